/-
  Parts of the proof, one behind the other: DeskEnter3, DeskEnter4, DeskBook, DeskHold, DeskPeak, DeskFind, DeskTick3.
-/
import Derived.Test.YtjfkfiffakbagaaGreatDoorL17
/-
  Package desk: enter, walked.
-/
namespace Go.Proofs.YtjfkfiffakbagaaGreatDoor
open Go.RowKit
open Desk (Ent St Ids kept booked bookE sumA Items ofB sameB Risen Mid EntOk endsB Inv)

/-- The call of Put on the desk's heap. -/
theorem dPut_any {w : World} {d : Nat} {r : Raw} {col : Nat → Option Col} (h : DK w d r col) (hh : Hp.Heap r.hl) (hl : r.hl.length ≤ 900) (g : EG) :
    Calls Tryz.prog 190 #[.pointer (some ⟨d, 5, none⟩), .int .i64 g.e.till, .int .i64 g.e.id, .pointer (some ⟨g.eb, 0, none⟩)] w fun e w' => e = .returned (.tuple #[]) ∧ ∃ (l' : List Hp.Hi) (col' : Nat → Option Col), Hp.Heap l' ∧ l'.Perm (r.hl ++ [hiOf g]) ∧ DK w' d { r with hl := l' } col' ∧ Step (fun c => c = .he ∨ c = .desk) w.heap.size col col' w w' := by
  obtain ⟨v, a1, a2⟩ := h.he
  refine (hPut_any d 5 v r.hl (hiOf g) w a1 hh hl).mono ?_
  rintro e w' ⟨rfl, l', p, h1, h2⟩
  obtain ⟨col', k1, k2⟩ := h.heap a2 p
  exact ⟨rfl, l', col', h1, h2, k1, k2⟩

set_option maxRecDepth 100000 in
set_option maxHeartbeats 8000000 in
theorem enter_took {w : World} {d : Nat} {s : St} {r : Raw} {col : Nat → Option Col} {g : EG} {B i : Nat} (h : Asks w B d s r col g i) (hgv : s.given < 60) (hk : g.e.kind ≠ 3) :
    Calls Tryz.prog 141 #[.pointer (some ⟨d, 0, none⟩), .pointer (some ⟨g.eb, 0, none⟩)] w fun e w' => ∃ v, e = .returned v ∧ EnterPost w B d col (enterD s g.e) v w' := by
  have hX : Below w.heap.size w (w.alloc zeroR) := (Below.refl _ _).alloc (Nat.le_refl _) _
  have YY := hidp h.numd
  have cg := (h.ds.dk.later hX).c1
  rw [h.ds.of.given] at cg
  have hgX := (h.en.off (G := []) (Off.of_below hX) (by simp) (by simp))
  have ck := hgX.k
  have ci := hgX.en.c0
  have fi := hgX.fz 0
  have ct := hgX.en.c1
  have hg0 := h.ds.inv.g0
  have hw1 : IntKind.i64.wrap (s.given + 1) = s.given + 1 := wrap_small (by omega) (by omega)
  have HN : Hid (r.hl.length ≤ 900) := by
    have h1 := h.ds.hl.len
    have h2 : r.eg.length = s.es.length := by rw [← h.ds.of.es]; simp
    have h3 := mid_len h.ds.mid
    show _ ≤ _
    omega
  have HH := hidp h
  have hkb : (g.e.kind == 3) = false := by simpa using hk
  have hm := h.ds.mid
  have hi := h.hi
  have hhold := mid_holds hm h.ds.of (e := (g.num (s.given + 1)).e) h.ok.sp h.ok.u1 hi h.name
  have hfit := mid_fit hm h.ds.of (h.num (s.given + 1)) hi
  have hroom := mid_room hm h.ds.of hi
  have hcome := (h.ds.of.comes h.ds.inv.tn (g := g.num (s.given + 1)) h.fresh hk h.ok.ri hi h.name h.tb (s.given + 1)).2
  have HT := hidp (And.intro hhold (And.intro hfit (And.intro hroom hcome)))
  clear h hX hgX hm hhold hfit hroom hcome
  go_enter Tryz.func141, Tryz.ntmps141
  go_upto_region 1 with fail
  change Code.wp _ _ _ _ (w.alloc zeroR)
  generalize w.alloc zeroR = X at *
  go_upto_region 6 with fail
  have cy : (X.setCell ⟨g.eb, 0, none⟩ (.int .i64 (s.given + 1))).cell? ⟨g.eb, 2, none⟩ = some (.pointer (some ⟨g.tb, 0, none⟩)) := YY.out.en.en.c1
  generalize X.setCell ⟨g.eb, 0, none⟩ (.int .i64 (s.given + 1)) = Y at YY cy ⊢
  clear cg ck ci fi ct
  cases hfit : Desk.fitsN s.ts s.es g.e.thing g.e.units g.e.spans with
  | false =>
    have HD : Hid (enterD s g.e = (s, Desk.Rep.error 8)) := by
      unfold enterD; rw [if_neg (by omega), if_pos ⟨hk, hfit⟩]; rfl
    have TA := hidp (dtake_no YY.out.dk i HH.out.hi YY.out.en HH.out.tb (by show col g.eb ≠ _; rw [HH.out.ce]; simp) (by show col g.B ≠ _; rw [HH.out.cb]; simp) HT.out.2.1 (by rw [HT.out.1]; exact hfit))
    clear hfit
    go_wp2_with fail
    refine TA.out.mono ?_
    rintro e w0 ⟨rfl, c0, q1, q2⟩
    have Q1 : Hid (Q7 w0 w.heap.size ∧ c0 w.heap.size = none) := ⟨YY.out.q7.later (q2.blockN YY.out.ql YY.out.qc YY.out.ql), q2.keepN YY.out.qc YY.out.ql⟩
    have P1 : Hid (DK w0 d r c0 ∧ Step anyS B col c0 w w0) := ⟨q1, YY.out.st.trans (q2.any (Nat.le_trans HH.out.hB YY.out.st.size))⟩
    clear q1 q2 TA cy
    go_wp2_with fail
    refine (refused_any 8 w0).mono ?_
    rintro e w1 ⟨rfl, hb⟩
    have hq := hb.block w.heap.size (World.block_lt_of_cell? _ _ Q1.out.1.q0)
    have HF : Hid (EnterPost w B d col (enterD s g.e) (repV 8 0 0 (.slice none 0 0) (.slice none 0 0) (.slice none 0 0) (.slice none 0 0)) (set7 w1 w.heap.size (.int .i64 8) (.int .i64 0) (.int .i64 0) (.slice none 0 0) (.slice none 0 0) (.slice none 0 0) (.slice none 0 0))) := by
      rw [HD.out]; exact enterPut (P1.out.1.later hb) HH.out.ds.of HH.out.ds.wl HH.out.ds.hl (P1.out.2.trans (Step.below hb)) HH.out.hB Q1.out.2 8 0 _ _ _ _ _ _ _
    obtain ⟨q0, q1, q2, q3, q4, q5, q6, fq⟩ := Q1.out.1.later hq
    simp only [repV]
    go_wp2_with fail
    exact bodyPost_ret (v := repV 8 0 0 (.slice none 0 0) (.slice none 0 0) (.slice none 0 0) (.slice none 0 0)) (by simp [results, Tryz.results141, go_sem, repV, q0, q1, q2, q3, q4, q5, q6]) rfl ⟨_, rfl, HF.out⟩
  | true =>
    have HD : Hid (enterD s g.e = Desk.joinD s g.e) := by
      unfold enterD; rw [if_neg (by omega), if_neg (by rw [hfit]; simp)]; rfl
    have TA := hidp (dtake_yes YY.out.dk i HH.out.hi YY.out.en HH.out.tb (by show col g.eb ≠ _; rw [HH.out.ce]; simp) (by show col g.B ≠ _; rw [HH.out.cb]; simp) HT.out.2.1 ⟨HT.out.2.2.1.1, HT.out.2.2.1.2, HT.out.2.2.2, risen_nodup HH.out.ok.ri⟩ (by rw [HT.out.1]; exact hfit))
    clear hfit
    go_wp2_with fail
    refine TA.out.mono ?_
    rintro e w0 ⟨rfl, c0, q1, q2⟩
    have TT : Hid (TL w w0 B d w.heap.size s r col g) := HH.out.took YY.out hk q1 q2
    clear q1 q2 TA cy c0
    by_cases hk1 : g.e.kind = 1
    · obtain ⟨r1, c1, tl⟩ := TT.out
      have c0 : w0.cell? ⟨g.eb, 0, none⟩ = some (.int .i64 (s.given + 1)) := tl.en.en.c0
      have d1 := tl.dk.c1
      have f1 := tl.dk.fz 1
      obtain ⟨m, s1, s2, w3, hrun, r2, c2, t2⟩ := tl.store HH.out
      have T2 := hidp t2
      clear tl t2
      go_upto_region 9 with fail
      generalize w0.setCell ⟨d, 1, none⟩ (.int .i64 (s.given + 1)) = T1 at s1 s2 hrun ⊢
      clear c0 d1 f1
      go_big_region
      clear hrun s1 s2
      obtain ⟨e1, e2, e3⟩ := T2.out.dk.en _ T2.out.mem
      have k0 : w3.cell? ⟨g.eb, 0, none⟩ = some (.int .i64 (s.given + 1)) := e1.en.c0
      have k1 : w3.cell? ⟨g.eb, 1, none⟩ = some (.int .i64 g.e.kind) := e1.k
      have k5 : w3.cell? ⟨g.eb, 5, none⟩ = some (.int .i64 g.e.till) := e1.u
      clear e1 e2 e3
      have hkb1 : (g.e.kind != 1) = false := by simpa using hk1
      have HF : Hid (EnterPost w B d col (enterD s g.e) (repV 0 0 (s.given + 1) (.slice none 0 0) (.slice none 0 0) (.slice none 0 0) (.slice none 0 0)) (set7 w3 w.heap.size (.int .i64 0) (.int .i64 0) (.int .i64 (s.given + 1)) (.slice none 0 0) (.slice none 0 0) (.slice none 0 0) (.slice none 0 0))) := by
        rw [HD.out]
        have X2 := T2.out
        refine enterPut X2.dk X2.of X2.wl ?_ X2.st HH.out.hB X2.qc 0 (s.given + 1) _ _ _ _ _ _ _
        have hh := HH.out.ds.hl.comes1 (g := g.num (s.given + 1)) hk1
        unfold Hl at hh ⊢
        rw [X2.eg, X2.hl]; exact hh
      obtain ⟨q0, q1, q2, q3, q4, q5, q6, fq⟩ := T2.out.q7
      go_wp2_with fail
      exact bodyPost_ret (v := repV 0 0 (s.given + 1) (.slice none 0 0) (.slice none 0 0) (.slice none 0 0) (.slice none 0 0)) (by simp [results, Tryz.results141, go_sem, repV, q0, q1, q2, q3, q4, q5, q6]) rfl ⟨_, rfl, HF.out⟩
    · obtain ⟨r1, c1, tl⟩ := TT.out
      have c0 : w0.cell? ⟨g.eb, 0, none⟩ = some (.int .i64 (s.given + 1)) := tl.en.en.c0
      have d1 := tl.dk.c1
      have f1 := tl.dk.fz 1
      obtain ⟨m, s1, s2, w3, hrun, r2, c2, t2⟩ := tl.store HH.out
      have T2 := hidp t2
      clear tl t2
      go_upto_region 9 with fail
      generalize w0.setCell ⟨d, 1, none⟩ (.int .i64 (s.given + 1)) = T1 at s1 s2 hrun ⊢
      clear c0 d1 f1
      go_big_region
      clear hrun s1 s2
      obtain ⟨e1, e2, e3⟩ := T2.out.dk.en _ T2.out.mem
      have k0 : w3.cell? ⟨g.eb, 0, none⟩ = some (.int .i64 (s.given + 1)) := e1.en.c0
      have k1 : w3.cell? ⟨g.eb, 1, none⟩ = some (.int .i64 g.e.kind) := e1.k
      have k5 : w3.cell? ⟨g.eb, 5, none⟩ = some (.int .i64 g.e.till) := e1.u
      clear e1 e2 e3
      have hkb1 : (g.e.kind != 1) = true := by simpa using hk1
      have PU := hidp (fun wx (k : Below w3.heap.size w3 wx) => dPut_any (T2.out.dk.later k) (by rw [T2.out.hl]; exact HH.out.ds.hl.1) (by rw [T2.out.hl]; exact HN.out) (g.num (s.given + 1)))
      go_upto_region 11 with fail
      go_region_held3 (fun w' => w'.cell? ⟨g.eb, 0, none⟩ = some (.int .i64 (s.given + 1)) ∧ w'.cell? ⟨g.eb, 5, none⟩ = some (.int .i64 g.e.till))
        (first
          | exact ⟨k0, k5⟩
          | exact ⟨((p3.en _ T2.out.mem).1).en.c0, ((p3.en _ T2.out.mem).1).u⟩)
        (first
          | (go_at_call 190; refine (PU.out _ (blwDrew w3)).mono ?_; rintro e w4 ⟨rfl, l', c3, p1, p2, p3, p4⟩))
      have k04 : w4.cell? ⟨g.eb, 0, none⟩ = some (.int .i64 (s.given + 1)) := ((p3.en _ T2.out.mem).1).en.c0
      have hq := p4.blockN T2.out.ql T2.out.qc T2.out.ql
      have HF : Hid (EnterPost w B d col (enterD s g.e) (repV 0 0 (s.given + 1) (.slice none 0 0) (.slice none 0 0) (.slice none 0 0) (.slice none 0 0)) (set7 w4 w.heap.size (.int .i64 0) (.int .i64 0) (.int .i64 (s.given + 1)) (.slice none 0 0) (.slice none 0 0) (.slice none 0 0) (.slice none 0 0))) := by
        rw [HD.out]
        have X2 := T2.out
        have o := X2.of
        refine enterPut p3 ⟨o.now, o.given, o.ts, o.es, o.th, o.tb⟩ X2.wl ?_ ((X2.st.trans (Step.below (blwDrew w3))).trans (p4.any (Nat.le_trans HH.out.hB X2.st.size))) HH.out.hB (p4.keepN X2.qc X2.ql) 0 (s.given + 1) _ _ _ _ _ _ _
        have hh := HH.out.ds.hl.comes (g := g.num (s.given + 1)) hk1 p1 (by rw [← X2.hl]; exact p2)
        unfold Hl at hh ⊢
        show _ ∧ List.Perm l' ((r2.eg.filter _).map _)
        rw [X2.eg]; exact hh
      clear p1 p2 p3 p4 PU k0 k1 k5
      obtain ⟨q0, q1, q2, q3, q4, q5, q6, fq⟩ := T2.out.q7.later hq
      go_wp2_with fail
      exact bodyPost_ret (v := repV 0 0 (s.given + 1) (.slice none 0 0) (.slice none 0 0) (.slice none 0 0) (.slice none 0 0)) (by simp [results, Tryz.results141, go_sem, repV, q0, q1, q2, q3, q4, q5, q6]) rfl ⟨_, rfl, HF.out⟩

end Go.Proofs.YtjfkfiffakbagaaGreatDoor


/-
  Package desk: enter, of one who waits; enter whole.
-/
namespace Go.Proofs.YtjfkfiffakbagaaGreatDoor
open Go.RowKit
open Desk (Ent St Ids kept booked bookE sumA Items ofB sameB Risen Mid EntOk endsB Inv)

theorem infoPE : (Tryz.prog.info? 191).map (fun i => (i.zero, i.size, i.bytes)) = some (some (.pointer none), 1, 8) := by kernel_rfl

set_option maxRecDepth 100000 in
set_option maxHeartbeats 8000000 in
theorem enter_wait {w : World} {d : Nat} {s : St} {r : Raw} {col : Nat → Option Col} {g : EG} {B i : Nat} (h : Asks w B d s r col g i) (hgv : s.given < 60) (hk : g.e.kind = 3) (hw6 : r.wl.length < 6) :
    Calls Tryz.prog 141 #[.pointer (some ⟨d, 0, none⟩), .pointer (some ⟨g.eb, 0, none⟩)] w fun e w' => ∃ v, e = .returned v ∧ EnterPost w B d col (enterD s g.e) v w' := by
  have hX : Below w.heap.size w (w.alloc zeroR) := (Below.refl _ _).alloc (Nat.le_refl _) _
  have YY := hidp h.numd
  have cg := (h.ds.dk.later hX).c1
  rw [h.ds.of.given] at cg
  have hgX := (h.en.off (G := []) (Off.of_below hX) (by simp) (by simp))
  have ck := hgX.k
  have ci := hgX.en.c0
  have fi := hgX.fz 0
  have ct := hgX.en.c1
  have hg0 := h.ds.inv.g0
  have hw1 : IntKind.i64.wrap (s.given + 1) = s.given + 1 := wrap_small (by omega) (by omega)
  have HN : Hid (r.hl.length ≤ 900) := by
    have h1 := h.ds.hl.len
    have h2 : r.eg.length = s.es.length := by rw [← h.ds.of.es]; simp
    have h3 := mid_len h.ds.mid
    show _ ≤ _
    omega
  have HH := hidp h
  obtain ⟨i0, hi0, hz0, hz1, hz2⟩ := info_parts infoPE
  obtain ⟨v4, c4, own4, hc4⟩ := h.numd.dk.wa
  have cX4 : (w.alloc zeroR).cell? ⟨d, 4, none⟩ = some v4 := by
    rw [← c4]; exact (World.cell?_setCell_other _ _ _ _ (by simp)).symm
  obtain ⟨a, cap, rfl⟩ := own_slice own4
  have hwn := h.ds.wl.waitN h.ds.of
  have fd4 := h.numd.dk.fz 4
  have O4 := hidp (And.intro own4 hc4)
  have hdl := World.block_lt_of_cell? _ _ c4
  have hdv : d ∉ (Value.slice a r.wl.length cap).ownBlock.toList := fun e => by have := hc4 _ (Option.mem_toList.1 e); rw [h.ds.dk.dc] at this; cases this
  rw [hk] at ck
  clear h hX hgX own4 hc4
  go_enter Tryz.func141, Tryz.ntmps141
  go_upto_region 1 with fail
  change Code.wp _ _ _ _ (w.alloc zeroR)
  generalize w.alloc zeroR = X at *
  have HD : Hid (enterD s g.e = Desk.joinD s g.e) := by
    unfold enterD; rw [if_neg (by omega), if_neg (by simp [hk])]; rfl
  go_upto_region 5 with fail
  generalize X.setCell ⟨g.eb, 0, none⟩ (.int .i64 (s.given + 1)) = Y at *
  clear cg ck ci fi ct cX4
  go_upto_region 8 with (first
    | (at_builtin; refine wpList_append_lies _ rfl _ _ 127 rfl 0 191 i0 _ 1 8 Tryz.underlying127 hi0 hz0 hz1 hz2 rfl (by decide) _ _ _ rfl (O4.out.1.alloc _) ⟨Y.heap.size, 0, none⟩ 1 1 [ptrB g.eb] rfl rfl (World.news_of_block (cs := #[ptrB g.eb]) (heapNew Y _)) (by simp [ptrB, Value.oneCell']) (by omega) (by unfold maxLen; omega) (by omega) (by simp) (Y.heap.size + 1) (by simp) ?_; intro g2 cap2 w1 hown hgrow hat hlt; have kk : Off ((Value.slice a r.wl.length cap).ownBlock.toList) Y w1 := Off.grown ((Off.refl _ Y).alloc _) hgrow (fun k hk => .inl (Option.mem_toList.2 hk)); have z1 := kk.cell hdv c4; have z2 := (kk.frozen (o := 4) hdv hdl).trans fd4; clear hgrow))
  have hat' : (Value.slice a r.wl.length cap).ownBlock = some g2 ∨ g2 = Y.heap.size + 1 := hat
  have SW := hidp (YY.out.dk.setWait (wl' := r.wl ++ [g.eb]) (v' := .slice (some ⟨g2, 0, none⟩) (r.wl.length + 1) cap2) O4.out.2 kk (by rw [List.length_append, List.map_append]; exact hown) (fun b hb => by
    have : g2 = b := by simpa [Value.ownBlock] using hb
    subst this
    rcases hat' with e | e
    · exact .inl e
    · exact .inr (by omega)))
  have TT : Hid (TL w (w1.setCell ⟨d, 4, none⟩ (.slice (some ⟨g2, 0, none⟩) (r.wl.length + 1) cap2)) B d w.heap.size s r col g) := by
    obtain ⟨c1, q1, q2⟩ := SW.out
    exact HH.out.waits YY.out hk q1 q2
  clear hown kk hat hat' z1 z2 SW O4 c4 fd4
  have hk1 : g.e.kind ≠ 1 := by omega
  clear hdv hdl
  generalize w1.setCell ⟨d, 4, none⟩ (.slice (some ⟨g2, 0, none⟩) (r.wl.length + 1) cap2) = w0 at TT ⊢
  obtain ⟨r1, c1, tl⟩ := TT.out
  have c0 : w0.cell? ⟨g.eb, 0, none⟩ = some (.int .i64 (s.given + 1)) := tl.en.en.c0
  have d1 := tl.dk.c1
  have f1 := tl.dk.fz 1
  obtain ⟨m, s1, s2, w3, hrun, r2, c2, t2⟩ := tl.store HH.out
  have T2 := hidp t2
  clear tl t2
  go_upto_region 9 with fail
  generalize w0.setCell ⟨d, 1, none⟩ (.int .i64 (s.given + 1)) = T1 at s1 s2 hrun ⊢
  clear c0 d1 f1
  go_big_region
  clear hrun s1 s2
  obtain ⟨e1, e2, e3⟩ := T2.out.dk.en _ T2.out.mem
  have k0 : w3.cell? ⟨g.eb, 0, none⟩ = some (.int .i64 (s.given + 1)) := e1.en.c0
  have k1 : w3.cell? ⟨g.eb, 1, none⟩ = some (.int .i64 g.e.kind) := e1.k
  have k5 : w3.cell? ⟨g.eb, 5, none⟩ = some (.int .i64 g.e.till) := e1.u
  clear e1 e2 e3
  have hkb1 : (g.e.kind != 1) = true := by simpa using hk1
  have PU := hidp (fun wx (k : Below w3.heap.size w3 wx) => dPut_any (T2.out.dk.later k) (by rw [T2.out.hl]; exact HH.out.ds.hl.1) (by rw [T2.out.hl]; exact HN.out) (g.num (s.given + 1)))
  go_upto_region 11 with fail
  go_region_held3 (fun w' => w'.cell? ⟨g.eb, 0, none⟩ = some (.int .i64 (s.given + 1)) ∧ w'.cell? ⟨g.eb, 5, none⟩ = some (.int .i64 g.e.till))
    (first
      | exact ⟨k0, k5⟩
      | exact ⟨((p3.en _ T2.out.mem).1).en.c0, ((p3.en _ T2.out.mem).1).u⟩)
    (first
      | (go_at_call 190; refine (PU.out _ (blwDrew w3)).mono ?_; rintro e w4 ⟨rfl, l', c3, p1, p2, p3, p4⟩))
  have k04 : w4.cell? ⟨g.eb, 0, none⟩ = some (.int .i64 (s.given + 1)) := ((p3.en _ T2.out.mem).1).en.c0
  have hq := p4.blockN T2.out.ql T2.out.qc T2.out.ql
  have HF : Hid (EnterPost w B d col (enterD s g.e) (repV 0 0 (s.given + 1) (.slice none 0 0) (.slice none 0 0) (.slice none 0 0) (.slice none 0 0)) (set7 w4 w.heap.size (.int .i64 0) (.int .i64 0) (.int .i64 (s.given + 1)) (.slice none 0 0) (.slice none 0 0) (.slice none 0 0) (.slice none 0 0))) := by
    rw [HD.out]
    have X2 := T2.out
    have o := X2.of
    refine enterPut p3 ⟨o.now, o.given, o.ts, o.es, o.th, o.tb⟩ X2.wl ?_ ((X2.st.trans (Step.below (blwDrew w3))).trans (p4.any (Nat.le_trans HH.out.hB X2.st.size))) HH.out.hB (p4.keepN X2.qc X2.ql) 0 (s.given + 1) _ _ _ _ _ _ _
    have hh := HH.out.ds.hl.comes (g := g.num (s.given + 1)) hk1 p1 (by rw [← X2.hl]; exact p2)
    unfold Hl at hh ⊢
    show _ ∧ List.Perm l' ((r2.eg.filter _).map _)
    rw [X2.eg]; exact hh
  clear p1 p2 p3 p4 PU k0 k1 k5
  obtain ⟨q0, q1, q2, q3, q4, q5, q6, fq⟩ := T2.out.q7.later hq
  go_wp2_with fail
  exact bodyPost_ret (v := repV 0 0 (s.given + 1) (.slice none 0 0) (.slice none 0 0) (.slice none 0 0) (.slice none 0 0)) (by simp [results, Tryz.results141, go_sem, repV, q0, q1, q2, q3, q4, q5, q6]) rfl ⟨_, rfl, HF.out⟩

theorem enter_any {w : World} {d : Nat} {s : St} {r : Raw} {col : Nat → Option Col} {g : EG} {B i : Nat} (h : Asks w B d s r col g i) :
    Calls Tryz.prog 141 #[.pointer (some ⟨d, 0, none⟩), .pointer (some ⟨g.eb, 0, none⟩)] w fun e w' => ∃ v, e = .returned v ∧ EnterPost w B d col (enterD s g.e) v w' := by
  by_cases hf : s.given = 60 ∨ g.e.kind = 3 ∧ Desk.waitN s.es = 6
  · exact enter_full h.ds h.en h.hB hf
  · have hg1 := h.ds.inv.g1
    have hwa := h.ds.inv.wa
    have hwn := h.ds.wl.waitN h.ds.of
    by_cases hk : g.e.kind = 3
    · exact enter_wait h (by omega) hk (by omega)
    · exact enter_took h (by omega) hk

end Go.Proofs.YtjfkfiffakbagaaGreatDoor


/-
  Package desk: book, enterFor, hold, wait.
-/
namespace Go.Proofs.YtjfkfiffakbagaaGreatDoor
open Go.RowKit
open Desk (Ent St Ids kept booked bookE sumA Items ofB sameB Risen Mid EntOk endsB Inv)

theorem does_enter_err {s : St} {k : Int} {name : ByteArray} {u fr til long : Int} (h : askErr s name u fr til ≠ 0) : Desk.doesD s (.enter k name u fr til long) = (s, Desk.Rep.error (askErr s name u fr til)) := by
  have e : Desk.enterErr s k name u fr til long = askErr s name u fr til := by
    unfold Desk.enterErr askErr at *
    by_cases h1 : Desk.askedN s.ts name u ≠ 0
    · rw [if_pos h1, if_pos h1]
    · rw [if_neg h1] at h ⊢
      rw [if_neg h1]
      by_cases h2 : til ≤ fr
      · rw [if_pos h2, if_pos (.inl h2)]
      · rw [if_neg h2] at h; omega
  simp only [Desk.doesD, e]
  rw [if_pos h]
theorem askErr_zero {s : St} {name : ByteArray} {u fr til : Int} (h : askErr s name u fr til = 0) : Desk.askedN s.ts name u = 0 ∧ fr < til := by
  unfold askErr at h
  by_cases h1 : Desk.askedN s.ts name u ≠ 0
  · rw [if_pos h1] at h; omega
  · rw [if_neg h1] at h
    by_cases h2 : til ≤ fr
    · rw [if_pos h2] at h; omega
    · omega
theorem does_enter_late {s : St} {k : Int} {name : ByteArray} {u fr til long : Int} (h : askErr s name u fr til = 0) (hl : 1048320 < s.now + long) : Desk.doesD s (.enter k name u fr til long) = (s, Desk.Rep.error 6) := by
  obtain ⟨h1, h2⟩ := askErr_zero h
  have e : Desk.enterErr s k name u fr til long = 6 := by
    unfold Desk.enterErr
    rw [if_neg (by omega), if_pos (.inr hl)]
  simp only [Desk.doesD, e]
  rw [if_pos (by omega)]
theorem does_enter {s : St} {k : Int} {name : ByteArray} {u fr til long : Int} (h : askErr s name u fr til = 0) (hl : s.now + long ≤ 1048320) : Desk.doesD s (.enter k name u fr til long) = enterD s (Desk.entOf s k name u fr til long) := by
  obtain ⟨h1, h2⟩ := askErr_zero h
  simp only [Desk.doesD]
  unfold Desk.enterErr enterD
  rw [if_neg (c := Desk.askedN s.ts name u ≠ 0) (by omega), if_neg (c := til ≤ fr ∨ 1048320 < s.now + long) (by omega)]
  have ek : (Desk.entOf s k name u fr til long).kind = k := rfl
  have et : (Desk.entOf s k name u fr til long).thing = name := rfl
  have eu : (Desk.entOf s k name u fr til long).units = u := rfl
  have es : (Desk.entOf s k name u fr til long).spans = [(fr, til)] := rfl
  rw [ek, et, eu, es]
  by_cases h3 : s.given = 60
  · simp [h3]
  · by_cases h4 : k = 3
    · by_cases h5 : Desk.waitN s.es = 6
      · simp [h3, h4, h5]
      · simp [h3, h4, h5]
    · cases Desk.fitsN s.ts s.es name u [(fr, til)] <;> simp [h3, h4]

/-- A new entry of one span, in two new blocks. -/
def newE (k : Int) (name : ByteArray) (u fr til un : Int) (N tb : Nat) : EG := ⟨⟨0, k, name, u, [(fr, til)], un⟩, N + 1, N, 1, tb⟩
theorem DSt.asks {w w1 : World} {d : Nat} {s : St} {r : Raw} {col : Nat → Option Col} (h : DSt w d s r col) (kb : Below w.heap.size w w1) {k : Int} {name : ByteArray} {u fr til un : Int} {i : Nat} (hi : i < r.tg.length) (hname : r.tg[i].name = name) (ok : EntOk s.now ⟨0, k, name, u, [(fr, til)], un⟩) :
    Asks ((w1.alloc (.cells #[.int .i64 fr, .int .i64 til] 60)).alloc (.cells #[.int .i64 0, .int .i64 k, .pointer (some ⟨r.tg[i].tb, 0, none⟩), .int .i64 u, .slice (some ⟨w1.heap.size, 0, none⟩) 1 1, .int .i64 un] 194)) w1.heap.size d s r col (newE k name u fr til un w1.heap.size r.tg[i].tb) i := by
  have kz : Below w1.heap.size w1 ((w1.alloc (.cells #[.int .i64 fr, .int .i64 til] 60)).alloc (.cells #[.int .i64 0, .int .i64 k, .pointer (some ⟨r.tg[i].tb, 0, none⟩), .int .i64 u, .slice (some ⟨w1.heap.size, 0, none⟩) 1 1, .int .i64 un] 194)) := ((Below.refl _ _).alloc (Nat.le_refl _) _).alloc (by simp) _
  have d1 := h.dk.later kb
  have eb : ((w1.alloc (.cells #[.int .i64 fr, .int .i64 til] 60)).alloc (.cells #[.int .i64 0, .int .i64 k, .pointer (some ⟨r.tg[i].tb, 0, none⟩), .int .i64 u, .slice (some ⟨w1.heap.size, 0, none⟩) 1 1, .int .i64 un] 194)).heap[w1.heap.size + 1]? = some (.cells #[.int .i64 0, .int .i64 k, .pointer (some ⟨r.tg[i].tb, 0, none⟩), .int .i64 u, .slice (some ⟨w1.heap.size, 0, none⟩) 1 1, .int .i64 un] 194 (0, 0)) := by
    have := heapNew (w1.alloc (.cells #[.int .i64 fr, .int .i64 til] 60)) (.cells #[.int .i64 0, .int .i64 k, .pointer (some ⟨r.tg[i].tb, 0, none⟩), .int .i64 u, .slice (some ⟨w1.heap.size, 0, none⟩) 1 1, .int .i64 un] 194)
    rwa [World.size_alloc] at this
  have sb : ((w1.alloc (.cells #[.int .i64 fr, .int .i64 til] 60)).alloc (.cells #[.int .i64 0, .int .i64 k, .pointer (some ⟨r.tg[i].tb, 0, none⟩), .int .i64 u, .slice (some ⟨w1.heap.size, 0, none⟩) 1 1, .int .i64 un] 194)).heap[w1.heap.size]? = some (.cells #[.int .i64 fr, .int .i64 til] 60 (0, 0)) :=
    (Below.heap_alloc _ _ _ (by simp)).trans (heapNew w1 _)
  have hs : ((w1.alloc (.cells #[.int .i64 fr, .int .i64 til] 60)).alloc (.cells #[.int .i64 0, .int .i64 k, .pointer (some ⟨r.tg[i].tb, 0, none⟩), .int .i64 u, .slice (some ⟨w1.heap.size, 0, none⟩) 1 1, .int .i64 un] 194)).heap.size = w1.heap.size + 2 := by simp
  generalize (w1.alloc (.cells #[.int .i64 fr, .int .i64 til] 60)).alloc (.cells #[.int .i64 0, .int .i64 k, .pointer (some ⟨r.tg[i].tb, 0, none⟩), .int .i64 u, .slice (some ⟨w1.heap.size, 0, none⟩) 1 1, .int .i64 un] 194) = Z at *
  refine ⟨⟨d1.later kz, h.of, h.wl, h.hl, h.inv⟩, ⟨⟨?_, ?_, ?_, ?_, fun j hj => ?_, ?_⟩, ?_, ?_, fun o => frozen_of_row _ _ _ _ _ eb, ⟨_, eb⟩⟩, d1.none (Nat.le_succ _), d1.none (Nat.le_refl _), Nat.le_succ _, Nat.le_refl _, (by show w1.heap.size + 1 ≠ w1.heap.size; omega), kz.size, hi, hname, rfl, ok⟩
  · show Z.cell? ⟨w1.heap.size + 1, 0, none⟩ = _
    simp only [World.cell?, eb]; rfl
  · show Z.cell? ⟨w1.heap.size + 1, 2, none⟩ = _
    simp only [World.cell?, eb]; rfl
  · show Z.cell? ⟨w1.heap.size + 1, 3, none⟩ = _
    simp only [World.cell?, eb]; rfl
  · show Z.cell? ⟨w1.heap.size + 1, 4, none⟩ = _
    simp only [World.cell?, eb]; rfl
  · have hj0 : j = 0 := by simp [newE] at hj; omega
    subst hj0
    constructor
    · show Z.cell? ⟨w1.heap.size, 0, none⟩ = _
      simp only [World.cell?, sb]; rfl
    · show Z.cell? ⟨w1.heap.size, 1, none⟩ = _
      simp only [World.cell?, sb]; rfl
  · show w1.heap.size < _
    omega
  · show Z.cell? ⟨w1.heap.size + 1, 1, none⟩ = _
    simp only [World.cell?, eb]; rfl
  · show Z.cell? ⟨w1.heap.size + 1, 5, none⟩ = _
    simp only [World.cell?, eb]; rfl

/-- What enter answered is put into the block of the answer. -/
theorem EnterPost.ans {w Z w2 : World} {B d Q : Nat} {col : Nat → Option Col} {q : St × Desk.Rep} {v : Value} (h : EnterPost Z B d col q v w2) (st : Step anyS w.heap.size col col w Z) (hB : w.heap.size ≤ B) (hQ : w.heap.size ≤ Q) (hQB : Q < B) (hc : col Q = none) (h7 : Q7 Z Q) :
    ∃ er n : Int, v = repV er 0 n (.slice none 0 0) (.slice none 0 0) (.slice none 0 0) (.slice none 0 0) ∧ Q7 w2 Q ∧ ∀ a b c e f g i, AnsPost w d col q (repV er 0 n (.slice none 0 0) (.slice none 0 0) (.slice none 0 0) (.slice none 0 0)) (set7 w2 Q a b c e f g i) := by
  obtain ⟨er, n, r', col', rfl, e2, k1, k2, k3, k4, k5⟩ := h
  have hl := World.block_lt_of_cell? _ _ h7.q0
  refine ⟨er, n, rfl, h7.later (k5.blockN hl hc hQB), fun a b c e f g i => ?_⟩
  have : q = (q.1, ⟨er, 0, n, [], [], [], []⟩) := by rw [← e2]
  rw [this]
  exact ansPlain k1 k2 k3 k4 (st.trans (k5.any hB)) hQ (k5.keepN hc hQB) er n a b c e f g i

set_option maxRecDepth 100000 in
set_option maxHeartbeats 2000000 in
theorem book_any {w : World} {d : Nat} {s : St} {r : Raw} {col : Nat → Option Col} (h : DSt w d s r col) (name : ByteArray) (hn : name.size ≤ 1000) (u fr til : Int) (hl : Desk.LineOk (.enter 1 name u fr til 0)) :
    Calls Tryz.prog 92 #[.pointer (some ⟨d, 0, none⟩), .agg #[.string name, .int .i64 u, .int .i64 fr, .int .i64 til]] w fun e w' => ∃ v, e = .returned v ∧ AnsPost w d col (Desk.doesD s (.enter 1 name u fr til 0)) v w' := by
  obtain ⟨hX, hXQ⟩ := two_more (w := w) (.cells #[.string name, .int .i64 u, .int .i64 fr, .int .i64 til] 148)
  have AK := hidp (asked_any (h.dk.later hX) h.of h.mid name hn u fr til)
  have HH := hidp h
  have HX := hidp (And.intro hX hXQ)
  have xa : ((w.alloc (.cells #[.string name, .int .i64 u, .int .i64 fr, .int .i64 til] 148)).alloc zeroR).cell? ⟨w.heap.size, 0, none⟩ = some (.string name) := by simp [zeroR]
  have xb : ((w.alloc (.cells #[.string name, .int .i64 u, .int .i64 fr, .int .i64 til] 148)).alloc zeroR).cell? ⟨w.heap.size, 1, none⟩ = some (.int .i64 u) := by simp [zeroR]
  have xc : ((w.alloc (.cells #[.string name, .int .i64 u, .int .i64 fr, .int .i64 til] 148)).alloc zeroR).cell? ⟨w.heap.size, 2, none⟩ = some (.int .i64 fr) := by simp [zeroR]
  have xd : ((w.alloc (.cells #[.string name, .int .i64 u, .int .i64 fr, .int .i64 til] 148)).alloc zeroR).cell? ⟨w.heap.size, 3, none⟩ = some (.int .i64 til) := by simp [zeroR]
  have hNX : w.heap.size + 1 < ((w.alloc (.cells #[.string name, .int .i64 u, .int .i64 fr, .int .i64 til] 148)).alloc zeroR).heap.size := by simp
  clear h hX hXQ
  go_enter Tryz.func92, Tryz.ntmps92
  go_upto_region 1 with fail
  change Code.wp _ _ _ _ ((w.alloc (.cells #[.string name, .int .i64 u, .int .i64 fr, .int .i64 til] 148)).alloc zeroR)
  generalize (w.alloc (.cells #[.string name, .int .i64 u, .int .i64 fr, .int .i64 til] 148)).alloc zeroR = X at *
  go_wp2_with fail
  refine AK.out.mono ?_
  rintro e w1 ⟨hp, hb⟩
  have BX : Hid (Below w.heap.size w w1) := HX.out.1.trans (hb.mono HX.out.1.size)
  have QX : Hid (Q7 w1 (w.heap.size + 1)) := (Q7.of HX.out.2).later (hb.block _ hNX)
  rcases hp with ⟨h1, rfl⟩ | ⟨h1, i, hi, e1, e2, rfl⟩
  · have HD := hidp (does_enter_err (k := 1) (long := 0) h1)
    generalize askErr s name u fr til = er at *
    have hb1 : (er != 0) = true := by simpa using h1
    clear h1 AK HX hb xa xb xc xd
    go_wp2_with fail
    refine (refused_any er w1).mono ?_
    rintro e w2 ⟨rfl, hb2⟩
    have hq := hb2.block (w.heap.size + 1) (World.block_lt_of_cell? _ _ QX.out.q0)
    have HF : Hid (AnsPost w d col (Desk.doesD s (.enter 1 name u fr til 0)) (repV er 0 0 (.slice none 0 0) (.slice none 0 0) (.slice none 0 0) (.slice none 0 0)) (set7 w2 (w.heap.size + 1) (.int .i64 er) (.int .i64 0) (.int .i64 0) (.slice none 0 0) (.slice none 0 0) (.slice none 0 0) (.slice none 0 0))) := by
      rw [HD.out]; exact HH.out.said (BX.out.trans (hb2.mono BX.out.size)) (by omega) er 0 _ _ _ _ _ _ _
    obtain ⟨q0, q1, q2, q3, q4, q5, q6, fq⟩ := QX.out.later hq
    simp only [repV]
    go_wp2_with fail
    exact bodyPost_ret (v := repV er 0 0 (.slice none 0 0) (.slice none 0 0) (.slice none 0 0) (.slice none 0 0)) (by simp [results, Tryz.results92, go_sem, repV, q0, q1, q2, q3, q4, q5, q6]) rfl ⟨_, rfl, HF.out⟩
  · have HD := hidp (does_enter (k := 1) (long := 0) h1 (by have := HH.out.inv.n1; omega))
    have y1 := (World.cell?_of_block (w := X) (a := ⟨w.heap.size, 1, none⟩) (hb.block w.heap.size (by omega))).trans xb
    have y2 := (World.cell?_of_block (w := X) (a := ⟨w.heap.size, 2, none⟩) (hb.block w.heap.size (by omega))).trans xc
    have y3 := (World.cell?_of_block (w := X) (a := ⟨w.heap.size, 3, none⟩) (hb.block w.heap.size (by omega))).trans xd
    have EN := hidp (enter_any (HH.out.asks BX.out (k := 1) (u := u) (fr := fr) (til := til) (un := 0) hi e1 ⟨hl.2.1, hl.2.2.1, (by show 1 ≤ 40; omega), (by simp), (by intro q hq; have : q = (fr, til) := List.mem_singleton.1 hq; subst this; have := (askErr_zero h1).2; exact ⟨hl.2.2.2.1, this, hl.2.2.2.2.2.2⟩), List.pairwise_singleton _ _, .inl ⟨rfl, rfl⟩⟩))
    have AL : Hid (Below w1.heap.size w1 ((w1.alloc (.cells #[.int .i64 fr, .int .i64 til] 60)).alloc (.cells #[.int .i64 0, .int .i64 1, .pointer (some ⟨r.tg[i].tb, 0, none⟩), .int .i64 u, .slice (some ⟨w1.heap.size, 0, none⟩) 1 1, .int .i64 0] 194))) := ((Below.refl _ _).alloc (Nat.le_refl _) _).alloc (by simp) _
    have QL : Hid (w.heap.size + 1 < w1.heap.size) := World.block_lt_of_cell? _ _ QX.out.q0
    clear h1 AK HX hb xa xb xc xd e1 e2
    go_wp2_with fail
    refine EN.out.mono ?_
    rintro e w2 ⟨v, rfl, ep⟩
    obtain ⟨er, n, rfl, q7, hf⟩ := ep.ans (Q := (w.heap.size + 1)) (Step.below (BX.out.trans (AL.out.mono BX.out.size))) BX.out.size (by omega) QL.out (HH.out.dk.none (by omega)) (QX.out.later (AL.out.block _ QL.out))
    have HF : Hid (AnsPost w d col (Desk.doesD s (.enter 1 name u fr til 0)) (repV er 0 n (.slice none 0 0) (.slice none 0 0) (.slice none 0 0) (.slice none 0 0)) (set7 w2 (w.heap.size + 1) (.int .i64 er) (.int .i64 0) (.int .i64 n) (.slice none 0 0) (.slice none 0 0) (.slice none 0 0) (.slice none 0 0))) := by
      rw [HD.out]; exact hf _ _ _ _ _ _ _
    clear ep hf EN
    obtain ⟨q0, q1, q2, q3, q4, q5, q6, fq⟩ := q7
    simp only [repV]
    go_wp2_with fail
    exact bodyPost_ret (v := repV er 0 n (.slice none 0 0) (.slice none 0 0) (.slice none 0 0) (.slice none 0 0)) (by simp [results, Tryz.results92, go_sem, repV, q0, q1, q2, q3, q4, q5, q6]) rfl ⟨_, rfl, HF.out⟩

end Go.Proofs.YtjfkfiffakbagaaGreatDoor


/-
  Package desk: enterFor, hold, wait; an answer that is handed on.
-/
namespace Go.Proofs.YtjfkfiffakbagaaGreatDoor
open Go.RowKit
open Desk (Ent St Ids kept booked bookE sumA Items ofB sameB Risen Mid EntOk endsB Inv)

set_option maxRecDepth 100000 in
set_option maxHeartbeats 2000000 in
theorem enterFor_any {w : World} {d : Nat} {s : St} {r : Raw} {col : Nat → Option Col} (h : DSt w d s r col) (k : Int) (hk : k = 2 ∨ k = 3) (name : ByteArray) (hn : name.size ≤ 1000) (u fr til long : Int) (hl : Desk.LineOk (.enter k name u fr til long)) :
    Calls Tryz.prog 142 #[.pointer (some ⟨d, 0, none⟩), .int .i64 k, .agg #[.string name, .int .i64 u, .int .i64 fr, .int .i64 til], .int .i64 long] w fun e w' => ∃ v, e = .returned v ∧ AnsPost w d col (Desk.doesD s (.enter k name u fr til long)) v w' := by
  obtain ⟨hX, hXQ⟩ := two_more (w := w) (.cells #[.string name, .int .i64 u, .int .i64 fr, .int .i64 til] 145)
  have x0 : ((w.alloc (.cells #[.string name, .int .i64 u, .int .i64 fr, .int .i64 til] 145)).alloc zeroR).cell? ⟨w.heap.size, 0, none⟩ = some (.string name) := by simp [zeroR]
  have x1 : ((w.alloc (.cells #[.string name, .int .i64 u, .int .i64 fr, .int .i64 til] 145)).alloc zeroR).cell? ⟨w.heap.size, 1, none⟩ = some (.int .i64 u) := by simp [zeroR]
  have x2 : ((w.alloc (.cells #[.string name, .int .i64 u, .int .i64 fr, .int .i64 til] 145)).alloc zeroR).cell? ⟨w.heap.size, 2, none⟩ = some (.int .i64 fr) := by simp [zeroR]
  have x3 : ((w.alloc (.cells #[.string name, .int .i64 u, .int .i64 fr, .int .i64 til] 145)).alloc zeroR).cell? ⟨w.heap.size, 3, none⟩ = some (.int .i64 til) := by simp [zeroR]
  have hNX : w.heap.size + 1 < ((w.alloc (.cells #[.string name, .int .i64 u, .int .i64 fr, .int .i64 til] 145)).alloc zeroR).heap.size := by simp
  have AK := hidp (asked_any (h.dk.later hX) h.of h.mid name hn u fr til)
  have HH := hidp h
  have HX := hidp (And.intro hX hXQ)
  clear h hX hXQ
  go_enter Tryz.func142, Tryz.ntmps142
  go_upto_region 1 with fail
  change Code.wp _ _ _ _ ((w.alloc (.cells #[.string name, .int .i64 u, .int .i64 fr, .int .i64 til] 145)).alloc zeroR)
  generalize (w.alloc (.cells #[.string name, .int .i64 u, .int .i64 fr, .int .i64 til] 145)).alloc zeroR = X at *
  go_wp2_with fail
  refine AK.out.mono ?_
  rintro e w1 ⟨hp, hb⟩
  have BX : Hid (Below w.heap.size w w1) := HX.out.1.trans (hb.mono HX.out.1.size)
  have QX : Hid (Q7 w1 (w.heap.size + 1)) := (Q7.of HX.out.2).later (hb.block _ hNX)
  have hlo : 1 ≤ long ∧ long ≤ 1048320 := by
    rcases hl.1 with ⟨e, _⟩ | ⟨_, e⟩
    · omega
    · exact e
  rcases hp with ⟨h1, rfl⟩ | ⟨h1, i, hi, e1, e2, rfl⟩
  · have HD := hidp (does_enter_err (k := k) (long := long) h1)
    generalize askErr s name u fr til = er at *
    have hb1 : (er != 0) = true := by simpa using h1
    clear h1 AK HX hb x0 x1 x2 x3
    go_wp2_with fail
    refine (refused_any er w1).mono ?_
    rintro e w2 ⟨rfl, hb2⟩
    have hq := hb2.block (w.heap.size + 1) (World.block_lt_of_cell? _ _ QX.out.q0)
    have HF : Hid (AnsPost w d col (Desk.doesD s (.enter k name u fr til long)) (repV er 0 0 (.slice none 0 0) (.slice none 0 0) (.slice none 0 0) (.slice none 0 0)) (set7 w2 (w.heap.size + 1) (.int .i64 er) (.int .i64 0) (.int .i64 0) (.slice none 0 0) (.slice none 0 0) (.slice none 0 0) (.slice none 0 0))) := by
      rw [HD.out]; exact HH.out.said (BX.out.trans (hb2.mono BX.out.size)) (by omega) er 0 _ _ _ _ _ _ _
    obtain ⟨q0, q1, q2, q3, q4, q5, q6, fq⟩ := QX.out.later hq
    simp only [repV]
    go_wp2_with fail
    exact bodyPost_ret (v := repV er 0 0 (.slice none 0 0) (.slice none 0 0) (.slice none 0 0) (.slice none 0 0)) (by simp [results, Tryz.results142, go_sem, repV, q0, q1, q2, q3, q4, q5, q6]) rfl ⟨_, rfl, HF.out⟩
  · have cn := (HH.out.dk.later BX.out).c0
    rw [HH.out.of.now] at cn
    have h0 := HH.out.inv.n0
    have h9 := HH.out.inv.n1
    have hw1 : IntKind.i64.wrap (s.now + long) = s.now + long := wrap_small (by omega) (by omega)
    by_cases hlate : 1048320 < s.now + long
    · have HD := hidp (does_enter_late (k := k) (long := long) h1 hlate)
      clear h1 AK HX hb x0 x1 x2 x3 e1 e2
      go_wp2_with fail
      refine (refused_any 6 w1).mono ?_
      rintro e w2 ⟨rfl, hb2⟩
      have hq := hb2.block (w.heap.size + 1) (World.block_lt_of_cell? _ _ QX.out.q0)
      have HF : Hid (AnsPost w d col (Desk.doesD s (.enter k name u fr til long)) (repV 6 0 0 (.slice none 0 0) (.slice none 0 0) (.slice none 0 0) (.slice none 0 0)) (set7 w2 (w.heap.size + 1) (.int .i64 6) (.int .i64 0) (.int .i64 0) (.slice none 0 0) (.slice none 0 0) (.slice none 0 0) (.slice none 0 0))) := by
        rw [HD.out]; exact HH.out.said (BX.out.trans (hb2.mono BX.out.size)) (by omega) 6 0 _ _ _ _ _ _ _
      obtain ⟨q0, q1, q2, q3, q4, q5, q6, fq⟩ := QX.out.later hq
      simp only [repV]
      go_wp2_with fail
      exact bodyPost_ret (v := repV 6 0 0 (.slice none 0 0) (.slice none 0 0) (.slice none 0 0) (.slice none 0 0)) (by simp [results, Tryz.results142, go_sem, repV, q0, q1, q2, q3, q4, q5, q6]) rfl ⟨_, rfl, HF.out⟩
    · have HD : Hid (Desk.doesD s (.enter k name u fr til long) = enterD s ⟨0, k, name, u, [(fr, til)], s.now + long⟩) := by
        rw [Hid, does_enter (k := k) (long := long) h1 (by omega)]
        unfold Desk.entOf
        rw [if_neg (by omega)]
      have y1 := (World.cell?_of_block (w := X) (a := ⟨w.heap.size, 1, none⟩) (hb.block w.heap.size (by omega))).trans x1
      have y2 := (World.cell?_of_block (w := X) (a := ⟨w.heap.size, 2, none⟩) (hb.block w.heap.size (by omega))).trans x2
      have y3 := (World.cell?_of_block (w := X) (a := ⟨w.heap.size, 3, none⟩) (hb.block w.heap.size (by omega))).trans x3
      have EN := hidp (enter_any (HH.out.asks BX.out (k := k) (u := u) (fr := fr) (til := til) (un := s.now + long) hi e1 ⟨hl.2.1, hl.2.2.1, (by show 1 ≤ 40; omega), (by simp), (by intro q hq; have : q = (fr, til) := List.mem_singleton.1 hq; subst this; have := (askErr_zero h1).2; exact ⟨hl.2.2.2.1, this, hl.2.2.2.2.2.2⟩), List.pairwise_singleton _ _, .inr ⟨hk, (by show s.now < s.now + long; omega), (by show s.now + long ≤ 1048320; omega), rfl⟩⟩))
      have AL : Hid (Below w1.heap.size w1 ((w1.alloc (.cells #[.int .i64 fr, .int .i64 til] 60)).alloc (.cells #[.int .i64 0, .int .i64 k, .pointer (some ⟨r.tg[i].tb, 0, none⟩), .int .i64 u, .slice (some ⟨w1.heap.size, 0, none⟩) 1 1, .int .i64 (s.now + long)] 194))) := ((Below.refl _ _).alloc (Nat.le_refl _) _).alloc (by simp) _
      have QL : Hid (w.heap.size + 1 < w1.heap.size) := World.block_lt_of_cell? _ _ QX.out.q0
      clear h1 AK HX hb x0 x1 x2 x3 e1 e2
      go_wp2_with fail
      refine EN.out.mono ?_
      rintro e w2 ⟨v, rfl, ep⟩
      obtain ⟨er, n, rfl, q7, hf⟩ := ep.ans (Q := (w.heap.size + 1)) (Step.below (BX.out.trans (AL.out.mono BX.out.size))) BX.out.size (by omega) QL.out (HH.out.dk.none (by omega)) (QX.out.later (AL.out.block _ QL.out))
      have HF : Hid (AnsPost w d col (Desk.doesD s (.enter k name u fr til long)) (repV er 0 n (.slice none 0 0) (.slice none 0 0) (.slice none 0 0) (.slice none 0 0)) (set7 w2 (w.heap.size + 1) (.int .i64 er) (.int .i64 0) (.int .i64 n) (.slice none 0 0) (.slice none 0 0) (.slice none 0 0) (.slice none 0 0))) := by
        rw [HD.out]; exact hf _ _ _ _ _ _ _
      clear ep hf EN
      obtain ⟨q0, q1, q2, q3, q4, q5, q6, fq⟩ := q7
      simp only [repV]
      go_wp2_with fail
      exact bodyPost_ret (v := repV er 0 n (.slice none 0 0) (.slice none 0 0) (.slice none 0 0) (.slice none 0 0)) (by simp [results, Tryz.results142, go_sem, repV, q0, q1, q2, q3, q4, q5, q6]) rfl ⟨_, rfl, HF.out⟩

set_option maxRecDepth 100000 in
set_option maxHeartbeats 2000000 in
theorem hold_any {w : World} {d : Nat} {s : St} {r : Raw} {col : Nat → Option Col} (h : DSt w d s r col) (name : ByteArray) (hn : name.size ≤ 1000) (u fr til long : Int) (hl : Desk.LineOk (.enter 2 name u fr til long)) :
    Calls Tryz.prog 93 #[.pointer (some ⟨d, 0, none⟩), .agg #[.string name, .int .i64 u, .int .i64 fr, .int .i64 til, .int .i64 long]] w fun e w' => ∃ v, e = .returned v ∧ AnsPost w d col (Desk.doesD s (.enter 2 name u fr til long)) v w' := by
  obtain ⟨hX, hXQ⟩ := two_more (w := w) (.cells #[.string name, .int .i64 u, .int .i64 fr, .int .i64 til, .int .i64 long] 150)
  have x0 : ((w.alloc (.cells #[.string name, .int .i64 u, .int .i64 fr, .int .i64 til, .int .i64 long] 150)).alloc zeroR).cell? ⟨w.heap.size, 0, none⟩ = some (.string name) := by simp [zeroR]
  have x1 : ((w.alloc (.cells #[.string name, .int .i64 u, .int .i64 fr, .int .i64 til, .int .i64 long] 150)).alloc zeroR).cell? ⟨w.heap.size, 1, none⟩ = some (.int .i64 u) := by simp [zeroR]
  have x2 : ((w.alloc (.cells #[.string name, .int .i64 u, .int .i64 fr, .int .i64 til, .int .i64 long] 150)).alloc zeroR).cell? ⟨w.heap.size, 2, none⟩ = some (.int .i64 fr) := by simp [zeroR]
  have x3 : ((w.alloc (.cells #[.string name, .int .i64 u, .int .i64 fr, .int .i64 til, .int .i64 long] 150)).alloc zeroR).cell? ⟨w.heap.size, 3, none⟩ = some (.int .i64 til) := by simp [zeroR]
  have x4 : ((w.alloc (.cells #[.string name, .int .i64 u, .int .i64 fr, .int .i64 til, .int .i64 long] 150)).alloc zeroR).cell? ⟨w.heap.size, 4, none⟩ = some (.int .i64 long) := by simp [zeroR]
  have hNX : w.heap.size + 1 < ((w.alloc (.cells #[.string name, .int .i64 u, .int .i64 fr, .int .i64 til, .int .i64 long] 150)).alloc zeroR).heap.size := by simp
  have EF := hidp (enterFor_any (w := ((w.alloc (.cells #[.string name, .int .i64 u, .int .i64 fr, .int .i64 til, .int .i64 long] 150)).alloc zeroR)) ⟨h.dk.later hX, h.of, h.wl, h.hl, h.inv⟩ 2 (by omega) name hn u fr til long hl)
  have HH := hidp h
  have HX := hidp (And.intro hX hXQ)
  clear h hX hXQ
  go_enter Tryz.func93, Tryz.ntmps93
  go_upto_region 1 with fail
  change Code.wp _ _ _ _ ((w.alloc (.cells #[.string name, .int .i64 u, .int .i64 fr, .int .i64 til, .int .i64 long] 150)).alloc zeroR)
  generalize (w.alloc (.cells #[.string name, .int .i64 u, .int .i64 fr, .int .i64 til, .int .i64 long] 150)).alloc zeroR = X at *
  go_wp2_with fail
  refine EF.out.mono ?_
  rintro e w2 ⟨v, rfl, ep⟩
  obtain ⟨er, at_, n, a1, a2, a3, a4, n1, n2, n3, n4, c1, c2, c3, c4, rfl, q7, hf⟩ := ep.up HX.out.1 (Q := w.heap.size + 1) (by omega) hNX (HH.out.dk.none (by omega)) (Q7.of HX.out.2)
  have HF := hidp (hf (.int .i64 er) (.int .i64 at_) (.int .i64 n) (.slice a1 n1 c1) (.slice a2 n2 c2) (.slice a3 n3 c3) (.slice a4 n4 c4))
  clear ep hf EF x0 x1 x2 x3 x4
  obtain ⟨q0, q1, q2, q3, q4, q5, q6, fq⟩ := q7
  simp only [repV]
  go_wp2_with fail
  exact bodyPost_ret (v := repV er at_ n (.slice a1 n1 c1) (.slice a2 n2 c2) (.slice a3 n3 c3) (.slice a4 n4 c4)) (by simp [results, Tryz.results93, go_sem, repV, q0, q1, q2, q3, q4, q5, q6]) rfl ⟨_, rfl, HF.out⟩

set_option maxRecDepth 100000 in
set_option maxHeartbeats 2000000 in
theorem wait_any {w : World} {d : Nat} {s : St} {r : Raw} {col : Nat → Option Col} (h : DSt w d s r col) (name : ByteArray) (hn : name.size ≤ 1000) (u fr til long : Int) (hl : Desk.LineOk (.enter 3 name u fr til long)) :
    Calls Tryz.prog 94 #[.pointer (some ⟨d, 0, none⟩), .agg #[.string name, .int .i64 u, .int .i64 fr, .int .i64 til, .int .i64 long]] w fun e w' => ∃ v, e = .returned v ∧ AnsPost w d col (Desk.doesD s (.enter 3 name u fr til long)) v w' := by
  obtain ⟨hX, hXQ⟩ := two_more (w := w) (.cells #[.string name, .int .i64 u, .int .i64 fr, .int .i64 til, .int .i64 long] 151)
  have x0 : ((w.alloc (.cells #[.string name, .int .i64 u, .int .i64 fr, .int .i64 til, .int .i64 long] 151)).alloc zeroR).cell? ⟨w.heap.size, 0, none⟩ = some (.string name) := by simp [zeroR]
  have x1 : ((w.alloc (.cells #[.string name, .int .i64 u, .int .i64 fr, .int .i64 til, .int .i64 long] 151)).alloc zeroR).cell? ⟨w.heap.size, 1, none⟩ = some (.int .i64 u) := by simp [zeroR]
  have x2 : ((w.alloc (.cells #[.string name, .int .i64 u, .int .i64 fr, .int .i64 til, .int .i64 long] 151)).alloc zeroR).cell? ⟨w.heap.size, 2, none⟩ = some (.int .i64 fr) := by simp [zeroR]
  have x3 : ((w.alloc (.cells #[.string name, .int .i64 u, .int .i64 fr, .int .i64 til, .int .i64 long] 151)).alloc zeroR).cell? ⟨w.heap.size, 3, none⟩ = some (.int .i64 til) := by simp [zeroR]
  have x4 : ((w.alloc (.cells #[.string name, .int .i64 u, .int .i64 fr, .int .i64 til, .int .i64 long] 151)).alloc zeroR).cell? ⟨w.heap.size, 4, none⟩ = some (.int .i64 long) := by simp [zeroR]
  have hNX : w.heap.size + 1 < ((w.alloc (.cells #[.string name, .int .i64 u, .int .i64 fr, .int .i64 til, .int .i64 long] 151)).alloc zeroR).heap.size := by simp
  have EF := hidp (enterFor_any (w := ((w.alloc (.cells #[.string name, .int .i64 u, .int .i64 fr, .int .i64 til, .int .i64 long] 151)).alloc zeroR)) ⟨h.dk.later hX, h.of, h.wl, h.hl, h.inv⟩ 3 (by omega) name hn u fr til long hl)
  have HH := hidp h
  have HX := hidp (And.intro hX hXQ)
  clear h hX hXQ
  go_enter Tryz.func94, Tryz.ntmps94
  go_upto_region 1 with fail
  change Code.wp _ _ _ _ ((w.alloc (.cells #[.string name, .int .i64 u, .int .i64 fr, .int .i64 til, .int .i64 long] 151)).alloc zeroR)
  generalize (w.alloc (.cells #[.string name, .int .i64 u, .int .i64 fr, .int .i64 til, .int .i64 long] 151)).alloc zeroR = X at *
  go_wp2_with fail
  refine EF.out.mono ?_
  rintro e w2 ⟨v, rfl, ep⟩
  obtain ⟨er, at_, n, a1, a2, a3, a4, n1, n2, n3, n4, c1, c2, c3, c4, rfl, q7, hf⟩ := ep.up HX.out.1 (Q := w.heap.size + 1) (by omega) hNX (HH.out.dk.none (by omega)) (Q7.of HX.out.2)
  have HF := hidp (hf (.int .i64 er) (.int .i64 at_) (.int .i64 n) (.slice a1 n1 c1) (.slice a2 n2 c2) (.slice a3 n3 c3) (.slice a4 n4 c4))
  clear ep hf EF x0 x1 x2 x3 x4
  obtain ⟨q0, q1, q2, q3, q4, q5, q6, fq⟩ := q7
  simp only [repV]
  go_wp2_with fail
  exact bodyPost_ret (v := repV er at_ n (.slice a1 n1 c1) (.slice a2 n2 c2) (.slice a3 n3 c3) (.slice a4 n4 c4)) (by simp [results, Tryz.results94, go_sem, repV, q0, q1, q2, q3, q4, q5, q6]) rfl ⟨_, rfl, HF.out⟩

end Go.Proofs.YtjfkfiffakbagaaGreatDoor


/-
  Package desk: peak.
-/
namespace Go.Proofs.YtjfkfiffakbagaaGreatDoor
open Go.RowKit
open Desk (Ent St Ids kept booked bookE sumA Items ofB sameB Risen Mid EntOk endsB Inv)

/-- The levels of a thing of the desk. -/
theorem DSt.levels {w : World} {d : Nat} {s : St} {r : Raw} {col : Nat → Option Col} (h : DSt w d s r col) {i : Nat} (hi : i < r.tg.length) : ∀ p, 0 ≤ sumA r.tg[i].name s.es p ∧ sumA r.tg[i].name s.es p ≤ 1000000 := fun p => by
  have h1 := Desk.sumA_bd r.tg[i].name p s.es h.mid.small
  have h2 := mid_len h.mid
  omega
theorem dMost_any {w wx : World} {d : Nat} {s : St} {r : Raw} {col : Nat → Option Col} (h : DSt w d s r col) (k : Below w.heap.size w wx) {i : Nat} (hi : i < r.tg.length) {a b : Int} (h0 : 0 ≤ a) (h1 : a < b) (h2 : b ≤ 1048320) :
    Calls Tryz.prog 150 #[.pointer (some ⟨r.tg[i].tb, 2, none⟩), .agg #[.int .i64 a, .int .i64 b]] wx fun e w' => e = .returned (.int .i64 (Desk.peakN r.tg[i].name s.es a b)) ∧ Below wx.heap.size wx w' := by
  obtain ⟨ul, us, Fl, Fs, t1, t2⟩ := (h.dk.later k).th i hi
  have hA := h.levels hi
  have e := Desk.most_peak (name := r.tg[i].name) h.mid.small (mid_spanned h.mid) h0 h1 h2
  unfold mostA at e
  have lv := t1.lv
  rw [(h.of.th i hi).1] at lv
  refine (Most_any (levT (sumA r.tg[i].name s.es)) _ 2 ul Fl a b wx t1.c2 lv (levT_LB hA) (levT_good (fun p => (hA p).1)) h1).mono ?_
  rintro e2 w' ⟨rfl, hb⟩
  exact ⟨by rw [← e], hb⟩
theorem dRoom_any {w wx : World} {d : Nat} {s : St} {r : Raw} {col : Nat → Option Col} (h : DSt w d s r col) (k : Below w.heap.size w wx) {i : Nat} (hi : i < r.tg.length) {a b long u : Int} (h0 : 0 ≤ a) (h1 : a < b) (h2 : b ≤ 1048320) (h3 : 1 ≤ long) (h4 : long ≤ 1048320) (hu : 0 ≤ u) :
    Calls Tryz.prog 151 #[.pointer (some ⟨r.tg[i].tb, 2, none⟩), .agg #[.int .i64 a, .int .i64 b], .int .i64 long, .int .i64 (r.tg[i].units - u)] wx fun e w' => ∃ q : Option Int, e = .returned (fmV q) ∧ Desk.findN s.ts s.es r.tg[i].name u long a b = Desk.orNone q ∧ Below wx.heap.size wx w' := by
  obtain ⟨ul, us, Fl, Fs, t1, t2⟩ := (h.dk.later k).th i hi
  have hA := h.levels hi
  have lv := t1.lv
  rw [(h.of.th i hi).1] at lv
  have hun : Desk.unitsN r.tg[i].name s.ts = r.tg[i].units := by
    have e1 := unitsN_at h.mid.tn (i := i) (by rw [← h.of.len]; exact hi)
    rw [h.of.tsAt hi] at e1
    exact e1
  refine (Room_any (levT (sumA r.tg[i].name s.es)) _ 2 ul Fl a b long (r.tg[i].units - u) wx t1.c2 lv (levT_LB hA) (levT_good (fun p => (hA p).1)) h0 h1 h2 h3 h4).mono ?_
  rintro e2 w' ⟨q, rfl, hq, hb⟩
  rw [← hun] at hq
  exact ⟨q, rfl, Desk.room_find h.mid.small (mid_spanned h.mid) h0 h2 hu h3 hq, hb⟩

theorem does_peak_err {s : St} (hm : Mid s) {name : ByteArray} {fr til : Int} (h : askErr s name 0 fr til ≠ 0) : Desk.doesD s (.peak name fr til) = (s, Desk.Rep.error (askErr s name 0 fr til)) := by
  have hn := Desk.unitsN_nonneg hm.tu name
  simp only [Desk.doesD]
  unfold askErr Desk.askedN at *
  by_cases h1 : Desk.unitsN name s.ts = 0
  · rw [if_pos h1]; simp [h1]
  · have h2 : ¬ (Desk.unitsN name s.ts < 0) := by omega
    simp only [h1, h2] at h ⊢
    by_cases h3 : til ≤ fr
    · simp [h3]
    · simp [h3] at h
theorem does_peak {s : St} {name : ByteArray} {fr til : Int} (h : askErr s name 0 fr til = 0) : Desk.doesD s (.peak name fr til) = (s, Desk.Rep.num (Desk.peakN name s.es fr til)) := by
  obtain ⟨h1, h2⟩ := askErr_zero h
  have h3 : Desk.unitsN name s.ts ≠ 0 := fun e => by unfold Desk.askedN at h1; rw [if_pos e] at h1; omega
  simp only [Desk.doesD]
  rw [if_neg h3, if_neg (by omega)]

theorem entMost (args : Array Value) (w : World) : (callFunc 150 args).run Tryz.prog w = .ok (.enter 150 args) w := by kernel_rfl

set_option maxRecDepth 100000 in
set_option maxHeartbeats 4000000 in
theorem peak_any {w : World} {d : Nat} {s : St} {r : Raw} {col : Nat → Option Col} (h : DSt w d s r col) (name : ByteArray) (hn : name.size ≤ 1000) (fr til : Int) (hl : Desk.LineOk (.peak name fr til)) :
    Calls Tryz.prog 100 #[.pointer (some ⟨d, 0, none⟩), .agg #[.string name, .int .i64 fr, .int .i64 til]] w fun e w' => ∃ v, e = .returned v ∧ AnsPost w d col (Desk.doesD s (.peak name fr til)) v w' := by
  obtain ⟨hX, hXQ⟩ := two_more (w := w) (.cells #[.string name, .int .i64 fr, .int .i64 til] 170)
  have x0 : ((w.alloc (.cells #[.string name, .int .i64 fr, .int .i64 til] 170)).alloc zeroR).cell? ⟨w.heap.size, 0, none⟩ = some (.string name) := by simp [zeroR]
  have x1 : ((w.alloc (.cells #[.string name, .int .i64 fr, .int .i64 til] 170)).alloc zeroR).cell? ⟨w.heap.size, 1, none⟩ = some (.int .i64 fr) := by simp [zeroR]
  have x2 : ((w.alloc (.cells #[.string name, .int .i64 fr, .int .i64 til] 170)).alloc zeroR).cell? ⟨w.heap.size, 2, none⟩ = some (.int .i64 til) := by simp [zeroR]
  have hNX : w.heap.size + 1 < ((w.alloc (.cells #[.string name, .int .i64 fr, .int .i64 til] 170)).alloc zeroR).heap.size := by simp
  have AK := hidp (asked_any (h.dk.later hX) h.of h.mid name hn 0 fr til)
  have HH := hidp h
  have HX := hidp (And.intro hX hXQ)
  clear h hX hXQ
  go_enter Tryz.func100, Tryz.ntmps100
  go_upto_region 1 with fail
  change Code.wp _ _ _ _ ((w.alloc (.cells #[.string name, .int .i64 fr, .int .i64 til] 170)).alloc zeroR)
  generalize (w.alloc (.cells #[.string name, .int .i64 fr, .int .i64 til] 170)).alloc zeroR = X at *
  go_wp2_with fail
  refine AK.out.mono ?_
  rintro e w1 ⟨hp, hb⟩
  have BX : Hid (Below w.heap.size w w1) := HX.out.1.trans (hb.mono HX.out.1.size)
  have QX : Hid (Q7 w1 (w.heap.size + 1)) := (Q7.of HX.out.2).later (hb.block _ hNX)
  rcases hp with ⟨h1, rfl⟩ | ⟨h1, i, hi, e1, e2, rfl⟩
  · have HD := hidp (does_peak_err HH.out.mid h1)
    generalize askErr s name 0 fr til = er at *
    have hb1 : (er != 0) = true := by simpa using h1
    clear h1 AK HX hb x0 x1 x2
    go_wp2_with fail
    refine (refused_any er w1).mono ?_
    rintro e w2 ⟨rfl, hb2⟩
    have hq := hb2.block (w.heap.size + 1) (World.block_lt_of_cell? _ _ QX.out.q0)
    have HF : Hid (AnsPost w d col (Desk.doesD s (.peak name fr til)) (repV er 0 0 (.slice none 0 0) (.slice none 0 0) (.slice none 0 0) (.slice none 0 0)) (set7 w2 (w.heap.size + 1) (.int .i64 er) (.int .i64 0) (.int .i64 0) (.slice none 0 0) (.slice none 0 0) (.slice none 0 0) (.slice none 0 0))) := by
      rw [HD.out]; exact HH.out.said (BX.out.trans (hb2.mono BX.out.size)) (by omega) er 0 _ _ _ _ _ _ _
    obtain ⟨q0, q1, q2, q3, q4, q5, q6, fq⟩ := QX.out.later hq
    simp only [repV]
    go_wp2_with fail
    exact bodyPost_ret (v := repV er 0 0 (.slice none 0 0) (.slice none 0 0) (.slice none 0 0) (.slice none 0 0)) (by simp [results, Tryz.results100, go_sem, repV, q0, q1, q2, q3, q4, q5, q6]) rfl ⟨_, rfl, HF.out⟩
  · have HD := hidp (does_peak h1)
    have y1 := (World.cell?_of_block (w := X) (a := ⟨w.heap.size, 1, none⟩) (hb.block w.heap.size (by omega))).trans x1
    have y2 := (World.cell?_of_block (w := X) (a := ⟨w.heap.size, 2, none⟩) (hb.block w.heap.size (by omega))).trans x2
    have MC := hidp (dMost_any HH.out (wx := w1.drew) BX.out.drew hi hl.1 (askErr_zero h1).2 hl.2.2.2)
    rw [e1] at MC
    have AF : Hid (∀ w2, Below w1.drew.heap.size w1.drew w2 → Q7 w2 (w.heap.size + 1) ∧ AnsPost w d col (Desk.doesD s (.peak name fr til)) (repV 0 0 (Desk.peakN name s.es fr til) (.slice none 0 0) (.slice none 0 0) (.slice none 0 0) (.slice none 0 0)) (set7 w2 (w.heap.size + 1) (.int .i64 0) (.int .i64 0) (.int .i64 (Desk.peakN name s.es fr til)) (.slice none 0 0) (.slice none 0 0) (.slice none 0 0) (.slice none 0 0))) := fun w2 k2 => ⟨QX.out.later (k2.block _ (World.block_lt_of_cell? _ _ QX.out.q0)), by rw [HD.out]; exact HH.out.said (BX.out.drew.trans (k2.mono BX.out.size)) (by omega) 0 (Desk.peakN name s.es fr til) _ _ _ _ _ _ _⟩
    clear h1 AK HX hb x0 x1 x2 e1 e2 HD
    generalize (Desk.peakN name s.es fr til) = nn at *
    go_upto_region 4 with fail
    go_region_law (first
      | (refine step_call (by rfl) 150 _ _ (by rfl) _ (by simp [Act.eval]) (entMost _ _) MC.out ?_; rintro e w2 ⟨rfl, hb2⟩; refine ⟨_, rfl, ?_⟩; have FF := hidp (AF.out w2 hb2); obtain ⟨⟨q0, q1, q2, q3, q4, q5, q6, fq⟩, _⟩ := AF.out w2 hb2))
    all_goals
      go_wp2_with fail
      exact bodyPost_ret (v := repV 0 0 nn (.slice none 0 0) (.slice none 0 0) (.slice none 0 0) (.slice none 0 0)) (by simp [results, Tryz.results100, go_sem, repV, q0, q1, q2, q3, q4, q5, q6]) rfl ⟨_, rfl, FF.out.2⟩

end Go.Proofs.YtjfkfiffakbagaaGreatDoor


/-
  Package desk: find.
-/
namespace Go.Proofs.YtjfkfiffakbagaaGreatDoor
open Go.RowKit
open Desk (Ent St Ids kept booked bookE sumA Items ofB sameB Risen Mid EntOk endsB Inv)

theorem does_find_err {s : St} {name : ByteArray} {u long fr til : Int} (h : askErr s name u fr til ≠ 0) : Desk.doesD s (.find name u long fr til) = (s, Desk.Rep.error (askErr s name u fr til)) := by
  simp only [Desk.doesD]
  unfold askErr at *
  by_cases h1 : Desk.askedN s.ts name u ≠ 0
  · rw [if_pos h1, if_pos h1]
  · rw [if_neg h1] at h ⊢
    rw [if_neg h1]
    by_cases h3 : til ≤ fr
    · rw [if_pos h3, if_pos h3]
    · rw [if_neg h3] at h; omega
theorem does_find {s : St} {name : ByteArray} {u long fr til : Int} (h : askErr s name u fr til = 0) : Desk.doesD s (.find name u long fr til) = (s, Desk.Rep.num (Desk.findN s.ts s.es name u long fr til)) := by
  obtain ⟨h1, h2⟩ := askErr_zero h
  simp only [Desk.doesD]
  rw [if_neg (by omega), if_neg (by omega)]

set_option maxRecDepth 100000 in
set_option maxHeartbeats 4000000 in
theorem find_any {w : World} {d : Nat} {s : St} {r : Raw} {col : Nat → Option Col} (h : DSt w d s r col) (name : ByteArray) (hn : name.size ≤ 1000) (u long fr til : Int) (hl : Desk.LineOk (.find name u long fr til)) :
    Calls Tryz.prog 101 #[.pointer (some ⟨d, 0, none⟩), .agg #[.string name, .int .i64 u, .int .i64 long, .int .i64 fr, .int .i64 til]] w fun e w' => ∃ v, e = .returned v ∧ AnsPost w d col (Desk.doesD s (.find name u long fr til)) v w' := by
  obtain ⟨hX, hXQ⟩ := two_more (w := w) (.cells #[.string name, .int .i64 u, .int .i64 long, .int .i64 fr, .int .i64 til] 172)
  have x0 : ((w.alloc (.cells #[.string name, .int .i64 u, .int .i64 long, .int .i64 fr, .int .i64 til] 172)).alloc zeroR).cell? ⟨w.heap.size, 0, none⟩ = some (.string name) := by simp [zeroR]
  have x1 : ((w.alloc (.cells #[.string name, .int .i64 u, .int .i64 long, .int .i64 fr, .int .i64 til] 172)).alloc zeroR).cell? ⟨w.heap.size, 1, none⟩ = some (.int .i64 u) := by simp [zeroR]
  have x2 : ((w.alloc (.cells #[.string name, .int .i64 u, .int .i64 long, .int .i64 fr, .int .i64 til] 172)).alloc zeroR).cell? ⟨w.heap.size, 2, none⟩ = some (.int .i64 long) := by simp [zeroR]
  have x3 : ((w.alloc (.cells #[.string name, .int .i64 u, .int .i64 long, .int .i64 fr, .int .i64 til] 172)).alloc zeroR).cell? ⟨w.heap.size, 3, none⟩ = some (.int .i64 fr) := by simp [zeroR]
  have x4 : ((w.alloc (.cells #[.string name, .int .i64 u, .int .i64 long, .int .i64 fr, .int .i64 til] 172)).alloc zeroR).cell? ⟨w.heap.size, 4, none⟩ = some (.int .i64 til) := by simp [zeroR]
  have hNX : w.heap.size + 1 < ((w.alloc (.cells #[.string name, .int .i64 u, .int .i64 long, .int .i64 fr, .int .i64 til] 172)).alloc zeroR).heap.size := by simp
  have AK := hidp (asked_any (h.dk.later hX) h.of h.mid name hn u fr til)
  have HH := hidp h
  have HX := hidp (And.intro hX hXQ)
  clear h hX hXQ
  go_enter Tryz.func101, Tryz.ntmps101
  go_upto_region 1 with fail
  change Code.wp _ _ _ _ ((w.alloc (.cells #[.string name, .int .i64 u, .int .i64 long, .int .i64 fr, .int .i64 til] 172)).alloc zeroR)
  generalize (w.alloc (.cells #[.string name, .int .i64 u, .int .i64 long, .int .i64 fr, .int .i64 til] 172)).alloc zeroR = X at *
  go_wp2_with fail
  refine AK.out.mono ?_
  rintro e w1 ⟨hp, hb⟩
  have BX : Hid (Below w.heap.size w w1) := HX.out.1.trans (hb.mono HX.out.1.size)
  have QX : Hid (Q7 w1 (w.heap.size + 1)) := (Q7.of HX.out.2).later (hb.block _ hNX)
  rcases hp with ⟨h1, rfl⟩ | ⟨h1, i, hi, e1, e2, rfl⟩
  · have HD := hidp (does_find_err (long := long) h1)
    generalize askErr s name u fr til = er at *
    have hb1 : (er != 0) = true := by simpa using h1
    clear h1 AK HX hb x0 x1 x2 x3 x4
    go_wp2_with fail
    refine (refused_any er w1).mono ?_
    rintro e w2 ⟨rfl, hb2⟩
    have hq := hb2.block (w.heap.size + 1) (World.block_lt_of_cell? _ _ QX.out.q0)
    have HF : Hid (AnsPost w d col (Desk.doesD s (.find name u long fr til)) (repV er 0 0 (.slice none 0 0) (.slice none 0 0) (.slice none 0 0) (.slice none 0 0)) (set7 w2 (w.heap.size + 1) (.int .i64 er) (.int .i64 0) (.int .i64 0) (.slice none 0 0) (.slice none 0 0) (.slice none 0 0) (.slice none 0 0))) := by
      rw [HD.out]; exact HH.out.said (BX.out.trans (hb2.mono BX.out.size)) (by omega) er 0 _ _ _ _ _ _ _
    obtain ⟨q0, q1, q2, q3, q4, q5, q6, fq⟩ := QX.out.later hq
    simp only [repV]
    go_wp2_with fail
    exact bodyPost_ret (v := repV er 0 0 (.slice none 0 0) (.slice none 0 0) (.slice none 0 0) (.slice none 0 0)) (by simp [results, Tryz.results101, go_sem, repV, q0, q1, q2, q3, q4, q5, q6]) rfl ⟨_, rfl, HF.out⟩
  · have HD := hidp (does_find (long := long) h1)
    have y1 := (World.cell?_of_block (w := X) (a := ⟨w.heap.size, 1, none⟩) (hb.block w.heap.size (by omega))).trans x1
    have y2 := (World.cell?_of_block (w := X) (a := ⟨w.heap.size, 2, none⟩) (hb.block w.heap.size (by omega))).trans x2
    have y3 := (World.cell?_of_block (w := X) (a := ⟨w.heap.size, 3, none⟩) (hb.block w.heap.size (by omega))).trans x3
    have y4 := (World.cell?_of_block (w := X) (a := ⟨w.heap.size, 4, none⟩) (hb.block w.heap.size (by omega))).trans x4
    obtain ⟨ul, us, Fl, Fs, t1, t2⟩ := (HH.out.dk.later BX.out).th i hi
    have cu := t1.c1
    have hu9 : 1 ≤ r.tg[i].units ∧ r.tg[i].units ≤ 9 := by
      have hin : (r.tg[i].name, r.tg[i].units) ∈ s.ts := by rw [← HH.out.of.tsAt hi]; exact List.getElem_mem _
      exact HH.out.inv.tu _ hin
    have hw1 : IntKind.i64.wrap (r.tg[i].units - u) = r.tg[i].units - u := wrap_small (by have := hl.1; have := hl.2.1; omega) (by have := hl.1; omega)
    have RC := hidp (dRoom_any HH.out (wx := w1.drew) BX.out.drew (u := u) hi hl.2.2.2.2.1 (askErr_zero h1).2 hl.2.2.2.2.2.2.2 hl.2.2.1 hl.2.2.2.1 (by have := hl.1; omega))
    rw [e1] at RC
    have RD : Hid (Calls Tryz.prog 151 #[.pointer (some ⟨r.tg[i].tb, 2, none⟩), .agg #[.int .i64 fr, .int .i64 til], .int .i64 long, .int .i64 (r.tg[i].units - u)] w1.drew fun e w' => ∃ (x : Int) (bq : Bool), e = .returned (.tuple #[.int .i64 x, .bool bq]) ∧ Desk.findN s.ts s.es name u long fr til = (if bq then x else -1) ∧ Below w1.drew.heap.size w1.drew w') := by
      refine RC.out.mono ?_
      rintro e w' ⟨q, rfl, hq, hb2⟩
      cases q with
      | none => exact ⟨0, false, rfl, hq, hb2⟩
      | some x => exact ⟨x, true, rfl, hq, hb2⟩
    have AF : Hid (∀ w2 nn, Below w1.drew.heap.size w1.drew w2 → (Desk.findN s.ts s.es name u long fr til) = nn → Q7 w2 (w.heap.size + 1) ∧ AnsPost w d col (Desk.doesD s (.find name u long fr til)) (repV 0 0 nn (.slice none 0 0) (.slice none 0 0) (.slice none 0 0) (.slice none 0 0)) (set7 w2 (w.heap.size + 1) (.int .i64 0) (.int .i64 0) (.int .i64 nn) (.slice none 0 0) (.slice none 0 0) (.slice none 0 0) (.slice none 0 0))) := fun w2 nn k2 e => ⟨QX.out.later (k2.block _ (World.block_lt_of_cell? _ _ QX.out.q0)), by rw [HD.out, ← e]; exact HH.out.said (BX.out.drew.trans (k2.mono BX.out.size)) (by omega) 0 (Desk.findN s.ts s.es name u long fr til) _ _ _ _ _ _ _⟩
    clear h1 AK HX hb x0 x1 x2 x3 x4 e1 e2 HD t1 t2 hu9 RC
    generalize r.tg[i].units = un at *
    generalize r.tg[i].tb = tb at *
    go_upto_region 4 with fail
    have AC : Hid (∀ w2, Below w1.drew.heap.size w1.drew w2 → w2.cell? ⟨w.heap.size, 1, none⟩ = some (.int .i64 u) ∧ w2.cell? ⟨w.heap.size, 2, none⟩ = some (.int .i64 long) ∧ w2.cell? ⟨w.heap.size, 3, none⟩ = some (.int .i64 fr) ∧ w2.cell? ⟨w.heap.size, 4, none⟩ = some (.int .i64 til) ∧ w2.cell? ⟨tb, 1, none⟩ = some (.int .i64 un)) := fun w2 k => ⟨cellLater k y1, cellLater k y2, cellLater k y3, cellLater k y4, cellLater k cu⟩
    go_region_held3 (fun w' => w'.cell? ⟨w.heap.size, 1, none⟩ = some (.int .i64 u) ∧ w'.cell? ⟨w.heap.size, 2, none⟩ = some (.int .i64 long) ∧ w'.cell? ⟨w.heap.size, 3, none⟩ = some (.int .i64 fr) ∧ w'.cell? ⟨w.heap.size, 4, none⟩ = some (.int .i64 til) ∧ w'.cell? ⟨tb, 1, none⟩ = some (.int .i64 un))
      (first
        | exact ⟨y1, y2, y3, y4, cu⟩
        | exact AC.out _ hb2)
      (first
        | (go_at_call 151; refine RD.out.mono ?_; rintro e w2 ⟨x, bq, rfl, hq, hb2⟩))
    have HB := hidp hb2
    cases bq
    all_goals
      have HQ := hidp hq
      clear hq hb2 AC y1 y2 y3 y4 cu
    · have FF := hidp (AF.out w2 (-1) HB.out HQ.out)
      obtain ⟨⟨q0, q1, q2, q3, q4, q5, q6, fq⟩, _⟩ := AF.out w2 (-1) HB.out HQ.out
      clear AF RD
      go_wp2_with fail
      exact bodyPost_ret (v := repV 0 0 (-1) (.slice none 0 0) (.slice none 0 0) (.slice none 0 0) (.slice none 0 0)) (by simp [results, Tryz.results101, go_sem, repV, q0, q1, q2, q3, q4, q5, q6]) rfl ⟨_, rfl, FF.out.2⟩
    · have FF := hidp (AF.out w2 x HB.out HQ.out)
      obtain ⟨⟨q0, q1, q2, q3, q4, q5, q6, fq⟩, _⟩ := AF.out w2 x HB.out HQ.out
      clear AF RD
      go_wp2_with fail
      exact bodyPost_ret (v := repV 0 0 x (.slice none 0 0) (.slice none 0 0) (.slice none 0 0) (.slice none 0 0)) (by simp [results, Tryz.results101, go_sem, repV, q0, q1, q2, q3, q4, q5, q6]) rfl ⟨_, rfl, FF.out.2⟩

end Go.Proofs.YtjfkfiffakbagaaGreatDoor


/-
  Package desk: what tick answers, whole.
-/
namespace Go.Proofs.YtjfkfiffakbagaaGreatDoor
open Go.RowKit
open Desk (Ent St Ids kept booked bookE sumA Items ofB sameB Risen Mid EntOk endsB Inv)

theorem TickPost.ans {w w' : World} {d : Nat} {s : St} {col : Nat → Option Col} {n : Int} {v : Value} (h : TickPost w d s col n v w') (hle : s.now + n ≤ 1048320) : AnsPost w d col (Desk.doesD s (.tick n)) v w' := by
  obtain ⟨r', col', vG, vE, rfl, k1, k2, k3, k4, k5, k6, k7, k8⟩ := h
  refine ⟨r', col', k1, k2, k3, k4, k5, .slice none 0 0, .slice none 0 0, vG, vE, [], ?_, ?_, ERow.nil _ _ _, ?_, k6, k7, fun b hb => ⟨(by simp [Value.ownBlock]), (by simp [Value.ownBlock]), k8 b hb, (by simp)⟩⟩
  all_goals
    have hd : (Desk.doesD s (.tick n)).2.err = 0 ∧ (Desk.doesD s (.tick n)).2.at_ = 0 ∧ (Desk.doesD s (.tick n)).2.n = s.now + n ∧ (Desk.doesD s (.tick n)).2.entries = [] ∧ (Desk.doesD s (.tick n)).2.days = [] := by
      show ((if 1048320 < s.now + n then _ else _ : St × Desk.Rep)).2.err = 0 ∧ ((if 1048320 < s.now + n then _ else _ : St × Desk.Rep)).2.at_ = 0 ∧ ((if 1048320 < s.now + n then _ else _ : St × Desk.Rep)).2.n = s.now + n ∧ ((if 1048320 < s.now + n then _ else _ : St × Desk.Rep)).2.entries = [] ∧ ((if 1048320 < s.now + n then _ else _ : St × Desk.Rep)).2.days = []
      rw [if_neg (by omega)]
      exact ⟨rfl, rfl, rfl, rfl, rfl⟩
  · rw [hd.1, hd.2.1, hd.2.2.1]
  · rw [hd.2.2.2.1]; rfl
  · rw [hd.2.2.2.2]; exact NRow.nil _ _ _

set_option maxRecDepth 100000 in
set_option maxHeartbeats 4000000 in
theorem tick_late {w : World} {d : Nat} {s : St} {r : Raw} {col : Nat → Option Col} (h : DSt w d s r col) (n : Int) (hn : 1 ≤ n ∧ n ≤ 1048320) (hlate : 1048320 < s.now + n) :
    Calls Tryz.prog 103 #[.pointer (some ⟨d, 0, none⟩), .agg #[.int .i64 n]] w fun e w' => ∃ v, e = .returned v ∧ AnsPost w d col (Desk.doesD s (.tick n)) v w' := by
  obtain ⟨hX, hXQ⟩ := two_more (w := w) (.cells #[.int .i64 n] 176)
  have x0 : ((w.alloc (.cells #[.int .i64 n] 176)).alloc zeroR).cell? ⟨w.heap.size, 0, none⟩ = some (.int .i64 n) := by simp [zeroR]
  have hNX : w.heap.size + 1 < ((w.alloc (.cells #[.int .i64 n] 176)).alloc zeroR).heap.size := by simp
  have c0 := (h.dk.later hX).c0
  rw [h.of.now] at c0
  have h0 := h.inv.n0
  have h9 := h.inv.n1
  have hw1 : IntKind.i64.wrap (s.now + n) = s.now + n := wrap_small (by omega) (by omega)
  have HH := hidp h
  have HX := hidp (And.intro hX hXQ)
  have HD : Hid (Desk.doesD s (.tick n) = (s, Desk.Rep.error 6)) := by
    show (if 1048320 < s.now + n then _ else _) = _
    rw [if_pos hlate]
  clear h hX hXQ
  go_enter Tryz.func103, Tryz.ntmps103
  go_upto_region 1 with fail
  change Code.wp _ _ _ _ ((w.alloc (.cells #[.int .i64 n] 176)).alloc zeroR)
  generalize (w.alloc (.cells #[.int .i64 n] 176)).alloc zeroR = X at *
  have QX : Hid (Q7 X.drew (w.heap.size + 1)) := Q7.of HX.out.2
  have BX : Hid (Below w.heap.size w X.drew) := HX.out.1.drew
  clear HX
  go_big_region
  clear c0 x0
  go_wp2_with fail
  refine (refused_any 6 X.drew).mono ?_
  rintro e w2 ⟨rfl, hb2⟩
  have hq := hb2.block (w.heap.size + 1) (World.block_lt_of_cell? _ _ QX.out.q0)
  have HF : Hid (AnsPost w d col (Desk.doesD s (.tick n)) (repV 6 0 0 (.slice none 0 0) (.slice none 0 0) (.slice none 0 0) (.slice none 0 0)) (set7 w2 (w.heap.size + 1) (.int .i64 6) (.int .i64 0) (.int .i64 0) (.slice none 0 0) (.slice none 0 0) (.slice none 0 0) (.slice none 0 0))) := by
    rw [HD.out]; exact HH.out.said (BX.out.trans (hb2.mono BX.out.size)) (by omega) 6 0 _ _ _ _ _ _ _
  obtain ⟨q0, q1, q2, q3, q4, q5, q6, fq⟩ := QX.out.later hq
  simp only [repV]
  go_wp2_with fail
  exact bodyPost_ret (v := repV 6 0 0 (.slice none 0 0) (.slice none 0 0) (.slice none 0 0) (.slice none 0 0)) (by simp [results, Tryz.results103, go_sem, repV, q0, q1, q2, q3, q4, q5, q6]) rfl ⟨_, rfl, HF.out⟩

theorem tick_ans {w : World} {d : Nat} {s : St} {r : Raw} {col : Nat → Option Col} (h : DSt w d s r col) (n : Int) (hn : 1 ≤ n ∧ n ≤ 1048320) :
    Calls Tryz.prog 103 #[.pointer (some ⟨d, 0, none⟩), .agg #[.int .i64 n]] w fun e w' => ∃ v, e = .returned v ∧ AnsPost w d col (Desk.doesD s (.tick n)) v w' := by
  by_cases hle : s.now + n ≤ 1048320
  · refine (tick_any h.dk h.of h.wl h.hl h.inv n hn hle).mono ?_
    rintro e w' ⟨v, rfl, hp⟩
    exact ⟨v, rfl, hp.ans hle⟩
  · exact tick_late h n hn (by omega)

end Go.Proofs.YtjfkfiffakbagaaGreatDoor

