/-
  Parts of the proof, one behind the other: DeskTick2, DeskAsk, DeskAns, DeskUp, DeskNew, DeskDo, DeskDo2.
-/
import Derived.Test.YtjfkfiffakbagaaGreatDoorL12
/-
  Package desk: refused, tick.
-/
namespace Go.Proofs.YtjfkfiffakbagaaGreatDoor
open Go.RowKit
open Desk (Ent St Ids kept booked bookE sumA Items ofB sameB Risen Mid EntOk endsB Inv)

set_option maxHeartbeats 1000000 in
theorem refused_any (err : Int) (w : World) :
    Calls Tryz.prog 138 #[.int .i64 err] w fun e w' => e = .returned (repV err 0 0 (.slice none 0 0) (.slice none 0 0) (.slice none 0 0) (.slice none 0 0)) ∧ Below w.heap.size w w' := by
  go_enter Tryz.func138, Tryz.ntmps138
  have HB : Hid (Below w.heap.size w (w.alloc (.cells #[.int .i64 err, .int .i64 0, .int .i64 0, .slice none 0 0, .slice none 0 0, .slice none 0 0, .slice none 0 0] 40))) := (Below.refl _ _).alloc (Nat.le_refl _) _
  go_wp2_with fail
  exact bodyPost_ret (v := repV err 0 0 (.slice none 0 0) (.slice none 0 0) (.slice none 0 0) (.slice none 0 0)) (by simp [results, Tryz.results138, go_sem, repV]) rfl ⟨rfl, HB.out⟩

/-- The call of First on the desk's heap. -/
theorem dFirst_any {w : World} {d : Nat} {r : Raw} {col : Nat → Option Col} (h : DK w d r col) (hh : Hl r) :
    Calls Tryz.prog 152 #[.pointer (some ⟨d, 5, none⟩)] w fun e w' => w' = w ∧
      ((e = .returned (.tuple #[.int .i64 0, .bool false]) ∧ ∀ g ∈ r.eg, g.e.kind = 1) ∨ ∃ g ∈ r.eg, g.e.kind ≠ 1 ∧ e = .returned (.tuple #[.int .i64 g.e.till, .bool true]) ∧ ∀ x ∈ r.eg, x.e.kind ≠ 1 → g.e.till ≤ x.e.till) := by
  obtain ⟨v, a1, a2⟩ := h.he
  refine (hFirst_any d 5 v r.hl w a1).mono ?_
  rintro e w' ⟨rfl, rfl⟩
  refine ⟨rfl, ?_⟩
  by_cases h0 : r.hl.length = 0
  · refine .inl ⟨by simp [hTop, hAny, h0], fun g hg => ?_⟩
    by_cases hk : g.e.kind = 1
    · exact hk
    · have := hh.has hg hk
      rw [List.length_eq_zero_iff.1 h0] at this; simp at this
  · have hp : 0 < r.hl.length := by omega
    obtain ⟨g, hg, hk, e⟩ := hh.at (x := Hp.at_ r.hl 0) (by rw [Hp.at_get hp]; exact List.getElem_mem hp)
    refine .inr ⟨g, hg, hk, by rw [hTop_pos hp, hAny_pos hp, e]; rfl, fun x hx hkx => ?_⟩
    obtain ⟨i, hi, e2⟩ := List.getElem_of_mem (hh.has hx hkx)
    have := Hp.top_min hh.1 i hi
    rw [Hp.at_get hi, e2, e] at this
    unfold Hp.ahead hiOf at this
    simp only at this
    omega

/-- The cells of an answer, and of that which will be handed back. -/
structure R7 (Z : World) (R Q : Nat) (n : Int) (vG vE : Value) : Prop where
  r0 : Z.cell? ⟨R, 0, none⟩ = some (.int .i64 0)
  r1 : Z.cell? ⟨R, 1, none⟩ = some (.int .i64 0)
  r2 : Z.cell? ⟨R, 2, none⟩ = some (.int .i64 n)
  r3 : Z.cell? ⟨R, 3, none⟩ = some (.slice none 0 0)
  r4 : Z.cell? ⟨R, 4, none⟩ = some (.slice none 0 0)
  r5 : Z.cell? ⟨R, 5, none⟩ = some vG
  r6 : Z.cell? ⟨R, 6, none⟩ = some vE
  q0 : Z.cell? ⟨Q, 0, none⟩ = some (.int .i64 0)
  q1 : Z.cell? ⟨Q, 1, none⟩ = some (.int .i64 0)
  q2 : Z.cell? ⟨Q, 2, none⟩ = some (.int .i64 0)
  q3 : Z.cell? ⟨Q, 3, none⟩ = some (.slice none 0 0)
  q4 : Z.cell? ⟨Q, 4, none⟩ = some (.slice none 0 0)
  q5 : Z.cell? ⟨Q, 5, none⟩ = some (.slice none 0 0)
  q6 : Z.cell? ⟨Q, 6, none⟩ = some (.slice none 0 0)
  fq : ∀ o, Z.frozen? ⟨Q, o, none⟩ = false
theorem RB.r7 {B : Nat} {col : Nat → Option Col} {w : World} {R Q : Nat} {n : Int} {vG vE : Value} {G E : List Int} (h : RB w B col R Q n vG vE G E) : R7 w R Q n vG vE := by
  refine ⟨?_, ?_, ?_, ?_, ?_, ?_, ?_, ?_, ?_, ?_, ?_, ?_, ?_, ?_, fun o => frozen_of_row _ Q o _ _ h.q⟩
  all_goals first
    | (simp only [World.cell?, h.r]; rfl)
    | (simp only [World.cell?, h.q]; rfl)
def set7 (Z : World) (Q : Nat) (a b c d e f g : Value) : World := ((((((Z.setCell ⟨Q, 0, none⟩ a).setCell ⟨Q, 1, none⟩ b).setCell ⟨Q, 2, none⟩ c).setCell ⟨Q, 3, none⟩ d).setCell ⟨Q, 4, none⟩ e).setCell ⟨Q, 5, none⟩ f).setCell ⟨Q, 6, none⟩ g
theorem set7_off (Z : World) (Q : Nat) (a b c d e f g : Value) : Off [Q] Z (set7 Z Q a b c d e f g) :=
  (((((((Off.refl [Q] Z).setCell (.inl (by simp)) _ _).setCell (.inl (by simp)) _ _).setCell (.inl (by simp)) _ _).setCell (.inl (by simp)) _ _).setCell (.inl (by simp)) _ _).setCell (.inl (by simp)) _ _).setCell (.inl (by simp)) _ _

/-- What tick leaves, and answers. -/
def TickPost (w : World) (d : Nat) (s : St) (col : Nat → Option Col) (n : Int) (v : Value) (w' : World) : Prop :=
  ∃ (r' : Raw) (col' : Nat → Option Col) (vG vE : Value), v = repV 0 0 (s.now + n) (.slice none 0 0) (.slice none 0 0) vG vE ∧ DK w' d r' col' ∧ Of (Desk.doesD s (.tick n)).1 r' ∧ Wl r' ∧ Hl r' ∧ Step anyS w.heap.size col col' w w' ∧ NRow w' w.heap.size col' vG (Desk.doesD s (.tick n)).2.granted ∧ NRow w' w.heap.size col' vE (Desk.doesD s (.tick n)).2.ended ∧ (∀ b, vG.ownBlock = some b → vE.ownBlock ≠ some b)

theorem tick_fin {w wr : World} {d : Nat} {s : St} {col ck : Nat → Option Col} {n tq : Int} {esc : List Ent} {G E : List Int} {vG vE : Value} {R Q : Nat} {rk : Raw} (htq : s.now + n = tq) (hst : Step anyS w.heap.size col ck w wr) (ho : Of { s with es := esc } rk) (hw : Wl rk) (hh : Hl rk) (sn1 : DK (wr.setCell ⟨d, 0, none⟩ (.int .i64 tq)) d { rk with now := tq } ck) (sn2 : Step (· = .desk) wr.heap.size ck ck wr (wr.setCell ⟨d, 0, none⟩ (.int .i64 tq))) (hr : RB (wr.setCell ⟨d, 0, none⟩ (.int .i64 tq)) w.heap.size ck R Q tq vG vE G E) (ht : Desk.tickGo s.ts (s.es.length + 1) s.es s.now tq = (esc, E, G)) (hle : s.now + n ≤ 1048320) :
    TickPost w d s col n (repV 0 0 tq (.slice none 0 0) (.slice none 0 0) vG vE) (set7 (wr.setCell ⟨d, 0, none⟩ (.int .i64 tq)) Q (.int .i64 0) (.int .i64 0) (.int .i64 tq) (.slice none 0 0) (.slice none 0 0) vG vE) := by
  have k := set7_off (wr.setCell ⟨d, 0, none⟩ (.int .i64 tq)) Q (.int .i64 0) (.int .i64 0) (.int .i64 tq) (.slice none 0 0) (.slice none 0 0) vG vE
  have hd : Desk.doesD s (.tick n) = ({ s with es := esc, now := tq }, { Desk.Rep.num tq with granted := G, ended := E }) := by
    subst htq
    show (if 1048320 < s.now + n then _ else _) = _
    rw [if_neg (by omega), ht]
  rw [TickPost, hd]
  refine ⟨{ rk with now := tq }, ck, vG, vE, by rw [htq], sn1.off k (fun x hx => ?_), ⟨rfl, ho.given, ho.ts, ho.es, ho.th, ho.tb⟩, hw, hh, ?_, ⟨?_, hr.g.no⟩, ⟨?_, hr.e.no⟩, fun b hb => (hr.ge b hb).1⟩
  · have : x = Q := List.mem_singleton.1 hx
    subst this; exact hr.qc
  · refine (hst.trans (sn2.any hst.size)).trans ⟨⟨_, k, fun x hx => .inr ?_⟩, fun _ _ h => h, fun _ _ h => .inl h⟩
    have : x = Q := List.mem_singleton.1 hx
    subst this; exact ⟨hr.qc, hr.qb⟩
  · exact ownOff hr.g.own k (fun b hb => by simpa using (hr.ge b hb).2.2)
  · exact ownOff hr.e.own k (fun b hb => by simpa using (hr.er b hb).2)

theorem entEndBy (args : Array Value) (w : World) : (callFunc 153 args).run Tryz.prog w = .ok (.enter 153 args) w := by kernel_rfl
theorem entGrant (args : Array Value) (w : World) : (callFunc 63 args).run Tryz.prog w = .ok (.enter 63 args) w := by kernel_rfl

set_option maxRecDepth 100000 in
set_option maxHeartbeats 4000000 in
theorem tick_any {w : World} {d : Nat} {s : St} {r : Raw} {col : Nat → Option Col} (h : DK w d r col) (ho : Of s r) (hw : Wl r) (hh : Hl r) (hm : Inv s) (n : Int) (hn : 1 ≤ n ∧ n ≤ 1048320) (hle : s.now + n ≤ 1048320) :
    Calls Tryz.prog 103 #[.pointer (some ⟨d, 0, none⟩), .agg #[.int .i64 n]] w fun e w' => ∃ v, e = .returned v ∧ TickPost w d s col n v w' := by
  have hX : Below w.heap.size w ((w.alloc (.cells #[.int .i64 n] 176)).alloc (.cells #[.int .i64 0, .int .i64 0, .int .i64 0, .slice none 0 0, .slice none 0 0, .slice none 0 0, .slice none 0 0] 40)) := ((Below.refl _ _).alloc (Nat.le_refl _) _).alloc (by simp) _
  have hx := h.later hX
  have c0 := hx.c0
  rw [ho.now] at c0
  have xn : ((w.alloc (.cells #[.int .i64 n] 176)).alloc (.cells #[.int .i64 0, .int .i64 0, .int .i64 0, .slice none 0 0, .slice none 0 0, .slice none 0 0, .slice none 0 0] 40)).cell? ⟨w.heap.size, 0, none⟩ = some (.int .i64 n) := by simp
  have xr : ((w.alloc (.cells #[.int .i64 n] 176)).alloc (.cells #[.int .i64 0, .int .i64 0, .int .i64 0, .slice none 0 0, .slice none 0 0, .slice none 0 0, .slice none 0 0] 40)).heap[w.heap.size + 1]? = some (.cells #[.int .i64 0, .int .i64 0, .int .i64 0, .slice none 0 0, .slice none 0 0, .slice none 0 0, .slice none 0 0] 40) := by
    have := heapNew (w.alloc (.cells #[.int .i64 n] 176)) (.cells #[.int .i64 0, .int .i64 0, .int .i64 0, .slice none 0 0, .slice none 0 0, .slice none 0 0, .slice none 0 0] 40)
    rwa [World.size_alloc] at this
  have hle' : ¬ (1048320 < s.now + n) := by omega
  have h0 := hm.n0
  have hw1 : IntKind.i64.wrap (s.now + n) = s.now + n := wrap_small (by omega) (by omega)
  have HX := hidp (And.intro hX (And.intro hx (And.intro xr (And.intro ho (And.intro hw (And.intro hh hm))))))
  have hcn : ∀ b, w.heap.size ≤ b → col b = none := fun b hb => h.none hb
  have HCN := hidp hcn
  clear h ho hw hh hm hX hx xr hcn
  go_enter Tryz.func103, Tryz.ntmps103
  go_upto_region 1 with fail
  generalize ((w.alloc (.cells #[.int .i64 n] 176)).alloc (.cells #[.int .i64 0, .int .i64 0, .int .i64 0, .slice none 0 0, .slice none 0 0, .slice none 0 0, .slice none 0 0] 40)) = X at HX c0 xn ⊢
  go_big_region
  clear c0 xn
  have T0 : Hid (TD w (X.alloc (.cells #[.int .i64 0, .int .i64 0, .int .i64 (s.now + n), .slice none 0 0, .slice none 0 0, .slice none 0 0, .slice none 0 0] 40)).drew d s col X.heap.size (w.heap.size + 1) (s.now + n) s.es [] [] (.slice none 0 0) (.slice none 0 0)) := by
    obtain ⟨hX, hx, xr, ho, hw, hh, hm⟩ := HX.out
    have hb : Below X.heap.size X (X.alloc (.cells #[.int .i64 0, .int .i64 0, .int .i64 (s.now + n), .slice none 0 0, .slice none 0 0, .slice none 0 0, .slice none 0 0] 40)).drew := ((Below.refl _ _).alloc (Nat.le_refl _) _).drew
    have hql := hget_lt xr
    refine ⟨r, col, hx.later hb, ho, hw, hh, (Step.below hX).trans (Step.below hb), ⟨heapNew X _, (hb.block _ hql).trans xr, HCN.out _ hX.size, HCN.out _ (by omega), hX.size, by omega, by omega, NRow.nil _ _ _, NRow.nil _ _ _, fun b hb => (by cases hb), fun b hb => (by cases hb)⟩⟩
  have K0 : Hid (TK s (s.now + n) s.es s.now [] [] s.es.length) := ⟨HX.out.2.2.2.2.2.2, Int.le_refl _, by omega, Nat.le_refl _, by simp, by simp, by simp⟩
  clear HX HCN
  go_wp2_with fail
  generalize (X.alloc (.cells #[.int .i64 0, .int .i64 0, .int .i64 (s.now + n), .slice none 0 0, .slice none 0 0, .slice none 0 0, .slice none 0 0] 40)).drew = Y at T0 ⊢
  generalize X.heap.size = R at T0 ⊢
  generalize w.heap.size + 1 = Q at T0 ⊢
  generalize htq : s.now + n = tq at *
  have HTQ := hidp htq
  clear htq hw1
  go_loopw [7, 8] (fun _ _ wx => ∃ (esc : List Ent) (nowc : Int) (G E : List Int) (K : Nat) (vG vE : Value), TD w wx d s col R Q tq esc G E vG vE ∧ TK s tq esc nowc G E K) (fun _ _ wx => s.es.length - lenOf ((wx.cell? ⟨R, 6, none⟩).getD undef))
  case atStart => exact ⟨s.es, s.now, [], [], s.es.length, _, _, T0.out, K0.out⟩
  case round =>
    obtain ⟨esc, nowc, G, E, K, vG, vE, ⟨rk, ck, D, O, W, HH, ST, RBk⟩, k⟩ := hrel
    have FI := hidp (dFirst_any D HH)
    have HD := hidp (And.intro D (And.intro O (And.intro W (And.intro HH (And.intro ST (And.intro RBk k))))))
    clear D O W HH ST RBk k
    go_wp2_with fail
    refine FI.out.mono ?_
    rintro e w1 ⟨hw1, hcase⟩
    subst hw1
    have htq' := HTQ.out
    rcases hcase with ⟨rfl, hcase⟩ | ⟨g, hg, hkd, rfl, hcase⟩
    · have D := HD.out.1
      have hno : ∀ e ∈ esc, e.kind ≠ 1 → tq < e.till := by
        intro e he hk
        obtain ⟨x, hx, rfl⟩ := HD.out.2.1.get he
        exact absurd (hcase x hx) hk
      have cd := D.c0
      have fd := D.fz 0
      obtain ⟨sn1, sn2⟩ := D.setNow tq
      have RB1 := HD.out.2.2.2.2.2.1.step sn2 (Nat.le_refl _)
      have HF := hidp (tick_fin htq' (HD.out.2.2.2.2.1) HD.out.2.1 HD.out.2.2.1 HD.out.2.2.2.1 sn1 sn2 RB1 (HD.out.2.2.2.2.2.2.stop hno) (by rw [htq']; exact hle))
      obtain ⟨r0, r1, r2, r3, r4, r5, r6, q0, q1, q2, q3, q4, q5, q6, fq⟩ := RB1.r7
      obtain ⟨aG, cG, eG⟩ := RB1.g.slice
      obtain ⟨aE, cE, eE⟩ := RB1.e.slice
      subst eG
      subst eE
      clear D sn1 sn2 RB1 hno hcase HD FI
      go_wp2_with fail
      exact bodyPost_ret (v := repV 0 0 tq (.slice none 0 0) (.slice none 0 0) (.slice aG G.length cG) (.slice aE E.length cE)) (by simp [results, Tryz.results103, go_sem, repV, q0, q1, q2, q3, q4, q5, q6]) rfl ⟨_, rfl, HF.out⟩
    · by_cases ht : tq < g.e.till
      · have D := HD.out.1
        have hno : ∀ e ∈ esc, e.kind ≠ 1 → tq < e.till := by
          intro e he hk
          obtain ⟨x, hx, rfl⟩ := HD.out.2.1.get he
          have := hcase x hx hk; omega
        have cd := D.c0
        have fd := D.fz 0
        obtain ⟨sn1, sn2⟩ := D.setNow tq
        have RB1 := HD.out.2.2.2.2.2.1.step sn2 (Nat.le_refl _)
        have HF := hidp (tick_fin htq' (HD.out.2.2.2.2.1) HD.out.2.1 HD.out.2.2.1 HD.out.2.2.2.1 sn1 sn2 RB1 (HD.out.2.2.2.2.2.2.stop hno) (by rw [htq']; exact hle))
        obtain ⟨r0, r1, r2, r3, r4, r5, r6, q0, q1, q2, q3, q4, q5, q6, fq⟩ := RB1.r7
        obtain ⟨aG, cG, eG⟩ := RB1.g.slice
        obtain ⟨aE, cE, eE⟩ := RB1.e.slice
        subst eG
        subst eE
        clear D sn1 sn2 RB1 hno hcase HD FI
        go_wp2_with fail
        exact bodyPost_ret (v := repV 0 0 tq (.slice none 0 0) (.slice none 0 0) (.slice aG G.length cG) (.slice aE E.length cE)) (by simp [results, Tryz.results103, go_sem, repV, q0, q1, q2, q3, q4, q5, q6]) rfl ⟨_, rfl, HF.out⟩
      · have D := HD.out.1
        have k := HD.out.2.2.2.2.2.2
        have hmid := k.mid h0
        have hg0 : ∀ e ∈ esc, e.kind ≠ 1 → g.e.till ≤ e.till := fun e he hk => by
          obtain ⟨x, hx, rfl⟩ := HD.out.2.1.get he
          exact hcase x hx hk
        obtain ⟨K', k', m', hnt⟩ := k.next hle (by omega) ⟨g.e, HD.out.2.1.mem hg, hkd, rfl⟩ hg0
        have hlen := k.cnt
        have hes : s.es.length ≤ 60 := mid_len (K0.out.mid h0)
        have hEl : E.length + esc.length ≤ 1000 := by omega
        have ST := HD.out.2.2.2.2.1
        have RBk := HD.out.2.2.2.2.2.1
        have EB := hidp (endBy_any (D.later (blwDrew w1)) HD.out.2.1 HD.out.2.2.1 HD.out.2.2.2.1 hmid g.e.till hg0)
        have AP := hidp (fun v2 w4 (p : EndByPost w1.drew d { s with es := esc } ck g.e.till v2 w4) => TD.ended (ST.trans (Step.below (blwDrew w1))) (RBk.later (blwDrew w1)) p hEl)
        have cE := RBk.cells.2.1
        have lE : lenOf vE = E.length := RBk.e.len
        have hps : 0 < (esc.filter (endsB g.e.till)).length := List.length_pos_iff.2 (fun e => by
          have : g.e ∈ esc.filter (endsB g.e.till) := List.mem_filter.2 ⟨HD.out.2.1.mem hg, by unfold endsB; rw [Bool.and_eq_true, decide_eq_true_iff]; exact ⟨by simpa using hkd, rfl⟩⟩
          rw [e] at this; simp at this)
        have KN := hidp (And.intro k' (And.intro (m'.earlier h0 (by have h1 := k.n1; have h2 := hnt; omega)) (And.intro lE hps)))
        have hgl : G.length ≤ 3600 := by have := k.gl; omega
        clear D k hmid hg0 k' m' hlen ST RBk HD FI hcase hg hkd lE hEl hes hps hnt
        go_upto_region 7 with fail
        go_cut [40] from 35 to 41 (fun _ wx => ∃ vE', TD w wx d s col R Q tq (esc.filter fun e => !endsB g.e.till e) G (E ++ (esc.filter (endsB g.e.till)).map fun e => e.id) vG vE')
        case first =>
          go_region_law (first
            | (refine step_call (by rfl) 153 _ _ (by rfl) _ (by simp [Act.eval, Act.put]) (entEndBy _ _) EB.out ?_; rintro e w4 ⟨v2, rfl, p⟩; refine ⟨_, rfl, ?_⟩; obtain ⟨a, nn, cap, w5, hrun, b6, f6, b64, TDn⟩ := AP.out v2 w4 p; have HR := hidp hrun; clear hrun)
            | (refine step_append_run (by rfl) _ _ _ _ (by rfl) (HR.out _) ?_))
          all_goals
            go_wp2_with fail
            go_meet
            exact ⟨_, TDn⟩
        case rest =>
          obtain ⟨vE', T1⟩ := hcut
          have hcE : wc.cell? ⟨R, 6, none⟩ = some vE' := by obtain ⟨_, _, _, _, _, _, _, hr⟩ := T1.ex; exact hr.cells.2.1
          obtain ⟨r2, c2, D2, O2, W2, H2, S2, RB2⟩ := T1.ex
          have GR := hidp (grant_any (D2.later (blwDrew wc)) O2 W2 H2 KN.out.2.1)
          have hg2 : G.length + (Desk.grantS s.ts (esc.filter fun e => !endsB g.e.till e)).2.length ≤ 100000 := by
            have h1 := gfold_len s.ts ((esc.filter fun e => !endsB g.e.till e).filter Desk.waitsB) (esc.filter fun e => !endsB g.e.till e, [])
            have h2 := List.length_filter_le Desk.waitsB (esc.filter fun e => !endsB g.e.till e)
            have h3 := mid_len KN.out.2.1
            have e1 := Desk.grant_fold s.ts (esc.filter fun e => !endsB g.e.till e) KN.out.2.1.ids
            simp only [List.length_nil] at h1 h3
            rw [← e1] at h1
            omega
          have AG := hidp (fun v2 w4 (p : GrantPost wc.drew d { s with es := esc.filter fun e => !endsB g.e.till e } c2 v2 w4) => TD.granted (S2.trans (Step.below (blwDrew wc))) (RB2.later (blwDrew wc)) p hg2)
          have cG := RB2.cells.1
          have CE := hidp cE
          clear D2 O2 W2 H2 S2 RB2 T1 EB AP hg2 cE hgl
          go_upto_region 8 with fail
          go_region_law (first
            | (refine step_call (by rfl) 63 _ _ (by rfl) _ (by simp [Act.eval, Act.put]) (entGrant _ _) GR.out ?_; rintro e w4 ⟨v2, rfl, p⟩; refine ⟨_, rfl, ?_⟩; obtain ⟨a, nn, cap, w5, hrun, b6, f6, b64, TDn⟩ := AG.out v2 w4 p; have HR := hidp hrun; clear hrun)
            | (refine step_append_run (by rfl) _ _ _ _ (by rfl) (HR.out _) ?_))
          all_goals
            have TN := hidp TDn
            clear TDn p b6 f6 b64 GR AG HR cG hcE
            go_wp2_with fail
            go_roundw
            case rel => exact ⟨_, _, _, _, _, _, _, TN.out, KN.out.1⟩
            case measure =>
              obtain ⟨_, _, _, _, _, _, _, hr⟩ := TN.out.ex
              have e1 := hr.cells.2.1
              have e2 := hr.e.len
              have h1 := KN.out.1.cnt
              have h2 := KN.out.2.2.2
              have h3 := KN.out.2.2.1
              rw [List.length_append, List.length_map] at e2 h1
              rw [e1, CE.out]
              simp only [Option.getD_some]
              omega

end Go.Proofs.YtjfkfiffakbagaaGreatDoor


/-
  Package desk: having, asked.
-/
namespace Go.Proofs.YtjfkfiffakbagaaGreatDoor
open Go.RowKit
open Desk (Ent St Ids kept booked bookE sumA Items ofB sameB Risen Mid EntOk endsB Inv)

theorem thAt_some {s : St} {r : Raw} (ho : Of s r) (hp : s.ts.Pairwise fun t u => sameB t.1 u.1 = false) {name : ByteArray} {b : Nat} (h : thAt r.tg name = some b) : ∃ (i : Nat) (hi : i < r.tg.length), r.tg[i].name = name ∧ r.tg[i].tb = b ∧ Desk.unitsN name s.ts = r.tg[i].units := by
  rw [thAt_find] at h
  cases e : r.tg.find? fun t => sameB t.name name with
  | none => rw [e] at h; cases h
  | some t =>
    rw [e] at h
    obtain ⟨i, hi, rfl⟩ := List.getElem_of_mem (List.mem_of_find?_eq_some e)
    have hn : r.tg[i].name = name := sameB_eq.1 (by simpa using List.find?_some e)
    refine ⟨i, hi, hn, by simpa using h, ?_⟩
    have e1 := unitsN_at hp (i := i) (by rw [← ho.len]; exact hi)
    rw [ho.tsAt hi] at e1
    rw [← hn]; exact e1
theorem thAt_none {s : St} {r : Raw} (ho : Of s r) {name : ByteArray} (h : thAt r.tg name = none) : Desk.unitsN name s.ts = 0 := by
  refine unitsN_zero (fun t ht e => ?_)
  rw [← ho.ts] at ht
  obtain ⟨x, hx, rfl⟩ := List.mem_map.1 ht
  rw [thAt_find] at h
  cases e2 : r.tg.find? fun t => sameB t.name name with
  | none =>
    have := List.find?_eq_none.1 e2 x hx
    exact this (sameB_eq.2 e)
  | some y => rw [e2] at h; cases h

/-- What having and asked answer. -/
def HavPost (s : St) (r : Raw) (name : ByteArray) (err : Int) (e : Ending) : Prop :=
  (err ≠ 0 ∧ e = .returned (.tuple #[.pointer none, .int .i64 err])) ∨ (err = 0 ∧ ∃ (i : Nat) (hi : i < r.tg.length), r.tg[i].name = name ∧ Desk.unitsN name s.ts = r.tg[i].units ∧ e = .returned (.tuple #[.pointer (some ⟨r.tg[i].tb, 0, none⟩), .int .i64 0]))

theorem zeroPT (w : World) : (zeroValue 192).run Tryz.prog w = .ok (.pointer none) w := by simp [go_sem]

set_option maxRecDepth 100000 in
set_option maxHeartbeats 1000000 in
theorem having_any {w : World} {d : Nat} {s : St} {r : Raw} {col : Nat → Option Col} (h : DK w d r col) (ho : Of s r) (hm : Mid s) (name : ByteArray) (hn : name.size ≤ 1000) (u : Int) :
    Calls Tryz.prog 143 #[.pointer (some ⟨d, 0, none⟩), .string name, .int .i64 u] w fun e w' => HavPost s r name (Desk.askedN s.ts name u) e ∧ w' = w := by
  obtain ⟨m, f, a1, a2, a3, a4⟩ := h.mt
  have kk := key_str hn
  have hlook := a3.look keyStr Tryz.underlying125 (zeroPT w) kk
  rw [a4 name] at hlook
  cases ht : thAt r.tg name with
  | none =>
    rw [ht] at hlook
    have hu := thAt_none ho ht
    have e1 : Desk.askedN s.ts name u = 3 := by unfold Desk.askedN; rw [if_pos hu]
    have hlook' : (Instr.lookup 125 (.map (some m)) (.string name) false).run Tryz.prog w = .ok (.pointer none) w := hlook
    have HF : Hid (HavPost s r name (Desk.askedN s.ts name u) (.returned (.tuple #[.pointer none, .int .i64 3]))) := .inl ⟨by rw [e1]; omega, by rw [e1]⟩
    clear hlook e1 hu ht a3 a4 h ho hm
    go_enter Tryz.func143, Tryz.ntmps143
    go_wp2_with fail
    go_ret2
    exact ⟨HF.out, rfl⟩
  | some b =>
    rw [ht] at hlook
    obtain ⟨i, hi, e1, e2, e3⟩ := thAt_some ho hm.tn ht
    obtain ⟨ul, us, Fl, Fs, t1, t2⟩ := h.th i hi
    have cu := t1.c1
    rw [e2] at cu
    have hpos : Desk.unitsN name s.ts ≠ 0 := by
      rw [e3]
      have hin : (r.tg[i].name, r.tg[i].units) ∈ s.ts := by rw [← ho.tsAt hi]; exact List.getElem_mem _
      have := (hm.tu _ hin).1
      simp only at this
      omega
    have hlook' : (Instr.lookup 125 (.map (some m)) (.string name) false).run Tryz.prog w = .ok (.pointer (some ⟨b, 0, none⟩)) w := hlook
    by_cases hc : r.tg[i].units < u
    · have e4 : Desk.askedN s.ts name u = 7 := by unfold Desk.askedN; rw [if_neg hpos, if_pos (by omega)]
      have HF : Hid (HavPost s r name (Desk.askedN s.ts name u) (.returned (.tuple #[.pointer none, .int .i64 7]))) := .inl ⟨by rw [e4]; omega, by rw [e4]⟩
      clear hlook ht a3 a4 h ho hm e1 e2 e3 t1 t2 hpos e4
      generalize r.tg[i].units = un at *
      go_enter Tryz.func143, Tryz.ntmps143
      go_wp2_with fail
      go_ret2
      exact ⟨HF.out, rfl⟩
    · have e4 : Desk.askedN s.ts name u = 0 := by unfold Desk.askedN; rw [if_neg hpos, if_neg (by omega)]
      have HF : Hid (HavPost s r name (Desk.askedN s.ts name u) (.returned (.tuple #[.pointer (some ⟨b, 0, none⟩), .int .i64 0]))) := .inr ⟨e4, i, hi, e1, e3, by rw [e2]⟩
      clear hlook ht a3 a4 h ho hm e1 e2 e3 t1 t2 hpos e4
      generalize r.tg[i].units = un at *
      go_enter Tryz.func143, Tryz.ntmps143
      go_wp2_with fail
      go_ret2
      exact ⟨HF.out, rfl⟩

def askErr (s : St) (name : ByteArray) (u fr til : Int) : Int := if Desk.askedN s.ts name u ≠ 0 then Desk.askedN s.ts name u else if til ≤ fr then 6 else 0

set_option maxRecDepth 100000 in
set_option maxHeartbeats 1000000 in
theorem asked_any {w : World} {d : Nat} {s : St} {r : Raw} {col : Nat → Option Col} (h : DK w d r col) (ho : Of s r) (hm : Mid s) (name : ByteArray) (hn : name.size ≤ 1000) (u fr til : Int) :
    Calls Tryz.prog 140 #[.pointer (some ⟨d, 0, none⟩), .string name, .int .i64 u, .agg #[.int .i64 fr, .int .i64 til]] w fun e w' => HavPost s r name (askErr s name u fr til) e ∧ Below w.heap.size w w' := by
  have hX : Below w.heap.size w (w.alloc (.cells #[.int .i64 fr, .int .i64 til] 60)) := (Below.refl _ _).alloc (Nat.le_refl _) _
  have HV := hidp (having_any (h.later hX) ho hm name hn u)
  have HX := hidp hX
  clear h ho hm hX
  go_enter Tryz.func140, Tryz.ntmps140
  go_wp2_with fail
  refine HV.out.mono ?_
  rintro e w1 ⟨hp, hw1⟩
  have HW := hidp (show Below w.heap.size w w1 by rw [hw1]; exact HX.out)
  have x0 : w1.cell? ⟨w.heap.size, 0, none⟩ = some (.int .i64 fr) := by rw [hw1]; simp
  have x1 : w1.cell? ⟨w.heap.size, 1, none⟩ = some (.int .i64 til) := by rw [hw1]; simp
  clear hw1 HV HX
  rcases hp with ⟨h1, rfl⟩ | ⟨h1, i, hi, e1, e2, rfl⟩
  · have HF : Hid (HavPost s r name (askErr s name u fr til) (.returned (.tuple #[.pointer none, .int .i64 (Desk.askedN s.ts name u)]))) := by
      have : askErr s name u fr til = Desk.askedN s.ts name u := by unfold askErr; rw [if_pos h1]
      rw [this]; exact .inl ⟨h1, rfl⟩
    generalize Desk.askedN s.ts name u = e0 at *
    have hb : (e0 != 0) = true := by simpa using h1
    go_wp2_with fail
    go_ret2
    exact ⟨HF.out, HW.out⟩
  · by_cases hc : til ≤ fr
    · have HF : Hid (HavPost s r name (askErr s name u fr til) (.returned (.tuple #[.pointer none, .int .i64 6]))) := by
        have : askErr s name u fr til = 6 := by unfold askErr; rw [if_neg (by omega), if_pos hc]
        rw [this]; exact .inl ⟨by omega, rfl⟩
      clear h1 e1 e2
      go_wp2_with fail
      go_ret2
      exact ⟨HF.out, HW.out⟩
    · have HF : Hid (HavPost s r name (askErr s name u fr til) (.returned (.tuple #[.pointer (some ⟨r.tg[i].tb, 0, none⟩), .int .i64 0]))) := by
        have : askErr s name u fr til = 0 := by unfold askErr; rw [if_neg (by omega), if_neg hc]
        rw [this]; exact .inr ⟨rfl, i, hi, e1, e2, rfl⟩
      clear h1 e1 e2
      go_wp2_with fail
      go_ret2
      exact ⟨HF.out, HW.out⟩

end Go.Proofs.YtjfkfiffakbagaaGreatDoor


/-
  What a line's method answers and leaves; confirm, cancel.
-/
namespace Go.Proofs.YtjfkfiffakbagaaGreatDoor
open Go.RowKit
open Desk (Ent St Ids kept booked bookE sumA Items ofB sameB Risen Mid EntOk endsB Inv)

def spV (p : Int × Int) : List Value := [.int .i64 p.1, .int .i64 p.2]
/-- An entry as it is told, with its list. -/
def tellV (p : Ent × Value) : List Value := [.int .i64 p.1.id, .int .i64 p.1.kind, .string p.1.thing, .int .i64 p.1.units, p.2, .int .i64 p.1.till]
/-- The list of a told entry: its own. -/
structure SpRow (w : World) (B : Nat) (col : Nat → Option Col) (v : Value) (L : List (Int × Int)) : Prop where
  own : w.ownsRow B 60 2 v L.length (L.flatMap spV)
  no : ∀ b, v.ownBlock = some b → col b = none
/-- A row of told entries. -/
structure ERow (w : World) (B : Nat) (col : Nat → Option Col) (v : Value) (l : List (Ent × Value)) : Prop where
  own : w.ownsRow B 58 6 v l.length (l.flatMap tellV)
  no : ∀ b, v.ownBlock = some b → col b = none
  sp : ∀ p ∈ l, SpRow w B col p.2 p.1.spans ∧ ∀ b, p.2.ownBlock = some b → v.ownBlock ≠ some b
theorem ERow.nil (w : World) (B : Nat) (col : Nat → Option Col) : ERow w B col (.slice none 0 0) [] := ⟨World.ownsRow_nil _ _ _ _, (fun b hb => by cases hb), (by simp)⟩
theorem SpRow.step {S : Col → Prop} {B : Nat} {col col' : Nat → Option Col} {w w' : World} {B0 : Nat} {v : Value} {l : List (Int × Int)} (h : SpRow w B0 col v l) (st : Step S B col col' w w') (hB : w.heap.size ≤ B) : SpRow w' B0 col' v l := by
  have hv : ∀ b, v.ownBlock = some b → col b = none ∧ b < B := fun b hb => ⟨h.no b hb, Nat.lt_of_lt_of_le (h.own.lt b hb).2 hB⟩
  exact ⟨st.own h.own hv, fun b hb => st.keepN (hv b hb).1 (hv b hb).2⟩
theorem ERow.step {S : Col → Prop} {B : Nat} {col col' : Nat → Option Col} {w w' : World} {B0 : Nat} {v : Value} {l : List (Ent × Value)} (h : ERow w B0 col v l) (st : Step S B col col' w w') (hB : w.heap.size ≤ B) : ERow w' B0 col' v l := by
  have hv : ∀ b, v.ownBlock = some b → col b = none ∧ b < B := fun b hb => ⟨h.no b hb, Nat.lt_of_lt_of_le (h.own.lt b hb).2 hB⟩
  exact ⟨st.own h.own hv, fun b hb => st.keepN (hv b hb).1 (hv b hb).2, fun p hp => ⟨(h.sp p hp).1.step st hB, (h.sp p hp).2⟩⟩

/-- An answer in memory: its rows are nobody else's, and apart. -/
def RepIs (w : World) (B : Nat) (col : Nat → Option Col) (v : Value) (p : Desk.Rep) : Prop :=
  ∃ (en da gr ed : Value) (l : List (Ent × Value)), v = repV p.err p.at_ p.n en da gr ed ∧ l.map (·.1) = p.entries ∧ ERow w B col en l ∧ NRow w B col da p.days ∧ NRow w B col gr p.granted ∧ NRow w B col ed p.ended ∧ (∀ b, gr.ownBlock = some b → en.ownBlock ≠ some b ∧ da.ownBlock ≠ some b ∧ ed.ownBlock ≠ some b ∧ ∀ q ∈ l, q.2.ownBlock ≠ some b)
theorem RepIs.plain (w : World) (B : Nat) (col : Nat → Option Col) (e n : Int) : RepIs w B col (repV e 0 n (.slice none 0 0) (.slice none 0 0) (.slice none 0 0) (.slice none 0 0)) ⟨e, 0, n, [], [], [], []⟩ :=
  ⟨_, _, _, _, [], rfl, rfl, ERow.nil _ _ _, NRow.nil _ _ _, NRow.nil _ _ _, NRow.nil _ _ _, fun b hb => by cases hb⟩

/-- What a line's method answers and leaves. -/
def AnsPost (w : World) (d : Nat) (col : Nat → Option Col) (q : St × Desk.Rep) (v : Value) (w' : World) : Prop :=
  ∃ (r' : Raw) (col' : Nat → Option Col), DK w' d r' col' ∧ Of q.1 r' ∧ Wl r' ∧ Hl r' ∧ Step anyS w.heap.size col col' w w' ∧ RepIs w' w.heap.size col' v q.2
/-- A desk in memory, with the state it stands for. -/
structure DSt (w : World) (d : Nat) (s : St) (r : Raw) (col : Nat → Option Col) : Prop where
  dk : DK w d r col
  of : Of s r
  wl : Wl r
  hl : Hl r
  inv : Inv s
theorem DSt.mid {w : World} {d : Nat} {s : St} {r : Raw} {col : Nat → Option Col} (h : DSt w d s r col) : Mid s := h.inv.mid
theorem findE_some {s : St} {r : Raw} (ho : Of s r) {g : EG} (hn : (r.eg.map (·.e.id)).Nodup) (hg : g ∈ r.eg) : Desk.findE g.e.id s.es = some g.e := by
  unfold Desk.findE
  cases h : s.es.find? fun e => decide (e.id = g.e.id) with
  | none =>
    have := List.find?_eq_none.1 h g.e (ho.mem hg)
    simp at this
  | some e =>
    have h1 := List.mem_of_find?_eq_some h
    have h2 := List.find?_some h
    obtain ⟨x, hx, rfl⟩ := ho.get h1
    have : x = g := nodup_map_inj _ hn hx hg (by simpa using h2)
    rw [this]
theorem findE_none {s : St} {r : Raw} (ho : Of s r) {id : Int} (h : enAt r.eg id = none) : Desk.findE id s.es = none := by
  unfold Desk.findE
  refine List.find?_eq_none.2 (fun e he => ?_)
  obtain ⟨x, hx, rfl⟩ := ho.get he
  simpa using enAt_nil h x hx

/-- The block of the answer that will be handed back. -/
structure Q7 (Z : World) (Q : Nat) : Prop where
  q0 : Z.cell? ⟨Q, 0, none⟩ = some (.int .i64 0)
  q1 : Z.cell? ⟨Q, 1, none⟩ = some (.int .i64 0)
  q2 : Z.cell? ⟨Q, 2, none⟩ = some (.int .i64 0)
  q3 : Z.cell? ⟨Q, 3, none⟩ = some (.slice none 0 0)
  q4 : Z.cell? ⟨Q, 4, none⟩ = some (.slice none 0 0)
  q5 : Z.cell? ⟨Q, 5, none⟩ = some (.slice none 0 0)
  q6 : Z.cell? ⟨Q, 6, none⟩ = some (.slice none 0 0)
  fq : ∀ o, Z.frozen? ⟨Q, o, none⟩ = false
def zeroR : Obj := .cells #[.int .i64 0, .int .i64 0, .int .i64 0, .slice none 0 0, .slice none 0 0, .slice none 0 0, .slice none 0 0] 40 (0, 0)
theorem Q7.of {w : World} {Q : Nat} (h : w.heap[Q]? = some zeroR) : Q7 w Q := by
  unfold zeroR at h
  refine ⟨?_, ?_, ?_, ?_, ?_, ?_, ?_, fun o => frozen_of_row _ Q o _ _ h⟩
  all_goals (simp only [World.cell?, h]; rfl)
theorem Q7.later {w w' : World} {Q : Nat} (h : Q7 w Q) (hb : w'.heap[Q]? = w.heap[Q]?) : Q7 w' Q :=
  ⟨(World.cell?_of_block hb).trans h.q0, (World.cell?_of_block hb).trans h.q1, (World.cell?_of_block hb).trans h.q2, (World.cell?_of_block hb).trans h.q3, (World.cell?_of_block hb).trans h.q4, (World.cell?_of_block hb).trans h.q5, (World.cell?_of_block hb).trans h.q6, fun o => (World.frozen?_of_block hb).trans (h.fq o)⟩
/-- A plain answer has been put into its block. -/
theorem ansPlain {w Z : World} {d : Nat} {col col' : Nat → Option Col} {s' : St} {r' : Raw} (h1 : DK Z d r' col') (h2 : Of s' r') (h3 : Wl r') (h4 : Hl r') (h5 : Step anyS w.heap.size col col' w Z) {Q : Nat} (hQ : w.heap.size ≤ Q) (hn : col' Q = none) (er n : Int) (a b c e f g i : Value) :
    AnsPost w d col (s', ⟨er, 0, n, [], [], [], []⟩) (repV er 0 n (.slice none 0 0) (.slice none 0 0) (.slice none 0 0) (.slice none 0 0)) (set7 Z Q a b c e f g i) := by
  have k := set7_off Z Q a b c e f g i
  have st : Step anyS w.heap.size col' col' Z (set7 Z Q a b c e f g i) := ⟨⟨_, k, fun x hx => .inr (by have : x = Q := List.mem_singleton.1 hx; subst this; exact ⟨hn, hQ⟩)⟩, fun _ _ h => h, fun _ _ h => .inl h⟩
  exact ⟨r', col', h1.off k (fun x hx => by have : x = Q := List.mem_singleton.1 hx; subst this; exact hn), h2, h3, h4, h5.trans st, RepIs.plain _ _ _ _ _⟩
theorem DSt.said {w Z : World} {d : Nat} {s : St} {r : Raw} {col : Nat → Option Col} (h : DSt w d s r col) (k : Below w.heap.size w Z) {Q : Nat} (hQ : w.heap.size ≤ Q) (er n : Int) (a b c e f g i : Value) :
    AnsPost w d col (s, ⟨er, 0, n, [], [], [], []⟩) (repV er 0 n (.slice none 0 0) (.slice none 0 0) (.slice none 0 0) (.slice none 0 0)) (set7 Z Q a b c e f g i) :=
  ansPlain (h.dk.later k) h.of h.wl h.hl (Step.below k) hQ (h.dk.none hQ) er n a b c e f g i

/-- A world with two blocks more: a line's words, and an answer. -/
theorem two_more {w : World} (a : Obj) : Below w.heap.size w ((w.alloc a).alloc zeroR) ∧ ((w.alloc a).alloc zeroR).heap[w.heap.size + 1]? = some zeroR := by
  refine ⟨((Below.refl _ _).alloc (Nat.le_refl _) _).alloc (by simp) _, ?_⟩
  have := heapNew (w.alloc a) zeroR
  rwa [World.size_alloc] at this

set_option maxRecDepth 100000 in
set_option maxHeartbeats 2000000 in
theorem confirm_any {w : World} {d : Nat} {s : St} {r : Raw} {col : Nat → Option Col} (h : DSt w d s r col) (id : Int) (hid : 0 ≤ id ∧ id ≤ 9999999) :
    Calls Tryz.prog 96 #[.pointer (some ⟨d, 0, none⟩), .agg #[.int .i64 id]] w fun e w' => ∃ v, e = .returned v ∧ AnsPost w d col (Desk.doesD s (.confirm id)) v w' := by
  obtain ⟨hX, hXQ⟩ := two_more (w := w) (.cells #[.int .i64 id] 161)
  have xi : ((w.alloc (.cells #[.int .i64 id] 161)).alloc zeroR).cell? ⟨w.heap.size, 0, none⟩ = some (.int .i64 id) := by simp [zeroR]
  have HH := hidp h
  have HX := hidp (And.intro hX hXQ)
  clear h hX hXQ
  go_enter Tryz.func96, Tryz.ntmps96
  go_upto_region 1 with fail
  change Code.wp _ _ _ _ ((w.alloc (.cells #[.int .i64 id] 161)).alloc zeroR)
  generalize (w.alloc (.cells #[.int .i64 id] 161)).alloc zeroR = X at HX xi ⊢
  have hx := HH.out.dk.later HX.out.1
  obtain ⟨m, f, a1, a2, a3, a4⟩ := hx.me
  have kk := key_int (n := id) (by omega) (by omega)
  have hlook := (a3.block (w' := X.drew) rfl).look keyInt Tryz.underlying126 (zeroPE X.drew) kk
  rw [a4 id] at hlook
  have QX : Hid (Q7 X.drew (w.heap.size + 1)) := Q7.of HX.out.2
  have BX : Hid (Below w.heap.size w X.drew) := HX.out.1.drew
  cases he : enAt r.eg id with
  | none =>
    rw [he] at hlook
    have hlook' : (Instr.lookup 126 (.map (some m)) (.int .i64 id) false).run Tryz.prog X.drew = .ok (.pointer none) X.drew := hlook
    have HD : Hid (Desk.doesD s (.confirm id) = (s, Desk.Rep.error 9)) := by have e := findE_none HH.out.of he; simp only [Hid, Desk.doesD, e]
    clear hlook a3 a4 he hx HX
    go_big_region
    clear hlook' xi a1
    go_wp2_with fail
    refine (refused_any 9 X.drew).mono ?_
    rintro e w1 ⟨rfl, hb⟩
    have hq := hb.block (w.heap.size + 1) (World.block_lt_of_cell? _ _ QX.out.q0)
    have HF : Hid (AnsPost w d col (Desk.doesD s (.confirm id)) (repV 9 0 0 (.slice none 0 0) (.slice none 0 0) (.slice none 0 0) (.slice none 0 0)) (set7 w1 (w.heap.size + 1) (.int .i64 9) (.int .i64 0) (.int .i64 0) (.slice none 0 0) (.slice none 0 0) (.slice none 0 0) (.slice none 0 0))) := by
      rw [HD.out]; exact HH.out.said (BX.out.trans (hb.mono BX.out.size)) (by omega) 9 0 _ _ _ _ _ _ _
    obtain ⟨q0, q1, q2, q3, q4, q5, q6, fq⟩ := QX.out.later hq
    simp only [repV]
    go_wp2_with fail
    exact bodyPost_ret (v := repV 9 0 0 (.slice none 0 0) (.slice none 0 0) (.slice none 0 0) (.slice none 0 0)) (by simp [results, Tryz.results96, go_sem, repV, q0, q1, q2, q3, q4, q5, q6]) rfl ⟨_, rfl, HF.out⟩
  | some b =>
    rw [he] at hlook
    obtain ⟨g, hg, rfl, rfl⟩ := enAt_inv he
    have hlook' : (Instr.lookup 126 (.map (some m)) (.int .i64 g.e.id) false).run Tryz.prog X.drew = .ok (.pointer (some ⟨g.eb, 0, none⟩)) X.drew := hlook
    have hf := findE_some HH.out.of hx.ni hg
    have ck : X.drew.cell? ⟨g.eb, 1, none⟩ = some (.int .i64 g.e.kind) := (hx.en g hg).1.k
    have hd := hx.later (blwDrew X)
    by_cases hk : g.e.kind = 2
    · have HD : Hid (Desk.doesD s (.confirm g.e.id) = ({ s with es := booked g.e.id s.es }, Desk.Rep.num 0)) := by simp only [Hid, Desk.doesD, hf, hk]; simp
      have hcnt : r.hl.length ≤ 1000 := by
        have h1 := HH.out.hl.len
        have h2 : r.eg.length = s.es.length := by rw [← HH.out.of.es]; simp
        have h3 := mid_len HH.out.mid
        omega
      have SE := hidp (settle_any hd HH.out.hl.1 hcnt hg ⟨_, HH.out.hl.has hg (by omega), rfl, rfl⟩)
      have HG := hidp (And.intro hg hk)
      have hkb : (g.e.kind != 2) = false := by simpa using hk
      have NI := hidp hx.ni
      clear hlook a3 a4 he hx HX hf hk hd hcnt hg
      go_big_region
      clear hlook' xi a1
      go_wp2_with fail
      refine SE.out.mono ?_
      rintro e w1 ⟨rfl, x, l', col1, k1, k2, k3, k4, k5, k6⟩
      have hQ : w.heap.size + 1 < X.drew.heap.size := World.block_lt_of_cell? _ _ QX.out.q0
      have hcQ : col (w.heap.size + 1) = none := HH.out.dk.none (by omega)
      have hq := k6.blockN hQ hcQ hQ
      have HF : Hid (AnsPost w d col (Desk.doesD s (.confirm g.e.id)) (repV 0 0 0 (.slice none 0 0) (.slice none 0 0) (.slice none 0 0) (.slice none 0 0)) (set7 w1 (w.heap.size + 1) (.int .i64 0) (.int .i64 0) (.int .i64 0) (.slice none 0 0) (.slice none 0 0) (.slice none 0 0) (.slice none 0 0))) := by
        rw [HD.out]
        have g2 := HG.out.2
        refine ansPlain k5 ?_ (HH.out.wl.conf NI.out HG.out.1 (by omega)) (HH.out.hl.book NI.out HG.out.1 (by omega) k2 k3 k4) ((Step.below BX.out).trans (k6.any BX.out.size)) (by omega) (k6.keepN hcQ hQ) 0 0 _ _ _ _ _ _ _
        have o := HH.out.of.conf HH.out.inv.ids HG.out.1 (by omega)
        exact ⟨o.now, o.given, o.ts, o.es, o.th, o.tb⟩
      clear k1 k2 k3 k4 k5 k6 SE ck
      obtain ⟨q0, q1, q2, q3, q4, q5, q6, fq⟩ := QX.out.later hq
      go_wp2_with fail
      exact bodyPost_ret (v := repV 0 0 0 (.slice none 0 0) (.slice none 0 0) (.slice none 0 0) (.slice none 0 0)) (by simp [results, Tryz.results96, go_sem, repV, q0, q1, q2, q3, q4, q5, q6]) rfl ⟨_, rfl, HF.out⟩
    · have HD : Hid (Desk.doesD s (.confirm g.e.id) = (s, Desk.Rep.error 10)) := by simp only [Hid, Desk.doesD, hf]; rw [if_pos hk]
      have hkb : (g.e.kind != 2) = true := by simpa using hk
      clear hlook a3 a4 he hx HX hf hk hd
      go_big_region
      clear hlook' xi a1
      go_wp2_with fail
      refine (refused_any 10 X.drew).mono ?_
      rintro e w1 ⟨rfl, hb⟩
      have hq := hb.block (w.heap.size + 1) (World.block_lt_of_cell? _ _ QX.out.q0)
      have HF : Hid (AnsPost w d col (Desk.doesD s (.confirm g.e.id)) (repV 10 0 0 (.slice none 0 0) (.slice none 0 0) (.slice none 0 0) (.slice none 0 0)) (set7 w1 (w.heap.size + 1) (.int .i64 10) (.int .i64 0) (.int .i64 0) (.slice none 0 0) (.slice none 0 0) (.slice none 0 0) (.slice none 0 0))) := by
        rw [HD.out]; exact HH.out.said (BX.out.trans (hb.mono BX.out.size)) (by omega) 10 0 _ _ _ _ _ _ _
      clear ck
      obtain ⟨q0, q1, q2, q3, q4, q5, q6, fq⟩ := QX.out.later hq
      simp only [repV]
      go_wp2_with fail
      exact bodyPost_ret (v := repV 10 0 0 (.slice none 0 0) (.slice none 0 0) (.slice none 0 0) (.slice none 0 0)) (by simp [results, Tryz.results96, go_sem, repV, q0, q1, q2, q3, q4, q5, q6]) rfl ⟨_, rfl, HF.out⟩

end Go.Proofs.YtjfkfiffakbagaaGreatDoor


/-
  An answer that is handed on.
-/
namespace Go.Proofs.YtjfkfiffakbagaaGreatDoor
open Go.RowKit
open Desk (Ent St Ids kept booked bookE sumA Items ofB sameB Risen Mid EntOk endsB Inv)

theorem own_slice {w : World} {B e size n : Nat} {v : Value} {xs : List Value} (h : w.ownsRow B e size v n xs) : ∃ a cap, v = .slice a n cap := by
  rcases h.2 with ⟨rfl, h0⟩ | ⟨g, cap, _, rfl, _⟩
  · rw [h0]; exact ⟨_, _, rfl⟩
  · exact ⟨_, _, rfl⟩
theorem SpRow.off {w w' : World} {B : Nat} {col : Nat → Option Col} {v : Value} {l : List (Int × Int)} {G : List Nat} (h : SpRow w B col v l) (k : Off G w w') (hG : ∀ x ∈ G, x < B) : SpRow w' B col v l :=
  ⟨ownOff h.own k (fun b hb hx => by have := (h.own.lt b hb).1; have := hG b hx; omega), h.no⟩
theorem NRow.off {w w' : World} {B : Nat} {col : Nat → Option Col} {v : Value} {l : List Int} {G : List Nat} (h : NRow w B col v l) (k : Off G w w') (hG : ∀ x ∈ G, x < B) : NRow w' B col v l :=
  ⟨ownOff h.own k (fun b hb hx => by have := (h.own.lt b hb).1; have := hG b hx; omega), h.no⟩
theorem ERow.off {w w' : World} {B : Nat} {col : Nat → Option Col} {v : Value} {l : List (Ent × Value)} {G : List Nat} (h : ERow w B col v l) (k : Off G w w') (hG : ∀ x ∈ G, x < B) : ERow w' B col v l :=
  ⟨ownOff h.own k (fun b hb hx => by have := (h.own.lt b hb).1; have := hG b hx; omega), h.no, fun p hp => ⟨(h.sp p hp).1.off k hG, (h.sp p hp).2⟩⟩
theorem ERow.base {w : World} {B B' : Nat} {col : Nat → Option Col} {v : Value} {l : List (Ent × Value)} (h : ERow w B col v l) (hb : B' ≤ B) : ERow w B' col v l :=
  ⟨Joins.ownsRow_le h.own hb, h.no, fun p hp => ⟨⟨Joins.ownsRow_le (h.sp p hp).1.own hb, (h.sp p hp).1.no⟩, (h.sp p hp).2⟩⟩
theorem RepIs.off {w w' : World} {B : Nat} {col : Nat → Option Col} {v : Value} {p : Desk.Rep} {G : List Nat} (h : RepIs w B col v p) (k : Off G w w') (hG : ∀ x ∈ G, x < B) : RepIs w' B col v p := by
  obtain ⟨en, da, gr, ed, l, e1, e2, e3, e4, e5, e6, e7⟩ := h
  exact ⟨en, da, gr, ed, l, e1, e2, e3.off k hG, e4.off k hG, e5.off k hG, e6.off k hG, e7⟩
theorem RepIs.base {w : World} {B B' : Nat} {col : Nat → Option Col} {v : Value} {p : Desk.Rep} (h : RepIs w B col v p) (hb : B' ≤ B) : RepIs w B' col v p := by
  obtain ⟨en, da, gr, ed, l, e1, e2, e3, e4, e5, e6, e7⟩ := h
  exact ⟨en, da, gr, ed, l, e1, e2, e3.base hb, e4.base hb, e5.base hb, e6.base hb, e7⟩
/-- An answer is handed on: it is put into the block of an answer. -/
theorem AnsPost.up {w X w2 : World} {d Q : Nat} {col : Nat → Option Col} {q : St × Desk.Rep} {v : Value} (h : AnsPost X d col q v w2) (hb : Below w.heap.size w X) (hQ : w.heap.size ≤ Q) (hQX : Q < X.heap.size) (hc : col Q = none) (h7 : Q7 X Q) :
    ∃ (er at_ n : Int) (a1 a2 a3 a4 : Option Addr) (n1 n2 n3 n4 c1 c2 c3 c4 : Nat), v = repV er at_ n (.slice a1 n1 c1) (.slice a2 n2 c2) (.slice a3 n3 c3) (.slice a4 n4 c4) ∧ Q7 w2 Q ∧ ∀ a b c e f g i, AnsPost w d col q v (set7 w2 Q a b c e f g i) := by
  obtain ⟨r', col', k1, k2, k3, k4, k5, k6⟩ := h
  have hR := k6
  obtain ⟨en, da, gr, ed, l, rfl, _, r1, r2, r3, r4, _⟩ := k6
  obtain ⟨b1, c1, rfl⟩ := own_slice r1.own
  obtain ⟨b2, c2, rfl⟩ := r2.slice
  obtain ⟨b3, c3, rfl⟩ := r3.slice
  obtain ⟨b4, c4, rfl⟩ := r4.slice
  refine ⟨_, _, _, _, _, _, _, _, _, _, _, _, _, _, _, rfl, h7.later (k5.blockN hQX hc hQX), fun a b c e f g i => ?_⟩
  have k := set7_off w2 Q a b c e f g i
  have hn := k5.keepN hc hQX
  have hs := hb.size
  have st : Step anyS w.heap.size col' col' w2 (set7 w2 Q a b c e f g i) := ⟨⟨_, k, fun x hx => .inr (by have : x = Q := List.mem_singleton.1 hx; subst this; exact ⟨hn, hQ⟩)⟩, fun _ _ h => h, fun _ _ h => .inl h⟩
  exact ⟨r', col', k1.off k (fun x hx => by have : x = Q := List.mem_singleton.1 hx; subst this; exact hn), k2, k3, k4, ((Step.below hb).trans (k5.any hs)).trans st, (hR.off k (fun x hx => by have : x = Q := List.mem_singleton.1 hx; omega)).base hs⟩

theorem SpRow.later {w w' : World} {B : Nat} {col : Nat → Option Col} {v : Value} {l : List (Int × Int)} (h : SpRow w B col v l) (k : Below w.heap.size w w') : SpRow w' B col v l := ⟨ownLater h.own k, h.no⟩
theorem ERow.later {w w' : World} {B : Nat} {col : Nat → Option Col} {v : Value} {l : List (Ent × Value)} (h : ERow w B col v l) (k : Below w.heap.size w w') : ERow w' B col v l := ⟨ownLater h.own k, h.no, fun p hp => ⟨(h.sp p hp).1.later k, (h.sp p hp).2⟩⟩

end Go.Proofs.YtjfkfiffakbagaaGreatDoor


/-
  Package desk: New.
-/
namespace Go.Proofs.YtjfkfiffakbagaaGreatDoor
open Go.RowKit
open Desk (Ent St Ids kept booked bookE sumA Items ofB sameB Risen Mid EntOk endsB Inv)

def st0 : St := ⟨[], [], 0, 0⟩
def raw0 : Raw := ⟨0, 0, [], [], [], []⟩
def col0 (N : Nat) (k : Nat) : Option Col := if k = N then some .mt else if k = N + 1 then some .me else if k = N + 2 then some .desk else none
theorem inv0 : Inv st0 := by
  refine ⟨by simp [st0], by simp [st0], by simp [st0], by simp [st0, Ids], by simp [st0], by simp [st0], by simp [st0], by simp [st0], by simp [st0], by simp [st0], by simp [st0], by simp [st0, Desk.waitN], by simp [st0], fun name x => ?_⟩
  simp [st0, Desk.takenN, Desk.unitsN]

/-- A new desk. -/
def NewPost (w : World) (v : Value) (w' : World) : Prop := v = .pointer (some ⟨w.heap.size + 2, 0, none⟩) ∧ DSt w' (w.heap.size + 2) st0 raw0 (col0 w.heap.size) ∧ Below w.heap.size w w'

set_option maxRecDepth 100000 in
set_option maxHeartbeats 1000000 in
theorem deskNew_any (w : World) : Calls Tryz.prog 46 #[] w fun e w' => ∃ v, e = .returned v ∧ NewPost w v w' := by
  have hmm := @run_makeMap Tryz.prog
  have HF : Hid (NewPost w (.pointer (some ⟨w.heap.size + 2, 0, none⟩)) (((w.alloc (.map #[] 0)).alloc (.map #[] 0)).alloc (.cells #[.int .i64 0, .int .i64 0, .map (some w.heap.size), .map (some (w.heap.size + 1)), .slice none 0 0, .slice none 0 0] 132))) := by
    have s1 : (w.alloc (.map #[] 0)).heap.size = w.heap.size + 1 := by simp
    have s2 : ((w.alloc (.map #[] 0)).alloc (.map #[] 0)).heap.size = w.heap.size + 2 := by simp
    have m1 := PMap.made Tryz.prog 9 w
    have m2 := PMap.made Tryz.prog 3 (w.alloc (.map #[] 0))
    have hd := heapNew ((w.alloc (.map #[] 0)).alloc (.map #[] 0)) (.cells #[.int .i64 0, .int .i64 0, .map (some w.heap.size), .map (some (w.heap.size + 1)), .slice none 0 0, .slice none 0 0] 132)
    have b1 : (((w.alloc (.map #[] 0)).alloc (.map #[] 0)).alloc (.cells #[.int .i64 0, .int .i64 0, .map (some w.heap.size), .map (some (w.heap.size + 1)), .slice none 0 0, .slice none 0 0] 132)).heap[w.heap.size]? = (w.alloc (.map #[] 0)).heap[w.heap.size]? := (Below.heap_alloc _ _ _ (by omega)).trans (Below.heap_alloc _ _ _ (by omega))
    have b2 : (((w.alloc (.map #[] 0)).alloc (.map #[] 0)).alloc (.cells #[.int .i64 0, .int .i64 0, .map (some w.heap.size), .map (some (w.heap.size + 1)), .slice none 0 0, .slice none 0 0] 132)).heap[w.heap.size + 1]? = ((w.alloc (.map #[] 0)).alloc (.map #[] 0)).heap[w.heap.size + 1]? := Below.heap_alloc _ _ _ (by omega)
    have hb : Below w.heap.size w (((w.alloc (.map #[] 0)).alloc (.map #[] 0)).alloc (.cells #[.int .i64 0, .int .i64 0, .map (some w.heap.size), .map (some (w.heap.size + 1)), .slice none 0 0, .slice none 0 0] 132)) := (((Below.refl _ _).alloc (Nat.le_refl _) _).alloc (by omega) _).alloc (by omega) _
    have s3 : (((w.alloc (.map #[] 0)).alloc (.map #[] 0)).alloc (.cells #[.int .i64 0, .int .i64 0, .map (some w.heap.size), .map (some (w.heap.size + 1)), .slice none 0 0, .slice none 0 0] 132)).heap.size = w.heap.size + 3 := by simp
    rw [s2] at hd
    rw [s1] at m2
    have m1' := m1.block b1
    have m2' := m2.block b2
    generalize ((w.alloc (.map #[] 0)).alloc (.map #[] 0)).alloc (.cells #[.int .i64 0, .int .i64 0, .map (some w.heap.size), .map (some (w.heap.size + 1)), .slice none 0 0, .slice none 0 0] 132) = Z at *
    have c4 : Z.cell? ⟨w.heap.size + 2, 4, none⟩ = some (.slice none 0 0) := by simp only [World.cell?, hd]; rfl
    have c5 : Z.cell? ⟨w.heap.size + 2, 5, none⟩ = some (.slice none 0 0) := by simp only [World.cell?, hd]; rfl
    refine ⟨rfl, ⟨⟨?_, ?_, ⟨w.heap.size, _, ?_, by simp [col0], m1', fun n => rfl⟩, ⟨w.heap.size + 1, _, ?_, by simp [col0], m2', fun n => rfl⟩, ⟨_, c4, World.ownsRow_nil _ _ _ _, fun b hb => by cases hb⟩, ⟨_, ⟨c5, World.ownsRow_nil _ _ _ _, (by simp [Value.ownBlock]), frozen_of_row _ _ _ _ _ hd⟩, fun b hb => by cases hb⟩, fun i hi => by simp [raw0] at hi, fun g hg => by simp [raw0] at hg, by simp [raw0], by simp [raw0], fun o => frozen_of_row _ _ _ _ _ hd, by simp [col0], fun k c hk => ?_⟩, ⟨rfl, rfl, rfl, rfl, fun i hi => by simp [raw0] at hi, fun g hg => by simp [raw0] at hg⟩, rfl, ⟨?_, List.Perm.nil⟩, inv0⟩, hb⟩
    · simp only [World.cell?, hd]; rfl
    · simp only [World.cell?, hd]; rfl
    · simp only [World.cell?, hd]; rfl
    · simp only [World.cell?, hd]; rfl
    · unfold col0 at hk
      by_cases h1 : k = w.heap.size
      · omega
      · by_cases h2 : k = w.heap.size + 1
        · omega
        · by_cases h3 : k = w.heap.size + 2
          · omega
          · simp [h1, h2, h3] at hk
    · intro i hi1 hi2
      have hi3 : i < ([] : List Hp.Hi).length := by first | exact hi1 | exact hi2
      simp at hi3
  go_enter Tryz.func46, Tryz.ntmps46
  go_wp2_with fail
  go_ret
  exact ⟨_, rfl, HF.out⟩

end Go.Proofs.YtjfkfiffakbagaaGreatDoor


/-
  Package desk: what Do puts together: an answer, and those who were granted.
-/
namespace Go.Proofs.YtjfkfiffakbagaaGreatDoor
open Go.RowKit
open Desk (Ent St Ids kept booked bookE sumA Items ofB sameB Risen Mid EntOk endsB Inv)

/-- A row in a later world: through a new block, a step that leaves it, and the growth of a row beside it. -/
theorem DoRow {S : Col → Prop} {w1 W w4 w5 Z : World} {col1 c4 : Nat → Option Col} {R base e size n : Nat} {v gr : Value} {xs : List Value} (h : w1.ownsRow base e size v n xs) (hc : ∀ b, v.ownBlock = some b → col1 b = none) (kW : Below w1.heap.size w1 W) (q5 : Step S W.heap.size col1 c4 W w4) (k5 : Off gr.ownBlock.toList w4 w5) (k6 : Off [R] w5 Z) (hR : w1.heap.size ≤ R) (ha : ∀ b, v.ownBlock = some b → gr.ownBlock ≠ some b) :
    Z.ownsRow base e size v n xs ∧ ∀ b, v.ownBlock = some b → c4 b = none := by
  have hl : ∀ b, v.ownBlock = some b → b < w1.heap.size := fun b hb => (h.lt b hb).2
  have hs := kW.size
  refine ⟨ownOff (ownOff (q5.own (ownLater h kW) (fun b hb => ⟨hc b hb, by have := hl b hb; omega⟩)) k5 (fun b hb hx => ha b hb (Option.mem_toList.1 hx))) k6 (fun b hb hx => ?_), fun b hb => q5.keepN (hc b hb) (by have := hl b hb; omega)⟩
  have := hl b hb
  have : b = R := List.mem_singleton.1 hx
  omega

/-- Those who were granted are told behind those that the answer told. -/
theorem do_granted {w X w1 w4 : World} {d : Nat} {col col1 : Nat → Option Col} {s1 : St} {r1 : Raw} {p : Desk.Rep} {er at_ n : Int} {en da gr ed v2 : Value} {l : List (Ent × Value)} (hX : Below w.heap.size w X) (hQX : w.heap.size < X.heap.size) (h7 : Q7 X w.heap.size) (hcQ : col w.heap.size = none)
    (k1 : DK w1 d r1 col1) (k5 : Step anyS X.heap.size col col1 X w1) (hl : l.map (·.1) = p.entries) (e3 : ERow w1 X.heap.size col1 en l) (e4 : NRow w1 X.heap.size col1 da p.days) (e5 : NRow w1 X.heap.size col1 gr p.granted) (e6 : NRow w1 X.heap.size col1 ed p.ended) (e7 : ∀ b, gr.ownBlock = some b → en.ownBlock ≠ some b ∧ da.ownBlock ≠ some b ∧ ed.ownBlock ≠ some b ∧ ∀ q ∈ l, q.2.ownBlock ≠ some b) (e1 : er = p.err ∧ at_ = p.at_ ∧ n = p.n)
    (g : GrantPost (w1.alloc (.cells #[.int .i64 er, .int .i64 at_, .int .i64 n, en, da, gr, ed] 40)).drew d s1 col1 v2 w4) (hb : p.granted.length + (Desk.grantS s1.ts s1.es).2.length ≤ 100000) :
    ∃ a m cap w5, (∀ ty, (Builtin.append_ #[38, 38] ty #[gr, v2]).run Tryz.prog w4 = .ok (.slice a m cap) w5) ∧ w4.cell? ⟨w1.heap.size, 5, none⟩ = some gr ∧ w5.heap[w1.heap.size]? = some (.cells #[.int .i64 er, .int .i64 at_, .int .i64 n, en, da, gr, ed] 40 (0, 0)) ∧ Q7 (w5.setCell ⟨w1.heap.size, 5, none⟩ (.slice a m cap)) w.heap.size ∧
      ∀ x1 x2 x3 x4 x5 x6 x7, AnsPost w d col ({ s1 with es := (Desk.grantS s1.ts s1.es).1 }, { p with granted := p.granted ++ (Desk.grantS s1.ts s1.es).2 }) (repV er at_ n en da (.slice a m cap) ed) (set7 (w5.setCell ⟨w1.heap.size, 5, none⟩ (.slice a m cap)) w.heap.size x1 x2 x3 x4 x5 x6 x7) := by
  have kW : Below w1.heap.size w1 (w1.alloc (.cells #[.int .i64 er, .int .i64 at_, .int .i64 n, en, da, gr, ed] 40)).drew := ((Below.refl _ _).alloc (Nat.le_refl _) _).drew
  have hWR : (w1.alloc (.cells #[.int .i64 er, .int .i64 at_, .int .i64 n, en, da, gr, ed] 40)).drew.heap[w1.heap.size]? = some (.cells #[.int .i64 er, .int .i64 at_, .int .i64 n, en, da, gr, ed] 40 (0, 0)) := heapNew w1 _
  have hWs : w1.heap.size < (w1.alloc (.cells #[.int .i64 er, .int .i64 at_, .int .i64 n, en, da, gr, ed] 40)).drew.heap.size := by show _ < (w1.alloc _).heap.size; simp
  generalize (w1.alloc (.cells #[.int .i64 er, .int .i64 at_, .int .i64 n, en, da, gr, ed] 40)).drew = W at *
  obtain ⟨r4, c4, q1, q2, q3, q4, q5, q6⟩ := g
  have hXw := hX.size
  have hXs := k5.size
  have hRc : col1 w1.heap.size = none := k1.none (Nat.le_refl _)
  have g4 := (e5.later kW).step q5 (Nat.le_refl _)
  obtain ⟨v3, w5, a1, a2, a3, a4⟩ := g4.append (q6.base (B' := X.heap.size) (by omega)) (by have := q5.size; omega) (fun b hb => q1.none hb) hb
  obtain ⟨va, vc, rfl⟩ := a2.slice
  have ko : Off gr.ownBlock.toList w4 w5 := Off.grown (Off.refl _ w4) a3 (fun k hk => .inl (Option.mem_toList.2 hk))
  have hgl : ∀ b, gr.ownBlock = some b → b < w1.heap.size := fun b hb => (e5.own.lt b hb).2
  have hR4 : w4.heap[w1.heap.size]? = some _ := (q5.blockN hWs hRc hWs).trans hWR
  have hR5 : w5.heap[w1.heap.size]? = some _ := (ko.block _ (by have := q5.size; omega) (fun hx => by have := hgl _ (Option.mem_toList.1 hx); omega)).trans hR4
  have k6 := Off.set0 w1.heap.size w5 5 (.slice va (p.granted ++ (Desk.grantS s1.ts s1.es).2).length vc)
  have hcR4 : c4 w1.heap.size = none := q5.keepN hRc hWs
  have hcQ1 : col1 w.heap.size = none := k5.keepN hcQ hQX
  have hcQ4 : c4 w.heap.size = none := q5.keepN hcQ1 (by omega)
  have hv3 : ∀ b, (Value.slice va (p.granted ++ (Desk.grantS s1.ts s1.es).2).length vc).ownBlock = some b → gr.ownBlock = some b ∨ b = w4.heap.size := fun b hb => by
    rcases a4 with e | e
    · exact .inl (by rw [← e]; exact hb)
    · rw [hb] at e; exact .inr (Option.some.inj e)
  have hs4 := q5.size
  have h7' : Q7 (w5.setCell ⟨w1.heap.size, 5, none⟩ (.slice va (p.granted ++ (Desk.grantS s1.ts s1.es).2).length vc)) w.heap.size := by
    refine h7.later ?_
    have b1 := k5.blockN hQX hcQ hQX
    have b2 := kW.block w.heap.size (by omega)
    have b3 := q5.blockN (b := w.heap.size) (by omega) hcQ1 (by omega)
    have b4 := ko.block w.heap.size (by omega) (fun hx => by have := (e5.own.lt _ (Option.mem_toList.1 hx)).1; omega)
    have b5 := k6.block w.heap.size (by have := ko.size; omega) (by simp; omega)
    rw [b5, b4, b3, b2, b1]
  have rEn := DoRow e3.own e3.no kW q5 ko k6 (Nat.le_refl _) (fun b hb hx => (e7 b hx).1 hb)
  have rDa := DoRow e4.own e4.no kW q5 ko k6 (Nat.le_refl _) (fun b hb hx => (e7 b hx).2.1 hb)
  have rEd := DoRow e6.own e6.no kW q5 ko k6 (Nat.le_refl _) (fun b hb hx => (e7 b hx).2.2.1 hb)
  have rSp : ∀ q ∈ l, SpRow (w5.setCell ⟨w1.heap.size, 5, none⟩ (.slice va (p.granted ++ (Desk.grantS s1.ts s1.es).2).length vc)) X.heap.size c4 q.2 q.1.spans := fun q hq => by
    have x := DoRow (e3.sp q hq).1.own (e3.sp q hq).1.no kW q5 ko k6 (Nat.le_refl _) (fun b hb hx => (e7 b hx).2.2.2 q hq hb)
    exact ⟨x.1, x.2⟩
  refine ⟨va, _, vc, w5, a1, ?_, hR5, h7', fun x1 x2 x3 x4 x5 x6 x7 => ?_⟩
  · simp only [World.cell?, hR4]; rfl
  · have kq := set7_off (w5.setCell ⟨w1.heap.size, 5, none⟩ (.slice va (p.granted ++ (Desk.grantS s1.ts s1.es).2).length vc)) w.heap.size x1 x2 x3 x4 x5 x6 x7
    have hQ1 : ∀ x ∈ [w.heap.size], x < X.heap.size := fun x hx => by have : x = w.heap.size := List.mem_singleton.1 hx; omega
    have hrep : RepIs (w5.setCell ⟨w1.heap.size, 5, none⟩ (.slice va (p.granted ++ (Desk.grantS s1.ts s1.es).2).length vc)) X.heap.size c4 (repV er at_ n en da (.slice va (p.granted ++ (Desk.grantS s1.ts s1.es).2).length vc) ed) { p with granted := p.granted ++ (Desk.grantS s1.ts s1.es).2 } := by
      refine ⟨en, da, _, ed, l, by rw [e1.1, e1.2.1, e1.2.2], hl, ⟨rEn.1, rEn.2, fun q hq => ⟨rSp q hq, (e3.sp q hq).2⟩⟩, ⟨rDa.1, rDa.2⟩, ⟨ownOff a2.own k6 (fun b hb hx => ?_), a2.no⟩, ⟨rEd.1, rEd.2⟩, fun b hb => ?_⟩
      · have e : b = w1.heap.size := List.mem_singleton.1 hx
        rcases hv3 b hb with e2 | e2
        · have := hgl b e2; omega
        · omega
      · rcases hv3 b hb with e2 | e2
        · exact e7 b e2
        · refine ⟨fun e => ?_, fun e => ?_, fun e => ?_, fun q hq e => ?_⟩
          · have := (e3.own.lt b e).2; omega
          · have := (e4.own.lt b e).2; omega
          · have := (e6.own.lt b e).2; omega
          · have := ((e3.sp q hq).1.own.lt b e).2; omega
    refine ⟨r4, c4, ((q1.off ko (fun x hx => g4.no x (Option.mem_toList.1 hx))).off k6 (fun x hx => by have : x = w1.heap.size := List.mem_singleton.1 hx; subst this; exact hcR4)).off kq (fun x hx => by have : x = w.heap.size := List.mem_singleton.1 hx; subst this; exact hcQ4), q2, q3, q4, ?_, (hrep.off kq hQ1).base hXw⟩
    have t1 : Step anyS w.heap.size col col1 w w1 := (Step.below hX).trans (k5.any hXw)
    have t2 : Step anyS w.heap.size col c4 w w4 := (t1.trans (Step.below kW)).trans (q5.any (by omega))
    have t3 : Step anyS w.heap.size c4 c4 w4 w5 := ⟨⟨_, ko, fun x hx => .inr ⟨g4.no x (Option.mem_toList.1 hx), by have := (e5.own.lt x (Option.mem_toList.1 hx)).1; omega⟩⟩, fun _ _ h => h, fun _ _ h => .inl h⟩
    have t4 : Step anyS w.heap.size c4 c4 w5 (w5.setCell ⟨w1.heap.size, 5, none⟩ (.slice va (p.granted ++ (Desk.grantS s1.ts s1.es).2).length vc)) := ⟨⟨_, k6, fun x hx => .inr (by have : x = w1.heap.size := List.mem_singleton.1 hx; subst this; exact ⟨hcR4, by omega⟩)⟩, fun _ _ h => h, fun _ _ h => .inl h⟩
    have t5 : Step anyS w.heap.size c4 c4 _ _ := ⟨⟨_, kq, fun x hx => .inr (by have : x = w.heap.size := List.mem_singleton.1 hx; subst this; exact ⟨hcQ4, Nat.le_refl _⟩)⟩, fun _ _ h => h, fun _ _ h => .inl h⟩
    exact ((t2.trans t3).trans t4).trans t5

end Go.Proofs.YtjfkfiffakbagaaGreatDoor


/-
  Package desk: Do, over what answer answers.
-/
namespace Go.Proofs.YtjfkfiffakbagaaGreatDoor
open Go.RowKit
open Desk (Ent St Ids kept booked bookE sumA Items ofB sameB Risen Mid EntOk endsB Inv)

theorem RepIs.later {w w' : World} {B : Nat} {col : Nat → Option Col} {v : Value} {p : Desk.Rep} (h : RepIs w B col v p) (k : Below w.heap.size w w') : RepIs w' B col v p := by
  obtain ⟨en, da, gr, ed, l, e1, e2, e3, e4, e5, e6, e7⟩ := h
  exact ⟨en, da, gr, ed, l, e1, e2, e3.later k, e4.later k, e5.later k, e6.later k, e7⟩
theorem AnsPost.later {X w1 w2 : World} {d : Nat} {col : Nat → Option Col} {q : St × Desk.Rep} {v : Value} (h : AnsPost X d col q v w1) (k : Below w1.heap.size w1 w2) : AnsPost X d col q v w2 := by
  obtain ⟨r', col', k1, k2, k3, k4, k5, k6⟩ := h
  exact ⟨r', col', k1.later k, k2, k3, k4, k5.trans (Step.below k), k6.later k⟩
theorem stepD_err {s : St} {l : Desk.Line} (h : (Desk.doesD s l).2.err ≠ 0) : Desk.stepD s l = Desk.doesD s l := by unfold Desk.stepD; rw [if_pos h]
theorem stepD_ok {s : St} {l : Desk.Line} (h : (Desk.doesD s l).2.err = 0) : Desk.stepD s l = ({ (Desk.doesD s l).1 with es := (Desk.grantS (Desk.doesD s l).1.ts (Desk.doesD s l).1.es).1 }, { (Desk.doesD s l).2 with granted := (Desk.doesD s l).2.granted ++ (Desk.grantS (Desk.doesD s l).1.ts (Desk.doesD s l).1.es).2 }) := by unfold Desk.stepD; rw [if_neg (by omega)]

theorem r7_c {w : World} {R : Nat} {a b c d e f g : Value} (h : w.heap[R]? = some (.cells #[a, b, c, d, e, f, g] 40 (0, 0))) : w.cell? ⟨R, 0, none⟩ = some a ∧ w.cell? ⟨R, 1, none⟩ = some b ∧ w.cell? ⟨R, 2, none⟩ = some c ∧ w.cell? ⟨R, 3, none⟩ = some d ∧ w.cell? ⟨R, 4, none⟩ = some e ∧ w.cell? ⟨R, 5, none⟩ = some f ∧ w.cell? ⟨R, 6, none⟩ = some g ∧ ∀ o, w.frozen? ⟨R, o, none⟩ = false := by
  refine ⟨?_, ?_, ?_, ?_, ?_, ?_, ?_, fun o => frozen_of_row _ R o _ _ h⟩
  all_goals (simp only [World.cell?, h]; rfl)

set_option maxRecDepth 100000 in
set_option maxHeartbeats 4000000 in
theorem do_any {w : World} {d : Nat} {s : St} {r : Raw} {col : Nat → Option Col} (h : DSt w d s r col) (line : Value) (l : Desk.Line) (hl : Desk.LineOk l) (hgl : (Desk.doesD s l).2.granted.length ≤ 50000)
    (hans : ∀ X, Below w.heap.size w X → DSt X d s r col → Calls Tryz.prog 62 #[.pointer (some ⟨d, 0, none⟩), line] X fun e w' => ∃ v, e = .returned v ∧ AnsPost X d col (Desk.doesD s l) v w') :
    Calls Tryz.prog 43 #[.pointer (some ⟨d, 0, none⟩), line] w fun e w' => ∃ v, e = .returned v ∧ AnsPost w d col (Desk.stepD s l) v w' := by
  have hX : Below w.heap.size w (w.alloc zeroR) := (Below.refl _ _).alloc (Nat.le_refl _) _
  have hq := heapNew w zeroR
  have hs : w.heap.size < (w.alloc zeroR).heap.size := by simp
  have AN := hidp (hans (w.alloc zeroR) hX ⟨h.dk.later hX, h.of, h.wl, h.hl, h.inv⟩)
  have HX := hidp (And.intro hX (And.intro (Q7.of hq) (h.dk.none (Nat.le_refl _))))
  have HM := hidp (And.intro (Desk.does_mid h.inv hl) hgl)
  have HE := hidp (stepD_err (s := s) (l := l))
  have HO := hidp (stepD_ok (s := s) (l := l))
  clear h hans hX hq hgl
  generalize Desk.stepD s l = SD at *
  generalize Desk.doesD s l = D at *
  go_enter Tryz.func43, Tryz.ntmps43
  go_upto_region 1 with fail
  change Code.wp _ _ _ _ (w.alloc zeroR)
  generalize w.alloc zeroR = X at *
  go_wp2_with fail
  refine AN.out.mono ?_
  rintro e w1 ⟨v, rfl, ap⟩
  have AP := hidp ap
  obtain ⟨r1, col1, k1, k2, k3, k4, k5, en, da, gr, ed, l2, rfl, hl2, e3, e4, e5, e6, e7⟩ := ap
  obtain ⟨b1, c1, rfl⟩ := own_slice e3.own
  obtain ⟨b2, c2, rfl⟩ := e4.slice
  obtain ⟨b3, c3, rfl⟩ := e5.slice
  obtain ⟨b4, c4, rfl⟩ := e6.slice
  have hs1 := k5.size
  by_cases he : D.2.err = 0
  · have HOO := hidp (HO.out he)
    have GR := hidp (grant_any (w := (w1.alloc (.cells #[.int .i64 D.2.err, .int .i64 D.2.at_, .int .i64 D.2.n, .slice b1 l2.length c1, .slice b2 D.2.days.length c2, .slice b3 D.2.granted.length c3, .slice b4 D.2.ended.length c4] 40)).drew) (k1.later ((Below.refl _ _).alloc (Nat.le_refl _) _).drew) k2 k3 k4 HM.out.1)
    have AG := hidp (fun v2 w4 g => do_granted (w := w) (w4 := w4) (v2 := v2) (s1 := D.1) HX.out.1 hs HX.out.2.1 HX.out.2.2 k1 k5 hl2 e3 e4 e5 e6 e7 ⟨rfl, rfl, rfl⟩ g (by
      have h1 := gfold_len D.1.ts (D.1.es.filter Desk.waitsB) (D.1.es, [])
      have h2 := List.length_filter_le Desk.waitsB D.1.es
      have h3 := mid_len HM.out.1
      have e1 := Desk.grant_fold D.1.ts D.1.es HM.out.1.ids
      have h4 := HM.out.2
      simp only [List.length_nil] at h1
      rw [← e1] at h1
      omega))
    have yR : (w1.alloc (.cells #[.int .i64 D.2.err, .int .i64 D.2.at_, .int .i64 D.2.n, .slice b1 l2.length c1, .slice b2 D.2.days.length c2, .slice b3 D.2.granted.length c3, .slice b4 D.2.ended.length c4] 40)).cell? ⟨w1.heap.size, 5, none⟩ = some (.slice b3 D.2.granted.length c3) := by simp
    clear k1 k2 k3 k4 k5 hl2 e3 e4 e5 e6 e7 AP AN
    simp only [repV]
    rw [he] at GR AG yR HOO ⊢
    go_upto_region 3 with fail
    go_region_law (first
      | (refine step_call (by rfl) 63 _ _ (by rfl) _ (by simp [Act.eval, Act.put]) (entGrant _ _) GR.out ?_; rintro e w4 ⟨v2, rfl, p⟩; refine ⟨_, rfl, ?_⟩; obtain ⟨a, m, cap, w5, hrun, g5, h5, q7, hf⟩ := AG.out v2 w4 p; have HR := hidp hrun; have HF := hidp hf; clear hrun hf; obtain ⟨y0, y1, y2, y3, y4, y5, y6, fR⟩ := r7_c h5; obtain ⟨q0, q1, q2, q3, q4, q5, q6, fq⟩ := q7)
      | (refine step_append_run (by rfl) _ _ _ _ (by rfl) (HR.out _) ?_))
    all_goals
      have HG := hidp (HF.out (.int .i64 0) (.int .i64 D.2.at_) (.int .i64 D.2.n) (.slice b1 l2.length c1) (.slice b2 D.2.days.length c2) (.slice a m cap) (.slice b4 D.2.ended.length c4))
      clear HF p GR AG HR yR g5 h5
      go_wp2_with fail
      exact bodyPost_ret (v := repV 0 D.2.at_ D.2.n (.slice b1 l2.length c1) (.slice b2 D.2.days.length c2) (.slice a m cap) (.slice b4 D.2.ended.length c4)) (by simp [results, Tryz.results43, go_sem, repV, q0, q1, q2, q3, q4, q5, q6]) rfl ⟨_, rfl, by rw [HOO.out]; exact HG.out⟩
  · have hbe : (D.2.err == 0) = false := by simpa using he
    have HD := hidp (HE.out he)
    have kW : Below w1.heap.size w1 (w1.alloc (.cells #[.int .i64 D.2.err, .int .i64 D.2.at_, .int .i64 D.2.n, .slice b1 l2.length c1, .slice b2 D.2.days.length c2, .slice b3 D.2.granted.length c3, .slice b4 D.2.ended.length c4] 40)) := (Below.refl _ _).alloc (Nat.le_refl _) _
    obtain ⟨_, _, _, _, _, _, _, _, _, _, _, _, _, _, _, _, q7, hf⟩ := (AP.out.later kW).up HX.out.1 (Nat.le_refl _) hs HX.out.2.2 HX.out.2.1
    have HF := hidp (hf (.int .i64 D.2.err) (.int .i64 D.2.at_) (.int .i64 D.2.n) (.slice b1 l2.length c1) (.slice b2 D.2.days.length c2) (.slice b3 D.2.granted.length c3) (.slice b4 D.2.ended.length c4))
    obtain ⟨q0, q1, q2, q3, q4, q5, q6, fq⟩ := q7
    clear k1 k2 k3 k4 k5 hl2 e3 e4 e5 e6 e7 AP AN hf kW
    simp only [repV]
    generalize D.2.err = er at *
    go_wp2_with fail
    exact bodyPost_ret (v := repV er D.2.at_ D.2.n (.slice b1 l2.length c1) (.slice b2 D.2.days.length c2) (.slice b3 D.2.granted.length c3) (.slice b4 D.2.ended.length c4)) (by simp [results, Tryz.results43, go_sem, repV, q0, q1, q2, q3, q4, q5, q6]) rfl ⟨_, rfl, by rw [HD.out]; exact HF.out⟩

end Go.Proofs.YtjfkfiffakbagaaGreatDoor

