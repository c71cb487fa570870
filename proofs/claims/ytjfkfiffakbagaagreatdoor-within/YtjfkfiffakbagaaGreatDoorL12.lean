/-
  Parts of the proof, one behind the other: DeskGrant2, EndM, DeskEnd, TickM, DeskReply, DeskTick.
-/
import Derived.Test.YtjfkfiffakbagaaGreatDoorL11
/-
  Package desk: grant, walked.
-/
namespace Go.Proofs.YtjfkfiffakbagaaGreatDoor
open Go.RowKit
open Desk (Ent St Ids kept booked bookE sumA Items ofB sameB Risen Mid EntOk gStep)

/-- A number has been appended. -/
theorem NRow.more {X w' : World} {B : Nat} {col : Nat → Option Col} {v : Value} {l : List Int} {x : Int} {g cap H : Nat} (h : NRow X B col v l) (hown : w'.ownsRow B 3 1 (.slice (some ⟨g, 0, none⟩) (l.length + 1) cap) (l.length + 1) (l.map (Value.int .i64) ++ [.int .i64 x])) (hat : v.ownBlock = some g ∨ g = H) (hH : col H = none) : NRow w' B col (.slice (some ⟨g, 0, none⟩) (l.length + 1) cap) (l ++ [x]) := by
  refine ⟨by rw [List.length_append, List.map_append]; exact hown, fun b hb => ?_⟩
  have : g = b := by simpa [Value.ownBlock] using hb
  subst this
  rcases hat with e | e
  · exact h.no g e
  · rw [e]; exact hH
/-- The desk beside a row of numbers that grows. -/
theorem DK.grown {X w' : World} {d : Nat} {r : Raw} {col : Nat → Option Col} {B : Nat} {v : Value} {l : List Int} (h : DK X d r col) (hn : NRow X B col v l) (hg : X.grownBy w' v.ownBlock) : DK w' d r col ∧ Off v.ownBlock.toList X w' := by
  have k : Off v.ownBlock.toList X w' := Off.grown (Off.refl _ X) hg (fun k hk => .inl (Option.mem_toList.2 hk))
  exact ⟨h.off k (fun x hx => hn.no x (Option.mem_toList.1 hx)), k⟩

theorem mid_book {s : St} (h : Mid s) {e : Ent} (he : e ∈ s.es) (hk : e.kind = 3) (hf : Desk.fitsN s.ts s.es e.thing e.units e.spans = true) : Mid { s with es := booked e.id s.es } := by
  obtain ⟨l, r, e1, e2, _⟩ := Desk.booked_split h.ids he rfl
  have h' : Mid ⟨s.ts, l ++ e :: r, s.given, s.now⟩ := by rw [← e1]; exact h
  have := h'.grant hk (by rw [← e1]; exact hf)
  rw [e2]; exact this

/-- Who fits is booked, and told. -/
theorem GX.yes {w wx w1 w2 w3 : World} {d : Nat} {s : St} {r : Raw} {col : Nat → Option Col} {v4 : Value} {k : Nat} {v v' : Value} {rk : Raw} {ck c1 : Nat → Option Col} (h : GX w wx d s r col v4 k v rk ck) (hk' : k < (s.es.filter Desk.waitsB).length) {g : EG} (hg : g ∈ rk.eg) (hge : g.e = (s.es.filter Desk.waitsB)[k]) (hk3 : g.e.kind = 3) {i : Nat} (hi : i < rk.tg.length) (hname : rk.tg[i].name = g.e.thing)
    (q2 : Step (· = .thing i) wx.heap.size ck c1 wx w1) (sp : SettlePost w1 d (rk.setT i (rk.tg[i].with (addL rk.tg[i].A g.e.spans g.e.units) (putL g.e.id g.eb rk.tg[i].T g.e.spans))) c1 g w2) (hf : Desk.fitsN s.ts (gAt s k).1 g.e.thing g.e.units g.e.spans = true)
    (ho : Off v.ownBlock.toList w2 w3) (hv' : ∀ c2, (∀ b, v.ownBlock = some b → c2 b = none) → (∀ b, w2.heap.size ≤ b → c2 b = none) → NRow w3 w.heap.size c2 v' ((gAt s k).2 ++ [g.e.id])) :
    GI w w3 d s r col v4 (k + 1) v' := by
  obtain ⟨x, l', c2, e1, e2, p1, p2, p3, p4⟩ := sp
  have hfk : Desk.fitsN s.ts (gAt s k).1 (s.es.filter Desk.waitsB)[k].thing (s.es.filter Desk.waitsB)[k].units (s.es.filter Desk.waitsB)[k].spans = true := by rw [← hge]; exact hf
  have e : gAt s (k + 1) = (booked g.e.id (gAt s k).1, (gAt s k).2 ++ [g.e.id]) := by
    rw [gAt_succ s hk']; unfold gStep; rw [if_pos hfk, hge]
  have hn := h.dk.ni
  have hO := (h.of.book h.mid.tn h.mid.ids hn hg hk3 ((h.mid.en _ (h.of.mem hg)).ri) hi hname).1
  have hnr1 := (h.nr.step q2 (Nat.le_refl _)).step p4 (Nat.le_refl _)
  have hvn : ∀ b, v.ownBlock = some b → c2 b = none := hnr1.no
  have hD : DK w3 d _ c2 := p3.off ho (fun y hy => hvn y (Option.mem_toList.1 hy))
  have st3 : Step anyS w.heap.size c2 c2 w2 w3 := ⟨⟨_, ho, fun y hy => .inr ⟨hvn y (Option.mem_toList.1 hy), (hnr1.own.lt y (Option.mem_toList.1 hy)).1⟩⟩, fun _ _ h => h, fun _ _ h => .inl h⟩
  have t1 := h.st.trans (q2.any h.st.size)
  have t2 := t1.trans (p4.any t1.size)
  obtain ⟨G1, a1, a2⟩ := q2.left
  obtain ⟨G2, b1, b2⟩ := p4.left
  have hrc1 : ∀ b, v4.ownBlock = some b → c1 b = some .wa := fun b hb => q2.keep _ _ (h.rc b hb)
  have hrc2 : ∀ b, v4.ownBlock = some b → c2 b = some .wa := fun b hb => p4.keep _ _ (hrc1 b hb)
  have hrow2 := ownOff (ownOff h.row a1 (fun b hb => a2 b (.inl ⟨_, h.rc b hb, by simp⟩))) b1 (fun b hb => b2 b (.inl ⟨_, hrc1 b hb, by unfold settleS; simp⟩))
  refine ⟨_, c2, hD, ⟨hO.now, hO.given, hO.ts, by rw [e]; exact hO.es, by rw [e]; exact hO.th, hO.tb⟩, h.hl.book (r := rk) hn hg (by omega) e2 p1 p2, h.wl, ?_, t2.trans st3, by rw [e]; exact hv' c2 hvn (fun b hb => p3.none hb), ?_, fun y hy => ?_, ownOff hrow2 ho (fun b hb hx => ?_), hrc2⟩
  · rw [e]
    show setKT g.e.id 1 0 rk.eg = bookG ((gAt s k).2 ++ [g.e.id]) r.eg
    rw [h.eg, bookG_snoc]
  · rw [e]; exact mid_book h.mid (h.of.mem hg) hk3 hf
  · rw [e] at hy
    rw [List.take_succ_eq_append_getElem hk']
    rcases List.mem_append.1 hy with hy | hy
    · obtain ⟨z, hz, e3⟩ := h.gm y hy
      exact ⟨z, List.mem_append_left _ hz, e3⟩
    · have : y = g.e.id := List.mem_singleton.1 hy
      exact ⟨_, List.mem_append_right _ (List.mem_singleton.2 rfl), by rw [← hge, this]⟩
  · have := hvn b (Option.mem_toList.1 hx)
    rw [hrc2 b hb] at this; cases this

theorem bkG_kind {Gr : List Int} {g : EG} (hk : g.e.kind = 3) : ((bkG Gr g).e.kind == 1) = true ↔ g.e.id ∈ Gr := by
  by_cases h : g.e.id ∈ Gr
  · rw [bkG_in h]; simp [h, bookE]
  · rw [bkG_out h]; simp [h, hk]
theorem bkG_eb (Gr : List Int) (g : EG) : (bkG Gr g).eb = g.eb := by
  by_cases h : g.e.id ∈ Gr
  · rw [bkG_in h]
  · rw [bkG_out h]
/-- Does the entry in that block belong to those? -/
def bookPb (eg : List EG) (Gr : List Int) (b : Nat) : Bool := eg.any fun g => decide (g.eb = b) && Gr.any fun x => decide (x = g.e.id)
theorem bookP (eg : List EG) (Gr : List Int) (hn : (eg.map (·.eb)).Nodup) : ∀ g ∈ eg, g.e.kind = 3 → (bkG Gr g).eb = g.eb ∧ ((bkG Gr g).e.kind == 1) = bookPb eg Gr g.eb := by
  intro g hg hk
  refine ⟨bkG_eb Gr g, ?_⟩
  have h1 := bkG_kind (Gr := Gr) hk
  have h2 : bookPb eg Gr g.eb = true ↔ g.e.id ∈ Gr := by
    unfold bookPb
    rw [List.any_eq_true]
    constructor
    · rintro ⟨x, hx, e1⟩
      rw [Bool.and_eq_true, decide_eq_true_iff, List.any_eq_true] at e1
      obtain ⟨e1, y, hy, e2⟩ := e1
      have : x = g := nodup_map_inj _ hn hx hg e1
      have e3 : y = x.e.id := of_decide_eq_true e2
      rw [← this, ← e3]; exact hy
    · intro h
      refine ⟨g, hg, ?_⟩
      rw [Bool.and_eq_true, decide_eq_true_iff, List.any_eq_true]
      exact ⟨rfl, g.e.id, h, decide_eq_true rfl⟩
  cases ha : ((bkG Gr g).e.kind == 1) <;> cases hb : bookPb eg Gr g.eb
  · rfl
  · exact absurd (h1.2 (h2.1 hb)) (by rw [ha]; simp)
  · exact absurd (h2.2 (h1.1 ha)) (by rw [hb]; simp)
  · rfl

theorem gfold_len (ts : List (ByteArray × Int)) : ∀ (l : List Ent) (p : List Ent × List Int), (l.foldl (gStep ts) p).2.length ≤ p.2.length + l.length
  | [], p => by simp
  | e :: l, p => by
    have ih := gfold_len ts l (gStep ts p e)
    have : (gStep ts p e).2.length ≤ p.2.length + 1 := by unfold gStep; split <;> simp
    simp only [List.foldl_cons, List.length_cons]
    omega
theorem gAt_len (s : St) (k : Nat) : (gAt s k).2.length ≤ k := by
  have := gfold_len s.ts ((s.es.filter Desk.waitsB).take k) (s.es, [])
  have h2 := List.length_take_le k (s.es.filter Desk.waitsB)
  unfold gAt
  simp only [List.length_nil] at this
  omega

set_option maxRecDepth 100000 in
set_option maxHeartbeats 4000000 in
theorem grant_any {w : World} {d : Nat} {s : St} {r : Raw} {col : Nat → Option Col} (h : DK w d r col) (ho : Of s r) (hw : Wl r) (hh : Hl r) (hm : Mid s) :
    Calls Tryz.prog 63 #[.pointer (some ⟨d, 0, none⟩)] w fun e w' => ∃ v, e = .returned v ∧ GrantPost w d s col v w' := by
  obtain ⟨i0, hi0, hz0, hz1, hz2⟩ := info_parts infoInt
  obtain ⟨v4, c4, own4, hc4⟩ := h.wa
  have hwn : r.wl.length ≤ 60 := by
    rw [hw, List.length_map]
    have h1 := List.length_filter_le (fun g : EG => g.e.kind == 3) r.eg
    have h2 := mid_len hm
    have h3 : r.eg.length = s.es.length := by rw [← ho.es]; simp
    omega
  have G0 : Hid (GI w w d s r col v4 0 (.slice none 0 0)) := ⟨r, col, h, ho, hh, rfl, by rw [gAt_zero, bookG_nil], Step.refl _ _ _ _, NRow.nil _ _ _, hm, fun x hx => by rw [gAt_zero] at hx; simp at hx, own4, hc4⟩
  have HH := hidp (And.intro h (And.intro ho (And.intro hw (And.intro hh hm))))
  have hv : ∃ a cap, v4 = .slice a r.wl.length cap := by
    rcases own4.2 with ⟨rfl, h⟩ | ⟨g, cap, _, rfl, _⟩
    · rw [h]; exact ⟨_, _, rfl⟩
    · exact ⟨_, _, rfl⟩
  obtain ⟨a, cap, rfl⟩ := hv
  clear h ho hw hh hm own4 hc4
  go_enter Tryz.func63, Tryz.ntmps63
  go_wp2_with fail
  go_loopw [3, 5, 11] (fun vg _ vi wx => ∃ k : Nat, k ≤ r.wl.length ∧ vi = .int .i64 k ∧ GI w wx d s r col (.slice a r.wl.length cap) k vg) (fun _ _ vi _ => r.wl.length - (intOf vi).toNat)
  case atStart => exact ⟨0, Nat.zero_le _, rfl, G0.out⟩
  case round =>
    obtain ⟨k, hk, rfl, rk, ck, X⟩ := hrel
    by_cases hlt : k < r.wl.length
    · have hi0' : (k : Int) < (r.wl.length : Int) := by omega
      obtain ⟨g, hk', hgr, hgk, hgeb, hge, hk3, hno⟩ := X.next HH.out.2.1 HH.out.2.2.1 HH.out.2.2.2.2.ids hlt
      obtain ⟨Hh, cap', e1⟩ := Joins.ownsRow_form X.row (by omega)
      simp only [Value.slice.injEq, true_and] at e1
      obtain ⟨rfl, rfl⟩ := e1
      have a0 := X.row.cellAt k (by omega)
      rw [List.getElem?_map, List.getElem?_eq_getElem hlt, Option.map_some, ← hgeb] at a0
      unfold ptrB at a0
      obtain ⟨q1, q2, q3⟩ := X.dk.en g hgk
      have co := q1.en.c1
      obtain ⟨i, hi, hname, htb⟩ := X.of.tb g hgk
      have hEO := X.mid.en _ (X.of.mem hgk)
      have hFit := mid_fit X.mid X.of hEO hi
      have hHF := mid_holds X.mid X.of hEO.sp hEO.u1 hi hname
      have hRM := mid_room X.mid X.of hi
      have HX := hidp X
      have HG := hidp (And.intro hgk (And.intro hge (And.intro hk3 (And.intro hname q2))))
      cases hf : Desk.fitsN s.ts (gAt s k).1 g.e.thing g.e.units g.e.spans
      · have TK := hidp (dtake_no X.dk i hi q1 htb (by rw [q2]; simp) (by rw [q3]; simp) hFit (hHF.trans hf))
        have FN : Hid (Desk.fitsN s.ts (gAt s k).1 (s.es.filter Desk.waitsB)[k].thing (s.es.filter Desk.waitsB)[k].units (s.es.filter Desk.waitsB)[k].spans = false) := by
          show _ = _
          rw [← hge]; exact hf
        have HK := hidp hk'
        clear hf hHF hFit hRM hEO q1 q2 q3 X hgk hge hk3 hname hno hgr hgeb htb
        go_wp2_with fail
        refine TK.out.mono ?_
        rintro e w1 ⟨rfl, c1, p1, p2⟩
        have HN : Hid (GI w w1 d s r col (.slice (some ⟨Hh, 0, none⟩) r.wl.length cap) (k + 1) u3) := ⟨rk, c1, HX.out.no HK.out p1 p2 FN.out⟩
        clear p1 p2 TK HX HG a0 co FN
        go_wp2_with fail
        go_roundw
        case rel => exact ⟨k + 1, by omega, by go_num, HN.out⟩
        case measure => simp [intOf]; omega
      · have hR0 : Room0 rk.tg[i].T g.e.id g.e.spans := ⟨hRM.1, hRM.2, (X.of.book X.mid.tn X.mid.ids X.dk.ni hgk hk3 hEO.ri hi hname).2, risen_nodup hEO.ri⟩
        have TK := hidp (dtake_yes X.dk i hi q1 htb (by rw [q2]; simp) (by rw [q3]; simp) hFit hR0 (hHF.trans hf))
        have HF := hidp hf
        have hls : (gAt s k).2.length ≤ 60 := by have := gAt_len s k; omega
        have hlen : rk.hl.length ≤ 1000 := by
          have h1 := X.hl.len
          have h2 : rk.eg.length = (gAt s k).1.length := by have := X.of.es; rw [← List.length_map (f := (·.e)), this]
          have h3 := mid_len X.mid
          simp only at h3
          omega
        have HSX := hidp (And.intro X.hl.1 (And.intro hlen (X.hl.has hgk (by omega))))
        have HK := hidp hk'
        clear hf hHF hFit hRM hEO q1 q2 q3 X hgk hge hk3 hno hgr hgeb htb hR0 hlen
        have HNM := hidp hname
        clear hname
        go_wp2_with fail
        refine TK.out.mono ?_
        rintro e w1 ⟨rfl, c1, p1, p2⟩
        have ST := hidp (settle_any p1 HSX.out.1 HSX.out.2.1 (g := g) HG.out.1 ⟨hiOf g, HSX.out.2.2, rfl, rfl⟩)
        have P2 := hidp p2
        clear p1 p2 TK a0 co
        go_wp2_with fail
        refine ST.out.mono ?_
        rintro e w2 ⟨rfl, sp⟩
        have SP := hidp sp
        obtain ⟨x, l', c2, e1, e2, s1, s2, s3, s4⟩ := sp
        have hmem : ({ g with e := { g.e with kind := 1, till := 0 } } : EG) ∈ setKT g.e.id 1 0 rk.eg := List.mem_map.2 ⟨g, HG.out.1, if_pos rfl⟩
        have c02 : w2.cell? ⟨g.eb, 0, none⟩ = some (.int .i64 g.e.id) := (s3.en _ hmem).1.en.c0
        have NR := hidp ((HX.out.nr.step P2.out (Nat.le_refl _)).step s4 (Nat.le_refl _))
        have hws : w.heap.size ≤ w2.heap.size := Nat.le_trans (Nat.le_trans HX.out.st.size P2.out.size) s4.size
        clear s1 s2 s3 s4 e1 e2 hmem ST
        go_wp2_with (first
          | (at_builtin; refine wpList_append_lies _ rfl _ _ 38 rfl w.heap.size 3 i0 _ 1 8 Tryz.underlying38 hi0 hz0 hz1 hz2 rfl (by decide) _ _ _ rfl (NR.out.own.alloc _) ⟨w2.heap.size, 0, none⟩ 1 1 [.int .i64 g.e.id] rfl rfl (World.news_of_block (cs := #[.int .i64 g.e.id]) (heapNew w2 _)) (by simp [Value.oneCell']) (by omega) (by unfold maxLen; omega) (by omega) (by simp; omega) (w2.heap.size + 1) (by simp) ?_; intro g2 cap2 w3 hown hgrow hat hlt2))
        have ko : Off u3.ownBlock.toList w2 w3 := Off.grown ((Off.refl _ w2).alloc _) hgrow (fun k hk => .inl (Option.mem_toList.2 hk))
        have hat' : u3.ownBlock = some g2 ∨ g2 = w2.heap.size + 1 := hat
        have HN : Hid (GI w w3 d s r col (.slice (some ⟨Hh, 0, none⟩) r.wl.length cap) (k + 1) (.slice (some ⟨g2, 0, none⟩) ((gAt s k).2.length + 1) cap2)) :=
          HX.out.yes HK.out HG.out.1 HG.out.2.1 HG.out.2.2.1 hi HNM.out P2.out SP.out HF.out ko (fun c2 n1 n2 => ⟨by rw [List.length_append, List.map_append]; exact hown, fun b hb => by
            have : g2 = b := by simpa [Value.ownBlock] using hb
            subst this
            rcases hat' with e | e
            · exact n1 g2 e
            · exact n2 g2 (by omega)⟩)
        clear hown hgrow hat ko hat' HX HG HK SP NR P2 HNM HF HSX
        go_roundw
        case rel => exact ⟨k + 1, by omega, by go_num, HN.out⟩
        case measure => simp [intOf]; omega
    · have hi1 : ¬ ((k : Int) < (r.wl.length : Int)) := by omega
      obtain ⟨v, c4', own', hc'⟩ := X.dk.wa
      have f4 := X.dk.fz 4
      have hd := X.dk.dc
      have hvd : d ∉ v.ownBlock.toList := fun e => by have := hc' _ (Option.mem_toList.1 e); rw [hd] at this; cases this
      have hkl : (s.es.filter Desk.waitsB).length ≤ k := by
        have h1 := HH.out.2.2.1
        have h2 : s.es.filter Desk.waitsB = (r.eg.filter fun g => g.e.kind == 3).map (·.e) := by rw [← HH.out.2.1.es, List.filter_map]; rfl
        rw [h2, List.length_map]
        rw [h1, List.length_map] at hlt
        omega
      have hga := gAt_all s HH.out.2.2.2.2.ids hkl
      have PB := hidp (bookP r.eg (gAt s k).2 HH.out.1.nd)
      generalize bookPb r.eg (gAt s k).2 = p at PB
      have DL := hidp (delBk_any rk.wl p v wr (fun wx ko b hb => by
        have hb' : b ∈ r.wl := by rw [← X.wl]; exact hb
        rw [HH.out.2.2.1] at hb'
        obtain ⟨g, hg, rfl⟩ := List.mem_map.1 hb'
        obtain ⟨hg1, hg2⟩ := List.mem_filter.1 hg
        have hg3 : g.e.kind = 3 := by simpa using hg2
        have hmem : bkG (gAt s k).2 g ∈ rk.eg := by rw [X.eg]; exact List.mem_map.2 ⟨g, hg1, rfl⟩
        obtain ⟨q1, q2, q3⟩ := X.dk.en _ hmem
        have hkc : wx.cell? ⟨(bkG (gAt s k).2 g).eb, 1, none⟩ = some (.int .i64 (bkG (gAt s k).2 g).e.kind) := ko.cell (fun e => by have := hc' _ (Option.mem_toList.1 e); rw [q2] at this; cases this) q1.k
        obtain ⟨e1, e2⟩ := PB.out g hg1 hg3
        rw [e1] at hkc
        rw [← e2]
        exact isBooked_any g.eb _ wx hkc) own' (by rw [X.wl]; omega))
      have VC := hidp (And.intro hc' hvd)
      have HX := hidp X
      clear X own' hc' hvd hd
      go_wp2_with fail
      refine DL.out.mono ?_
      rintro e w2 ⟨v', rfl, k1, k2, k3⟩
      obtain ⟨va, vn, vc, rfl⟩ : ∃ a n cap, v' = .slice a n cap := by
        rcases k2.2 with ⟨e, _⟩ | ⟨_, _, _, e, _⟩
        · exact ⟨_, _, _, e⟩
        · exact ⟨_, _, _, e⟩
      have c42 := k1.cell VC.out.2 c4'
      have f42 := (k1.frozen (o := 4) VC.out.2 (World.block_lt_of_cell? _ _ c4')).trans f4
      have SW := hidp (HX.out.dk.setWait VC.out.1 k1 k2 (fun b hb => .inl (by rw [← k3]; exact hb)))
      have HF : Hid (GrantPost w d s col u3 (w2.setCell ⟨d, 4, none⟩ (.slice va vn vc))) := by
        obtain ⟨col2, q1, q2⟩ := SW.out
        have X := HX.out
        refine ⟨_, col2, q1, ?_, ?_, X.hl, X.st.trans (q2.any X.st.size), ?_⟩
        · have o := X.of
          rw [hga] at o
          exact ⟨o.now, o.given, o.ts, o.es, o.th, o.tb⟩
        · show (rk.wl.filter fun b => !p b) = (rk.eg.filter fun g => g.e.kind == 3).map (·.eb)
          rw [X.wl, HH.out.2.2.1, X.eg]
          exact bookG_wl _ _ p (fun g hg hk => by rw [← (PB.out g hg hk).2]; exact bkG_kind hk)
        · rw [← hga]; exact X.nr.step q2 (Nat.le_refl _)
      clear k1 k2 k3 DL c4' f4 SW HX VC PB HH
      go_wp2_with fail
      go_ret
      exact ⟨_, rfl, HF.out⟩

end Go.Proofs.YtjfkfiffakbagaaGreatDoor


/-
  What ends at a time, one behind the other.
-/
namespace Go.Proofs.YtjfkfiffakbagaaGreatDoor
open Go.RowKit
open Desk (Ent St Ids kept booked bookE sumA Items ofB sameB Risen Mid EntOk endsB)

/-- Those that end at a time. -/
def endL (s : St) (t : Int) : List Ent := s.es.filter (endsB t)
/-- The entries when k of them have gone. -/
def eAt (s : St) (t : Int) (k : Nat) : List Ent := ((endL s t).take k).foldl (fun es e => kept e.id es) s.es
theorem eAt_succ (s : St) (t : Int) {k : Nat} (hk : k < (endL s t).length) : eAt s t (k + 1) = kept (endL s t)[k].id (eAt s t k) := by
  unfold eAt
  rw [List.take_succ_eq_append_getElem hk, List.foldl_append]
  rfl
theorem foldKept (l : List Ent) : ∀ es : List Ent, l.foldl (fun es e => kept e.id es) es = es.filter fun x => l.all fun e => x.id != e.id := by
  induction l with
  | nil => intro es; exact (List.filter_eq_self.2 (fun _ _ => rfl)).symm
  | cons e l ih =>
    intro es
    rw [List.foldl_cons, ih]
    unfold kept
    rw [List.filter_filter]
    apply List.filter_congr
    intro x _
    rw [List.all_cons, Bool.and_comm]
theorem eAt_is (s : St) (t : Int) (k : Nat) : eAt s t k = s.es.filter fun x => ((endL s t).take k).all fun e => x.id != e.id := foldKept _ _
theorem eAt_all (s : St) (t : Int) (hid : Ids s.es) {k : Nat} (hk : (endL s t).length ≤ k) : eAt s t k = s.es.filter fun e => !endsB t e := by
  rw [eAt_is, List.take_of_length_le hk]
  apply List.filter_congr
  intro x hx
  cases h : endsB t x
  · rw [Bool.not_false, List.all_eq_true]
    intro e he
    obtain ⟨he1, he2⟩ := List.mem_filter.1 he
    have : x.id ≠ e.id := fun e1 => by
      have := hid.one hx he1 e1
      subst this; rw [h] at he2; cases he2
    simpa using this
  · rw [Bool.not_true]
    cases h2 : (endL s t).all fun e => x.id != e.id
    · rfl
    · rw [List.all_eq_true] at h2
      have := h2 x (List.mem_filter.2 ⟨hx, h⟩)
      simp at this
theorem eAt_mem {s : St} {t : Int} {k : Nat} {e : Ent} : e ∈ eAt s t k ↔ e ∈ s.es ∧ ∀ x ∈ (endL s t).take k, e.id ≠ x.id := by
  rw [eAt_is, List.mem_filter, List.all_eq_true]
  constructor
  · rintro ⟨h1, h2⟩; exact ⟨h1, fun x hx => by simpa using h2 x hx⟩
  · rintro ⟨h1, h2⟩; exact ⟨h1, fun x hx => by simpa using h2 x hx⟩
theorem endL_up {s : St} (hid : Ids s.es) (t : Int) : (endL s t).Pairwise fun a b => a.id < b.id := by
  have := Desk.filter_ids (endsB t) hid
  unfold Ids at this
  rw [List.pairwise_map] at this
  exact this
/-- The next one that ends, of those that are left. -/
theorem eAt_next {s : St} {t : Int} (hid : Ids s.es) {k : Nat} {e : Ent} (he : e ∈ eAt s t k) (hb : endsB t e = true) (hmin : ∀ x ∈ eAt s t k, endsB t x = true → e.id ≤ x.id) : ∃ hk : k < (endL s t).length, e = (endL s t)[k] := by
  obtain ⟨h1, h2⟩ := eAt_mem.1 he
  have hm : e ∈ endL s t := List.mem_filter.2 ⟨h1, hb⟩
  obtain ⟨j, hj, rfl⟩ := List.getElem_of_mem hm
  have hup := List.pairwise_iff_getElem.1 (endL_up hid t)
  have hjk : k ≤ j := by
    by_cases c : j < k
    · exact absurd rfl (h2 (endL s t)[j] (by
        have : j < ((endL s t).take k).length := by rw [List.length_take]; omega
        have h3 := List.getElem_mem this
        rwa [List.getElem_take] at h3))
    · omega
  have hk : k < (endL s t).length := by omega
  refine ⟨hk, ?_⟩
  by_cases c : j = k
  · subst c; rfl
  · have hkm : (endL s t)[k] ∈ eAt s t k := by
      refine eAt_mem.2 ⟨(List.mem_filter.1 (List.getElem_mem hk)).1, fun x hx e1 => ?_⟩
      obtain ⟨i, hi, rfl⟩ := List.getElem_of_mem hx
      rw [List.getElem_take] at e1
      rw [List.length_take] at hi
      have := hup i k (by omega) hk (by omega)
      omega
    have h4 := hmin _ hkm (List.mem_filter.1 (List.getElem_mem hk)).2
    have h5 := hup k j hk hj (by omega)
    omega
theorem mid_eAt {s : St} (h : Mid s) (t : Int) (k : Nat) : Mid { s with es := eAt s t k } := by
  rw [eAt_is]
  exact h.filter (given := s.given) (now := s.now) (ts := s.ts) (es := s.es) _ (Int.le_refl _) h.n1 (fun e he _ hk => by
    rcases (h.en e he).kd with e1 | e1
    · exact absurd e1.1 hk
    · exact e1.2.1)

end Go.Proofs.YtjfkfiffakbagaaGreatDoor


/-
  Package desk: endBy.
-/
namespace Go.Proofs.YtjfkfiffakbagaaGreatDoor
open Go.RowKit
open Desk (Ent St Ids kept booked bookE sumA Items ofB sameB Risen Mid EntOk endsB)

/-- The desk while what ends at t goes: k have gone. -/
structure EX (w wx : World) (d : Nat) (s : St) (col : Nat → Option Col) (t : Int) (k : Nat) (v : Value) (rk : Raw) (ck : Nat → Option Col) : Prop where
  dk : DK wx d rk ck
  of : Of { s with es := eAt s t k } rk
  hl : Hl rk
  wl : Wl rk
  st : Step anyS w.heap.size col ck w wx
  nr : NRow wx w.heap.size ck v (((endL s t).take k).map fun e => e.id)
def EI (w wx : World) (d : Nat) (s : St) (col : Nat → Option Col) (t : Int) (k : Nat) (v : Value) : Prop := ∃ rk ck, EX w wx d s col t k v rk ck

/-- What endBy leaves, and tells. -/
def EndByPost (w : World) (d : Nat) (s : St) (col : Nat → Option Col) (t : Int) (v : Value) (w' : World) : Prop :=
  ∃ (r' : Raw) (col' : Nat → Option Col), DK w' d r' col' ∧ Of { s with es := s.es.filter fun e => !endsB t e } r' ∧ Wl r' ∧ Hl r' ∧ Step anyS w.heap.size col col' w w' ∧ NRow w' w.heap.size col' v ((s.es.filter (endsB t)).map fun e => e.id)

/-- The call of TakeBy on the desk's heap. -/
theorem dtakeBy_any {w : World} {d : Nat} {r : Raw} {col : Nat → Option Col} (h : DK w d r col) (hh : Hl r) (hn : r.eg.length ≤ 1000) (t : Int) :
    Calls Tryz.prog 210 #[.pointer (some ⟨d, 5, none⟩), .int .i64 t] w fun e w' =>
      ((∀ g ∈ r.eg, g.e.kind ≠ 1 → t < g.e.till) ∧ e = .returned (.tuple #[.pointer none, .bool false]) ∧ w' = w) ∨
      (∃ g ∈ r.eg, g.e.kind ≠ 1 ∧ g.e.till ≤ t ∧ (∀ x ∈ r.eg, x.e.kind ≠ 1 → ¬ Hp.ahead (hiOf x) (hiOf g)) ∧ e = .returned (.tuple #[.pointer (some ⟨g.eb, 0, none⟩), .bool true]) ∧ ∃ l' col', Hp.Heap l' ∧ r.hl.Perm (hiOf g :: l') ∧ DK w' d { r with hl := l' } col' ∧ Step (fun c => c = .he ∨ c = .desk) w.heap.size col col' w w') := by
  obtain ⟨v, a1, a2⟩ := h.he
  have hlen := hh.len
  refine (takeBy_any d 5 v r.hl t w a1 hh.1 (by omega)).mono ?_
  rintro e w' (⟨h1, rfl, rfl⟩ | ⟨⟨h1, h2⟩, rfl, l', p, q1, q2⟩)
  · refine .inl ⟨fun g hg hk => ?_, rfl, rfl⟩
    have hm := hh.has hg hk
    rcases h1 with h1 | h1
    · rw [List.length_eq_zero_iff.1 h1] at hm; simp at hm
    · obtain ⟨i, hi, e⟩ := List.getElem_of_mem hm
      have := Hp.top_min hh.1 i hi
      rw [Hp.at_get hi, e] at this
      unfold Hp.ahead hiOf at this
      simp only at this
      omega
  · obtain ⟨g, hg, hk, e⟩ := hh.at (x := Hp.at_ r.hl 0) (by rw [Hp.at_get h1]; exact List.getElem_mem h1)
    rw [e] at h2 q2 ⊢
    refine .inr ⟨g, hg, hk, h2, fun x hx hkx => ?_, rfl, l', ?_⟩
    · obtain ⟨i, hi, e2⟩ := List.getElem_of_mem (hh.has hx hkx)
      have := Hp.top_min hh.1 i hi
      rw [Hp.at_get hi, e2, e] at this
      exact this
    · obtain ⟨col', k1, k2⟩ := h.heap a2 p
      exact ⟨col', q1, q2, k1, k2⟩

/-- What leave leaves, whatever the entry was. -/
def LeftPost (w : World) (d : Nat) (s : St) (col : Nat → Option Col) (g : EG) (w' : World) : Prop :=
  ∃ (r' : Raw) (col' : Nat → Option Col), DK w' d r' col' ∧ Of { s with es := kept g.e.id s.es } r' ∧ Wl r' ∧ Hl r' ∧ Step leaveS w.heap.size col col' w w'
theorem leave_any {w : World} {d : Nat} {s : St} {r : Raw} {col : Nat → Option Col} (h : DK w d r col) (ho : Of s r) (hw : Wl r) (hm : Mid s) {g : EG} (hg : g ∈ r.eg) (hh : Hl { r with eg := keptG g.e.id r.eg }) :
    Calls Tryz.prog 147 #[.pointer (some ⟨d, 0, none⟩), .pointer (some ⟨g.eb, 0, none⟩)] w fun e w' => e = .returned (.tuple #[]) ∧ LeftPost w d s col g w' := by
  have hid := hm.idb _ (ho.mem hg)
  have hg1 := hm.g1
  by_cases hk : g.e.kind = 3
  · refine (leave_wait h hg hk (by omega) (fun b hb => ?_) ?_).mono ?_
    · rw [hw] at hb
      obtain ⟨x, hx, rfl⟩ := List.mem_map.1 hb
      exact ⟨x, (List.mem_filter.1 hx).1, rfl⟩
    · rw [hw, List.length_map]
      have h1 := List.length_filter_le (fun g : EG => g.e.kind == 3) r.eg
      have h2 := mid_len hm
      have h3 : r.eg.length = s.es.length := by rw [← ho.es]; simp
      omega
    · rintro e w' ⟨rfl, col', q1, q2⟩
      refine ⟨rfl, _, col', q1, ?_, hw.goes h.ni h.nd hg, hh, q2⟩
      have o := ho.goesW hm.ids h.ni hg hk
      exact ⟨o.now, o.given, o.ts, o.es, o.th, o.tb⟩
  · obtain ⟨i, hi, hname, htb⟩ := ho.tb g hg
    have hRM := mid_room hm ho hi
    refine (leave_took h hg hk i hi htb (mid_fit hm ho (hm.en _ (ho.mem hg)) hi) hRM.1 hRM.2 (mid_back hm ho hg hk hi hname) (by omega)).mono ?_
    rintro e w' ⟨rfl, col', q1, q2⟩
    exact ⟨rfl, _, col', q1, ho.goes hm.tn hm.ids h.ni hg hk hi hname, hw.goes1 h.ni hg hk, hh, q2⟩

def lenOf : Value → Nat
  | .slice _ n _ => n
  | _ => 0
theorem NRow.len {w : World} {B : Nat} {col : Nat → Option Col} {v : Value} {l : List Int} (h : NRow w B col v l) : lenOf v = l.length := by
  obtain ⟨a, cap, rfl⟩ := h.slice
  rfl
/-- One more has gone. -/
theorem EX.gone {w wx w1 w2 w3 : World} {d : Nat} {s : St} {col : Nat → Option Col} {t : Int} {k : Nat} {v v' : Value} {rk : Raw} {ck c1 : Nat → Option Col} (h : EX w wx d s col t k v rk ck) (hk : k < (endL s t).length) {g : EG} (hge : g.e = (endL s t)[k]) (p2 : Step (fun c => c = .he ∨ c = .desk) wx.heap.size ck c1 wx w1) (sp : LeftPost w1 d { s with es := eAt s t k } c1 g w2) (ho : Off v.ownBlock.toList w2 w3) (hv' : ∀ c2, (∀ b, v.ownBlock = some b → c2 b = none) → (∀ b, w2.heap.size ≤ b → c2 b = none) → NRow w3 w.heap.size c2 v' ((((endL s t).take k).map fun e => e.id) ++ [g.e.id])) :
    EI w w3 d s col t (k + 1) v' := by
  obtain ⟨r2, c2, q1, q2, q3, q4, q5⟩ := sp
  have hnr := (h.nr.step p2 (Nat.le_refl _)).step q5 (Nat.le_refl _)
  have hvn : ∀ b, v.ownBlock = some b → c2 b = none := hnr.no
  have st3 : Step anyS w.heap.size c2 c2 w2 w3 := ⟨⟨_, ho, fun y hy => .inr ⟨hvn y (Option.mem_toList.1 hy), (hnr.own.lt y (Option.mem_toList.1 hy)).1⟩⟩, fun _ _ h => h, fun _ _ h => .inl h⟩
  have t1 := h.st.trans (p2.any h.st.size)
  have t2 := t1.trans (q5.any t1.size)
  refine ⟨r2, c2, q1.off ho (fun y hy => hvn y (Option.mem_toList.1 hy)), ?_, q4, q3, t2.trans st3, ?_⟩
  · rw [eAt_succ s t hk, ← hge]; exact q2
  · rw [List.take_succ_eq_append_getElem hk, List.map_append]
    have : [(endL s t)[k]].map (fun e => e.id) = [g.e.id] := by rw [← hge]; rfl
    rw [this]
    exact hv' c2 hvn (fun b hb => q1.none hb)

set_option maxRecDepth 100000 in
set_option maxHeartbeats 4000000 in
theorem endBy_any {w : World} {d : Nat} {s : St} {r : Raw} {col : Nat → Option Col} (h : DK w d r col) (ho : Of s r) (hw : Wl r) (hh : Hl r) (hm : Mid s) (t : Int) (ht : ∀ e ∈ s.es, e.kind ≠ 1 → t ≤ e.till) :
    Calls Tryz.prog 153 #[.pointer (some ⟨d, 0, none⟩), .int .i64 t] w fun e w' => ∃ v, e = .returned v ∧ EndByPost w d s col t v w' := by
  obtain ⟨i0, hi0, hz0, hz1, hz2⟩ := info_parts infoInt
  have E0 : Hid (EI w w d s col t 0 (.slice none 0 0)) := ⟨r, col, h, ho, hh, hw, Step.refl _ _ _ _, NRow.nil _ _ _⟩
  have HM := hidp (And.intro hm ht)
  clear h ho hw hh hm ht
  go_enter Tryz.func153, Tryz.ntmps153
  go_wp2_with fail
  go_loopw [5, 6, 7] (fun vg _ _ wx => ∃ k : Nat, k ≤ (endL s t).length ∧ EI w wx d s col t k vg) (fun vg _ _ _ => (endL s t).length - lenOf vg)
  case atStart => exact ⟨0, Nat.zero_le _, E0.out⟩
  case round =>
    obtain ⟨k, hk, rk, ck, X⟩ := hrel
    have hMk := mid_eAt HM.out.1 t k
    have hcnt : rk.eg.length ≤ 1000 := by
      have h2 : rk.eg.length = (eAt s t k).length := by have := X.of.es; rw [← List.length_map (f := (·.e)), this]
      have h3 := mid_len hMk
      simp only at h3
      omega
    have TB := hidp (dtakeBy_any X.dk X.hl hcnt t)
    have hlv : lenOf u5 = k := by rw [X.nr.len, List.length_map, List.length_take]; omega
    have HX := hidp X
    have HMK := hidp hMk
    have HLV := hidp hlv
    clear X hMk hcnt hlv
    go_wp2_with fail
    refine TB.out.mono ?_
    rintro e w1 (⟨h1, rfl, rfl⟩ | ⟨g, hg, hkd, htl, hmin, rfl, l', c1, s1, s2, s3, s4⟩)
    · have HF : Hid (EndByPost w d s col t u5 w1) := by
        have X := HX.out
        have hke : (endL s t).length ≤ k := by
          by_cases c : k < (endL s t).length
          · exfalso
            obtain ⟨m1, m2⟩ := List.mem_filter.1 (List.getElem_mem c)
            have hin : (endL s t)[k] ∈ eAt s t k := by
              refine eAt_mem.2 ⟨m1, fun x hx e1 => ?_⟩
              obtain ⟨j, hj, rfl⟩ := List.getElem_of_mem hx
              rw [List.getElem_take] at e1
              rw [List.length_take] at hj
              have := List.pairwise_iff_getElem.1 (endL_up HM.out.1.ids t) j k (by omega) c (by omega)
              omega
            obtain ⟨g, hg, e1⟩ := X.of.get hin
            unfold endsB at m2
            rw [← e1, Bool.and_eq_true, decide_eq_true_iff] at m2
            have := h1 g hg (by simpa using m2.1)
            omega
          · omega
        have e1 := eAt_all s t HM.out.1.ids hke
        have o := X.of
        rw [e1] at o
        have n := X.nr
        rw [List.take_of_length_le hke] at n
        exact ⟨rk, ck, X.dk, o, X.wl, X.hl, X.st, n⟩
      clear h1 TB HX
      go_wp2_with fail
      go_ret
      exact ⟨_, rfl, HF.out⟩
    · have X := HX.out
      have hge : ∃ hk' : k < (endL s t).length, g.e = (endL s t)[k] := by
        have hin := X.of.mem hg
        have hes := (eAt_mem.1 hin).1
        have htt := HM.out.2 _ hes hkd
        refine eAt_next HM.out.1.ids hin (by unfold endsB; rw [Bool.and_eq_true, decide_eq_true_iff]; exact ⟨by simpa using hkd, by omega⟩) (fun x hx hb => ?_)
        obtain ⟨y, hy, rfl⟩ := X.of.get hx
        unfold endsB at hb
        rw [Bool.and_eq_true, decide_eq_true_iff] at hb
        have := hmin y hy (by simpa using hb.1)
        unfold Hp.ahead hiOf at this
        simp only at this
        omega
      obtain ⟨hk', hge⟩ := hge
      have HLs : Hl { rk with hl := l', eg := keptG g.e.id rk.eg } := X.hl.goes X.dk.ni hg hkd (x := hiOf g) rfl s1 s2
      have LV := hidp (leave_any (r := { rk with hl := l' }) s3 ⟨X.of.now, X.of.given, X.of.ts, X.of.es, X.of.th, X.of.tb⟩ X.wl HMK.out hg HLs)
      have S4 := hidp (And.intro s4 (And.intro hge hk'))
      have EN := hidp (s3.en g hg)
      clear s1 s2 s3 s4 hmin htl hge HLs X TB hkd hg
      go_wp2_with fail
      refine LV.out.mono ?_
      rintro e w2 ⟨rfl, sp⟩
      have SP := hidp sp
      obtain ⟨r2, c2, q1, q2, q3, q4, q5⟩ := sp
      have c02 := (q5.enk EN.out.1 (.inl ⟨_, EN.out.2.1, by unfold leaveS; simp⟩) (.inl ⟨_, EN.out.2.2, by unfold leaveS; simp⟩)).en.c0
      have NR := hidp ((HX.out.nr.step S4.out.1 (Nat.le_refl _)).step q5 (Nat.le_refl _))
      have hws : w.heap.size ≤ w2.heap.size := Nat.le_trans (Nat.le_trans HX.out.st.size S4.out.1.size) q5.size
      have hkl : ((endL s t).take k).length ≤ 60 := by
        have h1 := List.length_take_le k (endL s t)
        have h2 := List.length_filter_le (endsB t) s.es
        have h3 := mid_len HM.out.1
        have h4 : (endL s t).length ≤ 60 := by unfold endL; omega
        rw [List.length_take]; omega
      have hkm : (((endL s t).take k).map fun e => e.id).length ≤ 60 := by rw [List.length_map]; exact hkl
      clear q1 q2 q3 q4 q5 LV EN hkl
      go_wp2_with (first
        | (at_builtin; refine wpList_append_lies _ rfl _ _ 38 rfl w.heap.size 3 i0 _ 1 8 Tryz.underlying38 hi0 hz0 hz1 hz2 rfl (by decide) _ _ _ rfl (NR.out.own.alloc _) ⟨w2.heap.size, 0, none⟩ 1 1 [.int .i64 g.e.id] rfl rfl (World.news_of_block (cs := #[.int .i64 g.e.id]) (heapNew w2 _)) (by simp [Value.oneCell']) (by omega) (by unfold maxLen; omega) (by omega) (by simp; omega) (w2.heap.size + 1) (by simp) ?_; intro g2 cap2 w3 hown hgrow hat hlt2))
      have ko : Off u5.ownBlock.toList w2 w3 := Off.grown ((Off.refl _ w2).alloc _) hgrow (fun k hk => .inl (Option.mem_toList.2 hk))
      have hat' : u5.ownBlock = some g2 ∨ g2 = w2.heap.size + 1 := hat
      have HN : Hid (EI w w3 d s col t (k + 1) (.slice (some ⟨g2, 0, none⟩) ((((endL s t).take k).map fun e => e.id).length + 1) cap2)) :=
        HX.out.gone S4.out.2.2 S4.out.2.1 S4.out.1 SP.out ko (fun c2 n1 n2 => ⟨by rw [List.length_append, List.map_append]; exact hown, fun b hb => by
          have : g2 = b := by simpa [Value.ownBlock] using hb
          subst this
          rcases hat' with e | e
          · exact n1 g2 e
          · exact n2 g2 (by omega)⟩)
      have hk1 : k + 1 ≤ (endL s t).length := S4.out.2.2
      have hl1 : (((endL s t).take k).map fun e => e.id).length = k := by rw [List.length_map, List.length_take]; omega
      have HL1 := hidp hl1
      have HLW := hidp HLV.out
      clear hown hgrow hat ko hat' HX SP NR S4 HMK hl1 hkm
      go_roundw
      case rel => exact ⟨k + 1, hk1, by have h := HN.out; rw [HL1.out] at h; exact h⟩
      case measure =>
        have := HL1.out
        have := HLW.out
        simp [lenOf] at *
        omega

end Go.Proofs.YtjfkfiffakbagaaGreatDoor


/-
  A tick, as the program goes through it: from one time at which something ends to the next.
-/
namespace Go.Proofs.YtjfkfiffakbagaaGreatDoor
namespace Desk

theorem tick_stop {ts : List (ByteArray × Int)} {es : List Ent} {given now tq : Int} (h : Inv ⟨ts, es, given, now⟩) (hno : ∀ e ∈ es, e.kind ≠ 1 → tq < e.till) (k : Nat) : tickGo ts (k + 1) es now tq = (es, [], []) := by
  by_cases c : now < tq
  · have e1 : nextT tq es = tq := by
      rcases (nextT_le tq es).2.2 with e | ⟨e, he, hk, e1⟩
      · exact e
      · have := hno e he hk
        have := (nextT_le tq es).1
        omega
    have e2 : es.filter (fun e => !endsB tq e) = es := List.filter_eq_self.2 (fun e he => by
      cases hb : endsB tq e
      · rfl
      · unfold endsB at hb
        rw [Bool.and_eq_true, decide_eq_true_iff] at hb
        have := hno e he (by simpa using hb.1)
        omega)
    have e3 : es.filter (endsB tq) = [] := by
      rw [List.filter_eq_nil_iff]
      intro e he hb
      unfold endsB at hb
      rw [Bool.and_eq_true, decide_eq_true_iff] at hb
      have := hno e he (by simpa using hb.1)
      omega
    have e4 := grantS_no h
    simp only at e4
    rw [tickGo, if_pos c]
    simp only [e1, e2, e3, e4]
    cases k with
    | zero => rfl
    | succ k => rw [tickGo, if_neg (by omega)]; rfl
  · rw [tickGo, if_neg c]
theorem tick_next {ts : List (ByteArray × Int)} {es : List Ent} {now tq t : Int} (hn : now < t) (ht : t ≤ tq) (h1 : ∃ e ∈ es, e.kind ≠ 1 ∧ e.till = t) (h2 : ∀ e ∈ es, e.kind ≠ 1 → t ≤ e.till) (k : Nat) :
    tickGo ts (k + 1) es now tq = ((tickGo ts k (grantS ts (es.filter fun e => !endsB t e)).1 t tq).1, (es.filter (endsB t)).map (·.id) ++ (tickGo ts k (grantS ts (es.filter fun e => !endsB t e)).1 t tq).2.1, (grantS ts (es.filter fun e => !endsB t e)).2 ++ (tickGo ts k (grantS ts (es.filter fun e => !endsB t e)).1 t tq).2.2) := by
  have e1 : nextT tq es = t := by
    obtain ⟨e, he, hk, rfl⟩ := h1
    have := (nextT_le tq es).2.1 e he hk
    rcases (nextT_le tq es).2.2 with e2 | ⟨x, hx, hkx, e2⟩
    · omega
    · have := h2 x hx hkx; omega
  rw [tickGo, if_pos (by omega)]
  simp only [e1]
theorem tick_inv {ts : List (ByteArray × Int)} {es : List Ent} {given now t : Int} (h : Inv ⟨ts, es, given, now⟩) (hn : now < t) (ht : t ≤ 1048320) (h2 : ∀ e ∈ es, e.kind ≠ 1 → t ≤ e.till) : Inv ⟨ts, (grantS ts (es.filter fun e => !endsB t e)).1, given, t⟩ ∧ Mid ⟨ts, es.filter (fun e => !endsB t e), given, t⟩ := by
  have hm : Mid ⟨ts, es.filter (fun e => !endsB t e), given, t⟩ := h.mid.filter _ (by omega) ht (fun e he hp hk => by
    have := h2 e he hk
    by_cases c : e.till = t
    · have : endsB t e = true := by unfold endsB; rw [Bool.and_eq_true, decide_eq_true_iff]; exact ⟨by simpa using hk, c⟩
      rw [this] at hp; cases hp
    · omega)
  exact ⟨grantS_is hm, hm⟩
/-- An earlier time serves too. -/
theorem Mid.earlier {ts : List (ByteArray × Int)} {es : List Ent} {given now now' : Int} (h : Mid ⟨ts, es, given, now⟩) (h0 : 0 ≤ now') (hn : now' ≤ now) : Mid ⟨ts, es, given, now'⟩ := by
  refine ⟨h.tl, h.tu, h.tn, h.ids, h.idb, h.g0, h.g1, h0, ?_, fun e he => ?_, h.th, h.wa, h.wi⟩
  · have := h.n1; simp only at *; omega
  · have k := h.en e he
    refine ⟨k.u1, k.u9, k.sl, k.s0, k.sp, k.ri, ?_⟩
    rcases k.kd with e1 | ⟨e1, e2, e3, e4⟩
    · exact .inl e1
    · exact .inr ⟨e1, by simp only at *; omega, e3, e4⟩

end Desk
end Go.Proofs.YtjfkfiffakbagaaGreatDoor


/-
  An answer that is being put together: its block, its two rows of numbers; one row appended to another.
-/
namespace Go.Proofs.YtjfkfiffakbagaaGreatDoor
open Go.RowKit

/-- An answer as a value. -/
def repV (err at_ n : Int) (en da gr ed : Value) : Value := .agg #[.int .i64 err, .int .i64 at_, .int .i64 n, en, da, gr, ed]
def repC (n : Int) (gr ed : Value) : Array Value := #[.int .i64 0, .int .i64 0, .int .i64 n, .slice none 0 0, .slice none 0 0, gr, ed]

theorem NRow.base {w : World} {B B' : Nat} {col : Nat → Option Col} {v : Value} {l : List Int} (h : NRow w B col v l) (hb : B' ≤ B) : NRow w B' col v l := ⟨Joins.ownsRow_le h.own hb, h.no⟩
/-- One row appended to another: the run. -/
theorem NRow.append {w : World} {B : Nat} {col : Nat → Option Col} {v u : Value} {l m : List Int} (h : NRow w B col v l) (k : NRow w B col u m) (hB : B ≤ w.heap.size) (hc : ∀ b, w.heap.size ≤ b → col b = none) (hl : l.length + m.length ≤ 100000) :
    ∃ (v' : Value) (w' : World), (∀ ty, (Builtin.append_ #[38, 38] ty #[v, u]).run Tryz.prog w = .ok v' w') ∧ NRow w' B col v' (l ++ m) ∧ w.grownBy w' v.ownBlock ∧ (v'.ownBlock = v.ownBlock ∨ v'.ownBlock = some w.heap.size) := by
  obtain ⟨i0, hi0, hz0, hz1, hz2⟩ := info_parts infoInt
  rcases k.own.2 with ⟨rfl, h0⟩ | ⟨g, cap, cur, rfl, hb, hh, h1, h2, h3, h4⟩
  · have hm : m = [] := List.length_eq_zero_iff.1 h0
    subst hm
    refine ⟨v, w, fun ty => run_append_owned_none (P := Tryz.prog) w B 38 ty 3 i0 1 Tryz.underlying38 hi0 v l.length _ h.own, by rw [List.append_nil]; exact h, ⟨rfl, rfl, rfl, Nat.le_refl _, fun _ _ _ => rfl⟩, .inl rfl⟩
  · have key := fun ty => run_append_own_at (P := Tryz.prog) w B 38 ty 3 i0 _ 1 8 Tryz.underlying38 hi0 hz0 hz1 hz2 rfl (by decide) v l.length _ h.own ⟨g, 0, none⟩ m.length cap (m.map (Value.int .i64)) (by simp) (fun j x hx => by
      have hj : j < m.length := by
        have := List.getElem?_eq_some_iff.1 hx
        obtain ⟨h, _⟩ := this
        simpa using h
      have e := k.own.cellAt j (by omega)
      have hadd : (⟨g, 0, none⟩ : Addr).add j = ⟨g, j, none⟩ := by unfold Addr.add; split <;> simp_all
      rw [hadd, e]; exact hx) (by
      intro x hx
      obtain ⟨y, _, rfl⟩ := List.mem_map.1 hx
      rfl) (by unfold maxLen; omega) (by omega) hB
    obtain ⟨v', w', r1, r2, r3, r4, r5⟩ := key 0
    refine ⟨v', w', fun ty => ?_, ⟨by rw [List.length_append, List.map_append]; exact r2, fun b hb => ?_⟩, r3, r5⟩
    · exact r1
    · rcases r5 with e | e
      · exact h.no b (by rw [← e]; exact hb)
      · rw [hb] at e
        cases e
        exact hc _ (Nat.le_refl _)

/-- An append whose run is known, at a step of a region that draws its order, and at an operation. -/
theorem wp_append_run {P : Program} {o : Oper} {a : Act} {w w' : World} {K : Act → World → Prop} {Q : Exit → Act → World → Prop} (s x : Operand) (t : TypeId) (v' : Value)
    (ho : o.op = .call { callee := .builtin .append, args := #[s, x], argTypes := #[t, t] }) (hrun : (Builtin.append_ #[t, t] o.type #[a.eval s, a.eval x]).run P w = .ok v' w') (h : K (a.put o.dst v') w') : o.wp P a w K Q := by
  unfold Oper.wp execOp
  simp only [ho, resolve, invoke, builtin, Sem.run_bind, Sem.run_pure, Result.andThen_ok, List.map_toArray, List.map_cons, List.map_nil, hrun]
  exact h
theorem step_append_run {P : Program} {ops : Array Oper} {o : Oper} {a : Act} {w w' : World} {K : Act → World → Prop} {Q : Exit → Act → World → Prop} {E : Prop} (hgd : o.guard = none) (s x : Operand) (t : TypeId) (v' : Value)
    (ho : o.op = .call { callee := .builtin .append, args := #[s, x], argTypes := #[t, t] }) (hrun : (Builtin.append_ #[t, t] o.type #[a.eval s, a.eval x]).run P w = .ok v' w') (h : K (a.put o.dst v') w') :
    if Region.wanted o (yielded ops a.tmps) = true then Oper.wp P o a w K Q else E := by
  have hw : Region.wanted o (yielded ops a.tmps) = true := by simp [Region.wanted, hgd]
  rw [if_pos hw]
  exact wp_append_run s x t v' ho hrun h
/-- A call of a Go function at a step of a region that draws its order. -/
theorem step_call {P : Program} {ops : Array Oper} {o : Oper} {a : Act} {w : World} {K : Act → World → Prop} {Q : Exit → Act → World → Prop} {E : Prop} (hgd : o.guard = none) (f : FuncId) (xs : Array Operand) (ats : Array TypeId)
    (ho : o.op = .call { callee := .value (.func f), args := xs, argTypes := ats }) (args : Array Value) (ha : xs.map a.eval = args) (he : (callFunc f args).run P w = .ok (.enter f args) w) {R : Ending → World → Prop} (hc : Calls P f args w R) (h : ∀ e w', R e w' → ∃ v, e = .returned v ∧ K (a.put o.dst v) w') :
    if Region.wanted o (yielded ops a.tmps) = true then Oper.wp P o a w K Q else E := by
  have hw : Region.wanted o (yielded ops a.tmps) = true := by simp [Region.wanted, hgd]
  rw [if_pos hw]
  unfold Oper.wp
  have e1 : (execOp a.eval o).run P w = .ok (.enter f args) w := by
    simp [execOp, ho, resolve, invoke, Act.eval, Deferred.ofValue, ha, he]
  rw [e1, Oper.upon_enter]
  refine hc.mono ?_
  intro e w' hR
  obtain ⟨v, rfl, hK⟩ := h e w' hR
  exact hK

/-- The answer in block R, that which will be handed back in block Q. -/
structure RB (w : World) (B : Nat) (col : Nat → Option Col) (R Q : Nat) (n : Int) (vG vE : Value) (G E : List Int) : Prop where
  r : w.heap[R]? = some (.cells (repC n vG vE) 40 (0, 0))
  q : w.heap[Q]? = some (.cells (repC 0 (.slice none 0 0) (.slice none 0 0)) 40 (0, 0))
  rc : col R = none
  qc : col Q = none
  rb : B ≤ R
  qb : B ≤ Q
  rq : R ≠ Q
  g : NRow w B col vG G
  e : NRow w B col vE E
  ge : ∀ b, vG.ownBlock = some b → vE.ownBlock ≠ some b ∧ b ≠ R ∧ b ≠ Q
  er : ∀ b, vE.ownBlock = some b → b ≠ R ∧ b ≠ Q
theorem hget_lt {w : World} {b : Nat} {o : Obj} (h : w.heap[b]? = some o) : b < w.heap.size := by
  by_cases hx : b < w.heap.size
  · exact hx
  · rw [Array.getElem?_eq_none (by omega)] at h; cases h
theorem RB.step {S : Col → Prop} {B B' : Nat} {col col' : Nat → Option Col} {w w' : World} {R Q : Nat} {n : Int} {vG vE : Value} {G E : List Int} (h : RB w B col R Q n vG vE G E) (st : Step S B' col col' w w') (hB : w.heap.size ≤ B') : RB w' B col' R Q n vG vE G E := by
  have hr := hget_lt h.r
  have hq := hget_lt h.q
  exact ⟨(st.blockN hr h.rc (by omega)).trans h.r, (st.blockN hq h.qc (by omega)).trans h.q, st.keepN h.rc (by omega), st.keepN h.qc (by omega), h.rb, h.qb, h.rq, h.g.step st hB, h.e.step st hB, h.ge, h.er⟩
theorem RB.later {B : Nat} {col : Nat → Option Col} {w w' : World} {R Q : Nat} {n : Int} {vG vE : Value} {G E : List Int} (h : RB w B col R Q n vG vE G E) (k : Below w.heap.size w w') : RB w' B col R Q n vG vE G E := h.step (Step.below (S := anyS) (B := w.heap.size) k) (Nat.le_refl _)
theorem RB.cells {B : Nat} {col : Nat → Option Col} {w : World} {R Q : Nat} {n : Int} {vG vE : Value} {G E : List Int} (h : RB w B col R Q n vG vE G E) : w.cell? ⟨R, 5, none⟩ = some vG ∧ w.cell? ⟨R, 6, none⟩ = some vE ∧ ∀ o, w.frozen? ⟨R, o, none⟩ = false := by
  refine ⟨?_, ?_, fun o => ?_⟩
  · simp [World.cell?, h.r, repC]
  · simp [World.cell?, h.r, repC]
  · exact frozen_of_row w R o _ _ h.r

/-- The row of what ended is longer, and stored. -/
theorem RB.growE {B : Nat} {col : Nat → Option Col} {w w1 : World} {R Q : Nat} {n : Int} {vG vE v : Value} {G E E' : List Int} (h : RB w B col R Q n vG vE G E) (hn : NRow w1 B col v E') (hg : w.grownBy w1 vE.ownBlock) (hat : v.ownBlock = vE.ownBlock ∨ v.ownBlock = some w.heap.size) :
    RB (w1.setCell ⟨R, 6, none⟩ v) B col R Q n vG v G E' ∧ Off (R :: vE.ownBlock.toList) w (w1.setCell ⟨R, 6, none⟩ v) ∧ w1.cell? ⟨R, 6, none⟩ = some vE ∧ w1.frozen? ⟨R, 6, none⟩ = false := by
  have hrl := hget_lt h.r
  have hql := hget_lt h.q
  have k : Off vE.ownBlock.toList w w1 := Off.grown (Off.refl _ w) hg (fun k hk => .inl (Option.mem_toList.2 hk))
  have hRE : R ∉ vE.ownBlock.toList := fun e => (h.er R (Option.mem_toList.1 e)).1 rfl
  have hQE : Q ∉ vE.ownBlock.toList := fun e => (h.er Q (Option.mem_toList.1 e)).2 rfl
  have r1 := (k.block R hrl hRE).trans h.r
  have q1 := (k.block Q hql hQE).trans h.q
  have hvR : ∀ b, v.ownBlock = some b → b ≠ R ∧ b ≠ Q := fun b hb => by
    rcases hat with e | e
    · exact h.er b (by rw [← e]; exact hb)
    · rw [hb] at e; cases e; omega
  have hGE : ∀ b, vG.ownBlock = some b → b ∉ vE.ownBlock.toList := fun b hb e => (h.ge b hb).1 (Option.mem_toList.1 e)
  refine ⟨⟨?_, ?_, h.rc, h.qc, h.rb, h.qb, h.rq, ⟨?_, h.g.no⟩, ⟨?_, hn.no⟩, fun b hb => ⟨fun e => ?_, (h.ge b hb).2⟩, hvR⟩, ?_, ?_, ?_⟩
  · have := heap_setCell_same w1 R 6 _ _ v r1
    rw [this]
    simp [repC]
  · exact (heap_setCell_other w1 ⟨R, 6, none⟩ Q v (by simpa using h.rq.symm)).trans q1
  · exact ownOff (ownOff h.g.own k hGE) (Off.set0 R _ 6 _) (fun b hb => by simpa using (h.ge b hb).2.1)
  · exact ownOff hn.own (Off.set0 R _ 6 _) (fun b hb => by simpa using (hvR b hb).1)
  · rcases hat with e2 | e2
    · exact (h.ge b hb).1 (by rw [← e2]; exact e)
    · have h1 := (h.g.own.lt b hb).2
      rw [e] at e2; cases e2; omega
  · exact (k.mono (by simp +contextual)).setCell (.inl (by simp)) _ _
  · simp [World.cell?, r1, repC]
  · exact frozen_of_row w1 R 6 _ _ r1
/-- The row of who was granted is longer, and stored. -/
theorem RB.growG {B : Nat} {col : Nat → Option Col} {w w1 : World} {R Q : Nat} {n : Int} {vG vE v : Value} {G E G' : List Int} (h : RB w B col R Q n vG vE G E) (hn : NRow w1 B col v G') (hg : w.grownBy w1 vG.ownBlock) (hat : v.ownBlock = vG.ownBlock ∨ v.ownBlock = some w.heap.size) :
    RB (w1.setCell ⟨R, 5, none⟩ v) B col R Q n v vE G' E ∧ Off (R :: vG.ownBlock.toList) w (w1.setCell ⟨R, 5, none⟩ v) ∧ w1.cell? ⟨R, 5, none⟩ = some vG ∧ w1.frozen? ⟨R, 5, none⟩ = false := by
  have hrl := hget_lt h.r
  have hql := hget_lt h.q
  have k : Off vG.ownBlock.toList w w1 := Off.grown (Off.refl _ w) hg (fun k hk => .inl (Option.mem_toList.2 hk))
  have hRE : R ∉ vG.ownBlock.toList := fun e => (h.ge R (Option.mem_toList.1 e)).2.1 rfl
  have hQE : Q ∉ vG.ownBlock.toList := fun e => (h.ge Q (Option.mem_toList.1 e)).2.2 rfl
  have r1 := (k.block R hrl hRE).trans h.r
  have q1 := (k.block Q hql hQE).trans h.q
  have hvR : ∀ b, v.ownBlock = some b → b ≠ R ∧ b ≠ Q := fun b hb => by
    rcases hat with e | e
    · exact (h.ge b (by rw [← e]; exact hb)).2
    · rw [hb] at e; cases e; omega
  have hGE : ∀ b, vE.ownBlock = some b → b ∉ vG.ownBlock.toList := fun b hb e => (h.ge b (Option.mem_toList.1 e)).1 hb
  refine ⟨⟨?_, ?_, h.rc, h.qc, h.rb, h.qb, h.rq, ⟨?_, hn.no⟩, ⟨?_, h.e.no⟩, fun b hb => ⟨fun e => ?_, hvR b hb⟩, h.er⟩, ?_, ?_, ?_⟩
  · have := heap_setCell_same w1 R 5 _ _ v r1
    rw [this]
    simp [repC]
  · exact (heap_setCell_other w1 ⟨R, 5, none⟩ Q v (by simpa using h.rq.symm)).trans q1
  · exact ownOff hn.own (Off.set0 R _ 5 _) (fun b hb => by simpa using (hvR b hb).1)
  · exact ownOff (ownOff h.e.own k hGE) (Off.set0 R _ 5 _) (fun b hb => by simpa using (h.er b hb).1)
  · rcases hat with e2 | e2
    · exact (h.ge b (by rw [← e2]; exact hb)).1 e
    · have h1 := (h.e.own.lt b e).2
      rw [hb] at e2; cases e2; omega
  · exact (k.mono (by simp +contextual)).setCell (.inl (by simp)) _ _
  · simp [World.cell?, r1, repC]
  · exact frozen_of_row w1 R 5 _ _ r1

end Go.Proofs.YtjfkfiffakbagaaGreatDoor


/-
  Package desk: tick: what holds at each time at which something ends.
-/
namespace Go.Proofs.YtjfkfiffakbagaaGreatDoor
open Go.RowKit
open Desk (Ent St Ids kept booked bookE sumA Items ofB sameB Risen Mid EntOk endsB Inv)

/-- The desk, with its entries esc, beside an answer that is being put together. -/
structure TD (w wx : World) (d : Nat) (s : St) (col : Nat → Option Col) (R Q : Nat) (tq : Int) (esc : List Ent) (G E : List Int) (vG vE : Value) : Prop where
  ex : ∃ rk ck, DK wx d rk ck ∧ Of { s with es := esc } rk ∧ Wl rk ∧ Hl rk ∧ Step anyS w.heap.size col ck w wx ∧ RB wx w.heap.size ck R Q tq vG vE G E
theorem TD.later {w wx wy : World} {d : Nat} {s : St} {col : Nat → Option Col} {R Q : Nat} {tq : Int} {esc : List Ent} {G E : List Int} {vG vE : Value} (h : TD w wx d s col R Q tq esc G E vG vE) (k : Below wx.heap.size wx wy) : TD w wy d s col R Q tq esc G E vG vE := by
  obtain ⟨rk, ck, a1, a2, a3, a4, a5, a6⟩ := h.ex
  exact ⟨rk, ck, a1.later k, a2, a3, a4, a5.trans (Step.below k), a6.later k⟩
/-- What is still to be done. -/
structure TK (s : St) (tq : Int) (esc : List Ent) (nowc : Int) (G E : List Int) (K : Nat) : Prop where
  inv : Inv ⟨s.ts, esc, s.given, nowc⟩
  n1 : s.now ≤ nowc
  n2 : nowc ≤ tq
  len : esc.length ≤ K
  cnt : E.length + esc.length ≤ s.es.length
  gl : G.length ≤ 60 * E.length
  tk : Desk.tickGo s.ts (s.es.length + 1) s.es s.now tq = ((Desk.tickGo s.ts (K + 1) esc nowc tq).1, E ++ (Desk.tickGo s.ts (K + 1) esc nowc tq).2.1, G ++ (Desk.tickGo s.ts (K + 1) esc nowc tq).2.2)
theorem TK.mid {s : St} {tq : Int} {esc : List Ent} {nowc : Int} {G E : List Int} {K : Nat} (h : TK s tq esc nowc G E K) (h0 : 0 ≤ s.now) : Mid { s with es := esc } := (h.inv.mid).earlier h0 h.n1
/-- Nothing ends any more: all is told. -/
theorem TK.stop {s : St} {tq : Int} {esc : List Ent} {nowc : Int} {G E : List Int} {K : Nat} (h : TK s tq esc nowc G E K) (hno : ∀ e ∈ esc, e.kind ≠ 1 → tq < e.till) : Desk.tickGo s.ts (s.es.length + 1) s.es s.now tq = (esc, E, G) := by
  rw [h.tk, Desk.tick_stop h.inv hno]; simp
/-- The next time at which something ends. -/
theorem TK.next {s : St} {tq : Int} {esc : List Ent} {nowc : Int} {G E : List Int} {K : Nat} (h : TK s tq esc nowc G E K) {t : Int} (htq : tq ≤ 1048320) (ht : t ≤ tq) (h1 : ∃ e ∈ esc, e.kind ≠ 1 ∧ e.till = t) (h2 : ∀ e ∈ esc, e.kind ≠ 1 → t ≤ e.till) :
    ∃ K', TK s tq (Desk.grantS s.ts (esc.filter fun e => !endsB t e)).1 t (G ++ (Desk.grantS s.ts (esc.filter fun e => !endsB t e)).2) (E ++ (esc.filter (endsB t)).map fun e => e.id) K' ∧ Mid ⟨s.ts, esc.filter (fun e => !endsB t e), s.given, t⟩ ∧ nowc < t := by
  obtain ⟨e0, he0, hk0, ht0⟩ := h1
  have hnt : nowc < t := by
    rcases (h.inv.en e0 he0).kd with e | e
    · exact absurd e.1 hk0
    · have := e.2.1; simp only at this; omega
  obtain ⟨i1, i2⟩ := Desk.tick_inv h.inv hnt (by omega) h2
  have hsplit : (esc.filter (endsB t)).length + (esc.filter fun e => !endsB t e).length = esc.length := by
    have : ∀ l : List Ent, (l.filter (endsB t)).length + (l.filter fun e => !endsB t e).length = l.length := by
      intro l
      induction l with
      | nil => rfl
      | cons x l ih => simp only [List.filter_cons]; cases endsB t x <;> simp <;> omega
    exact this esc
  have hpos : 0 < (esc.filter (endsB t)).length := List.length_pos_iff.2 (fun e => by
    have : e0 ∈ esc.filter (endsB t) := List.mem_filter.2 ⟨he0, by unfold endsB; rw [Bool.and_eq_true, decide_eq_true_iff]; exact ⟨by simpa using hk0, ht0⟩⟩
    rw [e] at this; simp at this)
  have hlen := h.len
  have hcnt := h.cnt
  have hgl := h.gl
  obtain ⟨K', rfl⟩ : ∃ K', K = K' + 1 := ⟨K - 1, by omega⟩
  have hgL := Desk.grantS_len s.ts (esc.filter fun e => !endsB t e)
  have hg2 : (Desk.grantS s.ts (esc.filter fun e => !endsB t e)).2.length ≤ 60 := by
    have e1 := Desk.grant_fold s.ts (esc.filter fun e => !endsB t e) i2.ids
    rw [e1]
    have h1 := gfold_len s.ts ((esc.filter fun e => !endsB t e).filter Desk.waitsB) (esc.filter fun e => !endsB t e, [])
    have h2 := List.length_filter_le Desk.waitsB (esc.filter fun e => !endsB t e)
    have h3 := mid_len i2
    simp only [List.length_nil] at h1 h3
    omega
  refine ⟨K', ⟨i1, by have := h.n1; omega, ht, by omega, ?_, ?_, ?_⟩, i2, hnt⟩
  · rw [List.length_append, List.length_map]; omega
  · rw [List.length_append, List.length_append, List.length_map]; omega
  · rw [h.tk, Desk.tick_next hnt ht ⟨e0, he0, hk0, ht0⟩ h2]
    simp only [List.append_assoc]

/-- Behind endBy: the two rows are put together. -/
theorem TD.ended {w wx w4 : World} {d : Nat} {s : St} {col : Nat → Option Col} {R Q : Nat} {tq : Int} {esc : List Ent} {G E : List Int} {vG vE v2 : Value} {t : Int} {ck : Nat → Option Col} (hs : Step anyS w.heap.size col ck w wx) (hr : RB wx w.heap.size ck R Q tq vG vE G E) (p : EndByPost wx d { s with es := esc } ck t v2 w4) (hb : E.length + esc.length ≤ 1000) :
    ∃ a n cap w5, (∀ ty, (Builtin.append_ #[38, 38] ty #[vE, v2]).run Tryz.prog w4 = .ok (.slice a n cap) w5) ∧ w5.cell? ⟨R, 6, none⟩ = some vE ∧ w5.frozen? ⟨R, 6, none⟩ = false ∧ w4.cell? ⟨R, 6, none⟩ = some vE ∧ TD w (w5.setCell ⟨R, 6, none⟩ (.slice a n cap)) d s col R Q tq (esc.filter fun e => !endsB t e) G (E ++ (esc.filter (endsB t)).map fun e => e.id) vG (.slice a n cap) := by
  obtain ⟨r4, c4, q1, q2, q3, q4, q5, q6⟩ := p
  have hr4 := hr.step q5 (Nat.le_refl _)
  have hsz := hs.size
  have hf := List.length_filter_le (endsB t) esc
  obtain ⟨v3, w5, a1, a2, a3, a4⟩ := hr4.e.append (q6.base hsz) (Nat.le_trans hsz q5.size) (fun b hb => q1.none hb) (by rw [List.length_map]; show E.length + (esc.filter (endsB t)).length ≤ 100000; omega)
  obtain ⟨a, cap, rfl⟩ := a2.slice
  obtain ⟨b1, b2, b3, b4⟩ := hr4.growE a2 a3 a4
  refine ⟨a, _, cap, w5, a1, b3, b4, hr4.cells.2.1, r4, c4, ?_, q2, q3, q4, ?_, b1⟩
  · refine q1.off b2 (fun x hx => ?_)
    rcases List.mem_cons.1 hx with rfl | hx
    · exact hr4.rc
    · exact hr4.e.no x (Option.mem_toList.1 hx)
  · have t1 := hs.trans (q5.any hsz)
    refine t1.trans ⟨⟨_, b2, fun x hx => .inr ?_⟩, fun _ _ h => h, fun _ _ h => .inl h⟩
    rcases List.mem_cons.1 hx with rfl | hx
    · exact ⟨hr4.rc, hr4.rb⟩
    · exact ⟨hr4.e.no x (Option.mem_toList.1 hx), (hr4.e.own.lt x (Option.mem_toList.1 hx)).1⟩
/-- Behind grant: the two rows are put together. -/
theorem TD.granted {w wx w4 : World} {d : Nat} {s : St} {col : Nat → Option Col} {R Q : Nat} {tq : Int} {esc : List Ent} {G E : List Int} {vG vE v2 : Value} {ck : Nat → Option Col} (hs : Step anyS w.heap.size col ck w wx) (hr : RB wx w.heap.size ck R Q tq vG vE G E) (p : GrantPost wx d { s with es := esc } ck v2 w4) (hb : G.length + (Desk.grantS s.ts esc).2.length ≤ 100000) :
    ∃ a n cap w5, (∀ ty, (Builtin.append_ #[38, 38] ty #[vG, v2]).run Tryz.prog w4 = .ok (.slice a n cap) w5) ∧ w5.cell? ⟨R, 5, none⟩ = some vG ∧ w5.frozen? ⟨R, 5, none⟩ = false ∧ w4.cell? ⟨R, 5, none⟩ = some vG ∧ TD w (w5.setCell ⟨R, 5, none⟩ (.slice a n cap)) d s col R Q tq (Desk.grantS s.ts esc).1 (G ++ (Desk.grantS s.ts esc).2) E (.slice a n cap) vE := by
  obtain ⟨r4, c4, q1, q2, q3, q4, q5, q6⟩ := p
  have hr4 := hr.step q5 (Nat.le_refl _)
  have hsz := hs.size
  obtain ⟨v3, w5, a1, a2, a3, a4⟩ := hr4.g.append (q6.base hsz) (Nat.le_trans hsz q5.size) (fun b hb => q1.none hb) hb
  obtain ⟨a, cap, rfl⟩ := a2.slice
  obtain ⟨b1, b2, b3, b4⟩ := hr4.growG a2 a3 a4
  refine ⟨a, _, cap, w5, a1, b3, b4, hr4.cells.1, r4, c4, ?_, q2, q3, q4, ?_, b1⟩
  · refine q1.off b2 (fun x hx => ?_)
    rcases List.mem_cons.1 hx with rfl | hx
    · exact hr4.rc
    · exact hr4.g.no x (Option.mem_toList.1 hx)
  · have t1 := hs.trans (q5.any hsz)
    refine t1.trans ⟨⟨_, b2, fun x hx => .inr ?_⟩, fun _ _ h => h, fun _ _ h => .inl h⟩
    rcases List.mem_cons.1 hx with rfl | hx
    · exact ⟨hr4.rc, hr4.rb⟩
    · exact ⟨hr4.g.no x (Option.mem_toList.1 hx), (hr4.g.own.lt x (Option.mem_toList.1 hx)).1⟩

end Go.Proofs.YtjfkfiffakbagaaGreatDoor

