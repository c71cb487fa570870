/-
  bookingskeep.Within: the law, walked over.
-/
import Derived.Test.YtjfkfiffakbagaaGreatDoorL30
namespace Go.Proofs.YtjfkfiffakbagaaGreatDoor
open Go.RowKit
open Desk (Ent St Ids kept booked bookE sumA Items ofB sameB Risen Mid EntOk endsB Inv unitsN listD stepD Rep peakK peakN)

theorem ent_cells {W : World} {b : Nat} {x : Ent} {v : Value} (h : W.heap[b]? = some (zeroN x v)) : W.cell? ⟨b, 0, none⟩ = some (.int .i64 x.id) ∧ W.cell? ⟨b, 1, none⟩ = some (.int .i64 x.kind) ∧ W.cell? ⟨b, 2, none⟩ = some (.string x.thing) ∧ W.cell? ⟨b, 3, none⟩ = some (.int .i64 x.units) ∧ W.cell? ⟨b, 4, none⟩ = some v ∧ W.cell? ⟨b, 5, none⟩ = some (.int .i64 x.till) := by
  unfold zeroN at h
  refine ⟨?_, ?_, ?_, ?_, ?_, ?_⟩ <;> (simp only [World.cell?, h]; rfl)
/-- What is listed behind a booking: its entry, and what was listed. -/
theorem after_join {s : St} (hs : Inv s) {nm : ByteArray} {u fr til : Int} (hi : Inv (Desk.joinD s ⟨0, 1, nm, u, [(fr, til)], 0⟩).1) {l1 l2 : List (Ent × Value)} (h1 : l1.map (·.1) = listD nm 0 1048320 s.es) (h2 : l2.map (·.1) = listD nm 0 1048320 (Desk.joinD s ⟨0, 1, nm, u, [(fr, til)], 0⟩).1.es) :
    l2.length = l1.length + 1 ∧ (∃ k, ∃ h : k < l2.length, l2[k].1.id = s.given + 1) ∧ ∀ (k : Nat) (h : k < l2.length), l2[k].1.id = s.given + 1 → l2[k].1 = ⟨s.given + 1, 1, nm, u, [(fr, til)], 0⟩ := by
  have pm := Desk.list_join (s := s) (e := ⟨0, 1, nm, u, [(fr, til)], 0⟩) hi (by show (1 : Int) ≠ 3; decide)
  rw [← h2, ← h1] at pm
  have hl := pm.length_eq
  simp only [List.length_map, List.length_cons] at hl
  have hin : (⟨s.given + 1, 1, nm, u, [(fr, til)], 0⟩ : Ent) ∈ l2.map (·.1) := pm.mem_iff.2 (List.mem_cons_self ..)
  refine ⟨hl, ?_, fun k h e => ?_⟩
  · obtain ⟨q, hq, eq⟩ := List.mem_map.1 hin
    obtain ⟨k, hk, ek⟩ := List.getElem_of_mem hq
    exact ⟨k, hk, by rw [ek, eq]⟩
  · have hm : l2[k].1 ∈ l2.map (·.1) := List.mem_map.2 ⟨_, List.getElem_mem h, rfl⟩
    rcases List.mem_cons.1 (pm.mem_iff.1 hm) with c | c
    · exact c
    · exfalso
      rw [h1] at c
      have hi0 := hs.idb _ (Desk.list_ids hs nm c).1
      omega

set_option maxRecDepth 100000 in
set_option maxHeartbeats 1000000 in
theorem kWithin_any (a b : Int) (raw : Value) (ss : List ByteArray) (more : ByteArray) (w : World) (he : Env w) (hraw : TV w raw ss) (hm : more.size ≤ 9223372036854775807) (ha1 : -9223372036854775808 ≤ a) (ha2 : a ≤ 9223372036854775807) (hb1 : -9223372036854775808 ≤ b) (hb2 : b ≤ 9223372036854775807) :
    Calls Tryz.prog 6 #[.int .i64 a, .int .i64 b, raw, .string more] w fun e w' => e = .returned (.bool true) ∧ Below w.heap.size w w' := by
  obtain ⟨rav, racap, rfl⟩ := hraw.form
  have RM := hidp (room_any a b w ha1 ha2 hb1 hb2)
  obtain ⟨x1, x2⟩ := pickV_bd (c := a) (n := 4) (by omega)
  obtain ⟨y1, y2⟩ := pickV_bd (c := b) (n := 9) (by omega)
  have A1 : 1 ≤ 1 + pickV a 4 := by omega
  have A2 : 1 + pickV a 4 ≤ 9 := by omega
  have B1 : 1 ≤ 1 + pickV b 9 := by omega
  have B2 : 1 + pickV b 9 ≤ 9 := by omega
  have HE := hidp he
  have HR := hidp hraw
  generalize 1 + pickV a 4 = A at *
  generalize 1 + pickV b 9 = B at *
  clear x1 x2 y1 y2 he hraw ha1 ha2 hb1 hb2
  go_enter Tryz.func6, Tryz.ntmps6
  go_upto_region 2 with (first
    | (go_at_call 16; refine RM.out.mono ?_; rintro e w1 ⟨rfl, hb1⟩))
  change Code.wp _ _ _ _ (w1.alloc (roomO A B))
  have hX : Below w.heap.size w (w1.alloc (roomO A B)) := hb1.trans (((Below.refl w1.heap.size w1).alloc (Nat.le_refl _) _).mono hb1.size)
  have hro := heapNew w1 (roomO A B)
  have hrl : w1.heap.size < (w1.alloc (roomO A B)).heap.size := by simp
  have HX := hidp hX
  have hX10 := Nat.le_trans HE.out.size hX.size
  have RO : Hid (∀ W', Below (w1.alloc (roomO A B)).heap.size (w1.alloc (roomO A B)) W' → W'.cell? ⟨w1.heap.size, 0, none⟩ = some (.int .i64 A) ∧ W'.cell? ⟨w1.heap.size, 1, none⟩ = some (.int .i64 B)) := fun W' k => by
    have h := (k.block w1.heap.size hrl).trans hro
    unfold roomO at h
    obtain ⟨x, y, _⟩ := two_of h
    exact ⟨x, y⟩
  have BG := hidp (begin_any _ (HE.out.later hX) A B ⟨A1, A2⟩ ⟨B1, B2⟩)
  have HT := hidp (HR.out.below hX)
  clear hX hro hrl RM hb1 HR HE
  generalize w1.alloc (roomO A B) = X at *
  generalize w1.heap.size = Rb at *
  obtain ⟨ra, rb⟩ := RO.out X (Below.refl _ _)
  go_upto_region 5 with (first
    | (go_at_call 17; refine BG.out.mono ?_; rintro e w2 ⟨p, dk, r, col, rfl, D2⟩; have HD := hidp (CX.of D2); clear D2 BG ra rb))
  go_upto_region 8 with (first
    | (go_at_call 18; refine (CX.played HD.out HT.out).mono ?_; rintro e w3 ⟨s, rfl, hAf, hD3⟩; have HAf := hidp hAf; replace HD := hidp hD3; clear hAf hD3))
  go_upto_region 10 with fail
  change Code.wp _ _ _ _ (w3.alloc namesO)
  replace HD := hidp (HD.out.alloc namesO)
  generalize w3.alloc namesO = W3 at HD ⊢
  generalize w3.heap.size = Nb at HD ⊢
  clear HT
  have UA : Hid (∀ i, unitsN (nmAt i) s.ts = unitsN (nmAt i) (roomS A B).ts ∧ unitsN (nmAt i) s.ts ≠ 0) := fun i => by
    have h := HAf.out.ts (nmAt i) (units_pos A1 B1 i)
    exact ⟨h, by rw [h]; exact units_pos A1 B1 i⟩
  have hgv : s.given ≤ 30 := by have := HAf.out.gv; have e : (roomS A B).given = 0 := rfl; omega
  clear HAf
  have PU : Hid (∀ i, peakN (nmAt i) s.es 0 1048320 ≤ unitsN (nmAt i) (roomS A B).ts) := fun i => by
    rw [← (UA.out i).1]
    exact peak_units HD.out.inv (nmAt i) (by omega)
  have RDS : Hid (∀ i, Reads ((((⟨#[112, 101, 97, 107, 32]⟩ : ByteArray) ++ nmAt i) ++ (⟨#[32, 48, 32]⟩ : ByteArray)) ++ Txt.itoaS 1048320) (.iface 170 (.agg #[.string (nmAt i), .int .i64 0, .int .i64 1048320]))) := fun i => peak_reads (nmAt_nm i) ⟨by omega, by omega⟩ ⟨by omega, by omega⟩ (by
    have z0 : (Txt.itoaS 0).data.toList = [48] := by decide +kernel
    rw [z0]
    rcases nmAt_is i with e | e <;> (rw [e]; simp only [Txt.append_list, List.append_assoc]; rfl))
  have h10 : 10 ≤ X.heap.size := hX10
  go_loopw [14, 15, 16, 17, 18] (fun vi _ _ _ _ wr => ∃ i : Nat, i ≤ 2 ∧ vi = .int .i64 i ∧ CX X wr p dk s [(Nb, namesO)] []) (fun vi _ _ _ _ _ => 2 - (intOf vi).toNat)
  case atStart => exact ⟨0, by omega, rfl, HD.out⟩
  case round =>
    obtain ⟨i, hi, rfl, hcx⟩ := hrel
    have HC := hidp hcx
    clear hcx HD
    by_cases hlt : i < 2
    · have hlt' : (i : Int) < 2 := by omega
      have cn := kNames_at (HC.out.kb (List.mem_cons_self ..)) i hlt
      go_upto_region 13 with (first
        | (go_at_call 19; refine (CX.entries HC.out (nmAt i) (nmAt_nm i) (UA.out i).2).mono ?_; rintro e w4 ⟨l, la, lc, rfl, hents, hc4⟩; have HE := hidp hents; replace HC := hidp hc4; clear hc4 hents cn))
      refine within13 hlt h10 (RDS.out i) (UA.out i).2 HC.out ?_
      intro u59 u60 u61 u62 u63 u64 u65 u66 u67 u68 b v1 v2 v3 v4 W4 hc5
      replace HC := hidp hc5
      clear hc5
      have PK := hidp (kPeak_any W4 (.slice la l.length lc) l (HC.out.ev (List.mem_cons_self ..)) (few_list HC.out.inv HE.out) 0 1048320)
      have EP : Hid (peakK (entsT l) 0 1048320 = peakN (nmAt i) s.es 0 1048320) := by
        show _ = _
        unfold entsT
        rw [HE.out]
        exact Desk.peakK_list HC.out.inv (nmAt i) (by omega)
      rw [EP.out] at PK
      go_upto_region 15 with (first
        | (go_at_call 22; refine PK.out.mono ?_; rintro e w5 ⟨rfl, hb5⟩; replace HC := hidp (HC.out.later hb5); clear hb5 PK))
      obtain ⟨e0, _, e2, _⟩ := rep_cells (HC.out.kb (List.mem_cons_self ..))
      have cn := kNames_at (HC.out.kb (List.mem_cons_of_mem _ (List.mem_cons_self ..))) i hlt
      obtain ⟨ra, rb⟩ := RO.out w5 HC.out.bl
      have hle : ¬ (unitsN (nmAt i) (roomS A B).ts < peakN (nmAt i) s.es 0 1048320) := by have := PU.out i; omega
      have UN := hidp (fun W' => kUnits_any A B (nmAt i) (nmAt_is i) W')
      generalize unitsN (nmAt i) (roomS A B).ts = un at hle UN
      generalize peakN (nmAt i) s.es 0 1048320 = pn at *
      have HBd := hidp HC.out.drew
      have SS : Hid (∀ W', Below w5.drew.heap.size w5.drew W' → W'.cell? ⟨b, 0, none⟩ = some (.int .i64 0) ∧ W'.cell? ⟨b, 2, none⟩ = some (.int .i64 pn) ∧ W'.cell? ⟨Rb, 0, none⟩ = some (.int .i64 A) ∧ W'.cell? ⟨Rb, 1, none⟩ = some (.int .i64 B) ∧ W'.cell? ⟨Nb, i, none⟩ = some (.string (nmAt i))) := fun W' k => ⟨cellLater k e0, cellLater k e2, cellLater k ra, cellLater k rb, cellLater k cn⟩
      have hpn : (pn != pn) = false := by simp
      have hd : decide (un < pn) = false := decide_eq_false hle
      clear hle
      go_region_held3 (fun w' => w'.cell? ⟨b, 0, none⟩ = some (.int .i64 0) ∧ w'.cell? ⟨b, 2, none⟩ = some (.int .i64 pn) ∧ w'.cell? ⟨Rb, 0, none⟩ = some (.int .i64 A) ∧ w'.cell? ⟨Rb, 1, none⟩ = some (.int .i64 B) ∧ w'.cell? ⟨Nb, i, none⟩ = some (.string (nmAt i)))
        (first
          | with_reducible exact SS.out _ HB6.out
          | exact ⟨e0, e2, ra, rb, cn⟩)
        (first
          | (go_at_call 23; refine (UN.out _).mono ?_; rintro e w6 ⟨rfl, hb6⟩; have HB6 := hidp hb6; clear hb6))
      have HF : Hid (CX X w6 p dk s [(Nb, namesO)] []) := (HBd.out.later HB6.out).less (fun q hq => List.mem_cons_of_mem _ hq) (by simp)
      clear HBd HB6 SS HC UN EP HE hd hpn e0 e2 ra rb cn
      go_wp2_with fail
      go_roundw
      case rel => exact ⟨i + 1, by omega, by go_num, HF.out⟩
      case measure => simp [intOf]; omega
    · have hlt' : ¬ (i : Int) < 2 := by omega
      clear RDS PU
      go_upto_region 18 with fail
      change Code.wp _ _ _ _ (wr.alloc (feedO more 0))
      have AK := hidp (kAsked_any (feed_new HC.out.env more hm))
      have HL := hidp (And.intro HC.out.pl HC.out.bl.size)
      have hNb := (Array.getElem?_eq_some_iff.1 (HC.out.kb (List.mem_cons_self ..))).1
      go_upto_region 19 with (first
        | (go_at_call 24; refine AK.out.mono ?_; rintro e w7 ⟨nm, u, fr, til, rfl, hak, hfw⟩))
      change Code.wp _ _ _ _ (w7.alloc (zeroA nm u fr til))
      obtain ⟨fa, hfd⟩ := hfw.fd
      have hlt7 : wr.heap.size < w7.heap.size := (Array.getElem?_eq_some_iff.1 hfd.b).1
      have HX7 : Hid (CX X (w7.alloc (zeroA nm u fr til)) p dk s [(w7.heap.size, zeroA nm u fr til), (wr.heap.size, feedO more fa), (Nb, namesO)] []) := by
        have hz := HC.out.alloc (feedO more 0)
        have h2 := hz.put' ⟨h10, HL.out.2, by have := HL.out.1; omega, fun q hq => by have : q = (Nb, namesO) := List.mem_singleton.1 hq; subst this; show Nb ≠ _; omega, fun q hq => by cases hq⟩ hfw.off hfd.b
        exact h2.alloc _
      have OF : Hid (∀ o o', Own X wr.heap.size p [(w7.heap.size, o), (Nb, o')] []) := fun o o' => ⟨h10, HL.out.2, by have := HL.out.1; omega, fun q hq => by
        rcases List.mem_cons.1 hq with rfl | hq
        · show w7.heap.size ≠ _; omega
        · have : q = (Nb, o') := List.mem_singleton.1 hq
          subst this
          show Nb ≠ _; omega, fun q hq => by cases hq⟩
      have hfa := hfd.le
      have OX : Hid (∀ o o', Own X w7.heap.size p [(wr.heap.size, o), (Nb, o')] []) := fun o o' => ⟨h10, Nat.le_trans HL.out.2 (by omega), by have := HL.out.1; omega, fun q hq => by
        rcases List.mem_cons.1 hq with rfl | hq
        · show wr.heap.size ≠ _; omega
        · have : q = (Nb, o') := List.mem_singleton.1 hq
          subst this
          show Nb ≠ _; omega, fun q hq => by cases hq⟩
      have HK := hidp hak
      clear AK HC hfd hfw hak hlt7 hNb HL
      generalize w7.alloc (zeroA nm u fr til) = V at HX7 ⊢
      generalize w7.heap.size = xb at *
      generalize wr.heap.size = F at *
      replace HX7 := hidp HX7.out.swap
      go_upto_region 20 with (first
        | (go_at_call 25; refine (CX.next HX7.out (OF.out _ _) hfa hm 2 (by omega) (by omega)).mono ?_; rintro e w8 ⟨v8, fb, rfl, p0, p1, hfb, hc8⟩; obtain ⟨n8, rfl⟩ := Int.eq_ofNat_of_zero_le p0; have cn := kNames_at (hc8.kb (b := Nb) (List.mem_cons_of_mem _ (List.mem_cons_of_mem _ (List.mem_cons_self ..)))) n8 (by omega); obtain ⟨c0, _, _, _, cf⟩ := ask_cells (hc8.kb (b := xb) (List.mem_cons_of_mem _ (List.mem_cons_self ..))); have HX8 := hidp hc8; clear hc8))
      have HX9 := hidp ((HX8.out.swap.put' (OX.out _ _) (Off.set0 xb w8 0 (.string (nmAt n8))) (set_row (HX8.out.kb (b := xb) (List.mem_cons_of_mem _ (List.mem_cons_self ..))) _)).swap)
      have hn8 : n8 < 2 := by omega
      clear HX7 HX8 cn c0 cf p0 p1 hfa
      generalize w8.setCell ⟨xb, 0, none⟩ (.string (nmAt n8)) = V9 at HX9 ⊢
      change Hid (CX X V9 p dk s [(F, feedO more fb), (xb, zeroA (nmAt n8) u fr til), (Nb, namesO)] []) at HX9
      have u1 := HK.out.u1
      have u3 := HK.out.u3
      have f0 := HK.out.f0
      have f1 := HK.out.f1
      clear HK
      have HXd := hidp HX9.out.drew
      have c2 := (ask_cells (HXd.out.kb (b := xb) (List.mem_cons_of_mem _ (List.mem_cons_self ..)))).2.2.1
      have kf : IntKind.i64.wrap (fr + 1) = fr + 1 := wrap_all (by omega) (by omega)
      go_region_held3 (fun w' => w'.cell? ⟨xb, 2, none⟩ = some (.int .i64 fr))
        (first
          | exact c2b
          | exact AS _
          | exact c2)
        (first
          | (go_at_call 25; refine (CX.next HXd.out (OF.out _ _) hfb hm 50 (by omega) (by omega)).mono ?_; rintro e w10 ⟨v10, fc, rfl, p0, p1, hfc, hc10⟩; obtain ⟨_, _, c2b, c3b, cfb⟩ := ask_cells (hc10.kb (b := xb) (List.mem_cons_of_mem _ (List.mem_cons_self ..))); have kg : IntKind.i64.wrap (fr + 1 + v10) = fr + 1 + v10 := wrap_all (by omega) (by omega); have HX10 := hidp hc10; clear hc10; have AS := fun x => (ask_cells (set_row (i := 3) (HX10.out.kb (b := xb) (List.mem_cons_of_mem _ (List.mem_cons_self ..))) (.int .i64 x))).2.2.1))
      have HX11 := hidp (HX10.out.swap.put' (OX.out _ _) (Off.set0 xb w10 3 (.int .i64 (fr + 1 + v10))) (set_row (HX10.out.kb (b := xb) (List.mem_cons_of_mem _ (List.mem_cons_self ..))) _))
      have t0 : fr < fr + 1 + v10 := by omega
      clear HX9 HXd HX10 c2 c2b c3b cfb kf kg AS p0 p1 hfb OF OX
      generalize w10.setCell ⟨xb, 3, none⟩ (.int .i64 (fr + 1 + v10)) = V11 at HX11 ⊢
      change Hid (CX X V11 p dk s [(xb, zeroA (nmAt n8) u fr (fr + 1 + v10)), (F, feedO more fc), (Nb, namesO)] []) at HX11
      generalize fr + 1 + v10 = ti at t0 HX11 ⊢
      go_upto_region 21 with fail
      obtain ⟨c0, c1, c2, c3, _⟩ := ask_cells (HX11.out.kb (List.mem_cons_self ..))
      obtain ⟨ra, rb⟩ := RO.out V11 HX11.out.bl
      have UN := hidp (fun W' => kUnits_any A B (nmAt n8) (nmAt_is n8) W')
      generalize hun : unitsN (nmAt n8) (roomS A B).ts = un at UN
      have HUN := hidp hun
      clear hun
      have HXd := hidp HX11.out.drew
      have SS : Hid (∀ W', Below V11.drew.heap.size V11.drew W' → W'.cell? ⟨xb, 0, none⟩ = some (.string (nmAt n8)) ∧ W'.cell? ⟨xb, 1, none⟩ = some (.int .i64 u) ∧ W'.cell? ⟨xb, 3, none⟩ = some (.int .i64 ti) ∧ W'.cell? ⟨Rb, 0, none⟩ = some (.int .i64 A) ∧ W'.cell? ⟨Rb, 1, none⟩ = some (.int .i64 B)) := fun W' k => ⟨cellLater k c0, cellLater k c1, cellLater k c3, cellLater k ra, cellLater k rb⟩
      have DN : Hid (∀ W', CX X W' p dk s [] [] → Below w.heap.size w W') := fun W' k => HX.out.trans (k.bl.mono HX.out.size)
      by_cases hti : 1048320 < ti
      · have hd : decide (1048320 < ti) = true := decide_eq_true hti
        clear hti
        have HF : Hid (∀ n, Below w.heap.size w (V11.drewN n)) := fun n => DN.out _ ((HX11.out.later (blw_drewN (Below.refl _ _) n)).less (by simp) (by simp))
        clear SS HXd HX11 UN DN
        go_quiet (fail)
        go_wp2_with fail
        go_ret
        exact ⟨rfl, HF.out _⟩
      · have hd : decide (1048320 < ti) = false := decide_eq_false hti
        by_cases huu : un < u
        · have hd2 : decide (un < u) = true := decide_eq_true huu
          clear huu
          go_region_held3 (fun W' => W'.cell? ⟨xb, 0, none⟩ = some (.string (nmAt n8)) ∧ W'.cell? ⟨xb, 1, none⟩ = some (.int .i64 u) ∧ W'.cell? ⟨xb, 3, none⟩ = some (.int .i64 ti) ∧ W'.cell? ⟨Rb, 0, none⟩ = some (.int .i64 A) ∧ W'.cell? ⟨Rb, 1, none⟩ = some (.int .i64 B))
            (first
              | with_reducible exact SS.out _ HB12.out
              | exact ⟨c0, c1, c3, ra, rb⟩)
            (first
              | (go_at_call 23; refine (UN.out _).mono ?_; rintro e w12 ⟨rfl, hb12⟩; have HB12 := hidp hb12; clear hb12))
          have HF := hidp (DN.out _ ((HXd.out.later HB12.out).less (by simp) (by simp)))
          clear SS HB12 HXd HX11 UN DN
          go_wp2_with fail
          go_ret
          exact ⟨rfl, HF.out⟩
        · have hd2 : decide (un < u) = false := decide_eq_false huu
          go_region_held3 (fun W' => W'.cell? ⟨xb, 0, none⟩ = some (.string (nmAt n8)) ∧ W'.cell? ⟨xb, 1, none⟩ = some (.int .i64 u) ∧ W'.cell? ⟨xb, 3, none⟩ = some (.int .i64 ti) ∧ W'.cell? ⟨Rb, 0, none⟩ = some (.int .i64 A) ∧ W'.cell? ⟨Rb, 1, none⟩ = some (.int .i64 B))
            (first
              | with_reducible exact SS.out _ HB12.out
              | exact ⟨c0, c1, c3, ra, rb⟩)
            (first
              | (go_at_call 23; refine (UN.out _).mono ?_; rintro e w12 ⟨rfl, hb12⟩; have HB12 := hidp hb12; clear hb12))
          have HC := hidp ((HXd.out.later HB12.out).less (ks' := [(xb, zeroA (nmAt n8) u fr ti)]) (es' := []) (by simp) (by simp))
          clear SS HB12 HXd HX11 UN c0 c1 c2 c3 ra rb hd hd2
          rename_i hHeld
          clear hHeld
          obtain ⟨c0, c1, c2, c3, _⟩ := ask_cells (HC.out.kb (List.mem_cons_self ..))
          obtain ⟨ra, rb⟩ := RO.out w12 HC.out.bl
          have hus : unitsN (nmAt n8) (roomS A B).ts = unitsN (nmAt n8) s.ts := (UA.out n8).1.symm
          have u2 : u ≤ unitsN (nmAt n8) s.ts := by rw [← hus, HUN.out]; omega
          have FI := hidp (fits_list_any HC.out A B (nmAt n8) (nmAt_is n8) (nmAt_nm n8) (UA.out n8).2 hus u fr ti (by omega) (by omega) t0)
          have BS := hidp (Desk.book_step HC.out.inv (nm := nmAt n8) (u := u) (fr := fr) (til := ti) (by omega) (by omega) u2 f0 t0 (by omega) (by omega))
          clear hus u2 HUN huu
          go_upto_region 24 with (first
            | (go_at_call 26; refine FI.out.mono ?_; rintro e w13 ⟨rfl, hc13⟩; replace HC := hidp hc13; clear hc13 FI c0 c1 c2 c3 ra rb))
          have c0 := (ask_cells (HC.out.kb (List.mem_cons_self ..))).1
          go_upto_region 25 with (first
            | (go_at_call 19; refine (CX.entries HC.out (nmAt n8) (nmAt_nm n8) (UA.out n8).2).mono ?_; rintro e w14 ⟨l1, la, lc, rfl, hents, hc14⟩; have HE1 := hidp hents; replace HC := hidp hc14; clear hc14 hents c0))
          obtain ⟨c0, c1, c2, c3, _⟩ := ask_cells (HC.out.kb (List.mem_cons_self ..))
          have zk := askS_size (nm := nmAt n8) (u := u) (fr := fr) (til := ti) (by rw [(nmAt_nm n8).s]; omega) ⟨by omega, by omega⟩ ⟨by omega, by omega⟩ ⟨by omega, by omega⟩
          have TX := hidp (text_any w14 HC.out.env (nmAt n8) u fr ti (by rw [(nmAt_nm n8).s]; omega) ⟨by omega, by omega⟩ ⟨by omega, by omega⟩ ⟨by omega, by omega⟩)
          have RB : Hid (Reads ((⟨#[98, 111, 111, 107, 32]⟩ : ByteArray) ++ askS (nmAt n8) u fr ti) (.iface 148 (.agg #[.string (nmAt n8), .int .i64 u, .int .i64 fr, .int .i64 ti]))) := book_reads (nmAt_nm n8) ⟨by omega, by omega⟩ ⟨by omega, by omega⟩ ⟨by omega, by omega⟩ (by rw [ask_list]; rfl)
          have LB : Hid (Desk.LineOk (.enter 1 (nmAt n8) u fr ti 0)) := ⟨.inl ⟨rfl, rfl⟩, by omega, by omega, by omega, by omega, by omega, by omega⟩
          have LVB : Hid (LV (.iface 148 (.agg #[.string (nmAt n8), .int .i64 u, .int .i64 fr, .int .i64 ti])) (.enter 1 (nmAt n8) u fr ti 0)) := .book (nmAt n8) (by rw [(nmAt_nm n8).s]; omega) u fr ti
          generalize hk : askS (nmAt n8) u fr ti = kS at TX RB zk
          clear hk
          have HIS := hidp HC.out.inv
          cases hfit : Desk.fitsN s.ts s.es (nmAt n8) u [(fr, ti)]
          · have ST := hidp (BS.out.2 hfit)
            clear BS
            go_upto_region 26 with (first
              | (go_at_call 27; refine TX.out.mono ?_; rintro e w15 ⟨rfl, hb15⟩; replace HC := hidp (HC.out.later hb15); clear hb15 TX)
              | (go_at_call 20; refine (CX.line HC.out RB.out LVB.out LB.out ST.out).mono ?_; rintro e w16 ⟨l9, a1, a2, a3, a4, m2, d1, d2, d3, d4, rfl, _, hc16, _⟩; dsimp only [Desk.Rep.error, List.length_nil]; replace HC := hidp hc16; clear hc16))
            change Code.wp _ _ _ _ (w16.alloc (repO 8 0 0 (.slice a1 l9.length d1) (.slice a2 m2 d2) (.slice a3 0 d3) (.slice a4 0 d4)))
            replace HC := hidp ((HC.out.alloc (repO 8 0 0 (.slice a1 l9.length d1) (.slice a2 m2 d2) (.slice a3 0 d3) (.slice a4 0 d4))).less (es' := [(.slice la l1.length lc, l1)]) (fun q hq => hq) (fun q hq => List.mem_cons_of_mem _ hq))
            clear ST RB LB LVB c0 c1 c2 c3
            generalize w16.alloc (repO 8 0 0 (.slice a1 l9.length d1) (.slice a2 m2 d2) (.slice a3 0 d3) (.slice a4 0 d4)) = V17 at HC ⊢
            generalize w16.heap.size = yb at HC ⊢
            have c0 := (ask_cells (HC.out.kb (b := xb) (List.mem_cons_of_mem _ (List.mem_cons_self ..)))).1
            go_upto_region 29 with (first
              | (go_at_call 19; refine (CX.entries HC.out (nmAt n8) (nmAt_nm n8) (UA.out n8).2).mono ?_; rintro e w18 ⟨l2, lb, ld, rfl, hents, hc18⟩; have HE2 := hidp hents; replace HC := hidp hc18; clear hc18 hents c0))
            have SE := hidp (sameEntries_yes l1 l2 _ _ w18 (HC.out.ev (List.mem_cons_of_mem _ (List.mem_cons_self ..))) (HC.out.ev (List.mem_cons_self ..)) (HE1.out.trans HE2.out.symm) (by have := (few_list HC.out.inv HE1.out).1; omega) (fun q hq => ((few_list HC.out.inv HE1.out).2 q hq).2.2))
            go_upto_region 31 with (first
              | (go_at_call 28; refine SE.out.mono ?_; rintro e w19 ⟨rfl, hb19⟩; replace HC := hidp (HC.out.later hb19); clear hb19 SE))
            obtain ⟨e0, _, e2, _⟩ := rep_cells (HC.out.kb (List.mem_cons_self ..))
            have HF := hidp (DN.out _ (HC.out.less (by simp) (by simp)))
            clear HC DN
            go_wp2_with fail
            go_ret
            exact ⟨rfl, HF.out⟩
          · have ST := hidp (BS.out.1 hfit)
            clear BS
            go_upto_region 26 with (first
              | (go_at_call 27; refine TX.out.mono ?_; rintro e w15 ⟨rfl, hb15⟩; replace HC := hidp (HC.out.later hb15); clear hb15 TX)
              | (go_at_call 20; refine (CX.line HC.out RB.out LVB.out LB.out ST.out).mono ?_; rintro e w16 ⟨l9, a1, a2, a3, a4, m2, d1, d2, d3, d4, rfl, _, hc16, _⟩; dsimp only [Desk.joinD, Desk.Rep.num, List.length_nil]; replace HC := hidp hc16; clear hc16))
            change Code.wp _ _ _ _ (w16.alloc (repO 0 0 (s.given + 1) (.slice a1 l9.length d1) (.slice a2 m2 d2) (.slice a3 0 d3) (.slice a4 0 d4)))
            replace HC := hidp ((HC.out.alloc (repO 0 0 (s.given + 1) (.slice a1 l9.length d1) (.slice a2 m2 d2) (.slice a3 0 d3) (.slice a4 0 d4))).less (es' := [(.slice la l1.length lc, l1)]) (fun q hq => hq) (fun q hq => List.mem_cons_of_mem _ hq))
            change Hid (CX X (w16.alloc (repO 0 0 (s.given + 1) (.slice a1 l9.length d1) (.slice a2 m2 d2) (.slice a3 0 d3) (.slice a4 0 d4))) p dk (Desk.joinD s ⟨0, 1, nmAt n8, u, [(fr, ti)], 0⟩).1 [(w16.heap.size, repO 0 0 (s.given + 1) (.slice a1 l9.length d1) (.slice a2 m2 d2) (.slice a3 0 d3) (.slice a4 0 d4)), (xb, zeroA (nmAt n8) u fr ti)] [(.slice la l1.length lc, l1)]) at HC
            clear ST RB LB LVB c0 c1 c2 c3
            generalize w16.alloc (repO 0 0 (s.given + 1) (.slice a1 l9.length d1) (.slice a2 m2 d2) (.slice a3 0 d3) (.slice a4 0 d4)) = V17 at HC ⊢
            generalize w16.heap.size = yb at HC ⊢
            have c0 := (ask_cells (HC.out.kb (b := xb) (List.mem_cons_of_mem _ (List.mem_cons_self ..)))).1
            have UJ : Hid (unitsN (nmAt n8) (Desk.joinD s ⟨0, 1, nmAt n8, u, [(fr, ti)], 0⟩).1.ts ≠ 0) := (UA.out n8).2
            go_upto_region 29 with (first
              | (go_at_call 19; refine (CX.entries HC.out (nmAt n8) (nmAt_nm n8) UJ.out).mono ?_; rintro e w18 ⟨l2, lb, ld, rfl, hents, hc18⟩; have HE2 := hidp hents; replace HC := hidp hc18; clear hc18 hents c0))
            have PM := hidp (after_join HIS.out HC.out.inv HE1.out HE2.out)
            have hlen := PM.out.1
            have hl60 := (few_list HC.out.inv HE2.out).1
            go_upto_region 33 with fail
            have HCs := hidp (HC.out.less (ks' := [(yb, repO 0 0 (s.given + 1) (.slice a1 l9.length d1) (.slice a2 m2 d2) (.slice a3 0 d3) (.slice a4 0 d4)), (xb, zeroA (nmAt n8) u fr ti)]) (es' := [(.slice lb l2.length ld, l2)]) (fun q hq => hq) (fun q hq => by rw [List.mem_singleton.1 hq]; exact List.mem_cons_self ..))
            clear HC HE1 HE2 UJ
            generalize (Desk.joinD s ⟨0, 1, nmAt n8, u, [(fr, ti)], 0⟩).1 = s1 at HCs
            have e1s : ((l2.length : Int) == (l1.length : Int) + 1) = true := by rw [beq_iff_eq]; omega
            have kl : IntKind.i64.wrap ((l1.length : Int) + 1) = (l1.length : Int) + 1 := wrap_all (by omega) (by omega)
            have e3s : ((nmAt n8).toList == (nmAt n8).toList) = true := by simp
            have e4s : (u == u) = true := by simp
            have e5s : (fr == fr) = true := by simp
            have e6s : (ti == ti) = true := by simp
            go_loopw [28, 29] (fun vi _ wr' => ∃ j : Nat, j ≤ l2.length ∧ vi = .int .i64 j ∧ (∀ (k : Nat) (h : k < l2.length), k < j → l2[k].1.id ≠ s.given + 1) ∧ CX X wr' p dk s1 [(yb, repO 0 0 (s.given + 1) (.slice a1 l9.length d1) (.slice a2 m2 d2) (.slice a3 0 d3) (.slice a4 0 d4)), (xb, zeroA (nmAt n8) u fr ti)] [(.slice lb l2.length ld, l2)]) (fun vi _ _ => l2.length - (intOf vi).toNat)
            case atStart => exact ⟨0, Nat.zero_le _, rfl, fun k h h0 => absurd h0 (by omega), HCs.out⟩
            case round =>
              obtain ⟨j, hj, rfl, hno, hcx⟩ := hrel
              have HC := hidp hcx
              have HNO := hidp hno
              clear hcx hno HCs
              by_cases hjl : j < l2.length
              · have hjl' : (j : Int) < (l2.length : Int) := by omega
                have hev := HC.out.ev (List.mem_cons_self ..)
                obtain ⟨g, cap, e, x0, x1, x2, x3, x4, x5⟩ := hev.cell j hjl
                simp only [Value.slice.injEq, true_and] at e
                obtain ⟨rfl, rfl⟩ := e
                have hsp := hev.sp l2[j] (List.getElem_mem hjl)
                obtain ⟨q1, q2, eq⟩ := hsp.form
                rw [eq] at x4
                have HSP := hidp hsp
                clear hev hsp
                by_cases hid : l2[j].1.id = s.given + 1
                · have hx := PM.out.2.2 j hjl hid
                  have hsp := HSP.out
                  rw [hx] at hsp x0 x1 x2 x3 x4 x5
                  obtain ⟨g3, cap3, e, y0, y1⟩ := hsp.cell 0 (by simp)
                  rw [eq, hx] at e
                  clear hid hx eq HSP hsp HNO
                  simp only [List.length_cons, List.length_nil] at x4 e
                  simp only [Value.slice.injEq, true_and] at e
                  obtain ⟨rfl, rfl⟩ := e
                  have y0' : wr.cell? ⟨g3, 0, none⟩ = some (.int .i64 fr) := y0
                  have y1' : wr.cell? ⟨g3, 1, none⟩ = some (.int .i64 ti) := y1
                  clear y0 y1
                  go_upto_region 36 with fail
                  change Code.wp _ _ _ _ (wr.alloc (zeroN ⟨s.given + 1, 1, nmAt n8, u, [(fr, ti)], 0⟩ (.slice (some ⟨g3, 0, none⟩) 1 q2)))
                  have kbn : Below wr.heap.size wr (wr.alloc (zeroN ⟨s.given + 1, 1, nmAt n8, u, [(fr, ti)], 0⟩ (.slice (some ⟨g3, 0, none⟩) 1 q2))) := (Below.refl _ _).alloc (Nat.le_refl _) _
                  replace HC := hidp (HC.out.alloc (zeroN ⟨s.given + 1, 1, nmAt n8, u, [(fr, ti)], 0⟩ (.slice (some ⟨g3, 0, none⟩) 1 q2)))
                  have z0 := cellLater kbn y0'
                  have z1 := cellLater kbn y1'
                  clear kbn y0' y1' x0 x1 x2 x3 x4 x5
                  generalize wr.alloc (zeroN ⟨s.given + 1, 1, nmAt n8, u, [(fr, ti)], 0⟩ (.slice (some ⟨g3, 0, none⟩) 1 q2)) = V19 at HC z0 z1 ⊢
                  generalize wr.heap.size = eb at HC ⊢
                  obtain ⟨o0, o1, o2, o3, o4, o5⟩ := ent_cells (HC.out.kb (List.mem_cons_self ..))
                  obtain ⟨e0, _, e2, _⟩ := rep_cells (HC.out.kb (b := yb) (List.mem_cons_of_mem _ (List.mem_cons_self ..)))
                  obtain ⟨c0, c1, c2, c3, _⟩ := ask_cells (HC.out.kb (b := xb) (List.mem_cons_of_mem _ (List.mem_cons_of_mem _ (List.mem_cons_self ..))))
                  have HF : Hid (∀ n, Below w.heap.size w (V19.drewN n)) := fun n => HX.out.trans (((HC.out.later (blw_drewN (Below.refl _ _) n)).bl).mono HX.out.size)
                  have e7s : (s.given + 1 == s.given + 1) = true := by simp
                  clear HC PM
                  go_upto_region 37 with fail
                  go_quiet (fail)
                  go_wp2_with fail
                  go_ret
                  exact ⟨rfl, HF.out _⟩
                · have hidb : (l2[j].1.id == s.given + 1) = false := by simpa using hid
                  have HN : Hid (∀ (k : Nat) (h : k < l2.length), k < j + 1 → l2[k].1.id ≠ s.given + 1) := fun k h hk => by
                    by_cases ek : k = j
                    · subst ek; exact hid
                    · exact HNO.out k h (by omega)
                  go_upto_region 36 with fail
                  change Code.wp _ _ _ _ (wr.alloc (zeroN l2[j].1 (.slice q1 l2[j].1.spans.length q2)))
                  have hob := heapNew wr (zeroN l2[j].1 (.slice q1 l2[j].1.spans.length q2))
                  replace HC := hidp (HC.out.alloc (zeroN l2[j].1 (.slice q1 l2[j].1.spans.length q2)))
                  obtain ⟨o0, _⟩ := ent_cells hob
                  have e2 := (rep_cells (HC.out.kb (b := yb) (List.mem_cons_of_mem _ (List.mem_cons_self ..)))).2.2.1
                  have HF := hidp (HC.out.less (ks' := [(yb, repO 0 0 (s.given + 1) (.slice a1 l9.length d1) (.slice a2 m2 d2) (.slice a3 0 d3) (.slice a4 0 d4)), (xb, zeroA (nmAt n8) u fr ti)]) (fun q hq => List.mem_cons_of_mem _ hq) (fun q hq => hq))
                  clear HC hob x0 x1 x2 x3 x4 x5 hid HNO HSP eq
                  generalize wr.alloc (zeroN l2[j].1 (.slice q1 l2[j].1.spans.length q2)) = V19 at HF o0 e2 ⊢
                  generalize wr.heap.size = eb at o0 ⊢
                  generalize l2[j].1.id = idj at o0 hidb
                  go_wp2_with fail
                  go_roundw
                  case rel => exact ⟨j + 1, by omega, by go_num, HN.out, HF.out⟩
                  case measure => simp [intOf]; omega
              · exfalso
                obtain ⟨k, h, e⟩ := PM.out.2.1
                exact HNO.out k h (by omega) e

end Go.Proofs.YtjfkfiffakbagaaGreatDoor

