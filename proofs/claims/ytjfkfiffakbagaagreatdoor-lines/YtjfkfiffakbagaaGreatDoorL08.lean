/-
  Parts of the proof, one behind the other: WrittenOn, OnWord, PaceWords, Said, RuleWords, SeriesWords, PlainAll.
-/
import Derived.Test.YtjfkfiffakbagaaGreatDoorL07
/-
  The walk over the document's written at ON, and over it as a whole.
-/
namespace Go.Proofs.YtjfkfiffakbagaaGreatDoor
open Go.RowKit

theorem names_at (k : Nat) (h : k < 7) : [Value.string ⟨#[109, 111]⟩, Value.string ⟨#[116, 117]⟩, Value.string ⟨#[119, 101]⟩, Value.string ⟨#[116, 104]⟩, Value.string ⟨#[102, 114]⟩, Value.string ⟨#[115, 97]⟩, Value.string ⟨#[115, 117]⟩][k]? = some (.string (nameS k)) := by
  rcases (show k = 0 ∨ k = 1 ∨ k = 2 ∨ k = 3 ∨ k = 4 ∨ k = 5 ∨ k = 6 by omega) with rfl | rfl | rfl | rfl | rfl | rfl | rfl <;> rfl
theorem DS.nat {w : World} {b : Nat} {acc : List Int} (h : DS w b acc) (k : Nat) (hk : k < 7) : w.cell? ⟨b, k, none⟩ = some (.bool (isd acc k)) := by
  have := h.at k (by omega) (by omega)
  simpa using this

set_option maxRecDepth 100000 in
set_option maxHeartbeats 2000000 in
theorem written_on (sym w : ByteArray) (W : World) (hs : w.size ≤ 160) (ho : Txt.onB w = true)
    (c0 : (sym.toList == [85, 78, 73, 84, 83]) = false) (c1 : (sym.toList == [77, 73, 78, 85, 84, 69, 83]) = false) (c2 : (sym.toList == [69, 86, 69, 82, 89]) = false) (c3 : (sym.toList == [73, 68]) = false) (c4 : (sym.toList == [84, 73, 77, 69]) = false) (c5 : (sym.toList == [79, 78]) = true) :
    Calls Tryz.prog 79 #[.string sym, .string w] W fun e w' => e = .returned (.string (onWS w)) ∧ Below W.heap.size W w' := by
  go_enter Tryz.func79, Tryz.ntmps79
  go_wp2_with fail
  refine (on_any w W hs).mono ?_
  rintro e w1 ⟨⟨acc, rfl, hacc⟩, hb1⟩
  have HA := hide (hacc ho)
  have HS := hide (onT_ok (unhide HA))
  have HW : Hid (onWS w = onT acc) := by show onWS w = _; unfold onWS; rw [unhide HA]
  clear hacc
  unfold maskV
  go_wp2
  obtain ⟨X, hX⟩ : ∃ X, X = w1.alloc (.cells #[.bool (isd acc 0), .bool (isd acc 1), .bool (isd acc 2), .bool (isd acc 3), .bool (isd acc 4), .bool (isd acc 5), .bool (isd acc 6)] 153) := ⟨_, rfl⟩
  rw [← hX]
  have hbX : Below W.heap.size W X := by rw [hX]; exact hb1.alloc hb1.size _
  have dX : DS X w1.heap.size acc := by
    rw [hX]
    refine ⟨?_, ?_, ?_, ?_, ?_, ?_, ?_, fun j => ?_⟩ <;> simp
  have hsz : w1.heap.size + 1 = X.heap.size := by rw [hX]; simp
  clear hX
  go_loopw [12, 13] (fun o i wx => ∃ k : Nat, k ≤ 7 ∧ i = .int .i64 k ∧ o = .string (onOut acc k) ∧ DS wx w1.heap.size acc ∧ Below W.heap.size W wx) (fun _ i _ => 7 - (intOf i).toNat)
  case atStart => exact ⟨0, by omega, rfl, rfl, dX, hbX⟩
  case round =>
    obtain ⟨k, hk, rfl, rfl, dk, hbk⟩ := hrel
    have oz := onOut_size acc k
    by_cases hlt : k < 7
    · have hi : (k : Int) < 7 := by omega
      have hi0 : (0 : Int) ≤ (k : Int) := Int.natCast_nonneg _
      have hc := dk.nat k hlt
      have hl : ([Value.string ⟨#[109, 111]⟩, Value.string ⟨#[116, 117]⟩, Value.string ⟨#[119, 101]⟩, Value.string ⟨#[116, 104]⟩, Value.string ⟨#[102, 114]⟩, Value.string ⟨#[115, 97]⟩, Value.string ⟨#[115, 117]⟩][k]'hlt) = .string (nameS k) := Option.some.inj ((List.getElem?_eq_getElem hlt).symm.trans (names_at k hlt))
      have nz := name_size k
      have nz' : (nameS k).size ≤ 2 := by omega
      clear nz
      have hstep : onOut acc (k + 1) = if isd acc k then onOut acc k ++ ⟨#[44]⟩ ++ nameS k else onOut acc k := rfl
      have HST := hide hstep
      clear hstep
      cases hm : isd acc k
      · rw [hm] at hc
        have HS2 : Hid (onOut acc (k + 1) = onOut acc k) := (unhide HST).trans (by rw [hm]; rfl)
        go_wp2
        exact ⟨⟨k + 1, by omega, by go_num, by rw [HS2.out], dk, hbk⟩, by simp [intOf]; omega⟩
      · rw [hm] at hc
        have HS2 : Hid (onOut acc (k + 1) = onOut acc k ++ ⟨#[44]⟩ ++ nameS k) := (unhide HST).trans (by rw [hm]; rfl)
        go_wp2
        exact ⟨⟨k + 1, by omega, by go_num, by rw [HS2.out], dk.later ((Below.refl _ _).alloc (Nat.le_refl _) _), hbk.alloc hbk.size _⟩, by simp [intOf]; omega⟩
    · obtain rfl : k = 7 := by omega
      have h1 : (1 : Int) ≤ ((onOut acc 7).size : Int) := by have := unhide HS; omega
      go_wp2
      go_ret
      exact ⟨ret_str (by rw [HW.out]; rfl), hbk⟩

theorem wr_name {sym w : ByteArray} (c0 : (sym.toList == [85, 78, 73, 84, 83]) = false) (c1 : (sym.toList == [77, 73, 78, 85, 84, 69, 83]) = false) (c2 : (sym.toList == [69, 86, 69, 82, 89]) = false) (c3 : (sym.toList == [73, 68]) = false) (c4 : (sym.toList == [84, 73, 77, 69]) = false) (c5 : (sym.toList == [79, 78]) = false) : wrS sym w = w := by
  simp [wrS, c0, c1, c2, c3, c4, c5]
theorem fit_time {sym w : ByteArray} (h : (sym.toList == [84, 73, 77, 69]) = true) (hf : fitsB sym w = true) : 0 ≤ timR w := by
  have e := beq_iff_eq.1 h
  unfold fitsB at hf
  rw [e] at hf
  simpa using hf
theorem fit_on {sym w : ByteArray} (h : (sym.toList == [79, 78]) = true) (hf : fitsB sym w = true) : Txt.onB w = true := by
  have e := beq_iff_eq.1 h
  unfold fitsB at hf
  rw [e] at hf
  simpa using hf

theorem written_any (sym w : ByteArray) (W : World) (he : Env W) (hs : w.size ≤ 160) (hf : fitsB sym w = true) :
    Calls Tryz.prog 79 #[.string sym, .string w] W fun e w' => e = .returned (.string (wrS sym w)) ∧ Below W.heap.size W w' := by
  cases c0 : (sym.toList == [85, 78, 73, 84, 83])
  case true =>
    rw [show wrS sym w = Txt.itoaS (numR w 1 7) from by simp [wrS, c0]]
    exact written_num sym w W he hs (.inl c0)
  cases c1 : (sym.toList == [77, 73, 78, 85, 84, 69, 83])
  case true =>
    rw [show wrS sym w = Txt.itoaS (numR w 1 7) from by simp [wrS, c0, c1]]
    exact written_num sym w W he hs (.inr (.inl ⟨c0, c1⟩))
  cases c2 : (sym.toList == [69, 86, 69, 82, 89])
  case true =>
    rw [show wrS sym w = Txt.itoaS (numR w 1 7) from by simp [wrS, c0, c1, c2]]
    exact written_num sym w W he hs (.inr (.inr (.inl ⟨c0, c1, c2⟩)))
  cases c3 : (sym.toList == [73, 68])
  case true =>
    rw [show wrS sym w = Txt.itoaS (numR w 1 7) from by simp [wrS, c0, c1, c2, c3]]
    exact written_num sym w W he hs (.inr (.inr (.inr ⟨c0, c1, c2, c3⟩)))
  cases c4 : (sym.toList == [84, 73, 77, 69])
  case true =>
    rw [show wrS sym w = timeT (timR w) from by simp [wrS, c0, c1, c2, c3, c4]]
    exact written_time sym w W he hs (fit_time c4 hf) c0 c1 c2 c3 c4
  cases c5 : (sym.toList == [79, 78])
  case true =>
    rw [show wrS sym w = onWS w from by simp [wrS, c0, c1, c2, c3, c4, c5]]
    exact written_on sym w W hs (fit_on c5 hf) c0 c1 c2 c3 c4 c5
  rw [wr_name c0 c1 c2 c3 c4 c5]
  refine (written_plain sym w W c0 c1 c2 c3 c4 c5).mono ?_
  rintro e w' ⟨rfl, rfl⟩
  exact ⟨rfl, Below.refl _ _⟩

end Go.Proofs.YtjfkfiffakbagaaGreatDoor

/-
  The walk over onWord of package lines.
-/
namespace Go.Proofs.YtjfkfiffakbagaaGreatDoor
open Go.RowKit

/-- The names of the days among the first k, in the order of the week. -/
def onL (acc : List Int) : Nat → List ByteArray
  | 0 => []
  | k + 1 => if isd acc k then onL acc k ++ [nameS k] else onL acc k
theorem onL_len (acc : List Int) : ∀ k : Nat, (onL acc k).length ≤ k
  | 0 => Nat.le_refl _
  | k + 1 => by
    have := onL_len acc k
    unfold onL
    split <;> simp <;> omega
theorem Env.day {w : World} (h : Env w) (k : Nat) (hk : k < 7) : w.cell? ⟨2, k, none⟩ = some (.string (nameS k)) := by
  rcases (show k = 0 ∨ k = 1 ∨ k = 2 ∨ k = 3 ∨ k = 4 ∨ k = 5 ∨ k = 6 by omega) with rfl | rfl | rfl | rfl | rfl | rfl | rfl
  · exact h.mo
  · exact h.tu
  · exact h.we
  · exact h.th
  · exact h.fr
  · exact h.sa
  · exact h.su
def onJ (acc : List Int) : ByteArray := ⟨(Lib.join ((onL acc 7).map (·.data.toList)) [44]).toArray⟩

set_option maxRecDepth 100000 in
set_option maxHeartbeats 2000000 in
theorem onWord_any (acc : List Int) (w : World) (he : Env w) (hne : onL acc 7 ≠ []) (hlen : (Lib.join ((onL acc 7).map (·.data.toList)) [44]).length ≤ 160) :
    Calls Tryz.prog 335 #[maskV acc] w fun e w' => e = .returned (.string (onJ acc)) ∧ Below w.heap.size w w' := by
  obtain ⟨i0, hi, hz0, hz1, hz2⟩ := info_parts info9
  have HE := hide he
  have h10 := he.size
  have HNE := hide hne
  have HLEN := hide hlen
  clear he hne hlen
  simp only [maskV]
  go_enter Tryz.func335, Tryz.ntmps335
  go_wp2
  obtain ⟨X, hX⟩ : ∃ X, X = w.alloc (.cells #[.bool (isd acc 0), .bool (isd acc 1), .bool (isd acc 2), .bool (isd acc 3), .bool (isd acc 4), .bool (isd acc 5), .bool (isd acc 6)] 154) := ⟨_, rfl⟩
  rw [← hX]
  have hbX : Below (w.heap.size + 1) X X := Below.refl _ _
  have hbw : Below w.heap.size w X := by rw [hX]; exact (Below.refl _ _).alloc (Nat.le_refl _) _
  have dX : DS X w.heap.size acc := by
    rw [hX]
    refine ⟨?_, ?_, ?_, ?_, ?_, ?_, ?_, fun j => ?_⟩ <;> simp
  have hsz : w.heap.size + 1 = X.heap.size := by rw [hX]; simp
  have HX := hide ((unhide HE).later hbw)
  clear hX
  go_loopw [3, 4, 5] (fun v _ i wx => ∃ k : Nat, k ≤ 7 ∧ i = .int .i64 k ∧ wx.ownsRow (w.heap.size + 1) 9 1 v (onL acc k).length ((onL acc k).map Value.string) ∧ Below (w.heap.size + 1) X wx) (fun _ _ i _ => 7 - (intOf i).toNat)
  case atStart => exact ⟨0, by omega, rfl, World.ownsRow_nil _ _ _ _, hbX⟩
  case round =>
    obtain ⟨k, hk, rfl, hown, hbk⟩ := hrel
    have hnl := onL_len acc k
    by_cases hlt : k < 7
    · have hi1 : (k : Int) < 7 := by omega
      have hi2 : (0 : Int) ≤ (k : Int) := Int.natCast_nonneg _
      have hc : wr.cell? ⟨w.heap.size, k, none⟩ = some (.bool (isd acc k)) := (hbk.cell (p := ⟨w.heap.size, k, none⟩) (by simp)).trans (dX.nat k hlt)
      have hday : wr.cell? ⟨2, k, none⟩ = some (.string (nameS k)) := (hbk.cell (p := ⟨2, k, none⟩) (show 2 < w.heap.size + 1 by omega)).trans ((unhide HX).day k hlt)
      have hstep : onL acc (k + 1) = if isd acc k then onL acc k ++ [nameS k] else onL acc k := rfl
      have HST := hide hstep
      clear hstep
      have hsz2 := hbk.size
      cases hm : isd acc k
      · rw [hm] at hc
        have HS2 : Hid (onL acc (k + 1) = onL acc k) := (unhide HST).trans (by rw [hm]; rfl)
        go_wp2
        exact ⟨⟨k + 1, by omega, by go_num, by rw [HS2.out]; exact hown, hbk⟩, by simp [intOf]; omega⟩
      · rw [hm] at hc
        have HS2 : Hid (onL acc (k + 1) = onL acc k ++ [nameS k]) := (unhide HST).trans (by rw [hm]; rfl)
        go_wp2_with (first
          | (at_builtin; refine wpList_append_own _ rfl _ _ 26 rfl (w.heap.size + 1) 9 i0 (.string ⟨#[]⟩) 1 16 Tryz.underlying26 hi hz0 hz1 hz2 rfl (by decide) _ _ _ rfl (hown.alloc _) ⟨wr.heap.size, 0, none⟩ 1 1 [.string (nameS k)] rfl rfl ?c1 ?c2 ?c3 ?c4 ?c5 ?_))
        case c1 => exact World.news_of_block (cs := #[.string (nameS k)]) (heap_alloc_new wr _)
        case c2 => simp [Value.oneCell']
        case c3 => unfold maxLen; omega
        case c4 => omega
        case c5 => simp; omega
        intro v' w' hown' hgrow _
        have hbk' : Below (w.heap.size + 1) X w' := (hbk.alloc (by omega) _).grown hgrow (by simp; omega) (fun k hk => own_base hown hk)
        have HO : Hid (w'.ownsRow (w.heap.size + 1) 9 1 v' (onL acc (k + 1)).length ((onL acc (k + 1)).map Value.string)) := by
          show w'.ownsRow _ _ _ _ _ _
          rw [HS2.out, List.map_append, List.length_append]; exact own_lower hown' (by omega)
        clear hown' hgrow
        go_wp2
        exact ⟨⟨k + 1, by omega, by go_num, HO.out, hbk'⟩, by simp [intOf]; omega⟩
    · obtain rfl : k = 7 := by omega
      obtain ⟨a, c, g, rfl, hrow⟩ := row_of_own hown rfl
      have hpos : 0 < (onL acc 7).length := List.length_pos_iff.2 (unhide HNE)
      obtain rfl := hrow.at_ hpos
      have HROW := hide hrow
      have hcap : (onL acc 7).length ≤ c := by
        rcases hown.2 with ⟨h, _⟩ | ⟨g', cap, cur, hv, _, _, hc, _⟩
        · cases h
        · cases hv; exact hc
      have hgl : g < wr.heap.size := World.block_lt_of_cell? _ ⟨g, 0, none⟩ (hrow.cells 0 hpos)
      clear hown hrow
      go_wp2_with fail
      refine (Tryz.strings_Join g 0 c (onL acc 7) ⟨#[44]⟩ wr (fun j x hx => ?_) hgl (by omega) hcap (Nat.le_trans (unhide HLEN) (by omega))).mono ?_
      · obtain ⟨hj, e⟩ := List.getElem?_eq_some_iff.1 hx
        have := (unhide HROW).cells j hj
        rw [e] at this
        rw [Nat.zero_add]; exact this
      rintro e w' ⟨rfl, hbj⟩
      have hbe := hbw.trans (Below.trans (hbk.mono (by omega)) (hbj.mono (by have := hbk.size; omega)))
      go_wp2
      go_ret
      exact ⟨rfl, hbe⟩

end Go.Proofs.YtjfkfiffakbagaaGreatDoor

/-
  The walks over paceWords and ruleWords of package lines.
-/
namespace Go.Proofs.YtjfkfiffakbagaaGreatDoor
open Go.RowKit

set_option maxRecDepth 100000 in
set_option maxHeartbeats 2000000 in
theorem paceDaily (ev : Int) (acc : List Int) (fr mn mi ti un : Int) (w : World) (he : Env w) (e0 : 0 ≤ ev) (e1 : ev ≤ 9999999) :
    Calls Tryz.prog 334 #[ruleV 1 ev acc fr mn mi ti un] w fun e w' => WR w w' [dailyW, Txt.itoaS ev] e := by
  simp only [ruleV]
  go_enter Tryz.func334, Tryz.ntmps334
  go_wp2_with fail
  obtain ⟨X, hX⟩ : ∃ X, X = w.alloc (.cells #[.int .i64 1, .int .i64 ev, .bool (isd acc 0), .bool (isd acc 1), .bool (isd acc 2), .bool (isd acc 3), .bool (isd acc 4), .bool (isd acc 5), .bool (isd acc 6), .int .i64 fr, .int .i64 mn, .int .i64 mi, .int .i64 ti, .int .i64 un] 156) := ⟨_, rfl⟩
  rw [← hX]
  have hbX : Below w.heap.size w X := by rw [hX]; exact (Below.refl _ _).alloc (Nat.le_refl _) _
  have eX := he.later hbX
  clear hX he
  refine (num_any ev X eX (by omega) (by omega)).mono ?_
  rintro e w4 ⟨rfl, hbf⟩
  have hb4 := below_more hbX hbf
  have hs4 := hb4.size
  go_wp2
  go_ret
  exact ⟨_, rfl, own_new w _ [dailyW, Txt.itoaS ev] w4.heap.size hs4 (heap_alloc_new w4 _) (show 2 ≤ 160 by omega), below_more hb4 ((Below.refl _ _).alloc (Nat.le_refl _) _)⟩

set_option maxRecDepth 100000 in
set_option maxHeartbeats 2000000 in
theorem paceMonthly (ev : Int) (acc : List Int) (fr mn mi ti un : Int) (w : World) (he : Env w) (e0 : 0 ≤ ev) (e1 : ev ≤ 9999999) :
    Calls Tryz.prog 334 #[ruleV 3 ev acc fr mn mi ti un] w fun e w' => WR w w' [monthlyW, Txt.itoaS ev] e := by
  simp only [ruleV]
  go_enter Tryz.func334, Tryz.ntmps334
  go_wp2_with fail
  obtain ⟨X, hX⟩ : ∃ X, X = w.alloc (.cells #[.int .i64 3, .int .i64 ev, .bool (isd acc 0), .bool (isd acc 1), .bool (isd acc 2), .bool (isd acc 3), .bool (isd acc 4), .bool (isd acc 5), .bool (isd acc 6), .int .i64 fr, .int .i64 mn, .int .i64 mi, .int .i64 ti, .int .i64 un] 156) := ⟨_, rfl⟩
  rw [← hX]
  have hbX : Below w.heap.size w X := by rw [hX]; exact (Below.refl _ _).alloc (Nat.le_refl _) _
  have eX := he.later hbX
  clear hX he
  refine (num_any ev X eX (by omega) (by omega)).mono ?_
  rintro e w4 ⟨rfl, hbf⟩
  have hb4 := below_more hbX hbf
  have hs4 := hb4.size
  go_wp2
  go_ret
  exact ⟨_, rfl, own_new w _ [monthlyW, Txt.itoaS ev] w4.heap.size hs4 (heap_alloc_new w4 _) (show 2 ≤ 160 by omega), below_more hb4 ((Below.refl _ _).alloc (Nat.le_refl _) _)⟩

set_option maxRecDepth 100000 in
set_option maxHeartbeats 4000000 in
theorem paceWeekly (ev : Int) (acc : List Int) (fr mn mi ti un : Int) (w : World) (he : Env w) (e0 : 0 ≤ ev) (e1 : ev ≤ 9999999) (hne : onL acc 7 ≠ []) (hlen : (Lib.join ((onL acc 7).map (·.data.toList)) [44]).length ≤ 160) :
    Calls Tryz.prog 334 #[ruleV 2 ev acc fr mn mi ti un] w fun e w' => WR w w' [weeklyW, Txt.itoaS ev, onJ acc] e := by
  have HNE := hide hne
  have HLEN := hide hlen
  clear hne hlen
  simp only [ruleV]
  go_enter Tryz.func334, Tryz.ntmps334
  go_wp2_with fail
  obtain ⟨X, hX⟩ : ∃ X, X = w.alloc (.cells #[.int .i64 2, .int .i64 ev, .bool (isd acc 0), .bool (isd acc 1), .bool (isd acc 2), .bool (isd acc 3), .bool (isd acc 4), .bool (isd acc 5), .bool (isd acc 6), .int .i64 fr, .int .i64 mn, .int .i64 mi, .int .i64 ti, .int .i64 un] 156) := ⟨_, rfl⟩
  rw [← hX]
  have hbX : Below w.heap.size w X := by rw [hX]; exact (Below.refl _ _).alloc (Nat.le_refl _) _
  have eX := he.later hbX
  have hXs : w.heap.size + 1 ≤ X.heap.size := by rw [hX]; simp
  have hXs10 : 10 ≤ w.heap.size + 1 := by have := he.size; omega
  have x0 : X.cell? ⟨w.heap.size, 0, none⟩ = some (.int .i64 2) := by rw [hX]; simp
  have x1 : X.cell? ⟨w.heap.size, 1, none⟩ = some (.int .i64 ev) := by rw [hX]; simp
  have x2 : X.cell? ⟨w.heap.size, 2, none⟩ = some (.bool (isd acc 0)) := by rw [hX]; simp
  have x3 : X.cell? ⟨w.heap.size, 3, none⟩ = some (.bool (isd acc 1)) := by rw [hX]; simp
  have x4 : X.cell? ⟨w.heap.size, 4, none⟩ = some (.bool (isd acc 2)) := by rw [hX]; simp
  have x5 : X.cell? ⟨w.heap.size, 5, none⟩ = some (.bool (isd acc 3)) := by rw [hX]; simp
  have x6 : X.cell? ⟨w.heap.size, 6, none⟩ = some (.bool (isd acc 4)) := by rw [hX]; simp
  have x7 : X.cell? ⟨w.heap.size, 7, none⟩ = some (.bool (isd acc 5)) := by rw [hX]; simp
  have x8 : X.cell? ⟨w.heap.size, 8, none⟩ = some (.bool (isd acc 6)) := by rw [hX]; simp
  have x9 : X.cell? ⟨w.heap.size, 9, none⟩ = some (.int .i64 fr) := by rw [hX]; simp
  have x10 : X.cell? ⟨w.heap.size, 10, none⟩ = some (.int .i64 mn) := by rw [hX]; simp
  have x11 : X.cell? ⟨w.heap.size, 11, none⟩ = some (.int .i64 mi) := by rw [hX]; simp
  have x12 : X.cell? ⟨w.heap.size, 12, none⟩ = some (.int .i64 ti) := by rw [hX]; simp
  have x13 : X.cell? ⟨w.heap.size, 13, none⟩ = some (.int .i64 un) := by rw [hX]; simp
  have bX := Below.refl (w.heap.size + 1) X
  clear hX he
  have hZ2 : w.heap.size + 1 ≤ X.heap.size := hXs
  go_region_held3 (fun w' => Below (w.heap.size + 1) X w' ∧ w'.cell? ⟨w.heap.size, 0, none⟩ = some (.int .i64 2) ∧ w'.cell? ⟨w.heap.size, 1, none⟩ = some (.int .i64 ev) ∧ w'.cell? ⟨w.heap.size, 2, none⟩ = some (.bool (isd acc 0)) ∧ w'.cell? ⟨w.heap.size, 3, none⟩ = some (.bool (isd acc 1)) ∧ w'.cell? ⟨w.heap.size, 4, none⟩ = some (.bool (isd acc 2)) ∧ w'.cell? ⟨w.heap.size, 5, none⟩ = some (.bool (isd acc 3)) ∧ w'.cell? ⟨w.heap.size, 6, none⟩ = some (.bool (isd acc 4)) ∧ w'.cell? ⟨w.heap.size, 7, none⟩ = some (.bool (isd acc 5)) ∧ w'.cell? ⟨w.heap.size, 8, none⟩ = some (.bool (isd acc 6)) ∧ w'.cell? ⟨w.heap.size, 9, none⟩ = some (.int .i64 fr) ∧ w'.cell? ⟨w.heap.size, 10, none⟩ = some (.int .i64 mn) ∧ w'.cell? ⟨w.heap.size, 11, none⟩ = some (.int .i64 mi) ∧ w'.cell? ⟨w.heap.size, 12, none⟩ = some (.int .i64 ti) ∧ w'.cell? ⟨w.heap.size, 13, none⟩ = some (.int .i64 un))
    (first
      | (go_split_ands; exact s_of (below_up hXs (by assumption) hbf) (fun hk => ⟨(hk.cell (p := ⟨w.heap.size, 0, none⟩) (by simp)).trans x0, (hk.cell (p := ⟨w.heap.size, 1, none⟩) (by simp)).trans x1, (hk.cell (p := ⟨w.heap.size, 2, none⟩) (by simp)).trans x2, (hk.cell (p := ⟨w.heap.size, 3, none⟩) (by simp)).trans x3, (hk.cell (p := ⟨w.heap.size, 4, none⟩) (by simp)).trans x4, (hk.cell (p := ⟨w.heap.size, 5, none⟩) (by simp)).trans x5, (hk.cell (p := ⟨w.heap.size, 6, none⟩) (by simp)).trans x6, (hk.cell (p := ⟨w.heap.size, 7, none⟩) (by simp)).trans x7, (hk.cell (p := ⟨w.heap.size, 8, none⟩) (by simp)).trans x8, (hk.cell (p := ⟨w.heap.size, 9, none⟩) (by simp)).trans x9, (hk.cell (p := ⟨w.heap.size, 10, none⟩) (by simp)).trans x10, (hk.cell (p := ⟨w.heap.size, 11, none⟩) (by simp)).trans x11, (hk.cell (p := ⟨w.heap.size, 12, none⟩) (by simp)).trans x12, (hk.cell (p := ⟨w.heap.size, 13, none⟩) (by simp)).trans x13⟩))
      | (go_split_ands; exact s_of (below_up hXs (by assumption) ((Below.refl _ _).alloc (Nat.le_refl _) _)) (fun hk => ⟨(hk.cell (p := ⟨w.heap.size, 0, none⟩) (by simp)).trans x0, (hk.cell (p := ⟨w.heap.size, 1, none⟩) (by simp)).trans x1, (hk.cell (p := ⟨w.heap.size, 2, none⟩) (by simp)).trans x2, (hk.cell (p := ⟨w.heap.size, 3, none⟩) (by simp)).trans x3, (hk.cell (p := ⟨w.heap.size, 4, none⟩) (by simp)).trans x4, (hk.cell (p := ⟨w.heap.size, 5, none⟩) (by simp)).trans x5, (hk.cell (p := ⟨w.heap.size, 6, none⟩) (by simp)).trans x6, (hk.cell (p := ⟨w.heap.size, 7, none⟩) (by simp)).trans x7, (hk.cell (p := ⟨w.heap.size, 8, none⟩) (by simp)).trans x8, (hk.cell (p := ⟨w.heap.size, 9, none⟩) (by simp)).trans x9, (hk.cell (p := ⟨w.heap.size, 10, none⟩) (by simp)).trans x10, (hk.cell (p := ⟨w.heap.size, 11, none⟩) (by simp)).trans x11, (hk.cell (p := ⟨w.heap.size, 12, none⟩) (by simp)).trans x12, (hk.cell (p := ⟨w.heap.size, 13, none⟩) (by simp)).trans x13⟩))
      | (go_split_ands; exact s_of (below_up hXs (by assumption) (below_drew _)) (fun hk => ⟨(hk.cell (p := ⟨w.heap.size, 0, none⟩) (by simp)).trans x0, (hk.cell (p := ⟨w.heap.size, 1, none⟩) (by simp)).trans x1, (hk.cell (p := ⟨w.heap.size, 2, none⟩) (by simp)).trans x2, (hk.cell (p := ⟨w.heap.size, 3, none⟩) (by simp)).trans x3, (hk.cell (p := ⟨w.heap.size, 4, none⟩) (by simp)).trans x4, (hk.cell (p := ⟨w.heap.size, 5, none⟩) (by simp)).trans x5, (hk.cell (p := ⟨w.heap.size, 6, none⟩) (by simp)).trans x6, (hk.cell (p := ⟨w.heap.size, 7, none⟩) (by simp)).trans x7, (hk.cell (p := ⟨w.heap.size, 8, none⟩) (by simp)).trans x8, (hk.cell (p := ⟨w.heap.size, 9, none⟩) (by simp)).trans x9, (hk.cell (p := ⟨w.heap.size, 10, none⟩) (by simp)).trans x10, (hk.cell (p := ⟨w.heap.size, 11, none⟩) (by simp)).trans x11, (hk.cell (p := ⟨w.heap.size, 12, none⟩) (by simp)).trans x12, (hk.cell (p := ⟨w.heap.size, 13, none⟩) (by simp)).trans x13⟩))
      | (go_split_ands; exact s_of (Below.grown (by assumption) hgrow (by simp; omega) (fun k hk => own_base hoN hk)) (fun hk => ⟨(hk.cell (p := ⟨w.heap.size, 0, none⟩) (by simp)).trans x0, (hk.cell (p := ⟨w.heap.size, 1, none⟩) (by simp)).trans x1, (hk.cell (p := ⟨w.heap.size, 2, none⟩) (by simp)).trans x2, (hk.cell (p := ⟨w.heap.size, 3, none⟩) (by simp)).trans x3, (hk.cell (p := ⟨w.heap.size, 4, none⟩) (by simp)).trans x4, (hk.cell (p := ⟨w.heap.size, 5, none⟩) (by simp)).trans x5, (hk.cell (p := ⟨w.heap.size, 6, none⟩) (by simp)).trans x6, (hk.cell (p := ⟨w.heap.size, 7, none⟩) (by simp)).trans x7, (hk.cell (p := ⟨w.heap.size, 8, none⟩) (by simp)).trans x8, (hk.cell (p := ⟨w.heap.size, 9, none⟩) (by simp)).trans x9, (hk.cell (p := ⟨w.heap.size, 10, none⟩) (by simp)).trans x10, (hk.cell (p := ⟨w.heap.size, 11, none⟩) (by simp)).trans x11, (hk.cell (p := ⟨w.heap.size, 12, none⟩) (by simp)).trans x12, (hk.cell (p := ⟨w.heap.size, 13, none⟩) (by simp)).trans x13⟩)))
    (first
      | (go_at_call 323
         go_split_ands
         refine (num_any _ _ (eX.of10 hXs10 (by assumption)) (by omega) (by omega)).mono ?_
         rintro e w4 ⟨rfl, hbf⟩)
      | (go_at_call 335
         go_split_ands
         refine (onWord_any acc _ (eX.of10 hXs10 (by assumption)) (unhide HNE) (unhide HLEN)).mono ?_
         rintro e w5 ⟨rfl, hbf⟩
         have hs5 := size_up (B := w.heap.size + 1) (x := X) (by assumption) hbf))
  go_split_ands
  have hbE : Below (w.heap.size + 1) X (w5.alloc (.cells #[.string ⟨#[119, 101, 101, 107, 108, 121]⟩, .string (Txt.itoaS ev), .string (onJ acc)] 9)) := by assumption
  have HBE := hide hbE
  have hs6 : w.heap.size ≤ w5.heap.size := by omega
  clear hbE
  go_wp2
  go_ret
  exact ⟨_, rfl, own_new w _ [weeklyW, Txt.itoaS ev, onJ acc] w5.heap.size hs6 (heap_alloc_new w5 _) (show 3 ≤ 160 by omega), hbX.trans (HBE.out.mono (by omega))⟩

end Go.Proofs.YtjfkfiffakbagaaGreatDoor

/-
  The words of the plain form of each line that was read.
-/
namespace Go.Proofs.YtjfkfiffakbagaaGreatDoor
open Go.RowKit

def sixW (fr mn mi : Int) : List ByteArray := [fromW, dateT fr, atW, minS mn, forW, Txt.itoaS mi]
/-- The words of a pace. -/
inductive PaW : Int → Int → List Int → List ByteArray → Prop where
  | daily (ev : Int) (acc : List Int) (e0 : 0 ≤ ev) (e1 : ev ≤ 9999999) : PaW 1 ev acc [dailyW, Txt.itoaS ev]
  | weekly (ev : Int) (acc : List Int) (e0 : 0 ≤ ev) (e1 : ev ≤ 9999999) (hne : onL acc 7 ≠ []) (hlen : (Lib.join ((onL acc 7).map (·.data.toList)) [44]).length ≤ 160) : PaW 2 ev acc [weeklyW, Txt.itoaS ev, onJ acc]
  | monthly (ev : Int) (acc : List Int) (e0 : 0 ≤ ev) (e1 : ev ≤ 9999999) : PaW 3 ev acc [monthlyW, Txt.itoaS ev]
/-- The words of an end. -/
inductive EnW : Int → Int → List ByteArray → Prop where
  | times (ti un : Int) (t0 : 0 < ti) (t1 : ti ≤ 9999999) : EnW ti un [timesW, Txt.itoaS ti]
  | til (un : Int) (u0 : 0 ≤ un) (u1 : un ≤ 728) : EnW 0 un [untilW, dateT un]
/-- The words of a rule. -/
inductive RW : Int → Int → List Int → Int → Int → Int → Int → Int → List ByteArray → Prop where
  | mk (pc ev : Int) (acc : List Int) (fr mn mi ti un : Int) (ps es : List ByteArray) (hp : PaW pc ev acc ps) (he : EnW ti un es) (f0 : 0 ≤ fr) (f1 : fr ≤ 728) (m0 : 0 ≤ mn) (m1 : mn < 1440) (i0 : 0 ≤ mi) (i1 : mi ≤ 9999999) : RW pc ev acc fr mn mi ti un (ps ++ sixW fr mn mi ++ es)
/-- The words of a line. -/
inductive PW : Value → List ByteArray → Prop where
  | thing (n : ByteArray) (u : Int) (u0 : 0 ≤ u) (u1 : u ≤ 9999999) : PW (.iface 143 (.agg #[.string n, .int .i64 u])) [thingW, n, Txt.itoaS u]
  | book (n : ByteArray) (u a b : Int) (u0 : 0 ≤ u) (u1 : u ≤ 9999999) (a0 : 0 ≤ a) (a1 : a ≤ 1048320) (b0 : 0 ≤ b) (b1 : b ≤ 1048320) : PW (.iface 148 (.agg #[.string n, .int .i64 u, .int .i64 a, .int .i64 b])) [bookW, n, Txt.itoaS u, timeT a, timeT b]
  | hold (n : ByteArray) (u a b m : Int) (u0 : 0 ≤ u) (u1 : u ≤ 9999999) (a0 : 0 ≤ a) (a1 : a ≤ 1048320) (b0 : 0 ≤ b) (b1 : b ≤ 1048320) (m0 : 0 ≤ m) (m1 : m ≤ 9999999) : PW (.iface 150 (.agg #[.string n, .int .i64 u, .int .i64 a, .int .i64 b, .int .i64 m])) [holdW, n, Txt.itoaS u, timeT a, timeT b, Txt.itoaS m]
  | wait (n : ByteArray) (u a b m : Int) (u0 : 0 ≤ u) (u1 : u ≤ 9999999) (a0 : 0 ≤ a) (a1 : a ≤ 1048320) (b0 : 0 ≤ b) (b1 : b ≤ 1048320) (m0 : 0 ≤ m) (m1 : m ≤ 9999999) : PW (.iface 151 (.agg #[.string n, .int .i64 u, .int .i64 a, .int .i64 b, .int .i64 m])) [waitW, n, Txt.itoaS u, timeT a, timeT b, Txt.itoaS m]
  | series (n : ByteArray) (u pc ev : Int) (acc : List Int) (fr mn mi ti un : Int) (xs : List ByteArray) (u0 : 0 ≤ u) (u1 : u ≤ 9999999) (hr : RW pc ev acc fr mn mi ti un xs) : PW (.iface 159 (.agg #[.string n, .int .i64 u, .int .i64 pc, .int .i64 ev, .bool (isd acc 0), .bool (isd acc 1), .bool (isd acc 2), .bool (isd acc 3), .bool (isd acc 4), .bool (isd acc 5), .bool (isd acc 6), .int .i64 fr, .int .i64 mn, .int .i64 mi, .int .i64 ti, .int .i64 un])) ([seriesW, n, Txt.itoaS u] ++ xs)
  | confirm (u : Int) (u0 : 0 ≤ u) (u1 : u ≤ 9999999) : PW (.iface 161 (.agg #[.int .i64 u])) [confirmW, Txt.itoaS u]
  | cancel (u : Int) (u0 : 0 ≤ u) (u1 : u ≤ 9999999) : PW (.iface 162 (.agg #[.int .i64 u])) [cancelW, Txt.itoaS u]
  | list0 (n : ByteArray) (a b : Int) : PW (.iface 164 (.agg #[.string n, .bool false, .int .i64 a, .int .i64 b])) [listW, n]
  | list1 (n : ByteArray) (a b : Int) (a0 : 0 ≤ a) (a1 : a ≤ 1048320) (b0 : 0 ≤ b) (b1 : b ≤ 1048320) : PW (.iface 164 (.agg #[.string n, .bool true, .int .i64 a, .int .i64 b])) [listW, n, timeT a, timeT b]
  | waiting : PW (.iface 167 (.agg #[])) [waitingW]
  | peak (n : ByteArray) (a b : Int) (a0 : 0 ≤ a) (a1 : a ≤ 1048320) (b0 : 0 ≤ b) (b1 : b ≤ 1048320) : PW (.iface 170 (.agg #[.string n, .int .i64 a, .int .i64 b])) [peakW, n, timeT a, timeT b]
  | find (n : ByteArray) (u m a b : Int) (u0 : 0 ≤ u) (u1 : u ≤ 9999999) (m0 : 0 ≤ m) (m1 : m ≤ 9999999) (a0 : 0 ≤ a) (a1 : a ≤ 1048320) (b0 : 0 ≤ b) (b1 : b ≤ 1048320) : PW (.iface 172 (.agg #[.string n, .int .i64 u, .int .i64 m, .int .i64 a, .int .i64 b])) [findW, n, Txt.itoaS u, Txt.itoaS m, timeT a, timeT b]
  | expand (pc ev : Int) (acc : List Int) (fr mn mi ti un : Int) (xs : List ByteArray) (hr : RW pc ev acc fr mn mi ti un xs) : PW (.iface 174 (.agg #[.int .i64 pc, .int .i64 ev, .bool (isd acc 0), .bool (isd acc 1), .bool (isd acc 2), .bool (isd acc 3), .bool (isd acc 4), .bool (isd acc 5), .bool (isd acc 6), .int .i64 fr, .int .i64 mn, .int .i64 mi, .int .i64 ti, .int .i64 un])) ([expandW] ++ xs)
  | tick (u : Int) (u0 : 0 ≤ u) (u1 : u ≤ 9999999) : PW (.iface 176 (.agg #[.int .i64 u])) [tickW, Txt.itoaS u]
  | clock : PW (.iface 177 (.agg #[])) [clockW]

/-- Words with a blank between each two. -/
def jn (xs : List ByteArray) : ByteArray := ⟨(Lib.join (xs.map (·.data.toList)) [32]).toArray⟩

end Go.Proofs.YtjfkfiffakbagaaGreatDoor

/-
  The walks over ruleWords of package lines.
-/
namespace Go.Proofs.YtjfkfiffakbagaaGreatDoor
open Go.RowKit


set_option maxRecDepth 100000 in
set_option maxHeartbeats 4000000 in
theorem ruleTimes (ps : List ByteArray) (pc ev : Int) (acc : List Int) (fr mn mi ti un : Int) (w : World) (he : Env w) (hl : ps.length ≤ 3) (f0 : 0 ≤ fr) (f1 : fr ≤ 728) (m0 : 0 ≤ mn) (m1 : mn < 1440) (i0 : 0 ≤ mi) (i1 : mi ≤ 9999999) (t0 : 0 < ti) (t1 : ti ≤ 9999999)
    (hp : ∀ x, Env x → Calls Tryz.prog 334 #[ruleV pc ev acc fr mn mi ti un] x fun e w' => WR x w' ps e) :
    Calls Tryz.prog 333 #[ruleV pc ev acc fr mn mi ti un] w fun e w' => WR w w' (ps ++ sixW fr mn mi ++ [timesW, Txt.itoaS ti]) e := by
  obtain ⟨inf, hi0, hz0, hz1, hz2⟩ := info_parts info9
  simp only [ruleV] at hp ⊢
  go_enter Tryz.func333, Tryz.ntmps333
  go_wp2_with fail
  obtain ⟨X, hX⟩ : ∃ X, X = w.alloc (.cells #[.int .i64 pc, .int .i64 ev, .bool (isd acc 0), .bool (isd acc 1), .bool (isd acc 2), .bool (isd acc 3), .bool (isd acc 4), .bool (isd acc 5), .bool (isd acc 6), .int .i64 fr, .int .i64 mn, .int .i64 mi, .int .i64 ti, .int .i64 un] 156) := ⟨_, rfl⟩
  rw [← hX]
  have hbX : Below w.heap.size w X := by rw [hX]; exact (Below.refl _ _).alloc (Nat.le_refl _) _
  have eX := he.later hbX
  have hXs : w.heap.size + 1 ≤ X.heap.size := by rw [hX]; simp
  have hXs10 : 10 ≤ w.heap.size + 1 := by have := he.size; omega
  have x9 : X.cell? ⟨w.heap.size, 9, none⟩ = some (.int .i64 fr) := by rw [hX]; simp
  have x10 : X.cell? ⟨w.heap.size, 10, none⟩ = some (.int .i64 mn) := by rw [hX]; simp
  have x11 : X.cell? ⟨w.heap.size, 11, none⟩ = some (.int .i64 mi) := by rw [hX]; simp
  have x12 : X.cell? ⟨w.heap.size, 12, none⟩ = some (.int .i64 ti) := by rw [hX]; simp
  have x13 : X.cell? ⟨w.heap.size, 13, none⟩ = some (.int .i64 un) := by rw [hX]; simp
  clear hX he
  refine (hp X eX).mono ?_
  rintro e w1 ⟨v1, rfl, ho1, hb1⟩
  clear hp
  have bX : Below (w.heap.size + 1) X w1 := hb1.mono hXs
  have hs1 := bX.size
  have y9 := (bX.cell (p := ⟨w.heap.size, 9, none⟩) (by simp)).trans x9
  have y10 := (bX.cell (p := ⟨w.heap.size, 10, none⟩) (by simp)).trans x10
  have y11 := (bX.cell (p := ⟨w.heap.size, 11, none⟩) (by simp)).trans x11
  have y12 := (bX.cell (p := ⟨w.heap.size, 12, none⟩) (by simp)).trans x12
  have y13 := (bX.cell (p := ⟨w.heap.size, 13, none⟩) (by simp)).trans x13
  have hoN := own_lower (base' := w.heap.size + 1) ho1 hXs
  clear ho1 hb1
  go_wp2_with fail
  have hoN := hoN.drew
  go_region_held3 (fun w' => Below (w.heap.size + 1) X w' ∧ w'.cell? ⟨w.heap.size, 9, none⟩ = some (.int .i64 fr) ∧ w'.cell? ⟨w.heap.size, 10, none⟩ = some (.int .i64 mn) ∧ w'.cell? ⟨w.heap.size, 11, none⟩ = some (.int .i64 mi) ∧ w'.cell? ⟨w.heap.size, 12, none⟩ = some (.int .i64 ti) ∧ w'.cell? ⟨w.heap.size, 13, none⟩ = some (.int .i64 un))
    (first
      | (go_split_ands; exact s_of (below_up hXs (by assumption) hbf) (fun hk => ⟨(hk.cell (p := ⟨w.heap.size, 9, none⟩) (by simp)).trans x9, (hk.cell (p := ⟨w.heap.size, 10, none⟩) (by simp)).trans x10, (hk.cell (p := ⟨w.heap.size, 11, none⟩) (by simp)).trans x11, (hk.cell (p := ⟨w.heap.size, 12, none⟩) (by simp)).trans x12, (hk.cell (p := ⟨w.heap.size, 13, none⟩) (by simp)).trans x13⟩))
      | (go_split_ands; exact s_of (below_up hXs (by assumption) ((Below.refl _ _).alloc (Nat.le_refl _) _)) (fun hk => ⟨(hk.cell (p := ⟨w.heap.size, 9, none⟩) (by simp)).trans x9, (hk.cell (p := ⟨w.heap.size, 10, none⟩) (by simp)).trans x10, (hk.cell (p := ⟨w.heap.size, 11, none⟩) (by simp)).trans x11, (hk.cell (p := ⟨w.heap.size, 12, none⟩) (by simp)).trans x12, (hk.cell (p := ⟨w.heap.size, 13, none⟩) (by simp)).trans x13⟩))
      | (go_split_ands; exact s_of (below_up hXs (by assumption) (below_drew _)) (fun hk => ⟨(hk.cell (p := ⟨w.heap.size, 9, none⟩) (by simp)).trans x9, (hk.cell (p := ⟨w.heap.size, 10, none⟩) (by simp)).trans x10, (hk.cell (p := ⟨w.heap.size, 11, none⟩) (by simp)).trans x11, (hk.cell (p := ⟨w.heap.size, 12, none⟩) (by simp)).trans x12, (hk.cell (p := ⟨w.heap.size, 13, none⟩) (by simp)).trans x13⟩))
      | (go_split_ands; exact s_of (Below.grown (by assumption) hgrow (by simp; omega) (fun k hk => own_base hoN hk)) (fun hk => ⟨(hk.cell (p := ⟨w.heap.size, 9, none⟩) (by simp)).trans x9, (hk.cell (p := ⟨w.heap.size, 10, none⟩) (by simp)).trans x10, (hk.cell (p := ⟨w.heap.size, 11, none⟩) (by simp)).trans x11, (hk.cell (p := ⟨w.heap.size, 12, none⟩) (by simp)).trans x12, (hk.cell (p := ⟨w.heap.size, 13, none⟩) (by simp)).trans x13⟩)))
    (first
      | (go_at_call 327
         go_split_ands
         refine (dateWord_fn _ _ (eX.of10 hXs10 (by assumption)) (by omega) (by omega)).mono ?_
         rintro e w5 ⟨rfl, hbf⟩
         have hs5 := size_up (B := w.heap.size + 1) (x := X) (by assumption) hbf
         have hoN := own_later hoN hbf)
      | (go_at_call 328
         go_split_ands
         refine (minuteWord_any _ _ (eX.of10 hXs10 (by assumption)) (by omega) (by omega)).mono ?_
         rintro e w5 ⟨rfl, hbf⟩
         have hs5 := size_up (B := w.heap.size + 1) (x := X) (by assumption) hbf
         have hoN := own_later hoN hbf)
      | (go_at_call 323
         go_split_ands
         refine (num_any _ _ (eX.of10 hXs10 (by assumption)) (by omega) (by omega)).mono ?_
         rintro e w5 ⟨rfl, hbf⟩
         have hs5 := size_up (B := w.heap.size + 1) (x := X) (by assumption) hbf
         have hoN := own_later hoN hbf)
      | ((refine step_append_lies _ (by rfl) _ _ _ (by rfl) (w.heap.size + 1) 9 inf _ 1 16 Tryz.underlying26 hi0 hz0 hz1 hz2 rfl (by omega) v1 ps.length (ps.map Value.string) (by rfl) (hoN.alloc _) ⟨w5.heap.size, 0, none⟩ 6 6 [.string fromW, .string (dateT fr), .string atW, .string (minS mn), .string forW, .string (Txt.itoaS mi)] (by rfl) (by rfl) (World.news_of_block (cs := #[.string fromW, .string (dateT fr), .string atW, .string (minS mn), .string forW, .string (Txt.itoaS mi)]) (t := 9) (fr := (0, 0)) (heap_alloc_new _ _)) (by simp [Value.oneCell']) (by omega) (by unfold maxLen; omega) (by omega) (by simp; omega) (w5.heap.size + 1) (by simp) ?_; intro g cap w6 hown6 hgrow hat hltg)))
  go_split_ands
  have hbE : Below (w.heap.size + 1) X w6 := by assumption
  have hs6 := hbE.size
  obtain ⟨ys, hys⟩ : ∃ ys : List Value, ys = List.map Value.string ps ++ [Value.string fromW, Value.string (dateT fr), Value.string atW, Value.string (minS mn), Value.string forW, Value.string (Txt.itoaS mi)] := ⟨_, rfl⟩
  rw [← hys] at hown6
  have HYS := hide hys
  clear hys hgrow hat
  go_wp2_with fail
  refine (num_any ti w6 (eX.of10 hXs10 hbE) (by omega) (by omega)).mono ?_
  rintro e w7 ⟨rfl, hb7⟩
  have hoM := own_later hown6 hb7
  have hb67 : Below (w.heap.size + 1) X w7 := below_up hXs hbE hb7
  have hs7 := hb67.size
  clear hown6
  go_wp2_with (first
    | (at_builtin; refine wpList_append_own _ rfl _ _ 26 rfl (w.heap.size + 1) 9 inf (.string ⟨#[]⟩) 1 16 Tryz.underlying26 hi0 hz0 hz1 hz2 rfl (by decide) _ _ _ rfl (hoM.alloc _) ⟨w7.heap.size, 0, none⟩ 2 2 [.string timesW, .string (Txt.itoaS ti)] rfl rfl ?c1 ?c2 ?c3 ?c4 ?c5 ?_))
  case c1 => exact World.news_of_block (cs := #[.string timesW, .string (Txt.itoaS ti)]) (heap_alloc_new w7 _)
  case c2 => simp [Value.oneCell']
  case c3 => unfold maxLen; omega
  case c4 => omega
  case c5 => simp; omega
  intro v8 w8 hown8 hgrow _
  have hbG : Below (w.heap.size + 1) X w8 := (hb67.alloc (by omega) _).grown hgrow (by simp; omega) (fun k hk => own_base hoM hk)
  have HBG := hide hbG
  have HOW := hide hown8
  clear hbG hgrow hown8
  go_wp2
  go_ret
  refine ⟨_, rfl, ?_, hbX.trans (HBG.out.mono (by omega))⟩
  have h9 := own_lower (base' := w.heap.size) HOW.out (by omega)
  rw [HYS.out] at h9
  have e1 : (ps ++ sixW fr mn mi ++ [timesW, Txt.itoaS ti]).length = ps.length + 6 + 2 := by simp [sixW]
  have e2 : (ps ++ sixW fr mn mi ++ [timesW, Txt.itoaS ti]).map Value.string = List.map Value.string ps ++ [Value.string fromW, Value.string (dateT fr), Value.string atW, Value.string (minS mn), Value.string forW, Value.string (Txt.itoaS mi)] ++ [.string timesW, .string (Txt.itoaS ti)] := by simp [sixW]
  rw [e1, e2]
  exact h9

set_option maxRecDepth 100000 in
set_option maxHeartbeats 4000000 in
theorem ruleUntil (ps : List ByteArray) (pc ev : Int) (acc : List Int) (fr mn mi un : Int) (w : World) (he : Env w) (hl : ps.length ≤ 3) (f0 : 0 ≤ fr) (f1 : fr ≤ 728) (m0 : 0 ≤ mn) (m1 : mn < 1440) (i0 : 0 ≤ mi) (i1 : mi ≤ 9999999) (t0 : 0 ≤ un) (t1 : un ≤ 728)
    (hp : ∀ x, Env x → Calls Tryz.prog 334 #[ruleV pc ev acc fr mn mi 0 un] x fun e w' => WR x w' ps e) :
    Calls Tryz.prog 333 #[ruleV pc ev acc fr mn mi 0 un] w fun e w' => WR w w' (ps ++ sixW fr mn mi ++ [untilW, dateT un]) e := by
  obtain ⟨inf, hi0, hz0, hz1, hz2⟩ := info_parts info9
  simp only [ruleV] at hp ⊢
  go_enter Tryz.func333, Tryz.ntmps333
  go_wp2_with fail
  obtain ⟨X, hX⟩ : ∃ X, X = w.alloc (.cells #[.int .i64 pc, .int .i64 ev, .bool (isd acc 0), .bool (isd acc 1), .bool (isd acc 2), .bool (isd acc 3), .bool (isd acc 4), .bool (isd acc 5), .bool (isd acc 6), .int .i64 fr, .int .i64 mn, .int .i64 mi, .int .i64 0, .int .i64 un] 156) := ⟨_, rfl⟩
  rw [← hX]
  have hbX : Below w.heap.size w X := by rw [hX]; exact (Below.refl _ _).alloc (Nat.le_refl _) _
  have eX := he.later hbX
  have hXs : w.heap.size + 1 ≤ X.heap.size := by rw [hX]; simp
  have hXs10 : 10 ≤ w.heap.size + 1 := by have := he.size; omega
  have x9 : X.cell? ⟨w.heap.size, 9, none⟩ = some (.int .i64 fr) := by rw [hX]; simp
  have x10 : X.cell? ⟨w.heap.size, 10, none⟩ = some (.int .i64 mn) := by rw [hX]; simp
  have x11 : X.cell? ⟨w.heap.size, 11, none⟩ = some (.int .i64 mi) := by rw [hX]; simp
  have x12 : X.cell? ⟨w.heap.size, 12, none⟩ = some (.int .i64 0) := by rw [hX]; simp
  have x13 : X.cell? ⟨w.heap.size, 13, none⟩ = some (.int .i64 un) := by rw [hX]; simp
  clear hX he
  refine (hp X eX).mono ?_
  rintro e w1 ⟨v1, rfl, ho1, hb1⟩
  clear hp
  have bX : Below (w.heap.size + 1) X w1 := hb1.mono hXs
  have hs1 := bX.size
  have y9 := (bX.cell (p := ⟨w.heap.size, 9, none⟩) (by simp)).trans x9
  have y10 := (bX.cell (p := ⟨w.heap.size, 10, none⟩) (by simp)).trans x10
  have y11 := (bX.cell (p := ⟨w.heap.size, 11, none⟩) (by simp)).trans x11
  have y12 := (bX.cell (p := ⟨w.heap.size, 12, none⟩) (by simp)).trans x12
  have y13 := (bX.cell (p := ⟨w.heap.size, 13, none⟩) (by simp)).trans x13
  have hoN := own_lower (base' := w.heap.size + 1) ho1 hXs
  clear ho1 hb1
  go_wp2_with fail
  have hoN := hoN.drew
  go_region_held3 (fun w' => Below (w.heap.size + 1) X w' ∧ w'.cell? ⟨w.heap.size, 9, none⟩ = some (.int .i64 fr) ∧ w'.cell? ⟨w.heap.size, 10, none⟩ = some (.int .i64 mn) ∧ w'.cell? ⟨w.heap.size, 11, none⟩ = some (.int .i64 mi) ∧ w'.cell? ⟨w.heap.size, 12, none⟩ = some (.int .i64 0) ∧ w'.cell? ⟨w.heap.size, 13, none⟩ = some (.int .i64 un))
    (first
      | (go_split_ands; exact s_of (below_up hXs (by assumption) hbf) (fun hk => ⟨(hk.cell (p := ⟨w.heap.size, 9, none⟩) (by simp)).trans x9, (hk.cell (p := ⟨w.heap.size, 10, none⟩) (by simp)).trans x10, (hk.cell (p := ⟨w.heap.size, 11, none⟩) (by simp)).trans x11, (hk.cell (p := ⟨w.heap.size, 12, none⟩) (by simp)).trans x12, (hk.cell (p := ⟨w.heap.size, 13, none⟩) (by simp)).trans x13⟩))
      | (go_split_ands; exact s_of (below_up hXs (by assumption) ((Below.refl _ _).alloc (Nat.le_refl _) _)) (fun hk => ⟨(hk.cell (p := ⟨w.heap.size, 9, none⟩) (by simp)).trans x9, (hk.cell (p := ⟨w.heap.size, 10, none⟩) (by simp)).trans x10, (hk.cell (p := ⟨w.heap.size, 11, none⟩) (by simp)).trans x11, (hk.cell (p := ⟨w.heap.size, 12, none⟩) (by simp)).trans x12, (hk.cell (p := ⟨w.heap.size, 13, none⟩) (by simp)).trans x13⟩))
      | (go_split_ands; exact s_of (below_up hXs (by assumption) (below_drew _)) (fun hk => ⟨(hk.cell (p := ⟨w.heap.size, 9, none⟩) (by simp)).trans x9, (hk.cell (p := ⟨w.heap.size, 10, none⟩) (by simp)).trans x10, (hk.cell (p := ⟨w.heap.size, 11, none⟩) (by simp)).trans x11, (hk.cell (p := ⟨w.heap.size, 12, none⟩) (by simp)).trans x12, (hk.cell (p := ⟨w.heap.size, 13, none⟩) (by simp)).trans x13⟩))
      | (go_split_ands; exact s_of (Below.grown (by assumption) hgrow (by simp; omega) (fun k hk => own_base hoN hk)) (fun hk => ⟨(hk.cell (p := ⟨w.heap.size, 9, none⟩) (by simp)).trans x9, (hk.cell (p := ⟨w.heap.size, 10, none⟩) (by simp)).trans x10, (hk.cell (p := ⟨w.heap.size, 11, none⟩) (by simp)).trans x11, (hk.cell (p := ⟨w.heap.size, 12, none⟩) (by simp)).trans x12, (hk.cell (p := ⟨w.heap.size, 13, none⟩) (by simp)).trans x13⟩)))
    (first
      | (go_at_call 327
         go_split_ands
         refine (dateWord_fn _ _ (eX.of10 hXs10 (by assumption)) (by omega) (by omega)).mono ?_
         rintro e w5 ⟨rfl, hbf⟩
         have hs5 := size_up (B := w.heap.size + 1) (x := X) (by assumption) hbf
         have hoN := own_later hoN hbf)
      | (go_at_call 328
         go_split_ands
         refine (minuteWord_any _ _ (eX.of10 hXs10 (by assumption)) (by omega) (by omega)).mono ?_
         rintro e w5 ⟨rfl, hbf⟩
         have hs5 := size_up (B := w.heap.size + 1) (x := X) (by assumption) hbf
         have hoN := own_later hoN hbf)
      | (go_at_call 323
         go_split_ands
         refine (num_any _ _ (eX.of10 hXs10 (by assumption)) (by omega) (by omega)).mono ?_
         rintro e w5 ⟨rfl, hbf⟩
         have hs5 := size_up (B := w.heap.size + 1) (x := X) (by assumption) hbf
         have hoN := own_later hoN hbf)
      | ((refine step_append_lies _ (by rfl) _ _ _ (by rfl) (w.heap.size + 1) 9 inf _ 1 16 Tryz.underlying26 hi0 hz0 hz1 hz2 rfl (by omega) v1 ps.length (ps.map Value.string) (by rfl) (hoN.alloc _) ⟨w5.heap.size, 0, none⟩ 6 6 [.string fromW, .string (dateT fr), .string atW, .string (minS mn), .string forW, .string (Txt.itoaS mi)] (by rfl) (by rfl) (World.news_of_block (cs := #[.string fromW, .string (dateT fr), .string atW, .string (minS mn), .string forW, .string (Txt.itoaS mi)]) (t := 9) (fr := (0, 0)) (heap_alloc_new _ _)) (by simp [Value.oneCell']) (by omega) (by unfold maxLen; omega) (by omega) (by simp; omega) (w5.heap.size + 1) (by simp) ?_; intro g cap w6 hown6 hgrow hat hltg)))
  go_split_ands
  have hbE : Below (w.heap.size + 1) X w6 := by assumption
  have hs6 := hbE.size
  obtain ⟨ys, hys⟩ : ∃ ys : List Value, ys = List.map Value.string ps ++ [Value.string fromW, Value.string (dateT fr), Value.string atW, Value.string (minS mn), Value.string forW, Value.string (Txt.itoaS mi)] := ⟨_, rfl⟩
  rw [← hys] at hown6
  have HYS := hide hys
  clear hys hgrow hat
  go_wp2_with fail
  refine (dateWord_fn un w6 (eX.of10 hXs10 hbE) (by omega) (by omega)).mono ?_
  rintro e w7 ⟨rfl, hb7⟩
  have hoM := own_later hown6 hb7
  have hb67 : Below (w.heap.size + 1) X w7 := below_up hXs hbE hb7
  have hs7 := hb67.size
  clear hown6
  go_wp2_with (first
    | (at_builtin; refine wpList_append_own _ rfl _ _ 26 rfl (w.heap.size + 1) 9 inf (.string ⟨#[]⟩) 1 16 Tryz.underlying26 hi0 hz0 hz1 hz2 rfl (by decide) _ _ _ rfl (hoM.alloc _) ⟨w7.heap.size, 0, none⟩ 2 2 [.string untilW, .string (dateT un)] rfl rfl ?c1 ?c2 ?c3 ?c4 ?c5 ?_))
  case c1 => exact World.news_of_block (cs := #[.string untilW, .string (dateT un)]) (heap_alloc_new w7 _)
  case c2 => simp [Value.oneCell']
  case c3 => unfold maxLen; omega
  case c4 => omega
  case c5 => simp; omega
  intro v8 w8 hown8 hgrow _
  have hbG : Below (w.heap.size + 1) X w8 := (hb67.alloc (by omega) _).grown hgrow (by simp; omega) (fun k hk => own_base hoM hk)
  have HBG := hide hbG
  have HOW := hide hown8
  clear hbG hgrow hown8
  go_wp2
  go_ret
  refine ⟨_, rfl, ?_, hbX.trans (HBG.out.mono (by omega))⟩
  have h9 := own_lower (base' := w.heap.size) HOW.out (by omega)
  rw [HYS.out] at h9
  have e1 : (ps ++ sixW fr mn mi ++ [untilW, dateT un]).length = ps.length + 6 + 2 := by simp [sixW]
  have e2 : (ps ++ sixW fr mn mi ++ [untilW, dateT un]).map Value.string = List.map Value.string ps ++ [Value.string fromW, Value.string (dateT fr), Value.string atW, Value.string (minS mn), Value.string forW, Value.string (Txt.itoaS mi)] ++ [.string untilW, .string (dateT un)] := by simp [sixW]
  rw [e1, e2]
  exact h9

end Go.Proofs.YtjfkfiffakbagaaGreatDoor

/-
  The walks over the plain words of series and expand, and over the words of any rule.
-/
namespace Go.Proofs.YtjfkfiffakbagaaGreatDoor
open Go.RowKit

theorem own_fresh {B : Nat} (x : World) (xs : List ByteArray) (hB : B ≤ x.heap.size) (h0 : xs.length ≤ 160) : (x.alloc (.cells (xs.map Value.string).toArray 9)).ownsRow B 9 1 (.slice (some ⟨x.heap.size, 0, none⟩) xs.length xs.length) xs.length (xs.map Value.string) := by
  refine ⟨by simp, .inr ⟨x.heap.size, xs.length, (xs.map Value.string).toArray, rfl, hB, heap_alloc_new x _, Nat.le_refl _, by unfold maxLen; omega, by simp, ?_⟩⟩
  exact List.take_of_length_le (by simp)

theorem pace_any (pc ev : Int) (acc : List Int) (fr mn mi ti un : Int) (ps : List ByteArray) (hp : PaW pc ev acc ps) (w : World) (he : Env w) :
    Calls Tryz.prog 334 #[ruleV pc ev acc fr mn mi ti un] w fun e w' => WR w w' ps e := by
  cases hp with
  | daily ev acc e0 e1 => exact paceDaily ev acc fr mn mi ti un w he e0 e1
  | weekly ev acc e0 e1 hne hlen => exact paceWeekly ev acc fr mn mi ti un w he e0 e1 hne hlen
  | monthly ev acc e0 e1 => exact paceMonthly ev acc fr mn mi ti un w he e0 e1
theorem pace_len {pc ev : Int} {acc : List Int} {ps : List ByteArray} (hp : PaW pc ev acc ps) : ps.length ≤ 3 := by
  cases hp <;> simp
theorem rule_any (pc ev : Int) (acc : List Int) (fr mn mi ti un : Int) (xs : List ByteArray) (hr : RW pc ev acc fr mn mi ti un xs) (w : World) (he : Env w) :
    Calls Tryz.prog 333 #[ruleV pc ev acc fr mn mi ti un] w fun e w' => WR w w' xs e := by
  cases hr with
  | mk ps es hp hen f0 f1 m0 m1 i0 i1 =>
    cases hen with
    | times _ _ t0 t1 => exact ruleTimes ps pc ev acc fr mn mi ti un w he (pace_len hp) f0 f1 m0 m1 i0 i1 t0 t1 (fun x hx => pace_any pc ev acc fr mn mi ti un ps hp x hx)
    | til _ u0 u1 => exact ruleUntil ps pc ev acc fr mn mi un w he (pace_len hp) f0 f1 m0 m1 i0 i1 u0 u1 (fun x hx => pace_any pc ev acc fr mn mi 0 un ps hp x hx)
theorem rule_len {pc ev : Int} {acc : List Int} {fr mn mi ti un : Int} {xs : List ByteArray} (hr : RW pc ev acc fr mn mi ti un xs) : 0 < xs.length ∧ xs.length ≤ 11 := by
  cases hr with
  | mk ps es hp hen f0 f1 m0 m1 i0 i1 =>
    have h1 := pace_len hp
    have h2 : es.length = 2 := by cases hen <;> rfl
    simp [sixW, h2]; omega

set_option maxRecDepth 100000 in
set_option maxHeartbeats 4000000 in
theorem pExpand (pc ev : Int) (acc : List Int) (fr mn mi ti un : Int) (xs : List ByteArray) (hr : RW pc ev acc fr mn mi ti un xs) (w : World) (he : Env w) :
    Calls Tryz.prog 342 #[.agg #[.int .i64 pc, .int .i64 ev, .bool (isd acc 0), .bool (isd acc 1), .bool (isd acc 2), .bool (isd acc 3), .bool (isd acc 4), .bool (isd acc 5), .bool (isd acc 6), .int .i64 fr, .int .i64 mn, .int .i64 mi, .int .i64 ti, .int .i64 un]] w fun e w' => WR w w' ([expandW] ++ xs) e := by
  obtain ⟨inf, hi0, hz0, hz1, hz2⟩ := info_parts info9
  obtain ⟨hx0, hx1⟩ := rule_len hr
  have hrw := fun x hx => rule_any pc ev acc fr mn mi ti un xs hr x hx
  clear hr
  simp only [ruleV] at hrw
  go_enter Tryz.func342, Tryz.ntmps342
  go_wp2_with fail
  obtain ⟨X, hX⟩ : ∃ X, X = w.alloc (.cells #[.int .i64 pc, .int .i64 ev, .bool (isd acc 0), .bool (isd acc 1), .bool (isd acc 2), .bool (isd acc 3), .bool (isd acc 4), .bool (isd acc 5), .bool (isd acc 6), .int .i64 fr, .int .i64 mn, .int .i64 mi, .int .i64 ti, .int .i64 un] 174) := ⟨_, rfl⟩
  rw [← hX]
  have hbX : Below w.heap.size w X := by rw [hX]; exact (Below.refl _ _).alloc (Nat.le_refl _) _
  have hXs : X.heap.size = w.heap.size + 1 := by rw [hX]; simp
  clear hX
  obtain ⟨Y, hY⟩ : ∃ Y, Y = X.alloc (.cells #[.string ⟨#[101, 120, 112, 97, 110, 100]⟩] 9) := ⟨_, rfl⟩
  rw [← hY]
  have hbY : Below w.heap.size w Y := by rw [hY]; exact hbX.alloc (by omega) _
  have hoY : Y.ownsRow (w.heap.size + 1) 9 1 (.slice (some ⟨w.heap.size + 1, 0, none⟩) 1 1) 1 ([expandW].map Value.string) := by
    have h := own_fresh (B := w.heap.size + 1) X [expandW] (by omega) (by simp)
    rw [hXs] at h
    rw [hY]; exact h
  have hsY : Y.heap.size = w.heap.size + 2 := by rw [hY]; simp; omega
  clear hY
  refine (hrw Y (he.later hbY)).mono ?_
  rintro e w5 ⟨v2, rfl, ho2, hbf⟩
  obtain ⟨g2, cap2, rfl, hg2, hl2, hc2⟩ := own_form ho2 hx0
  have hoN := own_later hoY hbf
  have hb5 : Below w.heap.size w w5 := hbY.trans (hbf.mono (by omega))
  have hs5 := hbf.size
  clear hoY ho2 hbf
  go_wp2_with (first
    | (at_builtin; refine wpList_append_own _ rfl _ _ 26 rfl (w.heap.size + 1) 9 inf (.string ⟨#[]⟩) 1 16 Tryz.underlying26 hi0 hz0 hz1 hz2 rfl (by decide) _ _ _ rfl hoN ⟨g2, 0, none⟩ xs.length cap2 (xs.map Value.string) rfl (by simp) ?c1 ?c2 ?c3 ?c4 ?c5 ?_))
  case c1 => exact hc2
  case c2 => intro u hu; simp only [List.mem_map] at hu; obtain ⟨x, _, rfl⟩ := hu; rfl
  case c3 => unfold maxLen; omega
  case c4 => omega
  case c5 => omega
  intro v8 w8 hown8 hgrow _
  have hbG : Below w.heap.size w w8 := hb5.grown hgrow (by omega) (fun k hk => by have := own_base hoN hk; omega)
  have HBG := hide hbG
  have HOW := hide hown8
  clear hbG hgrow hown8 hoN
  go_wp2
  go_ret
  refine ⟨_, rfl, ?_, HBG.out⟩
  have h9 := own_lower (base' := w.heap.size) HOW.out (by omega)
  have e1 : (expandW :: xs).length = 1 + xs.length := by simp; omega
  rw [e1]
  exact h9

set_option maxRecDepth 100000 in
set_option maxHeartbeats 4000000 in
theorem pSeries (n : ByteArray) (u : Int) (pc ev : Int) (acc : List Int) (fr mn mi ti un : Int) (xs : List ByteArray) (hr : RW pc ev acc fr mn mi ti un xs) (w : World) (he : Env w) (u0 : 0 ≤ u) (u1 : u ≤ 9999999) :
    Calls Tryz.prog 332 #[.agg #[.string n, .int .i64 u, .int .i64 pc, .int .i64 ev, .bool (isd acc 0), .bool (isd acc 1), .bool (isd acc 2), .bool (isd acc 3), .bool (isd acc 4), .bool (isd acc 5), .bool (isd acc 6), .int .i64 fr, .int .i64 mn, .int .i64 mi, .int .i64 ti, .int .i64 un]] w fun e w' => WR w w' ([seriesW, n, Txt.itoaS u] ++ xs) e := by
  obtain ⟨inf, hi0, hz0, hz1, hz2⟩ := info_parts info9
  obtain ⟨hx0, hx1⟩ := rule_len hr
  have hrw := fun x hx => rule_any pc ev acc fr mn mi ti un xs hr x hx
  clear hr
  simp only [ruleV] at hrw
  go_enter Tryz.func332, Tryz.ntmps332
  go_wp2_with fail
  obtain ⟨X, hX⟩ : ∃ X, X = w.alloc (.cells #[.string n, .int .i64 u, .int .i64 pc, .int .i64 ev, .bool (isd acc 0), .bool (isd acc 1), .bool (isd acc 2), .bool (isd acc 3), .bool (isd acc 4), .bool (isd acc 5), .bool (isd acc 6), .int .i64 fr, .int .i64 mn, .int .i64 mi, .int .i64 ti, .int .i64 un] 159) := ⟨_, rfl⟩
  rw [← hX]
  have hbX : Below w.heap.size w X := by rw [hX]; exact (Below.refl _ _).alloc (Nat.le_refl _) _
  have eX := he.later hbX
  have hXs : w.heap.size + 1 ≤ X.heap.size := by rw [hX]; simp
  have hXs10 : 10 ≤ w.heap.size + 1 := by have := he.size; omega
  have x0 : X.cell? ⟨w.heap.size, 0, none⟩ = some (.string n) := by rw [hX]; simp
  have x1 : X.cell? ⟨w.heap.size, 1, none⟩ = some (.int .i64 u) := by rw [hX]; simp
  have x2 : X.cell? ⟨w.heap.size, 2, none⟩ = some (.int .i64 pc) := by rw [hX]; simp
  have x3 : X.cell? ⟨w.heap.size, 3, none⟩ = some (.int .i64 ev) := by rw [hX]; simp
  have x4 : X.cell? ⟨w.heap.size, 4, none⟩ = some (.bool (isd acc 0)) := by rw [hX]; simp
  have x5 : X.cell? ⟨w.heap.size, 5, none⟩ = some (.bool (isd acc 1)) := by rw [hX]; simp
  have x6 : X.cell? ⟨w.heap.size, 6, none⟩ = some (.bool (isd acc 2)) := by rw [hX]; simp
  have x7 : X.cell? ⟨w.heap.size, 7, none⟩ = some (.bool (isd acc 3)) := by rw [hX]; simp
  have x8 : X.cell? ⟨w.heap.size, 8, none⟩ = some (.bool (isd acc 4)) := by rw [hX]; simp
  have x9 : X.cell? ⟨w.heap.size, 9, none⟩ = some (.bool (isd acc 5)) := by rw [hX]; simp
  have x10 : X.cell? ⟨w.heap.size, 10, none⟩ = some (.bool (isd acc 6)) := by rw [hX]; simp
  have x11 : X.cell? ⟨w.heap.size, 11, none⟩ = some (.int .i64 fr) := by rw [hX]; simp
  have x12 : X.cell? ⟨w.heap.size, 12, none⟩ = some (.int .i64 mn) := by rw [hX]; simp
  have x13 : X.cell? ⟨w.heap.size, 13, none⟩ = some (.int .i64 mi) := by rw [hX]; simp
  have x14 : X.cell? ⟨w.heap.size, 14, none⟩ = some (.int .i64 ti) := by rw [hX]; simp
  have x15 : X.cell? ⟨w.heap.size, 15, none⟩ = some (.int .i64 un) := by rw [hX]; simp
  have bX := Below.refl (w.heap.size + 1) X
  clear hX he
  go_region_held3 (fun w' => Below (w.heap.size + 1) X w' ∧ w'.cell? ⟨w.heap.size, 0, none⟩ = some (.string n) ∧ w'.cell? ⟨w.heap.size, 1, none⟩ = some (.int .i64 u) ∧ w'.cell? ⟨w.heap.size, 2, none⟩ = some (.int .i64 pc) ∧ w'.cell? ⟨w.heap.size, 3, none⟩ = some (.int .i64 ev) ∧ w'.cell? ⟨w.heap.size, 4, none⟩ = some (.bool (isd acc 0)) ∧ w'.cell? ⟨w.heap.size, 5, none⟩ = some (.bool (isd acc 1)) ∧ w'.cell? ⟨w.heap.size, 6, none⟩ = some (.bool (isd acc 2)) ∧ w'.cell? ⟨w.heap.size, 7, none⟩ = some (.bool (isd acc 3)) ∧ w'.cell? ⟨w.heap.size, 8, none⟩ = some (.bool (isd acc 4)) ∧ w'.cell? ⟨w.heap.size, 9, none⟩ = some (.bool (isd acc 5)) ∧ w'.cell? ⟨w.heap.size, 10, none⟩ = some (.bool (isd acc 6)) ∧ w'.cell? ⟨w.heap.size, 11, none⟩ = some (.int .i64 fr) ∧ w'.cell? ⟨w.heap.size, 12, none⟩ = some (.int .i64 mn) ∧ w'.cell? ⟨w.heap.size, 13, none⟩ = some (.int .i64 mi) ∧ w'.cell? ⟨w.heap.size, 14, none⟩ = some (.int .i64 ti) ∧ w'.cell? ⟨w.heap.size, 15, none⟩ = some (.int .i64 un))
    (first
      | (go_split_ands; exact s_of (below_up hXs (by assumption) hbf) (fun hk => ⟨(hk.cell (p := ⟨w.heap.size, 0, none⟩) (by simp)).trans x0, (hk.cell (p := ⟨w.heap.size, 1, none⟩) (by simp)).trans x1, (hk.cell (p := ⟨w.heap.size, 2, none⟩) (by simp)).trans x2, (hk.cell (p := ⟨w.heap.size, 3, none⟩) (by simp)).trans x3, (hk.cell (p := ⟨w.heap.size, 4, none⟩) (by simp)).trans x4, (hk.cell (p := ⟨w.heap.size, 5, none⟩) (by simp)).trans x5, (hk.cell (p := ⟨w.heap.size, 6, none⟩) (by simp)).trans x6, (hk.cell (p := ⟨w.heap.size, 7, none⟩) (by simp)).trans x7, (hk.cell (p := ⟨w.heap.size, 8, none⟩) (by simp)).trans x8, (hk.cell (p := ⟨w.heap.size, 9, none⟩) (by simp)).trans x9, (hk.cell (p := ⟨w.heap.size, 10, none⟩) (by simp)).trans x10, (hk.cell (p := ⟨w.heap.size, 11, none⟩) (by simp)).trans x11, (hk.cell (p := ⟨w.heap.size, 12, none⟩) (by simp)).trans x12, (hk.cell (p := ⟨w.heap.size, 13, none⟩) (by simp)).trans x13, (hk.cell (p := ⟨w.heap.size, 14, none⟩) (by simp)).trans x14, (hk.cell (p := ⟨w.heap.size, 15, none⟩) (by simp)).trans x15⟩))
      | (go_split_ands; exact s_of (below_up hXs (by assumption) ((Below.refl _ _).alloc (Nat.le_refl _) _)) (fun hk => ⟨(hk.cell (p := ⟨w.heap.size, 0, none⟩) (by simp)).trans x0, (hk.cell (p := ⟨w.heap.size, 1, none⟩) (by simp)).trans x1, (hk.cell (p := ⟨w.heap.size, 2, none⟩) (by simp)).trans x2, (hk.cell (p := ⟨w.heap.size, 3, none⟩) (by simp)).trans x3, (hk.cell (p := ⟨w.heap.size, 4, none⟩) (by simp)).trans x4, (hk.cell (p := ⟨w.heap.size, 5, none⟩) (by simp)).trans x5, (hk.cell (p := ⟨w.heap.size, 6, none⟩) (by simp)).trans x6, (hk.cell (p := ⟨w.heap.size, 7, none⟩) (by simp)).trans x7, (hk.cell (p := ⟨w.heap.size, 8, none⟩) (by simp)).trans x8, (hk.cell (p := ⟨w.heap.size, 9, none⟩) (by simp)).trans x9, (hk.cell (p := ⟨w.heap.size, 10, none⟩) (by simp)).trans x10, (hk.cell (p := ⟨w.heap.size, 11, none⟩) (by simp)).trans x11, (hk.cell (p := ⟨w.heap.size, 12, none⟩) (by simp)).trans x12, (hk.cell (p := ⟨w.heap.size, 13, none⟩) (by simp)).trans x13, (hk.cell (p := ⟨w.heap.size, 14, none⟩) (by simp)).trans x14, (hk.cell (p := ⟨w.heap.size, 15, none⟩) (by simp)).trans x15⟩))
      | (go_split_ands; exact s_of (below_up hXs (by assumption) (below_drew _)) (fun hk => ⟨(hk.cell (p := ⟨w.heap.size, 0, none⟩) (by simp)).trans x0, (hk.cell (p := ⟨w.heap.size, 1, none⟩) (by simp)).trans x1, (hk.cell (p := ⟨w.heap.size, 2, none⟩) (by simp)).trans x2, (hk.cell (p := ⟨w.heap.size, 3, none⟩) (by simp)).trans x3, (hk.cell (p := ⟨w.heap.size, 4, none⟩) (by simp)).trans x4, (hk.cell (p := ⟨w.heap.size, 5, none⟩) (by simp)).trans x5, (hk.cell (p := ⟨w.heap.size, 6, none⟩) (by simp)).trans x6, (hk.cell (p := ⟨w.heap.size, 7, none⟩) (by simp)).trans x7, (hk.cell (p := ⟨w.heap.size, 8, none⟩) (by simp)).trans x8, (hk.cell (p := ⟨w.heap.size, 9, none⟩) (by simp)).trans x9, (hk.cell (p := ⟨w.heap.size, 10, none⟩) (by simp)).trans x10, (hk.cell (p := ⟨w.heap.size, 11, none⟩) (by simp)).trans x11, (hk.cell (p := ⟨w.heap.size, 12, none⟩) (by simp)).trans x12, (hk.cell (p := ⟨w.heap.size, 13, none⟩) (by simp)).trans x13, (hk.cell (p := ⟨w.heap.size, 14, none⟩) (by simp)).trans x14, (hk.cell (p := ⟨w.heap.size, 15, none⟩) (by simp)).trans x15⟩))
      | (go_split_ands; exact s_of (Below.grown (by assumption) hgrow (by (try simp); omega) (fun k hk => own_base hoN hk)) (fun hk => ⟨(hk.cell (p := ⟨w.heap.size, 0, none⟩) (by simp)).trans x0, (hk.cell (p := ⟨w.heap.size, 1, none⟩) (by simp)).trans x1, (hk.cell (p := ⟨w.heap.size, 2, none⟩) (by simp)).trans x2, (hk.cell (p := ⟨w.heap.size, 3, none⟩) (by simp)).trans x3, (hk.cell (p := ⟨w.heap.size, 4, none⟩) (by simp)).trans x4, (hk.cell (p := ⟨w.heap.size, 5, none⟩) (by simp)).trans x5, (hk.cell (p := ⟨w.heap.size, 6, none⟩) (by simp)).trans x6, (hk.cell (p := ⟨w.heap.size, 7, none⟩) (by simp)).trans x7, (hk.cell (p := ⟨w.heap.size, 8, none⟩) (by simp)).trans x8, (hk.cell (p := ⟨w.heap.size, 9, none⟩) (by simp)).trans x9, (hk.cell (p := ⟨w.heap.size, 10, none⟩) (by simp)).trans x10, (hk.cell (p := ⟨w.heap.size, 11, none⟩) (by simp)).trans x11, (hk.cell (p := ⟨w.heap.size, 12, none⟩) (by simp)).trans x12, (hk.cell (p := ⟨w.heap.size, 13, none⟩) (by simp)).trans x13, (hk.cell (p := ⟨w.heap.size, 14, none⟩) (by simp)).trans x14, (hk.cell (p := ⟨w.heap.size, 15, none⟩) (by simp)).trans x15⟩)))
    (first
      | (go_at_call 323
         go_split_ands
         refine (num_any u _ (eX.of10 hXs10 (by assumption)) (by omega) (by omega)).mono ?_
         rintro e w4 ⟨rfl, hbf⟩
         have hs4 := size_up (B := w.heap.size + 1) (x := X) (by assumption) hbf)
      | (go_at_call 333
         go_split_ands
         refine (hrw _ (eX.of10 hXs10 (by assumption))).mono ?_
         rintro e w5 ⟨v2, rfl, ho2, hbf⟩
         obtain ⟨g2, cap2, rfl, hg2, hl2, hc2⟩ := own_form ho2 hx0
         have hs5 := size_up (B := w.heap.size + 1) (x := X) (by assumption) hbf)
      | (have hoN := own_later (own_fresh (B := w.heap.size + 1) w4 [seriesW, n, Txt.itoaS u] (by omega) (by simp)) hbf
         (refine step_append_lies _ (by rfl) _ _ _ (by rfl) (w.heap.size + 1) 9 inf _ 1 16 Tryz.underlying26 hi0 hz0 hz1 hz2 rfl (by omega) (.slice (some ⟨w4.heap.size, 0, none⟩) 3 3) 3 ([seriesW, n, Txt.itoaS u].map Value.string) (by rfl) hoN ⟨g2, 0, none⟩ xs.length cap2 (xs.map Value.string) (by rfl) (by simp) hc2 (by intro u hu; simp only [List.mem_map] at hu; obtain ⟨x, _, rfl⟩ := hu; rfl) (by omega) (by unfold maxLen; omega) (by omega) (by (try simp); omega) w5.heap.size (by simp) ?_; intro g cap w6 hown6 hgrow hat hltg))
      | (have hoN := own_fresh (B := w.heap.size + 1) w5 [seriesW, n, Txt.itoaS u] (by omega) (by simp)
         obtain ⟨g3, cap3, e3, _, _, hc3⟩ := own_form (ho2.alloc (.cells ([seriesW, n, Txt.itoaS u].map Value.string).toArray 9)) hx0
         cases e3
         (refine step_append_lies _ (by rfl) _ _ _ (by rfl) (w.heap.size + 1) 9 inf _ 1 16 Tryz.underlying26 hi0 hz0 hz1 hz2 rfl (by omega) (.slice (some ⟨w5.heap.size, 0, none⟩) 3 3) 3 ([seriesW, n, Txt.itoaS u].map Value.string) (by rfl) hoN ⟨g2, 0, none⟩ xs.length cap2 (xs.map Value.string) (by rfl) (by simp) hc3 (by intro u hu; simp only [List.mem_map] at hu; obtain ⟨x, _, rfl⟩ := hu; rfl) (by omega) (by unfold maxLen; omega) (by omega) (by (try simp); omega) (w5.heap.size + 1) (by simp) ?_; intro g cap w6 hown6 hgrow hat hltg)))
  all_goals
    go_split_ands
    have hbE : Below (w.heap.size + 1) X w6 := by assumption
    have HBE := hide hbE
    have HOW := hide hown6
    clear hbE hown6
    go_wp2
    go_ret
    refine ⟨_, rfl, ?_, hbX.trans (HBE.out.mono (by omega))⟩
    have h9 := own_lower (base' := w.heap.size) HOW.out (by omega)
    have e1 : (seriesW :: n :: Txt.itoaS u :: xs).length = 3 + xs.length := by simp; omega
    rw [e1]
    exact h9

end Go.Proofs.YtjfkfiffakbagaaGreatDoor

/-
  The walk over lines.Plain, at every line that was read.
-/
namespace Go.Proofs.YtjfkfiffakbagaaGreatDoor
open Go.RowKit

set_option maxRecDepth 100000 in
set_option maxHeartbeats 2000000 in
/-- A line of any type whose method is known by its contract. -/
theorem plain_of (T K : Nat) (x : Value) (xs : List ByteArray) (w : World) (he : Env w) (hm : ∀ w : World, (method 494 T x "bookings/lines.plainWords").run Tryz.prog w = .ok (K, x) w) (hk : ∀ w : World, (callFunc K #[x]).run Tryz.prog w = .ok (.enter K #[x]) w)
    (hc : ∀ w : World, Env w → Calls Tryz.prog K #[x] w fun e w' => WR w w' xs e) (h0 : 0 < xs.length) (h1 : xs.length ≤ 20) (hlen : (Lib.join (xs.map (·.data.toList)) [32]).length ≤ 30000) :
    Calls Tryz.prog 113 #[.iface T x] w fun e w' => e = .returned (.string (jn xs)) ∧ Below w.heap.size w w' := by
  have HE := hide he
  have HC := hide hc
  have HLEN := hide hlen
  clear he hc hlen
  go_enter Tryz.func113, Tryz.ntmps113
  go_wp2_with fail
  refine (unhide HC w (unhide HE)).mono ?_
  rintro e w1 ⟨v, rfl, ho, hb1⟩
  obtain ⟨a, c, g, rfl, hrow⟩ := row_of_own ho rfl
  obtain rfl := hrow.at_ h0
  have HROW := hide hrow
  have hcap : xs.length ≤ c := by
    rcases ho.2 with ⟨h, _⟩ | ⟨g', cap, cur, hv, _, _, hc, _⟩
    · cases h
    · cases hv; exact hc
  have hgl : g < w1.heap.size := World.block_lt_of_cell? _ ⟨g, 0, none⟩ (hrow.cells 0 h0)
  clear ho hrow
  go_wp2_with fail
  refine (Tryz.strings_Join g 0 c xs ⟨#[32]⟩ w1 (fun j x hx => ?_) hgl (by omega) hcap (Nat.le_trans (unhide HLEN) (by omega))).mono ?_
  · obtain ⟨hj, e⟩ := List.getElem?_eq_some_iff.1 hx
    have := (unhide HROW).cells j hj
    rw [e] at this
    rw [Nat.zero_add]; exact this
  rintro e w' ⟨rfl, hbj⟩
  have hbe := below_more hb1 hbj
  go_wp2
  go_ret
  exact ⟨rfl, hbe⟩

/-- A text that is written by joining is as long as its list. -/
theorem jn_size (xs : List ByteArray) : (Lib.join (xs.map (·.data.toList)) [32]).length = (jn xs).size := by
  rw [← Txt.len_list]; rfl

theorem plain_any (v : Value) (xs : List ByteArray) (hp : PW v xs) (w : World) (he : Env w) (h0 : 0 < xs.length) (h1 : xs.length ≤ 20) (hs : (jn xs).size ≤ 30000) :
    Calls Tryz.prog 113 #[v] w fun e w' => e = .returned (.string (jn xs)) ∧ Below w.heap.size w w' := by
  rw [← jn_size] at hs
  cases hp with
  | thing n u u0 u1 => exact plain_of 143 322 _ _ w he (fun _ => by kernel_rfl) (fun _ => by kernel_rfl) (fun w he => pThing n u w he u0 u1) h0 h1 hs
  | book n u a b u0 u1 a0 a1 b0 b1 => exact plain_of 148 324 _ _ w he (fun _ => by kernel_rfl) (fun _ => by kernel_rfl) (fun w he => pBook n u a b w he u0 u1 a0 a1 b0 b1) h0 h1 hs
  | hold n u a b m u0 u1 a0 a1 b0 b1 m0 m1 => exact plain_of 150 330 _ _ w he (fun _ => by kernel_rfl) (fun _ => by kernel_rfl) (fun w he => pHold n u a b m w he u0 u1 a0 a1 b0 b1 m0 m1) h0 h1 hs
  | wait n u a b m u0 u1 a0 a1 b0 b1 m0 m1 => exact plain_of 151 331 _ _ w he (fun _ => by kernel_rfl) (fun _ => by kernel_rfl) (fun w he => pWait n u a b m w he u0 u1 a0 a1 b0 b1 m0 m1) h0 h1 hs
  | series n u pc ev acc fr mn mi ti un xs u0 u1 hr => exact plain_of 159 332 _ _ w he (fun _ => by kernel_rfl) (fun _ => by kernel_rfl) (fun w he => pSeries n u pc ev acc fr mn mi ti un xs hr w he u0 u1) h0 h1 hs
  | confirm u u0 u1 => exact plain_of 161 336 _ _ w he (fun _ => by kernel_rfl) (fun _ => by kernel_rfl) (fun w he => pConfirm u w he u0 u1) h0 h1 hs
  | cancel u u0 u1 => exact plain_of 162 337 _ _ w he (fun _ => by kernel_rfl) (fun _ => by kernel_rfl) (fun w he => pCancel u w he u0 u1) h0 h1 hs
  | list0 n a b => exact plain_of 164 338 _ _ w he (fun _ => by kernel_rfl) (fun _ => by kernel_rfl) (fun w he => pList0 n a b w) h0 h1 hs
  | list1 n a b a0 a1 b0 b1 => exact plain_of 164 338 _ _ w he (fun _ => by kernel_rfl) (fun _ => by kernel_rfl) (fun w he => pList1 n a b w he a0 a1 b0 b1) h0 h1 hs
  | waiting => exact plain_of 167 339 _ _ w he (fun _ => by kernel_rfl) (fun _ => by kernel_rfl) (fun w he => pWaiting w) h0 h1 hs
  | peak n a b a0 a1 b0 b1 => exact plain_of 170 340 _ _ w he (fun _ => by kernel_rfl) (fun _ => by kernel_rfl) (fun w he => pPeak n a b w he a0 a1 b0 b1) h0 h1 hs
  | find n u m a b u0 u1 m0 m1 a0 a1 b0 b1 => exact plain_of 172 341 _ _ w he (fun _ => by kernel_rfl) (fun _ => by kernel_rfl) (fun w he => pFind n u m a b w he u0 u1 m0 m1 a0 a1 b0 b1) h0 h1 hs
  | expand pc ev acc fr mn mi ti un xs hr => exact plain_of 174 342 _ _ w he (fun _ => by kernel_rfl) (fun _ => by kernel_rfl) (fun w he => pExpand pc ev acc fr mn mi ti un xs hr w he) h0 h1 hs
  | tick u u0 u1 => exact plain_of 176 343 _ _ w he (fun _ => by kernel_rfl) (fun _ => by kernel_rfl) (fun w he => pTick u w he u0 u1) h0 h1 hs
  | clock => exact plain_of 177 344 _ _ w he (fun _ => by kernel_rfl) (fun _ => by kernel_rfl) (fun w he => pClock w) h0 h1 hs

end Go.Proofs.YtjfkfiffakbagaaGreatDoor
