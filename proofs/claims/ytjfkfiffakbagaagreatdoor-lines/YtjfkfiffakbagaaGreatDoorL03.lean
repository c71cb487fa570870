/-
  Parts of the proof, one behind the other: TimeWalks, Fields, Words, SplitWalks, OnTxt, OnWalks.
-/
import Derived.Test.YtjfkfiffakbagaaGreatDoorL02
import Derived.Lib.FieldsP
import Derived.Lib.Split
import Derived.Lib.SplitLaws
/-
  The walks over the readers of times, both sides.
-/
namespace Go.Proofs.YtjfkfiffakbagaaGreatDoor
open Go.RowKit

/-- TIME -/
def timeV (s : ByteArray) : Int := if Txt.isNum s.data.toList then Txt.numV s.data.toList else Txt.dmV s
def timeB (s : ByteArray) : Bool := (Txt.isNum s.data.toList || Txt.dmB s) && decide (0 ≤ timeV s ∧ timeV s ≤ 1048320)
def timW (s : ByteArray) : Int := if timeB s then timeV s else 0
def timR (s : ByteArray) : Int := if timeB s then timeV s else -1

theorem cutA_size (s : ByteArray) (h : s.size ≤ 160) : (Txt.cutA s).size ≤ 160 := by
  rw [← Txt.len_list]; unfold Txt.cutA Lib.cut
  have := Txt.len_list s
  split <;> simp <;> omega
theorem cutB_size (s : ByteArray) (h : s.size ≤ 160) : (Txt.cutB s).size ≤ 160 := by
  rw [← Txt.len_list]; unfold Txt.cutB Lib.cut
  have := Txt.len_list s
  split <;> simp <;> omega

set_option maxHeartbeats 1000000 in
theorem readDayAndMinute_any (s : ByteArray) (w : World) (he : Env w) (hm : s.size ≤ 160) :
    Calls Tryz.prog 188 #[.string s] w fun e w' => e = .returned (.tuple #[.int .i64 (Txt.dmV s), .bool (Txt.dmB s)]) ∧ ∃ n, w' = w.drewN n := by
  obtain ⟨m, hmx⟩ := he.maxl
  have HE := hide he
  have HC := hide (Txt.cut_dm s)
  have b1 := Txt.dateV_bd (Txt.cutA s)
  have b2 := Txt.minV_bd (Txt.cutB s)
  have hA : (Txt.cutA s).size ≤ maxLen := by have := cutA_size s hm; unfold maxLen; omega
  have hB : (Txt.cutB s).size ≤ maxLen := by have := cutB_size s hm; unfold maxLen; omega
  have HA := hide hA
  have HB := hide hB
  clear he hA hB
  cases hf : Txt.cutF s
  · have HD : Hid (Txt.dmB s = false) := by show Txt.dmB s = false; rw [← (unhide HC).1, hf]; rfl
    go_enter Tryz.func188, Tryz.ntmps188
    go_wp2_with fail
    refine (Tryz.strings_Cut s ⟨#[47]⟩ m w (by omega) hmx).mono ?_
    rintro e w1 ⟨rfl, n, rfl⟩
    rw [show (Lib.cut s.data.toList (ByteArray.mk #[47]).data.toList).snd.snd = Txt.cutF s from rfl]
    go_wp2
    go_ret2
    exact ⟨ret2_ib (by simp [Txt.dmV, HD.out]) (by rw [HD.out]), _, rfl⟩
  · cases hd : Txt.dateB (Txt.cutA s)
    · have HD : Hid (Txt.dmB s = false) := by show Txt.dmB s = false; rw [← (unhide HC).1, hf, hd]; rfl
      go_enter Tryz.func188, Tryz.ntmps188
      go_wp2_with fail
      refine (Tryz.strings_Cut s ⟨#[47]⟩ m w (by omega) hmx).mono ?_
      rintro e w1 ⟨rfl, n, rfl⟩
      rw [show (Lib.cut s.data.toList (ByteArray.mk #[47]).data.toList).snd.snd = Txt.cutF s from rfl, show (ByteArray.mk (Lib.cut s.data.toList (ByteArray.mk #[47]).data.toList).fst.toArray) = Txt.cutA s from rfl, show (ByteArray.mk (Lib.cut s.data.toList (ByteArray.mk #[47]).data.toList).snd.fst.toArray) = Txt.cutB s from rfl]
      go_wp2_with fail
      refine (readAnyDate_any (Txt.cutA s) _ ((unhide HE).drewN n).tab (unhide HA)).mono ?_
      rintro e w1 ⟨rfl, rfl⟩
      go_wp2_with fail
      refine (readMinute_any (Txt.cutB s) _ (unhide HB)).mono ?_
      rintro e w1 ⟨rfl, rfl⟩
      go_wp2
      go_ret2
      exact ⟨ret2_ib (by simp [Txt.dmV, HD.out]) (by rw [HD.out]), _, rfl⟩
    · cases hn : Txt.minB (Txt.cutB s)
      · have HD : Hid (Txt.dmB s = false) := by show Txt.dmB s = false; rw [← (unhide HC).1, hf, hd, hn]; rfl
        go_enter Tryz.func188, Tryz.ntmps188
        go_wp2_with fail
        refine (Tryz.strings_Cut s ⟨#[47]⟩ m w (by omega) hmx).mono ?_
        rintro e w1 ⟨rfl, n, rfl⟩
        rw [show (Lib.cut s.data.toList (ByteArray.mk #[47]).data.toList).snd.snd = Txt.cutF s from rfl, show (ByteArray.mk (Lib.cut s.data.toList (ByteArray.mk #[47]).data.toList).fst.toArray) = Txt.cutA s from rfl, show (ByteArray.mk (Lib.cut s.data.toList (ByteArray.mk #[47]).data.toList).snd.fst.toArray) = Txt.cutB s from rfl]
        go_wp2_with fail
        refine (readAnyDate_any (Txt.cutA s) _ ((unhide HE).drewN n).tab (unhide HA)).mono ?_
        rintro e w1 ⟨rfl, rfl⟩
        go_wp2_with fail
        refine (readMinute_any (Txt.cutB s) _ (unhide HB)).mono ?_
        rintro e w1 ⟨rfl, rfl⟩
        go_wp2
        go_ret2
        exact ⟨ret2_ib (by simp [Txt.dmV, HD.out]) (by rw [HD.out]), _, rfl⟩
      · have HD : Hid (Txt.dmB s = true) := by show Txt.dmB s = true; rw [← (unhide HC).1, hf, hd, hn]; rfl
        have HV := hide ((unhide HC).2 HD.out)
        go_enter Tryz.func188, Tryz.ntmps188
        go_wp2_with fail
        refine (Tryz.strings_Cut s ⟨#[47]⟩ m w (by omega) hmx).mono ?_
        rintro e w1 ⟨rfl, n, rfl⟩
        rw [show (Lib.cut s.data.toList (ByteArray.mk #[47]).data.toList).snd.snd = Txt.cutF s from rfl, show (ByteArray.mk (Lib.cut s.data.toList (ByteArray.mk #[47]).data.toList).fst.toArray) = Txt.cutA s from rfl, show (ByteArray.mk (Lib.cut s.data.toList (ByteArray.mk #[47]).data.toList).snd.fst.toArray) = Txt.cutB s from rfl]
        go_wp2_with fail
        refine (readAnyDate_any (Txt.cutA s) _ ((unhide HE).drewN n).tab (unhide HA)).mono ?_
        rintro e w1 ⟨rfl, rfl⟩
        go_wp2_with fail
        refine (readMinute_any (Txt.cutB s) _ (unhide HB)).mono ?_
        rintro e w1 ⟨rfl, rfl⟩
        go_wp2
        go_ret2
        exact ⟨ret2_ib (unhide HV) (by rw [HD.out]), _, rfl⟩

theorem timeB_num {s : ByteArray} (h : Txt.isNum s.data.toList = true) : timeB s = decide (Txt.numV s.data.toList ≤ 1048320) ∧ timeV s = Txt.numV s.data.toList := by
  have b := Txt.numV_bd s.data.toList
  have e : timeV s = Txt.numV s.data.toList := by simp [timeV, h]
  refine ⟨?_, e⟩
  unfold timeB; rw [e, h, Bool.eq_iff_iff]; simp; omega
theorem timeB_dm {s : ByteArray} (h : Txt.isNum s.data.toList = false) : timeB s = (Txt.dmB s && decide (0 ≤ Txt.dmV s ∧ Txt.dmV s ≤ 1048320)) ∧ timeV s = Txt.dmV s := by
  have e : timeV s = Txt.dmV s := by simp [timeV, h]
  exact ⟨by unfold timeB; rw [e, h]; rfl, e⟩

set_option maxHeartbeats 1000000 in
theorem readTime_any (s : ByteArray) (w : World) (he : Env w) (hm : s.size ≤ 160) :
    Calls Tryz.prog 137 #[.string s] w fun e w' => e = .returned (.tuple #[.int .i64 (timW s), .bool (timeB s)]) ∧ ∃ n, w' = w.drewN n := by
  have HE := hide he
  have hm' : s.size ≤ maxLen := by unfold maxLen; omega
  clear he
  cases hn : Txt.isNum s.data.toList
  · have HT := hide (timeB_dm hn)
    cases hd : Txt.dmB s
    · have HB : Hid (timeB s = false) := by show timeB s = false; rw [(unhide HT).1, hd]; rfl
      go_enter Tryz.func137, Tryz.ntmps137
      go_wp2_with fail
      refine (readNum_any s w hm').mono ?_
      rintro e w' ⟨rfl, rfl⟩
      go_wp2_with fail
      refine (readDayAndMinute_any s _ (unhide HE) hm).mono ?_
      rintro e w1 ⟨rfl, n, rfl⟩
      go_wp2
      go_ret2
      exact ⟨ret2_ib (by simp [timW, HB.out]) (by rw [HB.out]), _, rfl⟩
    · have hcase : Txt.dmV s < 0 ∨ (¬ Txt.dmV s < 0 ∧ 1048320 < Txt.dmV s) ∨ (¬ Txt.dmV s < 0 ∧ ¬ 1048320 < Txt.dmV s) := by omega
      rcases hcase with g | ⟨g, g'⟩ | ⟨g, g'⟩
      · have HB : Hid (timeB s = false) := by show timeB s = false; rw [(unhide HT).1, hd, decide_eq_false (by omega)]; rfl
        go_enter Tryz.func137, Tryz.ntmps137
        go_wp2_with fail
        refine (readNum_any s w hm').mono ?_
        rintro e w' ⟨rfl, rfl⟩
        go_wp2_with fail
        refine (readDayAndMinute_any s _ (unhide HE) hm).mono ?_
        rintro e w1 ⟨rfl, n, rfl⟩
        go_wp2
        go_ret2
        exact ⟨ret2_ib (by simp [timW, HB.out]) (by rw [HB.out]), _, rfl⟩
      · have HB : Hid (timeB s = false) := by show timeB s = false; rw [(unhide HT).1, hd, decide_eq_false (by omega)]; rfl
        go_enter Tryz.func137, Tryz.ntmps137
        go_wp2_with fail
        refine (readNum_any s w hm').mono ?_
        rintro e w' ⟨rfl, rfl⟩
        go_wp2_with fail
        refine (readDayAndMinute_any s _ (unhide HE) hm).mono ?_
        rintro e w1 ⟨rfl, n, rfl⟩
        go_wp2
        go_ret2
        exact ⟨ret2_ib (by simp [timW, HB.out]) (by rw [HB.out]), _, rfl⟩
      · have HB : Hid (timeB s = true) := by show timeB s = true; rw [(unhide HT).1, hd, decide_eq_true (by omega)]; rfl
        have HV := hide (unhide HT).2
        go_enter Tryz.func137, Tryz.ntmps137
        go_wp2_with fail
        refine (readNum_any s w hm').mono ?_
        rintro e w' ⟨rfl, rfl⟩
        go_wp2_with fail
        refine (readDayAndMinute_any s _ (unhide HE) hm).mono ?_
        rintro e w1 ⟨rfl, n, rfl⟩
        go_wp2
        go_ret2
        exact ⟨ret2_ib (by simp [timW, HB.out, unhide HV]) (by rw [HB.out]), _, rfl⟩
  · have HT := hide (timeB_num hn)
    have b := Txt.numV_bd s.data.toList
    by_cases g : 1048320 < Txt.numV s.data.toList
    · have HB : Hid (timeB s = false) := by show timeB s = false; rw [(unhide HT).1, decide_eq_false (by omega)]
      go_enter Tryz.func137, Tryz.ntmps137
      go_wp2_with fail
      refine (readNum_any s w hm').mono ?_
      rintro e w' ⟨rfl, rfl⟩
      go_wp2
      go_ret2
      exact ⟨ret2_ib (by simp [timW, HB.out]) (by rw [HB.out]), 0, rfl⟩
    · have HB : Hid (timeB s = true) := by show timeB s = true; rw [(unhide HT).1, decide_eq_true (by omega)]
      have HV := hide (unhide HT).2
      go_enter Tryz.func137, Tryz.ntmps137
      go_wp2_with fail
      refine (readNum_any s w hm').mono ?_
      rintro e w' ⟨rfl, rfl⟩
      go_wp2
      go_ret2
      exact ⟨ret2_ib (by simp [timW, HB.out, unhide HV]) (by rw [HB.out]), 0, rfl⟩

theorem dm_size {s : ByteArray} (h : s.size = 16) : Txt.isNum s.data.toList = false := Txt.isNum_len (by rw [Txt.len_list]; omega)
theorem timR_dm {s : ByteArray} (hs : s.size = 16) (hb : Txt.byteAt s 10 = 47) : timR s = if datR (s.extract 0 10) < 0 ∨ clkR (s.extract 11 16) < 0 ∨ 1048320 < 1440 * datR (s.extract 0 10) + clkR (s.extract 11 16) then -1 else 1440 * datR (s.extract 0 10) + clkR (s.extract 11 16) := by
  have ⟨e1, e2⟩ := timeB_dm (dm_size hs)
  have bm := Txt.minV_bd (s.extract 11 16)
  have bd := Txt.dateV_bd (s.extract 0 10)
  have hdm : Txt.dmB s = (Txt.dateB (s.extract 0 10) && Txt.minB (s.extract 11 16)) := by
    rw [Bool.eq_iff_iff]; simp [Txt.dmB, hs, hb]
  unfold timR
  rw [e1, e2, Txt.dmV, hdm]
  cases hd : Txt.dateB (s.extract 0 10)
  · rw [datR_false hd]; simp
  · cases hn : Txt.minB (s.extract 11 16)
    · rw [clkR_false hn]; simp
    · have ec : clkR (s.extract 11 16) = Txt.minV (s.extract 11 16) := by simp [clkR, hn]
      simp only [Bool.and_self, Bool.true_and, if_true, ec, decide_eq_true_eq]
      by_cases g : 0 ≤ Txt.dateV (s.extract 0 10) ∧ Txt.dateV (s.extract 0 10) ≤ 728
      · have ed : datR (s.extract 0 10) = Txt.dateV (s.extract 0 10) := by simp [datR, hd, g]
        rw [ed]
        by_cases q : Txt.dateV (s.extract 0 10) * 1440 + Txt.minV (s.extract 11 16) ≤ 1048320
        · rw [if_pos (by omega), if_neg (by omega)]; omega
        · rw [if_neg (by omega), if_pos (by omega)]
      · have ed : datR (s.extract 0 10) = -1 := by unfold datR; rw [if_neg (fun h => g h.2)]
        rw [ed, if_neg (by omega), if_pos (by omega)]
theorem timR_num {s : ByteArray} (h : ¬ (s.size = 16 ∧ Txt.byteAt s 10 = 47)) : timR s = if 1048320 < numR s 1 7 then -1 else numR s 1 7 := by
  have hdm : Txt.dmB s = false := by
    cases hd : Txt.dmB s
    · rfl
    · have := of_decide_eq_true hd; exact absurd ⟨this.1, this.2.1⟩ h
  rw [numR_num]
  cases hn : Txt.isNum s.data.toList
  · have ⟨e1, e2⟩ := timeB_dm hn
    unfold timR; rw [e1, hdm]; simp
  · have ⟨e1, e2⟩ := timeB_num hn
    unfold timR; rw [e1, e2]
    by_cases g : Txt.numV s.data.toList ≤ 1048320
    · rw [decide_eq_true g]; simp; omega
    · rw [decide_eq_false g]; simp; omega

set_option maxHeartbeats 1000000 in
theorem timed_any (s : ByteArray) (w : World) (hm : s.size ≤ 160) :
    Calls Tryz.prog 124 #[.string s] w fun e w' => e = .returned (.int .i64 (timR s)) ∧ Below w.heap.size w w' := by
  by_cases hs : s.size = 16
  · have h5 : ((s.size : Int) == 16) = true := beq_iff_eq.2 (by omega)
    have h2n : 10 < s.size := by omega
    have h6 : (10 : Int) < (s.size : Int) := by omega
    have h7 : (11 : Int) ≤ (s.size : Int) := by omega
    by_cases hb : Txt.byteAt s 10 = 47
    · have hc : (((s[10]'h2n).toNat : Int) == 47) = true := beq_iff_eq.2 (by rw [← Txt.byteAt_eq]; exact hb)
      have HR := hide (timR_dm hs hb)
      have hx : ∃ x y : Int, datR (s.extract 0 10) = x ∧ clkR (s.extract 11 16) = y := ⟨_, _, rfl, rfl⟩
      obtain ⟨x, y, hx, hy⟩ := hx
      have bx : -1 ≤ x ∧ x ≤ 728 := by rw [← hx, datR]; split <;> omega
      have by' : -1 ≤ y ∧ y ≤ 1439 := by have := Txt.minV_bd (s.extract 11 16); rw [← hy, clkR]; split <;> omega
      have HX := hide hx
      have HY : Hid (clkR (s.extract 11 s.size) = y) := by show clkR (s.extract 11 s.size) = y; rw [hs]; exact hy
      have HQ : Hid (timR s = if x < 0 ∨ y < 0 ∨ 1048320 < 1440 * x + y then -1 else 1440 * x + y) := by
        show timR s = _
        rw [unhide HR, hx, hy]
      clear hx hy hs hb HR
      have hcase : x < 0 ∨ (¬ x < 0 ∧ y < 0) ∨ (¬ x < 0 ∧ ¬ y < 0 ∧ 1048320 < 1440 * x + y) ∨ (¬ x < 0 ∧ ¬ y < 0 ∧ ¬ 1048320 < 1440 * x + y) := by omega
      rcases hcase with g | ⟨g, g'⟩ | ⟨g, g', g''⟩ | ⟨g, g', g''⟩
      all_goals
        go_enter Tryz.func124, Tryz.ntmps124
        go_wp2_with fail
        refine (dated_word (s.extract 0 10) _ (size_ext' _ _ _ hm)).mono ?_
        rintro e w1 ⟨rfl, hb1⟩
        rw [unhide HX]
        go_wp2_with fail
        refine (clocked_any (s.extract 11 s.size) _ (size_ext' _ _ _ hm)).mono ?_
        rintro e w2 ⟨rfl, hb2⟩
        rw [HY.out]
        have hbb := hb1.trans (hb2.mono hb1.size)
        go_wp2
        go_ret
        refine ⟨ret_int ?_, hbb⟩
        rw [HQ.out]
        first | rw [if_pos (by omega)] | rw [if_neg (by omega)]
    · have hc : (((s[10]'h2n).toNat : Int) == 47) = false := beq_eq_false_iff_ne.2 (by rw [← Txt.byteAt_eq]; exact hb)
      have HR := hide (timR_num (s := s) (by omega))
      clear hs hb
      have hx : ∃ x : Int, numR s 1 7 = x := ⟨_, rfl⟩
      obtain ⟨x, hx⟩ := hx
      have HX := hide hx
      have HQ : Hid (timR s = if 1048320 < x then -1 else x) := by
        show timR s = _
        rw [unhide HR, hx]
      clear hx HR
      by_cases g : 1048320 < x
      all_goals
        go_enter Tryz.func124, Tryz.ntmps124
        go_wp2_with fail
        refine (number_any s 1 7 _ hm (by omega) (by omega)).mono ?_
        rintro e w1 ⟨rfl, hb1⟩
        rw [unhide HX]
        go_wp2
        go_ret
        refine ⟨ret_int ?_, hb1⟩
        rw [HQ.out]
        first | rw [if_pos (by omega)] | rw [if_neg (by omega)]
  · have h5 : ((s.size : Int) == 16) = false := beq_eq_false_iff_ne.2 (by omega)
    have HR := hide (timR_num (s := s) (by omega))
    clear hs
    have hx : ∃ x : Int, numR s 1 7 = x := ⟨_, rfl⟩
    obtain ⟨x, hx⟩ := hx
    have HX := hide hx
    have HQ : Hid (timR s = if 1048320 < x then -1 else x) := by
      show timR s = _
      rw [unhide HR, hx]
    clear hx HR
    by_cases g : 1048320 < x
    all_goals
      go_enter Tryz.func124, Tryz.ntmps124
      go_wp2_with fail
      refine (number_any s 1 7 _ hm (by omega) (by omega)).mono ?_
      rintro e w1 ⟨rfl, hb1⟩
      rw [unhide HX]
      go_wp2
      go_ret
      refine ⟨ret_int ?_, hb1⟩
      rw [HQ.out]
      first | rw [if_pos (by omega)] | rw [if_neg (by omega)]

end Go.Proofs.YtjfkfiffakbagaaGreatDoor

/-
  The plain mathematics of splitting a text into words: by runes (as the library's FieldsFunc goes) and by bytes: the same words.
-/
namespace Go.Proofs.YtjfkfiffakbagaaGreatDoor.Txt
open Go

/-- One byte more: the spans that are closed, and where the open one began. -/
def spStep (b : Bool) (pos : Nat) (x : List (Nat × Nat) × Option Nat) : List (Nat × Nat) × Option Nat :=
  if b then (match x.2 with | some a => (x.1 ++ [(a, pos)], none) | none => (x.1, none)) else (x.1, some (x.2.getD pos))
def spK (s : ByteArray) : Nat → List (Nat × Nat) × Option Nat
  | 0 => ([], none)
  | k + 1 => spStep (decide (byteAt s k = 32)) k (spK s k)
/-- The words of a text. -/
def wordsS (s : ByteArray) : List ByteArray := (Lib.closeSpans s (spK s s.size)).map fun x => s.extract x.1 x.2

theorem get_byteAt (s : ByteArray) (i : Nat) (h : i < s.size) : (s.get! i).toNat = (byteAt s i).toNat := by
  unfold byteAt
  rw [List.getD_eq_getElem?_getD, List.getElem?_eq_getElem (by simpa using h)]
  simp only [Option.getD_some, Int.toNat_natCast]
  congr 1
  cases s with
  | mk a => simp only [ByteArray.get!]; rw [getElem!_pos a i h]; simp

theorem get_size (s : ByteArray) (i : Nat) (h : ¬ i < s.size) : (s.get! i).toNat = 0 := by
  cases s with
  | mk a => simp only [ByteArray.get!]; rw [getElem!_neg a i h]; rfl

/-- What is read at a place: a byte below 128, or a rune from 128 on whose bytes all are from 128 on. -/
theorem decode_bytes (s : ByteArray) (i : Nat) (h : i < s.size) :
    ((s.get! i).toNat < 128 ∧ Utf8.decode s i = ((s.get! i).toNat, 1)) ∨
    (128 ≤ (Utf8.decode s i).1 ∧ 1 ≤ (Utf8.decode s i).2 ∧ ∀ j, j < (Utf8.decode s i).2 → 128 ≤ (s.get! (i + j)).toNat ∧ i + j < s.size) := by
  unfold Utf8.decode
  simp only [Nat.add_zero]
  by_cases h0 : (s.get! i).toNat < 128
  · left; exact ⟨h0, by rw [if_pos (by omega)]⟩
  · right
    rw [if_neg (by omega)]
    have one : ∀ j, j < 1 → 128 ≤ (s.get! (i + j)).toNat ∧ i + j < s.size := fun j hj => by
      obtain rfl : j = 0 := by omega
      exact ⟨by simpa using h0, by omega⟩
    split
    · rename_i hc
      simp only [Bool.and_eq_true, decide_eq_true_eq, beq_iff_eq] at hc
      split
      · refine ⟨by simp only; omega, by simp, fun j hj => ?_⟩
        simp only at hj
        rcases (show j = 0 ∨ j = 1 by omega) with rfl | rfl
        · exact one 0 (by omega)
        · exact ⟨by omega, by omega⟩
      · exact ⟨by simp [Utf8.runeError], by simp, one⟩
    · split
      · rename_i hc
        simp only [Bool.and_eq_true, decide_eq_true_eq, beq_iff_eq] at hc
        split
        · rename_i hv
          simp only [Bool.and_eq_true, decide_eq_true_eq] at hv
          refine ⟨by simp only; omega, by simp, fun j hj => ?_⟩
          simp only at hj
          rcases (show j = 0 ∨ j = 1 ∨ j = 2 by omega) with rfl | rfl | rfl
          · exact one 0 (by omega)
          · exact ⟨by omega, by omega⟩
          · exact ⟨by omega, by omega⟩
        · exact ⟨by simp [Utf8.runeError], by simp, one⟩
      · split
        · rename_i hc
          simp only [Bool.and_eq_true, decide_eq_true_eq, beq_iff_eq] at hc
          split
          · rename_i hv
            simp only [Bool.and_eq_true, decide_eq_true_eq] at hv
            refine ⟨by simp only; omega, by simp, fun j hj => ?_⟩
            simp only at hj
            rcases (show j = 0 ∨ j = 1 ∨ j = 2 ∨ j = 3 by omega) with rfl | rfl | rfl | rfl
            · exact one 0 (by omega)
            · exact ⟨by omega, by omega⟩
            · exact ⟨by omega, by omega⟩
            · exact ⟨by omega, by omega⟩
          · exact ⟨by simp [Utf8.runeError], by simp, one⟩
        · exact ⟨by simp [Utf8.runeError], by simp, one⟩

theorem spK_run (s : ByteArray) (pos : Nat) : ∀ n : Nat, (∀ j, j < n + 1 → byteAt s (pos + j) ≠ 32) → spK s (pos + (n + 1)) = ((spK s pos).1, some ((spK s pos).2.getD pos)) := by
  intro n
  induction n with
  | zero =>
    intro h
    have := h 0 (by omega)
    simp only [Nat.add_zero] at this
    show spStep _ pos (spK s pos) = _
    rw [decide_eq_false this]; rfl
  | succ n ih =>
    intro h
    have i := ih (fun j hj => h j (by omega))
    have := h (n + 1) (by omega)
    show spStep (decide (byteAt s (pos + (n + 1)) = 32)) (pos + (n + 1)) (spK s (pos + (n + 1))) = _
    rw [decide_eq_false this, i]; rfl

theorem spans_eq (s : ByteArray) : ∀ (f pos : Nat), pos ≤ s.size → s.size - pos ≤ f → Lib.spansFromP (fun r => r == 32) s f pos (spK s pos).2 (spK s pos).1 = spK s s.size := by
  intro f
  induction f with
  | zero =>
    intro pos h1 h2
    obtain rfl : pos = s.size := by omega
    rfl
  | succ f ih =>
    intro pos h1 h2
    by_cases hlt : pos < s.size
    · unfold Lib.spansFromP
      rw [if_pos hlt]
      rcases decode_bytes s pos hlt with ⟨hb, hd⟩ | ⟨hr, hw, hj⟩
      · rw [hd]
        simp only
        have gb := get_byteAt s pos hlt
        have nb : 0 ≤ byteAt s pos := by unfold byteAt; omega
        have i := ih (pos + 1) (by omega) (by omega)
        have st : spK s (pos + 1) = spStep (decide (byteAt s pos = 32)) pos (spK s pos) := rfl
        by_cases h32 : byteAt s pos = 32
        · have e : ((s.get! pos).toNat == 32) = true := by rw [beq_iff_eq]; omega
          rw [e, if_pos rfl]
          rw [decide_eq_true h32] at st
          cases hs : (spK s pos).2 with
          | none => simp only; rw [st] at i; simp only [spStep, hs, if_true] at i; exact i
          | some a => simp only; rw [st] at i; simp only [spStep, hs, if_true] at i; exact i
        · have e : ((s.get! pos).toNat == 32) = false := by rw [beq_eq_false_iff_ne]; omega
          rw [e, if_neg (by decide)]
          rw [decide_eq_false h32] at st
          cases hs : (spK s pos).2 with
          | none => simp only; rw [st] at i; simp only [spStep, hs, Bool.false_eq_true, if_false, Option.getD_none] at i; exact i
          | some a => simp only; rw [st] at i; simp only [spStep, hs, Bool.false_eq_true, if_false, Option.getD_some] at i; exact i
      · have e : ((Utf8.decode s pos).1 == 32) = false := by rw [beq_eq_false_iff_ne]; omega
        rw [e, if_neg (by decide)]
        obtain ⟨n, hn⟩ : ∃ n, (Utf8.decode s pos).2 = n + 1 := ⟨(Utf8.decode s pos).2 - 1, by omega⟩
        have lastj := hj ((Utf8.decode s pos).2 - 1) (by omega)
        have st := spK_run s pos n (fun j hjn => by
          have q := hj j (by omega)
          have gb := get_byteAt s (pos + j) q.2
          have nb : 0 ≤ byteAt s (pos + j) := by unfold byteAt; omega
          omega)
        have i := ih (pos + (n + 1)) (by omega) (by omega)
        rw [st] at i
        rw [hn]
        cases hs : (spK s pos).2 with
        | none => simp only; simp only [hs, Option.getD_none] at i; exact i
        | some a => simp only; simp only [hs, Option.getD_some] at i; exact i
    · obtain rfl : pos = s.size := by omega
      unfold Lib.spansFromP
      rw [if_neg hlt]

/-- The library's fields at blanks are the words. -/
theorem fields_words (s : ByteArray) : Lib.goFieldsP (fun r => r == 32) s = wordsS s := by
  unfold Lib.goFieldsP Lib.spansOfP wordsS
  have := spans_eq s s.size 0 (Nat.zero_le _) (by omega)
  rw [show (spK s 0).2 = none from rfl, show (spK s 0).1 = [] from rfl] at this
  rw [this]

end Go.Proofs.YtjfkfiffakbagaaGreatDoor.Txt

/-
  The plain mathematics of the words, byte by byte, as the document's own splitting goes.
-/
namespace Go.Proofs.YtjfkfiffakbagaaGreatDoor.Txt
open Go

/-- The word that is under way behind k bytes; the words that are whole. -/
def curS (s : ByteArray) (k : Nat) : ByteArray := match (spK s k).2 with | none => ⟨#[]⟩ | some a => s.extract a k
def accS (s : ByteArray) (k : Nat) : List ByteArray := (spK s k).1.map fun x => s.extract x.1 x.2

theorem spK_lt (s : ByteArray) : ∀ (k a : Nat), (spK s k).2 = some a → a < k
  | 0, a, h => by simp [spK] at h
  | k + 1, a, h => by
    simp only [spK, spStep] at h
    split at h
    · split at h <;> simp at h
    · simp only [Option.some.injEq] at h
      cases hs : (spK s k).2 with
      | none => rw [hs] at h; simp at h; omega
      | some b => rw [hs] at h; simp at h; have := spK_lt s k b hs; omega
theorem append_list (a b : ByteArray) : (a ++ b).data.toList = a.data.toList ++ b.data.toList := by
  rw [ByteArray.data_append, Array.toList_append]
theorem ext_app (s : ByteArray) (a k : Nat) (h : a ≤ k) : s.extract a k ++ s.extract k (k + 1) = s.extract a (k + 1) := by
  apply of_list
  rw [append_list, ext_list, ext_list, ext_list]
  have h1 : (s.data.toList.take k).drop a = ((s.data.toList.take (k + 1)).drop a).take (k - a) := by
    rw [List.drop_take, List.drop_take, List.take_take, show min (k - a) (k + 1 - a) = k - a from by omega]
  have h2 : (s.data.toList.take (k + 1)).drop k = ((s.data.toList.take (k + 1)).drop a).drop (k - a) := by
    rw [List.drop_drop, show a + (k - a) = k from by omega]
  rw [h1, h2, List.take_append_drop]
theorem cur_size (s : ByteArray) (k : Nat) : (curS s k).size ≤ k := by
  unfold curS
  split
  · exact Nat.zero_le _
  · have : ∀ a b, (s.extract a b).size = min b s.size - a := fun a b => ByteArray.size_extract ..
    rw [this]; omega
theorem empty_app (b : ByteArray) : (⟨#[]⟩ : ByteArray) ++ b = b := by
  apply of_list; rw [append_list]; rfl
theorem cur_next (s : ByteArray) (k : Nat) (h : byteAt s k ≠ 32) : curS s k ++ s.extract k (k + 1) = curS s (k + 1) ∧ accS s (k + 1) = accS s k := by
  have e : spK s (k + 1) = ((spK s k).1, some ((spK s k).2.getD k)) := by simp only [spK, spStep, decide_eq_false h]; rfl
  refine ⟨?_, by unfold accS; rw [e]⟩
  unfold curS
  rw [e]
  cases hs : (spK s k).2 with
  | none => simp only [Option.getD_none]; exact empty_app _
  | some a => simp only [Option.getD_some]; exact ext_app s a k (Nat.le_of_lt (spK_lt s k a hs))
theorem cur_blank (s : ByteArray) (k : Nat) (hk : k ≤ s.size) (h : byteAt s k = 32) : curS s (k + 1) = ⟨#[]⟩ ∧ accS s (k + 1) = accS s k ++ (if (curS s k).size = 0 then [] else [curS s k]) := by
  have e : spK s (k + 1) = spStep true k (spK s k) := by simp only [spK, decide_eq_true h]
  cases hs : (spK s k).2 with
  | none =>
    have e2 : spK s (k + 1) = ((spK s k).1, none) := by rw [e]; simp [spStep, hs]
    have c : curS s k = ⟨#[]⟩ := by unfold curS; rw [hs]
    refine ⟨by unfold curS; rw [e2], ?_⟩
    rw [c]; unfold accS; rw [e2]; simp; rfl
  | some a =>
    have e2 : spK s (k + 1) = ((spK s k).1 ++ [(a, k)], none) := by rw [e]; simp [spStep, hs]
    have c : curS s k = s.extract a k := by unfold curS; rw [hs]
    have lt := spK_lt s k a hs
    have sz : (s.extract a k).size = min k s.size - a := ByteArray.size_extract ..
    refine ⟨by unfold curS; rw [e2], ?_⟩
    rw [c, if_neg (by omega)]; unfold accS; rw [e2]; simp
theorem words_end (s : ByteArray) : wordsS s = accS s s.size ++ (if (curS s s.size).size = 0 then [] else [curS s s.size]) := by
  unfold wordsS accS curS Lib.closeSpans
  cases hs : (spK s s.size).2 with
  | none => simp; rfl
  | some a =>
    have lt := spK_lt s _ a hs
    have sz : (s.extract a s.size).size = min s.size s.size - a := ByteArray.size_extract ..
    simp only
    rw [if_neg (by omega)]; simp
theorem acc_len (s : ByteArray) : ∀ k : Nat, (accS s k).length ≤ k
  | 0 => Nat.le_refl _
  | k + 1 => by
    have ih := acc_len s k
    unfold accS at *
    rw [List.length_map] at *
    simp only [spK, spStep]
    split
    · split <;> simp <;> omega
    · simp; omega

end Go.Proofs.YtjfkfiffakbagaaGreatDoor.Txt

/-
  The walks over the splitting of a line into words, both sides.
-/
namespace Go.Proofs.YtjfkfiffakbagaaGreatDoor
open Go.RowKit

set_option maxHeartbeats 400000 in
theorem blank_any (x : Nat) (w : World) :
    Calls Tryz.prog 81 #[.int .i32 x] w fun e w' => e = .returned (.bool (x == 32)) ∧ ∃ q, w' = w.drewN q := by
  go_enter Tryz.func81, Tryz.ntmps81
  go_wp2
  go_ret
  refine ⟨ret_bool ?_, 0, rfl⟩
  rw [Bool.eq_iff_iff]; simp; omega

theorem enter_blank (args : Array Value) (w : World) : Sem.run Tryz.prog (callFunc 81 args) w = .ok (.enter 81 args) w := by kernel_rfl

set_option maxHeartbeats 400000 in
theorem split_any (s : ByteArray) (w : World) (hs : s.size ≤ 160) :
    Calls Tryz.prog 59 #[.string s] w fun e w' => ∃ A, e = .returned (.slice (some ⟨A, 0, none⟩) (Txt.wordsS s).length (Txt.wordsS s).length) ∧ w.heap.size ≤ A ∧
      w'.ownsRow w.heap.size 9 1 (.slice (some ⟨A, 0, none⟩) (Txt.wordsS s).length (Txt.wordsS s).length) (Txt.wordsS s).length ((Txt.wordsS s).map Value.string) ∧ Below w.heap.size w w' := by
  have hp : PredAtRunes Tryz.prog 81 #[] (fun r => r == 32) w := fun W x _ _ => blank_any x W
  have HP := hide hp
  clear hp
  go_enter Tryz.func59, Tryz.ntmps59
  go_wp2_with fail
  refine (Tryz.strings_FieldsFunc_runes 81 #[] enter_blank (fun r => r == 32) s w (by omega) (unhide HP)).mono ?_
  rintro e w' ⟨A, rfl, hA, ho, hb⟩
  rw [Txt.fields_words] at ho ⊢
  go_wp2
  go_ret
  exact ⟨A, rfl, hA, ho, hb⟩

theorem toList_data (b : ByteArray) : b.toList = b.data.toList := Lib.toList_data b
theorem empty_size {b : ByteArray} (h : b.toList.isEmpty = true) : b.size = 0 := by
  rw [toList_data, List.isEmpty_iff] at h
  rw [← Txt.len_list, h]; rfl
theorem nonempty_size {b : ByteArray} (h : b.toList.isEmpty = false) : b.size ≠ 0 := by
  intro e
  rw [toList_data, List.isEmpty_eq_false_iff] at h
  exact h (List.eq_nil_of_length_eq_zero (by rw [Txt.len_list]; exact e))
theorem own_base {w : World} {base e size n : Nat} {v : Value} {xs : List Value} (h : w.ownsRow base e size v n xs) {k : Nat} (hk : v.ownBlock = some k) : base ≤ k := by
  rcases h.2 with ⟨rfl, _⟩ | ⟨g, cap, cur, rfl, hb, _⟩
  · simp [Value.ownBlock] at hk
  · simp [Value.ownBlock] at hk; omega
theorem info9 : (Tryz.prog.info? 9).map (fun i => (i.zero, i.size, i.bytes)) = some (some (.string ⟨#[]⟩), 1, 16) := by kernel_rfl

set_option maxRecDepth 100000 in
set_option maxHeartbeats 1000000 in
theorem words_any (s : ByteArray) (w : World) (hs : s.size ≤ 160) :
    Calls Tryz.prog 58 #[.string s] w fun e w' => ∃ v, e = .returned v ∧ w'.ownsRow w.heap.size 9 1 v (Txt.wordsS s).length ((Txt.wordsS s).map Value.string) ∧ Below w.heap.size w w' := by
  obtain ⟨i0, hi, hz0, hz1, hz2⟩ := info_parts info9
  go_enter Tryz.func58, Tryz.ntmps58
  go_wp2
  go_loopw [3, 4, 5] (fun v c i wr => ∃ k : Nat, k ≤ s.size ∧ i = .int .i64 k ∧ c = .string (Txt.curS s k) ∧ wr.ownsRow w.heap.size 9 1 v (Txt.accS s k).length ((Txt.accS s k).map Value.string) ∧ Below w.heap.size w wr) (fun _ _ i _ => s.size - (intOf i).toNat)
  case atStart => exact ⟨0, Nat.zero_le _, rfl, rfl, World.ownsRow_nil _ _ _ _, Below.refl _ _⟩
  case round =>
    obtain ⟨k, hk, rfl, rfl, hown, hnx⟩ := hrel
    have cz := Txt.cur_size s k
    by_cases hlt : k < s.size
    · by_cases hb : Txt.byteAt s k = 32
      · have hb' : ((s[k].toNat : Int) == 32) = true := beq_iff_eq.2 (by rw [← Txt.byteAt_eq]; exact hb)
        have HB := hide (Txt.cur_blank s k hk hb)
        clear hb
        cases he : (Txt.curS s k).toList.isEmpty
        · have HE : Hid ((Txt.curS s k).size ≠ 0) := (nonempty_size he)
          have hal := Txt.acc_len s k
          go_wp2_with (first
            | (at_builtin; refine wpList_append_own _ rfl _ _ 26 rfl w.heap.size 9 i0 (.string ⟨#[]⟩) 1 16 Tryz.underlying26 hi hz0 hz1 hz2 rfl (by decide) _ _ _ rfl (hown.alloc _) ⟨wr.heap.size, 0, none⟩ 1 1 [.string (Txt.curS s k)] rfl rfl ?c1 ?c2 ?c3 ?c4 ?c5 ?_)
            | go_in)
          case c1 => exact cell_one_new _ _ _
          case c2 => intro u hu; simp at hu; subst hu; rfl
          case c3 => unfold maxLen; omega
          case c4 => omega
          case c5 => have := hnx.size; simp; omega
          intro v' w1 hown' hgrow _
          go_wp2
          refine ⟨⟨k + 1, by omega, by go_num, by rw [(unhide HB).1], ?_, ?_⟩, by simp [intOf]; omega⟩
          · rw [(unhide HB).2, if_neg HE.out, List.map_append, List.length_append]; exact hown'
          · refine (hnx.alloc hnx.size _).grown hgrow (by have := hnx.size; simp; omega) (fun k hk => ?_)
            exact own_base hown hk
        · have HE : Hid ((Txt.curS s k).size = 0) := (empty_size he)
          go_wp2
          exact ⟨⟨k + 1, by omega, by go_num, by rw [(unhide HB).1], by rw [(unhide HB).2, if_pos HE.out, List.append_nil]; exact hown, hnx⟩, by simp [intOf]; omega⟩
      · have hb' : ((s[k].toNat : Int) == 32) = false := beq_eq_false_iff_ne.2 (by rw [← Txt.byteAt_eq]; exact hb)
        have HB := hide (Txt.cur_next s k hb)
        clear hb
        go_wp2
        exact ⟨⟨k + 1, by omega, by go_num, by rw [(unhide HB).1], by rw [(unhide HB).2]; exact hown, hnx⟩, by simp [intOf]; omega⟩
    · obtain rfl : k = s.size := by omega
      have HW := hide (Txt.words_end s)
      cases he : (Txt.curS s s.size).toList.isEmpty
      · have HE : Hid ((Txt.curS s s.size).size ≠ 0) := (nonempty_size he)
        have hal := Txt.acc_len s s.size
        go_wp2_with (first
          | (at_builtin; refine wpList_append_own _ rfl _ _ 26 rfl w.heap.size 9 i0 (.string ⟨#[]⟩) 1 16 Tryz.underlying26 hi hz0 hz1 hz2 rfl (by decide) _ _ _ rfl (hown.alloc _) ⟨wr.heap.size, 0, none⟩ 1 1 [.string (Txt.curS s s.size)] rfl rfl ?c1 ?c2 ?c3 ?c4 ?c5 ?_)
          | go_in)
        case c1 => exact cell_one_new _ _ _
        case c2 => intro u hu; simp at hu; subst hu; rfl
        case c3 => unfold maxLen; omega
        case c4 => omega
        case c5 => have := hnx.size; simp; omega
        intro v' w1 hown' hgrow _
        go_wp2
        go_ret
        refine ⟨v', rfl, ?_, ?_⟩
        · rw [unhide HW, if_neg HE.out, List.map_append, List.length_append]; exact hown'
        · refine (hnx.alloc hnx.size _).grown hgrow (by have := hnx.size; simp; omega) (fun k hk => ?_)
          exact own_base hown hk
      · have HE : Hid ((Txt.curS s s.size).size = 0) := (empty_size he)
        go_wp2
        go_ret
        exact ⟨_, rfl, by rw [unhide HW, if_pos HE.out, List.append_nil]; exact hown, hnx⟩

end Go.Proofs.YtjfkfiffakbagaaGreatDoor

/-
  The plain mathematics of ON: days of the week with commas between them, split by commas or read three bytes at a time: the same.
-/
namespace Go.Proofs.YtjfkfiffakbagaaGreatDoor.Txt
open Go

/-- The day of a word of two letters; -1: it is none. -/
def wdL (l : List UInt8) : Int :=
  if l == [109, 111] then 0 else if l == [116, 117] then 1 else if l == [119, 101] then 2 else if l == [116, 104] then 3 else if l == [102, 114] then 4 else if l == [115, 97] then 5 else if l == [115, 117] then 6 else -1
theorem wdL_bd (l : List UInt8) : -1 ≤ wdL l ∧ wdL l ≤ 6 := by
  unfold wdL; (repeat' split) <;> omega
theorem wdL_names {l : List UInt8} (h : 0 ≤ wdL l) : l = [109, 111] ∨ l = [116, 117] ∨ l = [119, 101] ∨ l = [116, 104] ∨ l = [102, 114] ∨ l = [115, 97] ∨ l = [115, 117] := by
  unfold wdL at h
  by_cases c0 : (l == [109, 111]) = true
  · exact .inl (beq_iff_eq.1 c0)
  · rw [if_neg c0] at h
    by_cases c1 : (l == [116, 117]) = true
    · exact .inr (.inl (beq_iff_eq.1 c1))
    · rw [if_neg c1] at h
      by_cases c2 : (l == [119, 101]) = true
      · exact .inr (.inr (.inl (beq_iff_eq.1 c2)))
      · rw [if_neg c2] at h
        by_cases c3 : (l == [116, 104]) = true
        · exact .inr (.inr (.inr (.inl (beq_iff_eq.1 c3))))
        · rw [if_neg c3] at h
          by_cases c4 : (l == [102, 114]) = true
          · exact .inr (.inr (.inr (.inr (.inl (beq_iff_eq.1 c4)))))
          · rw [if_neg c4] at h
            by_cases c5 : (l == [115, 97]) = true
            · exact .inr (.inr (.inr (.inr (.inr (.inl (beq_iff_eq.1 c5))))))
            · rw [if_neg c5] at h
              by_cases c6 : (l == [115, 117]) = true
              · exact .inr (.inr (.inr (.inr (.inr (.inr (beq_iff_eq.1 c6))))))
              · rw [if_neg c6] at h; omega
theorem wdL_len {l : List UInt8} (h : 0 ≤ wdL l) : l.length = 2 ∧ 44 ∉ l := by
  rcases wdL_names h with rfl | rfl | rfl | rfl | rfl | rfl | rfl <;> decide
theorem wdL_bad {l : List UInt8} (h : ¬ (l.length = 2 ∧ 44 ∉ l)) : wdL l = -1 := by
  have b := wdL_bd l
  by_cases g : 0 ≤ wdL l
  · exact absurd (wdL_len g) h
  · omega

/-- One day more. -/
def onStep (acc : List Int) (d : Int) : Option (List Int) := if 0 ≤ d ∧ acc.contains d = false then some (d :: acc) else none
/-- As the split pieces are read. -/
def onP : List (List UInt8) → List Int → Option (List Int)
  | [], acc => some acc
  | p :: ps, acc => (onStep acc (wdL p)).bind (onP ps)
/-- Three bytes at a time. -/
def onC : List UInt8 → List Int → Option (List Int)
  | [a, b], acc => onStep acc (wdL [a, b])
  | a :: b :: c :: r, acc => if c = 44 then (onStep acc (wdL [a, b])).bind (onC r) else none
  | _, _ => none
/-- Split at commas. -/
def sp : List UInt8 → List (List UInt8)
  | [] => [[]]
  | c :: l => if c = 44 then [] :: sp l else (match sp l with | [] => [[c]] | p :: ps => (c :: p) :: ps)

theorem step_bad (acc : List Int) : onStep acc (-1) = none := by simp [onStep]
theorem sp_ne (l : List UInt8) : sp l ≠ [] := by
  cases l with
  | nil => simp [sp]
  | cons c l => unfold sp; split; simp; split <;> simp
theorem onP_first {p : List UInt8} (ps : List (List UInt8)) (acc : List Int) (h : ¬ (p.length = 2 ∧ 44 ∉ p)) : onP (p :: ps) acc = none := by
  simp [onP, wdL_bad h, step_bad]
theorem onC_len : ∀ (l : List UInt8) (acc r : List Int), onC l acc = some r → l.length % 3 = 2
  | [], _, _, h => by simp [onC] at h
  | [_], _, _, h => by simp [onC] at h
  | [_, _], _, _, _ => rfl
  | a :: b :: c :: l, acc, r, h => by
    unfold onC at h
    split at h
    · simp only [Option.bind_eq_some_iff] at h
      obtain ⟨x, _, h⟩ := h
      have := onC_len l x r h
      simp only [List.length_cons]; omega
    · cases h
/-- The first piece of a text. -/
theorem sp_cons (c : UInt8) (l : List UInt8) (h : c ≠ 44) : ∃ p ps, sp l = p :: ps ∧ sp (c :: l) = (c :: p) :: ps := by
  cases hs : sp l with
  | nil => exact absurd hs (sp_ne l)
  | cons p ps => exact ⟨p, ps, rfl, by simp [sp, h, hs]⟩
theorem sp_comma (l : List UInt8) : sp (44 :: l) = [] :: sp l := by simp [sp]

theorem on_same : ∀ (l : List UInt8) (acc : List Int), onP (sp l) acc = onC l acc
  | [], acc => by rw [show sp [] = [[]] from rfl, onP_first _ _ (by simp)]; rfl
  | [a], acc => by
    by_cases ha : a = 44
    · subst ha; rw [sp_comma, onP_first _ _ (by simp)]; rfl
    · obtain ⟨p, ps, h1, h2⟩ := sp_cons a [] ha
      simp only [sp, List.cons.injEq] at h1
      obtain ⟨rfl, rfl⟩ := h1
      rw [h2, onP_first _ _ (by simp)]; rfl
  | [a, b], acc => by
    by_cases ha : a = 44
    · subst ha; rw [sp_comma, onP_first _ _ (by simp), onC, wdL_bad (by simp), step_bad]
    · obtain ⟨p, ps, h1, h2⟩ := sp_cons a [b] ha
      rw [h2]
      by_cases hb : b = 44
      · subst hb
        rw [sp_comma] at h1
        simp only [List.cons.injEq] at h1
        obtain ⟨rfl, rfl⟩ := h1
        rw [onP_first _ _ (by simp), onC, wdL_bad (by simp), step_bad]
      · obtain ⟨p', ps', h1', h2'⟩ := sp_cons b [] hb
        simp only [sp, List.cons.injEq] at h1'
        obtain ⟨rfl, rfl⟩ := h1'
        rw [h2'] at h1
        simp only [List.cons.injEq] at h1
        obtain ⟨rfl, rfl⟩ := h1
        simp only [onP, onC]
        cases onStep acc (wdL [a, b]) <;> rfl
  | a :: b :: c :: l, acc => by
    have ih := on_same l
    by_cases ha : a = 44
    · subst ha
      rw [sp_comma, onP_first _ _ (by simp), onC, wdL_bad (by simp), step_bad]
      split <;> rfl
    · obtain ⟨p, ps, h1, h2⟩ := sp_cons a (b :: c :: l) ha
      rw [h2]
      by_cases hb : b = 44
      · subst hb
        rw [sp_comma] at h1
        simp only [List.cons.injEq] at h1
        obtain ⟨rfl, rfl⟩ := h1
        rw [onP_first _ _ (by simp), onC, wdL_bad (by simp), step_bad]
        split <;> rfl
      · obtain ⟨p', ps', h1', h2'⟩ := sp_cons b (c :: l) hb
        rw [h2'] at h1
        simp only [List.cons.injEq] at h1
        obtain ⟨rfl, rfl⟩ := h1
        by_cases hc : c = 44
        · subst hc
          rw [sp_comma] at h1'
          simp only [List.cons.injEq] at h1'
          obtain ⟨rfl, rfl⟩ := h1'
          simp only [onP, onC, if_true]
          cases onStep acc (wdL [a, b]) with
          | none => rfl
          | some x => exact ih x
        · obtain ⟨p'', ps'', _, h2''⟩ := sp_cons c l hc
          rw [h2''] at h1'
          simp only [List.cons.injEq] at h1'
          obtain ⟨rfl, rfl⟩ := h1'
          rw [onP_first _ _ (by simp), onC, if_neg hc]

theorem index_cons (c : UInt8) (l : List UInt8) (h : c ≠ 44) : Lib.index (c :: l) [44] = if Lib.index l [44] == -1 then -1 else Lib.index l [44] + 1 := by
  rw [Lib.index]
  have : ([44] : List UInt8).isPrefixOf (c :: l) = false := by simp [List.isPrefixOf]; exact fun e => h e.symm
  rw [this]; rfl
theorem index_comma (l : List UInt8) : Lib.index (44 :: l) [44] = 0 := by
  rw [Lib.index]; simp [List.isPrefixOf]
theorem splitK_cons (c : UInt8) (l : List UInt8) (h : c ≠ 44) (k : Nat) : ∃ p ps, Lib.splitK [44] 0 k l = p :: ps ∧ Lib.splitK [44] 0 k (c :: l) = (c :: p) :: ps := by
  cases k with
  | zero => exact ⟨l, [], rfl, rfl⟩
  | succ k =>
    unfold Lib.splitK
    rw [index_cons c l h]
    by_cases hi : (Lib.index l [44] == -1) = true
    · rw [if_pos hi, if_pos hi]; exact ⟨l, [], rfl, rfl⟩
    · rw [if_neg hi, if_neg hi]
      have g := Lib.index_ge l [44]
      have hn : Lib.index l [44] ≠ -1 := fun e => hi (beq_iff_eq.2 e)
      rw [if_neg (by rw [beq_iff_eq]; omega)]
      refine ⟨_, _, rfl, ?_⟩
      obtain ⟨i, hi'⟩ := Int.eq_ofNat_of_zero_le (show 0 ≤ Lib.index l [44] by omega)
      rw [hi', show ((i : Int) + 1).toNat = i + 1 from by omega, show ((i : Int)).toNat = i from by omega]
      simp
theorem split_sp : ∀ l : List UInt8, Lib.splitK [44] 0 (l.count 44) l = sp l
  | [] => rfl
  | c :: l => by
    have ih := split_sp l
    by_cases h : c = 44
    · subst h
      rw [List.count_cons_self, sp_comma, ← ih]
      rw [Lib.splitK, index_comma]; simp
    · rw [List.count_cons_of_ne (by simpa using h)]
      obtain ⟨p, ps, h1, h2⟩ := splitK_cons c l h (l.count 44)
      rw [h2]
      rw [ih] at h1
      simp [sp, h, h1]

/-- What ON says of a word: the days that it names, the last first; none: it is none. -/
def onW (s : ByteArray) : Option (List Int) := onC s.data.toList []
def onB (s : ByteArray) : Bool := (onW s).isSome
theorem pieces_on (s : ByteArray) : onP ((Lib.splitB ⟨#[44]⟩ 0 (Lib.countB s ⟨#[44]⟩) s).map (·.data.toList)) [] = onW s := by
  rw [Lib.splitB_data]
  have hc : Lib.countB s ⟨#[44]⟩ = s.data.toList.count 44 := Lib.count_one 44 s.data.toList
  rw [hc, show (ByteArray.mk #[44]).data.toList = [44] from rfl, split_sp, on_same]; rfl

end Go.Proofs.YtjfkfiffakbagaaGreatDoor.Txt

/-
  The walks over the readers of ON, both sides.
-/
namespace Go.Proofs.YtjfkfiffakbagaaGreatDoor
open Go.RowKit

/-- The k-th day's letters. -/
def wname (k : Nat) : List UInt8 := match k with | 0 => [109, 111] | 1 => [116, 117] | 2 => [119, 101] | 3 => [116, 104] | 4 => [102, 114] | 5 => [115, 97] | _ => [115, 117]
theorem wd_at {l : List UInt8} {k : Nat} (hk : k < 7) (h : (l == wname k) = true) (hn : ∀ j, j < k → (l == wname j) = false) : Txt.wdL l = k := by
  have e := beq_iff_eq.1 h
  subst e
  rcases (show k = 0 ∨ k = 1 ∨ k = 2 ∨ k = 3 ∨ k = 4 ∨ k = 5 ∨ k = 6 by omega) with rfl | rfl | rfl | rfl | rfl | rfl | rfl <;> decide
theorem wd_none {l : List UInt8} (hn : ∀ j, j < 7 → (l == wname j) = false) : Txt.wdL l = -1 := by
  have h0 := hn 0 (by omega)
  have h1 := hn 1 (by omega)
  have h2 := hn 2 (by omega)
  have h3 := hn 3 (by omega)
  have h4 := hn 4 (by omega)
  have h5 := hn 5 (by omega)
  have h6 := hn 6 (by omega)
  simp only [wname] at h0 h1 h2 h3 h4 h5 h6
  simp [Txt.wdL, h0, h1, h2, h3, h4, h5, h6]
theorem upto_next {l : List UInt8} {k : Nat} (hn : ∀ j, j < k → (l == wname j) = false) (h : (l == wname k) = false) : ∀ j, j < k + 1 → (l == wname j) = false := fun j hj => by
  by_cases e : j = k
  · subst e; exact h
  · exact hn j (by omega)

def wdV (s : ByteArray) : Int := if 0 ≤ Txt.wdL s.data.toList then Txt.wdL s.data.toList else 0
def wdB (s : ByteArray) : Bool := decide (0 ≤ Txt.wdL s.data.toList)

set_option maxRecDepth 100000 in
set_option maxHeartbeats 1000000 in
theorem readWeekday_any (s : ByteArray) (w : World) (he : Env w) :
    Calls Tryz.prog 238 #[.string s] w fun e w' => e = .returned (.tuple #[.int .i64 (wdV s), .bool (wdB s)]) ∧ w' = w := by
  have m0 := he.mo
  have m1 := he.tu
  have m2 := he.we
  have m3 := he.th
  have m4 := he.fr
  have m5 := he.sa
  have m6 := he.su
  have HL := hide (toList_data s)
  clear he
  go_enter Tryz.func238, Tryz.ntmps238
  go_wp2
  go_loop [4, 5] (fun _ i => ∃ k : Nat, k ≤ 7 ∧ i = .int .i64 k ∧ ∀ j, j < k → (s.data.toList == wname j) = false) (fun _ i => 7 - (intOf i).toNat)
  case atStart => exact ⟨0, by omega, rfl, fun j hj => absurd hj (by omega)⟩
  case round =>
    obtain ⟨k, hk, rfl, hn⟩ := hrel
    have HN := hide hn
    clear hn
    rcases (show k = 0 ∨ k = 1 ∨ k = 2 ∨ k = 3 ∨ k = 4 ∨ k = 5 ∨ k = 6 ∨ k = 7 by omega) with rfl | rfl | rfl | rfl | rfl | rfl | rfl | rfl
    · cases hq : ([109, 111] == s.toList)
      · have HQ : Hid ((s.data.toList == wname 0) = false) := by
          show (s.data.toList == wname 0) = false
          rw [← unhide HL, Bool.beq_comm]; exact hq
        go_wp2
        go_round
        case rel => exact ⟨1, by omega, by go_num, upto_next (unhide HN) HQ.out⟩
        case measure => simp [intOf]
      · have HQ : Hid (Txt.wdL s.data.toList = 0) := wd_at (k := 0) (by omega) (by rw [← unhide HL, Bool.beq_comm]; exact hq) (unhide HN)
        go_wp2
        go_ret2
        exact ⟨ret2_ib (by rw [wdV, HQ.out]; rfl) (by rw [wdB, HQ.out]; rfl), rfl⟩
    · cases hq : ([116, 117] == s.toList)
      · have HQ : Hid ((s.data.toList == wname 1) = false) := by
          show (s.data.toList == wname 1) = false
          rw [← unhide HL, Bool.beq_comm]; exact hq
        go_wp2
        go_round
        case rel => exact ⟨2, by omega, by go_num, upto_next (unhide HN) HQ.out⟩
        case measure => simp [intOf]
      · have HQ : Hid (Txt.wdL s.data.toList = 1) := wd_at (k := 1) (by omega) (by rw [← unhide HL, Bool.beq_comm]; exact hq) (unhide HN)
        go_wp2
        go_ret2
        exact ⟨ret2_ib (by rw [wdV, HQ.out]; rfl) (by rw [wdB, HQ.out]; rfl), rfl⟩
    · cases hq : ([119, 101] == s.toList)
      · have HQ : Hid ((s.data.toList == wname 2) = false) := by
          show (s.data.toList == wname 2) = false
          rw [← unhide HL, Bool.beq_comm]; exact hq
        go_wp2
        go_round
        case rel => exact ⟨3, by omega, by go_num, upto_next (unhide HN) HQ.out⟩
        case measure => simp [intOf]
      · have HQ : Hid (Txt.wdL s.data.toList = 2) := wd_at (k := 2) (by omega) (by rw [← unhide HL, Bool.beq_comm]; exact hq) (unhide HN)
        go_wp2
        go_ret2
        exact ⟨ret2_ib (by rw [wdV, HQ.out]; rfl) (by rw [wdB, HQ.out]; rfl), rfl⟩
    · cases hq : ([116, 104] == s.toList)
      · have HQ : Hid ((s.data.toList == wname 3) = false) := by
          show (s.data.toList == wname 3) = false
          rw [← unhide HL, Bool.beq_comm]; exact hq
        go_wp2
        go_round
        case rel => exact ⟨4, by omega, by go_num, upto_next (unhide HN) HQ.out⟩
        case measure => simp [intOf]
      · have HQ : Hid (Txt.wdL s.data.toList = 3) := wd_at (k := 3) (by omega) (by rw [← unhide HL, Bool.beq_comm]; exact hq) (unhide HN)
        go_wp2
        go_ret2
        exact ⟨ret2_ib (by rw [wdV, HQ.out]; rfl) (by rw [wdB, HQ.out]; rfl), rfl⟩
    · cases hq : ([102, 114] == s.toList)
      · have HQ : Hid ((s.data.toList == wname 4) = false) := by
          show (s.data.toList == wname 4) = false
          rw [← unhide HL, Bool.beq_comm]; exact hq
        go_wp2
        go_round
        case rel => exact ⟨5, by omega, by go_num, upto_next (unhide HN) HQ.out⟩
        case measure => simp [intOf]
      · have HQ : Hid (Txt.wdL s.data.toList = 4) := wd_at (k := 4) (by omega) (by rw [← unhide HL, Bool.beq_comm]; exact hq) (unhide HN)
        go_wp2
        go_ret2
        exact ⟨ret2_ib (by rw [wdV, HQ.out]; rfl) (by rw [wdB, HQ.out]; rfl), rfl⟩
    · cases hq : ([115, 97] == s.toList)
      · have HQ : Hid ((s.data.toList == wname 5) = false) := by
          show (s.data.toList == wname 5) = false
          rw [← unhide HL, Bool.beq_comm]; exact hq
        go_wp2
        go_round
        case rel => exact ⟨6, by omega, by go_num, upto_next (unhide HN) HQ.out⟩
        case measure => simp [intOf]
      · have HQ : Hid (Txt.wdL s.data.toList = 5) := wd_at (k := 5) (by omega) (by rw [← unhide HL, Bool.beq_comm]; exact hq) (unhide HN)
        go_wp2
        go_ret2
        exact ⟨ret2_ib (by rw [wdV, HQ.out]; rfl) (by rw [wdB, HQ.out]; rfl), rfl⟩
    · cases hq : ([115, 117] == s.toList)
      · have HQ : Hid ((s.data.toList == wname 6) = false) := by
          show (s.data.toList == wname 6) = false
          rw [← unhide HL, Bool.beq_comm]; exact hq
        go_wp2
        go_round
        case rel => exact ⟨7, by omega, by go_num, upto_next (unhide HN) HQ.out⟩
        case measure => simp [intOf]
      · have HQ : Hid (Txt.wdL s.data.toList = 6) := wd_at (k := 6) (by omega) (by rw [← unhide HL, Bool.beq_comm]; exact hq) (unhide HN)
        go_wp2
        go_ret2
        exact ⟨ret2_ib (by rw [wdV, HQ.out]; rfl) (by rw [wdB, HQ.out]; rfl), rfl⟩
    · have HQ : Hid (Txt.wdL s.data.toList = -1) := wd_none (unhide HN)
      go_wp2
      go_ret2
      exact ⟨ret2_ib (by rw [wdV, HQ.out]; rfl) (by rw [wdB, HQ.out]; rfl), rfl⟩

set_option maxRecDepth 100000 in
set_option maxHeartbeats 1000000 in
theorem weekday_any (s : ByteArray) (w : World) :
    Calls Tryz.prog 182 #[.string s] w fun e w' => e = .returned (.int .i64 (Txt.wdL s.data.toList)) ∧ Below w.heap.size w w' := by
  have HL := hide (toList_data s)
  have HB : Hid (∀ o, Below w.heap.size w (w.alloc o)) := fun o => (Below.refl _ _).alloc (Nat.le_refl _) o
  go_enter Tryz.func182, Tryz.ntmps182
  go_wp2
  go_loop [4] (fun i => ∃ k : Nat, k ≤ 7 ∧ i = .int .i64 k ∧ ∀ j, j < k → (s.data.toList == wname j) = false) (fun i => 7 - (intOf i).toNat)
  case atStart => exact ⟨0, by omega, rfl, fun j hj => absurd hj (by omega)⟩
  case round =>
    obtain ⟨k, hk, rfl, hn⟩ := hrel
    have HN := hide hn
    clear hn
    rcases (show k = 0 ∨ k = 1 ∨ k = 2 ∨ k = 3 ∨ k = 4 ∨ k = 5 ∨ k = 6 ∨ k = 7 by omega) with rfl | rfl | rfl | rfl | rfl | rfl | rfl | rfl
    · cases hq : (s.toList == [109, 111])
      · have HQ : Hid ((s.data.toList == wname 0) = false) := by
          show (s.data.toList == wname 0) = false
          rw [← unhide HL]; exact hq
        go_wp2
        go_round
        case rel => exact ⟨1, by omega, by go_num, upto_next (unhide HN) HQ.out⟩
        case measure => simp [intOf]
      · have HQ : Hid (Txt.wdL s.data.toList = 0) := wd_at (k := 0) (by omega) (by rw [← unhide HL]; exact hq) (unhide HN)
        go_wp2
        go_ret
        exact ⟨ret_int (by rw [HQ.out]), HB.out _⟩
    · cases hq : (s.toList == [116, 117])
      · have HQ : Hid ((s.data.toList == wname 1) = false) := by
          show (s.data.toList == wname 1) = false
          rw [← unhide HL]; exact hq
        go_wp2
        go_round
        case rel => exact ⟨2, by omega, by go_num, upto_next (unhide HN) HQ.out⟩
        case measure => simp [intOf]
      · have HQ : Hid (Txt.wdL s.data.toList = 1) := wd_at (k := 1) (by omega) (by rw [← unhide HL]; exact hq) (unhide HN)
        go_wp2
        go_ret
        exact ⟨ret_int (by rw [HQ.out]), HB.out _⟩
    · cases hq : (s.toList == [119, 101])
      · have HQ : Hid ((s.data.toList == wname 2) = false) := by
          show (s.data.toList == wname 2) = false
          rw [← unhide HL]; exact hq
        go_wp2
        go_round
        case rel => exact ⟨3, by omega, by go_num, upto_next (unhide HN) HQ.out⟩
        case measure => simp [intOf]
      · have HQ : Hid (Txt.wdL s.data.toList = 2) := wd_at (k := 2) (by omega) (by rw [← unhide HL]; exact hq) (unhide HN)
        go_wp2
        go_ret
        exact ⟨ret_int (by rw [HQ.out]), HB.out _⟩
    · cases hq : (s.toList == [116, 104])
      · have HQ : Hid ((s.data.toList == wname 3) = false) := by
          show (s.data.toList == wname 3) = false
          rw [← unhide HL]; exact hq
        go_wp2
        go_round
        case rel => exact ⟨4, by omega, by go_num, upto_next (unhide HN) HQ.out⟩
        case measure => simp [intOf]
      · have HQ : Hid (Txt.wdL s.data.toList = 3) := wd_at (k := 3) (by omega) (by rw [← unhide HL]; exact hq) (unhide HN)
        go_wp2
        go_ret
        exact ⟨ret_int (by rw [HQ.out]), HB.out _⟩
    · cases hq : (s.toList == [102, 114])
      · have HQ : Hid ((s.data.toList == wname 4) = false) := by
          show (s.data.toList == wname 4) = false
          rw [← unhide HL]; exact hq
        go_wp2
        go_round
        case rel => exact ⟨5, by omega, by go_num, upto_next (unhide HN) HQ.out⟩
        case measure => simp [intOf]
      · have HQ : Hid (Txt.wdL s.data.toList = 4) := wd_at (k := 4) (by omega) (by rw [← unhide HL]; exact hq) (unhide HN)
        go_wp2
        go_ret
        exact ⟨ret_int (by rw [HQ.out]), HB.out _⟩
    · cases hq : (s.toList == [115, 97])
      · have HQ : Hid ((s.data.toList == wname 5) = false) := by
          show (s.data.toList == wname 5) = false
          rw [← unhide HL]; exact hq
        go_wp2
        go_round
        case rel => exact ⟨6, by omega, by go_num, upto_next (unhide HN) HQ.out⟩
        case measure => simp [intOf]
      · have HQ : Hid (Txt.wdL s.data.toList = 5) := wd_at (k := 5) (by omega) (by rw [← unhide HL]; exact hq) (unhide HN)
        go_wp2
        go_ret
        exact ⟨ret_int (by rw [HQ.out]), HB.out _⟩
    · cases hq : (s.toList == [115, 117])
      · have HQ : Hid ((s.data.toList == wname 6) = false) := by
          show (s.data.toList == wname 6) = false
          rw [← unhide HL]; exact hq
        go_wp2
        go_round
        case rel => exact ⟨7, by omega, by go_num, upto_next (unhide HN) HQ.out⟩
        case measure => simp [intOf]
      · have HQ : Hid (Txt.wdL s.data.toList = 6) := wd_at (k := 6) (by omega) (by rw [← unhide HL]; exact hq) (unhide HN)
        go_wp2
        go_ret
        exact ⟨ret_int (by rw [HQ.out]), HB.out _⟩
    · have HQ : Hid (Txt.wdL s.data.toList = -1) := wd_none (unhide HN)
      go_wp2
      go_ret
      exact ⟨ret_int (by rw [HQ.out]), HB.out _⟩

end Go.Proofs.YtjfkfiffakbagaaGreatDoor
