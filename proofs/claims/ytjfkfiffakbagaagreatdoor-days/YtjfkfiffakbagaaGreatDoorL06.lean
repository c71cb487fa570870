/-
  Parts of the proof, one behind the other: Text, Dates, Times, Fields, Words, OnTxt, Sorted, RuleDays, RefPeak, RefFind, Taken.
-/
import Derived.Test.YtjfkfiffakbagaaGreatDoorL05
import Derived.Test.YtjfkfiffakbagaaGreatDoorProg
import Derived.Lib.IndexMore
import Derived.Lib.IndexLaws
import Derived.Lib.FieldsP
import Derived.Lib.Split
import Derived.Lib.SplitLaws
/-
  The plain mathematics of words: digits and numbers, names. It imports nothing of the program.
-/
namespace Go.Proofs.YtjfkfiffakbagaaGreatDoor.Txt

def dig (c : UInt8) : Bool := decide (48 ≤ (c.toNat : Int) ∧ (c.toNat : Int) ≤ 57)
def digs (l : List UInt8) : Bool := l.all dig
def numL (l : List UInt8) : Int := l.foldl (fun n c => n * 10 + ((c.toNat : Int) - 48)) 0
def low (c : UInt8) : Bool := decide (97 ≤ (c.toNat : Int) ∧ (c.toNat : Int) ≤ 122)
def lows (l : List UInt8) : Bool := l.all low
/-- NUM: one to seven digits. -/
def isNum (l : List UInt8) : Bool := decide (1 ≤ l.length ∧ l.length ≤ 7) && digs l
def isName (l : List UInt8) : Bool := decide (1 ≤ l.length ∧ l.length ≤ 8) && lows l

theorem dig_iff (c : UInt8) : dig c = true ↔ 48 ≤ (c.toNat : Int) ∧ (c.toNat : Int) ≤ 57 := by simp [dig]
theorem low_iff (c : UInt8) : low c = true ↔ 97 ≤ (c.toNat : Int) ∧ (c.toNat : Int) ≤ 122 := by simp [low]
theorem digs_snoc (l : List UInt8) (c : UInt8) : digs (l ++ [c]) = (digs l && dig c) := by simp [digs]
theorem lows_snoc (l : List UInt8) (c : UInt8) : lows (l ++ [c]) = (lows l && low c) := by simp [lows]
theorem numL_snoc (l : List UInt8) (c : UInt8) : numL (l ++ [c]) = numL l * 10 + ((c.toNat : Int) - 48) := by simp [numL]
theorem take_snoc (s : ByteArray) (k : Nat) (h : k < s.size) : s.data.toList.take (k + 1) = s.data.toList.take k ++ [s[k]] := by
  rw [List.take_succ_eq_append_getElem (by simpa using h)]; rfl
theorem take_all (s : ByteArray) (k : Nat) (h : s.size ≤ k) : s.data.toList.take k = s.data.toList := List.take_of_length_le (by simpa using h)
theorem len_list (s : ByteArray) : s.data.toList.length = s.size := by simp
theorem digs_of_take (l : List UInt8) (k : Nat) (h : digs (l.take k) = false) : digs l = false := by
  unfold digs at *
  rw [List.all_eq_false] at *
  obtain ⟨x, hx, h⟩ := h
  exact ⟨x, List.mem_of_mem_take hx, h⟩
theorem lows_of_take (l : List UInt8) (k : Nat) (h : lows (l.take k) = false) : lows l = false := by
  unfold lows at *
  rw [List.all_eq_false] at *
  obtain ⟨x, hx, h⟩ := h
  exact ⟨x, List.mem_of_mem_take hx, h⟩
theorem fold_bd (l : List UInt8) : ∀ (k : Nat) (n : Int), 0 ≤ n → n < 10 ^ k → digs l = true → 0 ≤ l.foldl (fun n c => n * 10 + ((c.toNat : Int) - 48)) n ∧ l.foldl (fun n c => n * 10 + ((c.toNat : Int) - 48)) n < 10 ^ (k + l.length) := by
  induction l with
  | nil => intro k n h0 h1 _; exact ⟨h0, h1⟩
  | cons c l ih =>
    intro k n h0 h1 hd
    simp only [digs, List.all_cons, Bool.and_eq_true] at hd
    have hc := (dig_iff c).1 hd.1
    have := ih (k + 1) (n * 10 + ((c.toNat : Int) - 48)) (by omega) (by rw [Int.pow_succ]; omega) hd.2
    simp only [List.foldl_cons, List.length_cons]
    rw [show k + (l.length + 1) = k + 1 + l.length from by omega]
    exact this
theorem numL_bd (l : List UInt8) (h : digs l = true) (hl : l.length ≤ 7) : 0 ≤ numL l ∧ numL l ≤ 9999999 := by
  have b := fold_bd l 0 0 (by omega) (by decide) h
  have q : ∀ k : Nat, k < 8 → (10 : Int) ^ k ≤ 10000000 := by decide
  have p := q (0 + l.length) (by omega)
  unfold numL
  omega
theorem isNum_true {l : List UInt8} (h1 : 1 ≤ l.length) (h2 : l.length ≤ 7) (h3 : digs l = true) : isNum l = true := by
  simp [isNum, h1, h2, h3]
theorem isNum_len {l : List UInt8} (h : ¬ (1 ≤ l.length ∧ l.length ≤ 7)) : isNum l = false := by
  unfold isNum; rw [decide_eq_false h]; rfl
theorem isNum_dig {l : List UInt8} (h : digs l = false) : isNum l = false := by simp [isNum, h]
theorem isNum_iff (l : List UInt8) : isNum l = true ↔ (1 ≤ l.length ∧ l.length ≤ 7) ∧ digs l = true := by simp [isNum]
theorem isName_true {l : List UInt8} (h1 : 1 ≤ l.length) (h2 : l.length ≤ 8) (h3 : lows l = true) : isName l = true := by
  simp [isName, h1, h2, h3]
theorem isName_len {l : List UInt8} (h : ¬ (1 ≤ l.length ∧ l.length ≤ 8)) : isName l = false := by
  unfold isName; rw [decide_eq_false h]; rfl
theorem isName_low {l : List UInt8} (h : lows l = false) : isName l = false := by simp [isName, h]
/-- What readNum hands back beside its answer. -/
def numV (l : List UInt8) : Int := if isNum l then numL l else 0
theorem numV_bd (l : List UInt8) : 0 ≤ numV l ∧ numV l ≤ 9999999 := by
  unfold numV
  split
  · rename_i h
    have := (isNum_iff l).1 h
    exact numL_bd l this.2 this.1.2
  · omega

end Go.Proofs.YtjfkfiffakbagaaGreatDoor.Txt


/-
  The plain mathematics of minutes, dates and times as words. It imports nothing of the program.
-/
namespace Go.Proofs.YtjfkfiffakbagaaGreatDoor.Txt

def byteAt (s : ByteArray) (i : Nat) : Int := ((s.data.toList.getD i 0).toNat : Int)
theorem byteAt_eq (s : ByteArray) (i : Nat) (h : i < s.size) : byteAt s i = (s[i].toNat : Int) := by
  unfold byteAt
  rw [List.getD_eq_getElem?_getD, List.getElem?_eq_getElem (by simpa using h)]
  rfl
def part (s : ByteArray) (a b : Nat) : List UInt8 := (s.extract a b).data.toList
/-- MINUTE -/
def minB (s : ByteArray) : Bool := decide (s.size = 5 ∧ byteAt s 2 = 58 ∧ isNum (part s 0 2) = true ∧ isNum (part s 3 5) = true ∧ numV (part s 0 2) ≤ 23 ∧ numV (part s 3 5) ≤ 59)
def minV (s : ByteArray) : Int := if minB s then numV (part s 0 2) * 60 + numV (part s 3 5) else 0
/-- a date of the calendar, written out -/
def dateB (s : ByteArray) : Bool := decide (s.size = 10 ∧ byteAt s 4 = 45 ∧ byteAt s 7 = 45 ∧ isNum (part s 0 4) = true ∧ isNum (part s 5 7) = true ∧ isNum (part s 8 10) = true ∧ Cal.ok (numV (part s 0 4)) (numV (part s 5 7)) (numV (part s 8 10)) = true)
def dateV (s : ByteArray) : Int := if dateB s then Cal.num (numV (part s 0 4)) (numV (part s 5 7)) (numV (part s 8 10)) else 0
/-- DATE -/
def dayB (s : ByteArray) : Bool := decide (dateB s = true ∧ 0 ≤ dateV s ∧ dateV s < 728)

theorem minB_false {s : ByteArray} (h : ¬ (s.size = 5 ∧ byteAt s 2 = 58 ∧ isNum (part s 0 2) = true ∧ isNum (part s 3 5) = true ∧ numV (part s 0 2) ≤ 23 ∧ numV (part s 3 5) ≤ 59)) : minB s = false := decide_eq_false h
theorem dateB_false {s : ByteArray} (h : ¬ (s.size = 10 ∧ byteAt s 4 = 45 ∧ byteAt s 7 = 45 ∧ isNum (part s 0 4) = true ∧ isNum (part s 5 7) = true ∧ isNum (part s 8 10) = true ∧ Cal.ok (numV (part s 0 4)) (numV (part s 5 7)) (numV (part s 8 10)) = true)) : dateB s = false := decide_eq_false h
theorem minB_and {s : ByteArray} (hs : s.size = 5) (hb : byteAt s 2 = 58) : minB s = (isNum (part s 0 2) && isNum (part s 3 5) && decide (numV (part s 0 2) ≤ 23) && decide (numV (part s 3 5) ≤ 59)) := by
  rw [Bool.eq_iff_iff]; simp [minB, hs, hb, and_assoc]
theorem dateB_and {s : ByteArray} (hs : s.size = 10) (hb : byteAt s 4 = 45) (hc : byteAt s 7 = 45) : dateB s = (isNum (part s 0 4) && isNum (part s 5 7) && isNum (part s 8 10) && Cal.ok (numV (part s 0 4)) (numV (part s 5 7)) (numV (part s 8 10))) := by
  rw [Bool.eq_iff_iff]; simp [dateB, hs, hb, hc, and_assoc]
theorem minV_bd (s : ByteArray) : 0 ≤ minV s ∧ minV s ≤ 1439 := by
  unfold minV
  split
  · rename_i h
    have h := of_decide_eq_true h
    have := numV_bd (part s 0 2)
    have := numV_bd (part s 3 5)
    omega
  · omega
theorem dateV_bd (s : ByteArray) : -738885 ≤ dateV s ∧ dateV s ≤ 2913173 := by
  unfold dateV
  split
  · rename_i h
    have h := of_decide_eq_true h
    have b := Cal.num_bd _ _ _ h.2.2.2.2.2.2
    unfold Cal.first Cal.last at b
    exact b
  · omega

end Go.Proofs.YtjfkfiffakbagaaGreatDoor.Txt


/-
  The plain mathematics of times as words: a day and a minute parted at the first slash are those parted at byte 10.
-/
namespace Go.Proofs.YtjfkfiffakbagaaGreatDoor.Txt
open Go

/-- DATE/MINUTE, as any date of the calendar -/
def dmB (s : ByteArray) : Bool := decide (s.size = 16 ∧ byteAt s 10 = 47 ∧ dateB (s.extract 0 10) = true ∧ minB (s.extract 11 16) = true)
def dmV (s : ByteArray) : Int := if dmB s then dateV (s.extract 0 10) * 1440 + minV (s.extract 11 16) else 0
def cutA (s : ByteArray) : ByteArray := { data := (Lib.cut s.data.toList [47]).fst.toArray }
def cutB (s : ByteArray) : ByteArray := { data := (Lib.cut s.data.toList [47]).snd.fst.toArray }
def cutF (s : ByteArray) : Bool := (Lib.cut s.data.toList [47]).snd.snd

theorem ext_list (s : ByteArray) (a b : Nat) : (s.extract a b).data.toList = (s.data.toList.take b).drop a := by
  rw [ByteArray.data_extract, Array.toList_extract]
  simp [List.drop_take]
theorem of_list {s t : ByteArray} (h : s.data.toList = t.data.toList) : s = t := by
  cases s; cases t; simp only at h; congr; exact Array.toList_inj.1 h
theorem dig_ne (c : UInt8) (h : dig c = true) : c ≠ 47 := by
  intro e; subst e; revert h; decide
theorem digs_mem {l : List UInt8} (h : digs l = true) {c : UInt8} (hc : c ∈ l) : c ≠ 47 := dig_ne c (by
  unfold digs at h; rw [List.all_eq_true] at h; exact h c hc)
theorem isNum_digs {l : List UInt8} (h : isNum l = true) : digs l = true := ((isNum_iff l).1 h).2

/-- The first ten bytes of a date are no slashes. -/
theorem date_noslash (t : ByteArray) (h : dateB t = true) : ∀ j, j < 10 → t.data.toList[j]? ≠ some 47 := by
  have h := of_decide_eq_true h
  obtain ⟨hs, b4, b7, n1, n2, n3, _⟩ := h
  have d1 := isNum_digs n1
  have d2 := isNum_digs n2
  have d3 := isNum_digs n3
  unfold part at d1 d2 d3
  rw [ext_list] at d1 d2 d3
  have hl : t.data.toList.length = 10 := by rw [len_list]; exact hs
  intro j hj he
  have hjl : j < t.data.toList.length := by omega
  have e : t.data.toList[j] = 47 := by
    rw [List.getElem?_eq_getElem hjl] at he; exact Option.some.inj he
  have m1 : j < 4 → False := fun h4 => digs_mem d1 (c := t.data.toList[j]) (by
    rw [List.mem_iff_getElem?]; exact ⟨j, by rw [List.getElem?_drop, List.getElem?_take]; simp [h4]⟩) e
  have m2 : 5 ≤ j → j < 7 → False := fun h5 h7 => digs_mem d2 (c := t.data.toList[j]) (by
    rw [List.mem_iff_getElem?]; exact ⟨j - 5, by rw [List.getElem?_drop, List.getElem?_take]; simp [show 5 + (j - 5) = j from by omega, h7]⟩) e
  have m3 : 8 ≤ j → False := fun h8 => digs_mem d3 (c := t.data.toList[j]) (by
    rw [List.mem_iff_getElem?]; exact ⟨j - 8, by rw [List.getElem?_drop, List.getElem?_take]; simp [show 8 + (j - 8) = j from by omega, hj]⟩) e
  have g : ∀ k : Nat, j = k → byteAt t k = 47 := fun k hk => by
    subst hk; unfold byteAt; rw [List.getD_eq_getElem?_getD, List.getElem?_eq_getElem hjl, e]; rfl
  by_cases c4 : j = 4
  · have := g 4 c4; omega
  · by_cases c7 : j = 7
    · have := g 7 c7; omega
    · by_cases c1 : j < 4
      · exact m1 c1
      · by_cases c2 : j < 7
        · exact m2 (by omega) c2
        · exact m3 (by omega)

theorem occ_one (l : List UInt8) (i : Nat) : Lib.occAt l [47] i = true ↔ l[i]? = some 47 := by
  unfold Lib.occAt
  rw [← List.head?_drop]
  cases l.drop i with
  | nil => simp [List.isPrefixOf]
  | cons b r => simp [List.isPrefixOf]; exact eq_comm

theorem cut_yes {s : ByteArray} (hs : s.size = 16) (hb : byteAt s 10 = 47) (hd : dateB (s.extract 0 10) = true) : cutA s = s.extract 0 10 ∧ cutB s = s.extract 11 16 ∧ cutF s = true := by
  have hl : s.data.toList.length = 16 := by rw [len_list]; exact hs
  have h10 : s.data.toList[10]? = some 47 := by
    unfold byteAt at hb
    rw [List.getD_eq_getElem?_getD, List.getElem?_eq_getElem (by omega)] at hb
    rw [List.getElem?_eq_getElem (by omega)]
    have : (s.data.toList[10]'(by omega)).toNat = 47 := by simpa using (by exact_mod_cast hb : _)
    rw [show s.data.toList[10]'(by omega) = 47 from UInt8.toNat_inj.1 (by simpa using this)]
  have hi : Lib.index s.data.toList [47] = 10 := Lib.index_first (i := 10) (by omega) ((occ_one _ _).2 h10) (fun j hj => by
    cases ho : Lib.occAt s.data.toList [47] j with
    | false => rfl
    | true =>
      have := date_noslash _ hd j hj
      rw [ext_list, List.drop_zero, List.getElem?_take, if_pos hj] at this
      exact absurd ((occ_one _ _).1 ho) this)
  have hc : Lib.cut s.data.toList [47] = (s.data.toList.take 10, s.data.toList.drop 11, true) := by
    unfold Lib.cut; rw [hi]; rfl
  refine ⟨of_list ?_, of_list ?_, ?_⟩
  · simp only [cutA, hc, ext_list]; simp
  · simp only [cutB, hc, ext_list]; rw [List.take_of_length_le (by omega)]
  · simp [cutF, hc]

/-- A day and a minute parted at the first slash: those parted at byte 10. -/
theorem cut_dm (s : ByteArray) : (cutF s && dateB (cutA s) && minB (cutB s)) = dmB s ∧ (dmB s = true → dateV (cutA s) * 1440 + minV (cutB s) = dmV s) := by
  have key : (cutF s && dateB (cutA s) && minB (cutB s)) = dmB s := by
    rw [Bool.eq_iff_iff]
    constructor
    · intro h
      simp only [Bool.and_eq_true] at h
      obtain ⟨⟨hf, hd⟩, hm⟩ := h
      have s1 : (cutA s).size = 10 := (of_decide_eq_true hd).1
      have s2 : (cutB s).size = 5 := (of_decide_eq_true hm).1
      have hi : 0 ≤ Lib.index s.data.toList [47] := by
        by_cases hi : 0 ≤ Lib.index s.data.toList [47]
        · exact hi
        · simp [cutF, Lib.cut, hi] at hf
      obtain ⟨i, hi'⟩ := Int.eq_ofNat_of_zero_le hi
      have hr := Lib.index_room s.data.toList [47] hi
      have hc : Lib.cut s.data.toList [47] = (s.data.toList.take i, s.data.toList.drop (i + 1), true) := by
        unfold Lib.cut; rw [if_pos hi, hi']; simp
      have hocc : s.data.toList[i]? = some 47 := by
        rcases Lib.index_spec s.data.toList [47] with ⟨h, _⟩ | ⟨j, hj, _, ho, _⟩
        · omega
        · rw [hi'] at hj
          have : i = j := by omega
          subst this; exact (occ_one _ _).1 ho
      rw [hi'] at hr
      simp only [List.length_singleton, len_list] at hr
      have e1 : min i s.size = 10 := by
        rw [← len_list] at s1; simp only [cutA, hc] at s1; simpa using s1
      have e2 : s.size - (i + 1) = 5 := by
        rw [← len_list] at s2; simp only [cutB, hc] at s2; simpa using s2
      have i10 : i = 10 := by omega
      have hs : s.size = 16 := by omega
      subst i10
      have a1 : cutA s = s.extract 0 10 := of_list (by simp only [cutA, hc, ext_list]; simp)
      have a2 : cutB s = s.extract 11 16 := of_list (by simp only [cutB, hc, ext_list]; rw [List.take_of_length_le (by rw [len_list]; omega)])
      rw [a1] at hd
      rw [a2] at hm
      have hb : byteAt s 10 = 47 := by
        unfold byteAt; rw [List.getD_eq_getElem?_getD, hocc]; rfl
      exact decide_eq_true ⟨hs, hb, hd, hm⟩
    · intro h
      obtain ⟨hs, hb, hd, hm⟩ := of_decide_eq_true h
      obtain ⟨a1, a2, a3⟩ := cut_yes hs hb hd
      rw [a1, a2, a3, hd, hm]; rfl
  refine ⟨key, fun h => ?_⟩
  obtain ⟨hs, hb, hd, _⟩ := of_decide_eq_true h
  obtain ⟨a1, a2, _⟩ := cut_yes hs hb hd
  rw [a1, a2]; simp [dmV, h]

end Go.Proofs.YtjfkfiffakbagaaGreatDoor.Txt


/-
  The plain mathematics of splitting a text into words: by runes (as the library's FieldsFunc goes) and by bytes: the same words.
-/
namespace Go.Proofs.YtjfkfiffakbagaaGreatDoor.Txt
open Go

/-- One byte more: the spans that are closed, and where the open one began. -/
def spStep (b : Bool) (pos : Nat) (x : List (Nat × Nat) × Option Nat) : List (Nat × Nat) × Option Nat :=
  if b then (match x.2 with | some a => (x.1 ++ [(a, pos)], none) | none => (x.1, none)) else (x.1, some (x.2.getD pos))
def spK (s : ByteArray) : Nat → List (Nat × Nat) × Option Nat
  | 0 => ([], none)
  | k + 1 => spStep (decide (byteAt s k = 32)) k (spK s k)
/-- The words of a text. -/
def wordsS (s : ByteArray) : List ByteArray := (Lib.closeSpans s (spK s s.size)).map fun x => s.extract x.1 x.2

theorem get_byteAt (s : ByteArray) (i : Nat) (h : i < s.size) : (s.get! i).toNat = (byteAt s i).toNat := by
  unfold byteAt
  rw [List.getD_eq_getElem?_getD, List.getElem?_eq_getElem (by simpa using h)]
  simp only [Option.getD_some, Int.toNat_natCast]
  congr 1
  cases s with
  | mk a => simp only [ByteArray.get!]; rw [getElem!_pos a i h]; simp

/-- What is read at a place: a byte below 128, or a rune from 128 on whose bytes all are from 128 on. -/
theorem decode_bytes (s : ByteArray) (i : Nat) (h : i < s.size) :
    ((s.get! i).toNat < 128 ∧ Utf8.decode s i = ((s.get! i).toNat, 1)) ∨
    (128 ≤ (Utf8.decode s i).1 ∧ 1 ≤ (Utf8.decode s i).2 ∧ ∀ j, j < (Utf8.decode s i).2 → 128 ≤ (s.get! (i + j)).toNat ∧ i + j < s.size) := by
  unfold Utf8.decode
  simp only [Nat.add_zero]
  by_cases h0 : (s.get! i).toNat < 128
  · left; exact ⟨h0, by rw [if_pos (by omega)]⟩
  · right
    rw [if_neg (by omega)]
    have one : ∀ j, j < 1 → 128 ≤ (s.get! (i + j)).toNat ∧ i + j < s.size := fun j hj => by
      obtain rfl : j = 0 := by omega
      exact ⟨by simpa using h0, by omega⟩
    split
    · rename_i hc
      simp only [Bool.and_eq_true, decide_eq_true_eq, beq_iff_eq] at hc
      split
      · refine ⟨by simp only; omega, by simp, fun j hj => ?_⟩
        simp only at hj
        rcases (show j = 0 ∨ j = 1 by omega) with rfl | rfl
        · exact one 0 (by omega)
        · exact ⟨by omega, by omega⟩
      · exact ⟨by simp [Utf8.runeError], by simp, one⟩
    · split
      · rename_i hc
        simp only [Bool.and_eq_true, decide_eq_true_eq, beq_iff_eq] at hc
        split
        · rename_i hv
          simp only [Bool.and_eq_true, decide_eq_true_eq] at hv
          refine ⟨by simp only; omega, by simp, fun j hj => ?_⟩
          simp only at hj
          rcases (show j = 0 ∨ j = 1 ∨ j = 2 by omega) with rfl | rfl | rfl
          · exact one 0 (by omega)
          · exact ⟨by omega, by omega⟩
          · exact ⟨by omega, by omega⟩
        · exact ⟨by simp [Utf8.runeError], by simp, one⟩
      · split
        · rename_i hc
          simp only [Bool.and_eq_true, decide_eq_true_eq, beq_iff_eq] at hc
          split
          · rename_i hv
            simp only [Bool.and_eq_true, decide_eq_true_eq] at hv
            refine ⟨by simp only; omega, by simp, fun j hj => ?_⟩
            simp only at hj
            rcases (show j = 0 ∨ j = 1 ∨ j = 2 ∨ j = 3 by omega) with rfl | rfl | rfl | rfl
            · exact one 0 (by omega)
            · exact ⟨by omega, by omega⟩
            · exact ⟨by omega, by omega⟩
            · exact ⟨by omega, by omega⟩
          · exact ⟨by simp [Utf8.runeError], by simp, one⟩
        · exact ⟨by simp [Utf8.runeError], by simp, one⟩

theorem spK_run (s : ByteArray) (pos : Nat) : ∀ n : Nat, (∀ j, j < n + 1 → byteAt s (pos + j) ≠ 32) → spK s (pos + (n + 1)) = ((spK s pos).1, some ((spK s pos).2.getD pos)) := by
  intro n
  induction n with
  | zero =>
    intro h
    have := h 0 (by omega)
    simp only [Nat.add_zero] at this
    show spStep _ pos (spK s pos) = _
    rw [decide_eq_false this]; rfl
  | succ n ih =>
    intro h
    have i := ih (fun j hj => h j (by omega))
    have := h (n + 1) (by omega)
    show spStep (decide (byteAt s (pos + (n + 1)) = 32)) (pos + (n + 1)) (spK s (pos + (n + 1))) = _
    rw [decide_eq_false this, i]; rfl

theorem spans_eq (s : ByteArray) : ∀ (f pos : Nat), pos ≤ s.size → s.size - pos ≤ f → Lib.spansFromP (fun r => r == 32) s f pos (spK s pos).2 (spK s pos).1 = spK s s.size := by
  intro f
  induction f with
  | zero =>
    intro pos h1 h2
    obtain rfl : pos = s.size := by omega
    rfl
  | succ f ih =>
    intro pos h1 h2
    by_cases hlt : pos < s.size
    · unfold Lib.spansFromP
      rw [if_pos hlt]
      rcases decode_bytes s pos hlt with ⟨hb, hd⟩ | ⟨hr, hw, hj⟩
      · rw [hd]
        simp only
        have gb := get_byteAt s pos hlt
        have nb : 0 ≤ byteAt s pos := by unfold byteAt; omega
        have i := ih (pos + 1) (by omega) (by omega)
        have st : spK s (pos + 1) = spStep (decide (byteAt s pos = 32)) pos (spK s pos) := rfl
        by_cases h32 : byteAt s pos = 32
        · have e : ((s.get! pos).toNat == 32) = true := by rw [beq_iff_eq]; omega
          rw [e, if_pos rfl]
          rw [decide_eq_true h32] at st
          cases hs : (spK s pos).2 with
          | none => simp only; rw [st] at i; simp only [spStep, hs, if_true] at i; exact i
          | some a => simp only; rw [st] at i; simp only [spStep, hs, if_true] at i; exact i
        · have e : ((s.get! pos).toNat == 32) = false := by rw [beq_eq_false_iff_ne]; omega
          rw [e, if_neg (by decide)]
          rw [decide_eq_false h32] at st
          cases hs : (spK s pos).2 with
          | none => simp only; rw [st] at i; simp only [spStep, hs, Bool.false_eq_true, if_false, Option.getD_none] at i; exact i
          | some a => simp only; rw [st] at i; simp only [spStep, hs, Bool.false_eq_true, if_false, Option.getD_some] at i; exact i
      · have e : ((Utf8.decode s pos).1 == 32) = false := by rw [beq_eq_false_iff_ne]; omega
        rw [e, if_neg (by decide)]
        obtain ⟨n, hn⟩ : ∃ n, (Utf8.decode s pos).2 = n + 1 := ⟨(Utf8.decode s pos).2 - 1, by omega⟩
        have lastj := hj ((Utf8.decode s pos).2 - 1) (by omega)
        have st := spK_run s pos n (fun j hjn => by
          have q := hj j (by omega)
          have gb := get_byteAt s (pos + j) q.2
          have nb : 0 ≤ byteAt s (pos + j) := by unfold byteAt; omega
          omega)
        have i := ih (pos + (n + 1)) (by omega) (by omega)
        rw [st] at i
        rw [hn]
        cases hs : (spK s pos).2 with
        | none => simp only; simp only [hs, Option.getD_none] at i; exact i
        | some a => simp only; simp only [hs, Option.getD_some] at i; exact i
    · obtain rfl : pos = s.size := by omega
      unfold Lib.spansFromP
      rw [if_neg hlt]

/-- The library's fields at blanks are the words. -/
theorem fields_words (s : ByteArray) : Lib.goFieldsP (fun r => r == 32) s = wordsS s := by
  unfold Lib.goFieldsP Lib.spansOfP wordsS
  have := spans_eq s s.size 0 (Nat.zero_le _) (by omega)
  rw [show (spK s 0).2 = none from rfl, show (spK s 0).1 = [] from rfl] at this
  rw [this]

end Go.Proofs.YtjfkfiffakbagaaGreatDoor.Txt


/-
  The plain mathematics of the words, byte by byte, as the document's own splitting goes.
-/
namespace Go.Proofs.YtjfkfiffakbagaaGreatDoor.Txt
open Go

/-- The word that is under way behind k bytes; the words that are whole. -/
def curS (s : ByteArray) (k : Nat) : ByteArray := match (spK s k).2 with | none => ⟨#[]⟩ | some a => s.extract a k
def accS (s : ByteArray) (k : Nat) : List ByteArray := (spK s k).1.map fun x => s.extract x.1 x.2

theorem spK_lt (s : ByteArray) : ∀ (k a : Nat), (spK s k).2 = some a → a < k
  | 0, a, h => by simp [spK] at h
  | k + 1, a, h => by
    simp only [spK, spStep] at h
    split at h
    · split at h <;> simp at h
    · simp only [Option.some.injEq] at h
      cases hs : (spK s k).2 with
      | none => rw [hs] at h; simp at h; omega
      | some b => rw [hs] at h; simp at h; have := spK_lt s k b hs; omega
theorem append_list (a b : ByteArray) : (a ++ b).data.toList = a.data.toList ++ b.data.toList := by
  rw [ByteArray.data_append, Array.toList_append]
theorem ext_app (s : ByteArray) (a k : Nat) (h : a ≤ k) : s.extract a k ++ s.extract k (k + 1) = s.extract a (k + 1) := by
  apply of_list
  rw [append_list, ext_list, ext_list, ext_list]
  have h1 : (s.data.toList.take k).drop a = ((s.data.toList.take (k + 1)).drop a).take (k - a) := by
    rw [List.drop_take, List.drop_take, List.take_take, show min (k - a) (k + 1 - a) = k - a from by omega]
  have h2 : (s.data.toList.take (k + 1)).drop k = ((s.data.toList.take (k + 1)).drop a).drop (k - a) := by
    rw [List.drop_drop, show a + (k - a) = k from by omega]
  rw [h1, h2, List.take_append_drop]
theorem cur_size (s : ByteArray) (k : Nat) : (curS s k).size ≤ k := by
  unfold curS
  split
  · exact Nat.zero_le _
  · have : ∀ a b, (s.extract a b).size = min b s.size - a := fun a b => ByteArray.size_extract ..
    rw [this]; omega
theorem empty_app (b : ByteArray) : (⟨#[]⟩ : ByteArray) ++ b = b := by
  apply of_list; rw [append_list]; rfl
theorem cur_next (s : ByteArray) (k : Nat) (h : byteAt s k ≠ 32) : curS s k ++ s.extract k (k + 1) = curS s (k + 1) ∧ accS s (k + 1) = accS s k := by
  have e : spK s (k + 1) = ((spK s k).1, some ((spK s k).2.getD k)) := by simp only [spK, spStep, decide_eq_false h]; rfl
  refine ⟨?_, by unfold accS; rw [e]⟩
  unfold curS
  rw [e]
  cases hs : (spK s k).2 with
  | none => simp only [Option.getD_none]; exact empty_app _
  | some a => simp only [Option.getD_some]; exact ext_app s a k (Nat.le_of_lt (spK_lt s k a hs))
theorem cur_blank (s : ByteArray) (k : Nat) (hk : k ≤ s.size) (h : byteAt s k = 32) : curS s (k + 1) = ⟨#[]⟩ ∧ accS s (k + 1) = accS s k ++ (if (curS s k).size = 0 then [] else [curS s k]) := by
  have e : spK s (k + 1) = spStep true k (spK s k) := by simp only [spK, decide_eq_true h]
  cases hs : (spK s k).2 with
  | none =>
    have e2 : spK s (k + 1) = ((spK s k).1, none) := by rw [e]; simp [spStep, hs]
    have c : curS s k = ⟨#[]⟩ := by unfold curS; rw [hs]
    refine ⟨by unfold curS; rw [e2], ?_⟩
    rw [c]; unfold accS; rw [e2]; simp; rfl
  | some a =>
    have e2 : spK s (k + 1) = ((spK s k).1 ++ [(a, k)], none) := by rw [e]; simp [spStep, hs]
    have c : curS s k = s.extract a k := by unfold curS; rw [hs]
    have lt := spK_lt s k a hs
    have sz : (s.extract a k).size = min k s.size - a := ByteArray.size_extract ..
    refine ⟨by unfold curS; rw [e2], ?_⟩
    rw [c, if_neg (by omega)]; unfold accS; rw [e2]; simp
theorem words_end (s : ByteArray) : wordsS s = accS s s.size ++ (if (curS s s.size).size = 0 then [] else [curS s s.size]) := by
  unfold wordsS accS curS Lib.closeSpans
  cases hs : (spK s s.size).2 with
  | none => simp; rfl
  | some a =>
    have lt := spK_lt s _ a hs
    have sz : (s.extract a s.size).size = min s.size s.size - a := ByteArray.size_extract ..
    simp only
    rw [if_neg (by omega)]; simp
theorem acc_len (s : ByteArray) : ∀ k : Nat, (accS s k).length ≤ k
  | 0 => Nat.le_refl _
  | k + 1 => by
    have ih := acc_len s k
    unfold accS at *
    rw [List.length_map] at *
    simp only [spK, spStep]
    split
    · split <;> simp <;> omega
    · simp; omega

end Go.Proofs.YtjfkfiffakbagaaGreatDoor.Txt


/-
  The plain mathematics of ON: days of the week with commas between them, split by commas or read three bytes at a time: the same.
-/
namespace Go.Proofs.YtjfkfiffakbagaaGreatDoor.Txt
open Go

/-- The day of a word of two letters; -1: it is none. -/
def wdL (l : List UInt8) : Int :=
  if l == [109, 111] then 0 else if l == [116, 117] then 1 else if l == [119, 101] then 2 else if l == [116, 104] then 3 else if l == [102, 114] then 4 else if l == [115, 97] then 5 else if l == [115, 117] then 6 else -1
theorem wdL_bd (l : List UInt8) : -1 ≤ wdL l ∧ wdL l ≤ 6 := by
  unfold wdL; (repeat' split) <;> omega
theorem wdL_names {l : List UInt8} (h : 0 ≤ wdL l) : l = [109, 111] ∨ l = [116, 117] ∨ l = [119, 101] ∨ l = [116, 104] ∨ l = [102, 114] ∨ l = [115, 97] ∨ l = [115, 117] := by
  unfold wdL at h
  by_cases c0 : (l == [109, 111]) = true
  · exact .inl (beq_iff_eq.1 c0)
  · rw [if_neg c0] at h
    by_cases c1 : (l == [116, 117]) = true
    · exact .inr (.inl (beq_iff_eq.1 c1))
    · rw [if_neg c1] at h
      by_cases c2 : (l == [119, 101]) = true
      · exact .inr (.inr (.inl (beq_iff_eq.1 c2)))
      · rw [if_neg c2] at h
        by_cases c3 : (l == [116, 104]) = true
        · exact .inr (.inr (.inr (.inl (beq_iff_eq.1 c3))))
        · rw [if_neg c3] at h
          by_cases c4 : (l == [102, 114]) = true
          · exact .inr (.inr (.inr (.inr (.inl (beq_iff_eq.1 c4)))))
          · rw [if_neg c4] at h
            by_cases c5 : (l == [115, 97]) = true
            · exact .inr (.inr (.inr (.inr (.inr (.inl (beq_iff_eq.1 c5))))))
            · rw [if_neg c5] at h
              by_cases c6 : (l == [115, 117]) = true
              · exact .inr (.inr (.inr (.inr (.inr (.inr (beq_iff_eq.1 c6))))))
              · rw [if_neg c6] at h; omega
theorem wdL_len {l : List UInt8} (h : 0 ≤ wdL l) : l.length = 2 ∧ 44 ∉ l := by
  rcases wdL_names h with rfl | rfl | rfl | rfl | rfl | rfl | rfl <;> decide
theorem wdL_bad {l : List UInt8} (h : ¬ (l.length = 2 ∧ 44 ∉ l)) : wdL l = -1 := by
  have b := wdL_bd l
  by_cases g : 0 ≤ wdL l
  · exact absurd (wdL_len g) h
  · omega

/-- One day more. -/
def onStep (acc : List Int) (d : Int) : Option (List Int) := if 0 ≤ d ∧ acc.contains d = false then some (d :: acc) else none
/-- As the split pieces are read. -/
def onP : List (List UInt8) → List Int → Option (List Int)
  | [], acc => some acc
  | p :: ps, acc => (onStep acc (wdL p)).bind (onP ps)
/-- Three bytes at a time. -/
def onC : List UInt8 → List Int → Option (List Int)
  | [a, b], acc => onStep acc (wdL [a, b])
  | a :: b :: c :: r, acc => if c = 44 then (onStep acc (wdL [a, b])).bind (onC r) else none
  | _, _ => none
/-- Split at commas. -/
def sp : List UInt8 → List (List UInt8)
  | [] => [[]]
  | c :: l => if c = 44 then [] :: sp l else (match sp l with | [] => [[c]] | p :: ps => (c :: p) :: ps)

theorem step_bad (acc : List Int) : onStep acc (-1) = none := by simp [onStep]
theorem sp_ne (l : List UInt8) : sp l ≠ [] := by
  cases l with
  | nil => simp [sp]
  | cons c l => unfold sp; split; simp; split <;> simp
theorem onP_first {p : List UInt8} (ps : List (List UInt8)) (acc : List Int) (h : ¬ (p.length = 2 ∧ 44 ∉ p)) : onP (p :: ps) acc = none := by
  simp [onP, wdL_bad h, step_bad]
/-- The first piece of a text. -/
theorem sp_cons (c : UInt8) (l : List UInt8) (h : c ≠ 44) : ∃ p ps, sp l = p :: ps ∧ sp (c :: l) = (c :: p) :: ps := by
  cases hs : sp l with
  | nil => exact absurd hs (sp_ne l)
  | cons p ps => exact ⟨p, ps, rfl, by simp [sp, h, hs]⟩
theorem sp_comma (l : List UInt8) : sp (44 :: l) = [] :: sp l := by simp [sp]

theorem on_same : ∀ (l : List UInt8) (acc : List Int), onP (sp l) acc = onC l acc
  | [], acc => by rw [show sp [] = [[]] from rfl, onP_first _ _ (by simp)]; rfl
  | [a], acc => by
    by_cases ha : a = 44
    · subst ha; rw [sp_comma, onP_first _ _ (by simp)]; rfl
    · obtain ⟨p, ps, h1, h2⟩ := sp_cons a [] ha
      simp only [sp, List.cons.injEq] at h1
      obtain ⟨rfl, rfl⟩ := h1
      rw [h2, onP_first _ _ (by simp)]; rfl
  | [a, b], acc => by
    by_cases ha : a = 44
    · subst ha; rw [sp_comma, onP_first _ _ (by simp), onC, wdL_bad (by simp), step_bad]
    · obtain ⟨p, ps, h1, h2⟩ := sp_cons a [b] ha
      rw [h2]
      by_cases hb : b = 44
      · subst hb
        rw [sp_comma] at h1
        simp only [List.cons.injEq] at h1
        obtain ⟨rfl, rfl⟩ := h1
        rw [onP_first _ _ (by simp), onC, wdL_bad (by simp), step_bad]
      · obtain ⟨p', ps', h1', h2'⟩ := sp_cons b [] hb
        simp only [sp, List.cons.injEq] at h1'
        obtain ⟨rfl, rfl⟩ := h1'
        rw [h2'] at h1
        simp only [List.cons.injEq] at h1
        obtain ⟨rfl, rfl⟩ := h1
        simp only [onP, onC]
        cases onStep acc (wdL [a, b]) <;> rfl
  | a :: b :: c :: l, acc => by
    have ih := on_same l
    by_cases ha : a = 44
    · subst ha
      rw [sp_comma, onP_first _ _ (by simp), onC, wdL_bad (by simp), step_bad]
      split <;> rfl
    · obtain ⟨p, ps, h1, h2⟩ := sp_cons a (b :: c :: l) ha
      rw [h2]
      by_cases hb : b = 44
      · subst hb
        rw [sp_comma] at h1
        simp only [List.cons.injEq] at h1
        obtain ⟨rfl, rfl⟩ := h1
        rw [onP_first _ _ (by simp), onC, wdL_bad (by simp), step_bad]
        split <;> rfl
      · obtain ⟨p', ps', h1', h2'⟩ := sp_cons b (c :: l) hb
        rw [h2'] at h1
        simp only [List.cons.injEq] at h1
        obtain ⟨rfl, rfl⟩ := h1
        by_cases hc : c = 44
        · subst hc
          rw [sp_comma] at h1'
          simp only [List.cons.injEq] at h1'
          obtain ⟨rfl, rfl⟩ := h1'
          simp only [onP, onC, if_true]
          cases onStep acc (wdL [a, b]) with
          | none => rfl
          | some x => exact ih x
        · obtain ⟨p'', ps'', _, h2''⟩ := sp_cons c l hc
          rw [h2''] at h1'
          simp only [List.cons.injEq] at h1'
          obtain ⟨rfl, rfl⟩ := h1'
          rw [onP_first _ _ (by simp), onC, if_neg hc]

theorem index_cons (c : UInt8) (l : List UInt8) (h : c ≠ 44) : Lib.index (c :: l) [44] = if Lib.index l [44] == -1 then -1 else Lib.index l [44] + 1 := by
  rw [Lib.index]
  have : ([44] : List UInt8).isPrefixOf (c :: l) = false := by simp [List.isPrefixOf]; exact fun e => h e.symm
  rw [this]; rfl
theorem index_comma (l : List UInt8) : Lib.index (44 :: l) [44] = 0 := by
  rw [Lib.index]; simp [List.isPrefixOf]
theorem splitK_cons (c : UInt8) (l : List UInt8) (h : c ≠ 44) (k : Nat) : ∃ p ps, Lib.splitK [44] 0 k l = p :: ps ∧ Lib.splitK [44] 0 k (c :: l) = (c :: p) :: ps := by
  cases k with
  | zero => exact ⟨l, [], rfl, rfl⟩
  | succ k =>
    unfold Lib.splitK
    rw [index_cons c l h]
    by_cases hi : (Lib.index l [44] == -1) = true
    · rw [if_pos hi, if_pos hi]; exact ⟨l, [], rfl, rfl⟩
    · rw [if_neg hi, if_neg hi]
      have g := Lib.index_ge l [44]
      have hn : Lib.index l [44] ≠ -1 := fun e => hi (beq_iff_eq.2 e)
      rw [if_neg (by rw [beq_iff_eq]; omega)]
      refine ⟨_, _, rfl, ?_⟩
      obtain ⟨i, hi'⟩ := Int.eq_ofNat_of_zero_le (show 0 ≤ Lib.index l [44] by omega)
      rw [hi', show ((i : Int) + 1).toNat = i + 1 from by omega, show ((i : Int)).toNat = i from by omega]
      simp
theorem split_sp : ∀ l : List UInt8, Lib.splitK [44] 0 (l.count 44) l = sp l
  | [] => rfl
  | c :: l => by
    have ih := split_sp l
    by_cases h : c = 44
    · subst h
      rw [List.count_cons_self, sp_comma, ← ih]
      rw [Lib.splitK, index_comma]; simp
    · rw [List.count_cons_of_ne (by simpa using h)]
      obtain ⟨p, ps, h1, h2⟩ := splitK_cons c l h (l.count 44)
      rw [h2]
      rw [ih] at h1
      simp [sp, h, h1]

/-- What ON says of a word: the days that it names, the last first; none: it is none. -/
def onW (s : ByteArray) : Option (List Int) := onC s.data.toList []
def onB (s : ByteArray) : Bool := (onW s).isSome
theorem pieces_on (s : ByteArray) : onP ((Lib.splitB ⟨#[44]⟩ 0 (Lib.countB s ⟨#[44]⟩) s).map (·.data.toList)) [] = onW s := by
  rw [Lib.splitB_data]
  have hc : Lib.countB s ⟨#[44]⟩ = s.data.toList.count 44 := Lib.count_one 44 s.data.toList
  rw [hc, show (ByteArray.mk #[44]).data.toList = [44] from rfl, split_sp, on_same]; rfl

end Go.Proofs.YtjfkfiffakbagaaGreatDoor.Txt

namespace Go.Proofs.YtjfkfiffakbagaaGreatDoor
/-- Is a day of the week among them? -/
def isd (acc : List Int) (j : Int) : Bool := acc.contains j
end Go.Proofs.YtjfkfiffakbagaaGreatDoor


/-
  Two rows in one strict order that hold the same are one.
-/
namespace Go.Proofs.YtjfkfiffakbagaaGreatDoor

/-- Two rows in one strict order that hold the same are one. -/
theorem sorted_unique {α : Type} {lt : α → α → Prop} (hi : ∀ x, ¬ lt x x) (ht : ∀ x y z, lt x y → lt y z → lt x z) : ∀ {l m : List α}, l.Pairwise lt → m.Pairwise lt → (∀ x, x ∈ l ↔ x ∈ m) → l = m
  | [], [], _, _, _ => rfl
  | [], y :: m, _, _, h => by have := (h y).2 (by simp); simp at this
  | x :: l, [], _, _, h => by have := (h x).1 (by simp); simp at this
  | x :: l, y :: m, hl, hm, h => by
    rw [List.pairwise_cons] at hl hm
    have e : x = y := by
      rcases List.mem_cons.1 ((h x).1 (by simp)) with e | e
      · exact e
      · rcases List.mem_cons.1 ((h y).2 (by simp)) with k | k
        · exact k.symm
        · exact absurd (ht _ _ _ (hl.1 y k) (hm.1 x e)) (hi x)
    subst e
    congr 1
    refine sorted_unique hi ht hl.2 hm.2 (fun z => ?_)
    constructor
    · intro hz
      rcases List.mem_cons.1 ((h z).1 (by simp [hz])) with e | e
      · subst e; exact absurd (hl.1 z hz) (hi z)
      · exact e
    · intro hz
      rcases List.mem_cons.1 ((h z).2 (by simp [hz])) with e | e
      · subst e; exact absurd (hm.1 z hz) (hi z)
      · exact e

end Go.Proofs.YtjfkfiffakbagaaGreatDoor


/-
  The days of a rule, as mathematics: what the program goes through and what the document asks day by day are one row.
-/
namespace Go.Proofs.YtjfkfiffakbagaaGreatDoor
namespace Rd

/-- The days from d on, so many of them looked at, that have a property. -/
def upDays (p : Int → Bool) : Nat → Int → List Int
  | 0, _ => []
  | k + 1, d => if p d then d :: upDays p k (d + 1) else upDays p k (d + 1)
theorem upDays_mem (p : Int → Bool) : ∀ (k : Nat) (d x : Int), x ∈ upDays p k d ↔ d ≤ x ∧ x < d + k ∧ p x = true
  | 0, d, x => by simp [upDays]; omega
  | k + 1, d, x => by
    have ih := upDays_mem p k (d + 1) x
    simp only [upDays]
    by_cases c : p d = true
    · rw [if_pos c, List.mem_cons, ih]
      constructor
      · rintro (rfl | ⟨h1, h2, h3⟩)
        · exact ⟨Int.le_refl _, by omega, c⟩
        · exact ⟨by omega, by omega, h3⟩
      · rintro ⟨h1, h2, h3⟩
        by_cases e : x = d
        · exact .inl e
        · exact .inr ⟨by omega, by omega, h3⟩
    · rw [if_neg c, ih]
      constructor
      · rintro ⟨h1, h2, h3⟩; exact ⟨by omega, by omega, h3⟩
      · rintro ⟨h1, h2, h3⟩
        have : x ≠ d := fun e => c (e ▸ h3)
        exact ⟨by omega, by omega, h3⟩
theorem upDays_up (p : Int → Bool) : ∀ (k : Nat) (d : Int), (upDays p k d).Pairwise (· < ·)
  | 0, d => by simp [upDays]
  | k + 1, d => by
    simp only [upDays]
    split
    · rw [List.pairwise_cons]
      exact ⟨fun x hx => by have := (upDays_mem p k (d + 1) x).1 hx; omega, upDays_up p k (d + 1)⟩
    · exact upDays_up p k (d + 1)
theorem up_unique {l m : List Int} (hl : l.Pairwise (· < ·)) (hm : m.Pairwise (· < ·)) (h : ∀ x, x ∈ l ↔ x ∈ m) : l = m :=
  sorted_unique (lt := fun a b : Int => a < b) (fun x => by omega) (fun x y z h k => by omega) hl hm h

/-- daily -/
def seqD (ev : Int) : Nat → Int → List Int
  | 0, _ => []
  | k + 1, d => if d < 728 then d :: seqD ev k (d + ev) else []
theorem seqD_mem {ev : Int} (he : 1 ≤ ev) : ∀ (k : Nat) (d x : Int), 728 ≤ d + k → (x ∈ seqD ev k d ↔ d ≤ x ∧ x < 728 ∧ (x - d) % ev = 0)
  | 0, d, x, h => by simp [seqD]; omega
  | k + 1, d, x, h => by
    simp only [seqD]
    by_cases c : d < 728
    · rw [if_pos c, List.mem_cons, seqD_mem he k (d + ev) x (by omega)]
      have e1 : (x - (d + ev)) % ev = (x - d) % ev := by rw [show x - (d + ev) = x - d - ev from by omega, Int.sub_emod_right]
      rw [e1]
      constructor
      · rintro (rfl | ⟨h1, h2, h3⟩)
        · exact ⟨Int.le_refl _, c, by simp⟩
        · exact ⟨by omega, h2, h3⟩
      · rintro ⟨h1, h2, h3⟩
        by_cases e : d + ev ≤ x
        · exact .inr ⟨e, h2, h3⟩
        · rw [Int.emod_eq_of_lt (by omega) (by omega)] at h3
          exact .inl (by omega)
    · rw [if_neg c]
      simp; omega
theorem seqD_up {ev : Int} (he : 1 ≤ ev) : ∀ (k : Nat) (d : Int), (seqD ev k d).Pairwise (· < ·) ∧ ∀ x ∈ seqD ev k d, d ≤ x
  | 0, d => by simp [seqD]
  | k + 1, d => by
    simp only [seqD]
    obtain ⟨i1, i2⟩ := seqD_up he k (d + ev)
    split
    · refine ⟨List.pairwise_cons.2 ⟨fun x hx => by have := i2 x hx; omega, i1⟩, fun x hx => ?_⟩
      rcases List.mem_cons.1 hx with rfl | hx
      · exact Int.le_refl _
      · have := i2 x hx; omega
    · simp

/-- weekly: the days of the week that begins at mon, not ahead of fr. -/
def week (acc : List Int) (fr mon : Int) : List Int := upDays (fun d => isd acc (d - mon)) (mon + 7 - max mon fr).toNat (max mon fr)
def seqW (acc : List Int) (fr ev : Int) : Nat → Int → List Int
  | 0, _ => []
  | k + 1, mon => if mon < 728 then week acc fr mon ++ seqW acc fr ev k (mon + ev * 7) else []
theorem week_mem {acc : List Int} {fr mon x : Int} : x ∈ week acc fr mon ↔ mon ≤ x ∧ fr ≤ x ∧ x < mon + 7 ∧ isd acc (x - mon) = true := by
  unfold week
  rw [upDays_mem]
  constructor
  · rintro ⟨h1, h2, h3⟩; exact ⟨by omega, by omega, by omega, h3⟩
  · rintro ⟨h1, h2, h3, h4⟩; exact ⟨by omega, by omega, h4⟩
theorem seqW_mem {acc : List Int} {fr ev : Int} (he : 1 ≤ ev) : ∀ (k : Nat) (mon x : Int), 0 ≤ mon → mon % 7 = 0 → 728 ≤ mon + k → (x ∈ seqW acc fr ev k mon ↔ mon ≤ x ∧ fr ≤ x ∧ x < 728 ∧ isd acc (x % 7) = true ∧ (x / 7 - mon / 7) % ev = 0)
  | 0, mon, x, h0, h7, h => by simp [seqW]; omega
  | k + 1, mon, x, h0, h7, h => by
    simp only [seqW]
    by_cases c : mon < 728
    · have hev : (ev * 7) % 7 = 0 := by omega
      rw [if_pos c, List.mem_append, week_mem, seqW_mem he k (mon + ev * 7) x (by omega) (by omega) (by omega)]
      have e0 : (mon + ev * 7) / 7 = mon / 7 + ev := by omega
      have e1 : (x / 7 - (mon + ev * 7) / 7) % ev = (x / 7 - mon / 7) % ev := by rw [e0, show x / 7 - (mon / 7 + ev) = x / 7 - mon / 7 - ev from by omega, Int.sub_emod_right]
      rw [e1]
      constructor
      · rintro (⟨h1, h2, h3, h4⟩ | ⟨h1, h2, h3, h4, h5⟩)
        · have e2 : x - mon = x % 7 := by omega
          have e3 : x / 7 - mon / 7 = 0 := by omega
          rw [e2] at h4
          rw [e3]
          exact ⟨h1, h2, by omega, h4, by simp⟩
        · exact ⟨by omega, h2, h3, h4, h5⟩
      · rintro ⟨h1, h2, h3, h4, h5⟩
        by_cases e : x < mon + 7
        · have e2 : x - mon = x % 7 := by omega
          exact .inl ⟨h1, h2, e, by rw [e2]; exact h4⟩
        · by_cases e' : mon + ev * 7 ≤ x
          · exact .inr ⟨e', h2, h3, h4, h5⟩
          · rw [Int.emod_eq_of_lt (by omega) (by omega)] at h5
            omega
    · rw [if_neg c]
      simp; omega
theorem seqW_up {acc : List Int} {fr ev : Int} (he : 1 ≤ ev) : ∀ (k : Nat) (mon : Int), (seqW acc fr ev k mon).Pairwise (· < ·) ∧ ∀ x ∈ seqW acc fr ev k mon, mon ≤ x
  | 0, mon => by simp [seqW]
  | k + 1, mon => by
    simp only [seqW]
    obtain ⟨i1, i2⟩ := seqW_up (acc := acc) (fr := fr) he k (mon + ev * 7)
    split
    · refine ⟨List.pairwise_append.2 ⟨upDays_up _ _ _, i1, fun x hx y hy => ?_⟩, fun x hx => ?_⟩
      · have := week_mem.1 hx
        have := i2 y hy
        omega
      · rcases List.mem_append.1 hx with hx | hx
        · exact (week_mem.1 hx).1
        · have := i2 x hx; omega
    · simp

/-- monthly -/
def reached (y m : Int) : Bool := Cal.ok y m 1 && decide (Cal.num y m 1 < 728)
def laterY (y m ev : Int) : Int := y + (m - 1 + ev) / 12
def laterM (m ev : Int) : Int := (m - 1 + ev) % 12 + 1
def inMonth (y m dt : Int) : List Int := if Cal.ok y m dt then [Cal.num y m dt] else []
def seqM (dt ev : Int) : Nat → Int → Int → List Int
  | 0, _, _ => []
  | k + 1, y, m => if reached y m then inMonth y m dt ++ seqM dt ev k (laterY y m ev) (laterM m ev) else []
theorem num_lt {y m d y' m' d' : Int} (h : Cal.ok y m d = true) (h' : Cal.ok y' m' d' = true) (k : 12 * y + m < 12 * y' + m') : Cal.num y m d < Cal.num y' m' d' := by
  have i := Cal.in_year y m d h
  have i' := Cal.in_year y' m' d' h'
  obtain ⟨h1, h2, h3, h4, h5, h6⟩ := (Cal.ok_iff y m d).1 h
  obtain ⟨g1, g2, g3, g4, g5, g6⟩ := (Cal.ok_iff y' m' d').1 h'
  by_cases e : y = y'
  · subst e
    have := Cal.cum_mono y m m' h3 (by omega) (by omega)
    unfold Cal.num; omega
  · have := Cal.ah_mono (y + 1) y' (by omega) (by omega)
    omega
theorem ok_first {y m : Int} (h1 : 1 ≤ y) (h2 : y ≤ 9999) (h3 : 1 ≤ m) (h4 : m ≤ 12) : Cal.ok y m 1 = true := by
  have := Cal.dim_bd y m
  exact (Cal.ok_iff _ _ _).2 ⟨h1, h2, h3, h4, by omega, by omega⟩
theorem reached_iff {y m : Int} (h1 : 2024 ≤ y) (h2 : y ≤ 9999) (h3 : 1 ≤ m) (h4 : m ≤ 12) : reached y m = true ↔ 12 * y + m ≤ 24312 := by
  have o := ok_first (m := m) (by omega : 1 ≤ y) h2 h3 h4
  unfold reached
  rw [o, Bool.true_and, decide_eq_true_eq]
  have e1 : Cal.num 2025 12 1 = 700 := by decide
  have e2 : Cal.num 2026 1 1 = 731 := by decide
  constructor
  · intro h
    apply Classical.byContradiction
    intro c
    by_cases e : 12 * y + m = 24313
    · have : y = 2026 := by omega
      have : m = 1 := by omega
      subst_vars; omega
    · have := num_lt (ok_first (y := 2026) (m := 1) (by omega) (by omega) (by omega) (by omega)) o (by omega)
      omega
  · intro h
    by_cases e : 12 * y + m = 24312
    · have : y = 2025 := by omega
      have : m = 12 := by omega
      subst_vars; omega
    · have := num_lt o (ok_first (y := 2025) (m := 12) (by omega) (by omega) (by omega) (by omega)) (by omega)
      omega
theorem later_is {y m ev : Int} : 12 * laterY y m ev + laterM m ev = 12 * y + m + ev ∧ 1 ≤ laterM m ev ∧ laterM m ev ≤ 12 := by
  unfold laterY laterM; omega
theorem monthOf {x : Int} (h0 : 0 ≤ x) (h1 : x < 728) : Cal.ok (Cal.yT x) (Cal.mT x) (Cal.dT x) = true ∧ Cal.num (Cal.yT x) (Cal.mT x) (Cal.dT x) = x ∧ 2024 ≤ Cal.yT x ∧ 12 * Cal.yT x + Cal.mT x ≤ 24312 := by
  obtain ⟨o, n⟩ := Cal.dT_ok x (by omega) (by omega)
  refine ⟨o, n, ?_, ?_⟩
  · apply Classical.byContradiction
    intro c
    obtain ⟨g1, g2, g3, g4, g5, g6⟩ := (Cal.ok_iff _ _ _).1 o
    have := num_lt o (ok_first (y := 2024) (m := 1) (by omega) (by omega) (by omega) (by omega)) (by omega)
    have e : Cal.num 2024 1 1 = 0 := by decide
    omega
  · apply Classical.byContradiction
    intro c
    obtain ⟨g1, g2, g3, g4, g5, g6⟩ := (Cal.ok_iff _ _ _).1 o
    have e2 : Cal.num 2026 1 1 = 731 := by decide
    have o2 := ok_first (y := 2026) (m := 1) (by omega) (by omega) (by omega) (by omega)
    by_cases e : 12 * Cal.yT x + Cal.mT x = 24313
    · have : Cal.yT x = 2026 := by omega
      have e' : Cal.mT x = 1 := by omega
      rw [this, e'] at n
      have e3 : Cal.num 2026 1 (Cal.dT x) = 731 + Cal.dT x - 1 := by
        have : Cal.num 2026 1 (Cal.dT x) = Cal.num 2026 1 1 + Cal.dT x - 1 := by unfold Cal.num; omega
        omega
      omega
    · have := num_lt o2 o (by omega)
      omega
theorem seqM_mem {dt ev : Int} (he : 1 ≤ ev) (he2 : ev ≤ 99) : ∀ (k : Nat) (y m x : Int), 2024 ≤ y → y ≤ 2034 → 1 ≤ m → m ≤ 12 → 24312 < 12 * y + m + k → 0 ≤ x → x < 728 →
    (x ∈ seqM dt ev k y m ↔ Cal.dT x = dt ∧ 12 * y + m ≤ 12 * Cal.yT x + Cal.mT x ∧ (12 * Cal.yT x + Cal.mT x - 12 * y - m) % ev = 0)
  | 0, y, m, x, hy, hy2, hm, hm2, hk, h0, h1 => by
    have := (monthOf h0 h1).2.2.2
    simp [seqM]; omega
  | k + 1, y, m, x, hy, hy2, hm, hm2, hk, h0, h1 => by
    obtain ⟨o, n, y0, mx⟩ := monthOf h0 h1
    obtain ⟨g1, g2, g3, g4, g5, g6⟩ := (Cal.ok_iff _ _ _).1 o
    simp only [seqM]
    have hr := reached_iff (y := y) (m := m) hy (by omega) hm hm2
    by_cases c : 12 * y + m ≤ 24312
    · rw [if_pos (hr.2 c), List.mem_append]
      obtain ⟨l1, l2, l3⟩ := later_is (y := y) (m := m) (ev := ev)
      rw [seqM_mem he he2 k (laterY y m ev) (laterM m ev) x (by omega) (by omega) l2 l3 (by omega) h0 h1]
      have e1 : (12 * Cal.yT x + Cal.mT x - 12 * laterY y m ev - laterM m ev) % ev = (12 * Cal.yT x + Cal.mT x - 12 * y - m) % ev := by
        rw [show 12 * Cal.yT x + Cal.mT x - 12 * laterY y m ev - laterM m ev = 12 * Cal.yT x + Cal.mT x - 12 * y - m - ev from by omega, Int.sub_emod_right]
      rw [e1, l1]
      have hin : x ∈ inMonth y m dt ↔ Cal.dT x = dt ∧ 12 * y + m = 12 * Cal.yT x + Cal.mT x := by
        unfold inMonth
        constructor
        · intro h
          by_cases ok : Cal.ok y m dt = true
          · rw [if_pos ok] at h
            have : x = Cal.num y m dt := by simpa using h
            obtain ⟨a1, a2, a3⟩ := Cal.dT_one y m dt x ok this.symm
            exact ⟨a3.symm, by omega⟩
          · rw [if_neg ok] at h; simp at h
        · rintro ⟨a1, a2⟩
          have e2 : y = Cal.yT x := by omega
          have e3 : m = Cal.mT x := by omega
          subst a1
          rw [e2, e3, if_pos o, n]; simp
      rw [hin]
      constructor
      · rintro (⟨a1, a2⟩ | ⟨a1, a2, a3⟩)
        · refine ⟨a1, by omega, ?_⟩
          rw [show 12 * Cal.yT x + Cal.mT x - 12 * y - m = 0 from by omega]; simp
        · exact ⟨a1, by omega, a3⟩
      · rintro ⟨a1, a2, a3⟩
        by_cases e : 12 * y + m + ev ≤ 12 * Cal.yT x + Cal.mT x
        · exact .inr ⟨a1, e, a3⟩
        · rw [Int.emod_eq_of_lt (by omega) (by omega)] at a3
          exact .inl ⟨a1, by omega⟩
    · have hn : ¬ reached y m = true := fun h => c (hr.1 h)
      rw [if_neg hn]
      simp; omega
theorem seqM_up {dt ev : Int} (he : 1 ≤ ev) : ∀ (k : Nat) (y m : Int), 1 ≤ m → m ≤ 12 → (seqM dt ev k y m).Pairwise (· < ·) ∧ ∀ x ∈ seqM dt ev k y m, ∃ y' m', Cal.ok y' m' dt = true ∧ x = Cal.num y' m' dt ∧ 12 * y + m ≤ 12 * y' + m'
  | 0, y, m, _, _ => by simp [seqM]
  | k + 1, y, m, h1, h2 => by
    simp only [seqM]
    obtain ⟨l1, l2, l3⟩ := later_is (y := y) (m := m) (ev := ev)
    obtain ⟨i1, i2⟩ := seqM_up (dt := dt) he k (laterY y m ev) (laterM m ev) l2 l3
    split
    · unfold inMonth
      by_cases ok : Cal.ok y m dt = true
      · rw [if_pos ok]
        refine ⟨List.pairwise_append.2 ⟨by simp, i1, fun x hx z hz => ?_⟩, fun x hx => ?_⟩
        · have : x = Cal.num y m dt := by simpa using hx
          obtain ⟨y', m', o, rfl, k⟩ := i2 z hz
          rw [this]
          exact num_lt ok o (by omega)
        · rcases List.mem_append.1 hx with hx | hx
          · have : x = Cal.num y m dt := by simpa using hx
            exact ⟨y, m, ok, this, Int.le_refl _⟩
          · obtain ⟨y', m', o, e, k⟩ := i2 x hx
            exact ⟨y', m', o, e, by omega⟩
      · rw [if_neg ok]
        refine ⟨by simpa using i1, fun x hx => ?_⟩
        obtain ⟨y', m', o, e, k⟩ := i2 x (by simpa using hx)
        exact ⟨y', m', o, e, by omega⟩
    · simp

/-- What a rule is: pace, every, on, from, at, for, times, until. -/
structure Rule where
  pc : Int
  ev : Int
  acc : List Int
  fr : Int
  mn : Int
  mi : Int
  ti : Int
  un : Int
structure Fine (r : Rule) : Prop where
  pc1 : 1 ≤ r.pc
  pc3 : r.pc ≤ 3
  e1 : 1 ≤ r.ev
  e2 : r.ev ≤ 99
  f0 : 0 ≤ r.fr
  f1 : r.fr < 728
  m0 : 0 ≤ r.mn
  m1 : r.mn < 1440
  i1 : 1 ≤ r.mi
  i2 : r.mi ≤ 1048320
  t0 : 0 ≤ r.ti
  t1 : r.ti ≤ 99
  u0 : 0 ≤ r.un
  u1 : r.un < 728
/-- Is a day, not ahead of the rule's, one of its days? -/
def has (r : Rule) (d : Int) : Bool :=
  if r.pc = 1 then decide ((d - r.fr) % r.ev = 0)
  else if r.pc = 2 then isd r.acc (d % 7) && decide ((d / 7 - r.fr / 7) % r.ev = 0)
  else decide (Cal.dT d = Cal.dT r.fr) && decide ((12 * Cal.yT d + Cal.mT d - 12 * Cal.yT r.fr - Cal.mT r.fr) % r.ev = 0)
/-- All its days up to the horizon. -/
def all (r : Rule) : List Int := upDays (has r) (728 - r.fr).toNat r.fr
theorem all_mem {r : Rule} (h : Fine r) (x : Int) : x ∈ all r ↔ r.fr ≤ x ∧ x < 728 ∧ has r x = true := by
  have := h.f1
  unfold all
  rw [upDays_mem]
  constructor
  · rintro ⟨h1, h2, h3⟩; exact ⟨h1, by omega, h3⟩
  · rintro ⟨h1, h2, h3⟩; exact ⟨h1, by omega, h3⟩
/-- What the program goes through. -/
def seq (r : Rule) : List Int :=
  if r.pc = 2 then seqW r.acc r.fr r.ev 800 (r.fr - r.fr % 7)
  else if r.pc = 3 then seqM (Cal.dT r.fr) r.ev 100 (Cal.yT r.fr) (Cal.mT r.fr)
  else seqD r.ev 800 r.fr
theorem seq_up {r : Rule} (h : Fine r) : (seq r).Pairwise (· < ·) := by
  unfold seq
  split
  · exact (seqW_up h.e1 _ _).1
  · split
    · have o := (monthOf h.f0 h.f1).1
      obtain ⟨g1, g2, g3, g4, g5, g6⟩ := (Cal.ok_iff _ _ _).1 o
      exact (seqM_up h.e1 _ _ _ g3 g4).1
    · exact (seqD_up h.e1 _ _).1
theorem seq_mem {r : Rule} (h : Fine r) {x : Int} (h0 : 0 ≤ x) (h1 : x < 728) : x ∈ seq r ↔ r.fr ≤ x ∧ has r x = true := by
  have f0 := h.f0
  have f1 := h.f1
  have p1 := h.pc1
  have p3 := h.pc3
  unfold seq has
  by_cases c2 : r.pc = 2
  · rw [if_pos c2, if_neg (by omega), if_pos c2, seqW_mem h.e1 800 _ x (by omega) (by omega) (by omega)]
    have e : (r.fr - r.fr % 7) / 7 = r.fr / 7 := by omega
    rw [e, Bool.and_eq_true, decide_eq_true_eq]
    constructor
    · rintro ⟨k1, k2, k3, k4, k5⟩; exact ⟨k2, k4, k5⟩
    · rintro ⟨k2, k4, k5⟩; exact ⟨by omega, k2, h1, k4, k5⟩
  · rw [if_neg c2]
    by_cases c3 : r.pc = 3
    · rw [if_pos c3, if_neg (by omega), if_neg c2]
      obtain ⟨o, n, y0, mx⟩ := monthOf h.f0 h.f1
      obtain ⟨g1, g2, g3, g4, g5, g6⟩ := (Cal.ok_iff _ _ _).1 o
      rw [seqM_mem h.e1 h.e2 100 _ _ x y0 (by omega) g3 g4 (by omega) h0 h1, Bool.and_eq_true, decide_eq_true_eq, decide_eq_true_eq]
      obtain ⟨ox, nx, yx, mxx⟩ := monthOf h0 h1
      constructor
      · rintro ⟨k1, k2, k3⟩
        refine ⟨?_, k1, k3⟩
        by_cases e : 12 * Cal.yT r.fr + Cal.mT r.fr = 12 * Cal.yT x + Cal.mT x
        · obtain ⟨j1, j2, j3, j4, j5, j6⟩ := (Cal.ok_iff _ _ _).1 ox
          have e1 : Cal.yT r.fr = Cal.yT x := by omega
          have e2 : Cal.mT r.fr = Cal.mT x := by omega
          rw [e1, e2, ← k1] at n
          omega
        · have := num_lt o ox (by omega)
          omega
      · rintro ⟨k1, k2, k3⟩
        refine ⟨k2, ?_, k3⟩
        apply Classical.byContradiction
        intro c
        have := num_lt ox o (by omega)
        omega
    · rw [if_neg c3, if_pos (by omega), seqD_mem h.e1 800 _ x (by omega), decide_eq_true_eq]
      constructor
      · rintro ⟨k1, k2, k3⟩; exact ⟨k1, k3⟩
      · rintro ⟨k1, k3⟩; exact ⟨k1, h1, k3⟩
/-- Of a row that goes up: what is not above a bound is ahead. -/
theorem takeWhile_mem {l : List Int} (h : l.Pairwise (· < ·)) (b x : Int) : x ∈ l.takeWhile (fun d => decide (d ≤ b)) ↔ x ∈ l ∧ x ≤ b := by
  induction l with
  | nil => simp
  | cons d l ih =>
    rw [List.pairwise_cons] at h
    rw [List.takeWhile_cons]
    by_cases c : d ≤ b
    · simp only [c, decide_true, if_true, List.mem_cons, ih h.2]
      constructor
      · rintro (rfl | ⟨k1, k2⟩)
        · exact ⟨.inl rfl, c⟩
        · exact ⟨.inr k1, k2⟩
      · rintro ⟨rfl | k1, k2⟩
        · exact .inl rfl
        · exact .inr ⟨k1, k2⟩
    · simp only [c, decide_false, Bool.false_eq_true, if_false, List.not_mem_nil, false_iff, List.mem_cons]
      rintro ⟨rfl | k1, k2⟩
      · exact c k2
      · have := h.1 x k1; omega
theorem seq_to {r : Rule} (h : Fine r) {b : Int} (hb : b < 728) : (seq r).takeWhile (fun d => decide (d ≤ b)) = (all r).filter (fun d => decide (d ≤ b)) := by
  refine up_unique ?_ ?_ (fun x => ?_)
  · exact List.Pairwise.sublist (List.takeWhile_sublist _) (seq_up h)
  · exact List.Pairwise.filter _ (upDays_up _ _ _)
  · rw [takeWhile_mem (seq_up h), List.mem_filter, all_mem h, decide_eq_true_eq]
    have f0 := h.f0
    have low : x ∈ seq r → 0 ≤ x := by
      intro hx
      unfold seq at hx
      split at hx
      · have := (seqW_up h.e1 _ _).2 x hx; omega
      · split at hx
        · have o := (monthOf h.f0 h.f1)
          obtain ⟨g1, g2, g3, g4, g5, g6⟩ := (Cal.ok_iff _ _ _).1 o.1
          obtain ⟨y', m', o', rfl, k⟩ := (seqM_up h.e1 _ _ _ g3 g4).2 x hx
          by_cases e : 12 * Cal.yT r.fr + Cal.mT r.fr = 12 * y' + m'
          · obtain ⟨j1, j2, j3, j4, j5, j6⟩ := (Cal.ok_iff _ _ _).1 o'
            have e1 : Cal.yT r.fr = y' := by omega
            have e2 : Cal.mT r.fr = m' := by omega
            rw [← e1, ← e2, o.2.1]; omega
          · have := num_lt o.1 o' (by omega)
            have := o.2.1
            omega
        · have := (seqD_up h.e1 _ _).2 x hx; omega
    constructor
    · rintro ⟨k1, k2⟩
      have k0 := low k1
      obtain ⟨k3, k4⟩ := (seq_mem h k0 (by omega)).1 k1
      exact ⟨⟨k3, by omega, k4⟩, k2⟩
    · rintro ⟨⟨k1, k2, k3⟩, k4⟩
      exact ⟨(seq_mem h (by omega) k2).2 ⟨k1, k3⟩, k4⟩
theorem seq_all {r : Rule} (h : Fine r) : (seq r).takeWhile (fun d => decide (d ≤ 727)) = all r := by
  rw [seq_to h (by omega)]
  exact List.filter_eq_self.2 (fun x hx => by have := (all_mem h x).1 hx; simp; omega)

/-- What the program's firstDays gives. -/
def firstDays (r : Rule) : List Int := if 0 < r.ti then ((seq r).takeWhile (fun d => decide (d ≤ 727))).take r.ti.toNat else ((seq r).takeWhile (fun d => decide (d ≤ r.un))).take 41
/-- What the document's days are: one by one. -/
def refStep (r : Rule) (l : List Int) (d : Int) : List Int := if has r d ∧ ((r.ti = 0 ∧ d ≤ r.un) ∨ (0 < r.ti ∧ (l.length : Int) < r.ti)) then l ++ [d] else l
def refDays (r : Rule) : Nat → Int → List Int → List Int
  | 0, _, l => l
  | k + 1, d, l => refDays r k (d + 1) (refStep r l d)
theorem refDays_zero {r : Rule} (h : r.ti = 0) : ∀ (k : Nat) (d : Int) (l : List Int), refDays r k d l = l ++ (upDays (has r) k d).filter (fun d => decide (d ≤ r.un))
  | 0, d, l => by simp [refDays, upDays]
  | k + 1, d, l => by
    simp only [refDays, upDays]
    rw [refDays_zero h k (d + 1)]
    unfold refStep
    by_cases c : has r d = true
    · rw [if_pos c, List.filter_cons]
      by_cases c2 : d ≤ r.un
      · rw [if_pos ⟨c, .inl ⟨h, c2⟩⟩, if_pos (by simp [c2])]; simp
      · rw [if_neg (by omega), if_neg (by simp [c2])]
    · rw [if_neg c, if_neg (fun e => c e.1)]
theorem refDays_times {r : Rule} (h : 0 < r.ti) : ∀ (k : Nat) (d : Int) (l : List Int), (l.length : Int) ≤ r.ti → refDays r k d l = l ++ (upDays (has r) k d).take (r.ti.toNat - l.length)
  | 0, d, l, _ => by simp [refDays, upDays]
  | k + 1, d, l, hl => by
    simp only [refDays, upDays]
    unfold refStep
    by_cases c : has r d = true
    · rw [if_pos c]
      by_cases c2 : (l.length : Int) < r.ti
      · rw [if_pos ⟨c, .inr ⟨h, c2⟩⟩, refDays_times h k (d + 1) _ (by simp; omega)]
        have e : r.ti.toNat - l.length = (r.ti.toNat - (l ++ [d]).length) + 1 := by simp; omega
        rw [e, List.take_succ_cons]; simp
      · rw [if_neg (by omega), refDays_times h k (d + 1) _ hl]
        have e : r.ti.toNat - l.length = 0 := by omega
        rw [e]; simp
    · rw [if_neg c, if_neg (fun e => c e.1), refDays_times h k (d + 1) _ hl]
def docDays (r : Rule) : List Int := refDays r (728 - r.fr).toNat r.fr []
theorem docDays_is {r : Rule} (h : Fine r) : docDays r = if 0 < r.ti then (all r).take r.ti.toNat else (all r).filter (fun d => decide (d ≤ r.un)) := by
  have t0 := h.t0
  unfold docDays
  split
  · rw [refDays_times (by assumption) _ _ _ (by simp; omega)]; simp [all]
  · rw [refDays_zero (by omega)]; simp [all]
/-- The two rows: one, but that the program stops when they are too many. -/
theorem days_same {r : Rule} (h : Fine r) : firstDays r = if 0 < r.ti then docDays r else (docDays r).take 41 := by
  rw [docDays_is h]
  unfold firstDays
  split
  · rw [seq_all h]
  · rw [seq_to h h.u1]

/-- The error of a rule: 11 many, 6 time. -/
def lateB (r : Rule) (d : Int) : Bool := decide (1048320 < d * 1440 + r.mn + r.mi)
def docErr (r : Rule) : Int :=
  if 40 < (docDays r).length ∨ 40 < r.ti then 11 else if docDays r = [] ∨ ((docDays r).length : Int) < r.ti then 6 else if (docDays r).any (lateB r) then 6 else 0
def progErr (r : Rule) : Int :=
  if 40 < r.ti then 11 else if 40 < (firstDays r).length then 11 else if firstDays r = [] ∨ ((firstDays r).length : Int) < r.ti then 6 else if lateB r ((firstDays r).getLastD 0) then 6 else 0
theorem docDays_up {r : Rule} (h : Fine r) : (docDays r).Pairwise (· < ·) := by
  rw [docDays_is h]
  split
  · exact List.Pairwise.sublist (List.take_sublist _ _) (upDays_up _ _ _)
  · exact List.Pairwise.filter _ (upDays_up _ _ _)
theorem docDays_mem {r : Rule} (h : Fine r) {x : Int} (hx : x ∈ docDays r) : r.fr ≤ x ∧ x < 728 := by
  rw [docDays_is h] at hx
  have : x ∈ all r := by
    split at hx
    · exact List.mem_of_mem_take hx
    · exact (List.mem_filter.1 hx).1
  have := (all_mem h x).1 this
  exact ⟨this.1, this.2.1⟩
theorem last_late {r : Rule} : ∀ {l : List Int}, l.Pairwise (· < ·) → l ≠ [] → l.any (lateB r) = lateB r (l.getLastD 0)
  | [], _, h => absurd rfl h
  | [d], _, _ => by simp
  | d :: e :: l, h, _ => by
    rw [List.pairwise_cons] at h
    have ih := last_late (r := r) (l := e :: l) h.2 (by simp)
    rw [List.any_cons, ih]
    have e1 : (d :: e :: l).getLastD 0 = (e :: l).getLastD 0 := by simp [List.getLastD]
    rw [e1]
    cases hb : lateB r d
    · simp
    · have hm : (e :: l).getLastD 0 ∈ e :: l := by
        have : (e :: l).getLastD 0 = (e :: l).getLast (by simp) := by simp [List.getLastD]
        rw [this]
        exact List.getLast_mem _
      have := h.1 _ hm
      simp only [lateB, decide_eq_true_eq] at hb
      simp only [lateB, Bool.true_or]
      exact (decide_eq_true (by omega)).symm
theorem err_same {r : Rule} (h : Fine r) : progErr r = docErr r ∧ (docErr r = 0 → firstDays r = docDays r ∧ docDays r ≠ [] ∧ (docDays r).length ≤ 40 ∧ ∀ d ∈ docDays r, d * 1440 + r.mn + r.mi ≤ 1048320) := by
  have ds := days_same h
  have up := docDays_up h
  have t0 := h.t0
  have fin : ∀ {l : List Int}, l ≠ [] → ¬ l.any (lateB r) = true → ∀ d ∈ l, d * 1440 + r.mn + r.mi ≤ 1048320 := by
    intro l _ hn d hd
    apply Classical.byContradiction
    intro c
    exact hn (List.any_eq_true.2 ⟨d, hd, by simp only [lateB, decide_eq_true_eq]; omega⟩)
  unfold progErr docErr
  by_cases c : 0 < r.ti
  · rw [if_pos c] at ds
    rw [ds]
    by_cases c1 : 40 < r.ti
    · rw [if_pos c1, if_pos (.inr c1)]; exact ⟨rfl, fun e => by omega⟩
    · rw [if_neg c1]
      by_cases c2 : 40 < (docDays r).length
      · rw [if_pos c2, if_pos (.inl c2)]; exact ⟨rfl, fun e => by omega⟩
      · have cm : ¬ (40 < (docDays r).length ∨ 40 < r.ti) := by omega
        rw [if_neg c2, if_neg cm]
        by_cases c3 : docDays r = [] ∨ ((docDays r).length : Int) < r.ti
        · rw [if_pos c3, if_pos c3]; exact ⟨rfl, fun e => by omega⟩
        · have hne : docDays r ≠ [] := fun e => c3 (.inl e)
          rw [if_neg c3, if_neg c3, last_late up hne]
          refine ⟨rfl, fun e => ⟨rfl, hne, by omega, fin hne ?_⟩⟩
          rw [last_late up hne]
          intro hl; rw [if_pos hl] at e; omega
  · rw [if_neg c] at ds
    have ct : ¬ 40 < r.ti := by omega
    rw [ds, if_neg ct]
    by_cases c2 : 40 < (docDays r).length
    · have : 40 < ((docDays r).take 41).length := by rw [List.length_take]; omega
      rw [if_pos this, if_pos (.inl c2)]; exact ⟨rfl, fun e => by omega⟩
    · have e41 : (docDays r).take 41 = docDays r := List.take_of_length_le (by omega)
      have cm : ¬ (40 < (docDays r).length ∨ 40 < r.ti) := by omega
      rw [e41, if_neg c2, if_neg cm]
      by_cases c3 : docDays r = [] ∨ ((docDays r).length : Int) < r.ti
      · rw [if_pos c3, if_pos c3]; exact ⟨rfl, fun e => by omega⟩
      · have hne : docDays r ≠ [] := fun e => c3 (.inl e)
        rw [if_neg c3, if_neg c3, last_late up hne]
        refine ⟨rfl, fun e => ⟨rfl, hne, by omega, fin hne ?_⟩⟩
        rw [last_late up hne]
        intro hl; rw [if_pos hl] at e; omega
/-- Its spans. -/
def spansOf (r : Rule) (l : List Int) : List (Int × Int) := l.map fun d => (d * 1440 + r.mn, d * 1440 + r.mn + r.mi)

end Rd
end Go.Proofs.YtjfkfiffakbagaaGreatDoor


/-
  The document's desk: Peak.
-/
namespace Go.Proofs.YtjfkfiffakbagaaGreatDoor
open Go.RowKit

namespace Desk
def peakStep (name : ByteArray) (es : List Ent) (a b : Int) (m x : Int) : Int := if a < x ∧ x < b ∧ m < takenN name x es then takenN name x es else m
def peakN (name : ByteArray) (es : List Ent) (a b : Int) : Int := (startsL name es).foldl (peakStep name es a b) (takenN name a es)
end Desk

end Go.Proofs.YtjfkfiffakbagaaGreatDoor


/-
  The document's desk: Find.
-/
namespace Go.Proofs.YtjfkfiffakbagaaGreatDoor
open Go.RowKit

namespace Desk
def endsL : List Ent → List Int
  | [] => []
  | e :: r => e.spans.map (·.2) ++ endsL r
def findStep (ts : List (ByteArray × Int)) (es : List Ent) (name : ByteArray) (units long fr til best s : Int) : Int :=
  if s < fr ∨ til < s + long ∨ (0 ≤ best ∧ best ≤ s) then best else if fitsN ts es name units [(s, s + long)] then s else best
def findN (ts : List (ByteArray × Int)) (es : List Ent) (name : ByteArray) (units long fr til : Int) : Int := (fr :: endsL es).foldl (findStep ts es name units long fr til) (-1)
end Desk

end Go.Proofs.YtjfkfiffakbagaaGreatDoor


/-
  What is taken, as mathematics: it grows only where a span begins; Fits, Peak and Find of the document in numbers.
-/
namespace Go.Proofs.YtjfkfiffakbagaaGreatDoor
namespace Desk

/-- The greatest of a list that is not above x, or a. -/
def lastTo (a x : Int) : List Int → Int
  | [] => a
  | s :: r => if s ≤ x ∧ lastTo a x r < s then s else lastTo a x r
theorem lastTo_is (a x : Int) (h : a ≤ x) : ∀ l : List Int, a ≤ lastTo a x l ∧ lastTo a x l ≤ x ∧ (lastTo a x l = a ∨ lastTo a x l ∈ l) ∧ ∀ s ∈ l, s ≤ x → s ≤ lastTo a x l
  | [] => ⟨Int.le_refl _, h, .inl rfl, by simp⟩
  | s :: r => by
    obtain ⟨h1, h2, h3, h4⟩ := lastTo_is a x h r
    simp only [lastTo]
    split
    · rename_i c
      refine ⟨by omega, c.1, .inr (by simp), fun t ht k => ?_⟩
      rcases List.mem_cons.1 ht with rfl | ht
      · omega
      · have := h4 t ht k; omega
    · rename_i c
      refine ⟨h1, h2, ?_, fun t ht k => ?_⟩
      · rcases h3 with h3 | h3
        · exact .inl h3
        · exact .inr (by simp [h3])
      · rcases List.mem_cons.1 ht with rfl | ht
        · omega
        · exact h4 t ht k

theorem timesN_mono {L : List (Int × Int)} {x y : Int} (hyx : y ≤ x) (h : ∀ s ∈ L, s.1 ≤ x → s.1 ≤ y) : timesN L x ≤ timesN L y := by
  unfold timesN
  rw [← List.countP_eq_length_filter, ← List.countP_eq_length_filter]
  have : List.countP (hasB x) L ≤ List.countP (hasB y) L := List.countP_mono_left (fun s hs hb => by
    simp [hasB] at hb ⊢
    have := h s hs hb.1
    omega)
  omega
/-- No entry takes less than nothing. -/
def Pos (es : List Ent) : Prop := ∀ e ∈ es, 0 ≤ e.units
theorem takenN_mono {name : ByteArray} {x y : Int} (hyx : y ≤ x) : ∀ {es : List Ent}, Pos es → (∀ s ∈ startsL name es, s ≤ x → s ≤ y) → takenN name x es ≤ takenN name y es
  | [], _, _ => Int.le_refl _
  | e :: r, hp, h => by
    have ih := takenN_mono (name := name) hyx (es := r) (fun z hz => hp z (by simp [hz])) (fun s hs => h s (by simp [startsL, hs]))
    simp only [takenN]
    by_cases hb : ofB name e = true
    · rw [if_pos hb, if_pos hb]
      have hs : sameB e.thing name = true := by simp [ofB] at hb; exact hb.1
      have hm : timesN e.spans x ≤ timesN e.spans y := timesN_mono hyx (fun s hs' hx => h s.1 (by simp [startsL, hs]; exact .inl ⟨s.2, hs'⟩) hx)
      have hu := hp e (by simp)
      have : timesN e.spans x * e.units ≤ timesN e.spans y * e.units := Int.mul_le_mul_of_nonneg_right hm hu
      omega
    · rw [if_neg hb, if_neg hb]; omega
/-- Fits, in numbers. -/
theorem fitsN_iff {ts : List (ByteArray × Int)} {es : List Ent} {name : ByteArray} {units : Int} {L : List (Int × Int)} (hp : Pos es) (hu : 0 ≤ units) :
    fitsN ts es name units L = true ↔ ∀ x, 0 < timesN L x → takenN name x es + timesN L x * units ≤ unitsN name ts := by
  constructor
  · intro h x hx
    have hex : ∃ s ∈ L, s.1 ≤ x ∧ x < s.2 := by
      unfold timesN at hx
      have hl : 0 < (L.filter (hasB x)).length := by omega
      obtain ⟨s, hs⟩ := List.exists_mem_of_length_pos hl
      have := List.mem_filter.1 hs
      simp [hasB] at this
      exact ⟨s, this.1, this.2⟩
    obtain ⟨s0, hs0, k1, k2⟩ := hex
    obtain ⟨h1, h2, h3, h4⟩ := lastTo_is s0.1 x k1 (startsL name es ++ L.map (·.1))
    generalize lastTo s0.1 x (startsL name es ++ L.map (·.1)) = y at h1 h2 h3 h4
    have hy : y ∈ startsL name es ++ L.map (·.1) := by
      rcases h3 with rfl | h3
      · simp; exact .inr ⟨s0.2, hs0⟩
      · exact h3
    have ht := takenN_mono (name := name) (es := es) h2 hp (fun s hs => h4 s (by simp [hs]))
    have hm : timesN L x ≤ timesN L y := timesN_mono h2 (fun s hs => h4 s.1 (by simp; exact .inr ⟨s.2, hs⟩))
    have hh := List.all_eq_true.1 h y hy
    simp [overB] at hh
    have hx' : 0 < timesN L y := by omega
    have hmu : timesN L x * units ≤ timesN L y * units := Int.mul_le_mul_of_nonneg_right hm hu
    omega
  · intro h
    unfold fitsN fitsAt
    rw [List.all_eq_true]
    intro x _
    simp [overB]
    by_cases hx : 0 < timesN L x
    · exact .inr (h x hx)
    · exact .inl (by omega)
end Desk
end Go.Proofs.YtjfkfiffakbagaaGreatDoor

