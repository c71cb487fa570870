/-
  Parts of the proof, one behind the other: Cal, CalFn, Text, Dates, Times, Fields, Words, OnTxt, Sorted.
-/
import Derived.Test.YtjfkfiffakbagaaGreatDoorL06
import Derived.Test.YtjfkfiffakbagaaGreatDoorProg
import Derived.Lib.IndexMore
import Derived.Lib.IndexLaws
import Derived.Lib.FieldsP
import Derived.Lib.Split
import Derived.Lib.SplitLaws
/-
  The plain mathematics of the calendar: days ahead of a year, of a month; a date and its number belong together. It imports nothing of the program.
-/
namespace Go.Proofs.YtjfkfiffakbagaaGreatDoor.Cal
/-- days of the calendar ahead of a year -/
def ah (y : Int) : Int := (y - 1) * 365 + (y - 1) / 4 - (y - 1) / 100 + (y - 1) / 400
def leap (y : Int) : Bool := y % 4 == 0 && (y % 100 != 0 || y % 400 == 0)
def lp (y : Int) : Int := if leap y then 1 else 0
def tab (m : Int) : Int := if m = 2 then 28 else if m = 4 ∨ m = 6 ∨ m = 9 ∨ m = 11 then 30 else 31
def dim (y m : Int) : Int := if m = 2 then 28 + lp y else tab m
/-- days of a year ahead of a month -/
def cum (y m : Int) : Int :=
  if m ≤ 1 then 0 else if m = 2 then 31 else lp y + (if m = 3 then 59 else if m = 4 then 90 else if m = 5 then 120 else if m = 6 then 151 else if m = 7 then 181 else if m = 8 then 212 else if m = 9 then 243 else if m = 10 then 273 else if m = 11 then 304 else if m = 12 then 334 else 365)
def first : Int := -738885
def last : Int := 2913173
def num (y m d : Int) : Int := first + ah y + cum y m + d - 1
def ok (y m d : Int) : Bool := decide (1 ≤ y ∧ y ≤ 9999 ∧ 1 ≤ m ∧ m ≤ 12 ∧ 1 ≤ d ∧ d ≤ dim y m)

theorem lp_01 (y : Int) : 0 ≤ lp y ∧ lp y ≤ 1 := by unfold lp; split <;> omega
theorem lp_of (y : Int) : lp y = 1 ∧ y % 4 = 0 ∧ (y % 100 ≠ 0 ∨ y % 400 = 0) ∨ lp y = 0 ∧ ¬ (y % 4 = 0 ∧ (y % 100 ≠ 0 ∨ y % 400 = 0)) := by
  unfold lp
  cases h : leap y
  · right; refine ⟨by simp, ?_⟩
    simp only [leap, Bool.and_eq_false_iff, Bool.or_eq_false_iff, beq_eq_false_iff_ne, bne_eq_false_iff_eq] at h
    omega
  · left; refine ⟨by simp, ?_⟩
    simp only [leap, Bool.and_eq_true, Bool.or_eq_true, beq_iff_eq, bne_iff_ne] at h
    exact h
theorem ah_succ (y : Int) (_h : 1 ≤ y) : ah (y + 1) = ah y + 365 + lp y := by
  rcases lp_of y with ⟨e, h1⟩ | ⟨e, h1⟩ <;> rw [e] <;> unfold ah <;> omega
theorem ah_mono (a b : Int) (_h0 : 1 ≤ a) (_h : a ≤ b) : ah a ≤ ah b := by unfold ah; omega
theorem ah_end : ah 10000 = 3652059 := by decide
theorem ah_guess (g : Int) (_h : 0 ≤ g) : ah (g * 400 / 146097 + 1) ≤ g := by unfold ah; omega
theorem ah_bd (y : Int) (_h1 : 1 ≤ y) (_h2 : y ≤ 10000) : 0 ≤ ah y ∧ ah y ≤ 3652059 := by unfold ah; omega
theorem tab_bd (m : Int) : 28 ≤ tab m ∧ tab m ≤ 31 := by unfold tab; (repeat' split) <;> omega
theorem dim_bd (y m : Int) : 28 ≤ dim y m ∧ dim y m ≤ 31 := by
  have := lp_01 y; have := tab_bd m; unfold dim; split <;> omega
theorem months (m : Int) (h1 : 1 ≤ m) (h2 : m ≤ 12) : m = 1 ∨ m = 2 ∨ m = 3 ∨ m = 4 ∨ m = 5 ∨ m = 6 ∨ m = 7 ∨ m = 8 ∨ m = 9 ∨ m = 10 ∨ m = 11 ∨ m = 12 := by omega
theorem cum_one (y : Int) : cum y 1 = 0 := by simp [cum]
theorem cum_succ (y m : Int) (h1 : 1 ≤ m) (h2 : m ≤ 12) : cum y (m + 1) = cum y m + dim y m := by
  rcases months m h1 h2 with h | h | h | h | h | h | h | h | h | h | h | h <;> subst h <;> simp [cum, dim, tab] <;> omega
theorem cum_end (y : Int) : cum y 13 = 365 + lp y := by simp [cum]; omega
theorem cum_le (y a : Int) (k : Nat) (h1 : 1 ≤ a) (h2 : a + k ≤ 13) : cum y a ≤ cum y (a + k) := by
  induction k with
  | zero => simp
  | succ k ih =>
    have c := cum_succ y (a + k) (by omega) (by omega)
    have d := dim_bd y (a + k)
    have i := ih (by omega)
    rw [show a + ((k + 1 : Nat) : Int) = a + k + 1 from by omega, c]; omega
theorem cum_bd (y m : Int) (h1 : 1 ≤ m) (h2 : m ≤ 13) : 0 ≤ cum y m ∧ cum y m ≤ 365 + lp y := by
  have a := cum_le y 1 (m - 1).toNat (by omega) (by omega)
  have b := cum_le y m (13 - m).toNat h1 (by omega)
  rw [show (1 : Int) + ((m - 1).toNat : Int) = m from by omega, cum_one] at a
  rw [show m + ((13 - m).toNat : Int) = 13 from by omega, cum_end] at b
  exact ⟨a, b⟩
theorem cum_mono (y a b : Int) (h1 : 1 ≤ a) (h : a < b) (h2 : b ≤ 13) : cum y a + dim y a ≤ cum y b := by
  rw [← cum_succ y a h1 (by omega)]
  have c := cum_le y (a + 1) (b - (a + 1)).toNat (by omega) (by omega)
  rwa [show (a + 1) + ((b - (a + 1)).toNat : Int) = b from by omega] at c
theorem ok_iff (y m d : Int) : ok y m d = true ↔ 1 ≤ y ∧ y ≤ 9999 ∧ 1 ≤ m ∧ m ≤ 12 ∧ 1 ≤ d ∧ d ≤ dim y m := by simp [ok]
/-- where a valid date lies within its year -/
theorem in_year (y m d : Int) (h : ok y m d = true) : ah y ≤ num y m d - first ∧ num y m d - first < ah (y + 1) := by
  obtain ⟨h1, h2, h3, h4, h5, h6⟩ := (ok_iff y m d).1 h
  have a := ah_succ y h1
  have b := cum_bd y m h3 (by omega)
  have c := cum_succ y m h3 h4
  have e := cum_bd y (m + 1) (by omega) (by omega)
  unfold num; omega
theorem year_one (a b n : Int) (ha : 1 ≤ a) (hb : 1 ≤ b) (h1 : ah a ≤ n) (h2 : n < ah (a + 1)) (h3 : ah b ≤ n) (h4 : n < ah (b + 1)) : a = b := by
  by_cases h : a < b
  · have := ah_mono (a + 1) b (by omega) (by omega); omega
  · by_cases h' : b < a
    · have := ah_mono (b + 1) a (by omega) (by omega); omega
    · omega
theorem month_one (y a b n : Int) (ha : 1 ≤ a) (ha' : a ≤ 12) (hb : 1 ≤ b) (hb' : b ≤ 12) (h1 : cum y a ≤ n) (h2 : n < cum y a + dim y a) (h3 : cum y b ≤ n) (h4 : n < cum y b + dim y b) : a = b := by
  by_cases h : a < b
  · have := cum_mono y a b ha h (by omega); omega
  · by_cases h' : b < a
    · have := cum_mono y b a hb h' (by omega); omega
    · omega
theorem one (y m d y' m' d' : Int) (h : ok y m d = true) (h' : ok y' m' d' = true) (e : num y m d = num y' m' d') : y = y' ∧ m = m' ∧ d = d' := by
  have i := in_year y m d h
  have i' := in_year y' m' d' h'
  obtain ⟨h1, h2, h3, h4, h5, h6⟩ := (ok_iff y m d).1 h
  obtain ⟨g1, g2, g3, g4, g5, g6⟩ := (ok_iff y' m' d').1 h'
  have hy : y = y' := year_one y y' (num y m d - first) h1 g1 i.1 i.2 (by rw [e]; exact i'.1) (by rw [e]; exact i'.2)
  subst hy
  unfold num at e
  have hm : m = m' := month_one y m m' (cum y m + d - 1) h3 h4 g3 g4 (by omega) (by omega) (by omega) (by omega)
  subst hm
  exact ⟨rfl, rfl, by omega⟩
theorem num_bd (y m d : Int) (h : ok y m d = true) : first ≤ num y m d ∧ num y m d ≤ last := by
  obtain ⟨h1, h2, h3, h4, h5, h6⟩ := (ok_iff y m d).1 h
  have i := in_year y m d h
  have a := ah_mono (y + 1) 10000 (by omega) (by omega)
  have b := ah_bd y h1 (by omega)
  have c := ah_end
  unfold first at i; unfold first last; omega
end Go.Proofs.YtjfkfiffakbagaaGreatDoor.Cal


/-
  The date of a number, reckoned.
-/
namespace Go.Proofs.YtjfkfiffakbagaaGreatDoor.Cal

def yF (g : Int) : Int := if ah (g * 400 / 146097 + 2) ≤ g then g * 400 / 146097 + 2 else g * 400 / 146097 + 1
def mF (y r : Int) : Int := if r < cum y 2 then 1 else if r < cum y 3 then 2 else if r < cum y 4 then 3 else if r < cum y 5 then 4 else if r < cum y 6 then 5 else if r < cum y 7 then 6 else if r < cum y 8 then 7 else if r < cum y 9 then 8 else if r < cum y 10 then 9 else if r < cum y 11 then 10 else if r < cum y 12 then 11 else 12

theorem ah_next (g : Int) (_h : 0 ≤ g) : g < ah (g * 400 / 146097 + 3) := by unfold ah; omega
theorem yF_ok (g : Int) (h : 0 ≤ g) : 1 ≤ yF g ∧ ah (yF g) ≤ g ∧ g < ah (yF g + 1) := by
  have a := ah_guess g h
  have b := ah_next g h
  unfold yF
  split
  · refine ⟨by omega, by assumption, ?_⟩
    rw [show g * 400 / 146097 + 2 + 1 = g * 400 / 146097 + 3 from by omega]; exact b
  · refine ⟨by omega, a, ?_⟩
    rw [show g * 400 / 146097 + 1 + 1 = g * 400 / 146097 + 2 from by omega]; omega
theorem mF_ok (y r : Int) (h0 : 0 ≤ r) (h1 : r < cum y 13) : 1 ≤ mF y r ∧ mF y r ≤ 12 ∧ cum y (mF y r) ≤ r ∧ r < cum y (mF y r + 1) := by
  have c1 := cum_one y
  unfold mF
  by_cases e2 : r < cum y 2
  · rw [if_pos e2]; exact ⟨by omega, by omega, by omega, e2⟩
  rw [if_neg e2]
  by_cases e3 : r < cum y 3
  · rw [if_pos e3]; exact ⟨by omega, by omega, by omega, e3⟩
  rw [if_neg e3]
  by_cases e4 : r < cum y 4
  · rw [if_pos e4]; exact ⟨by omega, by omega, by omega, e4⟩
  rw [if_neg e4]
  by_cases e5 : r < cum y 5
  · rw [if_pos e5]; exact ⟨by omega, by omega, by omega, e5⟩
  rw [if_neg e5]
  by_cases e6 : r < cum y 6
  · rw [if_pos e6]; exact ⟨by omega, by omega, by omega, e6⟩
  rw [if_neg e6]
  by_cases e7 : r < cum y 7
  · rw [if_pos e7]; exact ⟨by omega, by omega, by omega, e7⟩
  rw [if_neg e7]
  by_cases e8 : r < cum y 8
  · rw [if_pos e8]; exact ⟨by omega, by omega, by omega, e8⟩
  rw [if_neg e8]
  by_cases e9 : r < cum y 9
  · rw [if_pos e9]; exact ⟨by omega, by omega, by omega, e9⟩
  rw [if_neg e9]
  by_cases e10 : r < cum y 10
  · rw [if_pos e10]; exact ⟨by omega, by omega, by omega, e10⟩
  rw [if_neg e10]
  by_cases e11 : r < cum y 11
  · rw [if_pos e11]; exact ⟨by omega, by omega, by omega, e11⟩
  rw [if_neg e11]
  by_cases e12 : r < cum y 12
  · rw [if_pos e12]; exact ⟨by omega, by omega, by omega, e12⟩
  rw [if_neg e12]
  exact ⟨by omega, by omega, by omega, h1⟩

/-- The year, month and day of a number. -/
def yT (n : Int) : Int := yF (n + 738885)
def mT (n : Int) : Int := mF (yT n) (n + 738885 - ah (yT n))
def dT (n : Int) : Int := n + 738885 - ah (yT n) - cum (yT n) (mT n) + 1
theorem dT_ok (n : Int) (h1 : -738885 ≤ n) (h2 : n ≤ 2913173) : ok (yT n) (mT n) (dT n) = true ∧ num (yT n) (mT n) (dT n) = n := by
  have ⟨a1, a2, a3⟩ := yF_ok (n + 738885) (by omega)
  have s := ah_succ (yF (n + 738885)) a1
  have hy : yF (n + 738885) ≤ 9999 := by
    by_cases h : yF (n + 738885) ≤ 9999
    · exact h
    · have := ah_mono 10000 (yF (n + 738885)) (by omega) (by omega)
      have := ah_end
      omega
  have ce := cum_end (yF (n + 738885))
  have ⟨b1, b2, b3, b4⟩ := mF_ok (yF (n + 738885)) (n + 738885 - ah (yF (n + 738885))) (by omega) (by omega)
  have cs := cum_succ (yF (n + 738885)) (mF (yF (n + 738885)) (n + 738885 - ah (yF (n + 738885)))) b1 b2
  refine ⟨(ok_iff _ _ _).2 ?_, ?_⟩
  · unfold dT mT yT
    refine ⟨a1, hy, b1, b2, by omega, by omega⟩
  · unfold num dT mT yT first; omega
/-- Whatever date has a number is the one that is reckoned. -/
theorem dT_one (y m d n : Int) (h : ok y m d = true) (e : num y m d = n) : y = yT n ∧ m = mT n ∧ d = dT n := by
  have b := num_bd y m d h
  rw [e] at b
  unfold first last at b
  have ⟨h1, h2⟩ := dT_ok n b.1 b.2
  exact one y m d _ _ _ h h1 (by rw [e, h2])

end Go.Proofs.YtjfkfiffakbagaaGreatDoor.Cal


/-
  The plain mathematics of words: digits and numbers, names. It imports nothing of the program.
-/
namespace Go.Proofs.YtjfkfiffakbagaaGreatDoor.Txt

def dig (c : UInt8) : Bool := decide (48 ≤ (c.toNat : Int) ∧ (c.toNat : Int) ≤ 57)
def digs (l : List UInt8) : Bool := l.all dig
def numL (l : List UInt8) : Int := l.foldl (fun n c => n * 10 + ((c.toNat : Int) - 48)) 0
def low (c : UInt8) : Bool := decide (97 ≤ (c.toNat : Int) ∧ (c.toNat : Int) ≤ 122)
def lows (l : List UInt8) : Bool := l.all low
/-- NUM: one to seven digits. -/
def isNum (l : List UInt8) : Bool := decide (1 ≤ l.length ∧ l.length ≤ 7) && digs l
def isName (l : List UInt8) : Bool := decide (1 ≤ l.length ∧ l.length ≤ 8) && lows l

theorem dig_iff (c : UInt8) : dig c = true ↔ 48 ≤ (c.toNat : Int) ∧ (c.toNat : Int) ≤ 57 := by simp [dig]
theorem low_iff (c : UInt8) : low c = true ↔ 97 ≤ (c.toNat : Int) ∧ (c.toNat : Int) ≤ 122 := by simp [low]
theorem digs_snoc (l : List UInt8) (c : UInt8) : digs (l ++ [c]) = (digs l && dig c) := by simp [digs]
theorem lows_snoc (l : List UInt8) (c : UInt8) : lows (l ++ [c]) = (lows l && low c) := by simp [lows]
theorem numL_snoc (l : List UInt8) (c : UInt8) : numL (l ++ [c]) = numL l * 10 + ((c.toNat : Int) - 48) := by simp [numL]
theorem take_snoc (s : ByteArray) (k : Nat) (h : k < s.size) : s.data.toList.take (k + 1) = s.data.toList.take k ++ [s[k]] := by
  rw [List.take_succ_eq_append_getElem (by simpa using h)]; rfl
theorem take_all (s : ByteArray) (k : Nat) (h : s.size ≤ k) : s.data.toList.take k = s.data.toList := List.take_of_length_le (by simpa using h)
theorem len_list (s : ByteArray) : s.data.toList.length = s.size := by simp
theorem digs_of_take (l : List UInt8) (k : Nat) (h : digs (l.take k) = false) : digs l = false := by
  unfold digs at *
  rw [List.all_eq_false] at *
  obtain ⟨x, hx, h⟩ := h
  exact ⟨x, List.mem_of_mem_take hx, h⟩
theorem lows_of_take (l : List UInt8) (k : Nat) (h : lows (l.take k) = false) : lows l = false := by
  unfold lows at *
  rw [List.all_eq_false] at *
  obtain ⟨x, hx, h⟩ := h
  exact ⟨x, List.mem_of_mem_take hx, h⟩
theorem fold_bd (l : List UInt8) : ∀ (k : Nat) (n : Int), 0 ≤ n → n < 10 ^ k → digs l = true → 0 ≤ l.foldl (fun n c => n * 10 + ((c.toNat : Int) - 48)) n ∧ l.foldl (fun n c => n * 10 + ((c.toNat : Int) - 48)) n < 10 ^ (k + l.length) := by
  induction l with
  | nil => intro k n h0 h1 _; exact ⟨h0, h1⟩
  | cons c l ih =>
    intro k n h0 h1 hd
    simp only [digs, List.all_cons, Bool.and_eq_true] at hd
    have hc := (dig_iff c).1 hd.1
    have := ih (k + 1) (n * 10 + ((c.toNat : Int) - 48)) (by omega) (by rw [Int.pow_succ]; omega) hd.2
    simp only [List.foldl_cons, List.length_cons]
    rw [show k + (l.length + 1) = k + 1 + l.length from by omega]
    exact this
theorem numL_bd (l : List UInt8) (h : digs l = true) (hl : l.length ≤ 7) : 0 ≤ numL l ∧ numL l ≤ 9999999 := by
  have b := fold_bd l 0 0 (by omega) (by decide) h
  have q : ∀ k : Nat, k < 8 → (10 : Int) ^ k ≤ 10000000 := by decide
  have p := q (0 + l.length) (by omega)
  unfold numL
  omega
theorem isNum_true {l : List UInt8} (h1 : 1 ≤ l.length) (h2 : l.length ≤ 7) (h3 : digs l = true) : isNum l = true := by
  simp [isNum, h1, h2, h3]
theorem isNum_len {l : List UInt8} (h : ¬ (1 ≤ l.length ∧ l.length ≤ 7)) : isNum l = false := by
  unfold isNum; rw [decide_eq_false h]; rfl
theorem isNum_dig {l : List UInt8} (h : digs l = false) : isNum l = false := by simp [isNum, h]
theorem isNum_iff (l : List UInt8) : isNum l = true ↔ (1 ≤ l.length ∧ l.length ≤ 7) ∧ digs l = true := by simp [isNum]
theorem isName_true {l : List UInt8} (h1 : 1 ≤ l.length) (h2 : l.length ≤ 8) (h3 : lows l = true) : isName l = true := by
  simp [isName, h1, h2, h3]
theorem isName_len {l : List UInt8} (h : ¬ (1 ≤ l.length ∧ l.length ≤ 8)) : isName l = false := by
  unfold isName; rw [decide_eq_false h]; rfl
theorem isName_low {l : List UInt8} (h : lows l = false) : isName l = false := by simp [isName, h]
/-- What readNum hands back beside its answer. -/
def numV (l : List UInt8) : Int := if isNum l then numL l else 0
theorem numV_bd (l : List UInt8) : 0 ≤ numV l ∧ numV l ≤ 9999999 := by
  unfold numV
  split
  · rename_i h
    have := (isNum_iff l).1 h
    exact numL_bd l this.2 this.1.2
  · omega

end Go.Proofs.YtjfkfiffakbagaaGreatDoor.Txt


/-
  The plain mathematics of minutes, dates and times as words. It imports nothing of the program.
-/
namespace Go.Proofs.YtjfkfiffakbagaaGreatDoor.Txt

def byteAt (s : ByteArray) (i : Nat) : Int := ((s.data.toList.getD i 0).toNat : Int)
theorem byteAt_eq (s : ByteArray) (i : Nat) (h : i < s.size) : byteAt s i = (s[i].toNat : Int) := by
  unfold byteAt
  rw [List.getD_eq_getElem?_getD, List.getElem?_eq_getElem (by simpa using h)]
  rfl
def part (s : ByteArray) (a b : Nat) : List UInt8 := (s.extract a b).data.toList
/-- MINUTE -/
def minB (s : ByteArray) : Bool := decide (s.size = 5 ∧ byteAt s 2 = 58 ∧ isNum (part s 0 2) = true ∧ isNum (part s 3 5) = true ∧ numV (part s 0 2) ≤ 23 ∧ numV (part s 3 5) ≤ 59)
def minV (s : ByteArray) : Int := if minB s then numV (part s 0 2) * 60 + numV (part s 3 5) else 0
/-- a date of the calendar, written out -/
def dateB (s : ByteArray) : Bool := decide (s.size = 10 ∧ byteAt s 4 = 45 ∧ byteAt s 7 = 45 ∧ isNum (part s 0 4) = true ∧ isNum (part s 5 7) = true ∧ isNum (part s 8 10) = true ∧ Cal.ok (numV (part s 0 4)) (numV (part s 5 7)) (numV (part s 8 10)) = true)
def dateV (s : ByteArray) : Int := if dateB s then Cal.num (numV (part s 0 4)) (numV (part s 5 7)) (numV (part s 8 10)) else 0
/-- DATE -/
def dayB (s : ByteArray) : Bool := decide (dateB s = true ∧ 0 ≤ dateV s ∧ dateV s < 728)

theorem minB_false {s : ByteArray} (h : ¬ (s.size = 5 ∧ byteAt s 2 = 58 ∧ isNum (part s 0 2) = true ∧ isNum (part s 3 5) = true ∧ numV (part s 0 2) ≤ 23 ∧ numV (part s 3 5) ≤ 59)) : minB s = false := decide_eq_false h
theorem dateB_false {s : ByteArray} (h : ¬ (s.size = 10 ∧ byteAt s 4 = 45 ∧ byteAt s 7 = 45 ∧ isNum (part s 0 4) = true ∧ isNum (part s 5 7) = true ∧ isNum (part s 8 10) = true ∧ Cal.ok (numV (part s 0 4)) (numV (part s 5 7)) (numV (part s 8 10)) = true)) : dateB s = false := decide_eq_false h
theorem minB_and {s : ByteArray} (hs : s.size = 5) (hb : byteAt s 2 = 58) : minB s = (isNum (part s 0 2) && isNum (part s 3 5) && decide (numV (part s 0 2) ≤ 23) && decide (numV (part s 3 5) ≤ 59)) := by
  rw [Bool.eq_iff_iff]; simp [minB, hs, hb, and_assoc]
theorem dateB_and {s : ByteArray} (hs : s.size = 10) (hb : byteAt s 4 = 45) (hc : byteAt s 7 = 45) : dateB s = (isNum (part s 0 4) && isNum (part s 5 7) && isNum (part s 8 10) && Cal.ok (numV (part s 0 4)) (numV (part s 5 7)) (numV (part s 8 10))) := by
  rw [Bool.eq_iff_iff]; simp [dateB, hs, hb, hc, and_assoc]
theorem minV_bd (s : ByteArray) : 0 ≤ minV s ∧ minV s ≤ 1439 := by
  unfold minV
  split
  · rename_i h
    have h := of_decide_eq_true h
    have := numV_bd (part s 0 2)
    have := numV_bd (part s 3 5)
    omega
  · omega
theorem dateV_bd (s : ByteArray) : -738885 ≤ dateV s ∧ dateV s ≤ 2913173 := by
  unfold dateV
  split
  · rename_i h
    have h := of_decide_eq_true h
    have b := Cal.num_bd _ _ _ h.2.2.2.2.2.2
    unfold Cal.first Cal.last at b
    exact b
  · omega

end Go.Proofs.YtjfkfiffakbagaaGreatDoor.Txt


/-
  The plain mathematics of times as words: a day and a minute parted at the first slash are those parted at byte 10.
-/
namespace Go.Proofs.YtjfkfiffakbagaaGreatDoor.Txt
open Go

/-- DATE/MINUTE, as any date of the calendar -/
def dmB (s : ByteArray) : Bool := decide (s.size = 16 ∧ byteAt s 10 = 47 ∧ dateB (s.extract 0 10) = true ∧ minB (s.extract 11 16) = true)
def dmV (s : ByteArray) : Int := if dmB s then dateV (s.extract 0 10) * 1440 + minV (s.extract 11 16) else 0
def cutA (s : ByteArray) : ByteArray := { data := (Lib.cut s.data.toList [47]).fst.toArray }
def cutB (s : ByteArray) : ByteArray := { data := (Lib.cut s.data.toList [47]).snd.fst.toArray }
def cutF (s : ByteArray) : Bool := (Lib.cut s.data.toList [47]).snd.snd

theorem ext_list (s : ByteArray) (a b : Nat) : (s.extract a b).data.toList = (s.data.toList.take b).drop a := by
  rw [ByteArray.data_extract, Array.toList_extract]
  simp [List.drop_take]
theorem of_list {s t : ByteArray} (h : s.data.toList = t.data.toList) : s = t := by
  cases s; cases t; simp only at h; congr; exact Array.toList_inj.1 h
theorem dig_ne (c : UInt8) (h : dig c = true) : c ≠ 47 := by
  intro e; subst e; revert h; decide
theorem digs_mem {l : List UInt8} (h : digs l = true) {c : UInt8} (hc : c ∈ l) : c ≠ 47 := dig_ne c (by
  unfold digs at h; rw [List.all_eq_true] at h; exact h c hc)
theorem isNum_digs {l : List UInt8} (h : isNum l = true) : digs l = true := ((isNum_iff l).1 h).2

/-- The first ten bytes of a date are no slashes. -/
theorem date_noslash (t : ByteArray) (h : dateB t = true) : ∀ j, j < 10 → t.data.toList[j]? ≠ some 47 := by
  have h := of_decide_eq_true h
  obtain ⟨hs, b4, b7, n1, n2, n3, _⟩ := h
  have d1 := isNum_digs n1
  have d2 := isNum_digs n2
  have d3 := isNum_digs n3
  unfold part at d1 d2 d3
  rw [ext_list] at d1 d2 d3
  have hl : t.data.toList.length = 10 := by rw [len_list]; exact hs
  intro j hj he
  have hjl : j < t.data.toList.length := by omega
  have e : t.data.toList[j] = 47 := by
    rw [List.getElem?_eq_getElem hjl] at he; exact Option.some.inj he
  have m1 : j < 4 → False := fun h4 => digs_mem d1 (c := t.data.toList[j]) (by
    rw [List.mem_iff_getElem?]; exact ⟨j, by rw [List.getElem?_drop, List.getElem?_take]; simp [h4]⟩) e
  have m2 : 5 ≤ j → j < 7 → False := fun h5 h7 => digs_mem d2 (c := t.data.toList[j]) (by
    rw [List.mem_iff_getElem?]; exact ⟨j - 5, by rw [List.getElem?_drop, List.getElem?_take]; simp [show 5 + (j - 5) = j from by omega, h7]⟩) e
  have m3 : 8 ≤ j → False := fun h8 => digs_mem d3 (c := t.data.toList[j]) (by
    rw [List.mem_iff_getElem?]; exact ⟨j - 8, by rw [List.getElem?_drop, List.getElem?_take]; simp [show 8 + (j - 8) = j from by omega, hj]⟩) e
  have g : ∀ k : Nat, j = k → byteAt t k = 47 := fun k hk => by
    subst hk; unfold byteAt; rw [List.getD_eq_getElem?_getD, List.getElem?_eq_getElem hjl, e]; rfl
  by_cases c4 : j = 4
  · have := g 4 c4; omega
  · by_cases c7 : j = 7
    · have := g 7 c7; omega
    · by_cases c1 : j < 4
      · exact m1 c1
      · by_cases c2 : j < 7
        · exact m2 (by omega) c2
        · exact m3 (by omega)

theorem occ_one (l : List UInt8) (i : Nat) : Lib.occAt l [47] i = true ↔ l[i]? = some 47 := by
  unfold Lib.occAt
  rw [← List.head?_drop]
  cases l.drop i with
  | nil => simp [List.isPrefixOf]
  | cons b r => simp [List.isPrefixOf]; exact eq_comm

theorem cut_yes {s : ByteArray} (hs : s.size = 16) (hb : byteAt s 10 = 47) (hd : dateB (s.extract 0 10) = true) : cutA s = s.extract 0 10 ∧ cutB s = s.extract 11 16 ∧ cutF s = true := by
  have hl : s.data.toList.length = 16 := by rw [len_list]; exact hs
  have h10 : s.data.toList[10]? = some 47 := by
    unfold byteAt at hb
    rw [List.getD_eq_getElem?_getD, List.getElem?_eq_getElem (by omega)] at hb
    rw [List.getElem?_eq_getElem (by omega)]
    have : (s.data.toList[10]'(by omega)).toNat = 47 := by simpa using (by exact_mod_cast hb : _)
    rw [show s.data.toList[10]'(by omega) = 47 from UInt8.toNat_inj.1 (by simpa using this)]
  have hi : Lib.index s.data.toList [47] = 10 := Lib.index_first (i := 10) (by omega) ((occ_one _ _).2 h10) (fun j hj => by
    cases ho : Lib.occAt s.data.toList [47] j with
    | false => rfl
    | true =>
      have := date_noslash _ hd j hj
      rw [ext_list, List.drop_zero, List.getElem?_take, if_pos hj] at this
      exact absurd ((occ_one _ _).1 ho) this)
  have hc : Lib.cut s.data.toList [47] = (s.data.toList.take 10, s.data.toList.drop 11, true) := by
    unfold Lib.cut; rw [hi]; rfl
  refine ⟨of_list ?_, of_list ?_, ?_⟩
  · simp only [cutA, hc, ext_list]; simp
  · simp only [cutB, hc, ext_list]; rw [List.take_of_length_le (by omega)]
  · simp [cutF, hc]

/-- A day and a minute parted at the first slash: those parted at byte 10. -/
theorem cut_dm (s : ByteArray) : (cutF s && dateB (cutA s) && minB (cutB s)) = dmB s ∧ (dmB s = true → dateV (cutA s) * 1440 + minV (cutB s) = dmV s) := by
  have key : (cutF s && dateB (cutA s) && minB (cutB s)) = dmB s := by
    rw [Bool.eq_iff_iff]
    constructor
    · intro h
      simp only [Bool.and_eq_true] at h
      obtain ⟨⟨hf, hd⟩, hm⟩ := h
      have s1 : (cutA s).size = 10 := (of_decide_eq_true hd).1
      have s2 : (cutB s).size = 5 := (of_decide_eq_true hm).1
      have hi : 0 ≤ Lib.index s.data.toList [47] := by
        by_cases hi : 0 ≤ Lib.index s.data.toList [47]
        · exact hi
        · simp [cutF, Lib.cut, hi] at hf
      obtain ⟨i, hi'⟩ := Int.eq_ofNat_of_zero_le hi
      have hr := Lib.index_room s.data.toList [47] hi
      have hc : Lib.cut s.data.toList [47] = (s.data.toList.take i, s.data.toList.drop (i + 1), true) := by
        unfold Lib.cut; rw [if_pos hi, hi']; simp
      have hocc : s.data.toList[i]? = some 47 := by
        rcases Lib.index_spec s.data.toList [47] with ⟨h, _⟩ | ⟨j, hj, _, ho, _⟩
        · omega
        · rw [hi'] at hj
          have : i = j := by omega
          subst this; exact (occ_one _ _).1 ho
      rw [hi'] at hr
      simp only [List.length_singleton, len_list] at hr
      have e1 : min i s.size = 10 := by
        rw [← len_list] at s1; simp only [cutA, hc] at s1; simpa using s1
      have e2 : s.size - (i + 1) = 5 := by
        rw [← len_list] at s2; simp only [cutB, hc] at s2; simpa using s2
      have i10 : i = 10 := by omega
      have hs : s.size = 16 := by omega
      subst i10
      have a1 : cutA s = s.extract 0 10 := of_list (by simp only [cutA, hc, ext_list]; simp)
      have a2 : cutB s = s.extract 11 16 := of_list (by simp only [cutB, hc, ext_list]; rw [List.take_of_length_le (by rw [len_list]; omega)])
      rw [a1] at hd
      rw [a2] at hm
      have hb : byteAt s 10 = 47 := by
        unfold byteAt; rw [List.getD_eq_getElem?_getD, hocc]; rfl
      exact decide_eq_true ⟨hs, hb, hd, hm⟩
    · intro h
      obtain ⟨hs, hb, hd, hm⟩ := of_decide_eq_true h
      obtain ⟨a1, a2, a3⟩ := cut_yes hs hb hd
      rw [a1, a2, a3, hd, hm]; rfl
  refine ⟨key, fun h => ?_⟩
  obtain ⟨hs, hb, hd, _⟩ := of_decide_eq_true h
  obtain ⟨a1, a2, _⟩ := cut_yes hs hb hd
  rw [a1, a2]; simp [dmV, h]

end Go.Proofs.YtjfkfiffakbagaaGreatDoor.Txt


/-
  The plain mathematics of splitting a text into words: by runes (as the library's FieldsFunc goes) and by bytes: the same words.
-/
namespace Go.Proofs.YtjfkfiffakbagaaGreatDoor.Txt
open Go

/-- One byte more: the spans that are closed, and where the open one began. -/
def spStep (b : Bool) (pos : Nat) (x : List (Nat × Nat) × Option Nat) : List (Nat × Nat) × Option Nat :=
  if b then (match x.2 with | some a => (x.1 ++ [(a, pos)], none) | none => (x.1, none)) else (x.1, some (x.2.getD pos))
def spK (s : ByteArray) : Nat → List (Nat × Nat) × Option Nat
  | 0 => ([], none)
  | k + 1 => spStep (decide (byteAt s k = 32)) k (spK s k)
/-- The words of a text. -/
def wordsS (s : ByteArray) : List ByteArray := (Lib.closeSpans s (spK s s.size)).map fun x => s.extract x.1 x.2

theorem get_byteAt (s : ByteArray) (i : Nat) (h : i < s.size) : (s.get! i).toNat = (byteAt s i).toNat := by
  unfold byteAt
  rw [List.getD_eq_getElem?_getD, List.getElem?_eq_getElem (by simpa using h)]
  simp only [Option.getD_some, Int.toNat_natCast]
  congr 1
  cases s with
  | mk a => simp only [ByteArray.get!]; rw [getElem!_pos a i h]; simp

/-- What is read at a place: a byte below 128, or a rune from 128 on whose bytes all are from 128 on. -/
theorem decode_bytes (s : ByteArray) (i : Nat) (h : i < s.size) :
    ((s.get! i).toNat < 128 ∧ Utf8.decode s i = ((s.get! i).toNat, 1)) ∨
    (128 ≤ (Utf8.decode s i).1 ∧ 1 ≤ (Utf8.decode s i).2 ∧ ∀ j, j < (Utf8.decode s i).2 → 128 ≤ (s.get! (i + j)).toNat ∧ i + j < s.size) := by
  unfold Utf8.decode
  simp only [Nat.add_zero]
  by_cases h0 : (s.get! i).toNat < 128
  · left; exact ⟨h0, by rw [if_pos (by omega)]⟩
  · right
    rw [if_neg (by omega)]
    have one : ∀ j, j < 1 → 128 ≤ (s.get! (i + j)).toNat ∧ i + j < s.size := fun j hj => by
      obtain rfl : j = 0 := by omega
      exact ⟨by simpa using h0, by omega⟩
    split
    · rename_i hc
      simp only [Bool.and_eq_true, decide_eq_true_eq, beq_iff_eq] at hc
      split
      · refine ⟨by simp only; omega, by simp, fun j hj => ?_⟩
        simp only at hj
        rcases (show j = 0 ∨ j = 1 by omega) with rfl | rfl
        · exact one 0 (by omega)
        · exact ⟨by omega, by omega⟩
      · exact ⟨by simp [Utf8.runeError], by simp, one⟩
    · split
      · rename_i hc
        simp only [Bool.and_eq_true, decide_eq_true_eq, beq_iff_eq] at hc
        split
        · rename_i hv
          simp only [Bool.and_eq_true, decide_eq_true_eq] at hv
          refine ⟨by simp only; omega, by simp, fun j hj => ?_⟩
          simp only at hj
          rcases (show j = 0 ∨ j = 1 ∨ j = 2 by omega) with rfl | rfl | rfl
          · exact one 0 (by omega)
          · exact ⟨by omega, by omega⟩
          · exact ⟨by omega, by omega⟩
        · exact ⟨by simp [Utf8.runeError], by simp, one⟩
      · split
        · rename_i hc
          simp only [Bool.and_eq_true, decide_eq_true_eq, beq_iff_eq] at hc
          split
          · rename_i hv
            simp only [Bool.and_eq_true, decide_eq_true_eq] at hv
            refine ⟨by simp only; omega, by simp, fun j hj => ?_⟩
            simp only at hj
            rcases (show j = 0 ∨ j = 1 ∨ j = 2 ∨ j = 3 by omega) with rfl | rfl | rfl | rfl
            · exact one 0 (by omega)
            · exact ⟨by omega, by omega⟩
            · exact ⟨by omega, by omega⟩
            · exact ⟨by omega, by omega⟩
          · exact ⟨by simp [Utf8.runeError], by simp, one⟩
        · exact ⟨by simp [Utf8.runeError], by simp, one⟩

theorem spK_run (s : ByteArray) (pos : Nat) : ∀ n : Nat, (∀ j, j < n + 1 → byteAt s (pos + j) ≠ 32) → spK s (pos + (n + 1)) = ((spK s pos).1, some ((spK s pos).2.getD pos)) := by
  intro n
  induction n with
  | zero =>
    intro h
    have := h 0 (by omega)
    simp only [Nat.add_zero] at this
    show spStep _ pos (spK s pos) = _
    rw [decide_eq_false this]; rfl
  | succ n ih =>
    intro h
    have i := ih (fun j hj => h j (by omega))
    have := h (n + 1) (by omega)
    show spStep (decide (byteAt s (pos + (n + 1)) = 32)) (pos + (n + 1)) (spK s (pos + (n + 1))) = _
    rw [decide_eq_false this, i]; rfl

theorem spans_eq (s : ByteArray) : ∀ (f pos : Nat), pos ≤ s.size → s.size - pos ≤ f → Lib.spansFromP (fun r => r == 32) s f pos (spK s pos).2 (spK s pos).1 = spK s s.size := by
  intro f
  induction f with
  | zero =>
    intro pos h1 h2
    obtain rfl : pos = s.size := by omega
    rfl
  | succ f ih =>
    intro pos h1 h2
    by_cases hlt : pos < s.size
    · unfold Lib.spansFromP
      rw [if_pos hlt]
      rcases decode_bytes s pos hlt with ⟨hb, hd⟩ | ⟨hr, hw, hj⟩
      · rw [hd]
        simp only
        have gb := get_byteAt s pos hlt
        have nb : 0 ≤ byteAt s pos := by unfold byteAt; omega
        have i := ih (pos + 1) (by omega) (by omega)
        have st : spK s (pos + 1) = spStep (decide (byteAt s pos = 32)) pos (spK s pos) := rfl
        by_cases h32 : byteAt s pos = 32
        · have e : ((s.get! pos).toNat == 32) = true := by rw [beq_iff_eq]; omega
          rw [e, if_pos rfl]
          rw [decide_eq_true h32] at st
          cases hs : (spK s pos).2 with
          | none => simp only; rw [st] at i; simp only [spStep, hs, if_true] at i; exact i
          | some a => simp only; rw [st] at i; simp only [spStep, hs, if_true] at i; exact i
        · have e : ((s.get! pos).toNat == 32) = false := by rw [beq_eq_false_iff_ne]; omega
          rw [e, if_neg (by decide)]
          rw [decide_eq_false h32] at st
          cases hs : (spK s pos).2 with
          | none => simp only; rw [st] at i; simp only [spStep, hs, Bool.false_eq_true, if_false, Option.getD_none] at i; exact i
          | some a => simp only; rw [st] at i; simp only [spStep, hs, Bool.false_eq_true, if_false, Option.getD_some] at i; exact i
      · have e : ((Utf8.decode s pos).1 == 32) = false := by rw [beq_eq_false_iff_ne]; omega
        rw [e, if_neg (by decide)]
        obtain ⟨n, hn⟩ : ∃ n, (Utf8.decode s pos).2 = n + 1 := ⟨(Utf8.decode s pos).2 - 1, by omega⟩
        have lastj := hj ((Utf8.decode s pos).2 - 1) (by omega)
        have st := spK_run s pos n (fun j hjn => by
          have q := hj j (by omega)
          have gb := get_byteAt s (pos + j) q.2
          have nb : 0 ≤ byteAt s (pos + j) := by unfold byteAt; omega
          omega)
        have i := ih (pos + (n + 1)) (by omega) (by omega)
        rw [st] at i
        rw [hn]
        cases hs : (spK s pos).2 with
        | none => simp only; simp only [hs, Option.getD_none] at i; exact i
        | some a => simp only; simp only [hs, Option.getD_some] at i; exact i
    · obtain rfl : pos = s.size := by omega
      unfold Lib.spansFromP
      rw [if_neg hlt]

/-- The library's fields at blanks are the words. -/
theorem fields_words (s : ByteArray) : Lib.goFieldsP (fun r => r == 32) s = wordsS s := by
  unfold Lib.goFieldsP Lib.spansOfP wordsS
  have := spans_eq s s.size 0 (Nat.zero_le _) (by omega)
  rw [show (spK s 0).2 = none from rfl, show (spK s 0).1 = [] from rfl] at this
  rw [this]

end Go.Proofs.YtjfkfiffakbagaaGreatDoor.Txt


/-
  The plain mathematics of the words, byte by byte, as the document's own splitting goes.
-/
namespace Go.Proofs.YtjfkfiffakbagaaGreatDoor.Txt
open Go

/-- The word that is under way behind k bytes; the words that are whole. -/
def curS (s : ByteArray) (k : Nat) : ByteArray := match (spK s k).2 with | none => ⟨#[]⟩ | some a => s.extract a k
def accS (s : ByteArray) (k : Nat) : List ByteArray := (spK s k).1.map fun x => s.extract x.1 x.2

theorem spK_lt (s : ByteArray) : ∀ (k a : Nat), (spK s k).2 = some a → a < k
  | 0, a, h => by simp [spK] at h
  | k + 1, a, h => by
    simp only [spK, spStep] at h
    split at h
    · split at h <;> simp at h
    · simp only [Option.some.injEq] at h
      cases hs : (spK s k).2 with
      | none => rw [hs] at h; simp at h; omega
      | some b => rw [hs] at h; simp at h; have := spK_lt s k b hs; omega
theorem append_list (a b : ByteArray) : (a ++ b).data.toList = a.data.toList ++ b.data.toList := by
  rw [ByteArray.data_append, Array.toList_append]
theorem ext_app (s : ByteArray) (a k : Nat) (h : a ≤ k) : s.extract a k ++ s.extract k (k + 1) = s.extract a (k + 1) := by
  apply of_list
  rw [append_list, ext_list, ext_list, ext_list]
  have h1 : (s.data.toList.take k).drop a = ((s.data.toList.take (k + 1)).drop a).take (k - a) := by
    rw [List.drop_take, List.drop_take, List.take_take, show min (k - a) (k + 1 - a) = k - a from by omega]
  have h2 : (s.data.toList.take (k + 1)).drop k = ((s.data.toList.take (k + 1)).drop a).drop (k - a) := by
    rw [List.drop_drop, show a + (k - a) = k from by omega]
  rw [h1, h2, List.take_append_drop]
theorem cur_size (s : ByteArray) (k : Nat) : (curS s k).size ≤ k := by
  unfold curS
  split
  · exact Nat.zero_le _
  · have : ∀ a b, (s.extract a b).size = min b s.size - a := fun a b => ByteArray.size_extract ..
    rw [this]; omega
theorem empty_app (b : ByteArray) : (⟨#[]⟩ : ByteArray) ++ b = b := by
  apply of_list; rw [append_list]; rfl
theorem cur_next (s : ByteArray) (k : Nat) (h : byteAt s k ≠ 32) : curS s k ++ s.extract k (k + 1) = curS s (k + 1) ∧ accS s (k + 1) = accS s k := by
  have e : spK s (k + 1) = ((spK s k).1, some ((spK s k).2.getD k)) := by simp only [spK, spStep, decide_eq_false h]; rfl
  refine ⟨?_, by unfold accS; rw [e]⟩
  unfold curS
  rw [e]
  cases hs : (spK s k).2 with
  | none => simp only [Option.getD_none]; exact empty_app _
  | some a => simp only [Option.getD_some]; exact ext_app s a k (Nat.le_of_lt (spK_lt s k a hs))
theorem cur_blank (s : ByteArray) (k : Nat) (hk : k ≤ s.size) (h : byteAt s k = 32) : curS s (k + 1) = ⟨#[]⟩ ∧ accS s (k + 1) = accS s k ++ (if (curS s k).size = 0 then [] else [curS s k]) := by
  have e : spK s (k + 1) = spStep true k (spK s k) := by simp only [spK, decide_eq_true h]
  cases hs : (spK s k).2 with
  | none =>
    have e2 : spK s (k + 1) = ((spK s k).1, none) := by rw [e]; simp [spStep, hs]
    have c : curS s k = ⟨#[]⟩ := by unfold curS; rw [hs]
    refine ⟨by unfold curS; rw [e2], ?_⟩
    rw [c]; unfold accS; rw [e2]; simp; rfl
  | some a =>
    have e2 : spK s (k + 1) = ((spK s k).1 ++ [(a, k)], none) := by rw [e]; simp [spStep, hs]
    have c : curS s k = s.extract a k := by unfold curS; rw [hs]
    have lt := spK_lt s k a hs
    have sz : (s.extract a k).size = min k s.size - a := ByteArray.size_extract ..
    refine ⟨by unfold curS; rw [e2], ?_⟩
    rw [c, if_neg (by omega)]; unfold accS; rw [e2]; simp
theorem words_end (s : ByteArray) : wordsS s = accS s s.size ++ (if (curS s s.size).size = 0 then [] else [curS s s.size]) := by
  unfold wordsS accS curS Lib.closeSpans
  cases hs : (spK s s.size).2 with
  | none => simp; rfl
  | some a =>
    have lt := spK_lt s _ a hs
    have sz : (s.extract a s.size).size = min s.size s.size - a := ByteArray.size_extract ..
    simp only
    rw [if_neg (by omega)]; simp
theorem acc_len (s : ByteArray) : ∀ k : Nat, (accS s k).length ≤ k
  | 0 => Nat.le_refl _
  | k + 1 => by
    have ih := acc_len s k
    unfold accS at *
    rw [List.length_map] at *
    simp only [spK, spStep]
    split
    · split <;> simp <;> omega
    · simp; omega

end Go.Proofs.YtjfkfiffakbagaaGreatDoor.Txt


/-
  The plain mathematics of ON: days of the week with commas between them, split by commas or read three bytes at a time: the same.
-/
namespace Go.Proofs.YtjfkfiffakbagaaGreatDoor.Txt
open Go

/-- The day of a word of two letters; -1: it is none. -/
def wdL (l : List UInt8) : Int :=
  if l == [109, 111] then 0 else if l == [116, 117] then 1 else if l == [119, 101] then 2 else if l == [116, 104] then 3 else if l == [102, 114] then 4 else if l == [115, 97] then 5 else if l == [115, 117] then 6 else -1
theorem wdL_bd (l : List UInt8) : -1 ≤ wdL l ∧ wdL l ≤ 6 := by
  unfold wdL; (repeat' split) <;> omega
theorem wdL_names {l : List UInt8} (h : 0 ≤ wdL l) : l = [109, 111] ∨ l = [116, 117] ∨ l = [119, 101] ∨ l = [116, 104] ∨ l = [102, 114] ∨ l = [115, 97] ∨ l = [115, 117] := by
  unfold wdL at h
  by_cases c0 : (l == [109, 111]) = true
  · exact .inl (beq_iff_eq.1 c0)
  · rw [if_neg c0] at h
    by_cases c1 : (l == [116, 117]) = true
    · exact .inr (.inl (beq_iff_eq.1 c1))
    · rw [if_neg c1] at h
      by_cases c2 : (l == [119, 101]) = true
      · exact .inr (.inr (.inl (beq_iff_eq.1 c2)))
      · rw [if_neg c2] at h
        by_cases c3 : (l == [116, 104]) = true
        · exact .inr (.inr (.inr (.inl (beq_iff_eq.1 c3))))
        · rw [if_neg c3] at h
          by_cases c4 : (l == [102, 114]) = true
          · exact .inr (.inr (.inr (.inr (.inl (beq_iff_eq.1 c4)))))
          · rw [if_neg c4] at h
            by_cases c5 : (l == [115, 97]) = true
            · exact .inr (.inr (.inr (.inr (.inr (.inl (beq_iff_eq.1 c5))))))
            · rw [if_neg c5] at h
              by_cases c6 : (l == [115, 117]) = true
              · exact .inr (.inr (.inr (.inr (.inr (.inr (beq_iff_eq.1 c6))))))
              · rw [if_neg c6] at h; omega
theorem wdL_len {l : List UInt8} (h : 0 ≤ wdL l) : l.length = 2 ∧ 44 ∉ l := by
  rcases wdL_names h with rfl | rfl | rfl | rfl | rfl | rfl | rfl <;> decide
theorem wdL_bad {l : List UInt8} (h : ¬ (l.length = 2 ∧ 44 ∉ l)) : wdL l = -1 := by
  have b := wdL_bd l
  by_cases g : 0 ≤ wdL l
  · exact absurd (wdL_len g) h
  · omega

/-- One day more. -/
def onStep (acc : List Int) (d : Int) : Option (List Int) := if 0 ≤ d ∧ acc.contains d = false then some (d :: acc) else none
/-- As the split pieces are read. -/
def onP : List (List UInt8) → List Int → Option (List Int)
  | [], acc => some acc
  | p :: ps, acc => (onStep acc (wdL p)).bind (onP ps)
/-- Three bytes at a time. -/
def onC : List UInt8 → List Int → Option (List Int)
  | [a, b], acc => onStep acc (wdL [a, b])
  | a :: b :: c :: r, acc => if c = 44 then (onStep acc (wdL [a, b])).bind (onC r) else none
  | _, _ => none
/-- Split at commas. -/
def sp : List UInt8 → List (List UInt8)
  | [] => [[]]
  | c :: l => if c = 44 then [] :: sp l else (match sp l with | [] => [[c]] | p :: ps => (c :: p) :: ps)

theorem step_bad (acc : List Int) : onStep acc (-1) = none := by simp [onStep]
theorem sp_ne (l : List UInt8) : sp l ≠ [] := by
  cases l with
  | nil => simp [sp]
  | cons c l => unfold sp; split; simp; split <;> simp
theorem onP_first {p : List UInt8} (ps : List (List UInt8)) (acc : List Int) (h : ¬ (p.length = 2 ∧ 44 ∉ p)) : onP (p :: ps) acc = none := by
  simp [onP, wdL_bad h, step_bad]
/-- The first piece of a text. -/
theorem sp_cons (c : UInt8) (l : List UInt8) (h : c ≠ 44) : ∃ p ps, sp l = p :: ps ∧ sp (c :: l) = (c :: p) :: ps := by
  cases hs : sp l with
  | nil => exact absurd hs (sp_ne l)
  | cons p ps => exact ⟨p, ps, rfl, by simp [sp, h, hs]⟩
theorem sp_comma (l : List UInt8) : sp (44 :: l) = [] :: sp l := by simp [sp]

theorem on_same : ∀ (l : List UInt8) (acc : List Int), onP (sp l) acc = onC l acc
  | [], acc => by rw [show sp [] = [[]] from rfl, onP_first _ _ (by simp)]; rfl
  | [a], acc => by
    by_cases ha : a = 44
    · subst ha; rw [sp_comma, onP_first _ _ (by simp)]; rfl
    · obtain ⟨p, ps, h1, h2⟩ := sp_cons a [] ha
      simp only [sp, List.cons.injEq] at h1
      obtain ⟨rfl, rfl⟩ := h1
      rw [h2, onP_first _ _ (by simp)]; rfl
  | [a, b], acc => by
    by_cases ha : a = 44
    · subst ha; rw [sp_comma, onP_first _ _ (by simp), onC, wdL_bad (by simp), step_bad]
    · obtain ⟨p, ps, h1, h2⟩ := sp_cons a [b] ha
      rw [h2]
      by_cases hb : b = 44
      · subst hb
        rw [sp_comma] at h1
        simp only [List.cons.injEq] at h1
        obtain ⟨rfl, rfl⟩ := h1
        rw [onP_first _ _ (by simp), onC, wdL_bad (by simp), step_bad]
      · obtain ⟨p', ps', h1', h2'⟩ := sp_cons b [] hb
        simp only [sp, List.cons.injEq] at h1'
        obtain ⟨rfl, rfl⟩ := h1'
        rw [h2'] at h1
        simp only [List.cons.injEq] at h1
        obtain ⟨rfl, rfl⟩ := h1
        simp only [onP, onC]
        cases onStep acc (wdL [a, b]) <;> rfl
  | a :: b :: c :: l, acc => by
    have ih := on_same l
    by_cases ha : a = 44
    · subst ha
      rw [sp_comma, onP_first _ _ (by simp), onC, wdL_bad (by simp), step_bad]
      split <;> rfl
    · obtain ⟨p, ps, h1, h2⟩ := sp_cons a (b :: c :: l) ha
      rw [h2]
      by_cases hb : b = 44
      · subst hb
        rw [sp_comma] at h1
        simp only [List.cons.injEq] at h1
        obtain ⟨rfl, rfl⟩ := h1
        rw [onP_first _ _ (by simp), onC, wdL_bad (by simp), step_bad]
        split <;> rfl
      · obtain ⟨p', ps', h1', h2'⟩ := sp_cons b (c :: l) hb
        rw [h2'] at h1
        simp only [List.cons.injEq] at h1
        obtain ⟨rfl, rfl⟩ := h1
        by_cases hc : c = 44
        · subst hc
          rw [sp_comma] at h1'
          simp only [List.cons.injEq] at h1'
          obtain ⟨rfl, rfl⟩ := h1'
          simp only [onP, onC, if_true]
          cases onStep acc (wdL [a, b]) with
          | none => rfl
          | some x => exact ih x
        · obtain ⟨p'', ps'', _, h2''⟩ := sp_cons c l hc
          rw [h2''] at h1'
          simp only [List.cons.injEq] at h1'
          obtain ⟨rfl, rfl⟩ := h1'
          rw [onP_first _ _ (by simp), onC, if_neg hc]

theorem index_cons (c : UInt8) (l : List UInt8) (h : c ≠ 44) : Lib.index (c :: l) [44] = if Lib.index l [44] == -1 then -1 else Lib.index l [44] + 1 := by
  rw [Lib.index]
  have : ([44] : List UInt8).isPrefixOf (c :: l) = false := by simp [List.isPrefixOf]; exact fun e => h e.symm
  rw [this]; rfl
theorem index_comma (l : List UInt8) : Lib.index (44 :: l) [44] = 0 := by
  rw [Lib.index]; simp [List.isPrefixOf]
theorem splitK_cons (c : UInt8) (l : List UInt8) (h : c ≠ 44) (k : Nat) : ∃ p ps, Lib.splitK [44] 0 k l = p :: ps ∧ Lib.splitK [44] 0 k (c :: l) = (c :: p) :: ps := by
  cases k with
  | zero => exact ⟨l, [], rfl, rfl⟩
  | succ k =>
    unfold Lib.splitK
    rw [index_cons c l h]
    by_cases hi : (Lib.index l [44] == -1) = true
    · rw [if_pos hi, if_pos hi]; exact ⟨l, [], rfl, rfl⟩
    · rw [if_neg hi, if_neg hi]
      have g := Lib.index_ge l [44]
      have hn : Lib.index l [44] ≠ -1 := fun e => hi (beq_iff_eq.2 e)
      rw [if_neg (by rw [beq_iff_eq]; omega)]
      refine ⟨_, _, rfl, ?_⟩
      obtain ⟨i, hi'⟩ := Int.eq_ofNat_of_zero_le (show 0 ≤ Lib.index l [44] by omega)
      rw [hi', show ((i : Int) + 1).toNat = i + 1 from by omega, show ((i : Int)).toNat = i from by omega]
      simp
theorem split_sp : ∀ l : List UInt8, Lib.splitK [44] 0 (l.count 44) l = sp l
  | [] => rfl
  | c :: l => by
    have ih := split_sp l
    by_cases h : c = 44
    · subst h
      rw [List.count_cons_self, sp_comma, ← ih]
      rw [Lib.splitK, index_comma]; simp
    · rw [List.count_cons_of_ne (by simpa using h)]
      obtain ⟨p, ps, h1, h2⟩ := splitK_cons c l h (l.count 44)
      rw [h2]
      rw [ih] at h1
      simp [sp, h, h1]

/-- What ON says of a word: the days that it names, the last first; none: it is none. -/
def onW (s : ByteArray) : Option (List Int) := onC s.data.toList []
def onB (s : ByteArray) : Bool := (onW s).isSome
theorem pieces_on (s : ByteArray) : onP ((Lib.splitB ⟨#[44]⟩ 0 (Lib.countB s ⟨#[44]⟩) s).map (·.data.toList)) [] = onW s := by
  rw [Lib.splitB_data]
  have hc : Lib.countB s ⟨#[44]⟩ = s.data.toList.count 44 := Lib.count_one 44 s.data.toList
  rw [hc, show (ByteArray.mk #[44]).data.toList = [44] from rfl, split_sp, on_same]; rfl

end Go.Proofs.YtjfkfiffakbagaaGreatDoor.Txt

namespace Go.Proofs.YtjfkfiffakbagaaGreatDoor
/-- Is a day of the week among them? -/
def isd (acc : List Int) (j : Int) : Bool := acc.contains j
end Go.Proofs.YtjfkfiffakbagaaGreatDoor


/-
  Two rows in one strict order that hold the same are one.
-/
namespace Go.Proofs.YtjfkfiffakbagaaGreatDoor

/-- Two rows in one strict order that hold the same are one. -/
theorem sorted_unique {α : Type} {lt : α → α → Prop} (hi : ∀ x, ¬ lt x x) (ht : ∀ x y z, lt x y → lt y z → lt x z) : ∀ {l m : List α}, l.Pairwise lt → m.Pairwise lt → (∀ x, x ∈ l ↔ x ∈ m) → l = m
  | [], [], _, _, _ => rfl
  | [], y :: m, _, _, h => by have := (h y).2 (by simp); simp at this
  | x :: l, [], _, _, h => by have := (h x).1 (by simp); simp at this
  | x :: l, y :: m, hl, hm, h => by
    rw [List.pairwise_cons] at hl hm
    have e : x = y := by
      rcases List.mem_cons.1 ((h x).1 (by simp)) with e | e
      · exact e
      · rcases List.mem_cons.1 ((h y).2 (by simp)) with k | k
        · exact k.symm
        · exact absurd (ht _ _ _ (hl.1 y k) (hm.1 x e)) (hi x)
    subst e
    congr 1
    refine sorted_unique hi ht hl.2 hm.2 (fun z => ?_)
    constructor
    · intro hz
      rcases List.mem_cons.1 ((h z).1 (by simp [hz])) with e | e
      · subst e; exact absurd (hl.1 z hz) (hi z)
      · exact e
    · intro hz
      rcases List.mem_cons.1 ((h z).2 (by simp [hz])) with e | e
      · subst e; exact absurd (hm.1 z hz) (hi z)
      · exact e

end Go.Proofs.YtjfkfiffakbagaaGreatDoor

