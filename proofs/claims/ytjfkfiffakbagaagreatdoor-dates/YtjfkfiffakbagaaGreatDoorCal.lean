/-
  The plain mathematics of the calendar: days ahead of a year, of a month; a date and its number belong together. It imports nothing of the program.
-/
namespace Go.Proofs.YtjfkfiffakbagaaGreatDoor.Cal
/-- days of the calendar ahead of a year -/
def ah (y : Int) : Int := (y - 1) * 365 + (y - 1) / 4 - (y - 1) / 100 + (y - 1) / 400
def leap (y : Int) : Bool := y % 4 == 0 && (y % 100 != 0 || y % 400 == 0)
def lp (y : Int) : Int := if leap y then 1 else 0
def tab (m : Int) : Int := if m = 2 then 28 else if m = 4 ∨ m = 6 ∨ m = 9 ∨ m = 11 then 30 else 31
def dim (y m : Int) : Int := if m = 2 then 28 + lp y else tab m
/-- days of a year ahead of a month -/
def cum (y m : Int) : Int :=
  if m ≤ 1 then 0 else if m = 2 then 31 else lp y + (if m = 3 then 59 else if m = 4 then 90 else if m = 5 then 120 else if m = 6 then 151 else if m = 7 then 181 else if m = 8 then 212 else if m = 9 then 243 else if m = 10 then 273 else if m = 11 then 304 else if m = 12 then 334 else 365)
def first : Int := -738885
def last : Int := 2913173
def num (y m d : Int) : Int := first + ah y + cum y m + d - 1
def ok (y m d : Int) : Bool := decide (1 ≤ y ∧ y ≤ 9999 ∧ 1 ≤ m ∧ m ≤ 12 ∧ 1 ≤ d ∧ d ≤ dim y m)

theorem lp_01 (y : Int) : 0 ≤ lp y ∧ lp y ≤ 1 := by unfold lp; split <;> omega
theorem lp_of (y : Int) : lp y = 1 ∧ y % 4 = 0 ∧ (y % 100 ≠ 0 ∨ y % 400 = 0) ∨ lp y = 0 ∧ ¬ (y % 4 = 0 ∧ (y % 100 ≠ 0 ∨ y % 400 = 0)) := by
  unfold lp
  cases h : leap y
  · right; refine ⟨by simp, ?_⟩
    simp only [leap, Bool.and_eq_false_iff, Bool.or_eq_false_iff, beq_eq_false_iff_ne, bne_eq_false_iff_eq] at h
    omega
  · left; refine ⟨by simp, ?_⟩
    simp only [leap, Bool.and_eq_true, Bool.or_eq_true, beq_iff_eq, bne_iff_ne] at h
    exact h
theorem ah_succ (y : Int) (_h : 1 ≤ y) : ah (y + 1) = ah y + 365 + lp y := by
  rcases lp_of y with ⟨e, h1⟩ | ⟨e, h1⟩ <;> rw [e] <;> unfold ah <;> omega
theorem ah_mono (a b : Int) (_h0 : 1 ≤ a) (_h : a ≤ b) : ah a ≤ ah b := by unfold ah; omega
theorem ah_one : ah 1 = 0 := by decide
theorem ah_end : ah 10000 = 3652059 := by decide
theorem ah_guess (g : Int) (_h : 0 ≤ g) : ah (g * 400 / 146097 + 1) ≤ g := by unfold ah; omega
theorem ah_bd (y : Int) (_h1 : 1 ≤ y) (_h2 : y ≤ 10000) : 0 ≤ ah y ∧ ah y ≤ 3652059 := by unfold ah; omega
theorem tab_bd (m : Int) : 28 ≤ tab m ∧ tab m ≤ 31 := by unfold tab; (repeat' split) <;> omega
theorem dim_bd (y m : Int) : 28 ≤ dim y m ∧ dim y m ≤ 31 := by
  have := lp_01 y; have := tab_bd m; unfold dim; split <;> omega
theorem months (m : Int) (h1 : 1 ≤ m) (h2 : m ≤ 12) : m = 1 ∨ m = 2 ∨ m = 3 ∨ m = 4 ∨ m = 5 ∨ m = 6 ∨ m = 7 ∨ m = 8 ∨ m = 9 ∨ m = 10 ∨ m = 11 ∨ m = 12 := by omega
theorem cum_one (y : Int) : cum y 1 = 0 := by simp [cum]
theorem cum_succ (y m : Int) (h1 : 1 ≤ m) (h2 : m ≤ 12) : cum y (m + 1) = cum y m + dim y m := by
  rcases months m h1 h2 with h | h | h | h | h | h | h | h | h | h | h | h <;> subst h <;> simp [cum, dim, tab] <;> omega
theorem cum_end (y : Int) : cum y 13 = 365 + lp y := by simp [cum]; omega
theorem cum_le (y a : Int) (k : Nat) (h1 : 1 ≤ a) (h2 : a + k ≤ 13) : cum y a ≤ cum y (a + k) := by
  induction k with
  | zero => simp
  | succ k ih =>
    have c := cum_succ y (a + k) (by omega) (by omega)
    have d := dim_bd y (a + k)
    have i := ih (by omega)
    rw [show a + ((k + 1 : Nat) : Int) = a + k + 1 from by omega, c]; omega
theorem cum_bd (y m : Int) (h1 : 1 ≤ m) (h2 : m ≤ 13) : 0 ≤ cum y m ∧ cum y m ≤ 365 + lp y := by
  have a := cum_le y 1 (m - 1).toNat (by omega) (by omega)
  have b := cum_le y m (13 - m).toNat h1 (by omega)
  rw [show (1 : Int) + ((m - 1).toNat : Int) = m from by omega, cum_one] at a
  rw [show m + ((13 - m).toNat : Int) = 13 from by omega, cum_end] at b
  exact ⟨a, b⟩
theorem cum_mono (y a b : Int) (h1 : 1 ≤ a) (h : a < b) (h2 : b ≤ 13) : cum y a + dim y a ≤ cum y b := by
  rw [← cum_succ y a h1 (by omega)]
  have c := cum_le y (a + 1) (b - (a + 1)).toNat (by omega) (by omega)
  rwa [show (a + 1) + ((b - (a + 1)).toNat : Int) = b from by omega] at c
theorem ok_iff (y m d : Int) : ok y m d = true ↔ 1 ≤ y ∧ y ≤ 9999 ∧ 1 ≤ m ∧ m ≤ 12 ∧ 1 ≤ d ∧ d ≤ dim y m := by simp [ok]
/-- where a valid date lies within its year -/
theorem in_year (y m d : Int) (h : ok y m d = true) : ah y ≤ num y m d - first ∧ num y m d - first < ah (y + 1) := by
  obtain ⟨h1, h2, h3, h4, h5, h6⟩ := (ok_iff y m d).1 h
  have a := ah_succ y h1
  have b := cum_bd y m h3 (by omega)
  have c := cum_succ y m h3 h4
  have e := cum_bd y (m + 1) (by omega) (by omega)
  unfold num; omega
theorem year_one (a b n : Int) (ha : 1 ≤ a) (hb : 1 ≤ b) (h1 : ah a ≤ n) (h2 : n < ah (a + 1)) (h3 : ah b ≤ n) (h4 : n < ah (b + 1)) : a = b := by
  by_cases h : a < b
  · have := ah_mono (a + 1) b (by omega) (by omega); omega
  · by_cases h' : b < a
    · have := ah_mono (b + 1) a (by omega) (by omega); omega
    · omega
theorem month_one (y a b n : Int) (ha : 1 ≤ a) (ha' : a ≤ 12) (hb : 1 ≤ b) (hb' : b ≤ 12) (h1 : cum y a ≤ n) (h2 : n < cum y a + dim y a) (h3 : cum y b ≤ n) (h4 : n < cum y b + dim y b) : a = b := by
  by_cases h : a < b
  · have := cum_mono y a b ha h (by omega); omega
  · by_cases h' : b < a
    · have := cum_mono y b a hb h' (by omega); omega
    · omega
theorem one (y m d y' m' d' : Int) (h : ok y m d = true) (h' : ok y' m' d' = true) (e : num y m d = num y' m' d') : y = y' ∧ m = m' ∧ d = d' := by
  have i := in_year y m d h
  have i' := in_year y' m' d' h'
  obtain ⟨h1, h2, h3, h4, h5, h6⟩ := (ok_iff y m d).1 h
  obtain ⟨g1, g2, g3, g4, g5, g6⟩ := (ok_iff y' m' d').1 h'
  have hy : y = y' := year_one y y' (num y m d - first) h1 g1 i.1 i.2 (by rw [e]; exact i'.1) (by rw [e]; exact i'.2)
  subst hy
  unfold num at e
  have hm : m = m' := month_one y m m' (cum y m + d - 1) h3 h4 g3 g4 (by omega) (by omega) (by omega) (by omega)
  subst hm
  exact ⟨rfl, rfl, by omega⟩
theorem num_bd (y m d : Int) (h : ok y m d = true) : first ≤ num y m d ∧ num y m d ≤ last := by
  obtain ⟨h1, h2, h3, h4, h5, h6⟩ := (ok_iff y m d).1 h
  have i := in_year y m d h
  have a := ah_mono (y + 1) 10000 (by omega) (by omega)
  have b := ah_bd y h1 (by omega)
  have c := ah_end
  unfold first at i; unfold first last; omega
end Go.Proofs.YtjfkfiffakbagaaGreatDoor.Cal
