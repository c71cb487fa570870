/-
  Parts of the proof, one behind the other: Cal, CalWalks, RefCal, RefDate, DatesWalk, LooksWalk, Text, NumWalks, Dates.
-/
import Derived.Test.YtjfkfiffakbagaaGreatDoorRows
import Derived.WalkKit
import Derived.WalkSpells
import Derived.WalkLawsBesides
/-
  The plain mathematics of the calendar: days ahead of a year, of a month; a date and its number belong together. It imports nothing of the program.
-/
namespace Go.Proofs.YtjfkfiffakbagaaGreatDoor.Cal
/-- days of the calendar ahead of a year -/
def ah (y : Int) : Int := (y - 1) * 365 + (y - 1) / 4 - (y - 1) / 100 + (y - 1) / 400
def leap (y : Int) : Bool := y % 4 == 0 && (y % 100 != 0 || y % 400 == 0)
def lp (y : Int) : Int := if leap y then 1 else 0
def tab (m : Int) : Int := if m = 2 then 28 else if m = 4 ∨ m = 6 ∨ m = 9 ∨ m = 11 then 30 else 31
def dim (y m : Int) : Int := if m = 2 then 28 + lp y else tab m
/-- days of a year ahead of a month -/
def cum (y m : Int) : Int :=
  if m ≤ 1 then 0 else if m = 2 then 31 else lp y + (if m = 3 then 59 else if m = 4 then 90 else if m = 5 then 120 else if m = 6 then 151 else if m = 7 then 181 else if m = 8 then 212 else if m = 9 then 243 else if m = 10 then 273 else if m = 11 then 304 else if m = 12 then 334 else 365)
def first : Int := -738885
def last : Int := 2913173
def num (y m d : Int) : Int := first + ah y + cum y m + d - 1
def ok (y m d : Int) : Bool := decide (1 ≤ y ∧ y ≤ 9999 ∧ 1 ≤ m ∧ m ≤ 12 ∧ 1 ≤ d ∧ d ≤ dim y m)

theorem lp_01 (y : Int) : 0 ≤ lp y ∧ lp y ≤ 1 := by unfold lp; split <;> omega
theorem lp_of (y : Int) : lp y = 1 ∧ y % 4 = 0 ∧ (y % 100 ≠ 0 ∨ y % 400 = 0) ∨ lp y = 0 ∧ ¬ (y % 4 = 0 ∧ (y % 100 ≠ 0 ∨ y % 400 = 0)) := by
  unfold lp
  cases h : leap y
  · right; refine ⟨by simp, ?_⟩
    simp only [leap, Bool.and_eq_false_iff, Bool.or_eq_false_iff, beq_eq_false_iff_ne, bne_eq_false_iff_eq] at h
    omega
  · left; refine ⟨by simp, ?_⟩
    simp only [leap, Bool.and_eq_true, Bool.or_eq_true, beq_iff_eq, bne_iff_ne] at h
    exact h
theorem ah_succ (y : Int) (_h : 1 ≤ y) : ah (y + 1) = ah y + 365 + lp y := by
  rcases lp_of y with ⟨e, h1⟩ | ⟨e, h1⟩ <;> rw [e] <;> unfold ah <;> omega
theorem ah_mono (a b : Int) (_h0 : 1 ≤ a) (_h : a ≤ b) : ah a ≤ ah b := by unfold ah; omega
theorem ah_one : ah 1 = 0 := by decide
theorem ah_end : ah 10000 = 3652059 := by decide
theorem ah_guess (g : Int) (_h : 0 ≤ g) : ah (g * 400 / 146097 + 1) ≤ g := by unfold ah; omega
theorem ah_bd (y : Int) (_h1 : 1 ≤ y) (_h2 : y ≤ 10000) : 0 ≤ ah y ∧ ah y ≤ 3652059 := by unfold ah; omega
theorem tab_bd (m : Int) : 28 ≤ tab m ∧ tab m ≤ 31 := by unfold tab; (repeat' split) <;> omega
theorem dim_bd (y m : Int) : 28 ≤ dim y m ∧ dim y m ≤ 31 := by
  have := lp_01 y; have := tab_bd m; unfold dim; split <;> omega
theorem months (m : Int) (h1 : 1 ≤ m) (h2 : m ≤ 12) : m = 1 ∨ m = 2 ∨ m = 3 ∨ m = 4 ∨ m = 5 ∨ m = 6 ∨ m = 7 ∨ m = 8 ∨ m = 9 ∨ m = 10 ∨ m = 11 ∨ m = 12 := by omega
theorem cum_one (y : Int) : cum y 1 = 0 := by simp [cum]
theorem cum_succ (y m : Int) (h1 : 1 ≤ m) (h2 : m ≤ 12) : cum y (m + 1) = cum y m + dim y m := by
  rcases months m h1 h2 with h | h | h | h | h | h | h | h | h | h | h | h <;> subst h <;> simp [cum, dim, tab] <;> omega
theorem cum_end (y : Int) : cum y 13 = 365 + lp y := by simp [cum]; omega
theorem cum_le (y a : Int) (k : Nat) (h1 : 1 ≤ a) (h2 : a + k ≤ 13) : cum y a ≤ cum y (a + k) := by
  induction k with
  | zero => simp
  | succ k ih =>
    have c := cum_succ y (a + k) (by omega) (by omega)
    have d := dim_bd y (a + k)
    have i := ih (by omega)
    rw [show a + ((k + 1 : Nat) : Int) = a + k + 1 from by omega, c]; omega
theorem cum_bd (y m : Int) (h1 : 1 ≤ m) (h2 : m ≤ 13) : 0 ≤ cum y m ∧ cum y m ≤ 365 + lp y := by
  have a := cum_le y 1 (m - 1).toNat (by omega) (by omega)
  have b := cum_le y m (13 - m).toNat h1 (by omega)
  rw [show (1 : Int) + ((m - 1).toNat : Int) = m from by omega, cum_one] at a
  rw [show m + ((13 - m).toNat : Int) = 13 from by omega, cum_end] at b
  exact ⟨a, b⟩
theorem cum_mono (y a b : Int) (h1 : 1 ≤ a) (h : a < b) (h2 : b ≤ 13) : cum y a + dim y a ≤ cum y b := by
  rw [← cum_succ y a h1 (by omega)]
  have c := cum_le y (a + 1) (b - (a + 1)).toNat (by omega) (by omega)
  rwa [show (a + 1) + ((b - (a + 1)).toNat : Int) = b from by omega] at c
theorem ok_iff (y m d : Int) : ok y m d = true ↔ 1 ≤ y ∧ y ≤ 9999 ∧ 1 ≤ m ∧ m ≤ 12 ∧ 1 ≤ d ∧ d ≤ dim y m := by simp [ok]
/-- where a valid date lies within its year -/
theorem in_year (y m d : Int) (h : ok y m d = true) : ah y ≤ num y m d - first ∧ num y m d - first < ah (y + 1) := by
  obtain ⟨h1, h2, h3, h4, h5, h6⟩ := (ok_iff y m d).1 h
  have a := ah_succ y h1
  have b := cum_bd y m h3 (by omega)
  have c := cum_succ y m h3 h4
  have e := cum_bd y (m + 1) (by omega) (by omega)
  unfold num; omega
theorem year_one (a b n : Int) (ha : 1 ≤ a) (hb : 1 ≤ b) (h1 : ah a ≤ n) (h2 : n < ah (a + 1)) (h3 : ah b ≤ n) (h4 : n < ah (b + 1)) : a = b := by
  by_cases h : a < b
  · have := ah_mono (a + 1) b (by omega) (by omega); omega
  · by_cases h' : b < a
    · have := ah_mono (b + 1) a (by omega) (by omega); omega
    · omega
theorem month_one (y a b n : Int) (ha : 1 ≤ a) (ha' : a ≤ 12) (hb : 1 ≤ b) (hb' : b ≤ 12) (h1 : cum y a ≤ n) (h2 : n < cum y a + dim y a) (h3 : cum y b ≤ n) (h4 : n < cum y b + dim y b) : a = b := by
  by_cases h : a < b
  · have := cum_mono y a b ha h (by omega); omega
  · by_cases h' : b < a
    · have := cum_mono y b a hb h' (by omega); omega
    · omega
theorem one (y m d y' m' d' : Int) (h : ok y m d = true) (h' : ok y' m' d' = true) (e : num y m d = num y' m' d') : y = y' ∧ m = m' ∧ d = d' := by
  have i := in_year y m d h
  have i' := in_year y' m' d' h'
  obtain ⟨h1, h2, h3, h4, h5, h6⟩ := (ok_iff y m d).1 h
  obtain ⟨g1, g2, g3, g4, g5, g6⟩ := (ok_iff y' m' d').1 h'
  have hy : y = y' := year_one y y' (num y m d - first) h1 g1 i.1 i.2 (by rw [e]; exact i'.1) (by rw [e]; exact i'.2)
  subst hy
  unfold num at e
  have hm : m = m' := month_one y m m' (cum y m + d - 1) h3 h4 g3 g4 (by omega) (by omega) (by omega) (by omega)
  subst hm
  exact ⟨rfl, rfl, by omega⟩
theorem num_bd (y m d : Int) (h : ok y m d = true) : first ≤ num y m d ∧ num y m d ≤ last := by
  obtain ⟨h1, h2, h3, h4, h5, h6⟩ := (ok_iff y m d).1 h
  have i := in_year y m d h
  have a := ah_mono (y + 1) 10000 (by omega) (by omega)
  have b := ah_bd y h1 (by omega)
  have c := ah_end
  unfold first at i; unfold first last; omega
end Go.Proofs.YtjfkfiffakbagaaGreatDoor.Cal

/-
  The walks over package calendar: what each of its functions returns, for every argument within its bounds; the world is left as it was.
-/
namespace Go.Proofs.YtjfkfiffakbagaaGreatDoor
open Go.RowKit

theorem ret_bool {a b : Bool} (h : a = b) : Ending.returned (.bool a) = .returned (.bool b) := by rw [h]
theorem ret_int {k : IntKind} {a b : Int} (h : a = b) : Ending.returned (.int k a) = .returned (.int k b) := by rw [h]

/-- The table of the months' days lies in the world. -/
def Tab (w : World) : Prop := w.cell? ⟨0, 0, none⟩ = some (.int .i64 31) ∧ w.cell? ⟨0, 1, none⟩ = some (.int .i64 28) ∧ w.cell? ⟨0, 2, none⟩ = some (.int .i64 31) ∧ w.cell? ⟨0, 3, none⟩ = some (.int .i64 30) ∧ w.cell? ⟨0, 4, none⟩ = some (.int .i64 31) ∧ w.cell? ⟨0, 5, none⟩ = some (.int .i64 30) ∧ w.cell? ⟨0, 6, none⟩ = some (.int .i64 31) ∧ w.cell? ⟨0, 7, none⟩ = some (.int .i64 31) ∧ w.cell? ⟨0, 8, none⟩ = some (.int .i64 30) ∧ w.cell? ⟨0, 9, none⟩ = some (.int .i64 31) ∧ w.cell? ⟨0, 10, none⟩ = some (.int .i64 30) ∧ w.cell? ⟨0, 11, none⟩ = some (.int .i64 31)

set_option maxHeartbeats 400000 in
theorem isLeap_any (y : Int) (w : World) (h1 : 0 ≤ y) (h2 : y ≤ 10000) :
    Calls Tryz.prog 109 #[.int .i64 y] w fun e w' => e = .returned (.bool (Cal.leap y)) ∧ w' = w := by
  cases a4 : (y % 4 == 0)
  · go_enter Tryz.func109, Tryz.ntmps109
    go_wp2
    go_ret
    exact ⟨ret_bool (by simp [Cal.leap, a4]), rfl⟩
  · cases a100 : (y % 100 != 0)
    · cases a400 : (y % 400 == 0)
      all_goals
        go_enter Tryz.func109, Tryz.ntmps109
        go_wp2
        go_ret
        exact ⟨ret_bool (by simp only [Cal.leap, a4, a100, a400]; rfl), rfl⟩
    · go_enter Tryz.func109, Tryz.ntmps109
      go_wp2
      go_ret
      exact ⟨ret_bool (by simp only [Cal.leap, a4, a100]; rfl), rfl⟩

set_option maxHeartbeats 400000 in
theorem daysAhead_any (y : Int) (w : World) (h1 : 1 ≤ y) (h2 : y ≤ 10000) :
    Calls Tryz.prog 67 #[.int .i64 y] w fun e w' => e = .returned (.int .i64 (Cal.ah y)) ∧ w' = w := by
  go_enter Tryz.func67, Tryz.ntmps67
  go_wp2
  go_ret
  exact ⟨ret_int (by unfold Cal.ah; omega), rfl⟩

set_option maxHeartbeats 400000 in
theorem daysOf_any (y m : Int) (w : World) (ht : Tab w) (h1 : 0 ≤ y) (h2 : y ≤ 10000) (h3 : 1 ≤ m) (h4 : m ≤ 12) :
    Calls Tryz.prog 68 #[.int .i64 y, .int .i64 m] w fun e w' => e = .returned (.int .i64 (Cal.dim y m)) ∧ w' = w := by
  obtain ⟨c0, c1, c2, c3, c4, c5, c6, c7, c8, c9, c10, c11⟩ := ht
  rcases Cal.months m h3 h4 with h | h | h | h | h | h | h | h | h | h | h | h
  · subst h
    go_enter Tryz.func68, Tryz.ntmps68
    go_wp2
    go_ret
    exact ⟨ret_int (by simp [Cal.dim, Cal.tab]), rfl⟩
  · subst h
    cases hl : Cal.leap y
    all_goals
      go_enter Tryz.func68, Tryz.ntmps68
      go_wp2_with (go_at_call 109; refine (isLeap_any _ _ (by omega) (by omega)).mono ?_; rintro e w' ⟨rfl, rfl⟩)
      go_ret
      exact ⟨ret_int (by simp [Cal.dim, Cal.lp, hl]), rfl⟩
  all_goals
    subst h
    go_enter Tryz.func68, Tryz.ntmps68
    go_wp2
    go_ret
    exact ⟨ret_int (by simp [Cal.dim, Cal.tab]), rfl⟩

set_option maxHeartbeats 400000 in
theorem yearOf_any (g : Int) (w : World) (h1 : 0 ≤ g) (h2 : g < 3652059) :
    Calls Tryz.prog 66 #[.int .i64 g] w fun e w' => ∃ y : Int, e = .returned (.int .i64 y) ∧ 1 ≤ y ∧ y ≤ 9999 ∧ Cal.ah y ≤ g ∧ g < Cal.ah (y + 1) ∧ w' = w := by
  have g0 := Cal.ah_guess g h1
  go_enter Tryz.func66, Tryz.ntmps66
  go_wp2
  go_loop [3] (fun t => ∃ y : Int, 1 ≤ y ∧ y ≤ 9999 ∧ Cal.ah y ≤ g ∧ t = .int .i64 y) (fun t => (9999 - intOf t).toNat)
  case atStart => exact ⟨_, by omega, by omega, g0, rfl⟩
  case round =>
    obtain ⟨y, hy1, hy2, hy3, rfl⟩ := hrel
    clear g0
    by_cases hd : Cal.ah (y + 1) ≤ g
    · have hy : y < 9999 := by
        by_cases e : y = 9999
        · subst e; have := Cal.ah_end; rw [show (9999 : Int) + 1 = 10000 from rfl] at hd; omega
        · omega
      go_wp2_with (go_at_call 67; refine (daysAhead_any _ _ (by omega) (by omega)).mono ?_; rintro e w' ⟨rfl, rfl⟩)
      go_round
      case rel => exact ⟨y + 1, by omega, by omega, hd, rfl⟩
      case measure => simp [intOf]; omega
    · have hd' : g < Cal.ah (y + 1) := by omega
      go_wp2_with (go_at_call 67; refine (daysAhead_any _ _ (by omega) (by omega)).mono ?_; rintro e w' ⟨rfl, rfl⟩)
      go_ret
      exact ⟨y, rfl, hy1, hy2, hy3, hd', rfl⟩

theorem ok_false {y m d : Int} (h : ¬ (1 ≤ y ∧ y ≤ 9999 ∧ 1 ≤ m ∧ m ≤ 12 ∧ 1 ≤ d ∧ d ≤ Cal.dim y m)) : Cal.ok y m d = false := by
  unfold Cal.ok; exact decide_eq_false h
theorem ok_true {y m d : Int} (h : 1 ≤ y ∧ y ≤ 9999 ∧ 1 ≤ m ∧ m ≤ 12 ∧ 1 ≤ d ∧ d ≤ Cal.dim y m) : Cal.ok y m d = true := by
  unfold Cal.ok; exact decide_eq_true h

set_option maxHeartbeats 400000 in
theorem exists_any (y m d : Int) (w : World) (ht : Tab w) :
    Calls Tryz.prog 69 #[.int .i64 y, .int .i64 m, .int .i64 d] w fun e w' => e = .returned (.bool (Cal.ok y m d)) ∧ w' = w := by
  by_cases a : 1 ≤ y
  · by_cases b : y ≤ 9999
    · by_cases c : 1 ≤ m
      · by_cases f : m ≤ 12
        · by_cases g : 1 ≤ d
          · by_cases k : d ≤ Cal.dim y m
            all_goals
              go_enter Tryz.func69, Tryz.ntmps69
              go_wp2_with (go_at_call 68; refine (daysOf_any _ _ _ ht (by omega) (by omega) (by omega) (by omega)).mono ?_; rintro e w' ⟨rfl, rfl⟩)
              go_ret
            · exact ⟨ret_bool (by rw [ok_true ⟨a, b, c, f, g, k⟩]), rfl⟩
            · exact ⟨ret_bool (by rw [ok_false (by omega)]; exact decide_eq_false (by omega)), rfl⟩
          · go_enter Tryz.func69, Tryz.ntmps69
            go_wp2
            go_ret
            exact ⟨ret_bool (by rw [ok_false (by omega)]), rfl⟩
        · go_enter Tryz.func69, Tryz.ntmps69
          go_wp2
          go_ret
          exact ⟨ret_bool (by rw [ok_false (by omega)]), rfl⟩
      · go_enter Tryz.func69, Tryz.ntmps69
        go_wp2
        go_ret
        exact ⟨ret_bool (by rw [ok_false (by omega)]), rfl⟩
    · go_enter Tryz.func69, Tryz.ntmps69
      go_wp2
      go_ret
      exact ⟨ret_bool (by rw [ok_false (by omega)]), rfl⟩
  · go_enter Tryz.func69, Tryz.ntmps69
    go_wp2
    go_ret
    exact ⟨ret_bool (by rw [ok_false (by omega)]), rfl⟩

set_option maxHeartbeats 400000 in
theorem calDay_no (y m d : Int) (w : World) (ht : Tab w) (h : Cal.ok y m d = false) :
    Calls Tryz.prog 48 #[.int .i64 y, .int .i64 m, .int .i64 d] w fun e w' => e = .returned (.tuple #[.int .i64 0, .int .i64 6]) ∧ w' = w := by
  go_enter Tryz.func48, Tryz.ntmps48
  go_wp2_with (go_at_call 69; refine (exists_any _ _ _ _ ht).mono ?_; rintro e w' ⟨rfl, rfl⟩)
  go_ret2
  exact ⟨rfl, rfl⟩

theorem ret2_int {k l : IntKind} {a b c : Int} (h : a = b) : Ending.returned (.tuple #[.int k a, .int l c]) = .returned (.tuple #[.int k b, .int l c]) := by rw [h]

set_option maxHeartbeats 400000 in
theorem calDay_yes (y m d : Int) (w : World) (ht : Tab w) (h : Cal.ok y m d = true) :
    Calls Tryz.prog 48 #[.int .i64 y, .int .i64 m, .int .i64 d] w fun e w' => e = .returned (.tuple #[.int .i64 (Cal.num y m d), .int .i64 0]) ∧ w' = w := by
  obtain ⟨h1, h2, h3, h4, h5, h6⟩ := (Cal.ok_iff y m d).1 h
  have hb := Cal.ah_bd y h1 (by omega)
  have hdb := Cal.dim_bd y m
  have hl := Cal.lp_01 y
  go_enter Tryz.func48, Tryz.ntmps48
  go_wp2_with (first | (go_at_call 69; refine (exists_any _ _ _ _ ht).mono ?_; rintro e w' ⟨rfl, rfl⟩) | (go_at_call 67; refine (daysAhead_any _ _ (by omega) (by omega)).mono ?_; rintro e w' ⟨rfl, rfl⟩))
  go_loop [8, 9] (fun n k => ∃ j : Int, 1 ≤ j ∧ j ≤ m ∧ k = .int .i64 j ∧ n = .int .i64 (-738885 + Cal.ah y + d - 1 + Cal.cum y j)) (fun _ k => (m - intOf k).toNat)
  case atStart => exact ⟨1, by omega, by omega, rfl, by rw [Cal.cum_one, Int.add_zero]⟩
  case round =>
    obtain ⟨j, hj1, hj2, rfl, rfl⟩ := hrel
    have cb := Cal.cum_bd y j hj1 (by omega)
    have db := Cal.dim_bd y j
    have cs := Cal.cum_succ y j hj1 (by omega)
    have HC : Hid (Cal.cum y (j + 1) = Cal.cum y j + Cal.dim y j) := cs
    clear cs
    by_cases hc : j < m
    · go_wp2_with (go_at_call 68; refine (daysOf_any _ _ _ ht (by omega) (by omega) (by omega) (by omega)).mono ?_; rintro e w' ⟨rfl, rfl⟩)
      go_round
      case rel => exact ⟨j + 1, by omega, by omega, rfl, by rw [HC.out]; go_num⟩
      case measure => simp [intOf]; omega
    · obtain rfl : j = m := by omega
      go_wp2
      go_ret2
      exact ⟨ret2_int (by unfold Cal.num Cal.first; omega), rfl⟩

theorem results_tmp4 {fn : Func} {t u v x : Tmp} (h : fn.results = #[.tmp t, .tmp u, .tmp v, .tmp x]) (tmps : Array Value) (P : Program) (w : World) :
    (results fn tmps).run P w = .ok (.tuple #[tmps.getD t undef, tmps.getD u undef, tmps.getD v undef, tmps.getD x undef]) w := by
  simp [results, h]

set_option maxHeartbeats 400000 in
theorem calDate_no (n : Int) (w : World) (h : n < -738885 ∨ 2913173 < n) :
    Calls Tryz.prog 47 #[.int .i64 n] w fun e w' => e = .returned (.tuple #[.int .i64 0, .int .i64 0, .int .i64 0, .int .i64 6]) ∧ w' = w := by
  rcases h with h | h
  · go_enter Tryz.func47, Tryz.ntmps47
    go_wp2
    (try simp only [Exit.inBlock, Exit.then]); refine bodyPost_ret (results_tmp4 rfl _ _ _) rfl ?_
    exact ⟨rfl, rfl⟩
  · have h' : ¬ n < -738885 := by omega
    go_enter Tryz.func47, Tryz.ntmps47
    go_wp2
    (try simp only [Exit.inBlock, Exit.then]); refine bodyPost_ret (results_tmp4 rfl _ _ _) rfl ?_
    exact ⟨rfl, rfl⟩

theorem num_of (n y k : Int) : Cal.num y k (n + 738885 - Cal.ah y - Cal.cum y k + 1) = n := by unfold Cal.num Cal.first; omega

set_option maxHeartbeats 1000000 in
theorem calDate_yes (n : Int) (w : World) (ht : Tab w) (h1 : -738885 ≤ n) (h2 : n ≤ 2913173) :
    Calls Tryz.prog 47 #[.int .i64 n] w fun e w' => ∃ y m d : Int, e = .returned (.tuple #[.int .i64 y, .int .i64 m, .int .i64 d, .int .i64 0]) ∧ Cal.ok y m d = true ∧ Cal.num y m d = n ∧ w' = w := by
  go_enter Tryz.func47, Tryz.ntmps47
  go_wp2_with (first | (go_at_call 66; refine (yearOf_any _ _ (by omega) (by omega)).mono ?_; rintro e w' ⟨y, rfl, hy1, hy2, hy3, hy4, rfl⟩; have hb := Cal.ah_bd y hy1 (by omega)) | (go_at_call 67; refine (daysAhead_any _ _ (by omega) (by omega)).mono ?_; rintro e w' ⟨rfl, rfl⟩))
  have hs := Cal.ah_succ y hy1
  have hl := Cal.lp_01 y
  go_loop [8, 9] (fun r k => ∃ m : Int, 1 ≤ m ∧ m ≤ 12 ∧ k = .int .i64 m ∧ 0 ≤ n + 738885 - Cal.ah y - Cal.cum y m ∧ r = .int .i64 (n + 738885 - Cal.ah y - Cal.cum y m)) (fun _ k => (12 - intOf k).toNat)
  case atStart => exact ⟨1, by omega, by omega, rfl, by rw [Cal.cum_one]; omega, by rw [Cal.cum_one, Int.sub_zero]⟩
  case round =>
    obtain ⟨m, hm1, hm2, rfl, hr, rfl⟩ := hrel
    have cb := Cal.cum_bd y m hm1 (by omega)
    have db := Cal.dim_bd y m
    have cs := Cal.cum_succ y m hm1 hm2
    have ce := Cal.cum_end y
    by_cases hd : Cal.dim y m ≤ n + 738885 - Cal.ah y - Cal.cum y m
    · have hm : m < 12 := by
        by_cases e : m = 12
        · subst e; rw [show (12 : Int) + 1 = 13 from rfl] at cs; omega
        · omega
      have HC : Hid (Cal.cum y (m + 1) = Cal.cum y m + Cal.dim y m) := cs
      clear cs ce hs
      go_wp2_with (go_at_call 68; refine (daysOf_any _ _ _ ht (by omega) (by omega) (by omega) (by omega)).mono ?_; rintro e w' ⟨rfl, rfl⟩)
      go_round
      case rel => exact ⟨m + 1, by omega, by omega, rfl, by rw [HC.out]; omega, by rw [HC.out]; go_num⟩
      case measure => simp [intOf]; omega
    · have hok : Cal.ok y m (n + 738885 - Cal.ah y - Cal.cum y m + 1) = true := ok_true (by omega)
      clear cs ce hs
      go_wp2_with (go_at_call 68; refine (daysOf_any _ _ _ ht (by omega) (by omega) (by omega) (by omega)).mono ?_; rintro e w' ⟨rfl, rfl⟩)
      (try simp only [Exit.inBlock, Exit.then]); refine bodyPost_ret (results_tmp4 rfl _ _ _) rfl ?_
      exact ⟨y, m, _, rfl, hok, num_of n y m, rfl⟩

end Go.Proofs.YtjfkfiffakbagaaGreatDoor

/-
  The walks over the document's own dates (package bookingsref: year by year): what each function returns, for every argument within its bounds; the world is left as it was.
-/
namespace Go.Proofs.YtjfkfiffakbagaaGreatDoor
open Go.RowKit

set_option maxHeartbeats 400000 in
theorem refLeap_any (y : Int) (w : World) (h1 : 0 ≤ y) (h2 : y ≤ 10000) :
    Calls Tryz.prog 162 #[.int .i64 y] w fun e w' => e = .returned (.bool (Cal.leap y)) ∧ w' = w := by
  cases a100 : (y % 100 == 0)
  · go_enter Tryz.func162, Tryz.ntmps162
    go_wp2
    go_ret
    exact ⟨ret_bool (by simp only [Cal.leap, bne, a100]; simp), rfl⟩
  · have a4 : (y % 4 == 0) = true := by simp only [beq_iff_eq] at a100 ⊢; omega
    have HA : Hid ((y % 4 == 0) = true) := a4
    clear a4
    go_enter Tryz.func162, Tryz.ntmps162
    go_wp2
    go_ret
    exact ⟨ret_bool (by simp only [Cal.leap, bne, a100, HA.out]; simp), rfl⟩

set_option maxHeartbeats 400000 in
theorem refYear_any (y : Int) (w : World) (h1 : 0 ≤ y) (h2 : y ≤ 10000) :
    Calls Tryz.prog 112 #[.int .i64 y] w fun e w' => e = .returned (.int .i64 (365 + Cal.lp y)) ∧ w' = w := by
  cases hl : Cal.leap y
  all_goals
    go_enter Tryz.func112, Tryz.ntmps112
    go_wp2_with (go_at_call 162; refine (refLeap_any _ _ (by omega) (by omega)).mono ?_; rintro e w' ⟨rfl, rfl⟩)
    go_ret
    exact ⟨ret_int (by simp [Cal.lp, hl]), rfl⟩

set_option maxHeartbeats 400000 in
theorem refLength_any (y m : Int) (w : World) (h1 : 0 ≤ y) (h2 : y ≤ 10000) (h3 : 1 ≤ m) (h4 : m ≤ 12) :
    Calls Tryz.prog 111 #[.int .i64 y, .int .i64 m] w fun e w' => e = .returned (.int .i64 (Cal.dim y m)) ∧ w' = w := by
  rcases Cal.months m h3 h4 with h | h | h | h | h | h | h | h | h | h | h | h
  · subst h
    go_enter Tryz.func111, Tryz.ntmps111
    go_wp2
    go_ret
    exact ⟨ret_int (by simp [Cal.dim, Cal.tab]), rfl⟩
  · subst h
    cases hl : Cal.leap y
    all_goals
      go_enter Tryz.func111, Tryz.ntmps111
      go_wp2_with (go_at_call 162; refine (refLeap_any _ _ (by omega) (by omega)).mono ?_; rintro e w' ⟨rfl, rfl⟩)
      go_ret
      exact ⟨ret_int (by simp [Cal.dim, Cal.lp, hl]), rfl⟩
  all_goals
    subst h
    go_enter Tryz.func111, Tryz.ntmps111
    go_wp2
    go_ret
    exact ⟨ret_int (by simp [Cal.dim, Cal.tab]), rfl⟩

set_option maxHeartbeats 400000 in
theorem isDate_any (y m d : Int) (w : World) :
    Calls Tryz.prog 110 #[.int .i64 y, .int .i64 m, .int .i64 d] w fun e w' => e = .returned (.bool (Cal.ok y m d)) ∧ w' = w := by
  by_cases a : 1 ≤ y
  · by_cases b : y ≤ 9999
    · by_cases c : 1 ≤ m
      · by_cases f : m ≤ 12
        · by_cases g : 1 ≤ d
          · by_cases k : d ≤ Cal.dim y m
            all_goals
              go_enter Tryz.func110, Tryz.ntmps110
              go_wp2_with (go_at_call 111; refine (refLength_any _ _ _ (by omega) (by omega) (by omega) (by omega)).mono ?_; rintro e w' ⟨rfl, rfl⟩)
              go_ret
            · exact ⟨ret_bool (by rw [ok_true ⟨a, b, c, f, g, k⟩]), rfl⟩
            · exact ⟨ret_bool (by rw [ok_false (by omega)]; exact decide_eq_false (by omega)), rfl⟩
          · go_enter Tryz.func110, Tryz.ntmps110
            go_wp2
            go_ret
            exact ⟨ret_bool (by rw [ok_false (by omega)]), rfl⟩
        · go_enter Tryz.func110, Tryz.ntmps110
          go_wp2
          go_ret
          exact ⟨ret_bool (by rw [ok_false (by omega)]), rfl⟩
      · go_enter Tryz.func110, Tryz.ntmps110
        go_wp2
        go_ret
        exact ⟨ret_bool (by rw [ok_false (by omega)]), rfl⟩
    · go_enter Tryz.func110, Tryz.ntmps110
      go_wp2
      go_ret
      exact ⟨ret_bool (by rw [ok_false (by omega)]), rfl⟩
  · go_enter Tryz.func110, Tryz.ntmps110
    go_wp2
    go_ret
    exact ⟨ret_bool (by rw [ok_false (by omega)]), rfl⟩

set_option maxHeartbeats 400000 in
theorem refDay_no (y m d : Int) (w : World) (h : Cal.ok y m d = false) :
    Calls Tryz.prog 71 #[.int .i64 y, .int .i64 m, .int .i64 d] w fun e w' => e = .returned (.tuple #[.int .i64 0, .int .i64 6]) ∧ w' = w := by
  go_enter Tryz.func71, Tryz.ntmps71
  go_wp2_with (go_at_call 110; refine (isDate_any _ _ _ _).mono ?_; rintro e w' ⟨rfl, rfl⟩)
  go_ret2
  exact ⟨rfl, rfl⟩

theorem ah_2024 : Cal.ah 2024 = 738885 := by decide

set_option maxHeartbeats 1000000 in
theorem refDay_yes (y m d : Int) (w : World) (h : Cal.ok y m d = true) :
    Calls Tryz.prog 71 #[.int .i64 y, .int .i64 m, .int .i64 d] w fun e w' => e = .returned (.tuple #[.int .i64 (Cal.num y m d), .int .i64 0]) ∧ w' = w := by
  obtain ⟨h1, h2, h3, h4, h5, h6⟩ := (Cal.ok_iff y m d).1 h
  have hb := Cal.ah_bd y h1 (by omega)
  have hdb := Cal.dim_bd y m
  have hl := Cal.lp_01 y
  have cbm := Cal.cum_bd y m h3 (by omega)
  go_enter Tryz.func71, Tryz.ntmps71
  go_wp2_with (go_at_call 110; refine (isDate_any _ _ _ _).mono ?_; rintro e w' ⟨rfl, rfl⟩)
  go_loop [9, 10, 11] (fun n k _ => ∃ j : Int, 1 ≤ j ∧ j ≤ m ∧ k = .int .i64 j ∧ n = .int .i64 (d - 1 + Cal.cum y j)) (fun _ k _ => (m - intOf k).toNat)
  case atStart => exact ⟨1, by omega, by omega, rfl, by rw [Cal.cum_one, Int.add_zero]⟩
  case round =>
    obtain ⟨j, hj1, hj2, rfl, rfl⟩ := hrel
    have cb := Cal.cum_bd y j hj1 (by omega)
    have db := Cal.dim_bd y j
    have cs := Cal.cum_succ y j hj1 (by omega)
    have HC : Hid (Cal.cum y (j + 1) = Cal.cum y j + Cal.dim y j) := cs
    clear cs
    by_cases hc : j < m
    · go_wp2_with (go_at_call 111; refine (refLength_any _ _ _ (by omega) (by omega) (by omega) (by omega)).mono ?_; rintro e w' ⟨rfl, rfl⟩)
      go_round
      case rel => exact ⟨j + 1, by omega, by omega, rfl, by rw [HC.out]; go_num⟩
      case measure => simp [intOf]; omega
    · obtain rfl : j = m := by omega
      go_wp2
      go_loop [9, 12, 13] (fun n k _ => ∃ j' : Int, 2024 ≤ j' ∧ (j' ≤ y ∨ j' = 2024) ∧ k = .int .i64 j' ∧ n = .int .i64 (d - 1 + Cal.cum y j + (Cal.ah j' - 738885))) (fun _ k _ => (y - intOf k).toNat)
      case atStart => exact ⟨2024, by omega, by omega, rfl, by rw [ah_2024]; go_num⟩
      case round =>
        obtain ⟨k, hk1, hk2, rfl, rfl⟩ := hrel
        have kb := Cal.ah_bd k (by omega) (by omega)
        have kl := Cal.lp_01 k
        have ks := Cal.ah_succ k (by omega)
        have HK : Hid (Cal.ah (k + 1) = Cal.ah k + 365 + Cal.lp k) := ks
        clear ks
        by_cases hk : k < y
        · go_wp2_with (go_at_call 112; refine (refYear_any _ _ (by omega) (by omega)).mono ?_; rintro e w' ⟨rfl, rfl⟩)
          go_round
          case rel => exact ⟨k + 1, by omega, by omega, rfl, by rw [HK.out]; go_num⟩
          case measure => simp [intOf]; omega
        · have km : Cal.ah y ≤ Cal.ah k := Cal.ah_mono y k h1 (by omega)
          have hk3 : (y = k) ∨ (y < 2024 ∧ k = 2024) := by omega
          have HK3 : Hid ((y = k) ∨ (y < 2024 ∧ k = 2024)) := hk3
          clear hk3
          go_wp2
          go_loop [9, 14, 15] (fun n k' _ => ∃ i : Int, y ≤ i ∧ (i ≤ 2024 ∨ i = y) ∧ k' = .int .i64 i ∧ n = .int .i64 (d - 1 + Cal.cum y j + (Cal.ah k - 738885) - (Cal.ah i - Cal.ah y))) (fun _ k' _ => (2024 - intOf k').toNat)
          case atStart => exact ⟨y, by omega, by omega, rfl, by go_num⟩
          case round =>
            obtain ⟨i, hi1, hi2, rfl, rfl⟩ := hrel
            have ib := Cal.ah_bd i (by omega) (by omega)
            have il := Cal.lp_01 i
            have is := Cal.ah_succ i (by omega)
            have HI : Hid (Cal.ah (i + 1) = Cal.ah i + 365 + Cal.lp i) := is
            clear is
            by_cases hi : i < 2024
            · go_wp2_with (go_at_call 112; refine (refYear_any _ _ (by omega) (by omega)).mono ?_; rintro e w' ⟨rfl, rfl⟩)
              go_round
              case rel => exact ⟨i + 1, by omega, by omega, rfl, by rw [HI.out]; go_num⟩
              case measure => simp [intOf]; omega
            · go_wp2
              go_ret2
              refine ⟨ret2_int ?_, rfl⟩
              have a24 := ah_2024
              rcases HK3.out with e | ⟨e1, e2⟩
              · subst e
                by_cases hy : i = y
                · subst hy; unfold Cal.num Cal.first; omega
                · obtain rfl : i = 2024 := by omega
                  exact absurd hi1 (by omega)
              · subst e2
                obtain rfl : i = 2024 := by omega
                unfold Cal.num Cal.first; omega

end Go.Proofs.YtjfkfiffakbagaaGreatDoor

/-
  The walks over the document's own Date, and over the law's dated and date: both sides answer alike.
-/
namespace Go.Proofs.YtjfkfiffakbagaaGreatDoor
open Go.RowKit

theorem early (n z : Int) (h : 0 ≤ n + (738885 - Cal.ah z) ∨ z = 1) (g : n + (738885 - Cal.ah z) < 0) : n < -738885 ∨ 2913173 < n := by
  rcases h with h | h
  · omega
  · subst h; have := Cal.ah_one; omega
theorem late (n z : Int) (h : z = 9999) (e : Cal.ah (z + 1) = Cal.ah z + 365 + Cal.lp z) (g : 365 + Cal.lp z ≤ n + (738885 - Cal.ah z)) : n < -738885 ∨ 2913173 < n := by
  subst h
  have := Cal.ah_end
  rw [show (9999 : Int) + 1 = 10000 from rfl] at e
  omega

theorem num_of' (n y k : Int) : Cal.num y k (n + (738885 - Cal.ah y) - Cal.cum y k + 1) = n := by unfold Cal.num Cal.first; omega
theorem inside (n z m : Int) (h : Cal.ok z m (n + (738885 - Cal.ah z) - Cal.cum z m + 1) = true) : ¬ (n < -738885 ∨ 2913173 < n) := by
  have b := Cal.num_bd _ _ _ h
  rw [num_of'] at b
  unfold Cal.first Cal.last at b
  omega

set_option maxHeartbeats 2000000 in
theorem refDate_any (n : Int) (w : World) (h1 : -9223372036854775808 ≤ n) (h2 : n ≤ 9223372036854775807) :
    Calls Tryz.prog 72 #[.int .i64 n] w fun e w' => ((n < -738885 ∨ 2913173 < n) ∧ e = .returned (.tuple #[.int .i64 0, .int .i64 0, .int .i64 0, .int .i64 6]) ∨ (¬ (n < -738885 ∨ 2913173 < n)) ∧ ∃ y m d : Int, e = .returned (.tuple #[.int .i64 y, .int .i64 m, .int .i64 d, .int .i64 0]) ∧ Cal.ok y m d = true ∧ Cal.num y m d = n) ∧ w' = w := by
  go_enter Tryz.func72, Tryz.ntmps72
  go_wp2
  go_loop [0, 6, 7] (fun t k _ => ∃ y : Int, 1 ≤ y ∧ y ≤ 2024 ∧ k = .int .i64 y ∧ t = .int .i64 (n + (738885 - Cal.ah y)) ∧ n + (738885 - Cal.ah y) ≤ 9223372036854775807) (fun _ k _ => (intOf k).toNat)
  case atStart => exact ⟨2024, by omega, by omega, rfl, by rw [ah_2024]; go_num, by rw [ah_2024]; omega⟩
  case round =>
    obtain ⟨y, hy1, hy2, rfl, rfl, hyt⟩ := hrel
    have yb := Cal.ah_bd y hy1 (by omega)
    have ym := Cal.ah_mono y 2024 hy1 hy2
    rw [ah_2024] at ym
    by_cases hn : n + (738885 - Cal.ah y) < 0 ∧ 1 < y
    · obtain ⟨hn, hy⟩ := hn
      have ys := Cal.ah_succ (y - 1) (by omega)
      rw [show y - 1 + 1 = y from by omega] at ys
      have yl := Cal.lp_01 (y - 1)
      have HY : Hid (Cal.ah y = Cal.ah (y - 1) + 365 + Cal.lp (y - 1)) := ys
      clear ys
      go_wp2_with (go_at_call 112; refine (refYear_any _ _ (by omega) (by omega)).mono ?_; rintro e w' ⟨rfl, rfl⟩)
      go_round
      case rel => exact ⟨y - 1, by omega, by omega, rfl, by have := HY.out; go_num, by have := HY.out; omega⟩
      case measure => simp [intOf]; omega
    · have hz : 0 ≤ n + (738885 - Cal.ah y) ∨ y = 1 := by omega
      have HZ : Hid (0 ≤ n + (738885 - Cal.ah y) ∨ y = 1) := hz
      clear hz
      have hn0 : (n + (738885 - Cal.ah y) < 0 ∧ ¬ 1 < y) ∨ ¬ n + (738885 - Cal.ah y) < 0 := by omega
      clear hn
      rcases hn0 with ⟨hn0, hy⟩ | hn0
      all_goals
        go_wp2
        go_loop [0, 6, 8] (fun t k _ => ∃ z : Int, 1 ≤ z ∧ z ≤ 9999 ∧ k = .int .i64 z ∧ t = .int .i64 (n + (738885 - Cal.ah z)) ∧ n + (738885 - Cal.ah z) ≤ 9223372036854775807 ∧ (0 ≤ n + (738885 - Cal.ah z) ∨ z = 1)) (fun _ k _ => (9999 - intOf k).toNat)
        case atStart => exact ⟨y, by omega, by omega, rfl, rfl, hyt, HZ.out⟩
        case round =>
          obtain ⟨z, hz1, hz2, rfl, rfl, hzt, hz3⟩ := hrel
          have HZ3 : Hid (0 ≤ n + (738885 - Cal.ah z) ∨ z = 1) := hz3
          clear hz3 yb ym hn0
          have zb := Cal.ah_bd z hz1 (by omega)
          have zl := Cal.lp_01 z
          have zs := Cal.ah_succ z hz1
          have HS : Hid (Cal.ah (z + 1) = Cal.ah z + 365 + Cal.lp z) := zs
          clear zs
          by_cases hz9 : z < 9999
          · by_cases hge : 365 + Cal.lp z ≤ n + (738885 - Cal.ah z)
            · go_wp2_with (go_at_call 112; refine (refYear_any _ _ (by omega) (by omega)).mono ?_; rintro e w' ⟨rfl, rfl⟩)
              go_round
              case rel => exact ⟨z + 1, by omega, by omega, rfl, by have := HS.out; go_num, by have := HS.out; omega, by have := HS.out; omega⟩
              case measure => simp [intOf]; omega
            · by_cases hneg : n + (738885 - Cal.ah z) < 0
              · go_wp2_with (go_at_call 112; refine (refYear_any _ _ (by omega) (by omega)).mono ?_; rintro e w' ⟨rfl, rfl⟩)
                (try simp only [Exit.inBlock, Exit.then]); refine bodyPost_ret (results_tmp4 rfl _ _ _) rfl ?_
                exact ⟨Or.inl ⟨early n z HZ3.out hneg, rfl⟩, rfl⟩
              · go_wp2_with (go_at_call 112; refine (refYear_any _ _ (by omega) (by omega)).mono ?_; rintro e w' ⟨rfl, rfl⟩)
                go_loop [0, 9, 10] (fun r k _ => ∃ m : Int, 1 ≤ m ∧ m ≤ 12 ∧ k = .int .i64 m ∧ 0 ≤ n + (738885 - Cal.ah z) - Cal.cum z m ∧ r = .int .i64 (n + (738885 - Cal.ah z) - Cal.cum z m)) (fun _ k _ => (12 - intOf k).toNat)
                case atStart => exact ⟨1, by omega, by omega, rfl, by rw [Cal.cum_one]; omega, by rw [Cal.cum_one, Int.sub_zero]⟩
                case round =>
                  obtain ⟨m, hm1, hm2, rfl, hr, rfl⟩ := hrel
                  have cb := Cal.cum_bd z m hm1 (by omega)
                  have db := Cal.dim_bd z m
                  have cs := Cal.cum_succ z m hm1 hm2
                  have ce := Cal.cum_end z
                  by_cases hd : Cal.dim z m ≤ n + (738885 - Cal.ah z) - Cal.cum z m
                  · have hm : m < 12 := by
                      by_cases e : m = 12
                      · subst e; rw [show (12 : Int) + 1 = 13 from rfl] at cs; omega
                      · omega
                    have HC : Hid (Cal.cum z (m + 1) = Cal.cum z m + Cal.dim z m) := cs
                    clear cs ce
                    go_wp2_with (go_at_call 111; refine (refLength_any _ _ _ (by omega) (by omega) (by omega) (by omega)).mono ?_; rintro e w' ⟨rfl, rfl⟩)
                    go_round
                    case rel => exact ⟨m + 1, by omega, by omega, rfl, by rw [HC.out]; omega, by rw [HC.out]; go_num⟩
                    case measure => simp [intOf]; omega
                  · have hok : Cal.ok z m (n + (738885 - Cal.ah z) - Cal.cum z m + 1) = true := ok_true (by omega)
                    have hin : ¬ (n < -738885 ∨ 2913173 < n) := inside n z m hok
                    have HIN : Hid (¬ (n < -738885 ∨ 2913173 < n)) := hin
                    clear cs ce hin
                    go_wp2_with (go_at_call 111; refine (refLength_any _ _ _ (by omega) (by omega) (by omega) (by omega)).mono ?_; rintro e w' ⟨rfl, rfl⟩)
                    (try simp only [Exit.inBlock, Exit.then]); refine bodyPost_ret (results_tmp4 rfl _ _ _) rfl ?_
                    exact ⟨Or.inr ⟨HIN.out, z, m, _, rfl, hok, num_of' n z m⟩, rfl⟩
          · by_cases hneg : n + (738885 - Cal.ah z) < 0
            · go_wp2
              (try simp only [Exit.inBlock, Exit.then]); refine bodyPost_ret (results_tmp4 rfl _ _ _) rfl ?_
              exact ⟨Or.inl ⟨early n z HZ3.out hneg, rfl⟩, rfl⟩
            · by_cases hge : 365 + Cal.lp z ≤ n + (738885 - Cal.ah z)
              · go_wp2_with (go_at_call 112; refine (refYear_any _ _ (by omega) (by omega)).mono ?_; rintro e w' ⟨rfl, rfl⟩)
                (try simp only [Exit.inBlock, Exit.then]); refine bodyPost_ret (results_tmp4 rfl _ _ _) rfl ?_
                exact ⟨Or.inl ⟨late n z (by omega) HS.out hge, rfl⟩, rfl⟩
              · go_wp2_with (go_at_call 112; refine (refYear_any _ _ (by omega) (by omega)).mono ?_; rintro e w' ⟨rfl, rfl⟩)
                go_loop [0, 9, 10] (fun r k _ => ∃ m : Int, 1 ≤ m ∧ m ≤ 12 ∧ k = .int .i64 m ∧ 0 ≤ n + (738885 - Cal.ah z) - Cal.cum z m ∧ r = .int .i64 (n + (738885 - Cal.ah z) - Cal.cum z m)) (fun _ k _ => (12 - intOf k).toNat)
                case atStart => exact ⟨1, by omega, by omega, rfl, by rw [Cal.cum_one]; omega, by rw [Cal.cum_one, Int.sub_zero]⟩
                case round =>
                  obtain ⟨m, hm1, hm2, rfl, hr, rfl⟩ := hrel
                  have cb := Cal.cum_bd z m hm1 (by omega)
                  have db := Cal.dim_bd z m
                  have cs := Cal.cum_succ z m hm1 hm2
                  have ce := Cal.cum_end z
                  by_cases hd : Cal.dim z m ≤ n + (738885 - Cal.ah z) - Cal.cum z m
                  · have hm : m < 12 := by
                      by_cases e : m = 12
                      · subst e; rw [show (12 : Int) + 1 = 13 from rfl] at cs; omega
                      · omega
                    have HC : Hid (Cal.cum z (m + 1) = Cal.cum z m + Cal.dim z m) := cs
                    clear cs ce
                    go_wp2_with (go_at_call 111; refine (refLength_any _ _ _ (by omega) (by omega) (by omega) (by omega)).mono ?_; rintro e w' ⟨rfl, rfl⟩)
                    go_round
                    case rel => exact ⟨m + 1, by omega, by omega, rfl, by rw [HC.out]; omega, by rw [HC.out]; go_num⟩
                    case measure => simp [intOf]; omega
                  · have hok : Cal.ok z m (n + (738885 - Cal.ah z) - Cal.cum z m + 1) = true := ok_true (by omega)
                    have hin : ¬ (n < -738885 ∨ 2913173 < n) := inside n z m hok
                    have HIN : Hid (¬ (n < -738885 ∨ 2913173 < n)) := hin
                    clear cs ce hin
                    go_wp2_with (go_at_call 111; refine (refLength_any _ _ _ (by omega) (by omega) (by omega) (by omega)).mono ?_; rintro e w' ⟨rfl, rfl⟩)
                    (try simp only [Exit.inBlock, Exit.then]); refine bodyPost_ret (results_tmp4 rfl _ _ _) rfl ?_
                    exact ⟨Or.inr ⟨HIN.out, z, m, _, rfl, hok, num_of' n z m⟩, rfl⟩

end Go.Proofs.YtjfkfiffakbagaaGreatDoor

/-
  The walks over the law's date and dated (both sides answer alike), over its looks at an empty book, and over its step at the kinds 1 and 2.
-/
namespace Go.Proofs.YtjfkfiffakbagaaGreatDoor
open Go.RowKit

theorem hide {p : Prop} (h : p) : Hid p := h
theorem unhide {p : Prop} (h : Hid p) : p := h

theorem Tab.later {w wx : World} (h : Tab w) (hb : Below w.heap.size w wx) : Tab wx := by
  obtain ⟨c0, c1, c2, c3, c4, c5, c6, c7, c8, c9, c10, c11⟩ := h
  exact ⟨cell_later hb c0, cell_later hb c1, cell_later hb c2, cell_later hb c3, cell_later hb c4, cell_later hb c5, cell_later hb c6, cell_later hb c7, cell_later hb c8, cell_later hb c9, cell_later hb c10, cell_later hb c11⟩

set_option maxHeartbeats 400000 in
theorem bDay_yes (y m d : Int) (w : World) (ht : Tab w) (h : Cal.ok y m d = true) :
    Calls Tryz.prog 33 #[.int .i64 y, .int .i64 m, .int .i64 d] w fun e w' => e = .returned (.tuple #[.int .i64 (Cal.num y m d), .int .i64 0]) ∧ w' = w := by
  go_enter Tryz.func33, Tryz.ntmps33
  go_wp2_with (go_at_call 48; refine (calDay_yes _ _ _ _ ht h).mono ?_; rintro e w' ⟨rfl, rfl⟩)
  go_ret2
  exact ⟨rfl, rfl⟩

set_option maxHeartbeats 400000 in
theorem bDay_no (y m d : Int) (w : World) (ht : Tab w) (h : Cal.ok y m d = false) :
    Calls Tryz.prog 33 #[.int .i64 y, .int .i64 m, .int .i64 d] w fun e w' => e = .returned (.tuple #[.int .i64 0, .int .i64 6]) ∧ w' = w := by
  go_enter Tryz.func33, Tryz.ntmps33
  go_wp2_with (go_at_call 48; refine (calDay_no _ _ _ _ ht h).mono ?_; rintro e w' ⟨rfl, rfl⟩)
  go_ret2
  exact ⟨rfl, rfl⟩

set_option maxHeartbeats 400000 in
theorem bDate_yes (n : Int) (w : World) (ht : Tab w) (h1 : -738885 ≤ n) (h2 : n ≤ 2913173) :
    Calls Tryz.prog 31 #[.int .i64 n] w fun e w' => ∃ y m d : Int, e = .returned (.tuple #[.int .i64 y, .int .i64 m, .int .i64 d, .int .i64 0]) ∧ Cal.ok y m d = true ∧ Cal.num y m d = n ∧ w' = w := by
  go_enter Tryz.func31, Tryz.ntmps31
  go_wp2_with (go_at_call 47; refine (calDate_yes _ _ ht h1 h2).mono ?_; rintro e w' ⟨y, m, d, rfl, hok, hnum, rfl⟩)
  (try simp only [Exit.inBlock, Exit.then]); refine bodyPost_ret (results_tmp4 rfl _ _ _) rfl ?_
  exact ⟨y, m, d, rfl, hok, hnum, rfl⟩

set_option maxHeartbeats 400000 in
theorem bDate_no (n : Int) (w : World) (h : n < -738885 ∨ 2913173 < n) :
    Calls Tryz.prog 31 #[.int .i64 n] w fun e w' => e = .returned (.tuple #[.int .i64 0, .int .i64 0, .int .i64 0, .int .i64 6]) ∧ w' = w := by
  have H : Hid (n < -738885 ∨ 2913173 < n) := h
  clear h
  go_enter Tryz.func31, Tryz.ntmps31
  go_wp2_with (go_at_call 47; refine (calDate_no _ _ H.out).mono ?_; rintro e w' ⟨rfl, rfl⟩)
  (try simp only [Exit.inBlock, Exit.then]); refine bodyPost_ret (results_tmp4 rfl _ _ _) rfl ?_
  exact ⟨rfl, rfl⟩

set_option maxHeartbeats 400000 in
theorem date_any (n : Int) (w : World) (ht : Tab w) (h1 : -9223372036854775808 ≤ n) (h2 : n ≤ 9223372036854775807) :
    Calls Tryz.prog 51 #[.int .i64 n] w fun e w' => e = .returned (.bool true) ∧ w' = w := by
  by_cases h : n < -738885 ∨ 2913173 < n
  · have H : Hid (n < -738885 ∨ 2913173 < n) := h
    clear h
    go_enter Tryz.func51, Tryz.ntmps51
    go_wp2_with fail
    refine (bDate_no _ _ H.out).mono ?_
    rintro e w' ⟨rfl, rfl⟩
    go_wp2_with fail
    refine (refDate_any _ _ h1 h2).mono ?_
    rintro e w' ⟨⟨_, rfl⟩ | ⟨hn, _⟩, rfl⟩
    · go_wp2
      go_ret
      exact ⟨rfl, rfl⟩
    · exact absurd H.out hn
  · have H : Hid (¬ (n < -738885 ∨ 2913173 < n)) := h
    have g1 : -738885 ≤ n := by omega
    have g2 : n ≤ 2913173 := by omega
    clear h
    go_enter Tryz.func51, Tryz.ntmps51
    go_wp2_with fail
    refine (bDate_yes _ _ ht g1 g2).mono ?_
    rintro e w' ⟨y, m, d, rfl, hok, hnum, rfl⟩
    have HO := hide hok
    have HN := hide hnum
    clear hok hnum
    go_wp2_with fail
    refine (refDate_any _ _ h1 h2).mono ?_
    rintro e w' ⟨⟨hn, _⟩ | ⟨_, y', m', d', rfl, hok', hnum'⟩, rfl⟩
    · exact absurd hn H.out
    · obtain ⟨rfl, rfl, rfl⟩ := Cal.one y m d y' m' d' (unhide HO) hok' (by rw [unhide HN, hnum'])
      clear hok' hnum'
      go_wp2
      go_ret
      exact ⟨ret_bool (by simp), rfl⟩

set_option maxHeartbeats 400000 in
theorem dated_any (k a y m d : Int) (s : ByteArray) (w : World) (ht : Tab w) :
    Calls Tryz.prog 50 #[.agg #[.int .i64 k, .int .i64 a, .int .i64 y, .int .i64 m, .int .i64 d, .string s]] w fun e w' => e = .returned (.bool true) ∧ Below w.heap.size w w' := by
  have hb : ∀ o, Below w.heap.size w (w.alloc o) := fun o => (Below.refl _ _).alloc (Nat.le_refl _) o
  have HB := hide hb
  clear hb
  cases h : Cal.ok y m d
  · go_enter Tryz.func50, Tryz.ntmps50
    go_wp2_with fail
    refine (bDay_no _ _ _ _ (ht.later (unhide HB _)) h).mono ?_
    rintro e w' ⟨rfl, rfl⟩
    go_wp2_with fail
    refine (refDay_no _ _ _ _ h).mono ?_
    rintro e w' ⟨rfl, rfl⟩
    go_wp2
    go_ret
    exact ⟨rfl, unhide HB _⟩
  · go_enter Tryz.func50, Tryz.ntmps50
    go_wp2_with fail
    refine (bDay_yes _ _ _ _ (ht.later (unhide HB _)) h).mono ?_
    rintro e w' ⟨rfl, rfl⟩
    go_wp2_with fail
    refine (refDay_yes _ _ _ _ h).mono ?_
    rintro e w' ⟨rfl, rfl⟩
    go_wp2
    go_ret
    exact ⟨ret_bool (by simp), unhide HB _⟩

end Go.Proofs.YtjfkfiffakbagaaGreatDoor

/-
  The walks over the law's looks at an empty book (it looks at nothing), and over its step at the kinds 1 and 2.
-/
namespace Go.Proofs.YtjfkfiffakbagaaGreatDoor
open Go.RowKit

set_option maxRecDepth 100000 in
set_option maxHeartbeats 1000000 in
theorem looks_empty (B : Nat) (w : World) (c0 : w.cell? ⟨B, 2, none⟩ = some (.slice none 0 0)) (c1 : w.cell? ⟨B, 3, none⟩ = some (.slice none 0 0)) (c2 : w.cell? ⟨B, 4, none⟩ = some (.slice none 0 0)) :
    Calls Tryz.prog 40 #[.pointer (some ⟨B, 2, none⟩)] w fun e w' => e = .returned (.bool true) ∧ w' = w := by
  go_enter Tryz.func40, Tryz.ntmps40
  go_wp2
  go_loop [3] (fun i => i = .int .i64 0) (fun _ => 0)
  case atStart => rfl
  case round =>
    obtain rfl := hrel
    go_wp2
    go_loop [9] (fun i => i = .int .i64 0) (fun _ => 0)
    case atStart => rfl
    case round =>
      obtain rfl := hrel
      go_wp2
      go_loop [15] (fun i => i = .int .i64 0) (fun _ => 0)
      case atStart => rfl
      case round =>
        obtain rfl := hrel
        go_wp2
        go_ret
        exact ⟨rfl, rfl⟩

set_option maxRecDepth 100000 in
set_option maxHeartbeats 1000000 in
theorem step_day (p : Value) (a y m d : Int) (s : ByteArray) (w : World) (ht : Tab w) :
    Calls Tryz.prog 39 #[p, .agg #[.int .i64 1, .int .i64 a, .int .i64 y, .int .i64 m, .int .i64 d, .string s]] w fun e w' => e = .returned (.bool true) ∧ Below w.heap.size w w' := by
  have hb : ∀ o, Below w.heap.size w (w.alloc o) := fun o => (Below.refl _ _).alloc (Nat.le_refl _) o
  have HB := hide hb
  clear hb
  go_enter Tryz.func39, Tryz.ntmps39
  go_wp2_with fail
  refine (dated_any _ _ _ _ _ _ _ (ht.later (unhide HB _))).mono ?_
  rintro e w' ⟨rfl, hb1⟩
  go_wp2
  go_ret
  exact ⟨rfl, (unhide HB _).trans (hb1.mono (by simp))⟩

set_option maxRecDepth 100000 in
set_option maxHeartbeats 1000000 in
theorem step_date (p : Value) (a y m d : Int) (s : ByteArray) (w : World) (ht : Tab w) (h1 : -9223372036854775808 ≤ d) (h2 : d ≤ 9223372036854775807) :
    Calls Tryz.prog 39 #[p, .agg #[.int .i64 2, .int .i64 a, .int .i64 y, .int .i64 m, .int .i64 d, .string s]] w fun e w' => e = .returned (.bool true) ∧ Below w.heap.size w w' := by
  have hb : ∀ o, Below w.heap.size w (w.alloc o) := fun o => (Below.refl _ _).alloc (Nat.le_refl _) o
  have HB := hide hb
  clear hb
  go_enter Tryz.func39, Tryz.ntmps39
  go_wp2_with fail
  refine (date_any _ _ (ht.later (unhide HB _)) h1 h2).mono ?_
  rintro e w' ⟨rfl, rfl⟩
  go_wp2
  go_ret
  exact ⟨rfl, unhide HB _⟩

end Go.Proofs.YtjfkfiffakbagaaGreatDoor

/-
  The plain mathematics of words: digits and numbers, names. It imports nothing of the program.
-/
namespace Go.Proofs.YtjfkfiffakbagaaGreatDoor.Txt

def dig (c : UInt8) : Bool := decide (48 ≤ (c.toNat : Int) ∧ (c.toNat : Int) ≤ 57)
def digs (l : List UInt8) : Bool := l.all dig
def numL (l : List UInt8) : Int := l.foldl (fun n c => n * 10 + ((c.toNat : Int) - 48)) 0
def low (c : UInt8) : Bool := decide (97 ≤ (c.toNat : Int) ∧ (c.toNat : Int) ≤ 122)
def lows (l : List UInt8) : Bool := l.all low
/-- NUM: one to seven digits. -/
def isNum (l : List UInt8) : Bool := decide (1 ≤ l.length ∧ l.length ≤ 7) && digs l
def isName (l : List UInt8) : Bool := decide (1 ≤ l.length ∧ l.length ≤ 8) && lows l

theorem dig_iff (c : UInt8) : dig c = true ↔ 48 ≤ (c.toNat : Int) ∧ (c.toNat : Int) ≤ 57 := by simp [dig]
theorem low_iff (c : UInt8) : low c = true ↔ 97 ≤ (c.toNat : Int) ∧ (c.toNat : Int) ≤ 122 := by simp [low]
theorem digs_snoc (l : List UInt8) (c : UInt8) : digs (l ++ [c]) = (digs l && dig c) := by simp [digs]
theorem lows_snoc (l : List UInt8) (c : UInt8) : lows (l ++ [c]) = (lows l && low c) := by simp [lows]
theorem numL_snoc (l : List UInt8) (c : UInt8) : numL (l ++ [c]) = numL l * 10 + ((c.toNat : Int) - 48) := by simp [numL]
theorem take_snoc (s : ByteArray) (k : Nat) (h : k < s.size) : s.data.toList.take (k + 1) = s.data.toList.take k ++ [s[k]] := by
  rw [List.take_succ_eq_append_getElem (by simpa using h)]; rfl
theorem take_all (s : ByteArray) (k : Nat) (h : s.size ≤ k) : s.data.toList.take k = s.data.toList := List.take_of_length_le (by simpa using h)
theorem len_list (s : ByteArray) : s.data.toList.length = s.size := by simp
theorem digs_of_take (l : List UInt8) (k : Nat) (h : digs (l.take k) = false) : digs l = false := by
  unfold digs at *
  rw [List.all_eq_false] at *
  obtain ⟨x, hx, h⟩ := h
  exact ⟨x, List.mem_of_mem_take hx, h⟩
theorem lows_of_take (l : List UInt8) (k : Nat) (h : lows (l.take k) = false) : lows l = false := by
  unfold lows at *
  rw [List.all_eq_false] at *
  obtain ⟨x, hx, h⟩ := h
  exact ⟨x, List.mem_of_mem_take hx, h⟩
theorem numL_step (n : Int) (c : UInt8) (h : dig c = true) (h0 : 0 ≤ n) : 0 ≤ n * 10 + ((c.toNat : Int) - 48) := by
  have := (dig_iff c).1 h; omega
theorem fold_bd (l : List UInt8) : ∀ (k : Nat) (n : Int), 0 ≤ n → n < 10 ^ k → digs l = true → 0 ≤ l.foldl (fun n c => n * 10 + ((c.toNat : Int) - 48)) n ∧ l.foldl (fun n c => n * 10 + ((c.toNat : Int) - 48)) n < 10 ^ (k + l.length) := by
  induction l with
  | nil => intro k n h0 h1 _; exact ⟨h0, h1⟩
  | cons c l ih =>
    intro k n h0 h1 hd
    simp only [digs, List.all_cons, Bool.and_eq_true] at hd
    have hc := (dig_iff c).1 hd.1
    have := ih (k + 1) (n * 10 + ((c.toNat : Int) - 48)) (by omega) (by rw [Int.pow_succ]; omega) hd.2
    simp only [List.foldl_cons, List.length_cons]
    rw [show k + (l.length + 1) = k + 1 + l.length from by omega]
    exact this
theorem numL_bd (l : List UInt8) (h : digs l = true) (hl : l.length ≤ 7) : 0 ≤ numL l ∧ numL l ≤ 9999999 := by
  have b := fold_bd l 0 0 (by omega) (by decide) h
  have q : ∀ k : Nat, k < 8 → (10 : Int) ^ k ≤ 10000000 := by decide
  have p := q (0 + l.length) (by omega)
  unfold numL
  omega
theorem isNum_true {l : List UInt8} (h1 : 1 ≤ l.length) (h2 : l.length ≤ 7) (h3 : digs l = true) : isNum l = true := by
  simp [isNum, h1, h2, h3]
theorem isNum_len {l : List UInt8} (h : ¬ (1 ≤ l.length ∧ l.length ≤ 7)) : isNum l = false := by
  unfold isNum; rw [decide_eq_false h]; rfl
theorem isNum_dig {l : List UInt8} (h : digs l = false) : isNum l = false := by simp [isNum, h]
theorem isNum_iff (l : List UInt8) : isNum l = true ↔ (1 ≤ l.length ∧ l.length ≤ 7) ∧ digs l = true := by simp [isNum]
theorem isName_true {l : List UInt8} (h1 : 1 ≤ l.length) (h2 : l.length ≤ 8) (h3 : lows l = true) : isName l = true := by
  simp [isName, h1, h2, h3]
theorem isName_len {l : List UInt8} (h : ¬ (1 ≤ l.length ∧ l.length ≤ 8)) : isName l = false := by
  unfold isName; rw [decide_eq_false h]; rfl
theorem isName_low {l : List UInt8} (h : lows l = false) : isName l = false := by simp [isName, h]
/-- What readNum hands back beside its answer. -/
def numV (l : List UInt8) : Int := if isNum l then numL l else 0
theorem numV_bd (l : List UInt8) : 0 ≤ numV l ∧ numV l ≤ 9999999 := by
  unfold numV
  split
  · rename_i h
    have := (isNum_iff l).1 h
    exact numL_bd l this.2 this.1.2
  · omega

end Go.Proofs.YtjfkfiffakbagaaGreatDoor.Txt

/-
  The walks over the readers of numbers and names: readNum and readName of package lines, number and named of package bookingsref.
-/
namespace Go.Proofs.YtjfkfiffakbagaaGreatDoor
open Go.RowKit

theorem ret2_ib {k : IntKind} {a b : Int} {c d : Bool} (h : a = b) (g : c = d) : Ending.returned (.tuple #[.int k a, .bool c]) = .returned (.tuple #[.int k b, .bool d]) := by rw [h, g]

set_option maxHeartbeats 1000000 in
theorem readNum_any (s : ByteArray) (w : World) (hs : s.size ≤ maxLen) :
    Calls Tryz.prog 136 #[.string s] w fun e w' => e = .returned (.tuple #[.int .i64 (Txt.numV s.data.toList), .bool (Txt.isNum s.data.toList)]) ∧ w' = w := by
  unfold maxLen at hs
  by_cases h0 : s.size = 0
  · have H : Hid (Txt.isNum s.data.toList = false) := Txt.isNum_len (by rw [Txt.len_list]; omega)
    have h1 : ((s.size : Int) == 0) = true := beq_iff_eq.2 (by omega)
    go_enter Tryz.func136, Tryz.ntmps136
    go_wp2
    go_ret2
    exact ⟨ret2_ib (by simp [Txt.numV, H.out]) (by rw [H.out]), rfl⟩
  · have h1 : ((s.size : Int) == 0) = false := beq_eq_false_iff_ne.2 (by omega)
    by_cases h7 : 7 < s.size
    · have H : Hid (Txt.isNum s.data.toList = false) := Txt.isNum_len (by rw [Txt.len_list]; omega)
      clear h0
      go_enter Tryz.func136, Tryz.ntmps136
      go_wp2
      go_ret2
      exact ⟨ret2_ib (by simp [Txt.numV, H.out]) (by rw [H.out]), rfl⟩
    · go_enter Tryz.func136, Tryz.ntmps136
      go_wp2
      go_loop [4, 5, 6] (fun n i _ => ∃ k : Nat, k ≤ s.size ∧ i = .int .i64 k ∧ n = .int .i64 (Txt.numL (s.data.toList.take k)) ∧ Txt.digs (s.data.toList.take k) = true) (fun _ i _ => s.size - (intOf i).toNat)
      case atStart => exact ⟨0, Nat.zero_le _, rfl, rfl, rfl⟩
      case round =>
        obtain ⟨k, hk, rfl, rfl, hd⟩ := hrel
        have HD := hide hd
        have nb := Txt.numL_bd (s.data.toList.take k) hd (by rw [List.length_take]; omega)
        clear hd
        by_cases hlt : k < s.size
        · have HT : Hid (s.data.toList.take (k + 1) = s.data.toList.take k ++ [s[k]]) := Txt.take_snoc s k hlt
          by_cases hc : Txt.dig s[k] = true
          · have hc' := (Txt.dig_iff _).1 hc
            have HC := hide hc
            obtain ⟨hc1, hc2⟩ := hc'
            clear hc
            go_wp2
            go_round
            case rel => exact ⟨k + 1, by omega, by go_num, by rw [HT.out, Txt.numL_snoc], by rw [HT.out, Txt.digs_snoc, HD.out, HC.out]; rfl⟩
            case measure => simp [intOf]; omega
          · have HC : Hid (Txt.isNum s.data.toList = false) := Txt.isNum_dig (Txt.digs_of_take _ (k + 1) (by rw [HT.out, Txt.digs_snoc, HD.out]; simpa using hc))
            have hc' : (s[k].toNat : Int) < 48 ∨ (¬ (s[k].toNat : Int) < 48 ∧ 57 < (s[k].toNat : Int)) := by
              have := mt (Txt.dig_iff s[k]).2 hc; omega
            clear hc
            rcases hc' with hc' | ⟨hc', hc''⟩
            all_goals
              go_wp2
              go_ret2
              exact ⟨ret2_ib (by simp [Txt.numV, HC.out]) (by rw [HC.out]), rfl⟩
        · have HA : Hid (s.data.toList.take k = s.data.toList) := Txt.take_all s k (by omega)
          have HN : Hid (Txt.isNum s.data.toList = true) := Txt.isNum_true (by rw [Txt.len_list]; omega) (by rw [Txt.len_list]; omega) (by rw [← HA.out]; exact HD.out)
          go_wp2
          go_ret2
          exact ⟨ret2_ib (by rw [HA.out]; simp [Txt.numV, HN.out]) (by rw [HN.out]), rfl⟩

end Go.Proofs.YtjfkfiffakbagaaGreatDoor

/-
  The plain mathematics of minutes, dates and times as words. It imports nothing of the program.
-/
namespace Go.Proofs.YtjfkfiffakbagaaGreatDoor.Txt

def byteAt (s : ByteArray) (i : Nat) : Int := ((s.data.toList.getD i 0).toNat : Int)
theorem byteAt_eq (s : ByteArray) (i : Nat) (h : i < s.size) : byteAt s i = (s[i].toNat : Int) := by
  unfold byteAt
  rw [List.getD_eq_getElem?_getD, List.getElem?_eq_getElem (by simpa using h)]
  rfl
def part (s : ByteArray) (a b : Nat) : List UInt8 := (s.extract a b).data.toList
/-- MINUTE -/
def minB (s : ByteArray) : Bool := decide (s.size = 5 ∧ byteAt s 2 = 58 ∧ isNum (part s 0 2) = true ∧ isNum (part s 3 5) = true ∧ numV (part s 0 2) ≤ 23 ∧ numV (part s 3 5) ≤ 59)
def minV (s : ByteArray) : Int := if minB s then numV (part s 0 2) * 60 + numV (part s 3 5) else 0
/-- a date of the calendar, written out -/
def dateB (s : ByteArray) : Bool := decide (s.size = 10 ∧ byteAt s 4 = 45 ∧ byteAt s 7 = 45 ∧ isNum (part s 0 4) = true ∧ isNum (part s 5 7) = true ∧ isNum (part s 8 10) = true ∧ Cal.ok (numV (part s 0 4)) (numV (part s 5 7)) (numV (part s 8 10)) = true)
def dateV (s : ByteArray) : Int := if dateB s then Cal.num (numV (part s 0 4)) (numV (part s 5 7)) (numV (part s 8 10)) else 0
/-- DATE -/
def dayB (s : ByteArray) : Bool := decide (dateB s = true ∧ 0 ≤ dateV s ∧ dateV s < 728)

theorem minB_false {s : ByteArray} (h : ¬ (s.size = 5 ∧ byteAt s 2 = 58 ∧ isNum (part s 0 2) = true ∧ isNum (part s 3 5) = true ∧ numV (part s 0 2) ≤ 23 ∧ numV (part s 3 5) ≤ 59)) : minB s = false := decide_eq_false h
theorem minB_true {s : ByteArray} (h : s.size = 5 ∧ byteAt s 2 = 58 ∧ isNum (part s 0 2) = true ∧ isNum (part s 3 5) = true ∧ numV (part s 0 2) ≤ 23 ∧ numV (part s 3 5) ≤ 59) : minB s = true := decide_eq_true h
theorem dateB_false {s : ByteArray} (h : ¬ (s.size = 10 ∧ byteAt s 4 = 45 ∧ byteAt s 7 = 45 ∧ isNum (part s 0 4) = true ∧ isNum (part s 5 7) = true ∧ isNum (part s 8 10) = true ∧ Cal.ok (numV (part s 0 4)) (numV (part s 5 7)) (numV (part s 8 10)) = true)) : dateB s = false := decide_eq_false h
theorem dateB_true {s : ByteArray} (h : s.size = 10 ∧ byteAt s 4 = 45 ∧ byteAt s 7 = 45 ∧ isNum (part s 0 4) = true ∧ isNum (part s 5 7) = true ∧ isNum (part s 8 10) = true ∧ Cal.ok (numV (part s 0 4)) (numV (part s 5 7)) (numV (part s 8 10)) = true) : dateB s = true := decide_eq_true h
theorem minB_and {s : ByteArray} (hs : s.size = 5) (hb : byteAt s 2 = 58) : minB s = (isNum (part s 0 2) && isNum (part s 3 5) && decide (numV (part s 0 2) ≤ 23) && decide (numV (part s 3 5) ≤ 59)) := by
  rw [Bool.eq_iff_iff]; simp [minB, hs, hb, and_assoc]
theorem dateB_and {s : ByteArray} (hs : s.size = 10) (hb : byteAt s 4 = 45) (hc : byteAt s 7 = 45) : dateB s = (isNum (part s 0 4) && isNum (part s 5 7) && isNum (part s 8 10) && Cal.ok (numV (part s 0 4)) (numV (part s 5 7)) (numV (part s 8 10))) := by
  rw [Bool.eq_iff_iff]; simp [dateB, hs, hb, hc, and_assoc]
theorem minV_bd (s : ByteArray) : 0 ≤ minV s ∧ minV s ≤ 1439 := by
  unfold minV
  split
  · rename_i h
    have h := of_decide_eq_true h
    have := numV_bd (part s 0 2)
    have := numV_bd (part s 3 5)
    omega
  · omega
theorem dateV_bd (s : ByteArray) : -738885 ≤ dateV s ∧ dateV s ≤ 2913173 := by
  unfold dateV
  split
  · rename_i h
    have h := of_decide_eq_true h
    have b := Cal.num_bd _ _ _ h.2.2.2.2.2.2
    unfold Cal.first Cal.last at b
    exact b
  · omega

end Go.Proofs.YtjfkfiffakbagaaGreatDoor.Txt
