/-
  The walk over bookingskeep.Calendar: it returns true, whatever number it is given.
-/
import Derived.Test.YtjfkfiffakbagaaDoorCalWalks
namespace Go.Proofs.YtjfkfiffakbagaaDoor
open Go.RowKit

theorem tmod_neg (a : Int) (h : a ≤ 0) : a.tmod 3651000 = -((-a) % 3651000) := by
  rw [← Int.tmod_eq_emod_of_nonneg (by omega), Int.neg_tmod, Int.neg_neg]

set_option maxHeartbeats 400000 in
theorem pick_any (c : Int) (w : World) (h1 : -9223372036854775808 ≤ c) (h2 : c ≤ 9223372036854775807) :
    Calls Tryd.prog 4 #[.int .i64 c, .int .i64 3651000] w fun e w' => ∃ v : Int, e = .returned (.int .i64 v) ∧ 0 ≤ v ∧ v < 3651000 ∧ w' = w := by
  by_cases h : c < 0
  · go_enter Tryd.func4, Tryd.ntmps4
    go_wp2
    go_ret
    have ht := tmod_neg (c + 1) (by omega)
    exact ⟨_, rfl, by omega, by omega, rfl⟩
  · have h' : 0 ≤ c := by omega
    go_enter Tryd.func4, Tryd.ntmps4
    go_wp2
    go_ret
    exact ⟨_, rfl, by omega, by omega, rfl⟩

set_option maxHeartbeats 400000 in
theorem bDay_yes (y m d : Int) (w : World) (ht : Tab w) (h : Cal.ok y m d = true) :
    Calls Tryd.prog 5 #[.int .i64 y, .int .i64 m, .int .i64 d] w fun e w' => e = .returned (.tuple #[.int .i64 (Cal.num y m d), .int .i64 0]) ∧ w' = w := by
  go_enter Tryd.func5, Tryd.ntmps5
  go_wp2_with (go_at_call 7; refine (calDay_yes _ _ _ _ ht h).mono ?_; rintro e w' ⟨rfl, rfl⟩)
  go_ret2
  exact ⟨rfl, rfl⟩

set_option maxHeartbeats 400000 in
theorem bDate_yes (n : Int) (w : World) (ht : Tab w) (h1 : -738885 ≤ n) (h2 : n ≤ 2913173) :
    Calls Tryd.prog 6 #[.int .i64 n] w fun e w' => ∃ y m d : Int, e = .returned (.tuple #[.int .i64 y, .int .i64 m, .int .i64 d, .int .i64 0]) ∧ Cal.ok y m d = true ∧ Cal.num y m d = n ∧ w' = w := by
  go_enter Tryd.func6, Tryd.ntmps6
  go_wp2_with (go_at_call 8; refine (calDate_yes _ _ ht h1 h2).mono ?_; rintro e w' ⟨y, m, d, rfl, hok, hnum, rfl⟩)
  (try simp only [Exit.inBlock, Exit.then]); refine bodyPost_ret (results_tmp4 rfl _ _ _) rfl ?_
  exact ⟨y, m, d, rfl, hok, hnum, rfl⟩

theorem num_zero : Cal.num 2024 1 1 = 0 := by decide
theorem ok_zero : Cal.ok 2024 1 1 = true := by decide

/-- What follows a date. -/
theorem next_same (y m d o p q : Int) (h : Cal.ok y m d = true) (g : Cal.ok o p q = true) (e : Cal.num o p q = Cal.num y m d + 1) (hd : d < Cal.dim y m) : o = y ∧ p = m ∧ q = d + 1 := by
  obtain ⟨h1, h2, h3, h4, h5, h6⟩ := (Cal.ok_iff y m d).1 h
  have k : Cal.ok y m (d + 1) = true := ok_true (by omega)
  exact Cal.one o p q y m (d + 1) g k (by rw [e]; unfold Cal.num; omega)
theorem next_month (y m d o p q : Int) (h : Cal.ok y m d = true) (g : Cal.ok o p q = true) (e : Cal.num o p q = Cal.num y m d + 1) (hd : d = Cal.dim y m) (hm : m < 12) : o = y ∧ p = m + 1 ∧ q = 1 := by
  obtain ⟨h1, h2, h3, h4, h5, h6⟩ := (Cal.ok_iff y m d).1 h
  have db := Cal.dim_bd y (m + 1)
  have cs := Cal.cum_succ y m h3 h4
  have k : Cal.ok y (m + 1) 1 = true := ok_true (by omega)
  exact Cal.one o p q y (m + 1) 1 g k (by rw [e]; unfold Cal.num; omega)
theorem next_year (y m d o p q : Int) (h : Cal.ok y m d = true) (g : Cal.ok o p q = true) (e : Cal.num o p q = Cal.num y m d + 1) (hd : d = Cal.dim y m) (hm : ¬ m < 12) : o = y + 1 ∧ p = 1 ∧ q = 1 := by
  obtain ⟨h1, h2, h3, h4, h5, h6⟩ := (Cal.ok_iff y m d).1 h
  obtain rfl : m = 12 := by omega
  have cs := Cal.cum_succ y 12 (by omega) (by omega)
  have ce := Cal.cum_end y
  have c1 := Cal.cum_one (y + 1)
  have ha := Cal.ah_succ y h1
  have db := Cal.dim_bd (y + 1) 1
  have nb := Cal.num_bd o p q g
  rw [show (12 : Int) + 1 = 13 from rfl] at cs
  by_cases hy : y = 9999
  · subst hy
    have he := Cal.ah_end
    rw [show (9999 : Int) + 1 = 10000 from rfl] at ha
    exfalso
    unfold Cal.num Cal.last Cal.first at *; omega
  · have k : Cal.ok (y + 1) 1 1 = true := ok_true (by omega)
    exact Cal.one o p q (y + 1) 1 1 g k (by rw [e]; unfold Cal.num; omega)

theorem leap_cases (y : Int) : ((y % 4 == 0) = false ∧ Cal.leap y = false) ∨ ((y % 4 == 0) = true ∧ (y % 100 != 0) = true ∧ Cal.leap y = true) ∨ ((y % 4 == 0) = true ∧ (y % 100 != 0) = false ∧ (y % 400 == 0) = true ∧ Cal.leap y = true) ∨ ((y % 4 == 0) = true ∧ (y % 100 != 0) = false ∧ (y % 400 == 0) = false ∧ Cal.leap y = false) := by
  unfold Cal.leap
  cases (y % 4 == 0) <;> cases (y % 100 != 0) <;> cases (y % 400 == 0) <;> simp
theorem long_no (y p : Int) (hl : Cal.leap y = false) (h1 : 1 ≤ p) (h2 : p ≤ 12) : [Value.int IntKind.i64 31, Value.int IntKind.i64 28, Value.int IntKind.i64 31, Value.int IntKind.i64 30, Value.int IntKind.i64 31, Value.int IntKind.i64 30, Value.int IntKind.i64 31, Value.int IntKind.i64 31, Value.int IntKind.i64 30, Value.int IntKind.i64 31, Value.int IntKind.i64 30, Value.int IntKind.i64 31][p.toNat - 1]? = some (.int .i64 (Cal.dim y p)) := by
  rcases Cal.months p h1 h2 with h | h | h | h | h | h | h | h | h | h | h | h <;> subst h <;> simp [Cal.dim, Cal.tab, Cal.lp, hl]
theorem long_yes (y p : Int) (hl : Cal.leap y = true) (h1 : 1 ≤ p) (h2 : p ≤ 12) : [Value.int IntKind.i64 31, Value.int IntKind.i64 29, Value.int IntKind.i64 31, Value.int IntKind.i64 30, Value.int IntKind.i64 31, Value.int IntKind.i64 30, Value.int IntKind.i64 31, Value.int IntKind.i64 31, Value.int IntKind.i64 30, Value.int IntKind.i64 31, Value.int IntKind.i64 30, Value.int IntKind.i64 31][p.toNat - 1]? = some (.int .i64 (Cal.dim y p)) := by
  rcases Cal.months p h1 h2 with h | h | h | h | h | h | h | h | h | h | h | h <;> subst h <;> simp [Cal.dim, Cal.tab, Cal.lp, hl]

set_option maxRecDepth 100000 in
set_option maxHeartbeats 4000000 in
theorem calendar_any (raw : Int) (w : World) (ht : Tab w) (h1 : -9223372036854775808 ≤ raw) (h2 : raw ≤ 9223372036854775807) :
    Calls Tryd.prog 3 #[.int .i64 raw] w fun e w' => e = .returned (.bool true) ∧ Grown w w' := by
  go_enter Tryd.func3, Tryd.ntmps3
  go_wp2_with fail
  refine (pick_any _ _ h1 h2).mono ?_
  rintro e w' ⟨v, rfl, hv1, hv2, rfl⟩
  go_wp2_with fail
  refine (bDay_yes _ _ _ _ ht ok_zero).mono ?_
  rintro e w' ⟨rfl, rfl⟩
  rw [num_zero]
  go_wp2_with fail
  refine (bDate_yes _ _ ht (by omega) (by omega)).mono ?_
  rintro e w' ⟨y, m, d, rfl, hok, hnum, rfl⟩
  have HN : Hid (Cal.num y m d = v - 738000) := hnum
  clear hnum
  go_wp2_with fail
  refine (bDay_yes _ _ _ _ ht hok).mono ?_
  rintro e w' ⟨rfl, rfl⟩
  rw [HN.out]
  go_wp2_with fail
  refine (bDate_yes _ _ ht (by omega) (by omega)).mono ?_
  rintro e w' ⟨o, p, q, rfl, gok, gnum, rfl⟩
  have e : Cal.num o p q = Cal.num y m d + 1 := by rw [HN.out, gnum]
  clear gnum HN
  obtain ⟨y1, y2, m1, m2, d1, d2⟩ := (Cal.ok_iff y m d).1 hok
  have db := Cal.dim_bd y m
  by_cases hd : d < Cal.dim y m
  · obtain ⟨rfl, rfl, rfl⟩ := next_same y m d o p q hok gok e hd
    clear e gok hok
    rcases leap_cases o with ⟨a4, hl⟩ | ⟨a4, a100, hl⟩ | ⟨a4, a100, a400, hl⟩ | ⟨a4, a100, a400, hl⟩
    all_goals first | have hc := long_no o p hl m1 m2 | have hc := long_yes o p hl m1 m2
    all_goals
      clear hl
      go_wp2
      go_ret
      refine ⟨ret_bool (by simp), ?_⟩
      repeat (first | exact Grown.refl _ | apply Grown.drew | apply Grown.alloc)
  · have hd' : d = Cal.dim y m := by omega
    by_cases hm : m < 12
    · obtain ⟨rfl, rfl, rfl⟩ := next_month y m d o p q hok gok e hd' hm
      clear e gok hok hd'
      rcases leap_cases o with ⟨a4, hl⟩ | ⟨a4, a100, hl⟩ | ⟨a4, a100, a400, hl⟩ | ⟨a4, a100, a400, hl⟩
      all_goals first | have hc := long_no o m hl m1 m2 | have hc := long_yes o m hl m1 m2
      all_goals
        clear hl
        go_wp2
        go_ret
        refine ⟨ret_bool (by simp), ?_⟩
        repeat (first | exact Grown.refl _ | apply Grown.drew | apply Grown.alloc)
    · obtain ⟨rfl, rfl, rfl⟩ := next_year y m d o p q hok gok e hd' hm
      clear e gok hok hd'
      rcases leap_cases y with ⟨a4, hl⟩ | ⟨a4, a100, hl⟩ | ⟨a4, a100, a400, hl⟩ | ⟨a4, a100, a400, hl⟩
      all_goals first | have hc := long_no y m hl m1 m2 | have hc := long_yes y m hl m1 m2
      all_goals
        clear hl
        go_wp2
        go_ret
        refine ⟨ret_bool (by simp), ?_⟩
        repeat (first | exact Grown.refl _ | apply Grown.drew | apply Grown.alloc)

end Go.Proofs.YtjfkfiffakbagaaDoor
