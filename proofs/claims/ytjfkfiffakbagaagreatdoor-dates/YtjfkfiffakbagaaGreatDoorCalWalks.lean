/-
  The walks over package calendar: what each of its functions returns, for every argument within its bounds; the world is left as it was.
-/
import Derived.Test.YtjfkfiffakbagaaGreatDoorRows
import Derived.Test.YtjfkfiffakbagaaGreatDoorCal
import Derived.WalkKit
import Derived.WalkSpells
import Derived.WalkLawsBesides
namespace Go.Proofs.YtjfkfiffakbagaaGreatDoor
open Go.RowKit

theorem ret_bool {a b : Bool} (h : a = b) : Ending.returned (.bool a) = .returned (.bool b) := by rw [h]
theorem ret_int {k : IntKind} {a b : Int} (h : a = b) : Ending.returned (.int k a) = .returned (.int k b) := by rw [h]

/-- The table of the months' days lies in the world. -/
def Tab (w : World) : Prop := w.cell? ⟨0, 0, none⟩ = some (.int .i64 31) ∧ w.cell? ⟨0, 1, none⟩ = some (.int .i64 28) ∧ w.cell? ⟨0, 2, none⟩ = some (.int .i64 31) ∧ w.cell? ⟨0, 3, none⟩ = some (.int .i64 30) ∧ w.cell? ⟨0, 4, none⟩ = some (.int .i64 31) ∧ w.cell? ⟨0, 5, none⟩ = some (.int .i64 30) ∧ w.cell? ⟨0, 6, none⟩ = some (.int .i64 31) ∧ w.cell? ⟨0, 7, none⟩ = some (.int .i64 31) ∧ w.cell? ⟨0, 8, none⟩ = some (.int .i64 30) ∧ w.cell? ⟨0, 9, none⟩ = some (.int .i64 31) ∧ w.cell? ⟨0, 10, none⟩ = some (.int .i64 30) ∧ w.cell? ⟨0, 11, none⟩ = some (.int .i64 31)

set_option maxHeartbeats 400000 in
theorem isLeap_any (y : Int) (w : World) (h1 : 0 ≤ y) (h2 : y ≤ 10000) :
    Calls Tryz.prog 109 #[.int .i64 y] w fun e w' => e = .returned (.bool (Cal.leap y)) ∧ w' = w := by
  cases a4 : (y % 4 == 0)
  · go_enter Tryz.func109, Tryz.ntmps109
    go_wp2
    go_ret
    exact ⟨ret_bool (by simp [Cal.leap, a4]), rfl⟩
  · cases a100 : (y % 100 != 0)
    · cases a400 : (y % 400 == 0)
      all_goals
        go_enter Tryz.func109, Tryz.ntmps109
        go_wp2
        go_ret
        exact ⟨ret_bool (by simp only [Cal.leap, a4, a100, a400]; rfl), rfl⟩
    · go_enter Tryz.func109, Tryz.ntmps109
      go_wp2
      go_ret
      exact ⟨ret_bool (by simp only [Cal.leap, a4, a100]; rfl), rfl⟩

set_option maxHeartbeats 400000 in
theorem daysAhead_any (y : Int) (w : World) (h1 : 1 ≤ y) (h2 : y ≤ 10000) :
    Calls Tryz.prog 67 #[.int .i64 y] w fun e w' => e = .returned (.int .i64 (Cal.ah y)) ∧ w' = w := by
  go_enter Tryz.func67, Tryz.ntmps67
  go_wp2
  go_ret
  exact ⟨ret_int (by unfold Cal.ah; omega), rfl⟩

set_option maxHeartbeats 400000 in
theorem daysOf_any (y m : Int) (w : World) (ht : Tab w) (h1 : 0 ≤ y) (h2 : y ≤ 10000) (h3 : 1 ≤ m) (h4 : m ≤ 12) :
    Calls Tryz.prog 68 #[.int .i64 y, .int .i64 m] w fun e w' => e = .returned (.int .i64 (Cal.dim y m)) ∧ w' = w := by
  obtain ⟨c0, c1, c2, c3, c4, c5, c6, c7, c8, c9, c10, c11⟩ := ht
  rcases Cal.months m h3 h4 with h | h | h | h | h | h | h | h | h | h | h | h
  · subst h
    go_enter Tryz.func68, Tryz.ntmps68
    go_wp2
    go_ret
    exact ⟨ret_int (by simp [Cal.dim, Cal.tab]), rfl⟩
  · subst h
    cases hl : Cal.leap y
    all_goals
      go_enter Tryz.func68, Tryz.ntmps68
      go_wp2_with (go_at_call 109; refine (isLeap_any _ _ (by omega) (by omega)).mono ?_; rintro e w' ⟨rfl, rfl⟩)
      go_ret
      exact ⟨ret_int (by simp [Cal.dim, Cal.lp, hl]), rfl⟩
  all_goals
    subst h
    go_enter Tryz.func68, Tryz.ntmps68
    go_wp2
    go_ret
    exact ⟨ret_int (by simp [Cal.dim, Cal.tab]), rfl⟩

set_option maxHeartbeats 400000 in
theorem yearOf_any (g : Int) (w : World) (h1 : 0 ≤ g) (h2 : g < 3652059) :
    Calls Tryz.prog 66 #[.int .i64 g] w fun e w' => ∃ y : Int, e = .returned (.int .i64 y) ∧ 1 ≤ y ∧ y ≤ 9999 ∧ Cal.ah y ≤ g ∧ g < Cal.ah (y + 1) ∧ w' = w := by
  have g0 := Cal.ah_guess g h1
  go_enter Tryz.func66, Tryz.ntmps66
  go_wp2
  go_loop [3] (fun t => ∃ y : Int, 1 ≤ y ∧ y ≤ 9999 ∧ Cal.ah y ≤ g ∧ t = .int .i64 y) (fun t => (9999 - intOf t).toNat)
  case atStart => exact ⟨_, by omega, by omega, g0, rfl⟩
  case round =>
    obtain ⟨y, hy1, hy2, hy3, rfl⟩ := hrel
    clear g0
    by_cases hd : Cal.ah (y + 1) ≤ g
    · have hy : y < 9999 := by
        by_cases e : y = 9999
        · subst e; have := Cal.ah_end; rw [show (9999 : Int) + 1 = 10000 from rfl] at hd; omega
        · omega
      go_wp2_with (go_at_call 67; refine (daysAhead_any _ _ (by omega) (by omega)).mono ?_; rintro e w' ⟨rfl, rfl⟩)
      go_round
      case rel => exact ⟨y + 1, by omega, by omega, hd, rfl⟩
      case measure => simp [intOf]; omega
    · have hd' : g < Cal.ah (y + 1) := by omega
      go_wp2_with (go_at_call 67; refine (daysAhead_any _ _ (by omega) (by omega)).mono ?_; rintro e w' ⟨rfl, rfl⟩)
      go_ret
      exact ⟨y, rfl, hy1, hy2, hy3, hd', rfl⟩

theorem ok_false {y m d : Int} (h : ¬ (1 ≤ y ∧ y ≤ 9999 ∧ 1 ≤ m ∧ m ≤ 12 ∧ 1 ≤ d ∧ d ≤ Cal.dim y m)) : Cal.ok y m d = false := by
  unfold Cal.ok; exact decide_eq_false h
theorem ok_true {y m d : Int} (h : 1 ≤ y ∧ y ≤ 9999 ∧ 1 ≤ m ∧ m ≤ 12 ∧ 1 ≤ d ∧ d ≤ Cal.dim y m) : Cal.ok y m d = true := by
  unfold Cal.ok; exact decide_eq_true h

set_option maxHeartbeats 400000 in
theorem exists_any (y m d : Int) (w : World) (ht : Tab w) :
    Calls Tryz.prog 69 #[.int .i64 y, .int .i64 m, .int .i64 d] w fun e w' => e = .returned (.bool (Cal.ok y m d)) ∧ w' = w := by
  by_cases a : 1 ≤ y
  · by_cases b : y ≤ 9999
    · by_cases c : 1 ≤ m
      · by_cases f : m ≤ 12
        · by_cases g : 1 ≤ d
          · by_cases k : d ≤ Cal.dim y m
            all_goals
              go_enter Tryz.func69, Tryz.ntmps69
              go_wp2_with (go_at_call 68; refine (daysOf_any _ _ _ ht (by omega) (by omega) (by omega) (by omega)).mono ?_; rintro e w' ⟨rfl, rfl⟩)
              go_ret
            · exact ⟨ret_bool (by rw [ok_true ⟨a, b, c, f, g, k⟩]), rfl⟩
            · exact ⟨ret_bool (by rw [ok_false (by omega)]; exact decide_eq_false (by omega)), rfl⟩
          · go_enter Tryz.func69, Tryz.ntmps69
            go_wp2
            go_ret
            exact ⟨ret_bool (by rw [ok_false (by omega)]), rfl⟩
        · go_enter Tryz.func69, Tryz.ntmps69
          go_wp2
          go_ret
          exact ⟨ret_bool (by rw [ok_false (by omega)]), rfl⟩
      · go_enter Tryz.func69, Tryz.ntmps69
        go_wp2
        go_ret
        exact ⟨ret_bool (by rw [ok_false (by omega)]), rfl⟩
    · go_enter Tryz.func69, Tryz.ntmps69
      go_wp2
      go_ret
      exact ⟨ret_bool (by rw [ok_false (by omega)]), rfl⟩
  · go_enter Tryz.func69, Tryz.ntmps69
    go_wp2
    go_ret
    exact ⟨ret_bool (by rw [ok_false (by omega)]), rfl⟩

set_option maxHeartbeats 400000 in
theorem calDay_no (y m d : Int) (w : World) (ht : Tab w) (h : Cal.ok y m d = false) :
    Calls Tryz.prog 48 #[.int .i64 y, .int .i64 m, .int .i64 d] w fun e w' => e = .returned (.tuple #[.int .i64 0, .int .i64 6]) ∧ w' = w := by
  go_enter Tryz.func48, Tryz.ntmps48
  go_wp2_with (go_at_call 69; refine (exists_any _ _ _ _ ht).mono ?_; rintro e w' ⟨rfl, rfl⟩)
  go_ret2
  exact ⟨rfl, rfl⟩

theorem ret2_int {k l : IntKind} {a b c : Int} (h : a = b) : Ending.returned (.tuple #[.int k a, .int l c]) = .returned (.tuple #[.int k b, .int l c]) := by rw [h]

set_option maxHeartbeats 400000 in
theorem calDay_yes (y m d : Int) (w : World) (ht : Tab w) (h : Cal.ok y m d = true) :
    Calls Tryz.prog 48 #[.int .i64 y, .int .i64 m, .int .i64 d] w fun e w' => e = .returned (.tuple #[.int .i64 (Cal.num y m d), .int .i64 0]) ∧ w' = w := by
  obtain ⟨h1, h2, h3, h4, h5, h6⟩ := (Cal.ok_iff y m d).1 h
  have hb := Cal.ah_bd y h1 (by omega)
  have hdb := Cal.dim_bd y m
  have hl := Cal.lp_01 y
  go_enter Tryz.func48, Tryz.ntmps48
  go_wp2_with (first | (go_at_call 69; refine (exists_any _ _ _ _ ht).mono ?_; rintro e w' ⟨rfl, rfl⟩) | (go_at_call 67; refine (daysAhead_any _ _ (by omega) (by omega)).mono ?_; rintro e w' ⟨rfl, rfl⟩))
  go_loop [8, 9] (fun n k => ∃ j : Int, 1 ≤ j ∧ j ≤ m ∧ k = .int .i64 j ∧ n = .int .i64 (-738885 + Cal.ah y + d - 1 + Cal.cum y j)) (fun _ k => (m - intOf k).toNat)
  case atStart => exact ⟨1, by omega, by omega, rfl, by rw [Cal.cum_one, Int.add_zero]⟩
  case round =>
    obtain ⟨j, hj1, hj2, rfl, rfl⟩ := hrel
    have cb := Cal.cum_bd y j hj1 (by omega)
    have db := Cal.dim_bd y j
    have cs := Cal.cum_succ y j hj1 (by omega)
    have HC : Hid (Cal.cum y (j + 1) = Cal.cum y j + Cal.dim y j) := cs
    clear cs
    by_cases hc : j < m
    · go_wp2_with (go_at_call 68; refine (daysOf_any _ _ _ ht (by omega) (by omega) (by omega) (by omega)).mono ?_; rintro e w' ⟨rfl, rfl⟩)
      go_round
      case rel => exact ⟨j + 1, by omega, by omega, rfl, by rw [HC.out]; go_num⟩
      case measure => simp [intOf]; omega
    · obtain rfl : j = m := by omega
      go_wp2
      go_ret2
      exact ⟨ret2_int (by unfold Cal.num Cal.first; omega), rfl⟩

theorem results_tmp4 {fn : Func} {t u v x : Tmp} (h : fn.results = #[.tmp t, .tmp u, .tmp v, .tmp x]) (tmps : Array Value) (P : Program) (w : World) :
    (results fn tmps).run P w = .ok (.tuple #[tmps.getD t undef, tmps.getD u undef, tmps.getD v undef, tmps.getD x undef]) w := by
  simp [results, h]

set_option maxHeartbeats 400000 in
theorem calDate_no (n : Int) (w : World) (h : n < -738885 ∨ 2913173 < n) :
    Calls Tryz.prog 47 #[.int .i64 n] w fun e w' => e = .returned (.tuple #[.int .i64 0, .int .i64 0, .int .i64 0, .int .i64 6]) ∧ w' = w := by
  rcases h with h | h
  · go_enter Tryz.func47, Tryz.ntmps47
    go_wp2
    (try simp only [Exit.inBlock, Exit.then]); refine bodyPost_ret (results_tmp4 rfl _ _ _) rfl ?_
    exact ⟨rfl, rfl⟩
  · have h' : ¬ n < -738885 := by omega
    go_enter Tryz.func47, Tryz.ntmps47
    go_wp2
    (try simp only [Exit.inBlock, Exit.then]); refine bodyPost_ret (results_tmp4 rfl _ _ _) rfl ?_
    exact ⟨rfl, rfl⟩

theorem num_of (n y k : Int) : Cal.num y k (n + 738885 - Cal.ah y - Cal.cum y k + 1) = n := by unfold Cal.num Cal.first; omega

set_option maxHeartbeats 1000000 in
theorem calDate_yes (n : Int) (w : World) (ht : Tab w) (h1 : -738885 ≤ n) (h2 : n ≤ 2913173) :
    Calls Tryz.prog 47 #[.int .i64 n] w fun e w' => ∃ y m d : Int, e = .returned (.tuple #[.int .i64 y, .int .i64 m, .int .i64 d, .int .i64 0]) ∧ Cal.ok y m d = true ∧ Cal.num y m d = n ∧ w' = w := by
  go_enter Tryz.func47, Tryz.ntmps47
  go_wp2_with (first | (go_at_call 66; refine (yearOf_any _ _ (by omega) (by omega)).mono ?_; rintro e w' ⟨y, rfl, hy1, hy2, hy3, hy4, rfl⟩; have hb := Cal.ah_bd y hy1 (by omega)) | (go_at_call 67; refine (daysAhead_any _ _ (by omega) (by omega)).mono ?_; rintro e w' ⟨rfl, rfl⟩))
  have hs := Cal.ah_succ y hy1
  have hl := Cal.lp_01 y
  go_loop [8, 9] (fun r k => ∃ m : Int, 1 ≤ m ∧ m ≤ 12 ∧ k = .int .i64 m ∧ 0 ≤ n + 738885 - Cal.ah y - Cal.cum y m ∧ r = .int .i64 (n + 738885 - Cal.ah y - Cal.cum y m)) (fun _ k => (12 - intOf k).toNat)
  case atStart => exact ⟨1, by omega, by omega, rfl, by rw [Cal.cum_one]; omega, by rw [Cal.cum_one, Int.sub_zero]⟩
  case round =>
    obtain ⟨m, hm1, hm2, rfl, hr, rfl⟩ := hrel
    have cb := Cal.cum_bd y m hm1 (by omega)
    have db := Cal.dim_bd y m
    have cs := Cal.cum_succ y m hm1 hm2
    have ce := Cal.cum_end y
    by_cases hd : Cal.dim y m ≤ n + 738885 - Cal.ah y - Cal.cum y m
    · have hm : m < 12 := by
        by_cases e : m = 12
        · subst e; rw [show (12 : Int) + 1 = 13 from rfl] at cs; omega
        · omega
      have HC : Hid (Cal.cum y (m + 1) = Cal.cum y m + Cal.dim y m) := cs
      clear cs ce hs
      go_wp2_with (go_at_call 68; refine (daysOf_any _ _ _ ht (by omega) (by omega) (by omega) (by omega)).mono ?_; rintro e w' ⟨rfl, rfl⟩)
      go_round
      case rel => exact ⟨m + 1, by omega, by omega, rfl, by rw [HC.out]; omega, by rw [HC.out]; go_num⟩
      case measure => simp [intOf]; omega
    · have hok : Cal.ok y m (n + 738885 - Cal.ah y - Cal.cum y m + 1) = true := ok_true (by omega)
      clear cs ce hs
      go_wp2_with (go_at_call 68; refine (daysOf_any _ _ _ ht (by omega) (by omega) (by omega) (by omega)).mono ?_; rintro e w' ⟨rfl, rfl⟩)
      (try simp only [Exit.inBlock, Exit.then]); refine bodyPost_ret (results_tmp4 rfl _ _ _) rfl ?_
      exact ⟨y, m, _, rfl, hok, num_of n y m, rfl⟩

end Go.Proofs.YtjfkfiffakbagaaGreatDoor
