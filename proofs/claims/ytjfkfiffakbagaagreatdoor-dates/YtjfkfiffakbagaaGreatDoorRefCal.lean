/-
  The walks over the document's own dates (package bookingsref: year by year): what each function returns, for every argument within its bounds; the world is left as it was.
-/
import Derived.Test.YtjfkfiffakbagaaGreatDoorCalWalks
namespace Go.Proofs.YtjfkfiffakbagaaGreatDoor
open Go.RowKit

set_option maxHeartbeats 400000 in
theorem refLeap_any (y : Int) (w : World) (h1 : 0 ≤ y) (h2 : y ≤ 10000) :
    Calls Tryz.prog 162 #[.int .i64 y] w fun e w' => e = .returned (.bool (Cal.leap y)) ∧ w' = w := by
  cases a100 : (y % 100 == 0)
  · go_enter Tryz.func162, Tryz.ntmps162
    go_wp2
    go_ret
    exact ⟨ret_bool (by simp only [Cal.leap, bne, a100]; simp), rfl⟩
  · have a4 : (y % 4 == 0) = true := by simp only [beq_iff_eq] at a100 ⊢; omega
    have HA : Hid ((y % 4 == 0) = true) := a4
    clear a4
    go_enter Tryz.func162, Tryz.ntmps162
    go_wp2
    go_ret
    exact ⟨ret_bool (by simp only [Cal.leap, bne, a100, HA.out]; simp), rfl⟩

set_option maxHeartbeats 400000 in
theorem refYear_any (y : Int) (w : World) (h1 : 0 ≤ y) (h2 : y ≤ 10000) :
    Calls Tryz.prog 112 #[.int .i64 y] w fun e w' => e = .returned (.int .i64 (365 + Cal.lp y)) ∧ w' = w := by
  cases hl : Cal.leap y
  all_goals
    go_enter Tryz.func112, Tryz.ntmps112
    go_wp2_with (go_at_call 162; refine (refLeap_any _ _ (by omega) (by omega)).mono ?_; rintro e w' ⟨rfl, rfl⟩)
    go_ret
    exact ⟨ret_int (by simp [Cal.lp, hl]), rfl⟩

set_option maxHeartbeats 400000 in
theorem refLength_any (y m : Int) (w : World) (h1 : 0 ≤ y) (h2 : y ≤ 10000) (h3 : 1 ≤ m) (h4 : m ≤ 12) :
    Calls Tryz.prog 111 #[.int .i64 y, .int .i64 m] w fun e w' => e = .returned (.int .i64 (Cal.dim y m)) ∧ w' = w := by
  rcases Cal.months m h3 h4 with h | h | h | h | h | h | h | h | h | h | h | h
  · subst h
    go_enter Tryz.func111, Tryz.ntmps111
    go_wp2
    go_ret
    exact ⟨ret_int (by simp [Cal.dim, Cal.tab]), rfl⟩
  · subst h
    cases hl : Cal.leap y
    all_goals
      go_enter Tryz.func111, Tryz.ntmps111
      go_wp2_with (go_at_call 162; refine (refLeap_any _ _ (by omega) (by omega)).mono ?_; rintro e w' ⟨rfl, rfl⟩)
      go_ret
      exact ⟨ret_int (by simp [Cal.dim, Cal.lp, hl]), rfl⟩
  all_goals
    subst h
    go_enter Tryz.func111, Tryz.ntmps111
    go_wp2
    go_ret
    exact ⟨ret_int (by simp [Cal.dim, Cal.tab]), rfl⟩

set_option maxHeartbeats 400000 in
theorem isDate_any (y m d : Int) (w : World) :
    Calls Tryz.prog 110 #[.int .i64 y, .int .i64 m, .int .i64 d] w fun e w' => e = .returned (.bool (Cal.ok y m d)) ∧ w' = w := by
  by_cases a : 1 ≤ y
  · by_cases b : y ≤ 9999
    · by_cases c : 1 ≤ m
      · by_cases f : m ≤ 12
        · by_cases g : 1 ≤ d
          · by_cases k : d ≤ Cal.dim y m
            all_goals
              go_enter Tryz.func110, Tryz.ntmps110
              go_wp2_with (go_at_call 111; refine (refLength_any _ _ _ (by omega) (by omega) (by omega) (by omega)).mono ?_; rintro e w' ⟨rfl, rfl⟩)
              go_ret
            · exact ⟨ret_bool (by rw [ok_true ⟨a, b, c, f, g, k⟩]), rfl⟩
            · exact ⟨ret_bool (by rw [ok_false (by omega)]; exact decide_eq_false (by omega)), rfl⟩
          · go_enter Tryz.func110, Tryz.ntmps110
            go_wp2
            go_ret
            exact ⟨ret_bool (by rw [ok_false (by omega)]), rfl⟩
        · go_enter Tryz.func110, Tryz.ntmps110
          go_wp2
          go_ret
          exact ⟨ret_bool (by rw [ok_false (by omega)]), rfl⟩
      · go_enter Tryz.func110, Tryz.ntmps110
        go_wp2
        go_ret
        exact ⟨ret_bool (by rw [ok_false (by omega)]), rfl⟩
    · go_enter Tryz.func110, Tryz.ntmps110
      go_wp2
      go_ret
      exact ⟨ret_bool (by rw [ok_false (by omega)]), rfl⟩
  · go_enter Tryz.func110, Tryz.ntmps110
    go_wp2
    go_ret
    exact ⟨ret_bool (by rw [ok_false (by omega)]), rfl⟩

set_option maxHeartbeats 400000 in
theorem refDay_no (y m d : Int) (w : World) (h : Cal.ok y m d = false) :
    Calls Tryz.prog 71 #[.int .i64 y, .int .i64 m, .int .i64 d] w fun e w' => e = .returned (.tuple #[.int .i64 0, .int .i64 6]) ∧ w' = w := by
  go_enter Tryz.func71, Tryz.ntmps71
  go_wp2_with (go_at_call 110; refine (isDate_any _ _ _ _).mono ?_; rintro e w' ⟨rfl, rfl⟩)
  go_ret2
  exact ⟨rfl, rfl⟩

theorem ah_2024 : Cal.ah 2024 = 738885 := by decide

set_option maxHeartbeats 1000000 in
theorem refDay_yes (y m d : Int) (w : World) (h : Cal.ok y m d = true) :
    Calls Tryz.prog 71 #[.int .i64 y, .int .i64 m, .int .i64 d] w fun e w' => e = .returned (.tuple #[.int .i64 (Cal.num y m d), .int .i64 0]) ∧ w' = w := by
  obtain ⟨h1, h2, h3, h4, h5, h6⟩ := (Cal.ok_iff y m d).1 h
  have hb := Cal.ah_bd y h1 (by omega)
  have hdb := Cal.dim_bd y m
  have hl := Cal.lp_01 y
  have cbm := Cal.cum_bd y m h3 (by omega)
  go_enter Tryz.func71, Tryz.ntmps71
  go_wp2_with (go_at_call 110; refine (isDate_any _ _ _ _).mono ?_; rintro e w' ⟨rfl, rfl⟩)
  go_loop [9, 10, 11] (fun n k _ => ∃ j : Int, 1 ≤ j ∧ j ≤ m ∧ k = .int .i64 j ∧ n = .int .i64 (d - 1 + Cal.cum y j)) (fun _ k _ => (m - intOf k).toNat)
  case atStart => exact ⟨1, by omega, by omega, rfl, by rw [Cal.cum_one, Int.add_zero]⟩
  case round =>
    obtain ⟨j, hj1, hj2, rfl, rfl⟩ := hrel
    have cb := Cal.cum_bd y j hj1 (by omega)
    have db := Cal.dim_bd y j
    have cs := Cal.cum_succ y j hj1 (by omega)
    have HC : Hid (Cal.cum y (j + 1) = Cal.cum y j + Cal.dim y j) := cs
    clear cs
    by_cases hc : j < m
    · go_wp2_with (go_at_call 111; refine (refLength_any _ _ _ (by omega) (by omega) (by omega) (by omega)).mono ?_; rintro e w' ⟨rfl, rfl⟩)
      go_round
      case rel => exact ⟨j + 1, by omega, by omega, rfl, by rw [HC.out]; go_num⟩
      case measure => simp [intOf]; omega
    · obtain rfl : j = m := by omega
      go_wp2
      go_loop [9, 12, 13] (fun n k _ => ∃ j' : Int, 2024 ≤ j' ∧ (j' ≤ y ∨ j' = 2024) ∧ k = .int .i64 j' ∧ n = .int .i64 (d - 1 + Cal.cum y j + (Cal.ah j' - 738885))) (fun _ k _ => (y - intOf k).toNat)
      case atStart => exact ⟨2024, by omega, by omega, rfl, by rw [ah_2024]; go_num⟩
      case round =>
        obtain ⟨k, hk1, hk2, rfl, rfl⟩ := hrel
        have kb := Cal.ah_bd k (by omega) (by omega)
        have kl := Cal.lp_01 k
        have ks := Cal.ah_succ k (by omega)
        have HK : Hid (Cal.ah (k + 1) = Cal.ah k + 365 + Cal.lp k) := ks
        clear ks
        by_cases hk : k < y
        · go_wp2_with (go_at_call 112; refine (refYear_any _ _ (by omega) (by omega)).mono ?_; rintro e w' ⟨rfl, rfl⟩)
          go_round
          case rel => exact ⟨k + 1, by omega, by omega, rfl, by rw [HK.out]; go_num⟩
          case measure => simp [intOf]; omega
        · have km : Cal.ah y ≤ Cal.ah k := Cal.ah_mono y k h1 (by omega)
          have hk3 : (y = k) ∨ (y < 2024 ∧ k = 2024) := by omega
          have HK3 : Hid ((y = k) ∨ (y < 2024 ∧ k = 2024)) := hk3
          clear hk3
          go_wp2
          go_loop [9, 14, 15] (fun n k' _ => ∃ i : Int, y ≤ i ∧ (i ≤ 2024 ∨ i = y) ∧ k' = .int .i64 i ∧ n = .int .i64 (d - 1 + Cal.cum y j + (Cal.ah k - 738885) - (Cal.ah i - Cal.ah y))) (fun _ k' _ => (2024 - intOf k').toNat)
          case atStart => exact ⟨y, by omega, by omega, rfl, by go_num⟩
          case round =>
            obtain ⟨i, hi1, hi2, rfl, rfl⟩ := hrel
            have ib := Cal.ah_bd i (by omega) (by omega)
            have il := Cal.lp_01 i
            have is := Cal.ah_succ i (by omega)
            have HI : Hid (Cal.ah (i + 1) = Cal.ah i + 365 + Cal.lp i) := is
            clear is
            by_cases hi : i < 2024
            · go_wp2_with (go_at_call 112; refine (refYear_any _ _ (by omega) (by omega)).mono ?_; rintro e w' ⟨rfl, rfl⟩)
              go_round
              case rel => exact ⟨i + 1, by omega, by omega, rfl, by rw [HI.out]; go_num⟩
              case measure => simp [intOf]; omega
            · go_wp2
              go_ret2
              refine ⟨ret2_int ?_, rfl⟩
              have a24 := ah_2024
              rcases HK3.out with e | ⟨e1, e2⟩
              · subst e
                by_cases hy : i = y
                · subst hy; unfold Cal.num Cal.first; omega
                · obtain rfl : i = 2024 := by omega
                  exact absurd hi1 (by omega)
              · subst e2
                obtain rfl : i = 2024 := by omega
                unfold Cal.num Cal.first; omega

end Go.Proofs.YtjfkfiffakbagaaGreatDoor
