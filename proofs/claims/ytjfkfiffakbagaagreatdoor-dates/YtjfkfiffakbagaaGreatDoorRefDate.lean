/-
  The walks over the document's own Date, and over the law's dated and date: both sides answer alike.
-/
import Derived.Test.YtjfkfiffakbagaaGreatDoorRefCal
namespace Go.Proofs.YtjfkfiffakbagaaGreatDoor
open Go.RowKit

theorem early (n z : Int) (h : 0 ≤ n + (738885 - Cal.ah z) ∨ z = 1) (g : n + (738885 - Cal.ah z) < 0) : n < -738885 ∨ 2913173 < n := by
  rcases h with h | h
  · omega
  · subst h; have := Cal.ah_one; omega
theorem late (n z : Int) (h : z = 9999) (e : Cal.ah (z + 1) = Cal.ah z + 365 + Cal.lp z) (g : 365 + Cal.lp z ≤ n + (738885 - Cal.ah z)) : n < -738885 ∨ 2913173 < n := by
  subst h
  have := Cal.ah_end
  rw [show (9999 : Int) + 1 = 10000 from rfl] at e
  omega

theorem num_of' (n y k : Int) : Cal.num y k (n + (738885 - Cal.ah y) - Cal.cum y k + 1) = n := by unfold Cal.num Cal.first; omega
theorem inside (n z m : Int) (h : Cal.ok z m (n + (738885 - Cal.ah z) - Cal.cum z m + 1) = true) : ¬ (n < -738885 ∨ 2913173 < n) := by
  have b := Cal.num_bd _ _ _ h
  rw [num_of'] at b
  unfold Cal.first Cal.last at b
  omega

set_option maxHeartbeats 2000000 in
theorem refDate_any (n : Int) (w : World) (h1 : -9223372036854775808 ≤ n) (h2 : n ≤ 9223372036854775807) :
    Calls Tryz.prog 72 #[.int .i64 n] w fun e w' => ((n < -738885 ∨ 2913173 < n) ∧ e = .returned (.tuple #[.int .i64 0, .int .i64 0, .int .i64 0, .int .i64 6]) ∨ (¬ (n < -738885 ∨ 2913173 < n)) ∧ ∃ y m d : Int, e = .returned (.tuple #[.int .i64 y, .int .i64 m, .int .i64 d, .int .i64 0]) ∧ Cal.ok y m d = true ∧ Cal.num y m d = n) ∧ w' = w := by
  go_enter Tryz.func72, Tryz.ntmps72
  go_wp2
  go_loop [0, 6, 7] (fun t k _ => ∃ y : Int, 1 ≤ y ∧ y ≤ 2024 ∧ k = .int .i64 y ∧ t = .int .i64 (n + (738885 - Cal.ah y)) ∧ n + (738885 - Cal.ah y) ≤ 9223372036854775807) (fun _ k _ => (intOf k).toNat)
  case atStart => exact ⟨2024, by omega, by omega, rfl, by rw [ah_2024]; go_num, by rw [ah_2024]; omega⟩
  case round =>
    obtain ⟨y, hy1, hy2, rfl, rfl, hyt⟩ := hrel
    have yb := Cal.ah_bd y hy1 (by omega)
    have ym := Cal.ah_mono y 2024 hy1 hy2
    rw [ah_2024] at ym
    by_cases hn : n + (738885 - Cal.ah y) < 0 ∧ 1 < y
    · obtain ⟨hn, hy⟩ := hn
      have ys := Cal.ah_succ (y - 1) (by omega)
      rw [show y - 1 + 1 = y from by omega] at ys
      have yl := Cal.lp_01 (y - 1)
      have HY : Hid (Cal.ah y = Cal.ah (y - 1) + 365 + Cal.lp (y - 1)) := ys
      clear ys
      go_wp2_with (go_at_call 112; refine (refYear_any _ _ (by omega) (by omega)).mono ?_; rintro e w' ⟨rfl, rfl⟩)
      go_round
      case rel => exact ⟨y - 1, by omega, by omega, rfl, by have := HY.out; go_num, by have := HY.out; omega⟩
      case measure => simp [intOf]; omega
    · have hz : 0 ≤ n + (738885 - Cal.ah y) ∨ y = 1 := by omega
      have HZ : Hid (0 ≤ n + (738885 - Cal.ah y) ∨ y = 1) := hz
      clear hz
      have hn0 : (n + (738885 - Cal.ah y) < 0 ∧ ¬ 1 < y) ∨ ¬ n + (738885 - Cal.ah y) < 0 := by omega
      clear hn
      rcases hn0 with ⟨hn0, hy⟩ | hn0
      all_goals
        go_wp2
        go_loop [0, 6, 8] (fun t k _ => ∃ z : Int, 1 ≤ z ∧ z ≤ 9999 ∧ k = .int .i64 z ∧ t = .int .i64 (n + (738885 - Cal.ah z)) ∧ n + (738885 - Cal.ah z) ≤ 9223372036854775807 ∧ (0 ≤ n + (738885 - Cal.ah z) ∨ z = 1)) (fun _ k _ => (9999 - intOf k).toNat)
        case atStart => exact ⟨y, by omega, by omega, rfl, rfl, hyt, HZ.out⟩
        case round =>
          obtain ⟨z, hz1, hz2, rfl, rfl, hzt, hz3⟩ := hrel
          have HZ3 : Hid (0 ≤ n + (738885 - Cal.ah z) ∨ z = 1) := hz3
          clear hz3 yb ym hn0
          have zb := Cal.ah_bd z hz1 (by omega)
          have zl := Cal.lp_01 z
          have zs := Cal.ah_succ z hz1
          have HS : Hid (Cal.ah (z + 1) = Cal.ah z + 365 + Cal.lp z) := zs
          clear zs
          by_cases hz9 : z < 9999
          · by_cases hge : 365 + Cal.lp z ≤ n + (738885 - Cal.ah z)
            · go_wp2_with (go_at_call 112; refine (refYear_any _ _ (by omega) (by omega)).mono ?_; rintro e w' ⟨rfl, rfl⟩)
              go_round
              case rel => exact ⟨z + 1, by omega, by omega, rfl, by have := HS.out; go_num, by have := HS.out; omega, by have := HS.out; omega⟩
              case measure => simp [intOf]; omega
            · by_cases hneg : n + (738885 - Cal.ah z) < 0
              · go_wp2_with (go_at_call 112; refine (refYear_any _ _ (by omega) (by omega)).mono ?_; rintro e w' ⟨rfl, rfl⟩)
                (try simp only [Exit.inBlock, Exit.then]); refine bodyPost_ret (results_tmp4 rfl _ _ _) rfl ?_
                exact ⟨Or.inl ⟨early n z HZ3.out hneg, rfl⟩, rfl⟩
              · go_wp2_with (go_at_call 112; refine (refYear_any _ _ (by omega) (by omega)).mono ?_; rintro e w' ⟨rfl, rfl⟩)
                go_loop [0, 9, 10] (fun r k _ => ∃ m : Int, 1 ≤ m ∧ m ≤ 12 ∧ k = .int .i64 m ∧ 0 ≤ n + (738885 - Cal.ah z) - Cal.cum z m ∧ r = .int .i64 (n + (738885 - Cal.ah z) - Cal.cum z m)) (fun _ k _ => (12 - intOf k).toNat)
                case atStart => exact ⟨1, by omega, by omega, rfl, by rw [Cal.cum_one]; omega, by rw [Cal.cum_one, Int.sub_zero]⟩
                case round =>
                  obtain ⟨m, hm1, hm2, rfl, hr, rfl⟩ := hrel
                  have cb := Cal.cum_bd z m hm1 (by omega)
                  have db := Cal.dim_bd z m
                  have cs := Cal.cum_succ z m hm1 hm2
                  have ce := Cal.cum_end z
                  by_cases hd : Cal.dim z m ≤ n + (738885 - Cal.ah z) - Cal.cum z m
                  · have hm : m < 12 := by
                      by_cases e : m = 12
                      · subst e; rw [show (12 : Int) + 1 = 13 from rfl] at cs; omega
                      · omega
                    have HC : Hid (Cal.cum z (m + 1) = Cal.cum z m + Cal.dim z m) := cs
                    clear cs ce
                    go_wp2_with (go_at_call 111; refine (refLength_any _ _ _ (by omega) (by omega) (by omega) (by omega)).mono ?_; rintro e w' ⟨rfl, rfl⟩)
                    go_round
                    case rel => exact ⟨m + 1, by omega, by omega, rfl, by rw [HC.out]; omega, by rw [HC.out]; go_num⟩
                    case measure => simp [intOf]; omega
                  · have hok : Cal.ok z m (n + (738885 - Cal.ah z) - Cal.cum z m + 1) = true := ok_true (by omega)
                    have hin : ¬ (n < -738885 ∨ 2913173 < n) := inside n z m hok
                    have HIN : Hid (¬ (n < -738885 ∨ 2913173 < n)) := hin
                    clear cs ce hin
                    go_wp2_with (go_at_call 111; refine (refLength_any _ _ _ (by omega) (by omega) (by omega) (by omega)).mono ?_; rintro e w' ⟨rfl, rfl⟩)
                    (try simp only [Exit.inBlock, Exit.then]); refine bodyPost_ret (results_tmp4 rfl _ _ _) rfl ?_
                    exact ⟨Or.inr ⟨HIN.out, z, m, _, rfl, hok, num_of' n z m⟩, rfl⟩
          · by_cases hneg : n + (738885 - Cal.ah z) < 0
            · go_wp2
              (try simp only [Exit.inBlock, Exit.then]); refine bodyPost_ret (results_tmp4 rfl _ _ _) rfl ?_
              exact ⟨Or.inl ⟨early n z HZ3.out hneg, rfl⟩, rfl⟩
            · by_cases hge : 365 + Cal.lp z ≤ n + (738885 - Cal.ah z)
              · go_wp2_with (go_at_call 112; refine (refYear_any _ _ (by omega) (by omega)).mono ?_; rintro e w' ⟨rfl, rfl⟩)
                (try simp only [Exit.inBlock, Exit.then]); refine bodyPost_ret (results_tmp4 rfl _ _ _) rfl ?_
                exact ⟨Or.inl ⟨late n z (by omega) HS.out hge, rfl⟩, rfl⟩
              · go_wp2_with (go_at_call 112; refine (refYear_any _ _ (by omega) (by omega)).mono ?_; rintro e w' ⟨rfl, rfl⟩)
                go_loop [0, 9, 10] (fun r k _ => ∃ m : Int, 1 ≤ m ∧ m ≤ 12 ∧ k = .int .i64 m ∧ 0 ≤ n + (738885 - Cal.ah z) - Cal.cum z m ∧ r = .int .i64 (n + (738885 - Cal.ah z) - Cal.cum z m)) (fun _ k _ => (12 - intOf k).toNat)
                case atStart => exact ⟨1, by omega, by omega, rfl, by rw [Cal.cum_one]; omega, by rw [Cal.cum_one, Int.sub_zero]⟩
                case round =>
                  obtain ⟨m, hm1, hm2, rfl, hr, rfl⟩ := hrel
                  have cb := Cal.cum_bd z m hm1 (by omega)
                  have db := Cal.dim_bd z m
                  have cs := Cal.cum_succ z m hm1 hm2
                  have ce := Cal.cum_end z
                  by_cases hd : Cal.dim z m ≤ n + (738885 - Cal.ah z) - Cal.cum z m
                  · have hm : m < 12 := by
                      by_cases e : m = 12
                      · subst e; rw [show (12 : Int) + 1 = 13 from rfl] at cs; omega
                      · omega
                    have HC : Hid (Cal.cum z (m + 1) = Cal.cum z m + Cal.dim z m) := cs
                    clear cs ce
                    go_wp2_with (go_at_call 111; refine (refLength_any _ _ _ (by omega) (by omega) (by omega) (by omega)).mono ?_; rintro e w' ⟨rfl, rfl⟩)
                    go_round
                    case rel => exact ⟨m + 1, by omega, by omega, rfl, by rw [HC.out]; omega, by rw [HC.out]; go_num⟩
                    case measure => simp [intOf]; omega
                  · have hok : Cal.ok z m (n + (738885 - Cal.ah z) - Cal.cum z m + 1) = true := ok_true (by omega)
                    have hin : ¬ (n < -738885 ∨ 2913173 < n) := inside n z m hok
                    have HIN : Hid (¬ (n < -738885 ∨ 2913173 < n)) := hin
                    clear cs ce hin
                    go_wp2_with (go_at_call 111; refine (refLength_any _ _ _ (by omega) (by omega) (by omega) (by omega)).mono ?_; rintro e w' ⟨rfl, rfl⟩)
                    (try simp only [Exit.inBlock, Exit.then]); refine bodyPost_ret (results_tmp4 rfl _ _ _) rfl ?_
                    exact ⟨Or.inr ⟨HIN.out, z, m, _, rfl, hok, num_of' n z m⟩, rfl⟩

end Go.Proofs.YtjfkfiffakbagaaGreatDoor
