/-
  The walks over the law's date and dated (both sides answer alike), over its looks at an empty book, and over its step at the kinds 1 and 2.
-/
import Derived.Test.YtjfkfiffakbagaaGreatDoorRefDate
namespace Go.Proofs.YtjfkfiffakbagaaGreatDoor
open Go.RowKit

theorem hide {p : Prop} (h : p) : Hid p := h
theorem unhide {p : Prop} (h : Hid p) : p := h

theorem Tab.later {w wx : World} (h : Tab w) (hb : Below w.heap.size w wx) : Tab wx := by
  obtain ⟨c0, c1, c2, c3, c4, c5, c6, c7, c8, c9, c10, c11⟩ := h
  exact ⟨cell_later hb c0, cell_later hb c1, cell_later hb c2, cell_later hb c3, cell_later hb c4, cell_later hb c5, cell_later hb c6, cell_later hb c7, cell_later hb c8, cell_later hb c9, cell_later hb c10, cell_later hb c11⟩

set_option maxHeartbeats 400000 in
theorem bDay_yes (y m d : Int) (w : World) (ht : Tab w) (h : Cal.ok y m d = true) :
    Calls Tryz.prog 33 #[.int .i64 y, .int .i64 m, .int .i64 d] w fun e w' => e = .returned (.tuple #[.int .i64 (Cal.num y m d), .int .i64 0]) ∧ w' = w := by
  go_enter Tryz.func33, Tryz.ntmps33
  go_wp2_with (go_at_call 48; refine (calDay_yes _ _ _ _ ht h).mono ?_; rintro e w' ⟨rfl, rfl⟩)
  go_ret2
  exact ⟨rfl, rfl⟩

set_option maxHeartbeats 400000 in
theorem bDay_no (y m d : Int) (w : World) (ht : Tab w) (h : Cal.ok y m d = false) :
    Calls Tryz.prog 33 #[.int .i64 y, .int .i64 m, .int .i64 d] w fun e w' => e = .returned (.tuple #[.int .i64 0, .int .i64 6]) ∧ w' = w := by
  go_enter Tryz.func33, Tryz.ntmps33
  go_wp2_with (go_at_call 48; refine (calDay_no _ _ _ _ ht h).mono ?_; rintro e w' ⟨rfl, rfl⟩)
  go_ret2
  exact ⟨rfl, rfl⟩

set_option maxHeartbeats 400000 in
theorem bDate_yes (n : Int) (w : World) (ht : Tab w) (h1 : -738885 ≤ n) (h2 : n ≤ 2913173) :
    Calls Tryz.prog 31 #[.int .i64 n] w fun e w' => ∃ y m d : Int, e = .returned (.tuple #[.int .i64 y, .int .i64 m, .int .i64 d, .int .i64 0]) ∧ Cal.ok y m d = true ∧ Cal.num y m d = n ∧ w' = w := by
  go_enter Tryz.func31, Tryz.ntmps31
  go_wp2_with (go_at_call 47; refine (calDate_yes _ _ ht h1 h2).mono ?_; rintro e w' ⟨y, m, d, rfl, hok, hnum, rfl⟩)
  (try simp only [Exit.inBlock, Exit.then]); refine bodyPost_ret (results_tmp4 rfl _ _ _) rfl ?_
  exact ⟨y, m, d, rfl, hok, hnum, rfl⟩

set_option maxHeartbeats 400000 in
theorem bDate_no (n : Int) (w : World) (h : n < -738885 ∨ 2913173 < n) :
    Calls Tryz.prog 31 #[.int .i64 n] w fun e w' => e = .returned (.tuple #[.int .i64 0, .int .i64 0, .int .i64 0, .int .i64 6]) ∧ w' = w := by
  have H : Hid (n < -738885 ∨ 2913173 < n) := h
  clear h
  go_enter Tryz.func31, Tryz.ntmps31
  go_wp2_with (go_at_call 47; refine (calDate_no _ _ H.out).mono ?_; rintro e w' ⟨rfl, rfl⟩)
  (try simp only [Exit.inBlock, Exit.then]); refine bodyPost_ret (results_tmp4 rfl _ _ _) rfl ?_
  exact ⟨rfl, rfl⟩

set_option maxHeartbeats 400000 in
theorem date_any (n : Int) (w : World) (ht : Tab w) (h1 : -9223372036854775808 ≤ n) (h2 : n ≤ 9223372036854775807) :
    Calls Tryz.prog 51 #[.int .i64 n] w fun e w' => e = .returned (.bool true) ∧ w' = w := by
  by_cases h : n < -738885 ∨ 2913173 < n
  · have H : Hid (n < -738885 ∨ 2913173 < n) := h
    clear h
    go_enter Tryz.func51, Tryz.ntmps51
    go_wp2_with fail
    refine (bDate_no _ _ H.out).mono ?_
    rintro e w' ⟨rfl, rfl⟩
    go_wp2_with fail
    refine (refDate_any _ _ h1 h2).mono ?_
    rintro e w' ⟨⟨_, rfl⟩ | ⟨hn, _⟩, rfl⟩
    · go_wp2
      go_ret
      exact ⟨rfl, rfl⟩
    · exact absurd H.out hn
  · have H : Hid (¬ (n < -738885 ∨ 2913173 < n)) := h
    have g1 : -738885 ≤ n := by omega
    have g2 : n ≤ 2913173 := by omega
    clear h
    go_enter Tryz.func51, Tryz.ntmps51
    go_wp2_with fail
    refine (bDate_yes _ _ ht g1 g2).mono ?_
    rintro e w' ⟨y, m, d, rfl, hok, hnum, rfl⟩
    have HO := hide hok
    have HN := hide hnum
    clear hok hnum
    go_wp2_with fail
    refine (refDate_any _ _ h1 h2).mono ?_
    rintro e w' ⟨⟨hn, _⟩ | ⟨_, y', m', d', rfl, hok', hnum'⟩, rfl⟩
    · exact absurd hn H.out
    · obtain ⟨rfl, rfl, rfl⟩ := Cal.one y m d y' m' d' (unhide HO) hok' (by rw [unhide HN, hnum'])
      clear hok' hnum'
      go_wp2
      go_ret
      exact ⟨ret_bool (by simp), rfl⟩

set_option maxHeartbeats 400000 in
theorem dated_any (k a y m d : Int) (s : ByteArray) (w : World) (ht : Tab w) :
    Calls Tryz.prog 50 #[.agg #[.int .i64 k, .int .i64 a, .int .i64 y, .int .i64 m, .int .i64 d, .string s]] w fun e w' => e = .returned (.bool true) ∧ Below w.heap.size w w' := by
  have hb : ∀ o, Below w.heap.size w (w.alloc o) := fun o => (Below.refl _ _).alloc (Nat.le_refl _) o
  have HB := hide hb
  clear hb
  cases h : Cal.ok y m d
  · go_enter Tryz.func50, Tryz.ntmps50
    go_wp2_with fail
    refine (bDay_no _ _ _ _ (ht.later (unhide HB _)) h).mono ?_
    rintro e w' ⟨rfl, rfl⟩
    go_wp2_with fail
    refine (refDay_no _ _ _ _ h).mono ?_
    rintro e w' ⟨rfl, rfl⟩
    go_wp2
    go_ret
    exact ⟨rfl, unhide HB _⟩
  · go_enter Tryz.func50, Tryz.ntmps50
    go_wp2_with fail
    refine (bDay_yes _ _ _ _ (ht.later (unhide HB _)) h).mono ?_
    rintro e w' ⟨rfl, rfl⟩
    go_wp2_with fail
    refine (refDay_yes _ _ _ _ h).mono ?_
    rintro e w' ⟨rfl, rfl⟩
    go_wp2
    go_ret
    exact ⟨ret_bool (by simp), unhide HB _⟩

end Go.Proofs.YtjfkfiffakbagaaGreatDoor
