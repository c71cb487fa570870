/-
  The walk over the law's plays at the kinds 1 and 2 alone (Dates): every step answers true, the book stays empty.
-/
import Derived.Test.YtjfkfiffakbagaaGreatDoorLooksWalk
namespace Go.Proofs.YtjfkfiffakbagaaGreatDoor
open Go.RowKit

/-- A step of a script lies at a place: its six fields. -/
def OpAt (w : World) (b o : Nat) : Prop :=
  ∃ (k a y m d : Int) (s : ByteArray), w.cell? ⟨b, o, none⟩ = some (.int .i64 k) ∧ w.cell? ⟨b, o + 1, none⟩ = some (.int .i64 a) ∧ w.cell? ⟨b, o + 2, none⟩ = some (.int .i64 y) ∧ w.cell? ⟨b, o + 3, none⟩ = some (.int .i64 m) ∧ w.cell? ⟨b, o + 4, none⟩ = some (.int .i64 d) ∧ w.cell? ⟨b, o + 5, none⟩ = some (.string s) ∧ -9223372036854775808 ≤ d ∧ d ≤ 9223372036854775807

theorem OpAt.later {w wx : World} {b o : Nat} (h : OpAt w b o) (hb : Below w.heap.size w wx) : OpAt wx b o := by
  obtain ⟨k, a, y, m, d, s, c0, c1, c2, c3, c4, c5, hd⟩ := h
  exact ⟨k, a, y, m, d, s, cell_later hb c0, cell_later hb c1, cell_later hb c2, cell_later hb c3, cell_later hb c4, cell_later hb c5, hd⟩

set_option maxRecDepth 100000 in
set_option maxHeartbeats 1000000 in
theorem plays_dates_empty (a0 : Option Addr) (cap : Nat) (w : World) :
    Calls Tryz.prog 14 #[.slice a0 0 cap, .int .i64 1, .int .i64 2] w fun e w' => e = .returned (.bool true) ∧ Below w.heap.size w w' := by
  go_enter Tryz.func14, Tryz.ntmps14
  go_wp2
  go_loop [9, 10, 11] (fun i _ _ => i = .int .i64 0) (fun _ _ _ => 0)
  case atStart => rfl
  case round =>
    obtain rfl := hrel
    go_wp2
    go_ret
    exact ⟨rfl, (Below.refl _ _).alloc (Nat.le_refl _) _⟩

set_option maxRecDepth 100000 in
set_option maxHeartbeats 1000000 in
theorem plays_dates_some (b off len cap : Nat) (w : World) (ht : Tab w) (hl : len ≤ maxLen) (hops : ∀ i, i < len → OpAt w b (off + i * 6)) :
    Calls Tryz.prog 14 #[.slice (some ⟨b, off, none⟩) len cap, .int .i64 1, .int .i64 2] w fun e w' => e = .returned (.bool true) ∧ Below w.heap.size w w' := by
  unfold maxLen at hl
  have HO := hide hops
  clear hops
  go_enter Tryz.func14, Tryz.ntmps14
  go_wp2
  obtain ⟨W, hW⟩ : ∃ W, W = w.alloc (.cells #[.slice none 0 0, .slice none 0 0, .slice none 0 0, .slice none 0 0, .slice none 0 0] 84) := ⟨_, rfl⟩
  rw [← hW]
  have hB : Below w.heap.size w W := by rw [hW]; exact (Below.refl _ _).alloc (Nat.le_refl _) _
  have hs : w.heap.size < W.heap.size := by rw [hW]; simp
  have c0 : W.cell? ⟨w.heap.size, 2, none⟩ = some (.slice none 0 0) := by rw [hW]; simp
  have c1 : W.cell? ⟨w.heap.size, 3, none⟩ = some (.slice none 0 0) := by rw [hW]; simp
  have c2 : W.cell? ⟨w.heap.size, 4, none⟩ = some (.slice none 0 0) := by rw [hW]; simp
  have HT := hide (ht.later hB)
  have HP : Hid (∀ i, i < len → OpAt W b (off + i * 6)) := fun i hi => (unhide HO i hi).later hB
  clear hW HO ht
  go_loopw [9, 10, 11] (fun i _ _ wx => ∃ k : Nat, k ≤ len ∧ i = .int .i64 k ∧ Below W.heap.size W wx) (fun i _ _ _ => len - (intOf i).toNat)
  case atStart => exact ⟨0, Nat.zero_le _, rfl, Below.refl _ _⟩
  case round =>
    obtain ⟨k, hk, rfl, hbx⟩ := hrel
    by_cases hlt : k < len
    · obtain ⟨kd, a, y, m, d, s, f0, f1, f2, f3, f4, f5, hd1, hd2⟩ := (unhide HP k hlt).later hbx
      have hkd : kd < 1 ∨ (¬ kd < 1 ∧ 2 < kd) ∨ kd = 1 ∨ kd = 2 := by omega
      rcases hkd with h | ⟨h, h'⟩ | rfl | rfl
      · go_wp2
        exact ⟨⟨k + 1, by omega, by go_num, hbx⟩, by simp [intOf]; omega⟩
      · go_wp2
        exact ⟨⟨k + 1, by omega, by go_num, hbx⟩, by simp [intOf]; omega⟩
      · go_wp2_with fail
        refine (step_day _ _ _ _ _ _ _ ((unhide HT).later hbx)).mono ?_
        rintro e w1 ⟨rfl, hb1⟩
        have hbw : Below W.heap.size W w1 := hbx.trans (hb1.mono hbx.size)
        have d0 := cell_later hbw c0
        have d1 := cell_later hbw c1
        have d2 := cell_later hbw c2
        go_wp2_with fail
        refine (looks_empty _ _ d0 d1 d2).mono ?_
        rintro e w2 ⟨rfl, rfl⟩
        go_wp2
        exact ⟨⟨k + 1, by omega, by go_num, hbw⟩, by simp [intOf]; omega⟩
      · go_wp2_with fail
        refine (step_date _ _ _ _ _ _ _ ((unhide HT).later hbx) hd1 hd2).mono ?_
        rintro e w1 ⟨rfl, hb1⟩
        have hbw : Below W.heap.size W w1 := hbx.trans (hb1.mono hbx.size)
        have d0 := cell_later hbw c0
        have d1 := cell_later hbw c1
        have d2 := cell_later hbw c2
        go_wp2_with fail
        refine (looks_empty _ _ d0 d1 d2).mono ?_
        rintro e w2 ⟨rfl, rfl⟩
        go_wp2
        exact ⟨⟨k + 1, by omega, by go_num, hbw⟩, by simp [intOf]; omega⟩
    · go_wp2
      go_ret
      exact ⟨rfl, hB.trans (hbx.mono (Nat.le_of_lt hs))⟩

set_option maxHeartbeats 1000000 in
theorem dates_empty (a0 : Option Addr) (cap : Nat) (w : World) :
    Calls Tryz.prog 3 #[.slice a0 0 cap] w fun e w' => e = .returned (.bool true) ∧ Below w.heap.size w w' := by
  go_enter Tryz.func3, Tryz.ntmps3
  go_wp2_with fail
  refine (plays_dates_empty _ _ _).mono ?_
  rintro e w1 ⟨rfl, hb1⟩
  go_wp2
  go_ret
  exact ⟨rfl, hb1⟩

set_option maxHeartbeats 1000000 in
theorem dates_some (b off len cap : Nat) (w : World) (ht : Tab w) (hl : len ≤ maxLen) (hops : ∀ i, i < len → OpAt w b (off + i * 6)) :
    Calls Tryz.prog 3 #[.slice (some ⟨b, off, none⟩) len cap] w fun e w' => e = .returned (.bool true) ∧ Below w.heap.size w w' := by
  have HO := hide hops
  clear hops
  go_enter Tryz.func3, Tryz.ntmps3
  go_wp2_with fail
  refine (plays_dates_some _ _ _ _ _ ht hl (unhide HO)).mono ?_
  rintro e w1 ⟨rfl, hb1⟩
  go_wp2
  go_ret
  exact ⟨rfl, hb1⟩

end Go.Proofs.YtjfkfiffakbagaaGreatDoor
