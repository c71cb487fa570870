/-
  The walks over the law's looks at an empty book (it looks at nothing), and over its step at the kinds 1 and 2.
-/
import Derived.Test.YtjfkfiffakbagaaGreatDoorDatesWalk
namespace Go.Proofs.YtjfkfiffakbagaaGreatDoor
open Go.RowKit

set_option maxRecDepth 100000 in
set_option maxHeartbeats 1000000 in
theorem looks_empty (B : Nat) (w : World) (c0 : w.cell? ⟨B, 2, none⟩ = some (.slice none 0 0)) (c1 : w.cell? ⟨B, 3, none⟩ = some (.slice none 0 0)) (c2 : w.cell? ⟨B, 4, none⟩ = some (.slice none 0 0)) :
    Calls Tryz.prog 40 #[.pointer (some ⟨B, 2, none⟩)] w fun e w' => e = .returned (.bool true) ∧ w' = w := by
  go_enter Tryz.func40, Tryz.ntmps40
  go_wp2
  go_loop [3] (fun i => i = .int .i64 0) (fun _ => 0)
  case atStart => rfl
  case round =>
    obtain rfl := hrel
    go_wp2
    go_loop [9] (fun i => i = .int .i64 0) (fun _ => 0)
    case atStart => rfl
    case round =>
      obtain rfl := hrel
      go_wp2
      go_loop [15] (fun i => i = .int .i64 0) (fun _ => 0)
      case atStart => rfl
      case round =>
        obtain rfl := hrel
        go_wp2
        go_ret
        exact ⟨rfl, rfl⟩

set_option maxRecDepth 100000 in
set_option maxHeartbeats 1000000 in
theorem step_day (p : Value) (a y m d : Int) (s : ByteArray) (w : World) (ht : Tab w) :
    Calls Tryz.prog 39 #[p, .agg #[.int .i64 1, .int .i64 a, .int .i64 y, .int .i64 m, .int .i64 d, .string s]] w fun e w' => e = .returned (.bool true) ∧ Below w.heap.size w w' := by
  have hb : ∀ o, Below w.heap.size w (w.alloc o) := fun o => (Below.refl _ _).alloc (Nat.le_refl _) o
  have HB := hide hb
  clear hb
  go_enter Tryz.func39, Tryz.ntmps39
  go_wp2_with fail
  refine (dated_any _ _ _ _ _ _ _ (ht.later (unhide HB _))).mono ?_
  rintro e w' ⟨rfl, hb1⟩
  go_wp2
  go_ret
  exact ⟨rfl, (unhide HB _).trans (hb1.mono (by simp))⟩

set_option maxRecDepth 100000 in
set_option maxHeartbeats 1000000 in
theorem step_date (p : Value) (a y m d : Int) (s : ByteArray) (w : World) (ht : Tab w) (h1 : -9223372036854775808 ≤ d) (h2 : d ≤ 9223372036854775807) :
    Calls Tryz.prog 39 #[p, .agg #[.int .i64 2, .int .i64 a, .int .i64 y, .int .i64 m, .int .i64 d, .string s]] w fun e w' => e = .returned (.bool true) ∧ Below w.heap.size w w' := by
  have hb : ∀ o, Below w.heap.size w (w.alloc o) := fun o => (Below.refl _ _).alloc (Nat.le_refl _) o
  have HB := hide hb
  clear hb
  go_enter Tryz.func39, Tryz.ntmps39
  go_wp2_with fail
  refine (date_any _ _ (ht.later (unhide HB _)) h1 h2).mono ?_
  rintro e w' ⟨rfl, rfl⟩
  go_wp2
  go_ret
  exact ⟨rfl, unhide HB _⟩

end Go.Proofs.YtjfkfiffakbagaaGreatDoor
