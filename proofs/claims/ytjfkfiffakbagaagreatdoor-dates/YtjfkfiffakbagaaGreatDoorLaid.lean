/-
  A world that holds what the program's text lays in the listed package variables: for the witnesses alone.
-/
import Derived.Test.YtjfkfiffakbagaaGreatDoorRows
import Derived.WalkKit
import Derived.ProofKit
import Derived.Deep.DeepWitnessRowRef
import Derived.LaidLaws
namespace Go.Proofs.YtjfkfiffakbagaaGreatDoor.Laid

def val : DataW Unit → Value
  | .lit (.int k n) => .int k n
  | .lit (.string b) => .string ⟨b.toArray⟩
  | _ => .bool false
def row : DataW Unit → List Value
  | .agg l => l.map val
  | _ => []
def rows : DataW Unit → List Value
  | .agg l => l.flatMap row
  | _ => []
def text : DataW Unit → Value
  | .iface _ (.ptr (.agg [d])) => val d
  | _ => .bool false
def put (l : List Value) : Obj → Obj
  | .cells _ t frozen => .cells l.toArray t frozen
  | o => o
/-- The listed variables, laid into a world; the two errors lie in two blocks behind all others. -/
def tabs (w : World) : World :=
  { w with heap := (((((((((w.heap.modify 0 (put (row Rows.laid_bookings_calendar_monthDays))).modify 1 (put (row Rows.laid_internal_strconv_uint64pow10))).modify 5 (put [.iface 365 (.pointer (some ⟨w.heap.size, 0, none⟩))])).modify 6 (put [.iface 365 (.pointer (some ⟨w.heap.size + 1, 0, none⟩))])).modify 2 (put (row Rows.laid_bookings_lines_weekdays))).modify 3 (put (row Rows.laid_math_bits_deBruijn32tab))).modify 4 (put (row Rows.laid_math_bits_deBruijn64tab))).modify 8 (put (row Rows.laid_unicode_utf8_first))).modify 9 (put (rows Rows.laid_unicode_utf8_acceptRanges))).push (.cells #[text Rows.laid_strconv_ErrSyntax] 367) |>.push (.cells #[text Rows.laid_strconv_ErrRange] 367) }

set_option maxRecDepth 100000 in
theorem met (os : Os) : laidMet Tryz.prog Rows.datesRow.laid ((tabs (World.holding Tryz.prog os ⟨#[], #[], []⟩)).forCall (fun _ _ => 0) ⟨#[], #[.slice none 0 0], []⟩).memory :=
  laidMet_of_run' 8 (by kernel_rfl) (by kernel_rfl)

end Go.Proofs.YtjfkfiffakbagaaGreatDoor.Laid
