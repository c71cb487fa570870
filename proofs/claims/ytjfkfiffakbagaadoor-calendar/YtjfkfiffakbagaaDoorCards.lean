/-
  DERIVED. GIVEN WITH THE SEED: THE CARDS: each row of YtjfkfiffakbagaaDoorRows.lean that lists a variable, with what it lists TIED to the program's text (the seventh form; the later family's looks); each row that meets fmt, with fmt's text TOLD by the authors' own Lean function (tested against real Go, not proved from fmt's source: count such statements apart). THE CARD IS WHAT COUNTS. Prove the row's statement (the work); the ties are given (YtjfkfiffakbagaaDoorTie.lean); close each card by the builder's one call (the guide's Derived/Test/ToyasCard.lean, 'card_holds'). Laid BY PROGRAM, IN A SANDBOX (cutbox-door.mjs). By AI agents, Wed Nov 11 2026. No macro, syntax, notation, axiom, sorry.
-/
import Derived.Test.YtjfkfiffakbagaaDoorRows
import GoSem.ClaimSeven
namespace Go.Proofs.YtjfkfiffakbagaaDoor
namespace Rows

/-- THE TIED CARD OF 'bookingskeep.Calendar'. -/
def calendarCard : Claim7 := { stood := { row := calendarRow, standIns := [], harness := (true, "97adf8bbd90ef3ea708881d6b5dd042cb3e10c3df3d338162ff70528c361ad33"), looks := false }, kinds := [], alts := [], laidByText := true, laidKinds := [.data], laidTests := true, laidLooks := .later }
def CalendarCardSaid : Prop := Claim7.holds Tryd.pinned (.plain (OpenSpec.ofChange calendarSpec)) calendarCard

/-- THE SECOND FORM's CARD OF 'bookingskeep.Calendar'. -/
def calendarUptoCard : Claim7 := { stood := { row := calendarUptoRow, standIns := [], harness := (true, "97adf8bbd90ef3ea708881d6b5dd042cb3e10c3df3d338162ff70528c361ad33"), looks := false }, kinds := [], alts := [], laidByText := true, laidKinds := [.data], laidTests := true, laidLooks := .later }
def CalendarUptoCardSaid : Prop := Claim7.holds Tryd.pinned (.plain (OpenSpec.upto calendarSpec)) calendarUptoCard
end Rows
end Go.Proofs.YtjfkfiffakbagaaDoor
