/-
  DERIVED. GIVEN WITH THE SEED: THE CARDS: each row of YtjfkfiffakbagaaGreatDoorRows.lean that lists a variable, with what it lists TIED to the program's text (the seventh form; the later family's looks); each row that meets fmt, with fmt's text TOLD by the authors' own Lean function (tested against real Go, not proved from fmt's source: count such statements apart). THE CARD IS WHAT COUNTS. Prove the row's statement (the work); the ties are given (YtjfkfiffakbagaaGreatDoorTie.lean); close each card by the builder's one call (the guide's Derived/Test/ToyasCard.lean, 'card_holds'). Laid BY PROGRAM, IN A SANDBOX (cutbox-door.mjs). By AI agents, Wed Nov 11 2026. No macro, syntax, notation, axiom, sorry.
-/
import Derived.Test.YtjfkfiffakbagaaGreatDoorRows
import GoSem.ClaimSeven
namespace Go.Proofs.YtjfkfiffakbagaaGreatDoor
namespace Rows

/-- THE TIED CARD OF 'bookingslaw.Dates'. -/
def datesCard : Claim7 := { stood := { row := datesRow, standIns := [], harness := (true, "114c23b01efe047798ffcee668a3cfde1d0e2a691b51804c149c206ce2cc5495"), looks := true }, kinds := [], alts := [], laidByText := true, laidKinds := [.data, .data, .data, .data, .data, .sentinel, .sentinel, .data, .pinned], laidTests := true, laidLooks := .later }
def DatesCardSaid : Prop := Claim7.holds Tryz.pinned (.plain (OpenSpec.ofChange datesSpec)) datesCard

/-- THE TIED CARD OF 'bookingslaw.Lines'. -/
def linesCard : Claim7 := { stood := { row := linesRow, standIns := [], harness := (true, "114c23b01efe047798ffcee668a3cfde1d0e2a691b51804c149c206ce2cc5495"), looks := true }, kinds := [], alts := [], laidByText := true, laidKinds := [.data, .data, .data, .data, .data, .sentinel, .sentinel, .data, .pinned], laidTests := true, laidLooks := .later }
def LinesCardSaid : Prop := Claim7.holds Tryz.pinned (.plain (OpenSpec.ofChange linesSpec)) linesCard

/-- THE TIED CARD OF 'bookingslaw.Bookings'. -/
def bookingsCard : Claim7 := { stood := { row := bookingsRow, standIns := [], harness := (true, "114c23b01efe047798ffcee668a3cfde1d0e2a691b51804c149c206ce2cc5495"), looks := true }, kinds := [], alts := [], laidByText := true, laidKinds := [.data, .data, .data, .data, .data, .sentinel, .sentinel, .data, .pinned], laidTests := true, laidLooks := .later }
def BookingsCardSaid : Prop := Claim7.holds Tryz.pinned (.plain (OpenSpec.ofChange bookingsSpec)) bookingsCard

/-- THE TIED CARD OF 'bookingskeep.Within'. -/
def withinCard : Claim7 := { stood := { row := withinRow, standIns := [], harness := (true, "114c23b01efe047798ffcee668a3cfde1d0e2a691b51804c149c206ce2cc5495"), looks := true }, kinds := [], alts := [], laidByText := true, laidKinds := [.data, .data, .data, .data, .data, .data, .pinned], laidTests := true, laidLooks := .later }
def WithinCardSaid : Prop := Claim7.holds Tryz.pinned (.plain (OpenSpec.ofChange withinSpec)) withinCard

/-- THE TIED CARD OF 'bookingskeep.Found'. -/
def foundCard : Claim7 := { stood := { row := foundRow, standIns := [], harness := (true, "114c23b01efe047798ffcee668a3cfde1d0e2a691b51804c149c206ce2cc5495"), looks := true }, kinds := [], alts := [], laidByText := true, laidKinds := [.data, .data, .data, .data, .data, .data, .pinned], laidTests := true, laidLooks := .later }
def FoundCardSaid : Prop := Claim7.holds Tryz.pinned (.plain (OpenSpec.ofChange foundSpec)) foundCard

/-- THE TIED CARD OF 'bookingslaw.Series'. -/
def seriesCard : Claim7 := { stood := { row := seriesRow, standIns := [], harness := (true, "114c23b01efe047798ffcee668a3cfde1d0e2a691b51804c149c206ce2cc5495"), looks := true }, kinds := [], alts := [], laidByText := true, laidKinds := [.data, .data, .data, .data, .data, .sentinel, .sentinel, .data, .pinned], laidTests := true, laidLooks := .later }
def SeriesCardSaid : Prop := Claim7.holds Tryz.pinned (.plain (OpenSpec.ofChange seriesSpec)) seriesCard

/-- THE TIED CARD OF 'bookingskeep.Days'. -/
def daysCard : Claim7 := { stood := { row := daysRow, standIns := [], harness := (true, "114c23b01efe047798ffcee668a3cfde1d0e2a691b51804c149c206ce2cc5495"), looks := true }, kinds := [], alts := [], laidByText := true, laidKinds := [.data, .data, .data, .data, .data, .data, .pinned], laidTests := true, laidLooks := .later }
def DaysCardSaid : Prop := Claim7.holds Tryz.pinned (.plain (OpenSpec.ofChange daysSpec)) daysCard

/-- THE TIED CARD OF 'bookingskeep.Whole'. -/
def wholeCard : Claim7 := { stood := { row := wholeRow, standIns := [], harness := (true, "114c23b01efe047798ffcee668a3cfde1d0e2a691b51804c149c206ce2cc5495"), looks := true }, kinds := [], alts := [], laidByText := true, laidKinds := [.data, .data, .data, .data, .data, .data, .pinned], laidTests := true, laidLooks := .later }
def WholeCardSaid : Prop := Claim7.holds Tryz.pinned (.plain (OpenSpec.ofChange wholeSpec)) wholeCard

/-- THE TIED CARD OF 'bookingslaw.Ends'. -/
def endsCard : Claim7 := { stood := { row := endsRow, standIns := [], harness := (true, "114c23b01efe047798ffcee668a3cfde1d0e2a691b51804c149c206ce2cc5495"), looks := true }, kinds := [], alts := [], laidByText := true, laidKinds := [.data, .data, .data, .data, .data, .sentinel, .sentinel, .data, .pinned], laidTests := true, laidLooks := .later }
def EndsCardSaid : Prop := Claim7.holds Tryz.pinned (.plain (OpenSpec.ofChange endsSpec)) endsCard

/-- THE TIED CARD OF 'bookingskeep.Hours'. -/
def hoursCard : Claim7 := { stood := { row := hoursRow, standIns := [], harness := (true, "114c23b01efe047798ffcee668a3cfde1d0e2a691b51804c149c206ce2cc5495"), looks := true }, kinds := [], alts := [], laidByText := true, laidKinds := [.data, .data, .data, .data, .data, .data, .pinned], laidTests := true, laidLooks := .later }
def HoursCardSaid : Prop := Claim7.holds Tryz.pinned (.plain (OpenSpec.ofChange hoursSpec)) hoursCard

/-- THE TIED CARD OF 'bookingskeep.Nobody'. -/
def nobodyCard : Claim7 := { stood := { row := nobodyRow, standIns := [], harness := (true, "114c23b01efe047798ffcee668a3cfde1d0e2a691b51804c149c206ce2cc5495"), looks := true }, kinds := [], alts := [], laidByText := true, laidKinds := [.data, .data, .data, .data, .data, .data, .pinned], laidTests := true, laidLooks := .later }
def NobodyCardSaid : Prop := Claim7.holds Tryz.pinned (.plain (OpenSpec.ofChange nobodySpec)) nobodyCard

/-- THE SECOND FORM's CARD OF 'bookingslaw.Dates'. -/
def datesUptoCard : Claim7 := { stood := { row := datesUptoRow, standIns := [], harness := (true, "114c23b01efe047798ffcee668a3cfde1d0e2a691b51804c149c206ce2cc5495"), looks := true }, kinds := [], alts := [], laidByText := true, laidKinds := [.data, .data, .data, .data, .data, .sentinel, .sentinel, .data, .pinned], laidTests := true, laidLooks := .later }
def DatesUptoCardSaid : Prop := Claim7.holds Tryz.pinned (.plain (OpenSpec.upto datesSpec)) datesUptoCard

/-- THE SECOND FORM's CARD OF 'bookingslaw.Lines'. -/
def linesUptoCard : Claim7 := { stood := { row := linesUptoRow, standIns := [], harness := (true, "114c23b01efe047798ffcee668a3cfde1d0e2a691b51804c149c206ce2cc5495"), looks := true }, kinds := [], alts := [], laidByText := true, laidKinds := [.data, .data, .data, .data, .data, .sentinel, .sentinel, .data, .pinned], laidTests := true, laidLooks := .later }
def LinesUptoCardSaid : Prop := Claim7.holds Tryz.pinned (.plain (OpenSpec.upto linesSpec)) linesUptoCard

/-- THE SECOND FORM's CARD OF 'bookingslaw.Bookings'. -/
def bookingsUptoCard : Claim7 := { stood := { row := bookingsUptoRow, standIns := [], harness := (true, "114c23b01efe047798ffcee668a3cfde1d0e2a691b51804c149c206ce2cc5495"), looks := true }, kinds := [], alts := [], laidByText := true, laidKinds := [.data, .data, .data, .data, .data, .sentinel, .sentinel, .data, .pinned], laidTests := true, laidLooks := .later }
def BookingsUptoCardSaid : Prop := Claim7.holds Tryz.pinned (.plain (OpenSpec.upto bookingsSpec)) bookingsUptoCard

/-- THE SECOND FORM's CARD OF 'bookingskeep.Within'. -/
def withinUptoCard : Claim7 := { stood := { row := withinUptoRow, standIns := [], harness := (true, "114c23b01efe047798ffcee668a3cfde1d0e2a691b51804c149c206ce2cc5495"), looks := true }, kinds := [], alts := [], laidByText := true, laidKinds := [.data, .data, .data, .data, .data, .data, .pinned], laidTests := true, laidLooks := .later }
def WithinUptoCardSaid : Prop := Claim7.holds Tryz.pinned (.plain (OpenSpec.upto withinSpec)) withinUptoCard

/-- THE SECOND FORM's CARD OF 'bookingskeep.Found'. -/
def foundUptoCard : Claim7 := { stood := { row := foundUptoRow, standIns := [], harness := (true, "114c23b01efe047798ffcee668a3cfde1d0e2a691b51804c149c206ce2cc5495"), looks := true }, kinds := [], alts := [], laidByText := true, laidKinds := [.data, .data, .data, .data, .data, .data, .pinned], laidTests := true, laidLooks := .later }
def FoundUptoCardSaid : Prop := Claim7.holds Tryz.pinned (.plain (OpenSpec.upto foundSpec)) foundUptoCard

/-- THE SECOND FORM's CARD OF 'bookingslaw.Series'. -/
def seriesUptoCard : Claim7 := { stood := { row := seriesUptoRow, standIns := [], harness := (true, "114c23b01efe047798ffcee668a3cfde1d0e2a691b51804c149c206ce2cc5495"), looks := true }, kinds := [], alts := [], laidByText := true, laidKinds := [.data, .data, .data, .data, .data, .sentinel, .sentinel, .data, .pinned], laidTests := true, laidLooks := .later }
def SeriesUptoCardSaid : Prop := Claim7.holds Tryz.pinned (.plain (OpenSpec.upto seriesSpec)) seriesUptoCard

/-- THE SECOND FORM's CARD OF 'bookingskeep.Days'. -/
def daysUptoCard : Claim7 := { stood := { row := daysUptoRow, standIns := [], harness := (true, "114c23b01efe047798ffcee668a3cfde1d0e2a691b51804c149c206ce2cc5495"), looks := true }, kinds := [], alts := [], laidByText := true, laidKinds := [.data, .data, .data, .data, .data, .data, .pinned], laidTests := true, laidLooks := .later }
def DaysUptoCardSaid : Prop := Claim7.holds Tryz.pinned (.plain (OpenSpec.upto daysSpec)) daysUptoCard

/-- THE SECOND FORM's CARD OF 'bookingskeep.Whole'. -/
def wholeUptoCard : Claim7 := { stood := { row := wholeUptoRow, standIns := [], harness := (true, "114c23b01efe047798ffcee668a3cfde1d0e2a691b51804c149c206ce2cc5495"), looks := true }, kinds := [], alts := [], laidByText := true, laidKinds := [.data, .data, .data, .data, .data, .data, .pinned], laidTests := true, laidLooks := .later }
def WholeUptoCardSaid : Prop := Claim7.holds Tryz.pinned (.plain (OpenSpec.upto wholeSpec)) wholeUptoCard

/-- THE SECOND FORM's CARD OF 'bookingslaw.Ends'. -/
def endsUptoCard : Claim7 := { stood := { row := endsUptoRow, standIns := [], harness := (true, "114c23b01efe047798ffcee668a3cfde1d0e2a691b51804c149c206ce2cc5495"), looks := true }, kinds := [], alts := [], laidByText := true, laidKinds := [.data, .data, .data, .data, .data, .sentinel, .sentinel, .data, .pinned], laidTests := true, laidLooks := .later }
def EndsUptoCardSaid : Prop := Claim7.holds Tryz.pinned (.plain (OpenSpec.upto endsSpec)) endsUptoCard

/-- THE SECOND FORM's CARD OF 'bookingskeep.Hours'. -/
def hoursUptoCard : Claim7 := { stood := { row := hoursUptoRow, standIns := [], harness := (true, "114c23b01efe047798ffcee668a3cfde1d0e2a691b51804c149c206ce2cc5495"), looks := true }, kinds := [], alts := [], laidByText := true, laidKinds := [.data, .data, .data, .data, .data, .data, .pinned], laidTests := true, laidLooks := .later }
def HoursUptoCardSaid : Prop := Claim7.holds Tryz.pinned (.plain (OpenSpec.upto hoursSpec)) hoursUptoCard

/-- THE SECOND FORM's CARD OF 'bookingskeep.Nobody'. -/
def nobodyUptoCard : Claim7 := { stood := { row := nobodyUptoRow, standIns := [], harness := (true, "114c23b01efe047798ffcee668a3cfde1d0e2a691b51804c149c206ce2cc5495"), looks := true }, kinds := [], alts := [], laidByText := true, laidKinds := [.data, .data, .data, .data, .data, .data, .pinned], laidTests := true, laidLooks := .later }
def NobodyUptoCardSaid : Prop := Claim7.holds Tryz.pinned (.plain (OpenSpec.upto nobodySpec)) nobodyUptoCard
end Rows
end Go.Proofs.YtjfkfiffakbagaaGreatDoor
