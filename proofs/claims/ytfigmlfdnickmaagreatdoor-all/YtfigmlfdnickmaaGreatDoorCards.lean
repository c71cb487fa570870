/-
  DERIVED. GIVEN WITH THE SEED: THE CARDS: each row of YtfigmlfdnickmaaGreatDoorRows.lean that lists a variable, with what it lists TIED to the program's text (the seventh form; the later family's looks); each row that meets fmt, with fmt's text TOLD by the authors' own Lean function (tested against real Go, not proved from fmt's source: count such statements apart). THE CARD IS WHAT COUNTS. Prove the row's statement (the work); the ties are given (YtfigmlfdnickmaaGreatDoorTie.lean); close each card by the builder's one call (the guide's Derived/Test/ToyasCard.lean, 'card_holds'). Laid BY PROGRAM, IN A SANDBOX (cutbox-door.mjs). By AI agents, Wed Nov 11 2026. No macro, syntax, notation, axiom, sorry.
-/
import Derived.Test.YtfigmlfdnickmaaGreatDoorRows
import GoSem.ClaimSeven
namespace Go.Proofs.YtfigmlfdnickmaaGreatDoor
namespace Rows

/-- THE TIED CARD OF 'bookingslaw.Dates'. -/
def datesCard : Claim7 := { stood := { row := datesRow, standIns := [], harness := (true, "353984965176cf91247500178afbd70c7bc261203318852a984e94e601f46194"), looks := true }, kinds := [], alts := [], laidByText := true, laidKinds := [.data, .data, .data, .data, .data, .sentinel, .sentinel, .data, .pinned], laidTests := true, laidLooks := .later }
def DatesCardSaid : Prop := Claim7.holds Tryz.pinned (.plain (OpenSpec.ofChange datesSpec)) datesCard

/-- THE TIED CARD OF 'bookingslaw.Bookings'. -/
def bookingsCard : Claim7 := { stood := { row := bookingsRow, standIns := [], harness := (true, "353984965176cf91247500178afbd70c7bc261203318852a984e94e601f46194"), looks := true }, kinds := [], alts := [], laidByText := true, laidKinds := [.data, .data, .data, .data, .data, .sentinel, .sentinel, .data, .pinned], laidTests := true, laidLooks := .later }
def BookingsCardSaid : Prop := Claim7.holds Tryz.pinned (.plain (OpenSpec.ofChange bookingsSpec)) bookingsCard

/-- THE TIED CARD OF 'bookingskeep.Within'. -/
def withinCard : Claim7 := { stood := { row := withinRow, standIns := [], harness := (true, "353984965176cf91247500178afbd70c7bc261203318852a984e94e601f46194"), looks := true }, kinds := [], alts := [], laidByText := true, laidKinds := [.data, .data, .data, .data, .data, .data, .pinned], laidTests := true, laidLooks := .later }
def WithinCardSaid : Prop := Claim7.holds Tryz.pinned (.plain (OpenSpec.ofChange withinSpec)) withinCard

/-- THE TIED CARD OF 'bookingslaw.Series'. -/
def seriesCard : Claim7 := { stood := { row := seriesRow, standIns := [], harness := (true, "353984965176cf91247500178afbd70c7bc261203318852a984e94e601f46194"), looks := true }, kinds := [], alts := [], laidByText := true, laidKinds := [.data, .data, .data, .data, .data, .sentinel, .sentinel, .data, .pinned], laidTests := true, laidLooks := .later }
def SeriesCardSaid : Prop := Claim7.holds Tryz.pinned (.plain (OpenSpec.ofChange seriesSpec)) seriesCard

/-- THE TIED CARD OF 'bookingskeep.Whole'. -/
def wholeCard : Claim7 := { stood := { row := wholeRow, standIns := [], harness := (true, "353984965176cf91247500178afbd70c7bc261203318852a984e94e601f46194"), looks := true }, kinds := [], alts := [], laidByText := true, laidKinds := [.data, .data, .data, .data, .data, .data, .pinned], laidTests := true, laidLooks := .later }
def WholeCardSaid : Prop := Claim7.holds Tryz.pinned (.plain (OpenSpec.ofChange wholeSpec)) wholeCard

/-- THE TIED CARD OF 'bookingslaw.Ends'. -/
def endsCard : Claim7 := { stood := { row := endsRow, standIns := [], harness := (true, "353984965176cf91247500178afbd70c7bc261203318852a984e94e601f46194"), looks := true }, kinds := [], alts := [], laidByText := true, laidKinds := [.data, .data, .data, .data, .data, .sentinel, .sentinel, .data, .pinned], laidTests := true, laidLooks := .later }
def EndsCardSaid : Prop := Claim7.holds Tryz.pinned (.plain (OpenSpec.ofChange endsSpec)) endsCard

/-- THE TIED CARD OF 'bookingskeep.Nobody'. -/
def nobodyCard : Claim7 := { stood := { row := nobodyRow, standIns := [], harness := (true, "353984965176cf91247500178afbd70c7bc261203318852a984e94e601f46194"), looks := true }, kinds := [], alts := [], laidByText := true, laidKinds := [.data, .data, .data, .data, .data, .data, .pinned], laidTests := true, laidLooks := .later }
def NobodyCardSaid : Prop := Claim7.holds Tryz.pinned (.plain (OpenSpec.ofChange nobodySpec)) nobodyCard

/-- THE TIED CARD OF 'bookingskeep.Queue'. -/
def queueCard : Claim7 := { stood := { row := queueRow, standIns := [], harness := (true, "353984965176cf91247500178afbd70c7bc261203318852a984e94e601f46194"), looks := true }, kinds := [], alts := [], laidByText := true, laidKinds := [.data, .data, .data, .data, .data, .data, .pinned], laidTests := true, laidLooks := .later }
def QueueCardSaid : Prop := Claim7.holds Tryz.pinned (.plain (OpenSpec.ofChange queueSpec)) queueCard

/-- THE TIED CARD OF 'bookingskeep.Again'. -/
def againCard : Claim7 := { stood := { row := againRow, standIns := [], harness := (true, "353984965176cf91247500178afbd70c7bc261203318852a984e94e601f46194"), looks := true }, kinds := [], alts := [], laidByText := true, laidKinds := [.data, .data, .data, .data, .data, .data, .pinned], laidTests := true, laidLooks := .later }
def AgainCardSaid : Prop := Claim7.holds Tryz.pinned (.plain (OpenSpec.ofChange againSpec)) againCard

/-- THE TIED CARD OF 'bookingskeep.Firm'. -/
def firmCard : Claim7 := { stood := { row := firmRow, standIns := [], harness := (true, "353984965176cf91247500178afbd70c7bc261203318852a984e94e601f46194"), looks := true }, kinds := [], alts := [], laidByText := true, laidKinds := [.data, .data, .data, .data, .data, .data, .pinned], laidTests := true, laidLooks := .later }
def FirmCardSaid : Prop := Claim7.holds Tryz.pinned (.plain (OpenSpec.ofChange firmSpec)) firmCard

/-- THE TIED CARD OF 'bookingskeep.Apart'. -/
def apartCard : Claim7 := { stood := { row := apartRow, standIns := [], harness := (true, "353984965176cf91247500178afbd70c7bc261203318852a984e94e601f46194"), looks := true }, kinds := [], alts := [], laidByText := true, laidKinds := [.data, .data, .data, .data, .data, .data, .pinned], laidTests := true, laidLooks := .later }
def ApartCardSaid : Prop := Claim7.holds Tryz.pinned (.plain (OpenSpec.ofChange apartSpec)) apartCard

/-- THE TIED CARD OF 'bookingslaw.All'. -/
def allCard : Claim7 := { stood := { row := allRow, standIns := [], harness := (true, "353984965176cf91247500178afbd70c7bc261203318852a984e94e601f46194"), looks := true }, kinds := [], alts := [], laidByText := true, laidKinds := [.data, .data, .data, .data, .data, .sentinel, .sentinel, .data, .pinned], laidTests := true, laidLooks := .later }
def AllCardSaid : Prop := Claim7.holds Tryz.pinned (.plain (OpenSpec.ofChange allSpec)) allCard

/-- THE SECOND FORM's CARD OF 'bookingslaw.Dates'. -/
def datesUptoCard : Claim7 := { stood := { row := datesUptoRow, standIns := [], harness := (true, "353984965176cf91247500178afbd70c7bc261203318852a984e94e601f46194"), looks := true }, kinds := [], alts := [], laidByText := true, laidKinds := [.data, .data, .data, .data, .data, .sentinel, .sentinel, .data, .pinned], laidTests := true, laidLooks := .later }
def DatesUptoCardSaid : Prop := Claim7.holds Tryz.pinned (.plain (OpenSpec.upto datesSpec)) datesUptoCard

/-- THE SECOND FORM's CARD OF 'bookingslaw.Bookings'. -/
def bookingsUptoCard : Claim7 := { stood := { row := bookingsUptoRow, standIns := [], harness := (true, "353984965176cf91247500178afbd70c7bc261203318852a984e94e601f46194"), looks := true }, kinds := [], alts := [], laidByText := true, laidKinds := [.data, .data, .data, .data, .data, .sentinel, .sentinel, .data, .pinned], laidTests := true, laidLooks := .later }
def BookingsUptoCardSaid : Prop := Claim7.holds Tryz.pinned (.plain (OpenSpec.upto bookingsSpec)) bookingsUptoCard

/-- THE SECOND FORM's CARD OF 'bookingskeep.Within'. -/
def withinUptoCard : Claim7 := { stood := { row := withinUptoRow, standIns := [], harness := (true, "353984965176cf91247500178afbd70c7bc261203318852a984e94e601f46194"), looks := true }, kinds := [], alts := [], laidByText := true, laidKinds := [.data, .data, .data, .data, .data, .data, .pinned], laidTests := true, laidLooks := .later }
def WithinUptoCardSaid : Prop := Claim7.holds Tryz.pinned (.plain (OpenSpec.upto withinSpec)) withinUptoCard

/-- THE SECOND FORM's CARD OF 'bookingslaw.Series'. -/
def seriesUptoCard : Claim7 := { stood := { row := seriesUptoRow, standIns := [], harness := (true, "353984965176cf91247500178afbd70c7bc261203318852a984e94e601f46194"), looks := true }, kinds := [], alts := [], laidByText := true, laidKinds := [.data, .data, .data, .data, .data, .sentinel, .sentinel, .data, .pinned], laidTests := true, laidLooks := .later }
def SeriesUptoCardSaid : Prop := Claim7.holds Tryz.pinned (.plain (OpenSpec.upto seriesSpec)) seriesUptoCard

/-- THE SECOND FORM's CARD OF 'bookingskeep.Whole'. -/
def wholeUptoCard : Claim7 := { stood := { row := wholeUptoRow, standIns := [], harness := (true, "353984965176cf91247500178afbd70c7bc261203318852a984e94e601f46194"), looks := true }, kinds := [], alts := [], laidByText := true, laidKinds := [.data, .data, .data, .data, .data, .data, .pinned], laidTests := true, laidLooks := .later }
def WholeUptoCardSaid : Prop := Claim7.holds Tryz.pinned (.plain (OpenSpec.upto wholeSpec)) wholeUptoCard

/-- THE SECOND FORM's CARD OF 'bookingslaw.Ends'. -/
def endsUptoCard : Claim7 := { stood := { row := endsUptoRow, standIns := [], harness := (true, "353984965176cf91247500178afbd70c7bc261203318852a984e94e601f46194"), looks := true }, kinds := [], alts := [], laidByText := true, laidKinds := [.data, .data, .data, .data, .data, .sentinel, .sentinel, .data, .pinned], laidTests := true, laidLooks := .later }
def EndsUptoCardSaid : Prop := Claim7.holds Tryz.pinned (.plain (OpenSpec.upto endsSpec)) endsUptoCard

/-- THE SECOND FORM's CARD OF 'bookingskeep.Nobody'. -/
def nobodyUptoCard : Claim7 := { stood := { row := nobodyUptoRow, standIns := [], harness := (true, "353984965176cf91247500178afbd70c7bc261203318852a984e94e601f46194"), looks := true }, kinds := [], alts := [], laidByText := true, laidKinds := [.data, .data, .data, .data, .data, .data, .pinned], laidTests := true, laidLooks := .later }
def NobodyUptoCardSaid : Prop := Claim7.holds Tryz.pinned (.plain (OpenSpec.upto nobodySpec)) nobodyUptoCard

/-- THE SECOND FORM's CARD OF 'bookingskeep.Queue'. -/
def queueUptoCard : Claim7 := { stood := { row := queueUptoRow, standIns := [], harness := (true, "353984965176cf91247500178afbd70c7bc261203318852a984e94e601f46194"), looks := true }, kinds := [], alts := [], laidByText := true, laidKinds := [.data, .data, .data, .data, .data, .data, .pinned], laidTests := true, laidLooks := .later }
def QueueUptoCardSaid : Prop := Claim7.holds Tryz.pinned (.plain (OpenSpec.upto queueSpec)) queueUptoCard

/-- THE SECOND FORM's CARD OF 'bookingskeep.Again'. -/
def againUptoCard : Claim7 := { stood := { row := againUptoRow, standIns := [], harness := (true, "353984965176cf91247500178afbd70c7bc261203318852a984e94e601f46194"), looks := true }, kinds := [], alts := [], laidByText := true, laidKinds := [.data, .data, .data, .data, .data, .data, .pinned], laidTests := true, laidLooks := .later }
def AgainUptoCardSaid : Prop := Claim7.holds Tryz.pinned (.plain (OpenSpec.upto againSpec)) againUptoCard

/-- THE SECOND FORM's CARD OF 'bookingskeep.Firm'. -/
def firmUptoCard : Claim7 := { stood := { row := firmUptoRow, standIns := [], harness := (true, "353984965176cf91247500178afbd70c7bc261203318852a984e94e601f46194"), looks := true }, kinds := [], alts := [], laidByText := true, laidKinds := [.data, .data, .data, .data, .data, .data, .pinned], laidTests := true, laidLooks := .later }
def FirmUptoCardSaid : Prop := Claim7.holds Tryz.pinned (.plain (OpenSpec.upto firmSpec)) firmUptoCard

/-- THE SECOND FORM's CARD OF 'bookingskeep.Apart'. -/
def apartUptoCard : Claim7 := { stood := { row := apartUptoRow, standIns := [], harness := (true, "353984965176cf91247500178afbd70c7bc261203318852a984e94e601f46194"), looks := true }, kinds := [], alts := [], laidByText := true, laidKinds := [.data, .data, .data, .data, .data, .data, .pinned], laidTests := true, laidLooks := .later }
def ApartUptoCardSaid : Prop := Claim7.holds Tryz.pinned (.plain (OpenSpec.upto apartSpec)) apartUptoCard

/-- THE SECOND FORM's CARD OF 'bookingslaw.All'. -/
def allUptoCard : Claim7 := { stood := { row := allUptoRow, standIns := [], harness := (true, "353984965176cf91247500178afbd70c7bc261203318852a984e94e601f46194"), looks := true }, kinds := [], alts := [], laidByText := true, laidKinds := [.data, .data, .data, .data, .data, .sentinel, .sentinel, .data, .pinned], laidTests := true, laidLooks := .later }
def AllUptoCardSaid : Prop := Claim7.holds Tryz.pinned (.plain (OpenSpec.upto allSpec)) allUptoCard
end Rows
end Go.Proofs.YtfigmlfdnickmaaGreatDoor
