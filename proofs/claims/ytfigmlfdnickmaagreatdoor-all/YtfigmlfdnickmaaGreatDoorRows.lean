/-
  NARROWER THAN 'FOR EVERY INPUT', by the rows' own cells (each row's printed sentence says how): Dates: laid · Bookings: laid · Within: laid · Series: laid · Whole: laid · Ends: laid · Nobody: laid · Queue: laid · Again: laid · Firm: laid · Apart: laid · All: laid.
  DERIVED. THE GIVEN ROWS OF THIS SEAT. 12 by the template 'for every input the law returns true; each argument reads behind the call as it read before'; 0 by the template 'total and deterministic' (their statements: YtfigmlfdnickmaaGreatDoorTotals.lean).
  GIVEN WITH THE SEED: the statements are not yours to turn. If you find one false, say at which input.
  Laid BY PROGRAM, IN A SANDBOX (cutbox-rows.mjs): the forced cells as the released guide's own fill.sh prints them over the translation db940450c638d8cf… (all of the seat's roots in one cut). By AI agents, Wed Nov 11 2026. No macro, syntax, notation, axiom, sorry.
-/
import Derived.Test.YtfigmlfdnickmaaGreatDoorChecked
import GoSem.PinnedTables
import GoSem.Claim
import GoSem.ClaimJoined
import GoSem.ClaimMapViews
import Derived.JoinedTies
import Derived.KernelRfl
namespace Go.Proofs.YtfigmlfdnickmaaGreatDoor
/- THE CELL 'sum', in the pinned program and in every row, IS THE sha256 OF THE DUMP (.gsa) THAT YtfigmlfdnickmaaGreatDoorProg.lean LOADS. Nothing in Lean hashes anything: it is a label: what it is worth is what the hold of that sum in a sandbox is worth. -/
noncomputable def Tryz.pinned : Pinned := { name := "ytfigmlfdnickmaagreatdoor", sum := "db940450c638d8cfe44ce746ab6e18cc3057b3bc8eef010c81c8d464b3f9cb2d", checked := Tryz.checked }
namespace Rows
def none {H : Type} : Left H := { results := [], args := [] }

/- WHAT THE LISTED PACKAGE-LEVEL VARIABLES READ AS WHEN THE CALL BEGINS. Each datum BY PROGRAM (the guide's laid-datum.mjs) off the statement by which the dump's own 'gosem.cut.vars' lays the variable. In a bare row this is a premise. The card (YtfigmlfdnickmaaGreatDoorCards.lean) ties it to the program's text. -/
def laid_bookings_calendar_monthDays {H : Type} : DataW H := .agg [.lit (.int .i64 31), .lit (.int .i64 28), .lit (.int .i64 31), .lit (.int .i64 30), .lit (.int .i64 31), .lit (.int .i64 30), .lit (.int .i64 31), .lit (.int .i64 31), .lit (.int .i64 30), .lit (.int .i64 31), .lit (.int .i64 30), .lit (.int .i64 31)]
def laid_math_bits_deBruijn32tab {H : Type} : DataW H := .agg [.lit (.int .u8 0), .lit (.int .u8 1), .lit (.int .u8 28), .lit (.int .u8 2), .lit (.int .u8 29), .lit (.int .u8 14), .lit (.int .u8 24), .lit (.int .u8 3), .lit (.int .u8 30), .lit (.int .u8 22), .lit (.int .u8 20), .lit (.int .u8 15), .lit (.int .u8 25), .lit (.int .u8 17), .lit (.int .u8 4), .lit (.int .u8 8), .lit (.int .u8 31), .lit (.int .u8 27), .lit (.int .u8 13), .lit (.int .u8 23), .lit (.int .u8 21), .lit (.int .u8 19), .lit (.int .u8 16), .lit (.int .u8 7), .lit (.int .u8 26), .lit (.int .u8 12), .lit (.int .u8 18), .lit (.int .u8 6), .lit (.int .u8 11), .lit (.int .u8 5), .lit (.int .u8 10), .lit (.int .u8 9)]
def laid_math_bits_deBruijn64tab {H : Type} : DataW H := .agg [.lit (.int .u8 0), .lit (.int .u8 1), .lit (.int .u8 56), .lit (.int .u8 2), .lit (.int .u8 57), .lit (.int .u8 49), .lit (.int .u8 28), .lit (.int .u8 3), .lit (.int .u8 61), .lit (.int .u8 58), .lit (.int .u8 42), .lit (.int .u8 50), .lit (.int .u8 38), .lit (.int .u8 29), .lit (.int .u8 17), .lit (.int .u8 4), .lit (.int .u8 62), .lit (.int .u8 47), .lit (.int .u8 59), .lit (.int .u8 36), .lit (.int .u8 45), .lit (.int .u8 43), .lit (.int .u8 51), .lit (.int .u8 22), .lit (.int .u8 53), .lit (.int .u8 39), .lit (.int .u8 33), .lit (.int .u8 30), .lit (.int .u8 24), .lit (.int .u8 18), .lit (.int .u8 12), .lit (.int .u8 5), .lit (.int .u8 63), .lit (.int .u8 55), .lit (.int .u8 48), .lit (.int .u8 27), .lit (.int .u8 60), .lit (.int .u8 41), .lit (.int .u8 37), .lit (.int .u8 16), .lit (.int .u8 46), .lit (.int .u8 35), .lit (.int .u8 44), .lit (.int .u8 21), .lit (.int .u8 52), .lit (.int .u8 32), .lit (.int .u8 23), .lit (.int .u8 11), .lit (.int .u8 54), .lit (.int .u8 26), .lit (.int .u8 40), .lit (.int .u8 15), .lit (.int .u8 34), .lit (.int .u8 20), .lit (.int .u8 31), .lit (.int .u8 10), .lit (.int .u8 25), .lit (.int .u8 14), .lit (.int .u8 19), .lit (.int .u8 9), .lit (.int .u8 13), .lit (.int .u8 8), .lit (.int .u8 7), .lit (.int .u8 6)]
def laid_internal_strconv_uint64pow10 {H : Type} : DataW H := .agg [.lit (.int .u64 1), .lit (.int .u64 10), .lit (.int .u64 100), .lit (.int .u64 1000), .lit (.int .u64 10000), .lit (.int .u64 100000), .lit (.int .u64 1000000), .lit (.int .u64 10000000), .lit (.int .u64 100000000), .lit (.int .u64 1000000000), .lit (.int .u64 10000000000), .lit (.int .u64 100000000000), .lit (.int .u64 1000000000000), .lit (.int .u64 10000000000000), .lit (.int .u64 100000000000000), .lit (.int .u64 1000000000000000), .lit (.int .u64 10000000000000000), .lit (.int .u64 100000000000000000), .lit (.int .u64 1000000000000000000), .lit (.int .u64 10000000000000000000)]
def laid_unicode_utf8_acceptRanges {H : Type} : DataW H := .agg [.agg [.lit (.int .u8 128), .lit (.int .u8 191)], .agg [.lit (.int .u8 160), .lit (.int .u8 191)], .agg [.lit (.int .u8 128), .lit (.int .u8 159)], .agg [.lit (.int .u8 144), .lit (.int .u8 191)], .agg [.lit (.int .u8 128), .lit (.int .u8 143)], .agg [.lit (.int .u8 0), .lit (.int .u8 0)], .agg [.lit (.int .u8 0), .lit (.int .u8 0)], .agg [.lit (.int .u8 0), .lit (.int .u8 0)], .agg [.lit (.int .u8 0), .lit (.int .u8 0)], .agg [.lit (.int .u8 0), .lit (.int .u8 0)], .agg [.lit (.int .u8 0), .lit (.int .u8 0)], .agg [.lit (.int .u8 0), .lit (.int .u8 0)], .agg [.lit (.int .u8 0), .lit (.int .u8 0)], .agg [.lit (.int .u8 0), .lit (.int .u8 0)], .agg [.lit (.int .u8 0), .lit (.int .u8 0)], .agg [.lit (.int .u8 0), .lit (.int .u8 0)]]
def laid_strconv_ErrRange {H : Type} : DataW H := .iface "*errors.errorString" (.ptr (.agg [.lit (.string [118, 97, 108, 117, 101, 32, 111, 117, 116, 32, 111, 102, 32, 114, 97, 110, 103, 101])]))
def laid_strconv_ErrSyntax {H : Type} : DataW H := .iface "*errors.errorString" (.ptr (.agg [.lit (.string [105, 110, 118, 97, 108, 105, 100, 32, 115, 121, 110, 116, 97, 120])]))
def laid_bookings_lines_weekdays {H : Type} : DataW H := .agg [.lit (.string [109, 111]), .lit (.string [116, 117]), .lit (.string [119, 101]), .lit (.string [116, 104]), .lit (.string [102, 114]), .lit (.string [115, 97]), .lit (.string [115, 117])]
/-- One of Go's own tables, pinned by name: the form's constant. -/
def laid_unicode_utf8_first : DataW Unit := Go.Pinned.utf8First

/-- 'bookingslaw.Dates': WHATEVER THE INPUT: true; the input reads as it did. -/
def datesSpec : ChangeSpec := { name := "dates", fn := fun _ => fun
  | [d] => { results := [.lit (.bool true)], args := [d] }
  | _ => none }
def datesRow : OpenClaim := { program := "ytfigmlfdnickmaagreatdoor", sum := "db940450c638d8cfe44ce746ab6e18cc3057b3bc8eef010c81c8d464b3f9cb2d", func := "bookings/bookingslaw.Dates", spec := "dates", inPlace := ["internal/bytealg.IndexByteString", "internal/bytealg.IndexString", "internal/bytealg.CountString", "internal/abi.NoEscape", "internal/bytealg.MakeNoZero"], unfollowed := true, recurses := true, named := ["bookings/calendar.monthDays", "internal/bytealg.MaxLen", "unicode/utf8.first", "unicode/utf8.acceptRanges", "bookings/lines.weekdays", "strconv.ErrSyntax", "strconv.ErrRange", "internal/strconv.uint64pow10", "math/bits.deBruijn32tab", "math/bits.deBruijn64tab"], apart := false, laid := [("bookings/calendar.monthDays", laid_bookings_calendar_monthDays), ("math/bits.deBruijn32tab", laid_math_bits_deBruijn32tab), ("math/bits.deBruijn64tab", laid_math_bits_deBruijn64tab), ("internal/strconv.uint64pow10", laid_internal_strconv_uint64pow10), ("unicode/utf8.acceptRanges", laid_unicode_utf8_acceptRanges), ("strconv.ErrRange", laid_strconv_ErrRange), ("strconv.ErrSyntax", laid_strconv_ErrSyntax), ("bookings/lines.weekdays", laid_bookings_lines_weekdays), ("unicode/utf8.first", laid_unicode_utf8_first)] }
def DatesSaid : Prop := datesRow.holds Tryz.pinned (OpenSpec.ofChange datesSpec)

/-- ITS FALSE NEIGHBOUR: 'it returns false'. Refute it at one input. -/
def datesWrong : ChangeSpec := { name := "dates", fn := fun _ => fun
  | [d] => { results := [.lit (.bool false)], args := [d] }
  | _ => none }
def DatesWrongFalsely : Prop := datesRow.holds Tryz.pinned (OpenSpec.ofChange datesWrong)

/-- 'bookingslaw.Bookings': WHATEVER THE INPUT: true; the input reads as it did. -/
def bookingsSpec : ChangeSpec := { name := "bookings", fn := fun _ => fun
  | [d] => { results := [.lit (.bool true)], args := [d] }
  | _ => none }
def bookingsRow : OpenClaim := { program := "ytfigmlfdnickmaagreatdoor", sum := "db940450c638d8cfe44ce746ab6e18cc3057b3bc8eef010c81c8d464b3f9cb2d", func := "bookings/bookingslaw.Bookings", spec := "bookings", inPlace := ["internal/bytealg.IndexByteString", "internal/bytealg.IndexString", "internal/bytealg.CountString", "internal/abi.NoEscape", "internal/bytealg.MakeNoZero"], unfollowed := true, recurses := true, named := ["bookings/calendar.monthDays", "internal/bytealg.MaxLen", "unicode/utf8.first", "unicode/utf8.acceptRanges", "bookings/lines.weekdays", "strconv.ErrSyntax", "strconv.ErrRange", "internal/strconv.uint64pow10", "math/bits.deBruijn32tab", "math/bits.deBruijn64tab"], apart := false, laid := [("bookings/calendar.monthDays", laid_bookings_calendar_monthDays), ("math/bits.deBruijn32tab", laid_math_bits_deBruijn32tab), ("math/bits.deBruijn64tab", laid_math_bits_deBruijn64tab), ("internal/strconv.uint64pow10", laid_internal_strconv_uint64pow10), ("unicode/utf8.acceptRanges", laid_unicode_utf8_acceptRanges), ("strconv.ErrRange", laid_strconv_ErrRange), ("strconv.ErrSyntax", laid_strconv_ErrSyntax), ("bookings/lines.weekdays", laid_bookings_lines_weekdays), ("unicode/utf8.first", laid_unicode_utf8_first)] }
def BookingsSaid : Prop := bookingsRow.holds Tryz.pinned (OpenSpec.ofChange bookingsSpec)

/-- ITS FALSE NEIGHBOUR: 'it returns false'. Refute it at one input. -/
def bookingsWrong : ChangeSpec := { name := "bookings", fn := fun _ => fun
  | [d] => { results := [.lit (.bool false)], args := [d] }
  | _ => none }
def BookingsWrongFalsely : Prop := bookingsRow.holds Tryz.pinned (OpenSpec.ofChange bookingsWrong)

/-- 'bookingskeep.Within': WHATEVER THE INPUT: true; the input reads as it did. -/
def withinSpec : ChangeSpec := { name := "within", fn := fun _ => fun
  | [d1, d2, d3, d4] => { results := [.lit (.bool true)], args := [d1, d2, d3, d4] }
  | _ => none }
def withinRow : OpenClaim := { program := "ytfigmlfdnickmaagreatdoor", sum := "db940450c638d8cfe44ce746ab6e18cc3057b3bc8eef010c81c8d464b3f9cb2d", func := "bookings/bookingskeep.Within", spec := "within", inPlace := ["internal/bytealg.IndexByteString", "internal/bytealg.IndexString", "internal/bytealg.CountString"], unfollowed := true, recurses := true, named := ["internal/strconv.uint64pow10", "math/bits.deBruijn32tab", "math/bits.deBruijn64tab", "internal/bytealg.MaxLen", "bookings/calendar.monthDays", "unicode/utf8.first", "unicode/utf8.acceptRanges", "bookings/lines.weekdays"], apart := false, laid := [("bookings/calendar.monthDays", laid_bookings_calendar_monthDays), ("math/bits.deBruijn32tab", laid_math_bits_deBruijn32tab), ("math/bits.deBruijn64tab", laid_math_bits_deBruijn64tab), ("internal/strconv.uint64pow10", laid_internal_strconv_uint64pow10), ("unicode/utf8.acceptRanges", laid_unicode_utf8_acceptRanges), ("bookings/lines.weekdays", laid_bookings_lines_weekdays), ("unicode/utf8.first", laid_unicode_utf8_first)] }
def WithinSaid : Prop := withinRow.holds Tryz.pinned (OpenSpec.ofChange withinSpec)

/-- ITS FALSE NEIGHBOUR: 'it returns false'. Refute it at one input. -/
def withinWrong : ChangeSpec := { name := "within", fn := fun _ => fun
  | [d1, d2, d3, d4] => { results := [.lit (.bool false)], args := [d1, d2, d3, d4] }
  | _ => none }
def WithinWrongFalsely : Prop := withinRow.holds Tryz.pinned (OpenSpec.ofChange withinWrong)

/-- 'bookingslaw.Series': WHATEVER THE INPUT: true; the input reads as it did. -/
def seriesSpec : ChangeSpec := { name := "series", fn := fun _ => fun
  | [d] => { results := [.lit (.bool true)], args := [d] }
  | _ => none }
def seriesRow : OpenClaim := { program := "ytfigmlfdnickmaagreatdoor", sum := "db940450c638d8cfe44ce746ab6e18cc3057b3bc8eef010c81c8d464b3f9cb2d", func := "bookings/bookingslaw.Series", spec := "series", inPlace := ["internal/bytealg.IndexByteString", "internal/bytealg.IndexString", "internal/bytealg.CountString", "internal/abi.NoEscape", "internal/bytealg.MakeNoZero"], unfollowed := true, recurses := true, named := ["bookings/calendar.monthDays", "internal/bytealg.MaxLen", "unicode/utf8.first", "unicode/utf8.acceptRanges", "bookings/lines.weekdays", "strconv.ErrSyntax", "strconv.ErrRange", "internal/strconv.uint64pow10", "math/bits.deBruijn32tab", "math/bits.deBruijn64tab"], apart := false, laid := [("bookings/calendar.monthDays", laid_bookings_calendar_monthDays), ("math/bits.deBruijn32tab", laid_math_bits_deBruijn32tab), ("math/bits.deBruijn64tab", laid_math_bits_deBruijn64tab), ("internal/strconv.uint64pow10", laid_internal_strconv_uint64pow10), ("unicode/utf8.acceptRanges", laid_unicode_utf8_acceptRanges), ("strconv.ErrRange", laid_strconv_ErrRange), ("strconv.ErrSyntax", laid_strconv_ErrSyntax), ("bookings/lines.weekdays", laid_bookings_lines_weekdays), ("unicode/utf8.first", laid_unicode_utf8_first)] }
def SeriesSaid : Prop := seriesRow.holds Tryz.pinned (OpenSpec.ofChange seriesSpec)

/-- ITS FALSE NEIGHBOUR: 'it returns false'. Refute it at one input. -/
def seriesWrong : ChangeSpec := { name := "series", fn := fun _ => fun
  | [d] => { results := [.lit (.bool false)], args := [d] }
  | _ => none }
def SeriesWrongFalsely : Prop := seriesRow.holds Tryz.pinned (OpenSpec.ofChange seriesWrong)

/-- 'bookingskeep.Whole': WHATEVER THE INPUT: true; the input reads as it did. -/
def wholeSpec : ChangeSpec := { name := "whole", fn := fun _ => fun
  | [d1, d2, d3, d4] => { results := [.lit (.bool true)], args := [d1, d2, d3, d4] }
  | _ => none }
def wholeRow : OpenClaim := { program := "ytfigmlfdnickmaagreatdoor", sum := "db940450c638d8cfe44ce746ab6e18cc3057b3bc8eef010c81c8d464b3f9cb2d", func := "bookings/bookingskeep.Whole", spec := "whole", inPlace := ["internal/bytealg.IndexByteString", "internal/bytealg.IndexString", "internal/bytealg.CountString"], unfollowed := true, recurses := true, named := ["internal/strconv.uint64pow10", "math/bits.deBruijn32tab", "math/bits.deBruijn64tab", "internal/bytealg.MaxLen", "bookings/calendar.monthDays", "unicode/utf8.first", "unicode/utf8.acceptRanges", "bookings/lines.weekdays"], apart := false, laid := [("bookings/calendar.monthDays", laid_bookings_calendar_monthDays), ("math/bits.deBruijn32tab", laid_math_bits_deBruijn32tab), ("math/bits.deBruijn64tab", laid_math_bits_deBruijn64tab), ("internal/strconv.uint64pow10", laid_internal_strconv_uint64pow10), ("unicode/utf8.acceptRanges", laid_unicode_utf8_acceptRanges), ("bookings/lines.weekdays", laid_bookings_lines_weekdays), ("unicode/utf8.first", laid_unicode_utf8_first)] }
def WholeSaid : Prop := wholeRow.holds Tryz.pinned (OpenSpec.ofChange wholeSpec)

/-- ITS FALSE NEIGHBOUR: 'it returns false'. Refute it at one input. -/
def wholeWrong : ChangeSpec := { name := "whole", fn := fun _ => fun
  | [d1, d2, d3, d4] => { results := [.lit (.bool false)], args := [d1, d2, d3, d4] }
  | _ => none }
def WholeWrongFalsely : Prop := wholeRow.holds Tryz.pinned (OpenSpec.ofChange wholeWrong)

/-- 'bookingslaw.Ends': WHATEVER THE INPUT: true; the input reads as it did. -/
def endsSpec : ChangeSpec := { name := "ends", fn := fun _ => fun
  | [d] => { results := [.lit (.bool true)], args := [d] }
  | _ => none }
def endsRow : OpenClaim := { program := "ytfigmlfdnickmaagreatdoor", sum := "db940450c638d8cfe44ce746ab6e18cc3057b3bc8eef010c81c8d464b3f9cb2d", func := "bookings/bookingslaw.Ends", spec := "ends", inPlace := ["internal/bytealg.IndexByteString", "internal/bytealg.IndexString", "internal/bytealg.CountString", "internal/abi.NoEscape", "internal/bytealg.MakeNoZero"], unfollowed := true, recurses := true, named := ["bookings/calendar.monthDays", "internal/bytealg.MaxLen", "unicode/utf8.first", "unicode/utf8.acceptRanges", "bookings/lines.weekdays", "strconv.ErrSyntax", "strconv.ErrRange", "internal/strconv.uint64pow10", "math/bits.deBruijn32tab", "math/bits.deBruijn64tab"], apart := false, laid := [("bookings/calendar.monthDays", laid_bookings_calendar_monthDays), ("math/bits.deBruijn32tab", laid_math_bits_deBruijn32tab), ("math/bits.deBruijn64tab", laid_math_bits_deBruijn64tab), ("internal/strconv.uint64pow10", laid_internal_strconv_uint64pow10), ("unicode/utf8.acceptRanges", laid_unicode_utf8_acceptRanges), ("strconv.ErrRange", laid_strconv_ErrRange), ("strconv.ErrSyntax", laid_strconv_ErrSyntax), ("bookings/lines.weekdays", laid_bookings_lines_weekdays), ("unicode/utf8.first", laid_unicode_utf8_first)] }
def EndsSaid : Prop := endsRow.holds Tryz.pinned (OpenSpec.ofChange endsSpec)

/-- ITS FALSE NEIGHBOUR: 'it returns false'. Refute it at one input. -/
def endsWrong : ChangeSpec := { name := "ends", fn := fun _ => fun
  | [d] => { results := [.lit (.bool false)], args := [d] }
  | _ => none }
def EndsWrongFalsely : Prop := endsRow.holds Tryz.pinned (OpenSpec.ofChange endsWrong)

/-- 'bookingskeep.Nobody': WHATEVER THE INPUT: true; the input reads as it did. -/
def nobodySpec : ChangeSpec := { name := "nobody", fn := fun _ => fun
  | [d1, d2, d3] => { results := [.lit (.bool true)], args := [d1, d2, d3] }
  | _ => none }
def nobodyRow : OpenClaim := { program := "ytfigmlfdnickmaagreatdoor", sum := "db940450c638d8cfe44ce746ab6e18cc3057b3bc8eef010c81c8d464b3f9cb2d", func := "bookings/bookingskeep.Nobody", spec := "nobody", inPlace := ["internal/bytealg.IndexByteString", "internal/bytealg.IndexString", "internal/bytealg.CountString"], unfollowed := true, recurses := true, named := ["internal/strconv.uint64pow10", "math/bits.deBruijn32tab", "math/bits.deBruijn64tab", "internal/bytealg.MaxLen", "bookings/calendar.monthDays", "unicode/utf8.first", "unicode/utf8.acceptRanges", "bookings/lines.weekdays"], apart := false, laid := [("bookings/calendar.monthDays", laid_bookings_calendar_monthDays), ("math/bits.deBruijn32tab", laid_math_bits_deBruijn32tab), ("math/bits.deBruijn64tab", laid_math_bits_deBruijn64tab), ("internal/strconv.uint64pow10", laid_internal_strconv_uint64pow10), ("unicode/utf8.acceptRanges", laid_unicode_utf8_acceptRanges), ("bookings/lines.weekdays", laid_bookings_lines_weekdays), ("unicode/utf8.first", laid_unicode_utf8_first)] }
def NobodySaid : Prop := nobodyRow.holds Tryz.pinned (OpenSpec.ofChange nobodySpec)

/-- ITS FALSE NEIGHBOUR: 'it returns false'. Refute it at one input. -/
def nobodyWrong : ChangeSpec := { name := "nobody", fn := fun _ => fun
  | [d1, d2, d3] => { results := [.lit (.bool false)], args := [d1, d2, d3] }
  | _ => none }
def NobodyWrongFalsely : Prop := nobodyRow.holds Tryz.pinned (OpenSpec.ofChange nobodyWrong)

/-- 'bookingskeep.Queue': WHATEVER THE INPUT: true; the input reads as it did. -/
def queueSpec : ChangeSpec := { name := "queue", fn := fun _ => fun
  | [d1, d2] => { results := [.lit (.bool true)], args := [d1, d2] }
  | _ => none }
def queueRow : OpenClaim := { program := "ytfigmlfdnickmaagreatdoor", sum := "db940450c638d8cfe44ce746ab6e18cc3057b3bc8eef010c81c8d464b3f9cb2d", func := "bookings/bookingskeep.Queue", spec := "queue", inPlace := ["internal/bytealg.IndexByteString", "internal/bytealg.IndexString", "internal/bytealg.CountString"], unfollowed := true, recurses := true, named := ["internal/strconv.uint64pow10", "math/bits.deBruijn32tab", "math/bits.deBruijn64tab", "internal/bytealg.MaxLen", "bookings/calendar.monthDays", "unicode/utf8.first", "unicode/utf8.acceptRanges", "bookings/lines.weekdays"], apart := false, laid := [("bookings/calendar.monthDays", laid_bookings_calendar_monthDays), ("math/bits.deBruijn32tab", laid_math_bits_deBruijn32tab), ("math/bits.deBruijn64tab", laid_math_bits_deBruijn64tab), ("internal/strconv.uint64pow10", laid_internal_strconv_uint64pow10), ("unicode/utf8.acceptRanges", laid_unicode_utf8_acceptRanges), ("bookings/lines.weekdays", laid_bookings_lines_weekdays), ("unicode/utf8.first", laid_unicode_utf8_first)] }
def QueueSaid : Prop := queueRow.holds Tryz.pinned (OpenSpec.ofChange queueSpec)

/-- ITS FALSE NEIGHBOUR: 'it returns false'. Refute it at one input. -/
def queueWrong : ChangeSpec := { name := "queue", fn := fun _ => fun
  | [d1, d2] => { results := [.lit (.bool false)], args := [d1, d2] }
  | _ => none }
def QueueWrongFalsely : Prop := queueRow.holds Tryz.pinned (OpenSpec.ofChange queueWrong)

/-- 'bookingskeep.Again': WHATEVER THE INPUT: true; the input reads as it did. -/
def againSpec : ChangeSpec := { name := "again", fn := fun _ => fun
  | [d1, d2, d3] => { results := [.lit (.bool true)], args := [d1, d2, d3] }
  | _ => none }
def againRow : OpenClaim := { program := "ytfigmlfdnickmaagreatdoor", sum := "db940450c638d8cfe44ce746ab6e18cc3057b3bc8eef010c81c8d464b3f9cb2d", func := "bookings/bookingskeep.Again", spec := "again", inPlace := ["internal/bytealg.IndexByteString", "internal/bytealg.IndexString", "internal/bytealg.CountString", "internal/abi.NoEscape", "internal/bytealg.MakeNoZero"], unfollowed := true, recurses := true, named := ["internal/strconv.uint64pow10", "math/bits.deBruijn32tab", "math/bits.deBruijn64tab", "internal/bytealg.MaxLen", "bookings/calendar.monthDays", "unicode/utf8.first", "unicode/utf8.acceptRanges", "bookings/lines.weekdays"], apart := false, laid := [("bookings/calendar.monthDays", laid_bookings_calendar_monthDays), ("math/bits.deBruijn32tab", laid_math_bits_deBruijn32tab), ("math/bits.deBruijn64tab", laid_math_bits_deBruijn64tab), ("internal/strconv.uint64pow10", laid_internal_strconv_uint64pow10), ("unicode/utf8.acceptRanges", laid_unicode_utf8_acceptRanges), ("bookings/lines.weekdays", laid_bookings_lines_weekdays), ("unicode/utf8.first", laid_unicode_utf8_first)] }
def AgainSaid : Prop := againRow.holds Tryz.pinned (OpenSpec.ofChange againSpec)

/-- ITS FALSE NEIGHBOUR: 'it returns false'. Refute it at one input. -/
def againWrong : ChangeSpec := { name := "again", fn := fun _ => fun
  | [d1, d2, d3] => { results := [.lit (.bool false)], args := [d1, d2, d3] }
  | _ => none }
def AgainWrongFalsely : Prop := againRow.holds Tryz.pinned (OpenSpec.ofChange againWrong)

/-- 'bookingskeep.Firm': WHATEVER THE INPUT: true; the input reads as it did. -/
def firmSpec : ChangeSpec := { name := "firm", fn := fun _ => fun
  | [d1, d2] => { results := [.lit (.bool true)], args := [d1, d2] }
  | _ => none }
def firmRow : OpenClaim := { program := "ytfigmlfdnickmaagreatdoor", sum := "db940450c638d8cfe44ce746ab6e18cc3057b3bc8eef010c81c8d464b3f9cb2d", func := "bookings/bookingskeep.Firm", spec := "firm", inPlace := ["internal/bytealg.IndexByteString", "internal/bytealg.IndexString", "internal/bytealg.CountString"], unfollowed := true, recurses := true, named := ["internal/strconv.uint64pow10", "math/bits.deBruijn32tab", "math/bits.deBruijn64tab", "internal/bytealg.MaxLen", "bookings/calendar.monthDays", "unicode/utf8.first", "unicode/utf8.acceptRanges", "bookings/lines.weekdays"], apart := false, laid := [("bookings/calendar.monthDays", laid_bookings_calendar_monthDays), ("math/bits.deBruijn32tab", laid_math_bits_deBruijn32tab), ("math/bits.deBruijn64tab", laid_math_bits_deBruijn64tab), ("internal/strconv.uint64pow10", laid_internal_strconv_uint64pow10), ("unicode/utf8.acceptRanges", laid_unicode_utf8_acceptRanges), ("bookings/lines.weekdays", laid_bookings_lines_weekdays), ("unicode/utf8.first", laid_unicode_utf8_first)] }
def FirmSaid : Prop := firmRow.holds Tryz.pinned (OpenSpec.ofChange firmSpec)

/-- ITS FALSE NEIGHBOUR: 'it returns false'. Refute it at one input. -/
def firmWrong : ChangeSpec := { name := "firm", fn := fun _ => fun
  | [d1, d2] => { results := [.lit (.bool false)], args := [d1, d2] }
  | _ => none }
def FirmWrongFalsely : Prop := firmRow.holds Tryz.pinned (OpenSpec.ofChange firmWrong)

/-- 'bookingskeep.Apart': WHATEVER THE INPUT: true; the input reads as it did. -/
def apartSpec : ChangeSpec := { name := "apart", fn := fun _ => fun
  | [d1, d2, d3, d4] => { results := [.lit (.bool true)], args := [d1, d2, d3, d4] }
  | _ => none }
def apartRow : OpenClaim := { program := "ytfigmlfdnickmaagreatdoor", sum := "db940450c638d8cfe44ce746ab6e18cc3057b3bc8eef010c81c8d464b3f9cb2d", func := "bookings/bookingskeep.Apart", spec := "apart", inPlace := ["internal/bytealg.IndexByteString", "internal/bytealg.IndexString", "internal/bytealg.CountString"], unfollowed := true, recurses := true, named := ["internal/strconv.uint64pow10", "math/bits.deBruijn32tab", "math/bits.deBruijn64tab", "internal/bytealg.MaxLen", "bookings/calendar.monthDays", "unicode/utf8.first", "unicode/utf8.acceptRanges", "bookings/lines.weekdays"], apart := false, laid := [("bookings/calendar.monthDays", laid_bookings_calendar_monthDays), ("math/bits.deBruijn32tab", laid_math_bits_deBruijn32tab), ("math/bits.deBruijn64tab", laid_math_bits_deBruijn64tab), ("internal/strconv.uint64pow10", laid_internal_strconv_uint64pow10), ("unicode/utf8.acceptRanges", laid_unicode_utf8_acceptRanges), ("bookings/lines.weekdays", laid_bookings_lines_weekdays), ("unicode/utf8.first", laid_unicode_utf8_first)] }
def ApartSaid : Prop := apartRow.holds Tryz.pinned (OpenSpec.ofChange apartSpec)

/-- ITS FALSE NEIGHBOUR: 'it returns false'. Refute it at one input. -/
def apartWrong : ChangeSpec := { name := "apart", fn := fun _ => fun
  | [d1, d2, d3, d4] => { results := [.lit (.bool false)], args := [d1, d2, d3, d4] }
  | _ => none }
def ApartWrongFalsely : Prop := apartRow.holds Tryz.pinned (OpenSpec.ofChange apartWrong)

/-- 'bookingslaw.All': WHATEVER THE INPUT: true; the input reads as it did. -/
def allSpec : ChangeSpec := { name := "all", fn := fun _ => fun
  | [d] => { results := [.lit (.bool true)], args := [d] }
  | _ => none }
def allRow : OpenClaim := { program := "ytfigmlfdnickmaagreatdoor", sum := "db940450c638d8cfe44ce746ab6e18cc3057b3bc8eef010c81c8d464b3f9cb2d", func := "bookings/bookingslaw.All", spec := "all", inPlace := ["internal/bytealg.IndexByteString", "internal/bytealg.IndexString", "internal/bytealg.CountString", "internal/abi.NoEscape", "internal/bytealg.MakeNoZero"], unfollowed := true, recurses := true, named := ["bookings/calendar.monthDays", "internal/bytealg.MaxLen", "unicode/utf8.first", "unicode/utf8.acceptRanges", "bookings/lines.weekdays", "strconv.ErrSyntax", "strconv.ErrRange", "internal/strconv.uint64pow10", "math/bits.deBruijn32tab", "math/bits.deBruijn64tab"], apart := false, laid := [("bookings/calendar.monthDays", laid_bookings_calendar_monthDays), ("math/bits.deBruijn32tab", laid_math_bits_deBruijn32tab), ("math/bits.deBruijn64tab", laid_math_bits_deBruijn64tab), ("internal/strconv.uint64pow10", laid_internal_strconv_uint64pow10), ("unicode/utf8.acceptRanges", laid_unicode_utf8_acceptRanges), ("strconv.ErrRange", laid_strconv_ErrRange), ("strconv.ErrSyntax", laid_strconv_ErrSyntax), ("bookings/lines.weekdays", laid_bookings_lines_weekdays), ("unicode/utf8.first", laid_unicode_utf8_first)] }
def AllSaid : Prop := allRow.holds Tryz.pinned (OpenSpec.ofChange allSpec)

/-- ITS FALSE NEIGHBOUR: 'it returns false'. Refute it at one input. -/
def allWrong : ChangeSpec := { name := "all", fn := fun _ => fun
  | [d] => { results := [.lit (.bool false)], args := [d] }
  | _ => none }
def AllWrongFalsely : Prop := allRow.holds Tryz.pinned (OpenSpec.ofChange allWrong)

/- THE SECOND FORM. 'bulk': how many values and letters a reading holds, each counted each time it is reached (what is shared counts as often as it is met; a slice's spare places count too). A statement '..UptoSaid' is the law's where the arguments, and the package variables that the reading takes, are together of bulk at most 1048576: NARROWER than '..Said'. Prove '..Said' where nothing that the law and all that it calls make is longer than what came in: it says more and counts as full. Else prove '..UptoSaid'. A law counts once. -/
mutual
def uptoBulk {H : Type} : DataW H → Nat
  | .lit (.string bytes) => bytes.length + 1
  | .lit _ => 1
  | .nil => 1
  | .ptr d => uptoBulk d + 1
  | .slice elems spare => uptoBulkAll elems + uptoBulkAll spare + 1
  | .agg parts => uptoBulkAll parts + 1
  | .iface _ d => uptoBulk d + 1
  | .map entries => uptoBulkEntries entries + 1
  | .held _ => 1
def uptoBulkAll {H : Type} : List (DataW H) → Nat
  | [] => 0
  | d :: r => uptoBulk d + uptoBulkAll r
def uptoBulkEntries {H : Type} : List (Lit × DataW H) → Nat
  | [] => 0
  | x :: r => uptoBulkEntry x + uptoBulkEntries r
def uptoBulkEntry {H : Type} : Lit × DataW H → Nat
  | (.string bytes, d) => bytes.length + uptoBulk d + 1
  | (_, d) => uptoBulk d + 1
 end
def uptoSmall : (H : Type) → List (DataW H) → Bool := fun _ ds => decide (uptoBulkAll ds ≤ 1048576)
def OpenSpec.upto (s : _root_.Go.ChangeSpec) : _root_.Go.OpenSpec := { _root_.Go.OpenSpec.ofChange s with cond := some uptoSmall }

/-- 'bookingslaw.Dates', WHERE WHAT IT READS IS OF BULK AT MOST 1048576: true; the input reads as it did. -/
def datesUptoRow : OpenClaim := { program := "ytfigmlfdnickmaagreatdoor", sum := "db940450c638d8cfe44ce746ab6e18cc3057b3bc8eef010c81c8d464b3f9cb2d", func := "bookings/bookingslaw.Dates", spec := "dates", inPlace := ["internal/bytealg.IndexByteString", "internal/bytealg.IndexString", "internal/bytealg.CountString", "internal/abi.NoEscape", "internal/bytealg.MakeNoZero"], unfollowed := true, recurses := true, named := ["bookings/calendar.monthDays", "internal/bytealg.MaxLen", "unicode/utf8.first", "unicode/utf8.acceptRanges", "bookings/lines.weekdays", "strconv.ErrSyntax", "strconv.ErrRange", "internal/strconv.uint64pow10", "math/bits.deBruijn32tab", "math/bits.deBruijn64tab"], apart := false, laid := [("bookings/calendar.monthDays", laid_bookings_calendar_monthDays), ("math/bits.deBruijn32tab", laid_math_bits_deBruijn32tab), ("math/bits.deBruijn64tab", laid_math_bits_deBruijn64tab), ("internal/strconv.uint64pow10", laid_internal_strconv_uint64pow10), ("unicode/utf8.acceptRanges", laid_unicode_utf8_acceptRanges), ("strconv.ErrRange", laid_strconv_ErrRange), ("strconv.ErrSyntax", laid_strconv_ErrSyntax), ("bookings/lines.weekdays", laid_bookings_lines_weekdays), ("unicode/utf8.first", laid_unicode_utf8_first)], narrowed := true }
def DatesUptoSaid : Prop := datesUptoRow.holds Tryz.pinned (OpenSpec.upto datesSpec)

/-- 'bookingslaw.Bookings', WHERE WHAT IT READS IS OF BULK AT MOST 1048576: true; the input reads as it did. -/
def bookingsUptoRow : OpenClaim := { program := "ytfigmlfdnickmaagreatdoor", sum := "db940450c638d8cfe44ce746ab6e18cc3057b3bc8eef010c81c8d464b3f9cb2d", func := "bookings/bookingslaw.Bookings", spec := "bookings", inPlace := ["internal/bytealg.IndexByteString", "internal/bytealg.IndexString", "internal/bytealg.CountString", "internal/abi.NoEscape", "internal/bytealg.MakeNoZero"], unfollowed := true, recurses := true, named := ["bookings/calendar.monthDays", "internal/bytealg.MaxLen", "unicode/utf8.first", "unicode/utf8.acceptRanges", "bookings/lines.weekdays", "strconv.ErrSyntax", "strconv.ErrRange", "internal/strconv.uint64pow10", "math/bits.deBruijn32tab", "math/bits.deBruijn64tab"], apart := false, laid := [("bookings/calendar.monthDays", laid_bookings_calendar_monthDays), ("math/bits.deBruijn32tab", laid_math_bits_deBruijn32tab), ("math/bits.deBruijn64tab", laid_math_bits_deBruijn64tab), ("internal/strconv.uint64pow10", laid_internal_strconv_uint64pow10), ("unicode/utf8.acceptRanges", laid_unicode_utf8_acceptRanges), ("strconv.ErrRange", laid_strconv_ErrRange), ("strconv.ErrSyntax", laid_strconv_ErrSyntax), ("bookings/lines.weekdays", laid_bookings_lines_weekdays), ("unicode/utf8.first", laid_unicode_utf8_first)], narrowed := true }
def BookingsUptoSaid : Prop := bookingsUptoRow.holds Tryz.pinned (OpenSpec.upto bookingsSpec)

/-- 'bookingskeep.Within', WHERE WHAT IT READS IS OF BULK AT MOST 1048576: true; the input reads as it did. -/
def withinUptoRow : OpenClaim := { program := "ytfigmlfdnickmaagreatdoor", sum := "db940450c638d8cfe44ce746ab6e18cc3057b3bc8eef010c81c8d464b3f9cb2d", func := "bookings/bookingskeep.Within", spec := "within", inPlace := ["internal/bytealg.IndexByteString", "internal/bytealg.IndexString", "internal/bytealg.CountString"], unfollowed := true, recurses := true, named := ["internal/strconv.uint64pow10", "math/bits.deBruijn32tab", "math/bits.deBruijn64tab", "internal/bytealg.MaxLen", "bookings/calendar.monthDays", "unicode/utf8.first", "unicode/utf8.acceptRanges", "bookings/lines.weekdays"], apart := false, laid := [("bookings/calendar.monthDays", laid_bookings_calendar_monthDays), ("math/bits.deBruijn32tab", laid_math_bits_deBruijn32tab), ("math/bits.deBruijn64tab", laid_math_bits_deBruijn64tab), ("internal/strconv.uint64pow10", laid_internal_strconv_uint64pow10), ("unicode/utf8.acceptRanges", laid_unicode_utf8_acceptRanges), ("bookings/lines.weekdays", laid_bookings_lines_weekdays), ("unicode/utf8.first", laid_unicode_utf8_first)], narrowed := true }
def WithinUptoSaid : Prop := withinUptoRow.holds Tryz.pinned (OpenSpec.upto withinSpec)

/-- 'bookingslaw.Series', WHERE WHAT IT READS IS OF BULK AT MOST 1048576: true; the input reads as it did. -/
def seriesUptoRow : OpenClaim := { program := "ytfigmlfdnickmaagreatdoor", sum := "db940450c638d8cfe44ce746ab6e18cc3057b3bc8eef010c81c8d464b3f9cb2d", func := "bookings/bookingslaw.Series", spec := "series", inPlace := ["internal/bytealg.IndexByteString", "internal/bytealg.IndexString", "internal/bytealg.CountString", "internal/abi.NoEscape", "internal/bytealg.MakeNoZero"], unfollowed := true, recurses := true, named := ["bookings/calendar.monthDays", "internal/bytealg.MaxLen", "unicode/utf8.first", "unicode/utf8.acceptRanges", "bookings/lines.weekdays", "strconv.ErrSyntax", "strconv.ErrRange", "internal/strconv.uint64pow10", "math/bits.deBruijn32tab", "math/bits.deBruijn64tab"], apart := false, laid := [("bookings/calendar.monthDays", laid_bookings_calendar_monthDays), ("math/bits.deBruijn32tab", laid_math_bits_deBruijn32tab), ("math/bits.deBruijn64tab", laid_math_bits_deBruijn64tab), ("internal/strconv.uint64pow10", laid_internal_strconv_uint64pow10), ("unicode/utf8.acceptRanges", laid_unicode_utf8_acceptRanges), ("strconv.ErrRange", laid_strconv_ErrRange), ("strconv.ErrSyntax", laid_strconv_ErrSyntax), ("bookings/lines.weekdays", laid_bookings_lines_weekdays), ("unicode/utf8.first", laid_unicode_utf8_first)], narrowed := true }
def SeriesUptoSaid : Prop := seriesUptoRow.holds Tryz.pinned (OpenSpec.upto seriesSpec)

/-- 'bookingskeep.Whole', WHERE WHAT IT READS IS OF BULK AT MOST 1048576: true; the input reads as it did. -/
def wholeUptoRow : OpenClaim := { program := "ytfigmlfdnickmaagreatdoor", sum := "db940450c638d8cfe44ce746ab6e18cc3057b3bc8eef010c81c8d464b3f9cb2d", func := "bookings/bookingskeep.Whole", spec := "whole", inPlace := ["internal/bytealg.IndexByteString", "internal/bytealg.IndexString", "internal/bytealg.CountString"], unfollowed := true, recurses := true, named := ["internal/strconv.uint64pow10", "math/bits.deBruijn32tab", "math/bits.deBruijn64tab", "internal/bytealg.MaxLen", "bookings/calendar.monthDays", "unicode/utf8.first", "unicode/utf8.acceptRanges", "bookings/lines.weekdays"], apart := false, laid := [("bookings/calendar.monthDays", laid_bookings_calendar_monthDays), ("math/bits.deBruijn32tab", laid_math_bits_deBruijn32tab), ("math/bits.deBruijn64tab", laid_math_bits_deBruijn64tab), ("internal/strconv.uint64pow10", laid_internal_strconv_uint64pow10), ("unicode/utf8.acceptRanges", laid_unicode_utf8_acceptRanges), ("bookings/lines.weekdays", laid_bookings_lines_weekdays), ("unicode/utf8.first", laid_unicode_utf8_first)], narrowed := true }
def WholeUptoSaid : Prop := wholeUptoRow.holds Tryz.pinned (OpenSpec.upto wholeSpec)

/-- 'bookingslaw.Ends', WHERE WHAT IT READS IS OF BULK AT MOST 1048576: true; the input reads as it did. -/
def endsUptoRow : OpenClaim := { program := "ytfigmlfdnickmaagreatdoor", sum := "db940450c638d8cfe44ce746ab6e18cc3057b3bc8eef010c81c8d464b3f9cb2d", func := "bookings/bookingslaw.Ends", spec := "ends", inPlace := ["internal/bytealg.IndexByteString", "internal/bytealg.IndexString", "internal/bytealg.CountString", "internal/abi.NoEscape", "internal/bytealg.MakeNoZero"], unfollowed := true, recurses := true, named := ["bookings/calendar.monthDays", "internal/bytealg.MaxLen", "unicode/utf8.first", "unicode/utf8.acceptRanges", "bookings/lines.weekdays", "strconv.ErrSyntax", "strconv.ErrRange", "internal/strconv.uint64pow10", "math/bits.deBruijn32tab", "math/bits.deBruijn64tab"], apart := false, laid := [("bookings/calendar.monthDays", laid_bookings_calendar_monthDays), ("math/bits.deBruijn32tab", laid_math_bits_deBruijn32tab), ("math/bits.deBruijn64tab", laid_math_bits_deBruijn64tab), ("internal/strconv.uint64pow10", laid_internal_strconv_uint64pow10), ("unicode/utf8.acceptRanges", laid_unicode_utf8_acceptRanges), ("strconv.ErrRange", laid_strconv_ErrRange), ("strconv.ErrSyntax", laid_strconv_ErrSyntax), ("bookings/lines.weekdays", laid_bookings_lines_weekdays), ("unicode/utf8.first", laid_unicode_utf8_first)], narrowed := true }
def EndsUptoSaid : Prop := endsUptoRow.holds Tryz.pinned (OpenSpec.upto endsSpec)

/-- 'bookingskeep.Nobody', WHERE WHAT IT READS IS OF BULK AT MOST 1048576: true; the input reads as it did. -/
def nobodyUptoRow : OpenClaim := { program := "ytfigmlfdnickmaagreatdoor", sum := "db940450c638d8cfe44ce746ab6e18cc3057b3bc8eef010c81c8d464b3f9cb2d", func := "bookings/bookingskeep.Nobody", spec := "nobody", inPlace := ["internal/bytealg.IndexByteString", "internal/bytealg.IndexString", "internal/bytealg.CountString"], unfollowed := true, recurses := true, named := ["internal/strconv.uint64pow10", "math/bits.deBruijn32tab", "math/bits.deBruijn64tab", "internal/bytealg.MaxLen", "bookings/calendar.monthDays", "unicode/utf8.first", "unicode/utf8.acceptRanges", "bookings/lines.weekdays"], apart := false, laid := [("bookings/calendar.monthDays", laid_bookings_calendar_monthDays), ("math/bits.deBruijn32tab", laid_math_bits_deBruijn32tab), ("math/bits.deBruijn64tab", laid_math_bits_deBruijn64tab), ("internal/strconv.uint64pow10", laid_internal_strconv_uint64pow10), ("unicode/utf8.acceptRanges", laid_unicode_utf8_acceptRanges), ("bookings/lines.weekdays", laid_bookings_lines_weekdays), ("unicode/utf8.first", laid_unicode_utf8_first)], narrowed := true }
def NobodyUptoSaid : Prop := nobodyUptoRow.holds Tryz.pinned (OpenSpec.upto nobodySpec)

/-- 'bookingskeep.Queue', WHERE WHAT IT READS IS OF BULK AT MOST 1048576: true; the input reads as it did. -/
def queueUptoRow : OpenClaim := { program := "ytfigmlfdnickmaagreatdoor", sum := "db940450c638d8cfe44ce746ab6e18cc3057b3bc8eef010c81c8d464b3f9cb2d", func := "bookings/bookingskeep.Queue", spec := "queue", inPlace := ["internal/bytealg.IndexByteString", "internal/bytealg.IndexString", "internal/bytealg.CountString"], unfollowed := true, recurses := true, named := ["internal/strconv.uint64pow10", "math/bits.deBruijn32tab", "math/bits.deBruijn64tab", "internal/bytealg.MaxLen", "bookings/calendar.monthDays", "unicode/utf8.first", "unicode/utf8.acceptRanges", "bookings/lines.weekdays"], apart := false, laid := [("bookings/calendar.monthDays", laid_bookings_calendar_monthDays), ("math/bits.deBruijn32tab", laid_math_bits_deBruijn32tab), ("math/bits.deBruijn64tab", laid_math_bits_deBruijn64tab), ("internal/strconv.uint64pow10", laid_internal_strconv_uint64pow10), ("unicode/utf8.acceptRanges", laid_unicode_utf8_acceptRanges), ("bookings/lines.weekdays", laid_bookings_lines_weekdays), ("unicode/utf8.first", laid_unicode_utf8_first)], narrowed := true }
def QueueUptoSaid : Prop := queueUptoRow.holds Tryz.pinned (OpenSpec.upto queueSpec)

/-- 'bookingskeep.Again', WHERE WHAT IT READS IS OF BULK AT MOST 1048576: true; the input reads as it did. -/
def againUptoRow : OpenClaim := { program := "ytfigmlfdnickmaagreatdoor", sum := "db940450c638d8cfe44ce746ab6e18cc3057b3bc8eef010c81c8d464b3f9cb2d", func := "bookings/bookingskeep.Again", spec := "again", inPlace := ["internal/bytealg.IndexByteString", "internal/bytealg.IndexString", "internal/bytealg.CountString", "internal/abi.NoEscape", "internal/bytealg.MakeNoZero"], unfollowed := true, recurses := true, named := ["internal/strconv.uint64pow10", "math/bits.deBruijn32tab", "math/bits.deBruijn64tab", "internal/bytealg.MaxLen", "bookings/calendar.monthDays", "unicode/utf8.first", "unicode/utf8.acceptRanges", "bookings/lines.weekdays"], apart := false, laid := [("bookings/calendar.monthDays", laid_bookings_calendar_monthDays), ("math/bits.deBruijn32tab", laid_math_bits_deBruijn32tab), ("math/bits.deBruijn64tab", laid_math_bits_deBruijn64tab), ("internal/strconv.uint64pow10", laid_internal_strconv_uint64pow10), ("unicode/utf8.acceptRanges", laid_unicode_utf8_acceptRanges), ("bookings/lines.weekdays", laid_bookings_lines_weekdays), ("unicode/utf8.first", laid_unicode_utf8_first)], narrowed := true }
def AgainUptoSaid : Prop := againUptoRow.holds Tryz.pinned (OpenSpec.upto againSpec)

/-- 'bookingskeep.Firm', WHERE WHAT IT READS IS OF BULK AT MOST 1048576: true; the input reads as it did. -/
def firmUptoRow : OpenClaim := { program := "ytfigmlfdnickmaagreatdoor", sum := "db940450c638d8cfe44ce746ab6e18cc3057b3bc8eef010c81c8d464b3f9cb2d", func := "bookings/bookingskeep.Firm", spec := "firm", inPlace := ["internal/bytealg.IndexByteString", "internal/bytealg.IndexString", "internal/bytealg.CountString"], unfollowed := true, recurses := true, named := ["internal/strconv.uint64pow10", "math/bits.deBruijn32tab", "math/bits.deBruijn64tab", "internal/bytealg.MaxLen", "bookings/calendar.monthDays", "unicode/utf8.first", "unicode/utf8.acceptRanges", "bookings/lines.weekdays"], apart := false, laid := [("bookings/calendar.monthDays", laid_bookings_calendar_monthDays), ("math/bits.deBruijn32tab", laid_math_bits_deBruijn32tab), ("math/bits.deBruijn64tab", laid_math_bits_deBruijn64tab), ("internal/strconv.uint64pow10", laid_internal_strconv_uint64pow10), ("unicode/utf8.acceptRanges", laid_unicode_utf8_acceptRanges), ("bookings/lines.weekdays", laid_bookings_lines_weekdays), ("unicode/utf8.first", laid_unicode_utf8_first)], narrowed := true }
def FirmUptoSaid : Prop := firmUptoRow.holds Tryz.pinned (OpenSpec.upto firmSpec)

/-- 'bookingskeep.Apart', WHERE WHAT IT READS IS OF BULK AT MOST 1048576: true; the input reads as it did. -/
def apartUptoRow : OpenClaim := { program := "ytfigmlfdnickmaagreatdoor", sum := "db940450c638d8cfe44ce746ab6e18cc3057b3bc8eef010c81c8d464b3f9cb2d", func := "bookings/bookingskeep.Apart", spec := "apart", inPlace := ["internal/bytealg.IndexByteString", "internal/bytealg.IndexString", "internal/bytealg.CountString"], unfollowed := true, recurses := true, named := ["internal/strconv.uint64pow10", "math/bits.deBruijn32tab", "math/bits.deBruijn64tab", "internal/bytealg.MaxLen", "bookings/calendar.monthDays", "unicode/utf8.first", "unicode/utf8.acceptRanges", "bookings/lines.weekdays"], apart := false, laid := [("bookings/calendar.monthDays", laid_bookings_calendar_monthDays), ("math/bits.deBruijn32tab", laid_math_bits_deBruijn32tab), ("math/bits.deBruijn64tab", laid_math_bits_deBruijn64tab), ("internal/strconv.uint64pow10", laid_internal_strconv_uint64pow10), ("unicode/utf8.acceptRanges", laid_unicode_utf8_acceptRanges), ("bookings/lines.weekdays", laid_bookings_lines_weekdays), ("unicode/utf8.first", laid_unicode_utf8_first)], narrowed := true }
def ApartUptoSaid : Prop := apartUptoRow.holds Tryz.pinned (OpenSpec.upto apartSpec)

/-- 'bookingslaw.All', WHERE WHAT IT READS IS OF BULK AT MOST 1048576: true; the input reads as it did. -/
def allUptoRow : OpenClaim := { program := "ytfigmlfdnickmaagreatdoor", sum := "db940450c638d8cfe44ce746ab6e18cc3057b3bc8eef010c81c8d464b3f9cb2d", func := "bookings/bookingslaw.All", spec := "all", inPlace := ["internal/bytealg.IndexByteString", "internal/bytealg.IndexString", "internal/bytealg.CountString", "internal/abi.NoEscape", "internal/bytealg.MakeNoZero"], unfollowed := true, recurses := true, named := ["bookings/calendar.monthDays", "internal/bytealg.MaxLen", "unicode/utf8.first", "unicode/utf8.acceptRanges", "bookings/lines.weekdays", "strconv.ErrSyntax", "strconv.ErrRange", "internal/strconv.uint64pow10", "math/bits.deBruijn32tab", "math/bits.deBruijn64tab"], apart := false, laid := [("bookings/calendar.monthDays", laid_bookings_calendar_monthDays), ("math/bits.deBruijn32tab", laid_math_bits_deBruijn32tab), ("math/bits.deBruijn64tab", laid_math_bits_deBruijn64tab), ("internal/strconv.uint64pow10", laid_internal_strconv_uint64pow10), ("unicode/utf8.acceptRanges", laid_unicode_utf8_acceptRanges), ("strconv.ErrRange", laid_strconv_ErrRange), ("strconv.ErrSyntax", laid_strconv_ErrSyntax), ("bookings/lines.weekdays", laid_bookings_lines_weekdays), ("unicode/utf8.first", laid_unicode_utf8_first)], narrowed := true }
def AllUptoSaid : Prop := allUptoRow.holds Tryz.pinned (OpenSpec.upto allSpec)

end Rows
end Go.Proofs.YtfigmlfdnickmaaGreatDoor
