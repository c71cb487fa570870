/-
  Parts of the proof, one behind the other: PlaysDates, Laid, CardKit, EnvLaid.
-/
import Derived.Test.YtjfkfiffakbagaaGreatDoorL31
import Derived.Test.YtjfkfiffakbagaaGreatDoorRows
import Derived.Test.YtjfkfiffakbagaaGreatDoorCards
import Derived.Test.YtjfkfiffakbagaaGreatDoorTie
import Derived.WalkKit
import Derived.ProofKit
import Derived.Deep.DeepWitnessRowRef
import Derived.LaidLaws
import Derived.OpenShut
import Derived.Deep.Slices
import Derived.Deep.DeepHandedRow
import Derived.Lib.LaidTab
import Derived.Lib.LaidU8
import Derived.Shelf.Vars
/-
  The walk over the law's plays at the kinds 1 and 2 alone (Dates): every step answers true, the book stays empty.
-/
namespace Go.Proofs.YtjfkfiffakbagaaGreatDoor
open Go.RowKit

/-- A step of a script lies at a place: its six fields. -/
def OpAt (w : World) (b o : Nat) : Prop :=
  ∃ (k a y m d : Int) (s : ByteArray), w.cell? ⟨b, o, none⟩ = some (.int .i64 k) ∧ w.cell? ⟨b, o + 1, none⟩ = some (.int .i64 a) ∧ w.cell? ⟨b, o + 2, none⟩ = some (.int .i64 y) ∧ w.cell? ⟨b, o + 3, none⟩ = some (.int .i64 m) ∧ w.cell? ⟨b, o + 4, none⟩ = some (.int .i64 d) ∧ w.cell? ⟨b, o + 5, none⟩ = some (.string s) ∧ -9223372036854775808 ≤ d ∧ d ≤ 9223372036854775807

theorem OpAt.later {w wx : World} {b o : Nat} (h : OpAt w b o) (hb : Below w.heap.size w wx) : OpAt wx b o := by
  obtain ⟨k, a, y, m, d, s, c0, c1, c2, c3, c4, c5, hd⟩ := h
  exact ⟨k, a, y, m, d, s, cell_later hb c0, cell_later hb c1, cell_later hb c2, cell_later hb c3, cell_later hb c4, cell_later hb c5, hd⟩

end Go.Proofs.YtjfkfiffakbagaaGreatDoor


/-
  A world that holds what the program's text lays in the listed package variables: for the witnesses alone.
-/
namespace Go.Proofs.YtjfkfiffakbagaaGreatDoor.Laid

def val : DataW Unit → Value
  | .lit (.int k n) => .int k n
  | .lit (.string b) => .string ⟨b.toArray⟩
  | _ => .bool false
def row : DataW Unit → List Value
  | .agg l => l.map val
  | _ => []
def rows : DataW Unit → List Value
  | .agg l => l.flatMap row
  | _ => []
def text : DataW Unit → Value
  | .iface _ (.ptr (.agg [d])) => val d
  | _ => .bool false
def put (l : List Value) : Obj → Obj
  | .cells _ t frozen => .cells l.toArray t frozen
  | o => o
/-- The listed variables, laid into a world; the two errors lie in two blocks behind all others. -/
def tabs (w : World) : World :=
  { w with heap := (((((((((w.heap.modify 0 (put (row Rows.laid_bookings_calendar_monthDays))).modify 1 (put (row Rows.laid_internal_strconv_uint64pow10))).modify 5 (put [.iface 365 (.pointer (some ⟨w.heap.size, 0, none⟩))])).modify 6 (put [.iface 365 (.pointer (some ⟨w.heap.size + 1, 0, none⟩))])).modify 2 (put (row Rows.laid_bookings_lines_weekdays))).modify 3 (put (row Rows.laid_math_bits_deBruijn32tab))).modify 4 (put (row Rows.laid_math_bits_deBruijn64tab))).modify 8 (put (row Rows.laid_unicode_utf8_first))).modify 9 (put (rows Rows.laid_unicode_utf8_acceptRanges))).push (.cells #[text Rows.laid_strconv_ErrSyntax] 367) |>.push (.cells #[text Rows.laid_strconv_ErrRange] 367) }

set_option maxRecDepth 100000 in
theorem met (os : Os) : laidMet Tryz.prog Rows.datesRow.laid ((tabs (World.holding Tryz.prog os ⟨#[], #[], []⟩)).forCall (fun _ _ => 0) ⟨#[], #[.slice none 0 0], []⟩).memory :=
  laidMet_of_run' 8 (by kernel_rfl) (by kernel_rfl)

end Go.Proofs.YtjfkfiffakbagaaGreatDoor.Laid


/-
  What the cards of Dates and Lines share: the script opened, the table of the months out of the row's list.
-/
namespace Go.Proofs.YtjfkfiffakbagaaGreatDoor.datesLaw
open Go.ChangeShapes Go.WideShapes Go.ChangeAt Go.RowKit

theorem own : ownKnob Tryz.prog.godebug = none := by kernel_rfl
theorem laidOut : laidOutB Tryz.prog = true := by kernel_rfl
def tabName : String := Rows.datesRow.named.getD 0 Rows.datesRow.func
theorem gTab : Tryz.prog.globalNamed tabName = some 0 := by kernel_rfl
theorem gTabType : (Tryz.prog.globals[0]?).map (·.type) = some 199 := by kernel_rfl
theorem cellsTab : Tryz.prog.cellsOf 199 = 12 := by kernel_rfl
theorem cellsInt : Tryz.prog.cellsOf 3 = 1 := by kernel_rfl
theorem cellsStr : Tryz.prog.cellsOf 9 = 1 := by kernel_rfl
/-- What the row's list gives: the table's cells hold its twelve numbers. -/
theorem table {W : World} (h : laidMetH Tryz.prog Rows.datesRow.laid W) : Lib.TabIs Tryz.prog W tabName .i64 [31, 28, 31, 30, 31, 30, 31, 31, 30, 31, 30, 31] :=
  Lib.tabIs_of_head gTab gTabType Tryz.underlying199 Tryz.underlying3 cellsInt cellsTab h
theorem tab {W : World} (h : laidMetH Tryz.prog Rows.datesRow.laid W) : Tab W :=
  ⟨(table h).cell gTab 0 (by decide), (table h).cell gTab 1 (by decide), (table h).cell gTab 2 (by decide), (table h).cell gTab 3 (by decide), (table h).cell gTab 4 (by decide), (table h).cell gTab 5 (by decide), (table h).cell gTab 6 (by decide), (table h).cell gTab 7 (by decide), (table h).cell gTab 8 (by decide), (table h).cell gTab 9 (by decide), (table h).cell gTab 10 (by decide), (table h).cell gTab 11 (by decide)⟩

end Go.Proofs.YtjfkfiffakbagaaGreatDoor.datesLaw


/-
  What a row's list of package variables gives: the tables that the program reads.
-/
namespace Go.Proofs.YtjfkfiffakbagaaGreatDoor.EnvLaid
open Go.ChangeShapes Go.WideShapes Go.ChangeAt Go.RowKit

/-- A listed table of integers, wherever it stands on the list. -/
theorem tab_reads {P : Program} {W : World} {name : String} {k : IntKind} {zs : List Int} {g : Nat} {t e : TypeId} {n : Nat}
    (hg : P.globalNamed name = some g) (hty : (P.globals[g]?).map (·.type) = some t) (ht : P.underlying t = some (.array n e)) (he : P.underlying e = some (.int k)) (hce : P.cellsOf e = 1) (hct : P.cellsOf t = n)
    (h : Lib.VarReads P W name (Lib.tabData k zs)) : Lib.TabIs P W name k zs := by
  obtain ⟨g', t', cs, fuel, p, hg', ht', hvar, hd⟩ := h
  obtain rfl := Option.some.inj (hg.symm.trans hg')
  obtain rfl := Option.some.inj (hty.symm.trans ht')
  unfold Lib.TabIs
  rw [hvar, ← Lib.cells_of_tab ht he hce hct hd]
/-- A listed table of strings: what its cells hold. -/
theorem strs_read {P : Program} {W : World} {name : String} {zs : List (List UInt8)} {g : Nat} {t e : TypeId} {n : Nat}
    (hg : P.globalNamed name = some g) (hty : (P.globals[g]?).map (·.type) = some t) (ht : P.underlying t = some (.array n e)) (he : P.underlying e = some .string) (hce : P.cellsOf e = 1)
    (h : Lib.VarReads P W name (.agg (zs.map fun z => .lit (.string z)))) (i : Nat) (z : List UInt8) (hz : zs[i]? = some z) : W.cell? ⟨g, i, none⟩ = some (.string ⟨z.toArray⟩) := by
  obtain ⟨g', t', cs, fuel, p, hg', ht', hvar, hd⟩ := h
  obtain rfl := Option.some.inj (hg.symm.trans hg')
  obtain rfl := Option.some.inj (hty.symm.trans ht')
  obtain ⟨xs, m, _, hx, _, hxl, hall⟩ := DataW.trod_array ht hd
  have hx1 : zs.map (fun z => (DataW.lit (.string z) : DataW Unit)) = xs.map (·.1) := by
    have := congrArg Prod.fst hx
    simpa using this
  have hlen : zs.length = xs.length := by
    have := congrArg List.length hx1
    simpa using this
  have hi : i < zs.length := (List.getElem?_eq_some_iff.1 hz).1
  have hxi : xs[i]? = some xs[i] := List.getElem?_eq_getElem (by omega)
  have hti := hall i (by omega)
  rw [hxi, hce] at hti
  obtain ⟨s, hs1, hs2, _⟩ := DataW.trod_string he hti
  have h1 : (xs.map (·.1))[i]? = some (DataW.lit (.string z) : DataW Unit) := by rw [← hx1]; simp [hz]
  have h2 : (xs.map (·.1))[i]? = some (DataW.lit (.string s.data.toList) : DataW Unit) := by simp [hxi, hs2]
  have h3 : z = s.data.toList := by
    have := h1.symm.trans h2
    simpa using this
  have h4 : cs[i]? = some (.string s) := by
    have := congrArg (·[0]?) hs1
    simpa [List.getElem?_take, List.getElem?_drop] using this
  rw [World.var?_cell hg hvar i, h4, h3]

theorem gPowType : (Tryz.prog.globals[1]?).map (·.type) = some 299 := by kernel_rfl
theorem cellsPow : Tryz.prog.cellsOf 299 = 20 := by kernel_rfl
theorem cellsU64 : Tryz.prog.cellsOf 252 = 1 := by kernel_rfl
theorem gDays : Tryz.prog.globalNamed "bookings/lines.weekdays" = some 2 := by kernel_rfl
theorem gDaysType : (Tryz.prog.globals[2]?).map (·.type) = some 345 := by kernel_rfl

theorem gMon : Tryz.prog.globalNamed "bookings/calendar.monthDays" = some 0 := by kernel_rfl
theorem gMonType : (Tryz.prog.globals[0]?).map (·.type) = some 199 := by kernel_rfl
theorem cellsMon : Tryz.prog.cellsOf 199 = 12 := by kernel_rfl
theorem cellsI : Tryz.prog.cellsOf 3 = 1 := by kernel_rfl
theorem cellsStr : Tryz.prog.cellsOf 9 = 1 := by kernel_rfl
/-- What a row's list of package variables gives. -/
theorem envOf {W : World} {l : List (String × DataW Unit)} (hM : laidMet Tryz.prog l W) (hS : W.ShapedOpen Tryz.prog) (m1 : ("bookings/calendar.monthDays", Rows.laid_bookings_calendar_monthDays) ∈ l) (m2 : ("internal/strconv.uint64pow10", Rows.laid_internal_strconv_uint64pow10) ∈ l) (m3 : ("bookings/lines.weekdays", Rows.laid_bookings_lines_weekdays) ∈ l) : Env W := by
  have ht : Lib.VarReads Tryz.prog W "bookings/calendar.monthDays" (Lib.tabData .i64 [31, 28, 31, 30, 31, 30, 31, 31, 30, 31, 30, 31]) := Lib.laidMet.reads hM (d := Rows.laid_bookings_calendar_monthDays) m1
  have hp : Lib.VarReads Tryz.prog W "internal/strconv.uint64pow10" (Lib.tabData .u64 Lib.pow10Tab) := Lib.laidMet.reads hM (d := Rows.laid_internal_strconv_uint64pow10) m2
  have hd : Lib.VarReads Tryz.prog W "bookings/lines.weekdays" (.agg ([[109, 111], [116, 117], [119, 101], [116, 104], [102, 114], [115, 97], [115, 117]].map fun z => .lit (.string z))) := Lib.laidMet.reads hM (d := Rows.laid_bookings_lines_weekdays) m3
  have day := fun i z hz => strs_read gDays gDaysType Tryz.underlying345 Tryz.underlying9 cellsStr hd i z hz
  have tb := tab_reads gMon gMonType Tryz.underlying199 Tryz.underlying3 cellsI cellsMon ht
  have hsz : 10 ≤ W.heap.size := by
    have h0 : (((begin Tryz.prog (fun _ _ => 0) default).world.heap[9]?).bind Obj.row?).isSome = true := by kernel_rfl
    obtain ⟨⟨zero, t⟩, h1⟩ := Option.isSome_iff_exists.1 h0
    obtain ⟨cs, hh, _⟩ := hS.1 9 zero t (of_decide_eq_true (by kernel_rfl)) h1
    exact (Array.getElem?_eq_some_iff.1 hh).1
  exact ⟨⟨tb.cell gMon 0 (by decide), tb.cell gMon 1 (by decide), tb.cell gMon 2 (by decide), tb.cell gMon 3 (by decide), tb.cell gMon 4 (by decide), tb.cell gMon 5 (by decide), tb.cell gMon 6 (by decide), tb.cell gMon 7 (by decide), tb.cell gMon 8 (by decide), tb.cell gMon 9 (by decide), tb.cell gMon 10 (by decide), tb.cell gMon 11 (by decide)⟩, cell_of_shapedOpen_int (zero := #[.int .i64 0]) (t := 3) hS (of_decide_eq_true (by kernel_rfl)) (by kernel_rfl) rfl (by kernel_rfl) (by kernel_rfl) Tryz.underlying3,
    tab_reads gPow gPowType Tryz.underlying299 Tryz.underlying252 cellsU64 cellsPow hp, hsz,
    day 0 _ rfl, day 1 _ rfl, day 2 _ rfl, day 3 _ rfl, day 4 _ rfl, day 5 _ rfl, day 6 _ rfl⟩

end Go.Proofs.YtjfkfiffakbagaaGreatDoor.EnvLaid

