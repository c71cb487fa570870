/-
  What the cards of Dates and Lines share: the script opened, the table of the months out of the row's list.
-/
import Derived.Test.YtjfkfiffakbagaaGreatDoorPlaysDates
import Derived.Test.YtjfkfiffakbagaaGreatDoorLaid
import Derived.Test.YtjfkfiffakbagaaGreatDoorCards
import Derived.Test.YtjfkfiffakbagaaGreatDoorTie
import Derived.ProofKit
import Derived.OpenShut
import Derived.Deep.Slices
import Derived.Deep.DeepHandedRow
import Derived.Deep.DeepWitnessRowRef
import Derived.Lib.LaidTab
namespace Go.Proofs.YtjfkfiffakbagaaGreatDoor.datesLaw
open Go.ChangeShapes Go.WideShapes Go.ChangeAt Go.RowKit

theorem own : ownKnob Tryz.prog.godebug = none := by kernel_rfl
theorem laidOut : laidOutB Tryz.prog = true := by kernel_rfl
def tabName : String := Rows.datesRow.named.getD 0 Rows.datesRow.func
theorem gTab : Tryz.prog.globalNamed tabName = some 0 := by kernel_rfl
theorem gTabType : (Tryz.prog.globals[0]?).map (·.type) = some 199 := by kernel_rfl
theorem cellsTab : Tryz.prog.cellsOf 199 = 12 := by kernel_rfl
theorem cellsInt : Tryz.prog.cellsOf 3 = 1 := by kernel_rfl
theorem cellsStr : Tryz.prog.cellsOf 9 = 1 := by kernel_rfl
theorem cellsOp : Tryz.prog.cellsOf 87 = 6 := by kernel_rfl

/-- What the row's list gives: the table's cells hold its twelve numbers. -/
theorem table {W : World} (h : laidMetH Tryz.prog Rows.datesRow.laid W) : Lib.TabIs Tryz.prog W tabName .i64 [31, 28, 31, 30, 31, 30, 31, 31, 30, 31, 30, 31] :=
  Lib.tabIs_of_head gTab gTabType Tryz.underlying199 Tryz.underlying3 cellsInt cellsTab h
theorem tab {W : World} (h : laidMetH Tryz.prog Rows.datesRow.laid W) : Tab W :=
  ⟨(table h).cell gTab 0 (by decide), (table h).cell gTab 1 (by decide), (table h).cell gTab 2 (by decide), (table h).cell gTab 3 (by decide), (table h).cell gTab 4 (by decide), (table h).cell gTab 5 (by decide), (table h).cell gTab 6 (by decide), (table h).cell gTab 7 (by decide), (table h).cell gTab 8 (by decide), (table h).cell gTab 9 (by decide), (table h).cell gTab 10 (by decide), (table h).cell gTab 11 (by decide)⟩

theorem six {α : Type} {l : List α} (h : l.length = 6) : ∃ a b c d e f, l = [a, b, c, d, e, f] := by
  match l, h with
  | [a, b, c, d, e, f], _ => exact ⟨a, b, c, d, e, f, rfl⟩

/-- One element of the script, opened. -/
theorem op_at {H : Type} {enc : TypeId × Value → H} {W : World} {base : Nat} {spare : Nat → Bool} {held : Bool} {n b off : Nat} {cs : List Value} {x : DataW H × List MemPlace} (k : Nat)
    (hc : W.cells? base (Addr.add ⟨b, off, none⟩ (k * 6)) 6 = some cs) (h : DataW.trod enc Tryz.prog W base spare held n 87 cs = some x) : OpAt W b (off + k * 6) := by
  obtain ⟨xs, n', _, _, hlen, hxl, hf⟩ := DataW.trod_struct Tryz.underlying87 h
  rw [cellsOp] at hlen
  obtain ⟨c0, c1, c2, c3, c4, c5, rfl⟩ := six hlen
  obtain ⟨x0, x1, x2, x3, x4, x5, rfl⟩ := six (show xs.length = 6 from hxl)
  have f0 := hf 0 _ rfl
  have f1 := hf 1 _ rfl
  have f2 := hf 2 _ rfl
  have f3 := hf 3 _ rfl
  have f4 := hf 4 _ rfl
  have f5 := hf 5 _ rfl
  simp only [List.getElem_toArray, List.getElem_cons_zero, List.getElem_cons_succ, cellsInt, cellsStr, List.drop, List.take, List.getElem?_cons_zero, List.getElem?_cons_succ] at f0 f1 f2 f3 f4 f5
  obtain ⟨i0, e0, _, _⟩ := DataW.trod_int Tryz.underlying3 f0
  obtain ⟨i1, e1, _, _⟩ := DataW.trod_int Tryz.underlying3 f1
  obtain ⟨i2, e2, _, _⟩ := DataW.trod_int Tryz.underlying3 f2
  obtain ⟨i3, e3, _, _⟩ := DataW.trod_int Tryz.underlying3 f3
  obtain ⟨i4, e4, _, w4⟩ := DataW.trod_int Tryz.underlying3 f4
  obtain ⟨i5, e5, _, _⟩ := DataW.trod_string Tryz.underlying9 f5
  simp only [List.cons.injEq, and_true] at e0 e1 e2 e3 e4 e5
  subst e0 e1 e2 e3 e4 e5
  obtain ⟨_, _, hcs⟩ := World.cells?_some hc
  have g0 := hcs 0 (by decide)
  have g1 := hcs 1 (by decide)
  have g2 := hcs 2 (by decide)
  have g3 := hcs 3 (by decide)
  have g4 := hcs 4 (by decide)
  have g5 := hcs 5 (by decide)
  have bd := bounds_i64 w4
  have ad : ∀ j, Addr.add (Addr.add ⟨b, off, none⟩ (k * 6)) j = ⟨b, off + k * 6 + j, none⟩ := fun j => by rw [Deep.add_add, Addr.add]; simp [Nat.add_assoc]
  simp only [ad, List.getElem?_cons_zero, List.getElem?_cons_succ] at g0 g1 g2 g3 g4 g5
  exact ⟨i0, i1, i2, i3, i4, i5, g0, g1, g2, g3, g4, g5, bd.1, bd.2⟩

end Go.Proofs.YtjfkfiffakbagaaGreatDoor.datesLaw
