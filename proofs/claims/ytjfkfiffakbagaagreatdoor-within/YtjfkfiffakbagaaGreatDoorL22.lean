/-
  Parts of the proof, one behind the other: DeskSer, DeskSeries, DeskAnswer4, DeskAnswer5, SpMeet, SpIter, DeskListM.
-/
import Derived.Test.YtjfkfiffakbagaaGreatDoorL21
import Derived.RangeFuncKeeps
import Derived.RangeFuncBound
import Derived.RangeFuncLeaves
import Derived.Shelf.Abstract
import Derived.Shelf.RegionOpen
import Derived.OwnWalkIn
import Derived.TacticsInMore
import Derived.Deep.CutRange
import Derived.Deep.RegionWith
import Derived.Deep.RegionHeld3
/-
  Package desk: series.
-/
namespace Go.Proofs.YtjfkfiffakbagaaGreatDoor
open Go.RowKit
open Desk (Ent St Ids kept booked bookE sumA Items ofB sameB Risen Mid EntOk endsB Inv)

theorem does_series_ask {s : St} {name : ByteArray} {u : Int} {q : Rd.Rule} (h : Desk.askedN s.ts name u ≠ 0) : Desk.doesD s (.series name u q) = (s, Desk.Rep.error (Desk.askedN s.ts name u)) := by
  have e : Desk.seriesErr s name u q = Desk.askedN s.ts name u := by unfold Desk.seriesErr; rw [if_pos h]
  simp only [Desk.doesD]; rw [e, if_pos h]
theorem does_series_err {s : St} {name : ByteArray} {u : Int} {q : Rd.Rule} (hf : Rd.Fine q) (h : Desk.askedN s.ts name u = 0) (h2 : Rd.progErr q ≠ 0) : Desk.doesD s (.series name u q) = (s, Desk.Rep.error (Rd.progErr q)) := by
  have e1 := (Rd.err_same hf).1
  have e : Desk.seriesErr s name u q = Rd.progErr q := by unfold Desk.seriesErr; rw [if_neg (by omega), ← e1, if_pos h2]
  simp only [Desk.doesD]; rw [e, if_pos h2]
theorem does_series {s : St} {name : ByteArray} {u : Int} {q : Rd.Rule} (hf : Rd.Fine q) (h : Desk.askedN s.ts name u = 0) (h2 : Rd.progErr q = 0) : Desk.doesD s (.series name u q) = enterD s ⟨0, 1, name, u, (daysOf q).map (spanD q), 0⟩ := by
  obtain ⟨e1, e2⟩ := Rd.err_same hf
  have e3 := (e2 (by rw [← e1]; exact h2)).1
  have e4 : (daysOf q).map (spanD q) = Rd.spansOf q (Rd.docDays q) := by unfold daysOf; rw [if_pos h2, e3]; rfl
  simp only [Desk.doesD]
  unfold Desk.seriesErr enterD
  rw [if_neg (c := Desk.askedN s.ts name u ≠ 0) (by omega), ← e1, if_neg (c := Rd.progErr q ≠ 0) (by omega), e4]
  by_cases h3 : s.given = 60
  · simp [h3]
  · cases Desk.fitsN s.ts s.es name u (Rd.spansOf q (Rd.docDays q)) <;> simp [h3]
theorem flatSp_at {L : List (Int × Int)} : ∀ (i : Nat) (h : i < L.length), (L.flatMap spV)[i * 2]? = some (.int .i64 L[i].1) ∧ (L.flatMap spV)[i * 2 + 1]? = some (.int .i64 L[i].2) := by
  induction L with
  | nil => intro i h; simp at h
  | cons a L ih =>
    intro i h
    cases i with
    | zero => exact ⟨rfl, rfl⟩
    | succ i =>
      obtain ⟨h1, h2⟩ := ih i (by simpa using h)
      have e : (a :: L).flatMap spV = [.int .i64 a.1, .int .i64 a.2] ++ L.flatMap spV := rfl
      rw [e, show (i + 1) * 2 = 2 + i * 2 from by omega, show 2 + i * 2 + 1 = 2 + (i * 2 + 1) from by omega]
      constructor
      · rw [List.getElem?_append_right (by simp)]; simpa using h1
      · rw [List.getElem?_append_right (by simp)]; simpa using h2
/-- A new entry whose spans lie in a row of their own. -/
theorem DSt.asksR {w w3 : World} {d : Nat} {s : St} {r : Raw} {col : Nat → Option Col} (h : DSt w d s r col) (kb : Below w.heap.size w w3) {name : ByteArray} {u : Int} {L : List (Int × Int)} {i g n cap B B0 : Nat} (hi : i < r.tg.length) (hname : r.tg[i].name = name) (row : w3.ownsRow B0 60 2 (.slice (some ⟨g, 0, none⟩) n cap) n (L.flatMap spV)) (hn : n = L.length) (hB0 : B ≤ B0) (hB : w.heap.size ≤ B) (ok : EntOk s.now ⟨0, 1, name, u, L, 0⟩) :
    Asks (w3.alloc (.cells #[.int .i64 0, .int .i64 1, .pointer (some ⟨r.tg[i].tb, 0, none⟩), .int .i64 u, .slice (some ⟨g, 0, none⟩) n cap, .int .i64 0] 194)) B d s r col ⟨⟨0, 1, name, u, L, 0⟩, w3.heap.size, g, cap, r.tg[i].tb⟩ i := by
  have kz : Below w3.heap.size w3 (w3.alloc (.cells #[.int .i64 0, .int .i64 1, .pointer (some ⟨r.tg[i].tb, 0, none⟩), .int .i64 u, .slice (some ⟨g, 0, none⟩) n cap, .int .i64 0] 194)) := (Below.refl _ _).alloc (Nat.le_refl _) _
  have d1 := h.dk.later kb
  have eb := heapNew w3 (.cells #[.int .i64 0, .int .i64 1, .pointer (some ⟨r.tg[i].tb, 0, none⟩), .int .i64 u, .slice (some ⟨g, 0, none⟩) n cap, .int .i64 0] 194)
  have gl := row.lt g rfl
  have hs : (w3.alloc (.cells #[.int .i64 0, .int .i64 1, .pointer (some ⟨r.tg[i].tb, 0, none⟩), .int .i64 u, .slice (some ⟨g, 0, none⟩) n cap, .int .i64 0] 194)).heap.size = w3.heap.size + 1 := by simp
  have row2 := ownLater row kz
  generalize w3.alloc (.cells #[.int .i64 0, .int .i64 1, .pointer (some ⟨r.tg[i].tb, 0, none⟩), .int .i64 u, .slice (some ⟨g, 0, none⟩) n cap, .int .i64 0] 194) = Z at *
  refine ⟨⟨d1.later kz, h.of, h.wl, h.hl, h.inv⟩, ⟨⟨?_, ?_, ?_, ?_, fun j hj => ?_, ?_⟩, ?_, ?_, fun o => frozen_of_row _ _ _ _ _ eb, ⟨_, eb⟩⟩, d1.none (Nat.le_refl _), h.dk.none (by show w.heap.size ≤ g; omega), (by show B ≤ w3.heap.size; omega), (by show B ≤ g; omega), (by show w3.heap.size ≠ g; omega), (by omega), hi, hname, rfl, ok⟩
  · show Z.cell? ⟨w3.heap.size, 0, none⟩ = _
    simp only [World.cell?, eb]; rfl
  · show Z.cell? ⟨w3.heap.size, 2, none⟩ = _
    simp only [World.cell?, eb]; rfl
  · show Z.cell? ⟨w3.heap.size, 3, none⟩ = _
    simp only [World.cell?, eb]; rfl
  · show Z.cell? ⟨w3.heap.size, 4, none⟩ = some (.slice (some ⟨g, 0, none⟩) L.length cap)
    rw [← hn]; simp only [World.cell?, eb]; rfl
  · have hj' : j < L.length := hj
    obtain ⟨f1, f2⟩ := flatSp_at j hj'
    have c0 := row2.cellAt (j * 2) (by omega)
    have c1 := row2.cellAt (j * 2 + 1) (by omega)
    exact ⟨c0.trans f1, c1.trans f2⟩
  · show g < _
    omega
  · show Z.cell? ⟨w3.heap.size, 1, none⟩ = _
    simp only [World.cell?, eb]; rfl
  · show Z.cell? ⟨w3.heap.size, 5, none⟩ = _
    simp only [World.cell?, eb]; rfl

theorem ser_cells (w : World) (name : ByteArray) (u : Int) (q : Rd.Rule) : let X := ((w.alloc (.cells #[.string name, .int .i64 u, .int .i64 q.pc, .int .i64 q.ev, .bool (isd q.acc 0), .bool (isd q.acc 1), .bool (isd q.acc 2), .bool (isd q.acc 3), .bool (isd q.acc 4), .bool (isd q.acc 5), .bool (isd q.acc 6), .int .i64 q.fr, .int .i64 q.mn, .int .i64 q.mi, .int .i64 q.ti, .int .i64 q.un] 159)).alloc zeroR); Below w.heap.size w X ∧ X.heap[w.heap.size + 1]? = some zeroR ∧ X.heap.size = w.heap.size + 2 ∧ X.heap[w.heap.size]? = some (.cells #[.string name, .int .i64 u, .int .i64 q.pc, .int .i64 q.ev, .bool (isd q.acc 0), .bool (isd q.acc 1), .bool (isd q.acc 2), .bool (isd q.acc 3), .bool (isd q.acc 4), .bool (isd q.acc 5), .bool (isd q.acc 6), .int .i64 q.fr, .int .i64 q.mn, .int .i64 q.mi, .int .i64 q.ti, .int .i64 q.un] 159 (0, 0)) := by
  obtain ⟨h1, h2⟩ := two_more (w := w) (.cells #[.string name, .int .i64 u, .int .i64 q.pc, .int .i64 q.ev, .bool (isd q.acc 0), .bool (isd q.acc 1), .bool (isd q.acc 2), .bool (isd q.acc 3), .bool (isd q.acc 4), .bool (isd q.acc 5), .bool (isd q.acc 6), .int .i64 q.fr, .int .i64 q.mn, .int .i64 q.mi, .int .i64 q.ti, .int .i64 q.un] 159)
  exact ⟨h1, h2, by simp, (Below.heap_alloc _ _ _ (by simp)).trans (heapNew w _)⟩
theorem ser_c0 {w : World} {b : Nat} {name : ByteArray} {u : Int} {q : Rd.Rule} (h : w.heap[b]? = some (.cells #[.string name, .int .i64 u, .int .i64 q.pc, .int .i64 q.ev, .bool (isd q.acc 0), .bool (isd q.acc 1), .bool (isd q.acc 2), .bool (isd q.acc 3), .bool (isd q.acc 4), .bool (isd q.acc 5), .bool (isd q.acc 6), .int .i64 q.fr, .int .i64 q.mn, .int .i64 q.mi, .int .i64 q.ti, .int .i64 q.un] 159 (0, 0))) : w.cell? ⟨b, 0, none⟩ = some (.string name) := by simp only [World.cell?, h]; rfl
theorem ser_c1 {w : World} {b : Nat} {name : ByteArray} {u : Int} {q : Rd.Rule} (h : w.heap[b]? = some (.cells #[.string name, .int .i64 u, .int .i64 q.pc, .int .i64 q.ev, .bool (isd q.acc 0), .bool (isd q.acc 1), .bool (isd q.acc 2), .bool (isd q.acc 3), .bool (isd q.acc 4), .bool (isd q.acc 5), .bool (isd q.acc 6), .int .i64 q.fr, .int .i64 q.mn, .int .i64 q.mi, .int .i64 q.ti, .int .i64 q.un] 159 (0, 0))) : w.cell? ⟨b, 1, none⟩ = some (.int .i64 u) := by simp only [World.cell?, h]; rfl
theorem ser_c2 {w : World} {b : Nat} {name : ByteArray} {u : Int} {q : Rd.Rule} (h : w.heap[b]? = some (.cells #[.string name, .int .i64 u, .int .i64 q.pc, .int .i64 q.ev, .bool (isd q.acc 0), .bool (isd q.acc 1), .bool (isd q.acc 2), .bool (isd q.acc 3), .bool (isd q.acc 4), .bool (isd q.acc 5), .bool (isd q.acc 6), .int .i64 q.fr, .int .i64 q.mn, .int .i64 q.mi, .int .i64 q.ti, .int .i64 q.un] 159 (0, 0))) : w.cell? ⟨b, 2, none⟩ = some (.int .i64 q.pc) := by simp only [World.cell?, h]; rfl
theorem ser_c3 {w : World} {b : Nat} {name : ByteArray} {u : Int} {q : Rd.Rule} (h : w.heap[b]? = some (.cells #[.string name, .int .i64 u, .int .i64 q.pc, .int .i64 q.ev, .bool (isd q.acc 0), .bool (isd q.acc 1), .bool (isd q.acc 2), .bool (isd q.acc 3), .bool (isd q.acc 4), .bool (isd q.acc 5), .bool (isd q.acc 6), .int .i64 q.fr, .int .i64 q.mn, .int .i64 q.mi, .int .i64 q.ti, .int .i64 q.un] 159 (0, 0))) : w.cell? ⟨b, 3, none⟩ = some (.int .i64 q.ev) := by simp only [World.cell?, h]; rfl
theorem ser_c4 {w : World} {b : Nat} {name : ByteArray} {u : Int} {q : Rd.Rule} (h : w.heap[b]? = some (.cells #[.string name, .int .i64 u, .int .i64 q.pc, .int .i64 q.ev, .bool (isd q.acc 0), .bool (isd q.acc 1), .bool (isd q.acc 2), .bool (isd q.acc 3), .bool (isd q.acc 4), .bool (isd q.acc 5), .bool (isd q.acc 6), .int .i64 q.fr, .int .i64 q.mn, .int .i64 q.mi, .int .i64 q.ti, .int .i64 q.un] 159 (0, 0))) : w.cell? ⟨b, 4, none⟩ = some (.bool (isd q.acc 0)) := by simp only [World.cell?, h]; rfl
theorem ser_c5 {w : World} {b : Nat} {name : ByteArray} {u : Int} {q : Rd.Rule} (h : w.heap[b]? = some (.cells #[.string name, .int .i64 u, .int .i64 q.pc, .int .i64 q.ev, .bool (isd q.acc 0), .bool (isd q.acc 1), .bool (isd q.acc 2), .bool (isd q.acc 3), .bool (isd q.acc 4), .bool (isd q.acc 5), .bool (isd q.acc 6), .int .i64 q.fr, .int .i64 q.mn, .int .i64 q.mi, .int .i64 q.ti, .int .i64 q.un] 159 (0, 0))) : w.cell? ⟨b, 5, none⟩ = some (.bool (isd q.acc 1)) := by simp only [World.cell?, h]; rfl
theorem ser_c6 {w : World} {b : Nat} {name : ByteArray} {u : Int} {q : Rd.Rule} (h : w.heap[b]? = some (.cells #[.string name, .int .i64 u, .int .i64 q.pc, .int .i64 q.ev, .bool (isd q.acc 0), .bool (isd q.acc 1), .bool (isd q.acc 2), .bool (isd q.acc 3), .bool (isd q.acc 4), .bool (isd q.acc 5), .bool (isd q.acc 6), .int .i64 q.fr, .int .i64 q.mn, .int .i64 q.mi, .int .i64 q.ti, .int .i64 q.un] 159 (0, 0))) : w.cell? ⟨b, 6, none⟩ = some (.bool (isd q.acc 2)) := by simp only [World.cell?, h]; rfl
theorem ser_c7 {w : World} {b : Nat} {name : ByteArray} {u : Int} {q : Rd.Rule} (h : w.heap[b]? = some (.cells #[.string name, .int .i64 u, .int .i64 q.pc, .int .i64 q.ev, .bool (isd q.acc 0), .bool (isd q.acc 1), .bool (isd q.acc 2), .bool (isd q.acc 3), .bool (isd q.acc 4), .bool (isd q.acc 5), .bool (isd q.acc 6), .int .i64 q.fr, .int .i64 q.mn, .int .i64 q.mi, .int .i64 q.ti, .int .i64 q.un] 159 (0, 0))) : w.cell? ⟨b, 7, none⟩ = some (.bool (isd q.acc 3)) := by simp only [World.cell?, h]; rfl
theorem ser_c8 {w : World} {b : Nat} {name : ByteArray} {u : Int} {q : Rd.Rule} (h : w.heap[b]? = some (.cells #[.string name, .int .i64 u, .int .i64 q.pc, .int .i64 q.ev, .bool (isd q.acc 0), .bool (isd q.acc 1), .bool (isd q.acc 2), .bool (isd q.acc 3), .bool (isd q.acc 4), .bool (isd q.acc 5), .bool (isd q.acc 6), .int .i64 q.fr, .int .i64 q.mn, .int .i64 q.mi, .int .i64 q.ti, .int .i64 q.un] 159 (0, 0))) : w.cell? ⟨b, 8, none⟩ = some (.bool (isd q.acc 4)) := by simp only [World.cell?, h]; rfl
theorem ser_c9 {w : World} {b : Nat} {name : ByteArray} {u : Int} {q : Rd.Rule} (h : w.heap[b]? = some (.cells #[.string name, .int .i64 u, .int .i64 q.pc, .int .i64 q.ev, .bool (isd q.acc 0), .bool (isd q.acc 1), .bool (isd q.acc 2), .bool (isd q.acc 3), .bool (isd q.acc 4), .bool (isd q.acc 5), .bool (isd q.acc 6), .int .i64 q.fr, .int .i64 q.mn, .int .i64 q.mi, .int .i64 q.ti, .int .i64 q.un] 159 (0, 0))) : w.cell? ⟨b, 9, none⟩ = some (.bool (isd q.acc 5)) := by simp only [World.cell?, h]; rfl
theorem ser_c10 {w : World} {b : Nat} {name : ByteArray} {u : Int} {q : Rd.Rule} (h : w.heap[b]? = some (.cells #[.string name, .int .i64 u, .int .i64 q.pc, .int .i64 q.ev, .bool (isd q.acc 0), .bool (isd q.acc 1), .bool (isd q.acc 2), .bool (isd q.acc 3), .bool (isd q.acc 4), .bool (isd q.acc 5), .bool (isd q.acc 6), .int .i64 q.fr, .int .i64 q.mn, .int .i64 q.mi, .int .i64 q.ti, .int .i64 q.un] 159 (0, 0))) : w.cell? ⟨b, 10, none⟩ = some (.bool (isd q.acc 6)) := by simp only [World.cell?, h]; rfl
theorem ser_c11 {w : World} {b : Nat} {name : ByteArray} {u : Int} {q : Rd.Rule} (h : w.heap[b]? = some (.cells #[.string name, .int .i64 u, .int .i64 q.pc, .int .i64 q.ev, .bool (isd q.acc 0), .bool (isd q.acc 1), .bool (isd q.acc 2), .bool (isd q.acc 3), .bool (isd q.acc 4), .bool (isd q.acc 5), .bool (isd q.acc 6), .int .i64 q.fr, .int .i64 q.mn, .int .i64 q.mi, .int .i64 q.ti, .int .i64 q.un] 159 (0, 0))) : w.cell? ⟨b, 11, none⟩ = some (.int .i64 q.fr) := by simp only [World.cell?, h]; rfl
theorem ser_c12 {w : World} {b : Nat} {name : ByteArray} {u : Int} {q : Rd.Rule} (h : w.heap[b]? = some (.cells #[.string name, .int .i64 u, .int .i64 q.pc, .int .i64 q.ev, .bool (isd q.acc 0), .bool (isd q.acc 1), .bool (isd q.acc 2), .bool (isd q.acc 3), .bool (isd q.acc 4), .bool (isd q.acc 5), .bool (isd q.acc 6), .int .i64 q.fr, .int .i64 q.mn, .int .i64 q.mi, .int .i64 q.ti, .int .i64 q.un] 159 (0, 0))) : w.cell? ⟨b, 12, none⟩ = some (.int .i64 q.mn) := by simp only [World.cell?, h]; rfl
theorem ser_c13 {w : World} {b : Nat} {name : ByteArray} {u : Int} {q : Rd.Rule} (h : w.heap[b]? = some (.cells #[.string name, .int .i64 u, .int .i64 q.pc, .int .i64 q.ev, .bool (isd q.acc 0), .bool (isd q.acc 1), .bool (isd q.acc 2), .bool (isd q.acc 3), .bool (isd q.acc 4), .bool (isd q.acc 5), .bool (isd q.acc 6), .int .i64 q.fr, .int .i64 q.mn, .int .i64 q.mi, .int .i64 q.ti, .int .i64 q.un] 159 (0, 0))) : w.cell? ⟨b, 13, none⟩ = some (.int .i64 q.mi) := by simp only [World.cell?, h]; rfl
theorem ser_c14 {w : World} {b : Nat} {name : ByteArray} {u : Int} {q : Rd.Rule} (h : w.heap[b]? = some (.cells #[.string name, .int .i64 u, .int .i64 q.pc, .int .i64 q.ev, .bool (isd q.acc 0), .bool (isd q.acc 1), .bool (isd q.acc 2), .bool (isd q.acc 3), .bool (isd q.acc 4), .bool (isd q.acc 5), .bool (isd q.acc 6), .int .i64 q.fr, .int .i64 q.mn, .int .i64 q.mi, .int .i64 q.ti, .int .i64 q.un] 159 (0, 0))) : w.cell? ⟨b, 14, none⟩ = some (.int .i64 q.ti) := by simp only [World.cell?, h]; rfl
theorem ser_c15 {w : World} {b : Nat} {name : ByteArray} {u : Int} {q : Rd.Rule} (h : w.heap[b]? = some (.cells #[.string name, .int .i64 u, .int .i64 q.pc, .int .i64 q.ev, .bool (isd q.acc 0), .bool (isd q.acc 1), .bool (isd q.acc 2), .bool (isd q.acc 3), .bool (isd q.acc 4), .bool (isd q.acc 5), .bool (isd q.acc 6), .int .i64 q.fr, .int .i64 q.mn, .int .i64 q.mi, .int .i64 q.ti, .int .i64 q.un] 159 (0, 0))) : w.cell? ⟨b, 15, none⟩ = some (.int .i64 q.un) := by simp only [World.cell?, h]; rfl

end Go.Proofs.YtjfkfiffakbagaaGreatDoor


/-
  Package desk: series, the walk.
-/
namespace Go.Proofs.YtjfkfiffakbagaaGreatDoor
open Go.RowKit
open Desk (Ent St Ids kept booked bookE sumA Items ofB sameB Risen Mid EntOk endsB Inv)

theorem entSpans (args : Array Value) (w : World) : (callFunc 145 args).run Tryz.prog w = .ok (.enter 145 args) w := by kernel_rfl
theorem entEnter (args : Array Value) (w : World) : (callFunc 141 args).run Tryz.prog w = .ok (.enter 141 args) w := by kernel_rfl

set_option maxRecDepth 100000 in
set_option maxHeartbeats 4000000 in
theorem series_any {w : World} {d : Nat} {s : St} {r : Raw} {col : Nat → Option Col} (h : DSt w d s r col) (ht : Tab w) (h10 : 10 ≤ w.heap.size) (name : ByteArray) (hn : name.size ≤ 1000) (u : Int) (q : Rd.Rule) (hl : Desk.LineOk (.series name u q)) :
    Calls Tryz.prog 95 #[.pointer (some ⟨d, 0, none⟩), .agg #[.string name, .int .i64 u, .int .i64 q.pc, .int .i64 q.ev, .bool (isd q.acc 0), .bool (isd q.acc 1), .bool (isd q.acc 2), .bool (isd q.acc 3), .bool (isd q.acc 4), .bool (isd q.acc 5), .bool (isd q.acc 6), .int .i64 q.fr, .int .i64 q.mn, .int .i64 q.mi, .int .i64 q.ti, .int .i64 q.un]] w fun e w' => ∃ v, e = .returned v ∧ AnsPost w d col (Desk.doesD s (.series name u q)) v w' := by
  obtain ⟨hX, hXQ, hsz, hXb⟩ := ser_cells w name u q
  obtain ⟨hu1, hu9, hf⟩ := hl
  have HV := hidp (having_any (h.dk.later hX) h.of h.mid name hn u)
  have DY := hidp (Days_any q hf ((w.alloc (.cells #[.string name, .int .i64 u, .int .i64 q.pc, .int .i64 q.ev, .bool (isd q.acc 0), .bool (isd q.acc 1), .bool (isd q.acc 2), .bool (isd q.acc 3), .bool (isd q.acc 4), .bool (isd q.acc 5), .bool (isd q.acc 6), .int .i64 q.fr, .int .i64 q.mn, .int .i64 q.mi, .int .i64 q.ti, .int .i64 q.un] 159)).alloc zeroR) (tabLater ht hX h10) (by rw [hsz]; omega))
  have HH := hidp h
  have HX := hidp (And.intro hX (And.intro hXQ hsz))
  have HA := hidp (does_series_ask (s := s) (name := name) (u := u) (q := q))
  have HE := hidp (does_series_err (s := s) (name := name) (u := u) hf)
  have HO := hidp (does_series (s := s) (name := name) (u := u) hf)
  have HFI := hidp hf
  have x0 := ser_c0 hXb
  have x1 := ser_c1 hXb
  have x2 := ser_c2 hXb
  have x3 := ser_c3 hXb
  have x4 := ser_c4 hXb
  have x5 := ser_c5 hXb
  have x6 := ser_c6 hXb
  have x7 := ser_c7 hXb
  have x8 := ser_c8 hXb
  have x9 := ser_c9 hXb
  have x10 := ser_c10 hXb
  have x11 := ser_c11 hXb
  have x12 := ser_c12 hXb
  have x13 := ser_c13 hXb
  have x14 := ser_c14 hXb
  have x15 := ser_c15 hXb
  unfold ruleVR at DY
  clear h hX hXQ hsz hXb hf ht
  go_enter Tryz.func95, Tryz.ntmps95
  go_upto_region 1 with fail
  change Code.wp _ _ _ _ ((w.alloc (.cells #[.string name, .int .i64 u, .int .i64 q.pc, .int .i64 q.ev, .bool (isd q.acc 0), .bool (isd q.acc 1), .bool (isd q.acc 2), .bool (isd q.acc 3), .bool (isd q.acc 4), .bool (isd q.acc 5), .bool (isd q.acc 6), .int .i64 q.fr, .int .i64 q.mn, .int .i64 q.mi, .int .i64 q.ti, .int .i64 q.un] 159)).alloc zeroR)
  generalize ((w.alloc (.cells #[.string name, .int .i64 u, .int .i64 q.pc, .int .i64 q.ev, .bool (isd q.acc 0), .bool (isd q.acc 1), .bool (isd q.acc 2), .bool (isd q.acc 3), .bool (isd q.acc 4), .bool (isd q.acc 5), .bool (isd q.acc 6), .int .i64 q.fr, .int .i64 q.mn, .int .i64 q.mi, .int .i64 q.ti, .int .i64 q.un] 159)).alloc zeroR) = X at *
  have BX : Hid (Below w.heap.size w X) := HX.out.1
  have QX : Hid (Q7 X (w.heap.size + 1)) := Q7.of HX.out.2.1
  go_wp2_with fail
  refine HV.out.mono ?_
  rintro e w1 ⟨hp, rfl⟩
  rcases hp with ⟨h1, rfl⟩ | ⟨h1, i, hi, e1, e2, rfl⟩
  · have HD := hidp (HA.out h1)
    generalize Desk.askedN s.ts name u = er at *
    have hb1 : (er != 0) = true := by simpa using h1
    clear h1 HV HX DY HE HO HA x0 x1 x2 x3 x4 x5 x6 x7 x8 x9 x10 x11 x12 x13 x14 x15
    go_wp2_with fail
    refine (refused_any er w1).mono ?_
    rintro e w9 ⟨rfl, hb9⟩
    have hq := hb9.block (w.heap.size + 1) (World.block_lt_of_cell? _ _ QX.out.q0)
    have HF : Hid (AnsPost w d col (Desk.doesD s (.series name u q)) (repV er 0 0 (.slice none 0 0) (.slice none 0 0) (.slice none 0 0) (.slice none 0 0)) (set7 w9 (w.heap.size + 1) (.int .i64 er) (.int .i64 0) (.int .i64 0) (.slice none 0 0) (.slice none 0 0) (.slice none 0 0) (.slice none 0 0))) := by
      rw [HD.out]; exact HH.out.said (BX.out.trans (hb9.mono BX.out.size)) (by omega) er 0 _ _ _ _ _ _ _
    obtain ⟨q0, q1, q2, q3, q4, q5, q6, fq⟩ := QX.out.later hq
    simp only [repV]
    go_wp2_with fail
    exact bodyPost_ret (v := repV er 0 0 (.slice none 0 0) (.slice none 0 0) (.slice none 0 0) (.slice none 0 0)) (by simp [results, Tryz.results95, go_sem, repV, q0, q1, q2, q3, q4, q5, q6]) rfl ⟨_, rfl, HF.out⟩
  · go_wp2_with fail
    refine DY.out.mono ?_
    rintro e w2 ⟨da, rfl, own, hb2⟩
    have BX2 : Hid (Below w.heap.size w w2) := BX.out.trans (hb2.mono BX.out.size)
    have QX2 : Hid (Q7 w2 (w.heap.size + 1)) := QX.out.later (hb2.block _ (World.block_lt_of_cell? _ _ QX.out.q0))
    obtain ⟨a1, cap1, rfl⟩ := ownSl own
    by_cases he : Rd.progErr q = 0
    · have HD := hidp (HO.out h1 he)
      have hb1 : (Rd.progErr q != 0) = false := by simpa using he
      obtain ⟨es1, es2⟩ := Rd.err_same HFI.out
      have edn := es2 (by rw [← es1]; exact he)
      have edd : daysOf q = Rd.docDays q := by unfold daysOf; rw [if_pos he, edn.1]
      have OK : Hid (EntOk s.now ⟨0, 1, name, u, (daysOf q).map (spanD q), 0⟩) := by
        obtain ⟨p1, p2, p3, p4⟩ := Desk.Rd.spans_ok HFI.out (by rw [← es1]; exact he)
        have e4 : (daysOf q).map (spanD q) = Rd.spansOf q (Rd.docDays q) := by rw [edd]; rfl
        show EntOk _ _
        rw [e4]
        exact ⟨hu1, hu9, p4, p3, p1, p2, .inl ⟨rfl, rfl⟩⟩
      have hpos : 0 < (daysOf q).length := List.length_pos_iff.2 (by rw [edd]; exact edn.2.1)
      have h40 : (daysOf q).length ≤ 40 := by rw [edd]; exact edn.2.2.1
      have SP := hidp (Spans_any q HFI.out (daysOf q) (fun d hd => by rw [edd] at hd; have := Rd.docDays_mem HFI.out hd; have := HFI.out.f0; omega) (by omega) (.slice a1 (daysOf q).length cap1) w1.heap.size w2.drew (ownDrew own))
      have hsz2 : w.heap.size + 2 ≤ w2.drew.heap.size := by have := hb2.size; have := HX.out.2.2; show w.heap.size + 2 ≤ w2.heap.size; omega
      have AS := hidp (fun (w3 : World) (g cap : Nat) (hb3 : Below w2.drew.heap.size w2.drew w3) (row : w3.ownsRow w2.drew.heap.size 60 2 (.slice (some ⟨g, 0, none⟩) (daysOf q).length cap) (daysOf q).length (((daysOf q).map (spanD q)).flatMap spV)) =>
        enter_any (HH.out.asksR (BX2.out.drew.trans (hb3.mono BX2.out.size)) (B := w.heap.size + 2) hi e1 row (by simp) hsz2 (by omega) OK.out))
      have AP := hidp (fun (w3 w4 : World) (g cap : Nat) (v : Value) (hb3 : Below w2.drew.heap.size w2.drew w3) (ep : EnterPost (w3.alloc (.cells #[.int .i64 0, .int .i64 1, .pointer (some ⟨r.tg[i].tb, 0, none⟩), .int .i64 u, .slice (some ⟨g, 0, none⟩) (daysOf q).length cap, .int .i64 0] 194)) (w.heap.size + 2) d col (enterD s ⟨0, 1, name, u, (daysOf q).map (spanD q), 0⟩) v w4) =>
        ep.ans (w := w) (Q := w.heap.size + 1) (Step.below ((BX2.out.drew.trans (hb3.mono BX2.out.size)).trans (((Below.refl w3.heap.size w3).alloc (Nat.le_refl _) _).mono (BX2.out.drew.trans (hb3.mono BX2.out.size)).size))) (by omega) (by omega) (by omega) (HH.out.dk.none (by omega)) ((QX2.out.later (w' := w2.drew) rfl).later (((Below.heap_alloc w3 _ _ (Nat.lt_of_lt_of_le (World.block_lt_of_cell? _ _ QX2.out.q0) hb3.size))).trans (hb3.block _ (World.block_lt_of_cell? _ _ QX2.out.q0)))))
      have y1 := cellLater hb2 x1
      have y2 := cellLater hb2 x2
      have y3 := cellLater hb2 x3
      have y4 := cellLater hb2 x4
      have y5 := cellLater hb2 x5
      have y6 := cellLater hb2 x6
      have y7 := cellLater hb2 x7
      have y8 := cellLater hb2 x8
      have y9 := cellLater hb2 x9
      have y10 := cellLater hb2 x10
      have y11 := cellLater hb2 x11
      have y12 := cellLater hb2 x12
      have y13 := cellLater hb2 x13
      have y14 := cellLater hb2 x14
      have y15 := cellLater hb2 x15
      unfold ruleVR at SP
      clear HV DY HE HO HA HX own hb2 edn edd es1 es2 OK h1 x0 x1 x2 x3 x4 x5 x6 x7 x8 x9 x10 x11 x12 x13 x14 x15 BX QX
      generalize Rd.progErr q = er at *
      subst he
      go_upto_region 7 with fail
      go_region_law (first
        | (refine step_call (by rfl) 145 _ _ (by rfl) _ (by simp [Act.eval]) (entSpans _ _) SP.out ?_; rintro e w3 ⟨v', rfl, row, hb3⟩; refine ⟨_, rfl, ?_⟩; obtain ⟨g, cap, rfl⟩ := Joins.ownsRow_form row hpos; have z1 := cellLater hb3 y1; have EN := hidp (AS.out w3 g cap hb3 row); have AQ := hidp (fun w4 v ep => AP.out w3 w4 g cap v hb3 ep); clear SP AS AP row)
        | (refine step_call (by rfl) 141 _ _ (by rfl) _ (by simp [Act.eval]) (entEnter _ _) EN.out ?_; rintro e w4 ⟨v, rfl, ep⟩; refine ⟨_, rfl, ?_⟩; obtain ⟨er, nn, rfl, q7, hf⟩ := AQ.out w4 v ep; have HF : Hid (AnsPost w d col (Desk.doesD s (.series name u q)) (repV er 0 nn (.slice none 0 0) (.slice none 0 0) (.slice none 0 0) (.slice none 0 0)) (set7 w4 (w.heap.size + 1) (.int .i64 er) (.int .i64 0) (.int .i64 nn) (.slice none 0 0) (.slice none 0 0) (.slice none 0 0) (.slice none 0 0))) := (by rw [HD.out]; exact hf _ _ _ _ _ _ _); obtain ⟨q0, q1, q2, q3, q4, q5, q6, fq⟩ := q7; clear ep hf EN AQ; simp only [repV]))
      all_goals
        go_wp2_with fail
        exact bodyPost_ret (v := repV er 0 nn (.slice none 0 0) (.slice none 0 0) (.slice none 0 0) (.slice none 0 0)) (by simp [results, Tryz.results95, go_sem, repV, q0, q1, q2, q3, q4, q5, q6]) rfl ⟨_, rfl, HF.out⟩
    · have HD := hidp (HE.out h1 he)
      generalize Rd.progErr q = er at *
      have hb1 : (er != 0) = true := by simpa using he
      clear h1 HV HX DY HE HO HA x0 x1 x2 x3 x4 x5 x6 x7 x8 x9 x10 x11 x12 x13 x14 x15 own hb2 he
      go_wp2_with fail
      refine (refused_any er w2).mono ?_
      rintro e w9 ⟨rfl, hb9⟩
      have hq := hb9.block (w.heap.size + 1) (World.block_lt_of_cell? _ _ QX2.out.q0)
      have HF : Hid (AnsPost w d col (Desk.doesD s (.series name u q)) (repV er 0 0 (.slice none 0 0) (.slice none 0 0) (.slice none 0 0) (.slice none 0 0)) (set7 w9 (w.heap.size + 1) (.int .i64 er) (.int .i64 0) (.int .i64 0) (.slice none 0 0) (.slice none 0 0) (.slice none 0 0) (.slice none 0 0))) := by
        rw [HD.out]; exact HH.out.said (BX2.out.trans (hb9.mono BX2.out.size)) (by omega) er 0 _ _ _ _ _ _ _
      obtain ⟨q0, q1, q2, q3, q4, q5, q6, fq⟩ := QX2.out.later hq
      simp only [repV]
      go_wp2_with fail
      exact bodyPost_ret (v := repV er 0 0 (.slice none 0 0) (.slice none 0 0) (.slice none 0 0) (.slice none 0 0)) (by simp [results, Tryz.results95, go_sem, repV, q0, q1, q2, q3, q4, q5, q6]) rfl ⟨_, rfl, HF.out⟩

end Go.Proofs.YtjfkfiffakbagaaGreatDoor


/-
  Package desk: answer: series.
-/
namespace Go.Proofs.YtjfkfiffakbagaaGreatDoor
open Go.RowKit
open Desk (Ent St Ids kept booked bookE sumA Items ofB sameB Risen Mid EntOk endsB Inv)

set_option maxRecDepth 100000 in
set_option maxHeartbeats 4000000 in
theorem answer_series {w : World} {d : Nat} {s : St} {rw_ : Raw} {col : Nat → Option Col} (h : DSt w d s rw_ col) (ht : Tab w) (h10 : 10 ≤ w.heap.size) (name : ByteArray) (hn : name.size ≤ 1000) (u : Int) (r : Rd.Rule) (hl : Desk.LineOk (.series name u r)) :
    Calls Tryz.prog 62 #[.pointer (some ⟨d, 0, none⟩), .iface 159 (.agg #[.string name, .int .i64 u, .int .i64 r.pc, .int .i64 r.ev, .bool (isd r.acc 0), .bool (isd r.acc 1), .bool (isd r.acc 2), .bool (isd r.acc 3), .bool (isd r.acc 4), .bool (isd r.acc 5), .bool (isd r.acc 6), .int .i64 r.fr, .int .i64 r.mn, .int .i64 r.mi, .int .i64 r.ti, .int .i64 r.un])] w fun e w' => ∃ v, e = .returned v ∧ AnsPost w d col (Desk.doesD s (.series name u r)) v w' := by
  have hX : Below w.heap.size w ((w.alloc zeroR).alloc (.cells #[.string name, .int .i64 u, .int .i64 r.pc, .int .i64 r.ev, .bool (isd r.acc 0), .bool (isd r.acc 1), .bool (isd r.acc 2), .bool (isd r.acc 3), .bool (isd r.acc 4), .bool (isd r.acc 5), .bool (isd r.acc 6), .int .i64 r.fr, .int .i64 r.mn, .int .i64 r.mi, .int .i64 r.ti, .int .i64 r.un] 159)) := ((Below.refl _ _).alloc (Nat.le_refl _) _).alloc (by simp) _
  have hq : ((w.alloc zeroR).alloc (.cells #[.string name, .int .i64 u, .int .i64 r.pc, .int .i64 r.ev, .bool (isd r.acc 0), .bool (isd r.acc 1), .bool (isd r.acc 2), .bool (isd r.acc 3), .bool (isd r.acc 4), .bool (isd r.acc 5), .bool (isd r.acc 6), .int .i64 r.fr, .int .i64 r.mn, .int .i64 r.mi, .int .i64 r.ti, .int .i64 r.un] 159)).heap[w.heap.size]? = some zeroR := (Below.heap_alloc _ _ _ (by simp)).trans (heapNew w zeroR)
  have hs : w.heap.size < ((w.alloc zeroR).alloc (.cells #[.string name, .int .i64 u, .int .i64 r.pc, .int .i64 r.ev, .bool (isd r.acc 0), .bool (isd r.acc 1), .bool (isd r.acc 2), .bool (isd r.acc 3), .bool (isd r.acc 4), .bool (isd r.acc 5), .bool (isd r.acc 6), .int .i64 r.fr, .int .i64 r.mn, .int .i64 r.mi, .int .i64 r.ti, .int .i64 r.un] 159)).heap.size := by simp; omega
  have EF := hidp (series_any (w := ((w.alloc zeroR).alloc (.cells #[.string name, .int .i64 u, .int .i64 r.pc, .int .i64 r.ev, .bool (isd r.acc 0), .bool (isd r.acc 1), .bool (isd r.acc 2), .bool (isd r.acc 3), .bool (isd r.acc 4), .bool (isd r.acc 5), .bool (isd r.acc 6), .int .i64 r.fr, .int .i64 r.mn, .int .i64 r.mi, .int .i64 r.ti, .int .i64 r.un] 159))) ⟨h.dk.later hX, h.of, h.wl, h.hl, h.inv⟩ (tabLater ht hX h10) (Nat.le_trans h10 hX.size) name hn u r hl)
  have HX := hidp (And.intro hX (And.intro (Q7.of hq) (And.intro (h.dk.none (Nat.le_refl _)) hs)))
  clear h hX hq hs
  unfold zeroR at EF HX
  have noThing : ∀ (xT : TypeId) (v : Value) (w : World), (Instr.typeAssert (.iface 159 v) xT 143 true).run Tryz.prog w = .ok (.tuple #[.agg #[.string ⟨#[]⟩, .int .i64 0], .bool false]) w := by intro xT v w; simp [Instr.typeAssert, go_sem, Result.andThen, run_underlying Tryz.underlying143]
  have noBook : ∀ (xT : TypeId) (v : Value) (w : World), (Instr.typeAssert (.iface 159 v) xT 148 true).run Tryz.prog w = .ok (.tuple #[.agg #[.string ⟨#[]⟩, .int .i64 0, .int .i64 0, .int .i64 0], .bool false]) w := by intro xT v w; simp [Instr.typeAssert, go_sem, Result.andThen, run_underlying Tryz.underlying148]
  have noHold : ∀ (xT : TypeId) (v : Value) (w : World), (Instr.typeAssert (.iface 159 v) xT 150 true).run Tryz.prog w = .ok (.tuple #[.agg #[.string ⟨#[]⟩, .int .i64 0, .int .i64 0, .int .i64 0, .int .i64 0], .bool false]) w := by intro xT v w; simp [Instr.typeAssert, go_sem, Result.andThen, run_underlying Tryz.underlying150]
  have noWait : ∀ (xT : TypeId) (v : Value) (w : World), (Instr.typeAssert (.iface 159 v) xT 151 true).run Tryz.prog w = .ok (.tuple #[.agg #[.string ⟨#[]⟩, .int .i64 0, .int .i64 0, .int .i64 0, .int .i64 0], .bool false]) w := by intro xT v w; simp [Instr.typeAssert, go_sem, Result.andThen, run_underlying Tryz.underlying151]
  have yesSeries : ∀ (xT : TypeId) (v : Value) (w : World), (Instr.typeAssert (.iface 159 v) xT 159 true).run Tryz.prog w = .ok (.tuple #[v, .bool true]) w := by intro xT v w; simp [Instr.typeAssert, go_sem, Result.andThen, run_underlying Tryz.underlying159]
  go_enter Tryz.func62, Tryz.ntmps62
  go_wp2_with fail
  refine EF.out.mono ?_
  rintro e w2 ⟨v, rfl, ep⟩
  obtain ⟨er, at_, nn, a1, a2, a3, a4, n1, n2, n3, n4, c1, c2, c3, c4, rfl, q7, hf⟩ := ep.up HX.out.1 (Nat.le_refl _) HX.out.2.2.2 HX.out.2.2.1 HX.out.2.1
  have HF := hidp (hf (.int .i64 er) (.int .i64 at_) (.int .i64 nn) (.slice a1 n1 c1) (.slice a2 n2 c2) (.slice a3 n3 c3) (.slice a4 n4 c4))
  clear ep hf EF noThing noBook noHold noWait yesSeries
  obtain ⟨q0, q1, q2, q3, q4, q5, q6, fq⟩ := q7
  simp only [repV]
  go_wp2_with fail
  exact bodyPost_ret (v := repV er at_ nn (.slice a1 n1 c1) (.slice a2 n2 c2) (.slice a3 n3 c3) (.slice a4 n4 c4)) (by simp [results, Tryz.results62, go_sem, repV, q0, q1, q2, q3, q4, q5, q6]) rfl ⟨_, rfl, HF.out⟩

end Go.Proofs.YtjfkfiffakbagaaGreatDoor


/-
  Package desk: answer: waiting, clock.
-/
namespace Go.Proofs.YtjfkfiffakbagaaGreatDoor
open Go.RowKit
open Desk (Ent St Ids kept booked bookE sumA Items ofB sameB Risen Mid EntOk endsB Inv)

/-- An answer with entries has been put into its block. -/
theorem DSt.ansEntries {w Z : World} {d : Nat} {s : St} {r : Raw} {col : Nat → Option Col} (h : DSt w d s r col) (k : Below w.heap.size w Z) {Q : Nat} (hQ : w.heap.size ≤ Q) {l : List (Ent × Value)} {en : Value} (er : ERow Z (Q + 1) col en l) (a b c e f g i : Value) :
    AnsPost w d col (s, ⟨0, 0, 0, l.map (·.1), [], [], []⟩) (repV 0 0 0 en (.slice none 0 0) (.slice none 0 0) (.slice none 0 0)) (set7 Z Q a b c e f g i) := by
  have ko := set7_off Z Q a b c e f g i
  have dz := h.dk.later k
  have nq : ∀ b, Q ≤ b → col b = none := fun b hb => h.dk.none (by omega)
  have st : Step anyS w.heap.size col col Z (set7 Z Q a b c e f g i) := ⟨⟨_, ko, fun x hx => .inr (by have : x = Q := List.mem_singleton.1 hx; subst this; exact ⟨nq _ (Nat.le_refl _), hQ⟩)⟩, fun _ _ h => h, fun _ _ h => .inl h⟩
  have rp : RepIs Z (Q + 1) col (repV 0 0 0 en (.slice none 0 0) (.slice none 0 0) (.slice none 0 0)) ⟨0, 0, 0, l.map (·.1), [], [], []⟩ :=
    ⟨_, _, _, _, l, rfl, rfl, er, NRow.nil _ _ _, NRow.nil _ _ _, NRow.nil _ _ _, fun b hb => by cases hb⟩
  exact ⟨r, col, dz.off ko (fun x hx => by have : x = Q := List.mem_singleton.1 hx; subst this; exact nq _ (Nat.le_refl _)), h.of, h.wl, h.hl, (Step.below k).trans st, (rp.off ko (fun x hx => by have : x = Q := List.mem_singleton.1 hx; omega)).base (by omega)⟩
theorem waits_are {s : St} {r : Raw} (h : Of s r) : (r.eg.filter kind3).map (·.e) = s.es.filter fun e => e.kind == 3 := by
  rw [← h.es, List.filter_map]; rfl

set_option maxRecDepth 100000 in
set_option maxHeartbeats 1000000 in
theorem answer_waiting {w : World} {d : Nat} {s : St} {rw_ : Raw} {col : Nat → Option Col} (h : DSt w d s rw_ col) :
    Calls Tryz.prog 62 #[.pointer (some ⟨d, 0, none⟩), .iface 167 (.agg #[])] w fun e w' => ∃ v, e = .returned v ∧ AnsPost w d col (Desk.doesD s .waiting) v w' := by
  have hX : Below w.heap.size w ((w.alloc (.cells #[.int .i64 0, .int .i64 0, .int .i64 0, .slice none 0 0, .slice none 0 0, .slice none 0 0, .slice none 0 0] 40)).alloc (.cells #[] 167)) := ((Below.refl _ _).alloc (Nat.le_refl _) _).alloc (by simp) _
  have hq : ((w.alloc (.cells #[.int .i64 0, .int .i64 0, .int .i64 0, .slice none 0 0, .slice none 0 0, .slice none 0 0, .slice none 0 0] 40)).alloc (.cells #[] 167)).heap[w.heap.size]? = some zeroR := (Below.heap_alloc _ _ _ (by simp)).trans (heapNew w zeroR)
  have hs : ((w.alloc (.cells #[.int .i64 0, .int .i64 0, .int .i64 0, .slice none 0 0, .slice none 0 0, .slice none 0 0, .slice none 0 0] 40)).alloc (.cells #[] 167)).heap.size = w.heap.size + 2 := by simp
  have TW := hidp (tellWaiting_any (w := ((w.alloc (.cells #[.int .i64 0, .int .i64 0, .int .i64 0, .slice none 0 0, .slice none 0 0, .slice none 0 0, .slice none 0 0] 40)).alloc (.cells #[] 167))) (s := s) ⟨h.dk.later hX, h.of, h.wl, h.hl, h.inv⟩)
  have HX := hidp (And.intro hX (And.intro (Q7.of hq) hs))
  have HD : Hid (Desk.doesD s .waiting = (s, ⟨0, 0, 0, (rw_.eg.filter kind3).map (·.e), [], [], []⟩)) := by show _ = _; rw [waits_are h.of]; rfl
  clear hX hq hs
  have HH := hidp h
  clear h
  have noThing : ∀ (xT : TypeId) (v : Value) (w : World), (Instr.typeAssert (.iface 167 v) xT 143 true).run Tryz.prog w = .ok (.tuple #[.agg #[.string ⟨#[]⟩, .int .i64 0], .bool false]) w := by intro xT v w; simp [Instr.typeAssert, go_sem, Result.andThen, run_underlying Tryz.underlying143]
  have noBook : ∀ (xT : TypeId) (v : Value) (w : World), (Instr.typeAssert (.iface 167 v) xT 148 true).run Tryz.prog w = .ok (.tuple #[.agg #[.string ⟨#[]⟩, .int .i64 0, .int .i64 0, .int .i64 0], .bool false]) w := by intro xT v w; simp [Instr.typeAssert, go_sem, Result.andThen, run_underlying Tryz.underlying148]
  have noHold : ∀ (xT : TypeId) (v : Value) (w : World), (Instr.typeAssert (.iface 167 v) xT 150 true).run Tryz.prog w = .ok (.tuple #[.agg #[.string ⟨#[]⟩, .int .i64 0, .int .i64 0, .int .i64 0, .int .i64 0], .bool false]) w := by intro xT v w; simp [Instr.typeAssert, go_sem, Result.andThen, run_underlying Tryz.underlying150]
  have noWait : ∀ (xT : TypeId) (v : Value) (w : World), (Instr.typeAssert (.iface 167 v) xT 151 true).run Tryz.prog w = .ok (.tuple #[.agg #[.string ⟨#[]⟩, .int .i64 0, .int .i64 0, .int .i64 0, .int .i64 0], .bool false]) w := by intro xT v w; simp [Instr.typeAssert, go_sem, Result.andThen, run_underlying Tryz.underlying151]
  have noSeries : ∀ (xT : TypeId) (v : Value) (w : World), (Instr.typeAssert (.iface 167 v) xT 159 true).run Tryz.prog w = .ok (.tuple #[.agg #[.string ⟨#[]⟩, .int .i64 0, .int .i64 0, .int .i64 0, .bool false, .bool false, .bool false, .bool false, .bool false, .bool false, .bool false, .int .i64 0, .int .i64 0, .int .i64 0, .int .i64 0, .int .i64 0], .bool false]) w := by intro xT v w; simp [Instr.typeAssert, go_sem, Result.andThen, run_underlying Tryz.underlying159]
  have noConfirm : ∀ (xT : TypeId) (v : Value) (w : World), (Instr.typeAssert (.iface 167 v) xT 161 true).run Tryz.prog w = .ok (.tuple #[.agg #[.int .i64 0], .bool false]) w := by intro xT v w; simp [Instr.typeAssert, go_sem, Result.andThen, run_underlying Tryz.underlying161]
  have noCancel : ∀ (xT : TypeId) (v : Value) (w : World), (Instr.typeAssert (.iface 167 v) xT 162 true).run Tryz.prog w = .ok (.tuple #[.agg #[.int .i64 0], .bool false]) w := by intro xT v w; simp [Instr.typeAssert, go_sem, Result.andThen, run_underlying Tryz.underlying162]
  have noList : ∀ (xT : TypeId) (v : Value) (w : World), (Instr.typeAssert (.iface 167 v) xT 164 true).run Tryz.prog w = .ok (.tuple #[.agg #[.string ⟨#[]⟩, .bool false, .int .i64 0, .int .i64 0], .bool false]) w := by intro xT v w; simp [Instr.typeAssert, go_sem, Result.andThen, run_underlying Tryz.underlying164]
  have yesWaiting : ∀ (xT : TypeId) (v : Value) (w : World), (Instr.typeAssert (.iface 167 v) xT 167 true).run Tryz.prog w = .ok (.tuple #[v, .bool true]) w := by intro xT v w; simp [Instr.typeAssert, go_sem, Result.andThen, run_underlying Tryz.underlying167]
  go_enter Tryz.func62, Tryz.ntmps62
  go_wp2_with fail
  refine TW.out.mono ?_
  rintro e w2 ⟨v, rfl, l, hl, er, hb⟩
  obtain ⟨a1, c1, rfl⟩ := own_slice er.own
  have q7 := HX.out.2.1.later (hb.block w.heap.size (by rw [HX.out.2.2]; omega))
  have HF : Hid (∀ a b c e f g i, AnsPost w d col (Desk.doesD s .waiting) (repV 0 0 0 (.slice a1 l.length c1) (.slice none 0 0) (.slice none 0 0) (.slice none 0 0)) (set7 w2 w.heap.size a b c e f g i)) := fun a b c e f g i => by
    have e1 : l.map (·.1) = (rw_.eg.filter kind3).map (·.e) := by rw [hl, List.take_length]
    rw [HD.out, ← e1]
    exact HH.out.ansEntries (HX.out.1.trans (hb.mono HX.out.1.size)) (Nat.le_refl _) (er.base (by rw [HX.out.2.2]; omega)) a b c e f g i
  clear TW er hl hb noThing noBook noHold noWait noSeries noConfirm noCancel noList yesWaiting
  obtain ⟨q0, q1, q2, q3, q4, q5, q6, fq⟩ := q7
  go_wp2_with fail
  exact bodyPost_ret (v := repV 0 0 0 (.slice a1 l.length c1) (.slice none 0 0) (.slice none 0 0) (.slice none 0 0)) (by simp [results, Tryz.results62, go_sem, repV, q0, q1, q2, q3, q4, q5, q6]) rfl ⟨_, rfl, HF.out _ _ _ _ _ _ _⟩

set_option maxRecDepth 100000 in
set_option maxHeartbeats 1000000 in
theorem answer_clock {w : World} {d : Nat} {s : St} {rw_ : Raw} {col : Nat → Option Col} (h : DSt w d s rw_ col) :
    Calls Tryz.prog 62 #[.pointer (some ⟨d, 0, none⟩), .iface 177 (.agg #[])] w fun e w' => ∃ v, e = .returned v ∧ AnsPost w d col (Desk.doesD s .clock) v w' := by
  have hX : Below w.heap.size w ((w.alloc (.cells #[.int .i64 0, .int .i64 0, .int .i64 0, .slice none 0 0, .slice none 0 0, .slice none 0 0, .slice none 0 0] 40)).alloc (.cells #[] 177)) := ((Below.refl _ _).alloc (Nat.le_refl _) _).alloc (by simp) _
  have hq : ((w.alloc (.cells #[.int .i64 0, .int .i64 0, .int .i64 0, .slice none 0 0, .slice none 0 0, .slice none 0 0, .slice none 0 0] 40)).alloc (.cells #[] 177)).heap[w.heap.size]? = some zeroR := (Below.heap_alloc _ _ _ (by simp)).trans (heapNew w zeroR)
  have xn := (h.dk.later hX).c0
  rw [h.of.now] at xn
  have HX := hidp hX
  have HH := hidp h
  have q7 := Q7.of hq
  have HD : Hid (Desk.doesD s .clock = (s, ⟨0, 0, s.now, [], [], [], []⟩)) := rfl
  clear hX hq h
  have noThing : ∀ (xT : TypeId) (v : Value) (w : World), (Instr.typeAssert (.iface 177 v) xT 143 true).run Tryz.prog w = .ok (.tuple #[.agg #[.string ⟨#[]⟩, .int .i64 0], .bool false]) w := by intro xT v w; simp [Instr.typeAssert, go_sem, Result.andThen, run_underlying Tryz.underlying143]
  have noBook : ∀ (xT : TypeId) (v : Value) (w : World), (Instr.typeAssert (.iface 177 v) xT 148 true).run Tryz.prog w = .ok (.tuple #[.agg #[.string ⟨#[]⟩, .int .i64 0, .int .i64 0, .int .i64 0], .bool false]) w := by intro xT v w; simp [Instr.typeAssert, go_sem, Result.andThen, run_underlying Tryz.underlying148]
  have noHold : ∀ (xT : TypeId) (v : Value) (w : World), (Instr.typeAssert (.iface 177 v) xT 150 true).run Tryz.prog w = .ok (.tuple #[.agg #[.string ⟨#[]⟩, .int .i64 0, .int .i64 0, .int .i64 0, .int .i64 0], .bool false]) w := by intro xT v w; simp [Instr.typeAssert, go_sem, Result.andThen, run_underlying Tryz.underlying150]
  have noWait : ∀ (xT : TypeId) (v : Value) (w : World), (Instr.typeAssert (.iface 177 v) xT 151 true).run Tryz.prog w = .ok (.tuple #[.agg #[.string ⟨#[]⟩, .int .i64 0, .int .i64 0, .int .i64 0, .int .i64 0], .bool false]) w := by intro xT v w; simp [Instr.typeAssert, go_sem, Result.andThen, run_underlying Tryz.underlying151]
  have noSeries : ∀ (xT : TypeId) (v : Value) (w : World), (Instr.typeAssert (.iface 177 v) xT 159 true).run Tryz.prog w = .ok (.tuple #[.agg #[.string ⟨#[]⟩, .int .i64 0, .int .i64 0, .int .i64 0, .bool false, .bool false, .bool false, .bool false, .bool false, .bool false, .bool false, .int .i64 0, .int .i64 0, .int .i64 0, .int .i64 0, .int .i64 0], .bool false]) w := by intro xT v w; simp [Instr.typeAssert, go_sem, Result.andThen, run_underlying Tryz.underlying159]
  have noConfirm : ∀ (xT : TypeId) (v : Value) (w : World), (Instr.typeAssert (.iface 177 v) xT 161 true).run Tryz.prog w = .ok (.tuple #[.agg #[.int .i64 0], .bool false]) w := by intro xT v w; simp [Instr.typeAssert, go_sem, Result.andThen, run_underlying Tryz.underlying161]
  have noCancel : ∀ (xT : TypeId) (v : Value) (w : World), (Instr.typeAssert (.iface 177 v) xT 162 true).run Tryz.prog w = .ok (.tuple #[.agg #[.int .i64 0], .bool false]) w := by intro xT v w; simp [Instr.typeAssert, go_sem, Result.andThen, run_underlying Tryz.underlying162]
  have noList : ∀ (xT : TypeId) (v : Value) (w : World), (Instr.typeAssert (.iface 177 v) xT 164 true).run Tryz.prog w = .ok (.tuple #[.agg #[.string ⟨#[]⟩, .bool false, .int .i64 0, .int .i64 0], .bool false]) w := by intro xT v w; simp [Instr.typeAssert, go_sem, Result.andThen, run_underlying Tryz.underlying164]
  have noWaiting : ∀ (xT : TypeId) (v : Value) (w : World), (Instr.typeAssert (.iface 177 v) xT 167 true).run Tryz.prog w = .ok (.tuple #[.agg #[], .bool false]) w := by intro xT v w; simp [Instr.typeAssert, go_sem, Result.andThen, run_underlying Tryz.underlying167]
  have noPeak : ∀ (xT : TypeId) (v : Value) (w : World), (Instr.typeAssert (.iface 177 v) xT 170 true).run Tryz.prog w = .ok (.tuple #[.agg #[.string ⟨#[]⟩, .int .i64 0, .int .i64 0], .bool false]) w := by intro xT v w; simp [Instr.typeAssert, go_sem, Result.andThen, run_underlying Tryz.underlying170]
  have noFind : ∀ (xT : TypeId) (v : Value) (w : World), (Instr.typeAssert (.iface 177 v) xT 172 true).run Tryz.prog w = .ok (.tuple #[.agg #[.string ⟨#[]⟩, .int .i64 0, .int .i64 0, .int .i64 0, .int .i64 0], .bool false]) w := by intro xT v w; simp [Instr.typeAssert, go_sem, Result.andThen, run_underlying Tryz.underlying172]
  have noExpand : ∀ (xT : TypeId) (v : Value) (w : World), (Instr.typeAssert (.iface 177 v) xT 174 true).run Tryz.prog w = .ok (.tuple #[.agg #[.int .i64 0, .int .i64 0, .bool false, .bool false, .bool false, .bool false, .bool false, .bool false, .bool false, .int .i64 0, .int .i64 0, .int .i64 0, .int .i64 0, .int .i64 0], .bool false]) w := by intro xT v w; simp [Instr.typeAssert, go_sem, Result.andThen, run_underlying Tryz.underlying174]
  have noTick : ∀ (xT : TypeId) (v : Value) (w : World), (Instr.typeAssert (.iface 177 v) xT 176 true).run Tryz.prog w = .ok (.tuple #[.agg #[.int .i64 0], .bool false]) w := by intro xT v w; simp [Instr.typeAssert, go_sem, Result.andThen, run_underlying Tryz.underlying176]
  have yesClock : ∀ (xT : TypeId) (v : Value) (w : World), (Instr.typeAssert (.iface 177 v) xT 177 true).run Tryz.prog w = .ok (.tuple #[v, .bool true]) w := by intro xT v w; simp [Instr.typeAssert, go_sem, Result.andThen, run_underlying Tryz.underlying177]
  go_enter Tryz.func62, Tryz.ntmps62
  go_upto_region 43 with fail
  change Code.wp _ _ _ _ ((w.alloc (.cells #[.int .i64 0, .int .i64 0, .int .i64 0, .slice none 0 0, .slice none 0 0, .slice none 0 0, .slice none 0 0] 40)).alloc (.cells #[] 177))
  generalize ((w.alloc (.cells #[.int .i64 0, .int .i64 0, .int .i64 0, .slice none 0 0, .slice none 0 0, .slice none 0 0, .slice none 0 0] 40)).alloc (.cells #[] 177)) = X at *
  have HF : Hid (∀ a b c e f g i, AnsPost w d col (Desk.doesD s .clock) (repV 0 0 s.now (.slice none 0 0) (.slice none 0 0) (.slice none 0 0) (.slice none 0 0)) (set7 X w.heap.size a b c e f g i)) := fun a b c e f g i => by
    rw [HD.out]; exact HH.out.said HX.out (Nat.le_refl _) 0 s.now a b c e f g i
  clear noThing noBook noHold noWait noSeries noConfirm noCancel noList noWaiting noPeak noFind noExpand noTick yesClock
  obtain ⟨q0, q1, q2, q3, q4, q5, q6, fq⟩ := q7
  go_wp2_with fail
  exact bodyPost_ret (v := repV 0 0 s.now (.slice none 0 0) (.slice none 0 0) (.slice none 0 0) (.slice none 0 0)) (by simp [results, Tryz.results62, go_sem, repV, q0, q1, q2, q3, q4, q5, q6]) rfl ⟨_, rfl, HF.out _ _ _ _ _ _ _⟩

end Go.Proofs.YtjfkfiffakbagaaGreatDoor


/-
  Package spans: meeting goes through the values whose spans meet one, in order.
-/
namespace Go.Proofs.YtjfkfiffakbagaaGreatDoor
open Go.RowKit Go.Shelf

attribute [local go_sem] Oper.semAt_some

theorem room_of_none {F : Fence} (hd : F.depth = none) (k : Nat) : F.room k := fun d h => by rw [hd] at h; cases h
theorem RoundIn.anyDepth {F : Fence} (hd : F.depth = none) {m m' : Nat} {P : Program} {l : Nat} {f : FuncId} {tmps : Array Value} {assign body : Code} {w : World} {R : Ending → World → Prop}
    (h : RoundIn F m P l f tmps assign body w R) : RoundIn F m' P l f tmps assign body w R := ⟨h.1, fun c cs _ => h.2 c cs (room_of_none hd _)⟩
theorem YieldAt.anyDepth {F : Fence} (hd : F.depth = none) {m : Nat} (m' : Nat) {P : Program} {l : Nat} {args : Array Value} {W : World} {R : Ending → World → Prop} (h : YieldAt F m P l args W R) : YieldAt F m' P l args W R := by
  obtain ⟨fn, tmps, assign, body, hy, hR⟩ := h
  exact ⟨fn, tmps, assign, body, hy, RoundIn.anyDepth hd hR⟩

theorem SNode.belowN {n₀ : Nat} {w w' : World} {b : Nat} {x : Avl.It} (h : SNode w b x) (k : Below n₀ w w') (hb : b < n₀) : SNode w' b x :=
  ⟨(k.cell (p := ⟨b, 0, none⟩) hb).trans h.c0, (k.cell (p := ⟨b, 1, none⟩) hb).trans h.c1, (k.cell (p := ⟨b, 2, none⟩) hb).trans h.c2, (k.cell (p := ⟨b, 3, none⟩) hb).trans h.c3, h.c4.imp (fun _ => (k.cell (p := ⟨b, 4, none⟩) hb).trans), h.c5.imp (fun _ => (k.cell (p := ⟨b, 5, none⟩) hb).trans), h.c6.imp (fun _ => (k.cell (p := ⟨b, 6, none⟩) hb).trans), h.c7.imp (fun _ => (k.cell (p := ⟨b, 7, none⟩) hb).trans), fun o => (k.frozen (p := ⟨b, o, none⟩) hb).trans (h.fz o)⟩
theorem SRep.belowN {n₀ : Nat} {w w' : World} (k : Below n₀ w w') : ∀ {t : Avl.S} {p : Value} {F : List Nat}, SRep w t p F → (∀ i ∈ F, i < n₀) → SRep w' t p F
  | .nil, p, F, hr, _ => hr
  | .node a l r, p, F, hr, hd => by
    obtain ⟨b, pl, pr, Fl, Fr, rfl, n, c4, c5, c6, c7, hl, hr, rfl, nd⟩ := hr
    have hb : b < n₀ := hd b (by simp)
    exact ⟨b, pl, pr, Fl, Fr, rfl, n.belowN k hb, (k.cell (p := ⟨b, 4, none⟩) hb).trans c4, (k.cell (p := ⟨b, 5, none⟩) hb).trans c5, (k.cell (p := ⟨b, 6, none⟩) hb).trans c6, (k.cell (p := ⟨b, 7, none⟩) hb).trans c7, SRep.belowN k hl (fun i hi => hd i (by simp [hi])), SRep.belowN k hr (fun i hi => hd i (by simp [hi])), rfl, nd⟩

set_option maxRecDepth 100000 in
set_option maxHeartbeats 4000000 in
theorem meeting_in (F : Fence) (hd : F.depth = none) (h6 : F.fn 247) (hro : F.round = none) (l n₀ N : Nat) (a b : Int) {Q : Avl.It → Prop} (J Jx : List {x : Avl.It // Q x} → World → Prop)
    (hY : ∀ m pre x W, J pre W → pre.length < N → YieldAt F m Tryz.prog l #[.pointer (some ⟨x.1.v, 0, none⟩)] W fun e W' =>
      (e = .returned (.bool true) ∧ J (pre ++ [x]) W' ∧ Below n₀ W W') ∨ (e = .returned (.bool false) ∧ Jx (pre ++ [x]) W')) (t : Avl.S) :
    ∀ (n : Nat) (p : Option Addr) (G : List Nat) (pre ys : List {x : Avl.It // Q x}) (W : World), SRep W t (.pointer p) G → (∀ i ∈ G, i < n₀) → ys.map (·.1) = Avl.meet a b t → J pre W → pre.length + ys.length ≤ N →
      CallsIn F n Tryz.prog 247 #[.pointer p, .int .i64 a, .int .i64 b, .func (.yield l) #[] #[]] W fun e W' =>
        (e = .returned (.bool true) ∧ J (pre ++ ys) W' ∧ Below n₀ W W') ∨ (e = .returned (.bool false) ∧ ∃ q, q <+: ys ∧ Jx (pre ++ q) W') := by
  induction t with
  | nil =>
    intro n p G pre ys W ht _ hys hJ _
    obtain ⟨hp, _⟩ := ht
    cases hp
    obtain rfl : ys = [] := List.map_eq_nil_iff.1 (hys.trans rfl)
    refine callsIn_of_wp Tryz.func247 rfl h6 ?_ hro
    simp only [Tryz.ntmps247, List.size_toArray, List.length_cons, List.length_nil, Nat.reduceAdd, Nat.reduceSub, Array.replicate_succ, Array.replicate_zero, List.push_toArray, List.append_toArray, List.nil_append, List.cons_append]
    gi_wp2
    go_ret
    exact .inl ⟨rfl, by simpa using hJ, Below.refl _ _⟩
  | node x tl tr ihl ihr =>
    intro n p G pre ys W ht hG hys hJ hN
    obtain ⟨bk, pl, pr, Fl, Fr, rfl, rfl, hh, c4, _⟩ := ht.half
    have hdd : ∀ k : Nat, (F.depth.isSome = true → 1 ≤ k) := fun k h => by rw [hd] at h; cases h
    have hb : bk < n₀ := hG bk (by simp)
    have hGl : ∀ i ∈ Fl, i < n₀ := fun i hi => hG i (by simp [hi])
    have hGr : ∀ i ∈ Fr, i < n₀ := fun i hi => hG i (by simp [hi])
    generalize hla : Avl.late (.node x tl tr) = la at c4
    by_cases q1 : la ≤ a
    · obtain rfl : ys = [] := by
        have : Avl.meet a b (.node x tl tr) = [] := by rw [Avl.meet, hla, if_pos q1]
        exact List.map_eq_nil_iff.1 (hys.trans this)
      refine callsIn_of_wp Tryz.func247 rfl h6 ?_ hro
      simp only [Tryz.ntmps247, List.size_toArray, List.length_cons, List.length_nil, Nat.reduceAdd, Nat.reduceSub, Array.replicate_succ, Array.replicate_zero, List.push_toArray, List.append_toArray, List.nil_append, List.cons_append]
      gi_wp2
      go_ret
      exact .inl ⟨rfl, by simpa using hJ, Below.refl _ _⟩
    · have em : Avl.meet a b (.node x tl tr) = Avl.meet a b tl ++ if b ≤ x.f then [] else (if a < x.t then [x] else []) ++ Avl.meet a b tr := by rw [Avl.meet, hla, if_neg q1]
      rw [em] at hys
      obtain ⟨y1, y2, rfl, hy1, hy2⟩ := List.map_eq_append_iff.1 hys
      clear em hys
      simp only [List.length_append] at hN
      have c0 := hh.n.c0
      have c1 := hh.n.c1
      have c3 := hh.n.c3
      have c6 := hh.c6
      have c7 := hh.c7
      by_cases q2 : b ≤ x.f
      · rw [if_pos q2] at hy2
        obtain rfl : y2 = [] := List.map_eq_nil_iff.1 hy2
        have ih1 := (ihl (n - 1) pl Fl pre y1 W hh.l hGl hy1 hJ (by simpa using hN)).mono (R' := fun e W1 =>
            (e = .returned (.bool true) ∧ J (pre ++ y1) W1 ∧ Below n₀ W W1 ∧ W1.cell? ⟨bk, 0, none⟩ = some (.int .i64 x.f)) ∨ (e = .returned (.bool false) ∧ ∃ q, q <+: y1 ∧ Jx (pre ++ q) W1))
          (fun e W1 h => h.elim (fun ⟨he, hj, hb1⟩ => .inl ⟨he, hj, hb1, (hb1.cell (p := ⟨bk, 0, none⟩) hb).trans c0⟩) .inr)
        clear ihl ihr hh ht
        refine callsIn_of_wp Tryz.func247 rfl h6 ?_ hro
        simp only [Tryz.ntmps247, List.size_toArray, List.length_cons, List.length_nil, Nat.reduceAdd, Nat.reduceSub, Array.replicate_succ, Array.replicate_zero, List.push_toArray, List.append_toArray, List.nil_append, List.cons_append]
        gi_wp2_with (first
          | ((try refine ⟨hdd _, ?_⟩); gi_at_call 247; refine ih1.mono ?_; clear ih1; rintro e W1 (⟨rfl, hJ1, hb1, c0'⟩ | ⟨rfl, q, hq, hx1⟩)))
        · go_ret
          exact .inl ⟨rfl, by simpa using hJ1, hb1⟩
        · go_ret
          exact .inr ⟨rfl, q, by simpa using hq, hx1⟩
      · rw [if_neg q2] at hy2
        have q2' : x.f < b := by omega
        obtain ⟨y3, y4, rfl, hy3, hy4⟩ := List.map_eq_append_iff.1 hy2
        clear hy2
        simp only [List.length_append] at hN
        by_cases q3 : a < x.t
        · rw [if_pos q3] at hy3
          obtain ⟨x', rfl, hx'⟩ : ∃ x' : {x : Avl.It // Q x}, y3 = [x'] ∧ x'.1 = x := by
            rcases y3 with _ | ⟨x', _ | ⟨z, r⟩⟩
            · simp at hy3
            · exact ⟨x', rfl, by simpa using hy3⟩
            · simp at hy3
          subst hx'
          simp only [List.length_cons, List.length_nil] at hN
          have hy2 : ∀ W1, J (pre ++ y1) W1 → Below n₀ W W1 → YieldAt F (n - 1) Tryz.prog l #[.pointer (some ⟨x'.1.v, 0, none⟩)] W1 fun e W2 =>
              (e = .returned (.bool true) ∧ J (pre ++ y1 ++ [x']) W2 ∧ Below n₀ W W2 ∧ W2.cell? ⟨bk, 7, none⟩ = some (.pointer pr) ∧ SRep W2 tr (.pointer pr) Fr) ∨ (e = .returned (.bool false) ∧ Jx (pre ++ y1 ++ [x']) W2) := fun W1 hJ1 hb1 =>
            YieldAt.mono (hY (n - 1) _ x' W1 hJ1 (by simp; omega)) fun e W2 h => h.elim
              (fun ⟨he, hj, hb2⟩ => .inl ⟨he, hj, hb1.trans hb2, ((hb1.trans hb2).cell (p := ⟨bk, 7, none⟩) hb).trans c7, hh.r.belowN (hb1.trans hb2) hGr⟩) .inr
          have ih1 := (ihl (n - 1) pl Fl pre y1 W hh.l hGl hy1 hJ (by omega)).mono (R' := fun e W1 =>
              (e = .returned (.bool true) ∧ W1.cell? ⟨bk, 0, none⟩ = some (.int .i64 x'.1.f) ∧ W1.cell? ⟨bk, 1, none⟩ = some (.int .i64 x'.1.t) ∧ W1.cell? ⟨bk, 3, none⟩ = some (.pointer (some ⟨x'.1.v, 0, none⟩)) ∧ YieldAt F (n - 1) Tryz.prog l #[.pointer (some ⟨x'.1.v, 0, none⟩)] W1 fun e W2 =>
                (e = .returned (.bool true) ∧ J (pre ++ y1 ++ [x']) W2 ∧ Below n₀ W W2 ∧ W2.cell? ⟨bk, 7, none⟩ = some (.pointer pr) ∧ SRep W2 tr (.pointer pr) Fr) ∨ (e = .returned (.bool false) ∧ Jx (pre ++ y1 ++ [x']) W2)) ∨
              (e = .returned (.bool false) ∧ ∃ q, q <+: y1 ∧ Jx (pre ++ q) W1))
            (fun e W1 h => h.elim (fun ⟨he, hj, hb1⟩ => .inl ⟨he, (hb1.cell (p := ⟨bk, 0, none⟩) hb).trans c0, (hb1.cell (p := ⟨bk, 1, none⟩) hb).trans c1, (hb1.cell (p := ⟨bk, 3, none⟩) hb).trans c3, hy2 W1 hj hb1⟩) .inr)
          clear hy2 ihl hh ht
          refine callsIn_of_wp Tryz.func247 rfl h6 ?_ hro
          simp only [Tryz.ntmps247, List.size_toArray, List.length_cons, List.length_nil, Nat.reduceAdd, Nat.reduceSub, Array.replicate_succ, Array.replicate_zero, List.push_toArray, List.append_toArray, List.nil_append, List.cons_append]
          gi_wp2_with (first
            | ((try refine ⟨hdd _, ?_⟩); gi_at_call 247; refine ih1.mono ?_; clear ih1; rintro e W1 (⟨rfl, c0', c1', c3', fn, tmps, assign, body, hy, hR⟩ | ⟨rfl, q, hq, hx1⟩))
            | ((try refine ⟨hdd _, ?_⟩); refine hR.mono ?_; clear hR; rintro e W2 (⟨rfl, hJ2, hb2, c7', hr2⟩ | ⟨rfl, hx2⟩))
            | ((try refine ⟨hdd _, ?_⟩); gi_at_call 247; refine (ihr (n - 1) pr Fr _ y4 _ hr2 hGr hy4 hJ2 (by simp; omega)).mono ?_; rintro e W3 (⟨rfl, hJ3, hb3⟩ | ⟨rfl, q, hq, hx3⟩)))
          · go_ret
            exact .inl ⟨rfl, by simpa [List.append_assoc] using hJ3, hb2.trans hb3⟩
          · go_ret
            obtain ⟨r, hr'⟩ := hq
            exact .inr ⟨rfl, y1 ++ x' :: q, ⟨r, by simp [← hr']⟩, by simpa [List.append_assoc] using hx3⟩
          · go_ret
            exact .inr ⟨rfl, y1 ++ [x'], ⟨y4, by simp⟩, by simpa [List.append_assoc] using hx2⟩
          · go_ret
            exact .inr ⟨rfl, q, hq.trans ⟨_, rfl⟩, hx1⟩
        · rw [if_neg q3] at hy3
          obtain rfl : y3 = [] := List.map_eq_nil_iff.1 hy3
          have q3' : x.t ≤ a := by omega
          simp only [List.length_nil] at hN
          have ih1 := (ihl (n - 1) pl Fl pre y1 W hh.l hGl hy1 hJ (by omega)).mono (R' := fun e W1 =>
              (e = .returned (.bool true) ∧ W1.cell? ⟨bk, 0, none⟩ = some (.int .i64 x.f) ∧ W1.cell? ⟨bk, 1, none⟩ = some (.int .i64 x.t) ∧ W1.cell? ⟨bk, 7, none⟩ = some (.pointer pr) ∧ SRep W1 tr (.pointer pr) Fr ∧ J (pre ++ y1) W1 ∧ Below n₀ W W1) ∨
              (e = .returned (.bool false) ∧ ∃ q, q <+: y1 ∧ Jx (pre ++ q) W1))
            (fun e W1 h => h.elim (fun ⟨he, hj, hb1⟩ => .inl ⟨he, (hb1.cell (p := ⟨bk, 0, none⟩) hb).trans c0, (hb1.cell (p := ⟨bk, 1, none⟩) hb).trans c1, (hb1.cell (p := ⟨bk, 7, none⟩) hb).trans c7, hh.r.belowN hb1 hGr, hj, hb1⟩) .inr)
          clear ihl hh ht
          refine callsIn_of_wp Tryz.func247 rfl h6 ?_ hro
          simp only [Tryz.ntmps247, List.size_toArray, List.length_cons, List.length_nil, Nat.reduceAdd, Nat.reduceSub, Array.replicate_succ, Array.replicate_zero, List.push_toArray, List.append_toArray, List.nil_append, List.cons_append]
          gi_wp2_with (first
            | ((try refine ⟨hdd _, ?_⟩); gi_at_call 247; refine ih1.mono ?_; clear ih1; rintro e W1 (⟨rfl, c0', c1', c7', hr2, hJ2, hb2⟩ | ⟨rfl, q, hq, hx1⟩))
            | ((try refine ⟨hdd _, ?_⟩); gi_at_call 247; refine (ihr (n - 1) pr Fr _ y4 _ hr2 hGr hy4 hJ2 (by simp; omega)).mono ?_; rintro e W3 (⟨rfl, hJ3, hb3⟩ | ⟨rfl, q, hq, hx3⟩)))
          · refine ⟨fun _ h => (by cases h), ?_⟩
            gi_wp2_with (first
              | ((try refine ⟨hdd _, ?_⟩); gi_at_call 247; refine (ihr (n - 1) pr Fr _ y4 _ hr2 hGr hy4 hJ2 (by simp; omega)).mono ?_; rintro e W3 (⟨rfl, hJ3, hb3⟩ | ⟨rfl, q, hq, hx3⟩)))
            · go_ret
              exact .inl ⟨rfl, by simpa [List.append_assoc] using hJ3, hb2.trans hb3⟩
            · go_ret
              obtain ⟨r, hr'⟩ := hq
              exact .inr ⟨rfl, y1 ++ q, ⟨r, by simp [← hr']⟩, by simpa [List.append_assoc] using hx3⟩
          · go_ret
            exact .inr ⟨rfl, q, hq.trans ⟨_, rfl⟩, hx1⟩

end Go.Proofs.YtjfkfiffakbagaaGreatDoor


/-
  Package spans: the iterator that Meeting hands back.
-/
namespace Go.Proofs.YtjfkfiffakbagaaGreatDoor
open Go.RowKit Go.Shelf

theorem grownBy_drew (W : World) : W.grownBy W.drew none := ⟨rfl, rfl, rfl, Nat.le_refl _, fun _ _ _ => rfl⟩

set_option maxRecDepth 100000 in
set_option maxHeartbeats 8000000 in
theorem Meeting1_any (l B1 B2 B3 n₀ : Nat) (tb o : Nat) (p0 : Option Addr) (a b : Int) (t : Avl.S) (G : List Nat) {Q : Avl.It → Prop} (xs : List {x : Avl.It // Q x}) (hxs : xs.map (·.1) = Avl.meet a b t) (J Jx : List {x : Avl.It // Q x} → World → Prop)
    (hY : ∀ m pre x W, J pre W → pre.length < xs.length → YieldAt Fence.wide m Tryz.prog l #[.pointer (some ⟨x.1.v, 0, none⟩)] W fun e W' =>
      (e = .returned (.bool true) ∧ J (pre ++ [x]) W' ∧ Below n₀ W W') ∨ (e = .returned (.bool false) ∧ Jx (pre ++ [x]) W'))
    (hJd : ∀ pre W, J pre W → J pre W.drew)
    (W : World) (hB1 : W.cell? ⟨B1, 0, none⟩ = some (.pointer (some ⟨tb, o, none⟩))) (hB2 : W.cell? ⟨B2, 0, none⟩ = some (.int .i64 a)) (hB3 : W.cell? ⟨B3, 0, none⟩ = some (.int .i64 b)) (hc : W.cell? ⟨tb, o, none⟩ = some (.pointer p0)) (hT : SRep W t (.pointer p0) G) (hG : ∀ i ∈ G, i < n₀) (h0 : J [] W) :
    Calls Tryz.prog 246 #[.func (.yield l) #[] #[], .pointer (some ⟨B1, 0, none⟩), .pointer (some ⟨B2, 0, none⟩), .pointer (some ⟨B3, 0, none⟩)] W fun e W' => (∃ v, e = .returned v) ∧
      ((∃ ys, ys = xs ∧ J ys W') ∨ (∃ pre, pre <+: xs ∧ Jx pre W')) := by
  have hp := callsIn_wide.1 (meeting_in Fence.wide rfl trivial rfl l n₀ xs.length a b J Jx hY t 0 p0 G [] xs W.drew (hT.same (Off.refl _ _).drew) hG hxs (hJd _ _ h0) (by simp))
  have hp2 := hidp (hp.mono (R' := fun e W' => (∃ bv, e = .returned (.bool bv)) ∧ ((∃ ys, ys = xs ∧ J ys W') ∨ (∃ pre, pre <+: xs ∧ Jx pre W')))
    (fun e W' h => h.elim (fun ⟨he, hj, _⟩ => ⟨⟨_, he⟩, .inl ⟨_, rfl, by simpa using hj⟩⟩) (fun ⟨he, q, hq, hx⟩ => ⟨⟨_, he⟩, .inr ⟨q, hq, by simpa using hx⟩⟩)))
  clear hp hY hJd h0 hxs hT hG
  go_enter Tryz.func246, Tryz.ntmps246
  go_upto_region 0 with fail
  go_region_with (first
    | (go_at_call 247; refine hp2.out.mono ?_; rintro e W1 ⟨⟨bv, rfl⟩, hfin⟩))
  all_goals
    go_wp2_with fail
    go_end0
    exact ⟨⟨_, rfl⟩, hfin⟩

end Go.Proofs.YtjfkfiffakbagaaGreatDoor


/-
  Package desk: what thing.list goes through and tells, as mathematics and as rows.
-/
namespace Go.Proofs.YtjfkfiffakbagaaGreatDoor
open Go.RowKit
open Desk (Ent St Ids kept booked bookE sumA Items ofB sameB Risen Mid EntOk endsB Inv uniq uniqStep uniq_snoc)

/-- An item of a tree stands for an entry. -/
def QI (r : Raw) (x : Avl.It) : Prop := ∃ g ∈ r.eg, x.v = g.eb ∧ x.n = g.e.id
theorem meet_items {s : St} {r : Raw} (ho : Of s r) (hn : (r.eg.map (·.e.id)).Nodup) {i : Nat} (hi : i < r.tg.length) {a b : Int} {z : Avl.It} (hz : z ∈ Avl.meet a b r.tg[i].T) : QI r z := by
  obtain ⟨_, h1, h2⟩ := ho.th i hi
  rw [Avl.meet_is a b _ h1] at hz
  obtain ⟨e, he, _, sp, _, rfl⟩ := (h2 z).1 (List.mem_filter.1 hz).1
  obtain ⟨g, hg, rfl⟩ := ho.get he
  exact ⟨g, hg, atE_some hn hg, rfl⟩
/-- The items, each with its entry. -/
def withQ (r : Raw) : (l : List Avl.It) → (∀ z ∈ l, QI r z) → List {x : Avl.It // QI r x}
  | [], _ => []
  | z :: l, h => ⟨z, h z (by simp)⟩ :: withQ r l (fun y hy => h y (by simp [hy]))
theorem withQ_map (r : Raw) : ∀ (l : List Avl.It) (h : ∀ z ∈ l, QI r z), (withQ r l h).map (·.1) = l
  | [], _ => rfl
  | z :: l, h => by simp [withQ, withQ_map r l]

/-- What is told when some items have come. -/
structure ToldL (s : St) (M : List Avl.It) (l : List (Ent × Value)) : Prop where
  len : l.length = (uniq M).length
  at_ : ∀ (i : Nat) (h : i < l.length), l[i].1 ∈ s.es ∧ l[i].1.id = ((uniq M)[i]'(by omega)).n
  nd : (l.map (·.1.id)).Nodup
theorem ToldL.nil (s : St) : ToldL s [] [] := ⟨rfl, fun i h => by simp at h, by simp⟩
theorem ToldL.any {s : St} {M : List Avl.It} {l : List (Ent × Value)} (h : ToldL s M l) (n : Int) : l.any (fun p => p.1.id == n) = (uniq M).any (fun u => decide (u.n = n)) := by
  rw [Bool.eq_iff_iff, List.any_eq_true, List.any_eq_true]
  constructor
  · rintro ⟨p, hp, e⟩
    obtain ⟨i, hi, rfl⟩ := List.getElem_of_mem hp
    have := h.at_ i hi
    exact ⟨_, List.getElem_mem (by have := h.len; omega : i < (uniq M).length), by simpa [← this.2] using e⟩
  · rintro ⟨u, hu, e⟩
    obtain ⟨i, hi, rfl⟩ := List.getElem_of_mem hu
    have hl : i < l.length := by rw [h.len]; exact hi
    have := h.at_ i hl
    exact ⟨_, List.getElem_mem hl, by rw [this.2]; simpa using e⟩
theorem ToldL.old {s : St} {M : List Avl.It} {l : List (Ent × Value)} (h : ToldL s M l) {z : Avl.It} (ha : l.any (fun p => p.1.id == z.n) = true) : ToldL s (M ++ [z]) l := by
  have e : uniq (M ++ [z]) = uniq M := by rw [uniq_snoc]; unfold uniqStep; rw [← h.any z.n, ha]; rfl
  exact ⟨by rw [e]; exact h.len, fun i hi => by have := h.at_ i hi; simp only [e]; exact this, h.nd⟩
theorem ToldL.new_at {s : St} {M : List Avl.It} {l : List (Ent × Value)} (h : ToldL s M l) {z : Avl.It} (eu : uniq (M ++ [z]) = uniq M ++ [z]) {e : Ent} (he : e ∈ s.es) (hn : e.id = z.n) {sp : Value} {i : Nat} (hi : i < (l ++ [(e, sp)]).length) : (l ++ [(e, sp)])[i].1 ∈ s.es ∧ (l ++ [(e, sp)])[i].1.id = ((uniq (M ++ [z]))[i]'(by rw [eu]; have := h.len; simp at hi ⊢; omega)).n := by
  have hlen := h.len
  simp only [eu]
  rw [List.length_append] at hi
  by_cases hlt : i < l.length
  · rw [List.getElem_append_left hlt, List.getElem_append_left (by omega)]
    exact h.at_ i hlt
  · have hie : i = l.length := by simp at hi; omega
    subst hie
    rw [List.getElem_append_right (Nat.le_refl _), List.getElem_append_right (by omega)]
    simp [hlen, he, hn]
theorem ToldL.new {s : St} {M : List Avl.It} {l : List (Ent × Value)} (h : ToldL s M l) {z : Avl.It} (ha : l.any (fun p => p.1.id == z.n) = false) {e : Ent} (he : e ∈ s.es) (hn : e.id = z.n) (sp : Value) : ToldL s (M ++ [z]) (l ++ [(e, sp)]) := by
  have eu : uniq (M ++ [z]) = uniq M ++ [z] := by rw [uniq_snoc]; unfold uniqStep; rw [← h.any z.n, ha]; rfl
  have hlen := h.len
  refine ⟨by rw [eu]; simp [hlen], fun i hi => ?_, ?_⟩
  · exact ToldL.new_at h eu he hn hi
  · rw [List.map_append, List.nodup_append]
    refine ⟨h.nd, by simp, fun x hx y hy => ?_⟩
    obtain ⟨p, hp, rfl⟩ := List.mem_map.1 hx
    have : y = e.id := by simpa using hy
    subst this
    intro c
    have := List.any_eq_false.1 ha p hp
    simp [c, hn] at this
theorem nodup_le : ∀ {l m : List Int}, l.Nodup → (∀ x ∈ l, x ∈ m) → l.length ≤ m.length
  | [], _, _, _ => Nat.zero_le _
  | a :: l, m, hn, h => by
    rw [List.nodup_cons] at hn
    have ha := h a (by simp)
    have := nodup_le (l := l) (m := m.erase a) hn.2 (fun x hx => (List.mem_erase_of_ne (show x ≠ a from fun e => hn.1 (by rw [← e]; exact hx))).2 (h x (by simp [hx])))
    rw [List.length_erase_of_mem ha] at this
    have := List.length_pos_of_mem ha
    simp; omega
theorem ToldL.small {s : St} {M : List Avl.It} {l : List (Ent × Value)} (h : ToldL s M l) : l.length ≤ s.es.length := by
  have := nodup_le (m := s.es.map (·.id)) h.nd (fun x hx => by
    obtain ⟨p, hp, rfl⟩ := List.mem_map.1 hx
    obtain ⟨i, hi, rfl⟩ := List.getElem_of_mem hp
    exact List.mem_map.2 ⟨_, (h.at_ i hi).1, rfl⟩)
  simpa using this

theorem ownType {w : World} {B e size n : Nat} {v : Value} {xs : List Value} (h : w.ownsRow B e size v n xs) {b : Nat} (hb : v.ownBlock = some b) : ∃ cs k, w.heap[b]? = some (.cells cs e k) := by
  rcases h.2 with ⟨rfl, _⟩ | ⟨g, cap, cur, rfl, _, hgb, _⟩
  · cases hb
  · obtain rfl : g = b := by simpa [Value.ownBlock] using hb
    exact ⟨_, _, hgb⟩
/-- One more is told, wherever its row comes to lie. -/
theorem ERow.snocT {wx w2 w3 : World} {B : Nat} {col : Nat → Option Col} {v : Value} {l : List (Ent × Value)} (h : ERow wx B col v l) {e : Ent} {sp : Value} (ho : w2.ownsRow wx.heap.size 60 2 sp e.spans.length (e.spans.flatMap spV)) (k : Below wx.heap.size wx w2) (hB : B ≤ wx.heap.size) (hc : ∀ b, B ≤ b → col b = none) (k3 : Off v.ownBlock.toList w2 w3) {v' : Value} (hown : w3.ownsRow B 58 6 v' (l.length + 1) (l.flatMap tellV ++ tellV (e, sp))) :
    ERow w3 B col v' (l ++ [(e, sp)]) := by
  have hvb : ∀ b, v.ownBlock = some b → b < wx.heap.size := fun b hb => (h.own.lt b hb).2
  have o1 : ∀ p ∈ l, w3.ownsRow B 60 2 p.2 p.1.spans.length (p.1.spans.flatMap spV) := fun p hp => ownOff (ownLater (h.sp p hp).1.own k) k3 (fun b hb hx => (h.sp p hp).2 b hb (Option.mem_toList.1 hx))
  have o2 : w3.ownsRow B 60 2 sp e.spans.length (e.spans.flatMap spV) := ownOff (Joins.ownsRow_le ho hB) k3 (fun b hb hx => by have h1 := (ho.lt b hb).1; have h2 := hvb b (Option.mem_toList.1 hx); omega)
  have ne : ∀ {q : Value} {n : Nat} {xs : List Value}, w3.ownsRow B 60 2 q n xs → ∀ b, q.ownBlock = some b → v'.ownBlock ≠ some b := fun hq b hb hx => by
    obtain ⟨c1, k1, e1⟩ := ownType hq hb
    obtain ⟨c2, k2, e2⟩ := ownType hown hx
    have := e1.symm.trans e2
    simp at this
  refine ⟨?_, fun b hb => hc b (hown.lt b hb).1, fun p hp => ?_⟩
  · rw [List.length_append, List.flatMap_append]
    have : [(e, sp)].flatMap tellV = tellV (e, sp) := by simp
    rw [this]; exact hown
  · rcases List.mem_append.1 hp with hp | hp
    · exact ⟨⟨o1 p hp, (h.sp p hp).1.no⟩, ne (o1 p hp)⟩
    · have : p = (e, sp) := List.mem_singleton.1 hp
      subst this
      exact ⟨⟨o2, fun b hb => hc b (o2.lt b hb).1⟩, ne o2⟩

end Go.Proofs.YtjfkfiffakbagaaGreatDoor

