/-
  The walk over bookingskeep.Days.
-/
import Derived.Test.YtjfkfiffakbagaaGreatDoorL16
import Derived.Maps.AppendAt
namespace Go.Proofs.YtjfkfiffakbagaaGreatDoor
open Go.RowKit
open Desk (Ent St Ids kept booked bookE sumA Items ofB sameB Risen Mid EntOk endsB Inv)

theorem year24 {y m k d : Int} (hok : Cal.ok y m k = true) (hnum : Cal.num y m k = d) (h0 : 0 ≤ d) (h1 : d < 300) : y = 2024 := by
  obtain ⟨g1, g2, g3, g4, g5, g6⟩ := (Cal.ok_iff _ _ _).1 hok
  have e1 : Cal.num 2024 1 1 = 0 := by decide
  have e2 : Cal.num 2025 1 1 = 366 := by decide
  apply Classical.byContradiction
  intro c
  by_cases lt : y < 2024
  · have := Rd.num_lt hok (Rd.ok_first (y := 2024) (m := 1) (by omega) (by omega) (by omega) (by omega)) (by omega)
    omega
  · by_cases e : 12 * y + m = 24301
    · have : y = 2025 := by omega
      have : m = 1 := by omega
      subst_vars
      have : Cal.num 2025 1 k = Cal.num 2025 1 1 + k - 1 := by unfold Cal.num; omega
      omega
    · have := Rd.num_lt (Rd.ok_first (y := 2025) (m := 1) (by omega) (by omega) (by omega) (by omega)) hok (by omega)
      omega

theorem Step.low {S : Col → Prop} {B N : Nat} {col col' : Nat → Option Col} {w w' : World} (h : Step S B col col' w w') (hB : N ≤ B) (hs : N ≤ w.heap.size) (hc : ∀ b, b < N → col b = none) : Below N w w' ∧ ∀ b, b < N → col' b = none := by
  obtain ⟨G, h1, h2⟩ := h.off
  refine ⟨⟨h1.os, h1.tape, h1.output, h1.size, fun b hb => h1.block b (by omega) (fun hx => ?_)⟩, fun b hb => ?_⟩
  · rcases h2 b hx with ⟨c, e, _⟩ | ⟨_, e⟩
    · rw [hc b hb] at e; cases e
    · omega
  · cases e : col' b with
    | none => rfl
    | some c =>
      rcases h.new b c e with e1 | e1
      · rw [hc b hb] at e1; cases e1
      · omega
/-- An empty desk, made since. -/
structure DL (w W : World) (p dk : Nat) (r : Raw) (col : Nat → Option Col) : Prop where
  bd : BD W p dk st0 r col
  bl : Below w.heap.size w W
  lo : ∀ b, b < w.heap.size → col b = none
theorem DL.later {w W W' : World} {p dk : Nat} {r : Raw} {col : Nat → Option Col} (h : DL w W p dk r col) (k : Below W.heap.size W W') : DL w W' p dk r col := ⟨h.bd.later k, h.bl.trans (k.mono h.bl.size), h.lo⟩
theorem DL.step {w W W' : World} {p dk : Nat} {r r' : Raw} {col col' : Nat → Option Col} (h : DL w W p dk r col) (bd : BD W' p dk st0 r' col') (st : Step anyS W.heap.size col col' W W') : DL w W' p dk r' col' := by
  obtain ⟨k1, k2⟩ := st.low h.bl.size h.bl.size h.lo
  exact ⟨bd, h.bl.trans k1, k2⟩
/-- An answer with days that is kept in a block. -/
structure RpK (W : World) (col : Nat → Option Col) (R : Nat) (er n : Int) (da : Value) (L : List Int) : Prop where
  b : ∃ x y z, W.heap[R]? = some (.cells #[.int .i64 er, .int .i64 0, .int .i64 n, x, da, y, z] 40 (0, 0))
  c : col R = none
  row : W.ownsRow 0 3 1 da L.length (L.map (Value.int .i64))
  no : ∀ b, da.ownBlock = some b → col b = none
theorem RpK.step {S : Col → Prop} {W W' : World} {col col' : Nat → Option Col} {R : Nat} {er n : Int} {da : Value} {L : List Int} (h : RpK W col R er n da L) (st : Step S W.heap.size col col' W W') : RpK W' col' R er n da L := by
  obtain ⟨x, y, z, hb⟩ := h.b
  have hl : R < W.heap.size := (Array.getElem?_eq_some_iff.1 hb).1
  have hv : ∀ b, da.ownBlock = some b → col b = none ∧ b < W.heap.size := fun b hb => ⟨h.no b hb, (h.row.lt b hb).2⟩
  exact ⟨⟨x, y, z, (st.blockN hl h.c hl).trans hb⟩, st.keepN h.c hl, st.own h.row hv, fun b hb => st.keepN (hv b hb).1 (hv b hb).2⟩
theorem RpK.later {W W' : World} {col : Nat → Option Col} {R : Nat} {er n : Int} {da : Value} {L : List Int} (h : RpK W col R er n da L) (k : Below W.heap.size W W') : RpK W' col R er n da L := h.step (S := anyS) (Step.below k)
theorem RpK.cells {W : World} {col : Nat → Option Col} {R : Nat} {er n : Int} {da : Value} {L : List Int} (h : RpK W col R er n da L) : W.cell? ⟨R, 0, none⟩ = some (.int .i64 er) ∧ W.cell? ⟨R, 2, none⟩ = some (.int .i64 n) ∧ W.cell? ⟨R, 4, none⟩ = some da := by
  obtain ⟨x, y, z, hb⟩ := h.b
  refine ⟨?_, ?_, ?_⟩ <;> (simp only [World.cell?, hb]; rfl)

/-- The block of an answer that lies there already, empty. -/
structure ZB (N : Nat) (W : World) (b : Nat) : Prop where
  lo : N ≤ b
  z : W.heap[b]? = some zeroR
theorem zb_last {N : Nat} {A : World} (h : N ≤ A.heap.size) : ZB N (A.alloc zeroR) A.heap.size := ⟨h, heapNew A zeroR⟩
theorem zb_more {N : Nat} {A : World} {b : Nat} (h : ZB N A b) (o : Obj) : ZB N (A.alloc o) b := ⟨h.lo, (Below.heap_alloc A o b (Array.getElem?_eq_some_iff.1 h.z).1).trans h.z⟩
theorem zb_later {N : Nat} {A A' : World} {b : Nat} (h : ZB N A b) (k : Below A.heap.size A A') : ZB N A' b := ⟨h.lo, (k.block b (Array.getElem?_eq_some_iff.1 h.z).1).trans h.z⟩
theorem zb_lastK {N : Nat} {A A' : World} (k : Below (A.alloc zeroR).heap.size (A.alloc zeroR) A') (h : N ≤ A.heap.size) : ZB N A' A.heap.size := zb_later (zb_last h) k
theorem zb_prevK {N : Nat} {A A' : World} {o : Obj} (k : Below ((A.alloc zeroR).alloc o).heap.size ((A.alloc zeroR).alloc o) A') (h : N ≤ A.heap.size) : ZB N A' A.heap.size := zb_later (zb_more (zb_last h) o) k
theorem zb_lastKd {N : Nat} {A A' : World} (k : Below (A.alloc zeroR).drew.heap.size (A.alloc zeroR).drew A') (h : N ≤ A.heap.size) : ZB N A' A.heap.size := zb_later (A := (A.alloc zeroR).drew) ⟨h, heapNew A zeroR⟩ k
theorem zb_prevKd {N : Nat} {A A' : World} {o : Obj} (k : Below ((A.alloc zeroR).alloc o).drew.heap.size ((A.alloc zeroR).alloc o).drew A') (h : N ≤ A.heap.size) : ZB N A' A.heap.size := zb_later (A := ((A.alloc zeroR).alloc o).drew) ⟨h, (zb_more (zb_last (N := N) h) o).z⟩ k
theorem zb_keepK {N : Nat} {A A' : World} {b : Nat} (z : ZB N A b) (k : Below A.heap.size A A') : ZB N A' b := zb_later z k
theorem zb_keepK2 {N : Nat} {A A' : World} {b : Nat} {o : Obj} (z : ZB N A b) (k : Below (A.alloc o).heap.size (A.alloc o) A') : ZB N A' b := zb_later (zb_more z o) k
theorem ac_prev {A : World} {o o' : Obj} {i : Nat} {v : Value} (h : (A.alloc o).cell? ⟨A.heap.size, i, none⟩ = some v) : ((A.alloc o).alloc o').cell? ⟨A.heap.size, i, none⟩ = some v := by
  have hl := World.block_lt_of_cell? _ _ h
  exact (World.cell?_of_block (w := A.alloc o) (Below.heap_alloc _ o' _ hl)).trans h
theorem acLater {W : World} {b i : Nat} {v : Value} (h : W.cell? ⟨b, i, none⟩ = some v) (o : Obj) : (W.alloc o).cell? ⟨b, i, none⟩ = some v := (World.cell?_of_block (w := W) (Below.heap_alloc _ o _ (World.block_lt_of_cell? _ _ h))).trans h
theorem moAll_pre (y m n dt : Int) (i : Nat) : ∀ j : Nat, ∃ r, Rd.moAll y m n dt (i + j) = Rd.moAll y m n dt i ++ r
  | 0 => ⟨[], by simp⟩
  | j + 1 => by
    obtain ⟨r, hr⟩ := moAll_pre y m n dt i j
    exact ⟨r ++ Rd.moL y m n dt (i + j), by rw [show i + (j + 1) = (i + j) + 1 from by omega, Rd.moAll, hr, List.append_assoc]⟩
theorem want_end {y m n dt : Int} {i : Nat} (hi : i ≤ 24) (hl : (Rd.moAll y m n dt i).length ≤ 3) (hx : i = 24 ∨ (Rd.moAll y m n dt i).length = 3) : (Rd.moAll y m n dt 24).take 3 = Rd.moAll y m n dt i ∧ ((Rd.moAll y m n dt 24).length < 3 ↔ (Rd.moAll y m n dt i).length < 3) := by
  obtain ⟨r, hr⟩ := moAll_pre y m n dt i (24 - i)
  rw [show i + (24 - i) = 24 from by omega] at hr
  rcases hx with rfl | hx
  · exact ⟨List.take_of_length_le hl, Iff.rfl⟩
  · rw [hr]
    refine ⟨?_, ?_⟩
    · rw [← hx, List.take_left]
    · rw [List.length_append]; omega
/-- The world is as it was. -/
def SameW (a b : World) : Prop := b = a
theorem row_at {W : World} {x : Option Addr} {n y : Nat} {L : List Int} (h : W.ownsRow 0 3 1 (.slice x n y) L.length (L.map (Value.int .i64))) (j : Nat) (hj : j < L.length) : ∃ g, x = some ⟨g, 0, none⟩ ∧ W.cell? ⟨g, j, none⟩ = some (.int .i64 L[j]) := by
  obtain ⟨g, cap, e⟩ := Joins.ownsRow_form h (by omega)
  simp only [Value.slice.injEq] at e
  obtain ⟨rfl, rfl, rfl⟩ := e
  have a0 := h.cellAt j (by omega)
  rw [List.getElem?_map, List.getElem?_eq_getElem hj, Option.map_some] at a0
  exact ⟨g, rfl, a0⟩
/-- What Do leaves of it. -/
theorem zb_step {S : Col → Prop} {Y W W' : World} {p dk : Nat} {r : Raw} {col col' : Nat → Option Col} {b : Nat} (z : ZB Y.heap.size W b) (h : BD Y p dk st0 r col) (st : Step S W.heap.size col col' W W') : Q7 W' b ∧ (W'.heap[b]? = some zeroR ∧ Y.heap.size ≤ b ∧ col' b = none ∧ b < W.heap.size) := by
  have hl := (Array.getElem?_eq_some_iff.1 z.z).1
  have hc := h.ds.dk.none z.lo
  exact ⟨(Q7.of z.z).later (st.blockN hl hc hl), (st.blockN hl hc hl).trans z.z, z.lo, st.keepN hc hl, hl⟩

theorem setCell_row {W : World} {b i : Nat} {cs : Array Value} {t : TypeId} {q : Nat × Nat} (h : W.heap[b]? = some (.cells cs t q)) (v : Value) : (W.setCell ⟨b, i, none⟩ v).heap[b]? = some (.cells (cs.setIfInBounds i v) t q) := by
  obtain ⟨hlt, hk⟩ := Array.getElem?_eq_some_iff.1 h
  show (W.heap.modify b _)[b]? = _
  rw [Array.getElem?_eq_getElem (by rw [Array.size_modify]; exact hlt), Array.getElem_modify_self, hk]
  rfl
theorem set7_heap {W : World} {Q : Nat} (h : W.heap[Q]? = some zeroR) (a b c d e f g : Value) : (set7 W Q a b c d e f g).heap[Q]? = some (.cells #[a, b, c, d, e, f, g] 40 (0, 0)) := by
  unfold set7
  exact setCell_row (setCell_row (setCell_row (setCell_row (setCell_row (setCell_row (setCell_row h _) _) _) _) _) _) _
theorem fin_do {w Y Wc w9 : World} {p dk R1 : Nat} {r1 r2 : Raw} {col1 col2 : Nat → Option Col} {e1 n1 : Int} {da1 : Value} {L1 : List Int} (h6 : DL w Y p dk r1 col1) (hr : RpK Y col1 R1 e1 n1 da1 L1) (k : Below Y.heap.size Y Wc) (bd9 : BD w9 p dk st0 r2 col2) (st9 : Step anyS Wc.heap.size col1 col2 Wc w9) :
    DL w w9 p dk r2 col2 ∧ RpK w9 col2 R1 e1 n1 da1 L1 ∧ (∀ b, Y.heap.size ≤ b → col1 b = none) ∧ Y.heap.size ≤ w9.heap.size ∧ p < Y.heap.size ∧ R1 < Y.heap.size ∧ (∀ b, da1.ownBlock = some b → b < Y.heap.size) ∧ w.heap.size ≤ Y.heap.size ∧ 10 ≤ Y.heap.size := by
  obtain ⟨x, y, z, hb⟩ := hr.b
  exact ⟨(h6.later k).step bd9 st9, (hr.later k).step st9, fun b hb => h6.bd.ds.dk.none hb, Nat.le_trans k.size st9.size, (Array.getElem?_eq_some_iff.1 h6.bd.pc).1, (Array.getElem?_eq_some_iff.1 hb).1, fun b hb => (hr.row.lt b hb).2, h6.bl.size, h6.bd.env.size⟩
/-- The answer comes into a block that was made since. -/
theorem fin_b {w Y w9 : World} {p dk R1 : Nat} {r2 : Raw} {col1 col2 : Nat → Option Col} {e1 n1 : Int} {da1 : Value} {L1 : List Int} (h : DL w w9 p dk r2 col2 ∧ RpK w9 col2 R1 e1 n1 da1 L1 ∧ (∀ b, Y.heap.size ≤ b → col1 b = none) ∧ Y.heap.size ≤ w9.heap.size ∧ p < Y.heap.size ∧ R1 < Y.heap.size ∧ (∀ b, da1.ownBlock = some b → b < Y.heap.size) ∧ w.heap.size ≤ Y.heap.size ∧ 10 ≤ Y.heap.size)
    {B : Nat} {er n : Int} {L : List Int} {x y z da : Value} (row : w9.ownsRow B 3 1 da L.length (L.map (Value.int .i64))) (no : ∀ b, da.ownBlock = some b → col2 b = none) :
    DL w (w9.alloc (.cells #[.int .i64 er, .int .i64 0, .int .i64 n, x, da, y, z] 40)) p dk r2 col2 ∧ RpK (w9.alloc (.cells #[.int .i64 er, .int .i64 0, .int .i64 n, x, da, y, z] 40)) col2 R1 e1 n1 da1 L1 ∧ RpK (w9.alloc (.cells #[.int .i64 er, .int .i64 0, .int .i64 n, x, da, y, z] 40)) col2 w9.heap.size er n da L := by
  have k := (Below.refl w9.heap.size w9).alloc (Nat.le_refl _) (.cells #[.int .i64 er, .int .i64 0, .int .i64 n, x, da, y, z] 40)
  exact ⟨h.1.later k, h.2.1.later k, ⟨⟨_, _, _, heapNew w9 _⟩, h.1.bd.ds.dk.none (Nat.le_refl _), ownLow (ownBl row k) (Nat.zero_le _), no⟩⟩
/-- The answer comes into a block that lay there. -/
theorem fin_a {w Y w9 : World} {p dk R1 : Nat} {r2 : Raw} {col1 col2 : Nat → Option Col} {e1 n1 : Int} {da1 : Value} {L1 : List Int} (h : DL w w9 p dk r2 col2 ∧ RpK w9 col2 R1 e1 n1 da1 L1 ∧ (∀ b, Y.heap.size ≤ b → col1 b = none) ∧ Y.heap.size ≤ w9.heap.size ∧ p < Y.heap.size ∧ R1 < Y.heap.size ∧ (∀ b, da1.ownBlock = some b → b < Y.heap.size) ∧ w.heap.size ≤ Y.heap.size ∧ 10 ≤ Y.heap.size)
    {B Q : Nat} {er n : Int} {L : List Int} {x y z da : Value} (row : w9.ownsRow B 3 1 da L.length (L.map (Value.int .i64))) (no : ∀ b, da.ownBlock = some b → col2 b = none) (hz : w9.heap[Q]? = some zeroR ∧ Y.heap.size ≤ Q ∧ col2 Q = none ∧ Q < B) :
    DL w (set7 w9 Q (.int .i64 er) (.int .i64 0) (.int .i64 n) x da y z) p dk r2 col2 ∧ RpK (set7 w9 Q (.int .i64 er) (.int .i64 0) (.int .i64 n) x da y z) col2 R1 e1 n1 da1 L1 ∧ RpK (set7 w9 Q (.int .i64 er) (.int .i64 0) (.int .i64 n) x da y z) col2 Q er n da L := by
  obtain ⟨dl, rp, _, ys, py, ry, ly, wy, ty⟩ := h
  obtain ⟨z1, z2, z3, z4⟩ := hz
  have ko := set7_off w9 Q (.int .i64 er) (.int .i64 0) (.int .i64 n) x da y z
  have hs := set7_heap z1 (.int .i64 er) (.int .i64 0) (.int .i64 n) x da y z
  generalize set7 w9 Q (.int .i64 er) (.int .i64 0) (.int .i64 n) x da y z = V at *
  have kb : ∀ N, N ≤ Y.heap.size → Below N w9 V := fun N hN => ⟨ko.os, ko.tape, ko.output, ko.size, fun b hb => ko.block b (by omega) (fun hx => by have := List.mem_singleton.1 hx; omega)⟩
  have own : ∀ {C : Nat} {v : Value} {l : List Int}, w9.ownsRow C 3 1 v l.length (l.map (Value.int .i64)) → (∀ b, v.ownBlock = some b → b ≠ Q) → V.ownsRow C 3 1 v l.length (l.map (Value.int .i64)) := fun h hq => by
    refine ⟨h.1, ?_⟩
    rcases h.2 with h0 | ⟨g, cap, cur, rfl, h2, h3, h4⟩
    · exact .inl h0
    · exact .inr ⟨g, cap, cur, rfl, h2, (ko.block g (Array.getElem?_eq_some_iff.1 h3).1 (fun hx => hq g rfl (List.mem_singleton.1 hx))).trans h3, h4⟩
  obtain ⟨x1, y1, q1, hb1⟩ := rp.b
  refine ⟨⟨⟨(ko.block p (by omega) (fun hx => by have := List.mem_singleton.1 hx; omega)).trans dl.bd.pc, dl.bd.pn, ⟨dl.bd.ds.dk.off ko (fun b hb => by have : b = Q := List.mem_singleton.1 hb; subst this; exact z3), dl.bd.ds.of, dl.bd.ds.wl, dl.bd.ds.hl, dl.bd.ds.inv⟩, dl.bd.env.ten (kb 10 ty), dl.bd.gl⟩, dl.bl.trans (kb _ wy), dl.lo⟩,
    ⟨⟨x1, y1, q1, (ko.block R1 (by omega) (fun hx => by have := List.mem_singleton.1 hx; omega)).trans hb1⟩, rp.c, own rp.row (fun b hb e => by have := ly b hb; omega), rp.no⟩,
    ⟨⟨x, y, z, hs⟩, z3, ownLow (own row (fun b hb e => by have := (row.lt b hb).1; omega)) (Nat.zero_le _), no⟩⟩

theorem entNum (args : Array Value) (w : World) : (callFunc 21 args).run Tryz.prog w = .ok (.enter 21 args) w := enters_of Tryz.func21 (by kernel_rfl) rfl args w
theorem entDo (args : Array Value) (w : World) : (callFunc 20 args).run Tryz.prog w = .ok (.enter 20 args) w := enters_of Tryz.func20 (by kernel_rfl) rfl args w
theorem wd_is {dd : Int} (h0 : 0 ≤ dd) : ∃ (i : Nat) (wd : ByteArray), i < 7 ∧ dd.tmod 7 = (i : Int) ∧ wd.size = 2 ∧ Txt.onW wd = some [dd % 7] ∧ Txt.wordB wd.data.toList = true ∧ ∀ W : World, (W.alloc (.cells #[.string ⟨#[109, 111]⟩, .string ⟨#[116, 117]⟩, .string ⟨#[119, 101]⟩, .string ⟨#[116, 104]⟩, .string ⟨#[102, 114]⟩, .string ⟨#[115, 97]⟩, .string ⟨#[115, 117]⟩] 9)).cell? ⟨W.heap.size, i, none⟩ = some (.string wd) := by
  rw [Int.tmod_eq_emod_of_nonneg h0]
  have h : dd % 7 = 0 ∨ dd % 7 = 1 ∨ dd % 7 = 2 ∨ dd % 7 = 3 ∨ dd % 7 = 4 ∨ dd % 7 = 5 ∨ dd % 7 = 6 := by omega
  rcases h with e | e | e | e | e | e | e <;> rw [e]
  · exact ⟨0, ⟨#[109, 111]⟩, by decide, by decide, by decide, by decide +kernel, by decide +kernel, fun W => by simp⟩
  · exact ⟨1, ⟨#[116, 117]⟩, by decide, by decide, by decide, by decide +kernel, by decide +kernel, fun W => by simp⟩
  · exact ⟨2, ⟨#[119, 101]⟩, by decide, by decide, by decide, by decide +kernel, by decide +kernel, fun W => by simp⟩
  · exact ⟨3, ⟨#[116, 104]⟩, by decide, by decide, by decide, by decide +kernel, by decide +kernel, fun W => by simp⟩
  · exact ⟨4, ⟨#[102, 114]⟩, by decide, by decide, by decide, by decide +kernel, by decide +kernel, fun W => by simp⟩
  · exact ⟨5, ⟨#[115, 97]⟩, by decide, by decide, by decide, by decide +kernel, by decide +kernel, fun W => by simp⟩
  · exact ⟨6, ⟨#[115, 117]⟩, by decide, by decide, by decide, by decide +kernel, by decide +kernel, fun W => by simp⟩

set_option maxRecDepth 100000 in
set_option maxHeartbeats 40000000 in
theorem daysLaw_any (d n times : Int) (w : World) (he : Env w) (hd1 : -9223372036854775808 ≤ d) (hd2 : d ≤ 9223372036854775807) (hn1 : -9223372036854775808 ≤ n) (hn2 : n ≤ 9223372036854775807) (ht1 : -9223372036854775808 ≤ times) (ht2 : times ≤ 9223372036854775807) :
    Calls Tryz.prog 9 #[.int .i64 d, .int .i64 n, .int .i64 times] w fun e w' => e = .returned (.bool true) ∧ Below w.heap.size w w' := by
  obtain ⟨da, db⟩ := pickV_bd (c := d) (n := 300) (by omega)
  obtain ⟨na, nb⟩ := pickV_bd (c := n) (n := 6) (by omega)
  obtain ⟨ta, tb⟩ := pickV_bd (c := times) (n := 40) (by omega)
  have k1 : IntKind.i64.wrap (1 + pickV n 6) = 1 + pickV n 6 := wrap_small (by omega) (by omega)
  have k2 : IntKind.i64.wrap (1 + pickV times 40) = 1 + pickV times 40 := wrap_small (by omega) (by omega)
  have NE := hidp (bNew_any w he)
  have h10 := he.size
  clear he
  go_enter Tryz.func9, Tryz.ntmps9
  go_upto_region 4 with (first
    | (go_at_call 29; refine (pickN_any _ _ _ (by assumption) (by assumption) (by omega) (by omega)).mono ?_; rintro e w ⟨rfl, rfl⟩))
  generalize pickV d 300 = dd at *
  generalize pickV n 6 = n0 at *
  generalize pickV times 40 = t0 at *
  have hn1' : 1 ≤ 1 + n0 := by omega
  have ht1' : 1 ≤ 1 + t0 := by omega
  have hn2' : 1 + n0 ≤ 6 := by omega
  have ht2' : 1 + t0 ≤ 40 := by omega
  clear na nb ta tb hd1 hd2 hn1 hn2 ht1 ht2 k1 k2
  generalize 1 + n0 = nn at *
  generalize 1 + t0 = tt at *
  go_upto_region 7 with (first
    | (go_at_call 30; refine NE.out.mono ?_; rintro e w1 ⟨p, dk, col, rfl, bd, hb, hlo⟩))
  have BD1 := hidp (DL.mk bd hb hlo)
  have DT := hidp (bDate_yes dd w1 bd.env.tab (by omega) (by omega))
  clear NE bd hb hlo
  go_upto_region 8 with (first
    | (go_at_call 31; refine DT.out.mono ?_; rintro e w1 ⟨y, m, k, rfl, hok, hnum, rfl⟩))
  obtain rfl := year24 hok hnum da db
  have hb24 : ((2024 : Int) != 2024) = false := by rfl
  obtain ⟨g1, g2, g3, g4, g5, g6⟩ := (Cal.ok_iff 2024 m k).1 hok
  have gd := Cal.dim_bd 2024 m
  have HOK := hidp (And.intro hok hnum)
  have g7 : k ≤ 31 := by omega
  have s45 := (date_is hok).2.2.2
  obtain ⟨s4, s5⟩ := s45
  clear hok hnum g1 g2 gd g6 DT
  have z1 := Txt.itoa_size nn (by omega) (by omega)
  have z2 := Txt.itoa_size tt (by omega) (by omega)
  have TM := hidp (fun W (hW : Env W) => two_any m W hW (by omega) (by omega))
  have TK := hidp (fun W (hW : Env W) => two_any k W hW (by omega) (by omega))
  go_upto_region 10 with fail
  go_upto_region 11 with (first
    | (go_at_call 32; refine (TM.out _ BD1.out.bd.env).mono ?_; rintro e w2 ⟨rfl, hb2⟩; have BD2 := hidp (BD1.out.later hb2); clear TM)
    | (go_at_call 32; refine (TK.out _ BD2.out.bd.env).mono ?_; rintro e w3 ⟨rfl, hb3⟩; have BD3 := hidp (BD2.out.later hb3); clear TK))
  have EX := hidp (fun W r c (hW : BD W p dk st0 r c) => expand_do hW (lineD nn m k tt) (Rd.dailyR nn dd tt) (Rd.daily_fine da (by omega) hn1' (by omega) (by omega) (by omega)) (lineD_reads HOK.out.1 HOK.out.2 hn1' (by omega) ht1' (by omega)) 0 (Rd.prog dd nn tt.toNat) (by
    obtain ⟨q1, q2⟩ := Rd.daily_is (n := nn) (d := dd) (t := tt) da db hn1' hn2' ht1' ht2'
    rw [step_expand q1, q2]))
  rw [Rd.prog_len] at EX
  have etn : (tt.toNat : Int) = tt := by omega
  rw [etn] at EX
  unfold lineD fromS repV at EX
  go_upto_region 12 with (first
    | (go_at_call 21; refine (kNum_any nn w3 BD3.out.bd.env (by omega) (by omega)).mono ?_; rintro e w4 ⟨rfl, hb4⟩; have BD4 := hidp (BD3.out.later hb4); clear BD3)
    | (go_at_call 21; refine (kNum_any tt w4 BD4.out.bd.env (by omega) (by omega)).mono ?_; rintro e w5 ⟨rfl, hb5⟩; have BD5 := hidp (BD4.out.later hb5); clear BD4)
    | (go_at_call 20; refine (EX.out _ _ _ BD5.out.bd).mono ?_; rintro e w6 ⟨a1, a2, a3, a4, n1, n3, n4, c1, c2, c3, c4, rfl, row1, r1, col1, bd6, st6, no1⟩))
  have RP1 : Hid (RpK (w6.alloc (.cells #[.int .i64 0, .int .i64 0, .int .i64 tt, .slice a1 n1 c1, .slice a2 tt.toNat c2, .slice a3 n3 c3, .slice a4 n4 c4] 40)) col1 w6.heap.size 0 tt (.slice a2 tt.toNat c2) (Rd.prog dd nn tt.toNat)) := by
    have k := (Below.refl w6.heap.size w6).alloc (Nat.le_refl _) (.cells #[.int .i64 0, .int .i64 0, .int .i64 tt, .slice a1 n1 c1, .slice a2 tt.toNat c2, .slice a3 n3 c3, .slice a4 n4 c4] 40)
    exact ⟨⟨_, _, _, heapNew w6 _⟩, bd6.ds.dk.none (Nat.le_refl _), by rw [Rd.prog_len]; exact ownLow (ownBl row1 k) (Nat.zero_le _), no1⟩
  have BD6 : Hid (DL w (w6.alloc (.cells #[.int .i64 0, .int .i64 0, .int .i64 tt, .slice a1 n1 c1, .slice a2 tt.toNat c2, .slice a3 n3 c3, .slice a4 n4 c4] 40)) p dk r1 col1) := (BD5.out.step bd6 st6).later ((Below.refl w6.heap.size w6).alloc (Nat.le_refl _) _)
  clear row1 bd6 st6 no1 EX hb2 hb3 hb4 hb5 BD1 BD2 BD5
  generalize w6.alloc (.cells #[.int .i64 0, .int .i64 0, .int .i64 tt, .slice a1 n1 c1, .slice a2 tt.toNat c2, .slice a3 n3 c3, .slice a4 n4 c4] 40) = Y at *
  have t9 : IntKind.i64.wrap (1 + tt.tmod 9) = 1 + tt % 9 := by rw [Int.tmod_eq_emod_of_nonneg (by omega)]; exact wrap_small (by omega) (by omega)
  have z3 := Txt.itoa_size (1 + tt % 9) (by omega) (by omega)
  obtain ⟨i, wd, hi, hq, hws, hon, hwb, AC⟩ := wd_is da
  have hi' : (i : Int) < 7 := by omega
  have NA := hidp (fun W (hW : Below Y.heap.size Y W) => kNum_any nn W (BD6.out.later hW).bd.env (by omega) (by omega))
  have NB := hidp (fun W (hW : Below Y.heap.size Y W) => kNum_any (1 + tt % 9) W (BD6.out.later hW).bd.env (by omega) (by omega))
  have EX := hidp (fun W (hW : Below Y.heap.size Y W) => expand_do (BD6.out.later hW).bd (lineW nn wd m k (1 + tt % 9)) (Rd.weeklyR nn dd (1 + tt % 9)) (Rd.weekly_fine da (by omega) hn1' (by omega) (by omega) (by omega)) (lineW_reads HOK.out.1 HOK.out.2 hn1' (by omega) (by omega) (by omega) hon hwb hws) 0 (Rd.prog dd (7 * nn) (1 + tt % 9).toNat) (by
    obtain ⟨q1, q2⟩ := Rd.weekly_is (n := nn) (d := dd) (t := 1 + tt % 9) da db hn1' hn2' (by omega) (by omega)
    rw [step_expand q1, q2]))
  rw [Rd.prog_len] at EX
  have eun : ((1 + tt % 9).toNat : Int) = 1 + tt % 9 := by omega
  rw [eun] at EX
  unfold lineW fromS repV at EX
  generalize huu : 1 + tt % 9 = uu at *
  have hbu : (uu != 1 + tt % 9) = false := by rw [huu]; simp
  have huu9 : 1 ≤ uu ∧ uu ≤ 9 := by omega
  clear huu
  have D0 : Hid (Below Y.heap.size Y Y.drew) := blwDrew Y
  have AC2 : ∀ (W : World) (o : Obj), ((W.alloc (.cells #[.string ⟨#[109, 111]⟩, .string ⟨#[116, 117]⟩, .string ⟨#[119, 101]⟩, .string ⟨#[116, 104]⟩, .string ⟨#[102, 114]⟩, .string ⟨#[115, 97]⟩, .string ⟨#[115, 117]⟩] 9)).alloc o).cell? ⟨W.heap.size, i, none⟩ = some (.string wd) := fun W o => ac_prev (AC W)
  have AC3 : ∀ (W : World) (o : Obj), ((W.alloc o).alloc (.cells #[.string ⟨#[109, 111]⟩, .string ⟨#[116, 117]⟩, .string ⟨#[119, 101]⟩, .string ⟨#[116, 104]⟩, .string ⟨#[102, 114]⟩, .string ⟨#[115, 97]⟩, .string ⟨#[115, 117]⟩] 9)).cell? ⟨W.heap.size + 1, i, none⟩ = some (.string wd) := fun W o => by have := AC (W.alloc o); rwa [World.size_alloc] at this
  clear hon hwb
  have sz0 : ¬ (9223372036854775807 < 14 + (Txt.itoaS nn).size) := by omega
  have sz1 : ¬ (9223372036854775807 < 14 + (Txt.itoaS nn).size + 1) := by omega
  have sz2 : ¬ (9223372036854775807 < 14 + (Txt.itoaS nn).size + 1 + 2) := by omega
  have sz3 : ¬ (9223372036854775807 < 14 + (Txt.itoaS nn).size + 3) := by omega
  have sz4 : ¬ (9223372036854775807 < 14 + (Txt.itoaS nn).size + 1 + 2 + 38) := by omega
  have sz5 : ¬ (9223372036854775807 < 14 + (Txt.itoaS nn).size + 3 + 38) := by omega
  have sz6 : ¬ (9223372036854775807 < 14 + (Txt.itoaS nn).size + 41) := by omega
  have sz7 : ¬ (9223372036854775807 < 14 + (Txt.itoaS nn).size + 1 + 2 + 38 + (Txt.itoaS uu).size) := by omega
  have sz8 : ¬ (9223372036854775807 < 14 + (Txt.itoaS nn).size + 3 + 38 + (Txt.itoaS uu).size) := by omega
  have sz9 : ¬ (9223372036854775807 < 14 + (Txt.itoaS nn).size + 41 + (Txt.itoaS uu).size) := by omega
  have hFTs : (((((⟨#[32, 102, 114, 111, 109, 32, 50, 48, 50, 52, 45]⟩ : ByteArray) ++ twoS m) ++ ⟨#[45]⟩) ++ twoS k) ++ ⟨#[32, 97, 116, 32, 48, 48, 58, 48, 48, 32, 102, 111, 114, 32, 49, 32, 116, 105, 109, 101, 115, 32]⟩).size = 38 := by simp only [ByteArray.size_append, s4, s5]; rfl
  generalize hFT : (((((⟨#[32, 102, 114, 111, 109, 32, 50, 48, 50, 52, 45]⟩ : ByteArray) ++ twoS m) ++ ⟨#[45]⟩) ++ twoS k) ++ ⟨#[32, 97, 116, 32, 48, 48, 58, 48, 48, 32, 102, 111, 114, 32, 49, 32, 116, 105, 109, 101, 115, 32]⟩) = FT at *
  have HFT := hidp hFT
  clear hFT
  generalize Value.string ((((⟨#[32, 102, 114, 111, 109, 32, 50, 48, 50, 52, 45]⟩ : ByteArray) ++ twoS m) ++ ⟨#[45]⟩) ++ twoS k) = g53
  generalize Value.string (((⟨#[32, 102, 114, 111, 109, 32, 50, 48, 50, 52, 45]⟩ : ByteArray) ++ twoS m) ++ ⟨#[45]⟩) = g50
  generalize Value.string ((⟨#[32, 102, 114, 111, 109, 32, 50, 48, 50, 52, 45]⟩ : ByteArray) ++ twoS m) = g49
  generalize Value.string ((((⟨#[101, 120, 112, 97, 110, 100, 32, 100, 97, 105, 108, 121, 32]⟩ : ByteArray) ++ Txt.itoaS nn) ++ FT) ++ Txt.itoaS tt) = g63
  generalize Value.string (((⟨#[101, 120, 112, 97, 110, 100, 32, 100, 97, 105, 108, 121, 32]⟩ : ByteArray) ++ Txt.itoaS nn) ++ FT) = g60
  generalize Value.string ((⟨#[101, 120, 112, 97, 110, 100, 32, 100, 97, 105, 108, 121, 32]⟩ : ByteArray) ++ Txt.itoaS nn) = g58
  generalize Value.tuple #[.int .i64 2024, .int .i64 m, .int .i64 k, .int .i64 0] = g34
  generalize Value.agg #[.int .i64 0, .int .i64 0, .int .i64 tt, .slice a1 n1 c1, .slice a2 tt.toNat c2, .slice a3 n3 c3, .slice a4 n4 c4] = g64
  clear z2
  rename_i K hK
  have HDT : Hid (Cal.yT dd = 2024 ∧ Cal.mT dd = m ∧ Cal.dT dd = k) := by
    obtain ⟨x1, x2, x3⟩ := Cal.dT_one 2024 m k dd HOK.out.1 HOK.out.2
    exact ⟨x1.symm, x2.symm, x3.symm⟩
  have KK : ∀ (u23 u24 u25 u26 u27 u28 u29 u30 u31 u32 u33 u34 u35 u36 u37 u38 u39 u40 u41 u42 u43 u44 u45 u46 u47 u48 u49 u50 u51 u52 u53 u54 u55 u56 u57 u58 u59 u60 u61 u62 u63 u64 u65 u66 u67 u68 u69 u70 u71 u72 u73 u74 u75 u76 u77 u78 u79 u80 u81 u82 u83 : Value) (R1 R2 : Nat) (W : World) (r2 : Raw) (col2 : Nat → Option Col) (x1 x2 : Option Addr) (y1 y2 : Nat), DL w W p dk r2 col2 → RpK W col2 R1 0 tt (.slice x1 tt.toNat y1) (Rd.prog dd nn tt.toNat) → RpK W col2 R2 0 uu (.slice x2 uu.toNat y2) (Rd.prog dd (7 * nn) uu.toNat) →
      K { tmps := #[.int .i64 dd, .int .i64 nn, .int .i64 tt, undef, undef, undef, .bool false, .pointer (some ⟨p, 0, none⟩), .int .i64 2024, .int .i64 m, .int .i64 k, .int .i64 0, .string FT, .pointer (some ⟨R1, 0, none⟩), .pointer (some ⟨R2, 0, none⟩), undef, undef, undef, undef, undef, undef, undef, undef, u23, u24, u25, u26, u27, u28, u29, u30, u31, u32, u33, u34, u35, u36, u37, u38, u39, u40, u41, u42, u43, u44, u45, u46, u47, u48, u49, u50, u51, u52, u53, u54, u55, u56, u57, u58, u59, u60, u61, u62, u63, u64, u65, u66, u67, u68, u69, u70, u71, u72, u73, u74, u75, u76, u77, u78, u79, u80, u81, u82, u83, undef, undef, undef, undef, undef, undef, undef, undef, undef, undef, undef, undef, undef, undef, undef, undef, undef, undef, undef, undef, undef, undef, undef, undef, undef, undef, undef, undef, undef, undef, undef, undef, undef, undef, undef, undef, undef, undef, undef, undef, undef, undef, undef, undef, undef, undef, undef, undef, undef, undef, undef, undef, undef, undef, undef, undef, undef, undef, undef, undef, undef, undef, undef, undef, undef, undef, undef, undef, undef, undef, undef, undef, undef, undef, undef, undef, undef, undef, undef, undef, undef, undef, undef, undef, undef, undef, undef, undef, undef, undef, undef, undef, undef, undef, undef, undef, undef, undef, undef, undef, undef, undef, undef, undef, undef, undef, undef, undef, undef, undef, undef, undef, undef, undef, undef, undef, undef, undef, undef, undef, undef, undef, undef, undef, undef, undef, undef, undef, undef, undef, undef, undef, undef, undef, undef], defers := [] } W := by
    intro u23 u24 u25 u26 u27 u28 u29 u30 u31 u32 u33 u34 u35 u36 u37 u38 u39 u40 u41 u42 u43 u44 u45 u46 u47 u48 u49 u50 u51 u52 u53 u54 u55 u56 u57 u58 u59 u60 u61 u62 u63 u64 u65 u66 u67 u68 u69 u70 u71 u72 u73 u74 u75 u76 u77 u78 u79 u80 u81 u82 u83 R1 R2 W r2 col2 x1 x2 y1 y2 hDL hR1 hR2
    obtain ⟨i0, hi0, hz0, hz1, hz2⟩ := info_parts infoInt
    refine hK _ _ ?_
    clear hK AC AC2 AC3 NA NB EX BD6 D0 RP1 hi hi' hq hws sz0 sz1 sz2 sz3 sz4 sz5 sz6 sz7 sz8 sz9
    have HDL := hidp hDL
    have HR1 := hidp hR1
    have HR2 := hidp hR2
    clear hDL hR1 hR2
    obtain ⟨M, hM⟩ : ∃ M, M = Rd.moAll 2024 m nn k 24 := ⟨_, rfl⟩
    obtain ⟨er3, L3, hS3, hE3⟩ : ∃ (er3 : Int) (L3 : List Int), Desk.stepD st0 (.expand (Rd.monthlyR nn dd 3)) = (st0, ⟨er3, 0, (L3.length : Int), [], L3, [], []⟩) ∧ (M.length < 3 → er3 = 6 ∧ L3 = []) ∧ (¬ M.length < 3 → er3 = 0 ∧ L3 = M.take 3) := by
      obtain ⟨g1, g2⟩ := Rd.monthly_is (n := nn) (d := dd) da (by omega) hn1' (by omega)
      rw [HDT.out.1, HDT.out.2.1, HDT.out.2.2, ← hM] at g1 g2
      by_cases hlt : M.length < 3
      · rw [if_pos hlt] at g2
        refine ⟨6, [], ?_, fun _ => ⟨rfl, rfl⟩, fun h => absurd hlt h⟩
        rw [step_expand_err (Rd.monthly_fine da (by omega) hn1' (by omega) (by omega) (by omega)) (by rw [g2]; decide), g2]; rfl
      · rw [if_neg hlt] at g2
        refine ⟨0, M.take 3, ?_, fun h => absurd h hlt, fun _ => ⟨rfl, rfl⟩⟩
        rw [step_expand g2, g1]
    have HM := hidp hM
    clear hM
    have NU := hidp (kNum_any nn W HDL.out.bd.env (by omega) (by omega))
    have EX := hidp (fun W (hW : BD W p dk st0 r2 col2) => expand_do hW (lineM nn m k) (Rd.monthlyR nn dd 3) (Rd.monthly_fine da (by omega) hn1' (by omega) (by omega) (by omega)) (lineM_reads HOK.out.1 HOK.out.2 hn1' (by omega)) er3 L3 hS3)
    have HE3 := hidp hE3
    unfold lineM fromS repV at EX
    rw [HFT.out] at EX
    clear hS3 hE3
    go_upto_region 14 with (first
      | (go_at_call 21; refine NU.out.mono ?_; rintro e w10 ⟨rfl, hb10⟩; have DL10 := hidp (HDL.out.later hb10); have HB10 := hidp hb10; clear NU)
      | (go_at_call 20; refine (EX.out _ DL10.out.bd).mono ?_; rintro e w11 ⟨a1, a2, a3, a4, n1, n3, n4, c1, c2, c3, c4, rfl, row3, r3, col3, bd11, st11, no3⟩))
    have k11 := (Below.refl w11.heap.size w11).alloc (Nat.le_refl _) (.cells #[.int .i64 er3, .int .i64 0, .int .i64 (L3.length : Int), .slice a1 n1 c1, .slice a2 L3.length c2, .slice a3 n3 c3, .slice a4 n4 c4] 40)
    have RP3 : Hid (RpK (w11.alloc (.cells #[.int .i64 er3, .int .i64 0, .int .i64 (L3.length : Int), .slice a1 n1 c1, .slice a2 L3.length c2, .slice a3 n3 c3, .slice a4 n4 c4] 40)) col3 w11.heap.size er3 (L3.length : Int) (.slice a2 L3.length c2) L3) := ⟨⟨_, _, _, heapNew w11 _⟩, bd11.ds.dk.none (Nat.le_refl _), ownLow (ownBl row3 k11) (Nat.zero_le _), no3⟩
    have DL3 := hidp ((DL10.out.step bd11 st11).later k11)
    have RP1 := hidp (((HR1.out.later HB10.out).step st11).later k11)
    have RP2 := hidp (((HR2.out.later HB10.out).step st11).later k11)
    clear row3 bd11 st11 no3 EX k11 DL10 HB10 HR1 HR2 HDL
    generalize w11.alloc (.cells #[.int .i64 er3, .int .i64 0, .int .i64 (L3.length : Int), .slice a1 n1 c1, .slice a2 L3.length c2, .slice a3 n3 c3, .slice a4 n4 c4] 40) = Y3 at *
    generalize w11.heap.size = R3 at *
    obtain ⟨e1a, e1b, e1c⟩ := RP1.out.cells
    obtain ⟨e2a, e2b, e2c⟩ := RP2.out.cells
    obtain ⟨e3a, e3b, e3c⟩ := RP3.out.cells
    have bt : (tt != tt) = false := by simp
    have bu : (uu != uu) = false := by simp
    go_upto_region 16 with fail
    go_upto_region 17 with fail
    go_loopw [16] (fun v wr => ∃ j : Nat, j ≤ tt.toNat ∧ v = .int .i64 j ∧ SameW Y3 wr) (fun v _ => tt.toNat - (intOf v).toNat)
    case atStart => exact ⟨0, Nat.zero_le _, rfl, rfl⟩
    case round =>
      obtain ⟨j, hj, rfl, hsw⟩ := hrel
      have hsw' : Y3 = wr := Eq.symm hsw
      clear hsw
      subst hsw'
      by_cases hlt : j < tt.toNat
      · have hlt' : (j : Int) < tt := by omega
        obtain ⟨g, rfl, a0⟩ := row_at RP1.out.row j (by rw [Rd.prog_len]; exact hlt)
        rw [Rd.prog_get] at a0
        have hm1 : 0 ≤ (j : Int) * nn := Int.mul_nonneg (by omega) (by omega)
        have hm2 : (j : Int) * nn ≤ 40 * 6 := Int.mul_le_mul (by omega) hn2' (by omega) (by omega)
        have k1 : IntKind.i64.wrap ((j : Int) * nn) = (j : Int) * nn := wrap_small (by omega) (by omega)
        have k2 : IntKind.i64.wrap (dd + (j : Int) * nn) = dd + (j : Int) * nn := wrap_small (by omega) (by omega)
        have bb : (dd + (j : Int) * nn != dd + (j : Int) * nn) = false := by simp
        go_wp2_with fail
        go_roundw
        case rel => exact ⟨j + 1, by omega, by go_num, rfl⟩
        case measure => simp [intOf]; omega
      · have hlt' : ¬ (j : Int) < tt := by omega
        go_upto_region 22 with fail
        clear hlt hlt' hj e1a e1b e1c
        go_loopw [17] (fun v wx => ∃ j : Nat, j ≤ uu.toNat ∧ v = .int .i64 j ∧ SameW Y3 wx) (fun v _ => uu.toNat - (intOf v).toNat)
        case atStart => exact ⟨0, Nat.zero_le _, rfl, rfl⟩
        case round =>
          obtain ⟨j, hj, rfl, hsw⟩ := hrel
          have hsw' : Y3 = wr := Eq.symm hsw
          clear hsw
          subst hsw'
          by_cases hlt : j < uu.toNat
          · have hlt' : (j : Int) < uu := by omega
            obtain ⟨g, rfl, a0⟩ := row_at RP2.out.row j (by rw [Rd.prog_len]; exact hlt)
            rw [Rd.prog_get] at a0
            have hm1 : 0 ≤ 7 * (j : Int) * nn := Int.mul_nonneg (by omega) (by omega)
            have hm2 : 7 * (j : Int) * nn ≤ 63 * 6 := Int.mul_le_mul (by omega) hn2' (by omega) (by omega)
            have hm3 : (j : Int) * (7 * nn) = 7 * (j : Int) * nn := by rw [← Int.mul_assoc, Int.mul_comm (j : Int) 7]
            rw [hm3] at a0
            have k0 : IntKind.i64.wrap (7 * (j : Int)) = 7 * (j : Int) := wrap_small (by omega) (by omega)
            have k1 : IntKind.i64.wrap (7 * (j : Int) * nn) = 7 * (j : Int) * nn := wrap_small (by omega) (by omega)
            have k2 : IntKind.i64.wrap (dd + 7 * (j : Int) * nn) = dd + 7 * (j : Int) * nn := wrap_small (by omega) (by omega)
            have bb : (dd + 7 * (j : Int) * nn != dd + 7 * (j : Int) * nn) = false := by simp
            clear hm3
            go_wp2_with fail
            go_roundw
            case rel => exact ⟨j + 1, by omega, by go_num, rfl⟩
            case measure => simp [intOf]; omega
          · have hlt' : ¬ (j : Int) < uu := by omega
            go_upto_region 26 with fail
            clear hlt hlt' hj e2a e2b e2c
            go_upto_region 28 with fail
            go_loopw [18, 19] (fun vs vi wx => ∃ i : Nat, i ≤ 24 ∧ vi = .int .i64 i ∧ (Rd.moAll 2024 m nn k i).length ≤ 3 ∧ wx.ownsRow Y3.heap.size 3 1 vs (Rd.moAll 2024 m nn k i).length ((Rd.moAll 2024 m nn k i).map (Value.int .i64)) ∧ Below Y3.heap.size Y3 wx) (fun _ vi _ => 24 - (intOf vi).toNat)
            case atStart => exact ⟨0, by omega, rfl, by simp [Rd.moAll], World.ownsRow_nil _ _ _ _, Below.refl _ _⟩
            case round =>
              obtain ⟨i, hi, rfl, hl3, own, hbl⟩ := hrel
              obtain ⟨aw, cw, rfl⟩ := ownSl own
              have OW := hidp own
              have HB := hidp hbl
              clear own hbl
              by_cases hgo : i < 24 ∧ (Rd.moAll 2024 m nn k i).length < 3
              · obtain ⟨hg1, hg2⟩ := hgo
                have hg1' : (i : Int) < 24 := by omega
                have hg2' : ((Rd.moAll 2024 m nn k i).length : Int) < 3 := by omega
                have hm1 : 0 ≤ (i : Int) * nn := Int.mul_nonneg (by omega) (by omega)
                have hm2 : (i : Int) * nn ≤ 24 * 6 := Int.mul_le_mul (by omega) hn2' (by omega) (by omega)
                have k1 : IntKind.i64.wrap (m - 1) = m - 1 := wrap_small (by omega) (by omega)
                have k2 : IntKind.i64.wrap ((i : Int) * nn) = (i : Int) * nn := wrap_small (by omega) (by omega)
                have k3 : IntKind.i64.wrap (m - 1 + (i : Int) * nn) = m - 1 + (i : Int) * nn := wrap_small (by omega) (by omega)
                have k4 : (m - 1 + (i : Int) * nn).tdiv 12 = (m - 1 + (i : Int) * nn) / 12 := Int.tdiv_eq_ediv_of_nonneg (by omega)
                have k5 : IntKind.i64.wrap ((m - 1 + (i : Int) * nn) / 12) = (m - 1 + (i : Int) * nn) / 12 := wrap_small (by omega) (by omega)
                have k6 : IntKind.i64.wrap (2024 + (m - 1 + (i : Int) * nn) / 12) = Rd.moY 2024 m nn i := by unfold Rd.moY; exact wrap_small (by omega) (by omega)
                have k7 : (m - 1 + (i : Int) * nn).tmod 12 = (m - 1 + (i : Int) * nn) % 12 := Int.tmod_eq_emod_of_nonneg (by omega)
                have k8 : IntKind.i64.wrap ((m - 1 + (i : Int) * nn) % 12) = (m - 1 + (i : Int) * nn) % 12 := wrap_small (by omega) (by omega)
                have k9 : IntKind.i64.wrap (1 + (m - 1 + (i : Int) * nn) % 12) = Rd.moM m nn i := by unfold Rd.moM; exact wrap_small (by omega) (by omega)
                have TB := hidp ((DL3.out.bd.env.later HB.out).tab)
                have ML : Hid (Rd.moAll 2024 m nn k (i + 1) = Rd.moAll 2024 m nn k i ++ Rd.moL 2024 m nn k i) := rfl
                cases hok : Cal.ok (Rd.moY 2024 m nn i) (Rd.moM m nn i) k
                · have DY := hidp (bDay_no (Rd.moY 2024 m nn i) (Rd.moM m nn i) k wr TB.out hok)
                  have HN : Hid (Rd.moAll 2024 m nn k (i + 1) = Rd.moAll 2024 m nn k i) := by
                    show _ = _
                    rw [ML.out]; unfold Rd.moL; rw [if_neg (by rw [hok]; simp)]; simp
                  clear hok hm1 hm2
                  go_upto_region 31 with (first
                    | (go_at_call 33; refine DY.out.mono ?_; rintro e wx ⟨rfl, rfl⟩))
                  go_wp2_with fail
                  go_roundw
                  case rel => exact ⟨i + 1, by omega, by go_num, by rw [HN.out]; exact hl3, by rw [HN.out]; exact OW.out, HB.out⟩
                  case measure => simp [intOf]; omega
                · have DY := hidp (bDay_yes (Rd.moY 2024 m nn i) (Rd.moM m nn i) k wr TB.out hok)
                  by_cases h728 : Cal.num (Rd.moY 2024 m nn i) (Rd.moM m nn i) k < 728
                  · have HN : Hid (Rd.moAll 2024 m nn k (i + 1) = Rd.moAll 2024 m nn k i ++ [Cal.num (Rd.moY 2024 m nn i) (Rd.moM m nn i) k]) := by
                      show _ = _
                      rw [ML.out]; unfold Rd.moL; rw [if_pos ⟨hok, h728⟩]
                    clear hok hm1 hm2 ML
                    generalize Cal.num (Rd.moY 2024 m nn i) (Rd.moM m nn i) k = z at *
                    go_upto_region 31 with (first
                      | (go_at_call 33; refine DY.out.mono ?_; rintro e wx ⟨rfl, rfl⟩))
                    have hsz : Y3.heap.size ≤ wx.heap.size := HB.out.size
                    clear k1 k2 k3 k4 k5 k6 k7 k8 k9
                    go_wp2_with (first
                      | (at_builtin; refine wpList_append_lies _ rfl _ _ 38 rfl Y3.heap.size 3 i0 _ 1 8 Tryz.underlying38 hi0 hz0 hz1 hz2 rfl (by decide) _ _ _ rfl (OW.out.alloc _) ⟨wx.heap.size, 0, none⟩ 1 1 [.int .i64 z] rfl rfl (cell_one_new _ _ _) (by simp [Value.oneCell']) (by omega) (by unfold maxLen; omega) (by omega) (by simp; omega) (wx.heap.size + 1) (by simp) ?_; intro g2 cap2 w3 hown hgrow hat hlt2))
                    have HW : Hid (w3.ownsRow Y3.heap.size 3 1 (.slice (some ⟨g2, 0, none⟩) ((Rd.moAll 2024 m nn k i).length + 1) cap2) ((Rd.moAll 2024 m nn k i).length + 1) ((Rd.moAll 2024 m nn k i).map (Value.int .i64) ++ [.int .i64 z]) ∧ Below Y3.heap.size Y3 w3) := ⟨hown, (HB.out.alloc hsz _).grown hgrow (by simp; omega) (fun b hb => (OW.out.lt b hb).1)⟩
                    clear hown hgrow hat hlt2
                    go_wp2_with fail
                    go_roundw
                    case rel => exact ⟨i + 1, by omega, by go_num, by rw [HN.out, List.length_append]; simp; omega, by rw [HN.out, List.length_append, List.map_append]; exact HW.out.1, HW.out.2⟩
                    case measure => simp [intOf]; omega
                  · have HN : Hid (Rd.moAll 2024 m nn k (i + 1) = Rd.moAll 2024 m nn k i) := by
                      show _ = _
                      rw [ML.out]; unfold Rd.moL; rw [if_neg (fun h => h728 h.2)]; simp
                    clear hok hm1 hm2 ML
                    generalize Cal.num (Rd.moY 2024 m nn i) (Rd.moM m nn i) k = z at *
                    go_upto_region 31 with (first
                      | (go_at_call 33; refine DY.out.mono ?_; rintro e wx ⟨rfl, rfl⟩))
                    go_wp2_with fail
                    go_roundw
                    case rel => exact ⟨i + 1, by omega, by go_num, by rw [HN.out]; exact hl3, by rw [HN.out]; exact OW.out, HB.out⟩
                    case measure => simp [intOf]; omega
              · have WE := hidp (want_end hi hl3 (by omega))
                have hML : Hid (Rd.moAll 2024 m nn k 24 = M) := HM.out.symm
                rw [hML.out] at WE
                have e3a' := cellLater HB.out e3a
                have e3c' := cellLater HB.out e3c
                have BF : Hid (Below w.heap.size w wr) := DL3.out.bl.trans (HB.out.mono DL3.out.bl.size)
                generalize Rd.moAll 2024 m nn k i = wl at *
                have R3W : Hid (wr.ownsRow 0 3 1 (.slice a2 L3.length c2) L3.length (L3.map (Value.int .i64))) := ownBl RP3.out.row HB.out
                by_cases hM3 : M.length < 3
                · have hw3 : (wl.length : Int) < 3 := by have := WE.out.2.1 hM3; omega
                  have h24 : ¬ (i : Int) < 24 := by have := WE.out.2.1 hM3; omega
                  obtain ⟨q6, q7⟩ := HE3.out.1 hM3
                  subst q6
                  subst q7
                  clear hgo hM3
                  go_wp2_with fail
                  go_ret
                  exact ⟨rfl, BF.out⟩
                · have hw3 : ¬ (wl.length : Int) < 3 := by have := mt WE.out.2.2 hM3; omega
                  obtain ⟨q6, q7⟩ := HE3.out.2 hM3
                  have q8 : L3 = wl := q7.trans WE.out.1
                  have SI := hidp (sameInts_any L3 wl _ _ 0 Y3.heap.size wr R3W.out OW.out (by rw [q8]; omega))
                  have q9 : decide (L3 = wl) = true := by simpa using q8
                  rw [q9] at SI
                  subst q6
                  clear hgo hM3 q7 q8 q9
                  by_cases h24 : i < 24
                  · have h24' : (i : Int) < 24 := by omega
                    clear h24
                    go_wp2_with fail
                    refine SI.out.mono ?_
                    rintro e wz ⟨rfl, hbz⟩
                    have e3z := cellLater hbz e3a'
                    clear SI
                    go_wp2_with fail
                    go_ret
                    exact ⟨rfl, BF.out.trans (hbz.mono BF.out.size)⟩
                  · have h24' : ¬ (i : Int) < 24 := by omega
                    clear h24
                    go_wp2_with fail
                    refine SI.out.mono ?_
                    rintro e wz ⟨rfl, hbz⟩
                    have e3z := cellLater hbz e3a'
                    clear SI
                    go_wp2_with fail
                    go_ret
                    exact ⟨rfl, BF.out.trans (hbz.mono BF.out.size)⟩
  go_region_law (first
    | (refine step_call (by rfl) 21 _ _ (by rfl) _ (by simp [Act.eval, Act.put]) (entNum _ _) (NA.out _ (by first | exact D0.out | exact D0.out.alloc D0.out.size _ | exact (D0.out.alloc D0.out.size _).alloc (D0.out.alloc D0.out.size _).size _)) ?_; rintro e w7 ⟨rfl, hb7⟩; refine ⟨_, rfl, ?_⟩;
       have D7 : Hid (Below Y.heap.size Y w7) := (by first | exact blwMore D0.out hb7 (Nat.le_refl _) | exact blwMore (D0.out.alloc D0.out.size _) hb7 (Nat.le_refl _) | exact blwMore ((D0.out.alloc D0.out.size _).alloc (D0.out.alloc D0.out.size _).size _) hb7 (Nat.le_refl _));
       (first | (have X7 := cellLater hb7 (show (World.drew _).cell? _ = _ from AC3 Y _); have X7a := acLater X7) | (have X7 := cellLater hb7 (show (World.drew _).cell? _ = _ from AC2 Y _); have X7a := acLater X7) | (have X7 := cellLater hb7 (show (World.drew _).cell? _ = _ from AC Y); have X7a := acLater X7) | skip);
       (first | have Z7 := zb_lastKd (A := Y) (N := Y.heap.size) hb7 (Nat.le_refl _) | have Z7 := zb_lastKd (A := Y.alloc _) (N := Y.heap.size) hb7 (by simp) | have Z7 := zb_prevKd (A := Y) (N := Y.heap.size) hb7 (Nat.le_refl _) | skip); clear NA)
    | (refine step_call (by rfl) 21 _ _ (by rfl) _ (by simp [Act.eval, Act.put]) (entNum _ _) (NB.out _ (by first | exact D7.out | exact D7.out.alloc D7.out.size _ | exact (D7.out.alloc D7.out.size _).alloc (D7.out.alloc D7.out.size _).size _)) ?_; rintro e w8 ⟨rfl, hb8⟩; refine ⟨_, rfl, ?_⟩;
       have D8 : Hid (Below Y.heap.size Y w8) := (by first | exact blwMore D7.out hb8 (Nat.le_refl _) | exact blwMore (D7.out.alloc D7.out.size _) hb8 (Nat.le_refl _) | exact blwMore ((D7.out.alloc D7.out.size _).alloc (D7.out.alloc D7.out.size _).size _) hb8 (Nat.le_refl _));
       (first | (have X8 := cellLater hb8 (AC3 _ _); have X8a := acLater X8) | (have X8 := cellLater hb8 (AC2 _ _); have X8a := acLater X8) | (have X8 := cellLater hb8 (AC _); have X8a := acLater X8) | (have X8 := cellLater hb8 X7; have X8a := acLater X8) | (have X8 := cellLater hb8 (X7a _); have X8a := acLater X8) | skip);
       (first | have Z8 := zb_lastK (N := Y.heap.size) hb8 (by exact D7.out.size) | have Z8 := zb_lastK (N := Y.heap.size) hb8 (by exact (D7.out.alloc D7.out.size _).size) | have Z8 := zb_prevK (N := Y.heap.size) hb8 (by exact D7.out.size) | have Z8 := zb_keepK Z7 hb8 | have Z8 := zb_keepK2 Z7 hb8 | skip); clear NB)
    | (refine step_call (by rfl) 20 _ _ (by rfl) _ (by simp [Act.eval, Act.put]) (entDo _ _) (EX.out _ (by first | exact D8.out | exact D8.out.alloc D8.out.size _ | exact (D8.out.alloc D8.out.size _).alloc (D8.out.alloc D8.out.size _).size _)) ?_; rintro e w9 ⟨b1, b2, b3, b4, m1, m3, m4, q1, q2, q3, q4, rfl, row2, r2, col2, bd9, st9, no2⟩; refine ⟨_, rfl, ?_⟩;
       have FN := hidp (fin_do BD6.out RP1.out (by first | exact D8.out | exact D8.out.alloc D8.out.size _ | exact (D8.out.alloc D8.out.size _).alloc (D8.out.alloc D8.out.size _).size _) bd9 st9);
       (first | (have Z9 := zb_step (zb_last (N := Y.heap.size) (A := w8) D8.out.size) BD6.out.bd st9; obtain ⟨⟨y0, y1, y2, y3, y4, y5, y6, yf⟩, yz⟩ := Z9; have YZ := hidp yz; clear yz) | (have Z9 := zb_step (zb_more (zb_last (N := Y.heap.size) (A := w8) D8.out.size) _) BD6.out.bd st9; obtain ⟨⟨y0, y1, y2, y3, y4, y5, y6, yf⟩, yz⟩ := Z9; have YZ := hidp yz; clear yz) | (have Z9 := zb_step (zb_last (N := Y.heap.size) (A := w8.alloc _) (D8.out.alloc D8.out.size _).size) BD6.out.bd st9; obtain ⟨⟨y0, y1, y2, y3, y4, y5, y6, yf⟩, yz⟩ := Z9; have YZ := hidp yz; clear yz) | (have Z9 := zb_step Z8 BD6.out.bd st9; obtain ⟨⟨y0, y1, y2, y3, y4, y5, y6, yf⟩, yz⟩ := Z9; have YZ := hidp yz; clear yz) | (have Z9 := zb_step (zb_more Z8 _) BD6.out.bd st9; obtain ⟨⟨y0, y1, y2, y3, y4, y5, y6, yf⟩, yz⟩ := Z9; have YZ := hidp yz; clear yz) | skip); (try simp only [World.size_alloc] at y0 y1 y2 y3 y4 y5 y6 yf)))
  all_goals
    first
      | (obtain ⟨f1, f2, f3⟩ := fin_b FN.out (er := 0) (n := uu) (x := .slice b1 m1 q1) (y := .slice b3 m3 q3) (z := .slice b4 m4 q4) (L := Rd.prog dd (7 * nn) uu.toNat) (by rw [Rd.prog_len]; exact row2) no2; exact KK _ _ _ _ _ _ _ _ _ _ _ _ _ _ _ _ _ _ _ _ _ _ _ _ _ _ _ _ _ _ _ _ _ _ _ _ _ _ _ _ _ _ _ _ _ _ _ _ _ _ _ _ _ _ _ _ _ _ _ _ _ _ _ _ _ _ _ _ _ _ f1 f2 f3)
      | (obtain ⟨f1, f2, f3⟩ := fin_a FN.out (er := 0) (n := uu) (x := .slice b1 m1 q1) (y := .slice b3 m3 q3) (z := .slice b4 m4 q4) (L := Rd.prog dd (7 * nn) uu.toNat) (by rw [Rd.prog_len]; exact row2) no2 YZ.out; exact KK _ _ _ _ _ _ _ _ _ _ _ _ _ _ _ _ _ _ _ _ _ _ _ _ _ _ _ _ _ _ _ _ _ _ _ _ _ _ _ _ _ _ _ _ _ _ _ _ _ _ _ _ _ _ _ _ _ _ _ _ _ _ _ _ _ _ _ _ _ _ f1 f2 f3)

end Go.Proofs.YtjfkfiffakbagaaGreatDoor

