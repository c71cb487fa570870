/-
  Parts of the proof, one behind the other: DaysText, DaysParts, RegionInv, DaysReg.
-/
import Derived.Test.YtjfkfiffakbagaaGreatDoorL15
import Derived.Maps.AppendAt
import Derived.RegionTactic
/-
  The lines that Days writes, and what they read.
-/
namespace Go.Proofs.YtjfkfiffakbagaaGreatDoor
open Go.RowKit

def dateW (m k : Int) : ByteArray := (⟨#[50, 48, 50, 52, 45]⟩ : ByteArray) ++ twoS m ++ (⟨#[45]⟩ : ByteArray) ++ twoS k
def fromS (m k : Int) : ByteArray := ((((⟨#[32, 102, 114, 111, 109, 32, 50, 48, 50, 52, 45]⟩ : ByteArray) ++ twoS m) ++ (⟨#[45]⟩ : ByteArray)) ++ twoS k) ++ (⟨#[32, 97, 116, 32, 48, 48, 58, 48, 48, 32, 102, 111, 114, 32, 49, 32, 116, 105, 109, 101, 115, 32]⟩ : ByteArray)
def lineD (n m k t : Int) : ByteArray := (((⟨#[101, 120, 112, 97, 110, 100, 32, 100, 97, 105, 108, 121, 32]⟩ : ByteArray) ++ Txt.itoaS n) ++ fromS m k) ++ Txt.itoaS t
def lineW (n : Int) (wd : ByteArray) (m k t : Int) : ByteArray := (((((⟨#[101, 120, 112, 97, 110, 100, 32, 119, 101, 101, 107, 108, 121, 32]⟩ : ByteArray) ++ Txt.itoaS n) ++ (⟨#[32]⟩ : ByteArray)) ++ wd) ++ fromS m k) ++ Txt.itoaS t
def lineM (n m k : Int) : ByteArray := (((⟨#[101, 120, 112, 97, 110, 100, 32, 109, 111, 110, 116, 104, 108, 121, 32]⟩ : ByteArray) ++ Txt.itoaS n) ++ fromS m k) ++ (⟨#[51]⟩ : ByteArray)

theorem date_all : ((List.range 13).all fun m => (List.range 32).all fun k => !(Cal.ok 2024 m k) || (Txt.dayB (dateW m k) && decide (dayV (dateW m k) = Cal.num 2024 m k) && Txt.wordB (dateW m k).data.toList && decide ((twoS m).size = 2) && decide ((twoS k).size = 2))) = true := by decide +kernel
theorem date_is {m k : Int} (h : Cal.ok 2024 m k = true) : Txt.dayB (dateW m k) = true ∧ dayV (dateW m k) = Cal.num 2024 m k ∧ Txt.wordB (dateW m k).data.toList = true ∧ (twoS m).size = 2 ∧ (twoS k).size = 2 := by
  obtain ⟨h1, h2, h3, h4, h5, h6⟩ := (Cal.ok_iff 2024 m k).1 h
  have hd := Cal.dim_bd 2024 m
  obtain ⟨m', rfl⟩ : ∃ m' : Nat, m = m' := ⟨m.toNat, by omega⟩
  obtain ⟨k', rfl⟩ : ∃ k' : Nat, k = k' := ⟨k.toNat, by omega⟩
  have e1 := List.all_eq_true.1 date_all m' (List.mem_range.2 (by omega))
  have e2 := List.all_eq_true.1 e1 k' (List.mem_range.2 (by omega))
  rw [h] at e2
  simp only [Bool.not_true, Bool.false_or, Bool.and_eq_true, decide_eq_true_eq] at e2
  exact ⟨e2.1.1.1.1, e2.1.1.1.2, e2.1.1.2, e2.1.2, e2.2⟩

theorem ev_is {n : Int} (h0 : 1 ≤ n) (h1 : n ≤ 99) : evB (Txt.itoaS n) = true ∧ nvF (Txt.itoaS n) = n ∧ Txt.wordB (Txt.itoaS n).data.toList = true := by
  obtain ⟨a, b⟩ := Txt.itoa_num (n := n) (by omega) (by omega)
  refine ⟨?_, b, Txt.itoa_word (by omega)⟩
  unfold evB withinB
  rw [a, b]; simp [h0, h1]

def midW : ByteArray := (⟨#[48, 48, 58, 48, 48]⟩ : ByteArray)
def oneW : ByteArray := (⟨#[49]⟩ : ByteArray)
theorem mid_is : Txt.minB midW = true ∧ Txt.minV midW = 0 ∧ Txt.wordB midW.data.toList = true := by decide +kernel
theorem one_is : miB oneW = true ∧ nvF oneW = 1 ∧ Txt.wordB oneW.data.toList = true := by decide +kernel
theorem lits_is : Txt.wordB expandW.data.toList = true ∧ Txt.wordB dailyW.data.toList = true ∧ Txt.wordB weeklyW.data.toList = true ∧ Txt.wordB monthlyW.data.toList = true ∧ Txt.wordB fromW.data.toList = true ∧ Txt.wordB atW.data.toList = true ∧ Txt.wordB forW.data.toList = true ∧ Txt.wordB timesW.data.toList = true := by decide +kernel

theorem lineD_reads {n m k d t : Int} (hok : Cal.ok 2024 m k = true) (hnum : Cal.num 2024 m k = d) (hn1 : 1 ≤ n) (hn2 : n ≤ 99) (ht1 : 1 ≤ t) (ht2 : t ≤ 99) :
    ∀ e, ReadR (lineD n m k t) e → e = .returned (.tuple #[.iface 174 (ruleVR (Rd.dailyR n d t)), .int .i64 0, .int .i64 0]) := by
  obtain ⟨d1, d2, d3, d4, d5⟩ := date_is hok
  obtain ⟨n1, n2, n3⟩ := ev_is hn1 hn2
  obtain ⟨t1, t2, t3⟩ := ev_is ht1 ht2
  obtain ⟨m1, m2, m3⟩ := mid_is
  obtain ⟨o1, o2, o3⟩ := one_is
  obtain ⟨l1, l2, l3, l4, l5, l6, l7, l8⟩ := lits_is
  have hw : Txt.wordsS (lineD n m k t) = [expandW, dailyW, Txt.itoaS n, fromW, dateW m k, atW, midW, forW, oneW, timesW, Txt.itoaS t] := by
    refine Txt.words_text ?_ ?_
    · simp only [lineD, fromS, dateW, Txt.append_list, List.map_cons, List.map_nil, Txt.jb_cons2, Txt.jb_one, List.append_assoc]
      rfl
    · intro x hx
      simp only [List.mem_cons, List.not_mem_nil, or_false] at hx
      rcases hx with rfl | rfl | rfl | rfl | rfl | rfl | rfl | rfl | rfl | rfl | rfl <;> assumption
  have hs : (lineD n m k t).size ≤ 160 := by
    have a := Txt.itoa_size n (by omega) (by omega)
    have b := Txt.itoa_size t (by omega) (by omega)
    have e : (lineD n m k t).size = 13 + (Txt.itoaS n).size + (11 + (twoS m).size + 1 + (twoS k).size + 22) + (Txt.itoaS t).size := by
      simp only [lineD, fromS, ByteArray.size_append]; rfl
    omega
  have h := expand_reads hw hs rfl (c := 3) ⟨rfl, rfl, rfl, rfl, rfl, rfl, rfl, rfl, d1, m1, o1, t1, rfl⟩ (pace_daily (c := 1) rfl rfl n1)
  rw [d2, hnum, m2, o2, t2, n2] at h
  exact h

theorem lineM_reads {n m k d : Int} (hok : Cal.ok 2024 m k = true) (hnum : Cal.num 2024 m k = d) (hn1 : 1 ≤ n) (hn2 : n ≤ 99) :
    ∀ e, ReadR (lineM n m k) e → e = .returned (.tuple #[.iface 174 (ruleVR (Rd.monthlyR n d 3)), .int .i64 0, .int .i64 0]) := by
  obtain ⟨d1, d2, d3, d4, d5⟩ := date_is hok
  obtain ⟨n1, n2, n3⟩ := ev_is hn1 hn2
  obtain ⟨m1, m2, m3⟩ := mid_is
  obtain ⟨o1, o2, o3⟩ := one_is
  obtain ⟨l1, l2, l3, l4, l5, l6, l7, l8⟩ := lits_is
  have t1 : evB (⟨#[51]⟩ : ByteArray) = true := by decide +kernel
  have t2 : nvF (⟨#[51]⟩ : ByteArray) = 3 := by decide +kernel
  have t3 : Txt.wordB (⟨#[51]⟩ : ByteArray).data.toList = true := by decide +kernel
  have hw : Txt.wordsS (lineM n m k) = [expandW, monthlyW, Txt.itoaS n, fromW, dateW m k, atW, midW, forW, oneW, timesW, (⟨#[51]⟩ : ByteArray)] := by
    refine Txt.words_text ?_ ?_
    · simp only [lineM, fromS, dateW, Txt.append_list, List.map_cons, List.map_nil, Txt.jb_cons2, Txt.jb_one, List.append_assoc]
      rfl
    · intro x hx
      simp only [List.mem_cons, List.not_mem_nil, or_false] at hx
      rcases hx with rfl | rfl | rfl | rfl | rfl | rfl | rfl | rfl | rfl | rfl | rfl <;> assumption
  have hs : (lineM n m k).size ≤ 160 := by
    have a := Txt.itoa_size n (by omega) (by omega)
    have e : (lineM n m k).size = 15 + (Txt.itoaS n).size + (11 + (twoS m).size + 1 + (twoS k).size + 22) + 1 := by
      simp only [lineM, fromS, ByteArray.size_append]; rfl
    omega
  have h := expand_reads hw hs rfl (c := 3) ⟨rfl, rfl, rfl, rfl, rfl, rfl, rfl, rfl, d1, m1, o1, t1, rfl⟩ (pace_monthly (c := 1) rfl rfl n1)
  rw [d2, hnum, m2, o2, t2, n2] at h
  exact h

theorem lineW_reads {n m k d t : Int} {wd : ByteArray} {acc : List Int} (hok : Cal.ok 2024 m k = true) (hnum : Cal.num 2024 m k = d) (hn1 : 1 ≤ n) (hn2 : n ≤ 99) (ht1 : 1 ≤ t) (ht2 : t ≤ 99) (hon : Txt.onW wd = some acc) (hwd : Txt.wordB wd.data.toList = true) (hws : wd.size = 2) :
    ∀ e, ReadR (lineW n wd m k t) e → e = .returned (.tuple #[.iface 174 (ruleVR ⟨2, n, acc, d, 0, 1, t, 0⟩), .int .i64 0, .int .i64 0]) := by
  obtain ⟨d1, d2, d3, d4, d5⟩ := date_is hok
  obtain ⟨n1, n2, n3⟩ := ev_is hn1 hn2
  obtain ⟨t1, t2, t3⟩ := ev_is ht1 ht2
  obtain ⟨m1, m2, m3⟩ := mid_is
  obtain ⟨o1, o2, o3⟩ := one_is
  obtain ⟨l1, l2, l3, l4, l5, l6, l7, l8⟩ := lits_is
  have hw : Txt.wordsS (lineW n wd m k t) = [expandW, weeklyW, Txt.itoaS n, wd, fromW, dateW m k, atW, midW, forW, oneW, timesW, Txt.itoaS t] := by
    refine Txt.words_text ?_ ?_
    · simp only [lineW, fromS, dateW, Txt.append_list, List.map_cons, List.map_nil, Txt.jb_cons2, Txt.jb_one, List.append_assoc]
      rfl
    · intro x hx
      simp only [List.mem_cons, List.not_mem_nil, or_false] at hx
      rcases hx with rfl | rfl | rfl | rfl | rfl | rfl | rfl | rfl | rfl | rfl | rfl | rfl <;> assumption
  have hs : (lineW n wd m k t).size ≤ 160 := by
    have a := Txt.itoa_size n (by omega) (by omega)
    have b := Txt.itoa_size t (by omega) (by omega)
    have e : (lineW n wd m k t).size = 14 + (Txt.itoaS n).size + 1 + wd.size + (11 + (twoS m).size + 1 + (twoS k).size + 22) + (Txt.itoaS t).size := by
      simp only [lineW, fromS, ByteArray.size_append]; rfl
    omega
  have h := expand_reads hw hs rfl (c := 4) ⟨rfl, rfl, rfl, rfl, rfl, rfl, rfl, rfl, d1, m1, o1, t1, rfl⟩ (pace_weekly (c := 1) rfl rfl rfl n1 hon)
  rw [d2, hnum, m2, o2, t2, n2] at h
  exact h

end Go.Proofs.YtjfkfiffakbagaaGreatDoor


/-
  What the walk over bookingskeep.Days keeps between its steps.
-/
namespace Go.Proofs.YtjfkfiffakbagaaGreatDoor
open Go.RowKit
open Desk (Ent St Ids kept booked bookE sumA Items ofB sameB Risen Mid EntOk endsB Inv)

theorem year24 {y m k d : Int} (hok : Cal.ok y m k = true) (hnum : Cal.num y m k = d) (h0 : 0 ≤ d) (h1 : d < 300) : y = 2024 := by
  obtain ⟨g1, g2, g3, g4, g5, g6⟩ := (Cal.ok_iff _ _ _).1 hok
  have e1 : Cal.num 2024 1 1 = 0 := by decide
  have e2 : Cal.num 2025 1 1 = 366 := by decide
  apply Classical.byContradiction
  intro c
  by_cases lt : y < 2024
  · have := Rd.num_lt hok (Rd.ok_first (y := 2024) (m := 1) (by omega) (by omega) (by omega) (by omega)) (by omega)
    omega
  · by_cases e : 12 * y + m = 24301
    · have : y = 2025 := by omega
      have : m = 1 := by omega
      subst_vars
      have : Cal.num 2025 1 k = Cal.num 2025 1 1 + k - 1 := by unfold Cal.num; omega
      omega
    · have := Rd.num_lt (Rd.ok_first (y := 2025) (m := 1) (by omega) (by omega) (by omega) (by omega)) hok (by omega)
      omega

theorem Step.low {S : Col → Prop} {B N : Nat} {col col' : Nat → Option Col} {w w' : World} (h : Step S B col col' w w') (hB : N ≤ B) (hs : N ≤ w.heap.size) (hc : ∀ b, b < N → col b = none) : Below N w w' ∧ ∀ b, b < N → col' b = none := by
  obtain ⟨G, h1, h2⟩ := h.off
  refine ⟨⟨h1.os, h1.tape, h1.output, h1.size, fun b hb => h1.block b (by omega) (fun hx => ?_)⟩, fun b hb => ?_⟩
  · rcases h2 b hx with ⟨c, e, _⟩ | ⟨_, e⟩
    · rw [hc b hb] at e; cases e
    · omega
  · cases e : col' b with
    | none => rfl
    | some c =>
      rcases h.new b c e with e1 | e1
      · rw [hc b hb] at e1; cases e1
      · omega
/-- An empty desk, made since. -/
structure DL (w W : World) (p dk : Nat) (r : Raw) (col : Nat → Option Col) : Prop where
  bd : BD W p dk st0 r col
  bl : Below w.heap.size w W
  lo : ∀ b, b < w.heap.size → col b = none
theorem DL.later {w W W' : World} {p dk : Nat} {r : Raw} {col : Nat → Option Col} (h : DL w W p dk r col) (k : Below W.heap.size W W') : DL w W' p dk r col := ⟨h.bd.later k, h.bl.trans (k.mono h.bl.size), h.lo⟩
theorem DL.step {w W W' : World} {p dk : Nat} {r r' : Raw} {col col' : Nat → Option Col} (h : DL w W p dk r col) (bd : BD W' p dk st0 r' col') (st : Step anyS W.heap.size col col' W W') : DL w W' p dk r' col' := by
  obtain ⟨k1, k2⟩ := st.low h.bl.size h.bl.size h.lo
  exact ⟨bd, h.bl.trans k1, k2⟩
/-- An answer with days that is kept in a block. -/
structure RpK (W : World) (col : Nat → Option Col) (R : Nat) (er n : Int) (da : Value) (L : List Int) : Prop where
  b : ∃ x y z, W.heap[R]? = some (.cells #[.int .i64 er, .int .i64 0, .int .i64 n, x, da, y, z] 40 (0, 0))
  c : col R = none
  row : W.ownsRow 0 3 1 da L.length (L.map (Value.int .i64))
  no : ∀ b, da.ownBlock = some b → col b = none
theorem RpK.step {S : Col → Prop} {W W' : World} {col col' : Nat → Option Col} {R : Nat} {er n : Int} {da : Value} {L : List Int} (h : RpK W col R er n da L) (st : Step S W.heap.size col col' W W') : RpK W' col' R er n da L := by
  obtain ⟨x, y, z, hb⟩ := h.b
  have hl : R < W.heap.size := (Array.getElem?_eq_some_iff.1 hb).1
  have hv : ∀ b, da.ownBlock = some b → col b = none ∧ b < W.heap.size := fun b hb => ⟨h.no b hb, (h.row.lt b hb).2⟩
  exact ⟨⟨x, y, z, (st.blockN hl h.c hl).trans hb⟩, st.keepN h.c hl, st.own h.row hv, fun b hb => st.keepN (hv b hb).1 (hv b hb).2⟩
theorem RpK.later {W W' : World} {col : Nat → Option Col} {R : Nat} {er n : Int} {da : Value} {L : List Int} (h : RpK W col R er n da L) (k : Below W.heap.size W W') : RpK W' col R er n da L := h.step (S := anyS) (Step.below k)
theorem RpK.cells {W : World} {col : Nat → Option Col} {R : Nat} {er n : Int} {da : Value} {L : List Int} (h : RpK W col R er n da L) : W.cell? ⟨R, 0, none⟩ = some (.int .i64 er) ∧ W.cell? ⟨R, 2, none⟩ = some (.int .i64 n) ∧ W.cell? ⟨R, 4, none⟩ = some da := by
  obtain ⟨x, y, z, hb⟩ := h.b
  refine ⟨?_, ?_, ?_⟩ <;> (simp only [World.cell?, hb]; rfl)

/-- The block of an answer that lies there already, empty. -/
structure ZB (N : Nat) (W : World) (b : Nat) : Prop where
  lo : N ≤ b
  z : W.heap[b]? = some zeroR
theorem zb_last {N : Nat} {A : World} (h : N ≤ A.heap.size) : ZB N (A.alloc zeroR) A.heap.size := ⟨h, heapNew A zeroR⟩
theorem zb_more {N : Nat} {A : World} {b : Nat} (h : ZB N A b) (o : Obj) : ZB N (A.alloc o) b := ⟨h.lo, (Below.heap_alloc A o b (Array.getElem?_eq_some_iff.1 h.z).1).trans h.z⟩
theorem zb_later {N : Nat} {A A' : World} {b : Nat} (h : ZB N A b) (k : Below A.heap.size A A') : ZB N A' b := ⟨h.lo, (k.block b (Array.getElem?_eq_some_iff.1 h.z).1).trans h.z⟩
theorem acLater {W : World} {b i : Nat} {v : Value} (h : W.cell? ⟨b, i, none⟩ = some v) (o : Obj) : (W.alloc o).cell? ⟨b, i, none⟩ = some v := (World.cell?_of_block (w := W) (Below.heap_alloc _ o _ (World.block_lt_of_cell? _ _ h))).trans h
theorem moAll_pre (y m n dt : Int) (i : Nat) : ∀ j : Nat, ∃ r, Rd.moAll y m n dt (i + j) = Rd.moAll y m n dt i ++ r
  | 0 => ⟨[], by simp⟩
  | j + 1 => by
    obtain ⟨r, hr⟩ := moAll_pre y m n dt i j
    exact ⟨r ++ Rd.moL y m n dt (i + j), by rw [show i + (j + 1) = (i + j) + 1 from by omega, Rd.moAll, hr, List.append_assoc]⟩
theorem want_end {y m n dt : Int} {i : Nat} (hi : i ≤ 24) (hl : (Rd.moAll y m n dt i).length ≤ 3) (hx : i = 24 ∨ (Rd.moAll y m n dt i).length = 3) : (Rd.moAll y m n dt 24).take 3 = Rd.moAll y m n dt i ∧ ((Rd.moAll y m n dt 24).length < 3 ↔ (Rd.moAll y m n dt i).length < 3) := by
  obtain ⟨r, hr⟩ := moAll_pre y m n dt i (24 - i)
  rw [show i + (24 - i) = 24 from by omega] at hr
  rcases hx with rfl | hx
  · exact ⟨List.take_of_length_le hl, Iff.rfl⟩
  · rw [hr]
    refine ⟨?_, ?_⟩
    · rw [← hx, List.take_left]
    · rw [List.length_append]; omega
/-- The world is as it was. -/
def SameW (a b : World) : Prop := b = a
theorem row_at {W : World} {x : Option Addr} {n y : Nat} {L : List Int} (h : W.ownsRow 0 3 1 (.slice x n y) L.length (L.map (Value.int .i64))) (j : Nat) (hj : j < L.length) : ∃ g, x = some ⟨g, 0, none⟩ ∧ W.cell? ⟨g, j, none⟩ = some (.int .i64 L[j]) := by
  obtain ⟨g, cap, e⟩ := Joins.ownsRow_form h (by omega)
  simp only [Value.slice.injEq] at e
  obtain ⟨rfl, rfl, rfl⟩ := e
  have a0 := h.cellAt j (by omega)
  rw [List.getElem?_map, List.getElem?_eq_getElem hj, Option.map_some] at a0
  exact ⟨g, rfl, a0⟩
/-- What Do leaves of it. -/
theorem zb_step {S : Col → Prop} {Y W W' : World} {p dk : Nat} {r : Raw} {col col' : Nat → Option Col} {b : Nat} (z : ZB Y.heap.size W b) (h : BD Y p dk st0 r col) (st : Step S W.heap.size col col' W W') : Q7 W' b ∧ (W'.heap[b]? = some zeroR ∧ Y.heap.size ≤ b ∧ col' b = none ∧ b < W.heap.size) := by
  have hl := (Array.getElem?_eq_some_iff.1 z.z).1
  have hc := h.ds.dk.none z.lo
  exact ⟨(Q7.of z.z).later (st.blockN hl hc hl), (st.blockN hl hc hl).trans z.z, z.lo, st.keepN hc hl, hl⟩

theorem setCell_row {W : World} {b i : Nat} {cs : Array Value} {t : TypeId} {q : Nat × Nat} (h : W.heap[b]? = some (.cells cs t q)) (v : Value) : (W.setCell ⟨b, i, none⟩ v).heap[b]? = some (.cells (cs.setIfInBounds i v) t q) := by
  obtain ⟨hlt, hk⟩ := Array.getElem?_eq_some_iff.1 h
  show (W.heap.modify b _)[b]? = _
  rw [Array.getElem?_eq_getElem (by rw [Array.size_modify]; exact hlt), Array.getElem_modify_self, hk]
  rfl
theorem set7_heap {W : World} {Q : Nat} (h : W.heap[Q]? = some zeroR) (a b c d e f g : Value) : (set7 W Q a b c d e f g).heap[Q]? = some (.cells #[a, b, c, d, e, f, g] 40 (0, 0)) := by
  unfold set7
  exact setCell_row (setCell_row (setCell_row (setCell_row (setCell_row (setCell_row (setCell_row h _) _) _) _) _) _) _
theorem fin_do {w Y Wc w9 : World} {p dk R1 : Nat} {r1 r2 : Raw} {col1 col2 : Nat → Option Col} {e1 n1 : Int} {da1 : Value} {L1 : List Int} (h6 : DL w Y p dk r1 col1) (hr : RpK Y col1 R1 e1 n1 da1 L1) (k : Below Y.heap.size Y Wc) (bd9 : BD w9 p dk st0 r2 col2) (st9 : Step anyS Wc.heap.size col1 col2 Wc w9) :
    DL w w9 p dk r2 col2 ∧ RpK w9 col2 R1 e1 n1 da1 L1 ∧ (∀ b, Y.heap.size ≤ b → col1 b = none) ∧ Y.heap.size ≤ w9.heap.size ∧ p < Y.heap.size ∧ R1 < Y.heap.size ∧ (∀ b, da1.ownBlock = some b → b < Y.heap.size) ∧ w.heap.size ≤ Y.heap.size ∧ 10 ≤ Y.heap.size := by
  obtain ⟨x, y, z, hb⟩ := hr.b
  exact ⟨(h6.later k).step bd9 st9, (hr.later k).step st9, fun b hb => h6.bd.ds.dk.none hb, Nat.le_trans k.size st9.size, (Array.getElem?_eq_some_iff.1 h6.bd.pc).1, (Array.getElem?_eq_some_iff.1 hb).1, fun b hb => (hr.row.lt b hb).2, h6.bl.size, h6.bd.env.size⟩
theorem entNum (args : Array Value) (w : World) : (callFunc 21 args).run Tryz.prog w = .ok (.enter 21 args) w := enters_of Tryz.func21 (by kernel_rfl) rfl args w
theorem entDo (args : Array Value) (w : World) : (callFunc 20 args).run Tryz.prog w = .ok (.enter 20 args) w := enters_of Tryz.func20 (by kernel_rfl) rfl args w
theorem wd_is {dd : Int} (h0 : 0 ≤ dd) : ∃ (i : Nat) (wd : ByteArray), i < 7 ∧ dd.tmod 7 = (i : Int) ∧ wd.size = 2 ∧ Txt.onW wd = some [dd % 7] ∧ Txt.wordB wd.data.toList = true ∧ ∀ W : World, (W.alloc (.cells #[.string ⟨#[109, 111]⟩, .string ⟨#[116, 117]⟩, .string ⟨#[119, 101]⟩, .string ⟨#[116, 104]⟩, .string ⟨#[102, 114]⟩, .string ⟨#[115, 97]⟩, .string ⟨#[115, 117]⟩] 9)).cell? ⟨W.heap.size, i, none⟩ = some (.string wd) := by
  rw [Int.tmod_eq_emod_of_nonneg h0]
  have h : dd % 7 = 0 ∨ dd % 7 = 1 ∨ dd % 7 = 2 ∨ dd % 7 = 3 ∨ dd % 7 = 4 ∨ dd % 7 = 5 ∨ dd % 7 = 6 := by omega
  rcases h with e | e | e | e | e | e | e <;> rw [e]
  · exact ⟨0, ⟨#[109, 111]⟩, by decide, by decide, by decide, by decide +kernel, by decide +kernel, fun W => by simp⟩
  · exact ⟨1, ⟨#[116, 117]⟩, by decide, by decide, by decide, by decide +kernel, by decide +kernel, fun W => by simp⟩
  · exact ⟨2, ⟨#[119, 101]⟩, by decide, by decide, by decide, by decide +kernel, by decide +kernel, fun W => by simp⟩
  · exact ⟨3, ⟨#[116, 104]⟩, by decide, by decide, by decide, by decide +kernel, by decide +kernel, fun W => by simp⟩
  · exact ⟨4, ⟨#[102, 114]⟩, by decide, by decide, by decide, by decide +kernel, by decide +kernel, fun W => by simp⟩
  · exact ⟨5, ⟨#[115, 97]⟩, by decide, by decide, by decide, by decide +kernel, by decide +kernel, fun W => by simp⟩
  · exact ⟨6, ⟨#[115, 117]⟩, by decide, by decide, by decide, by decide +kernel, by decide +kernel, fun W => by simp⟩

/-- The answer comes into a block that lies there, whenever it was made. -/
theorem fin_c {w w9 : World} {p dk R1 N : Nat} {r2 : Raw} {col2 : Nat → Option Col} {e1 n1 : Int} {da1 : Value} {L1 : List Int} (dl : DL w w9 p dk r2 col2) (rp : RpK w9 col2 R1 e1 n1 da1 L1) (hp : p < N) (hR : R1 < N) (hl : ∀ b, da1.ownBlock = some b → b < N) (hw : w.heap.size ≤ N) (h10 : 10 ≤ N)
    {Q : Nat} {er n : Int} {L : List Int} {x y z da : Value} (row : w9.ownsRow 0 3 1 da L.length (L.map (Value.int .i64))) (no : ∀ b, da.ownBlock = some b → col2 b = none) (z1 : w9.heap[Q]? = some zeroR) (z2 : N ≤ Q) (z3 : col2 Q = none) (z4 : ∀ b, da.ownBlock = some b → b ≠ Q) :
    DL w (set7 w9 Q (.int .i64 er) (.int .i64 0) (.int .i64 n) x da y z) p dk r2 col2 ∧ RpK (set7 w9 Q (.int .i64 er) (.int .i64 0) (.int .i64 n) x da y z) col2 R1 e1 n1 da1 L1 ∧ RpK (set7 w9 Q (.int .i64 er) (.int .i64 0) (.int .i64 n) x da y z) col2 Q er n da L := by
  have ko := set7_off w9 Q (.int .i64 er) (.int .i64 0) (.int .i64 n) x da y z
  have hs := set7_heap z1 (.int .i64 er) (.int .i64 0) (.int .i64 n) x da y z
  have hQ := (Array.getElem?_eq_some_iff.1 z1).1
  generalize set7 w9 Q (.int .i64 er) (.int .i64 0) (.int .i64 n) x da y z = V at *
  have kb : ∀ M, M ≤ N → Below M w9 V := fun M hM => ⟨ko.os, ko.tape, ko.output, ko.size, fun b hb => ko.block b (by omega) (fun hx => by have := List.mem_singleton.1 hx; omega)⟩
  have own : ∀ {C : Nat} {v : Value} {l : List Int}, w9.ownsRow C 3 1 v l.length (l.map (Value.int .i64)) → (∀ b, v.ownBlock = some b → b ≠ Q) → V.ownsRow C 3 1 v l.length (l.map (Value.int .i64)) := fun h hq => by
    refine ⟨h.1, ?_⟩
    rcases h.2 with h0 | ⟨g, cap, cur, rfl, h2, h3, h4⟩
    · exact .inl h0
    · exact .inr ⟨g, cap, cur, rfl, h2, (ko.block g (Array.getElem?_eq_some_iff.1 h3).1 (fun hx => hq g rfl (List.mem_singleton.1 hx))).trans h3, h4⟩
  obtain ⟨x1, y1, q1, hb1⟩ := rp.b
  refine ⟨⟨⟨(ko.block p (by omega) (fun hx => by have := List.mem_singleton.1 hx; omega)).trans dl.bd.pc, dl.bd.pn, ⟨dl.bd.ds.dk.off ko (fun b hb => by have : b = Q := List.mem_singleton.1 hb; subst this; exact z3), dl.bd.ds.of, dl.bd.ds.wl, dl.bd.ds.hl, dl.bd.ds.inv⟩, dl.bd.env.ten (kb 10 h10), dl.bd.gl⟩, dl.bl.trans (kb _ hw), dl.lo⟩,
    ⟨⟨x1, y1, q1, (ko.block R1 (by omega) (fun hx => by have := List.mem_singleton.1 hx; omega)).trans hb1⟩, rp.c, own rp.row (fun b hb e => by have := hl b hb; omega), rp.no⟩,
    ⟨⟨x, y, z, hs⟩, z3, own row z4, no⟩⟩

end Go.Proofs.YtjfkfiffakbagaaGreatDoor


/-
  A region that draws its order, by what holds between any two of its operations.
-/
namespace Go.Proofs.YtjfkfiffakbagaaGreatDoor
open Go

/-- How many operations are still to come. -/
def toCome (n : Nat) (listed : Array Bool) : Nat := ((List.range n).filter fun i => !listed.getD i true).length

theorem toCome_set {n : Nat} {listed : Array Bool} {i : Nat} (hs : listed.size = n) (hi : listed.getD i true = false) : toCome n (listed.setIfInBounds i true) < toCome n listed := by
  have hin : i < listed.size := by
    apply Classical.byContradiction
    intro h
    rw [Array.getD_eq_getD_getElem?, Array.getElem?_eq_none (by omega)] at hi
    cases hi
  have hg : ∀ j, (listed.setIfInBounds i true).getD j true = (decide (j = i) || listed.getD j true) := fun j => by
    by_cases e : j = i
    · subst e; simp [Array.getD_eq_getD_getElem?, hin]
    · have e' : ¬ i = j := fun h => e h.symm
      simp [Array.getD_eq_getD_getElem?, e, e']
  unfold toCome
  have : (List.range n).filter (fun j => !(listed.setIfInBounds i true).getD j true) = ((List.range n).filter fun j => !listed.getD j true).filter (fun j => !decide (j = i)) := by
    rw [List.filter_filter]
    congr 1
    funext j
    rw [hg j]
    cases decide (j = i) <;> simp
  rw [this]
  have hm : i ∈ (List.range n).filter fun j => !listed.getD j true := List.mem_filter.2 ⟨List.mem_range.2 (by omega), by rw [hi]; rfl⟩
  exact List.length_filter_lt_length_iff_exists.2 ⟨i, hm, by simp⟩

theorem getD_in {listed : Array Bool} {i : Nat} (h : i < listed.size) (b c : Bool) : listed.getD i b = listed.getD i c := by
  simp [Array.getD_eq_getD_getElem?, h]
theorem getD_set {listed : Array Bool} {i : Nat} (h : i < listed.size) : (fun j => (listed.setIfInBounds i true).getD j false) = fun j => decide (j = i) || listed.getD j false := by
  funext j
  by_cases e : j = i
  · subst e; simp [Array.getD_eq_getD_getElem?, h]
  · have e' : ¬ i = j := fun h => e h.symm
    simp [Array.getD_eq_getD_getElem?, e, e']

section
variable {P : Program} {ops : Array Oper} {Q : Exit → Act → World → Prop} {md : Region.Mode} {n : Nat}

theorem all_listed (hn : ops.size = n) (hord : ∀ (i : Nat) (o : Oper), ops[i]? = some o → (o.after.all fun e => !Region.binds md e || decide (e.on < i)) = true) {listed : Array Bool} (hs : listed.size = n) (hr : Region.ready md ops listed = []) : ∀ i, i < n → listed.getD i false = true := by
  intro i
  induction i using Nat.strongRecOn with
  | _ i ih =>
    intro hi
    apply Classical.byContradiction
    intro hc
    have hc' : listed.getD i true = false := by rw [getD_in (by omega) true false]; simpa using hc
    obtain ⟨o, ho⟩ : ∃ o, ops[i]? = some o := ⟨_, Array.getElem?_eq_getElem (by omega)⟩
    have hm : i ∈ Region.ready md ops listed := by
      refine List.mem_filter.2 ⟨List.mem_range.2 (by omega), ?_⟩
      rw [hc', ho]
      have h1 := hord i o ho
      rw [Array.all_eq_true'] at h1
      show (!false && (o.after.all fun e => !Region.binds md e || listed.getD e.on false)) = true
      rw [Bool.not_false, Bool.true_and, Array.all_eq_true']
      intro e he
      have h2 := h1 e he
      cases hb : Region.binds md e
      · rfl
      · rw [hb] at h2
        have h3 : e.on < i := by simpa using h2
        rw [ih e.on h3 (by omega)]; rfl
    rw [hr] at hm
    cases hm

/-- What is through has behind it what it waits for. -/
def Closed (md : Region.Mode) (ops : Array Oper) (L : Nat → Bool) : Prop := ∀ (i : Nat) (o : Oper), ops[i]? = some o → L i = true → (o.after.all fun e => !Region.binds md e || L e.on) = true
theorem Closed.more {L : Nat → Bool} (h : Closed md ops L) {i : Nat} {o : Oper} (ho : ops[i]? = some o) (hd : (o.after.all fun e => !Region.binds md e || L e.on) = true) : Closed md ops (fun j => decide (j = i) || L j) := by
  intro j q hq hj
  have up : ∀ (q : Oper), (q.after.all fun e => !Region.binds md e || L e.on) = true → (q.after.all fun e => !Region.binds md e || (decide (e.on = i) || L e.on)) = true := fun q hq => by
    rw [Array.all_eq_true'] at hq ⊢
    intro e he
    have := hq e he
    cases hb : Region.binds md e
    · rfl
    · rw [hb] at this
      have h1 : L e.on = true := by simpa using this
      rw [h1]; simp
  by_cases e : j = i
  · subst e
    rw [ho] at hq
    cases hq
    exact up o hd
  · have : L j = true := by simpa [e] using hj
    exact up q (h j q hq this)

/-- What holds between any two operations holds at the end. -/
theorem wpAny_inv (hn : ops.size = n) (hord : ∀ (i : Nat) (o : Oper), ops[i]? = some o → (o.after.all fun e => !Region.binds md e || decide (e.on < i)) = true) (I : (Nat → Bool) → Act → World → Prop)
    (hstep : ∀ (L : Nat → Bool) (a : Act) (w : World) (i : Nat) (o : Oper), Closed md ops L → I L a w → ops[i]? = some o → L i = false → (o.after.all fun e => !Region.binds md e || L e.on) = true → ∀ K : Act → World → Prop, (∀ a' w', I (fun j => decide (j = i) || L j) a' w' → K a' w') → if Region.wanted o (yielded ops a.tmps) = true then Oper.wp P o a w K Q else K (a.put o.dst undef) w)
    (hdone : ∀ (L : Nat → Bool) (a : Act) (w : World), (∀ i, i < n → L i = true) → I L a w → Q .normal a w) :
    ∀ (fuel : Nat) (listed : Array Bool) (a : Act) (w : World), listed.size = n → toCome n listed ≤ fuel → Closed md ops (fun j => listed.getD j false) → I (fun j => listed.getD j false) a w → wpAny P md ops Q fuel listed a w := by
  intro fuel
  induction fuel with
  | zero =>
    intro listed a w hs ht hcl hI
    have hr : Region.ready md ops listed = [] := by
      apply Classical.byContradiction
      intro hne
      obtain ⟨i, hi⟩ := List.exists_mem_of_ne_nil _ hne
      obtain ⟨h1, h2⟩ := List.mem_filter.1 hi
      have h3 : listed.getD i true = false := by
        rw [Bool.and_eq_true] at h2
        simpa using h2.1
      have : i ∈ (List.range n).filter fun i => !listed.getD i true := List.mem_filter.2 ⟨by rw [← hn]; exact h1, by rw [h3]; rfl⟩
      have := List.length_pos_of_mem this
      unfold toCome at ht
      omega
    exact ⟨hr, hdone _ _ _ (all_listed hn hord hs hr) hI⟩
  | succ fuel ih =>
    intro listed a w hs ht hcl hI
    refine ⟨fun hr => hdone _ _ _ (all_listed hn hord hs hr) hI, fun i hi => ?_⟩
    obtain ⟨h1, h2⟩ := List.mem_filter.1 hi
    have hin : i < n := by rw [← hn]; exact List.mem_range.1 h1
    rw [Bool.and_eq_true] at h2
    have h3 : listed.getD i true = false := by simpa using h2.1
    obtain ⟨o, ho⟩ : ∃ o, ops[i]? = some o := ⟨_, Array.getElem?_eq_getElem (by omega)⟩
    have h4 : (o.after.all fun e => !Region.binds md e || listed.getD e.on false) = true := by
      have := h2.2
      rw [ho] at this
      exact this
    refine wpOp_step ho (fun K hK => hstep _ a w i o hcl hI ho ?_ h4 K (fun a' w' hI' => hK _ _ (ih _ _ _ (by simpa using hs) ?_ ?_ ?_)))
    · rw [← getD_in (by omega) true false]; exact h3
    · have := toCome_set hs h3; omega
    · rw [getD_set (by omega)]; exact hcl.more ho h4
    · rw [getD_set (by omega)]; exact hI'

theorem none_yet (n : Nat) : (fun j => (Array.replicate n false).getD j false) = fun _ => false := by
  funext j
  by_cases h : j < n <;> simp [Array.getD_eq_getD_getElem?, h]
/-- A region that draws, by what holds between any two of its operations. -/
theorem wp_region_inv {id : Nat} {a : Act} {w : World} (hm : P.follows .mixedOrders = true) (hord : ∀ (i : Nat) (o : Oper), ops[i]? = some o → (o.after.all fun e => !Region.binds .any e || decide (e.on < i)) = true) (I : (Nat → Bool) → Act → World → Prop) (h0 : I (fun _ => false) a w.drew)
    (hstep : ∀ (L : Nat → Bool) (a : Act) (w : World) (i : Nat) (o : Oper), Closed .any ops L → I L a w → ops[i]? = some o → L i = false → (o.after.all fun e => !Region.binds .any e || L e.on) = true → ∀ K : Act → World → Prop, (∀ a' w', I (fun j => decide (j = i) || L j) a' w' → K a' w') → if Region.wanted o (yielded ops a.tmps) = true then Oper.wp P o a w K Q else K (a.put o.dst undef) w)
    (hdone : ∀ (L : Nat → Bool) (a : Act) (w : World), (∀ i, i < ops.size → L i = true) → I L a w → Q .normal a w) : (Code.region id ops true).wp P Q a w := by
  refine wp_region_any hm (wpAny_inv rfl hord I hstep hdone ops.size (Array.replicate ops.size false) a _ (by simp) ?_ ?_ ?_)
  · unfold toCome
    exact Nat.le_trans (List.length_filter_le _ _) (by simp)
  · rw [none_yet]; intro i o _ h; cases h
  · rw [none_yet]; exact h0

end

end Go.Proofs.YtjfkfiffakbagaaGreatDoor


/-
  What holds between any two operations of the region of bookingskeep.Days that draws.
-/
namespace Go.Proofs.YtjfkfiffakbagaaGreatDoor
open Go.RowKit
open Desk (Ent St Ids kept booked bookE sumA Items ofB sameB Risen Mid EntOk endsB Inv)

/-- What holds between any two operations of region 12. -/
structure R12 (w Y : World) (p dk R1 : Nat) (da1 : Value) (dd nn tt uu : Int) (FT wd : ByteArray) (i : Nat) (col1 : Nat → Option Col) (L : Nat → Bool) (u14 u65 u66 u67 u68 u69 u70 u71 u72 u73 u74 u75 u76 u77 u78 u79 u80 u81 u82 u83 : Value) (W : World) : Prop where
  f0 : L 0 = true → u65 = .pointer (some ⟨p, 0, none⟩)
  f1 : L 1 = true → u66 = .int .i64 nn
  f2 : L 2 = true → u67 = .string (Txt.itoaS nn)
  f3 : L 3 = true → u68 = .string (((⟨#[101, 120, 112, 97, 110, 100, 32, 119, 101, 101, 107, 108, 121, 32]⟩ : ByteArray) ++ Txt.itoaS nn))
  f4 : L 4 = true → u69 = .string ((((⟨#[101, 120, 112, 97, 110, 100, 32, 119, 101, 101, 107, 108, 121, 32]⟩ : ByteArray) ++ Txt.itoaS nn)) ++ ⟨#[32]⟩)
  f5 : L 5 = true → ∃ g, u70 = .slice (some ⟨g, 0, none⟩) 7 7 ∧ (L 18 = false → W.cell? ⟨g, i, none⟩ = some (.string wd))
  f6 : L 6 = true → u71 = .int .i64 dd
  f7 : L 7 = true → u72 = .int .i64 (i : Int)
  f8 : L 8 = true → ∃ g, u73 = .pointer (some ⟨g, i, none⟩) ∧ (L 18 = false → W.cell? ⟨g, i, none⟩ = some (.string wd))
  f9 : L 9 = true → u74 = .string wd
  f10 : L 10 = true → u75 = .string (((((⟨#[101, 120, 112, 97, 110, 100, 32, 119, 101, 101, 107, 108, 121, 32]⟩ : ByteArray) ++ Txt.itoaS nn)) ++ ⟨#[32]⟩) ++ wd)
  f11 : L 11 = true → u76 = .string FT
  f12 : L 12 = true → u77 = .string ((((((⟨#[101, 120, 112, 97, 110, 100, 32, 119, 101, 101, 107, 108, 121, 32]⟩ : ByteArray) ++ Txt.itoaS nn)) ++ ⟨#[32]⟩) ++ wd) ++ FT)
  f13 : L 13 = true → u78 = .int .i64 tt
  f14 : L 14 = true → u79 = .int .i64 (tt % 9)
  f15 : L 15 = true → u80 = .int .i64 uu
  f16 : L 16 = true → u81 = .string (Txt.itoaS uu)
  f17 : L 17 = true → u82 = .string (((((((⟨#[101, 120, 112, 97, 110, 100, 32, 119, 101, 101, 107, 108, 121, 32]⟩ : ByteArray) ++ Txt.itoaS nn)) ++ ⟨#[32]⟩) ++ wd) ++ FT) ++ Txt.itoaS uu)
  f19 : L 19 = true → ∃ b, u14 = .pointer (some ⟨b, 0, none⟩) ∧ (L 18 = false → ZB Y.heap.size W b)
  ah : L 18 = false → Below Y.heap.size Y W
  mid : L 18 = true → L 20 = false → ∃ (b1 b2 b3 b4 : Option Addr) (m1 m3 m4 q1 q2 q3 q4 : Nat) (r2 : Raw) (col2 : Nat → Option Col), u83 = .agg #[.int .i64 0, .int .i64 0, .int .i64 uu, .slice b1 m1 q1, .slice b2 uu.toNat q2, .slice b3 m3 q3, .slice b4 m4 q4] ∧ DL w W p dk r2 col2 ∧ RpK W col2 R1 0 tt da1 (Rd.prog dd nn tt.toNat) ∧ Y.heap.size ≤ W.heap.size ∧ W.ownsRow 0 3 1 (.slice b2 uu.toNat q2) uu.toNat ((Rd.prog dd (7 * nn) uu.toNat).map (Value.int .i64)) ∧ (∀ b, (Value.slice b2 uu.toNat q2).ownBlock = some b → col2 b = none) ∧
    (L 19 = true → ∀ b, u14 = .pointer (some ⟨b, 0, none⟩) → W.heap[b]? = some zeroR ∧ Y.heap.size ≤ b ∧ col2 b = none ∧ ∀ c, (Value.slice b2 uu.toNat q2).ownBlock = some c → c ≠ b)
  fin : L 20 = true → ∃ (R2 : Nat) (x2 : Option Addr) (y2 : Nat) (r2 : Raw) (col2 : Nat → Option Col), u14 = .pointer (some ⟨R2, 0, none⟩) ∧ DL w W p dk r2 col2 ∧ RpK W col2 R1 0 tt da1 (Rd.prog dd nn tt.toNat) ∧ RpK W col2 R2 0 uu (.slice x2 uu.toNat y2) (Rd.prog dd (7 * nn) uu.toNat)

end Go.Proofs.YtjfkfiffakbagaaGreatDoor

