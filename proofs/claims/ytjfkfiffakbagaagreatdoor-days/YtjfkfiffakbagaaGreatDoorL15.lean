/-
  Parts of the proof, one behind the other: DeskExpand, DeskAnswer3, Lits, ReadsExp, ExpandDo, PadTxt, ItoaWalk, WordsJoin, NumText, KeepWalks, KeepDays.
-/
import Derived.Test.YtjfkfiffakbagaaGreatDoorL14
import Derived.Lib.ItoaNum
/-
  Package desk: expand.
-/
namespace Go.Proofs.YtjfkfiffakbagaaGreatDoor
open Go.RowKit
open Desk (Ent St Ids kept booked bookE sumA Items ofB sameB Risen Mid EntOk endsB Inv)

/-- An answer with days has been put into its block. -/
theorem DSt.ansDays {w Z : World} {d : Nat} {s : St} {r : Raw} {col : Nat → Option Col} (h : DSt w d s r col) (k : Below w.heap.size w Z) {Q : Nat} (hQ : w.heap.size ≤ Q) {l : List Int} {da : Value} (own : Z.ownsRow (Q + 1) 3 1 da l.length (l.map (Value.int .i64))) (n : Int) (a b c e f g i : Value) :
    AnsPost w d col (s, ⟨0, 0, n, [], l, [], []⟩) (repV 0 0 n (.slice none 0 0) da (.slice none 0 0) (.slice none 0 0)) (set7 Z Q a b c e f g i) := by
  have ko := set7_off Z Q a b c e f g i
  have dz := h.dk.later k
  have nq : ∀ b, Q ≤ b → col b = none := fun b hb => h.dk.none (by omega)
  have st : Step anyS w.heap.size col col Z (set7 Z Q a b c e f g i) := ⟨⟨_, ko, fun x hx => .inr (by have : x = Q := List.mem_singleton.1 hx; subst this; exact ⟨nq _ (Nat.le_refl _), hQ⟩)⟩, fun _ _ h => h, fun _ _ h => .inl h⟩
  have rp : RepIs Z (Q + 1) col (repV 0 0 n (.slice none 0 0) da (.slice none 0 0) (.slice none 0 0)) ⟨0, 0, n, [], l, [], []⟩ :=
    ⟨_, _, _, _, [], rfl, rfl, ERow.nil _ _ _, ⟨own, fun b hb => nq b (by have := (own.lt b hb).1; omega)⟩, NRow.nil _ _ _, NRow.nil _ _ _, fun b hb => by cases hb⟩
  exact ⟨r, col, dz.off ko (fun x hx => by have : x = Q := List.mem_singleton.1 hx; subst this; exact nq _ (Nat.le_refl _)), h.of, h.wl, h.hl, (Step.below k).trans st, (rp.off ko (fun x hx => by have : x = Q := List.mem_singleton.1 hx; omega)).base (by omega)⟩

theorem does_expand_err {s : St} {r : Rd.Rule} (hf : Rd.Fine r) (h : Rd.progErr r ≠ 0) : Desk.doesD s (.expand r) = (s, Desk.Rep.error (Rd.progErr r)) := by
  have e := (Rd.err_same hf).1
  simp only [Desk.doesD]
  rw [← e, if_pos h]
theorem does_expand {s : St} {r : Rd.Rule} (hf : Rd.Fine r) (h : Rd.progErr r = 0) : Desk.doesD s (.expand r) = (s, ⟨0, 0, ((daysOf r).length : Int), [], daysOf r, [], []⟩) := by
  obtain ⟨e1, e2⟩ := Rd.err_same hf
  have e3 := (e2 (by rw [← e1]; exact h)).1
  have e4 : daysOf r = Rd.docDays r := by unfold daysOf; rw [if_pos h, e3]
  simp only [Desk.doesD]
  rw [← e1, if_neg (by omega), e4]
  rfl

/-- The block of a line with a rule. -/
theorem exp_cells (w : World) (r : Rd.Rule) : let X := ((w.alloc (.cells #[.int .i64 r.pc, .int .i64 r.ev, .bool (isd r.acc 0), .bool (isd r.acc 1), .bool (isd r.acc 2), .bool (isd r.acc 3), .bool (isd r.acc 4), .bool (isd r.acc 5), .bool (isd r.acc 6), .int .i64 r.fr, .int .i64 r.mn, .int .i64 r.mi, .int .i64 r.ti, .int .i64 r.un] 174)).alloc zeroR); Below w.heap.size w X ∧ X.heap[w.heap.size + 1]? = some zeroR ∧ X.heap.size = w.heap.size + 2 ∧ X.heap[w.heap.size]? = some (.cells #[.int .i64 r.pc, .int .i64 r.ev, .bool (isd r.acc 0), .bool (isd r.acc 1), .bool (isd r.acc 2), .bool (isd r.acc 3), .bool (isd r.acc 4), .bool (isd r.acc 5), .bool (isd r.acc 6), .int .i64 r.fr, .int .i64 r.mn, .int .i64 r.mi, .int .i64 r.ti, .int .i64 r.un] 174 (0, 0)) := by
  obtain ⟨h1, h2⟩ := two_more (w := w) (.cells #[.int .i64 r.pc, .int .i64 r.ev, .bool (isd r.acc 0), .bool (isd r.acc 1), .bool (isd r.acc 2), .bool (isd r.acc 3), .bool (isd r.acc 4), .bool (isd r.acc 5), .bool (isd r.acc 6), .int .i64 r.fr, .int .i64 r.mn, .int .i64 r.mi, .int .i64 r.ti, .int .i64 r.un] 174)
  exact ⟨h1, h2, by simp, (Below.heap_alloc _ _ _ (by simp)).trans (World.alloc_heap_new w _)⟩
theorem exp_c0 {w : World} {b : Nat} {r : Rd.Rule} (h : w.heap[b]? = some (.cells #[.int .i64 r.pc, .int .i64 r.ev, .bool (isd r.acc 0), .bool (isd r.acc 1), .bool (isd r.acc 2), .bool (isd r.acc 3), .bool (isd r.acc 4), .bool (isd r.acc 5), .bool (isd r.acc 6), .int .i64 r.fr, .int .i64 r.mn, .int .i64 r.mi, .int .i64 r.ti, .int .i64 r.un] 174 (0, 0))) : w.cell? ⟨b, 0, none⟩ = some (.int .i64 r.pc) := by simp only [World.cell?, h]; rfl
theorem exp_c1 {w : World} {b : Nat} {r : Rd.Rule} (h : w.heap[b]? = some (.cells #[.int .i64 r.pc, .int .i64 r.ev, .bool (isd r.acc 0), .bool (isd r.acc 1), .bool (isd r.acc 2), .bool (isd r.acc 3), .bool (isd r.acc 4), .bool (isd r.acc 5), .bool (isd r.acc 6), .int .i64 r.fr, .int .i64 r.mn, .int .i64 r.mi, .int .i64 r.ti, .int .i64 r.un] 174 (0, 0))) : w.cell? ⟨b, 1, none⟩ = some (.int .i64 r.ev) := by simp only [World.cell?, h]; rfl
theorem exp_c2 {w : World} {b : Nat} {r : Rd.Rule} (h : w.heap[b]? = some (.cells #[.int .i64 r.pc, .int .i64 r.ev, .bool (isd r.acc 0), .bool (isd r.acc 1), .bool (isd r.acc 2), .bool (isd r.acc 3), .bool (isd r.acc 4), .bool (isd r.acc 5), .bool (isd r.acc 6), .int .i64 r.fr, .int .i64 r.mn, .int .i64 r.mi, .int .i64 r.ti, .int .i64 r.un] 174 (0, 0))) : w.cell? ⟨b, 2, none⟩ = some (.bool (isd r.acc 0)) := by simp only [World.cell?, h]; rfl
theorem exp_c3 {w : World} {b : Nat} {r : Rd.Rule} (h : w.heap[b]? = some (.cells #[.int .i64 r.pc, .int .i64 r.ev, .bool (isd r.acc 0), .bool (isd r.acc 1), .bool (isd r.acc 2), .bool (isd r.acc 3), .bool (isd r.acc 4), .bool (isd r.acc 5), .bool (isd r.acc 6), .int .i64 r.fr, .int .i64 r.mn, .int .i64 r.mi, .int .i64 r.ti, .int .i64 r.un] 174 (0, 0))) : w.cell? ⟨b, 3, none⟩ = some (.bool (isd r.acc 1)) := by simp only [World.cell?, h]; rfl
theorem exp_c4 {w : World} {b : Nat} {r : Rd.Rule} (h : w.heap[b]? = some (.cells #[.int .i64 r.pc, .int .i64 r.ev, .bool (isd r.acc 0), .bool (isd r.acc 1), .bool (isd r.acc 2), .bool (isd r.acc 3), .bool (isd r.acc 4), .bool (isd r.acc 5), .bool (isd r.acc 6), .int .i64 r.fr, .int .i64 r.mn, .int .i64 r.mi, .int .i64 r.ti, .int .i64 r.un] 174 (0, 0))) : w.cell? ⟨b, 4, none⟩ = some (.bool (isd r.acc 2)) := by simp only [World.cell?, h]; rfl
theorem exp_c5 {w : World} {b : Nat} {r : Rd.Rule} (h : w.heap[b]? = some (.cells #[.int .i64 r.pc, .int .i64 r.ev, .bool (isd r.acc 0), .bool (isd r.acc 1), .bool (isd r.acc 2), .bool (isd r.acc 3), .bool (isd r.acc 4), .bool (isd r.acc 5), .bool (isd r.acc 6), .int .i64 r.fr, .int .i64 r.mn, .int .i64 r.mi, .int .i64 r.ti, .int .i64 r.un] 174 (0, 0))) : w.cell? ⟨b, 5, none⟩ = some (.bool (isd r.acc 3)) := by simp only [World.cell?, h]; rfl
theorem exp_c6 {w : World} {b : Nat} {r : Rd.Rule} (h : w.heap[b]? = some (.cells #[.int .i64 r.pc, .int .i64 r.ev, .bool (isd r.acc 0), .bool (isd r.acc 1), .bool (isd r.acc 2), .bool (isd r.acc 3), .bool (isd r.acc 4), .bool (isd r.acc 5), .bool (isd r.acc 6), .int .i64 r.fr, .int .i64 r.mn, .int .i64 r.mi, .int .i64 r.ti, .int .i64 r.un] 174 (0, 0))) : w.cell? ⟨b, 6, none⟩ = some (.bool (isd r.acc 4)) := by simp only [World.cell?, h]; rfl
theorem exp_c7 {w : World} {b : Nat} {r : Rd.Rule} (h : w.heap[b]? = some (.cells #[.int .i64 r.pc, .int .i64 r.ev, .bool (isd r.acc 0), .bool (isd r.acc 1), .bool (isd r.acc 2), .bool (isd r.acc 3), .bool (isd r.acc 4), .bool (isd r.acc 5), .bool (isd r.acc 6), .int .i64 r.fr, .int .i64 r.mn, .int .i64 r.mi, .int .i64 r.ti, .int .i64 r.un] 174 (0, 0))) : w.cell? ⟨b, 7, none⟩ = some (.bool (isd r.acc 5)) := by simp only [World.cell?, h]; rfl
theorem exp_c8 {w : World} {b : Nat} {r : Rd.Rule} (h : w.heap[b]? = some (.cells #[.int .i64 r.pc, .int .i64 r.ev, .bool (isd r.acc 0), .bool (isd r.acc 1), .bool (isd r.acc 2), .bool (isd r.acc 3), .bool (isd r.acc 4), .bool (isd r.acc 5), .bool (isd r.acc 6), .int .i64 r.fr, .int .i64 r.mn, .int .i64 r.mi, .int .i64 r.ti, .int .i64 r.un] 174 (0, 0))) : w.cell? ⟨b, 8, none⟩ = some (.bool (isd r.acc 6)) := by simp only [World.cell?, h]; rfl
theorem exp_c9 {w : World} {b : Nat} {r : Rd.Rule} (h : w.heap[b]? = some (.cells #[.int .i64 r.pc, .int .i64 r.ev, .bool (isd r.acc 0), .bool (isd r.acc 1), .bool (isd r.acc 2), .bool (isd r.acc 3), .bool (isd r.acc 4), .bool (isd r.acc 5), .bool (isd r.acc 6), .int .i64 r.fr, .int .i64 r.mn, .int .i64 r.mi, .int .i64 r.ti, .int .i64 r.un] 174 (0, 0))) : w.cell? ⟨b, 9, none⟩ = some (.int .i64 r.fr) := by simp only [World.cell?, h]; rfl
theorem exp_c10 {w : World} {b : Nat} {r : Rd.Rule} (h : w.heap[b]? = some (.cells #[.int .i64 r.pc, .int .i64 r.ev, .bool (isd r.acc 0), .bool (isd r.acc 1), .bool (isd r.acc 2), .bool (isd r.acc 3), .bool (isd r.acc 4), .bool (isd r.acc 5), .bool (isd r.acc 6), .int .i64 r.fr, .int .i64 r.mn, .int .i64 r.mi, .int .i64 r.ti, .int .i64 r.un] 174 (0, 0))) : w.cell? ⟨b, 10, none⟩ = some (.int .i64 r.mn) := by simp only [World.cell?, h]; rfl
theorem exp_c11 {w : World} {b : Nat} {r : Rd.Rule} (h : w.heap[b]? = some (.cells #[.int .i64 r.pc, .int .i64 r.ev, .bool (isd r.acc 0), .bool (isd r.acc 1), .bool (isd r.acc 2), .bool (isd r.acc 3), .bool (isd r.acc 4), .bool (isd r.acc 5), .bool (isd r.acc 6), .int .i64 r.fr, .int .i64 r.mn, .int .i64 r.mi, .int .i64 r.ti, .int .i64 r.un] 174 (0, 0))) : w.cell? ⟨b, 11, none⟩ = some (.int .i64 r.mi) := by simp only [World.cell?, h]; rfl
theorem exp_c12 {w : World} {b : Nat} {r : Rd.Rule} (h : w.heap[b]? = some (.cells #[.int .i64 r.pc, .int .i64 r.ev, .bool (isd r.acc 0), .bool (isd r.acc 1), .bool (isd r.acc 2), .bool (isd r.acc 3), .bool (isd r.acc 4), .bool (isd r.acc 5), .bool (isd r.acc 6), .int .i64 r.fr, .int .i64 r.mn, .int .i64 r.mi, .int .i64 r.ti, .int .i64 r.un] 174 (0, 0))) : w.cell? ⟨b, 12, none⟩ = some (.int .i64 r.ti) := by simp only [World.cell?, h]; rfl
theorem exp_c13 {w : World} {b : Nat} {r : Rd.Rule} (h : w.heap[b]? = some (.cells #[.int .i64 r.pc, .int .i64 r.ev, .bool (isd r.acc 0), .bool (isd r.acc 1), .bool (isd r.acc 2), .bool (isd r.acc 3), .bool (isd r.acc 4), .bool (isd r.acc 5), .bool (isd r.acc 6), .int .i64 r.fr, .int .i64 r.mn, .int .i64 r.mi, .int .i64 r.ti, .int .i64 r.un] 174 (0, 0))) : w.cell? ⟨b, 13, none⟩ = some (.int .i64 r.un) := by simp only [World.cell?, h]; rfl

set_option maxRecDepth 100000 in
set_option maxHeartbeats 4000000 in
theorem expand_any {w : World} {d : Nat} {s : St} {rw_ : Raw} {col : Nat → Option Col} (h : DSt w d s rw_ col) (ht : Tab w) (h10 : 10 ≤ w.heap.size) (r : Rd.Rule) (hf : Rd.Fine r) :
    Calls Tryz.prog 102 #[.agg #[.int .i64 r.pc, .int .i64 r.ev, .bool (isd r.acc 0), .bool (isd r.acc 1), .bool (isd r.acc 2), .bool (isd r.acc 3), .bool (isd r.acc 4), .bool (isd r.acc 5), .bool (isd r.acc 6), .int .i64 r.fr, .int .i64 r.mn, .int .i64 r.mi, .int .i64 r.ti, .int .i64 r.un]] w fun e w' => ∃ v, e = .returned v ∧ AnsPost w d col (Desk.doesD s (.expand r)) v w' := by
  obtain ⟨hX, hXQ, hsz, hXb⟩ := exp_cells w r
  have DY := hidp (Days_any r hf ((w.alloc (.cells #[.int .i64 r.pc, .int .i64 r.ev, .bool (isd r.acc 0), .bool (isd r.acc 1), .bool (isd r.acc 2), .bool (isd r.acc 3), .bool (isd r.acc 4), .bool (isd r.acc 5), .bool (isd r.acc 6), .int .i64 r.fr, .int .i64 r.mn, .int .i64 r.mi, .int .i64 r.ti, .int .i64 r.un] 174)).alloc zeroR) (tabLater ht hX h10) (by rw [hsz]; omega))
  have HE := hidp (does_expand_err (s := s) hf)
  have HO := hidp (does_expand (s := s) hf)
  have HH := hidp h
  have HX := hidp (And.intro hX (And.intro hXQ hsz))
  have x0 := exp_c0 hXb
  have x1 := exp_c1 hXb
  have x2 := exp_c2 hXb
  have x3 := exp_c3 hXb
  have x4 := exp_c4 hXb
  have x5 := exp_c5 hXb
  have x6 := exp_c6 hXb
  have x7 := exp_c7 hXb
  have x8 := exp_c8 hXb
  have x9 := exp_c9 hXb
  have x10 := exp_c10 hXb
  have x11 := exp_c11 hXb
  have x12 := exp_c12 hXb
  have x13 := exp_c13 hXb
  unfold ruleVR at DY
  clear h hX hXQ hsz hXb hf ht
  go_enter Tryz.func102, Tryz.ntmps102
  go_upto_region 1 with fail
  change Code.wp _ _ _ _ ((w.alloc (.cells #[.int .i64 r.pc, .int .i64 r.ev, .bool (isd r.acc 0), .bool (isd r.acc 1), .bool (isd r.acc 2), .bool (isd r.acc 3), .bool (isd r.acc 4), .bool (isd r.acc 5), .bool (isd r.acc 6), .int .i64 r.fr, .int .i64 r.mn, .int .i64 r.mi, .int .i64 r.ti, .int .i64 r.un] 174)).alloc zeroR)
  generalize ((w.alloc (.cells #[.int .i64 r.pc, .int .i64 r.ev, .bool (isd r.acc 0), .bool (isd r.acc 1), .bool (isd r.acc 2), .bool (isd r.acc 3), .bool (isd r.acc 4), .bool (isd r.acc 5), .bool (isd r.acc 6), .int .i64 r.fr, .int .i64 r.mn, .int .i64 r.mi, .int .i64 r.ti, .int .i64 r.un] 174)).alloc zeroR) = X at *
  go_upto_region 2 with (first
    | (go_at_call 144; refine DY.out.mono ?_; rintro e w1 ⟨da, rfl, own, hb⟩))
  obtain ⟨a1, cap, rfl⟩ := ownSl own
  have BX : Hid (Below w.heap.size w w1) := HX.out.1.trans (hb.mono HX.out.1.size)
  have QX : Hid (Q7 w1 (w.heap.size + 1)) := (Q7.of HX.out.2.1).later (hb.block _ (by rw [HX.out.2.2]; omega))
  have OW : Hid (w1.ownsRow (w.heap.size + 1 + 1) 3 1 (.slice a1 (daysOf r).length cap) (daysOf r).length ((daysOf r).map (Value.int .i64))) := by have := own; rw [HX.out.2.2] at this; exact this
  clear DY x0 x1 x2 x3 x4 x5 x6 x7 x8 x9 x10 x11 x12 x13 own hb HX
  by_cases he : Rd.progErr r = 0
  · have HD := hidp (HO.out he)
    have hb1 : (Rd.progErr r != 0) = false := by simpa using he
    have AF : Hid (∀ a b c e f g i, AnsPost w d col (Desk.doesD s (.expand r)) (repV 0 0 ((daysOf r).length : Int) (.slice none 0 0) (.slice a1 (daysOf r).length cap) (.slice none 0 0) (.slice none 0 0)) (set7 w1 (w.heap.size + 1) a b c e f g i)) := fun a b c e f g i => by rw [HD.out]; exact HH.out.ansDays BX.out (by omega) OW.out _ a b c e f g i
    clear HE HO HD OW
    generalize (daysOf r).length = nn at *
    generalize Rd.progErr r = er at *
    subst he
    obtain ⟨q0, q1, q2, q3, q4, q5, q6, fq⟩ := QX.out
    go_wp2_with fail
    exact bodyPost_ret (v := repV 0 0 (nn : Int) (.slice none 0 0) (.slice a1 nn cap) (.slice none 0 0) (.slice none 0 0)) (by simp [results, Tryz.results102, go_sem, repV, q0, q1, q2, q3, q4, q5, q6]) rfl ⟨_, rfl, AF.out _ _ _ _ _ _ _⟩
  · have HD := hidp (HE.out he)
    have hb1 : (Rd.progErr r != 0) = true := by simpa using he
    clear HE HO OW he
    generalize Rd.progErr r = er at *
    go_wp2_with fail
    refine (refused_any er w1).mono ?_
    rintro e w2 ⟨rfl, hb2⟩
    have hq := hb2.block (w.heap.size + 1) (World.block_lt_of_cell? _ _ QX.out.q0)
    have HF : Hid (AnsPost w d col (Desk.doesD s (.expand r)) (repV er 0 0 (.slice none 0 0) (.slice none 0 0) (.slice none 0 0) (.slice none 0 0)) (set7 w2 (w.heap.size + 1) (.int .i64 er) (.int .i64 0) (.int .i64 0) (.slice none 0 0) (.slice none 0 0) (.slice none 0 0) (.slice none 0 0))) := by
      rw [HD.out]; exact HH.out.said (BX.out.trans (hb2.mono BX.out.size)) (by omega) er 0 _ _ _ _ _ _ _
    obtain ⟨q0, q1, q2, q3, q4, q5, q6, fq⟩ := QX.out.later hq
    simp only [repV]
    go_wp2_with fail
    exact bodyPost_ret (v := repV er 0 0 (.slice none 0 0) (.slice none 0 0) (.slice none 0 0) (.slice none 0 0)) (by simp [results, Tryz.results102, go_sem, repV, q0, q1, q2, q3, q4, q5, q6]) rfl ⟨_, rfl, HF.out⟩

end Go.Proofs.YtjfkfiffakbagaaGreatDoor


/-
  Package desk: answer: expand.
-/
namespace Go.Proofs.YtjfkfiffakbagaaGreatDoor
open Go.RowKit
open Desk (Ent St Ids kept booked bookE sumA Items ofB sameB Risen Mid EntOk endsB Inv)

set_option maxRecDepth 100000 in
set_option maxHeartbeats 4000000 in
theorem answer_expand {w : World} {d : Nat} {s : St} {rw_ : Raw} {col : Nat → Option Col} (h : DSt w d s rw_ col) (ht : Tab w) (h10 : 10 ≤ w.heap.size) (r : Rd.Rule) (hf : Rd.Fine r) :
    Calls Tryz.prog 62 #[.pointer (some ⟨d, 0, none⟩), .iface 174 (.agg #[.int .i64 r.pc, .int .i64 r.ev, .bool (isd r.acc 0), .bool (isd r.acc 1), .bool (isd r.acc 2), .bool (isd r.acc 3), .bool (isd r.acc 4), .bool (isd r.acc 5), .bool (isd r.acc 6), .int .i64 r.fr, .int .i64 r.mn, .int .i64 r.mi, .int .i64 r.ti, .int .i64 r.un])] w fun e w' => ∃ v, e = .returned v ∧ AnsPost w d col (Desk.doesD s (.expand r)) v w' := by
  have hX : Below w.heap.size w ((w.alloc zeroR).alloc (.cells #[.int .i64 r.pc, .int .i64 r.ev, .bool (isd r.acc 0), .bool (isd r.acc 1), .bool (isd r.acc 2), .bool (isd r.acc 3), .bool (isd r.acc 4), .bool (isd r.acc 5), .bool (isd r.acc 6), .int .i64 r.fr, .int .i64 r.mn, .int .i64 r.mi, .int .i64 r.ti, .int .i64 r.un] 174)) := ((Below.refl _ _).alloc (Nat.le_refl _) _).alloc (by simp) _
  have hq : ((w.alloc zeroR).alloc (.cells #[.int .i64 r.pc, .int .i64 r.ev, .bool (isd r.acc 0), .bool (isd r.acc 1), .bool (isd r.acc 2), .bool (isd r.acc 3), .bool (isd r.acc 4), .bool (isd r.acc 5), .bool (isd r.acc 6), .int .i64 r.fr, .int .i64 r.mn, .int .i64 r.mi, .int .i64 r.ti, .int .i64 r.un] 174)).heap[w.heap.size]? = some zeroR := (Below.heap_alloc _ _ _ (by simp)).trans (heapNew w zeroR)
  have hs : w.heap.size < ((w.alloc zeroR).alloc (.cells #[.int .i64 r.pc, .int .i64 r.ev, .bool (isd r.acc 0), .bool (isd r.acc 1), .bool (isd r.acc 2), .bool (isd r.acc 3), .bool (isd r.acc 4), .bool (isd r.acc 5), .bool (isd r.acc 6), .int .i64 r.fr, .int .i64 r.mn, .int .i64 r.mi, .int .i64 r.ti, .int .i64 r.un] 174)).heap.size := by simp; omega
  have EF := hidp (expand_any (w := ((w.alloc zeroR).alloc (.cells #[.int .i64 r.pc, .int .i64 r.ev, .bool (isd r.acc 0), .bool (isd r.acc 1), .bool (isd r.acc 2), .bool (isd r.acc 3), .bool (isd r.acc 4), .bool (isd r.acc 5), .bool (isd r.acc 6), .int .i64 r.fr, .int .i64 r.mn, .int .i64 r.mi, .int .i64 r.ti, .int .i64 r.un] 174))) ⟨h.dk.later hX, h.of, h.wl, h.hl, h.inv⟩ (tabLater ht hX h10) (Nat.le_trans h10 hX.size) r hf)
  have HX := hidp (And.intro hX (And.intro (Q7.of hq) (And.intro (h.dk.none (Nat.le_refl _)) hs)))
  clear h hX hq hs
  unfold zeroR at EF HX
  have noThing : ∀ (xT : TypeId) (v : Value) (w : World), (Instr.typeAssert (.iface 174 v) xT 143 true).run Tryz.prog w = .ok (.tuple #[.agg #[.string ⟨#[]⟩, .int .i64 0], .bool false]) w := by intro xT v w; simp [Instr.typeAssert, go_sem, Result.andThen, run_underlying Tryz.underlying143]
  have noBook : ∀ (xT : TypeId) (v : Value) (w : World), (Instr.typeAssert (.iface 174 v) xT 148 true).run Tryz.prog w = .ok (.tuple #[.agg #[.string ⟨#[]⟩, .int .i64 0, .int .i64 0, .int .i64 0], .bool false]) w := by intro xT v w; simp [Instr.typeAssert, go_sem, Result.andThen, run_underlying Tryz.underlying148]
  have noHold : ∀ (xT : TypeId) (v : Value) (w : World), (Instr.typeAssert (.iface 174 v) xT 150 true).run Tryz.prog w = .ok (.tuple #[.agg #[.string ⟨#[]⟩, .int .i64 0, .int .i64 0, .int .i64 0, .int .i64 0], .bool false]) w := by intro xT v w; simp [Instr.typeAssert, go_sem, Result.andThen, run_underlying Tryz.underlying150]
  have noWait : ∀ (xT : TypeId) (v : Value) (w : World), (Instr.typeAssert (.iface 174 v) xT 151 true).run Tryz.prog w = .ok (.tuple #[.agg #[.string ⟨#[]⟩, .int .i64 0, .int .i64 0, .int .i64 0, .int .i64 0], .bool false]) w := by intro xT v w; simp [Instr.typeAssert, go_sem, Result.andThen, run_underlying Tryz.underlying151]
  have noSeries : ∀ (xT : TypeId) (v : Value) (w : World), (Instr.typeAssert (.iface 174 v) xT 159 true).run Tryz.prog w = .ok (.tuple #[.agg #[.string ⟨#[]⟩, .int .i64 0, .int .i64 0, .int .i64 0, .bool false, .bool false, .bool false, .bool false, .bool false, .bool false, .bool false, .int .i64 0, .int .i64 0, .int .i64 0, .int .i64 0, .int .i64 0], .bool false]) w := by intro xT v w; simp [Instr.typeAssert, go_sem, Result.andThen, run_underlying Tryz.underlying159]
  have noConfirm : ∀ (xT : TypeId) (v : Value) (w : World), (Instr.typeAssert (.iface 174 v) xT 161 true).run Tryz.prog w = .ok (.tuple #[.agg #[.int .i64 0], .bool false]) w := by intro xT v w; simp [Instr.typeAssert, go_sem, Result.andThen, run_underlying Tryz.underlying161]
  have noCancel : ∀ (xT : TypeId) (v : Value) (w : World), (Instr.typeAssert (.iface 174 v) xT 162 true).run Tryz.prog w = .ok (.tuple #[.agg #[.int .i64 0], .bool false]) w := by intro xT v w; simp [Instr.typeAssert, go_sem, Result.andThen, run_underlying Tryz.underlying162]
  have noList : ∀ (xT : TypeId) (v : Value) (w : World), (Instr.typeAssert (.iface 174 v) xT 164 true).run Tryz.prog w = .ok (.tuple #[.agg #[.string ⟨#[]⟩, .bool false, .int .i64 0, .int .i64 0], .bool false]) w := by intro xT v w; simp [Instr.typeAssert, go_sem, Result.andThen, run_underlying Tryz.underlying164]
  have noWaiting : ∀ (xT : TypeId) (v : Value) (w : World), (Instr.typeAssert (.iface 174 v) xT 167 true).run Tryz.prog w = .ok (.tuple #[.agg #[], .bool false]) w := by intro xT v w; simp [Instr.typeAssert, go_sem, Result.andThen, run_underlying Tryz.underlying167]
  have noPeak : ∀ (xT : TypeId) (v : Value) (w : World), (Instr.typeAssert (.iface 174 v) xT 170 true).run Tryz.prog w = .ok (.tuple #[.agg #[.string ⟨#[]⟩, .int .i64 0, .int .i64 0], .bool false]) w := by intro xT v w; simp [Instr.typeAssert, go_sem, Result.andThen, run_underlying Tryz.underlying170]
  have noFind : ∀ (xT : TypeId) (v : Value) (w : World), (Instr.typeAssert (.iface 174 v) xT 172 true).run Tryz.prog w = .ok (.tuple #[.agg #[.string ⟨#[]⟩, .int .i64 0, .int .i64 0, .int .i64 0, .int .i64 0], .bool false]) w := by intro xT v w; simp [Instr.typeAssert, go_sem, Result.andThen, run_underlying Tryz.underlying172]
  have yesExpand : ∀ (xT : TypeId) (v : Value) (w : World), (Instr.typeAssert (.iface 174 v) xT 174 true).run Tryz.prog w = .ok (.tuple #[v, .bool true]) w := by intro xT v w; simp [Instr.typeAssert, go_sem, Result.andThen, run_underlying Tryz.underlying174]
  go_enter Tryz.func62, Tryz.ntmps62
  go_wp2_with fail
  refine EF.out.mono ?_
  rintro e w2 ⟨v, rfl, ep⟩
  obtain ⟨er, at_, nn, a1, a2, a3, a4, n1, n2, n3, n4, c1, c2, c3, c4, rfl, q7, hf⟩ := ep.up HX.out.1 (Nat.le_refl _) HX.out.2.2.2 HX.out.2.2.1 HX.out.2.1
  have HF := hidp (hf (.int .i64 er) (.int .i64 at_) (.int .i64 nn) (.slice a1 n1 c1) (.slice a2 n2 c2) (.slice a3 n3 c3) (.slice a4 n4 c4))
  clear ep hf EF noThing noBook noHold noWait noSeries noConfirm noCancel noList noWaiting noPeak noFind yesExpand
  obtain ⟨q0, q1, q2, q3, q4, q5, q6, fq⟩ := q7
  simp only [repV]
  go_wp2_with fail
  exact bodyPost_ret (v := repV er at_ nn (.slice a1 n1 c1) (.slice a2 n2 c2) (.slice a3 n3 c3) (.slice a4 n4 c4)) (by simp [results, Tryz.results62, go_sem, repV, q0, q1, q2, q3, q4, q5, q6]) rfl ⟨_, rfl, HF.out⟩

end Go.Proofs.YtjfkfiffakbagaaGreatDoor


/-
  The reader's steps: a word that is one; a word that can stand.
-/
namespace Go.Proofs.YtjfkfiffakbagaaGreatDoor
open Go.RowKit

theorem lit_eq {x s : ByteArray} (h : litB x s = true) : s = x := by
  have e : s.toList = x.toList := eq_of_beq h
  rw [ByteArray.toList_eq, ByteArray.toList_eq] at e
  exact Txt.of_list e
theorem stp_yes {ws : List ByteArray} {B : ByteArray → Bool} {n : Nat} (h : n < ws.length) (hB : B (ws.getD n ByteArray.empty) = true) : stp ws B (n, false) = (n + 1, false) := by
  simp only [stp, tkN, tkW, tkB, moreB, hB, h, decide_true, Bool.not_false, Bool.and_self, if_true]

end Go.Proofs.YtjfkfiffakbagaaGreatDoor


/-
  What an expand line of known making reads.
-/
namespace Go.Proofs.YtjfkfiffakbagaaGreatDoor
open Go.RowKit

theorem takes {ws : List ByteArray} {B : ByteArray → Bool} {n : Nat} {x : ByteArray} (h : ws[n]? = some x) (hB : B x = true) : stp ws B (n, false) = (n + 1, false) ∧ ∀ V : ByteArray → Int, valAt ws (n, false) B V = V x := by
  have hn : n < ws.length := (List.getElem?_eq_some_iff.1 h).1
  have hg : ws.getD n ByteArray.empty = x := by rw [List.getD_eq_getElem?_getD, h]; rfl
  have ht : tkB ws n false B = true := by unfold tkB; rw [hg, hB]; simp [moreB, hn]
  exact ⟨stp_yes hn (by rw [hg]; exact hB), fun V => by simp only [valAt, tkV, ht, if_true, hg]⟩
theorem isb_yes {ws : List ByteArray} {n : Nat} {x : ByteArray} (h : ws[n]? = some x) : isB ws n false x = true := by
  have hn : n < ws.length := (List.getElem?_eq_some_iff.1 h).1
  have hg : ws.getD n ByteArray.empty = x := by rw [List.getD_eq_getElem?_getD, h]; rfl
  unfold isB; rw [hg]; simp [moreB, hn]
theorem is_at {ws : List ByteArray} {n : Nat} {x y : ByteArray} (h : ws[n]? = some x) (hy : isB ws n false y = true) : x = y := by
  have hg : ws.getD n ByteArray.empty = x := by rw [List.getD_eq_getElem?_getD, h]; rfl
  unfold isB at hy
  rw [hg, Bool.and_eq_true] at hy
  exact lit_eq (x := y) (s := x) hy.2
theorem stps_cons (ws : List ByteArray) (B : ByteArray → Bool) (Bs : List (ByteArray → Bool)) (st : Nat × Bool) : stps ws (B :: Bs) st = stps ws Bs (stp ws B st) := rfl
theorem stps_nil (ws : List ByteArray) (st : Nat × Bool) : stps ws [] st = st := rfl
theorem lit_self (x : ByteArray) : litB x x = true := by simp [litB]

/-- What stands behind the pace of a rule that ends by TIMES. -/
structure TailW (ws : List ByteArray) (c : Nat) (wD wM wI wT : ByteArray) : Prop where
  h0 : ws[c]? = some fromW
  h1 : ws[c + 1]? = some wD
  h2 : ws[c + 2]? = some atW
  h3 : ws[c + 3]? = some wM
  h4 : ws[c + 4]? = some forW
  h5 : ws[c + 5]? = some wI
  h6 : ws[c + 6]? = some timesW
  h7 : ws[c + 7]? = some wT
  b1 : Txt.dayB wD = true
  b3 : Txt.minB wM = true
  b5 : miB wI = true
  b7 : evB wT = true
  len : ws.length = c + 8

theorem tail_reads {ws : List ByteArray} {c : Nat} {wD wM wI wT : ByteArray} (h : TailW ws c wD wM wI wT) :
    valAt ws (stps ws [litB fromW] (c, false)) Txt.dayB dayV = dayV wD ∧ valAt ws (stps ws [litB fromW, Txt.dayB, litB atW] (c, false)) Txt.minB Txt.minV = Txt.minV wM ∧ valAt ws (stps ws [litB fromW, Txt.dayB, litB atW, Txt.minB, litB forW] (c, false)) miB nvF = nvF wI ∧
      ∀ ti un st, EndR ws (midSt ws (c, false)) ti un st → ti = nvF wT ∧ un = 0 ∧ st = (c + 8, false) := by
  obtain ⟨s0, _⟩ := takes h.h0 (lit_self fromW)
  obtain ⟨s1, v1⟩ := takes h.h1 h.b1
  obtain ⟨s2, _⟩ := takes h.h2 (lit_self atW)
  obtain ⟨s3, v3⟩ := takes h.h3 h.b3
  obtain ⟨s4, _⟩ := takes h.h4 (lit_self forW)
  obtain ⟨s5, v5⟩ := takes h.h5 h.b5
  obtain ⟨s7, v7⟩ := takes h.h7 h.b7
  have em : midSt ws (c, false) = (c + 6, false) := by unfold midSt; simp only [stps_cons, stps_nil, s0, s1, s2, s3, s4, s5]
  refine ⟨?_, ?_, ?_, fun ti un st he => ?_⟩
  · simp only [stps_cons, stps_nil, s0, v1]
  · simp only [stps_cons, stps_nil, s0, s1, s2, v3]
  · simp only [stps_cons, stps_nil, s0, s1, s2, s3, s4, v5]
  · rw [em] at he
    have hy := isb_yes h.h6
    cases he with
    | times hh => exact ⟨v7 nvF, rfl, by show stps ws [evB] (c + 7, false) = _; simp only [stps_cons, stps_nil, s7]⟩
    | til hh1 _ => exact absurd (hy.symm.trans hh1) (by simp)
    | none hh1 _ => exact absurd (hy.symm.trans hh1) (by simp)

/-- A rule whose pace is read. -/
theorem rule_reads {ws : List ByteArray} {c0 c : Nat} {wD wM wI wT : ByteArray} (h : TailW ws c wD wM wI wT) {pc0 ev0 : Int} {acc0 : List Int} (hp : ∀ pc ev acc s, PaceR ws (c0, false) pc ev acc s → pc = pc0 ∧ ev = ev0 ∧ acc = acc0 ∧ s = (c, false)) {pc ev : Int} {acc : List Int} {fr mn mi ti un : Int} {st : Nat × Bool} (hr : RuleR ws (c0, false) pc ev acc fr mn mi ti un st) :
    pc = pc0 ∧ ev = ev0 ∧ acc = acc0 ∧ fr = dayV wD ∧ mn = Txt.minV wM ∧ mi = nvF wI ∧ ti = nvF wT ∧ un = 0 ∧ st = (c + 8, false) := by
  obtain ⟨t1, t2, t3, t4⟩ := tail_reads h
  cases hr
  rename_i s hpp he
  obtain ⟨rfl, rfl, rfl, rfl⟩ := hp _ _ _ _ hpp
  obtain ⟨e1, e2, e3⟩ := t4 _ _ _ he
  exact ⟨rfl, rfl, rfl, t1, t2, t3, e1, e2, e3⟩
theorem pace_daily {ws : List ByteArray} {c : Nat} {wE : ByteArray} (h0 : ws[c]? = some dailyW) (h1 : ws[c + 1]? = some wE) (hb : evB wE = true) : ∀ pc ev acc s, PaceR ws (c, false) pc ev acc s → pc = 1 ∧ ev = nvF wE ∧ acc = [] ∧ s = (c + 2, false) := by
  intro pc ev acc s h
  have hy := isb_yes h0
  obtain ⟨s1, v1⟩ := takes h1 hb
  cases h with
  | daily _ => exact ⟨rfl, v1 nvF, rfl, by show stps ws [evB] (c + 1, false) = _; simp only [stps_cons, stps_nil, s1]⟩
  | weekly g1 => exact absurd (hy.symm.trans g1) (by simp)
  | monthly g1 => exact absurd (hy.symm.trans g1) (by simp)
  | none g1 => exact absurd (hy.symm.trans g1) (by simp)
theorem pace_monthly {ws : List ByteArray} {c : Nat} {wE : ByteArray} (h0 : ws[c]? = some monthlyW) (h1 : ws[c + 1]? = some wE) (hb : evB wE = true) : ∀ pc ev acc s, PaceR ws (c, false) pc ev acc s → pc = 3 ∧ ev = nvF wE ∧ acc = [] ∧ s = (c + 2, false) := by
  intro pc ev acc s h
  have hy := isb_yes h0
  obtain ⟨s1, v1⟩ := takes h1 hb
  cases h with
  | daily g => exact absurd (is_at h0 g) (by decide)
  | weekly _ g => exact absurd (is_at h0 g) (by decide)
  | monthly _ _ _ => exact ⟨rfl, v1 nvF, rfl, by show stps ws [evB] (c + 1, false) = _; simp only [stps_cons, stps_nil, s1]⟩
  | none _ _ g => exact absurd (hy.symm.trans g) (by simp)
theorem pace_weekly {ws : List ByteArray} {c : Nat} {wE wO : ByteArray} {acc0 : List Int} (h0 : ws[c]? = some weeklyW) (h1 : ws[c + 1]? = some wE) (h2 : ws[c + 2]? = some wO) (hb : evB wE = true) (ho : Txt.onW wO = some acc0) : ∀ pc ev acc s, PaceR ws (c, false) pc ev acc s → pc = 2 ∧ ev = nvF wE ∧ acc = acc0 ∧ s = (c + 3, false) := by
  intro pc ev acc s h
  have hy := isb_yes h0
  have hob : Txt.onB wO = true := by unfold Txt.onB; rw [ho]; rfl
  obtain ⟨s1, v1⟩ := takes h1 hb
  obtain ⟨s2, _⟩ := takes h2 hob
  have e1 : stps ws [evB] (nxt (c, false)) = (c + 2, false) := by show stps ws [evB] (c + 1, false) = _; simp only [stps_cons, stps_nil, s1]
  have hn : c + 2 < ws.length := (List.getElem?_eq_some_iff.1 h2).1
  have hg : ws.getD (c + 2) ByteArray.empty = wO := by rw [List.getD_eq_getElem?_getD, h2]; rfl
  cases h with
  | daily g => exact absurd (is_at h0 g) (by decide)
  | weekly _ _ acc ha =>
    have := ha (by rw [e1]; unfold tkB; rw [hg, hob]; simp [moreB, hn])
    rw [e1] at this
    simp only [hg, ho, Option.some.injEq] at this
    exact ⟨rfl, v1 nvF, this.symm, by show stps ws [evB, Txt.onB] (c + 1, false) = _; simp only [stps_cons, stps_nil, s1, s2]⟩
  | monthly _ g => exact absurd (hy.symm.trans g) (by simp)
  | none _ g => exact absurd (hy.symm.trans g) (by simp)

/-- An expand line. -/
theorem expand_reads {t : ByteArray} {ws : List ByteArray} (hw : Txt.wordsS t = ws) (hs : t.size ≤ 160) (h0 : ws[0]? = some expandW) {c : Nat} {wD wM wI wT : ByteArray} (h : TailW ws c wD wM wI wT) {pc0 ev0 : Int} {acc0 : List Int} (hp : ∀ pc ev acc s, PaceR ws (1, false) pc ev acc s → pc = pc0 ∧ ev = ev0 ∧ acc = acc0 ∧ s = (c, false)) :
    ∀ e, ReadR t e → e = .returned (.tuple #[.iface 174 (ruleVR ⟨pc0, ev0, acc0, dayV wD, Txt.minV wM, nvF wI, nvF wT, 0⟩), .int .i64 0, .int .i64 0]) := by
  have key : ∀ v st, LineR ws v st → v = .iface 174 (ruleVR ⟨pc0, ev0, acc0, dayV wD, Txt.minV wM, nvF wI, nvF wT, 0⟩) ∧ st = (c + 8, false) := by
    intro v st hl
    cases hl with
    | expand _ pc ev acc fr mn mi ti un s hr =>
      obtain ⟨rfl, rfl, rfl, rfl, rfl, rfl, rfl, rfl, rfl⟩ := rule_reads h hp hr
      exact ⟨rfl, rfl⟩
    | none _ _ _ _ _ _ _ _ _ _ _ g => exact absurd ((isb_yes h0).symm.trans g) (by simp)
    | thing g => exact absurd (is_at h0 g) (by decide)
    | book g => exact absurd (is_at h0 g) (by decide)
    | hold g => exact absurd (is_at h0 g) (by decide)
    | wait g => exact absurd (is_at h0 g) (by decide)
    | series g => exact absurd (is_at h0 g) (by decide)
    | confirm g => exact absurd (is_at h0 g) (by decide)
    | cancel g => exact absurd (is_at h0 g) (by decide)
    | list0 g => exact absurd (is_at h0 g) (by decide)
    | list1 g => exact absurd (is_at h0 g) (by decide)
    | waiting g => exact absurd (is_at h0 g) (by decide)
    | peak g => exact absurd (is_at h0 g) (by decide)
    | find g => exact absurd (is_at h0 g) (by decide)
    | tick g => exact absurd (is_at h0 g) (by decide)
    | clock g => exact absurd (is_at h0 g) (by decide)
  intro e he
  cases he with
  | long g => omega
  | bad _ v st hl hb =>
    rw [hw] at hl hb
    obtain ⟨_, rfl⟩ := key v st hl
    rcases hb with hb | hb
    · cases hb
    · simp [moreB, h.len] at hb
  | good _ v st hl _ _ =>
    rw [hw] at hl
    obtain ⟨rfl, _⟩ := key v st hl
    rfl

end Go.Proofs.YtjfkfiffakbagaaGreatDoor


/-
  An expand line at a desk of the package bookings that is empty.
-/
namespace Go.Proofs.YtjfkfiffakbagaaGreatDoor
open Go.RowKit
open Desk (Ent St Ids kept booked bookE sumA Items ofB sameB Risen Mid EntOk endsB Inv)

theorem BD.later {w w' : World} {p d : Nat} {s : St} {r : Raw} {col : Nat → Option Col} (h : BD w p d s r col) (k : Below w.heap.size w w') : BD w' p d s r col :=
  ⟨(k.block p (Array.getElem?_eq_some_iff.1 h.pc).1).trans h.pc, h.pn, ⟨h.ds.dk.later k, h.ds.of, h.ds.wl, h.ds.hl, h.ds.inv⟩, h.env.later k, h.gl⟩

theorem step_expand_err {r : Rd.Rule} (hf : Rd.Fine r) (h : Rd.docErr r ≠ 0) : Desk.stepD st0 (.expand r) = (st0, ⟨Rd.docErr r, 0, 0, [], [], [], []⟩) := by
  have e := (Rd.err_same hf).1
  have e1 := does_expand_err (s := st0) hf (by rw [e]; exact h)
  rw [e] at e1
  rw [stepD_err (by rw [e1]; exact h), e1]; rfl
theorem step_expand {r : Rd.Rule} (h : Rd.docErr r = 0) : Desk.stepD st0 (.expand r) = (st0, ⟨0, 0, ((Rd.docDays r).length : Int), [], Rd.docDays r, [], []⟩) := by
  have e1 : Desk.doesD st0 (.expand r) = (st0, ⟨0, 0, ((Rd.docDays r).length : Int), [], Rd.docDays r, [], []⟩) := by
    simp only [Desk.doesD]; rw [h]; rfl
  rw [stepD_ok (by rw [e1]), e1]; rfl

/-- What it answers, and leaves. -/
theorem expand_do {w : World} {p d : Nat} {r : Raw} {col : Nat → Option Col} (h : BD w p d st0 r col) (t : ByteArray) (ru : Rd.Rule) (hf : Rd.Fine ru) (hr : ∀ e, ReadR t e → e = .returned (.tuple #[.iface 174 (ruleVR ru), .int .i64 0, .int .i64 0])) (er : Int) (l : List Int) (hd : Desk.stepD st0 (.expand ru) = (st0, ⟨er, 0, (l.length : Int), [], l, [], []⟩)) :
    Calls Tryz.prog 20 #[.pointer (some ⟨p, 0, none⟩), .string t] w fun e w' => ∃ (a1 a2 a3 a4 : Option Addr) (n1 n3 n4 c1 c2 c3 c4 : Nat), e = .returned (repV er 0 (l.length : Int) (.slice a1 n1 c1) (.slice a2 l.length c2) (.slice a3 n3 c3) (.slice a4 n4 c4)) ∧
      w'.ownsRow w.heap.size 3 1 (.slice a2 l.length c2) l.length (l.map (Value.int .i64)) ∧ ∃ r' col', BD w' p d st0 r' col' ∧ Step anyS w.heap.size col col' w w' ∧ ∀ b, (Value.slice a2 l.length c2).ownBlock = some b → col' b = none := by
  refine (bDo_good h t (.iface 174 (ruleVR ru)) (.expand ru) hr hf ?_ (fun X ht hs hds => answer_expand hds ht hs ru hf)).mono ?_
  · simp only [Desk.doesD]
    split
    · simp [Desk.Rep.error]
    · simp [Desk.Rep.num]
  · rintro e w' ⟨v, rfl, r', col', bd, st, rp⟩
    rw [hd] at bd rp
    obtain ⟨en, da, gr, ed, l2, rfl, _, e3, e4, e5, e6, _⟩ := rp
    obtain ⟨b1, c1, rfl⟩ := ownSl e3.own
    obtain ⟨b2, c2, rfl⟩ := e4.slice
    obtain ⟨b3, c3, rfl⟩ := e5.slice
    obtain ⟨b4, c4, rfl⟩ := e6.slice
    exact ⟨b1, b2, b3, b4, _, _, _, c1, c2, c3, c4, rfl, e4.own, r', col', bd, st, e4.no⟩

end Go.Proofs.YtjfkfiffakbagaaGreatDoor


/-
  The plain mathematics of numbers as texts: digits, noughts ahead.
-/
namespace Go.Proofs.YtjfkfiffakbagaaGreatDoor.Txt
open Go

theorem dec_len : ∀ (k u : Nat), u < 10 ^ (k + 1) → (Lib.decDigits u).length ≤ k + 1
  | 0, u, h => by rw [Lib.decDigits]; simp at h; rw [dif_pos h]; simp
  | k + 1, u, h => by
    rw [Lib.decDigits]
    split
    · simp
    · have := dec_len k (u / 10) (by rw [Nat.pow_succ] at h; omega)
      simp; omega
def itoaS (n : Int) : ByteArray := ⟨(Lib.itoa n).toArray⟩
theorem itoa_size (n : Int) (h0 : 0 ≤ n) (h : n ≤ 9999999) : (itoaS n).size ≤ 7 := by
  rw [← len_list]
  unfold itoaS Lib.itoa
  rw [if_neg (by omega)]
  have := dec_len 6 n.toNat (by omega)
  simpa using this
theorem dec_small (u : Nat) (h : u < 10) : Lib.decDigits u = [UInt8.ofNat (48 + u)] := by
  rw [Lib.decDigits, dif_pos h]
theorem dec_big (u : Nat) (h : ¬ u < 10) : Lib.decDigits u = Lib.decDigits (u / 10) ++ [UInt8.ofNat (48 + u % 10)] := by
  rw [Lib.decDigits, dif_neg h]

end Go.Proofs.YtjfkfiffakbagaaGreatDoor.Txt


/-
  A number is written.
-/
namespace Go.Proofs.YtjfkfiffakbagaaGreatDoor
open Go.RowKit

theorem grow_below (w : World) (k : Nat) (os : Array Obj) : Below w.heap.size w (Sort.grow (w.drewN k) os) :=
  ⟨rfl, rfl, rfl, by simp [Sort.grow], fun j hj => by simp only [Sort.grow, World.heap_drewN]; rw [Array.getElem?_append_left hj]⟩
theorem itoa_any (n : Int) (w : World) (he : Env w) (h0 : -9223372036854775808 ≤ n) (h1 : n ≤ 9223372036854775807) :
    Calls Tryz.prog 44 #[.int .i64 n] w fun e w' => e = .returned (.string (Txt.itoaS n)) ∧ Below w.heap.size w w' := by
  refine (Tryz.strconv_Itoa n h0 h1 w he.pow).mono ?_
  rintro e w' ⟨rfl, k, os, rfl⟩
  exact ⟨rfl, grow_below w k os⟩

end Go.Proofs.YtjfkfiffakbagaaGreatDoor


/-
  The words of a text that was put together of words, as mathematics.
-/
namespace Go.Proofs.YtjfkfiffakbagaaGreatDoor.Txt
open Go

/-- One byte more: the words so far, and the one that is begun. -/
def wstep (x : List (List UInt8) × List UInt8) (c : UInt8) : List (List UInt8) × List UInt8 := if c = 32 then ((if x.2 = [] then x.1 else x.1 ++ [x.2]), []) else (x.1, x.2 ++ [c])
def wfold (l : List UInt8) : List (List UInt8) × List UInt8 := l.foldl wstep ([], [])
def wfin (x : List (List UInt8) × List UInt8) : List (List UInt8) := if x.2 = [] then x.1 else x.1 ++ [x.2]
def wordsL (l : List UInt8) : List (List UInt8) := wfin (wfold l)

theorem bytes_ext {a b : ByteArray} (h : a.data.toList = b.data.toList) : a = b := by
  cases a; cases b
  simp only [ByteArray.mk.injEq]
  exact Array.toList_inj.1 h
theorem size_list (s : ByteArray) : s.data.toList.length = s.size := by rw [Array.length_toList]; rfl
theorem byte32 (s : ByteArray) (k : Nat) (h : k < s.size) : byteAt s k = 32 ↔ s.data.toList[k]'(by rw [size_list]; exact h) = 32 := by
  have hl : k < s.data.toList.length := by rw [size_list]; exact h
  have e : byteAt s k = ((s.data.toList[k]).toNat : Int) := by
    unfold byteAt
    rw [List.getD_eq_getElem?_getD, List.getElem?_eq_getElem hl]
    rfl
  rw [e]
  constructor
  · intro e1
    apply UInt8.toNat_inj.1
    show (s.data.toList[k]).toNat = 32
    omega
  · intro k; rw [k]; rfl
theorem one_byte (s : ByteArray) (k : Nat) (h : k < s.size) : (s.extract k (k + 1)).data.toList = [s.data.toList[k]'(by rw [size_list]; exact h)] := by
  have hl : k < s.data.toList.length := by rw [size_list]; exact h
  rw [ByteArray.data_extract, Array.toList_extract, List.extract_eq_take_drop]
  rw [Nat.add_sub_cancel_left, List.drop_eq_getElem_cons hl]
  simp
theorem size_zero (b : ByteArray) : b.size = 0 ↔ b.data.toList = [] := by
  rw [← size_list]; exact List.length_eq_zero_iff
theorem fold_is (s : ByteArray) : ∀ k : Nat, k ≤ s.size → (s.data.toList.take k).foldl wstep ([], []) = ((accS s k).map (·.data.toList), (curS s k).data.toList)
  | 0, _ => by
    have h1 := acc_len s 0
    have h2 := cur_size s 0
    have e1 : accS s 0 = [] := List.length_eq_zero_iff.1 (by omega)
    have e2 : (curS s 0).data.toList = [] := (size_zero _).1 (by omega)
    simp [e1, e2]
  | k + 1, h => by
    have ih := fold_is s k (by omega)
    have hl : k < s.data.toList.length := by rw [size_list]; omega
    rw [List.take_succ_eq_append_getElem hl, List.foldl_append, ih]
    simp only [List.foldl_cons, List.foldl_nil]
    unfold wstep
    by_cases c : byteAt s k = 32
    · rw [if_pos ((byte32 s k (by omega)).1 c)]
      obtain ⟨h1, h2⟩ := cur_blank s k (by omega) c
      rw [h1, h2]
      refine Prod.ext ?_ rfl
      show (if (curS s k).data.toList = [] then _ else _) = _
      by_cases d : (curS s k).size = 0
      · rw [if_pos ((size_zero _).1 d), if_pos d, List.append_nil]
      · rw [if_neg (fun e => d ((size_zero _).2 e)), if_neg d, List.map_append]
        rfl
    · rw [if_neg (fun e => c ((byte32 s k (by omega)).2 e))]
      obtain ⟨h1, h2⟩ := cur_next s k c
      rw [h2, ← h1, append_list, one_byte s k (by omega)]
/-- The words of a text, by its bytes. -/
theorem words_list (s : ByteArray) : (wordsS s).map (·.data.toList) = wordsL s.data.toList := by
  have h := fold_is s s.size (Nat.le_refl _)
  rw [List.take_of_length_le (by rw [size_list]; exact Nat.le_refl _)] at h
  unfold wordsL wfold wfin
  rw [h, words_end, List.map_append]
  by_cases d : (curS s s.size).size = 0
  · rw [if_pos d, if_pos ((size_zero _).1 d)]; simp
  · rw [if_neg d, if_neg (fun e => d ((size_zero _).2 e))]; simp
theorem words_of {s : ByteArray} {ws : List ByteArray} (h : wordsL s.data.toList = ws.map (·.data.toList)) : wordsS s = ws := by
  rw [← words_list] at h
  generalize wordsS s = l at h
  induction l generalizing ws with
  | nil =>
    cases ws with
    | nil => rfl
    | cons w ws => simp at h
  | cons x l ih =>
    cases ws with
    | nil => simp at h
    | cons w ws =>
      simp only [List.map_cons, List.cons.injEq] at h
      rw [bytes_ext h.1, ih h.2]

/-- A word: some bytes, none a blank. -/
def wordB (w : List UInt8) : Bool := !w.isEmpty && w.all fun c => decide (c ≠ 32)
theorem wordB_iff {w : List UInt8} : wordB w = true ↔ w ≠ [] ∧ ∀ c ∈ w, c ≠ 32 := by
  unfold wordB
  rw [Bool.and_eq_true, List.all_eq_true]
  constructor
  · rintro ⟨h1, h2⟩
    exact ⟨fun e => by simp [e] at h1, fun c hc => by simpa using h2 c hc⟩
  · rintro ⟨h1, h2⟩
    exact ⟨by cases w <;> simp at h1 ⊢, fun c hc => by simpa using h2 c hc⟩
theorem fold_word {w : List UInt8} (h : ∀ c ∈ w, c ≠ 32) : ∀ x : List (List UInt8) × List UInt8, w.foldl wstep x = (x.1, x.2 ++ w) := by
  induction w with
  | nil => intro x; simp
  | cons c w ih =>
    intro x
    rw [List.foldl_cons]
    have : wstep x c = (x.1, x.2 ++ [c]) := by unfold wstep; rw [if_neg (h c (by simp))]
    rw [this, ih (fun d hd => h d (by simp [hd]))]
    simp
theorem step_blank (x : List (List UInt8) × List UInt8) : wstep x 32 = (wfin x, []) := by
  unfold wstep wfin; rw [if_pos rfl]
/-- Words with one blank between each two. -/
def jb : List (List UInt8) → List UInt8
  | [] => []
  | w :: r => w ++ (match r with | [] => [] | _ :: _ => 32 :: jb r)
theorem jb_cons2 (w v : List UInt8) (r : List (List UInt8)) : jb (w :: v :: r) = w ++ 32 :: jb (v :: r) := rfl
theorem jb_one (w : List UInt8) : jb [w] = w := by simp [jb]
theorem fold_jb : ∀ (ws : List (List UInt8)) (acc : List (List UInt8)), (∀ w ∈ ws, wordB w = true) → wfin ((jb ws).foldl wstep (acc, [])) = acc ++ ws
  | [], acc, _ => by simp [jb, wfin]
  | [w], acc, h => by
    obtain ⟨h1, h2⟩ := wordB_iff.1 (h w (by simp))
    rw [jb_one, fold_word h2]
    simp [wfin, h1]
  | w :: v :: r, acc, h => by
    obtain ⟨h1, h2⟩ := wordB_iff.1 (h w (by simp))
    rw [jb_cons2, List.foldl_append, fold_word h2, List.foldl_cons, step_blank]
    have e : wfin (acc, [] ++ w) = acc ++ [w] := by simp [wfin, h1]
    rw [e, fold_jb (v :: r) (acc ++ [w]) (fun z hz => h z (by simp at hz ⊢; exact .inr hz))]
    simp
theorem words_jb {ws : List (List UInt8)} (h : ∀ w ∈ ws, wordB w = true) : wordsL (jb ws) = ws := by
  unfold wordsL wfold
  rw [fold_jb ws [] h]; simp
theorem words_text {s : ByteArray} {ws : List ByteArray} (hs : s.data.toList = jb (ws.map (·.data.toList))) (h : ∀ w ∈ ws, wordB w.data.toList = true) : wordsS s = ws := by
  apply words_of
  rw [hs]
  apply words_jb
  intro w hw
  obtain ⟨v, hv, rfl⟩ := List.mem_map.1 hw
  exact h v hv

end Go.Proofs.YtjfkfiffakbagaaGreatDoor.Txt


/-
  A number written as a text, and read again: as mathematics.
-/
namespace Go.Proofs.YtjfkfiffakbagaaGreatDoor.Txt
open Go

theorem dig_of (u : Nat) (h : u < 10) : dig (UInt8.ofNat (48 + u)) = true ∧ ((UInt8.ofNat (48 + u)).toNat : Int) = 48 + u := by
  have e : (UInt8.ofNat (48 + u)).toNat = 48 + u := by rw [UInt8.toNat_ofNat']; omega
  refine ⟨?_, by rw [e]; omega⟩
  unfold dig
  rw [e]
  exact decide_eq_true (by omega)
theorem dec_back (n : Nat) : digs (Lib.decDigits n) = true ∧ numL (Lib.decDigits n) = n ∧ 1 ≤ (Lib.decDigits n).length := by
  induction n using Nat.strongRecOn with
  | _ n ih =>
    by_cases c : n < 10
    · rw [dec_small n c]
      obtain ⟨h1, h2⟩ := dig_of n c
      refine ⟨by unfold digs; rw [List.all_cons, h1]; rfl, ?_, by simp⟩
      unfold numL
      simp only [List.foldl_cons, List.foldl_nil]
      omega
    · rw [dec_big n c]
      obtain ⟨i1, i2, i3⟩ := ih (n / 10) (by omega)
      obtain ⟨h1, h2⟩ := dig_of (n % 10) (by omega)
      refine ⟨?_, ?_, by simp⟩
      · unfold digs at i1 ⊢
        rw [List.all_append, i1, List.all_cons, h1]; rfl
      · rw [numL_snoc, i2, h2]; omega
theorem itoa_list (n : Int) (h : 0 ≤ n) : (itoaS n).data.toList = Lib.decDigits n.toNat := by
  unfold itoaS Lib.itoa
  rw [if_neg (by omega)]
/-- A number of at most seven digits is a NUM, and is read as itself. -/
theorem itoa_num {n : Int} (h0 : 0 ≤ n) (h1 : n ≤ 9999999) : isNum (itoaS n).data.toList = true ∧ numV (itoaS n).data.toList = n := by
  obtain ⟨d1, d2, d3⟩ := dec_back n.toNat
  have hl := dec_len 6 n.toNat (by omega)
  have e : isNum (itoaS n).data.toList = true := by
    rw [itoa_list n h0]
    unfold isNum
    rw [d1, decide_eq_true (by omega)]; rfl
  refine ⟨e, ?_⟩
  unfold numV
  rw [if_pos e, itoa_list n h0, d2]; omega
theorem digs_word {l : List UInt8} (h : digs l = true) (hl : 1 ≤ l.length) : wordB l = true := by
  rw [wordB_iff]
  refine ⟨fun e => by rw [e] at hl; simp at hl, fun c hc e => ?_⟩
  have := List.all_eq_true.1 h c hc
  rw [e] at this
  exact absurd this (by decide)
theorem itoa_word {n : Int} (h : 0 ≤ n) : wordB (itoaS n).data.toList = true := by
  obtain ⟨d1, _, d3⟩ := dec_back n.toNat
  rw [itoa_list n h]
  exact digs_word d1 d3

end Go.Proofs.YtjfkfiffakbagaaGreatDoor.Txt


/-
  The small functions of bookingskeep: pick, num, two, sameInts.
-/
namespace Go.Proofs.YtjfkfiffakbagaaGreatDoor
open Go.RowKit

theorem wrap_all {x : Int} (h1 : -9223372036854775808 ≤ x) (h2 : x ≤ 9223372036854775807) : IntKind.i64.wrap x = x := by
  rw [IntKind.wrap_i64]; omega
def pickV (c n : Int) : Int := (if c < 0 then -(c + 1) else c) % n
theorem pickV_bd {c n : Int} (hn : 1 ≤ n) : 0 ≤ pickV c n ∧ pickV c n < n := ⟨Int.emod_nonneg _ (by omega), Int.emod_lt_of_pos _ (by omega)⟩

set_option maxHeartbeats 1000000 in
theorem pickN_any (c n : Int) (w : World) (h1 : -9223372036854775808 ≤ c) (h2 : c ≤ 9223372036854775807) (hn : 1 ≤ n) (hn2 : n ≤ 1000000) :
    Calls Tryz.prog 29 #[.int .i64 c, .int .i64 n] w fun e w' => e = .returned (.int .i64 (pickV c n)) ∧ w' = w := by
  have hz : (n == 0) = false := by simp; omega
  have hb := pickV_bd (c := c) hn
  by_cases h : c < 0
  · have k1 : IntKind.i64.wrap (c + 1) = c + 1 := wrap_all (by omega) (by omega)
    have k2 : IntKind.i64.wrap (-(c + 1)) = -(c + 1) := wrap_all (by omega) (by omega)
    have e : (-(c + 1)).tmod n = pickV c n := by unfold pickV; rw [if_pos h]; exact Int.tmod_eq_emod_of_nonneg (by omega)
    have k3 : IntKind.i64.wrap (pickV c n) = pickV c n := wrap_small (by omega) (by omega)
    generalize pickV c n = v at *
    go_enter Tryz.func29, Tryz.ntmps29
    go_wp2_with fail
    go_ret
    simp_all
  · have e : c.tmod n = pickV c n := by unfold pickV; rw [if_neg h]; exact Int.tmod_eq_emod_of_nonneg (by omega)
    have k3 : IntKind.i64.wrap (pickV c n) = pickV c n := wrap_small (by omega) (by omega)
    generalize pickV c n = v at *
    go_enter Tryz.func29, Tryz.ntmps29
    go_wp2_with fail
    go_ret
    simp_all

set_option maxHeartbeats 1000000 in
theorem kNum_any (n : Int) (w : World) (he : Env w) (h0 : -9223372036854775808 ≤ n) (h1 : n ≤ 9223372036854775807) :
    Calls Tryz.prog 21 #[.int .i64 n] w fun e w' => e = .returned (.string (Txt.itoaS n)) ∧ Below w.heap.size w w' := by
  have IT := hidp (itoa_any n w he h0 h1)
  clear he
  go_enter Tryz.func21, Tryz.ntmps21
  go_wp2_with (first
    | (go_at_call 44; refine IT.out.mono ?_; rintro e w1 ⟨rfl, hb⟩))
  go_ret
  exact ⟨rfl, hb⟩

def twoS (n : Int) : ByteArray := if n < 10 then (⟨#[48]⟩ : ByteArray) ++ Txt.itoaS n else Txt.itoaS n
set_option maxHeartbeats 1000000 in
theorem two_any (n : Int) (w : World) (he : Env w) (h0 : 0 ≤ n) (h1 : n ≤ 1000) :
    Calls Tryz.prog 32 #[.int .i64 n] w fun e w' => e = .returned (.string (twoS n)) ∧ Below w.heap.size w w' := by
  have IT := hidp (kNum_any n w he (by omega) (by omega))
  have hz := Txt.itoa_size n h0 (by omega)
  clear he
  by_cases h : n < 10
  · have e : twoS n = (⟨#[48]⟩ : ByteArray) ++ Txt.itoaS n := by unfold twoS; rw [if_pos h]
    rw [e]
    generalize Txt.itoaS n = t at *
    go_enter Tryz.func32, Tryz.ntmps32
    go_wp2_with (first
      | (go_at_call 21; refine IT.out.mono ?_; rintro e w1 ⟨rfl, hb⟩))
    go_ret
    exact ⟨rfl, hb⟩
  · have e : twoS n = Txt.itoaS n := by unfold twoS; rw [if_neg h]
    rw [e]
    generalize Txt.itoaS n = t at *
    go_enter Tryz.func32, Tryz.ntmps32
    go_wp2_with (first
      | (go_at_call 21; refine IT.out.mono ?_; rintro e w1 ⟨rfl, hb⟩))
    go_ret
    exact ⟨rfl, hb⟩

set_option maxRecDepth 100000 in
set_option maxHeartbeats 2000000 in
/-- Two rows of numbers are held against each other. -/
theorem sameInts_any (l m : List Int) (u v : Value) (B C : Nat) (w : World) (hu : w.ownsRow B 3 1 u l.length (l.map (Value.int .i64))) (hv : w.ownsRow C 3 1 v m.length (m.map (Value.int .i64))) (hl : l.length ≤ 1000000) :
    Calls Tryz.prog 34 #[u, v] w fun e w' => e = .returned (.bool (decide (l = m))) ∧ Below w.heap.size w w' := by
  obtain ⟨a, ca, rfl⟩ := ownSl hu
  obtain ⟨b, cb, rfl⟩ := ownSl hv
  have HU := hidp hu
  have HV := hidp hv
  clear hu hv
  by_cases hlen : l.length = m.length
  · have hb : ((l.length : Int) != (m.length : Int)) = false := by simp [hlen]
    go_enter Tryz.func34, Tryz.ntmps34
    go_wp2_with fail
    go_loopw [5] (fun v wr => ∃ k : Nat, k ≤ l.length ∧ v = .int .i64 k ∧ l.take k = m.take k ∧ Below w.heap.size w wr) (fun v _ => l.length - (intOf v).toNat)
    case atStart => exact ⟨0, Nat.zero_le _, rfl, rfl, Below.refl _ _⟩
    case round =>
      obtain ⟨k, hk, rfl, hpre, hbl⟩ := hrel
      by_cases hlt : k < l.length
      · have hlt' : (k : Int) < (l.length : Int) := by omega
        have hmt' : (k : Int) < (m.length : Int) := by omega
        have ru := ownBl HU.out hbl
        have rv := ownBl HV.out hbl
        obtain ⟨Ha, ca', e1⟩ := Joins.ownsRow_form ru (by omega)
        simp only [Value.slice.injEq, true_and] at e1
        obtain ⟨rfl, rfl⟩ := e1
        obtain ⟨Hb, cb', e2⟩ := Joins.ownsRow_form rv (by omega)
        simp only [Value.slice.injEq, true_and] at e2
        obtain ⟨rfl, rfl⟩ := e2
        have a0 := ru.cellAt k (by omega)
        have b0 := rv.cellAt k (by omega)
        rw [List.getElem?_map, List.getElem?_eq_getElem hlt, Option.map_some] at a0
        rw [List.getElem?_map, List.getElem?_eq_getElem (show k < m.length by omega), Option.map_some] at b0
        have HP := hidp hpre
        have HB := hidp hbl
        by_cases hx : l[k] = m[k]
        · have hxb : (l[k] != m[k]) = false := by simp [hx]
          have HN : Hid (l.take (k + 1) = m.take (k + 1)) := by
            show l.take (k + 1) = m.take (k + 1)
            rw [List.take_succ_eq_append_getElem hlt, List.take_succ_eq_append_getElem (show k < m.length by omega), hpre, hx]
          generalize l[k] = x at *
          generalize m[k] = y at *
          clear ru rv hpre hbl hx
          go_upto_region 6 with fail
          go_region
          all_goals
            go_wp2_with fail
            go_roundw
            case rel => exact ⟨k + 1, by omega, by go_num, HN.out, HB.out.drew⟩
            case measure => simp [intOf]; omega
        · have hxb : (l[k] != m[k]) = true := by simp [hx]
          have HE : Hid (decide (l = m) = false) := by
            show decide (l = m) = false
            simp only [decide_eq_false_iff_not]
            intro h
            apply hx
            simp only [h]
          generalize l[k] = x at *
          generalize m[k] = y at *
          clear ru rv hpre hbl hx
          go_upto_region 6 with fail
          go_region
          all_goals
            go_wp2_with fail
            go_ret
            exact ⟨by rw [HE.out]; rfl, HB.out.drew⟩
      · have hlt' : ¬ (k : Int) < (l.length : Int) := by omega
        have HE : Hid (decide (l = m) = true) := by
          show decide (l = m) = true
          simp only [decide_eq_true_eq]
          have hk' : k = l.length := by omega
          rw [hk', List.take_length, hlen, List.take_length] at hpre
          exact hpre
        have HB := hidp hbl
        clear hbl hpre
        go_wp2_with fail
        go_ret
        exact ⟨by rw [HE.out]; rfl, HB.out⟩
  · have hb : ((l.length : Int) != (m.length : Int)) = true := by simp; omega
    have e : decide (l = m) = false := by simp; intro h; exact hlen (by rw [h])
    rw [e]
    go_enter Tryz.func34, Tryz.ntmps34
    go_wp2_with fail
    go_ret
    exact ⟨rfl, Below.refl _ _⟩

end Go.Proofs.YtjfkfiffakbagaaGreatDoor


/-
  The days of rules of known making, as mathematics.
-/
namespace Go.Proofs.YtjfkfiffakbagaaGreatDoor
namespace Rd

/-- So many numbers from d on, each n more. -/
def prog (d n : Int) : Nat → List Int
  | 0 => []
  | k + 1 => d :: prog (d + n) n k
theorem prog_len (n : Int) : ∀ (k : Nat) (d : Int), (prog d n k).length = k
  | 0, d => rfl
  | k + 1, d => by simp [prog, prog_len n k]
theorem prog_get (n : Int) : ∀ (k : Nat) (d : Int) (i : Nat) (h : i < (prog d n k).length), (prog d n k)[i] = d + i * n
  | 0, d, i, h => by simp [prog] at h
  | k + 1, d, 0, h => by simp [prog]
  | k + 1, d, i + 1, h => by
    simp only [prog, List.getElem_cons_succ]
    rw [prog_get n k (d + n) i]
    rw [show ((i + 1 : Nat) : Int) = (i : Int) + 1 from by omega, Int.add_mul]; omega
theorem seqD_take {ev : Int} (he : 1 ≤ ev) : ∀ (t k : Nat) (d : Int), t ≤ k → (t = 0 ∨ d + (t - 1 : Int) * ev < 728) → (seqD ev k d).take t = prog d ev t
  | 0, k, d, _, _ => by simp [prog]
  | t + 1, 0, d, h, _ => by omega
  | t + 1, k + 1, d, h, hd => by
    have hd' : d + (t : Int) * ev < 728 := by
      rcases hd with hd | hd
      · omega
      · rwa [show ((t + 1 : Nat) : Int) - 1 = (t : Int) from by omega] at hd
    have hpos : 0 ≤ (t : Int) * ev := Int.mul_nonneg (by omega) (by omega)
    simp only [seqD, prog]
    rw [if_pos (by omega), List.take_succ_cons, seqD_take he t k (d + ev) (by omega) ?_]
    by_cases c : t = 0
    · exact .inl c
    · right
      have : d + ev + ((t : Int) - 1) * ev = d + (t : Int) * ev := by rw [Int.sub_mul]; omega
      rw [this]; exact hd'
/-- Every n-th day. -/
def dailyR (n d t : Int) : Rule := ⟨1, n, [], d, 0, 1, t, 0⟩
theorem daily_fine {n d t : Int} (hd : 0 ≤ d) (hd2 : d < 728) (hn : 1 ≤ n) (hn2 : n ≤ 99) (ht : 0 ≤ t) (ht2 : t ≤ 99) : Fine (dailyR n d t) :=
  ⟨by simp [dailyR], by simp [dailyR], hn, hn2, hd, hd2, by simp [dailyR], by simp [dailyR], by simp [dailyR], by simp [dailyR], ht, ht2, by simp [dailyR], by simp [dailyR]⟩
theorem fin_ok {r : Rule} (h : Fine r) {l : List Int} (hl : docDays r = l) (ht : 1 ≤ r.ti) (ht2 : r.ti ≤ 40) (hm : r.mn = 0) (hi : r.mi = 1) (hlen : (l.length : Int) = r.ti) : docErr r = 0 := by
  unfold docErr
  rw [hl]
  have c1 : ¬ (40 < l.length ∨ 40 < r.ti) := by omega
  have c2 : ¬ (l = [] ∨ (l.length : Int) < r.ti) := by
    rintro (e | e)
    · rw [e] at hlen; simp at hlen; omega
    · omega
  have c3 : ¬ l.any (lateB r) = true := by
    intro e
    obtain ⟨d, hd, k⟩ := List.any_eq_true.1 e
    have := docDays_mem h (x := d) (by rw [hl]; exact hd)
    simp only [lateB, decide_eq_true_eq] at k
    omega
  rw [if_neg c1, if_neg c2, if_neg c3]
theorem daily_is {n d t : Int} (hd : 0 ≤ d) (hd2 : d < 300) (hn : 1 ≤ n) (hn2 : n ≤ 6) (ht : 1 ≤ t) (ht2 : t ≤ 40) : docErr (dailyR n d t) = 0 ∧ docDays (dailyR n d t) = prog d n t.toNat := by
  have h := daily_fine (n := n) (d := d) (t := t) hd (by omega) hn (by omega) (by omega) (by omega)
  have hmul : (t - 1) * n ≤ 39 * 6 := Int.mul_le_mul (by omega) hn2 (by omega) (by omega)
  have e : docDays (dailyR n d t) = prog d n t.toNat := by
    rw [docDays_is h, if_pos (show 0 < (dailyR n d t).ti by show 0 < t; omega), ← seq_all h]
    have es : seq (dailyR n d t) = seqD n 800 d := rfl
    have ew : (seqD n 800 d).takeWhile (fun d => decide (d ≤ 727)) = seqD n 800 d := by
      have key : ∀ l : List Int, (∀ x ∈ l, x ≤ 727) → l.takeWhile (fun d => decide (d ≤ 727)) = l := by
        intro l
        induction l with
        | nil => intro _; rfl
        | cons x l ih =>
          intro hx
          rw [List.takeWhile_cons, if_pos (by have := hx x (by simp); simp [this]), ih (fun y hy => hx y (by simp [hy]))]
      apply key
      intro x hx
      have := (seqD_mem hn 800 d x (by omega)).1 hx
      omega
    rw [es, ew]
    exact seqD_take hn t.toNat 800 d (by omega) (.inr (by
      rw [show ((t.toNat : Nat) : Int) = t from by omega]; omega))
  exact ⟨fin_ok h e ht ht2 rfl rfl (by rw [prog_len]; show ((t.toNat : Nat) : Int) = t; omega), e⟩

/-- One day of each n-th week. -/
def weeklyR (n d t : Int) : Rule := ⟨2, n, [d % 7], d, 0, 1, t, 0⟩
theorem weekly_fine {n d t : Int} (hd : 0 ≤ d) (hd2 : d < 728) (hn : 1 ≤ n) (hn2 : n ≤ 99) (ht : 0 ≤ t) (ht2 : t ≤ 99) : Fine (weeklyR n d t) :=
  ⟨by simp [weeklyR], by simp [weeklyR], hn, hn2, hd, hd2, by simp [weeklyR], by simp [weeklyR], by simp [weeklyR], by simp [weeklyR], ht, ht2, by simp [weeklyR], by simp [weeklyR]⟩
theorem weekly_is {n d t : Int} (hd : 0 ≤ d) (hd2 : d < 300) (hn : 1 ≤ n) (hn2 : n ≤ 6) (ht : 1 ≤ t) (ht2 : t ≤ 9) : docErr (weeklyR n d t) = 0 ∧ docDays (weeklyR n d t) = prog d (7 * n) t.toNat := by
  have h := weekly_fine (n := n) (d := d) (t := t) hd (by omega) hn (by omega) (by omega) (by omega)
  -- the same days as each 7n-th day has
  have hall : all (weeklyR n d t) = all (⟨1, 7 * n, [], d, 0, 1, t, 0⟩ : Rule) := by
    have hf2 : Fine (⟨1, 7 * n, [], d, 0, 1, t, 0⟩ : Rule) := daily_fine (n := 7 * n) hd (by omega) (by omega) (by omega) (by omega) (by omega)
    refine up_unique (upDays_up _ _ _) (upDays_up _ _ _) (fun x => ?_)
    rw [all_mem h, all_mem hf2]
    have e1 : has (weeklyR n d t) x = (isd [d % 7] (x % 7) && decide ((x / 7 - d / 7) % n = 0)) := rfl
    have e2 : has (⟨1, 7 * n, [], d, 0, 1, t, 0⟩ : Rule) x = decide ((x - d) % (7 * n) = 0) := rfl
    rw [e1, e2]
    have key : d ≤ x → ((isd [d % 7] (x % 7) && decide ((x / 7 - d / 7) % n = 0)) = true ↔ decide ((x - d) % (7 * n) = 0) = true) := by
      intro hx
      simp only [isd, Bool.and_eq_true, decide_eq_true_eq, List.contains_cons, List.contains_nil, Bool.or_false, beq_iff_eq]
      constructor
      · rintro ⟨k1, k2⟩
        obtain ⟨q, hq⟩ := Int.dvd_of_emod_eq_zero k2
        have : x - d = 7 * n * q := by
          have : x - d = 7 * (x / 7 - d / 7) := by omega
          rw [this, hq, Int.mul_assoc]
        rw [this]; exact Int.mul_emod_right _ _
      · intro k
        obtain ⟨q, hq⟩ := Int.dvd_of_emod_eq_zero k
        rw [Int.mul_assoc] at hq
        have : x / 7 - d / 7 = n * q := by omega
        exact ⟨by omega, by rw [this]; exact Int.mul_emod_right _ _⟩
    constructor
    · rintro ⟨k1, k2, k3⟩; exact ⟨k1, k2, (key k1).1 k3⟩
    · rintro ⟨k1, k2, k3⟩; exact ⟨k1, k2, (key k1).2 k3⟩
  have hf2 : Fine (⟨1, 7 * n, [], d, 0, 1, t, 0⟩ : Rule) := daily_fine (n := 7 * n) hd (by omega) (by omega) (by omega) (by omega) (by omega)
  have hmul : (t - 1) * (7 * n) ≤ 8 * 42 := Int.mul_le_mul (by omega) (by omega) (by omega) (by omega)
  have e : docDays (weeklyR n d t) = prog d (7 * n) t.toNat := by
    rw [docDays_is h, if_pos (show 0 < (weeklyR n d t).ti by show 0 < t; omega), hall, ← seq_all hf2]
    have es : seq (⟨1, 7 * n, [], d, 0, 1, t, 0⟩ : Rule) = seqD (7 * n) 800 d := rfl
    have ew : (seqD (7 * n) 800 d).takeWhile (fun d => decide (d ≤ 727)) = seqD (7 * n) 800 d := by
      have key : ∀ l : List Int, (∀ x ∈ l, x ≤ 727) → l.takeWhile (fun d => decide (d ≤ 727)) = l := by
        intro l
        induction l with
        | nil => intro _; rfl
        | cons x l ih =>
          intro hx
          rw [List.takeWhile_cons, if_pos (by have := hx x (by simp); simp [this]), ih (fun y hy => hx y (by simp [hy]))]
      apply key
      intro x hx
      have := (seqD_mem (by omega) 800 d x (by omega)).1 hx
      omega
    rw [es, ew]
    exact seqD_take (by omega) t.toNat 800 d (by omega) (.inr (by
      rw [show ((t.toNat : Nat) : Int) = t from by omega]; omega))
  exact ⟨fin_ok h e ht (by show t ≤ 40; omega) rfl rfl (by rw [prog_len]; show ((t.toNat : Nat) : Int) = t; omega), e⟩

/-- The same day of each n-th month. -/
def monthlyR (n d t : Int) : Rule := ⟨3, n, [], d, 0, 1, t, 0⟩
theorem monthly_fine {n d t : Int} (hd : 0 ≤ d) (hd2 : d < 728) (hn : 1 ≤ n) (hn2 : n ≤ 99) (ht : 0 ≤ t) (ht2 : t ≤ 99) : Fine (monthlyR n d t) :=
  ⟨by simp [monthlyR], by simp [monthlyR], hn, hn2, hd, hd2, by simp [monthlyR], by simp [monthlyR], by simp [monthlyR], by simp [monthlyR], ht, ht2, by simp [monthlyR], by simp [monthlyR]⟩
/-- Of month number i from the first on: its day of that number, if it has one within the horizon. -/
def moY (y m n : Int) (i : Nat) : Int := y + (m - 1 + i * n) / 12
def moM (m n : Int) (i : Nat) : Int := 1 + (m - 1 + i * n) % 12
def moL (y m n dt : Int) (i : Nat) : List Int := if Cal.ok (moY y m n i) (moM m n i) dt = true ∧ Cal.num (moY y m n i) (moM m n i) dt < 728 then [Cal.num (moY y m n i) (moM m n i) dt] else []
def moAll (y m n dt : Int) : Nat → List Int
  | 0 => []
  | k + 1 => moAll y m n dt k ++ moL y m n dt k
theorem mo_is (y m n : Int) (i : Nat) : 12 * moY y m n i + moM m n i = 12 * y + m + i * n ∧ 1 ≤ moM m n i ∧ moM m n i ≤ 12 := by
  unfold moY moM
  generalize (i : Int) * n = q
  omega
theorem moL_mem {y m n dt x : Int} {i : Nat} : x ∈ moL y m n dt i ↔ Cal.ok (moY y m n i) (moM m n i) dt = true ∧ x = Cal.num (moY y m n i) (moM m n i) dt ∧ x < 728 := by
  unfold moL
  by_cases c : Cal.ok (moY y m n i) (moM m n i) dt = true ∧ Cal.num (moY y m n i) (moM m n i) dt < 728
  · rw [if_pos c]
    constructor
    · intro h
      have : x = Cal.num (moY y m n i) (moM m n i) dt := by simpa using h
      exact ⟨c.1, this, by omega⟩
    · rintro ⟨_, rfl, _⟩; simp
  · rw [if_neg c]
    constructor
    · intro h; simp at h
    · rintro ⟨k1, rfl, k3⟩; exact absurd ⟨k1, k3⟩ c
theorem moAll_mem {y m n dt x : Int} : ∀ k : Nat, x ∈ moAll y m n dt k ↔ ∃ i, i < k ∧ x ∈ moL y m n dt i
  | 0 => by simp [moAll]
  | k + 1 => by
    simp only [moAll, List.mem_append, moAll_mem k]
    constructor
    · rintro (⟨i, hi, h⟩ | h)
      · exact ⟨i, by omega, h⟩
      · exact ⟨k, by omega, h⟩
    · rintro ⟨i, hi, h⟩
      by_cases e : i = k
      · subst e; exact .inr h
      · exact .inl ⟨i, by omega, h⟩
theorem moAll_up {y m n dt : Int} (hn : 1 ≤ n) : ∀ k : Nat, (moAll y m n dt k).Pairwise (· < ·)
  | 0 => by simp [moAll]
  | k + 1 => by
    simp only [moAll]
    refine List.pairwise_append.2 ⟨moAll_up hn k, ?_, fun a ha b hb => ?_⟩
    · unfold moL; split <;> simp
    · obtain ⟨i, hi, ha⟩ := (moAll_mem k).1 ha
      obtain ⟨a1, rfl, _⟩ := moL_mem.1 ha
      obtain ⟨b1, rfl, _⟩ := moL_mem.1 hb
      refine num_lt a1 b1 ?_
      have e1 := (mo_is y m n i).1
      have e2 := (mo_is y m n k).1
      have : (i : Int) * n < (k : Int) * n := Int.mul_lt_mul_of_pos_right (by omega) (by omega)
      omega
theorem monthly_all {n d t : Int} (hd : 0 ≤ d) (hd2 : d < 728) (hn : 1 ≤ n) (hn2 : n ≤ 99) (ht : 0 ≤ t) (ht2 : t ≤ 99) : all (monthlyR n d t) = moAll (Cal.yT d) (Cal.mT d) n (Cal.dT d) 24 := by
  have h := monthly_fine (n := n) (d := d) (t := t) hd hd2 hn hn2 ht ht2
  obtain ⟨od, nd, yd, md⟩ := monthOf hd hd2
  obtain ⟨g1, g2, g3, g4, g5, g6⟩ := (Cal.ok_iff _ _ _).1 od
  refine up_unique (upDays_up _ _ _) (moAll_up hn 24) (fun x => ?_)
  rw [all_mem h, moAll_mem]
  have e1 : has (monthlyR n d t) x = (decide (Cal.dT x = Cal.dT d) && decide ((12 * Cal.yT x + Cal.mT x - 12 * Cal.yT d - Cal.mT d) % n = 0)) := rfl
  rw [e1]
  simp only [Bool.and_eq_true, decide_eq_true_eq]
  show (d ≤ x ∧ x < 728 ∧ _) ↔ _
  constructor
  · rintro ⟨k1, k2, k3, k4⟩
    obtain ⟨ox, nx, yx, mx⟩ := monthOf (x := x) (by omega) k2
    have hge : 12 * Cal.yT d + Cal.mT d ≤ 12 * Cal.yT x + Cal.mT x := by
      apply Classical.byContradiction
      intro c
      have := num_lt ox od (by omega)
      omega
    obtain ⟨q, hq⟩ := Int.dvd_of_emod_eq_zero k4
    have hq0 : 0 ≤ q := by
      apply Classical.byContradiction
      intro c
      have : n * q ≤ n * (-1) := Int.mul_le_mul_of_nonneg_left (by omega) (by omega)
      omega
    have hqn : q ≤ n * q := by
      have : 1 * q ≤ n * q := Int.mul_le_mul_of_nonneg_right hn hq0
      omega
    refine ⟨q.toNat, by omega, ?_⟩
    have hi : ((q.toNat : Nat) : Int) * n = n * q := by rw [show ((q.toNat : Nat) : Int) = q from by omega, Int.mul_comm]
    obtain ⟨m1, m2, m3⟩ := mo_is (Cal.yT d) (Cal.mT d) n q.toNat
    obtain ⟨j1, j2, j3, j4, j5, j6⟩ := (Cal.ok_iff _ _ _).1 ox
    rw [hi] at m1
    have ey : moY (Cal.yT d) (Cal.mT d) n q.toNat = Cal.yT x := by omega
    have em : moM (Cal.mT d) n q.toNat = Cal.mT x := by omega
    rw [moL_mem, ey, em, ← k3]
    exact ⟨ox, nx.symm, k2⟩
  · rintro ⟨i, hi, hx⟩
    obtain ⟨a1, a2, a3⟩ := moL_mem.1 hx
    obtain ⟨m1, m2, m3⟩ := mo_is (Cal.yT d) (Cal.mT d) n i
    have hpos : 0 ≤ (i : Int) * n := Int.mul_nonneg (by omega) (by omega)
    have hge : d ≤ x := by
      by_cases e : (i : Int) * n = 0
      · have ey : moY (Cal.yT d) (Cal.mT d) n i = Cal.yT d := by omega
        have em : moM (Cal.mT d) n i = Cal.mT d := by omega
        rw [ey, em, nd] at a2
        omega
      · have := num_lt od a1 (by omega)
        omega
    obtain ⟨b1, b2, b3⟩ := Cal.dT_one _ _ _ x a1 a2.symm
    refine ⟨hge, a3, b3.symm, ?_⟩
    rw [← b1, ← b2]
    rw [show 12 * moY (Cal.yT d) (Cal.mT d) n i + moM (Cal.mT d) n i - 12 * Cal.yT d - Cal.mT d = (i : Int) * n from by omega]
    exact Int.mul_emod_left _ _
theorem monthly_is {n d : Int} (hd : 0 ≤ d) (hd2 : d < 728) (hn : 1 ≤ n) (hn2 : n ≤ 99) : docDays (monthlyR n d 3) = (moAll (Cal.yT d) (Cal.mT d) n (Cal.dT d) 24).take 3 ∧
    docErr (monthlyR n d 3) = (if (moAll (Cal.yT d) (Cal.mT d) n (Cal.dT d) 24).length < 3 then 6 else 0) := by
  have h := monthly_fine (n := n) (d := d) (t := 3) hd hd2 hn hn2 (by omega) (by omega)
  have e : docDays (monthlyR n d 3) = (moAll (Cal.yT d) (Cal.mT d) n (Cal.dT d) 24).take 3 := by
    rw [docDays_is h, if_pos (show 0 < (monthlyR n d 3).ti by show (0 : Int) < 3; omega), monthly_all hd hd2 hn hn2 (by omega) (by omega)]
    rfl
  refine ⟨e, ?_⟩
  split
  · rename_i c
    unfold docErr
    rw [e]
    have hl : ((moAll (Cal.yT d) (Cal.mT d) n (Cal.dT d) 24).take 3).length < 3 := by rw [List.length_take]; omega
    have c1 : ¬ (40 < ((moAll (Cal.yT d) (Cal.mT d) n (Cal.dT d) 24).take 3).length ∨ 40 < (monthlyR n d 3).ti) := by
      show ¬ (_ ∨ (40 : Int) < 3); omega
    have c2 : (moAll (Cal.yT d) (Cal.mT d) n (Cal.dT d) 24).take 3 = [] ∨ (((moAll (Cal.yT d) (Cal.mT d) n (Cal.dT d) 24).take 3).length : Int) < (monthlyR n d 3).ti := by
      right; show (_ : Int) < 3; omega
    rw [if_neg c1, if_pos c2]
  · rename_i c
    refine fin_ok h e (by show (1 : Int) ≤ 3; omega) (by show (3 : Int) ≤ 40; omega) rfl rfl ?_
    show ((List.take 3 _).length : Int) = 3
    rw [List.length_take]; omega

end Rd
end Go.Proofs.YtjfkfiffakbagaaGreatDoor

