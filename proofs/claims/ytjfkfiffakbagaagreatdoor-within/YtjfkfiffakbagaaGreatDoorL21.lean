/-
  Parts of the proof, one behind the other: DeskExpand, DeskAnswer3, DeskTell, DeskTell2, DeskWaiting, DeskTold, RuleSpans.
-/
import Derived.Test.YtjfkfiffakbagaaGreatDoorL20
import Derived.Lib.SliceRun
/-
  Package desk: expand.
-/
namespace Go.Proofs.YtjfkfiffakbagaaGreatDoor
open Go.RowKit
open Desk (Ent St Ids kept booked bookE sumA Items ofB sameB Risen Mid EntOk endsB Inv)

/-- An answer with days has been put into its block. -/
theorem DSt.ansDays {w Z : World} {d : Nat} {s : St} {r : Raw} {col : Nat → Option Col} (h : DSt w d s r col) (k : Below w.heap.size w Z) {Q : Nat} (hQ : w.heap.size ≤ Q) {l : List Int} {da : Value} (own : Z.ownsRow (Q + 1) 3 1 da l.length (l.map (Value.int .i64))) (n : Int) (a b c e f g i : Value) :
    AnsPost w d col (s, ⟨0, 0, n, [], l, [], []⟩) (repV 0 0 n (.slice none 0 0) da (.slice none 0 0) (.slice none 0 0)) (set7 Z Q a b c e f g i) := by
  have ko := set7_off Z Q a b c e f g i
  have dz := h.dk.later k
  have nq : ∀ b, Q ≤ b → col b = none := fun b hb => h.dk.none (by omega)
  have st : Step anyS w.heap.size col col Z (set7 Z Q a b c e f g i) := ⟨⟨_, ko, fun x hx => .inr (by have : x = Q := List.mem_singleton.1 hx; subst this; exact ⟨nq _ (Nat.le_refl _), hQ⟩)⟩, fun _ _ h => h, fun _ _ h => .inl h⟩
  have rp : RepIs Z (Q + 1) col (repV 0 0 n (.slice none 0 0) da (.slice none 0 0) (.slice none 0 0)) ⟨0, 0, n, [], l, [], []⟩ :=
    ⟨_, _, _, _, [], rfl, rfl, ERow.nil _ _ _, ⟨own, fun b hb => nq b (by have := (own.lt b hb).1; omega)⟩, NRow.nil _ _ _, NRow.nil _ _ _, fun b hb => by cases hb⟩
  exact ⟨r, col, dz.off ko (fun x hx => by have : x = Q := List.mem_singleton.1 hx; subst this; exact nq _ (Nat.le_refl _)), h.of, h.wl, h.hl, (Step.below k).trans st, (rp.off ko (fun x hx => by have : x = Q := List.mem_singleton.1 hx; omega)).base (by omega)⟩

theorem does_expand_err {s : St} {r : Rd.Rule} (hf : Rd.Fine r) (h : Rd.progErr r ≠ 0) : Desk.doesD s (.expand r) = (s, Desk.Rep.error (Rd.progErr r)) := by
  have e := (Rd.err_same hf).1
  simp only [Desk.doesD]
  rw [← e, if_pos h]
theorem does_expand {s : St} {r : Rd.Rule} (hf : Rd.Fine r) (h : Rd.progErr r = 0) : Desk.doesD s (.expand r) = (s, ⟨0, 0, ((daysOf r).length : Int), [], daysOf r, [], []⟩) := by
  obtain ⟨e1, e2⟩ := Rd.err_same hf
  have e3 := (e2 (by rw [← e1]; exact h)).1
  have e4 : daysOf r = Rd.docDays r := by unfold daysOf; rw [if_pos h, e3]
  simp only [Desk.doesD]
  rw [← e1, if_neg (by omega), e4]
  rfl

/-- The block of a line with a rule. -/
theorem exp_cells (w : World) (r : Rd.Rule) : let X := ((w.alloc (.cells #[.int .i64 r.pc, .int .i64 r.ev, .bool (isd r.acc 0), .bool (isd r.acc 1), .bool (isd r.acc 2), .bool (isd r.acc 3), .bool (isd r.acc 4), .bool (isd r.acc 5), .bool (isd r.acc 6), .int .i64 r.fr, .int .i64 r.mn, .int .i64 r.mi, .int .i64 r.ti, .int .i64 r.un] 174)).alloc zeroR); Below w.heap.size w X ∧ X.heap[w.heap.size + 1]? = some zeroR ∧ X.heap.size = w.heap.size + 2 ∧ X.heap[w.heap.size]? = some (.cells #[.int .i64 r.pc, .int .i64 r.ev, .bool (isd r.acc 0), .bool (isd r.acc 1), .bool (isd r.acc 2), .bool (isd r.acc 3), .bool (isd r.acc 4), .bool (isd r.acc 5), .bool (isd r.acc 6), .int .i64 r.fr, .int .i64 r.mn, .int .i64 r.mi, .int .i64 r.ti, .int .i64 r.un] 174 (0, 0)) := by
  obtain ⟨h1, h2⟩ := two_more (w := w) (.cells #[.int .i64 r.pc, .int .i64 r.ev, .bool (isd r.acc 0), .bool (isd r.acc 1), .bool (isd r.acc 2), .bool (isd r.acc 3), .bool (isd r.acc 4), .bool (isd r.acc 5), .bool (isd r.acc 6), .int .i64 r.fr, .int .i64 r.mn, .int .i64 r.mi, .int .i64 r.ti, .int .i64 r.un] 174)
  exact ⟨h1, h2, by simp, (Below.heap_alloc _ _ _ (by simp)).trans (World.alloc_heap_new w _)⟩
theorem exp_c0 {w : World} {b : Nat} {r : Rd.Rule} (h : w.heap[b]? = some (.cells #[.int .i64 r.pc, .int .i64 r.ev, .bool (isd r.acc 0), .bool (isd r.acc 1), .bool (isd r.acc 2), .bool (isd r.acc 3), .bool (isd r.acc 4), .bool (isd r.acc 5), .bool (isd r.acc 6), .int .i64 r.fr, .int .i64 r.mn, .int .i64 r.mi, .int .i64 r.ti, .int .i64 r.un] 174 (0, 0))) : w.cell? ⟨b, 0, none⟩ = some (.int .i64 r.pc) := by simp only [World.cell?, h]; rfl
theorem exp_c1 {w : World} {b : Nat} {r : Rd.Rule} (h : w.heap[b]? = some (.cells #[.int .i64 r.pc, .int .i64 r.ev, .bool (isd r.acc 0), .bool (isd r.acc 1), .bool (isd r.acc 2), .bool (isd r.acc 3), .bool (isd r.acc 4), .bool (isd r.acc 5), .bool (isd r.acc 6), .int .i64 r.fr, .int .i64 r.mn, .int .i64 r.mi, .int .i64 r.ti, .int .i64 r.un] 174 (0, 0))) : w.cell? ⟨b, 1, none⟩ = some (.int .i64 r.ev) := by simp only [World.cell?, h]; rfl
theorem exp_c2 {w : World} {b : Nat} {r : Rd.Rule} (h : w.heap[b]? = some (.cells #[.int .i64 r.pc, .int .i64 r.ev, .bool (isd r.acc 0), .bool (isd r.acc 1), .bool (isd r.acc 2), .bool (isd r.acc 3), .bool (isd r.acc 4), .bool (isd r.acc 5), .bool (isd r.acc 6), .int .i64 r.fr, .int .i64 r.mn, .int .i64 r.mi, .int .i64 r.ti, .int .i64 r.un] 174 (0, 0))) : w.cell? ⟨b, 2, none⟩ = some (.bool (isd r.acc 0)) := by simp only [World.cell?, h]; rfl
theorem exp_c3 {w : World} {b : Nat} {r : Rd.Rule} (h : w.heap[b]? = some (.cells #[.int .i64 r.pc, .int .i64 r.ev, .bool (isd r.acc 0), .bool (isd r.acc 1), .bool (isd r.acc 2), .bool (isd r.acc 3), .bool (isd r.acc 4), .bool (isd r.acc 5), .bool (isd r.acc 6), .int .i64 r.fr, .int .i64 r.mn, .int .i64 r.mi, .int .i64 r.ti, .int .i64 r.un] 174 (0, 0))) : w.cell? ⟨b, 3, none⟩ = some (.bool (isd r.acc 1)) := by simp only [World.cell?, h]; rfl
theorem exp_c4 {w : World} {b : Nat} {r : Rd.Rule} (h : w.heap[b]? = some (.cells #[.int .i64 r.pc, .int .i64 r.ev, .bool (isd r.acc 0), .bool (isd r.acc 1), .bool (isd r.acc 2), .bool (isd r.acc 3), .bool (isd r.acc 4), .bool (isd r.acc 5), .bool (isd r.acc 6), .int .i64 r.fr, .int .i64 r.mn, .int .i64 r.mi, .int .i64 r.ti, .int .i64 r.un] 174 (0, 0))) : w.cell? ⟨b, 4, none⟩ = some (.bool (isd r.acc 2)) := by simp only [World.cell?, h]; rfl
theorem exp_c5 {w : World} {b : Nat} {r : Rd.Rule} (h : w.heap[b]? = some (.cells #[.int .i64 r.pc, .int .i64 r.ev, .bool (isd r.acc 0), .bool (isd r.acc 1), .bool (isd r.acc 2), .bool (isd r.acc 3), .bool (isd r.acc 4), .bool (isd r.acc 5), .bool (isd r.acc 6), .int .i64 r.fr, .int .i64 r.mn, .int .i64 r.mi, .int .i64 r.ti, .int .i64 r.un] 174 (0, 0))) : w.cell? ⟨b, 5, none⟩ = some (.bool (isd r.acc 3)) := by simp only [World.cell?, h]; rfl
theorem exp_c6 {w : World} {b : Nat} {r : Rd.Rule} (h : w.heap[b]? = some (.cells #[.int .i64 r.pc, .int .i64 r.ev, .bool (isd r.acc 0), .bool (isd r.acc 1), .bool (isd r.acc 2), .bool (isd r.acc 3), .bool (isd r.acc 4), .bool (isd r.acc 5), .bool (isd r.acc 6), .int .i64 r.fr, .int .i64 r.mn, .int .i64 r.mi, .int .i64 r.ti, .int .i64 r.un] 174 (0, 0))) : w.cell? ⟨b, 6, none⟩ = some (.bool (isd r.acc 4)) := by simp only [World.cell?, h]; rfl
theorem exp_c7 {w : World} {b : Nat} {r : Rd.Rule} (h : w.heap[b]? = some (.cells #[.int .i64 r.pc, .int .i64 r.ev, .bool (isd r.acc 0), .bool (isd r.acc 1), .bool (isd r.acc 2), .bool (isd r.acc 3), .bool (isd r.acc 4), .bool (isd r.acc 5), .bool (isd r.acc 6), .int .i64 r.fr, .int .i64 r.mn, .int .i64 r.mi, .int .i64 r.ti, .int .i64 r.un] 174 (0, 0))) : w.cell? ⟨b, 7, none⟩ = some (.bool (isd r.acc 5)) := by simp only [World.cell?, h]; rfl
theorem exp_c8 {w : World} {b : Nat} {r : Rd.Rule} (h : w.heap[b]? = some (.cells #[.int .i64 r.pc, .int .i64 r.ev, .bool (isd r.acc 0), .bool (isd r.acc 1), .bool (isd r.acc 2), .bool (isd r.acc 3), .bool (isd r.acc 4), .bool (isd r.acc 5), .bool (isd r.acc 6), .int .i64 r.fr, .int .i64 r.mn, .int .i64 r.mi, .int .i64 r.ti, .int .i64 r.un] 174 (0, 0))) : w.cell? ⟨b, 8, none⟩ = some (.bool (isd r.acc 6)) := by simp only [World.cell?, h]; rfl
theorem exp_c9 {w : World} {b : Nat} {r : Rd.Rule} (h : w.heap[b]? = some (.cells #[.int .i64 r.pc, .int .i64 r.ev, .bool (isd r.acc 0), .bool (isd r.acc 1), .bool (isd r.acc 2), .bool (isd r.acc 3), .bool (isd r.acc 4), .bool (isd r.acc 5), .bool (isd r.acc 6), .int .i64 r.fr, .int .i64 r.mn, .int .i64 r.mi, .int .i64 r.ti, .int .i64 r.un] 174 (0, 0))) : w.cell? ⟨b, 9, none⟩ = some (.int .i64 r.fr) := by simp only [World.cell?, h]; rfl
theorem exp_c10 {w : World} {b : Nat} {r : Rd.Rule} (h : w.heap[b]? = some (.cells #[.int .i64 r.pc, .int .i64 r.ev, .bool (isd r.acc 0), .bool (isd r.acc 1), .bool (isd r.acc 2), .bool (isd r.acc 3), .bool (isd r.acc 4), .bool (isd r.acc 5), .bool (isd r.acc 6), .int .i64 r.fr, .int .i64 r.mn, .int .i64 r.mi, .int .i64 r.ti, .int .i64 r.un] 174 (0, 0))) : w.cell? ⟨b, 10, none⟩ = some (.int .i64 r.mn) := by simp only [World.cell?, h]; rfl
theorem exp_c11 {w : World} {b : Nat} {r : Rd.Rule} (h : w.heap[b]? = some (.cells #[.int .i64 r.pc, .int .i64 r.ev, .bool (isd r.acc 0), .bool (isd r.acc 1), .bool (isd r.acc 2), .bool (isd r.acc 3), .bool (isd r.acc 4), .bool (isd r.acc 5), .bool (isd r.acc 6), .int .i64 r.fr, .int .i64 r.mn, .int .i64 r.mi, .int .i64 r.ti, .int .i64 r.un] 174 (0, 0))) : w.cell? ⟨b, 11, none⟩ = some (.int .i64 r.mi) := by simp only [World.cell?, h]; rfl
theorem exp_c12 {w : World} {b : Nat} {r : Rd.Rule} (h : w.heap[b]? = some (.cells #[.int .i64 r.pc, .int .i64 r.ev, .bool (isd r.acc 0), .bool (isd r.acc 1), .bool (isd r.acc 2), .bool (isd r.acc 3), .bool (isd r.acc 4), .bool (isd r.acc 5), .bool (isd r.acc 6), .int .i64 r.fr, .int .i64 r.mn, .int .i64 r.mi, .int .i64 r.ti, .int .i64 r.un] 174 (0, 0))) : w.cell? ⟨b, 12, none⟩ = some (.int .i64 r.ti) := by simp only [World.cell?, h]; rfl
theorem exp_c13 {w : World} {b : Nat} {r : Rd.Rule} (h : w.heap[b]? = some (.cells #[.int .i64 r.pc, .int .i64 r.ev, .bool (isd r.acc 0), .bool (isd r.acc 1), .bool (isd r.acc 2), .bool (isd r.acc 3), .bool (isd r.acc 4), .bool (isd r.acc 5), .bool (isd r.acc 6), .int .i64 r.fr, .int .i64 r.mn, .int .i64 r.mi, .int .i64 r.ti, .int .i64 r.un] 174 (0, 0))) : w.cell? ⟨b, 13, none⟩ = some (.int .i64 r.un) := by simp only [World.cell?, h]; rfl

set_option maxRecDepth 100000 in
set_option maxHeartbeats 4000000 in
theorem expand_any {w : World} {d : Nat} {s : St} {rw_ : Raw} {col : Nat → Option Col} (h : DSt w d s rw_ col) (ht : Tab w) (h10 : 10 ≤ w.heap.size) (r : Rd.Rule) (hf : Rd.Fine r) :
    Calls Tryz.prog 102 #[.agg #[.int .i64 r.pc, .int .i64 r.ev, .bool (isd r.acc 0), .bool (isd r.acc 1), .bool (isd r.acc 2), .bool (isd r.acc 3), .bool (isd r.acc 4), .bool (isd r.acc 5), .bool (isd r.acc 6), .int .i64 r.fr, .int .i64 r.mn, .int .i64 r.mi, .int .i64 r.ti, .int .i64 r.un]] w fun e w' => ∃ v, e = .returned v ∧ AnsPost w d col (Desk.doesD s (.expand r)) v w' := by
  obtain ⟨hX, hXQ, hsz, hXb⟩ := exp_cells w r
  have DY := hidp (Days_any r hf ((w.alloc (.cells #[.int .i64 r.pc, .int .i64 r.ev, .bool (isd r.acc 0), .bool (isd r.acc 1), .bool (isd r.acc 2), .bool (isd r.acc 3), .bool (isd r.acc 4), .bool (isd r.acc 5), .bool (isd r.acc 6), .int .i64 r.fr, .int .i64 r.mn, .int .i64 r.mi, .int .i64 r.ti, .int .i64 r.un] 174)).alloc zeroR) (tabLater ht hX h10) (by rw [hsz]; omega))
  have HE := hidp (does_expand_err (s := s) hf)
  have HO := hidp (does_expand (s := s) hf)
  have HH := hidp h
  have HX := hidp (And.intro hX (And.intro hXQ hsz))
  have x0 := exp_c0 hXb
  have x1 := exp_c1 hXb
  have x2 := exp_c2 hXb
  have x3 := exp_c3 hXb
  have x4 := exp_c4 hXb
  have x5 := exp_c5 hXb
  have x6 := exp_c6 hXb
  have x7 := exp_c7 hXb
  have x8 := exp_c8 hXb
  have x9 := exp_c9 hXb
  have x10 := exp_c10 hXb
  have x11 := exp_c11 hXb
  have x12 := exp_c12 hXb
  have x13 := exp_c13 hXb
  unfold ruleVR at DY
  clear h hX hXQ hsz hXb hf ht
  go_enter Tryz.func102, Tryz.ntmps102
  go_upto_region 1 with fail
  change Code.wp _ _ _ _ ((w.alloc (.cells #[.int .i64 r.pc, .int .i64 r.ev, .bool (isd r.acc 0), .bool (isd r.acc 1), .bool (isd r.acc 2), .bool (isd r.acc 3), .bool (isd r.acc 4), .bool (isd r.acc 5), .bool (isd r.acc 6), .int .i64 r.fr, .int .i64 r.mn, .int .i64 r.mi, .int .i64 r.ti, .int .i64 r.un] 174)).alloc zeroR)
  generalize ((w.alloc (.cells #[.int .i64 r.pc, .int .i64 r.ev, .bool (isd r.acc 0), .bool (isd r.acc 1), .bool (isd r.acc 2), .bool (isd r.acc 3), .bool (isd r.acc 4), .bool (isd r.acc 5), .bool (isd r.acc 6), .int .i64 r.fr, .int .i64 r.mn, .int .i64 r.mi, .int .i64 r.ti, .int .i64 r.un] 174)).alloc zeroR) = X at *
  go_upto_region 2 with (first
    | (go_at_call 144; refine DY.out.mono ?_; rintro e w1 ⟨da, rfl, own, hb⟩))
  obtain ⟨a1, cap, rfl⟩ := ownSl own
  have BX : Hid (Below w.heap.size w w1) := HX.out.1.trans (hb.mono HX.out.1.size)
  have QX : Hid (Q7 w1 (w.heap.size + 1)) := (Q7.of HX.out.2.1).later (hb.block _ (by rw [HX.out.2.2]; omega))
  have OW : Hid (w1.ownsRow (w.heap.size + 1 + 1) 3 1 (.slice a1 (daysOf r).length cap) (daysOf r).length ((daysOf r).map (Value.int .i64))) := by have := own; rw [HX.out.2.2] at this; exact this
  clear DY x0 x1 x2 x3 x4 x5 x6 x7 x8 x9 x10 x11 x12 x13 own hb HX
  by_cases he : Rd.progErr r = 0
  · have HD := hidp (HO.out he)
    have hb1 : (Rd.progErr r != 0) = false := by simpa using he
    have AF : Hid (∀ a b c e f g i, AnsPost w d col (Desk.doesD s (.expand r)) (repV 0 0 ((daysOf r).length : Int) (.slice none 0 0) (.slice a1 (daysOf r).length cap) (.slice none 0 0) (.slice none 0 0)) (set7 w1 (w.heap.size + 1) a b c e f g i)) := fun a b c e f g i => by rw [HD.out]; exact HH.out.ansDays BX.out (by omega) OW.out _ a b c e f g i
    clear HE HO HD OW
    generalize (daysOf r).length = nn at *
    generalize Rd.progErr r = er at *
    subst he
    obtain ⟨q0, q1, q2, q3, q4, q5, q6, fq⟩ := QX.out
    go_wp2_with fail
    exact bodyPost_ret (v := repV 0 0 (nn : Int) (.slice none 0 0) (.slice a1 nn cap) (.slice none 0 0) (.slice none 0 0)) (by simp [results, Tryz.results102, go_sem, repV, q0, q1, q2, q3, q4, q5, q6]) rfl ⟨_, rfl, AF.out _ _ _ _ _ _ _⟩
  · have HD := hidp (HE.out he)
    have hb1 : (Rd.progErr r != 0) = true := by simpa using he
    clear HE HO OW he
    generalize Rd.progErr r = er at *
    go_wp2_with fail
    refine (refused_any er w1).mono ?_
    rintro e w2 ⟨rfl, hb2⟩
    have hq := hb2.block (w.heap.size + 1) (World.block_lt_of_cell? _ _ QX.out.q0)
    have HF : Hid (AnsPost w d col (Desk.doesD s (.expand r)) (repV er 0 0 (.slice none 0 0) (.slice none 0 0) (.slice none 0 0) (.slice none 0 0)) (set7 w2 (w.heap.size + 1) (.int .i64 er) (.int .i64 0) (.int .i64 0) (.slice none 0 0) (.slice none 0 0) (.slice none 0 0) (.slice none 0 0))) := by
      rw [HD.out]; exact HH.out.said (BX.out.trans (hb2.mono BX.out.size)) (by omega) er 0 _ _ _ _ _ _ _
    obtain ⟨q0, q1, q2, q3, q4, q5, q6, fq⟩ := QX.out.later hq
    simp only [repV]
    go_wp2_with fail
    exact bodyPost_ret (v := repV er 0 0 (.slice none 0 0) (.slice none 0 0) (.slice none 0 0) (.slice none 0 0)) (by simp [results, Tryz.results102, go_sem, repV, q0, q1, q2, q3, q4, q5, q6]) rfl ⟨_, rfl, HF.out⟩

end Go.Proofs.YtjfkfiffakbagaaGreatDoor


/-
  Package desk: answer: expand.
-/
namespace Go.Proofs.YtjfkfiffakbagaaGreatDoor
open Go.RowKit
open Desk (Ent St Ids kept booked bookE sumA Items ofB sameB Risen Mid EntOk endsB Inv)

set_option maxRecDepth 100000 in
set_option maxHeartbeats 4000000 in
theorem answer_expand {w : World} {d : Nat} {s : St} {rw_ : Raw} {col : Nat → Option Col} (h : DSt w d s rw_ col) (ht : Tab w) (h10 : 10 ≤ w.heap.size) (r : Rd.Rule) (hf : Rd.Fine r) :
    Calls Tryz.prog 62 #[.pointer (some ⟨d, 0, none⟩), .iface 174 (.agg #[.int .i64 r.pc, .int .i64 r.ev, .bool (isd r.acc 0), .bool (isd r.acc 1), .bool (isd r.acc 2), .bool (isd r.acc 3), .bool (isd r.acc 4), .bool (isd r.acc 5), .bool (isd r.acc 6), .int .i64 r.fr, .int .i64 r.mn, .int .i64 r.mi, .int .i64 r.ti, .int .i64 r.un])] w fun e w' => ∃ v, e = .returned v ∧ AnsPost w d col (Desk.doesD s (.expand r)) v w' := by
  have hX : Below w.heap.size w ((w.alloc zeroR).alloc (.cells #[.int .i64 r.pc, .int .i64 r.ev, .bool (isd r.acc 0), .bool (isd r.acc 1), .bool (isd r.acc 2), .bool (isd r.acc 3), .bool (isd r.acc 4), .bool (isd r.acc 5), .bool (isd r.acc 6), .int .i64 r.fr, .int .i64 r.mn, .int .i64 r.mi, .int .i64 r.ti, .int .i64 r.un] 174)) := ((Below.refl _ _).alloc (Nat.le_refl _) _).alloc (by simp) _
  have hq : ((w.alloc zeroR).alloc (.cells #[.int .i64 r.pc, .int .i64 r.ev, .bool (isd r.acc 0), .bool (isd r.acc 1), .bool (isd r.acc 2), .bool (isd r.acc 3), .bool (isd r.acc 4), .bool (isd r.acc 5), .bool (isd r.acc 6), .int .i64 r.fr, .int .i64 r.mn, .int .i64 r.mi, .int .i64 r.ti, .int .i64 r.un] 174)).heap[w.heap.size]? = some zeroR := (Below.heap_alloc _ _ _ (by simp)).trans (heapNew w zeroR)
  have hs : w.heap.size < ((w.alloc zeroR).alloc (.cells #[.int .i64 r.pc, .int .i64 r.ev, .bool (isd r.acc 0), .bool (isd r.acc 1), .bool (isd r.acc 2), .bool (isd r.acc 3), .bool (isd r.acc 4), .bool (isd r.acc 5), .bool (isd r.acc 6), .int .i64 r.fr, .int .i64 r.mn, .int .i64 r.mi, .int .i64 r.ti, .int .i64 r.un] 174)).heap.size := by simp; omega
  have EF := hidp (expand_any (w := ((w.alloc zeroR).alloc (.cells #[.int .i64 r.pc, .int .i64 r.ev, .bool (isd r.acc 0), .bool (isd r.acc 1), .bool (isd r.acc 2), .bool (isd r.acc 3), .bool (isd r.acc 4), .bool (isd r.acc 5), .bool (isd r.acc 6), .int .i64 r.fr, .int .i64 r.mn, .int .i64 r.mi, .int .i64 r.ti, .int .i64 r.un] 174))) ⟨h.dk.later hX, h.of, h.wl, h.hl, h.inv⟩ (tabLater ht hX h10) (Nat.le_trans h10 hX.size) r hf)
  have HX := hidp (And.intro hX (And.intro (Q7.of hq) (And.intro (h.dk.none (Nat.le_refl _)) hs)))
  clear h hX hq hs
  unfold zeroR at EF HX
  have noThing : ∀ (xT : TypeId) (v : Value) (w : World), (Instr.typeAssert (.iface 174 v) xT 143 true).run Tryz.prog w = .ok (.tuple #[.agg #[.string ⟨#[]⟩, .int .i64 0], .bool false]) w := by intro xT v w; simp [Instr.typeAssert, go_sem, Result.andThen, run_underlying Tryz.underlying143]
  have noBook : ∀ (xT : TypeId) (v : Value) (w : World), (Instr.typeAssert (.iface 174 v) xT 148 true).run Tryz.prog w = .ok (.tuple #[.agg #[.string ⟨#[]⟩, .int .i64 0, .int .i64 0, .int .i64 0], .bool false]) w := by intro xT v w; simp [Instr.typeAssert, go_sem, Result.andThen, run_underlying Tryz.underlying148]
  have noHold : ∀ (xT : TypeId) (v : Value) (w : World), (Instr.typeAssert (.iface 174 v) xT 150 true).run Tryz.prog w = .ok (.tuple #[.agg #[.string ⟨#[]⟩, .int .i64 0, .int .i64 0, .int .i64 0, .int .i64 0], .bool false]) w := by intro xT v w; simp [Instr.typeAssert, go_sem, Result.andThen, run_underlying Tryz.underlying150]
  have noWait : ∀ (xT : TypeId) (v : Value) (w : World), (Instr.typeAssert (.iface 174 v) xT 151 true).run Tryz.prog w = .ok (.tuple #[.agg #[.string ⟨#[]⟩, .int .i64 0, .int .i64 0, .int .i64 0, .int .i64 0], .bool false]) w := by intro xT v w; simp [Instr.typeAssert, go_sem, Result.andThen, run_underlying Tryz.underlying151]
  have noSeries : ∀ (xT : TypeId) (v : Value) (w : World), (Instr.typeAssert (.iface 174 v) xT 159 true).run Tryz.prog w = .ok (.tuple #[.agg #[.string ⟨#[]⟩, .int .i64 0, .int .i64 0, .int .i64 0, .bool false, .bool false, .bool false, .bool false, .bool false, .bool false, .bool false, .int .i64 0, .int .i64 0, .int .i64 0, .int .i64 0, .int .i64 0], .bool false]) w := by intro xT v w; simp [Instr.typeAssert, go_sem, Result.andThen, run_underlying Tryz.underlying159]
  have noConfirm : ∀ (xT : TypeId) (v : Value) (w : World), (Instr.typeAssert (.iface 174 v) xT 161 true).run Tryz.prog w = .ok (.tuple #[.agg #[.int .i64 0], .bool false]) w := by intro xT v w; simp [Instr.typeAssert, go_sem, Result.andThen, run_underlying Tryz.underlying161]
  have noCancel : ∀ (xT : TypeId) (v : Value) (w : World), (Instr.typeAssert (.iface 174 v) xT 162 true).run Tryz.prog w = .ok (.tuple #[.agg #[.int .i64 0], .bool false]) w := by intro xT v w; simp [Instr.typeAssert, go_sem, Result.andThen, run_underlying Tryz.underlying162]
  have noList : ∀ (xT : TypeId) (v : Value) (w : World), (Instr.typeAssert (.iface 174 v) xT 164 true).run Tryz.prog w = .ok (.tuple #[.agg #[.string ⟨#[]⟩, .bool false, .int .i64 0, .int .i64 0], .bool false]) w := by intro xT v w; simp [Instr.typeAssert, go_sem, Result.andThen, run_underlying Tryz.underlying164]
  have noWaiting : ∀ (xT : TypeId) (v : Value) (w : World), (Instr.typeAssert (.iface 174 v) xT 167 true).run Tryz.prog w = .ok (.tuple #[.agg #[], .bool false]) w := by intro xT v w; simp [Instr.typeAssert, go_sem, Result.andThen, run_underlying Tryz.underlying167]
  have noPeak : ∀ (xT : TypeId) (v : Value) (w : World), (Instr.typeAssert (.iface 174 v) xT 170 true).run Tryz.prog w = .ok (.tuple #[.agg #[.string ⟨#[]⟩, .int .i64 0, .int .i64 0], .bool false]) w := by intro xT v w; simp [Instr.typeAssert, go_sem, Result.andThen, run_underlying Tryz.underlying170]
  have noFind : ∀ (xT : TypeId) (v : Value) (w : World), (Instr.typeAssert (.iface 174 v) xT 172 true).run Tryz.prog w = .ok (.tuple #[.agg #[.string ⟨#[]⟩, .int .i64 0, .int .i64 0, .int .i64 0, .int .i64 0], .bool false]) w := by intro xT v w; simp [Instr.typeAssert, go_sem, Result.andThen, run_underlying Tryz.underlying172]
  have yesExpand : ∀ (xT : TypeId) (v : Value) (w : World), (Instr.typeAssert (.iface 174 v) xT 174 true).run Tryz.prog w = .ok (.tuple #[v, .bool true]) w := by intro xT v w; simp [Instr.typeAssert, go_sem, Result.andThen, run_underlying Tryz.underlying174]
  go_enter Tryz.func62, Tryz.ntmps62
  go_wp2_with fail
  refine EF.out.mono ?_
  rintro e w2 ⟨v, rfl, ep⟩
  obtain ⟨er, at_, nn, a1, a2, a3, a4, n1, n2, n3, n4, c1, c2, c3, c4, rfl, q7, hf⟩ := ep.up HX.out.1 (Nat.le_refl _) HX.out.2.2.2 HX.out.2.2.1 HX.out.2.1
  have HF := hidp (hf (.int .i64 er) (.int .i64 at_) (.int .i64 nn) (.slice a1 n1 c1) (.slice a2 n2 c2) (.slice a3 n3 c3) (.slice a4 n4 c4))
  clear ep hf EF noThing noBook noHold noWait noSeries noConfirm noCancel noList noWaiting noPeak noFind yesExpand
  obtain ⟨q0, q1, q2, q3, q4, q5, q6, fq⟩ := q7
  simp only [repV]
  go_wp2_with fail
  exact bodyPost_ret (v := repV er at_ nn (.slice a1 n1 c1) (.slice a2 n2 c2) (.slice a3 n3 c3) (.slice a4 n4 c4)) (by simp [results, Tryz.results62, go_sem, repV, q0, q1, q2, q3, q4, q5, q6]) rfl ⟨_, rfl, HF.out⟩

end Go.Proofs.YtjfkfiffakbagaaGreatDoor


/-
  Package desk: slices.Clone of spans; tell.
-/
namespace Go.Proofs.YtjfkfiffakbagaaGreatDoor
open Go.RowKit
open Desk (Ent St Ids kept booked bookE sumA Items ofB sameB Risen Mid EntOk endsB Inv)

theorem flatSp : ∀ (L : List (Int × Int)) (j : Nat) (u : Value), (L.flatMap spV)[j]? = some u → ∃ (i : Nat) (h : i < L.length), (j = i * 2 ∧ u = .int .i64 L[i].1) ∨ (j = i * 2 + 1 ∧ u = .int .i64 L[i].2)
  | [], j, u, h => by simp at h
  | p :: L, 0, u, h => by
    refine ⟨0, by simp, .inl ⟨rfl, ?_⟩⟩
    simp [spV] at h
    exact h.symm
  | p :: L, 1, u, h => by
    refine ⟨0, by simp, .inr ⟨rfl, ?_⟩⟩
    simp [spV] at h
    exact h.symm
  | p :: L, j + 2, u, h => by
    have h' : (L.flatMap spV)[j]? = some u := by simpa [spV] using h
    obtain ⟨i, hi, e⟩ := flatSp L j u h'
    refine ⟨i + 1, by simp; omega, ?_⟩
    rcases e with ⟨e1, e2⟩ | ⟨e1, e2⟩
    · exact .inl ⟨by omega, by simpa using e2⟩
    · exact .inr ⟨by omega, by simpa using e2⟩
theorem flatSp_len (L : List (Int × Int)) : (L.flatMap spV).length = L.length * 2 := by
  induction L with
  | nil => rfl
  | cons p L ih => simp [spV, ih]; omega
theorem flatSp_one (L : List (Int × Int)) : ∀ u ∈ L.flatMap spV, u.oneCell' = true := by
  intro u hu
  obtain ⟨p, _, hp⟩ := List.mem_flatMap.1 hu
  simp [spV] at hp
  rcases hp with rfl | rfl <;> rfl

set_option maxRecDepth 100000 in
set_option maxHeartbeats 1000000 in
theorem spClone_any (w : World) (B cap : Nat) (L : List (Int × Int)) (hs : SL w B L) (hL : L.length ≤ 100) :
    Calls Tryz.prog 202 #[.slice (some ⟨B, 0, none⟩) L.length cap] w fun e w' => ∃ v, e = .returned v ∧ w'.ownsRow w.heap.size 60 2 v L.length (L.flatMap spV) ∧ Below w.heap.size w w' := by
  obtain ⟨i0, hi0, hz0, hz1, hz2⟩ := info_parts infoSpan
  have q22 : ∀ (w : World) (a : Option Addr) (n c n' c' : Nat), (binOp .eql 56 (.slice a n c) (.slice none n' c')).run Tryz.prog w = .ok (.bool a.isNone) w := fun w a n c n' c' => Lib.run_eql_slice_nil w _ _ a n c n' c' Tryz.underlying56
  have HS := hidp hs
  clear hs
  go_enter Tryz.func202, Tryz.ntmps202
  go_wp2_with (at_builtin; refine wpList_append_own _ rfl _ _ 56 rfl w.heap.size 60 i0 _ 2 16 Tryz.underlying56 hi0 hz0 hz1 hz2 rfl (by decide) _ _ _ rfl (World.ownsRow_made w #[] 0 (Nat.le_refl _) (Nat.zero_le _) rfl) ⟨B, 0, none⟩ L.length cap (L.flatMap spV) rfl ?qc1 ?qc2 ?qc3 ?qc4 ?qc5 ?qc6 ?_)
  case qc1 => exact flatSp_len L
  case qc2 =>
    intro j u hj
    rw [Addr.add_lit]
    refine Lib.cell?_alloc_some _ ?_
    obtain ⟨i, hi, ⟨rfl, rfl⟩ | ⟨rfl, rfl⟩⟩ := flatSp L j u hj
    · have := (HS.out i hi).1
      simpa using this
    · have := (HS.out i hi).2
      simpa using this
  case qc3 => exact flatSp_one L
  case qc4 => unfold maxLen; omega
  case qc5 => omega
  case qc6 => simp
  intro v' w1 hown hgrow hnil
  go_wp2
  go_ret
  refine ⟨v', rfl, by simpa using hown, ?_⟩
  exact ((Below.refl _ w).alloc (Nat.le_refl _) _).grown hgrow (by simp) (by intro k hk; simp [Value.ownBlock] at hk; omega)

end Go.Proofs.YtjfkfiffakbagaaGreatDoor


/-
  Package desk: tell.
-/
namespace Go.Proofs.YtjfkfiffakbagaaGreatDoor
open Go.RowKit
open Desk (Ent St Ids kept booked bookE sumA Items ofB sameB Risen Mid EntOk endsB Inv)

def zeroE : Obj := .cells #[.int .i64 0, .int .i64 0, .string ByteArray.empty, .int .i64 0, .slice none 0 0, .int .i64 0] 58 (0, 0)
/-- An entry told, as a value. -/
def tellA (e : Ent) (v : Value) : Value := .agg #[.int .i64 e.id, .int .i64 e.kind, .string e.thing, .int .i64 e.units, v, .int .i64 e.till]

def set6 (Z : World) (Q : Nat) (a b c d e f : Value) : World := (((((Z.setCell ⟨Q, 0, none⟩ a).setCell ⟨Q, 1, none⟩ b).setCell ⟨Q, 2, none⟩ c).setCell ⟨Q, 3, none⟩ d).setCell ⟨Q, 4, none⟩ e).setCell ⟨Q, 5, none⟩ f
theorem set6_off (Z : World) (Q : Nat) (a b c d e f : Value) : Off [Q] Z (set6 Z Q a b c d e f) :=
  ((((((Off.refl [Q] Z).setCell (.inl (by simp)) _ _).setCell (.inl (by simp)) _ _).setCell (.inl (by simp)) _ _).setCell (.inl (by simp)) _ _).setCell (.inl (by simp)) _ _).setCell (.inl (by simp)) _ _
/-- What tell answers. -/
def TellPost (w : World) (e : Ent) (v : Value) (w' : World) : Prop := ∃ sp, v = tellA e sp ∧ w'.ownsRow w.heap.size 60 2 sp e.spans.length (e.spans.flatMap spV) ∧ Below w.heap.size w w'

theorem q6_0 {w : World} {Q : Nat} (h : w.heap[Q]? = some zeroE) : w.cell? ⟨Q, 0, none⟩ = some (.int .i64 0) := by unfold zeroE at h; simp only [World.cell?, h]; rfl
theorem q6_1 {w : World} {Q : Nat} (h : w.heap[Q]? = some zeroE) : w.cell? ⟨Q, 1, none⟩ = some (.int .i64 0) := by unfold zeroE at h; simp only [World.cell?, h]; rfl
theorem q6_2 {w : World} {Q : Nat} (h : w.heap[Q]? = some zeroE) : w.cell? ⟨Q, 2, none⟩ = some (.string ByteArray.empty) := by unfold zeroE at h; simp only [World.cell?, h]; rfl
theorem q6_3 {w : World} {Q : Nat} (h : w.heap[Q]? = some zeroE) : w.cell? ⟨Q, 3, none⟩ = some (.int .i64 0) := by unfold zeroE at h; simp only [World.cell?, h]; rfl
theorem q6_4 {w : World} {Q : Nat} (h : w.heap[Q]? = some zeroE) : w.cell? ⟨Q, 4, none⟩ = some (.slice none 0 0) := by unfold zeroE at h; simp only [World.cell?, h]; rfl
theorem q6_5 {w : World} {Q : Nat} (h : w.heap[Q]? = some zeroE) : w.cell? ⟨Q, 5, none⟩ = some (.int .i64 0) := by unfold zeroE at h; simp only [World.cell?, h]; rfl
theorem q6_f {w : World} {Q : Nat} (h : w.heap[Q]? = some zeroE) : ∀ o, w.frozen? ⟨Q, o, none⟩ = false := fun o => frozen_of_row _ Q o _ _ h

set_option maxRecDepth 100000 in
set_option maxHeartbeats 4000000 in
theorem tell_any (w : World) (g : EG) (h : ENK w g) (hn : w.cell? ⟨g.tb, 0, none⟩ = some (.string g.e.thing)) (hL : g.e.spans.length ≤ 100) :
    Calls Tryz.prog 149 #[.pointer (some ⟨g.eb, 0, none⟩)] w fun e w' => ∃ v, e = .returned v ∧ TellPost w g.e v w' := by
  have hX : Below w.heap.size w (w.alloc zeroE) := (Below.refl _ _).alloc (Nat.le_refl _) _
  have hq := heapNew w zeroE
  have hx := h.off (G := []) (Off.of_below hX) (by simp) (by simp)
  have c0 := hx.en.c0
  have c1 := hx.k
  have c2 := hx.en.c1
  have c3 := hx.en.c2
  have c4 := hx.en.c3
  have c5 := hx.u
  have cn := cellLater hX hn
  have CL := hidp (spClone_any (w.alloc zeroE).drew g.B g.cap g.e.spans (hx.en.sl.off (G := []) (Off.of_below (blwDrew _)) (by simp)) hL)
  have HX := hidp (And.intro hX hq)
  have hne : g.eb ≠ w.heap.size ∧ g.tb ≠ w.heap.size := ⟨by have := h.lt; omega, by have h1 : g.tb < w.heap.size := World.block_lt_of_cell? _ _ hn; omega⟩
  clear h hn hX hq hx
  go_enter Tryz.func149, Tryz.ntmps149
  go_upto_region 1 with fail
  change Code.wp _ _ _ _ (w.alloc zeroE)
  have hs : w.heap.size < (w.alloc zeroE).heap.size := by simp
  generalize w.alloc zeroE = X at *
  have AC : Hid (∀ w2, Below X.drew.heap.size X.drew w2 → w2.cell? ⟨g.eb, 0, none⟩ = some (.int .i64 g.e.id) ∧ w2.cell? ⟨g.eb, 1, none⟩ = some (.int .i64 g.e.kind) ∧ w2.cell? ⟨g.eb, 2, none⟩ = some (.pointer (some ⟨g.tb, 0, none⟩)) ∧ w2.cell? ⟨g.eb, 3, none⟩ = some (.int .i64 g.e.units) ∧ w2.cell? ⟨g.eb, 4, none⟩ = some (.slice (some ⟨g.B, 0, none⟩) g.e.spans.length g.cap) ∧ w2.cell? ⟨g.eb, 5, none⟩ = some (.int .i64 g.e.till) ∧ w2.cell? ⟨g.tb, 0, none⟩ = some (.string g.e.thing)) := fun w2 k => ⟨cellLater k c0, cellLater k c1, cellLater k c2, cellLater k c3, cellLater k c4, cellLater k c5, cellLater k cn⟩
  have AQ : Hid (∀ w2, Below X.drew.heap.size X.drew w2 → w2.heap[w.heap.size]? = some zeroE) := fun w2 k => (k.block _ hs).trans HX.out.2
  have AS : Hid (∀ w2 a b c d e f, Below X.drew.heap.size X.drew w2 → ((((((w2.setCell ⟨w.heap.size, 0, none⟩ a).setCell ⟨w.heap.size, 1, none⟩ b).setCell ⟨w.heap.size, 2, none⟩ c).setCell ⟨w.heap.size, 3, none⟩ d).setCell ⟨w.heap.size, 4, none⟩ e).setCell ⟨w.heap.size, 5, none⟩ f).cell? ⟨g.eb, 0, none⟩ = some (.int .i64 g.e.id) ∧ ((((((w2.setCell ⟨w.heap.size, 0, none⟩ a).setCell ⟨w.heap.size, 1, none⟩ b).setCell ⟨w.heap.size, 2, none⟩ c).setCell ⟨w.heap.size, 3, none⟩ d).setCell ⟨w.heap.size, 4, none⟩ e).setCell ⟨w.heap.size, 5, none⟩ f).cell? ⟨g.eb, 1, none⟩ = some (.int .i64 g.e.kind) ∧ ((((((w2.setCell ⟨w.heap.size, 0, none⟩ a).setCell ⟨w.heap.size, 1, none⟩ b).setCell ⟨w.heap.size, 2, none⟩ c).setCell ⟨w.heap.size, 3, none⟩ d).setCell ⟨w.heap.size, 4, none⟩ e).setCell ⟨w.heap.size, 5, none⟩ f).cell? ⟨g.eb, 2, none⟩ = some (.pointer (some ⟨g.tb, 0, none⟩)) ∧ ((((((w2.setCell ⟨w.heap.size, 0, none⟩ a).setCell ⟨w.heap.size, 1, none⟩ b).setCell ⟨w.heap.size, 2, none⟩ c).setCell ⟨w.heap.size, 3, none⟩ d).setCell ⟨w.heap.size, 4, none⟩ e).setCell ⟨w.heap.size, 5, none⟩ f).cell? ⟨g.eb, 3, none⟩ = some (.int .i64 g.e.units) ∧ ((((((w2.setCell ⟨w.heap.size, 0, none⟩ a).setCell ⟨w.heap.size, 1, none⟩ b).setCell ⟨w.heap.size, 2, none⟩ c).setCell ⟨w.heap.size, 3, none⟩ d).setCell ⟨w.heap.size, 4, none⟩ e).setCell ⟨w.heap.size, 5, none⟩ f).cell? ⟨g.eb, 4, none⟩ = some (.slice (some ⟨g.B, 0, none⟩) g.e.spans.length g.cap) ∧ ((((((w2.setCell ⟨w.heap.size, 0, none⟩ a).setCell ⟨w.heap.size, 1, none⟩ b).setCell ⟨w.heap.size, 2, none⟩ c).setCell ⟨w.heap.size, 3, none⟩ d).setCell ⟨w.heap.size, 4, none⟩ e).setCell ⟨w.heap.size, 5, none⟩ f).cell? ⟨g.eb, 5, none⟩ = some (.int .i64 g.e.till) ∧ ((((((w2.setCell ⟨w.heap.size, 0, none⟩ a).setCell ⟨w.heap.size, 1, none⟩ b).setCell ⟨w.heap.size, 2, none⟩ c).setCell ⟨w.heap.size, 3, none⟩ d).setCell ⟨w.heap.size, 4, none⟩ e).setCell ⟨w.heap.size, 5, none⟩ f).cell? ⟨g.tb, 0, none⟩ = some (.string g.e.thing)) := fun w2 a b c d e f k => by
    have o := set6_off w2 w.heap.size a b c d e f
    obtain ⟨k0, k1, k2, k3, k4, k5, k6⟩ := AC.out w2 k
    exact ⟨o.cell (by simpa using hne.1) k0, o.cell (by simpa using hne.1) k1, o.cell (by simpa using hne.1) k2, o.cell (by simpa using hne.1) k3, o.cell (by simpa using hne.1) k4, o.cell (by simpa using hne.1) k5, o.cell (by simpa using hne.2) k6⟩
  clear hne
  go_region_held3 (fun w' => w'.cell? ⟨g.eb, 0, none⟩ = some (.int .i64 g.e.id) ∧ w'.cell? ⟨g.eb, 1, none⟩ = some (.int .i64 g.e.kind) ∧ w'.cell? ⟨g.eb, 2, none⟩ = some (.pointer (some ⟨g.tb, 0, none⟩)) ∧ w'.cell? ⟨g.eb, 3, none⟩ = some (.int .i64 g.e.units) ∧ w'.cell? ⟨g.eb, 4, none⟩ = some (.slice (some ⟨g.B, 0, none⟩) g.e.spans.length g.cap) ∧ w'.cell? ⟨g.eb, 5, none⟩ = some (.int .i64 g.e.till) ∧ w'.cell? ⟨g.tb, 0, none⟩ = some (.string g.e.thing))
    (first
      | with_reducible exact AS.out _ _ _ _ _ _ _ hb2
      | with_reducible exact AC.out _ hb2
      | exact ⟨c0, c1, c2, c3, c4, c5, cn⟩)
    (first
      | (go_at_call 202; refine CL.out.mono ?_; rintro e w2 ⟨v, rfl, ho, hb2⟩; obtain ⟨va, vc, rfl⟩ := own_slice ho; have hq2 := AQ.out w2 hb2; have q0 := q6_0 hq2; have q1 := q6_1 hq2; have q2 := q6_2 hq2; have q3 := q6_3 hq2; have q4 := q6_4 hq2; have q5 := q6_5 hq2; have fq := q6_f hq2; clear hq2))
  have HF : Hid (TellPost w g.e (tellA g.e (.slice va g.e.spans.length vc)) (set6 w2 w.heap.size (.int .i64 g.e.id) (.int .i64 g.e.kind) (.string g.e.thing) (.int .i64 g.e.units) (.slice va g.e.spans.length vc) (.int .i64 g.e.till))) := by
    have hXs := HX.out.1.size
    have k := set6_off w2 w.heap.size (.int .i64 g.e.id) (.int .i64 g.e.kind) (.string g.e.thing) (.int .i64 g.e.units) (.slice va g.e.spans.length vc) (.int .i64 g.e.till)
    have h1 : Below w.heap.size w w2 := HX.out.1.drew.trans (hb2.mono hXs)
    refine ⟨_, rfl, ownOff (Joins.ownsRow_le ho hXs) k (fun b hb hx => ?_), ?_⟩
    · have := (ho.lt b hb).1
      have e : b = w.heap.size := List.mem_singleton.1 hx
      have hs' : w.heap.size < X.drew.heap.size := hs
      omega
    · exact ⟨k.os.trans h1.os, k.tape.trans h1.tape, k.output.trans h1.output, Nat.le_trans h1.size k.size, fun b hb => (k.block b (Nat.lt_of_lt_of_le hb h1.size) (by simp; omega)).trans (h1.block b hb)⟩
  clear ho hb2 CL AC AQ AS c0 c1 c2 c3 c4 c5 cn HX hs
  go_wp2_with fail
  exact bodyPost_ret (v := tellA g.e (.slice va g.e.spans.length vc)) (by simp [results, Tryz.results149, go_sem, tellA, q0, q1, q2, q3, q4, q5]) rfl ⟨_, rfl, HF.out⟩

end Go.Proofs.YtjfkfiffakbagaaGreatDoor


/-
  Package desk: tellWaiting; a row of told entries that grows.
-/
namespace Go.Proofs.YtjfkfiffakbagaaGreatDoor
open Go.RowKit
open Desk (Ent St Ids kept booked bookE sumA Items ofB sameB Risen Mid EntOk endsB Inv)

theorem infoApiE : (Tryz.prog.info? 58).map (fun i => (i.zero, i.size, i.bytes)) = some (some (.agg #[.int .i64 0, .int .i64 0, .string ByteArray.empty, .int .i64 0, .slice none 0 0, .int .i64 0]), 6, 72) := by kernel_rfl

/-- One more is told. -/
theorem ERow.snoc {wx w2 w3 : World} {B : Nat} {col : Nat → Option Col} {v : Value} {l : List (Ent × Value)} (h : ERow wx B col v l) {e : Ent} {sp : Value} (ho : w2.ownsRow wx.heap.size 60 2 sp e.spans.length (e.spans.flatMap spV)) (k : Below wx.heap.size wx w2) (hB : B ≤ wx.heap.size) (hc : ∀ b, wx.heap.size ≤ b → col b = none) (k3 : Off v.ownBlock.toList w2 w3) {g2 cap : Nat} (hown : w3.ownsRow B 58 6 (.slice (some ⟨g2, 0, none⟩) (l.length + 1) cap) (l.length + 1) (l.flatMap tellV ++ tellV (e, sp))) (hat : v.ownBlock = some g2 ∨ w2.heap.size ≤ g2) :
    ERow w3 B col (.slice (some ⟨g2, 0, none⟩) (l.length + 1) cap) (l ++ [(e, sp)]) := by
  have hks := k.size
  refine ⟨?_, fun b hb => ?_, fun p hp => ?_⟩
  · rw [List.length_append, List.flatMap_append]
    have : [(e, sp)].flatMap tellV = tellV (e, sp) := by simp
    rw [this]; exact hown
  · have : g2 = b := by simpa [Value.ownBlock] using hb
    subst this
    rcases hat with e1 | e1
    · exact h.no g2 e1
    · exact hc g2 (by omega)
  · rcases List.mem_append.1 hp with hp | hp
    · obtain ⟨s1, s2⟩ := h.sp p hp
      refine ⟨⟨ownOff (ownLater s1.own k) k3 (fun b hb hx => s2 b hb (Option.mem_toList.1 hx)), s1.no⟩, fun b hb hx => ?_⟩
      have : g2 = b := by simpa [Value.ownBlock] using hx
      subst this
      rcases hat with e1 | e1
      · exact s2 g2 hb e1
      · have := (s1.own.lt g2 hb).2; omega
    · have : p = (e, sp) := List.mem_singleton.1 hp
      subst this
      have hvb : ∀ b, v.ownBlock = some b → b < wx.heap.size := fun b hb => (h.own.lt b hb).2
      refine ⟨⟨ownOff (Joins.ownsRow_le ho hB) k3 (fun b hb hx => ?_), fun b hb => hc b (ho.lt b hb).1⟩, fun b hb hx => ?_⟩
      · have h1 := (ho.lt b hb).1
        have h2 := hvb b (Option.mem_toList.1 hx)
        omega
      · have : g2 = b := by simpa [Value.ownBlock] using hx
        subst this
        have h1 := ho.lt g2 hb
        rcases hat with e1 | e1
        · have := hvb g2 e1; omega
        · omega

/-- An entry of the desk can be told. -/
theorem DSt.tells {w wx : World} {d : Nat} {s : St} {r : Raw} {col : Nat → Option Col} (h : DSt w d s r col) (k : Below w.heap.size w wx) {g : EG} (hg : g ∈ r.eg) :
    Calls Tryz.prog 149 #[.pointer (some ⟨g.eb, 0, none⟩)] wx fun e w' => ∃ v, e = .returned v ∧ TellPost wx g.e v w' := by
  have d1 := h.dk.later k
  obtain ⟨i, hi, e1, e2⟩ := h.of.tb g hg
  obtain ⟨ul, us, Fl, Fs, t1, _⟩ := d1.th i hi
  have hc := t1.c0
  rw [e1, ← e2] at hc
  exact tell_any wx g (d1.en g hg).1 hc (by have := (h.inv.en _ (h.of.mem hg)).sl; omega)

def kind3 (g : EG) : Bool := g.e.kind == 3
/-- k of those who wait have been told. -/
def WT (w wx : World) (r : Raw) (col : Nat → Option Col) (k : Nat) (v : Value) : Prop := ∃ l, l.map (·.1) = ((r.eg.filter kind3).take k).map (·.e) ∧ ERow wx w.heap.size col v l ∧ Below w.heap.size w wx

set_option maxRecDepth 100000 in
set_option maxHeartbeats 4000000 in
theorem tellWaiting_any {w : World} {d : Nat} {s : St} {r : Raw} {col : Nat → Option Col} (h : DSt w d s r col) :
    Calls Tryz.prog 99 #[.pointer (some ⟨d, 0, none⟩)] w fun e w' => ∃ v, e = .returned v ∧ WT w w' r col (r.eg.filter kind3).length v := by
  obtain ⟨i0, hi0, hz0, hz1, hz2⟩ := info_parts infoApiE
  obtain ⟨v4, c4, own4, hc4⟩ := h.dk.wa
  have hwl : r.wl.length = (r.eg.filter kind3).length := by rw [h.wl, List.length_map]; rfl
  have hwn : (r.eg.filter kind3).length ≤ 60 := by
    have h1 := List.length_filter_le kind3 r.eg
    have h2 := mid_len h.mid
    have h3 : r.eg.length = s.es.length := by rw [← h.of.es]; simp
    omega
  rw [hwl] at own4
  obtain ⟨a, cap, rfl⟩ := own_slice own4
  have G0 : Hid (WT w w r col 0 (.slice none 0 0)) := ⟨[], rfl, ERow.nil _ _ _, Below.refl _ _⟩
  have HH := hidp h
  have O4 := hidp own4
  clear h own4 hc4
  go_enter Tryz.func99, Tryz.ntmps99
  go_wp2_with fail
  clear c4
  go_loopw [3, 5, 11] (fun vg _ vi wx => ∃ k : Nat, k ≤ (r.eg.filter kind3).length ∧ vi = .int .i64 k ∧ WT w wx r col k vg) (fun _ _ vi _ => (r.eg.filter kind3).length - (intOf vi).toNat)
  case atStart => exact ⟨0, Nat.zero_le _, rfl, G0.out⟩
  case round =>
    obtain ⟨k, hk, rfl, l, hl, X, hb⟩ := hrel
    by_cases hlt : k < (r.eg.filter kind3).length
    · have hi0' : (k : Int) < ((r.eg.filter kind3).length : Int) := by omega
      have hg := (List.mem_filter.1 (List.getElem_mem hlt)).1
      have hlk : l.length = k := by
        have := congrArg List.length hl
        rw [List.length_map, List.length_map, List.length_take] at this
        omega
      have row := ownLater O4.out hb
      obtain ⟨Hh, cap', e1⟩ := Joins.ownsRow_form row (by omega)
      simp only [Value.slice.injEq, true_and] at e1
      obtain ⟨rfl, rfl⟩ := e1
      have a0 := row.cellAt k (by omega)
      have e2 : (r.wl.map ptrB)[k]? = some (ptrB (r.eg.filter kind3)[k].eb) := by
        rw [HH.out.wl, List.getElem?_map, List.getElem?_map]
        show Option.map ptrB (Option.map _ (r.eg.filter kind3)[k]?) = _
        rw [List.getElem?_eq_getElem hlt]; rfl
      rw [e2] at a0
      unfold ptrB at a0
      have TE := hidp (HH.out.tells hb hg)
      have HX := hidp (And.intro hl (And.intro X (And.intro hb hlk)))
      have hl60 : l.length ≤ 60 := by omega
      obtain ⟨g, hge⟩ : ∃ g, g = (r.eg.filter kind3)[k] := ⟨_, rfl⟩
      rw [← hge] at TE a0
      have GE := hidp hge
      clear hge e2 row hl X hb hlk hg
      go_wp2_with fail
      refine TE.out.mono ?_
      rintro e w2 ⟨v, rfl, sp, rfl, ho, hb2⟩
      obtain ⟨sa, sc, rfl⟩ := own_slice ho
      have RW := hidp (ownLater HX.out.2.1.own hb2)
      have SR := hidp (And.intro ho hb2)
      have hsz : w.heap.size ≤ w2.heap.size := Nat.le_trans HX.out.2.2.1.size hb2.size
      clear ho hb2 TE a0
      simp only [tellA]
      go_wp2_with (first
        | (at_builtin; refine wpList_append_lies _ rfl _ _ 34 rfl w.heap.size 58 i0 _ 6 72 Tryz.underlying34 hi0 hz0 hz1 hz2 rfl (by decide) _ _ _ rfl (RW.out.alloc _) ⟨w2.heap.size, 0, none⟩ 1 1 (tellV (g.e, .slice sa g.e.spans.length sc)) rfl rfl (World.news_of_block (cs := (tellV (g.e, .slice sa g.e.spans.length sc)).toArray) (heapNew w2 _)) (by simp [tellV, Value.oneCell']) (by omega) (by unfold maxLen; omega) (by omega) (by simp; omega) (w2.heap.size + 1) (by simp) ?_; intro g2 cap2 w3 hown hgrow hat hlt2))
      have ko : Off u3.ownBlock.toList w2 w3 := Off.grown ((Off.refl _ w2).alloc _) hgrow (fun k hk => .inl (Option.mem_toList.2 hk))
      have hat' : u3.ownBlock = some g2 ∨ g2 = w2.heap.size + 1 := hat
      have HN : Hid (WT w w3 r col (k + 1) (.slice (some ⟨g2, 0, none⟩) (l.length + 1) cap2)) := by
        obtain ⟨e1, e2, e3, e4⟩ := HX.out
        obtain ⟨s1, s2⟩ := SR.out
        refine ⟨l ++ [(g.e, .slice sa g.e.spans.length sc)], ?_, e2.snoc s1 s2 e3.size (fun b hb => HH.out.dk.none (Nat.le_trans e3.size hb)) ko hown (hat'.imp id (fun e => by omega)), ?_⟩
        · rw [List.map_append, List.take_succ_eq_append_getElem hlt, List.map_append, e1, ← GE.out]; rfl
        · have h2 : Below w.heap.size w w2 := e3.trans (s2.mono e3.size)
          exact ⟨ko.os.trans h2.os, ko.tape.trans h2.tape, ko.output.trans h2.output, Nat.le_trans h2.size ko.size, fun b hb => (ko.block b (Nat.lt_of_lt_of_le hb h2.size) (fun hx => by have := (e2.own.lt b (Option.mem_toList.1 hx)).1; omega)).trans (h2.block b hb)⟩
      clear hown hgrow hat ko hat' HX SR RW
      go_wp2_with fail
      go_roundw
      case rel => exact ⟨k + 1, by omega, by go_num, HN.out⟩
      case measure => simp [intOf]; omega
    · have hke : k = (r.eg.filter kind3).length := by omega
      have hi0' : ¬ ((k : Int) < ((r.eg.filter kind3).length : Int)) := by omega
      have HF : Hid (WT w wr r col (r.eg.filter kind3).length u3) := ⟨l, by rw [← hke]; exact hl, X, hb⟩
      clear hl X hb
      go_wp2_with fail
      go_ret
      exact ⟨_, rfl, HF.out⟩

end Go.Proofs.YtjfkfiffakbagaaGreatDoor


/-
  isTold; slices.IndexFunc and slices.ContainsFunc at told entries.
-/
namespace Go.Proofs.YtjfkfiffakbagaaGreatDoor
open Go.RowKit
open Desk (Ent St Ids kept booked bookE sumA Items ofB sameB Risen Mid EntOk endsB Inv)

theorem flatT_at : ∀ {l : List (Ent × Value)} {k : Nat} (hk : k < l.length) {j : Nat} (_ : j < 6), (l.flatMap tellV)[k * 6 + j]? = (tellV l[k])[j]?
  | p :: l, 0, hk, j, hj => by
    have e : (p :: l).flatMap tellV = tellV p ++ l.flatMap tellV := by simp
    rw [e, List.getElem?_append_left (by simp [tellV]; omega)]
    simp
  | p :: l, k + 1, hk, j, hj => by
    have hk' : k < l.length := by simpa using hk
    have e : (p :: l).flatMap tellV = tellV p ++ l.flatMap tellV := by simp
    have hl : (tellV p).length = 6 := rfl
    rw [e, List.getElem?_append_right (by rw [hl]; omega), hl, show (k + 1) * 6 + j - 6 = k * 6 + j by omega, flatT_at hk' hj]
    simp

set_option maxRecDepth 100000 in
set_option maxHeartbeats 2000000 in
theorem isTold_any (eb : Nat) (id : Int) (x : Ent) (a : Option Addr) (n c : Nat) (w : World) (hc : w.cell? ⟨eb, 0, none⟩ = some (.int .i64 id)) :
    Calls Tryz.prog 201 #[.pointer (some ⟨eb, 0, none⟩), tellA x (.slice a n c)] w fun e w' => e = .returned (.bool (x.id == id)) ∧ Below w.heap.size w w' := by
  have hX : Below w.heap.size w (w.alloc (.cells #[.int .i64 x.id, .int .i64 x.kind, .string x.thing, .int .i64 x.units, .slice a n c, .int .i64 x.till] 58)) := (Below.refl _ _).alloc (Nat.le_refl _) _
  have x0 : (w.alloc (.cells #[.int .i64 x.id, .int .i64 x.kind, .string x.thing, .int .i64 x.units, .slice a n c, .int .i64 x.till] 58)).cell? ⟨w.heap.size, 0, none⟩ = some (.int .i64 x.id) := by simp
  have x1 := cellLater hX hc
  have HX := hidp hX
  clear hX hc
  unfold tellA
  go_enter Tryz.func201, Tryz.ntmps201
  go_upto_region 1 with fail
  generalize w.alloc (.cells #[.int .i64 x.id, .int .i64 x.kind, .string x.thing, .int .i64 x.units, .slice a n c, .int .i64 x.till] 58) = X at *
  go_big_region
  go_wp2_with fail
  go_ret
  exact ⟨rfl, HX.out.drew⟩

set_option maxRecDepth 100000 in
set_option maxHeartbeats 4000000 in
theorem indexTold_any (l : List (Ent × Value)) (v : Value) (B eb : Nat) (id : Int) (w : World) (own : w.ownsRow B 58 6 v l.length (l.flatMap tellV)) (hs : ∀ p ∈ l, ∃ a n c, p.2 = .slice a n c) (hc : w.cell? ⟨eb, 0, none⟩ = some (.int .i64 id)) (hl : l.length ≤ 1000) :
    Calls Tryz.prog 248 #[v, .func (.func 201) #[.pointer (some ⟨eb, 0, none⟩)] #[]] w fun e w' => e = .returned (.int .i64 (idxB (fun p : Ent × Value => p.1.id == id) l 0)) ∧ Below w.heap.size w w' := by
  obtain ⟨a, cap, rfl⟩ := own_slice own
  have CC := hidp hc
  have HS := hidp hs
  have OWN := hidp own
  clear hc hs own
  go_enter Tryz.func248, Tryz.ntmps248
  go_wp2_with fail
  go_loopw [8] (fun i wx => ∃ k : Nat, k ≤ l.length ∧ i = .int .i64 k ∧ idxB (fun p : Ent × Value => p.1.id == id) l 0 = idxB (fun p : Ent × Value => p.1.id == id) (l.drop k) k ∧ Below w.heap.size w wx) (fun i _ => l.length - (intOf i).toNat)
  case atStart => exact ⟨0, Nat.zero_le _, rfl, rfl, Below.refl _ _⟩
  case round =>
    obtain ⟨k, hk, rfl, hu, hb⟩ := hrel
    have HU := hidp hu
    have HB := hidp hb
    by_cases hlt : k < l.length
    · have hi : (k : Int) < (l.length : Int) := by omega
      obtain ⟨H, cap', e1⟩ := Joins.ownsRow_form OWN.out (by omega)
      simp only [Value.slice.injEq, true_and] at e1
      obtain ⟨rfl, rfl⟩ := e1
      have ownr := ownLater OWN.out hb
      have a0 := (ownr.cellAt (k * 6) (by omega)).trans (flatT_at hlt (j := 0) (by omega))
      have a1 := (ownr.cellAt (k * 6 + 1) (by omega)).trans (flatT_at hlt (j := 1) (by omega))
      have a2 := (ownr.cellAt (k * 6 + 2) (by omega)).trans (flatT_at hlt (j := 2) (by omega))
      have a3 := (ownr.cellAt (k * 6 + 3) (by omega)).trans (flatT_at hlt (j := 3) (by omega))
      have a4 := (ownr.cellAt (k * 6 + 4) (by omega)).trans (flatT_at hlt (j := 4) (by omega))
      have a5 := (ownr.cellAt (k * 6 + 5) (by omega)).trans (flatT_at hlt (j := 5) (by omega))
      simp only [tellV, List.getElem?_cons_zero, List.getElem?_cons_succ] at a0 a1 a2 a3 a4 a5
      obtain ⟨sa, sn, sc, hsp⟩ := HS.out l[k] (List.getElem_mem hlt)
      rw [hsp] at a4
      have D1 := hidp (isTold_any eb id l[k].1 sa sn sc wr (cellLater hb CC.out))
      have ed : idxB (fun p : Ent × Value => p.1.id == id) (l.drop k) k = if l[k].1.id == id then (k : Int) else idxB (fun p : Ent × Value => p.1.id == id) (l.drop (k + 1)) ((k + 1 : Nat) : Int) := by rw [List.drop_eq_getElem_cons hlt]; rfl
      have ED := hidp ed
      clear ed ownr hb hu hsp
      cases hq : (l[k].1.id == id)
      · have HN : Hid (idxB (fun p : Ent × Value => p.1.id == id) l 0 = idxB (fun p : Ent × Value => p.1.id == id) (l.drop (k + 1)) ((k + 1 : Nat) : Int)) := by show _ = _; rw [HU.out, ED.out, hq]; rfl
        rw [hq] at D1
        clear hq
        unfold tellA at D1
        go_wp2_with fail
        refine D1.out.mono ?_
        rintro e w1 ⟨rfl, k1⟩
        have HK := hidp (blwMore HB.out k1 (Nat.le_refl _))
        clear k1 a0 a1 a2 a3 a4 a5 D1
        go_wp2_with fail
        go_roundw
        case rel => exact ⟨k + 1, by omega, by go_num, HN.out, HK.out⟩
        case measure => simp [intOf]; omega
      · have HN : Hid (idxB (fun p : Ent × Value => p.1.id == id) l 0 = k) := by show _ = _; rw [HU.out, ED.out, hq]; rfl
        rw [hq] at D1
        clear hq
        unfold tellA at D1
        go_wp2_with fail
        refine D1.out.mono ?_
        rintro e w1 ⟨rfl, k1⟩
        have HK := hidp (blwMore HB.out k1 (Nat.le_refl _))
        clear k1 a0 a1 a2 a3 a4 a5 D1
        go_wp2_with fail
        go_ret
        exact ⟨lret_int HN.out.symm, HK.out⟩
    · have hke : k = l.length := by omega
      have hi : ¬ ((k : Int) < (l.length : Int)) := by omega
      have HN : Hid (idxB (fun p : Ent × Value => p.1.id == id) l 0 = -1) := by show _ = _; rw [HU.out, hke, List.drop_length]; rfl
      clear hu hb
      go_wp2_with fail
      go_ret
      exact ⟨lret_int HN.out.symm, HB.out⟩

set_option maxHeartbeats 2000000 in
theorem containsTold_any (l : List (Ent × Value)) (v : Value) (B eb : Nat) (id : Int) (w : World) (own : w.ownsRow B 58 6 v l.length (l.flatMap tellV)) (hs : ∀ p ∈ l, ∃ a n c, p.2 = .slice a n c) (hc : w.cell? ⟨eb, 0, none⟩ = some (.int .i64 id)) (hl : l.length ≤ 1000) :
    Calls Tryz.prog 200 #[v, .func (.func 201) #[.pointer (some ⟨eb, 0, none⟩)] #[]] w fun e w' => e = .returned (.bool (l.any (fun p : Ent × Value => p.1.id == id))) ∧ Below w.heap.size w w' := by
  have HI := hidp (indexTold_any l v B eb id w own hs hc hl)
  have key : (decide ((0 : Int) ≤ idxB (fun p : Ent × Value => p.1.id == id) l 0)) = l.any (fun p : Ent × Value => p.1.id == id) := by
    rcases idxB_is (fun p : Ent × Value => p.1.id == id) l 0 with ⟨h1, h2⟩ | ⟨k, h, h1, h2, _⟩
    · rw [h1]
      have : l.any (fun p : Ent × Value => p.1.id == id) = false := List.any_eq_false.2 (fun x hx => by rw [h2 x hx]; simp)
      rw [this]; rfl
    · have : l.any (fun p : Ent × Value => p.1.id == id) = true := List.any_eq_true.2 ⟨_, List.getElem_mem h, h2⟩
      rw [this, h1]
      exact decide_eq_true (by omega)
  have KEY := hidp key
  clear key own hs hc
  go_enter Tryz.func200, Tryz.ntmps200
  go_wp2_with fail
  refine HI.out.mono ?_
  rintro e w1 ⟨rfl, k1⟩
  have HK := hidp k1
  clear k1 HI
  generalize idxB (fun p : Ent × Value => p.1.id == id) l 0 = z at *
  go_wp2_with fail
  go_ret
  exact ⟨by rw [KEY.out]; rfl, HK.out⟩

end Go.Proofs.YtjfkfiffakbagaaGreatDoor


/-
  Package rules: Spans.
-/
namespace Go.Proofs.YtjfkfiffakbagaaGreatDoor
open Go.RowKit

/-- The spans of the first k days. -/
structure SpIn (w wx : World) (r : Rd.Rule) (days : List Int) (k : Nat) (v : Value) : Prop where
  own : wx.ownsRow w.heap.size 60 2 v k ((((days.take k).map (spanD r))).flatMap spV)
  bl : Below w.heap.size w wx
  ru : wx.heap[w.heap.size]? = some (ruleO r)
  ne : v.ownBlock ≠ some w.heap.size

set_option maxRecDepth 100000 in
set_option maxHeartbeats 4000000 in
theorem Spans_any (r : Rd.Rule) (hf : Rd.Fine r) (days : List Int) (hd : ∀ d ∈ days, 0 ≤ d ∧ d < 100000) (hl : days.length ≤ 100) (v : Value) (B : Nat) (w : World) (own : w.ownsRow B 3 1 v days.length (days.map (Value.int .i64))) :
    Calls Tryz.prog 145 #[ruleVR r, v] w fun e w' => ∃ v', e = .returned v' ∧ w'.ownsRow w.heap.size 60 2 v' days.length ((days.map (spanD r)).flatMap spV) ∧ Below w.heap.size w w' := by
  obtain ⟨i0, hi0, hz0, hz1, hz2⟩ := info_parts infoSpan
  obtain ⟨a, cap, rfl⟩ := own_slice own
  have hX : Below w.heap.size w (w.alloc (ruleO r)) := (Below.refl _ _).alloc (Nat.le_refl _) _
  have hr := heapNew w (ruleO r)
  have hs : (w.alloc (ruleO r)).heap.size = w.heap.size + 1 := by simp
  have HX := hidp (And.intro hX (And.intro hr hs))
  have OW := hidp own
  have HD := hidp (And.intro hd hf)
  clear own hX hr hd hf hs
  unfold ruleVR
  go_enter Tryz.func145, Tryz.ntmps145
  go_upto_region 1 with fail
  change Code.wp _ _ _ _ (w.alloc (ruleO r))
  generalize w.alloc (ruleO r) = X at *
  go_wp2_with (first
    | (at_make; refine wpList_make_own _ rfl _ _ 56 rfl w.heap.size 60 i0 _ 2 Tryz.underlying56 hi0 hz0 hz1 .i64 .i64 (days.length : Int) days.length rfl rfl rfl (by rw [hz2]; omega) (by unfold maxLen; omega) (by have := HX.out.1.size; omega) ?_; intro w1 hown hgrow))
  have S0 : Hid (SpIn w w1 r days 0 (.slice (some ⟨X.heap.size, 0, none⟩) 0 days.length)) := by
    obtain ⟨x1, x2, x3⟩ := HX.out
    refine ⟨by simpa using hown, x1.grown hgrow x1.size (fun k e => by cases e), (hgrow.block _ (by omega) (by simp)).trans x2, fun e => ?_⟩
    have : X.heap.size = w.heap.size := by simpa [Value.ownBlock] using e
    omega
  clear hown hgrow
  go_loopw [5, 7, 13] (fun vs _ vi wx => ∃ k : Nat, k ≤ days.length ∧ vi = .int .i64 k ∧ SpIn w wx r days k vs) (fun _ _ vi _ => days.length - (intOf vi).toNat)
  case atStart => exact ⟨0, Nat.zero_le _, rfl, S0.out⟩
  case round =>
    obtain ⟨k, hk, rfl, S⟩ := hrel
    by_cases hlt : k < days.length
    · have hi0' : (k : Int) < (days.length : Int) := by omega
      have row := ownLater OW.out S.bl
      obtain ⟨Hh, cap', e1⟩ := Joins.ownsRow_form row (by omega)
      simp only [Value.slice.injEq, true_and] at e1
      obtain ⟨rfl, rfl⟩ := e1
      have a0 := row.cellAt k (by omega)
      rw [List.getElem?_map, List.getElem?_eq_getElem hlt, Option.map_some] at a0
      have SO := hidp (spanOf_any r HD.out.2 days[k] (HD.out.1 _ (List.getElem_mem hlt)).1 (HD.out.1 _ (List.getElem_mem hlt)).2 wr)
      have x0 := rule_c0 S.ru
      have x1 := rule_c1 S.ru
      have x2 := rule_c2 S.ru
      have x3 := rule_c3 S.ru
      have x4 := rule_c4 S.ru
      have x5 := rule_c5 S.ru
      have x6 := rule_c6 S.ru
      have x7 := rule_c7 S.ru
      have x8 := rule_c8 S.ru
      have x9 := rule_c9 S.ru
      have x10 := rule_c10 S.ru
      have x11 := rule_c11 S.ru
      have x12 := rule_c12 S.ru
      have x13 := rule_c13 S.ru
      have HS := hidp S
      unfold ruleVR at SO
      clear S row
      go_wp2_with fail
      refine SO.out.mono ?_
      rintro e w2 ⟨rfl, hb2⟩
      have RW := hidp (ownLater HS.out.own hb2)
      have HB := hidp hb2
      have hsz : w.heap.size ≤ w2.heap.size := Nat.le_trans HS.out.bl.size hb2.size
      clear hb2 SO a0 x0 x1 x2 x3 x4 x5 x6 x7 x8 x9 x10 x11 x12 x13
      go_wp2_with (first
        | (at_builtin; refine wpList_append_lies _ rfl _ _ 56 rfl w.heap.size 60 i0 _ 2 16 Tryz.underlying56 hi0 hz0 hz1 hz2 rfl (by decide) _ _ _ rfl (RW.out.alloc _) ⟨w2.heap.size, 0, none⟩ 1 1 (spV (spanD r days[k])) rfl rfl (World.news_of_block (cs := (spV (spanD r days[k])).toArray) (heapNew w2 _)) (by simp [spV, Value.oneCell']) (by omega) (by unfold maxLen; omega) (by omega) (by simp; omega) (w2.heap.size + 1) (by simp) ?_; intro g2 cap2 w3 hown hgrow hat hlt2))
      have ko : Off u5.ownBlock.toList w2 w3 := Off.grown ((Off.refl _ w2).alloc _) hgrow (fun k hk => .inl (Option.mem_toList.2 hk))
      have hat' : u5.ownBlock = some g2 ∨ g2 = w2.heap.size + 1 := hat
      have HN : Hid (SpIn w w3 r days (k + 1) (.slice (some ⟨g2, 0, none⟩) (k + 1) cap2)) := by
        have S := HS.out
        have h2 : Below w.heap.size w w2 := S.bl.trans (HB.out.mono S.bl.size)
        have hwl : w.heap.size < wr.heap.size := by
          have := rule_c0 S.ru
          exact World.block_lt_of_cell? _ _ this
        refine ⟨?_, ⟨ko.os.trans h2.os, ko.tape.trans h2.tape, ko.output.trans h2.output, Nat.le_trans h2.size ko.size, fun b hb => (ko.block b (Nat.lt_of_lt_of_le hb h2.size) (fun hx => by have := (S.own.lt b (Option.mem_toList.1 hx)).1; omega)).trans (h2.block b hb)⟩, ?_, fun e => ?_⟩
        · rw [List.take_succ_eq_append_getElem hlt, List.map_append, List.flatMap_append]
          have : ([days[k]].map (spanD r)).flatMap spV = spV (spanD r days[k]) := by simp
          rw [this]; exact hown
        · exact ((ko.block _ (by have := HB.out.size; omega) (fun hx => S.ne (Option.mem_toList.1 hx))).trans (HB.out.block _ hwl)).trans S.ru
        · have : g2 = w.heap.size := by simpa [Value.ownBlock] using e
          rcases hat' with e1 | e1
          · exact S.ne (by rw [e1, this])
          · have := HB.out.size; omega
      clear hown hgrow hat ko hat' HS RW HB
      go_wp2_with fail
      go_roundw
      case rel => exact ⟨k + 1, by omega, by go_num, HN.out⟩
      case measure => simp [intOf]; omega
    · have hke : k = days.length := by omega
      have hi0' : ¬ ((k : Int) < (days.length : Int)) := by omega
      have HF : Hid (wr.ownsRow w.heap.size 60 2 u5 days.length ((days.map (spanD r)).flatMap spV) ∧ Below w.heap.size w wr) := by
        have o := S.own
        rw [hke, List.take_length] at o
        exact ⟨o, S.bl⟩
      clear S
      go_wp2_with fail
      go_ret
      exact ⟨_, rfl, HF.out⟩

end Go.Proofs.YtjfkfiffakbagaaGreatDoor

