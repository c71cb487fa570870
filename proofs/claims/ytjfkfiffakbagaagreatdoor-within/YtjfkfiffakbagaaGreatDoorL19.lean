/-
  Parts of the proof, one behind the other: DeskThing, DeskAnswer, DeskAnswer2, RuleProg, RuleIt.
-/
import Derived.Test.YtjfkfiffakbagaaGreatDoorL18
import Derived.RangeFuncKeeps
import Derived.RangeFuncBound
import Derived.RangeFuncLeaves
import Derived.RangeFuncBox
import Derived.Shelf.Abstract
import Derived.OwnWalkIn
import Derived.TacticsInMore
import Derived.LoopNIn
import Derived.LoopIn
/-
  Package desk: thing.
-/
namespace Go.Proofs.YtjfkfiffakbagaaGreatDoor
open Go.RowKit
open Desk (Ent St Ids kept booked bookE sumA Items ofB sameB Risen Mid EntOk endsB Inv)

theorem canon_zero : ∀ (n : Nat) (lo hi : Int), Lev.canon n (fun _ => 0) lo hi = .nil
  | 0, _, _ => by simp [Lev.canon, Lev.mk, Lev.isNil]
  | n + 1, lo, hi => by
    simp only [Lev.canon]
    have h1 := canon_zero n lo (Lev.mid lo hi)
    have h2 := canon_zero n (Lev.mid lo hi) hi
    rw [h1, h2]
    simp [Lev.mk, Lev.isNil]
theorem levT_zero : levT (fun _ => 0) = .nil := canon_zero 20 0 1048320
theorem sumA_none {name : ByteArray} : ∀ {es : List Ent}, (∀ e ∈ es, ofB name e = false) → sumA name es = fun _ => 0
  | [], _ => by funext p; rfl
  | e :: es, h => by
    funext p
    have ih := congrFun (sumA_none (name := name) (es := es) (fun x hx => h x (List.mem_cons_of_mem _ hx))) p
    simp only [sumA, h e List.mem_cons_self, ih]
    rfl
/-- A thing comes. -/
theorem Of.thing {s : St} {r : Raw} (h : Of s r) {name : ByteArray} {u : Int} {tb : Nat} (hno : ∀ t ∈ r.tg, t.name ≠ name) : Of { s with ts := s.ts ++ [(name, u)] } { r with tg := r.tg ++ [⟨name, u, tb, fun _ => 0, .nil⟩] } := by
  have hof : ∀ e ∈ s.es, ofB name e = false := fun e he => by
    obtain ⟨g, hg, rfl⟩ := h.get he
    obtain ⟨i, hi, e1, e2⟩ := h.tb g hg
    have : sameB g.e.thing name = false := sameB_ne.2 (fun e3 => hno _ (List.getElem_mem hi) (by rw [e1, e3]))
    simp [ofB, this]
  refine ⟨h.now, h.given, by show (r.tg ++ [_]).map _ = _; rw [List.map_append, h.ts]; rfl, h.es, fun i hi => ?_, fun g hg => ?_⟩
  · have hi' : i < r.tg.length + 1 := by simpa using hi
    by_cases e : i < r.tg.length
    · have e2 : (r.tg ++ [(⟨name, u, tb, fun _ => 0, .nil⟩ : TG)])[i]'(by simpa using hi') = r.tg[i] := List.getElem_append_left e
      show (r.tg ++ [(⟨name, u, tb, fun _ => 0, .nil⟩ : TG)])[i].A = sumA (r.tg ++ [(⟨name, u, tb, fun _ => 0, .nil⟩ : TG)])[i].name s.es ∧ Items (r.tg ++ [(⟨name, u, tb, fun _ => 0, .nil⟩ : TG)])[i].name s.es (atE r.eg) (r.tg ++ [(⟨name, u, tb, fun _ => 0, .nil⟩ : TG)])[i].T
      rw [e2]
      exact h.th i e
    · have e3 : i = r.tg.length := by omega
      subst e3
      have e2 : (r.tg ++ [(⟨name, u, tb, fun _ => 0, .nil⟩ : TG)])[r.tg.length]'(by simp) = ⟨name, u, tb, fun _ => 0, .nil⟩ := by simp
      show (r.tg ++ [(⟨name, u, tb, fun _ => 0, .nil⟩ : TG)])[r.tg.length].A = sumA (r.tg ++ [(⟨name, u, tb, fun _ => 0, .nil⟩ : TG)])[r.tg.length].name s.es ∧ Items (r.tg ++ [(⟨name, u, tb, fun _ => 0, .nil⟩ : TG)])[r.tg.length].name s.es (atE r.eg) (r.tg ++ [(⟨name, u, tb, fun _ => 0, .nil⟩ : TG)])[r.tg.length].T
      rw [e2]
      refine ⟨(sumA_none hof).symm, List.Pairwise.nil, fun z => ?_⟩
      constructor
      · intro hz; simp [Avl.inord] at hz
      · rintro ⟨e, he, h1, _⟩
        rw [hof e he] at h1; cases h1
  · obtain ⟨i, hi, e1, e2⟩ := h.tb g hg
    have e3 : (r.tg ++ [(⟨name, u, tb, fun _ => 0, .nil⟩ : TG)])[i]'(by simp; omega) = r.tg[i] := List.getElem_append_left hi
    refine ⟨i, (by show i < (r.tg ++ [_]).length; simp; omega), ?_, ?_⟩
    · exact (congrArg TG.name e3).trans e1
    · exact e2.trans (congrArg TG.tb e3).symm
theorem thAt_not {r : Raw} {name : ByteArray} (h : thAt r.tg name = none) : ∀ t ∈ r.tg, t.name ≠ name := by
  intro t ht e
  rw [thAt_find] at h
  cases e2 : r.tg.find? fun t => sameB t.name name with
  | none => exact (List.find?_eq_none.1 e2 t ht) (sameB_eq.2 e)
  | some y => rw [e2] at h; cases h

/-- The new thing in its block, and in the map. -/
theorem DSt.newT {w w1 : World} {d : Nat} {s : St} {r : Raw} {col : Nat → Option Col} (h : DSt w d s r col) (k : Below w.heap.size w w1) {name : ByteArray} {u : Int} (hn : name.size ≤ 1000) (ht : thAt r.tg name = none) (hl : r.tg.length < 4) (h7 : Q7 w1 (w.heap.size + 1)) :
    ∃ m, w1.cell? ⟨d, 2, none⟩ = some (.map (some m)) ∧ ∃ w3, (Instr.mapUpdate 125 (.map (some m)) (.string name) (.pointer (some ⟨w1.heap.size, 0, none⟩))).run Tryz.prog (w1.alloc (.cells #[.string name, .int .i64 u, .pointer none, .pointer none] 230)).drew = .ok () w3 ∧ Q7 w3 (w.heap.size + 1) ∧ ∀ a b c e f g i, AnsPost w d col ({ s with ts := s.ts ++ [(name, u)] }, Desk.Rep.num 0) (repV 0 0 0 (.slice none 0 0) (.slice none 0 0) (.slice none 0 0) (.slice none 0 0)) (set7 w3 (w.heap.size + 1) a b c e f g i) := by
  have d1 := h.dk.later k
  have kz : Below w1.heap.size w1 (w1.alloc (.cells #[.string name, .int .i64 u, .pointer none, .pointer none] 230)).drew := ((Below.refl _ _).alloc (Nat.le_refl _) _).drew
  have d2 := d1.later kz
  have hb := heapNew w1 (.cells #[.string name, .int .i64 u, .pointer none, .pointer none] 230)
  have hbd : (w1.alloc (.cells #[.string name, .int .i64 u, .pointer none, .pointer none] 230)).drew.heap[w1.heap.size]? = some (.cells #[.string name, .int .i64 u, .pointer none, .pointer none] 230 (0, 0)) := hb
  have hq2 : Q7 (w1.alloc (.cells #[.string name, .int .i64 u, .pointer none, .pointer none] 230)).drew (w.heap.size + 1) := h7.later (kz.block _ (World.block_lt_of_cell? _ _ h7.q0))
  have hq0 : w.heap.size + 1 < w1.heap.size := World.block_lt_of_cell? _ _ h7.q0
  obtain ⟨m0, _, a0, _⟩ := d1.mt
  obtain ⟨m, f, a1, a2, a3, a4⟩ := d2.mt
  have hm : m0 = m := by
    have e := kz.cell (p := ⟨d, 2, none⟩) (World.block_lt_of_cell? _ _ a0)
    rw [a0, a1] at e
    injection e with e; injection e with e; injection e with e
    exact e.symm
  subst hm
  refine ⟨m0, a0, ?_⟩
  generalize (w1.alloc (.cells #[.string name, .int .i64 u, .pointer none, .pointer none] 230)).drew = Z at *
  obtain ⟨w3, hrun, p1, p2⟩ := a3.storeRun keyStr Tryz.underlying125 (by unfold maxLen; omega) (key_str hn) (by unfold litS; trivial) w1.heap.size
  have hT : TH Z w1.heap.size name u (fun _ => 0) .nil none none [] [] := by
    refine ⟨?_, ?_, ?_, ?_, fun o => frozen_of_row _ _ _ _ _ hbd, ?_, ⟨rfl, rfl⟩, by simp, by simp, by simp⟩
    · simp only [World.cell?, hbd]; rfl
    · simp only [World.cell?, hbd]; rfl
    · simp only [World.cell?, hbd]; rfl
    · simp only [World.cell?, hbd]; rfl
    · rw [levT_zero]; exact ⟨rfl, rfl⟩
  obtain ⟨c2, e1, e2, e3⟩ := d2.insTn (t := ⟨name, u, w1.heap.size, fun _ => 0, .nil⟩) (B := w1.heap.size) a1 a2 a4 hT (d1.none (Nat.le_refl _)) (Nat.le_refl _) (thAt_not ht) p1 p2
  have hqc : col (w.heap.size + 1) = none := h.dk.none (by omega)
  have hmq : w.heap.size + 1 ≠ m0 := fun e => by rw [e, a2] at hqc; cases hqc
  have hql : w.heap.size + 1 < Z.heap.size := World.block_lt_of_cell? _ _ hq2.q0
  have hb3 : w3.heap[w.heap.size + 1]? = Z.heap[w.heap.size + 1]? := p2.block _ hql (fun e => hmq (Option.some.inj e))
  refine ⟨w3, hrun, hq2.later hb3, fun a b c e f g i => ansPlain e1 (h.of.thing (thAt_not ht)) h.wl h.hl (((Step.below k).trans (Step.below kz)).trans (e2.any k.size)) (by omega) (e3 _ hqc (by show w.heap.size + 1 ≠ w1.heap.size; omega)) 0 0 a b c e f g i⟩

theorem zeroPT2 (w : World) : (zeroValue 192).run Tryz.prog w = .ok (.pointer none) w := by simp [go_sem]

set_option maxRecDepth 100000 in
set_option maxHeartbeats 4000000 in
theorem thing_any {w : World} {d : Nat} {s : St} {r : Raw} {col : Nat → Option Col} (h : DSt w d s r col) (name : ByteArray) (hn : name.size ≤ 1000) (u : Int) :
    Calls Tryz.prog 91 #[.pointer (some ⟨d, 0, none⟩), .agg #[.string name, .int .i64 u]] w fun e w' => ∃ v, e = .returned v ∧ AnsPost w d col (Desk.doesD s (.thing name u)) v w' := by
  obtain ⟨hX, hXQ⟩ := two_more (w := w) (.cells #[.string name, .int .i64 u] 143)
  have x0 : ((w.alloc (.cells #[.string name, .int .i64 u] 143)).alloc zeroR).cell? ⟨w.heap.size, 0, none⟩ = some (.string name) := by simp [zeroR]
  have x1 : ((w.alloc (.cells #[.string name, .int .i64 u] 143)).alloc zeroR).cell? ⟨w.heap.size, 1, none⟩ = some (.int .i64 u) := by simp [zeroR]
  have hNX : w.heap.size + 1 < ((w.alloc (.cells #[.string name, .int .i64 u] 143)).alloc zeroR).heap.size := by simp
  have HH := hidp h
  have HX := hidp (And.intro hX hXQ)
  clear h hX hXQ
  go_enter Tryz.func91, Tryz.ntmps91
  go_upto_region 1 with fail
  change Code.wp _ _ _ _ ((w.alloc (.cells #[.string name, .int .i64 u] 143)).alloc zeroR)
  generalize (w.alloc (.cells #[.string name, .int .i64 u] 143)).alloc zeroR = X at *
  have hx := HH.out.dk.later HX.out.1
  obtain ⟨m, f, a1, a2, a3, a4⟩ := hx.mt
  have hlook := (a3.block (w' := X.drew) rfl).look keyStr Tryz.underlying125 (zeroPT2 X.drew) (key_str hn)
  have hlen := (a3.block (w' := X.drew) rfl).len Tryz.underlying125
  rw [a4 name] at hlook
  have QX : Hid (Q7 X.drew (w.heap.size + 1)) := Q7.of HX.out.2
  have BX : Hid (Below w.heap.size w X.drew) := HX.out.1.drew
  have htl := HH.out.inv.tl
  rw [← HH.out.of.len] at htl
  cases ht : thAt r.tg name with
  | some b =>
    rw [ht] at hlook
    have hlook' : (Instr.lookup 125 (.map (some m)) (.string name) false).run Tryz.prog X.drew = .ok (.pointer (some ⟨b, 0, none⟩)) X.drew := hlook
    have HD : Hid (Desk.doesD s (.thing name u) = (s, Desk.Rep.error 4)) := by
      obtain ⟨i, hi, e1, e2, e3⟩ := thAt_some HH.out.of HH.out.inv.tn ht
      have hin : (r.tg[i].name, r.tg[i].units) ∈ s.ts := by rw [← HH.out.of.tsAt hi]; exact List.getElem_mem _
      have := (HH.out.inv.tu _ hin).1
      simp only [Hid, Desk.doesD]
      rw [if_pos (by rw [e3]; omega)]
    clear hlook a3 a4 ht hx HX hlen
    go_big_region
    clear hlook' x0 x1 a1
    go_wp2_with fail
    refine (refused_any 4 X.drew).mono ?_
    rintro e w2 ⟨rfl, hb2⟩
    have hq := hb2.block (w.heap.size + 1) (World.block_lt_of_cell? _ _ QX.out.q0)
    have HF : Hid (AnsPost w d col (Desk.doesD s (.thing name u)) (repV 4 0 0 (.slice none 0 0) (.slice none 0 0) (.slice none 0 0) (.slice none 0 0)) (set7 w2 (w.heap.size + 1) (.int .i64 4) (.int .i64 0) (.int .i64 0) (.slice none 0 0) (.slice none 0 0) (.slice none 0 0) (.slice none 0 0))) := by
      rw [HD.out]; exact HH.out.said (BX.out.trans (hb2.mono BX.out.size)) (by omega) 4 0 _ _ _ _ _ _ _
    obtain ⟨q0, q1, q2, q3, q4, q5, q6, fq⟩ := QX.out.later hq
    simp only [repV]
    go_wp2_with fail
    exact bodyPost_ret (v := repV 4 0 0 (.slice none 0 0) (.slice none 0 0) (.slice none 0 0) (.slice none 0 0)) (by simp [results, Tryz.results91, go_sem, repV, q0, q1, q2, q3, q4, q5, q6]) rfl ⟨_, rfl, HF.out⟩
  | none =>
    rw [ht] at hlook
    have hlook' : (Instr.lookup 125 (.map (some m)) (.string name) false).run Tryz.prog X.drew = .ok (.pointer none) X.drew := hlook
    have hun := thAt_none HH.out.of ht
    have b1 : X.drew.cell? ⟨d, 2, none⟩ = some (.map (some m)) := a1
    have z0 : X.drew.cell? ⟨w.heap.size, 0, none⟩ = some (.string name) := x0
    have z1 : X.drew.cell? ⟨w.heap.size, 1, none⟩ = some (.int .i64 u) := x1
    by_cases h4 : r.tg.length = 4
    · rw [h4] at hlen
      have HD : Hid (Desk.doesD s (.thing name u) = (s, Desk.Rep.error 5)) := by
        simp only [Hid, Desk.doesD]
        rw [if_neg (by omega), if_pos (by rw [← HH.out.of.len]; exact h4)]
      clear hlook a3 a4 ht hx HX
      go_big_region
      clear hlook' x0 x1 a1
      generalize X.drew = Y at *
      go_wp2_with fail
      refine (refused_any 5 Y).mono ?_
      rintro e w2 ⟨rfl, hb2⟩
      have hq := hb2.block (w.heap.size + 1) (World.block_lt_of_cell? _ _ QX.out.q0)
      have HF : Hid (AnsPost w d col (Desk.doesD s (.thing name u)) (repV 5 0 0 (.slice none 0 0) (.slice none 0 0) (.slice none 0 0) (.slice none 0 0)) (set7 w2 (w.heap.size + 1) (.int .i64 5) (.int .i64 0) (.int .i64 0) (.slice none 0 0) (.slice none 0 0) (.slice none 0 0) (.slice none 0 0))) := by
        rw [HD.out]; exact HH.out.said (BX.out.trans (hb2.mono BX.out.size)) (by omega) 5 0 _ _ _ _ _ _ _
      obtain ⟨q0, q1, q2, q3, q4, q5, q6, fq⟩ := QX.out.later hq
      simp only [repV]
      go_wp2_with fail
      exact bodyPost_ret (v := repV 5 0 0 (.slice none 0 0) (.slice none 0 0) (.slice none 0 0) (.slice none 0 0)) (by simp [results, Tryz.results91, go_sem, repV, q0, q1, q2, q3, q4, q5, q6]) rfl ⟨_, rfl, HF.out⟩
    · have HD : Hid (Desk.doesD s (.thing name u) = ({ s with ts := s.ts ++ [(name, u)] }, Desk.Rep.num 0)) := by
        simp only [Hid, Desk.doesD]
        rw [if_neg (by omega), if_neg (by rw [← HH.out.of.len]; exact h4)]
      have HT := hidp ht
      have hl4 : (r.tg.length : Int) < 4 := by omega
      clear hlook a3 a4 ht hx HX
      go_big_region
      clear hlook' x0 x1 a1
      generalize X.drew = Y at *
      go_wp2_with fail
      refine (clone_any name Y (by omega)).mono ?_
      rintro e w1 ⟨rfl, hb⟩
      have hNY : w.heap.size + 1 < Y.heap.size := World.block_lt_of_cell? _ _ QX.out.q0
      obtain ⟨m2, g1, w3, hrun, q7, hf⟩ := HH.out.newT (u := u) (BX.out.trans (hb.mono BX.out.size)) hn HT.out (by omega) (QX.out.later (hb.block _ hNY))
      have g2 : w1.cell? ⟨w.heap.size, 1, none⟩ = some (.int .i64 u) := cellLater hb z1
      have HF : Hid (AnsPost w d col (Desk.doesD s (.thing name u)) (repV 0 0 0 (.slice none 0 0) (.slice none 0 0) (.slice none 0 0) (.slice none 0 0)) (set7 w3 (w.heap.size + 1) (.int .i64 0) (.int .i64 0) (.int .i64 0) (.slice none 0 0) (.slice none 0 0) (.slice none 0 0) (.slice none 0 0))) := by rw [HD.out]; exact hf _ _ _ _ _ _ _
      have ka : Below w1.heap.size w1 (w1.alloc (.cells #[.string name, .int .i64 u, .pointer none, .pointer none] 230)) := (Below.refl _ _).alloc (Nat.le_refl _) _
      have g1a := cellLater ka g1
      have g2a := cellLater ka g2
      clear hf hb hlen z0 z1 b1 ka
      go_upto_region 6 with fail
      go_big_region
      clear hrun g1 g2 g1a g2a
      obtain ⟨q0, q1, q2, q3, q4, q5, q6, fq⟩ := q7
      go_wp2_with fail
      exact bodyPost_ret (v := repV 0 0 0 (.slice none 0 0) (.slice none 0 0) (.slice none 0 0) (.slice none 0 0)) (by simp [results, Tryz.results91, go_sem, repV, q0, q1, q2, q3, q4, q5, q6]) rfl ⟨_, rfl, HF.out⟩

end Go.Proofs.YtjfkfiffakbagaaGreatDoor


/-
  Package desk: answer: thing, book, hold, wait, confirm.
-/
namespace Go.Proofs.YtjfkfiffakbagaaGreatDoor
open Go.RowKit
open Desk (Ent St Ids kept booked bookE sumA Items ofB sameB Risen Mid EntOk endsB Inv)

set_option maxRecDepth 100000 in
set_option maxHeartbeats 4000000 in
theorem answer_thing {w : World} {d : Nat} {s : St} {r : Raw} {col : Nat → Option Col} (h : DSt w d s r col) (name : ByteArray) (hn : name.size ≤ 1000) (u : Int) :
    Calls Tryz.prog 62 #[.pointer (some ⟨d, 0, none⟩), .iface 143 (.agg #[.string name, .int .i64 u])] w fun e w' => ∃ v, e = .returned v ∧ AnsPost w d col (Desk.doesD s (.thing name u)) v w' := by
  have hX : Below w.heap.size w ((w.alloc zeroR).alloc (.cells #[.string name, .int .i64 u] 143)) := ((Below.refl _ _).alloc (Nat.le_refl _) _).alloc (by simp) _
  have hq : ((w.alloc zeroR).alloc (.cells #[.string name, .int .i64 u] 143)).heap[w.heap.size]? = some zeroR := (Below.heap_alloc _ _ _ (by simp)).trans (heapNew w zeroR)
  have hs : w.heap.size < ((w.alloc zeroR).alloc (.cells #[.string name, .int .i64 u] 143)).heap.size := by simp; omega
  have EF := hidp (thing_any (w := ((w.alloc zeroR).alloc (.cells #[.string name, .int .i64 u] 143))) ⟨h.dk.later hX, h.of, h.wl, h.hl, h.inv⟩ name hn u)
  have HX := hidp (And.intro hX (And.intro (Q7.of hq) (And.intro (h.dk.none (Nat.le_refl _)) hs)))
  clear h hX hq hs
  unfold zeroR at EF HX
  have yesThing : ∀ (xT : TypeId) (v : Value) (w : World), (Instr.typeAssert (.iface 143 v) xT 143 true).run Tryz.prog w = .ok (.tuple #[v, .bool true]) w := by intro xT v w; simp [Instr.typeAssert, go_sem, Result.andThen, run_underlying Tryz.underlying143]
  go_enter Tryz.func62, Tryz.ntmps62
  go_wp2_with fail
  refine EF.out.mono ?_
  rintro e w2 ⟨v, rfl, ep⟩
  obtain ⟨er, at_, nn, a1, a2, a3, a4, n1, n2, n3, n4, c1, c2, c3, c4, rfl, q7, hf⟩ := ep.up HX.out.1 (Nat.le_refl _) HX.out.2.2.2 HX.out.2.2.1 HX.out.2.1
  have HF := hidp (hf (.int .i64 er) (.int .i64 at_) (.int .i64 nn) (.slice a1 n1 c1) (.slice a2 n2 c2) (.slice a3 n3 c3) (.slice a4 n4 c4))
  clear ep hf EF yesThing
  obtain ⟨q0, q1, q2, q3, q4, q5, q6, fq⟩ := q7
  simp only [repV]
  go_wp2_with fail
  exact bodyPost_ret (v := repV er at_ nn (.slice a1 n1 c1) (.slice a2 n2 c2) (.slice a3 n3 c3) (.slice a4 n4 c4)) (by simp [results, Tryz.results62, go_sem, repV, q0, q1, q2, q3, q4, q5, q6]) rfl ⟨_, rfl, HF.out⟩

set_option maxRecDepth 100000 in
set_option maxHeartbeats 4000000 in
theorem answer_book {w : World} {d : Nat} {s : St} {r : Raw} {col : Nat → Option Col} (h : DSt w d s r col) (name : ByteArray) (hn : name.size ≤ 1000) (u fr til : Int) (hl : Desk.LineOk (.enter 1 name u fr til 0)) :
    Calls Tryz.prog 62 #[.pointer (some ⟨d, 0, none⟩), .iface 148 (.agg #[.string name, .int .i64 u, .int .i64 fr, .int .i64 til])] w fun e w' => ∃ v, e = .returned v ∧ AnsPost w d col (Desk.doesD s (.enter 1 name u fr til 0)) v w' := by
  have hX : Below w.heap.size w ((w.alloc zeroR).alloc (.cells #[.string name, .int .i64 u, .int .i64 fr, .int .i64 til] 148)) := ((Below.refl _ _).alloc (Nat.le_refl _) _).alloc (by simp) _
  have hq : ((w.alloc zeroR).alloc (.cells #[.string name, .int .i64 u, .int .i64 fr, .int .i64 til] 148)).heap[w.heap.size]? = some zeroR := (Below.heap_alloc _ _ _ (by simp)).trans (heapNew w zeroR)
  have hs : w.heap.size < ((w.alloc zeroR).alloc (.cells #[.string name, .int .i64 u, .int .i64 fr, .int .i64 til] 148)).heap.size := by simp; omega
  have EF := hidp (book_any (w := ((w.alloc zeroR).alloc (.cells #[.string name, .int .i64 u, .int .i64 fr, .int .i64 til] 148))) ⟨h.dk.later hX, h.of, h.wl, h.hl, h.inv⟩ name hn u fr til hl)
  have HX := hidp (And.intro hX (And.intro (Q7.of hq) (And.intro (h.dk.none (Nat.le_refl _)) hs)))
  clear h hX hq hs
  unfold zeroR at EF HX
  have noThing : ∀ (xT : TypeId) (v : Value) (w : World), (Instr.typeAssert (.iface 148 v) xT 143 true).run Tryz.prog w = .ok (.tuple #[.agg #[.string ⟨#[]⟩, .int .i64 0], .bool false]) w := by intro xT v w; simp [Instr.typeAssert, go_sem, Result.andThen, run_underlying Tryz.underlying143]
  have yesBook : ∀ (xT : TypeId) (v : Value) (w : World), (Instr.typeAssert (.iface 148 v) xT 148 true).run Tryz.prog w = .ok (.tuple #[v, .bool true]) w := by intro xT v w; simp [Instr.typeAssert, go_sem, Result.andThen, run_underlying Tryz.underlying148]
  go_enter Tryz.func62, Tryz.ntmps62
  go_wp2_with fail
  refine EF.out.mono ?_
  rintro e w2 ⟨v, rfl, ep⟩
  obtain ⟨er, at_, nn, a1, a2, a3, a4, n1, n2, n3, n4, c1, c2, c3, c4, rfl, q7, hf⟩ := ep.up HX.out.1 (Nat.le_refl _) HX.out.2.2.2 HX.out.2.2.1 HX.out.2.1
  have HF := hidp (hf (.int .i64 er) (.int .i64 at_) (.int .i64 nn) (.slice a1 n1 c1) (.slice a2 n2 c2) (.slice a3 n3 c3) (.slice a4 n4 c4))
  clear ep hf EF noThing yesBook
  obtain ⟨q0, q1, q2, q3, q4, q5, q6, fq⟩ := q7
  simp only [repV]
  go_wp2_with fail
  exact bodyPost_ret (v := repV er at_ nn (.slice a1 n1 c1) (.slice a2 n2 c2) (.slice a3 n3 c3) (.slice a4 n4 c4)) (by simp [results, Tryz.results62, go_sem, repV, q0, q1, q2, q3, q4, q5, q6]) rfl ⟨_, rfl, HF.out⟩

set_option maxRecDepth 100000 in
set_option maxHeartbeats 4000000 in
theorem answer_hold {w : World} {d : Nat} {s : St} {r : Raw} {col : Nat → Option Col} (h : DSt w d s r col) (name : ByteArray) (hn : name.size ≤ 1000) (u fr til long : Int) (hl : Desk.LineOk (.enter 2 name u fr til long)) :
    Calls Tryz.prog 62 #[.pointer (some ⟨d, 0, none⟩), .iface 150 (.agg #[.string name, .int .i64 u, .int .i64 fr, .int .i64 til, .int .i64 long])] w fun e w' => ∃ v, e = .returned v ∧ AnsPost w d col (Desk.doesD s (.enter 2 name u fr til long)) v w' := by
  have hX : Below w.heap.size w ((w.alloc zeroR).alloc (.cells #[.string name, .int .i64 u, .int .i64 fr, .int .i64 til, .int .i64 long] 150)) := ((Below.refl _ _).alloc (Nat.le_refl _) _).alloc (by simp) _
  have hq : ((w.alloc zeroR).alloc (.cells #[.string name, .int .i64 u, .int .i64 fr, .int .i64 til, .int .i64 long] 150)).heap[w.heap.size]? = some zeroR := (Below.heap_alloc _ _ _ (by simp)).trans (heapNew w zeroR)
  have hs : w.heap.size < ((w.alloc zeroR).alloc (.cells #[.string name, .int .i64 u, .int .i64 fr, .int .i64 til, .int .i64 long] 150)).heap.size := by simp; omega
  have EF := hidp (hold_any (w := ((w.alloc zeroR).alloc (.cells #[.string name, .int .i64 u, .int .i64 fr, .int .i64 til, .int .i64 long] 150))) ⟨h.dk.later hX, h.of, h.wl, h.hl, h.inv⟩ name hn u fr til long hl)
  have HX := hidp (And.intro hX (And.intro (Q7.of hq) (And.intro (h.dk.none (Nat.le_refl _)) hs)))
  clear h hX hq hs
  unfold zeroR at EF HX
  have noThing : ∀ (xT : TypeId) (v : Value) (w : World), (Instr.typeAssert (.iface 150 v) xT 143 true).run Tryz.prog w = .ok (.tuple #[.agg #[.string ⟨#[]⟩, .int .i64 0], .bool false]) w := by intro xT v w; simp [Instr.typeAssert, go_sem, Result.andThen, run_underlying Tryz.underlying143]
  have noBook : ∀ (xT : TypeId) (v : Value) (w : World), (Instr.typeAssert (.iface 150 v) xT 148 true).run Tryz.prog w = .ok (.tuple #[.agg #[.string ⟨#[]⟩, .int .i64 0, .int .i64 0, .int .i64 0], .bool false]) w := by intro xT v w; simp [Instr.typeAssert, go_sem, Result.andThen, run_underlying Tryz.underlying148]
  have yesHold : ∀ (xT : TypeId) (v : Value) (w : World), (Instr.typeAssert (.iface 150 v) xT 150 true).run Tryz.prog w = .ok (.tuple #[v, .bool true]) w := by intro xT v w; simp [Instr.typeAssert, go_sem, Result.andThen, run_underlying Tryz.underlying150]
  go_enter Tryz.func62, Tryz.ntmps62
  go_wp2_with fail
  refine EF.out.mono ?_
  rintro e w2 ⟨v, rfl, ep⟩
  obtain ⟨er, at_, nn, a1, a2, a3, a4, n1, n2, n3, n4, c1, c2, c3, c4, rfl, q7, hf⟩ := ep.up HX.out.1 (Nat.le_refl _) HX.out.2.2.2 HX.out.2.2.1 HX.out.2.1
  have HF := hidp (hf (.int .i64 er) (.int .i64 at_) (.int .i64 nn) (.slice a1 n1 c1) (.slice a2 n2 c2) (.slice a3 n3 c3) (.slice a4 n4 c4))
  clear ep hf EF noThing noBook yesHold
  obtain ⟨q0, q1, q2, q3, q4, q5, q6, fq⟩ := q7
  simp only [repV]
  go_wp2_with fail
  exact bodyPost_ret (v := repV er at_ nn (.slice a1 n1 c1) (.slice a2 n2 c2) (.slice a3 n3 c3) (.slice a4 n4 c4)) (by simp [results, Tryz.results62, go_sem, repV, q0, q1, q2, q3, q4, q5, q6]) rfl ⟨_, rfl, HF.out⟩

set_option maxRecDepth 100000 in
set_option maxHeartbeats 4000000 in
theorem answer_wait {w : World} {d : Nat} {s : St} {r : Raw} {col : Nat → Option Col} (h : DSt w d s r col) (name : ByteArray) (hn : name.size ≤ 1000) (u fr til long : Int) (hl : Desk.LineOk (.enter 3 name u fr til long)) :
    Calls Tryz.prog 62 #[.pointer (some ⟨d, 0, none⟩), .iface 151 (.agg #[.string name, .int .i64 u, .int .i64 fr, .int .i64 til, .int .i64 long])] w fun e w' => ∃ v, e = .returned v ∧ AnsPost w d col (Desk.doesD s (.enter 3 name u fr til long)) v w' := by
  have hX : Below w.heap.size w ((w.alloc zeroR).alloc (.cells #[.string name, .int .i64 u, .int .i64 fr, .int .i64 til, .int .i64 long] 151)) := ((Below.refl _ _).alloc (Nat.le_refl _) _).alloc (by simp) _
  have hq : ((w.alloc zeroR).alloc (.cells #[.string name, .int .i64 u, .int .i64 fr, .int .i64 til, .int .i64 long] 151)).heap[w.heap.size]? = some zeroR := (Below.heap_alloc _ _ _ (by simp)).trans (heapNew w zeroR)
  have hs : w.heap.size < ((w.alloc zeroR).alloc (.cells #[.string name, .int .i64 u, .int .i64 fr, .int .i64 til, .int .i64 long] 151)).heap.size := by simp; omega
  have EF := hidp (wait_any (w := ((w.alloc zeroR).alloc (.cells #[.string name, .int .i64 u, .int .i64 fr, .int .i64 til, .int .i64 long] 151))) ⟨h.dk.later hX, h.of, h.wl, h.hl, h.inv⟩ name hn u fr til long hl)
  have HX := hidp (And.intro hX (And.intro (Q7.of hq) (And.intro (h.dk.none (Nat.le_refl _)) hs)))
  clear h hX hq hs
  unfold zeroR at EF HX
  have noThing : ∀ (xT : TypeId) (v : Value) (w : World), (Instr.typeAssert (.iface 151 v) xT 143 true).run Tryz.prog w = .ok (.tuple #[.agg #[.string ⟨#[]⟩, .int .i64 0], .bool false]) w := by intro xT v w; simp [Instr.typeAssert, go_sem, Result.andThen, run_underlying Tryz.underlying143]
  have noBook : ∀ (xT : TypeId) (v : Value) (w : World), (Instr.typeAssert (.iface 151 v) xT 148 true).run Tryz.prog w = .ok (.tuple #[.agg #[.string ⟨#[]⟩, .int .i64 0, .int .i64 0, .int .i64 0], .bool false]) w := by intro xT v w; simp [Instr.typeAssert, go_sem, Result.andThen, run_underlying Tryz.underlying148]
  have noHold : ∀ (xT : TypeId) (v : Value) (w : World), (Instr.typeAssert (.iface 151 v) xT 150 true).run Tryz.prog w = .ok (.tuple #[.agg #[.string ⟨#[]⟩, .int .i64 0, .int .i64 0, .int .i64 0, .int .i64 0], .bool false]) w := by intro xT v w; simp [Instr.typeAssert, go_sem, Result.andThen, run_underlying Tryz.underlying150]
  have yesWait : ∀ (xT : TypeId) (v : Value) (w : World), (Instr.typeAssert (.iface 151 v) xT 151 true).run Tryz.prog w = .ok (.tuple #[v, .bool true]) w := by intro xT v w; simp [Instr.typeAssert, go_sem, Result.andThen, run_underlying Tryz.underlying151]
  go_enter Tryz.func62, Tryz.ntmps62
  go_wp2_with fail
  refine EF.out.mono ?_
  rintro e w2 ⟨v, rfl, ep⟩
  obtain ⟨er, at_, nn, a1, a2, a3, a4, n1, n2, n3, n4, c1, c2, c3, c4, rfl, q7, hf⟩ := ep.up HX.out.1 (Nat.le_refl _) HX.out.2.2.2 HX.out.2.2.1 HX.out.2.1
  have HF := hidp (hf (.int .i64 er) (.int .i64 at_) (.int .i64 nn) (.slice a1 n1 c1) (.slice a2 n2 c2) (.slice a3 n3 c3) (.slice a4 n4 c4))
  clear ep hf EF noThing noBook noHold yesWait
  obtain ⟨q0, q1, q2, q3, q4, q5, q6, fq⟩ := q7
  simp only [repV]
  go_wp2_with fail
  exact bodyPost_ret (v := repV er at_ nn (.slice a1 n1 c1) (.slice a2 n2 c2) (.slice a3 n3 c3) (.slice a4 n4 c4)) (by simp [results, Tryz.results62, go_sem, repV, q0, q1, q2, q3, q4, q5, q6]) rfl ⟨_, rfl, HF.out⟩

set_option maxRecDepth 100000 in
set_option maxHeartbeats 4000000 in
theorem answer_confirm {w : World} {d : Nat} {s : St} {r : Raw} {col : Nat → Option Col} (h : DSt w d s r col) (id : Int) (hid : 0 ≤ id ∧ id ≤ 9999999) :
    Calls Tryz.prog 62 #[.pointer (some ⟨d, 0, none⟩), .iface 161 (.agg #[.int .i64 id])] w fun e w' => ∃ v, e = .returned v ∧ AnsPost w d col (Desk.doesD s (.confirm id)) v w' := by
  have hX : Below w.heap.size w ((w.alloc zeroR).alloc (.cells #[.int .i64 id] 161)) := ((Below.refl _ _).alloc (Nat.le_refl _) _).alloc (by simp) _
  have hq : ((w.alloc zeroR).alloc (.cells #[.int .i64 id] 161)).heap[w.heap.size]? = some zeroR := (Below.heap_alloc _ _ _ (by simp)).trans (heapNew w zeroR)
  have hs : w.heap.size < ((w.alloc zeroR).alloc (.cells #[.int .i64 id] 161)).heap.size := by simp; omega
  have EF := hidp (confirm_any (w := ((w.alloc zeroR).alloc (.cells #[.int .i64 id] 161))) ⟨h.dk.later hX, h.of, h.wl, h.hl, h.inv⟩ id hid)
  have HX := hidp (And.intro hX (And.intro (Q7.of hq) (And.intro (h.dk.none (Nat.le_refl _)) hs)))
  clear h hX hq hs
  unfold zeroR at EF HX
  have noThing : ∀ (xT : TypeId) (v : Value) (w : World), (Instr.typeAssert (.iface 161 v) xT 143 true).run Tryz.prog w = .ok (.tuple #[.agg #[.string ⟨#[]⟩, .int .i64 0], .bool false]) w := by intro xT v w; simp [Instr.typeAssert, go_sem, Result.andThen, run_underlying Tryz.underlying143]
  have noBook : ∀ (xT : TypeId) (v : Value) (w : World), (Instr.typeAssert (.iface 161 v) xT 148 true).run Tryz.prog w = .ok (.tuple #[.agg #[.string ⟨#[]⟩, .int .i64 0, .int .i64 0, .int .i64 0], .bool false]) w := by intro xT v w; simp [Instr.typeAssert, go_sem, Result.andThen, run_underlying Tryz.underlying148]
  have noHold : ∀ (xT : TypeId) (v : Value) (w : World), (Instr.typeAssert (.iface 161 v) xT 150 true).run Tryz.prog w = .ok (.tuple #[.agg #[.string ⟨#[]⟩, .int .i64 0, .int .i64 0, .int .i64 0, .int .i64 0], .bool false]) w := by intro xT v w; simp [Instr.typeAssert, go_sem, Result.andThen, run_underlying Tryz.underlying150]
  have noWait : ∀ (xT : TypeId) (v : Value) (w : World), (Instr.typeAssert (.iface 161 v) xT 151 true).run Tryz.prog w = .ok (.tuple #[.agg #[.string ⟨#[]⟩, .int .i64 0, .int .i64 0, .int .i64 0, .int .i64 0], .bool false]) w := by intro xT v w; simp [Instr.typeAssert, go_sem, Result.andThen, run_underlying Tryz.underlying151]
  have noSeries : ∀ (xT : TypeId) (v : Value) (w : World), (Instr.typeAssert (.iface 161 v) xT 159 true).run Tryz.prog w = .ok (.tuple #[.agg #[.string ⟨#[]⟩, .int .i64 0, .int .i64 0, .int .i64 0, .bool false, .bool false, .bool false, .bool false, .bool false, .bool false, .bool false, .int .i64 0, .int .i64 0, .int .i64 0, .int .i64 0, .int .i64 0], .bool false]) w := by intro xT v w; simp [Instr.typeAssert, go_sem, Result.andThen, run_underlying Tryz.underlying159]
  have yesConfirm : ∀ (xT : TypeId) (v : Value) (w : World), (Instr.typeAssert (.iface 161 v) xT 161 true).run Tryz.prog w = .ok (.tuple #[v, .bool true]) w := by intro xT v w; simp [Instr.typeAssert, go_sem, Result.andThen, run_underlying Tryz.underlying161]
  go_enter Tryz.func62, Tryz.ntmps62
  go_wp2_with fail
  refine EF.out.mono ?_
  rintro e w2 ⟨v, rfl, ep⟩
  obtain ⟨er, at_, nn, a1, a2, a3, a4, n1, n2, n3, n4, c1, c2, c3, c4, rfl, q7, hf⟩ := ep.up HX.out.1 (Nat.le_refl _) HX.out.2.2.2 HX.out.2.2.1 HX.out.2.1
  have HF := hidp (hf (.int .i64 er) (.int .i64 at_) (.int .i64 nn) (.slice a1 n1 c1) (.slice a2 n2 c2) (.slice a3 n3 c3) (.slice a4 n4 c4))
  clear ep hf EF noThing noBook noHold noWait noSeries yesConfirm
  obtain ⟨q0, q1, q2, q3, q4, q5, q6, fq⟩ := q7
  simp only [repV]
  go_wp2_with fail
  exact bodyPost_ret (v := repV er at_ nn (.slice a1 n1 c1) (.slice a2 n2 c2) (.slice a3 n3 c3) (.slice a4 n4 c4)) (by simp [results, Tryz.results62, go_sem, repV, q0, q1, q2, q3, q4, q5, q6]) rfl ⟨_, rfl, HF.out⟩

end Go.Proofs.YtjfkfiffakbagaaGreatDoor


/-
  Package desk: answer: cancel, peak, find, tick.
-/
namespace Go.Proofs.YtjfkfiffakbagaaGreatDoor
open Go.RowKit
open Desk (Ent St Ids kept booked bookE sumA Items ofB sameB Risen Mid EntOk endsB Inv)

set_option maxRecDepth 100000 in
set_option maxHeartbeats 4000000 in
theorem answer_cancel {w : World} {d : Nat} {s : St} {r : Raw} {col : Nat → Option Col} (h : DSt w d s r col) (id : Int) (hid : 0 ≤ id ∧ id ≤ 9999999) :
    Calls Tryz.prog 62 #[.pointer (some ⟨d, 0, none⟩), .iface 162 (.agg #[.int .i64 id])] w fun e w' => ∃ v, e = .returned v ∧ AnsPost w d col (Desk.doesD s (.cancel id)) v w' := by
  have hX : Below w.heap.size w ((w.alloc zeroR).alloc (.cells #[.int .i64 id] 162)) := ((Below.refl _ _).alloc (Nat.le_refl _) _).alloc (by simp) _
  have hq : ((w.alloc zeroR).alloc (.cells #[.int .i64 id] 162)).heap[w.heap.size]? = some zeroR := (Below.heap_alloc _ _ _ (by simp)).trans (heapNew w zeroR)
  have hs : w.heap.size < ((w.alloc zeroR).alloc (.cells #[.int .i64 id] 162)).heap.size := by simp; omega
  have EF := hidp (cancel_any (w := ((w.alloc zeroR).alloc (.cells #[.int .i64 id] 162))) ⟨h.dk.later hX, h.of, h.wl, h.hl, h.inv⟩ id hid)
  have HX := hidp (And.intro hX (And.intro (Q7.of hq) (And.intro (h.dk.none (Nat.le_refl _)) hs)))
  clear h hX hq hs
  unfold zeroR at EF HX
  have noThing : ∀ (xT : TypeId) (v : Value) (w : World), (Instr.typeAssert (.iface 162 v) xT 143 true).run Tryz.prog w = .ok (.tuple #[.agg #[.string ⟨#[]⟩, .int .i64 0], .bool false]) w := by intro xT v w; simp [Instr.typeAssert, go_sem, Result.andThen, run_underlying Tryz.underlying143]
  have noBook : ∀ (xT : TypeId) (v : Value) (w : World), (Instr.typeAssert (.iface 162 v) xT 148 true).run Tryz.prog w = .ok (.tuple #[.agg #[.string ⟨#[]⟩, .int .i64 0, .int .i64 0, .int .i64 0], .bool false]) w := by intro xT v w; simp [Instr.typeAssert, go_sem, Result.andThen, run_underlying Tryz.underlying148]
  have noHold : ∀ (xT : TypeId) (v : Value) (w : World), (Instr.typeAssert (.iface 162 v) xT 150 true).run Tryz.prog w = .ok (.tuple #[.agg #[.string ⟨#[]⟩, .int .i64 0, .int .i64 0, .int .i64 0, .int .i64 0], .bool false]) w := by intro xT v w; simp [Instr.typeAssert, go_sem, Result.andThen, run_underlying Tryz.underlying150]
  have noWait : ∀ (xT : TypeId) (v : Value) (w : World), (Instr.typeAssert (.iface 162 v) xT 151 true).run Tryz.prog w = .ok (.tuple #[.agg #[.string ⟨#[]⟩, .int .i64 0, .int .i64 0, .int .i64 0, .int .i64 0], .bool false]) w := by intro xT v w; simp [Instr.typeAssert, go_sem, Result.andThen, run_underlying Tryz.underlying151]
  have noSeries : ∀ (xT : TypeId) (v : Value) (w : World), (Instr.typeAssert (.iface 162 v) xT 159 true).run Tryz.prog w = .ok (.tuple #[.agg #[.string ⟨#[]⟩, .int .i64 0, .int .i64 0, .int .i64 0, .bool false, .bool false, .bool false, .bool false, .bool false, .bool false, .bool false, .int .i64 0, .int .i64 0, .int .i64 0, .int .i64 0, .int .i64 0], .bool false]) w := by intro xT v w; simp [Instr.typeAssert, go_sem, Result.andThen, run_underlying Tryz.underlying159]
  have noConfirm : ∀ (xT : TypeId) (v : Value) (w : World), (Instr.typeAssert (.iface 162 v) xT 161 true).run Tryz.prog w = .ok (.tuple #[.agg #[.int .i64 0], .bool false]) w := by intro xT v w; simp [Instr.typeAssert, go_sem, Result.andThen, run_underlying Tryz.underlying161]
  have yesCancel : ∀ (xT : TypeId) (v : Value) (w : World), (Instr.typeAssert (.iface 162 v) xT 162 true).run Tryz.prog w = .ok (.tuple #[v, .bool true]) w := by intro xT v w; simp [Instr.typeAssert, go_sem, Result.andThen, run_underlying Tryz.underlying162]
  go_enter Tryz.func62, Tryz.ntmps62
  go_wp2_with fail
  refine EF.out.mono ?_
  rintro e w2 ⟨v, rfl, ep⟩
  obtain ⟨er, at_, nn, a1, a2, a3, a4, n1, n2, n3, n4, c1, c2, c3, c4, rfl, q7, hf⟩ := ep.up HX.out.1 (Nat.le_refl _) HX.out.2.2.2 HX.out.2.2.1 HX.out.2.1
  have HF := hidp (hf (.int .i64 er) (.int .i64 at_) (.int .i64 nn) (.slice a1 n1 c1) (.slice a2 n2 c2) (.slice a3 n3 c3) (.slice a4 n4 c4))
  clear ep hf EF noThing noBook noHold noWait noSeries noConfirm yesCancel
  obtain ⟨q0, q1, q2, q3, q4, q5, q6, fq⟩ := q7
  simp only [repV]
  go_wp2_with fail
  exact bodyPost_ret (v := repV er at_ nn (.slice a1 n1 c1) (.slice a2 n2 c2) (.slice a3 n3 c3) (.slice a4 n4 c4)) (by simp [results, Tryz.results62, go_sem, repV, q0, q1, q2, q3, q4, q5, q6]) rfl ⟨_, rfl, HF.out⟩

set_option maxRecDepth 100000 in
set_option maxHeartbeats 4000000 in
theorem answer_peak {w : World} {d : Nat} {s : St} {r : Raw} {col : Nat → Option Col} (h : DSt w d s r col) (name : ByteArray) (hn : name.size ≤ 1000) (fr til : Int) (hl : Desk.LineOk (.peak name fr til)) :
    Calls Tryz.prog 62 #[.pointer (some ⟨d, 0, none⟩), .iface 170 (.agg #[.string name, .int .i64 fr, .int .i64 til])] w fun e w' => ∃ v, e = .returned v ∧ AnsPost w d col (Desk.doesD s (.peak name fr til)) v w' := by
  have hX : Below w.heap.size w ((w.alloc zeroR).alloc (.cells #[.string name, .int .i64 fr, .int .i64 til] 170)) := ((Below.refl _ _).alloc (Nat.le_refl _) _).alloc (by simp) _
  have hq : ((w.alloc zeroR).alloc (.cells #[.string name, .int .i64 fr, .int .i64 til] 170)).heap[w.heap.size]? = some zeroR := (Below.heap_alloc _ _ _ (by simp)).trans (heapNew w zeroR)
  have hs : w.heap.size < ((w.alloc zeroR).alloc (.cells #[.string name, .int .i64 fr, .int .i64 til] 170)).heap.size := by simp; omega
  have EF := hidp (peak_any (w := ((w.alloc zeroR).alloc (.cells #[.string name, .int .i64 fr, .int .i64 til] 170))) ⟨h.dk.later hX, h.of, h.wl, h.hl, h.inv⟩ name hn fr til hl)
  have HX := hidp (And.intro hX (And.intro (Q7.of hq) (And.intro (h.dk.none (Nat.le_refl _)) hs)))
  clear h hX hq hs
  unfold zeroR at EF HX
  have noThing : ∀ (xT : TypeId) (v : Value) (w : World), (Instr.typeAssert (.iface 170 v) xT 143 true).run Tryz.prog w = .ok (.tuple #[.agg #[.string ⟨#[]⟩, .int .i64 0], .bool false]) w := by intro xT v w; simp [Instr.typeAssert, go_sem, Result.andThen, run_underlying Tryz.underlying143]
  have noBook : ∀ (xT : TypeId) (v : Value) (w : World), (Instr.typeAssert (.iface 170 v) xT 148 true).run Tryz.prog w = .ok (.tuple #[.agg #[.string ⟨#[]⟩, .int .i64 0, .int .i64 0, .int .i64 0], .bool false]) w := by intro xT v w; simp [Instr.typeAssert, go_sem, Result.andThen, run_underlying Tryz.underlying148]
  have noHold : ∀ (xT : TypeId) (v : Value) (w : World), (Instr.typeAssert (.iface 170 v) xT 150 true).run Tryz.prog w = .ok (.tuple #[.agg #[.string ⟨#[]⟩, .int .i64 0, .int .i64 0, .int .i64 0, .int .i64 0], .bool false]) w := by intro xT v w; simp [Instr.typeAssert, go_sem, Result.andThen, run_underlying Tryz.underlying150]
  have noWait : ∀ (xT : TypeId) (v : Value) (w : World), (Instr.typeAssert (.iface 170 v) xT 151 true).run Tryz.prog w = .ok (.tuple #[.agg #[.string ⟨#[]⟩, .int .i64 0, .int .i64 0, .int .i64 0, .int .i64 0], .bool false]) w := by intro xT v w; simp [Instr.typeAssert, go_sem, Result.andThen, run_underlying Tryz.underlying151]
  have noSeries : ∀ (xT : TypeId) (v : Value) (w : World), (Instr.typeAssert (.iface 170 v) xT 159 true).run Tryz.prog w = .ok (.tuple #[.agg #[.string ⟨#[]⟩, .int .i64 0, .int .i64 0, .int .i64 0, .bool false, .bool false, .bool false, .bool false, .bool false, .bool false, .bool false, .int .i64 0, .int .i64 0, .int .i64 0, .int .i64 0, .int .i64 0], .bool false]) w := by intro xT v w; simp [Instr.typeAssert, go_sem, Result.andThen, run_underlying Tryz.underlying159]
  have noConfirm : ∀ (xT : TypeId) (v : Value) (w : World), (Instr.typeAssert (.iface 170 v) xT 161 true).run Tryz.prog w = .ok (.tuple #[.agg #[.int .i64 0], .bool false]) w := by intro xT v w; simp [Instr.typeAssert, go_sem, Result.andThen, run_underlying Tryz.underlying161]
  have noCancel : ∀ (xT : TypeId) (v : Value) (w : World), (Instr.typeAssert (.iface 170 v) xT 162 true).run Tryz.prog w = .ok (.tuple #[.agg #[.int .i64 0], .bool false]) w := by intro xT v w; simp [Instr.typeAssert, go_sem, Result.andThen, run_underlying Tryz.underlying162]
  have noList : ∀ (xT : TypeId) (v : Value) (w : World), (Instr.typeAssert (.iface 170 v) xT 164 true).run Tryz.prog w = .ok (.tuple #[.agg #[.string ⟨#[]⟩, .bool false, .int .i64 0, .int .i64 0], .bool false]) w := by intro xT v w; simp [Instr.typeAssert, go_sem, Result.andThen, run_underlying Tryz.underlying164]
  have noWaiting : ∀ (xT : TypeId) (v : Value) (w : World), (Instr.typeAssert (.iface 170 v) xT 167 true).run Tryz.prog w = .ok (.tuple #[.agg #[], .bool false]) w := by intro xT v w; simp [Instr.typeAssert, go_sem, Result.andThen, run_underlying Tryz.underlying167]
  have yesPeak : ∀ (xT : TypeId) (v : Value) (w : World), (Instr.typeAssert (.iface 170 v) xT 170 true).run Tryz.prog w = .ok (.tuple #[v, .bool true]) w := by intro xT v w; simp [Instr.typeAssert, go_sem, Result.andThen, run_underlying Tryz.underlying170]
  go_enter Tryz.func62, Tryz.ntmps62
  go_wp2_with fail
  refine EF.out.mono ?_
  rintro e w2 ⟨v, rfl, ep⟩
  obtain ⟨er, at_, nn, a1, a2, a3, a4, n1, n2, n3, n4, c1, c2, c3, c4, rfl, q7, hf⟩ := ep.up HX.out.1 (Nat.le_refl _) HX.out.2.2.2 HX.out.2.2.1 HX.out.2.1
  have HF := hidp (hf (.int .i64 er) (.int .i64 at_) (.int .i64 nn) (.slice a1 n1 c1) (.slice a2 n2 c2) (.slice a3 n3 c3) (.slice a4 n4 c4))
  clear ep hf EF noThing noBook noHold noWait noSeries noConfirm noCancel noList noWaiting yesPeak
  obtain ⟨q0, q1, q2, q3, q4, q5, q6, fq⟩ := q7
  simp only [repV]
  go_wp2_with fail
  exact bodyPost_ret (v := repV er at_ nn (.slice a1 n1 c1) (.slice a2 n2 c2) (.slice a3 n3 c3) (.slice a4 n4 c4)) (by simp [results, Tryz.results62, go_sem, repV, q0, q1, q2, q3, q4, q5, q6]) rfl ⟨_, rfl, HF.out⟩

set_option maxRecDepth 100000 in
set_option maxHeartbeats 4000000 in
theorem answer_find {w : World} {d : Nat} {s : St} {r : Raw} {col : Nat → Option Col} (h : DSt w d s r col) (name : ByteArray) (hn : name.size ≤ 1000) (u long fr til : Int) (hl : Desk.LineOk (.find name u long fr til)) :
    Calls Tryz.prog 62 #[.pointer (some ⟨d, 0, none⟩), .iface 172 (.agg #[.string name, .int .i64 u, .int .i64 long, .int .i64 fr, .int .i64 til])] w fun e w' => ∃ v, e = .returned v ∧ AnsPost w d col (Desk.doesD s (.find name u long fr til)) v w' := by
  have hX : Below w.heap.size w ((w.alloc zeroR).alloc (.cells #[.string name, .int .i64 u, .int .i64 long, .int .i64 fr, .int .i64 til] 172)) := ((Below.refl _ _).alloc (Nat.le_refl _) _).alloc (by simp) _
  have hq : ((w.alloc zeroR).alloc (.cells #[.string name, .int .i64 u, .int .i64 long, .int .i64 fr, .int .i64 til] 172)).heap[w.heap.size]? = some zeroR := (Below.heap_alloc _ _ _ (by simp)).trans (heapNew w zeroR)
  have hs : w.heap.size < ((w.alloc zeroR).alloc (.cells #[.string name, .int .i64 u, .int .i64 long, .int .i64 fr, .int .i64 til] 172)).heap.size := by simp; omega
  have EF := hidp (find_any (w := ((w.alloc zeroR).alloc (.cells #[.string name, .int .i64 u, .int .i64 long, .int .i64 fr, .int .i64 til] 172))) ⟨h.dk.later hX, h.of, h.wl, h.hl, h.inv⟩ name hn u long fr til hl)
  have HX := hidp (And.intro hX (And.intro (Q7.of hq) (And.intro (h.dk.none (Nat.le_refl _)) hs)))
  clear h hX hq hs
  unfold zeroR at EF HX
  have noThing : ∀ (xT : TypeId) (v : Value) (w : World), (Instr.typeAssert (.iface 172 v) xT 143 true).run Tryz.prog w = .ok (.tuple #[.agg #[.string ⟨#[]⟩, .int .i64 0], .bool false]) w := by intro xT v w; simp [Instr.typeAssert, go_sem, Result.andThen, run_underlying Tryz.underlying143]
  have noBook : ∀ (xT : TypeId) (v : Value) (w : World), (Instr.typeAssert (.iface 172 v) xT 148 true).run Tryz.prog w = .ok (.tuple #[.agg #[.string ⟨#[]⟩, .int .i64 0, .int .i64 0, .int .i64 0], .bool false]) w := by intro xT v w; simp [Instr.typeAssert, go_sem, Result.andThen, run_underlying Tryz.underlying148]
  have noHold : ∀ (xT : TypeId) (v : Value) (w : World), (Instr.typeAssert (.iface 172 v) xT 150 true).run Tryz.prog w = .ok (.tuple #[.agg #[.string ⟨#[]⟩, .int .i64 0, .int .i64 0, .int .i64 0, .int .i64 0], .bool false]) w := by intro xT v w; simp [Instr.typeAssert, go_sem, Result.andThen, run_underlying Tryz.underlying150]
  have noWait : ∀ (xT : TypeId) (v : Value) (w : World), (Instr.typeAssert (.iface 172 v) xT 151 true).run Tryz.prog w = .ok (.tuple #[.agg #[.string ⟨#[]⟩, .int .i64 0, .int .i64 0, .int .i64 0, .int .i64 0], .bool false]) w := by intro xT v w; simp [Instr.typeAssert, go_sem, Result.andThen, run_underlying Tryz.underlying151]
  have noSeries : ∀ (xT : TypeId) (v : Value) (w : World), (Instr.typeAssert (.iface 172 v) xT 159 true).run Tryz.prog w = .ok (.tuple #[.agg #[.string ⟨#[]⟩, .int .i64 0, .int .i64 0, .int .i64 0, .bool false, .bool false, .bool false, .bool false, .bool false, .bool false, .bool false, .int .i64 0, .int .i64 0, .int .i64 0, .int .i64 0, .int .i64 0], .bool false]) w := by intro xT v w; simp [Instr.typeAssert, go_sem, Result.andThen, run_underlying Tryz.underlying159]
  have noConfirm : ∀ (xT : TypeId) (v : Value) (w : World), (Instr.typeAssert (.iface 172 v) xT 161 true).run Tryz.prog w = .ok (.tuple #[.agg #[.int .i64 0], .bool false]) w := by intro xT v w; simp [Instr.typeAssert, go_sem, Result.andThen, run_underlying Tryz.underlying161]
  have noCancel : ∀ (xT : TypeId) (v : Value) (w : World), (Instr.typeAssert (.iface 172 v) xT 162 true).run Tryz.prog w = .ok (.tuple #[.agg #[.int .i64 0], .bool false]) w := by intro xT v w; simp [Instr.typeAssert, go_sem, Result.andThen, run_underlying Tryz.underlying162]
  have noList : ∀ (xT : TypeId) (v : Value) (w : World), (Instr.typeAssert (.iface 172 v) xT 164 true).run Tryz.prog w = .ok (.tuple #[.agg #[.string ⟨#[]⟩, .bool false, .int .i64 0, .int .i64 0], .bool false]) w := by intro xT v w; simp [Instr.typeAssert, go_sem, Result.andThen, run_underlying Tryz.underlying164]
  have noWaiting : ∀ (xT : TypeId) (v : Value) (w : World), (Instr.typeAssert (.iface 172 v) xT 167 true).run Tryz.prog w = .ok (.tuple #[.agg #[], .bool false]) w := by intro xT v w; simp [Instr.typeAssert, go_sem, Result.andThen, run_underlying Tryz.underlying167]
  have noPeak : ∀ (xT : TypeId) (v : Value) (w : World), (Instr.typeAssert (.iface 172 v) xT 170 true).run Tryz.prog w = .ok (.tuple #[.agg #[.string ⟨#[]⟩, .int .i64 0, .int .i64 0], .bool false]) w := by intro xT v w; simp [Instr.typeAssert, go_sem, Result.andThen, run_underlying Tryz.underlying170]
  have yesFind : ∀ (xT : TypeId) (v : Value) (w : World), (Instr.typeAssert (.iface 172 v) xT 172 true).run Tryz.prog w = .ok (.tuple #[v, .bool true]) w := by intro xT v w; simp [Instr.typeAssert, go_sem, Result.andThen, run_underlying Tryz.underlying172]
  go_enter Tryz.func62, Tryz.ntmps62
  go_wp2_with fail
  refine EF.out.mono ?_
  rintro e w2 ⟨v, rfl, ep⟩
  obtain ⟨er, at_, nn, a1, a2, a3, a4, n1, n2, n3, n4, c1, c2, c3, c4, rfl, q7, hf⟩ := ep.up HX.out.1 (Nat.le_refl _) HX.out.2.2.2 HX.out.2.2.1 HX.out.2.1
  have HF := hidp (hf (.int .i64 er) (.int .i64 at_) (.int .i64 nn) (.slice a1 n1 c1) (.slice a2 n2 c2) (.slice a3 n3 c3) (.slice a4 n4 c4))
  clear ep hf EF noThing noBook noHold noWait noSeries noConfirm noCancel noList noWaiting noPeak yesFind
  obtain ⟨q0, q1, q2, q3, q4, q5, q6, fq⟩ := q7
  simp only [repV]
  go_wp2_with fail
  exact bodyPost_ret (v := repV er at_ nn (.slice a1 n1 c1) (.slice a2 n2 c2) (.slice a3 n3 c3) (.slice a4 n4 c4)) (by simp [results, Tryz.results62, go_sem, repV, q0, q1, q2, q3, q4, q5, q6]) rfl ⟨_, rfl, HF.out⟩

set_option maxRecDepth 100000 in
set_option maxHeartbeats 4000000 in
theorem answer_tick {w : World} {d : Nat} {s : St} {r : Raw} {col : Nat → Option Col} (h : DSt w d s r col) (n : Int) (hn : 1 ≤ n ∧ n ≤ 1048320) :
    Calls Tryz.prog 62 #[.pointer (some ⟨d, 0, none⟩), .iface 176 (.agg #[.int .i64 n])] w fun e w' => ∃ v, e = .returned v ∧ AnsPost w d col (Desk.doesD s (.tick n)) v w' := by
  have hX : Below w.heap.size w ((w.alloc zeroR).alloc (.cells #[.int .i64 n] 176)) := ((Below.refl _ _).alloc (Nat.le_refl _) _).alloc (by simp) _
  have hq : ((w.alloc zeroR).alloc (.cells #[.int .i64 n] 176)).heap[w.heap.size]? = some zeroR := (Below.heap_alloc _ _ _ (by simp)).trans (heapNew w zeroR)
  have hs : w.heap.size < ((w.alloc zeroR).alloc (.cells #[.int .i64 n] 176)).heap.size := by simp; omega
  have EF := hidp (tick_ans (w := ((w.alloc zeroR).alloc (.cells #[.int .i64 n] 176))) ⟨h.dk.later hX, h.of, h.wl, h.hl, h.inv⟩ n hn)
  have HX := hidp (And.intro hX (And.intro (Q7.of hq) (And.intro (h.dk.none (Nat.le_refl _)) hs)))
  clear h hX hq hs
  unfold zeroR at EF HX
  have noThing : ∀ (xT : TypeId) (v : Value) (w : World), (Instr.typeAssert (.iface 176 v) xT 143 true).run Tryz.prog w = .ok (.tuple #[.agg #[.string ⟨#[]⟩, .int .i64 0], .bool false]) w := by intro xT v w; simp [Instr.typeAssert, go_sem, Result.andThen, run_underlying Tryz.underlying143]
  have noBook : ∀ (xT : TypeId) (v : Value) (w : World), (Instr.typeAssert (.iface 176 v) xT 148 true).run Tryz.prog w = .ok (.tuple #[.agg #[.string ⟨#[]⟩, .int .i64 0, .int .i64 0, .int .i64 0], .bool false]) w := by intro xT v w; simp [Instr.typeAssert, go_sem, Result.andThen, run_underlying Tryz.underlying148]
  have noHold : ∀ (xT : TypeId) (v : Value) (w : World), (Instr.typeAssert (.iface 176 v) xT 150 true).run Tryz.prog w = .ok (.tuple #[.agg #[.string ⟨#[]⟩, .int .i64 0, .int .i64 0, .int .i64 0, .int .i64 0], .bool false]) w := by intro xT v w; simp [Instr.typeAssert, go_sem, Result.andThen, run_underlying Tryz.underlying150]
  have noWait : ∀ (xT : TypeId) (v : Value) (w : World), (Instr.typeAssert (.iface 176 v) xT 151 true).run Tryz.prog w = .ok (.tuple #[.agg #[.string ⟨#[]⟩, .int .i64 0, .int .i64 0, .int .i64 0, .int .i64 0], .bool false]) w := by intro xT v w; simp [Instr.typeAssert, go_sem, Result.andThen, run_underlying Tryz.underlying151]
  have noSeries : ∀ (xT : TypeId) (v : Value) (w : World), (Instr.typeAssert (.iface 176 v) xT 159 true).run Tryz.prog w = .ok (.tuple #[.agg #[.string ⟨#[]⟩, .int .i64 0, .int .i64 0, .int .i64 0, .bool false, .bool false, .bool false, .bool false, .bool false, .bool false, .bool false, .int .i64 0, .int .i64 0, .int .i64 0, .int .i64 0, .int .i64 0], .bool false]) w := by intro xT v w; simp [Instr.typeAssert, go_sem, Result.andThen, run_underlying Tryz.underlying159]
  have noConfirm : ∀ (xT : TypeId) (v : Value) (w : World), (Instr.typeAssert (.iface 176 v) xT 161 true).run Tryz.prog w = .ok (.tuple #[.agg #[.int .i64 0], .bool false]) w := by intro xT v w; simp [Instr.typeAssert, go_sem, Result.andThen, run_underlying Tryz.underlying161]
  have noCancel : ∀ (xT : TypeId) (v : Value) (w : World), (Instr.typeAssert (.iface 176 v) xT 162 true).run Tryz.prog w = .ok (.tuple #[.agg #[.int .i64 0], .bool false]) w := by intro xT v w; simp [Instr.typeAssert, go_sem, Result.andThen, run_underlying Tryz.underlying162]
  have noList : ∀ (xT : TypeId) (v : Value) (w : World), (Instr.typeAssert (.iface 176 v) xT 164 true).run Tryz.prog w = .ok (.tuple #[.agg #[.string ⟨#[]⟩, .bool false, .int .i64 0, .int .i64 0], .bool false]) w := by intro xT v w; simp [Instr.typeAssert, go_sem, Result.andThen, run_underlying Tryz.underlying164]
  have noWaiting : ∀ (xT : TypeId) (v : Value) (w : World), (Instr.typeAssert (.iface 176 v) xT 167 true).run Tryz.prog w = .ok (.tuple #[.agg #[], .bool false]) w := by intro xT v w; simp [Instr.typeAssert, go_sem, Result.andThen, run_underlying Tryz.underlying167]
  have noPeak : ∀ (xT : TypeId) (v : Value) (w : World), (Instr.typeAssert (.iface 176 v) xT 170 true).run Tryz.prog w = .ok (.tuple #[.agg #[.string ⟨#[]⟩, .int .i64 0, .int .i64 0], .bool false]) w := by intro xT v w; simp [Instr.typeAssert, go_sem, Result.andThen, run_underlying Tryz.underlying170]
  have noFind : ∀ (xT : TypeId) (v : Value) (w : World), (Instr.typeAssert (.iface 176 v) xT 172 true).run Tryz.prog w = .ok (.tuple #[.agg #[.string ⟨#[]⟩, .int .i64 0, .int .i64 0, .int .i64 0, .int .i64 0], .bool false]) w := by intro xT v w; simp [Instr.typeAssert, go_sem, Result.andThen, run_underlying Tryz.underlying172]
  have noExpand : ∀ (xT : TypeId) (v : Value) (w : World), (Instr.typeAssert (.iface 176 v) xT 174 true).run Tryz.prog w = .ok (.tuple #[.agg #[.int .i64 0, .int .i64 0, .bool false, .bool false, .bool false, .bool false, .bool false, .bool false, .bool false, .int .i64 0, .int .i64 0, .int .i64 0, .int .i64 0, .int .i64 0], .bool false]) w := by intro xT v w; simp [Instr.typeAssert, go_sem, Result.andThen, run_underlying Tryz.underlying174]
  have yesTick : ∀ (xT : TypeId) (v : Value) (w : World), (Instr.typeAssert (.iface 176 v) xT 176 true).run Tryz.prog w = .ok (.tuple #[v, .bool true]) w := by intro xT v w; simp [Instr.typeAssert, go_sem, Result.andThen, run_underlying Tryz.underlying176]
  go_enter Tryz.func62, Tryz.ntmps62
  go_wp2_with fail
  refine EF.out.mono ?_
  rintro e w2 ⟨v, rfl, ep⟩
  obtain ⟨er, at_, nn, a1, a2, a3, a4, n1, n2, n3, n4, c1, c2, c3, c4, rfl, q7, hf⟩ := ep.up HX.out.1 (Nat.le_refl _) HX.out.2.2.2 HX.out.2.2.1 HX.out.2.1
  have HF := hidp (hf (.int .i64 er) (.int .i64 at_) (.int .i64 nn) (.slice a1 n1 c1) (.slice a2 n2 c2) (.slice a3 n3 c3) (.slice a4 n4 c4))
  clear ep hf EF noThing noBook noHold noWait noSeries noConfirm noCancel noList noWaiting noPeak noFind noExpand yesTick
  obtain ⟨q0, q1, q2, q3, q4, q5, q6, fq⟩ := q7
  simp only [repV]
  go_wp2_with fail
  exact bodyPost_ret (v := repV er at_ nn (.slice a1 n1 c1) (.slice a2 n2 c2) (.slice a3 n3 c3) (.slice a4 n4 c4)) (by simp [results, Tryz.results62, go_sem, repV, q0, q1, q2, q3, q4, q5, q6]) rfl ⟨_, rfl, HF.out⟩

end Go.Proofs.YtjfkfiffakbagaaGreatDoor


/-
  Package rules: isReached, later, spanOf, Spans.
-/
namespace Go.Proofs.YtjfkfiffakbagaaGreatDoor
open Go.RowKit

set_option maxHeartbeats 1000000 in
theorem isReached_any (y m : Int) (w : World) (ht : Tab w) :
    Calls Tryz.prog 290 #[.int .i64 y, .int .i64 m] w fun e w' => e = .returned (.bool (Rd.reached y m)) ∧ w' = w := by
  cases h : Cal.ok y m 1
  · have HC := hidp (calDay_no y m 1 w ht h)
    have e : Rd.reached y m = false := by unfold Rd.reached; rw [h]; rfl
    rw [e]
    clear h ht e
    go_enter Tryz.func290, Tryz.ntmps290
    go_wp2_with fail
    refine HC.out.mono ?_
    rintro e w1 ⟨rfl, rfl⟩
    go_wp2_with fail
    go_ret
    exact ⟨rfl, rfl⟩
  · have HC := hidp (calDay_yes y m 1 w ht h)
    have e : Rd.reached y m = decide (Cal.num y m 1 < 728) := by unfold Rd.reached; rw [h]; rfl
    rw [e]
    clear h ht e
    generalize Cal.num y m 1 = z at *
    go_enter Tryz.func290, Tryz.ntmps290
    go_wp2_with fail
    refine HC.out.mono ?_
    rintro e w1 ⟨rfl, rfl⟩
    go_wp2_with fail
    go_ret
    exact ⟨rfl, rfl⟩

set_option maxHeartbeats 1000000 in
theorem later_any (y m ev : Int) (w : World) (h1 : 0 ≤ y) (h2 : y ≤ 100000) (h3 : 1 ≤ m) (h4 : m ≤ 12) (h5 : 1 ≤ ev) (h6 : ev ≤ 99) :
    Calls Tryz.prog 291 #[.int .i64 y, .int .i64 m, .int .i64 ev] w fun e w' => e = .returned (.tuple #[.int .i64 (Rd.laterY y m ev), .int .i64 (Rd.laterM m ev)]) ∧ w' = w := by
  have k1 : IntKind.i64.wrap (m - 1) = m - 1 := wrap_small (by omega) (by omega)
  have k2 : IntKind.i64.wrap (m - 1 + ev) = m - 1 + ev := wrap_small (by omega) (by omega)
  have k3 : IntKind.i64.wrap ((m - 1 + ev).tdiv 12) = (m - 1 + ev) / 12 := by rw [Int.tdiv_eq_ediv_of_nonneg (by omega)]; exact wrap_small (by omega) (by omega)
  have k4 : IntKind.i64.wrap (y + (m - 1 + ev) / 12) = y + (m - 1 + ev) / 12 := wrap_small (by omega) (by omega)
  have k5 : (m - 1 + ev).tmod 12 = (m - 1 + ev) % 12 := Int.tmod_eq_emod_of_nonneg (by omega)
  have k6 : IntKind.i64.wrap ((m - 1 + ev) % 12) = (m - 1 + ev) % 12 := wrap_small (by omega) (by omega)
  have k7 : IntKind.i64.wrap ((m - 1 + ev) % 12 + 1) = (m - 1 + ev) % 12 + 1 := wrap_small (by omega) (by omega)
  unfold Rd.laterY Rd.laterM
  go_enter Tryz.func291, Tryz.ntmps291
  go_wp2_with fail
  go_ret2
  simp

/-- A rule as a value. -/
def ruleVR (r : Rd.Rule) : Value := .agg #[.int .i64 r.pc, .int .i64 r.ev, .bool (isd r.acc 0), .bool (isd r.acc 1), .bool (isd r.acc 2), .bool (isd r.acc 3), .bool (isd r.acc 4), .bool (isd r.acc 5), .bool (isd r.acc 6), .int .i64 r.fr, .int .i64 r.mn, .int .i64 r.mi, .int .i64 r.ti, .int .i64 r.un]
def spanD (r : Rd.Rule) (d : Int) : Int × Int := (d * 1440 + r.mn, d * 1440 + r.mn + r.mi)

set_option maxRecDepth 100000 in
set_option maxHeartbeats 1000000 in
theorem spanOf_any (r : Rd.Rule) (hf : Rd.Fine r) (d : Int) (h0 : 0 ≤ d) (h1 : d < 100000) (w : World) :
    Calls Tryz.prog 192 #[ruleVR r, .int .i64 d] w fun e w' => e = .returned (.agg #[.int .i64 (spanD r d).1, .int .i64 (spanD r d).2]) ∧ Below w.heap.size w w' := by
  have m0 := hf.m0
  have m1 := hf.m1
  have i1 := hf.i1
  have i2 := hf.i2
  have k1 : IntKind.i64.wrap (d * 1440) = d * 1440 := wrap_small (by omega) (by omega)
  have k2 : IntKind.i64.wrap (d * 1440 + r.mn) = d * 1440 + r.mn := wrap_small (by omega) (by omega)
  have k3 : IntKind.i64.wrap (d * 1440 + r.mn + r.mi) = d * 1440 + r.mn + r.mi := wrap_small (by omega) (by omega)
  have HF : Hid (Below w.heap.size w ((w.alloc (.cells #[.int .i64 r.pc, .int .i64 r.ev, .bool (isd r.acc 0), .bool (isd r.acc 1), .bool (isd r.acc 2), .bool (isd r.acc 3), .bool (isd r.acc 4), .bool (isd r.acc 5), .bool (isd r.acc 6), .int .i64 r.fr, .int .i64 r.mn, .int .i64 r.mi, .int .i64 r.ti, .int .i64 r.un] 156)).alloc (.cells #[.int .i64 (d * 1440 + r.mn), .int .i64 (d * 1440 + r.mn + r.mi)] 60))) := ((Below.refl _ _).alloc (Nat.le_refl _) _).alloc (by simp) _
  clear hf
  unfold ruleVR
  go_enter Tryz.func192, Tryz.ntmps192
  go_wp2_with fail
  exact bodyPost_ret (v := .agg #[.int .i64 (d * 1440 + r.mn), .int .i64 (d * 1440 + r.mn + r.mi)]) (by simp [results, Tryz.results192, go_sem]) rfl ⟨rfl, HF.out⟩

/-- A rule in a block. -/
def ruleO (r : Rd.Rule) : Obj := (.cells #[.int .i64 r.pc, .int .i64 r.ev, .bool (isd r.acc 0), .bool (isd r.acc 1), .bool (isd r.acc 2), .bool (isd r.acc 3), .bool (isd r.acc 4), .bool (isd r.acc 5), .bool (isd r.acc 6), .int .i64 r.fr, .int .i64 r.mn, .int .i64 r.mi, .int .i64 r.ti, .int .i64 r.un] 156 (0, 0))
theorem rule_c0 {w : World} {b : Nat} {r : Rd.Rule} (h : w.heap[b]? = some (ruleO r)) : w.cell? ⟨b, 0, none⟩ = some (.int .i64 r.pc) := by unfold ruleO at h; simp only [World.cell?, h]; rfl
theorem rule_c1 {w : World} {b : Nat} {r : Rd.Rule} (h : w.heap[b]? = some (ruleO r)) : w.cell? ⟨b, 1, none⟩ = some (.int .i64 r.ev) := by unfold ruleO at h; simp only [World.cell?, h]; rfl
theorem rule_c2 {w : World} {b : Nat} {r : Rd.Rule} (h : w.heap[b]? = some (ruleO r)) : w.cell? ⟨b, 2, none⟩ = some (.bool (isd r.acc 0)) := by unfold ruleO at h; simp only [World.cell?, h]; rfl
theorem rule_c3 {w : World} {b : Nat} {r : Rd.Rule} (h : w.heap[b]? = some (ruleO r)) : w.cell? ⟨b, 3, none⟩ = some (.bool (isd r.acc 1)) := by unfold ruleO at h; simp only [World.cell?, h]; rfl
theorem rule_c4 {w : World} {b : Nat} {r : Rd.Rule} (h : w.heap[b]? = some (ruleO r)) : w.cell? ⟨b, 4, none⟩ = some (.bool (isd r.acc 2)) := by unfold ruleO at h; simp only [World.cell?, h]; rfl
theorem rule_c5 {w : World} {b : Nat} {r : Rd.Rule} (h : w.heap[b]? = some (ruleO r)) : w.cell? ⟨b, 5, none⟩ = some (.bool (isd r.acc 3)) := by unfold ruleO at h; simp only [World.cell?, h]; rfl
theorem rule_c6 {w : World} {b : Nat} {r : Rd.Rule} (h : w.heap[b]? = some (ruleO r)) : w.cell? ⟨b, 6, none⟩ = some (.bool (isd r.acc 4)) := by unfold ruleO at h; simp only [World.cell?, h]; rfl
theorem rule_c7 {w : World} {b : Nat} {r : Rd.Rule} (h : w.heap[b]? = some (ruleO r)) : w.cell? ⟨b, 7, none⟩ = some (.bool (isd r.acc 5)) := by unfold ruleO at h; simp only [World.cell?, h]; rfl
theorem rule_c8 {w : World} {b : Nat} {r : Rd.Rule} (h : w.heap[b]? = some (ruleO r)) : w.cell? ⟨b, 8, none⟩ = some (.bool (isd r.acc 6)) := by unfold ruleO at h; simp only [World.cell?, h]; rfl
theorem rule_c9 {w : World} {b : Nat} {r : Rd.Rule} (h : w.heap[b]? = some (ruleO r)) : w.cell? ⟨b, 9, none⟩ = some (.int .i64 r.fr) := by unfold ruleO at h; simp only [World.cell?, h]; rfl
theorem rule_c10 {w : World} {b : Nat} {r : Rd.Rule} (h : w.heap[b]? = some (ruleO r)) : w.cell? ⟨b, 10, none⟩ = some (.int .i64 r.mn) := by unfold ruleO at h; simp only [World.cell?, h]; rfl
theorem rule_c11 {w : World} {b : Nat} {r : Rd.Rule} (h : w.heap[b]? = some (ruleO r)) : w.cell? ⟨b, 11, none⟩ = some (.int .i64 r.mi) := by unfold ruleO at h; simp only [World.cell?, h]; rfl
theorem rule_c12 {w : World} {b : Nat} {r : Rd.Rule} (h : w.heap[b]? = some (ruleO r)) : w.cell? ⟨b, 12, none⟩ = some (.int .i64 r.ti) := by unfold ruleO at h; simp only [World.cell?, h]; rfl
theorem rule_c13 {w : World} {b : Nat} {r : Rd.Rule} (h : w.heap[b]? = some (ruleO r)) : w.cell? ⟨b, 13, none⟩ = some (.int .i64 r.un) := by unfold ruleO at h; simp only [World.cell?, h]; rfl

end Go.Proofs.YtjfkfiffakbagaaGreatDoor


/-
  Package rules: the iterators over the days of a rule: daily.
-/
namespace Go.Proofs.YtjfkfiffakbagaaGreatDoor
open Go.RowKit Go.Shelf

attribute [local go_sem] Oper.semAt_some

/-- What a round that goes on keeps: what lay below, and the rule's block. -/
def RK (n₀ Bn : Nat) (W W' : World) : Prop := Below n₀ W W' ∧ W'.heap[Bn]? = W.heap[Bn]?

set_option maxRecDepth 100000 in
set_option maxHeartbeats 2000000 in
theorem daily1_in (F : Fence) (n : Nat) (h6 : F.fn 292) (hro : F.round = none) (hn : 1 ≤ n) (l Bn n₀ : Nat) (r : Rd.Rule) (hf : Rd.Fine r) (J Jx : List Int → World → Prop)
    (hY : ∀ pre x W, J pre W → pre.length < (Rd.seqD r.ev 800 r.fr).length → YieldAt F (n - 1) Tryz.prog l #[.int .i64 x] W fun e W' =>
      (e = .returned (.bool true) ∧ J (pre ++ [x]) W' ∧ RK n₀ Bn W W') ∨ (e = .returned (.bool false) ∧ Jx (pre ++ [x]) W'))
    (W : World) (hr : W.heap[Bn]? = some (ruleO r)) (h0 : J [] W) :
    CallsIn F n Tryz.prog 292 #[.func (.yield l) #[] #[], .pointer (some ⟨Bn, 0, none⟩)] W fun e W' => (∃ v, e = .returned v) ∧
      ((∃ ys, ys = Rd.seqD r.ev 800 r.fr ∧ J ys W') ∨ (∃ pre, pre <+: Rd.seqD r.ev 800 r.fr ∧ Jx pre W')) := by
  have c9 := rule_c9 hr
  have e1 := hf.e1
  have e2 := hf.e2
  have f0 := hf.f0
  have f1 := hf.f1
  clear hf
  generalize hS : Rd.seqD r.ev 800 r.fr = S at *
  refine callsIn_of_wp Tryz.func292 rfl h6 ?_ hro
  simp only [Tryz.ntmps292, List.size_toArray, List.length_cons, List.length_nil, Nat.reduceAdd, Nat.reduceSub, Array.replicate_succ, Array.replicate_zero, List.push_toArray, List.append_toArray, List.nil_append, List.cons_append]
  gi_wp2
  gi_loopw [3] (fun v wr => ∃ (d : Int) (f : Nat) (pre : List Int), v = .int .i64 d ∧ S = pre ++ Rd.seqD r.ev f d ∧ 0 ≤ d ∧ d ≤ 10000 ∧ 728 ≤ d + f ∧ J pre wr ∧ wr.heap[Bn]? = some (ruleO r)) (fun v _ => (20000 - intOf v).toNat)
  case atStart => exact ⟨r.fr, 800, [], rfl, hS.symm, f0, by omega, by omega, h0, hr⟩
  case round =>
    obtain ⟨d, f, pre, rfl, hx, hd0, hd1, hdf, hJ, hR⟩ := hrel
    by_cases hlt : d < 728
    · obtain ⟨f', rfl⟩ : ∃ f', f = f' + 1 := ⟨f - 1, by omega⟩
      have q1 : Rd.seqD r.ev (f' + 1) d = d :: Rd.seqD r.ev f' (d + r.ev) := by simp [Rd.seqD, hlt]
      rw [q1] at hx
      have k1 : IntKind.i64.wrap (d + r.ev) = d + r.ev := wrap_small (by omega) (by omega)
      obtain ⟨fn, tmps, assign, body, hy, hRd⟩ := hY pre d wr hJ (by rw [hx]; simp)
      gi_wp2
      refine hRd.mono ?_
      rintro e W3 (⟨rfl, hJ3, hk3⟩ | ⟨rfl, hJx3⟩)
      · have c1 := rule_c1 (hk3.2.trans hR)
        gi_wp2
        go_roundw
        case rel => exact ⟨d + r.ev, f', pre ++ [d], by simp, by simp [hx], by omega, by omega, by omega, hJ3, hk3.2.trans hR⟩
        case measure => simp [intOf]; omega
      · gi_wp2
        refine bodyPost_ret (results_none rfl _ _ _) rfl ?_
        exact ⟨⟨_, rfl⟩, .inr ⟨pre ++ [d], ⟨Rd.seqD r.ev f' (d + r.ev), by simp [hx]⟩, hJx3⟩⟩
    · have q1 : Rd.seqD r.ev f d = [] := by cases f <;> simp [Rd.seqD, hlt]
      rw [q1, List.append_nil] at hx
      subst hx
      gi_wp2
      go_end0
      exact ⟨⟨_, rfl⟩, .inl hJ⟩

end Go.Proofs.YtjfkfiffakbagaaGreatDoor

