/-
  Parts of the proof, one behind the other: RuleEnd, LineWalk, WordsSmall, ReadWalk, BookDo, RuleProg, RuleIt.
-/
import Derived.Test.YtjfkfiffakbagaaGreatDoorL12
import Derived.RangeFuncKeeps
import Derived.RangeFuncBound
import Derived.RangeFuncLeaves
import Derived.RangeFuncBox
import Derived.Shelf.Abstract
import Derived.OwnWalkIn
import Derived.TacticsInMore
import Derived.LoopNIn
import Derived.LoopIn
/-
  The reader's end of a rule.
-/
namespace Go.Proofs.YtjfkfiffakbagaaGreatDoor
open Go.RowKit

/-- What end reads, and where it leaves the reader. -/
inductive EndR (ws : List ByteArray) (st : Nat × Bool) : Int → Int → Nat × Bool → Prop where
  | times (h : isB ws st.1 st.2 timesW = true) : EndR ws st (valAt ws (nxt st) evB nvF) 0 (stps ws [evB] (nxt st))
  | til (h1 : isB ws st.1 st.2 timesW = false) (h : isB ws st.1 st.2 untilW = true) : EndR ws st 0 (valAt ws (nxt st) Txt.dayB dayV) (stps ws [Txt.dayB] (nxt st))
  | none (h1 : isB ws st.1 st.2 timesW = false) (h : isB ws st.1 st.2 untilW = false) : EndR ws st 0 0 (st.1, true)

set_option maxRecDepth 100000 in
set_option maxHeartbeats 2000000 in
theorem rend_any (R A P : Nat) (ws : List ByteArray) (st : Nat × Bool) (w : World) (pc ev : Int) (acc : List Int) (fr mn mi : Int) (h : RS w R A ws st.1 st.2) (he : Env w) (hR : 10 ≤ R) (hPR : P ≠ R) (hPA : 0 < ws.length → P ≠ A) (hl : RL w P (rv pc ev acc fr mn mi 0 0)) :
    Calls Tryz.prog 135 #[.pointer (some ⟨R, 0, none⟩), .pointer (some ⟨P, 0, none⟩)] w fun e w' =>
      ∃ (ti un : Int) (s : Nat × Bool), e = .returned (.tuple #[]) ∧ EndR ws st ti un s ∧ RS w' R A ws s.1 s.2 ∧ RL w' P (rv pc ev acc fr mn mi ti un) ∧ Kept2 R P w w' := by
  have HE := hide he
  clear he
  go_enter Tryz.func135, Tryz.ntmps135
  go_wp2_with fail
  refine (is_any R A ws st.1 st.2 timesW w h).mono ?_
  rintro e w1 ⟨rfl, h1, k1⟩
  have kk1 := k1.two P
  have l1 := hl.kept k1 hPR
  have E1 := hide ((unhide HE).kept k1 hR)
  clear h hl k1
  cases hd : isB ws st.1 st.2 timesW
  · rw [hd] at h1
    go_wp2_with fail
    refine (is_any R A ws st.1 st.2 untilW w1 h1).mono ?_
    rintro e w2 ⟨rfl, h2, k2⟩
    have kk2 := kk1.trans (k2.two P)
    have l2 := l1.kept k2 hPR
    have E2 := hide ((unhide E1).kept k2 hR)
    clear h1 kk1 l1 k2
    cases hw : isB ws st.1 st.2 untilW
    · rw [hw] at h2
      have c2 := h2.c2
      have f2 := h2.f2
      go_wp2
      go_end0
      exact ⟨0, 0, (st.1, true), rfl, .none hd hw, h2.bad, l2.other hPR.symm, kk2.setR _ _⟩
    · rw [hw, if_pos rfl] at h2
      go_wp2_with fail
      refine (takeDate_any R A ws (st.1 + 1) st.2 w2 h2 (unhide E2)).mono ?_
      rintro e w5 ⟨rfl, h5, k5⟩
      have kk5 := kk2.trans (k5.two P)
      have l5 := l2.kept k5 hPR
      clear h2 kk2 l2 k5
      have p1 := l5.c 13 (by omega)
      have pf := l5.f
      go_wp2
      go_end0
      exact ⟨0, valAt ws (nxt st) Txt.dayB dayV, stps ws [Txt.dayB] (nxt st), rfl, .til hd hw, h5.other hPR hPA, rl_set13 l5 _, kk5.setP _ _⟩
  · rw [hd, if_pos rfl] at h1
    go_wp2_with fail
    refine (rnumber_any 1 99 R A ws (st.1 + 1) st.2 w1 h1).mono ?_
    rintro e w5 ⟨rfl, h5, k5⟩
    have kk5 := kk1.trans (k5.two P)
    have l5 := l1.kept k5 hPR
    clear h1 kk1 l1 k5
    have p1 := l5.c 12 (by omega)
    have pf := l5.f
    go_wp2
    go_end0
    exact ⟨valAt ws (nxt st) evB nvF, 0, stps ws [evB] (nxt st), rfl, .times hd, h5.other hPR hPA, rl_set12 l5 _, kk5.setP _ _⟩

/-- What a rule reads between pace and end: the states of the reader behind each word. -/
def midSt (ws : List ByteArray) (s : Nat × Bool) : Nat × Bool := stps ws [litB fromW, Txt.dayB, litB atW, Txt.minB, litB forW, miB] s
/-- What a rule reads, and where it leaves the reader. -/
inductive RuleR (ws : List ByteArray) (st : Nat × Bool) : Int → Int → List Int → Int → Int → Int → Int → Int → Nat × Bool → Prop where
  | mk (pc ev : Int) (acc : List Int) (s : Nat × Bool) (ti un : Int) (s' : Nat × Bool) (hp : PaceR ws st pc ev acc s) (he : EndR ws (midSt ws s) ti un s') :
      RuleR ws st pc ev acc (valAt ws (stps ws [litB fromW] s) Txt.dayB dayV) (valAt ws (stps ws [litB fromW, Txt.dayB, litB atW] s) Txt.minB Txt.minV) (valAt ws (stps ws [litB fromW, Txt.dayB, litB atW, Txt.minB, litB forW] s) miB nvF) ti un s'

theorem RL.kept2 {R Q : Nat} {w w' : World} {P : Nat} {v : Nat → Value} (h : RL w P v) (k : Kept2 R Q w w') (hb : P ≠ R) (hq : P ≠ Q) : RL w' P v :=
  ⟨fun j hj => (World.cell?_of_block (w := w) (k.block P h.lt hb hq)).trans (h.c j hj), fun j => (World.frozen?_of_block (w := w) (k.block P h.lt hb hq)).trans (h.f j)⟩

def ruleV (pc ev : Int) (acc : List Int) (fr mn mi ti un : Int) : Value :=
  .agg #[.int .i64 pc, .int .i64 ev, .bool (isd acc 0), .bool (isd acc 1), .bool (isd acc 2), .bool (isd acc 3), .bool (isd acc 4), .bool (isd acc 5), .bool (isd acc 6), .int .i64 fr, .int .i64 mn, .int .i64 mi, .int .i64 ti, .int .i64 un]

set_option maxRecDepth 100000 in
set_option maxHeartbeats 2000000 in
theorem rrule_any (R A : Nat) (ws : List ByteArray) (st : Nat × Bool) (w : World) (h : RS w R A ws st.1 st.2) (he : Env w) (hR : 10 ≤ R) :
    Calls Tryz.prog 87 #[.pointer (some ⟨R, 0, none⟩)] w fun e w' =>
      ∃ (pc ev : Int) (acc : List Int) (fr mn mi ti un : Int) (s : Nat × Bool), e = .returned (ruleV pc ev acc fr mn mi ti un) ∧ RuleR ws st pc ev acc fr mn mi ti un s ∧ RS w' R A ws s.1 s.2 ∧ Kept R w w' := by
  have HE := hide he
  clear he
  go_enter Tryz.func87, Tryz.ntmps87
  go_wp2_with fail
  obtain ⟨hRl, hAl⟩ := h.lt
  obtain ⟨X, hX⟩ : ∃ X, X = (w.alloc (.cells #[.int .i64 0, .int .i64 0, .bool false, .bool false, .bool false, .bool false, .bool false, .bool false, .bool false, .int .i64 0, .int .i64 0, .int .i64 0, .int .i64 0, .int .i64 0] 156)).alloc (.cells #[.int .i64 0, .int .i64 0, .bool false, .bool false, .bool false, .bool false, .bool false, .bool false, .bool false, .int .i64 0, .int .i64 0, .int .i64 0, .int .i64 0, .int .i64 0] 156) := ⟨_, rfl⟩
  rw [← hX]
  have hB : Below w.heap.size w X := by rw [hX]; exact ((Below.refl _ _).alloc (Nat.le_refl _) _).alloc (by simp) _
  have hZ : w.heap.size + 2 = X.heap.size := by rw [hX]; simp
  have gX : RL X w.heap.size (rv 0 0 [] 0 0 0 0 0) := by
    rw [hX]
    refine ⟨lt14 ?_ ?_ ?_ ?_ ?_ ?_ ?_ ?_ ?_ ?_ ?_ ?_ ?_ ?_, fun j => ?_⟩ <;> simp [rv, isd]
  have lX : RL X (w.heap.size + 1) (rv 0 0 [] 0 0 0 0 0) := by
    rw [hX]
    refine ⟨lt14 ?_ ?_ ?_ ?_ ?_ ?_ ?_ ?_ ?_ ?_ ?_ ?_ ?_ ?_, fun j => ?_⟩ <;> simp [rv, isd]
  clear hX
  have eX := (unhide HE).later hB
  have hs10 := (unhide HE).size
  have kX := Kept.of_below (R := R) hB
  have hPR : w.heap.size + 1 ≠ R := by omega
  have hPA : 0 < ws.length → w.heap.size + 1 ≠ A := fun hq => by have := hAl hq; omega
  have hGR : w.heap.size ≠ R := by omega
  have hGA : 0 < ws.length → w.heap.size ≠ A := fun hq => by have := hAl hq; omega
  obtain ⟨P, hP⟩ : ∃ P, P = w.heap.size + 1 := ⟨_, rfl⟩
  rw [← hP] at lX hPR hPA ⊢
  obtain ⟨G, hG⟩ : ∃ G, G = w.heap.size := ⟨_, rfl⟩
  rw [← hG] at gX hGR hGA ⊢
  have hGP : G ≠ P := by omega
  have hP1 : w.heap.size ≤ P := by omega
  have hG1 : w.heap.size ≤ G := by omega
  have hP10 : 10 ≤ P := by omega
  clear hP hG
  refine (rpace_any R A P ws st X (h.of_below hB) eX hR hP10 hPR hPA lX).mono ?_
  rintro e w1 ⟨pc, ev, acc, s, rfl, hp, h1, l1, k1⟩
  have g1 := gX.kept2 k1 hGR hGP
  have kt := Kept2.one kX k1 hP1
  have E1 := hide ((unhide HE).kept kt hR)
  have HPA := hide hp
  clear gX lX k1 eX hp h
  go_wp2_with fail
  refine (must_any R A ws _ _ fromW w1 h1).mono ?_
  rintro e w2 ⟨rfl, h2', k2⟩
  have h2 : RS w2 R A ws (stps ws [litB fromW] s).1 (stps ws [litB fromW] s).2 := h2'
  have l2 := l1.kept k2 hPR
  have g2 := g1.kept k2 hGR
  have kt2 := kt.trans k2
  have E2 := hide ((unhide E1).kept k2 hR)
  clear h1 h2' l1 g1 kt k2 E1
  go_wp2_with fail
  refine (takeDate_any R A ws _ _ w2 h2 (unhide E2)).mono ?_
  rintro e w3 ⟨rfl, h3', k3⟩
  have h3 : RS w3 R A ws (stps ws [litB fromW, Txt.dayB] s).1 (stps ws [litB fromW, Txt.dayB] s).2 := h3'
  have l3 := l2.kept k3 hPR
  have g3 := g2.kept k3 hGR
  have kt3 := kt2.trans k3
  have E3 := hide ((unhide E2).kept k3 hR)
  clear h2 h3' l2 g2 kt2 k3 E2
  have p3 := l3.c 9 (by omega)
  have pf3 := l3.f
  have h4 := h3.other (b := P) (o := 9) (v := .int .i64 (valAt ws (stps ws [litB fromW] s) Txt.dayB dayV)) hPR hPA
  have l4 := rl_set9 l3 (valAt ws (stps ws [litB fromW] s) Txt.dayB dayV)
  have g4 := g3.other (b := P) (o := 9) (x := .int .i64 (valAt ws (stps ws [litB fromW] s) Txt.dayB dayV)) hGP.symm
  have kt4 := kt3.setNew (b := P) (o := 9) hP1 (.int .i64 (valAt ws (stps ws [litB fromW] s) Txt.dayB dayV))
  have E4 := hide ((unhide HE).kept kt4 hR)
  go_wp2_with fail
  refine (must_any R A ws _ _ atW _ h4).mono ?_
  rintro e w5 ⟨rfl, h5', k5⟩
  have h5 : RS w5 R A ws (stps ws [litB fromW, Txt.dayB, litB atW] s).1 (stps ws [litB fromW, Txt.dayB, litB atW] s).2 := h5'
  have l5 := l4.kept k5 hPR
  have g5 := g4.kept k5 hGR
  have kt5 := kt4.trans k5
  have E5 := hide ((unhide E4).kept k5 hR)
  clear h4 h5' l4 g4 kt4 k5 E4
  go_wp2_with fail
  refine (takeMinute_any R A ws _ _ w5 h5).mono ?_
  rintro e w6 ⟨rfl, h6', k6⟩
  have h6 : RS w6 R A ws (stps ws [litB fromW, Txt.dayB, litB atW, Txt.minB] s).1 (stps ws [litB fromW, Txt.dayB, litB atW, Txt.minB] s).2 := h6'
  have l6 := l5.kept k6 hPR
  have g6 := g5.kept k6 hGR
  have kt6 := kt5.trans k6
  have E6 := hide ((unhide E5).kept k6 hR)
  clear h5 h6' l5 g5 kt5 k6 E5
  have p6 := l6.c 10 (by omega)
  have pf6 := l6.f
  have h7 := h6.other (b := P) (o := 10) (v := .int .i64 (valAt ws (stps ws [litB fromW, Txt.dayB, litB atW] s) Txt.minB Txt.minV)) hPR hPA
  have l7 := rl_set10 l6 (valAt ws (stps ws [litB fromW, Txt.dayB, litB atW] s) Txt.minB Txt.minV)
  have g7 := g6.other (b := P) (o := 10) (x := .int .i64 (valAt ws (stps ws [litB fromW, Txt.dayB, litB atW] s) Txt.minB Txt.minV)) hGP.symm
  have kt7 := kt6.setNew (b := P) (o := 10) hP1 (.int .i64 (valAt ws (stps ws [litB fromW, Txt.dayB, litB atW] s) Txt.minB Txt.minV))
  have E7 := hide ((unhide HE).kept kt7 hR)
  go_wp2_with fail
  refine (must_any R A ws _ _ forW _ h7).mono ?_
  rintro e w8 ⟨rfl, h8', k8⟩
  have h8 : RS w8 R A ws (stps ws [litB fromW, Txt.dayB, litB atW, Txt.minB, litB forW] s).1 (stps ws [litB fromW, Txt.dayB, litB atW, Txt.minB, litB forW] s).2 := h8'
  have l8 := l7.kept k8 hPR
  have g8 := g7.kept k8 hGR
  have kt8 := kt7.trans k8
  have E8 := hide ((unhide E7).kept k8 hR)
  clear h7 h8' l7 g7 kt7 k8 E7
  go_wp2_with fail
  refine (rminutes_any R A ws _ _ w8 h8).mono ?_
  rintro e w9 ⟨rfl, h9', k9⟩
  have h9 : RS w9 R A ws (stps ws [litB fromW, Txt.dayB, litB atW, Txt.minB, litB forW, miB] s).1 (stps ws [litB fromW, Txt.dayB, litB atW, Txt.minB, litB forW, miB] s).2 := h9'
  have l9 := l8.kept k9 hPR
  have g9 := g8.kept k9 hGR
  have kt9 := kt8.trans k9
  have E9 := hide ((unhide E8).kept k9 hR)
  clear h8 h9' l8 g8 kt8 k9 E8
  have p9 := l9.c 11 (by omega)
  have pf9 := l9.f
  have h10 := h9.other (b := P) (o := 11) (v := .int .i64 (valAt ws (stps ws [litB fromW, Txt.dayB, litB atW, Txt.minB, litB forW] s) miB nvF)) hPR hPA
  have l10 := rl_set11 l9 (valAt ws (stps ws [litB fromW, Txt.dayB, litB atW, Txt.minB, litB forW] s) miB nvF)
  have g10 := g9.other (b := P) (o := 11) (x := .int .i64 (valAt ws (stps ws [litB fromW, Txt.dayB, litB atW, Txt.minB, litB forW] s) miB nvF)) hGP.symm
  have kt10 := kt9.setNew (b := P) (o := 11) hP1 (.int .i64 (valAt ws (stps ws [litB fromW, Txt.dayB, litB atW, Txt.minB, litB forW] s) miB nvF))
  have E10 := hide ((unhide HE).kept kt10 hR)
  go_wp2_with fail
  refine (rend_any R A P ws (midSt ws s) _ pc ev acc _ _ _ h10 (unhide E10) hR hPR hPA l10).mono ?_
  rintro e w20 ⟨ti, un, s', rfl, hen, h20, l20, k20⟩
  have g20 := g10.kept2 k20 hGR hGP
  have kt20 := Kept2.one kt10 k20 hP1
  have HEN := hide hen
  clear h10 l10 g10 kt10 k20 E10 hen
  obtain ⟨fr, hfr⟩ : ∃ fr, fr = valAt ws (stps ws [litB fromW] s) Txt.dayB dayV := ⟨_, rfl⟩
  obtain ⟨mn, hmn⟩ : ∃ mn, mn = valAt ws (stps ws [litB fromW, Txt.dayB, litB atW] s) Txt.minB Txt.minV := ⟨_, rfl⟩
  obtain ⟨mi, hmi⟩ : ∃ mi, mi = valAt ws (stps ws [litB fromW, Txt.dayB, litB atW, Txt.minB, litB forW] s) miB nvF := ⟨_, rfl⟩
  rw [← hfr, ← hmn, ← hmi] at l20
  have HRU : Hid (RuleR ws st pc ev acc fr mn mi ti un s') := by
    show RuleR ws st pc ev acc fr mn mi ti un s'
    rw [hfr, hmn, hmi]; exact .mk pc ev acc s ti un s' HPA.out HEN.out
  clear hfr hmn hmi HPA HEN
  have q0 : w20.cell? ⟨P, 0, none⟩ = some (.int .i64 pc) := l20.c 0 (by omega)
  have q1 : w20.cell? ⟨P, 1, none⟩ = some (.int .i64 ev) := l20.c 1 (by omega)
  have q2 : w20.cell? ⟨P, 2, none⟩ = some (.bool (isd acc 0)) := l20.c 2 (by omega)
  have q3 : w20.cell? ⟨P, 3, none⟩ = some (.bool (isd acc 1)) := l20.c 3 (by omega)
  have q4 : w20.cell? ⟨P, 4, none⟩ = some (.bool (isd acc 2)) := l20.c 4 (by omega)
  have q5 : w20.cell? ⟨P, 5, none⟩ = some (.bool (isd acc 3)) := l20.c 5 (by omega)
  have q6 : w20.cell? ⟨P, 6, none⟩ = some (.bool (isd acc 4)) := l20.c 6 (by omega)
  have q7 : w20.cell? ⟨P, 7, none⟩ = some (.bool (isd acc 5)) := l20.c 7 (by omega)
  have q8 : w20.cell? ⟨P, 8, none⟩ = some (.bool (isd acc 6)) := l20.c 8 (by omega)
  have q9 : w20.cell? ⟨P, 9, none⟩ = some (.int .i64 fr) := l20.c 9 (by omega)
  have q10 : w20.cell? ⟨P, 10, none⟩ = some (.int .i64 mn) := l20.c 10 (by omega)
  have q11 : w20.cell? ⟨P, 11, none⟩ = some (.int .i64 mi) := l20.c 11 (by omega)
  have q12 : w20.cell? ⟨P, 12, none⟩ = some (.int .i64 ti) := l20.c 12 (by omega)
  have q13 : w20.cell? ⟨P, 13, none⟩ = some (.int .i64 un) := l20.c 13 (by omega)
  have r0 : w20.cell? ⟨G, 0, none⟩ = some (.int .i64 0) := g20.c 0 (by omega)
  have r1 : w20.cell? ⟨G, 1, none⟩ = some (.int .i64 0) := g20.c 1 (by omega)
  have r2 : w20.cell? ⟨G, 2, none⟩ = some (.bool false) := g20.c 2 (by omega)
  have r3 : w20.cell? ⟨G, 3, none⟩ = some (.bool false) := g20.c 3 (by omega)
  have r4 : w20.cell? ⟨G, 4, none⟩ = some (.bool false) := g20.c 4 (by omega)
  have r5 : w20.cell? ⟨G, 5, none⟩ = some (.bool false) := g20.c 5 (by omega)
  have r6 : w20.cell? ⟨G, 6, none⟩ = some (.bool false) := g20.c 6 (by omega)
  have r7 : w20.cell? ⟨G, 7, none⟩ = some (.bool false) := g20.c 7 (by omega)
  have r8 : w20.cell? ⟨G, 8, none⟩ = some (.bool false) := g20.c 8 (by omega)
  have r9 : w20.cell? ⟨G, 9, none⟩ = some (.int .i64 0) := g20.c 9 (by omega)
  have r10 : w20.cell? ⟨G, 10, none⟩ = some (.int .i64 0) := g20.c 10 (by omega)
  have r11 : w20.cell? ⟨G, 11, none⟩ = some (.int .i64 0) := g20.c 11 (by omega)
  have r12 : w20.cell? ⟨G, 12, none⟩ = some (.int .i64 0) := g20.c 12 (by omega)
  have r13 : w20.cell? ⟨G, 13, none⟩ = some (.int .i64 0) := g20.c 13 (by omega)
  have rf := g20.f
  have H20 := hide h20
  clear h20 l20 g20
  go_wp2
  refine bodyPost_ret (v := ruleV pc ev acc fr mn mi ti un) (by simp [results, Tryz.results87, go_sem, ruleV, r0, r1, r2, r3, r4, r5, r6, r7, r8, r9, r10, r11, r12, r13]) rfl ⟨pc, ev, acc, fr, mn, mi, ti, un, s', rfl, HRU.out, ?_, ?_⟩
  · exact (((((((((((((((unhide H20).other hGR hGA).other hGR hGA).other hGR hGA).other hGR hGA).other hGR hGA).other hGR hGA).other hGR hGA).other hGR hGA).other hGR hGA).other hGR hGA).other hGR hGA).other hGR hGA).other hGR hGA).other hGR hGA)
  · exact ((((((((((((((kt20.setNew hG1 _).setNew hG1 _).setNew hG1 _).setNew hG1 _).setNew hG1 _).setNew hG1 _).setNew hG1 _).setNew hG1 _).setNew hG1 _).setNew hG1 _).setNew hG1 _).setNew hG1 _).setNew hG1 _).setNew hG1 _)

end Go.Proofs.YtjfkfiffakbagaaGreatDoor


/-
  The reader's line.
-/
namespace Go.Proofs.YtjfkfiffakbagaaGreatDoor
open Go.RowKit

def thingW : ByteArray := ⟨#[116, 104, 105, 110, 103]⟩
def bookW : ByteArray := ⟨#[98, 111, 111, 107]⟩
def holdW : ByteArray := ⟨#[104, 111, 108, 100]⟩
def waitW : ByteArray := ⟨#[119, 97, 105, 116]⟩
def seriesW : ByteArray := ⟨#[115, 101, 114, 105, 101, 115]⟩
def confirmW : ByteArray := ⟨#[99, 111, 110, 102, 105, 114, 109]⟩
def cancelW : ByteArray := ⟨#[99, 97, 110, 99, 101, 108]⟩
def listW : ByteArray := ⟨#[108, 105, 115, 116]⟩
def waitingW : ByteArray := ⟨#[119, 97, 105, 116, 105, 110, 103]⟩
def peakW : ByteArray := ⟨#[112, 101, 97, 107]⟩
def findW : ByteArray := ⟨#[102, 105, 110, 100]⟩
def expandW : ByteArray := ⟨#[101, 120, 112, 97, 110, 100]⟩
def tickW : ByteArray := ⟨#[116, 105, 99, 107]⟩
def clockW : ByteArray := ⟨#[99, 108, 111, 99, 107]⟩
def idB (s : ByteArray) : Bool := Txt.isNum s.data.toList

/-- What line reads, and where it leaves the reader. -/
inductive LineR (ws : List ByteArray) : Value → Nat × Bool → Prop where
  | thing (h : isB ws 0 false thingW = true) : LineR ws (.iface 143 (.agg #[.string (claimS ws (1, false)), .int .i64 (valAt ws (stps ws [nmB] (1, false)) unB nvF)])) (stps ws [nmB, unB] (1, false))
  | book (h : isB ws 0 false bookW = true) : LineR ws (.iface 148 (.agg #[.string (claimS ws (1, false)), .int .i64 (valAt ws (stps ws [nmB] (1, false)) unB nvF), .int .i64 (valAt ws (stps ws [nmB, unB] (1, false)) timeB timW), .int .i64 (valAt ws (stps ws [nmB, unB, timeB] (1, false)) timeB timW)])) (stps ws [nmB, unB, timeB, timeB] (1, false))
  | hold (h : isB ws 0 false holdW = true) : LineR ws (.iface 150 (.agg #[.string (claimS ws (1, false)), .int .i64 (valAt ws (stps ws [nmB] (1, false)) unB nvF), .int .i64 (valAt ws (stps ws [nmB, unB] (1, false)) timeB timW), .int .i64 (valAt ws (stps ws [nmB, unB, timeB] (1, false)) timeB timW), .int .i64 (valAt ws (stps ws [nmB, unB, timeB, timeB] (1, false)) miB nvF)])) (stps ws [nmB, unB, timeB, timeB, miB] (1, false))
  | wait (h : isB ws 0 false waitW = true) : LineR ws (.iface 151 (.agg #[.string (claimS ws (1, false)), .int .i64 (valAt ws (stps ws [nmB] (1, false)) unB nvF), .int .i64 (valAt ws (stps ws [nmB, unB] (1, false)) timeB timW), .int .i64 (valAt ws (stps ws [nmB, unB, timeB] (1, false)) timeB timW), .int .i64 (valAt ws (stps ws [nmB, unB, timeB, timeB] (1, false)) miB nvF)])) (stps ws [nmB, unB, timeB, timeB, miB] (1, false))
  | series (h : isB ws 0 false seriesW = true) (pc ev : Int) (acc : List Int) (fr mn mi ti un : Int) (s : Nat × Bool) (hr : RuleR ws (stps ws [nmB, unB] (1, false)) pc ev acc fr mn mi ti un s) : LineR ws (.iface 159 (.agg #[.string (claimS ws (1, false)), .int .i64 (valAt ws (stps ws [nmB] (1, false)) unB nvF), .int .i64 pc, .int .i64 ev, .bool (isd acc 0), .bool (isd acc 1), .bool (isd acc 2), .bool (isd acc 3), .bool (isd acc 4), .bool (isd acc 5), .bool (isd acc 6), .int .i64 fr, .int .i64 mn, .int .i64 mi, .int .i64 ti, .int .i64 un])) s
  | confirm (h : isB ws 0 false confirmW = true) : LineR ws (.iface 161 (.agg #[.int .i64 (valAt ws (1, false) idB nvF)])) (stps ws [idB] (1, false))
  | cancel (h : isB ws 0 false cancelW = true) : LineR ws (.iface 162 (.agg #[.int .i64 (valAt ws (1, false) idB nvF)])) (stps ws [idB] (1, false))
  | list0 (h : isB ws 0 false listW = true) (hm : moreB ws.length (stps ws [nmB] (1, false)).1 (stps ws [nmB] (1, false)).2 = false) : LineR ws (.iface 164 (.agg #[.string (claimS ws (1, false)), .bool false, .int .i64 0, .int .i64 0])) (stps ws [nmB] (1, false))
  | list1 (h : isB ws 0 false listW = true) (hm : moreB ws.length (stps ws [nmB] (1, false)).1 (stps ws [nmB] (1, false)).2 = true) : LineR ws (.iface 164 (.agg #[.string (claimS ws (1, false)), .bool true, .int .i64 (valAt ws (stps ws [nmB] (1, false)) timeB timW), .int .i64 (valAt ws (stps ws [nmB, timeB] (1, false)) timeB timW)])) (stps ws [nmB, timeB, timeB] (1, false))
  | waiting (h : isB ws 0 false waitingW = true) : LineR ws (.iface 167 (.agg #[])) (1, false)
  | peak (h : isB ws 0 false peakW = true) : LineR ws (.iface 170 (.agg #[.string (claimS ws (1, false)), .int .i64 (valAt ws (stps ws [nmB] (1, false)) timeB timW), .int .i64 (valAt ws (stps ws [nmB, timeB] (1, false)) timeB timW)])) (stps ws [nmB, timeB, timeB] (1, false))
  | find (h : isB ws 0 false findW = true) : LineR ws (.iface 172 (.agg #[.string (claimS ws (1, false)), .int .i64 (valAt ws (stps ws [nmB] (1, false)) unB nvF), .int .i64 (valAt ws (stps ws [nmB, unB] (1, false)) miB nvF), .int .i64 (valAt ws (stps ws [nmB, unB, miB] (1, false)) timeB timW), .int .i64 (valAt ws (stps ws [nmB, unB, miB, timeB] (1, false)) timeB timW)])) (stps ws [nmB, unB, miB, timeB, timeB] (1, false))
  | expand (h : isB ws 0 false expandW = true) (pc ev : Int) (acc : List Int) (fr mn mi ti un : Int) (s : Nat × Bool) (hr : RuleR ws (1, false) pc ev acc fr mn mi ti un s) : LineR ws (.iface 174 (.agg #[.int .i64 pc, .int .i64 ev, .bool (isd acc 0), .bool (isd acc 1), .bool (isd acc 2), .bool (isd acc 3), .bool (isd acc 4), .bool (isd acc 5), .bool (isd acc 6), .int .i64 fr, .int .i64 mn, .int .i64 mi, .int .i64 ti, .int .i64 un])) s
  | tick (h : isB ws 0 false tickW = true) : LineR ws (.iface 176 (.agg #[.int .i64 (valAt ws (1, false) miB nvF)])) (stps ws [miB] (1, false))
  | clock (h : isB ws 0 false clockW = true) : LineR ws (.iface 177 (.agg #[])) (1, false)
  | none (h0 : isB ws 0 false thingW = false) (h1 : isB ws 0 false bookW = false) (h2 : isB ws 0 false holdW = false) (h3 : isB ws 0 false waitW = false) (h4 : isB ws 0 false seriesW = false) (h5 : isB ws 0 false confirmW = false) (h6 : isB ws 0 false cancelW = false) (h7 : isB ws 0 false listW = false) (h8 : isB ws 0 false waitingW = false) (h9 : isB ws 0 false peakW = false) (h10 : isB ws 0 false findW = false) (h11 : isB ws 0 false expandW = false) (h12 : isB ws 0 false tickW = false) (h13 : isB ws 0 false clockW = false) : LineR ws .nilIface (0, true)

set_option maxRecDepth 100000 in
set_option maxHeartbeats 4000000 in
theorem rline_any (R A : Nat) (ws : List ByteArray) (w : World) (h : RS w R A ws 0 false) (he : Env w) (hR : 10 ≤ R) :
    Calls Tryz.prog 60 #[.pointer (some ⟨R, 0, none⟩)] w fun e w' =>
      ∃ (v : Value) (s : Nat × Bool), e = .returned v ∧ LineR ws v s ∧ RS w' R A ws s.1 s.2 ∧ Kept R w w' := by
  have HE := hide he
  clear he
  have k0 := Kept.refl R w
  have h0 := h
  clear h
  go_enter Tryz.func60, Tryz.ntmps60
  go_wp2_with fail
  refine (is_any R A ws 0 false thingW w h0).mono ?_
  rintro e w1 ⟨rfl, h1, kq⟩
  have k1 := k0.trans kq
  clear kq k0 h0
  rcases Bool.eq_false_or_eq_true (isB ws 0 false thingW) with hb0 | hb0
  · rw [hb0, if_pos rfl] at h1
    have E1 := hide ((unhide HE).kept k1 hR)
    go_wp2_with fail
    refine (rname_any R A ws _ _ w1 h1).mono ?_
    rintro e w1a ⟨rfl, h1a, kq⟩
    have k1a := k1.trans kq
    have E1a := hide ((unhide E1).kept kq hR)
    clear kq k1 h1 E1
    go_wp2_with fail
    refine (runits_any R A ws _ _ w1a h1a).mono ?_
    rintro e w1b ⟨rfl, h1b, kq⟩
    have k1b := k1a.trans kq
    have E1b := hide ((unhide E1a).kept kq hR)
    clear kq k1a h1a E1a
    have HK := hide k1b
    have HH := hide h1b
    go_wp2
    go_ret
    exact ⟨_, (stps ws [nmB, unB] (1, false)), rfl, .thing hb0, HH.out, HK.out⟩
  rw [hb0] at h1 ⊢
  go_wp2_with fail
  refine (is_any R A ws 0 false bookW w1 h1).mono ?_
  rintro e w2 ⟨rfl, h2, kq⟩
  have k2 := k1.trans kq
  clear kq k1 h1
  rcases Bool.eq_false_or_eq_true (isB ws 0 false bookW) with hb1 | hb1
  · rw [hb1, if_pos rfl] at h2
    have E2 := hide ((unhide HE).kept k2 hR)
    go_wp2_with fail
    refine (rclaim_any R A ws (1, false) w2 h2 (unhide E2) hR).mono ?_
    rintro e w2a ⟨rfl, h2a, kq⟩
    have k2a := k2.trans kq
    have E2a := hide ((unhide E2).kept kq hR)
    clear kq k2 h2 E2
    have HK := hide k2a
    have HH := hide h2a
    go_wp2
    go_ret
    exact ⟨_, (stps ws [nmB, unB, timeB, timeB] (1, false)), rfl, .book hb1, HH.out, HK.out⟩
  rw [hb1] at h2 ⊢
  go_wp2_with fail
  refine (is_any R A ws 0 false holdW w2 h2).mono ?_
  rintro e w3 ⟨rfl, h3, kq⟩
  have k3 := k2.trans kq
  clear kq k2 h2
  rcases Bool.eq_false_or_eq_true (isB ws 0 false holdW) with hb2 | hb2
  · rw [hb2, if_pos rfl] at h3
    have E3 := hide ((unhide HE).kept k3 hR)
    go_wp2_with fail
    refine (rclaim_any R A ws (1, false) w3 h3 (unhide E3) hR).mono ?_
    rintro e w3a ⟨rfl, h3a, kq⟩
    have k3a := k3.trans kq
    have E3a := hide ((unhide E3).kept kq hR)
    clear kq k3 h3 E3
    go_wp2_with fail
    refine (rminutes_any R A ws _ _ w3a h3a).mono ?_
    rintro e w3b ⟨rfl, h3b, kq⟩
    have k3b := k3a.trans kq
    have E3b := hide ((unhide E3a).kept kq hR)
    clear kq k3a h3a E3a
    have HK := hide k3b
    have HH := hide h3b
    go_wp2
    go_ret
    exact ⟨_, (stps ws [nmB, unB, timeB, timeB, miB] (1, false)), rfl, .hold hb2, HH.out, HK.out⟩
  rw [hb2] at h3 ⊢
  go_wp2_with fail
  refine (is_any R A ws 0 false waitW w3 h3).mono ?_
  rintro e w4 ⟨rfl, h4, kq⟩
  have k4 := k3.trans kq
  clear kq k3 h3
  rcases Bool.eq_false_or_eq_true (isB ws 0 false waitW) with hb3 | hb3
  · rw [hb3, if_pos rfl] at h4
    have E4 := hide ((unhide HE).kept k4 hR)
    go_wp2_with fail
    refine (rclaim_any R A ws (1, false) w4 h4 (unhide E4) hR).mono ?_
    rintro e w4a ⟨rfl, h4a, kq⟩
    have k4a := k4.trans kq
    have E4a := hide ((unhide E4).kept kq hR)
    clear kq k4 h4 E4
    go_wp2_with fail
    refine (rminutes_any R A ws _ _ w4a h4a).mono ?_
    rintro e w4b ⟨rfl, h4b, kq⟩
    have k4b := k4a.trans kq
    have E4b := hide ((unhide E4a).kept kq hR)
    clear kq k4a h4a E4a
    have HK := hide k4b
    have HH := hide h4b
    go_wp2
    go_ret
    exact ⟨_, (stps ws [nmB, unB, timeB, timeB, miB] (1, false)), rfl, .wait hb3, HH.out, HK.out⟩
  rw [hb3] at h4 ⊢
  go_wp2_with fail
  refine (is_any R A ws 0 false seriesW w4 h4).mono ?_
  rintro e w5 ⟨rfl, h5, kq⟩
  have k5 := k4.trans kq
  clear kq k4 h4
  rcases Bool.eq_false_or_eq_true (isB ws 0 false seriesW) with hb4 | hb4
  · rw [hb4, if_pos rfl] at h5
    have E5 := hide ((unhide HE).kept k5 hR)
    go_wp2_with fail
    refine (rname_any R A ws _ _ w5 h5).mono ?_
    rintro e w5a ⟨rfl, h5a, kq⟩
    have k5a := k5.trans kq
    have E5a := hide ((unhide E5).kept kq hR)
    clear kq k5 h5 E5
    go_wp2_with fail
    refine (runits_any R A ws _ _ w5a h5a).mono ?_
    rintro e w5b ⟨rfl, h5b, kq⟩
    have k5b := k5a.trans kq
    have E5b := hide ((unhide E5a).kept kq hR)
    clear kq k5a h5a E5a
    go_wp2_with fail
    refine (rrule_any R A ws (stps ws [nmB, unB] (1, false)) w5b h5b (unhide E5b) hR).mono ?_
    rintro e w5c ⟨pc, ev, acc, fr, mn, mi, ti, un, s, rfl, hr, h5c, kq⟩
    have HR := hide hr
    clear hr
    simp only [ruleV]
    have k5c := k5b.trans kq
    have E5c := hide ((unhide E5b).kept kq hR)
    clear kq k5b h5b E5b
    have HK := hide k5c
    have HH := hide h5c
    go_wp2
    go_ret
    exact ⟨_, s, rfl, .series hb4 pc ev acc fr mn mi ti un s HR.out, HH.out, HK.out⟩
  rw [hb4] at h5 ⊢
  go_wp2_with fail
  refine (is_any R A ws 0 false confirmW w5 h5).mono ?_
  rintro e w6 ⟨rfl, h6, kq⟩
  have k6 := k5.trans kq
  clear kq k5 h5
  rcases Bool.eq_false_or_eq_true (isB ws 0 false confirmW) with hb5 | hb5
  · rw [hb5, if_pos rfl] at h6
    have E6 := hide ((unhide HE).kept k6 hR)
    go_wp2_with fail
    refine (rid_any R A ws _ _ w6 h6).mono ?_
    rintro e w6a ⟨rfl, h6a, kq⟩
    have k6a := k6.trans kq
    have E6a := hide ((unhide E6).kept kq hR)
    clear kq k6 h6 E6
    have HK := hide k6a
    have HH := hide h6a
    go_wp2
    go_ret
    exact ⟨_, (stps ws [idB] (1, false)), rfl, .confirm hb5, HH.out, HK.out⟩
  rw [hb5] at h6 ⊢
  go_wp2_with fail
  refine (is_any R A ws 0 false cancelW w6 h6).mono ?_
  rintro e w7 ⟨rfl, h7, kq⟩
  have k7 := k6.trans kq
  clear kq k6 h6
  rcases Bool.eq_false_or_eq_true (isB ws 0 false cancelW) with hb6 | hb6
  · rw [hb6, if_pos rfl] at h7
    have E7 := hide ((unhide HE).kept k7 hR)
    go_wp2_with fail
    refine (rid_any R A ws _ _ w7 h7).mono ?_
    rintro e w7a ⟨rfl, h7a, kq⟩
    have k7a := k7.trans kq
    have E7a := hide ((unhide E7).kept kq hR)
    clear kq k7 h7 E7
    have HK := hide k7a
    have HH := hide h7a
    go_wp2
    go_ret
    exact ⟨_, (stps ws [idB] (1, false)), rfl, .cancel hb6, HH.out, HK.out⟩
  rw [hb6] at h7 ⊢
  go_wp2_with fail
  refine (is_any R A ws 0 false listW w7 h7).mono ?_
  rintro e w8 ⟨rfl, h8, kq⟩
  have k8 := k7.trans kq
  clear kq k7 h7
  rcases Bool.eq_false_or_eq_true (isB ws 0 false listW) with hb7 | hb7
  · rw [hb7, if_pos rfl] at h8
    have E8 := hide ((unhide HE).kept k8 hR)
    cases hm : moreB ws.length (stps ws [nmB] (1, false)).1 (stps ws [nmB] (1, false)).2
    · go_wp2_with fail
      refine (rlist_end R A ws (1, false) w8 h8 hm).mono ?_
      rintro e wz ⟨rfl, hz, kz⟩
      have HK := hide (k8.trans kz)
      have HH := hide hz
      have HM := hide hm
      clear hz kz hm k8 h8
      go_wp2
      go_ret
      exact ⟨_, (stps ws [nmB] (1, false)), rfl, .list0 hb7 HM.out, HH.out, HK.out⟩
    · go_wp2_with fail
      refine (rlist_more R A ws (1, false) w8 h8 (unhide E8) hR hm).mono ?_
      rintro e wz ⟨rfl, hz, kz⟩
      have HK := hide (k8.trans kz)
      have HH := hide hz
      have HM := hide hm
      clear hz kz hm k8 h8
      go_wp2
      go_ret
      exact ⟨_, (stps ws [nmB, timeB, timeB] (1, false)), rfl, .list1 hb7 HM.out, HH.out, HK.out⟩
  rw [hb7] at h8 ⊢
  go_wp2_with fail
  refine (is_any R A ws 0 false waitingW w8 h8).mono ?_
  rintro e w9 ⟨rfl, h9, kq⟩
  have k9 := k8.trans kq
  clear kq k8 h8
  rcases Bool.eq_false_or_eq_true (isB ws 0 false waitingW) with hb8 | hb8
  · rw [hb8, if_pos rfl] at h9
    have E9 := hide ((unhide HE).kept k9 hR)
    have HK := hide k9
    have HH := hide h9
    go_wp2
    go_ret
    exact ⟨_, (1, false), rfl, .waiting hb8, HH.out, HK.out⟩
  rw [hb8] at h9 ⊢
  go_wp2_with fail
  refine (is_any R A ws 0 false peakW w9 h9).mono ?_
  rintro e w10 ⟨rfl, h10, kq⟩
  have k10 := k9.trans kq
  clear kq k9 h9
  rcases Bool.eq_false_or_eq_true (isB ws 0 false peakW) with hb9 | hb9
  · rw [hb9, if_pos rfl] at h10
    have E10 := hide ((unhide HE).kept k10 hR)
    go_wp2_with fail
    refine (rname_any R A ws _ _ w10 h10).mono ?_
    rintro e w10a ⟨rfl, h10a, kq⟩
    have k10a := k10.trans kq
    have E10a := hide ((unhide E10).kept kq hR)
    clear kq k10 h10 E10
    go_wp2_with fail
    refine (rspan_any R A ws _ _ w10a h10a (unhide E10a) hR).mono ?_
    rintro e w10b ⟨rfl, h10b, kq⟩
    have k10b := k10a.trans kq
    have E10b := hide ((unhide E10a).kept kq hR)
    clear kq k10a h10a E10a
    have HK := hide k10b
    have HH := hide h10b
    go_wp2
    go_ret
    exact ⟨_, (stps ws [nmB, timeB, timeB] (1, false)), rfl, .peak hb9, HH.out, HK.out⟩
  rw [hb9] at h10 ⊢
  go_wp2_with fail
  refine (is_any R A ws 0 false findW w10 h10).mono ?_
  rintro e w11 ⟨rfl, h11, kq⟩
  have k11 := k10.trans kq
  clear kq k10 h10
  rcases Bool.eq_false_or_eq_true (isB ws 0 false findW) with hb10 | hb10
  · rw [hb10, if_pos rfl] at h11
    have E11 := hide ((unhide HE).kept k11 hR)
    go_wp2_with fail
    refine (rname_any R A ws _ _ w11 h11).mono ?_
    rintro e w11a ⟨rfl, h11a, kq⟩
    have k11a := k11.trans kq
    have E11a := hide ((unhide E11).kept kq hR)
    clear kq k11 h11 E11
    go_wp2_with fail
    refine (runits_any R A ws _ _ w11a h11a).mono ?_
    rintro e w11b ⟨rfl, h11b, kq⟩
    have k11b := k11a.trans kq
    have E11b := hide ((unhide E11a).kept kq hR)
    clear kq k11a h11a E11a
    go_wp2_with fail
    refine (rminutes_any R A ws _ _ w11b h11b).mono ?_
    rintro e w11c ⟨rfl, h11c, kq⟩
    have k11c := k11b.trans kq
    have E11c := hide ((unhide E11b).kept kq hR)
    clear kq k11b h11b E11b
    go_wp2_with fail
    refine (rspan_any R A ws _ _ w11c h11c (unhide E11c) hR).mono ?_
    rintro e w11d ⟨rfl, h11d, kq⟩
    have k11d := k11c.trans kq
    have E11d := hide ((unhide E11c).kept kq hR)
    clear kq k11c h11c E11c
    have HK := hide k11d
    have HH := hide h11d
    go_wp2
    go_ret
    exact ⟨_, (stps ws [nmB, unB, miB, timeB, timeB] (1, false)), rfl, .find hb10, HH.out, HK.out⟩
  rw [hb10] at h11 ⊢
  go_wp2_with fail
  refine (is_any R A ws 0 false expandW w11 h11).mono ?_
  rintro e w12 ⟨rfl, h12, kq⟩
  have k12 := k11.trans kq
  clear kq k11 h11
  rcases Bool.eq_false_or_eq_true (isB ws 0 false expandW) with hb11 | hb11
  · rw [hb11, if_pos rfl] at h12
    have E12 := hide ((unhide HE).kept k12 hR)
    go_wp2_with fail
    refine (rrule_any R A ws (1, false) w12 h12 (unhide E12) hR).mono ?_
    rintro e w12a ⟨pc, ev, acc, fr, mn, mi, ti, un, s, rfl, hr, h12a, kq⟩
    have HR := hide hr
    clear hr
    simp only [ruleV]
    have k12a := k12.trans kq
    have E12a := hide ((unhide E12).kept kq hR)
    clear kq k12 h12 E12
    have HK := hide k12a
    have HH := hide h12a
    go_wp2
    go_ret
    exact ⟨_, s, rfl, .expand hb11 pc ev acc fr mn mi ti un s HR.out, HH.out, HK.out⟩
  rw [hb11] at h12 ⊢
  go_wp2_with fail
  refine (is_any R A ws 0 false tickW w12 h12).mono ?_
  rintro e w13 ⟨rfl, h13, kq⟩
  have k13 := k12.trans kq
  clear kq k12 h12
  rcases Bool.eq_false_or_eq_true (isB ws 0 false tickW) with hb12 | hb12
  · rw [hb12, if_pos rfl] at h13
    have E13 := hide ((unhide HE).kept k13 hR)
    go_wp2_with fail
    refine (rminutes_any R A ws _ _ w13 h13).mono ?_
    rintro e w13a ⟨rfl, h13a, kq⟩
    have k13a := k13.trans kq
    have E13a := hide ((unhide E13).kept kq hR)
    clear kq k13 h13 E13
    have HK := hide k13a
    have HH := hide h13a
    go_wp2
    go_ret
    exact ⟨_, (stps ws [miB] (1, false)), rfl, .tick hb12, HH.out, HK.out⟩
  rw [hb12] at h13 ⊢
  go_wp2_with fail
  refine (is_any R A ws 0 false clockW w13 h13).mono ?_
  rintro e w14 ⟨rfl, h14, kq⟩
  have k14 := k13.trans kq
  clear kq k13 h13
  rcases Bool.eq_false_or_eq_true (isB ws 0 false clockW) with hb13 | hb13
  · rw [hb13, if_pos rfl] at h14
    have E14 := hide ((unhide HE).kept k14 hR)
    have HK := hide k14
    have HH := hide h14
    go_wp2
    go_ret
    exact ⟨_, (1, false), rfl, .clock hb13, HH.out, HK.out⟩
  rw [hb13] at h14 ⊢
  have c2 := h14.c2
  have f2 := h14.f2
  go_wp2
  go_ret
  exact ⟨_, (0, true), rfl, .none hb0 hb1 hb2 hb3 hb4 hb5 hb6 hb7 hb8 hb9 hb10 hb11 hb12 hb13, h14.bad, k14.setCell _ _⟩

end Go.Proofs.YtjfkfiffakbagaaGreatDoor


/-
  The words of a text are no longer than the text.
-/
namespace Go.Proofs.YtjfkfiffakbagaaGreatDoor
open Go.RowKit

theorem words_small (s : ByteArray) : ∀ x ∈ Txt.wordsS s, x.size ≤ s.size := by
  intro x hx
  unfold Txt.wordsS at hx
  simp only [List.mem_map] at hx
  obtain ⟨y, _, rfl⟩ := hx
  have : (s.extract y.1 y.2).size = min y.2 s.size - y.1 := ByteArray.size_extract ..
  omega

end Go.Proofs.YtjfkfiffakbagaaGreatDoor


/-
  The walk over the program's Read.
-/
namespace Go.Proofs.YtjfkfiffakbagaaGreatDoor
open Go.RowKit

/-- What Read answers. -/
inductive ReadR (s : ByteArray) : Ending → Prop where
  | long (h : 160 < s.size) : ReadR s (.returned (.tuple #[.nilIface, .int .i64 1, .int .i64 0]))
  | bad (h : s.size ≤ 160) (v : Value) (st : Nat × Bool) (hl : LineR (Txt.wordsS s) v st) (hb : st.2 = true ∨ moreB (Txt.wordsS s).length st.1 st.2 = true) : ReadR s (.returned (.tuple #[.nilIface, .int .i64 2, .int .i64 st.1]))
  | good (h : s.size ≤ 160) (v : Value) (st : Nat × Bool) (hl : LineR (Txt.wordsS s) v st) (h2 : st.2 = false) (hb : moreB (Txt.wordsS s).length st.1 st.2 = false) : ReadR s (.returned (.tuple #[v, .int .i64 0, .int .i64 0]))

theorem acc_len2 (s : ByteArray) : ∀ k : Nat, k ≤ s.size → (Txt.accS s k).length + (if (Txt.curS s k).size = 0 then 0 else 1) ≤ k
  | 0, _ => by
    have := Txt.acc_len s 0
    have := Txt.cur_size s 0
    rw [if_pos (by omega)]; omega
  | k + 1, hk => by
    have ih := acc_len2 s k (by omega)
    by_cases hb : Txt.byteAt s k = 32
    · obtain ⟨h1, h2⟩ := Txt.cur_blank s k (by omega) hb
      have e : (if (⟨#[]⟩ : ByteArray).size = 0 then (0 : Nat) else 1) = 0 := if_pos rfl
      rw [h1, h2, e, List.length_append]
      by_cases hc : (Txt.curS s k).size = 0
      · rw [if_pos hc] at ih ⊢; simp; omega
      · rw [if_neg hc] at ih ⊢; simp; omega
    · obtain ⟨_, h2⟩ := Txt.cur_next s k hb
      rw [h2]
      split at ih <;> split <;> omega
theorem words_len2 (s : ByteArray) : (Txt.wordsS s).length ≤ s.size := by
  have := acc_len2 s s.size (Nat.le_refl _)
  rw [Txt.words_end, List.length_append]
  split <;> rename_i hc <;> simp [hc] at this ⊢ <;> omega

theorem own_cells {w : World} {base g n cap : Nat} {xs : List ByteArray} (h : w.ownsRow base 9 1 (.slice (some ⟨g, 0, none⟩) n cap) n (xs.map Value.string)) : g < w.heap.size ∧ ∀ (i : Nat) (hi : i < xs.length), w.cell? ⟨g, i, none⟩ = some (.string xs[i]) := by
  rcases h.2 with ⟨h0, _⟩ | ⟨g', cap', cur, hv, hg, hh, hc, _, hs, ht⟩
  · cases h0
  · cases hv
    have hl : g < w.heap.size := by
      by_cases hl : g < w.heap.size
      · exact hl
      · rw [Array.getElem?_eq_none (by omega)] at hh; cases hh
    refine ⟨hl, fun i hi => ?_⟩
    have h1 := h.1
    have hlen : (xs.map Value.string).length = xs.length := by simp
    have hcur : cur[i]? = some (.string xs[i]) := by
      have hx : (xs.map Value.string)[i]? = some (.string xs[i]) := by simp [hi]
      rw [← ht, List.getElem?_take, if_pos (by omega)] at hx
      simpa using hx
    simp [World.cell?, hh, hcur]

set_option maxRecDepth 100000 in
set_option maxHeartbeats 1000000 in
theorem read_any (s : ByteArray) (w : World) (he : Env w) :
    Calls Tryz.prog 42 #[.string s] w fun e w' => ReadR s e ∧ Below w.heap.size w w' := by
  have HE := hide he
  have h10 := he.size
  clear he
  by_cases hs : s.size ≤ 160
  · have hs2 : (s.size : Int) ≤ 160 := by omega
    go_enter Tryz.func42, Tryz.ntmps42
    go_wp2_with fail
    refine (split_any s w hs).mono ?_
    rintro e w1 ⟨A, rfl, hA, ho, hb⟩
    obtain ⟨hAl, hrow⟩ := own_cells ho
    have hwl := words_len2 s
    have hsm := words_small s
    obtain ⟨ws, hws⟩ : ∃ ws, ws = Txt.wordsS s := ⟨_, rfl⟩
    have HWS := hide hws
    rw [← hws] at hrow hwl hsm ⊢
    clear hws ho
    have HROW := hide hrow
    have HSM := hide hsm
    clear hrow hsm
    go_wp2_with fail
    obtain ⟨X, hX⟩ : ∃ X, X = w1.alloc (.cells #[.slice (some ⟨A, 0, none⟩) ws.length ws.length, .int .i64 0, .bool false] 121) := ⟨_, rfl⟩
    rw [← hX]
    have hbX : Below w1.heap.size w1 X := by rw [hX]; exact (Below.refl _ _).alloc (Nat.le_refl _) _
    have hrs : RS X w1.heap.size A ws 0 false := by
      refine ⟨?_, ?_, ?_, ?_, ?_, by omega, fun i hi => cell_later hbX (unhide HROW i hi), by omega, Nat.zero_le _, fun x hx => Nat.le_trans (unhide HSM x hx) hs⟩ <;> (rw [hX]; simp)
    clear hX
    have eX := ((unhide HE).later hb).later hbX
    have hz1 := hb.size
    refine (rline_any w1.heap.size A ws X hrs eX (by omega)).mono ?_
    rintro e w2 ⟨v, st, rfl, hl, h2, k2⟩
    have c1 := h2.c1
    have c2 := h2.c2
    have HL := hide hl
    have hbW : Below w.heap.size w w2 := (hb.trans (hbX.mono hz1)).trans (k2.below hz1 (Nat.le_trans hz1 hbX.size))
    have hnx := h2.nxle
    clear hl eX hrs hbX
    obtain ⟨nx, wr⟩ := st
    dsimp only at c1 c2 h2 hnx
    have hmo : moreB ws.length nx wr = false ∨ moreB ws.length nx wr = true := by cases moreB ws.length nx wr <;> simp
    cases wr
    · rcases hmo with hmo | hmo
      · have HM := hide hmo
        go_wp2_with fail
        refine (more_any w1.heap.size A ws nx false w2 h2).mono ?_
        rintro e w3 ⟨rfl, n, hw3⟩
        have hb3 : Below w.heap.size w w3 := by rw [hw3]; exact ⟨hbW.os, hbW.tape, hbW.output, hbW.size, hbW.block⟩
        clear hw3 h2
        rw [hmo]
        go_wp2
        go_ret3
        have hws := HWS.out
        subst hws
        exact ⟨.good hs v (nx, false) HL.out rfl HM.out, hb3⟩
      · have HM := hide hmo
        go_wp2_with fail
        refine (more_any w1.heap.size A ws nx false w2 h2).mono ?_
        rintro e w3 ⟨rfl, n, hw3⟩
        have hb3 : Below w.heap.size w w3 := by rw [hw3]; exact ⟨hbW.os, hbW.tape, hbW.output, hbW.size, hbW.block⟩
        have d1 : w3.cell? ⟨w1.heap.size, 1, none⟩ = some (.int .i64 nx) := by rw [hw3]; exact c1
        clear hw3 h2 c1 c2
        rw [hmo]
        go_wp2
        go_quiet (fail)
        go_wp2
        go_ret3
        have hws := HWS.out
        subst hws
        exact ⟨.bad hs v (nx, false) HL.out (.inr HM.out), ⟨hb3.os, hb3.tape, hb3.output, hb3.size, hb3.block⟩⟩
    · clear h2 hmo
      go_wp2
      go_quiet (fail)
      go_wp2
      go_ret3
      have hws := HWS.out
      subst hws
      exact ⟨.bad hs v (nx, true) HL.out (.inl rfl), ⟨hbW.os, hbW.tape, hbW.output, hbW.size, hbW.block⟩⟩
  · have hs2 : ¬ (s.size : Int) ≤ 160 := by omega
    go_enter Tryz.func42, Tryz.ntmps42
    go_wp2
    go_ret3
    exact ⟨.long (by omega), Below.refl _ _⟩

end Go.Proofs.YtjfkfiffakbagaaGreatDoor


/-
  Package bookings: New, and Do over what is read and what answer answers.
-/
namespace Go.Proofs.YtjfkfiffakbagaaGreatDoor
open Go.RowKit
open Desk (Ent St Ids kept booked bookE sumA Items ofB sameB Risen Mid EntOk endsB Inv)

theorem Env.ten {w wx : World} (h : Env w) (hb : Below 10 w wx) : Env wx := by
  obtain ⟨m, hm⟩ := h.maxl
  have c : ∀ {b : Nat} {o : Nat} {v : Value}, b < 10 → w.cell? ⟨b, o, none⟩ = some v → wx.cell? ⟨b, o, none⟩ = some v := fun hb' hv => (hb.cell (p := ⟨_, _, none⟩) hb').trans hv
  have ht := h.tab
  obtain ⟨a0, a1, a2, a3, a4, a5, a6, a7, a8, a9, a10, a11⟩ := ht
  refine ⟨⟨c (by decide) a0, c (by decide) a1, c (by decide) a2, c (by decide) a3, c (by decide) a4, c (by decide) a5, c (by decide) a6, c (by decide) a7, c (by decide) a8, c (by decide) a9, c (by decide) a10, c (by decide) a11⟩, ⟨m, c (by decide) hm⟩, ?_, Nat.le_trans h.size hb.size, c (by decide) h.mo, c (by decide) h.tu, c (by decide) h.we, c (by decide) h.th, c (by decide) h.fr, c (by decide) h.sa, c (by decide) h.su⟩
  have hp := h.pow
  unfold Lib.TabIs World.var? at hp ⊢
  simp only [gPow, Option.bind_some] at hp ⊢
  rw [hb.block 1 (by decide)]
  exact hp
theorem Step.ten {S : Col → Prop} {B : Nat} {col col' : Nat → Option Col} {w w' : World} (h : Step S B col col' w w') (hB : 10 ≤ B) (hs : 10 ≤ w.heap.size) (hc : ∀ b, b < 10 → col b = none) : Below 10 w w' ∧ ∀ b, b < 10 → col' b = none := by
  obtain ⟨G, h1, h2⟩ := h.off
  refine ⟨⟨h1.os, h1.tape, h1.output, h1.size, fun b hb => h1.block b (by omega) (fun hx => ?_)⟩, fun b hb => ?_⟩
  · rcases h2 b hx with ⟨c, e, _⟩ | ⟨_, e⟩
    · rw [hc b hb] at e; cases e
    · omega
  · cases e : col' b with
    | none => rfl
    | some c =>
      rcases h.new b c e with e1 | e1
      · rw [hc b hb] at e1; cases e1
      · omega

/-- A desk of the package bookings in memory. -/
structure BD (w : World) (p d : Nat) (s : St) (r : Raw) (col : Nat → Option Col) : Prop where
  pc : w.heap[p]? = some (.cells #[.pointer (some ⟨d, 0, none⟩)] 96 (0, 0))
  pn : col p = none
  ds : DSt w d s r col
  env : Env w
  gl : ∀ b, b < 10 → col b = none
/-- What Do leaves and answers. -/
def BPost (w : World) (p d : Nat) (col : Nat → Option Col) (q : St × Desk.Rep) (v : Value) (w' : World) : Prop :=
  ∃ (r' : Raw) (col' : Nat → Option Col), BD w' p d q.1 r' col' ∧ Step anyS w.heap.size col col' w w' ∧ RepIs w' w.heap.size col' v q.2

set_option maxRecDepth 100000 in
set_option maxHeartbeats 1000000 in
theorem bNew_any (w : World) (he : Env w) : Calls Tryz.prog 30 #[] w fun e w' => ∃ p d col, e = .returned (.pointer (some ⟨p, 0, none⟩)) ∧ BD w' p d st0 raw0 col ∧ Below w.heap.size w w' ∧ (∀ b, b < w.heap.size → col b = none) := by
  have DN := hidp (deskNew_any w)
  have HE := hidp he
  have hsz := he.size
  clear he
  go_enter Tryz.func30, Tryz.ntmps30
  go_wp2_with (first
    | (go_at_call 46; refine DN.out.mono ?_; rintro e w1 ⟨v, rfl, rfl, hd, hb⟩))
  have HF : Hid (BD (w1.alloc (.cells #[.pointer (some ⟨w.heap.size + 2, 0, none⟩)] 96)) w1.heap.size (w.heap.size + 2) st0 raw0 (col0 w.heap.size) ∧ Below w.heap.size w (w1.alloc (.cells #[.pointer (some ⟨w.heap.size + 2, 0, none⟩)] 96)) ∧ ∀ b, b < w.heap.size → col0 w.heap.size b = none) := by
    have k : Below w1.heap.size w1 (w1.alloc (.cells #[.pointer (some ⟨w.heap.size + 2, 0, none⟩)] 96)) := (Below.refl _ _).alloc (Nat.le_refl _) _
    have hlow : ∀ b, b < w.heap.size → col0 w.heap.size b = none := fun b hb' => by unfold col0; rw [if_neg (by omega), if_neg (by omega), if_neg (by omega)]
    exact ⟨⟨heapNew w1 _, hd.dk.none (Nat.le_refl _), ⟨hd.dk.later k, hd.of, hd.wl, hd.hl, hd.inv⟩, (HE.out.later hb).later k, fun b hb' => hlow b (by omega)⟩, hb.trans (k.mono hb.size), hlow⟩
  clear hd hb
  go_wp2_with fail
  exact bodyPost_ret (v := .pointer (some ⟨w1.heap.size, 0, none⟩)) (by simp [results, Tryz.results30, go_sem]) rfl ⟨_, _, _, rfl, HF.out⟩

set_option maxRecDepth 100000 in
set_option maxHeartbeats 4000000 in
/-- A line that is read does what it says. -/
theorem bDo_good {w : World} {p d : Nat} {s : St} {r : Raw} {col : Nat → Option Col} (h : BD w p d s r col) (t : ByteArray) (line : Value) (l : Desk.Line) (hr : ∀ e, ReadR t e → e = .returned (.tuple #[line, .int .i64 0, .int .i64 0])) (hl : Desk.LineOk l) (hgl : (Desk.doesD s l).2.granted.length ≤ 50000)
    (hans : ∀ X, Tab X → 10 ≤ X.heap.size → DSt X d s r col → Calls Tryz.prog 62 #[.pointer (some ⟨d, 0, none⟩), line] X fun e w' => ∃ v, e = .returned v ∧ AnsPost X d col (Desk.doesD s l) v w') :
    Calls Tryz.prog 20 #[.pointer (some ⟨p, 0, none⟩), .string t] w fun e w' => ∃ v, e = .returned v ∧ BPost w p d col (Desk.stepD s l) v w' := by
  have hX : Below w.heap.size w (w.alloc zeroR) := (Below.refl _ _).alloc (Nat.le_refl _) _
  have hq := heapNew w zeroR
  have hs : w.heap.size < (w.alloc zeroR).heap.size := by simp
  have RD := hidp (read_any t (w.alloc zeroR) (h.env.later hX))
  have HX := hidp (And.intro hX (And.intro (Q7.of hq) (And.intro (h.ds.dk.none (Nat.le_refl _)) hs)))
  have HH := hidp h
  have HR := hidp hr
  have HD : Hid (∀ w1, Below w.heap.size w w1 → Calls Tryz.prog 43 #[.pointer (some ⟨d, 0, none⟩), line] w1 fun e w' => ∃ v, e = .returned v ∧ AnsPost w1 d col (Desk.stepD s l) v w') := fun w1 k => do_any ⟨h.ds.dk.later k, h.ds.of, h.ds.wl, h.ds.hl, h.ds.inv⟩ line l hl hgl (fun X kX hds => hans X (((h.env.later k).later kX).tab) (Nat.le_trans (Nat.le_trans h.env.size k.size) kX.size) hds)
  have HI := hidp (Desk.step_inv h.ds.inv hl)
  have hpl : p < w.heap.size := (Array.getElem?_eq_some_iff.1 h.pc).1
  clear h hr hans hX hq hs hgl
  generalize Desk.stepD s l = q at *
  go_enter Tryz.func20, Tryz.ntmps20
  go_upto_region 1 with fail
  change Code.wp _ _ _ _ (w.alloc zeroR)
  generalize w.alloc zeroR = X at *
  go_upto_region 2 with (first
    | (go_at_call 42; refine RD.out.mono ?_; rintro e w1 ⟨hrr, hb⟩; obtain rfl := HR.out _ hrr))
  have BW : Hid (Below w.heap.size w w1) := HX.out.1.trans (hb.mono HX.out.1.size)
  have pc : w1.cell? ⟨p, 0, none⟩ = some (.pointer (some ⟨d, 0, none⟩)) := by
    have := (BW.out.block p hpl).trans HH.out.pc
    simp [World.cell?, this]
  have DD := hidp (HD.out w1 BW.out)
  have QX : Hid (Q7 w1 w.heap.size ∧ w.heap.size < w1.heap.size) := ⟨HX.out.2.1.later (hb.block _ HX.out.2.2.2), Nat.lt_of_lt_of_le HX.out.2.2.2 hb.size⟩
  clear HD RD HR hb hrr
  go_wp2_with fail
  refine DD.out.mono ?_
  rintro e w2 ⟨v, rfl, ap⟩
  obtain ⟨er, at_, nn, a1, a2, a3, a4, n1, n2, n3, n4, c1, c2, c3, c4, rfl, q7, hf⟩ := ap.up BW.out (Nat.le_refl _) QX.out.2 HX.out.2.2.1 QX.out.1
  have HF : Hid (BPost w p d col q (repV er at_ nn (.slice a1 n1 c1) (.slice a2 n2 c2) (.slice a3 n3 c3) (.slice a4 n4 c4)) (set7 w2 w.heap.size (.int .i64 er) (.int .i64 at_) (.int .i64 nn) (.slice a1 n1 c1) (.slice a2 n2 c2) (.slice a3 n3 c3) (.slice a4 n4 c4))) := by
    obtain ⟨r', col', k1, k2, k3, k4, k5, k6⟩ := hf (.int .i64 er) (.int .i64 at_) (.int .i64 nn) (.slice a1 n1 c1) (.slice a2 n2 c2) (.slice a3 n3 c3) (.slice a4 n4 c4)
    have h0 := HH.out
    obtain ⟨t1, t2⟩ := k5.ten h0.env.size h0.env.size h0.gl
    exact ⟨r', col', ⟨(k5.blockN hpl h0.pn hpl).trans h0.pc, k5.keepN h0.pn hpl, ⟨k1, k2, k3, k4, HI.out⟩, h0.env.ten t1, t2⟩, k5, k6⟩
  clear ap hf DD pc
  obtain ⟨q0, q1, q2, q3, q4, q5, q6, fq⟩ := q7
  simp only [repV]
  go_wp2_with fail
  exact bodyPost_ret (v := repV er at_ nn (.slice a1 n1 c1) (.slice a2 n2 c2) (.slice a3 n3 c3) (.slice a4 n4 c4)) (by simp [results, Tryz.results20, go_sem, repV, q0, q1, q2, q3, q4, q5, q6]) rfl ⟨_, rfl, HF.out⟩

end Go.Proofs.YtjfkfiffakbagaaGreatDoor


/-
  Package rules: isReached, later, spanOf, Spans.
-/
namespace Go.Proofs.YtjfkfiffakbagaaGreatDoor
open Go.RowKit

set_option maxHeartbeats 1000000 in
theorem isReached_any (y m : Int) (w : World) (ht : Tab w) :
    Calls Tryz.prog 290 #[.int .i64 y, .int .i64 m] w fun e w' => e = .returned (.bool (Rd.reached y m)) ∧ w' = w := by
  cases h : Cal.ok y m 1
  · have HC := hidp (calDay_no y m 1 w ht h)
    have e : Rd.reached y m = false := by unfold Rd.reached; rw [h]; rfl
    rw [e]
    clear h ht e
    go_enter Tryz.func290, Tryz.ntmps290
    go_wp2_with fail
    refine HC.out.mono ?_
    rintro e w1 ⟨rfl, rfl⟩
    go_wp2_with fail
    go_ret
    exact ⟨rfl, rfl⟩
  · have HC := hidp (calDay_yes y m 1 w ht h)
    have e : Rd.reached y m = decide (Cal.num y m 1 < 728) := by unfold Rd.reached; rw [h]; rfl
    rw [e]
    clear h ht e
    generalize Cal.num y m 1 = z at *
    go_enter Tryz.func290, Tryz.ntmps290
    go_wp2_with fail
    refine HC.out.mono ?_
    rintro e w1 ⟨rfl, rfl⟩
    go_wp2_with fail
    go_ret
    exact ⟨rfl, rfl⟩

set_option maxHeartbeats 1000000 in
theorem later_any (y m ev : Int) (w : World) (h1 : 0 ≤ y) (h2 : y ≤ 100000) (h3 : 1 ≤ m) (h4 : m ≤ 12) (h5 : 1 ≤ ev) (h6 : ev ≤ 99) :
    Calls Tryz.prog 291 #[.int .i64 y, .int .i64 m, .int .i64 ev] w fun e w' => e = .returned (.tuple #[.int .i64 (Rd.laterY y m ev), .int .i64 (Rd.laterM m ev)]) ∧ w' = w := by
  have k1 : IntKind.i64.wrap (m - 1) = m - 1 := wrap_small (by omega) (by omega)
  have k2 : IntKind.i64.wrap (m - 1 + ev) = m - 1 + ev := wrap_small (by omega) (by omega)
  have k3 : IntKind.i64.wrap ((m - 1 + ev).tdiv 12) = (m - 1 + ev) / 12 := by rw [Int.tdiv_eq_ediv_of_nonneg (by omega)]; exact wrap_small (by omega) (by omega)
  have k4 : IntKind.i64.wrap (y + (m - 1 + ev) / 12) = y + (m - 1 + ev) / 12 := wrap_small (by omega) (by omega)
  have k5 : (m - 1 + ev).tmod 12 = (m - 1 + ev) % 12 := Int.tmod_eq_emod_of_nonneg (by omega)
  have k6 : IntKind.i64.wrap ((m - 1 + ev) % 12) = (m - 1 + ev) % 12 := wrap_small (by omega) (by omega)
  have k7 : IntKind.i64.wrap ((m - 1 + ev) % 12 + 1) = (m - 1 + ev) % 12 + 1 := wrap_small (by omega) (by omega)
  unfold Rd.laterY Rd.laterM
  go_enter Tryz.func291, Tryz.ntmps291
  go_wp2_with fail
  go_ret2
  simp

/-- A rule as a value. -/
def ruleVR (r : Rd.Rule) : Value := .agg #[.int .i64 r.pc, .int .i64 r.ev, .bool (isd r.acc 0), .bool (isd r.acc 1), .bool (isd r.acc 2), .bool (isd r.acc 3), .bool (isd r.acc 4), .bool (isd r.acc 5), .bool (isd r.acc 6), .int .i64 r.fr, .int .i64 r.mn, .int .i64 r.mi, .int .i64 r.ti, .int .i64 r.un]
def spanD (r : Rd.Rule) (d : Int) : Int × Int := (d * 1440 + r.mn, d * 1440 + r.mn + r.mi)

set_option maxRecDepth 100000 in
set_option maxHeartbeats 1000000 in
theorem spanOf_any (r : Rd.Rule) (hf : Rd.Fine r) (d : Int) (h0 : 0 ≤ d) (h1 : d < 100000) (w : World) :
    Calls Tryz.prog 192 #[ruleVR r, .int .i64 d] w fun e w' => e = .returned (.agg #[.int .i64 (spanD r d).1, .int .i64 (spanD r d).2]) ∧ Below w.heap.size w w' := by
  have m0 := hf.m0
  have m1 := hf.m1
  have i1 := hf.i1
  have i2 := hf.i2
  have k1 : IntKind.i64.wrap (d * 1440) = d * 1440 := wrap_small (by omega) (by omega)
  have k2 : IntKind.i64.wrap (d * 1440 + r.mn) = d * 1440 + r.mn := wrap_small (by omega) (by omega)
  have k3 : IntKind.i64.wrap (d * 1440 + r.mn + r.mi) = d * 1440 + r.mn + r.mi := wrap_small (by omega) (by omega)
  have HF : Hid (Below w.heap.size w ((w.alloc (.cells #[.int .i64 r.pc, .int .i64 r.ev, .bool (isd r.acc 0), .bool (isd r.acc 1), .bool (isd r.acc 2), .bool (isd r.acc 3), .bool (isd r.acc 4), .bool (isd r.acc 5), .bool (isd r.acc 6), .int .i64 r.fr, .int .i64 r.mn, .int .i64 r.mi, .int .i64 r.ti, .int .i64 r.un] 156)).alloc (.cells #[.int .i64 (d * 1440 + r.mn), .int .i64 (d * 1440 + r.mn + r.mi)] 60))) := ((Below.refl _ _).alloc (Nat.le_refl _) _).alloc (by simp) _
  clear hf
  unfold ruleVR
  go_enter Tryz.func192, Tryz.ntmps192
  go_wp2_with fail
  exact bodyPost_ret (v := .agg #[.int .i64 (d * 1440 + r.mn), .int .i64 (d * 1440 + r.mn + r.mi)]) (by simp [results, Tryz.results192, go_sem]) rfl ⟨rfl, HF.out⟩

/-- A rule in a block. -/
def ruleO (r : Rd.Rule) : Obj := (.cells #[.int .i64 r.pc, .int .i64 r.ev, .bool (isd r.acc 0), .bool (isd r.acc 1), .bool (isd r.acc 2), .bool (isd r.acc 3), .bool (isd r.acc 4), .bool (isd r.acc 5), .bool (isd r.acc 6), .int .i64 r.fr, .int .i64 r.mn, .int .i64 r.mi, .int .i64 r.ti, .int .i64 r.un] 156 (0, 0))
theorem rule_c0 {w : World} {b : Nat} {r : Rd.Rule} (h : w.heap[b]? = some (ruleO r)) : w.cell? ⟨b, 0, none⟩ = some (.int .i64 r.pc) := by unfold ruleO at h; simp only [World.cell?, h]; rfl
theorem rule_c1 {w : World} {b : Nat} {r : Rd.Rule} (h : w.heap[b]? = some (ruleO r)) : w.cell? ⟨b, 1, none⟩ = some (.int .i64 r.ev) := by unfold ruleO at h; simp only [World.cell?, h]; rfl
theorem rule_c2 {w : World} {b : Nat} {r : Rd.Rule} (h : w.heap[b]? = some (ruleO r)) : w.cell? ⟨b, 2, none⟩ = some (.bool (isd r.acc 0)) := by unfold ruleO at h; simp only [World.cell?, h]; rfl
theorem rule_c3 {w : World} {b : Nat} {r : Rd.Rule} (h : w.heap[b]? = some (ruleO r)) : w.cell? ⟨b, 3, none⟩ = some (.bool (isd r.acc 1)) := by unfold ruleO at h; simp only [World.cell?, h]; rfl
theorem rule_c4 {w : World} {b : Nat} {r : Rd.Rule} (h : w.heap[b]? = some (ruleO r)) : w.cell? ⟨b, 4, none⟩ = some (.bool (isd r.acc 2)) := by unfold ruleO at h; simp only [World.cell?, h]; rfl
theorem rule_c5 {w : World} {b : Nat} {r : Rd.Rule} (h : w.heap[b]? = some (ruleO r)) : w.cell? ⟨b, 5, none⟩ = some (.bool (isd r.acc 3)) := by unfold ruleO at h; simp only [World.cell?, h]; rfl
theorem rule_c6 {w : World} {b : Nat} {r : Rd.Rule} (h : w.heap[b]? = some (ruleO r)) : w.cell? ⟨b, 6, none⟩ = some (.bool (isd r.acc 4)) := by unfold ruleO at h; simp only [World.cell?, h]; rfl
theorem rule_c7 {w : World} {b : Nat} {r : Rd.Rule} (h : w.heap[b]? = some (ruleO r)) : w.cell? ⟨b, 7, none⟩ = some (.bool (isd r.acc 5)) := by unfold ruleO at h; simp only [World.cell?, h]; rfl
theorem rule_c8 {w : World} {b : Nat} {r : Rd.Rule} (h : w.heap[b]? = some (ruleO r)) : w.cell? ⟨b, 8, none⟩ = some (.bool (isd r.acc 6)) := by unfold ruleO at h; simp only [World.cell?, h]; rfl
theorem rule_c9 {w : World} {b : Nat} {r : Rd.Rule} (h : w.heap[b]? = some (ruleO r)) : w.cell? ⟨b, 9, none⟩ = some (.int .i64 r.fr) := by unfold ruleO at h; simp only [World.cell?, h]; rfl
theorem rule_c10 {w : World} {b : Nat} {r : Rd.Rule} (h : w.heap[b]? = some (ruleO r)) : w.cell? ⟨b, 10, none⟩ = some (.int .i64 r.mn) := by unfold ruleO at h; simp only [World.cell?, h]; rfl
theorem rule_c11 {w : World} {b : Nat} {r : Rd.Rule} (h : w.heap[b]? = some (ruleO r)) : w.cell? ⟨b, 11, none⟩ = some (.int .i64 r.mi) := by unfold ruleO at h; simp only [World.cell?, h]; rfl
theorem rule_c12 {w : World} {b : Nat} {r : Rd.Rule} (h : w.heap[b]? = some (ruleO r)) : w.cell? ⟨b, 12, none⟩ = some (.int .i64 r.ti) := by unfold ruleO at h; simp only [World.cell?, h]; rfl
theorem rule_c13 {w : World} {b : Nat} {r : Rd.Rule} (h : w.heap[b]? = some (ruleO r)) : w.cell? ⟨b, 13, none⟩ = some (.int .i64 r.un) := by unfold ruleO at h; simp only [World.cell?, h]; rfl

end Go.Proofs.YtjfkfiffakbagaaGreatDoor


/-
  Package rules: the iterators over the days of a rule: daily.
-/
namespace Go.Proofs.YtjfkfiffakbagaaGreatDoor
open Go.RowKit Go.Shelf

attribute [local go_sem] Oper.semAt_some

/-- What a round that goes on keeps: what lay below, and the rule's block. -/
def RK (n₀ Bn : Nat) (W W' : World) : Prop := Below n₀ W W' ∧ W'.heap[Bn]? = W.heap[Bn]?

set_option maxRecDepth 100000 in
set_option maxHeartbeats 2000000 in
theorem daily1_in (F : Fence) (n : Nat) (h6 : F.fn 292) (hro : F.round = none) (hn : 1 ≤ n) (l Bn n₀ : Nat) (r : Rd.Rule) (hf : Rd.Fine r) (J Jx : List Int → World → Prop)
    (hY : ∀ pre x W, J pre W → pre.length < (Rd.seqD r.ev 800 r.fr).length → YieldAt F (n - 1) Tryz.prog l #[.int .i64 x] W fun e W' =>
      (e = .returned (.bool true) ∧ J (pre ++ [x]) W' ∧ RK n₀ Bn W W') ∨ (e = .returned (.bool false) ∧ Jx (pre ++ [x]) W'))
    (W : World) (hr : W.heap[Bn]? = some (ruleO r)) (h0 : J [] W) :
    CallsIn F n Tryz.prog 292 #[.func (.yield l) #[] #[], .pointer (some ⟨Bn, 0, none⟩)] W fun e W' => (∃ v, e = .returned v) ∧
      ((∃ ys, ys = Rd.seqD r.ev 800 r.fr ∧ J ys W') ∨ (∃ pre, pre <+: Rd.seqD r.ev 800 r.fr ∧ Jx pre W')) := by
  have c9 := rule_c9 hr
  have e1 := hf.e1
  have e2 := hf.e2
  have f0 := hf.f0
  have f1 := hf.f1
  clear hf
  generalize hS : Rd.seqD r.ev 800 r.fr = S at *
  refine callsIn_of_wp Tryz.func292 rfl h6 ?_ hro
  simp only [Tryz.ntmps292, List.size_toArray, List.length_cons, List.length_nil, Nat.reduceAdd, Nat.reduceSub, Array.replicate_succ, Array.replicate_zero, List.push_toArray, List.append_toArray, List.nil_append, List.cons_append]
  gi_wp2
  gi_loopw [3] (fun v wr => ∃ (d : Int) (f : Nat) (pre : List Int), v = .int .i64 d ∧ S = pre ++ Rd.seqD r.ev f d ∧ 0 ≤ d ∧ d ≤ 10000 ∧ 728 ≤ d + f ∧ J pre wr ∧ wr.heap[Bn]? = some (ruleO r)) (fun v _ => (20000 - intOf v).toNat)
  case atStart => exact ⟨r.fr, 800, [], rfl, hS.symm, f0, by omega, by omega, h0, hr⟩
  case round =>
    obtain ⟨d, f, pre, rfl, hx, hd0, hd1, hdf, hJ, hR⟩ := hrel
    by_cases hlt : d < 728
    · obtain ⟨f', rfl⟩ : ∃ f', f = f' + 1 := ⟨f - 1, by omega⟩
      have q1 : Rd.seqD r.ev (f' + 1) d = d :: Rd.seqD r.ev f' (d + r.ev) := by simp [Rd.seqD, hlt]
      rw [q1] at hx
      have k1 : IntKind.i64.wrap (d + r.ev) = d + r.ev := wrap_small (by omega) (by omega)
      obtain ⟨fn, tmps, assign, body, hy, hRd⟩ := hY pre d wr hJ (by rw [hx]; simp)
      gi_wp2
      refine hRd.mono ?_
      rintro e W3 (⟨rfl, hJ3, hk3⟩ | ⟨rfl, hJx3⟩)
      · have c1 := rule_c1 (hk3.2.trans hR)
        gi_wp2
        go_roundw
        case rel => exact ⟨d + r.ev, f', pre ++ [d], by simp, by simp [hx], by omega, by omega, by omega, hJ3, hk3.2.trans hR⟩
        case measure => simp [intOf]; omega
      · gi_wp2
        refine bodyPost_ret (results_none rfl _ _ _) rfl ?_
        exact ⟨⟨_, rfl⟩, .inr ⟨pre ++ [d], ⟨Rd.seqD r.ev f' (d + r.ev), by simp [hx]⟩, hJx3⟩⟩
    · have q1 : Rd.seqD r.ev f d = [] := by cases f <;> simp [Rd.seqD, hlt]
      rw [q1, List.append_nil] at hx
      subst hx
      gi_wp2
      go_end0
      exact ⟨⟨_, rfl⟩, .inl hJ⟩

end Go.Proofs.YtjfkfiffakbagaaGreatDoor

