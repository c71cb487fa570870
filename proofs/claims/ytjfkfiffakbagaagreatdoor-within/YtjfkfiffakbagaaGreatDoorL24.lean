/-
  Parts of the proof, one behind the other: LineGood, LineOne, PadTxt, ItoaWalk, WordsJoin, NumText, KeepWalks, KeepFeed, KeepReads, KeepMath.
-/
import Derived.Test.YtjfkfiffakbagaaGreatDoorL23
import Derived.Lib.ItoaNum
import Derived.Deep.RegionHeld3
/-
  What any text reads as: one line or none; the numbers of a line lie in their bounds.
-/
namespace Go.Proofs.YtjfkfiffakbagaaGreatDoor
open Go.RowKit
open Desk (Ent St Ids kept booked bookE sumA Items ofB sameB Risen Mid EntOk endsB Inv)

theorem tk_true {ws : List ByteArray} {B : ByteArray → Bool} {n : Nat} {wr : Bool} (h : tkB ws n wr B = true) : wr = false ∧ n < ws.length ∧ B (ws.getD n ByteArray.empty) = true := by
  unfold tkB moreB at h
  simp only [Bool.and_eq_true, Bool.not_eq_true', decide_eq_true_eq] at h
  exact ⟨h.1.1, h.1.2, h.2⟩
theorem stp_back {ws : List ByteArray} {B : ByteArray → Bool} {st : Nat × Bool} (h : (stp ws B st).2 = false) : tkB ws st.1 st.2 B = true := by
  unfold stp tkW at h
  cases e : tkB ws st.1 st.2 B
  · rw [e] at h; simp at h
  · rfl
theorem stp_was {ws : List ByteArray} {B : ByteArray → Bool} {st : Nat × Bool} (h : (stp ws B st).2 = false) : st.2 = false := (tk_true (stp_back h)).1
/-- A step that stood: the word that it took. -/
theorem stp_word {ws : List ByteArray} {B : ByteArray → Bool} {st : Nat × Bool} (h : (stp ws B st).2 = false) : ∃ x, B x = true ∧ ∀ V, valAt ws st B V = V x := by
  have t := stp_back h
  exact ⟨_, (tk_true t).2.2, fun V => by unfold valAt tkV; rw [t]; rfl⟩
theorem stp_name {ws : List ByteArray} {st : Nat × Bool} (h : (stp ws nmB st).2 = false) : ∃ x, nmB x = true ∧ claimS ws st = x := by
  have t := stp_back h
  have hx := (tk_true t).2.2
  refine ⟨_, hx, ?_⟩
  unfold claimS tkS
  have t' : tkB ws st.1 st.2 (fun s => Txt.isName s.data.toList) = true := t
  rw [t']
  exact if_pos hx

theorem un_bd {x : ByteArray} (h : unB x = true) : 1 ≤ nvF x ∧ nvF x ≤ 9 := by
  unfold unB withinB at h
  simp only [Bool.and_eq_true, decide_eq_true_eq] at h
  exact ⟨h.1.2, h.2⟩
theorem mi_bd {x : ByteArray} (h : miB x = true) : 1 ≤ nvF x ∧ nvF x ≤ 1048320 := by
  unfold miB withinB at h
  simp only [Bool.and_eq_true, decide_eq_true_eq] at h
  exact ⟨h.1.2, h.2⟩
theorem ev_bd {x : ByteArray} (h : evB x = true) : 1 ≤ nvF x ∧ nvF x ≤ 99 := by
  unfold evB withinB at h
  simp only [Bool.and_eq_true, decide_eq_true_eq] at h
  exact ⟨h.1.2, h.2⟩
theorem id_bd (x : ByteArray) : 0 ≤ nvF x ∧ nvF x ≤ 9999999 := Txt.numV_bd _
theorem time_bd {x : ByteArray} (h : timeB x = true) : 0 ≤ timW x ∧ timW x ≤ 1048320 := by
  unfold timW
  rw [if_pos h]
  unfold timeB at h
  simp only [Bool.and_eq_true, decide_eq_true_eq] at h
  exact h.2
theorem dayV_bd {x : ByteArray} (h : Txt.dayB x = true) : 0 ≤ dayV x ∧ dayV x < 728 := by
  unfold dayV
  rw [if_pos h]
  unfold Txt.dayB at h
  exact (of_decide_eq_true h).2
theorem min_bd {x : ByteArray} (h : Txt.minB x = true) : 0 ≤ Txt.minV x ∧ Txt.minV x < 1440 := by
  unfold Txt.minV
  rw [if_pos h]
  unfold Txt.minB at h
  obtain ⟨_, _, _, _, h1, h2⟩ := of_decide_eq_true h
  have := Txt.numV_bd (Txt.part x 0 2)
  have := Txt.numV_bd (Txt.part x 3 5)
  omega
theorem nm_size {x : ByteArray} (h : nmB x = true) : x.size ≤ 1000 := by
  unfold nmB Txt.isName at h
  rw [Bool.and_eq_true] at h
  have := of_decide_eq_true h.1
  have e : x.size = x.data.toList.length := by rw [Array.length_toList]; rfl
  omega

theorem end_fine {ws : List ByteArray} {st : Nat × Bool} {ti un : Int} {s : Nat × Bool} (h : EndR ws st ti un s) (h2 : s.2 = false) : st.2 = false ∧ 0 ≤ ti ∧ ti ≤ 99 ∧ 0 ≤ un ∧ un < 728 := by
  cases h with
  | times h =>
    have h2' : (stp ws evB (nxt st)).2 = false := h2
    obtain ⟨x, hx, hv⟩ := stp_word h2'
    have := ev_bd hx
    have hs : (nxt st).2 = false := stp_was h2'
    rw [hv nvF]
    exact ⟨hs, by omega, by omega, by omega, by omega⟩
  | til h1 h =>
    have h2' : (stp ws Txt.dayB (nxt st)).2 = false := h2
    obtain ⟨x, hx, hv⟩ := stp_word h2'
    have := dayV_bd hx
    have hs : (nxt st).2 = false := stp_was h2'
    rw [hv dayV]
    exact ⟨hs, by omega, by omega, by omega, by omega⟩
  | none h1 h => cases h2
theorem pace_fine {ws : List ByteArray} {st : Nat × Bool} {pc ev : Int} {acc : List Int} {s : Nat × Bool} (h : PaceR ws st pc ev acc s) (h2 : s.2 = false) : st.2 = false ∧ 1 ≤ pc ∧ pc ≤ 3 ∧ 1 ≤ ev ∧ ev ≤ 99 := by
  cases h with
  | daily h =>
    have h2' : (stp ws evB (nxt st)).2 = false := h2
    obtain ⟨x, hx, hv⟩ := stp_word h2'
    have := ev_bd hx
    have hs : (nxt st).2 = false := stp_was h2'
    rw [hv nvF]
    exact ⟨hs, by omega, by omega, by omega, by omega⟩
  | weekly h1 h acc ha =>
    have h2' : (stp ws Txt.onB (stp ws evB (nxt st))).2 = false := h2
    have h3 := stp_was h2'
    obtain ⟨x, hx, hv⟩ := stp_word h3
    have := ev_bd hx
    have hs : (nxt st).2 = false := stp_was h3
    rw [hv nvF]
    exact ⟨hs, by omega, by omega, by omega, by omega⟩
  | monthly g1 g2 g =>
    have h2' : (stp ws evB (nxt st)).2 = false := h2
    obtain ⟨x, hx, hv⟩ := stp_word h2'
    have := ev_bd hx
    have hs : (nxt st).2 = false := stp_was h2'
    rw [hv nvF]
    exact ⟨hs, by omega, by omega, by omega, by omega⟩
  | none g1 g2 g => cases h2
theorem rule_parts {ws : List ByteArray} {st : Nat × Bool} {pc ev : Int} {acc : List Int} {fr mn mi ti un : Int} {s : Nat × Bool} (h : RuleR ws st pc ev acc fr mn mi ti un s) : ∃ s0, PaceR ws st pc ev acc s0 ∧ EndR ws (midSt ws s0) ti un s ∧ fr = valAt ws (stps ws [litB fromW] s0) Txt.dayB dayV ∧ mn = valAt ws (stps ws [litB fromW, Txt.dayB, litB atW] s0) Txt.minB Txt.minV ∧ mi = valAt ws (stps ws [litB fromW, Txt.dayB, litB atW, Txt.minB, litB forW] s0) miB nvF := by
  cases h
  exact ⟨_, by assumption, by assumption, rfl, rfl, rfl⟩
theorem rule_fine {ws : List ByteArray} {st : Nat × Bool} {pc ev : Int} {acc : List Int} {fr mn mi ti un : Int} {s : Nat × Bool} (h : RuleR ws st pc ev acc fr mn mi ti un s) (h2 : s.2 = false) : st.2 = false ∧ Rd.Fine ⟨pc, ev, acc, fr, mn, mi, ti, un⟩ := by
  obtain ⟨s0, hp, he, rfl, rfl, rfl⟩ := rule_parts h
  obtain ⟨hm, t0, t1, u0, u1⟩ := end_fine he h2
  have m6 : (stp ws miB (stp ws (litB forW) (stp ws Txt.minB (stp ws (litB atW) (stp ws Txt.dayB (stp ws (litB fromW) s0)))))).2 = false := hm
  have m5 := stp_was m6
  have m4 := stp_was m5
  have m3 := stp_was m4
  have m2 := stp_was m3
  have m1 := stp_was m2
  obtain ⟨hs, p1, p3, e1, e2⟩ := pace_fine hp (stp_was m1)
  obtain ⟨xi, hi, vi⟩ := stp_word m6
  obtain ⟨xm, hx, vm⟩ := stp_word m4
  obtain ⟨xd, hd, vd⟩ := stp_word m2
  have b1 := mi_bd hi
  have b2 := min_bd hx
  have b3 := dayV_bd hd
  refine ⟨hs, ⟨p1, p3, e1, e2, ?_, ?_, ?_, ?_, ?_, ?_, t0, t1, u0, u1⟩⟩
  · show 0 ≤ valAt ws (stp ws (litB fromW) s0) Txt.dayB dayV; rw [vd]; exact b3.1
  · show valAt ws (stp ws (litB fromW) s0) Txt.dayB dayV < 728; rw [vd]; exact b3.2
  · show 0 ≤ valAt ws (stp ws (litB atW) (stp ws Txt.dayB (stp ws (litB fromW) s0))) Txt.minB Txt.minV; rw [vm]; exact b2.1
  · show valAt ws (stp ws (litB atW) (stp ws Txt.dayB (stp ws (litB fromW) s0))) Txt.minB Txt.minV < 1440; rw [vm]; exact b2.2
  · show 1 ≤ valAt ws (stp ws (litB forW) (stp ws Txt.minB (stp ws (litB atW) (stp ws Txt.dayB (stp ws (litB fromW) s0))))) miB nvF; rw [vi]; exact b1.1
  · show valAt ws (stp ws (litB forW) (stp ws Txt.minB (stp ws (litB atW) (stp ws Txt.dayB (stp ws (litB fromW) s0))))) miB nvF ≤ 1048320; rw [vi]; exact b1.2

/-- A reading that stands is a line in its bounds. -/
theorem line_good {ws : List ByteArray} {v : Value} {st : Nat × Bool} (h : LineR ws v st) (h2 : st.2 = false) : ∃ l, LV v l ∧ Desk.LineOk l := by
  cases h with
  | thing h =>
    have k2 : (stp ws unB (stp ws nmB (1, false))).2 = false := h2
    obtain ⟨x, hx, e⟩ := stp_name (stp_was k2)
    obtain ⟨y, hy, f⟩ := stp_word k2
    have f' : valAt ws (stps ws [nmB] (1, false)) unB nvF = nvF y := f nvF
    rw [e, f']
    exact ⟨_, .thing x (nm_size hx) _, un_bd hy⟩
  | book h =>
    have k4 : (stp ws timeB (stp ws timeB (stp ws unB (stp ws nmB (1, false))))).2 = false := h2
    have k3 := stp_was k4
    have k2 := stp_was k3
    obtain ⟨x, hx, e⟩ := stp_name (stp_was k2)
    obtain ⟨y, hy, f⟩ := stp_word k2
    obtain ⟨a, ha, fa⟩ := stp_word k3
    obtain ⟨b, hb, fb⟩ := stp_word k4
    have f' : valAt ws (stps ws [nmB] (1, false)) unB nvF = nvF y := f nvF
    have fa' : valAt ws (stps ws [nmB, unB] (1, false)) timeB timW = timW a := fa timW
    have fb' : valAt ws (stps ws [nmB, unB, timeB] (1, false)) timeB timW = timW b := fb timW
    rw [e, f', fa', fb']
    have := un_bd hy
    have := time_bd ha
    have := time_bd hb
    exact ⟨_, .book x (nm_size hx) _ _ _, .inl ⟨rfl, rfl⟩, by omega, by omega, by omega, by omega, by omega, by omega⟩
  | hold h =>
    have k5 : (stp ws miB (stp ws timeB (stp ws timeB (stp ws unB (stp ws nmB (1, false)))))).2 = false := h2
    have k4 := stp_was k5
    have k3 := stp_was k4
    have k2 := stp_was k3
    obtain ⟨x, hx, e⟩ := stp_name (stp_was k2)
    obtain ⟨y, hy, f⟩ := stp_word k2
    obtain ⟨a, ha, fa⟩ := stp_word k3
    obtain ⟨b, hb, fb⟩ := stp_word k4
    obtain ⟨c, hc, fc⟩ := stp_word k5
    have f' : valAt ws (stps ws [nmB] (1, false)) unB nvF = nvF y := f nvF
    have fa' : valAt ws (stps ws [nmB, unB] (1, false)) timeB timW = timW a := fa timW
    have fb' : valAt ws (stps ws [nmB, unB, timeB] (1, false)) timeB timW = timW b := fb timW
    have fc' : valAt ws (stps ws [nmB, unB, timeB, timeB] (1, false)) miB nvF = nvF c := fc nvF
    rw [e, f', fa', fb', fc']
    have := un_bd hy
    have := time_bd ha
    have := time_bd hb
    have := mi_bd hc
    exact ⟨_, .hold x (nm_size hx) _ _ _ _, .inr ⟨.inl rfl, by omega, by omega⟩, by omega, by omega, by omega, by omega, by omega, by omega⟩
  | wait h =>
    have k5 : (stp ws miB (stp ws timeB (stp ws timeB (stp ws unB (stp ws nmB (1, false)))))).2 = false := h2
    have k4 := stp_was k5
    have k3 := stp_was k4
    have k2 := stp_was k3
    obtain ⟨x, hx, e⟩ := stp_name (stp_was k2)
    obtain ⟨y, hy, f⟩ := stp_word k2
    obtain ⟨a, ha, fa⟩ := stp_word k3
    obtain ⟨b, hb, fb⟩ := stp_word k4
    obtain ⟨c, hc, fc⟩ := stp_word k5
    have f' : valAt ws (stps ws [nmB] (1, false)) unB nvF = nvF y := f nvF
    have fa' : valAt ws (stps ws [nmB, unB] (1, false)) timeB timW = timW a := fa timW
    have fb' : valAt ws (stps ws [nmB, unB, timeB] (1, false)) timeB timW = timW b := fb timW
    have fc' : valAt ws (stps ws [nmB, unB, timeB, timeB] (1, false)) miB nvF = nvF c := fc nvF
    rw [e, f', fa', fb', fc']
    have := un_bd hy
    have := time_bd ha
    have := time_bd hb
    have := mi_bd hc
    exact ⟨_, .wait x (nm_size hx) _ _ _ _, .inr ⟨.inr rfl, by omega, by omega⟩, by omega, by omega, by omega, by omega, by omega, by omega⟩
  | series h pc ev acc fr mn mi ti un s hr =>
    obtain ⟨hs, hf⟩ := rule_fine hr h2
    have k2 : (stp ws unB (stp ws nmB (1, false))).2 = false := hs
    obtain ⟨x, hx, e⟩ := stp_name (stp_was k2)
    obtain ⟨y, hy, f⟩ := stp_word k2
    have f' : valAt ws (stps ws [nmB] (1, false)) unB nvF = nvF y := f nvF
    rw [e, f']
    have := un_bd hy
    exact ⟨_, .series x (nm_size hx) _ ⟨pc, ev, acc, fr, mn, mi, ti, un⟩, by omega, by omega, hf⟩
  | confirm h =>
    have k1 : (stp ws idB (1, false)).2 = false := h2
    obtain ⟨y, hy, f⟩ := stp_word k1
    rw [f nvF]
    exact ⟨_, .confirm _, id_bd y⟩
  | cancel h =>
    have k1 : (stp ws idB (1, false)).2 = false := h2
    obtain ⟨y, hy, f⟩ := stp_word k1
    rw [f nvF]
    exact ⟨_, .cancel _, id_bd y⟩
  | list0 h hm =>
    have k1 : (stp ws nmB (1, false)).2 = false := h2
    obtain ⟨x, hx, e⟩ := stp_name k1
    rw [e]
    exact ⟨_, .list x (nm_size hx) false 0 0 0 1048320 rfl rfl, by omega, by omega, by omega, by omega⟩
  | list1 h hm =>
    have k3 : (stp ws timeB (stp ws timeB (stp ws nmB (1, false)))).2 = false := h2
    have k2 := stp_was k3
    obtain ⟨x, hx, e⟩ := stp_name (stp_was k2)
    obtain ⟨a, ha, fa⟩ := stp_word k2
    obtain ⟨b, hb, fb⟩ := stp_word k3
    have fa' : valAt ws (stps ws [nmB] (1, false)) timeB timW = timW a := fa timW
    have fb' : valAt ws (stps ws [nmB, timeB] (1, false)) timeB timW = timW b := fb timW
    rw [e, fa', fb']
    have := time_bd ha
    have := time_bd hb
    exact ⟨_, .list x (nm_size hx) true _ _ _ _ rfl rfl, by simp only [if_true]; omega, by simp only [if_true]; omega, by simp only [if_true]; omega, by simp only [if_true]; omega⟩
  | waiting h => exact ⟨_, .waiting, trivial⟩
  | peak h =>
    have k3 : (stp ws timeB (stp ws timeB (stp ws nmB (1, false)))).2 = false := h2
    have k2 := stp_was k3
    obtain ⟨x, hx, e⟩ := stp_name (stp_was k2)
    obtain ⟨a, ha, fa⟩ := stp_word k2
    obtain ⟨b, hb, fb⟩ := stp_word k3
    have fa' : valAt ws (stps ws [nmB] (1, false)) timeB timW = timW a := fa timW
    have fb' : valAt ws (stps ws [nmB, timeB] (1, false)) timeB timW = timW b := fb timW
    rw [e, fa', fb']
    have := time_bd ha
    have := time_bd hb
    exact ⟨_, .peak x (nm_size hx) _ _, by omega, by omega, by omega, by omega⟩
  | find h =>
    have k5 : (stp ws timeB (stp ws timeB (stp ws miB (stp ws unB (stp ws nmB (1, false)))))).2 = false := h2
    have k4 := stp_was k5
    have k3 := stp_was k4
    have k2 := stp_was k3
    obtain ⟨x, hx, e⟩ := stp_name (stp_was k2)
    obtain ⟨y, hy, f⟩ := stp_word k2
    obtain ⟨c, hc, fc⟩ := stp_word k3
    obtain ⟨a, ha, fa⟩ := stp_word k4
    obtain ⟨b, hb, fb⟩ := stp_word k5
    have f' : valAt ws (stps ws [nmB] (1, false)) unB nvF = nvF y := f nvF
    have fc' : valAt ws (stps ws [nmB, unB] (1, false)) miB nvF = nvF c := fc nvF
    have fa' : valAt ws (stps ws [nmB, unB, miB] (1, false)) timeB timW = timW a := fa timW
    have fb' : valAt ws (stps ws [nmB, unB, miB, timeB] (1, false)) timeB timW = timW b := fb timW
    rw [e, f', fc', fa', fb']
    have := un_bd hy
    have := time_bd ha
    have := time_bd hb
    have := mi_bd hc
    exact ⟨_, .find x (nm_size hx) _ _ _ _, by omega, by omega, by omega, by omega, by omega, by omega, by omega, by omega⟩
  | expand h pc ev acc fr mn mi ti un s hr =>
    obtain ⟨hs, hf⟩ := rule_fine hr h2
    exact ⟨_, .expand ⟨pc, ev, acc, fr, mn, mi, ti, un⟩, hf⟩
  | tick h =>
    have k1 : (stp ws miB (1, false)).2 = false := h2
    obtain ⟨y, hy, f⟩ := stp_word k1
    rw [f nvF]
    exact ⟨_, .tick _, mi_bd hy⟩
  | clock h => exact ⟨_, .clock, trivial⟩
  | none => cases h2

end Go.Proofs.YtjfkfiffakbagaaGreatDoor


/-
  A text reads in one way alone.
-/
namespace Go.Proofs.YtjfkfiffakbagaaGreatDoor
open Go.RowKit
open Desk (Ent St Ids kept booked bookE sumA Items ofB sameB Risen Mid EntOk endsB Inv)

theorem isB_as {ws : List ByteArray} {x : ByteArray} (h : isB ws 0 false x = true) (y : ByteArray) : isB ws 0 false y = (x.toList == y.toList) := by
  unfold isB at h ⊢
  rw [Bool.and_eq_true] at h
  have e := eq_of_beq h.2
  rw [h.1, e, Bool.true_and]
/-- The type of a line. -/
def tagV : Value → Nat
  | .iface t _ => t
  | _ => 0
def tyL : List (ByteArray × Nat) := [(thingW, 143), (bookW, 148), (holdW, 150), (waitW, 151), (seriesW, 159), (confirmW, 161), (cancelW, 162), (listW, 164), (waitingW, 167), (peakW, 170), (findW, 172), (expandW, 174), (tickW, 176), (clockW, 177)]
def tyF (f : ByteArray → Bool) : Nat := ((tyL.find? fun p => f p.1).map (·.2)).getD 0
theorem tyF_as {ws : List ByteArray} {x : ByteArray} (h : isB ws 0 false x = true) : tyF (isB ws 0 false) = tyF (fun y => x.toList == y.toList) := by
  rw [show isB ws 0 false = fun y => x.toList == y.toList from funext (isB_as h)]
theorem LineR.tag {ws : List ByteArray} {v : Value} {s : Nat × Bool} (h : LineR ws v s) : tagV v = tyF (isB ws 0 false) := by
  cases h with
  | none h0 h1 h2 h3 h4 h5 h6 h7 h8 h9 h10 h11 h12 h13 => simp [tagV, tyF, tyL, h0, h1, h2, h3, h4, h5, h6, h7, h8, h9, h10, h11, h12, h13]
  | thing h => rw [tyF_as h]; exact (by decide +kernel : 143 = tyF (fun y => thingW.toList == y.toList))
  | book h => rw [tyF_as h]; exact (by decide +kernel : 148 = tyF (fun y => bookW.toList == y.toList))
  | hold h => rw [tyF_as h]; exact (by decide +kernel : 150 = tyF (fun y => holdW.toList == y.toList))
  | wait h => rw [tyF_as h]; exact (by decide +kernel : 151 = tyF (fun y => waitW.toList == y.toList))
  | series h => rw [tyF_as h]; exact (by decide +kernel : 159 = tyF (fun y => seriesW.toList == y.toList))
  | confirm h => rw [tyF_as h]; exact (by decide +kernel : 161 = tyF (fun y => confirmW.toList == y.toList))
  | cancel h => rw [tyF_as h]; exact (by decide +kernel : 162 = tyF (fun y => cancelW.toList == y.toList))
  | list0 h => rw [tyF_as h]; exact (by decide +kernel : 164 = tyF (fun y => listW.toList == y.toList))
  | list1 h => rw [tyF_as h]; exact (by decide +kernel : 164 = tyF (fun y => listW.toList == y.toList))
  | waiting h => rw [tyF_as h]; exact (by decide +kernel : 167 = tyF (fun y => waitingW.toList == y.toList))
  | peak h => rw [tyF_as h]; exact (by decide +kernel : 170 = tyF (fun y => peakW.toList == y.toList))
  | find h => rw [tyF_as h]; exact (by decide +kernel : 172 = tyF (fun y => findW.toList == y.toList))
  | expand h => rw [tyF_as h]; exact (by decide +kernel : 174 = tyF (fun y => expandW.toList == y.toList))
  | tick h => rw [tyF_as h]; exact (by decide +kernel : 176 = tyF (fun y => tickW.toList == y.toList))
  | clock h => rw [tyF_as h]; exact (by decide +kernel : 177 = tyF (fun y => clockW.toList == y.toList))

theorem end_one {ws : List ByteArray} {st : Nat × Bool} {ti un ti' un' : Int} {s s' : Nat × Bool} (h : EndR ws st ti un s) (h' : EndR ws st ti' un' s') : s = s' ∧ ti = ti' ∧ un = un' := by
  cases h <;> cases h' <;> first | exact ⟨rfl, rfl, rfl⟩ | (simp_all; done)
theorem pace_one {ws : List ByteArray} {st : Nat × Bool} {pc ev pc' ev' : Int} {acc acc' : List Int} {s s' : Nat × Bool} (h : PaceR ws st pc ev acc s) (h' : PaceR ws st pc' ev' acc' s') : s = s' ∧ pc = pc' ∧ ev = ev' ∧ (s.2 = false → acc = acc') := by
  cases h with
  | daily h => cases h' <;> first | exact ⟨rfl, rfl, rfl, fun _ => rfl⟩ | (simp_all; done)
  | monthly h1 h2 h => cases h' <;> first | exact ⟨rfl, rfl, rfl, fun _ => rfl⟩ | (simp_all; done)
  | none h1 h2 h => cases h' <;> first | exact ⟨rfl, rfl, rfl, fun _ => rfl⟩ | (simp_all; done)
  | weekly h1 h acc ha =>
    cases h' with
    | daily g => rw [g] at h1; cases h1
    | weekly g1 g acc' ga =>
      refine ⟨rfl, rfl, rfl, fun h2 => ?_⟩
      have t : tkB ws (stps ws [evB] (nxt st)).1 (stps ws [evB] (nxt st)).2 Txt.onB = true := stp_back (B := Txt.onB) (st := stps ws [evB] (nxt st)) h2
      exact Option.some.inj ((ha t).symm.trans (ga t))
    | monthly g1 g2 g => rw [h] at g2; cases g2
    | none g1 g2 g => rw [h] at g2; cases g2
theorem rule_one {ws : List ByteArray} {st : Nat × Bool} {pc ev : Int} {acc : List Int} {fr mn mi ti un : Int} {s : Nat × Bool} {pc' ev' : Int} {acc' : List Int} {fr' mn' mi' ti' un' : Int} {s' : Nat × Bool} (h : RuleR ws st pc ev acc fr mn mi ti un s) (h' : RuleR ws st pc' ev' acc' fr' mn' mi' ti' un' s') :
    s = s' ∧ pc = pc' ∧ ev = ev' ∧ (s.2 = false → acc = acc') ∧ fr = fr' ∧ mn = mn' ∧ mi = mi' ∧ ti = ti' ∧ un = un' := by
  obtain ⟨s0, hp, he, rfl, rfl, rfl⟩ := rule_parts h
  obtain ⟨s0', hp', he', rfl, rfl, rfl⟩ := rule_parts h'
  obtain ⟨rfl, rfl, rfl, ha⟩ := pace_one hp hp'
  obtain ⟨rfl, rfl, rfl⟩ := end_one he he'
  refine ⟨rfl, rfl, rfl, fun h2 => ha ?_, rfl, rfl, rfl, rfl, rfl⟩
  have hm := (end_fine he h2).1
  have m6 : (stp ws miB (stp ws (litB forW) (stp ws Txt.minB (stp ws (litB atW) (stp ws Txt.dayB (stp ws (litB fromW) s0)))))).2 = false := hm
  exact stp_was (stp_was (stp_was (stp_was (stp_was (stp_was m6)))))
theorem line_one {ws : List ByteArray} {v v' : Value} {s s' : Nat × Bool} (h1 : LineR ws v s) (h2 : LineR ws v' s') : s = s' ∧ (s.2 = false → v = v') := by
  have e : tagV v = tagV v' := h1.tag.trans h2.tag.symm
  cases h1 with
  | series h pc ev acc fr mn mi ti un s hr =>
    cases h2 with
    | series h' pc' ev' acc' fr' mn' mi' ti' un' s' hr' =>
      obtain ⟨rfl, rfl, rfl, ha, rfl, rfl, rfl, rfl, rfl⟩ := rule_one hr hr'
      exact ⟨rfl, fun h2 => by rw [ha h2]⟩
    | _ => exact absurd e (by simp [tagV])
  | expand h pc ev acc fr mn mi ti un s hr =>
    cases h2 with
    | expand h' pc' ev' acc' fr' mn' mi' ti' un' s' hr' =>
      obtain ⟨rfl, rfl, rfl, ha, rfl, rfl, rfl, rfl, rfl⟩ := rule_one hr hr'
      exact ⟨rfl, fun h2 => by rw [ha h2]⟩
    | _ => exact absurd e (by simp [tagV])
  | list0 h hm =>
    cases h2 with
    | list0 h' hm' => exact ⟨rfl, fun _ => rfl⟩
    | list1 h' hm' => rw [hm] at hm'; cases hm'
    | _ => exact absurd e (by simp [tagV])
  | list1 h hm =>
    cases h2 with
    | list0 h' hm' => rw [hm] at hm'; cases hm'
    | list1 h' hm' => exact ⟨rfl, fun _ => rfl⟩
    | _ => exact absurd e (by simp [tagV])
  | _ => cases h2 <;> first | exact ⟨rfl, fun _ => rfl⟩ | exact absurd e (by simp [tagV])
theorem read_one {t : ByteArray} {e e' : Ending} (h : ReadR t e) (h' : ReadR t e') : e = e' := by
  cases h with
  | long h =>
    cases h' with
    | long h' => rfl
    | bad h' => omega
    | good h' => omega
  | bad h v st hl hb =>
    cases h' with
    | long h' => omega
    | bad h' v' st' hl' hb' => obtain ⟨rfl, _⟩ := line_one hl hl'; rfl
    | good h' v' st' hl' h2 hb' =>
      obtain ⟨rfl, _⟩ := line_one hl hl'
      rcases hb with hb | hb
      · rw [h2] at hb; cases hb
      · rw [hb'] at hb; cases hb
  | good h v st hl h2 hb =>
    cases h' with
    | long h' => omega
    | bad h' v' st' hl' hb' =>
      obtain ⟨rfl, _⟩ := line_one hl hl'
      rcases hb' with hb' | hb'
      · rw [h2] at hb'; cases hb'
      · rw [hb] at hb'; cases hb'
    | good h' v' st' hl' h2' hb' => obtain ⟨rfl, hv⟩ := line_one hl hl'; rw [hv h2]

/-- What a text reads as: an error with its place, or a line. -/
def TextIs (t : ByteArray) : (Int × Int) ⊕ Desk.Line → Prop
  | .inl (er, at_) => er ≠ 0 ∧ (er = 1 ∧ at_ = 0 ∨ er = 2 ∧ 0 ≤ at_) ∧ ∀ e, ReadR t e → e = .returned (.tuple #[.nilIface, .int .i64 er, .int .i64 at_])
  | .inr l => ∃ line, (∀ e, ReadR t e → e = .returned (.tuple #[line, .int .i64 0, .int .i64 0])) ∧ LV line l ∧ Desk.LineOk l
theorem text_is (t : ByteArray) : ∃ o, TextIs t o := by
  by_cases h : ∃ e, ReadR t e
  · obtain ⟨e, he⟩ := h
    cases he with
    | long h => exact ⟨.inl (1, 0), by decide, .inl ⟨rfl, rfl⟩, fun e he => read_one he (.long h)⟩
    | bad h v st hl hb => exact ⟨.inl (2, st.1), by decide, .inr ⟨rfl, by omega⟩, fun e he => read_one he (.bad h v st hl hb)⟩
    | good h v st hl h2 hb =>
      obtain ⟨l, h1, h3⟩ := line_good hl h2
      exact ⟨.inr l, v, fun e he => read_one he (.good h v st hl h2 hb), h1, h3⟩
  · exact ⟨.inl (1, 0), by decide, .inl ⟨rfl, rfl⟩, fun e he => absurd ⟨e, he⟩ h⟩
noncomputable def readT (t : ByteArray) : (Int × Int) ⊕ Desk.Line := Classical.choose (text_is t)
theorem readT_is (t : ByteArray) : TextIs t (readT t) := Classical.choose_spec (text_is t)
/-- What a desk does at a text. -/
noncomputable def stepT (s : St) (t : ByteArray) : St × Desk.Rep :=
  match readT t with
  | .inl (er, at_) => (s, ⟨er, at_, 0, [], [], [], []⟩)
  | .inr l => Desk.stepD s l
/-- Do, at any text. -/
theorem bDo_any {w : World} {p d : Nat} {s : St} {r : Raw} {col : Nat → Option Col} (h : BD w p d s r col) (t : ByteArray) :
    Calls Tryz.prog 20 #[.pointer (some ⟨p, 0, none⟩), .string t] w fun e w' => ∃ v, e = .returned v ∧ BPost w p d col (stepT s t) v w' := by
  have hr := readT_is t
  unfold stepT
  generalize readT t = o at hr ⊢
  cases o with
  | inl q =>
    obtain ⟨er, at_⟩ := q
    exact bDo_bad h t er at_ hr.1 hr.2.2
  | inr l =>
    obtain ⟨line, h1, h2, h3⟩ := hr
    exact bDo_line h t h1 h2 h3

end Go.Proofs.YtjfkfiffakbagaaGreatDoor


/-
  The plain mathematics of numbers as texts: digits, noughts ahead.
-/
namespace Go.Proofs.YtjfkfiffakbagaaGreatDoor.Txt
open Go

theorem dec_len : ∀ (k u : Nat), u < 10 ^ (k + 1) → (Lib.decDigits u).length ≤ k + 1
  | 0, u, h => by rw [Lib.decDigits]; simp at h; rw [dif_pos h]; simp
  | k + 1, u, h => by
    rw [Lib.decDigits]
    split
    · simp
    · have := dec_len k (u / 10) (by rw [Nat.pow_succ] at h; omega)
      simp; omega
def itoaS (n : Int) : ByteArray := ⟨(Lib.itoa n).toArray⟩
theorem itoa_size (n : Int) (h0 : 0 ≤ n) (h : n ≤ 9999999) : (itoaS n).size ≤ 7 := by
  rw [← len_list]
  unfold itoaS Lib.itoa
  rw [if_neg (by omega)]
  have := dec_len 6 n.toNat (by omega)
  simpa using this
/-- Noughts ahead. -/
def pz : Nat → ByteArray → ByteArray
  | 0, t => t
  | k + 1, t => pz k (⟨#[48]⟩ ++ t)
def padS (n : Int) (size : Nat) : ByteArray := pz (size - (itoaS n).size) (itoaS n)
theorem dec_small (u : Nat) (h : u < 10) : Lib.decDigits u = [UInt8.ofNat (48 + u)] := by
  rw [Lib.decDigits, dif_pos h]
theorem dec_big (u : Nat) (h : ¬ u < 10) : Lib.decDigits u = Lib.decDigits (u / 10) ++ [UInt8.ofNat (48 + u % 10)] := by
  rw [Lib.decDigits, dif_neg h]

end Go.Proofs.YtjfkfiffakbagaaGreatDoor.Txt


/-
  A number is written.
-/
namespace Go.Proofs.YtjfkfiffakbagaaGreatDoor
open Go.RowKit

theorem grow_below (w : World) (k : Nat) (os : Array Obj) : Below w.heap.size w (Sort.grow (w.drewN k) os) :=
  ⟨rfl, rfl, rfl, by simp [Sort.grow], fun j hj => by simp only [Sort.grow, World.heap_drewN]; rw [Array.getElem?_append_left hj]⟩
theorem itoa_any (n : Int) (w : World) (he : Env w) (h0 : -9223372036854775808 ≤ n) (h1 : n ≤ 9223372036854775807) :
    Calls Tryz.prog 44 #[.int .i64 n] w fun e w' => e = .returned (.string (Txt.itoaS n)) ∧ Below w.heap.size w w' := by
  refine (Tryz.strconv_Itoa n h0 h1 w he.pow).mono ?_
  rintro e w' ⟨rfl, k, os, rfl⟩
  exact ⟨rfl, grow_below w k os⟩

end Go.Proofs.YtjfkfiffakbagaaGreatDoor


/-
  The words of a text that was put together of words, as mathematics.
-/
namespace Go.Proofs.YtjfkfiffakbagaaGreatDoor.Txt
open Go

/-- One byte more: the words so far, and the one that is begun. -/
def wstep (x : List (List UInt8) × List UInt8) (c : UInt8) : List (List UInt8) × List UInt8 := if c = 32 then ((if x.2 = [] then x.1 else x.1 ++ [x.2]), []) else (x.1, x.2 ++ [c])
def wfold (l : List UInt8) : List (List UInt8) × List UInt8 := l.foldl wstep ([], [])
def wfin (x : List (List UInt8) × List UInt8) : List (List UInt8) := if x.2 = [] then x.1 else x.1 ++ [x.2]
def wordsL (l : List UInt8) : List (List UInt8) := wfin (wfold l)

theorem bytes_ext {a b : ByteArray} (h : a.data.toList = b.data.toList) : a = b := by
  cases a; cases b
  simp only [ByteArray.mk.injEq]
  exact Array.toList_inj.1 h
theorem size_list (s : ByteArray) : s.data.toList.length = s.size := by rw [Array.length_toList]; rfl
theorem byte32 (s : ByteArray) (k : Nat) (h : k < s.size) : byteAt s k = 32 ↔ s.data.toList[k]'(by rw [size_list]; exact h) = 32 := by
  have hl : k < s.data.toList.length := by rw [size_list]; exact h
  have e : byteAt s k = ((s.data.toList[k]).toNat : Int) := by
    unfold byteAt
    rw [List.getD_eq_getElem?_getD, List.getElem?_eq_getElem hl]
    rfl
  rw [e]
  constructor
  · intro e1
    apply UInt8.toNat_inj.1
    show (s.data.toList[k]).toNat = 32
    omega
  · intro k; rw [k]; rfl
theorem one_byte (s : ByteArray) (k : Nat) (h : k < s.size) : (s.extract k (k + 1)).data.toList = [s.data.toList[k]'(by rw [size_list]; exact h)] := by
  have hl : k < s.data.toList.length := by rw [size_list]; exact h
  rw [ByteArray.data_extract, Array.toList_extract, List.extract_eq_take_drop]
  rw [Nat.add_sub_cancel_left, List.drop_eq_getElem_cons hl]
  simp
theorem size_zero (b : ByteArray) : b.size = 0 ↔ b.data.toList = [] := by
  rw [← size_list]; exact List.length_eq_zero_iff
theorem fold_is (s : ByteArray) : ∀ k : Nat, k ≤ s.size → (s.data.toList.take k).foldl wstep ([], []) = ((accS s k).map (·.data.toList), (curS s k).data.toList)
  | 0, _ => by
    have h1 := acc_len s 0
    have h2 := cur_size s 0
    have e1 : accS s 0 = [] := List.length_eq_zero_iff.1 (by omega)
    have e2 : (curS s 0).data.toList = [] := (size_zero _).1 (by omega)
    simp [e1, e2]
  | k + 1, h => by
    have ih := fold_is s k (by omega)
    have hl : k < s.data.toList.length := by rw [size_list]; omega
    rw [List.take_succ_eq_append_getElem hl, List.foldl_append, ih]
    simp only [List.foldl_cons, List.foldl_nil]
    unfold wstep
    by_cases c : byteAt s k = 32
    · rw [if_pos ((byte32 s k (by omega)).1 c)]
      obtain ⟨h1, h2⟩ := cur_blank s k (by omega) c
      rw [h1, h2]
      refine Prod.ext ?_ rfl
      show (if (curS s k).data.toList = [] then _ else _) = _
      by_cases d : (curS s k).size = 0
      · rw [if_pos ((size_zero _).1 d), if_pos d, List.append_nil]
      · rw [if_neg (fun e => d ((size_zero _).2 e)), if_neg d, List.map_append]
        rfl
    · rw [if_neg (fun e => c ((byte32 s k (by omega)).2 e))]
      obtain ⟨h1, h2⟩ := cur_next s k c
      rw [h2, ← h1, append_list, one_byte s k (by omega)]
/-- The words of a text, by its bytes. -/
theorem words_list (s : ByteArray) : (wordsS s).map (·.data.toList) = wordsL s.data.toList := by
  have h := fold_is s s.size (Nat.le_refl _)
  rw [List.take_of_length_le (by rw [size_list]; exact Nat.le_refl _)] at h
  unfold wordsL wfold wfin
  rw [h, words_end, List.map_append]
  by_cases d : (curS s s.size).size = 0
  · rw [if_pos d, if_pos ((size_zero _).1 d)]; simp
  · rw [if_neg d, if_neg (fun e => d ((size_zero _).2 e))]; simp
theorem words_of {s : ByteArray} {ws : List ByteArray} (h : wordsL s.data.toList = ws.map (·.data.toList)) : wordsS s = ws := by
  rw [← words_list] at h
  generalize wordsS s = l at h
  induction l generalizing ws with
  | nil =>
    cases ws with
    | nil => rfl
    | cons w ws => simp at h
  | cons x l ih =>
    cases ws with
    | nil => simp at h
    | cons w ws =>
      simp only [List.map_cons, List.cons.injEq] at h
      rw [bytes_ext h.1, ih h.2]

/-- A word: some bytes, none a blank. -/
def wordB (w : List UInt8) : Bool := !w.isEmpty && w.all fun c => decide (c ≠ 32)
theorem wordB_iff {w : List UInt8} : wordB w = true ↔ w ≠ [] ∧ ∀ c ∈ w, c ≠ 32 := by
  unfold wordB
  rw [Bool.and_eq_true, List.all_eq_true]
  constructor
  · rintro ⟨h1, h2⟩
    exact ⟨fun e => by simp [e] at h1, fun c hc => by simpa using h2 c hc⟩
  · rintro ⟨h1, h2⟩
    exact ⟨by cases w <;> simp at h1 ⊢, fun c hc => by simpa using h2 c hc⟩
theorem fold_word {w : List UInt8} (h : ∀ c ∈ w, c ≠ 32) : ∀ x : List (List UInt8) × List UInt8, w.foldl wstep x = (x.1, x.2 ++ w) := by
  induction w with
  | nil => intro x; simp
  | cons c w ih =>
    intro x
    rw [List.foldl_cons]
    have : wstep x c = (x.1, x.2 ++ [c]) := by unfold wstep; rw [if_neg (h c (by simp))]
    rw [this, ih (fun d hd => h d (by simp [hd]))]
    simp
theorem step_blank (x : List (List UInt8) × List UInt8) : wstep x 32 = (wfin x, []) := by
  unfold wstep wfin; rw [if_pos rfl]
/-- Words with one blank between each two. -/
def jb : List (List UInt8) → List UInt8
  | [] => []
  | w :: r => w ++ (match r with | [] => [] | _ :: _ => 32 :: jb r)
theorem jb_cons2 (w v : List UInt8) (r : List (List UInt8)) : jb (w :: v :: r) = w ++ 32 :: jb (v :: r) := rfl
theorem jb_one (w : List UInt8) : jb [w] = w := by simp [jb]
theorem fold_jb : ∀ (ws : List (List UInt8)) (acc : List (List UInt8)), (∀ w ∈ ws, wordB w = true) → wfin ((jb ws).foldl wstep (acc, [])) = acc ++ ws
  | [], acc, _ => by simp [jb, wfin]
  | [w], acc, h => by
    obtain ⟨h1, h2⟩ := wordB_iff.1 (h w (by simp))
    rw [jb_one, fold_word h2]
    simp [wfin, h1]
  | w :: v :: r, acc, h => by
    obtain ⟨h1, h2⟩ := wordB_iff.1 (h w (by simp))
    rw [jb_cons2, List.foldl_append, fold_word h2, List.foldl_cons, step_blank]
    have e : wfin (acc, [] ++ w) = acc ++ [w] := by simp [wfin, h1]
    rw [e, fold_jb (v :: r) (acc ++ [w]) (fun z hz => h z (by simp at hz ⊢; exact .inr hz))]
    simp
theorem words_jb {ws : List (List UInt8)} (h : ∀ w ∈ ws, wordB w = true) : wordsL (jb ws) = ws := by
  unfold wordsL wfold
  rw [fold_jb ws [] h]; simp
theorem words_text {s : ByteArray} {ws : List ByteArray} (hs : s.data.toList = jb (ws.map (·.data.toList))) (h : ∀ w ∈ ws, wordB w.data.toList = true) : wordsS s = ws := by
  apply words_of
  rw [hs]
  apply words_jb
  intro w hw
  obtain ⟨v, hv, rfl⟩ := List.mem_map.1 hw
  exact h v hv

end Go.Proofs.YtjfkfiffakbagaaGreatDoor.Txt


/-
  A number written as a text, and read again: as mathematics.
-/
namespace Go.Proofs.YtjfkfiffakbagaaGreatDoor.Txt
open Go

theorem dig_of (u : Nat) (h : u < 10) : dig (UInt8.ofNat (48 + u)) = true ∧ ((UInt8.ofNat (48 + u)).toNat : Int) = 48 + u := by
  have e : (UInt8.ofNat (48 + u)).toNat = 48 + u := by rw [UInt8.toNat_ofNat']; omega
  refine ⟨?_, by rw [e]; omega⟩
  unfold dig
  rw [e]
  exact decide_eq_true (by omega)
theorem dec_back (n : Nat) : digs (Lib.decDigits n) = true ∧ numL (Lib.decDigits n) = n ∧ 1 ≤ (Lib.decDigits n).length := by
  induction n using Nat.strongRecOn with
  | _ n ih =>
    by_cases c : n < 10
    · rw [dec_small n c]
      obtain ⟨h1, h2⟩ := dig_of n c
      refine ⟨by unfold digs; rw [List.all_cons, h1]; rfl, ?_, by simp⟩
      unfold numL
      simp only [List.foldl_cons, List.foldl_nil]
      omega
    · rw [dec_big n c]
      obtain ⟨i1, i2, i3⟩ := ih (n / 10) (by omega)
      obtain ⟨h1, h2⟩ := dig_of (n % 10) (by omega)
      refine ⟨?_, ?_, by simp⟩
      · unfold digs at i1 ⊢
        rw [List.all_append, i1, List.all_cons, h1]; rfl
      · rw [numL_snoc, i2, h2]; omega
theorem itoa_list (n : Int) (h : 0 ≤ n) : (itoaS n).data.toList = Lib.decDigits n.toNat := by
  unfold itoaS Lib.itoa
  rw [if_neg (by omega)]
/-- A number of at most seven digits is a NUM, and is read as itself. -/
theorem itoa_num {n : Int} (h0 : 0 ≤ n) (h1 : n ≤ 9999999) : isNum (itoaS n).data.toList = true ∧ numV (itoaS n).data.toList = n := by
  obtain ⟨d1, d2, d3⟩ := dec_back n.toNat
  have hl := dec_len 6 n.toNat (by omega)
  have e : isNum (itoaS n).data.toList = true := by
    rw [itoa_list n h0]
    unfold isNum
    rw [d1, decide_eq_true (by omega)]; rfl
  refine ⟨e, ?_⟩
  unfold numV
  rw [if_pos e, itoa_list n h0, d2]; omega
theorem digs_word {l : List UInt8} (h : digs l = true) (hl : 1 ≤ l.length) : wordB l = true := by
  rw [wordB_iff]
  refine ⟨fun e => by rw [e] at hl; simp at hl, fun c hc e => ?_⟩
  have := List.all_eq_true.1 h c hc
  rw [e] at this
  exact absurd this (by decide)
theorem itoa_word {n : Int} (h : 0 ≤ n) : wordB (itoaS n).data.toList = true := by
  obtain ⟨d1, _, d3⟩ := dec_back n.toNat
  rw [itoa_list n h]
  exact digs_word d1 d3

end Go.Proofs.YtjfkfiffakbagaaGreatDoor.Txt


/-
  The small functions of bookingskeep: pick, num, two, sameInts.
-/
namespace Go.Proofs.YtjfkfiffakbagaaGreatDoor
open Go.RowKit

theorem wrap_all {x : Int} (h1 : -9223372036854775808 ≤ x) (h2 : x ≤ 9223372036854775807) : IntKind.i64.wrap x = x := by
  rw [IntKind.wrap_i64]; omega
def pickV (c n : Int) : Int := (if c < 0 then -(c + 1) else c) % n
theorem pickV_bd {c n : Int} (hn : 1 ≤ n) : 0 ≤ pickV c n ∧ pickV c n < n := ⟨Int.emod_nonneg _ (by omega), Int.emod_lt_of_pos _ (by omega)⟩

set_option maxHeartbeats 1000000 in
theorem pickN_any (c n : Int) (w : World) (h1 : -9223372036854775808 ≤ c) (h2 : c ≤ 9223372036854775807) (hn : 1 ≤ n) (hn2 : n ≤ 1000000) :
    Calls Tryz.prog 29 #[.int .i64 c, .int .i64 n] w fun e w' => e = .returned (.int .i64 (pickV c n)) ∧ w' = w := by
  have hz : (n == 0) = false := by simp; omega
  have hb := pickV_bd (c := c) hn
  by_cases h : c < 0
  · have k1 : IntKind.i64.wrap (c + 1) = c + 1 := wrap_all (by omega) (by omega)
    have k2 : IntKind.i64.wrap (-(c + 1)) = -(c + 1) := wrap_all (by omega) (by omega)
    have e : (-(c + 1)).tmod n = pickV c n := by unfold pickV; rw [if_pos h]; exact Int.tmod_eq_emod_of_nonneg (by omega)
    have k3 : IntKind.i64.wrap (pickV c n) = pickV c n := wrap_small (by omega) (by omega)
    generalize pickV c n = v at *
    go_enter Tryz.func29, Tryz.ntmps29
    go_wp2_with fail
    go_ret
    simp_all
  · have e : c.tmod n = pickV c n := by unfold pickV; rw [if_neg h]; exact Int.tmod_eq_emod_of_nonneg (by omega)
    have k3 : IntKind.i64.wrap (pickV c n) = pickV c n := wrap_small (by omega) (by omega)
    generalize pickV c n = v at *
    go_enter Tryz.func29, Tryz.ntmps29
    go_wp2_with fail
    go_ret
    simp_all

set_option maxHeartbeats 1000000 in
theorem kNum_any (n : Int) (w : World) (he : Env w) (h0 : -9223372036854775808 ≤ n) (h1 : n ≤ 9223372036854775807) :
    Calls Tryz.prog 21 #[.int .i64 n] w fun e w' => e = .returned (.string (Txt.itoaS n)) ∧ Below w.heap.size w w' := by
  have IT := hidp (itoa_any n w he h0 h1)
  clear he
  go_enter Tryz.func21, Tryz.ntmps21
  go_wp2_with (first
    | (go_at_call 44; refine IT.out.mono ?_; rintro e w1 ⟨rfl, hb⟩))
  go_ret
  exact ⟨rfl, hb⟩

end Go.Proofs.YtjfkfiffakbagaaGreatDoor


/-
  bookingskeep: raw bytes, and what is made of them.
-/
namespace Go.Proofs.YtjfkfiffakbagaaGreatDoor
open Go.RowKit

/-- Raw bytes, and how far they are read. -/
structure FeedB (w : World) (F : Nat) (s : ByteArray) (a : Nat) : Prop where
  b : w.heap[F]? = some (.cells #[.string s, .int .i64 (a : Int)] 47 (0, 0))
  le : a ≤ s.size
  sz : s.size ≤ 9223372036854775807
/-- Nothing but the bytes' block has changed since. -/
structure FW (w0 : World) (F : Nat) (s : ByteArray) (w : World) : Prop where
  fd : ∃ a, FeedB w F s a
  env : Env w
  off : Off [F] w0 w
  ten : 10 ≤ F
theorem FW.lt {w0 w : World} {F : Nat} {s : ByteArray} (h : FW w0 F s w) : F < w.heap.size := by
  obtain ⟨a, h⟩ := h.fd
  exact (Array.getElem?_eq_some_iff.1 h.b).1
theorem off_ten {F : Nat} {w w' : World} (k : Off [F] w w') (hF : 10 ≤ F) (hs : 10 ≤ w.heap.size) : Below 10 w w' :=
  ⟨k.os, k.tape, k.output, k.size, fun b hb => k.block b (by omega) (by simp; omega)⟩
theorem FW.later {w0 w w' : World} {F : Nat} {s : ByteArray} (h : FW w0 F s w) (k : Below w.heap.size w w') : FW w0 F s w' := by
  obtain ⟨a, fd⟩ := h.fd
  exact ⟨⟨a, (k.block F h.lt).trans fd.b, fd.le, fd.sz⟩, h.env.later k, h.off.trans (Off.of_below k), h.ten⟩
theorem FW.drew {w0 w : World} {F : Nat} {s : ByteArray} (h : FW w0 F s w) : FW w0 F s w.drew := h.later (blwDrew w)
theorem FW.alloc {w0 w : World} {F : Nat} {s : ByteArray} (h : FW w0 F s w) (o : Obj) : FW w0 F s (w.alloc o) := h.later ((Below.refl w.heap.size w).alloc (Nat.le_refl _) o)
theorem FW.set {w0 w : World} {F : Nat} {s : ByteArray} (h : FW w0 F s w) {R : Nat} (hR : w0.heap.size ≤ R) (hF : R ≠ F) (h10 : 10 ≤ R) (o : Nat) (v : Value) : FW w0 F s (w.setCell ⟨R, o, none⟩ v) := by
  obtain ⟨a, fd⟩ := h.fd
  have k := Off.set0 R w o v
  exact ⟨⟨a, (k.block F h.lt (by simp; exact fun e => hF e.symm)).trans fd.b, fd.le, fd.sz⟩, h.env.ten (off_ten k h10 h.env.size), h.off.setCell (.inr hR) o v, h.ten⟩
theorem set_row {W : World} {b i : Nat} {cs : Array Value} {t : TypeId} {q : Nat × Nat} (h : W.heap[b]? = some (.cells cs t q)) (v : Value) : (W.setCell ⟨b, i, none⟩ v).heap[b]? = some (.cells (cs.setIfInBounds i v) t q) := by
  obtain ⟨hlt, hk⟩ := Array.getElem?_eq_some_iff.1 h
  show (W.heap.modify b _)[b]? = _
  rw [Array.getElem?_eq_getElem (by rw [Array.size_modify]; exact hlt), Array.getElem_modify_self, hk]
  rfl
theorem two_of {w : World} {F : Nat} {x y : Value} {t : TypeId} (h : w.heap[F]? = some (.cells #[x, y] t (0, 0))) : w.cell? ⟨F, 0, none⟩ = some x ∧ w.cell? ⟨F, 1, none⟩ = some y ∧ ∀ o, w.frozen? ⟨F, o, none⟩ = false := by
  refine ⟨?_, ?_, fun o => frozen_of_row _ F o _ _ h⟩ <;> (simp only [World.cell?, h]; rfl)
theorem four_of {w : World} {F : Nat} {x y z u : Value} {t : TypeId} (h : w.heap[F]? = some (.cells #[x, y, z, u] t (0, 0))) : w.cell? ⟨F, 0, none⟩ = some x ∧ w.cell? ⟨F, 1, none⟩ = some y ∧ w.cell? ⟨F, 2, none⟩ = some z ∧ w.cell? ⟨F, 3, none⟩ = some u ∧ ∀ o, w.frozen? ⟨F, o, none⟩ = false := by
  refine ⟨?_, ?_, ?_, ?_, fun o => frozen_of_row _ F o _ _ h⟩ <;> (simp only [World.cell?, h]; rfl)

set_option maxRecDepth 100000 in
set_option maxHeartbeats 1000000 in
theorem next_any {w0 w : World} {F : Nat} {s : ByteArray} (h : FW w0 F s w) (n : Int) (h1 : 1 ≤ n) (h2 : n ≤ 1000) :
    Calls Tryz.prog 25 #[.pointer (some ⟨F, 0, none⟩), .int .i64 n] w fun e w' => ∃ v, e = .returned (.int .i64 v) ∧ 0 ≤ v ∧ v < n ∧ FW w0 F s w' := by
  obtain ⟨a, fd⟩ := h.fd
  obtain ⟨c0, c1, fz⟩ := two_of fd.b
  have hle := fd.le
  have hsz := fd.sz
  have HF := hidp h
  have HD := hidp fd
  have hz : (n == 0) = false := by simp; omega
  clear h fd
  by_cases hlt : a < s.size
  · have hlt' : ¬ (s.size : Int) ≤ (a : Int) := by omega
    have k1 : IntKind.i64.wrap ((a : Int) + 1) = ((a + 1 : Nat) : Int) := by rw [wrap_all (by omega) (by omega)]; omega
    have hb : s[a].toNat < 256 := s[a].toNat_lt
    have k2 : IntKind.i64.wrap (s[a].toNat : Int) = (s[a].toNat : Int) := wrap_all (by omega) (by omega)
    have k3 : (s[a].toNat : Int).tmod n = (s[a].toNat : Int) % n := Int.tmod_eq_emod_of_nonneg (by omega)
    have b1 : 0 ≤ (s[a].toNat : Int) % n := Int.emod_nonneg _ (by omega)
    have b2 : (s[a].toNat : Int) % n < n := Int.emod_lt_of_pos _ (by omega)
    have k4 : IntKind.i64.wrap ((s[a].toNat : Int) % n) = (s[a].toNat : Int) % n := wrap_all (by omega) (by omega)
    have HW : Hid (FW w0 F s (w.drew.drew.setCell ⟨F, 1, none⟩ (.int .i64 ((a + 1 : Nat) : Int)))) := by
      have k := Off.set0 F w.drew.drew 1 (.int .i64 ((a + 1 : Nat) : Int))
      have h2 := HF.out.drew.drew
      exact ⟨⟨a + 1, set_row (W := w.drew.drew) HD.out.b _, hlt, hsz⟩, h2.env.ten (off_ten k h2.ten h2.env.size), h2.off.setCell (.inl (by simp)) _ _, h2.ten⟩
    go_enter Tryz.func25, Tryz.ntmps25
    go_upto_region 1 with fail
    go_big_region
    go_upto_region 3 with fail
    go_big_region
    go_wp2_with fail
    go_ret
    exact ⟨_, rfl, b1, b2, HW.out⟩
  · have hlt' : (s.size : Int) ≤ (a : Int) := by omega
    go_enter Tryz.func25, Tryz.ntmps25
    go_upto_region 1 with fail
    go_big_region
    go_wp2_with fail
    go_ret
    exact ⟨0, rfl, by omega, by omega, HF.out.drew⟩

theorem fnum_any {w0 w : World} {F : Nat} {s : ByteArray} (h : FW w0 F s w) (n : Int) (h0 : -9223372036854775808 ≤ n) (h1 : n ≤ 9223372036854775807) :
    Calls Tryz.prog 21 #[.int .i64 n] w fun e w' => e = .returned (.string (Txt.itoaS n)) ∧ FW w0 F s w' :=
  (kNum_any n w h.env h0 h1).mono fun _ _ k => ⟨k.1, h.later k.2⟩

def lateS (late : Bool) : ByteArray := if late then ⟨#[50, 48, 50, 53, 45, 49, 50, 45]⟩ else ⟨#[50, 48, 50, 52, 45, 48, 49, 45]⟩
def padS (n : Int) : ByteArray := if (Txt.itoaS n).size < 2 then (⟨#[48]⟩ : ByteArray) ++ Txt.itoaS n else Txt.itoaS n
theorem padS_size {n : Int} (h0 : 0 ≤ n) (h1 : n ≤ 9999999) : (padS n).size ≤ 7 := by
  have := Txt.itoa_size n h0 h1
  unfold padS
  split
  · rw [ByteArray.size_append]; show 1 + _ ≤ 7; omega
  · omega
set_option maxRecDepth 100000 in
set_option maxHeartbeats 1000000 in
theorem kDate_any {w0 w : World} {F : Nat} {s : ByteArray} (h : FW w0 F s w) (n : Int) (late : Bool) (h0 : 0 ≤ n) (h1 : n ≤ 1000) :
    Calls Tryz.prog 70 #[.int .i64 n, .bool late] w fun e w' => e = .returned (.string (lateS late ++ padS (1 + n))) ∧ FW w0 F s w' := by
  have NU := hidp (fnum_any h (1 + n) (by omega) (by omega))
  have hz := Txt.itoa_size (1 + n) (by omega) (by omega)
  have k1 : IntKind.i64.wrap (1 + n) = 1 + n := wrap_all (by omega) (by omega)
  clear h
  by_cases hs : (Txt.itoaS (1 + n)).size < 2
  · have e : padS (1 + n) = (⟨#[48]⟩ : ByteArray) ++ Txt.itoaS (1 + n) := by unfold padS; rw [if_pos hs]
    have hs' : ((Txt.itoaS (1 + n)).size : Int) < 2 := by omega
    rw [e]
    generalize Txt.itoaS (1 + n) = t at *
    cases late
    all_goals
      unfold lateS
      go_enter Tryz.func70, Tryz.ntmps70
      go_wp2_with (first
        | (go_at_call 21; refine NU.out.mono ?_; rintro e w1 ⟨rfl, hb⟩))
      go_ret
      exact ⟨rfl, hb⟩
  · have e : padS (1 + n) = Txt.itoaS (1 + n) := by unfold padS; rw [if_neg hs]
    have hs' : ¬ ((Txt.itoaS (1 + n)).size : Int) < 2 := by omega
    rw [e]
    generalize Txt.itoaS (1 + n) = t at *
    cases late
    all_goals
      unfold lateS
      go_enter Tryz.func70, Tryz.ntmps70
      go_wp2_with (first
        | (go_at_call 21; refine NU.out.mono ?_; rintro e w1 ⟨rfl, hb⟩))
      go_ret
      exact ⟨rfl, hb⟩

/-- What is asked for, as a text. -/
def askS (nm : ByteArray) (u fr til : Int) : ByteArray := (((((nm ++ (⟨#[32]⟩ : ByteArray)) ++ Txt.itoaS u) ++ (⟨#[32]⟩ : ByteArray)) ++ Txt.itoaS fr) ++ (⟨#[32]⟩ : ByteArray)) ++ Txt.itoaS til
theorem askS_size {nm : ByteArray} {u fr til : Int} (hn : nm.size ≤ 10) (hu : 0 ≤ u ∧ u ≤ 9999999) (hf : 0 ≤ fr ∧ fr ≤ 9999999) (ht : 0 ≤ til ∧ til ≤ 9999999) : (askS nm u fr til).size ≤ 40 := by
  have z1 := Txt.itoa_size u hu.1 hu.2
  have z2 := Txt.itoa_size fr hf.1 hf.2
  have z3 := Txt.itoa_size til ht.1 ht.2
  unfold askS
  simp only [ByteArray.size_append]
  show nm.size + 1 + _ + 1 + _ + 1 + _ ≤ 40
  omega
def zeroA (nm : ByteArray) (u fr til : Int) : Obj := .cells #[.string nm, .int .i64 u, .int .i64 fr, .int .i64 til] 49 (0, 0)
set_option maxRecDepth 100000 in
set_option maxHeartbeats 2000000 in
theorem text_any (w : World) (he : Env w) (nm : ByteArray) (u fr til : Int) (hn : nm.size ≤ 10) (hu : 0 ≤ u ∧ u ≤ 9999999) (hf : 0 ≤ fr ∧ fr ≤ 9999999) (ht : 0 ≤ til ∧ til ≤ 9999999) :
    Calls Tryz.prog 27 #[.agg #[.string nm, .int .i64 u, .int .i64 fr, .int .i64 til]] w fun e w' => e = .returned (.string (askS nm u fr til)) ∧ Below w.heap.size w w' := by
  have z1 := Txt.itoa_size u hu.1 hu.2
  have z2 := Txt.itoa_size fr hf.1 hf.2
  have z3 := Txt.itoa_size til ht.1 ht.2
  have hX : Below w.heap.size w (w.alloc (zeroA nm u fr til)).drew := ((Below.refl _ _).alloc (Nat.le_refl _) _).drew
  have hq : (w.alloc (zeroA nm u fr til)).drew.heap[w.heap.size]? = some (zeroA nm u fr til) := heapNew w _
  have NU : Hid (∀ W n, Below w.heap.size w W → 0 ≤ n ∧ n ≤ 9999999 → Calls Tryz.prog 21 #[.int .i64 n] W fun e w' => e = .returned (.string (Txt.itoaS n)) ∧ Below W.heap.size W w') := fun W n hW hn => kNum_any n W (he.later hW) (by omega) (by omega)
  have AC : Hid (∀ W, Below (w.alloc (zeroA nm u fr til)).drew.heap.size (w.alloc (zeroA nm u fr til)).drew W → W.cell? ⟨w.heap.size, 0, none⟩ = some (.string nm) ∧ W.cell? ⟨w.heap.size, 1, none⟩ = some (.int .i64 u) ∧ W.cell? ⟨w.heap.size, 2, none⟩ = some (.int .i64 fr) ∧ W.cell? ⟨w.heap.size, 3, none⟩ = some (.int .i64 til)) := fun W hW => by
    have := (hW.block w.heap.size (Array.getElem?_eq_some_iff.1 hq).1).trans hq
    unfold zeroA at this
    obtain ⟨a0, a1, a2, a3, _⟩ := four_of this
    exact ⟨a0, a1, a2, a3⟩
  have HX := hidp hX
  clear hX hq he
  have c0 := AC.out _ (Below.refl _ _)
  obtain ⟨c0, c1, c2, c3⟩ := c0
  have sz0 : ¬ (9223372036854775807 < nm.size + 1) := by omega
  have sz1 : ¬ (9223372036854775807 < nm.size + 1 + (Txt.itoaS u).size) := by omega
  have sz2 : ¬ (9223372036854775807 < nm.size + 1 + (Txt.itoaS u).size + 1) := by omega
  have sz3 : ¬ (9223372036854775807 < nm.size + 1 + (Txt.itoaS u).size + 1 + (Txt.itoaS fr).size) := by omega
  have sz4 : ¬ (9223372036854775807 < nm.size + 1 + (Txt.itoaS u).size + 1 + (Txt.itoaS fr).size + 1) := by omega
  have sz5 : ¬ (9223372036854775807 < nm.size + 1 + (Txt.itoaS u).size + 1 + (Txt.itoaS fr).size + 1 + (Txt.itoaS til).size) := by omega
  have HU := hidp hu
  have HT := hidp ht
  have HR := hidp hf
  clear hu ht hf z1 z2 z3 hn
  go_enter Tryz.func27, Tryz.ntmps27
  go_upto_region 1 with fail
  change Code.wp _ _ _ _ (w.alloc (zeroA nm u fr til))
  generalize w.alloc (zeroA nm u fr til) = X at *
  go_region_held3 (fun w' => w'.cell? ⟨w.heap.size, 0, none⟩ = some (.string nm) ∧ w'.cell? ⟨w.heap.size, 1, none⟩ = some (.int .i64 u) ∧ w'.cell? ⟨w.heap.size, 2, none⟩ = some (.int .i64 fr) ∧ w'.cell? ⟨w.heap.size, 3, none⟩ = some (.int .i64 til))
    (first
      | with_reducible exact AC.out _ HB3.out
      | with_reducible exact AC.out _ HB2.out
      | with_reducible exact AC.out _ HB1.out
      | exact ⟨c0, c1, c2, c3⟩)
    (first
      | (go_at_call 21; refine (NU.out _ til (HX.out.trans (HB2.out.mono HX.out.size)) HT.out).mono ?_; rintro e w3 ⟨rfl, hb3⟩; have HB3 := hidp (blwMore HB2.out hb3 (Nat.le_refl _)); clear hb3)
      | (go_at_call 21; refine (NU.out _ fr (HX.out.trans (HB1.out.mono HX.out.size)) HR.out).mono ?_; rintro e w2 ⟨rfl, hb2⟩; have HB2 := hidp (blwMore HB1.out hb2 (Nat.le_refl _)); clear hb2)
      | (go_at_call 21; refine (NU.out _ u HX.out HU.out).mono ?_; rintro e w1 ⟨rfl, hb1⟩; have HB1 := hidp hb1; clear hb1))
  have HF : Hid (Below w.heap.size w w3) := HX.out.trans (HB3.out.mono HX.out.size)
  clear AC NU HB1 HB2 HB3
  go_wp2_with fail
  go_ret
  exact ⟨rfl, HF.out⟩

end Go.Proofs.YtjfkfiffakbagaaGreatDoor


/-
  The lines that bookingskeep writes out of numbers: what they read as.
-/
namespace Go.Proofs.YtjfkfiffakbagaaGreatDoor
open Go.RowKit
open Desk (Ent St Ids kept booked bookE sumA Items ofB sameB Risen Mid EntOk endsB Inv)

/-- A text reads so. -/
def Reads (t : ByteArray) (v : Value) : Prop := ∀ e, ReadR t e → e = .returned (.tuple #[v, .int .i64 0, .int .i64 0])
theorem good_reads {t : ByteArray} {ws : List ByteArray} {v : Value} {n : Nat} (hw : Txt.wordsS t = ws) (hs : t.size ≤ 160) (hl : LineR ws v (n, false)) (hn : n = ws.length) : Reads t v := fun e he => by
  subst hw
  exact read_one he (.good hs v (n, false) hl rfl (by simp [moreB, hn]))
theorem un_is {n : Int} (h0 : 1 ≤ n) (h1 : n ≤ 9) : unB (Txt.itoaS n) = true ∧ nvF (Txt.itoaS n) = n ∧ Txt.wordB (Txt.itoaS n).data.toList = true := by
  obtain ⟨a, b⟩ := Txt.itoa_num (n := n) (by omega) (by omega)
  refine ⟨?_, b, Txt.itoa_word (by omega)⟩
  unfold unB withinB
  rw [a, b]; simp [h0, h1]
theorem time_is {n : Int} (h0 : 0 ≤ n) (h1 : n ≤ 1048320) : timeB (Txt.itoaS n) = true ∧ timW (Txt.itoaS n) = n ∧ Txt.wordB (Txt.itoaS n).data.toList = true := by
  obtain ⟨a, b⟩ := Txt.itoa_num (n := n) (by omega) (by omega)
  have v : timeV (Txt.itoaS n) = n := by unfold timeV; rw [a, b]; rfl
  have t : timeB (Txt.itoaS n) = true := by unfold timeB; rw [a, v]; simp [h0, h1]
  exact ⟨t, by unfold timW; rw [t, v]; rfl, Txt.itoa_word (by omega)⟩
/-- A name of one letter. -/
structure Nm (nm : ByteArray) : Prop where
  b : nmB nm = true
  w : Txt.wordB nm.data.toList = true
  s : nm.size = 1
theorem nm_a : Nm ⟨#[97]⟩ := ⟨by decide +kernel, by decide +kernel, by decide +kernel⟩
theorem nm_b : Nm ⟨#[98]⟩ := ⟨by decide +kernel, by decide +kernel, by decide +kernel⟩
theorem claim_at {ws : List ByteArray} {n : Nat} {x : ByteArray} (h : ws[n]? = some x) (hB : nmB x = true) : claimS ws (n, false) = x := by
  obtain ⟨y, hy, e⟩ := stp_name (ws := ws) (st := (n, false)) (by rw [(takes h hB).1])
  have hn : n < ws.length := (List.getElem?_eq_some_iff.1 h).1
  have hg : ws.getD n ByteArray.empty = x := by rw [List.getD_eq_getElem?_getD, h]; rfl
  have t : tkB ws n false (fun s => Txt.isName s.data.toList) = true := by
    unfold tkB
    rw [hg]
    have : Txt.isName x.data.toList = true := hB
    simp [moreB, hn, this]
  unfold claimS tkS
  rw [t, hg]
  exact if_pos hB
theorem words_is : Txt.wordB thingW.data.toList = true ∧ Txt.wordB bookW.data.toList = true ∧ Txt.wordB holdW.data.toList = true ∧ Txt.wordB waitW.data.toList = true ∧ Txt.wordB cancelW.data.toList = true ∧ Txt.wordB confirmW.data.toList = true ∧ Txt.wordB listW.data.toList = true ∧ Txt.wordB peakW.data.toList = true ∧ Txt.wordB findW.data.toList = true ∧ Txt.wordB tickW.data.toList = true := by decide +kernel

/-- thing NAME UNITS -/
theorem thing_reads {t nm : ByteArray} {u : Int} (hn : Nm nm) (hu : 1 ≤ u ∧ u ≤ 9) (ht : t.data.toList = thingW.data.toList ++ 32 :: (nm.data.toList ++ 32 :: (Txt.itoaS u).data.toList)) :
    Reads t (.iface 143 (.agg #[.string nm, .int .i64 u])) := by
  obtain ⟨u1, u2, u3⟩ := un_is hu.1 hu.2
  have hw : Txt.wordsS t = [thingW, nm, Txt.itoaS u] := by
    refine Txt.words_text ?_ ?_
    · rw [ht]; simp only [List.map_cons, List.map_nil, Txt.jb_cons2, Txt.jb_one]
    · intro x hx
      simp only [List.mem_cons, List.not_mem_nil, or_false] at hx
      rcases hx with rfl | rfl | rfl
      · exact words_is.1
      · exact hn.w
      · exact u3
  have hs : t.size ≤ 160 := by
    have a := Txt.itoa_size u (by omega) (by omega)
    rw [← Txt.size_list] at a ⊢
    rw [ht]
    have := hn.s
    rw [← Txt.size_list] at this
    simp only [List.length_append, List.length_cons]
    have : thingW.data.toList.length = 5 := rfl
    omega
  have t1 := takes (ws := [thingW, nm, Txt.itoaS u]) (n := 1) (x := nm) (B := nmB) rfl hn.b
  have t2 := takes (ws := [thingW, nm, Txt.itoaS u]) (n := 2) (x := Txt.itoaS u) (B := unB) rfl u1
  have h := LineR.thing (ws := [thingW, nm, Txt.itoaS u]) (isb_yes rfl)
  simp only [stps_cons, stps_nil, t1.1, t2.1, t2.2, claim_at (ws := [thingW, nm, Txt.itoaS u]) (n := 1) rfl hn.b, u2] at h
  exact good_reads hw hs h rfl
/-- list NAME -/
theorem list_reads {t nm : ByteArray} (hn : Nm nm) (ht : t.data.toList = listW.data.toList ++ 32 :: nm.data.toList) :
    Reads t (.iface 164 (.agg #[.string nm, .bool false, .int .i64 0, .int .i64 0])) := by
  have hw : Txt.wordsS t = [listW, nm] := by
    refine Txt.words_text ?_ ?_
    · rw [ht]; simp only [List.map_cons, List.map_nil, Txt.jb_cons2, Txt.jb_one]
    · intro x hx
      simp only [List.mem_cons, List.not_mem_nil, or_false] at hx
      rcases hx with rfl | rfl
      · exact words_is.2.2.2.2.2.2.1
      · exact hn.w
  have hs : t.size ≤ 160 := by
    rw [← Txt.size_list]
    rw [ht]
    have := hn.s
    rw [← Txt.size_list] at this
    simp only [List.length_append, List.length_cons]
    have : listW.data.toList.length = 4 := rfl
    omega
  have t1 := takes (ws := [listW, nm]) (n := 1) (x := nm) (B := nmB) rfl hn.b
  have h := LineR.list0 (ws := [listW, nm]) (isb_yes rfl) (by simp only [stps_cons, stps_nil, t1.1]; rfl)
  simp only [stps_cons, stps_nil, t1.1, claim_at (ws := [listW, nm]) (n := 1) rfl hn.b] at h
  exact good_reads hw hs h rfl
/-- peak NAME TIME TIME -/
theorem peak_reads {t nm : ByteArray} {fr til : Int} (hn : Nm nm) (hf : 0 ≤ fr ∧ fr ≤ 1048320) (hl : 0 ≤ til ∧ til ≤ 1048320) (ht : t.data.toList = peakW.data.toList ++ 32 :: (nm.data.toList ++ 32 :: ((Txt.itoaS fr).data.toList ++ 32 :: (Txt.itoaS til).data.toList))) :
    Reads t (.iface 170 (.agg #[.string nm, .int .i64 fr, .int .i64 til])) := by
  obtain ⟨f1, f2, f3⟩ := time_is hf.1 hf.2
  obtain ⟨l1, l2, l3⟩ := time_is hl.1 hl.2
  have hw : Txt.wordsS t = [peakW, nm, Txt.itoaS fr, Txt.itoaS til] := by
    refine Txt.words_text ?_ ?_
    · rw [ht]; simp only [List.map_cons, List.map_nil, Txt.jb_cons2, Txt.jb_one]
    · intro x hx
      simp only [List.mem_cons, List.not_mem_nil, or_false] at hx
      rcases hx with rfl | rfl | rfl | rfl
      · exact words_is.2.2.2.2.2.2.2.1
      · exact hn.w
      · exact f3
      · exact l3
  have hs : t.size ≤ 160 := by
    have a := Txt.itoa_size fr (by omega) (by omega)
    have b := Txt.itoa_size til (by omega) (by omega)
    rw [← Txt.size_list] at a b ⊢
    rw [ht]
    have := hn.s
    rw [← Txt.size_list] at this
    simp only [List.length_append, List.length_cons]
    have : peakW.data.toList.length = 4 := rfl
    omega
  generalize hW : [peakW, nm, Txt.itoaS fr, Txt.itoaS til] = W at hw
  have t1 := takes (ws := W) (n := 1) (x := nm) (B := nmB) (by rw [← hW]; rfl) hn.b
  have t2 := takes (ws := W) (n := 2) (x := Txt.itoaS fr) (B := timeB) (by rw [← hW]; rfl) f1
  have t3 := takes (ws := W) (n := 3) (x := Txt.itoaS til) (B := timeB) (by rw [← hW]; rfl) l1
  have h := LineR.peak (ws := W) (isb_yes (by rw [← hW]; rfl))
  simp only [stps_cons, stps_nil, t1.1, t2.1, t2.2, t3.1, t3.2, claim_at (ws := W) (n := 1) (by rw [← hW]; rfl) hn.b, f2, l2] at h
  exact good_reads hw hs h (by rw [← hW]; rfl)
/-- book NAME UNITS TIME TIME -/
theorem book_reads {t nm : ByteArray} {u fr til : Int} (hn : Nm nm) (hu : 1 ≤ u ∧ u ≤ 9) (hf : 0 ≤ fr ∧ fr ≤ 1048320) (hl : 0 ≤ til ∧ til ≤ 1048320) (ht : t.data.toList = bookW.data.toList ++ 32 :: (nm.data.toList ++ 32 :: ((Txt.itoaS u).data.toList ++ 32 :: ((Txt.itoaS fr).data.toList ++ 32 :: (Txt.itoaS til).data.toList)))) :
    Reads t (.iface 148 (.agg #[.string nm, .int .i64 u, .int .i64 fr, .int .i64 til])) := by
  obtain ⟨u1, u2, u3⟩ := un_is hu.1 hu.2
  obtain ⟨f1, f2, f3⟩ := time_is hf.1 hf.2
  obtain ⟨l1, l2, l3⟩ := time_is hl.1 hl.2
  have hw : Txt.wordsS t = [bookW, nm, Txt.itoaS u, Txt.itoaS fr, Txt.itoaS til] := by
    refine Txt.words_text ?_ ?_
    · rw [ht]; simp only [List.map_cons, List.map_nil, Txt.jb_cons2, Txt.jb_one]
    · intro x hx
      simp only [List.mem_cons, List.not_mem_nil, or_false] at hx
      rcases hx with rfl | rfl | rfl | rfl | rfl
      · exact words_is.2.1
      · exact hn.w
      · exact u3
      · exact f3
      · exact l3
  have hs : t.size ≤ 160 := by
    have c := Txt.itoa_size u (by omega) (by omega)
    have a := Txt.itoa_size fr (by omega) (by omega)
    have b := Txt.itoa_size til (by omega) (by omega)
    rw [← Txt.size_list] at a b c ⊢
    rw [ht]
    have := hn.s
    rw [← Txt.size_list] at this
    simp only [List.length_append, List.length_cons]
    have : bookW.data.toList.length = 4 := rfl
    omega
  generalize hW : [bookW, nm, Txt.itoaS u, Txt.itoaS fr, Txt.itoaS til] = W at hw
  have t1 := takes (ws := W) (n := 1) (x := nm) (B := nmB) (by rw [← hW]; rfl) hn.b
  have t2 := takes (ws := W) (n := 2) (x := Txt.itoaS u) (B := unB) (by rw [← hW]; rfl) u1
  have t3 := takes (ws := W) (n := 3) (x := Txt.itoaS fr) (B := timeB) (by rw [← hW]; rfl) f1
  have t4 := takes (ws := W) (n := 4) (x := Txt.itoaS til) (B := timeB) (by rw [← hW]; rfl) l1
  have h := LineR.book (ws := W) (isb_yes (by rw [← hW]; rfl))
  simp only [stps_cons, stps_nil, t1.1, t2.1, t2.2, t3.1, t3.2, t4.1, t4.2, claim_at (ws := W) (n := 1) (by rw [← hW]; rfl) hn.b, u2, f2, l2] at h
  exact good_reads hw hs h (by rw [← hW]; rfl)
/-- What is asked for stands behind a word. -/
theorem ask_list (x nm : ByteArray) (u fr til : Int) : ((x ++ askS nm u fr til)).data.toList = x.data.toList ++ (nm.data.toList ++ 32 :: ((Txt.itoaS u).data.toList ++ 32 :: ((Txt.itoaS fr).data.toList ++ 32 :: (Txt.itoaS til).data.toList))) := by
  unfold askS
  simp only [Txt.append_list, List.append_assoc]
  rfl

end Go.Proofs.YtjfkfiffakbagaaGreatDoor


/-
  What the lists of a desk add up to, as mathematics: the peak of a list, what fits by a list; time that goes by minute by minute.
-/
namespace Go.Proofs.YtjfkfiffakbagaaGreatDoor
namespace Desk

/-- What a list of entries takes at a minute. -/
def takK (t : Int) : List Ent → Int
  | [] => 0
  | e :: r => timesN e.spans t * e.units + takK t r
theorem takK_append (t : Int) (l r : List Ent) : takK t (l ++ r) = takK t l + takK t r := by
  induction l with
  | nil => simp [takK]
  | cons e l ih => simp only [List.cons_append, takK, ih]; omega
theorem takK_perm {t : Int} {l r : List Ent} (h : l.Perm r) : takK t l = takK t r := by
  induction h with
  | nil => rfl
  | cons x _ ih => simp only [takK, ih]
  | swap x y l => simp only [takK]; omega
  | trans _ _ i j => exact i.trans j
theorem insE_perm {a b : Int} {x : Ent} : ∀ l : List Ent, (insE a b x l).Perm (x :: l)
  | [] => by simp [insE]
  | y :: r => by
    simp only [insE]
    split
    · exact List.Perm.refl _
    · exact ((insE_perm r).cons y).trans (List.Perm.swap x y r)
theorem sortE_perm {a b : Int} : ∀ l : List Ent, (sortE a b l).Perm l
  | [] => List.Perm.refl _
  | x :: r => (insE_perm _).trans ((sortE_perm r).cons x)
theorem selB_all {name : ByteArray} {now : Int} {e : Ent} (h : EntOk now e) : selB name 0 1048320 e = ofB name e := by
  unfold selB
  have : 0 ≤ firstN 0 1048320 e.spans := (firstN_pos h.ri (fun s hs => (h.sp s hs).1)).2 (by
    obtain ⟨s, hs⟩ := List.exists_mem_of_ne_nil _ h.s0
    have := h.sp s hs
    exact ⟨s, hs, by simp [meetB]; omega⟩)
  simp [this]
theorem takK_filter {name : ByteArray} {t : Int} : ∀ es : List Ent, takK t (es.filter (ofB name)) = takenN name t es
  | [] => rfl
  | e :: r => by
    have ih := takK_filter (name := name) (t := t) r
    rw [List.filter_cons]
    simp only [takenN]
    by_cases c : ofB name e = true
    · rw [if_pos c, if_pos c]; simp only [takK, ih]
    · rw [if_neg c, if_neg c, ih]; omega
/-- What is listed of a thing takes what is taken. -/
theorem takK_list {s : St} (h : Inv s) (name : ByteArray) (t : Int) : takK t (listD name 0 1048320 s.es) = takenN name t s.es := by
  unfold listD
  rw [takK_perm (sortE_perm _)]
  have : s.es.filter (selB name 0 1048320) = s.es.filter (ofB name) := List.filter_congr (fun e he => selB_all (h.en e he))
  rw [this, takK_filter]
def startsK : List Ent → List Int
  | [] => []
  | e :: r => e.spans.map (·.1) ++ startsK r
def peakK1 (l : List Ent) (a b m x : Int) : Int := if a < x ∧ x < b ∧ m < takK x l then takK x l else m
/-- The peak of a list. -/
def peakK (l : List Ent) (a b : Int) : Int := (startsK l).foldl (peakK1 l a b) (takK a l)
theorem peakK_fold {l : List Ent} {a b : Int} : ∀ (xs : List Int) (m : Int),
    m ≤ xs.foldl (peakK1 l a b) m ∧ (∀ x ∈ xs, a < x → x < b → takK x l ≤ xs.foldl (peakK1 l a b) m) ∧ (xs.foldl (peakK1 l a b) m = m ∨ ∃ x ∈ xs, a < x ∧ x < b ∧ xs.foldl (peakK1 l a b) m = takK x l)
  | [], m => ⟨Int.le_refl _, by simp, .inl rfl⟩
  | x :: xs, m => by
    obtain ⟨h1, h2, h3⟩ := peakK_fold (l := l) (a := a) (b := b) xs (peakK1 l a b m x)
    simp only [List.foldl_cons]
    generalize xs.foldl (peakK1 l a b) (peakK1 l a b m x) = R at h1 h2 h3 ⊢
    have hs : (peakK1 l a b m x = m ∧ ¬ (a < x ∧ x < b ∧ m < takK x l)) ∨ (peakK1 l a b m x = takK x l ∧ a < x ∧ x < b ∧ m < takK x l) := by
      unfold peakK1
      by_cases c : a < x ∧ x < b ∧ m < takK x l
      · rw [if_pos c]; exact .inr ⟨rfl, c⟩
      · rw [if_neg c]; exact .inl ⟨rfl, c⟩
    rcases hs with ⟨e, c⟩ | ⟨e, c⟩
    · rw [e] at h1 h3
      refine ⟨h1, fun y hy k1 k2 => ?_, ?_⟩
      · rcases List.mem_cons.1 hy with rfl | hy
        · omega
        · exact h2 y hy k1 k2
      · rcases h3 with h3 | ⟨y, hy, k⟩
        · exact .inl h3
        · exact .inr ⟨y, by simp [hy], k⟩
    · rw [e] at h1 h3
      refine ⟨by omega, fun y hy k1 k2 => ?_, ?_⟩
      · rcases List.mem_cons.1 hy with rfl | hy
        · omega
        · exact h2 y hy k1 k2
      · rcases h3 with h3 | ⟨y, hy, k⟩
        · exact .inr ⟨x, by simp, c.1, c.2.1, h3⟩
        · exact .inr ⟨y, by simp [hy], k⟩
theorem takK_mono {x y : Int} (hyx : y ≤ x) : ∀ {l : List Ent}, Pos l → (∀ s ∈ startsK l, s ≤ x → s ≤ y) → takK x l ≤ takK y l
  | [], _, _ => Int.le_refl _
  | e :: r, hp, h => by
    have ih := takK_mono hyx (l := r) (fun z hz => hp z (by simp [hz])) (fun s hs => h s (by simp [startsK, hs]))
    have hm : timesN e.spans x ≤ timesN e.spans y := timesN_mono hyx (fun s hs' hx => h s.1 (by simp [startsK]; exact .inl ⟨s.2, hs'⟩) hx)
    have : timesN e.spans x * e.units ≤ timesN e.spans y * e.units := Int.mul_le_mul_of_nonneg_right hm (hp e (by simp))
    simp only [takK]
    omega
theorem peakK_is {l : List Ent} {a b : Int} (hp : Pos l) (h : a < b) : MostIs (fun x => takK x l) a b (peakK l a b) := by
  obtain ⟨h1, h2, h3⟩ := peakK_fold (l := l) (a := a) (b := b) (startsK l) (takK a l)
  unfold peakK
  generalize (startsK l).foldl (peakK1 l a b) (takK a l) = R at h1 h2 h3 ⊢
  refine ⟨fun x k1 k2 => ?_, ?_⟩
  · obtain ⟨i1, i2, i3, i4⟩ := lastTo_is a x k1 (startsK l)
    have m := takK_mono i2 hp i4
    generalize lastTo a x (startsK l) = y at i1 i2 i3 i4 m
    show takK x l ≤ R
    by_cases e : y = a
    · subst e; omega
    · rcases i3 with i3 | i3
      · exact absurd i3 e
      · have := h2 y i3 (by omega) (by omega); omega
  · rcases h3 with h3 | ⟨x, _, k1, k2, k3⟩
    · exact ⟨a, Int.le_refl _, h, h3.symm⟩
    · exact ⟨x, by omega, k2, k3.symm⟩
theorem list_pos {s : St} (h : Inv s) (name : ByteArray) : Pos (listD name 0 1048320 s.es) := fun e he => by
  have : e ∈ s.es := (List.mem_filter.1 (sortE_mem.1 he)).1
  exact h.mid.pos e this
theorem peakK_list {s : St} (h : Inv s) (name : ByteArray) {a b : Int} (hab : a < b) : peakK (listD name 0 1048320 s.es) a b = peakN name s.es a b := by
  have k1 := peakK_is (list_pos h name) hab
  have k2 := peakN_is (name := name) h.mid.pos hab
  refine MostIs.eq (f := fun x => takenN name x s.es) ?_ k2
  have e : (fun x => takK x (listD name 0 1048320 s.es)) = fun x => takenN name x s.es := by funext x; exact takK_list h name x
  rw [← e]; exact k1
/-- What fits by the lists is what fits. -/
theorem fits_list {s : St} (h : Inv s) (name : ByteArray) {u a b : Int} (hu : 0 ≤ u) (hab : a < b) : fitsN s.ts s.es name u [(a, b)] = decide (peakK (listD name 0 1048320 s.es) a b + u ≤ unitsN name s.ts) := by
  rw [peakK_list h name hab]
  obtain ⟨m1, x, m2, m3, m4⟩ := peakN_is (name := name) h.mid.pos hab
  rw [Bool.eq_iff_iff, fitsN_one h.mid.pos hu, decide_eq_true_eq]
  constructor
  · intro k
    have := k x m2 m3
    have m4 : takenN name x s.es = peakN name s.es a b := m4
    omega
  · intro k y k1 k2
    have := m1 y k1 k2
    have this : takenN name y s.es ≤ peakN name s.es a b := this
    omega
end Desk
end Go.Proofs.YtjfkfiffakbagaaGreatDoor

