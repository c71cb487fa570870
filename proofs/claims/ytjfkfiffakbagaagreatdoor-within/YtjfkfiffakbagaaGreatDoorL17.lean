/-
  Parts of the proof, one behind the other: LineWalk, WordsSmall, ReadWalk, BookDo, DeskCancel, DeskEnter, DeskIns, DeskEnter2.
-/
import Derived.Test.YtjfkfiffakbagaaGreatDoorL16
import Derived.Deep.CutRange
/-
  The reader's line.
-/
namespace Go.Proofs.YtjfkfiffakbagaaGreatDoor
open Go.RowKit

def thingW : ByteArray := ⟨#[116, 104, 105, 110, 103]⟩
def bookW : ByteArray := ⟨#[98, 111, 111, 107]⟩
def holdW : ByteArray := ⟨#[104, 111, 108, 100]⟩
def waitW : ByteArray := ⟨#[119, 97, 105, 116]⟩
def seriesW : ByteArray := ⟨#[115, 101, 114, 105, 101, 115]⟩
def confirmW : ByteArray := ⟨#[99, 111, 110, 102, 105, 114, 109]⟩
def cancelW : ByteArray := ⟨#[99, 97, 110, 99, 101, 108]⟩
def listW : ByteArray := ⟨#[108, 105, 115, 116]⟩
def waitingW : ByteArray := ⟨#[119, 97, 105, 116, 105, 110, 103]⟩
def peakW : ByteArray := ⟨#[112, 101, 97, 107]⟩
def findW : ByteArray := ⟨#[102, 105, 110, 100]⟩
def expandW : ByteArray := ⟨#[101, 120, 112, 97, 110, 100]⟩
def tickW : ByteArray := ⟨#[116, 105, 99, 107]⟩
def clockW : ByteArray := ⟨#[99, 108, 111, 99, 107]⟩
def idB (s : ByteArray) : Bool := Txt.isNum s.data.toList

/-- What line reads, and where it leaves the reader. -/
inductive LineR (ws : List ByteArray) : Value → Nat × Bool → Prop where
  | thing (h : isB ws 0 false thingW = true) : LineR ws (.iface 143 (.agg #[.string (claimS ws (1, false)), .int .i64 (valAt ws (stps ws [nmB] (1, false)) unB nvF)])) (stps ws [nmB, unB] (1, false))
  | book (h : isB ws 0 false bookW = true) : LineR ws (.iface 148 (.agg #[.string (claimS ws (1, false)), .int .i64 (valAt ws (stps ws [nmB] (1, false)) unB nvF), .int .i64 (valAt ws (stps ws [nmB, unB] (1, false)) timeB timW), .int .i64 (valAt ws (stps ws [nmB, unB, timeB] (1, false)) timeB timW)])) (stps ws [nmB, unB, timeB, timeB] (1, false))
  | hold (h : isB ws 0 false holdW = true) : LineR ws (.iface 150 (.agg #[.string (claimS ws (1, false)), .int .i64 (valAt ws (stps ws [nmB] (1, false)) unB nvF), .int .i64 (valAt ws (stps ws [nmB, unB] (1, false)) timeB timW), .int .i64 (valAt ws (stps ws [nmB, unB, timeB] (1, false)) timeB timW), .int .i64 (valAt ws (stps ws [nmB, unB, timeB, timeB] (1, false)) miB nvF)])) (stps ws [nmB, unB, timeB, timeB, miB] (1, false))
  | wait (h : isB ws 0 false waitW = true) : LineR ws (.iface 151 (.agg #[.string (claimS ws (1, false)), .int .i64 (valAt ws (stps ws [nmB] (1, false)) unB nvF), .int .i64 (valAt ws (stps ws [nmB, unB] (1, false)) timeB timW), .int .i64 (valAt ws (stps ws [nmB, unB, timeB] (1, false)) timeB timW), .int .i64 (valAt ws (stps ws [nmB, unB, timeB, timeB] (1, false)) miB nvF)])) (stps ws [nmB, unB, timeB, timeB, miB] (1, false))
  | series (h : isB ws 0 false seriesW = true) (pc ev : Int) (acc : List Int) (fr mn mi ti un : Int) (s : Nat × Bool) (hr : RuleR ws (stps ws [nmB, unB] (1, false)) pc ev acc fr mn mi ti un s) : LineR ws (.iface 159 (.agg #[.string (claimS ws (1, false)), .int .i64 (valAt ws (stps ws [nmB] (1, false)) unB nvF), .int .i64 pc, .int .i64 ev, .bool (isd acc 0), .bool (isd acc 1), .bool (isd acc 2), .bool (isd acc 3), .bool (isd acc 4), .bool (isd acc 5), .bool (isd acc 6), .int .i64 fr, .int .i64 mn, .int .i64 mi, .int .i64 ti, .int .i64 un])) s
  | confirm (h : isB ws 0 false confirmW = true) : LineR ws (.iface 161 (.agg #[.int .i64 (valAt ws (1, false) idB nvF)])) (stps ws [idB] (1, false))
  | cancel (h : isB ws 0 false cancelW = true) : LineR ws (.iface 162 (.agg #[.int .i64 (valAt ws (1, false) idB nvF)])) (stps ws [idB] (1, false))
  | list0 (h : isB ws 0 false listW = true) (hm : moreB ws.length (stps ws [nmB] (1, false)).1 (stps ws [nmB] (1, false)).2 = false) : LineR ws (.iface 164 (.agg #[.string (claimS ws (1, false)), .bool false, .int .i64 0, .int .i64 0])) (stps ws [nmB] (1, false))
  | list1 (h : isB ws 0 false listW = true) (hm : moreB ws.length (stps ws [nmB] (1, false)).1 (stps ws [nmB] (1, false)).2 = true) : LineR ws (.iface 164 (.agg #[.string (claimS ws (1, false)), .bool true, .int .i64 (valAt ws (stps ws [nmB] (1, false)) timeB timW), .int .i64 (valAt ws (stps ws [nmB, timeB] (1, false)) timeB timW)])) (stps ws [nmB, timeB, timeB] (1, false))
  | waiting (h : isB ws 0 false waitingW = true) : LineR ws (.iface 167 (.agg #[])) (1, false)
  | peak (h : isB ws 0 false peakW = true) : LineR ws (.iface 170 (.agg #[.string (claimS ws (1, false)), .int .i64 (valAt ws (stps ws [nmB] (1, false)) timeB timW), .int .i64 (valAt ws (stps ws [nmB, timeB] (1, false)) timeB timW)])) (stps ws [nmB, timeB, timeB] (1, false))
  | find (h : isB ws 0 false findW = true) : LineR ws (.iface 172 (.agg #[.string (claimS ws (1, false)), .int .i64 (valAt ws (stps ws [nmB] (1, false)) unB nvF), .int .i64 (valAt ws (stps ws [nmB, unB] (1, false)) miB nvF), .int .i64 (valAt ws (stps ws [nmB, unB, miB] (1, false)) timeB timW), .int .i64 (valAt ws (stps ws [nmB, unB, miB, timeB] (1, false)) timeB timW)])) (stps ws [nmB, unB, miB, timeB, timeB] (1, false))
  | expand (h : isB ws 0 false expandW = true) (pc ev : Int) (acc : List Int) (fr mn mi ti un : Int) (s : Nat × Bool) (hr : RuleR ws (1, false) pc ev acc fr mn mi ti un s) : LineR ws (.iface 174 (.agg #[.int .i64 pc, .int .i64 ev, .bool (isd acc 0), .bool (isd acc 1), .bool (isd acc 2), .bool (isd acc 3), .bool (isd acc 4), .bool (isd acc 5), .bool (isd acc 6), .int .i64 fr, .int .i64 mn, .int .i64 mi, .int .i64 ti, .int .i64 un])) s
  | tick (h : isB ws 0 false tickW = true) : LineR ws (.iface 176 (.agg #[.int .i64 (valAt ws (1, false) miB nvF)])) (stps ws [miB] (1, false))
  | clock (h : isB ws 0 false clockW = true) : LineR ws (.iface 177 (.agg #[])) (1, false)
  | none (h0 : isB ws 0 false thingW = false) (h1 : isB ws 0 false bookW = false) (h2 : isB ws 0 false holdW = false) (h3 : isB ws 0 false waitW = false) (h4 : isB ws 0 false seriesW = false) (h5 : isB ws 0 false confirmW = false) (h6 : isB ws 0 false cancelW = false) (h7 : isB ws 0 false listW = false) (h8 : isB ws 0 false waitingW = false) (h9 : isB ws 0 false peakW = false) (h10 : isB ws 0 false findW = false) (h11 : isB ws 0 false expandW = false) (h12 : isB ws 0 false tickW = false) (h13 : isB ws 0 false clockW = false) : LineR ws .nilIface (0, true)

set_option maxRecDepth 100000 in
set_option maxHeartbeats 4000000 in
theorem rline_any (R A : Nat) (ws : List ByteArray) (w : World) (h : RS w R A ws 0 false) (he : Env w) (hR : 10 ≤ R) :
    Calls Tryz.prog 60 #[.pointer (some ⟨R, 0, none⟩)] w fun e w' =>
      ∃ (v : Value) (s : Nat × Bool), e = .returned v ∧ LineR ws v s ∧ RS w' R A ws s.1 s.2 ∧ Kept R w w' := by
  have HE := hide he
  clear he
  have k0 := Kept.refl R w
  have h0 := h
  clear h
  go_enter Tryz.func60, Tryz.ntmps60
  go_wp2_with fail
  refine (is_any R A ws 0 false thingW w h0).mono ?_
  rintro e w1 ⟨rfl, h1, kq⟩
  have k1 := k0.trans kq
  clear kq k0 h0
  rcases Bool.eq_false_or_eq_true (isB ws 0 false thingW) with hb0 | hb0
  · rw [hb0, if_pos rfl] at h1
    have E1 := hide ((unhide HE).kept k1 hR)
    go_wp2_with fail
    refine (rname_any R A ws _ _ w1 h1).mono ?_
    rintro e w1a ⟨rfl, h1a, kq⟩
    have k1a := k1.trans kq
    have E1a := hide ((unhide E1).kept kq hR)
    clear kq k1 h1 E1
    go_wp2_with fail
    refine (runits_any R A ws _ _ w1a h1a).mono ?_
    rintro e w1b ⟨rfl, h1b, kq⟩
    have k1b := k1a.trans kq
    have E1b := hide ((unhide E1a).kept kq hR)
    clear kq k1a h1a E1a
    have HK := hide k1b
    have HH := hide h1b
    go_wp2
    go_ret
    exact ⟨_, (stps ws [nmB, unB] (1, false)), rfl, .thing hb0, HH.out, HK.out⟩
  rw [hb0] at h1 ⊢
  go_wp2_with fail
  refine (is_any R A ws 0 false bookW w1 h1).mono ?_
  rintro e w2 ⟨rfl, h2, kq⟩
  have k2 := k1.trans kq
  clear kq k1 h1
  rcases Bool.eq_false_or_eq_true (isB ws 0 false bookW) with hb1 | hb1
  · rw [hb1, if_pos rfl] at h2
    have E2 := hide ((unhide HE).kept k2 hR)
    go_wp2_with fail
    refine (rclaim_any R A ws (1, false) w2 h2 (unhide E2) hR).mono ?_
    rintro e w2a ⟨rfl, h2a, kq⟩
    have k2a := k2.trans kq
    have E2a := hide ((unhide E2).kept kq hR)
    clear kq k2 h2 E2
    have HK := hide k2a
    have HH := hide h2a
    go_wp2
    go_ret
    exact ⟨_, (stps ws [nmB, unB, timeB, timeB] (1, false)), rfl, .book hb1, HH.out, HK.out⟩
  rw [hb1] at h2 ⊢
  go_wp2_with fail
  refine (is_any R A ws 0 false holdW w2 h2).mono ?_
  rintro e w3 ⟨rfl, h3, kq⟩
  have k3 := k2.trans kq
  clear kq k2 h2
  rcases Bool.eq_false_or_eq_true (isB ws 0 false holdW) with hb2 | hb2
  · rw [hb2, if_pos rfl] at h3
    have E3 := hide ((unhide HE).kept k3 hR)
    go_wp2_with fail
    refine (rclaim_any R A ws (1, false) w3 h3 (unhide E3) hR).mono ?_
    rintro e w3a ⟨rfl, h3a, kq⟩
    have k3a := k3.trans kq
    have E3a := hide ((unhide E3).kept kq hR)
    clear kq k3 h3 E3
    go_wp2_with fail
    refine (rminutes_any R A ws _ _ w3a h3a).mono ?_
    rintro e w3b ⟨rfl, h3b, kq⟩
    have k3b := k3a.trans kq
    have E3b := hide ((unhide E3a).kept kq hR)
    clear kq k3a h3a E3a
    have HK := hide k3b
    have HH := hide h3b
    go_wp2
    go_ret
    exact ⟨_, (stps ws [nmB, unB, timeB, timeB, miB] (1, false)), rfl, .hold hb2, HH.out, HK.out⟩
  rw [hb2] at h3 ⊢
  go_wp2_with fail
  refine (is_any R A ws 0 false waitW w3 h3).mono ?_
  rintro e w4 ⟨rfl, h4, kq⟩
  have k4 := k3.trans kq
  clear kq k3 h3
  rcases Bool.eq_false_or_eq_true (isB ws 0 false waitW) with hb3 | hb3
  · rw [hb3, if_pos rfl] at h4
    have E4 := hide ((unhide HE).kept k4 hR)
    go_wp2_with fail
    refine (rclaim_any R A ws (1, false) w4 h4 (unhide E4) hR).mono ?_
    rintro e w4a ⟨rfl, h4a, kq⟩
    have k4a := k4.trans kq
    have E4a := hide ((unhide E4).kept kq hR)
    clear kq k4 h4 E4
    go_wp2_with fail
    refine (rminutes_any R A ws _ _ w4a h4a).mono ?_
    rintro e w4b ⟨rfl, h4b, kq⟩
    have k4b := k4a.trans kq
    have E4b := hide ((unhide E4a).kept kq hR)
    clear kq k4a h4a E4a
    have HK := hide k4b
    have HH := hide h4b
    go_wp2
    go_ret
    exact ⟨_, (stps ws [nmB, unB, timeB, timeB, miB] (1, false)), rfl, .wait hb3, HH.out, HK.out⟩
  rw [hb3] at h4 ⊢
  go_wp2_with fail
  refine (is_any R A ws 0 false seriesW w4 h4).mono ?_
  rintro e w5 ⟨rfl, h5, kq⟩
  have k5 := k4.trans kq
  clear kq k4 h4
  rcases Bool.eq_false_or_eq_true (isB ws 0 false seriesW) with hb4 | hb4
  · rw [hb4, if_pos rfl] at h5
    have E5 := hide ((unhide HE).kept k5 hR)
    go_wp2_with fail
    refine (rname_any R A ws _ _ w5 h5).mono ?_
    rintro e w5a ⟨rfl, h5a, kq⟩
    have k5a := k5.trans kq
    have E5a := hide ((unhide E5).kept kq hR)
    clear kq k5 h5 E5
    go_wp2_with fail
    refine (runits_any R A ws _ _ w5a h5a).mono ?_
    rintro e w5b ⟨rfl, h5b, kq⟩
    have k5b := k5a.trans kq
    have E5b := hide ((unhide E5a).kept kq hR)
    clear kq k5a h5a E5a
    go_wp2_with fail
    refine (rrule_any R A ws (stps ws [nmB, unB] (1, false)) w5b h5b (unhide E5b) hR).mono ?_
    rintro e w5c ⟨pc, ev, acc, fr, mn, mi, ti, un, s, rfl, hr, h5c, kq⟩
    have HR := hide hr
    clear hr
    simp only [ruleV]
    have k5c := k5b.trans kq
    have E5c := hide ((unhide E5b).kept kq hR)
    clear kq k5b h5b E5b
    have HK := hide k5c
    have HH := hide h5c
    go_wp2
    go_ret
    exact ⟨_, s, rfl, .series hb4 pc ev acc fr mn mi ti un s HR.out, HH.out, HK.out⟩
  rw [hb4] at h5 ⊢
  go_wp2_with fail
  refine (is_any R A ws 0 false confirmW w5 h5).mono ?_
  rintro e w6 ⟨rfl, h6, kq⟩
  have k6 := k5.trans kq
  clear kq k5 h5
  rcases Bool.eq_false_or_eq_true (isB ws 0 false confirmW) with hb5 | hb5
  · rw [hb5, if_pos rfl] at h6
    have E6 := hide ((unhide HE).kept k6 hR)
    go_wp2_with fail
    refine (rid_any R A ws _ _ w6 h6).mono ?_
    rintro e w6a ⟨rfl, h6a, kq⟩
    have k6a := k6.trans kq
    have E6a := hide ((unhide E6).kept kq hR)
    clear kq k6 h6 E6
    have HK := hide k6a
    have HH := hide h6a
    go_wp2
    go_ret
    exact ⟨_, (stps ws [idB] (1, false)), rfl, .confirm hb5, HH.out, HK.out⟩
  rw [hb5] at h6 ⊢
  go_wp2_with fail
  refine (is_any R A ws 0 false cancelW w6 h6).mono ?_
  rintro e w7 ⟨rfl, h7, kq⟩
  have k7 := k6.trans kq
  clear kq k6 h6
  rcases Bool.eq_false_or_eq_true (isB ws 0 false cancelW) with hb6 | hb6
  · rw [hb6, if_pos rfl] at h7
    have E7 := hide ((unhide HE).kept k7 hR)
    go_wp2_with fail
    refine (rid_any R A ws _ _ w7 h7).mono ?_
    rintro e w7a ⟨rfl, h7a, kq⟩
    have k7a := k7.trans kq
    have E7a := hide ((unhide E7).kept kq hR)
    clear kq k7 h7 E7
    have HK := hide k7a
    have HH := hide h7a
    go_wp2
    go_ret
    exact ⟨_, (stps ws [idB] (1, false)), rfl, .cancel hb6, HH.out, HK.out⟩
  rw [hb6] at h7 ⊢
  go_wp2_with fail
  refine (is_any R A ws 0 false listW w7 h7).mono ?_
  rintro e w8 ⟨rfl, h8, kq⟩
  have k8 := k7.trans kq
  clear kq k7 h7
  rcases Bool.eq_false_or_eq_true (isB ws 0 false listW) with hb7 | hb7
  · rw [hb7, if_pos rfl] at h8
    have E8 := hide ((unhide HE).kept k8 hR)
    cases hm : moreB ws.length (stps ws [nmB] (1, false)).1 (stps ws [nmB] (1, false)).2
    · go_wp2_with fail
      refine (rlist_end R A ws (1, false) w8 h8 hm).mono ?_
      rintro e wz ⟨rfl, hz, kz⟩
      have HK := hide (k8.trans kz)
      have HH := hide hz
      have HM := hide hm
      clear hz kz hm k8 h8
      go_wp2
      go_ret
      exact ⟨_, (stps ws [nmB] (1, false)), rfl, .list0 hb7 HM.out, HH.out, HK.out⟩
    · go_wp2_with fail
      refine (rlist_more R A ws (1, false) w8 h8 (unhide E8) hR hm).mono ?_
      rintro e wz ⟨rfl, hz, kz⟩
      have HK := hide (k8.trans kz)
      have HH := hide hz
      have HM := hide hm
      clear hz kz hm k8 h8
      go_wp2
      go_ret
      exact ⟨_, (stps ws [nmB, timeB, timeB] (1, false)), rfl, .list1 hb7 HM.out, HH.out, HK.out⟩
  rw [hb7] at h8 ⊢
  go_wp2_with fail
  refine (is_any R A ws 0 false waitingW w8 h8).mono ?_
  rintro e w9 ⟨rfl, h9, kq⟩
  have k9 := k8.trans kq
  clear kq k8 h8
  rcases Bool.eq_false_or_eq_true (isB ws 0 false waitingW) with hb8 | hb8
  · rw [hb8, if_pos rfl] at h9
    have E9 := hide ((unhide HE).kept k9 hR)
    have HK := hide k9
    have HH := hide h9
    go_wp2
    go_ret
    exact ⟨_, (1, false), rfl, .waiting hb8, HH.out, HK.out⟩
  rw [hb8] at h9 ⊢
  go_wp2_with fail
  refine (is_any R A ws 0 false peakW w9 h9).mono ?_
  rintro e w10 ⟨rfl, h10, kq⟩
  have k10 := k9.trans kq
  clear kq k9 h9
  rcases Bool.eq_false_or_eq_true (isB ws 0 false peakW) with hb9 | hb9
  · rw [hb9, if_pos rfl] at h10
    have E10 := hide ((unhide HE).kept k10 hR)
    go_wp2_with fail
    refine (rname_any R A ws _ _ w10 h10).mono ?_
    rintro e w10a ⟨rfl, h10a, kq⟩
    have k10a := k10.trans kq
    have E10a := hide ((unhide E10).kept kq hR)
    clear kq k10 h10 E10
    go_wp2_with fail
    refine (rspan_any R A ws _ _ w10a h10a (unhide E10a) hR).mono ?_
    rintro e w10b ⟨rfl, h10b, kq⟩
    have k10b := k10a.trans kq
    have E10b := hide ((unhide E10a).kept kq hR)
    clear kq k10a h10a E10a
    have HK := hide k10b
    have HH := hide h10b
    go_wp2
    go_ret
    exact ⟨_, (stps ws [nmB, timeB, timeB] (1, false)), rfl, .peak hb9, HH.out, HK.out⟩
  rw [hb9] at h10 ⊢
  go_wp2_with fail
  refine (is_any R A ws 0 false findW w10 h10).mono ?_
  rintro e w11 ⟨rfl, h11, kq⟩
  have k11 := k10.trans kq
  clear kq k10 h10
  rcases Bool.eq_false_or_eq_true (isB ws 0 false findW) with hb10 | hb10
  · rw [hb10, if_pos rfl] at h11
    have E11 := hide ((unhide HE).kept k11 hR)
    go_wp2_with fail
    refine (rname_any R A ws _ _ w11 h11).mono ?_
    rintro e w11a ⟨rfl, h11a, kq⟩
    have k11a := k11.trans kq
    have E11a := hide ((unhide E11).kept kq hR)
    clear kq k11 h11 E11
    go_wp2_with fail
    refine (runits_any R A ws _ _ w11a h11a).mono ?_
    rintro e w11b ⟨rfl, h11b, kq⟩
    have k11b := k11a.trans kq
    have E11b := hide ((unhide E11a).kept kq hR)
    clear kq k11a h11a E11a
    go_wp2_with fail
    refine (rminutes_any R A ws _ _ w11b h11b).mono ?_
    rintro e w11c ⟨rfl, h11c, kq⟩
    have k11c := k11b.trans kq
    have E11c := hide ((unhide E11b).kept kq hR)
    clear kq k11b h11b E11b
    go_wp2_with fail
    refine (rspan_any R A ws _ _ w11c h11c (unhide E11c) hR).mono ?_
    rintro e w11d ⟨rfl, h11d, kq⟩
    have k11d := k11c.trans kq
    have E11d := hide ((unhide E11c).kept kq hR)
    clear kq k11c h11c E11c
    have HK := hide k11d
    have HH := hide h11d
    go_wp2
    go_ret
    exact ⟨_, (stps ws [nmB, unB, miB, timeB, timeB] (1, false)), rfl, .find hb10, HH.out, HK.out⟩
  rw [hb10] at h11 ⊢
  go_wp2_with fail
  refine (is_any R A ws 0 false expandW w11 h11).mono ?_
  rintro e w12 ⟨rfl, h12, kq⟩
  have k12 := k11.trans kq
  clear kq k11 h11
  rcases Bool.eq_false_or_eq_true (isB ws 0 false expandW) with hb11 | hb11
  · rw [hb11, if_pos rfl] at h12
    have E12 := hide ((unhide HE).kept k12 hR)
    go_wp2_with fail
    refine (rrule_any R A ws (1, false) w12 h12 (unhide E12) hR).mono ?_
    rintro e w12a ⟨pc, ev, acc, fr, mn, mi, ti, un, s, rfl, hr, h12a, kq⟩
    have HR := hide hr
    clear hr
    simp only [ruleV]
    have k12a := k12.trans kq
    have E12a := hide ((unhide E12).kept kq hR)
    clear kq k12 h12 E12
    have HK := hide k12a
    have HH := hide h12a
    go_wp2
    go_ret
    exact ⟨_, s, rfl, .expand hb11 pc ev acc fr mn mi ti un s HR.out, HH.out, HK.out⟩
  rw [hb11] at h12 ⊢
  go_wp2_with fail
  refine (is_any R A ws 0 false tickW w12 h12).mono ?_
  rintro e w13 ⟨rfl, h13, kq⟩
  have k13 := k12.trans kq
  clear kq k12 h12
  rcases Bool.eq_false_or_eq_true (isB ws 0 false tickW) with hb12 | hb12
  · rw [hb12, if_pos rfl] at h13
    have E13 := hide ((unhide HE).kept k13 hR)
    go_wp2_with fail
    refine (rminutes_any R A ws _ _ w13 h13).mono ?_
    rintro e w13a ⟨rfl, h13a, kq⟩
    have k13a := k13.trans kq
    have E13a := hide ((unhide E13).kept kq hR)
    clear kq k13 h13 E13
    have HK := hide k13a
    have HH := hide h13a
    go_wp2
    go_ret
    exact ⟨_, (stps ws [miB] (1, false)), rfl, .tick hb12, HH.out, HK.out⟩
  rw [hb12] at h13 ⊢
  go_wp2_with fail
  refine (is_any R A ws 0 false clockW w13 h13).mono ?_
  rintro e w14 ⟨rfl, h14, kq⟩
  have k14 := k13.trans kq
  clear kq k13 h13
  rcases Bool.eq_false_or_eq_true (isB ws 0 false clockW) with hb13 | hb13
  · rw [hb13, if_pos rfl] at h14
    have E14 := hide ((unhide HE).kept k14 hR)
    have HK := hide k14
    have HH := hide h14
    go_wp2
    go_ret
    exact ⟨_, (1, false), rfl, .clock hb13, HH.out, HK.out⟩
  rw [hb13] at h14 ⊢
  have c2 := h14.c2
  have f2 := h14.f2
  go_wp2
  go_ret
  exact ⟨_, (0, true), rfl, .none hb0 hb1 hb2 hb3 hb4 hb5 hb6 hb7 hb8 hb9 hb10 hb11 hb12 hb13, h14.bad, k14.setCell _ _⟩

end Go.Proofs.YtjfkfiffakbagaaGreatDoor


/-
  The words of a text are no longer than the text.
-/
namespace Go.Proofs.YtjfkfiffakbagaaGreatDoor
open Go.RowKit

theorem words_small (s : ByteArray) : ∀ x ∈ Txt.wordsS s, x.size ≤ s.size := by
  intro x hx
  unfold Txt.wordsS at hx
  simp only [List.mem_map] at hx
  obtain ⟨y, _, rfl⟩ := hx
  have : (s.extract y.1 y.2).size = min y.2 s.size - y.1 := ByteArray.size_extract ..
  omega

end Go.Proofs.YtjfkfiffakbagaaGreatDoor


/-
  The walk over the program's Read.
-/
namespace Go.Proofs.YtjfkfiffakbagaaGreatDoor
open Go.RowKit

/-- What Read answers. -/
inductive ReadR (s : ByteArray) : Ending → Prop where
  | long (h : 160 < s.size) : ReadR s (.returned (.tuple #[.nilIface, .int .i64 1, .int .i64 0]))
  | bad (h : s.size ≤ 160) (v : Value) (st : Nat × Bool) (hl : LineR (Txt.wordsS s) v st) (hb : st.2 = true ∨ moreB (Txt.wordsS s).length st.1 st.2 = true) : ReadR s (.returned (.tuple #[.nilIface, .int .i64 2, .int .i64 st.1]))
  | good (h : s.size ≤ 160) (v : Value) (st : Nat × Bool) (hl : LineR (Txt.wordsS s) v st) (h2 : st.2 = false) (hb : moreB (Txt.wordsS s).length st.1 st.2 = false) : ReadR s (.returned (.tuple #[v, .int .i64 0, .int .i64 0]))

theorem acc_len2 (s : ByteArray) : ∀ k : Nat, k ≤ s.size → (Txt.accS s k).length + (if (Txt.curS s k).size = 0 then 0 else 1) ≤ k
  | 0, _ => by
    have := Txt.acc_len s 0
    have := Txt.cur_size s 0
    rw [if_pos (by omega)]; omega
  | k + 1, hk => by
    have ih := acc_len2 s k (by omega)
    by_cases hb : Txt.byteAt s k = 32
    · obtain ⟨h1, h2⟩ := Txt.cur_blank s k (by omega) hb
      have e : (if (⟨#[]⟩ : ByteArray).size = 0 then (0 : Nat) else 1) = 0 := if_pos rfl
      rw [h1, h2, e, List.length_append]
      by_cases hc : (Txt.curS s k).size = 0
      · rw [if_pos hc] at ih ⊢; simp; omega
      · rw [if_neg hc] at ih ⊢; simp; omega
    · obtain ⟨_, h2⟩ := Txt.cur_next s k hb
      rw [h2]
      split at ih <;> split <;> omega
theorem words_len2 (s : ByteArray) : (Txt.wordsS s).length ≤ s.size := by
  have := acc_len2 s s.size (Nat.le_refl _)
  rw [Txt.words_end, List.length_append]
  split <;> rename_i hc <;> simp [hc] at this ⊢ <;> omega

theorem own_cells {w : World} {base g n cap : Nat} {xs : List ByteArray} (h : w.ownsRow base 9 1 (.slice (some ⟨g, 0, none⟩) n cap) n (xs.map Value.string)) : g < w.heap.size ∧ ∀ (i : Nat) (hi : i < xs.length), w.cell? ⟨g, i, none⟩ = some (.string xs[i]) := by
  rcases h.2 with ⟨h0, _⟩ | ⟨g', cap', cur, hv, hg, hh, hc, _, hs, ht⟩
  · cases h0
  · cases hv
    have hl : g < w.heap.size := by
      by_cases hl : g < w.heap.size
      · exact hl
      · rw [Array.getElem?_eq_none (by omega)] at hh; cases hh
    refine ⟨hl, fun i hi => ?_⟩
    have h1 := h.1
    have hlen : (xs.map Value.string).length = xs.length := by simp
    have hcur : cur[i]? = some (.string xs[i]) := by
      have hx : (xs.map Value.string)[i]? = some (.string xs[i]) := by simp [hi]
      rw [← ht, List.getElem?_take, if_pos (by omega)] at hx
      simpa using hx
    simp [World.cell?, hh, hcur]

set_option maxRecDepth 100000 in
set_option maxHeartbeats 1000000 in
theorem read_any (s : ByteArray) (w : World) (he : Env w) :
    Calls Tryz.prog 42 #[.string s] w fun e w' => ReadR s e ∧ Below w.heap.size w w' := by
  have HE := hide he
  have h10 := he.size
  clear he
  by_cases hs : s.size ≤ 160
  · have hs2 : (s.size : Int) ≤ 160 := by omega
    go_enter Tryz.func42, Tryz.ntmps42
    go_wp2_with fail
    refine (split_any s w hs).mono ?_
    rintro e w1 ⟨A, rfl, hA, ho, hb⟩
    obtain ⟨hAl, hrow⟩ := own_cells ho
    have hwl := words_len2 s
    have hsm := words_small s
    obtain ⟨ws, hws⟩ : ∃ ws, ws = Txt.wordsS s := ⟨_, rfl⟩
    have HWS := hide hws
    rw [← hws] at hrow hwl hsm ⊢
    clear hws ho
    have HROW := hide hrow
    have HSM := hide hsm
    clear hrow hsm
    go_wp2_with fail
    obtain ⟨X, hX⟩ : ∃ X, X = w1.alloc (.cells #[.slice (some ⟨A, 0, none⟩) ws.length ws.length, .int .i64 0, .bool false] 121) := ⟨_, rfl⟩
    rw [← hX]
    have hbX : Below w1.heap.size w1 X := by rw [hX]; exact (Below.refl _ _).alloc (Nat.le_refl _) _
    have hrs : RS X w1.heap.size A ws 0 false := by
      refine ⟨?_, ?_, ?_, ?_, ?_, by omega, fun i hi => cell_later hbX (unhide HROW i hi), by omega, Nat.zero_le _, fun x hx => Nat.le_trans (unhide HSM x hx) hs⟩ <;> (rw [hX]; simp)
    clear hX
    have eX := ((unhide HE).later hb).later hbX
    have hz1 := hb.size
    refine (rline_any w1.heap.size A ws X hrs eX (by omega)).mono ?_
    rintro e w2 ⟨v, st, rfl, hl, h2, k2⟩
    have c1 := h2.c1
    have c2 := h2.c2
    have HL := hide hl
    have hbW : Below w.heap.size w w2 := (hb.trans (hbX.mono hz1)).trans (k2.below hz1 (Nat.le_trans hz1 hbX.size))
    have hnx := h2.nxle
    clear hl eX hrs hbX
    obtain ⟨nx, wr⟩ := st
    dsimp only at c1 c2 h2 hnx
    have hmo : moreB ws.length nx wr = false ∨ moreB ws.length nx wr = true := by cases moreB ws.length nx wr <;> simp
    cases wr
    · rcases hmo with hmo | hmo
      · have HM := hide hmo
        go_wp2_with fail
        refine (more_any w1.heap.size A ws nx false w2 h2).mono ?_
        rintro e w3 ⟨rfl, n, hw3⟩
        have hb3 : Below w.heap.size w w3 := by rw [hw3]; exact ⟨hbW.os, hbW.tape, hbW.output, hbW.size, hbW.block⟩
        clear hw3 h2
        rw [hmo]
        go_wp2
        go_ret3
        have hws := HWS.out
        subst hws
        exact ⟨.good hs v (nx, false) HL.out rfl HM.out, hb3⟩
      · have HM := hide hmo
        go_wp2_with fail
        refine (more_any w1.heap.size A ws nx false w2 h2).mono ?_
        rintro e w3 ⟨rfl, n, hw3⟩
        have hb3 : Below w.heap.size w w3 := by rw [hw3]; exact ⟨hbW.os, hbW.tape, hbW.output, hbW.size, hbW.block⟩
        have d1 : w3.cell? ⟨w1.heap.size, 1, none⟩ = some (.int .i64 nx) := by rw [hw3]; exact c1
        clear hw3 h2 c1 c2
        rw [hmo]
        go_wp2
        go_quiet (fail)
        go_wp2
        go_ret3
        have hws := HWS.out
        subst hws
        exact ⟨.bad hs v (nx, false) HL.out (.inr HM.out), ⟨hb3.os, hb3.tape, hb3.output, hb3.size, hb3.block⟩⟩
    · clear h2 hmo
      go_wp2
      go_quiet (fail)
      go_wp2
      go_ret3
      have hws := HWS.out
      subst hws
      exact ⟨.bad hs v (nx, true) HL.out (.inl rfl), ⟨hbW.os, hbW.tape, hbW.output, hbW.size, hbW.block⟩⟩
  · have hs2 : ¬ (s.size : Int) ≤ 160 := by omega
    go_enter Tryz.func42, Tryz.ntmps42
    go_wp2
    go_ret3
    exact ⟨.long (by omega), Below.refl _ _⟩

end Go.Proofs.YtjfkfiffakbagaaGreatDoor


/-
  Package bookings: New, and Do over what is read and what answer answers.
-/
namespace Go.Proofs.YtjfkfiffakbagaaGreatDoor
open Go.RowKit
open Desk (Ent St Ids kept booked bookE sumA Items ofB sameB Risen Mid EntOk endsB Inv)

theorem Env.ten {w wx : World} (h : Env w) (hb : Below 10 w wx) : Env wx := by
  obtain ⟨m, hm⟩ := h.maxl
  have c : ∀ {b : Nat} {o : Nat} {v : Value}, b < 10 → w.cell? ⟨b, o, none⟩ = some v → wx.cell? ⟨b, o, none⟩ = some v := fun hb' hv => (hb.cell (p := ⟨_, _, none⟩) hb').trans hv
  have ht := h.tab
  obtain ⟨a0, a1, a2, a3, a4, a5, a6, a7, a8, a9, a10, a11⟩ := ht
  refine ⟨⟨c (by decide) a0, c (by decide) a1, c (by decide) a2, c (by decide) a3, c (by decide) a4, c (by decide) a5, c (by decide) a6, c (by decide) a7, c (by decide) a8, c (by decide) a9, c (by decide) a10, c (by decide) a11⟩, ⟨m, c (by decide) hm⟩, ?_, Nat.le_trans h.size hb.size, c (by decide) h.mo, c (by decide) h.tu, c (by decide) h.we, c (by decide) h.th, c (by decide) h.fr, c (by decide) h.sa, c (by decide) h.su⟩
  have hp := h.pow
  unfold Lib.TabIs World.var? at hp ⊢
  simp only [gPow, Option.bind_some] at hp ⊢
  rw [hb.block 1 (by decide)]
  exact hp
theorem Step.ten {S : Col → Prop} {B : Nat} {col col' : Nat → Option Col} {w w' : World} (h : Step S B col col' w w') (hB : 10 ≤ B) (hs : 10 ≤ w.heap.size) (hc : ∀ b, b < 10 → col b = none) : Below 10 w w' ∧ ∀ b, b < 10 → col' b = none := by
  obtain ⟨G, h1, h2⟩ := h.off
  refine ⟨⟨h1.os, h1.tape, h1.output, h1.size, fun b hb => h1.block b (by omega) (fun hx => ?_)⟩, fun b hb => ?_⟩
  · rcases h2 b hx with ⟨c, e, _⟩ | ⟨_, e⟩
    · rw [hc b hb] at e; cases e
    · omega
  · cases e : col' b with
    | none => rfl
    | some c =>
      rcases h.new b c e with e1 | e1
      · rw [hc b hb] at e1; cases e1
      · omega

/-- A desk of the package bookings in memory. -/
structure BD (w : World) (p d : Nat) (s : St) (r : Raw) (col : Nat → Option Col) : Prop where
  pc : w.heap[p]? = some (.cells #[.pointer (some ⟨d, 0, none⟩)] 96 (0, 0))
  pn : col p = none
  ds : DSt w d s r col
  env : Env w
  gl : ∀ b, b < 10 → col b = none
/-- What Do leaves and answers. -/
def BPost (w : World) (p d : Nat) (col : Nat → Option Col) (q : St × Desk.Rep) (v : Value) (w' : World) : Prop :=
  ∃ (r' : Raw) (col' : Nat → Option Col), BD w' p d q.1 r' col' ∧ Step anyS w.heap.size col col' w w' ∧ RepIs w' w.heap.size col' v q.2

set_option maxRecDepth 100000 in
set_option maxHeartbeats 1000000 in
theorem bNew_any (w : World) (he : Env w) : Calls Tryz.prog 30 #[] w fun e w' => ∃ p d col, e = .returned (.pointer (some ⟨p, 0, none⟩)) ∧ BD w' p d st0 raw0 col ∧ Below w.heap.size w w' ∧ (∀ b, b < w.heap.size → col b = none) := by
  have DN := hidp (deskNew_any w)
  have HE := hidp he
  have hsz := he.size
  clear he
  go_enter Tryz.func30, Tryz.ntmps30
  go_wp2_with (first
    | (go_at_call 46; refine DN.out.mono ?_; rintro e w1 ⟨v, rfl, rfl, hd, hb⟩))
  have HF : Hid (BD (w1.alloc (.cells #[.pointer (some ⟨w.heap.size + 2, 0, none⟩)] 96)) w1.heap.size (w.heap.size + 2) st0 raw0 (col0 w.heap.size) ∧ Below w.heap.size w (w1.alloc (.cells #[.pointer (some ⟨w.heap.size + 2, 0, none⟩)] 96)) ∧ ∀ b, b < w.heap.size → col0 w.heap.size b = none) := by
    have k : Below w1.heap.size w1 (w1.alloc (.cells #[.pointer (some ⟨w.heap.size + 2, 0, none⟩)] 96)) := (Below.refl _ _).alloc (Nat.le_refl _) _
    have hlow : ∀ b, b < w.heap.size → col0 w.heap.size b = none := fun b hb' => by unfold col0; rw [if_neg (by omega), if_neg (by omega), if_neg (by omega)]
    exact ⟨⟨heapNew w1 _, hd.dk.none (Nat.le_refl _), ⟨hd.dk.later k, hd.of, hd.wl, hd.hl, hd.inv⟩, (HE.out.later hb).later k, fun b hb' => hlow b (by omega)⟩, hb.trans (k.mono hb.size), hlow⟩
  clear hd hb
  go_wp2_with fail
  exact bodyPost_ret (v := .pointer (some ⟨w1.heap.size, 0, none⟩)) (by simp [results, Tryz.results30, go_sem]) rfl ⟨_, _, _, rfl, HF.out⟩

set_option maxRecDepth 100000 in
set_option maxHeartbeats 4000000 in
/-- A line that is read does what it says. -/
theorem bDo_good {w : World} {p d : Nat} {s : St} {r : Raw} {col : Nat → Option Col} (h : BD w p d s r col) (t : ByteArray) (line : Value) (l : Desk.Line) (hr : ∀ e, ReadR t e → e = .returned (.tuple #[line, .int .i64 0, .int .i64 0])) (hl : Desk.LineOk l) (hgl : (Desk.doesD s l).2.granted.length ≤ 50000)
    (hans : ∀ X, Tab X → 10 ≤ X.heap.size → DSt X d s r col → Calls Tryz.prog 62 #[.pointer (some ⟨d, 0, none⟩), line] X fun e w' => ∃ v, e = .returned v ∧ AnsPost X d col (Desk.doesD s l) v w') :
    Calls Tryz.prog 20 #[.pointer (some ⟨p, 0, none⟩), .string t] w fun e w' => ∃ v, e = .returned v ∧ BPost w p d col (Desk.stepD s l) v w' := by
  have hX : Below w.heap.size w (w.alloc zeroR) := (Below.refl _ _).alloc (Nat.le_refl _) _
  have hq := heapNew w zeroR
  have hs : w.heap.size < (w.alloc zeroR).heap.size := by simp
  have RD := hidp (read_any t (w.alloc zeroR) (h.env.later hX))
  have HX := hidp (And.intro hX (And.intro (Q7.of hq) (And.intro (h.ds.dk.none (Nat.le_refl _)) hs)))
  have HH := hidp h
  have HR := hidp hr
  have HD : Hid (∀ w1, Below w.heap.size w w1 → Calls Tryz.prog 43 #[.pointer (some ⟨d, 0, none⟩), line] w1 fun e w' => ∃ v, e = .returned v ∧ AnsPost w1 d col (Desk.stepD s l) v w') := fun w1 k => do_any ⟨h.ds.dk.later k, h.ds.of, h.ds.wl, h.ds.hl, h.ds.inv⟩ line l hl hgl (fun X kX hds => hans X (((h.env.later k).later kX).tab) (Nat.le_trans (Nat.le_trans h.env.size k.size) kX.size) hds)
  have HI := hidp (Desk.step_inv h.ds.inv hl)
  have hpl : p < w.heap.size := (Array.getElem?_eq_some_iff.1 h.pc).1
  clear h hr hans hX hq hs hgl
  generalize Desk.stepD s l = q at *
  go_enter Tryz.func20, Tryz.ntmps20
  go_upto_region 1 with fail
  change Code.wp _ _ _ _ (w.alloc zeroR)
  generalize w.alloc zeroR = X at *
  go_upto_region 2 with (first
    | (go_at_call 42; refine RD.out.mono ?_; rintro e w1 ⟨hrr, hb⟩; obtain rfl := HR.out _ hrr))
  have BW : Hid (Below w.heap.size w w1) := HX.out.1.trans (hb.mono HX.out.1.size)
  have pc : w1.cell? ⟨p, 0, none⟩ = some (.pointer (some ⟨d, 0, none⟩)) := by
    have := (BW.out.block p hpl).trans HH.out.pc
    simp [World.cell?, this]
  have DD := hidp (HD.out w1 BW.out)
  have QX : Hid (Q7 w1 w.heap.size ∧ w.heap.size < w1.heap.size) := ⟨HX.out.2.1.later (hb.block _ HX.out.2.2.2), Nat.lt_of_lt_of_le HX.out.2.2.2 hb.size⟩
  clear HD RD HR hb hrr
  go_wp2_with fail
  refine DD.out.mono ?_
  rintro e w2 ⟨v, rfl, ap⟩
  obtain ⟨er, at_, nn, a1, a2, a3, a4, n1, n2, n3, n4, c1, c2, c3, c4, rfl, q7, hf⟩ := ap.up BW.out (Nat.le_refl _) QX.out.2 HX.out.2.2.1 QX.out.1
  have HF : Hid (BPost w p d col q (repV er at_ nn (.slice a1 n1 c1) (.slice a2 n2 c2) (.slice a3 n3 c3) (.slice a4 n4 c4)) (set7 w2 w.heap.size (.int .i64 er) (.int .i64 at_) (.int .i64 nn) (.slice a1 n1 c1) (.slice a2 n2 c2) (.slice a3 n3 c3) (.slice a4 n4 c4))) := by
    obtain ⟨r', col', k1, k2, k3, k4, k5, k6⟩ := hf (.int .i64 er) (.int .i64 at_) (.int .i64 nn) (.slice a1 n1 c1) (.slice a2 n2 c2) (.slice a3 n3 c3) (.slice a4 n4 c4)
    have h0 := HH.out
    obtain ⟨t1, t2⟩ := k5.ten h0.env.size h0.env.size h0.gl
    exact ⟨r', col', ⟨(k5.blockN hpl h0.pn hpl).trans h0.pc, k5.keepN h0.pn hpl, ⟨k1, k2, k3, k4, HI.out⟩, h0.env.ten t1, t2⟩, k5, k6⟩
  clear ap hf DD pc
  obtain ⟨q0, q1, q2, q3, q4, q5, q6, fq⟩ := q7
  simp only [repV]
  go_wp2_with fail
  exact bodyPost_ret (v := repV er at_ nn (.slice a1 n1 c1) (.slice a2 n2 c2) (.slice a3 n3 c3) (.slice a4 n4 c4)) (by simp [results, Tryz.results20, go_sem, repV, q0, q1, q2, q3, q4, q5, q6]) rfl ⟨_, rfl, HF.out⟩

set_option maxRecDepth 100000 in
set_option maxHeartbeats 4000000 in
/-- A line that can't be read is refused. -/
theorem bDo_bad {w : World} {p d : Nat} {s : St} {r : Raw} {col : Nat → Option Col} (h : BD w p d s r col) (t : ByteArray) (er at_ : Int) (he : er ≠ 0) (hr : ∀ e, ReadR t e → e = .returned (.tuple #[.nilIface, .int .i64 er, .int .i64 at_])) :
    Calls Tryz.prog 20 #[.pointer (some ⟨p, 0, none⟩), .string t] w fun e w' => ∃ v, e = .returned v ∧ BPost w p d col (s, ⟨er, at_, 0, [], [], [], []⟩) v w' := by
  have hX : Below w.heap.size w (w.alloc zeroR) := (Below.refl _ _).alloc (Nat.le_refl _) _
  have hq := heapNew w zeroR
  have hs : w.heap.size < (w.alloc zeroR).heap.size := by simp
  have RD := hidp (read_any t (w.alloc zeroR) (h.env.later hX))
  have HX := hidp (And.intro hX (And.intro (Q7.of hq) (And.intro (h.ds.dk.none (Nat.le_refl _)) hs)))
  have HH := hidp h
  have HR := hidp hr
  have hpl : p < w.heap.size := (Array.getElem?_eq_some_iff.1 h.pc).1
  have hb1 : (er != 0) = true := by simpa using he
  clear h hr hX hq hs he
  go_enter Tryz.func20, Tryz.ntmps20
  go_upto_region 1 with fail
  change Code.wp _ _ _ _ (w.alloc zeroR)
  generalize w.alloc zeroR = X at *
  go_upto_region 2 with (first
    | (go_at_call 42; refine RD.out.mono ?_; rintro e w1 ⟨hrr, hb⟩; obtain rfl := HR.out _ hrr))
  have BW : Hid (Below w.heap.size w w1) := HX.out.1.trans (hb.mono HX.out.1.size)
  have QX : Hid (Q7 w1 w.heap.size) := HX.out.2.1.later (hb.block _ HX.out.2.2.2)
  have HF : Hid (∀ a b c e f g i, BPost w p d col (s, ⟨er, at_, 0, [], [], [], []⟩) (repV er at_ 0 (.slice none 0 0) (.slice none 0 0) (.slice none 0 0) (.slice none 0 0)) (set7 w1 w.heap.size a b c e f g i)) := fun a b c e f g i => by
    have h0 := HH.out
    have ko := set7_off w1 w.heap.size a b c e f g i
    have nq := h0.ds.dk.none (Nat.le_refl w.heap.size)
    have st : Step anyS w.heap.size col col w (set7 w1 w.heap.size a b c e f g i) := (Step.below BW.out).trans ⟨⟨_, ko, fun x hx => .inr (by have : x = w.heap.size := List.mem_singleton.1 hx; subst this; exact ⟨nq, Nat.le_refl _⟩)⟩, fun _ _ h => h, fun _ _ h => .inl h⟩
    obtain ⟨t1, t2⟩ := st.ten h0.env.size h0.env.size h0.gl
    exact ⟨r, col, ⟨(st.blockN hpl h0.pn hpl).trans h0.pc, h0.pn, ⟨(h0.ds.dk.later BW.out).off ko (fun x hx => by have : x = w.heap.size := List.mem_singleton.1 hx; subst this; exact nq), h0.ds.of, h0.ds.wl, h0.ds.hl, h0.ds.inv⟩, h0.env.ten t1, t2⟩, st, ⟨_, _, _, _, [], rfl, rfl, ERow.nil _ _ _, NRow.nil _ _ _, NRow.nil _ _ _, NRow.nil _ _ _, fun b hb => by cases hb⟩⟩
  clear RD HR hb hrr HX
  obtain ⟨q0, q1, q2, q3, q4, q5, q6, fq⟩ := QX.out
  go_wp2_with fail
  exact bodyPost_ret (v := repV er at_ 0 (.slice none 0 0) (.slice none 0 0) (.slice none 0 0) (.slice none 0 0)) (by simp [results, Tryz.results20, go_sem, repV, q0, q1, q2, q3, q4, q5, q6]) rfl ⟨_, rfl, HF.out _ _ _ _ _ _ _⟩

end Go.Proofs.YtjfkfiffakbagaaGreatDoor


/-
  Package desk: cancel.
-/
namespace Go.Proofs.YtjfkfiffakbagaaGreatDoor
open Go.RowKit
open Desk (Ent St Ids kept booked bookE sumA Items ofB sameB Risen Mid EntOk endsB Inv)

set_option maxRecDepth 100000 in
set_option maxHeartbeats 2000000 in
theorem cancel_any {w : World} {d : Nat} {s : St} {r : Raw} {col : Nat → Option Col} (h : DSt w d s r col) (id : Int) (hid : 0 ≤ id ∧ id ≤ 9999999) :
    Calls Tryz.prog 97 #[.pointer (some ⟨d, 0, none⟩), .agg #[.int .i64 id]] w fun e w' => ∃ v, e = .returned v ∧ AnsPost w d col (Desk.doesD s (.cancel id)) v w' := by
  obtain ⟨hX, hXQ⟩ := two_more (w := w) (.cells #[.int .i64 id] 162)
  have xi : ((w.alloc (.cells #[.int .i64 id] 162)).alloc zeroR).cell? ⟨w.heap.size, 0, none⟩ = some (.int .i64 id) := by simp [zeroR]
  have HH := hidp h
  have HX := hidp (And.intro hX hXQ)
  clear h hX hXQ
  go_enter Tryz.func97, Tryz.ntmps97
  go_upto_region 1 with fail
  change Code.wp _ _ _ _ ((w.alloc (.cells #[.int .i64 id] 162)).alloc zeroR)
  generalize (w.alloc (.cells #[.int .i64 id] 162)).alloc zeroR = X at HX xi ⊢
  have hx := HH.out.dk.later HX.out.1
  obtain ⟨m, f, a1, a2, a3, a4⟩ := hx.me
  have kk := key_int (n := id) (by omega) (by omega)
  have hlook := (a3.block (w' := X.drew) rfl).look keyInt Tryz.underlying126 (zeroPE X.drew) kk
  rw [a4 id] at hlook
  have QX : Hid (Q7 X.drew (w.heap.size + 1)) := Q7.of HX.out.2
  have BX : Hid (Below w.heap.size w X.drew) := HX.out.1.drew
  cases he : enAt r.eg id with
  | none =>
    rw [he] at hlook
    have hlook' : (Instr.lookup 126 (.map (some m)) (.int .i64 id) false).run Tryz.prog X.drew = .ok (.pointer none) X.drew := hlook
    have HD : Hid (Desk.doesD s (.cancel id) = (s, Desk.Rep.error 9)) := by have e := findE_none HH.out.of he; simp only [Hid, Desk.doesD, e]
    clear hlook a3 a4 he hx HX
    go_big_region
    clear hlook' xi a1
    go_wp2_with fail
    refine (refused_any 9 X.drew).mono ?_
    rintro e w1 ⟨rfl, hb⟩
    have hq := hb.block (w.heap.size + 1) (World.block_lt_of_cell? _ _ QX.out.q0)
    have HF : Hid (AnsPost w d col (Desk.doesD s (.cancel id)) (repV 9 0 0 (.slice none 0 0) (.slice none 0 0) (.slice none 0 0) (.slice none 0 0)) (set7 w1 (w.heap.size + 1) (.int .i64 9) (.int .i64 0) (.int .i64 0) (.slice none 0 0) (.slice none 0 0) (.slice none 0 0) (.slice none 0 0))) := by
      rw [HD.out]; exact HH.out.said (BX.out.trans (hb.mono BX.out.size)) (by omega) 9 0 _ _ _ _ _ _ _
    obtain ⟨q0, q1, q2, q3, q4, q5, q6, fq⟩ := QX.out.later hq
    simp only [repV]
    go_wp2_with fail
    exact bodyPost_ret (v := repV 9 0 0 (.slice none 0 0) (.slice none 0 0) (.slice none 0 0) (.slice none 0 0)) (by simp [results, Tryz.results97, go_sem, repV, q0, q1, q2, q3, q4, q5, q6]) rfl ⟨_, rfl, HF.out⟩
  | some b =>
    rw [he] at hlook
    obtain ⟨g, hg, rfl, rfl⟩ := enAt_inv he
    have hlook' : (Instr.lookup 126 (.map (some m)) (.int .i64 g.e.id) false).run Tryz.prog X.drew = .ok (.pointer (some ⟨g.eb, 0, none⟩)) X.drew := hlook
    have hf := findE_some HH.out.of hx.ni hg
    have ck : X.drew.cell? ⟨g.eb, 1, none⟩ = some (.int .i64 g.e.kind) := (hx.en g hg).1.k
    have hd := hx.later (blwDrew X)
    have HD : Hid (Desk.doesD s (.cancel g.e.id) = ({ s with es := kept g.e.id s.es }, Desk.Rep.num 0)) := by simp only [Hid, Desk.doesD, hf]
    have hQ : w.heap.size + 1 < X.drew.heap.size := World.block_lt_of_cell? _ _ QX.out.q0
    have hcQ : col (w.heap.size + 1) = none := HH.out.dk.none (by omega)
    by_cases hk : g.e.kind = 1
    · have hkb : (g.e.kind != 1) = false := by simpa using hk
      have LV := hidp (leave_any hd HH.out.of HH.out.wl HH.out.mid hg (HH.out.hl.goes1 hx.ni hg hk))
      have ST : Hid (Step anyS w.heap.size col col w X.drew) := Step.below BX.out
      have Q2 := QX
      have hQ2 := hQ
      have hcQ2 := hcQ
      clear hlook a3 a4 he hx HX hf hk hd hg
      go_big_region
      clear hlook' xi a1
      go_wp2_with fail
      refine LV.out.mono ?_
      rintro e w2 ⟨rfl, r2, col2, k5, k6, k7, k8, k9⟩
      have hq := k9.blockN hQ2 hcQ2 hQ2
      have HF : Hid (AnsPost w d col (Desk.doesD s (.cancel g.e.id)) (repV 0 0 0 (.slice none 0 0) (.slice none 0 0) (.slice none 0 0) (.slice none 0 0)) (set7 w2 (w.heap.size + 1) (.int .i64 0) (.int .i64 0) (.int .i64 0) (.slice none 0 0) (.slice none 0 0) (.slice none 0 0) (.slice none 0 0))) := by
        rw [HD.out]
        exact ansPlain k5 k6 k7 k8 (ST.out.trans (k9.any ST.out.size)) (by omega) (k9.keepN hcQ2 hQ2) 0 0 _ _ _ _ _ _ _
      clear k5 k6 k7 k8 k9 LV
      obtain ⟨q0, q1, q2, q3, q4, q5, q6, fq⟩ := Q2.out.later hq
      go_wp2_with fail
      exact bodyPost_ret (v := repV 0 0 0 (.slice none 0 0) (.slice none 0 0) (.slice none 0 0) (.slice none 0 0)) (by simp [results, Tryz.results97, go_sem, repV, q0, q1, q2, q3, q4, q5, q6]) rfl ⟨_, rfl, HF.out⟩
    · have hkb : (g.e.kind != 1) = true := by simpa using hk
      have hcnt : r.hl.length ≤ 1000 := by
        have h1 := HH.out.hl.len
        have h2 : r.eg.length = s.es.length := by rw [← HH.out.of.es]; simp
        have h3 := mid_len HH.out.mid
        omega
      have DR := hidp (fun wx (k : Below X.drew.heap.size X.drew wx) => ddrop_any (hd.later k) HH.out.hl.1 hcnt g.e.till g.e.id ⟨_, HH.out.hl.has hg hk, rfl, rfl⟩)
      have c0 : X.drew.cell? ⟨g.eb, 0, none⟩ = some (.int .i64 g.e.id) := (hx.en g hg).1.en.c0
      have c5 : X.drew.cell? ⟨g.eb, 5, none⟩ = some (.int .i64 g.e.till) := (hx.en g hg).1.u
      have HG := hidp (And.intro hg (And.intro hk hx.ni))
      clear hlook a3 a4 he hx HX hf hk hd hg hcnt
      go_big_region
      clear hlook' xi a1
      go_upto_region 5 with fail
      generalize hW : X.drew = W at *
      go_region_held3 (fun w' => w'.cell? ⟨g.eb, 0, none⟩ = some (.int .i64 g.e.id) ∧ w'.cell? ⟨g.eb, 5, none⟩ = some (.int .i64 g.e.till))
        (first
          | exact ⟨c0, c5⟩
          | exact ⟨((k5.en g HG.out.1).1).en.c0, ((k5.en g HG.out.1).1).u⟩)
        (first
          | (go_at_call 146; refine (DR.out _ (blwDrew W)).mono ?_; rintro e w4 ⟨rfl, x, l', col1, k1, k2, k3, k4, k5, k6⟩))
      have LV := hidp (leave_any k5 (s := s) ⟨HH.out.of.now, HH.out.of.given, HH.out.of.ts, HH.out.of.es, HH.out.of.th, HH.out.of.tb⟩ HH.out.wl HH.out.mid HG.out.1 (HH.out.hl.goes HG.out.2.2 HG.out.1 HG.out.2.1 k2 k3 k4))
      have ST : Hid (Step anyS w.heap.size col col1 w w4) := (Step.below BX.out).trans ((Step.below (blwDrew W)).trans (k6.any BX.out.size))
      have Q2 : Hid (Q7 w4 (w.heap.size + 1)) := QX.out.later (k6.blockN (b := w.heap.size + 1) hQ hcQ hQ)
      have hQ2 : w.heap.size + 1 < w4.heap.size := World.block_lt_of_cell? _ _ Q2.out.q0
      have hcQ2 : col1 (w.heap.size + 1) = none := k6.keepN hcQ hQ
      clear k1 k2 k3 k4 k5 k6 DR c0 c5 ck hW
      go_wp2_with fail
      refine LV.out.mono ?_
      rintro e w2 ⟨rfl, r2, col2, k5, k6, k7, k8, k9⟩
      have hq := k9.blockN hQ2 hcQ2 hQ2
      have HF : Hid (AnsPost w d col (Desk.doesD s (.cancel g.e.id)) (repV 0 0 0 (.slice none 0 0) (.slice none 0 0) (.slice none 0 0) (.slice none 0 0)) (set7 w2 (w.heap.size + 1) (.int .i64 0) (.int .i64 0) (.int .i64 0) (.slice none 0 0) (.slice none 0 0) (.slice none 0 0) (.slice none 0 0))) := by
        rw [HD.out]
        exact ansPlain k5 k6 k7 k8 (ST.out.trans (k9.any ST.out.size)) (by omega) (k9.keepN hcQ2 hQ2) 0 0 _ _ _ _ _ _ _
      clear k5 k6 k7 k8 k9 LV
      obtain ⟨q0, q1, q2, q3, q4, q5, q6, fq⟩ := Q2.out.later hq
      go_wp2_with fail
      exact bodyPost_ret (v := repV 0 0 0 (.slice none 0 0) (.slice none 0 0) (.slice none 0 0) (.slice none 0 0)) (by simp [results, Tryz.results97, go_sem, repV, q0, q1, q2, q3, q4, q5, q6]) rfl ⟨_, rfl, HF.out⟩

end Go.Proofs.YtjfkfiffakbagaaGreatDoor


/-
  Package desk: enter.
-/
namespace Go.Proofs.YtjfkfiffakbagaaGreatDoor
open Go.RowKit
open Desk (Ent St Ids kept booked bookE sumA Items ofB sameB Risen Mid EntOk endsB Inv)

/-- What an entry's coming does. -/
def enterD (s : St) (e : Ent) : St × Desk.Rep :=
  if s.given = 60 ∨ e.kind = 3 ∧ Desk.waitN s.es = 6 then (s, .error 5)
  else if e.kind ≠ 3 ∧ Desk.fitsN s.ts s.es e.thing e.units e.spans = false then (s, .error 8)
  else Desk.joinD s e
/-- What enter answers and leaves; from B on blocks of no colour may have changed. -/
def EnterPost (w : World) (B : Nat) (d : Nat) (col : Nat → Option Col) (q : St × Desk.Rep) (v : Value) (w' : World) : Prop :=
  ∃ (er n : Int) (r' : Raw) (col' : Nat → Option Col), v = repV er 0 n (.slice none 0 0) (.slice none 0 0) (.slice none 0 0) (.slice none 0 0) ∧ q.2 = ⟨er, 0, n, [], [], [], []⟩ ∧ DK w' d r' col' ∧ Of q.1 r' ∧ Wl r' ∧ Hl r' ∧ Step anyS B col col' w w'
theorem enterPut {w Z : World} {B d : Nat} {col col' : Nat → Option Col} {s' : St} {r' : Raw} (h1 : DK Z d r' col') (h2 : Of s' r') (h3 : Wl r') (h4 : Hl r') (h5 : Step anyS B col col' w Z) {Q : Nat} (hQ : B ≤ Q) (hn : col' Q = none) (er n : Int) (a b c e f g i : Value) :
    EnterPost w B d col (s', ⟨er, 0, n, [], [], [], []⟩) (repV er 0 n (.slice none 0 0) (.slice none 0 0) (.slice none 0 0) (.slice none 0 0)) (set7 Z Q a b c e f g i) := by
  have k := set7_off Z Q a b c e f g i
  have st : Step anyS B col' col' Z (set7 Z Q a b c e f g i) := ⟨⟨_, k, fun x hx => .inr (by have : x = Q := List.mem_singleton.1 hx; subst this; exact ⟨hn, hQ⟩)⟩, fun _ _ h => h, fun _ _ h => .inl h⟩
  exact ⟨er, n, r', col', rfl, rfl, h1.off k (fun x hx => by have : x = Q := List.mem_singleton.1 hx; subst this; exact hn), h2, h3, h4, h5.trans st⟩

/-- An entry is given its number. -/
def EG.num (g : EG) (n : Int) : EG := { g with e := { g.e with id := n } }
theorem ENK.num {w : World} {g : EG} (h : ENK w g) (hne : g.eb ≠ g.B) (n : Int) : ENK (w.setCell ⟨g.eb, 0, none⟩ (.int .i64 n)) (g.num n) := by
  have k := Off.set0 g.eb w 0 (.int .i64 n)
  have hlt := h.lt
  refine ⟨⟨World.cell?_setCell_same _ _ _ h.en.c0, (World.cell?_setCell_other _ _ _ _ (by simp)).trans h.en.c1, (World.cell?_setCell_other _ _ _ _ (by simp)).trans h.en.c2, (World.cell?_setCell_other _ _ _ _ (by simp)).trans h.en.c3, h.en.sl.off k (by simpa using Ne.symm hne), Nat.lt_of_lt_of_le h.en.lt k.size⟩, (World.cell?_setCell_other _ _ _ _ (by simp)).trans h.k, (World.cell?_setCell_other _ _ _ _ (by simp)).trans h.u, fun o => (World.frozen?_setCell ..).trans (h.fz o), ?_⟩
  obtain ⟨cs, e⟩ := h.bl
  exact ⟨_, heap_setCell_same _ _ _ _ _ _ e⟩
theorem Wl.waitN {s : St} {r : Raw} (h : Wl r) (ho : Of s r) : Desk.waitN s.es = (r.wl.length : Int) := by
  unfold Desk.waitN
  rw [h, List.length_map, ← ho.es, List.filter_map, List.length_map]
  rfl
set_option maxRecDepth 100000 in
set_option maxHeartbeats 4000000 in
theorem enter_full {w : World} {d : Nat} {s : St} {r : Raw} {col : Nat → Option Col} (h : DSt w d s r col) {g : EG} {B : Nat} (hg : ENK w g) (hB : B ≤ w.heap.size) (hf : s.given = 60 ∨ g.e.kind = 3 ∧ Desk.waitN s.es = 6) :
    Calls Tryz.prog 141 #[.pointer (some ⟨d, 0, none⟩), .pointer (some ⟨g.eb, 0, none⟩)] w fun e w' => ∃ v, e = .returned v ∧ EnterPost w B d col (enterD s g.e) v w' := by
  have hX : Below w.heap.size w (w.alloc zeroR) := (Below.refl _ _).alloc (Nat.le_refl _) _
  have QX : Hid (Q7 (w.alloc zeroR) w.heap.size) := Q7.of (heapNew w zeroR)
  have cg := (h.dk.later hX).c1
  rw [h.of.given] at cg
  have ck := (hg.off (G := []) (Off.of_below hX) (by simp) (by simp)).k
  have HD : Hid (enterD s g.e = (s, Desk.Rep.error 5)) := if_pos hf
  obtain ⟨v4, c4, own4, hc4⟩ := (h.dk.later hX).wa
  obtain ⟨a, cap, rfl⟩ := own_slice own4
  have hwn := h.wl.waitN h.of
  have HH := hidp h
  have BX := hidp hX
  clear own4 hc4 h hX hg
  go_enter Tryz.func141, Tryz.ntmps141
  go_upto_region 1 with fail
  change Code.wp _ _ _ _ (w.alloc zeroR)
  generalize w.alloc zeroR = X at *
  rcases hf with hf | ⟨hf, hw⟩
  · rw [hf] at cg
    go_wp2_with fail
    refine (refused_any 5 X).mono ?_
    rintro e w1 ⟨rfl, hb⟩
    have hq := hb.block w.heap.size (World.block_lt_of_cell? _ _ QX.out.q0)
    have HF : Hid (EnterPost w B d col (enterD s g.e) (repV 5 0 0 (.slice none 0 0) (.slice none 0 0) (.slice none 0 0) (.slice none 0 0)) (set7 w1 w.heap.size (.int .i64 5) (.int .i64 0) (.int .i64 0) (.slice none 0 0) (.slice none 0 0) (.slice none 0 0) (.slice none 0 0))) := by
      rw [HD.out]; exact enterPut (HH.out.dk.later (BX.out.trans (hb.mono BX.out.size))) HH.out.of HH.out.wl HH.out.hl (Step.below (BX.out.trans (hb.mono BX.out.size))) hB (HH.out.dk.none (Nat.le_refl _)) 5 0 _ _ _ _ _ _ _
    obtain ⟨q0, q1, q2, q3, q4, q5, q6, fq⟩ := QX.out.later hq
    simp only [repV]
    go_wp2_with fail
    exact bodyPost_ret (v := repV 5 0 0 (.slice none 0 0) (.slice none 0 0) (.slice none 0 0) (.slice none 0 0)) (by simp [results, Tryz.results141, go_sem, repV, q0, q1, q2, q3, q4, q5, q6]) rfl ⟨_, rfl, HF.out⟩
  · by_cases hg0 : s.given < 60
    · rw [hf] at ck
      rw [show r.wl.length = 6 by omega] at c4
      go_wp2_with fail
      refine (refused_any 5 X).mono ?_
      rintro e w1 ⟨rfl, hb⟩
      have hq := hb.block w.heap.size (World.block_lt_of_cell? _ _ QX.out.q0)
      have HF : Hid (EnterPost w B d col (enterD s g.e) (repV 5 0 0 (.slice none 0 0) (.slice none 0 0) (.slice none 0 0) (.slice none 0 0)) (set7 w1 w.heap.size (.int .i64 5) (.int .i64 0) (.int .i64 0) (.slice none 0 0) (.slice none 0 0) (.slice none 0 0) (.slice none 0 0))) := by
        rw [HD.out]; exact enterPut (HH.out.dk.later (BX.out.trans (hb.mono BX.out.size))) HH.out.of HH.out.wl HH.out.hl (Step.below (BX.out.trans (hb.mono BX.out.size))) hB (HH.out.dk.none (Nat.le_refl _)) 5 0 _ _ _ _ _ _ _
      obtain ⟨q0, q1, q2, q3, q4, q5, q6, fq⟩ := QX.out.later hq
      simp only [repV]
      go_wp2_with fail
      exact bodyPost_ret (v := repV 5 0 0 (.slice none 0 0) (.slice none 0 0) (.slice none 0 0) (.slice none 0 0)) (by simp [results, Tryz.results141, go_sem, repV, q0, q1, q2, q3, q4, q5, q6]) rfl ⟨_, rfl, HF.out⟩
    · go_wp2_with fail
      refine (refused_any 5 X).mono ?_
      rintro e w1 ⟨rfl, hb⟩
      have hq := hb.block w.heap.size (World.block_lt_of_cell? _ _ QX.out.q0)
      have HF : Hid (EnterPost w B d col (enterD s g.e) (repV 5 0 0 (.slice none 0 0) (.slice none 0 0) (.slice none 0 0) (.slice none 0 0)) (set7 w1 w.heap.size (.int .i64 5) (.int .i64 0) (.int .i64 0) (.slice none 0 0) (.slice none 0 0) (.slice none 0 0) (.slice none 0 0))) := by
        rw [HD.out]; exact enterPut (HH.out.dk.later (BX.out.trans (hb.mono BX.out.size))) HH.out.of HH.out.wl HH.out.hl (Step.below (BX.out.trans (hb.mono BX.out.size))) hB (HH.out.dk.none (Nat.le_refl _)) 5 0 _ _ _ _ _ _ _
      obtain ⟨q0, q1, q2, q3, q4, q5, q6, fq⟩ := QX.out.later hq
      simp only [repV]
      go_wp2_with fail
      exact bodyPost_ret (v := repV 5 0 0 (.slice none 0 0) (.slice none 0 0) (.slice none 0 0) (.slice none 0 0)) (by simp [results, Tryz.results141, go_sem, repV, q0, q1, q2, q3, q4, q5, q6]) rfl ⟨_, rfl, HF.out⟩

end Go.Proofs.YtjfkfiffakbagaaGreatDoor


/-
  The desk in memory when an entry comes into its map.
-/
namespace Go.Proofs.YtjfkfiffakbagaaGreatDoor
open Go.RowKit

/-- An entry comes into the map. -/
theorem DK.insEn {w w' : World} {d : Nat} {r : Raw} {col : Nat → Option Col} (h : DK w d r col) {m : Nat} {f : Lit → Option Nat} (hc : w.cell? ⟨d, 3, none⟩ = some (.map (some m))) (hm : col m = some .me) (hf : ∀ id, f (litI id) = enAt r.eg id) {g : EG} (hg : ENK w g) {B : Nat} (h1 : col g.eb = none) (h2 : col g.B = none) (h3 : B ≤ g.eb) (h4 : B ≤ g.B) (h5 : g.eb ≠ g.B) (hno : ∀ x ∈ r.eg, x.e.id ≠ g.e.id) {n' : Nat} (p : PMap Tryz.prog 3 w' m n' (Go.Proofs.YtjfkfiffakbagaaGreatDoor.upd f (litI g.e.id) (some g.eb)) (if (f (litI g.e.id)).isSome then r.eg.length else r.eg.length + 1)) (hgr : w.grownBy w' (some m)) :
    ∃ col', DK w' d { r with eg := r.eg ++ [g] } col' ∧ Step (· = .me) B col col' w w' ∧ ∀ k, col k = none → k ≠ g.eb → k ≠ g.B → col' k = none := by
  have k : Off [m] w w' := ⟨hgr.os, hgr.tape, hgr.output, hgr.size, fun i hi hn => hgr.block i hi (by simpa using hn)⟩
  have st1 : Step (· = .me) B col (paint col [g.eb] .ent) w w' := paint_step k (fun x hx => .inl ⟨_, by simp at hx; subst hx; exact hm, rfl⟩) (fun x hx _ => by simp at hx; omega)
  have hB1 : paint col [g.eb] .ent g.B = none := by
    unfold paint; rw [h2]; simp only; rw [if_neg (by simpa using Ne.symm h5)]
  have st2 : Step (· = .me) B (paint col [g.eb] .ent) (paint (paint col [g.eb] .ent) [g.B] .span) w' w' := paint_step (G := []) (Off.refl _ _) (by simp) (fun x hx _ => by simp at hx; omega)
  have st := st1.trans st2
  obtain ⟨b1, b2, b3, b4, b5⟩ := h.base st (by simp)
  have hge : paint (paint col [g.eb] .ent) [g.B] .span g.eb = some .ent := paint_old (paint_in (by simp) (fun c' hc => by rw [h1] at hc; cases hc))
  have hgB : paint (paint col [g.eb] .ent) [g.B] .span g.B = some .span := paint_in (by simp) (fun c' hc => by rw [hB1] at hc; cases hc)
  have hmne : g.eb ≠ m ∧ g.B ≠ m := ⟨fun e => (by rw [e, hm] at h1; cases h1), fun e => (by rw [e, hm] at h2; cases h2)⟩
  refine ⟨_, ⟨b1, b2, h.mtC st (b5 2) (by simp), ⟨m, upd f (litI g.e.id) (some g.eb), (b5 3).trans hc, st.keep _ _ hm, ?_, fun x => ?_⟩, h.waC st (b5 4) (by simp), h.heC st (b5 5) (b3 5) (by simp), fun i hi => h.thS st i hi (by simp), fun x hx => ?_, ?_, ?_, b3, b4, fun x c hx => ?_⟩, st, fun x hx n1 n2 => ?_⟩
  · rw [hf, enAt_none hno] at p
    show PMap _ _ _ _ (r.eg ++ [g]).length _ (r.eg ++ [g]).length
    rw [List.length_append]; exact p.tight
  · show upd f (litI g.e.id) (some g.eb) (litI x) = enAt (r.eg ++ [g]) x
    rw [snocG_at hno]
    by_cases e : x = g.e.id
    · rw [e, upd_same, if_pos rfl]
    · rw [upd_other f _ (fun e2 => e (litI_inj e2)), if_neg e, hf]
  · rcases List.mem_append.1 hx with hx | hx
    · exact h.enS st (by simp) (by simp) x hx
    · have : x = g := by simpa using hx
      subst this
      exact ⟨hg.off k (by simpa using hmne.1) (by simpa using hmne.2), hge, hgB⟩
  · show ((r.eg ++ [g]).map (·.eb)).Nodup
    rw [List.map_append, List.nodup_append]
    refine ⟨h.nd, by simp, fun a ha b hb e => ?_⟩
    obtain ⟨x, hx, rfl⟩ := List.mem_map.1 ha
    have := (h.en x hx).2.1
    simp at hb
    rw [e, hb, h1] at this; cases this
  · show ((r.eg ++ [g]).map (·.e.id)).Nodup
    rw [List.map_append, List.nodup_append]
    refine ⟨h.ni, by simp, fun a ha b hb e => ?_⟩
    obtain ⟨x, hx, rfl⟩ := List.mem_map.1 ha
    simp at hb
    exact hno x hx (by rw [e, hb])
  · rcases paint_some hx with e | ⟨_, e, _⟩
    · rcases paint_some e with e | ⟨_, e, _⟩
      · exact Nat.lt_of_lt_of_le (h.lt x c e) st.size
      · simp at e; subst e; exact Nat.lt_of_lt_of_le hg.lt st.size
    · simp at e; subst e; exact Nat.lt_of_lt_of_le hg.en.lt st.size
  · cases e : paint (paint col [g.eb] .ent) [g.B] .span x with
    | none => rfl
    | some c =>
      rcases paint_some e with e | ⟨_, e, _⟩
      · rcases paint_some e with e | ⟨_, e, _⟩
        · rw [hx] at e; cases e
        · exact absurd (List.mem_singleton.1 e) n1
      · exact absurd (List.mem_singleton.1 e) n2

/-- A thing comes. -/
theorem DK.insTn {w w' : World} {d : Nat} {r : Raw} {col : Nat → Option Col} (h : DK w d r col) {m : Nat} {f : Lit → Option Nat} (hc : w.cell? ⟨d, 2, none⟩ = some (.map (some m))) (hm : col m = some .mt) (hf : ∀ n, f (litS n) = thAt r.tg n) {t : TG} (ht : TH w t.tb t.name t.units t.A t.T none none [] []) {B : Nat} (h1 : col t.tb = none) (h3 : B ≤ t.tb) (hno : ∀ x ∈ r.tg, x.name ≠ t.name) {n' : Nat} (p : PMap Tryz.prog 9 w' m n' (Go.Proofs.YtjfkfiffakbagaaGreatDoor.upd f (litS t.name) (some t.tb)) (if (f (litS t.name)).isSome then r.tg.length else r.tg.length + 1)) (hgr : w.grownBy w' (some m)) :
    ∃ col', DK w' d { r with tg := r.tg ++ [t] } col' ∧ Step (· = .mt) B col col' w w' ∧ ∀ k, col k = none → k ≠ t.tb → col' k = none := by
  have k : Off [m] w w' := ⟨hgr.os, hgr.tape, hgr.output, hgr.size, fun i hi hn => hgr.block i hi (by simpa using hn)⟩
  have st : Step (· = .mt) B col (paint col [t.tb] (.thing r.tg.length)) w w' := paint_step k (fun x hx => .inl ⟨_, by simp at hx; subst hx; exact hm, rfl⟩) (fun x hx _ => by simp at hx; omega)
  obtain ⟨b1, b2, b3, b4, b5⟩ := h.base st (by simp)
  have hmne : t.tb ≠ m := fun e => by rw [e, hm] at h1; cases h1
  have hte : paint col [t.tb] (.thing r.tg.length) t.tb = some (.thing r.tg.length) := paint_in (by simp) (fun c' hc => by rw [h1] at hc; cases hc)
  have hnone : thAt r.tg t.name = none := by
    rw [thAt_find]
    have : r.tg.find? (fun y => Desk.sameB y.name t.name) = none := List.find?_eq_none.2 (fun y hy => by rw [Bool.not_eq_true, sameB_ne]; exact hno y hy)
    rw [this]; rfl
  refine ⟨_, ⟨b1, b2, ⟨m, upd f (litS t.name) (some t.tb), (b5 2).trans hc, st.keep _ _ hm, ?_, fun x => ?_⟩, h.meC st (b5 3) (by simp), h.waC st (b5 4) (by simp), h.heC st (b5 5) (b3 5) (by simp), fun i hi => ?_, h.enS st (by simp) (by simp), h.nd, h.ni, b3, b4, fun x c hx => ?_⟩, st, fun x hx n1 => ?_⟩
  · rw [hf, hnone] at p
    show PMap _ _ _ _ (r.tg ++ [t]).length _ (r.tg ++ [t]).length
    rw [List.length_append]; exact p.tight
  · show upd f (litS t.name) (some t.tb) (litS x) = thAt (r.tg ++ [t]) x
    rw [thAt_snoc hno]
    by_cases e : x = t.name
    · rw [e, upd_same, if_pos rfl]
    · rw [upd_other f _ (fun e2 => e (litS_inj e2)), if_neg e, hf]
  · have hi' : i < r.tg.length + 1 := by simpa using hi
    by_cases e : i < r.tg.length
    · have e2 : (r.tg ++ [t])[i]'(by simpa using hi') = r.tg[i] := List.getElem_append_left e
      show ∃ ul us Fl Fs, TH w' (r.tg ++ [t])[i].tb _ _ _ _ ul us Fl Fs ∧ _
      rw [e2]
      exact h.thS st i e (by simp)
    · have e3 : i = r.tg.length := by omega
      subst e3
      have e2 : (r.tg ++ [t])[r.tg.length]'(by simp) = t := by simp
      show ∃ ul us Fl Fs, TH w' (r.tg ++ [t])[r.tg.length].tb _ _ _ _ ul us Fl Fs ∧ _
      rw [e2]
      refine ⟨none, none, [], [], ht.off k (fun x hx => by simp at hx; subst hx; simpa using hmne), fun x hx => by simp at hx; subst hx; exact hte⟩
  · rcases paint_some hx with e | ⟨_, e, _⟩
    · exact Nat.lt_of_lt_of_le (h.lt x c e) st.size
    · simp at e; subst e; exact Nat.lt_of_lt_of_le (ht.lt _ (by simp)) st.size
  · cases e : paint col [t.tb] (.thing r.tg.length) x with
    | none => rfl
    | some c =>
      rcases paint_some e with e | ⟨_, e, _⟩
      · rw [hx] at e; cases e
      · exact absurd (List.mem_singleton.1 e) n1

end Go.Proofs.YtjfkfiffakbagaaGreatDoor


/-
  Package desk: enter, when there is a number left.
-/
namespace Go.Proofs.YtjfkfiffakbagaaGreatDoor
open Go.RowKit
open Desk (Ent St Ids kept booked bookE sumA Items ofB sameB Risen Mid EntOk endsB Inv)

/-- The desk when what an entry asks for has been taken, or it has been put behind those who wait. -/
structure TLs (w T : World) (B d Q : Nat) (s : St) (r : Raw) (col : Nat → Option Col) (g : EG) (r1 : Raw) (c1 : Nat → Option Col) : Prop where
  dk : DK T d r1 c1
  en : ENK T (g.num (s.given + 1))
  ce : c1 g.eb = none
  cb : c1 g.B = none
  st : Step anyS B col c1 w T
  q7 : Q7 T Q
  qc : c1 Q = none
  of : Of (Desk.joinD s g.e).1 { r1 with given := s.given + 1, eg := r1.eg ++ [g.num (s.given + 1)] }
  wl : Wl { r1 with given := s.given + 1, eg := r1.eg ++ [g.num (s.given + 1)] }
  eg : r1.eg = r.eg
  hl : r1.hl = r.hl
def TL (w T : World) (B d Q : Nat) (s : St) (r : Raw) (col : Nat → Option Col) (g : EG) : Prop := ∃ r1 c1, TLs w T B d Q s r col g r1 c1

/-- What enter is asked about. -/
structure Asks (w : World) (B d : Nat) (s : St) (r : Raw) (col : Nat → Option Col) (g : EG) (i : Nat) : Prop where
  ds : DSt w d s r col
  en : ENK w g
  ce : col g.eb = none
  cb : col g.B = none
  be : B ≤ g.eb
  bb : B ≤ g.B
  ne : g.eb ≠ g.B
  hB : B ≤ w.heap.size
  hi : i < r.tg.length
  name : r.tg[i].name = g.e.thing
  tb : g.tb = r.tg[i].tb
  ok : EntOk s.now g.e
theorem Asks.num {w : World} {B d : Nat} {s : St} {r : Raw} {col : Nat → Option Col} {g : EG} {i : Nat} (h : Asks w B d s r col g i) (n : Int) : EntOk s.now (g.num n).e := ⟨h.ok.u1, h.ok.u9, h.ok.sl, h.ok.s0, h.ok.sp, h.ok.ri, h.ok.kd⟩
theorem Asks.fresh {w : World} {B d : Nat} {s : St} {r : Raw} {col : Nat → Option Col} {g : EG} {i : Nat} (h : Asks w B d s r col g i) : ∀ x ∈ r.eg, x.e.id ≠ (g.num (s.given + 1)).e.id := fun x hx e => by
  have := (h.ds.inv.idb _ (h.ds.of.mem hx)).2
  simp only [EG.num] at e
  omega
/-- The world in which the entry has its number. -/
structure Numd (w Y : World) (B d Q : Nat) (s : St) (r : Raw) (col : Nat → Option Col) (g : EG) : Prop where
  dk : DK Y d r col
  en : ENK Y (g.num (s.given + 1))
  st : Step anyS B col col w Y
  q7 : Q7 Y Q
  ql : Q < Y.heap.size
  qc : col Q = none
theorem Asks.numd {w : World} {B d : Nat} {s : St} {r : Raw} {col : Nat → Option Col} {g : EG} {i : Nat} (h : Asks w B d s r col g i) : Numd w ((w.alloc zeroR).setCell ⟨g.eb, 0, none⟩ (.int .i64 (s.given + 1))) B d w.heap.size s r col g := by
  have hX : Below w.heap.size w (w.alloc zeroR) := (Below.refl _ _).alloc (Nat.le_refl _) _
  have hg := (h.en.off (G := []) (Off.of_below hX) (by simp) (by simp))
  have k := Off.set0 g.eb (w.alloc zeroR) 0 (.int .i64 (s.given + 1))
  have hlt := h.en.lt
  refine ⟨(h.ds.dk.later hX).off k (fun x hx => ?_), hg.num h.ne _, (Step.below hX).trans ⟨⟨_, k, fun x hx => .inr ?_⟩, fun _ _ h => h, fun _ _ h => .inl h⟩, (Q7.of (heapNew w zeroR)).later (k.block _ (by simp) (by simp; omega)), Nat.lt_of_lt_of_le (by simp) k.size, h.ds.dk.none (Nat.le_refl _)⟩
  · have : x = g.eb := List.mem_singleton.1 hx
    subst this; exact h.ce
  · have : x = g.eb := List.mem_singleton.1 hx
    subst this; exact ⟨h.ce, h.be⟩
/-- It has taken what it asked for. -/
theorem Asks.took {w Y w1 : World} {B d Q : Nat} {s : St} {r : Raw} {col c1 : Nat → Option Col} {g : EG} {i : Nat} (h : Asks w B d s r col g i) (y : Numd w Y B d Q s r col g) (hk : g.e.kind ≠ 3) (q1 : DK w1 d (r.setT i ((r.tg[i]'h.hi).with (addL (r.tg[i]'h.hi).A g.e.spans g.e.units) (putL (s.given + 1) g.eb (r.tg[i]'h.hi).T g.e.spans))) c1) (q2 : Step (· = .thing i) Y.heap.size col c1 Y w1) : TL w w1 B d Q s r col g := by
  have hlt := y.en.lt
  have hltB := y.en.en.lt
  have o := (h.ds.of.comes h.ds.inv.tn (g := g.num (s.given + 1)) h.fresh hk h.ok.ri h.hi h.name h.tb (s.given + 1)).1
  refine ⟨_, c1, q1, q2.enk y.en (.inr ⟨h.ce, hlt⟩) (.inr ⟨h.cb, hltB⟩), q2.keepN h.ce hlt, q2.keepN h.cb hltB, y.st.trans (q2.any (Nat.le_trans h.hB y.st.size)), y.q7.later (q2.blockN y.ql y.qc y.ql), q2.keepN y.qc y.ql, ?_, ?_, rfl, rfl⟩
  · exact ⟨o.now, o.given, o.ts, o.es, o.th, o.tb⟩
  · exact h.ds.wl.comes (g := g.num (s.given + 1)) hk
/-- It has been put behind those who wait. -/
theorem Asks.waits {w Y w1 : World} {B d Q : Nat} {s : St} {r : Raw} {col c1 : Nat → Option Col} {g : EG} {i : Nat} (h : Asks w B d s r col g i) (y : Numd w Y B d Q s r col g) (hk : g.e.kind = 3) (q1 : DK w1 d { r with wl := r.wl ++ [g.eb] } c1) (q2 : Step (fun c => c = .wa ∨ c = .desk) Y.heap.size col c1 Y w1) : TL w w1 B d Q s r col g := by
  have hlt := y.en.lt
  have hltB := y.en.en.lt
  have o := h.ds.of.comesW (g := g.num (s.given + 1)) h.fresh hk h.hi h.name h.tb (s.given + 1)
  refine ⟨_, c1, q1, q2.enk y.en (.inr ⟨h.ce, hlt⟩) (.inr ⟨h.cb, hltB⟩), q2.keepN h.ce hlt, q2.keepN h.cb hltB, y.st.trans (q2.any (Nat.le_trans h.hB y.st.size)), y.q7.later (q2.blockN y.ql y.qc y.ql), q2.keepN y.qc y.ql, ?_, ?_, rfl, rfl⟩
  · exact ⟨o.now, o.given, o.ts, o.es, o.th, o.tb⟩
  · exact h.ds.wl.comesW (g := g.num (s.given + 1)) hk

/-- The desk when the entry has come into the map. -/
structure TL2 (w T : World) (B d Q : Nat) (s : St) (r : Raw) (col : Nat → Option Col) (g : EG) (r2 : Raw) (c2 : Nat → Option Col) : Prop where
  dk : DK T d r2 c2
  mem : g.num (s.given + 1) ∈ r2.eg
  st : Step anyS B col c2 w T
  q7 : Q7 T Q
  ql : Q < T.heap.size
  qc : c2 Q = none
  of : Of (Desk.joinD s g.e).1 r2
  wl : Wl r2
  eg : r2.eg = r.eg ++ [g.num (s.given + 1)]
  hl : r2.hl = r.hl
theorem TLs.store {w T : World} {B d : Nat} {s : St} {r : Raw} {col : Nat → Option Col} {g : EG} {i : Nat} {r1 : Raw} {c1 : Nat → Option Col} (t : TLs w T B d w.heap.size s r col g r1 c1) (a : Asks w B d s r col g i) :
    ∃ m, (T.setCell ⟨d, 1, none⟩ (.int .i64 (s.given + 1))).cell? ⟨d, 3, none⟩ = some (.map (some m)) ∧ (T.setCell ⟨d, 1, none⟩ (.int .i64 (s.given + 1))).cell? ⟨g.eb, 0, none⟩ = some (.int .i64 (s.given + 1)) ∧
      ∃ w3, (Instr.mapUpdate 126 (.map (some m)) (.int .i64 (s.given + 1)) (.pointer (some ⟨g.eb, 0, none⟩))).run Tryz.prog (T.setCell ⟨d, 1, none⟩ (.int .i64 (s.given + 1))).drew = .ok () w3 ∧ ∃ r2 c2, TL2 w w3 B d w.heap.size s r col g r2 c2 := by
  obtain ⟨sg1, sg2⟩ := t.dk.setGiven (s.given + 1)
  have hdB := t.dk.dc
  have hne : g.eb ≠ d := fun e => by have := t.ce; rw [e, hdB] at this; cases this
  have hnB : g.B ≠ d := fun e => by have := t.cb; rw [e, hdB] at this; cases this
  have k0 := Off.set0 d T 1 (.int .i64 (s.given + 1))
  have en1 : ENK (T.setCell ⟨d, 1, none⟩ (.int .i64 (s.given + 1))) (g.num (s.given + 1)) := t.en.off k0 (by simpa [EG.num] using hne) (by simpa [EG.num] using hnB)
  have hq1 : Q7 (T.setCell ⟨d, 1, none⟩ (.int .i64 (s.given + 1))) w.heap.size := t.q7.later (sg2.blockN (World.block_lt_of_cell? _ _ t.q7.q0) t.qc (World.block_lt_of_cell? _ _ t.q7.q0))
  have hst1 : Step anyS B col c1 w (T.setCell ⟨d, 1, none⟩ (.int .i64 (s.given + 1))) := t.st.trans (sg2.any (Nat.le_trans a.hB t.st.size))
  generalize T.setCell ⟨d, 1, none⟩ (.int .i64 (s.given + 1)) = T1 at *
  obtain ⟨m, f, a1, a2, a3, a4⟩ := sg1.me
  have hg0 := a.ds.inv.g0
  have hg1 := a.ds.inv.g1
  have kk := key_int (n := s.given + 1) (by omega) (by omega)
  have hlen : r1.eg.length ≤ 60 := by
    have h2 : r.eg.length = s.es.length := by rw [← a.ds.of.es]; simp
    have h3 := mid_len a.ds.mid
    rw [t.eg]; omega
  obtain ⟨w3, hrun, p1, p2⟩ := (a3.block (w' := T1.drew) rfl).storeRun keyInt Tryz.underlying126 (by unfold maxLen; show r1.eg.length < _; omega) kk (by unfold litI; trivial) g.eb
  have d1 := sg1.later (blwDrew T1)
  have en2 : ENK T1.drew (g.num (s.given + 1)) := en1.off (G := []) (Off.of_below (blwDrew T1)) (by simp) (by simp)
  obtain ⟨c2, e1, e2, e3⟩ := d1.insEn (g := g.num (s.given + 1)) (B := B) a1 a2 a4 en2 t.ce t.cb a.be a.bb a.ne (fun x hx => a.fresh x (by rw [← t.eg]; exact hx)) p1 p2
  have hql : w.heap.size < T1.drew.heap.size := World.block_lt_of_cell? _ _ hq1.q0
  have hmq : w.heap.size ≠ m := fun e => by have := t.qc; rw [e, a2] at this; cases this
  have hb : w3.heap[w.heap.size]? = T1.heap[w.heap.size]? := p2.block _ hql (fun e => hmq (Option.some.inj e))
  have hq3 := hq1.later hb
  refine ⟨m, a1, en1.en.c0, w3, hrun, _, c2, e1, List.mem_append_right _ (List.mem_singleton.2 rfl), (hst1.trans (Step.below (blwDrew T1))).trans (e2.mono (fun _ _ => trivial) (Nat.le_refl _)), hq3, World.block_lt_of_cell? _ _ hq3.q0, ?_, t.of, t.wl, ?_, t.hl⟩
  · exact e3 _ t.qc (fun e => by have := a.en.lt; rw [show (g.num (s.given + 1)).eb = g.eb from rfl] at e; omega) (fun e => by have := a.en.en.lt; rw [show (g.num (s.given + 1)).B = g.B from rfl] at e; omega)
  · show r1.eg ++ [_] = _
    rw [t.eg]

end Go.Proofs.YtjfkfiffakbagaaGreatDoor

