/-
  Parts of the proof, one behind the other: LineWalk, Fits, Rules, Patterns, Scan, RefRead, ReadWalk.
-/
import Derived.Test.YtjfkfiffakbagaaGreatDoorL05
import Derived.Deep.RegionHeld3
import Derived.Deep.AppendLies
/-
  The reader's line.
-/
namespace Go.Proofs.YtjfkfiffakbagaaGreatDoor
open Go.RowKit

def thingW : ByteArray := ⟨#[116, 104, 105, 110, 103]⟩
def bookW : ByteArray := ⟨#[98, 111, 111, 107]⟩
def holdW : ByteArray := ⟨#[104, 111, 108, 100]⟩
def waitW : ByteArray := ⟨#[119, 97, 105, 116]⟩
def seriesW : ByteArray := ⟨#[115, 101, 114, 105, 101, 115]⟩
def confirmW : ByteArray := ⟨#[99, 111, 110, 102, 105, 114, 109]⟩
def cancelW : ByteArray := ⟨#[99, 97, 110, 99, 101, 108]⟩
def listW : ByteArray := ⟨#[108, 105, 115, 116]⟩
def waitingW : ByteArray := ⟨#[119, 97, 105, 116, 105, 110, 103]⟩
def peakW : ByteArray := ⟨#[112, 101, 97, 107]⟩
def findW : ByteArray := ⟨#[102, 105, 110, 100]⟩
def expandW : ByteArray := ⟨#[101, 120, 112, 97, 110, 100]⟩
def tickW : ByteArray := ⟨#[116, 105, 99, 107]⟩
def clockW : ByteArray := ⟨#[99, 108, 111, 99, 107]⟩
def idB (s : ByteArray) : Bool := Txt.isNum s.data.toList

/-- What line reads, and where it leaves the reader. -/
inductive LineR (ws : List ByteArray) : Value → Nat × Bool → Prop where
  | thing (h : isB ws 0 false thingW = true) : LineR ws (.iface 143 (.agg #[.string (claimS ws (1, false)), .int .i64 (valAt ws (stps ws [nmB] (1, false)) unB nvF)])) (stps ws [nmB, unB] (1, false))
  | book (h : isB ws 0 false bookW = true) : LineR ws (.iface 148 (.agg #[.string (claimS ws (1, false)), .int .i64 (valAt ws (stps ws [nmB] (1, false)) unB nvF), .int .i64 (valAt ws (stps ws [nmB, unB] (1, false)) timeB timW), .int .i64 (valAt ws (stps ws [nmB, unB, timeB] (1, false)) timeB timW)])) (stps ws [nmB, unB, timeB, timeB] (1, false))
  | hold (h : isB ws 0 false holdW = true) : LineR ws (.iface 150 (.agg #[.string (claimS ws (1, false)), .int .i64 (valAt ws (stps ws [nmB] (1, false)) unB nvF), .int .i64 (valAt ws (stps ws [nmB, unB] (1, false)) timeB timW), .int .i64 (valAt ws (stps ws [nmB, unB, timeB] (1, false)) timeB timW), .int .i64 (valAt ws (stps ws [nmB, unB, timeB, timeB] (1, false)) miB nvF)])) (stps ws [nmB, unB, timeB, timeB, miB] (1, false))
  | wait (h : isB ws 0 false waitW = true) : LineR ws (.iface 151 (.agg #[.string (claimS ws (1, false)), .int .i64 (valAt ws (stps ws [nmB] (1, false)) unB nvF), .int .i64 (valAt ws (stps ws [nmB, unB] (1, false)) timeB timW), .int .i64 (valAt ws (stps ws [nmB, unB, timeB] (1, false)) timeB timW), .int .i64 (valAt ws (stps ws [nmB, unB, timeB, timeB] (1, false)) miB nvF)])) (stps ws [nmB, unB, timeB, timeB, miB] (1, false))
  | series (h : isB ws 0 false seriesW = true) (pc ev : Int) (acc : List Int) (fr mn mi ti un : Int) (s : Nat × Bool) (hr : RuleR ws (stps ws [nmB, unB] (1, false)) pc ev acc fr mn mi ti un s) : LineR ws (.iface 159 (.agg #[.string (claimS ws (1, false)), .int .i64 (valAt ws (stps ws [nmB] (1, false)) unB nvF), .int .i64 pc, .int .i64 ev, .bool (isd acc 0), .bool (isd acc 1), .bool (isd acc 2), .bool (isd acc 3), .bool (isd acc 4), .bool (isd acc 5), .bool (isd acc 6), .int .i64 fr, .int .i64 mn, .int .i64 mi, .int .i64 ti, .int .i64 un])) s
  | confirm (h : isB ws 0 false confirmW = true) : LineR ws (.iface 161 (.agg #[.int .i64 (valAt ws (1, false) idB nvF)])) (stps ws [idB] (1, false))
  | cancel (h : isB ws 0 false cancelW = true) : LineR ws (.iface 162 (.agg #[.int .i64 (valAt ws (1, false) idB nvF)])) (stps ws [idB] (1, false))
  | list0 (h : isB ws 0 false listW = true) (hm : moreB ws.length (stps ws [nmB] (1, false)).1 (stps ws [nmB] (1, false)).2 = false) : LineR ws (.iface 164 (.agg #[.string (claimS ws (1, false)), .bool false, .int .i64 0, .int .i64 0])) (stps ws [nmB] (1, false))
  | list1 (h : isB ws 0 false listW = true) (hm : moreB ws.length (stps ws [nmB] (1, false)).1 (stps ws [nmB] (1, false)).2 = true) : LineR ws (.iface 164 (.agg #[.string (claimS ws (1, false)), .bool true, .int .i64 (valAt ws (stps ws [nmB] (1, false)) timeB timW), .int .i64 (valAt ws (stps ws [nmB, timeB] (1, false)) timeB timW)])) (stps ws [nmB, timeB, timeB] (1, false))
  | waiting (h : isB ws 0 false waitingW = true) : LineR ws (.iface 167 (.agg #[])) (1, false)
  | peak (h : isB ws 0 false peakW = true) : LineR ws (.iface 170 (.agg #[.string (claimS ws (1, false)), .int .i64 (valAt ws (stps ws [nmB] (1, false)) timeB timW), .int .i64 (valAt ws (stps ws [nmB, timeB] (1, false)) timeB timW)])) (stps ws [nmB, timeB, timeB] (1, false))
  | find (h : isB ws 0 false findW = true) : LineR ws (.iface 172 (.agg #[.string (claimS ws (1, false)), .int .i64 (valAt ws (stps ws [nmB] (1, false)) unB nvF), .int .i64 (valAt ws (stps ws [nmB, unB] (1, false)) miB nvF), .int .i64 (valAt ws (stps ws [nmB, unB, miB] (1, false)) timeB timW), .int .i64 (valAt ws (stps ws [nmB, unB, miB, timeB] (1, false)) timeB timW)])) (stps ws [nmB, unB, miB, timeB, timeB] (1, false))
  | expand (h : isB ws 0 false expandW = true) (pc ev : Int) (acc : List Int) (fr mn mi ti un : Int) (s : Nat × Bool) (hr : RuleR ws (1, false) pc ev acc fr mn mi ti un s) : LineR ws (.iface 174 (.agg #[.int .i64 pc, .int .i64 ev, .bool (isd acc 0), .bool (isd acc 1), .bool (isd acc 2), .bool (isd acc 3), .bool (isd acc 4), .bool (isd acc 5), .bool (isd acc 6), .int .i64 fr, .int .i64 mn, .int .i64 mi, .int .i64 ti, .int .i64 un])) s
  | tick (h : isB ws 0 false tickW = true) : LineR ws (.iface 176 (.agg #[.int .i64 (valAt ws (1, false) miB nvF)])) (stps ws [miB] (1, false))
  | clock (h : isB ws 0 false clockW = true) : LineR ws (.iface 177 (.agg #[])) (1, false)
  | none (h0 : isB ws 0 false thingW = false) (h1 : isB ws 0 false bookW = false) (h2 : isB ws 0 false holdW = false) (h3 : isB ws 0 false waitW = false) (h4 : isB ws 0 false seriesW = false) (h5 : isB ws 0 false confirmW = false) (h6 : isB ws 0 false cancelW = false) (h7 : isB ws 0 false listW = false) (h8 : isB ws 0 false waitingW = false) (h9 : isB ws 0 false peakW = false) (h10 : isB ws 0 false findW = false) (h11 : isB ws 0 false expandW = false) (h12 : isB ws 0 false tickW = false) (h13 : isB ws 0 false clockW = false) : LineR ws .nilIface (0, true)

set_option maxRecDepth 100000 in
set_option maxHeartbeats 4000000 in
theorem rline_any (R A : Nat) (ws : List ByteArray) (w : World) (h : RS w R A ws 0 false) (he : Env w) (hR : 10 ≤ R) :
    Calls Tryz.prog 60 #[.pointer (some ⟨R, 0, none⟩)] w fun e w' =>
      ∃ (v : Value) (s : Nat × Bool), e = .returned v ∧ LineR ws v s ∧ RS w' R A ws s.1 s.2 ∧ Kept R w w' := by
  have HE := hide he
  clear he
  have k0 := Kept.refl R w
  have h0 := h
  clear h
  go_enter Tryz.func60, Tryz.ntmps60
  go_wp2_with fail
  refine (is_any R A ws 0 false thingW w h0).mono ?_
  rintro e w1 ⟨rfl, h1, kq⟩
  have k1 := k0.trans kq
  clear kq k0 h0
  rcases Bool.eq_false_or_eq_true (isB ws 0 false thingW) with hb0 | hb0
  · rw [hb0, if_pos rfl] at h1
    have E1 := hide ((unhide HE).kept k1 hR)
    go_wp2_with fail
    refine (rname_any R A ws _ _ w1 h1).mono ?_
    rintro e w1a ⟨rfl, h1a, kq⟩
    have k1a := k1.trans kq
    have E1a := hide ((unhide E1).kept kq hR)
    clear kq k1 h1 E1
    go_wp2_with fail
    refine (runits_any R A ws _ _ w1a h1a).mono ?_
    rintro e w1b ⟨rfl, h1b, kq⟩
    have k1b := k1a.trans kq
    have E1b := hide ((unhide E1a).kept kq hR)
    clear kq k1a h1a E1a
    have HK := hide k1b
    have HH := hide h1b
    go_wp2
    go_ret
    exact ⟨_, (stps ws [nmB, unB] (1, false)), rfl, .thing hb0, HH.out, HK.out⟩
  rw [hb0] at h1 ⊢
  go_wp2_with fail
  refine (is_any R A ws 0 false bookW w1 h1).mono ?_
  rintro e w2 ⟨rfl, h2, kq⟩
  have k2 := k1.trans kq
  clear kq k1 h1
  rcases Bool.eq_false_or_eq_true (isB ws 0 false bookW) with hb1 | hb1
  · rw [hb1, if_pos rfl] at h2
    have E2 := hide ((unhide HE).kept k2 hR)
    go_wp2_with fail
    refine (rclaim_any R A ws (1, false) w2 h2 (unhide E2) hR).mono ?_
    rintro e w2a ⟨rfl, h2a, kq⟩
    have k2a := k2.trans kq
    have E2a := hide ((unhide E2).kept kq hR)
    clear kq k2 h2 E2
    have HK := hide k2a
    have HH := hide h2a
    go_wp2
    go_ret
    exact ⟨_, (stps ws [nmB, unB, timeB, timeB] (1, false)), rfl, .book hb1, HH.out, HK.out⟩
  rw [hb1] at h2 ⊢
  go_wp2_with fail
  refine (is_any R A ws 0 false holdW w2 h2).mono ?_
  rintro e w3 ⟨rfl, h3, kq⟩
  have k3 := k2.trans kq
  clear kq k2 h2
  rcases Bool.eq_false_or_eq_true (isB ws 0 false holdW) with hb2 | hb2
  · rw [hb2, if_pos rfl] at h3
    have E3 := hide ((unhide HE).kept k3 hR)
    go_wp2_with fail
    refine (rclaim_any R A ws (1, false) w3 h3 (unhide E3) hR).mono ?_
    rintro e w3a ⟨rfl, h3a, kq⟩
    have k3a := k3.trans kq
    have E3a := hide ((unhide E3).kept kq hR)
    clear kq k3 h3 E3
    go_wp2_with fail
    refine (rminutes_any R A ws _ _ w3a h3a).mono ?_
    rintro e w3b ⟨rfl, h3b, kq⟩
    have k3b := k3a.trans kq
    have E3b := hide ((unhide E3a).kept kq hR)
    clear kq k3a h3a E3a
    have HK := hide k3b
    have HH := hide h3b
    go_wp2
    go_ret
    exact ⟨_, (stps ws [nmB, unB, timeB, timeB, miB] (1, false)), rfl, .hold hb2, HH.out, HK.out⟩
  rw [hb2] at h3 ⊢
  go_wp2_with fail
  refine (is_any R A ws 0 false waitW w3 h3).mono ?_
  rintro e w4 ⟨rfl, h4, kq⟩
  have k4 := k3.trans kq
  clear kq k3 h3
  rcases Bool.eq_false_or_eq_true (isB ws 0 false waitW) with hb3 | hb3
  · rw [hb3, if_pos rfl] at h4
    have E4 := hide ((unhide HE).kept k4 hR)
    go_wp2_with fail
    refine (rclaim_any R A ws (1, false) w4 h4 (unhide E4) hR).mono ?_
    rintro e w4a ⟨rfl, h4a, kq⟩
    have k4a := k4.trans kq
    have E4a := hide ((unhide E4).kept kq hR)
    clear kq k4 h4 E4
    go_wp2_with fail
    refine (rminutes_any R A ws _ _ w4a h4a).mono ?_
    rintro e w4b ⟨rfl, h4b, kq⟩
    have k4b := k4a.trans kq
    have E4b := hide ((unhide E4a).kept kq hR)
    clear kq k4a h4a E4a
    have HK := hide k4b
    have HH := hide h4b
    go_wp2
    go_ret
    exact ⟨_, (stps ws [nmB, unB, timeB, timeB, miB] (1, false)), rfl, .wait hb3, HH.out, HK.out⟩
  rw [hb3] at h4 ⊢
  go_wp2_with fail
  refine (is_any R A ws 0 false seriesW w4 h4).mono ?_
  rintro e w5 ⟨rfl, h5, kq⟩
  have k5 := k4.trans kq
  clear kq k4 h4
  rcases Bool.eq_false_or_eq_true (isB ws 0 false seriesW) with hb4 | hb4
  · rw [hb4, if_pos rfl] at h5
    have E5 := hide ((unhide HE).kept k5 hR)
    go_wp2_with fail
    refine (rname_any R A ws _ _ w5 h5).mono ?_
    rintro e w5a ⟨rfl, h5a, kq⟩
    have k5a := k5.trans kq
    have E5a := hide ((unhide E5).kept kq hR)
    clear kq k5 h5 E5
    go_wp2_with fail
    refine (runits_any R A ws _ _ w5a h5a).mono ?_
    rintro e w5b ⟨rfl, h5b, kq⟩
    have k5b := k5a.trans kq
    have E5b := hide ((unhide E5a).kept kq hR)
    clear kq k5a h5a E5a
    go_wp2_with fail
    refine (rrule_any R A ws (stps ws [nmB, unB] (1, false)) w5b h5b (unhide E5b) hR).mono ?_
    rintro e w5c ⟨pc, ev, acc, fr, mn, mi, ti, un, s, rfl, hr, h5c, kq⟩
    have HR := hide hr
    clear hr
    simp only [ruleV]
    have k5c := k5b.trans kq
    have E5c := hide ((unhide E5b).kept kq hR)
    clear kq k5b h5b E5b
    have HK := hide k5c
    have HH := hide h5c
    go_wp2
    go_ret
    exact ⟨_, s, rfl, .series hb4 pc ev acc fr mn mi ti un s HR.out, HH.out, HK.out⟩
  rw [hb4] at h5 ⊢
  go_wp2_with fail
  refine (is_any R A ws 0 false confirmW w5 h5).mono ?_
  rintro e w6 ⟨rfl, h6, kq⟩
  have k6 := k5.trans kq
  clear kq k5 h5
  rcases Bool.eq_false_or_eq_true (isB ws 0 false confirmW) with hb5 | hb5
  · rw [hb5, if_pos rfl] at h6
    have E6 := hide ((unhide HE).kept k6 hR)
    go_wp2_with fail
    refine (rid_any R A ws _ _ w6 h6).mono ?_
    rintro e w6a ⟨rfl, h6a, kq⟩
    have k6a := k6.trans kq
    have E6a := hide ((unhide E6).kept kq hR)
    clear kq k6 h6 E6
    have HK := hide k6a
    have HH := hide h6a
    go_wp2
    go_ret
    exact ⟨_, (stps ws [idB] (1, false)), rfl, .confirm hb5, HH.out, HK.out⟩
  rw [hb5] at h6 ⊢
  go_wp2_with fail
  refine (is_any R A ws 0 false cancelW w6 h6).mono ?_
  rintro e w7 ⟨rfl, h7, kq⟩
  have k7 := k6.trans kq
  clear kq k6 h6
  rcases Bool.eq_false_or_eq_true (isB ws 0 false cancelW) with hb6 | hb6
  · rw [hb6, if_pos rfl] at h7
    have E7 := hide ((unhide HE).kept k7 hR)
    go_wp2_with fail
    refine (rid_any R A ws _ _ w7 h7).mono ?_
    rintro e w7a ⟨rfl, h7a, kq⟩
    have k7a := k7.trans kq
    have E7a := hide ((unhide E7).kept kq hR)
    clear kq k7 h7 E7
    have HK := hide k7a
    have HH := hide h7a
    go_wp2
    go_ret
    exact ⟨_, (stps ws [idB] (1, false)), rfl, .cancel hb6, HH.out, HK.out⟩
  rw [hb6] at h7 ⊢
  go_wp2_with fail
  refine (is_any R A ws 0 false listW w7 h7).mono ?_
  rintro e w8 ⟨rfl, h8, kq⟩
  have k8 := k7.trans kq
  clear kq k7 h7
  rcases Bool.eq_false_or_eq_true (isB ws 0 false listW) with hb7 | hb7
  · rw [hb7, if_pos rfl] at h8
    have E8 := hide ((unhide HE).kept k8 hR)
    cases hm : moreB ws.length (stps ws [nmB] (1, false)).1 (stps ws [nmB] (1, false)).2
    · go_wp2_with fail
      refine (rlist_end R A ws (1, false) w8 h8 hm).mono ?_
      rintro e wz ⟨rfl, hz, kz⟩
      have HK := hide (k8.trans kz)
      have HH := hide hz
      have HM := hide hm
      clear hz kz hm k8 h8
      go_wp2
      go_ret
      exact ⟨_, (stps ws [nmB] (1, false)), rfl, .list0 hb7 HM.out, HH.out, HK.out⟩
    · go_wp2_with fail
      refine (rlist_more R A ws (1, false) w8 h8 (unhide E8) hR hm).mono ?_
      rintro e wz ⟨rfl, hz, kz⟩
      have HK := hide (k8.trans kz)
      have HH := hide hz
      have HM := hide hm
      clear hz kz hm k8 h8
      go_wp2
      go_ret
      exact ⟨_, (stps ws [nmB, timeB, timeB] (1, false)), rfl, .list1 hb7 HM.out, HH.out, HK.out⟩
  rw [hb7] at h8 ⊢
  go_wp2_with fail
  refine (is_any R A ws 0 false waitingW w8 h8).mono ?_
  rintro e w9 ⟨rfl, h9, kq⟩
  have k9 := k8.trans kq
  clear kq k8 h8
  rcases Bool.eq_false_or_eq_true (isB ws 0 false waitingW) with hb8 | hb8
  · rw [hb8, if_pos rfl] at h9
    have E9 := hide ((unhide HE).kept k9 hR)
    have HK := hide k9
    have HH := hide h9
    go_wp2
    go_ret
    exact ⟨_, (1, false), rfl, .waiting hb8, HH.out, HK.out⟩
  rw [hb8] at h9 ⊢
  go_wp2_with fail
  refine (is_any R A ws 0 false peakW w9 h9).mono ?_
  rintro e w10 ⟨rfl, h10, kq⟩
  have k10 := k9.trans kq
  clear kq k9 h9
  rcases Bool.eq_false_or_eq_true (isB ws 0 false peakW) with hb9 | hb9
  · rw [hb9, if_pos rfl] at h10
    have E10 := hide ((unhide HE).kept k10 hR)
    go_wp2_with fail
    refine (rname_any R A ws _ _ w10 h10).mono ?_
    rintro e w10a ⟨rfl, h10a, kq⟩
    have k10a := k10.trans kq
    have E10a := hide ((unhide E10).kept kq hR)
    clear kq k10 h10 E10
    go_wp2_with fail
    refine (rspan_any R A ws _ _ w10a h10a (unhide E10a) hR).mono ?_
    rintro e w10b ⟨rfl, h10b, kq⟩
    have k10b := k10a.trans kq
    have E10b := hide ((unhide E10a).kept kq hR)
    clear kq k10a h10a E10a
    have HK := hide k10b
    have HH := hide h10b
    go_wp2
    go_ret
    exact ⟨_, (stps ws [nmB, timeB, timeB] (1, false)), rfl, .peak hb9, HH.out, HK.out⟩
  rw [hb9] at h10 ⊢
  go_wp2_with fail
  refine (is_any R A ws 0 false findW w10 h10).mono ?_
  rintro e w11 ⟨rfl, h11, kq⟩
  have k11 := k10.trans kq
  clear kq k10 h10
  rcases Bool.eq_false_or_eq_true (isB ws 0 false findW) with hb10 | hb10
  · rw [hb10, if_pos rfl] at h11
    have E11 := hide ((unhide HE).kept k11 hR)
    go_wp2_with fail
    refine (rname_any R A ws _ _ w11 h11).mono ?_
    rintro e w11a ⟨rfl, h11a, kq⟩
    have k11a := k11.trans kq
    have E11a := hide ((unhide E11).kept kq hR)
    clear kq k11 h11 E11
    go_wp2_with fail
    refine (runits_any R A ws _ _ w11a h11a).mono ?_
    rintro e w11b ⟨rfl, h11b, kq⟩
    have k11b := k11a.trans kq
    have E11b := hide ((unhide E11a).kept kq hR)
    clear kq k11a h11a E11a
    go_wp2_with fail
    refine (rminutes_any R A ws _ _ w11b h11b).mono ?_
    rintro e w11c ⟨rfl, h11c, kq⟩
    have k11c := k11b.trans kq
    have E11c := hide ((unhide E11b).kept kq hR)
    clear kq k11b h11b E11b
    go_wp2_with fail
    refine (rspan_any R A ws _ _ w11c h11c (unhide E11c) hR).mono ?_
    rintro e w11d ⟨rfl, h11d, kq⟩
    have k11d := k11c.trans kq
    have E11d := hide ((unhide E11c).kept kq hR)
    clear kq k11c h11c E11c
    have HK := hide k11d
    have HH := hide h11d
    go_wp2
    go_ret
    exact ⟨_, (stps ws [nmB, unB, miB, timeB, timeB] (1, false)), rfl, .find hb10, HH.out, HK.out⟩
  rw [hb10] at h11 ⊢
  go_wp2_with fail
  refine (is_any R A ws 0 false expandW w11 h11).mono ?_
  rintro e w12 ⟨rfl, h12, kq⟩
  have k12 := k11.trans kq
  clear kq k11 h11
  rcases Bool.eq_false_or_eq_true (isB ws 0 false expandW) with hb11 | hb11
  · rw [hb11, if_pos rfl] at h12
    have E12 := hide ((unhide HE).kept k12 hR)
    go_wp2_with fail
    refine (rrule_any R A ws (1, false) w12 h12 (unhide E12) hR).mono ?_
    rintro e w12a ⟨pc, ev, acc, fr, mn, mi, ti, un, s, rfl, hr, h12a, kq⟩
    have HR := hide hr
    clear hr
    simp only [ruleV]
    have k12a := k12.trans kq
    have E12a := hide ((unhide E12).kept kq hR)
    clear kq k12 h12 E12
    have HK := hide k12a
    have HH := hide h12a
    go_wp2
    go_ret
    exact ⟨_, s, rfl, .expand hb11 pc ev acc fr mn mi ti un s HR.out, HH.out, HK.out⟩
  rw [hb11] at h12 ⊢
  go_wp2_with fail
  refine (is_any R A ws 0 false tickW w12 h12).mono ?_
  rintro e w13 ⟨rfl, h13, kq⟩
  have k13 := k12.trans kq
  clear kq k12 h12
  rcases Bool.eq_false_or_eq_true (isB ws 0 false tickW) with hb12 | hb12
  · rw [hb12, if_pos rfl] at h13
    have E13 := hide ((unhide HE).kept k13 hR)
    go_wp2_with fail
    refine (rminutes_any R A ws _ _ w13 h13).mono ?_
    rintro e w13a ⟨rfl, h13a, kq⟩
    have k13a := k13.trans kq
    have E13a := hide ((unhide E13).kept kq hR)
    clear kq k13 h13 E13
    have HK := hide k13a
    have HH := hide h13a
    go_wp2
    go_ret
    exact ⟨_, (stps ws [miB] (1, false)), rfl, .tick hb12, HH.out, HK.out⟩
  rw [hb12] at h13 ⊢
  go_wp2_with fail
  refine (is_any R A ws 0 false clockW w13 h13).mono ?_
  rintro e w14 ⟨rfl, h14, kq⟩
  have k14 := k13.trans kq
  clear kq k13 h13
  rcases Bool.eq_false_or_eq_true (isB ws 0 false clockW) with hb13 | hb13
  · rw [hb13, if_pos rfl] at h14
    have E14 := hide ((unhide HE).kept k14 hR)
    have HK := hide k14
    have HH := hide h14
    go_wp2
    go_ret
    exact ⟨_, (1, false), rfl, .clock hb13, HH.out, HK.out⟩
  rw [hb13] at h14 ⊢
  have c2 := h14.c2
  have f2 := h14.f2
  go_wp2
  go_ret
  exact ⟨_, (0, true), rfl, .none hb0 hb1 hb2 hb3 hb4 hb5 hb6 hb7 hb8 hb9 hb10 hb11 hb12 hb13, h14.bad, k14.setCell _ _⟩

end Go.Proofs.YtjfkfiffakbagaaGreatDoor

/-
  The walk over the document's fits: does a word stand for a symbol?
-/
namespace Go.Proofs.YtjfkfiffakbagaaGreatDoor
open Go.RowKit

/-- A number within bounds. -/
def rngB (w : ByteArray) (lo hi : Int) : Bool := decide (lo ≤ numR w 1 7 ∧ numR w 1 7 ≤ hi)
def fitsB (sym w : ByteArray) : Bool :=
  if sym.toList == [78, 65, 77, 69] then Txt.isName w.data.toList else
  if sym.toList == [85, 78, 73, 84, 83] then rngB w 1 9 else
  if sym.toList == [77, 73, 78, 85, 84, 69, 83] then rngB w 1 1048320 else
  if sym.toList == [69, 86, 69, 82, 89] then rngB w 1 99 else
  if sym.toList == [73, 68] then decide (0 ≤ numR w 1 7) else
  if sym.toList == [84, 73, 77, 69] then decide (0 ≤ timR w) else
  if sym.toList == [68, 65, 84, 69] then decide (0 ≤ datR w ∧ datR w < 728) else
  if sym.toList == [77, 73, 78, 85, 84, 69] then decide (0 ≤ clkR w) else
  if sym.toList == [79, 78] then Txt.onB w else
  sym.toList == w.toList

theorem decide2 {p q : Prop} [Decidable p] [Decidable q] (hp : p) : decide (p ∧ q) = decide q := by
  by_cases h : q <;> simp [hp, h]

set_option maxRecDepth 100000 in
set_option maxHeartbeats 4000000 in
theorem fits_any (sym w : ByteArray) (W : World) (hs : w.size ≤ 160) :
    Calls Tryz.prog 122 #[.string sym, .string w] W fun e w' => e = .returned (.bool (fitsB sym w)) ∧ Below W.heap.size W w' := by
  cases c0 : (sym.toList == [78, 65, 77, 69])
  case true =>
    go_enter Tryz.func122, Tryz.ntmps122
    go_wp2_with fail
    refine (number_any w 1 7 W hs (by omega) (by omega)).mono ?_
    rintro e w1 ⟨rfl, hb1⟩
    go_wp2_with fail
    refine (named_any w _ hs).mono ?_
    rintro e w2 ⟨rfl, rfl⟩
    go_wp2
    go_ret
    exact ⟨ret_bool (by simp [fitsB, c0]), hb1⟩
  cases c1 : (sym.toList == [85, 78, 73, 84, 83])
  case true =>
    have HF : Hid (fitsB sym w = rngB w 1 9) := by show fitsB sym w = _; simp [fitsB, c0, c1]
    by_cases g1 : 1 ≤ numR w 1 7
    · by_cases g2 : numR w 1 7 ≤ 9
      · go_enter Tryz.func122, Tryz.ntmps122
        go_wp2_with fail
        refine (number_any w 1 7 W hs (by omega) (by omega)).mono ?_
        rintro e w1 ⟨rfl, hb1⟩
        go_wp2
        go_ret
        exact ⟨ret_bool (by rw [HF.out, rngB, decide_eq_true ⟨g1, g2⟩]), hb1⟩
      · go_enter Tryz.func122, Tryz.ntmps122
        go_wp2_with fail
        refine (number_any w 1 7 W hs (by omega) (by omega)).mono ?_
        rintro e w1 ⟨rfl, hb1⟩
        go_wp2
        go_ret
        exact ⟨ret_bool (by rw [HF.out, rngB, decide_eq_false (by omega)]; simp; omega), hb1⟩
    · go_enter Tryz.func122, Tryz.ntmps122
      go_wp2_with fail
      refine (number_any w 1 7 W hs (by omega) (by omega)).mono ?_
      rintro e w1 ⟨rfl, hb1⟩
      go_wp2
      go_ret
      exact ⟨ret_bool (by rw [HF.out, rngB, decide_eq_false (by omega)]), hb1⟩
  cases c2 : (sym.toList == [77, 73, 78, 85, 84, 69, 83])
  case true =>
    have HF : Hid (fitsB sym w = rngB w 1 1048320) := by show fitsB sym w = _; simp [fitsB, c0, c1, c2]
    by_cases g1 : 1 ≤ numR w 1 7
    · by_cases g2 : numR w 1 7 ≤ 1048320
      · go_enter Tryz.func122, Tryz.ntmps122
        go_wp2_with fail
        refine (number_any w 1 7 W hs (by omega) (by omega)).mono ?_
        rintro e w1 ⟨rfl, hb1⟩
        go_wp2
        go_ret
        exact ⟨ret_bool (by rw [HF.out, rngB, decide_eq_true ⟨g1, g2⟩]), hb1⟩
      · go_enter Tryz.func122, Tryz.ntmps122
        go_wp2_with fail
        refine (number_any w 1 7 W hs (by omega) (by omega)).mono ?_
        rintro e w1 ⟨rfl, hb1⟩
        go_wp2
        go_ret
        exact ⟨ret_bool (by rw [HF.out, rngB, decide_eq_false (by omega)]; simp; omega), hb1⟩
    · go_enter Tryz.func122, Tryz.ntmps122
      go_wp2_with fail
      refine (number_any w 1 7 W hs (by omega) (by omega)).mono ?_
      rintro e w1 ⟨rfl, hb1⟩
      go_wp2
      go_ret
      exact ⟨ret_bool (by rw [HF.out, rngB, decide_eq_false (by omega)]), hb1⟩
  cases c3 : (sym.toList == [69, 86, 69, 82, 89])
  case true =>
    have HF : Hid (fitsB sym w = rngB w 1 99) := by show fitsB sym w = _; simp [fitsB, c0, c1, c2, c3]
    by_cases g1 : 1 ≤ numR w 1 7
    · by_cases g2 : numR w 1 7 ≤ 99
      · go_enter Tryz.func122, Tryz.ntmps122
        go_wp2_with fail
        refine (number_any w 1 7 W hs (by omega) (by omega)).mono ?_
        rintro e w1 ⟨rfl, hb1⟩
        go_wp2
        go_ret
        exact ⟨ret_bool (by rw [HF.out, rngB, decide_eq_true ⟨g1, g2⟩]), hb1⟩
      · go_enter Tryz.func122, Tryz.ntmps122
        go_wp2_with fail
        refine (number_any w 1 7 W hs (by omega) (by omega)).mono ?_
        rintro e w1 ⟨rfl, hb1⟩
        go_wp2
        go_ret
        exact ⟨ret_bool (by rw [HF.out, rngB, decide_eq_false (by omega)]; simp; omega), hb1⟩
    · go_enter Tryz.func122, Tryz.ntmps122
      go_wp2_with fail
      refine (number_any w 1 7 W hs (by omega) (by omega)).mono ?_
      rintro e w1 ⟨rfl, hb1⟩
      go_wp2
      go_ret
      exact ⟨ret_bool (by rw [HF.out, rngB, decide_eq_false (by omega)]), hb1⟩
  cases c4 : (sym.toList == [73, 68])
  case true =>
    go_enter Tryz.func122, Tryz.ntmps122
    go_wp2_with fail
    refine (number_any w 1 7 W hs (by omega) (by omega)).mono ?_
    rintro e w1 ⟨rfl, hb1⟩
    go_wp2
    go_ret
    exact ⟨ret_bool (by simp [fitsB, c0, c1, c2, c3, c4]), hb1⟩
  cases c5 : (sym.toList == [84, 73, 77, 69])
  case true =>
    go_enter Tryz.func122, Tryz.ntmps122
    go_wp2_with fail
    refine (number_any w 1 7 W hs (by omega) (by omega)).mono ?_
    rintro e w1 ⟨rfl, hb1⟩
    go_wp2_with fail
    refine (timed_any w _ hs).mono ?_
    rintro e w2 ⟨rfl, hb2⟩
    have hbb := hb1.trans (hb2.mono hb1.size)
    go_wp2
    go_ret
    exact ⟨ret_bool (by simp [fitsB, c0, c1, c2, c3, c4, c5]), hbb⟩
  cases c6 : (sym.toList == [68, 65, 84, 69])
  case true =>
    have HF : Hid (fitsB sym w = decide (0 ≤ datR w ∧ datR w < 728)) := by show fitsB sym w = _; simp [fitsB, c0, c1, c2, c3, c4, c5, c6]
    by_cases g1 : 0 ≤ datR w
    · by_cases g2 : datR w < 728
      · go_enter Tryz.func122, Tryz.ntmps122
        go_wp2_with fail
        refine (number_any w 1 7 W hs (by omega) (by omega)).mono ?_
        rintro e w1 ⟨rfl, hb1⟩
        go_wp2_with fail
        refine (dated_word w _ hs).mono ?_
        rintro e w2 ⟨rfl, hb2⟩
        have hbb := hb1.trans (hb2.mono hb1.size)
        go_wp2
        go_ret
        exact ⟨ret_bool (by rw [HF.out, decide_eq_true ⟨g1, g2⟩]), hbb⟩
      · go_enter Tryz.func122, Tryz.ntmps122
        go_wp2_with fail
        refine (number_any w 1 7 W hs (by omega) (by omega)).mono ?_
        rintro e w1 ⟨rfl, hb1⟩
        go_wp2_with fail
        refine (dated_word w _ hs).mono ?_
        rintro e w2 ⟨rfl, hb2⟩
        have hbb := hb1.trans (hb2.mono hb1.size)
        go_wp2
        go_ret
        exact ⟨ret_bool (by rw [HF.out, decide_eq_false (by omega)]; simp; omega), hbb⟩
    · go_enter Tryz.func122, Tryz.ntmps122
      go_wp2_with fail
      refine (number_any w 1 7 W hs (by omega) (by omega)).mono ?_
      rintro e w1 ⟨rfl, hb1⟩
      go_wp2_with fail
      refine (dated_word w _ hs).mono ?_
      rintro e w2 ⟨rfl, hb2⟩
      have hbb := hb1.trans (hb2.mono hb1.size)
      go_wp2
      go_ret
      exact ⟨ret_bool (by rw [HF.out, decide_eq_false (by omega)]), hbb⟩
  cases c7 : (sym.toList == [77, 73, 78, 85, 84, 69])
  case true =>
    go_enter Tryz.func122, Tryz.ntmps122
    go_wp2_with fail
    refine (number_any w 1 7 W hs (by omega) (by omega)).mono ?_
    rintro e w1 ⟨rfl, hb1⟩
    go_wp2_with fail
    refine (clocked_any w _ hs).mono ?_
    rintro e w2 ⟨rfl, hb2⟩
    have hbb := hb1.trans (hb2.mono hb1.size)
    go_wp2
    go_ret
    exact ⟨ret_bool (by simp [fitsB, c0, c1, c2, c3, c4, c5, c6, c7]), hbb⟩
  cases c8 : (sym.toList == [79, 78])
  case true =>
    go_enter Tryz.func122, Tryz.ntmps122
    go_wp2_with fail
    refine (number_any w 1 7 W hs (by omega) (by omega)).mono ?_
    rintro e w1 ⟨rfl, hb1⟩
    go_wp2_with fail
    refine (on_any w _ hs).mono ?_
    rintro e w2 ⟨⟨acc, rfl, _⟩, hb2⟩
    have hbb := hb1.trans (hb2.mono hb1.size)
    unfold maskV
    go_wp2
    go_ret
    exact ⟨ret_bool (by simp [fitsB, c0, c1, c2, c3, c4, c5, c6, c7, c8]), hbb.alloc (Nat.le_trans hb1.size hb2.size) _⟩
  go_enter Tryz.func122, Tryz.ntmps122
  go_wp2_with fail
  refine (number_any w 1 7 W hs (by omega) (by omega)).mono ?_
  rintro e w1 ⟨rfl, hb1⟩
  go_wp2
  go_ret
  exact ⟨ret_bool (by simp [fitsB, c0, c1, c2, c3, c4, c5, c6, c7, c8]), hb1⟩

end Go.Proofs.YtjfkfiffakbagaaGreatDoor

/-
  The walk over the document's rules: the six patterns of a RULE behind some words.
-/
namespace Go.Proofs.YtjfkfiffakbagaaGreatDoor
open Go.RowKit

def kindS (i : Nat) : ByteArray := match i with | 0 => ⟨#[100, 97, 105, 108, 121, 32, 69, 86, 69, 82, 89]⟩ | 1 => ⟨#[119, 101, 101, 107, 108, 121, 32, 69, 86, 69, 82, 89, 32, 79, 78]⟩ | _ => ⟨#[109, 111, 110, 116, 104, 108, 121, 32, 69, 86, 69, 82, 89]⟩
def endS (i : Nat) : ByteArray := match i with | 0 => ⟨#[116, 105, 109, 101, 115, 32, 69, 86, 69, 82, 89]⟩ | _ => ⟨#[117, 110, 116, 105, 108, 32, 68, 65, 84, 69]⟩
def midS : ByteArray := ⟨#[32, 102, 114, 111, 109, 32, 68, 65, 84, 69, 32, 97, 116, 32, 77, 73, 78, 85, 84, 69, 32, 102, 111, 114, 32, 77, 73, 78, 85, 84, 69, 83, 32]⟩
def ruleS (ahead : ByteArray) (i k : Nat) : ByteArray := ahead ++ ⟨#[32]⟩ ++ kindS i ++ midS ++ endS k
def rulesL (ahead : ByteArray) (n : Nat) : List ByteArray := (List.range n).map fun j => ruleS ahead (j / 2) (j % 2)

theorem rulesL_succ (ahead : ByteArray) (n : Nat) : rulesL ahead (n + 1) = rulesL ahead n ++ [ruleS ahead (n / 2) (n % 2)] := by
  simp [rulesL, List.range_succ]
theorem rulesL_len (ahead : ByteArray) (n : Nat) : (rulesL ahead n).length = n := by simp [rulesL]
theorem kind_size (i : Nat) : (kindS i).size ≤ 15 := by unfold kindS; split <;> decide
theorem end_size (i : Nat) : (endS i).size ≤ 11 := by unfold endS; split <;> decide

theorem add_size (a b : ByteArray) (m n : Nat) (ha : a.size ≤ m) (hb : b.size ≤ n) : (a ++ b).size ≤ m + n := by
  have : (a ++ b).size = a.size + b.size := ByteArray.size_append
  omega
theorem add_run (a b : ByteArray) (m n : Nat) (ha : a.size ≤ m) (hb : b.size ≤ n) (h : m + n ≤ 1000) : ∀ wx, (Op.stringOp .add a b).run Tryz.prog wx = .ok (.string (a ++ b)) wx := by
  intro wx
  apply run_string_add_sum
  omega

theorem own_lower {w : World} {base base' e size n : Nat} {v : Value} {xs : List Value} (h : w.ownsRow base e size v n xs) (hb : base' ≤ base) : w.ownsRow base' e size v n xs := by
  refine ⟨h.1, ?_⟩
  rcases h.2 with h0 | ⟨g, cap, cur, hv, hg, rest⟩
  · exact .inl h0
  · exact .inr ⟨g, cap, cur, hv, Nat.le_trans hb hg, rest⟩

set_option maxRecDepth 100000 in
set_option maxHeartbeats 2000000 in
theorem rules_any (ahead : ByteArray) (w : World) (ha : ahead.size ≤ 20) :
    Calls Tryz.prog 177 #[.string ahead] w fun e w' => ∃ v, e = .returned v ∧ w'.ownsRow w.heap.size 9 1 v 6 ((rulesL ahead 6).map Value.string) ∧ Below w.heap.size w w' := by
  obtain ⟨i0, hi0, hz0, hz1, hz2⟩ := info_parts info9
  go_enter Tryz.func177, Tryz.ntmps177
  go_wp2
  obtain ⟨W, hW⟩ : ∃ W, W = (w.alloc (.cells #[.string (kindS 0), .string (kindS 1), .string (kindS 2)] 9)).alloc (.cells #[.string (endS 0), .string (endS 1)] 9) := ⟨_, rfl⟩
  simp only [kindS, endS] at hW
  rw [← hW]
  have hB : Below w.heap.size w W := by rw [hW]; exact ((Below.refl _ _).alloc (Nat.le_refl _) _).alloc (by simp) _
  have hZ : w.heap.size + 2 = W.heap.size := by rw [hW]; simp
  have cK : ∀ i, i < 3 → W.cell? ⟨w.heap.size, i, none⟩ = some (.string (kindS i)) := fun i hi => by
    rw [hW]
    rcases (show i = 0 ∨ i = 1 ∨ i = 2 by omega) with rfl | rfl | rfl <;> simp [kindS]
  have cE : ∀ i, i < 2 → W.cell? ⟨w.heap.size + 1, i, none⟩ = some (.string (endS i)) := fun i hi => by
    rw [hW]
    rcases (show i = 0 ∨ i = 1 by omega) with rfl | rfl <;> simp [endS]
  have CK := hide cK
  have CE := hide cE
  clear hW cK cE
  go_loopw [3, 6, 7] (fun v i _ wx => ∃ a : Nat, a ≤ 3 ∧ i = .int .i64 a ∧ wx.ownsRow (w.heap.size + 2) 9 1 v (2 * a) ((rulesL ahead (2 * a)).map Value.string) ∧ Below (w.heap.size + 2) W wx) (fun _ i _ _ => 3 - (intOf i).toNat)
  case atStart => exact ⟨0, by omega, rfl, World.ownsRow_nil _ _ _ _, Below.refl _ _⟩
  case round =>
    obtain ⟨a, hka, rfl, hown, hnx⟩ := hrel
    by_cases hlt : a < 3
    · have i1 : (0 : Int) ≤ (a : Int) := Int.natCast_nonneg _
      have i2 : (a : Int) < 3 := by omega
      go_wp2
      obtain ⟨wo, hwo⟩ : ∃ wo : World, wo = wr := ⟨_, rfl⟩
      rw [← hwo] at hown hnx ⊢
      clear hwo
      go_loopw [3, 7] (fun v k wx => ∃ b : Nat, b ≤ 2 ∧ k = .int .i64 b ∧ wx.ownsRow (w.heap.size + 2) 9 1 v (2 * a + b) ((rulesL ahead (2 * a + b)).map Value.string) ∧ Below (w.heap.size + 2) W wx) (fun _ k _ => 2 - (intOf k).toNat)
      case atStart => exact ⟨0, by omega, rfl, hown, hnx⟩
      case round =>
        obtain ⟨b, hkb, rfl, hown2, hnx2⟩ := hrel
        by_cases hlb : b < 2
        · have kz := kind_size a
          have ez := end_size b
          have c1 : wr.cell? ⟨w.heap.size, a, none⟩ = some (.string (kindS a)) := (hnx2.cell (p := ⟨w.heap.size, a, none⟩) (by simp)).trans (unhide CK a hlt)
          have c2 : wr.cell? ⟨w.heap.size + 1, b, none⟩ = some (.string (endS b)) := (hnx2.cell (p := ⟨w.heap.size + 1, b, none⟩) (by simp)).trans (unhide CE b hlb)
          have i3 : (0 : Int) ≤ (b : Int) := Int.natCast_nonneg _
          have i4 : (b : Int) < 2 := by omega
          have ne1 : u3.ownBlock ≠ some w.heap.size := fun e => by have := own_base hown2 e; omega
          have ne2 : u3.ownBlock ≠ some (w.heap.size + 1) := fun e => by have := own_base hown2 e; omega
          have hwz := hnx2.size
          have s1 : ∀ wx, (Op.stringOp .add ahead ⟨#[32]⟩).run Tryz.prog wx = .ok (.string (ahead ++ ⟨#[32]⟩)) wx := add_run ahead _ 20 1 ha (by decide) (by decide)
          have s2 : ∀ wx, (Op.stringOp .add (ahead ++ ⟨#[32]⟩) (kindS a)).run Tryz.prog wx = .ok (.string (ahead ++ ⟨#[32]⟩ ++ kindS a)) wx := add_run _ _ 21 15 (add_size _ _ 20 1 ha (by decide)) kz (by decide)
          have s3 : ∀ wx, (Op.stringOp .add (ahead ++ ⟨#[32]⟩ ++ kindS a) ⟨#[32, 102, 114, 111, 109, 32, 68, 65, 84, 69, 32, 97, 116, 32, 77, 73, 78, 85, 84, 69, 32, 102, 111, 114, 32, 77, 73, 78, 85, 84, 69, 83, 32]⟩).run Tryz.prog wx = .ok (.string (ahead ++ ⟨#[32]⟩ ++ kindS a ++ ⟨#[32, 102, 114, 111, 109, 32, 68, 65, 84, 69, 32, 97, 116, 32, 77, 73, 78, 85, 84, 69, 32, 102, 111, 114, 32, 77, 73, 78, 85, 84, 69, 83, 32]⟩)) wx := add_run _ _ 36 33 (add_size _ _ 21 15 (add_size _ _ 20 1 ha (by decide)) kz) (by decide) (by decide)
          have s4 : ∀ wx, (Op.stringOp .add (ahead ++ ⟨#[32]⟩ ++ kindS a ++ ⟨#[32, 102, 114, 111, 109, 32, 68, 65, 84, 69, 32, 97, 116, 32, 77, 73, 78, 85, 84, 69, 32, 102, 111, 114, 32, 77, 73, 78, 85, 84, 69, 83, 32]⟩) (endS b)).run Tryz.prog wx = .ok (.string (ahead ++ ⟨#[32]⟩ ++ kindS a ++ ⟨#[32, 102, 114, 111, 109, 32, 68, 65, 84, 69, 32, 97, 116, 32, 77, 73, 78, 85, 84, 69, 32, 102, 111, 114, 32, 77, 73, 78, 85, 84, 69, 83, 32]⟩ ++ endS b)) wx := add_run _ _ 69 11 (add_size _ _ 36 33 (add_size _ _ 21 15 (add_size _ _ 20 1 ha (by decide)) kz) (by decide)) ez (by decide)
          go_wp2_with fail
          go_region_held3 (fun w' => w'.cell? ⟨w.heap.size, a, none⟩ = some (.string (kindS a)) ∧ w'.cell? ⟨w.heap.size + 1, b, none⟩ = some (.string (endS b)))
            (first
              | go_keep
              | (go_split_ands
                 refine ⟨?_, ?_⟩
                 · (rw [hgrow.cell_far _ (by simp; omega) (Ne.symm ne1)]; assumption)
                 · (rw [hgrow.cell_far _ (by simp; omega) (Ne.symm ne2)]; assumption)))
            ((refine step_append_lies _ (by rfl) _ _ _ (by rfl) (w.heap.size + 2) 9 i0 _ 1 16 Tryz.underlying26 hi0 hz0 hz1 hz2 rfl (by omega) u3 (2 * a + b) ((rulesL ahead (2 * a + b)).map Value.string) (by rfl) ((hown2.alloc _).drew)
                ⟨wr.heap.size, 0, none⟩ 1 1 [.string (ahead ++ ⟨#[32]⟩ ++ kindS a ++ ⟨#[32, 102, 114, 111, 109, 32, 68, 65, 84, 69, 32, 97, 116, 32, 77, 73, 78, 85, 84, 69, 32, 102, 111, 114, 32, 77, 73, 78, 85, 84, 69, 83, 32]⟩ ++ endS b)] (by rfl) (by rfl) (World.news_of_block (cs := #[.string (ahead ++ ⟨#[32]⟩ ++ kindS a ++ ⟨#[32, 102, 114, 111, 109, 32, 68, 65, 84, 69, 32, 97, 116, 32, 77, 73, 78, 85, 84, 69, 32, 102, 111, 114, 32, 77, 73, 78, 85, 84, 69, 83, 32]⟩ ++ endS b)]) (t := 9) (fr := (0, 0)) (heap_alloc_new wr _)) (by simp [Value.oneCell'])
                (by omega) (by unfold maxLen; omega) (by omega) (by simp; omega) (wr.heap.size + 1) (by simp) ?_; intro g cap w1 hown1 hgrow hat hltg))
          have hbw : Below (w.heap.size + 2) W w1 := by
            first
              | exact ((hnx2.alloc (by omega) _).drew).grown hgrow (by simp; omega) (fun k hk => own_base hown2 hk)
              | exact (hnx2.alloc (by omega) _).grown hgrow (by simp; omega) (fun k hk => own_base hown2 hk)
          have HO : Hid (w1.ownsRow (w.heap.size + 2) 9 1 (.slice (some ⟨g, 0, none⟩) (2 * a + b + 1) cap) (2 * a + (b + 1)) ((rulesL ahead (2 * a + (b + 1))).map Value.string)) := by
            show w1.ownsRow _ _ _ _ _ _
            rw [show 2 * a + (b + 1) = 2 * a + b + 1 from by omega, rulesL_succ, show (2 * a + b) / 2 = a from by omega, show (2 * a + b) % 2 = b from by omega, List.map_append]
            exact hown1
          clear hown1
          go_wp2
          refine ⟨?_, ?_⟩
          · first | exact ⟨b + 1, by omega, by go_num, HO.out, hbw⟩ | ((repeat apply Exists.intro); exact ⟨⟨b + 1, by omega, by go_num, HO.out, hbw⟩, rfl⟩)
          · simp [intOf]; omega
        · obtain rfl : b = 2 := by omega
          have HO : Hid (wr.ownsRow (w.heap.size + 2) 9 1 u3 (2 * (a + 1)) ((rulesL ahead (2 * (a + 1))).map Value.string)) := by
            show wr.ownsRow _ _ _ _ _ _
            rw [show 2 * (a + 1) = 2 * a + 2 from by omega]
            exact hown2
          clear hown2
          go_wp2
          exact ⟨⟨a + 1, by omega, by go_num, HO.out, hnx2⟩, by simp [intOf]; omega⟩
    · obtain rfl : a = 3 := by omega
      go_wp2
      go_ret
      exact ⟨_, rfl, own_lower hown (by omega), hB.trans (hnx.mono (by omega))⟩

end Go.Proofs.YtjfkfiffakbagaaGreatDoor

/-
  The walk over the document's patterns.
-/
namespace Go.Proofs.YtjfkfiffakbagaaGreatDoor
open Go.RowKit

def baseL : List ByteArray := [⟨#[116, 104, 105, 110, 103, 32, 78, 65, 77, 69, 32, 85, 78, 73, 84, 83]⟩, ⟨#[98, 111, 111, 107, 32, 78, 65, 77, 69, 32, 85, 78, 73, 84, 83, 32, 84, 73, 77, 69, 32, 84, 73, 77, 69]⟩, ⟨#[104, 111, 108, 100, 32, 78, 65, 77, 69, 32, 85, 78, 73, 84, 83, 32, 84, 73, 77, 69, 32, 84, 73, 77, 69, 32, 77, 73, 78, 85, 84, 69, 83]⟩, ⟨#[119, 97, 105, 116, 32, 78, 65, 77, 69, 32, 85, 78, 73, 84, 83, 32, 84, 73, 77, 69, 32, 84, 73, 77, 69, 32, 77, 73, 78, 85, 84, 69, 83]⟩, ⟨#[99, 111, 110, 102, 105, 114, 109, 32, 73, 68]⟩, ⟨#[99, 97, 110, 99, 101, 108, 32, 73, 68]⟩, ⟨#[108, 105, 115, 116, 32, 78, 65, 77, 69]⟩, ⟨#[108, 105, 115, 116, 32, 78, 65, 77, 69, 32, 84, 73, 77, 69, 32, 84, 73, 77, 69]⟩, ⟨#[119, 97, 105, 116, 105, 110, 103]⟩, ⟨#[112, 101, 97, 107, 32, 78, 65, 77, 69, 32, 84, 73, 77, 69, 32, 84, 73, 77, 69]⟩, ⟨#[102, 105, 110, 100, 32, 78, 65, 77, 69, 32, 85, 78, 73, 84, 83, 32, 77, 73, 78, 85, 84, 69, 83, 32, 84, 73, 77, 69, 32, 84, 73, 77, 69]⟩, ⟨#[116, 105, 99, 107, 32, 77, 73, 78, 85, 84, 69, 83]⟩, ⟨#[99, 108, 111, 99, 107]⟩]
def serS : ByteArray := ⟨#[115, 101, 114, 105, 101, 115, 32, 78, 65, 77, 69, 32, 85, 78, 73, 84, 83]⟩
def expS : ByteArray := ⟨#[101, 120, 112, 97, 110, 100]⟩
def patsL : List ByteArray := baseL ++ rulesL serS 6 ++ rulesL expS 6

theorem own_later {w w' : World} {base e size n : Nat} {v : Value} {xs : List Value} (h : w.ownsRow base e size v n xs) (hb : Below w.heap.size w w') : w'.ownsRow base e size v n xs := by
  refine ⟨h.1, ?_⟩
  rcases h.2 with h0 | ⟨g, cap, cur, hv, hg, hh, rest⟩
  · exact .inl h0
  · refine .inr ⟨g, cap, cur, hv, hg, ?_, rest⟩
    have : g < w.heap.size := by
      by_cases hl : g < w.heap.size
      · exact hl
      · rw [Array.getElem?_eq_none (by omega)] at hh; cases hh
    rw [hb.block g this]; exact hh
/-- What a row that is not empty looks like. -/
theorem own_form {w : World} {base e n : Nat} {v : Value} {xs : List Value} (h : w.ownsRow base e 1 v n xs) (hn : 0 < n) : ∃ g cap, v = .slice (some ⟨g, 0, none⟩) n cap ∧ base ≤ g ∧ g < w.heap.size ∧ ∀ j u, xs[j]? = some u → w.cell? (Addr.add ⟨g, 0, none⟩ j) = some u := by
  rcases h.2 with ⟨_, h0⟩ | ⟨g, cap, cur, hv, hg, hh, hc, _, hs, ht⟩
  · omega
  · have hl : g < w.heap.size := by
      by_cases hl : g < w.heap.size
      · exact hl
      · rw [Array.getElem?_eq_none (by omega)] at hh; cases hh
    refine ⟨g, cap, hv, hg, hl, fun j u hj => ?_⟩
    have ha : Addr.add ⟨g, 0, none⟩ j = ⟨g, j, none⟩ := by
      unfold Addr.add; split
      · subst_vars; rfl
      · simp
    have hjn : j < n := by
      have h1 := h.1
      have := (List.getElem?_eq_some_iff.1 hj).1
      omega
    have hcur : cur[j]? = some u := by
      rw [← ht, List.getElem?_take, if_pos (by omega)] at hj
      simpa using hj
    rw [ha]
    simp [World.cell?, hh, hcur]

set_option maxRecDepth 100000 in
set_option maxHeartbeats 1000000 in
theorem patterns_any (w : World) :
    Calls Tryz.prog 121 #[] w fun e w' => ∃ v, e = .returned v ∧ w'.ownsRow w.heap.size 9 1 v 25 (patsL.map Value.string) ∧ Below w.heap.size w w' := by
  obtain ⟨i0, hi, hz0, hz1, hz2⟩ := info_parts info9
  go_enter Tryz.func121, Tryz.ntmps121
  go_wp2_with fail
  obtain ⟨W, hW⟩ : ∃ W, W = w.alloc (.cells #[.string ⟨#[116, 104, 105, 110, 103, 32, 78, 65, 77, 69, 32, 85, 78, 73, 84, 83]⟩, .string ⟨#[98, 111, 111, 107, 32, 78, 65, 77, 69, 32, 85, 78, 73, 84, 83, 32, 84, 73, 77, 69, 32, 84, 73, 77, 69]⟩, .string ⟨#[104, 111, 108, 100, 32, 78, 65, 77, 69, 32, 85, 78, 73, 84, 83, 32, 84, 73, 77, 69, 32, 84, 73, 77, 69, 32, 77, 73, 78, 85, 84, 69, 83]⟩, .string ⟨#[119, 97, 105, 116, 32, 78, 65, 77, 69, 32, 85, 78, 73, 84, 83, 32, 84, 73, 77, 69, 32, 84, 73, 77, 69, 32, 77, 73, 78, 85, 84, 69, 83]⟩, .string ⟨#[99, 111, 110, 102, 105, 114, 109, 32, 73, 68]⟩, .string ⟨#[99, 97, 110, 99, 101, 108, 32, 73, 68]⟩, .string ⟨#[108, 105, 115, 116, 32, 78, 65, 77, 69]⟩, .string ⟨#[108, 105, 115, 116, 32, 78, 65, 77, 69, 32, 84, 73, 77, 69, 32, 84, 73, 77, 69]⟩, .string ⟨#[119, 97, 105, 116, 105, 110, 103]⟩, .string ⟨#[112, 101, 97, 107, 32, 78, 65, 77, 69, 32, 84, 73, 77, 69, 32, 84, 73, 77, 69]⟩, .string ⟨#[102, 105, 110, 100, 32, 78, 65, 77, 69, 32, 85, 78, 73, 84, 83, 32, 77, 73, 78, 85, 84, 69, 83, 32, 84, 73, 77, 69, 32, 84, 73, 77, 69]⟩, .string ⟨#[116, 105, 99, 107, 32, 77, 73, 78, 85, 84, 69, 83]⟩, .string ⟨#[99, 108, 111, 99, 107]⟩] 9) := ⟨_, rfl⟩
  rw [← hW]
  have hB : Below w.heap.size w W := by rw [hW]; exact (Below.refl _ _).alloc (Nat.le_refl _) _
  have hown : W.ownsRow w.heap.size 9 1 (.slice (some ⟨w.heap.size, 0, none⟩) 13 13) 13 (baseL.map Value.string) := by
    refine ⟨rfl, .inr ⟨w.heap.size, 13, #[.string ⟨#[116, 104, 105, 110, 103, 32, 78, 65, 77, 69, 32, 85, 78, 73, 84, 83]⟩, .string ⟨#[98, 111, 111, 107, 32, 78, 65, 77, 69, 32, 85, 78, 73, 84, 83, 32, 84, 73, 77, 69, 32, 84, 73, 77, 69]⟩, .string ⟨#[104, 111, 108, 100, 32, 78, 65, 77, 69, 32, 85, 78, 73, 84, 83, 32, 84, 73, 77, 69, 32, 84, 73, 77, 69, 32, 77, 73, 78, 85, 84, 69, 83]⟩, .string ⟨#[119, 97, 105, 116, 32, 78, 65, 77, 69, 32, 85, 78, 73, 84, 83, 32, 84, 73, 77, 69, 32, 84, 73, 77, 69, 32, 77, 73, 78, 85, 84, 69, 83]⟩, .string ⟨#[99, 111, 110, 102, 105, 114, 109, 32, 73, 68]⟩, .string ⟨#[99, 97, 110, 99, 101, 108, 32, 73, 68]⟩, .string ⟨#[108, 105, 115, 116, 32, 78, 65, 77, 69]⟩, .string ⟨#[108, 105, 115, 116, 32, 78, 65, 77, 69, 32, 84, 73, 77, 69, 32, 84, 73, 77, 69]⟩, .string ⟨#[119, 97, 105, 116, 105, 110, 103]⟩, .string ⟨#[112, 101, 97, 107, 32, 78, 65, 77, 69, 32, 84, 73, 77, 69, 32, 84, 73, 77, 69]⟩, .string ⟨#[102, 105, 110, 100, 32, 78, 65, 77, 69, 32, 85, 78, 73, 84, 83, 32, 77, 73, 78, 85, 84, 69, 83, 32, 84, 73, 77, 69, 32, 84, 73, 77, 69]⟩, .string ⟨#[116, 105, 99, 107, 32, 77, 73, 78, 85, 84, 69, 83]⟩, .string ⟨#[99, 108, 111, 99, 107]⟩], rfl, Nat.le_refl _, ?_, Nat.le_refl _, by decide, rfl, rfl⟩⟩
    rw [hW]; exact heap_alloc_new w _
  clear hW
  refine (rules_any _ W (by decide)).mono ?_
  rintro e w1 ⟨v1, rfl, o1, b1⟩
  obtain ⟨g1, cap1, rfl, hg1, hl1, hc1⟩ := own_form o1 (by omega)
  have hown1 := own_later hown b1
  have hB1 := hB.trans (b1.mono hB.size)
  have hS1 := hB1.size
  clear o1 hown hB
  go_wp2_with (first
    | (at_builtin; refine wpList_append_own _ rfl _ _ 26 rfl w.heap.size 9 i0 (.string ⟨#[]⟩) 1 16 Tryz.underlying26 hi hz0 hz1 hz2 rfl (by decide) _ 13 (baseL.map Value.string) rfl hown1 ⟨g1, 0, none⟩ 6 cap1 ((rulesL serS 6).map Value.string) rfl rfl ?c1 ?c2 ?c3 ?c4 ?c5 ?_))
  case c1 => exact hc1
  case c2 => intro u hu; simp only [List.mem_map] at hu; obtain ⟨x, _, rfl⟩ := hu; rfl
  case c3 => decide
  case c4 => decide
  case c5 => exact hS1
  intro v2 w2 hown2 hgrow2 _
  have hB2 : Below w.heap.size w w2 := hB1.grown hgrow2 hS1 (fun k hk => own_base hown1 hk)
  have hS2 := hB2.size
  clear hgrow2 hown1
  go_wp2_with fail
  refine (rules_any _ w2 (by decide)).mono ?_
  rintro e w3 ⟨v3, rfl, o3, b3⟩
  obtain ⟨g3, cap3, rfl, hg3, hl3, hc3⟩ := own_form o3 (by omega)
  have hown3 := own_later hown2 b3
  have hB3 := hB2.trans (b3.mono hS2)
  have hS3 := hB3.size
  clear o3 hown2
  go_wp2_with (first
    | (at_builtin; refine wpList_append_own _ rfl _ _ 26 rfl w.heap.size 9 i0 (.string ⟨#[]⟩) 1 16 Tryz.underlying26 hi hz0 hz1 hz2 rfl (by decide) v2 (13 + 6) (baseL.map Value.string ++ (rulesL serS 6).map Value.string) rfl hown3 ⟨g3, 0, none⟩ 6 cap3 ((rulesL expS 6).map Value.string) rfl rfl ?c1 ?c2 ?c3 ?c4 ?c5 ?_))
  case c1 => exact hc3
  case c2 => intro u hu; simp only [List.mem_map] at hu; obtain ⟨x, _, rfl⟩ := hu; rfl
  case c3 => decide
  case c4 => decide
  case c5 => exact hS3
  intro v4 w4 hown4 hgrow4 _
  have hB4 : Below w.heap.size w w4 := hB3.grown hgrow4 hS3 (fun k hk => own_base hown3 hk)
  have HO : Hid (w4.ownsRow w.heap.size 9 1 v4 25 (patsL.map Value.string)) := by
    show w4.ownsRow _ _ _ _ _ _
    rw [patsL, List.map_append, List.map_append]; exact hown4
  clear hown4 hgrow4
  go_wp2
  go_ret
  exact ⟨v4, rfl, HO.out, hB4⟩

end Go.Proofs.YtjfkfiffakbagaaGreatDoor

/-
  The plain mathematics of holding words against patterns.
-/
namespace Go.Proofs.YtjfkfiffakbagaaGreatDoor
open Go.RowKit

/-- How many words stand for the symbols of a pattern, from the first on. -/
def pre : List ByteArray → List ByteArray → Nat
  | s :: p, w :: ws => if fitsB s w then pre p ws + 1 else 0
  | _, _ => 0
theorem pre_le : ∀ (p ws : List ByteArray), pre p ws ≤ p.length ∧ pre p ws ≤ ws.length
  | [], _ => by simp [pre]
  | _ :: _, [] => by simp [pre]
  | s :: p, w :: ws => by
    unfold pre
    have := pre_le p ws
    split <;> simp <;> omega
theorem pre_fit : ∀ (p ws : List ByteArray) (n : Nat) (h1 : n < p.length) (h2 : n < ws.length), n < pre p ws → fitsB p[n] ws[n] = true
  | [], _, _, h1, _, _ => by simp at h1
  | _ :: _, [], _, _, h2, _ => by simp at h2
  | s :: p, w :: ws, 0, _, _, h => by
    unfold pre at h
    split at h
    · assumption
    · omega
  | s :: p, w :: ws, n + 1, h1, h2, h => by
    unfold pre at h
    split at h
    · exact pre_fit p ws n (by simpa using h1) (by simpa using h2) (by omega)
    · omega
theorem pre_stop : ∀ (p ws : List ByteArray) (n : Nat) (h1 : n < p.length) (h2 : n < ws.length), n = pre p ws → fitsB p[n] ws[n] = false
  | [], _, _, h1, _, _ => by simp at h1
  | _ :: _, [], _, _, h2, _ => by simp at h2
  | s :: p, w :: ws, 0, _, _, h => by
    unfold pre at h
    cases hf : fitsB s w
    · exact hf
    · rw [if_pos hf] at h; omega
  | s :: p, w :: ws, n + 1, h1, h2, h => by
    unfold pre at h
    split at h
    · exact pre_stop p ws n (by simpa using h1) (by simpa using h2) (by omega)
    · omega
/-- A word more stands for its symbol: so there are more than n. -/
theorem pre_more {p ws : List ByteArray} {n : Nat} (h1 : n < p.length) (h2 : n < ws.length) (hn : n ≤ pre p ws) (hf : fitsB p[n] ws[n] = true) : n + 1 ≤ pre p ws := by
  by_cases e : n = pre p ws
  · have := pre_stop p ws n h1 h2 e; rw [hf] at this; cases this
  · omega
theorem pre_done {p ws : List ByteArray} {n : Nat} (h1 : n < p.length) (h2 : n < ws.length) (hn : n ≤ pre p ws) (hf : fitsB p[n] ws[n] = false) : n = pre p ws := by
  by_cases e : n = pre p ws
  · exact e
  · have := pre_fit p ws n h1 h2 (by omega); rw [hf] at this; cases this

/-- All patterns, one after the other: the first that the words make; else the most words that stand. -/
def scan : List (List ByteArray) → List ByteArray → Nat → Option (List ByteArray) × Nat
  | [], _, m => (none, m)
  | p :: ps, ws, m => if pre p ws = p.length ∧ pre p ws = ws.length then (some p, 0) else scan ps ws (if m < pre p ws then pre p ws else m)
def patsW : List (List ByteArray) := patsL.map Txt.wordsS
theorem patsW_len : patsW.length = 25 := by simp [patsW, patsL, baseL, rulesL]
def scanS (s : ByteArray) : Option (List ByteArray) × Nat := scan patsW (Txt.wordsS s) 0
theorem pats_small : ∀ x ∈ patsL, x.size ≤ 160 := by
  intro x hx
  have key : ∀ a k, (ruleS serS a k).size ≤ 160 ∧ (ruleS expS a k).size ≤ 160 := fun a k => by
    have h1 := kind_size a
    have h2 := end_size k
    have hm : midS.size = 33 := by decide
    have e1 : serS.size = 17 := by decide
    have e2 : expS.size = 6 := by decide
    have e3 : (⟨#[32]⟩ : ByteArray).size = 1 := by decide
    unfold ruleS
    simp only [ByteArray.size_append]
    omega
  unfold patsL rulesL at hx
  simp only [List.mem_append, List.mem_map] at hx
  rcases hx with (hx | ⟨j, _, rfl⟩) | ⟨j, _, rfl⟩
  · revert x; decide
  · exact (key _ _).1
  · exact (key _ _).2

end Go.Proofs.YtjfkfiffakbagaaGreatDoor

/-
  The walk over the document's Read.
-/
namespace Go.Proofs.YtjfkfiffakbagaaGreatDoor
open Go.RowKit

theorem words_small (s : ByteArray) : ∀ x ∈ Txt.wordsS s, x.size ≤ s.size := by
  intro x hx
  unfold Txt.wordsS at hx
  simp only [List.mem_map] at hx
  obtain ⟨y, _, rfl⟩ := hx
  have : (s.extract y.1 y.2).size = min y.2 s.size - y.1 := ByteArray.size_extract ..
  omega
theorem words_len (s : ByteArray) : (Txt.wordsS s).length ≤ s.size + 1 := by
  rw [Txt.words_end, List.length_append]
  have := Txt.acc_len s s.size
  split <;> simp <;> omega

/-- A row of words, however it lies. -/
structure Row (w : World) (a : Option Addr) (g : Nat) (xs : List ByteArray) : Prop where
  at_ : 0 < xs.length → a = some ⟨g, 0, none⟩
  cells : ∀ (j : Nat) (h : j < xs.length), w.cell? ⟨g, j, none⟩ = some (.string xs[j])
theorem Row.later {w wx : World} {a : Option Addr} {g : Nat} {xs : List ByteArray} (h : Row w a g xs) (hb : Below w.heap.size w wx) : Row wx a g xs :=
  ⟨h.at_, fun j hj => cell_later hb (h.cells j hj)⟩
theorem row_of_own {w : World} {base n : Nat} {v : Value} {xs : List ByteArray} (h : w.ownsRow base 9 1 v n (xs.map Value.string)) (hn : n = xs.length) : ∃ a cap g, v = .slice a xs.length cap ∧ Row w a g xs := by
  subst hn
  by_cases h0 : 0 < xs.length
  · obtain ⟨g, cap, hv, _, _, hc⟩ := own_form h h0
    refine ⟨some ⟨g, 0, none⟩, cap, g, hv, fun _ => rfl, fun j hj => ?_⟩
    have := hc j (.string xs[j]) (by simp [hj])
    have ha : Addr.add ⟨g, 0, none⟩ j = ⟨g, j, none⟩ := by
      unfold Addr.add; split
      · subst_vars; rfl
      · simp
    rwa [ha] at this
  · rcases h.2 with ⟨hv, h1⟩ | ⟨g, cap, cur, hv, _⟩
    · exact ⟨none, 0, 0, by rw [hv, h1], fun h => absurd h h0, fun j hj => absurd hj (by omega)⟩
    · exact ⟨_, cap, g, hv, fun h => absurd h h0, fun j hj => absurd hj (by omega)⟩

def boN : Value → Nat
  | .bool true => 1
  | _ => 0

theorem scan_step {s : ByteArray} {k mm : Nat} {q : List ByteArray} (hk : k < patsL.length) (hq : q = Txt.wordsS patsL[k]) (h : scanS s = scan (patsW.drop k) (Txt.wordsS s) mm) :
    scanS s = if pre q (Txt.wordsS s) = q.length ∧ pre q (Txt.wordsS s) = (Txt.wordsS s).length then (some q, 0) else scan (patsW.drop (k + 1)) (Txt.wordsS s) (if mm < pre q (Txt.wordsS s) then pre q (Txt.wordsS s) else mm) := by
  have hl : k < patsW.length := by unfold patsW; simpa using hk
  rw [h, List.drop_eq_getElem_cons hl]
  have e : patsW[k] = q := by rw [hq]; exact List.getElem_map ..
  rw [e, scan]
theorem scan_end {s : ByteArray} {k mm : Nat} (hk : 25 ≤ k) (h : scanS s = scan (patsW.drop k) (Txt.wordsS s) mm) : scanS s = (none, mm) := by
  rw [h, List.drop_of_length_le (by rw [patsW_len]; exact hk)]; rfl

/-- What Read answers: the words and the pattern that they make; or the place of the first word that can't stand. -/
def RR (s : ByteArray) (w' : World) (e : Ending) : Prop :=
  (∃ (p : List ByteArray) (a b : Option Addr) (c d g h : Nat), scanS s = (some p, 0) ∧ e = .returned (.tuple #[.slice a (Txt.wordsS s).length c, .slice b p.length d, .int .i64 0, .int .i64 0]) ∧ Row w' a g (Txt.wordsS s) ∧ Row w' b h p) ∨
  (∃ m : Nat, scanS s = (none, m) ∧ e = .returned (.tuple #[.slice none 0 0, .slice none 0 0, .int .i64 2, .int .i64 m]))

set_option maxRecDepth 100000 in
set_option maxHeartbeats 2000000 in
theorem refRead_any (s : ByteArray) (w : World) (hs : s.size ≤ 160) :
    Calls Tryz.prog 78 #[.string s] w fun e w' => RR s w' e ∧ Below w.heap.size w w' := by
  have hwl := words_len s
  have hs2 : (s.size : Int) ≤ 160 := by omega
  go_enter Tryz.func78, Tryz.ntmps78
  go_wp2_with fail
  refine (words_any s w hs).mono ?_
  rintro e w1 ⟨v1, rfl, o1, b1⟩
  obtain ⟨aw, cw, gw, rfl, rw1⟩ := row_of_own o1 rfl
  go_wp2_with fail
  refine (patterns_any w1).mono ?_
  rintro e w2 ⟨v2, rfl, o2, b2⟩
  obtain ⟨ap, cp, gp, rfl, rp2⟩ := row_of_own o2 (by decide)
  have rw2 := rw1.later b2
  have hB2 := b1.trans (b2.mono b1.size)
  clear o1 o2 rw1 b1 b2
  obtain rfl := rp2.at_ (by decide)
  rw [show patsL.length = 25 from by decide]
  go_wp2
  go_loopw [8, 9, 10, 11, 12] (fun m i _ _ _ wx => ∃ k mm : Nat, k ≤ 25 ∧ mm ≤ 161 ∧ i = .int .i64 k ∧ m = .int .i64 mm ∧ scanS s = scan (patsW.drop k) (Txt.wordsS s) mm ∧ Row wx aw gw (Txt.wordsS s) ∧ Row wx (some ⟨gp, 0, none⟩) gp patsL ∧ Below w.heap.size w wx) (fun _ i _ _ _ _ => 25 - (intOf i).toNat)
  case atStart => exact ⟨0, 0, by omega, by omega, rfl, rfl, rfl, rw2, rp2, hB2⟩
  case round =>
    obtain ⟨k, mm, hk, hmm, rfl, rfl, hsc, rw, rp, hnx⟩ := hrel
    have HSC := hide hsc
    clear hsc rw2 rp2 hB2
    by_cases hlt : k < 25
    · have hi : (k : Int) < 25 := by omega
      have hpl : k < patsL.length := by rw [show patsL.length = 25 from by decide]; exact hlt
      have hc := rp.cells k hpl
      go_wp2_with fail
      refine (words_any _ _ (pats_small _ (List.getElem_mem hpl))).mono ?_
      rintro e w3 ⟨v3, rfl, o3, b3⟩
      obtain ⟨ax, cx, gx, rfl, rx⟩ := row_of_own o3 rfl
      have rw3 := rw.later b3
      have rp3 := rp.later b3
      have hnx3 := hnx.trans (b3.mono hnx.size)
      obtain ⟨q, hq⟩ : ∃ q, q = Txt.wordsS patsL[k] := ⟨_, rfl⟩
      rw [← hq] at rx ⊢
      have HQ := hide hq
      have hql : q.length ≤ 161 := by rw [hq]; have := words_len patsL[k]; have := pats_small _ (List.getElem_mem hpl); omega
      clear hq o3 rw rp hnx b3 hc
      go_wp2
      go_loopw [11, 12] (fun n mo wx => ∃ (n' : Nat) (mo' : Bool), n = .int .i64 n' ∧ mo = .bool mo' ∧ n' ≤ pre q (Txt.wordsS s) ∧ (mo' = false → n' = pre q (Txt.wordsS s)) ∧ Row wx aw gw (Txt.wordsS s) ∧ Row wx (some ⟨gp, 0, none⟩) gp patsL ∧ Row wx ax gx q ∧ Below w.heap.size w wx) (fun n mo _ => boN mo + (q.length - (intOf n).toNat))
      case atStart => exact ⟨0, true, rfl, rfl, Nat.zero_le _, fun h => absurd h (by decide), rw3, rp3, rx, hnx3⟩
      case round =>
        obtain ⟨n', mo', rfl, rfl, hn, hmo, rwr, rpr, rxr, hbx⟩ := hrel
        have hpl2 := pre_le q (Txt.wordsS s)
        have hcase : (mo' = true ∧ n' < q.length ∧ n' < (Txt.wordsS s).length) ∨ mo' = false ∨ (mo' = true ∧ ¬ n' < q.length) ∨ (mo' = true ∧ n' < q.length ∧ ¬ n' < (Txt.wordsS s).length) := by
          cases mo'
          · simp
          · simp; omega
        have HMO := hide hmo
        clear hmo rw3 rp3 rx hnx3
        rcases hcase with ⟨rfl, h1, h2⟩ | hex
        · obtain rfl := rxr.at_ (by omega)
          obtain rfl := rwr.at_ (by omega)
          have c1 := rxr.cells n' h1
          have c2 := rwr.cells n' h2
          have j1 : (n' : Int) < (q.length : Int) := by omega
          have j2 : (n' : Int) < ((Txt.wordsS s).length : Int) := by omega
          have j0 : (0 : Int) ≤ (n' : Int) := Int.natCast_nonneg _
          have hsm : (Txt.wordsS s)[n'].size ≤ 160 := Nat.le_trans (words_small s _ (List.getElem_mem h2)) hs
          have HSM := hide hsm
          clear hsm
          go_wp2_with fail
          go_region_held3 (fun w' => w'.cell? ⟨gx, n', none⟩ = some (.string q[n']) ∧ w'.cell? ⟨gw, n', none⟩ = some (.string (Txt.wordsS s)[n']))
            (first
              | go_keep
              | (go_split_ands
                 refine ⟨?_, ?_⟩
                 · exact cell_later hbf (by assumption)
                 · exact cell_later hbf (by assumption)))
            ((go_at_call 122; refine (fits_any _ _ _ (unhide HSM)).mono ?_; rintro e w4 ⟨rfl, hbf⟩))
          have hbf' : Below wr.heap.size wr w4 := ⟨hbf.os, hbf.tape, hbf.output, hbf.size, hbf.block⟩
          have hbx4 := hbx.trans (hbf'.mono hbx.size)
          have rw4 := rwr.later hbf'
          have rp4 := rpr.later hbf'
          have rx4 := rxr.later hbf'
          cases hf : fitsB q[n'] (Txt.wordsS s)[n']
          · have HP := hide (pre_done h1 h2 hn hf)
            go_wp2
            exact ⟨⟨n', false, rfl, rfl, hn, fun _ => unhide HP, rw4, rp4, rx4, hbx4⟩, by simp [boN, intOf]⟩
          · have HP := hide (pre_more h1 h2 hn hf)
            go_wp2
            exact ⟨⟨n' + 1, true, by go_num, rfl, unhide HP, fun h => absurd h (by decide), rw4, rp4, rx4, hbx4⟩, by simp [boN, intOf]; omega⟩
        · have hpn : n' = pre q (Txt.wordsS s) := by
            rcases hex with h | ⟨_, h⟩ | ⟨_, _, h⟩
            · exact unhide HMO h
            · omega
            · omega
          have HST := hide (scan_step hpl (unhide HQ) (unhide HSC))
          rw [← hpn] at HST
          clear hpn
          by_cases hfull : n' = q.length ∧ n' = (Txt.wordsS s).length
          · obtain ⟨f1, f2⟩ := hfull
            have HR : Hid (scanS s = (some q, 0)) := (unhide HST).trans (if_pos ⟨f1, f2⟩)
            have g1 : ((n' : Int) == (q.length : Int)) = true := beq_iff_eq.2 (by omega)
            have g2 : ((n' : Int) == ((Txt.wordsS s).length : Int)) = true := beq_iff_eq.2 (by omega)
            have F1 := hide f1
            have F2 := hide f2
            clear f1 f2
            rcases hex with rfl | ⟨rfl, hx⟩ | ⟨rfl, hx, hy⟩
            all_goals
              go_wp2
              (try simp only [Exit.inBlock, Exit.then]); refine bodyPost_ret (results_tmp4 rfl _ _ _) rfl ?_
              exact ⟨.inl ⟨q, aw, ax, cw, cx, gw, gx, HR.out, rfl, rwr, rxr⟩, hbx⟩
          · have HR : Hid (scanS s = scan (patsW.drop (k + 1)) (Txt.wordsS s) (if mm < n' then n' else mm)) := (unhide HST).trans (if_neg hfull)
            have hg : ((n' : Int) == (q.length : Int)) = false ∨ (((n' : Int) == (q.length : Int)) = true ∧ ((n' : Int) == ((Txt.wordsS s).length : Int)) = false) := by
              by_cases e : n' = q.length
              · right; exact ⟨beq_iff_eq.2 (by omega), beq_eq_false_iff_ne.2 (by omega)⟩
              · left; exact beq_eq_false_iff_ne.2 (by omega)
            clear hfull
            have hmx : mm < n' ∨ ¬ mm < n' := by omega
            rcases hex with rfl | ⟨rfl, hx⟩ | ⟨rfl, hx, hy⟩
            all_goals rcases hg with g1 | ⟨g1, g2⟩
            all_goals rcases hmx with hm | hm
            all_goals
              go_wp2
              first
                | exact ⟨⟨k + 1, n', by omega, by omega, by go_num, rfl, HR.out.trans (by rw [if_pos hm]), rwr, rpr, hbx⟩, by simp [intOf]; omega⟩
                | exact ⟨⟨k + 1, mm, by omega, by omega, by go_num, rfl, HR.out.trans (by rw [if_neg hm]), rwr, rpr, hbx⟩, by simp [intOf]; omega⟩
    · have HE := hide (scan_end (by omega) (unhide HSC))
      go_wp2
      (try simp only [Exit.inBlock, Exit.then]); refine bodyPost_ret (results_tmp4 rfl _ _ _) rfl ?_
      exact ⟨.inr ⟨mm, unhide HE, rfl⟩, hnx⟩

end Go.Proofs.YtjfkfiffakbagaaGreatDoor

/-
  The walk over the program's Read.
-/
namespace Go.Proofs.YtjfkfiffakbagaaGreatDoor
open Go.RowKit

/-- What Read answers. -/
inductive ReadR (s : ByteArray) : Ending → Prop where
  | long (h : 160 < s.size) : ReadR s (.returned (.tuple #[.nilIface, .int .i64 1, .int .i64 0]))
  | bad (h : s.size ≤ 160) (v : Value) (st : Nat × Bool) (hl : LineR (Txt.wordsS s) v st) (hb : st.2 = true ∨ moreB (Txt.wordsS s).length st.1 st.2 = true) : ReadR s (.returned (.tuple #[.nilIface, .int .i64 2, .int .i64 st.1]))
  | good (h : s.size ≤ 160) (v : Value) (st : Nat × Bool) (hl : LineR (Txt.wordsS s) v st) (h2 : st.2 = false) (hb : moreB (Txt.wordsS s).length st.1 st.2 = false) : ReadR s (.returned (.tuple #[v, .int .i64 0, .int .i64 0]))

theorem acc_len2 (s : ByteArray) : ∀ k : Nat, k ≤ s.size → (Txt.accS s k).length + (if (Txt.curS s k).size = 0 then 0 else 1) ≤ k
  | 0, _ => by
    have := Txt.acc_len s 0
    have := Txt.cur_size s 0
    rw [if_pos (by omega)]; omega
  | k + 1, hk => by
    have ih := acc_len2 s k (by omega)
    by_cases hb : Txt.byteAt s k = 32
    · obtain ⟨h1, h2⟩ := Txt.cur_blank s k (by omega) hb
      have e : (if (⟨#[]⟩ : ByteArray).size = 0 then (0 : Nat) else 1) = 0 := if_pos rfl
      rw [h1, h2, e, List.length_append]
      by_cases hc : (Txt.curS s k).size = 0
      · rw [if_pos hc] at ih ⊢; simp; omega
      · rw [if_neg hc] at ih ⊢; simp; omega
    · obtain ⟨_, h2⟩ := Txt.cur_next s k hb
      rw [h2]
      split at ih <;> split <;> omega
theorem words_len2 (s : ByteArray) : (Txt.wordsS s).length ≤ s.size := by
  have := acc_len2 s s.size (Nat.le_refl _)
  rw [Txt.words_end, List.length_append]
  split <;> rename_i hc <;> simp [hc] at this ⊢ <;> omega

theorem own_cells {w : World} {base g n cap : Nat} {xs : List ByteArray} (h : w.ownsRow base 9 1 (.slice (some ⟨g, 0, none⟩) n cap) n (xs.map Value.string)) : g < w.heap.size ∧ ∀ (i : Nat) (hi : i < xs.length), w.cell? ⟨g, i, none⟩ = some (.string xs[i]) := by
  rcases h.2 with ⟨h0, _⟩ | ⟨g', cap', cur, hv, hg, hh, hc, _, hs, ht⟩
  · cases h0
  · cases hv
    have hl : g < w.heap.size := by
      by_cases hl : g < w.heap.size
      · exact hl
      · rw [Array.getElem?_eq_none (by omega)] at hh; cases hh
    refine ⟨hl, fun i hi => ?_⟩
    have h1 := h.1
    have hlen : (xs.map Value.string).length = xs.length := by simp
    have hcur : cur[i]? = some (.string xs[i]) := by
      have hx : (xs.map Value.string)[i]? = some (.string xs[i]) := by simp [hi]
      rw [← ht, List.getElem?_take, if_pos (by omega)] at hx
      simpa using hx
    simp [World.cell?, hh, hcur]

set_option maxRecDepth 100000 in
set_option maxHeartbeats 1000000 in
theorem read_any (s : ByteArray) (w : World) (he : Env w) :
    Calls Tryz.prog 42 #[.string s] w fun e w' => ReadR s e ∧ Below w.heap.size w w' := by
  have HE := hide he
  have h10 := he.size
  clear he
  by_cases hs : s.size ≤ 160
  · have hs2 : (s.size : Int) ≤ 160 := by omega
    go_enter Tryz.func42, Tryz.ntmps42
    go_wp2_with fail
    refine (split_any s w hs).mono ?_
    rintro e w1 ⟨A, rfl, hA, ho, hb⟩
    obtain ⟨hAl, hrow⟩ := own_cells ho
    have hwl := words_len2 s
    have hsm := words_small s
    obtain ⟨ws, hws⟩ : ∃ ws, ws = Txt.wordsS s := ⟨_, rfl⟩
    have HWS := hide hws
    rw [← hws] at hrow hwl hsm ⊢
    clear hws ho
    have HROW := hide hrow
    have HSM := hide hsm
    clear hrow hsm
    go_wp2_with fail
    obtain ⟨X, hX⟩ : ∃ X, X = w1.alloc (.cells #[.slice (some ⟨A, 0, none⟩) ws.length ws.length, .int .i64 0, .bool false] 121) := ⟨_, rfl⟩
    rw [← hX]
    have hbX : Below w1.heap.size w1 X := by rw [hX]; exact (Below.refl _ _).alloc (Nat.le_refl _) _
    have hrs : RS X w1.heap.size A ws 0 false := by
      refine ⟨?_, ?_, ?_, ?_, ?_, by omega, fun i hi => cell_later hbX (unhide HROW i hi), by omega, Nat.zero_le _, fun x hx => Nat.le_trans (unhide HSM x hx) hs⟩ <;> (rw [hX]; simp)
    clear hX
    have eX := ((unhide HE).later hb).later hbX
    have hz1 := hb.size
    refine (rline_any w1.heap.size A ws X hrs eX (by omega)).mono ?_
    rintro e w2 ⟨v, st, rfl, hl, h2, k2⟩
    have c1 := h2.c1
    have c2 := h2.c2
    have HL := hide hl
    have hbW : Below w.heap.size w w2 := (hb.trans (hbX.mono hz1)).trans (k2.below hz1 (Nat.le_trans hz1 hbX.size))
    have hnx := h2.nxle
    clear hl eX hrs hbX
    obtain ⟨nx, wr⟩ := st
    dsimp only at c1 c2 h2 hnx
    have hmo : moreB ws.length nx wr = false ∨ moreB ws.length nx wr = true := by cases moreB ws.length nx wr <;> simp
    cases wr
    · rcases hmo with hmo | hmo
      · have HM := hide hmo
        go_wp2_with fail
        refine (more_any w1.heap.size A ws nx false w2 h2).mono ?_
        rintro e w3 ⟨rfl, n, hw3⟩
        have hb3 : Below w.heap.size w w3 := by rw [hw3]; exact ⟨hbW.os, hbW.tape, hbW.output, hbW.size, hbW.block⟩
        clear hw3 h2
        rw [hmo]
        go_wp2
        go_ret3
        have hws := HWS.out
        subst hws
        exact ⟨.good hs v (nx, false) HL.out rfl HM.out, hb3⟩
      · have HM := hide hmo
        go_wp2_with fail
        refine (more_any w1.heap.size A ws nx false w2 h2).mono ?_
        rintro e w3 ⟨rfl, n, hw3⟩
        have hb3 : Below w.heap.size w w3 := by rw [hw3]; exact ⟨hbW.os, hbW.tape, hbW.output, hbW.size, hbW.block⟩
        have d1 : w3.cell? ⟨w1.heap.size, 1, none⟩ = some (.int .i64 nx) := by rw [hw3]; exact c1
        clear hw3 h2 c1 c2
        rw [hmo]
        go_wp2
        go_quiet (fail)
        go_wp2
        go_ret3
        have hws := HWS.out
        subst hws
        exact ⟨.bad hs v (nx, false) HL.out (.inr HM.out), ⟨hb3.os, hb3.tape, hb3.output, hb3.size, hb3.block⟩⟩
    · clear h2 hmo
      go_wp2
      go_quiet (fail)
      go_wp2
      go_ret3
      have hws := HWS.out
      subst hws
      exact ⟨.bad hs v (nx, true) HL.out (.inl rfl), ⟨hbW.os, hbW.tape, hbW.output, hbW.size, hbW.block⟩⟩
  · have hs2 : ¬ (s.size : Int) ≤ 160 := by omega
    go_enter Tryz.func42, Tryz.ntmps42
    go_wp2
    go_ret3
    exact ⟨.long (by omega), Below.refl _ _⟩

end Go.Proofs.YtjfkfiffakbagaaGreatDoor
