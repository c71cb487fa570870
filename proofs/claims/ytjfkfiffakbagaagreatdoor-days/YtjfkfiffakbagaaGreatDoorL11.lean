/-
  Parts of the proof, one behind the other: WordWalks, RefWords, TimeWalks, SplitWalks, OnWalks, OnRef, OnProg, TakeMore, TakeName.
-/
import Derived.Test.YtjfkfiffakbagaaGreatDoorL10
import Derived.Test.YtjfkfiffakbagaaGreatDoorShelf
import Derived.Lib.SmallJoins
import Derived.Deep.RegionHeld3
import Derived.Deep.AppendLies
/-
  The walks over the readers of names, dates and times of package lines, and over those of package bookingsref.
-/
namespace Go.Proofs.YtjfkfiffakbagaaGreatDoor
open Go.RowKit

/-- What the package variables hold that the road passes. -/
structure Env (w : World) : Prop where
  tab : Tab w
  maxl : ∃ m, w.cell? ⟨7, 0, none⟩ = some (.int .i64 m)
  pow : Lib.TabIs Tryz.prog w "internal/strconv.uint64pow10" .u64 Lib.pow10Tab
  size : 10 ≤ w.heap.size
  mo : w.cell? ⟨2, 0, none⟩ = some (.string ⟨#[109, 111]⟩)
  tu : w.cell? ⟨2, 1, none⟩ = some (.string ⟨#[116, 117]⟩)
  we : w.cell? ⟨2, 2, none⟩ = some (.string ⟨#[119, 101]⟩)
  th : w.cell? ⟨2, 3, none⟩ = some (.string ⟨#[116, 104]⟩)
  fr : w.cell? ⟨2, 4, none⟩ = some (.string ⟨#[102, 114]⟩)
  sa : w.cell? ⟨2, 5, none⟩ = some (.string ⟨#[115, 97]⟩)
  su : w.cell? ⟨2, 6, none⟩ = some (.string ⟨#[115, 117]⟩)

theorem gPow : Tryz.prog.globalNamed "internal/strconv.uint64pow10" = some 1 := by kernel_rfl
theorem Env.later {w wx : World} (h : Env w) (hb : Below w.heap.size w wx) : Env wx := by
  obtain ⟨m, hm⟩ := h.maxl
  refine ⟨h.tab.later hb, ⟨m, cell_later hb hm⟩, ?_, Nat.le_trans h.size hb.size, cell_later hb h.mo, cell_later hb h.tu, cell_later hb h.we, cell_later hb h.th, cell_later hb h.fr, cell_later hb h.sa, cell_later hb h.su⟩
  have hp := h.pow
  have hz := h.size
  unfold Lib.TabIs World.var? at hp ⊢
  simp only [gPow, Option.bind_some] at hp ⊢
  rw [hb.block 1 (by omega)]
  exact hp
theorem Env.drewN {w : World} (h : Env w) (n : Nat) : Env (w.drewN n) := h.later (w := w) (wx := w.drewN n) ⟨rfl, rfl, rfl, Nat.le_refl _, fun _ _ => rfl⟩

theorem ret2_sb {a b : ByteArray} {c d : Bool} (h : a = b) (g : c = d) : Ending.returned (.tuple #[.string a, .bool c]) = .returned (.tuple #[.string b, .bool d]) := by rw [h, g]

set_option maxHeartbeats 400000 in
theorem clone_any (s : ByteArray) (w : World) (hs : s.size ≤ 281474976710656) :
    Calls Tryz.prog 139 #[.string s] w fun e w' => e = .returned (.string s) ∧ Below w.heap.size w w' := by
  go_enter Tryz.func139, Tryz.ntmps139
  go_wp2_with fail
  refine (Tryz.stringslite_Clone s w hs).mono ?_
  rintro e w' ⟨rfl, hb⟩
  go_wp2
  go_ret
  exact ⟨rfl, hb⟩

/-- What readName hands back beside its answer. -/
def nameV (s : ByteArray) : ByteArray := if Txt.isName s.data.toList then s else ⟨#[]⟩

set_option maxHeartbeats 1000000 in
theorem readName_any (s : ByteArray) (w : World) (hs : s.size ≤ 160) :
    Calls Tryz.prog 128 #[.string s] w fun e w' => e = .returned (.tuple #[.string (nameV s), .bool (Txt.isName s.data.toList)]) ∧ Below w.heap.size w w' := by
  by_cases h0 : s.size = 0
  · have H : Hid (Txt.isName s.data.toList = false) := Txt.isName_len (by rw [Txt.len_list]; omega)
    have h1 : ((s.size : Int) == 0) = true := beq_iff_eq.2 (by omega)
    go_enter Tryz.func128, Tryz.ntmps128
    go_wp2
    go_ret2
    exact ⟨ret2_sb (by simp [nameV, H.out]) (by rw [H.out]), Below.refl _ _⟩
  · have h1 : ((s.size : Int) == 0) = false := beq_eq_false_iff_ne.2 (by omega)
    by_cases h7 : 8 < s.size
    · have H : Hid (Txt.isName s.data.toList = false) := Txt.isName_len (by rw [Txt.len_list]; omega)
      clear h0
      go_enter Tryz.func128, Tryz.ntmps128
      go_wp2
      go_ret2
      exact ⟨ret2_sb (by simp [nameV, H.out]) (by rw [H.out]), Below.refl _ _⟩
    · go_enter Tryz.func128, Tryz.ntmps128
      go_wp2
      go_loop [4] (fun i => ∃ k : Nat, k ≤ s.size ∧ i = .int .i64 k ∧ Txt.lows (s.data.toList.take k) = true) (fun i => s.size - (intOf i).toNat)
      case atStart => exact ⟨0, Nat.zero_le _, rfl, rfl⟩
      case round =>
        obtain ⟨k, hk, rfl, hd⟩ := hrel
        have HD := hide hd
        clear hd
        by_cases hlt : k < s.size
        · have HT : Hid (s.data.toList.take (k + 1) = s.data.toList.take k ++ [s[k]]) := Txt.take_snoc s k hlt
          by_cases hc : Txt.low s[k] = true
          · have hc' := (Txt.low_iff _).1 hc
            have HC := hide hc
            obtain ⟨hc1, hc2⟩ := hc'
            clear hc
            go_wp2
            go_round
            case rel => exact ⟨k + 1, by omega, by go_num, by rw [HT.out, Txt.lows_snoc, HD.out, HC.out]; rfl⟩
            case measure => simp [intOf]; omega
          · have HC : Hid (Txt.isName s.data.toList = false) := Txt.isName_low (Txt.lows_of_take _ (k + 1) (by rw [HT.out, Txt.lows_snoc, HD.out]; simpa using hc))
            have hc' : (s[k].toNat : Int) < 97 ∨ (¬ (s[k].toNat : Int) < 97 ∧ 122 < (s[k].toNat : Int)) := by
              have := mt (Txt.low_iff s[k]).2 hc; omega
            clear hc
            rcases hc' with hc' | ⟨hc', hc''⟩
            all_goals
              go_wp2
              go_ret2
              exact ⟨ret2_sb (by simp [nameV, HC.out]) (by rw [HC.out]), Below.refl _ _⟩
        · have HA : Hid (s.data.toList.take k = s.data.toList) := Txt.take_all s k (by omega)
          have HN : Hid (Txt.isName s.data.toList = true) := Txt.isName_true (by rw [Txt.len_list]; omega) (by rw [Txt.len_list]; omega) (by rw [← HA.out]; exact HD.out)
          go_wp2_with fail
          refine (clone_any s w (by omega)).mono ?_
          rintro e w' ⟨rfl, hb⟩
          go_wp2
          go_ret2
          exact ⟨ret2_sb (by simp [nameV, HN.out]) (by rw [HN.out]), hb⟩

end Go.Proofs.YtjfkfiffakbagaaGreatDoor


/-
  The walks over the readers of minutes, dates and times of package bookingsref, and over those of dates and times of package lines.
-/
namespace Go.Proofs.YtjfkfiffakbagaaGreatDoor
open Go.RowKit

theorem dayB_and (s : ByteArray) : Txt.dayB s = (Txt.dateB s && decide (0 ≤ Txt.dateV s) && decide (Txt.dateV s < 728)) := by
  rw [Bool.eq_iff_iff]; simp [Txt.dayB, and_assoc]
def dayV (s : ByteArray) : Int := if Txt.dayB s then Txt.dateV s else 0

set_option maxHeartbeats 1000000 in
theorem readDate_any (s : ByteArray) (w : World) (ht : Tab w) (hm : s.size ≤ 160) :
    Calls Tryz.prog 133 #[.string s] w fun e w' => e = .returned (.tuple #[.int .i64 (dayV s), .bool (Txt.dayB s)]) ∧ w' = w := by
  have hm' : s.size ≤ maxLen := by unfold maxLen; omega
  have HD := hide (dayB_and s)
  cases hb : Txt.dateB s
  · go_enter Tryz.func133, Tryz.ntmps133
    go_wp2_with fail
    refine (readAnyDate_any s w ht hm').mono ?_
    rintro e w' ⟨rfl, rfl⟩
    go_wp2
    go_ret2
    exact ⟨ret2_ib (by simp [dayV, unhide HD, hb]) (by simp [unhide HD, hb]), rfl⟩
  · have hcase : Txt.dateV s < 0 ∨ (¬ Txt.dateV s < 0 ∧ 728 ≤ Txt.dateV s) ∨ (¬ Txt.dateV s < 0 ∧ ¬ 728 ≤ Txt.dateV s) := by omega
    rcases hcase with g | ⟨g, g'⟩ | ⟨g, g'⟩
    all_goals
      have HB : Hid (Txt.dayB s = (decide (0 ≤ Txt.dateV s) && decide (Txt.dateV s < 728))) := (unhide HD).trans (by rw [hb]; rfl)
      go_enter Tryz.func133, Tryz.ntmps133
      go_wp2_with fail
      refine (readAnyDate_any s w ht hm').mono ?_
      rintro e w' ⟨rfl, rfl⟩
      go_wp2
      go_ret2
      refine ⟨ret2_ib ?_ ?_, rfl⟩
    · rw [dayV, HB.out, decide_eq_false (by omega)]; rfl
    · rw [HB.out, decide_eq_false (by omega)]; rfl
    · rw [dayV, HB.out, decide_eq_false (p := Txt.dateV s < 728) (by omega), Bool.and_false]; rfl
    · rw [HB.out, decide_eq_false (p := Txt.dateV s < 728) (by omega), Bool.and_false]
    · rw [dayV, HB.out, decide_eq_true (p := Txt.dateV s < 728) (by omega), decide_eq_true (p := 0 ≤ Txt.dateV s) (by omega)]; rfl
    · rw [HB.out, decide_eq_true (p := Txt.dateV s < 728) (by omega), decide_eq_true (p := 0 ≤ Txt.dateV s) (by omega)]; rfl

end Go.Proofs.YtjfkfiffakbagaaGreatDoor


/-
  The walks over the readers of times, both sides.
-/
namespace Go.Proofs.YtjfkfiffakbagaaGreatDoor
open Go.RowKit

/-- TIME -/
def timeV (s : ByteArray) : Int := if Txt.isNum s.data.toList then Txt.numV s.data.toList else Txt.dmV s
def timeB (s : ByteArray) : Bool := (Txt.isNum s.data.toList || Txt.dmB s) && decide (0 ≤ timeV s ∧ timeV s ≤ 1048320)
def timW (s : ByteArray) : Int := if timeB s then timeV s else 0
theorem cutA_size (s : ByteArray) (h : s.size ≤ 160) : (Txt.cutA s).size ≤ 160 := by
  rw [← Txt.len_list]; unfold Txt.cutA Lib.cut
  have := Txt.len_list s
  split <;> simp <;> omega
theorem cutB_size (s : ByteArray) (h : s.size ≤ 160) : (Txt.cutB s).size ≤ 160 := by
  rw [← Txt.len_list]; unfold Txt.cutB Lib.cut
  have := Txt.len_list s
  split <;> simp <;> omega

set_option maxHeartbeats 1000000 in
theorem readDayAndMinute_any (s : ByteArray) (w : World) (he : Env w) (hm : s.size ≤ 160) :
    Calls Tryz.prog 188 #[.string s] w fun e w' => e = .returned (.tuple #[.int .i64 (Txt.dmV s), .bool (Txt.dmB s)]) ∧ ∃ n, w' = w.drewN n := by
  obtain ⟨m, hmx⟩ := he.maxl
  have HE := hide he
  have HC := hide (Txt.cut_dm s)
  have b1 := Txt.dateV_bd (Txt.cutA s)
  have b2 := Txt.minV_bd (Txt.cutB s)
  have hA : (Txt.cutA s).size ≤ maxLen := by have := cutA_size s hm; unfold maxLen; omega
  have hB : (Txt.cutB s).size ≤ maxLen := by have := cutB_size s hm; unfold maxLen; omega
  have HA := hide hA
  have HB := hide hB
  clear he hA hB
  cases hf : Txt.cutF s
  · have HD : Hid (Txt.dmB s = false) := by show Txt.dmB s = false; rw [← (unhide HC).1, hf]; rfl
    go_enter Tryz.func188, Tryz.ntmps188
    go_wp2_with fail
    refine (Tryz.strings_Cut s ⟨#[47]⟩ m w (by omega) hmx).mono ?_
    rintro e w1 ⟨rfl, n, rfl⟩
    rw [show (Lib.cut s.data.toList (ByteArray.mk #[47]).data.toList).snd.snd = Txt.cutF s from rfl]
    go_wp2
    go_ret2
    exact ⟨ret2_ib (by simp [Txt.dmV, HD.out]) (by rw [HD.out]), _, rfl⟩
  · cases hd : Txt.dateB (Txt.cutA s)
    · have HD : Hid (Txt.dmB s = false) := by show Txt.dmB s = false; rw [← (unhide HC).1, hf, hd]; rfl
      go_enter Tryz.func188, Tryz.ntmps188
      go_wp2_with fail
      refine (Tryz.strings_Cut s ⟨#[47]⟩ m w (by omega) hmx).mono ?_
      rintro e w1 ⟨rfl, n, rfl⟩
      rw [show (Lib.cut s.data.toList (ByteArray.mk #[47]).data.toList).snd.snd = Txt.cutF s from rfl, show (ByteArray.mk (Lib.cut s.data.toList (ByteArray.mk #[47]).data.toList).fst.toArray) = Txt.cutA s from rfl, show (ByteArray.mk (Lib.cut s.data.toList (ByteArray.mk #[47]).data.toList).snd.fst.toArray) = Txt.cutB s from rfl]
      go_wp2_with fail
      refine (readAnyDate_any (Txt.cutA s) _ ((unhide HE).drewN n).tab (unhide HA)).mono ?_
      rintro e w1 ⟨rfl, rfl⟩
      go_wp2_with fail
      refine (readMinute_any (Txt.cutB s) _ (unhide HB)).mono ?_
      rintro e w1 ⟨rfl, rfl⟩
      go_wp2
      go_ret2
      exact ⟨ret2_ib (by simp [Txt.dmV, HD.out]) (by rw [HD.out]), _, rfl⟩
    · cases hn : Txt.minB (Txt.cutB s)
      · have HD : Hid (Txt.dmB s = false) := by show Txt.dmB s = false; rw [← (unhide HC).1, hf, hd, hn]; rfl
        go_enter Tryz.func188, Tryz.ntmps188
        go_wp2_with fail
        refine (Tryz.strings_Cut s ⟨#[47]⟩ m w (by omega) hmx).mono ?_
        rintro e w1 ⟨rfl, n, rfl⟩
        rw [show (Lib.cut s.data.toList (ByteArray.mk #[47]).data.toList).snd.snd = Txt.cutF s from rfl, show (ByteArray.mk (Lib.cut s.data.toList (ByteArray.mk #[47]).data.toList).fst.toArray) = Txt.cutA s from rfl, show (ByteArray.mk (Lib.cut s.data.toList (ByteArray.mk #[47]).data.toList).snd.fst.toArray) = Txt.cutB s from rfl]
        go_wp2_with fail
        refine (readAnyDate_any (Txt.cutA s) _ ((unhide HE).drewN n).tab (unhide HA)).mono ?_
        rintro e w1 ⟨rfl, rfl⟩
        go_wp2_with fail
        refine (readMinute_any (Txt.cutB s) _ (unhide HB)).mono ?_
        rintro e w1 ⟨rfl, rfl⟩
        go_wp2
        go_ret2
        exact ⟨ret2_ib (by simp [Txt.dmV, HD.out]) (by rw [HD.out]), _, rfl⟩
      · have HD : Hid (Txt.dmB s = true) := by show Txt.dmB s = true; rw [← (unhide HC).1, hf, hd, hn]; rfl
        have HV := hide ((unhide HC).2 HD.out)
        go_enter Tryz.func188, Tryz.ntmps188
        go_wp2_with fail
        refine (Tryz.strings_Cut s ⟨#[47]⟩ m w (by omega) hmx).mono ?_
        rintro e w1 ⟨rfl, n, rfl⟩
        rw [show (Lib.cut s.data.toList (ByteArray.mk #[47]).data.toList).snd.snd = Txt.cutF s from rfl, show (ByteArray.mk (Lib.cut s.data.toList (ByteArray.mk #[47]).data.toList).fst.toArray) = Txt.cutA s from rfl, show (ByteArray.mk (Lib.cut s.data.toList (ByteArray.mk #[47]).data.toList).snd.fst.toArray) = Txt.cutB s from rfl]
        go_wp2_with fail
        refine (readAnyDate_any (Txt.cutA s) _ ((unhide HE).drewN n).tab (unhide HA)).mono ?_
        rintro e w1 ⟨rfl, rfl⟩
        go_wp2_with fail
        refine (readMinute_any (Txt.cutB s) _ (unhide HB)).mono ?_
        rintro e w1 ⟨rfl, rfl⟩
        go_wp2
        go_ret2
        exact ⟨ret2_ib (unhide HV) (by rw [HD.out]), _, rfl⟩

theorem timeB_num {s : ByteArray} (h : Txt.isNum s.data.toList = true) : timeB s = decide (Txt.numV s.data.toList ≤ 1048320) ∧ timeV s = Txt.numV s.data.toList := by
  have b := Txt.numV_bd s.data.toList
  have e : timeV s = Txt.numV s.data.toList := by simp [timeV, h]
  refine ⟨?_, e⟩
  unfold timeB; rw [e, h, Bool.eq_iff_iff]; simp; omega
theorem timeB_dm {s : ByteArray} (h : Txt.isNum s.data.toList = false) : timeB s = (Txt.dmB s && decide (0 ≤ Txt.dmV s ∧ Txt.dmV s ≤ 1048320)) ∧ timeV s = Txt.dmV s := by
  have e : timeV s = Txt.dmV s := by simp [timeV, h]
  exact ⟨by unfold timeB; rw [e, h]; rfl, e⟩

set_option maxHeartbeats 1000000 in
theorem readTime_any (s : ByteArray) (w : World) (he : Env w) (hm : s.size ≤ 160) :
    Calls Tryz.prog 137 #[.string s] w fun e w' => e = .returned (.tuple #[.int .i64 (timW s), .bool (timeB s)]) ∧ ∃ n, w' = w.drewN n := by
  have HE := hide he
  have hm' : s.size ≤ maxLen := by unfold maxLen; omega
  clear he
  cases hn : Txt.isNum s.data.toList
  · have HT := hide (timeB_dm hn)
    cases hd : Txt.dmB s
    · have HB : Hid (timeB s = false) := by show timeB s = false; rw [(unhide HT).1, hd]; rfl
      go_enter Tryz.func137, Tryz.ntmps137
      go_wp2_with fail
      refine (readNum_any s w hm').mono ?_
      rintro e w' ⟨rfl, rfl⟩
      go_wp2_with fail
      refine (readDayAndMinute_any s _ (unhide HE) hm).mono ?_
      rintro e w1 ⟨rfl, n, rfl⟩
      go_wp2
      go_ret2
      exact ⟨ret2_ib (by simp [timW, HB.out]) (by rw [HB.out]), _, rfl⟩
    · have hcase : Txt.dmV s < 0 ∨ (¬ Txt.dmV s < 0 ∧ 1048320 < Txt.dmV s) ∨ (¬ Txt.dmV s < 0 ∧ ¬ 1048320 < Txt.dmV s) := by omega
      rcases hcase with g | ⟨g, g'⟩ | ⟨g, g'⟩
      · have HB : Hid (timeB s = false) := by show timeB s = false; rw [(unhide HT).1, hd, decide_eq_false (by omega)]; rfl
        go_enter Tryz.func137, Tryz.ntmps137
        go_wp2_with fail
        refine (readNum_any s w hm').mono ?_
        rintro e w' ⟨rfl, rfl⟩
        go_wp2_with fail
        refine (readDayAndMinute_any s _ (unhide HE) hm).mono ?_
        rintro e w1 ⟨rfl, n, rfl⟩
        go_wp2
        go_ret2
        exact ⟨ret2_ib (by simp [timW, HB.out]) (by rw [HB.out]), _, rfl⟩
      · have HB : Hid (timeB s = false) := by show timeB s = false; rw [(unhide HT).1, hd, decide_eq_false (by omega)]; rfl
        go_enter Tryz.func137, Tryz.ntmps137
        go_wp2_with fail
        refine (readNum_any s w hm').mono ?_
        rintro e w' ⟨rfl, rfl⟩
        go_wp2_with fail
        refine (readDayAndMinute_any s _ (unhide HE) hm).mono ?_
        rintro e w1 ⟨rfl, n, rfl⟩
        go_wp2
        go_ret2
        exact ⟨ret2_ib (by simp [timW, HB.out]) (by rw [HB.out]), _, rfl⟩
      · have HB : Hid (timeB s = true) := by show timeB s = true; rw [(unhide HT).1, hd, decide_eq_true (by omega)]; rfl
        have HV := hide (unhide HT).2
        go_enter Tryz.func137, Tryz.ntmps137
        go_wp2_with fail
        refine (readNum_any s w hm').mono ?_
        rintro e w' ⟨rfl, rfl⟩
        go_wp2_with fail
        refine (readDayAndMinute_any s _ (unhide HE) hm).mono ?_
        rintro e w1 ⟨rfl, n, rfl⟩
        go_wp2
        go_ret2
        exact ⟨ret2_ib (by simp [timW, HB.out, unhide HV]) (by rw [HB.out]), _, rfl⟩
  · have HT := hide (timeB_num hn)
    have b := Txt.numV_bd s.data.toList
    by_cases g : 1048320 < Txt.numV s.data.toList
    · have HB : Hid (timeB s = false) := by show timeB s = false; rw [(unhide HT).1, decide_eq_false (by omega)]
      go_enter Tryz.func137, Tryz.ntmps137
      go_wp2_with fail
      refine (readNum_any s w hm').mono ?_
      rintro e w' ⟨rfl, rfl⟩
      go_wp2
      go_ret2
      exact ⟨ret2_ib (by simp [timW, HB.out]) (by rw [HB.out]), 0, rfl⟩
    · have HB : Hid (timeB s = true) := by show timeB s = true; rw [(unhide HT).1, decide_eq_true (by omega)]
      have HV := hide (unhide HT).2
      go_enter Tryz.func137, Tryz.ntmps137
      go_wp2_with fail
      refine (readNum_any s w hm').mono ?_
      rintro e w' ⟨rfl, rfl⟩
      go_wp2
      go_ret2
      exact ⟨ret2_ib (by simp [timW, HB.out, unhide HV]) (by rw [HB.out]), 0, rfl⟩

end Go.Proofs.YtjfkfiffakbagaaGreatDoor


/-
  The walks over the splitting of a line into words, both sides.
-/
namespace Go.Proofs.YtjfkfiffakbagaaGreatDoor
open Go.RowKit

set_option maxHeartbeats 400000 in
theorem blank_any (x : Nat) (w : World) :
    Calls Tryz.prog 81 #[.int .i32 x] w fun e w' => e = .returned (.bool (x == 32)) ∧ ∃ q, w' = w.drewN q := by
  go_enter Tryz.func81, Tryz.ntmps81
  go_wp2
  go_ret
  refine ⟨ret_bool ?_, 0, rfl⟩
  rw [Bool.eq_iff_iff]; simp; omega

theorem enter_blank (args : Array Value) (w : World) : Sem.run Tryz.prog (callFunc 81 args) w = .ok (.enter 81 args) w := by kernel_rfl

set_option maxHeartbeats 400000 in
theorem split_any (s : ByteArray) (w : World) (hs : s.size ≤ 160) :
    Calls Tryz.prog 59 #[.string s] w fun e w' => ∃ A, e = .returned (.slice (some ⟨A, 0, none⟩) (Txt.wordsS s).length (Txt.wordsS s).length) ∧ w.heap.size ≤ A ∧
      w'.ownsRow w.heap.size 9 1 (.slice (some ⟨A, 0, none⟩) (Txt.wordsS s).length (Txt.wordsS s).length) (Txt.wordsS s).length ((Txt.wordsS s).map Value.string) ∧ Below w.heap.size w w' := by
  have hp : PredAtRunes Tryz.prog 81 #[] (fun r => r == 32) w := fun W x _ _ => blank_any x W
  have HP := hide hp
  clear hp
  go_enter Tryz.func59, Tryz.ntmps59
  go_wp2_with fail
  refine (Tryz.strings_FieldsFunc_runes 81 #[] enter_blank (fun r => r == 32) s w (by omega) (unhide HP)).mono ?_
  rintro e w' ⟨A, rfl, hA, ho, hb⟩
  rw [Txt.fields_words] at ho ⊢
  go_wp2
  go_ret
  exact ⟨A, rfl, hA, ho, hb⟩

theorem toList_data (b : ByteArray) : b.toList = b.data.toList := Lib.toList_data b
end Go.Proofs.YtjfkfiffakbagaaGreatDoor


/-
  The walks over the readers of ON, both sides.
-/
namespace Go.Proofs.YtjfkfiffakbagaaGreatDoor
open Go.RowKit

/-- The k-th day's letters. -/
def wname (k : Nat) : List UInt8 := match k with | 0 => [109, 111] | 1 => [116, 117] | 2 => [119, 101] | 3 => [116, 104] | 4 => [102, 114] | 5 => [115, 97] | _ => [115, 117]
theorem wd_at {l : List UInt8} {k : Nat} (hk : k < 7) (h : (l == wname k) = true) (hn : ∀ j, j < k → (l == wname j) = false) : Txt.wdL l = k := by
  have e := beq_iff_eq.1 h
  subst e
  rcases (show k = 0 ∨ k = 1 ∨ k = 2 ∨ k = 3 ∨ k = 4 ∨ k = 5 ∨ k = 6 by omega) with rfl | rfl | rfl | rfl | rfl | rfl | rfl <;> decide
theorem wd_none {l : List UInt8} (hn : ∀ j, j < 7 → (l == wname j) = false) : Txt.wdL l = -1 := by
  have h0 := hn 0 (by omega)
  have h1 := hn 1 (by omega)
  have h2 := hn 2 (by omega)
  have h3 := hn 3 (by omega)
  have h4 := hn 4 (by omega)
  have h5 := hn 5 (by omega)
  have h6 := hn 6 (by omega)
  simp only [wname] at h0 h1 h2 h3 h4 h5 h6
  simp [Txt.wdL, h0, h1, h2, h3, h4, h5, h6]
theorem upto_next {l : List UInt8} {k : Nat} (hn : ∀ j, j < k → (l == wname j) = false) (h : (l == wname k) = false) : ∀ j, j < k + 1 → (l == wname j) = false := fun j hj => by
  by_cases e : j = k
  · subst e; exact h
  · exact hn j (by omega)

def wdV (s : ByteArray) : Int := if 0 ≤ Txt.wdL s.data.toList then Txt.wdL s.data.toList else 0
def wdB (s : ByteArray) : Bool := decide (0 ≤ Txt.wdL s.data.toList)

set_option maxRecDepth 100000 in
set_option maxHeartbeats 1000000 in
theorem readWeekday_any (s : ByteArray) (w : World) (he : Env w) :
    Calls Tryz.prog 238 #[.string s] w fun e w' => e = .returned (.tuple #[.int .i64 (wdV s), .bool (wdB s)]) ∧ w' = w := by
  have m0 := he.mo
  have m1 := he.tu
  have m2 := he.we
  have m3 := he.th
  have m4 := he.fr
  have m5 := he.sa
  have m6 := he.su
  have HL := hide (toList_data s)
  clear he
  go_enter Tryz.func238, Tryz.ntmps238
  go_wp2
  go_loop [4, 5] (fun _ i => ∃ k : Nat, k ≤ 7 ∧ i = .int .i64 k ∧ ∀ j, j < k → (s.data.toList == wname j) = false) (fun _ i => 7 - (intOf i).toNat)
  case atStart => exact ⟨0, by omega, rfl, fun j hj => absurd hj (by omega)⟩
  case round =>
    obtain ⟨k, hk, rfl, hn⟩ := hrel
    have HN := hide hn
    clear hn
    rcases (show k = 0 ∨ k = 1 ∨ k = 2 ∨ k = 3 ∨ k = 4 ∨ k = 5 ∨ k = 6 ∨ k = 7 by omega) with rfl | rfl | rfl | rfl | rfl | rfl | rfl | rfl
    · cases hq : ([109, 111] == s.toList)
      · have HQ : Hid ((s.data.toList == wname 0) = false) := by
          show (s.data.toList == wname 0) = false
          rw [← unhide HL, Bool.beq_comm]; exact hq
        go_wp2
        go_round
        case rel => exact ⟨1, by omega, by go_num, upto_next (unhide HN) HQ.out⟩
        case measure => simp [intOf]
      · have HQ : Hid (Txt.wdL s.data.toList = 0) := wd_at (k := 0) (by omega) (by rw [← unhide HL, Bool.beq_comm]; exact hq) (unhide HN)
        go_wp2
        go_ret2
        exact ⟨ret2_ib (by rw [wdV, HQ.out]; rfl) (by rw [wdB, HQ.out]; rfl), rfl⟩
    · cases hq : ([116, 117] == s.toList)
      · have HQ : Hid ((s.data.toList == wname 1) = false) := by
          show (s.data.toList == wname 1) = false
          rw [← unhide HL, Bool.beq_comm]; exact hq
        go_wp2
        go_round
        case rel => exact ⟨2, by omega, by go_num, upto_next (unhide HN) HQ.out⟩
        case measure => simp [intOf]
      · have HQ : Hid (Txt.wdL s.data.toList = 1) := wd_at (k := 1) (by omega) (by rw [← unhide HL, Bool.beq_comm]; exact hq) (unhide HN)
        go_wp2
        go_ret2
        exact ⟨ret2_ib (by rw [wdV, HQ.out]; rfl) (by rw [wdB, HQ.out]; rfl), rfl⟩
    · cases hq : ([119, 101] == s.toList)
      · have HQ : Hid ((s.data.toList == wname 2) = false) := by
          show (s.data.toList == wname 2) = false
          rw [← unhide HL, Bool.beq_comm]; exact hq
        go_wp2
        go_round
        case rel => exact ⟨3, by omega, by go_num, upto_next (unhide HN) HQ.out⟩
        case measure => simp [intOf]
      · have HQ : Hid (Txt.wdL s.data.toList = 2) := wd_at (k := 2) (by omega) (by rw [← unhide HL, Bool.beq_comm]; exact hq) (unhide HN)
        go_wp2
        go_ret2
        exact ⟨ret2_ib (by rw [wdV, HQ.out]; rfl) (by rw [wdB, HQ.out]; rfl), rfl⟩
    · cases hq : ([116, 104] == s.toList)
      · have HQ : Hid ((s.data.toList == wname 3) = false) := by
          show (s.data.toList == wname 3) = false
          rw [← unhide HL, Bool.beq_comm]; exact hq
        go_wp2
        go_round
        case rel => exact ⟨4, by omega, by go_num, upto_next (unhide HN) HQ.out⟩
        case measure => simp [intOf]
      · have HQ : Hid (Txt.wdL s.data.toList = 3) := wd_at (k := 3) (by omega) (by rw [← unhide HL, Bool.beq_comm]; exact hq) (unhide HN)
        go_wp2
        go_ret2
        exact ⟨ret2_ib (by rw [wdV, HQ.out]; rfl) (by rw [wdB, HQ.out]; rfl), rfl⟩
    · cases hq : ([102, 114] == s.toList)
      · have HQ : Hid ((s.data.toList == wname 4) = false) := by
          show (s.data.toList == wname 4) = false
          rw [← unhide HL, Bool.beq_comm]; exact hq
        go_wp2
        go_round
        case rel => exact ⟨5, by omega, by go_num, upto_next (unhide HN) HQ.out⟩
        case measure => simp [intOf]
      · have HQ : Hid (Txt.wdL s.data.toList = 4) := wd_at (k := 4) (by omega) (by rw [← unhide HL, Bool.beq_comm]; exact hq) (unhide HN)
        go_wp2
        go_ret2
        exact ⟨ret2_ib (by rw [wdV, HQ.out]; rfl) (by rw [wdB, HQ.out]; rfl), rfl⟩
    · cases hq : ([115, 97] == s.toList)
      · have HQ : Hid ((s.data.toList == wname 5) = false) := by
          show (s.data.toList == wname 5) = false
          rw [← unhide HL, Bool.beq_comm]; exact hq
        go_wp2
        go_round
        case rel => exact ⟨6, by omega, by go_num, upto_next (unhide HN) HQ.out⟩
        case measure => simp [intOf]
      · have HQ : Hid (Txt.wdL s.data.toList = 5) := wd_at (k := 5) (by omega) (by rw [← unhide HL, Bool.beq_comm]; exact hq) (unhide HN)
        go_wp2
        go_ret2
        exact ⟨ret2_ib (by rw [wdV, HQ.out]; rfl) (by rw [wdB, HQ.out]; rfl), rfl⟩
    · cases hq : ([115, 117] == s.toList)
      · have HQ : Hid ((s.data.toList == wname 6) = false) := by
          show (s.data.toList == wname 6) = false
          rw [← unhide HL, Bool.beq_comm]; exact hq
        go_wp2
        go_round
        case rel => exact ⟨7, by omega, by go_num, upto_next (unhide HN) HQ.out⟩
        case measure => simp [intOf]
      · have HQ : Hid (Txt.wdL s.data.toList = 6) := wd_at (k := 6) (by omega) (by rw [← unhide HL, Bool.beq_comm]; exact hq) (unhide HN)
        go_wp2
        go_ret2
        exact ⟨ret2_ib (by rw [wdV, HQ.out]; rfl) (by rw [wdB, HQ.out]; rfl), rfl⟩
    · have HQ : Hid (Txt.wdL s.data.toList = -1) := wd_none (unhide HN)
      go_wp2
      go_ret2
      exact ⟨ret2_ib (by rw [wdV, HQ.out]; rfl) (by rw [wdB, HQ.out]; rfl), rfl⟩

end Go.Proofs.YtjfkfiffakbagaaGreatDoor


/-
  The walk over the document's own reader of ON.
-/
namespace Go.Proofs.YtjfkfiffakbagaaGreatDoor
open Go.RowKit

/-- Seven days lie in a block: those of acc are named. -/
structure DS (w : World) (b : Nat) (acc : List Int) : Prop where
  c0 : w.cell? ⟨b, 0, none⟩ = some (.bool (isd acc 0))
  c1 : w.cell? ⟨b, 1, none⟩ = some (.bool (isd acc 1))
  c2 : w.cell? ⟨b, 2, none⟩ = some (.bool (isd acc 2))
  c3 : w.cell? ⟨b, 3, none⟩ = some (.bool (isd acc 3))
  c4 : w.cell? ⟨b, 4, none⟩ = some (.bool (isd acc 4))
  c5 : w.cell? ⟨b, 5, none⟩ = some (.bool (isd acc 5))
  c6 : w.cell? ⟨b, 6, none⟩ = some (.bool (isd acc 6))
  f : ∀ j : Nat, w.frozen? ⟨b, j, none⟩ = false
theorem DS.later {w wx : World} {b : Nat} {acc : List Int} (h : DS w b acc) (hb : Below w.heap.size w wx) : DS wx b acc :=
  ⟨cell_later hb h.c0, cell_later hb h.c1, cell_later hb h.c2, cell_later hb h.c3, cell_later hb h.c4, cell_later hb h.c5, cell_later hb h.c6, fun j => (hb.frozen (p := ⟨b, j, none⟩) (show b < w.heap.size from World.block_lt_of_cell? _ ⟨b, 0, none⟩ h.c0)).trans (h.f j)⟩
theorem DS.at {w : World} {b : Nat} {acc : List Int} (h : DS w b acc) (d : Int) (h0 : 0 ≤ d) (h6 : d < 7) : w.cell? ⟨b, d.toNat, none⟩ = some (.bool (isd acc d)) := by
  rcases (show d = 0 ∨ d = 1 ∨ d = 2 ∨ d = 3 ∨ d = 4 ∨ d = 5 ∨ d = 6 by omega) with rfl | rfl | rfl | rfl | rfl | rfl | rfl
  · exact h.c0
  · exact h.c1
  · exact h.c2
  · exact h.c3
  · exact h.c4
  · exact h.c5
  · exact h.c6
theorem set_at {w : World} {b : Nat} {acc : List Int} (d : Int) (h0 : 0 ≤ d) {k : Nat} {u : Value} (hk : w.cell? ⟨b, k, none⟩ = some (.bool (isd acc k))) (_hu : u = .bool true) : (w.setCell ⟨b, d.toNat, none⟩ (.bool true)).cell? ⟨b, k, none⟩ = some (.bool (isd (d :: acc) k)) := by
  by_cases e : d.toNat = k
  · have ed : d = (k : Int) := by omega
    rw [e, World.cell?_setCell_same _ _ _ hk]
    simp [isd, ed]
  · rw [World.cell?_setCell_other _ _ _ _ (by simp), hk]
    have ne : (k : Int) ≠ d := by omega
    simp [isd, ne]
theorem DS.set {w : World} {b : Nat} {acc : List Int} (h : DS w b acc) (d : Int) (h0 : 0 ≤ d) : DS (w.setCell ⟨b, d.toNat, none⟩ (.bool true)) b (d :: acc) :=
  ⟨set_at (k := 0) d h0 h.c0 rfl, set_at (k := 1) d h0 h.c1 rfl, set_at (k := 2) d h0 h.c2 rfl, set_at (k := 3) d h0 h.c3 rfl, set_at (k := 4) d h0 h.c4 rfl, set_at (k := 5) d h0 h.c5 rfl, set_at (k := 6) d h0 h.c6 rfl, fun j => (World.frozen?_setCell ..).trans (h.f j)⟩
theorem ds_other {w : World} {b b' o : Nat} {v : Value} {acc : List Int} (h : DS w b acc) (_hne : b' ≠ b) : DS (w.setCell ⟨b', o, none⟩ v) b acc := by
  have g : ∀ j : Nat, (w.setCell ⟨b', o, none⟩ v).cell? ⟨b, j, none⟩ = w.cell? ⟨b, j, none⟩ := fun j => World.cell?_setCell_other _ _ _ _ (by simp)
  exact ⟨(g 0).trans h.c0, (g 1).trans h.c1, (g 2).trans h.c2, (g 3).trans h.c3, (g 4).trans h.c4, (g 5).trans h.c5, (g 6).trans h.c6, fun j => (World.frozen?_setCell ..).trans (h.f j)⟩
def maskV (acc : List Int) : Value := .agg #[.bool (isd acc 0), .bool (isd acc 1), .bool (isd acc 2), .bool (isd acc 3), .bool (isd acc 4), .bool (isd acc 5), .bool (isd acc 6)]

end Go.Proofs.YtjfkfiffakbagaaGreatDoor


/-
  The walk over the reader of ON of package lines.
-/
namespace Go.Proofs.YtjfkfiffakbagaaGreatDoor
open Go.RowKit

/-- The pieces of a word between its commas. -/
def pcs (s : ByteArray) : List ByteArray := Lib.splitB ⟨#[44]⟩ 0 (Lib.countB s ⟨#[44]⟩) s
theorem pcs_len (s : ByteArray) : (pcs s).length = Lib.countB s ⟨#[44]⟩ + 1 := Lib.splitB_all ⟨#[44]⟩ (by decide) 0 _ s rfl
theorem pcs_on (s : ByteArray) : Txt.onP ((pcs s).map (·.data.toList)) [] = Txt.onW s := Txt.pieces_on s
theorem count_small (s : ByteArray) (h : s.size ≤ 160) : (pcs s).length ≤ 161 := by
  rw [pcs_len]
  have := Lib.countB_le ⟨#[44]⟩ (by decide) s.size s (Nat.le_refl _)
  omega

theorem piece_cell (w : World) (l : List ByteArray) (t : TypeId) (j : Nat) (x : ByteArray) (h : l[j]? = some x) : (w.alloc (.cells (l.map Value.string).toArray t)).cell? ⟨w.heap.size, j, none⟩ = some (.string x) := by
  rw [World.cell?_alloc_at _ _ _ _ rfl]; simp [h]

/-- Where the reading stands behind k pieces. -/
def onPAt (s : ByteArray) (k : Nat) (acc : List Int) : Prop := Txt.onW s = Txt.onP (((pcs s).map (·.data.toList)).drop k) acc
theorem onPAt_step {s : ByteArray} {k : Nat} {acc : List Int} (h : onPAt s k acc) (hk : k < (pcs s).length) : Txt.onW s = (Txt.onStep acc (Txt.wdL (pcs s)[k].data.toList)).bind (Txt.onP (((pcs s).map (·.data.toList)).drop (k + 1))) := by
  rw [h, List.drop_eq_getElem_cons (by simpa using hk)]
  simp [Txt.onP]
theorem onPAt_bad {s : ByteArray} {k : Nat} {acc : List Int} (h : onPAt s k acc) (hk : k < (pcs s).length) (hd : Txt.wdL (pcs s)[k].data.toList < 0 ∨ isd acc (Txt.wdL (pcs s)[k].data.toList) = true) : Txt.onB s = false := by
  have e := onPAt_step h hk
  have bad : Txt.onStep acc (Txt.wdL (pcs s)[k].data.toList) = none := by
    unfold Txt.onStep
    rw [if_neg]
    rintro ⟨q1, q2⟩
    rcases hd with q | q
    · omega
    · unfold isd at q; rw [q] at q2; cases q2
  rw [bad] at e
  unfold Txt.onB; rw [e]; rfl
theorem onPAt_next {s : ByteArray} {k : Nat} {acc : List Int} (h : onPAt s k acc) (hk : k < (pcs s).length) (h0 : 0 ≤ Txt.wdL (pcs s)[k].data.toList) (hm : isd acc (Txt.wdL (pcs s)[k].data.toList) = false) : onPAt s (k + 1) (Txt.wdL (pcs s)[k].data.toList :: acc) := by
  have e := onPAt_step h hk
  have st : Txt.onStep acc (Txt.wdL (pcs s)[k].data.toList) = some (Txt.wdL (pcs s)[k].data.toList :: acc) := by
    unfold Txt.onStep; rw [if_pos ⟨h0, hm⟩]
  rw [st] at e
  exact e
theorem onPAt_end {s : ByteArray} {k : Nat} {acc : List Int} (h : onPAt s k acc) (hk : (pcs s).length ≤ k) : Txt.onW s = some acc := by
  unfold onPAt at h
  rw [List.drop_of_length_le (by simpa using hk)] at h
  exact h

set_option maxRecDepth 100000 in
set_option maxHeartbeats 8000000 in
theorem readOn_any (s : ByteArray) (w : World) (he : Env w) (hm : s.size ≤ 160) :
    Calls Tryz.prog 186 #[.string s] w fun e w' => (∃ acc, e = .returned (.tuple #[maskV acc, .bool (Txt.onB s)]) ∧ (Txt.onB s = true → Txt.onW s = some acc)) ∧ Below w.heap.size w w' := by
  obtain ⟨mx, hmx⟩ := he.maxl
  have HE := hide he
  have hz := he.size
  clear he
  have hcs := count_small s hm
  go_enter Tryz.func186, Tryz.ntmps186
  go_wp2_with fail
  obtain ⟨W, hW⟩ : ∃ W, W = (w.alloc (.cells #[.bool false, .bool false, .bool false, .bool false, .bool false, .bool false, .bool false] 154)).alloc (.cells #[.bool false, .bool false, .bool false, .bool false, .bool false, .bool false, .bool false] 154) := ⟨_, rfl⟩
  rw [← hW]
  have hB : Below w.heap.size w W := by rw [hW]; exact ((Below.refl _ _).alloc (Nat.le_refl _) _).alloc (by simp) _
  have hZ : w.heap.size + 2 = W.heap.size := by rw [hW]; simp
  have dR : DS W w.heap.size [] := by
    rw [hW]
    refine ⟨?_, ?_, ?_, ?_, ?_, ?_, ?_, fun j => ?_⟩ <;> simp [isd]
  have dD : DS W (w.heap.size + 1) [] := by
    rw [hW]
    refine ⟨?_, ?_, ?_, ?_, ?_, ?_, ?_, fun j => ?_⟩ <;> simp [isd]
  have hmW := cell_later hB hmx
  clear hW
  refine (Tryz.strings_Split s ⟨#[44]⟩ mx W (by omega) hmW (by decide)).mono ?_
  rintro e w1 ⟨rfl, hw1⟩
  have hP : ∀ j x, (pcs s)[j]? = some x → w1.cell? ⟨W.heap.size, j, none⟩ = some (.string x) := fun j x hx => by rw [hw1]; exact piece_cell W (pcs s) _ j x hx
  have hb1 : Below W.heap.size W w1 := by rw [hw1]; exact (Below.refl _ _).alloc (Nat.le_refl _) _
  have hZ1 : W.heap.size < w1.heap.size := by rw [hw1]; simp
  clear hw1
  rw [show Lib.countB s ⟨#[44]⟩ + 1 = (pcs s).length from (pcs_len s).symm]
  have HP := hide hP
  have HEW := hide (((unhide HE).later hB).later hb1)
  have dR1 := dR.later hb1
  have dD1 := dD.later hb1
  have hbw : Below w.heap.size w w1 := hB.trans (hb1.mono (by omega))
  clear hP dR dD hB hmW hmx HEW
  go_wp2
  go_loopw [6, 7, 8, 12] (fun _ _ _ i wx => ∃ (k : Nat) (acc : List Int), k ≤ (pcs s).length ∧ i = .int .i64 k ∧ onPAt s k acc ∧ DS wx (w.heap.size + 1) acc ∧ DS wx w.heap.size [] ∧ Below w.heap.size w wx ∧ w1.heap.size ≤ wx.heap.size ∧ (∀ j x, (pcs s)[j]? = some x → wx.cell? ⟨W.heap.size, j, none⟩ = some (.string x))) (fun _ _ _ i _ => (pcs s).length - (intOf i).toNat)
  case atStart => exact ⟨0, [], Nat.zero_le _, rfl, (pcs_on s).symm, dD1, dR1, hbw, Nat.le_refl _, unhide HP⟩
  case round =>
    obtain ⟨k, acc, hk, rfl, hat, hD, hR, hnx, hsz, hpc⟩ := hrel
    have HPC := hide hpc
    clear hpc
    have hEr := hide ((unhide HE).later hnx)
    by_cases hlt : k < (pcs s).length
    · have hc := unhide HPC k (pcs s)[k] (by simp [hlt])
      have hi : (k : Int) < ((pcs s).length : Int) := by omega
      have q0 := hD.c0
      have q1 := hD.c1
      have q2 := hD.c2
      have q3 := hD.c3
      have q4 := hD.c4
      have q5 := hD.c5
      have q6 := hD.c6
      have r0 := hR.c0
      have r1 := hR.c1
      have r2 := hR.c2
      have r3 := hR.c3
      have r4 := hR.c4
      have r5 := hR.c5
      have r6 := hR.c6
      have fR := hR.f
      have fD := hD.f
      have hd := Txt.wdL_bd (pcs s)[k].data.toList
      have HBAD := hide (fun q => onPAt_bad hat hlt q)
      have HNEXT := hide (fun q1 q2 => onPAt_next hat hlt q1 q2)
      clear hat
      go_wp2_with fail
      refine (readWeekday_any _ _ (unhide hEr)).mono ?_
      rintro e w2 ⟨rfl, rfl⟩
      obtain ⟨d, hdd⟩ : ∃ d, d = Txt.wdL (pcs s)[k].data.toList := ⟨_, rfl⟩
      have HV : Hid (wdV (pcs s)[k] = if 0 ≤ d then d else 0) := by show wdV (pcs s)[k] = _; rw [hdd]; rfl
      have HW : Hid (wdB (pcs s)[k] = decide (0 ≤ d)) := by show wdB (pcs s)[k] = _; rw [hdd]; rfl
      rw [← hdd] at hd HBAD HNEXT
      clear hdd
      by_cases hneg : d < 0
      · have HN : Hid (Txt.onB s = false) := unhide HBAD (.inl hneg)
        have HW2 : Hid (wdB (pcs s)[k] = false) := HW.out.trans (decide_eq_false (by omega))
        rw [HW2.out]
        go_wp2
        refine bodyPost_ret (v := .tuple #[maskV [], .bool false]) (by simp [results, Tryz.results186, go_sem, maskV, isd, r0, r1, r2, r3, r4, r5, r6]) rfl ⟨⟨[], ?_, ?_⟩, ?_⟩
        · rw [HN.out]
        · intro h; rw [HN.out] at h; cases h
        · exact (((((((hnx.setCell (Nat.le_refl _) _).setCell (Nat.le_refl _) _).setCell (Nat.le_refl _) _).setCell (Nat.le_refl _) _).setCell (Nat.le_refl _) _).setCell (Nat.le_refl _) _).setCell (Nat.le_refl _) _)
      · have HV2 : Hid (wdV (pcs s)[k] = d) := HV.out.trans (if_pos (by omega))
        have HW2 : Hid (wdB (pcs s)[k] = true) := HW.out.trans (decide_eq_true (by omega))
        rw [HV2.out, HW2.out]
        have hcd := hD.at d (by omega) (by omega)
        cases hmk : isd acc d
        · rw [hmk] at hcd
          have HX : Hid (onPAt s (k + 1) (d :: acc)) := unhide HNEXT (by omega) hmk
          go_wp2
          refine ⟨⟨k + 1, d :: acc, by omega, by go_num, HX.out, ?_, ?_, ?_, ?_, ?_⟩, by simp [intOf]; omega⟩
          · exact hD.set d (by omega)
          · exact ds_other hR (by omega)
          · exact hnx.setCell (by simp) _
          · simp; omega
          · intro j x hx
            exact (World.cell?_setCell_other _ _ _ _ (by simp)).trans (unhide HPC j x hx)
        · rw [hmk] at hcd
          have HN : Hid (Txt.onB s = false) := unhide HBAD (.inr hmk)
          go_wp2
          refine bodyPost_ret (v := .tuple #[maskV [], .bool false]) (by simp [results, Tryz.results186, go_sem, maskV, isd, r0, r1, r2, r3, r4, r5, r6]) rfl ⟨⟨[], ?_, ?_⟩, ?_⟩
          · rw [HN.out]
          · intro h; rw [HN.out] at h; cases h
          · exact (((((((hnx.setCell (Nat.le_refl _) _).setCell (Nat.le_refl _) _).setCell (Nat.le_refl _) _).setCell (Nat.le_refl _) _).setCell (Nat.le_refl _) _).setCell (Nat.le_refl _) _).setCell (Nat.le_refl _) _)
    · have HF : Hid (Txt.onW s = some acc) := onPAt_end hat (by omega)
      have HN : Hid (Txt.onB s = true) := by show Txt.onB s = true; unfold Txt.onB; rw [HF.out]; rfl
      clear hat
      have q0 := hD.c0
      have q1 := hD.c1
      have q2 := hD.c2
      have q3 := hD.c3
      have q4 := hD.c4
      have q5 := hD.c5
      have q6 := hD.c6
      have r0 := hR.c0
      have r1 := hR.c1
      have r2 := hR.c2
      have r3 := hR.c3
      have r4 := hR.c4
      have r5 := hR.c5
      have r6 := hR.c6
      have fR := hR.f
      go_wp2
      refine bodyPost_ret (v := .tuple #[maskV acc, .bool true]) (by simp [results, Tryz.results186, go_sem, maskV, r0, r1, r2, r3, r4, r5, r6]) rfl ⟨⟨acc, ?_, ?_⟩, ?_⟩
      · rw [HN.out]
      · intro _; exact HF.out
      · exact (((((((hnx.setCell (Nat.le_refl _) _).setCell (Nat.le_refl _) _).setCell (Nat.le_refl _) _).setCell (Nat.le_refl _) _).setCell (Nat.le_refl _) _).setCell (Nat.le_refl _) _).setCell (Nat.le_refl _) _)

end Go.Proofs.YtjfkfiffakbagaaGreatDoor


/-
  The reader's take at each reader of words: numbers, dates, minutes, times, numbers within bounds.
-/
namespace Go.Proofs.YtjfkfiffakbagaaGreatDoor
open Go.RowKit

theorem Env.kept {R : Nat} {w w' : World} (h : Env w) (k : Kept R w w') (hR : 10 ≤ R) : Env w' := by
  have hb : Below 10 w w' := k.below hR h.size
  have hc : ∀ (b o : Nat) (v : Value), b < 10 → w.cell? ⟨b, o, none⟩ = some v → w'.cell? ⟨b, o, none⟩ = some v := fun b o v hb' e => (hb.cell (p := ⟨b, o, none⟩) hb').trans e
  obtain ⟨m, hm⟩ := h.maxl
  obtain ⟨c0, c1, c2, c3, c4, c5, c6, c7, c8, c9, c10, c11⟩ := h.tab
  refine ⟨⟨hc _ _ _ (by omega) c0, hc _ _ _ (by omega) c1, hc _ _ _ (by omega) c2, hc _ _ _ (by omega) c3, hc _ _ _ (by omega) c4, hc _ _ _ (by omega) c5, hc _ _ _ (by omega) c6, hc _ _ _ (by omega) c7, hc _ _ _ (by omega) c8, hc _ _ _ (by omega) c9, hc _ _ _ (by omega) c10, hc _ _ _ (by omega) c11⟩, ⟨m, hc _ _ _ (by omega) hm⟩, ?_, Nat.le_trans h.size k.size, hc _ _ _ (by omega) h.mo, hc _ _ _ (by omega) h.tu, hc _ _ _ (by omega) h.we, hc _ _ _ (by omega) h.th, hc _ _ _ (by omega) h.fr, hc _ _ _ (by omega) h.sa, hc _ _ _ (by omega) h.su⟩
  have hp := h.pow
  unfold Lib.TabIs World.var? at hp ⊢
  simp only [gPow, Option.bind_some] at hp ⊢
  rw [hb.block 1 (by omega)]
  exact hp

def withinB (s : ByteArray) (lo hi : Int) : Bool := Txt.isNum s.data.toList && decide (lo ≤ Txt.numV s.data.toList) && decide (Txt.numV s.data.toList ≤ hi)

set_option maxHeartbeats 1000000 in
/-- The closure of number: a number within bounds. -/
theorem within_any (s : ByteArray) (L M : Nat) (lo hi : Int) (w : World) (hs : s.size ≤ 160) (cl : w.cell? ⟨L, 0, none⟩ = some (.int .i64 lo)) (cm : w.cell? ⟨M, 0, none⟩ = some (.int .i64 hi)) :
    Calls Tryz.prog 183 #[.string s, .pointer (some ⟨L, 0, none⟩), .pointer (some ⟨M, 0, none⟩)] w fun e w' => e = .returned (.tuple #[.int .i64 (Txt.numV s.data.toList), .bool (withinB s lo hi)]) ∧ ∃ n, w' = w.drewN n := by
  have hm : s.size ≤ maxLen := by unfold maxLen; omega
  cases hn : Txt.isNum s.data.toList
  · go_enter Tryz.func183, Tryz.ntmps183
    go_wp2_with fail
    refine (readNum_any s w hm).mono ?_
    rintro e w1 ⟨rfl, rfl⟩
    rw [hn]
    go_wp2
    go_quiet (fail)
    go_wp2
    go_ret2
    exact ⟨ret2_ib rfl (by simp [withinB, hn]), _, rfl⟩
  · by_cases g1 : lo ≤ Txt.numV s.data.toList
    · by_cases g2 : Txt.numV s.data.toList ≤ hi
      · go_enter Tryz.func183, Tryz.ntmps183
        go_wp2_with fail
        refine (readNum_any s w hm).mono ?_
        rintro e w1 ⟨rfl, rfl⟩
        rw [hn]
        go_wp2
        go_quiet (fail)
        go_wp2
        go_ret2
        exact ⟨ret2_ib rfl (by simp [withinB, hn, g1, g2]), _, rfl⟩
      · have g2' : decide (Txt.numV s.data.toList ≤ hi) = false := decide_eq_false g2
        go_enter Tryz.func183, Tryz.ntmps183
        go_wp2_with fail
        refine (readNum_any s w hm).mono ?_
        rintro e w1 ⟨rfl, rfl⟩
        rw [hn]
        go_wp2
        go_quiet (fail)
        go_wp2
        go_ret2
        exact ⟨ret2_ib rfl (by simp [withinB, hn, g1, g2']), _, rfl⟩
    · have g1' : decide (lo ≤ Txt.numV s.data.toList) = false := decide_eq_false g1
      go_enter Tryz.func183, Tryz.ntmps183
      go_wp2_with fail
      refine (readNum_any s w hm).mono ?_
      rintro e w1 ⟨rfl, rfl⟩
      rw [hn]
      go_wp2
      go_quiet (fail)
      go_wp2
      go_ret2
      exact ⟨ret2_ib rfl (by simp [withinB, hn, g1']), _, rfl⟩

set_option maxHeartbeats 1000000 in
theorem takeDate_ok (R A : Nat) (ws : List ByteArray) (nx : Nat) (wr : Bool) (w : World) (h : RS w R A ws nx wr) (he : Env w) (hm : moreB ws.length nx wr = true) (hlt : nx < ws.length) (hb : Txt.dayB ws[nx] = true) :
    Calls Tryz.prog 132 #[.pointer (some ⟨R, 0, none⟩), .func (.func 133) #[] #[]] w fun e w' => e = .returned (.int .i64 (dayV ws[nx])) ∧ RS w' R A ws (nx + 1) wr ∧ Kept R w w' := by
  have hi : (nx : Int) < (ws.length : Int) := by omega
  have hsz : ws[nx].size ≤ 160 := h.short _ (List.getElem_mem hlt)
  have HSZ := hide hsz
  clear hsz
  have HE := hide he
  clear he
  go_enter Tryz.func132, Tryz.ntmps132
  go_wp2_with fail
  refine (more_any R A ws nx wr w h).mono ?_
  rintro e w1 ⟨rfl, n, hw⟩
  have h1 : RS w1 R A ws nx wr := by rw [hw]; exact h.drewN n
  have k1 : Kept R w w1 := by rw [hw]; exact (Kept.refl R w).drewN n
  have HE1 : Hid (Env w1) := by show Env w1; rw [hw]; exact (unhide HE).drewN n
  have c0 := h1.c0
  have c1 := h1.c1
  have f1 := h1.f1
  have cr := h1.rows nx hlt
  have hl := h1.len
  clear hw
  go_wp2
  go_quiet ((go_at_call 133; exact Calls.quiet_of_same (readDate_any _ _ ((unhide HE1).drewN _).tab (unhide HSZ))))
  go_wp2
  go_ret
  exact ⟨rfl, (h1.drewN _).step hlt, (k1.drewN _).setCell _ _⟩

set_option maxHeartbeats 1000000 in
theorem takeDate_no (R A : Nat) (ws : List ByteArray) (nx : Nat) (wr : Bool) (w : World) (h : RS w R A ws nx wr) (he : Env w) (hm : moreB ws.length nx wr = true) (hlt : nx < ws.length) (hb : Txt.dayB ws[nx] = false) :
    Calls Tryz.prog 132 #[.pointer (some ⟨R, 0, none⟩), .func (.func 133) #[] #[]] w fun e w' => e = .returned (.int .i64 (0)) ∧ RS w' R A ws nx true ∧ Kept R w w' := by
  have hi : (nx : Int) < (ws.length : Int) := by omega
  have hsz : ws[nx].size ≤ 160 := h.short _ (List.getElem_mem hlt)
  have HSZ := hide hsz
  clear hsz
  have HE := hide he
  clear he
  go_enter Tryz.func132, Tryz.ntmps132
  go_wp2_with fail
  refine (more_any R A ws nx wr w h).mono ?_
  rintro e w1 ⟨rfl, n, hw⟩
  have h1 : RS w1 R A ws nx wr := by rw [hw]; exact h.drewN n
  have k1 : Kept R w w1 := by rw [hw]; exact (Kept.refl R w).drewN n
  have HE1 : Hid (Env w1) := by show Env w1; rw [hw]; exact (unhide HE).drewN n
  have c0 := h1.c0
  have c1 := h1.c1
  have c2 := h1.c2
  have f2 := h1.f2
  have cr := h1.rows nx hlt
  have hl := h1.len
  clear hw
  go_wp2
  go_quiet ((go_at_call 133; exact Calls.quiet_of_same (readDate_any _ _ ((unhide HE1).drewN _).tab (unhide HSZ))))
  go_wp2
  go_ret
  exact ⟨rfl, (h1.drewN _).bad, (k1.drewN _).setCell _ _⟩

theorem small {n : Nat} (h : n ≤ 160) : n ≤ maxLen := by unfold maxLen; omega

set_option maxHeartbeats 1000000 in
theorem takeMinute_ok (R A : Nat) (ws : List ByteArray) (nx : Nat) (wr : Bool) (w : World) (h : RS w R A ws nx wr) (hm : moreB ws.length nx wr = true) (hlt : nx < ws.length) (hb : Txt.minB ws[nx] = true) :
    Calls Tryz.prog 132 #[.pointer (some ⟨R, 0, none⟩), .func (.func 134) #[] #[]] w fun e w' => e = .returned (.int .i64 (Txt.minV ws[nx])) ∧ RS w' R A ws (nx + 1) wr ∧ Kept R w w' := by
  have hi : (nx : Int) < (ws.length : Int) := by omega
  have hsz : ws[nx].size ≤ 160 := h.short _ (List.getElem_mem hlt)
  have HSZ := hide hsz
  clear hsz
  go_enter Tryz.func132, Tryz.ntmps132
  go_wp2_with fail
  refine (more_any R A ws nx wr w h).mono ?_
  rintro e w1 ⟨rfl, n, hw⟩
  have h1 : RS w1 R A ws nx wr := by rw [hw]; exact h.drewN n
  have k1 : Kept R w w1 := by rw [hw]; exact (Kept.refl R w).drewN n
  have c0 := h1.c0
  have c1 := h1.c1
  have f1 := h1.f1
  have cr := h1.rows nx hlt
  have hl := h1.len
  clear hw
  go_wp2
  go_quiet ((go_at_call 134; exact Calls.quiet_of_same (readMinute_any _ _ (small (unhide HSZ)))))
  go_wp2
  go_ret
  exact ⟨rfl, (h1.drewN _).step hlt, (k1.drewN _).setCell _ _⟩

set_option maxHeartbeats 1000000 in
theorem takeMinute_no (R A : Nat) (ws : List ByteArray) (nx : Nat) (wr : Bool) (w : World) (h : RS w R A ws nx wr) (hm : moreB ws.length nx wr = true) (hlt : nx < ws.length) (hb : Txt.minB ws[nx] = false) :
    Calls Tryz.prog 132 #[.pointer (some ⟨R, 0, none⟩), .func (.func 134) #[] #[]] w fun e w' => e = .returned (.int .i64 (0)) ∧ RS w' R A ws nx true ∧ Kept R w w' := by
  have hi : (nx : Int) < (ws.length : Int) := by omega
  have hsz : ws[nx].size ≤ 160 := h.short _ (List.getElem_mem hlt)
  have HSZ := hide hsz
  clear hsz
  go_enter Tryz.func132, Tryz.ntmps132
  go_wp2_with fail
  refine (more_any R A ws nx wr w h).mono ?_
  rintro e w1 ⟨rfl, n, hw⟩
  have h1 : RS w1 R A ws nx wr := by rw [hw]; exact h.drewN n
  have k1 : Kept R w w1 := by rw [hw]; exact (Kept.refl R w).drewN n
  have c0 := h1.c0
  have c1 := h1.c1
  have c2 := h1.c2
  have f2 := h1.f2
  have cr := h1.rows nx hlt
  have hl := h1.len
  clear hw
  go_wp2
  go_quiet ((go_at_call 134; exact Calls.quiet_of_same (readMinute_any _ _ (small (unhide HSZ)))))
  go_wp2
  go_ret
  exact ⟨rfl, (h1.drewN _).bad, (k1.drewN _).setCell _ _⟩

set_option maxHeartbeats 1000000 in
theorem takeTime_ok (R A : Nat) (ws : List ByteArray) (nx : Nat) (wr : Bool) (w : World) (h : RS w R A ws nx wr) (he : Env w) (hm : moreB ws.length nx wr = true) (hlt : nx < ws.length) (hb : timeB ws[nx] = true) :
    Calls Tryz.prog 132 #[.pointer (some ⟨R, 0, none⟩), .func (.func 137) #[] #[]] w fun e w' => e = .returned (.int .i64 (timW ws[nx])) ∧ RS w' R A ws (nx + 1) wr ∧ Kept R w w' := by
  have hi : (nx : Int) < (ws.length : Int) := by omega
  have hsz : ws[nx].size ≤ 160 := h.short _ (List.getElem_mem hlt)
  have HSZ := hide hsz
  clear hsz
  have HE := hide he
  clear he
  go_enter Tryz.func132, Tryz.ntmps132
  go_wp2_with fail
  refine (more_any R A ws nx wr w h).mono ?_
  rintro e w1 ⟨rfl, n, hw⟩
  have h1 : RS w1 R A ws nx wr := by rw [hw]; exact h.drewN n
  have k1 : Kept R w w1 := by rw [hw]; exact (Kept.refl R w).drewN n
  have HE1 : Hid (Env w1) := by show Env w1; rw [hw]; exact (unhide HE).drewN n
  have c0 := h1.c0
  have c1 := h1.c1
  have f1 := h1.f1
  have cr := h1.rows nx hlt
  have hl := h1.len
  clear hw
  go_wp2
  go_quiet ((go_at_call 137; exact Calls.quiet_of (readTime_any _ _ ((unhide HE1).drewN _) (unhide HSZ))))
  go_wp2
  go_ret
  exact ⟨rfl, (h1.drewN _).step hlt, (k1.drewN _).setCell _ _⟩

set_option maxHeartbeats 1000000 in
theorem takeTime_no (R A : Nat) (ws : List ByteArray) (nx : Nat) (wr : Bool) (w : World) (h : RS w R A ws nx wr) (he : Env w) (hm : moreB ws.length nx wr = true) (hlt : nx < ws.length) (hb : timeB ws[nx] = false) :
    Calls Tryz.prog 132 #[.pointer (some ⟨R, 0, none⟩), .func (.func 137) #[] #[]] w fun e w' => e = .returned (.int .i64 (0)) ∧ RS w' R A ws nx true ∧ Kept R w w' := by
  have hi : (nx : Int) < (ws.length : Int) := by omega
  have hsz : ws[nx].size ≤ 160 := h.short _ (List.getElem_mem hlt)
  have HSZ := hide hsz
  clear hsz
  have HE := hide he
  clear he
  go_enter Tryz.func132, Tryz.ntmps132
  go_wp2_with fail
  refine (more_any R A ws nx wr w h).mono ?_
  rintro e w1 ⟨rfl, n, hw⟩
  have h1 : RS w1 R A ws nx wr := by rw [hw]; exact h.drewN n
  have k1 : Kept R w w1 := by rw [hw]; exact (Kept.refl R w).drewN n
  have HE1 : Hid (Env w1) := by show Env w1; rw [hw]; exact (unhide HE).drewN n
  have c0 := h1.c0
  have c1 := h1.c1
  have c2 := h1.c2
  have f2 := h1.f2
  have cr := h1.rows nx hlt
  have hl := h1.len
  clear hw
  go_wp2
  go_quiet ((go_at_call 137; exact Calls.quiet_of (readTime_any _ _ ((unhide HE1).drewN _) (unhide HSZ))))
  go_wp2
  go_ret
  exact ⟨rfl, (h1.drewN _).bad, (k1.drewN _).setCell _ _⟩

set_option maxHeartbeats 1000000 in
theorem takeWithin_ok (L M : Nat) (lo hi : Int) (R A : Nat) (ws : List ByteArray) (nx : Nat) (wr : Bool) (w : World) (h : RS w R A ws nx wr) (cl : w.cell? ⟨L, 0, none⟩ = some (.int .i64 lo)) (cm : w.cell? ⟨M, 0, none⟩ = some (.int .i64 hi)) (hm : moreB ws.length nx wr = true) (hlt : nx < ws.length) (hb : withinB ws[nx] lo hi = true) :
    Calls Tryz.prog 132 #[.pointer (some ⟨R, 0, none⟩), .func (.func 183) #[] #[.pointer (some ⟨L, 0, none⟩), .pointer (some ⟨M, 0, none⟩)]] w fun e w' => e = .returned (.int .i64 (Txt.numV ws[nx].data.toList)) ∧ RS w' R A ws (nx + 1) wr ∧ Kept R w w' := by
  have hib : (nx : Int) < (ws.length : Int) := by omega
  have hsz : ws[nx].size ≤ 160 := h.short _ (List.getElem_mem hlt)
  have HSZ := hide hsz
  clear hsz
  go_enter Tryz.func132, Tryz.ntmps132
  go_wp2_with fail
  refine (more_any R A ws nx wr w h).mono ?_
  rintro e w1 ⟨rfl, n, hw⟩
  have h1 : RS w1 R A ws nx wr := by rw [hw]; exact h.drewN n
  have k1 : Kept R w w1 := by rw [hw]; exact (Kept.refl R w).drewN n
  have cl1 : Hid (w1.cell? ⟨L, 0, none⟩ = some (.int .i64 lo)) := by show w1.cell? _ = _; rw [hw]; exact cl
  have cm1 : Hid (w1.cell? ⟨M, 0, none⟩ = some (.int .i64 hi)) := by show w1.cell? _ = _; rw [hw]; exact cm
  clear cl cm
  have c0 := h1.c0
  have c1 := h1.c1
  have f1 := h1.f1
  have cr := h1.rows nx hlt
  have hl := h1.len
  clear hw
  go_wp2
  go_quiet ((go_at_call 183; exact Calls.quiet_of (within_any _ L M lo hi _ (unhide HSZ) (unhide cl1) (unhide cm1))))
  go_wp2
  go_ret
  exact ⟨rfl, (h1.drewN _).step hlt, (k1.drewN _).setCell _ _⟩

set_option maxHeartbeats 1000000 in
theorem takeWithin_no (L M : Nat) (lo hi : Int) (R A : Nat) (ws : List ByteArray) (nx : Nat) (wr : Bool) (w : World) (h : RS w R A ws nx wr) (cl : w.cell? ⟨L, 0, none⟩ = some (.int .i64 lo)) (cm : w.cell? ⟨M, 0, none⟩ = some (.int .i64 hi)) (hm : moreB ws.length nx wr = true) (hlt : nx < ws.length) (hb : withinB ws[nx] lo hi = false) :
    Calls Tryz.prog 132 #[.pointer (some ⟨R, 0, none⟩), .func (.func 183) #[] #[.pointer (some ⟨L, 0, none⟩), .pointer (some ⟨M, 0, none⟩)]] w fun e w' => e = .returned (.int .i64 (0)) ∧ RS w' R A ws nx true ∧ Kept R w w' := by
  have hib : (nx : Int) < (ws.length : Int) := by omega
  have hsz : ws[nx].size ≤ 160 := h.short _ (List.getElem_mem hlt)
  have HSZ := hide hsz
  clear hsz
  go_enter Tryz.func132, Tryz.ntmps132
  go_wp2_with fail
  refine (more_any R A ws nx wr w h).mono ?_
  rintro e w1 ⟨rfl, n, hw⟩
  have h1 : RS w1 R A ws nx wr := by rw [hw]; exact h.drewN n
  have k1 : Kept R w w1 := by rw [hw]; exact (Kept.refl R w).drewN n
  have cl1 : Hid (w1.cell? ⟨L, 0, none⟩ = some (.int .i64 lo)) := by show w1.cell? _ = _; rw [hw]; exact cl
  have cm1 : Hid (w1.cell? ⟨M, 0, none⟩ = some (.int .i64 hi)) := by show w1.cell? _ = _; rw [hw]; exact cm
  clear cl cm
  have c0 := h1.c0
  have c1 := h1.c1
  have c2 := h1.c2
  have f2 := h1.f2
  have cr := h1.rows nx hlt
  have hl := h1.len
  clear hw
  go_wp2
  go_quiet ((go_at_call 183; exact Calls.quiet_of (within_any _ L M lo hi _ (unhide HSZ) (unhide cl1) (unhide cm1))))
  go_wp2
  go_ret
  exact ⟨rfl, (h1.drewN _).bad, (k1.drewN _).setCell _ _⟩

end Go.Proofs.YtjfkfiffakbagaaGreatDoor


/-
  The reader's take at names and at ON: readers that make memory.
-/
namespace Go.Proofs.YtjfkfiffakbagaaGreatDoor
open Go.RowKit

set_option maxHeartbeats 1000000 in
theorem takeStr_end (f : Value) (R A : Nat) (ws : List ByteArray) (nx : Nat) (wr : Bool) (w : World) (h : RS w R A ws nx wr) (hm : moreB ws.length nx wr = false) :
    Calls Tryz.prog 127 #[.pointer (some ⟨R, 0, none⟩), f] w fun e w' => e = .returned (.string ⟨#[]⟩) ∧ RS w' R A ws nx true ∧ Kept R w w' := by
  go_enter Tryz.func127, Tryz.ntmps127
  go_wp2_with fail
  refine (more_any R A ws nx wr w h).mono ?_
  rintro e w1 ⟨rfl, n, hw⟩
  have h1 : RS w1 R A ws nx wr := by rw [hw]; exact h.drewN n
  have k1 : Kept R w w1 := by rw [hw]; exact (Kept.refl R w).drewN n
  have c2 := h1.c2
  have f2 := h1.f2
  clear hw
  go_wp2
  go_ret
  exact ⟨rfl, h1.bad, k1.setCell _ _⟩

set_option maxRecDepth 100000 in
set_option maxHeartbeats 2000000 in
theorem takeName_ok (R A : Nat) (ws : List ByteArray) (nx : Nat) (wr : Bool) (w : World) (h : RS w R A ws nx wr) (hm : moreB ws.length nx wr = true) (hlt : nx < ws.length) (hb : Txt.isName ws[nx].data.toList = true) :
    Calls Tryz.prog 127 #[.pointer (some ⟨R, 0, none⟩), .func (.func 128) #[] #[]] w fun e w' => e = .returned (.string (nameV ws[nx])) ∧ RS w' R A ws (nx + 1) wr ∧ Kept R w w' := by
  have hi : (nx : Int) < (ws.length : Int) := by omega
  have hi0 : (0 : Int) ≤ (nx : Int) := Int.natCast_nonneg _
  have hsz : ws[nx].size ≤ 160 := h.short _ (List.getElem_mem hlt)
  have HSZ := hide hsz
  clear hsz
  go_enter Tryz.func127, Tryz.ntmps127
  go_wp2_with fail
  refine (more_any R A ws nx wr w h).mono ?_
  rintro e w1 ⟨rfl, n, hw⟩
  have h1 : RS w1 R A ws nx wr := by rw [hw]; exact h.drewN n
  have k1 : Kept R w w1 := by rw [hw]; exact (Kept.refl R w).drewN n
  have c0 := h1.c0
  have c1 := h1.c1
  have cr := h1.rows nx hlt
  have hl := h1.len
  clear hw
  go_wp2_with fail
  go_region_held3 (fun w' => w'.cell? ⟨R, 0, none⟩ = some (.slice (some ⟨A, 0, none⟩) ws.length ws.length) ∧ w'.cell? ⟨R, 1, none⟩ = some (.int .i64 nx) ∧ w'.cell? ⟨A, nx, none⟩ = some (.string ws[nx]))
    (first
      | go_keep
      | (go_split_ands
         refine ⟨?_, ?_, ?_⟩
         · exact cell_later hbf (by assumption)
         · exact cell_later hbf (by assumption)
         · exact cell_later hbf (by assumption)))
    ((go_at_call 128; refine (readName_any _ _ (unhide HSZ)).mono ?_; rintro e w4 ⟨rfl, hbf⟩))
  have hbf' : Below w1.heap.size w1 w4 := ⟨hbf.os, hbf.tape, hbf.output, hbf.size, hbf.block⟩
  have h4 := h1.of_below hbf'
  have k4 := k1.trans (Kept.of_below hbf')
  have d1 := h4.c1
  have d2 := h4.c2
  have g1 := h4.f1
  have g2 := h4.f2
  clear c0 c1 cr
  go_wp2
  go_ret
  exact ⟨rfl, h4.step hlt, k4.setCell _ _⟩

set_option maxRecDepth 100000 in
set_option maxHeartbeats 2000000 in
theorem takeName_no (R A : Nat) (ws : List ByteArray) (nx : Nat) (wr : Bool) (w : World) (h : RS w R A ws nx wr) (hm : moreB ws.length nx wr = true) (hlt : nx < ws.length) (hb : Txt.isName ws[nx].data.toList = false) :
    Calls Tryz.prog 127 #[.pointer (some ⟨R, 0, none⟩), .func (.func 128) #[] #[]] w fun e w' => e = .returned (.string ⟨#[]⟩) ∧ RS w' R A ws nx true ∧ Kept R w w' := by
  have hi : (nx : Int) < (ws.length : Int) := by omega
  have hi0 : (0 : Int) ≤ (nx : Int) := Int.natCast_nonneg _
  have hsz : ws[nx].size ≤ 160 := h.short _ (List.getElem_mem hlt)
  have HSZ := hide hsz
  clear hsz
  go_enter Tryz.func127, Tryz.ntmps127
  go_wp2_with fail
  refine (more_any R A ws nx wr w h).mono ?_
  rintro e w1 ⟨rfl, n, hw⟩
  have h1 : RS w1 R A ws nx wr := by rw [hw]; exact h.drewN n
  have k1 : Kept R w w1 := by rw [hw]; exact (Kept.refl R w).drewN n
  have c0 := h1.c0
  have c1 := h1.c1
  have cr := h1.rows nx hlt
  have hl := h1.len
  clear hw
  go_wp2_with fail
  go_region_held3 (fun w' => w'.cell? ⟨R, 0, none⟩ = some (.slice (some ⟨A, 0, none⟩) ws.length ws.length) ∧ w'.cell? ⟨R, 1, none⟩ = some (.int .i64 nx) ∧ w'.cell? ⟨A, nx, none⟩ = some (.string ws[nx]))
    (first
      | go_keep
      | (go_split_ands
         refine ⟨?_, ?_, ?_⟩
         · exact cell_later hbf (by assumption)
         · exact cell_later hbf (by assumption)
         · exact cell_later hbf (by assumption)))
    ((go_at_call 128; refine (readName_any _ _ (unhide HSZ)).mono ?_; rintro e w4 ⟨rfl, hbf⟩))
  have hbf' : Below w1.heap.size w1 w4 := ⟨hbf.os, hbf.tape, hbf.output, hbf.size, hbf.block⟩
  have h4 := h1.of_below hbf'
  have k4 := k1.trans (Kept.of_below hbf')
  have d1 := h4.c1
  have d2 := h4.c2
  have g1 := h4.f1
  have g2 := h4.f2
  clear c0 c1 cr
  go_wp2
  go_ret
  exact ⟨rfl, h4.bad, k4.setCell _ _⟩

theorem tk_end {ws : List ByteArray} {nx : Nat} {wr : Bool} {B : ByteArray → Bool} (h : moreB ws.length nx wr = false) : tkB ws nx wr B = false := by simp [tkB, h]
theorem tk_is {ws : List ByteArray} {nx : Nat} {wr : Bool} {B : ByteArray → Bool} {b : Bool} (h : moreB ws.length nx wr = true) (hlt : nx < ws.length) (hb : B ws[nx] = b) : tkB ws nx wr B = b := by
  rw [tkB, h, getD_lt ws nx hlt, hb, Bool.true_and]

theorem takeNum_any (R A : Nat) (ws : List ByteArray) (nx : Nat) (wr : Bool) (w : World) (h : RS w R A ws nx wr) :
    Calls Tryz.prog 132 #[.pointer (some ⟨R, 0, none⟩), .func (.func 136) #[] #[]] w fun e w' => e = .returned (.int .i64 (tkV ws nx wr (fun s => Txt.isNum s.data.toList) (fun s => Txt.numV s.data.toList))) ∧ RS w' R A ws (tkN ws nx wr (fun s => Txt.isNum s.data.toList)) (tkW ws nx wr (fun s => Txt.isNum s.data.toList)) ∧ Kept R w w' := by
  cases hm : moreB ws.length nx wr
  · have t := tk_end (B := (fun s => Txt.isNum s.data.toList)) hm
    rw [tkV, tkN, tkW, t]
    exact takeInt_end _ R A ws nx wr w h hm
  · have hlt := moreB_lt hm
    cases hb : (fun s => Txt.isNum s.data.toList) ws[nx]
    · have t := tk_is (B := (fun s => Txt.isNum s.data.toList)) hm hlt hb
      rw [tkV, tkN, tkW, t]
      exact takeNum_no R A ws nx wr w h hm hlt (small (h.short _ (List.getElem_mem hlt))) hb
    · have t := tk_is (B := (fun s => Txt.isNum s.data.toList)) hm hlt hb
      rw [tkV, tkN, tkW, t, getD_lt ws nx hlt]
      exact takeNum_ok R A ws nx wr w h hm hlt (small (h.short _ (List.getElem_mem hlt))) hb

theorem takeDate_any (R A : Nat) (ws : List ByteArray) (nx : Nat) (wr : Bool) (w : World) (h : RS w R A ws nx wr) (he : Env w) :
    Calls Tryz.prog 132 #[.pointer (some ⟨R, 0, none⟩), .func (.func 133) #[] #[]] w fun e w' => e = .returned (.int .i64 (tkV ws nx wr Txt.dayB dayV)) ∧ RS w' R A ws (tkN ws nx wr Txt.dayB) (tkW ws nx wr Txt.dayB) ∧ Kept R w w' := by
  cases hm : moreB ws.length nx wr
  · have t := tk_end (B := Txt.dayB) hm
    rw [tkV, tkN, tkW, t]
    exact takeInt_end _ R A ws nx wr w h hm
  · have hlt := moreB_lt hm
    cases hb : Txt.dayB ws[nx]
    · have t := tk_is (B := Txt.dayB) hm hlt hb
      rw [tkV, tkN, tkW, t]
      exact takeDate_no R A ws nx wr w h he hm hlt hb
    · have t := tk_is (B := Txt.dayB) hm hlt hb
      rw [tkV, tkN, tkW, t, getD_lt ws nx hlt]
      exact takeDate_ok R A ws nx wr w h he hm hlt hb

theorem takeMinute_any (R A : Nat) (ws : List ByteArray) (nx : Nat) (wr : Bool) (w : World) (h : RS w R A ws nx wr) :
    Calls Tryz.prog 132 #[.pointer (some ⟨R, 0, none⟩), .func (.func 134) #[] #[]] w fun e w' => e = .returned (.int .i64 (tkV ws nx wr Txt.minB Txt.minV)) ∧ RS w' R A ws (tkN ws nx wr Txt.minB) (tkW ws nx wr Txt.minB) ∧ Kept R w w' := by
  cases hm : moreB ws.length nx wr
  · have t := tk_end (B := Txt.minB) hm
    rw [tkV, tkN, tkW, t]
    exact takeInt_end _ R A ws nx wr w h hm
  · have hlt := moreB_lt hm
    cases hb : Txt.minB ws[nx]
    · have t := tk_is (B := Txt.minB) hm hlt hb
      rw [tkV, tkN, tkW, t]
      exact takeMinute_no R A ws nx wr w h hm hlt hb
    · have t := tk_is (B := Txt.minB) hm hlt hb
      rw [tkV, tkN, tkW, t, getD_lt ws nx hlt]
      exact takeMinute_ok R A ws nx wr w h hm hlt hb

theorem takeTime_any (R A : Nat) (ws : List ByteArray) (nx : Nat) (wr : Bool) (w : World) (h : RS w R A ws nx wr) (he : Env w) :
    Calls Tryz.prog 132 #[.pointer (some ⟨R, 0, none⟩), .func (.func 137) #[] #[]] w fun e w' => e = .returned (.int .i64 (tkV ws nx wr timeB timW)) ∧ RS w' R A ws (tkN ws nx wr timeB) (tkW ws nx wr timeB) ∧ Kept R w w' := by
  cases hm : moreB ws.length nx wr
  · have t := tk_end (B := timeB) hm
    rw [tkV, tkN, tkW, t]
    exact takeInt_end _ R A ws nx wr w h hm
  · have hlt := moreB_lt hm
    cases hb : timeB ws[nx]
    · have t := tk_is (B := timeB) hm hlt hb
      rw [tkV, tkN, tkW, t]
      exact takeTime_no R A ws nx wr w h he hm hlt hb
    · have t := tk_is (B := timeB) hm hlt hb
      rw [tkV, tkN, tkW, t, getD_lt ws nx hlt]
      exact takeTime_ok R A ws nx wr w h he hm hlt hb

theorem takeWithin_any (L M : Nat) (lo hi : Int) (R A : Nat) (ws : List ByteArray) (nx : Nat) (wr : Bool) (w : World) (h : RS w R A ws nx wr) (cl : w.cell? ⟨L, 0, none⟩ = some (.int .i64 lo)) (cm : w.cell? ⟨M, 0, none⟩ = some (.int .i64 hi)) :
    Calls Tryz.prog 132 #[.pointer (some ⟨R, 0, none⟩), .func (.func 183) #[] #[.pointer (some ⟨L, 0, none⟩), .pointer (some ⟨M, 0, none⟩)]] w fun e w' => e = .returned (.int .i64 (tkV ws nx wr (fun s => withinB s lo hi) (fun s => Txt.numV s.data.toList))) ∧ RS w' R A ws (tkN ws nx wr (fun s => withinB s lo hi)) (tkW ws nx wr (fun s => withinB s lo hi)) ∧ Kept R w w' := by
  cases hm : moreB ws.length nx wr
  · have t := tk_end (B := (fun s => withinB s lo hi)) hm
    rw [tkV, tkN, tkW, t]
    exact takeInt_end _ R A ws nx wr w h hm
  · have hlt := moreB_lt hm
    cases hb : (fun s => withinB s lo hi) ws[nx]
    · have t := tk_is (B := (fun s => withinB s lo hi)) hm hlt hb
      rw [tkV, tkN, tkW, t]
      exact takeWithin_no L M lo hi R A ws nx wr w h cl cm hm hlt hb
    · have t := tk_is (B := (fun s => withinB s lo hi)) hm hlt hb
      rw [tkV, tkN, tkW, t, getD_lt ws nx hlt]
      exact takeWithin_ok L M lo hi R A ws nx wr w h cl cm hm hlt hb

def tkS (ws : List ByteArray) (nx : Nat) (wr : Bool) : ByteArray := if tkB ws nx wr (fun s => Txt.isName s.data.toList) then nameV (ws.getD nx ByteArray.empty) else ⟨#[]⟩
theorem takeName_any (R A : Nat) (ws : List ByteArray) (nx : Nat) (wr : Bool) (w : World) (h : RS w R A ws nx wr) :
    Calls Tryz.prog 127 #[.pointer (some ⟨R, 0, none⟩), .func (.func 128) #[] #[]] w fun e w' => e = .returned (.string (tkS ws nx wr)) ∧ RS w' R A ws (tkN ws nx wr (fun s => Txt.isName s.data.toList)) (tkW ws nx wr (fun s => Txt.isName s.data.toList)) ∧ Kept R w w' := by
  cases hm : moreB ws.length nx wr
  · have t := tk_end (B := fun s => Txt.isName s.data.toList) hm
    rw [tkS, tkN, tkW, t]
    exact takeStr_end _ R A ws nx wr w h hm
  · have hlt := moreB_lt hm
    cases hb : Txt.isName ws[nx].data.toList
    · have t := tk_is (B := fun s => Txt.isName s.data.toList) hm hlt hb
      rw [tkS, tkN, tkW, t]
      exact takeName_no R A ws nx wr w h hm hlt hb
    · have t := tk_is (B := fun s => Txt.isName s.data.toList) hm hlt hb
      rw [tkS, tkN, tkW, t, getD_lt ws nx hlt]
      exact takeName_ok R A ws nx wr w h hm hlt hb

end Go.Proofs.YtjfkfiffakbagaaGreatDoor

