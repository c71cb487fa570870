/-
  Parts of the proof, one behind the other: BothPlain, PlaysDates, PlaysLines, Laid, CardKit, LinesFacts, LinesJoin.
-/
import Derived.Test.YtjfkfiffakbagaaGreatDoorL10
import Derived.Test.YtjfkfiffakbagaaGreatDoorRows
import Derived.Test.YtjfkfiffakbagaaGreatDoorCards
import Derived.Test.YtjfkfiffakbagaaGreatDoorTie
import Derived.WalkKit
import Derived.ProofKit
import Derived.Deep.DeepWitnessRowRef
import Derived.LaidLaws
import Derived.OpenShut
import Derived.Deep.Slices
import Derived.Deep.DeepHandedRow
import Derived.Lib.LaidTab
/-
  The walk over the program's Plain: its answer is the document's.
-/
namespace Go.Proofs.YtjfkfiffakbagaaGreatDoor
open Go.RowKit

set_option maxRecDepth 100000 in
set_option maxHeartbeats 2000000 in
theorem bPlain_any (s : ByteArray) (w : World) (he : Env w) :
    Calls Tryz.prog 73 #[.string s] w fun e w' => PR s e ∧ Below w.heap.size w w' := by
  have HE := hide he
  clear he
  go_enter Tryz.func73, Tryz.ntmps73
  go_wp2_with fail
  refine (read_any s w (unhide HE)).mono ?_
  rintro e w1 ⟨hr, hb1⟩
  cases hr with
  | long h =>
    have HH := hide h
    clear h
    go_wp2
    go_ret3
    exact ⟨.inl ⟨HH.out, rfl⟩, hb1⟩
  | bad h v st hl hb =>
    have HN := hide (line_none hl hb)
    have HH := hide h
    clear h hl hb
    go_wp2
    go_ret3
    exact ⟨.inr ⟨HH.out, .inr ⟨st.1, HN.out, rfl⟩⟩, hb1⟩
  | good h v st hl h2 hb =>
    obtain ⟨p, xs, hsc, hpw, x0, x1, hout⟩ := line_same hl h2 hb
    have hsz : (jn xs).size ≤ 30000 := by
      have ⟨l1, l2⟩ := scan_some _ _ _ _ hsc
      have hz := outR_size p (Txt.wordsS s) l1 l2 (fun x hx => Nat.le_trans (words_small s x hx) h) (Txt.wordsS s).length (Nat.le_refl _)
      rw [hout] at hz
      have := words_len2 s
      omega
    have HSC := hide hsc
    have HOUT := hide hout
    have HH := hide h
    have HPW := hide hpw
    clear hsc hout h hl h2 hb hpw
    go_wp2_with fail
    refine (plain_any v xs (unhide HPW) w1 ((unhide HE).later hb1) x0 x1 hsz).mono ?_
    rintro e w2 ⟨rfl, hb2⟩
    have hbb := below_more hb1 hb2
    go_wp2
    go_ret3
    exact ⟨.inr ⟨HH.out, .inl ⟨p, HSC.out, by rw [HOUT.out]; rfl⟩⟩, hbb⟩

end Go.Proofs.YtjfkfiffakbagaaGreatDoor

/-
  The walk over the law's plays at the kinds 1 and 2 alone (Dates): every step answers true, the book stays empty.
-/
namespace Go.Proofs.YtjfkfiffakbagaaGreatDoor
open Go.RowKit

/-- A step of a script lies at a place: its six fields. -/
def OpAt (w : World) (b o : Nat) : Prop :=
  ∃ (k a y m d : Int) (s : ByteArray), w.cell? ⟨b, o, none⟩ = some (.int .i64 k) ∧ w.cell? ⟨b, o + 1, none⟩ = some (.int .i64 a) ∧ w.cell? ⟨b, o + 2, none⟩ = some (.int .i64 y) ∧ w.cell? ⟨b, o + 3, none⟩ = some (.int .i64 m) ∧ w.cell? ⟨b, o + 4, none⟩ = some (.int .i64 d) ∧ w.cell? ⟨b, o + 5, none⟩ = some (.string s) ∧ -9223372036854775808 ≤ d ∧ d ≤ 9223372036854775807

theorem OpAt.later {w wx : World} {b o : Nat} (h : OpAt w b o) (hb : Below w.heap.size w wx) : OpAt wx b o := by
  obtain ⟨k, a, y, m, d, s, c0, c1, c2, c3, c4, c5, hd⟩ := h
  exact ⟨k, a, y, m, d, s, cell_later hb c0, cell_later hb c1, cell_later hb c2, cell_later hb c3, cell_later hb c4, cell_later hb c5, hd⟩

set_option maxRecDepth 100000 in
set_option maxHeartbeats 1000000 in
theorem plays_dates_empty (a0 : Option Addr) (cap : Nat) (w : World) :
    Calls Tryz.prog 14 #[.slice a0 0 cap, .int .i64 1, .int .i64 2] w fun e w' => e = .returned (.bool true) ∧ Below w.heap.size w w' := by
  go_enter Tryz.func14, Tryz.ntmps14
  go_wp2
  go_loop [9, 10, 11] (fun i _ _ => i = .int .i64 0) (fun _ _ _ => 0)
  case atStart => rfl
  case round =>
    obtain rfl := hrel
    go_wp2
    go_ret
    exact ⟨rfl, (Below.refl _ _).alloc (Nat.le_refl _) _⟩

set_option maxRecDepth 100000 in
set_option maxHeartbeats 1000000 in
theorem plays_dates_some (b off len cap : Nat) (w : World) (ht : Tab w) (hl : len ≤ maxLen) (hops : ∀ i, i < len → OpAt w b (off + i * 6)) :
    Calls Tryz.prog 14 #[.slice (some ⟨b, off, none⟩) len cap, .int .i64 1, .int .i64 2] w fun e w' => e = .returned (.bool true) ∧ Below w.heap.size w w' := by
  unfold maxLen at hl
  have HO := hide hops
  clear hops
  go_enter Tryz.func14, Tryz.ntmps14
  go_wp2
  obtain ⟨W, hW⟩ : ∃ W, W = w.alloc (.cells #[.slice none 0 0, .slice none 0 0, .slice none 0 0, .slice none 0 0, .slice none 0 0] 84) := ⟨_, rfl⟩
  rw [← hW]
  have hB : Below w.heap.size w W := by rw [hW]; exact (Below.refl _ _).alloc (Nat.le_refl _) _
  have hs : w.heap.size < W.heap.size := by rw [hW]; simp
  have c0 : W.cell? ⟨w.heap.size, 2, none⟩ = some (.slice none 0 0) := by rw [hW]; simp
  have c1 : W.cell? ⟨w.heap.size, 3, none⟩ = some (.slice none 0 0) := by rw [hW]; simp
  have c2 : W.cell? ⟨w.heap.size, 4, none⟩ = some (.slice none 0 0) := by rw [hW]; simp
  have HT := hide (ht.later hB)
  have HP : Hid (∀ i, i < len → OpAt W b (off + i * 6)) := fun i hi => (unhide HO i hi).later hB
  clear hW HO ht
  go_loopw [9, 10, 11] (fun i _ _ wx => ∃ k : Nat, k ≤ len ∧ i = .int .i64 k ∧ Below W.heap.size W wx) (fun i _ _ _ => len - (intOf i).toNat)
  case atStart => exact ⟨0, Nat.zero_le _, rfl, Below.refl _ _⟩
  case round =>
    obtain ⟨k, hk, rfl, hbx⟩ := hrel
    by_cases hlt : k < len
    · obtain ⟨kd, a, y, m, d, s, f0, f1, f2, f3, f4, f5, hd1, hd2⟩ := (unhide HP k hlt).later hbx
      have hkd : kd < 1 ∨ (¬ kd < 1 ∧ 2 < kd) ∨ kd = 1 ∨ kd = 2 := by omega
      rcases hkd with h | ⟨h, h'⟩ | rfl | rfl
      · go_wp2
        exact ⟨⟨k + 1, by omega, by go_num, hbx⟩, by simp [intOf]; omega⟩
      · go_wp2
        exact ⟨⟨k + 1, by omega, by go_num, hbx⟩, by simp [intOf]; omega⟩
      · go_wp2_with fail
        refine (step_day _ _ _ _ _ _ _ ((unhide HT).later hbx)).mono ?_
        rintro e w1 ⟨rfl, hb1⟩
        have hbw : Below W.heap.size W w1 := hbx.trans (hb1.mono hbx.size)
        have d0 := cell_later hbw c0
        have d1 := cell_later hbw c1
        have d2 := cell_later hbw c2
        go_wp2_with fail
        refine (looks_empty _ _ d0 d1 d2).mono ?_
        rintro e w2 ⟨rfl, rfl⟩
        go_wp2
        exact ⟨⟨k + 1, by omega, by go_num, hbw⟩, by simp [intOf]; omega⟩
      · go_wp2_with fail
        refine (step_date _ _ _ _ _ _ _ ((unhide HT).later hbx) hd1 hd2).mono ?_
        rintro e w1 ⟨rfl, hb1⟩
        have hbw : Below W.heap.size W w1 := hbx.trans (hb1.mono hbx.size)
        have d0 := cell_later hbw c0
        have d1 := cell_later hbw c1
        have d2 := cell_later hbw c2
        go_wp2_with fail
        refine (looks_empty _ _ d0 d1 d2).mono ?_
        rintro e w2 ⟨rfl, rfl⟩
        go_wp2
        exact ⟨⟨k + 1, by omega, by go_num, hbw⟩, by simp [intOf]; omega⟩
    · go_wp2
      go_ret
      exact ⟨rfl, hB.trans (hbx.mono (Nat.le_of_lt hs))⟩

set_option maxHeartbeats 1000000 in
theorem dates_empty (a0 : Option Addr) (cap : Nat) (w : World) :
    Calls Tryz.prog 3 #[.slice a0 0 cap] w fun e w' => e = .returned (.bool true) ∧ Below w.heap.size w w' := by
  go_enter Tryz.func3, Tryz.ntmps3
  go_wp2_with fail
  refine (plays_dates_empty _ _ _).mono ?_
  rintro e w1 ⟨rfl, hb1⟩
  go_wp2
  go_ret
  exact ⟨rfl, hb1⟩

set_option maxHeartbeats 1000000 in
theorem dates_some (b off len cap : Nat) (w : World) (ht : Tab w) (hl : len ≤ maxLen) (hops : ∀ i, i < len → OpAt w b (off + i * 6)) :
    Calls Tryz.prog 3 #[.slice (some ⟨b, off, none⟩) len cap] w fun e w' => e = .returned (.bool true) ∧ Below w.heap.size w w' := by
  have HO := hide hops
  clear hops
  go_enter Tryz.func3, Tryz.ntmps3
  go_wp2_with fail
  refine (plays_dates_some _ _ _ _ _ ht hl (unhide HO)).mono ?_
  rintro e w1 ⟨rfl, hb1⟩
  go_wp2
  go_ret
  exact ⟨rfl, hb1⟩

end Go.Proofs.YtjfkfiffakbagaaGreatDoor

/-
  The walks over the law's plain (both sides answer alike), its step at the kind 3, and its plays at that kind alone (Lines).
-/
namespace Go.Proofs.YtjfkfiffakbagaaGreatDoor
open Go.RowKit

theorem PR_form {s : ByteArray} {e : Ending} (h : PR s e) : ∃ (t : ByteArray) (k m : Int), e = .returned (.tuple #[.string t, .int .i64 k, .int .i64 m]) := by
  rcases h with ⟨_, h⟩ | ⟨_, ⟨p, _, h⟩ | ⟨m, _, h⟩⟩
  · exact ⟨_, _, _, h⟩
  · exact ⟨_, _, _, h⟩
  · exact ⟨_, _, _, h⟩
theorem PR_same {s : ByteArray} {e f : Ending} (h : PR s e) (k : PR s f) : f = e := by
  rcases h with ⟨a, h⟩ | ⟨a, ⟨p, hp, h⟩ | ⟨m, hm, h⟩⟩ <;> rcases k with ⟨b, k⟩ | ⟨b, ⟨q, hq, k⟩ | ⟨n, hn, k⟩⟩
  · rw [h, k]
  · omega
  · omega
  · omega
  · have e1 := hp.symm.trans hq
    simp only [Prod.mk.injEq, Option.some.injEq, and_true] at e1
    subst e1
    rw [h, k]
  · have e1 := hp.symm.trans hn
    simp at e1
  · omega
  · have e1 := hm.symm.trans hq
    simp at e1
  · have e1 := hm.symm.trans hn
    simp only [Prod.mk.injEq, true_and] at e1
    subst e1
    rw [h, k]

set_option maxRecDepth 100000 in
set_option maxHeartbeats 1000000 in
theorem lawPlain_any (s : ByteArray) (w : World) (he : Env w) :
    Calls Tryz.prog 52 #[.string s] w fun e w' => e = .returned (.bool true) ∧ Below w.heap.size w w' := by
  have HE := hide he
  clear he
  go_enter Tryz.func52, Tryz.ntmps52
  go_wp2_with fail
  refine (bPlain_any s w (unhide HE)).mono ?_
  rintro e w1 ⟨h1, hb1⟩
  have H1 := hide h1
  obtain ⟨t, k, m, rfl⟩ := PR_form h1
  clear h1
  go_wp2_with fail
  refine (refPlain_any s w1 ((unhide HE).later hb1)).mono ?_
  rintro e w2 ⟨h2, hb2⟩
  obtain rfl := PR_same (unhide H1) h2
  have hbb := below_more hb1 hb2
  clear h2 H1
  go_wp2
  go_ret
  exact ⟨ret_bool (by simp), hbb⟩

set_option maxRecDepth 100000 in
set_option maxHeartbeats 1000000 in
theorem step_plain (p : Value) (a y m d : Int) (s : ByteArray) (w : World) (he : Env w) :
    Calls Tryz.prog 39 #[p, .agg #[.int .i64 3, .int .i64 a, .int .i64 y, .int .i64 m, .int .i64 d, .string s]] w fun e w' => e = .returned (.bool true) ∧ Below w.heap.size w w' := by
  have hb : ∀ o, Below w.heap.size w (w.alloc o) := fun o => (Below.refl _ _).alloc (Nat.le_refl _) o
  have HB := hide hb
  clear hb
  go_enter Tryz.func39, Tryz.ntmps39
  go_wp2_with fail
  refine (lawPlain_any _ _ (he.later (unhide HB _))).mono ?_
  rintro e w' ⟨rfl, hb1⟩
  go_wp2
  go_ret
  exact ⟨rfl, (unhide HB _).trans (hb1.mono (by simp))⟩

set_option maxRecDepth 100000 in
set_option maxHeartbeats 1000000 in
theorem plays_lines_empty (a0 : Option Addr) (cap : Nat) (w : World) :
    Calls Tryz.prog 14 #[.slice a0 0 cap, .int .i64 3, .int .i64 3] w fun e w' => e = .returned (.bool true) ∧ Below w.heap.size w w' := by
  go_enter Tryz.func14, Tryz.ntmps14
  go_wp2
  go_loop [9, 10, 11] (fun i _ _ => i = .int .i64 0) (fun _ _ _ => 0)
  case atStart => rfl
  case round =>
    obtain rfl := hrel
    go_wp2
    go_ret
    exact ⟨rfl, (Below.refl _ _).alloc (Nat.le_refl _) _⟩

set_option maxRecDepth 100000 in
set_option maxHeartbeats 1000000 in
theorem plays_lines_some (b off len cap : Nat) (w : World) (he : Env w) (hl : len ≤ maxLen) (hops : ∀ i, i < len → OpAt w b (off + i * 6)) :
    Calls Tryz.prog 14 #[.slice (some ⟨b, off, none⟩) len cap, .int .i64 3, .int .i64 3] w fun e w' => e = .returned (.bool true) ∧ Below w.heap.size w w' := by
  unfold maxLen at hl
  have HO := hide hops
  clear hops
  go_enter Tryz.func14, Tryz.ntmps14
  go_wp2
  obtain ⟨W, hW⟩ : ∃ W, W = w.alloc (.cells #[.slice none 0 0, .slice none 0 0, .slice none 0 0, .slice none 0 0, .slice none 0 0] 84) := ⟨_, rfl⟩
  rw [← hW]
  have hB : Below w.heap.size w W := by rw [hW]; exact (Below.refl _ _).alloc (Nat.le_refl _) _
  have hs : w.heap.size < W.heap.size := by rw [hW]; simp
  have c0 : W.cell? ⟨w.heap.size, 2, none⟩ = some (.slice none 0 0) := by rw [hW]; simp
  have c1 : W.cell? ⟨w.heap.size, 3, none⟩ = some (.slice none 0 0) := by rw [hW]; simp
  have c2 : W.cell? ⟨w.heap.size, 4, none⟩ = some (.slice none 0 0) := by rw [hW]; simp
  have HT := hide (he.later hB)
  have HP : Hid (∀ i, i < len → OpAt W b (off + i * 6)) := fun i hi => (unhide HO i hi).later hB
  clear hW HO he
  go_loopw [9, 10, 11] (fun i _ _ wx => ∃ k : Nat, k ≤ len ∧ i = .int .i64 k ∧ Below W.heap.size W wx) (fun i _ _ _ => len - (intOf i).toNat)
  case atStart => exact ⟨0, Nat.zero_le _, rfl, Below.refl _ _⟩
  case round =>
    obtain ⟨k, hk, rfl, hbx⟩ := hrel
    by_cases hlt : k < len
    · obtain ⟨kd, a, y, m, d, s, f0, f1, f2, f3, f4, f5, hd1, hd2⟩ := (unhide HP k hlt).later hbx
      have hkd : kd < 3 ∨ (¬ kd < 3 ∧ 3 < kd) ∨ kd = 3 := by omega
      rcases hkd with h | ⟨h, h'⟩ | rfl
      · go_wp2
        exact ⟨⟨k + 1, by omega, by go_num, hbx⟩, by simp [intOf]; omega⟩
      · go_wp2
        exact ⟨⟨k + 1, by omega, by go_num, hbx⟩, by simp [intOf]; omega⟩
      · go_wp2_with fail
        refine (step_plain _ _ _ _ _ _ _ ((unhide HT).later hbx)).mono ?_
        rintro e w1 ⟨rfl, hb1⟩
        have hbw : Below W.heap.size W w1 := hbx.trans (hb1.mono hbx.size)
        have d0 := cell_later hbw c0
        have d1 := cell_later hbw c1
        have d2 := cell_later hbw c2
        go_wp2_with fail
        refine (looks_empty _ _ d0 d1 d2).mono ?_
        rintro e w2 ⟨rfl, rfl⟩
        go_wp2
        exact ⟨⟨k + 1, by omega, by go_num, hbw⟩, by simp [intOf]; omega⟩
    · go_wp2
      go_ret
      exact ⟨rfl, hB.trans (hbx.mono (Nat.le_of_lt hs))⟩

set_option maxHeartbeats 1000000 in
theorem lines_empty (a0 : Option Addr) (cap : Nat) (w : World) :
    Calls Tryz.prog 4 #[.slice a0 0 cap] w fun e w' => e = .returned (.bool true) ∧ Below w.heap.size w w' := by
  go_enter Tryz.func4, Tryz.ntmps4
  go_wp2_with fail
  refine (plays_lines_empty _ _ _).mono ?_
  rintro e w1 ⟨rfl, hb1⟩
  go_wp2
  go_ret
  exact ⟨rfl, hb1⟩

set_option maxHeartbeats 1000000 in
theorem lines_some (b off len cap : Nat) (w : World) (he : Env w) (hl : len ≤ maxLen) (hops : ∀ i, i < len → OpAt w b (off + i * 6)) :
    Calls Tryz.prog 4 #[.slice (some ⟨b, off, none⟩) len cap] w fun e w' => e = .returned (.bool true) ∧ Below w.heap.size w w' := by
  have HO := hide hops
  clear hops
  go_enter Tryz.func4, Tryz.ntmps4
  go_wp2_with fail
  refine (plays_lines_some _ _ _ _ _ he hl (unhide HO)).mono ?_
  rintro e w1 ⟨rfl, hb1⟩
  go_wp2
  go_ret
  exact ⟨rfl, hb1⟩

end Go.Proofs.YtjfkfiffakbagaaGreatDoor

/-
  A world that holds what the program's text lays in the listed package variables: for the witnesses alone.
-/
namespace Go.Proofs.YtjfkfiffakbagaaGreatDoor.Laid

def val : DataW Unit → Value
  | .lit (.int k n) => .int k n
  | .lit (.string b) => .string ⟨b.toArray⟩
  | _ => .bool false
def row : DataW Unit → List Value
  | .agg l => l.map val
  | _ => []
def rows : DataW Unit → List Value
  | .agg l => l.flatMap row
  | _ => []
def text : DataW Unit → Value
  | .iface _ (.ptr (.agg [d])) => val d
  | _ => .bool false
def put (l : List Value) : Obj → Obj
  | .cells _ t frozen => .cells l.toArray t frozen
  | o => o
/-- The listed variables, laid into a world; the two errors lie in two blocks behind all others. -/
def tabs (w : World) : World :=
  { w with heap := (((((((((w.heap.modify 0 (put (row Rows.laid_bookings_calendar_monthDays))).modify 1 (put (row Rows.laid_internal_strconv_uint64pow10))).modify 5 (put [.iface 365 (.pointer (some ⟨w.heap.size, 0, none⟩))])).modify 6 (put [.iface 365 (.pointer (some ⟨w.heap.size + 1, 0, none⟩))])).modify 2 (put (row Rows.laid_bookings_lines_weekdays))).modify 3 (put (row Rows.laid_math_bits_deBruijn32tab))).modify 4 (put (row Rows.laid_math_bits_deBruijn64tab))).modify 8 (put (row Rows.laid_unicode_utf8_first))).modify 9 (put (rows Rows.laid_unicode_utf8_acceptRanges))).push (.cells #[text Rows.laid_strconv_ErrSyntax] 367) |>.push (.cells #[text Rows.laid_strconv_ErrRange] 367) }

set_option maxRecDepth 100000 in
theorem met (os : Os) : laidMet Tryz.prog Rows.datesRow.laid ((tabs (World.holding Tryz.prog os ⟨#[], #[], []⟩)).forCall (fun _ _ => 0) ⟨#[], #[.slice none 0 0], []⟩).memory :=
  laidMet_of_run' 8 (by kernel_rfl) (by kernel_rfl)

end Go.Proofs.YtjfkfiffakbagaaGreatDoor.Laid

/-
  What the cards of Dates and Lines share: the script opened, the table of the months out of the row's list.
-/
namespace Go.Proofs.YtjfkfiffakbagaaGreatDoor.datesLaw
open Go.ChangeShapes Go.WideShapes Go.ChangeAt Go.RowKit

theorem own : ownKnob Tryz.prog.godebug = none := by kernel_rfl
theorem laidOut : laidOutB Tryz.prog = true := by kernel_rfl
def tabName : String := Rows.datesRow.named.getD 0 Rows.datesRow.func
theorem gTab : Tryz.prog.globalNamed tabName = some 0 := by kernel_rfl
theorem gTabType : (Tryz.prog.globals[0]?).map (·.type) = some 199 := by kernel_rfl
theorem cellsTab : Tryz.prog.cellsOf 199 = 12 := by kernel_rfl
theorem cellsInt : Tryz.prog.cellsOf 3 = 1 := by kernel_rfl
theorem cellsStr : Tryz.prog.cellsOf 9 = 1 := by kernel_rfl
theorem cellsOp : Tryz.prog.cellsOf 87 = 6 := by kernel_rfl

/-- What the row's list gives: the table's cells hold its twelve numbers. -/
theorem table {W : World} (h : laidMetH Tryz.prog Rows.datesRow.laid W) : Lib.TabIs Tryz.prog W tabName .i64 [31, 28, 31, 30, 31, 30, 31, 31, 30, 31, 30, 31] :=
  Lib.tabIs_of_head gTab gTabType Tryz.underlying199 Tryz.underlying3 cellsInt cellsTab h
theorem tab {W : World} (h : laidMetH Tryz.prog Rows.datesRow.laid W) : Tab W :=
  ⟨(table h).cell gTab 0 (by decide), (table h).cell gTab 1 (by decide), (table h).cell gTab 2 (by decide), (table h).cell gTab 3 (by decide), (table h).cell gTab 4 (by decide), (table h).cell gTab 5 (by decide), (table h).cell gTab 6 (by decide), (table h).cell gTab 7 (by decide), (table h).cell gTab 8 (by decide), (table h).cell gTab 9 (by decide), (table h).cell gTab 10 (by decide), (table h).cell gTab 11 (by decide)⟩

theorem six {α : Type} {l : List α} (h : l.length = 6) : ∃ a b c d e f, l = [a, b, c, d, e, f] := by
  match l, h with
  | [a, b, c, d, e, f], _ => exact ⟨a, b, c, d, e, f, rfl⟩

/-- One element of the script, opened. -/
theorem op_at {H : Type} {enc : TypeId × Value → H} {W : World} {base : Nat} {spare : Nat → Bool} {held : Bool} {n b off : Nat} {cs : List Value} {x : DataW H × List MemPlace} (k : Nat)
    (hc : W.cells? base (Addr.add ⟨b, off, none⟩ (k * 6)) 6 = some cs) (h : DataW.trod enc Tryz.prog W base spare held n 87 cs = some x) : OpAt W b (off + k * 6) := by
  obtain ⟨xs, n', _, _, hlen, hxl, hf⟩ := DataW.trod_struct Tryz.underlying87 h
  rw [cellsOp] at hlen
  obtain ⟨c0, c1, c2, c3, c4, c5, rfl⟩ := six hlen
  obtain ⟨x0, x1, x2, x3, x4, x5, rfl⟩ := six (show xs.length = 6 from hxl)
  have f0 := hf 0 _ rfl
  have f1 := hf 1 _ rfl
  have f2 := hf 2 _ rfl
  have f3 := hf 3 _ rfl
  have f4 := hf 4 _ rfl
  have f5 := hf 5 _ rfl
  simp only [List.getElem_toArray, List.getElem_cons_zero, List.getElem_cons_succ, cellsInt, cellsStr, List.drop, List.take, List.getElem?_cons_zero, List.getElem?_cons_succ] at f0 f1 f2 f3 f4 f5
  obtain ⟨i0, e0, _, _⟩ := DataW.trod_int Tryz.underlying3 f0
  obtain ⟨i1, e1, _, _⟩ := DataW.trod_int Tryz.underlying3 f1
  obtain ⟨i2, e2, _, _⟩ := DataW.trod_int Tryz.underlying3 f2
  obtain ⟨i3, e3, _, _⟩ := DataW.trod_int Tryz.underlying3 f3
  obtain ⟨i4, e4, _, w4⟩ := DataW.trod_int Tryz.underlying3 f4
  obtain ⟨i5, e5, _, _⟩ := DataW.trod_string Tryz.underlying9 f5
  simp only [List.cons.injEq, and_true] at e0 e1 e2 e3 e4 e5
  subst e0 e1 e2 e3 e4 e5
  obtain ⟨_, _, hcs⟩ := World.cells?_some hc
  have g0 := hcs 0 (by decide)
  have g1 := hcs 1 (by decide)
  have g2 := hcs 2 (by decide)
  have g3 := hcs 3 (by decide)
  have g4 := hcs 4 (by decide)
  have g5 := hcs 5 (by decide)
  have bd := bounds_i64 w4
  have ad : ∀ j, Addr.add (Addr.add ⟨b, off, none⟩ (k * 6)) j = ⟨b, off + k * 6 + j, none⟩ := fun j => by rw [Deep.add_add, Addr.add]; simp [Nat.add_assoc]
  simp only [ad, List.getElem?_cons_zero, List.getElem?_cons_succ] at g0 g1 g2 g3 g4 g5
  exact ⟨i0, i1, i2, i3, i4, i5, g0, g1, g2, g3, g4, g5, bd.1, bd.2⟩

end Go.Proofs.YtjfkfiffakbagaaGreatDoor.datesLaw

/-
  The closed facts of the row of Lines.
-/
namespace Go.Proofs.YtjfkfiffakbagaaGreatDoor.linesLaw
open Go

theorem and2 {a b : Bool} (h : a = true) (k : b = true) : (a && b) = true := by rw [h, k]; rfl
theorem j1 : (Rows.linesRow.wf (OpenSpec.ofChange (OpenSpec.ofChange Rows.linesSpec).bare)) = true := by kernel_rfl
theorem j2 : (laidOutB Tryz.pinned.checked.prog) = true := by kernel_rfl
theorem j3 : (mapsRowed Tryz.pinned.checked.prog) = true := by kernel_rfl
theorem j4 : (Tryz.f4.params.all (Tryz.pinned.checked.prog.readableRec ·)) = true := by kernel_rfl
theorem j5 : (namedTie Tryz.pinned.checked.prog Rows.linesRow.named (OpenSpec.ofChange Rows.linesSpec).bare.vars) = true := by kernel_rfl
theorem j6 : ((Rows.linesRow.stops == [])) = true := by kernel_rfl
theorem j7 : ((Tryz.pinned.checked.prog.stops == [])) = true := by kernel_rfl
theorem j8 : ((Rows.linesRow.knobs == [])) = true := by kernel_rfl
theorem j9 : ((Tryz.pinned.checked.prog.stopKnobs == [])) = true := by kernel_rfl
theorem j10 : ((Rows.linesRow.inPlace == Tryz.pinned.checked.prog.inPlace 4)) = true := by kernel_rfl
theorem j11 : ((Rows.linesRow.unfollowed == Tryz.pinned.checked.prog.unfollowed 4)) = true := by kernel_rfl
theorem j12 : ((Rows.linesRow.recurses == Tryz.pinned.checked.prog.recurses 4)) = true := by kernel_rfl
theorem j13 : ((Rows.linesRow.named == Tryz.pinned.checked.prog.varsNamed 4)) = true := by kernel_rfl
theorem j14 : ((Rows.linesRow.maps == (Tryz.f4.params.toList ++ (OpenSpec.ofChange Rows.linesSpec).bare.plain.varTypes Tryz.pinned.checked.prog).any (Tryz.pinned.checked.prog.mapsRec ·))) = true := by kernel_rfl
theorem j15 : ((Rows.linesRow.ifaces == (Tryz.f4.params.toList ++ (OpenSpec.ofChange Rows.linesSpec).bare.plain.varTypes Tryz.pinned.checked.prog).any (Tryz.pinned.checked.prog.ifacesRec ·))) = true := by kernel_rfl
theorem j16 : ((Rows.linesRow.mapsOut == Tryz.pinned.checked.prog.mapsAmong Tryz.f4.resultTypes.toList)) = true := by kernel_rfl
theorem j17 : ((Rows.linesRow.loops == (Tryz.f4.params.toList ++ (OpenSpec.ofChange Rows.linesSpec).bare.plain.varTypes Tryz.pinned.checked.prog).any (Tryz.pinned.checked.prog.loopsFrom ·))) = true := by kernel_rfl
theorem j18 : ((Rows.linesRow.wideKeys == (Tryz.f4.params.toList ++ (OpenSpec.ofChange Rows.linesSpec).bare.plain.varTypes Tryz.pinned.checked.prog ++ Tryz.f4.resultTypes.toList).any (Tryz.pinned.checked.prog.wideKeysFrom ·))) = true := by kernel_rfl
theorem j19 : ((OpenSpec.ofChange Rows.linesSpec).bare.vars.all (Tryz.pinned.checked.prog.varReadable ·)) = true := by kernel_rfl
theorem j20 : (Tryz.f4.resultTypes.all (fun t => Tryz.pinned.checked.prog.readableRec t && decide (t < Tryz.pinned.checked.prog.types.size))) = true := by kernel_rfl
theorem j21 : ((Rows.linesRow.ifacesOut == Tryz.f4.resultTypes.toList.any (Tryz.pinned.checked.prog.ifacesRec ·))) = true := by kernel_rfl
theorem j22 : ((Rows.linesRow.loopsOut == Tryz.f4.resultTypes.toList.any (Tryz.pinned.checked.prog.loopsFrom ·))) = true := by kernel_rfl
theorem j23 : ((Rows.linesRow.plainKeys == Tryz.pinned.checked.prog.plainKeys)) = true := by kernel_rfl
theorem j24 : (Rows.linesRow.shortTexts.isNone) = true := by kernel_rfl
theorem j25 : (Tryz.pinned.checked.prog.stopsHeard) = true := by kernel_rfl
theorem j26 : (Tryz.pinned.checked.prog.mayEnter) = true := by kernel_rfl
theorem j27 : ((Rows.linesRow.lifted == Tryz.pinned.checked.prog.liftsFinal)) = true := by kernel_rfl
theorem j28 : ((Tryz.pinned.checked.prog.make == some Rows.linesRow.make)) = true := by kernel_rfl
theorem j29 : ((Rows.linesRow.kinds == (if Rows.linesRow.domain.isEmpty then [] else Tryz.f4.params.toList.map fun t => match Tryz.pinned.checked.prog.underlying t with | some (.int k) => some k | _ => none))) = true := by kernel_rfl
theorem j30 : ((Rows.linesRow.pinned == Rows.linesRow.pinnedBy)) = true := by kernel_rfl
theorem j31 : ((Rows.linesRow.veiled == (Tryz.f4.params.toList ++ (OpenSpec.ofChange Rows.linesSpec).bare.plain.varTypes Tryz.pinned.checked.prog ++ Tryz.f4.resultTypes.toList).any (Tryz.pinned.checked.prog.veiledRec ·))) = true := by kernel_rfl
theorem j32 : (Rows.linesRow.veiledFits Tryz.pinned.checked.prog Tryz.f4.params.toList (Tryz.f4.params.toList ++ (OpenSpec.ofChange Rows.linesSpec).bare.plain.varTypes Tryz.pinned.checked.prog ++ Tryz.f4.resultTypes.toList)) = true := by kernel_rfl

end Go.Proofs.YtjfkfiffakbagaaGreatDoor.linesLaw

/-
  The closed facts of the row of Lines, together.
-/
namespace Go.Proofs.YtjfkfiffakbagaaGreatDoor.linesLaw
open Go

set_option maxRecDepth 100000 in
theorem joined : joinedFacts Tryz.pinned.checked.prog 4 Tryz.f4 (OpenSpec.ofChange Rows.linesSpec).bare Rows.linesRow = true := (and2 (and2 (and2 (and2 (and2 (and2 (and2 (and2 (and2 (and2 (and2 (and2 (and2 (and2 (and2 (and2 (and2 (and2 (and2 (and2 (and2 (and2 (and2 (and2 (and2 (and2 (and2 (and2 (and2 (and2 (and2 j1 j2) j3) j4) j5) j6) j7) j8) j9) j10) j11) j12) j13) j14) j15) j16) j17) j18) j19) j20) j21) j22) j23) j24) j25) j26) j27) j28) j29) j30) j31) j32)
theorem named : Tryz.pinned.checked.prog.funcNamed Rows.linesRow.func = some 4 := by kernel_rfl
theorem inst : Func.isInstance Tryz.pinned.checked.prog Tryz.f4 Rows.linesRow.origin Rows.linesRow.targs := of_decide_eq_true (by kernel_rfl)
theorem wrap : Func.isWrapper Tryz.pinned.checked.prog Tryz.f4 Rows.linesRow.wrapper Rows.linesRow.mainSum := by
  unfold Func.isWrapper; first | (rw [if_pos (by decide +kernel)]; kernel_rfl) | (rw [if_neg (by decide +kernel)]; exact ⟨rfl, rfl⟩)

end Go.Proofs.YtjfkfiffakbagaaGreatDoor.linesLaw
