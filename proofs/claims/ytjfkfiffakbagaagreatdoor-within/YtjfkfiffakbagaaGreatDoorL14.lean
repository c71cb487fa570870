/-
  Parts of the proof, one behind the other: CalWalks, RefCal, RefDate, DatesWalk, LooksWalk, NumWalks, MinWalks, Reader, Take, WordWalks, RefWords, TimeWalks, SplitWalks.
-/
import Derived.Test.YtjfkfiffakbagaaGreatDoorL13
import Derived.Test.YtjfkfiffakbagaaGreatDoorProg
import Derived.Test.YtjfkfiffakbagaaGreatDoorShelf
import Derived.WalkKit
import Derived.WalkSpells
import Derived.WalkLawsBesides
import Derived.Deep.QuietTactic
import Derived.BigQuiet
import Derived.Lib.SmallJoins
/-
  The walks over package calendar: what each of its functions returns, for every argument within its bounds; the world is left as it was.
-/
namespace Go.Proofs.YtjfkfiffakbagaaGreatDoor
open Go.RowKit

theorem ret_bool {a b : Bool} (h : a = b) : Ending.returned (.bool a) = .returned (.bool b) := by rw [h]
theorem ret_int {k : IntKind} {a b : Int} (h : a = b) : Ending.returned (.int k a) = .returned (.int k b) := by rw [h]

/-- The table of the months' days lies in the world. -/
def Tab (w : World) : Prop := w.cell? ⟨0, 0, none⟩ = some (.int .i64 31) ∧ w.cell? ⟨0, 1, none⟩ = some (.int .i64 28) ∧ w.cell? ⟨0, 2, none⟩ = some (.int .i64 31) ∧ w.cell? ⟨0, 3, none⟩ = some (.int .i64 30) ∧ w.cell? ⟨0, 4, none⟩ = some (.int .i64 31) ∧ w.cell? ⟨0, 5, none⟩ = some (.int .i64 30) ∧ w.cell? ⟨0, 6, none⟩ = some (.int .i64 31) ∧ w.cell? ⟨0, 7, none⟩ = some (.int .i64 31) ∧ w.cell? ⟨0, 8, none⟩ = some (.int .i64 30) ∧ w.cell? ⟨0, 9, none⟩ = some (.int .i64 31) ∧ w.cell? ⟨0, 10, none⟩ = some (.int .i64 30) ∧ w.cell? ⟨0, 11, none⟩ = some (.int .i64 31)

set_option maxHeartbeats 400000 in
theorem isLeap_any (y : Int) (w : World) (h1 : 0 ≤ y) (h2 : y ≤ 10000) :
    Calls Tryz.prog 109 #[.int .i64 y] w fun e w' => e = .returned (.bool (Cal.leap y)) ∧ w' = w := by
  cases a4 : (y % 4 == 0)
  · go_enter Tryz.func109, Tryz.ntmps109
    go_wp2
    go_ret
    exact ⟨ret_bool (by simp [Cal.leap, a4]), rfl⟩
  · cases a100 : (y % 100 != 0)
    · cases a400 : (y % 400 == 0)
      all_goals
        go_enter Tryz.func109, Tryz.ntmps109
        go_wp2
        go_ret
        exact ⟨ret_bool (by simp only [Cal.leap, a4, a100, a400]; rfl), rfl⟩
    · go_enter Tryz.func109, Tryz.ntmps109
      go_wp2
      go_ret
      exact ⟨ret_bool (by simp only [Cal.leap, a4, a100]; rfl), rfl⟩

set_option maxHeartbeats 400000 in
theorem daysAhead_any (y : Int) (w : World) (h1 : 1 ≤ y) (h2 : y ≤ 10000) :
    Calls Tryz.prog 67 #[.int .i64 y] w fun e w' => e = .returned (.int .i64 (Cal.ah y)) ∧ w' = w := by
  go_enter Tryz.func67, Tryz.ntmps67
  go_wp2
  go_ret
  exact ⟨ret_int (by unfold Cal.ah; omega), rfl⟩

set_option maxHeartbeats 400000 in
theorem daysOf_any (y m : Int) (w : World) (ht : Tab w) (h1 : 0 ≤ y) (h2 : y ≤ 10000) (h3 : 1 ≤ m) (h4 : m ≤ 12) :
    Calls Tryz.prog 68 #[.int .i64 y, .int .i64 m] w fun e w' => e = .returned (.int .i64 (Cal.dim y m)) ∧ w' = w := by
  obtain ⟨c0, c1, c2, c3, c4, c5, c6, c7, c8, c9, c10, c11⟩ := ht
  rcases Cal.months m h3 h4 with h | h | h | h | h | h | h | h | h | h | h | h
  · subst h
    go_enter Tryz.func68, Tryz.ntmps68
    go_wp2
    go_ret
    exact ⟨ret_int (by simp [Cal.dim, Cal.tab]), rfl⟩
  · subst h
    cases hl : Cal.leap y
    all_goals
      go_enter Tryz.func68, Tryz.ntmps68
      go_wp2_with (go_at_call 109; refine (isLeap_any _ _ (by omega) (by omega)).mono ?_; rintro e w' ⟨rfl, rfl⟩)
      go_ret
      exact ⟨ret_int (by simp [Cal.dim, Cal.lp, hl]), rfl⟩
  all_goals
    subst h
    go_enter Tryz.func68, Tryz.ntmps68
    go_wp2
    go_ret
    exact ⟨ret_int (by simp [Cal.dim, Cal.tab]), rfl⟩

set_option maxHeartbeats 400000 in
theorem yearOf_any (g : Int) (w : World) (h1 : 0 ≤ g) (h2 : g < 3652059) :
    Calls Tryz.prog 66 #[.int .i64 g] w fun e w' => ∃ y : Int, e = .returned (.int .i64 y) ∧ 1 ≤ y ∧ y ≤ 9999 ∧ Cal.ah y ≤ g ∧ g < Cal.ah (y + 1) ∧ w' = w := by
  have g0 := Cal.ah_guess g h1
  go_enter Tryz.func66, Tryz.ntmps66
  go_wp2
  go_loop [3] (fun t => ∃ y : Int, 1 ≤ y ∧ y ≤ 9999 ∧ Cal.ah y ≤ g ∧ t = .int .i64 y) (fun t => (9999 - intOf t).toNat)
  case atStart => exact ⟨_, by omega, by omega, g0, rfl⟩
  case round =>
    obtain ⟨y, hy1, hy2, hy3, rfl⟩ := hrel
    clear g0
    by_cases hd : Cal.ah (y + 1) ≤ g
    · have hy : y < 9999 := by
        by_cases e : y = 9999
        · subst e; have := Cal.ah_end; rw [show (9999 : Int) + 1 = 10000 from rfl] at hd; omega
        · omega
      go_wp2_with (go_at_call 67; refine (daysAhead_any _ _ (by omega) (by omega)).mono ?_; rintro e w' ⟨rfl, rfl⟩)
      go_round
      case rel => exact ⟨y + 1, by omega, by omega, hd, rfl⟩
      case measure => simp [intOf]; omega
    · have hd' : g < Cal.ah (y + 1) := by omega
      go_wp2_with (go_at_call 67; refine (daysAhead_any _ _ (by omega) (by omega)).mono ?_; rintro e w' ⟨rfl, rfl⟩)
      go_ret
      exact ⟨y, rfl, hy1, hy2, hy3, hd', rfl⟩

theorem ok_false {y m d : Int} (h : ¬ (1 ≤ y ∧ y ≤ 9999 ∧ 1 ≤ m ∧ m ≤ 12 ∧ 1 ≤ d ∧ d ≤ Cal.dim y m)) : Cal.ok y m d = false := by
  unfold Cal.ok; exact decide_eq_false h
theorem ok_true {y m d : Int} (h : 1 ≤ y ∧ y ≤ 9999 ∧ 1 ≤ m ∧ m ≤ 12 ∧ 1 ≤ d ∧ d ≤ Cal.dim y m) : Cal.ok y m d = true := by
  unfold Cal.ok; exact decide_eq_true h

set_option maxHeartbeats 400000 in
theorem exists_any (y m d : Int) (w : World) (ht : Tab w) :
    Calls Tryz.prog 69 #[.int .i64 y, .int .i64 m, .int .i64 d] w fun e w' => e = .returned (.bool (Cal.ok y m d)) ∧ w' = w := by
  by_cases a : 1 ≤ y
  · by_cases b : y ≤ 9999
    · by_cases c : 1 ≤ m
      · by_cases f : m ≤ 12
        · by_cases g : 1 ≤ d
          · by_cases k : d ≤ Cal.dim y m
            all_goals
              go_enter Tryz.func69, Tryz.ntmps69
              go_wp2_with (go_at_call 68; refine (daysOf_any _ _ _ ht (by omega) (by omega) (by omega) (by omega)).mono ?_; rintro e w' ⟨rfl, rfl⟩)
              go_ret
            · exact ⟨ret_bool (by rw [ok_true ⟨a, b, c, f, g, k⟩]), rfl⟩
            · exact ⟨ret_bool (by rw [ok_false (by omega)]; exact decide_eq_false (by omega)), rfl⟩
          · go_enter Tryz.func69, Tryz.ntmps69
            go_wp2
            go_ret
            exact ⟨ret_bool (by rw [ok_false (by omega)]), rfl⟩
        · go_enter Tryz.func69, Tryz.ntmps69
          go_wp2
          go_ret
          exact ⟨ret_bool (by rw [ok_false (by omega)]), rfl⟩
      · go_enter Tryz.func69, Tryz.ntmps69
        go_wp2
        go_ret
        exact ⟨ret_bool (by rw [ok_false (by omega)]), rfl⟩
    · go_enter Tryz.func69, Tryz.ntmps69
      go_wp2
      go_ret
      exact ⟨ret_bool (by rw [ok_false (by omega)]), rfl⟩
  · go_enter Tryz.func69, Tryz.ntmps69
    go_wp2
    go_ret
    exact ⟨ret_bool (by rw [ok_false (by omega)]), rfl⟩

set_option maxHeartbeats 400000 in
theorem calDay_no (y m d : Int) (w : World) (ht : Tab w) (h : Cal.ok y m d = false) :
    Calls Tryz.prog 48 #[.int .i64 y, .int .i64 m, .int .i64 d] w fun e w' => e = .returned (.tuple #[.int .i64 0, .int .i64 6]) ∧ w' = w := by
  go_enter Tryz.func48, Tryz.ntmps48
  go_wp2_with (go_at_call 69; refine (exists_any _ _ _ _ ht).mono ?_; rintro e w' ⟨rfl, rfl⟩)
  go_ret2
  exact ⟨rfl, rfl⟩

theorem ret2_int {k l : IntKind} {a b c : Int} (h : a = b) : Ending.returned (.tuple #[.int k a, .int l c]) = .returned (.tuple #[.int k b, .int l c]) := by rw [h]

set_option maxHeartbeats 400000 in
theorem calDay_yes (y m d : Int) (w : World) (ht : Tab w) (h : Cal.ok y m d = true) :
    Calls Tryz.prog 48 #[.int .i64 y, .int .i64 m, .int .i64 d] w fun e w' => e = .returned (.tuple #[.int .i64 (Cal.num y m d), .int .i64 0]) ∧ w' = w := by
  obtain ⟨h1, h2, h3, h4, h5, h6⟩ := (Cal.ok_iff y m d).1 h
  have hb := Cal.ah_bd y h1 (by omega)
  have hdb := Cal.dim_bd y m
  have hl := Cal.lp_01 y
  go_enter Tryz.func48, Tryz.ntmps48
  go_wp2_with (first | (go_at_call 69; refine (exists_any _ _ _ _ ht).mono ?_; rintro e w' ⟨rfl, rfl⟩) | (go_at_call 67; refine (daysAhead_any _ _ (by omega) (by omega)).mono ?_; rintro e w' ⟨rfl, rfl⟩))
  go_loop [8, 9] (fun n k => ∃ j : Int, 1 ≤ j ∧ j ≤ m ∧ k = .int .i64 j ∧ n = .int .i64 (-738885 + Cal.ah y + d - 1 + Cal.cum y j)) (fun _ k => (m - intOf k).toNat)
  case atStart => exact ⟨1, by omega, by omega, rfl, by rw [Cal.cum_one, Int.add_zero]⟩
  case round =>
    obtain ⟨j, hj1, hj2, rfl, rfl⟩ := hrel
    have cb := Cal.cum_bd y j hj1 (by omega)
    have db := Cal.dim_bd y j
    have cs := Cal.cum_succ y j hj1 (by omega)
    have HC : Hid (Cal.cum y (j + 1) = Cal.cum y j + Cal.dim y j) := cs
    clear cs
    by_cases hc : j < m
    · go_wp2_with (go_at_call 68; refine (daysOf_any _ _ _ ht (by omega) (by omega) (by omega) (by omega)).mono ?_; rintro e w' ⟨rfl, rfl⟩)
      go_round
      case rel => exact ⟨j + 1, by omega, by omega, rfl, by rw [HC.out]; go_num⟩
      case measure => simp [intOf]; omega
    · obtain rfl : j = m := by omega
      go_wp2
      go_ret2
      exact ⟨ret2_int (by unfold Cal.num Cal.first; omega), rfl⟩

theorem results_tmp4 {fn : Func} {t u v x : Tmp} (h : fn.results = #[.tmp t, .tmp u, .tmp v, .tmp x]) (tmps : Array Value) (P : Program) (w : World) :
    (results fn tmps).run P w = .ok (.tuple #[tmps.getD t undef, tmps.getD u undef, tmps.getD v undef, tmps.getD x undef]) w := by
  simp [results, h]

theorem num_of (n y k : Int) : Cal.num y k (n + 738885 - Cal.ah y - Cal.cum y k + 1) = n := by unfold Cal.num Cal.first; omega

set_option maxHeartbeats 1000000 in
theorem calDate_yes (n : Int) (w : World) (ht : Tab w) (h1 : -738885 ≤ n) (h2 : n ≤ 2913173) :
    Calls Tryz.prog 47 #[.int .i64 n] w fun e w' => ∃ y m d : Int, e = .returned (.tuple #[.int .i64 y, .int .i64 m, .int .i64 d, .int .i64 0]) ∧ Cal.ok y m d = true ∧ Cal.num y m d = n ∧ w' = w := by
  go_enter Tryz.func47, Tryz.ntmps47
  go_wp2_with (first | (go_at_call 66; refine (yearOf_any _ _ (by omega) (by omega)).mono ?_; rintro e w' ⟨y, rfl, hy1, hy2, hy3, hy4, rfl⟩; have hb := Cal.ah_bd y hy1 (by omega)) | (go_at_call 67; refine (daysAhead_any _ _ (by omega) (by omega)).mono ?_; rintro e w' ⟨rfl, rfl⟩))
  have hs := Cal.ah_succ y hy1
  have hl := Cal.lp_01 y
  go_loop [8, 9] (fun r k => ∃ m : Int, 1 ≤ m ∧ m ≤ 12 ∧ k = .int .i64 m ∧ 0 ≤ n + 738885 - Cal.ah y - Cal.cum y m ∧ r = .int .i64 (n + 738885 - Cal.ah y - Cal.cum y m)) (fun _ k => (12 - intOf k).toNat)
  case atStart => exact ⟨1, by omega, by omega, rfl, by rw [Cal.cum_one]; omega, by rw [Cal.cum_one, Int.sub_zero]⟩
  case round =>
    obtain ⟨m, hm1, hm2, rfl, hr, rfl⟩ := hrel
    have cb := Cal.cum_bd y m hm1 (by omega)
    have db := Cal.dim_bd y m
    have cs := Cal.cum_succ y m hm1 hm2
    have ce := Cal.cum_end y
    by_cases hd : Cal.dim y m ≤ n + 738885 - Cal.ah y - Cal.cum y m
    · have hm : m < 12 := by
        by_cases e : m = 12
        · subst e; rw [show (12 : Int) + 1 = 13 from rfl] at cs; omega
        · omega
      have HC : Hid (Cal.cum y (m + 1) = Cal.cum y m + Cal.dim y m) := cs
      clear cs ce hs
      go_wp2_with (go_at_call 68; refine (daysOf_any _ _ _ ht (by omega) (by omega) (by omega) (by omega)).mono ?_; rintro e w' ⟨rfl, rfl⟩)
      go_round
      case rel => exact ⟨m + 1, by omega, by omega, rfl, by rw [HC.out]; omega, by rw [HC.out]; go_num⟩
      case measure => simp [intOf]; omega
    · have hok : Cal.ok y m (n + 738885 - Cal.ah y - Cal.cum y m + 1) = true := ok_true (by omega)
      clear cs ce hs
      go_wp2_with (go_at_call 68; refine (daysOf_any _ _ _ ht (by omega) (by omega) (by omega) (by omega)).mono ?_; rintro e w' ⟨rfl, rfl⟩)
      (try simp only [Exit.inBlock, Exit.then]); refine bodyPost_ret (results_tmp4 rfl _ _ _) rfl ?_
      exact ⟨y, m, _, rfl, hok, num_of n y m, rfl⟩

end Go.Proofs.YtjfkfiffakbagaaGreatDoor


/-
  The walks over the document's own dates (package bookingsref: year by year): what each function returns, for every argument within its bounds; the world is left as it was.
-/
namespace Go.Proofs.YtjfkfiffakbagaaGreatDoor
open Go.RowKit

end Go.Proofs.YtjfkfiffakbagaaGreatDoor


/-
  The walks over the document's own Date, and over the law's dated and date: both sides answer alike.
-/
namespace Go.Proofs.YtjfkfiffakbagaaGreatDoor
open Go.RowKit

theorem late (n z : Int) (h : z = 9999) (e : Cal.ah (z + 1) = Cal.ah z + 365 + Cal.lp z) (g : 365 + Cal.lp z ≤ n + (738885 - Cal.ah z)) : n < -738885 ∨ 2913173 < n := by
  subst h
  have := Cal.ah_end
  rw [show (9999 : Int) + 1 = 10000 from rfl] at e
  omega

end Go.Proofs.YtjfkfiffakbagaaGreatDoor


/-
  The walks over the law's date and dated (both sides answer alike), over its looks at an empty book, and over its step at the kinds 1 and 2.
-/
namespace Go.Proofs.YtjfkfiffakbagaaGreatDoor
open Go.RowKit

theorem hide {p : Prop} (h : p) : Hid p := h
theorem unhide {p : Prop} (h : Hid p) : p := h

theorem Tab.later {w wx : World} (h : Tab w) (hb : Below w.heap.size w wx) : Tab wx := by
  obtain ⟨c0, c1, c2, c3, c4, c5, c6, c7, c8, c9, c10, c11⟩ := h
  exact ⟨cell_later hb c0, cell_later hb c1, cell_later hb c2, cell_later hb c3, cell_later hb c4, cell_later hb c5, cell_later hb c6, cell_later hb c7, cell_later hb c8, cell_later hb c9, cell_later hb c10, cell_later hb c11⟩

end Go.Proofs.YtjfkfiffakbagaaGreatDoor


/-
  The walks over the law's looks at an empty book (it looks at nothing), and over its step at the kinds 1 and 2.
-/
namespace Go.Proofs.YtjfkfiffakbagaaGreatDoor
open Go.RowKit

end Go.Proofs.YtjfkfiffakbagaaGreatDoor


/-
  The walks over the readers of numbers and names: readNum and readName of package lines, number and named of package bookingsref.
-/
namespace Go.Proofs.YtjfkfiffakbagaaGreatDoor
open Go.RowKit

theorem ret2_ib {k : IntKind} {a b : Int} {c d : Bool} (h : a = b) (g : c = d) : Ending.returned (.tuple #[.int k a, .bool c]) = .returned (.tuple #[.int k b, .bool d]) := by rw [h, g]

set_option maxHeartbeats 1000000 in
theorem readNum_any (s : ByteArray) (w : World) (hs : s.size ≤ maxLen) :
    Calls Tryz.prog 136 #[.string s] w fun e w' => e = .returned (.tuple #[.int .i64 (Txt.numV s.data.toList), .bool (Txt.isNum s.data.toList)]) ∧ w' = w := by
  unfold maxLen at hs
  by_cases h0 : s.size = 0
  · have H : Hid (Txt.isNum s.data.toList = false) := Txt.isNum_len (by rw [Txt.len_list]; omega)
    have h1 : ((s.size : Int) == 0) = true := beq_iff_eq.2 (by omega)
    go_enter Tryz.func136, Tryz.ntmps136
    go_wp2
    go_ret2
    exact ⟨ret2_ib (by simp [Txt.numV, H.out]) (by rw [H.out]), rfl⟩
  · have h1 : ((s.size : Int) == 0) = false := beq_eq_false_iff_ne.2 (by omega)
    by_cases h7 : 7 < s.size
    · have H : Hid (Txt.isNum s.data.toList = false) := Txt.isNum_len (by rw [Txt.len_list]; omega)
      clear h0
      go_enter Tryz.func136, Tryz.ntmps136
      go_wp2
      go_ret2
      exact ⟨ret2_ib (by simp [Txt.numV, H.out]) (by rw [H.out]), rfl⟩
    · go_enter Tryz.func136, Tryz.ntmps136
      go_wp2
      go_loop [4, 5, 6] (fun n i _ => ∃ k : Nat, k ≤ s.size ∧ i = .int .i64 k ∧ n = .int .i64 (Txt.numL (s.data.toList.take k)) ∧ Txt.digs (s.data.toList.take k) = true) (fun _ i _ => s.size - (intOf i).toNat)
      case atStart => exact ⟨0, Nat.zero_le _, rfl, rfl, rfl⟩
      case round =>
        obtain ⟨k, hk, rfl, rfl, hd⟩ := hrel
        have HD := hide hd
        have nb := Txt.numL_bd (s.data.toList.take k) hd (by rw [List.length_take]; omega)
        clear hd
        by_cases hlt : k < s.size
        · have HT : Hid (s.data.toList.take (k + 1) = s.data.toList.take k ++ [s[k]]) := Txt.take_snoc s k hlt
          by_cases hc : Txt.dig s[k] = true
          · have hc' := (Txt.dig_iff _).1 hc
            have HC := hide hc
            obtain ⟨hc1, hc2⟩ := hc'
            clear hc
            go_wp2
            go_round
            case rel => exact ⟨k + 1, by omega, by go_num, by rw [HT.out, Txt.numL_snoc], by rw [HT.out, Txt.digs_snoc, HD.out, HC.out]; rfl⟩
            case measure => simp [intOf]; omega
          · have HC : Hid (Txt.isNum s.data.toList = false) := Txt.isNum_dig (Txt.digs_of_take _ (k + 1) (by rw [HT.out, Txt.digs_snoc, HD.out]; simpa using hc))
            have hc' : (s[k].toNat : Int) < 48 ∨ (¬ (s[k].toNat : Int) < 48 ∧ 57 < (s[k].toNat : Int)) := by
              have := mt (Txt.dig_iff s[k]).2 hc; omega
            clear hc
            rcases hc' with hc' | ⟨hc', hc''⟩
            all_goals
              go_wp2
              go_ret2
              exact ⟨ret2_ib (by simp [Txt.numV, HC.out]) (by rw [HC.out]), rfl⟩
        · have HA : Hid (s.data.toList.take k = s.data.toList) := Txt.take_all s k (by omega)
          have HN : Hid (Txt.isNum s.data.toList = true) := Txt.isNum_true (by rw [Txt.len_list]; omega) (by rw [Txt.len_list]; omega) (by rw [← HA.out]; exact HD.out)
          go_wp2
          go_ret2
          exact ⟨ret2_ib (by rw [HA.out]; simp [Txt.numV, HN.out]) (by rw [HN.out]), rfl⟩

end Go.Proofs.YtjfkfiffakbagaaGreatDoor


/-
  The walks over the readers of minutes and dates of package lines.
-/
namespace Go.Proofs.YtjfkfiffakbagaaGreatDoor
open Go.RowKit

theorem bne_t {a b : Int} (h : a ≠ b) : (a != b) = true := by rw [bne_iff_ne]; exact h
theorem bne_f {a b : Int} (h : a = b) : (a != b) = false := by subst h; simp

theorem size_ext (s : ByteArray) (a b : Nat) (h : s.size ≤ maxLen) : (s.extract a b).size ≤ maxLen := by
  have : (s.extract a b).size = min b s.size - a := ByteArray.size_extract ..
  omega

set_option maxHeartbeats 1000000 in
theorem readMinute_any (s : ByteArray) (w : World) (hm : s.size ≤ maxLen) :
    Calls Tryz.prog 134 #[.string s] w fun e w' => e = .returned (.tuple #[.int .i64 (Txt.minV s), .bool (Txt.minB s)]) ∧ w' = w := by
  have HM := hide hm
  clear hm
  by_cases hs : s.size = 5
  · have h5 : ((s.size : Int) != 5) = false := bne_f (by omega)
    have h6 : (2 : Int) < (s.size : Int) := by omega
    have h2n : 2 < s.size := by omega
    have h7 : (3 : Int) ≤ (s.size : Int) := by omega
    by_cases hb : Txt.byteAt s 2 = 58
    · have hc : (((s[2]'h2n).toNat : Int) != 58) = false := bne_f (by rw [← Txt.byteAt_eq]; exact hb)
      have b1 := Txt.numV_bd (Txt.part s 0 2)
      have b2 := Txt.numV_bd (Txt.part s 3 5)
      have HS := hide hs
      have HB := hide hb
      clear hs hb
      have HF := hide (Txt.minB_and HS.out HB.out)
      cases n1 : Txt.isNum (Txt.part s 0 2)
      · go_enter Tryz.func134, Tryz.ntmps134
        go_wp2_with fail
        refine (readNum_any _ _ (size_ext _ _ _ HM.out)).mono ?_
        rintro e w' ⟨rfl, rfl⟩
        rw [show (s.extract 0 2).data.toList = Txt.part s 0 2 from rfl]
        go_wp2_with fail
        refine (readNum_any _ _ (size_ext _ _ _ HM.out)).mono ?_
        rintro e w' ⟨rfl, rfl⟩
        rw [show (s.extract 3 s.size).data.toList = Txt.part s 3 5 from by rw [HS.out]; rfl]
        go_wp2
        go_ret2
        exact ⟨ret2_ib (by simp [Txt.minV, unhide HF, n1]) (by simp [unhide HF, n1]), rfl⟩
      · cases n2 : Txt.isNum (Txt.part s 3 5)
        · go_enter Tryz.func134, Tryz.ntmps134
          go_wp2_with fail
          refine (readNum_any _ _ (size_ext _ _ _ HM.out)).mono ?_
          rintro e w' ⟨rfl, rfl⟩
          rw [show (s.extract 0 2).data.toList = Txt.part s 0 2 from rfl]
          go_wp2_with fail
          refine (readNum_any _ _ (size_ext _ _ _ HM.out)).mono ?_
          rintro e w' ⟨rfl, rfl⟩
          rw [show (s.extract 3 s.size).data.toList = Txt.part s 3 5 from by rw [HS.out]; rfl]
          go_wp2
          go_ret2
          exact ⟨ret2_ib (by simp [Txt.minV, unhide HF, n1, n2]) (by simp [unhide HF, n1, n2]), rfl⟩
        · by_cases g1 : Txt.numV (Txt.part s 0 2) ≤ 23
          · by_cases g2 : Txt.numV (Txt.part s 3 5) ≤ 59
            · go_enter Tryz.func134, Tryz.ntmps134
              go_wp2_with fail
              refine (readNum_any _ _ (size_ext _ _ _ HM.out)).mono ?_
              rintro e w' ⟨rfl, rfl⟩
              rw [show (s.extract 0 2).data.toList = Txt.part s 0 2 from rfl]
              go_wp2_with fail
              refine (readNum_any _ _ (size_ext _ _ _ HM.out)).mono ?_
              rintro e w' ⟨rfl, rfl⟩
              rw [show (s.extract 3 s.size).data.toList = Txt.part s 3 5 from by rw [HS.out]; rfl]
              go_wp2
              go_ret2
              exact ⟨ret2_ib (by simp [Txt.minV, unhide HF, n1, n2, g1, g2]) (by simp [unhide HF, n1, n2, g1, g2]), rfl⟩
            · go_enter Tryz.func134, Tryz.ntmps134
              go_wp2_with fail
              refine (readNum_any _ _ (size_ext _ _ _ HM.out)).mono ?_
              rintro e w' ⟨rfl, rfl⟩
              rw [show (s.extract 0 2).data.toList = Txt.part s 0 2 from rfl]
              go_wp2_with fail
              refine (readNum_any _ _ (size_ext _ _ _ HM.out)).mono ?_
              rintro e w' ⟨rfl, rfl⟩
              rw [show (s.extract 3 s.size).data.toList = Txt.part s 3 5 from by rw [HS.out]; rfl]
              go_wp2
              go_ret2
              have g2' : ¬ Txt.numV (Txt.part s 3 5) ≤ 59 := by omega
              exact ⟨ret2_ib (by simp [Txt.minV, unhide HF, n1, n2, g1, g2']) (by simp [unhide HF, n1, n2, g1, g2']), rfl⟩
          · go_enter Tryz.func134, Tryz.ntmps134
            go_wp2_with fail
            refine (readNum_any _ _ (size_ext _ _ _ HM.out)).mono ?_
            rintro e w' ⟨rfl, rfl⟩
            rw [show (s.extract 0 2).data.toList = Txt.part s 0 2 from rfl]
            go_wp2_with fail
            refine (readNum_any _ _ (size_ext _ _ _ HM.out)).mono ?_
            rintro e w' ⟨rfl, rfl⟩
            rw [show (s.extract 3 s.size).data.toList = Txt.part s 3 5 from by rw [HS.out]; rfl]
            go_wp2
            go_ret2
            have g1' : ¬ Txt.numV (Txt.part s 0 2) ≤ 23 := by omega
            exact ⟨ret2_ib (by simp [Txt.minV, unhide HF, n1, n2, g1']) (by simp [unhide HF, n1, n2, g1']), rfl⟩
    · have hc : (((s[2]'h2n).toNat : Int) != 58) = true := bne_t (by rw [← Txt.byteAt_eq]; exact hb)
      have HF : Hid (Txt.minB s = false) := Txt.minB_false (by omega)
      clear hs hb
      go_enter Tryz.func134, Tryz.ntmps134
      go_wp2
      go_ret2
      exact ⟨ret2_ib (by simp [Txt.minV, HF.out]) (by rw [HF.out]), rfl⟩
  · have h5 : ((s.size : Int) != 5) = true := bne_t (by omega)
    have HF : Hid (Txt.minB s = false) := Txt.minB_false (by omega)
    clear hs
    go_enter Tryz.func134, Tryz.ntmps134
    go_wp2
    go_ret2
    exact ⟨ret2_ib (by simp [Txt.minV, HF.out]) (by rw [HF.out]), rfl⟩

set_option maxHeartbeats 1000000 in
theorem readAnyDate_any (s : ByteArray) (w : World) (ht : Tab w) (hm : s.size ≤ maxLen) :
    Calls Tryz.prog 187 #[.string s] w fun e w' => e = .returned (.tuple #[.int .i64 (Txt.dateV s), .bool (Txt.dateB s)]) ∧ w' = w := by
  have HM := hide hm
  clear hm
  by_cases hs : s.size = 10
  · have h5 : ((s.size : Int) != 10) = false := bne_f (by omega)
    have h4n : 4 < s.size := by omega
    have h7n : 7 < s.size := by omega
    have h4 : (4 : Int) < (s.size : Int) := by omega
    have h7 : (7 : Int) < (s.size : Int) := by omega
    have h8 : (8 : Int) ≤ (s.size : Int) := by omega
    by_cases hb : Txt.byteAt s 4 = 45
    · have hc : (((s[4]'h4n).toNat : Int) != 45) = false := bne_f (by rw [← Txt.byteAt_eq]; exact hb)
      by_cases hd : Txt.byteAt s 7 = 45
      · have he : (((s[7]'h7n).toNat : Int) != 45) = false := bne_f (by rw [← Txt.byteAt_eq]; exact hd)
        have b1 := Txt.numV_bd (Txt.part s 0 4)
        have b2 := Txt.numV_bd (Txt.part s 5 7)
        have b3 := Txt.numV_bd (Txt.part s 8 10)
        have HF := hide (Txt.dateB_and hs hb hd)
        have HS := hide hs
        clear hs hb hd
        have hn : ∃ n1 n2 n3 : Bool, Txt.isNum (Txt.part s 0 4) = n1 ∧ Txt.isNum (Txt.part s 5 7) = n2 ∧ Txt.isNum (Txt.part s 8 10) = n3 := ⟨_, _, _, rfl, rfl, rfl⟩
        obtain ⟨n1, n2, n3, e1, e2, e3⟩ := hn
        have walk3 : n1 = false ∨ (n1 = true ∧ n2 = false) ∨ (n1 = true ∧ n2 = true ∧ n3 = false) ∨ (n1 = true ∧ n2 = true ∧ n3 = true) := by cases n1 <;> cases n2 <;> cases n3 <;> simp
        rcases walk3 with h | ⟨h, h'⟩ | ⟨h, h', h''⟩ | ⟨h, h', h''⟩
        · subst h
          clear e2 e3
          go_enter Tryz.func187, Tryz.ntmps187
          go_wp2_with fail
          refine (readNum_any _ _ (size_ext _ _ _ HM.out)).mono ?_
          rintro e w' ⟨rfl, rfl⟩
          rw [show (s.extract 0 4).data.toList = Txt.part s 0 4 from rfl]
          go_wp2_with fail
          refine (readNum_any _ _ (size_ext _ _ _ HM.out)).mono ?_
          rintro e w' ⟨rfl, rfl⟩
          rw [show (s.extract 5 7).data.toList = Txt.part s 5 7 from rfl]
          go_wp2_with fail
          refine (readNum_any _ _ (size_ext _ _ _ HM.out)).mono ?_
          rintro e w' ⟨rfl, rfl⟩
          rw [show (s.extract 8 s.size).data.toList = Txt.part s 8 10 from by rw [HS.out]; rfl]
          go_wp2
          go_ret2
          exact ⟨ret2_ib (by simp [Txt.dateV, unhide HF, e1]) (by simp [unhide HF, e1]), rfl⟩
        · subst h h'
          clear e3
          go_enter Tryz.func187, Tryz.ntmps187
          go_wp2_with fail
          refine (readNum_any _ _ (size_ext _ _ _ HM.out)).mono ?_
          rintro e w' ⟨rfl, rfl⟩
          rw [show (s.extract 0 4).data.toList = Txt.part s 0 4 from rfl]
          go_wp2_with fail
          refine (readNum_any _ _ (size_ext _ _ _ HM.out)).mono ?_
          rintro e w' ⟨rfl, rfl⟩
          rw [show (s.extract 5 7).data.toList = Txt.part s 5 7 from rfl]
          go_wp2_with fail
          refine (readNum_any _ _ (size_ext _ _ _ HM.out)).mono ?_
          rintro e w' ⟨rfl, rfl⟩
          rw [show (s.extract 8 s.size).data.toList = Txt.part s 8 10 from by rw [HS.out]; rfl]
          go_wp2
          go_ret2
          exact ⟨ret2_ib (by simp [Txt.dateV, unhide HF, e1, e2]) (by simp [unhide HF, e1, e2]), rfl⟩
        · subst h h' h''
          go_enter Tryz.func187, Tryz.ntmps187
          go_wp2_with fail
          refine (readNum_any _ _ (size_ext _ _ _ HM.out)).mono ?_
          rintro e w' ⟨rfl, rfl⟩
          rw [show (s.extract 0 4).data.toList = Txt.part s 0 4 from rfl]
          go_wp2_with fail
          refine (readNum_any _ _ (size_ext _ _ _ HM.out)).mono ?_
          rintro e w' ⟨rfl, rfl⟩
          rw [show (s.extract 5 7).data.toList = Txt.part s 5 7 from rfl]
          go_wp2_with fail
          refine (readNum_any _ _ (size_ext _ _ _ HM.out)).mono ?_
          rintro e w' ⟨rfl, rfl⟩
          rw [show (s.extract 8 s.size).data.toList = Txt.part s 8 10 from by rw [HS.out]; rfl]
          go_wp2
          go_ret2
          exact ⟨ret2_ib (by simp [Txt.dateV, unhide HF, e1, e2, e3]) (by simp [unhide HF, e1, e2, e3]), rfl⟩
        · subst h h' h''
          cases ho : Cal.ok (Txt.numV (Txt.part s 0 4)) (Txt.numV (Txt.part s 5 7)) (Txt.numV (Txt.part s 8 10))
          · go_enter Tryz.func187, Tryz.ntmps187
            go_wp2_with fail
            refine (readNum_any _ _ (size_ext _ _ _ HM.out)).mono ?_
            rintro e w' ⟨rfl, rfl⟩
            rw [show (s.extract 0 4).data.toList = Txt.part s 0 4 from rfl]
            go_wp2_with fail
            refine (readNum_any _ _ (size_ext _ _ _ HM.out)).mono ?_
            rintro e w' ⟨rfl, rfl⟩
            rw [show (s.extract 5 7).data.toList = Txt.part s 5 7 from rfl]
            go_wp2_with fail
            refine (readNum_any _ _ (size_ext _ _ _ HM.out)).mono ?_
            rintro e w' ⟨rfl, rfl⟩
            rw [show (s.extract 8 s.size).data.toList = Txt.part s 8 10 from by rw [HS.out]; rfl]
            go_wp2_with fail
            refine (calDay_no _ _ _ _ ht ho).mono ?_
            rintro e w' ⟨rfl, rfl⟩
            go_wp2
            go_ret2
            exact ⟨ret2_ib (by simp [Txt.dateV, unhide HF, e1, e2, e3, ho]) (by simp [unhide HF, e1, e2, e3, ho]), rfl⟩
          · go_enter Tryz.func187, Tryz.ntmps187
            go_wp2_with fail
            refine (readNum_any _ _ (size_ext _ _ _ HM.out)).mono ?_
            rintro e w' ⟨rfl, rfl⟩
            rw [show (s.extract 0 4).data.toList = Txt.part s 0 4 from rfl]
            go_wp2_with fail
            refine (readNum_any _ _ (size_ext _ _ _ HM.out)).mono ?_
            rintro e w' ⟨rfl, rfl⟩
            rw [show (s.extract 5 7).data.toList = Txt.part s 5 7 from rfl]
            go_wp2_with fail
            refine (readNum_any _ _ (size_ext _ _ _ HM.out)).mono ?_
            rintro e w' ⟨rfl, rfl⟩
            rw [show (s.extract 8 s.size).data.toList = Txt.part s 8 10 from by rw [HS.out]; rfl]
            go_wp2_with fail
            refine (calDay_yes _ _ _ _ ht ho).mono ?_
            rintro e w' ⟨rfl, rfl⟩
            go_wp2
            go_ret2
            exact ⟨ret2_ib (by simp [Txt.dateV, unhide HF, e1, e2, e3, ho]) (by simp [unhide HF, e1, e2, e3, ho]), rfl⟩
      · have he : (((s[7]'h7n).toNat : Int) != 45) = true := bne_t (by rw [← Txt.byteAt_eq]; exact hd)
        have HF : Hid (Txt.dateB s = false) := Txt.dateB_false (by omega)
        clear hs hb hd
        go_enter Tryz.func187, Tryz.ntmps187
        go_wp2
        go_ret2
        exact ⟨ret2_ib (by simp [Txt.dateV, HF.out]) (by rw [HF.out]), rfl⟩
    · have hc : (((s[4]'h4n).toNat : Int) != 45) = true := bne_t (by rw [← Txt.byteAt_eq]; exact hb)
      have HF : Hid (Txt.dateB s = false) := Txt.dateB_false (by omega)
      clear hs hb
      go_enter Tryz.func187, Tryz.ntmps187
      go_wp2
      go_ret2
      exact ⟨ret2_ib (by simp [Txt.dateV, HF.out]) (by rw [HF.out]), rfl⟩
  · have h5 : ((s.size : Int) != 10) = true := bne_t (by omega)
    have HF : Hid (Txt.dateB s = false) := Txt.dateB_false (by omega)
    clear hs
    go_enter Tryz.func187, Tryz.ntmps187
    go_wp2
    go_ret2
    exact ⟨ret2_ib (by simp [Txt.dateV, HF.out]) (by rw [HF.out]), rfl⟩

end Go.Proofs.YtjfkfiffakbagaaGreatDoor


/-
  The reader of package lines: where it lies, what its small methods do to it.
-/
namespace Go.Proofs.YtjfkfiffakbagaaGreatDoor
open Go.RowKit

/-- Everything but block R is as it was; nothing has gone. -/
structure Kept (R : Nat) (w w' : World) : Prop where
  os : w'.os = w.os
  tape : w'.tape = w.tape
  output : w'.output = w.output
  size : w.heap.size ≤ w'.heap.size
  block : ∀ k, k < w.heap.size → k ≠ R → w'.heap[k]? = w.heap[k]?

theorem Kept.refl (R : Nat) (w : World) : Kept R w w := ⟨rfl, rfl, rfl, Nat.le_refl _, fun _ _ _ => rfl⟩
theorem Kept.trans {R : Nat} {a b c : World} (h : Kept R a b) (k : Kept R b c) : Kept R a c :=
  ⟨k.os.trans h.os, k.tape.trans h.tape, k.output.trans h.output, Nat.le_trans h.size k.size, fun i hi hr => (k.block i (Nat.lt_of_lt_of_le hi h.size) hr).trans (h.block i hi hr)⟩
theorem Kept.of_below {R : Nat} {w w' : World} (h : Below w.heap.size w w') : Kept R w w' := ⟨h.os, h.tape, h.output, h.size, fun k hk _ => h.block k hk⟩
theorem Kept.drewN {R : Nat} {w w' : World} (h : Kept R w w') (n : Nat) : Kept R w (w'.drewN n) := ⟨h.os, h.tape, h.output, h.size, h.block⟩
theorem Kept.setCell {R : Nat} {w w' : World} (h : Kept R w w') (o : Nat) (v : Value) : Kept R w (w'.setCell ⟨R, o, none⟩ v) :=
  h.trans ⟨(Below.setCell (B := 0) (Below.refl 0 w') (Nat.zero_le _) v).os, (Below.setCell (B := 0) (Below.refl 0 w') (Nat.zero_le _) v).tape, (Below.setCell (B := 0) (Below.refl 0 w') (Nat.zero_le _) v).output, (Below.setCell (B := 0) (Below.refl 0 w') (p := ⟨R, o, none⟩) (Nat.zero_le _) v).size, fun k _ hr => Below.heap_setCell w' _ v k hr⟩
theorem Kept.below {R B : Nat} {w w' : World} (h : Kept R w w') (hr : B ≤ R) (hb : B ≤ w.heap.size) : Below B w w' :=
  ⟨h.os, h.tape, h.output, h.size, fun k hk => h.block k (Nat.lt_of_lt_of_le hk hb) (Nat.ne_of_lt (Nat.lt_of_lt_of_le hk hr))⟩
theorem Kept.cell {R : Nat} {w w' : World} (h : Kept R w w') {b o : Nat} {v : Value} (hne : b ≠ R) (hc : w.cell? ⟨b, o, none⟩ = some v) : w'.cell? ⟨b, o, none⟩ = some v :=
  (World.cell?_of_block (w := w) (h.block b (World.block_lt_of_cell? _ _ hc) hne)).trans hc

/-- The reader lies in block R, its words in block A; nx words are taken; wr: one was wrong. -/
structure RS (w : World) (R A : Nat) (ws : List ByteArray) (nx : Nat) (wr : Bool) : Prop where
  c0 : w.cell? ⟨R, 0, none⟩ = some (.slice (some ⟨A, 0, none⟩) ws.length ws.length)
  c1 : w.cell? ⟨R, 1, none⟩ = some (.int .i64 nx)
  c2 : w.cell? ⟨R, 2, none⟩ = some (.bool wr)
  f1 : w.frozen? ⟨R, 1, none⟩ = false
  f2 : w.frozen? ⟨R, 2, none⟩ = false
  ne : A ≠ R
  rows : ∀ (i : Nat) (h : i < ws.length), w.cell? ⟨A, i, none⟩ = some (.string ws[i])
  len : ws.length ≤ 160
  nxle : nx ≤ ws.length
  short : ∀ x ∈ ws, x.size ≤ 160

theorem RS.of_below {w w' : World} {R A : Nat} {ws : List ByteArray} {nx : Nat} {wr : Bool} (h : RS w R A ws nx wr) (hb : Below w.heap.size w w') : RS w' R A ws nx wr :=
  ⟨cell_later hb h.c0, cell_later hb h.c1, cell_later hb h.c2, (hb.frozen (World.block_lt_of_cell? _ _ h.c1)).trans h.f1, (hb.frozen (World.block_lt_of_cell? _ _ h.c2)).trans h.f2, h.ne, fun i hi => cell_later hb (h.rows i hi), h.len, h.nxle, h.short⟩
theorem RS.drewN {w : World} {R A : Nat} {ws : List ByteArray} {nx : Nat} {wr : Bool} (h : RS w R A ws nx wr) (n : Nat) : RS (w.drewN n) R A ws nx wr := ⟨h.c0, h.c1, h.c2, h.f1, h.f2, h.ne, h.rows, h.len, h.nxle, h.short⟩

/-- What the reader answers when asked for more. -/
def moreB (n nx : Nat) (wr : Bool) : Bool := !wr && decide (nx < n)

set_option maxHeartbeats 1000000 in
theorem more_any (R A : Nat) (ws : List ByteArray) (nx : Nat) (wr : Bool) (w : World) (h : RS w R A ws nx wr) :
    Calls Tryz.prog 61 #[.pointer (some ⟨R, 0, none⟩)] w fun e w' => e = .returned (.bool (moreB ws.length nx wr)) ∧ ∃ n, w' = w.drewN n := by
  have c0 := h.c0
  have c1 := h.c1
  have c2 := h.c2
  clear h
  cases wr
  · go_enter Tryz.func61, Tryz.ntmps61
    go_wp2
    go_quiet (fail)
    go_wp2
    go_ret
    exact ⟨ret_bool (by simp [moreB]), _, rfl⟩
  · go_enter Tryz.func61, Tryz.ntmps61
    go_wp2
    go_quiet (fail)
    go_wp2
    go_ret
    exact ⟨ret_bool (by simp [moreB]), _, rfl⟩

theorem moreB_false {n nx : Nat} {wr : Bool} (h : ¬ (wr = false ∧ nx < n)) : moreB n nx wr = false := by
  unfold moreB
  cases wr
  · simp; simp at h; exact h
  · rfl
set_option maxHeartbeats 1000000 in
theorem is_end (R A : Nat) (ws : List ByteArray) (nx : Nat) (wr : Bool) (word : ByteArray) (w : World) (h : RS w R A ws nx wr) (hn : moreB ws.length nx wr = false) :
    Calls Tryz.prog 82 #[.pointer (some ⟨R, 0, none⟩), .string word] w fun e w' => e = .returned (.bool false) ∧ ∃ n, w' = w.drewN n := by
  go_enter Tryz.func82, Tryz.ntmps82
  go_wp2
  go_quiet ((go_at_call 61; exact Calls.quiet_of (more_any R A ws nx wr _ (h.drewN _))))
  go_wp2
  go_ret
  exact ⟨rfl, _, rfl⟩

set_option maxHeartbeats 1000000 in
theorem is_other (R A : Nat) (ws : List ByteArray) (nx : Nat) (wr : Bool) (word : ByteArray) (w : World) (h : RS w R A ws nx wr) (hn : moreB ws.length nx wr = true) (hlt : nx < ws.length) (he : (ws[nx].toList == word.toList) = false) :
    Calls Tryz.prog 82 #[.pointer (some ⟨R, 0, none⟩), .string word] w fun e w' => e = .returned (.bool false) ∧ ∃ n, w' = w.drewN n := by
  have c0 := h.c0
  have c1 := h.c1
  have c2 := h.c2
  have cr := h.rows nx hlt
  have hi : (nx : Int) < (ws.length : Int) := by omega
  go_enter Tryz.func82, Tryz.ntmps82
  go_wp2
  go_quiet ((go_at_call 61; exact Calls.quiet_of (more_any R A ws nx wr _ (h.drewN _))))
  go_wp2
  go_ret
  exact ⟨rfl, _, rfl⟩

theorem RS.step {w : World} {R A : Nat} {ws : List ByteArray} {nx : Nat} {wr : Bool} (h : RS w R A ws nx wr) (hlt : nx < ws.length) : RS (w.setCell ⟨R, 1, none⟩ (.int .i64 ((nx : Int) + 1))) R A ws (nx + 1) wr :=
  ⟨(World.cell?_setCell_other _ _ _ _ (by simp)).trans h.c0, World.cell?_setCell_same _ _ _ h.c1, (World.cell?_setCell_other _ _ _ _ (by simp)).trans h.c2, (World.frozen?_setCell ..).trans h.f1, (World.frozen?_setCell ..).trans h.f2, h.ne,
    fun i hi => (World.cell?_setCell_other _ _ _ _ (by simp; intro e; exact absurd e.symm h.ne)).trans (h.rows i hi), h.len, hlt, h.short⟩
theorem RS.bad {w : World} {R A : Nat} {ws : List ByteArray} {nx : Nat} {wr : Bool} (h : RS w R A ws nx wr) : RS (w.setCell ⟨R, 2, none⟩ (.bool true)) R A ws nx true :=
  ⟨(World.cell?_setCell_other _ _ _ _ (by simp)).trans h.c0, (World.cell?_setCell_other _ _ _ _ (by simp)).trans h.c1, World.cell?_setCell_same _ _ _ h.c2, (World.frozen?_setCell ..).trans h.f1, (World.frozen?_setCell ..).trans h.f2, h.ne,
    fun i hi => (World.cell?_setCell_other _ _ _ _ (by simp; intro e; exact absurd e.symm h.ne)).trans (h.rows i hi), h.len, h.nxle, h.short⟩

set_option maxHeartbeats 1000000 in
theorem is_yes (R A : Nat) (ws : List ByteArray) (nx : Nat) (wr : Bool) (word : ByteArray) (w : World) (h : RS w R A ws nx wr) (hn : moreB ws.length nx wr = true) (hlt : nx < ws.length) (he : (ws[nx].toList == word.toList) = true) :
    Calls Tryz.prog 82 #[.pointer (some ⟨R, 0, none⟩), .string word] w fun e w' => e = .returned (.bool true) ∧ RS w' R A ws (nx + 1) wr ∧ Kept R w w' := by
  have c0 := h.c0
  have c1 := h.c1
  have c2 := h.c2
  have f1 := h.f1
  have cr := h.rows nx hlt
  have hl := h.len
  have hi : (nx : Int) < (ws.length : Int) := by omega
  go_enter Tryz.func82, Tryz.ntmps82
  go_wp2
  go_quiet ((go_at_call 61; exact Calls.quiet_of (more_any R A ws nx wr _ (h.drewN _))))
  go_wp2
  go_ret
  exact ⟨rfl, (h.drewN _).step hlt, ((Kept.refl R w).drewN _).setCell _ _⟩

/-- 'is' at whatever word: what it answers, where it leaves the reader. -/
def isB (ws : List ByteArray) (nx : Nat) (wr : Bool) (word : ByteArray) : Bool := moreB ws.length nx wr && ((ws.getD nx ByteArray.empty).toList == word.toList)

theorem is_any (R A : Nat) (ws : List ByteArray) (nx : Nat) (wr : Bool) (word : ByteArray) (w : World) (h : RS w R A ws nx wr) :
    Calls Tryz.prog 82 #[.pointer (some ⟨R, 0, none⟩), .string word] w fun e w' => e = .returned (.bool (isB ws nx wr word)) ∧ RS w' R A ws (if isB ws nx wr word then nx + 1 else nx) wr ∧ Kept R w w' := by
  cases hm : moreB ws.length nx wr
  · have e : isB ws nx wr word = false := by simp [isB, hm]
    rw [e]
    refine (is_end R A ws nx wr word w h hm).mono ?_
    rintro e w' ⟨rfl, n, rfl⟩
    exact ⟨rfl, h.drewN n, (Kept.refl R w).drewN n⟩
  · have hlt : nx < ws.length := by
      by_cases hlt : nx < ws.length
      · exact hlt
      · rw [moreB_false (by omega)] at hm; cases hm
    have eg : ws.getD nx ByteArray.empty = ws[nx] := by simp [List.getD, hlt]
    cases he : (ws[nx].toList == word.toList)
    · have e : isB ws nx wr word = false := by rw [isB, eg, he, Bool.and_false]
      rw [e]
      refine (is_other R A ws nx wr word w h hm hlt he).mono ?_
      rintro e w' ⟨rfl, n, rfl⟩
      exact ⟨rfl, h.drewN n, (Kept.refl R w).drewN n⟩
    · have e : isB ws nx wr word = true := by rw [isB, eg, he, hm]; rfl
      rw [e]
      exact is_yes R A ws nx wr word w h hm hlt he

set_option maxHeartbeats 1000000 in
theorem must_any (R A : Nat) (ws : List ByteArray) (nx : Nat) (wr : Bool) (word : ByteArray) (w : World) (h : RS w R A ws nx wr) :
    Calls Tryz.prog 131 #[.pointer (some ⟨R, 0, none⟩), .string word] w fun e w' => e = .returned (.tuple #[]) ∧ RS w' R A ws (if isB ws nx wr word then nx + 1 else nx) (if isB ws nx wr word then wr else true) ∧ Kept R w w' := by
  cases hb : isB ws nx wr word
  · go_enter Tryz.func131, Tryz.ntmps131
    go_wp2_with fail
    refine (is_any R A ws nx wr word w h).mono ?_
    rintro e w' ⟨rfl, h1, k1⟩
    rw [hb] at h1 ⊢
    have c2 := h1.c2
    have f2 := h1.f2
    go_wp2
    go_end0
    exact ⟨rfl, h1.bad, k1.setCell _ _⟩
  · go_enter Tryz.func131, Tryz.ntmps131
    go_wp2_with fail
    refine (is_any R A ws nx wr word w h).mono ?_
    rintro e w' ⟨rfl, h1, k1⟩
    rw [hb] at h1 ⊢
    go_wp2
    go_end0
    exact ⟨rfl, h1, k1⟩

end Go.Proofs.YtjfkfiffakbagaaGreatDoor


/-
  The reader's take at each reader of words.
-/
namespace Go.Proofs.YtjfkfiffakbagaaGreatDoor
open Go.RowKit

/-- What a take does to the reader: nx words taken, wr: one was wrong; b: does the next word serve? -/
def tkB (ws : List ByteArray) (nx : Nat) (wr : Bool) (B : ByteArray → Bool) : Bool := moreB ws.length nx wr && B (ws.getD nx ByteArray.empty)
def tkN (ws : List ByteArray) (nx : Nat) (wr : Bool) (B : ByteArray → Bool) : Nat := if tkB ws nx wr B then nx + 1 else nx
def tkW (ws : List ByteArray) (nx : Nat) (wr : Bool) (B : ByteArray → Bool) : Bool := if tkB ws nx wr B then wr else true
def tkV (ws : List ByteArray) (nx : Nat) (wr : Bool) (B : ByteArray → Bool) (V : ByteArray → Int) : Int := if tkB ws nx wr B then V (ws.getD nx ByteArray.empty) else 0

theorem moreB_lt {n nx : Nat} {wr : Bool} (h : moreB n nx wr = true) : nx < n := by
  by_cases hlt : nx < n
  · exact hlt
  · rw [moreB_false (by omega)] at h; cases h
theorem getD_lt (ws : List ByteArray) (nx : Nat) (h : nx < ws.length) : ws.getD nx ByteArray.empty = ws[nx] := by simp [List.getD, h]

set_option maxHeartbeats 1000000 in
/-- There is no next word, or one was wrong: whatever reader of words. -/
theorem takeInt_end (f : Value) (R A : Nat) (ws : List ByteArray) (nx : Nat) (wr : Bool) (w : World) (h : RS w R A ws nx wr) (hm : moreB ws.length nx wr = false) :
    Calls Tryz.prog 132 #[.pointer (some ⟨R, 0, none⟩), f] w fun e w' => e = .returned (.int .i64 0) ∧ RS w' R A ws nx true ∧ Kept R w w' := by
  go_enter Tryz.func132, Tryz.ntmps132
  go_wp2_with fail
  refine (more_any R A ws nx wr w h).mono ?_
  rintro e w1 ⟨rfl, n, hw⟩
  have h1 : RS w1 R A ws nx wr := by rw [hw]; exact h.drewN n
  have k1 : Kept R w w1 := by rw [hw]; exact (Kept.refl R w).drewN n
  have c2 := h1.c2
  have f2 := h1.f2
  clear hw
  go_wp2
  go_ret
  exact ⟨rfl, h1.bad, k1.setCell _ _⟩

set_option maxHeartbeats 1000000 in
theorem takeNum_ok (R A : Nat) (ws : List ByteArray) (nx : Nat) (wr : Bool) (w : World) (h : RS w R A ws nx wr) (hm : moreB ws.length nx wr = true) (hlt : nx < ws.length) (hs : ws[nx].size ≤ maxLen) (hb : Txt.isNum ws[nx].data.toList = true) :
    Calls Tryz.prog 132 #[.pointer (some ⟨R, 0, none⟩), .func (.func 136) #[] #[]] w fun e w' => e = .returned (.int .i64 (Txt.numV ws[nx].data.toList)) ∧ RS w' R A ws (nx + 1) wr ∧ Kept R w w' := by
  have hi : (nx : Int) < (ws.length : Int) := by omega
  go_enter Tryz.func132, Tryz.ntmps132
  go_wp2_with fail
  refine (more_any R A ws nx wr w h).mono ?_
  rintro e w1 ⟨rfl, n, hw⟩
  have h1 : RS w1 R A ws nx wr := by rw [hw]; exact h.drewN n
  have k1 : Kept R w w1 := by rw [hw]; exact (Kept.refl R w).drewN n
  have c0 := h1.c0
  have c1 := h1.c1
  have f1 := h1.f1
  have cr := h1.rows nx hlt
  have hl := h1.len
  clear hw
  go_wp2
  go_quiet ((go_at_call 136; exact Calls.quiet_of_same (readNum_any _ _ hs)))
  go_wp2
  go_ret
  exact ⟨rfl, (h1.drewN _).step hlt, (k1.drewN _).setCell _ _⟩

set_option maxHeartbeats 1000000 in
theorem takeNum_no (R A : Nat) (ws : List ByteArray) (nx : Nat) (wr : Bool) (w : World) (h : RS w R A ws nx wr) (hm : moreB ws.length nx wr = true) (hlt : nx < ws.length) (hs : ws[nx].size ≤ maxLen) (hb : Txt.isNum ws[nx].data.toList = false) :
    Calls Tryz.prog 132 #[.pointer (some ⟨R, 0, none⟩), .func (.func 136) #[] #[]] w fun e w' => e = .returned (.int .i64 0) ∧ RS w' R A ws nx true ∧ Kept R w w' := by
  have hi : (nx : Int) < (ws.length : Int) := by omega
  go_enter Tryz.func132, Tryz.ntmps132
  go_wp2_with fail
  refine (more_any R A ws nx wr w h).mono ?_
  rintro e w1 ⟨rfl, n, hw⟩
  have h1 : RS w1 R A ws nx wr := by rw [hw]; exact h.drewN n
  have k1 : Kept R w w1 := by rw [hw]; exact (Kept.refl R w).drewN n
  have c0 := h1.c0
  have c1 := h1.c1
  have c2 := h1.c2
  have f2 := h1.f2
  have cr := h1.rows nx hlt
  have hl := h1.len
  clear hw
  go_wp2
  go_quiet ((go_at_call 136; exact Calls.quiet_of_same (readNum_any _ _ hs)))
  go_wp2
  go_ret
  exact ⟨rfl, (h1.drewN _).bad, (k1.drewN _).setCell _ _⟩

end Go.Proofs.YtjfkfiffakbagaaGreatDoor


/-
  The walks over the readers of names, dates and times of package lines, and over those of package bookingsref.
-/
namespace Go.Proofs.YtjfkfiffakbagaaGreatDoor
open Go.RowKit

/-- What the package variables hold that the road passes. -/
structure Env (w : World) : Prop where
  tab : Tab w
  maxl : ∃ m, w.cell? ⟨7, 0, none⟩ = some (.int .i64 m)
  pow : Lib.TabIs Tryz.prog w "internal/strconv.uint64pow10" .u64 Lib.pow10Tab
  size : 10 ≤ w.heap.size
  mo : w.cell? ⟨2, 0, none⟩ = some (.string ⟨#[109, 111]⟩)
  tu : w.cell? ⟨2, 1, none⟩ = some (.string ⟨#[116, 117]⟩)
  we : w.cell? ⟨2, 2, none⟩ = some (.string ⟨#[119, 101]⟩)
  th : w.cell? ⟨2, 3, none⟩ = some (.string ⟨#[116, 104]⟩)
  fr : w.cell? ⟨2, 4, none⟩ = some (.string ⟨#[102, 114]⟩)
  sa : w.cell? ⟨2, 5, none⟩ = some (.string ⟨#[115, 97]⟩)
  su : w.cell? ⟨2, 6, none⟩ = some (.string ⟨#[115, 117]⟩)

theorem gPow : Tryz.prog.globalNamed "internal/strconv.uint64pow10" = some 1 := by kernel_rfl
theorem Env.later {w wx : World} (h : Env w) (hb : Below w.heap.size w wx) : Env wx := by
  obtain ⟨m, hm⟩ := h.maxl
  refine ⟨h.tab.later hb, ⟨m, cell_later hb hm⟩, ?_, Nat.le_trans h.size hb.size, cell_later hb h.mo, cell_later hb h.tu, cell_later hb h.we, cell_later hb h.th, cell_later hb h.fr, cell_later hb h.sa, cell_later hb h.su⟩
  have hp := h.pow
  have hz := h.size
  unfold Lib.TabIs World.var? at hp ⊢
  simp only [gPow, Option.bind_some] at hp ⊢
  rw [hb.block 1 (by omega)]
  exact hp
theorem Env.drewN {w : World} (h : Env w) (n : Nat) : Env (w.drewN n) := h.later (w := w) (wx := w.drewN n) ⟨rfl, rfl, rfl, Nat.le_refl _, fun _ _ => rfl⟩

theorem ret2_sb {a b : ByteArray} {c d : Bool} (h : a = b) (g : c = d) : Ending.returned (.tuple #[.string a, .bool c]) = .returned (.tuple #[.string b, .bool d]) := by rw [h, g]

set_option maxHeartbeats 400000 in
theorem clone_any (s : ByteArray) (w : World) (hs : s.size ≤ 281474976710656) :
    Calls Tryz.prog 139 #[.string s] w fun e w' => e = .returned (.string s) ∧ Below w.heap.size w w' := by
  go_enter Tryz.func139, Tryz.ntmps139
  go_wp2_with fail
  refine (Tryz.stringslite_Clone s w hs).mono ?_
  rintro e w' ⟨rfl, hb⟩
  go_wp2
  go_ret
  exact ⟨rfl, hb⟩

/-- What readName hands back beside its answer. -/
def nameV (s : ByteArray) : ByteArray := if Txt.isName s.data.toList then s else ⟨#[]⟩

set_option maxHeartbeats 1000000 in
theorem readName_any (s : ByteArray) (w : World) (hs : s.size ≤ 160) :
    Calls Tryz.prog 128 #[.string s] w fun e w' => e = .returned (.tuple #[.string (nameV s), .bool (Txt.isName s.data.toList)]) ∧ Below w.heap.size w w' := by
  by_cases h0 : s.size = 0
  · have H : Hid (Txt.isName s.data.toList = false) := Txt.isName_len (by rw [Txt.len_list]; omega)
    have h1 : ((s.size : Int) == 0) = true := beq_iff_eq.2 (by omega)
    go_enter Tryz.func128, Tryz.ntmps128
    go_wp2
    go_ret2
    exact ⟨ret2_sb (by simp [nameV, H.out]) (by rw [H.out]), Below.refl _ _⟩
  · have h1 : ((s.size : Int) == 0) = false := beq_eq_false_iff_ne.2 (by omega)
    by_cases h7 : 8 < s.size
    · have H : Hid (Txt.isName s.data.toList = false) := Txt.isName_len (by rw [Txt.len_list]; omega)
      clear h0
      go_enter Tryz.func128, Tryz.ntmps128
      go_wp2
      go_ret2
      exact ⟨ret2_sb (by simp [nameV, H.out]) (by rw [H.out]), Below.refl _ _⟩
    · go_enter Tryz.func128, Tryz.ntmps128
      go_wp2
      go_loop [4] (fun i => ∃ k : Nat, k ≤ s.size ∧ i = .int .i64 k ∧ Txt.lows (s.data.toList.take k) = true) (fun i => s.size - (intOf i).toNat)
      case atStart => exact ⟨0, Nat.zero_le _, rfl, rfl⟩
      case round =>
        obtain ⟨k, hk, rfl, hd⟩ := hrel
        have HD := hide hd
        clear hd
        by_cases hlt : k < s.size
        · have HT : Hid (s.data.toList.take (k + 1) = s.data.toList.take k ++ [s[k]]) := Txt.take_snoc s k hlt
          by_cases hc : Txt.low s[k] = true
          · have hc' := (Txt.low_iff _).1 hc
            have HC := hide hc
            obtain ⟨hc1, hc2⟩ := hc'
            clear hc
            go_wp2
            go_round
            case rel => exact ⟨k + 1, by omega, by go_num, by rw [HT.out, Txt.lows_snoc, HD.out, HC.out]; rfl⟩
            case measure => simp [intOf]; omega
          · have HC : Hid (Txt.isName s.data.toList = false) := Txt.isName_low (Txt.lows_of_take _ (k + 1) (by rw [HT.out, Txt.lows_snoc, HD.out]; simpa using hc))
            have hc' : (s[k].toNat : Int) < 97 ∨ (¬ (s[k].toNat : Int) < 97 ∧ 122 < (s[k].toNat : Int)) := by
              have := mt (Txt.low_iff s[k]).2 hc; omega
            clear hc
            rcases hc' with hc' | ⟨hc', hc''⟩
            all_goals
              go_wp2
              go_ret2
              exact ⟨ret2_sb (by simp [nameV, HC.out]) (by rw [HC.out]), Below.refl _ _⟩
        · have HA : Hid (s.data.toList.take k = s.data.toList) := Txt.take_all s k (by omega)
          have HN : Hid (Txt.isName s.data.toList = true) := Txt.isName_true (by rw [Txt.len_list]; omega) (by rw [Txt.len_list]; omega) (by rw [← HA.out]; exact HD.out)
          go_wp2_with fail
          refine (clone_any s w (by omega)).mono ?_
          rintro e w' ⟨rfl, hb⟩
          go_wp2
          go_ret2
          exact ⟨ret2_sb (by simp [nameV, HN.out]) (by rw [HN.out]), hb⟩

end Go.Proofs.YtjfkfiffakbagaaGreatDoor


/-
  The walks over the readers of minutes, dates and times of package bookingsref, and over those of dates and times of package lines.
-/
namespace Go.Proofs.YtjfkfiffakbagaaGreatDoor
open Go.RowKit

theorem dayB_and (s : ByteArray) : Txt.dayB s = (Txt.dateB s && decide (0 ≤ Txt.dateV s) && decide (Txt.dateV s < 728)) := by
  rw [Bool.eq_iff_iff]; simp [Txt.dayB, and_assoc]
def dayV (s : ByteArray) : Int := if Txt.dayB s then Txt.dateV s else 0

set_option maxHeartbeats 1000000 in
theorem readDate_any (s : ByteArray) (w : World) (ht : Tab w) (hm : s.size ≤ 160) :
    Calls Tryz.prog 133 #[.string s] w fun e w' => e = .returned (.tuple #[.int .i64 (dayV s), .bool (Txt.dayB s)]) ∧ w' = w := by
  have hm' : s.size ≤ maxLen := by unfold maxLen; omega
  have HD := hide (dayB_and s)
  cases hb : Txt.dateB s
  · go_enter Tryz.func133, Tryz.ntmps133
    go_wp2_with fail
    refine (readAnyDate_any s w ht hm').mono ?_
    rintro e w' ⟨rfl, rfl⟩
    go_wp2
    go_ret2
    exact ⟨ret2_ib (by simp [dayV, unhide HD, hb]) (by simp [unhide HD, hb]), rfl⟩
  · have hcase : Txt.dateV s < 0 ∨ (¬ Txt.dateV s < 0 ∧ 728 ≤ Txt.dateV s) ∨ (¬ Txt.dateV s < 0 ∧ ¬ 728 ≤ Txt.dateV s) := by omega
    rcases hcase with g | ⟨g, g'⟩ | ⟨g, g'⟩
    all_goals
      have HB : Hid (Txt.dayB s = (decide (0 ≤ Txt.dateV s) && decide (Txt.dateV s < 728))) := (unhide HD).trans (by rw [hb]; rfl)
      go_enter Tryz.func133, Tryz.ntmps133
      go_wp2_with fail
      refine (readAnyDate_any s w ht hm').mono ?_
      rintro e w' ⟨rfl, rfl⟩
      go_wp2
      go_ret2
      refine ⟨ret2_ib ?_ ?_, rfl⟩
    · rw [dayV, HB.out, decide_eq_false (by omega)]; rfl
    · rw [HB.out, decide_eq_false (by omega)]; rfl
    · rw [dayV, HB.out, decide_eq_false (p := Txt.dateV s < 728) (by omega), Bool.and_false]; rfl
    · rw [HB.out, decide_eq_false (p := Txt.dateV s < 728) (by omega), Bool.and_false]
    · rw [dayV, HB.out, decide_eq_true (p := Txt.dateV s < 728) (by omega), decide_eq_true (p := 0 ≤ Txt.dateV s) (by omega)]; rfl
    · rw [HB.out, decide_eq_true (p := Txt.dateV s < 728) (by omega), decide_eq_true (p := 0 ≤ Txt.dateV s) (by omega)]; rfl

end Go.Proofs.YtjfkfiffakbagaaGreatDoor


/-
  The walks over the readers of times, both sides.
-/
namespace Go.Proofs.YtjfkfiffakbagaaGreatDoor
open Go.RowKit

/-- TIME -/
def timeV (s : ByteArray) : Int := if Txt.isNum s.data.toList then Txt.numV s.data.toList else Txt.dmV s
def timeB (s : ByteArray) : Bool := (Txt.isNum s.data.toList || Txt.dmB s) && decide (0 ≤ timeV s ∧ timeV s ≤ 1048320)
def timW (s : ByteArray) : Int := if timeB s then timeV s else 0
theorem cutA_size (s : ByteArray) (h : s.size ≤ 160) : (Txt.cutA s).size ≤ 160 := by
  rw [← Txt.len_list]; unfold Txt.cutA Lib.cut
  have := Txt.len_list s
  split <;> simp <;> omega
theorem cutB_size (s : ByteArray) (h : s.size ≤ 160) : (Txt.cutB s).size ≤ 160 := by
  rw [← Txt.len_list]; unfold Txt.cutB Lib.cut
  have := Txt.len_list s
  split <;> simp <;> omega

set_option maxHeartbeats 1000000 in
theorem readDayAndMinute_any (s : ByteArray) (w : World) (he : Env w) (hm : s.size ≤ 160) :
    Calls Tryz.prog 188 #[.string s] w fun e w' => e = .returned (.tuple #[.int .i64 (Txt.dmV s), .bool (Txt.dmB s)]) ∧ ∃ n, w' = w.drewN n := by
  obtain ⟨m, hmx⟩ := he.maxl
  have HE := hide he
  have HC := hide (Txt.cut_dm s)
  have b1 := Txt.dateV_bd (Txt.cutA s)
  have b2 := Txt.minV_bd (Txt.cutB s)
  have hA : (Txt.cutA s).size ≤ maxLen := by have := cutA_size s hm; unfold maxLen; omega
  have hB : (Txt.cutB s).size ≤ maxLen := by have := cutB_size s hm; unfold maxLen; omega
  have HA := hide hA
  have HB := hide hB
  clear he hA hB
  cases hf : Txt.cutF s
  · have HD : Hid (Txt.dmB s = false) := by show Txt.dmB s = false; rw [← (unhide HC).1, hf]; rfl
    go_enter Tryz.func188, Tryz.ntmps188
    go_wp2_with fail
    refine (Tryz.strings_Cut s ⟨#[47]⟩ m w (by omega) hmx).mono ?_
    rintro e w1 ⟨rfl, n, rfl⟩
    rw [show (Lib.cut s.data.toList (ByteArray.mk #[47]).data.toList).snd.snd = Txt.cutF s from rfl]
    go_wp2
    go_ret2
    exact ⟨ret2_ib (by simp [Txt.dmV, HD.out]) (by rw [HD.out]), _, rfl⟩
  · cases hd : Txt.dateB (Txt.cutA s)
    · have HD : Hid (Txt.dmB s = false) := by show Txt.dmB s = false; rw [← (unhide HC).1, hf, hd]; rfl
      go_enter Tryz.func188, Tryz.ntmps188
      go_wp2_with fail
      refine (Tryz.strings_Cut s ⟨#[47]⟩ m w (by omega) hmx).mono ?_
      rintro e w1 ⟨rfl, n, rfl⟩
      rw [show (Lib.cut s.data.toList (ByteArray.mk #[47]).data.toList).snd.snd = Txt.cutF s from rfl, show (ByteArray.mk (Lib.cut s.data.toList (ByteArray.mk #[47]).data.toList).fst.toArray) = Txt.cutA s from rfl, show (ByteArray.mk (Lib.cut s.data.toList (ByteArray.mk #[47]).data.toList).snd.fst.toArray) = Txt.cutB s from rfl]
      go_wp2_with fail
      refine (readAnyDate_any (Txt.cutA s) _ ((unhide HE).drewN n).tab (unhide HA)).mono ?_
      rintro e w1 ⟨rfl, rfl⟩
      go_wp2_with fail
      refine (readMinute_any (Txt.cutB s) _ (unhide HB)).mono ?_
      rintro e w1 ⟨rfl, rfl⟩
      go_wp2
      go_ret2
      exact ⟨ret2_ib (by simp [Txt.dmV, HD.out]) (by rw [HD.out]), _, rfl⟩
    · cases hn : Txt.minB (Txt.cutB s)
      · have HD : Hid (Txt.dmB s = false) := by show Txt.dmB s = false; rw [← (unhide HC).1, hf, hd, hn]; rfl
        go_enter Tryz.func188, Tryz.ntmps188
        go_wp2_with fail
        refine (Tryz.strings_Cut s ⟨#[47]⟩ m w (by omega) hmx).mono ?_
        rintro e w1 ⟨rfl, n, rfl⟩
        rw [show (Lib.cut s.data.toList (ByteArray.mk #[47]).data.toList).snd.snd = Txt.cutF s from rfl, show (ByteArray.mk (Lib.cut s.data.toList (ByteArray.mk #[47]).data.toList).fst.toArray) = Txt.cutA s from rfl, show (ByteArray.mk (Lib.cut s.data.toList (ByteArray.mk #[47]).data.toList).snd.fst.toArray) = Txt.cutB s from rfl]
        go_wp2_with fail
        refine (readAnyDate_any (Txt.cutA s) _ ((unhide HE).drewN n).tab (unhide HA)).mono ?_
        rintro e w1 ⟨rfl, rfl⟩
        go_wp2_with fail
        refine (readMinute_any (Txt.cutB s) _ (unhide HB)).mono ?_
        rintro e w1 ⟨rfl, rfl⟩
        go_wp2
        go_ret2
        exact ⟨ret2_ib (by simp [Txt.dmV, HD.out]) (by rw [HD.out]), _, rfl⟩
      · have HD : Hid (Txt.dmB s = true) := by show Txt.dmB s = true; rw [← (unhide HC).1, hf, hd, hn]; rfl
        have HV := hide ((unhide HC).2 HD.out)
        go_enter Tryz.func188, Tryz.ntmps188
        go_wp2_with fail
        refine (Tryz.strings_Cut s ⟨#[47]⟩ m w (by omega) hmx).mono ?_
        rintro e w1 ⟨rfl, n, rfl⟩
        rw [show (Lib.cut s.data.toList (ByteArray.mk #[47]).data.toList).snd.snd = Txt.cutF s from rfl, show (ByteArray.mk (Lib.cut s.data.toList (ByteArray.mk #[47]).data.toList).fst.toArray) = Txt.cutA s from rfl, show (ByteArray.mk (Lib.cut s.data.toList (ByteArray.mk #[47]).data.toList).snd.fst.toArray) = Txt.cutB s from rfl]
        go_wp2_with fail
        refine (readAnyDate_any (Txt.cutA s) _ ((unhide HE).drewN n).tab (unhide HA)).mono ?_
        rintro e w1 ⟨rfl, rfl⟩
        go_wp2_with fail
        refine (readMinute_any (Txt.cutB s) _ (unhide HB)).mono ?_
        rintro e w1 ⟨rfl, rfl⟩
        go_wp2
        go_ret2
        exact ⟨ret2_ib (unhide HV) (by rw [HD.out]), _, rfl⟩

theorem timeB_num {s : ByteArray} (h : Txt.isNum s.data.toList = true) : timeB s = decide (Txt.numV s.data.toList ≤ 1048320) ∧ timeV s = Txt.numV s.data.toList := by
  have b := Txt.numV_bd s.data.toList
  have e : timeV s = Txt.numV s.data.toList := by simp [timeV, h]
  refine ⟨?_, e⟩
  unfold timeB; rw [e, h, Bool.eq_iff_iff]; simp; omega
theorem timeB_dm {s : ByteArray} (h : Txt.isNum s.data.toList = false) : timeB s = (Txt.dmB s && decide (0 ≤ Txt.dmV s ∧ Txt.dmV s ≤ 1048320)) ∧ timeV s = Txt.dmV s := by
  have e : timeV s = Txt.dmV s := by simp [timeV, h]
  exact ⟨by unfold timeB; rw [e, h]; rfl, e⟩

set_option maxHeartbeats 1000000 in
theorem readTime_any (s : ByteArray) (w : World) (he : Env w) (hm : s.size ≤ 160) :
    Calls Tryz.prog 137 #[.string s] w fun e w' => e = .returned (.tuple #[.int .i64 (timW s), .bool (timeB s)]) ∧ ∃ n, w' = w.drewN n := by
  have HE := hide he
  have hm' : s.size ≤ maxLen := by unfold maxLen; omega
  clear he
  cases hn : Txt.isNum s.data.toList
  · have HT := hide (timeB_dm hn)
    cases hd : Txt.dmB s
    · have HB : Hid (timeB s = false) := by show timeB s = false; rw [(unhide HT).1, hd]; rfl
      go_enter Tryz.func137, Tryz.ntmps137
      go_wp2_with fail
      refine (readNum_any s w hm').mono ?_
      rintro e w' ⟨rfl, rfl⟩
      go_wp2_with fail
      refine (readDayAndMinute_any s _ (unhide HE) hm).mono ?_
      rintro e w1 ⟨rfl, n, rfl⟩
      go_wp2
      go_ret2
      exact ⟨ret2_ib (by simp [timW, HB.out]) (by rw [HB.out]), _, rfl⟩
    · have hcase : Txt.dmV s < 0 ∨ (¬ Txt.dmV s < 0 ∧ 1048320 < Txt.dmV s) ∨ (¬ Txt.dmV s < 0 ∧ ¬ 1048320 < Txt.dmV s) := by omega
      rcases hcase with g | ⟨g, g'⟩ | ⟨g, g'⟩
      · have HB : Hid (timeB s = false) := by show timeB s = false; rw [(unhide HT).1, hd, decide_eq_false (by omega)]; rfl
        go_enter Tryz.func137, Tryz.ntmps137
        go_wp2_with fail
        refine (readNum_any s w hm').mono ?_
        rintro e w' ⟨rfl, rfl⟩
        go_wp2_with fail
        refine (readDayAndMinute_any s _ (unhide HE) hm).mono ?_
        rintro e w1 ⟨rfl, n, rfl⟩
        go_wp2
        go_ret2
        exact ⟨ret2_ib (by simp [timW, HB.out]) (by rw [HB.out]), _, rfl⟩
      · have HB : Hid (timeB s = false) := by show timeB s = false; rw [(unhide HT).1, hd, decide_eq_false (by omega)]; rfl
        go_enter Tryz.func137, Tryz.ntmps137
        go_wp2_with fail
        refine (readNum_any s w hm').mono ?_
        rintro e w' ⟨rfl, rfl⟩
        go_wp2_with fail
        refine (readDayAndMinute_any s _ (unhide HE) hm).mono ?_
        rintro e w1 ⟨rfl, n, rfl⟩
        go_wp2
        go_ret2
        exact ⟨ret2_ib (by simp [timW, HB.out]) (by rw [HB.out]), _, rfl⟩
      · have HB : Hid (timeB s = true) := by show timeB s = true; rw [(unhide HT).1, hd, decide_eq_true (by omega)]; rfl
        have HV := hide (unhide HT).2
        go_enter Tryz.func137, Tryz.ntmps137
        go_wp2_with fail
        refine (readNum_any s w hm').mono ?_
        rintro e w' ⟨rfl, rfl⟩
        go_wp2_with fail
        refine (readDayAndMinute_any s _ (unhide HE) hm).mono ?_
        rintro e w1 ⟨rfl, n, rfl⟩
        go_wp2
        go_ret2
        exact ⟨ret2_ib (by simp [timW, HB.out, unhide HV]) (by rw [HB.out]), _, rfl⟩
  · have HT := hide (timeB_num hn)
    have b := Txt.numV_bd s.data.toList
    by_cases g : 1048320 < Txt.numV s.data.toList
    · have HB : Hid (timeB s = false) := by show timeB s = false; rw [(unhide HT).1, decide_eq_false (by omega)]
      go_enter Tryz.func137, Tryz.ntmps137
      go_wp2_with fail
      refine (readNum_any s w hm').mono ?_
      rintro e w' ⟨rfl, rfl⟩
      go_wp2
      go_ret2
      exact ⟨ret2_ib (by simp [timW, HB.out]) (by rw [HB.out]), 0, rfl⟩
    · have HB : Hid (timeB s = true) := by show timeB s = true; rw [(unhide HT).1, decide_eq_true (by omega)]
      have HV := hide (unhide HT).2
      go_enter Tryz.func137, Tryz.ntmps137
      go_wp2_with fail
      refine (readNum_any s w hm').mono ?_
      rintro e w' ⟨rfl, rfl⟩
      go_wp2
      go_ret2
      exact ⟨ret2_ib (by simp [timW, HB.out, unhide HV]) (by rw [HB.out]), 0, rfl⟩

end Go.Proofs.YtjfkfiffakbagaaGreatDoor


/-
  The walks over the splitting of a line into words, both sides.
-/
namespace Go.Proofs.YtjfkfiffakbagaaGreatDoor
open Go.RowKit

set_option maxHeartbeats 400000 in
theorem blank_any (x : Nat) (w : World) :
    Calls Tryz.prog 81 #[.int .i32 x] w fun e w' => e = .returned (.bool (x == 32)) ∧ ∃ q, w' = w.drewN q := by
  go_enter Tryz.func81, Tryz.ntmps81
  go_wp2
  go_ret
  refine ⟨ret_bool ?_, 0, rfl⟩
  rw [Bool.eq_iff_iff]; simp; omega

theorem enter_blank (args : Array Value) (w : World) : Sem.run Tryz.prog (callFunc 81 args) w = .ok (.enter 81 args) w := by kernel_rfl

set_option maxHeartbeats 400000 in
theorem split_any (s : ByteArray) (w : World) (hs : s.size ≤ 160) :
    Calls Tryz.prog 59 #[.string s] w fun e w' => ∃ A, e = .returned (.slice (some ⟨A, 0, none⟩) (Txt.wordsS s).length (Txt.wordsS s).length) ∧ w.heap.size ≤ A ∧
      w'.ownsRow w.heap.size 9 1 (.slice (some ⟨A, 0, none⟩) (Txt.wordsS s).length (Txt.wordsS s).length) (Txt.wordsS s).length ((Txt.wordsS s).map Value.string) ∧ Below w.heap.size w w' := by
  have hp : PredAtRunes Tryz.prog 81 #[] (fun r => r == 32) w := fun W x _ _ => blank_any x W
  have HP := hide hp
  clear hp
  go_enter Tryz.func59, Tryz.ntmps59
  go_wp2_with fail
  refine (Tryz.strings_FieldsFunc_runes 81 #[] enter_blank (fun r => r == 32) s w (by omega) (unhide HP)).mono ?_
  rintro e w' ⟨A, rfl, hA, ho, hb⟩
  rw [Txt.fields_words] at ho ⊢
  go_wp2
  go_ret
  exact ⟨A, rfl, hA, ho, hb⟩

theorem toList_data (b : ByteArray) : b.toList = b.data.toList := Lib.toList_data b
end Go.Proofs.YtjfkfiffakbagaaGreatDoor

