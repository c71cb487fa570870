/-
  Parts of the proof, one behind the other: RuleWk, RuleMo, RuleEnd2, RuleFirst, RuleAll.
-/
import Derived.Test.YtjfkfiffakbagaaGreatDoorL19
import Derived.Deep.CutRange
import Derived.Deep.RegionWith
import Derived.Deep.RegionHeld3
import Derived.Maps.AppendAt
import Derived.Deep.AppendLies
import Derived.Lib.SmallJoins
/-
  Package rules: the iterators over the days of a rule: weekly.
-/
namespace Go.Proofs.YtjfkfiffakbagaaGreatDoor
open Go.RowKit Go.Shelf

attribute [local go_sem] Oper.semAt_some

theorem rule_on {w : World} {b : Nat} {r : Rd.Rule} (h : w.heap[b]? = some (ruleO r)) : ∀ i : Nat, i < 7 → w.cell? ⟨b, 2 + i, none⟩ = some (.bool (isd r.acc i))
  | 0, _ => rule_c2 h
  | 1, _ => rule_c3 h
  | 2, _ => rule_c4 h
  | 3, _ => rule_c5 h
  | 4, _ => rule_c6 h
  | 5, _ => rule_c7 h
  | 6, _ => rule_c8 h
  | i + 7, hi => by omega

set_option maxRecDepth 100000 in
set_option maxHeartbeats 4000000 in
theorem weekly1_in (F : Fence) (n : Nat) (h6 : F.fn 288) (hro : F.round = none) (hn : 1 ≤ n) (l Bn n₀ : Nat) (r : Rd.Rule) (hf : Rd.Fine r) (J Jx : List Int → World → Prop)
    (hY : ∀ pre x W, J pre W → pre.length < (Rd.seqW r.acc r.fr r.ev 800 (r.fr - r.fr % 7)).length → YieldAt F (n - 1) Tryz.prog l #[.int .i64 x] W fun e W' =>
      (e = .returned (.bool true) ∧ J (pre ++ [x]) W' ∧ RK n₀ Bn W W') ∨ (e = .returned (.bool false) ∧ Jx (pre ++ [x]) W'))
    (W : World) (hr : W.heap[Bn]? = some (ruleO r)) (h0 : J [] W) :
    CallsIn F n Tryz.prog 288 #[.func (.yield l) #[] #[], .pointer (some ⟨Bn, 0, none⟩)] W fun e W' => (∃ v, e = .returned v) ∧
      ((∃ ys, ys = Rd.seqW r.acc r.fr r.ev 800 (r.fr - r.fr % 7) ∧ J ys W') ∨ (∃ pre, pre <+: Rd.seqW r.acc r.fr r.ev 800 (r.fr - r.fr % 7) ∧ Jx pre W')) := by
  have c9 := rule_c9 hr
  have e1 := hf.e1
  have e2 := hf.e2
  have f0 := hf.f0
  have f1 := hf.f1
  clear hf
  have m1 : r.fr.tmod 7 = r.fr % 7 := Int.tmod_eq_emod_of_nonneg f0
  have m2 : IntKind.i64.wrap (r.fr % 7) = r.fr % 7 := wrap_small (by omega) (by omega)
  have m3 : IntKind.i64.wrap (r.fr - r.fr % 7) = r.fr - r.fr % 7 := wrap_small (by omega) (by omega)
  have m4 : IntKind.i64.wrap (r.ev * 7) = r.ev * 7 := wrap_small (by omega) (by omega)
  generalize hS : Rd.seqW r.acc r.fr r.ev 800 (r.fr - r.fr % 7) = S at *
  refine callsIn_of_wp Tryz.func288 rfl h6 ?_ hro
  simp only [Tryz.ntmps288, List.size_toArray, List.length_cons, List.length_nil, Nat.reduceAdd, Nat.reduceSub, Array.replicate_succ, Array.replicate_zero, List.push_toArray, List.append_toArray, List.nil_append, List.cons_append]
  gi_wp2
  gi_loopw [3] (fun v wr => ∃ (d : Int) (f : Nat) (pre : List Int), v = .int .i64 d ∧ S = pre ++ Rd.seqW r.acc r.fr r.ev f d ∧ 0 ≤ d ∧ d ≤ 10000 ∧ r.fr < d + 7 ∧ 728 ≤ d + f ∧ J pre wr ∧ wr.heap[Bn]? = some (ruleO r)) (fun v _ => (20000 - intOf v).toNat)
  case atStart => exact ⟨r.fr - r.fr % 7, 800, [], rfl, hS.symm, by omega, by omega, by omega, by omega, h0, hr⟩
  case round =>
    obtain ⟨mon, f, pre, rfl, hx, hd0, hd1, hfr, hdf, hJ, hR⟩ := hrel
    clear c9 hr h0
    by_cases hlt : mon < 728
    · obtain ⟨f', rfl⟩ : ∃ f', f = f' + 1 := ⟨f - 1, by omega⟩
      have q1 : Rd.seqW r.acc r.fr r.ev (f' + 1) mon = Rd.week r.acc r.fr mon ++ Rd.seqW r.acc r.fr r.ev f' (mon + r.ev * 7) := by simp [Rd.seqW, hlt]
      rw [q1] at hx
      have k1 : IntKind.i64.wrap (mon + r.ev * 7) = mon + r.ev * 7 := wrap_small (by omega) (by omega)
      have k2 : IntKind.i64.wrap (mon + 7) = mon + 7 := wrap_small (by omega) (by omega)
      have c9 := rule_c9 hR
      by_cases hm : r.fr ≤ mon
      · have hwk : Rd.week r.acc r.fr mon = Rd.upDays (fun d => isd r.acc (d - mon)) (7 - 0) (mon + ((0 : Nat) : Int)) := by unfold Rd.week; rw [show max mon r.fr = mon from by omega, show (mon + 7 - mon).toNat = 7 from by omega]; simp
        gi_wp2
        gi_loopw [4] (fun v wr => ∃ (i : Nat) (pre' : List Int), v = .int .i64 (mon + i) ∧ i ≤ 7 ∧ pre' ++ Rd.upDays (fun d => isd r.acc (d - mon)) (7 - i) (mon + i) = pre ++ Rd.week r.acc r.fr mon ∧ J pre' wr ∧ wr.heap[Bn]? = some (ruleO r)) (fun v _ => (mon + 7 - intOf v).toNat)
        case atStart => exact ⟨0, pre, (by first | (simp; done) | (simp; omega)), by omega, by rw [hwk], hJ, hR⟩
        case round =>
          obtain ⟨i, pre', rfl, hi, hu, hJ', hR'⟩ := hrel
          clear hJ hR c9
          by_cases hi7 : i < 7
          · have hlt2 : mon + (i : Int) < mon + 7 := by omega
            have on := rule_on hR' i hi7
            have k3 : IntKind.i64.wrap (mon + (i : Int) - mon) = i := by rw [show mon + (i : Int) - mon = i from by omega]; exact wrap_small (by omega) (by omega)
            have k4 : IntKind.i64.wrap (mon + (i : Int) + 1) = mon + i + 1 := wrap_small (by omega) (by omega)
            have hp : mon + (i : Int) - mon = i := by omega
            have q5 : Rd.upDays (fun d => isd r.acc (d - mon)) (7 - i) (mon + i) = (if isd r.acc i then [mon + (i : Int)] else []) ++ Rd.upDays (fun d => isd r.acc (d - mon)) (7 - (i + 1)) (mon + ((i + 1 : Nat) : Int)) := by
              rw [show 7 - i = (7 - (i + 1)) + 1 from by omega, Rd.upDays, hp, show mon + ((i + 1 : Nat) : Int) = mon + i + 1 from by omega]
              split <;> simp
            rw [q5] at hu
            cases hb : isd r.acc i
            · rw [hb] at on hu
              gi_wp2
              refine ⟨fun _ h => (by cases h), ?_⟩
              gi_wp2
              go_roundw
              case rel => exact ⟨i + 1, pre', by simp; omega, by omega, by simpa using hu, hJ', hR'⟩
              case measure => simp [intOf]; omega
            · rw [hb] at on hu
              obtain ⟨fn, tmps, assign, body, hy, hRd⟩ := hY pre' (mon + i) wr hJ' (by rw [hx, ← List.append_assoc, ← hu]; simp)
              gi_wp2
              refine hRd.mono ?_
              rintro e W3 (⟨rfl, hJ3, hk3⟩ | ⟨rfl, hJx3⟩)
              · gi_wp2
                go_roundw
                case rel => exact ⟨i + 1, pre' ++ [mon + (i : Int)], by simp; omega, by omega, by simpa using hu, hJ3, hk3.2.trans hR'⟩
                case measure => simp [intOf]; omega
              · gi_wp2
                refine bodyPost_ret (results_none rfl _ _ _) rfl ?_
                exact ⟨⟨_, rfl⟩, .inr ⟨pre' ++ [mon + (i : Int)], ⟨Rd.upDays (fun d => isd r.acc (d - mon)) (7 - (i + 1)) (mon + ((i + 1 : Nat) : Int)) ++ Rd.seqW r.acc r.fr r.ev f' (mon + r.ev * 7), by rw [hx, ← List.append_assoc, ← List.append_assoc, ← hu]; simp⟩, hJx3⟩⟩
          · have hlt2 : ¬ mon + (i : Int) < mon + 7 := by omega
            have c1 := rule_c1 hR'
            have e7 : i = 7 := by omega
            subst e7
            simp only [Nat.sub_self, Rd.upDays, List.append_nil] at hu
            gi_wp2
            go_roundw
            case rel => exact ⟨mon + r.ev * 7, f', pre', by simp, by rw [hx, hu, List.append_assoc], by omega, by omega, by omega, by omega, hJ', hR'⟩
            case measure => simp [intOf]; omega
      · have hi0 : r.fr = mon + ((r.fr - mon).toNat : Int) := by omega
        have hwk : Rd.week r.acc r.fr mon = Rd.upDays (fun d => isd r.acc (d - mon)) (7 - (r.fr - mon).toNat) (mon + ((r.fr - mon).toNat : Int)) := by unfold Rd.week; rw [← hi0, show max mon r.fr = r.fr from by omega, show (mon + 7 - r.fr).toNat = 7 - (r.fr - mon).toNat from by omega]
        have HW := hidp (And.intro hi0 hwk)
        clear hi0 hwk
        gi_wp2
        gi_loopw [4] (fun v wr => ∃ (i : Nat) (pre' : List Int), v = .int .i64 (mon + i) ∧ i ≤ 7 ∧ pre' ++ Rd.upDays (fun d => isd r.acc (d - mon)) (7 - i) (mon + i) = pre ++ Rd.week r.acc r.fr mon ∧ J pre' wr ∧ wr.heap[Bn]? = some (ruleO r)) (fun v _ => (mon + 7 - intOf v).toNat)
        case atStart => exact ⟨(r.fr - mon).toNat, pre, (by first | (rw [← HW.out.1]; done) | (rw [← HW.out.1]; congr 1; omega)), by omega, by rw [HW.out.2], hJ, hR⟩
        case round =>
          obtain ⟨i, pre', rfl, hi, hu, hJ', hR'⟩ := hrel
          clear hJ hR c9
          by_cases hi7 : i < 7
          · have hlt2 : mon + (i : Int) < mon + 7 := by omega
            have on := rule_on hR' i hi7
            have k3 : IntKind.i64.wrap (mon + (i : Int) - mon) = i := by rw [show mon + (i : Int) - mon = i from by omega]; exact wrap_small (by omega) (by omega)
            have k4 : IntKind.i64.wrap (mon + (i : Int) + 1) = mon + i + 1 := wrap_small (by omega) (by omega)
            have hp : mon + (i : Int) - mon = i := by omega
            have q5 : Rd.upDays (fun d => isd r.acc (d - mon)) (7 - i) (mon + i) = (if isd r.acc i then [mon + (i : Int)] else []) ++ Rd.upDays (fun d => isd r.acc (d - mon)) (7 - (i + 1)) (mon + ((i + 1 : Nat) : Int)) := by
              rw [show 7 - i = (7 - (i + 1)) + 1 from by omega, Rd.upDays, hp, show mon + ((i + 1 : Nat) : Int) = mon + i + 1 from by omega]
              split <;> simp
            rw [q5] at hu
            cases hb : isd r.acc i
            · rw [hb] at on hu
              gi_wp2
              refine ⟨fun _ h => (by cases h), ?_⟩
              gi_wp2
              go_roundw
              case rel => exact ⟨i + 1, pre', by simp; omega, by omega, by simpa using hu, hJ', hR'⟩
              case measure => simp [intOf]; omega
            · rw [hb] at on hu
              obtain ⟨fn, tmps, assign, body, hy, hRd⟩ := hY pre' (mon + i) wr hJ' (by rw [hx, ← List.append_assoc, ← hu]; simp)
              gi_wp2
              refine hRd.mono ?_
              rintro e W3 (⟨rfl, hJ3, hk3⟩ | ⟨rfl, hJx3⟩)
              · gi_wp2
                go_roundw
                case rel => exact ⟨i + 1, pre' ++ [mon + (i : Int)], by simp; omega, by omega, by simpa using hu, hJ3, hk3.2.trans hR'⟩
                case measure => simp [intOf]; omega
              · gi_wp2
                refine bodyPost_ret (results_none rfl _ _ _) rfl ?_
                exact ⟨⟨_, rfl⟩, .inr ⟨pre' ++ [mon + (i : Int)], ⟨Rd.upDays (fun d => isd r.acc (d - mon)) (7 - (i + 1)) (mon + ((i + 1 : Nat) : Int)) ++ Rd.seqW r.acc r.fr r.ev f' (mon + r.ev * 7), by rw [hx, ← List.append_assoc, ← List.append_assoc, ← hu]; simp⟩, hJx3⟩⟩
          · have hlt2 : ¬ mon + (i : Int) < mon + 7 := by omega
            have c1 := rule_c1 hR'
            have e7 : i = 7 := by omega
            subst e7
            simp only [Nat.sub_self, Rd.upDays, List.append_nil] at hu
            gi_wp2
            go_roundw
            case rel => exact ⟨mon + r.ev * 7, f', pre', by simp, by rw [hx, hu, List.append_assoc], by omega, by omega, by omega, by omega, hJ', hR'⟩
            case measure => simp [intOf]; omega
    · have q1 : Rd.seqW r.acc r.fr r.ev f mon = [] := by cases f <;> simp [Rd.seqW, hlt]
      rw [q1, List.append_nil] at hx
      subst hx
      gi_wp2
      go_end0
      exact ⟨⟨_, rfl⟩, .inl hJ⟩

end Go.Proofs.YtjfkfiffakbagaaGreatDoor


/-
  Package rules: the iterators over the days of a rule: monthly.
-/
namespace Go.Proofs.YtjfkfiffakbagaaGreatDoor
open Go.RowKit Go.Shelf

attribute [local go_sem] Oper.semAt_some

theorem tabLater {n₀ : Nat} {w w' : World} (h : Tab w) (k : Below n₀ w w') (hn : 10 ≤ n₀) : Tab w' := by
  obtain ⟨a0, a1, a2, a3, a4, a5, a6, a7, a8, a9, a10, a11⟩ := h
  refine ⟨?_, ?_, ?_, ?_, ?_, ?_, ?_, ?_, ?_, ?_, ?_, ?_⟩
  all_goals (refine (k.cell (by show 0 < n₀; omega)).trans ?_; assumption)

set_option maxRecDepth 100000 in
set_option maxHeartbeats 4000000 in
theorem monthly1_in (n : Nat) (hn : 1 ≤ n) (l Bn n₀ : Nat) (h10 : 10 ≤ n₀) (r : Rd.Rule) (hf : Rd.Fine r) (J Jx : List Int → World → Prop)
    (hY : ∀ pre x W, J pre W → pre.length < (Rd.seqM (Cal.dT r.fr) r.ev 100 (Cal.yT r.fr) (Cal.mT r.fr)).length → YieldAt Fence.wide (n - 1) Tryz.prog l #[.int .i64 x] W fun e W' =>
      (e = .returned (.bool true) ∧ J (pre ++ [x]) W' ∧ RK n₀ Bn W W') ∨ (e = .returned (.bool false) ∧ Jx (pre ++ [x]) W'))
    (W : World) (ht : Tab W) (hr : W.heap[Bn]? = some (ruleO r)) (h0 : J [] W) :
    CallsIn Fence.wide n Tryz.prog 289 #[.func (.yield l) #[] #[], .pointer (some ⟨Bn, 0, none⟩)] W fun e W' => (∃ v, e = .returned v) ∧
      ((∃ ys, ys = Rd.seqM (Cal.dT r.fr) r.ev 100 (Cal.yT r.fr) (Cal.mT r.fr) ∧ J ys W') ∨ (∃ pre, pre <+: Rd.seqM (Cal.dT r.fr) r.ev 100 (Cal.yT r.fr) (Cal.mT r.fr) ∧ Jx pre W')) := by
  have c9 := rule_c9 hr
  have e1 := hf.e1
  have e2 := hf.e2
  have f0 := hf.f0
  have f1 := hf.f1
  clear hf
  obtain ⟨mo, mn, my, mm⟩ := Rd.monthOf f0 f1
  obtain ⟨g1, g2, g3, g4, g5, g6⟩ := (Cal.ok_iff _ _ _).1 mo
  have HD : Hid (∀ y m d : Int, Cal.ok y m d = true → Cal.num y m d = r.fr → y = Cal.yT r.fr ∧ m = Cal.mT r.fr ∧ d = Cal.dT r.fr) := fun y m d h k => Cal.dT_one y m d r.fr h k
  have DA := hidp (calDate_yes r.fr W ht (by omega) (by omega))
  clear mo mn g5 g6
  generalize hS : Rd.seqM (Cal.dT r.fr) r.ev 100 (Cal.yT r.fr) (Cal.mT r.fr) = S at *
  generalize Cal.dT r.fr = dt at *
  generalize Cal.yT r.fr = y0 at *
  generalize Cal.mT r.fr = m0 at *
  refine callsIn_of_wp Tryz.func289 rfl trivial ?_ rfl
  simp only [Tryz.ntmps289, List.size_toArray, List.length_cons, List.length_nil, Nat.reduceAdd, Nat.reduceSub, Array.replicate_succ, Array.replicate_zero, List.push_toArray, List.append_toArray, List.nil_append, List.cons_append]
  gi_wp2_with (first
    | ((try refine ⟨trivial, ?_⟩); gi_at_call 47; refine (callsIn_wide.2 DA.out).mono ?_; rintro e w1 ⟨y, m, d, rfl, hok, hnum, rfl⟩; obtain ⟨rfl, rfl, rfl⟩ := HD.out y m d hok hnum))
  clear DA HD c9 hok hnum
  gi_loopw [3, 4] (fun v u wr => ∃ (y m : Int) (f : Nat) (pre : List Int), v = .int .i64 y ∧ u = .int .i64 m ∧ S = pre ++ Rd.seqM d r.ev f y m ∧ 2024 ≤ y ∧ y ≤ 2034 ∧ 1 ≤ m ∧ m ≤ 12 ∧ 24312 < 12 * y + m + f ∧ J pre wr ∧ wr.heap[Bn]? = some (ruleO r) ∧ Tab wr) (fun v u _ => (30000 - (12 * intOf v + intOf u)).toNat)
  case atStart => exact ⟨y, m, 100, [], rfl, rfl, hS.symm, by omega, by omega, by omega, by omega, by omega, h0, hr, ht⟩
  case round =>
    obtain ⟨y', m', f, pre, rfl, rfl, hx, a1, a2, a3, a4, a5, hJ, hR, hT⟩ := hrel
    clear hr h0 ht
    have IR := hidp (isReached_any y' m' wr hT)
    have hri := Rd.reached_iff (y := y') (m := m') a1 (by omega) a3 a4
    by_cases hc : Rd.reached y' m' = true
    · have hle := hri.1 hc
      obtain ⟨f', rfl⟩ : ∃ f', f = f' + 1 := ⟨f - 1, by omega⟩
      have q1 : Rd.seqM d r.ev (f' + 1) y' m' = Rd.inMonth y' m' d ++ Rd.seqM d r.ev f' (Rd.laterY y' m' r.ev) (Rd.laterM m' r.ev) := by simp [Rd.seqM, hc]
      obtain ⟨l1, l2, l3⟩ := Rd.later_is (y := y') (m := m') (ev := r.ev)
      rw [q1] at hx
      rw [hc] at IR
      cases hok : Cal.ok y' m' d
      · have DY := hidp (calDay_no y' m' d wr hT hok)
        have LA := hidp (later_any y' m' r.ev wr (by omega) (by omega) a3 a4 e1 e2)
        have q2 : Rd.inMonth y' m' d = [] := by simp [Rd.inMonth, hok]
        have c1 := rule_c1 hR
        rw [q2, List.nil_append] at hx
        clear hri hc q1 q2
        generalize Rd.laterY y' m' r.ev = y2 at *
        generalize Rd.laterM m' r.ev = m2 at *
        gi_wp2_with (first
          | ((try refine ⟨trivial, ?_⟩); gi_at_call 290; refine (callsIn_wide.2 IR.out).mono ?_; rintro e w1 ⟨rfl, rfl⟩)
          | ((try refine ⟨trivial, ?_⟩); gi_at_call 48; refine (callsIn_wide.2 DY.out).mono ?_; rintro e w1 ⟨rfl, rfl⟩))
        refine ⟨fun _ h => (by cases h), ?_⟩
        gi_wp2_with (first
          | ((try refine ⟨trivial, ?_⟩); gi_at_call 291; refine (callsIn_wide.2 LA.out).mono ?_; rintro e w1 ⟨rfl, rfl⟩))
        go_roundw
        case rel => exact ⟨y2, m2, f', pre, rfl, rfl, hx, by omega, by omega, l2, l3, by omega, hJ, hR, hT⟩
        case measure => simp [intOf]; omega
      · have DY := hidp (calDay_yes y' m' d wr hT hok)
        have q2 : Rd.inMonth y' m' d = [Cal.num y' m' d] := by simp [Rd.inMonth, hok]
        rw [q2] at hx
        clear hri hc q1 q2
        generalize Cal.num y' m' d = z at *
        have LA := hidp (fun w => later_any y' m' r.ev w (by omega) (by omega) a3 a4 e1 e2)
        generalize Rd.laterY y' m' r.ev = y2 at *
        generalize Rd.laterM m' r.ev = m2 at *
        obtain ⟨fn, tmps, assign, body, hy, hRd⟩ := hY pre z wr hJ (by rw [hx]; simp)
        gi_wp2_with (first
          | ((try refine ⟨trivial, ?_⟩); gi_at_call 290; refine (callsIn_wide.2 IR.out).mono ?_; rintro e w1 ⟨rfl, rfl⟩)
          | ((try refine ⟨trivial, ?_⟩); gi_at_call 48; refine (callsIn_wide.2 DY.out).mono ?_; rintro e w1 ⟨rfl, rfl⟩))
        refine hRd.mono ?_
        rintro e W3 (⟨rfl, hJ3, hk3⟩ | ⟨rfl, hJx3⟩)
        · have c1 := rule_c1 (hk3.2.trans hR)
          gi_wp2_with (first
            | ((try refine ⟨trivial, ?_⟩); gi_at_call 291; refine (callsIn_wide.2 (LA.out W3)).mono ?_; rintro e w2 ⟨rfl, rfl⟩))
          go_roundw
          case rel => exact ⟨y2, m2, f', pre ++ [z], rfl, rfl, by simp [hx], by omega, by omega, l2, l3, by omega, hJ3, hk3.2.trans hR, tabLater hT hk3.1 h10⟩
          case measure => simp [intOf]; omega
        · gi_wp2
          refine bodyPost_ret (results_none rfl _ _ _) rfl ?_
          exact ⟨⟨_, rfl⟩, .inr ⟨pre ++ [z], ⟨Rd.seqM d r.ev f' y2 m2, by simp [hx]⟩, hJx3⟩⟩
    · have q1 : Rd.seqM d r.ev f y' m' = [] := by cases f <;> simp [Rd.seqM, hc]
      have hc' : Rd.reached y' m' = false := by simpa using hc
      rw [q1, List.append_nil] at hx
      subst hx
      rw [hc'] at IR
      clear hri q1 hc hc'
      gi_wp2_with (first
        | ((try refine ⟨trivial, ?_⟩); gi_at_call 290; refine (callsIn_wide.2 IR.out).mono ?_; rintro e w1 ⟨rfl, rfl⟩))
      go_end0
      exact ⟨⟨_, rfl⟩, .inl ⟨_, rfl, hJ⟩⟩

end Go.Proofs.YtjfkfiffakbagaaGreatDoor


/-
  Package rules: endless: which iterator a rule has, and what it goes through.
-/
namespace Go.Proofs.YtjfkfiffakbagaaGreatDoor
open Go.RowKit Go.Shelf

set_option maxRecDepth 100000 in
set_option maxHeartbeats 1000000 in
theorem daily_any (r : Rd.Rule) (w : World) :
    Calls Tryz.prog 272 #[ruleVR r] w fun e w' => e = .returned (.func (.func 292) #[] #[.pointer (some ⟨w.heap.size, 0, none⟩)]) ∧ w' = w.alloc (ruleO r) := by
  unfold ruleVR
  go_enter Tryz.func272, Tryz.ntmps272
  go_wp2_with fail
  exact bodyPost_ret (v := .func (.func 292) #[] #[.pointer (some ⟨w.heap.size, 0, none⟩)]) (by simp [results, Tryz.results272, go_sem]) rfl ⟨rfl, rfl⟩

set_option maxRecDepth 100000 in
set_option maxHeartbeats 1000000 in
theorem weekly_any (r : Rd.Rule) (w : World) :
    Calls Tryz.prog 270 #[ruleVR r] w fun e w' => e = .returned (.func (.func 288) #[] #[.pointer (some ⟨w.heap.size, 0, none⟩)]) ∧ w' = w.alloc (ruleO r) := by
  unfold ruleVR
  go_enter Tryz.func270, Tryz.ntmps270
  go_wp2_with fail
  exact bodyPost_ret (v := .func (.func 288) #[] #[.pointer (some ⟨w.heap.size, 0, none⟩)]) (by simp [results, Tryz.results270, go_sem]) rfl ⟨rfl, rfl⟩

set_option maxRecDepth 100000 in
set_option maxHeartbeats 1000000 in
theorem monthly_any (r : Rd.Rule) (w : World) :
    Calls Tryz.prog 271 #[ruleVR r] w fun e w' => e = .returned (.func (.func 289) #[] #[.pointer (some ⟨w.heap.size, 0, none⟩)]) ∧ w' = w.alloc (ruleO r) := by
  unfold ruleVR
  go_enter Tryz.func271, Tryz.ntmps271
  go_wp2_with fail
  exact bodyPost_ret (v := .func (.func 289) #[] #[.pointer (some ⟨w.heap.size, 0, none⟩)]) (by simp [results, Tryz.results271, go_sem]) rfl ⟨rfl, rfl⟩

/-- The iterator of a rule. -/
def itF (r : Rd.Rule) : Nat := if r.pc = 2 then 288 else if r.pc = 3 then 289 else 292

set_option maxRecDepth 100000 in
set_option maxHeartbeats 2000000 in
theorem endless_any (r : Rd.Rule) (w : World) :
    Calls Tryz.prog 241 #[ruleVR r] w fun e w' => e = .returned (.func (.func (itF r)) #[] #[.pointer (some ⟨w.heap.size + 1, 0, none⟩)]) ∧ w' = (w.alloc (ruleO r)).alloc (ruleO r) := by
  have WK := hidp (weekly_any r (w.alloc (ruleO r)))
  have MO := hidp (monthly_any r (w.alloc (ruleO r)))
  have DA := hidp (daily_any r (w.alloc (ruleO r)))
  have hr := World.alloc_heap_new w (ruleO r)
  have hs : (w.alloc (ruleO r)).heap.size = w.heap.size + 1 := by simp
  have x0 := rule_c0 hr
  have x1 := rule_c1 hr
  have x2 := rule_c2 hr
  have x3 := rule_c3 hr
  have x4 := rule_c4 hr
  have x5 := rule_c5 hr
  have x6 := rule_c6 hr
  have x7 := rule_c7 hr
  have x8 := rule_c8 hr
  have x9 := rule_c9 hr
  have x10 := rule_c10 hr
  have x11 := rule_c11 hr
  have x12 := rule_c12 hr
  have x13 := rule_c13 hr
  rw [hs] at WK MO DA
  clear hr hs
  unfold ruleVR at *
  obtain ⟨X, hX⟩ : ∃ X, X = w.alloc (ruleO r) := ⟨_, rfl⟩
  rw [← hX] at WK MO DA x0 x1 x2 x3 x4 x5 x6 x7 x8 x9 x10 x11 x12 x13
  have HX := hidp hX
  clear hX
  by_cases h2 : r.pc = 2
  · have hb : (r.pc == 2) = true := by simpa using h2
    have ei : itF r = 288 := by unfold itF; rw [if_pos h2]
    rw [ei]
    clear ei h2
    go_enter Tryz.func241, Tryz.ntmps241
    go_upto_region 1 with fail
    change Code.wp _ _ _ _ (w.alloc (ruleO r))
    rw [← HX.out]
    go_wp2_with (first
      | (go_at_call 270; refine WK.out.mono ?_; rintro e w1 ⟨rfl, rfl⟩))
    exact bodyPost_ret (v := .func (.func 288) #[] #[.pointer (some ⟨w.heap.size + 1, 0, none⟩)]) (by simp [results, Tryz.results241, go_sem]) rfl ⟨rfl, by rw [HX.out]⟩
  · have hb : (r.pc == 2) = false := by simpa using h2
    by_cases h3 : r.pc = 3
    · have hb3 : (r.pc == 3) = true := by simpa using h3
      have ei : itF r = 289 := by unfold itF; rw [if_neg h2, if_pos h3]
      rw [ei]
      clear ei h3
      go_enter Tryz.func241, Tryz.ntmps241
      go_upto_region 1 with fail
      change Code.wp _ _ _ _ (w.alloc (ruleO r))
      rw [← HX.out]
      go_wp2_with (first
        | (go_at_call 271; refine MO.out.mono ?_; rintro e w1 ⟨rfl, rfl⟩))
      exact bodyPost_ret (v := .func (.func 289) #[] #[.pointer (some ⟨w.heap.size + 1, 0, none⟩)]) (by simp [results, Tryz.results241, go_sem]) rfl ⟨rfl, by rw [HX.out]⟩
    · have hb3 : (r.pc == 3) = false := by simpa using h3
      have ei : itF r = 292 := by unfold itF; rw [if_neg h2, if_neg h3]
      rw [ei]
      clear ei
      go_enter Tryz.func241, Tryz.ntmps241
      go_upto_region 1 with fail
      change Code.wp _ _ _ _ (w.alloc (ruleO r))
      rw [← HX.out]
      go_wp2_with (first
        | (go_at_call 272; refine DA.out.mono ?_; rintro e w1 ⟨rfl, rfl⟩))
      exact bodyPost_ret (v := .func (.func 292) #[] #[.pointer (some ⟨w.heap.size + 1, 0, none⟩)]) (by simp [results, Tryz.results241, go_sem]) rfl ⟨rfl, by rw [HX.out]⟩

/-- It goes through the rule's days, and stops where a round says no more. -/
theorem it_stops (n : Nat) (hn : 1 ≤ n) (Bn n₀ : Nat) (h10 : 10 ≤ n₀) (r : Rd.Rule) (hf : Rd.Fine r) (w : World) (hB : Bn < w.heap.size) (hn₀ : n₀ ≤ w.heap.size) (ht : Tab w) (hr : w.heap[Bn]? = some (ruleO r)) :
    SeqStopsK Fence.wide n Tryz.prog (itF r) #[.pointer (some ⟨Bn, 0, none⟩)] (fun x : Int => #[Value.int .i64 x]) (RK n₀ Bn) (fun ys => ys = Rd.seq r) (fun pre => pre <+: Rd.seq r) (Rd.seq r).length w := by
  intro l J Jx W hW _ _ hY h0
  have hr' : W.heap[Bn]? = some (ruleO r) := (hW.block Bn hB).trans hr
  have ht' : Tab W := tabLater ht hW (by omega)
  by_cases h2 : r.pc = 2
  · have ei : itF r = 288 := by unfold itF; rw [if_pos h2]
    have es : Rd.seq r = Rd.seqW r.acc r.fr r.ev 800 (r.fr - r.fr % 7) := by unfold Rd.seq; rw [if_pos h2]
    rw [es] at hY ⊢
    rw [ei]
    exact weekly1_in Fence.wide n trivial rfl hn l Bn n₀ r hf J Jx hY W hr' h0
  · by_cases h3 : r.pc = 3
    · have ei : itF r = 289 := by unfold itF; rw [if_neg h2, if_pos h3]
      have es : Rd.seq r = Rd.seqM (Cal.dT r.fr) r.ev 100 (Cal.yT r.fr) (Cal.mT r.fr) := by unfold Rd.seq; rw [if_neg h2, if_pos h3]
      rw [es] at hY ⊢
      rw [ei]
      exact monthly1_in n hn l Bn n₀ h10 r hf J Jx hY W ht' hr' h0
    · have ei : itF r = 292 := by unfold itF; rw [if_neg h2, if_neg h3]
      have es : Rd.seq r = Rd.seqD r.ev 800 r.fr := by unfold Rd.seq; rw [if_neg h2, if_neg h3]
      rw [es] at hY ⊢
      rw [ei]
      exact daily1_in Fence.wide n trivial rfl hn l Bn n₀ r hf J Jx hY W hr' h0

end Go.Proofs.YtjfkfiffakbagaaGreatDoor


/-
  Package rules: firstDays: the days of a rule up to its end, but no more than show that they are too many.
-/
namespace Go.Proofs.YtjfkfiffakbagaaGreatDoor
open Go.RowKit Go.Shelf

attribute [local go_sem] Oper.semAt_some

/-- What lies between two rounds: the last day, how many at the most, and the days so far. -/
structure FD (w W : World) (r : Rd.Rule) (la mo : Int) (pre : List Int) : Prop where
  l : Boxed W (w.heap.size + 1) 3 (.int .i64 la)
  m : Boxed W (w.heap.size + 2) 3 (.int .i64 mo)
  d : ∃ v, Boxed W (w.heap.size + 3) 38 v ∧ W.ownsRow (w.heap.size + 6) 3 1 v pre.length (pre.map (Value.int .i64))
  ru : W.heap[w.heap.size + 5]? = some (ruleO r)
  bl : Below w.heap.size w W
  sz : w.heap.size + 6 ≤ W.heap.size
  le : ∀ x ∈ pre, x ≤ la
  ml : (pre.length : Int) ≤ mo

theorem boxedKept {W W' : World} {row : Option Nat} {B : Nat} {t : TypeId} {v : Value} (h : Boxed W B t v) (hg : W.grownBy W' row) (hr : ∀ r, row = some r → ∃ o : Obj, W.heap[r]? = some o ∧ o.isCells = false) : Boxed W' B t v :=
  h.kept hg (fun e => by
    obtain ⟨o, ho, hc⟩ := hr B e.symm
    rw [show W.heap[B]? = _ from h] at ho; cases ho; cases hc)

theorem fd_own (w : World) (r : Rd.Rule) (la mo : Int) {B : Nat} (hB : w.heap.size ≤ B) : OwnFrom B (fun pre W => FD w W r la mo pre) := by
  intro pre W W' row h hg hrow
  have hr : ∀ r, row = some r → ∃ o : Obj, W.heap[r]? = some o ∧ o.isCells = false := fun r e => (hrow r e).2
  obtain ⟨v, hv, ho⟩ := h.d
  refine ⟨boxedKept h.l hg hr, boxedKept h.m hg hr, ⟨v, boxedKept hv hg hr, ho.kept hg ?_⟩, (hg.block _ (by have := h.sz; omega) (fun e => ?_)).trans h.ru, h.bl.grown hg h.bl.size (fun k e => Nat.le_trans hB (hrow k e).1), Nat.le_trans h.sz hg.size, h.le, h.ml⟩
  · rcases ho.2 with ⟨rfl, _⟩ | ⟨g, cap, cur, rfl, _, hgb, _⟩
    · exact .inl rfl
    · refine .inr fun e' => ?_
      obtain ⟨o, ho, hc⟩ := hr g (by simpa [Value.ownBlock] using e'.symm)
      rw [hgb] at ho; cases ho; cases hc
  · obtain ⟨o, ho, hc⟩ := hr _ e.symm
    rw [h.ru] at ho; cases ho; cases hc

/-- A day more. -/
theorem fd_push {w W w1 : World} {r : Rd.Rule} {la mo : Int} {pre : List Int} {x : Int} (h : FD w W r la mo pre) {v : Value} (hv : Boxed W (w.heap.size + 3) 38 v) (ho : W.ownsRow (w.heap.size + 6) 3 1 v pre.length (pre.map (Value.int .i64))) {tmp : Obj} {v' : Value} (hown : w1.ownsRow (w.heap.size + 6) 3 1 v' (pre.length + 1) (pre.map (Value.int .i64) ++ [.int .i64 x])) (hg : (W.alloc tmp).grownBy w1 v.ownBlock) (hx : x ≤ la) (hm : (pre.length : Int) + 1 ≤ mo) :
    Boxed w1 (w.heap.size + 3) 38 v ∧ KeepsFrom (w.heap.size + 6) W (w1.setCell ⟨w.heap.size + 3, 0, none⟩ v') ∧ RK w.heap.size (w.heap.size + 5) W (w1.setCell ⟨w.heap.size + 3, 0, none⟩ v') ∧ FD w (w1.setCell ⟨w.heap.size + 3, 0, none⟩ v') r la mo (pre ++ [x]) := by
  have hs := h.sz
  have ob : ∀ b, v.ownBlock = some b → w.heap.size + 6 ≤ b := fun b hb => (ho.lt b hb).1
  have ob' : ∀ b, v'.ownBlock = some b → w.heap.size + 6 ≤ b := fun b hb => (hown.lt b hb).1
  have k1 : ∀ b, b < w.heap.size + 6 → w1.heap[b]? = W.heap[b]? := fun b hb =>
    (hg.block b (by simp; omega) (fun e => by have := ob b e.symm; omega)).trans (Below.heap_alloc W tmp b (by omega))
  have k2 : ∀ b, b ≠ w.heap.size + 3 → (w1.setCell ⟨w.heap.size + 3, 0, none⟩ v').heap[b]? = w1.heap[b]? := fun b hb => Below.heap_setCell _ _ _ b hb
  have hv1 : Boxed w1 (w.heap.size + 3) 38 v := (k1 _ (by omega)).trans hv
  have sz1 : W.heap.size ≤ w1.heap.size := by have := hg.size; simp at this; omega
  have bW : Below w.heap.size W (w1.setCell ⟨w.heap.size + 3, 0, none⟩ v') := (((Below.refl _ W).alloc (by omega) tmp).grown hg (by simp; omega) (fun j e => by have := ob j e; omega)).setCell (p := ⟨w.heap.size + 3, 0, none⟩) (by show w.heap.size ≤ w.heap.size + 3; omega) v'
  refine ⟨hv1, ?_, ⟨bW, (k2 _ (by omega)).trans (k1 _ (by omega))⟩, ⟨((k2 _ (by omega)).trans (k1 _ (by omega))).trans h.l, ((k2 _ (by omega)).trans (k1 _ (by omega))).trans h.m, ⟨v', hv1.set v', ?_⟩, ((k2 _ (by omega)).trans (k1 _ (by omega))).trans h.ru, h.bl.trans bW, ?_, ?_, ?_⟩⟩
  · refine (((KeepsOthers.alloc W tmp).trans (KeepsOthers.of_grownBy hg fun j o ej hj => ?_)).trans (KeepsOthers.setCell _ _ _)).from _
    rcases (ho.alloc tmp).2 with ⟨rfl, _⟩ | ⟨g, cap, cur, rfl, _, hgb, _⟩
    · simp [Value.ownBlock] at ej
    · obtain rfl : g = j := by simpa [Value.ownBlock] using ej
      rw [hgb] at hj; cases hj; rfl
  · have := hown.kept (grownBy_setCell' w1 (w.heap.size + 3) v') (.inr (fun e => by have := ob' _ e; omega))
    simpa using this
  · have := (grownBy_setCell' w1 (w.heap.size + 3) v').size; omega
  · intro y hy
    rcases List.mem_append.1 hy with hy | hy
    · exact h.le y hy
    · simp at hy; omega
  · simp; omega

/-- The world ahead of the call of endless. -/
structure FD0 (w Y : World) (r : Rd.Rule) (la mo : Int) : Prop where
  ru : Y.heap[w.heap.size]? = some (ruleO r)
  l : Boxed Y (w.heap.size + 1) 3 (.int .i64 la)
  m : Boxed Y (w.heap.size + 2) 3 (.int .i64 mo)
  d : Boxed Y (w.heap.size + 3) 38 (.slice none 0 0)
  bl : Below w.heap.size w Y
  sz : Y.heap.size = w.heap.size + 4
theorem fd0 (w : World) (r : Rd.Rule) (la mo : Int) : FD0 w ((((w.alloc (ruleO r)).alloc (.cells #[.int .i64 la] 3)).alloc (.cells #[.int .i64 mo] 3)).alloc (.cells #[.slice none 0 0] 38)) r la mo := by
  have b0 := World.alloc_heap_new w (ruleO r)
  have b1 := Boxed.new (w.alloc (ruleO r)) 3 (.int .i64 la)
  have b2 := Boxed.new ((w.alloc (ruleO r)).alloc (.cells #[.int .i64 la] 3)) 3 (.int .i64 mo)
  have b3 := Boxed.new (((w.alloc (ruleO r)).alloc (.cells #[.int .i64 la] 3)).alloc (.cells #[.int .i64 mo] 3)) 38 (.slice none 0 0)
  simp only [World.size_alloc] at b1 b2 b3
  have k : ∀ (W : World) (o : Obj) (b : Nat) (x : Obj), W.heap[b]? = some x → (W.alloc o).heap[b]? = some x := fun W o b x h => (Below.heap_alloc W o b (Array.getElem?_eq_some_iff.1 h).1).trans h
  exact ⟨k _ _ _ _ (k _ _ _ _ (k _ _ _ _ b0)), (b1.alloc _).alloc _, b2.alloc _, b3, ((((Below.refl _ w).alloc (Nat.le_refl _) _).alloc (by simp) _).alloc (by simp; omega) _).alloc (by simp; omega) _, by simp⟩
theorem fd0d (w : World) (r : Rd.Rule) (la mo : Int) : FD0 w (((((w.alloc (ruleO r)).alloc (.cells #[.int .i64 la] 3)).alloc (.cells #[.int .i64 mo] 3)).drew).alloc (.cells #[.slice none 0 0] 38)) r la mo := by
  obtain ⟨h1, h2, h3, h4, h5, h6⟩ := fd0 w r la mo
  exact ⟨h1, h2, h3, h4, h5.drew, h6⟩
theorem fd_start {w Y : World} {r : Rd.Rule} {la mo : Int} (hl : Boxed Y (w.heap.size + 1) 3 (.int .i64 la)) (hm : Boxed Y (w.heap.size + 2) 3 (.int .i64 mo)) (hd : Boxed Y (w.heap.size + 3) 38 (.slice none 0 0)) (hb : Below w.heap.size w Y) (hs : Y.heap.size = w.heap.size + 4) (h0 : 0 ≤ mo) : FD w ((Y.alloc (ruleO r)).alloc (ruleO r)) r la mo [] := by
  have b := World.alloc_heap_new (Y.alloc (ruleO r)) (ruleO r)
  rw [World.size_alloc, hs] at b
  exact ⟨(hl.alloc _).alloc _, (hm.alloc _).alloc _, ⟨_, (hd.alloc _).alloc _, World.ownsRow_nil _ _ _ _⟩, b, (hb.alloc (by omega) _).alloc (by simp; omega) _, by simp; omega, by simp, by simpa using h0⟩

theorem RK.trans {n₀ Bn : Nat} {A B C : World} (h : RK n₀ Bn A B) (k : RK n₀ Bn B C) : RK n₀ Bn A C := ⟨h.1.trans k.1, k.2.trans h.2⟩
theorem RK.put {n₀ Bn : Nat} {w : World} (hn : n₀ ≤ w.heap.size) (hB : Bn < w.heap.size) (W : World) (l : Nat) (o o' : Obj) (hl : w.heap.size ≤ l) (h : W.heap[l]? = some o) (h1 : o.isCells = false) (h2 : o.isWalk = false) : RK n₀ Bn W (W.putObj l o') :=
  ⟨belowK_b hn W l o o' hl h h1 h2, (grownBy_putObj' W l o').block Bn (by have := (Array.getElem?_eq_some_iff.1 h).1; omega) (fun e => by cases e; omega)⟩
theorem it_enters (r : Rd.Rule) (args : Array Value) (w : World) : (callFunc (itF r) args).run Tryz.prog w = .ok (.enter (itF r) args) w := by
  unfold itF
  split
  · exact enters_of Tryz.func288 (by kernel_rfl) rfl args w
  · split
    · exact enters_of Tryz.func289 (by kernel_rfl) rfl args w
    · exact enters_of Tryz.func292 (by kernel_rfl) rfl args w

theorem ownSl {w : World} {B e size n : Nat} {v : Value} {xs : List Value} (h : w.ownsRow B e size v n xs) : ∃ a cap, v = .slice a n cap := by
  rcases h.2 with ⟨rfl, h0⟩ | ⟨g, cap, _, rfl, _⟩
  · rw [h0]; exact ⟨_, _, rfl⟩
  · exact ⟨_, _, rfl⟩
theorem ownLow {w : World} {B C e size n : Nat} {v : Value} {xs : List Value} (h : w.ownsRow B e size v n xs) (hc : C ≤ B) : w.ownsRow C e size v n xs :=
  ⟨h.1, h.2.imp id (fun ⟨g, cap, cur, h1, h2, h3⟩ => ⟨g, cap, cur, h1, Nat.le_trans hc h2, h3⟩)⟩
theorem take_all {l : List Int} {p : Int → Bool} {k : Nat} (h : ∀ x ∈ l, p x = true) (hk : l.length ≤ k) : (l.takeWhile p).take k = l := by
  have e : l.takeWhile p = l := by
    induction l with
    | nil => rfl
    | cons a l ih => rw [List.takeWhile_cons, h a (by simp), if_pos rfl, ih (fun x hx => h x (by simp [hx])) (by simp at hk; omega)]
  rw [e, List.take_of_length_le hk]
theorem take_stop {pre rest : List Int} {x : Int} {p : Int → Bool} {k : Nat} (h : ∀ y ∈ pre, p y = true) (hk : pre.length ≤ k) (hx : p x = false ∨ pre.length = k) : ((pre ++ x :: rest).takeWhile p).take k = pre := by
  have e : (pre ++ x :: rest).takeWhile p = pre ++ (x :: rest).takeWhile p := List.takeWhile_append_of_pos h
  rw [e]
  rcases hx with hx | hx
  · rw [List.takeWhile_cons, hx]
    simp [List.take_of_length_le hk]
  · rw [← hx, List.take_left]

def laO (r : Rd.Rule) : Int := if 0 < r.ti then 727 else r.un
def moO (r : Rd.Rule) : Int := if 0 < r.ti then r.ti else 41
theorem firstDays_is (r : Rd.Rule) : Rd.firstDays r = ((Rd.seq r).takeWhile (fun d => decide (d ≤ laO r))).take (moO r).toNat := by
  unfold Rd.firstDays laO moO
  split
  · rfl
  · rfl

set_option maxRecDepth 100000 in
set_option maxHeartbeats 8000000 in
theorem firstDays_any (r : Rd.Rule) (hf : Rd.Fine r) (w : World) (ht : Tab w) (h10 : 10 ≤ w.heap.size) :
    Calls Tryz.prog 191 #[ruleVR r] w fun e w' => ∃ v, e = .returned v ∧ w'.ownsRow w.heap.size 3 1 v (Rd.firstDays r).length ((Rd.firstDays r).map (Value.int .i64)) ∧ Below w.heap.size w w' := by
  obtain ⟨i0, hi0, hz0, hz1, hz2⟩ := info_parts infoInt
  have t1 := hf.t1
  refine (callsIn_wide (n := 3)).1 ?_
  unfold ruleVR
  refine callsIn_of_wp_marks Tryz.func191 rfl trivial ?_ rfl
  simp only [Tryz.ntmps191, List.size_toArray, List.length_cons, List.length_nil, Nat.reduceAdd, Nat.reduceSub, Array.replicate_succ, Array.replicate_zero, List.push_toArray, List.append_toArray, List.nil_append, List.cons_append]
  refine wpIn_wide.2 ?_
  by_cases hti : 0 < r.ti
  · have elm : laO r = 727 ∧ moO r = r.ti := by unfold laO moO; rw [if_pos hti, if_pos hti]; exact ⟨rfl, rfl⟩
    have HY : Hid (FD0 w (((((w.alloc (ruleO r)).alloc (.cells #[.int .i64 727] 3)).alloc (.cells #[.int .i64 r.ti] 3)).drew).alloc (.cells #[.slice none 0 0] 38)) r 727 r.ti) := fd0d w r 727 r.ti
    have EL := hidp elm
    clear elm
    go_upto_region 4 with fail
    go_region
    go_upto_region 5 with fail
    change Code.wp _ _ _ _ (((((w.alloc (ruleO r)).alloc (.cells #[.int .i64 727] 3)).alloc (.cells #[.int .i64 r.ti] 3)).drew).alloc (.cells #[.slice none 0 0] 38))
    generalize ((((w.alloc (ruleO r)).alloc (.cells #[.int .i64 727] 3)).alloc (.cells #[.int .i64 r.ti] 3)).drew).alloc (.cells #[.slice none 0 0] 38) = Y at HY ⊢
    obtain ⟨hYr, hYl, hYm, hYd, hYb, hYs⟩ := HY.out
    have EN := hidp (endless_any r Y)
    have HZ := hidp (fd_start (r := r) hYl hYm hYd hYb hYs)
    have TZ : Hid (Tab ((Y.alloc (ruleO r)).alloc (ruleO r))) := tabLater ht (HZ.out (by omega)).bl h10
    rw [hYs] at EN
    unfold ruleVR at EN
    have x0 := rule_c0 hYr
    have x1 := rule_c1 hYr
    have x2 := rule_c2 hYr
    have x3 := rule_c3 hYr
    have x4 := rule_c4 hYr
    have x5 := rule_c5 hYr
    have x6 := rule_c6 hYr
    have x7 := rule_c7 hYr
    have x8 := rule_c8 hYr
    have x9 := rule_c9 hYr
    have x10 := rule_c10 hYr
    have x11 := rule_c11 hYr
    have x12 := rule_c12 hYr
    have x13 := rule_c13 hYr
    clear hYr hYl hYm hYd hYb HY
    go_wp2_with (first
      | (go_at_call 241; refine EN.out.mono ?_; rintro e w1 ⟨rfl, rfl⟩))
    clear EN x0 x1 x2 x3 x4 x5 x6 x7 x8 x9 x10 x11 x12 x13
    have hZs : ((Y.alloc (ruleO r)).alloc (ruleO r)).heap.size = w.heap.size + 6 := by simp [hYs]
    generalize (Y.alloc (ruleO r)).alloc (ruleO r) = Z at HZ TZ hZs ⊢
    have hF := HZ.out (by omega)
    have HS := hidp (it_stops 2 (by omega) (w.heap.size + 5) w.heap.size h10 r hf Z (by omega) (by omega) TZ.out hF.ru)
    refine (wpIn_wide (n := 3)).1 ?_
    refine wpIn_rangeFunc_ownG rfl (by omega) (gf := itF r) (lb := #[.pointer (some ⟨w.heap.size + 5, 0, none⟩)]) rfl trivial (it_enters r) HS.out (fun h k => RK.trans h k) (RK.put (by omega) (by omega)) (Below.refl _ _) (fun _ => rfl)
      (fun pre W => FD w W r 727 r.ti pre) (fun c pre' W => c = .exit 0 ∧ ∃ pre x, pre' = pre ++ [x] ∧ FD w W r 727 r.ti pre ∧ (727 < x ∨ (pre.length : Int) = r.ti))
      (fd_own w r 727 r.ti (by omega)) (fun c s A B row hs hg hr => by obtain ⟨e, pre, x, e2, h, h3⟩ := hs; exact ⟨e, pre, x, e2, fd_own w r 727 r.ti (by omega) pre A B row h hg hr, h3⟩) hF
      (fun x => { tmps := #[.agg #[.int .i64 r.pc, .int .i64 r.ev, .bool (isd r.acc 0), .bool (isd r.acc 1), .bool (isd r.acc 2), .bool (isd r.acc 3), .bool (isd r.acc 4), .bool (isd r.acc 5), .bool (isd r.acc 6), .int .i64 r.fr, .int .i64 r.mn, .int .i64 r.mi, .int .i64 r.ti, .int .i64 r.un], .pointer (some ⟨w.heap.size, 0, none⟩), .slice none 0 0, .pointer (some ⟨w.heap.size + 1, 0, none⟩), .pointer (some ⟨w.heap.size + 1 + 1, 0, none⟩), .pointer (some ⟨w.heap.size + 1 + 1 + 1, 0, none⟩), .int .i64 x, .pointer (some ⟨w.heap.size, 13, none⟩), .int .i64 r.un, .pointer (some ⟨w.heap.size, 12, none⟩), .int .i64 r.ti, .bool true, .pointer (some ⟨w.heap.size, 12, none⟩), .int .i64 r.ti, .agg #[.int .i64 r.pc, .int .i64 r.ev, .bool (isd r.acc 0), .bool (isd r.acc 1), .bool (isd r.acc 2), .bool (isd r.acc 3), .bool (isd r.acc 4), .bool (isd r.acc 5), .bool (isd r.acc 6), .int .i64 r.fr, .int .i64 r.mn, .int .i64 r.mi, .int .i64 r.ti, .int .i64 r.un], .func (.func (itF r)) #[] #[.pointer (some ⟨w.heap.size + 5, 0, none⟩)], .int .i64 x, undef, undef, undef, undef, undef, undef, undef, undef, undef, undef, undef, undef, undef, undef], defers := [] }) ?assign ?body ?done ?stop
    case assign =>
      intro l x W K hK
      gi_wp2
      exact hK
    case body =>
      rintro l pre x W h hlt
      obtain ⟨v, hv, hrow⟩ := h.d
      have hcl := h.l.cell
      have hcm := h.m.cell
      have hcd := hv.cell
      have hml := h.ml
      have HI := hidp h
      obtain ⟨a0, cap0, rfl⟩ := ownSl hrow
      have hsz : w.heap.size + 6 ≤ W.heap.size := h.sz
      by_cases c1 : 727 < x
      · clear h hrow hv
        gi_wp2
        exact ⟨KeepsFrom.refl _ _, rfl, pre, x, rfl, HI.out, .inl c1⟩
      · by_cases c2 : (pre.length : Int) = r.ti
        · have c2b : ((pre.length : Int) == r.ti) = true := by simpa using c2
          have C2 := hidp c2
          clear h hrow hv c2
          gi_wp2
          exact ⟨KeepsFrom.refl _ _, rfl, pre, x, rfl, HI.out, .inr C2.out⟩
        · have c2b : ((pre.length : Int) == r.ti) = false := by simpa using c2
          clear h
          gi_wp2_with (first
            | (gi_at_builtin; refine wpListIn_append_own _ rfl _ _ 38 rfl (w.heap.size + 6) 3 i0 (.int .i64 0) 1 8 Tryz.underlying38 hi0 hz0 hz1 hz2 rfl (by decide) _ _ _ rfl (hrow.alloc _) ⟨W.heap.size, 0, none⟩ 1 1 [.int .i64 x] rfl rfl (cell_one_new _ _ _) (by simp [Value.oneCell']) (by unfold maxLen; omega) (by omega) (by simp; omega) ?_; intro v' w1 hown' hgrow _; obtain ⟨g', cap', rfl⟩ := ownsRow_succ hown'; obtain ⟨hv1, hk2, hrk, hfd⟩ := fd_push HI.out hv hrow hown' hgrow (by omega) (by omega); have hc1 := hv1.cell; have hf1 := hv1.frozen))
          exact ⟨hk2, hrk, hfd⟩
    case done =>
      rintro D ys W hD rfl h hK
      have ED : Hid (Rd.firstDays r = Rd.seq r) := by
        show Rd.firstDays r = Rd.seq r
        have h0 := h.ml
        rw [firstDays_is, EL.out.1, EL.out.2]
        exact take_all (fun y hy => by simpa using h.le y hy) (by omega)
      obtain ⟨v, hv, hrow⟩ := h.d
      have hc := hv.cell
      have hb := h.bl
      obtain ⟨a0, cap0, rfl⟩ := ownSl hrow
      clear h
      go_wp2_with fail
      refine ⟨by simp, .inl ⟨_, _, rfl, run_takeDeferred hK, ?_⟩⟩
      refine ⟨_, results_tmp rfl _ _ _, _, rfl, ?_, hb.trans (belowK_b (w := w) (Nat.le_refl _) W D _ _ (by omega) hK rfl rfl)⟩
      rw [ED.out]
      exact ownsRow_putObj (ownLow hrow (by omega)) _ hK rfl
    case stop =>
      rintro D c pre' W hD hSp ⟨rfl, pre, x, rfl, h, hx⟩ hK
      have ED : Hid (Rd.firstDays r = pre) := by
        obtain ⟨rest, hrest⟩ := hSp
        show Rd.firstDays r = pre
        have h0 := h.ml
        rw [firstDays_is, EL.out.1, EL.out.2, ← hrest, List.append_assoc]
        exact take_stop (fun y hy => by simpa using h.le y hy) (by omega) (hx.imp (fun e => by simpa using e) (fun e => by omega))
      obtain ⟨v, hv, hrow⟩ := h.d
      have hc := hv.cell
      have hb := h.bl
      obtain ⟨a0, cap0, rfl⟩ := ownSl hrow
      clear h
      refine wpIn_wide.2 ?_
      go_wp2_with fail
      refine ⟨by simp, .inl ⟨_, _, rfl, run_takeDeferred hK, ?_⟩⟩
      refine ⟨_, results_tmp rfl _ _ _, _, rfl, ?_, hb.trans (belowK_b (w := w) (Nat.le_refl _) W D _ _ (by omega) hK rfl rfl)⟩
      rw [ED.out]
      exact ownsRow_putObj (ownLow hrow (by omega)) _ hK rfl
  · have elm : laO r = r.un ∧ moO r = 41 := by unfold laO moO; rw [if_neg hti, if_neg hti]; exact ⟨rfl, rfl⟩
    have HY : Hid (FD0 w ((((w.alloc (ruleO r)).alloc (.cells #[.int .i64 r.un] 3)).alloc (.cells #[.int .i64 41] 3)).alloc (.cells #[.slice none 0 0] 38)) r r.un 41) := fd0 w r r.un 41
    have EL := hidp elm
    clear elm
    go_upto_region 5 with fail
    change Code.wp _ _ _ _ ((((w.alloc (ruleO r)).alloc (.cells #[.int .i64 r.un] 3)).alloc (.cells #[.int .i64 41] 3)).alloc (.cells #[.slice none 0 0] 38))
    generalize (((w.alloc (ruleO r)).alloc (.cells #[.int .i64 r.un] 3)).alloc (.cells #[.int .i64 41] 3)).alloc (.cells #[.slice none 0 0] 38) = Y at HY ⊢
    obtain ⟨hYr, hYl, hYm, hYd, hYb, hYs⟩ := HY.out
    have EN := hidp (endless_any r Y)
    have HZ := hidp (fd_start (r := r) hYl hYm hYd hYb hYs)
    have TZ : Hid (Tab ((Y.alloc (ruleO r)).alloc (ruleO r))) := tabLater ht (HZ.out (by omega)).bl h10
    rw [hYs] at EN
    unfold ruleVR at EN
    have x0 := rule_c0 hYr
    have x1 := rule_c1 hYr
    have x2 := rule_c2 hYr
    have x3 := rule_c3 hYr
    have x4 := rule_c4 hYr
    have x5 := rule_c5 hYr
    have x6 := rule_c6 hYr
    have x7 := rule_c7 hYr
    have x8 := rule_c8 hYr
    have x9 := rule_c9 hYr
    have x10 := rule_c10 hYr
    have x11 := rule_c11 hYr
    have x12 := rule_c12 hYr
    have x13 := rule_c13 hYr
    clear hYr hYl hYm hYd hYb HY
    go_wp2_with (first
      | (go_at_call 241; refine EN.out.mono ?_; rintro e w1 ⟨rfl, rfl⟩))
    clear EN x0 x1 x2 x3 x4 x5 x6 x7 x8 x9 x10 x11 x12 x13
    have hZs : ((Y.alloc (ruleO r)).alloc (ruleO r)).heap.size = w.heap.size + 6 := by simp [hYs]
    generalize (Y.alloc (ruleO r)).alloc (ruleO r) = Z at HZ TZ hZs ⊢
    have hF := HZ.out (by omega)
    have HS := hidp (it_stops 2 (by omega) (w.heap.size + 5) w.heap.size h10 r hf Z (by omega) (by omega) TZ.out hF.ru)
    refine (wpIn_wide (n := 3)).1 ?_
    refine wpIn_rangeFunc_ownG rfl (by omega) (gf := itF r) (lb := #[.pointer (some ⟨w.heap.size + 5, 0, none⟩)]) rfl trivial (it_enters r) HS.out (fun h k => RK.trans h k) (RK.put (by omega) (by omega)) (Below.refl _ _) (fun _ => rfl)
      (fun pre W => FD w W r r.un 41 pre) (fun c pre' W => c = .exit 0 ∧ ∃ pre x, pre' = pre ++ [x] ∧ FD w W r r.un 41 pre ∧ (r.un < x ∨ (pre.length : Int) = 41))
      (fd_own w r r.un 41 (by omega)) (fun c s A B row hs hg hr => by obtain ⟨e, pre, x, e2, h, h3⟩ := hs; exact ⟨e, pre, x, e2, fd_own w r r.un 41 (by omega) pre A B row h hg hr, h3⟩) hF
      (fun x => { tmps := #[.agg #[.int .i64 r.pc, .int .i64 r.ev, .bool (isd r.acc 0), .bool (isd r.acc 1), .bool (isd r.acc 2), .bool (isd r.acc 3), .bool (isd r.acc 4), .bool (isd r.acc 5), .bool (isd r.acc 6), .int .i64 r.fr, .int .i64 r.mn, .int .i64 r.mi, .int .i64 r.ti, .int .i64 r.un], .pointer (some ⟨w.heap.size, 0, none⟩), .slice none 0 0, .pointer (some ⟨w.heap.size + 1, 0, none⟩), .pointer (some ⟨w.heap.size + 1 + 1, 0, none⟩), .pointer (some ⟨w.heap.size + 1 + 1 + 1, 0, none⟩), .int .i64 x, .pointer (some ⟨w.heap.size, 13, none⟩), .int .i64 r.un, .pointer (some ⟨w.heap.size, 12, none⟩), .int .i64 r.ti, .bool false, undef, undef, .agg #[.int .i64 r.pc, .int .i64 r.ev, .bool (isd r.acc 0), .bool (isd r.acc 1), .bool (isd r.acc 2), .bool (isd r.acc 3), .bool (isd r.acc 4), .bool (isd r.acc 5), .bool (isd r.acc 6), .int .i64 r.fr, .int .i64 r.mn, .int .i64 r.mi, .int .i64 r.ti, .int .i64 r.un], .func (.func (itF r)) #[] #[.pointer (some ⟨w.heap.size + 5, 0, none⟩)], .int .i64 x, undef, undef, undef, undef, undef, undef, undef, undef, undef, undef, undef, undef, undef, undef], defers := [] }) ?assign ?body ?done ?stop
    case assign =>
      intro l x W K hK
      gi_wp2
      exact hK
    case body =>
      rintro l pre x W h hlt
      obtain ⟨v, hv, hrow⟩ := h.d
      have hcl := h.l.cell
      have hcm := h.m.cell
      have hcd := hv.cell
      have hml := h.ml
      have HI := hidp h
      obtain ⟨a0, cap0, rfl⟩ := ownSl hrow
      have hsz : w.heap.size + 6 ≤ W.heap.size := h.sz
      by_cases c1 : r.un < x
      · clear h hrow hv
        gi_wp2
        exact ⟨KeepsFrom.refl _ _, rfl, pre, x, rfl, HI.out, .inl c1⟩
      · by_cases c2 : (pre.length : Int) = 41
        · have c2b : ((pre.length : Int) == 41) = true := by simpa using c2
          have C2 := hidp c2
          clear h hrow hv c2
          gi_wp2
          exact ⟨KeepsFrom.refl _ _, rfl, pre, x, rfl, HI.out, .inr C2.out⟩
        · have c2b : ((pre.length : Int) == 41) = false := by simpa using c2
          clear h
          gi_wp2_with (first
            | (gi_at_builtin; refine wpListIn_append_own _ rfl _ _ 38 rfl (w.heap.size + 6) 3 i0 (.int .i64 0) 1 8 Tryz.underlying38 hi0 hz0 hz1 hz2 rfl (by decide) _ _ _ rfl (hrow.alloc _) ⟨W.heap.size, 0, none⟩ 1 1 [.int .i64 x] rfl rfl (cell_one_new _ _ _) (by simp [Value.oneCell']) (by unfold maxLen; omega) (by omega) (by simp; omega) ?_; intro v' w1 hown' hgrow _; obtain ⟨g', cap', rfl⟩ := ownsRow_succ hown'; obtain ⟨hv1, hk2, hrk, hfd⟩ := fd_push HI.out hv hrow hown' hgrow (by omega) (by omega); have hc1 := hv1.cell; have hf1 := hv1.frozen))
          exact ⟨hk2, hrk, hfd⟩
    case done =>
      rintro D ys W hD rfl h hK
      have ED : Hid (Rd.firstDays r = Rd.seq r) := by
        show Rd.firstDays r = Rd.seq r
        have h0 := h.ml
        rw [firstDays_is, EL.out.1, EL.out.2]
        exact take_all (fun y hy => by simpa using h.le y hy) (by omega)
      obtain ⟨v, hv, hrow⟩ := h.d
      have hc := hv.cell
      have hb := h.bl
      obtain ⟨a0, cap0, rfl⟩ := ownSl hrow
      clear h
      go_wp2_with fail
      refine ⟨by simp, .inl ⟨_, _, rfl, run_takeDeferred hK, ?_⟩⟩
      refine ⟨_, results_tmp rfl _ _ _, _, rfl, ?_, hb.trans (belowK_b (w := w) (Nat.le_refl _) W D _ _ (by omega) hK rfl rfl)⟩
      rw [ED.out]
      exact ownsRow_putObj (ownLow hrow (by omega)) _ hK rfl
    case stop =>
      rintro D c pre' W hD hSp ⟨rfl, pre, x, rfl, h, hx⟩ hK
      have ED : Hid (Rd.firstDays r = pre) := by
        obtain ⟨rest, hrest⟩ := hSp
        show Rd.firstDays r = pre
        have h0 := h.ml
        rw [firstDays_is, EL.out.1, EL.out.2, ← hrest, List.append_assoc]
        exact take_stop (fun y hy => by simpa using h.le y hy) (by omega) (hx.imp (fun e => by simpa using e) (fun e => by omega))
      obtain ⟨v, hv, hrow⟩ := h.d
      have hc := hv.cell
      have hb := h.bl
      obtain ⟨a0, cap0, rfl⟩ := ownSl hrow
      clear h
      refine wpIn_wide.2 ?_
      go_wp2_with fail
      refine ⟨by simp, .inl ⟨_, _, rfl, run_takeDeferred hK, ?_⟩⟩
      refine ⟨_, results_tmp rfl _ _ _, _, rfl, ?_, hb.trans (belowK_b (w := w) (Nat.le_refl _) W D _ _ (by omega) hK rfl rfl)⟩
      rw [ED.out]
      exact ownsRow_putObj (ownLow hrow (by omega)) _ hK rfl

end Go.Proofs.YtjfkfiffakbagaaGreatDoor


/-
  Package rules: Days: the days of a rule in order, or an error.
-/
namespace Go.Proofs.YtjfkfiffakbagaaGreatDoor
open Go.RowKit Go.Shelf

/-- What Days tells: no days with an error. -/
def daysOf (r : Rd.Rule) : List Int := if Rd.progErr r = 0 then Rd.firstDays r else []
theorem firstDays_mem {r : Rd.Rule} (h : Rd.Fine r) {x : Int} (hx : x ∈ Rd.firstDays r) : 0 ≤ x ∧ x < 728 := by
  have f0 := h.f0
  rw [Rd.days_same h] at hx
  split at hx
  · have := Rd.docDays_mem h hx; omega
  · have := Rd.docDays_mem h (List.mem_of_mem_take hx); omega
theorem last_get {l : List Int} (h : l ≠ []) : l[l.length - 1]? = some (l.getLastD 0) := by
  rw [← List.getLast?_eq_getElem?, List.getLast?_eq_some_getLast h, List.getLastD_eq_getLast?, List.getLast?_eq_some_getLast h]
  rfl
theorem fits_len (r : Rd.Rule) (h : Rd.Fine r) : (Rd.firstDays r).length ≤ 99 := by
  have := h.t1
  unfold Rd.firstDays
  split
  · rw [List.length_take]; omega
  · rw [List.length_take]; omega

theorem ownBl {w w' : World} {B e size n : Nat} {v : Value} {xs : List Value} (h : w.ownsRow B e size v n xs) (k : Below w.heap.size w w') : w'.ownsRow B e size v n xs := by
  refine ⟨h.1, h.2.imp id (fun ⟨g, cap, cur, h1, h2, h3, h4⟩ => ⟨g, cap, cur, h1, h2, (k.block g (Array.getElem?_eq_some_iff.1 h3).1).trans h3, h4⟩)⟩
theorem ownDrew {w : World} {B e size n : Nat} {v : Value} {xs : List Value} (h : w.ownsRow B e size v n xs) : w.drew.ownsRow B e size v n xs := ⟨h.1, h.2⟩

set_option maxRecDepth 100000 in
set_option maxHeartbeats 4000000 in
theorem Days_any (r : Rd.Rule) (hf : Rd.Fine r) (w : World) (ht : Tab w) (h10 : 10 ≤ w.heap.size) :
    Calls Tryz.prog 144 #[ruleVR r] w fun e w' => ∃ v, e = .returned (.tuple #[v, .int .i64 (Rd.progErr r)]) ∧ w'.ownsRow w.heap.size 3 1 v (daysOf r).length ((daysOf r).map (Value.int .i64)) ∧ Below w.heap.size w w' := by
  have hX : Below w.heap.size w (w.alloc (ruleO r)) := (Below.refl _ _).alloc (Nat.le_refl _) _
  have hr := World.alloc_heap_new w (ruleO r)
  have hs : (w.alloc (ruleO r)).heap.size = w.heap.size + 1 := by simp
  have FI := hidp (firstDays_any r hf (w.alloc (ruleO r)) (tabLater ht hX h10) (by rw [hs]; omega))
  have x0 := rule_c0 hr
  have x1 := rule_c1 hr
  have x2 := rule_c2 hr
  have x3 := rule_c3 hr
  have x4 := rule_c4 hr
  have x5 := rule_c5 hr
  have x6 := rule_c6 hr
  have x7 := rule_c7 hr
  have x8 := rule_c8 hr
  have x9 := rule_c9 hr
  have x10 := rule_c10 hr
  have x11 := rule_c11 hr
  have x12 := rule_c12 hr
  have x13 := rule_c13 hr
  have HX := hidp (And.intro hX (And.intro hs hr))
  have hlen := fits_len r hf
  have HF := hidp hf
  have GE : Hid (Rd.progErr r = if 40 < r.ti then 11 else if 40 < (Rd.firstDays r).length then 11 else if Rd.firstDays r = [] ∨ ((Rd.firstDays r).length : Int) < r.ti then 6 else if Rd.lateB r ((Rd.firstDays r).getLastD 0) then 6 else 0) := rfl
  have GD : Hid (daysOf r = if Rd.progErr r = 0 then Rd.firstDays r else []) := rfl
  have t1 := hf.t1
  clear hX hr hs ht hf
  unfold ruleVR at *
  by_cases c1 : 40 < r.ti
  · have e1 : Rd.progErr r = 11 := by rw [GE.out, if_pos c1]
    have e2 : daysOf r = [] := by rw [GD.out, e1]; simp
    rw [e1, e2]
    clear FI GE GD e1 e2
    go_enter Tryz.func144, Tryz.ntmps144
    go_upto_region 1 with fail
    change Code.wp _ _ _ _ (w.alloc (ruleO r))
    generalize w.alloc (ruleO r) = X at *
    go_wp2_with fail
    exact bodyPost_ret (v := .tuple #[.slice none 0 0, .int .i64 11]) (by simp [results, Tryz.results144, go_sem]) rfl ⟨_, rfl, World.ownsRow_nil _ _ _ _, HX.out.1⟩
  · rw [if_neg c1] at GE
    go_enter Tryz.func144, Tryz.ntmps144
    go_upto_region 1 with fail
    change Code.wp _ _ _ _ (w.alloc (ruleO r))
    generalize w.alloc (ruleO r) = X at *
    go_upto_region 4 with (first
      | (go_at_call 191; refine FI.out.mono ?_; rintro e w1 ⟨v, rfl, own, hb⟩))
    obtain ⟨a, cap, rfl⟩ := ownSl own
    have BW : Hid (Below w.heap.size w w1) := HX.out.1.trans (hb.mono (by rw [HX.out.2.1]; omega))
    have OW : Hid (w1.ownsRow w.heap.size 3 1 (.slice a (Rd.firstDays r).length cap) (Rd.firstDays r).length ((Rd.firstDays r).map (Value.int .i64))) := ownLow own (by rw [HX.out.2.1]; omega)
    have MB : Hid (∀ x ∈ Rd.firstDays r, 0 ≤ x ∧ x < 728) := fun x hx => firstDays_mem HF.out hx
    have y0 := cellLater hb x0
    have y1 := cellLater hb x1
    have y2 := cellLater hb x2
    have y3 := cellLater hb x3
    have y4 := cellLater hb x4
    have y5 := cellLater hb x5
    have y6 := cellLater hb x6
    have y7 := cellLater hb x7
    have y8 := cellLater hb x8
    have y9 := cellLater hb x9
    have y10 := cellLater hb x10
    have y11 := cellLater hb x11
    have y12 := cellLater hb x12
    have y13 := cellLater hb x13
    clear FI x0 x1 x2 x3 x4 x5 x6 x7 x8 x9 x10 x11 x12 x13 own hb HX
    generalize Rd.firstDays r = L at *
    by_cases c2 : 40 < L.length
    · have e1 : Hid (Rd.progErr r = 11) := by show Rd.progErr r = 11; rw [GE.out, if_pos c2]
      have e2 : Hid (daysOf r = []) := by show daysOf r = []; rw [GD.out, e1.out]; simp
      have c2' : (40 : Int) < (L.length : Int) := by omega
      clear y0 y1 y2 y3 y4 y5 y6 y7 y8 y9 y10 y11 y12 y13 c2
      go_wp2_with fail
      exact bodyPost_ret (v := .tuple #[.slice none 0 0, .int .i64 11]) (by simp [results, Tryz.results144, go_sem]) rfl ⟨_, by rw [e1.out], by rw [e2.out]; exact World.ownsRow_nil _ _ _ _, BW.out⟩
    · have c2' : ¬ (40 : Int) < (L.length : Int) := by omega
      by_cases c3 : L = []
      · have e1 : Hid (Rd.progErr r = 6) := by show Rd.progErr r = 6; rw [GE.out, if_neg c2, if_pos (.inl c3)]
        have e2 : Hid (daysOf r = []) := by show daysOf r = []; rw [GD.out, e1.out]; simp
        have c3' : ((L.length : Int) == 0) = true := by rw [c3]; rfl
        clear y0 y1 y2 y3 y4 y5 y6 y7 y8 y9 y10 y11 y13 c3 c2
        go_wp2_with fail
        exact bodyPost_ret (v := .tuple #[.slice none 0 0, .int .i64 6]) (by simp [results, Tryz.results144, go_sem]) rfl ⟨_, by rw [e1.out], by rw [e2.out]; exact World.ownsRow_nil _ _ _ _, BW.out⟩
      · have h0 : 0 < L.length := List.length_pos_iff.2 c3
        have c3' : ((L.length : Int) == 0) = false := by simp; omega
        by_cases c4 : (L.length : Int) < r.ti
        · have e1 : Hid (Rd.progErr r = 6) := by show Rd.progErr r = 6; rw [GE.out, if_neg c2, if_pos (.inr c4)]
          have e2 : Hid (daysOf r = []) := by show daysOf r = []; rw [GD.out, e1.out]; simp
          clear y0 y1 y2 y3 y4 y5 y6 y7 y8 y9 y10 y11 y13 c3 c2
          go_wp2_with fail
          exact bodyPost_ret (v := .tuple #[.slice none 0 0, .int .i64 6]) (by simp [results, Tryz.results144, go_sem]) rfl ⟨_, by rw [e1.out], by rw [e2.out]; exact World.ownsRow_nil _ _ _ _, BW.out⟩
        · obtain ⟨Hh, cap', e0⟩ := Joins.ownsRow_form OW.out (by omega)
          simp only [Value.slice.injEq, true_and] at e0
          obtain ⟨rfl, rfl⟩ := e0
          have a0 := OW.out.cellAt (L.length - 1) (by omega)
          rw [List.getElem?_map, last_get c3, Option.map_some] at a0
          have hl := MB.out (L.getLastD 0) (by rw [List.getLastD_eq_getLast?, List.getLast?_eq_some_getLast c3]; exact List.getLast_mem c3)
          have SO := hidp (spanOf_any r HF.out (L.getLastD 0) hl.1 (by omega) w1.drew)
          have GE4 : Hid (Rd.progErr r = if Rd.lateB r (L.getLastD 0) then 6 else 0) := by show Rd.progErr r = _; rw [GE.out, if_neg c2, if_neg (by rintro (h | h) <;> contradiction)]
          have LB : Hid (Rd.lateB r (L.getLastD 0) = decide (1048320 < (spanD r (L.getLastD 0)).2)) := rfl
          have k1 : IntKind.i64.wrap ((L.length : Int) - 1) = ((L.length - 1 : Nat) : Int) := by rw [show (L.length : Int) - 1 = ((L.length - 1 : Nat) : Int) from by omega]; exact wrap_small (by omega) (by omega)
          have k2 : ((L.length - 1 : Nat) : Int) < (L.length : Int) := by omega
          generalize (spanD r (L.getLastD 0)).2 = til at *
          generalize (spanD r (L.getLastD 0)).1 = fro at *
          generalize L.getLastD 0 = ld at *
          unfold ruleVR at SO
          clear c3 hl c2 MB GE
          have hfd : ∀ w : World, (Instr.field 60 (.agg #[.int .i64 fro, .int .i64 til]) 1).run Tryz.prog w = .ok (.int .i64 til) w := fun _ => by kernel_rfl
          by_cases c5 : 1048320 < til
          · have e1 : Hid (Rd.progErr r = 6) := by show Rd.progErr r = 6; rw [GE4.out, LB.out]; simp [c5]
            have e2 : Hid (daysOf r = []) := by show daysOf r = []; rw [GD.out, e1.out]; simp
            go_upto_region 9 with fail
            go_region_with (first
              | (go_at_call 192; refine SO.out.mono ?_; rintro e w2 ⟨rfl, hb2⟩))
            all_goals
              have BF : Hid (Below w.heap.size w w2) := BW.out.drew.trans (hb2.mono BW.out.size)
              clear hb2 y0 y1 y2 y3 y4 y5 y6 y7 y8 y9 y10 y11 y12 y13 a0
              go_wp2_with fail
              exact bodyPost_ret (v := .tuple #[.slice none 0 0, .int .i64 6]) (by simp [results, Tryz.results144, go_sem]) rfl ⟨_, by rw [e1.out], by rw [e2.out]; exact World.ownsRow_nil _ _ _ _, BF.out⟩
          · have e1 : Hid (Rd.progErr r = 0) := by show Rd.progErr r = 0; rw [GE4.out, LB.out]; simp [c5]
            have e2 : Hid (daysOf r = L) := by show daysOf r = L; rw [GD.out, e1.out]; simp
            go_upto_region 9 with fail
            go_region_with (first
              | (go_at_call 192; refine SO.out.mono ?_; rintro e w2 ⟨rfl, hb2⟩))
            all_goals
              have BF : Hid (Below w.heap.size w w2 ∧ w2.ownsRow w.heap.size 3 1 (.slice (some ⟨Hh, 0, none⟩) L.length cap) L.length (L.map (Value.int .i64))) := ⟨BW.out.drew.trans (hb2.mono BW.out.size), ownBl (w := w1.drew) (ownDrew OW.out) hb2⟩
              clear hb2 y0 y1 y2 y3 y4 y5 y6 y7 y8 y9 y10 y11 y12 y13 a0
              go_wp2_with fail
              exact bodyPost_ret (v := .tuple #[.slice (some ⟨Hh, 0, none⟩) L.length cap, .int .i64 0]) (by simp [results, Tryz.results144, go_sem]) rfl ⟨_, by rw [e1.out], by rw [e2.out]; exact BF.out.2, BF.out.1⟩

end Go.Proofs.YtjfkfiffakbagaaGreatDoor

