/-
  Parts of the proof, one behind the other: KeepLists, KeepPeak, KeepQueue, KeepNobody, KeepPure, KeepDesk, KeepAsk.
-/
import Derived.Test.YtjfkfiffakbagaaGreatDoorL24
/-
  bookingskeep: what lists of entries add up to: at, taken, peak, kindOf.
-/
namespace Go.Proofs.YtjfkfiffakbagaaGreatDoor
open Go.RowKit
open Desk (Ent timesN hasB takK startsK peakK peakK1)

/-- A row of spans that may be read. -/
structure SV (w : World) (v : Value) (L : List (Int × Int)) : Prop where
  form : ∃ a cap, v = .slice a L.length cap
  cell : ∀ (k : Nat) (hk : k < L.length), ∃ g cap, v = .slice (some ⟨g, 0, none⟩) L.length cap ∧ w.cell? ⟨g, k * 2, none⟩ = some (.int .i64 L[k].1) ∧ w.cell? ⟨g, k * 2 + 1, none⟩ = some (.int .i64 L[k].2)
theorem SV.later {w w' : World} {v : Value} {L : List (Int × Int)} (h : SV w v L) (k : Below w.heap.size w w') : SV w' v L :=
  ⟨h.form, fun i hi => by
    obtain ⟨g, cap, e, a, b⟩ := h.cell i hi
    exact ⟨g, cap, e, cellLater k a, cellLater k b⟩⟩
theorem SV.own {w : World} {B : Nat} {v : Value} {L : List (Int × Int)} (h : w.ownsRow B 60 2 v L.length (L.flatMap spV)) : SV w v L := by
  refine ⟨own_slice h, fun k hk => ?_⟩
  obtain ⟨g, cap, e⟩ := Joins.ownsRow_form h (by omega)
  subst e
  obtain ⟨f1, f2⟩ := flatSp_at k hk
  have hl := flatSp_len L
  have a0 := h.cellAt (k * 2) (by omega)
  have a1 := h.cellAt (k * 2 + 1) (by omega)
  rw [f1] at a0
  rw [f2] at a1
  exact ⟨g, cap, rfl, a0, a1⟩
/-- A row of entries that may be read. -/
structure EV (w : World) (v : Value) (l : List (Ent × Value)) : Prop where
  form : ∃ a cap, v = .slice a l.length cap
  cell : ∀ (k : Nat) (hk : k < l.length), ∃ g cap, v = .slice (some ⟨g, 0, none⟩) l.length cap ∧ w.cell? ⟨g, k * 6, none⟩ = some (.int .i64 l[k].1.id) ∧ w.cell? ⟨g, k * 6 + 1, none⟩ = some (.int .i64 l[k].1.kind) ∧ w.cell? ⟨g, k * 6 + 2, none⟩ = some (.string l[k].1.thing) ∧ w.cell? ⟨g, k * 6 + 3, none⟩ = some (.int .i64 l[k].1.units) ∧ w.cell? ⟨g, k * 6 + 4, none⟩ = some l[k].2 ∧ w.cell? ⟨g, k * 6 + 5, none⟩ = some (.int .i64 l[k].1.till)
  sp : ∀ p ∈ l, SV w p.2 p.1.spans
theorem EV.later {w w' : World} {v : Value} {l : List (Ent × Value)} (h : EV w v l) (k : Below w.heap.size w w') : EV w' v l :=
  ⟨h.form, fun i hi => by
    obtain ⟨g, cap, e, a0, a1, a2, a3, a4, a5⟩ := h.cell i hi
    exact ⟨g, cap, e, cellLater k a0, cellLater k a1, cellLater k a2, cellLater k a3, cellLater k a4, cellLater k a5⟩, fun p hp => (h.sp p hp).later k⟩
theorem EV.own {w : World} {B : Nat} {v : Value} {l : List (Ent × Value)} (h : w.ownsRow B 58 6 v l.length (l.flatMap tellV)) (sp : ∀ p ∈ l, SV w p.2 p.1.spans) : EV w v l := by
  refine ⟨own_slice h, fun k hk => ?_, sp⟩
  obtain ⟨g, cap, e⟩ := Joins.ownsRow_form h (by omega)
  subst e
  have at_ : ∀ j, j < 6 → w.cell? ⟨g, k * 6 + j, none⟩ = (tellV l[k])[j]? := fun j hj => by
    have a0 := h.cellAt (k * 6 + j) (by omega)
    rw [flatT_at hk hj] at a0
    exact a0
  exact ⟨g, cap, rfl, at_ 0 (by omega), at_ 1 (by omega), at_ 2 (by omega), at_ 3 (by omega), at_ 4 (by omega), at_ 5 (by omega)⟩
theorem ERow.ev {w : World} {B : Nat} {col : Nat → Option Col} {v : Value} {l : List (Ent × Value)} (h : ERow w B col v l) : EV w v l := EV.own h.own (fun p hp => SV.own (h.sp p hp).1.own)

def zeroN (x : Ent) (v : Value) : Obj := .cells #[.int .i64 x.id, .int .i64 x.kind, .string x.thing, .int .i64 x.units, v, .int .i64 x.till] 58 (0, 0)
theorem times_snoc (L : List (Int × Int)) (k : Nat) (h : k < L.length) (t : Int) : timesN (L.take (k + 1)) t = timesN (L.take k) t + (if L[k].1 ≤ t ∧ t < L[k].2 then 1 else 0) := by
  unfold timesN
  rw [List.take_succ_eq_append_getElem h, List.filter_append, List.length_append]
  unfold hasB
  by_cases c : L[k].1 ≤ t ∧ t < L[k].2
  · rw [if_pos c]; simp [c]
  · rw [if_neg c]
    have : (decide (L[k].1 ≤ t) && decide (t < L[k].2)) = false := by simpa using c
    simp [this]
theorem times_bd (L : List (Int × Int)) (t : Int) : 0 ≤ timesN L t ∧ timesN L t ≤ L.length := by
  unfold timesN
  have := List.length_filter_le (hasB t) L
  omega

set_option maxRecDepth 100000 in
set_option maxHeartbeats 4000000 in
/-- How many spans of an entry have a minute. -/
theorem kAt_any (w : World) (x : Ent) (v : Value) (hv : SV w v x.spans) (t : Int) (hl : x.spans.length ≤ 1000) :
    Calls Tryz.prog 65 #[.agg #[.int .i64 x.id, .int .i64 x.kind, .string x.thing, .int .i64 x.units, v, .int .i64 x.till], .int .i64 t] w fun e w' => e = .returned (.int .i64 (timesN x.spans t)) ∧ Below w.heap.size w w' := by
  obtain ⟨a, cap, rfl⟩ := hv.form
  have hX : Below w.heap.size w (w.alloc (zeroN x (.slice a x.spans.length cap))) := (Below.refl _ _).alloc (Nat.le_refl _) _
  have hc : (w.alloc (zeroN x (.slice a x.spans.length cap))).cell? ⟨w.heap.size, 4, none⟩ = some (.slice a x.spans.length cap) := by
    have h := heapNew w (zeroN x (.slice a x.spans.length cap))
    unfold zeroN at h
    simp only [zeroN, World.cell?, h]; rfl
  have SP := hidp (hv.later hX)
  have HX := hidp hX
  clear hv hX
  go_enter Tryz.func65, Tryz.ntmps65
  go_upto_region 3 with fail
  change Code.wp _ _ _ _ (w.alloc (zeroN x (.slice a x.spans.length cap)))
  have hs : w.heap.size < (w.alloc (zeroN x (.slice a x.spans.length cap))).heap.size := by simp
  generalize w.alloc (zeroN x (.slice a x.spans.length cap)) = X at *
  go_loopw [5, 6] (fun vn vi wr => ∃ k : Nat, k ≤ x.spans.length ∧ vi = .int .i64 k ∧ vn = .int .i64 (timesN (x.spans.take k) t) ∧ Below X.heap.size X wr) (fun _ vi _ => x.spans.length - (intOf vi).toNat)
  case atStart => exact ⟨0, Nat.zero_le _, rfl, rfl, Below.refl _ _⟩
  case round =>
    obtain ⟨k, hk, rfl, rfl, hbl⟩ := hrel
    have c4 := cellLater hbl hc
    have HB := hidp hbl
    clear hbl
    by_cases hlt : k < x.spans.length
    · have hlt' : (k : Int) < (x.spans.length : Int) := by omega
      obtain ⟨g, cap', e, s0, s1⟩ := (SP.out.later HB.out).cell k hlt
      simp only [Value.slice.injEq, true_and] at e
      obtain ⟨rfl, rfl⟩ := e
      have tb := times_bd (x.spans.take k) t
      have hsn := times_snoc x.spans k hlt t
      rw [List.length_take] at tb
      have k1 : IntKind.i64.wrap (timesN (x.spans.take k) t + 1) = timesN (x.spans.take k) t + 1 := wrap_all (by omega) (by omega)
      by_cases c1 : x.spans[k].1 ≤ t
      · by_cases c2 : t < x.spans[k].2
        · rw [if_pos ⟨c1, c2⟩] at hsn
          have HN := hidp hsn
          clear hsn tb
          generalize x.spans[k].1 = p1 at *
          generalize x.spans[k].2 = p2 at *
          go_wp2_with fail
          go_roundw
          case rel => exact ⟨k + 1, by omega, by go_num, by rw [HN.out], HB.out⟩
          case measure => simp [intOf]; omega
        · rw [if_neg (fun c => c2 c.2)] at hsn
          have HN := hidp hsn
          clear hsn tb
          generalize x.spans[k].1 = p1 at *
          generalize x.spans[k].2 = p2 at *
          go_wp2_with fail
          go_roundw
          case rel => exact ⟨k + 1, by omega, by go_num, by rw [HN.out]; simp, HB.out⟩
          case measure => simp [intOf]; omega
      · rw [if_neg (fun c => c1 c.1)] at hsn
        have HN := hidp hsn
        clear hsn tb
        generalize x.spans[k].1 = p1 at *
        generalize x.spans[k].2 = p2 at *
        go_wp2_with fail
        go_roundw
        case rel => exact ⟨k + 1, by omega, by go_num, by rw [HN.out]; simp, HB.out⟩
        case measure => simp [intOf]; omega
    · have hlt' : ¬ (k : Int) < (x.spans.length : Int) := by omega
      have HE : Hid (x.spans.take k = x.spans) := List.take_of_length_le (by omega)
      rw [HE.out]
      go_wp2_with fail
      go_ret
      exact ⟨rfl, HX.out.trans (HB.out.mono HX.out.size)⟩

end Go.Proofs.YtjfkfiffakbagaaGreatDoor


/-
  bookingskeep: taken, peak, kindOf.
-/
namespace Go.Proofs.YtjfkfiffakbagaaGreatDoor
open Go.RowKit
open Desk (Ent timesN hasB takK startsK peakK peakK1)

/-- Entries whose sums are small. -/
def Few (l : List (Ent × Value)) : Prop := l.length ≤ 1000 ∧ ∀ p ∈ l, 0 ≤ p.1.units ∧ p.1.units ≤ 1000 ∧ p.1.spans.length ≤ 1000
def entsT (l : List (Ent × Value)) : List Ent := l.map (·.1)
theorem takK_snoc (l : List (Ent × Value)) (k : Nat) (h : k < l.length) (t : Int) : takK t (entsT (l.take (k + 1))) = takK t (entsT (l.take k)) + timesN l[k].1.spans t * l[k].1.units := by
  unfold entsT
  rw [List.take_succ_eq_append_getElem h, List.map_append, Desk.takK_append]
  simp [takK]
theorem mul_bd {a b A B : Int} (a0 : 0 ≤ a) (a1 : a ≤ A) (b0 : 0 ≤ b) (b1 : b ≤ B) : 0 ≤ a * b ∧ a * b ≤ A * B := ⟨Int.mul_nonneg a0 b0, Int.mul_le_mul a1 b1 b0 (Int.le_trans a0 a1)⟩
theorem takK_bd {l : List (Ent × Value)} (h : ∀ p ∈ l, 0 ≤ p.1.units ∧ p.1.units ≤ 1000 ∧ p.1.spans.length ≤ 1000) (t : Int) : 0 ≤ takK t (entsT l) ∧ takK t (entsT l) ≤ 1000000 * l.length := by
  induction l with
  | nil => simp [entsT, takK]
  | cons p r ih =>
    obtain ⟨i1, i2⟩ := ih (fun q hq => h q (List.mem_cons_of_mem _ hq))
    obtain ⟨u0, u1, sl⟩ := h p (List.mem_cons_self ..)
    have tb := times_bd p.1.spans t
    obtain ⟨m1, m2⟩ := mul_bd (A := 1000) (B := 1000) tb.1 (by omega) u0 u1
    show 0 ≤ timesN p.1.spans t * p.1.units + takK t (entsT r) ∧ timesN p.1.spans t * p.1.units + takK t (entsT r) ≤ 1000000 * ((r.length + 1 : Nat) : Int)
    omega
theorem takK_bd2 {l : List (Ent × Value)} (h : Few l) (k : Nat) (t : Int) : 0 ≤ takK t (entsT (l.take k)) ∧ takK t (entsT (l.take k)) ≤ 1000000000 := by
  have := takK_bd (l := l.take k) (fun p hp => h.2 p (List.mem_of_mem_take hp)) t
  have h1 := h.1
  have h2 : (l.take k).length ≤ l.length := by rw [List.length_take]; omega
  omega

set_option maxRecDepth 100000 in
set_option maxHeartbeats 4000000 in
/-- What is taken at a minute, by a list. -/
theorem kTaken_any (w : World) (v : Value) (l : List (Ent × Value)) (hv : EV w v l) (hf : Few l) (t : Int) :
    Calls Tryz.prog 45 #[v, .int .i64 t] w fun e w' => e = .returned (.int .i64 (takK t (entsT l))) ∧ Below w.heap.size w w' := by
  obtain ⟨a, cap, rfl⟩ := hv.form
  have HV := hidp hv
  have HF := hidp hf
  have hlen := hf.1
  clear hv hf
  go_enter Tryz.func45, Tryz.ntmps45
  go_upto_region 3 with fail
  go_loopw [5, 6] (fun vn vi wr => ∃ k : Nat, k ≤ l.length ∧ vi = .int .i64 k ∧ vn = .int .i64 (takK t (entsT (l.take k))) ∧ Below w.heap.size w wr) (fun _ vi _ => l.length - (intOf vi).toNat)
  case atStart => exact ⟨0, Nat.zero_le _, rfl, rfl, Below.refl _ _⟩
  case round =>
    obtain ⟨k, hk, rfl, rfl, hbl⟩ := hrel
    have HB := hidp hbl
    clear hbl
    by_cases hlt : k < l.length
    · have hlt' : (k : Int) < (l.length : Int) := by omega
      obtain ⟨g, cap', e, s0, s1, s2, s3, s4, s5⟩ := (HV.out.later HB.out).cell k hlt
      simp only [Value.slice.injEq, true_and] at e
      obtain ⟨rfl, rfl⟩ := e
      have HP := hidp (HV.out.sp l[k] (List.getElem_mem hlt))
      have hp := HF.out.2 l[k] (List.getElem_mem hlt)
      have tb := times_bd l[k].1.spans t
      obtain ⟨m1, m2⟩ := mul_bd (A := 1000) (B := 1000) tb.1 (by omega) hp.1 hp.2.1
      have kb := takK_bd2 HF.out k t
      have HN := hidp (takK_snoc l k hlt t)
      have k1 : IntKind.i64.wrap (timesN l[k].1.spans t * l[k].1.units) = timesN l[k].1.spans t * l[k].1.units := wrap_all (by omega) (by omega)
      have k2 : IntKind.i64.wrap (takK t (entsT (l.take k)) + timesN l[k].1.spans t * l[k].1.units) = takK t (entsT (l.take k)) + timesN l[k].1.spans t * l[k].1.units := wrap_all (by omega) (by omega)
      have AT := hidp (fun W (hW : Below w.heap.size w W) => kAt_any W l[k].1 l[k].2 (HP.out.later hW) t hp.2.2)
      have s3' := fun W (hW : Below wr.heap.size wr W) => cellLater hW s3
      have S3 := hidp s3'
      clear tb m1 m2 kb hp s3'
      generalize l[k].1 = x at *
      generalize l[k].2 = xv at *
      go_upto_region 6 with (first
        | (go_at_call 65; refine (AT.out _ HB.out).mono ?_; rintro e w1 ⟨rfl, hb1⟩; have s3b := S3.out _ hb1; have HB1 := hidp (blwMore HB.out hb1 (Nat.le_refl _)); clear hb1 s0 s1 s2 s3 s4 s5))
      go_wp2_with fail
      go_roundw
      case rel => exact ⟨k + 1, by omega, by go_num, by rw [HN.out], HB1.out⟩
      case measure => simp [intOf]; omega
    · have hlt' : ¬ (k : Int) < (l.length : Int) := by omega
      have HE : Hid (l.take k = l) := List.take_of_length_le (by omega)
      rw [HE.out]
      go_wp2_with fail
      go_ret
      exact ⟨rfl, HB.out⟩

theorem peak_snoc (l : List Ent) (a b : Int) (xs : List Int) (m x : Int) : (xs ++ [x]).foldl (peakK1 l a b) m = peakK1 l a b (xs.foldl (peakK1 l a b) m) x := by
  rw [List.foldl_append]; rfl
/-- The beginnings that were looked at. -/
def seenK (l : List (Ent × Value)) (i k : Nat) : List Int := startsK (entsT (l.take i)) ++ ((l.getD i (⟨0, 0, ⟨#[]⟩, 0, [], 0⟩, .nilIface)).1.spans.take k).map (·.1)
theorem startsK_append (l r : List Ent) : startsK (l ++ r) = startsK l ++ startsK r := by
  induction l with
  | nil => rfl
  | cons e l ih => simp only [List.cons_append, startsK, ih, List.append_assoc]
theorem getD_at (l : List (Ent × Value)) (i : Nat) (h : i < l.length) (d : Ent × Value) : l.getD i d = l[i] := by rw [List.getD_eq_getElem?_getD, List.getElem?_eq_getElem h]; rfl
theorem seenK_next (l : List (Ent × Value)) (i k : Nat) (h : i < l.length) (hk : k < l[i].1.spans.length) : seenK l i (k + 1) = seenK l i k ++ [l[i].1.spans[k].1] := by
  unfold seenK
  rw [getD_at l i h, List.take_succ_eq_append_getElem hk, List.map_append, List.append_assoc]
  rfl
theorem seenK_end (l : List (Ent × Value)) (i k : Nat) (h : i < l.length) (hk : l[i].1.spans.length ≤ k) : seenK l i k = startsK (entsT (l.take (i + 1))) := by
  unfold seenK entsT
  rw [getD_at l i h, List.take_of_length_le hk, List.take_succ_eq_append_getElem h, List.map_append, startsK_append]
  simp [startsK]
theorem seenK_0 (l : List (Ent × Value)) (i : Nat) : seenK l i 0 = startsK (entsT (l.take i)) := by simp [seenK]

set_option maxRecDepth 100000 in
set_option maxHeartbeats 8000000 in
/-- The peak, by a list. -/
theorem kPeak_any (w : World) (v : Value) (l : List (Ent × Value)) (hv : EV w v l) (hf : Few l) (fr til : Int) :
    Calls Tryz.prog 22 #[v, .int .i64 fr, .int .i64 til] w fun e w' => e = .returned (.int .i64 (peakK (entsT l) fr til)) ∧ Below w.heap.size w w' := by
  obtain ⟨a, cap, rfl⟩ := hv.form
  have HV := hidp hv
  have HF := hidp hf
  have hlen := hf.1
  have TK := hidp (fun W t (hW : Below w.heap.size w W) => kTaken_any W _ l (hv.later hW) hf t)
  clear hv hf
  go_enter Tryz.func22, Tryz.ntmps22
  go_upto_region 3 with (first
    | (go_at_call 45; refine (TK.out _ fr (Below.refl _ _)).mono ?_; rintro e w1 ⟨rfl, hb1⟩))
  have HB1 := hidp hb1
  clear hb1
  go_loopw [7, 8, 9, 10, 11] (fun vm vi _ _ _ wr => ∃ i : Nat, i ≤ l.length ∧ vi = .int .i64 i ∧ vm = .int .i64 ((startsK (entsT (l.take i))).foldl (peakK1 (entsT l) fr til) (takK fr (entsT l))) ∧ Below w.heap.size w wr) (fun _ vi _ _ _ _ => l.length - (intOf vi).toNat)
  case atStart => exact ⟨0, Nat.zero_le _, rfl, rfl, HB1.out⟩
  case round =>
    obtain ⟨i, hi, rfl, rfl, hbl⟩ := hrel
    have HB := hidp hbl
    clear hbl
    by_cases hlt : i < l.length
    · have hlt' : (i : Int) < (l.length : Int) := by omega
      go_upto_region 6 with fail
      rw [← seenK_0]
      go_loopw [7, 9, 10, 11] (fun vm vk _ _ wr' => ∃ k : Nat, k ≤ l[i].1.spans.length ∧ vk = .int .i64 k ∧ vm = .int .i64 ((seenK l i k).foldl (peakK1 (entsT l) fr til) (takK fr (entsT l))) ∧ Below w.heap.size w wr') (fun _ vk _ _ _ => l[i].1.spans.length - (intOf vk).toNat)
      case atStart => exact ⟨0, Nat.zero_le _, rfl, rfl, HB.out⟩
      case round =>
        obtain ⟨k, hk, rfl, rfl, hbl⟩ := hrel
        have HK := hidp hbl
        clear hbl
        obtain ⟨g, cap', e, s0, s1, s2, s3, s4, s5⟩ := (HV.out.later HK.out).cell i hlt
        simp only [Value.slice.injEq, true_and] at e
        obtain ⟨rfl, rfl⟩ := e
        have HP := hidp ((HV.out.sp l[i] (List.getElem_mem hlt)).later HK.out)
        obtain ⟨sa, sc, esp⟩ := HP.out.form
        rw [esp] at s4
        have hsl := (HF.out.2 l[i] (List.getElem_mem hlt)).2.2
        by_cases hkt : k < l[i].1.spans.length
        · have hkt' : (k : Int) < (l[i].1.spans.length : Int) := by omega
          obtain ⟨g2, cap2, e2, p0, p1⟩ := HP.out.cell k hkt
          rw [esp] at e2
          simp only [Value.slice.injEq, true_and] at e2
          obtain ⟨rfl, rfl⟩ := e2
          have HST : Hid ((seenK l i (k + 1)).foldl (peakK1 (entsT l) fr til) (takK fr (entsT l)) = peakK1 (entsT l) fr til ((seenK l i k).foldl (peakK1 (entsT l) fr til) (takK fr (entsT l))) l[i].1.spans[k].1) := by
            show _ = _
            rw [seenK_next l i k hlt hkt, peak_snoc]
          have TK1 := hidp (TK.out _ l[i].1.spans[k].1 HK.out)
          generalize (seenK l i k).foldl (peakK1 (entsT l) fr til) (takK fr (entsT l)) = m at *
          have HPS : Hid (peakK1 (entsT l) fr til m l[i].1.spans[k].1 = if fr < l[i].1.spans[k].1 ∧ l[i].1.spans[k].1 < til ∧ m < takK l[i].1.spans[k].1 (entsT l) then takK l[i].1.spans[k].1 (entsT l) else m) := rfl
          generalize takK l[i].1.spans[k].1 (entsT l) = tk at *
          clear s0 s1 s2 s3 s5 p1
          generalize l[i].1.spans[k].1 = x at *
          by_cases h1 : fr < x
          · by_cases h2 : x < til
            · by_cases h3 : m < tk
              · have HE : Hid ((seenK l i (k + 1)).foldl (peakK1 (entsT l) fr til) (takK fr (entsT l)) = tk) := by show _ = tk; rw [HST.out, HPS.out, if_pos ⟨h1, h2, h3⟩]
                go_wp2_with (first
                  | (go_at_call 45; refine TK1.out.mono ?_; rintro e w4 ⟨rfl, hb4⟩; have HB4 := hidp (blwMore HK.out hb4 (Nat.le_refl _)); clear hb4 TK1))
                go_roundw
                case rel => exact ⟨k + 1, by omega, by go_num, by rw [HE.out], HB4.out⟩
                case measure => simp [intOf]; omega
              · have HE : Hid ((seenK l i (k + 1)).foldl (peakK1 (entsT l) fr til) (takK fr (entsT l)) = m) := by show _ = m; rw [HST.out, HPS.out, if_neg (fun x => h3 x.2.2)]
                go_wp2_with (first
                  | (go_at_call 45; refine TK1.out.mono ?_; rintro e w4 ⟨rfl, hb4⟩; have HB4 := hidp (blwMore HK.out hb4 (Nat.le_refl _)); clear hb4 TK1))
                go_roundw
                case rel => exact ⟨k + 1, by omega, by go_num, by rw [HE.out], HB4.out⟩
                case measure => simp [intOf]; omega
            · have HE : Hid ((seenK l i (k + 1)).foldl (peakK1 (entsT l) fr til) (takK fr (entsT l)) = m) := by show _ = m; rw [HST.out, HPS.out, if_neg (fun x => h2 x.2.1)]
              go_wp2_with fail
              go_roundw
              case rel => exact ⟨k + 1, by omega, by go_num, by rw [HE.out], HK.out⟩
              case measure => simp [intOf]; omega
          · have HE : Hid ((seenK l i (k + 1)).foldl (peakK1 (entsT l) fr til) (takK fr (entsT l)) = m) := by show _ = m; rw [HST.out, HPS.out, if_neg (fun x => h1 x.1)]
            go_wp2_with fail
            go_roundw
            case rel => exact ⟨k + 1, by omega, by go_num, by rw [HE.out], HK.out⟩
            case measure => simp [intOf]; omega
        · have hkt' : ¬ (k : Int) < (l[i].1.spans.length : Int) := by omega
          have HE := hidp (seenK_end l i k hlt (by omega))
          rw [HE.out]
          clear s0 s1 s2 s3 s5
          go_wp2_with fail
          go_roundw
          case rel => exact ⟨i + 1, by omega, by go_num, rfl, HK.out⟩
          case measure => simp [intOf]; omega
    · have hlt' : ¬ (i : Int) < (l.length : Int) := by omega
      have HE : Hid (l.take i = l) := List.take_of_length_le (by omega)
      rw [HE.out]
      go_wp2_with fail
      go_ret
      exact ⟨rfl, HB.out⟩

end Go.Proofs.YtjfkfiffakbagaaGreatDoor


/-
  Who comes first is booked first; holds that end by the clock: as mathematics.
-/
namespace Go.Proofs.YtjfkfiffakbagaaGreatDoor
namespace Desk

/-- One who waits for one unit of a thing over one span, or was booked so. -/
structure One (name : ByteArray) (e : Ent) : Prop where
  th : sameB e.thing name = true
  un : e.units = 1
  sp : ∃ s, e.spans = [s] ∧ s.1 < s.2
  kd : e.kind = 1 ∨ e.kind = 3
theorem One.book {name : ByteArray} {e : Ent} (h : One name e) : One name (bookE e) := ⟨h.th, h.un, h.sp, .inl rfl⟩
end Desk
end Go.Proofs.YtjfkfiffakbagaaGreatDoor


/-
  Who is granted is booked, and waits no more: as mathematics.
-/
namespace Go.Proofs.YtjfkfiffakbagaaGreatDoor
namespace Desk

theorem does_error {s : St} {l : Line} (h : (doesD s l).2.err ≠ 0) : (doesD s l).2 = Rep.error (doesD s l).2.err := by
  cases l with
  | thing name u =>
    simp only [doesD] at h ⊢
    by_cases c1 : unitsN name s.ts ≠ 0
    · rw [if_pos c1]; rfl
    · rw [if_neg c1] at h ⊢
      by_cases c2 : s.ts.length = 4
      · rw [if_pos c2]; rfl
      · rw [if_neg c2] at h; exact absurd rfl h
  | enter k name u fr til long =>
    simp only [doesD] at h ⊢
    by_cases c : enterErr s k name u fr til long ≠ 0
    · rw [if_pos c]; rfl
    · rw [if_neg c] at h; exact absurd rfl h
  | series name u r =>
    simp only [doesD] at h ⊢
    by_cases c : seriesErr s name u r ≠ 0
    · rw [if_pos c]; rfl
    · rw [if_neg c] at h; exact absurd rfl h
  | confirm id =>
    simp only [doesD] at h ⊢
    cases hf : findE id s.es with
    | none => rfl
    | some e =>
      rw [hf] at h
      simp only at h ⊢
      by_cases c : e.kind ≠ 2
      · rw [if_pos c]; rfl
      · rw [if_neg c] at h; exact absurd rfl h
  | cancel id =>
    simp only [doesD] at h ⊢
    cases hf : findE id s.es with
    | none => rfl
    | some e => rw [hf] at h; exact absurd rfl h
  | list name fr til =>
    simp only [doesD] at h ⊢
    by_cases c1 : unitsN name s.ts = 0
    · rw [if_pos c1]; rfl
    · rw [if_neg c1] at h ⊢
      by_cases c2 : til ≤ fr
      · rw [if_pos c2]; rfl
      · rw [if_neg c2] at h; exact absurd rfl h
  | waiting => exact absurd rfl h
  | peak name fr til =>
    simp only [doesD] at h ⊢
    by_cases c1 : unitsN name s.ts = 0
    · rw [if_pos c1]; rfl
    · rw [if_neg c1] at h ⊢
      by_cases c2 : til ≤ fr
      · rw [if_pos c2]; rfl
      · rw [if_neg c2] at h; exact absurd rfl h
  | find name u long fr til =>
    simp only [doesD] at h ⊢
    by_cases c1 : askedN s.ts name u ≠ 0
    · rw [if_pos c1]; rfl
    · rw [if_neg c1] at h ⊢
      by_cases c2 : til ≤ fr
      · rw [if_pos c2]; rfl
      · rw [if_neg c2] at h; exact absurd rfl h
  | expand r =>
    simp only [doesD] at h ⊢
    by_cases c : Rd.docErr r ≠ 0
    · rw [if_pos c]; rfl
    · rw [if_neg c] at h; exact absurd rfl h
  | tick n =>
    simp only [doesD] at h ⊢
    by_cases c : 1048320 < s.now + n
    · rw [if_pos c]; rfl
    · rw [if_neg c] at h; exact absurd rfl h
  | clock => exact absurd rfl h
/-- With an error nothing is told, and nothing changes. -/
theorem step_error {s : St} {l : Line} (h : (stepD s l).2.err ≠ 0) : (stepD s l).1 = s ∧ (stepD s l).2 = Rep.error (stepD s l).2.err := by
  unfold stepD at h ⊢
  by_cases c : (doesD s l).2.err ≠ 0
  · rw [if_pos c]; exact ⟨does_err c, does_error c⟩
  · rw [if_neg c] at h; exact absurd h c
/-- A line that asks leaves the desk as it is, and nobody is granted. -/
theorem step_asks {s : St} (h : Inv s) {l : Line} (hl : (doesD s l).1 = s) : stepD s l = (s, (doesD s l).2) := by
  unfold stepD
  by_cases c : (doesD s l).2.err ≠ 0
  · rw [if_pos c]; exact Prod.ext hl rfl
  · rw [if_neg c, hl, grantS_no h]
    simp only [List.append_nil]

end Desk
end Go.Proofs.YtjfkfiffakbagaaGreatDoor


/-
  What the lines of bookingskeep's laws do to a desk, as mathematics.
-/
namespace Go.Proofs.YtjfkfiffakbagaaGreatDoor
namespace Desk

theorem does_ts (s : St) (l : Line) : (doesD s l).1.ts = s.ts ∨ ∃ t, (doesD s l).1.ts = s.ts ++ [t] := by
  cases l <;> simp only [doesD, joinD]
  case thing name u =>
    split
    · exact .inl rfl
    · split
      · exact .inl rfl
      · exact .inr ⟨_, rfl⟩
  case enter => split <;> exact .inl rfl
  case series => split <;> exact .inl rfl
  case confirm =>
    split
    · exact .inl rfl
    · split <;> exact .inl rfl
  case cancel => split <;> exact .inl rfl
  case list => split <;> first | exact .inl rfl | (split <;> exact .inl rfl)
  case waiting => simp
  case peak => split <;> first | exact .inl rfl | (split <;> exact .inl rfl)
  case find => split <;> first | exact .inl rfl | (split <;> exact .inl rfl)
  case expand => split <;> exact .inl rfl
  case tick => split <;> exact .inl rfl
  case clock => simp
theorem does_given (s : St) (l : Line) : (doesD s l).1.given ≤ s.given + 1 := by
  cases l <;> simp only [doesD, joinD]
  case thing name u =>
    split
    · show s.given ≤ s.given + 1; omega
    · split <;> (show s.given ≤ s.given + 1; omega)
  case enter => split <;> (first | (show s.given ≤ s.given + 1; omega) | (show s.given + 1 ≤ s.given + 1; omega))
  case series => split <;> (first | (show s.given ≤ s.given + 1; omega) | (show s.given + 1 ≤ s.given + 1; omega))
  case confirm =>
    split
    · show s.given ≤ s.given + 1; omega
    · split <;> (show s.given ≤ s.given + 1; omega)
  case cancel => split <;> (show s.given ≤ s.given + 1; omega)
  case list => split <;> first | (show s.given ≤ s.given + 1; omega) | (split <;> (show s.given ≤ s.given + 1; omega))
  case waiting => omega
  case peak => split <;> first | (show s.given ≤ s.given + 1; omega) | (split <;> (show s.given ≤ s.given + 1; omega))
  case find => split <;> first | (show s.given ≤ s.given + 1; omega) | (split <;> (show s.given ≤ s.given + 1; omega))
  case expand => split <;> (show s.given ≤ s.given + 1; omega)
  case tick => split <;> (show s.given ≤ s.given + 1; omega)
  case clock => omega
theorem step_ts (s : St) (l : Line) : (stepD s l).1.ts = s.ts ∨ ∃ t, (stepD s l).1.ts = s.ts ++ [t] := by
  unfold stepD
  split
  · exact does_ts s l
  · exact does_ts s l
theorem step_given (s : St) (l : Line) : (stepD s l).1.given ≤ s.given + 1 := by
  unfold stepD
  split
  · exact does_given s l
  · exact does_given s l
theorem units_keep {s : St} (h : Inv s) (l : Line) {nm : ByteArray} (hn : unitsN nm s.ts ≠ 0) : unitsN nm (stepD s l).1.ts = unitsN nm s.ts := by
  rcases step_ts s l with e | ⟨t, e⟩
  · rw [e]
  · rw [e]; exact unitsN_more h.tu hn
theorem list_step {s : St} (h : Inv s) {nm : ByteArray} (hn : unitsN nm s.ts ≠ 0) : stepD s (.list nm 0 1048320) = (s, ⟨0, 0, 0, listD nm 0 1048320 s.es, [], [], []⟩) := by
  have e : doesD s (.list nm 0 1048320) = (s, ⟨0, 0, 0, listD nm 0 1048320 s.es, [], [], []⟩) := by
    simp only [doesD]
    rw [if_neg hn, if_neg (by omega)]
    rfl
  rw [step_asks h (by rw [e]), e]
theorem peak_step {s : St} (h : Inv s) {nm : ByteArray} (hn : unitsN nm s.ts ≠ 0) {a b : Int} (hab : a < b) : stepD s (.peak nm a b) = (s, Rep.num (peakN nm s.es a b)) := by
  have e : doesD s (.peak nm a b) = (s, Rep.num (peakN nm s.es a b)) := by
    simp only [doesD]
    rw [if_neg hn, if_neg (by omega)]
  rw [step_asks h (by rw [e]), e]
theorem takenN_snoc (nm : ByteArray) (x : Int) (e : Ent) : ∀ es : List Ent, takenN nm x (es ++ [e]) = takenN nm x es + (if ofB nm e then timesN e.spans x * e.units else 0)
  | [] => by simp [takenN]
  | a :: r => by
    have := takenN_snoc nm x e r
    simp only [List.cons_append, takenN, this]
    omega
/-- Who comes behind takes nobody's place. -/
theorem join_inv {s : St} (h : Inv s) {e : Ent} (hg : s.given ≠ 60) (he : EntOk s.now e) (hk : e.kind = 1) (ht : e.units ≤ unitsN e.thing s.ts) (hf : fitsN s.ts s.es e.thing e.units e.spans = true) : Inv (joinD s e).1 := by
  have hm := Inv.join h hg he ht (fun c => by rw [hk] at c; cases c) (fun _ => hf)
  refine hm.inv fun w hw h3 => ?_
  have hw' : w ∈ s.es := by
    have hw2 : w ∈ s.es ++ [{ e with id := s.given + 1 }] := hw
    rcases List.mem_append.1 hw2 with c | c
    · exact c
    · rw [List.mem_singleton.1 c] at h3
      have : (1 : Int) = 3 := by rw [← hk]; exact h3
      omega
  have hpos : Pos s.es := h.mid.pos
  refine fits_anti (es := s.es) hpos hm.pos (by have := (h.en w hw').u1; omega) (fun x => ?_) (h.no w hw' h3)
  have e1 : (joinD s e).1.es = s.es ++ [{ e with id := s.given + 1 }] := rfl
  rw [e1, takenN_snoc]
  split
  · have t0 : 0 ≤ timesN e.spans x := by unfold timesN; omega
    have : 0 ≤ timesN e.spans x * e.units := Int.mul_nonneg t0 (by have := he.u1; omega)
    show takenN w.thing x s.es ≤ takenN w.thing x s.es + timesN e.spans x * e.units
    omega
  · omega
/-- A booked entry comes in: that is all. -/
theorem join_step {s : St} (h : Inv s) {l : Line} {e : Ent} (hd : doesD s l = joinD s e) (hg : s.given ≠ 60) (he : EntOk s.now e) (hk : e.kind = 1) (ht : e.units ≤ unitsN e.thing s.ts) (hf : fitsN s.ts s.es e.thing e.units e.spans = true) : stepD s l = joinD s e := by
  have hi := join_inv h hg he hk ht hf
  unfold stepD
  rw [hd, if_neg (by simp [joinD, Rep.num]), grantS_no hi]
  simp [joinD, Rep.num]
theorem book_step {s : St} (h : Inv s) {nm : ByteArray} {u fr til : Int} (hu : 1 ≤ u) (hu9 : u ≤ 9) (hu2 : u ≤ unitsN nm s.ts) (h0 : 0 ≤ fr) (hlt : fr < til) (ht : til ≤ 1048320) (hg : s.given < 60) :
    (fitsN s.ts s.es nm u [(fr, til)] = true → stepD s (.enter 1 nm u fr til 0) = joinD s ⟨0, 1, nm, u, [(fr, til)], 0⟩) ∧ (fitsN s.ts s.es nm u [(fr, til)] = false → stepD s (.enter 1 nm u fr til 0) = (s, Rep.error 8)) := by
  have ha : askedN s.ts nm u = 0 := by
    unfold askedN
    rw [if_neg (by omega), if_neg (by omega)]
  have hn := h.n1
  refine ⟨fun hf => ?_, fun hf => ?_⟩
  · have he : enterErr s 1 nm u fr til 0 = 0 := by
      unfold enterErr
      rw [if_neg (by rw [ha]; simp), if_neg (by omega), if_neg (by omega), if_neg (by omega), if_pos hf]
    refine join_step h ?_ (by omega) ⟨hu, hu9, by simp, by simp, ?_, ?_, .inl ⟨rfl, rfl⟩⟩ rfl hu2 hf
    · simp only [doesD]
      rw [he, if_neg (by simp)]
      simp [entOf]
    · intro p hp
      rw [List.mem_singleton.1 hp]
      exact ⟨h0, hlt, ht⟩
    · simp [Risen]
  · have he : enterErr s 1 nm u fr til 0 = 8 := by
      unfold enterErr
      rw [if_neg (by rw [ha]; simp), if_neg (by omega), if_neg (by omega), if_neg (by omega), if_neg (by rw [hf]; simp)]
    have e : doesD s (.enter 1 nm u fr til 0) = (s, Rep.error 8) := by
      simp only [doesD]
      rw [he, if_pos (by simp)]
    rw [step_asks h (by rw [e]), e]
/-- What is listed behind a booking: one more. -/
theorem list_join {s : St} {e : Ent} (hi : Inv (joinD s e).1) (hk : e.kind ≠ 3) :
    (listD e.thing 0 1048320 (joinD s e).1.es).Perm ({ e with id := s.given + 1 } :: listD e.thing 0 1048320 s.es) := by
  have e1 : (joinD s e).1.es = s.es ++ [{ e with id := s.given + 1 }] := rfl
  have hf : (joinD s e).1.es.filter (selB e.thing 0 1048320) = s.es.filter (selB e.thing 0 1048320) ++ [{ e with id := s.given + 1 }] := by
    rw [e1, List.filter_append]
    congr 1
    have hin : ({ e with id := s.given + 1 } : Ent) ∈ (joinD s e).1.es := by rw [e1]; simp
    have := selB_all (name := e.thing) (hi.en _ hin)
    rw [List.filter_cons, this]
    have : ofB e.thing ({ e with id := s.given + 1 } : Ent) = true := by simp [ofB, sameB, hk]
    rw [if_pos this]
    rfl
  unfold listD
  rw [hf]
  refine (sortE_perm _).trans ?_
  refine (List.perm_append_comm).trans ?_
  exact (sortE_perm _).symm.cons _
/-- Every listed entry has a number that was given away. -/
theorem list_ids {s : St} (h : Inv s) (nm : ByteArray) {e : Ent} (he : e ∈ listD nm 0 1048320 s.es) : e ∈ s.es ∧ 1 ≤ e.id ∧ e.id ≤ s.given := by
  have := sortE_mem.1 he
  have hm := (List.mem_filter.1 this).1
  exact ⟨hm, h.idb e hm⟩
theorem up_len : ∀ (l : List Int) (a b : Int), l.Pairwise (· < ·) → (∀ x ∈ l, a ≤ x ∧ x ≤ b) → (l.length : Int) ≤ max 0 (b - a + 1)
  | [], _, _, _, _ => by simp; omega
  | x :: r, a, b, hp, hb => by
    obtain ⟨h1, h2⟩ := List.pairwise_cons.1 hp
    have hx := hb x (List.mem_cons_self ..)
    have := up_len r (x + 1) b h2 (fun y hy => ⟨by have := h1 y hy; omega, (hb y (List.mem_cons_of_mem _ hy)).2⟩)
    simp only [List.length_cons]
    omega
theorem es_len {s : St} (h : Inv s) : s.es.length ≤ 60 := by
  have hi : (s.es.map (·.id)).Pairwise (· < ·) := h.ids
  have hg := h.g1
  have := up_len _ 1 60 hi (fun x hx => by
    obtain ⟨e, he, rfl⟩ := List.mem_map.1 hx
    have := h.idb e he
    omega)
  rw [List.length_map] at this
  omega
theorem list_len {s : St} (h : Inv s) (nm : ByteArray) : (listD nm 0 1048320 s.es).length ≤ 60 := by
  have := es_len h
  have e := (sortE_perm (a := 0) (b := 1048320) (s.es.filter (selB nm 0 1048320))).length_eq
  have f := List.length_filter_le (selB nm 0 1048320) s.es
  unfold listD
  omega

end Desk
end Go.Proofs.YtjfkfiffakbagaaGreatDoor


/-
  A desk in a law of bookingskeep: what Do leaves and answers, begin, entries.
-/
namespace Go.Proofs.YtjfkfiffakbagaaGreatDoor
open Go.RowKit
open Desk (Ent St Ids kept booked bookE sumA Items ofB sameB Risen Mid EntOk endsB Inv unitsN listD stepD Rep)

theorem Step.lowK {S : Col → Prop} {B N : Nat} {col col' : Nat → Option Col} {w w' : World} (h : Step S B col col' w w') (hB : N ≤ B) (hs : N ≤ w.heap.size) (hc : ∀ b, b < N → col b = none) : Below N w w' ∧ ∀ b, b < N → col' b = none := by
  obtain ⟨G, h1, h2⟩ := h.off
  refine ⟨⟨h1.os, h1.tape, h1.output, h1.size, fun b hb => h1.block b (by omega) (fun hx => ?_)⟩, fun b hb => ?_⟩
  · rcases h2 b hx with ⟨c, e, _⟩ | ⟨_, e⟩
    · rw [hc b hb] at e; cases e
    · omega
  · exact h.keepN (hc b hb) (by omega)
theorem BD.laterK {w w' : World} {p d : Nat} {s : St} {r : Raw} {col : Nat → Option Col} (h : BD w p d s r col) (k : Below w.heap.size w w') : BD w' p d s r col :=
  ⟨(k.block p (Array.getElem?_eq_some_iff.1 h.pc).1).trans h.pc, h.pn, ⟨h.ds.dk.later k, h.ds.of, h.ds.wl, h.ds.hl, h.ds.inv⟩, h.env.later k, h.gl⟩
/-- A desk that was made since, with its state. -/
structure DG (w W : World) (p dk : Nat) (s : St) (r : Raw) (col : Nat → Option Col) : Prop where
  bd : BD W p dk s r col
  bl : Below w.heap.size w W
  lo : ∀ b, b < w.heap.size → col b = none
theorem DG.later {w W W' : World} {p dk : Nat} {s : St} {r : Raw} {col : Nat → Option Col} (h : DG w W p dk s r col) (k : Below W.heap.size W W') : DG w W' p dk s r col := ⟨h.bd.laterK k, h.bl.trans (k.mono h.bl.size), h.lo⟩
theorem DG.step {w W W' : World} {p dk : Nat} {s s' : St} {r r' : Raw} {col col' : Nat → Option Col} (h : DG w W p dk s r col) (bd : BD W' p dk s' r' col') (st : Step anyS W.heap.size col col' W W') : DG w W' p dk s' r' col' := by
  obtain ⟨k1, k2⟩ := st.lowK h.bl.size h.bl.size h.lo
  exact ⟨bd, h.bl.trans k1, k2⟩
theorem DG.none {w W : World} {p dk : Nat} {s : St} {r : Raw} {col : Nat → Option Col} (h : DG w W p dk s r col) {b : Nat} (hb : W.heap.size ≤ b) : col b = none := h.bd.ds.dk.none hb
theorem DG.inv {w W : World} {p dk : Nat} {s : St} {r : Raw} {col : Nat → Option Col} (h : DG w W p dk s r col) : Inv s := h.bd.ds.inv
/-- A block that is nobody's lies there as it was. -/
theorem Step.still {W W' : World} {col col' : Nat → Option Col} (st : Step anyS W.heap.size col col' W W') {b : Nat} {o : Obj} (hb : W.heap[b]? = some o) (hc : col b = none) : W'.heap[b]? = some o ∧ col' b = none := by
  have hl := (Array.getElem?_eq_some_iff.1 hb).1
  exact ⟨(st.blockN hl hc hl).trans hb, st.keepN hc hl⟩
/-- What Do answers and leaves. -/
structure DoP (w W : World) (p dk : Nat) (col : Nat → Option Col) (s' : St) (rep : Rep) (l : List (Ent × Value)) (v1 v3 v4 : Value) (r' : Raw) (col' : Nat → Option Col) (W' : World) : Prop where
  ents : l.map (·.1) = rep.entries
  row : ERow W' W.heap.size col' v1 l
  gr : NRow W' W.heap.size col' v3 rep.granted
  ed : NRow W' W.heap.size col' v4 rep.ended
  dg : DG w W' p dk s' r' col'
  st : Step anyS W.heap.size col col' W W'
def DoPost (w W : World) (p dk : Nat) (col : Nat → Option Col) (q : St × Rep) (e : Ending) (W' : World) : Prop :=
  ∃ (l : List (Ent × Value)) (a1 a2 a3 a4 : Option Addr) (n2 c1 c2 c3 c4 : Nat) (r' : Raw) (col' : Nat → Option Col), e = .returned (.agg #[.int .i64 q.2.err, .int .i64 q.2.at_, .int .i64 q.2.n, .slice a1 l.length c1, .slice a2 n2 c2, .slice a3 q.2.granted.length c3, .slice a4 q.2.ended.length c4]) ∧
    DoP w W p dk col q.1 q.2 l (.slice a1 l.length c1) (.slice a3 q.2.granted.length c3) (.slice a4 q.2.ended.length c4) r' col' W'
theorem bpost_do {w W W' : World} {p dk : Nat} {s : St} {r : Raw} {col : Nat → Option Col} (h : DG w W p dk s r col) {q : St × Rep} {v : Value} (k : BPost W p dk col q v W') : DoPost w W p dk col q (.returned v) W' := by
  obtain ⟨r', col', bd, st, en, da, gr, ed, l, rfl, he, k1, k2, k3, k4, _⟩ := k
  obtain ⟨a1, c1, rfl⟩ := own_slice k1.own
  obtain ⟨a2, c2, rfl⟩ := own_slice k2.own
  obtain ⟨a3, c3, rfl⟩ := own_slice k3.own
  obtain ⟨a4, c4, rfl⟩ := own_slice k4.own
  exact ⟨l, a1, a2, a3, a4, _, c1, c2, c3, c4, r', col', rfl, he, k1, k3, k4, h.step bd st, st⟩
theorem do_text {w W : World} {p dk : Nat} {s : St} {r : Raw} {col : Nat → Option Col} (h : DG w W p dk s r col) (t : ByteArray) :
    Calls Tryz.prog 20 #[.pointer (some ⟨p, 0, none⟩), .string t] W fun e W' => DoPost w W p dk col (stepT s t) e W' :=
  (bDo_any h.bd t).mono fun _ _ ⟨_, e, k⟩ => by rw [e]; exact bpost_do h k
theorem do_line {w W : World} {p dk : Nat} {s : St} {r : Raw} {col : Nat → Option Col} (h : DG w W p dk s r col) {t : ByteArray} {v : Value} {l : Desk.Line} (hr : Reads t v) (hv : LV v l) (hl : Desk.LineOk l) {q : St × Rep} (hq : stepD s l = q) :
    Calls Tryz.prog 20 #[.pointer (some ⟨p, 0, none⟩), .string t] W fun e W' => DoPost w W p dk col q e W' := by
  subst hq
  exact (bDo_line h.bd t hr hv hl).mono fun _ _ ⟨_, e, k⟩ => by rw [e]; exact bpost_do h k

/-- The two things. -/
def nmA : ByteArray := ⟨#[97]⟩
def nmC : ByteArray := ⟨#[98]⟩
def roomS (a b : Int) : St := ⟨[(nmA, a), (nmC, b)], [], 0, 0⟩
theorem thing_a (a : Int) : stepD st0 (.thing nmA a) = (⟨[(nmA, a)], [], 0, 0⟩, ⟨0, 0, 0, [], [], [], []⟩) := by
  simp [stepD, Desk.doesD, st0, unitsN, Rep.num, Desk.grantS, Desk.grantGo]
theorem same_ab : sameB nmA nmC = false := by decide +kernel
theorem thing_b (a b : Int) : stepD ⟨[(nmA, a)], [], 0, 0⟩ (.thing nmC b) = (roomS a b, ⟨0, 0, 0, [], [], [], []⟩) := by
  simp [stepD, Desk.doesD, unitsN, same_ab, Rep.num, Desk.grantS, Desk.grantGo, roomS]
theorem units_a (a b : Int) : unitsN nmA (roomS a b).ts = a := by simp [roomS, unitsN, sameB]
theorem units_b (a b : Int) : unitsN nmC (roomS a b).ts = b := by
  have e : sameB nmC nmC = true := by decide +kernel
  simp [roomS, unitsN, same_ab, e]
def roomO (a b : Int) : Obj := .cells #[.int .i64 a, .int .i64 b] 28 (0, 0)
/-- An answer that was kept in a block. -/
def repO (err at_ n : Int) (v1 v2 v3 v4 : Value) : Obj := .cells #[.int .i64 err, .int .i64 at_, .int .i64 n, v1, v2, v3, v4] 40 (0, 0)
theorem rep_cells {W : World} {b : Nat} {err at_ n : Int} {v1 v2 v3 v4 : Value} (h : W.heap[b]? = some (repO err at_ n v1 v2 v3 v4)) : W.cell? ⟨b, 0, none⟩ = some (.int .i64 err) ∧ W.cell? ⟨b, 1, none⟩ = some (.int .i64 at_) ∧ W.cell? ⟨b, 2, none⟩ = some (.int .i64 n) ∧ W.cell? ⟨b, 3, none⟩ = some v1 ∧ W.cell? ⟨b, 4, none⟩ = some v2 ∧ W.cell? ⟨b, 5, none⟩ = some v3 ∧ W.cell? ⟨b, 6, none⟩ = some v4 := by
  unfold repO at h
  refine ⟨?_, ?_, ?_, ?_, ?_, ?_, ?_⟩ <;> (simp only [World.cell?, h]; rfl)

set_option maxRecDepth 100000 in
set_option maxHeartbeats 2000000 in
theorem begin_any (w : World) (he : Env w) (a b : Int) (ha : 1 ≤ a ∧ a ≤ 9) (hb : 1 ≤ b ∧ b ≤ 9) :
    Calls Tryz.prog 17 #[.agg #[.int .i64 a, .int .i64 b]] w fun e w' => ∃ p dk r col, e = .returned (.tuple #[.pointer (some ⟨p, 0, none⟩), .bool true]) ∧ DG w w' p dk (roomS a b) r col := by
  have hX : Below w.heap.size w (w.alloc (roomO a b)) := (Below.refl _ _).alloc (Nat.le_refl _) _
  have hq : (w.alloc (roomO a b)).heap[w.heap.size]? = some (roomO a b) := heapNew w _
  have z1 := Txt.itoa_size a (by omega) (by omega)
  have z2 := Txt.itoa_size b (by omega) (by omega)
  have NE := hidp (bNew_any _ (he.later hX))
  have HX := hidp (And.intro hX hq)
  have TA : Hid (Reads ((⟨#[116, 104, 105, 110, 103, 32, 97, 32]⟩ : ByteArray) ++ Txt.itoaS a) (.iface 143 (.agg #[.string nmA, .int .i64 a]))) := thing_reads nm_a ha (by rw [Txt.append_list]; rfl)
  have TB : Hid (Reads ((⟨#[116, 104, 105, 110, 103, 32, 98, 32]⟩ : ByteArray) ++ Txt.itoaS b) (.iface 143 (.agg #[.string nmC, .int .i64 b]))) := thing_reads nm_b hb (by rw [Txt.append_list]; rfl)
  obtain ⟨ha1, ha9⟩ := ha
  obtain ⟨hb1, hb9⟩ := hb
  clear hX hq he
  go_enter Tryz.func17, Tryz.ntmps17
  go_upto_region 1 with fail
  change Code.wp _ _ _ _ (w.alloc (roomO a b))
  have hs : w.heap.size < (w.alloc (roomO a b)).heap.size := by simp
  generalize w.alloc (roomO a b) = X at *
  go_upto_region 4 with (first
    | (go_at_call 30; refine NE.out.mono ?_; rintro e w1 ⟨p, dk, col0, rfl, bd, hbw, hlo⟩))
  have D1 := hidp (DG.mk bd hbw hlo)
  have hr1 := (hbw.block w.heap.size hs).trans HX.out.2
  clear NE bd hbw hlo
  have RO : Hid (∀ W' : World, Below X.heap.size X W' → W'.cell? ⟨w.heap.size, 0, none⟩ = some (.int .i64 a) ∧ W'.cell? ⟨w.heap.size, 1, none⟩ = some (.int .i64 b)) := fun W' k => by
    have h := (k.block w.heap.size hs).trans HX.out.2
    unfold roomO at h
    obtain ⟨x, y, _⟩ := two_of h
    exact ⟨x, y⟩
  obtain ⟨ra, rb⟩ := RO.out w1 D1.out.bl
  clear hr1 rb
  go_upto_region 5 with (first
    | (go_at_call 21; refine (kNum_any a _ D1.out.bd.env (by omega) (by omega)).mono ?_; rintro e w2 ⟨rfl, hb2⟩; have D2 := hidp (D1.out.later hb2); clear hb2)
    | (go_at_call 20; refine (do_line D2.out TA.out (.thing nmA (by decide) a) ⟨ha1, ha9⟩ (thing_a a)).mono ?_; rintro e w3 ⟨l1, a1, a2, a3, a4, n2, c1, c2, c3, c4, r1, col1, rfl, P1⟩; dsimp only [List.length_nil]))
  change Code.wp _ _ _ _ (w3.alloc (repO 0 0 0 (.slice a1 l1.length c1) (.slice a2 n2 c2) (.slice a3 0 c3) (.slice a4 0 c4)))
  have R1 := hidp (heapNew w3 (repO 0 0 0 (.slice a1 l1.length c1) (.slice a2 n2 c2) (.slice a3 0 c3) (.slice a4 0 c4)))
  have D3 := hidp (P1.dg.later ((Below.refl w3.heap.size w3).alloc (Nat.le_refl _) (repO 0 0 0 (.slice a1 l1.length c1) (.slice a2 n2 c2) (.slice a3 0 c3) (.slice a4 0 c4))))
  have N1 := hidp (P1.dg.none (Nat.le_refl w3.heap.size))
  clear P1 D1 D2 ra
  generalize w3.alloc (repO 0 0 0 (.slice a1 l1.length c1) (.slice a2 n2 c2) (.slice a3 0 c3) (.slice a4 0 c4)) = Z3 at R1 D3 ⊢
  generalize w3.heap.size = B1 at R1 N1 ⊢
  have rb := (RO.out Z3 D3.out.bl).2
  go_upto_region 6 with (first
    | (go_at_call 21; refine (kNum_any b _ D3.out.bd.env (by omega) (by omega)).mono ?_; rintro e w4 ⟨rfl, hb4⟩; have D4 := hidp (D3.out.later hb4); have R4 := hidp ((hb4.block B1 (Array.getElem?_eq_some_iff.1 R1.out).1).trans R1.out); clear hb4)
    | (go_at_call 20; refine (do_line D4.out TB.out (.thing nmC (by decide) b) ⟨hb1, hb9⟩ (thing_b a b)).mono ?_; rintro e w5 ⟨l2, b1, b2, b3, b4, m2, d1, d2, d3, d4, r2, col2, rfl, P2⟩; dsimp only [List.length_nil]))
  change Code.wp _ _ _ _ (w5.alloc (repO 0 0 0 (.slice b1 l2.length d1) (.slice b2 m2 d2) (.slice b3 0 d3) (.slice b4 0 d4)))
  obtain ⟨R5, N5⟩ := P2.st.still R4.out N1.out
  have kb := (Below.refl w5.heap.size w5).alloc (Nat.le_refl _) (repO 0 0 0 (.slice b1 l2.length d1) (.slice b2 m2 d2) (.slice b3 0 d3) (.slice b4 0 d4))
  have D6 := hidp (P2.dg.later kb)
  have e1 := (rep_cells ((kb.block B1 (Array.getElem?_eq_some_iff.1 R5).1).trans R5)).1
  have e2 := (rep_cells (heapNew w5 (repO 0 0 0 (.slice b1 l2.length d1) (.slice b2 m2 d2) (.slice b3 0 d3) (.slice b4 0 d4)))).1
  clear R5 N5 kb P2 rb R1 N1 D3 D4 R4 RO
  generalize w5.alloc (repO 0 0 0 (.slice b1 l2.length d1) (.slice b2 m2 d2) (.slice b3 0 d3) (.slice b4 0 d4)) = Z6 at e1 e2 D6 ⊢
  generalize w5.heap.size = B2 at e2 ⊢
  have HF : Hid (DG w Z6.drew p dk (roomS a b) r2 col2) := by
    have k := D6.out.later (blwDrew Z6)
    exact ⟨k.bd, HX.out.1.trans (k.bl.mono HX.out.1.size), fun c hc => k.lo c (Nat.lt_of_lt_of_le hc HX.out.1.size)⟩
  clear D6 HX TA TB hs
  go_big_region
  go_wp2_with fail
  go_ret2
  exact ⟨p, dk, r2, col2, rfl, HF.out⟩

end Go.Proofs.YtjfkfiffakbagaaGreatDoor


/-
  bookingskeep: what is asked for, out of raw bytes.
-/
namespace Go.Proofs.YtjfkfiffakbagaaGreatDoor
open Go.RowKit

/-- What is asked for lies in block A, the answer's block is R. -/
structure AW (w0 : World) (F : Nat) (s : ByteArray) (A R : Nat) (nm : ByteArray) (u fr til : Int) (w : World) : Prop where
  fw : FW w0 F s w
  a : w.heap[A]? = some (zeroA nm u fr til)
  r : w.heap[R]? = some (zeroA ⟨#[]⟩ 0 0 0)
  ar : A ≠ R
  af : A ≠ F
  rf : R ≠ F
  a0 : w0.heap.size ≤ A
  r0 : w0.heap.size ≤ R
  h0 : 10 ≤ w0.heap.size
theorem AW.drew {w0 w : World} {F : Nat} {s : ByteArray} {A R : Nat} {nm : ByteArray} {u fr til : Int} (h : AW w0 F s A R nm u fr til w) : AW w0 F s A R nm u fr til w.drew :=
  ⟨h.fw.drew, h.a, h.r, h.ar, h.af, h.rf, h.a0, h.r0, h.h0⟩
theorem AW.c {w0 w : World} {F : Nat} {s : ByteArray} {A R : Nat} {nm : ByteArray} {u fr til : Int} (h : AW w0 F s A R nm u fr til w) : w.cell? ⟨A, 0, none⟩ = some (.string nm) ∧ w.cell? ⟨A, 1, none⟩ = some (.int .i64 u) ∧ w.cell? ⟨A, 2, none⟩ = some (.int .i64 fr) ∧ w.cell? ⟨A, 3, none⟩ = some (.int .i64 til) ∧ ∀ o, w.frozen? ⟨A, o, none⟩ = false := four_of h.a
theorem AW.rc {w0 w : World} {F : Nat} {s : ByteArray} {A R : Nat} {nm : ByteArray} {u fr til : Int} (h : AW w0 F s A R nm u fr til w) : w.cell? ⟨R, 0, none⟩ = some (.string ⟨#[]⟩) ∧ w.cell? ⟨R, 1, none⟩ = some (.int .i64 0) ∧ w.cell? ⟨R, 2, none⟩ = some (.int .i64 0) ∧ w.cell? ⟨R, 3, none⟩ = some (.int .i64 0) ∧ ∀ o, w.frozen? ⟨R, o, none⟩ = false := four_of h.r
/-- Block A is written anew. -/
theorem AW.to {w0 w w' : World} {F : Nat} {s : ByteArray} {A R : Nat} {nm nm' : ByteArray} {u fr til u' fr' til' : Int} (h : AW w0 F s A R nm u fr til w) (hw : FW w0 F s w') (k : Off [A] w w') (ha : w'.heap[A]? = some (zeroA nm' u' fr' til')) : AW w0 F s A R nm' u' fr' til' w' :=
  ⟨hw, ha, (k.block R (Array.getElem?_eq_some_iff.1 h.r).1 (by simp; exact fun e => h.ar e.symm)).trans h.r, h.ar, h.af, h.rf, h.a0, h.r0, h.h0⟩
theorem AW.name {w0 w : World} {F : Nat} {s : ByteArray} {A R : Nat} {nm : ByteArray} {u fr til : Int} (h : AW w0 F s A R nm u fr til w) (x : ByteArray) : AW w0 F s A R x u fr til (w.setCell ⟨A, 0, none⟩ (.string x)) :=
  h.to (h.fw.set h.a0 h.af (Nat.le_trans h.h0 h.a0) _ _) (Off.set0 _ _ _ _) (set_row h.a _)
theorem AW.from_ {w0 w : World} {F : Nat} {s : ByteArray} {A R : Nat} {nm : ByteArray} {u fr til : Int} (h : AW w0 F s A R nm u fr til w) (x : Int) : AW w0 F s A R nm u x til (w.setCell ⟨A, 2, none⟩ (.int .i64 x)) :=
  h.to (h.fw.set h.a0 h.af (Nat.le_trans h.h0 h.a0) _ _) (Off.set0 _ _ _ _) (set_row h.a _)
theorem AW.till {w0 w : World} {F : Nat} {s : ByteArray} {A R : Nat} {nm : ByteArray} {u fr til : Int} (h : AW w0 F s A R nm u fr til w) (x : Int) : AW w0 F s A R nm u fr x (w.setCell ⟨A, 3, none⟩ (.int .i64 x)) :=
  h.to (h.fw.set h.a0 h.af (Nat.le_trans h.h0 h.a0) _ _) (Off.set0 _ _ _ _) (set_row h.a _)
theorem anext_any {w0 w : World} {F : Nat} {s : ByteArray} {A R : Nat} {nm : ByteArray} {u fr til : Int} (h : AW w0 F s A R nm u fr til w) (n : Int) (h1 : 1 ≤ n) (h2 : n ≤ 1000) :
    Calls Tryz.prog 25 #[.pointer (some ⟨F, 0, none⟩), .int .i64 n] w fun e w' => ∃ v, e = .returned (.int .i64 v) ∧ 0 ≤ v ∧ v < n ∧ AW w0 F s A R nm u fr til w' := by
  have hf : FW w F s w := ⟨h.fw.fd, h.fw.env, Off.refl _ _, h.fw.ten⟩
  refine (next_any hf n h1 h2).mono ?_
  rintro e w' ⟨v, rfl, v0, v1, k⟩
  refine ⟨v, rfl, v0, v1, ⟨k.fd, k.env, h.fw.off.trans k.off, k.ten⟩, ?_, ?_, h.ar, h.af, h.rf, h.a0, h.r0, h.h0⟩
  · exact (k.off.block A (Array.getElem?_eq_some_iff.1 h.a).1 (by simp; exact h.af)).trans h.a
  · exact (k.off.block R (Array.getElem?_eq_some_iff.1 h.r).1 (by simp; exact h.rf)).trans h.r
/-- What may be asked for. -/
structure AskOk (nm : ByteArray) (u fr til : Int) : Prop where
  n : nm = ⟨#[97]⟩ ∨ nm = ⟨#[98]⟩ ∨ nm = ⟨#[99]⟩
  u1 : 1 ≤ u
  u3 : u ≤ 3
  f0 : 0 ≤ fr
  f1 : fr ≤ 1048320
  t0 : 0 ≤ til
  t1 : til ≤ 1048320

set_option maxRecDepth 100000 in
set_option maxHeartbeats 2000000 in
theorem kAsked_any {w : World} {F : Nat} {s : ByteArray} (h : FW w F s w) :
    Calls Tryz.prog 24 #[.pointer (some ⟨F, 0, none⟩)] w fun e w' => ∃ nm u fr til, e = .returned (.agg #[.string nm, .int .i64 u, .int .i64 fr, .int .i64 til]) ∧ AskOk nm u fr til ∧ FW w F s w' := by
  have hF := h.lt
  have h10 := h.env.size
  have NX := hidp (fun n h1 h2 => next_any (h.alloc (zeroA ⟨#[]⟩ 0 0 0)) n h1 h2)
  have hr : (w.alloc (zeroA ⟨#[]⟩ 0 0 0)).heap[w.heap.size]? = some (zeroA ⟨#[]⟩ 0 0 0) := heapNew w _
  have ST : Hid (∀ W u, FW w F s W → Off [F] (w.alloc (zeroA ⟨#[]⟩ 0 0 0)) W → AW w F s W.heap.size w.heap.size ⟨#[97]⟩ u 0 0 (W.alloc (zeroA ⟨#[97]⟩ u 0 0))) := fun W u hW ho => by
    have hl : w.heap.size < W.heap.size := Nat.lt_of_lt_of_le (by simp) ho.size
    have hR := (ho.block w.heap.size (by simp) (by simp; omega)).trans hr
    exact ⟨hW.alloc _, heapNew W _, (Below.heap_alloc W _ _ hl).trans hR, by omega, by omega, by omega, by omega, Nat.le_refl _, h10⟩
  have NX1 := hidp (fun n h1 h2 => next_any (w0 := w.alloc (zeroA ⟨#[]⟩ 0 0 0)) (w := w.alloc (zeroA ⟨#[]⟩ 0 0 0)) (F := F) (s := s) ⟨(h.alloc _).fd, (h.alloc _).env, Off.refl _ _, h.ten⟩ n h1 h2)
  have HH := hidp h
  clear h hr NX
  go_enter Tryz.func24, Tryz.ntmps24
  go_upto_region 1 with fail
  change Code.wp _ _ _ _ (w.alloc (zeroA ⟨#[]⟩ 0 0 0))
  go_upto_region 2 with (first
    | (go_at_call 25; refine (NX1.out 3 (by omega) (by omega)).mono ?_; rintro e w1 ⟨v1, rfl, a1, b1, hf1⟩; have k1 : IntKind.i64.wrap (1 + v1) = 1 + v1 := wrap_all (by omega) (by omega)))
  have HA := hidp (ST.out w1 (1 + v1) ⟨hf1.fd, hf1.env, ((Off.refl [F] w).alloc _).trans hf1.off, hf1.ten⟩ hf1.off)
  clear ST NX1 HH
  have u1 : 1 ≤ 1 + v1 := by omega
  have u3 : 1 + v1 ≤ 3 := by omega
  clear hf1 a1 b1 k1
  change Code.wp _ _ _ _ (w1.alloc (zeroA ⟨#[97]⟩ (1 + v1) 0 0))
  generalize w1.alloc (zeroA ⟨#[97]⟩ (1 + v1) 0 0) = X1 at HA ⊢
  generalize w1.heap.size = A at HA ⊢
  generalize 1 + v1 = u at u1 u3 HA ⊢
  generalize w.heap.size = R at HA ⊢
  rename_i K1 h1 K0 h0
  have KK1 : ∀ (t4 t5 t6 t7 t8 t9 t10 t11 : Value) (nm : ByteArray) (W : World), (nm = ⟨#[97]⟩ ∨ nm = ⟨#[98]⟩) → AW w F s A R nm u 0 0 W → K1 { tmps := #[.pointer (some ⟨F, 0, none⟩), undef, .pointer (some ⟨R, 0, none⟩), .pointer (some ⟨A, 0, none⟩), t4, t5, t6, t7, t8, t9, t10, t11, undef, undef, undef, undef, undef, undef, undef, undef, undef, undef, undef, undef, undef, undef, undef, undef, undef, undef, undef, undef, undef, undef, undef, undef, undef, undef, undef, undef, undef, undef], defers := [] } W := by
    intro t4 t5 t6 t7 t8 t9 t10 t11 nm W hnm hA
    refine h1 _ _ ?_
    have HA := hidp hA
    clear h1 h0 hA
    go_upto_region 5 with (first
      | (go_at_call 25; refine (anext_any HA.out 30 (by omega) (by omega)).mono ?_; rintro e w3 ⟨v3, rfl, a3, b3, ha3⟩; have HA3 := hidp ha3; clear ha3; have k3 : IntKind.i64.wrap (5 * v3) = 5 * v3 := wrap_all (by omega) (by omega); have cf := HA3.out.c.2.2.2.2; have c2 := HA3.out.c.2.2.1))
    have HB := hidp (HA3.out.from_ (5 * v3))
    have f0 : 0 ≤ 5 * v3 := by omega
    have f1 : 5 * v3 ≤ 145 := by omega
    clear HA HA3 k3 cf c2 a3 b3
    generalize w3.setCell ⟨A, 2, none⟩ (.int .i64 (5 * v3)) = X3 at HB ⊢
    generalize 5 * v3 = fr at f0 f1 HB ⊢
    have HBd := hidp HB.out.drew
    have c2 := HBd.out.c.2.2.1
    go_region_held3 (fun w' => w'.cell? ⟨A, 2, none⟩ = some (.int .i64 fr))
      (first
        | exact c2b
        | exact AS _
        | exact c2)
      (first
        | (go_at_call 25; refine (anext_any HBd.out 12 (by omega) (by omega)).mono ?_; rintro e w4 ⟨v4, rfl, a4, b4, ha4⟩; have HA4 := hidp ha4; clear ha4; have k4 : IntKind.i64.wrap (5 * v4) = 5 * v4 := wrap_all (by omega) (by omega); have k5 : IntKind.i64.wrap (fr + 5 * v4) = fr + 5 * v4 := wrap_all (by omega) (by omega); have c2b := HA4.out.c.2.2.1; have c3b := HA4.out.c.2.2.2.1; have cfb := HA4.out.c.2.2.2.2; have AS := fun x => (HA4.out.till x).c.2.2.1))
    have HC := hidp (HA4.out.till (fr + 5 * v4))
    have g0 : 0 ≤ fr + 5 * v4 := by omega
    have g1 : fr + 5 * v4 ≤ 1000 := by omega
    clear HB HBd c2 HA4 k4 k5 c2b c3b cfb AS a4 b4
    generalize w4.setCell ⟨A, 3, none⟩ (.int .i64 (fr + 5 * v4)) = X4 at HC ⊢
    generalize fr + 5 * v4 = til at g0 g1 HC ⊢
    go_upto_region 6 with fail
    rename_i K2 h2 K3 h3
    have KK2 : ∀ (t4 t5 t6 t7 t8 t9 t10 t11 t12 t13 t14 t15 t16 t17 t18 t19 t20 t21 t22 t23 t24 t25 t26 t27 t28 t29 t30 t31 t32 t33 t34 t35 t36 : Value) (fr til : Int) (W : World), (0 ≤ fr ∧ fr ≤ 1048320) → (0 ≤ til ∧ til ≤ 1048320) → AW w F s A R nm u fr til W → K2 { tmps := #[.pointer (some ⟨F, 0, none⟩), undef, .pointer (some ⟨R, 0, none⟩), .pointer (some ⟨A, 0, none⟩), t4, t5, t6, t7, t8, t9, t10, t11, t12, t13, t14, t15, t16, t17, t18, t19, t20, t21, t22, t23, t24, t25, t26, t27, t28, t29, t30, t31, t32, t33, t34, t35, t36, undef, undef, undef, undef, undef], defers := [] } W := by
      intro t4 t5 t6 t7 t8 t9 t10 t11 t12 t13 t14 t15 t16 t17 t18 t19 t20 t21 t22 t23 t24 t25 t26 t27 t28 t29 t30 t31 t32 t33 t34 t35 t36 fr til W hf ht hA
      refine h2 _ _ ?_
      have HA := hidp hA
      clear h2 h3 hA HC f0 f1 g0 g1
      go_upto_region 9 with fail
      rename_i K4 h4 K5 h5
      have KK4 : ∀ (t4 t5 t6 t7 t8 t9 t10 t11 t12 t13 t14 t15 t16 t17 t18 t19 t20 t21 t22 t23 t24 t25 t26 t27 t28 t29 t30 t31 t32 t33 t34 t35 t36 t37 t38 t39 t40 : Value) (nm : ByteArray) (W : World), (nm = ⟨#[97]⟩ ∨ nm = ⟨#[98]⟩ ∨ nm = ⟨#[99]⟩) → AW w F s A R nm u fr til W → K4 { tmps := #[.pointer (some ⟨F, 0, none⟩), undef, .pointer (some ⟨R, 0, none⟩), .pointer (some ⟨A, 0, none⟩), t4, t5, t6, t7, t8, t9, t10, t11, t12, t13, t14, t15, t16, t17, t18, t19, t20, t21, t22, t23, t24, t25, t26, t27, t28, t29, t30, t31, t32, t33, t34, t35, t36, t37, t38, t39, t40, undef], defers := [] } W := by
        intro t4 t5 t6 t7 t8 t9 t10 t11 t12 t13 t14 t15 t16 t17 t18 t19 t20 t21 t22 t23 t24 t25 t26 t27 t28 t29 t30 t31 t32 t33 t34 t35 t36 t37 t38 t39 t40 nm W hn hA
        refine h4 _ _ ?_
        obtain ⟨c0, c1, c2, c3, cf⟩ := hA.c
        obtain ⟨r0, r1, r2, r3, rf⟩ := hA.rc
        have HW : Hid (FW w F s ((((W.setCell ⟨R, 0, none⟩ (.string nm)).setCell ⟨R, 1, none⟩ (.int .i64 u)).setCell ⟨R, 2, none⟩ (.int .i64 fr)).setCell ⟨R, 3, none⟩ (.int .i64 til))) :=
          (((hA.fw.set hA.r0 hA.rf (Nat.le_trans hA.h0 hA.r0) _ _).set hA.r0 hA.rf (Nat.le_trans hA.h0 hA.r0) _ _).set hA.r0 hA.rf (Nat.le_trans hA.h0 hA.r0) _ _).set hA.r0 hA.rf (Nat.le_trans hA.h0 hA.r0) _ _
        have HK := hidp (AskOk.mk hn u1 u3 hf.1 hf.2 ht.1 ht.2)
        clear h4 h5 hA HA hf ht hn hnm
        go_wp2_with fail
        exact bodyPost_ret (v := .agg #[.string nm, .int .i64 u, .int .i64 fr, .int .i64 til]) (by simp [results, Tryz.results24, go_sem, r0, r1, r2, r3]) rfl ⟨_, _, _, _, rfl, HK.out, HW.out⟩
      clear h4
      have hn3 : nm = ⟨#[97]⟩ ∨ nm = ⟨#[98]⟩ ∨ nm = ⟨#[99]⟩ := by rcases hnm with e | e <;> simp [e]
      clear hnm
      go_upto_region 10 with (first
        | (go_at_call 25; refine (anext_any HA.out 20 (by omega) (by omega)).mono ?_; rintro e w7 ⟨v7, rfl, a7, b7, ha7⟩; have HA7 := hidp ha7; clear ha7))
      · have c0 := HA7.out.c.1
        have cf := HA7.out.c.2.2.2.2
        have HA8 := hidp (HA7.out.name ⟨#[99]⟩)
        clear HA7 HA
        go_wp2_with fail
        exact KK4 _ _ _ _ _ _ _ _ _ _ _ _ _ _ _ _ _ _ _ _ _ _ _ _ _ _ _ _ _ _ _ _ _ _ _ _ _ _ _ (.inr (.inr rfl)) HA8.out
      · exact KK4 _ _ _ _ _ _ _ _ _ _ _ _ _ _ _ _ _ _ _ _ _ _ _ _ _ _ _ _ _ _ _ _ _ _ _ _ _ _ _ hn3 HA7.out
    go_upto_region 7 with (first
      | (go_at_call 25; refine (anext_any HC.out 12 (by omega) (by omega)).mono ?_; rintro e w5 ⟨v5, rfl, a5, b5, ha5⟩; have HA5 := hidp ha5; clear ha5))
    · have KKt := KK2
      clear KK2 HC h2
      go_upto_region 8 with (first
        | (go_at_call 25; refine (anext_any HA5.out 3 (by omega) (by omega)).mono ?_; rintro e w6 ⟨v6, rfl, a6, b6, ha6⟩; have HA6 := hidp ha6; clear ha6; have k6 : IntKind.i64.wrap (1048320 - v6) = 1048320 - v6 := wrap_all (by omega) (by omega); have cf := HA6.out.c.2.2.2.2; have c3 := HA6.out.c.2.2.2.1))
      have HB6 := hidp (HA6.out.till (1048320 - v6))
      have p0 : 1048318 ≤ 1048320 - v6 := by omega
      have p1 : 1048320 - v6 ≤ 1048320 := by omega
      clear HA6 HA5 k6 cf c3 a6 b6 a5 b5
      generalize w6.setCell ⟨A, 3, none⟩ (.int .i64 (1048320 - v6)) = X6 at HB6 ⊢
      generalize 1048320 - v6 = ti at p0 p1 HB6 ⊢
      have HBd := hidp HB6.out.drew
      have c3 := HBd.out.c.2.2.2.1
      go_region_held3 (fun w' => w'.cell? ⟨A, 3, none⟩ = some (.int .i64 ti))
        (first
          | exact c3b
          | exact AS _
          | exact c3)
        (first
          | (go_at_call 25; refine (anext_any HBd.out 20 (by omega) (by omega)).mono ?_; rintro e w8 ⟨v8, rfl, a8, b8, ha8⟩; have HA8 := hidp ha8; clear ha8; have k8 : IntKind.i64.wrap (10 * v8) = 10 * v8 := wrap_all (by omega) (by omega); have k9 : IntKind.i64.wrap (ti - 10 * v8) = ti - 10 * v8 := wrap_all (by omega) (by omega); have c3b := HA8.out.c.2.2.2.1; have c2b := HA8.out.c.2.2.1; have cfb := HA8.out.c.2.2.2.2; have AS := fun x => (HA8.out.from_ x).c.2.2.2.1))
      have HA9 := hidp (HA8.out.from_ (ti - 10 * v8))
      exact KKt _ _ _ _ _ _ _ _ _ _ _ _ _ _ _ _ _ _ _ _ _ _ _ _ _ _ _ _ _ _ _ _ _ _ _ _ ⟨by omega, by omega⟩ ⟨by omega, by omega⟩ HA9.out
    · exact KK2 _ _ _ _ _ _ _ _ _ _ _ _ _ _ _ _ _ _ _ _ _ _ _ _ _ _ _ _ _ _ _ _ _ _ _ _ ⟨by omega, by omega⟩ ⟨by omega, by omega⟩ HA5.out
  clear h1
  go_upto_region 3 with (first
    | (go_at_call 25; refine (anext_any HA.out 3 (by omega) (by omega)).mono ?_; rintro e w2 ⟨v2, rfl, a2, b2, ha2⟩; have HA2 := hidp ha2; clear ha2))
  · have c0 := HA2.out.c.1
    have cf := HA2.out.c.2.2.2.2
    have HA3 := hidp (HA2.out.name ⟨#[98]⟩)
    clear HA2 HA
    go_wp2_with fail
    exact KK1 _ _ _ _ _ _ _ _ _ _ (.inr rfl) HA3.out
  · exact KK1 _ _ _ _ _ _ _ _ _ _ (.inl rfl) HA2.out

end Go.Proofs.YtjfkfiffakbagaaGreatDoor

