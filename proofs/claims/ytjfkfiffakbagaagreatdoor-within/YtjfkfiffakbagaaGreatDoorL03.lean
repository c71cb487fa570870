/-
  Parts of the proof, one behind the other: LevRoom, Avl, SpRep, SpWalks, SpTurn, SpBal.
-/
import Derived.Test.YtjfkfiffakbagaaGreatDoorL02
import Derived.Deep.RegionWith
import Derived.Deep.CutRange
/-
  Package levels: firstMinute whole; Room.
-/
namespace Go.Proofs.YtjfkfiffakbagaaGreatDoor
open Go.RowKit

theorem first_T : ∀ t : Lev.T, FmSays true 205 t := by
  intro t
  induction t with
  | nil =>
    intro u F lo hi a b c level k w h hB hg hc h1 h2 h3 h4 h5 h6
    simp only [Lev.top] at h2
    cases hp : Lev.apart lo hi a b
    · cases hw : Lev.wants true level .nil c
      · have e : Lev.fm true level .nil lo hi a b c = none := by simp [Lev.fm, hw]
        rw [e]
        exact first_none_true .nil u F lo hi a b c level k w h hB hc (by omega) (by omega) hp hw
      · have e : Lev.fm true level .nil lo hi a b c = some (max lo a) := by simp [Lev.fm, hw, hp]
        rw [e]
        exact first_flat_true .nil u F lo hi a b c level k w h hB hc (by omega) (by omega) hp hw rfl
    · have e : Lev.fm true level .nil lo hi a b c = none := by simp [Lev.fm, hp]
      rw [e]
      exact first_apart true u lo hi a b c k w hp
  | node v l r ihl ihr =>
    intro u F lo hi a b c level k w h hB hg hc h1 h2 h3 h4 h5 h6
    have t0 : 0 ≤ Lev.top (.node v l r) := by
      obtain ⟨_, x, _, _, e⟩ := Lev.top_is (.node v l r) lo hi h4 hg
      have := Lev.lev_nonneg (.node v l r) lo hi x hg
      omega
    cases hp : Lev.apart lo hi a b
    · cases hw : Lev.wants true level (.node v l r) c
      · have e : Lev.fm true level (.node v l r) lo hi a b c = none := by simp [Lev.fm, hw]
        rw [e]
        exact first_none_true _ u F lo hi a b c level k w h hB hc (by omega) (by omega) hp hw
      · cases hf : Lev.flat (.node v l r)
        · exact first_cut_true v l r ihl ihr u F lo hi a b c level k w h hB hg hc h1 h2 h3 h4 h5 h6 hp hw hf
        · have hf' : (Lev.isNil l && Lev.isNil r) = true := hf
          have e : Lev.fm true level (.node v l r) lo hi a b c = some (max lo a) := by rw [Lev.fm]; simp only [hw, hp, hf', Bool.false_or, Bool.not_true, Bool.false_eq_true, if_false, if_true]
          rw [e]
          exact first_flat_true _ u F lo hi a b c level k w h hB hc (by omega) (by omega) hp hw hf
    · have e : Lev.fm true level (.node v l r) lo hi a b c = none := by simp [Lev.fm, hp]
      rw [e]
      exact first_apart true u lo hi a b c k w hp

theorem first_F : ∀ t : Lev.T, FmSays false 207 t := by
  intro t
  induction t with
  | nil =>
    intro u F lo hi a b c level k w h hB hg hc h1 h2 h3 h4 h5 h6
    simp only [Lev.top] at h2
    cases hp : Lev.apart lo hi a b
    · cases hw : Lev.wants false level .nil c
      · have e : Lev.fm false level .nil lo hi a b c = none := by simp [Lev.fm, hw]
        rw [e]
        exact first_none_false .nil u F lo hi a b c level k w h hB hc (by omega) (by omega) hp hw
      · have e : Lev.fm false level .nil lo hi a b c = some (max lo a) := by simp [Lev.fm, hw, hp]
        rw [e]
        exact first_flat_false .nil u F lo hi a b c level k w h hB hc (by omega) (by omega) hp hw rfl
    · have e : Lev.fm false level .nil lo hi a b c = none := by simp [Lev.fm, hp]
      rw [e]
      exact first_apart false u lo hi a b c k w hp
  | node v l r ihl ihr =>
    intro u F lo hi a b c level k w h hB hg hc h1 h2 h3 h4 h5 h6
    have t0 : 0 ≤ Lev.top (.node v l r) := by
      obtain ⟨_, x, _, _, e⟩ := Lev.top_is (.node v l r) lo hi h4 hg
      have := Lev.lev_nonneg (.node v l r) lo hi x hg
      omega
    cases hp : Lev.apart lo hi a b
    · cases hw : Lev.wants false level (.node v l r) c
      · have e : Lev.fm false level (.node v l r) lo hi a b c = none := by simp [Lev.fm, hw]
        rw [e]
        exact first_none_false _ u F lo hi a b c level k w h hB hc (by omega) (by omega) hp hw
      · cases hf : Lev.flat (.node v l r)
        · exact first_cut_false v l r ihl ihr u F lo hi a b c level k w h hB hg hc h1 h2 h3 h4 h5 h6 hp hw hf
        · have hf' : (Lev.isNil l && Lev.isNil r) = true := hf
          have e : Lev.fm false level (.node v l r) lo hi a b c = some (max lo a) := by rw [Lev.fm]; simp only [hw, hp, hf', Bool.false_or, Bool.not_true, Bool.false_eq_true, if_false, if_true]
          rw [e]
          exact first_flat_false _ u F lo hi a b c level k w h hB hc (by omega) (by omega) hp hw hf
    · have e : Lev.fm false level (.node v l r) lo hi a b c = none := by simp [Lev.fm, hp]
      rw [e]
      exact first_apart false u lo hi a b c k w hp

/-- Something of that level has room from s on for so long. -/
def roomAt (f : Int → Int) (long level s : Int) : Prop := ∀ x, s ≤ x → x < s + long → f x ≤ level
/-- The first time that has room. -/
def RoomIs (f : Int → Int) (a b long level : Int) : Option Int → Prop
  | none => ∀ s, a ≤ s → s + long ≤ b → ¬ roomAt f long level s
  | some s => a ≤ s ∧ s + long ≤ b ∧ roomAt f long level s ∧ ∀ s', a ≤ s' → s' < s → ¬ roomAt f long level s'

theorem room_of {f : Int → Int} {level st long : Int} (h : Lev.FirstIs (fun z => level < f z) 0 1048320 st (st + long) none) (h0 : 0 ≤ st) (h1 : st + long ≤ 1048320) : roomAt f long level st := by
  intro x k1 k2
  have := h x (by omega) (by omega) k1 k2
  have this : ¬ level < f x := this
  omega
theorem noneOf {f : Int → Int} {level a b st y5 long : Int} (h : ∀ s', a ≤ s' → s' < st → ¬ roomAt f long level s') (h5 : level < f y5) (g : Lev.FirstIs (fun z => f z ≤ level) 0 1048320 y5 b none) (k1 : st ≤ y5) (k2 : y5 < st + long) (k3 : 0 ≤ y5) (k4 : b ≤ 1048320) : RoomIs f a b long level none := by
  intro s' i1 i2 hr
  by_cases c : s' < st
  · exact h s' i1 c hr
  · by_cases d : s' ≤ y5
    · have := hr y5 d (by omega); omega
    · have e := hr s' (by omega) (by omega)
      exact g s' (by omega) (by omega) (by omega) (by omega) e
theorem next_of {f : Int → Int} {level a b st y5 y6 long : Int} (h : ∀ s', a ≤ s' → s' < st → ¬ roomAt f long level s') (h5 : level < f y5) (g : Lev.FirstIs (fun z => f z ≤ level) 0 1048320 y5 b (some y6)) (k9 : 0 ≤ a) (k0 : a ≤ st) (k1 : st ≤ y5) (k2 : y5 < st + long) : a ≤ y6 ∧ y6 ≤ 1048320 ∧ ∀ s', a ≤ s' → s' < y6 → ¬ roomAt f long level s' := by
  obtain ⟨g1, g2, g3, g4, g5, g6⟩ := g
  refine ⟨by omega, by omega, fun s' i1 i2 hr => ?_⟩
  by_cases c : s' < st
  · exact h s' i1 c hr
  · by_cases d : s' ≤ y5
    · have := hr y5 d (by omega); omega
    · have e := hr s' (by omega) (by omega)
      exact g6 s' (by omega) i2 (by omega) e
theorem next_lt {f : Int → Int} {level b y5 y6 : Int} (h5 : level < f y5) (g : Lev.FirstIs (fun z => f z ≤ level) 0 1048320 y5 b (some y6)) : y5 < y6 ∧ y6 < 1048320 := by
  obtain ⟨g1, g2, g3, g4, g5, g6⟩ := g
  have g5 : f y6 ≤ level := g5
  by_cases e : y5 = y6
  · subst e; omega
  · omega

set_option maxRecDepth 100000 in
set_option maxHeartbeats 4000000 in
theorem Room_any (t : Lev.T) (tb o : Nat) (u : Option Addr) (F : List Nat) (a b long level : Int) (w : World) (c : w.cell? ⟨tb, o, none⟩ = some (.pointer u)) (h : LRep w t (.pointer u) F) (hB : LB t) (hg : Lev.Good t 0 1048320) (h0 : 0 ≤ a) (h1 : a < b) (h2 : b ≤ 1048320) (h3 : 1 ≤ long) (h4 : long ≤ 1048320) :
    Calls Tryz.prog 151 #[.pointer (some ⟨tb, o, none⟩), .agg #[.int .i64 a, .int .i64 b], .int .i64 long, .int .i64 level] w fun e w' => ∃ r : Option Int, e = .returned (fmV r) ∧ RoomIs (Lev.lev t 0 1048320) a b long level r ∧ Below w.heap.size w w' := by
  have tp := hB.top
  have C1 : Hid (∀ (w' : World) (x y : Int), Below w.heap.size w w' → w'.cell? ⟨w.heap.size + 1, 0, none⟩ = some (.int .i64 level) → x < y → Calls Tryz.prog 209 #[.pointer u, .agg #[.int .i64 0, .int .i64 1048320], .agg #[.int .i64 x, .int .i64 y], .int .i64 0, .func (.func 205) #[] #[.pointer (some ⟨w.heap.size + 1, 0, none⟩)]] w' fun e w'' => e = .returned (fmV (Lev.fm true level t 0 1048320 x y 0)) ∧ Below w'.heap.size w' w'') := by
    intro w' x y k1 k2 k3
    exact first_T t u F 0 1048320 x y 0 level _ w' (h.later k1) hB hg k2 (by omega) (by omega) (by omega) (by omega) (by omega) k3
  have C2 : Hid (∀ (w' : World) (x y : Int), Below w.heap.size w w' → w'.cell? ⟨w.heap.size + 1, 0, none⟩ = some (.int .i64 level) → x < y → Calls Tryz.prog 209 #[.pointer u, .agg #[.int .i64 0, .int .i64 1048320], .agg #[.int .i64 x, .int .i64 y], .int .i64 0, .func (.func 207) #[] #[.pointer (some ⟨w.heap.size + 1, 0, none⟩)]] w' fun e w'' => e = .returned (fmV (Lev.fm false level t 0 1048320 x y 0)) ∧ Below w'.heap.size w' w'') := by
    intro w' x y k1 k2 k3
    exact first_F t u F 0 1048320 x y 0 level _ w' (h.later k1) hB hg k2 (by omega) (by omega) (by omega) (by omega) (by omega) k3
  have D1 : Hid (∀ x y, x < y → Lev.FirstIs (fun z => level < Lev.lev t 0 1048320 z) 0 1048320 x y (Lev.fm true level t 0 1048320 x y 0)) := by
    intro x y k3
    have := Lev.fm_is true level t 0 1048320 x y 0 (by omega) k3 hg
    simpa only [Lev.want, if_true, Int.zero_add] using this
  have D2 : Hid (∀ x y, x < y → Lev.FirstIs (fun z => Lev.lev t 0 1048320 z ≤ level) 0 1048320 x y (Lev.fm false level t 0 1048320 x y 0)) := by
    intro x y k3
    have := Lev.fm_is false level t 0 1048320 x y 0 (by omega) k3 hg
    simpa only [Lev.want, Bool.false_eq_true, if_false, Int.zero_add] using this
  clear h hB hg tp
  go_enter Tryz.func151, Tryz.ntmps151
  go_wp2_with fail
  have hX : Below w.heap.size w ((w.alloc (.cells #[.int .i64 a, .int .i64 b] 60)).alloc (.cells #[.int .i64 level] 3)) := ((Below.refl _ _).alloc (Nat.le_refl _) _).alloc (by simp) _
  have x1 : ((w.alloc (.cells #[.int .i64 a, .int .i64 b] 60)).alloc (.cells #[.int .i64 level] 3)).cell? ⟨w.heap.size, 1, none⟩ = some (.int .i64 b) := by simp
  have x2 : ((w.alloc (.cells #[.int .i64 a, .int .i64 b] 60)).alloc (.cells #[.int .i64 level] 3)).cell? ⟨w.heap.size + 1, 0, none⟩ = some (.int .i64 level) := by simp
  have xc := cellLater hX c
  have HX := hidp hX
  clear hX c
  generalize (World.alloc _ (.cells #[.int .i64 level] 3)) = X at x1 x2 xc HX ⊢
  go_loopw [12, 13, 14] (fun s _ _ wx => ∃ st : Int, s = .int .i64 st ∧ a ≤ st ∧ st ≤ 1048320 ∧ (∀ s', a ≤ s' → s' < st → ¬ roomAt (Lev.lev t 0 1048320) long level s') ∧ Below X.heap.size X wx) (fun s _ _ _ => (1048321 - intOf s).toNat)
  case atStart => exact ⟨a, rfl, by omega, by omega, fun s' _ _ => by omega, Below.refl _ _⟩
  case round =>
    obtain ⟨st, rfl, hs1, hs2, hs3, hw⟩ := hrel
    have HS := hidp hs3
    have y1 := cellLater hw x1
    have y2 := cellLater hw x2
    have yc := cellLater hw xc
    clear hs3
    by_cases hlt : st + long ≤ b
    · have hwr : IntKind.i64.wrap (st + long) = st + long := wrap_small (by omega) (by omega)
      have G1 := hidp (D1.out st (st + long) (by omega))
      have P1 := hidp (fun w' k1 k2 => C1.out w' st (st + long) k1 k2 (by omega))
      cases e1 : Lev.fm true level t 0 1048320 st (st + long) 0 with
      | none =>
        rw [e1] at G1
        simp only [e1, fmV] at P1
        clear e1
        go_upto_region 5 with fail
        go_region_held3 (fun w' => w'.cell? ⟨tb, o, none⟩ = some (.pointer u) ∧ w'.cell? ⟨w.heap.size, 1, none⟩ = some (.int .i64 b) ∧ w'.cell? ⟨w.heap.size + 1, 0, none⟩ = some (.int .i64 level) ∧ Below X.heap.size X w')
          (first
            | exact ⟨yc, y1, y2, blwMore hw (blwDrew _) (Nat.le_refl _)⟩
            | (go_split_ands; exact ⟨cellLater hbf (by assumption), cellLater hbf (by assumption), cellLater hbf (by assumption), blwMore (by assumption) hbf (Nat.le_refl _)⟩))
          (first
            | (go_at_call 204; go_split_ands; refine (minutes_any _).mono ?_; rintro e w4 ⟨rfl, hbf⟩)
            | (go_at_call 209; go_split_ands; refine (P1.out _ (blwMore HX.out (by assumption) (Nat.le_refl _)) (by assumption)).mono ?_; rintro e w5 ⟨rfl, hbf⟩))
        have HF := hidp (blwMore HX.out (by go_split_ands; assumption : Below X.heap.size X w5) (Nat.le_refl _))
        clear P1 C1 C2 D2 D1 HX
        go_wp2_with fail
        go_ret2
        exact ⟨some st, rfl, ⟨hs1, hlt, room_of G1.out (by omega) (by omega), HS.out⟩, HF.out⟩
      | some y5 =>
        rw [e1] at G1
        simp only [e1, fmV] at P1
        clear e1
        obtain ⟨_, g2, g3, g4, g5, g6⟩ := G1.out
        have g5' : level < Lev.lev t 0 1048320 y5 := g5
        have HG5 := hidp g5'
        clear g5 g5' g6 G1
        have G2 := hidp (D2.out y5 b (by omega))
        have P2 := hidp (fun w' k1 k2 => C2.out w' y5 b k1 k2 (by omega))
        go_upto_region 5 with fail
        go_region_held3 (fun w' => w'.cell? ⟨tb, o, none⟩ = some (.pointer u) ∧ w'.cell? ⟨w.heap.size, 1, none⟩ = some (.int .i64 b) ∧ w'.cell? ⟨w.heap.size + 1, 0, none⟩ = some (.int .i64 level) ∧ Below X.heap.size X w')
          (first
            | exact ⟨yc, y1, y2, blwMore hw (blwDrew _) (Nat.le_refl _)⟩
            | (go_split_ands; exact ⟨cellLater hbf (by assumption), cellLater hbf (by assumption), cellLater hbf (by assumption), blwMore (by assumption) hbf (Nat.le_refl _)⟩))
          (first
            | (go_at_call 204; go_split_ands; refine (minutes_any _).mono ?_; rintro e w4 ⟨rfl, hbf⟩)
            | (go_at_call 209; go_split_ands; refine (P1.out _ (blwMore HX.out (by assumption) (Nat.le_refl _)) (by assumption)).mono ?_; rintro e w5 ⟨rfl, hbf⟩))
        have hz : Below X.heap.size X w5 := by go_split_ands; assumption
        have z1 := cellLater hz x1
        have z2 := cellLater hz x2
        have zc := cellLater hz xc
        clear P1
        go_upto_region 8 with fail
        cases e2 : Lev.fm false level t 0 1048320 y5 b 0 with
        | none =>
          rw [e2] at G2
          simp only [e2, fmV] at P2
          clear e2
          go_region_held3 (fun w' => w'.cell? ⟨tb, o, none⟩ = some (.pointer u) ∧ w'.cell? ⟨w.heap.size, 1, none⟩ = some (.int .i64 b) ∧ w'.cell? ⟨w.heap.size + 1, 0, none⟩ = some (.int .i64 level) ∧ Below X.heap.size X w')
          (first
            | exact ⟨zc, z1, z2, blwMore hz (blwDrew _) (Nat.le_refl _)⟩
            | (go_split_ands; exact ⟨cellLater hbf (by assumption), cellLater hbf (by assumption), cellLater hbf (by assumption), blwMore (by assumption) hbf (Nat.le_refl _)⟩))
          (first
            | (go_at_call 204; go_split_ands; refine (minutes_any _).mono ?_; rintro e w4 ⟨rfl, hbf⟩)
            | (go_at_call 209; go_split_ands; refine (P2.out _ (blwMore HX.out (by assumption) (Nat.le_refl _)) (by assumption)).mono ?_; rintro e w6 ⟨rfl, hbf⟩))
          have HF := hidp (blwMore HX.out (by go_split_ands; assumption : Below X.heap.size X w6) (Nat.le_refl _))
          clear P2 C1 C2 D2 D1 HX
          go_wp2_with fail
          go_ret2
          exact ⟨none, rfl, noneOf HS.out HG5.out G2.out g3 (by omega) (by omega) (by omega), HF.out⟩
        | some y6 =>
          rw [e2] at G2
          simp only [e2, fmV] at P2
          clear e2
          go_region_held3 (fun w' => w'.cell? ⟨tb, o, none⟩ = some (.pointer u) ∧ w'.cell? ⟨w.heap.size, 1, none⟩ = some (.int .i64 b) ∧ w'.cell? ⟨w.heap.size + 1, 0, none⟩ = some (.int .i64 level) ∧ Below X.heap.size X w')
          (first
            | exact ⟨zc, z1, z2, blwMore hz (blwDrew _) (Nat.le_refl _)⟩
            | (go_split_ands; exact ⟨cellLater hbf (by assumption), cellLater hbf (by assumption), cellLater hbf (by assumption), blwMore (by assumption) hbf (Nat.le_refl _)⟩))
          (first
            | (go_at_call 204; go_split_ands; refine (minutes_any _).mono ?_; rintro e w4 ⟨rfl, hbf⟩)
            | (go_at_call 209; go_split_ands; refine (P2.out _ (blwMore HX.out (by assumption) (Nat.le_refl _)) (by assumption)).mono ?_; rintro e w6 ⟨rfl, hbf⟩))
          have hv : Below X.heap.size X w6 := by go_split_ands; assumption
          have HV := hidp hv
          clear P2 C1 C2 D2 D1 HX hv
          go_wp2_with fail
          go_roundw
          case rel => have nx := next_of HS.out HG5.out G2.out h0 hs1 g3 (by omega); exact ⟨y6, rfl, nx.1, nx.2.1, nx.2.2, HV.out⟩
          case measure => simp [intOf]; have := next_lt HG5.out G2.out; omega
    · go_wp2_with fail
      go_ret2
      exact ⟨none, rfl, fun s' k1 k2 => HS.out s' k1 (by omega), blwMore HX.out hw (Nat.le_refl _)⟩

end Go.Proofs.YtjfkfiffakbagaaGreatDoor


/-
  A balanced tree of spans, as mathematics: what is put, dropped and gone through, in its order.
-/
namespace Go.Proofs.YtjfkfiffakbagaaGreatDoor
namespace Avl

/-- What is kept: from, to, the number, and where the value lies. -/
structure It where
  f : Int
  t : Int
  n : Int
  v : Nat

inductive S where
  | nil : S
  | node (x : It) (l r : S) : S

def isNil : S → Bool
  | .nil => true
  | .node .. => false
def left : S → S
  | .nil => .nil
  | .node _ l _ => l
def right : S → S
  | .nil => .nil
  | .node _ _ r => r
def ht : S → Int
  | .nil => 0
  | .node _ l r => 1 + max (ht l) (ht r)
def lateOf (x : Int) (l r : S) (dl dr : Int) : Int :=
  let m := if isNil l then x else max x dl
  if isNil r then m else max m dr
def late : S → Int
  | .nil => 0
  | .node x l r => lateOf x.t l r (late l) (late r)
def size : S → Nat
  | .nil => 0
  | .node _ l r => 1 + size l + size r
def inord : S → List It
  | .nil => []
  | .node x l r => inord l ++ x :: inord r

def side (f n : Int) (x : It) : Int := if f < x.f then -1 else if x.f < f then 1 else if n < x.n then -1 else if x.n < n then 1 else 0

def rotR : S → S
  | .node x (.node y a b) r => .node y a (.node x b r)
  | t => t
def rotL : S → S
  | .node x l (.node y a b) => .node y (.node x l a) b
  | t => t
def balL (x : It) (l r : S) : S := rotR (.node x (if ht (left l) < ht (right l) then rotL l else l) r)
def balR (x : It) (l r : S) : S := rotL (.node x l (if ht (right r) < ht (left r) then rotR r else r))
def bal (x : It) (l r : S) : S := if 1 < ht l - ht r then balL x l r else if ht l - ht r < -1 then balR x l r else .node x l r

def put (x : It) : S → S
  | .nil => bal x .nil .nil
  | .node y l r => if side x.f x.n y < 0 then bal y (put x l) r else if 0 < side x.f x.n y then bal y l (put x r) else bal { y with t := x.t, v := x.v } l r
def takeF : It → S → S → It
  | x, .nil, _ => x
  | _, .node y a b, _ => takeF y a b
def takeR : It → S → S → S
  | _, .nil, r => r
  | x, .node y a b, r => bal x (takeR y a b) r
def joined (l : S) : S → S
  | .nil => l
  | .node y a b => bal (takeF y a b) l (takeR y a b)
def drop (f n : Int) : S → S
  | .nil => .nil
  | .node y l r => if side f n y < 0 then bal y (drop f n l) r else if 0 < side f n y then bal y l (drop f n r) else joined l r

theorem ht_nonneg : ∀ t : S, 0 ≤ ht t
  | .nil => by simp [ht]
  | .node _ l r => by have := ht_nonneg l; have := ht_nonneg r; simp only [ht]; omega
theorem ht_size : ∀ t : S, ht t ≤ size t
  | .nil => by simp [ht, size]
  | .node _ l r => by have := ht_size l; have := ht_size r; simp only [ht, size]; omega
theorem isNil_eq {t : S} (h : isNil t = true) : t = .nil := by cases t <;> simp_all [isNil]
theorem node_of_ht {t : S} (h : 0 < ht t) : ∃ x l r, t = .node x l r := by
  cases t with
  | nil => simp [ht] at h
  | node x l r => exact ⟨x, l, r, rfl⟩

theorem inord_rotR (t : S) : inord (rotR t) = inord t := by
  cases t with
  | nil => rfl
  | node x l r => cases l <;> simp [rotR, inord]
theorem inord_rotL (t : S) : inord (rotL t) = inord t := by
  cases t with
  | nil => rfl
  | node x l r => cases r <;> simp [rotL, inord]
theorem inord_bal (x : It) (l r : S) : inord (bal x l r) = inord l ++ x :: inord r := by
  unfold bal
  split
  · unfold balL; rw [inord_rotR]; split <;> simp [inord, inord_rotL]
  · split
    · unfold balR; rw [inord_rotL]; split <;> simp [inord, inord_rotR]
    · rfl
theorem size_inord : ∀ t : S, (inord t).length = size t
  | .nil => rfl
  | .node x l r => by have := size_inord l; have := size_inord r; simp only [inord, size, List.length_append, List.length_cons]; omega
theorem inord_take : ∀ (x : It) (l r : S), takeF x l r :: inord (takeR x l r) = inord l ++ x :: inord r
  | x, .nil, r => by simp [takeF, takeR, inord]
  | x, .node y a b, r => by
    have := inord_take y a b
    simp only [takeF, takeR, inord_bal, inord]
    rw [← List.cons_append, this]
theorem inord_joined (l r : S) : inord (joined l r) = inord l ++ inord r := by
  cases r with
  | nil => simp [joined, inord]
  | node y a b => simp only [joined, inord_bal]; rw [inord_take]; rfl

/-- What stands ahead of what. -/
def lt (x y : It) : Prop := x.f < y.f ∨ (x.f = y.f ∧ x.n < y.n)
theorem side_neg {f n : Int} {x : It} : side f n x < 0 ↔ f < x.f ∨ (f = x.f ∧ n < x.n) := by
  unfold side; repeat' split
  all_goals omega
theorem side_pos {f n : Int} {x : It} : 0 < side f n x ↔ x.f < f ∨ (f = x.f ∧ x.n < n) := by
  unfold side; repeat' split
  all_goals omega
def ins (x : It) : List It → List It
  | [] => [x]
  | y :: r => if side x.f x.n y < 0 then x :: y :: r else y :: ins x r
theorem ins_ahead {x y : It} (h : side x.f x.n y < 0) (R : List It) : ∀ L : List It, ins x (L ++ y :: R) = ins x L ++ y :: R
  | [] => by simp [ins, h]
  | z :: L => by
    simp only [List.cons_append, ins]
    split
    · simp
    · rw [ins_ahead h R L]; simp
theorem ins_behind {x : It} (R : List It) : ∀ L : List It, (∀ z ∈ L, ¬ side x.f x.n z < 0) → ins x (L ++ R) = L ++ ins x R
  | [], _ => rfl
  | z :: L, h => by
    simp only [List.cons_append, ins]
    rw [if_neg (h z (by simp)), ins_behind R L (fun y hy => h y (by simp [hy]))]

def Ord (l : List It) : Prop := l.Pairwise lt
theorem ord_node {x : It} {l r : S} (h : Ord (inord (.node x l r))) : Ord (inord l) ∧ Ord (inord r) ∧ (∀ z ∈ inord l, lt z x) ∧ (∀ z ∈ inord r, lt x z) := by
  simp only [inord, Ord, List.pairwise_append, List.pairwise_cons] at h
  exact ⟨h.1, h.2.1.2, fun z hz => h.2.2 z hz x (by simp), h.2.1.1⟩

theorem inord_put (x : It) : ∀ t : S, Ord (inord t) → (∀ z ∈ inord t, ¬ (z.f = x.f ∧ z.n = x.n)) → inord (put x t) = ins x (inord t)
  | .nil, _, _ => by simp [put, inord_bal, inord, ins]
  | .node y l r, h, hn => by
    obtain ⟨h1, h2, h3, h4⟩ := ord_node h
    have hy := hn y (by simp [inord])
    unfold put
    by_cases a : side x.f x.n y < 0
    · rw [if_pos a, inord_bal, inord_put x l h1 (fun z hz => hn z (by simp [inord, hz]))]
      simp only [inord]; rw [ins_ahead a]
    · by_cases b : 0 < side x.f x.n y
      · rw [if_neg a, if_pos b, inord_bal, inord_put x r h2 (fun z hz => hn z (by simp [inord, hz]))]
        simp only [inord]
        rw [ins_behind _ _ (fun z hz => ?_)]
        · simp [ins, a]
        · have := h3 z hz
          rw [side_neg]; rw [side_pos] at b; unfold lt at this; omega
      · rw [side_neg] at a; rw [side_pos] at b; omega

theorem filter_self {p : It → Bool} {l : List It} (h : ∀ z ∈ l, p z = true) : l.filter p = l := List.filter_eq_self.2 h
def isNot (f n : Int) (z : It) : Bool := !(decide (z.f = f) && decide (z.n = n))
theorem isNot_of_lt {f n : Int} {z y : It} (h : side f n y < 0) (k : z = y ∨ lt y z) : isNot f n z = true := by
  rw [side_neg] at h
  simp [isNot]
  rcases k with rfl | k
  · omega
  · unfold lt at k; omega
theorem isNot_of_gt {f n : Int} {z y : It} (h : 0 < side f n y) (k : z = y ∨ lt z y) : isNot f n z = true := by
  rw [side_pos] at h
  simp [isNot]
  rcases k with rfl | k
  · omega
  · unfold lt at k; omega

theorem inord_drop (f n : Int) : ∀ t : S, Ord (inord t) → inord (drop f n t) = (inord t).filter (isNot f n)
  | .nil, _ => rfl
  | .node y l r, h => by
    obtain ⟨h1, h2, h3, h4⟩ := ord_node h
    unfold drop
    by_cases a : side f n y < 0
    · rw [if_pos a, inord_bal, inord_drop f n l h1]
      simp only [inord, List.filter_append, List.filter_cons, isNot_of_lt a (.inl rfl), if_true]
      rw [filter_self (l := inord r) (fun z hz => isNot_of_lt a (.inr (h4 z hz)))]
    · by_cases b : 0 < side f n y
      · rw [if_neg a, if_pos b, inord_bal, inord_drop f n r h2]
        simp only [inord, List.filter_append, List.filter_cons, isNot_of_gt b (.inl rfl), if_true]
        rw [filter_self (l := inord l) (fun z hz => isNot_of_gt b (.inr (h3 z hz)))]
      · rw [if_neg a, if_neg b, inord_joined]
        have e : f = y.f ∧ n = y.n := by rw [side_neg] at a; rw [side_pos] at b; omega
        have hy : isNot f n y = false := by simp [isNot, e.1, e.2]
        simp only [inord, List.filter_append, List.filter_cons, hy]
        rw [filter_self (l := inord l) (fun z hz => ?_), filter_self (l := inord r) (fun z hz => ?_)]
        · simp
        · have := h4 z hz; simp [isNot]; unfold lt at this; omega
        · have := h3 z hz; simp [isNot]; unfold lt at this; omega

theorem mem_ins {x z : It} : ∀ {l : List It}, z ∈ ins x l ↔ z = x ∨ z ∈ l
  | [] => by simp [ins]
  | y :: r => by
    simp only [ins]; split
    · simp
    · simp [mem_ins (l := r)]
      constructor
      · rintro (h | h | h)
        · exact .inr (.inl h)
        · exact .inl h
        · exact .inr (.inr h)
      · rintro (h | h | h)
        · exact .inr (.inl h)
        · exact .inl h
        · exact .inr (.inr h)
theorem length_ins (x : It) : ∀ l : List It, (ins x l).length = l.length + 1
  | [] => rfl
  | y :: r => by
    simp only [ins]; split
    · simp
    · simp [length_ins x r]
theorem ord_ins {x : It} : ∀ {l : List It}, Ord l → (∀ z ∈ l, ¬ (z.f = x.f ∧ z.n = x.n)) → Ord (ins x l)
  | [], _, _ => by simp [ins, Ord]
  | y :: r, h, hn => by
    simp only [Ord, List.pairwise_cons] at h
    have hy := hn y (by simp)
    simp only [ins]; split
    · rename_i a
      rw [side_neg] at a
      refine List.pairwise_cons.2 ⟨fun z hz => ?_, List.pairwise_cons.2 h⟩
      rcases List.mem_cons.1 hz with rfl | hz
      · unfold lt; omega
      · have := h.1 z hz; unfold lt at *; omega
    · rename_i a
      refine List.pairwise_cons.2 ⟨fun z hz => ?_, ord_ins h.2 (fun z hz => hn z (by simp [hz]))⟩
      rcases mem_ins.1 hz with rfl | hz
      · rw [side_neg] at a; unfold lt; omega
      · exact h.1 z hz
theorem ord_filter {l : List It} (p : It → Bool) (h : Ord l) : Ord (l.filter p) := List.Pairwise.filter p h

/-- Those whose spans meet one. -/
def meets (a b : Int) (x : It) : Bool := decide (x.f < b) && decide (a < x.t)
def meet (a b : Int) : S → List It
  | .nil => []
  | .node x l r => if late (.node x l r) ≤ a then [] else meet a b l ++ if b ≤ x.f then [] else (if a < x.t then [x] else []) ++ meet a b r
theorem late_is : ∀ (t : S), ∀ z ∈ inord t, z.t ≤ late t
  | .nil => by simp [inord]
  | .node x l r => by
    have h1 := late_is l
    have h2 := late_is r
    intro z hz
    simp only [late, lateOf]
    simp only [inord, List.mem_append, List.mem_cons] at hz
    rcases hz with hz | rfl | hz
    · have := h1 z hz
      have e : isNil l = false := by cases l <;> simp_all [isNil, inord]
      simp only [e, Bool.false_eq_true, if_false]; split <;> omega
    · split <;> split <;> omega
    · have := h2 z hz
      have e : isNil r = false := by cases r <;> simp_all [isNil, inord]
      simp only [e, Bool.false_eq_true, if_false]; split <;> omega
theorem meet_is (a b : Int) : ∀ t : S, Ord (inord t) → meet a b t = (inord t).filter (meets a b)
  | .nil, _ => rfl
  | .node x l r, h => by
    obtain ⟨h1, h2, h3, h4⟩ := ord_node h
    have hl := late_is (.node x l r)
    unfold meet
    split
    · rename_i hc
      symm; rw [List.filter_eq_nil_iff]
      intro z hz
      have := hl z hz
      simp [meets]; omega
    · rw [meet_is a b l h1]
      simp only [inord, List.filter_append]
      congr 1
      split
      · rename_i hb
        symm; rw [List.filter_eq_nil_iff]
        intro z hz
        rcases List.mem_cons.1 hz with rfl | hz
        · simp [meets]; omega
        · have := h4 z hz; unfold lt at this; simp [meets]; omega
      · rename_i hb
        rw [meet_is a b r h2, List.filter_cons]
        have hb' : x.f < b := by omega
        simp only [meets, hb', decide_true, Bool.true_and, decide_eq_true_eq]
        split <;> rfl

end Avl
end Go.Proofs.YtjfkfiffakbagaaGreatDoor


/-
  The tree of spans as it lies in memory.
-/
namespace Go.Proofs.YtjfkfiffakbagaaGreatDoor
open Go.RowKit

/-- A node with what it keeps; its measures and sides are whatever they are. -/
structure SNode (w : World) (b : Nat) (x : Avl.It) : Prop where
  c0 : w.cell? ⟨b, 0, none⟩ = some (.int .i64 x.f)
  c1 : w.cell? ⟨b, 1, none⟩ = some (.int .i64 x.t)
  c2 : w.cell? ⟨b, 2, none⟩ = some (.int .i64 x.n)
  c3 : w.cell? ⟨b, 3, none⟩ = some (.pointer (some ⟨x.v, 0, none⟩))
  c4 : ∃ y, w.cell? ⟨b, 4, none⟩ = some (.int .i64 y)
  c5 : ∃ y, w.cell? ⟨b, 5, none⟩ = some (.int .i64 y)
  c6 : ∃ y, w.cell? ⟨b, 6, none⟩ = some (.pointer y)
  c7 : ∃ y, w.cell? ⟨b, 7, none⟩ = some (.pointer y)
  fz : ∀ o, w.frozen? ⟨b, o, none⟩ = false

/-- The tree t lies in w, p its root, F the blocks that it takes. -/
def SRep (w : World) : Avl.S → Value → List Nat → Prop
  | .nil, p, F => p = .pointer none ∧ F = []
  | .node x l r, p, F => ∃ (b : Nat) (pl pr : Option Addr) (Fl Fr : List Nat), p = .pointer (some ⟨b, 0, none⟩) ∧ SNode w b x ∧ w.cell? ⟨b, 4, none⟩ = some (.int .i64 (Avl.late (.node x l r))) ∧ w.cell? ⟨b, 5, none⟩ = some (.int .i64 (Avl.ht (.node x l r))) ∧ w.cell? ⟨b, 6, none⟩ = some (.pointer pl) ∧ w.cell? ⟨b, 7, none⟩ = some (.pointer pr) ∧ SRep w l (.pointer pl) Fl ∧ SRep w r (.pointer pr) Fr ∧ F = b :: (Fl ++ Fr) ∧ F.Nodup

/-- A node whose measures are not taken yet, with its two sides. -/
structure SHalf (w : World) (b : Nat) (x : Avl.It) (l r : Avl.S) (pl pr : Option Addr) (Fl Fr : List Nat) : Prop where
  n : SNode w b x
  c6 : w.cell? ⟨b, 6, none⟩ = some (.pointer pl)
  c7 : w.cell? ⟨b, 7, none⟩ = some (.pointer pr)
  l : SRep w l (.pointer pl) Fl
  r : SRep w r (.pointer pr) Fr
  nd : (b :: (Fl ++ Fr)).Nodup

theorem SNode.lt {w : World} {b : Nat} {x : Avl.It} (h : SNode w b x) : b < w.heap.size := World.block_lt_of_cell? _ _ h.c0
theorem SNode.off {w w' : World} {b : Nat} {x : Avl.It} {G : List Nat} (h : SNode w b x) (k : Off G w w') (hb : b ∉ G) : SNode w' b x :=
  ⟨k.cell hb h.c0, k.cell hb h.c1, k.cell hb h.c2, k.cell hb h.c3, h.c4.imp (fun _ => k.cell hb), h.c5.imp (fun _ => k.cell hb), h.c6.imp (fun _ => k.cell hb), h.c7.imp (fun _ => k.cell hb), fun o => (k.frozen hb h.lt).trans (h.fz o)⟩
theorem SNode.set4 {w : World} {b : Nat} {x : Avl.It} (h : SNode w b x) (y : Int) : SNode (w.setCell ⟨b, 4, none⟩ (.int .i64 y)) b x := by
  obtain ⟨_, e⟩ := h.c4
  exact ⟨(World.cell?_setCell_other _ _ _ _ (by simp)).trans h.c0, (World.cell?_setCell_other _ _ _ _ (by simp)).trans h.c1, (World.cell?_setCell_other _ _ _ _ (by simp)).trans h.c2, (World.cell?_setCell_other _ _ _ _ (by simp)).trans h.c3, ⟨_, World.cell?_setCell_same _ _ _ e⟩, h.c5.imp (fun _ e => (World.cell?_setCell_other _ _ _ _ (by simp)).trans e), h.c6.imp (fun _ e => (World.cell?_setCell_other _ _ _ _ (by simp)).trans e), h.c7.imp (fun _ e => (World.cell?_setCell_other _ _ _ _ (by simp)).trans e), fun o => (World.frozen?_setCell ..).trans (h.fz o)⟩
theorem SNode.set5 {w : World} {b : Nat} {x : Avl.It} (h : SNode w b x) (y : Int) : SNode (w.setCell ⟨b, 5, none⟩ (.int .i64 y)) b x := by
  obtain ⟨_, e⟩ := h.c5
  exact ⟨(World.cell?_setCell_other _ _ _ _ (by simp)).trans h.c0, (World.cell?_setCell_other _ _ _ _ (by simp)).trans h.c1, (World.cell?_setCell_other _ _ _ _ (by simp)).trans h.c2, (World.cell?_setCell_other _ _ _ _ (by simp)).trans h.c3, h.c4.imp (fun _ e => (World.cell?_setCell_other _ _ _ _ (by simp)).trans e), ⟨_, World.cell?_setCell_same _ _ _ e⟩, h.c6.imp (fun _ e => (World.cell?_setCell_other _ _ _ _ (by simp)).trans e), h.c7.imp (fun _ e => (World.cell?_setCell_other _ _ _ _ (by simp)).trans e), fun o => (World.frozen?_setCell ..).trans (h.fz o)⟩
theorem SNode.set6 {w : World} {b : Nat} {x : Avl.It} (h : SNode w b x) (y : Option Addr) : SNode (w.setCell ⟨b, 6, none⟩ (.pointer y)) b x := by
  obtain ⟨_, e⟩ := h.c6
  exact ⟨(World.cell?_setCell_other _ _ _ _ (by simp)).trans h.c0, (World.cell?_setCell_other _ _ _ _ (by simp)).trans h.c1, (World.cell?_setCell_other _ _ _ _ (by simp)).trans h.c2, (World.cell?_setCell_other _ _ _ _ (by simp)).trans h.c3, h.c4.imp (fun _ e => (World.cell?_setCell_other _ _ _ _ (by simp)).trans e), h.c5.imp (fun _ e => (World.cell?_setCell_other _ _ _ _ (by simp)).trans e), ⟨_, World.cell?_setCell_same _ _ _ e⟩, h.c7.imp (fun _ e => (World.cell?_setCell_other _ _ _ _ (by simp)).trans e), fun o => (World.frozen?_setCell ..).trans (h.fz o)⟩
theorem SNode.set7 {w : World} {b : Nat} {x : Avl.It} (h : SNode w b x) (y : Option Addr) : SNode (w.setCell ⟨b, 7, none⟩ (.pointer y)) b x := by
  obtain ⟨_, e⟩ := h.c7
  exact ⟨(World.cell?_setCell_other _ _ _ _ (by simp)).trans h.c0, (World.cell?_setCell_other _ _ _ _ (by simp)).trans h.c1, (World.cell?_setCell_other _ _ _ _ (by simp)).trans h.c2, (World.cell?_setCell_other _ _ _ _ (by simp)).trans h.c3, h.c4.imp (fun _ e => (World.cell?_setCell_other _ _ _ _ (by simp)).trans e), h.c5.imp (fun _ e => (World.cell?_setCell_other _ _ _ _ (by simp)).trans e), h.c6.imp (fun _ e => (World.cell?_setCell_other _ _ _ _ (by simp)).trans e), ⟨_, World.cell?_setCell_same _ _ _ e⟩, fun o => (World.frozen?_setCell ..).trans (h.fz o)⟩

theorem SRep.lt {w : World} : ∀ {t : Avl.S} {p : Value} {F : List Nat}, SRep w t p F → ∀ k ∈ F, k < w.heap.size
  | .nil, p, F, h, k, hk => by rw [h.2] at hk; cases hk
  | .node a l r, p, F, h, k, hk => by
    obtain ⟨b, pl, pr, Fl, Fr, rfl, n, c4, c5, c6, c7, hl, hr, rfl, nd⟩ := h
    rcases List.mem_cons.1 hk with rfl | hk
    · exact n.lt
    · rcases List.mem_append.1 hk with hk | hk
      · exact SRep.lt hl k hk
      · exact SRep.lt hr k hk
theorem SRep.ptr {w : World} {t : Avl.S} {p : Value} {F : List Nat} (h : SRep w t p F) : ∃ u, p = .pointer u := by
  cases t with
  | nil => exact ⟨_, h.1⟩
  | node a l r => obtain ⟨b, _, _, _, _, rfl, _⟩ := h; exact ⟨_, rfl⟩
theorem SRep.off {G : List Nat} {w w' : World} (h : Off G w w') : ∀ {t : Avl.S} {p : Value} {F : List Nat}, SRep w t p F → (∀ k ∈ F, k ∉ G) → SRep w' t p F
  | .nil, p, F, hr, _ => hr
  | .node a l r, p, F, hr, hd => by
    obtain ⟨b, pl, pr, Fl, Fr, rfl, n, c4, c5, c6, c7, hl, hr, rfl, nd⟩ := hr
    have hb : b ∉ G := hd b (by simp)
    exact ⟨b, pl, pr, Fl, Fr, rfl, n.off h hb, h.cell hb c4, h.cell hb c5, h.cell hb c6, h.cell hb c7, SRep.off h hl (fun k hk => hd k (by simp [hk])), SRep.off h hr (fun k hk => hd k (by simp [hk])), rfl, nd⟩
theorem SRep.same {w w' : World} {t : Avl.S} {p : Value} {F : List Nat} (h : SRep w t p F) (k : Off [] w w') : SRep w' t p F := h.off k (fun _ _ => by simp)
theorem SRep.later {w w' : World} {t : Avl.S} {p : Value} {F : List Nat} (h : SRep w t p F) (k : Below w.heap.size w w') : SRep w' t p F := h.same (Off.of_below k)
theorem SRep.nodup {w : World} {t : Avl.S} {p : Value} {F : List Nat} (h : SRep w t p F) : F.Nodup := by
  cases t with
  | nil => rw [h.2]; exact List.nodup_nil
  | node a l r => obtain ⟨b, _, _, _, _, _, _, _, _, _, _, _, _, _, nd⟩ := h; exact nd
theorem SRep.isNone {w : World} {t : Avl.S} {u : Option Addr} {F : List Nat} (h : SRep w t (.pointer u) F) : u.isNone = Avl.isNil t := by
  cases t with
  | nil => obtain ⟨h1, _⟩ := h; cases h1; rfl
  | node a l r => obtain ⟨b, pl, pr, Fl, Fr, hp, _⟩ := h; cases hp; rfl
theorem SRep.half {w : World} {x : Avl.It} {l r : Avl.S} {u : Option Addr} {F : List Nat} (h : SRep w (.node x l r) (.pointer u) F) : ∃ (b : Nat) (pl pr : Option Addr) (Fl Fr : List Nat), u = some ⟨b, 0, none⟩ ∧ F = b :: (Fl ++ Fr) ∧ SHalf w b x l r pl pr Fl Fr ∧ w.cell? ⟨b, 4, none⟩ = some (.int .i64 (Avl.late (.node x l r))) ∧ w.cell? ⟨b, 5, none⟩ = some (.int .i64 (Avl.ht (.node x l r))) := by
  obtain ⟨b, pl, pr, Fl, Fr, hp, n, c4, c5, c6, c7, hl, hr, hF, nd⟩ := h
  cases hp
  exact ⟨b, pl, pr, Fl, Fr, rfl, hF, ⟨n, c6, c7, hl, hr, hF ▸ nd⟩, c4, c5⟩
theorem SHalf.rep {w : World} {b : Nat} {x : Avl.It} {l r : Avl.S} {pl pr : Option Addr} {Fl Fr : List Nat} (h : SHalf w b x l r pl pr Fl Fr) (c4 : w.cell? ⟨b, 4, none⟩ = some (.int .i64 (Avl.late (.node x l r)))) (c5 : w.cell? ⟨b, 5, none⟩ = some (.int .i64 (Avl.ht (.node x l r)))) : SRep w (.node x l r) (.pointer (some ⟨b, 0, none⟩)) (b :: (Fl ++ Fr)) :=
  ⟨b, pl, pr, Fl, Fr, rfl, h.n, c4, c5, h.c6, h.c7, h.l, h.r, rfl, h.nd⟩
theorem SHalf.off {w w' : World} {b : Nat} {x : Avl.It} {l r : Avl.S} {pl pr : Option Addr} {Fl Fr G : List Nat} (h : SHalf w b x l r pl pr Fl Fr) (k : Off G w w') (hb : b ∉ G) (hl : ∀ y ∈ Fl, y ∉ G) (hr : ∀ y ∈ Fr, y ∉ G) : SHalf w' b x l r pl pr Fl Fr :=
  ⟨h.n.off k hb, k.cell hb h.c6, k.cell hb h.c7, h.l.off k hl, h.r.off k hr, h.nd⟩
theorem SHalf.same {w w' : World} {b : Nat} {x : Avl.It} {l r : Avl.S} {pl pr : Option Addr} {Fl Fr : List Nat} (h : SHalf w b x l r pl pr Fl Fr) (k : Off [] w w') : SHalf w' b x l r pl pr Fl Fr := h.off k (by simp) (by simp) (by simp)
theorem SHalf.parts {w : World} {b : Nat} {x : Avl.It} {l r : Avl.S} {pl pr : Option Addr} {Fl Fr : List Nat} (h : SHalf w b x l r pl pr Fl Fr) : b ∉ Fl ∧ b ∉ Fr ∧ (∀ y ∈ Fl, y ∉ [b]) ∧ (∀ y ∈ Fr, y ∉ [b]) ∧ (∀ y ∈ Fr, y ∉ Fl) ∧ (∀ y ∈ Fl, y ∉ Fr) ∧ Fl.Nodup ∧ Fr.Nodup := by
  have nd := h.nd
  rw [List.nodup_cons, List.nodup_append] at nd
  obtain ⟨n1, n2, n3, n4⟩ := nd
  exact ⟨fun e => n1 (by simp [e]), fun e => n1 (by simp [e]), fun y hy => by simp; rintro rfl; exact n1 (by simp [hy]), fun y hy => by simp; rintro rfl; exact n1 (by simp [hy]), fun y hx hy => n4 y hy y hx rfl, fun y hx hy => n4 y hx y hy rfl, n2, n3⟩
theorem SHalf.lt {w : World} {b : Nat} {x : Avl.It} {l r : Avl.S} {pl pr : Option Addr} {Fl Fr : List Nat} (h : SHalf w b x l r pl pr Fl Fr) : ∀ k ∈ b :: (Fl ++ Fr), k < w.heap.size := by
  intro k hk
  rcases List.mem_cons.1 hk with rfl | hk
  · exact h.n.lt
  · rcases List.mem_append.1 hk with hk | hk
    · exact h.l.lt k hk
    · exact h.r.lt k hk
theorem SHalf.set4 {w : World} {b : Nat} {x : Avl.It} {l r : Avl.S} {pl pr : Option Addr} {Fl Fr : List Nat} (h : SHalf w b x l r pl pr Fl Fr) (y : Int) : SHalf (w.setCell ⟨b, 4, none⟩ (.int .i64 y)) b x l r pl pr Fl Fr :=
  ⟨h.n.set4 y, (World.cell?_setCell_other _ _ _ _ (by simp)).trans h.c6, (World.cell?_setCell_other _ _ _ _ (by simp)).trans h.c7, h.l.off (Off.set0 ..) h.parts.2.2.1, h.r.off (Off.set0 ..) h.parts.2.2.2.1, h.nd⟩
theorem SHalf.set5 {w : World} {b : Nat} {x : Avl.It} {l r : Avl.S} {pl pr : Option Addr} {Fl Fr : List Nat} (h : SHalf w b x l r pl pr Fl Fr) (y : Int) : SHalf (w.setCell ⟨b, 5, none⟩ (.int .i64 y)) b x l r pl pr Fl Fr :=
  ⟨h.n.set5 y, (World.cell?_setCell_other _ _ _ _ (by simp)).trans h.c6, (World.cell?_setCell_other _ _ _ _ (by simp)).trans h.c7, h.l.off (Off.set0 ..) h.parts.2.2.1, h.r.off (Off.set0 ..) h.parts.2.2.2.1, h.nd⟩
/-- A side is set to another tree that lies there. -/
theorem SHalf.setl {w : World} {b : Nat} {x : Avl.It} {r l' : Avl.S} {pr u : Option Addr} {Fr F' : List Nat} (h : SNode w b x) (c7 : w.cell? ⟨b, 7, none⟩ = some (.pointer pr)) (hl : SRep w l' (.pointer u) F') (hr : SRep w r (.pointer pr) Fr) (nd : (b :: (F' ++ Fr)).Nodup) : SHalf (w.setCell ⟨b, 6, none⟩ (.pointer u)) b x l' r u pr F' Fr := by
  obtain ⟨_, e⟩ := h.c6
  have nd' := nd
  rw [List.nodup_cons, List.nodup_append] at nd'
  exact ⟨h.set6 u, World.cell?_setCell_same _ _ _ e, (World.cell?_setCell_other _ _ _ _ (by simp)).trans c7, hl.off (Off.set0 ..) (fun y hy => by simp; rintro rfl; exact nd'.1 (by simp [hy])), hr.off (Off.set0 ..) (fun y hy => by simp; rintro rfl; exact nd'.1 (by simp [hy])), nd⟩
theorem SHalf.setr {w : World} {b : Nat} {x : Avl.It} {l r' : Avl.S} {pl u : Option Addr} {Fl F' : List Nat} (h : SNode w b x) (c6 : w.cell? ⟨b, 6, none⟩ = some (.pointer pl)) (hl : SRep w l (.pointer pl) Fl) (hr : SRep w r' (.pointer u) F') (nd : (b :: (Fl ++ F')).Nodup) : SHalf (w.setCell ⟨b, 7, none⟩ (.pointer u)) b x l r' pl u Fl F' := by
  obtain ⟨_, e⟩ := h.c7
  have nd' := nd
  rw [List.nodup_cons, List.nodup_append] at nd'
  exact ⟨h.set7 u, (World.cell?_setCell_other _ _ _ _ (by simp)).trans c6, World.cell?_setCell_same _ _ _ e, hl.off (Off.set0 ..) (fun y hy => by simp; rintro rfl; exact nd'.1 (by simp [hy])), hr.off (Off.set0 ..) (fun y hy => by simp; rintro rfl; exact nd'.1 (by simp [hy])), nd⟩

end Go.Proofs.YtjfkfiffakbagaaGreatDoor


/-
  The small functions of package spans: tall, measure.
-/
namespace Go.Proofs.YtjfkfiffakbagaaGreatDoor
open Go.RowKit

set_option maxHeartbeats 400000 in
theorem tall_nil (w : World) :
    Calls Tryz.prog 276 #[.pointer none] w fun e w' => e = .returned (.int .i64 0) ∧ w' = w := by
  go_enter Tryz.func276, Tryz.ntmps276
  go_wp2
  go_ret
  exact ⟨rfl, rfl⟩
set_option maxHeartbeats 400000 in
theorem tall_some (b : Nat) (x : Int) (w : World) (c1 : w.cell? ⟨b, 5, none⟩ = some (.int .i64 x)) :
    Calls Tryz.prog 276 #[.pointer (some ⟨b, 0, none⟩)] w fun e w' => e = .returned (.int .i64 x) ∧ w' = w := by
  go_enter Tryz.func276, Tryz.ntmps276
  go_wp2
  go_ret
  exact ⟨rfl, rfl⟩
theorem tall_any {t : Avl.S} {u : Option Addr} {F : List Nat} (w : World) (h : SRep w t (.pointer u) F) :
    Calls Tryz.prog 276 #[.pointer u] w fun e w' => e = .returned (.int .i64 (Avl.ht t)) ∧ w' = w := by
  cases t with
  | nil => obtain ⟨h1, _⟩ := h; cases h1; exact tall_nil w
  | node a l r => obtain ⟨b, pl, pr, Fl, Fr, hp, n, c4, c5, _⟩ := h; cases hp; exact tall_some b _ w c5

theorem SHalf.drew {w : World} {b : Nat} {x : Avl.It} {l r : Avl.S} {pl pr : Option Addr} {Fl Fr : List Nat} (h : SHalf w b x l r pl pr Fl Fr) : SHalf w.drew b x l r pl pr Fl Fr := h.same (Off.refl _ _).drew

/-- The first half of measure's work: the height is set. -/
theorem shs_of {w : World} {b : Nat} {x : Avl.It} {l r : Avl.S} {pl pr : Option Addr} {Fl Fr : List Nat} (h : SHalf w b x l r pl pr Fl Fr) : w.cell? ⟨b, 6, none⟩ = some (.pointer pl) ∧ w.cell? ⟨b, 7, none⟩ = some (.pointer pr) ∧ SHalf w b x l r pl pr Fl Fr := ⟨h.c6, h.c7, h⟩

/-- Where the latest end of a side stands. -/
def lateAt (w : World) (t : Avl.S) : Option Addr → Prop
  | none => Avl.isNil t = true
  | some a => a.off = 0 ∧ a.spot = none ∧ Avl.isNil t = false ∧ w.cell? ⟨a.block, 4, none⟩ = some (.int .i64 (Avl.late t))
theorem SRep.lateAt {w : World} {t : Avl.S} {u : Option Addr} {F : List Nat} (h : SRep w t (.pointer u) F) : lateAt w t u := by
  cases t with
  | nil => obtain ⟨h1, _⟩ := h; cases h1; rfl
  | node a l r => obtain ⟨b, pl, pr, Fl, Fr, hp, n, c4, _⟩ := h; cases hp; exact ⟨rfl, rfl, rfl, c4⟩

/-- Within measure: the height is taken, the latest end so far is m. -/
structure Lately (w wx : World) (b : Nat) (x : Avl.It) (l r : Avl.S) (pl pr : Option Addr) (Fl Fr : List Nat) (hh m : Int) : Prop where
  half : SHalf wx b x l r pl pr Fl Fr
  c4 : wx.cell? ⟨b, 4, none⟩ = some (.int .i64 m)
  c5 : wx.cell? ⟨b, 5, none⟩ = some (.int .i64 hh)
  off : Off [b] w wx
theorem Lately.set4 {w wx : World} {b : Nat} {x : Avl.It} {l r : Avl.S} {pl pr : Option Addr} {Fl Fr : List Nat} {hh m : Int} (h : Lately w wx b x l r pl pr Fl Fr hh m) (m' : Int) : Lately w (wx.setCell ⟨b, 4, none⟩ (.int .i64 m')).drew b x l r pl pr Fl Fr hh m' :=
  ⟨(h.half.set4 m').drew, World.cell?_setCell_same _ _ _ h.c4, (World.cell?_setCell_other _ _ _ _ (by simp)).trans h.c5, (h.off.setCell (.inl (by simp)) _ _).drew⟩

set_option maxRecDepth 100000 in
set_option maxHeartbeats 2000000 in
theorem measure_any (w : World) (b : Nat) (x : Avl.It) (l r : Avl.S) (pl pr : Option Addr) (Fl Fr : List Nat) (h : SHalf w b x l r pl pr Fl Fr) (hl : Avl.ht l ≤ 100000) (hr : Avl.ht r ≤ 100000) :
    Calls Tryz.prog 279 #[.pointer (some ⟨b, 0, none⟩)] w fun e w' => e = .returned (.tuple #[]) ∧ SRep w' (.node x l r) (.pointer (some ⟨b, 0, none⟩)) (b :: (Fl ++ Fr)) ∧ Off [b] w w' := by
  have h1 := Avl.ht_nonneg l
  have h2 := Avl.ht_nonneg r
  have e3 : IntKind.i64.wrap (1 + if Avl.ht l < Avl.ht r then Avl.ht r else Avl.ht l) = 1 + max (Avl.ht l) (Avl.ht r) := by
    rw [max_if]; exact wrap_small (by omega) (by omega)
  have E3 := hidp e3
  clear e3
  have f5 := h.n.fz 5
  obtain ⟨y5, c5⟩ := h.n.c5
  have hw2 : ((w.setCell ⟨b, 5, none⟩ (.int .i64 (1 + max (Avl.ht l) (Avl.ht r)))).drew).cell? ⟨b, 5, none⟩ = some (.int .i64 (1 + max (Avl.ht l) (Avl.ht r))) := World.cell?_setCell_same _ _ _ c5
  have hw1 := hidp (And.intro (h.set5 (1 + max (Avl.ht l) (Avl.ht r))).drew (And.intro hw2 ((Off.set0 b w 5 (.int .i64 (1 + max (Avl.ht l) (Avl.ht r)))).drew)))
  clear hw2
  go_enter Tryz.func279, Tryz.ntmps279
  go_wp2_with fail
  go_region_held3 (fun w' => w'.cell? ⟨b, 6, none⟩ = some (.pointer pl) ∧ w'.cell? ⟨b, 7, none⟩ = some (.pointer pr) ∧ SHalf w' b x l r pl pr Fl Fr)
    (first
      | exact shs_of h.drew
      | exact shs_of (SHalf.drew (SHalf.set5 h _)))
    (first
      | (go_at_call_of 276 (Value.pointer pl); go_split_ands; refine (tall_any _ (SHalf.l (by assumption))).mono ?_; rintro e w' ⟨rfl, rfl⟩)
      | (go_at_call_of 276 (Value.pointer pr); go_split_ands; refine (tall_any _ (SHalf.r (by assumption))).mono ?_; rintro e w' ⟨rfl, rfl⟩))
  rw [E3.out, max_if0]
  obtain ⟨hX, cX, oX⟩ := hw1.out
  clear hw1
  generalize (World.setCell _ ⟨b, 5, none⟩ (.int .i64 (1 + max (Avl.ht l) (Avl.ht r)))).drew = X at hX cX oX ⊢
  clear h f5 c5
  have c1 := hX.n.c1
  have c6 := hX.c6
  have c7 := hX.c7
  obtain ⟨y4, c4⟩ := hX.n.c4
  have f4 := hX.n.fz 4
  have hw2 : (X.setCell ⟨b, 4, none⟩ (.int .i64 x.t)).cell? ⟨b, 4, none⟩ = some (.int .i64 x.t) := World.cell?_setCell_same _ _ _ c4
  have hw3 : (X.setCell ⟨b, 4, none⟩ (.int .i64 x.t)).cell? ⟨b, 5, none⟩ = some (.int .i64 (1 + max (Avl.ht l) (Avl.ht r))) := (World.cell?_setCell_other _ _ _ _ (by simp)).trans cX
  have hw1 := hidp (And.intro (hX.set4 x.t) (And.intro hw2 (And.intro hw3 (oX.setCell (R := b) (.inl (by simp)) 4 (.int .i64 x.t)))))
  clear hw2 hw3
  go_upto_region 2 with fail
  obtain ⟨hY, d4, d5, oY⟩ := hw1.out
  clear hw1 c1 c6 c7 c4 f4 hX cX oX
  generalize (World.setCell X ⟨b, 4, none⟩ (.int .i64 x.t)) = Y at hY d4 d5 oY ⊢
  have d6 := hY.c6
  go_upto_if 28 with fail
  clear d6
  go_cut [28] from 24 to 43 (fun _ wx => Lately w wx b x l r pl pr Fl Fr (1 + max (Avl.ht l) (Avl.ht r)) (if Avl.isNil l then x.t else max x.t (Avl.late l)))
  case first =>
    have d6 := hY.c6
    have d7 := hY.c7
    have f4 := hY.n.fz 4
    have la := hY.l.lateAt
    cases pl with
    | none =>
      have el : Avl.isNil l = true := la
      go_wp2_with fail
      go_meet
      rw [if_pos el]
      exact ⟨hY, d4, d5, oY⟩
    | some q =>
      obtain ⟨bl, ol, sl⟩ := q
      obtain ⟨e1, e2, el, cl⟩ := la
      cases e1
      cases e2
      have cl : Y.cell? ⟨bl, 4, none⟩ = some (.int .i64 (Avl.late l)) := cl
      go_wp2_with fail
      go_region
      all_goals
        rw [max_if0]
        go_wp2_with fail
        go_meet
        rw [if_neg (by simp [el])]
        exact Lately.set4 ⟨hY, d4, d5, oY⟩ _
  case rest =>
    have hZ := hcut
    clear hcut hY d4 d5 oY
    have m4 := hZ.c4
    have HZ := hidp hZ
    have e9 : Avl.late (.node x l r) = if Avl.isNil r then (if Avl.isNil l then x.t else max x.t (Avl.late l)) else max (if Avl.isNil l then x.t else max x.t (Avl.late l)) (Avl.late r) := rfl
    have E9 := hidp e9
    clear e9
    generalize (if Avl.isNil l then x.t else max x.t (Avl.late l)) = m at *
    have d7 := hZ.half.c7
    have f4 := hZ.half.n.fz 4
    have ra := hZ.half.r.lateAt
    clear hZ
    cases pr with
    | none =>
      have er : Avl.isNil r = true := ra
      have HK := hidp (HZ.out.half.rep (by rw [HZ.out.c4, E9.out, if_pos er]) HZ.out.c5)
      go_wp2_with fail
      go_end0
      exact ⟨rfl, HK.out, HZ.out.off⟩
    | some q =>
      obtain ⟨bl, ol, sl⟩ := q
      obtain ⟨e1, e2, el, cl⟩ := ra
      cases e1
      cases e2
      have cl : wc.cell? ⟨bl, 4, none⟩ = some (.int .i64 (Avl.late r)) := cl
      have HK := hidp (HZ.out.set4 (max m (Avl.late r)))
      have HR := hidp (HK.out.half.rep (by rw [HK.out.c4, E9.out, if_neg (by simp [el])]) HK.out.c5)
      go_wp2_with fail
      go_region
      all_goals
        rw [max_if0]
        go_wp2_with fail
        go_end0
        exact ⟨rfl, HR.out, HK.out.off⟩

end Go.Proofs.YtjfkfiffakbagaaGreatDoor


/-
  Package spans: turnedRight, turnedLeft.
-/
namespace Go.Proofs.YtjfkfiffakbagaaGreatDoor
open Go.RowKit

/-- What a function of the tree hands back: the tree t' at u, in blocks that are of F or new; else nothing has changed. -/
def STurned (w : World) (F : List Nat) (t' : Avl.S) (e : Ending) (w' : World) : Prop :=
  ∃ (u : Option Addr) (F' : List Nat), e = .returned (.pointer u) ∧ SRep w' t' (.pointer u) F' ∧ (∀ k ∈ F', k ∈ F) ∧ Off F w w'

theorem nodup_perm {a b : List Nat} (h : a.Perm b) (k : a.Nodup) : b.Nodup := h.nodup_iff.1 k

theorem turnR_pre {w : World} {b : Nat} {x y : Avl.It} {s t r : Avl.S} {u pr : Option Addr} {Fl Fr : List Nat} (h : SHalf w b x (.node y s t) r u pr Fl Fr) :
    ∃ (bl : Nat) (pa pb : Option Addr) (Fa Fb : List Nat), u = some ⟨bl, 0, none⟩ ∧ Fl = bl :: (Fa ++ Fb) ∧ w.cell? ⟨bl, 7, none⟩ = some (.pointer pb) ∧ w.frozen? ⟨bl, 7, none⟩ = false ∧ b ≠ bl ∧
      SHalf ((w.setCell ⟨b, 6, none⟩ (.pointer pb)).setCell ⟨bl, 7, none⟩ (.pointer (some ⟨b, 0, none⟩))) b x t r pb pr Fb Fr ∧
      (∀ w2, SRep w2 (.node x t r) (.pointer (some ⟨b, 0, none⟩)) (b :: (Fb ++ Fr)) → Off [b] ((w.setCell ⟨b, 6, none⟩ (.pointer pb)).setCell ⟨bl, 7, none⟩ (.pointer (some ⟨b, 0, none⟩))) w2 → SHalf w2 bl y s (.node x t r) pa (some ⟨b, 0, none⟩) Fa (b :: (Fb ++ Fr))) ∧
      Off (b :: (Fl ++ Fr)) w ((w.setCell ⟨b, 6, none⟩ (.pointer pb)).setCell ⟨bl, 7, none⟩ (.pointer (some ⟨b, 0, none⟩))) := by
  obtain ⟨bl, pa, pb, Fa, Fb, rfl, rfl, hl, _, _⟩ := h.l.half
  have nd := h.nd
  have hne : b ≠ bl := by rintro rfl; simp at nd
  have ndb : (b :: (Fb ++ Fr)).Nodup := by
    refine List.Sublist.nodup ?_ nd
    exact List.Sublist.cons_cons _ (List.Sublist.append (List.Sublist.trans (List.sublist_append_right Fa Fb) (List.sublist_cons_self _ _)) (List.Sublist.refl _))
  have o1 : Off [b] w (w.setCell ⟨b, 6, none⟩ (.pointer pb)) := Off.set0 ..
  have o2 : Off [bl] (w.setCell ⟨b, 6, none⟩ (.pointer pb)) ((w.setCell ⟨b, 6, none⟩ (.pointer pb)).setCell ⟨bl, 7, none⟩ (.pointer (some ⟨b, 0, none⟩))) := Off.set0 ..
  have hmem : ∀ k, k ∈ Fa ∨ k ∈ Fb ∨ k ∈ Fr → k ≠ b ∧ k ≠ bl := by
    intro k hk
    simp only [List.nodup_cons, List.mem_append, List.mem_cons, List.cons_append, not_or] at nd
    constructor
    · rintro rfl; rcases hk with hk | hk | hk
      · exact nd.1.2.1.1 hk
      · exact nd.1.2.1.2 hk
      · exact nd.1.2.2 hk
    · rintro rfl; rcases hk with hk | hk | hk
      · exact nd.2.1.1.1 hk
      · exact nd.2.1.1.2 hk
      · exact nd.2.1.2 hk
  have hh : SHalf (w.setCell ⟨b, 6, none⟩ (.pointer pb)) b x t r pb pr Fb Fr := SHalf.setl h.n h.c7 hl.r h.r ndb
  have hb1 : SHalf ((w.setCell ⟨b, 6, none⟩ (.pointer pb)).setCell ⟨bl, 7, none⟩ (.pointer (some ⟨b, 0, none⟩))) b x t r pb pr Fb Fr :=
    hh.off o2 (by simpa using hne) (fun k hk => by simpa using (hmem k (.inr (.inl hk))).2) (fun k hk => by simpa using (hmem k (.inr (.inr hk))).2)
  refine ⟨bl, pa, pb, Fa, Fb, rfl, rfl, hl.c7, hl.n.fz 7, hne, hb1, fun w2 k1 k2 => ?_, ?_⟩
  · have n1 : SNode ((w.setCell ⟨b, 6, none⟩ (.pointer pb)).setCell ⟨bl, 7, none⟩ (.pointer (some ⟨b, 0, none⟩))) bl y := (hl.n.off o1 (by simp; exact hne.symm)).set7 _
    have c6 : ((w.setCell ⟨b, 6, none⟩ (.pointer pb)).setCell ⟨bl, 7, none⟩ (.pointer (some ⟨b, 0, none⟩))).cell? ⟨bl, 6, none⟩ = some (.pointer pa) := (World.cell?_setCell_other _ _ _ _ (by simp)).trans (o1.cell (by simp; exact hne.symm) hl.c6)
    have c7 : ((w.setCell ⟨b, 6, none⟩ (.pointer pb)).setCell ⟨bl, 7, none⟩ (.pointer (some ⟨b, 0, none⟩))).cell? ⟨bl, 7, none⟩ = some (.pointer (some ⟨b, 0, none⟩)) := World.cell?_setCell_same _ _ _ (o1.cell (by simp; exact hne.symm) hl.c7)
    have ha : SRep ((w.setCell ⟨b, 6, none⟩ (.pointer pb)).setCell ⟨bl, 7, none⟩ (.pointer (some ⟨b, 0, none⟩))) s (.pointer pa) Fa :=
      (hl.l.off o1 (fun k hk => by simpa using (hmem k (.inl hk)).1)).off o2 (fun k hk => by simpa using (hmem k (.inl hk)).2)
    have hnb : bl ∉ [b] := by simp; exact hne.symm
    refine ⟨n1.off k2 hnb, k2.cell hnb c6, k2.cell hnb c7, ha.off k2 (fun k hk => by simpa using (hmem k (.inl hk)).1), k1, ?_⟩
    refine nodup_perm ?_ nd
    have p1 : (b :: (bl :: (Fa ++ Fb) ++ Fr)).Perm (bl :: b :: (Fa ++ (Fb ++ Fr))) := by simpa [List.append_assoc] using List.Perm.swap bl b (Fa ++ (Fb ++ Fr))
    exact p1.trans (List.Perm.cons _ List.perm_middle.symm)
  · exact ((Off.set0 b w 6 _).mono (by simp)).setCell (.inl (by simp)) _ _

theorem turnL_pre {w : World} {b : Nat} {x y : Avl.It} {s t l : Avl.S} {u pl : Option Addr} {Fl Fr : List Nat} (h : SHalf w b x l (.node y s t) pl u Fl Fr) :
    ∃ (br : Nat) (pa pb : Option Addr) (Fa Fb : List Nat), u = some ⟨br, 0, none⟩ ∧ Fr = br :: (Fa ++ Fb) ∧ w.cell? ⟨br, 6, none⟩ = some (.pointer pa) ∧ w.frozen? ⟨br, 6, none⟩ = false ∧ b ≠ br ∧
      SHalf ((w.setCell ⟨b, 7, none⟩ (.pointer pa)).setCell ⟨br, 6, none⟩ (.pointer (some ⟨b, 0, none⟩))) b x l s pl pa Fl Fa ∧
      (∀ w2, SRep w2 (.node x l s) (.pointer (some ⟨b, 0, none⟩)) (b :: (Fl ++ Fa)) → Off [b] ((w.setCell ⟨b, 7, none⟩ (.pointer pa)).setCell ⟨br, 6, none⟩ (.pointer (some ⟨b, 0, none⟩))) w2 → SHalf w2 br y (.node x l s) t (some ⟨b, 0, none⟩) pb (b :: (Fl ++ Fa)) Fb) ∧
      Off (b :: (Fl ++ Fr)) w ((w.setCell ⟨b, 7, none⟩ (.pointer pa)).setCell ⟨br, 6, none⟩ (.pointer (some ⟨b, 0, none⟩))) := by
  obtain ⟨br, pa, pb, Fa, Fb, rfl, rfl, hl, _, _⟩ := h.r.half
  have nd := h.nd
  have hne : b ≠ br := by rintro rfl; simp at nd
  have ndb : (b :: (Fl ++ Fa)).Nodup := by
    refine List.Sublist.nodup ?_ nd
    exact List.Sublist.cons_cons _ (List.Sublist.append (List.Sublist.refl _) (List.Sublist.trans (List.sublist_append_left Fa Fb) (List.sublist_cons_self _ _)))
  have o1 : Off [b] w (w.setCell ⟨b, 7, none⟩ (.pointer pa)) := Off.set0 ..
  have o2 : Off [br] (w.setCell ⟨b, 7, none⟩ (.pointer pa)) ((w.setCell ⟨b, 7, none⟩ (.pointer pa)).setCell ⟨br, 6, none⟩ (.pointer (some ⟨b, 0, none⟩))) := Off.set0 ..
  have hmem : ∀ k, k ∈ Fl ∨ k ∈ Fa ∨ k ∈ Fb → k ≠ b ∧ k ≠ br := by
    intro k hk
    simp only [List.nodup_cons, List.nodup_append, List.mem_append, List.mem_cons, not_or] at nd
    constructor
    · rintro rfl; rcases hk with hk | hk | hk
      · exact nd.1.1 hk
      · exact nd.1.2.2.1 hk
      · exact nd.1.2.2.2 hk
    · rintro rfl; rcases hk with hk | hk | hk
      · exact nd.2.2.2 _ hk _ (.inl rfl) rfl
      · exact nd.2.2.1.1.1 hk
      · exact nd.2.2.1.1.2 hk
  have hh : SHalf (w.setCell ⟨b, 7, none⟩ (.pointer pa)) b x l s pl pa Fl Fa := SHalf.setr h.n h.c6 h.l hl.l ndb
  have hb1 : SHalf ((w.setCell ⟨b, 7, none⟩ (.pointer pa)).setCell ⟨br, 6, none⟩ (.pointer (some ⟨b, 0, none⟩))) b x l s pl pa Fl Fa :=
    hh.off o2 (by simpa using hne) (fun k hk => by simpa using (hmem k (.inl hk)).2) (fun k hk => by simpa using (hmem k (.inr (.inl hk))).2)
  refine ⟨br, pa, pb, Fa, Fb, rfl, rfl, hl.c6, hl.n.fz 6, hne, hb1, fun w2 k1 k2 => ?_, ?_⟩
  · have n1 : SNode ((w.setCell ⟨b, 7, none⟩ (.pointer pa)).setCell ⟨br, 6, none⟩ (.pointer (some ⟨b, 0, none⟩))) br y := (hl.n.off o1 (by simp; exact hne.symm)).set6 _
    have c6 : ((w.setCell ⟨b, 7, none⟩ (.pointer pa)).setCell ⟨br, 6, none⟩ (.pointer (some ⟨b, 0, none⟩))).cell? ⟨br, 6, none⟩ = some (.pointer (some ⟨b, 0, none⟩)) := World.cell?_setCell_same _ _ _ (o1.cell (by simp; exact hne.symm) hl.c6)
    have c7 : ((w.setCell ⟨b, 7, none⟩ (.pointer pa)).setCell ⟨br, 6, none⟩ (.pointer (some ⟨b, 0, none⟩))).cell? ⟨br, 7, none⟩ = some (.pointer pb) := (World.cell?_setCell_other _ _ _ _ (by simp)).trans (o1.cell (by simp; exact hne.symm) hl.c7)
    have ha : SRep ((w.setCell ⟨b, 7, none⟩ (.pointer pa)).setCell ⟨br, 6, none⟩ (.pointer (some ⟨b, 0, none⟩))) t (.pointer pb) Fb :=
      (hl.r.off o1 (fun k hk => by simpa using (hmem k (.inr (.inr hk))).1)).off o2 (fun k hk => by simpa using (hmem k (.inr (.inr hk))).2)
    have hnb : br ∉ [b] := by simp; exact hne.symm
    refine ⟨n1.off k2 hnb, k2.cell hnb c6, k2.cell hnb c7, k1, ha.off k2 (fun k hk => by simpa using (hmem k (.inr (.inr hk))).1), ?_⟩
    refine nodup_perm ?_ nd
    have p1 : (b :: (Fl ++ br :: (Fa ++ Fb))).Perm (b :: br :: (Fl ++ (Fa ++ Fb))) := List.Perm.cons _ List.perm_middle
    refine p1.trans ((List.Perm.swap br b _).trans (List.Perm.cons _ ?_))
    simp [List.append_assoc]
  · exact ((Off.set0 b w 7 _).mono (by simp)).setCell (.inl (by simp)) _ _

set_option maxRecDepth 100000 in
set_option maxHeartbeats 2000000 in
theorem turnedRight_any (w : World) (b : Nat) (x y : Avl.It) (s t r : Avl.S) (u pr : Option Addr) (Fl Fr : List Nat) (h : SHalf w b x (.node y s t) r u pr Fl Fr) (h1 : Avl.ht s ≤ 50000) (h2 : Avl.ht t ≤ 50000) (h3 : Avl.ht r ≤ 50000) :
    Calls Tryz.prog 278 #[.pointer (some ⟨b, 0, none⟩)] w (STurned w (b :: (Fl ++ Fr)) (.node y s (.node x t r))) := by
  obtain ⟨bl, pa, pb, Fa, Fb, rfl, rfl, c7, f7, hne, g1, g2, g3⟩ := turnR_pre h
  have c6 := h.c6
  have f6 := h.n.fz 6
  have hht : Avl.ht (.node x t r) ≤ 100000 := by simp only [Avl.ht]; omega
  have G := hidp (And.intro g1 (And.intro g2 g3))
  clear g1 g2 g3 h
  go_enter Tryz.func278, Tryz.ntmps278
  go_wp2_with fail
  refine (measure_any _ b x t r pb pr Fb Fr G.out.1 (by omega) (by omega)).mono ?_
  rintro e w2 ⟨rfl, k1, k2⟩
  have K := hidp (And.intro (G.out.2.1 w2 k1 k2) (G.out.2.2.trans' k2 (fun z hz => by simp at hz; subst hz; exact .inl (by simp))))
  clear k1 k2 G c7 c6 f7 f6
  go_wp2_with fail
  refine (measure_any _ bl y s (.node x t r) pa (some ⟨b, 0, none⟩) Fa (b :: (Fb ++ Fr)) K.out.1 (by omega) hht).mono ?_
  rintro e w3 ⟨rfl, k1, k2⟩
  have M := hidp (And.intro k1 (K.out.2.trans' k2 (fun z hz => by simp at hz; subst hz; exact .inl (by simp))))
  clear k1 k2 K
  go_wp2_with fail
  go_ret
  exact ⟨_, _, rfl, M.out.1, (by intro k hk; simp only [List.mem_cons, List.mem_append] at hk ⊢; grind), M.out.2⟩

set_option maxRecDepth 100000 in
set_option maxHeartbeats 2000000 in
theorem turnedLeft_any (w : World) (b : Nat) (x y : Avl.It) (s t l : Avl.S) (u pl : Option Addr) (Fl Fr : List Nat) (h : SHalf w b x l (.node y s t) pl u Fl Fr) (h1 : Avl.ht s ≤ 50000) (h2 : Avl.ht t ≤ 50000) (h3 : Avl.ht l ≤ 50000) :
    Calls Tryz.prog 277 #[.pointer (some ⟨b, 0, none⟩)] w (STurned w (b :: (Fl ++ Fr)) (.node y (.node x l s) t)) := by
  obtain ⟨br, pa, pb, Fa, Fb, rfl, rfl, c6, f6, hne, g1, g2, g3⟩ := turnL_pre h
  have c7 := h.c7
  have f7 := h.n.fz 7
  have hht : Avl.ht (.node x l s) ≤ 100000 := by simp only [Avl.ht]; omega
  have G := hidp (And.intro g1 (And.intro g2 g3))
  clear g1 g2 g3 h
  go_enter Tryz.func277, Tryz.ntmps277
  go_wp2_with fail
  refine (measure_any _ b x l s pl pa Fl Fa G.out.1 (by omega) (by omega)).mono ?_
  rintro e w2 ⟨rfl, k1, k2⟩
  have K := hidp (And.intro (G.out.2.1 w2 k1 k2) (G.out.2.2.trans' k2 (fun z hz => by simp at hz; subst hz; exact .inl (by simp))))
  clear k1 k2 G c7 c6 f7 f6
  go_wp2_with fail
  refine (measure_any _ br y (.node x l s) t (some ⟨b, 0, none⟩) pb (b :: (Fl ++ Fa)) Fb K.out.1 hht (by omega)).mono ?_
  rintro e w3 ⟨rfl, k1, k2⟩
  have M := hidp (And.intro k1 (K.out.2.trans' k2 (fun z hz => by simp at hz; subst hz; exact .inl (by simp))))
  clear k1 k2 K
  go_wp2_with fail
  go_ret
  exact ⟨_, _, rfl, M.out.1, (by intro k hk; simp only [List.mem_cons, List.mem_append] at hk ⊢; grind), M.out.2⟩

end Go.Proofs.YtjfkfiffakbagaaGreatDoor


/-
  Package spans: balanced.
-/
namespace Go.Proofs.YtjfkfiffakbagaaGreatDoor
open Go.RowKit

/-- A side is made anew by a function of the tree, and set. -/
theorem SHalf.newl {w w2 : World} {b : Nat} {x : Avl.It} {l r l' : Avl.S} {pl pr u : Option Addr} {Fl Fr F' : List Nat} (h : SHalf w b x l r pl pr Fl Fr) (k1 : SRep w2 l' (.pointer u) F') (k2 : ∀ k ∈ F', k ∈ Fl ∨ w.heap.size ≤ k) (k3 : Off Fl w w2) :
    SHalf (w2.setCell ⟨b, 6, none⟩ (.pointer u)) b x l' r u pr F' Fr ∧ (∀ k ∈ b :: (F' ++ Fr), k ∈ b :: (Fl ++ Fr) ∨ w.heap.size ≤ k) ∧ Off (b :: (Fl ++ Fr)) w (w2.setCell ⟨b, 6, none⟩ (.pointer u)) := by
  obtain ⟨n1, n2, n3, n4, n5, n6, n7, n8⟩ := h.parts
  have hlt := h.lt
  refine ⟨SHalf.setl (h.n.off k3 n1) (k3.cell n1 h.c7) k1 (h.r.off k3 n5) ?_, fun k hk => ?_, ?_⟩
  · refine List.nodup_cons.2 ⟨fun e => ?_, List.nodup_append.2 ⟨k1.nodup, n8, fun y hy z hz e => ?_⟩⟩
    · rcases List.mem_append.1 e with e | e
      · rcases k2 b e with e | e
        · exact n1 e
        · have := hlt b (by simp); omega
      · exact n2 e
    · subst e
      rcases k2 y hy with e | e
      · exact n5 y hz e
      · have := hlt y (by simp [hz]); omega
  · rcases List.mem_cons.1 hk with rfl | hk
    · exact .inl (by simp)
    · rcases List.mem_append.1 hk with hk | hk
      · rcases k2 k hk with e | e
        · exact .inl (by simp [e])
        · exact .inr e
      · exact .inl (by simp [hk])
  · exact (k3.mono (by intro y hy; simp [hy])).setCell (.inl (by simp)) _ _
theorem SHalf.newr {w w2 : World} {b : Nat} {x : Avl.It} {l r r' : Avl.S} {pl pr u : Option Addr} {Fl Fr F' : List Nat} (h : SHalf w b x l r pl pr Fl Fr) (k1 : SRep w2 r' (.pointer u) F') (k2 : ∀ k ∈ F', k ∈ Fr ∨ w.heap.size ≤ k) (k3 : Off Fr w w2) :
    SHalf (w2.setCell ⟨b, 7, none⟩ (.pointer u)) b x l r' pl u Fl F' ∧ (∀ k ∈ b :: (Fl ++ F'), k ∈ b :: (Fl ++ Fr) ∨ w.heap.size ≤ k) ∧ Off (b :: (Fl ++ Fr)) w (w2.setCell ⟨b, 7, none⟩ (.pointer u)) := by
  obtain ⟨n1, n2, n3, n4, n5, n6, n7, n8⟩ := h.parts
  have hlt := h.lt
  refine ⟨SHalf.setr (h.n.off k3 n2) (k3.cell n2 h.c6) (h.l.off k3 n6) k1 ?_, fun k hk => ?_, ?_⟩
  · refine List.nodup_cons.2 ⟨fun e => ?_, List.nodup_append.2 ⟨n7, k1.nodup, fun y hy z hz e => ?_⟩⟩
    · rcases List.mem_append.1 e with e | e
      · exact n1 e
      · rcases k2 b e with e | e
        · exact n2 e
        · have := hlt b (by simp); omega
    · subst e
      rcases k2 y hz with e | e
      · exact n6 y hy e
      · have := hlt y (by simp [hy]); omega
  · rcases List.mem_cons.1 hk with rfl | hk
    · exact .inl (by simp)
    · rcases List.mem_append.1 hk with hk | hk
      · exact .inl (by simp [hk])
      · rcases k2 k hk with e | e
        · exact .inl (by simp [e])
        · exact .inr e
  · exact (k3.mono (by intro y hy; simp [hy])).setCell (.inl (by simp)) _ _

theorem STurned.of {w w1 : World} {F G : List Nat} {t : Avl.S} {e : Ending} {w' : World} (h : STurned w1 G t e w') (k : Off F w w1) (hG : ∀ k ∈ G, k ∈ F) : STurned w F t e w' := by
  obtain ⟨u, F', rfl, h1, h2, h3⟩ := h
  exact ⟨u, F', rfl, h1, fun k hk => hG k (h2 k hk), k.trans' h3 (fun x hx => .inl (hG x hx))⟩

set_option maxRecDepth 100000 in
set_option maxHeartbeats 2000000 in
theorem balanced_mid (w : World) (b : Nat) (x : Avl.It) (l r : Avl.S) (pl pr : Option Addr) (Fl Fr : List Nat) (h : SHalf w b x l r pl pr Fl Fr) (hl : Avl.ht l ≤ 40000) (hr : Avl.ht r ≤ 40000) (h1 : ¬ 1 < Avl.ht l - Avl.ht r) (h2 : ¬ Avl.ht l - Avl.ht r < -1) :
    Calls Tryz.prog 254 #[.pointer (some ⟨b, 0, none⟩)] w (STurned w (b :: (Fl ++ Fr)) (.node x l r)) := by
  have g1 := Avl.ht_nonneg l
  have g2 := Avl.ht_nonneg r
  have hwr : IntKind.i64.wrap (Avl.ht l - Avl.ht r) = Avl.ht l - Avl.ht r := wrap_small (by omega) (by omega)
  go_enter Tryz.func254, Tryz.ntmps254
  go_upto_region 1 with fail
  go_region_held3 (fun w' => w'.cell? ⟨b, 6, none⟩ = some (.pointer pl) ∧ w'.cell? ⟨b, 7, none⟩ = some (.pointer pr) ∧ SHalf w' b x l r pl pr Fl Fr)
    (exact shs_of h.drew)
    (first
      | (go_at_call_of 276 (Value.pointer pl); go_split_ands; refine (tall_any _ (SHalf.l (by assumption))).mono ?_; rintro e w' ⟨rfl, rfl⟩)
      | (go_at_call_of 276 (Value.pointer pr); go_split_ands; refine (tall_any _ (SHalf.r (by assumption))).mono ?_; rintro e w' ⟨rfl, rfl⟩))
  have H := hidp h.drew
  have HO := hidp ((Off.refl (b :: (Fl ++ Fr)) _).drew : Off _ w w.drew)
  clear h
  go_wp2_with fail
  refine (measure_any _ b x l r pl pr Fl Fr H.out (by omega) (by omega)).mono ?_
  rintro e w2 ⟨rfl, k1, k2⟩
  have K := hidp (And.intro k1 (HO.out.trans' k2 (fun z hz => by simp at hz; subst hz; exact .inl (by simp))))
  clear k1 k2 H HO
  go_wp2_with fail
  go_ret
  exact ⟨_, _, rfl, K.out.1, fun _ hk => hk, K.out.2⟩

end Go.Proofs.YtjfkfiffakbagaaGreatDoor

