/-
  Parts of the proof, one behind the other: LevAdd4, LevMost, LevFirst, LevRoom0, LevCutT, LevCutF, LevRoom, Avl, SpRep, SpWalks.
-/
import Derived.Test.YtjfkfiffakbagaaGreatDoorL01
import Derived.Deep.CutRange
import Derived.Deep.RegionWith
/-
  Package levels: add, whole.
-/
namespace Go.Proofs.YtjfkfiffakbagaaGreatDoor
open Go.RowKit

theorem cutting_new {w w2 w3 : World} {F : List Nat} {bk : Nat} {c lo hi a b : Int} {l r : Lev.T} {pl pr : Option Addr} {Fl Fr : List Nat} (hH : Half w2 bk c l r pl pr Fl Fr) (hO : Off F w w2) (hG : ∀ k ∈ bk :: (Fl ++ Fr), k ∈ F ∨ w.heap.size ≤ k) (q2 : w2.cell? ⟨w.heap.size + 1, 0, none⟩ = some (.int .i64 a)) (q3 : w2.cell? ⟨w.heap.size + 1, 1, none⟩ = some (.int .i64 b)) (hne : w.heap.size + 1 ∉ bk :: (Fl ++ Fr)) (hb : Below w2.heap.size w2 w3) :
    Cutting w ((w3.alloc (.cells #[.int .i64 lo, .int .i64 (Lev.mid lo hi)] 60)).alloc (.cells #[.int .i64 (Lev.mid lo hi), .int .i64 hi] 60)) F bk w3.heap.size c lo hi a b l r pl pr Fl Fr := by
  have k : Off [] w2 ((w3.alloc (.cells #[.int .i64 lo, .int .i64 (Lev.mid lo hi)] 60)).alloc (.cells #[.int .i64 (Lev.mid lo hi), .int .i64 hi] 60)) := ((Off.of_below hb).alloc _).alloc _
  have hlt := hH.lt
  have hsz := hb.size
  refine ⟨hH.off k (by simp) (by simp) (by simp), hO.trans' k (by simp), hG, k.cell (by simp) q2, k.cell (by simp) q3, by simp, by simp, by simp, by simp, hne, fun e => ?_, fun e => ?_⟩
  · have := hlt _ e; omega
  · have := hlt _ e; omega

set_option maxRecDepth 100000 in
set_option maxHeartbeats 4000000 in
theorem add_split (n : Nat) (ih : Hid (AddSays n)) (t : Lev.T) (u : Option Addr) (F : List Nat) (lo hi a b x : Int) (w : World) (h : LRep w t (.pointer u) F) (hp : Lev.apart lo hi a b = false) (hw : Lev.within lo hi a b = false)
    (h0 : 0 ≤ lo) (h1 : lo < hi) (h2 : hi ≤ 2000000) (h3 : hi - lo ≤ 2 ^ (n + 1)) (h4 : a < b)
    (hx1 : -1000000 ≤ x) (hx2 : x ≤ 1000000) (hB1 : LB t) (hB2 : LB (Lev.addT (n + 1) t lo hi a b x)) :
    Calls Tryz.prog 253 #[.pointer u, .agg #[.int .i64 lo, .int .i64 hi], .agg #[.int .i64 a, .int .i64 b], .int .i64 x] w (Added w F (Lev.addT (n + 1) t lo hi a b x)) := by
  have e : Lev.addT (n + 1) t lo hi a b x = Lev.mk (Lev.val t) (Lev.addT n (Lev.fst t) lo (Lev.mid lo hi) a b x) (Lev.addT n (Lev.snd t) (Lev.mid lo hi) hi a b x) := by rw [Lev.addT]; rw [if_neg (by simp [hp]), if_neg (by simp [hw])]
  rw [e] at hB2 ⊢
  obtain ⟨_, hBl, hBr⟩ := hB2.mk
  have hl := hB1.fst
  have hr := hB1.snd
  have g1 := Lev.apart_not.1 hp
  have g2 := Lev.within_not.1 hw
  have hm : lo < Lev.mid lo hi ∧ Lev.mid lo hi < hi := by unfold Lev.mid; omega
  have hh := Lev.pow_half h3
  have I1 : Hid (∀ (w : World) (u : Option Addr) (F : List Nat), LRep w (Lev.fst t) (.pointer u) F → Calls Tryz.prog 253 #[.pointer u, .agg #[.int .i64 lo, .int .i64 (Lev.mid lo hi)], .agg #[.int .i64 a, .int .i64 b], .int .i64 x] w (Added w F (Lev.addT n (Lev.fst t) lo (Lev.mid lo hi) a b x))) :=
    fun w u F k => ih.out _ _ _ _ _ _ _ _ _ k h0 hm.1 (by omega) hh.1 h4 hx1 hx2 hl hBl
  have I2 : Hid (∀ (w : World) (u : Option Addr) (F : List Nat), LRep w (Lev.snd t) (.pointer u) F → Calls Tryz.prog 253 #[.pointer u, .agg #[.int .i64 (Lev.mid lo hi), .int .i64 hi], .agg #[.int .i64 a, .int .i64 b], .int .i64 x] w (Added w F (Lev.addT n (Lev.snd t) (Lev.mid lo hi) hi a b x))) :=
    fun w u F k => ih.out _ _ _ _ _ _ _ _ _ k (by omega) hm.2 h2 hh.2 h4 hx1 hx2 hr hBr
  have HB2 := hidp hB2
  clear e hBl hBr hl hr g1 g2 hm hh h3 ih hB1 hB2
  generalize Lev.addT n (Lev.fst t) lo (Lev.mid lo hi) a b x = tl at *
  generalize Lev.addT n (Lev.snd t) (Lev.mid lo hi) hi a b x = tr at *
  cases t with
  | nil =>
    obtain ⟨hu, rfl⟩ := h
    cases hu
    simp only [Lev.val, Lev.fst, Lev.snd] at HB2 I1 I2 ⊢
    go_enter Tryz.func253, Tryz.ntmps253
    go_wp2_with fail
    refine (areApart_any _ _ _ _ _).mono ?_
    rintro e w1 ⟨rfl, hb⟩
    rw [hp]
    have bx := boxes hb
    have ⟨q0, q1, q2, q3, hs, hB⟩ := bx
    have HB := hidp hB
    have hs0 : w.heap.size < w1.heap.size := by omega
    clear hB hb bx
    go_wp2_with fail
    refine (isWithin_any _ _ _ _ _).mono ?_
    rintro e w2 ⟨rfl, hb⟩
    rw [hw]
    obtain ⟨bk, hbk⟩ : ∃ bk, bk = w1.heap.size := ⟨_, rfl⟩
    have hH := (half_new w1 0).off (G := []) (Off.of_below hb) (by simp) (by simp) (by simp)
    have hO : Off [] w w2 := (((Off.of_below HB.out).alloc _).trans (Off.of_below hb))
    have hG : ∀ k ∈ bk :: ([] ++ []), k ∈ ([] : List Nat) ∨ w.heap.size ≤ k := by simp; omega
    have hne : w.heap.size + 1 ∉ bk :: ([] ++ []) := by simp; omega
    have k1 : Off [] w1 w2 := ((Off.refl [] w1).alloc _).trans (Off.of_below hb)
    have r0 : w2.cell? ⟨w.heap.size, 0, none⟩ = some (.int .i64 lo) := k1.cell (by simp) q0
    have r1 : w2.cell? ⟨w.heap.size, 1, none⟩ = some (.int .i64 hi) := k1.cell (by simp) q1
    have r2 : w2.cell? ⟨w.heap.size + 1, 0, none⟩ = some (.int .i64 a) := k1.cell (by simp) q2
    have r3 : w2.cell? ⟨w.heap.size + 1, 1, none⟩ = some (.int .i64 b) := k1.cell (by simp) q3
    have hs2 : w.heap.size + 1 < w2.heap.size := Nat.lt_of_lt_of_le hs k1.size
    rw [← hbk] at hH ⊢
    clear hb q0 q1 q2 q3 hs hs0 HB k1 hbk
    go_wp2_with fail
    refine (halves_any _ _ _ (by omega) (by omega) (by omega)).mono ?_
    rintro e w3 ⟨rfl, hb⟩
    have hC : Cutting w _ _ _ _ 0 lo hi a b _ _ _ _ _ _ := cutting_new (w3 := w3) hH hO hG r2 r3 hne hb
    clear hb hH hO hG r0 r1 r2 r3 hne hs2
    go_upto_region 8 with fail
    generalize (World.alloc _ (.cells #[.int .i64 (Lev.mid lo hi), .int .i64 hi] 60)) = X at hC ⊢
    generalize w3.heap.size = M at hC ⊢
    go_cut [43] from 35 to 45 (fun _ wx => ∃ (u4 : Option Addr) (F4 : List Nat), Cutting w wx ([] : List Nat) bk M 0 lo hi a b tl .nil u4 none F4 [])
    case first =>
      have b3 := hC.half.c3
      have f3 := hC.half.fz 3
      have a0 := hC.a0
      have a1 := hC.a1
      have m0 := hC.m0
      have m1 := hC.m1
      go_region_with (first
        | (go_at_call 253; refine (I1.out _ _ _ hC.half.drew.l).mono ?_; rintro e w4 ⟨u4, F4, rfl, k1, k2, k3⟩; have b3' := k3.cell hC.half.notl.1 b3; have f3' := (k3.frozen (o := 3) hC.half.notl.1 (hC.half.lt _ (by simp))).trans f3))
      all_goals
        go_wp2_with fail
        go_meet
        exact ⟨_, _, hC.drew.setl k1 k2 k3⟩
    case rest =>
      obtain ⟨u4, F4, hD⟩ := hcut
      clear hC
      go_upto_region 9 with fail
      go_cut [54] from 46 to 56 (fun _ wx => ∃ (u5 : Option Addr) (F5 : List Nat), Half wx bk 0 tl tr u4 u5 F4 F5 ∧ Off ([] : List Nat) w wx ∧ ∀ k ∈ bk :: (F4 ++ F5), k ∈ ([] : List Nat) ∨ w.heap.size ≤ k)
      case first =>
        have b3 := hD.half.c4
        have f3 := hD.half.fz 4
        have a0 := hD.a0
        have a1 := hD.a1
        have m0 := hD.n0
        have m1 := hD.n1
        go_region_with (first
          | (go_at_call 253; refine (I2.out _ _ _ hD.half.drew.r).mono ?_; rintro e w5 ⟨u5, F5, rfl, k1, k2, k3⟩; have b3' := k3.cell hD.half.notl.2.1 b3; have f3' := (k3.frozen (o := 4) hD.half.notl.2.1 (hD.half.lt _ (by simp))).trans f3))
        all_goals
          go_wp2_with fail
          go_meet
          exact ⟨_, _, hD.drew.setr k1 k2 k3⟩
      case rest =>
        obtain ⟨u5, F5, k1, k2, k3⟩ := hcut
        clear hD I1 I2
        go_wp2_with fail
        refine (settled_any _ _ _ _ _ _ _ _ _ k1 HB2.out).mono ?_
        rintro e w6 ⟨u6, F6, rfl, n1, n2, n3⟩
        have HK := hidp (added_of k2 k3 (by simp) n1 n2 n3)
        clear k1 k2 k3 n1 n2 n3
        go_wp2_with fail
        go_ret
        exact HK.out
  | node c l r =>
    obtain ⟨bk, pl, pr, Fl, Fr, rfl, rfl, hh⟩ := half_of h
    simp only [Lev.val, Lev.fst, Lev.snd] at HB2 I1 I2 ⊢
    go_enter Tryz.func253, Tryz.ntmps253
    go_wp2_with fail
    refine (areApart_any _ _ _ _ _).mono ?_
    rintro e w1 ⟨rfl, hb⟩
    rw [hp]
    have bx := boxes hb
    have ⟨q0, q1, q2, q3, hs, hB⟩ := bx
    have HB := hidp hB
    have hs0 : w.heap.size < w1.heap.size := by omega
    clear hB hb bx
    go_wp2_with fail
    refine (isWithin_any _ _ _ _ _).mono ?_
    rintro e w2 ⟨rfl, hb⟩
    rw [hw]
    have hH := hh.off (G := []) ((Off.of_below HB.out).trans (Off.of_below hb)) (by simp) (by simp) (by simp)
    have hO : Off (bk :: (Fl ++ Fr)) w w2 := (Off.of_below HB.out).trans (Off.of_below hb)
    have hG : ∀ k ∈ bk :: (Fl ++ Fr), k ∈ bk :: (Fl ++ Fr) ∨ w.heap.size ≤ k := fun _ hk => .inl hk
    have hne : w.heap.size + 1 ∉ bk :: (Fl ++ Fr) := fun e => by have := hh.lt _ e; omega
    have r0 : w2.cell? ⟨w.heap.size, 0, none⟩ = some (.int .i64 lo) := cellLater hb q0
    have r1 : w2.cell? ⟨w.heap.size, 1, none⟩ = some (.int .i64 hi) := cellLater hb q1
    have r2 : w2.cell? ⟨w.heap.size + 1, 0, none⟩ = some (.int .i64 a) := cellLater hb q2
    have r3 : w2.cell? ⟨w.heap.size + 1, 1, none⟩ = some (.int .i64 b) := cellLater hb q3
    have hs2 : w.heap.size + 1 < w2.heap.size := Nat.lt_of_lt_of_le hs hb.size
    clear hb q0 q1 q2 q3 hs hs0 HB h hh
    go_wp2_with fail
    refine (halves_any _ _ _ (by omega) (by omega) (by omega)).mono ?_
    rintro e w3 ⟨rfl, hb⟩
    have hC : Cutting w _ _ _ _ c lo hi a b _ _ _ _ _ _ := cutting_new (w3 := w3) hH hO hG r2 r3 hne hb
    clear hb hH hO hG r0 r1 r2 r3 hne hs2
    go_upto_region 8 with fail
    generalize (World.alloc _ (.cells #[.int .i64 (Lev.mid lo hi), .int .i64 hi] 60)) = X at hC ⊢
    generalize w3.heap.size = M at hC ⊢
    go_cut [43] from 35 to 45 (fun _ wx => ∃ (u4 : Option Addr) (F4 : List Nat), Cutting w wx (bk :: (Fl ++ Fr)) bk M c lo hi a b tl r u4 pr F4 Fr)
    case first =>
      have b3 := hC.half.c3
      have f3 := hC.half.fz 3
      have a0 := hC.a0
      have a1 := hC.a1
      have m0 := hC.m0
      have m1 := hC.m1
      go_region_with (first
        | (go_at_call 253; refine (I1.out _ _ _ hC.half.drew.l).mono ?_; rintro e w4 ⟨u4, F4, rfl, k1, k2, k3⟩; have b3' := k3.cell hC.half.notl.1 b3; have f3' := (k3.frozen (o := 3) hC.half.notl.1 (hC.half.lt _ (by simp))).trans f3))
      all_goals
        go_wp2_with fail
        go_meet
        exact ⟨_, _, hC.drew.setl k1 k2 k3⟩
    case rest =>
      obtain ⟨u4, F4, hD⟩ := hcut
      clear hC
      go_upto_region 9 with fail
      go_cut [54] from 46 to 56 (fun _ wx => ∃ (u5 : Option Addr) (F5 : List Nat), Half wx bk c tl tr u4 u5 F4 F5 ∧ Off (bk :: (Fl ++ Fr)) w wx ∧ ∀ k ∈ bk :: (F4 ++ F5), k ∈ (bk :: (Fl ++ Fr)) ∨ w.heap.size ≤ k)
      case first =>
        have b3 := hD.half.c4
        have f3 := hD.half.fz 4
        have a0 := hD.a0
        have a1 := hD.a1
        have m0 := hD.n0
        have m1 := hD.n1
        go_region_with (first
          | (go_at_call 253; refine (I2.out _ _ _ hD.half.drew.r).mono ?_; rintro e w5 ⟨u5, F5, rfl, k1, k2, k3⟩; have b3' := k3.cell hD.half.notl.2.1 b3; have f3' := (k3.frozen (o := 4) hD.half.notl.2.1 (hD.half.lt _ (by simp))).trans f3))
        all_goals
          go_wp2_with fail
          go_meet
          exact ⟨_, _, hD.drew.setr k1 k2 k3⟩
      case rest =>
        obtain ⟨u5, F5, k1, k2, k3⟩ := hcut
        clear hD I1 I2
        go_wp2_with fail
        refine (settled_any _ _ _ _ _ _ _ _ _ k1 HB2.out).mono ?_
        rintro e w6 ⟨u6, F6, rfl, n1, n2, n3⟩
        have HK := hidp (added_of k2 k3 (by simp) n1 n2 n3)
        clear k1 k2 k3 n1 n2 n3
        go_wp2_with fail
        go_ret
        exact HK.out

theorem addSays : ∀ n, AddSays n := by
  intro n
  induction n with
  | zero =>
    intro t u F lo hi a b x w h h0 h1 h2 h3 h4 hx1 hx2 hB1 hB2
    have h3 : hi - lo ≤ 1 := by simpa using h3
    cases hp : Lev.apart lo hi a b
    · have g := Lev.apart_not.1 hp
      exact add_within t u F lo hi a b x 0 w h hp (Lev.within_iff.2 (by omega)) hx1 hx2 hB1 hB2
    · exact add_apart t u F lo hi a b x 0 w h hp
  | succ n ih =>
    intro t u F lo hi a b x w h h0 h1 h2 h3 h4 hx1 hx2 hB1 hB2
    cases hp : Lev.apart lo hi a b
    · cases hw : Lev.within lo hi a b
      · exact add_split n ih t u F lo hi a b x w h hp hw h0 h1 h2 h3 h4 hx1 hx2 hB1 hB2
      · exact add_within t u F lo hi a b x _ w h hp hw hx1 hx2 hB1 hB2
    · exact add_apart t u F lo hi a b x _ w h hp

end Go.Proofs.YtjfkfiffakbagaaGreatDoor


/-
  Package levels: most; the methods Add and Most of the tree.
-/
namespace Go.Proofs.YtjfkfiffakbagaaGreatDoor
open Go.RowKit

theorem LRep.later {w w' : World} {t : Lev.T} {p : Value} {F : List Nat} (h : LRep w t p F) (k : Below w.heap.size w w') : LRep w' t p F := h.same (Off.of_below k)

set_option maxHeartbeats 1000000 in
theorem most_nil (lo hi a b : Int) (w : World) :
    Calls Tryz.prog 203 #[.pointer none, .agg #[.int .i64 lo, .int .i64 hi], .agg #[.int .i64 a, .int .i64 b]] w fun e w' => e = .returned (.int .i64 0) ∧ Below w.heap.size w w' := by
  go_enter Tryz.func203, Tryz.ntmps203
  go_wp2_with fail
  go_ret
  exact ⟨rfl, ((Below.refl _ _).alloc (Nat.le_refl _) _).alloc (by simp) _⟩

/-- The world ahead of the two calls of itself. -/
def MS (X w' : World) (bk N M : Nat) (c lo hi a b : Int) (pl pr : Option Addr) : Prop :=
  w'.cell? ⟨bk, 0, none⟩ = some (.int .i64 c) ∧ w'.cell? ⟨bk, 3, none⟩ = some (.pointer pl) ∧ w'.cell? ⟨bk, 4, none⟩ = some (.pointer pr) ∧ w'.cell? ⟨N, 0, none⟩ = some (.int .i64 a) ∧ w'.cell? ⟨N, 1, none⟩ = some (.int .i64 b) ∧ w'.cell? ⟨M, 0, none⟩ = some (.int .i64 lo) ∧ w'.cell? ⟨M, 1, none⟩ = some (.int .i64 (Lev.mid lo hi)) ∧ w'.cell? ⟨M + 1, 0, none⟩ = some (.int .i64 (Lev.mid lo hi)) ∧ w'.cell? ⟨M + 1, 1, none⟩ = some (.int .i64 hi) ∧ Below X.heap.size X w'
theorem MS.later {X w' w'' : World} {bk N M : Nat} {c lo hi a b : Int} {pl pr : Option Addr} (h : MS X w' bk N M c lo hi a b pl pr) (k : Below w'.heap.size w' w'') : MS X w'' bk N M c lo hi a b pl pr := by
  obtain ⟨h1, h2, h3, h4, h5, h6, h7, h8, h9, h10⟩ := h
  exact ⟨cellLater k h1, cellLater k h2, cellLater k h3, cellLater k h4, cellLater k h5, cellLater k h6, cellLater k h7, cellLater k h8, cellLater k h9, blwMore h10 k (Nat.le_refl _)⟩

theorem mostT_bd {t : Lev.T} {lo hi a b : Int} (hg : Lev.Good t lo hi) (hB : LB t) (h1 : lo < hi) (h2 : a < b) : 0 ≤ Lev.mostT t lo hi a b ∧ Lev.mostT t lo hi a b ≤ 100000000 := by
  have := hB.top
  cases hp : Lev.apart lo hi a b
  · obtain ⟨k0, _, x, k1, k2, _, _, k5⟩ := Lev.mostT_is t lo hi a b h1 h2 hg hp
    have := (Lev.top_is t lo hi h1 hg).1 x k1 k2
    omega
  · rw [Lev.mostT_apart hp]; omega

set_option maxRecDepth 100000 in
set_option maxHeartbeats 4000000 in
theorem most_any : ∀ (t : Lev.T) (u : Option Addr) (F : List Nat) (lo hi a b : Int) (w : World), LRep w t (.pointer u) F → LB t → Lev.Good t lo hi → 0 ≤ lo → lo < hi → hi ≤ 2000000 → a < b →
    Calls Tryz.prog 203 #[.pointer u, .agg #[.int .i64 lo, .int .i64 hi], .agg #[.int .i64 a, .int .i64 b]] w fun e w' => e = .returned (.int .i64 (Lev.mostT t lo hi a b)) ∧ Below w.heap.size w w' := by
  intro t
  induction t with
  | nil =>
    intro u F lo hi a b w h _ _ _ _ _ _
    obtain ⟨hu, _⟩ := h
    cases hu
    exact most_nil lo hi a b w
  | node c l r ihl ihr =>
    intro u F lo hi a b w h hB hg h0 h1 h2 h4
    obtain ⟨bk, pl, pr, Fl, Fr, rfl, rfl, hh⟩ := half_of h
    have IHL := hidp ihl
    have IHR := hidp ihr
    clear ihl ihr
    have c1 : w.cell? ⟨bk, 1, none⟩ = some (.int .i64 (Lev.top (.node c l r))) := by
      obtain ⟨b', _, _, _, _, hp, _, c1, _⟩ := h; cases hp; exact c1
    clear h
    cases hp : Lev.apart lo hi a b
    · cases hw : Lev.within lo hi a b
      · have em : Lev.mostT (.node c l r) lo hi a b = c + max (Lev.mostT l lo (Lev.mid lo hi) a b) (Lev.mostT r (Lev.mid lo hi) hi a b) := by simp [Lev.mostT, hp, hw]
        have g1 := Lev.apart_not.1 hp
        have g2 := Lev.within_not.1 hw
        have hm : lo < Lev.mid lo hi ∧ Lev.mid lo hi < hi := by unfold Lev.mid; omega
        have bl := mostT_bd (a := a) (b := b) hg.2.2.1 hB.2.2.2.1 hm.1 h4
        have br := mostT_bd (a := a) (b := b) hg.2.2.2 hB.2.2.2.2 hm.2 h4
        have hc := hB.1
        have I1 : Hid (∀ (w : World), LRep w l (.pointer pl) Fl → Calls Tryz.prog 203 #[.pointer pl, .agg #[.int .i64 lo, .int .i64 (Lev.mid lo hi)], .agg #[.int .i64 a, .int .i64 b]] w fun e w' => e = .returned (.int .i64 (Lev.mostT l lo (Lev.mid lo hi) a b)) ∧ Below w.heap.size w w') :=
          fun w k => IHL.out _ _ _ _ _ _ _ k hB.2.2.2.1 hg.2.2.1 h0 hm.1 (by omega) h4
        have I2 : Hid (∀ (w : World), LRep w r (.pointer pr) Fr → Calls Tryz.prog 203 #[.pointer pr, .agg #[.int .i64 (Lev.mid lo hi), .int .i64 hi], .agg #[.int .i64 a, .int .i64 b]] w fun e w' => e = .returned (.int .i64 (Lev.mostT r (Lev.mid lo hi) hi a b)) ∧ Below w.heap.size w w') :=
          fun w k => IHR.out _ _ _ _ _ _ _ k hB.2.2.2.2 hg.2.2.2 (by omega) hm.2 h2 h4
        rw [em]
        clear em IHL IHR g1 g2 hg hB c1
        generalize Lev.mostT l lo (Lev.mid lo hi) a b = ml at *
        generalize Lev.mostT r (Lev.mid lo hi) hi a b = mr at *
        have c0 := hh.c0
        have c3 := hh.c3
        have c4 := hh.c4
        have RL := hidp hh.l
        have RR := hidp hh.r
        clear hh
        have e5 : IntKind.i64.wrap (c + if ml < mr then mr else ml) = c + max ml mr := by rw [max_if]; exact wrap_small (by omega) (by omega)
        have E5 := hidp e5
        clear e5
        go_enter Tryz.func203, Tryz.ntmps203
        go_wp2_with fail
        refine (areApart_any _ _ _ _ _).mono ?_
        rintro e w1 ⟨rfl, hb⟩
        rw [hp]
        have ⟨q0, q1, q2, q3, hs, hB⟩ := boxes hb
        have d0 := cellLater hB c0
        have d3 := cellLater hB c3
        have d4 := cellLater hB c4
        have HB := hidp hB
        clear hB hb c0 c3 c4
        go_wp2_with fail
        refine (isWithin_any _ _ _ _ _).mono ?_
        rintro e w2 ⟨rfl, hb⟩
        rw [hw]
        have HC := hidp (blwMore HB.out hb (Nat.le_refl _))
        have r0 : w2.cell? ⟨w.heap.size, 0, none⟩ = some (.int .i64 lo) := cellLater hb q0
        have r1 : w2.cell? ⟨w.heap.size, 1, none⟩ = some (.int .i64 hi) := cellLater hb q1
        have r2 : w2.cell? ⟨w.heap.size + 1, 0, none⟩ = some (.int .i64 a) := cellLater hb q2
        have r3 : w2.cell? ⟨w.heap.size + 1, 1, none⟩ = some (.int .i64 b) := cellLater hb q3
        have e0 := cellLater hb d0
        have e3 := cellLater hb d3
        have e4 := cellLater hb d4
        clear HB hb q0 q1 q2 q3 hs d0 d3 d4
        go_wp2_with fail
        refine (halves_any _ _ _ (by omega) (by omega) (by omega)).mono ?_
        rintro e w3 ⟨rfl, hb⟩
        have hX : Below w2.heap.size w2 ((w3.alloc (.cells #[.int .i64 lo, .int .i64 (Lev.mid lo hi)] 60)).alloc (.cells #[.int .i64 (Lev.mid lo hi), .int .i64 hi] 60)) := (hb.alloc hb.size _).alloc (by have := hb.size; simp; omega) _
        have hM : MS ((w3.alloc (.cells #[.int .i64 lo, .int .i64 (Lev.mid lo hi)] 60)).alloc (.cells #[.int .i64 (Lev.mid lo hi), .int .i64 hi] 60)) ((w3.alloc (.cells #[.int .i64 lo, .int .i64 (Lev.mid lo hi)] 60)).alloc (.cells #[.int .i64 (Lev.mid lo hi), .int .i64 hi] 60)) bk (w.heap.size + 1) w3.heap.size c lo hi a b pl pr :=
          ⟨cellLater hX e0, cellLater hX e3, cellLater hX e4, cellLater hX r2, cellLater hX r3, by simp, by simp, by simp, by simp, Below.refl _ _⟩
        have HX := hidp (And.intro (blwMore HC.out hX (Nat.le_refl _)) (And.intro (RL.out.later (blwMore HC.out hX (Nat.le_refl _))) (RR.out.later (blwMore HC.out hX (Nat.le_refl _)))))
        clear HC RL RR hX hb r0 r1 r2 r3 e0 e3 e4
        go_upto_region 6 with fail
        generalize (World.alloc _ (.cells #[.int .i64 (Lev.mid lo hi), .int .i64 hi] 60)) = X at hM HX ⊢
        generalize w3.heap.size = M at hM ⊢
        go_region_held3 (fun w' => w'.cell? ⟨bk, 0, none⟩ = some (.int .i64 c) ∧ w'.cell? ⟨bk, 3, none⟩ = some (.pointer pl) ∧ w'.cell? ⟨bk, 4, none⟩ = some (.pointer pr) ∧ w'.cell? ⟨w.heap.size + 1, 0, none⟩ = some (.int .i64 a) ∧ w'.cell? ⟨w.heap.size + 1, 1, none⟩ = some (.int .i64 b) ∧ w'.cell? ⟨M, 0, none⟩ = some (.int .i64 lo) ∧ w'.cell? ⟨M, 1, none⟩ = some (.int .i64 (Lev.mid lo hi)) ∧ w'.cell? ⟨M + 1, 0, none⟩ = some (.int .i64 (Lev.mid lo hi)) ∧ w'.cell? ⟨M + 1, 1, none⟩ = some (.int .i64 hi) ∧ Below X.heap.size X w')
          (first
            | exact MS.later hM (blwDrew _)
            | (go_split_ands; exact MS.later hM (blwMore (by assumption) hbf (Nat.le_refl _))))
          (first
            | (go_at_call_of 203 (Value.pointer pl); go_split_ands; refine (I1.out _ (HX.out.2.1.later (by assumption))).mono ?_; rintro e w4 ⟨rfl, hbf⟩)
            | (go_at_call_of 203 (Value.pointer pr); go_split_ands; refine (I2.out _ (HX.out.2.2.later (by assumption))).mono ?_; rintro e w4 ⟨rfl, hbf⟩))
        rw [E5.out, max_if0]
        have HF := hidp (blwMore HX.out.1 (by go_split_ands; assumption : Below X.heap.size X w4) (Nat.le_refl _))
        clear hM HX I1 I2
        go_wp2_with fail
        go_ret
        exact ⟨rfl, HF.out⟩
      · have em : Lev.mostT (.node c l r) lo hi a b = Lev.top (.node c l r) := by simp [Lev.mostT, hp, hw, Lev.top]
        rw [em]
        clear em
        generalize Lev.top (.node c l r) = tp at c1 ⊢
        go_enter Tryz.func203, Tryz.ntmps203
        go_wp2_with fail
        refine (areApart_any _ _ _ _ _).mono ?_
        rintro e w1 ⟨rfl, hb⟩
        rw [hp]
        have ⟨q0, q1, q2, q3, hs, hB⟩ := boxes hb
        have d1 := cellLater hB c1
        have HB := hidp hB
        clear hB hb c1
        go_wp2_with fail
        refine (isWithin_any _ _ _ _ _).mono ?_
        rintro e w2 ⟨rfl, hb⟩
        rw [hw]
        have d2 := cellLater hb d1
        have HC := hidp (blwMore HB.out hb (Nat.le_refl _))
        clear HB hb q0 q1 q2 q3 hs d1
        go_wp2_with fail
        go_ret
        exact ⟨rfl, HC.out⟩
    · have em : Lev.mostT (.node c l r) lo hi a b = 0 := Lev.mostT_apart hp
      rw [em]
      clear em
      go_enter Tryz.func203, Tryz.ntmps203
      go_wp2_with fail
      refine (areApart_any _ _ _ _ _).mono ?_
      rintro e w1 ⟨rfl, hb⟩
      rw [hp]
      have HB := hidp (boxes hb).bw
      clear hb
      go_wp2_with fail
      go_ret
      exact ⟨rfl, HB.out⟩

/-- The tree of a thing: its one cell. -/
theorem minutes_any (w : World) : Calls Tryz.prog 204 #[] w fun e w' => e = .returned (.agg #[.int .i64 0, .int .i64 1048320]) ∧ Below w.heap.size w w' := by
  go_enter Tryz.func204, Tryz.ntmps204
  go_wp2
  exact bodyPost_ret (v := .agg #[.int .i64 0, .int .i64 1048320]) (by simp [results, Tryz.results204, go_sem]) rfl ⟨rfl, (Below.refl _ _).alloc (Nat.le_refl _) _⟩

set_option maxRecDepth 100000 in
set_option maxHeartbeats 4000000 in
theorem Most_any (t : Lev.T) (tb o : Nat) (u : Option Addr) (F : List Nat) (a b : Int) (w : World) (c : w.cell? ⟨tb, o, none⟩ = some (.pointer u)) (h : LRep w t (.pointer u) F) (hB : LB t) (hg : Lev.Good t 0 1048320) (h1 : a < b) :
    Calls Tryz.prog 150 #[.pointer (some ⟨tb, o, none⟩), .agg #[.int .i64 a, .int .i64 b]] w fun e w' => e = .returned (.int .i64 (Lev.mostT t 0 1048320 a b)) ∧ Below w.heap.size w w' := by
  have HR := hidp h
  clear h
  go_enter Tryz.func150, Tryz.ntmps150
  go_upto_region 1 with fail
  have hX : Below w.heap.size w (w.alloc (.cells #[.int .i64 a, .int .i64 b] 60)) := (Below.refl _ _).alloc (Nat.le_refl _) _
  have x0 : (w.alloc (.cells #[.int .i64 a, .int .i64 b] 60)).cell? ⟨w.heap.size, 0, none⟩ = some (.int .i64 a) := by simp
  have x1 : (w.alloc (.cells #[.int .i64 a, .int .i64 b] 60)).cell? ⟨w.heap.size, 1, none⟩ = some (.int .i64 b) := by simp
  have xc := cellLater hX c
  have HX := hidp hX
  clear hX
  generalize (World.alloc w (.cells #[.int .i64 a, .int .i64 b] 60)) = X at x0 x1 xc HX ⊢
  go_region_held3 (fun w' => w'.cell? ⟨tb, o, none⟩ = some (.pointer u) ∧ w'.cell? ⟨w.heap.size, 0, none⟩ = some (.int .i64 a) ∧ w'.cell? ⟨w.heap.size, 1, none⟩ = some (.int .i64 b) ∧ Below X.heap.size X w')
    (first
      | exact ⟨xc, x0, x1, blwDrew _⟩
      | (go_split_ands; exact ⟨cellLater hbf (by assumption), cellLater hbf (by assumption), cellLater hbf (by assumption), blwMore (by assumption) hbf (Nat.le_refl _)⟩))
    (first
      | (go_at_call 204; go_split_ands; refine (minutes_any _).mono ?_; rintro e w4 ⟨rfl, hbf⟩)
      | (go_at_call 203; go_split_ands; refine (most_any t u F 0 1048320 a b _ (HR.out.later (blwMore HX.out (by assumption) (Nat.le_refl _))) hB hg (by omega) (by omega) (by omega) h1).mono ?_; rintro e w4 ⟨rfl, hbf⟩))
  have HF := hidp (blwMore HX.out (by go_split_ands; assumption : Below X.heap.size X w4) (Nat.le_refl _))
  clear HX HR
  go_wp2_with fail
  go_ret
  exact ⟨rfl, HF.out⟩

/-- What Add leaves: the tree t' at that cell; its blocks are those of the tree or new; the rest of the block is as it was. -/
def AddPost (w : World) (tb o : Nat) (F : List Nat) (t' : Lev.T) (w' : World) : Prop :=
  ∃ (u' : Option Addr) (F' : List Nat), w'.cell? ⟨tb, o, none⟩ = some (.pointer u') ∧ LRep w' t' (.pointer u') F' ∧ (∀ k ∈ F', k ∈ F ∨ w.heap.size ≤ k) ∧ Off (tb :: F) w w' ∧ (∀ o', o' ≠ o → w'.cell? ⟨tb, o', none⟩ = w.cell? ⟨tb, o', none⟩) ∧ ∀ o', w'.frozen? ⟨tb, o', none⟩ = w.frozen? ⟨tb, o', none⟩
theorem add_fin {w w4 w5 : World} {tb o : Nat} {F F5 : List Nat} {t' : Lev.T} {v : Value} {u5 : Option Addr} (h1 : Below w.heap.size w w4) (htb : tb < w.heap.size) (hn : tb ∉ F) (k1 : LRep w5 t' (.pointer u5) F5) (k2 : ∀ k ∈ F5, k ∈ F ∨ w4.heap.size ≤ k) (k3 : Off F w4 w5) (z0 : w5.cell? ⟨tb, o, none⟩ = some v) : AddPost w tb o F t' (w5.setCell ⟨tb, o, none⟩ (.pointer u5)) := by
  have hs := h1.size
  have o4 : Off [] w w4 := Off.of_below h1
  have hn5 : tb ∉ F5 := fun e => by rcases k2 tb e with h | h; exact hn h; omega
  have e5 : w5.heap[tb]? = w.heap[tb]? := (k3.block tb (by omega) hn).trans (o4.block tb htb (by simp))
  refine ⟨u5, F5, World.cell?_setCell_same _ _ _ z0, k1.off (Off.set0 ..) (fun x hx => by simp; rintro rfl; exact hn5 hx), fun k hk => ?_, ?_, fun o' ho => ?_, fun o' => ?_⟩
  · rcases k2 k hk with h | h
    · exact .inl h
    · exact .inr (by omega)
  · exact ((Off.of_below (F := tb :: F) h1).trans (k3.mono (by intro x hx; simp [hx]))).setCell (.inl (by simp)) _ _
  · exact (World.cell?_setCell_other _ _ _ _ (by simp)).trans (World.cell?_of_block (w := w) e5)
  · refine (World.frozen?_setCell ..).trans ?_
    simp only [World.frozen?, e5]

set_option maxRecDepth 100000 in
set_option maxHeartbeats 4000000 in
theorem Add_any (t : Lev.T) (tb o : Nat) (u : Option Addr) (F : List Nat) (a b x : Int) (w : World) (c : w.cell? ⟨tb, o, none⟩ = some (.pointer u)) (f : w.frozen? ⟨tb, o, none⟩ = false) (hn : tb ∉ F) (h : LRep w t (.pointer u) F) (h1 : a < b) (hx1 : -1000000 ≤ x) (hx2 : x ≤ 1000000) (hB1 : LB t) (hB2 : LB (Lev.addT 20 t 0 1048320 a b x)) :
    Calls Tryz.prog 211 #[.pointer (some ⟨tb, o, none⟩), .agg #[.int .i64 a, .int .i64 b], .int .i64 x] w fun e w' => e = .returned (.tuple #[]) ∧ AddPost w tb o F (Lev.addT 20 t 0 1048320 a b x) w' := by
  have AS : Hid (∀ (w' : World), LRep w' t (.pointer u) F → Calls Tryz.prog 253 #[.pointer u, .agg #[.int .i64 0, .int .i64 1048320], .agg #[.int .i64 a, .int .i64 b], .int .i64 x] w' (Added w' F (Lev.addT 20 t 0 1048320 a b x))) :=
    fun w' k => addSays 20 t u F 0 1048320 a b x w' k (by omega) (by omega) (by omega) (by decide) h1 hx1 hx2 hB1 hB2
  have HR := hidp h
  have htb := World.block_lt_of_cell? _ _ c
  generalize Lev.addT 20 t 0 1048320 a b x = t' at *
  clear h hB1 hB2
  go_enter Tryz.func211, Tryz.ntmps211
  go_upto_region 1 with fail
  have hX : Below w.heap.size w (w.alloc (.cells #[.int .i64 a, .int .i64 b] 60)) := (Below.refl _ _).alloc (Nat.le_refl _) _
  have x0 : (w.alloc (.cells #[.int .i64 a, .int .i64 b] 60)).cell? ⟨w.heap.size, 0, none⟩ = some (.int .i64 a) := by simp
  have x1 : (w.alloc (.cells #[.int .i64 a, .int .i64 b] 60)).cell? ⟨w.heap.size, 1, none⟩ = some (.int .i64 b) := by simp
  have xc := cellLater hX c
  have HX := hidp hX
  clear hX
  generalize (World.alloc w (.cells #[.int .i64 a, .int .i64 b] 60)) = X at x0 x1 xc HX ⊢
  go_region_with (first
    | (go_at_call 204; refine (minutes_any _).mono ?_; rintro e w4 ⟨rfl, hbf⟩; have y0 := cellLater hbf (show World.cell? (World.drew X) _ = _ from x0); have y1 := cellLater hbf (show World.cell? (World.drew X) _ = _ from x1); have yc := cellLater hbf (show World.cell? (World.drew X) _ = _ from xc))
    | (go_at_call 253; refine (AS.out _ (HR.out.later (blwMore HX.out (blwMore (blwDrew _) hbf (Nat.le_refl _)) (Nat.le_refl _)))).mono ?_; rintro e w5 ⟨u5, F5, rfl, k1, k2, k3⟩; have z0 := k3.cell hn yc; have zf := (k3.frozen (o := o) hn (World.block_lt_of_cell? _ _ yc)).trans (((Off.of_below (F := []) (blwMore HX.out (blwMore (blwDrew _) hbf (Nat.le_refl _)) (Nat.le_refl _))).frozen (by simp) htb).trans f)))
  all_goals
    have HK := hidp (add_fin (blwMore HX.out (blwMore (blwDrew _) hbf (Nat.le_refl _)) (Nat.le_refl _)) htb hn k1 k2 k3 z0)
    clear k1 k2 k3 z0 zf y0 y1 yc x0 x1 xc HX HR AS
    go_wp2_with fail
    go_end0
    exact ⟨rfl, HK.out⟩

end Go.Proofs.YtjfkfiffakbagaaGreatDoor


/-
  Package levels: the two questions of Room; firstMinute.
-/
namespace Go.Proofs.YtjfkfiffakbagaaGreatDoor
open Go.RowKit

end Go.Proofs.YtjfkfiffakbagaaGreatDoor


/-
  Package levels: firstMinute at a part that has halves.
-/
namespace Go.Proofs.YtjfkfiffakbagaaGreatDoor
open Go.RowKit

/-- The world ahead of the two calls of itself. -/
def FS (X w' : World) (bk N M : Nat) (v lo hi a b : Int) (pl pr : Option Addr) : Prop :=
  w'.cell? ⟨bk, 0, none⟩ = some (.int .i64 v) ∧ w'.cell? ⟨bk, 3, none⟩ = some (.pointer pl) ∧ w'.cell? ⟨bk, 4, none⟩ = some (.pointer pr) ∧ w'.cell? ⟨N, 0, none⟩ = some (.int .i64 a) ∧ w'.cell? ⟨N, 1, none⟩ = some (.int .i64 b) ∧ w'.cell? ⟨M, 0, none⟩ = some (.int .i64 lo) ∧ w'.cell? ⟨M, 1, none⟩ = some (.int .i64 (Lev.mid lo hi)) ∧ w'.cell? ⟨M + 1, 0, none⟩ = some (.int .i64 (Lev.mid lo hi)) ∧ w'.cell? ⟨M + 1, 1, none⟩ = some (.int .i64 hi) ∧ Below X.heap.size X w'

theorem FS.later {X w' w'' : World} {bk N M : Nat} {v lo hi a b : Int} {pl pr : Option Addr} (h : FS X w' bk N M v lo hi a b pl pr) (k : Below w'.heap.size w' w'') : FS X w'' bk N M v lo hi a b pl pr := by
  obtain ⟨h1, h2, h3, h4, h5, h6, h7, h8, h9, h10⟩ := h
  exact ⟨cellLater k h1, cellLater k h2, cellLater k h3, cellLater k h4, cellLater k h5, cellLater k h6, cellLater k h7, cellLater k h8, cellLater k h9, blwMore h10 k (Nat.le_refl _)⟩

end Go.Proofs.YtjfkfiffakbagaaGreatDoor


/-
  Package levels: firstMinute at a part that has halves, for each of the two questions.
-/
namespace Go.Proofs.YtjfkfiffakbagaaGreatDoor
open Go.RowKit

end Go.Proofs.YtjfkfiffakbagaaGreatDoor


/-
  Package levels: firstMinute at a part that has halves, for each of the two questions.
-/
namespace Go.Proofs.YtjfkfiffakbagaaGreatDoor
open Go.RowKit

end Go.Proofs.YtjfkfiffakbagaaGreatDoor


/-
  Package levels: firstMinute whole; Room.
-/
namespace Go.Proofs.YtjfkfiffakbagaaGreatDoor
open Go.RowKit

end Go.Proofs.YtjfkfiffakbagaaGreatDoor


/-
  A balanced tree of spans, as mathematics: what is put, dropped and gone through, in its order.
-/
namespace Go.Proofs.YtjfkfiffakbagaaGreatDoor
namespace Avl

/-- What is kept: from, to, the number, and where the value lies. -/
structure It where
  f : Int
  t : Int
  n : Int
  v : Nat

inductive S where
  | nil : S
  | node (x : It) (l r : S) : S

def isNil : S → Bool
  | .nil => true
  | .node .. => false
def left : S → S
  | .nil => .nil
  | .node _ l _ => l
def right : S → S
  | .nil => .nil
  | .node _ _ r => r
def ht : S → Int
  | .nil => 0
  | .node _ l r => 1 + max (ht l) (ht r)
def lateOf (x : Int) (l r : S) (dl dr : Int) : Int :=
  let m := if isNil l then x else max x dl
  if isNil r then m else max m dr
def late : S → Int
  | .nil => 0
  | .node x l r => lateOf x.t l r (late l) (late r)
def size : S → Nat
  | .nil => 0
  | .node _ l r => 1 + size l + size r
def inord : S → List It
  | .nil => []
  | .node x l r => inord l ++ x :: inord r

def side (f n : Int) (x : It) : Int := if f < x.f then -1 else if x.f < f then 1 else if n < x.n then -1 else if x.n < n then 1 else 0

def rotR : S → S
  | .node x (.node y a b) r => .node y a (.node x b r)
  | t => t
def rotL : S → S
  | .node x l (.node y a b) => .node y (.node x l a) b
  | t => t
def balL (x : It) (l r : S) : S := rotR (.node x (if ht (left l) < ht (right l) then rotL l else l) r)
def balR (x : It) (l r : S) : S := rotL (.node x l (if ht (right r) < ht (left r) then rotR r else r))
def bal (x : It) (l r : S) : S := if 1 < ht l - ht r then balL x l r else if ht l - ht r < -1 then balR x l r else .node x l r

def put (x : It) : S → S
  | .nil => bal x .nil .nil
  | .node y l r => if side x.f x.n y < 0 then bal y (put x l) r else if 0 < side x.f x.n y then bal y l (put x r) else bal { y with t := x.t, v := x.v } l r
def takeF : It → S → S → It
  | x, .nil, _ => x
  | _, .node y a b, _ => takeF y a b
def takeR : It → S → S → S
  | _, .nil, r => r
  | x, .node y a b, r => bal x (takeR y a b) r
def joined (l : S) : S → S
  | .nil => l
  | .node y a b => bal (takeF y a b) l (takeR y a b)
def drop (f n : Int) : S → S
  | .nil => .nil
  | .node y l r => if side f n y < 0 then bal y (drop f n l) r else if 0 < side f n y then bal y l (drop f n r) else joined l r

theorem ht_nonneg : ∀ t : S, 0 ≤ ht t
  | .nil => by simp [ht]
  | .node _ l r => by have := ht_nonneg l; have := ht_nonneg r; simp only [ht]; omega
theorem ht_size : ∀ t : S, ht t ≤ size t
  | .nil => by simp [ht, size]
  | .node _ l r => by have := ht_size l; have := ht_size r; simp only [ht, size]; omega
theorem isNil_eq {t : S} (h : isNil t = true) : t = .nil := by cases t <;> simp_all [isNil]
theorem node_of_ht {t : S} (h : 0 < ht t) : ∃ x l r, t = .node x l r := by
  cases t with
  | nil => simp [ht] at h
  | node x l r => exact ⟨x, l, r, rfl⟩

theorem inord_rotR (t : S) : inord (rotR t) = inord t := by
  cases t with
  | nil => rfl
  | node x l r => cases l <;> simp [rotR, inord]
theorem inord_rotL (t : S) : inord (rotL t) = inord t := by
  cases t with
  | nil => rfl
  | node x l r => cases r <;> simp [rotL, inord]
theorem inord_bal (x : It) (l r : S) : inord (bal x l r) = inord l ++ x :: inord r := by
  unfold bal
  split
  · unfold balL; rw [inord_rotR]; split <;> simp [inord, inord_rotL]
  · split
    · unfold balR; rw [inord_rotL]; split <;> simp [inord, inord_rotR]
    · rfl
theorem size_inord : ∀ t : S, (inord t).length = size t
  | .nil => rfl
  | .node x l r => by have := size_inord l; have := size_inord r; simp only [inord, size, List.length_append, List.length_cons]; omega
/-- What stands ahead of what. -/
def lt (x y : It) : Prop := x.f < y.f ∨ (x.f = y.f ∧ x.n < y.n)
theorem side_neg {f n : Int} {x : It} : side f n x < 0 ↔ f < x.f ∨ (f = x.f ∧ n < x.n) := by
  unfold side; repeat' split
  all_goals omega
theorem side_pos {f n : Int} {x : It} : 0 < side f n x ↔ x.f < f ∨ (f = x.f ∧ x.n < n) := by
  unfold side; repeat' split
  all_goals omega
def ins (x : It) : List It → List It
  | [] => [x]
  | y :: r => if side x.f x.n y < 0 then x :: y :: r else y :: ins x r
theorem ins_ahead {x y : It} (h : side x.f x.n y < 0) (R : List It) : ∀ L : List It, ins x (L ++ y :: R) = ins x L ++ y :: R
  | [] => by simp [ins, h]
  | z :: L => by
    simp only [List.cons_append, ins]
    split
    · simp
    · rw [ins_ahead h R L]; simp
theorem ins_behind {x : It} (R : List It) : ∀ L : List It, (∀ z ∈ L, ¬ side x.f x.n z < 0) → ins x (L ++ R) = L ++ ins x R
  | [], _ => rfl
  | z :: L, h => by
    simp only [List.cons_append, ins]
    rw [if_neg (h z (by simp)), ins_behind R L (fun y hy => h y (by simp [hy]))]

def Ord (l : List It) : Prop := l.Pairwise lt
theorem ord_node {x : It} {l r : S} (h : Ord (inord (.node x l r))) : Ord (inord l) ∧ Ord (inord r) ∧ (∀ z ∈ inord l, lt z x) ∧ (∀ z ∈ inord r, lt x z) := by
  simp only [inord, Ord, List.pairwise_append, List.pairwise_cons] at h
  exact ⟨h.1, h.2.1.2, fun z hz => h.2.2 z hz x (by simp), h.2.1.1⟩

theorem inord_put (x : It) : ∀ t : S, Ord (inord t) → (∀ z ∈ inord t, ¬ (z.f = x.f ∧ z.n = x.n)) → inord (put x t) = ins x (inord t)
  | .nil, _, _ => by simp [put, inord_bal, inord, ins]
  | .node y l r, h, hn => by
    obtain ⟨h1, h2, h3, h4⟩ := ord_node h
    have hy := hn y (by simp [inord])
    unfold put
    by_cases a : side x.f x.n y < 0
    · rw [if_pos a, inord_bal, inord_put x l h1 (fun z hz => hn z (by simp [inord, hz]))]
      simp only [inord]; rw [ins_ahead a]
    · by_cases b : 0 < side x.f x.n y
      · rw [if_neg a, if_pos b, inord_bal, inord_put x r h2 (fun z hz => hn z (by simp [inord, hz]))]
        simp only [inord]
        rw [ins_behind _ _ (fun z hz => ?_)]
        · simp [ins, a]
        · have := h3 z hz
          rw [side_neg]; rw [side_pos] at b; unfold lt at this; omega
      · rw [side_neg] at a; rw [side_pos] at b; omega

theorem mem_ins {x z : It} : ∀ {l : List It}, z ∈ ins x l ↔ z = x ∨ z ∈ l
  | [] => by simp [ins]
  | y :: r => by
    simp only [ins]; split
    · simp
    · simp [mem_ins (l := r)]
      constructor
      · rintro (h | h | h)
        · exact .inr (.inl h)
        · exact .inl h
        · exact .inr (.inr h)
      · rintro (h | h | h)
        · exact .inr (.inl h)
        · exact .inl h
        · exact .inr (.inr h)
theorem length_ins (x : It) : ∀ l : List It, (ins x l).length = l.length + 1
  | [] => rfl
  | y :: r => by
    simp only [ins]; split
    · simp
    · simp [length_ins x r]
theorem ord_ins {x : It} : ∀ {l : List It}, Ord l → (∀ z ∈ l, ¬ (z.f = x.f ∧ z.n = x.n)) → Ord (ins x l)
  | [], _, _ => by simp [ins, Ord]
  | y :: r, h, hn => by
    simp only [Ord, List.pairwise_cons] at h
    have hy := hn y (by simp)
    simp only [ins]; split
    · rename_i a
      rw [side_neg] at a
      refine List.pairwise_cons.2 ⟨fun z hz => ?_, List.pairwise_cons.2 h⟩
      rcases List.mem_cons.1 hz with rfl | hz
      · unfold lt; omega
      · have := h.1 z hz; unfold lt at *; omega
    · rename_i a
      refine List.pairwise_cons.2 ⟨fun z hz => ?_, ord_ins h.2 (fun z hz => hn z (by simp [hz]))⟩
      rcases mem_ins.1 hz with rfl | hz
      · rw [side_neg] at a; unfold lt; omega
      · exact h.1 z hz
end Avl
end Go.Proofs.YtjfkfiffakbagaaGreatDoor


/-
  The tree of spans as it lies in memory.
-/
namespace Go.Proofs.YtjfkfiffakbagaaGreatDoor
open Go.RowKit

/-- A node with what it keeps; its measures and sides are whatever they are. -/
structure SNode (w : World) (b : Nat) (x : Avl.It) : Prop where
  c0 : w.cell? ⟨b, 0, none⟩ = some (.int .i64 x.f)
  c1 : w.cell? ⟨b, 1, none⟩ = some (.int .i64 x.t)
  c2 : w.cell? ⟨b, 2, none⟩ = some (.int .i64 x.n)
  c3 : w.cell? ⟨b, 3, none⟩ = some (.pointer (some ⟨x.v, 0, none⟩))
  c4 : ∃ y, w.cell? ⟨b, 4, none⟩ = some (.int .i64 y)
  c5 : ∃ y, w.cell? ⟨b, 5, none⟩ = some (.int .i64 y)
  c6 : ∃ y, w.cell? ⟨b, 6, none⟩ = some (.pointer y)
  c7 : ∃ y, w.cell? ⟨b, 7, none⟩ = some (.pointer y)
  fz : ∀ o, w.frozen? ⟨b, o, none⟩ = false

/-- The tree t lies in w, p its root, F the blocks that it takes. -/
def SRep (w : World) : Avl.S → Value → List Nat → Prop
  | .nil, p, F => p = .pointer none ∧ F = []
  | .node x l r, p, F => ∃ (b : Nat) (pl pr : Option Addr) (Fl Fr : List Nat), p = .pointer (some ⟨b, 0, none⟩) ∧ SNode w b x ∧ w.cell? ⟨b, 4, none⟩ = some (.int .i64 (Avl.late (.node x l r))) ∧ w.cell? ⟨b, 5, none⟩ = some (.int .i64 (Avl.ht (.node x l r))) ∧ w.cell? ⟨b, 6, none⟩ = some (.pointer pl) ∧ w.cell? ⟨b, 7, none⟩ = some (.pointer pr) ∧ SRep w l (.pointer pl) Fl ∧ SRep w r (.pointer pr) Fr ∧ F = b :: (Fl ++ Fr) ∧ F.Nodup

/-- A node whose measures are not taken yet, with its two sides. -/
structure SHalf (w : World) (b : Nat) (x : Avl.It) (l r : Avl.S) (pl pr : Option Addr) (Fl Fr : List Nat) : Prop where
  n : SNode w b x
  c6 : w.cell? ⟨b, 6, none⟩ = some (.pointer pl)
  c7 : w.cell? ⟨b, 7, none⟩ = some (.pointer pr)
  l : SRep w l (.pointer pl) Fl
  r : SRep w r (.pointer pr) Fr
  nd : (b :: (Fl ++ Fr)).Nodup

theorem SNode.lt {w : World} {b : Nat} {x : Avl.It} (h : SNode w b x) : b < w.heap.size := World.block_lt_of_cell? _ _ h.c0
theorem SNode.off {w w' : World} {b : Nat} {x : Avl.It} {G : List Nat} (h : SNode w b x) (k : Off G w w') (hb : b ∉ G) : SNode w' b x :=
  ⟨k.cell hb h.c0, k.cell hb h.c1, k.cell hb h.c2, k.cell hb h.c3, h.c4.imp (fun _ => k.cell hb), h.c5.imp (fun _ => k.cell hb), h.c6.imp (fun _ => k.cell hb), h.c7.imp (fun _ => k.cell hb), fun o => (k.frozen hb h.lt).trans (h.fz o)⟩
theorem SNode.set4 {w : World} {b : Nat} {x : Avl.It} (h : SNode w b x) (y : Int) : SNode (w.setCell ⟨b, 4, none⟩ (.int .i64 y)) b x := by
  obtain ⟨_, e⟩ := h.c4
  exact ⟨(World.cell?_setCell_other _ _ _ _ (by simp)).trans h.c0, (World.cell?_setCell_other _ _ _ _ (by simp)).trans h.c1, (World.cell?_setCell_other _ _ _ _ (by simp)).trans h.c2, (World.cell?_setCell_other _ _ _ _ (by simp)).trans h.c3, ⟨_, World.cell?_setCell_same _ _ _ e⟩, h.c5.imp (fun _ e => (World.cell?_setCell_other _ _ _ _ (by simp)).trans e), h.c6.imp (fun _ e => (World.cell?_setCell_other _ _ _ _ (by simp)).trans e), h.c7.imp (fun _ e => (World.cell?_setCell_other _ _ _ _ (by simp)).trans e), fun o => (World.frozen?_setCell ..).trans (h.fz o)⟩
theorem SNode.set5 {w : World} {b : Nat} {x : Avl.It} (h : SNode w b x) (y : Int) : SNode (w.setCell ⟨b, 5, none⟩ (.int .i64 y)) b x := by
  obtain ⟨_, e⟩ := h.c5
  exact ⟨(World.cell?_setCell_other _ _ _ _ (by simp)).trans h.c0, (World.cell?_setCell_other _ _ _ _ (by simp)).trans h.c1, (World.cell?_setCell_other _ _ _ _ (by simp)).trans h.c2, (World.cell?_setCell_other _ _ _ _ (by simp)).trans h.c3, h.c4.imp (fun _ e => (World.cell?_setCell_other _ _ _ _ (by simp)).trans e), ⟨_, World.cell?_setCell_same _ _ _ e⟩, h.c6.imp (fun _ e => (World.cell?_setCell_other _ _ _ _ (by simp)).trans e), h.c7.imp (fun _ e => (World.cell?_setCell_other _ _ _ _ (by simp)).trans e), fun o => (World.frozen?_setCell ..).trans (h.fz o)⟩
theorem SNode.set6 {w : World} {b : Nat} {x : Avl.It} (h : SNode w b x) (y : Option Addr) : SNode (w.setCell ⟨b, 6, none⟩ (.pointer y)) b x := by
  obtain ⟨_, e⟩ := h.c6
  exact ⟨(World.cell?_setCell_other _ _ _ _ (by simp)).trans h.c0, (World.cell?_setCell_other _ _ _ _ (by simp)).trans h.c1, (World.cell?_setCell_other _ _ _ _ (by simp)).trans h.c2, (World.cell?_setCell_other _ _ _ _ (by simp)).trans h.c3, h.c4.imp (fun _ e => (World.cell?_setCell_other _ _ _ _ (by simp)).trans e), h.c5.imp (fun _ e => (World.cell?_setCell_other _ _ _ _ (by simp)).trans e), ⟨_, World.cell?_setCell_same _ _ _ e⟩, h.c7.imp (fun _ e => (World.cell?_setCell_other _ _ _ _ (by simp)).trans e), fun o => (World.frozen?_setCell ..).trans (h.fz o)⟩
theorem SNode.set7 {w : World} {b : Nat} {x : Avl.It} (h : SNode w b x) (y : Option Addr) : SNode (w.setCell ⟨b, 7, none⟩ (.pointer y)) b x := by
  obtain ⟨_, e⟩ := h.c7
  exact ⟨(World.cell?_setCell_other _ _ _ _ (by simp)).trans h.c0, (World.cell?_setCell_other _ _ _ _ (by simp)).trans h.c1, (World.cell?_setCell_other _ _ _ _ (by simp)).trans h.c2, (World.cell?_setCell_other _ _ _ _ (by simp)).trans h.c3, h.c4.imp (fun _ e => (World.cell?_setCell_other _ _ _ _ (by simp)).trans e), h.c5.imp (fun _ e => (World.cell?_setCell_other _ _ _ _ (by simp)).trans e), h.c6.imp (fun _ e => (World.cell?_setCell_other _ _ _ _ (by simp)).trans e), ⟨_, World.cell?_setCell_same _ _ _ e⟩, fun o => (World.frozen?_setCell ..).trans (h.fz o)⟩

theorem SRep.lt {w : World} : ∀ {t : Avl.S} {p : Value} {F : List Nat}, SRep w t p F → ∀ k ∈ F, k < w.heap.size
  | .nil, p, F, h, k, hk => by rw [h.2] at hk; cases hk
  | .node a l r, p, F, h, k, hk => by
    obtain ⟨b, pl, pr, Fl, Fr, rfl, n, c4, c5, c6, c7, hl, hr, rfl, nd⟩ := h
    rcases List.mem_cons.1 hk with rfl | hk
    · exact n.lt
    · rcases List.mem_append.1 hk with hk | hk
      · exact SRep.lt hl k hk
      · exact SRep.lt hr k hk
theorem SRep.ptr {w : World} {t : Avl.S} {p : Value} {F : List Nat} (h : SRep w t p F) : ∃ u, p = .pointer u := by
  cases t with
  | nil => exact ⟨_, h.1⟩
  | node a l r => obtain ⟨b, _, _, _, _, rfl, _⟩ := h; exact ⟨_, rfl⟩
theorem SRep.off {G : List Nat} {w w' : World} (h : Off G w w') : ∀ {t : Avl.S} {p : Value} {F : List Nat}, SRep w t p F → (∀ k ∈ F, k ∉ G) → SRep w' t p F
  | .nil, p, F, hr, _ => hr
  | .node a l r, p, F, hr, hd => by
    obtain ⟨b, pl, pr, Fl, Fr, rfl, n, c4, c5, c6, c7, hl, hr, rfl, nd⟩ := hr
    have hb : b ∉ G := hd b (by simp)
    exact ⟨b, pl, pr, Fl, Fr, rfl, n.off h hb, h.cell hb c4, h.cell hb c5, h.cell hb c6, h.cell hb c7, SRep.off h hl (fun k hk => hd k (by simp [hk])), SRep.off h hr (fun k hk => hd k (by simp [hk])), rfl, nd⟩
theorem SRep.same {w w' : World} {t : Avl.S} {p : Value} {F : List Nat} (h : SRep w t p F) (k : Off [] w w') : SRep w' t p F := h.off k (fun _ _ => by simp)
theorem SRep.later {w w' : World} {t : Avl.S} {p : Value} {F : List Nat} (h : SRep w t p F) (k : Below w.heap.size w w') : SRep w' t p F := h.same (Off.of_below k)
theorem SRep.nodup {w : World} {t : Avl.S} {p : Value} {F : List Nat} (h : SRep w t p F) : F.Nodup := by
  cases t with
  | nil => rw [h.2]; exact List.nodup_nil
  | node a l r => obtain ⟨b, _, _, _, _, _, _, _, _, _, _, _, _, _, nd⟩ := h; exact nd
theorem SRep.isNone {w : World} {t : Avl.S} {u : Option Addr} {F : List Nat} (h : SRep w t (.pointer u) F) : u.isNone = Avl.isNil t := by
  cases t with
  | nil => obtain ⟨h1, _⟩ := h; cases h1; rfl
  | node a l r => obtain ⟨b, pl, pr, Fl, Fr, hp, _⟩ := h; cases hp; rfl
theorem SRep.half {w : World} {x : Avl.It} {l r : Avl.S} {u : Option Addr} {F : List Nat} (h : SRep w (.node x l r) (.pointer u) F) : ∃ (b : Nat) (pl pr : Option Addr) (Fl Fr : List Nat), u = some ⟨b, 0, none⟩ ∧ F = b :: (Fl ++ Fr) ∧ SHalf w b x l r pl pr Fl Fr ∧ w.cell? ⟨b, 4, none⟩ = some (.int .i64 (Avl.late (.node x l r))) ∧ w.cell? ⟨b, 5, none⟩ = some (.int .i64 (Avl.ht (.node x l r))) := by
  obtain ⟨b, pl, pr, Fl, Fr, hp, n, c4, c5, c6, c7, hl, hr, hF, nd⟩ := h
  cases hp
  exact ⟨b, pl, pr, Fl, Fr, rfl, hF, ⟨n, c6, c7, hl, hr, hF ▸ nd⟩, c4, c5⟩
theorem SHalf.rep {w : World} {b : Nat} {x : Avl.It} {l r : Avl.S} {pl pr : Option Addr} {Fl Fr : List Nat} (h : SHalf w b x l r pl pr Fl Fr) (c4 : w.cell? ⟨b, 4, none⟩ = some (.int .i64 (Avl.late (.node x l r)))) (c5 : w.cell? ⟨b, 5, none⟩ = some (.int .i64 (Avl.ht (.node x l r)))) : SRep w (.node x l r) (.pointer (some ⟨b, 0, none⟩)) (b :: (Fl ++ Fr)) :=
  ⟨b, pl, pr, Fl, Fr, rfl, h.n, c4, c5, h.c6, h.c7, h.l, h.r, rfl, h.nd⟩
theorem SHalf.off {w w' : World} {b : Nat} {x : Avl.It} {l r : Avl.S} {pl pr : Option Addr} {Fl Fr G : List Nat} (h : SHalf w b x l r pl pr Fl Fr) (k : Off G w w') (hb : b ∉ G) (hl : ∀ y ∈ Fl, y ∉ G) (hr : ∀ y ∈ Fr, y ∉ G) : SHalf w' b x l r pl pr Fl Fr :=
  ⟨h.n.off k hb, k.cell hb h.c6, k.cell hb h.c7, h.l.off k hl, h.r.off k hr, h.nd⟩
theorem SHalf.same {w w' : World} {b : Nat} {x : Avl.It} {l r : Avl.S} {pl pr : Option Addr} {Fl Fr : List Nat} (h : SHalf w b x l r pl pr Fl Fr) (k : Off [] w w') : SHalf w' b x l r pl pr Fl Fr := h.off k (by simp) (by simp) (by simp)
theorem SHalf.parts {w : World} {b : Nat} {x : Avl.It} {l r : Avl.S} {pl pr : Option Addr} {Fl Fr : List Nat} (h : SHalf w b x l r pl pr Fl Fr) : b ∉ Fl ∧ b ∉ Fr ∧ (∀ y ∈ Fl, y ∉ [b]) ∧ (∀ y ∈ Fr, y ∉ [b]) ∧ (∀ y ∈ Fr, y ∉ Fl) ∧ (∀ y ∈ Fl, y ∉ Fr) ∧ Fl.Nodup ∧ Fr.Nodup := by
  have nd := h.nd
  rw [List.nodup_cons, List.nodup_append] at nd
  obtain ⟨n1, n2, n3, n4⟩ := nd
  exact ⟨fun e => n1 (by simp [e]), fun e => n1 (by simp [e]), fun y hy => by simp; rintro rfl; exact n1 (by simp [hy]), fun y hy => by simp; rintro rfl; exact n1 (by simp [hy]), fun y hx hy => n4 y hy y hx rfl, fun y hx hy => n4 y hx y hy rfl, n2, n3⟩
theorem SHalf.lt {w : World} {b : Nat} {x : Avl.It} {l r : Avl.S} {pl pr : Option Addr} {Fl Fr : List Nat} (h : SHalf w b x l r pl pr Fl Fr) : ∀ k ∈ b :: (Fl ++ Fr), k < w.heap.size := by
  intro k hk
  rcases List.mem_cons.1 hk with rfl | hk
  · exact h.n.lt
  · rcases List.mem_append.1 hk with hk | hk
    · exact h.l.lt k hk
    · exact h.r.lt k hk
theorem SHalf.set4 {w : World} {b : Nat} {x : Avl.It} {l r : Avl.S} {pl pr : Option Addr} {Fl Fr : List Nat} (h : SHalf w b x l r pl pr Fl Fr) (y : Int) : SHalf (w.setCell ⟨b, 4, none⟩ (.int .i64 y)) b x l r pl pr Fl Fr :=
  ⟨h.n.set4 y, (World.cell?_setCell_other _ _ _ _ (by simp)).trans h.c6, (World.cell?_setCell_other _ _ _ _ (by simp)).trans h.c7, h.l.off (Off.set0 ..) h.parts.2.2.1, h.r.off (Off.set0 ..) h.parts.2.2.2.1, h.nd⟩
theorem SHalf.set5 {w : World} {b : Nat} {x : Avl.It} {l r : Avl.S} {pl pr : Option Addr} {Fl Fr : List Nat} (h : SHalf w b x l r pl pr Fl Fr) (y : Int) : SHalf (w.setCell ⟨b, 5, none⟩ (.int .i64 y)) b x l r pl pr Fl Fr :=
  ⟨h.n.set5 y, (World.cell?_setCell_other _ _ _ _ (by simp)).trans h.c6, (World.cell?_setCell_other _ _ _ _ (by simp)).trans h.c7, h.l.off (Off.set0 ..) h.parts.2.2.1, h.r.off (Off.set0 ..) h.parts.2.2.2.1, h.nd⟩
/-- A side is set to another tree that lies there. -/
theorem SHalf.setl {w : World} {b : Nat} {x : Avl.It} {r l' : Avl.S} {pr u : Option Addr} {Fr F' : List Nat} (h : SNode w b x) (c7 : w.cell? ⟨b, 7, none⟩ = some (.pointer pr)) (hl : SRep w l' (.pointer u) F') (hr : SRep w r (.pointer pr) Fr) (nd : (b :: (F' ++ Fr)).Nodup) : SHalf (w.setCell ⟨b, 6, none⟩ (.pointer u)) b x l' r u pr F' Fr := by
  obtain ⟨_, e⟩ := h.c6
  have nd' := nd
  rw [List.nodup_cons, List.nodup_append] at nd'
  exact ⟨h.set6 u, World.cell?_setCell_same _ _ _ e, (World.cell?_setCell_other _ _ _ _ (by simp)).trans c7, hl.off (Off.set0 ..) (fun y hy => by simp; rintro rfl; exact nd'.1 (by simp [hy])), hr.off (Off.set0 ..) (fun y hy => by simp; rintro rfl; exact nd'.1 (by simp [hy])), nd⟩
theorem SHalf.setr {w : World} {b : Nat} {x : Avl.It} {l r' : Avl.S} {pl u : Option Addr} {Fl F' : List Nat} (h : SNode w b x) (c6 : w.cell? ⟨b, 6, none⟩ = some (.pointer pl)) (hl : SRep w l (.pointer pl) Fl) (hr : SRep w r' (.pointer u) F') (nd : (b :: (Fl ++ F')).Nodup) : SHalf (w.setCell ⟨b, 7, none⟩ (.pointer u)) b x l r' pl u Fl F' := by
  obtain ⟨_, e⟩ := h.c7
  have nd' := nd
  rw [List.nodup_cons, List.nodup_append] at nd'
  exact ⟨h.set7 u, (World.cell?_setCell_other _ _ _ _ (by simp)).trans c6, World.cell?_setCell_same _ _ _ e, hl.off (Off.set0 ..) (fun y hy => by simp; rintro rfl; exact nd'.1 (by simp [hy])), hr.off (Off.set0 ..) (fun y hy => by simp; rintro rfl; exact nd'.1 (by simp [hy])), nd⟩

end Go.Proofs.YtjfkfiffakbagaaGreatDoor


/-
  The small functions of package spans: tall, measure.
-/
namespace Go.Proofs.YtjfkfiffakbagaaGreatDoor
open Go.RowKit

set_option maxHeartbeats 400000 in
theorem tall_nil (w : World) :
    Calls Tryz.prog 276 #[.pointer none] w fun e w' => e = .returned (.int .i64 0) ∧ w' = w := by
  go_enter Tryz.func276, Tryz.ntmps276
  go_wp2
  go_ret
  exact ⟨rfl, rfl⟩
set_option maxHeartbeats 400000 in
theorem tall_some (b : Nat) (x : Int) (w : World) (c1 : w.cell? ⟨b, 5, none⟩ = some (.int .i64 x)) :
    Calls Tryz.prog 276 #[.pointer (some ⟨b, 0, none⟩)] w fun e w' => e = .returned (.int .i64 x) ∧ w' = w := by
  go_enter Tryz.func276, Tryz.ntmps276
  go_wp2
  go_ret
  exact ⟨rfl, rfl⟩
theorem tall_any {t : Avl.S} {u : Option Addr} {F : List Nat} (w : World) (h : SRep w t (.pointer u) F) :
    Calls Tryz.prog 276 #[.pointer u] w fun e w' => e = .returned (.int .i64 (Avl.ht t)) ∧ w' = w := by
  cases t with
  | nil => obtain ⟨h1, _⟩ := h; cases h1; exact tall_nil w
  | node a l r => obtain ⟨b, pl, pr, Fl, Fr, hp, n, c4, c5, _⟩ := h; cases hp; exact tall_some b _ w c5

theorem SHalf.drew {w : World} {b : Nat} {x : Avl.It} {l r : Avl.S} {pl pr : Option Addr} {Fl Fr : List Nat} (h : SHalf w b x l r pl pr Fl Fr) : SHalf w.drew b x l r pl pr Fl Fr := h.same (Off.refl _ _).drew

/-- The first half of measure's work: the height is set. -/
theorem shs_of {w : World} {b : Nat} {x : Avl.It} {l r : Avl.S} {pl pr : Option Addr} {Fl Fr : List Nat} (h : SHalf w b x l r pl pr Fl Fr) : w.cell? ⟨b, 6, none⟩ = some (.pointer pl) ∧ w.cell? ⟨b, 7, none⟩ = some (.pointer pr) ∧ SHalf w b x l r pl pr Fl Fr := ⟨h.c6, h.c7, h⟩

/-- Where the latest end of a side stands. -/
def lateAt (w : World) (t : Avl.S) : Option Addr → Prop
  | none => Avl.isNil t = true
  | some a => a.off = 0 ∧ a.spot = none ∧ Avl.isNil t = false ∧ w.cell? ⟨a.block, 4, none⟩ = some (.int .i64 (Avl.late t))
theorem SRep.lateAt {w : World} {t : Avl.S} {u : Option Addr} {F : List Nat} (h : SRep w t (.pointer u) F) : lateAt w t u := by
  cases t with
  | nil => obtain ⟨h1, _⟩ := h; cases h1; rfl
  | node a l r => obtain ⟨b, pl, pr, Fl, Fr, hp, n, c4, _⟩ := h; cases hp; exact ⟨rfl, rfl, rfl, c4⟩

/-- Within measure: the height is taken, the latest end so far is m. -/
structure Lately (w wx : World) (b : Nat) (x : Avl.It) (l r : Avl.S) (pl pr : Option Addr) (Fl Fr : List Nat) (hh m : Int) : Prop where
  half : SHalf wx b x l r pl pr Fl Fr
  c4 : wx.cell? ⟨b, 4, none⟩ = some (.int .i64 m)
  c5 : wx.cell? ⟨b, 5, none⟩ = some (.int .i64 hh)
  off : Off [b] w wx
theorem Lately.set4 {w wx : World} {b : Nat} {x : Avl.It} {l r : Avl.S} {pl pr : Option Addr} {Fl Fr : List Nat} {hh m : Int} (h : Lately w wx b x l r pl pr Fl Fr hh m) (m' : Int) : Lately w (wx.setCell ⟨b, 4, none⟩ (.int .i64 m')).drew b x l r pl pr Fl Fr hh m' :=
  ⟨(h.half.set4 m').drew, World.cell?_setCell_same _ _ _ h.c4, (World.cell?_setCell_other _ _ _ _ (by simp)).trans h.c5, (h.off.setCell (.inl (by simp)) _ _).drew⟩

set_option maxRecDepth 100000 in
set_option maxHeartbeats 2000000 in
theorem measure_any (w : World) (b : Nat) (x : Avl.It) (l r : Avl.S) (pl pr : Option Addr) (Fl Fr : List Nat) (h : SHalf w b x l r pl pr Fl Fr) (hl : Avl.ht l ≤ 100000) (hr : Avl.ht r ≤ 100000) :
    Calls Tryz.prog 279 #[.pointer (some ⟨b, 0, none⟩)] w fun e w' => e = .returned (.tuple #[]) ∧ SRep w' (.node x l r) (.pointer (some ⟨b, 0, none⟩)) (b :: (Fl ++ Fr)) ∧ Off [b] w w' := by
  have h1 := Avl.ht_nonneg l
  have h2 := Avl.ht_nonneg r
  have e3 : IntKind.i64.wrap (1 + if Avl.ht l < Avl.ht r then Avl.ht r else Avl.ht l) = 1 + max (Avl.ht l) (Avl.ht r) := by
    rw [max_if]; exact wrap_small (by omega) (by omega)
  have E3 := hidp e3
  clear e3
  have f5 := h.n.fz 5
  obtain ⟨y5, c5⟩ := h.n.c5
  have hw2 : ((w.setCell ⟨b, 5, none⟩ (.int .i64 (1 + max (Avl.ht l) (Avl.ht r)))).drew).cell? ⟨b, 5, none⟩ = some (.int .i64 (1 + max (Avl.ht l) (Avl.ht r))) := World.cell?_setCell_same _ _ _ c5
  have hw1 := hidp (And.intro (h.set5 (1 + max (Avl.ht l) (Avl.ht r))).drew (And.intro hw2 ((Off.set0 b w 5 (.int .i64 (1 + max (Avl.ht l) (Avl.ht r)))).drew)))
  clear hw2
  go_enter Tryz.func279, Tryz.ntmps279
  go_wp2_with fail
  go_region_held3 (fun w' => w'.cell? ⟨b, 6, none⟩ = some (.pointer pl) ∧ w'.cell? ⟨b, 7, none⟩ = some (.pointer pr) ∧ SHalf w' b x l r pl pr Fl Fr)
    (first
      | exact shs_of h.drew
      | exact shs_of (SHalf.drew (SHalf.set5 h _)))
    (first
      | (go_at_call_of 276 (Value.pointer pl); go_split_ands; refine (tall_any _ (SHalf.l (by assumption))).mono ?_; rintro e w' ⟨rfl, rfl⟩)
      | (go_at_call_of 276 (Value.pointer pr); go_split_ands; refine (tall_any _ (SHalf.r (by assumption))).mono ?_; rintro e w' ⟨rfl, rfl⟩))
  rw [E3.out, max_if0]
  obtain ⟨hX, cX, oX⟩ := hw1.out
  clear hw1
  generalize (World.setCell _ ⟨b, 5, none⟩ (.int .i64 (1 + max (Avl.ht l) (Avl.ht r)))).drew = X at hX cX oX ⊢
  clear h f5 c5
  have c1 := hX.n.c1
  have c6 := hX.c6
  have c7 := hX.c7
  obtain ⟨y4, c4⟩ := hX.n.c4
  have f4 := hX.n.fz 4
  have hw2 : (X.setCell ⟨b, 4, none⟩ (.int .i64 x.t)).cell? ⟨b, 4, none⟩ = some (.int .i64 x.t) := World.cell?_setCell_same _ _ _ c4
  have hw3 : (X.setCell ⟨b, 4, none⟩ (.int .i64 x.t)).cell? ⟨b, 5, none⟩ = some (.int .i64 (1 + max (Avl.ht l) (Avl.ht r))) := (World.cell?_setCell_other _ _ _ _ (by simp)).trans cX
  have hw1 := hidp (And.intro (hX.set4 x.t) (And.intro hw2 (And.intro hw3 (oX.setCell (R := b) (.inl (by simp)) 4 (.int .i64 x.t)))))
  clear hw2 hw3
  go_upto_region 2 with fail
  obtain ⟨hY, d4, d5, oY⟩ := hw1.out
  clear hw1 c1 c6 c7 c4 f4 hX cX oX
  generalize (World.setCell X ⟨b, 4, none⟩ (.int .i64 x.t)) = Y at hY d4 d5 oY ⊢
  have d6 := hY.c6
  go_upto_if 28 with fail
  clear d6
  go_cut [28] from 24 to 43 (fun _ wx => Lately w wx b x l r pl pr Fl Fr (1 + max (Avl.ht l) (Avl.ht r)) (if Avl.isNil l then x.t else max x.t (Avl.late l)))
  case first =>
    have d6 := hY.c6
    have d7 := hY.c7
    have f4 := hY.n.fz 4
    have la := hY.l.lateAt
    cases pl with
    | none =>
      have el : Avl.isNil l = true := la
      go_wp2_with fail
      go_meet
      rw [if_pos el]
      exact ⟨hY, d4, d5, oY⟩
    | some q =>
      obtain ⟨bl, ol, sl⟩ := q
      obtain ⟨e1, e2, el, cl⟩ := la
      cases e1
      cases e2
      have cl : Y.cell? ⟨bl, 4, none⟩ = some (.int .i64 (Avl.late l)) := cl
      go_wp2_with fail
      go_region
      all_goals
        rw [max_if0]
        go_wp2_with fail
        go_meet
        rw [if_neg (by simp [el])]
        exact Lately.set4 ⟨hY, d4, d5, oY⟩ _
  case rest =>
    have hZ := hcut
    clear hcut hY d4 d5 oY
    have m4 := hZ.c4
    have HZ := hidp hZ
    have e9 : Avl.late (.node x l r) = if Avl.isNil r then (if Avl.isNil l then x.t else max x.t (Avl.late l)) else max (if Avl.isNil l then x.t else max x.t (Avl.late l)) (Avl.late r) := rfl
    have E9 := hidp e9
    clear e9
    generalize (if Avl.isNil l then x.t else max x.t (Avl.late l)) = m at *
    have d7 := hZ.half.c7
    have f4 := hZ.half.n.fz 4
    have ra := hZ.half.r.lateAt
    clear hZ
    cases pr with
    | none =>
      have er : Avl.isNil r = true := ra
      have HK := hidp (HZ.out.half.rep (by rw [HZ.out.c4, E9.out, if_pos er]) HZ.out.c5)
      go_wp2_with fail
      go_end0
      exact ⟨rfl, HK.out, HZ.out.off⟩
    | some q =>
      obtain ⟨bl, ol, sl⟩ := q
      obtain ⟨e1, e2, el, cl⟩ := ra
      cases e1
      cases e2
      have cl : wc.cell? ⟨bl, 4, none⟩ = some (.int .i64 (Avl.late r)) := cl
      have HK := hidp (HZ.out.set4 (max m (Avl.late r)))
      have HR := hidp (HK.out.half.rep (by rw [HK.out.c4, E9.out, if_neg (by simp [el])]) HK.out.c5)
      go_wp2_with fail
      go_region
      all_goals
        rw [max_if0]
        go_wp2_with fail
        go_end0
        exact ⟨rfl, HR.out, HK.out.off⟩

end Go.Proofs.YtjfkfiffakbagaaGreatDoor

