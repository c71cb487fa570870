/-
  Parts of the proof, one behind the other: LevAdd4, LevMost, LevFirst, LevRoom0, LevCutT, LevCutF.
-/
import Derived.Test.YtjfkfiffakbagaaGreatDoorL01
import Derived.Deep.CutRange
/-
  Package levels: add, whole.
-/
namespace Go.Proofs.YtjfkfiffakbagaaGreatDoor
open Go.RowKit

theorem cutting_new {w w2 w3 : World} {F : List Nat} {bk : Nat} {c lo hi a b : Int} {l r : Lev.T} {pl pr : Option Addr} {Fl Fr : List Nat} (hH : Half w2 bk c l r pl pr Fl Fr) (hO : Off F w w2) (hG : ∀ k ∈ bk :: (Fl ++ Fr), k ∈ F ∨ w.heap.size ≤ k) (q2 : w2.cell? ⟨w.heap.size + 1, 0, none⟩ = some (.int .i64 a)) (q3 : w2.cell? ⟨w.heap.size + 1, 1, none⟩ = some (.int .i64 b)) (hne : w.heap.size + 1 ∉ bk :: (Fl ++ Fr)) (hb : Below w2.heap.size w2 w3) :
    Cutting w ((w3.alloc (.cells #[.int .i64 lo, .int .i64 (Lev.mid lo hi)] 60)).alloc (.cells #[.int .i64 (Lev.mid lo hi), .int .i64 hi] 60)) F bk w3.heap.size c lo hi a b l r pl pr Fl Fr := by
  have k : Off [] w2 ((w3.alloc (.cells #[.int .i64 lo, .int .i64 (Lev.mid lo hi)] 60)).alloc (.cells #[.int .i64 (Lev.mid lo hi), .int .i64 hi] 60)) := ((Off.of_below hb).alloc _).alloc _
  have hlt := hH.lt
  have hsz := hb.size
  refine ⟨hH.off k (by simp) (by simp) (by simp), hO.trans' k (by simp), hG, k.cell (by simp) q2, k.cell (by simp) q3, by simp, by simp, by simp, by simp, hne, fun e => ?_, fun e => ?_⟩
  · have := hlt _ e; omega
  · have := hlt _ e; omega

set_option maxRecDepth 100000 in
set_option maxHeartbeats 4000000 in
theorem add_split (n : Nat) (ih : Hid (AddSays n)) (t : Lev.T) (u : Option Addr) (F : List Nat) (lo hi a b x : Int) (w : World) (h : LRep w t (.pointer u) F) (hp : Lev.apart lo hi a b = false) (hw : Lev.within lo hi a b = false)
    (h0 : 0 ≤ lo) (h1 : lo < hi) (h2 : hi ≤ 2000000) (h3 : hi - lo ≤ 2 ^ (n + 1)) (h4 : a < b)
    (hx1 : -1000000 ≤ x) (hx2 : x ≤ 1000000) (hB1 : LB t) (hB2 : LB (Lev.addT (n + 1) t lo hi a b x)) :
    Calls Tryz.prog 253 #[.pointer u, .agg #[.int .i64 lo, .int .i64 hi], .agg #[.int .i64 a, .int .i64 b], .int .i64 x] w (Added w F (Lev.addT (n + 1) t lo hi a b x)) := by
  have e : Lev.addT (n + 1) t lo hi a b x = Lev.mk (Lev.val t) (Lev.addT n (Lev.fst t) lo (Lev.mid lo hi) a b x) (Lev.addT n (Lev.snd t) (Lev.mid lo hi) hi a b x) := by rw [Lev.addT]; rw [if_neg (by simp [hp]), if_neg (by simp [hw])]
  rw [e] at hB2 ⊢
  obtain ⟨_, hBl, hBr⟩ := hB2.mk
  have hl := hB1.fst
  have hr := hB1.snd
  have g1 := Lev.apart_not.1 hp
  have g2 := Lev.within_not.1 hw
  have hm : lo < Lev.mid lo hi ∧ Lev.mid lo hi < hi := by unfold Lev.mid; omega
  have hh := Lev.pow_half h3
  have I1 : Hid (∀ (w : World) (u : Option Addr) (F : List Nat), LRep w (Lev.fst t) (.pointer u) F → Calls Tryz.prog 253 #[.pointer u, .agg #[.int .i64 lo, .int .i64 (Lev.mid lo hi)], .agg #[.int .i64 a, .int .i64 b], .int .i64 x] w (Added w F (Lev.addT n (Lev.fst t) lo (Lev.mid lo hi) a b x))) :=
    fun w u F k => ih.out _ _ _ _ _ _ _ _ _ k h0 hm.1 (by omega) hh.1 h4 hx1 hx2 hl hBl
  have I2 : Hid (∀ (w : World) (u : Option Addr) (F : List Nat), LRep w (Lev.snd t) (.pointer u) F → Calls Tryz.prog 253 #[.pointer u, .agg #[.int .i64 (Lev.mid lo hi), .int .i64 hi], .agg #[.int .i64 a, .int .i64 b], .int .i64 x] w (Added w F (Lev.addT n (Lev.snd t) (Lev.mid lo hi) hi a b x))) :=
    fun w u F k => ih.out _ _ _ _ _ _ _ _ _ k (by omega) hm.2 h2 hh.2 h4 hx1 hx2 hr hBr
  have HB2 := hidp hB2
  clear e hBl hBr hl hr g1 g2 hm hh h3 ih hB1 hB2
  generalize Lev.addT n (Lev.fst t) lo (Lev.mid lo hi) a b x = tl at *
  generalize Lev.addT n (Lev.snd t) (Lev.mid lo hi) hi a b x = tr at *
  cases t with
  | nil =>
    obtain ⟨hu, rfl⟩ := h
    cases hu
    simp only [Lev.val, Lev.fst, Lev.snd] at HB2 I1 I2 ⊢
    go_enter Tryz.func253, Tryz.ntmps253
    go_wp2_with fail
    refine (areApart_any _ _ _ _ _).mono ?_
    rintro e w1 ⟨rfl, hb⟩
    rw [hp]
    have bx := boxes hb
    have ⟨q0, q1, q2, q3, hs, hB⟩ := bx
    have HB := hidp hB
    have hs0 : w.heap.size < w1.heap.size := by omega
    clear hB hb bx
    go_wp2_with fail
    refine (isWithin_any _ _ _ _ _).mono ?_
    rintro e w2 ⟨rfl, hb⟩
    rw [hw]
    obtain ⟨bk, hbk⟩ : ∃ bk, bk = w1.heap.size := ⟨_, rfl⟩
    have hH := (half_new w1 0).off (G := []) (Off.of_below hb) (by simp) (by simp) (by simp)
    have hO : Off [] w w2 := (((Off.of_below HB.out).alloc _).trans (Off.of_below hb))
    have hG : ∀ k ∈ bk :: ([] ++ []), k ∈ ([] : List Nat) ∨ w.heap.size ≤ k := by simp; omega
    have hne : w.heap.size + 1 ∉ bk :: ([] ++ []) := by simp; omega
    have k1 : Off [] w1 w2 := ((Off.refl [] w1).alloc _).trans (Off.of_below hb)
    have r0 : w2.cell? ⟨w.heap.size, 0, none⟩ = some (.int .i64 lo) := k1.cell (by simp) q0
    have r1 : w2.cell? ⟨w.heap.size, 1, none⟩ = some (.int .i64 hi) := k1.cell (by simp) q1
    have r2 : w2.cell? ⟨w.heap.size + 1, 0, none⟩ = some (.int .i64 a) := k1.cell (by simp) q2
    have r3 : w2.cell? ⟨w.heap.size + 1, 1, none⟩ = some (.int .i64 b) := k1.cell (by simp) q3
    have hs2 : w.heap.size + 1 < w2.heap.size := Nat.lt_of_lt_of_le hs k1.size
    rw [← hbk] at hH ⊢
    clear hb q0 q1 q2 q3 hs hs0 HB k1 hbk
    go_wp2_with fail
    refine (halves_any _ _ _ (by omega) (by omega) (by omega)).mono ?_
    rintro e w3 ⟨rfl, hb⟩
    have hC : Cutting w _ _ _ _ 0 lo hi a b _ _ _ _ _ _ := cutting_new (w3 := w3) hH hO hG r2 r3 hne hb
    clear hb hH hO hG r0 r1 r2 r3 hne hs2
    go_upto_region 8 with fail
    generalize (World.alloc _ (.cells #[.int .i64 (Lev.mid lo hi), .int .i64 hi] 60)) = X at hC ⊢
    generalize w3.heap.size = M at hC ⊢
    go_cut [43] from 35 to 45 (fun _ wx => ∃ (u4 : Option Addr) (F4 : List Nat), Cutting w wx ([] : List Nat) bk M 0 lo hi a b tl .nil u4 none F4 [])
    case first =>
      have b3 := hC.half.c3
      have f3 := hC.half.fz 3
      have a0 := hC.a0
      have a1 := hC.a1
      have m0 := hC.m0
      have m1 := hC.m1
      go_region_with (first
        | (go_at_call 253; refine (I1.out _ _ _ hC.half.drew.l).mono ?_; rintro e w4 ⟨u4, F4, rfl, k1, k2, k3⟩; have b3' := k3.cell hC.half.notl.1 b3; have f3' := (k3.frozen (o := 3) hC.half.notl.1 (hC.half.lt _ (by simp))).trans f3))
      all_goals
        go_wp2_with fail
        go_meet
        exact ⟨_, _, hC.drew.setl k1 k2 k3⟩
    case rest =>
      obtain ⟨u4, F4, hD⟩ := hcut
      clear hC
      go_upto_region 9 with fail
      go_cut [54] from 46 to 56 (fun _ wx => ∃ (u5 : Option Addr) (F5 : List Nat), Half wx bk 0 tl tr u4 u5 F4 F5 ∧ Off ([] : List Nat) w wx ∧ ∀ k ∈ bk :: (F4 ++ F5), k ∈ ([] : List Nat) ∨ w.heap.size ≤ k)
      case first =>
        have b3 := hD.half.c4
        have f3 := hD.half.fz 4
        have a0 := hD.a0
        have a1 := hD.a1
        have m0 := hD.n0
        have m1 := hD.n1
        go_region_with (first
          | (go_at_call 253; refine (I2.out _ _ _ hD.half.drew.r).mono ?_; rintro e w5 ⟨u5, F5, rfl, k1, k2, k3⟩; have b3' := k3.cell hD.half.notl.2.1 b3; have f3' := (k3.frozen (o := 4) hD.half.notl.2.1 (hD.half.lt _ (by simp))).trans f3))
        all_goals
          go_wp2_with fail
          go_meet
          exact ⟨_, _, hD.drew.setr k1 k2 k3⟩
      case rest =>
        obtain ⟨u5, F5, k1, k2, k3⟩ := hcut
        clear hD I1 I2
        go_wp2_with fail
        refine (settled_any _ _ _ _ _ _ _ _ _ k1 HB2.out).mono ?_
        rintro e w6 ⟨u6, F6, rfl, n1, n2, n3⟩
        have HK := hidp (added_of k2 k3 (by simp) n1 n2 n3)
        clear k1 k2 k3 n1 n2 n3
        go_wp2_with fail
        go_ret
        exact HK.out
  | node c l r =>
    obtain ⟨bk, pl, pr, Fl, Fr, rfl, rfl, hh⟩ := half_of h
    simp only [Lev.val, Lev.fst, Lev.snd] at HB2 I1 I2 ⊢
    go_enter Tryz.func253, Tryz.ntmps253
    go_wp2_with fail
    refine (areApart_any _ _ _ _ _).mono ?_
    rintro e w1 ⟨rfl, hb⟩
    rw [hp]
    have bx := boxes hb
    have ⟨q0, q1, q2, q3, hs, hB⟩ := bx
    have HB := hidp hB
    have hs0 : w.heap.size < w1.heap.size := by omega
    clear hB hb bx
    go_wp2_with fail
    refine (isWithin_any _ _ _ _ _).mono ?_
    rintro e w2 ⟨rfl, hb⟩
    rw [hw]
    have hH := hh.off (G := []) ((Off.of_below HB.out).trans (Off.of_below hb)) (by simp) (by simp) (by simp)
    have hO : Off (bk :: (Fl ++ Fr)) w w2 := (Off.of_below HB.out).trans (Off.of_below hb)
    have hG : ∀ k ∈ bk :: (Fl ++ Fr), k ∈ bk :: (Fl ++ Fr) ∨ w.heap.size ≤ k := fun _ hk => .inl hk
    have hne : w.heap.size + 1 ∉ bk :: (Fl ++ Fr) := fun e => by have := hh.lt _ e; omega
    have r0 : w2.cell? ⟨w.heap.size, 0, none⟩ = some (.int .i64 lo) := cellLater hb q0
    have r1 : w2.cell? ⟨w.heap.size, 1, none⟩ = some (.int .i64 hi) := cellLater hb q1
    have r2 : w2.cell? ⟨w.heap.size + 1, 0, none⟩ = some (.int .i64 a) := cellLater hb q2
    have r3 : w2.cell? ⟨w.heap.size + 1, 1, none⟩ = some (.int .i64 b) := cellLater hb q3
    have hs2 : w.heap.size + 1 < w2.heap.size := Nat.lt_of_lt_of_le hs hb.size
    clear hb q0 q1 q2 q3 hs hs0 HB h hh
    go_wp2_with fail
    refine (halves_any _ _ _ (by omega) (by omega) (by omega)).mono ?_
    rintro e w3 ⟨rfl, hb⟩
    have hC : Cutting w _ _ _ _ c lo hi a b _ _ _ _ _ _ := cutting_new (w3 := w3) hH hO hG r2 r3 hne hb
    clear hb hH hO hG r0 r1 r2 r3 hne hs2
    go_upto_region 8 with fail
    generalize (World.alloc _ (.cells #[.int .i64 (Lev.mid lo hi), .int .i64 hi] 60)) = X at hC ⊢
    generalize w3.heap.size = M at hC ⊢
    go_cut [43] from 35 to 45 (fun _ wx => ∃ (u4 : Option Addr) (F4 : List Nat), Cutting w wx (bk :: (Fl ++ Fr)) bk M c lo hi a b tl r u4 pr F4 Fr)
    case first =>
      have b3 := hC.half.c3
      have f3 := hC.half.fz 3
      have a0 := hC.a0
      have a1 := hC.a1
      have m0 := hC.m0
      have m1 := hC.m1
      go_region_with (first
        | (go_at_call 253; refine (I1.out _ _ _ hC.half.drew.l).mono ?_; rintro e w4 ⟨u4, F4, rfl, k1, k2, k3⟩; have b3' := k3.cell hC.half.notl.1 b3; have f3' := (k3.frozen (o := 3) hC.half.notl.1 (hC.half.lt _ (by simp))).trans f3))
      all_goals
        go_wp2_with fail
        go_meet
        exact ⟨_, _, hC.drew.setl k1 k2 k3⟩
    case rest =>
      obtain ⟨u4, F4, hD⟩ := hcut
      clear hC
      go_upto_region 9 with fail
      go_cut [54] from 46 to 56 (fun _ wx => ∃ (u5 : Option Addr) (F5 : List Nat), Half wx bk c tl tr u4 u5 F4 F5 ∧ Off (bk :: (Fl ++ Fr)) w wx ∧ ∀ k ∈ bk :: (F4 ++ F5), k ∈ (bk :: (Fl ++ Fr)) ∨ w.heap.size ≤ k)
      case first =>
        have b3 := hD.half.c4
        have f3 := hD.half.fz 4
        have a0 := hD.a0
        have a1 := hD.a1
        have m0 := hD.n0
        have m1 := hD.n1
        go_region_with (first
          | (go_at_call 253; refine (I2.out _ _ _ hD.half.drew.r).mono ?_; rintro e w5 ⟨u5, F5, rfl, k1, k2, k3⟩; have b3' := k3.cell hD.half.notl.2.1 b3; have f3' := (k3.frozen (o := 4) hD.half.notl.2.1 (hD.half.lt _ (by simp))).trans f3))
        all_goals
          go_wp2_with fail
          go_meet
          exact ⟨_, _, hD.drew.setr k1 k2 k3⟩
      case rest =>
        obtain ⟨u5, F5, k1, k2, k3⟩ := hcut
        clear hD I1 I2
        go_wp2_with fail
        refine (settled_any _ _ _ _ _ _ _ _ _ k1 HB2.out).mono ?_
        rintro e w6 ⟨u6, F6, rfl, n1, n2, n3⟩
        have HK := hidp (added_of k2 k3 (by simp) n1 n2 n3)
        clear k1 k2 k3 n1 n2 n3
        go_wp2_with fail
        go_ret
        exact HK.out

theorem addSays : ∀ n, AddSays n := by
  intro n
  induction n with
  | zero =>
    intro t u F lo hi a b x w h h0 h1 h2 h3 h4 hx1 hx2 hB1 hB2
    have h3 : hi - lo ≤ 1 := by simpa using h3
    cases hp : Lev.apart lo hi a b
    · have g := Lev.apart_not.1 hp
      exact add_within t u F lo hi a b x 0 w h hp (Lev.within_iff.2 (by omega)) hx1 hx2 hB1 hB2
    · exact add_apart t u F lo hi a b x 0 w h hp
  | succ n ih =>
    intro t u F lo hi a b x w h h0 h1 h2 h3 h4 hx1 hx2 hB1 hB2
    cases hp : Lev.apart lo hi a b
    · cases hw : Lev.within lo hi a b
      · exact add_split n ih t u F lo hi a b x w h hp hw h0 h1 h2 h3 h4 hx1 hx2 hB1 hB2
      · exact add_within t u F lo hi a b x _ w h hp hw hx1 hx2 hB1 hB2
    · exact add_apart t u F lo hi a b x _ w h hp

end Go.Proofs.YtjfkfiffakbagaaGreatDoor


/-
  Package levels: most; the methods Add and Most of the tree.
-/
namespace Go.Proofs.YtjfkfiffakbagaaGreatDoor
open Go.RowKit

theorem LRep.later {w w' : World} {t : Lev.T} {p : Value} {F : List Nat} (h : LRep w t p F) (k : Below w.heap.size w w') : LRep w' t p F := h.same (Off.of_below k)

set_option maxHeartbeats 1000000 in
theorem most_nil (lo hi a b : Int) (w : World) :
    Calls Tryz.prog 203 #[.pointer none, .agg #[.int .i64 lo, .int .i64 hi], .agg #[.int .i64 a, .int .i64 b]] w fun e w' => e = .returned (.int .i64 0) ∧ Below w.heap.size w w' := by
  go_enter Tryz.func203, Tryz.ntmps203
  go_wp2_with fail
  go_ret
  exact ⟨rfl, ((Below.refl _ _).alloc (Nat.le_refl _) _).alloc (by simp) _⟩

/-- The world ahead of the two calls of itself. -/
def MS (X w' : World) (bk N M : Nat) (c lo hi a b : Int) (pl pr : Option Addr) : Prop :=
  w'.cell? ⟨bk, 0, none⟩ = some (.int .i64 c) ∧ w'.cell? ⟨bk, 3, none⟩ = some (.pointer pl) ∧ w'.cell? ⟨bk, 4, none⟩ = some (.pointer pr) ∧ w'.cell? ⟨N, 0, none⟩ = some (.int .i64 a) ∧ w'.cell? ⟨N, 1, none⟩ = some (.int .i64 b) ∧ w'.cell? ⟨M, 0, none⟩ = some (.int .i64 lo) ∧ w'.cell? ⟨M, 1, none⟩ = some (.int .i64 (Lev.mid lo hi)) ∧ w'.cell? ⟨M + 1, 0, none⟩ = some (.int .i64 (Lev.mid lo hi)) ∧ w'.cell? ⟨M + 1, 1, none⟩ = some (.int .i64 hi) ∧ Below X.heap.size X w'
theorem MS.later {X w' w'' : World} {bk N M : Nat} {c lo hi a b : Int} {pl pr : Option Addr} (h : MS X w' bk N M c lo hi a b pl pr) (k : Below w'.heap.size w' w'') : MS X w'' bk N M c lo hi a b pl pr := by
  obtain ⟨h1, h2, h3, h4, h5, h6, h7, h8, h9, h10⟩ := h
  exact ⟨cellLater k h1, cellLater k h2, cellLater k h3, cellLater k h4, cellLater k h5, cellLater k h6, cellLater k h7, cellLater k h8, cellLater k h9, blwMore h10 k (Nat.le_refl _)⟩

theorem mostT_bd {t : Lev.T} {lo hi a b : Int} (hg : Lev.Good t lo hi) (hB : LB t) (h1 : lo < hi) (h2 : a < b) : 0 ≤ Lev.mostT t lo hi a b ∧ Lev.mostT t lo hi a b ≤ 100000000 := by
  have := hB.top
  cases hp : Lev.apart lo hi a b
  · obtain ⟨k0, _, x, k1, k2, _, _, k5⟩ := Lev.mostT_is t lo hi a b h1 h2 hg hp
    have := (Lev.top_is t lo hi h1 hg).1 x k1 k2
    omega
  · rw [Lev.mostT_apart hp]; omega

set_option maxRecDepth 100000 in
set_option maxHeartbeats 4000000 in
theorem most_any : ∀ (t : Lev.T) (u : Option Addr) (F : List Nat) (lo hi a b : Int) (w : World), LRep w t (.pointer u) F → LB t → Lev.Good t lo hi → 0 ≤ lo → lo < hi → hi ≤ 2000000 → a < b →
    Calls Tryz.prog 203 #[.pointer u, .agg #[.int .i64 lo, .int .i64 hi], .agg #[.int .i64 a, .int .i64 b]] w fun e w' => e = .returned (.int .i64 (Lev.mostT t lo hi a b)) ∧ Below w.heap.size w w' := by
  intro t
  induction t with
  | nil =>
    intro u F lo hi a b w h _ _ _ _ _ _
    obtain ⟨hu, _⟩ := h
    cases hu
    exact most_nil lo hi a b w
  | node c l r ihl ihr =>
    intro u F lo hi a b w h hB hg h0 h1 h2 h4
    obtain ⟨bk, pl, pr, Fl, Fr, rfl, rfl, hh⟩ := half_of h
    have IHL := hidp ihl
    have IHR := hidp ihr
    clear ihl ihr
    have c1 : w.cell? ⟨bk, 1, none⟩ = some (.int .i64 (Lev.top (.node c l r))) := by
      obtain ⟨b', _, _, _, _, hp, _, c1, _⟩ := h; cases hp; exact c1
    clear h
    cases hp : Lev.apart lo hi a b
    · cases hw : Lev.within lo hi a b
      · have em : Lev.mostT (.node c l r) lo hi a b = c + max (Lev.mostT l lo (Lev.mid lo hi) a b) (Lev.mostT r (Lev.mid lo hi) hi a b) := by simp [Lev.mostT, hp, hw]
        have g1 := Lev.apart_not.1 hp
        have g2 := Lev.within_not.1 hw
        have hm : lo < Lev.mid lo hi ∧ Lev.mid lo hi < hi := by unfold Lev.mid; omega
        have bl := mostT_bd (a := a) (b := b) hg.2.2.1 hB.2.2.2.1 hm.1 h4
        have br := mostT_bd (a := a) (b := b) hg.2.2.2 hB.2.2.2.2 hm.2 h4
        have hc := hB.1
        have I1 : Hid (∀ (w : World), LRep w l (.pointer pl) Fl → Calls Tryz.prog 203 #[.pointer pl, .agg #[.int .i64 lo, .int .i64 (Lev.mid lo hi)], .agg #[.int .i64 a, .int .i64 b]] w fun e w' => e = .returned (.int .i64 (Lev.mostT l lo (Lev.mid lo hi) a b)) ∧ Below w.heap.size w w') :=
          fun w k => IHL.out _ _ _ _ _ _ _ k hB.2.2.2.1 hg.2.2.1 h0 hm.1 (by omega) h4
        have I2 : Hid (∀ (w : World), LRep w r (.pointer pr) Fr → Calls Tryz.prog 203 #[.pointer pr, .agg #[.int .i64 (Lev.mid lo hi), .int .i64 hi], .agg #[.int .i64 a, .int .i64 b]] w fun e w' => e = .returned (.int .i64 (Lev.mostT r (Lev.mid lo hi) hi a b)) ∧ Below w.heap.size w w') :=
          fun w k => IHR.out _ _ _ _ _ _ _ k hB.2.2.2.2 hg.2.2.2 (by omega) hm.2 h2 h4
        rw [em]
        clear em IHL IHR g1 g2 hg hB c1
        generalize Lev.mostT l lo (Lev.mid lo hi) a b = ml at *
        generalize Lev.mostT r (Lev.mid lo hi) hi a b = mr at *
        have c0 := hh.c0
        have c3 := hh.c3
        have c4 := hh.c4
        have RL := hidp hh.l
        have RR := hidp hh.r
        clear hh
        have e5 : IntKind.i64.wrap (c + if ml < mr then mr else ml) = c + max ml mr := by rw [max_if]; exact wrap_small (by omega) (by omega)
        have E5 := hidp e5
        clear e5
        go_enter Tryz.func203, Tryz.ntmps203
        go_wp2_with fail
        refine (areApart_any _ _ _ _ _).mono ?_
        rintro e w1 ⟨rfl, hb⟩
        rw [hp]
        have ⟨q0, q1, q2, q3, hs, hB⟩ := boxes hb
        have d0 := cellLater hB c0
        have d3 := cellLater hB c3
        have d4 := cellLater hB c4
        have HB := hidp hB
        clear hB hb c0 c3 c4
        go_wp2_with fail
        refine (isWithin_any _ _ _ _ _).mono ?_
        rintro e w2 ⟨rfl, hb⟩
        rw [hw]
        have HC := hidp (blwMore HB.out hb (Nat.le_refl _))
        have r0 : w2.cell? ⟨w.heap.size, 0, none⟩ = some (.int .i64 lo) := cellLater hb q0
        have r1 : w2.cell? ⟨w.heap.size, 1, none⟩ = some (.int .i64 hi) := cellLater hb q1
        have r2 : w2.cell? ⟨w.heap.size + 1, 0, none⟩ = some (.int .i64 a) := cellLater hb q2
        have r3 : w2.cell? ⟨w.heap.size + 1, 1, none⟩ = some (.int .i64 b) := cellLater hb q3
        have e0 := cellLater hb d0
        have e3 := cellLater hb d3
        have e4 := cellLater hb d4
        clear HB hb q0 q1 q2 q3 hs d0 d3 d4
        go_wp2_with fail
        refine (halves_any _ _ _ (by omega) (by omega) (by omega)).mono ?_
        rintro e w3 ⟨rfl, hb⟩
        have hX : Below w2.heap.size w2 ((w3.alloc (.cells #[.int .i64 lo, .int .i64 (Lev.mid lo hi)] 60)).alloc (.cells #[.int .i64 (Lev.mid lo hi), .int .i64 hi] 60)) := (hb.alloc hb.size _).alloc (by have := hb.size; simp; omega) _
        have hM : MS ((w3.alloc (.cells #[.int .i64 lo, .int .i64 (Lev.mid lo hi)] 60)).alloc (.cells #[.int .i64 (Lev.mid lo hi), .int .i64 hi] 60)) ((w3.alloc (.cells #[.int .i64 lo, .int .i64 (Lev.mid lo hi)] 60)).alloc (.cells #[.int .i64 (Lev.mid lo hi), .int .i64 hi] 60)) bk (w.heap.size + 1) w3.heap.size c lo hi a b pl pr :=
          ⟨cellLater hX e0, cellLater hX e3, cellLater hX e4, cellLater hX r2, cellLater hX r3, by simp, by simp, by simp, by simp, Below.refl _ _⟩
        have HX := hidp (And.intro (blwMore HC.out hX (Nat.le_refl _)) (And.intro (RL.out.later (blwMore HC.out hX (Nat.le_refl _))) (RR.out.later (blwMore HC.out hX (Nat.le_refl _)))))
        clear HC RL RR hX hb r0 r1 r2 r3 e0 e3 e4
        go_upto_region 6 with fail
        generalize (World.alloc _ (.cells #[.int .i64 (Lev.mid lo hi), .int .i64 hi] 60)) = X at hM HX ⊢
        generalize w3.heap.size = M at hM ⊢
        go_region_held3 (fun w' => w'.cell? ⟨bk, 0, none⟩ = some (.int .i64 c) ∧ w'.cell? ⟨bk, 3, none⟩ = some (.pointer pl) ∧ w'.cell? ⟨bk, 4, none⟩ = some (.pointer pr) ∧ w'.cell? ⟨w.heap.size + 1, 0, none⟩ = some (.int .i64 a) ∧ w'.cell? ⟨w.heap.size + 1, 1, none⟩ = some (.int .i64 b) ∧ w'.cell? ⟨M, 0, none⟩ = some (.int .i64 lo) ∧ w'.cell? ⟨M, 1, none⟩ = some (.int .i64 (Lev.mid lo hi)) ∧ w'.cell? ⟨M + 1, 0, none⟩ = some (.int .i64 (Lev.mid lo hi)) ∧ w'.cell? ⟨M + 1, 1, none⟩ = some (.int .i64 hi) ∧ Below X.heap.size X w')
          (first
            | exact MS.later hM (blwDrew _)
            | (go_split_ands; exact MS.later hM (blwMore (by assumption) hbf (Nat.le_refl _))))
          (first
            | (go_at_call_of 203 (Value.pointer pl); go_split_ands; refine (I1.out _ (HX.out.2.1.later (by assumption))).mono ?_; rintro e w4 ⟨rfl, hbf⟩)
            | (go_at_call_of 203 (Value.pointer pr); go_split_ands; refine (I2.out _ (HX.out.2.2.later (by assumption))).mono ?_; rintro e w4 ⟨rfl, hbf⟩))
        rw [E5.out, max_if0]
        have HF := hidp (blwMore HX.out.1 (by go_split_ands; assumption : Below X.heap.size X w4) (Nat.le_refl _))
        clear hM HX I1 I2
        go_wp2_with fail
        go_ret
        exact ⟨rfl, HF.out⟩
      · have em : Lev.mostT (.node c l r) lo hi a b = Lev.top (.node c l r) := by simp [Lev.mostT, hp, hw, Lev.top]
        rw [em]
        clear em
        generalize Lev.top (.node c l r) = tp at c1 ⊢
        go_enter Tryz.func203, Tryz.ntmps203
        go_wp2_with fail
        refine (areApart_any _ _ _ _ _).mono ?_
        rintro e w1 ⟨rfl, hb⟩
        rw [hp]
        have ⟨q0, q1, q2, q3, hs, hB⟩ := boxes hb
        have d1 := cellLater hB c1
        have HB := hidp hB
        clear hB hb c1
        go_wp2_with fail
        refine (isWithin_any _ _ _ _ _).mono ?_
        rintro e w2 ⟨rfl, hb⟩
        rw [hw]
        have d2 := cellLater hb d1
        have HC := hidp (blwMore HB.out hb (Nat.le_refl _))
        clear HB hb q0 q1 q2 q3 hs d1
        go_wp2_with fail
        go_ret
        exact ⟨rfl, HC.out⟩
    · have em : Lev.mostT (.node c l r) lo hi a b = 0 := Lev.mostT_apart hp
      rw [em]
      clear em
      go_enter Tryz.func203, Tryz.ntmps203
      go_wp2_with fail
      refine (areApart_any _ _ _ _ _).mono ?_
      rintro e w1 ⟨rfl, hb⟩
      rw [hp]
      have HB := hidp (boxes hb).bw
      clear hb
      go_wp2_with fail
      go_ret
      exact ⟨rfl, HB.out⟩

/-- The tree of a thing: its one cell. -/
theorem minutes_any (w : World) : Calls Tryz.prog 204 #[] w fun e w' => e = .returned (.agg #[.int .i64 0, .int .i64 1048320]) ∧ Below w.heap.size w w' := by
  go_enter Tryz.func204, Tryz.ntmps204
  go_wp2
  exact bodyPost_ret (v := .agg #[.int .i64 0, .int .i64 1048320]) (by simp [results, Tryz.results204, go_sem]) rfl ⟨rfl, (Below.refl _ _).alloc (Nat.le_refl _) _⟩

set_option maxRecDepth 100000 in
set_option maxHeartbeats 4000000 in
theorem Most_any (t : Lev.T) (tb o : Nat) (u : Option Addr) (F : List Nat) (a b : Int) (w : World) (c : w.cell? ⟨tb, o, none⟩ = some (.pointer u)) (h : LRep w t (.pointer u) F) (hB : LB t) (hg : Lev.Good t 0 1048320) (h1 : a < b) :
    Calls Tryz.prog 150 #[.pointer (some ⟨tb, o, none⟩), .agg #[.int .i64 a, .int .i64 b]] w fun e w' => e = .returned (.int .i64 (Lev.mostT t 0 1048320 a b)) ∧ Below w.heap.size w w' := by
  have HR := hidp h
  clear h
  go_enter Tryz.func150, Tryz.ntmps150
  go_upto_region 1 with fail
  have hX : Below w.heap.size w (w.alloc (.cells #[.int .i64 a, .int .i64 b] 60)) := (Below.refl _ _).alloc (Nat.le_refl _) _
  have x0 : (w.alloc (.cells #[.int .i64 a, .int .i64 b] 60)).cell? ⟨w.heap.size, 0, none⟩ = some (.int .i64 a) := by simp
  have x1 : (w.alloc (.cells #[.int .i64 a, .int .i64 b] 60)).cell? ⟨w.heap.size, 1, none⟩ = some (.int .i64 b) := by simp
  have xc := cellLater hX c
  have HX := hidp hX
  clear hX
  generalize (World.alloc w (.cells #[.int .i64 a, .int .i64 b] 60)) = X at x0 x1 xc HX ⊢
  go_region_held3 (fun w' => w'.cell? ⟨tb, o, none⟩ = some (.pointer u) ∧ w'.cell? ⟨w.heap.size, 0, none⟩ = some (.int .i64 a) ∧ w'.cell? ⟨w.heap.size, 1, none⟩ = some (.int .i64 b) ∧ Below X.heap.size X w')
    (first
      | exact ⟨xc, x0, x1, blwDrew _⟩
      | (go_split_ands; exact ⟨cellLater hbf (by assumption), cellLater hbf (by assumption), cellLater hbf (by assumption), blwMore (by assumption) hbf (Nat.le_refl _)⟩))
    (first
      | (go_at_call 204; go_split_ands; refine (minutes_any _).mono ?_; rintro e w4 ⟨rfl, hbf⟩)
      | (go_at_call 203; go_split_ands; refine (most_any t u F 0 1048320 a b _ (HR.out.later (blwMore HX.out (by assumption) (Nat.le_refl _))) hB hg (by omega) (by omega) (by omega) h1).mono ?_; rintro e w4 ⟨rfl, hbf⟩))
  have HF := hidp (blwMore HX.out (by go_split_ands; assumption : Below X.heap.size X w4) (Nat.le_refl _))
  clear HX HR
  go_wp2_with fail
  go_ret
  exact ⟨rfl, HF.out⟩

/-- What Add leaves: the tree t' at that cell; its blocks are those of the tree or new; the rest of the block is as it was. -/
def AddPost (w : World) (tb o : Nat) (F : List Nat) (t' : Lev.T) (w' : World) : Prop :=
  ∃ (u' : Option Addr) (F' : List Nat), w'.cell? ⟨tb, o, none⟩ = some (.pointer u') ∧ LRep w' t' (.pointer u') F' ∧ (∀ k ∈ F', k ∈ F ∨ w.heap.size ≤ k) ∧ Off (tb :: F) w w' ∧ (∀ o', o' ≠ o → w'.cell? ⟨tb, o', none⟩ = w.cell? ⟨tb, o', none⟩) ∧ ∀ o', w'.frozen? ⟨tb, o', none⟩ = w.frozen? ⟨tb, o', none⟩
theorem add_fin {w w4 w5 : World} {tb o : Nat} {F F5 : List Nat} {t' : Lev.T} {v : Value} {u5 : Option Addr} (h1 : Below w.heap.size w w4) (htb : tb < w.heap.size) (hn : tb ∉ F) (k1 : LRep w5 t' (.pointer u5) F5) (k2 : ∀ k ∈ F5, k ∈ F ∨ w4.heap.size ≤ k) (k3 : Off F w4 w5) (z0 : w5.cell? ⟨tb, o, none⟩ = some v) : AddPost w tb o F t' (w5.setCell ⟨tb, o, none⟩ (.pointer u5)) := by
  have hs := h1.size
  have o4 : Off [] w w4 := Off.of_below h1
  have hn5 : tb ∉ F5 := fun e => by rcases k2 tb e with h | h; exact hn h; omega
  have e5 : w5.heap[tb]? = w.heap[tb]? := (k3.block tb (by omega) hn).trans (o4.block tb htb (by simp))
  refine ⟨u5, F5, World.cell?_setCell_same _ _ _ z0, k1.off (Off.set0 ..) (fun x hx => by simp; rintro rfl; exact hn5 hx), fun k hk => ?_, ?_, fun o' ho => ?_, fun o' => ?_⟩
  · rcases k2 k hk with h | h
    · exact .inl h
    · exact .inr (by omega)
  · exact ((Off.of_below (F := tb :: F) h1).trans (k3.mono (by intro x hx; simp [hx]))).setCell (.inl (by simp)) _ _
  · exact (World.cell?_setCell_other _ _ _ _ (by simp)).trans (World.cell?_of_block (w := w) e5)
  · refine (World.frozen?_setCell ..).trans ?_
    simp only [World.frozen?, e5]

set_option maxRecDepth 100000 in
set_option maxHeartbeats 4000000 in
theorem Add_any (t : Lev.T) (tb o : Nat) (u : Option Addr) (F : List Nat) (a b x : Int) (w : World) (c : w.cell? ⟨tb, o, none⟩ = some (.pointer u)) (f : w.frozen? ⟨tb, o, none⟩ = false) (hn : tb ∉ F) (h : LRep w t (.pointer u) F) (h1 : a < b) (hx1 : -1000000 ≤ x) (hx2 : x ≤ 1000000) (hB1 : LB t) (hB2 : LB (Lev.addT 20 t 0 1048320 a b x)) :
    Calls Tryz.prog 211 #[.pointer (some ⟨tb, o, none⟩), .agg #[.int .i64 a, .int .i64 b], .int .i64 x] w fun e w' => e = .returned (.tuple #[]) ∧ AddPost w tb o F (Lev.addT 20 t 0 1048320 a b x) w' := by
  have AS : Hid (∀ (w' : World), LRep w' t (.pointer u) F → Calls Tryz.prog 253 #[.pointer u, .agg #[.int .i64 0, .int .i64 1048320], .agg #[.int .i64 a, .int .i64 b], .int .i64 x] w' (Added w' F (Lev.addT 20 t 0 1048320 a b x))) :=
    fun w' k => addSays 20 t u F 0 1048320 a b x w' k (by omega) (by omega) (by omega) (by decide) h1 hx1 hx2 hB1 hB2
  have HR := hidp h
  have htb := World.block_lt_of_cell? _ _ c
  generalize Lev.addT 20 t 0 1048320 a b x = t' at *
  clear h hB1 hB2
  go_enter Tryz.func211, Tryz.ntmps211
  go_upto_region 1 with fail
  have hX : Below w.heap.size w (w.alloc (.cells #[.int .i64 a, .int .i64 b] 60)) := (Below.refl _ _).alloc (Nat.le_refl _) _
  have x0 : (w.alloc (.cells #[.int .i64 a, .int .i64 b] 60)).cell? ⟨w.heap.size, 0, none⟩ = some (.int .i64 a) := by simp
  have x1 : (w.alloc (.cells #[.int .i64 a, .int .i64 b] 60)).cell? ⟨w.heap.size, 1, none⟩ = some (.int .i64 b) := by simp
  have xc := cellLater hX c
  have HX := hidp hX
  clear hX
  generalize (World.alloc w (.cells #[.int .i64 a, .int .i64 b] 60)) = X at x0 x1 xc HX ⊢
  go_region_with (first
    | (go_at_call 204; refine (minutes_any _).mono ?_; rintro e w4 ⟨rfl, hbf⟩; have y0 := cellLater hbf (show World.cell? (World.drew X) _ = _ from x0); have y1 := cellLater hbf (show World.cell? (World.drew X) _ = _ from x1); have yc := cellLater hbf (show World.cell? (World.drew X) _ = _ from xc))
    | (go_at_call 253; refine (AS.out _ (HR.out.later (blwMore HX.out (blwMore (blwDrew _) hbf (Nat.le_refl _)) (Nat.le_refl _)))).mono ?_; rintro e w5 ⟨u5, F5, rfl, k1, k2, k3⟩; have z0 := k3.cell hn yc; have zf := (k3.frozen (o := o) hn (World.block_lt_of_cell? _ _ yc)).trans (((Off.of_below (F := []) (blwMore HX.out (blwMore (blwDrew _) hbf (Nat.le_refl _)) (Nat.le_refl _))).frozen (by simp) htb).trans f)))
  all_goals
    have HK := hidp (add_fin (blwMore HX.out (blwMore (blwDrew _) hbf (Nat.le_refl _)) (Nat.le_refl _)) htb hn k1 k2 k3 z0)
    clear k1 k2 k3 z0 zf y0 y1 yc x0 x1 xc HX HR AS
    go_wp2_with fail
    go_end0
    exact ⟨rfl, HK.out⟩

end Go.Proofs.YtjfkfiffakbagaaGreatDoor


/-
  Package levels: the two questions of Room; firstMinute.
-/
namespace Go.Proofs.YtjfkfiffakbagaaGreatDoor
open Go.RowKit

/-- Which of the two questions. -/
def askF (up : Bool) : Nat := if up then 205 else 207
/-- The question that is handed in: of function f, its level in block k. -/
def ask (up : Bool) (k : Nat) : Value := .func (.func (askF up)) #[] #[.pointer (some ⟨k, 0, none⟩)]

set_option maxHeartbeats 1000000 in
theorem ask1 (t : Lev.T) (u : Option Addr) (F : List Nat) (c level : Int) (k : Nat) (w : World) (h : LRep w t (.pointer u) F) (hB : LB t) (hc : w.cell? ⟨k, 0, none⟩ = some (.int .i64 level)) (h1 : -1000000000 ≤ c) (h2 : c ≤ 1000000000) :
    Calls Tryz.prog 205 #[.pointer u, .int .i64 c, .pointer (some ⟨k, 0, none⟩)] w fun e w' => e = .returned (.bool (Lev.wants true level t c)) ∧ Below w.heap.size w w' := by
  have hb := hB.top
  clear hB
  go_enter Tryz.func205, Tryz.ntmps205
  go_wp2_with fail
  go_region_held3 (fun w' => w'.cell? ⟨k, 0, none⟩ = some (.int .i64 level) ∧ Below w.heap.size w w')
    (exact ⟨hc, blwDrew _⟩)
    (first | (go_at_call 206; go_split_ands; refine (ltop_any _ (h.later (by assumption))).mono ?_; rintro e w' ⟨rfl, rfl⟩))
  go_wp2_with fail
  go_ret
  exact ⟨lret_bool (by simp only [Lev.wants]; rw [wrap_small (by omega) (by omega)]; simp), blwDrew _⟩

set_option maxHeartbeats 1000000 in
theorem ask2 (t : Lev.T) (u : Option Addr) (F : List Nat) (c level : Int) (k : Nat) (w : World) (h : LRep w t (.pointer u) F) (hB : LB t) (hc : w.cell? ⟨k, 0, none⟩ = some (.int .i64 level)) (h1 : -1000000000 ≤ c) (h2 : c ≤ 1000000000) :
    Calls Tryz.prog 207 #[.pointer u, .int .i64 c, .pointer (some ⟨k, 0, none⟩)] w fun e w' => e = .returned (.bool (Lev.wants false level t c)) ∧ Below w.heap.size w w' := by
  have hb := hB.bot
  clear hB
  go_enter Tryz.func207, Tryz.ntmps207
  go_wp2_with fail
  go_region_held3 (fun w' => w'.cell? ⟨k, 0, none⟩ = some (.int .i64 level) ∧ Below w.heap.size w w')
    (exact ⟨hc, blwDrew _⟩)
    (first | (go_at_call 208; go_split_ands; refine (lbot_any _ (h.later (by assumption))).mono ?_; rintro e w' ⟨rfl, rfl⟩))
  go_wp2_with fail
  go_ret
  exact ⟨lret_bool (by simp only [Lev.wants]; rw [wrap_small (by omega) (by omega)]; simp), blwDrew _⟩

theorem isFlat_any {t : Lev.T} {u : Option Addr} {F : List Nat} (w : World) (h : LRep w t (.pointer u) F) :
    Calls Tryz.prog 252 #[.pointer u] w fun e w' => e = .returned (.bool (Lev.flat t)) ∧ w' = w := by
  cases t with
  | nil => obtain ⟨h1, _⟩ := h; cases h1; exact isFlat_nil w
  | node a l r =>
    obtain ⟨b, pl, pr, Fl, Fr, rfl, rfl, hh⟩ := half_of h
    have e : Lev.flat (.node a l r) = flatB pl pr := by rw [flatB, hh.l.isNone, hh.r.isNone]; rfl
    rw [e]
    exact isFlat_some b pl pr w hh.c3 hh.c4

/-- What firstMinute returns. -/
def fmV : Option Int → Value
  | none => .tuple #[.int .i64 0, .bool false]
  | some x => .tuple #[.int .i64 x, .bool true]

theorem fm_ret {x y : Int} (h : x = y) : Ending.returned (.tuple #[.int .i64 x, .bool true]) = .returned (fmV (some y)) := by rw [h]; rfl

set_option maxHeartbeats 1000000 in
/-- Nothing there: apart, or not wanted. -/
theorem first_apart (up : Bool) (u : Option Addr) (lo hi a b c : Int) (k : Nat) (w : World) (hp : Lev.apart lo hi a b = true) :
    Calls Tryz.prog 209 #[.pointer u, .agg #[.int .i64 lo, .int .i64 hi], .agg #[.int .i64 a, .int .i64 b], .int .i64 c, ask up k] w fun e w' => e = .returned (fmV none) ∧ Below w.heap.size w w' := by
  generalize ask up k = q
  go_enter Tryz.func209, Tryz.ntmps209
  go_wp2_with fail
  refine (areApart_any _ _ _ _ _).mono ?_
  rintro e w1 ⟨rfl, hb⟩
  rw [hp]
  have HB := hidp (boxes hb).bw
  clear hb
  go_wp2_with fail
  go_ret2
  exact ⟨rfl, HB.out⟩

set_option maxHeartbeats 1000000 in
theorem first_none_true (t : Lev.T) (u : Option Addr) (F : List Nat) (lo hi a b c level : Int) (k : Nat) (w : World) (h : LRep w t (.pointer u) F) (hB : LB t) (hc : w.cell? ⟨k, 0, none⟩ = some (.int .i64 level)) (h1 : -1000000000 ≤ c) (h2 : c ≤ 1000000000) (hp : Lev.apart lo hi a b = false) (hw : Lev.wants true level t c = false) :
    Calls Tryz.prog 209 #[.pointer u, .agg #[.int .i64 lo, .int .i64 hi], .agg #[.int .i64 a, .int .i64 b], .int .i64 c, .func (.func 205) #[] #[.pointer (some ⟨k, 0, none⟩)]] w fun e w' => e = .returned (fmV none) ∧ Below w.heap.size w w' := by
  have AK := hidp (fun w' k' => ask1 t u F c level k w' (LRep.later h k') hB (cellLater k' hc) h1 h2)
  clear hB
  go_enter Tryz.func209, Tryz.ntmps209
  go_wp2_with fail
  refine (areApart_any _ _ _ _ _).mono ?_
  rintro e w1 ⟨rfl, hb⟩
  rw [hp]
  have HB := hidp (boxes hb).bw
  clear hb
  go_wp2_with fail
  refine (AK.out _ HB.out).mono ?_
  rintro e w2 ⟨rfl, hb⟩
  rw [hw]
  have HC := hidp (blwMore HB.out hb (Nat.le_refl _))
  clear HB hb
  go_wp2_with fail
  go_ret2
  exact ⟨rfl, HC.out⟩

set_option maxHeartbeats 1000000 in
/-- One level throughout, and it is wanted. -/
theorem first_flat_true (t : Lev.T) (u : Option Addr) (F : List Nat) (lo hi a b c level : Int) (k : Nat) (w : World) (h : LRep w t (.pointer u) F) (hB : LB t) (hc : w.cell? ⟨k, 0, none⟩ = some (.int .i64 level)) (h1 : -1000000000 ≤ c) (h2 : c ≤ 1000000000) (hp : Lev.apart lo hi a b = false) (hw : Lev.wants true level t c = true) (hf : Lev.flat t = true) :
    Calls Tryz.prog 209 #[.pointer u, .agg #[.int .i64 lo, .int .i64 hi], .agg #[.int .i64 a, .int .i64 b], .int .i64 c, .func (.func 205) #[] #[.pointer (some ⟨k, 0, none⟩)]] w fun e w' => e = .returned (fmV (some (max lo a))) ∧ Below w.heap.size w w' := by
  have AK := hidp (fun w' k' => ask1 t u F c level k w' (LRep.later h k') hB (cellLater k' hc) h1 h2)
  clear hB
  go_enter Tryz.func209, Tryz.ntmps209
  go_wp2_with fail
  refine (areApart_any _ _ _ _ _).mono ?_
  rintro e w1 ⟨rfl, hb⟩
  rw [hp]
  have ⟨q0, q1, q2, q3, hs, hBw⟩ := boxes hb
  have HB := hidp hBw
  clear hb hBw
  go_wp2_with fail
  refine (AK.out _ HB.out).mono ?_
  rintro e w2 ⟨rfl, hb⟩
  rw [hw]
  have r0 := cellLater hb q0
  have r2 := cellLater hb q2
  have HC := hidp (blwMore HB.out hb (Nat.le_refl _))
  clear HB hb q0 q1 q2 q3 hs
  go_wp2_with fail
  refine (isFlat_any _ (h.later HC.out)).mono ?_
  rintro e w3 ⟨rfl, rfl⟩
  rw [hf]
  go_wp2_with fail
  all_goals
    go_ret2
    exact ⟨fm_ret (by omega), HC.out⟩

set_option maxHeartbeats 1000000 in
theorem first_none_false (t : Lev.T) (u : Option Addr) (F : List Nat) (lo hi a b c level : Int) (k : Nat) (w : World) (h : LRep w t (.pointer u) F) (hB : LB t) (hc : w.cell? ⟨k, 0, none⟩ = some (.int .i64 level)) (h1 : -1000000000 ≤ c) (h2 : c ≤ 1000000000) (hp : Lev.apart lo hi a b = false) (hw : Lev.wants false level t c = false) :
    Calls Tryz.prog 209 #[.pointer u, .agg #[.int .i64 lo, .int .i64 hi], .agg #[.int .i64 a, .int .i64 b], .int .i64 c, .func (.func 207) #[] #[.pointer (some ⟨k, 0, none⟩)]] w fun e w' => e = .returned (fmV none) ∧ Below w.heap.size w w' := by
  have AK := hidp (fun w' k' => ask2 t u F c level k w' (LRep.later h k') hB (cellLater k' hc) h1 h2)
  clear hB
  go_enter Tryz.func209, Tryz.ntmps209
  go_wp2_with fail
  refine (areApart_any _ _ _ _ _).mono ?_
  rintro e w1 ⟨rfl, hb⟩
  rw [hp]
  have HB := hidp (boxes hb).bw
  clear hb
  go_wp2_with fail
  refine (AK.out _ HB.out).mono ?_
  rintro e w2 ⟨rfl, hb⟩
  rw [hw]
  have HC := hidp (blwMore HB.out hb (Nat.le_refl _))
  clear HB hb
  go_wp2_with fail
  go_ret2
  exact ⟨rfl, HC.out⟩

set_option maxHeartbeats 1000000 in
/-- One level throughout, and it is wanted. -/
theorem first_flat_false (t : Lev.T) (u : Option Addr) (F : List Nat) (lo hi a b c level : Int) (k : Nat) (w : World) (h : LRep w t (.pointer u) F) (hB : LB t) (hc : w.cell? ⟨k, 0, none⟩ = some (.int .i64 level)) (h1 : -1000000000 ≤ c) (h2 : c ≤ 1000000000) (hp : Lev.apart lo hi a b = false) (hw : Lev.wants false level t c = true) (hf : Lev.flat t = true) :
    Calls Tryz.prog 209 #[.pointer u, .agg #[.int .i64 lo, .int .i64 hi], .agg #[.int .i64 a, .int .i64 b], .int .i64 c, .func (.func 207) #[] #[.pointer (some ⟨k, 0, none⟩)]] w fun e w' => e = .returned (fmV (some (max lo a))) ∧ Below w.heap.size w w' := by
  have AK := hidp (fun w' k' => ask2 t u F c level k w' (LRep.later h k') hB (cellLater k' hc) h1 h2)
  clear hB
  go_enter Tryz.func209, Tryz.ntmps209
  go_wp2_with fail
  refine (areApart_any _ _ _ _ _).mono ?_
  rintro e w1 ⟨rfl, hb⟩
  rw [hp]
  have ⟨q0, q1, q2, q3, hs, hBw⟩ := boxes hb
  have HB := hidp hBw
  clear hb hBw
  go_wp2_with fail
  refine (AK.out _ HB.out).mono ?_
  rintro e w2 ⟨rfl, hb⟩
  rw [hw]
  have r0 := cellLater hb q0
  have r2 := cellLater hb q2
  have HC := hidp (blwMore HB.out hb (Nat.le_refl _))
  clear HB hb q0 q1 q2 q3 hs
  go_wp2_with fail
  refine (isFlat_any _ (h.later HC.out)).mono ?_
  rintro e w3 ⟨rfl, rfl⟩
  rw [hf]
  go_wp2_with fail
  all_goals
    go_ret2
    exact ⟨fm_ret (by omega), HC.out⟩

end Go.Proofs.YtjfkfiffakbagaaGreatDoor


/-
  Package levels: firstMinute at a part that has halves.
-/
namespace Go.Proofs.YtjfkfiffakbagaaGreatDoor
open Go.RowKit

/-- What the induction hands over, for one of the two questions. -/
def FmSays (up : Bool) (fn : Nat) (t : Lev.T) : Prop := ∀ (u : Option Addr) (F : List Nat) (lo hi a b c level : Int) (k : Nat) (w : World), LRep w t (.pointer u) F → LB t → Lev.Good t lo hi → w.cell? ⟨k, 0, none⟩ = some (.int .i64 level) → 0 ≤ c → c + Lev.top t ≤ 100000000 → 0 ≤ lo → lo < hi → hi ≤ 2000000 → a < b →
    Calls Tryz.prog 209 #[.pointer u, .agg #[.int .i64 lo, .int .i64 hi], .agg #[.int .i64 a, .int .i64 b], .int .i64 c, .func (.func fn) #[] #[.pointer (some ⟨k, 0, none⟩)]] w fun e w' => e = .returned (fmV (Lev.fm up level t lo hi a b c)) ∧ Below w.heap.size w w'

/-- The world ahead of the two calls of itself. -/
def FS (X w' : World) (bk N M : Nat) (v lo hi a b : Int) (pl pr : Option Addr) : Prop :=
  w'.cell? ⟨bk, 0, none⟩ = some (.int .i64 v) ∧ w'.cell? ⟨bk, 3, none⟩ = some (.pointer pl) ∧ w'.cell? ⟨bk, 4, none⟩ = some (.pointer pr) ∧ w'.cell? ⟨N, 0, none⟩ = some (.int .i64 a) ∧ w'.cell? ⟨N, 1, none⟩ = some (.int .i64 b) ∧ w'.cell? ⟨M, 0, none⟩ = some (.int .i64 lo) ∧ w'.cell? ⟨M, 1, none⟩ = some (.int .i64 (Lev.mid lo hi)) ∧ w'.cell? ⟨M + 1, 0, none⟩ = some (.int .i64 (Lev.mid lo hi)) ∧ w'.cell? ⟨M + 1, 1, none⟩ = some (.int .i64 hi) ∧ Below X.heap.size X w'

theorem FS.later {X w' w'' : World} {bk N M : Nat} {v lo hi a b : Int} {pl pr : Option Addr} (h : FS X w' bk N M v lo hi a b pl pr) (k : Below w'.heap.size w' w'') : FS X w'' bk N M v lo hi a b pl pr := by
  obtain ⟨h1, h2, h3, h4, h5, h6, h7, h8, h9, h10⟩ := h
  exact ⟨cellLater k h1, cellLater k h2, cellLater k h3, cellLater k h4, cellLater k h5, cellLater k h6, cellLater k h7, cellLater k h8, cellLater k h9, blwMore h10 k (Nat.le_refl _)⟩

theorem fm_cut {up : Bool} {level v lo hi a b c : Int} {l r : Lev.T} (hp : Lev.apart lo hi a b = false) (hw : Lev.wants up level (.node v l r) c = true) (hf : Lev.flat (.node v l r) = false) : Lev.fm up level (.node v l r) lo hi a b c = match Lev.fm up level l lo (Lev.mid lo hi) a b (c + v) with | some x => some x | none => Lev.fm up level r (Lev.mid lo hi) hi a b (c + v) := by
  have hf' : (Lev.isNil l && Lev.isNil r) = false := hf
  rw [Lev.fm]
  simp only [hp, hw, hf', Bool.false_or, Bool.not_true, Bool.false_eq_true, if_false]
  rfl

end Go.Proofs.YtjfkfiffakbagaaGreatDoor


/-
  Package levels: firstMinute at a part that has halves, for each of the two questions.
-/
namespace Go.Proofs.YtjfkfiffakbagaaGreatDoor
open Go.RowKit

set_option maxRecDepth 100000 in
set_option maxHeartbeats 4000000 in
theorem first_cut_true (v : Int) (l r : Lev.T) (ihl : Hid (FmSays true 205 l)) (ihr : Hid (FmSays true 205 r)) (u : Option Addr) (F : List Nat) (lo hi a b c level : Int) (k : Nat) (w : World) (h : LRep w (.node v l r) (.pointer u) F) (hB : LB (.node v l r)) (hg : Lev.Good (.node v l r) lo hi) (hc : w.cell? ⟨k, 0, none⟩ = some (.int .i64 level)) (h1 : 0 ≤ c) (h2 : c + Lev.top (.node v l r) ≤ 100000000) (h3 : 0 ≤ lo) (h4 : lo < hi) (h5 : hi ≤ 2000000) (h6 : a < b)
    (hp : Lev.apart lo hi a b = false) (hw : Lev.wants true level (.node v l r) c = true) (hf : Lev.flat (.node v l r) = false) :
    Calls Tryz.prog 209 #[.pointer u, .agg #[.int .i64 lo, .int .i64 hi], .agg #[.int .i64 a, .int .i64 b], .int .i64 c, .func (.func 205) #[] #[.pointer (some ⟨k, 0, none⟩)]] w fun e w' => e = .returned (fmV (Lev.fm true level (.node v l r) lo hi a b c)) ∧ Below w.heap.size w w' := by
  have tp := hB.top
  have tl := hB.2.2.2.1.top
  have tr := hB.2.2.2.2.top
  have hv := hB.1
  have hv0 := hg.1
  have ht : Lev.top (.node v l r) = v + max (Lev.top l) (Lev.top r) := rfl
  have gl := Lev.lev_nonneg l lo (Lev.mid lo hi) 0 hg.2.2.1
  have t0 : 0 ≤ Lev.top (.node v l r) := by
    obtain ⟨_, x, _, _, e⟩ := Lev.top_is (.node v l r) lo hi h4 hg
    have := Lev.lev_nonneg (.node v l r) lo hi x hg
    omega
  have h2' : 2 ≤ hi - lo := by
    rcases hg.2.1 with ⟨e1, e2⟩ | h2
    · have hf' : (Lev.isNil l && Lev.isNil r) = false := hf
      simp [e1, e2] at hf'
    · exact h2
  have hm : lo < Lev.mid lo hi ∧ Lev.mid lo hi < hi := by unfold Lev.mid; omega
  have AK := hidp (fun w' k' => ask1 (.node v l r) u F c level k w' (LRep.later h k') hB (cellLater k' hc) (by omega) (by omega))
  have HFL := hidp (fun (w' : World) (k' : Below w.heap.size w w') => isFlat_any w' (LRep.later h k'))
  obtain ⟨bk, pl, pr, Fl, Fr, rfl, rfl, hh⟩ := half_of h
  have I1 : Hid (∀ w', Below w.heap.size w w' → Calls Tryz.prog 209 #[.pointer pl, .agg #[.int .i64 lo, .int .i64 (Lev.mid lo hi)], .agg #[.int .i64 a, .int .i64 b], .int .i64 (c + v), .func (.func 205) #[] #[.pointer (some ⟨k, 0, none⟩)]] w' fun e w'' => e = .returned (fmV (Lev.fm true level l lo (Lev.mid lo hi) a b (c + v))) ∧ Below w'.heap.size w' w'') :=
    fun w' k' => ihl.out pl Fl lo _ a b (c + v) level k w' (hh.l.later k') hB.2.2.2.1 hg.2.2.1 (cellLater k' hc) (by omega) (by omega) h3 hm.1 (by omega) h6
  have I2 : Hid (∀ w', Below w.heap.size w w' → Calls Tryz.prog 209 #[.pointer pr, .agg #[.int .i64 (Lev.mid lo hi), .int .i64 hi], .agg #[.int .i64 a, .int .i64 b], .int .i64 (c + v), .func (.func 205) #[] #[.pointer (some ⟨k, 0, none⟩)]] w' fun e w'' => e = .returned (fmV (Lev.fm true level r (Lev.mid lo hi) hi a b (c + v))) ∧ Below w'.heap.size w' w'') :=
    fun w' k' => ihr.out pr Fr _ hi a b (c + v) level k w' (hh.r.later k') hB.2.2.2.2 hg.2.2.2 (cellLater k' hc) (by omega) (by omega) (by omega) hm.2 h5 h6
  rw [fm_cut hp hw hf]
  have hcv : IntKind.i64.wrap (c + v) = c + v := wrap_small (by omega) (by omega)
  have c0 := hh.c0
  have c3 := hh.c3
  have c4 := hh.c4
  clear tp tl tr ht gl t0 h2' hh hB hg h2 h ihl ihr hc hv hv0
  generalize Lev.fm true level l lo (Lev.mid lo hi) a b (c + v) = ol at *
  generalize Lev.fm true level r (Lev.mid lo hi) hi a b (c + v) = or at *
  go_enter Tryz.func209, Tryz.ntmps209
  go_wp2_with fail
  refine (areApart_any _ _ _ _ _).mono ?_
  rintro e w1 ⟨rfl, hb⟩
  rw [hp]
  have ⟨q0, q1, q2, q3, hs, hBw⟩ := boxes hb
  have d0 := cellLater hBw c0
  have d3 := cellLater hBw c3
  have d4 := cellLater hBw c4
  have HB := hidp hBw
  clear hb hBw c0 c3 c4
  go_wp2_with fail
  refine (AK.out _ HB.out).mono ?_
  rintro e w2 ⟨rfl, hb⟩
  rw [hw]
  have r0 : w2.cell? ⟨w.heap.size, 0, none⟩ = some (.int .i64 lo) := cellLater hb q0
  have r1 : w2.cell? ⟨w.heap.size, 1, none⟩ = some (.int .i64 hi) := cellLater hb q1
  have r2 : w2.cell? ⟨w.heap.size + 1, 0, none⟩ = some (.int .i64 a) := cellLater hb q2
  have r3 : w2.cell? ⟨w.heap.size + 1, 1, none⟩ = some (.int .i64 b) := cellLater hb q3
  have e0 := cellLater hb d0
  have e3 := cellLater hb d3
  have e4 := cellLater hb d4
  have HC := hidp (blwMore HB.out hb (Nat.le_refl _))
  clear HB hb q0 q1 q2 q3 hs d0 d3 d4 AK
  go_wp2_with fail
  refine (HFL.out _ HC.out).mono ?_
  rintro e w2' ⟨rfl, rfl⟩
  rw [hf]
  clear HFL
  go_wp2_with fail
  refine (halves_any _ _ _ (by omega) (by omega) (by omega)).mono ?_
  rintro e w3 ⟨rfl, hb⟩
  have hX : Below w2'.heap.size w2' ((w3.alloc (.cells #[.int .i64 lo, .int .i64 (Lev.mid lo hi)] 60)).alloc (.cells #[.int .i64 (Lev.mid lo hi), .int .i64 hi] 60)) := (hb.alloc hb.size _).alloc (by have := hb.size; simp; omega) _
  have hM : FS ((w3.alloc (.cells #[.int .i64 lo, .int .i64 (Lev.mid lo hi)] 60)).alloc (.cells #[.int .i64 (Lev.mid lo hi), .int .i64 hi] 60)) ((w3.alloc (.cells #[.int .i64 lo, .int .i64 (Lev.mid lo hi)] 60)).alloc (.cells #[.int .i64 (Lev.mid lo hi), .int .i64 hi] 60)) bk (w.heap.size + 1) w3.heap.size v lo hi a b pl pr :=
    ⟨cellLater hX e0, cellLater hX e3, cellLater hX e4, cellLater hX r2, cellLater hX r3, by simp, by simp, by simp, by simp, Below.refl _ _⟩
  have HX := hidp (blwMore HC.out hX (Nat.le_refl _))
  clear HC hX hb r0 r1 r2 r3 e0 e3 e4
  go_upto_region 6 with fail
  generalize (World.alloc _ (.cells #[.int .i64 (Lev.mid lo hi), .int .i64 hi] 60)) = X at hM HX ⊢
  generalize w3.heap.size = M at hM ⊢
  cases ol with
  | some y =>
    simp only [fmV] at I1 ⊢
    go_region_held3 (fun w' => w'.cell? ⟨bk, 0, none⟩ = some (.int .i64 v) ∧ w'.cell? ⟨bk, 3, none⟩ = some (.pointer pl) ∧ w'.cell? ⟨bk, 4, none⟩ = some (.pointer pr) ∧ w'.cell? ⟨w.heap.size + 1, 0, none⟩ = some (.int .i64 a) ∧ w'.cell? ⟨w.heap.size + 1, 1, none⟩ = some (.int .i64 b) ∧ w'.cell? ⟨M, 0, none⟩ = some (.int .i64 lo) ∧ w'.cell? ⟨M, 1, none⟩ = some (.int .i64 (Lev.mid lo hi)) ∧ w'.cell? ⟨M + 1, 0, none⟩ = some (.int .i64 (Lev.mid lo hi)) ∧ w'.cell? ⟨M + 1, 1, none⟩ = some (.int .i64 hi) ∧ Below X.heap.size X w')
      (first
        | exact FS.later hM (blwDrew _)
        | (go_split_ands; exact FS.later hM (blwMore (by assumption) hbf (Nat.le_refl _))))
      (first
        | (go_at_call 209; go_split_ands; refine (I1.out _ (blwMore HX.out (by assumption) (Nat.le_refl _))).mono ?_; rintro e w4 ⟨rfl, hbf⟩))
    have HF := hidp (blwMore HX.out (by go_split_ands; assumption : Below X.heap.size X w4) (Nat.le_refl _))
    clear hM HX I1 I2
    go_wp2_with fail
    go_ret2
    exact ⟨rfl, HF.out⟩
  | none =>
    simp only [fmV] at I1 ⊢
    go_region_held3 (fun w' => w'.cell? ⟨bk, 0, none⟩ = some (.int .i64 v) ∧ w'.cell? ⟨bk, 3, none⟩ = some (.pointer pl) ∧ w'.cell? ⟨bk, 4, none⟩ = some (.pointer pr) ∧ w'.cell? ⟨w.heap.size + 1, 0, none⟩ = some (.int .i64 a) ∧ w'.cell? ⟨w.heap.size + 1, 1, none⟩ = some (.int .i64 b) ∧ w'.cell? ⟨M, 0, none⟩ = some (.int .i64 lo) ∧ w'.cell? ⟨M, 1, none⟩ = some (.int .i64 (Lev.mid lo hi)) ∧ w'.cell? ⟨M + 1, 0, none⟩ = some (.int .i64 (Lev.mid lo hi)) ∧ w'.cell? ⟨M + 1, 1, none⟩ = some (.int .i64 hi) ∧ Below X.heap.size X w')
      (first
        | exact FS.later hM (blwDrew _)
        | (go_split_ands; exact FS.later hM (blwMore (by assumption) hbf (Nat.le_refl _))))
      (first
        | (go_at_call 209; go_split_ands; refine (I1.out _ (blwMore HX.out (by assumption) (Nat.le_refl _))).mono ?_; rintro e w4 ⟨rfl, hbf⟩))
    have hN : FS X w4 bk (w.heap.size + 1) M v lo hi a b pl pr := by assumption
    clear hM I1
    go_upto_region 9 with fail
    cases or with
    | some y =>
      simp only [fmV] at I2 ⊢
      go_region_held3 (fun w' => w'.cell? ⟨bk, 0, none⟩ = some (.int .i64 v) ∧ w'.cell? ⟨bk, 3, none⟩ = some (.pointer pl) ∧ w'.cell? ⟨bk, 4, none⟩ = some (.pointer pr) ∧ w'.cell? ⟨w.heap.size + 1, 0, none⟩ = some (.int .i64 a) ∧ w'.cell? ⟨w.heap.size + 1, 1, none⟩ = some (.int .i64 b) ∧ w'.cell? ⟨M, 0, none⟩ = some (.int .i64 lo) ∧ w'.cell? ⟨M, 1, none⟩ = some (.int .i64 (Lev.mid lo hi)) ∧ w'.cell? ⟨M + 1, 0, none⟩ = some (.int .i64 (Lev.mid lo hi)) ∧ w'.cell? ⟨M + 1, 1, none⟩ = some (.int .i64 hi) ∧ Below X.heap.size X w')
        (first
          | exact FS.later hN (blwDrew _)
          | (go_split_ands; exact FS.later hN (blwMore (blwDrew _) hbf (Nat.le_refl _))))
        (first
          | (go_at_call 209; go_split_ands; refine (I2.out _ (blwMore HX.out (by assumption) (Nat.le_refl _))).mono ?_; rintro e w5 ⟨rfl, hbf⟩))
      have HF := hidp (blwMore HX.out (by go_split_ands; assumption : Below X.heap.size X w5) (Nat.le_refl _))
      clear hN HX I2
      go_wp2_with fail
      go_ret2
      exact ⟨rfl, HF.out⟩
    | none =>
      simp only [fmV] at I2 ⊢
      go_region_held3 (fun w' => w'.cell? ⟨bk, 0, none⟩ = some (.int .i64 v) ∧ w'.cell? ⟨bk, 3, none⟩ = some (.pointer pl) ∧ w'.cell? ⟨bk, 4, none⟩ = some (.pointer pr) ∧ w'.cell? ⟨w.heap.size + 1, 0, none⟩ = some (.int .i64 a) ∧ w'.cell? ⟨w.heap.size + 1, 1, none⟩ = some (.int .i64 b) ∧ w'.cell? ⟨M, 0, none⟩ = some (.int .i64 lo) ∧ w'.cell? ⟨M, 1, none⟩ = some (.int .i64 (Lev.mid lo hi)) ∧ w'.cell? ⟨M + 1, 0, none⟩ = some (.int .i64 (Lev.mid lo hi)) ∧ w'.cell? ⟨M + 1, 1, none⟩ = some (.int .i64 hi) ∧ Below X.heap.size X w')
        (first
          | exact FS.later hN (blwDrew _)
          | (go_split_ands; exact FS.later hN (blwMore (blwDrew _) hbf (Nat.le_refl _))))
        (first
          | (go_at_call 209; go_split_ands; refine (I2.out _ (blwMore HX.out (by assumption) (Nat.le_refl _))).mono ?_; rintro e w5 ⟨rfl, hbf⟩))
      have HF := hidp (blwMore HX.out (by go_split_ands; assumption : Below X.heap.size X w5) (Nat.le_refl _))
      clear hN HX I2
      go_wp2_with fail
      go_ret2
      exact ⟨rfl, HF.out⟩

end Go.Proofs.YtjfkfiffakbagaaGreatDoor


/-
  Package levels: firstMinute at a part that has halves, for each of the two questions.
-/
namespace Go.Proofs.YtjfkfiffakbagaaGreatDoor
open Go.RowKit

set_option maxRecDepth 100000 in
set_option maxHeartbeats 4000000 in
theorem first_cut_false (v : Int) (l r : Lev.T) (ihl : Hid (FmSays false 207 l)) (ihr : Hid (FmSays false 207 r)) (u : Option Addr) (F : List Nat) (lo hi a b c level : Int) (k : Nat) (w : World) (h : LRep w (.node v l r) (.pointer u) F) (hB : LB (.node v l r)) (hg : Lev.Good (.node v l r) lo hi) (hc : w.cell? ⟨k, 0, none⟩ = some (.int .i64 level)) (h1 : 0 ≤ c) (h2 : c + Lev.top (.node v l r) ≤ 100000000) (h3 : 0 ≤ lo) (h4 : lo < hi) (h5 : hi ≤ 2000000) (h6 : a < b)
    (hp : Lev.apart lo hi a b = false) (hw : Lev.wants false level (.node v l r) c = true) (hf : Lev.flat (.node v l r) = false) :
    Calls Tryz.prog 209 #[.pointer u, .agg #[.int .i64 lo, .int .i64 hi], .agg #[.int .i64 a, .int .i64 b], .int .i64 c, .func (.func 207) #[] #[.pointer (some ⟨k, 0, none⟩)]] w fun e w' => e = .returned (fmV (Lev.fm false level (.node v l r) lo hi a b c)) ∧ Below w.heap.size w w' := by
  have tp := hB.top
  have tl := hB.2.2.2.1.top
  have tr := hB.2.2.2.2.top
  have hv := hB.1
  have hv0 := hg.1
  have ht : Lev.top (.node v l r) = v + max (Lev.top l) (Lev.top r) := rfl
  have gl := Lev.lev_nonneg l lo (Lev.mid lo hi) 0 hg.2.2.1
  have t0 : 0 ≤ Lev.top (.node v l r) := by
    obtain ⟨_, x, _, _, e⟩ := Lev.top_is (.node v l r) lo hi h4 hg
    have := Lev.lev_nonneg (.node v l r) lo hi x hg
    omega
  have h2' : 2 ≤ hi - lo := by
    rcases hg.2.1 with ⟨e1, e2⟩ | h2
    · have hf' : (Lev.isNil l && Lev.isNil r) = false := hf
      simp [e1, e2] at hf'
    · exact h2
  have hm : lo < Lev.mid lo hi ∧ Lev.mid lo hi < hi := by unfold Lev.mid; omega
  have AK := hidp (fun w' k' => ask2 (.node v l r) u F c level k w' (LRep.later h k') hB (cellLater k' hc) (by omega) (by omega))
  have HFL := hidp (fun (w' : World) (k' : Below w.heap.size w w') => isFlat_any w' (LRep.later h k'))
  obtain ⟨bk, pl, pr, Fl, Fr, rfl, rfl, hh⟩ := half_of h
  have I1 : Hid (∀ w', Below w.heap.size w w' → Calls Tryz.prog 209 #[.pointer pl, .agg #[.int .i64 lo, .int .i64 (Lev.mid lo hi)], .agg #[.int .i64 a, .int .i64 b], .int .i64 (c + v), .func (.func 207) #[] #[.pointer (some ⟨k, 0, none⟩)]] w' fun e w'' => e = .returned (fmV (Lev.fm false level l lo (Lev.mid lo hi) a b (c + v))) ∧ Below w'.heap.size w' w'') :=
    fun w' k' => ihl.out pl Fl lo _ a b (c + v) level k w' (hh.l.later k') hB.2.2.2.1 hg.2.2.1 (cellLater k' hc) (by omega) (by omega) h3 hm.1 (by omega) h6
  have I2 : Hid (∀ w', Below w.heap.size w w' → Calls Tryz.prog 209 #[.pointer pr, .agg #[.int .i64 (Lev.mid lo hi), .int .i64 hi], .agg #[.int .i64 a, .int .i64 b], .int .i64 (c + v), .func (.func 207) #[] #[.pointer (some ⟨k, 0, none⟩)]] w' fun e w'' => e = .returned (fmV (Lev.fm false level r (Lev.mid lo hi) hi a b (c + v))) ∧ Below w'.heap.size w' w'') :=
    fun w' k' => ihr.out pr Fr _ hi a b (c + v) level k w' (hh.r.later k') hB.2.2.2.2 hg.2.2.2 (cellLater k' hc) (by omega) (by omega) (by omega) hm.2 h5 h6
  rw [fm_cut hp hw hf]
  have hcv : IntKind.i64.wrap (c + v) = c + v := wrap_small (by omega) (by omega)
  have c0 := hh.c0
  have c3 := hh.c3
  have c4 := hh.c4
  clear tp tl tr ht gl t0 h2' hh hB hg h2 h ihl ihr hc hv hv0
  generalize Lev.fm false level l lo (Lev.mid lo hi) a b (c + v) = ol at *
  generalize Lev.fm false level r (Lev.mid lo hi) hi a b (c + v) = or at *
  go_enter Tryz.func209, Tryz.ntmps209
  go_wp2_with fail
  refine (areApart_any _ _ _ _ _).mono ?_
  rintro e w1 ⟨rfl, hb⟩
  rw [hp]
  have ⟨q0, q1, q2, q3, hs, hBw⟩ := boxes hb
  have d0 := cellLater hBw c0
  have d3 := cellLater hBw c3
  have d4 := cellLater hBw c4
  have HB := hidp hBw
  clear hb hBw c0 c3 c4
  go_wp2_with fail
  refine (AK.out _ HB.out).mono ?_
  rintro e w2 ⟨rfl, hb⟩
  rw [hw]
  have r0 : w2.cell? ⟨w.heap.size, 0, none⟩ = some (.int .i64 lo) := cellLater hb q0
  have r1 : w2.cell? ⟨w.heap.size, 1, none⟩ = some (.int .i64 hi) := cellLater hb q1
  have r2 : w2.cell? ⟨w.heap.size + 1, 0, none⟩ = some (.int .i64 a) := cellLater hb q2
  have r3 : w2.cell? ⟨w.heap.size + 1, 1, none⟩ = some (.int .i64 b) := cellLater hb q3
  have e0 := cellLater hb d0
  have e3 := cellLater hb d3
  have e4 := cellLater hb d4
  have HC := hidp (blwMore HB.out hb (Nat.le_refl _))
  clear HB hb q0 q1 q2 q3 hs d0 d3 d4 AK
  go_wp2_with fail
  refine (HFL.out _ HC.out).mono ?_
  rintro e w2' ⟨rfl, rfl⟩
  rw [hf]
  clear HFL
  go_wp2_with fail
  refine (halves_any _ _ _ (by omega) (by omega) (by omega)).mono ?_
  rintro e w3 ⟨rfl, hb⟩
  have hX : Below w2'.heap.size w2' ((w3.alloc (.cells #[.int .i64 lo, .int .i64 (Lev.mid lo hi)] 60)).alloc (.cells #[.int .i64 (Lev.mid lo hi), .int .i64 hi] 60)) := (hb.alloc hb.size _).alloc (by have := hb.size; simp; omega) _
  have hM : FS ((w3.alloc (.cells #[.int .i64 lo, .int .i64 (Lev.mid lo hi)] 60)).alloc (.cells #[.int .i64 (Lev.mid lo hi), .int .i64 hi] 60)) ((w3.alloc (.cells #[.int .i64 lo, .int .i64 (Lev.mid lo hi)] 60)).alloc (.cells #[.int .i64 (Lev.mid lo hi), .int .i64 hi] 60)) bk (w.heap.size + 1) w3.heap.size v lo hi a b pl pr :=
    ⟨cellLater hX e0, cellLater hX e3, cellLater hX e4, cellLater hX r2, cellLater hX r3, by simp, by simp, by simp, by simp, Below.refl _ _⟩
  have HX := hidp (blwMore HC.out hX (Nat.le_refl _))
  clear HC hX hb r0 r1 r2 r3 e0 e3 e4
  go_upto_region 6 with fail
  generalize (World.alloc _ (.cells #[.int .i64 (Lev.mid lo hi), .int .i64 hi] 60)) = X at hM HX ⊢
  generalize w3.heap.size = M at hM ⊢
  cases ol with
  | some y =>
    simp only [fmV] at I1 ⊢
    go_region_held3 (fun w' => w'.cell? ⟨bk, 0, none⟩ = some (.int .i64 v) ∧ w'.cell? ⟨bk, 3, none⟩ = some (.pointer pl) ∧ w'.cell? ⟨bk, 4, none⟩ = some (.pointer pr) ∧ w'.cell? ⟨w.heap.size + 1, 0, none⟩ = some (.int .i64 a) ∧ w'.cell? ⟨w.heap.size + 1, 1, none⟩ = some (.int .i64 b) ∧ w'.cell? ⟨M, 0, none⟩ = some (.int .i64 lo) ∧ w'.cell? ⟨M, 1, none⟩ = some (.int .i64 (Lev.mid lo hi)) ∧ w'.cell? ⟨M + 1, 0, none⟩ = some (.int .i64 (Lev.mid lo hi)) ∧ w'.cell? ⟨M + 1, 1, none⟩ = some (.int .i64 hi) ∧ Below X.heap.size X w')
      (first
        | exact FS.later hM (blwDrew _)
        | (go_split_ands; exact FS.later hM (blwMore (by assumption) hbf (Nat.le_refl _))))
      (first
        | (go_at_call 209; go_split_ands; refine (I1.out _ (blwMore HX.out (by assumption) (Nat.le_refl _))).mono ?_; rintro e w4 ⟨rfl, hbf⟩))
    have HF := hidp (blwMore HX.out (by go_split_ands; assumption : Below X.heap.size X w4) (Nat.le_refl _))
    clear hM HX I1 I2
    go_wp2_with fail
    go_ret2
    exact ⟨rfl, HF.out⟩
  | none =>
    simp only [fmV] at I1 ⊢
    go_region_held3 (fun w' => w'.cell? ⟨bk, 0, none⟩ = some (.int .i64 v) ∧ w'.cell? ⟨bk, 3, none⟩ = some (.pointer pl) ∧ w'.cell? ⟨bk, 4, none⟩ = some (.pointer pr) ∧ w'.cell? ⟨w.heap.size + 1, 0, none⟩ = some (.int .i64 a) ∧ w'.cell? ⟨w.heap.size + 1, 1, none⟩ = some (.int .i64 b) ∧ w'.cell? ⟨M, 0, none⟩ = some (.int .i64 lo) ∧ w'.cell? ⟨M, 1, none⟩ = some (.int .i64 (Lev.mid lo hi)) ∧ w'.cell? ⟨M + 1, 0, none⟩ = some (.int .i64 (Lev.mid lo hi)) ∧ w'.cell? ⟨M + 1, 1, none⟩ = some (.int .i64 hi) ∧ Below X.heap.size X w')
      (first
        | exact FS.later hM (blwDrew _)
        | (go_split_ands; exact FS.later hM (blwMore (by assumption) hbf (Nat.le_refl _))))
      (first
        | (go_at_call 209; go_split_ands; refine (I1.out _ (blwMore HX.out (by assumption) (Nat.le_refl _))).mono ?_; rintro e w4 ⟨rfl, hbf⟩))
    have hN : FS X w4 bk (w.heap.size + 1) M v lo hi a b pl pr := by assumption
    clear hM I1
    go_upto_region 9 with fail
    cases or with
    | some y =>
      simp only [fmV] at I2 ⊢
      go_region_held3 (fun w' => w'.cell? ⟨bk, 0, none⟩ = some (.int .i64 v) ∧ w'.cell? ⟨bk, 3, none⟩ = some (.pointer pl) ∧ w'.cell? ⟨bk, 4, none⟩ = some (.pointer pr) ∧ w'.cell? ⟨w.heap.size + 1, 0, none⟩ = some (.int .i64 a) ∧ w'.cell? ⟨w.heap.size + 1, 1, none⟩ = some (.int .i64 b) ∧ w'.cell? ⟨M, 0, none⟩ = some (.int .i64 lo) ∧ w'.cell? ⟨M, 1, none⟩ = some (.int .i64 (Lev.mid lo hi)) ∧ w'.cell? ⟨M + 1, 0, none⟩ = some (.int .i64 (Lev.mid lo hi)) ∧ w'.cell? ⟨M + 1, 1, none⟩ = some (.int .i64 hi) ∧ Below X.heap.size X w')
        (first
          | exact FS.later hN (blwDrew _)
          | (go_split_ands; exact FS.later hN (blwMore (blwDrew _) hbf (Nat.le_refl _))))
        (first
          | (go_at_call 209; go_split_ands; refine (I2.out _ (blwMore HX.out (by assumption) (Nat.le_refl _))).mono ?_; rintro e w5 ⟨rfl, hbf⟩))
      have HF := hidp (blwMore HX.out (by go_split_ands; assumption : Below X.heap.size X w5) (Nat.le_refl _))
      clear hN HX I2
      go_wp2_with fail
      go_ret2
      exact ⟨rfl, HF.out⟩
    | none =>
      simp only [fmV] at I2 ⊢
      go_region_held3 (fun w' => w'.cell? ⟨bk, 0, none⟩ = some (.int .i64 v) ∧ w'.cell? ⟨bk, 3, none⟩ = some (.pointer pl) ∧ w'.cell? ⟨bk, 4, none⟩ = some (.pointer pr) ∧ w'.cell? ⟨w.heap.size + 1, 0, none⟩ = some (.int .i64 a) ∧ w'.cell? ⟨w.heap.size + 1, 1, none⟩ = some (.int .i64 b) ∧ w'.cell? ⟨M, 0, none⟩ = some (.int .i64 lo) ∧ w'.cell? ⟨M, 1, none⟩ = some (.int .i64 (Lev.mid lo hi)) ∧ w'.cell? ⟨M + 1, 0, none⟩ = some (.int .i64 (Lev.mid lo hi)) ∧ w'.cell? ⟨M + 1, 1, none⟩ = some (.int .i64 hi) ∧ Below X.heap.size X w')
        (first
          | exact FS.later hN (blwDrew _)
          | (go_split_ands; exact FS.later hN (blwMore (blwDrew _) hbf (Nat.le_refl _))))
        (first
          | (go_at_call 209; go_split_ands; refine (I2.out _ (blwMore HX.out (by assumption) (Nat.le_refl _))).mono ?_; rintro e w5 ⟨rfl, hbf⟩))
      have HF := hidp (blwMore HX.out (by go_split_ands; assumption : Below X.heap.size X w5) (Nat.le_refl _))
      clear hN HX I2
      go_wp2_with fail
      go_ret2
      exact ⟨rfl, HF.out⟩

end Go.Proofs.YtjfkfiffakbagaaGreatDoor

