/-
  Parts of the proof, one behind the other: EndRise, RefDesk, RefTaken, RefStarts, RefFits, RefRow, RefWithout, RefState, EndTake, RefJoins, EndPut, EndDrop, PtrMap, Cal, CalFn.
-/
import Derived.Test.YtjfkfiffakbagaaGreatDoorL04
import Derived.OwnWalk
import Derived.Deep.AppendLies
import Derived.Deep.CutRange
import Derived.Deep.RegionLaw
import Derived.Maps.OwnSet
import Derived.Maps.OwnOps
import Derived.Maps.Views
/-
  Package ends: rise, sink.
-/
namespace Go.Proofs.YtjfkfiffakbagaaGreatDoor
open Go.RowKit

/-- A heap's row, turned; beside it nothing has changed. -/
structure Turned (w wx : World) (d o H n cap : Nat) (l l' : List Hp.Hi) : Prop where
  hp : HP wx d o (.slice (some ⟨H, 0, none⟩) n cap) l'
  len : l'.length = n
  perm : l'.Perm l
  off : Off [H] w wx
theorem Turned.new {w : World} {d o H cap : Nat} {l : List Hp.Hi} (h : HP w d o (.slice (some ⟨H, 0, none⟩) l.length cap) l) : Turned w w d o H l.length cap l l := ⟨h, rfl, .refl _, Off.refl _ _⟩
theorem Turned.later {w wx wy : World} {d o H n cap : Nat} {l l' : List Hp.Hi} (h : Turned w wx d o H n cap l l') (k : Below wx.heap.size wx wy) : Turned w wy d o H n cap l l' :=
  ⟨h.hp.later k, h.len, h.perm, h.off.trans' (Off.of_below (F := []) k) (by simp)⟩

set_option maxRecDepth 100000 in
set_option maxHeartbeats 2000000 in
theorem rise_any (d o H cap : Nat) (l : List Hp.Hi) (p : Nat) (w : World) (h : HP w d o (.slice (some ⟨H, 0, none⟩) l.length cap) l) (hp : p < l.length) (hr : Hp.RiseInv l p) (hl : l.length ≤ 1000) :
    Calls Tryz.prog 240 #[.pointer (some ⟨d, o, none⟩), .int .i64 p] w fun e w' => e = .returned (.tuple #[]) ∧ ∃ l', Turned w w' d o H l.length cap l l' ∧ Hp.Heap l' := by
  have T0 := hidp (Turned.new h)
  have R0 := hidp hr
  clear h hr
  go_enter Tryz.func240, Tryz.ntmps240
  go_wp2_with fail
  go_loopw [1] (fun v wx => ∃ (q : Nat) (l' : List Hp.Hi), v = .int .i64 q ∧ q < l.length ∧ Hp.RiseInv l' q ∧ Turned w wx d o H l.length cap l l') (fun v _ => (intOf v).toNat)
  case atStart => exact ⟨p, l, rfl, hp, R0.out, T0.out⟩
  case round =>
    obtain ⟨q, l', rfl, hq, hr, ht⟩ := hrel
    by_cases h0 : 0 < q
    · have i0 : (0 : Int) < (q : Int) := by omega
      have HT := hidp ht
      have HR := hidp hr
      have ea : ((((q : Int) - 1).tdiv 2)) = ((Hp.par q : Nat) : Int) := by
        unfold Hp.par
        rw [Int.tdiv_eq_ediv_of_nonneg (by omega)]; omega
      have ew : IntKind.i64.wrap ((q : Int) - 1) = (q : Int) - 1 := wrap_small (by omega) (by omega)
      have hpq : Hp.par q < q := by unfold Hp.par; omega
      have AH := hidp (fun wy (k : Below wr.heap.size wr wy) => isAhead_any d o _ l' q (Hp.par q) wy (ht.hp.later k) (by rw [ht.len]; omega) (by rw [ht.len]; omega) (by rw [ht.len]; omega))
      clear hr ht
      go_wp2_with fail
      refine (AH.out _ (Below.refl _ _)).mono ?_
      rintro e w4 ⟨rfl, k1⟩
      have HT4 := hidp (HT.out.later k1)
      clear AH HT k1
      cases hb : aheadB (Hp.at_ l' q) (Hp.at_ l' (Hp.par q))
      · have HF := hidp (And.intro HT4.out (HR.out.done (.inr (aheadB_not.1 hb))))
        clear HT4 HR
        go_wp2_with fail
        (try simp only [Exit.inBlock, Exit.then]); refine bodyPost_ret (results_none rfl _ _ _) rfl ?_
        exact ⟨rfl, l', HF.out⟩
      · have hlen := HT4.out.len
        have SW := hidp (hswap_any d o H cap l' q (Hp.par q) w4 (by rw [hlen]; exact HT4.out.hp) (by omega) (by omega) (by omega))
        have HS := hidp (HR.out.step (by omega) h0 (aheadB_iff.1 hb))
        have HL := hidp hlen
        clear HR hlen
        go_wp2_with fail
        refine SW.out.mono ?_
        rintro e w5 ⟨rfl, k2, k3⟩
        have HN : Hid (Turned w w5 d o H l.length cap l (Hp.swap l' q (Hp.par q))) :=
          ⟨by rw [← HL.out]; exact k2, Hp.swap_len.trans HL.out, (Hp.swap_perm (by rw [HL.out]; omega) (by rw [HL.out]; omega)).trans HT4.out.perm, HT4.out.off.trans k3⟩
        clear k2 k3 SW HT4
        go_wp2_with fail
        go_roundw
        case rel => exact ⟨Hp.par q, _, rfl, by omega, HS.out, HN.out⟩
        case measure => simp [intOf]; omega
    · have e0 : q = 0 := by omega
      subst e0
      have HF := hidp (And.intro ht (hr.done (.inl rfl)))
      clear hr ht
      go_wp2_with fail
      go_end0
      exact ⟨rfl, l', HF.out⟩

/-- The children of q below b have been looked at: f is the first of them and q. -/
structure SinkIn (l : List Hp.Hi) (q f b : Nat) : Prop where
  b0 : 2 * q + 1 ≤ b
  b1 : b ≤ 2 * q + 3
  f1 : f < l.length
  ff : f = q ∨ (2 * q + 1 ≤ f ∧ f < b ∧ Hp.ahead (Hp.at_ l f) (Hp.at_ l q))
  no : ∀ i, 2 * q + 1 ≤ i → i < b → i < l.length → ¬ Hp.ahead (Hp.at_ l i) (Hp.at_ l f)
theorem SinkIn.new {l : List Hp.Hi} {q : Nat} (h : q < l.length) : SinkIn l q q (2 * q + 1) := ⟨by omega, by omega, h, .inl rfl, fun i h1 h2 _ => by omega⟩
theorem SinkIn.notS {l : List Hp.Hi} {q f b : Nat} (h : SinkIn l q f b) (hb : b ≤ 2 * q + 2) (k : ¬ Hp.ahead (Hp.at_ l b) (Hp.at_ l f)) : SinkIn l q f (b + 1) := by
  refine ⟨by have := h.b0; omega, by omega, h.f1, ?_, fun i h1 h2 h3 => ?_⟩
  · rcases h.ff with e | ⟨e1, e2, e3⟩
    · exact .inl e
    · exact .inr ⟨e1, by omega, e3⟩
  · by_cases e : i = b
    · subst e; exact k
    · exact h.no i h1 (by omega) h3
theorem SinkIn.yes {l : List Hp.Hi} {q f b : Nat} (h : SinkIn l q f b) (hb : b ≤ 2 * q + 2) (hl : b < l.length) (k : Hp.ahead (Hp.at_ l b) (Hp.at_ l f)) : SinkIn l q b (b + 1) := by
  have h0 := h.b0
  refine ⟨by omega, by omega, hl, .inr ⟨by omega, by omega, ?_⟩, fun i h1 h2 h3 => ?_⟩
  · rcases h.ff with e | ⟨e1, e2, e3⟩
    · rw [← e]; exact k
    · unfold Hp.ahead at *; omega
  · by_cases e : i = b
    · subst e; exact Hp.not_self _
    · have := h.no i h1 (by omega) h3
      unfold Hp.ahead at *; omega
/-- All have been looked at. -/
theorem SinkIn.all {l : List Hp.Hi} {q f b : Nat} (h : SinkIn l q f b) (hb : ¬ b ≤ 2 * q + 2 ∨ ¬ b < l.length) : ∀ i, 0 < i → i < l.length → Hp.par i = q → ¬ Hp.ahead (Hp.at_ l i) (Hp.at_ l f) := by
  intro i h0 h1 h2
  have := h.b0
  unfold Hp.par at h2
  exact h.no i (by omega) (by omega) h1

set_option maxRecDepth 100000 in
set_option maxHeartbeats 2000000 in
theorem sink_any (d o H cap : Nat) (l : List Hp.Hi) (p : Nat) (w : World) (h : HP w d o (.slice (some ⟨H, 0, none⟩) l.length cap) l) (hp : p < l.length) (hr : Hp.SinkInv l p p) (hl : l.length ≤ 1000) :
    Calls Tryz.prog 244 #[.pointer (some ⟨d, o, none⟩), .int .i64 p] w fun e w' => e = .returned (.tuple #[]) ∧ ∃ l', Turned w w' d o H l.length cap l l' ∧ Hp.RiseInv l' p := by
  have T0 := hidp (Turned.new h)
  have R0 := hidp hr
  clear h hr
  go_enter Tryz.func244, Tryz.ntmps244
  go_wp2_with fail
  go_loopw [1] (fun v wx => ∃ (q : Nat) (l' : List Hp.Hi), v = .int .i64 q ∧ q < l.length ∧ Hp.SinkInv l' p q ∧ Turned w wx d o H l.length cap l l') (fun v _ => l.length - (intOf v).toNat)
  case atStart => exact ⟨p, l, rfl, hp, R0.out, T0.out⟩
  case round =>
    obtain ⟨q, l', rfl, hq, hr, ht⟩ := hrel
    have HT := hidp ht
    have HR := hidp hr
    clear hr ht
    have w1 : IntKind.i64.wrap (2 * (q : Int)) = 2 * (q : Int) := wrap_small (by omega) (by omega)
    have w2 : IntKind.i64.wrap (2 * (q : Int) + 1) = 2 * (q : Int) + 1 := wrap_small (by omega) (by omega)
    have w3 : IntKind.i64.wrap (2 * (q : Int) + 2) = 2 * (q : Int) + 2 := wrap_small (by omega) (by omega)
    go_wp2_with fail
    go_loopw [4, 5] (fun vf vb wx => ∃ f b : Nat, vf = .int .i64 f ∧ vb = .int .i64 b ∧ SinkIn l' q f b ∧ Turned w wx d o H l.length cap l l') (fun _ vb _ => 2 * q + 3 - (intOf vb).toNat)
    case atStart => exact ⟨q, 2 * q + 1, rfl, by simp, SinkIn.new (by rw [HT.out.len]; exact hq), HT.out⟩
    case round =>
      obtain ⟨f, b, rfl, rfl, hs, ht⟩ := hrel
      have hlen := ht.len
      have hc := ht.hp.c
      by_cases hb1 : b ≤ 2 * q + 2
      · have b1 : (b : Int) ≤ 2 * (q : Int) + 2 := by omega
        by_cases hb2 : b < l.length
        · have b2 : (b : Int) < (l.length : Int) := by omega
          have fb := hs.f1
          have AH := hidp (isAhead_any d o _ l' b f wr ht.hp (by omega) (by omega) (by omega))
          have HT2 := hidp ht
          have HS := hidp hs
          have hw : IntKind.i64.wrap ((b : Int) + 1) = ((b + 1 : Nat) : Int) := by rw [wrap_small (by omega) (by omega)]; omega
          clear ht hs
          go_wp2_with fail
          refine AH.out.mono ?_
          rintro e w4 ⟨rfl, k1⟩
          have HT4 := hidp (HT2.out.later k1)
          clear AH HT2 k1
          cases hb : aheadB (Hp.at_ l' b) (Hp.at_ l' f)
          · have HN := hidp (HS.out.notS hb1 (aheadB_not.1 hb))
            clear HS
            go_wp2_with fail
            go_roundw
            case rel => exact ⟨f, b + 1, rfl, rfl, HN.out, HT4.out⟩
            case measure => simp [intOf]; omega
          · have HN := hidp (HS.out.yes hb1 (by omega) (aheadB_iff.1 hb))
            clear HS
            go_wp2_with fail
            go_roundw
            case rel => exact ⟨b, b + 1, rfl, rfl, HN.out, HT4.out⟩
            case measure => simp [intOf]; omega
        · have b2 : ¬ ((b : Int) < (l.length : Int)) := by omega
          have HALL := hidp (hs.all (by omega))
          have hff := hs.ff
          have hf1 := hs.f1
          have hqp := HR.out.qp
          have HT2 := hidp ht
          have HL := hidp hlen
          by_cases hfq : f = q
          · subst hfq
            have HF := hidp (And.intro ht (HR.out.done (by omega) HALL.out))
            clear ht hs HALL hff hf1 HT2 HT HR HL hlen
            go_wp2_with fail
            (try simp only [Exit.inBlock, Exit.then]); refine bodyPost_ret (results_none rfl _ _ _) rfl ?_
            exact ⟨rfl, l', HF.out⟩
          · have hfq' : ¬ ((f : Int) = (q : Int)) := by omega
            have hf2 : 2 * q + 1 ≤ f := by omega
            have SW := hidp (hswap_any d o H cap l' q f wr (by rw [hlen]; exact ht.hp) (by omega) (by omega) (by omega))
            have hah : Hp.ahead (Hp.at_ l' f) (Hp.at_ l' q) := by rcases hff with e | e; exact absurd e hfq; exact e.2.2
            have HS := hidp (HR.out.step (c := f) (by omega) hf1 (by unfold Hp.par; have := hs.ff; have := hs.b1; omega) hah HALL.out)
            clear ht hs HALL hff hah hlen
            go_wp2_with fail
            refine SW.out.mono ?_
            rintro e w5 ⟨rfl, k2, k3⟩
            have HN : Hid (Turned w w5 d o H l.length cap l (Hp.swap l' q f)) :=
              ⟨by rw [← HL.out]; exact k2, Hp.swap_len.trans HL.out, (Hp.swap_perm (by rw [HL.out]; omega) hf1).trans HT2.out.perm, HT2.out.off.trans k3⟩
            clear k2 k3 SW HT2 HT
            go_wp2_with fail
            go_roundw
            case rel => exact ⟨f, _, rfl, by rw [← HL.out]; exact hf1, HS.out, HN.out⟩
            case measure => have := HL.out; simp [intOf]; omega
      · have b1 : ¬ ((b : Int) ≤ 2 * (q : Int) + 2) := by omega
        have HALL := hidp (hs.all (by omega))
        have hff := hs.ff
        have hf1 := hs.f1
        have hqp := HR.out.qp
        have HT2 := hidp ht
        have HL := hidp hlen
        by_cases hfq : f = q
        · subst hfq
          have HF := hidp (And.intro ht (HR.out.done (by omega) HALL.out))
          clear ht hs HALL hff hf1 HT2 HT HR HL hlen
          go_wp2_with fail
          (try simp only [Exit.inBlock, Exit.then]); refine bodyPost_ret (results_none rfl _ _ _) rfl ?_
          exact ⟨rfl, l', HF.out⟩
        · have hfq' : ¬ ((f : Int) = (q : Int)) := by omega
          have hf2 : 2 * q + 1 ≤ f := by omega
          have SW := hidp (hswap_any d o H cap l' q f wr (by rw [hlen]; exact ht.hp) (by omega) (by omega) (by omega))
          have hah : Hp.ahead (Hp.at_ l' f) (Hp.at_ l' q) := by rcases hff with e | e; exact absurd e hfq; exact e.2.2
          have HS := hidp (HR.out.step (c := f) (by omega) hf1 (by unfold Hp.par; have := hs.ff; have := hs.b1; omega) hah HALL.out)
          clear ht hs HALL hff hah hlen
          go_wp2_with fail
          refine SW.out.mono ?_
          rintro e w5 ⟨rfl, k2, k3⟩
          have HN : Hid (Turned w w5 d o H l.length cap l (Hp.swap l' q f)) :=
            ⟨by rw [← HL.out]; exact k2, Hp.swap_len.trans HL.out, (Hp.swap_perm (by rw [HL.out]; omega) hf1).trans HT2.out.perm, HT2.out.off.trans k3⟩
          clear k2 k3 SW HT2 HT
          go_wp2_with fail
          go_roundw
          case rel => exact ⟨f, _, rfl, by rw [← HL.out]; exact hf1, HS.out, HN.out⟩
          case measure => have := HL.out; simp [intOf]; omega

end Go.Proofs.YtjfkfiffakbagaaGreatDoor


/-
  The document's desk as mathematics, and as it lies in memory: things, entries; how much is taken.
-/
namespace Go.Proofs.YtjfkfiffakbagaaGreatDoor
open Go.RowKit
namespace Desk

structure Ent where
  id : Int
  kind : Int
  thing : ByteArray
  units : Int
  spans : List (Int × Int)
  till : Int

/-- How many spans have a minute. -/
def hasB (t : Int) (s : Int × Int) : Bool := decide (s.1 ≤ t) && decide (t < s.2)
def timesN (L : List (Int × Int)) (t : Int) : Int := ((L.filter (hasB t)).length : Int)
def sameB (a b : ByteArray) : Bool := a.toList == b.toList
/-- Is it of that thing, and does it not wait? -/
def ofB (name : ByteArray) (e : Ent) : Bool := sameB e.thing name && (e.kind != 3)
def takenN (name : ByteArray) (t : Int) : List Ent → Int
  | [] => 0
  | e :: r => (if ofB name e then timesN e.spans t * e.units else 0) + takenN name t r
def startsL (name : ByteArray) : List Ent → List Int
  | [] => []
  | e :: r => (if sameB e.thing name then e.spans.map (·.1) else []) ++ startsL name r

theorem timesN_bd (L : List (Int × Int)) (t : Int) : 0 ≤ timesN L t ∧ timesN L t ≤ L.length := by
  unfold timesN
  have := List.length_filter_le (hasB t) L
  omega
theorem takenN_append (name : ByteArray) (t : Int) (l r : List Ent) : takenN name t (l ++ r) = takenN name t l + takenN name t r := by
  induction l with
  | nil => simp [takenN]
  | cons e l ih => simp only [List.cons_append, takenN, ih]; omega
/-- An entry's numbers are small. -/
structure Small (e : Ent) : Prop where
  u0 : 0 ≤ e.units
  u1 : e.units ≤ 9
  sl : e.spans.length ≤ 100
end Desk

/-- A list of spans in block B, from its beginning on. -/
def RSL (w : World) (B : Nat) (L : List (Int × Int)) : Prop := ∀ (i : Nat) (h : i < L.length), w.cell? ⟨B, i * 2, none⟩ = some (.int .i64 L[i].1) ∧ w.cell? ⟨B, i * 2 + 1, none⟩ = some (.int .i64 L[i].2)
theorem RSL.off {w w' : World} {B : Nat} {L : List (Int × Int)} {G : List Nat} (h : RSL w B L) (k : Off G w w') (hB : B ∉ G) : RSL w' B L := fun i hi => ⟨k.cell hB (h i hi).1, k.cell hB (h i hi).2⟩
theorem RSL.later {w w' : World} {B : Nat} {L : List (Int × Int)} (h : RSL w B L) (k : Below w.heap.size w w') : RSL w' B L := h.off (G := []) (Off.of_below k) (by simp)

/-- Entry number i of the row in block E; its spans in block B. -/
structure RE (w : World) (E i : Nat) (e : Desk.Ent) (B cap : Nat) : Prop where
  c0 : w.cell? ⟨E, i * 6, none⟩ = some (.int .i64 e.id)
  c1 : w.cell? ⟨E, i * 6 + 1, none⟩ = some (.int .i64 e.kind)
  c2 : w.cell? ⟨E, i * 6 + 2, none⟩ = some (.string e.thing)
  c3 : w.cell? ⟨E, i * 6 + 3, none⟩ = some (.int .i64 e.units)
  c4 : w.cell? ⟨E, i * 6 + 4, none⟩ = some (.slice (some ⟨B, 0, none⟩) e.spans.length cap)
  c5 : w.cell? ⟨E, i * 6 + 5, none⟩ = some (.int .i64 e.till)
  sl : RSL w B e.spans
theorem RE.later {w w' : World} {E i : Nat} {e : Desk.Ent} {B cap : Nat} (h : RE w E i e B cap) (k : Below w.heap.size w w') : RE w' E i e B cap := by
  have o : Off [] w w' := Off.of_below k
  exact ⟨o.cell (by simp) h.c0, o.cell (by simp) h.c1, o.cell (by simp) h.c2, o.cell (by simp) h.c3, o.cell (by simp) h.c4, o.cell (by simp) h.c5, h.sl.off o (by simp)⟩

/-- The entries of the desk in block d. -/
structure RDE (w : World) (d : Nat) (a : Option Addr) (cap E : Nat) (es : List Desk.Ent) : Prop where
  c : w.cell? ⟨d, 1, none⟩ = some (.slice a es.length cap)
  a : es ≠ [] → a = some ⟨E, 0, none⟩
  r : ∀ (i : Nat) (h : i < es.length), ∃ B cap, RE w E i es[i] B cap
theorem RDE.later {w w' : World} {d : Nat} {a : Option Addr} {cap E : Nat} {es : List Desk.Ent} (h : RDE w d a cap E es) (k : Below w.heap.size w w') : RDE w' d a cap E es :=
  ⟨(Off.of_below (F := []) k).cell (by simp) h.c, h.a, fun i hi => by obtain ⟨B, c, r⟩ := h.r i hi; exact ⟨B, c, r.later k⟩⟩
theorem RDE.at {w : World} {d : Nat} {a : Option Addr} {cap E : Nat} {es : List Desk.Ent} (h : RDE w d a cap E es) {i : Nat} (hi : i < es.length) : a = some ⟨E, 0, none⟩ := h.a (by intro e; simp [e] at hi)

end Go.Proofs.YtjfkfiffakbagaaGreatDoor


/-
  The document's desk: times, taken.
-/
namespace Go.Proofs.YtjfkfiffakbagaaGreatDoor
open Go.RowKit

end Go.Proofs.YtjfkfiffakbagaaGreatDoor


/-
  The document's desk: starts.
-/
namespace Go.Proofs.YtjfkfiffakbagaaGreatDoor
open Go.RowKit

theorem infoInt : (Tryz.prog.info? 3).map (fun i => (i.zero, i.size, i.bytes)) = some (some (.int .i64 0), 1, 8) := by kernel_rfl
theorem ownBase {w : World} {base e size n : Nat} {v : Value} {xs : List Value} (h : w.ownsRow base e size v n xs) {k : Nat} (hk : v.ownBlock = some k) : base ≤ k := by
  rcases h.2 with ⟨rfl, _⟩ | ⟨g, cap, cur, rfl, hb, _⟩
  · simp [Value.ownBlock] at hk
  · simp [Value.ownBlock] at hk; omega
theorem ownLater {w w' : World} {base e size n : Nat} {v : Value} {xs : List Value} (h : w.ownsRow base e size v n xs) (hb : Below w.heap.size w w') : w'.ownsRow base e size v n xs := by
  refine ⟨h.1, ?_⟩
  rcases h.2 with h0 | ⟨g, cap, cur, hv, hg, hh, rest⟩
  · exact .inl h0
  · refine .inr ⟨g, cap, cur, hv, hg, ?_, rest⟩
    have hlt : g < w.heap.size := by
      by_cases hx : g < w.heap.size
      · exact hx
      · rw [Array.getElem?_eq_none (by omega)] at hh; cases hh
    rw [hb.block g hlt]; exact hh
theorem heapNew (w : World) (o : Obj) : (w.alloc o).heap[w.heap.size]? = some o := heap_alloc_new w o
/-- A block of another type is not the row's. -/
theorem ownOther {w : World} {base e size n : Nat} {v : Value} {xs : List Value} (h : w.ownsRow base e size v n xs) {b : Nat} {cs : Array Value} {t : TypeId} {m : Nat × Nat} (hb : w.heap[b]? = some (.cells cs t m)) (hne : t ≠ e) : v.ownBlock ≠ some b := by
  intro hk
  rcases h.2 with ⟨rfl, _⟩ | ⟨g, cap, cur, rfl, hg, hh, _⟩
  · simp [Value.ownBlock] at hk
  · simp [Value.ownBlock] at hk
    subst hk
    rw [hb] at hh
    simp at hh
    exact hne hh.2.1
end Go.Proofs.YtjfkfiffakbagaaGreatDoor


/-
  The document's desk: units, Fits.
-/
namespace Go.Proofs.YtjfkfiffakbagaaGreatDoor
open Go.RowKit

namespace Desk
def unitsN (name : ByteArray) : List (ByteArray × Int) → Int
  | [] => 0
  | t :: r => if sameB t.1 name then t.2 else unitsN name r
/-- Would more be taken at minute x than there is? -/
def overB (most : Int) (name : ByteArray) (units : Int) (L : List (Int × Int)) (es : List Ent) (x : Int) : Bool := decide (0 < timesN L x) && decide (most < takenN name x es + timesN L x * units)
def fitsAt (most : Int) (name : ByteArray) (units : Int) (L : List (Int × Int)) (es : List Ent) (l : List Int) : Bool := l.all fun x => !overB most name units L es x
def fitsN (ts : List (ByteArray × Int)) (es : List Ent) (name : ByteArray) (units : Int) (L : List (Int × Int)) : Bool := fitsAt (unitsN name ts) name units L es (startsL name es ++ L.map (·.1))
end Desk

/-- The things of the desk in block d. -/
structure RDT (w : World) (d : Nat) (a : Option Addr) (cap G : Nat) (ts : List (ByteArray × Int)) : Prop where
  c : w.cell? ⟨d, 0, none⟩ = some (.slice a ts.length cap)
  a : ts ≠ [] → a = some ⟨G, 0, none⟩
  r : ∀ (i : Nat) (h : i < ts.length), w.cell? ⟨G, i * 2, none⟩ = some (.string ts[i].1) ∧ w.cell? ⟨G, i * 2 + 1, none⟩ = some (.int .i64 ts[i].2)
theorem RDT.later {w w' : World} {d : Nat} {a : Option Addr} {cap G : Nat} {ts : List (ByteArray × Int)} (h : RDT w d a cap G ts) (k : Below w.heap.size w w') : RDT w' d a cap G ts :=
  ⟨cellLater k h.c, h.a, fun i hi => ⟨cellLater k (h.r i hi).1, cellLater k (h.r i hi).2⟩⟩
theorem RDT.at {w : World} {d : Nat} {a : Option Addr} {cap G : Nat} {ts : List (ByteArray × Int)} (h : RDT w d a cap G ts) {i : Nat} (hi : i < ts.length) : a = some ⟨G, 0, none⟩ := h.a (by intro e; simp [e] at hi)

end Go.Proofs.YtjfkfiffakbagaaGreatDoor


/-
  The document's desk: place, waiting, asked, without; grant where nobody waits.
-/
namespace Go.Proofs.YtjfkfiffakbagaaGreatDoor
open Go.RowKit

namespace Desk
def waitN (es : List Ent) : Int := ((es.filter fun e => e.kind == 3).length : Int)
def askedN (ts : List (ByteArray × Int)) (name : ByteArray) (units : Int) : Int := if unitsN name ts = 0 then 3 else if unitsN name ts < units then 7 else 0
end Desk

/-- An entry with the block and the room of its spans, as six cells. -/
def entVL (x : Desk.Ent × Nat × Nat) : List Value := [.int .i64 x.1.id, .int .i64 x.1.kind, .string x.1.thing, .int .i64 x.1.units, .slice (some ⟨x.2.1, 0, none⟩) x.1.spans.length x.2.2, .int .i64 x.1.till]
/-- The entries of the desk in block d, each with where its spans lie. -/
structure RDX (w : World) (d : Nat) (a : Option Addr) (cap E : Nat) (xs : List (Desk.Ent × Nat × Nat)) : Prop where
  c : w.cell? ⟨d, 1, none⟩ = some (.slice a xs.length cap)
  a : xs ≠ [] → a = some ⟨E, 0, none⟩
  r : ∀ (i : Nat) (h : i < xs.length), RE w E i xs[i].1 xs[i].2.1 xs[i].2.2
theorem RDX.later {w w' : World} {d : Nat} {a : Option Addr} {cap E : Nat} {xs : List (Desk.Ent × Nat × Nat)} (h : RDX w d a cap E xs) (k : Below w.heap.size w w') : RDX w' d a cap E xs := ⟨cellLater k h.c, h.a, fun i hi => (h.r i hi).later k⟩
theorem RDX.at {w : World} {d : Nat} {a : Option Addr} {cap E : Nat} {xs : List (Desk.Ent × Nat × Nat)} (h : RDX w d a cap E xs) {i : Nat} (hi : i < xs.length) : a = some ⟨E, 0, none⟩ := h.a (by intro e; simp [e] at hi)

end Go.Proofs.YtjfkfiffakbagaaGreatDoor


/-
  The document's desk: without.
-/
namespace Go.Proofs.YtjfkfiffakbagaaGreatDoor
open Go.RowKit

end Go.Proofs.YtjfkfiffakbagaaGreatDoor


/-
  The document's desk as a whole, as it lies in memory; joins.
-/
namespace Go.Proofs.YtjfkfiffakbagaaGreatDoor
open Go.RowKit

def thingVL (t : ByteArray × Int) : List Value := [.string t.1, .int .i64 t.2]
/-- The desk in block d: its things, its entries (each with where its spans lie), how many numbers were given away, the time; F the blocks that it may write. -/
structure RD (w : World) (d : Nat) (ts : List (ByteArray × Int)) (xs : List (Desk.Ent × Nat × Nat)) (given now : Int) (F : List Nat) : Prop where
  tv : ∃ v, w.cell? ⟨d, 0, none⟩ = some v ∧ w.ownsRow 0 307 2 v ts.length (ts.flatMap thingVL) ∧ ∀ k, v.ownBlock = some k → k ∈ F ∧ k ≠ d
  ev : ∃ v, w.cell? ⟨d, 1, none⟩ = some v ∧ w.ownsRow 0 58 6 v xs.length (xs.flatMap entVL) ∧ ∀ k, v.ownBlock = some k → k ∈ F ∧ k ≠ d
  c2 : w.cell? ⟨d, 2, none⟩ = some (.int .i64 given)
  c3 : w.cell? ⟨d, 3, none⟩ = some (.int .i64 now)
  fz : ∀ o, w.frozen? ⟨d, o, none⟩ = false
  dF : d ∈ F
  sp : ∀ x ∈ xs, RSL w x.2.1 x.1.spans ∧ x.2.1 ∉ F ∧ x.2.1 < w.heap.size

theorem flatT_len (ts : List (ByteArray × Int)) : (ts.flatMap thingVL).length = ts.length * 2 := by
  induction ts with
  | nil => rfl
  | cons x xs ih => simp only [List.flatMap_cons, List.length_append, List.length_cons, ih, thingVL, List.length_nil]; omega
theorem RD.dt {w : World} {d : Nat} {ts : List (ByteArray × Int)} {xs : List (Desk.Ent × Nat × Nat)} {given now : Int} {F : List Nat} (h : RD w d ts xs given now F) : ∃ a cap G, RDT w d a cap G ts := by
  obtain ⟨v, c, ho, _⟩ := h.tv
  have hl := ho.1
  rcases ho.2 with ⟨rfl, h0⟩ | ⟨g, cap, cur, rfl, hg, hh, h1, h2, h3, h4⟩
  · have : ts = [] := List.length_eq_zero_iff.1 h0
    subst this
    exact ⟨none, 0, 0, c, fun h => absurd rfl h, fun i hi => by simp at hi⟩
  · refine ⟨some ⟨g, 0, none⟩, cap, g, c, fun _ => rfl, fun i hi => ?_⟩
    have key : ∀ (j : Nat) (u : Value), j < 2 → (thingVL ts[i])[j]? = some u → w.cell? ⟨g, i * 2 + j, none⟩ = some u := by
      intro j u hj hu
      have e1 : (ts.flatMap thingVL)[i * 2 + j]? = some u := by
        have hsplit : ts = ts.take i ++ ts[i] :: ts.drop (i + 1) := by rw [List.getElem_cons_drop, List.take_append_drop]
        rw [hsplit, List.flatMap_append, List.flatMap_cons]
        have hlen : ((ts.take i).flatMap thingVL).length = i * 2 := by rw [flatT_len, List.length_take_of_le (by omega)]
        rw [List.getElem?_append_right (by omega), hlen, Nat.add_sub_cancel_left, List.getElem?_append_left (by simp [thingVL]; omega)]
        exact hu
      have e2 : (cur.toList.take (ts.length * 2))[i * 2 + j]? = some u := by rw [h4]; exact e1
      rw [List.getElem?_take_of_lt (by omega)] at e2
      simp only [Array.getElem?_toList] at e2
      simp [World.cell?, hh, e2]
    exact ⟨key 0 _ (by omega) rfl, key 1 _ (by omega) rfl⟩

/-- A row that is owned, in a world in which its block is as it was. -/
theorem ownOff {w w' : World} {base e size n : Nat} {v : Value} {xs : List Value} {G : List Nat} (h : w.ownsRow base e size v n xs) (k : Off G w w') (hg : ∀ b, v.ownBlock = some b → b ∉ G) : w'.ownsRow base e size v n xs := by
  refine ⟨h.1, ?_⟩
  rcases h.2 with h0 | ⟨g, cap, cur, hv, hb, hh, rest⟩
  · exact .inl h0
  · refine .inr ⟨g, cap, cur, hv, hb, ?_, rest⟩
    have hlt : g < w.heap.size := by
      by_cases hx : g < w.heap.size
      · exact hx
      · rw [Array.getElem?_eq_none (by omega)] at hh; cases hh
    rw [k.block g hlt (hg g (by rw [hv]; rfl))]; exact hh
theorem RD.off {w w' : World} {d : Nat} {ts : List (ByteArray × Int)} {xs : List (Desk.Ent × Nat × Nat)} {given now : Int} {F G : List Nat} (h : RD w d ts xs given now F) (k : Off G w w') (hF : ∀ x ∈ F, x ∉ G) (hS : ∀ x ∈ xs, x.2.1 ∉ G) : RD w' d ts xs given now F := by
  have hd : d ∉ G := hF d h.dF
  obtain ⟨v1, a1, a2, a3⟩ := h.tv
  obtain ⟨v2, b1, b2, b3⟩ := h.ev
  exact ⟨⟨v1, k.cell hd a1, ownOff a2 k (fun b hb => hF b (a3 b hb).1), a3⟩, ⟨v2, k.cell hd b1, ownOff b2 k (fun b hb => hF b (b3 b hb).1), b3⟩, k.cell hd h.c2, k.cell hd h.c3,
    fun o => (k.frozen hd (World.block_lt_of_cell? _ _ h.c2)).trans (h.fz o), h.dF, fun x hx => ⟨(h.sp x hx).1.off k (hS x hx), (h.sp x hx).2.1, Nat.lt_of_lt_of_le (h.sp x hx).2.2 k.size⟩⟩
theorem RD.later {w w' : World} {d : Nat} {ts : List (ByteArray × Int)} {xs : List (Desk.Ent × Nat × Nat)} {given now : Int} {F : List Nat} (h : RD w d ts xs given now F) (k : Below w.heap.size w w') : RD w' d ts xs given now F := h.off (G := []) (Off.of_below k) (by simp) (by simp)

end Go.Proofs.YtjfkfiffakbagaaGreatDoor


/-
  Package ends: remove, Put, TakeBy.
-/
namespace Go.Proofs.YtjfkfiffakbagaaGreatDoor
open Go.RowKit

/-- What the methods leave: the items l' at that cell; their block is that of the items or new; the rest of the block is as it was. -/
def EndPost (w : World) (d o : Nat) (v : Value) (l' : List Hp.Hi) (w' : World) : Prop :=
  ∃ v', HP w' d o v' l' ∧ (∀ b, v'.ownBlock = some b → v.ownBlock = some b ∨ w.heap.size ≤ b) ∧ Off (d :: v.ownBlock.toList) w w' ∧ (∀ o', o' ≠ o → w'.cell? ⟨d, o', none⟩ = w.cell? ⟨d, o', none⟩) ∧ ∀ o', w'.frozen? ⟨d, o', none⟩ = w.frozen? ⟨d, o', none⟩

theorem flatH_last {m : List Hp.Hi} {n : Nat} (h : m.length = n + 1) (a b c : Value) : (((m.flatMap hiVL).set (n * 3) a).set (n * 3 + 1) b).set (n * 3 + 2) c = (m.take n).flatMap hiVL ++ [a, b, c] := by
  have hn : n < m.length := by omega
  have hlen : ((m.take n).flatMap hiVL).length = n * 3 := by rw [flatH_len, List.length_take_of_le (by omega)]
  conv => lhs; rw [flatH_split hn, List.flatMap_append, List.flatMap_cons]
  rw [List.set_append_right _ _ (by omega), List.set_append_right _ _ (by omega), List.set_append_right _ _ (by omega), hlen]
  rw [show n * 3 - n * 3 = 0 from by omega, show n * 3 + 1 - n * 3 = 1 from by omega, show n * 3 + 2 - n * 3 = 2 from by omega]
  have e : m.drop (n + 1) = [] := List.drop_eq_nil_of_le (by omega)
  simp [hiVL, e]

/-- The world in which the place's item is the last one, and the last one is cleared. -/
def cleared (w : World) (H p n : Nat) (x : Hp.Hi) : World :=
  (((((w.setCell ⟨H, p * 3, none⟩ (.int .i64 x.t)).setCell ⟨H, p * 3 + 1, none⟩ (.int .i64 x.n)).setCell ⟨H, p * 3 + 2, none⟩ (.pointer (some ⟨x.v, 0, none⟩))).setCell ⟨H, n * 3, none⟩ (.int .i64 0)).setCell ⟨H, n * 3 + 1, none⟩ (.int .i64 0)).setCell ⟨H, n * 3 + 2, none⟩ (.pointer none)
theorem cleared_off (w : World) (H p n : Nat) (x : Hp.Hi) : Off [H] w (cleared w H p n x) := (set3_off _ _ _ _ _ _ _ _).trans (set3_off _ _ _ _ _ _ _ _)
theorem HP.cleared {w : World} {d o H cap n p : Nat} {l : List Hp.Hi} (h : HP w d o (.slice (some ⟨H, 0, none⟩) l.length cap) l) (hn : l.length = n + 1) (hp : p < l.length) :
    HP ((cleared w H p n (Hp.at_ l n)).setCell ⟨d, o, none⟩ (.slice (some ⟨H, 0, none⟩) n cap)) d o (.slice (some ⟨H, 0, none⟩) (Hp.cut l p).length cap) (Hp.cut l p) := by
  have hne : d ≠ H := fun e => h.ne (by rw [e]; rfl)
  have k := cleared_off w H p n (Hp.at_ l n)
  have c1 := k.cell (by simpa using hne) h.c
  have a := h.put hp (Hp.at_ l n)
  have e : Hp.cut l p = (l.set p (Hp.at_ l n)).take n := by unfold Hp.cut; rw [hn]; rfl
  have el : (Hp.cut l p).length = n := by rw [Hp.cut_len, hn]; rfl
  have hm : (l.set p (Hp.at_ l n)).length = n + 1 := by simpa using hn
  have b := (((a.own.stored (n * 3) (.int .i64 0)).1.stored (n * 3 + 1) (.int .i64 0)).1.stored (n * 3 + 2) (.pointer none)).1
  rw [flatH_last hm, hm, ← e] at b
  have b2 := ownsRow_pop (by rw [flatH_len, el]) b
  refine ⟨?_, ?_, h.ne, ?_⟩
  · rw [el]; exact World.cell?_setCell_same _ _ _ c1
  · rw [el]
    exact ownOff b2 (Off.set0 d _ o _) (fun x hx => by simp; rintro rfl; exact hne (by simpa [Value.ownBlock] using hx.symm))
  · exact (World.frozen?_setCell ..).trans ((k.frozen (by simpa using hne) (World.block_lt_of_cell? _ _ h.c)).trans h.fz)

/-- An EndPost out of a row in the same block, turned behind. -/
theorem EndPost.of {w w1 w2 : World} {d o H cap : Nat} {v : Value} {l1 l' : List Hp.Hi} (hv : v.ownBlock = some H) (hd : d < w.heap.size) (hne : d ≠ H) (h1 : Off [d, H] w w1) (hc : ∀ o', o' ≠ o → w1.cell? ⟨d, o', none⟩ = w.cell? ⟨d, o', none⟩) (hf : ∀ o', w1.frozen? ⟨d, o', none⟩ = w.frozen? ⟨d, o', none⟩) (h2 : Turned w1 w2 d o H l1.length cap l1 l') : EndPost w d o v l' w2 := by
  have hb : w2.heap[d]? = w1.heap[d]? := h2.off.block d (Nat.lt_of_lt_of_le hd h1.size) (by simpa using hne)
  refine ⟨_, h2.hp, fun b hb => .inl (by rw [hv]; exact hb), ?_, fun o' ho => (World.cell?_of_block hb).trans (hc o' ho), fun o' => ?_⟩
  · rw [hv]
    exact h1.trans' h2.off (fun x hx => .inl (by simp at hx; simp [hx]))
  · exact (World.frozen?_of_block hb).trans (hf o')

set_option maxRecDepth 100000 in
set_option maxHeartbeats 2000000 in
theorem remove_any (d o : Nat) (v : Value) (l : List Hp.Hi) (p : Nat) (w : World) (h : HP w d o v l) (hh : Hp.Heap l) (hp : p < l.length) (hl : l.length ≤ 1000) :
    Calls Tryz.prog 196 #[.pointer (some ⟨d, o, none⟩), .int .i64 p] w fun e w' => e = .returned (.tuple #[]) ∧ ∃ l', EndPost w d o v l' w' ∧ Hp.Heap l' ∧ l.Perm (Hp.at_ l p :: l') := by
  obtain ⟨H, cap, rfl⟩ := h.form (by omega)
  obtain ⟨n, hn⟩ : ∃ n, l.length = n + 1 := ⟨l.length - 1, by omega⟩
  have c := h.c
  have hne : d ≠ H := fun e => h.ne (by rw [e]; rfl)
  obtain ⟨a0, a1, a2⟩ := h.at hp
  obtain ⟨b0, b1, b2⟩ := h.at (i := n) (by omega)
  have fz : ∀ k, w.frozen? ⟨H, k, none⟩ = false := fun k => h.own.frozenAt k
  have fd := h.fz
  have CL := hidp (h.cleared hn hp)
  have e0 := (h.put hp (Hp.at_ l n)).at (i := n) (by simp; omega)
  have ee : Hp.at_ (l.set p (Hp.at_ l n)) n = Hp.at_ l n := by rw [Hp.at_set]; split <;> rfl
  rw [ee] at e0
  obtain ⟨y0, y1, y2⟩ := e0
  clear ee
  have i1 : (p : Int) < (l.length : Int) := by omega
  have HH := hidp h
  clear h
  rw [hn] at c i1
  generalize hx : Hp.at_ l n = x at *
  go_enter Tryz.func196, Tryz.ntmps196
  go_upto_region 1 with fail
  go_big_region
  have o1 : Off [H] w (((w.setCell ⟨H, p * 3, none⟩ (.int .i64 x.t)).setCell ⟨H, p * 3 + 1, none⟩ (.int .i64 x.n)).setCell ⟨H, p * 3 + 2, none⟩ (.pointer (some ⟨x.v, 0, none⟩))) := set3_off _ _ _ _ _ _ _ _
  have c1 := o1.cell (by simpa using hne) c
  have fd1 := (o1.frozen (o := o) (by simpa using hne) (World.block_lt_of_cell? _ _ c)).trans fd
  have fz1 : ∀ k, (((w.setCell ⟨H, p * 3, none⟩ (.int .i64 x.t)).setCell ⟨H, p * 3 + 1, none⟩ (.int .i64 x.n)).setCell ⟨H, p * 3 + 2, none⟩ (.pointer (some ⟨x.v, 0, none⟩))).frozen? ⟨H, k, none⟩ = false := fun k => by simp [World.frozen?_setCell, fz]
  unfold cleared at CL
  generalize hX : (((w.setCell ⟨H, p * 3, none⟩ (.int .i64 x.t)).setCell ⟨H, p * 3 + 1, none⟩ (.int .i64 x.n)).setCell ⟨H, p * 3 + 2, none⟩ (.pointer (some ⟨x.v, 0, none⟩))) = X at *
  clear hX
  have o2 := set3_off X H (n * 3) (n * 3 + 1) (n * 3 + 2) (.int .i64 0) (.int .i64 0) (.pointer none)
  have c2 := o2.cell (by simpa using hne) c1
  have fd2 := (o2.frozen (o := o) (by simpa using hne) (World.block_lt_of_cell? _ _ c1)).trans fd1
  go_upto_region 3 with fail
  generalize hY : ((X.setCell ⟨H, n * 3, none⟩ (.int .i64 0)).setCell ⟨H, n * 3 + 1, none⟩ (.int .i64 0)).setCell ⟨H, n * 3 + 2, none⟩ (.pointer none) = Y at *
  clear hY
  have hcap : n + 1 ≤ cap := by
    have h := HH.out.own.2
    rcases h with ⟨h0, _⟩ | ⟨g, cap', cur, hv, _, _, h1, _⟩
    · cases h0
    · cases hv; omega
  have hcap2 : (n : Int) ≤ (cap : Int) := by omega
  have oo : Off [d, H] w (Y.setCell ⟨d, o, none⟩ (.slice (some ⟨H, 0, none⟩) n cap)) := ((o1.trans o2).mono (by simp)).setCell (.inl (by simp)) _ _
  have hdl : d < w.heap.size := World.block_lt_of_cell? _ _ c
  have hcc : ∀ o', o' ≠ o → (Y.setCell ⟨d, o, none⟩ (.slice (some ⟨H, 0, none⟩) n cap)).cell? ⟨d, o', none⟩ = w.cell? ⟨d, o', none⟩ := fun o' ho =>
    (World.cell?_setCell_other _ _ _ _ (by have := ho; simp)).trans (World.cell?_of_block ((o1.trans o2).block d hdl (by simpa using hne)))
  have hff : ∀ o', (Y.setCell ⟨d, o, none⟩ (.slice (some ⟨H, 0, none⟩) n cap)).frozen? ⟨d, o', none⟩ = w.frozen? ⟨d, o', none⟩ := fun o' =>
    (World.frozen?_setCell ..).trans (World.frozen?_of_block ((o1.trans o2).block d hdl (by simpa using hne)))
  have OO := hidp (And.intro oo (And.intro hcc hff))
  have el : (Hp.cut l p).length = n := by rw [Hp.cut_len, hn]; rfl
  clear oo hcc hff o1 o2 c c1 a0 a1 a2 b0 b1 b2 y0 y1 y2 fz fz1 fd fd1
  by_cases hlt : p < n
  · have hlt' : (p : Int) < (n : Int) := by omega
    go_upto_region 5 with fail
    generalize hZ : Y.setCell ⟨d, o, none⟩ (.slice (some ⟨H, 0, none⟩) n cap) = Z at *
    have SK := hidp (sink_any d o H cap (Hp.cut l p) p Z.drew (CL.out.off (G := []) (Off.refl _ _).drew (by simp) (by simp)) (by omega) (Hp.cut_sink hh (by omega)) (by omega))
    clear hZ hcap hcap2 c2 fd2
    go_wp2_with fail
    refine SK.out.mono ?_
    rintro e w4 ⟨rfl, l2, t2, r2⟩
    have T2 := hidp t2
    have hl2 := t2.len
    have RS := hidp (rise_any d o H cap l2 p w4 (by rw [hl2]; exact t2.hp) (by omega) r2 (by omega))
    clear t2 r2 SK
    go_wp2_with fail
    refine RS.out.mono ?_
    rintro e w5 ⟨rfl, l3, t3, r3⟩
    have HF : Hid (∃ l', EndPost w d o (.slice (some ⟨H, 0, none⟩) l.length cap) l' w5 ∧ Hp.Heap l' ∧ l.Perm (Hp.at_ l p :: l')) := by
      refine ⟨l3, EndPost.of (l1 := Hp.cut l p) rfl hdl hne OO.out.1 OO.out.2.1 OO.out.2.2 ⟨by rw [el, ← el, ← hl2]; exact t3.hp, by rw [t3.len, hl2], t3.perm.trans T2.out.perm, ((Off.refl [H] Z).drew).trans (T2.out.off.trans t3.off)⟩, r3, ?_⟩
      exact (Hp.cut_perm hp).trans ((t3.perm.trans T2.out.perm).symm.cons _)
    clear t3 r3 T2 RS
    go_wp2_with fail
    go_end0
    exact ⟨rfl, HF.out⟩
  · have hlt' : ¬ ((p : Int) < (n : Int)) := by omega
    have hpn : p = n := by omega
    have HF : Hid (∃ l', EndPost w d o (.slice (some ⟨H, 0, none⟩) l.length cap) l' (Y.setCell ⟨d, o, none⟩ (.slice (some ⟨H, 0, none⟩) n cap)).drew ∧ Hp.Heap l' ∧ l.Perm (Hp.at_ l p :: l')) := by
      refine ⟨Hp.cut l p, EndPost.of (l1 := Hp.cut l p) rfl hdl hne OO.out.1 OO.out.2.1 OO.out.2.2 ⟨CL.out.off (G := []) (Off.refl _ _).drew (by simp) (by simp), rfl, .refl _, (Off.refl _ _).drew⟩, ?_, Hp.cut_perm hp⟩
      rw [hpn, show n = l.length - 1 by omega]
      exact Hp.cut_last hh
    clear CL OO hn hx hpn el
    go_wp2_with fail
    go_end0
    exact ⟨rfl, HF.out⟩


end Go.Proofs.YtjfkfiffakbagaaGreatDoor


/-
  The document's desk: joins.
-/
namespace Go.Proofs.YtjfkfiffakbagaaGreatDoor
open Go.RowKit

theorem RD.set2 {w : World} {d : Nat} {ts : List (ByteArray × Int)} {xs : List (Desk.Ent × Nat × Nat)} {given now : Int} {F : List Nat} (h : RD w d ts xs given now F) (g : Int) : RD (w.setCell ⟨d, 2, none⟩ (.int .i64 g)) d ts xs g now F := by
  obtain ⟨v1, a1, a2, a3⟩ := h.tv
  obtain ⟨v2, b1, b2, b3⟩ := h.ev
  have k : Off [d] w (w.setCell ⟨d, 2, none⟩ (.int .i64 g)) := Off.set0 ..
  exact ⟨⟨v1, (World.cell?_setCell_other _ _ _ _ (by simp)).trans a1, ownOff a2 k (fun b hb => by simpa using (a3 b hb).2), a3⟩, ⟨v2, (World.cell?_setCell_other _ _ _ _ (by simp)).trans b1, ownOff b2 k (fun b hb => by simpa using (b3 b hb).2), b3⟩, World.cell?_setCell_same _ _ _ h.c2, (World.cell?_setCell_other _ _ _ _ (by simp)).trans h.c3,
    fun o => (World.frozen?_setCell ..).trans (h.fz o), h.dF, fun x hx => ⟨(h.sp x hx).1.off k (by simp; intro e; exact (h.sp x hx).2.1 (e ▸ h.dF)), (h.sp x hx).2.1, Nat.lt_of_lt_of_le (h.sp x hx).2.2 k.size⟩⟩
theorem Off.grown {F : List Nat} {w w' w'' : World} {row : Option Nat} (h : Off F w w') (g : w'.grownBy w'' row) (hr : ∀ k, row = some k → k ∈ F ∨ w.heap.size ≤ k) : Off F w w'' :=
  ⟨g.os.trans h.os, g.tape.trans h.tape, g.output.trans h.output, Nat.le_trans h.size g.size, fun k hk hF => (g.block k (Nat.lt_of_lt_of_le hk h.size) (fun e => by rcases hr k e.symm with h1 | h1; exact hF h1; omega)).trans (h.block k hk hF)⟩
/-- One entry more has been appended, and the new row is set. -/
theorem RD.joined {Y w5 : World} {d : Nat} {ts : List (ByteArray × Int)} {xs : List (Desk.Ent × Nat × Nat)} {given now : Int} {F : List Nat} {v : Value} {g cap : Nat} {x : Desk.Ent × Nat × Nat} (h : RD Y d ts xs given now F) (cv : Y.cell? ⟨d, 1, none⟩ = some v) (ho : Y.ownsRow 0 58 6 v xs.length (xs.flatMap entVL)) (hvF : ∀ k, v.ownBlock = some k → k ∈ F ∧ k ≠ d) (k : Off (v.ownBlock.toList) Y w5) (ho5 : w5.ownsRow 0 58 6 (.slice (some ⟨g, 0, none⟩) (xs.length + 1) cap) (xs.length + 1) (xs.flatMap entVL ++ entVL x)) (hg : v.ownBlock = some g ∨ Y.heap.size ≤ g) (hx : RSL Y x.2.1 x.1.spans) (hxF : x.2.1 ∉ F) (hxl : x.2.1 < Y.heap.size) :
    RD (w5.setCell ⟨d, 1, none⟩ (.slice (some ⟨g, 0, none⟩) (xs.length + 1) cap)) d ts (xs ++ [x]) given now (g :: F) ∧ Off (d :: v.ownBlock.toList) Y (w5.setCell ⟨d, 1, none⟩ (.slice (some ⟨g, 0, none⟩) (xs.length + 1) cap)) := by
  obtain ⟨v1, a1, a2, a3⟩ := h.tv
  have hdl := World.block_lt_of_cell? _ _ h.c2
  have hdl : d < Y.heap.size := hdl
  have hgd : g ≠ d := by
    rcases hg with e | e
    · exact (hvF g e).2
    · omega
  have hdv : d ∉ v.ownBlock.toList := by
    intro e
    have : v.ownBlock = some d := by simpa using e
    exact (hvF d this).2 rfl
  have hv1 : ∀ b, v1.ownBlock = some b → b ∉ d :: v.ownBlock.toList := by
    intro b hb e
    rcases List.mem_cons.1 e with e | e
    · exact (a3 b hb).2 e
    · have e : v.ownBlock = some b := by simpa using e
      rcases ho.2 with ⟨rfl, _⟩ | ⟨g', cap', cur, rfl, _, hh, _⟩
      · simp [Value.ownBlock] at e
      · simp [Value.ownBlock] at e
        subst e
        exact ownOther a2 hh (by decide) hb
  have hF1 : ∀ y, y ∉ F → y ∉ d :: v.ownBlock.toList := by
    intro y hy e
    rcases List.mem_cons.1 e with rfl | e
    · exact hy h.dF
    · exact hy (hvF y (by simpa using e)).1
  have k1 : Off (d :: v.ownBlock.toList) Y (w5.setCell ⟨d, 1, none⟩ (.slice (some ⟨g, 0, none⟩) (xs.length + 1) cap)) := (k.mono (by intro y hy; exact List.mem_cons_of_mem _ hy)).setCell (.inl (by simp)) _ _
  have ksp : ∀ y ∈ xs ++ [x], RSL Y y.2.1 y.1.spans ∧ y.2.1 ∉ F ∧ y.2.1 < Y.heap.size := by
    intro y hy
    rcases List.mem_append.1 hy with hy | hy
    · exact h.sp y hy
    · have : y = x := by simpa using hy
      subst this
      exact ⟨hx, hxF, hxl⟩
  have cd : ∀ o u, Y.cell? ⟨d, o, none⟩ = some u → o ≠ 1 → (w5.setCell ⟨d, 1, none⟩ (.slice (some ⟨g, 0, none⟩) (xs.length + 1) cap)).cell? ⟨d, o, none⟩ = some u := by
    intro o u hu ho1
    exact (World.cell?_setCell_other _ _ _ _ (by simp)).trans (k.cell hdv hu)
  refine ⟨⟨⟨v1, cd 0 _ a1 (by omega), ownOff a2 k1 hv1, fun b hb => ⟨List.mem_cons_of_mem _ (a3 b hb).1, (a3 b hb).2⟩⟩, ⟨_, World.cell?_setCell_same _ _ _ (k.cell hdv cv), ?_, ?_⟩, cd 2 _ h.c2 (by omega), cd 3 _ h.c3 (by omega), fun o => (World.frozen?_setCell ..).trans ((k.frozen hdv hdl).trans (h.fz o)), List.mem_cons_of_mem _ h.dF, ?_⟩, k1⟩
  · rw [List.flatMap_append, List.length_append]
    have e1 : ([x].flatMap entVL) = entVL x := by simp
    rw [e1]
    exact ownOff ho5 (Off.set0 ..) (fun b hb => by simp [Value.ownBlock] at hb; subst hb; simpa using hgd)
  · intro b hb
    simp [Value.ownBlock] at hb
    subst hb
    exact ⟨by simp, hgd⟩
  · intro y hy
    obtain ⟨y1, y2, y3⟩ := ksp y hy
    refine ⟨y1.off k1 (hF1 _ y2), fun e => ?_, Nat.lt_of_lt_of_le y3 k1.size⟩
    rcases List.mem_cons.1 e with e | e
    · rcases hg with e2 | e2
      · exact y2 (e ▸ (hvF g e2).1)
      · omega
    · exact y2 e

end Go.Proofs.YtjfkfiffakbagaaGreatDoor


/-
  Package ends: Put.
-/
namespace Go.Proofs.YtjfkfiffakbagaaGreatDoor
open Go.RowKit

end Go.Proofs.YtjfkfiffakbagaaGreatDoor


/-
  Package ends: Drop.
-/
namespace Go.Proofs.YtjfkfiffakbagaaGreatDoor
open Go.RowKit

/-- The first place at which p holds; -1: there is none. -/
def idxB {α : Type} (p : α → Bool) : List α → Int → Int
  | [], _ => -1
  | x :: r, i => if p x then i else idxB p r (i + 1)
theorem idxB_is {α : Type} (p : α → Bool) : ∀ (l : List α) (i : Int), (idxB p l i = -1 ∧ ∀ x ∈ l, p x = false) ∨ ∃ (k : Nat) (h : k < l.length), idxB p l i = i + k ∧ p l[k] = true ∧ ∀ (j : Nat) (hj : j < k), p (l[j]'(by omega)) = false
  | [], i => .inl ⟨rfl, fun x hx => by simp at hx⟩
  | x :: r, i => by
    cases hp : p x
    · rcases idxB_is p r (i + 1) with ⟨h1, h2⟩ | ⟨k, h, h1, h2, h3⟩
      · exact .inl ⟨by simp [idxB, hp, h1], fun y hy => by rcases List.mem_cons.1 hy with rfl | hy; exact hp; exact h2 y hy⟩
      · refine .inr ⟨k + 1, by simp; omega, by simp [idxB, hp, h1]; omega, by simpa using h2, fun j hj => ?_⟩
        cases j with
        | zero => simpa using hp
        | succ j => simpa using h3 j (by omega)
    · exact .inr ⟨0, by simp, by simp [idxB, hp], by simpa using hp, fun j hj => by omega⟩
theorem idxB_bd {α : Type} (p : α → Bool) (l : List α) : -1 ≤ idxB p l 0 ∧ idxB p l 0 < l.length := by
  rcases idxB_is p l 0 with ⟨h, _⟩ | ⟨k, h, e, _⟩
  · omega
  · omega

theorem EndPost.from {w w1 w2 : World} {d o : Nat} {v : Value} {l' : List Hp.Hi} (h : EndPost w1 d o v l' w2) (k : Below w.heap.size w w1) (hd : d < w.heap.size) : EndPost w d o v l' w2 := by
  obtain ⟨v', h1, h2, h3, h4, h5⟩ := h
  refine ⟨v', h1, fun b hb => (h2 b hb).imp id (fun e => Nat.le_trans k.size e), (Off.of_below k).trans h3, fun o' ho => (h4 o' ho).trans (World.cell?_of_block (k.block d hd)), fun o' => (h5 o').trans (World.frozen?_of_block (k.block d hd))⟩

set_option maxRecDepth 100000 in
set_option maxHeartbeats 1000000 in
theorem drop1_any (x : Hp.Hi) (t n : Int) (A B : Nat) (w : World) (ca : w.cell? ⟨A, 0, none⟩ = some (.int .i64 t)) (cb : w.cell? ⟨B, 0, none⟩ = some (.int .i64 n)) :
    Calls Tryz.prog 194 #[.agg #[.int .i64 x.t, .int .i64 x.n, .pointer (some ⟨x.v, 0, none⟩)], .pointer (some ⟨A, 0, none⟩), .pointer (some ⟨B, 0, none⟩)] w fun e w' => e = .returned (.bool (hcmp x t n == 0)) ∧ Below w.heap.size w w' := by
  have CM := hidp (fun w' => icompare_any x t n w')
  have hX : Below w.heap.size w (w.alloc (.cells #[.int .i64 x.t, .int .i64 x.n, .pointer (some ⟨x.v, 0, none⟩)] 278)) := (Below.refl _ _).alloc (Nat.le_refl _) _
  have xa := cellLater hX ca
  have xb := cellLater hX cb
  have HX := hidp hX
  clear hX
  go_enter Tryz.func194, Tryz.ntmps194
  go_wp2_with fail
  refine (CM.out _).mono ?_
  rintro e w1 ⟨rfl, k1⟩
  have HK := hidp (blwMore HX.out k1 (Nat.le_refl _))
  clear k1 xa xb
  go_wp2_with fail
  go_ret
  exact ⟨rfl, HK.out⟩

set_option maxRecDepth 100000 in
set_option maxHeartbeats 1000000 in
theorem indexItem_any (l : List Hp.Hi) (t n : Int) (v : Value) (A B : Nat) (w : World) (own : w.ownsRow 0 278 3 v l.length (l.flatMap hiVL)) (ca : w.cell? ⟨A, 0, none⟩ = some (.int .i64 t)) (cb : w.cell? ⟨B, 0, none⟩ = some (.int .i64 n)) (hl : l.length ≤ 1000) :
    Calls Tryz.prog 193 #[v, .func (.func 194) #[] #[.pointer (some ⟨A, 0, none⟩), .pointer (some ⟨B, 0, none⟩)]] w fun e w' => e = .returned (.int .i64 (idxB (fun x => hcmp x t n == 0) l 0)) ∧ Below w.heap.size w w' := by
  have hv : ∃ a cap, v = .slice a l.length cap := by
    rcases own.2 with ⟨rfl, h⟩ | ⟨g, cap, _, rfl, _⟩
    · rw [h]; exact ⟨_, _, rfl⟩
    · exact ⟨_, _, rfl⟩
  obtain ⟨a, cap, rfl⟩ := hv
  have CAB := hidp (And.intro ca cb)
  have OWN := hidp own
  clear ca cb own
  go_enter Tryz.func193, Tryz.ntmps193
  go_wp2_with fail
  go_loopw [8] (fun i wx => ∃ k : Nat, k ≤ l.length ∧ i = .int .i64 k ∧ idxB (fun x => hcmp x t n == 0) l 0 = idxB (fun x => hcmp x t n == 0) (l.drop k) k ∧ Below w.heap.size w wx) (fun i _ => l.length - (intOf i).toNat)
  case atStart => exact ⟨0, Nat.zero_le _, rfl, rfl, Below.refl _ _⟩
  case round =>
    obtain ⟨k, hk, rfl, hu, hb⟩ := hrel
    have HU := hidp hu
    have HB := hidp hb
    by_cases hlt : k < l.length
    · have hi : (k : Int) < (l.length : Int) := by omega
      obtain ⟨H, cap', e1⟩ := Joins.ownsRow_form OWN.out (by omega)
      simp only [Value.slice.injEq, true_and] at e1
      obtain ⟨rfl, rfl⟩ := e1
      have ownr := ownLater OWN.out hb
      have a0 := (ownr.cellAt (k * 3) (by omega)).trans (flatH_at hlt (j := 0) (by omega))
      have a1 := (ownr.cellAt (k * 3 + 1) (by omega)).trans (flatH_at hlt (j := 1) (by omega))
      have a2 := (ownr.cellAt (k * 3 + 2) (by omega)).trans (flatH_at hlt (j := 2) (by omega))
      simp only [hiVL, List.getElem?_cons_zero, List.getElem?_cons_succ] at a0 a1 a2
      have D1 := hidp (drop1_any l[k] t n A B wr (cellLater hb CAB.out.1) (cellLater hb CAB.out.2))
      have ed : idxB (fun x => hcmp x t n == 0) (l.drop k) k = if hcmp l[k] t n == 0 then (k : Int) else idxB (fun x => hcmp x t n == 0) (l.drop (k + 1)) ((k + 1 : Nat) : Int) := by rw [List.drop_eq_getElem_cons hlt]; rfl
      have ED := hidp ed
      clear ed ownr hb hu
      cases hq : (hcmp l[k] t n == 0)
      · have HN : Hid (idxB (fun x => hcmp x t n == 0) l 0 = idxB (fun x => hcmp x t n == 0) (l.drop (k + 1)) ((k + 1 : Nat) : Int)) := by show _ = _; rw [HU.out, ED.out, hq]; rfl
        rw [hq] at D1
        clear hq
        go_wp2_with fail
        refine D1.out.mono ?_
        rintro e w1 ⟨rfl, k1⟩
        have HK := hidp (blwMore HB.out k1 (Nat.le_refl _))
        clear k1 a0 a1 a2 D1
        go_wp2_with fail
        go_roundw
        case rel => exact ⟨k + 1, by omega, by go_num, HN.out, HK.out⟩
        case measure => simp [intOf]; omega
      · have HN : Hid (idxB (fun x => hcmp x t n == 0) l 0 = k) := by show _ = _; rw [HU.out, ED.out, hq]; rfl
        rw [hq] at D1
        clear hq
        go_wp2_with fail
        refine D1.out.mono ?_
        rintro e w1 ⟨rfl, k1⟩
        have HK := hidp (blwMore HB.out k1 (Nat.le_refl _))
        clear k1 a0 a1 a2 D1
        go_wp2_with fail
        go_ret
        exact ⟨lret_int HN.out.symm, HK.out⟩
    · have hi : ¬ (k : Int) < (l.length : Int) := by omega
      have e : l.drop k = [] := List.drop_eq_nil_of_le (by omega)
      have HN : Hid (idxB (fun x => hcmp x t n == 0) l 0 = -1) := by show _ = _; rw [HU.out, e]; rfl
      clear hu hb e
      go_wp2_with fail
      go_ret
      exact ⟨lret_int HN.out.symm, HB.out⟩

set_option maxRecDepth 100000 in
set_option maxHeartbeats 1000000 in
theorem hDrop_any (d o : Nat) (v : Value) (l : List Hp.Hi) (t n : Int) (w : World) (h : HP w d o v l) (hh : Hp.Heap l) (hl : l.length ≤ 1000) :
    Calls Tryz.prog 146 #[.pointer (some ⟨d, o, none⟩), .int .i64 t, .int .i64 n] w fun e w' => e = .returned (.tuple #[]) ∧
      (((∀ x ∈ l, ¬ (x.t = t ∧ x.n = n)) ∧ Below w.heap.size w w') ∨ ∃ (x : Hp.Hi) (l' : List Hp.Hi), x.t = t ∧ x.n = n ∧ EndPost w d o v l' w' ∧ Hp.Heap l' ∧ l.Perm (x :: l')) := by
  have hX : Below w.heap.size w ((w.alloc (.cells #[.int .i64 t] 3)).alloc (.cells #[.int .i64 n] 3)) := ((Below.refl _ _).alloc (Nat.le_refl _) _).alloc (by simp) _
  have hx := h.later hX
  have c := hx.c
  have xa : ((w.alloc (.cells #[.int .i64 t] 3)).alloc (.cells #[.int .i64 n] 3)).cell? ⟨w.heap.size, 0, none⟩ = some (.int .i64 t) := by simp
  have xb : ((w.alloc (.cells #[.int .i64 t] 3)).alloc (.cells #[.int .i64 n] 3)).cell? ⟨w.heap.size + 1, 0, none⟩ = some (.int .i64 n) := by
    have := heapNew (w.alloc (.cells #[.int .i64 t] 3)) (.cells #[.int .i64 n] 3)
    rw [World.size_alloc] at this
    simp only [World.cell?, this]
    rfl
  have IX := hidp (indexItem_any l t n v w.heap.size (w.heap.size + 1) _ hx.own xa xb hl)
  have HX := hidp (And.intro hX hx)
  have hdl : d < w.heap.size := World.block_lt_of_cell? _ _ h.c
  have bd := idxB_bd (fun x => hcmp x t n == 0) l
  have hq := idxB_is (fun x => hcmp x t n == 0) l 0
  clear hX hx xa xb h
  generalize idxB (fun x => hcmp x t n == 0) l 0 = q at *
  have HQ := hidp hq
  clear hq
  go_enter Tryz.func146, Tryz.ntmps146
  go_wp2_with fail
  generalize ((w.alloc (.cells #[.int .i64 t] 3)).alloc (.cells #[.int .i64 n] 3)) = X at *
  refine IX.out.mono ?_
  rintro e w1 ⟨rfl, k1⟩
  have H1 := hidp (And.intro (blwMore HX.out.1 k1 (Nat.le_refl _)) (HX.out.2.later k1))
  clear k1 IX c HX
  by_cases h0 : 0 ≤ q
  · obtain ⟨k, hk, e1, e2, e3⟩ : ∃ (k : Nat) (h : k < l.length), q = k ∧ (hcmp l[k] t n == 0) = true ∧ True := by
      rcases HQ.out with ⟨h, _⟩ | ⟨k, h, e, e2, _⟩
      · omega
      · exact ⟨k, h, by omega, e2, trivial⟩
    subst e1
    have RM := hidp (remove_any d o v l k w1 H1.out.2 hh hk hl)
    have HE := hidp e2
    clear e2 e3 HQ
    go_wp2_with fail
    refine RM.out.mono ?_
    rintro e w2 ⟨rfl, l', p1, p2, p3⟩
    have HF : Hid (∃ (x : Hp.Hi) (l' : List Hp.Hi), x.t = t ∧ x.n = n ∧ EndPost w d o v l' w2 ∧ Hp.Heap l' ∧ l.Perm (x :: l')) := by
      have e2 : hcmp l[k] t n = 0 := by simpa using HE.out
      obtain ⟨q1, q2⟩ := (hcmp_zero _ _ _).1 e2
      refine ⟨Hp.at_ l k, l', by rw [Hp.at_get hk]; exact q1, by rw [Hp.at_get hk]; exact q2, p1.from H1.out.1 hdl, p2, p3⟩
    clear p1 p2 p3 RM
    go_wp2_with fail
    go_end0
    exact ⟨rfl, .inr HF.out⟩
  · have HF : Hid (∀ x ∈ l, ¬ (x.t = t ∧ x.n = n)) := by
      rcases HQ.out with ⟨_, h⟩ | ⟨k, h, e, _⟩
      · intro x hx e
        have := h x hx
        have e0 := (hcmp_zero x t n).2 e
        simp [e0] at this
      · omega
    clear HQ
    go_wp2_with fail
    go_end0
    exact ⟨rfl, .inl ⟨HF.out, H1.out.1⟩⟩

end Go.Proofs.YtjfkfiffakbagaaGreatDoor


/-
  A map whose elements are pointers to the beginnings of blocks: what it holds, as a function of the key; its look-up, store, delete and length.
-/
namespace Go.Proofs.YtjfkfiffakbagaaGreatDoor
open Go Go.Maps

def ptrD (o : Option Nat) : DataW Unit := .lit (.int .i64 (match o with | none => -1 | some b => (b : Int)))
/-- How a pointer to the beginning of a block reads. -/
def ptrR : Value → Option (DataW Unit × List MemPlace)
  | .pointer none => some (ptrD none, [])
  | .pointer (some ⟨b, 0, none⟩) => some (ptrD (some b), [])
  | _ => none
/-- What a map holds when one key has been turned. -/
noncomputable def upd (f : Lit → Option Nat) (kl : Lit) (o : Option Nat) (x : Lit) : Option Nat := @ite _ (x = kl) (Classical.propDecidable _) o (f x)
theorem upd_same (f : Lit → Option Nat) (kl : Lit) (o : Option Nat) : upd f kl o kl = o := if_pos rfl
theorem upd_other (f : Lit → Option Nat) {kl x : Lit} (o : Option Nat) (h : x ≠ kl) : upd f kl o x = f x := if_neg h

/-- Block b is a map that holds at each key what f says; so many of them. -/
def PMap (P : Program) (k : TypeId) (w : World) (b n : Nat) (f : Lit → Option Nat) (sz : Nat) : Prop :=
  ∃ D, w.ownsMap P k ptrR b n D ∧ Maps.size D = sz ∧ (∀ kl, D.atKey kl (ptrD none) = ptrD (f kl)) ∧ ∀ kl, Maps.has D kl = (f kl).isSome
theorem PMap.lt {P : Program} {k : TypeId} {w : World} {b n : Nat} {f : Lit → Option Nat} {sz : Nat} (h : PMap P k w b n f sz) : b < w.heap.size := by
  obtain ⟨D, h1, _⟩ := h; exact h1.lt
theorem PMap.block {P : Program} {k : TypeId} {w w' : World} {b n : Nat} {f : Lit → Option Nat} {sz : Nat} (h : PMap P k w b n f sz) (hb : w'.heap[b]? = w.heap[b]?) : PMap P k w' b n f sz := by
  obtain ⟨D, ⟨es, clock, h1, h2⟩, h3⟩ := h
  exact ⟨D, ⟨es, clock, hb.trans h1, h2⟩, h3⟩
theorem PMap.mono {P : Program} {k : TypeId} {w : World} {b n m : Nat} {f : Lit → Option Nat} {sz : Nat} (h : PMap P k w b n f sz) (hm : n ≤ m) : PMap P k w b m f sz := by
  obtain ⟨D, h1, h2⟩ := h
  exact ⟨D, h1.mono hm, h2⟩
theorem PMap.made (P : Program) (k : TypeId) (w : World) : PMap P k (w.alloc (.map #[] 0)) w.heap.size 0 (fun _ => none) 0 :=
  ⟨.map [], World.ownsMap_made w P k ptrR, rfl, fun _ => rfl, fun _ => rfl⟩
theorem PMap.len {P : Program} {k e t : TypeId} {w : World} {b n : Nat} {f : Lit → Option Nat} {sz : Nat} (h : PMap P k w b n f sz) (ht : P.underlying t = some (.map k e)) (ty : TypeId) : (Builtin.len_ #[t] ty #[.map (some b)]).run P w = .ok (.int .i64 sz) w := by
  obtain ⟨D, h1, h2, _⟩ := h
  rw [h1.len ht ty, h2]
/-- One key more, or anew. -/
theorem PMap.put {P : Program} {k : TypeId} {w' : World} {b n : Nat} {f : Lit → Option Nat} {D : DataW Unit} {kl : Lit} {p : Nat} (K : Keyed P k) (w : World) (hD : w.ownsMap P k ptrR b n D) (h : w'.ownsMap P k ptrR b (n + 1) (D.put kl (ptrD (some p)))) (hk : WideAt.IsKeyLit kl) (h3 : ∀ kl, D.atKey kl (ptrD none) = ptrD (f kl)) (h4 : ∀ kl, Maps.has D kl = (f kl).isSome) :
    PMap P k w' b (n + 1) (upd f kl (some p)) (if (f kl).isSome then Maps.size D else Maps.size D + 1) := by
  refine ⟨_, h, ?_, fun x => ?_, fun x => ?_⟩
  · rw [Maps.size_put (hD.tidy K), h4]
  · by_cases c : x = kl
    · rw [c, upd_same, Maps.atKey_put_same hD.isMap hk]
    · rw [upd_other f _ c, Maps.atKey_put_other c, h3]
  · by_cases c : x = kl
    · rw [c, upd_same, Maps.has_put_same hD.isMap hk]; rfl
    · rw [upd_other f _ c, Maps.has_put_other c, h4]
section
variable {P : Program} (w : World) {ops : Array Oper} {rest : List Oper} {o : Oper} {a : Act} {Q : Exit → Act → World → Prop}
end

end Go.Proofs.YtjfkfiffakbagaaGreatDoor


/-
  The plain mathematics of the calendar: days ahead of a year, of a month; a date and its number belong together. It imports nothing of the program.
-/
namespace Go.Proofs.YtjfkfiffakbagaaGreatDoor.Cal
/-- days of the calendar ahead of a year -/
def ah (y : Int) : Int := (y - 1) * 365 + (y - 1) / 4 - (y - 1) / 100 + (y - 1) / 400
def leap (y : Int) : Bool := y % 4 == 0 && (y % 100 != 0 || y % 400 == 0)
def lp (y : Int) : Int := if leap y then 1 else 0
def tab (m : Int) : Int := if m = 2 then 28 else if m = 4 ∨ m = 6 ∨ m = 9 ∨ m = 11 then 30 else 31
def dim (y m : Int) : Int := if m = 2 then 28 + lp y else tab m
/-- days of a year ahead of a month -/
def cum (y m : Int) : Int :=
  if m ≤ 1 then 0 else if m = 2 then 31 else lp y + (if m = 3 then 59 else if m = 4 then 90 else if m = 5 then 120 else if m = 6 then 151 else if m = 7 then 181 else if m = 8 then 212 else if m = 9 then 243 else if m = 10 then 273 else if m = 11 then 304 else if m = 12 then 334 else 365)
def first : Int := -738885
def last : Int := 2913173
def num (y m d : Int) : Int := first + ah y + cum y m + d - 1
def ok (y m d : Int) : Bool := decide (1 ≤ y ∧ y ≤ 9999 ∧ 1 ≤ m ∧ m ≤ 12 ∧ 1 ≤ d ∧ d ≤ dim y m)

theorem lp_01 (y : Int) : 0 ≤ lp y ∧ lp y ≤ 1 := by unfold lp; split <;> omega
theorem lp_of (y : Int) : lp y = 1 ∧ y % 4 = 0 ∧ (y % 100 ≠ 0 ∨ y % 400 = 0) ∨ lp y = 0 ∧ ¬ (y % 4 = 0 ∧ (y % 100 ≠ 0 ∨ y % 400 = 0)) := by
  unfold lp
  cases h : leap y
  · right; refine ⟨by simp, ?_⟩
    simp only [leap, Bool.and_eq_false_iff, Bool.or_eq_false_iff, beq_eq_false_iff_ne, bne_eq_false_iff_eq] at h
    omega
  · left; refine ⟨by simp, ?_⟩
    simp only [leap, Bool.and_eq_true, Bool.or_eq_true, beq_iff_eq, bne_iff_ne] at h
    exact h
theorem ah_succ (y : Int) (_h : 1 ≤ y) : ah (y + 1) = ah y + 365 + lp y := by
  rcases lp_of y with ⟨e, h1⟩ | ⟨e, h1⟩ <;> rw [e] <;> unfold ah <;> omega
theorem ah_mono (a b : Int) (_h0 : 1 ≤ a) (_h : a ≤ b) : ah a ≤ ah b := by unfold ah; omega
theorem ah_end : ah 10000 = 3652059 := by decide
theorem ah_guess (g : Int) (_h : 0 ≤ g) : ah (g * 400 / 146097 + 1) ≤ g := by unfold ah; omega
theorem ah_bd (y : Int) (_h1 : 1 ≤ y) (_h2 : y ≤ 10000) : 0 ≤ ah y ∧ ah y ≤ 3652059 := by unfold ah; omega
theorem tab_bd (m : Int) : 28 ≤ tab m ∧ tab m ≤ 31 := by unfold tab; (repeat' split) <;> omega
theorem dim_bd (y m : Int) : 28 ≤ dim y m ∧ dim y m ≤ 31 := by
  have := lp_01 y; have := tab_bd m; unfold dim; split <;> omega
theorem months (m : Int) (h1 : 1 ≤ m) (h2 : m ≤ 12) : m = 1 ∨ m = 2 ∨ m = 3 ∨ m = 4 ∨ m = 5 ∨ m = 6 ∨ m = 7 ∨ m = 8 ∨ m = 9 ∨ m = 10 ∨ m = 11 ∨ m = 12 := by omega
theorem cum_one (y : Int) : cum y 1 = 0 := by simp [cum]
theorem cum_succ (y m : Int) (h1 : 1 ≤ m) (h2 : m ≤ 12) : cum y (m + 1) = cum y m + dim y m := by
  rcases months m h1 h2 with h | h | h | h | h | h | h | h | h | h | h | h <;> subst h <;> simp [cum, dim, tab] <;> omega
theorem cum_end (y : Int) : cum y 13 = 365 + lp y := by simp [cum]; omega
theorem cum_le (y a : Int) (k : Nat) (h1 : 1 ≤ a) (h2 : a + k ≤ 13) : cum y a ≤ cum y (a + k) := by
  induction k with
  | zero => simp
  | succ k ih =>
    have c := cum_succ y (a + k) (by omega) (by omega)
    have d := dim_bd y (a + k)
    have i := ih (by omega)
    rw [show a + ((k + 1 : Nat) : Int) = a + k + 1 from by omega, c]; omega
theorem cum_bd (y m : Int) (h1 : 1 ≤ m) (h2 : m ≤ 13) : 0 ≤ cum y m ∧ cum y m ≤ 365 + lp y := by
  have a := cum_le y 1 (m - 1).toNat (by omega) (by omega)
  have b := cum_le y m (13 - m).toNat h1 (by omega)
  rw [show (1 : Int) + ((m - 1).toNat : Int) = m from by omega, cum_one] at a
  rw [show m + ((13 - m).toNat : Int) = 13 from by omega, cum_end] at b
  exact ⟨a, b⟩
theorem cum_mono (y a b : Int) (h1 : 1 ≤ a) (h : a < b) (h2 : b ≤ 13) : cum y a + dim y a ≤ cum y b := by
  rw [← cum_succ y a h1 (by omega)]
  have c := cum_le y (a + 1) (b - (a + 1)).toNat (by omega) (by omega)
  rwa [show (a + 1) + ((b - (a + 1)).toNat : Int) = b from by omega] at c
theorem ok_iff (y m d : Int) : ok y m d = true ↔ 1 ≤ y ∧ y ≤ 9999 ∧ 1 ≤ m ∧ m ≤ 12 ∧ 1 ≤ d ∧ d ≤ dim y m := by simp [ok]
/-- where a valid date lies within its year -/
theorem in_year (y m d : Int) (h : ok y m d = true) : ah y ≤ num y m d - first ∧ num y m d - first < ah (y + 1) := by
  obtain ⟨h1, h2, h3, h4, h5, h6⟩ := (ok_iff y m d).1 h
  have a := ah_succ y h1
  have b := cum_bd y m h3 (by omega)
  have c := cum_succ y m h3 h4
  have e := cum_bd y (m + 1) (by omega) (by omega)
  unfold num; omega
theorem year_one (a b n : Int) (ha : 1 ≤ a) (hb : 1 ≤ b) (h1 : ah a ≤ n) (h2 : n < ah (a + 1)) (h3 : ah b ≤ n) (h4 : n < ah (b + 1)) : a = b := by
  by_cases h : a < b
  · have := ah_mono (a + 1) b (by omega) (by omega); omega
  · by_cases h' : b < a
    · have := ah_mono (b + 1) a (by omega) (by omega); omega
    · omega
theorem month_one (y a b n : Int) (ha : 1 ≤ a) (ha' : a ≤ 12) (hb : 1 ≤ b) (hb' : b ≤ 12) (h1 : cum y a ≤ n) (h2 : n < cum y a + dim y a) (h3 : cum y b ≤ n) (h4 : n < cum y b + dim y b) : a = b := by
  by_cases h : a < b
  · have := cum_mono y a b ha h (by omega); omega
  · by_cases h' : b < a
    · have := cum_mono y b a hb h' (by omega); omega
    · omega
theorem one (y m d y' m' d' : Int) (h : ok y m d = true) (h' : ok y' m' d' = true) (e : num y m d = num y' m' d') : y = y' ∧ m = m' ∧ d = d' := by
  have i := in_year y m d h
  have i' := in_year y' m' d' h'
  obtain ⟨h1, h2, h3, h4, h5, h6⟩ := (ok_iff y m d).1 h
  obtain ⟨g1, g2, g3, g4, g5, g6⟩ := (ok_iff y' m' d').1 h'
  have hy : y = y' := year_one y y' (num y m d - first) h1 g1 i.1 i.2 (by rw [e]; exact i'.1) (by rw [e]; exact i'.2)
  subst hy
  unfold num at e
  have hm : m = m' := month_one y m m' (cum y m + d - 1) h3 h4 g3 g4 (by omega) (by omega) (by omega) (by omega)
  subst hm
  exact ⟨rfl, rfl, by omega⟩
theorem num_bd (y m d : Int) (h : ok y m d = true) : first ≤ num y m d ∧ num y m d ≤ last := by
  obtain ⟨h1, h2, h3, h4, h5, h6⟩ := (ok_iff y m d).1 h
  have i := in_year y m d h
  have a := ah_mono (y + 1) 10000 (by omega) (by omega)
  have b := ah_bd y h1 (by omega)
  have c := ah_end
  unfold first at i; unfold first last; omega
end Go.Proofs.YtjfkfiffakbagaaGreatDoor.Cal


/-
  The date of a number, reckoned.
-/
namespace Go.Proofs.YtjfkfiffakbagaaGreatDoor.Cal

def yF (g : Int) : Int := if ah (g * 400 / 146097 + 2) ≤ g then g * 400 / 146097 + 2 else g * 400 / 146097 + 1
def mF (y r : Int) : Int := if r < cum y 2 then 1 else if r < cum y 3 then 2 else if r < cum y 4 then 3 else if r < cum y 5 then 4 else if r < cum y 6 then 5 else if r < cum y 7 then 6 else if r < cum y 8 then 7 else if r < cum y 9 then 8 else if r < cum y 10 then 9 else if r < cum y 11 then 10 else if r < cum y 12 then 11 else 12

theorem ah_next (g : Int) (_h : 0 ≤ g) : g < ah (g * 400 / 146097 + 3) := by unfold ah; omega
theorem yF_ok (g : Int) (h : 0 ≤ g) : 1 ≤ yF g ∧ ah (yF g) ≤ g ∧ g < ah (yF g + 1) := by
  have a := ah_guess g h
  have b := ah_next g h
  unfold yF
  split
  · refine ⟨by omega, by assumption, ?_⟩
    rw [show g * 400 / 146097 + 2 + 1 = g * 400 / 146097 + 3 from by omega]; exact b
  · refine ⟨by omega, a, ?_⟩
    rw [show g * 400 / 146097 + 1 + 1 = g * 400 / 146097 + 2 from by omega]; omega
theorem mF_ok (y r : Int) (h0 : 0 ≤ r) (h1 : r < cum y 13) : 1 ≤ mF y r ∧ mF y r ≤ 12 ∧ cum y (mF y r) ≤ r ∧ r < cum y (mF y r + 1) := by
  have c1 := cum_one y
  unfold mF
  by_cases e2 : r < cum y 2
  · rw [if_pos e2]; exact ⟨by omega, by omega, by omega, e2⟩
  rw [if_neg e2]
  by_cases e3 : r < cum y 3
  · rw [if_pos e3]; exact ⟨by omega, by omega, by omega, e3⟩
  rw [if_neg e3]
  by_cases e4 : r < cum y 4
  · rw [if_pos e4]; exact ⟨by omega, by omega, by omega, e4⟩
  rw [if_neg e4]
  by_cases e5 : r < cum y 5
  · rw [if_pos e5]; exact ⟨by omega, by omega, by omega, e5⟩
  rw [if_neg e5]
  by_cases e6 : r < cum y 6
  · rw [if_pos e6]; exact ⟨by omega, by omega, by omega, e6⟩
  rw [if_neg e6]
  by_cases e7 : r < cum y 7
  · rw [if_pos e7]; exact ⟨by omega, by omega, by omega, e7⟩
  rw [if_neg e7]
  by_cases e8 : r < cum y 8
  · rw [if_pos e8]; exact ⟨by omega, by omega, by omega, e8⟩
  rw [if_neg e8]
  by_cases e9 : r < cum y 9
  · rw [if_pos e9]; exact ⟨by omega, by omega, by omega, e9⟩
  rw [if_neg e9]
  by_cases e10 : r < cum y 10
  · rw [if_pos e10]; exact ⟨by omega, by omega, by omega, e10⟩
  rw [if_neg e10]
  by_cases e11 : r < cum y 11
  · rw [if_pos e11]; exact ⟨by omega, by omega, by omega, e11⟩
  rw [if_neg e11]
  by_cases e12 : r < cum y 12
  · rw [if_pos e12]; exact ⟨by omega, by omega, by omega, e12⟩
  rw [if_neg e12]
  exact ⟨by omega, by omega, by omega, h1⟩

/-- The year, month and day of a number. -/
def yT (n : Int) : Int := yF (n + 738885)
def mT (n : Int) : Int := mF (yT n) (n + 738885 - ah (yT n))
def dT (n : Int) : Int := n + 738885 - ah (yT n) - cum (yT n) (mT n) + 1
theorem dT_ok (n : Int) (h1 : -738885 ≤ n) (h2 : n ≤ 2913173) : ok (yT n) (mT n) (dT n) = true ∧ num (yT n) (mT n) (dT n) = n := by
  have ⟨a1, a2, a3⟩ := yF_ok (n + 738885) (by omega)
  have s := ah_succ (yF (n + 738885)) a1
  have hy : yF (n + 738885) ≤ 9999 := by
    by_cases h : yF (n + 738885) ≤ 9999
    · exact h
    · have := ah_mono 10000 (yF (n + 738885)) (by omega) (by omega)
      have := ah_end
      omega
  have ce := cum_end (yF (n + 738885))
  have ⟨b1, b2, b3, b4⟩ := mF_ok (yF (n + 738885)) (n + 738885 - ah (yF (n + 738885))) (by omega) (by omega)
  have cs := cum_succ (yF (n + 738885)) (mF (yF (n + 738885)) (n + 738885 - ah (yF (n + 738885)))) b1 b2
  refine ⟨(ok_iff _ _ _).2 ?_, ?_⟩
  · unfold dT mT yT
    refine ⟨a1, hy, b1, b2, by omega, by omega⟩
  · unfold num dT mT yT first; omega
/-- Whatever date has a number is the one that is reckoned. -/
theorem dT_one (y m d n : Int) (h : ok y m d = true) (e : num y m d = n) : y = yT n ∧ m = mT n ∧ d = dT n := by
  have b := num_bd y m d h
  rw [e] at b
  unfold first last at b
  have ⟨h1, h2⟩ := dT_ok n b.1 b.2
  exact one y m d _ _ _ h h1 (by rw [e, h2])

end Go.Proofs.YtjfkfiffakbagaaGreatDoor.Cal

