/-
  Parts of the proof, one behind the other: EndRise, RefDesk, RefTaken, RefStarts, RefFits, RefRow, RefWithout, RefState, EndTake, RefJoins, EndPut, EndDrop, PtrMap.
-/
import Derived.Test.YtjfkfiffakbagaaGreatDoorL05
import Derived.OwnWalk
import Derived.Deep.AppendLies
import Derived.Deep.CutRange
import Derived.Deep.RegionLaw
import Derived.Maps.OwnSet
import Derived.Maps.OwnOps
import Derived.Maps.Views
/-
  Package ends: rise, sink.
-/
namespace Go.Proofs.YtjfkfiffakbagaaGreatDoor
open Go.RowKit

/-- A heap's row, turned; beside it nothing has changed. -/
structure Turned (w wx : World) (d o H n cap : Nat) (l l' : List Hp.Hi) : Prop where
  hp : HP wx d o (.slice (some ⟨H, 0, none⟩) n cap) l'
  len : l'.length = n
  perm : l'.Perm l
  off : Off [H] w wx
theorem Turned.new {w : World} {d o H cap : Nat} {l : List Hp.Hi} (h : HP w d o (.slice (some ⟨H, 0, none⟩) l.length cap) l) : Turned w w d o H l.length cap l l := ⟨h, rfl, .refl _, Off.refl _ _⟩
theorem Turned.later {w wx wy : World} {d o H n cap : Nat} {l l' : List Hp.Hi} (h : Turned w wx d o H n cap l l') (k : Below wx.heap.size wx wy) : Turned w wy d o H n cap l l' :=
  ⟨h.hp.later k, h.len, h.perm, h.off.trans' (Off.of_below (F := []) k) (by simp)⟩

set_option maxRecDepth 100000 in
set_option maxHeartbeats 2000000 in
theorem rise_any (d o H cap : Nat) (l : List Hp.Hi) (p : Nat) (w : World) (h : HP w d o (.slice (some ⟨H, 0, none⟩) l.length cap) l) (hp : p < l.length) (hr : Hp.RiseInv l p) (hl : l.length ≤ 1000) :
    Calls Tryz.prog 240 #[.pointer (some ⟨d, o, none⟩), .int .i64 p] w fun e w' => e = .returned (.tuple #[]) ∧ ∃ l', Turned w w' d o H l.length cap l l' ∧ Hp.Heap l' := by
  have T0 := hidp (Turned.new h)
  have R0 := hidp hr
  clear h hr
  go_enter Tryz.func240, Tryz.ntmps240
  go_wp2_with fail
  go_loopw [1] (fun v wx => ∃ (q : Nat) (l' : List Hp.Hi), v = .int .i64 q ∧ q < l.length ∧ Hp.RiseInv l' q ∧ Turned w wx d o H l.length cap l l') (fun v _ => (intOf v).toNat)
  case atStart => exact ⟨p, l, rfl, hp, R0.out, T0.out⟩
  case round =>
    obtain ⟨q, l', rfl, hq, hr, ht⟩ := hrel
    by_cases h0 : 0 < q
    · have i0 : (0 : Int) < (q : Int) := by omega
      have HT := hidp ht
      have HR := hidp hr
      have ea : ((((q : Int) - 1).tdiv 2)) = ((Hp.par q : Nat) : Int) := by
        unfold Hp.par
        rw [Int.tdiv_eq_ediv_of_nonneg (by omega)]; omega
      have ew : IntKind.i64.wrap ((q : Int) - 1) = (q : Int) - 1 := wrap_small (by omega) (by omega)
      have hpq : Hp.par q < q := by unfold Hp.par; omega
      have AH := hidp (fun wy (k : Below wr.heap.size wr wy) => isAhead_any d o _ l' q (Hp.par q) wy (ht.hp.later k) (by rw [ht.len]; omega) (by rw [ht.len]; omega) (by rw [ht.len]; omega))
      clear hr ht
      go_wp2_with fail
      refine (AH.out _ (Below.refl _ _)).mono ?_
      rintro e w4 ⟨rfl, k1⟩
      have HT4 := hidp (HT.out.later k1)
      clear AH HT k1
      cases hb : aheadB (Hp.at_ l' q) (Hp.at_ l' (Hp.par q))
      · have HF := hidp (And.intro HT4.out (HR.out.done (.inr (aheadB_not.1 hb))))
        clear HT4 HR
        go_wp2_with fail
        (try simp only [Exit.inBlock, Exit.then]); refine bodyPost_ret (results_none rfl _ _ _) rfl ?_
        exact ⟨rfl, l', HF.out⟩
      · have hlen := HT4.out.len
        have SW := hidp (hswap_any d o H cap l' q (Hp.par q) w4 (by rw [hlen]; exact HT4.out.hp) (by omega) (by omega) (by omega))
        have HS := hidp (HR.out.step (by omega) h0 (aheadB_iff.1 hb))
        have HL := hidp hlen
        clear HR hlen
        go_wp2_with fail
        refine SW.out.mono ?_
        rintro e w5 ⟨rfl, k2, k3⟩
        have HN : Hid (Turned w w5 d o H l.length cap l (Hp.swap l' q (Hp.par q))) :=
          ⟨by rw [← HL.out]; exact k2, Hp.swap_len.trans HL.out, (Hp.swap_perm (by rw [HL.out]; omega) (by rw [HL.out]; omega)).trans HT4.out.perm, HT4.out.off.trans k3⟩
        clear k2 k3 SW HT4
        go_wp2_with fail
        go_roundw
        case rel => exact ⟨Hp.par q, _, rfl, by omega, HS.out, HN.out⟩
        case measure => simp [intOf]; omega
    · have e0 : q = 0 := by omega
      subst e0
      have HF := hidp (And.intro ht (hr.done (.inl rfl)))
      clear hr ht
      go_wp2_with fail
      go_end0
      exact ⟨rfl, l', HF.out⟩

/-- The children of q below b have been looked at: f is the first of them and q. -/
structure SinkIn (l : List Hp.Hi) (q f b : Nat) : Prop where
  b0 : 2 * q + 1 ≤ b
  b1 : b ≤ 2 * q + 3
  f1 : f < l.length
  ff : f = q ∨ (2 * q + 1 ≤ f ∧ f < b ∧ Hp.ahead (Hp.at_ l f) (Hp.at_ l q))
  no : ∀ i, 2 * q + 1 ≤ i → i < b → i < l.length → ¬ Hp.ahead (Hp.at_ l i) (Hp.at_ l f)
theorem SinkIn.new {l : List Hp.Hi} {q : Nat} (h : q < l.length) : SinkIn l q q (2 * q + 1) := ⟨by omega, by omega, h, .inl rfl, fun i h1 h2 _ => by omega⟩
theorem SinkIn.notS {l : List Hp.Hi} {q f b : Nat} (h : SinkIn l q f b) (hb : b ≤ 2 * q + 2) (k : ¬ Hp.ahead (Hp.at_ l b) (Hp.at_ l f)) : SinkIn l q f (b + 1) := by
  refine ⟨by have := h.b0; omega, by omega, h.f1, ?_, fun i h1 h2 h3 => ?_⟩
  · rcases h.ff with e | ⟨e1, e2, e3⟩
    · exact .inl e
    · exact .inr ⟨e1, by omega, e3⟩
  · by_cases e : i = b
    · subst e; exact k
    · exact h.no i h1 (by omega) h3
theorem SinkIn.yes {l : List Hp.Hi} {q f b : Nat} (h : SinkIn l q f b) (hb : b ≤ 2 * q + 2) (hl : b < l.length) (k : Hp.ahead (Hp.at_ l b) (Hp.at_ l f)) : SinkIn l q b (b + 1) := by
  have h0 := h.b0
  refine ⟨by omega, by omega, hl, .inr ⟨by omega, by omega, ?_⟩, fun i h1 h2 h3 => ?_⟩
  · rcases h.ff with e | ⟨e1, e2, e3⟩
    · rw [← e]; exact k
    · unfold Hp.ahead at *; omega
  · by_cases e : i = b
    · subst e; exact Hp.not_self _
    · have := h.no i h1 (by omega) h3
      unfold Hp.ahead at *; omega
/-- All have been looked at. -/
theorem SinkIn.all {l : List Hp.Hi} {q f b : Nat} (h : SinkIn l q f b) (hb : ¬ b ≤ 2 * q + 2 ∨ ¬ b < l.length) : ∀ i, 0 < i → i < l.length → Hp.par i = q → ¬ Hp.ahead (Hp.at_ l i) (Hp.at_ l f) := by
  intro i h0 h1 h2
  have := h.b0
  unfold Hp.par at h2
  exact h.no i (by omega) (by omega) h1

set_option maxRecDepth 100000 in
set_option maxHeartbeats 2000000 in
theorem sink_any (d o H cap : Nat) (l : List Hp.Hi) (p : Nat) (w : World) (h : HP w d o (.slice (some ⟨H, 0, none⟩) l.length cap) l) (hp : p < l.length) (hr : Hp.SinkInv l p p) (hl : l.length ≤ 1000) :
    Calls Tryz.prog 244 #[.pointer (some ⟨d, o, none⟩), .int .i64 p] w fun e w' => e = .returned (.tuple #[]) ∧ ∃ l', Turned w w' d o H l.length cap l l' ∧ Hp.RiseInv l' p := by
  have T0 := hidp (Turned.new h)
  have R0 := hidp hr
  clear h hr
  go_enter Tryz.func244, Tryz.ntmps244
  go_wp2_with fail
  go_loopw [1] (fun v wx => ∃ (q : Nat) (l' : List Hp.Hi), v = .int .i64 q ∧ q < l.length ∧ Hp.SinkInv l' p q ∧ Turned w wx d o H l.length cap l l') (fun v _ => l.length - (intOf v).toNat)
  case atStart => exact ⟨p, l, rfl, hp, R0.out, T0.out⟩
  case round =>
    obtain ⟨q, l', rfl, hq, hr, ht⟩ := hrel
    have HT := hidp ht
    have HR := hidp hr
    clear hr ht
    have w1 : IntKind.i64.wrap (2 * (q : Int)) = 2 * (q : Int) := wrap_small (by omega) (by omega)
    have w2 : IntKind.i64.wrap (2 * (q : Int) + 1) = 2 * (q : Int) + 1 := wrap_small (by omega) (by omega)
    have w3 : IntKind.i64.wrap (2 * (q : Int) + 2) = 2 * (q : Int) + 2 := wrap_small (by omega) (by omega)
    go_wp2_with fail
    go_loopw [4, 5] (fun vf vb wx => ∃ f b : Nat, vf = .int .i64 f ∧ vb = .int .i64 b ∧ SinkIn l' q f b ∧ Turned w wx d o H l.length cap l l') (fun _ vb _ => 2 * q + 3 - (intOf vb).toNat)
    case atStart => exact ⟨q, 2 * q + 1, rfl, by simp, SinkIn.new (by rw [HT.out.len]; exact hq), HT.out⟩
    case round =>
      obtain ⟨f, b, rfl, rfl, hs, ht⟩ := hrel
      have hlen := ht.len
      have hc := ht.hp.c
      by_cases hb1 : b ≤ 2 * q + 2
      · have b1 : (b : Int) ≤ 2 * (q : Int) + 2 := by omega
        by_cases hb2 : b < l.length
        · have b2 : (b : Int) < (l.length : Int) := by omega
          have fb := hs.f1
          have AH := hidp (isAhead_any d o _ l' b f wr ht.hp (by omega) (by omega) (by omega))
          have HT2 := hidp ht
          have HS := hidp hs
          have hw : IntKind.i64.wrap ((b : Int) + 1) = ((b + 1 : Nat) : Int) := by rw [wrap_small (by omega) (by omega)]; omega
          clear ht hs
          go_wp2_with fail
          refine AH.out.mono ?_
          rintro e w4 ⟨rfl, k1⟩
          have HT4 := hidp (HT2.out.later k1)
          clear AH HT2 k1
          cases hb : aheadB (Hp.at_ l' b) (Hp.at_ l' f)
          · have HN := hidp (HS.out.notS hb1 (aheadB_not.1 hb))
            clear HS
            go_wp2_with fail
            go_roundw
            case rel => exact ⟨f, b + 1, rfl, rfl, HN.out, HT4.out⟩
            case measure => simp [intOf]; omega
          · have HN := hidp (HS.out.yes hb1 (by omega) (aheadB_iff.1 hb))
            clear HS
            go_wp2_with fail
            go_roundw
            case rel => exact ⟨b, b + 1, rfl, rfl, HN.out, HT4.out⟩
            case measure => simp [intOf]; omega
        · have b2 : ¬ ((b : Int) < (l.length : Int)) := by omega
          have HALL := hidp (hs.all (by omega))
          have hff := hs.ff
          have hf1 := hs.f1
          have hqp := HR.out.qp
          have HT2 := hidp ht
          have HL := hidp hlen
          by_cases hfq : f = q
          · subst hfq
            have HF := hidp (And.intro ht (HR.out.done (by omega) HALL.out))
            clear ht hs HALL hff hf1 HT2 HT HR HL hlen
            go_wp2_with fail
            (try simp only [Exit.inBlock, Exit.then]); refine bodyPost_ret (results_none rfl _ _ _) rfl ?_
            exact ⟨rfl, l', HF.out⟩
          · have hfq' : ¬ ((f : Int) = (q : Int)) := by omega
            have hf2 : 2 * q + 1 ≤ f := by omega
            have SW := hidp (hswap_any d o H cap l' q f wr (by rw [hlen]; exact ht.hp) (by omega) (by omega) (by omega))
            have hah : Hp.ahead (Hp.at_ l' f) (Hp.at_ l' q) := by rcases hff with e | e; exact absurd e hfq; exact e.2.2
            have HS := hidp (HR.out.step (c := f) (by omega) hf1 (by unfold Hp.par; have := hs.ff; have := hs.b1; omega) hah HALL.out)
            clear ht hs HALL hff hah hlen
            go_wp2_with fail
            refine SW.out.mono ?_
            rintro e w5 ⟨rfl, k2, k3⟩
            have HN : Hid (Turned w w5 d o H l.length cap l (Hp.swap l' q f)) :=
              ⟨by rw [← HL.out]; exact k2, Hp.swap_len.trans HL.out, (Hp.swap_perm (by rw [HL.out]; omega) hf1).trans HT2.out.perm, HT2.out.off.trans k3⟩
            clear k2 k3 SW HT2 HT
            go_wp2_with fail
            go_roundw
            case rel => exact ⟨f, _, rfl, by rw [← HL.out]; exact hf1, HS.out, HN.out⟩
            case measure => have := HL.out; simp [intOf]; omega
      · have b1 : ¬ ((b : Int) ≤ 2 * (q : Int) + 2) := by omega
        have HALL := hidp (hs.all (by omega))
        have hff := hs.ff
        have hf1 := hs.f1
        have hqp := HR.out.qp
        have HT2 := hidp ht
        have HL := hidp hlen
        by_cases hfq : f = q
        · subst hfq
          have HF := hidp (And.intro ht (HR.out.done (by omega) HALL.out))
          clear ht hs HALL hff hf1 HT2 HT HR HL hlen
          go_wp2_with fail
          (try simp only [Exit.inBlock, Exit.then]); refine bodyPost_ret (results_none rfl _ _ _) rfl ?_
          exact ⟨rfl, l', HF.out⟩
        · have hfq' : ¬ ((f : Int) = (q : Int)) := by omega
          have hf2 : 2 * q + 1 ≤ f := by omega
          have SW := hidp (hswap_any d o H cap l' q f wr (by rw [hlen]; exact ht.hp) (by omega) (by omega) (by omega))
          have hah : Hp.ahead (Hp.at_ l' f) (Hp.at_ l' q) := by rcases hff with e | e; exact absurd e hfq; exact e.2.2
          have HS := hidp (HR.out.step (c := f) (by omega) hf1 (by unfold Hp.par; have := hs.ff; have := hs.b1; omega) hah HALL.out)
          clear ht hs HALL hff hah hlen
          go_wp2_with fail
          refine SW.out.mono ?_
          rintro e w5 ⟨rfl, k2, k3⟩
          have HN : Hid (Turned w w5 d o H l.length cap l (Hp.swap l' q f)) :=
            ⟨by rw [← HL.out]; exact k2, Hp.swap_len.trans HL.out, (Hp.swap_perm (by rw [HL.out]; omega) hf1).trans HT2.out.perm, HT2.out.off.trans k3⟩
          clear k2 k3 SW HT2 HT
          go_wp2_with fail
          go_roundw
          case rel => exact ⟨f, _, rfl, by rw [← HL.out]; exact hf1, HS.out, HN.out⟩
          case measure => have := HL.out; simp [intOf]; omega

end Go.Proofs.YtjfkfiffakbagaaGreatDoor


/-
  The document's desk as mathematics, and as it lies in memory: things, entries; how much is taken.
-/
namespace Go.Proofs.YtjfkfiffakbagaaGreatDoor
open Go.RowKit
namespace Desk

structure Ent where
  id : Int
  kind : Int
  thing : ByteArray
  units : Int
  spans : List (Int × Int)
  till : Int

/-- How many spans have a minute. -/
def hasB (t : Int) (s : Int × Int) : Bool := decide (s.1 ≤ t) && decide (t < s.2)
def timesN (L : List (Int × Int)) (t : Int) : Int := ((L.filter (hasB t)).length : Int)
def sameB (a b : ByteArray) : Bool := a.toList == b.toList
/-- Is it of that thing, and does it not wait? -/
def ofB (name : ByteArray) (e : Ent) : Bool := sameB e.thing name && (e.kind != 3)
def takenN (name : ByteArray) (t : Int) : List Ent → Int
  | [] => 0
  | e :: r => (if ofB name e then timesN e.spans t * e.units else 0) + takenN name t r
def startsL (name : ByteArray) : List Ent → List Int
  | [] => []
  | e :: r => (if sameB e.thing name then e.spans.map (·.1) else []) ++ startsL name r

theorem timesN_bd (L : List (Int × Int)) (t : Int) : 0 ≤ timesN L t ∧ timesN L t ≤ L.length := by
  unfold timesN
  have := List.length_filter_le (hasB t) L
  omega
theorem takenN_append (name : ByteArray) (t : Int) (l r : List Ent) : takenN name t (l ++ r) = takenN name t l + takenN name t r := by
  induction l with
  | nil => simp [takenN]
  | cons e l ih => simp only [List.cons_append, takenN, ih]; omega
/-- An entry's numbers are small. -/
structure Small (e : Ent) : Prop where
  u0 : 0 ≤ e.units
  u1 : e.units ≤ 9
  sl : e.spans.length ≤ 100
end Desk

/-- A list of spans in block B, from its beginning on. -/
def RSL (w : World) (B : Nat) (L : List (Int × Int)) : Prop := ∀ (i : Nat) (h : i < L.length), w.cell? ⟨B, i * 2, none⟩ = some (.int .i64 L[i].1) ∧ w.cell? ⟨B, i * 2 + 1, none⟩ = some (.int .i64 L[i].2)
theorem RSL.off {w w' : World} {B : Nat} {L : List (Int × Int)} {G : List Nat} (h : RSL w B L) (k : Off G w w') (hB : B ∉ G) : RSL w' B L := fun i hi => ⟨k.cell hB (h i hi).1, k.cell hB (h i hi).2⟩
theorem RSL.later {w w' : World} {B : Nat} {L : List (Int × Int)} (h : RSL w B L) (k : Below w.heap.size w w') : RSL w' B L := h.off (G := []) (Off.of_below k) (by simp)

/-- Entry number i of the row in block E; its spans in block B. -/
structure RE (w : World) (E i : Nat) (e : Desk.Ent) (B cap : Nat) : Prop where
  c0 : w.cell? ⟨E, i * 6, none⟩ = some (.int .i64 e.id)
  c1 : w.cell? ⟨E, i * 6 + 1, none⟩ = some (.int .i64 e.kind)
  c2 : w.cell? ⟨E, i * 6 + 2, none⟩ = some (.string e.thing)
  c3 : w.cell? ⟨E, i * 6 + 3, none⟩ = some (.int .i64 e.units)
  c4 : w.cell? ⟨E, i * 6 + 4, none⟩ = some (.slice (some ⟨B, 0, none⟩) e.spans.length cap)
  c5 : w.cell? ⟨E, i * 6 + 5, none⟩ = some (.int .i64 e.till)
  sl : RSL w B e.spans
theorem RE.later {w w' : World} {E i : Nat} {e : Desk.Ent} {B cap : Nat} (h : RE w E i e B cap) (k : Below w.heap.size w w') : RE w' E i e B cap := by
  have o : Off [] w w' := Off.of_below k
  exact ⟨o.cell (by simp) h.c0, o.cell (by simp) h.c1, o.cell (by simp) h.c2, o.cell (by simp) h.c3, o.cell (by simp) h.c4, o.cell (by simp) h.c5, h.sl.off o (by simp)⟩

/-- The entries of the desk in block d. -/
structure RDE (w : World) (d : Nat) (a : Option Addr) (cap E : Nat) (es : List Desk.Ent) : Prop where
  c : w.cell? ⟨d, 1, none⟩ = some (.slice a es.length cap)
  a : es ≠ [] → a = some ⟨E, 0, none⟩
  r : ∀ (i : Nat) (h : i < es.length), ∃ B cap, RE w E i es[i] B cap
theorem RDE.later {w w' : World} {d : Nat} {a : Option Addr} {cap E : Nat} {es : List Desk.Ent} (h : RDE w d a cap E es) (k : Below w.heap.size w w') : RDE w' d a cap E es :=
  ⟨(Off.of_below (F := []) k).cell (by simp) h.c, h.a, fun i hi => by obtain ⟨B, c, r⟩ := h.r i hi; exact ⟨B, c, r.later k⟩⟩
theorem RDE.at {w : World} {d : Nat} {a : Option Addr} {cap E : Nat} {es : List Desk.Ent} (h : RDE w d a cap E es) {i : Nat} (hi : i < es.length) : a = some ⟨E, 0, none⟩ := h.a (by intro e; simp [e] at hi)

end Go.Proofs.YtjfkfiffakbagaaGreatDoor


/-
  The document's desk: times, taken.
-/
namespace Go.Proofs.YtjfkfiffakbagaaGreatDoor
open Go.RowKit

end Go.Proofs.YtjfkfiffakbagaaGreatDoor


/-
  The document's desk: starts.
-/
namespace Go.Proofs.YtjfkfiffakbagaaGreatDoor
open Go.RowKit

theorem infoInt : (Tryz.prog.info? 3).map (fun i => (i.zero, i.size, i.bytes)) = some (some (.int .i64 0), 1, 8) := by kernel_rfl
theorem ownBase {w : World} {base e size n : Nat} {v : Value} {xs : List Value} (h : w.ownsRow base e size v n xs) {k : Nat} (hk : v.ownBlock = some k) : base ≤ k := by
  rcases h.2 with ⟨rfl, _⟩ | ⟨g, cap, cur, rfl, hb, _⟩
  · simp [Value.ownBlock] at hk
  · simp [Value.ownBlock] at hk; omega
theorem ownLater {w w' : World} {base e size n : Nat} {v : Value} {xs : List Value} (h : w.ownsRow base e size v n xs) (hb : Below w.heap.size w w') : w'.ownsRow base e size v n xs := by
  refine ⟨h.1, ?_⟩
  rcases h.2 with h0 | ⟨g, cap, cur, hv, hg, hh, rest⟩
  · exact .inl h0
  · refine .inr ⟨g, cap, cur, hv, hg, ?_, rest⟩
    have hlt : g < w.heap.size := by
      by_cases hx : g < w.heap.size
      · exact hx
      · rw [Array.getElem?_eq_none (by omega)] at hh; cases hh
    rw [hb.block g hlt]; exact hh
theorem heapNew (w : World) (o : Obj) : (w.alloc o).heap[w.heap.size]? = some o := heap_alloc_new w o
/-- A block of another type is not the row's. -/
theorem ownOther {w : World} {base e size n : Nat} {v : Value} {xs : List Value} (h : w.ownsRow base e size v n xs) {b : Nat} {cs : Array Value} {t : TypeId} {m : Nat × Nat} (hb : w.heap[b]? = some (.cells cs t m)) (hne : t ≠ e) : v.ownBlock ≠ some b := by
  intro hk
  rcases h.2 with ⟨rfl, _⟩ | ⟨g, cap, cur, rfl, hg, hh, _⟩
  · simp [Value.ownBlock] at hk
  · simp [Value.ownBlock] at hk
    subst hk
    rw [hb] at hh
    simp at hh
    exact hne hh.2.1
end Go.Proofs.YtjfkfiffakbagaaGreatDoor


/-
  The document's desk: units, Fits.
-/
namespace Go.Proofs.YtjfkfiffakbagaaGreatDoor
open Go.RowKit

namespace Desk
def unitsN (name : ByteArray) : List (ByteArray × Int) → Int
  | [] => 0
  | t :: r => if sameB t.1 name then t.2 else unitsN name r
/-- Would more be taken at minute x than there is? -/
def overB (most : Int) (name : ByteArray) (units : Int) (L : List (Int × Int)) (es : List Ent) (x : Int) : Bool := decide (0 < timesN L x) && decide (most < takenN name x es + timesN L x * units)
def fitsAt (most : Int) (name : ByteArray) (units : Int) (L : List (Int × Int)) (es : List Ent) (l : List Int) : Bool := l.all fun x => !overB most name units L es x
def fitsN (ts : List (ByteArray × Int)) (es : List Ent) (name : ByteArray) (units : Int) (L : List (Int × Int)) : Bool := fitsAt (unitsN name ts) name units L es (startsL name es ++ L.map (·.1))
end Desk

/-- The things of the desk in block d. -/
structure RDT (w : World) (d : Nat) (a : Option Addr) (cap G : Nat) (ts : List (ByteArray × Int)) : Prop where
  c : w.cell? ⟨d, 0, none⟩ = some (.slice a ts.length cap)
  a : ts ≠ [] → a = some ⟨G, 0, none⟩
  r : ∀ (i : Nat) (h : i < ts.length), w.cell? ⟨G, i * 2, none⟩ = some (.string ts[i].1) ∧ w.cell? ⟨G, i * 2 + 1, none⟩ = some (.int .i64 ts[i].2)
theorem RDT.later {w w' : World} {d : Nat} {a : Option Addr} {cap G : Nat} {ts : List (ByteArray × Int)} (h : RDT w d a cap G ts) (k : Below w.heap.size w w') : RDT w' d a cap G ts :=
  ⟨cellLater k h.c, h.a, fun i hi => ⟨cellLater k (h.r i hi).1, cellLater k (h.r i hi).2⟩⟩
theorem RDT.at {w : World} {d : Nat} {a : Option Addr} {cap G : Nat} {ts : List (ByteArray × Int)} (h : RDT w d a cap G ts) {i : Nat} (hi : i < ts.length) : a = some ⟨G, 0, none⟩ := h.a (by intro e; simp [e] at hi)

end Go.Proofs.YtjfkfiffakbagaaGreatDoor


/-
  The document's desk: place, waiting, asked, without; grant where nobody waits.
-/
namespace Go.Proofs.YtjfkfiffakbagaaGreatDoor
open Go.RowKit

namespace Desk
def waitN (es : List Ent) : Int := ((es.filter fun e => e.kind == 3).length : Int)
def askedN (ts : List (ByteArray × Int)) (name : ByteArray) (units : Int) : Int := if unitsN name ts = 0 then 3 else if unitsN name ts < units then 7 else 0
end Desk

/-- An entry with the block and the room of its spans, as six cells. -/
def entVL (x : Desk.Ent × Nat × Nat) : List Value := [.int .i64 x.1.id, .int .i64 x.1.kind, .string x.1.thing, .int .i64 x.1.units, .slice (some ⟨x.2.1, 0, none⟩) x.1.spans.length x.2.2, .int .i64 x.1.till]
/-- The entries of the desk in block d, each with where its spans lie. -/
structure RDX (w : World) (d : Nat) (a : Option Addr) (cap E : Nat) (xs : List (Desk.Ent × Nat × Nat)) : Prop where
  c : w.cell? ⟨d, 1, none⟩ = some (.slice a xs.length cap)
  a : xs ≠ [] → a = some ⟨E, 0, none⟩
  r : ∀ (i : Nat) (h : i < xs.length), RE w E i xs[i].1 xs[i].2.1 xs[i].2.2
theorem RDX.later {w w' : World} {d : Nat} {a : Option Addr} {cap E : Nat} {xs : List (Desk.Ent × Nat × Nat)} (h : RDX w d a cap E xs) (k : Below w.heap.size w w') : RDX w' d a cap E xs := ⟨cellLater k h.c, h.a, fun i hi => (h.r i hi).later k⟩
theorem RDX.at {w : World} {d : Nat} {a : Option Addr} {cap E : Nat} {xs : List (Desk.Ent × Nat × Nat)} (h : RDX w d a cap E xs) {i : Nat} (hi : i < xs.length) : a = some ⟨E, 0, none⟩ := h.a (by intro e; simp [e] at hi)

end Go.Proofs.YtjfkfiffakbagaaGreatDoor


/-
  The document's desk: without.
-/
namespace Go.Proofs.YtjfkfiffakbagaaGreatDoor
open Go.RowKit

end Go.Proofs.YtjfkfiffakbagaaGreatDoor


/-
  The document's desk as a whole, as it lies in memory; joins.
-/
namespace Go.Proofs.YtjfkfiffakbagaaGreatDoor
open Go.RowKit

def thingVL (t : ByteArray × Int) : List Value := [.string t.1, .int .i64 t.2]
/-- The desk in block d: its things, its entries (each with where its spans lie), how many numbers were given away, the time; F the blocks that it may write. -/
structure RD (w : World) (d : Nat) (ts : List (ByteArray × Int)) (xs : List (Desk.Ent × Nat × Nat)) (given now : Int) (F : List Nat) : Prop where
  tv : ∃ v, w.cell? ⟨d, 0, none⟩ = some v ∧ w.ownsRow 0 307 2 v ts.length (ts.flatMap thingVL) ∧ ∀ k, v.ownBlock = some k → k ∈ F ∧ k ≠ d
  ev : ∃ v, w.cell? ⟨d, 1, none⟩ = some v ∧ w.ownsRow 0 58 6 v xs.length (xs.flatMap entVL) ∧ ∀ k, v.ownBlock = some k → k ∈ F ∧ k ≠ d
  c2 : w.cell? ⟨d, 2, none⟩ = some (.int .i64 given)
  c3 : w.cell? ⟨d, 3, none⟩ = some (.int .i64 now)
  fz : ∀ o, w.frozen? ⟨d, o, none⟩ = false
  dF : d ∈ F
  sp : ∀ x ∈ xs, RSL w x.2.1 x.1.spans ∧ x.2.1 ∉ F ∧ x.2.1 < w.heap.size

theorem flatT_len (ts : List (ByteArray × Int)) : (ts.flatMap thingVL).length = ts.length * 2 := by
  induction ts with
  | nil => rfl
  | cons x xs ih => simp only [List.flatMap_cons, List.length_append, List.length_cons, ih, thingVL, List.length_nil]; omega
theorem RD.dt {w : World} {d : Nat} {ts : List (ByteArray × Int)} {xs : List (Desk.Ent × Nat × Nat)} {given now : Int} {F : List Nat} (h : RD w d ts xs given now F) : ∃ a cap G, RDT w d a cap G ts := by
  obtain ⟨v, c, ho, _⟩ := h.tv
  have hl := ho.1
  rcases ho.2 with ⟨rfl, h0⟩ | ⟨g, cap, cur, rfl, hg, hh, h1, h2, h3, h4⟩
  · have : ts = [] := List.length_eq_zero_iff.1 h0
    subst this
    exact ⟨none, 0, 0, c, fun h => absurd rfl h, fun i hi => by simp at hi⟩
  · refine ⟨some ⟨g, 0, none⟩, cap, g, c, fun _ => rfl, fun i hi => ?_⟩
    have key : ∀ (j : Nat) (u : Value), j < 2 → (thingVL ts[i])[j]? = some u → w.cell? ⟨g, i * 2 + j, none⟩ = some u := by
      intro j u hj hu
      have e1 : (ts.flatMap thingVL)[i * 2 + j]? = some u := by
        have hsplit : ts = ts.take i ++ ts[i] :: ts.drop (i + 1) := by rw [List.getElem_cons_drop, List.take_append_drop]
        rw [hsplit, List.flatMap_append, List.flatMap_cons]
        have hlen : ((ts.take i).flatMap thingVL).length = i * 2 := by rw [flatT_len, List.length_take_of_le (by omega)]
        rw [List.getElem?_append_right (by omega), hlen, Nat.add_sub_cancel_left, List.getElem?_append_left (by simp [thingVL]; omega)]
        exact hu
      have e2 : (cur.toList.take (ts.length * 2))[i * 2 + j]? = some u := by rw [h4]; exact e1
      rw [List.getElem?_take_of_lt (by omega)] at e2
      simp only [Array.getElem?_toList] at e2
      simp [World.cell?, hh, e2]
    exact ⟨key 0 _ (by omega) rfl, key 1 _ (by omega) rfl⟩

/-- A row that is owned, in a world in which its block is as it was. -/
theorem ownOff {w w' : World} {base e size n : Nat} {v : Value} {xs : List Value} {G : List Nat} (h : w.ownsRow base e size v n xs) (k : Off G w w') (hg : ∀ b, v.ownBlock = some b → b ∉ G) : w'.ownsRow base e size v n xs := by
  refine ⟨h.1, ?_⟩
  rcases h.2 with h0 | ⟨g, cap, cur, hv, hb, hh, rest⟩
  · exact .inl h0
  · refine .inr ⟨g, cap, cur, hv, hb, ?_, rest⟩
    have hlt : g < w.heap.size := by
      by_cases hx : g < w.heap.size
      · exact hx
      · rw [Array.getElem?_eq_none (by omega)] at hh; cases hh
    rw [k.block g hlt (hg g (by rw [hv]; rfl))]; exact hh
theorem RD.off {w w' : World} {d : Nat} {ts : List (ByteArray × Int)} {xs : List (Desk.Ent × Nat × Nat)} {given now : Int} {F G : List Nat} (h : RD w d ts xs given now F) (k : Off G w w') (hF : ∀ x ∈ F, x ∉ G) (hS : ∀ x ∈ xs, x.2.1 ∉ G) : RD w' d ts xs given now F := by
  have hd : d ∉ G := hF d h.dF
  obtain ⟨v1, a1, a2, a3⟩ := h.tv
  obtain ⟨v2, b1, b2, b3⟩ := h.ev
  exact ⟨⟨v1, k.cell hd a1, ownOff a2 k (fun b hb => hF b (a3 b hb).1), a3⟩, ⟨v2, k.cell hd b1, ownOff b2 k (fun b hb => hF b (b3 b hb).1), b3⟩, k.cell hd h.c2, k.cell hd h.c3,
    fun o => (k.frozen hd (World.block_lt_of_cell? _ _ h.c2)).trans (h.fz o), h.dF, fun x hx => ⟨(h.sp x hx).1.off k (hS x hx), (h.sp x hx).2.1, Nat.lt_of_lt_of_le (h.sp x hx).2.2 k.size⟩⟩
theorem RD.later {w w' : World} {d : Nat} {ts : List (ByteArray × Int)} {xs : List (Desk.Ent × Nat × Nat)} {given now : Int} {F : List Nat} (h : RD w d ts xs given now F) (k : Below w.heap.size w w') : RD w' d ts xs given now F := h.off (G := []) (Off.of_below k) (by simp) (by simp)

end Go.Proofs.YtjfkfiffakbagaaGreatDoor


/-
  Package ends: remove, Put, TakeBy.
-/
namespace Go.Proofs.YtjfkfiffakbagaaGreatDoor
open Go.RowKit

/-- What the methods leave: the items l' at that cell; their block is that of the items or new; the rest of the block is as it was. -/
def EndPost (w : World) (d o : Nat) (v : Value) (l' : List Hp.Hi) (w' : World) : Prop :=
  ∃ v', HP w' d o v' l' ∧ (∀ b, v'.ownBlock = some b → v.ownBlock = some b ∨ w.heap.size ≤ b) ∧ Off (d :: v.ownBlock.toList) w w' ∧ (∀ o', o' ≠ o → w'.cell? ⟨d, o', none⟩ = w.cell? ⟨d, o', none⟩) ∧ ∀ o', w'.frozen? ⟨d, o', none⟩ = w.frozen? ⟨d, o', none⟩

theorem flatH_last {m : List Hp.Hi} {n : Nat} (h : m.length = n + 1) (a b c : Value) : (((m.flatMap hiVL).set (n * 3) a).set (n * 3 + 1) b).set (n * 3 + 2) c = (m.take n).flatMap hiVL ++ [a, b, c] := by
  have hn : n < m.length := by omega
  have hlen : ((m.take n).flatMap hiVL).length = n * 3 := by rw [flatH_len, List.length_take_of_le (by omega)]
  conv => lhs; rw [flatH_split hn, List.flatMap_append, List.flatMap_cons]
  rw [List.set_append_right _ _ (by omega), List.set_append_right _ _ (by omega), List.set_append_right _ _ (by omega), hlen]
  rw [show n * 3 - n * 3 = 0 from by omega, show n * 3 + 1 - n * 3 = 1 from by omega, show n * 3 + 2 - n * 3 = 2 from by omega]
  have e : m.drop (n + 1) = [] := List.drop_eq_nil_of_le (by omega)
  simp [hiVL, e]

/-- The world in which the place's item is the last one, and the last one is cleared. -/
def cleared (w : World) (H p n : Nat) (x : Hp.Hi) : World :=
  (((((w.setCell ⟨H, p * 3, none⟩ (.int .i64 x.t)).setCell ⟨H, p * 3 + 1, none⟩ (.int .i64 x.n)).setCell ⟨H, p * 3 + 2, none⟩ (.pointer (some ⟨x.v, 0, none⟩))).setCell ⟨H, n * 3, none⟩ (.int .i64 0)).setCell ⟨H, n * 3 + 1, none⟩ (.int .i64 0)).setCell ⟨H, n * 3 + 2, none⟩ (.pointer none)
theorem cleared_off (w : World) (H p n : Nat) (x : Hp.Hi) : Off [H] w (cleared w H p n x) := (set3_off _ _ _ _ _ _ _ _).trans (set3_off _ _ _ _ _ _ _ _)
theorem HP.cleared {w : World} {d o H cap n p : Nat} {l : List Hp.Hi} (h : HP w d o (.slice (some ⟨H, 0, none⟩) l.length cap) l) (hn : l.length = n + 1) (hp : p < l.length) :
    HP ((cleared w H p n (Hp.at_ l n)).setCell ⟨d, o, none⟩ (.slice (some ⟨H, 0, none⟩) n cap)) d o (.slice (some ⟨H, 0, none⟩) (Hp.cut l p).length cap) (Hp.cut l p) := by
  have hne : d ≠ H := fun e => h.ne (by rw [e]; rfl)
  have k := cleared_off w H p n (Hp.at_ l n)
  have c1 := k.cell (by simpa using hne) h.c
  have a := h.put hp (Hp.at_ l n)
  have e : Hp.cut l p = (l.set p (Hp.at_ l n)).take n := by unfold Hp.cut; rw [hn]; rfl
  have el : (Hp.cut l p).length = n := by rw [Hp.cut_len, hn]; rfl
  have hm : (l.set p (Hp.at_ l n)).length = n + 1 := by simpa using hn
  have b := (((a.own.stored (n * 3) (.int .i64 0)).1.stored (n * 3 + 1) (.int .i64 0)).1.stored (n * 3 + 2) (.pointer none)).1
  rw [flatH_last hm, hm, ← e] at b
  have b2 := ownsRow_pop (by rw [flatH_len, el]) b
  refine ⟨?_, ?_, h.ne, ?_⟩
  · rw [el]; exact World.cell?_setCell_same _ _ _ c1
  · rw [el]
    exact ownOff b2 (Off.set0 d _ o _) (fun x hx => by simp; rintro rfl; exact hne (by simpa [Value.ownBlock] using hx.symm))
  · exact (World.frozen?_setCell ..).trans ((k.frozen (by simpa using hne) (World.block_lt_of_cell? _ _ h.c)).trans h.fz)

/-- An EndPost out of a row in the same block, turned behind. -/
theorem EndPost.of {w w1 w2 : World} {d o H cap : Nat} {v : Value} {l1 l' : List Hp.Hi} (hv : v.ownBlock = some H) (hd : d < w.heap.size) (hne : d ≠ H) (h1 : Off [d, H] w w1) (hc : ∀ o', o' ≠ o → w1.cell? ⟨d, o', none⟩ = w.cell? ⟨d, o', none⟩) (hf : ∀ o', w1.frozen? ⟨d, o', none⟩ = w.frozen? ⟨d, o', none⟩) (h2 : Turned w1 w2 d o H l1.length cap l1 l') : EndPost w d o v l' w2 := by
  have hb : w2.heap[d]? = w1.heap[d]? := h2.off.block d (Nat.lt_of_lt_of_le hd h1.size) (by simpa using hne)
  refine ⟨_, h2.hp, fun b hb => .inl (by rw [hv]; exact hb), ?_, fun o' ho => (World.cell?_of_block hb).trans (hc o' ho), fun o' => ?_⟩
  · rw [hv]
    exact h1.trans' h2.off (fun x hx => .inl (by simp at hx; simp [hx]))
  · exact (World.frozen?_of_block hb).trans (hf o')

set_option maxRecDepth 100000 in
set_option maxHeartbeats 2000000 in
theorem remove_any (d o : Nat) (v : Value) (l : List Hp.Hi) (p : Nat) (w : World) (h : HP w d o v l) (hh : Hp.Heap l) (hp : p < l.length) (hl : l.length ≤ 1000) :
    Calls Tryz.prog 196 #[.pointer (some ⟨d, o, none⟩), .int .i64 p] w fun e w' => e = .returned (.tuple #[]) ∧ ∃ l', EndPost w d o v l' w' ∧ Hp.Heap l' ∧ l.Perm (Hp.at_ l p :: l') := by
  obtain ⟨H, cap, rfl⟩ := h.form (by omega)
  obtain ⟨n, hn⟩ : ∃ n, l.length = n + 1 := ⟨l.length - 1, by omega⟩
  have c := h.c
  have hne : d ≠ H := fun e => h.ne (by rw [e]; rfl)
  obtain ⟨a0, a1, a2⟩ := h.at hp
  obtain ⟨b0, b1, b2⟩ := h.at (i := n) (by omega)
  have fz : ∀ k, w.frozen? ⟨H, k, none⟩ = false := fun k => h.own.frozenAt k
  have fd := h.fz
  have CL := hidp (h.cleared hn hp)
  have e0 := (h.put hp (Hp.at_ l n)).at (i := n) (by simp; omega)
  have ee : Hp.at_ (l.set p (Hp.at_ l n)) n = Hp.at_ l n := by rw [Hp.at_set]; split <;> rfl
  rw [ee] at e0
  obtain ⟨y0, y1, y2⟩ := e0
  clear ee
  have i1 : (p : Int) < (l.length : Int) := by omega
  have HH := hidp h
  clear h
  rw [hn] at c i1
  generalize hx : Hp.at_ l n = x at *
  go_enter Tryz.func196, Tryz.ntmps196
  go_upto_region 1 with fail
  go_big_region
  have o1 : Off [H] w (((w.setCell ⟨H, p * 3, none⟩ (.int .i64 x.t)).setCell ⟨H, p * 3 + 1, none⟩ (.int .i64 x.n)).setCell ⟨H, p * 3 + 2, none⟩ (.pointer (some ⟨x.v, 0, none⟩))) := set3_off _ _ _ _ _ _ _ _
  have c1 := o1.cell (by simpa using hne) c
  have fd1 := (o1.frozen (o := o) (by simpa using hne) (World.block_lt_of_cell? _ _ c)).trans fd
  have fz1 : ∀ k, (((w.setCell ⟨H, p * 3, none⟩ (.int .i64 x.t)).setCell ⟨H, p * 3 + 1, none⟩ (.int .i64 x.n)).setCell ⟨H, p * 3 + 2, none⟩ (.pointer (some ⟨x.v, 0, none⟩))).frozen? ⟨H, k, none⟩ = false := fun k => by simp [World.frozen?_setCell, fz]
  unfold cleared at CL
  generalize hX : (((w.setCell ⟨H, p * 3, none⟩ (.int .i64 x.t)).setCell ⟨H, p * 3 + 1, none⟩ (.int .i64 x.n)).setCell ⟨H, p * 3 + 2, none⟩ (.pointer (some ⟨x.v, 0, none⟩))) = X at *
  clear hX
  have o2 := set3_off X H (n * 3) (n * 3 + 1) (n * 3 + 2) (.int .i64 0) (.int .i64 0) (.pointer none)
  have c2 := o2.cell (by simpa using hne) c1
  have fd2 := (o2.frozen (o := o) (by simpa using hne) (World.block_lt_of_cell? _ _ c1)).trans fd1
  go_upto_region 3 with fail
  generalize hY : ((X.setCell ⟨H, n * 3, none⟩ (.int .i64 0)).setCell ⟨H, n * 3 + 1, none⟩ (.int .i64 0)).setCell ⟨H, n * 3 + 2, none⟩ (.pointer none) = Y at *
  clear hY
  have hcap : n + 1 ≤ cap := by
    have h := HH.out.own.2
    rcases h with ⟨h0, _⟩ | ⟨g, cap', cur, hv, _, _, h1, _⟩
    · cases h0
    · cases hv; omega
  have hcap2 : (n : Int) ≤ (cap : Int) := by omega
  have oo : Off [d, H] w (Y.setCell ⟨d, o, none⟩ (.slice (some ⟨H, 0, none⟩) n cap)) := ((o1.trans o2).mono (by simp)).setCell (.inl (by simp)) _ _
  have hdl : d < w.heap.size := World.block_lt_of_cell? _ _ c
  have hcc : ∀ o', o' ≠ o → (Y.setCell ⟨d, o, none⟩ (.slice (some ⟨H, 0, none⟩) n cap)).cell? ⟨d, o', none⟩ = w.cell? ⟨d, o', none⟩ := fun o' ho =>
    (World.cell?_setCell_other _ _ _ _ (by have := ho; simp)).trans (World.cell?_of_block ((o1.trans o2).block d hdl (by simpa using hne)))
  have hff : ∀ o', (Y.setCell ⟨d, o, none⟩ (.slice (some ⟨H, 0, none⟩) n cap)).frozen? ⟨d, o', none⟩ = w.frozen? ⟨d, o', none⟩ := fun o' =>
    (World.frozen?_setCell ..).trans (World.frozen?_of_block ((o1.trans o2).block d hdl (by simpa using hne)))
  have OO := hidp (And.intro oo (And.intro hcc hff))
  have el : (Hp.cut l p).length = n := by rw [Hp.cut_len, hn]; rfl
  clear oo hcc hff o1 o2 c c1 a0 a1 a2 b0 b1 b2 y0 y1 y2 fz fz1 fd fd1
  by_cases hlt : p < n
  · have hlt' : (p : Int) < (n : Int) := by omega
    go_upto_region 5 with fail
    generalize hZ : Y.setCell ⟨d, o, none⟩ (.slice (some ⟨H, 0, none⟩) n cap) = Z at *
    have SK := hidp (sink_any d o H cap (Hp.cut l p) p Z.drew (CL.out.off (G := []) (Off.refl _ _).drew (by simp) (by simp)) (by omega) (Hp.cut_sink hh (by omega)) (by omega))
    clear hZ hcap hcap2 c2 fd2
    go_wp2_with fail
    refine SK.out.mono ?_
    rintro e w4 ⟨rfl, l2, t2, r2⟩
    have T2 := hidp t2
    have hl2 := t2.len
    have RS := hidp (rise_any d o H cap l2 p w4 (by rw [hl2]; exact t2.hp) (by omega) r2 (by omega))
    clear t2 r2 SK
    go_wp2_with fail
    refine RS.out.mono ?_
    rintro e w5 ⟨rfl, l3, t3, r3⟩
    have HF : Hid (∃ l', EndPost w d o (.slice (some ⟨H, 0, none⟩) l.length cap) l' w5 ∧ Hp.Heap l' ∧ l.Perm (Hp.at_ l p :: l')) := by
      refine ⟨l3, EndPost.of (l1 := Hp.cut l p) rfl hdl hne OO.out.1 OO.out.2.1 OO.out.2.2 ⟨by rw [el, ← el, ← hl2]; exact t3.hp, by rw [t3.len, hl2], t3.perm.trans T2.out.perm, ((Off.refl [H] Z).drew).trans (T2.out.off.trans t3.off)⟩, r3, ?_⟩
      exact (Hp.cut_perm hp).trans ((t3.perm.trans T2.out.perm).symm.cons _)
    clear t3 r3 T2 RS
    go_wp2_with fail
    go_end0
    exact ⟨rfl, HF.out⟩
  · have hlt' : ¬ ((p : Int) < (n : Int)) := by omega
    have hpn : p = n := by omega
    have HF : Hid (∃ l', EndPost w d o (.slice (some ⟨H, 0, none⟩) l.length cap) l' (Y.setCell ⟨d, o, none⟩ (.slice (some ⟨H, 0, none⟩) n cap)).drew ∧ Hp.Heap l' ∧ l.Perm (Hp.at_ l p :: l')) := by
      refine ⟨Hp.cut l p, EndPost.of (l1 := Hp.cut l p) rfl hdl hne OO.out.1 OO.out.2.1 OO.out.2.2 ⟨CL.out.off (G := []) (Off.refl _ _).drew (by simp) (by simp), rfl, .refl _, (Off.refl _ _).drew⟩, ?_, Hp.cut_perm hp⟩
      rw [hpn, show n = l.length - 1 by omega]
      exact Hp.cut_last hh
    clear CL OO hn hx hpn el
    go_wp2_with fail
    go_end0
    exact ⟨rfl, HF.out⟩


set_option maxRecDepth 100000 in
set_option maxHeartbeats 2000000 in
theorem takeBy_any (d o : Nat) (v : Value) (l : List Hp.Hi) (t : Int) (w : World) (h : HP w d o v l) (hh : Hp.Heap l) (hl : l.length ≤ 1000) :
    Calls Tryz.prog 210 #[.pointer (some ⟨d, o, none⟩), .int .i64 t] w fun e w' =>
      ((l.length = 0 ∨ t < (Hp.at_ l 0).t) ∧ e = .returned (.tuple #[.pointer none, .bool false]) ∧ w' = w) ∨
      ((0 < l.length ∧ (Hp.at_ l 0).t ≤ t) ∧ e = .returned (.tuple #[.pointer (some ⟨(Hp.at_ l 0).v, 0, none⟩), .bool true]) ∧ ∃ l', EndPost w d o v l' w' ∧ Hp.Heap l' ∧ l.Perm (Hp.at_ l 0 :: l')) := by
  have FI := hidp (hFirst_any d o v l w h)
  by_cases h0 : l.length = 0
  · have e1 : hAny l = false := by simp [hAny, h0]
    rw [e1] at FI
    have HH : Hid (l.length = 0 ∨ t < (Hp.at_ l 0).t) := .inl h0
    clear h e1 h0
    go_enter Tryz.func210, Tryz.ntmps210
    go_wp2_with fail
    refine FI.out.mono ?_
    rintro e w1 ⟨rfl, rfl⟩
    go_wp2_with fail
    go_ret2
    exact .inl ⟨HH.out, rfl, rfl⟩
  · have hp : 0 < l.length := by omega
    rw [hAny_pos hp, hTop_pos hp] at FI
    by_cases ht : t < (Hp.at_ l 0).t
    · have HH : Hid (l.length = 0 ∨ t < (Hp.at_ l 0).t) := .inr ht
      clear h h0
      go_enter Tryz.func210, Tryz.ntmps210
      go_wp2_with fail
      refine FI.out.mono ?_
      rintro e w1 ⟨rfl, rfl⟩
      go_wp2_with fail
      go_ret2
      exact .inl ⟨HH.out, rfl, rfl⟩
    · obtain ⟨H, cap, rfl⟩ := h.form hp
      have c := h.c
      obtain ⟨a0, a1, a2⟩ := h.at hp
      simp only [Nat.zero_mul, Nat.zero_add] at a0 a1 a2
      have RM := hidp (remove_any d o _ l 0 w h hh hp hl)
      have HH : Hid (0 < l.length ∧ (Hp.at_ l 0).t ≤ t) := ⟨hp, by omega⟩
      have hi : (0 : Int) < (l.length : Int) := by omega
      clear h h0
      go_enter Tryz.func210, Tryz.ntmps210
      go_wp2_with fail
      refine FI.out.mono ?_
      rintro e w1 ⟨rfl, rfl⟩
      go_wp2_with fail
      refine RM.out.mono ?_
      rintro e w2 ⟨rfl, k⟩
      have K := hidp k
      clear k RM FI
      go_wp2_with fail
      go_ret2
      exact .inr ⟨HH.out, rfl, K.out⟩

end Go.Proofs.YtjfkfiffakbagaaGreatDoor


/-
  The document's desk: joins.
-/
namespace Go.Proofs.YtjfkfiffakbagaaGreatDoor
open Go.RowKit

theorem RD.set2 {w : World} {d : Nat} {ts : List (ByteArray × Int)} {xs : List (Desk.Ent × Nat × Nat)} {given now : Int} {F : List Nat} (h : RD w d ts xs given now F) (g : Int) : RD (w.setCell ⟨d, 2, none⟩ (.int .i64 g)) d ts xs g now F := by
  obtain ⟨v1, a1, a2, a3⟩ := h.tv
  obtain ⟨v2, b1, b2, b3⟩ := h.ev
  have k : Off [d] w (w.setCell ⟨d, 2, none⟩ (.int .i64 g)) := Off.set0 ..
  exact ⟨⟨v1, (World.cell?_setCell_other _ _ _ _ (by simp)).trans a1, ownOff a2 k (fun b hb => by simpa using (a3 b hb).2), a3⟩, ⟨v2, (World.cell?_setCell_other _ _ _ _ (by simp)).trans b1, ownOff b2 k (fun b hb => by simpa using (b3 b hb).2), b3⟩, World.cell?_setCell_same _ _ _ h.c2, (World.cell?_setCell_other _ _ _ _ (by simp)).trans h.c3,
    fun o => (World.frozen?_setCell ..).trans (h.fz o), h.dF, fun x hx => ⟨(h.sp x hx).1.off k (by simp; intro e; exact (h.sp x hx).2.1 (e ▸ h.dF)), (h.sp x hx).2.1, Nat.lt_of_lt_of_le (h.sp x hx).2.2 k.size⟩⟩
theorem Off.grown {F : List Nat} {w w' w'' : World} {row : Option Nat} (h : Off F w w') (g : w'.grownBy w'' row) (hr : ∀ k, row = some k → k ∈ F ∨ w.heap.size ≤ k) : Off F w w'' :=
  ⟨g.os.trans h.os, g.tape.trans h.tape, g.output.trans h.output, Nat.le_trans h.size g.size, fun k hk hF => (g.block k (Nat.lt_of_lt_of_le hk h.size) (fun e => by rcases hr k e.symm with h1 | h1; exact hF h1; omega)).trans (h.block k hk hF)⟩
/-- One entry more has been appended, and the new row is set. -/
theorem RD.joined {Y w5 : World} {d : Nat} {ts : List (ByteArray × Int)} {xs : List (Desk.Ent × Nat × Nat)} {given now : Int} {F : List Nat} {v : Value} {g cap : Nat} {x : Desk.Ent × Nat × Nat} (h : RD Y d ts xs given now F) (cv : Y.cell? ⟨d, 1, none⟩ = some v) (ho : Y.ownsRow 0 58 6 v xs.length (xs.flatMap entVL)) (hvF : ∀ k, v.ownBlock = some k → k ∈ F ∧ k ≠ d) (k : Off (v.ownBlock.toList) Y w5) (ho5 : w5.ownsRow 0 58 6 (.slice (some ⟨g, 0, none⟩) (xs.length + 1) cap) (xs.length + 1) (xs.flatMap entVL ++ entVL x)) (hg : v.ownBlock = some g ∨ Y.heap.size ≤ g) (hx : RSL Y x.2.1 x.1.spans) (hxF : x.2.1 ∉ F) (hxl : x.2.1 < Y.heap.size) :
    RD (w5.setCell ⟨d, 1, none⟩ (.slice (some ⟨g, 0, none⟩) (xs.length + 1) cap)) d ts (xs ++ [x]) given now (g :: F) ∧ Off (d :: v.ownBlock.toList) Y (w5.setCell ⟨d, 1, none⟩ (.slice (some ⟨g, 0, none⟩) (xs.length + 1) cap)) := by
  obtain ⟨v1, a1, a2, a3⟩ := h.tv
  have hdl := World.block_lt_of_cell? _ _ h.c2
  have hdl : d < Y.heap.size := hdl
  have hgd : g ≠ d := by
    rcases hg with e | e
    · exact (hvF g e).2
    · omega
  have hdv : d ∉ v.ownBlock.toList := by
    intro e
    have : v.ownBlock = some d := by simpa using e
    exact (hvF d this).2 rfl
  have hv1 : ∀ b, v1.ownBlock = some b → b ∉ d :: v.ownBlock.toList := by
    intro b hb e
    rcases List.mem_cons.1 e with e | e
    · exact (a3 b hb).2 e
    · have e : v.ownBlock = some b := by simpa using e
      rcases ho.2 with ⟨rfl, _⟩ | ⟨g', cap', cur, rfl, _, hh, _⟩
      · simp [Value.ownBlock] at e
      · simp [Value.ownBlock] at e
        subst e
        exact ownOther a2 hh (by decide) hb
  have hF1 : ∀ y, y ∉ F → y ∉ d :: v.ownBlock.toList := by
    intro y hy e
    rcases List.mem_cons.1 e with rfl | e
    · exact hy h.dF
    · exact hy (hvF y (by simpa using e)).1
  have k1 : Off (d :: v.ownBlock.toList) Y (w5.setCell ⟨d, 1, none⟩ (.slice (some ⟨g, 0, none⟩) (xs.length + 1) cap)) := (k.mono (by intro y hy; exact List.mem_cons_of_mem _ hy)).setCell (.inl (by simp)) _ _
  have ksp : ∀ y ∈ xs ++ [x], RSL Y y.2.1 y.1.spans ∧ y.2.1 ∉ F ∧ y.2.1 < Y.heap.size := by
    intro y hy
    rcases List.mem_append.1 hy with hy | hy
    · exact h.sp y hy
    · have : y = x := by simpa using hy
      subst this
      exact ⟨hx, hxF, hxl⟩
  have cd : ∀ o u, Y.cell? ⟨d, o, none⟩ = some u → o ≠ 1 → (w5.setCell ⟨d, 1, none⟩ (.slice (some ⟨g, 0, none⟩) (xs.length + 1) cap)).cell? ⟨d, o, none⟩ = some u := by
    intro o u hu ho1
    exact (World.cell?_setCell_other _ _ _ _ (by simp)).trans (k.cell hdv hu)
  refine ⟨⟨⟨v1, cd 0 _ a1 (by omega), ownOff a2 k1 hv1, fun b hb => ⟨List.mem_cons_of_mem _ (a3 b hb).1, (a3 b hb).2⟩⟩, ⟨_, World.cell?_setCell_same _ _ _ (k.cell hdv cv), ?_, ?_⟩, cd 2 _ h.c2 (by omega), cd 3 _ h.c3 (by omega), fun o => (World.frozen?_setCell ..).trans ((k.frozen hdv hdl).trans (h.fz o)), List.mem_cons_of_mem _ h.dF, ?_⟩, k1⟩
  · rw [List.flatMap_append, List.length_append]
    have e1 : ([x].flatMap entVL) = entVL x := by simp
    rw [e1]
    exact ownOff ho5 (Off.set0 ..) (fun b hb => by simp [Value.ownBlock] at hb; subst hb; simpa using hgd)
  · intro b hb
    simp [Value.ownBlock] at hb
    subst hb
    exact ⟨by simp, hgd⟩
  · intro y hy
    obtain ⟨y1, y2, y3⟩ := ksp y hy
    refine ⟨y1.off k1 (hF1 _ y2), fun e => ?_, Nat.lt_of_lt_of_le y3 k1.size⟩
    rcases List.mem_cons.1 e with e | e
    · rcases hg with e2 | e2
      · exact y2 (e ▸ (hvF g e2).1)
      · omega
    · exact y2 e

end Go.Proofs.YtjfkfiffakbagaaGreatDoor


/-
  Package ends: Put.
-/
namespace Go.Proofs.YtjfkfiffakbagaaGreatDoor
open Go.RowKit

theorem infoItem : (Tryz.prog.info? 278).map (fun i => (i.zero, i.size, i.bytes)) = some (some (.agg #[.int .i64 0, .int .i64 0, .pointer none]), 3, 24) := by kernel_rfl

set_option maxRecDepth 100000 in
set_option maxHeartbeats 2000000 in
theorem hPut_any (d o : Nat) (v : Value) (l : List Hp.Hi) (x : Hp.Hi) (w : World) (h : HP w d o v l) (hh : Hp.Heap l) (hl : l.length ≤ 900) :
    Calls Tryz.prog 190 #[.pointer (some ⟨d, o, none⟩), .int .i64 x.t, .int .i64 x.n, .pointer (some ⟨x.v, 0, none⟩)] w fun e w' => e = .returned (.tuple #[]) ∧ ∃ l', EndPost w d o v l' w' ∧ Hp.Heap l' ∧ l'.Perm (l ++ [x]) := by
  obtain ⟨i0, hi0, hz0, hz1, hz2⟩ := info_parts infoItem
  have c := h.c
  have fd := h.fz
  have H := hidp h
  clear h
  go_enter Tryz.func190, Tryz.ntmps190
  have hdl : d < w.heap.size := World.block_lt_of_cell? _ _ c
  have hdv : d ∉ v.ownBlock.toList := by intro e; exact H.out.ne (by simpa using e)
  go_wp2_with (first
    | (at_builtin; refine wpList_append_lies _ rfl _ _ 128 rfl 0 278 i0 _ 3 24 Tryz.underlying128 hi0 hz0 hz1 hz2 rfl (by decide) _ _ _ rfl (H.out.own.alloc _) ⟨w.heap.size, 0, none⟩ 1 1 (hiVL x) rfl rfl (World.news_of_block (cs := (hiVL x).toArray) (heapNew w _)) (by simp [hiVL, Value.oneCell']) (by omega) (by unfold maxLen; omega) (by omega) (by simp) (w.heap.size + 1) (by simp) ?_; intro g cap w1 hown hgrow hat hlt; have kk : Off (v.ownBlock.toList) w w1 := Off.grown ((Off.refl _ w).alloc _) hgrow (fun k hk => .inl (Option.mem_toList.2 hk)); have z1 := kk.cell hdv c; have z2 := (kk.frozen (o := o) hdv hdl).trans fd; clear hgrow))
  have hgd : d ≠ g := by
    rcases hat with e | e
    · rintro rfl; exact H.out.ne e
    · omega
  have hz : HP (w1.setCell ⟨d, o, none⟩ (.slice (some ⟨g, 0, none⟩) (l.length + 1) cap)) d o (.slice (some ⟨g, 0, none⟩) (l ++ [x]).length cap) (l ++ [x]) := by
    have el : (l ++ [x]).length = l.length + 1 := by simp
    rw [el]
    refine ⟨World.cell?_setCell_same _ _ _ z1, ?_, fun e => hgd (by simpa [Value.ownBlock] using e.symm), (World.frozen?_setCell ..).trans z2⟩
    rw [el, List.flatMap_append]
    have e2 : [x].flatMap hiVL = hiVL x := by simp
    rw [e2]
    exact ownOff hown (Off.set0 d _ o _) (fun b hb => by simp; rintro rfl; exact hgd (by simpa [Value.ownBlock] using hb.symm))
  have RS := hidp (rise_any d o g cap (l ++ [x]) l.length _ hz (by simp) (Hp.rise_new hh) (by simp; omega))
  have KK := hidp (And.intro kk hat)
  clear hz hown kk hat z1 z2 fd c
  refine RS.out.mono ?_
  rintro e w5 ⟨rfl, l', t', r'⟩
  have HF : Hid (∃ l', EndPost w d o v l' w5 ∧ Hp.Heap l' ∧ l'.Perm (l ++ [x])) := by
    refine ⟨l', ⟨_, t'.hp, fun b hb => ?_, ?_, fun o' ho => ?_, fun o' => ?_⟩, r', t'.perm⟩
    · have : g = b := by simpa [Value.ownBlock] using hb
      subst this
      rcases KK.out.2 with e | e
      · exact .inl e
      · exact .inr (by omega)
    · refine ((KK.out.1.mono (by simp +contextual)).setCell (.inl (by simp)) o _).trans' t'.off (fun k hk => ?_)
      have : k = g := by simpa using hk
      subst this
      rcases KK.out.2 with e | e
      · exact .inl (List.mem_cons_of_mem _ (Option.mem_toList.2 e))
      · exact .inr (by omega)
    · have b5 := t'.off.block d (by have := KK.out.1.size; simp; omega) (by simpa using hgd)
      exact (World.cell?_of_block b5).trans ((World.cell?_setCell_other _ _ _ _ (by have := ho; simp)).trans (World.cell?_of_block (KK.out.1.block d hdl hdv)))
    · have b5 := t'.off.block d (by have := KK.out.1.size; simp; omega) (by simpa using hgd)
      exact (World.frozen?_of_block b5).trans ((World.frozen?_setCell ..).trans (World.frozen?_of_block (KK.out.1.block d hdl hdv)))
  clear RS KK t' r'
  go_wp2_with fail
  go_end0
  exact ⟨rfl, HF.out⟩

end Go.Proofs.YtjfkfiffakbagaaGreatDoor


/-
  Package ends: Drop.
-/
namespace Go.Proofs.YtjfkfiffakbagaaGreatDoor
open Go.RowKit

/-- The first place at which p holds; -1: there is none. -/
def idxB {α : Type} (p : α → Bool) : List α → Int → Int
  | [], _ => -1
  | x :: r, i => if p x then i else idxB p r (i + 1)
theorem idxB_is {α : Type} (p : α → Bool) : ∀ (l : List α) (i : Int), (idxB p l i = -1 ∧ ∀ x ∈ l, p x = false) ∨ ∃ (k : Nat) (h : k < l.length), idxB p l i = i + k ∧ p l[k] = true ∧ ∀ (j : Nat) (hj : j < k), p (l[j]'(by omega)) = false
  | [], i => .inl ⟨rfl, fun x hx => by simp at hx⟩
  | x :: r, i => by
    cases hp : p x
    · rcases idxB_is p r (i + 1) with ⟨h1, h2⟩ | ⟨k, h, h1, h2, h3⟩
      · exact .inl ⟨by simp [idxB, hp, h1], fun y hy => by rcases List.mem_cons.1 hy with rfl | hy; exact hp; exact h2 y hy⟩
      · refine .inr ⟨k + 1, by simp; omega, by simp [idxB, hp, h1]; omega, by simpa using h2, fun j hj => ?_⟩
        cases j with
        | zero => simpa using hp
        | succ j => simpa using h3 j (by omega)
    · exact .inr ⟨0, by simp, by simp [idxB, hp], by simpa using hp, fun j hj => by omega⟩
theorem idxB_bd {α : Type} (p : α → Bool) (l : List α) : -1 ≤ idxB p l 0 ∧ idxB p l 0 < l.length := by
  rcases idxB_is p l 0 with ⟨h, _⟩ | ⟨k, h, e, _⟩
  · omega
  · omega

theorem EndPost.from {w w1 w2 : World} {d o : Nat} {v : Value} {l' : List Hp.Hi} (h : EndPost w1 d o v l' w2) (k : Below w.heap.size w w1) (hd : d < w.heap.size) : EndPost w d o v l' w2 := by
  obtain ⟨v', h1, h2, h3, h4, h5⟩ := h
  refine ⟨v', h1, fun b hb => (h2 b hb).imp id (fun e => Nat.le_trans k.size e), (Off.of_below k).trans h3, fun o' ho => (h4 o' ho).trans (World.cell?_of_block (k.block d hd)), fun o' => (h5 o').trans (World.frozen?_of_block (k.block d hd))⟩

set_option maxRecDepth 100000 in
set_option maxHeartbeats 1000000 in
theorem drop1_any (x : Hp.Hi) (t n : Int) (A B : Nat) (w : World) (ca : w.cell? ⟨A, 0, none⟩ = some (.int .i64 t)) (cb : w.cell? ⟨B, 0, none⟩ = some (.int .i64 n)) :
    Calls Tryz.prog 194 #[.agg #[.int .i64 x.t, .int .i64 x.n, .pointer (some ⟨x.v, 0, none⟩)], .pointer (some ⟨A, 0, none⟩), .pointer (some ⟨B, 0, none⟩)] w fun e w' => e = .returned (.bool (hcmp x t n == 0)) ∧ Below w.heap.size w w' := by
  have CM := hidp (fun w' => icompare_any x t n w')
  have hX : Below w.heap.size w (w.alloc (.cells #[.int .i64 x.t, .int .i64 x.n, .pointer (some ⟨x.v, 0, none⟩)] 278)) := (Below.refl _ _).alloc (Nat.le_refl _) _
  have xa := cellLater hX ca
  have xb := cellLater hX cb
  have HX := hidp hX
  clear hX
  go_enter Tryz.func194, Tryz.ntmps194
  go_wp2_with fail
  refine (CM.out _).mono ?_
  rintro e w1 ⟨rfl, k1⟩
  have HK := hidp (blwMore HX.out k1 (Nat.le_refl _))
  clear k1 xa xb
  go_wp2_with fail
  go_ret
  exact ⟨rfl, HK.out⟩

set_option maxRecDepth 100000 in
set_option maxHeartbeats 1000000 in
theorem indexItem_any (l : List Hp.Hi) (t n : Int) (v : Value) (A B : Nat) (w : World) (own : w.ownsRow 0 278 3 v l.length (l.flatMap hiVL)) (ca : w.cell? ⟨A, 0, none⟩ = some (.int .i64 t)) (cb : w.cell? ⟨B, 0, none⟩ = some (.int .i64 n)) (hl : l.length ≤ 1000) :
    Calls Tryz.prog 193 #[v, .func (.func 194) #[] #[.pointer (some ⟨A, 0, none⟩), .pointer (some ⟨B, 0, none⟩)]] w fun e w' => e = .returned (.int .i64 (idxB (fun x => hcmp x t n == 0) l 0)) ∧ Below w.heap.size w w' := by
  have hv : ∃ a cap, v = .slice a l.length cap := by
    rcases own.2 with ⟨rfl, h⟩ | ⟨g, cap, _, rfl, _⟩
    · rw [h]; exact ⟨_, _, rfl⟩
    · exact ⟨_, _, rfl⟩
  obtain ⟨a, cap, rfl⟩ := hv
  have CAB := hidp (And.intro ca cb)
  have OWN := hidp own
  clear ca cb own
  go_enter Tryz.func193, Tryz.ntmps193
  go_wp2_with fail
  go_loopw [8] (fun i wx => ∃ k : Nat, k ≤ l.length ∧ i = .int .i64 k ∧ idxB (fun x => hcmp x t n == 0) l 0 = idxB (fun x => hcmp x t n == 0) (l.drop k) k ∧ Below w.heap.size w wx) (fun i _ => l.length - (intOf i).toNat)
  case atStart => exact ⟨0, Nat.zero_le _, rfl, rfl, Below.refl _ _⟩
  case round =>
    obtain ⟨k, hk, rfl, hu, hb⟩ := hrel
    have HU := hidp hu
    have HB := hidp hb
    by_cases hlt : k < l.length
    · have hi : (k : Int) < (l.length : Int) := by omega
      obtain ⟨H, cap', e1⟩ := Joins.ownsRow_form OWN.out (by omega)
      simp only [Value.slice.injEq, true_and] at e1
      obtain ⟨rfl, rfl⟩ := e1
      have ownr := ownLater OWN.out hb
      have a0 := (ownr.cellAt (k * 3) (by omega)).trans (flatH_at hlt (j := 0) (by omega))
      have a1 := (ownr.cellAt (k * 3 + 1) (by omega)).trans (flatH_at hlt (j := 1) (by omega))
      have a2 := (ownr.cellAt (k * 3 + 2) (by omega)).trans (flatH_at hlt (j := 2) (by omega))
      simp only [hiVL, List.getElem?_cons_zero, List.getElem?_cons_succ] at a0 a1 a2
      have D1 := hidp (drop1_any l[k] t n A B wr (cellLater hb CAB.out.1) (cellLater hb CAB.out.2))
      have ed : idxB (fun x => hcmp x t n == 0) (l.drop k) k = if hcmp l[k] t n == 0 then (k : Int) else idxB (fun x => hcmp x t n == 0) (l.drop (k + 1)) ((k + 1 : Nat) : Int) := by rw [List.drop_eq_getElem_cons hlt]; rfl
      have ED := hidp ed
      clear ed ownr hb hu
      cases hq : (hcmp l[k] t n == 0)
      · have HN : Hid (idxB (fun x => hcmp x t n == 0) l 0 = idxB (fun x => hcmp x t n == 0) (l.drop (k + 1)) ((k + 1 : Nat) : Int)) := by show _ = _; rw [HU.out, ED.out, hq]; rfl
        rw [hq] at D1
        clear hq
        go_wp2_with fail
        refine D1.out.mono ?_
        rintro e w1 ⟨rfl, k1⟩
        have HK := hidp (blwMore HB.out k1 (Nat.le_refl _))
        clear k1 a0 a1 a2 D1
        go_wp2_with fail
        go_roundw
        case rel => exact ⟨k + 1, by omega, by go_num, HN.out, HK.out⟩
        case measure => simp [intOf]; omega
      · have HN : Hid (idxB (fun x => hcmp x t n == 0) l 0 = k) := by show _ = _; rw [HU.out, ED.out, hq]; rfl
        rw [hq] at D1
        clear hq
        go_wp2_with fail
        refine D1.out.mono ?_
        rintro e w1 ⟨rfl, k1⟩
        have HK := hidp (blwMore HB.out k1 (Nat.le_refl _))
        clear k1 a0 a1 a2 D1
        go_wp2_with fail
        go_ret
        exact ⟨lret_int HN.out.symm, HK.out⟩
    · have hi : ¬ (k : Int) < (l.length : Int) := by omega
      have e : l.drop k = [] := List.drop_eq_nil_of_le (by omega)
      have HN : Hid (idxB (fun x => hcmp x t n == 0) l 0 = -1) := by show _ = _; rw [HU.out, e]; rfl
      clear hu hb e
      go_wp2_with fail
      go_ret
      exact ⟨lret_int HN.out.symm, HB.out⟩

set_option maxRecDepth 100000 in
set_option maxHeartbeats 1000000 in
theorem hDrop_any (d o : Nat) (v : Value) (l : List Hp.Hi) (t n : Int) (w : World) (h : HP w d o v l) (hh : Hp.Heap l) (hl : l.length ≤ 1000) :
    Calls Tryz.prog 146 #[.pointer (some ⟨d, o, none⟩), .int .i64 t, .int .i64 n] w fun e w' => e = .returned (.tuple #[]) ∧
      (((∀ x ∈ l, ¬ (x.t = t ∧ x.n = n)) ∧ Below w.heap.size w w') ∨ ∃ (x : Hp.Hi) (l' : List Hp.Hi), x.t = t ∧ x.n = n ∧ EndPost w d o v l' w' ∧ Hp.Heap l' ∧ l.Perm (x :: l')) := by
  have hX : Below w.heap.size w ((w.alloc (.cells #[.int .i64 t] 3)).alloc (.cells #[.int .i64 n] 3)) := ((Below.refl _ _).alloc (Nat.le_refl _) _).alloc (by simp) _
  have hx := h.later hX
  have c := hx.c
  have xa : ((w.alloc (.cells #[.int .i64 t] 3)).alloc (.cells #[.int .i64 n] 3)).cell? ⟨w.heap.size, 0, none⟩ = some (.int .i64 t) := by simp
  have xb : ((w.alloc (.cells #[.int .i64 t] 3)).alloc (.cells #[.int .i64 n] 3)).cell? ⟨w.heap.size + 1, 0, none⟩ = some (.int .i64 n) := by
    have := heapNew (w.alloc (.cells #[.int .i64 t] 3)) (.cells #[.int .i64 n] 3)
    rw [World.size_alloc] at this
    simp only [World.cell?, this]
    rfl
  have IX := hidp (indexItem_any l t n v w.heap.size (w.heap.size + 1) _ hx.own xa xb hl)
  have HX := hidp (And.intro hX hx)
  have hdl : d < w.heap.size := World.block_lt_of_cell? _ _ h.c
  have bd := idxB_bd (fun x => hcmp x t n == 0) l
  have hq := idxB_is (fun x => hcmp x t n == 0) l 0
  clear hX hx xa xb h
  generalize idxB (fun x => hcmp x t n == 0) l 0 = q at *
  have HQ := hidp hq
  clear hq
  go_enter Tryz.func146, Tryz.ntmps146
  go_wp2_with fail
  generalize ((w.alloc (.cells #[.int .i64 t] 3)).alloc (.cells #[.int .i64 n] 3)) = X at *
  refine IX.out.mono ?_
  rintro e w1 ⟨rfl, k1⟩
  have H1 := hidp (And.intro (blwMore HX.out.1 k1 (Nat.le_refl _)) (HX.out.2.later k1))
  clear k1 IX c HX
  by_cases h0 : 0 ≤ q
  · obtain ⟨k, hk, e1, e2, e3⟩ : ∃ (k : Nat) (h : k < l.length), q = k ∧ (hcmp l[k] t n == 0) = true ∧ True := by
      rcases HQ.out with ⟨h, _⟩ | ⟨k, h, e, e2, _⟩
      · omega
      · exact ⟨k, h, by omega, e2, trivial⟩
    subst e1
    have RM := hidp (remove_any d o v l k w1 H1.out.2 hh hk hl)
    have HE := hidp e2
    clear e2 e3 HQ
    go_wp2_with fail
    refine RM.out.mono ?_
    rintro e w2 ⟨rfl, l', p1, p2, p3⟩
    have HF : Hid (∃ (x : Hp.Hi) (l' : List Hp.Hi), x.t = t ∧ x.n = n ∧ EndPost w d o v l' w2 ∧ Hp.Heap l' ∧ l.Perm (x :: l')) := by
      have e2 : hcmp l[k] t n = 0 := by simpa using HE.out
      obtain ⟨q1, q2⟩ := (hcmp_zero _ _ _).1 e2
      refine ⟨Hp.at_ l k, l', by rw [Hp.at_get hk]; exact q1, by rw [Hp.at_get hk]; exact q2, p1.from H1.out.1 hdl, p2, p3⟩
    clear p1 p2 p3 RM
    go_wp2_with fail
    go_end0
    exact ⟨rfl, .inr HF.out⟩
  · have HF : Hid (∀ x ∈ l, ¬ (x.t = t ∧ x.n = n)) := by
      rcases HQ.out with ⟨_, h⟩ | ⟨k, h, e, _⟩
      · intro x hx e
        have := h x hx
        have e0 := (hcmp_zero x t n).2 e
        simp [e0] at this
      · omega
    clear HQ
    go_wp2_with fail
    go_end0
    exact ⟨rfl, .inl ⟨HF.out, H1.out.1⟩⟩

end Go.Proofs.YtjfkfiffakbagaaGreatDoor


/-
  A map whose elements are pointers to the beginnings of blocks: what it holds, as a function of the key; its look-up, store, delete and length.
-/
namespace Go.Proofs.YtjfkfiffakbagaaGreatDoor
open Go Go.Maps

def ptrV (o : Option Nat) : Value := .pointer (o.map fun b => ⟨b, 0, none⟩)
def ptrD (o : Option Nat) : DataW Unit := .lit (.int .i64 (match o with | none => -1 | some b => (b : Int)))
/-- How a pointer to the beginning of a block reads. -/
def ptrR : Value → Option (DataW Unit × List MemPlace)
  | .pointer none => some (ptrD none, [])
  | .pointer (some ⟨b, 0, none⟩) => some (ptrD (some b), [])
  | _ => none
theorem ptrR_mk (o : Option Nat) : ptrR (ptrV o) = some (ptrD o, []) := by cases o <;> rfl
theorem ptrD_inj {a b : Option Nat} (h : ptrD a = ptrD b) : a = b := by
  unfold ptrD at h
  cases a <;> cases b <;> simp at h ⊢ <;> omega
theorem ptrR_inv {v : Value} {o : Option Nat} {ps : List MemPlace} (h : ptrR v = some (ptrD o, ps)) : v = ptrV o := by
  unfold ptrR at h
  split at h
  · have e : ptrD none = ptrD o := congrArg Prod.fst (Option.some.inj h)
    have := ptrD_inj e
    subst this; rfl
  · rename_i b
    have e : ptrD (some b) = ptrD o := congrArg Prod.fst (Option.some.inj h)
    have := ptrD_inj e
    subst this; rfl
  · cases h

/-- What a map holds when one key has been turned. -/
noncomputable def upd (f : Lit → Option Nat) (kl : Lit) (o : Option Nat) (x : Lit) : Option Nat := @ite _ (x = kl) (Classical.propDecidable _) o (f x)
theorem upd_same (f : Lit → Option Nat) (kl : Lit) (o : Option Nat) : upd f kl o kl = o := if_pos rfl
theorem upd_other (f : Lit → Option Nat) {kl x : Lit} (o : Option Nat) (h : x ≠ kl) : upd f kl o x = f x := if_neg h

/-- Block b is a map that holds at each key what f says; so many of them. -/
def PMap (P : Program) (k : TypeId) (w : World) (b n : Nat) (f : Lit → Option Nat) (sz : Nat) : Prop :=
  ∃ D, w.ownsMap P k ptrR b n D ∧ Maps.size D = sz ∧ (∀ kl, D.atKey kl (ptrD none) = ptrD (f kl)) ∧ ∀ kl, Maps.has D kl = (f kl).isSome
theorem PMap.lt {P : Program} {k : TypeId} {w : World} {b n : Nat} {f : Lit → Option Nat} {sz : Nat} (h : PMap P k w b n f sz) : b < w.heap.size := by
  obtain ⟨D, h1, _⟩ := h; exact h1.lt
theorem PMap.block {P : Program} {k : TypeId} {w w' : World} {b n : Nat} {f : Lit → Option Nat} {sz : Nat} (h : PMap P k w b n f sz) (hb : w'.heap[b]? = w.heap[b]?) : PMap P k w' b n f sz := by
  obtain ⟨D, ⟨es, clock, h1, h2⟩, h3⟩ := h
  exact ⟨D, ⟨es, clock, hb.trans h1, h2⟩, h3⟩
theorem PMap.mono {P : Program} {k : TypeId} {w : World} {b n m : Nat} {f : Lit → Option Nat} {sz : Nat} (h : PMap P k w b n f sz) (hm : n ≤ m) : PMap P k w b m f sz := by
  obtain ⟨D, h1, h2⟩ := h
  exact ⟨D, h1.mono hm, h2⟩
theorem PMap.tight {P : Program} {k : TypeId} {w : World} {b n : Nat} {f : Lit → Option Nat} {sz : Nat} (h : PMap P k w b n f sz) : PMap P k w b sz f sz := by
  obtain ⟨D, ⟨es, clock, h1, h2, h3, h4⟩, h5, h6⟩ := h
  refine ⟨D, ⟨es, clock, h1, h2, ?_, h4⟩, h5, h6⟩
  rw [← h5, h4, Maps.size_eq, length_sorted]
  simp
theorem PMap.made (P : Program) (k : TypeId) (w : World) : PMap P k (w.alloc (.map #[] 0)) w.heap.size 0 (fun _ => none) 0 :=
  ⟨.map [], World.ownsMap_made w P k ptrR, rfl, fun _ => rfl, fun _ => rfl⟩
theorem PMap.look {P : Program} {k e t : TypeId} {w : World} {b n : Nat} {f : Lit → Option Nat} {sz : Nat} (h : PMap P k w b n f sz) (K : Keyed P k) (ht : P.underlying t = some (.map k e)) (hz : (zeroValue e).run P w = .ok (.pointer none) w) {key : Value} {kl : Lit} (hkey : keyOf P k key = some kl) :
    (Instr.lookup t (.map (some b)) key false).run P w = .ok (ptrV (f kl)) w := by
  obtain ⟨D, h1, _, h3, _⟩ := h
  obtain ⟨v, ps, hrun, hv⟩ := h1.lookup K ht hz (zd := ptrD none) (zp := []) rfl hkey
  rw [h3] at hv
  rw [hrun, ptrR_inv hv]
theorem PMap.len {P : Program} {k e t : TypeId} {w : World} {b n : Nat} {f : Lit → Option Nat} {sz : Nat} (h : PMap P k w b n f sz) (ht : P.underlying t = some (.map k e)) (ty : TypeId) : (Builtin.len_ #[t] ty #[.map (some b)]).run P w = .ok (.int .i64 sz) w := by
  obtain ⟨D, h1, h2, _⟩ := h
  rw [h1.len ht ty, h2]
/-- One key more, or anew. -/
theorem PMap.put {P : Program} {k : TypeId} {w' : World} {b n : Nat} {f : Lit → Option Nat} {D : DataW Unit} {kl : Lit} {p : Nat} (K : Keyed P k) (w : World) (hD : w.ownsMap P k ptrR b n D) (h : w'.ownsMap P k ptrR b (n + 1) (D.put kl (ptrD (some p)))) (hk : WideAt.IsKeyLit kl) (h3 : ∀ kl, D.atKey kl (ptrD none) = ptrD (f kl)) (h4 : ∀ kl, Maps.has D kl = (f kl).isSome) :
    PMap P k w' b (n + 1) (upd f kl (some p)) (if (f kl).isSome then Maps.size D else Maps.size D + 1) := by
  refine ⟨_, h, ?_, fun x => ?_, fun x => ?_⟩
  · rw [Maps.size_put (hD.tidy K), h4]
  · by_cases c : x = kl
    · rw [c, upd_same, Maps.atKey_put_same hD.isMap hk]
    · rw [upd_other f _ c, Maps.atKey_put_other c, h3]
  · by_cases c : x = kl
    · rw [c, upd_same, Maps.has_put_same hD.isMap hk]; rfl
    · rw [upd_other f _ c, Maps.has_put_other c, h4]
theorem PMap.del {P : Program} {k : TypeId} {w' : World} {b n : Nat} {f : Lit → Option Nat} {D : DataW Unit} {kl : Lit} (K : Keyed P k) (w : World) (hD : w.ownsMap P k ptrR b n D) (h : w'.ownsMap P k ptrR b n (D.del kl)) (h3 : ∀ kl, D.atKey kl (ptrD none) = ptrD (f kl)) (h4 : ∀ kl, Maps.has D kl = (f kl).isSome) :
    PMap P k w' b n (upd f kl none) (Maps.size D - if (f kl).isSome then 1 else 0) := by
  refine ⟨_, h, ?_, fun x => ?_, fun x => ?_⟩
  · have := Maps.size_del (k := kl) (hD.tidy K)
    rw [h4] at this
    omega
  · by_cases c : x = kl
    · rw [c, upd_same, Maps.atKey_del_same]
    · rw [upd_other f _ c, Maps.atKey_del_other c, h3]
  · by_cases c : x = kl
    · rw [c, upd_same, Maps.has_del_same]; rfl
    · rw [upd_other f _ c, Maps.has_del_other c, h4]

/-- The runs of 'delete(m, k)' and of 'm[k] = p'. -/
theorem PMap.dropRun {P : Program} {k e t : TypeId} {w : World} {b n : Nat} {f : Lit → Option Nat} {sz : Nat} (h : PMap P k w b n f sz) (K : Keyed P k) (ht : P.underlying t = some (.map k e)) {key : Value} {kl : Lit} (hkey : keyOf P k key = some kl) (ty : TypeId) :
    ∃ w', (Builtin.delete_ #[t, k] ty #[.map (some b), key]).run P w = .ok (.tuple #[]) w' ∧ PMap P k w' b n (upd f kl none) (sz - if (f kl).isSome then 1 else 0) ∧ w.grownBy w' (some b) := by
  obtain ⟨D, h1, h2, h3, h4⟩ := h
  obtain ⟨w', hrun, r1, r2⟩ := h1.drop K ht hkey ty
  refine ⟨w', hrun, ?_, r2.grown⟩
  rw [← h2]
  exact PMap.del K w h1 r1 h3 h4
theorem PMap.storeRun {P : Program} {k e t : TypeId} {w : World} {b n : Nat} {f : Lit → Option Nat} {sz : Nat} (h : PMap P k w b n f sz) (K : Keyed P k) (ht : P.underlying t = some (.map k e)) (hn : n < maxLen) {key : Value} {kl : Lit} (hkey : keyOf P k key = some kl) (hlit : WideAt.IsKeyLit kl) (p : Nat) :
    ∃ w', (Instr.mapUpdate t (.map (some b)) key (ptrV (some p))).run P w = .ok () w' ∧ PMap P k w' b (n + 1) (upd f kl (some p)) (if (f kl).isSome then sz else sz + 1) ∧ w.grownBy w' (some b) := by
  obtain ⟨D, h1, h2, h3, h4⟩ := h
  obtain ⟨w', hrun, r1, r2⟩ := h1.update K ht hn hkey (ptrR_mk (some p))
  refine ⟨w', hrun, ?_, r2⟩
  rw [← h2]
  exact PMap.put K w h1 r1 hlit h3 h4

section
variable {P : Program} (w : World) {ops : Array Oper} {rest : List Oper} {o : Oper} {a : Act} {Q : Exit → Act → World → Prop}
end

end Go.Proofs.YtjfkfiffakbagaaGreatDoor

