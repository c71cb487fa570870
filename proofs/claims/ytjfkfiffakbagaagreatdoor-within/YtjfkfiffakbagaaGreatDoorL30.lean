/-
  bookingskeep: sameSpans, sameEntries, where they are the same.
-/
import Derived.Test.YtjfkfiffakbagaaGreatDoorL29
import Derived.BigQuiet
namespace Go.Proofs.YtjfkfiffakbagaaGreatDoor
open Go.RowKit
open Desk (Ent)

set_option maxRecDepth 100000 in
set_option maxHeartbeats 1000000 in
theorem sameSpans_yes (L : List (Int × Int)) (u v : Value) (w : World) (hu : SV w u L) (hv : SV w v L) (hl : L.length ≤ 1000000) :
    Calls Tryz.prog 35 #[u, v] w fun e w' => e = .returned (.bool true) ∧ Below w.heap.size w w' := by
  obtain ⟨a, ca, rfl⟩ := hu.form
  obtain ⟨b, cb, rfl⟩ := hv.form
  have HU := hidp hu
  have HV := hidp hv
  clear hu hv
  have hb : ((L.length : Int) != (L.length : Int)) = false := by simp
  go_enter Tryz.func35, Tryz.ntmps35
  go_wp2_with fail
  go_loopw [5] (fun v wr => ∃ k : Nat, k ≤ L.length ∧ v = .int .i64 k ∧ Below w.heap.size w wr) (fun v _ => L.length - (intOf v).toNat)
  case atStart => exact ⟨0, Nat.zero_le _, rfl, Below.refl _ _⟩
  case round =>
    obtain ⟨k, hk, rfl, hbl⟩ := hrel
    have HB := hidp hbl
    clear hbl
    by_cases hlt : k < L.length
    · have hlt' : (k : Int) < (L.length : Int) := by omega
      obtain ⟨g, cap, e, a0, a1⟩ := (HU.out.later HB.out).cell k hlt
      simp only [Value.slice.injEq, true_and] at e
      obtain ⟨rfl, rfl⟩ := e
      obtain ⟨g2, cap2, e, b0, b1⟩ := (HV.out.later HB.out).cell k hlt
      simp only [Value.slice.injEq, true_and] at e
      obtain ⟨rfl, rfl⟩ := e
      generalize L[k].1 = x at *
      generalize L[k].2 = y at *
      go_upto_region 6 with fail
      go_big_region
      have HBd := hidp (HB.out.drew)
      clear HB
      go_wp2_with fail
      go_roundw
      case rel => exact ⟨k + 1, by omega, by go_num, HBd.out⟩
      case measure => simp [intOf]; omega
    · have hlt' : ¬ (k : Int) < (L.length : Int) := by omega
      go_wp2_with fail
      go_ret
      exact ⟨rfl, HB.out⟩

theorem blw_drewN {B : Nat} {w w' : World} (h : Below B w w') (n : Nat) : Below B w (w'.drewN n) := ⟨h.os, h.tape, h.output, h.size, h.block⟩
set_option maxRecDepth 100000 in
set_option maxHeartbeats 2000000 in
theorem sameEntries_yes (l m : List (Ent × Value)) (u v : Value) (w : World) (hu : EV w u l) (hv : EV w v m) (he : l.map (·.1) = m.map (·.1)) (hl : l.length ≤ 1000) (hs : ∀ p ∈ l, p.1.spans.length ≤ 1000) :
    Calls Tryz.prog 28 #[u, v] w fun e w' => e = .returned (.bool true) ∧ Below w.heap.size w w' := by
  obtain ⟨a, ca, rfl⟩ := hu.form
  obtain ⟨b, cb, rfl⟩ := hv.form
  have hlen : m.length = l.length := by have := congrArg List.length he; simpa using this.symm
  have AT : Hid (∀ (k : Nat) (h : k < l.length) (h' : k < m.length), m[k].1 = l[k].1) := fun k h h' => by
    have := congrArg (fun x => x[k]?) he
    simp only [List.getElem?_map, List.getElem?_eq_getElem h, List.getElem?_eq_getElem h', Option.map_some] at this
    exact (Option.some.inj this).symm
  have HU := hidp hu
  have HV := hidp hv
  have HS := hidp hs
  rw [hlen]
  clear hu hv he hs
  have hb : ((l.length : Int) != (l.length : Int)) = false := by simp
  go_enter Tryz.func28, Tryz.ntmps28
  go_wp2_with fail
  go_loopw [5, 6] (fun v _ wr => ∃ k : Nat, k ≤ l.length ∧ v = .int .i64 k ∧ Below w.heap.size w wr) (fun v _ _ => l.length - (intOf v).toNat)
  case atStart => exact ⟨0, Nat.zero_le _, rfl, Below.refl _ _⟩
  case round =>
    obtain ⟨k, hk, rfl, hbl⟩ := hrel
    have HB := hidp hbl
    clear hbl
    by_cases hlt : k < l.length
    · have hlt' : (k : Int) < (l.length : Int) := by omega
      have hmt : k < m.length := by omega
      obtain ⟨g, cap, e, a0, a1, a2, a3, a4, a5⟩ := (HU.out.later HB.out).cell k hlt
      simp only [Value.slice.injEq, true_and] at e
      obtain ⟨rfl, rfl⟩ := e
      obtain ⟨g2, cap2, e, b0, b1, b2, b3, b4, b5⟩ := (HV.out.later HB.out).cell k hmt
      simp only [Value.slice.injEq, true_and] at e
      obtain ⟨rfl, rfl⟩ := e
      have s1 := (HU.out.later HB.out).sp l[k] (List.getElem_mem hlt)
      have s2 := (HV.out.later HB.out).sp m[k] (List.getElem_mem hmt)
      rw [AT.out k hlt hmt] at b0 b1 b2 b3 b5 s2
      have SP := hidp (fun W' (q : Below wr.heap.size wr W') => sameSpans_yes l[k].1.spans l[k].2 m[k].2 W' (s1.later q) (s2.later q) (by have := HS.out l[k] (List.getElem_mem hlt); omega))
      obtain ⟨f1, f2, e1⟩ := s1.form
      obtain ⟨f3, f4, e2⟩ := s2.form
      rw [e1] at a4 SP
      rw [e2] at b4 SP
      clear s1 s2 e1 e2
      generalize l[k].1 = x at *
      have n0 : (x.id != x.id) = false := by simp
      have n1 : (x.kind != x.kind) = false := by simp
      have n3 : (x.units != x.units) = false := by simp
      have n5 : (x.till != x.till) = false := by simp
      have HBd := hidp (HB.out.drew)
      have SS : Hid (∀ W', Below wr.drew.heap.size wr.drew W' → W'.cell? ⟨g, k * 6, none⟩ = some (.int .i64 x.id) ∧ W'.cell? ⟨g, k * 6 + 1, none⟩ = some (.int .i64 x.kind) ∧ W'.cell? ⟨g, k * 6 + 2, none⟩ = some (.string x.thing) ∧ W'.cell? ⟨g, k * 6 + 3, none⟩ = some (.int .i64 x.units) ∧ W'.cell? ⟨g, k * 6 + 4, none⟩ = some (.slice f1 x.spans.length f2) ∧ W'.cell? ⟨g, k * 6 + 5, none⟩ = some (.int .i64 x.till) ∧ W'.cell? ⟨g2, k * 6, none⟩ = some (.int .i64 x.id) ∧ W'.cell? ⟨g2, k * 6 + 1, none⟩ = some (.int .i64 x.kind) ∧ W'.cell? ⟨g2, k * 6 + 2, none⟩ = some (.string x.thing) ∧ W'.cell? ⟨g2, k * 6 + 3, none⟩ = some (.int .i64 x.units) ∧ W'.cell? ⟨g2, k * 6 + 4, none⟩ = some (.slice f3 x.spans.length f4) ∧ W'.cell? ⟨g2, k * 6 + 5, none⟩ = some (.int .i64 x.till)) := fun W' q => ⟨cellLater q a0, cellLater q a1, cellLater q a2, cellLater q a3, cellLater q a4, cellLater q a5, cellLater q b0, cellLater q b1, cellLater q b2, cellLater q b3, cellLater q b4, cellLater q b5⟩
      clear HB
      go_upto_region 6 with fail
      go_region_held3 (fun W' => W'.cell? ⟨g, k * 6, none⟩ = some (.int .i64 x.id) ∧ W'.cell? ⟨g, k * 6 + 1, none⟩ = some (.int .i64 x.kind) ∧ W'.cell? ⟨g, k * 6 + 2, none⟩ = some (.string x.thing) ∧ W'.cell? ⟨g, k * 6 + 3, none⟩ = some (.int .i64 x.units) ∧ W'.cell? ⟨g, k * 6 + 4, none⟩ = some (.slice f1 x.spans.length f2) ∧ W'.cell? ⟨g, k * 6 + 5, none⟩ = some (.int .i64 x.till) ∧ W'.cell? ⟨g2, k * 6, none⟩ = some (.int .i64 x.id) ∧ W'.cell? ⟨g2, k * 6 + 1, none⟩ = some (.int .i64 x.kind) ∧ W'.cell? ⟨g2, k * 6 + 2, none⟩ = some (.string x.thing) ∧ W'.cell? ⟨g2, k * 6 + 3, none⟩ = some (.int .i64 x.units) ∧ W'.cell? ⟨g2, k * 6 + 4, none⟩ = some (.slice f3 x.spans.length f4) ∧ W'.cell? ⟨g2, k * 6 + 5, none⟩ = some (.int .i64 x.till))
        (first
          | with_reducible exact SS.out _ HB6.out
          | exact ⟨a0, a1, a2, a3, a4, a5, b0, b1, b2, b3, b4, b5⟩)
        (first
          | (go_at_call 35; refine (SP.out _ (blwDrew _)).mono ?_; rintro e w6 ⟨rfl, hb6⟩; have HB6 := hidp hb6; clear hb6))
      have HF : Hid (Below w.heap.size w w6) := blwMore HBd.out HB6.out (Nat.le_refl _)
      obtain ⟨c0, c1, c2, c3, c4, c5, d0, d1, d2, d3, d4, d5⟩ := SS.out _ HB6.out
      clear HB6 HBd SS SP a0 a1 a2 a3 a4 a5 b0 b1 b2 b3 b4 b5
      have n2 : (x.thing.toList != x.thing.toList) = false := by simp
      have n2' : (x.thing.toList == x.thing.toList) = true := by simp
      go_upto_region 7 with fail
      go_quiet (fail)
      go_wp2_with fail
      go_roundw
      case rel => exact ⟨k + 1, by omega, by go_num, blw_drewN HF.out _⟩
      case measure => simp [intOf]; omega
    · have hlt' : ¬ (k : Int) < (l.length : Int) := by omega
      go_wp2_with fail
      go_ret
      exact ⟨rfl, HB.out⟩

end Go.Proofs.YtjfkfiffakbagaaGreatDoor

