/-
  bookingskeep: the raw bytes beside a desk; fits, by what the desk lists.
-/
import Derived.Test.YtjfkfiffakbagaaGreatDoorL28
namespace Go.Proofs.YtjfkfiffakbagaaGreatDoor
open Go.RowKit
open Desk (Ent St Ids kept booked bookE sumA Items ofB sameB Risen Mid EntOk endsB Inv unitsN listD stepD Rep peakK peakN)

/-- A block of one's own, apart from all else. -/
structure Own (X : World) (b p : Nat) (ks : List (Nat × Obj)) (es : List (Value × List (Ent × Value))) : Prop where
  h10 : 10 ≤ X.heap.size
  x : X.heap.size ≤ b
  p : p ≠ b
  ks : ∀ q ∈ ks, q.1 ≠ b
  es : RowsLow b es
theorem CX.swap {X W : World} {p dk : Nat} {s : St} {ks : List (Nat × Obj)} {es : List (Value × List (Ent × Value))} {a b : Nat × Obj} (h : CX X W p dk s (a :: b :: ks) es) : CX X W p dk s (b :: a :: ks) es := h.less (fun q hq => by simp only [List.mem_cons] at hq ⊢; rcases hq with h | h | h <;> simp [h]) (fun q hq => hq)
theorem CX.put' {X W W' : World} {p dk : Nat} {s : St} {ks : List (Nat × Obj)} {es : List (Value × List (Ent × Value))} {b : Nat} {o o' : Obj} (h : CX X W p dk s ((b, o) :: ks) es) (a : Own X b p ks es) (k : Off [b] W W') (hb : W'.heap[b]? = some o') : CX X W' p dk s ((b, o') :: ks) es := h.put a.h10 a.x a.p a.ks a.es (Nat.le_refl _) k hb
/-- The next of the raw bytes. -/
theorem CX.next {X W : World} {p dk : Nat} {s : St} {ks : List (Nat × Obj)} {es : List (Value × List (Ent × Value))} {F a : Nat} {t : ByteArray} (h : CX X W p dk s ((F, feedO t a) :: ks) es) (o : Own X F p ks es) (ha : a ≤ t.size) (hs : t.size ≤ 9223372036854775807) (n : Int) (h1 : 1 ≤ n) (h2 : n ≤ 1000) :
    Calls Tryz.prog 25 #[.pointer (some ⟨F, 0, none⟩), .int .i64 n] W fun e W' => ∃ (v : Int) (a' : Nat), e = .returned (.int .i64 v) ∧ 0 ≤ v ∧ v < n ∧ a' ≤ t.size ∧ CX X W' p dk s ((F, feedO t a') :: ks) es := by
  have hf : FW W F t W := ⟨⟨a, h.kb (List.mem_cons_self ..), ha, hs⟩, h.env, Off.refl _ _, Nat.le_trans o.h10 o.x⟩
  refine (next_any hf n h1 h2).mono ?_
  rintro e W' ⟨v, rfl, v0, v1, k⟩
  obtain ⟨a', fd⟩ := k.fd
  exact ⟨v, a', rfl, v0, v1, fd.le, h.put' o k.off fd.b⟩
theorem ask_cells {W : World} {b : Nat} {nm : ByteArray} {u fr til : Int} (h : W.heap[b]? = some (zeroA nm u fr til)) : W.cell? ⟨b, 0, none⟩ = some (.string nm) ∧ W.cell? ⟨b, 1, none⟩ = some (.int .i64 u) ∧ W.cell? ⟨b, 2, none⟩ = some (.int .i64 fr) ∧ W.cell? ⟨b, 3, none⟩ = some (.int .i64 til) ∧ ∀ o, W.frozen? ⟨b, o, none⟩ = false := four_of h
theorem few_list {s : St} (h : Inv s) {nm : ByteArray} {l : List (Ent × Value)} (hl : l.map (·.1) = listD nm 0 1048320 s.es) : Few l := by
  have h1 := Desk.list_len h nm
  rw [← hl, List.length_map] at h1
  refine ⟨by omega, fun p hp => ?_⟩
  have hm : p.1 ∈ listD nm 0 1048320 s.es := by rw [← hl]; exact List.mem_map.2 ⟨p, hp, rfl⟩
  have e := h.en p.1 (Desk.list_ids h nm hm).1
  have := e.u1
  have := e.u9
  have := e.sl
  exact ⟨by omega, by omega, by omega⟩
theorem peak_units {s : St} (h : Inv s) (nm : ByteArray) {a b : Int} (hab : a < b) : peakN nm s.es a b ≤ unitsN nm s.ts := by
  obtain ⟨_, x, _, _, e⟩ := Desk.peakN_is (name := nm) h.mid.pos hab
  have e' : Desk.takenN nm x s.es = peakN nm s.es a b := e
  have := h.wi nm x
  omega
theorem peak_nonneg {s : St} (h : Inv s) (nm : ByteArray) {a b : Int} (hab : a < b) : 0 ≤ peakN nm s.es a b := by
  obtain ⟨_, x, _, _, e⟩ := Desk.peakN_is (name := nm) h.mid.pos hab
  have e' : Desk.takenN nm x s.es = peakN nm s.es a b := e
  have := Desk.takenN_nonneg (name := nm) (x := x) h.mid.pos
  omega

set_option maxRecDepth 100000 in
set_option maxHeartbeats 2000000 in
/-- Does what is asked for fit, by what the desk lists? -/
theorem fits_list_any {X W : World} {p dk : Nat} {s : St} {ks : List (Nat × Obj)} {es : List (Value × List (Ent × Value))} (h : CX X W p dk s ks es) (A B : Int) (nm : ByteArray) (hn : nm = ⟨#[97]⟩ ∨ nm = ⟨#[98]⟩) (hm : Nm nm) (hu0 : unitsN nm s.ts ≠ 0) (hu : unitsN nm (roomS A B).ts = unitsN nm s.ts) (u fr til : Int) (u0 : 0 ≤ u) (u1 : u ≤ 9) (hlt : fr < til) :
    Calls Tryz.prog 26 #[.pointer (some ⟨p, 0, none⟩), .agg #[.int .i64 A, .int .i64 B], .agg #[.string nm, .int .i64 u, .int .i64 fr, .int .i64 til]] W fun e W' => e = .returned (.tuple #[.bool (Desk.fitsN s.ts s.es nm u [(fr, til)]), .bool true]) ∧ CX X W' p dk s ks es := by
  have HC := hidp ((h.alloc (roomO A B)).alloc (zeroA nm u fr til))
  have hp0 := peak_nonneg h.inv nm hlt
  have hp1 := peak_units h.inv nm hlt
  have hp9 := (Desk.unitsN_nonneg h.inv.tu nm).2
  have FT : Hid (Desk.fitsN s.ts s.es nm u [(fr, til)] = decide (peakN nm s.es fr til + u ≤ unitsN nm s.ts)) := by
    show _ = _
    rw [Desk.fits_list h.inv nm u0 hlt, Desk.peakK_list h.inv nm hlt]
  have HI := hidp h.inv
  have HL := hidp hlt
  have k1 : IntKind.i64.wrap (peakN nm s.es fr til + u) = peakN nm s.es fr til + u := wrap_all (by omega) (by omega)
  rw [FT.out]
  clear h hp0 hp1 hp9 FT hlt
  go_enter Tryz.func26, Tryz.ntmps26
  go_upto_region 1 with fail
  change Code.wp _ _ _ _ ((W.alloc (roomO A B)).alloc (zeroA nm u fr til))
  have e1 : (W.alloc (roomO A B)).heap.size = W.heap.size + 1 := by simp
  rw [e1] at HC
  clear e1
  generalize (W.alloc (roomO A B)).alloc (zeroA nm u fr til) = Z at HC ⊢
  generalize W.heap.size = Rb at HC ⊢
  obtain ⟨c0, c1, c2, c3, _⟩ := ask_cells (HC.out.kb (List.mem_cons_self ..))
  go_upto_region 4 with (first
    | (go_at_call 19; refine (CX.entries HC.out nm hm hu0).mono ?_; rintro e w4 ⟨l, la, lc, rfl, hents, hc4⟩; have HE := hidp hents; replace HC := hidp hc4; clear hc4 hents c0 c1 c2 c3))
  have PK := hidp (fun W' (k : Below w4.drew.heap.size w4.drew W') => kPeak_any W' (.slice la l.length lc) l ((HC.out.drew.later k).ev (List.mem_cons_self ..)) (few_list HI.out HE.out) fr til)
  have EP : Hid (peakK (entsT l) fr til = peakN nm s.es fr til) := by
    show _ = _
    unfold entsT
    rw [HE.out]
    exact Desk.peakK_list HI.out nm HL.out
  rw [EP.out] at PK
  have UN := hidp (fun W' => kUnits_any A B nm hn W')
  rw [hu] at UN
  generalize hpn : peakN nm s.es fr til = pn at PK k1
  generalize hun : unitsN nm s.ts = un at UN
  have HPN := hidp hpn
  have HUN := hidp hun
  clear hpn hun EP hu hu0
  have HD := hidp HC.out.drew
  have SS : Hid (∀ W', Below w4.drew.heap.size w4.drew W' → W'.cell? ⟨Rb + 1, 0, none⟩ = some (.string nm) ∧ W'.cell? ⟨Rb + 1, 1, none⟩ = some (.int .i64 u) ∧ W'.cell? ⟨Rb + 1, 2, none⟩ = some (.int .i64 fr) ∧ W'.cell? ⟨Rb + 1, 3, none⟩ = some (.int .i64 til) ∧ W'.cell? ⟨Rb, 0, none⟩ = some (.int .i64 A) ∧ W'.cell? ⟨Rb, 1, none⟩ = some (.int .i64 B)) := fun W' k => by
    obtain ⟨c0, c1, c2, c3, _⟩ := ask_cells ((HD.out.later k).kb (List.mem_cons_self ..))
    have hr := (HD.out.later k).kb (b := Rb) (o := roomO A B) (List.mem_cons_of_mem _ (List.mem_cons_self ..))
    unfold roomO at hr
    obtain ⟨x, y, _⟩ := two_of hr
    exact ⟨c0, c1, c2, c3, x, y⟩
  have S0 := SS.out _ (Below.refl _ _)
  obtain ⟨s0, s1, s2, s3, s4, s5⟩ := S0
  go_region_held3 (fun w' => w'.cell? ⟨Rb + 1, 0, none⟩ = some (.string nm) ∧ w'.cell? ⟨Rb + 1, 1, none⟩ = some (.int .i64 u) ∧ w'.cell? ⟨Rb + 1, 2, none⟩ = some (.int .i64 fr) ∧ w'.cell? ⟨Rb + 1, 3, none⟩ = some (.int .i64 til) ∧ w'.cell? ⟨Rb, 0, none⟩ = some (.int .i64 A) ∧ w'.cell? ⟨Rb, 1, none⟩ = some (.int .i64 B))
    (first
      | with_reducible exact SS.out _ HB6.out
      | with_reducible exact SS.out _ HB5.out
      | exact ⟨s0, s1, s2, s3, s4, s5⟩)
    (first
      | (go_at_call 22; refine (PK.out _ (Below.refl _ _)).mono ?_; rintro e w5 ⟨rfl, hb5⟩; have HB5 := hidp hb5; clear hb5)
      | (go_at_call 23; refine (UN.out _).mono ?_; rintro e w6 ⟨rfl, hb6⟩; have HB6 := hidp (blwMore HB5.out hb6 (Nat.le_refl _)); clear hb6))
  have HF : Hid (CX X w6 p dk s ks es) := (HD.out.later HB6.out).less (fun q hq => List.mem_cons_of_mem _ (List.mem_cons_of_mem _ hq)) (fun q hq => List.mem_cons_of_mem _ hq)
  clear HB5 HB6 SS HD HC PK UN
  go_wp2_with fail
  go_ret2
  exact ⟨by rw [HPN.out, HUN.out]; rfl, HF.out⟩

end Go.Proofs.YtjfkfiffakbagaaGreatDoor

