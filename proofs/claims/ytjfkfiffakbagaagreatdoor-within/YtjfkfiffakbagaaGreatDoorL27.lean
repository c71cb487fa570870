/-
  Parts of the proof, one behind the other: KeepLine, KeepPlayed, KeepScript, KeepCtx.
-/
import Derived.Test.YtjfkfiffakbagaaGreatDoorL26
/-
  bookingskeep: a line, out of raw bytes.
-/
namespace Go.Proofs.YtjfkfiffakbagaaGreatDoor
open Go.RowKit

theorem fasked_any {w0 w : World} {F : Nat} {s : ByteArray} (h : FW w0 F s w) :
    Calls Tryz.prog 24 #[.pointer (some ⟨F, 0, none⟩)] w fun e w' => ∃ nm u fr til, e = .returned (.agg #[.string nm, .int .i64 u, .int .i64 fr, .int .i64 til]) ∧ AskOk nm u fr til ∧ FW w0 F s w' :=
  (kAsked_any h.self).mono fun _ _ ⟨nm, u, fr, til, e, a, k⟩ => ⟨nm, u, fr, til, e, a, h.back k⟩
theorem AskOk.size {nm : ByteArray} {u fr til : Int} (h : AskOk nm u fr til) : nm.size ≤ 10 := by
  rcases h.n with rfl | rfl | rfl <;> decide
theorem ftext_any {w0 w : World} {F : Nat} {s : ByteArray} (h : FW w0 F s w) {nm : ByteArray} {u fr til : Int} (ha : AskOk nm u fr til) :
    Calls Tryz.prog 27 #[.agg #[.string nm, .int .i64 u, .int .i64 fr, .int .i64 til]] w fun e w' => ∃ t, e = .returned (.string t) ∧ t.size ≤ 40 ∧ FW w0 F s w' := by
  have b := ha.u1
  have c := ha.u3
  have d := ha.f0
  have e := ha.f1
  have f := ha.t0
  have g := ha.t1
  refine (text_any w h.env nm u fr til ha.size ⟨by omega, by omega⟩ ⟨by omega, by omega⟩ ⟨by omega, by omega⟩).mono ?_
  rintro e w' ⟨rfl, k⟩
  exact ⟨_, rfl, askS_size ha.size ⟨by omega, by omega⟩ ⟨by omega, by omega⟩ ⟨by omega, by omega⟩, h.later k⟩
/-- How a line begins. -/
def linePre : List ByteArray := [⟨#[98, 111, 111, 107, 32]⟩, ⟨#[104, 111, 108, 100, 32]⟩, ⟨#[119, 97, 105, 116, 32]⟩, ⟨#[99, 97, 110, 99, 101, 108, 32]⟩, ⟨#[99, 111, 110, 102, 105, 114, 109, 32]⟩, ⟨#[115, 101, 114, 105, 101, 115, 32]⟩, ⟨#[116, 105, 99, 107, 32]⟩]
def LineT (t : ByteArray) : Prop := ∃ p r, p ∈ linePre ∧ t = p ++ r
theorem lineT_1 {p r : ByteArray} (h : p ∈ linePre) : LineT (p ++ r) := ⟨p, r, h, rfl⟩
theorem lineT_2 {p a b : ByteArray} (h : p ∈ linePre) : LineT ((p ++ a) ++ b) := ⟨p, a ++ b, h, ByteArray.append_assoc⟩
theorem lineT_3 {p a b c : ByteArray} (h : p ∈ linePre) : LineT (((p ++ a) ++ b) ++ c) := ⟨p, (a ++ b) ++ c, h, by rw [ByteArray.append_assoc, ByteArray.append_assoc, ByteArray.append_assoc]⟩

set_option maxRecDepth 100000 in
set_option maxHeartbeats 1000000 in
theorem kLine_any {w0 w : World} {F : Nat} {s : ByteArray} (h : FW w0 F s w) :
    Calls Tryz.prog 37 #[.pointer (some ⟨F, 0, none⟩)] w fun e w' => ∃ t, e = .returned (.string t) ∧ LineT t ∧ t.size ≤ 160 ∧ FW w0 F s w' := by
  have HA := hidp h
  clear h
  go_enter Tryz.func37, Tryz.ntmps37
  go_upto_region 2 with (first
    | (go_at_call 25; refine (next_any HA.out 12 (by omega) (by omega)).mono ?_; rintro e w1 ⟨v1, rfl, a1, b1, ha1⟩; replace HA := hidp ha1; clear ha1))
  have hv : v1 = 0 ∨ v1 = 1 ∨ v1 = 2 ∨ v1 = 3 ∨ v1 = 4 ∨ v1 = 5 ∨ v1 = 6 ∨ v1 = 7 ∨ v1 = 8 ∨ v1 = 9 ∨ v1 = 11 ∨ v1 = 10 := by omega
  clear a1 b1
  rcases hv with rfl | rfl | rfl | rfl | rfl | rfl | rfl | rfl | rfl | rfl | rfl | rfl
  iterate 3
    · go_wp2_with (first
        | (go_at_call 24; refine (fasked_any HA.out).mono ?_; rintro e w2 ⟨nm, u, fr, til, rfl, hok, ha⟩; replace HA := hidp ha; have HK := hidp hok; clear ha hok)
        | (go_at_call 27; refine (ftext_any HA.out HK.out).mono ?_; rintro e w3 ⟨t, rfl, ht, ha⟩; replace HA := hidp ha; clear ha HK))
      go_ret
      exact ⟨_, rfl, lineT_1 (by simp [linePre]), by rw [ByteArray.size_append]; show 5 + _ ≤ 160; omega, HA.out⟩
  iterate 2
    · go_wp2_with (first
        | (go_at_call 24; refine (fasked_any HA.out).mono ?_; rintro e w2 ⟨nm, u, fr, til, rfl, hok, ha⟩; replace HA := hidp ha; have HK := hidp hok; clear ha hok)
        | (go_at_call 27; refine (ftext_any HA.out HK.out).mono ?_; rintro e w3 ⟨t, rfl, ht, ha⟩; replace HA := hidp ha; clear ha HK)
        | (go_at_call 25; refine (next_any HA.out 60 (by omega) (by omega)).mono ?_; rintro e w1 ⟨v1, rfl, a1, b1, ha1⟩; replace HA := hidp ha1; clear ha1; have k1 : IntKind.i64.wrap (1 + v1) = 1 + v1 := wrap_all (by omega) (by omega); have z1 := Txt.itoa_size (1 + v1) (by omega) (by omega))
        | (go_at_call 21; refine (fnum_any HA.out (1 + v1) (by omega) (by omega)).mono ?_; rintro e w8 ⟨rfl, ha⟩; replace HA := hidp ha; clear ha))
      go_ret
      exact ⟨_, rfl, lineT_3 (by simp [linePre]), by simp only [ByteArray.size_append]; show 5 + _ + 1 + _ ≤ 160; omega, HA.out⟩
  iterate 3
    · go_wp2_with (first
        | (go_at_call 24; refine (fasked_any HA.out).mono ?_; rintro e w2 ⟨nm, u, fr, til, rfl, hok, ha⟩; replace HA := hidp ha; have HK := hidp hok; clear ha hok)
        | (go_at_call 27; refine (ftext_any HA.out HK.out).mono ?_; rintro e w3 ⟨t, rfl, ht, ha⟩; replace HA := hidp ha; clear ha HK)
        | (go_at_call 25; refine (next_any HA.out 90 (by omega) (by omega)).mono ?_; rintro e w1 ⟨v1, rfl, a1, b1, ha1⟩; replace HA := hidp ha1; clear ha1; have k1 : IntKind.i64.wrap (1 + v1) = 1 + v1 := wrap_all (by omega) (by omega); have z1 := Txt.itoa_size (1 + v1) (by omega) (by omega))
        | (go_at_call 21; refine (fnum_any HA.out (1 + v1) (by omega) (by omega)).mono ?_; rintro e w8 ⟨rfl, ha⟩; replace HA := hidp ha; clear ha))
      go_ret
      exact ⟨_, rfl, lineT_3 (by simp [linePre]), by simp only [ByteArray.size_append]; show 5 + _ + 1 + _ ≤ 160; omega, HA.out⟩
  iterate 2
    · go_wp2_with (first
        | (go_at_call 25; refine (next_any HA.out 12 (by omega) (by omega)).mono ?_; rintro e w1 ⟨v1, rfl, a1, b1, ha1⟩; replace HA := hidp ha1; clear ha1; have k1 : IntKind.i64.wrap (1 + v1) = 1 + v1 := wrap_all (by omega) (by omega); have z1 := Txt.itoa_size (1 + v1) (by omega) (by omega))
        | (go_at_call 21; refine (fnum_any HA.out (1 + v1) (by omega) (by omega)).mono ?_; rintro e w8 ⟨rfl, ha⟩; replace HA := hidp ha; clear ha))
      go_ret
      exact ⟨_, rfl, lineT_1 (by simp [linePre]), by rw [ByteArray.size_append]; show (_ : Nat) ≤ 160; first | (show 7 + _ ≤ 160; omega) | (show 8 + _ ≤ 160; omega), HA.out⟩
  · go_wp2_with (first
      | (go_at_call 25; refine (next_any HA.out 40 (by omega) (by omega)).mono ?_; rintro e w1 ⟨v1, rfl, a1, b1, ha1⟩; replace HA := hidp ha1; clear ha1; have k1 : IntKind.i64.wrap (1 + v1) = 1 + v1 := wrap_all (by omega) (by omega); have z1 := Txt.itoa_size (1 + v1) (by omega) (by omega))
      | (go_at_call 21; refine (fnum_any HA.out (1 + v1) (by omega) (by omega)).mono ?_; rintro e w8 ⟨rfl, ha⟩; replace HA := hidp ha; clear ha))
    go_ret
    exact ⟨_, rfl, lineT_1 (by simp [linePre]), by rw [ByteArray.size_append]; show 5 + _ ≤ 160; omega, HA.out⟩
  · go_upto_region 18 with fail
    refine line18 HA.out ?_
    intro u56 u57 u58 u59 u60 u61 u62 u63 u64 z t W hz ht hW
    have HW := hidp hW
    clear hW
    go_wp2_with fail
    go_ret
    exact ⟨_, rfl, lineT_2 (by simp [linePre]), by simp only [ByteArray.size_append]; show 7 + _ + _ ≤ 160; omega, HW.out⟩

end Go.Proofs.YtjfkfiffakbagaaGreatDoor


/-
  bookingskeep: entries, room, units, a script that is played.
-/
namespace Go.Proofs.YtjfkfiffakbagaaGreatDoor
open Go.RowKit
open Desk (Ent St Ids kept booked bookE sumA Items ofB sameB Risen Mid EntOk endsB Inv unitsN listD stepD Rep)

theorem wd_list : (⟨#[108, 105, 115, 116, 32]⟩ : ByteArray).data.toList = listW.data.toList ++ [32] := by decide +kernel
set_option maxRecDepth 100000 in
set_option maxHeartbeats 2000000 in
theorem entries_any {w W : World} {p dk : Nat} {s : St} {r : Raw} {col : Nat → Option Col} (h : DG w W p dk s r col) (nm : ByteArray) (hn : Nm nm) (hu : unitsN nm s.ts ≠ 0) :
    Calls Tryz.prog 19 #[.pointer (some ⟨p, 0, none⟩), .string nm] W fun e W' => ∃ (l : List (Ent × Value)) (a : Option Addr) (c : Nat) (r' : Raw) (col' : Nat → Option Col), e = .returned (.tuple #[.slice a l.length c, .bool true]) ∧ l.map (·.1) = listD nm 0 1048320 s.es ∧ ERow W' W.heap.size col' (.slice a l.length c) l ∧ DG w W' p dk s r' col' ∧ Step anyS W.heap.size col col' W W' := by
  have TL : Hid (Reads ((⟨#[108, 105, 115, 116, 32]⟩ : ByteArray) ++ nm) (.iface 164 (.agg #[.string nm, .bool false, .int .i64 0, .int .i64 0]))) := list_reads hn (by rw [Txt.append_list, wd_list, List.append_assoc]; rfl)
  have DO := hidp (do_line h TL.out (.list nm (by rw [hn.s]; decide) false 0 0 0 1048320 rfl rfl) ⟨by omega, by omega, by omega, by omega⟩ (Desk.list_step h.inv hu))
  have hs := hn.s
  clear h hn hu TL
  go_enter Tryz.func19, Tryz.ntmps19
  go_upto_region 2 with (first
    | (go_at_call 20; refine DO.out.mono ?_; rintro e w3 ⟨l1, a1, a2, a3, a4, n2, c1, c2, c3, c4, r1, col1, rfl, P1⟩; dsimp only [List.length_nil]))
  change Code.wp _ _ _ _ (w3.alloc (repO 0 0 0 (.slice a1 l1.length c1) (.slice a2 n2 c2) (.slice a3 0 c3) (.slice a4 0 c4)))
  have kb := (Below.refl w3.heap.size w3).alloc (Nat.le_refl _) (repO 0 0 0 (.slice a1 l1.length c1) (.slice a2 n2 c2) (.slice a3 0 c3) (.slice a4 0 c4))
  obtain ⟨e0, _, _, e3, _⟩ := rep_cells (heapNew w3 (repO 0 0 0 (.slice a1 l1.length c1) (.slice a2 n2 c2) (.slice a3 0 c3) (.slice a4 0 c4)))
  have HP := hidp (And.intro P1 kb)
  clear P1 kb DO
  generalize w3.alloc (repO 0 0 0 (.slice a1 l1.length c1) (.slice a2 n2 c2) (.slice a3 0 c3) (.slice a4 0 c4)) = Z at HP e0 e3 ⊢
  have HF : Hid (l1.map (·.1) = listD nm 0 1048320 s.es ∧ ERow Z.drew W.heap.size col1 (.slice a1 l1.length c1) l1 ∧ DG w Z.drew p dk s r1 col1 ∧ Step anyS W.heap.size col col1 W Z.drew) := by
    obtain ⟨P, k⟩ := HP.out
    have k' := k.drew
    exact ⟨P.ents, P.row.step (S := anyS) (B := w3.heap.size) (Step.below k') (Nat.le_refl _), P.dg.later k', P.st.trans (Step.below k')⟩
  clear HP
  generalize w3.heap.size = B at e0 e3 ⊢
  go_big_region
  go_wp2_with fail
  go_ret2
  exact ⟨l1, a1, c1, r1, col1, rfl, HF.out⟩

set_option maxRecDepth 100000 in
set_option maxHeartbeats 400000 in
theorem room_any (a b : Int) (w : World) (ha1 : -9223372036854775808 ≤ a) (ha2 : a ≤ 9223372036854775807) (hb1 : -9223372036854775808 ≤ b) (hb2 : b ≤ 9223372036854775807) :
    Calls Tryz.prog 16 #[.int .i64 a, .int .i64 b] w fun e w' => e = .returned (.agg #[.int .i64 (1 + pickV a 4), .int .i64 (1 + pickV b 9)]) ∧ Below w.heap.size w w' := by
  obtain ⟨x1, x2⟩ := pickV_bd (c := a) (n := 4) (by omega)
  obtain ⟨y1, y2⟩ := pickV_bd (c := b) (n := 9) (by omega)
  have k1 : IntKind.i64.wrap (1 + pickV a 4) = 1 + pickV a 4 := wrap_all (by omega) (by omega)
  have k2 : IntKind.i64.wrap (1 + pickV b 9) = 1 + pickV b 9 := wrap_all (by omega) (by omega)
  have hq : (w.alloc (roomO 0 0)).heap[w.heap.size]? = some (roomO 0 0) := heapNew w _
  have kb : Below w.heap.size w (w.alloc (roomO 0 0)) := (Below.refl _ _).alloc (Nat.le_refl _) _
  have hc := two_of (x := .int .i64 0) (y := .int .i64 0) hq
  obtain ⟨c0, c1, cf⟩ := hc
  have HF : Hid (Below w.heap.size w (((w.alloc (roomO 0 0)).setCell ⟨w.heap.size, 0, none⟩ (.int .i64 (1 + pickV a 4))).setCell ⟨w.heap.size, 1, none⟩ (.int .i64 (1 + pickV b 9)))) := by
    have k := (Off.set0 w.heap.size (w.alloc (roomO 0 0)) 0 (.int .i64 (1 + pickV a 4))).setCell (R := w.heap.size) (.inl (by simp)) 1 (.int .i64 (1 + pickV b 9))
    exact ⟨k.os.trans kb.os, k.tape.trans kb.tape, k.output.trans kb.output, Nat.le_trans kb.size k.size, fun x hx => (k.block x (Nat.lt_of_lt_of_le hx kb.size) (by simp; omega)).trans (kb.block x hx)⟩
  clear hq kb
  go_enter Tryz.func16, Tryz.ntmps16
  go_upto_region 1 with fail
  change Code.wp _ _ _ _ (w.alloc (roomO 0 0))
  generalize w.alloc (roomO 0 0) = X at *
  go_wp2_with (first
    | (go_at_call 29; refine (pickN_any _ _ _ (by assumption) (by assumption) (by omega) (by omega)).mono ?_; rintro e w' ⟨rfl, rfl⟩))
  exact bodyPost_ret (v := .agg #[.int .i64 (1 + pickV a 4), .int .i64 (1 + pickV b 9)]) (by simp [results, Tryz.results16, go_sem, c0, c1]) rfl ⟨rfl, HF.out⟩

set_option maxRecDepth 100000 in
set_option maxHeartbeats 1000000 in
theorem kUnits_any (a b : Int) (nm : ByteArray) (hn : nm = ⟨#[97]⟩ ∨ nm = ⟨#[98]⟩) (w : World) :
    Calls Tryz.prog 23 #[.agg #[.int .i64 a, .int .i64 b], .string nm] w fun e w' => e = .returned (.int .i64 (unitsN nm (roomS a b).ts)) ∧ Below w.heap.size w w' := by
  have kb : Below w.heap.size w (w.alloc (roomO a b)) := (Below.refl _ _).alloc (Nat.le_refl _) _
  have hq : (w.alloc (roomO a b)).heap[w.heap.size]? = some (roomO a b) := heapNew w _
  obtain ⟨c0, c1, _⟩ := two_of (x := .int .i64 a) (y := .int .i64 b) hq
  have HK := hidp kb
  have ea : unitsN ⟨#[97]⟩ (roomS a b).ts = a := units_a a b
  have eb : unitsN ⟨#[98]⟩ (roomS a b).ts = b := units_b a b
  clear kb hq
  rcases hn with rfl | rfl
  · rw [ea]
    clear ea eb
    go_enter Tryz.func23, Tryz.ntmps23
    go_upto_region 1 with fail
    change Code.wp _ _ _ _ (w.alloc (roomO a b))
    generalize w.alloc (roomO a b) = X at *
    go_wp2_with fail
    go_ret
    exact ⟨rfl, HK.out⟩
  · rw [eb]
    clear ea eb
    go_enter Tryz.func23, Tryz.ntmps23
    go_upto_region 1 with fail
    change Code.wp _ _ _ _ (w.alloc (roomO a b))
    generalize w.alloc (roomO a b) = X at *
    go_wp2_with fail
    go_ret
    exact ⟨rfl, HK.out⟩

/-- A row of texts that may be read. -/
structure TV (w : World) (v : Value) (ss : List ByteArray) : Prop where
  form : ∃ a cap, v = .slice a ss.length cap
  cell : ∀ (i : Nat) (hi : i < ss.length), ∃ b off cap, v = .slice (some ⟨b, off, none⟩) ss.length cap ∧ w.cell? ⟨b, off + i, none⟩ = some (.string ss[i])
  size : ∀ x ∈ ss, x.size ≤ 9223372036854775807
  len : ss.length ≤ 9223372036854775807
theorem TV.below {w w' : World} {v : Value} {ss : List ByteArray} (h : TV w v ss) (k : Below w.heap.size w w') : TV w' v ss :=
  ⟨h.form, fun i hi => by
    obtain ⟨b, off, cap, e, a⟩ := h.cell i hi
    exact ⟨b, off, cap, e, cellLater k a⟩, h.size, h.len⟩
/-- What a script leaves of a desk. -/
structure After (s s' : St) (k : Int) : Prop where
  ts : ∀ nm, unitsN nm s.ts ≠ 0 → unitsN nm s'.ts = unitsN nm s.ts
  gv : s'.given ≤ s.given + k
theorem stepT_after {s : St} (h : Inv s) (t : ByteArray) : After s (stepT s t).1 1 := by
  unfold stepT
  cases readT t with
  | inl q => exact ⟨fun _ _ => rfl, by show s.given ≤ s.given + 1; omega⟩
  | inr l => exact ⟨fun nm hn => Desk.units_keep h l hn, Desk.step_given s l⟩
theorem After.next {s s' s'' : St} {k : Int} (h : After s s' k) (k1 : After s' s'' 1) : After s s'' (k + 1) :=
  ⟨fun nm hn => (k1.ts nm (by rw [h.ts nm hn]; exact hn)).trans (h.ts nm hn), by have := h.gv; have := k1.gv; omega⟩
theorem stepT_error {s : St} {t : ByteArray} (h : (stepT s t).2.err ≠ 0) : (stepT s t).2.n = 0 ∧ (stepT s t).2.granted = [] ∧ (stepT s t).2.ended = [] := by
  unfold stepT at h ⊢
  cases e : readT t with
  | inl q => exact ⟨rfl, rfl, rfl⟩
  | inr l =>
    rw [e] at h
    have := (Desk.step_error (s := s) (l := l) h).2
    show (stepD s l).2.n = 0 ∧ (stepD s l).2.granted = [] ∧ (stepD s l).2.ended = []
    rw [this]
    exact ⟨rfl, rfl, rfl⟩

end Go.Proofs.YtjfkfiffakbagaaGreatDoor


/-
  bookingskeep: a script is played.
-/
namespace Go.Proofs.YtjfkfiffakbagaaGreatDoor
open Go.RowKit
open Desk (Ent St Ids kept booked bookE sumA Items ofB sameB Risen Mid EntOk endsB Inv unitsN listD stepD Rep)

def feedO (s : ByteArray) (a : Int) : Obj := .cells #[.string s, .int .i64 a] 47 (0, 0)
theorem feed_new {W : World} (he : Env W) (s : ByteArray) (hs : s.size ≤ 9223372036854775807) : FW (W.alloc (feedO s 0)) W.heap.size s (W.alloc (feedO s 0)) :=
  ⟨⟨0, heapNew W _, Nat.zero_le _, hs⟩, he.later ((Below.refl _ _).alloc (Nat.le_refl _) _), Off.refl _ _, he.size⟩
theorem feed_below {W W' : World} {s t : ByteArray} (h : FW (W.alloc (feedO s 0)) W.heap.size t W') : Below W.heap.size W W' := by
  have kb : Below W.heap.size W (W.alloc (feedO s 0)) := (Below.refl _ _).alloc (Nat.le_refl _) _
  have k := h.off
  exact ⟨k.os.trans kb.os, k.tape.trans kb.tape, k.output.trans kb.output, Nat.le_trans kb.size k.size, fun x hx => (k.block x (Nat.lt_of_lt_of_le hx kb.size) (by simp; omega)).trans (kb.block x hx)⟩
theorem line_new {W : World} (he : Env W) (s : ByteArray) (hs : s.size ≤ 9223372036854775807) :
    Calls Tryz.prog 37 #[.pointer (some ⟨W.heap.size, 0, none⟩)] (W.alloc (feedO s 0)) fun e w' => ∃ t, e = .returned (.string t) ∧ LineT t ∧ t.size ≤ 160 ∧ Below W.heap.size W w' :=
  (kLine_any (feed_new he s hs)).mono fun _ _ ⟨t, e, a, b, k⟩ => ⟨t, e, a, b, feed_below k⟩

set_option maxRecDepth 100000 in
set_option maxHeartbeats 1000000 in
theorem played_any {w W : World} {p dk : Nat} {s : St} {r : Raw} {col : Nat → Option Col} (h : DG w W p dk s r col) {v : Value} {ss : List ByteArray} (hv : TV w v ss) :
    Calls Tryz.prog 18 #[.pointer (some ⟨p, 0, none⟩), v] W fun e W' => ∃ (s' : St) (r' : Raw) (col' : Nat → Option Col), e = .returned (.bool true) ∧ After s s' 30 ∧ DG w W' p dk s' r' col' ∧ Step anyS W.heap.size col col' W W' := by
  obtain ⟨a, cap, rfl⟩ := hv.form
  have hlen := hv.len
  have HV := hidp hv
  have HD := hidp h
  clear hv h
  go_enter Tryz.func18, Tryz.ntmps18
  go_upto_region 2 with fail
  go_loopw [5, 6] (fun vi _ wr => ∃ (i : Nat) (s' : St) (r' : Raw) (col' : Nat → Option Col), i ≤ ss.length ∧ i ≤ 30 ∧ vi = .int .i64 i ∧ After s s' i ∧ DG w wr p dk s' r' col' ∧ Step anyS W.heap.size col col' W wr) (fun vi _ _ => 30 - (intOf vi).toNat)
  case atStart => exact ⟨0, s, r, col, Nat.zero_le _, by omega, rfl, ⟨fun _ _ => rfl, by omega⟩, HD.out, Step.below (Below.refl _ _)⟩
  case round =>
    obtain ⟨i, s', r', col', hi, hi30, rfl, haf, hdg, hst⟩ := hrel
    have HA := hidp haf
    have HG := hidp hdg
    have HS := hidp hst
    clear haf hdg hst
    by_cases hlt : i < ss.length ∧ i < 30
    · obtain ⟨hl1, hl2⟩ := hlt
      have hl1' : (i : Int) < (ss.length : Int) := by omega
      have hl2' : (i : Int) < 30 := by omega
      obtain ⟨b, off, cap', e, c0⟩ := HV.out.cell i hl1
      simp only [Value.slice.injEq, true_and] at e
      obtain ⟨rfl, rfl⟩ := e
      have c1 := (World.cell?_of_block (w := w) (HG.out.bl.block b (World.block_lt_of_cell? _ _ c0))).trans c0
      have LN := hidp (line_new HG.out.bd.env ss[i] (HV.out.size _ (List.getElem_mem hl1)))
      have DO : Hid (∀ W' t, Below wr.heap.size wr W' → Calls Tryz.prog 20 #[.pointer (some ⟨p, 0, none⟩), .string t] W' fun e W'' => DoPost w W' p dk col' (stepT s' t) e W'') := fun W' t k => do_text (HG.out.later k) t
      clear c0
      go_upto_region 5 with (first
        | (go_at_call 37; refine LN.out.mono ?_; rintro e w2 ⟨t, rfl, _, _, hb2⟩; have HB2 := hidp hb2; clear hb2)
        | (go_at_call 20; refine (DO.out _ t HB2.out).mono ?_; rintro e w3 ⟨l1, a1, a2, a3, a4, n2, c1, c2, c3, c4, r1, col1, rfl, P1⟩))
      have HE : Hid ((stepT s' t).2.err ≠ 0 → (stepT s' t).2.n = 0 ∧ (stepT s' t).2.granted = [] ∧ (stepT s' t).2.ended = []) := fun h => stepT_error h
      have HN := hidp (HA.out.next (stepT_after HG.out.inv t))
      generalize stepT s' t = q at P1 HE HN ⊢
      change Code.wp _ _ _ _ (w3.alloc (repO q.2.err q.2.at_ q.2.n (.slice a1 l1.length c1) (.slice a2 n2 c2) (.slice a3 q.2.granted.length c3) (.slice a4 q.2.ended.length c4)))
      have kb := (Below.refl w3.heap.size w3).alloc (Nat.le_refl _) (repO q.2.err q.2.at_ q.2.n (.slice a1 l1.length c1) (.slice a2 n2 c2) (.slice a3 q.2.granted.length c3) (.slice a4 q.2.ended.length c4))
      obtain ⟨e0, _, e2, _, _, e5, e6⟩ := rep_cells (heapNew w3 (repO q.2.err q.2.at_ q.2.n (.slice a1 l1.length c1) (.slice a2 n2 c2) (.slice a3 q.2.granted.length c3) (.slice a4 q.2.ended.length c4)))
      have HF : Hid (DG w (w3.alloc (repO q.2.err q.2.at_ q.2.n (.slice a1 l1.length c1) (.slice a2 n2 c2) (.slice a3 q.2.granted.length c3) (.slice a4 q.2.ended.length c4))) p dk q.1 r1 col1 ∧ Step anyS W.heap.size col col1 W (w3.alloc (repO q.2.err q.2.at_ q.2.n (.slice a1 l1.length c1) (.slice a2 n2 c2) (.slice a3 q.2.granted.length c3) (.slice a4 q.2.ended.length c4)))) := by
        have hs1 := HS.out.size
        have hs2 := HB2.out.size
        exact ⟨P1.dg.later kb, ((HS.out.trans (Step.below HB2.out)).trans (P1.st.mono (fun _ h => h) (Nat.le_trans hs1 hs2))).trans (Step.below kb)⟩
      clear P1 kb LN DO HB2
      generalize w3.alloc (repO q.2.err q.2.at_ q.2.n (.slice a1 l1.length c1) (.slice a2 n2 c2) (.slice a3 q.2.granted.length c3) (.slice a4 q.2.ended.length c4)) = Z at HF e0 e2 e5 e6 ⊢
      generalize w3.heap.size = B at e0 e2 e5 e6 ⊢
      by_cases he : q.2.err = 0
      · have hb : (q.2.err != 0) = false := by simp [he]
        clear he HE
        go_wp2_with fail
        go_roundw
        case rel => exact ⟨i + 1, q.1, r1, col1, by omega, by omega, by go_num, HN.out, HF.out⟩
        case measure => simp [intOf]; omega
      · obtain ⟨x1, x2, x3⟩ := HE.out he
        have hb : (q.2.err != 0) = true := by simp [he]
        rw [x1] at e2
        rw [x2] at e5
        rw [x3] at e6
        simp only [List.length_nil] at e5 e6
        clear he HE x1 x2 x3
        go_wp2_with fail
        go_roundw
        case rel => exact ⟨i + 1, q.1, r1, col1, by omega, by omega, by go_num, HN.out, HF.out⟩
        case measure => simp [intOf]; omega
    · have HF : Hid (After s s' 30 ∧ DG w wr p dk s' r' col' ∧ Step anyS W.heap.size col col' W wr) := ⟨⟨HA.out.ts, by have := HA.out.gv; omega⟩, HG.out, HS.out⟩
      clear HA HG HS
      by_cases h1 : i < ss.length
      · have h1' : (i : Int) < (ss.length : Int) := by omega
        have h2' : ¬ (i : Int) < 30 := by omega
        clear hlt
        go_wp2_with fail
        go_ret
        exact ⟨rfl, s', HF.out.1, r', col', HF.out.2⟩
      · have h1' : ¬ (i : Int) < (ss.length : Int) := by omega
        clear hlt
        go_wp2_with fail
        go_ret
        exact ⟨rfl, s', HF.out.1, r', col', HF.out.2⟩

end Go.Proofs.YtjfkfiffakbagaaGreatDoor


/-
  What a law of bookingskeep keeps while it works on a desk: the desk with its state, blocks of its own, lists that it was told.
-/
namespace Go.Proofs.YtjfkfiffakbagaaGreatDoor
open Go.RowKit
open Desk (Ent St Ids kept booked bookE sumA Items ofB sameB Risen Mid EntOk endsB Inv unitsN listD stepD Rep peakK peakN)

/-- A block that is nobody's. -/
structure KB (W : World) (col : Nat → Option Col) (b : Nat) (o : Obj) : Prop where
  h : W.heap[b]? = some o
  c : col b = none
theorem KB.later {W W' : World} {col : Nat → Option Col} {b : Nat} {o : Obj} (h : KB W col b o) (k : Below W.heap.size W W') : KB W' col b o := ⟨(k.block b (Array.getElem?_eq_some_iff.1 h.h).1).trans h.h, h.c⟩
theorem KB.step {W W' : World} {col col' : Nat → Option Col} {b : Nat} {o : Obj} (h : KB W col b o) (st : Step anyS W.heap.size col col' W W') : KB W' col' b o := by
  obtain ⟨x, y⟩ := st.still h.h h.c
  exact ⟨x, y⟩
/-- The desk, blocks that are kept, lists that were told. -/
def CX (X W : World) (p dk : Nat) (s : St) (ks : List (Nat × Obj)) (es : List (Value × List (Ent × Value))) : Prop :=
  ∃ (r : Raw) (col : Nat → Option Col), DG X W p dk s r col ∧ (∀ q ∈ ks, KB W col q.1 q.2) ∧ ∀ q ∈ es, ERow W 0 col q.1 q.2
theorem CX.of {X W : World} {p dk : Nat} {s : St} {r : Raw} {col : Nat → Option Col} (h : DG X W p dk s r col) : CX X W p dk s [] [] := ⟨r, col, h, by simp, by simp⟩
theorem CX.later {X W W' : World} {p dk : Nat} {s : St} {ks : List (Nat × Obj)} {es : List (Value × List (Ent × Value))} (h : CX X W p dk s ks es) (k : Below W.heap.size W W') : CX X W' p dk s ks es := by
  obtain ⟨r, col, d, b, e⟩ := h
  exact ⟨r, col, d.later k, fun q hq => (b q hq).later k, fun q hq => (e q hq).step (S := anyS) (B := W.heap.size) (Step.below k) (Nat.le_refl _)⟩
theorem CX.drew {X W : World} {p dk : Nat} {s : St} {ks : List (Nat × Obj)} {es : List (Value × List (Ent × Value))} (h : CX X W p dk s ks es) : CX X W.drew p dk s ks es := h.later (blwDrew W)
theorem CX.alloc {X W : World} {p dk : Nat} {s : St} {ks : List (Nat × Obj)} {es : List (Value × List (Ent × Value))} (h : CX X W p dk s ks es) (o : Obj) : CX X (W.alloc o) p dk s ((W.heap.size, o) :: ks) es := by
  obtain ⟨r, col, d, b, e⟩ := h
  have k : Below W.heap.size W (W.alloc o) := (Below.refl _ _).alloc (Nat.le_refl _) _
  refine ⟨r, col, d.later k, fun q hq => ?_, fun q hq => (e q hq).step (S := anyS) (B := W.heap.size) (Step.below k) (Nat.le_refl _)⟩
  rcases List.mem_cons.1 hq with rfl | hq
  · exact ⟨heapNew W o, d.none (Nat.le_refl _)⟩
  · exact (b q hq).later k
theorem CX.env {X W : World} {p dk : Nat} {s : St} {ks : List (Nat × Obj)} {es : List (Value × List (Ent × Value))} (h : CX X W p dk s ks es) : Env W := by
  obtain ⟨r, col, d, _⟩ := h
  exact d.bd.env
theorem CX.inv {X W : World} {p dk : Nat} {s : St} {ks : List (Nat × Obj)} {es : List (Value × List (Ent × Value))} (h : CX X W p dk s ks es) : Inv s := by
  obtain ⟨r, col, d, _⟩ := h
  exact d.inv
theorem CX.bl {X W : World} {p dk : Nat} {s : St} {ks : List (Nat × Obj)} {es : List (Value × List (Ent × Value))} (h : CX X W p dk s ks es) : Below X.heap.size X W := by
  obtain ⟨r, col, d, _⟩ := h
  exact d.bl
theorem CX.kb {X W : World} {p dk : Nat} {s : St} {ks : List (Nat × Obj)} {es : List (Value × List (Ent × Value))} (h : CX X W p dk s ks es) {b : Nat} {o : Obj} (hq : (b, o) ∈ ks) : W.heap[b]? = some o := by
  obtain ⟨r, col, _, k, _⟩ := h
  exact (k _ hq).h
theorem CX.ev {X W : World} {p dk : Nat} {s : St} {ks : List (Nat × Obj)} {es : List (Value × List (Ent × Value))} (h : CX X W p dk s ks es) {v : Value} {l : List (Ent × Value)} (hq : (v, l) ∈ es) : EV W v l := by
  obtain ⟨r, col, _, _, e⟩ := h
  exact (e _ hq).ev
theorem CX.less {X W : World} {p dk : Nat} {s : St} {ks ks' : List (Nat × Obj)} {es es' : List (Value × List (Ent × Value))} (h : CX X W p dk s ks es) (hk : ∀ q ∈ ks', q ∈ ks) (he : ∀ q ∈ es', q ∈ es) : CX X W p dk s ks' es' := by
  obtain ⟨r, col, d, b, e⟩ := h
  exact ⟨r, col, d, fun q hq => b q (hk q hq), fun q hq => e q (he q hq)⟩
theorem CX.step {X W W' : World} {p dk : Nat} {s' : St} {ks : List (Nat × Obj)} {es : List (Value × List (Ent × Value))} {r' : Raw} {col col' : Nat → Option Col} (b : ∀ q ∈ ks, KB W col q.1 q.2) (e : ∀ q ∈ es, ERow W 0 col q.1 q.2) (d : DG X W' p dk s' r' col') (st : Step anyS W.heap.size col col' W W') : CX X W' p dk s' ks es :=
  ⟨r', col', d, fun q hq => (b q hq).step st, fun q hq => (e q hq).step st (Nat.le_refl _)⟩
theorem ERow.low {w : World} {B : Nat} {col : Nat → Option Col} {v : Value} {l : List (Ent × Value)} (h : ERow w B col v l) : ERow w 0 col v l :=
  ⟨ownLow h.own (Nat.zero_le _), h.no, fun p hp => ⟨⟨ownLow (h.sp p hp).1.own (Nat.zero_le _), (h.sp p hp).1.no⟩, (h.sp p hp).2⟩⟩
/-- What Do answers, opened. -/
def CDo (X W : World) (p dk : Nat) (ks : List (Nat × Obj)) (es : List (Value × List (Ent × Value))) (q : St × Rep) (e : Ending) (W' : World) : Prop :=
  ∃ (l : List (Ent × Value)) (a1 a2 a3 a4 : Option Addr) (n2 c1 c2 c3 c4 : Nat), e = .returned (.agg #[.int .i64 q.2.err, .int .i64 q.2.at_, .int .i64 q.2.n, .slice a1 l.length c1, .slice a2 n2 c2, .slice a3 q.2.granted.length c3, .slice a4 q.2.ended.length c4]) ∧
    l.map (·.1) = q.2.entries ∧ CX X W' p dk q.1 ks ((.slice a1 l.length c1, l) :: es) ∧ W.heap.size ≤ W'.heap.size
theorem cdo_of {X W : World} {p dk : Nat} {ks : List (Nat × Obj)} {es : List (Value × List (Ent × Value))} {col : Nat → Option Col} (b : ∀ q ∈ ks, KB W col q.1 q.2) (e : ∀ q ∈ es, ERow W 0 col q.1 q.2) {q : St × Rep} {en : Ending} {W' : World} (h : DoPost X W p dk col q en W') : CDo X W p dk ks es q en W' := by
  obtain ⟨l, a1, a2, a3, a4, n2, c1, c2, c3, c4, r', col', rfl, P⟩ := h
  refine ⟨l, a1, a2, a3, a4, n2, c1, c2, c3, c4, rfl, P.ents, ⟨r', col', P.dg, fun q hq => (b q hq).step P.st, fun q hq => ?_⟩, P.st.size⟩
  rcases List.mem_cons.1 hq with rfl | hq
  · exact P.row.low
  · exact (e q hq).step P.st (Nat.le_refl _)
theorem CX.text {X W : World} {p dk : Nat} {s : St} {ks : List (Nat × Obj)} {es : List (Value × List (Ent × Value))} (h : CX X W p dk s ks es) (t : ByteArray) :
    Calls Tryz.prog 20 #[.pointer (some ⟨p, 0, none⟩), .string t] W fun e W' => CDo X W p dk ks es (stepT s t) e W' := by
  obtain ⟨r, col, d, b, e⟩ := h
  exact (do_text d t).mono fun _ _ k => cdo_of b e k
theorem CX.line {X W : World} {p dk : Nat} {s : St} {ks : List (Nat × Obj)} {es : List (Value × List (Ent × Value))} (h : CX X W p dk s ks es) {t : ByteArray} {v : Value} {l : Desk.Line} (hr : Reads t v) (hv : LV v l) (hl : Desk.LineOk l) {q : St × Rep} (hq : stepD s l = q) :
    Calls Tryz.prog 20 #[.pointer (some ⟨p, 0, none⟩), .string t] W fun e W' => CDo X W p dk ks es q e W' := by
  obtain ⟨r, col, d, b, e⟩ := h
  exact (do_line d hr hv hl hq).mono fun _ _ k => cdo_of b e k
theorem CX.entries {X W : World} {p dk : Nat} {s : St} {ks : List (Nat × Obj)} {es : List (Value × List (Ent × Value))} (h : CX X W p dk s ks es) (nm : ByteArray) (hn : Nm nm) (hu : unitsN nm s.ts ≠ 0) :
    Calls Tryz.prog 19 #[.pointer (some ⟨p, 0, none⟩), .string nm] W fun e W' => ∃ (l : List (Ent × Value)) (a : Option Addr) (c : Nat), e = .returned (.tuple #[.slice a l.length c, .bool true]) ∧ l.map (·.1) = listD nm 0 1048320 s.es ∧ CX X W' p dk s ks ((.slice a l.length c, l) :: es) := by
  obtain ⟨r, col, d, b, e⟩ := h
  refine (entries_any d nm hn hu).mono ?_
  rintro en W' ⟨l, a, c, r', col', rfl, he, row, dg, st⟩
  refine ⟨l, a, c, rfl, he, r', col', dg, fun q hq => (b q hq).step st, fun q hq => ?_⟩
  rcases List.mem_cons.1 hq with rfl | hq
  · exact row.low
  · exact (e q hq).step st (Nat.le_refl _)
theorem CX.played {X W : World} {p dk : Nat} {s : St} {ks : List (Nat × Obj)} {es : List (Value × List (Ent × Value))} (h : CX X W p dk s ks es) {v : Value} {ss : List ByteArray} (hv : TV X v ss) :
    Calls Tryz.prog 18 #[.pointer (some ⟨p, 0, none⟩), v] W fun e W' => ∃ s' : St, e = .returned (.bool true) ∧ After s s' 30 ∧ CX X W' p dk s' ks es := by
  obtain ⟨r, col, d, b, e⟩ := h
  refine (played_any d hv).mono ?_
  rintro en W' ⟨s', r', col', rfl, ha, dg, st⟩
  exact ⟨s', rfl, ha, CX.step b e dg st⟩
/-- The lists lie below. -/
def RowsLow (N : Nat) (es : List (Value × List (Ent × Value))) : Prop := ∀ q ∈ es, (∀ c, q.1.ownBlock = some c → c < N) ∧ ∀ x ∈ q.2, ∀ c, x.2.ownBlock = some c → c < N
theorem CX.rows {X W : World} {p dk : Nat} {s : St} {ks : List (Nat × Obj)} {es : List (Value × List (Ent × Value))} (h : CX X W p dk s ks es) : RowsLow W.heap.size es := by
  obtain ⟨r, col, _, _, e⟩ := h
  exact fun q hq => ⟨fun c hc => ((e q hq).own.lt c hc).2, fun x hx c hc => (((e q hq).sp x hx).1.own.lt c hc).2⟩
theorem ERow.offK {w w' : World} {B : Nat} {col : Nat → Option Col} {v : Value} {l : List (Ent × Value)} (h : ERow w B col v l) {b : Nat} (k : Off [b] w w') (h1 : ∀ c, v.ownBlock = some c → c ≠ b) (h2 : ∀ x ∈ l, ∀ c, x.2.ownBlock = some c → c ≠ b) : ERow w' B col v l :=
  ⟨ownOff h.own k (fun c hc => by simp; exact h1 c hc), h.no, fun x hx => ⟨⟨ownOff (h.sp x hx).1.own k (fun c hc => by simp; exact h2 x hx c hc), (h.sp x hx).1.no⟩, (h.sp x hx).2⟩⟩
/-- A kept block is written anew. -/
theorem CX.put {X W W' : World} {p dk : Nat} {s : St} {ks : List (Nat × Obj)} {es : List (Value × List (Ent × Value))} {b N : Nat} {o o' : Obj} (h : CX X W p dk s ((b, o) :: ks) es) (h10 : 10 ≤ X.heap.size) (hX : X.heap.size ≤ b) (hp : p ≠ b) (hn : ∀ q ∈ ks, q.1 ≠ b) (hr : RowsLow N es) (hN : N ≤ b) (k : Off [b] W W') (hb : W'.heap[b]? = some o') : CX X W' p dk s ((b, o') :: ks) es := by
  obtain ⟨r, col, d, kk, ee⟩ := h
  have hc := (kk (b, o) (List.mem_cons_self ..)).c
  refine ⟨r, col, ?_, fun q hq => ?_, fun q hq => (ee q hq).offK k (fun c hc => by have := (hr q hq).1 c hc; omega) (fun x hx c hc => by have := (hr q hq).2 x hx c hc; omega)⟩
  · have kb : ∀ N, N ≤ X.heap.size → Below N W W' := fun N hN => ⟨k.os, k.tape, k.output, k.size, fun x hx => k.block x (Nat.lt_of_lt_of_le hx (Nat.le_trans hN d.bl.size)) (by simp; omega)⟩
    exact ⟨⟨(k.block p (Array.getElem?_eq_some_iff.1 d.bd.pc).1 (by simp; exact hp)).trans d.bd.pc, d.bd.pn, ⟨d.bd.ds.dk.off k (fun x hx => by have : x = b := List.mem_singleton.1 hx; subst this; exact hc), d.bd.ds.of, d.bd.ds.wl, d.bd.ds.hl, d.bd.ds.inv⟩, d.bd.env.ten (kb 10 h10), d.bd.gl⟩, d.bl.trans (kb _ (Nat.le_refl _)), d.lo⟩
  · rcases List.mem_cons.1 hq with rfl | hq
    · exact ⟨hb, hc⟩
    · have h2 := kk q (List.mem_cons_of_mem _ hq)
      exact ⟨(k.block q.1 (Array.getElem?_eq_some_iff.1 h2.h).1 (by simp; exact hn q hq)).trans h2.h, h2.c⟩
theorem CX.pl {X W : World} {p dk : Nat} {s : St} {ks : List (Nat × Obj)} {es : List (Value × List (Ent × Value))} (h : CX X W p dk s ks es) : p < W.heap.size := by
  obtain ⟨r, col, d, _⟩ := h
  exact (Array.getElem?_eq_some_iff.1 d.bd.pc).1
/-- The names of the two things, in a block. -/
def namesO : Obj := .cells #[.string ⟨#[97]⟩, .string ⟨#[98]⟩] 9 (0, 0)
/-- The name at a place. -/
def nmAt (i : Nat) : ByteArray := if i = 0 then ⟨#[97]⟩ else ⟨#[98]⟩
theorem nmAt_is (i : Nat) : nmAt i = ⟨#[97]⟩ ∨ nmAt i = ⟨#[98]⟩ := by unfold nmAt; split <;> simp
theorem nmAt_nm (i : Nat) : Nm (nmAt i) := by
  rcases nmAt_is i with e | e <;> rw [e]
  · exact nm_a
  · exact nm_b
theorem kNames_at {W : World} {b : Nat} (hb : W.heap[b]? = some namesO) (i : Nat) (hi : i < 2) : W.cell? ⟨b, i, none⟩ = some (.string (nmAt i)) := by
  unfold namesO at hb
  match i, hi with
  | 0, _ => simp only [World.cell?, hb]; rfl
  | 1, _ => simp only [World.cell?, hb]; rfl
  | n + 2, hi => omega
theorem units_pos {a b : Int} (ha : 1 ≤ a) (hb : 1 ≤ b) (i : Nat) : unitsN (nmAt i) (roomS a b).ts ≠ 0 := by
  rcases nmAt_is i with e | e <;> rw [e]
  · have := units_a a b; unfold nmA at this; rw [this]; omega
  · have := units_b a b; unfold nmC at this; rw [this]; omega
theorem entNumK (args : Array Value) (w : World) : (callFunc 21 args).run Tryz.prog w = .ok (.enter 21 args) w := enters_of Tryz.func21 (by kernel_rfl) rfl args w
theorem entDoK (args : Array Value) (w : World) : (callFunc 20 args).run Tryz.prog w = .ok (.enter 20 args) w := enters_of Tryz.func20 (by kernel_rfl) rfl args w
theorem set7_is {W : World} {Q : Nat} (h : W.heap[Q]? = some zeroR) (e a n : Int) (v1 v2 v3 v4 : Value) : (set7 W Q (.int .i64 e) (.int .i64 a) (.int .i64 n) v1 v2 v3 v4).heap[Q]? = some (repO e a n v1 v2 v3 v4) := by
  unfold set7
  exact set_row (set_row (set_row (set_row (set_row (set_row (set_row h _) _) _) _) _) _) _

end Go.Proofs.YtjfkfiffakbagaaGreatDoor

