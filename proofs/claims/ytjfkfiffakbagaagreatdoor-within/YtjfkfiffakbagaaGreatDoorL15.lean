/-
  Parts of the proof, one behind the other: OnWalks, OnRef, OnProg, TakeMore, TakeName, ReadMeth, ReadClaim, ReadList.
-/
import Derived.Test.YtjfkfiffakbagaaGreatDoorL14
import Derived.Deep.RegionHeld3
import Derived.Deep.AppendLies
import Derived.Deep.RegionHeld
/-
  The walks over the readers of ON, both sides.
-/
namespace Go.Proofs.YtjfkfiffakbagaaGreatDoor
open Go.RowKit

/-- The k-th day's letters. -/
def wname (k : Nat) : List UInt8 := match k with | 0 => [109, 111] | 1 => [116, 117] | 2 => [119, 101] | 3 => [116, 104] | 4 => [102, 114] | 5 => [115, 97] | _ => [115, 117]
theorem wd_at {l : List UInt8} {k : Nat} (hk : k < 7) (h : (l == wname k) = true) (hn : ∀ j, j < k → (l == wname j) = false) : Txt.wdL l = k := by
  have e := beq_iff_eq.1 h
  subst e
  rcases (show k = 0 ∨ k = 1 ∨ k = 2 ∨ k = 3 ∨ k = 4 ∨ k = 5 ∨ k = 6 by omega) with rfl | rfl | rfl | rfl | rfl | rfl | rfl <;> decide
theorem wd_none {l : List UInt8} (hn : ∀ j, j < 7 → (l == wname j) = false) : Txt.wdL l = -1 := by
  have h0 := hn 0 (by omega)
  have h1 := hn 1 (by omega)
  have h2 := hn 2 (by omega)
  have h3 := hn 3 (by omega)
  have h4 := hn 4 (by omega)
  have h5 := hn 5 (by omega)
  have h6 := hn 6 (by omega)
  simp only [wname] at h0 h1 h2 h3 h4 h5 h6
  simp [Txt.wdL, h0, h1, h2, h3, h4, h5, h6]
theorem upto_next {l : List UInt8} {k : Nat} (hn : ∀ j, j < k → (l == wname j) = false) (h : (l == wname k) = false) : ∀ j, j < k + 1 → (l == wname j) = false := fun j hj => by
  by_cases e : j = k
  · subst e; exact h
  · exact hn j (by omega)

def wdV (s : ByteArray) : Int := if 0 ≤ Txt.wdL s.data.toList then Txt.wdL s.data.toList else 0
def wdB (s : ByteArray) : Bool := decide (0 ≤ Txt.wdL s.data.toList)

set_option maxRecDepth 100000 in
set_option maxHeartbeats 1000000 in
theorem readWeekday_any (s : ByteArray) (w : World) (he : Env w) :
    Calls Tryz.prog 238 #[.string s] w fun e w' => e = .returned (.tuple #[.int .i64 (wdV s), .bool (wdB s)]) ∧ w' = w := by
  have m0 := he.mo
  have m1 := he.tu
  have m2 := he.we
  have m3 := he.th
  have m4 := he.fr
  have m5 := he.sa
  have m6 := he.su
  have HL := hide (toList_data s)
  clear he
  go_enter Tryz.func238, Tryz.ntmps238
  go_wp2
  go_loop [4, 5] (fun _ i => ∃ k : Nat, k ≤ 7 ∧ i = .int .i64 k ∧ ∀ j, j < k → (s.data.toList == wname j) = false) (fun _ i => 7 - (intOf i).toNat)
  case atStart => exact ⟨0, by omega, rfl, fun j hj => absurd hj (by omega)⟩
  case round =>
    obtain ⟨k, hk, rfl, hn⟩ := hrel
    have HN := hide hn
    clear hn
    rcases (show k = 0 ∨ k = 1 ∨ k = 2 ∨ k = 3 ∨ k = 4 ∨ k = 5 ∨ k = 6 ∨ k = 7 by omega) with rfl | rfl | rfl | rfl | rfl | rfl | rfl | rfl
    · cases hq : ([109, 111] == s.toList)
      · have HQ : Hid ((s.data.toList == wname 0) = false) := by
          show (s.data.toList == wname 0) = false
          rw [← unhide HL, Bool.beq_comm]; exact hq
        go_wp2
        go_round
        case rel => exact ⟨1, by omega, by go_num, upto_next (unhide HN) HQ.out⟩
        case measure => simp [intOf]
      · have HQ : Hid (Txt.wdL s.data.toList = 0) := wd_at (k := 0) (by omega) (by rw [← unhide HL, Bool.beq_comm]; exact hq) (unhide HN)
        go_wp2
        go_ret2
        exact ⟨ret2_ib (by rw [wdV, HQ.out]; rfl) (by rw [wdB, HQ.out]; rfl), rfl⟩
    · cases hq : ([116, 117] == s.toList)
      · have HQ : Hid ((s.data.toList == wname 1) = false) := by
          show (s.data.toList == wname 1) = false
          rw [← unhide HL, Bool.beq_comm]; exact hq
        go_wp2
        go_round
        case rel => exact ⟨2, by omega, by go_num, upto_next (unhide HN) HQ.out⟩
        case measure => simp [intOf]
      · have HQ : Hid (Txt.wdL s.data.toList = 1) := wd_at (k := 1) (by omega) (by rw [← unhide HL, Bool.beq_comm]; exact hq) (unhide HN)
        go_wp2
        go_ret2
        exact ⟨ret2_ib (by rw [wdV, HQ.out]; rfl) (by rw [wdB, HQ.out]; rfl), rfl⟩
    · cases hq : ([119, 101] == s.toList)
      · have HQ : Hid ((s.data.toList == wname 2) = false) := by
          show (s.data.toList == wname 2) = false
          rw [← unhide HL, Bool.beq_comm]; exact hq
        go_wp2
        go_round
        case rel => exact ⟨3, by omega, by go_num, upto_next (unhide HN) HQ.out⟩
        case measure => simp [intOf]
      · have HQ : Hid (Txt.wdL s.data.toList = 2) := wd_at (k := 2) (by omega) (by rw [← unhide HL, Bool.beq_comm]; exact hq) (unhide HN)
        go_wp2
        go_ret2
        exact ⟨ret2_ib (by rw [wdV, HQ.out]; rfl) (by rw [wdB, HQ.out]; rfl), rfl⟩
    · cases hq : ([116, 104] == s.toList)
      · have HQ : Hid ((s.data.toList == wname 3) = false) := by
          show (s.data.toList == wname 3) = false
          rw [← unhide HL, Bool.beq_comm]; exact hq
        go_wp2
        go_round
        case rel => exact ⟨4, by omega, by go_num, upto_next (unhide HN) HQ.out⟩
        case measure => simp [intOf]
      · have HQ : Hid (Txt.wdL s.data.toList = 3) := wd_at (k := 3) (by omega) (by rw [← unhide HL, Bool.beq_comm]; exact hq) (unhide HN)
        go_wp2
        go_ret2
        exact ⟨ret2_ib (by rw [wdV, HQ.out]; rfl) (by rw [wdB, HQ.out]; rfl), rfl⟩
    · cases hq : ([102, 114] == s.toList)
      · have HQ : Hid ((s.data.toList == wname 4) = false) := by
          show (s.data.toList == wname 4) = false
          rw [← unhide HL, Bool.beq_comm]; exact hq
        go_wp2
        go_round
        case rel => exact ⟨5, by omega, by go_num, upto_next (unhide HN) HQ.out⟩
        case measure => simp [intOf]
      · have HQ : Hid (Txt.wdL s.data.toList = 4) := wd_at (k := 4) (by omega) (by rw [← unhide HL, Bool.beq_comm]; exact hq) (unhide HN)
        go_wp2
        go_ret2
        exact ⟨ret2_ib (by rw [wdV, HQ.out]; rfl) (by rw [wdB, HQ.out]; rfl), rfl⟩
    · cases hq : ([115, 97] == s.toList)
      · have HQ : Hid ((s.data.toList == wname 5) = false) := by
          show (s.data.toList == wname 5) = false
          rw [← unhide HL, Bool.beq_comm]; exact hq
        go_wp2
        go_round
        case rel => exact ⟨6, by omega, by go_num, upto_next (unhide HN) HQ.out⟩
        case measure => simp [intOf]
      · have HQ : Hid (Txt.wdL s.data.toList = 5) := wd_at (k := 5) (by omega) (by rw [← unhide HL, Bool.beq_comm]; exact hq) (unhide HN)
        go_wp2
        go_ret2
        exact ⟨ret2_ib (by rw [wdV, HQ.out]; rfl) (by rw [wdB, HQ.out]; rfl), rfl⟩
    · cases hq : ([115, 117] == s.toList)
      · have HQ : Hid ((s.data.toList == wname 6) = false) := by
          show (s.data.toList == wname 6) = false
          rw [← unhide HL, Bool.beq_comm]; exact hq
        go_wp2
        go_round
        case rel => exact ⟨7, by omega, by go_num, upto_next (unhide HN) HQ.out⟩
        case measure => simp [intOf]
      · have HQ : Hid (Txt.wdL s.data.toList = 6) := wd_at (k := 6) (by omega) (by rw [← unhide HL, Bool.beq_comm]; exact hq) (unhide HN)
        go_wp2
        go_ret2
        exact ⟨ret2_ib (by rw [wdV, HQ.out]; rfl) (by rw [wdB, HQ.out]; rfl), rfl⟩
    · have HQ : Hid (Txt.wdL s.data.toList = -1) := wd_none (unhide HN)
      go_wp2
      go_ret2
      exact ⟨ret2_ib (by rw [wdV, HQ.out]; rfl) (by rw [wdB, HQ.out]; rfl), rfl⟩

end Go.Proofs.YtjfkfiffakbagaaGreatDoor


/-
  The walk over the document's own reader of ON.
-/
namespace Go.Proofs.YtjfkfiffakbagaaGreatDoor
open Go.RowKit

/-- Seven days lie in a block: those of acc are named. -/
structure DS (w : World) (b : Nat) (acc : List Int) : Prop where
  c0 : w.cell? ⟨b, 0, none⟩ = some (.bool (isd acc 0))
  c1 : w.cell? ⟨b, 1, none⟩ = some (.bool (isd acc 1))
  c2 : w.cell? ⟨b, 2, none⟩ = some (.bool (isd acc 2))
  c3 : w.cell? ⟨b, 3, none⟩ = some (.bool (isd acc 3))
  c4 : w.cell? ⟨b, 4, none⟩ = some (.bool (isd acc 4))
  c5 : w.cell? ⟨b, 5, none⟩ = some (.bool (isd acc 5))
  c6 : w.cell? ⟨b, 6, none⟩ = some (.bool (isd acc 6))
  f : ∀ j : Nat, w.frozen? ⟨b, j, none⟩ = false
theorem DS.later {w wx : World} {b : Nat} {acc : List Int} (h : DS w b acc) (hb : Below w.heap.size w wx) : DS wx b acc :=
  ⟨cell_later hb h.c0, cell_later hb h.c1, cell_later hb h.c2, cell_later hb h.c3, cell_later hb h.c4, cell_later hb h.c5, cell_later hb h.c6, fun j => (hb.frozen (p := ⟨b, j, none⟩) (show b < w.heap.size from World.block_lt_of_cell? _ ⟨b, 0, none⟩ h.c0)).trans (h.f j)⟩
theorem DS.at {w : World} {b : Nat} {acc : List Int} (h : DS w b acc) (d : Int) (h0 : 0 ≤ d) (h6 : d < 7) : w.cell? ⟨b, d.toNat, none⟩ = some (.bool (isd acc d)) := by
  rcases (show d = 0 ∨ d = 1 ∨ d = 2 ∨ d = 3 ∨ d = 4 ∨ d = 5 ∨ d = 6 by omega) with rfl | rfl | rfl | rfl | rfl | rfl | rfl
  · exact h.c0
  · exact h.c1
  · exact h.c2
  · exact h.c3
  · exact h.c4
  · exact h.c5
  · exact h.c6
theorem set_at {w : World} {b : Nat} {acc : List Int} (d : Int) (h0 : 0 ≤ d) {k : Nat} {u : Value} (hk : w.cell? ⟨b, k, none⟩ = some (.bool (isd acc k))) (_hu : u = .bool true) : (w.setCell ⟨b, d.toNat, none⟩ (.bool true)).cell? ⟨b, k, none⟩ = some (.bool (isd (d :: acc) k)) := by
  by_cases e : d.toNat = k
  · have ed : d = (k : Int) := by omega
    rw [e, World.cell?_setCell_same _ _ _ hk]
    simp [isd, ed]
  · rw [World.cell?_setCell_other _ _ _ _ (by simp), hk]
    have ne : (k : Int) ≠ d := by omega
    simp [isd, ne]
theorem DS.set {w : World} {b : Nat} {acc : List Int} (h : DS w b acc) (d : Int) (h0 : 0 ≤ d) : DS (w.setCell ⟨b, d.toNat, none⟩ (.bool true)) b (d :: acc) :=
  ⟨set_at (k := 0) d h0 h.c0 rfl, set_at (k := 1) d h0 h.c1 rfl, set_at (k := 2) d h0 h.c2 rfl, set_at (k := 3) d h0 h.c3 rfl, set_at (k := 4) d h0 h.c4 rfl, set_at (k := 5) d h0 h.c5 rfl, set_at (k := 6) d h0 h.c6 rfl, fun j => (World.frozen?_setCell ..).trans (h.f j)⟩
theorem ds_other {w : World} {b b' o : Nat} {v : Value} {acc : List Int} (h : DS w b acc) (_hne : b' ≠ b) : DS (w.setCell ⟨b', o, none⟩ v) b acc := by
  have g : ∀ j : Nat, (w.setCell ⟨b', o, none⟩ v).cell? ⟨b, j, none⟩ = w.cell? ⟨b, j, none⟩ := fun j => World.cell?_setCell_other _ _ _ _ (by simp)
  exact ⟨(g 0).trans h.c0, (g 1).trans h.c1, (g 2).trans h.c2, (g 3).trans h.c3, (g 4).trans h.c4, (g 5).trans h.c5, (g 6).trans h.c6, fun j => (World.frozen?_setCell ..).trans (h.f j)⟩
def maskV (acc : List Int) : Value := .agg #[.bool (isd acc 0), .bool (isd acc 1), .bool (isd acc 2), .bool (isd acc 3), .bool (isd acc 4), .bool (isd acc 5), .bool (isd acc 6)]

end Go.Proofs.YtjfkfiffakbagaaGreatDoor


/-
  The walk over the reader of ON of package lines.
-/
namespace Go.Proofs.YtjfkfiffakbagaaGreatDoor
open Go.RowKit

/-- The pieces of a word between its commas. -/
def pcs (s : ByteArray) : List ByteArray := Lib.splitB ⟨#[44]⟩ 0 (Lib.countB s ⟨#[44]⟩) s
theorem pcs_len (s : ByteArray) : (pcs s).length = Lib.countB s ⟨#[44]⟩ + 1 := Lib.splitB_all ⟨#[44]⟩ (by decide) 0 _ s rfl
theorem pcs_on (s : ByteArray) : Txt.onP ((pcs s).map (·.data.toList)) [] = Txt.onW s := Txt.pieces_on s
theorem count_small (s : ByteArray) (h : s.size ≤ 160) : (pcs s).length ≤ 161 := by
  rw [pcs_len]
  have := Lib.countB_le ⟨#[44]⟩ (by decide) s.size s (Nat.le_refl _)
  omega

theorem piece_cell (w : World) (l : List ByteArray) (t : TypeId) (j : Nat) (x : ByteArray) (h : l[j]? = some x) : (w.alloc (.cells (l.map Value.string).toArray t)).cell? ⟨w.heap.size, j, none⟩ = some (.string x) := by
  rw [World.cell?_alloc_at _ _ _ _ rfl]; simp [h]

/-- Where the reading stands behind k pieces. -/
def onPAt (s : ByteArray) (k : Nat) (acc : List Int) : Prop := Txt.onW s = Txt.onP (((pcs s).map (·.data.toList)).drop k) acc
theorem onPAt_step {s : ByteArray} {k : Nat} {acc : List Int} (h : onPAt s k acc) (hk : k < (pcs s).length) : Txt.onW s = (Txt.onStep acc (Txt.wdL (pcs s)[k].data.toList)).bind (Txt.onP (((pcs s).map (·.data.toList)).drop (k + 1))) := by
  rw [h, List.drop_eq_getElem_cons (by simpa using hk)]
  simp [Txt.onP]
theorem onPAt_bad {s : ByteArray} {k : Nat} {acc : List Int} (h : onPAt s k acc) (hk : k < (pcs s).length) (hd : Txt.wdL (pcs s)[k].data.toList < 0 ∨ isd acc (Txt.wdL (pcs s)[k].data.toList) = true) : Txt.onB s = false := by
  have e := onPAt_step h hk
  have bad : Txt.onStep acc (Txt.wdL (pcs s)[k].data.toList) = none := by
    unfold Txt.onStep
    rw [if_neg]
    rintro ⟨q1, q2⟩
    rcases hd with q | q
    · omega
    · unfold isd at q; rw [q] at q2; cases q2
  rw [bad] at e
  unfold Txt.onB; rw [e]; rfl
theorem onPAt_next {s : ByteArray} {k : Nat} {acc : List Int} (h : onPAt s k acc) (hk : k < (pcs s).length) (h0 : 0 ≤ Txt.wdL (pcs s)[k].data.toList) (hm : isd acc (Txt.wdL (pcs s)[k].data.toList) = false) : onPAt s (k + 1) (Txt.wdL (pcs s)[k].data.toList :: acc) := by
  have e := onPAt_step h hk
  have st : Txt.onStep acc (Txt.wdL (pcs s)[k].data.toList) = some (Txt.wdL (pcs s)[k].data.toList :: acc) := by
    unfold Txt.onStep; rw [if_pos ⟨h0, hm⟩]
  rw [st] at e
  exact e
theorem onPAt_end {s : ByteArray} {k : Nat} {acc : List Int} (h : onPAt s k acc) (hk : (pcs s).length ≤ k) : Txt.onW s = some acc := by
  unfold onPAt at h
  rw [List.drop_of_length_le (by simpa using hk)] at h
  exact h

set_option maxRecDepth 100000 in
set_option maxHeartbeats 8000000 in
theorem readOn_any (s : ByteArray) (w : World) (he : Env w) (hm : s.size ≤ 160) :
    Calls Tryz.prog 186 #[.string s] w fun e w' => (∃ acc, e = .returned (.tuple #[maskV acc, .bool (Txt.onB s)]) ∧ (Txt.onB s = true → Txt.onW s = some acc)) ∧ Below w.heap.size w w' := by
  obtain ⟨mx, hmx⟩ := he.maxl
  have HE := hide he
  have hz := he.size
  clear he
  have hcs := count_small s hm
  go_enter Tryz.func186, Tryz.ntmps186
  go_wp2_with fail
  obtain ⟨W, hW⟩ : ∃ W, W = (w.alloc (.cells #[.bool false, .bool false, .bool false, .bool false, .bool false, .bool false, .bool false] 154)).alloc (.cells #[.bool false, .bool false, .bool false, .bool false, .bool false, .bool false, .bool false] 154) := ⟨_, rfl⟩
  rw [← hW]
  have hB : Below w.heap.size w W := by rw [hW]; exact ((Below.refl _ _).alloc (Nat.le_refl _) _).alloc (by simp) _
  have hZ : w.heap.size + 2 = W.heap.size := by rw [hW]; simp
  have dR : DS W w.heap.size [] := by
    rw [hW]
    refine ⟨?_, ?_, ?_, ?_, ?_, ?_, ?_, fun j => ?_⟩ <;> simp [isd]
  have dD : DS W (w.heap.size + 1) [] := by
    rw [hW]
    refine ⟨?_, ?_, ?_, ?_, ?_, ?_, ?_, fun j => ?_⟩ <;> simp [isd]
  have hmW := cell_later hB hmx
  clear hW
  refine (Tryz.strings_Split s ⟨#[44]⟩ mx W (by omega) hmW (by decide)).mono ?_
  rintro e w1 ⟨rfl, hw1⟩
  have hP : ∀ j x, (pcs s)[j]? = some x → w1.cell? ⟨W.heap.size, j, none⟩ = some (.string x) := fun j x hx => by rw [hw1]; exact piece_cell W (pcs s) _ j x hx
  have hb1 : Below W.heap.size W w1 := by rw [hw1]; exact (Below.refl _ _).alloc (Nat.le_refl _) _
  have hZ1 : W.heap.size < w1.heap.size := by rw [hw1]; simp
  clear hw1
  rw [show Lib.countB s ⟨#[44]⟩ + 1 = (pcs s).length from (pcs_len s).symm]
  have HP := hide hP
  have HEW := hide (((unhide HE).later hB).later hb1)
  have dR1 := dR.later hb1
  have dD1 := dD.later hb1
  have hbw : Below w.heap.size w w1 := hB.trans (hb1.mono (by omega))
  clear hP dR dD hB hmW hmx HEW
  go_wp2
  go_loopw [6, 7, 8, 12] (fun _ _ _ i wx => ∃ (k : Nat) (acc : List Int), k ≤ (pcs s).length ∧ i = .int .i64 k ∧ onPAt s k acc ∧ DS wx (w.heap.size + 1) acc ∧ DS wx w.heap.size [] ∧ Below w.heap.size w wx ∧ w1.heap.size ≤ wx.heap.size ∧ (∀ j x, (pcs s)[j]? = some x → wx.cell? ⟨W.heap.size, j, none⟩ = some (.string x))) (fun _ _ _ i _ => (pcs s).length - (intOf i).toNat)
  case atStart => exact ⟨0, [], Nat.zero_le _, rfl, (pcs_on s).symm, dD1, dR1, hbw, Nat.le_refl _, unhide HP⟩
  case round =>
    obtain ⟨k, acc, hk, rfl, hat, hD, hR, hnx, hsz, hpc⟩ := hrel
    have HPC := hide hpc
    clear hpc
    have hEr := hide ((unhide HE).later hnx)
    by_cases hlt : k < (pcs s).length
    · have hc := unhide HPC k (pcs s)[k] (by simp [hlt])
      have hi : (k : Int) < ((pcs s).length : Int) := by omega
      have q0 := hD.c0
      have q1 := hD.c1
      have q2 := hD.c2
      have q3 := hD.c3
      have q4 := hD.c4
      have q5 := hD.c5
      have q6 := hD.c6
      have r0 := hR.c0
      have r1 := hR.c1
      have r2 := hR.c2
      have r3 := hR.c3
      have r4 := hR.c4
      have r5 := hR.c5
      have r6 := hR.c6
      have fR := hR.f
      have fD := hD.f
      have hd := Txt.wdL_bd (pcs s)[k].data.toList
      have HBAD := hide (fun q => onPAt_bad hat hlt q)
      have HNEXT := hide (fun q1 q2 => onPAt_next hat hlt q1 q2)
      clear hat
      go_wp2_with fail
      refine (readWeekday_any _ _ (unhide hEr)).mono ?_
      rintro e w2 ⟨rfl, rfl⟩
      obtain ⟨d, hdd⟩ : ∃ d, d = Txt.wdL (pcs s)[k].data.toList := ⟨_, rfl⟩
      have HV : Hid (wdV (pcs s)[k] = if 0 ≤ d then d else 0) := by show wdV (pcs s)[k] = _; rw [hdd]; rfl
      have HW : Hid (wdB (pcs s)[k] = decide (0 ≤ d)) := by show wdB (pcs s)[k] = _; rw [hdd]; rfl
      rw [← hdd] at hd HBAD HNEXT
      clear hdd
      by_cases hneg : d < 0
      · have HN : Hid (Txt.onB s = false) := unhide HBAD (.inl hneg)
        have HW2 : Hid (wdB (pcs s)[k] = false) := HW.out.trans (decide_eq_false (by omega))
        rw [HW2.out]
        go_wp2
        refine bodyPost_ret (v := .tuple #[maskV [], .bool false]) (by simp [results, Tryz.results186, go_sem, maskV, isd, r0, r1, r2, r3, r4, r5, r6]) rfl ⟨⟨[], ?_, ?_⟩, ?_⟩
        · rw [HN.out]
        · intro h; rw [HN.out] at h; cases h
        · exact (((((((hnx.setCell (Nat.le_refl _) _).setCell (Nat.le_refl _) _).setCell (Nat.le_refl _) _).setCell (Nat.le_refl _) _).setCell (Nat.le_refl _) _).setCell (Nat.le_refl _) _).setCell (Nat.le_refl _) _)
      · have HV2 : Hid (wdV (pcs s)[k] = d) := HV.out.trans (if_pos (by omega))
        have HW2 : Hid (wdB (pcs s)[k] = true) := HW.out.trans (decide_eq_true (by omega))
        rw [HV2.out, HW2.out]
        have hcd := hD.at d (by omega) (by omega)
        cases hmk : isd acc d
        · rw [hmk] at hcd
          have HX : Hid (onPAt s (k + 1) (d :: acc)) := unhide HNEXT (by omega) hmk
          go_wp2
          refine ⟨⟨k + 1, d :: acc, by omega, by go_num, HX.out, ?_, ?_, ?_, ?_, ?_⟩, by simp [intOf]; omega⟩
          · exact hD.set d (by omega)
          · exact ds_other hR (by omega)
          · exact hnx.setCell (by simp) _
          · simp; omega
          · intro j x hx
            exact (World.cell?_setCell_other _ _ _ _ (by simp)).trans (unhide HPC j x hx)
        · rw [hmk] at hcd
          have HN : Hid (Txt.onB s = false) := unhide HBAD (.inr hmk)
          go_wp2
          refine bodyPost_ret (v := .tuple #[maskV [], .bool false]) (by simp [results, Tryz.results186, go_sem, maskV, isd, r0, r1, r2, r3, r4, r5, r6]) rfl ⟨⟨[], ?_, ?_⟩, ?_⟩
          · rw [HN.out]
          · intro h; rw [HN.out] at h; cases h
          · exact (((((((hnx.setCell (Nat.le_refl _) _).setCell (Nat.le_refl _) _).setCell (Nat.le_refl _) _).setCell (Nat.le_refl _) _).setCell (Nat.le_refl _) _).setCell (Nat.le_refl _) _).setCell (Nat.le_refl _) _)
    · have HF : Hid (Txt.onW s = some acc) := onPAt_end hat (by omega)
      have HN : Hid (Txt.onB s = true) := by show Txt.onB s = true; unfold Txt.onB; rw [HF.out]; rfl
      clear hat
      have q0 := hD.c0
      have q1 := hD.c1
      have q2 := hD.c2
      have q3 := hD.c3
      have q4 := hD.c4
      have q5 := hD.c5
      have q6 := hD.c6
      have r0 := hR.c0
      have r1 := hR.c1
      have r2 := hR.c2
      have r3 := hR.c3
      have r4 := hR.c4
      have r5 := hR.c5
      have r6 := hR.c6
      have fR := hR.f
      go_wp2
      refine bodyPost_ret (v := .tuple #[maskV acc, .bool true]) (by simp [results, Tryz.results186, go_sem, maskV, r0, r1, r2, r3, r4, r5, r6]) rfl ⟨⟨acc, ?_, ?_⟩, ?_⟩
      · rw [HN.out]
      · intro _; exact HF.out
      · exact (((((((hnx.setCell (Nat.le_refl _) _).setCell (Nat.le_refl _) _).setCell (Nat.le_refl _) _).setCell (Nat.le_refl _) _).setCell (Nat.le_refl _) _).setCell (Nat.le_refl _) _).setCell (Nat.le_refl _) _)

end Go.Proofs.YtjfkfiffakbagaaGreatDoor


/-
  The reader's take at each reader of words: numbers, dates, minutes, times, numbers within bounds.
-/
namespace Go.Proofs.YtjfkfiffakbagaaGreatDoor
open Go.RowKit

theorem Env.kept {R : Nat} {w w' : World} (h : Env w) (k : Kept R w w') (hR : 10 ≤ R) : Env w' := by
  have hb : Below 10 w w' := k.below hR h.size
  have hc : ∀ (b o : Nat) (v : Value), b < 10 → w.cell? ⟨b, o, none⟩ = some v → w'.cell? ⟨b, o, none⟩ = some v := fun b o v hb' e => (hb.cell (p := ⟨b, o, none⟩) hb').trans e
  obtain ⟨m, hm⟩ := h.maxl
  obtain ⟨c0, c1, c2, c3, c4, c5, c6, c7, c8, c9, c10, c11⟩ := h.tab
  refine ⟨⟨hc _ _ _ (by omega) c0, hc _ _ _ (by omega) c1, hc _ _ _ (by omega) c2, hc _ _ _ (by omega) c3, hc _ _ _ (by omega) c4, hc _ _ _ (by omega) c5, hc _ _ _ (by omega) c6, hc _ _ _ (by omega) c7, hc _ _ _ (by omega) c8, hc _ _ _ (by omega) c9, hc _ _ _ (by omega) c10, hc _ _ _ (by omega) c11⟩, ⟨m, hc _ _ _ (by omega) hm⟩, ?_, Nat.le_trans h.size k.size, hc _ _ _ (by omega) h.mo, hc _ _ _ (by omega) h.tu, hc _ _ _ (by omega) h.we, hc _ _ _ (by omega) h.th, hc _ _ _ (by omega) h.fr, hc _ _ _ (by omega) h.sa, hc _ _ _ (by omega) h.su⟩
  have hp := h.pow
  unfold Lib.TabIs World.var? at hp ⊢
  simp only [gPow, Option.bind_some] at hp ⊢
  rw [hb.block 1 (by omega)]
  exact hp

def withinB (s : ByteArray) (lo hi : Int) : Bool := Txt.isNum s.data.toList && decide (lo ≤ Txt.numV s.data.toList) && decide (Txt.numV s.data.toList ≤ hi)

set_option maxHeartbeats 1000000 in
/-- The closure of number: a number within bounds. -/
theorem within_any (s : ByteArray) (L M : Nat) (lo hi : Int) (w : World) (hs : s.size ≤ 160) (cl : w.cell? ⟨L, 0, none⟩ = some (.int .i64 lo)) (cm : w.cell? ⟨M, 0, none⟩ = some (.int .i64 hi)) :
    Calls Tryz.prog 183 #[.string s, .pointer (some ⟨L, 0, none⟩), .pointer (some ⟨M, 0, none⟩)] w fun e w' => e = .returned (.tuple #[.int .i64 (Txt.numV s.data.toList), .bool (withinB s lo hi)]) ∧ ∃ n, w' = w.drewN n := by
  have hm : s.size ≤ maxLen := by unfold maxLen; omega
  cases hn : Txt.isNum s.data.toList
  · go_enter Tryz.func183, Tryz.ntmps183
    go_wp2_with fail
    refine (readNum_any s w hm).mono ?_
    rintro e w1 ⟨rfl, rfl⟩
    rw [hn]
    go_wp2
    go_quiet (fail)
    go_wp2
    go_ret2
    exact ⟨ret2_ib rfl (by simp [withinB, hn]), _, rfl⟩
  · by_cases g1 : lo ≤ Txt.numV s.data.toList
    · by_cases g2 : Txt.numV s.data.toList ≤ hi
      · go_enter Tryz.func183, Tryz.ntmps183
        go_wp2_with fail
        refine (readNum_any s w hm).mono ?_
        rintro e w1 ⟨rfl, rfl⟩
        rw [hn]
        go_wp2
        go_quiet (fail)
        go_wp2
        go_ret2
        exact ⟨ret2_ib rfl (by simp [withinB, hn, g1, g2]), _, rfl⟩
      · have g2' : decide (Txt.numV s.data.toList ≤ hi) = false := decide_eq_false g2
        go_enter Tryz.func183, Tryz.ntmps183
        go_wp2_with fail
        refine (readNum_any s w hm).mono ?_
        rintro e w1 ⟨rfl, rfl⟩
        rw [hn]
        go_wp2
        go_quiet (fail)
        go_wp2
        go_ret2
        exact ⟨ret2_ib rfl (by simp [withinB, hn, g1, g2']), _, rfl⟩
    · have g1' : decide (lo ≤ Txt.numV s.data.toList) = false := decide_eq_false g1
      go_enter Tryz.func183, Tryz.ntmps183
      go_wp2_with fail
      refine (readNum_any s w hm).mono ?_
      rintro e w1 ⟨rfl, rfl⟩
      rw [hn]
      go_wp2
      go_quiet (fail)
      go_wp2
      go_ret2
      exact ⟨ret2_ib rfl (by simp [withinB, hn, g1']), _, rfl⟩

set_option maxHeartbeats 1000000 in
theorem takeDate_ok (R A : Nat) (ws : List ByteArray) (nx : Nat) (wr : Bool) (w : World) (h : RS w R A ws nx wr) (he : Env w) (hm : moreB ws.length nx wr = true) (hlt : nx < ws.length) (hb : Txt.dayB ws[nx] = true) :
    Calls Tryz.prog 132 #[.pointer (some ⟨R, 0, none⟩), .func (.func 133) #[] #[]] w fun e w' => e = .returned (.int .i64 (dayV ws[nx])) ∧ RS w' R A ws (nx + 1) wr ∧ Kept R w w' := by
  have hi : (nx : Int) < (ws.length : Int) := by omega
  have hsz : ws[nx].size ≤ 160 := h.short _ (List.getElem_mem hlt)
  have HSZ := hide hsz
  clear hsz
  have HE := hide he
  clear he
  go_enter Tryz.func132, Tryz.ntmps132
  go_wp2_with fail
  refine (more_any R A ws nx wr w h).mono ?_
  rintro e w1 ⟨rfl, n, hw⟩
  have h1 : RS w1 R A ws nx wr := by rw [hw]; exact h.drewN n
  have k1 : Kept R w w1 := by rw [hw]; exact (Kept.refl R w).drewN n
  have HE1 : Hid (Env w1) := by show Env w1; rw [hw]; exact (unhide HE).drewN n
  have c0 := h1.c0
  have c1 := h1.c1
  have f1 := h1.f1
  have cr := h1.rows nx hlt
  have hl := h1.len
  clear hw
  go_wp2
  go_quiet ((go_at_call 133; exact Calls.quiet_of_same (readDate_any _ _ ((unhide HE1).drewN _).tab (unhide HSZ))))
  go_wp2
  go_ret
  exact ⟨rfl, (h1.drewN _).step hlt, (k1.drewN _).setCell _ _⟩

set_option maxHeartbeats 1000000 in
theorem takeDate_no (R A : Nat) (ws : List ByteArray) (nx : Nat) (wr : Bool) (w : World) (h : RS w R A ws nx wr) (he : Env w) (hm : moreB ws.length nx wr = true) (hlt : nx < ws.length) (hb : Txt.dayB ws[nx] = false) :
    Calls Tryz.prog 132 #[.pointer (some ⟨R, 0, none⟩), .func (.func 133) #[] #[]] w fun e w' => e = .returned (.int .i64 (0)) ∧ RS w' R A ws nx true ∧ Kept R w w' := by
  have hi : (nx : Int) < (ws.length : Int) := by omega
  have hsz : ws[nx].size ≤ 160 := h.short _ (List.getElem_mem hlt)
  have HSZ := hide hsz
  clear hsz
  have HE := hide he
  clear he
  go_enter Tryz.func132, Tryz.ntmps132
  go_wp2_with fail
  refine (more_any R A ws nx wr w h).mono ?_
  rintro e w1 ⟨rfl, n, hw⟩
  have h1 : RS w1 R A ws nx wr := by rw [hw]; exact h.drewN n
  have k1 : Kept R w w1 := by rw [hw]; exact (Kept.refl R w).drewN n
  have HE1 : Hid (Env w1) := by show Env w1; rw [hw]; exact (unhide HE).drewN n
  have c0 := h1.c0
  have c1 := h1.c1
  have c2 := h1.c2
  have f2 := h1.f2
  have cr := h1.rows nx hlt
  have hl := h1.len
  clear hw
  go_wp2
  go_quiet ((go_at_call 133; exact Calls.quiet_of_same (readDate_any _ _ ((unhide HE1).drewN _).tab (unhide HSZ))))
  go_wp2
  go_ret
  exact ⟨rfl, (h1.drewN _).bad, (k1.drewN _).setCell _ _⟩

theorem small {n : Nat} (h : n ≤ 160) : n ≤ maxLen := by unfold maxLen; omega

set_option maxHeartbeats 1000000 in
theorem takeMinute_ok (R A : Nat) (ws : List ByteArray) (nx : Nat) (wr : Bool) (w : World) (h : RS w R A ws nx wr) (hm : moreB ws.length nx wr = true) (hlt : nx < ws.length) (hb : Txt.minB ws[nx] = true) :
    Calls Tryz.prog 132 #[.pointer (some ⟨R, 0, none⟩), .func (.func 134) #[] #[]] w fun e w' => e = .returned (.int .i64 (Txt.minV ws[nx])) ∧ RS w' R A ws (nx + 1) wr ∧ Kept R w w' := by
  have hi : (nx : Int) < (ws.length : Int) := by omega
  have hsz : ws[nx].size ≤ 160 := h.short _ (List.getElem_mem hlt)
  have HSZ := hide hsz
  clear hsz
  go_enter Tryz.func132, Tryz.ntmps132
  go_wp2_with fail
  refine (more_any R A ws nx wr w h).mono ?_
  rintro e w1 ⟨rfl, n, hw⟩
  have h1 : RS w1 R A ws nx wr := by rw [hw]; exact h.drewN n
  have k1 : Kept R w w1 := by rw [hw]; exact (Kept.refl R w).drewN n
  have c0 := h1.c0
  have c1 := h1.c1
  have f1 := h1.f1
  have cr := h1.rows nx hlt
  have hl := h1.len
  clear hw
  go_wp2
  go_quiet ((go_at_call 134; exact Calls.quiet_of_same (readMinute_any _ _ (small (unhide HSZ)))))
  go_wp2
  go_ret
  exact ⟨rfl, (h1.drewN _).step hlt, (k1.drewN _).setCell _ _⟩

set_option maxHeartbeats 1000000 in
theorem takeMinute_no (R A : Nat) (ws : List ByteArray) (nx : Nat) (wr : Bool) (w : World) (h : RS w R A ws nx wr) (hm : moreB ws.length nx wr = true) (hlt : nx < ws.length) (hb : Txt.minB ws[nx] = false) :
    Calls Tryz.prog 132 #[.pointer (some ⟨R, 0, none⟩), .func (.func 134) #[] #[]] w fun e w' => e = .returned (.int .i64 (0)) ∧ RS w' R A ws nx true ∧ Kept R w w' := by
  have hi : (nx : Int) < (ws.length : Int) := by omega
  have hsz : ws[nx].size ≤ 160 := h.short _ (List.getElem_mem hlt)
  have HSZ := hide hsz
  clear hsz
  go_enter Tryz.func132, Tryz.ntmps132
  go_wp2_with fail
  refine (more_any R A ws nx wr w h).mono ?_
  rintro e w1 ⟨rfl, n, hw⟩
  have h1 : RS w1 R A ws nx wr := by rw [hw]; exact h.drewN n
  have k1 : Kept R w w1 := by rw [hw]; exact (Kept.refl R w).drewN n
  have c0 := h1.c0
  have c1 := h1.c1
  have c2 := h1.c2
  have f2 := h1.f2
  have cr := h1.rows nx hlt
  have hl := h1.len
  clear hw
  go_wp2
  go_quiet ((go_at_call 134; exact Calls.quiet_of_same (readMinute_any _ _ (small (unhide HSZ)))))
  go_wp2
  go_ret
  exact ⟨rfl, (h1.drewN _).bad, (k1.drewN _).setCell _ _⟩

set_option maxHeartbeats 1000000 in
theorem takeTime_ok (R A : Nat) (ws : List ByteArray) (nx : Nat) (wr : Bool) (w : World) (h : RS w R A ws nx wr) (he : Env w) (hm : moreB ws.length nx wr = true) (hlt : nx < ws.length) (hb : timeB ws[nx] = true) :
    Calls Tryz.prog 132 #[.pointer (some ⟨R, 0, none⟩), .func (.func 137) #[] #[]] w fun e w' => e = .returned (.int .i64 (timW ws[nx])) ∧ RS w' R A ws (nx + 1) wr ∧ Kept R w w' := by
  have hi : (nx : Int) < (ws.length : Int) := by omega
  have hsz : ws[nx].size ≤ 160 := h.short _ (List.getElem_mem hlt)
  have HSZ := hide hsz
  clear hsz
  have HE := hide he
  clear he
  go_enter Tryz.func132, Tryz.ntmps132
  go_wp2_with fail
  refine (more_any R A ws nx wr w h).mono ?_
  rintro e w1 ⟨rfl, n, hw⟩
  have h1 : RS w1 R A ws nx wr := by rw [hw]; exact h.drewN n
  have k1 : Kept R w w1 := by rw [hw]; exact (Kept.refl R w).drewN n
  have HE1 : Hid (Env w1) := by show Env w1; rw [hw]; exact (unhide HE).drewN n
  have c0 := h1.c0
  have c1 := h1.c1
  have f1 := h1.f1
  have cr := h1.rows nx hlt
  have hl := h1.len
  clear hw
  go_wp2
  go_quiet ((go_at_call 137; exact Calls.quiet_of (readTime_any _ _ ((unhide HE1).drewN _) (unhide HSZ))))
  go_wp2
  go_ret
  exact ⟨rfl, (h1.drewN _).step hlt, (k1.drewN _).setCell _ _⟩

set_option maxHeartbeats 1000000 in
theorem takeTime_no (R A : Nat) (ws : List ByteArray) (nx : Nat) (wr : Bool) (w : World) (h : RS w R A ws nx wr) (he : Env w) (hm : moreB ws.length nx wr = true) (hlt : nx < ws.length) (hb : timeB ws[nx] = false) :
    Calls Tryz.prog 132 #[.pointer (some ⟨R, 0, none⟩), .func (.func 137) #[] #[]] w fun e w' => e = .returned (.int .i64 (0)) ∧ RS w' R A ws nx true ∧ Kept R w w' := by
  have hi : (nx : Int) < (ws.length : Int) := by omega
  have hsz : ws[nx].size ≤ 160 := h.short _ (List.getElem_mem hlt)
  have HSZ := hide hsz
  clear hsz
  have HE := hide he
  clear he
  go_enter Tryz.func132, Tryz.ntmps132
  go_wp2_with fail
  refine (more_any R A ws nx wr w h).mono ?_
  rintro e w1 ⟨rfl, n, hw⟩
  have h1 : RS w1 R A ws nx wr := by rw [hw]; exact h.drewN n
  have k1 : Kept R w w1 := by rw [hw]; exact (Kept.refl R w).drewN n
  have HE1 : Hid (Env w1) := by show Env w1; rw [hw]; exact (unhide HE).drewN n
  have c0 := h1.c0
  have c1 := h1.c1
  have c2 := h1.c2
  have f2 := h1.f2
  have cr := h1.rows nx hlt
  have hl := h1.len
  clear hw
  go_wp2
  go_quiet ((go_at_call 137; exact Calls.quiet_of (readTime_any _ _ ((unhide HE1).drewN _) (unhide HSZ))))
  go_wp2
  go_ret
  exact ⟨rfl, (h1.drewN _).bad, (k1.drewN _).setCell _ _⟩

set_option maxHeartbeats 1000000 in
theorem takeWithin_ok (L M : Nat) (lo hi : Int) (R A : Nat) (ws : List ByteArray) (nx : Nat) (wr : Bool) (w : World) (h : RS w R A ws nx wr) (cl : w.cell? ⟨L, 0, none⟩ = some (.int .i64 lo)) (cm : w.cell? ⟨M, 0, none⟩ = some (.int .i64 hi)) (hm : moreB ws.length nx wr = true) (hlt : nx < ws.length) (hb : withinB ws[nx] lo hi = true) :
    Calls Tryz.prog 132 #[.pointer (some ⟨R, 0, none⟩), .func (.func 183) #[] #[.pointer (some ⟨L, 0, none⟩), .pointer (some ⟨M, 0, none⟩)]] w fun e w' => e = .returned (.int .i64 (Txt.numV ws[nx].data.toList)) ∧ RS w' R A ws (nx + 1) wr ∧ Kept R w w' := by
  have hib : (nx : Int) < (ws.length : Int) := by omega
  have hsz : ws[nx].size ≤ 160 := h.short _ (List.getElem_mem hlt)
  have HSZ := hide hsz
  clear hsz
  go_enter Tryz.func132, Tryz.ntmps132
  go_wp2_with fail
  refine (more_any R A ws nx wr w h).mono ?_
  rintro e w1 ⟨rfl, n, hw⟩
  have h1 : RS w1 R A ws nx wr := by rw [hw]; exact h.drewN n
  have k1 : Kept R w w1 := by rw [hw]; exact (Kept.refl R w).drewN n
  have cl1 : Hid (w1.cell? ⟨L, 0, none⟩ = some (.int .i64 lo)) := by show w1.cell? _ = _; rw [hw]; exact cl
  have cm1 : Hid (w1.cell? ⟨M, 0, none⟩ = some (.int .i64 hi)) := by show w1.cell? _ = _; rw [hw]; exact cm
  clear cl cm
  have c0 := h1.c0
  have c1 := h1.c1
  have f1 := h1.f1
  have cr := h1.rows nx hlt
  have hl := h1.len
  clear hw
  go_wp2
  go_quiet ((go_at_call 183; exact Calls.quiet_of (within_any _ L M lo hi _ (unhide HSZ) (unhide cl1) (unhide cm1))))
  go_wp2
  go_ret
  exact ⟨rfl, (h1.drewN _).step hlt, (k1.drewN _).setCell _ _⟩

set_option maxHeartbeats 1000000 in
theorem takeWithin_no (L M : Nat) (lo hi : Int) (R A : Nat) (ws : List ByteArray) (nx : Nat) (wr : Bool) (w : World) (h : RS w R A ws nx wr) (cl : w.cell? ⟨L, 0, none⟩ = some (.int .i64 lo)) (cm : w.cell? ⟨M, 0, none⟩ = some (.int .i64 hi)) (hm : moreB ws.length nx wr = true) (hlt : nx < ws.length) (hb : withinB ws[nx] lo hi = false) :
    Calls Tryz.prog 132 #[.pointer (some ⟨R, 0, none⟩), .func (.func 183) #[] #[.pointer (some ⟨L, 0, none⟩), .pointer (some ⟨M, 0, none⟩)]] w fun e w' => e = .returned (.int .i64 (0)) ∧ RS w' R A ws nx true ∧ Kept R w w' := by
  have hib : (nx : Int) < (ws.length : Int) := by omega
  have hsz : ws[nx].size ≤ 160 := h.short _ (List.getElem_mem hlt)
  have HSZ := hide hsz
  clear hsz
  go_enter Tryz.func132, Tryz.ntmps132
  go_wp2_with fail
  refine (more_any R A ws nx wr w h).mono ?_
  rintro e w1 ⟨rfl, n, hw⟩
  have h1 : RS w1 R A ws nx wr := by rw [hw]; exact h.drewN n
  have k1 : Kept R w w1 := by rw [hw]; exact (Kept.refl R w).drewN n
  have cl1 : Hid (w1.cell? ⟨L, 0, none⟩ = some (.int .i64 lo)) := by show w1.cell? _ = _; rw [hw]; exact cl
  have cm1 : Hid (w1.cell? ⟨M, 0, none⟩ = some (.int .i64 hi)) := by show w1.cell? _ = _; rw [hw]; exact cm
  clear cl cm
  have c0 := h1.c0
  have c1 := h1.c1
  have c2 := h1.c2
  have f2 := h1.f2
  have cr := h1.rows nx hlt
  have hl := h1.len
  clear hw
  go_wp2
  go_quiet ((go_at_call 183; exact Calls.quiet_of (within_any _ L M lo hi _ (unhide HSZ) (unhide cl1) (unhide cm1))))
  go_wp2
  go_ret
  exact ⟨rfl, (h1.drewN _).bad, (k1.drewN _).setCell _ _⟩

end Go.Proofs.YtjfkfiffakbagaaGreatDoor


/-
  The reader's take at names and at ON: readers that make memory.
-/
namespace Go.Proofs.YtjfkfiffakbagaaGreatDoor
open Go.RowKit

set_option maxHeartbeats 1000000 in
theorem takeStr_end (f : Value) (R A : Nat) (ws : List ByteArray) (nx : Nat) (wr : Bool) (w : World) (h : RS w R A ws nx wr) (hm : moreB ws.length nx wr = false) :
    Calls Tryz.prog 127 #[.pointer (some ⟨R, 0, none⟩), f] w fun e w' => e = .returned (.string ⟨#[]⟩) ∧ RS w' R A ws nx true ∧ Kept R w w' := by
  go_enter Tryz.func127, Tryz.ntmps127
  go_wp2_with fail
  refine (more_any R A ws nx wr w h).mono ?_
  rintro e w1 ⟨rfl, n, hw⟩
  have h1 : RS w1 R A ws nx wr := by rw [hw]; exact h.drewN n
  have k1 : Kept R w w1 := by rw [hw]; exact (Kept.refl R w).drewN n
  have c2 := h1.c2
  have f2 := h1.f2
  clear hw
  go_wp2
  go_ret
  exact ⟨rfl, h1.bad, k1.setCell _ _⟩

set_option maxRecDepth 100000 in
set_option maxHeartbeats 2000000 in
theorem takeName_ok (R A : Nat) (ws : List ByteArray) (nx : Nat) (wr : Bool) (w : World) (h : RS w R A ws nx wr) (hm : moreB ws.length nx wr = true) (hlt : nx < ws.length) (hb : Txt.isName ws[nx].data.toList = true) :
    Calls Tryz.prog 127 #[.pointer (some ⟨R, 0, none⟩), .func (.func 128) #[] #[]] w fun e w' => e = .returned (.string (nameV ws[nx])) ∧ RS w' R A ws (nx + 1) wr ∧ Kept R w w' := by
  have hi : (nx : Int) < (ws.length : Int) := by omega
  have hi0 : (0 : Int) ≤ (nx : Int) := Int.natCast_nonneg _
  have hsz : ws[nx].size ≤ 160 := h.short _ (List.getElem_mem hlt)
  have HSZ := hide hsz
  clear hsz
  go_enter Tryz.func127, Tryz.ntmps127
  go_wp2_with fail
  refine (more_any R A ws nx wr w h).mono ?_
  rintro e w1 ⟨rfl, n, hw⟩
  have h1 : RS w1 R A ws nx wr := by rw [hw]; exact h.drewN n
  have k1 : Kept R w w1 := by rw [hw]; exact (Kept.refl R w).drewN n
  have c0 := h1.c0
  have c1 := h1.c1
  have cr := h1.rows nx hlt
  have hl := h1.len
  clear hw
  go_wp2_with fail
  go_region_held3 (fun w' => w'.cell? ⟨R, 0, none⟩ = some (.slice (some ⟨A, 0, none⟩) ws.length ws.length) ∧ w'.cell? ⟨R, 1, none⟩ = some (.int .i64 nx) ∧ w'.cell? ⟨A, nx, none⟩ = some (.string ws[nx]))
    (first
      | go_keep
      | (go_split_ands
         refine ⟨?_, ?_, ?_⟩
         · exact cell_later hbf (by assumption)
         · exact cell_later hbf (by assumption)
         · exact cell_later hbf (by assumption)))
    ((go_at_call 128; refine (readName_any _ _ (unhide HSZ)).mono ?_; rintro e w4 ⟨rfl, hbf⟩))
  have hbf' : Below w1.heap.size w1 w4 := ⟨hbf.os, hbf.tape, hbf.output, hbf.size, hbf.block⟩
  have h4 := h1.of_below hbf'
  have k4 := k1.trans (Kept.of_below hbf')
  have d1 := h4.c1
  have d2 := h4.c2
  have g1 := h4.f1
  have g2 := h4.f2
  clear c0 c1 cr
  go_wp2
  go_ret
  exact ⟨rfl, h4.step hlt, k4.setCell _ _⟩

set_option maxRecDepth 100000 in
set_option maxHeartbeats 2000000 in
theorem takeName_no (R A : Nat) (ws : List ByteArray) (nx : Nat) (wr : Bool) (w : World) (h : RS w R A ws nx wr) (hm : moreB ws.length nx wr = true) (hlt : nx < ws.length) (hb : Txt.isName ws[nx].data.toList = false) :
    Calls Tryz.prog 127 #[.pointer (some ⟨R, 0, none⟩), .func (.func 128) #[] #[]] w fun e w' => e = .returned (.string ⟨#[]⟩) ∧ RS w' R A ws nx true ∧ Kept R w w' := by
  have hi : (nx : Int) < (ws.length : Int) := by omega
  have hi0 : (0 : Int) ≤ (nx : Int) := Int.natCast_nonneg _
  have hsz : ws[nx].size ≤ 160 := h.short _ (List.getElem_mem hlt)
  have HSZ := hide hsz
  clear hsz
  go_enter Tryz.func127, Tryz.ntmps127
  go_wp2_with fail
  refine (more_any R A ws nx wr w h).mono ?_
  rintro e w1 ⟨rfl, n, hw⟩
  have h1 : RS w1 R A ws nx wr := by rw [hw]; exact h.drewN n
  have k1 : Kept R w w1 := by rw [hw]; exact (Kept.refl R w).drewN n
  have c0 := h1.c0
  have c1 := h1.c1
  have cr := h1.rows nx hlt
  have hl := h1.len
  clear hw
  go_wp2_with fail
  go_region_held3 (fun w' => w'.cell? ⟨R, 0, none⟩ = some (.slice (some ⟨A, 0, none⟩) ws.length ws.length) ∧ w'.cell? ⟨R, 1, none⟩ = some (.int .i64 nx) ∧ w'.cell? ⟨A, nx, none⟩ = some (.string ws[nx]))
    (first
      | go_keep
      | (go_split_ands
         refine ⟨?_, ?_, ?_⟩
         · exact cell_later hbf (by assumption)
         · exact cell_later hbf (by assumption)
         · exact cell_later hbf (by assumption)))
    ((go_at_call 128; refine (readName_any _ _ (unhide HSZ)).mono ?_; rintro e w4 ⟨rfl, hbf⟩))
  have hbf' : Below w1.heap.size w1 w4 := ⟨hbf.os, hbf.tape, hbf.output, hbf.size, hbf.block⟩
  have h4 := h1.of_below hbf'
  have k4 := k1.trans (Kept.of_below hbf')
  have d1 := h4.c1
  have d2 := h4.c2
  have g1 := h4.f1
  have g2 := h4.f2
  clear c0 c1 cr
  go_wp2
  go_ret
  exact ⟨rfl, h4.bad, k4.setCell _ _⟩

theorem tk_end {ws : List ByteArray} {nx : Nat} {wr : Bool} {B : ByteArray → Bool} (h : moreB ws.length nx wr = false) : tkB ws nx wr B = false := by simp [tkB, h]
theorem tk_is {ws : List ByteArray} {nx : Nat} {wr : Bool} {B : ByteArray → Bool} {b : Bool} (h : moreB ws.length nx wr = true) (hlt : nx < ws.length) (hb : B ws[nx] = b) : tkB ws nx wr B = b := by
  rw [tkB, h, getD_lt ws nx hlt, hb, Bool.true_and]

theorem takeNum_any (R A : Nat) (ws : List ByteArray) (nx : Nat) (wr : Bool) (w : World) (h : RS w R A ws nx wr) :
    Calls Tryz.prog 132 #[.pointer (some ⟨R, 0, none⟩), .func (.func 136) #[] #[]] w fun e w' => e = .returned (.int .i64 (tkV ws nx wr (fun s => Txt.isNum s.data.toList) (fun s => Txt.numV s.data.toList))) ∧ RS w' R A ws (tkN ws nx wr (fun s => Txt.isNum s.data.toList)) (tkW ws nx wr (fun s => Txt.isNum s.data.toList)) ∧ Kept R w w' := by
  cases hm : moreB ws.length nx wr
  · have t := tk_end (B := (fun s => Txt.isNum s.data.toList)) hm
    rw [tkV, tkN, tkW, t]
    exact takeInt_end _ R A ws nx wr w h hm
  · have hlt := moreB_lt hm
    cases hb : (fun s => Txt.isNum s.data.toList) ws[nx]
    · have t := tk_is (B := (fun s => Txt.isNum s.data.toList)) hm hlt hb
      rw [tkV, tkN, tkW, t]
      exact takeNum_no R A ws nx wr w h hm hlt (small (h.short _ (List.getElem_mem hlt))) hb
    · have t := tk_is (B := (fun s => Txt.isNum s.data.toList)) hm hlt hb
      rw [tkV, tkN, tkW, t, getD_lt ws nx hlt]
      exact takeNum_ok R A ws nx wr w h hm hlt (small (h.short _ (List.getElem_mem hlt))) hb

theorem takeDate_any (R A : Nat) (ws : List ByteArray) (nx : Nat) (wr : Bool) (w : World) (h : RS w R A ws nx wr) (he : Env w) :
    Calls Tryz.prog 132 #[.pointer (some ⟨R, 0, none⟩), .func (.func 133) #[] #[]] w fun e w' => e = .returned (.int .i64 (tkV ws nx wr Txt.dayB dayV)) ∧ RS w' R A ws (tkN ws nx wr Txt.dayB) (tkW ws nx wr Txt.dayB) ∧ Kept R w w' := by
  cases hm : moreB ws.length nx wr
  · have t := tk_end (B := Txt.dayB) hm
    rw [tkV, tkN, tkW, t]
    exact takeInt_end _ R A ws nx wr w h hm
  · have hlt := moreB_lt hm
    cases hb : Txt.dayB ws[nx]
    · have t := tk_is (B := Txt.dayB) hm hlt hb
      rw [tkV, tkN, tkW, t]
      exact takeDate_no R A ws nx wr w h he hm hlt hb
    · have t := tk_is (B := Txt.dayB) hm hlt hb
      rw [tkV, tkN, tkW, t, getD_lt ws nx hlt]
      exact takeDate_ok R A ws nx wr w h he hm hlt hb

theorem takeMinute_any (R A : Nat) (ws : List ByteArray) (nx : Nat) (wr : Bool) (w : World) (h : RS w R A ws nx wr) :
    Calls Tryz.prog 132 #[.pointer (some ⟨R, 0, none⟩), .func (.func 134) #[] #[]] w fun e w' => e = .returned (.int .i64 (tkV ws nx wr Txt.minB Txt.minV)) ∧ RS w' R A ws (tkN ws nx wr Txt.minB) (tkW ws nx wr Txt.minB) ∧ Kept R w w' := by
  cases hm : moreB ws.length nx wr
  · have t := tk_end (B := Txt.minB) hm
    rw [tkV, tkN, tkW, t]
    exact takeInt_end _ R A ws nx wr w h hm
  · have hlt := moreB_lt hm
    cases hb : Txt.minB ws[nx]
    · have t := tk_is (B := Txt.minB) hm hlt hb
      rw [tkV, tkN, tkW, t]
      exact takeMinute_no R A ws nx wr w h hm hlt hb
    · have t := tk_is (B := Txt.minB) hm hlt hb
      rw [tkV, tkN, tkW, t, getD_lt ws nx hlt]
      exact takeMinute_ok R A ws nx wr w h hm hlt hb

theorem takeTime_any (R A : Nat) (ws : List ByteArray) (nx : Nat) (wr : Bool) (w : World) (h : RS w R A ws nx wr) (he : Env w) :
    Calls Tryz.prog 132 #[.pointer (some ⟨R, 0, none⟩), .func (.func 137) #[] #[]] w fun e w' => e = .returned (.int .i64 (tkV ws nx wr timeB timW)) ∧ RS w' R A ws (tkN ws nx wr timeB) (tkW ws nx wr timeB) ∧ Kept R w w' := by
  cases hm : moreB ws.length nx wr
  · have t := tk_end (B := timeB) hm
    rw [tkV, tkN, tkW, t]
    exact takeInt_end _ R A ws nx wr w h hm
  · have hlt := moreB_lt hm
    cases hb : timeB ws[nx]
    · have t := tk_is (B := timeB) hm hlt hb
      rw [tkV, tkN, tkW, t]
      exact takeTime_no R A ws nx wr w h he hm hlt hb
    · have t := tk_is (B := timeB) hm hlt hb
      rw [tkV, tkN, tkW, t, getD_lt ws nx hlt]
      exact takeTime_ok R A ws nx wr w h he hm hlt hb

theorem takeWithin_any (L M : Nat) (lo hi : Int) (R A : Nat) (ws : List ByteArray) (nx : Nat) (wr : Bool) (w : World) (h : RS w R A ws nx wr) (cl : w.cell? ⟨L, 0, none⟩ = some (.int .i64 lo)) (cm : w.cell? ⟨M, 0, none⟩ = some (.int .i64 hi)) :
    Calls Tryz.prog 132 #[.pointer (some ⟨R, 0, none⟩), .func (.func 183) #[] #[.pointer (some ⟨L, 0, none⟩), .pointer (some ⟨M, 0, none⟩)]] w fun e w' => e = .returned (.int .i64 (tkV ws nx wr (fun s => withinB s lo hi) (fun s => Txt.numV s.data.toList))) ∧ RS w' R A ws (tkN ws nx wr (fun s => withinB s lo hi)) (tkW ws nx wr (fun s => withinB s lo hi)) ∧ Kept R w w' := by
  cases hm : moreB ws.length nx wr
  · have t := tk_end (B := (fun s => withinB s lo hi)) hm
    rw [tkV, tkN, tkW, t]
    exact takeInt_end _ R A ws nx wr w h hm
  · have hlt := moreB_lt hm
    cases hb : (fun s => withinB s lo hi) ws[nx]
    · have t := tk_is (B := (fun s => withinB s lo hi)) hm hlt hb
      rw [tkV, tkN, tkW, t]
      exact takeWithin_no L M lo hi R A ws nx wr w h cl cm hm hlt hb
    · have t := tk_is (B := (fun s => withinB s lo hi)) hm hlt hb
      rw [tkV, tkN, tkW, t, getD_lt ws nx hlt]
      exact takeWithin_ok L M lo hi R A ws nx wr w h cl cm hm hlt hb

def tkS (ws : List ByteArray) (nx : Nat) (wr : Bool) : ByteArray := if tkB ws nx wr (fun s => Txt.isName s.data.toList) then nameV (ws.getD nx ByteArray.empty) else ⟨#[]⟩
theorem takeName_any (R A : Nat) (ws : List ByteArray) (nx : Nat) (wr : Bool) (w : World) (h : RS w R A ws nx wr) :
    Calls Tryz.prog 127 #[.pointer (some ⟨R, 0, none⟩), .func (.func 128) #[] #[]] w fun e w' => e = .returned (.string (tkS ws nx wr)) ∧ RS w' R A ws (tkN ws nx wr (fun s => Txt.isName s.data.toList)) (tkW ws nx wr (fun s => Txt.isName s.data.toList)) ∧ Kept R w w' := by
  cases hm : moreB ws.length nx wr
  · have t := tk_end (B := fun s => Txt.isName s.data.toList) hm
    rw [tkS, tkN, tkW, t]
    exact takeStr_end _ R A ws nx wr w h hm
  · have hlt := moreB_lt hm
    cases hb : Txt.isName ws[nx].data.toList
    · have t := tk_is (B := fun s => Txt.isName s.data.toList) hm hlt hb
      rw [tkS, tkN, tkW, t]
      exact takeName_no R A ws nx wr w h hm hlt hb
    · have t := tk_is (B := fun s => Txt.isName s.data.toList) hm hlt hb
      rw [tkS, tkN, tkW, t, getD_lt ws nx hlt]
      exact takeName_ok R A ws nx wr w h hm hlt hb

end Go.Proofs.YtjfkfiffakbagaaGreatDoor


/-
  The reader's methods for each kind of word.
-/
namespace Go.Proofs.YtjfkfiffakbagaaGreatDoor
open Go.RowKit

set_option maxHeartbeats 1000000 in
theorem rnumber_any (lo hi : Int) (R A : Nat) (ws : List ByteArray) (nx : Nat) (wr : Bool) (w : World) (h : RS w R A ws nx wr) :
    Calls Tryz.prog 129 #[.pointer (some ⟨R, 0, none⟩), .int .i64 lo, .int .i64 hi] w fun e w' => e = .returned (.int .i64 (tkV ws nx wr (fun s => withinB s lo hi) (fun s => Txt.numV s.data.toList))) ∧ RS w' R A ws (tkN ws nx wr (fun s => withinB s lo hi)) (tkW ws nx wr (fun s => withinB s lo hi)) ∧ Kept R w w' := by
  go_enter Tryz.func129, Tryz.ntmps129
  go_wp2_with fail
  obtain ⟨X, hX⟩ : ∃ X, X = (w.alloc (.cells #[.int .i64 lo] 3)).alloc (.cells #[.int .i64 hi] 3) := ⟨_, rfl⟩
  rw [← hX]
  have hb : Below w.heap.size w X := by rw [hX]; exact ((Below.refl _ _).alloc (Nat.le_refl _) _).alloc (by simp) _
  have cl : X.cell? ⟨w.heap.size, 0, none⟩ = some (.int .i64 lo) := by rw [hX]; simp
  have cm : X.cell? ⟨w.heap.size + 1, 0, none⟩ = some (.int .i64 hi) := by rw [hX]; simp
  clear hX
  refine (takeWithin_any w.heap.size (w.heap.size + 1) lo hi R A ws nx wr X (h.of_below hb) cl cm).mono ?_
  rintro e w1 ⟨rfl, h1, k1⟩
  have kk := (Kept.of_below (R := R) hb).trans k1
  go_wp2
  go_ret
  exact ⟨rfl, h1, kk⟩

set_option maxHeartbeats 400000 in
theorem rname_any (R A : Nat) (ws : List ByteArray) (nx : Nat) (wr : Bool) (w : World) (h : RS w R A ws nx wr) :
    Calls Tryz.prog 83 #[.pointer (some ⟨R, 0, none⟩)] w fun e w' => e = .returned (.string (tkS ws nx wr)) ∧ RS w' R A ws (tkN ws nx wr (fun s => Txt.isName s.data.toList)) (tkW ws nx wr (fun s => Txt.isName s.data.toList)) ∧ Kept R w w' := by
  go_enter Tryz.func83, Tryz.ntmps83
  go_wp2_with fail
  refine (takeName_any R A ws nx wr w h).mono ?_
  rintro e w1 ⟨rfl, h1, k1⟩
  go_wp2
  go_ret
  exact ⟨rfl, h1, k1⟩

set_option maxHeartbeats 400000 in
theorem rid_any (R A : Nat) (ws : List ByteArray) (nx : Nat) (wr : Bool) (w : World) (h : RS w R A ws nx wr) :
    Calls Tryz.prog 88 #[.pointer (some ⟨R, 0, none⟩)] w fun e w' => e = .returned (.int .i64 (tkV ws nx wr (fun s => Txt.isNum s.data.toList) (fun s => Txt.numV s.data.toList))) ∧ RS w' R A ws (tkN ws nx wr (fun s => Txt.isNum s.data.toList)) (tkW ws nx wr (fun s => Txt.isNum s.data.toList)) ∧ Kept R w w' := by
  go_enter Tryz.func88, Tryz.ntmps88
  go_wp2_with fail
  refine (takeNum_any R A ws nx wr w h).mono ?_
  rintro e w1 ⟨rfl, h1, k1⟩
  go_wp2
  go_ret
  exact ⟨rfl, h1, k1⟩

set_option maxHeartbeats 400000 in
theorem runits_any (R A : Nat) (ws : List ByteArray) (nx : Nat) (wr : Bool) (w : World) (h : RS w R A ws nx wr) :
    Calls Tryz.prog 84 #[.pointer (some ⟨R, 0, none⟩)] w fun e w' => e = .returned (.int .i64 (tkV ws nx wr (fun s => withinB s 1 9) (fun s => Txt.numV s.data.toList))) ∧ RS w' R A ws (tkN ws nx wr (fun s => withinB s 1 9)) (tkW ws nx wr (fun s => withinB s 1 9)) ∧ Kept R w w' := by
  go_enter Tryz.func84, Tryz.ntmps84
  go_wp2_with fail
  refine (rnumber_any 1 9 R A ws nx wr w h).mono ?_
  rintro e w1 ⟨rfl, h1, k1⟩
  go_wp2
  go_ret
  exact ⟨rfl, h1, k1⟩

set_option maxHeartbeats 400000 in
theorem rminutes_any (R A : Nat) (ws : List ByteArray) (nx : Nat) (wr : Bool) (w : World) (h : RS w R A ws nx wr) :
    Calls Tryz.prog 86 #[.pointer (some ⟨R, 0, none⟩)] w fun e w' => e = .returned (.int .i64 (tkV ws nx wr (fun s => withinB s 1 1048320) (fun s => Txt.numV s.data.toList))) ∧ RS w' R A ws (tkN ws nx wr (fun s => withinB s 1 1048320)) (tkW ws nx wr (fun s => withinB s 1 1048320)) ∧ Kept R w w' := by
  go_enter Tryz.func86, Tryz.ntmps86
  go_wp2_with fail
  refine (rnumber_any 1 1048320 R A ws nx wr w h).mono ?_
  rintro e w1 ⟨rfl, h1, k1⟩
  go_wp2
  go_ret
  exact ⟨rfl, h1, k1⟩

set_option maxHeartbeats 400000 in
theorem revery_any (R A : Nat) (ws : List ByteArray) (nx : Nat) (wr : Bool) (w : World) (h : RS w R A ws nx wr) :
    Calls Tryz.prog 184 #[.pointer (some ⟨R, 0, none⟩)] w fun e w' => e = .returned (.int .i64 (tkV ws nx wr (fun s => withinB s 1 99) (fun s => Txt.numV s.data.toList))) ∧ RS w' R A ws (tkN ws nx wr (fun s => withinB s 1 99)) (tkW ws nx wr (fun s => withinB s 1 99)) ∧ Kept R w w' := by
  go_enter Tryz.func184, Tryz.ntmps184
  go_wp2_with fail
  refine (rnumber_any 1 99 R A ws nx wr w h).mono ?_
  rintro e w1 ⟨rfl, h1, k1⟩
  go_wp2
  go_ret
  exact ⟨rfl, h1, k1⟩

theorem RS.other {w : World} {R A b o : Nat} {v : Value} {ws : List ByteArray} {nx : Nat} {wr : Bool} (h : RS w R A ws nx wr) (hR : b ≠ R) (hA : 0 < ws.length → b ≠ A) : RS (w.setCell ⟨b, o, none⟩ v) R A ws nx wr := by
  have g : ∀ j : Nat, (w.setCell ⟨b, o, none⟩ v).cell? ⟨R, j, none⟩ = w.cell? ⟨R, j, none⟩ := fun j => World.cell?_setCell_far w ⟨b, o, none⟩ ⟨R, j, none⟩ v hR
  refine ⟨(g 0).trans h.c0, (g 1).trans h.c1, (g 2).trans h.c2, (World.frozen?_setCell ..).trans h.f1, (World.frozen?_setCell ..).trans h.f2, h.ne, fun i hi => ?_, h.len, h.nxle, h.short⟩
  exact (World.cell?_setCell_far w ⟨b, o, none⟩ ⟨A, i, none⟩ v (hA (by omega))).trans (h.rows i hi)
theorem RS.lt {w : World} {R A : Nat} {ws : List ByteArray} {nx : Nat} {wr : Bool} (h : RS w R A ws nx wr) : R < w.heap.size ∧ (0 < ws.length → A < w.heap.size) :=
  ⟨World.block_lt_of_cell? _ ⟨R, 0, none⟩ h.c0, fun hl => World.block_lt_of_cell? _ ⟨A, 0, none⟩ (h.rows 0 hl)⟩
theorem Kept.setNew {R b o : Nat} {w w' : World} (h : Kept R w w') (hb : w.heap.size ≤ b) (v : Value) : Kept R w (w'.setCell ⟨b, o, none⟩ v) :=
  ⟨(Below.setCell (B := 0) (Below.refl 0 w') (p := ⟨b, o, none⟩) (Nat.zero_le _) v).os.trans h.os, (Below.setCell (B := 0) (Below.refl 0 w') (p := ⟨b, o, none⟩) (Nat.zero_le _) v).tape.trans h.tape, (Below.setCell (B := 0) (Below.refl 0 w') (p := ⟨b, o, none⟩) (Nat.zero_le _) v).output.trans h.output, Nat.le_trans h.size (Below.setCell (B := 0) (Below.refl 0 w') (p := ⟨b, o, none⟩) (Nat.zero_le _) v).size, fun k hk hr => (Below.heap_setCell w' ⟨b, o, none⟩ v k (show k ≠ b by omega)).trans (h.block k hk hr)⟩
theorem Kept.frozen {R : Nat} {w w' : World} (h : Kept R w w') {b o : Nat} (hne : b ≠ R) (hb : b < w.heap.size) : w'.frozen? ⟨b, o, none⟩ = w.frozen? ⟨b, o, none⟩ := World.frozen?_of_block (w := w) (h.block b hb hne)

/-- Two states of the reader, one after the other. -/
def tN2 (ws : List ByteArray) (nx : Nat) (wr : Bool) (B C : ByteArray → Bool) : Nat := tkN ws (tkN ws nx wr B) (tkW ws nx wr B) C
def tW2 (ws : List ByteArray) (nx : Nat) (wr : Bool) (B C : ByteArray → Bool) : Bool := tkW ws (tkN ws nx wr B) (tkW ws nx wr B) C

set_option maxHeartbeats 1000000 in
theorem rspan_any (R A : Nat) (ws : List ByteArray) (nx : Nat) (wr : Bool) (w : World) (h : RS w R A ws nx wr) (he : Env w) (hR : 10 ≤ R) :
    Calls Tryz.prog 90 #[.pointer (some ⟨R, 0, none⟩)] w fun e w' => e = .returned (.agg #[.int .i64 (tkV ws nx wr timeB timW), .int .i64 (tkV ws (tkN ws nx wr timeB) (tkW ws nx wr timeB) timeB timW)]) ∧ RS w' R A ws (tN2 ws nx wr timeB timeB) (tW2 ws nx wr timeB timeB) ∧ Kept R w w' := by
  have HE := hide he
  clear he
  go_enter Tryz.func90, Tryz.ntmps90
  go_wp2_with fail
  obtain ⟨hRl, hAl⟩ := h.lt
  obtain ⟨X, hX⟩ : ∃ X, X = w.alloc (.cells #[.int .i64 0, .int .i64 0] 60) := ⟨_, rfl⟩
  rw [← hX]
  have hb : Below w.heap.size w X := by rw [hX]; exact (Below.refl _ _).alloc (Nat.le_refl _) _
  have x0 : X.cell? ⟨w.heap.size, 0, none⟩ = some (.int .i64 0) := by rw [hX]; simp
  have x1 : X.cell? ⟨w.heap.size, 1, none⟩ = some (.int .i64 0) := by rw [hX]; simp
  have xf : ∀ j : Nat, X.frozen? ⟨w.heap.size, j, none⟩ = false := fun j => by rw [hX]; simp
  have xs : w.heap.size < X.heap.size := by rw [hX]; simp
  clear hX
  have eX := (unhide HE).later hb
  refine (takeTime_any R A ws nx wr X (h.of_below hb) eX).mono ?_
  rintro e w1 ⟨rfl, h1, k1⟩
  have e1 := eX.kept k1 hR
  go_wp2_with fail
  refine (takeTime_any R A ws _ _ w1 h1 e1).mono ?_
  rintro e w2 ⟨rfl, h2, k2⟩
  have k12 := k1.trans k2
  have y0 := k12.cell (b := w.heap.size) (o := 0) (by omega) x0
  have y1 := k12.cell (b := w.heap.size) (o := 1) (by omega) x1
  have yf : ∀ j : Nat, w2.frozen? ⟨w.heap.size, j, none⟩ = false := fun j => (k12.frozen (by omega) xs).trans (xf j)
  have kk := (Kept.of_below (R := R) hb).trans k12
  have H2 := hide h2
  clear h1 h2 e1 eX x0 x1 xf
  go_wp2
  refine bodyPost_ret (v := .agg #[.int .i64 (tkV ws nx wr timeB timW), .int .i64 (tkV ws (tkN ws nx wr timeB) (tkW ws nx wr timeB) timeB timW)]) (by simp [results, Tryz.results90, go_sem, y0, y1]) rfl ⟨rfl, ?_, ?_⟩
  · exact ((unhide H2).other (by omega) (fun hl => by have := hAl hl; omega)).other (by omega) (fun hl => by have := hAl hl; omega)
  · exact (kk.setNew (Nat.le_refl _) _).setNew (Nat.le_refl _) _

end Go.Proofs.YtjfkfiffakbagaaGreatDoor


/-
  The reader's claim and list.
-/
namespace Go.Proofs.YtjfkfiffakbagaaGreatDoor
open Go.RowKit

def nmB (s : ByteArray) : Bool := Txt.isName s.data.toList
def unB (s : ByteArray) : Bool := withinB s 1 9
def nvF (s : ByteArray) : Int := Txt.numV s.data.toList
/-- The reader behind one word, as a pair. -/
def stp (ws : List ByteArray) (B : ByteArray → Bool) (st : Nat × Bool) : Nat × Bool := (tkN ws st.1 st.2 B, tkW ws st.1 st.2 B)
/-- Behind several. -/
def stps (ws : List ByteArray) (Bs : List (ByteArray → Bool)) (st : Nat × Bool) : Nat × Bool := Bs.foldl (fun st B => stp ws B st) st
/-- What a claim reads: its name, units, times. -/
def claimS (ws : List ByteArray) (st : Nat × Bool) : ByteArray := tkS ws st.1 st.2
def valAt (ws : List ByteArray) (st : Nat × Bool) (B : ByteArray → Bool) (V : ByteArray → Int) : Int := tkV ws st.1 st.2 B V

set_option maxHeartbeats 1000000 in
theorem rclaim_any (R A : Nat) (ws : List ByteArray) (st : Nat × Bool) (w : World) (h : RS w R A ws st.1 st.2) (he : Env w) (hR : 10 ≤ R) :
    Calls Tryz.prog 85 #[.pointer (some ⟨R, 0, none⟩)] w fun e w' =>
      e = .returned (.agg #[.string (claimS ws st), .int .i64 (valAt ws (stps ws [nmB] st) unB nvF), .int .i64 (valAt ws (stps ws [nmB, unB] st) timeB timW), .int .i64 (valAt ws (stps ws [nmB, unB, timeB] st) timeB timW)]) ∧
      RS w' R A ws (stps ws [nmB, unB, timeB, timeB] st).1 (stps ws [nmB, unB, timeB, timeB] st).2 ∧ Kept R w w' := by
  have HE := hide he
  clear he
  go_enter Tryz.func85, Tryz.ntmps85
  go_wp2_with fail
  obtain ⟨hRl, hAl⟩ := h.lt
  obtain ⟨X, hX⟩ : ∃ X, X = w.alloc (.cells #[.string ⟨#[]⟩, .int .i64 0, .int .i64 0, .int .i64 0] 145) := ⟨_, rfl⟩
  rw [← hX]
  have hb : Below w.heap.size w X := by rw [hX]; exact (Below.refl _ _).alloc (Nat.le_refl _) _
  have x0 : X.cell? ⟨w.heap.size, 0, none⟩ = some (.string ⟨#[]⟩) := by rw [hX]; simp
  have x1 : X.cell? ⟨w.heap.size, 1, none⟩ = some (.int .i64 0) := by rw [hX]; simp
  have x2 : X.cell? ⟨w.heap.size, 2, none⟩ = some (.int .i64 0) := by rw [hX]; simp
  have x3 : X.cell? ⟨w.heap.size, 3, none⟩ = some (.int .i64 0) := by rw [hX]; simp
  have xf : ∀ j : Nat, X.frozen? ⟨w.heap.size, j, none⟩ = false := fun j => by rw [hX]; simp
  have xs : w.heap.size < X.heap.size := by rw [hX]; simp
  clear hX
  have eX := (unhide HE).later hb
  refine (rname_any R A ws st.1 st.2 X (h.of_below hb)).mono ?_
  rintro e w1 ⟨rfl, h1, k1⟩
  have e1 := eX.kept k1 hR
  go_wp2_with fail
  refine (runits_any R A ws _ _ w1 h1).mono ?_
  rintro e w2 ⟨rfl, h2, k2⟩
  have e2 := e1.kept k2 hR
  go_wp2_with fail
  refine (rspan_any R A ws _ _ w2 h2 e2 hR).mono ?_
  rintro e w3 ⟨rfl, h3, k3⟩
  have k13 := (k1.trans k2).trans k3
  have y0 := k13.cell (b := w.heap.size) (o := 0) (by omega) x0
  have y1 := k13.cell (b := w.heap.size) (o := 1) (by omega) x1
  have y2 := k13.cell (b := w.heap.size) (o := 2) (by omega) x2
  have y3 := k13.cell (b := w.heap.size) (o := 3) (by omega) x3
  have yf : ∀ j : Nat, w3.frozen? ⟨w.heap.size, j, none⟩ = false := fun j => (k13.frozen (by omega) xs).trans (xf j)
  have kk := (Kept.of_below (R := R) hb).trans k13
  have H3 := hide h3
  clear h1 h2 h3 e1 e2 eX x0 x1 x2 x3 xf
  go_wp2
  refine bodyPost_ret (v := .agg #[.string (claimS ws st), .int .i64 (valAt ws (stps ws [nmB] st) unB nvF), .int .i64 (valAt ws (stps ws [nmB, unB] st) timeB timW), .int .i64 (valAt ws (stps ws [nmB, unB, timeB] st) timeB timW)]) (by simp [results, Tryz.results85, go_sem, y0, y1, y2, y3]; exact ⟨rfl, rfl, rfl, rfl⟩) rfl ⟨rfl, ?_, ?_⟩
  · exact ((((unhide H3).other (by omega) (fun hl => by have := hAl hl; omega)).other (by omega) (fun hl => by have := hAl hl; omega)).other (by omega) (fun hl => by have := hAl hl; omega)).other (by omega) (fun hl => by have := hAl hl; omega)
  · exact (((kk.setNew (Nat.le_refl _) _).setNew (Nat.le_refl _) _).setNew (Nat.le_refl _) _).setNew (Nat.le_refl _) _

end Go.Proofs.YtjfkfiffakbagaaGreatDoor


/-
  The reader's list.
-/
namespace Go.Proofs.YtjfkfiffakbagaaGreatDoor
open Go.RowKit

set_option maxHeartbeats 1000000 in
theorem rlist_end (R A : Nat) (ws : List ByteArray) (st : Nat × Bool) (w : World) (h : RS w R A ws st.1 st.2) (hm : moreB ws.length (stps ws [nmB] st).1 (stps ws [nmB] st).2 = false) :
    Calls Tryz.prog 89 #[.pointer (some ⟨R, 0, none⟩)] w fun e w' =>
      e = .returned (.agg #[.string (claimS ws st), .bool false, .int .i64 0, .int .i64 0]) ∧ RS w' R A ws (stps ws [nmB] st).1 (stps ws [nmB] st).2 ∧ Kept R w w' := by
  go_enter Tryz.func89, Tryz.ntmps89
  go_wp2_with fail
  obtain ⟨hRl, hAl⟩ := h.lt
  obtain ⟨X, hX⟩ : ∃ X, X = w.alloc (.cells #[.string ⟨#[]⟩, .bool false, .int .i64 0, .int .i64 0] 164) := ⟨_, rfl⟩
  rw [← hX]
  have hb : Below w.heap.size w X := by rw [hX]; exact (Below.refl _ _).alloc (Nat.le_refl _) _
  have x0 : X.cell? ⟨w.heap.size, 0, none⟩ = some (.string ⟨#[]⟩) := by rw [hX]; simp
  have x1 : X.cell? ⟨w.heap.size, 1, none⟩ = some (.bool false) := by rw [hX]; simp
  have x2 : X.cell? ⟨w.heap.size, 2, none⟩ = some (.int .i64 0) := by rw [hX]; simp
  have x3 : X.cell? ⟨w.heap.size, 3, none⟩ = some (.int .i64 0) := by rw [hX]; simp
  have xf : ∀ j : Nat, X.frozen? ⟨w.heap.size, j, none⟩ = false := fun j => by rw [hX]; simp
  have xs : w.heap.size < X.heap.size := by rw [hX]; simp
  clear hX
  refine (rname_any R A ws st.1 st.2 X (h.of_below hb)).mono ?_
  rintro e w1 ⟨rfl, h1, k1⟩
  have z1 := k1.size
  go_wp2_with fail
  obtain ⟨Y, hY⟩ : ∃ Y, Y = w1.alloc (.cells #[.string (tkS ws st.1 st.2), .bool false, .int .i64 0, .int .i64 0] 164) := ⟨_, rfl⟩
  rw [← hY]
  have hbY : Below w1.heap.size w1 Y := by rw [hY]; exact (Below.refl _ _).alloc (Nat.le_refl _) _
  have v0 : Y.cell? ⟨w1.heap.size, 0, none⟩ = some (.string (tkS ws st.1 st.2)) := by rw [hY]; simp
  have v1 : Y.cell? ⟨w1.heap.size, 1, none⟩ = some (.bool false) := by rw [hY]; simp
  have v2 : Y.cell? ⟨w1.heap.size, 2, none⟩ = some (.int .i64 0) := by rw [hY]; simp
  have v3 : Y.cell? ⟨w1.heap.size, 3, none⟩ = some (.int .i64 0) := by rw [hY]; simp
  have ys : w1.heap.size < Y.heap.size := by rw [hY]; simp
  clear hY
  have kY := k1.trans (Kept.of_below (R := R) hbY)
  have y0 := kY.cell (b := w.heap.size) (o := 0) (by omega) x0
  have y1 := kY.cell (b := w.heap.size) (o := 1) (by omega) x1
  have y2 := kY.cell (b := w.heap.size) (o := 2) (by omega) x2
  have y3 := kY.cell (b := w.heap.size) (o := 3) (by omega) x3
  have yf : ∀ j : Nat, Y.frozen? ⟨w.heap.size, j, none⟩ = false := fun j => (kY.frozen (by omega) xs).trans (xf j)
  have hY1 := h1.of_below hbY
  refine (more_any R A ws _ _ Y hY1).mono ?_
  rintro e w2 ⟨rfl, n, rfl⟩
  have HM : Hid (moreB ws.length (tkN ws st.1 st.2 fun s => Txt.isName s.data.toList) (tkW ws st.1 st.2 fun s => Txt.isName s.data.toList) = false) := hm
  rw [HM.out]
  have kk := (Kept.of_below (R := R) hb).trans kY
  have H1 := hide hY1
  clear h1 hY1 x0 x1 x2 x3 xf hm
  go_wp2
  refine bodyPost_ret (v := .agg #[.string (claimS ws st), .bool false, .int .i64 0, .int .i64 0]) (by simp [results, Tryz.results89, go_sem, y0, y1, y2, y3]; rfl) rfl ⟨rfl, ?_, ?_⟩
  · exact (((((unhide H1).drewN _).other (by omega) (fun hl => by have := hAl hl; omega)).other (by omega) (fun hl => by have := hAl hl; omega)).other (by omega) (fun hl => by have := hAl hl; omega)).other (by omega) (fun hl => by have := hAl hl; omega)
  · exact ((((kk.drewN _).setNew (Nat.le_refl _) _).setNew (Nat.le_refl _) _).setNew (Nat.le_refl _) _).setNew (Nat.le_refl _) _

end Go.Proofs.YtjfkfiffakbagaaGreatDoor

