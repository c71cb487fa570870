/-
  Parts of the proof, one behind the other: MinWalks, Reader, Take, Times, WordWalks, RefWords.
-/
import Derived.Test.YtjfkfiffakbagaaGreatDoorL01
import Derived.Test.YtjfkfiffakbagaaGreatDoorShelf
import Derived.Deep.QuietTactic
import Derived.BigQuiet
import Derived.Lib.IndexMore
import Derived.Lib.IndexLaws
import Derived.Lib.SmallJoins
/-
  The walks over the readers of minutes and dates of package lines.
-/
namespace Go.Proofs.YtjfkfiffakbagaaGreatDoor
open Go.RowKit

theorem bne_t {a b : Int} (h : a ≠ b) : (a != b) = true := by rw [bne_iff_ne]; exact h
theorem bne_f {a b : Int} (h : a = b) : (a != b) = false := by subst h; simp

theorem size_ext (s : ByteArray) (a b : Nat) (h : s.size ≤ maxLen) : (s.extract a b).size ≤ maxLen := by
  have : (s.extract a b).size = min b s.size - a := ByteArray.size_extract ..
  omega

set_option maxHeartbeats 1000000 in
theorem readMinute_any (s : ByteArray) (w : World) (hm : s.size ≤ maxLen) :
    Calls Tryz.prog 134 #[.string s] w fun e w' => e = .returned (.tuple #[.int .i64 (Txt.minV s), .bool (Txt.minB s)]) ∧ w' = w := by
  have HM := hide hm
  clear hm
  by_cases hs : s.size = 5
  · have h5 : ((s.size : Int) != 5) = false := bne_f (by omega)
    have h6 : (2 : Int) < (s.size : Int) := by omega
    have h2n : 2 < s.size := by omega
    have h7 : (3 : Int) ≤ (s.size : Int) := by omega
    by_cases hb : Txt.byteAt s 2 = 58
    · have hc : (((s[2]'h2n).toNat : Int) != 58) = false := bne_f (by rw [← Txt.byteAt_eq]; exact hb)
      have b1 := Txt.numV_bd (Txt.part s 0 2)
      have b2 := Txt.numV_bd (Txt.part s 3 5)
      have HS := hide hs
      have HB := hide hb
      clear hs hb
      have HF := hide (Txt.minB_and HS.out HB.out)
      cases n1 : Txt.isNum (Txt.part s 0 2)
      · go_enter Tryz.func134, Tryz.ntmps134
        go_wp2_with fail
        refine (readNum_any _ _ (size_ext _ _ _ HM.out)).mono ?_
        rintro e w' ⟨rfl, rfl⟩
        rw [show (s.extract 0 2).data.toList = Txt.part s 0 2 from rfl]
        go_wp2_with fail
        refine (readNum_any _ _ (size_ext _ _ _ HM.out)).mono ?_
        rintro e w' ⟨rfl, rfl⟩
        rw [show (s.extract 3 s.size).data.toList = Txt.part s 3 5 from by rw [HS.out]; rfl]
        go_wp2
        go_ret2
        exact ⟨ret2_ib (by simp [Txt.minV, unhide HF, n1]) (by simp [unhide HF, n1]), rfl⟩
      · cases n2 : Txt.isNum (Txt.part s 3 5)
        · go_enter Tryz.func134, Tryz.ntmps134
          go_wp2_with fail
          refine (readNum_any _ _ (size_ext _ _ _ HM.out)).mono ?_
          rintro e w' ⟨rfl, rfl⟩
          rw [show (s.extract 0 2).data.toList = Txt.part s 0 2 from rfl]
          go_wp2_with fail
          refine (readNum_any _ _ (size_ext _ _ _ HM.out)).mono ?_
          rintro e w' ⟨rfl, rfl⟩
          rw [show (s.extract 3 s.size).data.toList = Txt.part s 3 5 from by rw [HS.out]; rfl]
          go_wp2
          go_ret2
          exact ⟨ret2_ib (by simp [Txt.minV, unhide HF, n1, n2]) (by simp [unhide HF, n1, n2]), rfl⟩
        · by_cases g1 : Txt.numV (Txt.part s 0 2) ≤ 23
          · by_cases g2 : Txt.numV (Txt.part s 3 5) ≤ 59
            · go_enter Tryz.func134, Tryz.ntmps134
              go_wp2_with fail
              refine (readNum_any _ _ (size_ext _ _ _ HM.out)).mono ?_
              rintro e w' ⟨rfl, rfl⟩
              rw [show (s.extract 0 2).data.toList = Txt.part s 0 2 from rfl]
              go_wp2_with fail
              refine (readNum_any _ _ (size_ext _ _ _ HM.out)).mono ?_
              rintro e w' ⟨rfl, rfl⟩
              rw [show (s.extract 3 s.size).data.toList = Txt.part s 3 5 from by rw [HS.out]; rfl]
              go_wp2
              go_ret2
              exact ⟨ret2_ib (by simp [Txt.minV, unhide HF, n1, n2, g1, g2]) (by simp [unhide HF, n1, n2, g1, g2]), rfl⟩
            · go_enter Tryz.func134, Tryz.ntmps134
              go_wp2_with fail
              refine (readNum_any _ _ (size_ext _ _ _ HM.out)).mono ?_
              rintro e w' ⟨rfl, rfl⟩
              rw [show (s.extract 0 2).data.toList = Txt.part s 0 2 from rfl]
              go_wp2_with fail
              refine (readNum_any _ _ (size_ext _ _ _ HM.out)).mono ?_
              rintro e w' ⟨rfl, rfl⟩
              rw [show (s.extract 3 s.size).data.toList = Txt.part s 3 5 from by rw [HS.out]; rfl]
              go_wp2
              go_ret2
              have g2' : ¬ Txt.numV (Txt.part s 3 5) ≤ 59 := by omega
              exact ⟨ret2_ib (by simp [Txt.minV, unhide HF, n1, n2, g1, g2']) (by simp [unhide HF, n1, n2, g1, g2']), rfl⟩
          · go_enter Tryz.func134, Tryz.ntmps134
            go_wp2_with fail
            refine (readNum_any _ _ (size_ext _ _ _ HM.out)).mono ?_
            rintro e w' ⟨rfl, rfl⟩
            rw [show (s.extract 0 2).data.toList = Txt.part s 0 2 from rfl]
            go_wp2_with fail
            refine (readNum_any _ _ (size_ext _ _ _ HM.out)).mono ?_
            rintro e w' ⟨rfl, rfl⟩
            rw [show (s.extract 3 s.size).data.toList = Txt.part s 3 5 from by rw [HS.out]; rfl]
            go_wp2
            go_ret2
            have g1' : ¬ Txt.numV (Txt.part s 0 2) ≤ 23 := by omega
            exact ⟨ret2_ib (by simp [Txt.minV, unhide HF, n1, n2, g1']) (by simp [unhide HF, n1, n2, g1']), rfl⟩
    · have hc : (((s[2]'h2n).toNat : Int) != 58) = true := bne_t (by rw [← Txt.byteAt_eq]; exact hb)
      have HF : Hid (Txt.minB s = false) := Txt.minB_false (by omega)
      clear hs hb
      go_enter Tryz.func134, Tryz.ntmps134
      go_wp2
      go_ret2
      exact ⟨ret2_ib (by simp [Txt.minV, HF.out]) (by rw [HF.out]), rfl⟩
  · have h5 : ((s.size : Int) != 5) = true := bne_t (by omega)
    have HF : Hid (Txt.minB s = false) := Txt.minB_false (by omega)
    clear hs
    go_enter Tryz.func134, Tryz.ntmps134
    go_wp2
    go_ret2
    exact ⟨ret2_ib (by simp [Txt.minV, HF.out]) (by rw [HF.out]), rfl⟩

set_option maxHeartbeats 1000000 in
theorem readAnyDate_any (s : ByteArray) (w : World) (ht : Tab w) (hm : s.size ≤ maxLen) :
    Calls Tryz.prog 187 #[.string s] w fun e w' => e = .returned (.tuple #[.int .i64 (Txt.dateV s), .bool (Txt.dateB s)]) ∧ w' = w := by
  have HM := hide hm
  clear hm
  by_cases hs : s.size = 10
  · have h5 : ((s.size : Int) != 10) = false := bne_f (by omega)
    have h4n : 4 < s.size := by omega
    have h7n : 7 < s.size := by omega
    have h4 : (4 : Int) < (s.size : Int) := by omega
    have h7 : (7 : Int) < (s.size : Int) := by omega
    have h8 : (8 : Int) ≤ (s.size : Int) := by omega
    by_cases hb : Txt.byteAt s 4 = 45
    · have hc : (((s[4]'h4n).toNat : Int) != 45) = false := bne_f (by rw [← Txt.byteAt_eq]; exact hb)
      by_cases hd : Txt.byteAt s 7 = 45
      · have he : (((s[7]'h7n).toNat : Int) != 45) = false := bne_f (by rw [← Txt.byteAt_eq]; exact hd)
        have b1 := Txt.numV_bd (Txt.part s 0 4)
        have b2 := Txt.numV_bd (Txt.part s 5 7)
        have b3 := Txt.numV_bd (Txt.part s 8 10)
        have HF := hide (Txt.dateB_and hs hb hd)
        have HS := hide hs
        clear hs hb hd
        have hn : ∃ n1 n2 n3 : Bool, Txt.isNum (Txt.part s 0 4) = n1 ∧ Txt.isNum (Txt.part s 5 7) = n2 ∧ Txt.isNum (Txt.part s 8 10) = n3 := ⟨_, _, _, rfl, rfl, rfl⟩
        obtain ⟨n1, n2, n3, e1, e2, e3⟩ := hn
        have walk3 : n1 = false ∨ (n1 = true ∧ n2 = false) ∨ (n1 = true ∧ n2 = true ∧ n3 = false) ∨ (n1 = true ∧ n2 = true ∧ n3 = true) := by cases n1 <;> cases n2 <;> cases n3 <;> simp
        rcases walk3 with h | ⟨h, h'⟩ | ⟨h, h', h''⟩ | ⟨h, h', h''⟩
        · subst h
          clear e2 e3
          go_enter Tryz.func187, Tryz.ntmps187
          go_wp2_with fail
          refine (readNum_any _ _ (size_ext _ _ _ HM.out)).mono ?_
          rintro e w' ⟨rfl, rfl⟩
          rw [show (s.extract 0 4).data.toList = Txt.part s 0 4 from rfl]
          go_wp2_with fail
          refine (readNum_any _ _ (size_ext _ _ _ HM.out)).mono ?_
          rintro e w' ⟨rfl, rfl⟩
          rw [show (s.extract 5 7).data.toList = Txt.part s 5 7 from rfl]
          go_wp2_with fail
          refine (readNum_any _ _ (size_ext _ _ _ HM.out)).mono ?_
          rintro e w' ⟨rfl, rfl⟩
          rw [show (s.extract 8 s.size).data.toList = Txt.part s 8 10 from by rw [HS.out]; rfl]
          go_wp2
          go_ret2
          exact ⟨ret2_ib (by simp [Txt.dateV, unhide HF, e1]) (by simp [unhide HF, e1]), rfl⟩
        · subst h h'
          clear e3
          go_enter Tryz.func187, Tryz.ntmps187
          go_wp2_with fail
          refine (readNum_any _ _ (size_ext _ _ _ HM.out)).mono ?_
          rintro e w' ⟨rfl, rfl⟩
          rw [show (s.extract 0 4).data.toList = Txt.part s 0 4 from rfl]
          go_wp2_with fail
          refine (readNum_any _ _ (size_ext _ _ _ HM.out)).mono ?_
          rintro e w' ⟨rfl, rfl⟩
          rw [show (s.extract 5 7).data.toList = Txt.part s 5 7 from rfl]
          go_wp2_with fail
          refine (readNum_any _ _ (size_ext _ _ _ HM.out)).mono ?_
          rintro e w' ⟨rfl, rfl⟩
          rw [show (s.extract 8 s.size).data.toList = Txt.part s 8 10 from by rw [HS.out]; rfl]
          go_wp2
          go_ret2
          exact ⟨ret2_ib (by simp [Txt.dateV, unhide HF, e1, e2]) (by simp [unhide HF, e1, e2]), rfl⟩
        · subst h h' h''
          go_enter Tryz.func187, Tryz.ntmps187
          go_wp2_with fail
          refine (readNum_any _ _ (size_ext _ _ _ HM.out)).mono ?_
          rintro e w' ⟨rfl, rfl⟩
          rw [show (s.extract 0 4).data.toList = Txt.part s 0 4 from rfl]
          go_wp2_with fail
          refine (readNum_any _ _ (size_ext _ _ _ HM.out)).mono ?_
          rintro e w' ⟨rfl, rfl⟩
          rw [show (s.extract 5 7).data.toList = Txt.part s 5 7 from rfl]
          go_wp2_with fail
          refine (readNum_any _ _ (size_ext _ _ _ HM.out)).mono ?_
          rintro e w' ⟨rfl, rfl⟩
          rw [show (s.extract 8 s.size).data.toList = Txt.part s 8 10 from by rw [HS.out]; rfl]
          go_wp2
          go_ret2
          exact ⟨ret2_ib (by simp [Txt.dateV, unhide HF, e1, e2, e3]) (by simp [unhide HF, e1, e2, e3]), rfl⟩
        · subst h h' h''
          cases ho : Cal.ok (Txt.numV (Txt.part s 0 4)) (Txt.numV (Txt.part s 5 7)) (Txt.numV (Txt.part s 8 10))
          · go_enter Tryz.func187, Tryz.ntmps187
            go_wp2_with fail
            refine (readNum_any _ _ (size_ext _ _ _ HM.out)).mono ?_
            rintro e w' ⟨rfl, rfl⟩
            rw [show (s.extract 0 4).data.toList = Txt.part s 0 4 from rfl]
            go_wp2_with fail
            refine (readNum_any _ _ (size_ext _ _ _ HM.out)).mono ?_
            rintro e w' ⟨rfl, rfl⟩
            rw [show (s.extract 5 7).data.toList = Txt.part s 5 7 from rfl]
            go_wp2_with fail
            refine (readNum_any _ _ (size_ext _ _ _ HM.out)).mono ?_
            rintro e w' ⟨rfl, rfl⟩
            rw [show (s.extract 8 s.size).data.toList = Txt.part s 8 10 from by rw [HS.out]; rfl]
            go_wp2_with fail
            refine (calDay_no _ _ _ _ ht ho).mono ?_
            rintro e w' ⟨rfl, rfl⟩
            go_wp2
            go_ret2
            exact ⟨ret2_ib (by simp [Txt.dateV, unhide HF, e1, e2, e3, ho]) (by simp [unhide HF, e1, e2, e3, ho]), rfl⟩
          · go_enter Tryz.func187, Tryz.ntmps187
            go_wp2_with fail
            refine (readNum_any _ _ (size_ext _ _ _ HM.out)).mono ?_
            rintro e w' ⟨rfl, rfl⟩
            rw [show (s.extract 0 4).data.toList = Txt.part s 0 4 from rfl]
            go_wp2_with fail
            refine (readNum_any _ _ (size_ext _ _ _ HM.out)).mono ?_
            rintro e w' ⟨rfl, rfl⟩
            rw [show (s.extract 5 7).data.toList = Txt.part s 5 7 from rfl]
            go_wp2_with fail
            refine (readNum_any _ _ (size_ext _ _ _ HM.out)).mono ?_
            rintro e w' ⟨rfl, rfl⟩
            rw [show (s.extract 8 s.size).data.toList = Txt.part s 8 10 from by rw [HS.out]; rfl]
            go_wp2_with fail
            refine (calDay_yes _ _ _ _ ht ho).mono ?_
            rintro e w' ⟨rfl, rfl⟩
            go_wp2
            go_ret2
            exact ⟨ret2_ib (by simp [Txt.dateV, unhide HF, e1, e2, e3, ho]) (by simp [unhide HF, e1, e2, e3, ho]), rfl⟩
      · have he : (((s[7]'h7n).toNat : Int) != 45) = true := bne_t (by rw [← Txt.byteAt_eq]; exact hd)
        have HF : Hid (Txt.dateB s = false) := Txt.dateB_false (by omega)
        clear hs hb hd
        go_enter Tryz.func187, Tryz.ntmps187
        go_wp2
        go_ret2
        exact ⟨ret2_ib (by simp [Txt.dateV, HF.out]) (by rw [HF.out]), rfl⟩
    · have hc : (((s[4]'h4n).toNat : Int) != 45) = true := bne_t (by rw [← Txt.byteAt_eq]; exact hb)
      have HF : Hid (Txt.dateB s = false) := Txt.dateB_false (by omega)
      clear hs hb
      go_enter Tryz.func187, Tryz.ntmps187
      go_wp2
      go_ret2
      exact ⟨ret2_ib (by simp [Txt.dateV, HF.out]) (by rw [HF.out]), rfl⟩
  · have h5 : ((s.size : Int) != 10) = true := bne_t (by omega)
    have HF : Hid (Txt.dateB s = false) := Txt.dateB_false (by omega)
    clear hs
    go_enter Tryz.func187, Tryz.ntmps187
    go_wp2
    go_ret2
    exact ⟨ret2_ib (by simp [Txt.dateV, HF.out]) (by rw [HF.out]), rfl⟩

end Go.Proofs.YtjfkfiffakbagaaGreatDoor

/-
  The reader of package lines: where it lies, what its small methods do to it.
-/
namespace Go.Proofs.YtjfkfiffakbagaaGreatDoor
open Go.RowKit

/-- Everything but block R is as it was; nothing has gone. -/
structure Kept (R : Nat) (w w' : World) : Prop where
  os : w'.os = w.os
  tape : w'.tape = w.tape
  output : w'.output = w.output
  size : w.heap.size ≤ w'.heap.size
  block : ∀ k, k < w.heap.size → k ≠ R → w'.heap[k]? = w.heap[k]?

theorem Kept.refl (R : Nat) (w : World) : Kept R w w := ⟨rfl, rfl, rfl, Nat.le_refl _, fun _ _ _ => rfl⟩
theorem Kept.trans {R : Nat} {a b c : World} (h : Kept R a b) (k : Kept R b c) : Kept R a c :=
  ⟨k.os.trans h.os, k.tape.trans h.tape, k.output.trans h.output, Nat.le_trans h.size k.size, fun i hi hr => (k.block i (Nat.lt_of_lt_of_le hi h.size) hr).trans (h.block i hi hr)⟩
theorem Kept.of_below {R : Nat} {w w' : World} (h : Below w.heap.size w w') : Kept R w w' := ⟨h.os, h.tape, h.output, h.size, fun k hk _ => h.block k hk⟩
theorem Kept.drewN {R : Nat} {w w' : World} (h : Kept R w w') (n : Nat) : Kept R w (w'.drewN n) := ⟨h.os, h.tape, h.output, h.size, h.block⟩
theorem Kept.setCell {R : Nat} {w w' : World} (h : Kept R w w') (o : Nat) (v : Value) : Kept R w (w'.setCell ⟨R, o, none⟩ v) :=
  h.trans ⟨(Below.setCell (B := 0) (Below.refl 0 w') (Nat.zero_le _) v).os, (Below.setCell (B := 0) (Below.refl 0 w') (Nat.zero_le _) v).tape, (Below.setCell (B := 0) (Below.refl 0 w') (Nat.zero_le _) v).output, (Below.setCell (B := 0) (Below.refl 0 w') (p := ⟨R, o, none⟩) (Nat.zero_le _) v).size, fun k _ hr => Below.heap_setCell w' _ v k hr⟩
theorem Kept.below {R B : Nat} {w w' : World} (h : Kept R w w') (hr : B ≤ R) (hb : B ≤ w.heap.size) : Below B w w' :=
  ⟨h.os, h.tape, h.output, h.size, fun k hk => h.block k (Nat.lt_of_lt_of_le hk hb) (Nat.ne_of_lt (Nat.lt_of_lt_of_le hk hr))⟩
theorem Kept.cell {R : Nat} {w w' : World} (h : Kept R w w') {b o : Nat} {v : Value} (hne : b ≠ R) (hc : w.cell? ⟨b, o, none⟩ = some v) : w'.cell? ⟨b, o, none⟩ = some v :=
  (World.cell?_of_block (w := w) (h.block b (World.block_lt_of_cell? _ _ hc) hne)).trans hc

/-- The reader lies in block R, its words in block A; nx words are taken; wr: one was wrong. -/
structure RS (w : World) (R A : Nat) (ws : List ByteArray) (nx : Nat) (wr : Bool) : Prop where
  c0 : w.cell? ⟨R, 0, none⟩ = some (.slice (some ⟨A, 0, none⟩) ws.length ws.length)
  c1 : w.cell? ⟨R, 1, none⟩ = some (.int .i64 nx)
  c2 : w.cell? ⟨R, 2, none⟩ = some (.bool wr)
  f1 : w.frozen? ⟨R, 1, none⟩ = false
  f2 : w.frozen? ⟨R, 2, none⟩ = false
  ne : A ≠ R
  rows : ∀ (i : Nat) (h : i < ws.length), w.cell? ⟨A, i, none⟩ = some (.string ws[i])
  len : ws.length ≤ 160
  nxle : nx ≤ ws.length
  short : ∀ x ∈ ws, x.size ≤ 160

theorem RS.of_below {w w' : World} {R A : Nat} {ws : List ByteArray} {nx : Nat} {wr : Bool} (h : RS w R A ws nx wr) (hb : Below w.heap.size w w') : RS w' R A ws nx wr :=
  ⟨cell_later hb h.c0, cell_later hb h.c1, cell_later hb h.c2, (hb.frozen (World.block_lt_of_cell? _ _ h.c1)).trans h.f1, (hb.frozen (World.block_lt_of_cell? _ _ h.c2)).trans h.f2, h.ne, fun i hi => cell_later hb (h.rows i hi), h.len, h.nxle, h.short⟩
theorem RS.drewN {w : World} {R A : Nat} {ws : List ByteArray} {nx : Nat} {wr : Bool} (h : RS w R A ws nx wr) (n : Nat) : RS (w.drewN n) R A ws nx wr := ⟨h.c0, h.c1, h.c2, h.f1, h.f2, h.ne, h.rows, h.len, h.nxle, h.short⟩

/-- What the reader answers when asked for more. -/
def moreB (n nx : Nat) (wr : Bool) : Bool := !wr && decide (nx < n)

set_option maxHeartbeats 1000000 in
theorem more_any (R A : Nat) (ws : List ByteArray) (nx : Nat) (wr : Bool) (w : World) (h : RS w R A ws nx wr) :
    Calls Tryz.prog 61 #[.pointer (some ⟨R, 0, none⟩)] w fun e w' => e = .returned (.bool (moreB ws.length nx wr)) ∧ ∃ n, w' = w.drewN n := by
  have c0 := h.c0
  have c1 := h.c1
  have c2 := h.c2
  clear h
  cases wr
  · go_enter Tryz.func61, Tryz.ntmps61
    go_wp2
    go_quiet (fail)
    go_wp2
    go_ret
    exact ⟨ret_bool (by simp [moreB]), _, rfl⟩
  · go_enter Tryz.func61, Tryz.ntmps61
    go_wp2
    go_quiet (fail)
    go_wp2
    go_ret
    exact ⟨ret_bool (by simp [moreB]), _, rfl⟩

theorem moreB_false {n nx : Nat} {wr : Bool} (h : ¬ (wr = false ∧ nx < n)) : moreB n nx wr = false := by
  unfold moreB
  cases wr
  · simp; simp at h; exact h
  · rfl
theorem moreB_true {n nx : Nat} {wr : Bool} (h1 : wr = false) (h2 : nx < n) : moreB n nx wr = true := by
  subst h1; simp [moreB, h2]

set_option maxHeartbeats 1000000 in
theorem is_end (R A : Nat) (ws : List ByteArray) (nx : Nat) (wr : Bool) (word : ByteArray) (w : World) (h : RS w R A ws nx wr) (hn : moreB ws.length nx wr = false) :
    Calls Tryz.prog 82 #[.pointer (some ⟨R, 0, none⟩), .string word] w fun e w' => e = .returned (.bool false) ∧ ∃ n, w' = w.drewN n := by
  go_enter Tryz.func82, Tryz.ntmps82
  go_wp2
  go_quiet ((go_at_call 61; exact Calls.quiet_of (more_any R A ws nx wr _ (h.drewN _))))
  go_wp2
  go_ret
  exact ⟨rfl, _, rfl⟩

set_option maxHeartbeats 1000000 in
theorem is_other (R A : Nat) (ws : List ByteArray) (nx : Nat) (wr : Bool) (word : ByteArray) (w : World) (h : RS w R A ws nx wr) (hn : moreB ws.length nx wr = true) (hlt : nx < ws.length) (he : (ws[nx].toList == word.toList) = false) :
    Calls Tryz.prog 82 #[.pointer (some ⟨R, 0, none⟩), .string word] w fun e w' => e = .returned (.bool false) ∧ ∃ n, w' = w.drewN n := by
  have c0 := h.c0
  have c1 := h.c1
  have c2 := h.c2
  have cr := h.rows nx hlt
  have hi : (nx : Int) < (ws.length : Int) := by omega
  go_enter Tryz.func82, Tryz.ntmps82
  go_wp2
  go_quiet ((go_at_call 61; exact Calls.quiet_of (more_any R A ws nx wr _ (h.drewN _))))
  go_wp2
  go_ret
  exact ⟨rfl, _, rfl⟩

theorem RS.step {w : World} {R A : Nat} {ws : List ByteArray} {nx : Nat} {wr : Bool} (h : RS w R A ws nx wr) (hlt : nx < ws.length) : RS (w.setCell ⟨R, 1, none⟩ (.int .i64 ((nx : Int) + 1))) R A ws (nx + 1) wr :=
  ⟨(World.cell?_setCell_other _ _ _ _ (by simp)).trans h.c0, World.cell?_setCell_same _ _ _ h.c1, (World.cell?_setCell_other _ _ _ _ (by simp)).trans h.c2, (World.frozen?_setCell ..).trans h.f1, (World.frozen?_setCell ..).trans h.f2, h.ne,
    fun i hi => (World.cell?_setCell_other _ _ _ _ (by simp; intro e; exact absurd e.symm h.ne)).trans (h.rows i hi), h.len, hlt, h.short⟩
theorem RS.bad {w : World} {R A : Nat} {ws : List ByteArray} {nx : Nat} {wr : Bool} (h : RS w R A ws nx wr) : RS (w.setCell ⟨R, 2, none⟩ (.bool true)) R A ws nx true :=
  ⟨(World.cell?_setCell_other _ _ _ _ (by simp)).trans h.c0, (World.cell?_setCell_other _ _ _ _ (by simp)).trans h.c1, World.cell?_setCell_same _ _ _ h.c2, (World.frozen?_setCell ..).trans h.f1, (World.frozen?_setCell ..).trans h.f2, h.ne,
    fun i hi => (World.cell?_setCell_other _ _ _ _ (by simp; intro e; exact absurd e.symm h.ne)).trans (h.rows i hi), h.len, h.nxle, h.short⟩

set_option maxHeartbeats 1000000 in
theorem is_yes (R A : Nat) (ws : List ByteArray) (nx : Nat) (wr : Bool) (word : ByteArray) (w : World) (h : RS w R A ws nx wr) (hn : moreB ws.length nx wr = true) (hlt : nx < ws.length) (he : (ws[nx].toList == word.toList) = true) :
    Calls Tryz.prog 82 #[.pointer (some ⟨R, 0, none⟩), .string word] w fun e w' => e = .returned (.bool true) ∧ RS w' R A ws (nx + 1) wr ∧ Kept R w w' := by
  have c0 := h.c0
  have c1 := h.c1
  have c2 := h.c2
  have f1 := h.f1
  have cr := h.rows nx hlt
  have hl := h.len
  have hi : (nx : Int) < (ws.length : Int) := by omega
  go_enter Tryz.func82, Tryz.ntmps82
  go_wp2
  go_quiet ((go_at_call 61; exact Calls.quiet_of (more_any R A ws nx wr _ (h.drewN _))))
  go_wp2
  go_ret
  exact ⟨rfl, (h.drewN _).step hlt, ((Kept.refl R w).drewN _).setCell _ _⟩

/-- 'is' at whatever word: what it answers, where it leaves the reader. -/
def isB (ws : List ByteArray) (nx : Nat) (wr : Bool) (word : ByteArray) : Bool := moreB ws.length nx wr && ((ws.getD nx ByteArray.empty).toList == word.toList)

theorem is_any (R A : Nat) (ws : List ByteArray) (nx : Nat) (wr : Bool) (word : ByteArray) (w : World) (h : RS w R A ws nx wr) :
    Calls Tryz.prog 82 #[.pointer (some ⟨R, 0, none⟩), .string word] w fun e w' => e = .returned (.bool (isB ws nx wr word)) ∧ RS w' R A ws (if isB ws nx wr word then nx + 1 else nx) wr ∧ Kept R w w' := by
  cases hm : moreB ws.length nx wr
  · have e : isB ws nx wr word = false := by simp [isB, hm]
    rw [e]
    refine (is_end R A ws nx wr word w h hm).mono ?_
    rintro e w' ⟨rfl, n, rfl⟩
    exact ⟨rfl, h.drewN n, (Kept.refl R w).drewN n⟩
  · have hlt : nx < ws.length := by
      by_cases hlt : nx < ws.length
      · exact hlt
      · rw [moreB_false (by omega)] at hm; cases hm
    have eg : ws.getD nx ByteArray.empty = ws[nx] := by simp [List.getD, hlt]
    cases he : (ws[nx].toList == word.toList)
    · have e : isB ws nx wr word = false := by rw [isB, eg, he, Bool.and_false]
      rw [e]
      refine (is_other R A ws nx wr word w h hm hlt he).mono ?_
      rintro e w' ⟨rfl, n, rfl⟩
      exact ⟨rfl, h.drewN n, (Kept.refl R w).drewN n⟩
    · have e : isB ws nx wr word = true := by rw [isB, eg, he, hm]; rfl
      rw [e]
      exact is_yes R A ws nx wr word w h hm hlt he

set_option maxHeartbeats 1000000 in
theorem must_any (R A : Nat) (ws : List ByteArray) (nx : Nat) (wr : Bool) (word : ByteArray) (w : World) (h : RS w R A ws nx wr) :
    Calls Tryz.prog 131 #[.pointer (some ⟨R, 0, none⟩), .string word] w fun e w' => e = .returned (.tuple #[]) ∧ RS w' R A ws (if isB ws nx wr word then nx + 1 else nx) (if isB ws nx wr word then wr else true) ∧ Kept R w w' := by
  cases hb : isB ws nx wr word
  · go_enter Tryz.func131, Tryz.ntmps131
    go_wp2_with fail
    refine (is_any R A ws nx wr word w h).mono ?_
    rintro e w' ⟨rfl, h1, k1⟩
    rw [hb] at h1 ⊢
    have c2 := h1.c2
    have f2 := h1.f2
    go_wp2
    go_end0
    exact ⟨rfl, h1.bad, k1.setCell _ _⟩
  · go_enter Tryz.func131, Tryz.ntmps131
    go_wp2_with fail
    refine (is_any R A ws nx wr word w h).mono ?_
    rintro e w' ⟨rfl, h1, k1⟩
    rw [hb] at h1 ⊢
    go_wp2
    go_end0
    exact ⟨rfl, h1, k1⟩

end Go.Proofs.YtjfkfiffakbagaaGreatDoor

/-
  The reader's take at each reader of words.
-/
namespace Go.Proofs.YtjfkfiffakbagaaGreatDoor
open Go.RowKit

/-- What a take does to the reader: nx words taken, wr: one was wrong; b: does the next word serve? -/
def tkB (ws : List ByteArray) (nx : Nat) (wr : Bool) (B : ByteArray → Bool) : Bool := moreB ws.length nx wr && B (ws.getD nx ByteArray.empty)
def tkN (ws : List ByteArray) (nx : Nat) (wr : Bool) (B : ByteArray → Bool) : Nat := if tkB ws nx wr B then nx + 1 else nx
def tkW (ws : List ByteArray) (nx : Nat) (wr : Bool) (B : ByteArray → Bool) : Bool := if tkB ws nx wr B then wr else true
def tkV (ws : List ByteArray) (nx : Nat) (wr : Bool) (B : ByteArray → Bool) (V : ByteArray → Int) : Int := if tkB ws nx wr B then V (ws.getD nx ByteArray.empty) else 0

theorem moreB_lt {n nx : Nat} {wr : Bool} (h : moreB n nx wr = true) : nx < n := by
  by_cases hlt : nx < n
  · exact hlt
  · rw [moreB_false (by omega)] at h; cases h
theorem getD_lt (ws : List ByteArray) (nx : Nat) (h : nx < ws.length) : ws.getD nx ByteArray.empty = ws[nx] := by simp [List.getD, h]

set_option maxHeartbeats 1000000 in
/-- There is no next word, or one was wrong: whatever reader of words. -/
theorem takeInt_end (f : Value) (R A : Nat) (ws : List ByteArray) (nx : Nat) (wr : Bool) (w : World) (h : RS w R A ws nx wr) (hm : moreB ws.length nx wr = false) :
    Calls Tryz.prog 132 #[.pointer (some ⟨R, 0, none⟩), f] w fun e w' => e = .returned (.int .i64 0) ∧ RS w' R A ws nx true ∧ Kept R w w' := by
  go_enter Tryz.func132, Tryz.ntmps132
  go_wp2_with fail
  refine (more_any R A ws nx wr w h).mono ?_
  rintro e w1 ⟨rfl, n, hw⟩
  have h1 : RS w1 R A ws nx wr := by rw [hw]; exact h.drewN n
  have k1 : Kept R w w1 := by rw [hw]; exact (Kept.refl R w).drewN n
  have c2 := h1.c2
  have f2 := h1.f2
  clear hw
  go_wp2
  go_ret
  exact ⟨rfl, h1.bad, k1.setCell _ _⟩

set_option maxHeartbeats 1000000 in
theorem takeNum_ok (R A : Nat) (ws : List ByteArray) (nx : Nat) (wr : Bool) (w : World) (h : RS w R A ws nx wr) (hm : moreB ws.length nx wr = true) (hlt : nx < ws.length) (hs : ws[nx].size ≤ maxLen) (hb : Txt.isNum ws[nx].data.toList = true) :
    Calls Tryz.prog 132 #[.pointer (some ⟨R, 0, none⟩), .func (.func 136) #[] #[]] w fun e w' => e = .returned (.int .i64 (Txt.numV ws[nx].data.toList)) ∧ RS w' R A ws (nx + 1) wr ∧ Kept R w w' := by
  have hi : (nx : Int) < (ws.length : Int) := by omega
  go_enter Tryz.func132, Tryz.ntmps132
  go_wp2_with fail
  refine (more_any R A ws nx wr w h).mono ?_
  rintro e w1 ⟨rfl, n, hw⟩
  have h1 : RS w1 R A ws nx wr := by rw [hw]; exact h.drewN n
  have k1 : Kept R w w1 := by rw [hw]; exact (Kept.refl R w).drewN n
  have c0 := h1.c0
  have c1 := h1.c1
  have f1 := h1.f1
  have cr := h1.rows nx hlt
  have hl := h1.len
  clear hw
  go_wp2
  go_quiet ((go_at_call 136; exact Calls.quiet_of_same (readNum_any _ _ hs)))
  go_wp2
  go_ret
  exact ⟨rfl, (h1.drewN _).step hlt, (k1.drewN _).setCell _ _⟩

set_option maxHeartbeats 1000000 in
theorem takeNum_no (R A : Nat) (ws : List ByteArray) (nx : Nat) (wr : Bool) (w : World) (h : RS w R A ws nx wr) (hm : moreB ws.length nx wr = true) (hlt : nx < ws.length) (hs : ws[nx].size ≤ maxLen) (hb : Txt.isNum ws[nx].data.toList = false) :
    Calls Tryz.prog 132 #[.pointer (some ⟨R, 0, none⟩), .func (.func 136) #[] #[]] w fun e w' => e = .returned (.int .i64 0) ∧ RS w' R A ws nx true ∧ Kept R w w' := by
  have hi : (nx : Int) < (ws.length : Int) := by omega
  go_enter Tryz.func132, Tryz.ntmps132
  go_wp2_with fail
  refine (more_any R A ws nx wr w h).mono ?_
  rintro e w1 ⟨rfl, n, hw⟩
  have h1 : RS w1 R A ws nx wr := by rw [hw]; exact h.drewN n
  have k1 : Kept R w w1 := by rw [hw]; exact (Kept.refl R w).drewN n
  have c0 := h1.c0
  have c1 := h1.c1
  have c2 := h1.c2
  have f2 := h1.f2
  have cr := h1.rows nx hlt
  have hl := h1.len
  clear hw
  go_wp2
  go_quiet ((go_at_call 136; exact Calls.quiet_of_same (readNum_any _ _ hs)))
  go_wp2
  go_ret
  exact ⟨rfl, (h1.drewN _).bad, (k1.drewN _).setCell _ _⟩

end Go.Proofs.YtjfkfiffakbagaaGreatDoor

/-
  The plain mathematics of times as words: a day and a minute parted at the first slash are those parted at byte 10.
-/
namespace Go.Proofs.YtjfkfiffakbagaaGreatDoor.Txt
open Go

/-- DATE/MINUTE, as any date of the calendar -/
def dmB (s : ByteArray) : Bool := decide (s.size = 16 ∧ byteAt s 10 = 47 ∧ dateB (s.extract 0 10) = true ∧ minB (s.extract 11 16) = true)
def dmV (s : ByteArray) : Int := if dmB s then dateV (s.extract 0 10) * 1440 + minV (s.extract 11 16) else 0
def cutA (s : ByteArray) : ByteArray := { data := (Lib.cut s.data.toList [47]).fst.toArray }
def cutB (s : ByteArray) : ByteArray := { data := (Lib.cut s.data.toList [47]).snd.fst.toArray }
def cutF (s : ByteArray) : Bool := (Lib.cut s.data.toList [47]).snd.snd

theorem ext_list (s : ByteArray) (a b : Nat) : (s.extract a b).data.toList = (s.data.toList.take b).drop a := by
  rw [ByteArray.data_extract, Array.toList_extract]
  simp [List.drop_take]
theorem of_list {s t : ByteArray} (h : s.data.toList = t.data.toList) : s = t := by
  cases s; cases t; simp only at h; congr; exact Array.toList_inj.1 h
theorem dig_ne (c : UInt8) (h : dig c = true) : c ≠ 47 := by
  intro e; subst e; revert h; decide
theorem digs_mem {l : List UInt8} (h : digs l = true) {c : UInt8} (hc : c ∈ l) : c ≠ 47 := dig_ne c (by
  unfold digs at h; rw [List.all_eq_true] at h; exact h c hc)
theorem isNum_digs {l : List UInt8} (h : isNum l = true) : digs l = true := ((isNum_iff l).1 h).2

/-- The first ten bytes of a date are no slashes. -/
theorem date_noslash (t : ByteArray) (h : dateB t = true) : ∀ j, j < 10 → t.data.toList[j]? ≠ some 47 := by
  have h := of_decide_eq_true h
  obtain ⟨hs, b4, b7, n1, n2, n3, _⟩ := h
  have d1 := isNum_digs n1
  have d2 := isNum_digs n2
  have d3 := isNum_digs n3
  unfold part at d1 d2 d3
  rw [ext_list] at d1 d2 d3
  have hl : t.data.toList.length = 10 := by rw [len_list]; exact hs
  intro j hj he
  have hjl : j < t.data.toList.length := by omega
  have e : t.data.toList[j] = 47 := by
    rw [List.getElem?_eq_getElem hjl] at he; exact Option.some.inj he
  have m1 : j < 4 → False := fun h4 => digs_mem d1 (c := t.data.toList[j]) (by
    rw [List.mem_iff_getElem?]; exact ⟨j, by rw [List.getElem?_drop, List.getElem?_take]; simp [h4]⟩) e
  have m2 : 5 ≤ j → j < 7 → False := fun h5 h7 => digs_mem d2 (c := t.data.toList[j]) (by
    rw [List.mem_iff_getElem?]; exact ⟨j - 5, by rw [List.getElem?_drop, List.getElem?_take]; simp [show 5 + (j - 5) = j from by omega, h7]⟩) e
  have m3 : 8 ≤ j → False := fun h8 => digs_mem d3 (c := t.data.toList[j]) (by
    rw [List.mem_iff_getElem?]; exact ⟨j - 8, by rw [List.getElem?_drop, List.getElem?_take]; simp [show 8 + (j - 8) = j from by omega, hj]⟩) e
  have g : ∀ k : Nat, j = k → byteAt t k = 47 := fun k hk => by
    subst hk; unfold byteAt; rw [List.getD_eq_getElem?_getD, List.getElem?_eq_getElem hjl, e]; rfl
  by_cases c4 : j = 4
  · have := g 4 c4; omega
  · by_cases c7 : j = 7
    · have := g 7 c7; omega
    · by_cases c1 : j < 4
      · exact m1 c1
      · by_cases c2 : j < 7
        · exact m2 (by omega) c2
        · exact m3 (by omega)

theorem occ_one (l : List UInt8) (i : Nat) : Lib.occAt l [47] i = true ↔ l[i]? = some 47 := by
  unfold Lib.occAt
  rw [← List.head?_drop]
  cases l.drop i with
  | nil => simp [List.isPrefixOf]
  | cons b r => simp [List.isPrefixOf]; exact eq_comm

theorem cut_yes {s : ByteArray} (hs : s.size = 16) (hb : byteAt s 10 = 47) (hd : dateB (s.extract 0 10) = true) : cutA s = s.extract 0 10 ∧ cutB s = s.extract 11 16 ∧ cutF s = true := by
  have hl : s.data.toList.length = 16 := by rw [len_list]; exact hs
  have h10 : s.data.toList[10]? = some 47 := by
    unfold byteAt at hb
    rw [List.getD_eq_getElem?_getD, List.getElem?_eq_getElem (by omega)] at hb
    rw [List.getElem?_eq_getElem (by omega)]
    have : (s.data.toList[10]'(by omega)).toNat = 47 := by simpa using (by exact_mod_cast hb : _)
    rw [show s.data.toList[10]'(by omega) = 47 from UInt8.toNat_inj.1 (by simpa using this)]
  have hi : Lib.index s.data.toList [47] = 10 := Lib.index_first (i := 10) (by omega) ((occ_one _ _).2 h10) (fun j hj => by
    cases ho : Lib.occAt s.data.toList [47] j with
    | false => rfl
    | true =>
      have := date_noslash _ hd j hj
      rw [ext_list, List.drop_zero, List.getElem?_take, if_pos hj] at this
      exact absurd ((occ_one _ _).1 ho) this)
  have hc : Lib.cut s.data.toList [47] = (s.data.toList.take 10, s.data.toList.drop 11, true) := by
    unfold Lib.cut; rw [hi]; rfl
  refine ⟨of_list ?_, of_list ?_, ?_⟩
  · simp only [cutA, hc, ext_list]; simp
  · simp only [cutB, hc, ext_list]; rw [List.take_of_length_le (by omega)]
  · simp [cutF, hc]

/-- A day and a minute parted at the first slash: those parted at byte 10. -/
theorem cut_dm (s : ByteArray) : (cutF s && dateB (cutA s) && minB (cutB s)) = dmB s ∧ (dmB s = true → dateV (cutA s) * 1440 + minV (cutB s) = dmV s) := by
  have key : (cutF s && dateB (cutA s) && minB (cutB s)) = dmB s := by
    rw [Bool.eq_iff_iff]
    constructor
    · intro h
      simp only [Bool.and_eq_true] at h
      obtain ⟨⟨hf, hd⟩, hm⟩ := h
      have s1 : (cutA s).size = 10 := (of_decide_eq_true hd).1
      have s2 : (cutB s).size = 5 := (of_decide_eq_true hm).1
      have hi : 0 ≤ Lib.index s.data.toList [47] := by
        by_cases hi : 0 ≤ Lib.index s.data.toList [47]
        · exact hi
        · simp [cutF, Lib.cut, hi] at hf
      obtain ⟨i, hi'⟩ := Int.eq_ofNat_of_zero_le hi
      have hr := Lib.index_room s.data.toList [47] hi
      have hc : Lib.cut s.data.toList [47] = (s.data.toList.take i, s.data.toList.drop (i + 1), true) := by
        unfold Lib.cut; rw [if_pos hi, hi']; simp
      have hocc : s.data.toList[i]? = some 47 := by
        rcases Lib.index_spec s.data.toList [47] with ⟨h, _⟩ | ⟨j, hj, _, ho, _⟩
        · omega
        · rw [hi'] at hj
          have : i = j := by omega
          subst this; exact (occ_one _ _).1 ho
      rw [hi'] at hr
      simp only [List.length_singleton, len_list] at hr
      have e1 : min i s.size = 10 := by
        rw [← len_list] at s1; simp only [cutA, hc] at s1; simpa using s1
      have e2 : s.size - (i + 1) = 5 := by
        rw [← len_list] at s2; simp only [cutB, hc] at s2; simpa using s2
      have i10 : i = 10 := by omega
      have hs : s.size = 16 := by omega
      subst i10
      have a1 : cutA s = s.extract 0 10 := of_list (by simp only [cutA, hc, ext_list]; simp)
      have a2 : cutB s = s.extract 11 16 := of_list (by simp only [cutB, hc, ext_list]; rw [List.take_of_length_le (by rw [len_list]; omega)])
      rw [a1] at hd
      rw [a2] at hm
      have hb : byteAt s 10 = 47 := by
        unfold byteAt; rw [List.getD_eq_getElem?_getD, hocc]; rfl
      exact decide_eq_true ⟨hs, hb, hd, hm⟩
    · intro h
      obtain ⟨hs, hb, hd, hm⟩ := of_decide_eq_true h
      obtain ⟨a1, a2, a3⟩ := cut_yes hs hb hd
      rw [a1, a2, a3, hd, hm]; rfl
  refine ⟨key, fun h => ?_⟩
  obtain ⟨hs, hb, hd, _⟩ := of_decide_eq_true h
  obtain ⟨a1, a2, _⟩ := cut_yes hs hb hd
  rw [a1, a2]; simp [dmV, h]

end Go.Proofs.YtjfkfiffakbagaaGreatDoor.Txt

/-
  The walks over the readers of names, dates and times of package lines, and over those of package bookingsref.
-/
namespace Go.Proofs.YtjfkfiffakbagaaGreatDoor
open Go.RowKit

/-- What the package variables hold that the road passes. -/
structure Env (w : World) : Prop where
  tab : Tab w
  maxl : ∃ m, w.cell? ⟨7, 0, none⟩ = some (.int .i64 m)
  pow : Lib.TabIs Tryz.prog w "internal/strconv.uint64pow10" .u64 Lib.pow10Tab
  size : 10 ≤ w.heap.size
  mo : w.cell? ⟨2, 0, none⟩ = some (.string ⟨#[109, 111]⟩)
  tu : w.cell? ⟨2, 1, none⟩ = some (.string ⟨#[116, 117]⟩)
  we : w.cell? ⟨2, 2, none⟩ = some (.string ⟨#[119, 101]⟩)
  th : w.cell? ⟨2, 3, none⟩ = some (.string ⟨#[116, 104]⟩)
  fr : w.cell? ⟨2, 4, none⟩ = some (.string ⟨#[102, 114]⟩)
  sa : w.cell? ⟨2, 5, none⟩ = some (.string ⟨#[115, 97]⟩)
  su : w.cell? ⟨2, 6, none⟩ = some (.string ⟨#[115, 117]⟩)

theorem gPow : Tryz.prog.globalNamed "internal/strconv.uint64pow10" = some 1 := by kernel_rfl
theorem Env.later {w wx : World} (h : Env w) (hb : Below w.heap.size w wx) : Env wx := by
  obtain ⟨m, hm⟩ := h.maxl
  refine ⟨h.tab.later hb, ⟨m, cell_later hb hm⟩, ?_, Nat.le_trans h.size hb.size, cell_later hb h.mo, cell_later hb h.tu, cell_later hb h.we, cell_later hb h.th, cell_later hb h.fr, cell_later hb h.sa, cell_later hb h.su⟩
  have hp := h.pow
  have hz := h.size
  unfold Lib.TabIs World.var? at hp ⊢
  simp only [gPow, Option.bind_some] at hp ⊢
  rw [hb.block 1 (by omega)]
  exact hp
theorem Env.drewN {w : World} (h : Env w) (n : Nat) : Env (w.drewN n) := h.later (w := w) (wx := w.drewN n) ⟨rfl, rfl, rfl, Nat.le_refl _, fun _ _ => rfl⟩

theorem ret2_sb {a b : ByteArray} {c d : Bool} (h : a = b) (g : c = d) : Ending.returned (.tuple #[.string a, .bool c]) = .returned (.tuple #[.string b, .bool d]) := by rw [h, g]

set_option maxHeartbeats 400000 in
theorem clone_any (s : ByteArray) (w : World) (hs : s.size ≤ 281474976710656) :
    Calls Tryz.prog 139 #[.string s] w fun e w' => e = .returned (.string s) ∧ Below w.heap.size w w' := by
  go_enter Tryz.func139, Tryz.ntmps139
  go_wp2_with fail
  refine (Tryz.stringslite_Clone s w hs).mono ?_
  rintro e w' ⟨rfl, hb⟩
  go_wp2
  go_ret
  exact ⟨rfl, hb⟩

/-- What readName hands back beside its answer. -/
def nameV (s : ByteArray) : ByteArray := if Txt.isName s.data.toList then s else ⟨#[]⟩

set_option maxHeartbeats 1000000 in
theorem readName_any (s : ByteArray) (w : World) (hs : s.size ≤ 160) :
    Calls Tryz.prog 128 #[.string s] w fun e w' => e = .returned (.tuple #[.string (nameV s), .bool (Txt.isName s.data.toList)]) ∧ Below w.heap.size w w' := by
  by_cases h0 : s.size = 0
  · have H : Hid (Txt.isName s.data.toList = false) := Txt.isName_len (by rw [Txt.len_list]; omega)
    have h1 : ((s.size : Int) == 0) = true := beq_iff_eq.2 (by omega)
    go_enter Tryz.func128, Tryz.ntmps128
    go_wp2
    go_ret2
    exact ⟨ret2_sb (by simp [nameV, H.out]) (by rw [H.out]), Below.refl _ _⟩
  · have h1 : ((s.size : Int) == 0) = false := beq_eq_false_iff_ne.2 (by omega)
    by_cases h7 : 8 < s.size
    · have H : Hid (Txt.isName s.data.toList = false) := Txt.isName_len (by rw [Txt.len_list]; omega)
      clear h0
      go_enter Tryz.func128, Tryz.ntmps128
      go_wp2
      go_ret2
      exact ⟨ret2_sb (by simp [nameV, H.out]) (by rw [H.out]), Below.refl _ _⟩
    · go_enter Tryz.func128, Tryz.ntmps128
      go_wp2
      go_loop [4] (fun i => ∃ k : Nat, k ≤ s.size ∧ i = .int .i64 k ∧ Txt.lows (s.data.toList.take k) = true) (fun i => s.size - (intOf i).toNat)
      case atStart => exact ⟨0, Nat.zero_le _, rfl, rfl⟩
      case round =>
        obtain ⟨k, hk, rfl, hd⟩ := hrel
        have HD := hide hd
        clear hd
        by_cases hlt : k < s.size
        · have HT : Hid (s.data.toList.take (k + 1) = s.data.toList.take k ++ [s[k]]) := Txt.take_snoc s k hlt
          by_cases hc : Txt.low s[k] = true
          · have hc' := (Txt.low_iff _).1 hc
            have HC := hide hc
            obtain ⟨hc1, hc2⟩ := hc'
            clear hc
            go_wp2
            go_round
            case rel => exact ⟨k + 1, by omega, by go_num, by rw [HT.out, Txt.lows_snoc, HD.out, HC.out]; rfl⟩
            case measure => simp [intOf]; omega
          · have HC : Hid (Txt.isName s.data.toList = false) := Txt.isName_low (Txt.lows_of_take _ (k + 1) (by rw [HT.out, Txt.lows_snoc, HD.out]; simpa using hc))
            have hc' : (s[k].toNat : Int) < 97 ∨ (¬ (s[k].toNat : Int) < 97 ∧ 122 < (s[k].toNat : Int)) := by
              have := mt (Txt.low_iff s[k]).2 hc; omega
            clear hc
            rcases hc' with hc' | ⟨hc', hc''⟩
            all_goals
              go_wp2
              go_ret2
              exact ⟨ret2_sb (by simp [nameV, HC.out]) (by rw [HC.out]), Below.refl _ _⟩
        · have HA : Hid (s.data.toList.take k = s.data.toList) := Txt.take_all s k (by omega)
          have HN : Hid (Txt.isName s.data.toList = true) := Txt.isName_true (by rw [Txt.len_list]; omega) (by rw [Txt.len_list]; omega) (by rw [← HA.out]; exact HD.out)
          go_wp2_with fail
          refine (clone_any s w (by omega)).mono ?_
          rintro e w' ⟨rfl, hb⟩
          go_wp2
          go_ret2
          exact ⟨ret2_sb (by simp [nameV, HN.out]) (by rw [HN.out]), hb⟩

set_option maxHeartbeats 1000000 in
theorem named_any (s : ByteArray) (w : World) (hs : s.size ≤ 160) :
    Calls Tryz.prog 178 #[.string s] w fun e w' => e = .returned (.bool (Txt.isName s.data.toList)) ∧ w' = w := by
  by_cases h0 : s.size < 1
  · have H : Hid (Txt.isName s.data.toList = false) := Txt.isName_len (by rw [Txt.len_list]; omega)
    have h1 : ((s.size : Int) < 1) := by omega
    go_enter Tryz.func178, Tryz.ntmps178
    go_wp2
    go_ret
    exact ⟨ret_bool (by rw [H.out]), rfl⟩
  · have h1 : ¬ ((s.size : Int) < 1) := by omega
    by_cases h7 : 8 < s.size
    · have H : Hid (Txt.isName s.data.toList = false) := Txt.isName_len (by rw [Txt.len_list]; omega)
      go_enter Tryz.func178, Tryz.ntmps178
      go_wp2
      go_ret
      exact ⟨ret_bool (by rw [H.out]), rfl⟩
    · go_enter Tryz.func178, Tryz.ntmps178
      go_wp2
      go_loop [3] (fun i => ∃ k : Nat, k ≤ s.size ∧ i = .int .i64 k ∧ Txt.lows (s.data.toList.take k) = true) (fun i => s.size - (intOf i).toNat)
      case atStart => exact ⟨0, Nat.zero_le _, rfl, rfl⟩
      case round =>
        obtain ⟨k, hk, rfl, hd⟩ := hrel
        have HD := hide hd
        clear hd
        by_cases hlt : k < s.size
        · have HT : Hid (s.data.toList.take (k + 1) = s.data.toList.take k ++ [s[k]]) := Txt.take_snoc s k hlt
          by_cases hc : Txt.low s[k] = true
          · have hc' := (Txt.low_iff _).1 hc
            have HC := hide hc
            obtain ⟨hc1, hc2⟩ := hc'
            clear hc
            go_wp2
            go_round
            case rel => exact ⟨k + 1, by omega, by go_num, by rw [HT.out, Txt.lows_snoc, HD.out, HC.out]; rfl⟩
            case measure => simp [intOf]; omega
          · have HC : Hid (Txt.isName s.data.toList = false) := Txt.isName_low (Txt.lows_of_take _ (k + 1) (by rw [HT.out, Txt.lows_snoc, HD.out]; simpa using hc))
            have hc' : (s[k].toNat : Int) < 97 ∨ (¬ (s[k].toNat : Int) < 97 ∧ 122 < (s[k].toNat : Int)) := by
              have := mt (Txt.low_iff s[k]).2 hc; omega
            clear hc
            rcases hc' with hc' | ⟨hc', hc''⟩
            all_goals
              go_wp2
              go_ret
              exact ⟨ret_bool (by rw [HC.out]), rfl⟩
        · have HA : Hid (s.data.toList.take k = s.data.toList) := Txt.take_all s k (by omega)
          have HN : Hid (Txt.isName s.data.toList = true) := Txt.isName_true (by rw [Txt.len_list]; omega) (by rw [Txt.len_list]; omega) (by rw [← HA.out]; exact HD.out)
          go_wp2
          go_ret
          exact ⟨ret_bool (by rw [HN.out]), rfl⟩

theorem decFrom_digs (l : List UInt8) : ∀ acc : Nat, Txt.digs l = true → ∃ n : Nat, Lib.decFrom acc l = some n ∧ (n : Int) = l.foldl (fun n c => n * 10 + ((c.toNat : Int) - 48)) (acc : Int) := by
  induction l with
  | nil => intro acc _; exact ⟨acc, rfl, rfl⟩
  | cons c l ih =>
    intro acc h
    simp only [Txt.digs, List.all_cons, Bool.and_eq_true] at h
    have hc := (Txt.dig_iff c).1 h.1
    obtain ⟨n, h1, h2⟩ := ih (acc * 10 + (c.toNat - 48)) h.2
    refine ⟨n, ?_, ?_⟩
    · simp only [Lib.decFrom, Lib.digitVal]
      rw [if_pos (by omega)]
      exact h1
    · rw [h2, List.foldl_cons]
      congr 1
      omega
theorem atoi_digs (l : List UInt8) (h : Txt.digs l = true) (h0 : l ≠ []) : Lib.atoi l = some (Txt.numL l) := by
  obtain ⟨n, h1, h2⟩ := decFrom_digs l 0 h
  cases l with
  | nil => exact absurd rfl h0
  | cons b r =>
    simp only [Txt.digs, List.all_cons, Bool.and_eq_true] at h
    have hb := (Txt.dig_iff b).1 h.1
    have b1 : (b == 45) = false := by
      rw [beq_eq_false_iff_ne]; intro e; subst e; revert hb; decide
    have b2 : (b == 43) = false := by
      rw [beq_eq_false_iff_ne]; intro e; subst e; revert hb; decide
    simp only [Lib.atoi, b1, b2, Bool.false_eq_true, if_false, Lib.decNat, List.isEmpty_cons, h1, Option.map_some]
    rw [h2]; rfl

/-- What the document's number answers: of a row of digits of a length within its bounds its number, else -1. -/
def numR (s : ByteArray) (lo hi : Nat) : Int := if lo ≤ s.size ∧ s.size ≤ hi ∧ Txt.digs s.data.toList = true then Txt.numL s.data.toList else -1
theorem numR_len {s : ByteArray} {lo hi : Nat} (h : ¬ (lo ≤ s.size ∧ s.size ≤ hi)) : numR s lo hi = -1 := by
  unfold numR; rw [if_neg (fun g => h ⟨g.1, g.2.1⟩)]
theorem numR_dig {s : ByteArray} {lo hi : Nat} (h : Txt.digs s.data.toList = false) : numR s lo hi = -1 := by
  unfold numR; rw [if_neg (fun g => by rw [h] at g; exact absurd g.2.2 (by decide))]
theorem numR_yes {s : ByteArray} {lo hi : Nat} (h1 : lo ≤ s.size) (h2 : s.size ≤ hi) (h : Txt.digs s.data.toList = true) : numR s lo hi = Txt.numL s.data.toList := by
  unfold numR; rw [if_pos ⟨h1, h2, h⟩]

set_option maxHeartbeats 1000000 in
theorem number_any (s : ByteArray) (lo hi : Nat) (w : World) (hs : s.size ≤ 160) (hlo : 1 ≤ lo) (hhi : hi ≤ 7) :
    Calls Tryz.prog 123 #[.string s, .int .i64 lo, .int .i64 hi] w fun e w' => e = .returned (.int .i64 (numR s lo hi)) ∧ Below w.heap.size w w' := by
  by_cases h0 : s.size < lo
  · have H : Hid (numR s lo hi = -1) := numR_len (by omega)
    have h1 : ((s.size : Int) < (lo : Int)) := by omega
    go_enter Tryz.func123, Tryz.ntmps123
    go_wp2
    go_ret
    exact ⟨ret_int (by rw [H.out]), Below.refl _ _⟩
  · have h1 : ¬ ((s.size : Int) < (lo : Int)) := by omega
    by_cases h7 : hi < s.size
    · have H : Hid (numR s lo hi = -1) := numR_len (by omega)
      have h2 : ((hi : Int) < (s.size : Int)) := by omega
      go_enter Tryz.func123, Tryz.ntmps123
      go_wp2
      go_ret
      exact ⟨ret_int (by rw [H.out]), Below.refl _ _⟩
    · have h2 : ¬ ((hi : Int) < (s.size : Int)) := by omega
      go_enter Tryz.func123, Tryz.ntmps123
      go_wp2
      go_loop [7] (fun i => ∃ k : Nat, k ≤ s.size ∧ i = .int .i64 k ∧ Txt.digs (s.data.toList.take k) = true) (fun i => s.size - (intOf i).toNat)
      case atStart => exact ⟨0, Nat.zero_le _, rfl, rfl⟩
      case round =>
        obtain ⟨k, hk, rfl, hd⟩ := hrel
        have HD := hide hd
        clear hd
        by_cases hlt : k < s.size
        · have HT : Hid (s.data.toList.take (k + 1) = s.data.toList.take k ++ [s[k]]) := Txt.take_snoc s k hlt
          by_cases hc : Txt.dig s[k] = true
          · have hc' := (Txt.dig_iff _).1 hc
            have HC := hide hc
            obtain ⟨hc1, hc2⟩ := hc'
            clear hc
            go_wp2
            go_round
            case rel => exact ⟨k + 1, by omega, by go_num, by rw [HT.out, Txt.digs_snoc, HD.out, HC.out]; rfl⟩
            case measure => simp [intOf]; omega
          · have HC : Hid (numR s lo hi = -1) := numR_dig (Txt.digs_of_take _ (k + 1) (by rw [HT.out, Txt.digs_snoc, HD.out]; simpa using hc))
            have hc' : (s[k].toNat : Int) < 48 ∨ (¬ (s[k].toNat : Int) < 48 ∧ 57 < (s[k].toNat : Int)) := by
              have := mt (Txt.dig_iff s[k]).2 hc; omega
            clear hc
            rcases hc' with hc' | ⟨hc', hc''⟩
            all_goals
              go_wp2
              go_ret
              exact ⟨ret_int (by rw [HC.out]), Below.refl _ _⟩
        · have HA : Hid (s.data.toList.take k = s.data.toList) := Txt.take_all s k (by omega)
          have hdg : Txt.digs s.data.toList = true := by rw [← HA.out]; exact HD.out
          have HN : Hid (numR s lo hi = Txt.numL s.data.toList) := numR_yes (by omega) (by omega) hdg
          have HE : Hid (Lib.atoi s.data.toList = some (Txt.numL s.data.toList)) := atoi_digs _ hdg (fun e => by have := Txt.len_list s; rw [e] at this; simp at this; omega)
          clear hdg
          go_wp2_with fail
          refine (Tryz.strconv_Atoi s _ (by omega) HE.out w).mono ?_
          rintro e w' ⟨rfl, t, hw⟩
          have hb : Below w.heap.size w w' := by rw [hw]; exact Joins.below_bytesWorld _ _ _ _ (Nat.le_refl _)
          clear hw
          go_wp2
          go_ret
          exact ⟨ret_int (by rw [HN.out]), hb⟩

end Go.Proofs.YtjfkfiffakbagaaGreatDoor

/-
  The walks over the readers of minutes, dates and times of package bookingsref, and over those of dates and times of package lines.
-/
namespace Go.Proofs.YtjfkfiffakbagaaGreatDoor
open Go.RowKit

theorem size_ext' (s : ByteArray) (a b : Nat) (h : s.size ≤ 160) : (s.extract a b).size ≤ 160 := by
  have : (s.extract a b).size = min b s.size - a := ByteArray.size_extract ..
  omega
theorem size_part (s : ByteArray) (a b n : Nat) (h : min b s.size - a = n) : (s.extract a b).size = n := (ByteArray.size_extract ..).trans h

/-- A number of exactly so many digits, by both sides. -/
theorem numR_part (t : ByteArray) (n : Nat) (h : t.size = n) (h1 : 1 ≤ n) (h7 : n ≤ 7) : numR t n n = if Txt.isNum t.data.toList then Txt.numV t.data.toList else -1 := by
  have hl := Txt.len_list t
  cases hd : Txt.digs t.data.toList
  · rw [numR_dig hd, Txt.isNum_dig hd]; rfl
  · have hn : Txt.isNum t.data.toList = true := Txt.isNum_true (by omega) (by omega) hd
    rw [numR_yes (by omega) (by omega) hd, hn]; simp [Txt.numV, hn]
theorem numR_num (t : ByteArray) : numR t 1 7 = if Txt.isNum t.data.toList then Txt.numV t.data.toList else -1 := by
  have hl := Txt.len_list t
  cases hd : Txt.digs t.data.toList
  · rw [numR_dig hd, Txt.isNum_dig hd]; rfl
  · by_cases h : 1 ≤ t.size ∧ t.size ≤ 7
    · have hn : Txt.isNum t.data.toList = true := Txt.isNum_true (by omega) (by omega) hd
      rw [numR_yes h.1 h.2 hd, hn]; simp [Txt.numV, hn]
    · rw [numR_len h, Txt.isNum_len (by omega)]; rfl

/-- What the document's clocked answers. -/
def clkR (s : ByteArray) : Int := if Txt.minB s then Txt.minV s else -1
/-- What the document's dated answers. -/
def datR (s : ByteArray) : Int := if Txt.dateB s = true ∧ 0 ≤ Txt.dateV s ∧ Txt.dateV s ≤ 728 then Txt.dateV s else -1

theorem clkR_false {s : ByteArray} (h : Txt.minB s = false) : clkR s = -1 := by simp [clkR, h]
theorem datR_false {s : ByteArray} (h : Txt.dateB s = false) : datR s = -1 := by simp [datR, h]

set_option maxHeartbeats 1000000 in
theorem clocked_any (s : ByteArray) (w : World) (hm : s.size ≤ 160) :
    Calls Tryz.prog 180 #[.string s] w fun e w' => e = .returned (.int .i64 (clkR s)) ∧ Below w.heap.size w w' := by
  by_cases hs : s.size = 5
  · have h5 : ((s.size : Int) != 5) = false := bne_f (by omega)
    have h2n : 2 < s.size := by omega
    have h6 : (2 : Int) < (s.size : Int) := by omega
    have h7 : (3 : Int) ≤ (s.size : Int) := by omega
    by_cases hb : Txt.byteAt s 2 = 58
    · have hc : (((s[2]'h2n).toNat : Int) != 58) = false := bne_f (by rw [← Txt.byteAt_eq]; exact hb)
      have b1 := Txt.numV_bd (Txt.part s 0 2)
      have b2 := Txt.numV_bd (Txt.part s 3 5)
      have HF := hide (Txt.minB_and hs hb)
      have e1 : numR (s.extract 0 2) 2 2 = if Txt.isNum (Txt.part s 0 2) then Txt.numV (Txt.part s 0 2) else -1 := numR_part _ 2 (size_part _ _ _ _ (by omega)) (by omega) (by omega)
      have e2 : numR (s.extract 3 s.size) 2 2 = if Txt.isNum (Txt.part s 3 5) then Txt.numV (Txt.part s 3 5) else -1 := by
        rw [hs]; exact numR_part _ 2 (size_part _ _ _ _ (by omega)) (by omega) (by omega)
      have hx : ∃ x y : Int, numR (s.extract 0 2) 2 2 = x ∧ numR (s.extract 3 s.size) 2 2 = y := ⟨_, _, rfl, rfl⟩
      obtain ⟨x, y, hx, hy⟩ := hx
      have bx : -1 ≤ x ∧ x ≤ 9999999 := by rw [← hx, e1]; split <;> omega
      have by' : -1 ≤ y ∧ y ≤ 9999999 := by rw [← hy, e2]; split <;> omega
      have HR : Hid (clkR s = if x < 0 ∨ 23 < x ∨ y < 0 ∨ 59 < y then -1 else 60 * x + y) := by
        show clkR s = _
        rw [← hx, ← hy, e1, e2, clkR, Txt.minV, unhide HF]
        cases Txt.isNum (Txt.part s 0 2)
        · simp
        · cases Txt.isNum (Txt.part s 3 5)
          · simp
          · simp only [Bool.true_and, if_true]
            by_cases g1 : Txt.numV (Txt.part s 0 2) ≤ 23
            · by_cases g2 : Txt.numV (Txt.part s 3 5) ≤ 59
              · simp only [g1, g2, decide_true, Bool.and_self, if_true]
                rw [if_neg (by omega)]; omega
              · simp only [g1, g2, decide_true, decide_false, Bool.and_false, Bool.false_eq_true, if_false]
                rw [if_pos (by omega)]
            · simp only [g1, decide_false, Bool.false_and, Bool.false_eq_true, if_false]
              rw [if_pos (by omega)]
      have HX := hide hx
      have HY := hide hy
      clear e1 e2 hx hy hs hb b1 b2 HF
      have hcase : x < 0 ∨ (¬ x < 0 ∧ 23 < x) ∨ (¬ x < 0 ∧ ¬ 23 < x ∧ y < 0) ∨ (¬ x < 0 ∧ ¬ 23 < x ∧ ¬ y < 0 ∧ 59 < y) ∨ (¬ x < 0 ∧ ¬ 23 < x ∧ ¬ y < 0 ∧ ¬ 59 < y) := by omega
      rcases hcase with g | ⟨g, g'⟩ | ⟨g, g', g''⟩ | ⟨g, g', g'', g3⟩ | ⟨g, g', g'', g3⟩
      all_goals
        go_enter Tryz.func180, Tryz.ntmps180
        go_wp2_with fail
        refine (number_any (s.extract 0 2) 2 2 _ (size_ext' _ _ _ hm) (by omega) (by omega)).mono ?_
        rintro e w1 ⟨rfl, hb1⟩
        rw [unhide HX]
        go_wp2_with fail
        refine (number_any (s.extract 3 s.size) 2 2 _ (size_ext' _ _ _ hm) (by omega) (by omega)).mono ?_
        rintro e w2 ⟨rfl, hb2⟩
        rw [unhide HY]
        have hbb := hb1.trans (hb2.mono hb1.size)
        go_wp2
        go_ret
        refine ⟨ret_int ?_, hbb⟩
        rw [HR.out]
        first | rw [if_pos (by omega)] | rw [if_neg (by omega)]
    · have hc : (((s[2]'h2n).toNat : Int) != 58) = true := bne_t (by rw [← Txt.byteAt_eq]; exact hb)
      have HF := hide (clkR_false (Txt.minB_false (s := s) (by omega)))
      clear hs hb
      go_enter Tryz.func180, Tryz.ntmps180
      go_wp2
      go_ret
      exact ⟨ret_int (by rw [unhide HF]), Below.refl _ _⟩
  · have h5 : ((s.size : Int) != 5) = true := bne_t (by omega)
    have HF := hide (clkR_false (Txt.minB_false (s := s) (by omega)))
    clear hs
    go_enter Tryz.func180, Tryz.ntmps180
    go_wp2
    go_ret
    exact ⟨ret_int (by rw [unhide HF]), Below.refl _ _⟩

set_option maxHeartbeats 1000000 in
theorem dated_word (s : ByteArray) (w : World) (hm : s.size ≤ 160) :
    Calls Tryz.prog 179 #[.string s] w fun e w' => e = .returned (.int .i64 (datR s)) ∧ Below w.heap.size w w' := by
  by_cases hs : s.size = 10
  · have h5 : ((s.size : Int) != 10) = false := bne_f (by omega)
    have h4n : 4 < s.size := by omega
    have h7n : 7 < s.size := by omega
    have h4 : (4 : Int) < (s.size : Int) := by omega
    have h7 : (7 : Int) < (s.size : Int) := by omega
    have h8 : (8 : Int) ≤ (s.size : Int) := by omega
    by_cases hb : Txt.byteAt s 4 = 45
    · have hc : (((s[4]'h4n).toNat : Int) != 45) = false := bne_f (by rw [← Txt.byteAt_eq]; exact hb)
      by_cases hd : Txt.byteAt s 7 = 45
      · have he : (((s[7]'h7n).toNat : Int) != 45) = false := bne_f (by rw [← Txt.byteAt_eq]; exact hd)
        have HF := hide (Txt.dateB_and hs hb hd)
        have e1 : numR (s.extract 0 4) 4 4 = if Txt.isNum (Txt.part s 0 4) then Txt.numV (Txt.part s 0 4) else -1 := numR_part _ 4 (size_part _ _ _ _ (by omega)) (by omega) (by omega)
        have e2 : numR (s.extract 5 7) 2 2 = if Txt.isNum (Txt.part s 5 7) then Txt.numV (Txt.part s 5 7) else -1 := numR_part _ 2 (size_part _ _ _ _ (by omega)) (by omega) (by omega)
        have e3 : numR (s.extract 8 s.size) 2 2 = if Txt.isNum (Txt.part s 8 10) then Txt.numV (Txt.part s 8 10) else -1 := by
          rw [hs]; exact numR_part _ 2 (size_part _ _ _ _ (by omega)) (by omega) (by omega)
        have hx : ∃ x y z : Int, numR (s.extract 0 4) 4 4 = x ∧ numR (s.extract 5 7) 2 2 = y ∧ numR (s.extract 8 s.size) 2 2 = z := ⟨_, _, _, rfl, rfl, rfl⟩
        obtain ⟨x, y, z, hx, hy, hz⟩ := hx
        have HR : Hid (datR s = if Cal.ok x y z = true ∧ 0 ≤ Cal.num x y z ∧ Cal.num x y z ≤ 728 then Cal.num x y z else -1) := by
          show datR s = _
          rw [← hx, ← hy, ← hz, e1, e2, e3, datR, Txt.dateV, unhide HF]
          cases Txt.isNum (Txt.part s 0 4)
          · simp [ok_false (y := -1) (m := _) (d := _) (by omega)]
          · cases Txt.isNum (Txt.part s 5 7)
            · simp [ok_false (y := _) (m := -1) (d := _) (by omega)]
            · cases Txt.isNum (Txt.part s 8 10)
              · simp [ok_false (y := _) (m := _) (d := -1) (by omega)]
              · simp only [Bool.true_and, if_true]
                cases Cal.ok (Txt.numV (Txt.part s 0 4)) (Txt.numV (Txt.part s 5 7)) (Txt.numV (Txt.part s 8 10)) <;> simp
        have HX := hide hx
        have HY := hide hy
        have HZ := hide hz
        clear e1 e2 e3 hx hy hz hs hb hd HF
        cases ho : Cal.ok x y z
        · go_enter Tryz.func179, Tryz.ntmps179
          go_wp2_with fail
          refine (number_any (s.extract 0 4) 4 4 _ (size_ext' _ _ _ hm) (by omega) (by omega)).mono ?_
          rintro e w1 ⟨rfl, hb1⟩
          rw [unhide HX]
          go_wp2_with fail
          refine (number_any (s.extract 5 7) 2 2 _ (size_ext' _ _ _ hm) (by omega) (by omega)).mono ?_
          rintro e w2 ⟨rfl, hb2⟩
          rw [unhide HY]
          go_wp2_with fail
          refine (number_any (s.extract 8 s.size) 2 2 _ (size_ext' _ _ _ hm) (by omega) (by omega)).mono ?_
          rintro e w3 ⟨rfl, hb3⟩
          rw [unhide HZ]
          have hbb := (hb1.trans (hb2.mono hb1.size)).trans (hb3.mono (Nat.le_trans hb1.size hb2.size))
          go_wp2_with fail
          refine (refDay_no _ _ _ _ ho).mono ?_
          rintro e w4 ⟨rfl, rfl⟩
          go_wp2
          go_ret
          exact ⟨ret_int (by rw [HR.out, ho]; simp), hbb⟩
        · have hcase : Cal.num x y z < 0 ∨ (¬ Cal.num x y z < 0 ∧ 728 < Cal.num x y z) ∨ (¬ Cal.num x y z < 0 ∧ ¬ 728 < Cal.num x y z) := by omega
          rcases hcase with g | ⟨g, g'⟩ | ⟨g, g'⟩
          all_goals
            go_enter Tryz.func179, Tryz.ntmps179
            go_wp2_with fail
            refine (number_any (s.extract 0 4) 4 4 _ (size_ext' _ _ _ hm) (by omega) (by omega)).mono ?_
            rintro e w1 ⟨rfl, hb1⟩
            rw [unhide HX]
            go_wp2_with fail
            refine (number_any (s.extract 5 7) 2 2 _ (size_ext' _ _ _ hm) (by omega) (by omega)).mono ?_
            rintro e w2 ⟨rfl, hb2⟩
            rw [unhide HY]
            go_wp2_with fail
            refine (number_any (s.extract 8 s.size) 2 2 _ (size_ext' _ _ _ hm) (by omega) (by omega)).mono ?_
            rintro e w3 ⟨rfl, hb3⟩
            rw [unhide HZ]
            have hbb := (hb1.trans (hb2.mono hb1.size)).trans (hb3.mono (Nat.le_trans hb1.size hb2.size))
            go_wp2_with fail
            refine (refDay_yes _ _ _ _ ho).mono ?_
            rintro e w4 ⟨rfl, rfl⟩
            go_wp2
            go_ret
            refine ⟨ret_int ?_, hbb⟩
            rw [HR.out]
            first | rw [if_neg (by omega)] | rw [if_pos ⟨ho, by omega, by omega⟩]
      · have he : (((s[7]'h7n).toNat : Int) != 45) = true := bne_t (by rw [← Txt.byteAt_eq]; exact hd)
        have HF := hide (datR_false (Txt.dateB_false (s := s) (by omega)))
        clear hs hb hd
        go_enter Tryz.func179, Tryz.ntmps179
        go_wp2
        go_ret
        exact ⟨ret_int (by rw [unhide HF]), Below.refl _ _⟩
    · have hc : (((s[4]'h4n).toNat : Int) != 45) = true := bne_t (by rw [← Txt.byteAt_eq]; exact hb)
      have HF := hide (datR_false (Txt.dateB_false (s := s) (by omega)))
      clear hs hb
      go_enter Tryz.func179, Tryz.ntmps179
      go_wp2
      go_ret
      exact ⟨ret_int (by rw [unhide HF]), Below.refl _ _⟩
  · have h5 : ((s.size : Int) != 10) = true := bne_t (by omega)
    have HF := hide (datR_false (Txt.dateB_false (s := s) (by omega)))
    clear hs
    go_enter Tryz.func179, Tryz.ntmps179
    go_wp2
    go_ret
    exact ⟨ret_int (by rw [unhide HF]), Below.refl _ _⟩

theorem dayB_and (s : ByteArray) : Txt.dayB s = (Txt.dateB s && decide (0 ≤ Txt.dateV s) && decide (Txt.dateV s < 728)) := by
  rw [Bool.eq_iff_iff]; simp [Txt.dayB, and_assoc]
def dayV (s : ByteArray) : Int := if Txt.dayB s then Txt.dateV s else 0

set_option maxHeartbeats 1000000 in
theorem readDate_any (s : ByteArray) (w : World) (ht : Tab w) (hm : s.size ≤ 160) :
    Calls Tryz.prog 133 #[.string s] w fun e w' => e = .returned (.tuple #[.int .i64 (dayV s), .bool (Txt.dayB s)]) ∧ w' = w := by
  have hm' : s.size ≤ maxLen := by unfold maxLen; omega
  have HD := hide (dayB_and s)
  cases hb : Txt.dateB s
  · go_enter Tryz.func133, Tryz.ntmps133
    go_wp2_with fail
    refine (readAnyDate_any s w ht hm').mono ?_
    rintro e w' ⟨rfl, rfl⟩
    go_wp2
    go_ret2
    exact ⟨ret2_ib (by simp [dayV, unhide HD, hb]) (by simp [unhide HD, hb]), rfl⟩
  · have hcase : Txt.dateV s < 0 ∨ (¬ Txt.dateV s < 0 ∧ 728 ≤ Txt.dateV s) ∨ (¬ Txt.dateV s < 0 ∧ ¬ 728 ≤ Txt.dateV s) := by omega
    rcases hcase with g | ⟨g, g'⟩ | ⟨g, g'⟩
    all_goals
      have HB : Hid (Txt.dayB s = (decide (0 ≤ Txt.dateV s) && decide (Txt.dateV s < 728))) := (unhide HD).trans (by rw [hb]; rfl)
      go_enter Tryz.func133, Tryz.ntmps133
      go_wp2_with fail
      refine (readAnyDate_any s w ht hm').mono ?_
      rintro e w' ⟨rfl, rfl⟩
      go_wp2
      go_ret2
      refine ⟨ret2_ib ?_ ?_, rfl⟩
    · rw [dayV, HB.out, decide_eq_false (by omega)]; rfl
    · rw [HB.out, decide_eq_false (by omega)]; rfl
    · rw [dayV, HB.out, decide_eq_false (p := Txt.dateV s < 728) (by omega), Bool.and_false]; rfl
    · rw [HB.out, decide_eq_false (p := Txt.dateV s < 728) (by omega), Bool.and_false]
    · rw [dayV, HB.out, decide_eq_true (p := Txt.dateV s < 728) (by omega), decide_eq_true (p := 0 ≤ Txt.dateV s) (by omega)]; rfl
    · rw [HB.out, decide_eq_true (p := Txt.dateV s < 728) (by omega), decide_eq_true (p := 0 ≤ Txt.dateV s) (by omega)]; rfl

end Go.Proofs.YtjfkfiffakbagaaGreatDoor
