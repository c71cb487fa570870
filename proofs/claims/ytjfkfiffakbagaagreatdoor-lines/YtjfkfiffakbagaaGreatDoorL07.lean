/-
  Parts of the proof, one behind the other: PadTxt, PadWalks, CalFn, Written, WrittenRef, PlainWalk, PlainMore.
-/
import Derived.Test.YtjfkfiffakbagaaGreatDoorL06
import Derived.Lib.ItoaNum
/-
  The plain mathematics of numbers as texts: digits, noughts ahead.
-/
namespace Go.Proofs.YtjfkfiffakbagaaGreatDoor.Txt
open Go

theorem dec_len : ∀ (k u : Nat), u < 10 ^ (k + 1) → (Lib.decDigits u).length ≤ k + 1
  | 0, u, h => by rw [Lib.decDigits]; simp at h; rw [dif_pos h]; simp
  | k + 1, u, h => by
    rw [Lib.decDigits]
    split
    · simp
    · have := dec_len k (u / 10) (by rw [Nat.pow_succ] at h; omega)
      simp; omega
def itoaS (n : Int) : ByteArray := ⟨(Lib.itoa n).toArray⟩
theorem itoa_size (n : Int) (h0 : 0 ≤ n) (h : n ≤ 9999999) : (itoaS n).size ≤ 7 := by
  rw [← len_list]
  unfold itoaS Lib.itoa
  rw [if_neg (by omega)]
  have := dec_len 6 n.toNat (by omega)
  simpa using this
/-- Noughts ahead. -/
def pz : Nat → ByteArray → ByteArray
  | 0, t => t
  | k + 1, t => pz k (⟨#[48]⟩ ++ t)
def padS (n : Int) (size : Nat) : ByteArray := pz (size - (itoaS n).size) (itoaS n)
theorem pz_size : ∀ (k : Nat) (t : ByteArray), (pz k t).size = k + t.size
  | 0, t => by simp [pz]
  | k + 1, t => by
    rw [pz, pz_size k]
    have : (⟨#[48]⟩ ++ t : ByteArray).size = 1 + t.size := ByteArray.size_append
    omega
theorem pad_size (n : Int) (size : Nat) (h0 : 0 ≤ n) (h : n ≤ 9999999) : (padS n size).size ≤ size + 7 := by
  unfold padS; rw [pz_size]
  have := itoa_size n h0 h
  omega

/-- The digits of a number of a row of digits, with noughts ahead, are that row. -/
theorem pz_list : ∀ (k : Nat) (t : ByteArray), (pz k t).data.toList = List.replicate k 48 ++ t.data.toList
  | 0, t => rfl
  | k + 1, t => by
    rw [pz, pz_list k, append_list]
    rw [show (ByteArray.mk #[48]).data.toList = [48] from rfl, ← List.append_assoc]
    congr 1
    rw [List.replicate_succ']
theorem digit_back (c : UInt8) (h : dig c = true) (u : Nat) (hu : (u : Int) = (c.toNat : Int) - 48) : UInt8.ofNat (48 + u) = c := by
  have := (dig_iff c).1 h
  apply UInt8.toNat_inj.1
  rw [UInt8.toNat_ofNat']
  omega
theorem dec_small (u : Nat) (h : u < 10) : Lib.decDigits u = [UInt8.ofNat (48 + u)] := by
  rw [Lib.decDigits, dif_pos h]
theorem dec_big (u : Nat) (h : ¬ u < 10) : Lib.decDigits u = Lib.decDigits (u / 10) ++ [UInt8.ofNat (48 + u % 10)] := by
  rw [Lib.decDigits, dif_neg h]

/-- Induction from the right: rows of digits. -/
theorem back_aux : ∀ (n : Nat) (l : List UInt8), l.length = n + 1 → digs l = true → List.replicate (n + 1 - (Lib.decDigits (numL l).toNat).length) 48 ++ Lib.decDigits (numL l).toNat = l ∧ 0 ≤ numL l ∧ (Lib.decDigits (numL l).toNat).length ≤ n + 1
  | 0, l, hl, hd => by
    match l, hl with
    | [c], _ =>
      simp only [digs, List.all_cons, List.all_nil, Bool.and_true] at hd
      have hc := (dig_iff c).1 hd
      have e : numL [c] = (c.toNat : Int) - 48 := by simp [numL]
      rw [e, dec_small _ (by omega)]
      refine ⟨?_, by omega, by simp⟩
      simp only [List.length_singleton, Nat.sub_self, List.replicate_zero, List.nil_append]
      rw [digit_back c hd _ (by omega)]
  | n + 1, l, hl, hd => by
    obtain ⟨m, c, rfl⟩ : ∃ m c, l = m ++ [c] := by
      have hne : l ≠ [] := by intro e; subst e; simp at hl
      exact ⟨l.dropLast, l.getLast hne, (List.dropLast_concat_getLast hne).symm⟩
    rw [digs_snoc, Bool.and_eq_true] at hd
    have hc := (dig_iff c).1 hd.2
    have hml : m.length = n + 1 := by simp at hl; exact hl
    obtain ⟨i1, i2, i3⟩ := back_aux n m hml hd.1
    rw [numL_snoc]
    obtain ⟨a, ha⟩ := Int.eq_ofNat_of_zero_le i2
    rw [ha] at i1 i3 ⊢
    simp only [Int.toNat_natCast] at i1 i3
    have et : ((a : Int) * 10 + ((c.toNat : Int) - 48)).toNat = a * 10 + (c.toNat - 48) := by omega
    rw [et]
    have hcn : c.toNat - 48 < 10 := by omega
    by_cases ha0 : a = 0
    · subst ha0
      have e0 : (0 : Nat) * 10 + (c.toNat - 48) = c.toNat - 48 := by omega
      rw [e0, dec_small _ hcn, digit_back c hd.2 _ (by omega)]
      refine ⟨?_, by omega, by simp⟩
      rw [dec_small 0 (by omega)] at i1
      simp only [List.length_singleton] at i1 ⊢
      rw [show n + 1 + 1 - 1 = n + 1 from by omega]
      rw [← i1]
      congr 1
      rw [show n + 1 - 1 = n from by omega, List.replicate_succ']
      rfl
    · rw [dec_big _ (by omega), show (a * 10 + (c.toNat - 48)) / 10 = a from by omega, show (a * 10 + (c.toNat - 48)) % 10 = c.toNat - 48 from by omega, digit_back c hd.2 _ (by omega)]
      refine ⟨?_, by omega, by simp; omega⟩
      rw [List.length_append, List.length_singleton, show n + 1 + 1 - ((Lib.decDigits a).length + 1) = n + 1 - (Lib.decDigits a).length from by omega, ← List.append_assoc, i1]
/-- A row of digits of some length is its own number with noughts ahead. -/
theorem pad_back (t : ByteArray) (n : Nat) (h : t.size = n + 1) (hd : digs t.data.toList = true) : padS (numL t.data.toList) (n + 1) = t := by
  obtain ⟨h1, h2, _⟩ := back_aux n t.data.toList (by rw [len_list]; exact h) hd
  apply of_list
  unfold padS
  have e : itoaS (numL t.data.toList) = ⟨(Lib.decDigits (numL t.data.toList).toNat).toArray⟩ := by unfold itoaS Lib.itoa; rw [if_neg (by omega)]
  rw [pz_list, e]
  have sz : (ByteArray.mk (Lib.decDigits (numL t.data.toList).toNat).toArray).size = (Lib.decDigits (numL t.data.toList).toNat).length := by rw [← len_list]
  rw [sz]
  exact h1

end Go.Proofs.YtjfkfiffakbagaaGreatDoor.Txt

/-
  The walks over the writers of numbers, both sides.
-/
namespace Go.Proofs.YtjfkfiffakbagaaGreatDoor
open Go.RowKit

theorem grow_below (w : World) (k : Nat) (os : Array Obj) : Below w.heap.size w (Sort.grow (w.drewN k) os) :=
  ⟨rfl, rfl, rfl, by simp [Sort.grow], fun j hj => by simp only [Sort.grow, World.heap_drewN]; rw [Array.getElem?_append_left hj]⟩
theorem itoa_any (n : Int) (w : World) (he : Env w) (h0 : -9223372036854775808 ≤ n) (h1 : n ≤ 9223372036854775807) :
    Calls Tryz.prog 44 #[.int .i64 n] w fun e w' => e = .returned (.string (Txt.itoaS n)) ∧ Below w.heap.size w w' := by
  refine (Tryz.strconv_Itoa n h0 h1 w he.pow).mono ?_
  rintro e w' ⟨rfl, k, os, rfl⟩
  exact ⟨rfl, grow_below w k os⟩

theorem ret_str {a b : ByteArray} (h : a = b) : Ending.returned (.string a) = .returned (.string b) := by rw [h]
def strN : Value → Nat
  | .string s => s.size
  | _ => 0
theorem pz_next (j : Nat) (t : ByteArray) : (⟨#[48]⟩ : ByteArray) ++ Txt.pz j t = Txt.pz (j + 1) t := by
  apply Txt.of_list
  rw [Txt.append_list, Txt.pz_list, Txt.pz_list, List.replicate_succ]; rfl

set_option maxHeartbeats 1000000 in
theorem pad_any (n : Int) (size : Nat) (w : World) (he : Env w) (h0 : 0 ≤ n) (h1 : n ≤ 9999999) (hs : size ≤ 9) :
    Calls Tryz.prog 125 #[.int .i64 n, .int .i64 size] w fun e w' => e = .returned (.string (Txt.padS n size)) ∧ Below w.heap.size w w' := by
  have hz := Txt.itoa_size n h0 h1
  have HE := hide he
  clear he
  go_enter Tryz.func125, Tryz.ntmps125
  go_wp2_with fail
  refine (itoa_any n w (unhide HE) (by omega) (by omega)).mono ?_
  rintro e w1 ⟨rfl, hb1⟩
  go_wp2
  go_loop [5] (fun t => ∃ j : Nat, j ≤ size - (Txt.itoaS n).size ∧ t = .string (Txt.pz j (Txt.itoaS n))) (fun t => size - strN t)
  case atStart => exact ⟨0, Nat.zero_le _, rfl⟩
  case round =>
    obtain ⟨j, hj, rfl⟩ := hrel
    have pzz := Txt.pz_size j (Txt.itoaS n)
    have HZ := hide pzz
    have pb : (Txt.pz j (Txt.itoaS n)).size ≤ 20 := by omega
    clear pzz
    by_cases hlt : (Txt.pz j (Txt.itoaS n)).size < size
    · have hlt' : ((Txt.pz j (Txt.itoaS n)).size : Int) < (size : Int) := by omega
      have HN := hide (pz_next j (Txt.itoaS n))
      have HZ2 : Hid (((⟨#[48]⟩ : ByteArray) ++ Txt.pz j (Txt.itoaS n)).size = 1 + (Txt.pz j (Txt.itoaS n)).size) := ByteArray.size_append
      go_wp2
      go_round
      case rel => exact ⟨j + 1, by have := unhide HZ; omega, by rw [unhide HN]⟩
      case measure =>
        have q := unhide HZ2
        show size - ((⟨#[48]⟩ : ByteArray) ++ Txt.pz j (Txt.itoaS n)).size < size - (Txt.pz j (Txt.itoaS n)).size
        omega
    · have hlt' : ¬ ((Txt.pz j (Txt.itoaS n)).size : Int) < (size : Int) := by omega
      have HJ : Hid (Txt.padS n size = Txt.pz j (Txt.itoaS n)) := by
        show Txt.padS n size = _
        unfold Txt.padS
        rw [show size - (Txt.itoaS n).size = j from by have := unhide HZ; omega]
      go_wp2
      go_ret
      exact ⟨ret_str (by rw [HJ.out]), hb1⟩

set_option maxHeartbeats 400000 in
theorem num_any (n : Int) (w : World) (he : Env w) (h0 : -9223372036854775808 ≤ n) (h1 : n ≤ 9223372036854775807) :
    Calls Tryz.prog 323 #[.int .i64 n] w fun e w' => e = .returned (.string (Txt.itoaS n)) ∧ Below w.heap.size w w' := by
  have HE := hide he
  clear he
  go_enter Tryz.func323, Tryz.ntmps323
  go_wp2_with fail
  refine (itoa_any n w (unhide HE) h0 h1).mono ?_
  rintro e w1 ⟨rfl, hb1⟩
  go_wp2
  go_ret
  exact ⟨rfl, hb1⟩

set_option maxHeartbeats 1000000 in
theorem padded_any (n : Int) (size : Nat) (w : World) (he : Env w) (h0 : 0 ≤ n) (h1 : n ≤ 9999999) (hs : size ≤ 9) :
    Calls Tryz.prog 329 #[.int .i64 n, .int .i64 size] w fun e w' => e = .returned (.string (Txt.padS n size)) ∧ Below w.heap.size w w' := by
  have hz := Txt.itoa_size n h0 h1
  have HE := hide he
  clear he
  go_enter Tryz.func329, Tryz.ntmps329
  go_wp2_with fail
  refine (num_any n w (unhide HE) (by omega) (by omega)).mono ?_
  rintro e w1 ⟨rfl, hb1⟩
  go_wp2
  go_loop [5] (fun t => ∃ j : Nat, j ≤ size - (Txt.itoaS n).size ∧ t = .string (Txt.pz j (Txt.itoaS n))) (fun t => size - strN t)
  case atStart => exact ⟨0, Nat.zero_le _, rfl⟩
  case round =>
    obtain ⟨j, hj, rfl⟩ := hrel
    have pzz := Txt.pz_size j (Txt.itoaS n)
    have HZ := hide pzz
    have pb : (Txt.pz j (Txt.itoaS n)).size ≤ 20 := by omega
    clear pzz
    by_cases hlt : (Txt.pz j (Txt.itoaS n)).size < size
    · have hlt' : ((Txt.pz j (Txt.itoaS n)).size : Int) < (size : Int) := by omega
      have HN := hide (pz_next j (Txt.itoaS n))
      have HZ2 : Hid (((⟨#[48]⟩ : ByteArray) ++ Txt.pz j (Txt.itoaS n)).size = 1 + (Txt.pz j (Txt.itoaS n)).size) := ByteArray.size_append
      go_wp2
      go_round
      case rel => exact ⟨j + 1, by have := unhide HZ; omega, by rw [unhide HN]⟩
      case measure =>
        have q := unhide HZ2
        show size - ((⟨#[48]⟩ : ByteArray) ++ Txt.pz j (Txt.itoaS n)).size < size - (Txt.pz j (Txt.itoaS n)).size
        omega
    · have hlt' : ¬ ((Txt.pz j (Txt.itoaS n)).size : Int) < (size : Int) := by omega
      have HJ : Hid (Txt.padS n size = Txt.pz j (Txt.itoaS n)) := by
        show Txt.padS n size = _
        unfold Txt.padS
        rw [show size - (Txt.itoaS n).size = j from by have := unhide HZ; omega]
      go_wp2
      go_ret
      exact ⟨ret_str (by rw [HJ.out]), hb1⟩

/-- A date, a minute and a time as texts. -/
def dateS (y m d : Int) : ByteArray := Txt.padS y 4 ++ ⟨#[45]⟩ ++ Txt.padS m 2 ++ ⟨#[45]⟩ ++ Txt.padS d 2
def minS (n : Int) : ByteArray := Txt.padS (n / 60) 2 ++ ⟨#[58]⟩ ++ Txt.padS (n % 60) 2

set_option maxHeartbeats 1000000 in
theorem minuteWord_any (n : Int) (w : World) (he : Env w) (h0 : 0 ≤ n) (h1 : n < 1440) :
    Calls Tryz.prog 328 #[.int .i64 n] w fun e w' => e = .returned (.string (minS n)) ∧ Below w.heap.size w w' := by
  have HE := hide he
  have z1 := Txt.pad_size (n / 60) 2 (by omega) (by omega)
  have z2 := Txt.pad_size (n % 60) 2 (by omega) (by omega)
  clear he
  go_enter Tryz.func328, Tryz.ntmps328
  go_wp2_with fail
  refine (padded_any (n / 60) 2 w (unhide HE) (by omega) (by omega) (by omega)).mono ?_
  rintro e w1 ⟨rfl, hb1⟩
  go_wp2_with fail
  refine (padded_any (n % 60) 2 w1 ((unhide HE).later hb1) (by omega) (by omega) (by omega)).mono ?_
  rintro e w2 ⟨rfl, hb2⟩
  have hbb := hb1.trans (hb2.mono hb1.size)
  go_wp2
  go_ret
  exact ⟨rfl, hbb⟩

set_option maxHeartbeats 1000000 in
theorem dateWord_any (n : Int) (w : World) (he : Env w) (h0 : -738885 ≤ n) (h1 : n ≤ 2913173) :
    Calls Tryz.prog 327 #[.int .i64 n] w fun e w' => (∃ y m d, e = .returned (.string (dateS y m d)) ∧ Cal.ok y m d = true ∧ Cal.num y m d = n) ∧ Below w.heap.size w w' := by
  have HE := hide he
  clear he
  go_enter Tryz.func327, Tryz.ntmps327
  go_wp2_with fail
  refine (calDate_yes n w (unhide HE).tab h0 h1).mono ?_
  rintro e w1 ⟨y, m, d, rfl, hok, hnum, rfl⟩
  have HO := hide hok
  have HN := hide hnum
  obtain ⟨y1, y2, m1, m2, d1, d2⟩ := (Cal.ok_iff y m d).1 hok
  have db := Cal.dim_bd y m
  have z1 := Txt.pad_size y 4 (by omega) (by omega)
  have z2 := Txt.pad_size m 2 (by omega) (by omega)
  have z3 := Txt.pad_size d 2 (by omega) (by omega)
  clear hok hnum
  go_wp2_with fail
  refine (padded_any y 4 _ (unhide HE) (by omega) (by omega) (by omega)).mono ?_
  rintro e w2 ⟨rfl, hb2⟩
  go_wp2_with fail
  refine (padded_any m 2 _ ((unhide HE).later hb2) (by omega) (by omega) (by omega)).mono ?_
  rintro e w3 ⟨rfl, hb3⟩
  have hb23 := hb2.trans (hb3.mono hb2.size)
  go_wp2_with fail
  refine (padded_any d 2 _ ((unhide HE).later hb23) (by omega) (by omega) (by omega)).mono ?_
  rintro e w4 ⟨rfl, hb4⟩
  have hb24 := hb23.trans (hb4.mono hb23.size)
  go_wp2
  go_ret
  exact ⟨⟨y, m, d, rfl, unhide HO, unhide HN⟩, hb24⟩

end Go.Proofs.YtjfkfiffakbagaaGreatDoor

/-
  The date of a number, reckoned.
-/
namespace Go.Proofs.YtjfkfiffakbagaaGreatDoor.Cal

def yF (g : Int) : Int := if ah (g * 400 / 146097 + 2) ≤ g then g * 400 / 146097 + 2 else g * 400 / 146097 + 1
def mF (y r : Int) : Int := if r < cum y 2 then 1 else if r < cum y 3 then 2 else if r < cum y 4 then 3 else if r < cum y 5 then 4 else if r < cum y 6 then 5 else if r < cum y 7 then 6 else if r < cum y 8 then 7 else if r < cum y 9 then 8 else if r < cum y 10 then 9 else if r < cum y 11 then 10 else if r < cum y 12 then 11 else 12

theorem ah_next (g : Int) (_h : 0 ≤ g) : g < ah (g * 400 / 146097 + 3) := by unfold ah; omega
theorem yF_ok (g : Int) (h : 0 ≤ g) : 1 ≤ yF g ∧ ah (yF g) ≤ g ∧ g < ah (yF g + 1) := by
  have a := ah_guess g h
  have b := ah_next g h
  unfold yF
  split
  · refine ⟨by omega, by assumption, ?_⟩
    rw [show g * 400 / 146097 + 2 + 1 = g * 400 / 146097 + 3 from by omega]; exact b
  · refine ⟨by omega, a, ?_⟩
    rw [show g * 400 / 146097 + 1 + 1 = g * 400 / 146097 + 2 from by omega]; omega
theorem mF_ok (y r : Int) (h0 : 0 ≤ r) (h1 : r < cum y 13) : 1 ≤ mF y r ∧ mF y r ≤ 12 ∧ cum y (mF y r) ≤ r ∧ r < cum y (mF y r + 1) := by
  have c1 := cum_one y
  unfold mF
  by_cases e2 : r < cum y 2
  · rw [if_pos e2]; exact ⟨by omega, by omega, by omega, e2⟩
  rw [if_neg e2]
  by_cases e3 : r < cum y 3
  · rw [if_pos e3]; exact ⟨by omega, by omega, by omega, e3⟩
  rw [if_neg e3]
  by_cases e4 : r < cum y 4
  · rw [if_pos e4]; exact ⟨by omega, by omega, by omega, e4⟩
  rw [if_neg e4]
  by_cases e5 : r < cum y 5
  · rw [if_pos e5]; exact ⟨by omega, by omega, by omega, e5⟩
  rw [if_neg e5]
  by_cases e6 : r < cum y 6
  · rw [if_pos e6]; exact ⟨by omega, by omega, by omega, e6⟩
  rw [if_neg e6]
  by_cases e7 : r < cum y 7
  · rw [if_pos e7]; exact ⟨by omega, by omega, by omega, e7⟩
  rw [if_neg e7]
  by_cases e8 : r < cum y 8
  · rw [if_pos e8]; exact ⟨by omega, by omega, by omega, e8⟩
  rw [if_neg e8]
  by_cases e9 : r < cum y 9
  · rw [if_pos e9]; exact ⟨by omega, by omega, by omega, e9⟩
  rw [if_neg e9]
  by_cases e10 : r < cum y 10
  · rw [if_pos e10]; exact ⟨by omega, by omega, by omega, e10⟩
  rw [if_neg e10]
  by_cases e11 : r < cum y 11
  · rw [if_pos e11]; exact ⟨by omega, by omega, by omega, e11⟩
  rw [if_neg e11]
  by_cases e12 : r < cum y 12
  · rw [if_pos e12]; exact ⟨by omega, by omega, by omega, e12⟩
  rw [if_neg e12]
  exact ⟨by omega, by omega, by omega, h1⟩

/-- The year, month and day of a number. -/
def yT (n : Int) : Int := yF (n + 738885)
def mT (n : Int) : Int := mF (yT n) (n + 738885 - ah (yT n))
def dT (n : Int) : Int := n + 738885 - ah (yT n) - cum (yT n) (mT n) + 1
theorem dT_ok (n : Int) (h1 : -738885 ≤ n) (h2 : n ≤ 2913173) : ok (yT n) (mT n) (dT n) = true ∧ num (yT n) (mT n) (dT n) = n := by
  have ⟨a1, a2, a3⟩ := yF_ok (n + 738885) (by omega)
  have s := ah_succ (yF (n + 738885)) a1
  have hy : yF (n + 738885) ≤ 9999 := by
    by_cases h : yF (n + 738885) ≤ 9999
    · exact h
    · have := ah_mono 10000 (yF (n + 738885)) (by omega) (by omega)
      have := ah_end
      omega
  have ce := cum_end (yF (n + 738885))
  have ⟨b1, b2, b3, b4⟩ := mF_ok (yF (n + 738885)) (n + 738885 - ah (yF (n + 738885))) (by omega) (by omega)
  have cs := cum_succ (yF (n + 738885)) (mF (yF (n + 738885)) (n + 738885 - ah (yF (n + 738885)))) b1 b2
  refine ⟨(ok_iff _ _ _).2 ?_, ?_⟩
  · unfold dT mT yT
    refine ⟨a1, hy, b1, b2, by omega, by omega⟩
  · unfold num dT mT yT first; omega
/-- Whatever date has a number is the one that is reckoned. -/
theorem dT_one (y m d n : Int) (h : ok y m d = true) (e : num y m d = n) : y = yT n ∧ m = mT n ∧ d = dT n := by
  have b := num_bd y m d h
  rw [e] at b
  unfold first last at b
  have ⟨h1, h2⟩ := dT_ok n b.1 b.2
  exact one y m d _ _ _ h h1 (by rw [e, h2])

end Go.Proofs.YtjfkfiffakbagaaGreatDoor.Cal

/-
  The walks over the writers of words, both sides: times; the document's written.
-/
namespace Go.Proofs.YtjfkfiffakbagaaGreatDoor
open Go.RowKit

def dateT (n : Int) : ByteArray := dateS (Cal.yT n) (Cal.mT n) (Cal.dT n)
def timeT (t : Int) : ByteArray := dateT (t / 1440) ++ ⟨#[47]⟩ ++ minS (t % 1440)
theorem app_assoc (a b c : ByteArray) : a ++ b ++ c = a ++ (b ++ c) := by
  apply Txt.of_list
  simp only [Txt.append_list, List.append_assoc]
theorem dateS_size (y m d : Int) (h : Cal.ok y m d = true) : (dateS y m d).size ≤ 40 := by
  obtain ⟨y1, y2, m1, m2, d1, d2⟩ := (Cal.ok_iff y m d).1 h
  have db := Cal.dim_bd y m
  have z1 := Txt.pad_size y 4 (by omega) (by omega)
  have z2 := Txt.pad_size m 2 (by omega) (by omega)
  have z3 := Txt.pad_size d 2 (by omega) (by omega)
  have e3 : (⟨#[45]⟩ : ByteArray).size = 1 := by decide
  unfold dateS
  simp only [ByteArray.size_append]
  omega
theorem minS_size (n : Int) (h0 : 0 ≤ n) (h1 : n < 1440) : (minS n).size ≤ 19 := by
  have z1 := Txt.pad_size (n / 60) 2 (by omega) (by omega)
  have z2 := Txt.pad_size (n % 60) 2 (by omega) (by omega)
  have e3 : (⟨#[58]⟩ : ByteArray).size = 1 := by decide
  unfold minS
  simp only [ByteArray.size_append]
  omega
theorem dateT_size (n : Int) (h0 : -738885 ≤ n) (h1 : n ≤ 2913173) : (dateT n).size ≤ 40 := dateS_size _ _ _ (Cal.dT_ok n h0 h1).1

theorem dateWord_fn (n : Int) (w : World) (he : Env w) (h0 : -738885 ≤ n) (h1 : n ≤ 2913173) :
    Calls Tryz.prog 327 #[.int .i64 n] w fun e w' => e = .returned (.string (dateT n)) ∧ Below w.heap.size w w' := by
  refine (dateWord_any n w he h0 h1).mono ?_
  rintro e w' ⟨⟨y, m, d, rfl, hok, hnum⟩, hb⟩
  obtain ⟨rfl, rfl, rfl⟩ := Cal.dT_one y m d n hok hnum
  exact ⟨rfl, hb⟩

set_option maxHeartbeats 1000000 in
theorem timeWord_any (t : Int) (w : World) (he : Env w) (h0 : 0 ≤ t) (h1 : t ≤ 1048320) :
    Calls Tryz.prog 326 #[.int .i64 t] w fun e w' => e = .returned (.string (timeT t)) ∧ Below w.heap.size w w' := by
  have HE := hide he
  clear he
  have z1 := dateT_size (t / 1440) (by omega) (by omega)
  have z2 := minS_size (t % 1440) (by omega) (by omega)
  go_enter Tryz.func326, Tryz.ntmps326
  go_wp2_with fail
  refine (dateWord_fn (t / 1440) w (unhide HE) (by omega) (by omega)).mono ?_
  rintro e w1 ⟨rfl, hb1⟩
  go_wp2_with fail
  refine (minuteWord_any (t % 1440) w1 ((unhide HE).later hb1) (by omega) (by omega)).mono ?_
  rintro e w2 ⟨rfl, hb2⟩
  have hbb := hb1.trans (hb2.mono hb1.size)
  go_wp2
  go_ret
  exact ⟨rfl, hbb⟩

/-- The days that ON names, written in the order of the week, a comma ahead of each. -/
def nameS (k : Nat) : ByteArray := ⟨(wname k).toArray⟩
def onOut (acc : List Int) : Nat → ByteArray
  | 0 => ⟨#[]⟩
  | k + 1 => if isd acc k then onOut acc k ++ ⟨#[44]⟩ ++ nameS k else onOut acc k
def onT (acc : List Int) : ByteArray := (onOut acc 7).extract 1 (onOut acc 7).size
theorem name_size (k : Nat) : (nameS k).size = 2 := by
  unfold nameS wname; split <;> rfl
theorem onOut_size (acc : List Int) : ∀ k : Nat, (onOut acc k).size ≤ 3 * k
  | 0 => Nat.le_refl _
  | k + 1 => by
    have ih := onOut_size acc k
    have n := name_size k
    have e3 : (⟨#[44]⟩ : ByteArray).size = 1 := by decide
    unfold onOut
    split
    · simp only [ByteArray.size_append]; omega
    · omega
theorem onOut_some (acc : List Int) (d : Nat) (h : isd acc d = true) : ∀ k : Nat, d < k → 1 ≤ (onOut acc k).size
  | 0, hk => by omega
  | k + 1, hk => by
    have n := name_size k
    unfold onOut
    by_cases e : d = k
    · subst e; rw [if_pos h]; simp only [ByteArray.size_append]; omega
    · have := onOut_some acc d h k (by omega)
      split
      · simp only [ByteArray.size_append]; omega
      · exact this
theorem step_range {acc : List Int} {d : Int} {r : List Int} (h : Txt.onStep acc d = some r) (hd : d ≤ 6) : ∃ x : Nat, x < 7 ∧ isd r x = true := by
  unfold Txt.onStep at h
  split at h
  · rename_i hc
    cases h
    exact ⟨d.toNat, by omega, by simp [isd, show ((d.toNat : Nat) : Int) = d from by omega]⟩
  · cases h
theorem onC_some : ∀ (l : List UInt8) (acc r : List Int), Txt.onC l acc = some r → ∃ x : Nat, x < 7 ∧ isd r x = true
  | [], _, _, h => by simp [Txt.onC] at h
  | [_], _, _, h => by simp [Txt.onC] at h
  | [a, b], acc, r, h => step_range (acc := acc) (d := Txt.wdL [a, b]) h (Txt.wdL_bd [a, b]).2
  | a :: b :: c :: l, acc, r, h => by
    unfold Txt.onC at h
    split at h
    · simp only [Option.bind_eq_some_iff] at h
      obtain ⟨x, _, h⟩ := h
      exact onC_some l x r h
    · cases h
theorem onT_ok {s : ByteArray} {acc : List Int} (h : Txt.onW s = some acc) : 1 ≤ (onOut acc 7).size := by
  obtain ⟨x, hx, hi⟩ := onC_some _ _ _ h
  exact onOut_some acc x hi 7 hx

end Go.Proofs.YtjfkfiffakbagaaGreatDoor

/-
  The walk over the document's written: a word in its plain form.
-/
namespace Go.Proofs.YtjfkfiffakbagaaGreatDoor
open Go.RowKit

def onWS (w : ByteArray) : ByteArray := match Txt.onW w with | some acc => onT acc | none => ⟨#[]⟩
/-- A word in its plain form. -/
def wrS (sym w : ByteArray) : ByteArray :=
  if sym.toList == [85, 78, 73, 84, 83] then Txt.itoaS (numR w 1 7) else
  if sym.toList == [77, 73, 78, 85, 84, 69, 83] then Txt.itoaS (numR w 1 7) else
  if sym.toList == [69, 86, 69, 82, 89] then Txt.itoaS (numR w 1 7) else
  if sym.toList == [73, 68] then Txt.itoaS (numR w 1 7) else
  if sym.toList == [84, 73, 77, 69] then timeT (timR w) else
  if sym.toList == [79, 78] then onWS w else w

theorem numR_bd (w : ByteArray) : -1 ≤ numR w 1 7 ∧ numR w 1 7 ≤ 9999999 := by
  rw [numR_num]
  have := Txt.numV_bd w.data.toList
  split <;> omega
theorem timR_bd (w : ByteArray) : -1 ≤ timR w ∧ timR w ≤ 1048320 := by
  unfold timR
  split
  · rename_i h
    unfold timeB at h
    simp only [Bool.and_eq_true, decide_eq_true_eq] at h
    omega
  · omega
theorem refDate_fn (n : Int) (w : World) (h0 : -738885 ≤ n) (h1 : n ≤ 2913173) :
    Calls Tryz.prog 72 #[.int .i64 n] w fun e w' => e = .returned (.tuple #[.int .i64 (Cal.yT n), .int .i64 (Cal.mT n), .int .i64 (Cal.dT n), .int .i64 0]) ∧ w' = w := by
  refine (refDate_any n w (by omega) (by omega)).mono ?_
  rintro e w' ⟨⟨h, _⟩ | ⟨_, y, m, d, rfl, hok, hnum⟩, rfl⟩
  · omega
  · obtain ⟨rfl, rfl, rfl⟩ := Cal.dT_one y m d n hok hnum
    exact ⟨rfl, rfl⟩
theorem time_text (t : Int) : Txt.padS (Cal.yT (t / 1440)) 4 ++ ⟨#[45]⟩ ++ Txt.padS (Cal.mT (t / 1440)) 2 ++ ⟨#[45]⟩ ++ Txt.padS (Cal.dT (t / 1440)) 2 ++ ⟨#[47]⟩ ++ Txt.padS (t % 1440 / 60) 2 ++ ⟨#[58]⟩ ++ Txt.padS (t % 60) 2 = timeT t := by
  unfold timeT dateT dateS minS
  rw [show t % 1440 % 60 = t % 60 from by omega]
  simp only [app_assoc]

set_option maxRecDepth 100000 in
set_option maxHeartbeats 2000000 in
theorem written_num (sym w : ByteArray) (W : World) (he : Env W) (hs : w.size ≤ 160)
    (hc : (sym.toList == [85, 78, 73, 84, 83]) = true ∨ ((sym.toList == [85, 78, 73, 84, 83]) = false ∧ (sym.toList == [77, 73, 78, 85, 84, 69, 83]) = true) ∨ ((sym.toList == [85, 78, 73, 84, 83]) = false ∧ (sym.toList == [77, 73, 78, 85, 84, 69, 83]) = false ∧ (sym.toList == [69, 86, 69, 82, 89]) = true) ∨ ((sym.toList == [85, 78, 73, 84, 83]) = false ∧ (sym.toList == [77, 73, 78, 85, 84, 69, 83]) = false ∧ (sym.toList == [69, 86, 69, 82, 89]) = false ∧ (sym.toList == [73, 68]) = true)) :
    Calls Tryz.prog 79 #[.string sym, .string w] W fun e w' => e = .returned (.string (Txt.itoaS (numR w 1 7))) ∧ Below W.heap.size W w' := by
  have HE := hide he
  have nb := numR_bd w
  clear he
  rcases hc with c0 | ⟨c0, c1⟩ | ⟨c0, c1, c2⟩ | ⟨c0, c1, c2, c3⟩
  all_goals
    go_enter Tryz.func79, Tryz.ntmps79
    go_wp2_with fail
    refine (number_any w 1 7 W hs (by omega) (by omega)).mono ?_
    rintro e w1 ⟨rfl, hb1⟩
    go_wp2_with fail
    refine (itoa_any _ w1 ((unhide HE).later hb1) (by omega) (by omega)).mono ?_
    rintro e w2 ⟨rfl, hb2⟩
    have hbb := hb1.trans (hb2.mono hb1.size)
    go_wp2
    go_ret
    exact ⟨rfl, hbb⟩

set_option maxRecDepth 100000 in
set_option maxHeartbeats 2000000 in
theorem written_plain (sym w : ByteArray) (W : World)
    (c0 : (sym.toList == [85, 78, 73, 84, 83]) = false) (c1 : (sym.toList == [77, 73, 78, 85, 84, 69, 83]) = false) (c2 : (sym.toList == [69, 86, 69, 82, 89]) = false) (c3 : (sym.toList == [73, 68]) = false) (c4 : (sym.toList == [84, 73, 77, 69]) = false) (c5 : (sym.toList == [79, 78]) = false) :
    Calls Tryz.prog 79 #[.string sym, .string w] W fun e w' => e = .returned (.string w) ∧ w' = W := by
  go_enter Tryz.func79, Tryz.ntmps79
  go_wp2
  go_ret
  exact ⟨rfl, rfl⟩

set_option maxRecDepth 100000 in
set_option maxHeartbeats 2000000 in
theorem written_time (sym w : ByteArray) (W : World) (he : Env W) (hs : w.size ≤ 160) (ht : 0 ≤ timR w)
    (c0 : (sym.toList == [85, 78, 73, 84, 83]) = false) (c1 : (sym.toList == [77, 73, 78, 85, 84, 69, 83]) = false) (c2 : (sym.toList == [69, 86, 69, 82, 89]) = false) (c3 : (sym.toList == [73, 68]) = false) (c4 : (sym.toList == [84, 73, 77, 69]) = true) :
    Calls Tryz.prog 79 #[.string sym, .string w] W fun e w' => e = .returned (.string (timeT (timR w))) ∧ Below W.heap.size W w' := by
  have HE := hide he
  have tb := timR_bd w
  have HT := hide (time_text (timR w))
  obtain ⟨t, htt⟩ : ∃ t, t = timR w := ⟨_, rfl⟩
  rw [← htt] at ht tb HT ⊢
  have HTT := hide htt
  clear he htt
  have ⟨hok, _⟩ := Cal.dT_ok (t / 1440) (by omega) (by omega)
  obtain ⟨y1, y2, m1, m2, d1, d2⟩ := (Cal.ok_iff _ _ _).1 hok
  have db := Cal.dim_bd (Cal.yT (t / 1440)) (Cal.mT (t / 1440))
  have z1 := Txt.pad_size (Cal.yT (t / 1440)) 4 (by omega) (by omega)
  have z2 := Txt.pad_size (Cal.mT (t / 1440)) 2 (by omega) (by omega)
  have z3 := Txt.pad_size (Cal.dT (t / 1440)) 2 (by omega) (by omega)
  have z4 := Txt.pad_size (t % 1440 / 60) 2 (by omega) (by omega)
  have z5 := Txt.pad_size (t % 60) 2 (by omega) (by omega)
  clear hok
  go_enter Tryz.func79, Tryz.ntmps79
  go_wp2_with fail
  refine (timed_any w W hs).mono ?_
  rintro e w1 ⟨rfl, hb1⟩
  rw [← unhide HTT]
  go_wp2_with fail
  refine (refDate_fn (t / 1440) w1 (by omega) (by omega)).mono ?_
  rintro e w2 ⟨rfl, rfl⟩
  have e1 := hide ((unhide HE).later hb1)
  go_wp2_with fail
  refine (pad_any _ 4 _ (unhide e1) (by omega) (by omega) (by omega)).mono ?_
  rintro e w3 ⟨rfl, hb3⟩
  have e3 := hide ((unhide e1).later hb3)
  go_wp2_with fail
  refine (pad_any _ 2 _ (unhide e3) (by omega) (by omega) (by omega)).mono ?_
  rintro e w4 ⟨rfl, hb4⟩
  have e4 := hide ((unhide e3).later hb4)
  go_wp2_with fail
  refine (pad_any _ 2 _ (unhide e4) (by omega) (by omega) (by omega)).mono ?_
  rintro e w5 ⟨rfl, hb5⟩
  have e5 := hide ((unhide e4).later hb5)
  go_wp2_with fail
  refine (pad_any _ 2 _ (unhide e5) (by omega) (by omega) (by omega)).mono ?_
  rintro e w6 ⟨rfl, hb6⟩
  have e6 := hide ((unhide e5).later hb6)
  go_wp2_with fail
  refine (pad_any _ 2 _ (unhide e6) (by omega) (by omega) (by omega)).mono ?_
  rintro e w7 ⟨rfl, hb7⟩
  have k1 := hb1.trans (hb3.mono hb1.size)
  have k2 := k1.trans (hb4.mono k1.size)
  have k3 := k2.trans (hb5.mono k2.size)
  have k4 := k3.trans (hb6.mono k3.size)
  have k5 := k4.trans (hb7.mono k4.size)
  go_wp2
  go_ret
  exact ⟨ret_str (unhide HT), k5⟩

end Go.Proofs.YtjfkfiffakbagaaGreatDoor

/-
  The walks over the words of the plain form of each kind of line.
-/
namespace Go.Proofs.YtjfkfiffakbagaaGreatDoor
open Go.RowKit

/-- A row of words that came anew. -/
def WR (w w' : World) (xs : List ByteArray) (e : Ending) : Prop := ∃ v, e = .returned v ∧ w'.ownsRow w.heap.size 9 1 v xs.length (xs.map Value.string) ∧ Below w.heap.size w w'

theorem own_new (w x : World) (xs : List ByteArray) (b : Nat) (hb : w.heap.size ≤ b) (hh : x.heap[b]? = some (.cells (xs.map Value.string).toArray 9)) (h0 : xs.length ≤ 160) : x.ownsRow w.heap.size 9 1 (.slice (some ⟨b, 0, none⟩) xs.length xs.length) xs.length (xs.map Value.string) := by
  refine ⟨by simp, .inr ⟨b, xs.length, (xs.map Value.string).toArray, rfl, hb, hh, Nat.le_refl _, by unfold maxLen; omega, by simp, ?_⟩⟩
  exact List.take_of_length_le (by simp)
theorem below_more {w0 x y : World} (h : Below w0.heap.size w0 x) (hb : Below x.heap.size x y) : Below w0.heap.size w0 y := h.trans (hb.mono h.size)
theorem below_drew (w : World) : Below w.heap.size w w.drew := ⟨rfl, rfl, rfl, Nat.le_refl _, fun _ _ => rfl⟩

set_option maxRecDepth 100000 in
set_option maxHeartbeats 2000000 in
theorem pWaiting (w : World) :
    Calls Tryz.prog 339 #[.agg #[]] w fun e w' => WR w w' [waitingW] e := by
  go_enter Tryz.func339, Tryz.ntmps339
  go_wp2
  go_ret
  have e := heap_alloc_new (w.alloc (.cells #[] 167)) (.cells #[.string waitingW] 9)
  rw [show (w.alloc (.cells #[] 167)).heap.size = w.heap.size + 1 from by simp] at e
  exact ⟨_, rfl, own_new w _ [waitingW] _ (by simp) e (show 1 ≤ 160 by omega), below_more ((Below.refl _ _).alloc (Nat.le_refl _) _) ((Below.refl _ _).alloc (Nat.le_refl _) _)⟩

set_option maxRecDepth 100000 in
set_option maxHeartbeats 2000000 in
theorem pClock (w : World) :
    Calls Tryz.prog 344 #[.agg #[]] w fun e w' => WR w w' [clockW] e := by
  go_enter Tryz.func344, Tryz.ntmps344
  go_wp2
  go_ret
  have e := heap_alloc_new (w.alloc (.cells #[] 177)) (.cells #[.string clockW] 9)
  rw [show (w.alloc (.cells #[] 177)).heap.size = w.heap.size + 1 from by simp] at e
  exact ⟨_, rfl, own_new w _ [clockW] _ (by simp) e (show 1 ≤ 160 by omega), below_more ((Below.refl _ _).alloc (Nat.le_refl _) _) ((Below.refl _ _).alloc (Nat.le_refl _) _)⟩

set_option maxRecDepth 100000 in
set_option maxHeartbeats 2000000 in
theorem pThing (n : ByteArray) (u : Int) (w : World) (he : Env w) (u0 : 0 ≤ u) (u1 : u ≤ 9999999) :
    Calls Tryz.prog 322 #[.agg #[.string n, .int .i64 u]] w fun e w' => WR w w' [thingW, n, Txt.itoaS u] e := by
  go_enter Tryz.func322, Tryz.ntmps322
  go_wp2_with fail
  obtain ⟨X, hX⟩ : ∃ X, X = w.alloc (.cells #[.string n, .int .i64 u] 143) := ⟨_, rfl⟩
  rw [← hX]
  have hbX : Below w.heap.size w X := by rw [hX]; exact (Below.refl _ _).alloc (Nat.le_refl _) _
  have eX := he.later hbX
  have x0 : X.cell? ⟨w.heap.size, 0, none⟩ = some (.string n) := by rw [hX]; simp
  have x1 : X.cell? ⟨w.heap.size, 1, none⟩ = some (.int .i64 u) := by rw [hX]; simp
  have xs : w.heap.size < X.heap.size := by rw [hX]; simp
  clear hX he
  go_region_held3 (fun w' => Env w' ∧ Below w.heap.size w w' ∧ w.heap.size < w'.heap.size ∧ w'.cell? ⟨w.heap.size, 0, none⟩ = some (.string n) ∧ w'.cell? ⟨w.heap.size, 1, none⟩ = some (.int .i64 u))
    (first
      | (refine ⟨?_, ?_, ?_, ?_, ?_⟩ <;> go_keep)
      | (go_split_ands; exact ⟨Env.later (by assumption) hbf, below_more (by assumption) hbf, Nat.lt_of_lt_of_le (by assumption) (Below.size hbf), cell_later hbf (by assumption), cell_later hbf (by assumption)⟩)
      | (go_split_ands; exact ⟨Env.later (by assumption) ((Below.refl _ _).alloc (Nat.le_refl _) _), below_more (by assumption) ((Below.refl _ _).alloc (Nat.le_refl _) _), Nat.lt_of_lt_of_le (by assumption) (Below.size ((Below.refl _ _).alloc (Nat.le_refl _) _)), cell_later ((Below.refl _ _).alloc (Nat.le_refl _) _) (by assumption), cell_later ((Below.refl _ _).alloc (Nat.le_refl _) _) (by assumption)⟩)
      | (go_split_ands; exact ⟨Env.later (by assumption) (below_drew _), below_more (by assumption) (below_drew _), Nat.lt_of_lt_of_le (by assumption) (Below.size (below_drew _)), cell_later (below_drew _) (by assumption), cell_later (below_drew _) (by assumption)⟩))
    (first
      | (go_at_call 323; go_split_ands; refine (num_any _ _ (by assumption) (by omega) (by omega)).mono ?_; rintro e w4 ⟨rfl, hbf⟩))
  go_split_ands
  have hbE : Below w.heap.size w (w4.alloc (.cells #[.string thingW, .string n, .string (Txt.itoaS u)] 9)) := by assumption
  have hsE : w.heap.size < (w4.alloc (.cells #[.string thingW, .string n, .string (Txt.itoaS u)] 9)).heap.size := by assumption
  have hsF : w.heap.size < w4.heap.size + 1 := by simpa using hsE
  have HBE := hide hbE
  have HSF : Hid (w.heap.size ≤ w4.heap.size) := by show w.heap.size ≤ w4.heap.size; omega
  go_wp2
  go_ret
  exact ⟨_, rfl, own_new w _ [thingW, n, Txt.itoaS u] w4.heap.size HSF.out (heap_alloc_new w4 _) (show 3 ≤ 160 by omega), HBE.out⟩

set_option maxRecDepth 100000 in
set_option maxHeartbeats 2000000 in
theorem pConfirm (u : Int) (w : World) (he : Env w) (u0 : 0 ≤ u) (u1 : u ≤ 9999999) :
    Calls Tryz.prog 336 #[.agg #[.int .i64 u]] w fun e w' => WR w w' [confirmW, Txt.itoaS u] e := by
  go_enter Tryz.func336, Tryz.ntmps336
  go_wp2_with fail
  obtain ⟨X, hX⟩ : ∃ X, X = w.alloc (.cells #[.int .i64 u] 161) := ⟨_, rfl⟩
  rw [← hX]
  have hbX : Below w.heap.size w X := by rw [hX]; exact (Below.refl _ _).alloc (Nat.le_refl _) _
  have eX := he.later hbX
  clear hX he
  refine (num_any u X eX (by omega) (by omega)).mono ?_
  rintro e w4 ⟨rfl, hbf⟩
  have hb4 := below_more hbX hbf
  have hs4 := hb4.size
  go_wp2
  go_ret
  exact ⟨_, rfl, own_new w _ [confirmW, Txt.itoaS u] w4.heap.size hs4 (heap_alloc_new w4 _) (show 2 ≤ 160 by omega), below_more hb4 ((Below.refl _ _).alloc (Nat.le_refl _) _)⟩

set_option maxRecDepth 100000 in
set_option maxHeartbeats 2000000 in
theorem pCancel (u : Int) (w : World) (he : Env w) (u0 : 0 ≤ u) (u1 : u ≤ 9999999) :
    Calls Tryz.prog 337 #[.agg #[.int .i64 u]] w fun e w' => WR w w' [cancelW, Txt.itoaS u] e := by
  go_enter Tryz.func337, Tryz.ntmps337
  go_wp2_with fail
  obtain ⟨X, hX⟩ : ∃ X, X = w.alloc (.cells #[.int .i64 u] 162) := ⟨_, rfl⟩
  rw [← hX]
  have hbX : Below w.heap.size w X := by rw [hX]; exact (Below.refl _ _).alloc (Nat.le_refl _) _
  have eX := he.later hbX
  clear hX he
  refine (num_any u X eX (by omega) (by omega)).mono ?_
  rintro e w4 ⟨rfl, hbf⟩
  have hb4 := below_more hbX hbf
  have hs4 := hb4.size
  go_wp2
  go_ret
  exact ⟨_, rfl, own_new w _ [cancelW, Txt.itoaS u] w4.heap.size hs4 (heap_alloc_new w4 _) (show 2 ≤ 160 by omega), below_more hb4 ((Below.refl _ _).alloc (Nat.le_refl _) _)⟩

set_option maxRecDepth 100000 in
set_option maxHeartbeats 2000000 in
theorem pTick (u : Int) (w : World) (he : Env w) (u0 : 0 ≤ u) (u1 : u ≤ 9999999) :
    Calls Tryz.prog 343 #[.agg #[.int .i64 u]] w fun e w' => WR w w' [tickW, Txt.itoaS u] e := by
  go_enter Tryz.func343, Tryz.ntmps343
  go_wp2_with fail
  obtain ⟨X, hX⟩ : ∃ X, X = w.alloc (.cells #[.int .i64 u] 176) := ⟨_, rfl⟩
  rw [← hX]
  have hbX : Below w.heap.size w X := by rw [hX]; exact (Below.refl _ _).alloc (Nat.le_refl _) _
  have eX := he.later hbX
  clear hX he
  refine (num_any u X eX (by omega) (by omega)).mono ?_
  rintro e w4 ⟨rfl, hbf⟩
  have hb4 := below_more hbX hbf
  have hs4 := hb4.size
  go_wp2
  go_ret
  exact ⟨_, rfl, own_new w _ [tickW, Txt.itoaS u] w4.heap.size hs4 (heap_alloc_new w4 _) (show 2 ≤ 160 by omega), below_more hb4 ((Below.refl _ _).alloc (Nat.le_refl _) _)⟩

set_option maxRecDepth 100000 in
set_option maxHeartbeats 2000000 in
theorem pPeak (n : ByteArray) (a b : Int) (w : World) (he : Env w) (a0 : 0 ≤ a) (a1 : a ≤ 1048320) (b0 : 0 ≤ b) (b1 : b ≤ 1048320) :
    Calls Tryz.prog 340 #[.agg #[.string n, .int .i64 a, .int .i64 b]] w fun e w' => WR w w' [peakW, n, timeT a, timeT b] e := by
  go_enter Tryz.func340, Tryz.ntmps340
  go_wp2_with fail
  obtain ⟨X, hX⟩ : ∃ X, X = w.alloc (.cells #[.string n, .int .i64 a, .int .i64 b] 170) := ⟨_, rfl⟩
  rw [← hX]
  have hbX : Below w.heap.size w X := by rw [hX]; exact (Below.refl _ _).alloc (Nat.le_refl _) _
  have eX := he.later hbX
  have x0 : X.cell? ⟨w.heap.size, 0, none⟩ = some (.string n) := by rw [hX]; simp
  have x1 : X.cell? ⟨w.heap.size, 1, none⟩ = some (.int .i64 a) := by rw [hX]; simp
  have x2 : X.cell? ⟨w.heap.size, 2, none⟩ = some (.int .i64 b) := by rw [hX]; simp
  have xs : w.heap.size < X.heap.size := by rw [hX]; simp
  clear hX he
  go_region_held3 (fun w' => Env w' ∧ Below w.heap.size w w' ∧ w.heap.size < w'.heap.size ∧ w'.cell? ⟨w.heap.size, 0, none⟩ = some (.string n) ∧ w'.cell? ⟨w.heap.size, 1, none⟩ = some (.int .i64 a) ∧ w'.cell? ⟨w.heap.size, 2, none⟩ = some (.int .i64 b))
    (first
      | (refine ⟨?_, ?_, ?_, ?_, ?_, ?_⟩ <;> go_keep)
      | (go_split_ands; exact ⟨Env.later (by assumption) hbf, below_more (by assumption) hbf, Nat.lt_of_lt_of_le (by assumption) (Below.size hbf), cell_later hbf (by assumption), cell_later hbf (by assumption), cell_later hbf (by assumption)⟩)
      | (go_split_ands; exact ⟨Env.later (by assumption) ((Below.refl _ _).alloc (Nat.le_refl _) _), below_more (by assumption) ((Below.refl _ _).alloc (Nat.le_refl _) _), Nat.lt_of_lt_of_le (by assumption) (Below.size ((Below.refl _ _).alloc (Nat.le_refl _) _)), cell_later ((Below.refl _ _).alloc (Nat.le_refl _) _) (by assumption), cell_later ((Below.refl _ _).alloc (Nat.le_refl _) _) (by assumption), cell_later ((Below.refl _ _).alloc (Nat.le_refl _) _) (by assumption)⟩)
      | (go_split_ands; exact ⟨Env.later (by assumption) (below_drew _), below_more (by assumption) (below_drew _), Nat.lt_of_lt_of_le (by assumption) (Below.size (below_drew _)), cell_later (below_drew _) (by assumption), cell_later (below_drew _) (by assumption), cell_later (below_drew _) (by assumption)⟩))
    (first
      | (go_at_call 326; go_split_ands; refine (timeWord_any _ _ (by assumption) (by omega) (by omega)).mono ?_; rintro e w4 ⟨rfl, hbf⟩))
  go_split_ands
  have hbE : Below w.heap.size w (w4.alloc (.cells #[.string peakW, .string n, .string (timeT a), .string (timeT b)] 9)) := by assumption
  have hsE : w.heap.size < (w4.alloc (.cells #[.string peakW, .string n, .string (timeT a), .string (timeT b)] 9)).heap.size := by assumption
  have hsF : w.heap.size < w4.heap.size + 1 := by simpa using hsE
  have HBE := hide hbE
  have HSF : Hid (w.heap.size ≤ w4.heap.size) := by show w.heap.size ≤ w4.heap.size; omega
  go_wp2
  go_ret
  exact ⟨_, rfl, own_new w _ [peakW, n, timeT a, timeT b] w4.heap.size HSF.out (heap_alloc_new w4 _) (show 4 ≤ 160 by omega), HBE.out⟩

set_option maxRecDepth 100000 in
set_option maxHeartbeats 2000000 in
theorem pFind (n : ByteArray) (u m a b : Int) (w : World) (he : Env w) (u0 : 0 ≤ u) (u1 : u ≤ 9999999) (m0 : 0 ≤ m) (m1 : m ≤ 9999999) (a0 : 0 ≤ a) (a1 : a ≤ 1048320) (b0 : 0 ≤ b) (b1 : b ≤ 1048320) :
    Calls Tryz.prog 341 #[.agg #[.string n, .int .i64 u, .int .i64 m, .int .i64 a, .int .i64 b]] w fun e w' => WR w w' [findW, n, Txt.itoaS u, Txt.itoaS m, timeT a, timeT b] e := by
  go_enter Tryz.func341, Tryz.ntmps341
  go_wp2_with fail
  obtain ⟨X, hX⟩ : ∃ X, X = w.alloc (.cells #[.string n, .int .i64 u, .int .i64 m, .int .i64 a, .int .i64 b] 172) := ⟨_, rfl⟩
  rw [← hX]
  have hbX : Below w.heap.size w X := by rw [hX]; exact (Below.refl _ _).alloc (Nat.le_refl _) _
  have eX := he.later hbX
  have x0 : X.cell? ⟨w.heap.size, 0, none⟩ = some (.string n) := by rw [hX]; simp
  have x1 : X.cell? ⟨w.heap.size, 1, none⟩ = some (.int .i64 u) := by rw [hX]; simp
  have x2 : X.cell? ⟨w.heap.size, 2, none⟩ = some (.int .i64 m) := by rw [hX]; simp
  have x3 : X.cell? ⟨w.heap.size, 3, none⟩ = some (.int .i64 a) := by rw [hX]; simp
  have x4 : X.cell? ⟨w.heap.size, 4, none⟩ = some (.int .i64 b) := by rw [hX]; simp
  have xs : w.heap.size < X.heap.size := by rw [hX]; simp
  clear hX he
  go_region_held3 (fun w' => Env w' ∧ Below w.heap.size w w' ∧ w.heap.size < w'.heap.size ∧ w'.cell? ⟨w.heap.size, 0, none⟩ = some (.string n) ∧ w'.cell? ⟨w.heap.size, 1, none⟩ = some (.int .i64 u) ∧ w'.cell? ⟨w.heap.size, 2, none⟩ = some (.int .i64 m) ∧ w'.cell? ⟨w.heap.size, 3, none⟩ = some (.int .i64 a) ∧ w'.cell? ⟨w.heap.size, 4, none⟩ = some (.int .i64 b))
    (first
      | (refine ⟨?_, ?_, ?_, ?_, ?_, ?_, ?_, ?_⟩ <;> go_keep)
      | (go_split_ands; exact ⟨Env.later (by assumption) hbf, below_more (by assumption) hbf, Nat.lt_of_lt_of_le (by assumption) (Below.size hbf), cell_later hbf (by assumption), cell_later hbf (by assumption), cell_later hbf (by assumption), cell_later hbf (by assumption), cell_later hbf (by assumption)⟩)
      | (go_split_ands; exact ⟨Env.later (by assumption) ((Below.refl _ _).alloc (Nat.le_refl _) _), below_more (by assumption) ((Below.refl _ _).alloc (Nat.le_refl _) _), Nat.lt_of_lt_of_le (by assumption) (Below.size ((Below.refl _ _).alloc (Nat.le_refl _) _)), cell_later ((Below.refl _ _).alloc (Nat.le_refl _) _) (by assumption), cell_later ((Below.refl _ _).alloc (Nat.le_refl _) _) (by assumption), cell_later ((Below.refl _ _).alloc (Nat.le_refl _) _) (by assumption), cell_later ((Below.refl _ _).alloc (Nat.le_refl _) _) (by assumption), cell_later ((Below.refl _ _).alloc (Nat.le_refl _) _) (by assumption)⟩)
      | (go_split_ands; exact ⟨Env.later (by assumption) (below_drew _), below_more (by assumption) (below_drew _), Nat.lt_of_lt_of_le (by assumption) (Below.size (below_drew _)), cell_later (below_drew _) (by assumption), cell_later (below_drew _) (by assumption), cell_later (below_drew _) (by assumption), cell_later (below_drew _) (by assumption), cell_later (below_drew _) (by assumption)⟩))
    (first
      | (go_at_call 323; go_split_ands; refine (num_any _ _ (by assumption) (by omega) (by omega)).mono ?_; rintro e w4 ⟨rfl, hbf⟩)
      | (go_at_call 326; go_split_ands; refine (timeWord_any _ _ (by assumption) (by omega) (by omega)).mono ?_; rintro e w4 ⟨rfl, hbf⟩))
  go_split_ands
  have hbE : Below w.heap.size w (w4.alloc (.cells #[.string findW, .string n, .string (Txt.itoaS u), .string (Txt.itoaS m), .string (timeT a), .string (timeT b)] 9)) := by assumption
  have hsE : w.heap.size < (w4.alloc (.cells #[.string findW, .string n, .string (Txt.itoaS u), .string (Txt.itoaS m), .string (timeT a), .string (timeT b)] 9)).heap.size := by assumption
  have hsF : w.heap.size < w4.heap.size + 1 := by simpa using hsE
  have HBE := hide hbE
  have HSF : Hid (w.heap.size ≤ w4.heap.size) := by show w.heap.size ≤ w4.heap.size; omega
  go_wp2
  go_ret
  exact ⟨_, rfl, own_new w _ [findW, n, Txt.itoaS u, Txt.itoaS m, timeT a, timeT b] w4.heap.size HSF.out (heap_alloc_new w4 _) (show 6 ≤ 160 by omega), HBE.out⟩

set_option maxRecDepth 100000 in
set_option maxHeartbeats 2000000 in
theorem claimWords_any (k n : ByteArray) (u a b : Int) (w : World) (he : Env w) (u0 : 0 ≤ u) (u1 : u ≤ 9999999) (a0 : 0 ≤ a) (a1 : a ≤ 1048320) (b0 : 0 ≤ b) (b1 : b ≤ 1048320) :
    Calls Tryz.prog 325 #[.string k, .agg #[.string n, .int .i64 u, .int .i64 a, .int .i64 b]] w fun e w' => WR w w' [k, n, Txt.itoaS u, timeT a, timeT b] e := by
  go_enter Tryz.func325, Tryz.ntmps325
  go_wp2_with fail
  obtain ⟨X, hX⟩ : ∃ X, X = w.alloc (.cells #[.string n, .int .i64 u, .int .i64 a, .int .i64 b] 145) := ⟨_, rfl⟩
  rw [← hX]
  have hbX : Below w.heap.size w X := by rw [hX]; exact (Below.refl _ _).alloc (Nat.le_refl _) _
  have eX := he.later hbX
  have x0 : X.cell? ⟨w.heap.size, 0, none⟩ = some (.string n) := by rw [hX]; simp
  have x1 : X.cell? ⟨w.heap.size, 1, none⟩ = some (.int .i64 u) := by rw [hX]; simp
  have x2 : X.cell? ⟨w.heap.size, 2, none⟩ = some (.int .i64 a) := by rw [hX]; simp
  have x3 : X.cell? ⟨w.heap.size, 3, none⟩ = some (.int .i64 b) := by rw [hX]; simp
  have xs : w.heap.size < X.heap.size := by rw [hX]; simp
  clear hX he
  go_region_held3 (fun w' => Env w' ∧ Below w.heap.size w w' ∧ w.heap.size < w'.heap.size ∧ w'.cell? ⟨w.heap.size, 0, none⟩ = some (.string n) ∧ w'.cell? ⟨w.heap.size, 1, none⟩ = some (.int .i64 u) ∧ w'.cell? ⟨w.heap.size, 2, none⟩ = some (.int .i64 a) ∧ w'.cell? ⟨w.heap.size, 3, none⟩ = some (.int .i64 b))
    (first
      | (refine ⟨?_, ?_, ?_, ?_, ?_, ?_, ?_⟩ <;> go_keep)
      | (go_split_ands; exact ⟨Env.later (by assumption) hbf, below_more (by assumption) hbf, Nat.lt_of_lt_of_le (by assumption) (Below.size hbf), cell_later hbf (by assumption), cell_later hbf (by assumption), cell_later hbf (by assumption), cell_later hbf (by assumption)⟩)
      | (go_split_ands; exact ⟨Env.later (by assumption) ((Below.refl _ _).alloc (Nat.le_refl _) _), below_more (by assumption) ((Below.refl _ _).alloc (Nat.le_refl _) _), Nat.lt_of_lt_of_le (by assumption) (Below.size ((Below.refl _ _).alloc (Nat.le_refl _) _)), cell_later ((Below.refl _ _).alloc (Nat.le_refl _) _) (by assumption), cell_later ((Below.refl _ _).alloc (Nat.le_refl _) _) (by assumption), cell_later ((Below.refl _ _).alloc (Nat.le_refl _) _) (by assumption), cell_later ((Below.refl _ _).alloc (Nat.le_refl _) _) (by assumption)⟩)
      | (go_split_ands; exact ⟨Env.later (by assumption) (below_drew _), below_more (by assumption) (below_drew _), Nat.lt_of_lt_of_le (by assumption) (Below.size (below_drew _)), cell_later (below_drew _) (by assumption), cell_later (below_drew _) (by assumption), cell_later (below_drew _) (by assumption), cell_later (below_drew _) (by assumption)⟩))
    (first
      | (go_at_call 323; go_split_ands; refine (num_any _ _ (by assumption) (by omega) (by omega)).mono ?_; rintro e w4 ⟨rfl, hbf⟩)
      | (go_at_call 326; go_split_ands; refine (timeWord_any _ _ (by assumption) (by omega) (by omega)).mono ?_; rintro e w4 ⟨rfl, hbf⟩))
  go_split_ands
  have hbE : Below w.heap.size w (w4.alloc (.cells #[.string k, .string n, .string (Txt.itoaS u), .string (timeT a), .string (timeT b)] 9)) := by assumption
  have hsE : w.heap.size < (w4.alloc (.cells #[.string k, .string n, .string (Txt.itoaS u), .string (timeT a), .string (timeT b)] 9)).heap.size := by assumption
  have hsF : w.heap.size < w4.heap.size + 1 := by simpa using hsE
  have HBE := hide hbE
  have HSF : Hid (w.heap.size ≤ w4.heap.size) := by show w.heap.size ≤ w4.heap.size; omega
  go_wp2
  go_ret
  exact ⟨_, rfl, own_new w _ [k, n, Txt.itoaS u, timeT a, timeT b] w4.heap.size HSF.out (heap_alloc_new w4 _) (show 5 ≤ 160 by omega), HBE.out⟩

end Go.Proofs.YtjfkfiffakbagaaGreatDoor

/-
  The walks over the words of the plain form: the kinds that append.
-/
namespace Go.Proofs.YtjfkfiffakbagaaGreatDoor
open Go.RowKit

theorem below_up {B : Nat} {x y z : World} (hB : B ≤ x.heap.size) (h : Below B x y) (hb : Below y.heap.size y z) : Below B x z := h.trans (hb.mono (Nat.le_trans hB h.size))

theorem size_up {B : Nat} {x y z : World} (h : Below B x y) (hb : Below y.heap.size y z) : x.heap.size ≤ z.heap.size := Nat.le_trans h.size hb.size
theorem Env.of10 {B : Nat} {x y : World} (h : Env x) (hB : 10 ≤ B) (hb : Below B x y) : Env y := by
  obtain ⟨m, hm⟩ := h.maxl
  have hc : ∀ (b o : Nat) (v : Value), b < 10 → x.cell? ⟨b, o, none⟩ = some v → y.cell? ⟨b, o, none⟩ = some v := fun b o v hb' e => (hb.cell (p := ⟨b, o, none⟩) (show b < B by omega)).trans e
  obtain ⟨c0, c1, c2, c3, c4, c5, c6, c7, c8, c9, c10, c11⟩ := h.tab
  refine ⟨⟨hc _ _ _ (by omega) c0, hc _ _ _ (by omega) c1, hc _ _ _ (by omega) c2, hc _ _ _ (by omega) c3, hc _ _ _ (by omega) c4, hc _ _ _ (by omega) c5, hc _ _ _ (by omega) c6, hc _ _ _ (by omega) c7, hc _ _ _ (by omega) c8, hc _ _ _ (by omega) c9, hc _ _ _ (by omega) c10, hc _ _ _ (by omega) c11⟩, ⟨m, hc _ _ _ (by omega) hm⟩, ?_, Nat.le_trans h.size hb.size, hc _ _ _ (by omega) h.mo, hc _ _ _ (by omega) h.tu, hc _ _ _ (by omega) h.we, hc _ _ _ (by omega) h.th, hc _ _ _ (by omega) h.fr, hc _ _ _ (by omega) h.sa, hc _ _ _ (by omega) h.su⟩
  have hp := h.pow
  unfold Lib.TabIs World.var? at hp ⊢
  simp only [gPow, Option.bind_some] at hp ⊢
  rw [hb.block 1 (by omega)]
  exact hp
theorem s_of {B : Nat} {x y : World} {p : Prop} (h : Below B x y) (k : Below B x y → p) : Below B x y ∧ p := ⟨h, k h⟩

set_option maxRecDepth 100000 in
set_option maxHeartbeats 2000000 in
theorem pBook (n : ByteArray) (u a b : Int) (w : World) (he : Env w) (u0 : 0 ≤ u) (u1 : u ≤ 9999999) (a0 : 0 ≤ a) (a1 : a ≤ 1048320) (b0 : 0 ≤ b) (b1 : b ≤ 1048320) :
    Calls Tryz.prog 324 #[.agg #[.string n, .int .i64 u, .int .i64 a, .int .i64 b]] w fun e w' => WR w w' [bookW, n, Txt.itoaS u, timeT a, timeT b] e := by
  go_enter Tryz.func324, Tryz.ntmps324
  go_wp2_with fail
  obtain ⟨X, hX⟩ : ∃ X, X = w.alloc (.cells #[.string n, .int .i64 u, .int .i64 a, .int .i64 b] 148) := ⟨_, rfl⟩
  rw [← hX]
  have hbX : Below w.heap.size w X := by rw [hX]; exact (Below.refl _ _).alloc (Nat.le_refl _) _
  have eX := he.later hbX
  clear hX he
  refine (claimWords_any bookW n u a b X eX u0 u1 a0 a1 b0 b1).mono ?_
  rintro e w4 ⟨v, rfl, ho, hbf⟩
  go_wp2
  go_ret
  exact ⟨v, rfl, own_lower ho hbX.size, below_more hbX hbf⟩

set_option maxRecDepth 100000 in
set_option maxHeartbeats 4000000 in
theorem pHold (n : ByteArray) (u a b m : Int) (w : World) (he : Env w) (u0 : 0 ≤ u) (u1 : u ≤ 9999999) (a0 : 0 ≤ a) (a1 : a ≤ 1048320) (b0 : 0 ≤ b) (b1 : b ≤ 1048320) (m0 : 0 ≤ m) (m1 : m ≤ 9999999) :
    Calls Tryz.prog 330 #[.agg #[.string n, .int .i64 u, .int .i64 a, .int .i64 b, .int .i64 m]] w fun e w' => WR w w' [holdW, n, Txt.itoaS u, timeT a, timeT b, Txt.itoaS m] e := by
  obtain ⟨i0, hi0, hz0, hz1, hz2⟩ := info_parts info9
  go_enter Tryz.func330, Tryz.ntmps330
  go_wp2_with fail
  obtain ⟨X, hX⟩ : ∃ X, X = w.alloc (.cells #[.string n, .int .i64 u, .int .i64 a, .int .i64 b, .int .i64 m] 150) := ⟨_, rfl⟩
  rw [← hX]
  have hbX : Below w.heap.size w X := by rw [hX]; exact (Below.refl _ _).alloc (Nat.le_refl _) _
  have eX := he.later hbX
  have hXs : w.heap.size + 1 ≤ X.heap.size := by rw [hX]; simp
  have hXs10 : 10 ≤ w.heap.size + 1 := by have := he.size; omega
  have x0 : X.cell? ⟨w.heap.size, 0, none⟩ = some (.string n) := by rw [hX]; simp
  have x1 : X.cell? ⟨w.heap.size, 1, none⟩ = some (.int .i64 u) := by rw [hX]; simp
  have x2 : X.cell? ⟨w.heap.size, 2, none⟩ = some (.int .i64 a) := by rw [hX]; simp
  have x3 : X.cell? ⟨w.heap.size, 3, none⟩ = some (.int .i64 b) := by rw [hX]; simp
  have x4 : X.cell? ⟨w.heap.size, 4, none⟩ = some (.int .i64 m) := by rw [hX]; simp
  have bX := Below.refl (w.heap.size + 1) X
  have hZ : X.heap.size = w.heap.size + 1 := by rw [hX]; simp
  clear hX he
  go_region_held3 (fun w' => Below (w.heap.size + 1) X w' ∧ w'.cell? ⟨w.heap.size, 0, none⟩ = some (.string n) ∧ w'.cell? ⟨w.heap.size, 1, none⟩ = some (.int .i64 u) ∧ w'.cell? ⟨w.heap.size, 2, none⟩ = some (.int .i64 a) ∧ w'.cell? ⟨w.heap.size, 3, none⟩ = some (.int .i64 b) ∧ w'.cell? ⟨w.heap.size, 4, none⟩ = some (.int .i64 m))
    (first
      | (go_split_ands; exact s_of (below_up hXs (by assumption) hbf) (fun hk => ⟨(hk.cell (p := ⟨w.heap.size, 0, none⟩) (by simp)).trans x0, (hk.cell (p := ⟨w.heap.size, 1, none⟩) (by simp)).trans x1, (hk.cell (p := ⟨w.heap.size, 2, none⟩) (by simp)).trans x2, (hk.cell (p := ⟨w.heap.size, 3, none⟩) (by simp)).trans x3, (hk.cell (p := ⟨w.heap.size, 4, none⟩) (by simp)).trans x4⟩))
      | (go_split_ands; exact s_of (below_up hXs (by assumption) ((Below.refl _ _).alloc (Nat.le_refl _) _)) (fun hk => ⟨(hk.cell (p := ⟨w.heap.size, 0, none⟩) (by simp)).trans x0, (hk.cell (p := ⟨w.heap.size, 1, none⟩) (by simp)).trans x1, (hk.cell (p := ⟨w.heap.size, 2, none⟩) (by simp)).trans x2, (hk.cell (p := ⟨w.heap.size, 3, none⟩) (by simp)).trans x3, (hk.cell (p := ⟨w.heap.size, 4, none⟩) (by simp)).trans x4⟩))
      | (go_split_ands; exact s_of (below_up hXs (by assumption) (below_drew _)) (fun hk => ⟨(hk.cell (p := ⟨w.heap.size, 0, none⟩) (by simp)).trans x0, (hk.cell (p := ⟨w.heap.size, 1, none⟩) (by simp)).trans x1, (hk.cell (p := ⟨w.heap.size, 2, none⟩) (by simp)).trans x2, (hk.cell (p := ⟨w.heap.size, 3, none⟩) (by simp)).trans x3, (hk.cell (p := ⟨w.heap.size, 4, none⟩) (by simp)).trans x4⟩))
      | (go_split_ands; exact s_of (Below.grown (by assumption) hgrow (by simp; omega) (fun k hk => own_base hoN hk)) (fun hk => ⟨(hk.cell (p := ⟨w.heap.size, 0, none⟩) (by simp)).trans x0, (hk.cell (p := ⟨w.heap.size, 1, none⟩) (by simp)).trans x1, (hk.cell (p := ⟨w.heap.size, 2, none⟩) (by simp)).trans x2, (hk.cell (p := ⟨w.heap.size, 3, none⟩) (by simp)).trans x3, (hk.cell (p := ⟨w.heap.size, 4, none⟩) (by simp)).trans x4⟩)))
    (first
      | (go_at_call 325
         go_split_ands
         refine (claimWords_any holdW n u a b _ (Env.later eX (by rw [hZ]; assumption)) u0 u1 a0 a1 b0 b1).mono ?_
         rintro e w4 ⟨v1, rfl, ho, hbf⟩)
      | (go_at_call 323
         go_split_ands
         have hoN := own_lower (base' := w.heap.size + 1) ho (by simp; omega)
         refine (num_any m _ (Env.later eX (by rw [hZ]; assumption)) (by omega) (by omega)).mono ?_
         rintro e w5 ⟨rfl, hbf⟩
         have hs5 := size_up (B := w.heap.size + 1) (x := X) (by assumption) hbf)
      | ((refine step_append_lies _ (by rfl) _ _ _ (by rfl) (w.heap.size + 1) 9 i0 _ 1 16 Tryz.underlying26 hi0 hz0 hz1 hz2 rfl (by omega) v1 5 ([holdW, n, Txt.itoaS u, timeT a, timeT b].map Value.string) (by rfl) ((own_later hoN hbf).alloc _) ⟨w5.heap.size, 0, none⟩ 1 1 [.string (Txt.itoaS m)] (by rfl) (by rfl) (World.news_of_block (cs := #[.string (Txt.itoaS m)]) (t := 9) (fr := (0, 0)) (heap_alloc_new _ _)) (by simp [Value.oneCell']) (by omega) (by unfold maxLen; omega) (by omega) (by simp; omega) (w5.heap.size + 1) (by simp) ?_; intro g cap w6 hown6 hgrow hat hltg)))
  go_split_ands
  have hbE : Below (w.heap.size + 1) X w6 := by assumption
  have HBE := hide hbE
  clear hbE
  go_wp2
  go_ret
  exact ⟨_, rfl, own_lower hown6 (by omega), hbX.trans (HBE.out.mono (by omega))⟩

set_option maxRecDepth 100000 in
set_option maxHeartbeats 4000000 in
theorem pWait (n : ByteArray) (u a b m : Int) (w : World) (he : Env w) (u0 : 0 ≤ u) (u1 : u ≤ 9999999) (a0 : 0 ≤ a) (a1 : a ≤ 1048320) (b0 : 0 ≤ b) (b1 : b ≤ 1048320) (m0 : 0 ≤ m) (m1 : m ≤ 9999999) :
    Calls Tryz.prog 331 #[.agg #[.string n, .int .i64 u, .int .i64 a, .int .i64 b, .int .i64 m]] w fun e w' => WR w w' [waitW, n, Txt.itoaS u, timeT a, timeT b, Txt.itoaS m] e := by
  obtain ⟨i0, hi0, hz0, hz1, hz2⟩ := info_parts info9
  go_enter Tryz.func331, Tryz.ntmps331
  go_wp2_with fail
  obtain ⟨X, hX⟩ : ∃ X, X = w.alloc (.cells #[.string n, .int .i64 u, .int .i64 a, .int .i64 b, .int .i64 m] 151) := ⟨_, rfl⟩
  rw [← hX]
  have hbX : Below w.heap.size w X := by rw [hX]; exact (Below.refl _ _).alloc (Nat.le_refl _) _
  have eX := he.later hbX
  have hXs : w.heap.size + 1 ≤ X.heap.size := by rw [hX]; simp
  have hXs10 : 10 ≤ w.heap.size + 1 := by have := he.size; omega
  have x0 : X.cell? ⟨w.heap.size, 0, none⟩ = some (.string n) := by rw [hX]; simp
  have x1 : X.cell? ⟨w.heap.size, 1, none⟩ = some (.int .i64 u) := by rw [hX]; simp
  have x2 : X.cell? ⟨w.heap.size, 2, none⟩ = some (.int .i64 a) := by rw [hX]; simp
  have x3 : X.cell? ⟨w.heap.size, 3, none⟩ = some (.int .i64 b) := by rw [hX]; simp
  have x4 : X.cell? ⟨w.heap.size, 4, none⟩ = some (.int .i64 m) := by rw [hX]; simp
  have bX := Below.refl (w.heap.size + 1) X
  have hZ : X.heap.size = w.heap.size + 1 := by rw [hX]; simp
  clear hX he
  go_region_held3 (fun w' => Below (w.heap.size + 1) X w' ∧ w'.cell? ⟨w.heap.size, 0, none⟩ = some (.string n) ∧ w'.cell? ⟨w.heap.size, 1, none⟩ = some (.int .i64 u) ∧ w'.cell? ⟨w.heap.size, 2, none⟩ = some (.int .i64 a) ∧ w'.cell? ⟨w.heap.size, 3, none⟩ = some (.int .i64 b) ∧ w'.cell? ⟨w.heap.size, 4, none⟩ = some (.int .i64 m))
    (first
      | (go_split_ands; exact s_of (below_up hXs (by assumption) hbf) (fun hk => ⟨(hk.cell (p := ⟨w.heap.size, 0, none⟩) (by simp)).trans x0, (hk.cell (p := ⟨w.heap.size, 1, none⟩) (by simp)).trans x1, (hk.cell (p := ⟨w.heap.size, 2, none⟩) (by simp)).trans x2, (hk.cell (p := ⟨w.heap.size, 3, none⟩) (by simp)).trans x3, (hk.cell (p := ⟨w.heap.size, 4, none⟩) (by simp)).trans x4⟩))
      | (go_split_ands; exact s_of (below_up hXs (by assumption) ((Below.refl _ _).alloc (Nat.le_refl _) _)) (fun hk => ⟨(hk.cell (p := ⟨w.heap.size, 0, none⟩) (by simp)).trans x0, (hk.cell (p := ⟨w.heap.size, 1, none⟩) (by simp)).trans x1, (hk.cell (p := ⟨w.heap.size, 2, none⟩) (by simp)).trans x2, (hk.cell (p := ⟨w.heap.size, 3, none⟩) (by simp)).trans x3, (hk.cell (p := ⟨w.heap.size, 4, none⟩) (by simp)).trans x4⟩))
      | (go_split_ands; exact s_of (below_up hXs (by assumption) (below_drew _)) (fun hk => ⟨(hk.cell (p := ⟨w.heap.size, 0, none⟩) (by simp)).trans x0, (hk.cell (p := ⟨w.heap.size, 1, none⟩) (by simp)).trans x1, (hk.cell (p := ⟨w.heap.size, 2, none⟩) (by simp)).trans x2, (hk.cell (p := ⟨w.heap.size, 3, none⟩) (by simp)).trans x3, (hk.cell (p := ⟨w.heap.size, 4, none⟩) (by simp)).trans x4⟩))
      | (go_split_ands; exact s_of (Below.grown (by assumption) hgrow (by simp; omega) (fun k hk => own_base hoN hk)) (fun hk => ⟨(hk.cell (p := ⟨w.heap.size, 0, none⟩) (by simp)).trans x0, (hk.cell (p := ⟨w.heap.size, 1, none⟩) (by simp)).trans x1, (hk.cell (p := ⟨w.heap.size, 2, none⟩) (by simp)).trans x2, (hk.cell (p := ⟨w.heap.size, 3, none⟩) (by simp)).trans x3, (hk.cell (p := ⟨w.heap.size, 4, none⟩) (by simp)).trans x4⟩)))
    (first
      | (go_at_call 325
         go_split_ands
         refine (claimWords_any waitW n u a b _ (Env.later eX (by rw [hZ]; assumption)) u0 u1 a0 a1 b0 b1).mono ?_
         rintro e w4 ⟨v1, rfl, ho, hbf⟩)
      | (go_at_call 323
         go_split_ands
         have hoN := own_lower (base' := w.heap.size + 1) ho (by simp; omega)
         refine (num_any m _ (Env.later eX (by rw [hZ]; assumption)) (by omega) (by omega)).mono ?_
         rintro e w5 ⟨rfl, hbf⟩
         have hs5 := size_up (B := w.heap.size + 1) (x := X) (by assumption) hbf)
      | ((refine step_append_lies _ (by rfl) _ _ _ (by rfl) (w.heap.size + 1) 9 i0 _ 1 16 Tryz.underlying26 hi0 hz0 hz1 hz2 rfl (by omega) v1 5 ([waitW, n, Txt.itoaS u, timeT a, timeT b].map Value.string) (by rfl) ((own_later hoN hbf).alloc _) ⟨w5.heap.size, 0, none⟩ 1 1 [.string (Txt.itoaS m)] (by rfl) (by rfl) (World.news_of_block (cs := #[.string (Txt.itoaS m)]) (t := 9) (fr := (0, 0)) (heap_alloc_new _ _)) (by simp [Value.oneCell']) (by omega) (by unfold maxLen; omega) (by omega) (by simp; omega) (w5.heap.size + 1) (by simp) ?_; intro g cap w6 hown6 hgrow hat hltg)))
  go_split_ands
  have hbE : Below (w.heap.size + 1) X w6 := by assumption
  have HBE := hide hbE
  clear hbE
  go_wp2
  go_ret
  exact ⟨_, rfl, own_lower hown6 (by omega), hbX.trans (HBE.out.mono (by omega))⟩

set_option maxRecDepth 100000 in
set_option maxHeartbeats 4000000 in
theorem pList0 (n : ByteArray) (a b : Int) (w : World)  :
    Calls Tryz.prog 338 #[.agg #[.string n, .bool false, .int .i64 a, .int .i64 b]] w fun e w' => WR w w' [listW, n] e := by
  go_enter Tryz.func338, Tryz.ntmps338
  go_wp2
  go_ret
  have e := heap_alloc_new (w.alloc (.cells #[.string n, .bool false, .int .i64 a, .int .i64 b] 164)) (.cells #[.string listW, .string n] 9)
  rw [show (w.alloc (.cells #[.string n, .bool false, .int .i64 a, .int .i64 b] 164)).heap.size = w.heap.size + 1 from by simp] at e
  exact ⟨_, rfl, own_new w _ [listW, n] _ (by simp) e (show 2 ≤ 160 by omega), below_more ((Below.refl _ _).alloc (Nat.le_refl _) _) ((Below.refl _ _).alloc (Nat.le_refl _) _)⟩

set_option maxRecDepth 100000 in
set_option maxHeartbeats 4000000 in
theorem pList1 (n : ByteArray) (a b : Int) (w : World) (he : Env w) (a0 : 0 ≤ a) (a1 : a ≤ 1048320) (b0 : 0 ≤ b) (b1 : b ≤ 1048320) :
    Calls Tryz.prog 338 #[.agg #[.string n, .bool true, .int .i64 a, .int .i64 b]] w fun e w' => WR w w' [listW, n, timeT a, timeT b] e := by
  obtain ⟨i0, hi0, hz0, hz1, hz2⟩ := info_parts info9
  go_enter Tryz.func338, Tryz.ntmps338
  go_wp2_with fail
  obtain ⟨X, hX⟩ : ∃ X, X = (w.alloc (.cells #[.string n, .bool true, .int .i64 a, .int .i64 b] 164)).alloc (.cells #[.string ⟨#[108, 105, 115, 116]⟩, .string n] 9) := ⟨_, rfl⟩
  rw [← hX]
  have hbX : Below w.heap.size w X := by rw [hX]; exact ((Below.refl _ _).alloc (Nat.le_refl _) _).alloc (by simp) _
  have eX := he.later hbX
  have hXs : w.heap.size + 1 ≤ X.heap.size := by rw [hX]; simp
  have hXs10 : 10 ≤ w.heap.size + 1 := by have := he.size; omega
  have x0 : X.cell? ⟨w.heap.size, 0, none⟩ = some (.string n) := by rw [hX]; simp
  have x1 : X.cell? ⟨w.heap.size, 1, none⟩ = some (.bool true) := by rw [hX]; simp
  have x2 : X.cell? ⟨w.heap.size, 2, none⟩ = some (.int .i64 a) := by rw [hX]; simp
  have x3 : X.cell? ⟨w.heap.size, 3, none⟩ = some (.int .i64 b) := by rw [hX]; simp
  have hZ : X.heap.size = w.heap.size + 2 := by rw [hX]; simp
  have hoX : X.ownsRow (w.heap.size + 1) 9 1 (.slice (some ⟨w.heap.size + 1, 0, none⟩) 2 2) 2 ([.string ⟨#[108, 105, 115, 116]⟩, .string n]) := by
    refine ⟨rfl, .inr ⟨w.heap.size + 1, 2, #[.string ⟨#[108, 105, 115, 116]⟩, .string n], rfl, Nat.le_refl _, ?_, Nat.le_refl _, by decide, rfl, rfl⟩⟩
    rw [hX]
    have e := heap_alloc_new (w.alloc (.cells #[.string n, .bool true, .int .i64 a, .int .i64 b] 164)) (.cells #[.string ⟨#[108, 105, 115, 116]⟩, .string n] 9)
    rw [show (w.alloc (.cells #[.string n, .bool true, .int .i64 a, .int .i64 b] 164)).heap.size = w.heap.size + 1 from by simp] at e
    exact e
  have bX := Below.refl (w.heap.size + 1) X
  clear hX he
  have hoN := hoX.drew
  go_region_held3 (fun w' => Below (w.heap.size + 1) X w' ∧ w'.cell? ⟨w.heap.size, 0, none⟩ = some (.string n) ∧ w'.cell? ⟨w.heap.size, 1, none⟩ = some (.bool true) ∧ w'.cell? ⟨w.heap.size, 2, none⟩ = some (.int .i64 a) ∧ w'.cell? ⟨w.heap.size, 3, none⟩ = some (.int .i64 b))
    (first
      | (go_split_ands; exact s_of (below_up hXs (by assumption) hbf) (fun hk => ⟨(hk.cell (p := ⟨w.heap.size, 0, none⟩) (by simp)).trans x0, (hk.cell (p := ⟨w.heap.size, 1, none⟩) (by simp)).trans x1, (hk.cell (p := ⟨w.heap.size, 2, none⟩) (by simp)).trans x2, (hk.cell (p := ⟨w.heap.size, 3, none⟩) (by simp)).trans x3⟩))
      | (go_split_ands; exact s_of (below_up hXs (by assumption) ((Below.refl _ _).alloc (Nat.le_refl _) _)) (fun hk => ⟨(hk.cell (p := ⟨w.heap.size, 0, none⟩) (by simp)).trans x0, (hk.cell (p := ⟨w.heap.size, 1, none⟩) (by simp)).trans x1, (hk.cell (p := ⟨w.heap.size, 2, none⟩) (by simp)).trans x2, (hk.cell (p := ⟨w.heap.size, 3, none⟩) (by simp)).trans x3⟩))
      | (go_split_ands; exact s_of (below_up hXs (by assumption) (below_drew _)) (fun hk => ⟨(hk.cell (p := ⟨w.heap.size, 0, none⟩) (by simp)).trans x0, (hk.cell (p := ⟨w.heap.size, 1, none⟩) (by simp)).trans x1, (hk.cell (p := ⟨w.heap.size, 2, none⟩) (by simp)).trans x2, (hk.cell (p := ⟨w.heap.size, 3, none⟩) (by simp)).trans x3⟩))
      | (go_split_ands; exact s_of (Below.grown (by assumption) hgrow (by simp; omega) (fun k hk => own_base hoN hk)) (fun hk => ⟨(hk.cell (p := ⟨w.heap.size, 0, none⟩) (by simp)).trans x0, (hk.cell (p := ⟨w.heap.size, 1, none⟩) (by simp)).trans x1, (hk.cell (p := ⟨w.heap.size, 2, none⟩) (by simp)).trans x2, (hk.cell (p := ⟨w.heap.size, 3, none⟩) (by simp)).trans x3⟩)))
    (first
      | (go_at_call 326
         go_split_ands
         refine (timeWord_any _ _ (eX.of10 hXs10 (by assumption)) (by omega) (by omega)).mono ?_
         rintro e w5 ⟨rfl, hbf⟩
         have hs5 := size_up (B := w.heap.size + 1) (x := X) (by assumption) hbf
         have hoN := own_later hoN hbf)
      | ((refine step_append_lies _ (by rfl) _ _ _ (by rfl) (w.heap.size + 1) 9 i0 _ 1 16 Tryz.underlying26 hi0 hz0 hz1 hz2 rfl (by omega) (.slice (some ⟨w.heap.size + 1, 0, none⟩) 2 2) 2 ([.string ⟨#[108, 105, 115, 116]⟩, .string n]) (by rfl) (hoN.alloc _) ⟨w5.heap.size, 0, none⟩ 2 2 [.string (timeT a), .string (timeT b)] (by rfl) (by rfl) (World.news_of_block (cs := #[.string (timeT a), .string (timeT b)]) (t := 9) (fr := (0, 0)) (heap_alloc_new _ _)) (by simp [Value.oneCell']) (by omega) (by unfold maxLen; omega) (by omega) (by simp; omega) (w5.heap.size + 1) (by simp) ?_; intro g cap w6 hown6 hgrow hat hltg)))
  go_split_ands
  have hbE : Below (w.heap.size + 1) X w6 := by assumption
  have HBE := hide hbE
  clear hbE
  go_wp2
  go_ret
  exact ⟨_, rfl, own_lower hown6 (by omega), hbX.trans (HBE.out.mono (by omega))⟩

end Go.Proofs.YtjfkfiffakbagaaGreatDoor
