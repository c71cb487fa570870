/-
  bookingskeep.Days: the law, walked over.
-/
import Derived.Test.YtjfkfiffakbagaaGreatDoorL17
namespace Go.Proofs.YtjfkfiffakbagaaGreatDoor
open Go.RowKit
open Desk (Ent St Ids kept booked bookE sumA Items ofB sameB Risen Mid EntOk endsB Inv)

set_option maxRecDepth 100000 in
set_option maxHeartbeats 8000000 in
theorem daysLaw_any (d n times : Int) (w : World) (he : Env w) (hd1 : -9223372036854775808 ≤ d) (hd2 : d ≤ 9223372036854775807) (hn1 : -9223372036854775808 ≤ n) (hn2 : n ≤ 9223372036854775807) (ht1 : -9223372036854775808 ≤ times) (ht2 : times ≤ 9223372036854775807) :
    Calls Tryz.prog 9 #[.int .i64 d, .int .i64 n, .int .i64 times] w fun e w' => e = .returned (.bool true) ∧ Below w.heap.size w w' := by
  obtain ⟨da, db⟩ := pickV_bd (c := d) (n := 300) (by omega)
  obtain ⟨na, nb⟩ := pickV_bd (c := n) (n := 6) (by omega)
  obtain ⟨ta, tb⟩ := pickV_bd (c := times) (n := 40) (by omega)
  have k1 : IntKind.i64.wrap (1 + pickV n 6) = 1 + pickV n 6 := wrap_small (by omega) (by omega)
  have k2 : IntKind.i64.wrap (1 + pickV times 40) = 1 + pickV times 40 := wrap_small (by omega) (by omega)
  have NE := hidp (bNew_any w he)
  have h10 := he.size
  clear he
  go_enter Tryz.func9, Tryz.ntmps9
  go_upto_region 4 with (first
    | (go_at_call 29; refine (pickN_any _ _ _ (by assumption) (by assumption) (by omega) (by omega)).mono ?_; rintro e w ⟨rfl, rfl⟩))
  generalize pickV d 300 = dd at *
  generalize pickV n 6 = n0 at *
  generalize pickV times 40 = t0 at *
  have hn1' : 1 ≤ 1 + n0 := by omega
  have ht1' : 1 ≤ 1 + t0 := by omega
  have hn2' : 1 + n0 ≤ 6 := by omega
  have ht2' : 1 + t0 ≤ 40 := by omega
  clear na nb ta tb hd1 hd2 hn1 hn2 ht1 ht2 k1 k2
  generalize 1 + n0 = nn at *
  generalize 1 + t0 = tt at *
  go_upto_region 7 with (first
    | (go_at_call 30; refine NE.out.mono ?_; rintro e w1 ⟨p, dk, col, rfl, bd, hb, hlo⟩))
  have BD1 := hidp (DL.mk bd hb hlo)
  have DT := hidp (bDate_yes dd w1 bd.env.tab (by omega) (by omega))
  clear NE bd hb hlo
  go_upto_region 8 with (first
    | (go_at_call 31; refine DT.out.mono ?_; rintro e w1 ⟨y, m, k, rfl, hok, hnum, rfl⟩))
  obtain rfl := year24 hok hnum da db
  have hb24 : ((2024 : Int) != 2024) = false := by rfl
  obtain ⟨g1, g2, g3, g4, g5, g6⟩ := (Cal.ok_iff 2024 m k).1 hok
  have gd := Cal.dim_bd 2024 m
  have HOK := hidp (And.intro hok hnum)
  have g7 : k ≤ 31 := by omega
  have s45 := (date_is hok).2.2.2
  obtain ⟨s4, s5⟩ := s45
  clear hok hnum g1 g2 gd g6 DT
  have z1 := Txt.itoa_size nn (by omega) (by omega)
  have z2 := Txt.itoa_size tt (by omega) (by omega)
  have TM := hidp (fun W (hW : Env W) => two_any m W hW (by omega) (by omega))
  have TK := hidp (fun W (hW : Env W) => two_any k W hW (by omega) (by omega))
  go_upto_region 10 with fail
  go_upto_region 11 with (first
    | (go_at_call 32; refine (TM.out _ BD1.out.bd.env).mono ?_; rintro e w2 ⟨rfl, hb2⟩; have BD2 := hidp (BD1.out.later hb2); clear TM)
    | (go_at_call 32; refine (TK.out _ BD2.out.bd.env).mono ?_; rintro e w3 ⟨rfl, hb3⟩; have BD3 := hidp (BD2.out.later hb3); clear TK))
  have EX := hidp (fun W r c (hW : BD W p dk st0 r c) => expand_do hW (lineD nn m k tt) (Rd.dailyR nn dd tt) (Rd.daily_fine da (by omega) hn1' (by omega) (by omega) (by omega)) (lineD_reads HOK.out.1 HOK.out.2 hn1' (by omega) ht1' (by omega)) 0 (Rd.prog dd nn tt.toNat) (by
    obtain ⟨q1, q2⟩ := Rd.daily_is (n := nn) (d := dd) (t := tt) da db hn1' hn2' ht1' ht2'
    rw [step_expand q1, q2]))
  rw [Rd.prog_len] at EX
  have etn : (tt.toNat : Int) = tt := by omega
  rw [etn] at EX
  unfold lineD fromS repV at EX
  go_upto_region 12 with (first
    | (go_at_call 21; refine (kNum_any nn w3 BD3.out.bd.env (by omega) (by omega)).mono ?_; rintro e w4 ⟨rfl, hb4⟩; have BD4 := hidp (BD3.out.later hb4); clear BD3)
    | (go_at_call 21; refine (kNum_any tt w4 BD4.out.bd.env (by omega) (by omega)).mono ?_; rintro e w5 ⟨rfl, hb5⟩; have BD5 := hidp (BD4.out.later hb5); clear BD4)
    | (go_at_call 20; refine (EX.out _ _ _ BD5.out.bd).mono ?_; rintro e w6 ⟨a1, a2, a3, a4, n1, n3, n4, c1, c2, c3, c4, rfl, row1, r1, col1, bd6, st6, no1⟩))
  have RP1 : Hid (RpK (w6.alloc (.cells #[.int .i64 0, .int .i64 0, .int .i64 tt, .slice a1 n1 c1, .slice a2 tt.toNat c2, .slice a3 n3 c3, .slice a4 n4 c4] 40)) col1 w6.heap.size 0 tt (.slice a2 tt.toNat c2) (Rd.prog dd nn tt.toNat)) := by
    have k := (Below.refl w6.heap.size w6).alloc (Nat.le_refl _) (.cells #[.int .i64 0, .int .i64 0, .int .i64 tt, .slice a1 n1 c1, .slice a2 tt.toNat c2, .slice a3 n3 c3, .slice a4 n4 c4] 40)
    exact ⟨⟨_, _, _, heapNew w6 _⟩, bd6.ds.dk.none (Nat.le_refl _), by rw [Rd.prog_len]; exact ownLow (ownBl row1 k) (Nat.zero_le _), no1⟩
  have BD6 : Hid (DL w (w6.alloc (.cells #[.int .i64 0, .int .i64 0, .int .i64 tt, .slice a1 n1 c1, .slice a2 tt.toNat c2, .slice a3 n3 c3, .slice a4 n4 c4] 40)) p dk r1 col1) := (BD5.out.step bd6 st6).later ((Below.refl w6.heap.size w6).alloc (Nat.le_refl _) _)
  clear row1 bd6 st6 no1 EX hb2 hb3 hb4 hb5 BD1 BD2 BD5
  generalize w6.alloc (.cells #[.int .i64 0, .int .i64 0, .int .i64 tt, .slice a1 n1 c1, .slice a2 tt.toNat c2, .slice a3 n3 c3, .slice a4 n4 c4] 40) = Y at *
  have t9 : IntKind.i64.wrap (1 + tt.tmod 9) = 1 + tt % 9 := by rw [Int.tmod_eq_emod_of_nonneg (by omega)]; exact wrap_small (by omega) (by omega)
  have z3 := Txt.itoa_size (1 + tt % 9) (by omega) (by omega)
  obtain ⟨i, wd, hi, hq, hws, hon, hwb, AC⟩ := wd_is da
  have hi' : (i : Int) < 7 := by omega
  have NA := hidp (fun W (hW : Below Y.heap.size Y W) => kNum_any nn W (BD6.out.later hW).bd.env (by omega) (by omega))
  have NB := hidp (fun W (hW : Below Y.heap.size Y W) => kNum_any (1 + tt % 9) W (BD6.out.later hW).bd.env (by omega) (by omega))
  have EX := hidp (fun W (hW : Below Y.heap.size Y W) => expand_do (BD6.out.later hW).bd (lineW nn wd m k (1 + tt % 9)) (Rd.weeklyR nn dd (1 + tt % 9)) (Rd.weekly_fine da (by omega) hn1' (by omega) (by omega) (by omega)) (lineW_reads HOK.out.1 HOK.out.2 hn1' (by omega) (by omega) (by omega) hon hwb hws) 0 (Rd.prog dd (7 * nn) (1 + tt % 9).toNat) (by
    obtain ⟨q1, q2⟩ := Rd.weekly_is (n := nn) (d := dd) (t := 1 + tt % 9) da db hn1' hn2' (by omega) (by omega)
    rw [step_expand q1, q2]))
  rw [Rd.prog_len] at EX
  have eun : ((1 + tt % 9).toNat : Int) = 1 + tt % 9 := by omega
  rw [eun] at EX
  unfold lineW fromS repV at EX
  generalize huu : 1 + tt % 9 = uu at *
  have hbu : (uu != 1 + tt % 9) = false := by rw [huu]; simp
  have huu9 : 1 ≤ uu ∧ uu ≤ 9 := by omega
  clear huu
  clear hon hwb
  have hFTs : (((((⟨#[32, 102, 114, 111, 109, 32, 50, 48, 50, 52, 45]⟩ : ByteArray) ++ twoS m) ++ ⟨#[45]⟩) ++ twoS k) ++ ⟨#[32, 97, 116, 32, 48, 48, 58, 48, 48, 32, 102, 111, 114, 32, 49, 32, 116, 105, 109, 101, 115, 32]⟩).size = 38 := by simp only [ByteArray.size_append, s4, s5]; rfl
  generalize hFT : (((((⟨#[32, 102, 114, 111, 109, 32, 50, 48, 50, 52, 45]⟩ : ByteArray) ++ twoS m) ++ ⟨#[45]⟩) ++ twoS k) ++ ⟨#[32, 97, 116, 32, 48, 48, 58, 48, 48, 32, 102, 111, 114, 32, 49, 32, 116, 105, 109, 101, 115, 32]⟩) = FT at *
  have HFT := hidp hFT
  clear hFT
  generalize Value.string ((((⟨#[32, 102, 114, 111, 109, 32, 50, 48, 50, 52, 45]⟩ : ByteArray) ++ twoS m) ++ ⟨#[45]⟩) ++ twoS k) = g53
  generalize Value.string (((⟨#[32, 102, 114, 111, 109, 32, 50, 48, 50, 52, 45]⟩ : ByteArray) ++ twoS m) ++ ⟨#[45]⟩) = g50
  generalize Value.string ((⟨#[32, 102, 114, 111, 109, 32, 50, 48, 50, 52, 45]⟩ : ByteArray) ++ twoS m) = g49
  generalize Value.string ((((⟨#[101, 120, 112, 97, 110, 100, 32, 100, 97, 105, 108, 121, 32]⟩ : ByteArray) ++ Txt.itoaS nn) ++ FT) ++ Txt.itoaS tt) = g63
  generalize Value.string (((⟨#[101, 120, 112, 97, 110, 100, 32, 100, 97, 105, 108, 121, 32]⟩ : ByteArray) ++ Txt.itoaS nn) ++ FT) = g60
  generalize Value.string ((⟨#[101, 120, 112, 97, 110, 100, 32, 100, 97, 105, 108, 121, 32]⟩ : ByteArray) ++ Txt.itoaS nn) = g58
  generalize Value.tuple #[.int .i64 2024, .int .i64 m, .int .i64 k, .int .i64 0] = g34
  generalize Value.agg #[.int .i64 0, .int .i64 0, .int .i64 tt, .slice a1 n1 c1, .slice a2 tt.toNat c2, .slice a3 n3 c3, .slice a4 n4 c4] = g64
  clear z2
  rename_i K hK
  have HDT : Hid (Cal.yT dd = 2024 ∧ Cal.mT dd = m ∧ Cal.dT dd = k) := by
    obtain ⟨x1, x2, x3⟩ := Cal.dT_one 2024 m k dd HOK.out.1 HOK.out.2
    exact ⟨x1.symm, x2.symm, x3.symm⟩
  have KK : ∀ (u23 u24 u25 u26 u27 u28 u29 u30 u31 u32 u33 u34 u35 u36 u37 u38 u39 u40 u41 u42 u43 u44 u45 u46 u47 u48 u49 u50 u51 u52 u53 u54 u55 u56 u57 u58 u59 u60 u61 u62 u63 u64 u65 u66 u67 u68 u69 u70 u71 u72 u73 u74 u75 u76 u77 u78 u79 u80 u81 u82 u83 : Value) (R1 R2 : Nat) (W : World) (r2 : Raw) (col2 : Nat → Option Col) (x1 x2 : Option Addr) (y1 y2 : Nat), DL w W p dk r2 col2 → RpK W col2 R1 0 tt (.slice x1 tt.toNat y1) (Rd.prog dd nn tt.toNat) → RpK W col2 R2 0 uu (.slice x2 uu.toNat y2) (Rd.prog dd (7 * nn) uu.toNat) →
      K { tmps := #[.int .i64 dd, .int .i64 nn, .int .i64 tt, undef, undef, undef, .bool false, .pointer (some ⟨p, 0, none⟩), .int .i64 2024, .int .i64 m, .int .i64 k, .int .i64 0, .string FT, .pointer (some ⟨R1, 0, none⟩), .pointer (some ⟨R2, 0, none⟩), undef, undef, undef, undef, undef, undef, undef, undef, u23, u24, u25, u26, u27, u28, u29, u30, u31, u32, u33, u34, u35, u36, u37, u38, u39, u40, u41, u42, u43, u44, u45, u46, u47, u48, u49, u50, u51, u52, u53, u54, u55, u56, u57, u58, u59, u60, u61, u62, u63, u64, u65, u66, u67, u68, u69, u70, u71, u72, u73, u74, u75, u76, u77, u78, u79, u80, u81, u82, u83, undef, undef, undef, undef, undef, undef, undef, undef, undef, undef, undef, undef, undef, undef, undef, undef, undef, undef, undef, undef, undef, undef, undef, undef, undef, undef, undef, undef, undef, undef, undef, undef, undef, undef, undef, undef, undef, undef, undef, undef, undef, undef, undef, undef, undef, undef, undef, undef, undef, undef, undef, undef, undef, undef, undef, undef, undef, undef, undef, undef, undef, undef, undef, undef, undef, undef, undef, undef, undef, undef, undef, undef, undef, undef, undef, undef, undef, undef, undef, undef, undef, undef, undef, undef, undef, undef, undef, undef, undef, undef, undef, undef, undef, undef, undef, undef, undef, undef, undef, undef, undef, undef, undef, undef, undef, undef, undef, undef, undef, undef, undef, undef, undef, undef, undef, undef, undef, undef, undef, undef, undef, undef, undef, undef, undef, undef, undef, undef, undef, undef, undef, undef, undef, undef, undef], defers := [] } W := by
    intro u23 u24 u25 u26 u27 u28 u29 u30 u31 u32 u33 u34 u35 u36 u37 u38 u39 u40 u41 u42 u43 u44 u45 u46 u47 u48 u49 u50 u51 u52 u53 u54 u55 u56 u57 u58 u59 u60 u61 u62 u63 u64 u65 u66 u67 u68 u69 u70 u71 u72 u73 u74 u75 u76 u77 u78 u79 u80 u81 u82 u83 R1 R2 W r2 col2 x1 x2 y1 y2 hDL hR1 hR2
    obtain ⟨i0, hi0, hz0, hz1, hz2⟩ := info_parts infoInt
    refine hK _ _ ?_
    clear hK AC NA NB EX BD6 RP1 hi hi' hq hws
    have HDL := hidp hDL
    have HR1 := hidp hR1
    have HR2 := hidp hR2
    clear hDL hR1 hR2
    obtain ⟨M, hM⟩ : ∃ M, M = Rd.moAll 2024 m nn k 24 := ⟨_, rfl⟩
    obtain ⟨er3, L3, hS3, hE3⟩ : ∃ (er3 : Int) (L3 : List Int), Desk.stepD st0 (.expand (Rd.monthlyR nn dd 3)) = (st0, ⟨er3, 0, (L3.length : Int), [], L3, [], []⟩) ∧ (M.length < 3 → er3 = 6 ∧ L3 = []) ∧ (¬ M.length < 3 → er3 = 0 ∧ L3 = M.take 3) := by
      obtain ⟨g1, g2⟩ := Rd.monthly_is (n := nn) (d := dd) da (by omega) hn1' (by omega)
      rw [HDT.out.1, HDT.out.2.1, HDT.out.2.2, ← hM] at g1 g2
      by_cases hlt : M.length < 3
      · rw [if_pos hlt] at g2
        refine ⟨6, [], ?_, fun _ => ⟨rfl, rfl⟩, fun h => absurd hlt h⟩
        rw [step_expand_err (Rd.monthly_fine da (by omega) hn1' (by omega) (by omega) (by omega)) (by rw [g2]; decide), g2]; rfl
      · rw [if_neg hlt] at g2
        refine ⟨0, M.take 3, ?_, fun h => absurd h hlt, fun _ => ⟨rfl, rfl⟩⟩
        rw [step_expand g2, g1]
    have HM := hidp hM
    clear hM
    have NU := hidp (kNum_any nn W HDL.out.bd.env (by omega) (by omega))
    have EX := hidp (fun W (hW : BD W p dk st0 r2 col2) => expand_do hW (lineM nn m k) (Rd.monthlyR nn dd 3) (Rd.monthly_fine da (by omega) hn1' (by omega) (by omega) (by omega)) (lineM_reads HOK.out.1 HOK.out.2 hn1' (by omega)) er3 L3 hS3)
    have HE3 := hidp hE3
    unfold lineM fromS repV at EX
    rw [HFT.out] at EX
    clear hS3 hE3
    go_upto_region 14 with (first
      | (go_at_call 21; refine NU.out.mono ?_; rintro e w10 ⟨rfl, hb10⟩; have DL10 := hidp (HDL.out.later hb10); have HB10 := hidp hb10; clear NU)
      | (go_at_call 20; refine (EX.out _ DL10.out.bd).mono ?_; rintro e w11 ⟨a1, a2, a3, a4, n1, n3, n4, c1, c2, c3, c4, rfl, row3, r3, col3, bd11, st11, no3⟩))
    have k11 := (Below.refl w11.heap.size w11).alloc (Nat.le_refl _) (.cells #[.int .i64 er3, .int .i64 0, .int .i64 (L3.length : Int), .slice a1 n1 c1, .slice a2 L3.length c2, .slice a3 n3 c3, .slice a4 n4 c4] 40)
    have RP3 : Hid (RpK (w11.alloc (.cells #[.int .i64 er3, .int .i64 0, .int .i64 (L3.length : Int), .slice a1 n1 c1, .slice a2 L3.length c2, .slice a3 n3 c3, .slice a4 n4 c4] 40)) col3 w11.heap.size er3 (L3.length : Int) (.slice a2 L3.length c2) L3) := ⟨⟨_, _, _, heapNew w11 _⟩, bd11.ds.dk.none (Nat.le_refl _), ownLow (ownBl row3 k11) (Nat.zero_le _), no3⟩
    have DL3 := hidp ((DL10.out.step bd11 st11).later k11)
    have RP1 := hidp (((HR1.out.later HB10.out).step st11).later k11)
    have RP2 := hidp (((HR2.out.later HB10.out).step st11).later k11)
    clear row3 bd11 st11 no3 EX k11 DL10 HB10 HR1 HR2 HDL
    generalize w11.alloc (.cells #[.int .i64 er3, .int .i64 0, .int .i64 (L3.length : Int), .slice a1 n1 c1, .slice a2 L3.length c2, .slice a3 n3 c3, .slice a4 n4 c4] 40) = Y3 at *
    generalize w11.heap.size = R3 at *
    obtain ⟨e1a, e1b, e1c⟩ := RP1.out.cells
    obtain ⟨e2a, e2b, e2c⟩ := RP2.out.cells
    obtain ⟨e3a, e3b, e3c⟩ := RP3.out.cells
    have bt : (tt != tt) = false := by simp
    have bu : (uu != uu) = false := by simp
    go_upto_region 16 with fail
    go_upto_region 17 with fail
    go_loopw [16] (fun v wr => ∃ j : Nat, j ≤ tt.toNat ∧ v = .int .i64 j ∧ SameW Y3 wr) (fun v _ => tt.toNat - (intOf v).toNat)
    case atStart => exact ⟨0, Nat.zero_le _, rfl, rfl⟩
    case round =>
      obtain ⟨j, hj, rfl, hsw⟩ := hrel
      have hsw' : Y3 = wr := Eq.symm hsw
      clear hsw
      subst hsw'
      by_cases hlt : j < tt.toNat
      · have hlt' : (j : Int) < tt := by omega
        obtain ⟨g, rfl, a0⟩ := row_at RP1.out.row j (by rw [Rd.prog_len]; exact hlt)
        rw [Rd.prog_get] at a0
        have hm1 : 0 ≤ (j : Int) * nn := Int.mul_nonneg (by omega) (by omega)
        have hm2 : (j : Int) * nn ≤ 40 * 6 := Int.mul_le_mul (by omega) hn2' (by omega) (by omega)
        have k1 : IntKind.i64.wrap ((j : Int) * nn) = (j : Int) * nn := wrap_small (by omega) (by omega)
        have k2 : IntKind.i64.wrap (dd + (j : Int) * nn) = dd + (j : Int) * nn := wrap_small (by omega) (by omega)
        have bb : (dd + (j : Int) * nn != dd + (j : Int) * nn) = false := by simp
        go_wp2_with fail
        go_roundw
        case rel => exact ⟨j + 1, by omega, by go_num, rfl⟩
        case measure => simp [intOf]; omega
      · have hlt' : ¬ (j : Int) < tt := by omega
        go_upto_region 22 with fail
        clear hlt hlt' hj e1a e1b e1c
        go_loopw [17] (fun v wx => ∃ j : Nat, j ≤ uu.toNat ∧ v = .int .i64 j ∧ SameW Y3 wx) (fun v _ => uu.toNat - (intOf v).toNat)
        case atStart => exact ⟨0, Nat.zero_le _, rfl, rfl⟩
        case round =>
          obtain ⟨j, hj, rfl, hsw⟩ := hrel
          have hsw' : Y3 = wr := Eq.symm hsw
          clear hsw
          subst hsw'
          by_cases hlt : j < uu.toNat
          · have hlt' : (j : Int) < uu := by omega
            obtain ⟨g, rfl, a0⟩ := row_at RP2.out.row j (by rw [Rd.prog_len]; exact hlt)
            rw [Rd.prog_get] at a0
            have hm1 : 0 ≤ 7 * (j : Int) * nn := Int.mul_nonneg (by omega) (by omega)
            have hm2 : 7 * (j : Int) * nn ≤ 63 * 6 := Int.mul_le_mul (by omega) hn2' (by omega) (by omega)
            have hm3 : (j : Int) * (7 * nn) = 7 * (j : Int) * nn := by rw [← Int.mul_assoc, Int.mul_comm (j : Int) 7]
            rw [hm3] at a0
            have k0 : IntKind.i64.wrap (7 * (j : Int)) = 7 * (j : Int) := wrap_small (by omega) (by omega)
            have k1 : IntKind.i64.wrap (7 * (j : Int) * nn) = 7 * (j : Int) * nn := wrap_small (by omega) (by omega)
            have k2 : IntKind.i64.wrap (dd + 7 * (j : Int) * nn) = dd + 7 * (j : Int) * nn := wrap_small (by omega) (by omega)
            have bb : (dd + 7 * (j : Int) * nn != dd + 7 * (j : Int) * nn) = false := by simp
            clear hm3
            go_wp2_with fail
            go_roundw
            case rel => exact ⟨j + 1, by omega, by go_num, rfl⟩
            case measure => simp [intOf]; omega
          · have hlt' : ¬ (j : Int) < uu := by omega
            go_upto_region 26 with fail
            clear hlt hlt' hj e2a e2b e2c
            go_upto_region 28 with fail
            go_loopw [18, 19] (fun vs vi wx => ∃ i : Nat, i ≤ 24 ∧ vi = .int .i64 i ∧ (Rd.moAll 2024 m nn k i).length ≤ 3 ∧ wx.ownsRow Y3.heap.size 3 1 vs (Rd.moAll 2024 m nn k i).length ((Rd.moAll 2024 m nn k i).map (Value.int .i64)) ∧ Below Y3.heap.size Y3 wx) (fun _ vi _ => 24 - (intOf vi).toNat)
            case atStart => exact ⟨0, by omega, rfl, by simp [Rd.moAll], World.ownsRow_nil _ _ _ _, Below.refl _ _⟩
            case round =>
              obtain ⟨i, hi, rfl, hl3, own, hbl⟩ := hrel
              obtain ⟨aw, cw, rfl⟩ := ownSl own
              have OW := hidp own
              have HB := hidp hbl
              clear own hbl
              by_cases hgo : i < 24 ∧ (Rd.moAll 2024 m nn k i).length < 3
              · obtain ⟨hg1, hg2⟩ := hgo
                have hg1' : (i : Int) < 24 := by omega
                have hg2' : ((Rd.moAll 2024 m nn k i).length : Int) < 3 := by omega
                have hm1 : 0 ≤ (i : Int) * nn := Int.mul_nonneg (by omega) (by omega)
                have hm2 : (i : Int) * nn ≤ 24 * 6 := Int.mul_le_mul (by omega) hn2' (by omega) (by omega)
                have k1 : IntKind.i64.wrap (m - 1) = m - 1 := wrap_small (by omega) (by omega)
                have k2 : IntKind.i64.wrap ((i : Int) * nn) = (i : Int) * nn := wrap_small (by omega) (by omega)
                have k3 : IntKind.i64.wrap (m - 1 + (i : Int) * nn) = m - 1 + (i : Int) * nn := wrap_small (by omega) (by omega)
                have k4 : (m - 1 + (i : Int) * nn).tdiv 12 = (m - 1 + (i : Int) * nn) / 12 := Int.tdiv_eq_ediv_of_nonneg (by omega)
                have k5 : IntKind.i64.wrap ((m - 1 + (i : Int) * nn) / 12) = (m - 1 + (i : Int) * nn) / 12 := wrap_small (by omega) (by omega)
                have k6 : IntKind.i64.wrap (2024 + (m - 1 + (i : Int) * nn) / 12) = Rd.moY 2024 m nn i := by unfold Rd.moY; exact wrap_small (by omega) (by omega)
                have k7 : (m - 1 + (i : Int) * nn).tmod 12 = (m - 1 + (i : Int) * nn) % 12 := Int.tmod_eq_emod_of_nonneg (by omega)
                have k8 : IntKind.i64.wrap ((m - 1 + (i : Int) * nn) % 12) = (m - 1 + (i : Int) * nn) % 12 := wrap_small (by omega) (by omega)
                have k9 : IntKind.i64.wrap (1 + (m - 1 + (i : Int) * nn) % 12) = Rd.moM m nn i := by unfold Rd.moM; exact wrap_small (by omega) (by omega)
                have TB := hidp ((DL3.out.bd.env.later HB.out).tab)
                have ML : Hid (Rd.moAll 2024 m nn k (i + 1) = Rd.moAll 2024 m nn k i ++ Rd.moL 2024 m nn k i) := rfl
                cases hok : Cal.ok (Rd.moY 2024 m nn i) (Rd.moM m nn i) k
                · have DY := hidp (bDay_no (Rd.moY 2024 m nn i) (Rd.moM m nn i) k wr TB.out hok)
                  have HN : Hid (Rd.moAll 2024 m nn k (i + 1) = Rd.moAll 2024 m nn k i) := by
                    show _ = _
                    rw [ML.out]; unfold Rd.moL; rw [if_neg (by rw [hok]; simp)]; simp
                  clear hok hm1 hm2
                  go_upto_region 31 with (first
                    | (go_at_call 33; refine DY.out.mono ?_; rintro e wx ⟨rfl, rfl⟩))
                  go_wp2_with fail
                  go_roundw
                  case rel => exact ⟨i + 1, by omega, by go_num, by rw [HN.out]; exact hl3, by rw [HN.out]; exact OW.out, HB.out⟩
                  case measure => simp [intOf]; omega
                · have DY := hidp (bDay_yes (Rd.moY 2024 m nn i) (Rd.moM m nn i) k wr TB.out hok)
                  by_cases h728 : Cal.num (Rd.moY 2024 m nn i) (Rd.moM m nn i) k < 728
                  · have HN : Hid (Rd.moAll 2024 m nn k (i + 1) = Rd.moAll 2024 m nn k i ++ [Cal.num (Rd.moY 2024 m nn i) (Rd.moM m nn i) k]) := by
                      show _ = _
                      rw [ML.out]; unfold Rd.moL; rw [if_pos ⟨hok, h728⟩]
                    clear hok hm1 hm2 ML
                    generalize Cal.num (Rd.moY 2024 m nn i) (Rd.moM m nn i) k = z at *
                    go_upto_region 31 with (first
                      | (go_at_call 33; refine DY.out.mono ?_; rintro e wx ⟨rfl, rfl⟩))
                    have hsz : Y3.heap.size ≤ wx.heap.size := HB.out.size
                    clear k1 k2 k3 k4 k5 k6 k7 k8 k9
                    go_wp2_with (first
                      | (at_builtin; refine wpList_append_lies _ rfl _ _ 38 rfl Y3.heap.size 3 i0 _ 1 8 Tryz.underlying38 hi0 hz0 hz1 hz2 rfl (by decide) _ _ _ rfl (OW.out.alloc _) ⟨wx.heap.size, 0, none⟩ 1 1 [.int .i64 z] rfl rfl (cell_one_new _ _ _) (by simp [Value.oneCell']) (by omega) (by unfold maxLen; omega) (by omega) (by simp; omega) (wx.heap.size + 1) (by simp) ?_; intro g2 cap2 w3 hown hgrow hat hlt2))
                    have HW : Hid (w3.ownsRow Y3.heap.size 3 1 (.slice (some ⟨g2, 0, none⟩) ((Rd.moAll 2024 m nn k i).length + 1) cap2) ((Rd.moAll 2024 m nn k i).length + 1) ((Rd.moAll 2024 m nn k i).map (Value.int .i64) ++ [.int .i64 z]) ∧ Below Y3.heap.size Y3 w3) := ⟨hown, (HB.out.alloc hsz _).grown hgrow (by simp; omega) (fun b hb => (OW.out.lt b hb).1)⟩
                    clear hown hgrow hat hlt2
                    go_wp2_with fail
                    go_roundw
                    case rel => exact ⟨i + 1, by omega, by go_num, by rw [HN.out, List.length_append]; simp; omega, by rw [HN.out, List.length_append, List.map_append]; exact HW.out.1, HW.out.2⟩
                    case measure => simp [intOf]; omega
                  · have HN : Hid (Rd.moAll 2024 m nn k (i + 1) = Rd.moAll 2024 m nn k i) := by
                      show _ = _
                      rw [ML.out]; unfold Rd.moL; rw [if_neg (fun h => h728 h.2)]; simp
                    clear hok hm1 hm2 ML
                    generalize Cal.num (Rd.moY 2024 m nn i) (Rd.moM m nn i) k = z at *
                    go_upto_region 31 with (first
                      | (go_at_call 33; refine DY.out.mono ?_; rintro e wx ⟨rfl, rfl⟩))
                    go_wp2_with fail
                    go_roundw
                    case rel => exact ⟨i + 1, by omega, by go_num, by rw [HN.out]; exact hl3, by rw [HN.out]; exact OW.out, HB.out⟩
                    case measure => simp [intOf]; omega
              · have WE := hidp (want_end hi hl3 (by omega))
                have hML : Hid (Rd.moAll 2024 m nn k 24 = M) := HM.out.symm
                rw [hML.out] at WE
                have e3a' := cellLater HB.out e3a
                have e3c' := cellLater HB.out e3c
                have BF : Hid (Below w.heap.size w wr) := DL3.out.bl.trans (HB.out.mono DL3.out.bl.size)
                generalize Rd.moAll 2024 m nn k i = wl at *
                have R3W : Hid (wr.ownsRow 0 3 1 (.slice a2 L3.length c2) L3.length (L3.map (Value.int .i64))) := ownBl RP3.out.row HB.out
                by_cases hM3 : M.length < 3
                · have hw3 : (wl.length : Int) < 3 := by have := WE.out.2.1 hM3; omega
                  have h24 : ¬ (i : Int) < 24 := by have := WE.out.2.1 hM3; omega
                  obtain ⟨q6, q7⟩ := HE3.out.1 hM3
                  subst q6
                  subst q7
                  clear hgo hM3
                  go_wp2_with fail
                  go_ret
                  exact ⟨rfl, BF.out⟩
                · have hw3 : ¬ (wl.length : Int) < 3 := by have := mt WE.out.2.2 hM3; omega
                  obtain ⟨q6, q7⟩ := HE3.out.2 hM3
                  have q8 : L3 = wl := q7.trans WE.out.1
                  have SI := hidp (sameInts_any L3 wl _ _ 0 Y3.heap.size wr R3W.out OW.out (by rw [q8]; omega))
                  have q9 : decide (L3 = wl) = true := by simpa using q8
                  rw [q9] at SI
                  subst q6
                  clear hgo hM3 q7 q8 q9
                  by_cases h24 : i < 24
                  · have h24' : (i : Int) < 24 := by omega
                    clear h24
                    go_wp2_with fail
                    refine SI.out.mono ?_
                    rintro e wz ⟨rfl, hbz⟩
                    have e3z := cellLater hbz e3a'
                    clear SI
                    go_wp2_with fail
                    go_ret
                    exact ⟨rfl, BF.out.trans (hbz.mono BF.out.size)⟩
                  · have h24' : ¬ (i : Int) < 24 := by omega
                    clear h24
                    go_wp2_with fail
                    refine SI.out.mono ?_
                    rintro e wz ⟨rfl, hbz⟩
                    have e3z := cellLater hbz e3a'
                    clear SI
                    go_wp2_with fail
                    go_ret
                    exact ⟨rfl, BF.out.trans (hbz.mono BF.out.size)⟩
  exact days12 _ _ _ _ _ _ _ _ _ _ _ _ _ _ _ _ _ _ _ _ _ _ _ _ _ _ _ _ _ _ _ _ _ _ _ _ _ _ _ _ _ _ hq hi (by omega) (by rw [← Int.tmod_eq_emod_of_nonneg (by omega)]; exact t9) (by omega) (by omega) hws hFTs AC NA.out NB.out EX.out BD6.out RP1.out (fun u65 u66 u67 u68 u69 u70 u71 u72 u73 u74 u75 u76 u77 u78 u79 u80 u81 u82 u83 R2 W r2 col2 x2 y2 k1 k2 k3 => KK _ _ _ _ _ _ _ _ _ _ _ _ _ _ _ _ _ _ _ _ _ _ _ _ _ _ _ _ _ _ _ _ _ _ _ _ _ _ _ _ _ _ u65 u66 u67 u68 u69 u70 u71 u72 u73 u74 u75 u76 u77 u78 u79 u80 u81 u82 u83 _ R2 W r2 col2 _ x2 _ y2 k1 k2 k3)

end Go.Proofs.YtjfkfiffakbagaaGreatDoor

