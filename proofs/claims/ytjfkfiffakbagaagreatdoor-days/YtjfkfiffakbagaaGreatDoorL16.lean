/-
  The lines that Days writes, and what they read.
-/
import Derived.Test.YtjfkfiffakbagaaGreatDoorL15
namespace Go.Proofs.YtjfkfiffakbagaaGreatDoor
open Go.RowKit

def dateW (m k : Int) : ByteArray := (⟨#[50, 48, 50, 52, 45]⟩ : ByteArray) ++ twoS m ++ (⟨#[45]⟩ : ByteArray) ++ twoS k
def fromS (m k : Int) : ByteArray := ((((⟨#[32, 102, 114, 111, 109, 32, 50, 48, 50, 52, 45]⟩ : ByteArray) ++ twoS m) ++ (⟨#[45]⟩ : ByteArray)) ++ twoS k) ++ (⟨#[32, 97, 116, 32, 48, 48, 58, 48, 48, 32, 102, 111, 114, 32, 49, 32, 116, 105, 109, 101, 115, 32]⟩ : ByteArray)
def lineD (n m k t : Int) : ByteArray := (((⟨#[101, 120, 112, 97, 110, 100, 32, 100, 97, 105, 108, 121, 32]⟩ : ByteArray) ++ Txt.itoaS n) ++ fromS m k) ++ Txt.itoaS t
def lineW (n : Int) (wd : ByteArray) (m k t : Int) : ByteArray := (((((⟨#[101, 120, 112, 97, 110, 100, 32, 119, 101, 101, 107, 108, 121, 32]⟩ : ByteArray) ++ Txt.itoaS n) ++ (⟨#[32]⟩ : ByteArray)) ++ wd) ++ fromS m k) ++ Txt.itoaS t
def lineM (n m k : Int) : ByteArray := (((⟨#[101, 120, 112, 97, 110, 100, 32, 109, 111, 110, 116, 104, 108, 121, 32]⟩ : ByteArray) ++ Txt.itoaS n) ++ fromS m k) ++ (⟨#[51]⟩ : ByteArray)

theorem date_all : ((List.range 13).all fun m => (List.range 32).all fun k => !(Cal.ok 2024 m k) || (Txt.dayB (dateW m k) && decide (dayV (dateW m k) = Cal.num 2024 m k) && Txt.wordB (dateW m k).data.toList && decide ((twoS m).size = 2) && decide ((twoS k).size = 2))) = true := by decide +kernel
theorem date_is {m k : Int} (h : Cal.ok 2024 m k = true) : Txt.dayB (dateW m k) = true ∧ dayV (dateW m k) = Cal.num 2024 m k ∧ Txt.wordB (dateW m k).data.toList = true ∧ (twoS m).size = 2 ∧ (twoS k).size = 2 := by
  obtain ⟨h1, h2, h3, h4, h5, h6⟩ := (Cal.ok_iff 2024 m k).1 h
  have hd := Cal.dim_bd 2024 m
  obtain ⟨m', rfl⟩ : ∃ m' : Nat, m = m' := ⟨m.toNat, by omega⟩
  obtain ⟨k', rfl⟩ : ∃ k' : Nat, k = k' := ⟨k.toNat, by omega⟩
  have e1 := List.all_eq_true.1 date_all m' (List.mem_range.2 (by omega))
  have e2 := List.all_eq_true.1 e1 k' (List.mem_range.2 (by omega))
  rw [h] at e2
  simp only [Bool.not_true, Bool.false_or, Bool.and_eq_true, decide_eq_true_eq] at e2
  exact ⟨e2.1.1.1.1, e2.1.1.1.2, e2.1.1.2, e2.1.2, e2.2⟩

theorem ev_is {n : Int} (h0 : 1 ≤ n) (h1 : n ≤ 99) : evB (Txt.itoaS n) = true ∧ nvF (Txt.itoaS n) = n ∧ Txt.wordB (Txt.itoaS n).data.toList = true := by
  obtain ⟨a, b⟩ := Txt.itoa_num (n := n) (by omega) (by omega)
  refine ⟨?_, b, Txt.itoa_word (by omega)⟩
  unfold evB withinB
  rw [a, b]; simp [h0, h1]

def midW : ByteArray := (⟨#[48, 48, 58, 48, 48]⟩ : ByteArray)
def oneW : ByteArray := (⟨#[49]⟩ : ByteArray)
theorem mid_is : Txt.minB midW = true ∧ Txt.minV midW = 0 ∧ Txt.wordB midW.data.toList = true := by decide +kernel
theorem one_is : miB oneW = true ∧ nvF oneW = 1 ∧ Txt.wordB oneW.data.toList = true := by decide +kernel
theorem lits_is : Txt.wordB expandW.data.toList = true ∧ Txt.wordB dailyW.data.toList = true ∧ Txt.wordB weeklyW.data.toList = true ∧ Txt.wordB monthlyW.data.toList = true ∧ Txt.wordB fromW.data.toList = true ∧ Txt.wordB atW.data.toList = true ∧ Txt.wordB forW.data.toList = true ∧ Txt.wordB timesW.data.toList = true := by decide +kernel

theorem lineD_reads {n m k d t : Int} (hok : Cal.ok 2024 m k = true) (hnum : Cal.num 2024 m k = d) (hn1 : 1 ≤ n) (hn2 : n ≤ 99) (ht1 : 1 ≤ t) (ht2 : t ≤ 99) :
    ∀ e, ReadR (lineD n m k t) e → e = .returned (.tuple #[.iface 174 (ruleVR (Rd.dailyR n d t)), .int .i64 0, .int .i64 0]) := by
  obtain ⟨d1, d2, d3, d4, d5⟩ := date_is hok
  obtain ⟨n1, n2, n3⟩ := ev_is hn1 hn2
  obtain ⟨t1, t2, t3⟩ := ev_is ht1 ht2
  obtain ⟨m1, m2, m3⟩ := mid_is
  obtain ⟨o1, o2, o3⟩ := one_is
  obtain ⟨l1, l2, l3, l4, l5, l6, l7, l8⟩ := lits_is
  have hw : Txt.wordsS (lineD n m k t) = [expandW, dailyW, Txt.itoaS n, fromW, dateW m k, atW, midW, forW, oneW, timesW, Txt.itoaS t] := by
    refine Txt.words_text ?_ ?_
    · simp only [lineD, fromS, dateW, Txt.append_list, List.map_cons, List.map_nil, Txt.jb_cons2, Txt.jb_one, List.append_assoc]
      rfl
    · intro x hx
      simp only [List.mem_cons, List.not_mem_nil, or_false] at hx
      rcases hx with rfl | rfl | rfl | rfl | rfl | rfl | rfl | rfl | rfl | rfl | rfl <;> assumption
  have hs : (lineD n m k t).size ≤ 160 := by
    have a := Txt.itoa_size n (by omega) (by omega)
    have b := Txt.itoa_size t (by omega) (by omega)
    have e : (lineD n m k t).size = 13 + (Txt.itoaS n).size + (11 + (twoS m).size + 1 + (twoS k).size + 22) + (Txt.itoaS t).size := by
      simp only [lineD, fromS, ByteArray.size_append]; rfl
    omega
  have h := expand_reads hw hs rfl (c := 3) ⟨rfl, rfl, rfl, rfl, rfl, rfl, rfl, rfl, d1, m1, o1, t1, rfl⟩ (pace_daily (c := 1) rfl rfl n1)
  rw [d2, hnum, m2, o2, t2, n2] at h
  exact h

theorem lineM_reads {n m k d : Int} (hok : Cal.ok 2024 m k = true) (hnum : Cal.num 2024 m k = d) (hn1 : 1 ≤ n) (hn2 : n ≤ 99) :
    ∀ e, ReadR (lineM n m k) e → e = .returned (.tuple #[.iface 174 (ruleVR (Rd.monthlyR n d 3)), .int .i64 0, .int .i64 0]) := by
  obtain ⟨d1, d2, d3, d4, d5⟩ := date_is hok
  obtain ⟨n1, n2, n3⟩ := ev_is hn1 hn2
  obtain ⟨m1, m2, m3⟩ := mid_is
  obtain ⟨o1, o2, o3⟩ := one_is
  obtain ⟨l1, l2, l3, l4, l5, l6, l7, l8⟩ := lits_is
  have t1 : evB (⟨#[51]⟩ : ByteArray) = true := by decide +kernel
  have t2 : nvF (⟨#[51]⟩ : ByteArray) = 3 := by decide +kernel
  have t3 : Txt.wordB (⟨#[51]⟩ : ByteArray).data.toList = true := by decide +kernel
  have hw : Txt.wordsS (lineM n m k) = [expandW, monthlyW, Txt.itoaS n, fromW, dateW m k, atW, midW, forW, oneW, timesW, (⟨#[51]⟩ : ByteArray)] := by
    refine Txt.words_text ?_ ?_
    · simp only [lineM, fromS, dateW, Txt.append_list, List.map_cons, List.map_nil, Txt.jb_cons2, Txt.jb_one, List.append_assoc]
      rfl
    · intro x hx
      simp only [List.mem_cons, List.not_mem_nil, or_false] at hx
      rcases hx with rfl | rfl | rfl | rfl | rfl | rfl | rfl | rfl | rfl | rfl | rfl <;> assumption
  have hs : (lineM n m k).size ≤ 160 := by
    have a := Txt.itoa_size n (by omega) (by omega)
    have e : (lineM n m k).size = 15 + (Txt.itoaS n).size + (11 + (twoS m).size + 1 + (twoS k).size + 22) + 1 := by
      simp only [lineM, fromS, ByteArray.size_append]; rfl
    omega
  have h := expand_reads hw hs rfl (c := 3) ⟨rfl, rfl, rfl, rfl, rfl, rfl, rfl, rfl, d1, m1, o1, t1, rfl⟩ (pace_monthly (c := 1) rfl rfl n1)
  rw [d2, hnum, m2, o2, t2, n2] at h
  exact h

theorem lineW_reads {n m k d t : Int} {wd : ByteArray} {acc : List Int} (hok : Cal.ok 2024 m k = true) (hnum : Cal.num 2024 m k = d) (hn1 : 1 ≤ n) (hn2 : n ≤ 99) (ht1 : 1 ≤ t) (ht2 : t ≤ 99) (hon : Txt.onW wd = some acc) (hwd : Txt.wordB wd.data.toList = true) (hws : wd.size = 2) :
    ∀ e, ReadR (lineW n wd m k t) e → e = .returned (.tuple #[.iface 174 (ruleVR ⟨2, n, acc, d, 0, 1, t, 0⟩), .int .i64 0, .int .i64 0]) := by
  obtain ⟨d1, d2, d3, d4, d5⟩ := date_is hok
  obtain ⟨n1, n2, n3⟩ := ev_is hn1 hn2
  obtain ⟨t1, t2, t3⟩ := ev_is ht1 ht2
  obtain ⟨m1, m2, m3⟩ := mid_is
  obtain ⟨o1, o2, o3⟩ := one_is
  obtain ⟨l1, l2, l3, l4, l5, l6, l7, l8⟩ := lits_is
  have hw : Txt.wordsS (lineW n wd m k t) = [expandW, weeklyW, Txt.itoaS n, wd, fromW, dateW m k, atW, midW, forW, oneW, timesW, Txt.itoaS t] := by
    refine Txt.words_text ?_ ?_
    · simp only [lineW, fromS, dateW, Txt.append_list, List.map_cons, List.map_nil, Txt.jb_cons2, Txt.jb_one, List.append_assoc]
      rfl
    · intro x hx
      simp only [List.mem_cons, List.not_mem_nil, or_false] at hx
      rcases hx with rfl | rfl | rfl | rfl | rfl | rfl | rfl | rfl | rfl | rfl | rfl | rfl <;> assumption
  have hs : (lineW n wd m k t).size ≤ 160 := by
    have a := Txt.itoa_size n (by omega) (by omega)
    have b := Txt.itoa_size t (by omega) (by omega)
    have e : (lineW n wd m k t).size = 14 + (Txt.itoaS n).size + 1 + wd.size + (11 + (twoS m).size + 1 + (twoS k).size + 22) + (Txt.itoaS t).size := by
      simp only [lineW, fromS, ByteArray.size_append]; rfl
    omega
  have h := expand_reads hw hs rfl (c := 4) ⟨rfl, rfl, rfl, rfl, rfl, rfl, rfl, rfl, d1, m1, o1, t1, rfl⟩ (pace_weekly (c := 1) rfl rfl rfl n1 hon)
  rw [d2, hnum, m2, o2, t2, n2] at h
  exact h

end Go.Proofs.YtjfkfiffakbagaaGreatDoor

