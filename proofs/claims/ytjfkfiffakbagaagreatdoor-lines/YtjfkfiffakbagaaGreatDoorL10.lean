/-
  The reader's line and the document's patterns say the same: of a line that is none, and where; of one that is, its words.
-/
import Derived.Test.YtjfkfiffakbagaaGreatDoorL09
namespace Go.Proofs.YtjfkfiffakbagaaGreatDoor
open Go.RowKit

theorem stps_nil (ws : List ByteArray) (st : Nat × Bool) : stps ws [] st = st := rfl
theorem val1 {ws Q R : List ByteArray} {k s : ByteArray} {n : Nat} (h : isB ws 0 false k = true) (hk : plainB k = true) (hall : stps ws ((k :: (Q ++ s :: R)).map fitsB) (0, false) = (n, false)) (V : ByteArray → Int) : valAt ws (stps ws (Q.map fitsB) (1, false)) (fitsB s) V = V (ws.getD (Q.length + 1) ByteArray.empty) := by
  rw [st1 h hk]; exact val_at (Q := k :: Q) hall V
theorem fit1 {ws : List ByteArray} (Q : List ByteArray) {R : List ByteArray} {k s : ByteArray} {n : Nat} (hall : stps ws ((k :: (Q ++ s :: R)).map fitsB) (0, false) = (n, false)) : fitsB s (ws.getD (Q.length + 1) ByteArray.empty) = true := fit_at (Q := k :: Q) hall
theorem name1 {ws R : List ByteArray} {k : ByteArray} {n : Nat} (hall : stps ws ((k :: nameY :: R).map fitsB) (0, false) = (n, false)) : claimS ws (1, false) = ws.getD 1 ByteArray.empty := by
  have h := fit_of (Q := [k]) (s := nameY) (R := R) hall
  rw [fitN] at h
  have h2 := (tkB_true h).2.2
  unfold claimS tkS
  rw [if_pos (show tkB ws 1 false (fun s => Txt.isName s.data.toList) = true from h)]
  exact name_v h2
/-- What is known of a line that stands for a pattern. -/
structure Full (s : ByteArray) (p : List ByteArray) : Prop where
  sc : scanS s = (some p, 0)
  all : stps (Txt.wordsS s) (p.map fitsB) (0, false) = (p.length, false)
  len : (Txt.wordsS s).length = p.length
theorem full_of {s k : ByteArray} {ps : List (List ByteArray)} {q : List ByteArray} {st : Nat × Bool} (h : isB (Txt.wordsS s) 0 false k = true) (hf : patsX.filter (headF k) = ps) (hS : Sum ps (Txt.wordsS s) st q) (hst : stps (Txt.wordsS s) (q.map fitsB) (0, false) = st) (h2 : st.2 = false) (hm : moreB (Txt.wordsS s).length st.1 st.2 = false) : Full s q := by
  obtain ⟨t, ht⟩ := head_of h
  obtain ⟨n, b⟩ := st
  have hl := hS.at_
  have hp := (pre_le q (Txt.wordsS s)).2
  have hn : ¬ n < (Txt.wordsS s).length := by simpa [moreB, show b = false from h2] using hm
  have h2' : b = false := h2
  subst h2'
  have hok := ok_of hst
  refine ⟨(scan_kind ht).trans (by rw [hf]; exact hS.yes rfl hm), by rw [hst, hok], ?_⟩
  have : pre q (Txt.wordsS s) = n := hl
  omega
theorem none_of {s k : ByteArray} {ps : List (List ByteArray)} {q : List ByteArray} {st : Nat × Bool} (h : isB (Txt.wordsS s) 0 false k = true) (hf : patsX.filter (headF k) = ps) (hS : Sum ps (Txt.wordsS s) st q) (hb : st.2 = true ∨ moreB (Txt.wordsS s).length st.1 st.2 = true) : scanS s = (none, st.1) := by
  obtain ⟨t, ht⟩ := head_of h
  rw [scan_kind ht, hf]
  exact hS.no hb
theorem head_w {ws : List ByteArray} {k : ByteArray} (h : isB ws 0 false k = true) : ws.getD 0 ByteArray.empty = k := by
  obtain ⟨t, ht⟩ := head_of h
  rw [ht]; rfl
theorem out_list {s : ByteArray} {p xs : List ByteArray} {n : Nat} (hF : Full s p) (hn : p.length = n) (hx : (List.range n).map (fun j => wrS (p.getD j ByteArray.empty) ((Txt.wordsS s).getD j ByteArray.empty)) = xs) : outR p (Txt.wordsS s) (Txt.wordsS s).length = jn xs := by
  rw [outR_jn, hF.len, hn, hx]
/-- A line that is none: the document's patterns say so too, and where. -/
def NoneS (s : ByteArray) (st : Nat × Bool) : Prop := st.2 = true ∨ moreB (Txt.wordsS s).length st.1 st.2 = true → scanS s = (none, st.1)
/-- A line that is one: the words of its plain form are the document's. -/
def SameS (s : ByteArray) (v : Value) (st : Nat × Bool) : Prop := st.2 = false → moreB (Txt.wordsS s).length st.1 st.2 = false → ∃ p xs, scanS s = (some p, 0) ∧ PW v xs ∧ 0 < xs.length ∧ xs.length ≤ 20 ∧ outR p (Txt.wordsS s) (Txt.wordsS s).length = jn xs

theorem thing_none {s : ByteArray} (h : isB (Txt.wordsS s) 0 false thingW = true) : NoneS s (stps (Txt.wordsS s) [nmB, unB] (1, false)) := by
  have hk : plainB thingW = true := by decide +kernel
  have hf : patsX.filter (headF thingW) = [[thingW, nameY, unitsY]] := by decide +kernel
  have hst : stps (Txt.wordsS s) ([thingW, nameY, unitsY].map fitsB) (0, false) = stps (Txt.wordsS s) [nmB, unB] (1, false) := by
    rw [← st1 h hk]; simp only [List.map, fitN, fitU]
  exact none_of h hf (sum_one hst)
theorem thing_same {s : ByteArray} (h : isB (Txt.wordsS s) 0 false thingW = true) : SameS s (.iface 143 (.agg #[.string (claimS (Txt.wordsS s) (1, false)), .int .i64 (valAt (Txt.wordsS s) (stps (Txt.wordsS s) [nmB] (1, false)) unB nvF)])) (stps (Txt.wordsS s) [nmB, unB] (1, false)) := by
  intro h2 hm
  have hk : plainB thingW = true := by decide +kernel
  have hf : patsX.filter (headF thingW) = [[thingW, nameY, unitsY]] := by decide +kernel
  have hst : stps (Txt.wordsS s) ([thingW, nameY, unitsY].map fitsB) (0, false) = stps (Txt.wordsS s) [nmB, unB] (1, false) := by
    rw [← st1 h hk]; simp only [List.map, fitN, fitU]
  have hF := full_of h hf (sum_one hst) hst h2 hm
  have v0 := name1 hF.all
  have v1 := val1 (Q := [nameY]) (s := unitsY) (R := []) h hk hF.all nvF
  have f1 := fit1 [nameY] (s := unitsY) (R := []) hF.all
  simp only [List.map, List.length, fitN, fitU] at v1 f1
  rw [v0, v1]
  refine ⟨_, [thingW, ((Txt.wordsS s).getD 1 ByteArray.empty), Txt.itoaS (nvF ((Txt.wordsS s).getD 2 ByteArray.empty))], hF.sc, .thing _ _ (nv_bd ((Txt.wordsS s).getD 2 ByteArray.empty)).1 (nv_bd ((Txt.wordsS s).getD 2 ByteArray.empty)).2, by simp, by simp, out_list (n := 3) hF rfl ?_⟩
  show [wrS thingW ((Txt.wordsS s).getD 0 ByteArray.empty), wrS nameY ((Txt.wordsS s).getD 1 ByteArray.empty), wrS unitsY ((Txt.wordsS s).getD 2 ByteArray.empty)] = _
  rw [wrL thingW _ hk, head_w h, wrN, wrU _ f1]
theorem book_none {s : ByteArray} (h : isB (Txt.wordsS s) 0 false bookW = true) : NoneS s (stps (Txt.wordsS s) [nmB, unB, timeB, timeB] (1, false)) := by
  have hk : plainB bookW = true := by decide +kernel
  have hf : patsX.filter (headF bookW) = [[bookW, nameY, unitsY, timeY, timeY]] := by decide +kernel
  have hst : stps (Txt.wordsS s) ([bookW, nameY, unitsY, timeY, timeY].map fitsB) (0, false) = stps (Txt.wordsS s) [nmB, unB, timeB, timeB] (1, false) := by
    rw [← st1 h hk]; simp only [List.map, fitN, fitU, fitT]
  exact none_of h hf (sum_one hst)
theorem book_same {s : ByteArray} (h : isB (Txt.wordsS s) 0 false bookW = true) : SameS s (.iface 148 (.agg #[.string (claimS (Txt.wordsS s) (1, false)), .int .i64 (valAt (Txt.wordsS s) (stps (Txt.wordsS s) [nmB] (1, false)) unB nvF), .int .i64 (valAt (Txt.wordsS s) (stps (Txt.wordsS s) [nmB, unB] (1, false)) timeB timW), .int .i64 (valAt (Txt.wordsS s) (stps (Txt.wordsS s) [nmB, unB, timeB] (1, false)) timeB timW)])) (stps (Txt.wordsS s) [nmB, unB, timeB, timeB] (1, false)) := by
  intro h2 hm
  have hk : plainB bookW = true := by decide +kernel
  have hf : patsX.filter (headF bookW) = [[bookW, nameY, unitsY, timeY, timeY]] := by decide +kernel
  have hst : stps (Txt.wordsS s) ([bookW, nameY, unitsY, timeY, timeY].map fitsB) (0, false) = stps (Txt.wordsS s) [nmB, unB, timeB, timeB] (1, false) := by
    rw [← st1 h hk]; simp only [List.map, fitN, fitU, fitT]
  have hF := full_of h hf (sum_one hst) hst h2 hm
  have v0 := name1 hF.all
  have v1 := val1 (Q := [nameY]) (s := unitsY) (R := [timeY, timeY]) h hk hF.all nvF
  have f1 := fit1 [nameY] (s := unitsY) (R := [timeY, timeY]) hF.all
  simp only [List.map, List.length, fitN, fitU] at v1 f1
  have v2 := val1 (Q := [nameY, unitsY]) (s := timeY) (R := [timeY]) h hk hF.all timW
  have f2 := fit1 [nameY, unitsY] (s := timeY) (R := [timeY]) hF.all
  simp only [List.map, List.length, fitN, fitU, fitT] at v2 f2
  have v3 := val1 (Q := [nameY, unitsY, timeY]) (s := timeY) (R := []) h hk hF.all timW
  have f3 := fit1 [nameY, unitsY, timeY] (s := timeY) (R := []) hF.all
  simp only [List.map, List.length, fitN, fitU, fitT] at v3 f3
  rw [v0, v1, v2, v3]
  refine ⟨_, [bookW, ((Txt.wordsS s).getD 1 ByteArray.empty), Txt.itoaS (nvF ((Txt.wordsS s).getD 2 ByteArray.empty)), timeT (timW ((Txt.wordsS s).getD 3 ByteArray.empty)), timeT (timW ((Txt.wordsS s).getD 4 ByteArray.empty))], hF.sc, .book _ _ _ _ (nv_bd ((Txt.wordsS s).getD 2 ByteArray.empty)).1 (nv_bd ((Txt.wordsS s).getD 2 ByteArray.empty)).2 (tim_bd ((Txt.wordsS s).getD 3 ByteArray.empty)).1 (tim_bd ((Txt.wordsS s).getD 3 ByteArray.empty)).2 (tim_bd ((Txt.wordsS s).getD 4 ByteArray.empty)).1 (tim_bd ((Txt.wordsS s).getD 4 ByteArray.empty)).2, by simp, by simp, out_list (n := 5) hF rfl ?_⟩
  show [wrS bookW ((Txt.wordsS s).getD 0 ByteArray.empty), wrS nameY ((Txt.wordsS s).getD 1 ByteArray.empty), wrS unitsY ((Txt.wordsS s).getD 2 ByteArray.empty), wrS timeY ((Txt.wordsS s).getD 3 ByteArray.empty), wrS timeY ((Txt.wordsS s).getD 4 ByteArray.empty)] = _
  rw [wrL bookW _ hk, head_w h, wrN, wrU _ f1, wrT _ f2, wrT _ f3]
theorem hold_none {s : ByteArray} (h : isB (Txt.wordsS s) 0 false holdW = true) : NoneS s (stps (Txt.wordsS s) [nmB, unB, timeB, timeB, miB] (1, false)) := by
  have hk : plainB holdW = true := by decide +kernel
  have hf : patsX.filter (headF holdW) = [[holdW, nameY, unitsY, timeY, timeY, minutesY]] := by decide +kernel
  have hst : stps (Txt.wordsS s) ([holdW, nameY, unitsY, timeY, timeY, minutesY].map fitsB) (0, false) = stps (Txt.wordsS s) [nmB, unB, timeB, timeB, miB] (1, false) := by
    rw [← st1 h hk]; simp only [List.map, fitN, fitU, fitT, fitMi]
  exact none_of h hf (sum_one hst)
theorem hold_same {s : ByteArray} (h : isB (Txt.wordsS s) 0 false holdW = true) : SameS s (.iface 150 (.agg #[.string (claimS (Txt.wordsS s) (1, false)), .int .i64 (valAt (Txt.wordsS s) (stps (Txt.wordsS s) [nmB] (1, false)) unB nvF), .int .i64 (valAt (Txt.wordsS s) (stps (Txt.wordsS s) [nmB, unB] (1, false)) timeB timW), .int .i64 (valAt (Txt.wordsS s) (stps (Txt.wordsS s) [nmB, unB, timeB] (1, false)) timeB timW), .int .i64 (valAt (Txt.wordsS s) (stps (Txt.wordsS s) [nmB, unB, timeB, timeB] (1, false)) miB nvF)])) (stps (Txt.wordsS s) [nmB, unB, timeB, timeB, miB] (1, false)) := by
  intro h2 hm
  have hk : plainB holdW = true := by decide +kernel
  have hf : patsX.filter (headF holdW) = [[holdW, nameY, unitsY, timeY, timeY, minutesY]] := by decide +kernel
  have hst : stps (Txt.wordsS s) ([holdW, nameY, unitsY, timeY, timeY, minutesY].map fitsB) (0, false) = stps (Txt.wordsS s) [nmB, unB, timeB, timeB, miB] (1, false) := by
    rw [← st1 h hk]; simp only [List.map, fitN, fitU, fitT, fitMi]
  have hF := full_of h hf (sum_one hst) hst h2 hm
  have v0 := name1 hF.all
  have v1 := val1 (Q := [nameY]) (s := unitsY) (R := [timeY, timeY, minutesY]) h hk hF.all nvF
  have f1 := fit1 [nameY] (s := unitsY) (R := [timeY, timeY, minutesY]) hF.all
  simp only [List.map, List.length, fitN, fitU] at v1 f1
  have v2 := val1 (Q := [nameY, unitsY]) (s := timeY) (R := [timeY, minutesY]) h hk hF.all timW
  have f2 := fit1 [nameY, unitsY] (s := timeY) (R := [timeY, minutesY]) hF.all
  simp only [List.map, List.length, fitN, fitU, fitT] at v2 f2
  have v3 := val1 (Q := [nameY, unitsY, timeY]) (s := timeY) (R := [minutesY]) h hk hF.all timW
  have f3 := fit1 [nameY, unitsY, timeY] (s := timeY) (R := [minutesY]) hF.all
  simp only [List.map, List.length, fitN, fitU, fitT] at v3 f3
  have v4 := val1 (Q := [nameY, unitsY, timeY, timeY]) (s := minutesY) (R := []) h hk hF.all nvF
  have f4 := fit1 [nameY, unitsY, timeY, timeY] (s := minutesY) (R := []) hF.all
  simp only [List.map, List.length, fitN, fitU, fitT, fitMi] at v4 f4
  rw [v0, v1, v2, v3, v4]
  refine ⟨_, [holdW, ((Txt.wordsS s).getD 1 ByteArray.empty), Txt.itoaS (nvF ((Txt.wordsS s).getD 2 ByteArray.empty)), timeT (timW ((Txt.wordsS s).getD 3 ByteArray.empty)), timeT (timW ((Txt.wordsS s).getD 4 ByteArray.empty)), Txt.itoaS (nvF ((Txt.wordsS s).getD 5 ByteArray.empty))], hF.sc, .hold _ _ _ _ _ (nv_bd ((Txt.wordsS s).getD 2 ByteArray.empty)).1 (nv_bd ((Txt.wordsS s).getD 2 ByteArray.empty)).2 (tim_bd ((Txt.wordsS s).getD 3 ByteArray.empty)).1 (tim_bd ((Txt.wordsS s).getD 3 ByteArray.empty)).2 (tim_bd ((Txt.wordsS s).getD 4 ByteArray.empty)).1 (tim_bd ((Txt.wordsS s).getD 4 ByteArray.empty)).2 (nv_bd ((Txt.wordsS s).getD 5 ByteArray.empty)).1 (nv_bd ((Txt.wordsS s).getD 5 ByteArray.empty)).2, by simp, by simp, out_list (n := 6) hF rfl ?_⟩
  show [wrS holdW ((Txt.wordsS s).getD 0 ByteArray.empty), wrS nameY ((Txt.wordsS s).getD 1 ByteArray.empty), wrS unitsY ((Txt.wordsS s).getD 2 ByteArray.empty), wrS timeY ((Txt.wordsS s).getD 3 ByteArray.empty), wrS timeY ((Txt.wordsS s).getD 4 ByteArray.empty), wrS minutesY ((Txt.wordsS s).getD 5 ByteArray.empty)] = _
  rw [wrL holdW _ hk, head_w h, wrN, wrU _ f1, wrT _ f2, wrT _ f3, wrMi _ f4]
theorem wait_none {s : ByteArray} (h : isB (Txt.wordsS s) 0 false waitW = true) : NoneS s (stps (Txt.wordsS s) [nmB, unB, timeB, timeB, miB] (1, false)) := by
  have hk : plainB waitW = true := by decide +kernel
  have hf : patsX.filter (headF waitW) = [[waitW, nameY, unitsY, timeY, timeY, minutesY]] := by decide +kernel
  have hst : stps (Txt.wordsS s) ([waitW, nameY, unitsY, timeY, timeY, minutesY].map fitsB) (0, false) = stps (Txt.wordsS s) [nmB, unB, timeB, timeB, miB] (1, false) := by
    rw [← st1 h hk]; simp only [List.map, fitN, fitU, fitT, fitMi]
  exact none_of h hf (sum_one hst)
theorem wait_same {s : ByteArray} (h : isB (Txt.wordsS s) 0 false waitW = true) : SameS s (.iface 151 (.agg #[.string (claimS (Txt.wordsS s) (1, false)), .int .i64 (valAt (Txt.wordsS s) (stps (Txt.wordsS s) [nmB] (1, false)) unB nvF), .int .i64 (valAt (Txt.wordsS s) (stps (Txt.wordsS s) [nmB, unB] (1, false)) timeB timW), .int .i64 (valAt (Txt.wordsS s) (stps (Txt.wordsS s) [nmB, unB, timeB] (1, false)) timeB timW), .int .i64 (valAt (Txt.wordsS s) (stps (Txt.wordsS s) [nmB, unB, timeB, timeB] (1, false)) miB nvF)])) (stps (Txt.wordsS s) [nmB, unB, timeB, timeB, miB] (1, false)) := by
  intro h2 hm
  have hk : plainB waitW = true := by decide +kernel
  have hf : patsX.filter (headF waitW) = [[waitW, nameY, unitsY, timeY, timeY, minutesY]] := by decide +kernel
  have hst : stps (Txt.wordsS s) ([waitW, nameY, unitsY, timeY, timeY, minutesY].map fitsB) (0, false) = stps (Txt.wordsS s) [nmB, unB, timeB, timeB, miB] (1, false) := by
    rw [← st1 h hk]; simp only [List.map, fitN, fitU, fitT, fitMi]
  have hF := full_of h hf (sum_one hst) hst h2 hm
  have v0 := name1 hF.all
  have v1 := val1 (Q := [nameY]) (s := unitsY) (R := [timeY, timeY, minutesY]) h hk hF.all nvF
  have f1 := fit1 [nameY] (s := unitsY) (R := [timeY, timeY, minutesY]) hF.all
  simp only [List.map, List.length, fitN, fitU] at v1 f1
  have v2 := val1 (Q := [nameY, unitsY]) (s := timeY) (R := [timeY, minutesY]) h hk hF.all timW
  have f2 := fit1 [nameY, unitsY] (s := timeY) (R := [timeY, minutesY]) hF.all
  simp only [List.map, List.length, fitN, fitU, fitT] at v2 f2
  have v3 := val1 (Q := [nameY, unitsY, timeY]) (s := timeY) (R := [minutesY]) h hk hF.all timW
  have f3 := fit1 [nameY, unitsY, timeY] (s := timeY) (R := [minutesY]) hF.all
  simp only [List.map, List.length, fitN, fitU, fitT] at v3 f3
  have v4 := val1 (Q := [nameY, unitsY, timeY, timeY]) (s := minutesY) (R := []) h hk hF.all nvF
  have f4 := fit1 [nameY, unitsY, timeY, timeY] (s := minutesY) (R := []) hF.all
  simp only [List.map, List.length, fitN, fitU, fitT, fitMi] at v4 f4
  rw [v0, v1, v2, v3, v4]
  refine ⟨_, [waitW, ((Txt.wordsS s).getD 1 ByteArray.empty), Txt.itoaS (nvF ((Txt.wordsS s).getD 2 ByteArray.empty)), timeT (timW ((Txt.wordsS s).getD 3 ByteArray.empty)), timeT (timW ((Txt.wordsS s).getD 4 ByteArray.empty)), Txt.itoaS (nvF ((Txt.wordsS s).getD 5 ByteArray.empty))], hF.sc, .wait _ _ _ _ _ (nv_bd ((Txt.wordsS s).getD 2 ByteArray.empty)).1 (nv_bd ((Txt.wordsS s).getD 2 ByteArray.empty)).2 (tim_bd ((Txt.wordsS s).getD 3 ByteArray.empty)).1 (tim_bd ((Txt.wordsS s).getD 3 ByteArray.empty)).2 (tim_bd ((Txt.wordsS s).getD 4 ByteArray.empty)).1 (tim_bd ((Txt.wordsS s).getD 4 ByteArray.empty)).2 (nv_bd ((Txt.wordsS s).getD 5 ByteArray.empty)).1 (nv_bd ((Txt.wordsS s).getD 5 ByteArray.empty)).2, by simp, by simp, out_list (n := 6) hF rfl ?_⟩
  show [wrS waitW ((Txt.wordsS s).getD 0 ByteArray.empty), wrS nameY ((Txt.wordsS s).getD 1 ByteArray.empty), wrS unitsY ((Txt.wordsS s).getD 2 ByteArray.empty), wrS timeY ((Txt.wordsS s).getD 3 ByteArray.empty), wrS timeY ((Txt.wordsS s).getD 4 ByteArray.empty), wrS minutesY ((Txt.wordsS s).getD 5 ByteArray.empty)] = _
  rw [wrL waitW _ hk, head_w h, wrN, wrU _ f1, wrT _ f2, wrT _ f3, wrMi _ f4]
theorem confirm_none {s : ByteArray} (h : isB (Txt.wordsS s) 0 false confirmW = true) : NoneS s (stps (Txt.wordsS s) [idB] (1, false)) := by
  have hk : plainB confirmW = true := by decide +kernel
  have hf : patsX.filter (headF confirmW) = [[confirmW, idY]] := by decide +kernel
  have hst : stps (Txt.wordsS s) ([confirmW, idY].map fitsB) (0, false) = stps (Txt.wordsS s) [idB] (1, false) := by
    rw [← st1 h hk]; simp only [List.map, fitI]
  exact none_of h hf (sum_one hst)
theorem confirm_same {s : ByteArray} (h : isB (Txt.wordsS s) 0 false confirmW = true) : SameS s (.iface 161 (.agg #[.int .i64 (valAt (Txt.wordsS s) (1, false) idB nvF)])) (stps (Txt.wordsS s) [idB] (1, false)) := by
  intro h2 hm
  have hk : plainB confirmW = true := by decide +kernel
  have hf : patsX.filter (headF confirmW) = [[confirmW, idY]] := by decide +kernel
  have hst : stps (Txt.wordsS s) ([confirmW, idY].map fitsB) (0, false) = stps (Txt.wordsS s) [idB] (1, false) := by
    rw [← st1 h hk]; simp only [List.map, fitI]
  have hF := full_of h hf (sum_one hst) hst h2 hm
  have v0 := val1 (Q := []) (s := idY) (R := []) h hk hF.all nvF
  have f0 := fit1 [] (s := idY) (R := []) hF.all
  simp only [List.map, List.length, stps_nil, fitI] at v0 f0
  rw [v0]
  refine ⟨_, [confirmW, Txt.itoaS (nvF ((Txt.wordsS s).getD 1 ByteArray.empty))], hF.sc, .confirm _ (nv_bd ((Txt.wordsS s).getD 1 ByteArray.empty)).1 (nv_bd ((Txt.wordsS s).getD 1 ByteArray.empty)).2, by simp, by simp, out_list (n := 2) hF rfl ?_⟩
  show [wrS confirmW ((Txt.wordsS s).getD 0 ByteArray.empty), wrS idY ((Txt.wordsS s).getD 1 ByteArray.empty)] = _
  rw [wrL confirmW _ hk, head_w h, wrI _ f0]
theorem cancel_none {s : ByteArray} (h : isB (Txt.wordsS s) 0 false cancelW = true) : NoneS s (stps (Txt.wordsS s) [idB] (1, false)) := by
  have hk : plainB cancelW = true := by decide +kernel
  have hf : patsX.filter (headF cancelW) = [[cancelW, idY]] := by decide +kernel
  have hst : stps (Txt.wordsS s) ([cancelW, idY].map fitsB) (0, false) = stps (Txt.wordsS s) [idB] (1, false) := by
    rw [← st1 h hk]; simp only [List.map, fitI]
  exact none_of h hf (sum_one hst)
theorem cancel_same {s : ByteArray} (h : isB (Txt.wordsS s) 0 false cancelW = true) : SameS s (.iface 162 (.agg #[.int .i64 (valAt (Txt.wordsS s) (1, false) idB nvF)])) (stps (Txt.wordsS s) [idB] (1, false)) := by
  intro h2 hm
  have hk : plainB cancelW = true := by decide +kernel
  have hf : patsX.filter (headF cancelW) = [[cancelW, idY]] := by decide +kernel
  have hst : stps (Txt.wordsS s) ([cancelW, idY].map fitsB) (0, false) = stps (Txt.wordsS s) [idB] (1, false) := by
    rw [← st1 h hk]; simp only [List.map, fitI]
  have hF := full_of h hf (sum_one hst) hst h2 hm
  have v0 := val1 (Q := []) (s := idY) (R := []) h hk hF.all nvF
  have f0 := fit1 [] (s := idY) (R := []) hF.all
  simp only [List.map, List.length, stps_nil, fitI] at v0 f0
  rw [v0]
  refine ⟨_, [cancelW, Txt.itoaS (nvF ((Txt.wordsS s).getD 1 ByteArray.empty))], hF.sc, .cancel _ (nv_bd ((Txt.wordsS s).getD 1 ByteArray.empty)).1 (nv_bd ((Txt.wordsS s).getD 1 ByteArray.empty)).2, by simp, by simp, out_list (n := 2) hF rfl ?_⟩
  show [wrS cancelW ((Txt.wordsS s).getD 0 ByteArray.empty), wrS idY ((Txt.wordsS s).getD 1 ByteArray.empty)] = _
  rw [wrL cancelW _ hk, head_w h, wrI _ f0]
theorem waiting_none {s : ByteArray} (h : isB (Txt.wordsS s) 0 false waitingW = true) : NoneS s (1, false) := by
  have hk : plainB waitingW = true := by decide +kernel
  have hf : patsX.filter (headF waitingW) = [[waitingW]] := by decide +kernel
  have hst : stps (Txt.wordsS s) ([waitingW].map fitsB) (0, false) = (1, false) := by
    rw [← st1 h hk]; rfl
  exact none_of h hf (sum_one hst)
theorem waiting_same {s : ByteArray} (h : isB (Txt.wordsS s) 0 false waitingW = true) : SameS s (.iface 167 (.agg #[])) (1, false) := by
  intro h2 hm
  have hk : plainB waitingW = true := by decide +kernel
  have hf : patsX.filter (headF waitingW) = [[waitingW]] := by decide +kernel
  have hst : stps (Txt.wordsS s) ([waitingW].map fitsB) (0, false) = (1, false) := by
    rw [← st1 h hk]; rfl
  have hF := full_of h hf (sum_one hst) hst h2 hm
  refine ⟨_, [waitingW], hF.sc, .waiting  , by simp, by simp, out_list (n := 1) hF rfl ?_⟩
  show [wrS waitingW ((Txt.wordsS s).getD 0 ByteArray.empty)] = _
  rw [wrL waitingW _ hk, head_w h]
theorem peak_none {s : ByteArray} (h : isB (Txt.wordsS s) 0 false peakW = true) : NoneS s (stps (Txt.wordsS s) [nmB, timeB, timeB] (1, false)) := by
  have hk : plainB peakW = true := by decide +kernel
  have hf : patsX.filter (headF peakW) = [[peakW, nameY, timeY, timeY]] := by decide +kernel
  have hst : stps (Txt.wordsS s) ([peakW, nameY, timeY, timeY].map fitsB) (0, false) = stps (Txt.wordsS s) [nmB, timeB, timeB] (1, false) := by
    rw [← st1 h hk]; simp only [List.map, fitN, fitT]
  exact none_of h hf (sum_one hst)
theorem peak_same {s : ByteArray} (h : isB (Txt.wordsS s) 0 false peakW = true) : SameS s (.iface 170 (.agg #[.string (claimS (Txt.wordsS s) (1, false)), .int .i64 (valAt (Txt.wordsS s) (stps (Txt.wordsS s) [nmB] (1, false)) timeB timW), .int .i64 (valAt (Txt.wordsS s) (stps (Txt.wordsS s) [nmB, timeB] (1, false)) timeB timW)])) (stps (Txt.wordsS s) [nmB, timeB, timeB] (1, false)) := by
  intro h2 hm
  have hk : plainB peakW = true := by decide +kernel
  have hf : patsX.filter (headF peakW) = [[peakW, nameY, timeY, timeY]] := by decide +kernel
  have hst : stps (Txt.wordsS s) ([peakW, nameY, timeY, timeY].map fitsB) (0, false) = stps (Txt.wordsS s) [nmB, timeB, timeB] (1, false) := by
    rw [← st1 h hk]; simp only [List.map, fitN, fitT]
  have hF := full_of h hf (sum_one hst) hst h2 hm
  have v0 := name1 hF.all
  have v1 := val1 (Q := [nameY]) (s := timeY) (R := [timeY]) h hk hF.all timW
  have f1 := fit1 [nameY] (s := timeY) (R := [timeY]) hF.all
  simp only [List.map, List.length, fitN, fitT] at v1 f1
  have v2 := val1 (Q := [nameY, timeY]) (s := timeY) (R := []) h hk hF.all timW
  have f2 := fit1 [nameY, timeY] (s := timeY) (R := []) hF.all
  simp only [List.map, List.length, fitN, fitT] at v2 f2
  rw [v0, v1, v2]
  refine ⟨_, [peakW, ((Txt.wordsS s).getD 1 ByteArray.empty), timeT (timW ((Txt.wordsS s).getD 2 ByteArray.empty)), timeT (timW ((Txt.wordsS s).getD 3 ByteArray.empty))], hF.sc, .peak _ _ _ (tim_bd ((Txt.wordsS s).getD 2 ByteArray.empty)).1 (tim_bd ((Txt.wordsS s).getD 2 ByteArray.empty)).2 (tim_bd ((Txt.wordsS s).getD 3 ByteArray.empty)).1 (tim_bd ((Txt.wordsS s).getD 3 ByteArray.empty)).2, by simp, by simp, out_list (n := 4) hF rfl ?_⟩
  show [wrS peakW ((Txt.wordsS s).getD 0 ByteArray.empty), wrS nameY ((Txt.wordsS s).getD 1 ByteArray.empty), wrS timeY ((Txt.wordsS s).getD 2 ByteArray.empty), wrS timeY ((Txt.wordsS s).getD 3 ByteArray.empty)] = _
  rw [wrL peakW _ hk, head_w h, wrN, wrT _ f1, wrT _ f2]
theorem find_none {s : ByteArray} (h : isB (Txt.wordsS s) 0 false findW = true) : NoneS s (stps (Txt.wordsS s) [nmB, unB, miB, timeB, timeB] (1, false)) := by
  have hk : plainB findW = true := by decide +kernel
  have hf : patsX.filter (headF findW) = [[findW, nameY, unitsY, minutesY, timeY, timeY]] := by decide +kernel
  have hst : stps (Txt.wordsS s) ([findW, nameY, unitsY, minutesY, timeY, timeY].map fitsB) (0, false) = stps (Txt.wordsS s) [nmB, unB, miB, timeB, timeB] (1, false) := by
    rw [← st1 h hk]; simp only [List.map, fitN, fitU, fitMi, fitT]
  exact none_of h hf (sum_one hst)
theorem find_same {s : ByteArray} (h : isB (Txt.wordsS s) 0 false findW = true) : SameS s (.iface 172 (.agg #[.string (claimS (Txt.wordsS s) (1, false)), .int .i64 (valAt (Txt.wordsS s) (stps (Txt.wordsS s) [nmB] (1, false)) unB nvF), .int .i64 (valAt (Txt.wordsS s) (stps (Txt.wordsS s) [nmB, unB] (1, false)) miB nvF), .int .i64 (valAt (Txt.wordsS s) (stps (Txt.wordsS s) [nmB, unB, miB] (1, false)) timeB timW), .int .i64 (valAt (Txt.wordsS s) (stps (Txt.wordsS s) [nmB, unB, miB, timeB] (1, false)) timeB timW)])) (stps (Txt.wordsS s) [nmB, unB, miB, timeB, timeB] (1, false)) := by
  intro h2 hm
  have hk : plainB findW = true := by decide +kernel
  have hf : patsX.filter (headF findW) = [[findW, nameY, unitsY, minutesY, timeY, timeY]] := by decide +kernel
  have hst : stps (Txt.wordsS s) ([findW, nameY, unitsY, minutesY, timeY, timeY].map fitsB) (0, false) = stps (Txt.wordsS s) [nmB, unB, miB, timeB, timeB] (1, false) := by
    rw [← st1 h hk]; simp only [List.map, fitN, fitU, fitMi, fitT]
  have hF := full_of h hf (sum_one hst) hst h2 hm
  have v0 := name1 hF.all
  have v1 := val1 (Q := [nameY]) (s := unitsY) (R := [minutesY, timeY, timeY]) h hk hF.all nvF
  have f1 := fit1 [nameY] (s := unitsY) (R := [minutesY, timeY, timeY]) hF.all
  simp only [List.map, List.length, fitN, fitU] at v1 f1
  have v2 := val1 (Q := [nameY, unitsY]) (s := minutesY) (R := [timeY, timeY]) h hk hF.all nvF
  have f2 := fit1 [nameY, unitsY] (s := minutesY) (R := [timeY, timeY]) hF.all
  simp only [List.map, List.length, fitN, fitU, fitMi] at v2 f2
  have v3 := val1 (Q := [nameY, unitsY, minutesY]) (s := timeY) (R := [timeY]) h hk hF.all timW
  have f3 := fit1 [nameY, unitsY, minutesY] (s := timeY) (R := [timeY]) hF.all
  simp only [List.map, List.length, fitN, fitU, fitMi, fitT] at v3 f3
  have v4 := val1 (Q := [nameY, unitsY, minutesY, timeY]) (s := timeY) (R := []) h hk hF.all timW
  have f4 := fit1 [nameY, unitsY, minutesY, timeY] (s := timeY) (R := []) hF.all
  simp only [List.map, List.length, fitN, fitU, fitMi, fitT] at v4 f4
  rw [v0, v1, v2, v3, v4]
  refine ⟨_, [findW, ((Txt.wordsS s).getD 1 ByteArray.empty), Txt.itoaS (nvF ((Txt.wordsS s).getD 2 ByteArray.empty)), Txt.itoaS (nvF ((Txt.wordsS s).getD 3 ByteArray.empty)), timeT (timW ((Txt.wordsS s).getD 4 ByteArray.empty)), timeT (timW ((Txt.wordsS s).getD 5 ByteArray.empty))], hF.sc, .find _ _ _ _ _ (nv_bd ((Txt.wordsS s).getD 2 ByteArray.empty)).1 (nv_bd ((Txt.wordsS s).getD 2 ByteArray.empty)).2 (nv_bd ((Txt.wordsS s).getD 3 ByteArray.empty)).1 (nv_bd ((Txt.wordsS s).getD 3 ByteArray.empty)).2 (tim_bd ((Txt.wordsS s).getD 4 ByteArray.empty)).1 (tim_bd ((Txt.wordsS s).getD 4 ByteArray.empty)).2 (tim_bd ((Txt.wordsS s).getD 5 ByteArray.empty)).1 (tim_bd ((Txt.wordsS s).getD 5 ByteArray.empty)).2, by simp, by simp, out_list (n := 6) hF rfl ?_⟩
  show [wrS findW ((Txt.wordsS s).getD 0 ByteArray.empty), wrS nameY ((Txt.wordsS s).getD 1 ByteArray.empty), wrS unitsY ((Txt.wordsS s).getD 2 ByteArray.empty), wrS minutesY ((Txt.wordsS s).getD 3 ByteArray.empty), wrS timeY ((Txt.wordsS s).getD 4 ByteArray.empty), wrS timeY ((Txt.wordsS s).getD 5 ByteArray.empty)] = _
  rw [wrL findW _ hk, head_w h, wrN, wrU _ f1, wrMi _ f2, wrT _ f3, wrT _ f4]
theorem tick_none {s : ByteArray} (h : isB (Txt.wordsS s) 0 false tickW = true) : NoneS s (stps (Txt.wordsS s) [miB] (1, false)) := by
  have hk : plainB tickW = true := by decide +kernel
  have hf : patsX.filter (headF tickW) = [[tickW, minutesY]] := by decide +kernel
  have hst : stps (Txt.wordsS s) ([tickW, minutesY].map fitsB) (0, false) = stps (Txt.wordsS s) [miB] (1, false) := by
    rw [← st1 h hk]; simp only [List.map, fitMi]
  exact none_of h hf (sum_one hst)
theorem tick_same {s : ByteArray} (h : isB (Txt.wordsS s) 0 false tickW = true) : SameS s (.iface 176 (.agg #[.int .i64 (valAt (Txt.wordsS s) (1, false) miB nvF)])) (stps (Txt.wordsS s) [miB] (1, false)) := by
  intro h2 hm
  have hk : plainB tickW = true := by decide +kernel
  have hf : patsX.filter (headF tickW) = [[tickW, minutesY]] := by decide +kernel
  have hst : stps (Txt.wordsS s) ([tickW, minutesY].map fitsB) (0, false) = stps (Txt.wordsS s) [miB] (1, false) := by
    rw [← st1 h hk]; simp only [List.map, fitMi]
  have hF := full_of h hf (sum_one hst) hst h2 hm
  have v0 := val1 (Q := []) (s := minutesY) (R := []) h hk hF.all nvF
  have f0 := fit1 [] (s := minutesY) (R := []) hF.all
  simp only [List.map, List.length, stps_nil, fitMi] at v0 f0
  rw [v0]
  refine ⟨_, [tickW, Txt.itoaS (nvF ((Txt.wordsS s).getD 1 ByteArray.empty))], hF.sc, .tick _ (nv_bd ((Txt.wordsS s).getD 1 ByteArray.empty)).1 (nv_bd ((Txt.wordsS s).getD 1 ByteArray.empty)).2, by simp, by simp, out_list (n := 2) hF rfl ?_⟩
  show [wrS tickW ((Txt.wordsS s).getD 0 ByteArray.empty), wrS minutesY ((Txt.wordsS s).getD 1 ByteArray.empty)] = _
  rw [wrL tickW _ hk, head_w h, wrMi _ f0]
theorem clock_none {s : ByteArray} (h : isB (Txt.wordsS s) 0 false clockW = true) : NoneS s (1, false) := by
  have hk : plainB clockW = true := by decide +kernel
  have hf : patsX.filter (headF clockW) = [[clockW]] := by decide +kernel
  have hst : stps (Txt.wordsS s) ([clockW].map fitsB) (0, false) = (1, false) := by
    rw [← st1 h hk]; rfl
  exact none_of h hf (sum_one hst)
theorem clock_same {s : ByteArray} (h : isB (Txt.wordsS s) 0 false clockW = true) : SameS s (.iface 177 (.agg #[])) (1, false) := by
  intro h2 hm
  have hk : plainB clockW = true := by decide +kernel
  have hf : patsX.filter (headF clockW) = [[clockW]] := by decide +kernel
  have hst : stps (Txt.wordsS s) ([clockW].map fitsB) (0, false) = (1, false) := by
    rw [← st1 h hk]; rfl
  have hF := full_of h hf (sum_one hst) hst h2 hm
  refine ⟨_, [clockW], hF.sc, .clock  , by simp, by simp, out_list (n := 1) hF rfl ?_⟩
  show [wrS clockW ((Txt.wordsS s).getD 0 ByteArray.empty)] = _
  rw [wrL clockW _ hk, head_w h]
theorem list0_none {s : ByteArray} (h : isB (Txt.wordsS s) 0 false listW = true) (hl : moreB (Txt.wordsS s).length (stps (Txt.wordsS s) [nmB] (1, false)).1 (stps (Txt.wordsS s) [nmB] (1, false)).2 = false) : NoneS s (stps (Txt.wordsS s) [nmB] (1, false)) := by
  have hk : plainB listW = true := by decide +kernel
  have hf : patsX.filter (headF listW) = [[listW, nameY], [listW, nameY, timeY, timeY]] := by decide +kernel
  have hst : stps (Txt.wordsS s) ([listW, nameY].map fitsB) (0, false) = stps (Txt.wordsS s) [nmB] (1, false) := by
    rw [← st1 h hk]; simp only [List.map, fitN]
  exact none_of h hf (sum_list0 hst hl)
theorem list0_same {s : ByteArray} (h : isB (Txt.wordsS s) 0 false listW = true) (hl : moreB (Txt.wordsS s).length (stps (Txt.wordsS s) [nmB] (1, false)).1 (stps (Txt.wordsS s) [nmB] (1, false)).2 = false) : SameS s (.iface 164 (.agg #[.string (claimS (Txt.wordsS s) (1, false)), .bool false, .int .i64 0, .int .i64 0])) (stps (Txt.wordsS s) [nmB] (1, false)) := by
  intro h2 hm
  have hk : plainB listW = true := by decide +kernel
  have hf : patsX.filter (headF listW) = [[listW, nameY], [listW, nameY, timeY, timeY]] := by decide +kernel
  have hst : stps (Txt.wordsS s) ([listW, nameY].map fitsB) (0, false) = stps (Txt.wordsS s) [nmB] (1, false) := by
    rw [← st1 h hk]; simp only [List.map, fitN]
  have hF := full_of h hf (sum_list0 hst hl) hst h2 hm
  have v0 := name1 hF.all
  rw [v0]
  refine ⟨_, [listW, ((Txt.wordsS s).getD 1 ByteArray.empty)], hF.sc, .list0 _ _ _, by simp, by simp, out_list (n := 2) hF rfl ?_⟩
  show [wrS listW ((Txt.wordsS s).getD 0 ByteArray.empty), wrS nameY ((Txt.wordsS s).getD 1 ByteArray.empty)] = _
  rw [wrL listW _ hk, head_w h, wrN]
theorem list1_none {s : ByteArray} (h : isB (Txt.wordsS s) 0 false listW = true) (hl : moreB (Txt.wordsS s).length (stps (Txt.wordsS s) [nmB] (1, false)).1 (stps (Txt.wordsS s) [nmB] (1, false)).2 = true) : NoneS s (stps (Txt.wordsS s) [nmB, timeB, timeB] (1, false)) := by
  have hk : plainB listW = true := by decide +kernel
  have hf : patsX.filter (headF listW) = [[listW, nameY], [listW, nameY, timeY, timeY]] := by decide +kernel
  have hst : stps (Txt.wordsS s) ([listW, nameY].map fitsB) (0, false) = stps (Txt.wordsS s) [nmB] (1, false) := by
    rw [← st1 h hk]; simp only [List.map, fitN]
  have hst2 : stps (Txt.wordsS s) ([listW, nameY, timeY, timeY].map fitsB) (0, false) = stps (Txt.wordsS s) [nmB, timeB, timeB] (1, false) := by
    rw [← st1 h hk]; simp only [List.map, fitN, fitT]
  exact none_of h hf (sum_list1 hst hl hst2)
theorem list1_same {s : ByteArray} (h : isB (Txt.wordsS s) 0 false listW = true) (hl : moreB (Txt.wordsS s).length (stps (Txt.wordsS s) [nmB] (1, false)).1 (stps (Txt.wordsS s) [nmB] (1, false)).2 = true) : SameS s (.iface 164 (.agg #[.string (claimS (Txt.wordsS s) (1, false)), .bool true, .int .i64 (valAt (Txt.wordsS s) (stps (Txt.wordsS s) [nmB] (1, false)) timeB timW), .int .i64 (valAt (Txt.wordsS s) (stps (Txt.wordsS s) [nmB, timeB] (1, false)) timeB timW)])) (stps (Txt.wordsS s) [nmB, timeB, timeB] (1, false)) := by
  intro h2 hm
  have hk : plainB listW = true := by decide +kernel
  have hf : patsX.filter (headF listW) = [[listW, nameY], [listW, nameY, timeY, timeY]] := by decide +kernel
  have hst : stps (Txt.wordsS s) ([listW, nameY].map fitsB) (0, false) = stps (Txt.wordsS s) [nmB] (1, false) := by
    rw [← st1 h hk]; simp only [List.map, fitN]
  have hst2 : stps (Txt.wordsS s) ([listW, nameY, timeY, timeY].map fitsB) (0, false) = stps (Txt.wordsS s) [nmB, timeB, timeB] (1, false) := by
    rw [← st1 h hk]; simp only [List.map, fitN, fitT]
  have hF := full_of h hf (sum_list1 hst hl hst2) hst2 h2 hm
  have v0 := name1 hF.all
  have v1 := val1 (Q := [nameY]) (s := timeY) (R := [timeY]) h hk hF.all timW
  have f1 := fit1 [nameY] (s := timeY) (R := [timeY]) hF.all
  simp only [List.map, List.length, fitN, fitT] at v1 f1
  have v2 := val1 (Q := [nameY, timeY]) (s := timeY) (R := []) h hk hF.all timW
  have f2 := fit1 [nameY, timeY] (s := timeY) (R := []) hF.all
  simp only [List.map, List.length, fitN, fitT] at v2 f2
  rw [v0, v1, v2]
  refine ⟨_, [listW, ((Txt.wordsS s).getD 1 ByteArray.empty), timeT (timW ((Txt.wordsS s).getD 2 ByteArray.empty)), timeT (timW ((Txt.wordsS s).getD 3 ByteArray.empty))], hF.sc, .list1 _ _ _ (tim_bd ((Txt.wordsS s).getD 2 ByteArray.empty)).1 (tim_bd ((Txt.wordsS s).getD 2 ByteArray.empty)).2 (tim_bd ((Txt.wordsS s).getD 3 ByteArray.empty)).1 (tim_bd ((Txt.wordsS s).getD 3 ByteArray.empty)).2, by simp, by simp, out_list (n := 4) hF rfl ?_⟩
  show [wrS listW ((Txt.wordsS s).getD 0 ByteArray.empty), wrS nameY ((Txt.wordsS s).getD 1 ByteArray.empty), wrS timeY ((Txt.wordsS s).getD 2 ByteArray.empty), wrS timeY ((Txt.wordsS s).getD 3 ByteArray.empty)] = _
  rw [wrL listW _ hk, head_w h, wrN, wrT _ f1, wrT _ f2]
theorem ev_pos {w : ByteArray} (h : evB w = true) : 0 < nvF w := by
  have := (within_num h).2.1
  omega
theorem min_lt (w : ByteArray) : Txt.minV w < 1440 := by
  have := (Txt.minV_bd w).2
  omega
theorem day_bd (w : ByteArray) : 0 ≤ dayV w ∧ dayV w ≤ 728 := by
  unfold dayV
  cases h : Txt.dayB w
  · simp
  · unfold Txt.dayB at h
    have := of_decide_eq_true h
    simp only [if_true]
    omega
theorem series_none {s : ByteArray} (h : isB (Txt.wordsS s) 0 false seriesW = true) {pc ev : Int} {acc : List Int} {fr mn mi ti un : Int} {st : Nat × Bool} (hr : RuleR (Txt.wordsS s) (stps (Txt.wordsS s) [nmB, unB] (1, false)) pc ev acc fr mn mi ti un st) : NoneS s st := by
  have hk : plainB seriesW = true := by decide +kernel
  have hf : patsX.filter (headF seriesW) = sixP serH := by decide +kernel
  have hst : stps (Txt.wordsS s) (serH.map fitsB) (0, false) = (stps (Txt.wordsS s) [nmB, unB] (1, false)) := by
    unfold serH; rw [← st1 h hk]; simp only [List.map, fitN, fitU]
  rw [← hst] at hr
  obtain ⟨q, hS, hg⟩ := rule_sum hr
  exact none_of h hf hS
theorem series_same {s : ByteArray} (h : isB (Txt.wordsS s) 0 false seriesW = true) {pc ev : Int} {acc : List Int} {fr mn mi ti un : Int} {st : Nat × Bool} (hr : RuleR (Txt.wordsS s) (stps (Txt.wordsS s) [nmB, unB] (1, false)) pc ev acc fr mn mi ti un st) : SameS s (.iface 159 (.agg #[.string (claimS (Txt.wordsS s) (1, false)), .int .i64 (valAt (Txt.wordsS s) (stps (Txt.wordsS s) [nmB] (1, false)) unB nvF), .int .i64 pc, .int .i64 ev, .bool (isd acc 0), .bool (isd acc 1), .bool (isd acc 2), .bool (isd acc 3), .bool (isd acc 4), .bool (isd acc 5), .bool (isd acc 6), .int .i64 fr, .int .i64 mn, .int .i64 mi, .int .i64 ti, .int .i64 un])) st := by
  intro h2 hm
  have hk : plainB seriesW = true := by decide +kernel
  have hf : patsX.filter (headF seriesW) = sixP serH := by decide +kernel
  have hst : stps (Txt.wordsS s) (serH.map fitsB) (0, false) = (stps (Txt.wordsS s) [nmB, unB] (1, false)) := by
    unfold serH; rw [← st1 h hk]; simp only [List.map, fitN, fitU]
  rw [← hst] at hr
  obtain ⟨q, hS, hg⟩ := rule_sum hr
  obtain ⟨K, E, rfl, hq, hG⟩ := hg h2
  have hF := full_of h hf hS hq h2 hm
  have e0 : serH ++ K ++ midY ++ E = seriesW :: nameY :: (unitsY :: (K ++ midY ++ E)) := by simp [serH]
  have e1 : serH ++ K ++ midY ++ E = seriesW :: ([nameY] ++ unitsY :: (K ++ midY ++ E)) := by simp [serH]
  have v0 := name1 (ws := Txt.wordsS s) (R := unitsY :: (K ++ midY ++ E)) (k := seriesW) (by rw [← e0]; exact hF.all)
  have v1 := val1 (Q := [nameY]) (s := unitsY) (R := K ++ midY ++ E) h hk (by rw [← e1]; exact hF.all) nvF
  have f1 := fit1 (ws := Txt.wordsS s) [nameY] (k := seriesW) (s := unitsY) (R := K ++ midY ++ E) (by rw [← e1]; exact hF.all)
  simp only [List.map, List.length, fitN, fitU] at v1 f1
  rw [v0, v1]
  clear hr hg hS hq hst
  obtain ⟨hpace, ⟨k0, k1, k2, k3, k4, k5, rfl, rfl, rfl⟩, hend⟩ := hG
  cases hpace with
  | daily p0 p1 =>
    cases hend with
    | times q0 q1 =>
      have g0 : ((Txt.wordsS s).getD 3 ByteArray.empty) = dailyW := p0
      have g1 : evB ((Txt.wordsS s).getD 4 ByteArray.empty) = true := p1
      have s0 : ((Txt.wordsS s).getD 5 ByteArray.empty) = fromW := k0
      have s1 : Txt.dayB ((Txt.wordsS s).getD 6 ByteArray.empty) = true := k1
      have s2 : ((Txt.wordsS s).getD 7 ByteArray.empty) = atW := k2
      have s3 : Txt.minB ((Txt.wordsS s).getD 8 ByteArray.empty) = true := k3
      have s4 : ((Txt.wordsS s).getD 9 ByteArray.empty) = forW := k4
      have s5 : miB ((Txt.wordsS s).getD 10 ByteArray.empty) = true := k5
      have t0 : ((Txt.wordsS s).getD 11 ByteArray.empty) = timesW := q0
      have t1 : evB ((Txt.wordsS s).getD 12 ByteArray.empty) = true := q1
      refine ⟨_, [seriesW, ((Txt.wordsS s).getD 1 ByteArray.empty), Txt.itoaS (nvF ((Txt.wordsS s).getD 2 ByteArray.empty))] ++ ([dailyW, Txt.itoaS (nvF ((Txt.wordsS s).getD 4 ByteArray.empty))] ++ sixW (dayV ((Txt.wordsS s).getD 6 ByteArray.empty)) (Txt.minV ((Txt.wordsS s).getD 8 ByteArray.empty)) (nvF ((Txt.wordsS s).getD 10 ByteArray.empty)) ++ [timesW, Txt.itoaS (nvF ((Txt.wordsS s).getD 12 ByteArray.empty))]), hF.sc, .series _ _ _ _ _ _ _ _ _ _ _ (nv_bd _).1 (nv_bd _).2 (.mk _ _ _ _ _ _ _ _ _ _ (.daily _ _ (nv_bd _).1 (nv_bd _).2) (.times _ _ (ev_pos t1) (nv_bd _).2) (day_bd _).1 (day_bd _).2 (Txt.minV_bd _).1 (min_lt _) (nv_bd _).1 (nv_bd _).2), by simp, by simp [sixW], out_list (n := 13) hF rfl ?_⟩
      show [wrS seriesW ((Txt.wordsS s).getD 0 ByteArray.empty), wrS nameY ((Txt.wordsS s).getD 1 ByteArray.empty), wrS unitsY ((Txt.wordsS s).getD 2 ByteArray.empty), wrS dailyW ((Txt.wordsS s).getD 3 ByteArray.empty), wrS everyY ((Txt.wordsS s).getD 4 ByteArray.empty), wrS fromW ((Txt.wordsS s).getD 5 ByteArray.empty), wrS dateY ((Txt.wordsS s).getD 6 ByteArray.empty), wrS atW ((Txt.wordsS s).getD 7 ByteArray.empty), wrS minuteY ((Txt.wordsS s).getD 8 ByteArray.empty), wrS forW ((Txt.wordsS s).getD 9 ByteArray.empty), wrS minutesY ((Txt.wordsS s).getD 10 ByteArray.empty), wrS timesW ((Txt.wordsS s).getD 11 ByteArray.empty), wrS everyY ((Txt.wordsS s).getD 12 ByteArray.empty)] = [seriesW, ((Txt.wordsS s).getD 1 ByteArray.empty), Txt.itoaS (nvF ((Txt.wordsS s).getD 2 ByteArray.empty)), dailyW, Txt.itoaS (nvF ((Txt.wordsS s).getD 4 ByteArray.empty)), fromW, dateT (dayV ((Txt.wordsS s).getD 6 ByteArray.empty)), atW, minS (Txt.minV ((Txt.wordsS s).getD 8 ByteArray.empty)), forW, Txt.itoaS (nvF ((Txt.wordsS s).getD 10 ByteArray.empty)), timesW, Txt.itoaS (nvF ((Txt.wordsS s).getD 12 ByteArray.empty))]
      rw [wrL seriesW _ hk, head_w h, wrN, wrU _ f1, wrL dailyW _ (by decide +kernel), g0, wrE _ g1, wrL fromW _ (by decide +kernel), s0, wrD, date_back _ s1, wrL atW _ (by decide +kernel), s2, wrM, min_back _ s3, wrL forW _ (by decide +kernel), s4, wrMi _ s5, wrL timesW _ (by decide +kernel), t0, wrE _ t1]
    | til q0 q1 =>
      have g0 : ((Txt.wordsS s).getD 3 ByteArray.empty) = dailyW := p0
      have g1 : evB ((Txt.wordsS s).getD 4 ByteArray.empty) = true := p1
      have s0 : ((Txt.wordsS s).getD 5 ByteArray.empty) = fromW := k0
      have s1 : Txt.dayB ((Txt.wordsS s).getD 6 ByteArray.empty) = true := k1
      have s2 : ((Txt.wordsS s).getD 7 ByteArray.empty) = atW := k2
      have s3 : Txt.minB ((Txt.wordsS s).getD 8 ByteArray.empty) = true := k3
      have s4 : ((Txt.wordsS s).getD 9 ByteArray.empty) = forW := k4
      have s5 : miB ((Txt.wordsS s).getD 10 ByteArray.empty) = true := k5
      have t0 : ((Txt.wordsS s).getD 11 ByteArray.empty) = untilW := q0
      have t1 : Txt.dayB ((Txt.wordsS s).getD 12 ByteArray.empty) = true := q1
      refine ⟨_, [seriesW, ((Txt.wordsS s).getD 1 ByteArray.empty), Txt.itoaS (nvF ((Txt.wordsS s).getD 2 ByteArray.empty))] ++ ([dailyW, Txt.itoaS (nvF ((Txt.wordsS s).getD 4 ByteArray.empty))] ++ sixW (dayV ((Txt.wordsS s).getD 6 ByteArray.empty)) (Txt.minV ((Txt.wordsS s).getD 8 ByteArray.empty)) (nvF ((Txt.wordsS s).getD 10 ByteArray.empty)) ++ [untilW, dateT (dayV ((Txt.wordsS s).getD 12 ByteArray.empty))]), hF.sc, .series _ _ _ _ _ _ _ _ _ _ _ (nv_bd _).1 (nv_bd _).2 (.mk _ _ _ _ _ _ _ _ _ _ (.daily _ _ (nv_bd _).1 (nv_bd _).2) (.til _ (day_bd _).1 (day_bd _).2) (day_bd _).1 (day_bd _).2 (Txt.minV_bd _).1 (min_lt _) (nv_bd _).1 (nv_bd _).2), by simp, by simp [sixW], out_list (n := 13) hF rfl ?_⟩
      show [wrS seriesW ((Txt.wordsS s).getD 0 ByteArray.empty), wrS nameY ((Txt.wordsS s).getD 1 ByteArray.empty), wrS unitsY ((Txt.wordsS s).getD 2 ByteArray.empty), wrS dailyW ((Txt.wordsS s).getD 3 ByteArray.empty), wrS everyY ((Txt.wordsS s).getD 4 ByteArray.empty), wrS fromW ((Txt.wordsS s).getD 5 ByteArray.empty), wrS dateY ((Txt.wordsS s).getD 6 ByteArray.empty), wrS atW ((Txt.wordsS s).getD 7 ByteArray.empty), wrS minuteY ((Txt.wordsS s).getD 8 ByteArray.empty), wrS forW ((Txt.wordsS s).getD 9 ByteArray.empty), wrS minutesY ((Txt.wordsS s).getD 10 ByteArray.empty), wrS untilW ((Txt.wordsS s).getD 11 ByteArray.empty), wrS dateY ((Txt.wordsS s).getD 12 ByteArray.empty)] = [seriesW, ((Txt.wordsS s).getD 1 ByteArray.empty), Txt.itoaS (nvF ((Txt.wordsS s).getD 2 ByteArray.empty)), dailyW, Txt.itoaS (nvF ((Txt.wordsS s).getD 4 ByteArray.empty)), fromW, dateT (dayV ((Txt.wordsS s).getD 6 ByteArray.empty)), atW, minS (Txt.minV ((Txt.wordsS s).getD 8 ByteArray.empty)), forW, Txt.itoaS (nvF ((Txt.wordsS s).getD 10 ByteArray.empty)), untilW, dateT (dayV ((Txt.wordsS s).getD 12 ByteArray.empty))]
      rw [wrL seriesW _ hk, head_w h, wrN, wrU _ f1, wrL dailyW _ (by decide +kernel), g0, wrE _ g1, wrL fromW _ (by decide +kernel), s0, wrD, date_back _ s1, wrL atW _ (by decide +kernel), s2, wrM, min_back _ s3, wrL forW _ (by decide +kernel), s4, wrMi _ s5, wrL untilW _ (by decide +kernel), t0, wrD, date_back _ t1]
  | weekly acc p0 p1 p2 =>
    cases hend with
    | times q0 q1 =>
      have g0 : ((Txt.wordsS s).getD 3 ByteArray.empty) = weeklyW := p0
      have g1 : evB ((Txt.wordsS s).getD 4 ByteArray.empty) = true := p1
      have g2 : Txt.onW ((Txt.wordsS s).getD 5 ByteArray.empty) = some acc := p2
      have s0 : ((Txt.wordsS s).getD 6 ByteArray.empty) = fromW := k0
      have s1 : Txt.dayB ((Txt.wordsS s).getD 7 ByteArray.empty) = true := k1
      have s2 : ((Txt.wordsS s).getD 8 ByteArray.empty) = atW := k2
      have s3 : Txt.minB ((Txt.wordsS s).getD 9 ByteArray.empty) = true := k3
      have s4 : ((Txt.wordsS s).getD 10 ByteArray.empty) = forW := k4
      have s5 : miB ((Txt.wordsS s).getD 11 ByteArray.empty) = true := k5
      have t0 : ((Txt.wordsS s).getD 12 ByteArray.empty) = timesW := q0
      have t1 : evB ((Txt.wordsS s).getD 13 ByteArray.empty) = true := q1
      refine ⟨_, [seriesW, ((Txt.wordsS s).getD 1 ByteArray.empty), Txt.itoaS (nvF ((Txt.wordsS s).getD 2 ByteArray.empty))] ++ ([weeklyW, Txt.itoaS (nvF ((Txt.wordsS s).getD 4 ByteArray.empty)), onJ acc] ++ sixW (dayV ((Txt.wordsS s).getD 7 ByteArray.empty)) (Txt.minV ((Txt.wordsS s).getD 9 ByteArray.empty)) (nvF ((Txt.wordsS s).getD 11 ByteArray.empty)) ++ [timesW, Txt.itoaS (nvF ((Txt.wordsS s).getD 13 ByteArray.empty))]), hF.sc, .series _ _ _ _ _ _ _ _ _ _ _ (nv_bd _).1 (nv_bd _).2 (.mk _ _ _ _ _ _ _ _ _ _ (.weekly _ _ (nv_bd _).1 (nv_bd _).2 (onL_ne g2) (onL_short acc)) (.times _ _ (ev_pos t1) (nv_bd _).2) (day_bd _).1 (day_bd _).2 (Txt.minV_bd _).1 (min_lt _) (nv_bd _).1 (nv_bd _).2), by simp, by simp [sixW], out_list (n := 14) hF rfl ?_⟩
      show [wrS seriesW ((Txt.wordsS s).getD 0 ByteArray.empty), wrS nameY ((Txt.wordsS s).getD 1 ByteArray.empty), wrS unitsY ((Txt.wordsS s).getD 2 ByteArray.empty), wrS weeklyW ((Txt.wordsS s).getD 3 ByteArray.empty), wrS everyY ((Txt.wordsS s).getD 4 ByteArray.empty), wrS onY ((Txt.wordsS s).getD 5 ByteArray.empty), wrS fromW ((Txt.wordsS s).getD 6 ByteArray.empty), wrS dateY ((Txt.wordsS s).getD 7 ByteArray.empty), wrS atW ((Txt.wordsS s).getD 8 ByteArray.empty), wrS minuteY ((Txt.wordsS s).getD 9 ByteArray.empty), wrS forW ((Txt.wordsS s).getD 10 ByteArray.empty), wrS minutesY ((Txt.wordsS s).getD 11 ByteArray.empty), wrS timesW ((Txt.wordsS s).getD 12 ByteArray.empty), wrS everyY ((Txt.wordsS s).getD 13 ByteArray.empty)] = [seriesW, ((Txt.wordsS s).getD 1 ByteArray.empty), Txt.itoaS (nvF ((Txt.wordsS s).getD 2 ByteArray.empty)), weeklyW, Txt.itoaS (nvF ((Txt.wordsS s).getD 4 ByteArray.empty)), onJ acc, fromW, dateT (dayV ((Txt.wordsS s).getD 7 ByteArray.empty)), atW, minS (Txt.minV ((Txt.wordsS s).getD 9 ByteArray.empty)), forW, Txt.itoaS (nvF ((Txt.wordsS s).getD 11 ByteArray.empty)), timesW, Txt.itoaS (nvF ((Txt.wordsS s).getD 13 ByteArray.empty))]
      rw [wrL seriesW _ hk, head_w h, wrN, wrU _ f1, wrL weeklyW _ (by decide +kernel), g0, wrE _ g1, wrO, onWS_eq g2, wrL fromW _ (by decide +kernel), s0, wrD, date_back _ s1, wrL atW _ (by decide +kernel), s2, wrM, min_back _ s3, wrL forW _ (by decide +kernel), s4, wrMi _ s5, wrL timesW _ (by decide +kernel), t0, wrE _ t1]
    | til q0 q1 =>
      have g0 : ((Txt.wordsS s).getD 3 ByteArray.empty) = weeklyW := p0
      have g1 : evB ((Txt.wordsS s).getD 4 ByteArray.empty) = true := p1
      have g2 : Txt.onW ((Txt.wordsS s).getD 5 ByteArray.empty) = some acc := p2
      have s0 : ((Txt.wordsS s).getD 6 ByteArray.empty) = fromW := k0
      have s1 : Txt.dayB ((Txt.wordsS s).getD 7 ByteArray.empty) = true := k1
      have s2 : ((Txt.wordsS s).getD 8 ByteArray.empty) = atW := k2
      have s3 : Txt.minB ((Txt.wordsS s).getD 9 ByteArray.empty) = true := k3
      have s4 : ((Txt.wordsS s).getD 10 ByteArray.empty) = forW := k4
      have s5 : miB ((Txt.wordsS s).getD 11 ByteArray.empty) = true := k5
      have t0 : ((Txt.wordsS s).getD 12 ByteArray.empty) = untilW := q0
      have t1 : Txt.dayB ((Txt.wordsS s).getD 13 ByteArray.empty) = true := q1
      refine ⟨_, [seriesW, ((Txt.wordsS s).getD 1 ByteArray.empty), Txt.itoaS (nvF ((Txt.wordsS s).getD 2 ByteArray.empty))] ++ ([weeklyW, Txt.itoaS (nvF ((Txt.wordsS s).getD 4 ByteArray.empty)), onJ acc] ++ sixW (dayV ((Txt.wordsS s).getD 7 ByteArray.empty)) (Txt.minV ((Txt.wordsS s).getD 9 ByteArray.empty)) (nvF ((Txt.wordsS s).getD 11 ByteArray.empty)) ++ [untilW, dateT (dayV ((Txt.wordsS s).getD 13 ByteArray.empty))]), hF.sc, .series _ _ _ _ _ _ _ _ _ _ _ (nv_bd _).1 (nv_bd _).2 (.mk _ _ _ _ _ _ _ _ _ _ (.weekly _ _ (nv_bd _).1 (nv_bd _).2 (onL_ne g2) (onL_short acc)) (.til _ (day_bd _).1 (day_bd _).2) (day_bd _).1 (day_bd _).2 (Txt.minV_bd _).1 (min_lt _) (nv_bd _).1 (nv_bd _).2), by simp, by simp [sixW], out_list (n := 14) hF rfl ?_⟩
      show [wrS seriesW ((Txt.wordsS s).getD 0 ByteArray.empty), wrS nameY ((Txt.wordsS s).getD 1 ByteArray.empty), wrS unitsY ((Txt.wordsS s).getD 2 ByteArray.empty), wrS weeklyW ((Txt.wordsS s).getD 3 ByteArray.empty), wrS everyY ((Txt.wordsS s).getD 4 ByteArray.empty), wrS onY ((Txt.wordsS s).getD 5 ByteArray.empty), wrS fromW ((Txt.wordsS s).getD 6 ByteArray.empty), wrS dateY ((Txt.wordsS s).getD 7 ByteArray.empty), wrS atW ((Txt.wordsS s).getD 8 ByteArray.empty), wrS minuteY ((Txt.wordsS s).getD 9 ByteArray.empty), wrS forW ((Txt.wordsS s).getD 10 ByteArray.empty), wrS minutesY ((Txt.wordsS s).getD 11 ByteArray.empty), wrS untilW ((Txt.wordsS s).getD 12 ByteArray.empty), wrS dateY ((Txt.wordsS s).getD 13 ByteArray.empty)] = [seriesW, ((Txt.wordsS s).getD 1 ByteArray.empty), Txt.itoaS (nvF ((Txt.wordsS s).getD 2 ByteArray.empty)), weeklyW, Txt.itoaS (nvF ((Txt.wordsS s).getD 4 ByteArray.empty)), onJ acc, fromW, dateT (dayV ((Txt.wordsS s).getD 7 ByteArray.empty)), atW, minS (Txt.minV ((Txt.wordsS s).getD 9 ByteArray.empty)), forW, Txt.itoaS (nvF ((Txt.wordsS s).getD 11 ByteArray.empty)), untilW, dateT (dayV ((Txt.wordsS s).getD 13 ByteArray.empty))]
      rw [wrL seriesW _ hk, head_w h, wrN, wrU _ f1, wrL weeklyW _ (by decide +kernel), g0, wrE _ g1, wrO, onWS_eq g2, wrL fromW _ (by decide +kernel), s0, wrD, date_back _ s1, wrL atW _ (by decide +kernel), s2, wrM, min_back _ s3, wrL forW _ (by decide +kernel), s4, wrMi _ s5, wrL untilW _ (by decide +kernel), t0, wrD, date_back _ t1]
  | monthly p0 p1 =>
    cases hend with
    | times q0 q1 =>
      have g0 : ((Txt.wordsS s).getD 3 ByteArray.empty) = monthlyW := p0
      have g1 : evB ((Txt.wordsS s).getD 4 ByteArray.empty) = true := p1
      have s0 : ((Txt.wordsS s).getD 5 ByteArray.empty) = fromW := k0
      have s1 : Txt.dayB ((Txt.wordsS s).getD 6 ByteArray.empty) = true := k1
      have s2 : ((Txt.wordsS s).getD 7 ByteArray.empty) = atW := k2
      have s3 : Txt.minB ((Txt.wordsS s).getD 8 ByteArray.empty) = true := k3
      have s4 : ((Txt.wordsS s).getD 9 ByteArray.empty) = forW := k4
      have s5 : miB ((Txt.wordsS s).getD 10 ByteArray.empty) = true := k5
      have t0 : ((Txt.wordsS s).getD 11 ByteArray.empty) = timesW := q0
      have t1 : evB ((Txt.wordsS s).getD 12 ByteArray.empty) = true := q1
      refine ⟨_, [seriesW, ((Txt.wordsS s).getD 1 ByteArray.empty), Txt.itoaS (nvF ((Txt.wordsS s).getD 2 ByteArray.empty))] ++ ([monthlyW, Txt.itoaS (nvF ((Txt.wordsS s).getD 4 ByteArray.empty))] ++ sixW (dayV ((Txt.wordsS s).getD 6 ByteArray.empty)) (Txt.minV ((Txt.wordsS s).getD 8 ByteArray.empty)) (nvF ((Txt.wordsS s).getD 10 ByteArray.empty)) ++ [timesW, Txt.itoaS (nvF ((Txt.wordsS s).getD 12 ByteArray.empty))]), hF.sc, .series _ _ _ _ _ _ _ _ _ _ _ (nv_bd _).1 (nv_bd _).2 (.mk _ _ _ _ _ _ _ _ _ _ (.monthly _ _ (nv_bd _).1 (nv_bd _).2) (.times _ _ (ev_pos t1) (nv_bd _).2) (day_bd _).1 (day_bd _).2 (Txt.minV_bd _).1 (min_lt _) (nv_bd _).1 (nv_bd _).2), by simp, by simp [sixW], out_list (n := 13) hF rfl ?_⟩
      show [wrS seriesW ((Txt.wordsS s).getD 0 ByteArray.empty), wrS nameY ((Txt.wordsS s).getD 1 ByteArray.empty), wrS unitsY ((Txt.wordsS s).getD 2 ByteArray.empty), wrS monthlyW ((Txt.wordsS s).getD 3 ByteArray.empty), wrS everyY ((Txt.wordsS s).getD 4 ByteArray.empty), wrS fromW ((Txt.wordsS s).getD 5 ByteArray.empty), wrS dateY ((Txt.wordsS s).getD 6 ByteArray.empty), wrS atW ((Txt.wordsS s).getD 7 ByteArray.empty), wrS minuteY ((Txt.wordsS s).getD 8 ByteArray.empty), wrS forW ((Txt.wordsS s).getD 9 ByteArray.empty), wrS minutesY ((Txt.wordsS s).getD 10 ByteArray.empty), wrS timesW ((Txt.wordsS s).getD 11 ByteArray.empty), wrS everyY ((Txt.wordsS s).getD 12 ByteArray.empty)] = [seriesW, ((Txt.wordsS s).getD 1 ByteArray.empty), Txt.itoaS (nvF ((Txt.wordsS s).getD 2 ByteArray.empty)), monthlyW, Txt.itoaS (nvF ((Txt.wordsS s).getD 4 ByteArray.empty)), fromW, dateT (dayV ((Txt.wordsS s).getD 6 ByteArray.empty)), atW, minS (Txt.minV ((Txt.wordsS s).getD 8 ByteArray.empty)), forW, Txt.itoaS (nvF ((Txt.wordsS s).getD 10 ByteArray.empty)), timesW, Txt.itoaS (nvF ((Txt.wordsS s).getD 12 ByteArray.empty))]
      rw [wrL seriesW _ hk, head_w h, wrN, wrU _ f1, wrL monthlyW _ (by decide +kernel), g0, wrE _ g1, wrL fromW _ (by decide +kernel), s0, wrD, date_back _ s1, wrL atW _ (by decide +kernel), s2, wrM, min_back _ s3, wrL forW _ (by decide +kernel), s4, wrMi _ s5, wrL timesW _ (by decide +kernel), t0, wrE _ t1]
    | til q0 q1 =>
      have g0 : ((Txt.wordsS s).getD 3 ByteArray.empty) = monthlyW := p0
      have g1 : evB ((Txt.wordsS s).getD 4 ByteArray.empty) = true := p1
      have s0 : ((Txt.wordsS s).getD 5 ByteArray.empty) = fromW := k0
      have s1 : Txt.dayB ((Txt.wordsS s).getD 6 ByteArray.empty) = true := k1
      have s2 : ((Txt.wordsS s).getD 7 ByteArray.empty) = atW := k2
      have s3 : Txt.minB ((Txt.wordsS s).getD 8 ByteArray.empty) = true := k3
      have s4 : ((Txt.wordsS s).getD 9 ByteArray.empty) = forW := k4
      have s5 : miB ((Txt.wordsS s).getD 10 ByteArray.empty) = true := k5
      have t0 : ((Txt.wordsS s).getD 11 ByteArray.empty) = untilW := q0
      have t1 : Txt.dayB ((Txt.wordsS s).getD 12 ByteArray.empty) = true := q1
      refine ⟨_, [seriesW, ((Txt.wordsS s).getD 1 ByteArray.empty), Txt.itoaS (nvF ((Txt.wordsS s).getD 2 ByteArray.empty))] ++ ([monthlyW, Txt.itoaS (nvF ((Txt.wordsS s).getD 4 ByteArray.empty))] ++ sixW (dayV ((Txt.wordsS s).getD 6 ByteArray.empty)) (Txt.minV ((Txt.wordsS s).getD 8 ByteArray.empty)) (nvF ((Txt.wordsS s).getD 10 ByteArray.empty)) ++ [untilW, dateT (dayV ((Txt.wordsS s).getD 12 ByteArray.empty))]), hF.sc, .series _ _ _ _ _ _ _ _ _ _ _ (nv_bd _).1 (nv_bd _).2 (.mk _ _ _ _ _ _ _ _ _ _ (.monthly _ _ (nv_bd _).1 (nv_bd _).2) (.til _ (day_bd _).1 (day_bd _).2) (day_bd _).1 (day_bd _).2 (Txt.minV_bd _).1 (min_lt _) (nv_bd _).1 (nv_bd _).2), by simp, by simp [sixW], out_list (n := 13) hF rfl ?_⟩
      show [wrS seriesW ((Txt.wordsS s).getD 0 ByteArray.empty), wrS nameY ((Txt.wordsS s).getD 1 ByteArray.empty), wrS unitsY ((Txt.wordsS s).getD 2 ByteArray.empty), wrS monthlyW ((Txt.wordsS s).getD 3 ByteArray.empty), wrS everyY ((Txt.wordsS s).getD 4 ByteArray.empty), wrS fromW ((Txt.wordsS s).getD 5 ByteArray.empty), wrS dateY ((Txt.wordsS s).getD 6 ByteArray.empty), wrS atW ((Txt.wordsS s).getD 7 ByteArray.empty), wrS minuteY ((Txt.wordsS s).getD 8 ByteArray.empty), wrS forW ((Txt.wordsS s).getD 9 ByteArray.empty), wrS minutesY ((Txt.wordsS s).getD 10 ByteArray.empty), wrS untilW ((Txt.wordsS s).getD 11 ByteArray.empty), wrS dateY ((Txt.wordsS s).getD 12 ByteArray.empty)] = [seriesW, ((Txt.wordsS s).getD 1 ByteArray.empty), Txt.itoaS (nvF ((Txt.wordsS s).getD 2 ByteArray.empty)), monthlyW, Txt.itoaS (nvF ((Txt.wordsS s).getD 4 ByteArray.empty)), fromW, dateT (dayV ((Txt.wordsS s).getD 6 ByteArray.empty)), atW, minS (Txt.minV ((Txt.wordsS s).getD 8 ByteArray.empty)), forW, Txt.itoaS (nvF ((Txt.wordsS s).getD 10 ByteArray.empty)), untilW, dateT (dayV ((Txt.wordsS s).getD 12 ByteArray.empty))]
      rw [wrL seriesW _ hk, head_w h, wrN, wrU _ f1, wrL monthlyW _ (by decide +kernel), g0, wrE _ g1, wrL fromW _ (by decide +kernel), s0, wrD, date_back _ s1, wrL atW _ (by decide +kernel), s2, wrM, min_back _ s3, wrL forW _ (by decide +kernel), s4, wrMi _ s5, wrL untilW _ (by decide +kernel), t0, wrD, date_back _ t1]
theorem expand_none {s : ByteArray} (h : isB (Txt.wordsS s) 0 false expandW = true) {pc ev : Int} {acc : List Int} {fr mn mi ti un : Int} {st : Nat × Bool} (hr : RuleR (Txt.wordsS s) (1, false) pc ev acc fr mn mi ti un st) : NoneS s st := by
  have hk : plainB expandW = true := by decide +kernel
  have hf : patsX.filter (headF expandW) = sixP expH := by decide +kernel
  have hst : stps (Txt.wordsS s) (expH.map fitsB) (0, false) = (1, false) := by
    unfold expH; rw [← st1 h hk]; rfl
  rw [← hst] at hr
  obtain ⟨q, hS, hg⟩ := rule_sum hr
  exact none_of h hf hS
theorem expand_same {s : ByteArray} (h : isB (Txt.wordsS s) 0 false expandW = true) {pc ev : Int} {acc : List Int} {fr mn mi ti un : Int} {st : Nat × Bool} (hr : RuleR (Txt.wordsS s) (1, false) pc ev acc fr mn mi ti un st) : SameS s (.iface 174 (.agg #[.int .i64 pc, .int .i64 ev, .bool (isd acc 0), .bool (isd acc 1), .bool (isd acc 2), .bool (isd acc 3), .bool (isd acc 4), .bool (isd acc 5), .bool (isd acc 6), .int .i64 fr, .int .i64 mn, .int .i64 mi, .int .i64 ti, .int .i64 un])) st := by
  intro h2 hm
  have hk : plainB expandW = true := by decide +kernel
  have hf : patsX.filter (headF expandW) = sixP expH := by decide +kernel
  have hst : stps (Txt.wordsS s) (expH.map fitsB) (0, false) = (1, false) := by
    unfold expH; rw [← st1 h hk]; rfl
  rw [← hst] at hr
  obtain ⟨q, hS, hg⟩ := rule_sum hr
  obtain ⟨K, E, rfl, hq, hG⟩ := hg h2
  have hF := full_of h hf hS hq h2 hm
  clear hr hg hS hq hst
  obtain ⟨hpace, ⟨k0, k1, k2, k3, k4, k5, rfl, rfl, rfl⟩, hend⟩ := hG
  cases hpace with
  | daily p0 p1 =>
    cases hend with
    | times q0 q1 =>
      have g0 : ((Txt.wordsS s).getD 1 ByteArray.empty) = dailyW := p0
      have g1 : evB ((Txt.wordsS s).getD 2 ByteArray.empty) = true := p1
      have s0 : ((Txt.wordsS s).getD 3 ByteArray.empty) = fromW := k0
      have s1 : Txt.dayB ((Txt.wordsS s).getD 4 ByteArray.empty) = true := k1
      have s2 : ((Txt.wordsS s).getD 5 ByteArray.empty) = atW := k2
      have s3 : Txt.minB ((Txt.wordsS s).getD 6 ByteArray.empty) = true := k3
      have s4 : ((Txt.wordsS s).getD 7 ByteArray.empty) = forW := k4
      have s5 : miB ((Txt.wordsS s).getD 8 ByteArray.empty) = true := k5
      have t0 : ((Txt.wordsS s).getD 9 ByteArray.empty) = timesW := q0
      have t1 : evB ((Txt.wordsS s).getD 10 ByteArray.empty) = true := q1
      refine ⟨_, [expandW] ++ ([dailyW, Txt.itoaS (nvF ((Txt.wordsS s).getD 2 ByteArray.empty))] ++ sixW (dayV ((Txt.wordsS s).getD 4 ByteArray.empty)) (Txt.minV ((Txt.wordsS s).getD 6 ByteArray.empty)) (nvF ((Txt.wordsS s).getD 8 ByteArray.empty)) ++ [timesW, Txt.itoaS (nvF ((Txt.wordsS s).getD 10 ByteArray.empty))]), hF.sc, .expand _ _ _ _ _ _ _ _ _ (.mk _ _ _ _ _ _ _ _ _ _ (.daily _ _ (nv_bd _).1 (nv_bd _).2) (.times _ _ (ev_pos t1) (nv_bd _).2) (day_bd _).1 (day_bd _).2 (Txt.minV_bd _).1 (min_lt _) (nv_bd _).1 (nv_bd _).2), by simp, by simp [sixW], out_list (n := 11) hF rfl ?_⟩
      show [wrS expandW ((Txt.wordsS s).getD 0 ByteArray.empty), wrS dailyW ((Txt.wordsS s).getD 1 ByteArray.empty), wrS everyY ((Txt.wordsS s).getD 2 ByteArray.empty), wrS fromW ((Txt.wordsS s).getD 3 ByteArray.empty), wrS dateY ((Txt.wordsS s).getD 4 ByteArray.empty), wrS atW ((Txt.wordsS s).getD 5 ByteArray.empty), wrS minuteY ((Txt.wordsS s).getD 6 ByteArray.empty), wrS forW ((Txt.wordsS s).getD 7 ByteArray.empty), wrS minutesY ((Txt.wordsS s).getD 8 ByteArray.empty), wrS timesW ((Txt.wordsS s).getD 9 ByteArray.empty), wrS everyY ((Txt.wordsS s).getD 10 ByteArray.empty)] = [expandW, dailyW, Txt.itoaS (nvF ((Txt.wordsS s).getD 2 ByteArray.empty)), fromW, dateT (dayV ((Txt.wordsS s).getD 4 ByteArray.empty)), atW, minS (Txt.minV ((Txt.wordsS s).getD 6 ByteArray.empty)), forW, Txt.itoaS (nvF ((Txt.wordsS s).getD 8 ByteArray.empty)), timesW, Txt.itoaS (nvF ((Txt.wordsS s).getD 10 ByteArray.empty))]
      rw [wrL expandW _ hk, head_w h, wrL dailyW _ (by decide +kernel), g0, wrE _ g1, wrL fromW _ (by decide +kernel), s0, wrD, date_back _ s1, wrL atW _ (by decide +kernel), s2, wrM, min_back _ s3, wrL forW _ (by decide +kernel), s4, wrMi _ s5, wrL timesW _ (by decide +kernel), t0, wrE _ t1]
    | til q0 q1 =>
      have g0 : ((Txt.wordsS s).getD 1 ByteArray.empty) = dailyW := p0
      have g1 : evB ((Txt.wordsS s).getD 2 ByteArray.empty) = true := p1
      have s0 : ((Txt.wordsS s).getD 3 ByteArray.empty) = fromW := k0
      have s1 : Txt.dayB ((Txt.wordsS s).getD 4 ByteArray.empty) = true := k1
      have s2 : ((Txt.wordsS s).getD 5 ByteArray.empty) = atW := k2
      have s3 : Txt.minB ((Txt.wordsS s).getD 6 ByteArray.empty) = true := k3
      have s4 : ((Txt.wordsS s).getD 7 ByteArray.empty) = forW := k4
      have s5 : miB ((Txt.wordsS s).getD 8 ByteArray.empty) = true := k5
      have t0 : ((Txt.wordsS s).getD 9 ByteArray.empty) = untilW := q0
      have t1 : Txt.dayB ((Txt.wordsS s).getD 10 ByteArray.empty) = true := q1
      refine ⟨_, [expandW] ++ ([dailyW, Txt.itoaS (nvF ((Txt.wordsS s).getD 2 ByteArray.empty))] ++ sixW (dayV ((Txt.wordsS s).getD 4 ByteArray.empty)) (Txt.minV ((Txt.wordsS s).getD 6 ByteArray.empty)) (nvF ((Txt.wordsS s).getD 8 ByteArray.empty)) ++ [untilW, dateT (dayV ((Txt.wordsS s).getD 10 ByteArray.empty))]), hF.sc, .expand _ _ _ _ _ _ _ _ _ (.mk _ _ _ _ _ _ _ _ _ _ (.daily _ _ (nv_bd _).1 (nv_bd _).2) (.til _ (day_bd _).1 (day_bd _).2) (day_bd _).1 (day_bd _).2 (Txt.minV_bd _).1 (min_lt _) (nv_bd _).1 (nv_bd _).2), by simp, by simp [sixW], out_list (n := 11) hF rfl ?_⟩
      show [wrS expandW ((Txt.wordsS s).getD 0 ByteArray.empty), wrS dailyW ((Txt.wordsS s).getD 1 ByteArray.empty), wrS everyY ((Txt.wordsS s).getD 2 ByteArray.empty), wrS fromW ((Txt.wordsS s).getD 3 ByteArray.empty), wrS dateY ((Txt.wordsS s).getD 4 ByteArray.empty), wrS atW ((Txt.wordsS s).getD 5 ByteArray.empty), wrS minuteY ((Txt.wordsS s).getD 6 ByteArray.empty), wrS forW ((Txt.wordsS s).getD 7 ByteArray.empty), wrS minutesY ((Txt.wordsS s).getD 8 ByteArray.empty), wrS untilW ((Txt.wordsS s).getD 9 ByteArray.empty), wrS dateY ((Txt.wordsS s).getD 10 ByteArray.empty)] = [expandW, dailyW, Txt.itoaS (nvF ((Txt.wordsS s).getD 2 ByteArray.empty)), fromW, dateT (dayV ((Txt.wordsS s).getD 4 ByteArray.empty)), atW, minS (Txt.minV ((Txt.wordsS s).getD 6 ByteArray.empty)), forW, Txt.itoaS (nvF ((Txt.wordsS s).getD 8 ByteArray.empty)), untilW, dateT (dayV ((Txt.wordsS s).getD 10 ByteArray.empty))]
      rw [wrL expandW _ hk, head_w h, wrL dailyW _ (by decide +kernel), g0, wrE _ g1, wrL fromW _ (by decide +kernel), s0, wrD, date_back _ s1, wrL atW _ (by decide +kernel), s2, wrM, min_back _ s3, wrL forW _ (by decide +kernel), s4, wrMi _ s5, wrL untilW _ (by decide +kernel), t0, wrD, date_back _ t1]
  | weekly acc p0 p1 p2 =>
    cases hend with
    | times q0 q1 =>
      have g0 : ((Txt.wordsS s).getD 1 ByteArray.empty) = weeklyW := p0
      have g1 : evB ((Txt.wordsS s).getD 2 ByteArray.empty) = true := p1
      have g2 : Txt.onW ((Txt.wordsS s).getD 3 ByteArray.empty) = some acc := p2
      have s0 : ((Txt.wordsS s).getD 4 ByteArray.empty) = fromW := k0
      have s1 : Txt.dayB ((Txt.wordsS s).getD 5 ByteArray.empty) = true := k1
      have s2 : ((Txt.wordsS s).getD 6 ByteArray.empty) = atW := k2
      have s3 : Txt.minB ((Txt.wordsS s).getD 7 ByteArray.empty) = true := k3
      have s4 : ((Txt.wordsS s).getD 8 ByteArray.empty) = forW := k4
      have s5 : miB ((Txt.wordsS s).getD 9 ByteArray.empty) = true := k5
      have t0 : ((Txt.wordsS s).getD 10 ByteArray.empty) = timesW := q0
      have t1 : evB ((Txt.wordsS s).getD 11 ByteArray.empty) = true := q1
      refine ⟨_, [expandW] ++ ([weeklyW, Txt.itoaS (nvF ((Txt.wordsS s).getD 2 ByteArray.empty)), onJ acc] ++ sixW (dayV ((Txt.wordsS s).getD 5 ByteArray.empty)) (Txt.minV ((Txt.wordsS s).getD 7 ByteArray.empty)) (nvF ((Txt.wordsS s).getD 9 ByteArray.empty)) ++ [timesW, Txt.itoaS (nvF ((Txt.wordsS s).getD 11 ByteArray.empty))]), hF.sc, .expand _ _ _ _ _ _ _ _ _ (.mk _ _ _ _ _ _ _ _ _ _ (.weekly _ _ (nv_bd _).1 (nv_bd _).2 (onL_ne g2) (onL_short acc)) (.times _ _ (ev_pos t1) (nv_bd _).2) (day_bd _).1 (day_bd _).2 (Txt.minV_bd _).1 (min_lt _) (nv_bd _).1 (nv_bd _).2), by simp, by simp [sixW], out_list (n := 12) hF rfl ?_⟩
      show [wrS expandW ((Txt.wordsS s).getD 0 ByteArray.empty), wrS weeklyW ((Txt.wordsS s).getD 1 ByteArray.empty), wrS everyY ((Txt.wordsS s).getD 2 ByteArray.empty), wrS onY ((Txt.wordsS s).getD 3 ByteArray.empty), wrS fromW ((Txt.wordsS s).getD 4 ByteArray.empty), wrS dateY ((Txt.wordsS s).getD 5 ByteArray.empty), wrS atW ((Txt.wordsS s).getD 6 ByteArray.empty), wrS minuteY ((Txt.wordsS s).getD 7 ByteArray.empty), wrS forW ((Txt.wordsS s).getD 8 ByteArray.empty), wrS minutesY ((Txt.wordsS s).getD 9 ByteArray.empty), wrS timesW ((Txt.wordsS s).getD 10 ByteArray.empty), wrS everyY ((Txt.wordsS s).getD 11 ByteArray.empty)] = [expandW, weeklyW, Txt.itoaS (nvF ((Txt.wordsS s).getD 2 ByteArray.empty)), onJ acc, fromW, dateT (dayV ((Txt.wordsS s).getD 5 ByteArray.empty)), atW, minS (Txt.minV ((Txt.wordsS s).getD 7 ByteArray.empty)), forW, Txt.itoaS (nvF ((Txt.wordsS s).getD 9 ByteArray.empty)), timesW, Txt.itoaS (nvF ((Txt.wordsS s).getD 11 ByteArray.empty))]
      rw [wrL expandW _ hk, head_w h, wrL weeklyW _ (by decide +kernel), g0, wrE _ g1, wrO, onWS_eq g2, wrL fromW _ (by decide +kernel), s0, wrD, date_back _ s1, wrL atW _ (by decide +kernel), s2, wrM, min_back _ s3, wrL forW _ (by decide +kernel), s4, wrMi _ s5, wrL timesW _ (by decide +kernel), t0, wrE _ t1]
    | til q0 q1 =>
      have g0 : ((Txt.wordsS s).getD 1 ByteArray.empty) = weeklyW := p0
      have g1 : evB ((Txt.wordsS s).getD 2 ByteArray.empty) = true := p1
      have g2 : Txt.onW ((Txt.wordsS s).getD 3 ByteArray.empty) = some acc := p2
      have s0 : ((Txt.wordsS s).getD 4 ByteArray.empty) = fromW := k0
      have s1 : Txt.dayB ((Txt.wordsS s).getD 5 ByteArray.empty) = true := k1
      have s2 : ((Txt.wordsS s).getD 6 ByteArray.empty) = atW := k2
      have s3 : Txt.minB ((Txt.wordsS s).getD 7 ByteArray.empty) = true := k3
      have s4 : ((Txt.wordsS s).getD 8 ByteArray.empty) = forW := k4
      have s5 : miB ((Txt.wordsS s).getD 9 ByteArray.empty) = true := k5
      have t0 : ((Txt.wordsS s).getD 10 ByteArray.empty) = untilW := q0
      have t1 : Txt.dayB ((Txt.wordsS s).getD 11 ByteArray.empty) = true := q1
      refine ⟨_, [expandW] ++ ([weeklyW, Txt.itoaS (nvF ((Txt.wordsS s).getD 2 ByteArray.empty)), onJ acc] ++ sixW (dayV ((Txt.wordsS s).getD 5 ByteArray.empty)) (Txt.minV ((Txt.wordsS s).getD 7 ByteArray.empty)) (nvF ((Txt.wordsS s).getD 9 ByteArray.empty)) ++ [untilW, dateT (dayV ((Txt.wordsS s).getD 11 ByteArray.empty))]), hF.sc, .expand _ _ _ _ _ _ _ _ _ (.mk _ _ _ _ _ _ _ _ _ _ (.weekly _ _ (nv_bd _).1 (nv_bd _).2 (onL_ne g2) (onL_short acc)) (.til _ (day_bd _).1 (day_bd _).2) (day_bd _).1 (day_bd _).2 (Txt.minV_bd _).1 (min_lt _) (nv_bd _).1 (nv_bd _).2), by simp, by simp [sixW], out_list (n := 12) hF rfl ?_⟩
      show [wrS expandW ((Txt.wordsS s).getD 0 ByteArray.empty), wrS weeklyW ((Txt.wordsS s).getD 1 ByteArray.empty), wrS everyY ((Txt.wordsS s).getD 2 ByteArray.empty), wrS onY ((Txt.wordsS s).getD 3 ByteArray.empty), wrS fromW ((Txt.wordsS s).getD 4 ByteArray.empty), wrS dateY ((Txt.wordsS s).getD 5 ByteArray.empty), wrS atW ((Txt.wordsS s).getD 6 ByteArray.empty), wrS minuteY ((Txt.wordsS s).getD 7 ByteArray.empty), wrS forW ((Txt.wordsS s).getD 8 ByteArray.empty), wrS minutesY ((Txt.wordsS s).getD 9 ByteArray.empty), wrS untilW ((Txt.wordsS s).getD 10 ByteArray.empty), wrS dateY ((Txt.wordsS s).getD 11 ByteArray.empty)] = [expandW, weeklyW, Txt.itoaS (nvF ((Txt.wordsS s).getD 2 ByteArray.empty)), onJ acc, fromW, dateT (dayV ((Txt.wordsS s).getD 5 ByteArray.empty)), atW, minS (Txt.minV ((Txt.wordsS s).getD 7 ByteArray.empty)), forW, Txt.itoaS (nvF ((Txt.wordsS s).getD 9 ByteArray.empty)), untilW, dateT (dayV ((Txt.wordsS s).getD 11 ByteArray.empty))]
      rw [wrL expandW _ hk, head_w h, wrL weeklyW _ (by decide +kernel), g0, wrE _ g1, wrO, onWS_eq g2, wrL fromW _ (by decide +kernel), s0, wrD, date_back _ s1, wrL atW _ (by decide +kernel), s2, wrM, min_back _ s3, wrL forW _ (by decide +kernel), s4, wrMi _ s5, wrL untilW _ (by decide +kernel), t0, wrD, date_back _ t1]
  | monthly p0 p1 =>
    cases hend with
    | times q0 q1 =>
      have g0 : ((Txt.wordsS s).getD 1 ByteArray.empty) = monthlyW := p0
      have g1 : evB ((Txt.wordsS s).getD 2 ByteArray.empty) = true := p1
      have s0 : ((Txt.wordsS s).getD 3 ByteArray.empty) = fromW := k0
      have s1 : Txt.dayB ((Txt.wordsS s).getD 4 ByteArray.empty) = true := k1
      have s2 : ((Txt.wordsS s).getD 5 ByteArray.empty) = atW := k2
      have s3 : Txt.minB ((Txt.wordsS s).getD 6 ByteArray.empty) = true := k3
      have s4 : ((Txt.wordsS s).getD 7 ByteArray.empty) = forW := k4
      have s5 : miB ((Txt.wordsS s).getD 8 ByteArray.empty) = true := k5
      have t0 : ((Txt.wordsS s).getD 9 ByteArray.empty) = timesW := q0
      have t1 : evB ((Txt.wordsS s).getD 10 ByteArray.empty) = true := q1
      refine ⟨_, [expandW] ++ ([monthlyW, Txt.itoaS (nvF ((Txt.wordsS s).getD 2 ByteArray.empty))] ++ sixW (dayV ((Txt.wordsS s).getD 4 ByteArray.empty)) (Txt.minV ((Txt.wordsS s).getD 6 ByteArray.empty)) (nvF ((Txt.wordsS s).getD 8 ByteArray.empty)) ++ [timesW, Txt.itoaS (nvF ((Txt.wordsS s).getD 10 ByteArray.empty))]), hF.sc, .expand _ _ _ _ _ _ _ _ _ (.mk _ _ _ _ _ _ _ _ _ _ (.monthly _ _ (nv_bd _).1 (nv_bd _).2) (.times _ _ (ev_pos t1) (nv_bd _).2) (day_bd _).1 (day_bd _).2 (Txt.minV_bd _).1 (min_lt _) (nv_bd _).1 (nv_bd _).2), by simp, by simp [sixW], out_list (n := 11) hF rfl ?_⟩
      show [wrS expandW ((Txt.wordsS s).getD 0 ByteArray.empty), wrS monthlyW ((Txt.wordsS s).getD 1 ByteArray.empty), wrS everyY ((Txt.wordsS s).getD 2 ByteArray.empty), wrS fromW ((Txt.wordsS s).getD 3 ByteArray.empty), wrS dateY ((Txt.wordsS s).getD 4 ByteArray.empty), wrS atW ((Txt.wordsS s).getD 5 ByteArray.empty), wrS minuteY ((Txt.wordsS s).getD 6 ByteArray.empty), wrS forW ((Txt.wordsS s).getD 7 ByteArray.empty), wrS minutesY ((Txt.wordsS s).getD 8 ByteArray.empty), wrS timesW ((Txt.wordsS s).getD 9 ByteArray.empty), wrS everyY ((Txt.wordsS s).getD 10 ByteArray.empty)] = [expandW, monthlyW, Txt.itoaS (nvF ((Txt.wordsS s).getD 2 ByteArray.empty)), fromW, dateT (dayV ((Txt.wordsS s).getD 4 ByteArray.empty)), atW, minS (Txt.minV ((Txt.wordsS s).getD 6 ByteArray.empty)), forW, Txt.itoaS (nvF ((Txt.wordsS s).getD 8 ByteArray.empty)), timesW, Txt.itoaS (nvF ((Txt.wordsS s).getD 10 ByteArray.empty))]
      rw [wrL expandW _ hk, head_w h, wrL monthlyW _ (by decide +kernel), g0, wrE _ g1, wrL fromW _ (by decide +kernel), s0, wrD, date_back _ s1, wrL atW _ (by decide +kernel), s2, wrM, min_back _ s3, wrL forW _ (by decide +kernel), s4, wrMi _ s5, wrL timesW _ (by decide +kernel), t0, wrE _ t1]
    | til q0 q1 =>
      have g0 : ((Txt.wordsS s).getD 1 ByteArray.empty) = monthlyW := p0
      have g1 : evB ((Txt.wordsS s).getD 2 ByteArray.empty) = true := p1
      have s0 : ((Txt.wordsS s).getD 3 ByteArray.empty) = fromW := k0
      have s1 : Txt.dayB ((Txt.wordsS s).getD 4 ByteArray.empty) = true := k1
      have s2 : ((Txt.wordsS s).getD 5 ByteArray.empty) = atW := k2
      have s3 : Txt.minB ((Txt.wordsS s).getD 6 ByteArray.empty) = true := k3
      have s4 : ((Txt.wordsS s).getD 7 ByteArray.empty) = forW := k4
      have s5 : miB ((Txt.wordsS s).getD 8 ByteArray.empty) = true := k5
      have t0 : ((Txt.wordsS s).getD 9 ByteArray.empty) = untilW := q0
      have t1 : Txt.dayB ((Txt.wordsS s).getD 10 ByteArray.empty) = true := q1
      refine ⟨_, [expandW] ++ ([monthlyW, Txt.itoaS (nvF ((Txt.wordsS s).getD 2 ByteArray.empty))] ++ sixW (dayV ((Txt.wordsS s).getD 4 ByteArray.empty)) (Txt.minV ((Txt.wordsS s).getD 6 ByteArray.empty)) (nvF ((Txt.wordsS s).getD 8 ByteArray.empty)) ++ [untilW, dateT (dayV ((Txt.wordsS s).getD 10 ByteArray.empty))]), hF.sc, .expand _ _ _ _ _ _ _ _ _ (.mk _ _ _ _ _ _ _ _ _ _ (.monthly _ _ (nv_bd _).1 (nv_bd _).2) (.til _ (day_bd _).1 (day_bd _).2) (day_bd _).1 (day_bd _).2 (Txt.minV_bd _).1 (min_lt _) (nv_bd _).1 (nv_bd _).2), by simp, by simp [sixW], out_list (n := 11) hF rfl ?_⟩
      show [wrS expandW ((Txt.wordsS s).getD 0 ByteArray.empty), wrS monthlyW ((Txt.wordsS s).getD 1 ByteArray.empty), wrS everyY ((Txt.wordsS s).getD 2 ByteArray.empty), wrS fromW ((Txt.wordsS s).getD 3 ByteArray.empty), wrS dateY ((Txt.wordsS s).getD 4 ByteArray.empty), wrS atW ((Txt.wordsS s).getD 5 ByteArray.empty), wrS minuteY ((Txt.wordsS s).getD 6 ByteArray.empty), wrS forW ((Txt.wordsS s).getD 7 ByteArray.empty), wrS minutesY ((Txt.wordsS s).getD 8 ByteArray.empty), wrS untilW ((Txt.wordsS s).getD 9 ByteArray.empty), wrS dateY ((Txt.wordsS s).getD 10 ByteArray.empty)] = [expandW, monthlyW, Txt.itoaS (nvF ((Txt.wordsS s).getD 2 ByteArray.empty)), fromW, dateT (dayV ((Txt.wordsS s).getD 4 ByteArray.empty)), atW, minS (Txt.minV ((Txt.wordsS s).getD 6 ByteArray.empty)), forW, Txt.itoaS (nvF ((Txt.wordsS s).getD 8 ByteArray.empty)), untilW, dateT (dayV ((Txt.wordsS s).getD 10 ByteArray.empty))]
      rw [wrL expandW _ hk, head_w h, wrL monthlyW _ (by decide +kernel), g0, wrE _ g1, wrL fromW _ (by decide +kernel), s0, wrD, date_back _ s1, wrL atW _ (by decide +kernel), s2, wrM, min_back _ s3, wrL forW _ (by decide +kernel), s4, wrMi _ s5, wrL untilW _ (by decide +kernel), t0, wrD, date_back _ t1]
def heads : List ByteArray := [thingW, bookW, holdW, waitW, seriesW, confirmW, cancelW, listW, waitingW, peakW, findW, expandW, tickW, clockW]
theorem heads_of : ∀ p ∈ patsX, ∃ k ∈ heads, p.headD ByteArray.empty = k := by decide +kernel
theorem heads_plain : ∀ k ∈ heads, plainB k = true := by decide +kernel
theorem nothing {s : ByteArray} (h : ∀ k ∈ heads, isB (Txt.wordsS s) 0 false k = false) : scanS s = (none, 0) := by
  unfold scanS
  rw [pats_eq, scan_filter _ (fun _ => false) patsX 0]
  · have : patsX.filter (fun _ => false) = [] := by simp
    rw [this]; rfl
  · intro p hp _
    have hne := pats_ne p hp
    refine ⟨?_, hne⟩
    obtain ⟨k, hh, hke⟩ := heads_of p hp
    rw [← hke] at hh
    match p, hne, hh with
    | x :: p', _, hh =>
      have hx := h x hh
      have hf := fitL x (heads_plain x hh)
      match hw : Txt.wordsS s with
      | [] => rfl
      | a :: t =>
        rw [hw] at hx
        have e : fitsB x a = false := by
          rw [hf]
          have h1 : tkB (a :: t) 0 false (litB x) = false := hx
          unfold tkB moreB at h1
          simpa using h1
        rw [pre, e]; rfl
theorem line_none {s : ByteArray} {v : Value} {st : Nat × Bool} (hl : LineR (Txt.wordsS s) v st) : NoneS s st := by
  cases hl with
  | thing h => exact thing_none h
  | book h => exact book_none h
  | hold h => exact hold_none h
  | wait h => exact wait_none h
  | series h _ _ _ _ _ _ _ _ _ hr => exact series_none h hr
  | confirm h => exact confirm_none h
  | cancel h => exact cancel_none h
  | list0 h hm => exact list0_none h hm
  | list1 h hm => exact list1_none h hm
  | waiting h => exact waiting_none h
  | peak h => exact peak_none h
  | find h => exact find_none h
  | expand h _ _ _ _ _ _ _ _ _ hr => exact expand_none h hr
  | tick h => exact tick_none h
  | clock h => exact clock_none h
  | none h0 h1 h2 h3 h4 h5 h6 h7 h8 h9 h10 h11 h12 h13 =>
    intro _
    refine nothing ?_
    intro k hk
    simp only [heads, List.mem_cons, List.not_mem_nil, or_false] at hk
    rcases hk with rfl | rfl | rfl | rfl | rfl | rfl | rfl | rfl | rfl | rfl | rfl | rfl | rfl | rfl <;> assumption
theorem line_same {s : ByteArray} {v : Value} {st : Nat × Bool} (hl : LineR (Txt.wordsS s) v st) : SameS s v st := by
  cases hl with
  | thing h => exact thing_same h
  | book h => exact book_same h
  | hold h => exact hold_same h
  | wait h => exact wait_same h
  | series h _ _ _ _ _ _ _ _ _ hr => exact series_same h hr
  | confirm h => exact confirm_same h
  | cancel h => exact cancel_same h
  | list0 h hm => exact list0_same h hm
  | list1 h hm => exact list1_same h hm
  | waiting h => exact waiting_same h
  | peak h => exact peak_same h
  | find h => exact find_same h
  | expand h _ _ _ _ _ _ _ _ _ hr => exact expand_same h hr
  | tick h => exact tick_same h
  | clock h => exact clock_same h
  | none => intro h2; exact absurd h2 (by decide)
end Go.Proofs.YtjfkfiffakbagaaGreatDoor
