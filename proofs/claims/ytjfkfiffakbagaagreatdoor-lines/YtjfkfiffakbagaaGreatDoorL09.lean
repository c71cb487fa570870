/-
  Parts of the proof, one behind the other: RefPlain, Steps, Kinds, RuleSum, Wrote.
-/
import Derived.Test.YtjfkfiffakbagaaGreatDoorL08
/-
  The walk over the document's Plain.
-/
namespace Go.Proofs.YtjfkfiffakbagaaGreatDoor
open Go.RowKit

/-- The first k words in their plain form, a blank between each two. -/
def outR (p ws : List ByteArray) : Nat → ByteArray
  | 0 => ⟨#[]⟩
  | k + 1 => (if 0 < k then outR p ws k ++ ⟨#[32]⟩ else outR p ws k) ++ wrS (p.getD k ⟨#[]⟩) (ws.getD k ⟨#[]⟩)

theorem itoa_size2 (n : Int) (h0 : -1 ≤ n) (h : n ≤ 9999999) : (Txt.itoaS n).size ≤ 160 := by
  by_cases e : n = -1
  · subst e; decide +kernel
  · have := Txt.itoa_size n (by omega) h; omega
theorem timeT_size (t : Int) (h0 : 0 ≤ t) (h1 : t ≤ 1048320) : (timeT t).size ≤ 160 := by
  have z1 := dateT_size (t / 1440) (by omega) (by omega)
  have z2 := minS_size (t % 1440) (by omega) (by omega)
  have e3 : (⟨#[47]⟩ : ByteArray).size = 1 := by decide
  unfold timeT
  simp only [ByteArray.size_append]
  omega
theorem onWS_size (w : ByteArray) : (onWS w).size ≤ 160 := by
  unfold onWS
  split
  · rename_i acc _
    have := onOut_size acc 7
    have e : (onT acc).size = min (onOut acc 7).size (onOut acc 7).size - 1 := ByteArray.size_extract ..
    omega
  · exact Nat.zero_le _
theorem wr_size (sym w : ByteArray) (hs : w.size ≤ 160) (hf : fitsB sym w = true) : (wrS sym w).size ≤ 160 := by
  have nb := numR_bd w
  have iz := itoa_size2 (numR w 1 7) nb.1 nb.2
  unfold wrS
  split
  · exact iz
  · split
    · exact iz
    · split
      · exact iz
      · split
        · exact iz
        · split
          · rename_i h; exact timeT_size _ (fit_time h hf) (timR_bd w).2
          · split
            · exact onWS_size w
            · exact hs
theorem scan_some : ∀ (ps : List (List ByteArray)) (ws : List ByteArray) (m : Nat) (p : List ByteArray), scan ps ws m = (some p, 0) → pre p ws = p.length ∧ pre p ws = ws.length
  | [], _, _, _, h => by simp [scan] at h
  | q :: ps, ws, m, p, h => by
    unfold scan at h
    split at h
    · rename_i hc; simp at h; subst h; exact hc
    · exact scan_some ps ws _ p h
theorem outR_size (p ws : List ByteArray) (hl : pre p ws = p.length) (hl2 : pre p ws = ws.length) (hw : ∀ x ∈ ws, x.size ≤ 160) : ∀ k : Nat, k ≤ ws.length → (outR p ws k).size ≤ 161 * k
  | 0, _ => Nat.le_refl _
  | k + 1, hk => by
    have ih := outR_size p ws hl hl2 hw k (by omega)
    have hf := pre_fit p ws k (by omega) (by omega) (by omega)
    have e1 : p.getD k ⟨#[]⟩ = p[k]'(by omega) := by simp [List.getD, show k < p.length by omega]
    have e2 : ws.getD k ⟨#[]⟩ = ws[k]'(by omega) := by simp [List.getD, show k < ws.length by omega]
    have z := wr_size (p[k]'(by omega)) (ws[k]'(by omega)) (hw _ (List.getElem_mem (by omega))) hf
    have e3 : (⟨#[32]⟩ : ByteArray).size = 1 := by decide
    unfold outR
    rw [e1, e2]
    split
    · simp only [ByteArray.size_append]; omega
    · simp only [ByteArray.size_append]; omega

/-- What Plain answers, by the document. -/
def PR (s : ByteArray) (e : Ending) : Prop :=
  (160 < s.size ∧ e = .returned (.tuple #[.string ⟨#[]⟩, .int .i64 1, .int .i64 0])) ∨
  (s.size ≤ 160 ∧ ((∃ p, scanS s = (some p, 0) ∧ e = .returned (.tuple #[.string (outR p (Txt.wordsS s) (Txt.wordsS s).length), .int .i64 0, .int .i64 0])) ∨
    (∃ m : Nat, scanS s = (none, m) ∧ e = .returned (.tuple #[.string ⟨#[]⟩, .int .i64 2, .int .i64 m]))))

set_option maxHeartbeats 1000000 in
theorem refRead_long (s : ByteArray) (w : World) (hs : 160 < s.size) :
    Calls Tryz.prog 78 #[.string s] w fun e w' => e = .returned (.tuple #[.slice none 0 0, .slice none 0 0, .int .i64 1, .int .i64 0]) ∧ w' = w := by
  have hs2 : (160 : Int) < (s.size : Int) := by omega
  go_enter Tryz.func78, Tryz.ntmps78
  go_wp2
  (try simp only [Exit.inBlock, Exit.then]); refine bodyPost_ret (results_tmp4 rfl _ _ _) rfl ?_
  exact ⟨rfl, rfl⟩

set_option maxRecDepth 100000 in
set_option maxHeartbeats 2000000 in
theorem refPlain_any (s : ByteArray) (w : World) (he : Env w) :
    Calls Tryz.prog 54 #[.string s] w fun e w' => PR s e ∧ Below w.heap.size w w' := by
  by_cases hs : s.size ≤ 160
  · have HE := hide he
    clear he
    go_enter Tryz.func54, Tryz.ntmps54
    go_wp2_with fail
    refine (refRead_any s w hs).mono ?_
    rintro e w1 ⟨hr, hb1⟩
    rcases hr with ⟨p, a, b, c, d, g, h, hsc, rfl, ra, rb⟩ | ⟨m, hsc, rfl⟩
    · have ⟨l1, l2⟩ := scan_some _ _ _ _ hsc
      have HSC := hide hsc
      have hws := words_len s
      have hw : ∀ x ∈ Txt.wordsS s, x.size ≤ 160 := fun x hx => Nat.le_trans (words_small s x hx) hs
      have HOZ := hide (outR_size p (Txt.wordsS s) l1 l2 hw)
      have HW := hide hw
      have L1 := hide l1
      have L2 := hide l2
      have HPF := hide (pre_fit p (Txt.wordsS s))
      clear hsc hw l1 l2
      go_wp2
      go_loopw [9, 10, 11] (fun o i _ wx => ∃ k : Nat, k ≤ (Txt.wordsS s).length ∧ i = .int .i64 k ∧ o = .string (outR p (Txt.wordsS s) k) ∧ Row wx a g (Txt.wordsS s) ∧ Row wx b h p ∧ Below w.heap.size w wx) (fun _ i _ _ => (Txt.wordsS s).length - (intOf i).toNat)
      case atStart => exact ⟨0, Nat.zero_le _, rfl, rfl, ra, rb, hb1⟩
      case round =>
        obtain ⟨k, hk, rfl, rfl, rak, rbk, hbk⟩ := hrel
        clear ra rb
        have oz := unhide HOZ k hk
        by_cases hlt : k < (Txt.wordsS s).length
        · have hlp : k < p.length := by have := unhide L1; have := unhide L2; omega
          obtain rfl := rak.at_ (by omega)
          obtain rfl := rbk.at_ (by omega)
          have k1 := rbk.cells k hlp
          have k2 := rak.cells k hlt
          have j1 : (k : Int) < (p.length : Int) := by omega
          have j2 : (k : Int) < ((Txt.wordsS s).length : Int) := by omega
          have j0 : (0 : Int) ≤ (k : Int) := Int.natCast_nonneg _
          have hsm : (Txt.wordsS s)[k].size ≤ 160 := unhide HW _ (List.getElem_mem hlt)
          have hft : fitsB p[k] (Txt.wordsS s)[k] = true := unhide HPF k hlp hlt (by have := unhide L2; omega)
          have HSM := hide hsm
          have HFT := hide hft
          have wz := wr_size _ _ hsm hft
          have HST : Hid (outR p (Txt.wordsS s) (k + 1) = (if 0 < k then outR p (Txt.wordsS s) k ++ ⟨#[32]⟩ else outR p (Txt.wordsS s) k) ++ wrS p[k] (Txt.wordsS s)[k]) := by
            show outR p (Txt.wordsS s) (k + 1) = _
            rw [outR, show p.getD k ⟨#[]⟩ = p[k] from by simp [List.getD, hlp], show (Txt.wordsS s).getD k ⟨#[]⟩ = (Txt.wordsS s)[k] from by simp [List.getD, hlt]]
          clear hsm hft
          have hEk := hide ((unhide HE).later hbk)
          by_cases hk0 : 0 < k
          · have j3 : (0 : Int) < (k : Int) := by omega
            have HS2 : Hid (outR p (Txt.wordsS s) (k + 1) = outR p (Txt.wordsS s) k ++ ⟨#[32]⟩ ++ wrS p[k] (Txt.wordsS s)[k]) := HST.out.trans (by rw [if_pos hk0])
            go_wp2_with fail
            go_region_held3 (fun w' => w'.cell? ⟨h, k, none⟩ = some (.string p[k]) ∧ w'.cell? ⟨g, k, none⟩ = some (.string (Txt.wordsS s)[k]))
              (first
                | go_keep
                | (go_split_ands
                   refine ⟨?_, ?_⟩
                   · exact cell_later hbf (by assumption)
                   · exact cell_later hbf (by assumption)))
              ((go_at_call 79; refine (written_any _ _ _ ?_ (unhide HSM) (unhide HFT)).mono ?_; exact (unhide hEk).later ⟨rfl, rfl, rfl, Nat.le_refl _, fun _ _ => rfl⟩; rintro e w4 ⟨rfl, hbf⟩))
            have hbf' : Below wr.heap.size wr w4 := ⟨hbf.os, hbf.tape, hbf.output, hbf.size, hbf.block⟩
            have hbx4 := hbk.trans (hbf'.mono hbk.size)
            have ra4 := rak.later hbf'
            have rb4 := rbk.later hbf'
            go_wp2
            exact ⟨⟨k + 1, by omega, by go_num, by rw [HS2.out], ra4, rb4, hbx4⟩, by simp [intOf]; omega⟩
          · have j3 : ¬ (0 : Int) < (k : Int) := by omega
            have HS2 : Hid (outR p (Txt.wordsS s) (k + 1) = outR p (Txt.wordsS s) k ++ wrS p[k] (Txt.wordsS s)[k]) := HST.out.trans (by rw [if_neg hk0])
            go_wp2_with fail
            go_region_held3 (fun w' => w'.cell? ⟨h, k, none⟩ = some (.string p[k]) ∧ w'.cell? ⟨g, k, none⟩ = some (.string (Txt.wordsS s)[k]))
              (first
                | go_keep
                | (go_split_ands
                   refine ⟨?_, ?_⟩
                   · exact cell_later hbf (by assumption)
                   · exact cell_later hbf (by assumption)))
              ((go_at_call 79; refine (written_any _ _ _ ?_ (unhide HSM) (unhide HFT)).mono ?_; exact (unhide hEk).later ⟨rfl, rfl, rfl, Nat.le_refl _, fun _ _ => rfl⟩; rintro e w4 ⟨rfl, hbf⟩))
            have hbf' : Below wr.heap.size wr w4 := ⟨hbf.os, hbf.tape, hbf.output, hbf.size, hbf.block⟩
            have hbx4 := hbk.trans (hbf'.mono hbk.size)
            have ra4 := rak.later hbf'
            have rb4 := rbk.later hbf'
            go_wp2
            exact ⟨⟨k + 1, by omega, by go_num, by rw [HS2.out], ra4, rb4, hbx4⟩, by simp [intOf]; omega⟩
        · obtain rfl : k = (Txt.wordsS s).length := by omega
          go_wp2
          go_ret3
          exact ⟨.inr ⟨hs, .inl ⟨p, unhide HSC, rfl⟩⟩, hbk⟩
    · have HSC := hide hsc
      clear hsc
      go_wp2
      go_ret3
      exact ⟨.inr ⟨hs, .inr ⟨m, unhide HSC, rfl⟩⟩, hb1⟩
  · go_enter Tryz.func54, Tryz.ntmps54
    go_wp2_with fail
    refine (refRead_long s w (by omega)).mono ?_
    rintro e w1 ⟨rfl, rfl⟩
    go_wp2
    go_ret3
    exact ⟨.inl ⟨by omega, rfl⟩, Below.refl _ _⟩

end Go.Proofs.YtjfkfiffakbagaaGreatDoor

/-
  The plain mathematics of the reader's steps and the document's patterns.
-/
namespace Go.Proofs.YtjfkfiffakbagaaGreatDoor
open Go.RowKit

theorem stps_app (ws : List ByteArray) (P Q : List (ByteArray → Bool)) (st : Nat × Bool) : stps ws (P ++ Q) st = stps ws Q (stps ws P st) := List.foldl_append ..
theorem stp_bad (ws : List ByteArray) (B : ByteArray → Bool) (n : Nat) : stp ws B (n, true) = (n, true) := by simp [stp, tkN, tkW, tkB, moreB]
theorem stps_bad (ws : List ByteArray) : ∀ (Bs : List (ByteArray → Bool)) (n : Nat), stps ws Bs (n, true) = (n, true)
  | [], _ => rfl
  | B :: Bs, n => by
    show stps ws Bs (stp ws B (n, true)) = _
    rw [stp_bad, stps_bad ws Bs n]
theorem stp_yes {ws : List ByteArray} {B : ByteArray → Bool} {n : Nat} (h : n < ws.length) (hB : B (ws.getD n ByteArray.empty) = true) : stp ws B (n, false) = (n + 1, false) := by
  simp only [stp, tkN, tkW, tkB, moreB, hB, h, decide_true, Bool.not_false, Bool.and_self, if_true]
theorem stp_no {ws : List ByteArray} {B : ByteArray → Bool} {n : Nat} (h : tkB ws n false B = false) : stp ws B (n, false) = (n, true) := by
  simp only [stp, tkN, tkW, h, if_false, Bool.false_eq_true]
theorem tkB_end {ws : List ByteArray} {B : ByteArray → Bool} {n : Nat} (h : ¬ n < ws.length) : tkB ws n false B = false := by simp [tkB, moreB, h]
theorem tkB_not {ws : List ByteArray} {B : ByteArray → Bool} {n : Nat} (h : B (ws.getD n ByteArray.empty) = false) : tkB ws n false B = false := by simp only [tkB, h, Bool.and_false]
theorem tkB_true {ws : List ByteArray} {B : ByteArray → Bool} {n : Nat} {wr : Bool} (h : tkB ws n wr B = true) : wr = false ∧ n < ws.length ∧ B (ws.getD n ByteArray.empty) = true := by
  unfold tkB moreB at h
  simp only [Bool.and_eq_true, Bool.not_eq_true', decide_eq_true_eq] at h
  exact ⟨h.1.1, h.1.2, h.2⟩

theorem stps_pre (ws : List ByteArray) : ∀ (p : List ByteArray) (n : Nat), n ≤ ws.length → stps ws (p.map fitsB) (n, false) = (n + pre p (ws.drop n), decide (pre p (ws.drop n) ≠ p.length))
  | [], n, _ => by simp [pre, stps]
  | s :: p, n, hn => by
    show stps ws (p.map fitsB) (stp ws (fitsB s) (n, false)) = _
    by_cases hlt : n < ws.length
    · have hd : ws.drop n = ws[n] :: ws.drop (n + 1) := List.drop_eq_getElem_cons hlt
      have hg : ws.getD n ByteArray.empty = ws[n] := getD_lt ws n hlt
      cases hf : fitsB s ws[n]
      · rw [stp_no (tkB_not (by rw [hg]; exact hf)), stps_bad, hd, pre, hf]
        simp
      · rw [stp_yes hlt (by rw [hg]; exact hf), stps_pre ws p (n + 1) hlt, hd, pre, hf]
        simp only [if_true]
        refine Prod.ext ?_ ?_
        · show n + 1 + _ = n + (_ + 1); omega
        · simp
    · rw [stp_no (tkB_end hlt), stps_bad, List.drop_of_length_le (by omega)]
      simp [pre]
theorem stps0 (ws p : List ByteArray) : stps ws (p.map fitsB) (0, false) = (pre p ws, decide (pre p ws ≠ p.length)) := by
  have := stps_pre ws p 0 (Nat.zero_le _)
  simpa using this
theorem pre_of {ws p : List ByteArray} {n : Nat} {b : Bool} (h : stps ws (p.map fitsB) (0, false) = (n, b)) : pre p ws = n := by
  rw [stps0] at h; exact (Prod.mk.inj h).1
theorem ok_of {ws p : List ByteArray} {n : Nat} (h : stps ws (p.map fitsB) (0, false) = (n, false)) : n = p.length := by
  rw [stps0] at h
  obtain ⟨h1, h2⟩ := Prod.mk.inj h
  rw [h1] at h2
  by_cases e : n = p.length
  · exact e
  · simp [e] at h2
theorem bad_of {ws p : List ByteArray} {n : Nat} (h : stps ws (p.map fitsB) (0, false) = (n, true)) : n < p.length := by
  have hp := (pre_le p ws).1
  rw [stps0] at h
  obtain ⟨h1, h2⟩ := Prod.mk.inj h
  rw [h1] at h2 hp
  by_cases e : n = p.length
  · simp [e] at h2
  · omega
/-- A part failed: the whole fails there. -/
theorem pre_bad {ws Q : List ByteArray} (R : List ByteArray) {n : Nat} (h : stps ws (Q.map fitsB) (0, false) = (n, true)) : pre (Q ++ R) ws = n := by
  apply pre_of (b := true)
  rw [List.map_append, stps_app, h, stps_bad]
/-- The word behind a part can't stand: the whole ends there. -/
theorem pre_not {ws Q : List ByteArray} {s : ByteArray} (R : List ByteArray) {n : Nat} (h : stps ws (Q.map fitsB) (0, false) = (n, false)) (hs : tkB ws n false (fitsB s) = false) : pre (Q ++ s :: R) ws = n := by
  apply pre_of (b := true)
  rw [List.map_append, stps_app, h]
  show stps ws (R.map fitsB) (stp ws (fitsB s) (n, false)) = _
  rw [stp_no hs, stps_bad]
/-- A whole that stands: so does each part. -/
theorem part_of {ws Q R : List ByteArray} {n : Nat} (h : stps ws ((Q ++ R).map fitsB) (0, false) = (n, false)) : stps ws (Q.map fitsB) (0, false) = (Q.length, false) := by
  rw [List.map_append, stps_app] at h
  obtain ⟨m, b, hq⟩ : ∃ m b, stps ws (Q.map fitsB) (0, false) = (m, b) := ⟨_, _, rfl⟩
  cases b
  · rw [hq, ok_of hq]
  · rw [hq, stps_bad] at h; cases h
theorem fit_of {ws Q R : List ByteArray} {s : ByteArray} {n : Nat} (h : stps ws ((Q ++ s :: R).map fitsB) (0, false) = (n, false)) : tkB ws Q.length false (fitsB s) = true := by
  have hq := part_of h
  rw [List.map_append, stps_app, hq] at h
  cases ht : tkB ws Q.length false (fitsB s)
  · have : stps ws (R.map fitsB) (stp ws (fitsB s) (Q.length, false)) = (n, false) := h
    rw [stp_no ht, stps_bad] at this
    cases this
  · rfl

/-- What a reader that ends in a state says of a row of patterns; q: its own. -/
structure Sum (ps : List (List ByteArray)) (ws : List ByteArray) (st : Nat × Bool) (q : List ByteArray) : Prop where
  mem : q ∈ ps
  le : ∀ p ∈ ps, pre p ws ≤ st.1
  at_ : pre q ws = st.1
  bad : st.2 = true → ∀ p ∈ ps, ¬ (pre p ws = p.length ∧ pre p ws = ws.length)
  good : st.2 = false → pre q ws = q.length ∧ ∀ p ∈ ps, p ≠ q → ¬ (pre p ws = p.length ∧ pre p ws = ws.length)
theorem scan_none : ∀ (ps : List (List ByteArray)) (ws : List ByteArray) (m M : Nat), (∀ p ∈ ps, ¬ (pre p ws = p.length ∧ pre p ws = ws.length)) → (∀ p ∈ ps, pre p ws ≤ M) → m ≤ M → (m = M ∨ ∃ p ∈ ps, pre p ws = M) → scan ps ws m = (none, M)
  | [], _, m, M, _, _, _, h => by
    rcases h with rfl | ⟨p, hp, _⟩
    · rfl
    · simp at hp
  | p :: ps, ws, m, M, h1, h2, h3, h4 => by
    have hp := h2 p (List.mem_cons_self ..)
    rw [scan, if_neg (h1 p (List.mem_cons_self ..))]
    refine scan_none ps ws _ M (fun q hq => h1 q (List.mem_cons_of_mem _ hq)) (fun q hq => h2 q (List.mem_cons_of_mem _ hq)) (by split <;> omega) ?_
    rcases h4 with rfl | ⟨q, hq, e⟩
    · left; rw [if_neg (by omega)]
    · rcases List.mem_cons.1 hq with rfl | hq
      · left; split <;> omega
      · exact .inr ⟨q, hq, e⟩
theorem scan_yes : ∀ (ps : List (List ByteArray)) (ws : List ByteArray) (m : Nat) (q : List ByteArray), q ∈ ps → pre q ws = q.length ∧ pre q ws = ws.length → (∀ p ∈ ps, p ≠ q → ¬ (pre p ws = p.length ∧ pre p ws = ws.length)) → scan ps ws m = (some q, 0)
  | [], _, _, _, h, _, _ => by simp at h
  | p :: ps, ws, m, q, h, hf, hn => by
    rw [scan]
    by_cases e : p = q
    · subst e; rw [if_pos hf]
    · rw [if_neg (hn p (List.mem_cons_self ..) e)]
      rcases List.mem_cons.1 h with h | h
      · exact absurd h.symm e
      · exact scan_yes ps ws _ q h hf (fun r hr => hn r (List.mem_cons_of_mem _ hr))
theorem Sum.yes {ps : List (List ByteArray)} {ws : List ByteArray} {st : Nat × Bool} {q : List ByteArray} (h : Sum ps ws st q) (h2 : st.2 = false) (hm : moreB ws.length st.1 st.2 = false) : scan ps ws 0 = (some q, 0) := by
  obtain ⟨g1, g2⟩ := h.good h2
  have hl : ¬ st.1 < ws.length := by simpa [moreB, h2] using hm
  have := (pre_le q ws).2
  have := h.at_
  exact scan_yes ps ws 0 q h.mem ⟨g1, by omega⟩ g2
theorem Sum.no {ps : List (List ByteArray)} {ws : List ByteArray} {st : Nat × Bool} {q : List ByteArray} (h : Sum ps ws st q) (hb : st.2 = true ∨ moreB ws.length st.1 st.2 = true) : scan ps ws 0 = (none, st.1) := by
  refine scan_none ps ws 0 st.1 ?_ h.le (Nat.zero_le _) (.inr ⟨q, h.mem, h.at_⟩)
  rcases hb with hb | hb
  · exact h.bad hb
  · have hl := moreB_lt hb
    intro p hp e
    have := h.le p hp
    omega
theorem scan_filter (ws : List ByteArray) (f : List ByteArray → Bool) : ∀ (ps : List (List ByteArray)) (m : Nat), (∀ p ∈ ps, f p = false → pre p ws = 0 ∧ p ≠ []) → scan ps ws m = scan (ps.filter f) ws m
  | [], _, _ => rfl
  | p :: ps, m, h => by
    have ih := fun m => scan_filter ws f ps m (fun q hq => h q (List.mem_cons_of_mem _ hq))
    cases hf : f p
    · obtain ⟨h0, hne⟩ := h p (List.mem_cons_self ..) hf
      rw [List.filter_cons_of_neg (by simp [hf]), scan, h0, if_neg, if_neg (by omega), ih]
      rintro ⟨e, _⟩
      exact hne (List.length_eq_zero_iff.1 e.symm)
    · rw [List.filter_cons_of_pos hf, scan, scan, ih]

/-- The symbols. -/
def nameY : ByteArray := ⟨#[78, 65, 77, 69]⟩
def unitsY : ByteArray := ⟨#[85, 78, 73, 84, 83]⟩
def minutesY : ByteArray := ⟨#[77, 73, 78, 85, 84, 69, 83]⟩
def everyY : ByteArray := ⟨#[69, 86, 69, 82, 89]⟩
def idY : ByteArray := ⟨#[73, 68]⟩
def timeY : ByteArray := ⟨#[84, 73, 77, 69]⟩
def dateY : ByteArray := ⟨#[68, 65, 84, 69]⟩
def minuteY : ByteArray := ⟨#[77, 73, 78, 85, 84, 69]⟩
def onY : ByteArray := ⟨#[79, 78]⟩

theorem rng_within (w : ByteArray) (lo hi : Int) (h : 0 ≤ lo) : rngB w lo hi = withinB w lo hi := by
  unfold rngB withinB
  rw [numR_num]
  cases hn : Txt.isNum w.data.toList
  · simp; omega
  · simp
theorem fitN : fitsB nameY = nmB := by
  have c0 : (nameY.toList == [78, 65, 77, 69]) = true := by decide +kernel
  funext w; unfold fitsB; rw [if_pos c0]; rfl
theorem fitU : fitsB unitsY = unB := by
  have c0 : ¬ (unitsY.toList == [78, 65, 77, 69]) = true := by decide +kernel
  have c1 : (unitsY.toList == [85, 78, 73, 84, 83]) = true := by decide +kernel
  funext w; unfold fitsB; rw [if_neg c0, if_pos c1]; exact rng_within w 1 9 (by omega)
theorem fitMi : fitsB minutesY = miB := by
  have c0 : ¬ (minutesY.toList == [78, 65, 77, 69]) = true := by decide +kernel
  have c1 : ¬ (minutesY.toList == [85, 78, 73, 84, 83]) = true := by decide +kernel
  have c2 : (minutesY.toList == [77, 73, 78, 85, 84, 69, 83]) = true := by decide +kernel
  funext w; unfold fitsB; rw [if_neg c0, if_neg c1, if_pos c2]; exact rng_within w 1 1048320 (by omega)
theorem fitE : fitsB everyY = evB := by
  have c0 : ¬ (everyY.toList == [78, 65, 77, 69]) = true := by decide +kernel
  have c1 : ¬ (everyY.toList == [85, 78, 73, 84, 83]) = true := by decide +kernel
  have c2 : ¬ (everyY.toList == [77, 73, 78, 85, 84, 69, 83]) = true := by decide +kernel
  have c3 : (everyY.toList == [69, 86, 69, 82, 89]) = true := by decide +kernel
  funext w; unfold fitsB; rw [if_neg c0, if_neg c1, if_neg c2, if_pos c3]; exact rng_within w 1 99 (by omega)
theorem fitI : fitsB idY = idB := by
  have c0 : ¬ (idY.toList == [78, 65, 77, 69]) = true := by decide +kernel
  have c1 : ¬ (idY.toList == [85, 78, 73, 84, 83]) = true := by decide +kernel
  have c2 : ¬ (idY.toList == [77, 73, 78, 85, 84, 69, 83]) = true := by decide +kernel
  have c3 : ¬ (idY.toList == [69, 86, 69, 82, 89]) = true := by decide +kernel
  have c4 : (idY.toList == [73, 68]) = true := by decide +kernel
  funext w; unfold fitsB; rw [if_neg c0, if_neg c1, if_neg c2, if_neg c3, if_pos c4, numR_num]
  have := Txt.numV_bd w.data.toList
  unfold idB
  cases hn : Txt.isNum w.data.toList
  · simp
  · simp; omega
theorem fitT : fitsB timeY = timeB := by
  have c0 : ¬ (timeY.toList == [78, 65, 77, 69]) = true := by decide +kernel
  have c1 : ¬ (timeY.toList == [85, 78, 73, 84, 83]) = true := by decide +kernel
  have c2 : ¬ (timeY.toList == [77, 73, 78, 85, 84, 69, 83]) = true := by decide +kernel
  have c3 : ¬ (timeY.toList == [69, 86, 69, 82, 89]) = true := by decide +kernel
  have c4 : ¬ (timeY.toList == [73, 68]) = true := by decide +kernel
  have c5 : (timeY.toList == [84, 73, 77, 69]) = true := by decide +kernel
  funext w; unfold fitsB; rw [if_neg c0, if_neg c1, if_neg c2, if_neg c3, if_neg c4, if_pos c5]
  unfold timR
  cases ht : timeB w
  · simp
  · unfold timeB at ht
    simp only [Bool.and_eq_true, decide_eq_true_eq] at ht
    simp; omega
theorem fitD : fitsB dateY = Txt.dayB := by
  have c0 : ¬ (dateY.toList == [78, 65, 77, 69]) = true := by decide +kernel
  have c1 : ¬ (dateY.toList == [85, 78, 73, 84, 83]) = true := by decide +kernel
  have c2 : ¬ (dateY.toList == [77, 73, 78, 85, 84, 69, 83]) = true := by decide +kernel
  have c3 : ¬ (dateY.toList == [69, 86, 69, 82, 89]) = true := by decide +kernel
  have c4 : ¬ (dateY.toList == [73, 68]) = true := by decide +kernel
  have c5 : ¬ (dateY.toList == [84, 73, 77, 69]) = true := by decide +kernel
  have c6 : (dateY.toList == [68, 65, 84, 69]) = true := by decide +kernel
  funext w; unfold fitsB; rw [if_neg c0, if_neg c1, if_neg c2, if_neg c3, if_neg c4, if_neg c5, if_pos c6]
  unfold datR Txt.dayB
  apply decide_eq_decide.2
  constructor
  · intro h
    split at h
    · rename_i hc; exact ⟨hc.1, hc.2.1, h.2⟩
    · omega
  · rintro ⟨h1, h2, h3⟩
    rw [if_pos ⟨h1, h2, by omega⟩]
    exact ⟨h2, h3⟩
theorem fitM : fitsB minuteY = Txt.minB := by
  have c0 : ¬ (minuteY.toList == [78, 65, 77, 69]) = true := by decide +kernel
  have c1 : ¬ (minuteY.toList == [85, 78, 73, 84, 83]) = true := by decide +kernel
  have c2 : ¬ (minuteY.toList == [77, 73, 78, 85, 84, 69, 83]) = true := by decide +kernel
  have c3 : ¬ (minuteY.toList == [69, 86, 69, 82, 89]) = true := by decide +kernel
  have c4 : ¬ (minuteY.toList == [73, 68]) = true := by decide +kernel
  have c5 : ¬ (minuteY.toList == [84, 73, 77, 69]) = true := by decide +kernel
  have c6 : ¬ (minuteY.toList == [68, 65, 84, 69]) = true := by decide +kernel
  have c7 : (minuteY.toList == [77, 73, 78, 85, 84, 69]) = true := by decide +kernel
  funext w; unfold fitsB; rw [if_neg c0, if_neg c1, if_neg c2, if_neg c3, if_neg c4, if_neg c5, if_neg c6, if_pos c7]
  have := Txt.minV_bd w
  unfold clkR
  cases ht : Txt.minB w
  · simp
  · simp; omega
theorem fitO : fitsB onY = Txt.onB := by
  have c0 : ¬ (onY.toList == [78, 65, 77, 69]) = true := by decide +kernel
  have c1 : ¬ (onY.toList == [85, 78, 73, 84, 83]) = true := by decide +kernel
  have c2 : ¬ (onY.toList == [77, 73, 78, 85, 84, 69, 83]) = true := by decide +kernel
  have c3 : ¬ (onY.toList == [69, 86, 69, 82, 89]) = true := by decide +kernel
  have c4 : ¬ (onY.toList == [73, 68]) = true := by decide +kernel
  have c5 : ¬ (onY.toList == [84, 73, 77, 69]) = true := by decide +kernel
  have c6 : ¬ (onY.toList == [68, 65, 84, 69]) = true := by decide +kernel
  have c7 : ¬ (onY.toList == [77, 73, 78, 85, 84, 69]) = true := by decide +kernel
  have c8 : (onY.toList == [79, 78]) = true := by decide +kernel
  funext w; unfold fitsB; rw [if_neg c0, if_neg c1, if_neg c2, if_neg c3, if_neg c4, if_neg c5, if_neg c6, if_neg c7, if_pos c8]

/-- A word that is no symbol. -/
def plainB (x : ByteArray) : Bool := !(x.toList == [78, 65, 77, 69]) && !(x.toList == [85, 78, 73, 84, 83]) && !(x.toList == [77, 73, 78, 85, 84, 69, 83]) && !(x.toList == [69, 86, 69, 82, 89]) && !(x.toList == [73, 68]) && !(x.toList == [84, 73, 77, 69]) && !(x.toList == [68, 65, 84, 69]) && !(x.toList == [77, 73, 78, 85, 84, 69]) && !(x.toList == [79, 78])
theorem plain_not {x : ByteArray} (h : plainB x = true) : (x.toList == [78, 65, 77, 69]) = false ∧ (x.toList == [85, 78, 73, 84, 83]) = false ∧ (x.toList == [77, 73, 78, 85, 84, 69, 83]) = false ∧ (x.toList == [69, 86, 69, 82, 89]) = false ∧ (x.toList == [73, 68]) = false ∧ (x.toList == [84, 73, 77, 69]) = false ∧ (x.toList == [68, 65, 84, 69]) = false ∧ (x.toList == [77, 73, 78, 85, 84, 69]) = false ∧ (x.toList == [79, 78]) = false := by
  unfold plainB at h
  simp only [Bool.and_eq_true, Bool.not_eq_true'] at h
  obtain ⟨⟨⟨⟨⟨⟨⟨⟨h0, h1⟩, h2⟩, h3⟩, h4⟩, h5⟩, h6⟩, h7⟩, h8⟩ := h
  exact ⟨h0, h1, h2, h3, h4, h5, h6, h7, h8⟩
theorem fitL (x : ByteArray) (h : plainB x = true) : fitsB x = litB x := by
  obtain ⟨h0, h1, h2, h3, h4, h5, h6, h7, h8⟩ := plain_not h
  funext w
  unfold fitsB litB
  rw [h0, h1, h2, h3, h4, h5, h6, h7, h8]
  simp only [Bool.false_eq_true, if_false]
  exact BEq.comm
theorem wrL (x w : ByteArray) (h : plainB x = true) : wrS x w = w := by
  obtain ⟨h0, h1, h2, h3, h4, h5, h6, h7, h8⟩ := plain_not h
  unfold wrS
  rw [h1, h2, h3, h4, h5, h8]
  simp only [Bool.false_eq_true, if_false]
theorem isB_tk (ws : List ByteArray) (n : Nat) (wr : Bool) (x : ByteArray) : isB ws n wr x = tkB ws n wr (litB x) := rfl
/-- A word that is asked for and stands. -/
theorem nxt_stp {ws : List ByteArray} {st : Nat × Bool} {x : ByteArray} (h : isB ws st.1 st.2 x = true) : nxt st = stp ws (litB x) st := by
  obtain ⟨n, wr⟩ := st
  have ht : tkB ws n wr (litB x) = true := h
  simp only [nxt, stp, tkN, tkW, ht, if_true]

end Go.Proofs.YtjfkfiffakbagaaGreatDoor

/-
  The plain mathematics: what the reader's line says of the document's patterns.
-/
namespace Go.Proofs.YtjfkfiffakbagaaGreatDoor
open Go.RowKit

theorem lit_eq {x s : ByteArray} (h : litB x s = true) : s = x := by
  have e : s.toList = x.toList := eq_of_beq h
  rw [ByteArray.toList_eq, ByteArray.toList_eq] at e
  exact Txt.of_list e

def midY : List ByteArray := [fromW, dateY, atW, minuteY, forW, minutesY]
def paceD : List ByteArray := [dailyW, everyY]
def paceW : List ByteArray := [weeklyW, everyY, onY]
def paceM : List ByteArray := [monthlyW, everyY]
def endT : List ByteArray := [timesW, everyY]
def endU : List ByteArray := [untilW, dateY]
def paces : List (List ByteArray) := [paceD, paceW, paceM]
def ends : List (List ByteArray) := [endT, endU]
def sixP (H : List ByteArray) : List (List ByteArray) := paces.flatMap fun K => ends.map fun E => H ++ K ++ midY ++ E
def serH : List ByteArray := [seriesW, nameY, unitsY]
def expH : List ByteArray := [expandW]
def patsX : List (List ByteArray) := [[thingW, nameY, unitsY], [bookW, nameY, unitsY, timeY, timeY], [holdW, nameY, unitsY, timeY, timeY, minutesY], [waitW, nameY, unitsY, timeY, timeY, minutesY], [confirmW, idY], [cancelW, idY], [listW, nameY], [listW, nameY, timeY, timeY], [waitingW], [peakW, nameY, timeY, timeY], [findW, nameY, unitsY, minutesY, timeY, timeY], [tickW, minutesY], [clockW]] ++ sixP serH ++ sixP expH
set_option maxRecDepth 100000 in
theorem pats_eq : patsW = patsX := by decide +kernel
theorem pats_ne : ∀ p ∈ patsX, p ≠ [] := by decide +kernel
def headF (k : ByteArray) (p : List ByteArray) : Bool := fitsB (p.headD ByteArray.empty) k

theorem head_of {ws : List ByteArray} {k : ByteArray} (h : isB ws 0 false k = true) : ∃ t, ws = k :: t := by
  rw [isB_tk] at h
  obtain ⟨_, h1, h2⟩ := tkB_true h
  have e := lit_eq h2
  match ws, h1 with
  | a :: t, _ => exact ⟨t, by rw [show a = k from e]⟩
theorem scan_kind {s k : ByteArray} {t : List ByteArray} (hw : Txt.wordsS s = k :: t) : scanS s = scan (patsX.filter (headF k)) (Txt.wordsS s) 0 := by
  unfold scanS
  rw [pats_eq, scan_filter _ (headF k) patsX 0]
  intro p hp hf
  have hne := pats_ne p hp
  refine ⟨?_, hne⟩
  match p, hne, hf with
  | a :: p', _, hf =>
    have e : fitsB a k = false := hf
    rw [hw, pre, e]
    rfl
theorem st1 {ws : List ByteArray} {k : ByteArray} (h : isB ws 0 false k = true) (hk : plainB k = true) (p : List ByteArray) : stps ws (p.map fitsB) (1, false) = stps ws ((k :: p).map fitsB) (0, false) := by
  have e : stp ws (fitsB k) (0, false) = (1, false) := by
    obtain ⟨_, h1, h2⟩ := tkB_true (isB_tk ws 0 false k ▸ h)
    rw [fitL k hk]
    exact stp_yes h1 h2
  show _ = stps ws (p.map fitsB) (stp ws (fitsB k) (0, false))
  rw [e]

theorem sum_one {ws q : List ByteArray} {st : Nat × Bool} (h : stps ws (q.map fitsB) (0, false) = st) : Sum [q] ws st q := by
  obtain ⟨n, b⟩ := st
  have hp := pre_of h
  have one : ∀ p ∈ [q], p = q := fun p hp => List.mem_singleton.1 hp
  refine ⟨List.mem_singleton.2 rfl, fun p hp' => by rw [one p hp']; exact Nat.le_of_eq hp, hp, fun hb p hp' e => ?_, fun hb => ⟨?_, fun p hp' hne => absurd (one p hp') hne⟩⟩
  · cases hb
    rw [one p hp'] at e
    have := bad_of h
    omega
  · cases hb
    rw [hp]; exact ok_of h
theorem pre_mono : ∀ (Q R ws : List ByteArray), pre Q ws ≤ pre (Q ++ R) ws
  | [], _, _ => by simp [pre]
  | _ :: _, _, [] => by simp [pre]
  | s :: Q, R, w :: ws => by
    have := pre_mono Q R ws
    simp only [List.cons_append, pre]
    split <;> omega

theorem sum_list0 {ws : List ByteArray} {st : Nat × Bool} (h : stps ws ([listW, nameY].map fitsB) (0, false) = st) (hm : moreB ws.length st.1 st.2 = false) : Sum [[listW, nameY], [listW, nameY, timeY, timeY]] ws st [listW, nameY] := by
  obtain ⟨n, b⟩ := st
  have hp := pre_of h
  have hl := (pre_le [listW, nameY, timeY, timeY] ws).2
  have h2 : pre [listW, nameY, timeY, timeY] ws ≤ n := by
    cases b
    · have : ¬ n < ws.length := by simpa [moreB] using hm
      omega
    · exact Nat.le_of_eq (pre_bad [timeY, timeY] h)
  have hn : n ≤ 2 := by have := (pre_le [listW, nameY] ws).1; rw [hp] at this; exact this
  refine ⟨by simp, ?_, hp, ?_, ?_⟩
  · intro p hp'
    rcases List.mem_cons.1 hp' with rfl | hp'
    · exact Nat.le_of_eq hp
    · rw [List.mem_singleton.1 hp']; exact h2
  · intro hb p hp' e
    cases hb
    have hbad : n < 2 := bad_of h
    rcases List.mem_cons.1 hp' with rfl | hp'
    · rw [hp] at e; exact absurd e.1 (by show ¬ n = 2; omega)
    · rw [List.mem_singleton.1 hp'] at e
      exact absurd e.1 (by show ¬ _ = 4; omega)
  · intro hb
    cases hb
    refine ⟨hp.trans (ok_of h), fun p hp' hne e => ?_⟩
    rcases List.mem_cons.1 hp' with rfl | hp'
    · exact hne rfl
    · rw [List.mem_singleton.1 hp'] at e
      exact absurd e.1 (by show ¬ _ = 4; omega)
theorem sum_list1 {ws : List ByteArray} {st st' : Nat × Bool} (h : stps ws ([listW, nameY].map fitsB) (0, false) = st) (hm : moreB ws.length st.1 st.2 = true) (h' : stps ws ([listW, nameY, timeY, timeY].map fitsB) (0, false) = st') : Sum [[listW, nameY], [listW, nameY, timeY, timeY]] ws st' [listW, nameY, timeY, timeY] := by
  obtain ⟨n, b⟩ := st
  obtain ⟨n', b'⟩ := st'
  have hp := pre_of h
  have hp' := pre_of h'
  have hlt := moreB_lt hm
  have hmono : pre [listW, nameY] ws ≤ pre [listW, nameY, timeY, timeY] ws := pre_mono [listW, nameY] [timeY, timeY] ws
  refine ⟨by simp, ?_, hp', ?_, ?_⟩
  · intro p hq
    rcases List.mem_cons.1 hq with rfl | hq
    · show _ ≤ n'; omega
    · rw [List.mem_singleton.1 hq]; exact Nat.le_of_eq hp'
  · intro hb p hq e
    cases hb
    have hbad : n' < 4 := bad_of h'
    rcases List.mem_cons.1 hq with rfl | hq
    · have : n < ws.length := hlt
      omega
    · rw [List.mem_singleton.1 hq] at e
      have e1 : pre [listW, nameY, timeY, timeY] ws = 4 := e.1
      omega
  · intro hb
    cases hb
    refine ⟨hp'.trans (ok_of h'), fun p hq hne e => ?_⟩
    rcases List.mem_cons.1 hq with rfl | hq
    · have : n < ws.length := hlt
      omega
    · exact hne (List.mem_singleton.1 hq)

theorem six_mem {H p : List ByteArray} (h : p ∈ sixP H) : ∃ K ∈ paces, ∃ E ∈ ends, p = H ++ K ++ midY ++ E := by
  unfold sixP at h
  simp only [List.mem_flatMap, List.mem_map] at h
  obtain ⟨K, hK, E, hE, rfl⟩ := h
  exact ⟨K, hK, E, hE, rfl⟩
theorem mem_six {H K E : List ByteArray} (hK : K ∈ paces) (hE : E ∈ ends) : H ++ K ++ midY ++ E ∈ sixP H := by
  unfold sixP
  simp only [List.mem_flatMap, List.mem_map]
  exact ⟨K, hK, E, hE, rfl⟩
theorem pace_form {K : List ByteArray} (h : K ∈ paces) : ∃ K', K = K.headD ByteArray.empty :: K' := by
  simp only [paces, List.mem_cons, List.not_mem_nil, or_false] at h
  rcases h with rfl | rfl | rfl
  · exact ⟨[everyY], rfl⟩
  · exact ⟨[everyY, onY], rfl⟩
  · exact ⟨[everyY], rfl⟩
theorem end_form {E : List ByteArray} (h : E ∈ ends) : ∃ E', E = E.headD ByteArray.empty :: E' := by
  simp only [ends, List.mem_cons, List.not_mem_nil, or_false] at h
  rcases h with rfl | rfl
  · exact ⟨[everyY], rfl⟩
  · exact ⟨[dateY], rfl⟩
/-- A pattern whose pace's word is not there ends ahead of it. -/
theorem other_K {H K E ws : List ByteArray} {n : Nat} (hK : K ∈ paces) (hn : stps ws (H.map fitsB) (0, false) = (n, false)) (hk : tkB ws n false (fitsB (K.headD ByteArray.empty)) = false) : pre (H ++ K ++ midY ++ E) ws = n ∧ n < (H ++ K ++ midY ++ E).length := by
  obtain ⟨K', e⟩ := pace_form hK
  have hl := ok_of hn
  have e2 : H ++ K ++ midY ++ E = H ++ K.headD ByteArray.empty :: (K' ++ midY ++ E) := by
    conv => lhs; rw [e]
    simp
  rw [e2]
  exact ⟨pre_not _ hn hk, by simp; omega⟩
theorem other_E {Q E ws : List ByteArray} {n : Nat} (hE : E ∈ ends) (hn : stps ws (Q.map fitsB) (0, false) = (n, false)) (hk : tkB ws n false (fitsB (E.headD ByteArray.empty)) = false) : pre (Q ++ E) ws = n ∧ n < (Q ++ E).length := by
  obtain ⟨E', e⟩ := end_form hE
  have hl := ok_of hn
  rw [e]
  exact ⟨pre_not _ hn hk, by simp; omega⟩
theorem bad_E {Q E ws : List ByteArray} {n : Nat} (hn : stps ws (Q.map fitsB) (0, false) = (n, true)) : pre (Q ++ E) ws = n ∧ n < (Q ++ E).length := by
  have := bad_of hn
  exact ⟨pre_bad _ hn, by simp; omega⟩

/-- A rule that found its pace's and its end's word. -/
theorem sum_rule {H K E ws : List ByteArray} {n m : Nat} {st : Nat × Bool} (hK : K ∈ paces) (hE : E ∈ ends) (hn : stps ws (H.map fitsB) (0, false) = (n, false))
    (hk : ∀ K2 ∈ paces, K2 ≠ K → tkB ws n false (fitsB (K2.headD ByteArray.empty)) = false) (hm : stps ws ((H ++ K ++ midY).map fitsB) (0, false) = (m, false))
    (he : ∀ E2 ∈ ends, E2 ≠ E → tkB ws m false (fitsB (E2.headD ByteArray.empty)) = false) (hst : stps ws ((H ++ K ++ midY ++ E).map fitsB) (0, false) = st) : Sum (sixP H) ws st (H ++ K ++ midY ++ E) := by
  obtain ⟨l, b⟩ := st
  have hp := pre_of hst
  have hn1 : n ≤ l := by
    have h1 := pre_mono H (K ++ midY ++ E) ws
    rw [pre_of hn, ← List.append_assoc, ← List.append_assoc, hp] at h1
    exact h1
  have hm1 : m ≤ l := by
    have h1 := pre_mono (H ++ K ++ midY) E ws
    rw [pre_of hm, hp] at h1
    exact h1
  have key : ∀ p ∈ sixP H, p = H ++ K ++ midY ++ E ∨ (pre p ws ≤ l ∧ pre p ws < p.length) := by
    intro p hp'
    obtain ⟨K2, hK2, E2, hE2, rfl⟩ := six_mem hp'
    by_cases e1 : K2 = K
    · subst e1
      by_cases e2 : E2 = E
      · subst e2; exact .inl rfl
      · obtain ⟨q1, q2⟩ := other_E hE2 hm (he E2 hE2 e2)
        exact .inr ⟨by omega, by omega⟩
    · obtain ⟨q1, q2⟩ := other_K (E := E2) hK2 hn (hk K2 hK2 e1)
      exact .inr ⟨by omega, by omega⟩
  refine ⟨mem_six hK hE, fun p hp' => ?_, hp, fun hb p hp' e => ?_, fun hb => ⟨?_, fun p hp' hne e => ?_⟩⟩
  · rcases key p hp' with rfl | h
    · exact Nat.le_of_eq hp
    · exact h.1
  · cases hb
    have hbad := bad_of hst
    rcases key p hp' with rfl | h
    · omega
    · omega
  · cases hb; exact hp.trans (ok_of hst)
  · rcases key p hp' with h | h
    · exact hne h
    · omega
/-- A rule whose end's word is not there, or that failed ahead of it. -/
theorem sum_noend {H K ws : List ByteArray} {n m : Nat} {b : Bool} (hK : K ∈ paces) (hn : stps ws (H.map fitsB) (0, false) = (n, false))
    (hk : ∀ K2 ∈ paces, K2 ≠ K → tkB ws n false (fitsB (K2.headD ByteArray.empty)) = false) (hm : stps ws ((H ++ K ++ midY).map fitsB) (0, false) = (m, b))
    (he : ∀ E2 ∈ ends, tkB ws m b (fitsB (E2.headD ByteArray.empty)) = false) : Sum (sixP H) ws (m, true) (H ++ K ++ midY ++ endT) := by
  have hE : endT ∈ ends := by simp [ends]
  have hn1 : n ≤ m := by
    have h1 := pre_mono H (K ++ midY) ws
    rw [pre_of hn, ← List.append_assoc, pre_of hm] at h1
    exact h1
  have same : ∀ E2 ∈ ends, pre (H ++ K ++ midY ++ E2) ws = m ∧ m < (H ++ K ++ midY ++ E2).length := by
    intro E2 hE2
    cases b
    · exact other_E hE2 hm (he E2 hE2)
    · exact bad_E hm
  have key : ∀ p ∈ sixP H, pre p ws ≤ m ∧ pre p ws < p.length := by
    intro p hp'
    obtain ⟨K2, hK2, E2, hE2, rfl⟩ := six_mem hp'
    by_cases e1 : K2 = K
    · subst e1
      obtain ⟨q1, q2⟩ := same E2 hE2
      exact ⟨by omega, by omega⟩
    · obtain ⟨q1, q2⟩ := other_K (E := E2) hK2 hn (hk K2 hK2 e1)
      exact ⟨by omega, by omega⟩
  exact ⟨mem_six hK hE, fun p hp' => (key p hp').1, (same endT hE).1, fun _ p hp' e => by have := key p hp'; omega, fun hb => absurd hb (by simp)⟩
/-- A rule whose pace's word is not there, or that failed ahead of it. -/
theorem sum_nopace {H ws : List ByteArray} {n : Nat} {b : Bool} (hn : stps ws (H.map fitsB) (0, false) = (n, b))
    (hk : ∀ K2 ∈ paces, tkB ws n b (fitsB (K2.headD ByteArray.empty)) = false) : Sum (sixP H) ws (n, true) (H ++ paceD ++ midY ++ endT) := by
  have hK : paceD ∈ paces := by simp [paces]
  have hE : endT ∈ ends := by simp [ends]
  have same : ∀ K2 ∈ paces, ∀ E2 : List ByteArray, pre (H ++ K2 ++ midY ++ E2) ws = n ∧ n < (H ++ K2 ++ midY ++ E2).length := by
    intro K2 hK2 E2
    cases b
    · exact other_K hK2 hn (hk K2 hK2)
    · have h1 := bad_E (E := K2 ++ midY ++ E2) hn
      rw [← List.append_assoc, ← List.append_assoc] at h1
      exact h1
  have key : ∀ p ∈ sixP H, pre p ws ≤ n ∧ pre p ws < p.length := by
    intro p hp'
    obtain ⟨K2, hK2, E2, _, rfl⟩ := six_mem hp'
    obtain ⟨q1, q2⟩ := same K2 hK2 E2
    exact ⟨by omega, by omega⟩
  exact ⟨mem_six hK hE, fun p hp' => (key p hp').1, (same paceD hK endT).1, fun _ p hp' e => by have := key p hp'; omega, fun hb => absurd hb (by simp)⟩

end Go.Proofs.YtjfkfiffakbagaaGreatDoor

/-
  The plain mathematics: what the reader's rule says of the document's patterns.
-/
namespace Go.Proofs.YtjfkfiffakbagaaGreatDoor
open Go.RowKit

theorem val_at {ws Q R : List ByteArray} {s : ByteArray} {n : Nat} (h : stps ws ((Q ++ s :: R).map fitsB) (0, false) = (n, false)) (V : ByteArray → Int) : valAt ws (stps ws (Q.map fitsB) (0, false)) (fitsB s) V = V (ws.getD Q.length ByteArray.empty) := by
  rw [part_of h]
  unfold valAt tkV
  rw [if_pos (fit_of h)]
theorem fit_at {ws Q R : List ByteArray} {s : ByteArray} {n : Nat} (h : stps ws ((Q ++ s :: R).map fitsB) (0, false) = (n, false)) : fitsB s (ws.getD Q.length ByteArray.empty) = true := (tkB_true (fit_of h)).2.2

theorem paceD_map : paceD.map fitsB = [litB dailyW, evB] := by
  simp only [paceD, List.map, fitE, fitL dailyW (by decide +kernel)]
theorem paceW_map : paceW.map fitsB = [litB weeklyW, evB, Txt.onB] := by
  simp only [paceW, List.map, fitE, fitO, fitL weeklyW (by decide +kernel)]
theorem paceM_map : paceM.map fitsB = [litB monthlyW, evB] := by
  simp only [paceM, List.map, fitE, fitL monthlyW (by decide +kernel)]
theorem endT_map : endT.map fitsB = [litB timesW, evB] := by
  simp only [endT, List.map, fitE, fitL timesW (by decide +kernel)]
theorem endU_map : endU.map fitsB = [litB untilW, Txt.dayB] := by
  simp only [endU, List.map, fitD, fitL untilW (by decide +kernel)]
theorem midY_map : midY.map fitsB = [litB fromW, Txt.dayB, litB atW, Txt.minB, litB forW, miB] := by
  simp only [midY, List.map, fitD, fitM, fitMi, fitL fromW (by decide +kernel), fitL atW (by decide +kernel), fitL forW (by decide +kernel)]

inductive PaceG (ws : List ByteArray) (c : Nat) : Int → Int → List Int → List ByteArray → Prop where
  | daily (h0 : ws.getD c ByteArray.empty = dailyW) (h : evB (ws.getD (c + 1) ByteArray.empty) = true) : PaceG ws c 1 (nvF (ws.getD (c + 1) ByteArray.empty)) [] paceD
  | weekly (acc : List Int) (h0 : ws.getD c ByteArray.empty = weeklyW) (h : evB (ws.getD (c + 1) ByteArray.empty) = true) (ho : Txt.onW (ws.getD (c + 2) ByteArray.empty) = some acc) : PaceG ws c 2 (nvF (ws.getD (c + 1) ByteArray.empty)) acc paceW
  | monthly (h0 : ws.getD c ByteArray.empty = monthlyW) (h : evB (ws.getD (c + 1) ByteArray.empty) = true) : PaceG ws c 3 (nvF (ws.getD (c + 1) ByteArray.empty)) [] paceM
inductive EndG (ws : List ByteArray) (d : Nat) : Int → Int → List ByteArray → Prop where
  | times (h0 : ws.getD d ByteArray.empty = timesW) (h : evB (ws.getD (d + 1) ByteArray.empty) = true) : EndG ws d (nvF (ws.getD (d + 1) ByteArray.empty)) 0 endT
  | til (h0 : ws.getD d ByteArray.empty = untilW) (h : Txt.dayB (ws.getD (d + 1) ByteArray.empty) = true) : EndG ws d 0 (dayV (ws.getD (d + 1) ByteArray.empty)) endU
structure MidG (ws : List ByteArray) (d : Nat) (fr mn mi : Int) : Prop where
  h0 : ws.getD d ByteArray.empty = fromW
  h1 : Txt.dayB (ws.getD (d + 1) ByteArray.empty) = true
  h2 : ws.getD (d + 2) ByteArray.empty = atW
  h3 : Txt.minB (ws.getD (d + 3) ByteArray.empty) = true
  h4 : ws.getD (d + 4) ByteArray.empty = forW
  h5 : miB (ws.getD (d + 5) ByteArray.empty) = true
  fr_ : fr = dayV (ws.getD (d + 1) ByteArray.empty)
  mn_ : mn = Txt.minV (ws.getD (d + 3) ByteArray.empty)
  mi_ : mi = nvF (ws.getD (d + 5) ByteArray.empty)
structure RuleG (H ws : List ByteArray) (pc ev : Int) (acc : List Int) (fr mn mi ti un : Int) (K E : List ByteArray) : Prop where
  pace : PaceG ws H.length pc ev acc K
  mid : MidG ws (H.length + K.length) fr mn mi
  end_ : EndG ws (H.length + K.length + 6) ti un E

theorem head_ne {x y : ByteArray} {ws : List ByteArray} {n : Nat} {wr : Bool} (h : isB ws n wr x = true) (hy : fitsB y x = false) : tkB ws n false (fitsB y) = false := by
  obtain ⟨_, _, h2⟩ := tkB_true (isB_tk ws n wr x ▸ h)
  have e := lit_eq h2
  exact tkB_not (by rw [e]; exact hy)
theorem others_D : ∀ K2 ∈ paces, K2 ≠ paceD → fitsB (K2.headD ByteArray.empty) dailyW = false := by decide +kernel
theorem others_W : ∀ K2 ∈ paces, K2 ≠ paceW → fitsB (K2.headD ByteArray.empty) weeklyW = false := by decide +kernel
theorem others_M : ∀ K2 ∈ paces, K2 ≠ paceM → fitsB (K2.headD ByteArray.empty) monthlyW = false := by decide +kernel
theorem others_T : ∀ E2 ∈ ends, E2 ≠ endT → fitsB (E2.headD ByteArray.empty) timesW = false := by decide +kernel
theorem others_U : ∀ E2 ∈ ends, E2 ≠ endU → fitsB (E2.headD ByteArray.empty) untilW = false := by decide +kernel

theorem mid_good {H K E ws : List ByteArray} {s : Nat × Bool} {n : Nat} (hs : s = stps ws ((H ++ K).map fitsB) (0, false)) (h : stps ws ((H ++ K ++ midY ++ E).map fitsB) (0, false) = (n, false)) :
    MidG ws (H.length + K.length) (valAt ws (stps ws [litB fromW] s) Txt.dayB dayV) (valAt ws (stps ws [litB fromW, Txt.dayB, litB atW] s) Txt.minB Txt.minV) (valAt ws (stps ws [litB fromW, Txt.dayB, litB atW, Txt.minB, litB forW] s) miB nvF) := by
  have f0 := fitL fromW (by decide +kernel)
  have f1 := fitL atW (by decide +kernel)
  have f2 := fitL forW (by decide +kernel)
  have e0 : H ++ K ++ midY ++ E = (H ++ K) ++ fromW :: ([dateY, atW, minuteY, forW, minutesY] ++ E) := by simp [midY]
  have e1 : H ++ K ++ midY ++ E = (H ++ K ++ [fromW]) ++ dateY :: ([atW, minuteY, forW, minutesY] ++ E) := by simp [midY]
  have e2 : H ++ K ++ midY ++ E = (H ++ K ++ [fromW, dateY]) ++ atW :: ([minuteY, forW, minutesY] ++ E) := by simp [midY]
  have e3 : H ++ K ++ midY ++ E = (H ++ K ++ [fromW, dateY, atW]) ++ minuteY :: ([forW, minutesY] ++ E) := by simp [midY]
  have e4 : H ++ K ++ midY ++ E = (H ++ K ++ [fromW, dateY, atW, minuteY]) ++ forW :: ([minutesY] ++ E) := by simp [midY]
  have e5 : H ++ K ++ midY ++ E = (H ++ K ++ [fromW, dateY, atW, minuteY, forW]) ++ minutesY :: E := by simp [midY]
  have l0 : (H ++ K).length = H.length + K.length := by simp
  have l1 : (H ++ K ++ [fromW]).length = H.length + K.length + 1 := by simp; omega
  have l2 : (H ++ K ++ [fromW, dateY]).length = H.length + K.length + 2 := by simp; omega
  have l3 : (H ++ K ++ [fromW, dateY, atW]).length = H.length + K.length + 3 := by simp; omega
  have l4 : (H ++ K ++ [fromW, dateY, atW, minuteY]).length = H.length + K.length + 4 := by simp; omega
  have l5 : (H ++ K ++ [fromW, dateY, atW, minuteY, forW]).length = H.length + K.length + 5 := by simp; omega
  have a0 := fit_at (e0 ▸ h)
  have a1 := fit_at (e1 ▸ h)
  have a2 := fit_at (e2 ▸ h)
  have a3 := fit_at (e3 ▸ h)
  have a4 := fit_at (e4 ▸ h)
  have a5 := fit_at (e5 ▸ h)
  have v1 := val_at (e1 ▸ h) dayV
  have v3 := val_at (e3 ▸ h) Txt.minV
  have v5 := val_at (e5 ▸ h) nvF
  rw [List.map_append, stps_app, ← hs] at v1 v3 v5
  simp only [List.map, f0, f1, f2, fitD, fitM, fitMi] at a0 a1 a2 a3 a4 a5 v1 v3 v5
  rw [l0] at a0
  rw [l1] at a1 v1
  rw [l2] at a2
  rw [l3] at a3 v3
  rw [l4] at a4
  rw [l5] at a5 v5
  exact ⟨lit_eq a0, a1, lit_eq a2, a3, lit_eq a4, a5, v1, v3, v5⟩

/-- Behind a pace that was found. -/
theorem after_pace {H K ws : List ByteArray} {n : Nat} {s s' : Nat × Bool} {ti un : Int} (hK : K ∈ paces) (hn : stps ws (H.map fitsB) (0, false) = (n, false))
    (hk : ∀ K2 ∈ paces, K2 ≠ K → tkB ws n false (fitsB (K2.headD ByteArray.empty)) = false) (hs : s = stps ws ((H ++ K).map fitsB) (0, false)) (he : EndR ws (midSt ws s) ti un s') :
    ∃ E, Sum (sixP H) ws s' (H ++ K ++ midY ++ E) ∧ (s'.2 = false → stps ws ((H ++ K ++ midY ++ E).map fitsB) (0, false) = s' ∧ EndG ws (H.length + K.length + 6) ti un E) := by
  have hmid : midSt ws s = stps ws ((H ++ K ++ midY).map fitsB) (0, false) := by
    unfold midSt
    rw [← midY_map, List.map_append (l₁ := H ++ K), stps_app, ← hs]
  obtain ⟨m, b, hm⟩ : ∃ m b, stps ws ((H ++ K ++ midY).map fitsB) (0, false) = (m, b) := ⟨_, _, rfl⟩
  have hl : (H ++ K ++ midY).length = H.length + K.length + 6 := by simp [midY]; omega
  rw [hmid, hm] at he
  cases he with
  | times h =>
    have hb : b = false := (tkB_true (isB_tk ws m b timesW ▸ h)).1
    subst hb
    have hst : stps ws ((H ++ K ++ midY ++ endT).map fitsB) (0, false) = stps ws [evB] (nxt (m, false)) := by
      rw [List.map_append, stps_app, hm, endT_map, nxt_stp h]
      rfl
    refine ⟨endT, sum_rule hK (by simp [ends]) hn hk hm (fun E2 hE2 hne => head_ne h (others_T E2 hE2 hne)) hst, fun h2 => ⟨hst, ?_⟩⟩
    obtain ⟨l, hl'⟩ : ∃ l, stps ws ((H ++ K ++ midY ++ endT).map fitsB) (0, false) = (l, false) := ⟨_, by rw [hst]; exact Prod.ext rfl h2⟩
    have e1 : H ++ K ++ midY ++ endT = (H ++ K ++ midY ++ [timesW]) ++ everyY :: [] := by simp [endT]
    have e0 : H ++ K ++ midY ++ endT = (H ++ K ++ midY) ++ timesW :: [everyY] := by simp [endT]
    have a0 := fit_at (e0 ▸ hl')
    have a1 := fit_at (e1 ▸ hl')
    have v1 := val_at (e1 ▸ hl') nvF
    rw [List.map_append, stps_app, hm] at v1
    have lt := fitL timesW (by decide +kernel)
    simp only [List.map, lt, fitE] at a0 a1 v1
    have e3 : stps ws [litB timesW] (m, false) = nxt (m, false) := (nxt_stp h).symm
    rw [e3] at v1
    have l1 : (H ++ K ++ midY ++ [timesW]).length = H.length + K.length + 6 + 1 := by simp [midY]; omega
    rw [l1] at a1 v1
    rw [hl] at a0
    rw [v1]
    exact .times (lit_eq a0) a1
  | til h1 h =>
    have hb : b = false := (tkB_true (isB_tk ws m b untilW ▸ h)).1
    subst hb
    have hst : stps ws ((H ++ K ++ midY ++ endU).map fitsB) (0, false) = stps ws [Txt.dayB] (nxt (m, false)) := by
      rw [List.map_append, stps_app, hm, endU_map, nxt_stp h]
      rfl
    refine ⟨endU, sum_rule hK (by simp [ends]) hn hk hm (fun E2 hE2 hne => head_ne h (others_U E2 hE2 hne)) hst, fun h2 => ⟨hst, ?_⟩⟩
    obtain ⟨l, hl'⟩ : ∃ l, stps ws ((H ++ K ++ midY ++ endU).map fitsB) (0, false) = (l, false) := ⟨_, by rw [hst]; exact Prod.ext rfl h2⟩
    have e1 : H ++ K ++ midY ++ endU = (H ++ K ++ midY ++ [untilW]) ++ dateY :: [] := by simp [endU]
    have e0 : H ++ K ++ midY ++ endU = (H ++ K ++ midY) ++ untilW :: [dateY] := by simp [endU]
    have a0 := fit_at (e0 ▸ hl')
    have a1 := fit_at (e1 ▸ hl')
    have v1 := val_at (e1 ▸ hl') dayV
    rw [List.map_append, stps_app, hm] at v1
    have lt := fitL untilW (by decide +kernel)
    simp only [List.map, lt, fitD] at a0 a1 v1
    have e3 : stps ws [litB untilW] (m, false) = nxt (m, false) := (nxt_stp h).symm
    rw [e3] at v1
    have l1 : (H ++ K ++ midY ++ [untilW]).length = H.length + K.length + 6 + 1 := by simp [midY]; omega
    rw [l1] at a1 v1
    rw [hl] at a0
    rw [v1]
    exact .til (lit_eq a0) a1
  | none h1 h =>
    refine ⟨endT, sum_noend hK hn hk hm ?_, fun h2 => absurd h2 (by simp)⟩
    intro E2 hE2
    simp only [ends, List.mem_cons, List.not_mem_nil, or_false] at hE2
    rcases hE2 with rfl | rfl
    · show tkB ws m b (fitsB timesW) = false
      rw [fitL timesW (by decide +kernel)]; exact h1
    · show tkB ws m b (fitsB untilW) = false
      rw [fitL untilW (by decide +kernel)]; exact h

theorem rule_sum {H ws : List ByteArray} {pc ev : Int} {acc : List Int} {fr mn mi ti un : Int} {s' : Nat × Bool} (hr : RuleR ws (stps ws (H.map fitsB) (0, false)) pc ev acc fr mn mi ti un s') :
    ∃ q, Sum (sixP H) ws s' q ∧ (s'.2 = false → ∃ K E, q = H ++ K ++ midY ++ E ∧ stps ws (q.map fitsB) (0, false) = s' ∧ RuleG H ws pc ev acc fr mn mi ti un K E) := by
  obtain ⟨n, b, hn⟩ : ∃ n b, stps ws (H.map fitsB) (0, false) = (n, b) := ⟨_, _, rfl⟩
  rw [hn] at hr
  cases hr with
  | mk s _ _ _ hp he =>
    cases hp with
    | daily h =>
      have hb : b = false := (tkB_true (isB_tk ws n b dailyW ▸ h)).1
      subst hb
      have hs : stps ws [evB] (nxt (n, false)) = stps ws ((H ++ paceD).map fitsB) (0, false) := by
        rw [List.map_append, stps_app, hn, paceD_map, nxt_stp h]; rfl
      obtain ⟨E, hS, hg⟩ := after_pace (K := paceD) (by simp [paces]) hn (fun K2 hK2 hne => head_ne h (others_D K2 hK2 hne)) hs he
      refine ⟨_, hS, fun h2 => ⟨paceD, E, rfl, (hg h2).1, ?_, ?_, (hg h2).2⟩⟩
      · have hl' : stps ws ((H ++ paceD ++ midY ++ E).map fitsB) (0, false) = (s'.1, false) := by rw [(hg h2).1]; exact Prod.ext rfl h2
        have e0 : H ++ paceD ++ midY ++ E = H ++ dailyW :: ([everyY] ++ midY ++ E) := by simp [paceD]
        have e1 : H ++ paceD ++ midY ++ E = (H ++ [dailyW]) ++ everyY :: (midY ++ E) := by simp [paceD]
        have a0 := fit_at (e0 ▸ hl')
        have a1 := fit_at (e1 ▸ hl')
        have v1 := val_at (e1 ▸ hl') nvF
        have lt := fitL dailyW (by decide +kernel)
        rw [List.map_append, stps_app, hn] at v1
        simp only [List.map, lt, fitE] at a0 a1 v1
        have e3 : stps ws [litB dailyW] (n, false) = nxt (n, false) := (nxt_stp h).symm
        rw [e3] at v1
        have l1 : (H ++ [dailyW]).length = H.length + 1 := by simp
        rw [l1] at a1 v1
        rw [v1]
        exact .daily (lit_eq a0) a1
      · exact mid_good (E := E) (n := s'.1) hs (by rw [(hg h2).1]; exact Prod.ext rfl h2)
    | weekly h1 h acc ha =>
      have hb : b = false := (tkB_true (isB_tk ws n b weeklyW ▸ h)).1
      subst hb
      have hs : stps ws [evB, Txt.onB] (nxt (n, false)) = stps ws ((H ++ paceW).map fitsB) (0, false) := by
        rw [List.map_append, stps_app, hn, paceW_map, nxt_stp h]; rfl
      obtain ⟨E, hS, hg⟩ := after_pace (K := paceW) (by simp [paces]) hn (fun K2 hK2 hne => head_ne h (others_W K2 hK2 hne)) hs he
      refine ⟨_, hS, fun h2 => ⟨paceW, E, rfl, (hg h2).1, ?_, ?_, (hg h2).2⟩⟩
      · have hl' : stps ws ((H ++ paceW ++ midY ++ E).map fitsB) (0, false) = (s'.1, false) := by rw [(hg h2).1]; exact Prod.ext rfl h2
        have e0 : H ++ paceW ++ midY ++ E = H ++ weeklyW :: ([everyY, onY] ++ midY ++ E) := by simp [paceW]
        have e1 : H ++ paceW ++ midY ++ E = (H ++ [weeklyW]) ++ everyY :: ([onY] ++ midY ++ E) := by simp [paceW]
        have e2 : H ++ paceW ++ midY ++ E = (H ++ [weeklyW, everyY]) ++ onY :: (midY ++ E) := by simp [paceW]
        have a0 := fit_at (e0 ▸ hl')
        have a1 := fit_at (e1 ▸ hl')
        have a2 := fit_of (e2 ▸ hl')
        have p2 := part_of (e2 ▸ hl')
        have v1 := val_at (e1 ▸ hl') nvF
        have lt := fitL weeklyW (by decide +kernel)
        rw [List.map_append, stps_app, hn] at v1 p2
        simp only [List.map, lt, fitE, fitO] at a0 a1 a2 p2 v1
        have e3 : stps ws [litB weeklyW] (n, false) = nxt (n, false) := (nxt_stp h).symm
        have e4 : stps ws [litB weeklyW, evB] (n, false) = stps ws [evB] (nxt (n, false)) := by rw [nxt_stp h]; rfl
        rw [e3] at v1
        rw [e4] at p2
        have l1 : (H ++ [weeklyW]).length = H.length + 1 := by simp
        have l2 : (H ++ [weeklyW, everyY]).length = H.length + 2 := by simp
        rw [l1] at a1 v1
        rw [l2] at a2 p2
        rw [p2] at ha
        rw [v1]
        exact .weekly acc (lit_eq a0) a1 (ha a2)
      · exact mid_good (E := E) (n := s'.1) hs (by rw [(hg h2).1]; exact Prod.ext rfl h2)
    | monthly h1 h1' h =>
      have hb : b = false := (tkB_true (isB_tk ws n b monthlyW ▸ h)).1
      subst hb
      have hs : stps ws [evB] (nxt (n, false)) = stps ws ((H ++ paceM).map fitsB) (0, false) := by
        rw [List.map_append, stps_app, hn, paceM_map, nxt_stp h]; rfl
      obtain ⟨E, hS, hg⟩ := after_pace (K := paceM) (by simp [paces]) hn (fun K2 hK2 hne => head_ne h (others_M K2 hK2 hne)) hs he
      refine ⟨_, hS, fun h2 => ⟨paceM, E, rfl, (hg h2).1, ?_, ?_, (hg h2).2⟩⟩
      · have hl' : stps ws ((H ++ paceM ++ midY ++ E).map fitsB) (0, false) = (s'.1, false) := by rw [(hg h2).1]; exact Prod.ext rfl h2
        have e0 : H ++ paceM ++ midY ++ E = H ++ monthlyW :: ([everyY] ++ midY ++ E) := by simp [paceM]
        have e1 : H ++ paceM ++ midY ++ E = (H ++ [monthlyW]) ++ everyY :: (midY ++ E) := by simp [paceM]
        have a0 := fit_at (e0 ▸ hl')
        have a1 := fit_at (e1 ▸ hl')
        have v1 := val_at (e1 ▸ hl') nvF
        have lt := fitL monthlyW (by decide +kernel)
        rw [List.map_append, stps_app, hn] at v1
        simp only [List.map, lt, fitE] at a0 a1 v1
        have e3 : stps ws [litB monthlyW] (n, false) = nxt (n, false) := (nxt_stp h).symm
        rw [e3] at v1
        have l1 : (H ++ [monthlyW]).length = H.length + 1 := by simp
        rw [l1] at a1 v1
        rw [v1]
        exact .monthly (lit_eq a0) a1
      · exact mid_good (E := E) (n := s'.1) hs (by rw [(hg h2).1]; exact Prod.ext rfl h2)
    | none h1 h2 h =>
      have hmid : midSt ws (n, true) = (n, true) := by unfold midSt; exact stps_bad ws _ n
      have hS : Sum (sixP H) ws (n, true) (H ++ paceD ++ midY ++ endT) := by
        refine sum_nopace hn ?_
        intro K2 hK2
        simp only [paces, List.mem_cons, List.not_mem_nil, or_false] at hK2
        rcases hK2 with rfl | rfl | rfl
        · show tkB ws n b (fitsB dailyW) = false
          rw [fitL dailyW (by decide +kernel)]; exact h1
        · show tkB ws n b (fitsB weeklyW) = false
          rw [fitL weeklyW (by decide +kernel)]; exact h2
        · show tkB ws n b (fitsB monthlyW) = false
          rw [fitL monthlyW (by decide +kernel)]; exact h
      rw [hmid] at he
      cases he with
      | times h => exact absurd (tkB_true (isB_tk ws n true timesW ▸ h)).1 (by decide)
      | til _ h => exact absurd (tkB_true (isB_tk ws n true untilW ▸ h)).1 (by decide)
      | none _ _ => exact ⟨_, hS, fun h2 => absurd h2 (by simp)⟩

end Go.Proofs.YtjfkfiffakbagaaGreatDoor

/-
  The plain mathematics of what is written: words that are read and written again.
-/
namespace Go.Proofs.YtjfkfiffakbagaaGreatDoor
open Go.RowKit

theorem wrN (w : ByteArray) : wrS nameY w = w := by
  have c0 : ¬ (nameY.toList == [85, 78, 73, 84, 83]) = true := by decide +kernel
  have c1 : ¬ (nameY.toList == [77, 73, 78, 85, 84, 69, 83]) = true := by decide +kernel
  have c2 : ¬ (nameY.toList == [69, 86, 69, 82, 89]) = true := by decide +kernel
  have c3 : ¬ (nameY.toList == [73, 68]) = true := by decide +kernel
  have c4 : ¬ (nameY.toList == [84, 73, 77, 69]) = true := by decide +kernel
  have c5 : ¬ (nameY.toList == [79, 78]) = true := by decide +kernel
  unfold wrS; rw [if_neg c0, if_neg c1, if_neg c2, if_neg c3, if_neg c4, if_neg c5]
theorem wrD (w : ByteArray) : wrS dateY w = w := by
  have c0 : ¬ (dateY.toList == [85, 78, 73, 84, 83]) = true := by decide +kernel
  have c1 : ¬ (dateY.toList == [77, 73, 78, 85, 84, 69, 83]) = true := by decide +kernel
  have c2 : ¬ (dateY.toList == [69, 86, 69, 82, 89]) = true := by decide +kernel
  have c3 : ¬ (dateY.toList == [73, 68]) = true := by decide +kernel
  have c4 : ¬ (dateY.toList == [84, 73, 77, 69]) = true := by decide +kernel
  have c5 : ¬ (dateY.toList == [79, 78]) = true := by decide +kernel
  unfold wrS; rw [if_neg c0, if_neg c1, if_neg c2, if_neg c3, if_neg c4, if_neg c5]
theorem wrM (w : ByteArray) : wrS minuteY w = w := by
  have c0 : ¬ (minuteY.toList == [85, 78, 73, 84, 83]) = true := by decide +kernel
  have c1 : ¬ (minuteY.toList == [77, 73, 78, 85, 84, 69, 83]) = true := by decide +kernel
  have c2 : ¬ (minuteY.toList == [69, 86, 69, 82, 89]) = true := by decide +kernel
  have c3 : ¬ (minuteY.toList == [73, 68]) = true := by decide +kernel
  have c4 : ¬ (minuteY.toList == [84, 73, 77, 69]) = true := by decide +kernel
  have c5 : ¬ (minuteY.toList == [79, 78]) = true := by decide +kernel
  unfold wrS; rw [if_neg c0, if_neg c1, if_neg c2, if_neg c3, if_neg c4, if_neg c5]
theorem numR_v {w : ByteArray} (h : Txt.isNum w.data.toList = true) : numR w 1 7 = nvF w := by rw [numR_num, if_pos h]; rfl
theorem within_num {w : ByteArray} {lo hi : Int} (h : withinB w lo hi = true) : Txt.isNum w.data.toList = true ∧ lo ≤ nvF w ∧ nvF w ≤ hi := by
  unfold withinB at h
  simp only [Bool.and_eq_true, decide_eq_true_eq] at h
  exact ⟨h.1.1, h.1.2, h.2⟩
theorem wrU (w : ByteArray) (h : unB w = true) : wrS unitsY w = Txt.itoaS (nvF w) := by
  have c0 : (unitsY.toList == [85, 78, 73, 84, 83]) = true := by decide +kernel
  unfold wrS; rw [if_pos c0, numR_v (within_num h).1]
theorem wrMi (w : ByteArray) (h : miB w = true) : wrS minutesY w = Txt.itoaS (nvF w) := by
  have c0 : ¬ (minutesY.toList == [85, 78, 73, 84, 83]) = true := by decide +kernel
  have c1 : (minutesY.toList == [77, 73, 78, 85, 84, 69, 83]) = true := by decide +kernel
  unfold wrS; rw [if_neg c0, if_pos c1, numR_v (within_num h).1]
theorem wrE (w : ByteArray) (h : evB w = true) : wrS everyY w = Txt.itoaS (nvF w) := by
  have c0 : ¬ (everyY.toList == [85, 78, 73, 84, 83]) = true := by decide +kernel
  have c1 : ¬ (everyY.toList == [77, 73, 78, 85, 84, 69, 83]) = true := by decide +kernel
  have c2 : (everyY.toList == [69, 86, 69, 82, 89]) = true := by decide +kernel
  unfold wrS; rw [if_neg c0, if_neg c1, if_pos c2, numR_v (within_num h).1]
theorem wrI (w : ByteArray) (h : idB w = true) : wrS idY w = Txt.itoaS (nvF w) := by
  have c0 : ¬ (idY.toList == [85, 78, 73, 84, 83]) = true := by decide +kernel
  have c1 : ¬ (idY.toList == [77, 73, 78, 85, 84, 69, 83]) = true := by decide +kernel
  have c2 : ¬ (idY.toList == [69, 86, 69, 82, 89]) = true := by decide +kernel
  have c3 : (idY.toList == [73, 68]) = true := by decide +kernel
  unfold wrS; rw [if_neg c0, if_neg c1, if_neg c2, if_pos c3, numR_v h]
theorem wrT (w : ByteArray) (h : timeB w = true) : wrS timeY w = timeT (timW w) := by
  have c0 : ¬ (timeY.toList == [85, 78, 73, 84, 83]) = true := by decide +kernel
  have c1 : ¬ (timeY.toList == [77, 73, 78, 85, 84, 69, 83]) = true := by decide +kernel
  have c2 : ¬ (timeY.toList == [69, 86, 69, 82, 89]) = true := by decide +kernel
  have c3 : ¬ (timeY.toList == [73, 68]) = true := by decide +kernel
  have c4 : (timeY.toList == [84, 73, 77, 69]) = true := by decide +kernel
  unfold wrS; rw [if_neg c0, if_neg c1, if_neg c2, if_neg c3, if_pos c4]
  unfold timR timW; rw [if_pos h, if_pos h]
theorem wrO (w : ByteArray) : wrS onY w = onWS w := by
  have c0 : ¬ (onY.toList == [85, 78, 73, 84, 83]) = true := by decide +kernel
  have c1 : ¬ (onY.toList == [77, 73, 78, 85, 84, 69, 83]) = true := by decide +kernel
  have c2 : ¬ (onY.toList == [69, 86, 69, 82, 89]) = true := by decide +kernel
  have c3 : ¬ (onY.toList == [73, 68]) = true := by decide +kernel
  have c4 : ¬ (onY.toList == [84, 73, 77, 69]) = true := by decide +kernel
  have c5 : (onY.toList == [79, 78]) = true := by decide +kernel
  unfold wrS; rw [if_neg c0, if_neg c1, if_neg c2, if_neg c3, if_neg c4, if_pos c5]
theorem tim_bd (w : ByteArray) : 0 ≤ timW w ∧ timW w ≤ 1048320 := by
  unfold timW
  cases ht : timeB w
  · simp
  · unfold timeB at ht
    simp only [Bool.and_eq_true, decide_eq_true_eq] at ht
    simp only [if_true]
    exact ht.2
theorem nv_bd (w : ByteArray) : 0 ≤ nvF w ∧ nvF w ≤ 9999999 := Txt.numV_bd w.data.toList
theorem name_v {w : ByteArray} (h : nmB w = true) : nameV w = w := if_pos h

theorem byte_of {s : ByteArray} {i : Nat} {c : UInt8} {l : List UInt8} (hl : s.data.toList = l) (hc : l[i]? = some c) {n : Nat} (h : Txt.byteAt s i = n) : c.toNat = n := by
  unfold Txt.byteAt at h
  rw [hl, List.getD_eq_getElem?_getD, hc] at h
  simp at h
  omega
theorem toNat_eq {c : UInt8} {n : Nat} (h : c.toNat = n) (hn : n < 256) : c = UInt8.ofNat n := by
  apply UInt8.toNat_inj.1
  rw [h, UInt8.toNat_ofNat']
  omega
theorem part_pad (s : ByteArray) (a b n : Nat) (hs : min b s.size - a = n + 1) (h : Txt.isNum (Txt.part s a b) = true) : Txt.padS (Txt.numV (Txt.part s a b)) (n + 1) = s.extract a b := by
  have hz : (s.extract a b).size = n + 1 := size_part s a b (n + 1) hs
  have hd := Txt.isNum_digs h
  have e : Txt.numV (Txt.part s a b) = Txt.numL (s.extract a b).data.toList := by unfold Txt.numV; rw [if_pos h]; rfl
  rw [e]
  exact Txt.pad_back _ n hz hd
/-- A date that was read is written as it stood. -/
theorem date_back (w : ByteArray) (h : Txt.dayB w = true) : dateT (dayV w) = w := by
  have hd : Txt.dateB w = true := by
    unfold Txt.dayB at h; exact (of_decide_eq_true h).1
  have e : dayV w = Cal.num (Txt.numV (Txt.part w 0 4)) (Txt.numV (Txt.part w 5 7)) (Txt.numV (Txt.part w 8 10)) := by
    unfold dayV Txt.dateV; rw [if_pos h, if_pos hd]
  unfold Txt.dateB at hd
  obtain ⟨hs, b4, b7, n0, n1, n2, hok⟩ := of_decide_eq_true hd
  obtain ⟨ey, em, ed⟩ := Cal.dT_one _ _ _ _ hok e.symm
  unfold dateT
  rw [← ey, ← em, ← ed]
  unfold dateS
  rw [part_pad w 0 4 3 (by omega) n0, part_pad w 5 7 1 (by omega) n1, part_pad w 8 10 1 (by omega) n2]
  apply Txt.of_list
  simp only [Txt.append_list, Txt.ext_list]
  have hl : w.data.toList.length = 10 := by rw [Txt.len_list]; exact hs
  obtain ⟨l, hw⟩ : ∃ l, w.data.toList = l := ⟨_, rfl⟩
  rw [hw] at hl
  rw [hw]
  match l, hl, hw with
  | [a0, a1, a2, a3, a4, a5, a6, a7, a8, a9], _, hw =>
    have e4 := toNat_eq (byte_of (i := 4) (c := a4) hw rfl (n := 45) b4) (by omega)
    have e7 := toNat_eq (byte_of (i := 7) (c := a7) hw rfl (n := 45) b7) (by omega)
    rw [e4, e7]
    rfl
/-- A minute that was read is written as it stood. -/
theorem min_back (w : ByteArray) (h : Txt.minB w = true) : minS (Txt.minV w) = w := by
  have e : Txt.minV w = Txt.numV (Txt.part w 0 2) * 60 + Txt.numV (Txt.part w 3 5) := by unfold Txt.minV; rw [if_pos h]
  unfold Txt.minB at h
  obtain ⟨hs, b2, n0, n1, h23, h59⟩ := of_decide_eq_true h
  have q0 := Txt.numV_bd (Txt.part w 0 2)
  have q1 := Txt.numV_bd (Txt.part w 3 5)
  have e1 : Txt.minV w / 60 = Txt.numV (Txt.part w 0 2) := by rw [e]; omega
  have e2 : Txt.minV w % 60 = Txt.numV (Txt.part w 3 5) := by rw [e]; omega
  unfold minS
  rw [e1, e2, part_pad w 0 2 1 (by omega) n0, part_pad w 3 5 1 (by omega) n1]
  apply Txt.of_list
  simp only [Txt.append_list, Txt.ext_list]
  have hl : w.data.toList.length = 5 := by rw [Txt.len_list]; exact hs
  obtain ⟨l, hw⟩ : ∃ l, w.data.toList = l := ⟨_, rfl⟩
  rw [hw] at hl
  rw [hw]
  match l, hl, hw with
  | [a0, a1, a2, a3, a4], _, hw =>
    have e2 := toNat_eq (byte_of (i := 2) (c := a2) hw rfl (n := 58) b2) (by omega)
    rw [e2]
    rfl
theorem tail_snoc (sep : List UInt8) (r : List (List UInt8)) (x : List UInt8) : Lib.joinTail sep (r ++ [x]) = Lib.joinTail sep r ++ (sep ++ x) := by
  simp [Lib.joinTail]
theorem onOut_list (acc : List Int) : ∀ k : Nat, (onOut acc k).data.toList = Lib.joinTail [44] ((onL acc k).map (·.data.toList))
  | 0 => rfl
  | k + 1 => by
    have ih := onOut_list acc k
    unfold onOut onL
    split
    · rw [List.map_append, List.map_cons, List.map_nil, tail_snoc, Txt.append_list, Txt.append_list, ih]
      simp
    · exact ih
theorem join_drop (L : List (List UInt8)) : Lib.join L [44] = (Lib.joinTail [44] L).drop 1 := by
  cases L with
  | nil => rfl
  | cons x r => rw [Lib.join_cons]; simp [Lib.joinTail]
theorem on_join (acc : List Int) : Lib.join ((onL acc 7).map (·.data.toList)) [44] = (onT acc).data.toList := by
  unfold onT
  rw [Txt.ext_list, join_drop, ← onOut_list]
  rw [List.take_of_length_le (by rw [Txt.len_list]; exact Nat.le_refl _)]
theorem onJ_eq (acc : List Int) : onJ acc = onT acc := by
  apply Txt.of_list
  show (Lib.join ((onL acc 7).map (·.data.toList)) [44]).toArray.toList = _
  rw [on_join]
theorem onL_ne {s : ByteArray} {acc : List Int} (h : Txt.onW s = some acc) : onL acc 7 ≠ [] := by
  intro e
  have h1 := onT_ok h
  have h2 := onOut_list acc 7
  rw [e] at h2
  have h3 := Txt.len_list (onOut acc 7)
  rw [h2] at h3
  have : (Lib.joinTail [44] (([] : List ByteArray).map (·.data.toList))).length = 0 := rfl
  omega
theorem onL_short (acc : List Int) : (Lib.join ((onL acc 7).map (·.data.toList)) [44]).length ≤ 160 := by
  rw [on_join, Txt.len_list]
  unfold onT
  have e : ((onOut acc 7).extract 1 (onOut acc 7).size).size = min (onOut acc 7).size (onOut acc 7).size - 1 := ByteArray.size_extract ..
  have := onOut_size acc 7
  omega
theorem onWS_eq {s : ByteArray} {acc : List Int} (h : Txt.onW s = some acc) : onWS s = onJ acc := by
  unfold onWS; rw [h, onJ_eq]

theorem jn_one (x : ByteArray) : jn [x] = x := by
  apply Txt.of_list
  show (Lib.join [x.data.toList] [32]).toArray.toList = _
  rw [Lib.join_one]
theorem jn_snoc (xs : List ByteArray) (y : ByteArray) (h : xs ≠ []) : jn (xs ++ [y]) = jn xs ++ ⟨#[32]⟩ ++ y := by
  apply Txt.of_list
  rw [Txt.append_list, Txt.append_list]
  show (Lib.join ((xs ++ [y]).map (·.data.toList)) [32]) = Lib.join (xs.map (·.data.toList)) [32] ++ [32] ++ y.data.toList
  match xs, h with
  | x :: r, _ =>
    rw [List.cons_append, List.map_cons, List.map_cons, Lib.join_cons, Lib.join_cons, List.map_append, List.map_cons, List.map_nil, tail_snoc]
    simp
theorem outR_jn (p ws : List ByteArray) : ∀ k : Nat, outR p ws k = jn ((List.range k).map fun j => wrS (p.getD j ByteArray.empty) (ws.getD j ByteArray.empty))
  | 0 => rfl
  | k + 1 => by
    have ih := outR_jn p ws k
    rw [List.range_succ, List.map_append, List.map_cons, List.map_nil, outR]
    by_cases hk : 0 < k
    · rw [if_pos hk, jn_snoc _ _ (by simp; omega), ← ih]
      rfl
    · obtain rfl : k = 0 := by omega
      rw [if_neg hk]
      show outR p ws 0 ++ _ = jn [_]
      rw [jn_one]
      apply Txt.of_list
      rw [Txt.append_list]
      rfl

end Go.Proofs.YtjfkfiffakbagaaGreatDoor
