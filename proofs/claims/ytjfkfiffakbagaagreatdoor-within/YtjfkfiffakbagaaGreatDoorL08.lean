/-
  Parts of the proof, one behind the other: RuleDays, RefPeak, RefFind, Taken, Sums, RefFirst, RefList, Rank.
-/
import Derived.Test.YtjfkfiffakbagaaGreatDoorL07
/-
  The days of a rule, as mathematics: what the program goes through and what the document asks day by day are one row.
-/
namespace Go.Proofs.YtjfkfiffakbagaaGreatDoor
namespace Rd

/-- The days from d on, so many of them looked at, that have a property. -/
def upDays (p : Int → Bool) : Nat → Int → List Int
  | 0, _ => []
  | k + 1, d => if p d then d :: upDays p k (d + 1) else upDays p k (d + 1)
theorem upDays_mem (p : Int → Bool) : ∀ (k : Nat) (d x : Int), x ∈ upDays p k d ↔ d ≤ x ∧ x < d + k ∧ p x = true
  | 0, d, x => by simp [upDays]; omega
  | k + 1, d, x => by
    have ih := upDays_mem p k (d + 1) x
    simp only [upDays]
    by_cases c : p d = true
    · rw [if_pos c, List.mem_cons, ih]
      constructor
      · rintro (rfl | ⟨h1, h2, h3⟩)
        · exact ⟨Int.le_refl _, by omega, c⟩
        · exact ⟨by omega, by omega, h3⟩
      · rintro ⟨h1, h2, h3⟩
        by_cases e : x = d
        · exact .inl e
        · exact .inr ⟨by omega, by omega, h3⟩
    · rw [if_neg c, ih]
      constructor
      · rintro ⟨h1, h2, h3⟩; exact ⟨by omega, by omega, h3⟩
      · rintro ⟨h1, h2, h3⟩
        have : x ≠ d := fun e => c (e ▸ h3)
        exact ⟨by omega, by omega, h3⟩
theorem upDays_up (p : Int → Bool) : ∀ (k : Nat) (d : Int), (upDays p k d).Pairwise (· < ·)
  | 0, d => by simp [upDays]
  | k + 1, d => by
    simp only [upDays]
    split
    · rw [List.pairwise_cons]
      exact ⟨fun x hx => by have := (upDays_mem p k (d + 1) x).1 hx; omega, upDays_up p k (d + 1)⟩
    · exact upDays_up p k (d + 1)
theorem up_unique {l m : List Int} (hl : l.Pairwise (· < ·)) (hm : m.Pairwise (· < ·)) (h : ∀ x, x ∈ l ↔ x ∈ m) : l = m :=
  sorted_unique (lt := fun a b : Int => a < b) (fun x => by omega) (fun x y z h k => by omega) hl hm h

/-- daily -/
def seqD (ev : Int) : Nat → Int → List Int
  | 0, _ => []
  | k + 1, d => if d < 728 then d :: seqD ev k (d + ev) else []
theorem seqD_mem {ev : Int} (he : 1 ≤ ev) : ∀ (k : Nat) (d x : Int), 728 ≤ d + k → (x ∈ seqD ev k d ↔ d ≤ x ∧ x < 728 ∧ (x - d) % ev = 0)
  | 0, d, x, h => by simp [seqD]; omega
  | k + 1, d, x, h => by
    simp only [seqD]
    by_cases c : d < 728
    · rw [if_pos c, List.mem_cons, seqD_mem he k (d + ev) x (by omega)]
      have e1 : (x - (d + ev)) % ev = (x - d) % ev := by rw [show x - (d + ev) = x - d - ev from by omega, Int.sub_emod_right]
      rw [e1]
      constructor
      · rintro (rfl | ⟨h1, h2, h3⟩)
        · exact ⟨Int.le_refl _, c, by simp⟩
        · exact ⟨by omega, h2, h3⟩
      · rintro ⟨h1, h2, h3⟩
        by_cases e : d + ev ≤ x
        · exact .inr ⟨e, h2, h3⟩
        · rw [Int.emod_eq_of_lt (by omega) (by omega)] at h3
          exact .inl (by omega)
    · rw [if_neg c]
      simp; omega
theorem seqD_up {ev : Int} (he : 1 ≤ ev) : ∀ (k : Nat) (d : Int), (seqD ev k d).Pairwise (· < ·) ∧ ∀ x ∈ seqD ev k d, d ≤ x
  | 0, d => by simp [seqD]
  | k + 1, d => by
    simp only [seqD]
    obtain ⟨i1, i2⟩ := seqD_up he k (d + ev)
    split
    · refine ⟨List.pairwise_cons.2 ⟨fun x hx => by have := i2 x hx; omega, i1⟩, fun x hx => ?_⟩
      rcases List.mem_cons.1 hx with rfl | hx
      · exact Int.le_refl _
      · have := i2 x hx; omega
    · simp

/-- weekly: the days of the week that begins at mon, not ahead of fr. -/
def week (acc : List Int) (fr mon : Int) : List Int := upDays (fun d => isd acc (d - mon)) (mon + 7 - max mon fr).toNat (max mon fr)
def seqW (acc : List Int) (fr ev : Int) : Nat → Int → List Int
  | 0, _ => []
  | k + 1, mon => if mon < 728 then week acc fr mon ++ seqW acc fr ev k (mon + ev * 7) else []
theorem week_mem {acc : List Int} {fr mon x : Int} : x ∈ week acc fr mon ↔ mon ≤ x ∧ fr ≤ x ∧ x < mon + 7 ∧ isd acc (x - mon) = true := by
  unfold week
  rw [upDays_mem]
  constructor
  · rintro ⟨h1, h2, h3⟩; exact ⟨by omega, by omega, by omega, h3⟩
  · rintro ⟨h1, h2, h3, h4⟩; exact ⟨by omega, by omega, h4⟩
theorem seqW_mem {acc : List Int} {fr ev : Int} (he : 1 ≤ ev) : ∀ (k : Nat) (mon x : Int), 0 ≤ mon → mon % 7 = 0 → 728 ≤ mon + k → (x ∈ seqW acc fr ev k mon ↔ mon ≤ x ∧ fr ≤ x ∧ x < 728 ∧ isd acc (x % 7) = true ∧ (x / 7 - mon / 7) % ev = 0)
  | 0, mon, x, h0, h7, h => by simp [seqW]; omega
  | k + 1, mon, x, h0, h7, h => by
    simp only [seqW]
    by_cases c : mon < 728
    · have hev : (ev * 7) % 7 = 0 := by omega
      rw [if_pos c, List.mem_append, week_mem, seqW_mem he k (mon + ev * 7) x (by omega) (by omega) (by omega)]
      have e0 : (mon + ev * 7) / 7 = mon / 7 + ev := by omega
      have e1 : (x / 7 - (mon + ev * 7) / 7) % ev = (x / 7 - mon / 7) % ev := by rw [e0, show x / 7 - (mon / 7 + ev) = x / 7 - mon / 7 - ev from by omega, Int.sub_emod_right]
      rw [e1]
      constructor
      · rintro (⟨h1, h2, h3, h4⟩ | ⟨h1, h2, h3, h4, h5⟩)
        · have e2 : x - mon = x % 7 := by omega
          have e3 : x / 7 - mon / 7 = 0 := by omega
          rw [e2] at h4
          rw [e3]
          exact ⟨h1, h2, by omega, h4, by simp⟩
        · exact ⟨by omega, h2, h3, h4, h5⟩
      · rintro ⟨h1, h2, h3, h4, h5⟩
        by_cases e : x < mon + 7
        · have e2 : x - mon = x % 7 := by omega
          exact .inl ⟨h1, h2, e, by rw [e2]; exact h4⟩
        · by_cases e' : mon + ev * 7 ≤ x
          · exact .inr ⟨e', h2, h3, h4, h5⟩
          · rw [Int.emod_eq_of_lt (by omega) (by omega)] at h5
            omega
    · rw [if_neg c]
      simp; omega
theorem seqW_up {acc : List Int} {fr ev : Int} (he : 1 ≤ ev) : ∀ (k : Nat) (mon : Int), (seqW acc fr ev k mon).Pairwise (· < ·) ∧ ∀ x ∈ seqW acc fr ev k mon, mon ≤ x
  | 0, mon => by simp [seqW]
  | k + 1, mon => by
    simp only [seqW]
    obtain ⟨i1, i2⟩ := seqW_up (acc := acc) (fr := fr) he k (mon + ev * 7)
    split
    · refine ⟨List.pairwise_append.2 ⟨upDays_up _ _ _, i1, fun x hx y hy => ?_⟩, fun x hx => ?_⟩
      · have := week_mem.1 hx
        have := i2 y hy
        omega
      · rcases List.mem_append.1 hx with hx | hx
        · exact (week_mem.1 hx).1
        · have := i2 x hx; omega
    · simp

/-- monthly -/
def reached (y m : Int) : Bool := Cal.ok y m 1 && decide (Cal.num y m 1 < 728)
def laterY (y m ev : Int) : Int := y + (m - 1 + ev) / 12
def laterM (m ev : Int) : Int := (m - 1 + ev) % 12 + 1
def inMonth (y m dt : Int) : List Int := if Cal.ok y m dt then [Cal.num y m dt] else []
def seqM (dt ev : Int) : Nat → Int → Int → List Int
  | 0, _, _ => []
  | k + 1, y, m => if reached y m then inMonth y m dt ++ seqM dt ev k (laterY y m ev) (laterM m ev) else []
theorem num_lt {y m d y' m' d' : Int} (h : Cal.ok y m d = true) (h' : Cal.ok y' m' d' = true) (k : 12 * y + m < 12 * y' + m') : Cal.num y m d < Cal.num y' m' d' := by
  have i := Cal.in_year y m d h
  have i' := Cal.in_year y' m' d' h'
  obtain ⟨h1, h2, h3, h4, h5, h6⟩ := (Cal.ok_iff y m d).1 h
  obtain ⟨g1, g2, g3, g4, g5, g6⟩ := (Cal.ok_iff y' m' d').1 h'
  by_cases e : y = y'
  · subst e
    have := Cal.cum_mono y m m' h3 (by omega) (by omega)
    unfold Cal.num; omega
  · have := Cal.ah_mono (y + 1) y' (by omega) (by omega)
    omega
theorem ok_first {y m : Int} (h1 : 1 ≤ y) (h2 : y ≤ 9999) (h3 : 1 ≤ m) (h4 : m ≤ 12) : Cal.ok y m 1 = true := by
  have := Cal.dim_bd y m
  exact (Cal.ok_iff _ _ _).2 ⟨h1, h2, h3, h4, by omega, by omega⟩
theorem reached_iff {y m : Int} (h1 : 2024 ≤ y) (h2 : y ≤ 9999) (h3 : 1 ≤ m) (h4 : m ≤ 12) : reached y m = true ↔ 12 * y + m ≤ 24312 := by
  have o := ok_first (m := m) (by omega : 1 ≤ y) h2 h3 h4
  unfold reached
  rw [o, Bool.true_and, decide_eq_true_eq]
  have e1 : Cal.num 2025 12 1 = 700 := by decide
  have e2 : Cal.num 2026 1 1 = 731 := by decide
  constructor
  · intro h
    apply Classical.byContradiction
    intro c
    by_cases e : 12 * y + m = 24313
    · have : y = 2026 := by omega
      have : m = 1 := by omega
      subst_vars; omega
    · have := num_lt (ok_first (y := 2026) (m := 1) (by omega) (by omega) (by omega) (by omega)) o (by omega)
      omega
  · intro h
    by_cases e : 12 * y + m = 24312
    · have : y = 2025 := by omega
      have : m = 12 := by omega
      subst_vars; omega
    · have := num_lt o (ok_first (y := 2025) (m := 12) (by omega) (by omega) (by omega) (by omega)) (by omega)
      omega
theorem later_is {y m ev : Int} : 12 * laterY y m ev + laterM m ev = 12 * y + m + ev ∧ 1 ≤ laterM m ev ∧ laterM m ev ≤ 12 := by
  unfold laterY laterM; omega
theorem monthOf {x : Int} (h0 : 0 ≤ x) (h1 : x < 728) : Cal.ok (Cal.yT x) (Cal.mT x) (Cal.dT x) = true ∧ Cal.num (Cal.yT x) (Cal.mT x) (Cal.dT x) = x ∧ 2024 ≤ Cal.yT x ∧ 12 * Cal.yT x + Cal.mT x ≤ 24312 := by
  obtain ⟨o, n⟩ := Cal.dT_ok x (by omega) (by omega)
  refine ⟨o, n, ?_, ?_⟩
  · apply Classical.byContradiction
    intro c
    obtain ⟨g1, g2, g3, g4, g5, g6⟩ := (Cal.ok_iff _ _ _).1 o
    have := num_lt o (ok_first (y := 2024) (m := 1) (by omega) (by omega) (by omega) (by omega)) (by omega)
    have e : Cal.num 2024 1 1 = 0 := by decide
    omega
  · apply Classical.byContradiction
    intro c
    obtain ⟨g1, g2, g3, g4, g5, g6⟩ := (Cal.ok_iff _ _ _).1 o
    have e2 : Cal.num 2026 1 1 = 731 := by decide
    have o2 := ok_first (y := 2026) (m := 1) (by omega) (by omega) (by omega) (by omega)
    by_cases e : 12 * Cal.yT x + Cal.mT x = 24313
    · have : Cal.yT x = 2026 := by omega
      have e' : Cal.mT x = 1 := by omega
      rw [this, e'] at n
      have e3 : Cal.num 2026 1 (Cal.dT x) = 731 + Cal.dT x - 1 := by
        have : Cal.num 2026 1 (Cal.dT x) = Cal.num 2026 1 1 + Cal.dT x - 1 := by unfold Cal.num; omega
        omega
      omega
    · have := num_lt o2 o (by omega)
      omega
theorem seqM_mem {dt ev : Int} (he : 1 ≤ ev) (he2 : ev ≤ 99) : ∀ (k : Nat) (y m x : Int), 2024 ≤ y → y ≤ 2034 → 1 ≤ m → m ≤ 12 → 24312 < 12 * y + m + k → 0 ≤ x → x < 728 →
    (x ∈ seqM dt ev k y m ↔ Cal.dT x = dt ∧ 12 * y + m ≤ 12 * Cal.yT x + Cal.mT x ∧ (12 * Cal.yT x + Cal.mT x - 12 * y - m) % ev = 0)
  | 0, y, m, x, hy, hy2, hm, hm2, hk, h0, h1 => by
    have := (monthOf h0 h1).2.2.2
    simp [seqM]; omega
  | k + 1, y, m, x, hy, hy2, hm, hm2, hk, h0, h1 => by
    obtain ⟨o, n, y0, mx⟩ := monthOf h0 h1
    obtain ⟨g1, g2, g3, g4, g5, g6⟩ := (Cal.ok_iff _ _ _).1 o
    simp only [seqM]
    have hr := reached_iff (y := y) (m := m) hy (by omega) hm hm2
    by_cases c : 12 * y + m ≤ 24312
    · rw [if_pos (hr.2 c), List.mem_append]
      obtain ⟨l1, l2, l3⟩ := later_is (y := y) (m := m) (ev := ev)
      rw [seqM_mem he he2 k (laterY y m ev) (laterM m ev) x (by omega) (by omega) l2 l3 (by omega) h0 h1]
      have e1 : (12 * Cal.yT x + Cal.mT x - 12 * laterY y m ev - laterM m ev) % ev = (12 * Cal.yT x + Cal.mT x - 12 * y - m) % ev := by
        rw [show 12 * Cal.yT x + Cal.mT x - 12 * laterY y m ev - laterM m ev = 12 * Cal.yT x + Cal.mT x - 12 * y - m - ev from by omega, Int.sub_emod_right]
      rw [e1, l1]
      have hin : x ∈ inMonth y m dt ↔ Cal.dT x = dt ∧ 12 * y + m = 12 * Cal.yT x + Cal.mT x := by
        unfold inMonth
        constructor
        · intro h
          by_cases ok : Cal.ok y m dt = true
          · rw [if_pos ok] at h
            have : x = Cal.num y m dt := by simpa using h
            obtain ⟨a1, a2, a3⟩ := Cal.dT_one y m dt x ok this.symm
            exact ⟨a3.symm, by omega⟩
          · rw [if_neg ok] at h; simp at h
        · rintro ⟨a1, a2⟩
          have e2 : y = Cal.yT x := by omega
          have e3 : m = Cal.mT x := by omega
          subst a1
          rw [e2, e3, if_pos o, n]; simp
      rw [hin]
      constructor
      · rintro (⟨a1, a2⟩ | ⟨a1, a2, a3⟩)
        · refine ⟨a1, by omega, ?_⟩
          rw [show 12 * Cal.yT x + Cal.mT x - 12 * y - m = 0 from by omega]; simp
        · exact ⟨a1, by omega, a3⟩
      · rintro ⟨a1, a2, a3⟩
        by_cases e : 12 * y + m + ev ≤ 12 * Cal.yT x + Cal.mT x
        · exact .inr ⟨a1, e, a3⟩
        · rw [Int.emod_eq_of_lt (by omega) (by omega)] at a3
          exact .inl ⟨a1, by omega⟩
    · have hn : ¬ reached y m = true := fun h => c (hr.1 h)
      rw [if_neg hn]
      simp; omega
theorem seqM_up {dt ev : Int} (he : 1 ≤ ev) : ∀ (k : Nat) (y m : Int), 1 ≤ m → m ≤ 12 → (seqM dt ev k y m).Pairwise (· < ·) ∧ ∀ x ∈ seqM dt ev k y m, ∃ y' m', Cal.ok y' m' dt = true ∧ x = Cal.num y' m' dt ∧ 12 * y + m ≤ 12 * y' + m'
  | 0, y, m, _, _ => by simp [seqM]
  | k + 1, y, m, h1, h2 => by
    simp only [seqM]
    obtain ⟨l1, l2, l3⟩ := later_is (y := y) (m := m) (ev := ev)
    obtain ⟨i1, i2⟩ := seqM_up (dt := dt) he k (laterY y m ev) (laterM m ev) l2 l3
    split
    · unfold inMonth
      by_cases ok : Cal.ok y m dt = true
      · rw [if_pos ok]
        refine ⟨List.pairwise_append.2 ⟨by simp, i1, fun x hx z hz => ?_⟩, fun x hx => ?_⟩
        · have : x = Cal.num y m dt := by simpa using hx
          obtain ⟨y', m', o, rfl, k⟩ := i2 z hz
          rw [this]
          exact num_lt ok o (by omega)
        · rcases List.mem_append.1 hx with hx | hx
          · have : x = Cal.num y m dt := by simpa using hx
            exact ⟨y, m, ok, this, Int.le_refl _⟩
          · obtain ⟨y', m', o, e, k⟩ := i2 x hx
            exact ⟨y', m', o, e, by omega⟩
      · rw [if_neg ok]
        refine ⟨by simpa using i1, fun x hx => ?_⟩
        obtain ⟨y', m', o, e, k⟩ := i2 x (by simpa using hx)
        exact ⟨y', m', o, e, by omega⟩
    · simp

/-- What a rule is: pace, every, on, from, at, for, times, until. -/
structure Rule where
  pc : Int
  ev : Int
  acc : List Int
  fr : Int
  mn : Int
  mi : Int
  ti : Int
  un : Int
structure Fine (r : Rule) : Prop where
  pc1 : 1 ≤ r.pc
  pc3 : r.pc ≤ 3
  e1 : 1 ≤ r.ev
  e2 : r.ev ≤ 99
  f0 : 0 ≤ r.fr
  f1 : r.fr < 728
  m0 : 0 ≤ r.mn
  m1 : r.mn < 1440
  i1 : 1 ≤ r.mi
  i2 : r.mi ≤ 1048320
  t0 : 0 ≤ r.ti
  t1 : r.ti ≤ 99
  u0 : 0 ≤ r.un
  u1 : r.un < 728
/-- Is a day, not ahead of the rule's, one of its days? -/
def has (r : Rule) (d : Int) : Bool :=
  if r.pc = 1 then decide ((d - r.fr) % r.ev = 0)
  else if r.pc = 2 then isd r.acc (d % 7) && decide ((d / 7 - r.fr / 7) % r.ev = 0)
  else decide (Cal.dT d = Cal.dT r.fr) && decide ((12 * Cal.yT d + Cal.mT d - 12 * Cal.yT r.fr - Cal.mT r.fr) % r.ev = 0)
/-- All its days up to the horizon. -/
def all (r : Rule) : List Int := upDays (has r) (728 - r.fr).toNat r.fr
theorem all_mem {r : Rule} (h : Fine r) (x : Int) : x ∈ all r ↔ r.fr ≤ x ∧ x < 728 ∧ has r x = true := by
  have := h.f1
  unfold all
  rw [upDays_mem]
  constructor
  · rintro ⟨h1, h2, h3⟩; exact ⟨h1, by omega, h3⟩
  · rintro ⟨h1, h2, h3⟩; exact ⟨h1, by omega, h3⟩
/-- What the program goes through. -/
def seq (r : Rule) : List Int :=
  if r.pc = 2 then seqW r.acc r.fr r.ev 800 (r.fr - r.fr % 7)
  else if r.pc = 3 then seqM (Cal.dT r.fr) r.ev 100 (Cal.yT r.fr) (Cal.mT r.fr)
  else seqD r.ev 800 r.fr
theorem seq_up {r : Rule} (h : Fine r) : (seq r).Pairwise (· < ·) := by
  unfold seq
  split
  · exact (seqW_up h.e1 _ _).1
  · split
    · have o := (monthOf h.f0 h.f1).1
      obtain ⟨g1, g2, g3, g4, g5, g6⟩ := (Cal.ok_iff _ _ _).1 o
      exact (seqM_up h.e1 _ _ _ g3 g4).1
    · exact (seqD_up h.e1 _ _).1
theorem seq_mem {r : Rule} (h : Fine r) {x : Int} (h0 : 0 ≤ x) (h1 : x < 728) : x ∈ seq r ↔ r.fr ≤ x ∧ has r x = true := by
  have f0 := h.f0
  have f1 := h.f1
  have p1 := h.pc1
  have p3 := h.pc3
  unfold seq has
  by_cases c2 : r.pc = 2
  · rw [if_pos c2, if_neg (by omega), if_pos c2, seqW_mem h.e1 800 _ x (by omega) (by omega) (by omega)]
    have e : (r.fr - r.fr % 7) / 7 = r.fr / 7 := by omega
    rw [e, Bool.and_eq_true, decide_eq_true_eq]
    constructor
    · rintro ⟨k1, k2, k3, k4, k5⟩; exact ⟨k2, k4, k5⟩
    · rintro ⟨k2, k4, k5⟩; exact ⟨by omega, k2, h1, k4, k5⟩
  · rw [if_neg c2]
    by_cases c3 : r.pc = 3
    · rw [if_pos c3, if_neg (by omega), if_neg c2]
      obtain ⟨o, n, y0, mx⟩ := monthOf h.f0 h.f1
      obtain ⟨g1, g2, g3, g4, g5, g6⟩ := (Cal.ok_iff _ _ _).1 o
      rw [seqM_mem h.e1 h.e2 100 _ _ x y0 (by omega) g3 g4 (by omega) h0 h1, Bool.and_eq_true, decide_eq_true_eq, decide_eq_true_eq]
      obtain ⟨ox, nx, yx, mxx⟩ := monthOf h0 h1
      constructor
      · rintro ⟨k1, k2, k3⟩
        refine ⟨?_, k1, k3⟩
        by_cases e : 12 * Cal.yT r.fr + Cal.mT r.fr = 12 * Cal.yT x + Cal.mT x
        · obtain ⟨j1, j2, j3, j4, j5, j6⟩ := (Cal.ok_iff _ _ _).1 ox
          have e1 : Cal.yT r.fr = Cal.yT x := by omega
          have e2 : Cal.mT r.fr = Cal.mT x := by omega
          rw [e1, e2, ← k1] at n
          omega
        · have := num_lt o ox (by omega)
          omega
      · rintro ⟨k1, k2, k3⟩
        refine ⟨k2, ?_, k3⟩
        apply Classical.byContradiction
        intro c
        have := num_lt ox o (by omega)
        omega
    · rw [if_neg c3, if_pos (by omega), seqD_mem h.e1 800 _ x (by omega), decide_eq_true_eq]
      constructor
      · rintro ⟨k1, k2, k3⟩; exact ⟨k1, k3⟩
      · rintro ⟨k1, k3⟩; exact ⟨k1, h1, k3⟩
/-- Of a row that goes up: what is not above a bound is ahead. -/
theorem takeWhile_mem {l : List Int} (h : l.Pairwise (· < ·)) (b x : Int) : x ∈ l.takeWhile (fun d => decide (d ≤ b)) ↔ x ∈ l ∧ x ≤ b := by
  induction l with
  | nil => simp
  | cons d l ih =>
    rw [List.pairwise_cons] at h
    rw [List.takeWhile_cons]
    by_cases c : d ≤ b
    · simp only [c, decide_true, if_true, List.mem_cons, ih h.2]
      constructor
      · rintro (rfl | ⟨k1, k2⟩)
        · exact ⟨.inl rfl, c⟩
        · exact ⟨.inr k1, k2⟩
      · rintro ⟨rfl | k1, k2⟩
        · exact .inl rfl
        · exact .inr ⟨k1, k2⟩
    · simp only [c, decide_false, Bool.false_eq_true, if_false, List.not_mem_nil, false_iff, List.mem_cons]
      rintro ⟨rfl | k1, k2⟩
      · exact c k2
      · have := h.1 x k1; omega
theorem seq_to {r : Rule} (h : Fine r) {b : Int} (hb : b < 728) : (seq r).takeWhile (fun d => decide (d ≤ b)) = (all r).filter (fun d => decide (d ≤ b)) := by
  refine up_unique ?_ ?_ (fun x => ?_)
  · exact List.Pairwise.sublist (List.takeWhile_sublist _) (seq_up h)
  · exact List.Pairwise.filter _ (upDays_up _ _ _)
  · rw [takeWhile_mem (seq_up h), List.mem_filter, all_mem h, decide_eq_true_eq]
    have f0 := h.f0
    have low : x ∈ seq r → 0 ≤ x := by
      intro hx
      unfold seq at hx
      split at hx
      · have := (seqW_up h.e1 _ _).2 x hx; omega
      · split at hx
        · have o := (monthOf h.f0 h.f1)
          obtain ⟨g1, g2, g3, g4, g5, g6⟩ := (Cal.ok_iff _ _ _).1 o.1
          obtain ⟨y', m', o', rfl, k⟩ := (seqM_up h.e1 _ _ _ g3 g4).2 x hx
          by_cases e : 12 * Cal.yT r.fr + Cal.mT r.fr = 12 * y' + m'
          · obtain ⟨j1, j2, j3, j4, j5, j6⟩ := (Cal.ok_iff _ _ _).1 o'
            have e1 : Cal.yT r.fr = y' := by omega
            have e2 : Cal.mT r.fr = m' := by omega
            rw [← e1, ← e2, o.2.1]; omega
          · have := num_lt o.1 o' (by omega)
            have := o.2.1
            omega
        · have := (seqD_up h.e1 _ _).2 x hx; omega
    constructor
    · rintro ⟨k1, k2⟩
      have k0 := low k1
      obtain ⟨k3, k4⟩ := (seq_mem h k0 (by omega)).1 k1
      exact ⟨⟨k3, by omega, k4⟩, k2⟩
    · rintro ⟨⟨k1, k2, k3⟩, k4⟩
      exact ⟨(seq_mem h (by omega) k2).2 ⟨k1, k3⟩, k4⟩
theorem seq_all {r : Rule} (h : Fine r) : (seq r).takeWhile (fun d => decide (d ≤ 727)) = all r := by
  rw [seq_to h (by omega)]
  exact List.filter_eq_self.2 (fun x hx => by have := (all_mem h x).1 hx; simp; omega)

/-- What the program's firstDays gives. -/
def firstDays (r : Rule) : List Int := if 0 < r.ti then ((seq r).takeWhile (fun d => decide (d ≤ 727))).take r.ti.toNat else ((seq r).takeWhile (fun d => decide (d ≤ r.un))).take 41
/-- What the document's days are: one by one. -/
def refStep (r : Rule) (l : List Int) (d : Int) : List Int := if has r d ∧ ((r.ti = 0 ∧ d ≤ r.un) ∨ (0 < r.ti ∧ (l.length : Int) < r.ti)) then l ++ [d] else l
def refDays (r : Rule) : Nat → Int → List Int → List Int
  | 0, _, l => l
  | k + 1, d, l => refDays r k (d + 1) (refStep r l d)
theorem refDays_zero {r : Rule} (h : r.ti = 0) : ∀ (k : Nat) (d : Int) (l : List Int), refDays r k d l = l ++ (upDays (has r) k d).filter (fun d => decide (d ≤ r.un))
  | 0, d, l => by simp [refDays, upDays]
  | k + 1, d, l => by
    simp only [refDays, upDays]
    rw [refDays_zero h k (d + 1)]
    unfold refStep
    by_cases c : has r d = true
    · rw [if_pos c, List.filter_cons]
      by_cases c2 : d ≤ r.un
      · rw [if_pos ⟨c, .inl ⟨h, c2⟩⟩, if_pos (by simp [c2])]; simp
      · rw [if_neg (by omega), if_neg (by simp [c2])]
    · rw [if_neg c, if_neg (fun e => c e.1)]
theorem refDays_times {r : Rule} (h : 0 < r.ti) : ∀ (k : Nat) (d : Int) (l : List Int), (l.length : Int) ≤ r.ti → refDays r k d l = l ++ (upDays (has r) k d).take (r.ti.toNat - l.length)
  | 0, d, l, _ => by simp [refDays, upDays]
  | k + 1, d, l, hl => by
    simp only [refDays, upDays]
    unfold refStep
    by_cases c : has r d = true
    · rw [if_pos c]
      by_cases c2 : (l.length : Int) < r.ti
      · rw [if_pos ⟨c, .inr ⟨h, c2⟩⟩, refDays_times h k (d + 1) _ (by simp; omega)]
        have e : r.ti.toNat - l.length = (r.ti.toNat - (l ++ [d]).length) + 1 := by simp; omega
        rw [e, List.take_succ_cons]; simp
      · rw [if_neg (by omega), refDays_times h k (d + 1) _ hl]
        have e : r.ti.toNat - l.length = 0 := by omega
        rw [e]; simp
    · rw [if_neg c, if_neg (fun e => c e.1), refDays_times h k (d + 1) _ hl]
def docDays (r : Rule) : List Int := refDays r (728 - r.fr).toNat r.fr []
theorem docDays_is {r : Rule} (h : Fine r) : docDays r = if 0 < r.ti then (all r).take r.ti.toNat else (all r).filter (fun d => decide (d ≤ r.un)) := by
  have t0 := h.t0
  unfold docDays
  split
  · rw [refDays_times (by assumption) _ _ _ (by simp; omega)]; simp [all]
  · rw [refDays_zero (by omega)]; simp [all]
/-- The two rows: one, but that the program stops when they are too many. -/
theorem days_same {r : Rule} (h : Fine r) : firstDays r = if 0 < r.ti then docDays r else (docDays r).take 41 := by
  rw [docDays_is h]
  unfold firstDays
  split
  · rw [seq_all h]
  · rw [seq_to h h.u1]

/-- The error of a rule: 11 many, 6 time. -/
def lateB (r : Rule) (d : Int) : Bool := decide (1048320 < d * 1440 + r.mn + r.mi)
def docErr (r : Rule) : Int :=
  if 40 < (docDays r).length ∨ 40 < r.ti then 11 else if docDays r = [] ∨ ((docDays r).length : Int) < r.ti then 6 else if (docDays r).any (lateB r) then 6 else 0
def progErr (r : Rule) : Int :=
  if 40 < r.ti then 11 else if 40 < (firstDays r).length then 11 else if firstDays r = [] ∨ ((firstDays r).length : Int) < r.ti then 6 else if lateB r ((firstDays r).getLastD 0) then 6 else 0
theorem docDays_up {r : Rule} (h : Fine r) : (docDays r).Pairwise (· < ·) := by
  rw [docDays_is h]
  split
  · exact List.Pairwise.sublist (List.take_sublist _ _) (upDays_up _ _ _)
  · exact List.Pairwise.filter _ (upDays_up _ _ _)
theorem docDays_mem {r : Rule} (h : Fine r) {x : Int} (hx : x ∈ docDays r) : r.fr ≤ x ∧ x < 728 := by
  rw [docDays_is h] at hx
  have : x ∈ all r := by
    split at hx
    · exact List.mem_of_mem_take hx
    · exact (List.mem_filter.1 hx).1
  have := (all_mem h x).1 this
  exact ⟨this.1, this.2.1⟩
theorem last_late {r : Rule} : ∀ {l : List Int}, l.Pairwise (· < ·) → l ≠ [] → l.any (lateB r) = lateB r (l.getLastD 0)
  | [], _, h => absurd rfl h
  | [d], _, _ => by simp
  | d :: e :: l, h, _ => by
    rw [List.pairwise_cons] at h
    have ih := last_late (r := r) (l := e :: l) h.2 (by simp)
    rw [List.any_cons, ih]
    have e1 : (d :: e :: l).getLastD 0 = (e :: l).getLastD 0 := by simp [List.getLastD]
    rw [e1]
    cases hb : lateB r d
    · simp
    · have hm : (e :: l).getLastD 0 ∈ e :: l := by
        have : (e :: l).getLastD 0 = (e :: l).getLast (by simp) := by simp [List.getLastD]
        rw [this]
        exact List.getLast_mem _
      have := h.1 _ hm
      simp only [lateB, decide_eq_true_eq] at hb
      simp only [lateB, Bool.true_or]
      exact (decide_eq_true (by omega)).symm
theorem err_same {r : Rule} (h : Fine r) : progErr r = docErr r ∧ (docErr r = 0 → firstDays r = docDays r ∧ docDays r ≠ [] ∧ (docDays r).length ≤ 40 ∧ ∀ d ∈ docDays r, d * 1440 + r.mn + r.mi ≤ 1048320) := by
  have ds := days_same h
  have up := docDays_up h
  have t0 := h.t0
  have fin : ∀ {l : List Int}, l ≠ [] → ¬ l.any (lateB r) = true → ∀ d ∈ l, d * 1440 + r.mn + r.mi ≤ 1048320 := by
    intro l _ hn d hd
    apply Classical.byContradiction
    intro c
    exact hn (List.any_eq_true.2 ⟨d, hd, by simp only [lateB, decide_eq_true_eq]; omega⟩)
  unfold progErr docErr
  by_cases c : 0 < r.ti
  · rw [if_pos c] at ds
    rw [ds]
    by_cases c1 : 40 < r.ti
    · rw [if_pos c1, if_pos (.inr c1)]; exact ⟨rfl, fun e => by omega⟩
    · rw [if_neg c1]
      by_cases c2 : 40 < (docDays r).length
      · rw [if_pos c2, if_pos (.inl c2)]; exact ⟨rfl, fun e => by omega⟩
      · have cm : ¬ (40 < (docDays r).length ∨ 40 < r.ti) := by omega
        rw [if_neg c2, if_neg cm]
        by_cases c3 : docDays r = [] ∨ ((docDays r).length : Int) < r.ti
        · rw [if_pos c3, if_pos c3]; exact ⟨rfl, fun e => by omega⟩
        · have hne : docDays r ≠ [] := fun e => c3 (.inl e)
          rw [if_neg c3, if_neg c3, last_late up hne]
          refine ⟨rfl, fun e => ⟨rfl, hne, by omega, fin hne ?_⟩⟩
          rw [last_late up hne]
          intro hl; rw [if_pos hl] at e; omega
  · rw [if_neg c] at ds
    have ct : ¬ 40 < r.ti := by omega
    rw [ds, if_neg ct]
    by_cases c2 : 40 < (docDays r).length
    · have : 40 < ((docDays r).take 41).length := by rw [List.length_take]; omega
      rw [if_pos this, if_pos (.inl c2)]; exact ⟨rfl, fun e => by omega⟩
    · have e41 : (docDays r).take 41 = docDays r := List.take_of_length_le (by omega)
      have cm : ¬ (40 < (docDays r).length ∨ 40 < r.ti) := by omega
      rw [e41, if_neg c2, if_neg cm]
      by_cases c3 : docDays r = [] ∨ ((docDays r).length : Int) < r.ti
      · rw [if_pos c3, if_pos c3]; exact ⟨rfl, fun e => by omega⟩
      · have hne : docDays r ≠ [] := fun e => c3 (.inl e)
        rw [if_neg c3, if_neg c3, last_late up hne]
        refine ⟨rfl, fun e => ⟨rfl, hne, by omega, fin hne ?_⟩⟩
        rw [last_late up hne]
        intro hl; rw [if_pos hl] at e; omega
/-- Its spans. -/
def spansOf (r : Rule) (l : List Int) : List (Int × Int) := l.map fun d => (d * 1440 + r.mn, d * 1440 + r.mn + r.mi)

end Rd
end Go.Proofs.YtjfkfiffakbagaaGreatDoor


/-
  The document's desk: Peak.
-/
namespace Go.Proofs.YtjfkfiffakbagaaGreatDoor
open Go.RowKit

namespace Desk
def peakStep (name : ByteArray) (es : List Ent) (a b : Int) (m x : Int) : Int := if a < x ∧ x < b ∧ m < takenN name x es then takenN name x es else m
def peakN (name : ByteArray) (es : List Ent) (a b : Int) : Int := (startsL name es).foldl (peakStep name es a b) (takenN name a es)
end Desk

end Go.Proofs.YtjfkfiffakbagaaGreatDoor


/-
  The document's desk: Find.
-/
namespace Go.Proofs.YtjfkfiffakbagaaGreatDoor
open Go.RowKit

namespace Desk
def endsL : List Ent → List Int
  | [] => []
  | e :: r => e.spans.map (·.2) ++ endsL r
def findStep (ts : List (ByteArray × Int)) (es : List Ent) (name : ByteArray) (units long fr til best s : Int) : Int :=
  if s < fr ∨ til < s + long ∨ (0 ≤ best ∧ best ≤ s) then best else if fitsN ts es name units [(s, s + long)] then s else best
def findN (ts : List (ByteArray × Int)) (es : List Ent) (name : ByteArray) (units long fr til : Int) : Int := (fr :: endsL es).foldl (findStep ts es name units long fr til) (-1)
end Desk

end Go.Proofs.YtjfkfiffakbagaaGreatDoor


/-
  What is taken, as mathematics: it grows only where a span begins; Fits, Peak and Find of the document in numbers.
-/
namespace Go.Proofs.YtjfkfiffakbagaaGreatDoor
namespace Desk

/-- The greatest of a list that is not above x, or a. -/
def lastTo (a x : Int) : List Int → Int
  | [] => a
  | s :: r => if s ≤ x ∧ lastTo a x r < s then s else lastTo a x r
theorem lastTo_is (a x : Int) (h : a ≤ x) : ∀ l : List Int, a ≤ lastTo a x l ∧ lastTo a x l ≤ x ∧ (lastTo a x l = a ∨ lastTo a x l ∈ l) ∧ ∀ s ∈ l, s ≤ x → s ≤ lastTo a x l
  | [] => ⟨Int.le_refl _, h, .inl rfl, by simp⟩
  | s :: r => by
    obtain ⟨h1, h2, h3, h4⟩ := lastTo_is a x h r
    simp only [lastTo]
    split
    · rename_i c
      refine ⟨by omega, c.1, .inr (by simp), fun t ht k => ?_⟩
      rcases List.mem_cons.1 ht with rfl | ht
      · omega
      · have := h4 t ht k; omega
    · rename_i c
      refine ⟨h1, h2, ?_, fun t ht k => ?_⟩
      · rcases h3 with h3 | h3
        · exact .inl h3
        · exact .inr (by simp [h3])
      · rcases List.mem_cons.1 ht with rfl | ht
        · omega
        · exact h4 t ht k

theorem timesN_mono {L : List (Int × Int)} {x y : Int} (hyx : y ≤ x) (h : ∀ s ∈ L, s.1 ≤ x → s.1 ≤ y) : timesN L x ≤ timesN L y := by
  unfold timesN
  rw [← List.countP_eq_length_filter, ← List.countP_eq_length_filter]
  have : List.countP (hasB x) L ≤ List.countP (hasB y) L := List.countP_mono_left (fun s hs hb => by
    simp [hasB] at hb ⊢
    have := h s hs hb.1
    omega)
  omega
/-- No entry takes less than nothing. -/
def Pos (es : List Ent) : Prop := ∀ e ∈ es, 0 ≤ e.units
theorem takenN_mono {name : ByteArray} {x y : Int} (hyx : y ≤ x) : ∀ {es : List Ent}, Pos es → (∀ s ∈ startsL name es, s ≤ x → s ≤ y) → takenN name x es ≤ takenN name y es
  | [], _, _ => Int.le_refl _
  | e :: r, hp, h => by
    have ih := takenN_mono (name := name) hyx (es := r) (fun z hz => hp z (by simp [hz])) (fun s hs => h s (by simp [startsL, hs]))
    simp only [takenN]
    by_cases hb : ofB name e = true
    · rw [if_pos hb, if_pos hb]
      have hs : sameB e.thing name = true := by simp [ofB] at hb; exact hb.1
      have hm : timesN e.spans x ≤ timesN e.spans y := timesN_mono hyx (fun s hs' hx => h s.1 (by simp [startsL, hs]; exact .inl ⟨s.2, hs'⟩) hx)
      have hu := hp e (by simp)
      have : timesN e.spans x * e.units ≤ timesN e.spans y * e.units := Int.mul_le_mul_of_nonneg_right hm hu
      omega
    · rw [if_neg hb, if_neg hb]; omega
/-- What is taken at a minute is taken, or more, at one at which a span begins, or at the first that is looked at. -/
theorem taken_from {name : ByteArray} {es : List Ent} (hp : Pos es) {a x : Int} (h : a ≤ x) : ∃ y, a ≤ y ∧ y ≤ x ∧ (y = a ∨ y ∈ startsL name es) ∧ takenN name x es ≤ takenN name y es := by
  obtain ⟨h1, h2, h3, h4⟩ := lastTo_is a x h (startsL name es)
  exact ⟨_, h1, h2, h3, takenN_mono h2 hp h4⟩

/-- Fits, in numbers. -/
theorem fitsN_iff {ts : List (ByteArray × Int)} {es : List Ent} {name : ByteArray} {units : Int} {L : List (Int × Int)} (hp : Pos es) (hu : 0 ≤ units) :
    fitsN ts es name units L = true ↔ ∀ x, 0 < timesN L x → takenN name x es + timesN L x * units ≤ unitsN name ts := by
  constructor
  · intro h x hx
    have hex : ∃ s ∈ L, s.1 ≤ x ∧ x < s.2 := by
      unfold timesN at hx
      have hl : 0 < (L.filter (hasB x)).length := by omega
      obtain ⟨s, hs⟩ := List.exists_mem_of_length_pos hl
      have := List.mem_filter.1 hs
      simp [hasB] at this
      exact ⟨s, this.1, this.2⟩
    obtain ⟨s0, hs0, k1, k2⟩ := hex
    obtain ⟨h1, h2, h3, h4⟩ := lastTo_is s0.1 x k1 (startsL name es ++ L.map (·.1))
    generalize lastTo s0.1 x (startsL name es ++ L.map (·.1)) = y at h1 h2 h3 h4
    have hy : y ∈ startsL name es ++ L.map (·.1) := by
      rcases h3 with rfl | h3
      · simp; exact .inr ⟨s0.2, hs0⟩
      · exact h3
    have ht := takenN_mono (name := name) (es := es) h2 hp (fun s hs => h4 s (by simp [hs]))
    have hm : timesN L x ≤ timesN L y := timesN_mono h2 (fun s hs => h4 s.1 (by simp; exact .inr ⟨s.2, hs⟩))
    have hh := List.all_eq_true.1 h y hy
    simp [overB] at hh
    have hx' : 0 < timesN L y := by omega
    have hmu : timesN L x * units ≤ timesN L y * units := Int.mul_le_mul_of_nonneg_right hm hu
    omega
  · intro h
    unfold fitsN fitsAt
    rw [List.all_eq_true]
    intro x _
    simp [overB]
    by_cases hx : 0 < timesN L x
    · exact .inr (h x hx)
    · exact .inl (by omega)
theorem timesN_one (a b x : Int) : timesN [(a, b)] x = if a ≤ x ∧ x < b then 1 else 0 := by
  unfold timesN
  by_cases h : a ≤ x ∧ x < b
  · rw [if_pos h]; simp [hasB, h.1, h.2]
  · rw [if_neg h]
    have : hasB x (a, b) = false := by simp [hasB]; omega
    simp [this]
theorem fitsN_one {ts : List (ByteArray × Int)} {es : List Ent} {name : ByteArray} {units a b : Int} (hp : Pos es) (hu : 0 ≤ units) :
    fitsN ts es name units [(a, b)] = true ↔ ∀ x, a ≤ x → x < b → takenN name x es + units ≤ unitsN name ts := by
  rw [fitsN_iff hp hu]
  constructor
  · intro h x h1 h2
    have := h x (by rw [timesN_one, if_pos ⟨h1, h2⟩]; omega)
    rw [timesN_one, if_pos ⟨h1, h2⟩] at this
    omega
  · intro h x hx
    rw [timesN_one] at hx ⊢
    by_cases c : a ≤ x ∧ x < b
    · rw [if_pos c]; have := h x c.1 c.2; omega
    · rw [if_neg c] at hx; omega

/-- The most of a span, in numbers. -/
def MostIs (f : Int → Int) (a b m : Int) : Prop := (∀ x, a ≤ x → x < b → f x ≤ m) ∧ ∃ x, a ≤ x ∧ x < b ∧ f x = m
theorem MostIs.eq {f : Int → Int} {a b m n : Int} (h : MostIs f a b m) (k : MostIs f a b n) : m = n := by
  obtain ⟨h1, x, h2, h3, h4⟩ := h
  obtain ⟨k1, y, k2, k3, k4⟩ := k
  have := h1 y k2 k3
  have := k1 x h2 h3
  omega
theorem peak_fold {name : ByteArray} {es : List Ent} {a b : Int} : ∀ (l : List Int) (m : Int),
    m ≤ l.foldl (peakStep name es a b) m ∧ (∀ x ∈ l, a < x → x < b → takenN name x es ≤ l.foldl (peakStep name es a b) m) ∧ (l.foldl (peakStep name es a b) m = m ∨ ∃ x ∈ l, a < x ∧ x < b ∧ l.foldl (peakStep name es a b) m = takenN name x es)
  | [], m => ⟨Int.le_refl _, by simp, .inl rfl⟩
  | x :: l, m => by
    obtain ⟨h1, h2, h3⟩ := peak_fold (name := name) (es := es) (a := a) (b := b) l (peakStep name es a b m x)
    simp only [List.foldl_cons]
    generalize l.foldl (peakStep name es a b) (peakStep name es a b m x) = R at h1 h2 h3 ⊢
    have hs : (peakStep name es a b m x = m ∧ ¬ (a < x ∧ x < b ∧ m < takenN name x es)) ∨ (peakStep name es a b m x = takenN name x es ∧ a < x ∧ x < b ∧ m < takenN name x es) := by
      unfold peakStep
      by_cases c : a < x ∧ x < b ∧ m < takenN name x es
      · rw [if_pos c]; exact .inr ⟨rfl, c⟩
      · rw [if_neg c]; exact .inl ⟨rfl, c⟩
    rcases hs with ⟨e, c⟩ | ⟨e, c⟩
    · rw [e] at h1 h3
      refine ⟨h1, fun y hy k1 k2 => ?_, ?_⟩
      · rcases List.mem_cons.1 hy with rfl | hy
        · omega
        · exact h2 y hy k1 k2
      · rcases h3 with h3 | ⟨y, hy, k⟩
        · exact .inl h3
        · exact .inr ⟨y, by simp [hy], k⟩
    · rw [e] at h1 h3
      refine ⟨by omega, fun y hy k1 k2 => ?_, ?_⟩
      · rcases List.mem_cons.1 hy with rfl | hy
        · omega
        · exact h2 y hy k1 k2
      · rcases h3 with h3 | ⟨y, hy, k⟩
        · exact .inr ⟨x, by simp, c.1, c.2.1, h3⟩
        · exact .inr ⟨y, by simp [hy], k⟩
theorem peakN_is {name : ByteArray} {es : List Ent} {a b : Int} (hp : Pos es) (h : a < b) : MostIs (fun x => takenN name x es) a b (peakN name es a b) := by
  obtain ⟨h1, h2, h3⟩ := peak_fold (name := name) (es := es) (a := a) (b := b) (startsL name es) (takenN name a es)
  unfold peakN
  generalize (startsL name es).foldl (peakStep name es a b) (takenN name a es) = R at h1 h2 h3 ⊢
  refine ⟨fun x k1 k2 => ?_, ?_⟩
  · obtain ⟨y, i1, i2, i3, i4⟩ := taken_from (name := name) hp k1
    show takenN name x es ≤ R
    by_cases e : y = a
    · subst e; omega
    · rcases i3 with i3 | i3
      · exact absurd i3 e
      · have := h2 y i3 (by omega) (by omega); omega
  · rcases h3 with h3 | ⟨x, _, k1, k2, k3⟩
    · exact ⟨a, Int.le_refl _, h, h3.symm⟩
    · exact ⟨x, by omega, k2, k3.symm⟩

/-- Where something ends: a minute at which less is taken than at the one ahead of it. -/
theorem ends_at {name : ByteArray} {x : Int} : ∀ {es : List Ent}, Pos es → takenN name x es < takenN name (x - 1) es → x ∈ endsL es
  | [], _, h => by simp [takenN] at h
  | e :: r, hp, h => by
    simp only [endsL, List.mem_append, List.mem_map]
    by_cases c : ∃ s ∈ e.spans, s.2 = x
    · exact .inl c
    · right
      refine ends_at (name := name) (fun z hz => hp z (by simp [hz])) ?_
      have hm : timesN e.spans (x - 1) ≤ timesN e.spans x := by
        unfold timesN
        rw [← List.countP_eq_length_filter, ← List.countP_eq_length_filter]
        have : List.countP (hasB (x - 1)) e.spans ≤ List.countP (hasB x) e.spans := List.countP_mono_left (fun s hs hb => by
          simp [hasB] at hb ⊢
          have : s.2 ≠ x := fun e => c ⟨s, hs, e⟩
          omega)
        omega
      have hu := hp e (by simp)
      have hmu : timesN e.spans (x - 1) * e.units ≤ timesN e.spans x * e.units := Int.mul_le_mul_of_nonneg_right hm hu
      simp only [takenN] at h
      split at h <;> omega

/-- What Find tells, as an option. -/
def optN (r : Int) : Option Int := if r < 0 then none else some r
theorem find_fold {ts : List (ByteArray × Int)} {es : List Ent} {name : ByteArray} {units long fr tq : Int} (h0 : 0 ≤ fr) : ∀ (l : List Int) (b : Int), -1 ≤ b →
    (b = -1 ∨ (fr ≤ b ∧ b + long ≤ tq ∧ fitsN ts es name units [(b, b + long)] = true)) →
    let R := l.foldl (findStep ts es name units long fr tq) b
    (R = -1 ∨ (fr ≤ R ∧ R + long ≤ tq ∧ fitsN ts es name units [(R, R + long)] = true)) ∧ -1 ≤ R ∧ (0 ≤ b → 0 ≤ R ∧ R ≤ b) ∧ ∀ s ∈ l, fr ≤ s → s + long ≤ tq → fitsN ts es name units [(s, s + long)] = true → 0 ≤ R ∧ R ≤ s
  | [], b, hb, h => by
    refine ⟨h, hb, fun k => ⟨k, Int.le_refl _⟩, by simp⟩
  | s :: l, b, hb, h => by
    intro R
    have hs : findStep ts es name units long fr tq b s = b ∧ ((s < fr ∨ tq < s + long ∨ (0 ≤ b ∧ b ≤ s)) ∨ fitsN ts es name units [(s, s + long)] = false) ∨ findStep ts es name units long fr tq b s = s ∧ fr ≤ s ∧ s + long ≤ tq ∧ fitsN ts es name units [(s, s + long)] = true ∧ (b < 0 ∨ s < b) := by
      unfold findStep
      by_cases c : s < fr ∨ tq < s + long ∨ (0 ≤ b ∧ b ≤ s)
      · rw [if_pos c]; exact .inl ⟨rfl, .inl c⟩
      · rw [if_neg c]
        cases hf : fitsN ts es name units [(s, s + long)]
        · exact .inl ⟨by simp, .inr rfl⟩
        · exact .inr ⟨by simp, by omega, by omega, rfl, by omega⟩
    rcases hs with ⟨e, c⟩ | ⟨e, c1, c2, c3, c4⟩
    · have ih := find_fold (ts := ts) (es := es) (name := name) (units := units) (long := long) (tq := tq) h0 l b hb h
      have eR : R = l.foldl (findStep ts es name units long fr tq) b := by show List.foldl _ _ _ = _; rw [List.foldl_cons, e]
      rw [← eR] at ih
      obtain ⟨i1, i2, i3, i4⟩ := ih
      refine ⟨i1, i2, i3, fun t ht k1 k2 k3 => ?_⟩
      rcases List.mem_cons.1 ht with rfl | ht
      · rcases c with c | c
        · have := i3 (by omega); omega
        · rw [k3] at c; cases c
      · exact i4 t ht k1 k2 k3
    · have ih := find_fold (ts := ts) (es := es) (name := name) (units := units) (long := long) (tq := tq) h0 l s (by omega) (.inr ⟨c1, c2, c3⟩)
      have eR : R = l.foldl (findStep ts es name units long fr tq) s := by show List.foldl _ _ _ = _; rw [List.foldl_cons, e]
      rw [← eR] at ih
      obtain ⟨i1, i2, i3, i4⟩ := ih
      have i3' := i3 (by omega)
      refine ⟨i1, i2, fun k => by omega, fun t ht k1 k2 k3 => ?_⟩
      rcases List.mem_cons.1 ht with rfl | ht
      · exact i3'
      · exact i4 t ht k1 k2 k3
/-- The least of the times from fr on that has a property, where one has. -/
theorem least_of (P : Int → Prop) (fr : Int) : ∀ (n : Nat) (s : Int), s = fr + n → P s → ∃ r, fr ≤ r ∧ r ≤ s ∧ P r ∧ ∀ t, fr ≤ t → t < r → ¬ P t := by
  intro n
  induction n using Nat.strongRecOn with
  | _ n ih =>
    intro s hs hP
    by_cases c : ∃ t, fr ≤ t ∧ t < s ∧ P t
    · obtain ⟨t, k1, k2, k3⟩ := c
      obtain ⟨r, i1, i2, i3, i4⟩ := ih (t - fr).toNat (by omega) t (by omega) k3
      exact ⟨r, i1, by omega, i3, i4⟩
    · exact ⟨s, by omega, Int.le_refl _, hP, fun t k1 k2 k3 => c ⟨t, k1, k2, k3⟩⟩
theorem findN_is {ts : List (ByteArray × Int)} {es : List Ent} {name : ByteArray} {units long fr tq : Int} (hp : Pos es) (hu : 0 ≤ units) (h0 : 0 ≤ fr) (_hl : 1 ≤ long) :
    -1 ≤ findN ts es name units long fr tq ∧ RoomIs (fun x => takenN name x es) fr tq long (unitsN name ts - units) (optN (findN ts es name units long fr tq)) := by
  have hr : ∀ s, roomAt (fun x => takenN name x es) long (unitsN name ts - units) s ↔ fitsN ts es name units [(s, s + long)] = true := by
    intro s
    rw [fitsN_one hp hu]
    constructor
    · intro h x k1 k2
      have := h x k1 k2
      have this : takenN name x es ≤ unitsN name ts - units := this
      omega
    · intro h x k1 k2
      have := h x k1 k2
      show takenN name x es ≤ unitsN name ts - units
      omega
  obtain ⟨h1, h2, _, h4⟩ := find_fold (ts := ts) (es := es) (name := name) (units := units) (long := long) (tq := tq) h0 (fr :: endsL es) (-1) (Int.le_refl _) (.inl rfl)
  unfold findN
  generalize (fr :: endsL es).foldl (findStep ts es name units long fr tq) (-1) = R at h1 h2 h4 ⊢
  have key : ∀ s, fr ≤ s → s + long ≤ tq → fitsN ts es name units [(s, s + long)] = true → 0 ≤ R ∧ R ≤ s := by
    intro s k1 k2 k3
    obtain ⟨r, i1, i2, i3, i4⟩ := least_of (fun s => fitsN ts es name units [(s, s + long)] = true) fr (s - fr).toNat s (by omega) k3
    have : r ∈ fr :: endsL es := by
      by_cases e : r = fr
      · simp [e]
      · have hno := i4 (r - 1) (by omega) (by omega)
        have hin := (fitsN_one hp hu).1 i3
        have : ∃ x, r - 1 ≤ x ∧ x < r - 1 + long ∧ unitsN name ts < takenN name x es + units := by
          apply Classical.byContradiction
          intro hc
          apply hno
          apply (fitsN_one hp hu).2
          intro x j1 j2
          by_cases d : takenN name x es + units ≤ unitsN name ts
          · exact d
          · exact absurd ⟨x, j1, j2, by omega⟩ hc
        obtain ⟨x, j1, j2, j3⟩ := this
        have ex : x = r - 1 := by
          by_cases d : r ≤ x
          · have := hin x d (by omega); omega
          · omega
        subst ex
        have := hin r (Int.le_refl _) (by omega)
        exact List.mem_cons_of_mem _ (ends_at (name := name) hp (by omega))
    have := h4 r this i1 (by omega) i3
    omega
  refine ⟨h2, ?_⟩
  unfold optN
  split
  · intro s k1 k2 k3
    have := key s k1 k2 ((hr s).1 k3); omega
  · rcases h1 with h1 | ⟨i1, i2, i3⟩
    · omega
    · refine ⟨i1, i2, (hr R).2 i3, fun s k1 k2 k3 => ?_⟩
      have := key s k1 (by omega) ((hr s).1 k3); omega
theorem RoomIs_eq {f : Int → Int} {a b long level : Int} {r q : Option Int} (h : RoomIs f a b long level r) (k : RoomIs f a b long level q) : r = q := by
  cases r with
  | none =>
    cases q with
    | none => rfl
    | some s => exact absurd k.2.2.1 (h s k.1 k.2.1)
  | some s =>
    cases q with
    | none => exact absurd h.2.2.1 (k s h.1 h.2.1)
    | some t =>
      obtain ⟨h1, h2, h3, h4⟩ := h
      obtain ⟨k1, k2, k3, k4⟩ := k
      by_cases c : s < t
      · exact absurd h3 (k4 s h1 c)
      · by_cases d : t < s
        · exact absurd k3 (h4 t k1 d)
        · exact congrArg some (by omega)
theorem RoomIs_congr {f g : Int → Int} {a b long level : Int} {r : Option Int} (h : RoomIs f a b long level r) (hfg : ∀ x, a ≤ x → x < b → f x = g x) : RoomIs g a b long level r := by
  have key : ∀ s, a ≤ s → s + long ≤ b → (roomAt f long level s ↔ roomAt g long level s) := by
    intro s k1 k2
    constructor
    · intro h x i1 i2; rw [← hfg x (by omega) (by omega)]; exact h x i1 i2
    · intro h x i1 i2; rw [hfg x (by omega) (by omega)]; exact h x i1 i2
  cases r with
  | none => exact fun s k1 k2 k3 => h s k1 k2 ((key s k1 k2).2 k3)
  | some s =>
    obtain ⟨h1, h2, h3, h4⟩ := h
    exact ⟨h1, h2, (key s h1 h2).1 h3, fun t k1 k2 k3 => h4 t k1 k2 ((key t k1 (by omega)).2 k3)⟩

end Desk
end Go.Proofs.YtjfkfiffakbagaaGreatDoor


/-
  The levels of a thing are what is taken of it: each part is told by the entries' sums; the program's holds is the document's Fits.
-/
namespace Go.Proofs.YtjfkfiffakbagaaGreatDoor
namespace Desk

/-- What all entries of a thing add at a part of the minutes. -/
def sumA (name : ByteArray) : List Ent → List Bool → Int
  | [], _ => 0
  | e :: r, p => (if ofB name e then e.units * cnt e.spans p else 0) + sumA name r p
theorem sumA_append (name : ByteArray) (l r : List Ent) (p : List Bool) : sumA name (l ++ r) p = sumA name l p + sumA name r p := by
  induction l with
  | nil => simp [sumA]
  | cons e l ih => simp only [List.cons_append, sumA, ih]; omega
theorem sumA_snoc {name : ByteArray} {es : List Ent} {e : Ent} (h : ofB name e = true) : addL (sumA name es) e.spans e.units = sumA name (es ++ [e]) := by
  funext p
  simp only [addL, sumA_append, sumA, h, if_true]; omega
theorem sumA_snoc_no {name : ByteArray} {es : List Ent} {e : Ent} (h : ofB name e = false) : sumA name (es ++ [e]) = sumA name es := by
  funext p
  simp [sumA_append, sumA, h]
theorem sumA_bd (name : ByteArray) (p : List Bool) : ∀ es : List Ent, (∀ e ∈ es, Small e) → 0 ≤ sumA name es p ∧ sumA name es p ≤ 900 * es.length
  | [], _ => by simp [sumA]
  | e :: r, h => by
    have i := sumA_bd name p r (fun x hx => h x (by simp [hx]))
    have s := h e (by simp)
    have b := cnt_bd e.spans p
    have sl := s.sl
    have c : 0 ≤ e.units * cnt e.spans p := Int.mul_nonneg s.u0 b.1
    have d : e.units * cnt e.spans p ≤ 9 * 100 := Int.mul_le_mul s.u1 (by omega) b.1 (by omega)
    simp only [sumA, List.length_cons]
    split <;> omega
theorem Small.pos {es : List Ent} (h : ∀ e ∈ es, Small e) : Pos es := fun e he => (h e he).u0

/-- The spans of every entry are spans. -/
def Spanned (es : List Ent) : Prop := ∀ e ∈ es, ∀ s ∈ e.spans, s.1 < s.2
theorem levAt_sumA (name : ByteArray) {x : Int} (h0 : 0 ≤ x) (h1 : x < 1048320) : ∀ es : List Ent, Spanned es → levAt (sumA name es) x = takenN name x es
  | [], _ => by
    have : sumA name [] = fun _ => 0 := by funext p; rfl
    rw [this]
    exact Lev.lev_canon_zero 20 0 1048320 x
  | e :: r, h => by
    have ih := levAt_sumA name h0 h1 r (fun z hz => h z (by simp [hz]))
    by_cases hb : ofB name e = true
    · have : sumA name (e :: r) = addL (sumA name r) e.spans e.units := by funext p; simp only [sumA, addL, hb, if_true]; omega
      rw [this, levAt_addL _ _ _ _ h0 h1 (h e (by simp)), ih]
      simp only [takenN, hb, if_true]
      have : ((e.spans.filter fun s => decide (s.1 ≤ x) && decide (x < s.2)).length : Int) = timesN e.spans x := rfl
      rw [this, Int.mul_comm]
      omega
    · have hb' : ofB name e = false := by simpa using hb
      have : sumA name (e :: r) = sumA name r := by funext p; simp [sumA, hb']
      rw [this, ih]
      simp [takenN, hb']

/-- What the program asks of a list of spans is what the document asks. -/
theorem holds_fits {ts : List (ByteArray × Int)} {es : List Ent} {name : ByteArray} {units u : Int} {L : List (Int × Int)} (hs : ∀ e ∈ es, Small e) (hsp : Spanned es) (hL : SpOk L) (hu : 0 ≤ u) (hun : unitsN name ts = units) :
    holdsB (addL (sumA name es) L u) units L = fitsN ts es name u L := by
  have hA : ∀ p, 0 ≤ addL (sumA name es) L u p := fun p => by
    have := (sumA_bd name p es hs).1
    have := (cnt_bd L p).1
    have : 0 ≤ u * cnt L p := Int.mul_nonneg hu this
    unfold addL; omega
  have hlev : ∀ x, 0 ≤ x → x < 1048320 → levAt (addL (sumA name es) L u) x = takenN name x es + timesN L x * u := by
    intro x h0 h1
    rw [levAt_addL _ _ _ _ h0 h1 (fun s hs => (hL s hs).2.1), levAt_sumA name h0 h1 es hsp]
    have : ((L.filter fun s => decide (s.1 ≤ x) && decide (x < s.2)).length : Int) = timesN L x := rfl
    rw [this, Int.mul_comm]
  rw [Bool.eq_iff_iff, fitsN_iff (Small.pos hs) hu, hun]
  unfold holdsB
  rw [List.all_eq_true]
  constructor
  · intro h x hx
    have hl : 0 < (L.filter (hasB x)).length := by unfold timesN at hx; omega
    obtain ⟨s, hm⟩ := List.exists_mem_of_length_pos hl
    have hm := List.mem_filter.1 hm
    have hb := hm.2
    simp [hasB] at hb
    have k := hL s hm.1
    have := of_decide_eq_true (h s hm.1)
    have m := (mostA_is hA k.1 k.2.1 k.2.2).1 x hb.1 hb.2
    rw [hlev x (by omega) (by omega)] at m
    omega
  · intro h s hs'
    have k := hL s hs'
    obtain ⟨_, x, m1, m2, m3⟩ := mostA_is hA k.1 k.2.1 k.2.2
    rw [hlev x (by omega) (by omega)] at m3
    have hpos : 0 < timesN L x := by
      unfold timesN
      have : s ∈ L.filter (hasB x) := List.mem_filter.2 ⟨hs', by simp [hasB, m1, m2]⟩
      have := List.length_pos_of_mem this
      omega
    have := h x hpos
    exact decide_eq_true (by omega)
theorem most_peak {es : List Ent} {name : ByteArray} {a b : Int} (hs : ∀ e ∈ es, Small e) (hsp : Spanned es) (h0 : 0 ≤ a) (h1 : a < b) (h2 : b ≤ 1048320) : mostA (sumA name es) (a, b) = peakN name es a b := by
  have m := mostA_is (A := sumA name es) (s := (a, b)) (fun p => (sumA_bd name p es hs).1) h0 h1 h2
  refine MostIs.eq (f := fun x => takenN name x es) (a := a) (b := b) ⟨fun x k1 k2 => ?_, ?_⟩ (peakN_is (Small.pos hs) h1)
  · have := m.1 x k1 k2
    rw [levAt_sumA name (by omega) (by have : x < b := k2; omega) es hsp] at this
    exact this
  · obtain ⟨x, k1, k2, k3⟩ := m.2
    rw [levAt_sumA name (by have : a ≤ x := k1; omega) (by have : x < b := k2; omega) es hsp] at k3
    exact ⟨x, k1, k2, k3⟩
/-- What Find tells of an option. -/
def orNone : Option Int → Int
  | none => -1
  | some s => s
theorem room_find {ts : List (ByteArray × Int)} {es : List Ent} {name : ByteArray} {units long a b : Int} {r : Option Int} (hs : ∀ e ∈ es, Small e) (hsp : Spanned es) (h0 : 0 ≤ a) (h2 : b ≤ 1048320) (hu : 0 ≤ units) (hl : 1 ≤ long) (h : RoomIs (Lev.lev (levT (sumA name es)) 0 1048320) a b long (unitsN name ts - units) r) :
    findN ts es name units long a b = orNone r := by
  obtain ⟨k1, k2⟩ := findN_is (ts := ts) (es := es) (name := name) (units := units) (long := long) (fr := a) (tq := b) (Small.pos hs) hu h0 hl
  have h' := RoomIs_congr h (g := fun x => takenN name x es) (fun x i1 i2 => levAt_sumA name (by omega) (by omega) es hsp)
  have e := RoomIs_eq h' k2
  rw [e]
  generalize findN ts es name units long a b = R at *
  unfold optN
  by_cases c : R < 0
  · rw [if_pos c]; show R = -1; omega
  · rw [if_neg c]; rfl

/-- All entries but that of a number. -/
def kept (id : Int) (es : List Ent) : List Ent := es.filter fun e => e.id != id
/-- The entry of a number is booked. -/
def bookE (e : Ent) : Ent := { e with kind := 1, till := 0 }
def booked (id : Int) (es : List Ent) : List Ent := es.map fun e => if e.id = id then bookE e else e
/-- No two have one number. -/
def Ids (es : List Ent) : Prop := (es.map (·.id)).Pairwise (· < ·)
theorem Ids.cons {e : Ent} {r : List Ent} (h : Ids (e :: r)) : (∀ z ∈ r, e.id < z.id) ∧ Ids r := by
  unfold Ids at h ⊢
  rw [List.map_cons, List.pairwise_cons] at h
  exact ⟨fun z hz => h.1 z.id (List.mem_map.2 ⟨z, hz, rfl⟩), h.2⟩
theorem Ids.one {es : List Ent} (h : Ids es) : ∀ {x y : Ent}, x ∈ es → y ∈ es → x.id = y.id → x = y := by
  induction es with
  | nil => intro x y hx; simp at hx
  | cons e r ih =>
    intro x y hx hy e1
    obtain ⟨h1, h2⟩ := h.cons
    rcases List.mem_cons.1 hx with hx | hx
    · rcases List.mem_cons.1 hy with hy | hy
      · rw [hx, hy]
      · have := h1 y hy; rw [hx] at e1; omega
    · rcases List.mem_cons.1 hy with hy | hy
      · have := h1 x hx; rw [hy] at e1; omega
      · exact ih h2 hx hy e1
theorem kept_none {id : Int} {es : List Ent} (h : ∀ e ∈ es, e.id ≠ id) : kept id es = es := List.filter_eq_self.2 (fun e he => by simp [h e he])
theorem booked_none {id : Int} : ∀ {es : List Ent}, (∀ e ∈ es, e.id ≠ id) → booked id es = es
  | [], _ => rfl
  | e :: r, h => by
    have i := booked_none (id := id) (es := r) (fun z hz => h z (by simp [hz]))
    unfold booked at i ⊢
    rw [List.map_cons, i, if_neg (h e (by simp))]
theorem booked_map {id : Int} (es : List Ent) : (booked id es).map (·.id) = es.map (·.id) := by
  unfold booked
  rw [List.map_map]
  apply List.map_congr_left
  intro e _
  show (if e.id = id then bookE e else e).id = e.id
  split <;> rfl
theorem booked_ids {id : Int} {es : List Ent} (h : Ids es) : Ids (booked id es) := by
  unfold Ids at *; rw [booked_map]; exact h
theorem sumA_kept {name : ByteArray} {e : Ent} (hb : ofB name e = true) : ∀ {es : List Ent}, Ids es → e ∈ es → addL (sumA name es) e.spans (-e.units) = sumA name (kept e.id es)
  | [], _, h => by simp at h
  | z :: r, hi, h => by
    obtain ⟨h1, h2⟩ := hi.cons
    funext p
    by_cases c : z.id = e.id
    · have ez : e = z := hi.one h (by simp) c.symm
      subst ez
      have : kept e.id (e :: r) = r := by
        have k := kept_none (id := e.id) (es := r) (fun y hy => by have := h1 y hy; omega)
        unfold kept at k ⊢
        rw [List.filter_cons, if_neg (by simp), k]
      rw [this]
      simp only [addL, sumA, hb, if_true]
      rw [Int.neg_mul]; omega
    · have he : e ∈ r := by
        rcases List.mem_cons.1 h with rfl | h
        · exact absurd rfl c
        · exact h
      have i := congrFun (sumA_kept hb h2 he) p
      have : kept e.id (z :: r) = z :: kept e.id r := by
        unfold kept
        rw [List.filter_cons, if_pos (by simpa using c)]
      rw [this]
      simp only [addL, sumA] at i ⊢
      omega
theorem sumA_kept_no {name : ByteArray} {id : Int} : ∀ {es : List Ent}, (∀ e ∈ es, e.id = id → ofB name e = false) → sumA name (kept id es) = sumA name es
  | [], _ => rfl
  | z :: r, h => by
    have i := sumA_kept_no (name := name) (id := id) (es := r) (fun y hy => h y (by simp [hy]))
    funext p
    have i := congrFun i p
    unfold kept at i ⊢
    rw [List.filter_cons]
    by_cases c : z.id = id
    · rw [if_neg (by simp [c])]
      simp only [sumA, h z (by simp) c, Bool.false_eq_true, if_false]
      rw [i]; omega
    · rw [if_pos (by simpa using c)]
      simp only [sumA, i]
theorem ofB_book {name : ByteArray} {e : Ent} : ofB name (bookE e) = sameB e.thing name := by
  simp [ofB, bookE]
theorem sumA_booked {name : ByteArray} {e : Ent} (hn : sameB e.thing name = true) (hk : e.kind = 3) : ∀ {es : List Ent}, Ids es → e ∈ es → addL (sumA name es) e.spans e.units = sumA name (booked e.id es)
  | [], _, h => by simp at h
  | z :: r, hi, h => by
    obtain ⟨h1, h2⟩ := hi.cons
    funext p
    by_cases c : z.id = e.id
    · have ez : e = z := hi.one h (by simp) c.symm
      subst ez
      have : booked e.id (e :: r) = bookE e :: r := by
        have k := booked_none (id := e.id) (es := r) (fun y hy => by have := h1 y hy; omega)
        unfold booked at k ⊢
        rw [List.map_cons, if_pos rfl, k]
      rw [this]
      have o1 : ofB name e = false := by simp [ofB, hk]
      simp only [addL, sumA, o1, ofB_book, hn, if_true, Bool.false_eq_true, if_false]
      show 0 + sumA name r p + e.units * cnt e.spans p = e.units * cnt e.spans p + sumA name r p
      omega
    · have he : e ∈ r := by
        rcases List.mem_cons.1 h with rfl | h
        · exact absurd rfl c
        · exact h
      have i := congrFun (sumA_booked hn hk h2 he) p
      have : booked e.id (z :: r) = z :: booked e.id r := by
        unfold booked
        rw [List.map_cons, if_neg c]
      rw [this]
      simp only [addL, sumA] at i ⊢
      omega
/-- Booking what is booked or held, or is of another thing, changes nothing of what is taken. -/
theorem sumA_booked_no {name : ByteArray} {id : Int} : ∀ {es : List Ent}, (∀ e ∈ es, e.id = id → sameB e.thing name = true → e.kind ≠ 3) → sumA name (booked id es) = sumA name es
  | [], _ => rfl
  | z :: r, h => by
    have i := sumA_booked_no (name := name) (id := id) (es := r) (fun y hy => h y (by simp [hy]))
    funext p
    have i := congrFun i p
    unfold booked at i ⊢
    rw [List.map_cons]
    simp only [sumA, i]
    by_cases c : z.id = id
    · rw [if_pos c, ofB_book]
      have e : ofB name z = sameB z.thing name := by
        unfold ofB
        cases hs : sameB z.thing name
        · rfl
        · have := h z (by simp) c hs
          simp [this]
      rw [e]; rfl
    · rw [if_neg c]
theorem kept_mem {id : Int} {es : List Ent} {e : Ent} : e ∈ kept id es ↔ e ∈ es ∧ e.id ≠ id := by simp [kept]
theorem booked_mem {id : Int} {es : List Ent} {e : Ent} : e ∈ booked id es ↔ (e ∈ es ∧ e.id ≠ id) ∨ ∃ z ∈ es, z.id = id ∧ e = bookE z := by
  unfold booked
  rw [List.mem_map]
  constructor
  · rintro ⟨z, hz, h⟩
    by_cases c : z.id = id
    · rw [if_pos c] at h; exact .inr ⟨z, hz, c, h.symm⟩
    · rw [if_neg c] at h; subst h; exact .inl ⟨hz, c⟩
  · rintro (⟨h1, h2⟩ | ⟨z, hz, h1, h2⟩)
    · exact ⟨e, h1, if_neg h2⟩
    · exact ⟨z, hz, by rw [if_pos h1, h2]⟩

end Desk
end Go.Proofs.YtjfkfiffakbagaaGreatDoor


/-
  The document's desk: first, copied.
-/
namespace Go.Proofs.YtjfkfiffakbagaaGreatDoor
open Go.RowKit

namespace Desk
def meetB (a b : Int) (s : Int × Int) : Bool := decide (s.1 < b) && decide (a < s.2)
def firstN (a b : Int) : List (Int × Int) → Int
  | [] => -1
  | s :: r => if meetB a b s then s.1 else firstN a b r
end Desk

theorem infoSpan : (Tryz.prog.info? 60).map (fun i => (i.zero, i.size, i.bytes)) = some (some (.agg #[.int .i64 0, .int .i64 0]), 2, 16) := by kernel_rfl
end Go.Proofs.YtjfkfiffakbagaaGreatDoor


/-
  The document's desk: list, its first loop: those that are told, each with spans of its own.
-/
namespace Go.Proofs.YtjfkfiffakbagaaGreatDoor
open Go.RowKit

namespace Desk
/-- Is it told? -/
def selB (name : ByteArray) (a b : Int) (e : Ent) : Bool := ofB name e && decide (0 ≤ firstN a b e.spans)
end Desk

/-- A row of entries of its own: each with spans of its own. -/
structure Rows6 (w wx : World) (v : Value) (ys : List (Desk.Ent × Nat × Nat)) : Prop where
  own : wx.ownsRow w.heap.size 58 6 v ys.length (ys.flatMap entVL)
  sl : ∀ y ∈ ys, RSL wx y.2.1 y.1.spans ∧ w.heap.size ≤ y.2.1 ∧ y.2.1 < wx.heap.size ∧ v.ownBlock ≠ some y.2.1
  bw : Below w.heap.size w wx
theorem Rows6.later {w wx wy : World} {v : Value} {ys : List (Desk.Ent × Nat × Nat)} (h : Rows6 w wx v ys) (k : Below wx.heap.size wx wy) : Rows6 w wy v ys :=
  ⟨ownLater h.own k, fun y hy => ⟨(h.sl y hy).1.later k, (h.sl y hy).2.1, Nat.lt_of_lt_of_le (h.sl y hy).2.2.1 k.size, (h.sl y hy).2.2.2⟩, blwMore h.bw k (Nat.le_refl _)⟩
/-- One more has been appended. -/
theorem Rows6.more {w X w' : World} {v v' : Value} {ys : List (Desk.Ent × Nat × Nat)} {y : Desk.Ent × Nat × Nat} {H : Nat} (h : Rows6 w X v ys) (hy : RSL X y.2.1 y.1.spans ∧ w.heap.size ≤ y.2.1 ∧ y.2.1 < X.heap.size ∧ v.ownBlock ≠ some y.2.1) (hown' : w'.ownsRow w.heap.size 58 6 v' (ys.length + 1) (ys.flatMap entVL ++ entVL y)) (hgrow : X.grownBy w' v.ownBlock) (hat : v'.ownBlock = v.ownBlock ∨ v'.ownBlock = some H) (hH : X.heap.size ≤ H) : Rows6 w w' v' (ys ++ [y]) := by
  have k : Off v.ownBlock.toList X w' := (Off.refl _ X).grown hgrow (fun k hk => .inl (by simp [hk]))
  refine ⟨by rw [List.flatMap_append, List.length_append]; simpa using hown', fun z hz => ?_, h.bw.grown hgrow h.bw.size (fun k hk => ownBase h.own hk)⟩
  have hz' : RSL X z.2.1 z.1.spans ∧ w.heap.size ≤ z.2.1 ∧ z.2.1 < X.heap.size ∧ v.ownBlock ≠ some z.2.1 := by
    rcases List.mem_append.1 hz with hz | hz
    · exact h.sl z hz
    · have : z = y := by simpa using hz
      subst this; exact hy
  obtain ⟨z1, z2, z3, z4⟩ := hz'
  refine ⟨z1.off k (by simpa using fun e => z4 e), z2, Nat.lt_of_lt_of_le z3 k.size, ?_⟩
  rcases hat with e | e
  · rw [e]; exact z4
  · rw [e]; intro e2
    have : H = z.2.1 := by simpa using e2
    omega

end Go.Proofs.YtjfkfiffakbagaaGreatDoor


/-
  Each stands where as many come ahead of it as do: ranks are a permutation.
-/
namespace Go.Proofs.YtjfkfiffakbagaaGreatDoor
namespace Rank

def before (fs : List Int) (k i : Nat) : Bool := decide (fs.getD k 0 < fs.getD i 0) || (decide (fs.getD k 0 = fs.getD i 0) && decide (k < i))
end Rank
end Go.Proofs.YtjfkfiffakbagaaGreatDoor

