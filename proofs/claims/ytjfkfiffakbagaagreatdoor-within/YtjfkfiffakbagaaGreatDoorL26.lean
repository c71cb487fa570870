/-
  Parts of the proof, one behind the other: KeepRule, RegionInv, KeepLine18.
-/
import Derived.Test.YtjfkfiffakbagaaGreatDoorL25
import Derived.RegionTactic
/-
  bookingskeep: a rule, out of raw bytes.
-/
namespace Go.Proofs.YtjfkfiffakbagaaGreatDoor
open Go.RowKit

set_option maxRecDepth 100000 in
set_option maxHeartbeats 400000 in
theorem kRule_any {w0 w : World} {F : Nat} {s : ByteArray} (h : FW w0 F s w) :
    Calls Tryz.prog 49 #[.pointer (some ⟨F, 0, none⟩)] w fun e w' => ∃ t, e = .returned (.string t) ∧ t.size ≤ 120 ∧ FW w0 F s w' := by
  have HA := hidp h
  clear h
  go_enter Tryz.func49, Tryz.ntmps49
  go_upto_region 4 with (first
    | (go_at_call 25; refine (next_any HA.out 4 (by omega) (by omega)).mono ?_; rintro e w1 ⟨v1, rfl, a1, b1, ha1⟩; have HA1 := hidp ha1; clear ha1))
  replace HA := HA1
  clear HA1
  rename_i K8 h8 K5 h5
  have KK8 : ∀ (t8 t9 t10 t11 t12 t13 t14 : Value) (x : ByteArray) (W : World), x.size ≤ 8 → FW w0 F s W → K8 { tmps := #[.pointer (some ⟨F, 0, none⟩), undef, .string ⟨#[]⟩, .string x, .int .i64 v1, undef, undef, undef, t8, t9, t10, t11, t12, t13, t14, undef, undef, undef, undef, undef, undef, undef, undef, undef, undef, undef, undef, undef, undef, undef, undef, undef, undef, undef, undef, undef, undef, undef, undef, undef, undef, undef, undef, undef, undef, undef, undef, undef, undef, undef, undef, undef, undef, undef, undef, undef, undef, undef, undef, undef, undef, undef, undef, undef, undef, undef, undef, undef, undef, undef, undef, undef, undef, undef, undef, undef, undef, undef, undef, undef], defers := [] } W := by
    intro t8 t9 t10 t11 t12 t13 t14 x W hx hW
    refine h8 _ _ ?_
    clear h8 h5 HA
    have HA := hidp hW
    clear hW
    go_upto_region 9 with (first
      | (go_at_call 25; refine (next_any HA.out 5 (by omega) (by omega)).mono ?_; rintro e w2 ⟨v2, rfl, a2, b2, ha⟩; replace HA := hidp ha; clear ha; have k2 : IntKind.i64.wrap (1 + v2) = 1 + v2 := wrap_all (by omega) (by omega))
      | (go_at_call 21; refine (fnum_any HA.out (1 + v2) (by omega) (by omega)).mono ?_; rintro e w3 ⟨rfl, ha⟩; replace HA := hidp ha; clear ha; have z2 := Txt.itoa_size (1 + v2) (by omega) (by omega)))
    have zx : (x ++ Txt.itoaS (1 + v2)).size ≤ 15 := by rw [ByteArray.size_append]; omega
    generalize x ++ Txt.itoaS (1 + v2) = y at zx ⊢
    generalize Txt.itoaS (1 + v2) = y2
    clear k2 hx z2
    rename_i K12 h12 K9 h9
    have KK12 : ∀ (t5 t8 t9 t10 t11 t12 t13 t14 t15 t16 t17 t18 t19 t20 t21 t22 t23 t24 t25 t26 t27 t28 t29 t30 : Value) (x : ByteArray) (W : World), x.size ≤ 24 → FW w0 F s W → K12 { tmps := #[.pointer (some ⟨F, 0, none⟩), undef, .string ⟨#[]⟩, .string x, .int .i64 v1, t5, undef, undef, t8, t9, t10, t11, t12, t13, t14, t15, t16, t17, t18, t19, t20, t21, t22, t23, t24, t25, t26, t27, t28, t29, t30, undef, undef, undef, undef, undef, undef, undef, undef, undef, undef, undef, undef, undef, undef, undef, undef, undef, undef, undef, undef, undef, undef, undef, undef, undef, undef, undef, undef, undef, undef, undef, undef, undef, undef, undef, undef, undef, undef, undef, undef, undef, undef, undef, undef, undef, undef, undef, undef, undef], defers := [] } W := by
      intro t5 t8 t9 t10 t11 t12 t13 t14 t15 t16 t17 t18 t19 t20 t21 t22 t23 t24 t25 t26 t27 t28 t29 t30 x W hx hW
      refine h12 _ _ ?_
      clear h12 h9 HA
      have HA := hidp hW
      clear hW zx
      go_upto_region 13 with (first
        | (go_at_call 25; refine (next_any HA.out 6 (by omega) (by omega)).mono ?_; rintro e w4 ⟨v4, rfl, a4, b4, ha⟩; replace HA := hidp ha; clear ha))
      go_upto_region 14 with (first
        | (go_at_call 25; refine (next_any HA.out 28 (by omega) (by omega)).mono ?_; rintro e w5 ⟨v5, rfl, a5, b5, ha⟩; replace HA := hidp ha; clear ha))
      generalize (v4 == 1) = late
      have DT := hidp (fun W (hW : FW w0 F s W) => kDate_any hW v5 late (by omega) (by omega))
      have zl : (lateS late ++ padS (1 + v5)).size ≤ 15 := by
        have := padS_size (n := 1 + v5) (by omega) (by omega)
        have : (lateS late).size = 8 := by cases late <;> rfl
        rw [ByteArray.size_append]; omega
      have DT2 := hidp (fun W n (hn : 0 ≤ n ∧ n ≤ 60) (hW : FW w0 F s W) => kDate_any hW n late (by omega) (by omega))
      generalize hD : lateS late ++ padS (1 + v5) = dS at DT zl
      clear hD
      go_upto_region 15 with (first
        | (go_at_call 70; refine (DT.out _ HA.out).mono ?_; rintro e w6 ⟨rfl, ha⟩; replace HA := hidp ha; clear ha DT)
        | (go_at_call 25; refine (next_any HA.out _ (by first | exact (by decide : (1:Int) ≤ 3) | exact (by decide : (1:Int) ≤ 4) | exact (by decide : (1:Int) ≤ 100)) (by first | exact (by decide : (3:Int) ≤ 1000) | exact (by decide : (4:Int) ≤ 1000) | exact (by decide : (100:Int) ≤ 1000))).mono ?_; rintro e w7 ⟨v7, rfl, a7, b7, ha⟩; replace HA := hidp ha; clear ha; have k7 : IntKind.i64.wrap (1 + v7) = 1 + v7 := wrap_all (by omega) (by omega); have z7 := Txt.itoa_size v7 (by omega) (by omega); have z8 := Txt.itoa_size (1 + v7) (by omega) (by omega))
        | (go_at_call 21; refine (fnum_any HA.out _ (by omega) (by omega)).mono ?_; rintro e w8 ⟨rfl, ha⟩; replace HA := hidp ha; clear ha))
      rename_i wa va a7a b7a k7a z7a z8a wb wc vc a7c b7c k7c z7c z8c wd K17 h17 K16 h16
      have zz : ((((((((x ++ (⟨#[32, 102, 114, 111, 109, 32]⟩ : ByteArray)) ++ dS) ++ (⟨#[32, 97, 116, 32, 48]⟩ : ByteArray)) ++ Txt.itoaS va) ++ (⟨#[58]⟩ : ByteArray)) ++ Txt.itoaS (1 + vc)) ++ (⟨#[48, 32, 102, 111, 114, 32]⟩ : ByteArray)) ++ Txt.itoaS (1 + v7)).size ≤ 90 := by
        simp only [ByteArray.size_append]
        show x.size + 6 + dS.size + 5 + _ + 1 + _ + 6 + _ ≤ 90
        omega
      generalize (((((((x ++ (⟨#[32, 102, 114, 111, 109, 32]⟩ : ByteArray)) ++ dS) ++ (⟨#[32, 97, 116, 32, 48]⟩ : ByteArray)) ++ Txt.itoaS va) ++ (⟨#[58]⟩ : ByteArray)) ++ Txt.itoaS (1 + vc)) ++ (⟨#[48, 32, 102, 111, 114, 32]⟩ : ByteArray)) ++ Txt.itoaS (1 + v7) = y at zz ⊢
      clear k7a z7a z8a k7c z7c z8c k7 z7 z8 zl hx
      have k5 : IntKind.i64.wrap (28 - v5) = 28 - v5 := wrap_all (by omega) (by omega)
      have H17 := hidp h17
      clear h17
      go_upto_region 16 with (first
        | (go_at_call 25; refine (next_any HA.out 2 (by omega) (by omega)).mono ?_; rintro e w9 ⟨v8, rfl, a8, b8, ha⟩; replace HA := hidp ha; clear ha))
      · clear H17
        go_wp2_with (first
          | (go_at_call 25; refine (next_any HA.out (28 - v5) (by omega) (by omega)).mono ?_; rintro e w9 ⟨v9, rfl, a9, b9, ha⟩; replace HA := hidp ha; clear ha; have k9 : IntKind.i64.wrap (v5 + v9) = v5 + v9 := wrap_all (by omega) (by omega))
          | (go_at_call 70; refine (DT2.out _ (v5 + v9) (by omega) HA.out).mono ?_; rintro e w10 ⟨rfl, ha⟩; replace HA := hidp ha; clear ha; have zl : (lateS late ++ padS (1 + (v5 + v9))).size ≤ 15 := (by
              have := padS_size (n := 1 + (v5 + v9)) (by omega) (by omega)
              have : (lateS late).size = 8 := by cases late <;> rfl
              rw [ByteArray.size_append]; omega); generalize lateS late ++ padS (1 + (v5 + v9)) = dS2 at zl ⊢))
        go_ret
        exact ⟨_, rfl, by simp only [ByteArray.size_append]; show y.size + 7 + _ ≤ 120; omega, HA.out⟩
      · refine H17.out _ _ ?_
        clear H17
        go_wp2_with (first
          | (go_at_call 25; refine (next_any HA.out 6 (by omega) (by omega)).mono ?_; rintro e w9 ⟨v9, rfl, a9, b9, ha⟩; replace HA := hidp ha; clear ha; have k9 : IntKind.i64.wrap (1 + v9) = 1 + v9 := wrap_all (by omega) (by omega); have z9 := Txt.itoa_size (1 + v9) (by omega) (by omega))
          | (go_at_call 21; refine (fnum_any HA.out _ (by omega) (by omega)).mono ?_; rintro e w8 ⟨rfl, ha⟩; replace HA := hidp ha; clear ha))
        go_ret
        exact ⟨_, rfl, by simp only [ByteArray.size_append]; show y.size + 7 + _ ≤ 120; omega, HA.out⟩
    clear h12
    by_cases hv1 : v1 = 1
    · subst hv1
      go_upto_region 11 with fail
      have HZ := hidp (HA.out.alloc (.cells #[.string ⟨#[32, 109, 111]⟩, .string ⟨#[32, 116, 117, 44, 119, 101]⟩, .string ⟨#[32, 115, 117, 44, 102, 114, 44, 109, 111]⟩] 9))
      have hcl : ∀ n : Nat, n < 3 → ∃ z : ByteArray, z.size ≤ 9 ∧ (w3.alloc (.cells #[.string ⟨#[32, 109, 111]⟩, .string ⟨#[32, 116, 117, 44, 119, 101]⟩, .string ⟨#[32, 115, 117, 44, 102, 114, 44, 109, 111]⟩] 9)).cell? ⟨w3.heap.size, n, none⟩ = some (.string z) := fun n hn => by
        have hb := heapNew w3 (.cells #[.string ⟨#[32, 109, 111]⟩, .string ⟨#[32, 116, 117, 44, 119, 101]⟩, .string ⟨#[32, 115, 117, 44, 102, 114, 44, 109, 111]⟩] 9)
        match n, hn with
        | 0, _ => exact ⟨⟨#[32, 109, 111]⟩, by decide, by simp only [World.cell?, hb]; rfl⟩
        | 1, _ => exact ⟨⟨#[32, 116, 117, 44, 119, 101]⟩, by decide, by simp only [World.cell?, hb]; rfl⟩
        | 2, _ => exact ⟨⟨#[32, 115, 117, 44, 102, 114, 44, 109, 111]⟩, by decide, by simp only [World.cell?, hb]; rfl⟩
        | n + 3, hn => omega
      have HC := hidp hcl
      clear hcl
      have hne : w3.heap.size ≠ F := by have := HA.out.lt; omega
      have HNE := hidp hne
      clear hne
      generalize w3.alloc (.cells #[.string ⟨#[32, 109, 111]⟩, .string ⟨#[32, 116, 117, 44, 119, 101]⟩, .string ⟨#[32, 115, 117, 44, 102, 114, 44, 109, 111]⟩] 9) = Z at HZ HC ⊢
      have NZ : Hid (Calls Tryz.prog 25 #[.pointer (some ⟨F, 0, none⟩), .int .i64 3] Z fun e w' => ∃ (n : Nat) (z : ByteArray), e = .returned (.int .i64 (n : Int)) ∧ (n : Int) < 3 ∧ z.size ≤ 9 ∧ w'.cell? ⟨w3.heap.size, n, none⟩ = some (.string z) ∧ FW w0 F s w') := by
        refine (next_any (w0 := Z) (w := Z) (F := F) (s := s) ⟨HZ.out.fd, HZ.out.env, Off.refl _ _, HZ.out.ten⟩ 3 (by omega) (by omega)).mono ?_
        rintro e w' ⟨v, rfl, v0, v1, k⟩
        obtain ⟨n, rfl⟩ := Int.eq_ofNat_of_zero_le v0
        obtain ⟨z, hz, hc⟩ := HC.out n (by omega)
        exact ⟨n, z, rfl, v1, hz, k.off.cell (by simp; exact HNE.out) hc, k.fd, k.env, HZ.out.off.trans k.off, k.ten⟩
      clear HC HNE HZ HA
      go_wp2_with (first
        | (go_at_call 25; refine NZ.out.mono ?_; rintro e w4 ⟨n4, z4, rfl, n3, hz4, hc4, ha4⟩; have HA := hidp ha4; clear ha4))
      exact KK12 _ _ _ _ _ _ _ _ _ _ _ _ _ _ _ _ _ _ _ _ _ _ _ _ _ _ (by rw [ByteArray.size_append]; omega) HA.out
    · have hb : (v1 == 1) = false := by simpa using hv1
      go_wp2_with fail
      exact KK12 _ _ _ _ _ _ _ _ _ _ _ _ _ _ _ _ _ _ _ _ _ _ _ _ _ _ (by omega) HA.out
  clear h8
  by_cases hv1 : v1 = 1
  · have hb : (v1 == 1) = true := by simpa using hv1
    clear hv1
    go_wp2_with fail
    exact KK8 _ _ _ _ _ _ _ ⟨#[119, 101, 101, 107, 108, 121, 32]⟩ _ (by decide) HA.out
  · have hb : (v1 == 1) = false := by simpa using hv1
    by_cases hv2 : v1 = 2
    · have hb2 : (v1 == 2) = true := by simpa using hv2
      clear hv1 hv2
      go_wp2_with fail
      exact KK8 _ _ _ _ _ _ _ ⟨#[109, 111, 110, 116, 104, 108, 121, 32]⟩ _ (by decide) HA.out
    · have hb2 : (v1 == 2) = false := by simpa using hv2
      go_wp2_with fail
      exact KK8 _ _ _ _ _ _ _ ⟨#[100, 97, 105, 108, 121, 32]⟩ _ (by decide) HA.out

end Go.Proofs.YtjfkfiffakbagaaGreatDoor


/-
  A region that draws its order, by what holds between any two of its operations.
-/
namespace Go.Proofs.YtjfkfiffakbagaaGreatDoor
open Go

/-- How many operations are still to come. -/
def toCome (n : Nat) (listed : Array Bool) : Nat := ((List.range n).filter fun i => !listed.getD i true).length

theorem toCome_set {n : Nat} {listed : Array Bool} {i : Nat} (hs : listed.size = n) (hi : listed.getD i true = false) : toCome n (listed.setIfInBounds i true) < toCome n listed := by
  have hin : i < listed.size := by
    apply Classical.byContradiction
    intro h
    rw [Array.getD_eq_getD_getElem?, Array.getElem?_eq_none (by omega)] at hi
    cases hi
  have hg : ∀ j, (listed.setIfInBounds i true).getD j true = (decide (j = i) || listed.getD j true) := fun j => by
    by_cases e : j = i
    · subst e; simp [Array.getD_eq_getD_getElem?, hin]
    · have e' : ¬ i = j := fun h => e h.symm
      simp [Array.getD_eq_getD_getElem?, e, e']
  unfold toCome
  have : (List.range n).filter (fun j => !(listed.setIfInBounds i true).getD j true) = ((List.range n).filter fun j => !listed.getD j true).filter (fun j => !decide (j = i)) := by
    rw [List.filter_filter]
    congr 1
    funext j
    rw [hg j]
    cases decide (j = i) <;> simp
  rw [this]
  have hm : i ∈ (List.range n).filter fun j => !listed.getD j true := List.mem_filter.2 ⟨List.mem_range.2 (by omega), by rw [hi]; rfl⟩
  exact List.length_filter_lt_length_iff_exists.2 ⟨i, hm, by simp⟩

theorem getD_in {listed : Array Bool} {i : Nat} (h : i < listed.size) (b c : Bool) : listed.getD i b = listed.getD i c := by
  simp [Array.getD_eq_getD_getElem?, h]
theorem getD_set {listed : Array Bool} {i : Nat} (h : i < listed.size) : (fun j => (listed.setIfInBounds i true).getD j false) = fun j => decide (j = i) || listed.getD j false := by
  funext j
  by_cases e : j = i
  · subst e; simp [Array.getD_eq_getD_getElem?, h]
  · have e' : ¬ i = j := fun h => e h.symm
    simp [Array.getD_eq_getD_getElem?, e, e']

section
variable {P : Program} {ops : Array Oper} {Q : Exit → Act → World → Prop} {md : Region.Mode} {n : Nat}

theorem all_listed (hn : ops.size = n) (hord : ∀ (i : Nat) (o : Oper), ops[i]? = some o → (o.after.all fun e => !Region.binds md e || decide (e.on < i)) = true) {listed : Array Bool} (hs : listed.size = n) (hr : Region.ready md ops listed = []) : ∀ i, i < n → listed.getD i false = true := by
  intro i
  induction i using Nat.strongRecOn with
  | _ i ih =>
    intro hi
    apply Classical.byContradiction
    intro hc
    have hc' : listed.getD i true = false := by rw [getD_in (by omega) true false]; simpa using hc
    obtain ⟨o, ho⟩ : ∃ o, ops[i]? = some o := ⟨_, Array.getElem?_eq_getElem (by omega)⟩
    have hm : i ∈ Region.ready md ops listed := by
      refine List.mem_filter.2 ⟨List.mem_range.2 (by omega), ?_⟩
      rw [hc', ho]
      have h1 := hord i o ho
      rw [Array.all_eq_true'] at h1
      show (!false && (o.after.all fun e => !Region.binds md e || listed.getD e.on false)) = true
      rw [Bool.not_false, Bool.true_and, Array.all_eq_true']
      intro e he
      have h2 := h1 e he
      cases hb : Region.binds md e
      · rfl
      · rw [hb] at h2
        have h3 : e.on < i := by simpa using h2
        rw [ih e.on h3 (by omega)]; rfl
    rw [hr] at hm
    cases hm

/-- What is through has behind it what it waits for. -/
def Closed (md : Region.Mode) (ops : Array Oper) (L : Nat → Bool) : Prop := ∀ (i : Nat) (o : Oper), ops[i]? = some o → L i = true → (o.after.all fun e => !Region.binds md e || L e.on) = true
theorem Closed.more {L : Nat → Bool} (h : Closed md ops L) {i : Nat} {o : Oper} (ho : ops[i]? = some o) (hd : (o.after.all fun e => !Region.binds md e || L e.on) = true) : Closed md ops (fun j => decide (j = i) || L j) := by
  intro j q hq hj
  have up : ∀ (q : Oper), (q.after.all fun e => !Region.binds md e || L e.on) = true → (q.after.all fun e => !Region.binds md e || (decide (e.on = i) || L e.on)) = true := fun q hq => by
    rw [Array.all_eq_true'] at hq ⊢
    intro e he
    have := hq e he
    cases hb : Region.binds md e
    · rfl
    · rw [hb] at this
      have h1 : L e.on = true := by simpa using this
      rw [h1]; simp
  by_cases e : j = i
  · subst e
    rw [ho] at hq
    cases hq
    exact up o hd
  · have : L j = true := by simpa [e] using hj
    exact up q (h j q hq this)

/-- What holds between any two operations holds at the end. -/
theorem wpAny_inv (hn : ops.size = n) (hord : ∀ (i : Nat) (o : Oper), ops[i]? = some o → (o.after.all fun e => !Region.binds md e || decide (e.on < i)) = true) (I : (Nat → Bool) → Act → World → Prop)
    (hstep : ∀ (L : Nat → Bool) (a : Act) (w : World) (i : Nat) (o : Oper), Closed md ops L → I L a w → ops[i]? = some o → L i = false → (o.after.all fun e => !Region.binds md e || L e.on) = true → ∀ K : Act → World → Prop, (∀ a' w', I (fun j => decide (j = i) || L j) a' w' → K a' w') → if Region.wanted o (yielded ops a.tmps) = true then Oper.wp P o a w K Q else K (a.put o.dst undef) w)
    (hdone : ∀ (L : Nat → Bool) (a : Act) (w : World), (∀ i, i < n → L i = true) → I L a w → Q .normal a w) :
    ∀ (fuel : Nat) (listed : Array Bool) (a : Act) (w : World), listed.size = n → toCome n listed ≤ fuel → Closed md ops (fun j => listed.getD j false) → I (fun j => listed.getD j false) a w → wpAny P md ops Q fuel listed a w := by
  intro fuel
  induction fuel with
  | zero =>
    intro listed a w hs ht hcl hI
    have hr : Region.ready md ops listed = [] := by
      apply Classical.byContradiction
      intro hne
      obtain ⟨i, hi⟩ := List.exists_mem_of_ne_nil _ hne
      obtain ⟨h1, h2⟩ := List.mem_filter.1 hi
      have h3 : listed.getD i true = false := by
        rw [Bool.and_eq_true] at h2
        simpa using h2.1
      have : i ∈ (List.range n).filter fun i => !listed.getD i true := List.mem_filter.2 ⟨by rw [← hn]; exact h1, by rw [h3]; rfl⟩
      have := List.length_pos_of_mem this
      unfold toCome at ht
      omega
    exact ⟨hr, hdone _ _ _ (all_listed hn hord hs hr) hI⟩
  | succ fuel ih =>
    intro listed a w hs ht hcl hI
    refine ⟨fun hr => hdone _ _ _ (all_listed hn hord hs hr) hI, fun i hi => ?_⟩
    obtain ⟨h1, h2⟩ := List.mem_filter.1 hi
    have hin : i < n := by rw [← hn]; exact List.mem_range.1 h1
    rw [Bool.and_eq_true] at h2
    have h3 : listed.getD i true = false := by simpa using h2.1
    obtain ⟨o, ho⟩ : ∃ o, ops[i]? = some o := ⟨_, Array.getElem?_eq_getElem (by omega)⟩
    have h4 : (o.after.all fun e => !Region.binds md e || listed.getD e.on false) = true := by
      have := h2.2
      rw [ho] at this
      exact this
    refine wpOp_step ho (fun K hK => hstep _ a w i o hcl hI ho ?_ h4 K (fun a' w' hI' => hK _ _ (ih _ _ _ (by simpa using hs) ?_ ?_ ?_)))
    · rw [← getD_in (by omega) true false]; exact h3
    · have := toCome_set hs h3; omega
    · rw [getD_set (by omega)]; exact hcl.more ho h4
    · rw [getD_set (by omega)]; exact hI'

theorem none_yet (n : Nat) : (fun j => (Array.replicate n false).getD j false) = fun _ => false := by
  funext j
  by_cases h : j < n <;> simp [Array.getD_eq_getD_getElem?, h]
/-- A region that draws, by what holds between any two of its operations. -/
theorem wp_region_inv {id : Nat} {a : Act} {w : World} (hm : P.follows .mixedOrders = true) (hord : ∀ (i : Nat) (o : Oper), ops[i]? = some o → (o.after.all fun e => !Region.binds .any e || decide (e.on < i)) = true) (I : (Nat → Bool) → Act → World → Prop) (h0 : I (fun _ => false) a w.drew)
    (hstep : ∀ (L : Nat → Bool) (a : Act) (w : World) (i : Nat) (o : Oper), Closed .any ops L → I L a w → ops[i]? = some o → L i = false → (o.after.all fun e => !Region.binds .any e || L e.on) = true → ∀ K : Act → World → Prop, (∀ a' w', I (fun j => decide (j = i) || L j) a' w' → K a' w') → if Region.wanted o (yielded ops a.tmps) = true then Oper.wp P o a w K Q else K (a.put o.dst undef) w)
    (hdone : ∀ (L : Nat → Bool) (a : Act) (w : World), (∀ i, i < ops.size → L i = true) → I L a w → Q .normal a w) : (Code.region id ops true).wp P Q a w := by
  refine wp_region_any hm (wpAny_inv rfl hord I hstep hdone ops.size (Array.replicate ops.size false) a _ (by simp) ?_ ?_ ?_)
  · unfold toCome
    exact Nat.le_trans (List.length_filter_le _ _) (by simp)
  · rw [none_yet]; intro i o _ h; cases h
  · rw [none_yet]; exact h0

end

end Go.Proofs.YtjfkfiffakbagaaGreatDoor


/-
  bookingskeep.line, region 18: a series line is put together, in whatever order its parts are drawn.
-/
namespace Go.Proofs.YtjfkfiffakbagaaGreatDoor
open Go.RowKit

theorem FW.self {w0 w : World} {F : Nat} {s : ByteArray} (h : FW w0 F s w) : FW w F s w := ⟨h.fd, h.env, Off.refl _ _, h.ten⟩
theorem FW.back {w0 w w' : World} {F : Nat} {s : ByteArray} (h : FW w0 F s w) (k : FW w F s w') : FW w0 F s w' := ⟨k.fd, k.env, h.off.trans k.off, k.ten⟩
theorem entNext (args : Array Value) (w : World) : (callFunc 25 args).run Tryz.prog w = .ok (.enter 25 args) w := enters_of Tryz.func25 (by kernel_rfl) rfl args w
theorem entRule (args : Array Value) (w : World) : (callFunc 49 args).run Tryz.prog w = .ok (.enter 49 args) w := enters_of Tryz.func49 (by kernel_rfl) rfl args w
/-- Two short texts in a block of their own. -/
structure TwoB (g F : Nat) (W : World) : Prop where
  ne : g ≠ F
  c : ∀ n : Nat, n < 2 → ∃ z : ByteArray, z.size ≤ 4 ∧ W.cell? ⟨g, n, none⟩ = some (.string z)
theorem TwoB.off {g F : Nat} {W W' : World} (h : TwoB g F W) (k : Off [F] W W') : TwoB g F W' := ⟨h.ne, fun n hn => by
  obtain ⟨z, hz, hc⟩ := h.c n hn
  exact ⟨z, hz, k.cell (by simp; exact h.ne) hc⟩⟩
theorem TwoB.alloc {g F : Nat} {W : World} (h : TwoB g F W) (o : Obj) : TwoB g F (W.alloc o) := h.off (Off.of_below ((Below.refl _ _).alloc (Nat.le_refl _) _))
theorem TwoB.new {w0 W : World} {F : Nat} {s : ByteArray} (h : FW w0 F s W) : TwoB W.heap.size F (W.alloc (.cells #[.string ⟨#[97, 32, 49, 32]⟩, .string ⟨#[98, 32, 50, 32]⟩] 9)) := ⟨by have := h.lt; omega, fun n hn => by
  have hb := heapNew W (.cells #[.string ⟨#[97, 32, 49, 32]⟩, .string ⟨#[98, 32, 50, 32]⟩] 9)
  match n, hn with
  | 0, _ => exact ⟨⟨#[97, 32, 49, 32]⟩, by decide, by simp only [World.cell?, hb]; rfl⟩
  | 1, _ => exact ⟨⟨#[98, 32, 50, 32]⟩, by decide, by simp only [World.cell?, hb]; rfl⟩
  | n + 2, hn => omega⟩

def opsL18 : Array Oper := #[
  { dst := some 56, op := Op.buildSlice 26 2 #[(0, Operand.const (Value.string { data := #[97, 32, 49, 32] })), (1, Operand.const (Value.string { data := #[98, 32, 50, 32] }))], type := 26, pos := "build.go:117", after := #[], guard := none },
  { dst := some 57, op := Op.move (Operand.tmp 0), type := 45, pos := "build.go:117", after := #[], guard := none },
  { dst := some 58, op := Op.call { callee := Callee.value (Operand.func 25), args := #[Operand.tmp 57, Operand.const (Value.int IntKind.i64 2)], argTypes := #[45, 3] }, type := 3, pos := "build.go:117", after := #[{ on := 1, ground := Ground.data }], guard := none },
  { dst := some 59, op := Op.indexAddr 26 (Operand.tmp 56) (Operand.tmp 58), type := 0, pos := "build.go:117", after := #[{ on := 0, ground := Ground.data }, { on := 2, ground := Ground.data }], guard := none },
  { dst := some 60, op := Op.load 9 (Operand.tmp 59), type := 9, pos := "build.go:117", after := #[{ on := 3, ground := Ground.data }], guard := none },
  { dst := some 61, op := Op.binOp BinOp.add 9 (Operand.const (Value.string { data := #[115, 101, 114, 105, 101, 115, 32] })) (Operand.tmp 60) 9, type := 9, pos := "build.go:117", after := #[{ on := 4, ground := Ground.data }], guard := none },
  { dst := some 62, op := Op.move (Operand.tmp 0), type := 45, pos := "build.go:117", after := #[], guard := none },
  { dst := some 63, op := Op.call { callee := Callee.value (Operand.func 49), args := #[Operand.tmp 62], argTypes := #[45] }, type := 9, pos := "build.go:117", after := #[{ on := 6, ground := Ground.data }, { on := 2, ground := Ground.chain }], guard := none },
  { dst := some 64, op := Op.binOp BinOp.add 9 (Operand.tmp 61) (Operand.tmp 63) 9, type := 9, pos := "build.go:117", after := #[{ on := 5, ground := Ground.data }, { on := 7, ground := Ground.data }], guard := none },
  { dst := some 2, op := Op.assign (Operand.tmp 64), type := 9, pos := "build.go:117", after := #[{ on := 8, ground := Ground.data }, { on := 7, ground := Ground.chain }, { on := 0, ground := Ground.phase }, { on := 1, ground := Ground.phase }, { on := 2, ground := Ground.phase }, { on := 3, ground := Ground.phase }, { on := 4, ground := Ground.phase }, { on := 5, ground := Ground.phase }, { on := 6, ground := Ground.phase }, { on := 7, ground := Ground.phase }, { on := 8, ground := Ground.phase }], guard := none }]
/-- What holds between any two operations of region 18. -/
structure RL18 (w0 : World) (F : Nat) (s : ByteArray) (L : Nat → Bool) (u2 u56 u57 u58 u59 u60 u61 u62 u63 u64 : Value) (W : World) : Prop where
  fw : FW w0 F s W
  f0 : L 0 = true → ∃ g, u56 = .slice (some ⟨g, 0, none⟩) 2 2 ∧ TwoB g F W
  f1 : L 1 = true → u57 = .pointer (some ⟨F, 0, none⟩)
  f2 : L 2 = true → ∃ n : Nat, n < 2 ∧ u58 = .int .i64 (n : Int)
  f3 : L 3 = true → ∃ (g n : Nat), n < 2 ∧ u59 = .pointer (some ⟨g, n, none⟩) ∧ TwoB g F W
  f4 : L 4 = true → ∃ z : ByteArray, z.size ≤ 4 ∧ u60 = .string z
  f5 : L 5 = true → ∃ z : ByteArray, z.size ≤ 4 ∧ u61 = .string ((⟨#[115, 101, 114, 105, 101, 115, 32]⟩ : ByteArray) ++ z)
  f6 : L 6 = true → u62 = .pointer (some ⟨F, 0, none⟩)
  f7 : L 7 = true → ∃ t : ByteArray, t.size ≤ 120 ∧ u63 = .string t
  f8 : L 8 = true → ∃ (z t : ByteArray), z.size ≤ 4 ∧ t.size ≤ 120 ∧ u64 = .string (((⟨#[115, 101, 114, 105, 101, 115, 32]⟩ : ByteArray) ++ z) ++ t)
  f9 : L 9 = true → ∃ (z t : ByteArray), z.size ≤ 4 ∧ t.size ≤ 120 ∧ u2 = .string (((⟨#[115, 101, 114, 105, 101, 115, 32]⟩ : ByteArray) ++ z) ++ t)
set_option maxRecDepth 100000 in
set_option maxHeartbeats 2000000 in
theorem sL18_0 {w0 : World} {F : Nat} {s : ByteArray} {t3 t4 t5 t6 t7 t8 t9 t10 t11 t12 t13 t14 t15 t16 t17 t18 t19 t20 t21 t22 t23 t24 t25 t26 t27 t28 t29 t30 t31 t32 t33 t34 t35 t36 t37 t38 t39 t40 t41 t42 t43 t44 t45 t46 t47 t48 t49 t50 t51 t52 t53 t54 t55 : Value}  {L : Nat → Bool} {u2 u56 u57 u58 u59 u60 u61 u62 u63 u64 : Value} {W : World} {Q : Exit → Act → World → Prop} {K : Act → World → Prop} (_hL : L 0 = false) (h : RL18 w0 F s L u2 u56 u57 u58 u59 u60 u61 u62 u63 u64 W)
    (hK : ∀ a' w', (∃ v2 v56 v57 v58 v59 v60 v61 v62 v63 v64 : Value, a' = { tmps := #[.pointer (some ⟨F, 0, none⟩), undef, v2, t3, t4, t5, t6, t7, t8, t9, t10, t11, t12, t13, t14, t15, t16, t17, t18, t19, t20, t21, t22, t23, t24, t25, t26, t27, t28, t29, t30, t31, t32, t33, t34, t35, t36, t37, t38, t39, t40, t41, t42, t43, t44, t45, t46, t47, t48, t49, t50, t51, t52, t53, t54, t55, v56, v57, v58, v59, v60, v61, v62, v63, v64, undef, undef, undef, undef, undef], defers := [] } ∧ RL18 w0 F s (fun j => decide (j = 0) || L j) v2 v56 v57 v58 v59 v60 v61 v62 v63 v64 w') → K a' w') :
    if Region.wanted { dst := some 56, op := Op.buildSlice 26 2 #[(0, Operand.const (Value.string { data := #[97, 32, 49, 32] })), (1, Operand.const (Value.string { data := #[98, 32, 50, 32] }))], type := 26, pos := "build.go:117", after := #[], guard := none } (yielded opsL18 ({ tmps := #[.pointer (some ⟨F, 0, none⟩), undef, u2, t3, t4, t5, t6, t7, t8, t9, t10, t11, t12, t13, t14, t15, t16, t17, t18, t19, t20, t21, t22, t23, t24, t25, t26, t27, t28, t29, t30, t31, t32, t33, t34, t35, t36, t37, t38, t39, t40, t41, t42, t43, t44, t45, t46, t47, t48, t49, t50, t51, t52, t53, t54, t55, u56, u57, u58, u59, u60, u61, u62, u63, u64, undef, undef, undef, undef, undef], defers := [] } : Act).tmps) = true then Oper.wp Tryz.prog { dst := some 56, op := Op.buildSlice 26 2 #[(0, Operand.const (Value.string { data := #[97, 32, 49, 32] })), (1, Operand.const (Value.string { data := #[98, 32, 50, 32] }))], type := 26, pos := "build.go:117", after := #[], guard := none } { tmps := #[.pointer (some ⟨F, 0, none⟩), undef, u2, t3, t4, t5, t6, t7, t8, t9, t10, t11, t12, t13, t14, t15, t16, t17, t18, t19, t20, t21, t22, t23, t24, t25, t26, t27, t28, t29, t30, t31, t32, t33, t34, t35, t36, t37, t38, t39, t40, t41, t42, t43, t44, t45, t46, t47, t48, t49, t50, t51, t52, t53, t54, t55, u56, u57, u58, u59, u60, u61, u62, u63, u64, undef, undef, undef, undef, undef], defers := [] } W K Q else K (({ tmps := #[.pointer (some ⟨F, 0, none⟩), undef, u2, t3, t4, t5, t6, t7, t8, t9, t10, t11, t12, t13, t14, t15, t16, t17, t18, t19, t20, t21, t22, t23, t24, t25, t26, t27, t28, t29, t30, t31, t32, t33, t34, t35, t36, t37, t38, t39, t40, t41, t42, t43, t44, t45, t46, t47, t48, t49, t50, t51, t52, t53, t54, t55, u56, u57, u58, u59, u60, u61, u62, u63, u64, undef, undef, undef, undef, undef], defers := [] } : Act).put (some 56) undef) W := by
  go_simp
  exact hK _ _ ⟨_, _, _, _, _, _, _, _, _, _, rfl, ⟨h.fw.alloc _, fun _ => ⟨W.heap.size, rfl, TwoB.new h.fw⟩, h.f1, h.f2, fun e => (h.f3 e).imp fun g hg => hg.imp fun n hn => ⟨hn.1, hn.2.1, hn.2.2.alloc _⟩, h.f4, h.f5, h.f6, h.f7, h.f8, h.f9⟩⟩

set_option maxRecDepth 100000 in
set_option maxHeartbeats 2000000 in
theorem sL18_1 {w0 : World} {F : Nat} {s : ByteArray} {t3 t4 t5 t6 t7 t8 t9 t10 t11 t12 t13 t14 t15 t16 t17 t18 t19 t20 t21 t22 t23 t24 t25 t26 t27 t28 t29 t30 t31 t32 t33 t34 t35 t36 t37 t38 t39 t40 t41 t42 t43 t44 t45 t46 t47 t48 t49 t50 t51 t52 t53 t54 t55 : Value}  {L : Nat → Bool} {u2 u56 u57 u58 u59 u60 u61 u62 u63 u64 : Value} {W : World} {Q : Exit → Act → World → Prop} {K : Act → World → Prop} (_hL : L 1 = false) (h : RL18 w0 F s L u2 u56 u57 u58 u59 u60 u61 u62 u63 u64 W)
    (hK : ∀ a' w', (∃ v2 v56 v57 v58 v59 v60 v61 v62 v63 v64 : Value, a' = { tmps := #[.pointer (some ⟨F, 0, none⟩), undef, v2, t3, t4, t5, t6, t7, t8, t9, t10, t11, t12, t13, t14, t15, t16, t17, t18, t19, t20, t21, t22, t23, t24, t25, t26, t27, t28, t29, t30, t31, t32, t33, t34, t35, t36, t37, t38, t39, t40, t41, t42, t43, t44, t45, t46, t47, t48, t49, t50, t51, t52, t53, t54, t55, v56, v57, v58, v59, v60, v61, v62, v63, v64, undef, undef, undef, undef, undef], defers := [] } ∧ RL18 w0 F s (fun j => decide (j = 1) || L j) v2 v56 v57 v58 v59 v60 v61 v62 v63 v64 w') → K a' w') :
    if Region.wanted { dst := some 57, op := Op.move (Operand.tmp 0), type := 45, pos := "build.go:117", after := #[], guard := none } (yielded opsL18 ({ tmps := #[.pointer (some ⟨F, 0, none⟩), undef, u2, t3, t4, t5, t6, t7, t8, t9, t10, t11, t12, t13, t14, t15, t16, t17, t18, t19, t20, t21, t22, t23, t24, t25, t26, t27, t28, t29, t30, t31, t32, t33, t34, t35, t36, t37, t38, t39, t40, t41, t42, t43, t44, t45, t46, t47, t48, t49, t50, t51, t52, t53, t54, t55, u56, u57, u58, u59, u60, u61, u62, u63, u64, undef, undef, undef, undef, undef], defers := [] } : Act).tmps) = true then Oper.wp Tryz.prog { dst := some 57, op := Op.move (Operand.tmp 0), type := 45, pos := "build.go:117", after := #[], guard := none } { tmps := #[.pointer (some ⟨F, 0, none⟩), undef, u2, t3, t4, t5, t6, t7, t8, t9, t10, t11, t12, t13, t14, t15, t16, t17, t18, t19, t20, t21, t22, t23, t24, t25, t26, t27, t28, t29, t30, t31, t32, t33, t34, t35, t36, t37, t38, t39, t40, t41, t42, t43, t44, t45, t46, t47, t48, t49, t50, t51, t52, t53, t54, t55, u56, u57, u58, u59, u60, u61, u62, u63, u64, undef, undef, undef, undef, undef], defers := [] } W K Q else K (({ tmps := #[.pointer (some ⟨F, 0, none⟩), undef, u2, t3, t4, t5, t6, t7, t8, t9, t10, t11, t12, t13, t14, t15, t16, t17, t18, t19, t20, t21, t22, t23, t24, t25, t26, t27, t28, t29, t30, t31, t32, t33, t34, t35, t36, t37, t38, t39, t40, t41, t42, t43, t44, t45, t46, t47, t48, t49, t50, t51, t52, t53, t54, t55, u56, u57, u58, u59, u60, u61, u62, u63, u64, undef, undef, undef, undef, undef], defers := [] } : Act).put (some 57) undef) W := by
  go_simp
  exact hK _ _ ⟨_, _, _, _, _, _, _, _, _, _, rfl, ⟨h.fw, h.f0, fun _ => rfl, h.f2, h.f3, h.f4, h.f5, h.f6, h.f7, h.f8, h.f9⟩⟩

set_option maxRecDepth 100000 in
set_option maxHeartbeats 2000000 in
theorem sL18_2 {w0 : World} {F : Nat} {s : ByteArray} {t3 t4 t5 t6 t7 t8 t9 t10 t11 t12 t13 t14 t15 t16 t17 t18 t19 t20 t21 t22 t23 t24 t25 t26 t27 t28 t29 t30 t31 t32 t33 t34 t35 t36 t37 t38 t39 t40 t41 t42 t43 t44 t45 t46 t47 t48 t49 t50 t51 t52 t53 t54 t55 : Value}  {L : Nat → Bool} {u2 u56 u57 u58 u59 u60 u61 u62 u63 u64 : Value} {W : World} {Q : Exit → Act → World → Prop} {K : Act → World → Prop} (_hL : L 2 = false) (d1 : L 1 = true) (h : RL18 w0 F s L u2 u56 u57 u58 u59 u60 u61 u62 u63 u64 W)
    (hK : ∀ a' w', (∃ v2 v56 v57 v58 v59 v60 v61 v62 v63 v64 : Value, a' = { tmps := #[.pointer (some ⟨F, 0, none⟩), undef, v2, t3, t4, t5, t6, t7, t8, t9, t10, t11, t12, t13, t14, t15, t16, t17, t18, t19, t20, t21, t22, t23, t24, t25, t26, t27, t28, t29, t30, t31, t32, t33, t34, t35, t36, t37, t38, t39, t40, t41, t42, t43, t44, t45, t46, t47, t48, t49, t50, t51, t52, t53, t54, t55, v56, v57, v58, v59, v60, v61, v62, v63, v64, undef, undef, undef, undef, undef], defers := [] } ∧ RL18 w0 F s (fun j => decide (j = 2) || L j) v2 v56 v57 v58 v59 v60 v61 v62 v63 v64 w') → K a' w') :
    if Region.wanted { dst := some 58, op := Op.call { callee := Callee.value (Operand.func 25), args := #[Operand.tmp 57, Operand.const (Value.int IntKind.i64 2)], argTypes := #[45, 3] }, type := 3, pos := "build.go:117", after := #[{ on := 1, ground := Ground.data }], guard := none } (yielded opsL18 ({ tmps := #[.pointer (some ⟨F, 0, none⟩), undef, u2, t3, t4, t5, t6, t7, t8, t9, t10, t11, t12, t13, t14, t15, t16, t17, t18, t19, t20, t21, t22, t23, t24, t25, t26, t27, t28, t29, t30, t31, t32, t33, t34, t35, t36, t37, t38, t39, t40, t41, t42, t43, t44, t45, t46, t47, t48, t49, t50, t51, t52, t53, t54, t55, u56, u57, u58, u59, u60, u61, u62, u63, u64, undef, undef, undef, undef, undef], defers := [] } : Act).tmps) = true then Oper.wp Tryz.prog { dst := some 58, op := Op.call { callee := Callee.value (Operand.func 25), args := #[Operand.tmp 57, Operand.const (Value.int IntKind.i64 2)], argTypes := #[45, 3] }, type := 3, pos := "build.go:117", after := #[{ on := 1, ground := Ground.data }], guard := none } { tmps := #[.pointer (some ⟨F, 0, none⟩), undef, u2, t3, t4, t5, t6, t7, t8, t9, t10, t11, t12, t13, t14, t15, t16, t17, t18, t19, t20, t21, t22, t23, t24, t25, t26, t27, t28, t29, t30, t31, t32, t33, t34, t35, t36, t37, t38, t39, t40, t41, t42, t43, t44, t45, t46, t47, t48, t49, t50, t51, t52, t53, t54, t55, u56, u57, u58, u59, u60, u61, u62, u63, u64, undef, undef, undef, undef, undef], defers := [] } W K Q else K (({ tmps := #[.pointer (some ⟨F, 0, none⟩), undef, u2, t3, t4, t5, t6, t7, t8, t9, t10, t11, t12, t13, t14, t15, t16, t17, t18, t19, t20, t21, t22, t23, t24, t25, t26, t27, t28, t29, t30, t31, t32, t33, t34, t35, t36, t37, t38, t39, t40, t41, t42, t43, t44, t45, t46, t47, t48, t49, t50, t51, t52, t53, t54, t55, u56, u57, u58, u59, u60, u61, u62, u63, u64, undef, undef, undef, undef, undef], defers := [] } : Act).put (some 58) undef) W := by
  obtain rfl := h.f1 d1
  refine step_call (by rfl) 25 _ _ (by rfl) _ (by simp [Act.eval]) (entNext _ _) (next_any h.fw.self 2 (by omega) (by omega)) ?_
  rintro e w7 ⟨v, rfl, v0, v1, k7⟩
  refine ⟨_, rfl, ?_⟩
  have ho7 := k7.off
  obtain ⟨n, rfl⟩ := Int.eq_ofNat_of_zero_le v0
  exact hK _ _ ⟨_, _, _, _, _, _, _, _, _, _, rfl, ⟨h.fw.back k7, fun e => (h.f0 e).imp fun g hg => ⟨hg.1, hg.2.off ho7⟩, fun _ => rfl, fun _ => ⟨n, by omega, rfl⟩, fun e => (h.f3 e).imp fun g hg => hg.imp fun n hn => ⟨hn.1, hn.2.1, hn.2.2.off ho7⟩, h.f4, h.f5, h.f6, h.f7, h.f8, h.f9⟩⟩

set_option maxRecDepth 100000 in
set_option maxHeartbeats 2000000 in
theorem sL18_3 {w0 : World} {F : Nat} {s : ByteArray} {t3 t4 t5 t6 t7 t8 t9 t10 t11 t12 t13 t14 t15 t16 t17 t18 t19 t20 t21 t22 t23 t24 t25 t26 t27 t28 t29 t30 t31 t32 t33 t34 t35 t36 t37 t38 t39 t40 t41 t42 t43 t44 t45 t46 t47 t48 t49 t50 t51 t52 t53 t54 t55 : Value}  {L : Nat → Bool} {u2 u56 u57 u58 u59 u60 u61 u62 u63 u64 : Value} {W : World} {Q : Exit → Act → World → Prop} {K : Act → World → Prop} (_hL : L 3 = false) (d0 : L 0 = true) (d2 : L 2 = true) (h : RL18 w0 F s L u2 u56 u57 u58 u59 u60 u61 u62 u63 u64 W)
    (hK : ∀ a' w', (∃ v2 v56 v57 v58 v59 v60 v61 v62 v63 v64 : Value, a' = { tmps := #[.pointer (some ⟨F, 0, none⟩), undef, v2, t3, t4, t5, t6, t7, t8, t9, t10, t11, t12, t13, t14, t15, t16, t17, t18, t19, t20, t21, t22, t23, t24, t25, t26, t27, t28, t29, t30, t31, t32, t33, t34, t35, t36, t37, t38, t39, t40, t41, t42, t43, t44, t45, t46, t47, t48, t49, t50, t51, t52, t53, t54, t55, v56, v57, v58, v59, v60, v61, v62, v63, v64, undef, undef, undef, undef, undef], defers := [] } ∧ RL18 w0 F s (fun j => decide (j = 3) || L j) v2 v56 v57 v58 v59 v60 v61 v62 v63 v64 w') → K a' w') :
    if Region.wanted { dst := some 59, op := Op.indexAddr 26 (Operand.tmp 56) (Operand.tmp 58), type := 0, pos := "build.go:117", after := #[{ on := 0, ground := Ground.data }, { on := 2, ground := Ground.data }], guard := none } (yielded opsL18 ({ tmps := #[.pointer (some ⟨F, 0, none⟩), undef, u2, t3, t4, t5, t6, t7, t8, t9, t10, t11, t12, t13, t14, t15, t16, t17, t18, t19, t20, t21, t22, t23, t24, t25, t26, t27, t28, t29, t30, t31, t32, t33, t34, t35, t36, t37, t38, t39, t40, t41, t42, t43, t44, t45, t46, t47, t48, t49, t50, t51, t52, t53, t54, t55, u56, u57, u58, u59, u60, u61, u62, u63, u64, undef, undef, undef, undef, undef], defers := [] } : Act).tmps) = true then Oper.wp Tryz.prog { dst := some 59, op := Op.indexAddr 26 (Operand.tmp 56) (Operand.tmp 58), type := 0, pos := "build.go:117", after := #[{ on := 0, ground := Ground.data }, { on := 2, ground := Ground.data }], guard := none } { tmps := #[.pointer (some ⟨F, 0, none⟩), undef, u2, t3, t4, t5, t6, t7, t8, t9, t10, t11, t12, t13, t14, t15, t16, t17, t18, t19, t20, t21, t22, t23, t24, t25, t26, t27, t28, t29, t30, t31, t32, t33, t34, t35, t36, t37, t38, t39, t40, t41, t42, t43, t44, t45, t46, t47, t48, t49, t50, t51, t52, t53, t54, t55, u56, u57, u58, u59, u60, u61, u62, u63, u64, undef, undef, undef, undef, undef], defers := [] } W K Q else K (({ tmps := #[.pointer (some ⟨F, 0, none⟩), undef, u2, t3, t4, t5, t6, t7, t8, t9, t10, t11, t12, t13, t14, t15, t16, t17, t18, t19, t20, t21, t22, t23, t24, t25, t26, t27, t28, t29, t30, t31, t32, t33, t34, t35, t36, t37, t38, t39, t40, t41, t42, t43, t44, t45, t46, t47, t48, t49, t50, t51, t52, t53, t54, t55, u56, u57, u58, u59, u60, u61, u62, u63, u64, undef, undef, undef, undef, undef], defers := [] } : Act).put (some 59) undef) W := by
  obtain ⟨g, rfl, hg⟩ := h.f0 d0
  obtain ⟨n, hn, rfl⟩ := h.f2 d2
  have hn' : (n : Int) < 2 := by omega
  go_simp
  exact hK _ _ ⟨_, _, _, _, _, _, _, _, _, _, rfl, ⟨h.fw, fun _ => ⟨g, rfl, hg⟩, h.f1, fun _ => ⟨n, hn, rfl⟩, fun _ => ⟨g, n, hn, rfl, hg⟩, h.f4, h.f5, h.f6, h.f7, h.f8, h.f9⟩⟩

set_option maxRecDepth 100000 in
set_option maxHeartbeats 2000000 in
theorem sL18_4 {w0 : World} {F : Nat} {s : ByteArray} {t3 t4 t5 t6 t7 t8 t9 t10 t11 t12 t13 t14 t15 t16 t17 t18 t19 t20 t21 t22 t23 t24 t25 t26 t27 t28 t29 t30 t31 t32 t33 t34 t35 t36 t37 t38 t39 t40 t41 t42 t43 t44 t45 t46 t47 t48 t49 t50 t51 t52 t53 t54 t55 : Value}  {L : Nat → Bool} {u2 u56 u57 u58 u59 u60 u61 u62 u63 u64 : Value} {W : World} {Q : Exit → Act → World → Prop} {K : Act → World → Prop} (_hL : L 4 = false) (d3 : L 3 = true) (h : RL18 w0 F s L u2 u56 u57 u58 u59 u60 u61 u62 u63 u64 W)
    (hK : ∀ a' w', (∃ v2 v56 v57 v58 v59 v60 v61 v62 v63 v64 : Value, a' = { tmps := #[.pointer (some ⟨F, 0, none⟩), undef, v2, t3, t4, t5, t6, t7, t8, t9, t10, t11, t12, t13, t14, t15, t16, t17, t18, t19, t20, t21, t22, t23, t24, t25, t26, t27, t28, t29, t30, t31, t32, t33, t34, t35, t36, t37, t38, t39, t40, t41, t42, t43, t44, t45, t46, t47, t48, t49, t50, t51, t52, t53, t54, t55, v56, v57, v58, v59, v60, v61, v62, v63, v64, undef, undef, undef, undef, undef], defers := [] } ∧ RL18 w0 F s (fun j => decide (j = 4) || L j) v2 v56 v57 v58 v59 v60 v61 v62 v63 v64 w') → K a' w') :
    if Region.wanted { dst := some 60, op := Op.load 9 (Operand.tmp 59), type := 9, pos := "build.go:117", after := #[{ on := 3, ground := Ground.data }], guard := none } (yielded opsL18 ({ tmps := #[.pointer (some ⟨F, 0, none⟩), undef, u2, t3, t4, t5, t6, t7, t8, t9, t10, t11, t12, t13, t14, t15, t16, t17, t18, t19, t20, t21, t22, t23, t24, t25, t26, t27, t28, t29, t30, t31, t32, t33, t34, t35, t36, t37, t38, t39, t40, t41, t42, t43, t44, t45, t46, t47, t48, t49, t50, t51, t52, t53, t54, t55, u56, u57, u58, u59, u60, u61, u62, u63, u64, undef, undef, undef, undef, undef], defers := [] } : Act).tmps) = true then Oper.wp Tryz.prog { dst := some 60, op := Op.load 9 (Operand.tmp 59), type := 9, pos := "build.go:117", after := #[{ on := 3, ground := Ground.data }], guard := none } { tmps := #[.pointer (some ⟨F, 0, none⟩), undef, u2, t3, t4, t5, t6, t7, t8, t9, t10, t11, t12, t13, t14, t15, t16, t17, t18, t19, t20, t21, t22, t23, t24, t25, t26, t27, t28, t29, t30, t31, t32, t33, t34, t35, t36, t37, t38, t39, t40, t41, t42, t43, t44, t45, t46, t47, t48, t49, t50, t51, t52, t53, t54, t55, u56, u57, u58, u59, u60, u61, u62, u63, u64, undef, undef, undef, undef, undef], defers := [] } W K Q else K (({ tmps := #[.pointer (some ⟨F, 0, none⟩), undef, u2, t3, t4, t5, t6, t7, t8, t9, t10, t11, t12, t13, t14, t15, t16, t17, t18, t19, t20, t21, t22, t23, t24, t25, t26, t27, t28, t29, t30, t31, t32, t33, t34, t35, t36, t37, t38, t39, t40, t41, t42, t43, t44, t45, t46, t47, t48, t49, t50, t51, t52, t53, t54, t55, u56, u57, u58, u59, u60, u61, u62, u63, u64, undef, undef, undef, undef, undef], defers := [] } : Act).put (some 60) undef) W := by
  obtain ⟨g, n, hn, rfl, hg⟩ := h.f3 d3
  obtain ⟨z, hz, hc⟩ := hg.c n hn
  go_simp
  exact hK _ _ ⟨_, _, _, _, _, _, _, _, _, _, rfl, ⟨h.fw, h.f0, h.f1, h.f2, fun _ => ⟨g, n, hn, rfl, hg⟩, fun _ => ⟨z, hz, rfl⟩, h.f5, h.f6, h.f7, h.f8, h.f9⟩⟩

set_option maxRecDepth 100000 in
set_option maxHeartbeats 2000000 in
theorem sL18_5 {w0 : World} {F : Nat} {s : ByteArray} {t3 t4 t5 t6 t7 t8 t9 t10 t11 t12 t13 t14 t15 t16 t17 t18 t19 t20 t21 t22 t23 t24 t25 t26 t27 t28 t29 t30 t31 t32 t33 t34 t35 t36 t37 t38 t39 t40 t41 t42 t43 t44 t45 t46 t47 t48 t49 t50 t51 t52 t53 t54 t55 : Value}  {L : Nat → Bool} {u2 u56 u57 u58 u59 u60 u61 u62 u63 u64 : Value} {W : World} {Q : Exit → Act → World → Prop} {K : Act → World → Prop} (_hL : L 5 = false) (d4 : L 4 = true) (h : RL18 w0 F s L u2 u56 u57 u58 u59 u60 u61 u62 u63 u64 W)
    (hK : ∀ a' w', (∃ v2 v56 v57 v58 v59 v60 v61 v62 v63 v64 : Value, a' = { tmps := #[.pointer (some ⟨F, 0, none⟩), undef, v2, t3, t4, t5, t6, t7, t8, t9, t10, t11, t12, t13, t14, t15, t16, t17, t18, t19, t20, t21, t22, t23, t24, t25, t26, t27, t28, t29, t30, t31, t32, t33, t34, t35, t36, t37, t38, t39, t40, t41, t42, t43, t44, t45, t46, t47, t48, t49, t50, t51, t52, t53, t54, t55, v56, v57, v58, v59, v60, v61, v62, v63, v64, undef, undef, undef, undef, undef], defers := [] } ∧ RL18 w0 F s (fun j => decide (j = 5) || L j) v2 v56 v57 v58 v59 v60 v61 v62 v63 v64 w') → K a' w') :
    if Region.wanted { dst := some 61, op := Op.binOp BinOp.add 9 (Operand.const (Value.string { data := #[115, 101, 114, 105, 101, 115, 32] })) (Operand.tmp 60) 9, type := 9, pos := "build.go:117", after := #[{ on := 4, ground := Ground.data }], guard := none } (yielded opsL18 ({ tmps := #[.pointer (some ⟨F, 0, none⟩), undef, u2, t3, t4, t5, t6, t7, t8, t9, t10, t11, t12, t13, t14, t15, t16, t17, t18, t19, t20, t21, t22, t23, t24, t25, t26, t27, t28, t29, t30, t31, t32, t33, t34, t35, t36, t37, t38, t39, t40, t41, t42, t43, t44, t45, t46, t47, t48, t49, t50, t51, t52, t53, t54, t55, u56, u57, u58, u59, u60, u61, u62, u63, u64, undef, undef, undef, undef, undef], defers := [] } : Act).tmps) = true then Oper.wp Tryz.prog { dst := some 61, op := Op.binOp BinOp.add 9 (Operand.const (Value.string { data := #[115, 101, 114, 105, 101, 115, 32] })) (Operand.tmp 60) 9, type := 9, pos := "build.go:117", after := #[{ on := 4, ground := Ground.data }], guard := none } { tmps := #[.pointer (some ⟨F, 0, none⟩), undef, u2, t3, t4, t5, t6, t7, t8, t9, t10, t11, t12, t13, t14, t15, t16, t17, t18, t19, t20, t21, t22, t23, t24, t25, t26, t27, t28, t29, t30, t31, t32, t33, t34, t35, t36, t37, t38, t39, t40, t41, t42, t43, t44, t45, t46, t47, t48, t49, t50, t51, t52, t53, t54, t55, u56, u57, u58, u59, u60, u61, u62, u63, u64, undef, undef, undef, undef, undef], defers := [] } W K Q else K (({ tmps := #[.pointer (some ⟨F, 0, none⟩), undef, u2, t3, t4, t5, t6, t7, t8, t9, t10, t11, t12, t13, t14, t15, t16, t17, t18, t19, t20, t21, t22, t23, t24, t25, t26, t27, t28, t29, t30, t31, t32, t33, t34, t35, t36, t37, t38, t39, t40, t41, t42, t43, t44, t45, t46, t47, t48, t49, t50, t51, t52, t53, t54, t55, u56, u57, u58, u59, u60, u61, u62, u63, u64, undef, undef, undef, undef, undef], defers := [] } : Act).put (some 61) undef) W := by
  obtain ⟨z, hz, rfl⟩ := h.f4 d4
  have sz : ¬ (9223372036854775807 < 7 + z.size) := by omega
  go_simp
  exact hK _ _ ⟨_, _, _, _, _, _, _, _, _, _, rfl, ⟨h.fw, h.f0, h.f1, h.f2, h.f3, fun _ => ⟨z, hz, rfl⟩, fun _ => ⟨z, hz, rfl⟩, h.f6, h.f7, h.f8, h.f9⟩⟩

set_option maxRecDepth 100000 in
set_option maxHeartbeats 2000000 in
theorem sL18_6 {w0 : World} {F : Nat} {s : ByteArray} {t3 t4 t5 t6 t7 t8 t9 t10 t11 t12 t13 t14 t15 t16 t17 t18 t19 t20 t21 t22 t23 t24 t25 t26 t27 t28 t29 t30 t31 t32 t33 t34 t35 t36 t37 t38 t39 t40 t41 t42 t43 t44 t45 t46 t47 t48 t49 t50 t51 t52 t53 t54 t55 : Value}  {L : Nat → Bool} {u2 u56 u57 u58 u59 u60 u61 u62 u63 u64 : Value} {W : World} {Q : Exit → Act → World → Prop} {K : Act → World → Prop} (_hL : L 6 = false) (h : RL18 w0 F s L u2 u56 u57 u58 u59 u60 u61 u62 u63 u64 W)
    (hK : ∀ a' w', (∃ v2 v56 v57 v58 v59 v60 v61 v62 v63 v64 : Value, a' = { tmps := #[.pointer (some ⟨F, 0, none⟩), undef, v2, t3, t4, t5, t6, t7, t8, t9, t10, t11, t12, t13, t14, t15, t16, t17, t18, t19, t20, t21, t22, t23, t24, t25, t26, t27, t28, t29, t30, t31, t32, t33, t34, t35, t36, t37, t38, t39, t40, t41, t42, t43, t44, t45, t46, t47, t48, t49, t50, t51, t52, t53, t54, t55, v56, v57, v58, v59, v60, v61, v62, v63, v64, undef, undef, undef, undef, undef], defers := [] } ∧ RL18 w0 F s (fun j => decide (j = 6) || L j) v2 v56 v57 v58 v59 v60 v61 v62 v63 v64 w') → K a' w') :
    if Region.wanted { dst := some 62, op := Op.move (Operand.tmp 0), type := 45, pos := "build.go:117", after := #[], guard := none } (yielded opsL18 ({ tmps := #[.pointer (some ⟨F, 0, none⟩), undef, u2, t3, t4, t5, t6, t7, t8, t9, t10, t11, t12, t13, t14, t15, t16, t17, t18, t19, t20, t21, t22, t23, t24, t25, t26, t27, t28, t29, t30, t31, t32, t33, t34, t35, t36, t37, t38, t39, t40, t41, t42, t43, t44, t45, t46, t47, t48, t49, t50, t51, t52, t53, t54, t55, u56, u57, u58, u59, u60, u61, u62, u63, u64, undef, undef, undef, undef, undef], defers := [] } : Act).tmps) = true then Oper.wp Tryz.prog { dst := some 62, op := Op.move (Operand.tmp 0), type := 45, pos := "build.go:117", after := #[], guard := none } { tmps := #[.pointer (some ⟨F, 0, none⟩), undef, u2, t3, t4, t5, t6, t7, t8, t9, t10, t11, t12, t13, t14, t15, t16, t17, t18, t19, t20, t21, t22, t23, t24, t25, t26, t27, t28, t29, t30, t31, t32, t33, t34, t35, t36, t37, t38, t39, t40, t41, t42, t43, t44, t45, t46, t47, t48, t49, t50, t51, t52, t53, t54, t55, u56, u57, u58, u59, u60, u61, u62, u63, u64, undef, undef, undef, undef, undef], defers := [] } W K Q else K (({ tmps := #[.pointer (some ⟨F, 0, none⟩), undef, u2, t3, t4, t5, t6, t7, t8, t9, t10, t11, t12, t13, t14, t15, t16, t17, t18, t19, t20, t21, t22, t23, t24, t25, t26, t27, t28, t29, t30, t31, t32, t33, t34, t35, t36, t37, t38, t39, t40, t41, t42, t43, t44, t45, t46, t47, t48, t49, t50, t51, t52, t53, t54, t55, u56, u57, u58, u59, u60, u61, u62, u63, u64, undef, undef, undef, undef, undef], defers := [] } : Act).put (some 62) undef) W := by
  go_simp
  exact hK _ _ ⟨_, _, _, _, _, _, _, _, _, _, rfl, ⟨h.fw, h.f0, h.f1, h.f2, h.f3, h.f4, h.f5, fun _ => rfl, h.f7, h.f8, h.f9⟩⟩

set_option maxRecDepth 100000 in
set_option maxHeartbeats 2000000 in
theorem sL18_7 {w0 : World} {F : Nat} {s : ByteArray} {t3 t4 t5 t6 t7 t8 t9 t10 t11 t12 t13 t14 t15 t16 t17 t18 t19 t20 t21 t22 t23 t24 t25 t26 t27 t28 t29 t30 t31 t32 t33 t34 t35 t36 t37 t38 t39 t40 t41 t42 t43 t44 t45 t46 t47 t48 t49 t50 t51 t52 t53 t54 t55 : Value}  {L : Nat → Bool} {u2 u56 u57 u58 u59 u60 u61 u62 u63 u64 : Value} {W : World} {Q : Exit → Act → World → Prop} {K : Act → World → Prop} (_hL : L 7 = false) (_d2 : L 2 = true) (d6 : L 6 = true) (h : RL18 w0 F s L u2 u56 u57 u58 u59 u60 u61 u62 u63 u64 W)
    (hK : ∀ a' w', (∃ v2 v56 v57 v58 v59 v60 v61 v62 v63 v64 : Value, a' = { tmps := #[.pointer (some ⟨F, 0, none⟩), undef, v2, t3, t4, t5, t6, t7, t8, t9, t10, t11, t12, t13, t14, t15, t16, t17, t18, t19, t20, t21, t22, t23, t24, t25, t26, t27, t28, t29, t30, t31, t32, t33, t34, t35, t36, t37, t38, t39, t40, t41, t42, t43, t44, t45, t46, t47, t48, t49, t50, t51, t52, t53, t54, t55, v56, v57, v58, v59, v60, v61, v62, v63, v64, undef, undef, undef, undef, undef], defers := [] } ∧ RL18 w0 F s (fun j => decide (j = 7) || L j) v2 v56 v57 v58 v59 v60 v61 v62 v63 v64 w') → K a' w') :
    if Region.wanted { dst := some 63, op := Op.call { callee := Callee.value (Operand.func 49), args := #[Operand.tmp 62], argTypes := #[45] }, type := 9, pos := "build.go:117", after := #[{ on := 6, ground := Ground.data }, { on := 2, ground := Ground.chain }], guard := none } (yielded opsL18 ({ tmps := #[.pointer (some ⟨F, 0, none⟩), undef, u2, t3, t4, t5, t6, t7, t8, t9, t10, t11, t12, t13, t14, t15, t16, t17, t18, t19, t20, t21, t22, t23, t24, t25, t26, t27, t28, t29, t30, t31, t32, t33, t34, t35, t36, t37, t38, t39, t40, t41, t42, t43, t44, t45, t46, t47, t48, t49, t50, t51, t52, t53, t54, t55, u56, u57, u58, u59, u60, u61, u62, u63, u64, undef, undef, undef, undef, undef], defers := [] } : Act).tmps) = true then Oper.wp Tryz.prog { dst := some 63, op := Op.call { callee := Callee.value (Operand.func 49), args := #[Operand.tmp 62], argTypes := #[45] }, type := 9, pos := "build.go:117", after := #[{ on := 6, ground := Ground.data }, { on := 2, ground := Ground.chain }], guard := none } { tmps := #[.pointer (some ⟨F, 0, none⟩), undef, u2, t3, t4, t5, t6, t7, t8, t9, t10, t11, t12, t13, t14, t15, t16, t17, t18, t19, t20, t21, t22, t23, t24, t25, t26, t27, t28, t29, t30, t31, t32, t33, t34, t35, t36, t37, t38, t39, t40, t41, t42, t43, t44, t45, t46, t47, t48, t49, t50, t51, t52, t53, t54, t55, u56, u57, u58, u59, u60, u61, u62, u63, u64, undef, undef, undef, undef, undef], defers := [] } W K Q else K (({ tmps := #[.pointer (some ⟨F, 0, none⟩), undef, u2, t3, t4, t5, t6, t7, t8, t9, t10, t11, t12, t13, t14, t15, t16, t17, t18, t19, t20, t21, t22, t23, t24, t25, t26, t27, t28, t29, t30, t31, t32, t33, t34, t35, t36, t37, t38, t39, t40, t41, t42, t43, t44, t45, t46, t47, t48, t49, t50, t51, t52, t53, t54, t55, u56, u57, u58, u59, u60, u61, u62, u63, u64, undef, undef, undef, undef, undef], defers := [] } : Act).put (some 63) undef) W := by
  obtain rfl := h.f6 d6
  refine step_call (by rfl) 49 _ _ (by rfl) _ (by simp [Act.eval]) (entRule _ _) (kRule_any h.fw.self) ?_
  rintro e w7 ⟨t, rfl, ht, k7⟩
  refine ⟨_, rfl, ?_⟩
  have ho7 := k7.off
  exact hK _ _ ⟨_, _, _, _, _, _, _, _, _, _, rfl, ⟨h.fw.back k7, fun e => (h.f0 e).imp fun g hg => ⟨hg.1, hg.2.off ho7⟩, h.f1, h.f2, fun e => (h.f3 e).imp fun g hg => hg.imp fun n hn => ⟨hn.1, hn.2.1, hn.2.2.off ho7⟩, h.f4, h.f5, fun _ => rfl, fun _ => ⟨t, ht, rfl⟩, h.f8, h.f9⟩⟩

set_option maxRecDepth 100000 in
set_option maxHeartbeats 2000000 in
theorem sL18_8 {w0 : World} {F : Nat} {s : ByteArray} {t3 t4 t5 t6 t7 t8 t9 t10 t11 t12 t13 t14 t15 t16 t17 t18 t19 t20 t21 t22 t23 t24 t25 t26 t27 t28 t29 t30 t31 t32 t33 t34 t35 t36 t37 t38 t39 t40 t41 t42 t43 t44 t45 t46 t47 t48 t49 t50 t51 t52 t53 t54 t55 : Value}  {L : Nat → Bool} {u2 u56 u57 u58 u59 u60 u61 u62 u63 u64 : Value} {W : World} {Q : Exit → Act → World → Prop} {K : Act → World → Prop} (_hL : L 8 = false) (d5 : L 5 = true) (d7 : L 7 = true) (h : RL18 w0 F s L u2 u56 u57 u58 u59 u60 u61 u62 u63 u64 W)
    (hK : ∀ a' w', (∃ v2 v56 v57 v58 v59 v60 v61 v62 v63 v64 : Value, a' = { tmps := #[.pointer (some ⟨F, 0, none⟩), undef, v2, t3, t4, t5, t6, t7, t8, t9, t10, t11, t12, t13, t14, t15, t16, t17, t18, t19, t20, t21, t22, t23, t24, t25, t26, t27, t28, t29, t30, t31, t32, t33, t34, t35, t36, t37, t38, t39, t40, t41, t42, t43, t44, t45, t46, t47, t48, t49, t50, t51, t52, t53, t54, t55, v56, v57, v58, v59, v60, v61, v62, v63, v64, undef, undef, undef, undef, undef], defers := [] } ∧ RL18 w0 F s (fun j => decide (j = 8) || L j) v2 v56 v57 v58 v59 v60 v61 v62 v63 v64 w') → K a' w') :
    if Region.wanted { dst := some 64, op := Op.binOp BinOp.add 9 (Operand.tmp 61) (Operand.tmp 63) 9, type := 9, pos := "build.go:117", after := #[{ on := 5, ground := Ground.data }, { on := 7, ground := Ground.data }], guard := none } (yielded opsL18 ({ tmps := #[.pointer (some ⟨F, 0, none⟩), undef, u2, t3, t4, t5, t6, t7, t8, t9, t10, t11, t12, t13, t14, t15, t16, t17, t18, t19, t20, t21, t22, t23, t24, t25, t26, t27, t28, t29, t30, t31, t32, t33, t34, t35, t36, t37, t38, t39, t40, t41, t42, t43, t44, t45, t46, t47, t48, t49, t50, t51, t52, t53, t54, t55, u56, u57, u58, u59, u60, u61, u62, u63, u64, undef, undef, undef, undef, undef], defers := [] } : Act).tmps) = true then Oper.wp Tryz.prog { dst := some 64, op := Op.binOp BinOp.add 9 (Operand.tmp 61) (Operand.tmp 63) 9, type := 9, pos := "build.go:117", after := #[{ on := 5, ground := Ground.data }, { on := 7, ground := Ground.data }], guard := none } { tmps := #[.pointer (some ⟨F, 0, none⟩), undef, u2, t3, t4, t5, t6, t7, t8, t9, t10, t11, t12, t13, t14, t15, t16, t17, t18, t19, t20, t21, t22, t23, t24, t25, t26, t27, t28, t29, t30, t31, t32, t33, t34, t35, t36, t37, t38, t39, t40, t41, t42, t43, t44, t45, t46, t47, t48, t49, t50, t51, t52, t53, t54, t55, u56, u57, u58, u59, u60, u61, u62, u63, u64, undef, undef, undef, undef, undef], defers := [] } W K Q else K (({ tmps := #[.pointer (some ⟨F, 0, none⟩), undef, u2, t3, t4, t5, t6, t7, t8, t9, t10, t11, t12, t13, t14, t15, t16, t17, t18, t19, t20, t21, t22, t23, t24, t25, t26, t27, t28, t29, t30, t31, t32, t33, t34, t35, t36, t37, t38, t39, t40, t41, t42, t43, t44, t45, t46, t47, t48, t49, t50, t51, t52, t53, t54, t55, u56, u57, u58, u59, u60, u61, u62, u63, u64, undef, undef, undef, undef, undef], defers := [] } : Act).put (some 64) undef) W := by
  obtain ⟨z, hz, rfl⟩ := h.f5 d5
  obtain ⟨t, ht, rfl⟩ := h.f7 d7
  have sz : ¬ (9223372036854775807 < 7 + z.size + t.size) := by omega
  go_simp
  exact hK _ _ ⟨_, _, _, _, _, _, _, _, _, _, rfl, ⟨h.fw, h.f0, h.f1, h.f2, h.f3, h.f4, fun _ => ⟨z, hz, rfl⟩, h.f6, fun _ => ⟨t, ht, rfl⟩, fun _ => ⟨z, t, hz, ht, rfl⟩, h.f9⟩⟩

set_option maxRecDepth 100000 in
set_option maxHeartbeats 2000000 in
theorem sL18_9 {w0 : World} {F : Nat} {s : ByteArray} {t3 t4 t5 t6 t7 t8 t9 t10 t11 t12 t13 t14 t15 t16 t17 t18 t19 t20 t21 t22 t23 t24 t25 t26 t27 t28 t29 t30 t31 t32 t33 t34 t35 t36 t37 t38 t39 t40 t41 t42 t43 t44 t45 t46 t47 t48 t49 t50 t51 t52 t53 t54 t55 : Value}  {L : Nat → Bool} {u2 u56 u57 u58 u59 u60 u61 u62 u63 u64 : Value} {W : World} {Q : Exit → Act → World → Prop} {K : Act → World → Prop} (_hL : L 9 = false) (_d0 : L 0 = true) (_d1 : L 1 = true) (_d2 : L 2 = true) (_d3 : L 3 = true) (_d4 : L 4 = true) (_d5 : L 5 = true) (_d6 : L 6 = true) (_d7 : L 7 = true) (d8 : L 8 = true) (h : RL18 w0 F s L u2 u56 u57 u58 u59 u60 u61 u62 u63 u64 W)
    (hK : ∀ a' w', (∃ v2 v56 v57 v58 v59 v60 v61 v62 v63 v64 : Value, a' = { tmps := #[.pointer (some ⟨F, 0, none⟩), undef, v2, t3, t4, t5, t6, t7, t8, t9, t10, t11, t12, t13, t14, t15, t16, t17, t18, t19, t20, t21, t22, t23, t24, t25, t26, t27, t28, t29, t30, t31, t32, t33, t34, t35, t36, t37, t38, t39, t40, t41, t42, t43, t44, t45, t46, t47, t48, t49, t50, t51, t52, t53, t54, t55, v56, v57, v58, v59, v60, v61, v62, v63, v64, undef, undef, undef, undef, undef], defers := [] } ∧ RL18 w0 F s (fun j => decide (j = 9) || L j) v2 v56 v57 v58 v59 v60 v61 v62 v63 v64 w') → K a' w') :
    if Region.wanted { dst := some 2, op := Op.assign (Operand.tmp 64), type := 9, pos := "build.go:117", after := #[{ on := 8, ground := Ground.data }, { on := 7, ground := Ground.chain }, { on := 0, ground := Ground.phase }, { on := 1, ground := Ground.phase }, { on := 2, ground := Ground.phase }, { on := 3, ground := Ground.phase }, { on := 4, ground := Ground.phase }, { on := 5, ground := Ground.phase }, { on := 6, ground := Ground.phase }, { on := 7, ground := Ground.phase }, { on := 8, ground := Ground.phase }], guard := none } (yielded opsL18 ({ tmps := #[.pointer (some ⟨F, 0, none⟩), undef, u2, t3, t4, t5, t6, t7, t8, t9, t10, t11, t12, t13, t14, t15, t16, t17, t18, t19, t20, t21, t22, t23, t24, t25, t26, t27, t28, t29, t30, t31, t32, t33, t34, t35, t36, t37, t38, t39, t40, t41, t42, t43, t44, t45, t46, t47, t48, t49, t50, t51, t52, t53, t54, t55, u56, u57, u58, u59, u60, u61, u62, u63, u64, undef, undef, undef, undef, undef], defers := [] } : Act).tmps) = true then Oper.wp Tryz.prog { dst := some 2, op := Op.assign (Operand.tmp 64), type := 9, pos := "build.go:117", after := #[{ on := 8, ground := Ground.data }, { on := 7, ground := Ground.chain }, { on := 0, ground := Ground.phase }, { on := 1, ground := Ground.phase }, { on := 2, ground := Ground.phase }, { on := 3, ground := Ground.phase }, { on := 4, ground := Ground.phase }, { on := 5, ground := Ground.phase }, { on := 6, ground := Ground.phase }, { on := 7, ground := Ground.phase }, { on := 8, ground := Ground.phase }], guard := none } { tmps := #[.pointer (some ⟨F, 0, none⟩), undef, u2, t3, t4, t5, t6, t7, t8, t9, t10, t11, t12, t13, t14, t15, t16, t17, t18, t19, t20, t21, t22, t23, t24, t25, t26, t27, t28, t29, t30, t31, t32, t33, t34, t35, t36, t37, t38, t39, t40, t41, t42, t43, t44, t45, t46, t47, t48, t49, t50, t51, t52, t53, t54, t55, u56, u57, u58, u59, u60, u61, u62, u63, u64, undef, undef, undef, undef, undef], defers := [] } W K Q else K (({ tmps := #[.pointer (some ⟨F, 0, none⟩), undef, u2, t3, t4, t5, t6, t7, t8, t9, t10, t11, t12, t13, t14, t15, t16, t17, t18, t19, t20, t21, t22, t23, t24, t25, t26, t27, t28, t29, t30, t31, t32, t33, t34, t35, t36, t37, t38, t39, t40, t41, t42, t43, t44, t45, t46, t47, t48, t49, t50, t51, t52, t53, t54, t55, u56, u57, u58, u59, u60, u61, u62, u63, u64, undef, undef, undef, undef, undef], defers := [] } : Act).put (some 2) undef) W := by
  obtain ⟨z, t, hz, ht, rfl⟩ := h.f8 d8
  go_simp
  exact hK _ _ ⟨_, _, _, _, _, _, _, _, _, _, rfl, ⟨h.fw, h.f0, h.f1, h.f2, h.f3, h.f4, h.f5, h.f6, h.f7, fun _ => ⟨z, t, hz, ht, rfl⟩, fun _ => ⟨z, t, hz, ht, rfl⟩⟩⟩

set_option maxRecDepth 100000 in
set_option maxHeartbeats 4000000 in
theorem line18 {w0 : World} {F : Nat} {s : ByteArray} {t3 t4 t5 t6 t7 t8 t9 t10 t11 t12 t13 t14 t15 t16 t17 t18 t19 t20 t21 t22 t23 t24 t25 t26 t27 t28 t29 t30 t31 t32 t33 t34 t35 t36 t37 t38 t39 t40 t41 t42 t43 t44 t45 t46 t47 t48 t49 t50 t51 t52 t53 t54 t55 : Value} {Q : Exit → Act → World → Prop} {Y : World} (hY : FW w0 F s Y) (KK : ∀ (u56 u57 u58 u59 u60 u61 u62 u63 u64 : Value) (z t : ByteArray) (W : World), z.size ≤ 4 → t.size ≤ 120 → FW w0 F s W → Q .normal { tmps := #[.pointer (some ⟨F, 0, none⟩), undef, (.string (((⟨#[115, 101, 114, 105, 101, 115, 32]⟩ : ByteArray) ++ z) ++ t)), t3, t4, t5, t6, t7, t8, t9, t10, t11, t12, t13, t14, t15, t16, t17, t18, t19, t20, t21, t22, t23, t24, t25, t26, t27, t28, t29, t30, t31, t32, t33, t34, t35, t36, t37, t38, t39, t40, t41, t42, t43, t44, t45, t46, t47, t48, t49, t50, t51, t52, t53, t54, t55, u56, u57, u58, u59, u60, u61, u62, u63, u64, undef, undef, undef, undef, undef], defers := [] } W) :
    (Code.region 18 opsL18 true).wp Tryz.prog Q { tmps := #[.pointer (some ⟨F, 0, none⟩), undef, .string ⟨#[]⟩, t3, t4, t5, t6, t7, t8, t9, t10, t11, t12, t13, t14, t15, t16, t17, t18, t19, t20, t21, t22, t23, t24, t25, t26, t27, t28, t29, t30, t31, t32, t33, t34, t35, t36, t37, t38, t39, t40, t41, t42, t43, t44, t45, t46, t47, t48, t49, t50, t51, t52, t53, t54, t55, undef, undef, undef, undef, undef, undef, undef, undef, undef, undef, undef, undef, undef, undef], defers := [] } Y := by
  refine wp_region_inv (by kernel_rfl) ?ord (fun L a W => ∃ u2 u56 u57 u58 u59 u60 u61 u62 u63 u64 : Value, a = { tmps := #[.pointer (some ⟨F, 0, none⟩), undef, u2, t3, t4, t5, t6, t7, t8, t9, t10, t11, t12, t13, t14, t15, t16, t17, t18, t19, t20, t21, t22, t23, t24, t25, t26, t27, t28, t29, t30, t31, t32, t33, t34, t35, t36, t37, t38, t39, t40, t41, t42, t43, t44, t45, t46, t47, t48, t49, t50, t51, t52, t53, t54, t55, u56, u57, u58, u59, u60, u61, u62, u63, u64, undef, undef, undef, undef, undef], defers := [] } ∧ RL18 w0 F s L u2 u56 u57 u58 u59 u60 u61 u62 u63 u64 W) ?start ?step ?done
  case ord =>
    have hall : ((List.range 10).all fun j => match opsL18[j]? with | some o => (o.after.all fun e => !Region.binds .any e || decide (e.on < j)) | none => true) = true := by decide +kernel
    intro j o ho
    have hj : j < 10 := (Array.getElem?_eq_some_iff.1 ho).1
    have := List.all_eq_true.1 hall j (List.mem_range.2 hj)
    rw [ho] at this
    exact this
  case start =>
    exact ⟨_, _, _, _, _, _, _, _, _, _, rfl, ⟨hY.drew, fun e => (nomatch e), fun e => (nomatch e), fun e => (nomatch e), fun e => (nomatch e), fun e => (nomatch e), fun e => (nomatch e), fun e => (nomatch e), fun e => (nomatch e), fun e => (nomatch e), fun e => (nomatch e)⟩⟩
  case done =>
    rintro L a W hall ⟨u2, u56, u57, u58, u59, u60, u61, u62, u63, u64, rfl, h⟩
    obtain ⟨z, t, hz, ht, rfl⟩ := h.f9 (hall 9 (by decide))
    exact KK u56 u57 u58 u59 u60 u61 u62 u63 u64 z t W hz ht h.fw
  case step =>
    rintro L a W j o _ ⟨u2, u56, u57, u58, u59, u60, u61, u62, u63, u64, rfl, h⟩ ho hL hd K hK
    have hj : j < 10 := (Array.getElem?_eq_some_iff.1 ho).1
    match j, hj, ho, hL, hd, hK with
    | 0, _, ho, hL, hd, hK =>
      obtain rfl : { dst := some 56, op := Op.buildSlice 26 2 #[(0, Operand.const (Value.string { data := #[97, 32, 49, 32] })), (1, Operand.const (Value.string { data := #[98, 32, 50, 32] }))], type := 26, pos := "build.go:117", after := #[], guard := none } = o := Option.some.inj ho
      exact sL18_0  hL h hK
    | 1, _, ho, hL, hd, hK =>
      obtain rfl : { dst := some 57, op := Op.move (Operand.tmp 0), type := 45, pos := "build.go:117", after := #[], guard := none } = o := Option.some.inj ho
      exact sL18_1  hL h hK
    | 2, _, ho, hL, hd, hK =>
      obtain rfl : { dst := some 58, op := Op.call { callee := Callee.value (Operand.func 25), args := #[Operand.tmp 57, Operand.const (Value.int IntKind.i64 2)], argTypes := #[45, 3] }, type := 3, pos := "build.go:117", after := #[{ on := 1, ground := Ground.data }], guard := none } = o := Option.some.inj ho
      have dd_ : L 1 = true := by simpa [Region.binds] using hd
      exact sL18_2  hL dd_ h hK
    | 3, _, ho, hL, hd, hK =>
      obtain rfl : { dst := some 59, op := Op.indexAddr 26 (Operand.tmp 56) (Operand.tmp 58), type := 0, pos := "build.go:117", after := #[{ on := 0, ground := Ground.data }, { on := 2, ground := Ground.data }], guard := none } = o := Option.some.inj ho
      have dd_ : L 0 = true ∧ L 2 = true := by simpa [Region.binds] using hd
      exact sL18_3  hL dd_.1 dd_.2 h hK
    | 4, _, ho, hL, hd, hK =>
      obtain rfl : { dst := some 60, op := Op.load 9 (Operand.tmp 59), type := 9, pos := "build.go:117", after := #[{ on := 3, ground := Ground.data }], guard := none } = o := Option.some.inj ho
      have dd_ : L 3 = true := by simpa [Region.binds] using hd
      exact sL18_4  hL dd_ h hK
    | 5, _, ho, hL, hd, hK =>
      obtain rfl : { dst := some 61, op := Op.binOp BinOp.add 9 (Operand.const (Value.string { data := #[115, 101, 114, 105, 101, 115, 32] })) (Operand.tmp 60) 9, type := 9, pos := "build.go:117", after := #[{ on := 4, ground := Ground.data }], guard := none } = o := Option.some.inj ho
      have dd_ : L 4 = true := by simpa [Region.binds] using hd
      exact sL18_5  hL dd_ h hK
    | 6, _, ho, hL, hd, hK =>
      obtain rfl : { dst := some 62, op := Op.move (Operand.tmp 0), type := 45, pos := "build.go:117", after := #[], guard := none } = o := Option.some.inj ho
      exact sL18_6  hL h hK
    | 7, _, ho, hL, hd, hK =>
      obtain rfl : { dst := some 63, op := Op.call { callee := Callee.value (Operand.func 49), args := #[Operand.tmp 62], argTypes := #[45] }, type := 9, pos := "build.go:117", after := #[{ on := 6, ground := Ground.data }, { on := 2, ground := Ground.chain }], guard := none } = o := Option.some.inj ho
      have dd_ : L 6 = true ∧ L 2 = true := by simpa [Region.binds] using hd
      exact sL18_7  hL dd_.2 dd_.1 h hK
    | 8, _, ho, hL, hd, hK =>
      obtain rfl : { dst := some 64, op := Op.binOp BinOp.add 9 (Operand.tmp 61) (Operand.tmp 63) 9, type := 9, pos := "build.go:117", after := #[{ on := 5, ground := Ground.data }, { on := 7, ground := Ground.data }], guard := none } = o := Option.some.inj ho
      have dd_ : L 5 = true ∧ L 7 = true := by simpa [Region.binds] using hd
      exact sL18_8  hL dd_.1 dd_.2 h hK
    | 9, _, ho, hL, hd, hK =>
      obtain rfl : { dst := some 2, op := Op.assign (Operand.tmp 64), type := 9, pos := "build.go:117", after := #[{ on := 8, ground := Ground.data }, { on := 7, ground := Ground.chain }, { on := 0, ground := Ground.phase }, { on := 1, ground := Ground.phase }, { on := 2, ground := Ground.phase }, { on := 3, ground := Ground.phase }, { on := 4, ground := Ground.phase }, { on := 5, ground := Ground.phase }, { on := 6, ground := Ground.phase }, { on := 7, ground := Ground.phase }, { on := 8, ground := Ground.phase }], guard := none } = o := Option.some.inj ho
      have dd_ : L 0 = true ∧ L 1 = true ∧ L 2 = true ∧ L 3 = true ∧ L 4 = true ∧ L 5 = true ∧ L 6 = true ∧ L 7 = true ∧ L 8 = true := by
        simp [Region.binds] at hd
        simp [hd]
      exact sL18_9  hL dd_.1 dd_.2.1 dd_.2.2.1 dd_.2.2.2.1 dd_.2.2.2.2.1 dd_.2.2.2.2.2.1 dd_.2.2.2.2.2.2.1 dd_.2.2.2.2.2.2.2.1 dd_.2.2.2.2.2.2.2.2 h hK
    | n + 10, hj, _, _, _, _ => exact absurd hj (by omega)

end Go.Proofs.YtjfkfiffakbagaaGreatDoor

