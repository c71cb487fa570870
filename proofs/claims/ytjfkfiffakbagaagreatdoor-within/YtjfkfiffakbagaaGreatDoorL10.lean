/-
  Parts of the proof, one behind the other: DeskStep, DeskMem, DeskMaps, DeskSettle, DelFunc.
-/
import Derived.Test.YtjfkfiffakbagaaGreatDoorL09
import Derived.LaidEqlPtr
import Derived.Lib.SliceRun
/-
  What a step on the desk changes; take and release on a thing of the desk.
-/
namespace Go.Proofs.YtjfkfiffakbagaaGreatDoor
open Go.RowKit

/-- Of the blocks that were there only such have changed as have one of these colours, or none and stand from B on; what has a colour keeps it; what has a new one stands from B on. -/
structure Step (S : Col → Prop) (B : Nat) (col col' : Nat → Option Col) (w w' : World) : Prop where
  off : ∃ G, Off G w w' ∧ ∀ x ∈ G, (∃ c, col x = some c ∧ S c) ∨ (col x = none ∧ B ≤ x)
  keep : ∀ k c, col k = some c → col' k = some c
  new : ∀ k c, col' k = some c → col k = some c ∨ B ≤ k
theorem Step.refl (S : Col → Prop) (B : Nat) (col : Nat → Option Col) (w : World) : Step S B col col w w := ⟨⟨[], Off.refl _ _, by simp⟩, fun _ _ h => h, fun _ _ h => .inl h⟩
theorem Step.below {S : Col → Prop} {B : Nat} {col : Nat → Option Col} {w w' : World} (h : Below w.heap.size w w') : Step S B col col w w' := ⟨⟨[], Off.of_below h, by simp⟩, fun _ _ h => h, fun _ _ h => .inl h⟩
theorem Step.size {S : Col → Prop} {B : Nat} {col col' : Nat → Option Col} {w w' : World} (h : Step S B col col' w w') : w.heap.size ≤ w'.heap.size := by obtain ⟨G, h1, _⟩ := h.off; exact h1.size
theorem Step.mono {S S' : Col → Prop} {B B' : Nat} {col col' : Nat → Option Col} {w w' : World} (h : Step S B col col' w w') (hs : ∀ c, S c → S' c) (hB : B' ≤ B) : Step S' B' col col' w w' := by
  obtain ⟨G, h1, h2⟩ := h.off
  refine ⟨⟨G, h1, fun x hx => ?_⟩, h.keep, fun k c hk => (h.new k c hk).imp id (fun e => by omega)⟩
  rcases h2 x hx with ⟨c, a, b⟩ | ⟨a, b⟩
  · exact .inl ⟨c, a, hs c b⟩
  · exact .inr ⟨a, by omega⟩
theorem Step.trans {S : Col → Prop} {B : Nat} {c0 c1 c2 : Nat → Option Col} {a b c : World} (h : Step S B c0 c1 a b) (k : Step S B c1 c2 b c) : Step S B c0 c2 a c := by
  obtain ⟨G, h1, h2⟩ := h.off
  obtain ⟨K, k1, k2⟩ := k.off
  refine ⟨⟨G ++ K, ?_, fun x hx => ?_⟩, fun x c hx => k.keep x c (h.keep x c hx), fun x c hx => ?_⟩
  · exact (h1.mono (fun x hx => by simp [hx])).trans' k1 (fun x hx => .inl (by simp [hx]))
  · rcases List.mem_append.1 hx with hx | hx
    · exact h2 x hx
    · rcases k2 x hx with ⟨c, e1, e2⟩ | ⟨e1, e2⟩
      · rcases h.new x c e1 with e | e
        · exact .inl ⟨c, e, e2⟩
        · cases h0 : c0 x with
          | none => exact .inr ⟨rfl, e⟩
          | some c' =>
            have := h.keep x c' h0
            rw [e1] at this
            cases this
            exact .inl ⟨c, rfl, e2⟩
      · cases h0 : c0 x with
        | none => exact .inr ⟨rfl, e2⟩
        | some c' => rw [h.keep x c' h0] at e1; cases e1
  · rcases k.new x c hx with e | e
    · exact h.new x c e
    · exact .inr e
/-- A block of another colour is as it was. -/
theorem Step.blockC {S : Col → Prop} {B : Nat} {col col' : Nat → Option Col} {w w' : World} (h : Step S B col col' w w') {b : Nat} {c : Col} (hb : b < w.heap.size) (hc : col b = some c) (hs : ¬ S c) : w'.heap[b]? = w.heap[b]? := by
  obtain ⟨G, h1, h2⟩ := h.off
  refine h1.block b hb (fun hx => ?_)
  rcases h2 b hx with ⟨c', e1, e2⟩ | ⟨e1, _⟩
  · rw [hc] at e1; cases e1; exact hs e2
  · rw [hc] at e1; cases e1
/-- A block of no colour, ahead of B, is as it was. -/
theorem Step.blockN {S : Col → Prop} {B : Nat} {col col' : Nat → Option Col} {w w' : World} (h : Step S B col col' w w') {b : Nat} (hb : b < w.heap.size) (hc : col b = none) (hB : b < B) : w'.heap[b]? = w.heap[b]? := by
  obtain ⟨G, h1, h2⟩ := h.off
  refine h1.block b hb (fun hx => ?_)
  rcases h2 b hx with ⟨c', e1, e2⟩ | ⟨_, e⟩
  · rw [hc] at e1; cases e1
  · omega
theorem Step.cellC {S : Col → Prop} {B : Nat} {col col' : Nat → Option Col} {w w' : World} (h : Step S B col col' w w') {b o : Nat} {c : Col} {v : Value} (hc : col b = some c) (hs : ¬ S c) (h0 : w.cell? ⟨b, o, none⟩ = some v) : w'.cell? ⟨b, o, none⟩ = some v :=
  (World.cell?_of_block (w := w) (h.blockC (World.block_lt_of_cell? _ _ h0) hc hs)).trans h0
/-- Does a step leave this block? -/
def Left (S : Col → Prop) (B : Nat) (col : Nat → Option Col) (b : Nat) : Prop := (∃ c, col b = some c ∧ ¬ S c) ∨ (col b = none ∧ b < B)
theorem Step.left {S : Col → Prop} {B : Nat} {col col' : Nat → Option Col} {w w' : World} (h : Step S B col col' w w') : ∃ G, Off G w w' ∧ ∀ b, Left S B col b → b ∉ G := by
  obtain ⟨G, h1, h2⟩ := h.off
  refine ⟨G, h1, fun b hl hx => ?_⟩
  rcases h2 b hx with ⟨c', e1, e2⟩ | ⟨e1, e2⟩ <;> rcases hl with ⟨c, e3, e4⟩ | ⟨e3, e4⟩
  · rw [e1] at e3; cases e3; exact e4 e2
  · rw [e1] at e3; cases e3
  · rw [e1] at e3; cases e3
  · omega
theorem Step.enk {S : Col → Prop} {B : Nat} {col col' : Nat → Option Col} {w w' : World} {g : EG} (h : Step S B col col' w w') (hg : ENK w g) (h1 : Left S B col g.eb) (h2 : Left S B col g.B) : ENK w' g := by
  obtain ⟨G, a1, a2⟩ := h.left
  exact hg.off a1 (a2 _ h1) (a2 _ h2)

/-- A colouring in which some blocks that had no colour are of one. -/
noncomputable def paint (col : Nat → Option Col) (F : List Nat) (c : Col) (k : Nat) : Option Col :=
  match col k with
  | some c' => some c'
  | none => @ite _ (k ∈ F) (Classical.propDecidable _) (some c) none
theorem paint_old {col : Nat → Option Col} {F : List Nat} {c c' : Col} {k : Nat} (h : col k = some c') : paint col F c k = some c' := by unfold paint; rw [h]
theorem paint_in {col : Nat → Option Col} {F : List Nat} {c : Col} {k : Nat} (h : k ∈ F) (hk : ∀ c', col k = some c' → c' = c) : paint col F c k = some c := by
  unfold paint
  cases e : col k with
  | none => simp only; rw [if_pos h]
  | some c' => simp only; rw [hk c' e]
theorem paint_some {col : Nat → Option Col} {F : List Nat} {c c' : Col} {k : Nat} (h : paint col F c k = some c') : col k = some c' ∨ (col k = none ∧ k ∈ F ∧ c = c') := by
  unfold paint at h
  cases e : col k with
  | none =>
    rw [e] at h
    simp only at h
    by_cases hf : k ∈ F
    · rw [if_pos hf] at h; cases h; exact .inr ⟨rfl, hf, rfl⟩
    · rw [if_neg hf] at h; cases h
  | some c2 => rw [e] at h; exact .inl h
theorem paint_step {S : Col → Prop} {B : Nat} {col : Nat → Option Col} {w w' : World} {F G : List Nat} {c : Col} (k : Off G w w') (hG : ∀ x ∈ G, (∃ c, col x = some c ∧ S c) ∨ (col x = none ∧ B ≤ x)) (hF : ∀ x ∈ F, col x = none → B ≤ x) : Step S B col (paint col F c) w w' :=
  ⟨⟨G, k, hG⟩, fun _ _ h => paint_old h, fun k c hk => by rcases paint_some hk with e | ⟨e1, e2, e3⟩; exact .inl e; exact .inr (hF k e2 e1)⟩

def TG.with (t : TG) (A : List Bool → Int) (T : Avl.S) : TG := { t with A := A, T := T }
def Raw.setT (r : Raw) (i : Nat) (t : TG) : Raw := { r with tg := r.tg.set i t }
theorem thAt_set {tg : List TG} {i : Nat} (hi : i < tg.length) (A : List Bool → Int) (T : Avl.S) (name : ByteArray) : thAt (tg.set i (tg[i].with A T)) name = thAt tg name := by
  unfold thAt
  have e : (tg.set i (tg[i].with A T)).map (fun t => (t.name, t.tb)) = tg.map fun t => (t.name, t.tb) := by
    rw [List.map_set]
    have : ((tg[i].with A T).name, (tg[i].with A T).tb) = (tg.map fun t => (t.name, t.tb))[i]'(by simpa using hi) := by simp [TG.with]
    rw [this, List.set_getElem_self]
  rw [e]

/-- All but the heap, those who wait, the entries and the things, under a step that leaves them. -/
theorem DK.base {S : Col → Prop} {B : Nat} {w w' : World} {d : Nat} {r : Raw} {col col' : Nat → Option Col} (h : DK w d r col) (st : Step S B col col' w w') (hd : ¬ S .desk) :
    w'.cell? ⟨d, 0, none⟩ = some (.int .i64 r.now) ∧ w'.cell? ⟨d, 1, none⟩ = some (.int .i64 r.given) ∧ (∀ o, w'.frozen? ⟨d, o, none⟩ = false) ∧ col' d = some .desk ∧ ∀ o, w'.cell? ⟨d, o, none⟩ = w.cell? ⟨d, o, none⟩ := by
  have hb := st.blockC (h.lt d _ h.dc) h.dc hd
  exact ⟨st.cellC h.dc hd h.c0, st.cellC h.dc hd h.c1, fun o => (World.frozen?_of_block (w := w) hb).trans (h.fz o), st.keep d _ h.dc, fun o => World.cell?_of_block hb⟩
theorem DK.mtC {S : Col → Prop} {B : Nat} {w w' : World} {d : Nat} {r : Raw} {col col' : Nat → Option Col} (h : DK w d r col) (st : Step S B col col' w w') (hc : w'.cell? ⟨d, 2, none⟩ = w.cell? ⟨d, 2, none⟩) (hm : ¬ S .mt) :
    ∃ m f, w'.cell? ⟨d, 2, none⟩ = some (.map (some m)) ∧ col' m = some .mt ∧ PMap Tryz.prog 9 w' m r.tg.length f r.tg.length ∧ ∀ name, f (litS name) = thAt r.tg name := by
  obtain ⟨m, f, a1, a2, a3, a4⟩ := h.mt
  exact ⟨m, f, hc.trans a1, st.keep m _ a2, a3.block (st.blockC (h.lt m _ a2) a2 hm), a4⟩
theorem DK.meC {S : Col → Prop} {B : Nat} {w w' : World} {d : Nat} {r : Raw} {col col' : Nat → Option Col} (h : DK w d r col) (st : Step S B col col' w w') (hc : w'.cell? ⟨d, 3, none⟩ = w.cell? ⟨d, 3, none⟩) (hm : ¬ S .me) :
    ∃ m f, w'.cell? ⟨d, 3, none⟩ = some (.map (some m)) ∧ col' m = some .me ∧ PMap Tryz.prog 3 w' m r.eg.length f r.eg.length ∧ ∀ id, f (litI id) = enAt r.eg id := by
  obtain ⟨m, f, a1, a2, a3, a4⟩ := h.me
  exact ⟨m, f, hc.trans a1, st.keep m _ a2, a3.block (st.blockC (h.lt m _ a2) a2 hm), a4⟩
theorem DK.waC {S : Col → Prop} {B : Nat} {w w' : World} {d : Nat} {r : Raw} {col col' : Nat → Option Col} (h : DK w d r col) (st : Step S B col col' w w') (hc : w'.cell? ⟨d, 4, none⟩ = w.cell? ⟨d, 4, none⟩) (hm : ¬ S .wa) :
    ∃ v, w'.cell? ⟨d, 4, none⟩ = some v ∧ w'.ownsRow 0 191 1 v r.wl.length (r.wl.map ptrB) ∧ ∀ b, v.ownBlock = some b → col' b = some .wa := by
  obtain ⟨v, a1, a2, a3⟩ := h.wa
  obtain ⟨G, k, hG⟩ := st.left
  exact ⟨v, hc.trans a1, ownOff a2 k (fun b hb => hG b (.inl ⟨_, a3 b hb, hm⟩)), fun b hb => st.keep b _ (a3 b hb)⟩
theorem DK.heC {S : Col → Prop} {B : Nat} {w w' : World} {d : Nat} {r : Raw} {col col' : Nat → Option Col} (h : DK w d r col) (st : Step S B col col' w w') (hc : w'.cell? ⟨d, 5, none⟩ = w.cell? ⟨d, 5, none⟩) (hf : w'.frozen? ⟨d, 5, none⟩ = false) (hm : ¬ S .he) :
    ∃ v, HP w' d 5 v r.hl ∧ ∀ b, v.ownBlock = some b → col' b = some .he := by
  obtain ⟨v, a1, a2⟩ := h.he
  obtain ⟨G, k, hG⟩ := st.left
  exact ⟨v, ⟨hc.trans a1.c, ownOff a1.own k (fun b hb => hG b (.inl ⟨_, a2 b hb, hm⟩)), a1.ne, hf⟩, fun b hb => st.keep b _ (a2 b hb)⟩
theorem DK.thS {S : Col → Prop} {B : Nat} {w w' : World} {d : Nat} {r : Raw} {col col' : Nat → Option Col} (h : DK w d r col) (st : Step S B col col' w w') (i : Nat) (hi : i < r.tg.length) (hm : ¬ S (.thing i)) :
    ∃ ul us Fl Fs, TH w' r.tg[i].tb r.tg[i].name r.tg[i].units r.tg[i].A r.tg[i].T ul us Fl Fs ∧ ∀ k ∈ r.tg[i].tb :: (Fl ++ Fs), col' k = some (.thing i) := by
  obtain ⟨ul, us, Fl, Fs, a1, a2⟩ := h.th i hi
  obtain ⟨G, k, hG⟩ := st.left
  exact ⟨ul, us, Fl, Fs, a1.off k (fun b hb => hG b (.inl ⟨_, a2 b hb, hm⟩)), fun b hb => st.keep b _ (a2 b hb)⟩
theorem DK.enS {S : Col → Prop} {B : Nat} {w w' : World} {d : Nat} {r : Raw} {col col' : Nat → Option Col} (h : DK w d r col) (st : Step S B col col' w w') (he : ¬ S .ent) (hs : ¬ S .span) :
    ∀ g ∈ r.eg, ENK w' g ∧ col' g.eb = some .ent ∧ col' g.B = some .span := by
  intro g hg
  obtain ⟨a1, a2, a3⟩ := h.en g hg
  exact ⟨st.enk a1 (.inl ⟨_, a2, he⟩) (.inl ⟨_, a3, hs⟩), st.keep _ _ a2, st.keep _ _ a3⟩

/-- A thing of the desk has been turned. -/
theorem DK.thing {w w' : World} {d : Nat} {r : Raw} {col : Nat → Option Col} (h : DK w d r col) (i : Nat) (hi : i < r.tg.length) {F : List Nat} (hF : ∀ k ∈ r.tg[i].tb :: F, col k = some (.thing i)) {A : List Bool → Int} {T : Avl.S} (n : Now w w' r.tg[i].tb r.tg[i].name r.tg[i].units A T F) :
    ∃ col', DK w' d (r.setT i (r.tg[i].with A T)) col' ∧ Step (· = .thing i) w.heap.size col col' w w' := by
  obtain ⟨ul, us, Fl, Fs, t1, t2⟩ := n.th
  have hold : ∀ k, w.heap.size ≤ k → col k = none := fun k hk => by
    cases e : col k with
    | none => rfl
    | some c => have := h.lt k c e; omega
  have hFF : ∀ k ∈ Fl ++ Fs, col k = some (.thing i) ∨ (col k = none ∧ w.heap.size ≤ k) := fun k hk => by
    rcases t2 k hk with e | e
    · exact .inl (hF k (by simp [e]))
    · exact .inr ⟨hold k e, e⟩
  have st : Step (· = .thing i) w.heap.size col (paint col (Fl ++ Fs) (.thing i)) w w' := paint_step n.off (fun x hx => .inl ⟨_, hF x hx, rfl⟩) (fun x hx e => by
    rcases hFF x hx with e2 | e2
    · rw [e] at e2; cases e2
    · exact e2.2)
  refine ⟨_, ?_, st⟩
  obtain ⟨b1, b2, b3, b4, b5⟩ := h.base st (by simp)
  refine ⟨b1, b2, ?_, h.meC st (b5 3) (by simp), h.waC st (b5 4) (by simp), h.heC st (b5 5) (b3 5) (by simp), ?_, h.enS st (by simp) (by simp), h.nd, h.ni, b3, b4, ?_⟩
  · obtain ⟨m, f, a1, a2, a3, a4⟩ := h.mtC st (b5 2) (by simp)
    have e : (r.setT i (r.tg[i].with A T)).tg.length = r.tg.length := by simp [Raw.setT]
    exact ⟨m, f, a1, a2, by rw [e]; exact a3, fun name => by rw [a4]; exact (thAt_set hi A T name).symm⟩
  · intro j hj
    have hj' : j < r.tg.length := by simpa [Raw.setT] using hj
    by_cases e : j = i
    · subst e
      have e2 : (r.setT j (r.tg[j].with A T)).tg[j] = r.tg[j].with A T := by simp [Raw.setT]
      rw [e2]
      refine ⟨ul, us, Fl, Fs, t1, fun k hk => ?_⟩
      rcases List.mem_cons.1 hk with rfl | hk
      · exact paint_old (hF r.tg[j].tb List.mem_cons_self)
      · refine paint_in hk (fun c' hc => ?_)
        rcases hFF k hk with e | e
        · rw [hc] at e; cases e; rfl
        · rw [hc] at e; cases e.1
    · have e2 : (r.setT i (r.tg[i].with A T)).tg[j] = r.tg[j] := by simp [Raw.setT, Ne.symm e]
      rw [e2]
      exact h.thS st j hj' (by simpa using e)
  · intro k c hk
    rcases paint_some hk with h1 | ⟨h1, h2, h3⟩
    · exact Nat.lt_of_lt_of_le (h.lt k c h1) st.size
    · exact t1.lt k (by simp only [List.mem_cons]; exact .inr h2)

/-- What take and release ask of a thing and an entry. -/
structure Fit (t : TG) (e : Desk.Ent) : Prop where
  ok : SpOk e.spans
  bd : ∀ p, 0 ≤ t.A p ∧ t.A p ≤ 400000
  u1 : 1 ≤ e.units
  u2 : e.units ≤ 9
  ll : e.spans.length ≤ 100

theorem DK.pair {w : World} {d : Nat} {r : Raw} {col : Nat → Option Col} (h : DK w d r col) (i : Nat) (hi : i < r.tg.length) {g : EG} (hg : ENK w g) (ht : g.tb = r.tg[i].tb) (h1 : col g.eb ≠ some (.thing i)) (h2 : col g.B ≠ some (.thing i)) (hf : Fit r.tg[i] g.e) :
    ∃ F, Pair w r.tg[i].tb g.eb g.B g.cap r.tg[i].name r.tg[i].units r.tg[i].A r.tg[i].T F g.e.id g.e.units g.e.spans ∧ ∀ k ∈ r.tg[i].tb :: F, col k = some (.thing i) := by
  obtain ⟨ul, us, Fl, Fs, a1, a2⟩ := h.th i hi
  refine ⟨Fl ++ Fs, ⟨⟨ul, us, Fl, Fs, a1, fun k hk => hk⟩, by rw [← ht]; exact hg.en, fun hx => h1 (a2 _ hx), fun hx => h2 (a2 _ hx), hf.ok, hf.bd, hf.u1, hf.u2, hf.ll⟩, a2⟩

/-- The call of take on a thing of the desk. -/
theorem dtake_no {w : World} {d : Nat} {r : Raw} {col : Nat → Option Col} (h : DK w d r col) (i : Nat) (hi : i < r.tg.length) {g : EG} (hg : ENK w g) (ht : g.tb = r.tg[i].tb) (h1 : col g.eb ≠ some (.thing i)) (h2 : col g.B ≠ some (.thing i)) (hf : Fit r.tg[i] g.e) (hno : holdsB (addL r.tg[i].A g.e.spans g.e.units) r.tg[i].units g.e.spans = false) :
    Calls Tryz.prog 104 #[.pointer (some ⟨g.tb, 0, none⟩), .pointer (some ⟨g.eb, 0, none⟩)] w fun e w' => e = .returned (.bool false) ∧ ∃ col', DK w' d r col' ∧ Step (· = .thing i) w.heap.size col col' w w' := by
  obtain ⟨F, p, hF⟩ := h.pair i hi hg ht h1 h2 hf
  rw [ht]
  refine (take_no w _ _ _ _ _ _ _ _ F _ _ _ p hno).mono ?_
  rintro e w' ⟨rfl, n⟩
  obtain ⟨col', k1, k2⟩ := h.thing i hi hF n
  refine ⟨rfl, col', ?_, k2⟩
  have e : r.setT i (r.tg[i].with r.tg[i].A r.tg[i].T) = r := by
    have e1 : r.tg[i].with r.tg[i].A r.tg[i].T = r.tg[i] := rfl
    unfold Raw.setT
    rw [e1, List.set_getElem_self]
  rw [e] at k1
  exact k1
theorem dtake_yes {w : World} {d : Nat} {r : Raw} {col : Nat → Option Col} (h : DK w d r col) (i : Nat) (hi : i < r.tg.length) {g : EG} (hg : ENK w g) (ht : g.tb = r.tg[i].tb) (h1 : col g.eb ≠ some (.thing i)) (h2 : col g.B ≠ some (.thing i)) (hf : Fit r.tg[i] g.e) (hr : Room0 r.tg[i].T g.e.id g.e.spans) (hyes : holdsB (addL r.tg[i].A g.e.spans g.e.units) r.tg[i].units g.e.spans = true) :
    Calls Tryz.prog 104 #[.pointer (some ⟨g.tb, 0, none⟩), .pointer (some ⟨g.eb, 0, none⟩)] w fun e w' => e = .returned (.bool true) ∧ ∃ col', DK w' d (r.setT i (r.tg[i].with (addL r.tg[i].A g.e.spans g.e.units) (putL g.e.id g.eb r.tg[i].T g.e.spans))) col' ∧ Step (· = .thing i) w.heap.size col col' w w' := by
  obtain ⟨F, p, hF⟩ := h.pair i hi hg ht h1 h2 hf
  rw [ht]
  refine (take_yes w _ _ _ _ _ _ _ _ F _ _ _ p hr hyes).mono ?_
  rintro e w' ⟨rfl, n⟩
  exact ⟨rfl, h.thing i hi hF n⟩
theorem drelease_any {w : World} {d : Nat} {r : Raw} {col : Nat → Option Col} (h : DK w d r col) (i : Nat) (hi : i < r.tg.length) {g : EG} (hg : ENK w g) (ht : g.tb = r.tg[i].tb) (h1 : col g.eb ≠ some (.thing i)) (h2 : col g.B ≠ some (.thing i)) (hf : Fit r.tg[i] g.e) (ho : Avl.Ord (Avl.inord r.tg[i].T)) (hz : Avl.size r.tg[i].T ≤ 9000) (hA : ∀ p, 0 ≤ addL r.tg[i].A g.e.spans (-g.e.units) p) :
    Calls Tryz.prog 197 #[.pointer (some ⟨g.tb, 0, none⟩), .pointer (some ⟨g.eb, 0, none⟩)] w fun e w' => e = .returned (.tuple #[]) ∧ ∃ col', DK w' d (r.setT i (r.tg[i].with (addL r.tg[i].A g.e.spans (-g.e.units)) (dropL g.e.id r.tg[i].T g.e.spans))) col' ∧ Step (· = .thing i) w.heap.size col col' w w' := by
  obtain ⟨F, p, hF⟩ := h.pair i hi hg ht h1 h2 hf
  rw [ht]
  refine (release_any w _ _ _ _ _ _ _ _ F _ _ _ p ho hz hA).mono ?_
  rintro e w' ⟨rfl, n⟩
  exact ⟨rfl, h.thing i hi hF n⟩

end Go.Proofs.YtjfkfiffakbagaaGreatDoor


/-
  The desk in memory when one of its parts has been turned: the heap, those who wait, an entry, the map of entries, the time, the numbers.
-/
namespace Go.Proofs.YtjfkfiffakbagaaGreatDoor
open Go.RowKit

/-- The heap has been turned. -/
theorem DK.heap {w w' : World} {d : Nat} {r : Raw} {col : Nat → Option Col} (h : DK w d r col) {v : Value} (hv : ∀ b, v.ownBlock = some b → col b = some .he) {l' : List Hp.Hi} (p : EndPost w d 5 v l' w') :
    ∃ col', DK w' d { r with hl := l' } col' ∧ Step (fun c => c = .he ∨ c = .desk) w.heap.size col col' w w' := by
  obtain ⟨v', p1, p2, p3, p4, p5⟩ := p
  have st : Step (fun c => c = .he ∨ c = .desk) w.heap.size col (paint col v'.ownBlock.toList .he) w w' := by
    refine paint_step p3 (fun x hx => ?_) (fun x hx e => ?_)
    · rcases List.mem_cons.1 hx with rfl | hx
      · exact .inl ⟨_, h.dc, .inr rfl⟩
      · exact .inl ⟨_, hv x (Option.mem_toList.1 hx), .inl rfl⟩
    · rcases p2 x (Option.mem_toList.1 hx) with e2 | e2
      · rw [hv x e2] at e; cases e
      · exact e2
  refine ⟨_, ?_, st⟩
  refine ⟨(p4 0 (by omega)).trans h.c0, (p4 1 (by omega)).trans h.c1, h.mtC st (p4 2 (by omega)) (by simp), h.meC st (p4 3 (by omega)) (by simp), h.waC st (p4 4 (by omega)) (by simp), ⟨v', p1, fun b hb => ?_⟩, fun i hi => h.thS st i hi (by simp), h.enS st (by simp) (by simp), h.nd, h.ni, fun o => (p5 o).trans (h.fz o), st.keep d _ h.dc, fun k c hk => ?_⟩
  · refine paint_in (Option.mem_toList.2 hb) (fun c' hc => ?_)
    rcases p2 b hb with e | e
    · rw [hv b e] at hc; cases hc; rfl
    · have := h.lt b _ hc; omega
  · rcases paint_some hk with h1 | ⟨h1, h2, h3⟩
    · exact Nat.lt_of_lt_of_le (h.lt k c h1) st.size
    · have := p1.own.lt k (Option.mem_toList.1 h2)
      exact this.2

/-- The time is set. -/
theorem DK.setNow {w : World} {d : Nat} {r : Raw} {col : Nat → Option Col} (h : DK w d r col) (n : Int) : DK (w.setCell ⟨d, 0, none⟩ (.int .i64 n)) d { r with now := n } col ∧ Step (· = .desk) w.heap.size col col w (w.setCell ⟨d, 0, none⟩ (.int .i64 n)) := by
  have st : Step (· = .desk) w.heap.size col col w (w.setCell ⟨d, 0, none⟩ (.int .i64 n)) := ⟨⟨[d], Off.set0 .., fun x hx => .inl ⟨_, by simp at hx; subst hx; exact h.dc, rfl⟩⟩, fun _ _ h => h, fun _ _ h => .inl h⟩
  have ho : ∀ o, o ≠ 0 → (w.setCell ⟨d, 0, none⟩ (.int .i64 n)).cell? ⟨d, o, none⟩ = w.cell? ⟨d, o, none⟩ := fun o ho => World.cell?_setCell_other _ _ _ _ (by have := ho; simp)
  exact ⟨⟨World.cell?_setCell_same _ _ _ h.c0, (ho 1 (by omega)).trans h.c1, h.mtC st (ho 2 (by omega)) (by simp), h.meC st (ho 3 (by omega)) (by simp), h.waC st (ho 4 (by omega)) (by simp), h.heC st (ho 5 (by omega)) ((World.frozen?_setCell ..).trans (h.fz 5)) (by simp), fun i hi => h.thS st i hi (by simp), h.enS st (by simp) (by simp), h.nd, h.ni, fun o => (World.frozen?_setCell ..).trans (h.fz o), h.dc, fun k c hk => Nat.lt_of_lt_of_le (h.lt k c hk) st.size⟩, st⟩
/-- How many numbers were given away is set. -/
theorem DK.setGiven {w : World} {d : Nat} {r : Raw} {col : Nat → Option Col} (h : DK w d r col) (n : Int) : DK (w.setCell ⟨d, 1, none⟩ (.int .i64 n)) d { r with given := n } col ∧ Step (· = .desk) w.heap.size col col w (w.setCell ⟨d, 1, none⟩ (.int .i64 n)) := by
  have st : Step (· = .desk) w.heap.size col col w (w.setCell ⟨d, 1, none⟩ (.int .i64 n)) := ⟨⟨[d], Off.set0 .., fun x hx => .inl ⟨_, by simp at hx; subst hx; exact h.dc, rfl⟩⟩, fun _ _ h => h, fun _ _ h => .inl h⟩
  have ho : ∀ o, o ≠ 1 → (w.setCell ⟨d, 1, none⟩ (.int .i64 n)).cell? ⟨d, o, none⟩ = w.cell? ⟨d, o, none⟩ := fun o ho => World.cell?_setCell_other _ _ _ _ (by have := ho; simp)
  exact ⟨⟨(ho 0 (by omega)).trans h.c0, World.cell?_setCell_same _ _ _ h.c1, h.mtC st (ho 2 (by omega)) (by simp), h.meC st (ho 3 (by omega)) (by simp), h.waC st (ho 4 (by omega)) (by simp), h.heC st (ho 5 (by omega)) ((World.frozen?_setCell ..).trans (h.fz 5)) (by simp), fun i hi => h.thS st i hi (by simp), h.enS st (by simp) (by simp), h.nd, h.ni, fun o => (World.frozen?_setCell ..).trans (h.fz o), h.dc, fun k c hk => Nat.lt_of_lt_of_le (h.lt k c hk) st.size⟩, st⟩

/-- Those who wait have been turned: the row in w1, the cell behind it. -/
theorem DK.setWait {w w1 : World} {d : Nat} {r : Raw} {col : Nat → Option Col} (h : DK w d r col) {v v' : Value} (hv : ∀ b, v.ownBlock = some b → col b = some .wa) {wl' : List Nat} (k : Off v.ownBlock.toList w w1) (ho : w1.ownsRow 0 191 1 v' wl'.length (wl'.map ptrB)) (hat : ∀ b, v'.ownBlock = some b → v.ownBlock = some b ∨ w.heap.size ≤ b) :
    ∃ col', DK (w1.setCell ⟨d, 4, none⟩ v') d { r with wl := wl' } col' ∧ Step (fun c => c = .wa ∨ c = .desk) w.heap.size col col' w (w1.setCell ⟨d, 4, none⟩ v') := by
  have hdv : d ∉ v.ownBlock.toList := fun e => by have := hv d (Option.mem_toList.1 e); rw [h.dc] at this; cases this
  have hdl := h.lt d _ h.dc
  have hd1 : w1.heap[d]? = w.heap[d]? := k.block d hdl hdv
  have k2 : Off (d :: v.ownBlock.toList) w (w1.setCell ⟨d, 4, none⟩ v') := (k.mono (by simp +contextual)).setCell (.inl (by simp)) _ _
  have st : Step (fun c => c = .wa ∨ c = .desk) w.heap.size col (paint col v'.ownBlock.toList .wa) w (w1.setCell ⟨d, 4, none⟩ v') := by
    refine paint_step k2 (fun x hx => ?_) (fun x hx e => ?_)
    · rcases List.mem_cons.1 hx with rfl | hx
      · exact .inl ⟨_, h.dc, .inr rfl⟩
      · exact .inl ⟨_, hv x (Option.mem_toList.1 hx), .inl rfl⟩
    · rcases hat x (Option.mem_toList.1 hx) with e2 | e2
      · rw [hv x e2] at e; cases e
      · exact e2
  have hoo : ∀ o, o ≠ 4 → (w1.setCell ⟨d, 4, none⟩ v').cell? ⟨d, o, none⟩ = w.cell? ⟨d, o, none⟩ := fun o ho => (World.cell?_setCell_other _ _ _ _ (by have := ho; simp)).trans (World.cell?_of_block hd1)
  have hff : ∀ o, (w1.setCell ⟨d, 4, none⟩ v').frozen? ⟨d, o, none⟩ = w.frozen? ⟨d, o, none⟩ := fun o => (World.frozen?_setCell ..).trans (World.frozen?_of_block hd1)
  obtain ⟨v0, c4, _⟩ := h.wa
  have hvd : ∀ b, v'.ownBlock = some b → b ≠ d := fun b hb e => by
    subst e
    rcases hat b hb with e | e
    · exact hdv (Option.mem_toList.2 e)
    · omega
  refine ⟨_, ⟨(hoo 0 (by omega)).trans h.c0, (hoo 1 (by omega)).trans h.c1, h.mtC st (hoo 2 (by omega)) (by simp), h.meC st (hoo 3 (by omega)) (by simp), ⟨v', World.cell?_setCell_same _ _ _ ((World.cell?_of_block (w := w) hd1).trans c4), ownOff ho (Off.set0 d _ 4 _) (fun b hb => by simpa using hvd b hb), fun b hb => ?_⟩, h.heC st (hoo 5 (by omega)) ((hff 5).trans (h.fz 5)) (by simp), fun i hi => h.thS st i hi (by simp), h.enS st (by simp) (by simp), h.nd, h.ni, fun o => (hff o).trans (h.fz o), st.keep d _ h.dc, fun x c hk => ?_⟩, st⟩
  · refine paint_in (Option.mem_toList.2 hb) (fun c' hc => ?_)
    rcases hat b hb with e | e
    · rw [hv b e] at hc; cases hc; rfl
    · have := h.lt b _ hc; omega
  · rcases paint_some hk with h1 | ⟨h1, h2, h3⟩
    · exact Nat.lt_of_lt_of_le (h.lt x c h1) st.size
    · have := ho.lt x (Option.mem_toList.1 h2)
      simpa using this.2

/-- One entry's kind and time are written. -/
def setKT (id kind till : Int) (eg : List EG) : List EG := eg.map fun g => if g.e.id = id then { g with e := { g.e with kind := kind, till := till } } else g
theorem setKT_eb (id kind till : Int) (eg : List EG) : (setKT id kind till eg).map (·.eb) = eg.map (·.eb) := by
  unfold setKT; rw [List.map_map]; apply List.map_congr_left; intro g _; simp only [Function.comp]; split <;> rfl
theorem setKT_id (id kind till : Int) (eg : List EG) : (setKT id kind till eg).map (·.e.id) = eg.map (·.e.id) := by
  unfold setKT; rw [List.map_map]; apply List.map_congr_left; intro g _; simp only [Function.comp]; split <;> rfl
theorem setKT_at (id kind till : Int) (eg : List EG) (x : Int) : enAt (setKT id kind till eg) x = enAt eg x := by
  have e : (setKT id kind till eg).map (fun g => (g.e.id, g.eb)) = eg.map fun g => (g.e.id, g.eb) := by
    unfold setKT; rw [List.map_map]; apply List.map_congr_left; intro g _; simp only [Function.comp]; split <;> rfl
  unfold enAt; rw [e]
theorem setKT_len (id kind till : Int) (eg : List EG) : (setKT id kind till eg).length = eg.length := by unfold setKT; simp
theorem nodup_map_inj {α β : Type} (f : α → β) : ∀ {l : List α}, (l.map f).Nodup → ∀ {x y : α}, x ∈ l → y ∈ l → f x = f y → x = y
  | [], _, _, _, hx, _, _ => by simp at hx
  | a :: l, h, x, y, hx, hy, e => by
    rw [List.map_cons, List.nodup_cons] at h
    rcases List.mem_cons.1 hx with e1 | h1 <;> rcases List.mem_cons.1 hy with e2 | h2
    · rw [e1, e2]
    · exact absurd (List.mem_map.2 ⟨y, h2, by rw [← e, e1]⟩) h.1
    · exact absurd (List.mem_map.2 ⟨x, h1, by rw [e, e2]⟩) h.1
    · exact nodup_map_inj f h.2 h1 h2 e
theorem DK.setEnt {w : World} {d : Nat} {r : Raw} {col : Nat → Option Col} (h : DK w d r col) {g : EG} (hg : g ∈ r.eg) (kind till : Int) :
    DK ((w.setCell ⟨g.eb, 1, none⟩ (.int .i64 kind)).setCell ⟨g.eb, 5, none⟩ (.int .i64 till)) d { r with eg := setKT g.e.id kind till r.eg } col ∧ Step (· = .ent) w.heap.size col col w ((w.setCell ⟨g.eb, 1, none⟩ (.int .i64 kind)).setCell ⟨g.eb, 5, none⟩ (.int .i64 till)) := by
  obtain ⟨g1, g2, g3⟩ := h.en g hg
  have k : Off [g.eb] w ((w.setCell ⟨g.eb, 1, none⟩ (.int .i64 kind)).setCell ⟨g.eb, 5, none⟩ (.int .i64 till)) := ((Off.refl [g.eb] w).setCell (.inl (by simp)) _ _).setCell (.inl (by simp)) _ _
  have st : Step (· = .ent) w.heap.size col col w ((w.setCell ⟨g.eb, 1, none⟩ (.int .i64 kind)).setCell ⟨g.eb, 5, none⟩ (.int .i64 till)) := ⟨⟨_, k, fun x hx => .inl ⟨_, by simp at hx; subst hx; exact g2, rfl⟩⟩, fun _ _ h => h, fun _ _ h => .inl h⟩
  obtain ⟨b1, b2, b3, b4, b5⟩ := h.base st (by simp)
  refine ⟨⟨b1, b2, h.mtC st (b5 2) (by simp), ?_, h.waC st (b5 4) (by simp), h.heC st (b5 5) (b3 5) (by simp), fun i hi => h.thS st i hi (by simp), ?_, by rw [setKT_eb]; exact h.nd, by rw [setKT_id]; exact h.ni, b3, b4, fun x c hx => Nat.lt_of_lt_of_le (h.lt x c hx) st.size⟩, st⟩
  · obtain ⟨m, f, a1, a2, a3, a4⟩ := h.meC st (b5 3) (by simp)
    exact ⟨m, f, a1, a2, by rw [setKT_len]; exact a3, fun id => by rw [a4, setKT_at]⟩
  · intro x hx
    obtain ⟨y, hy, rfl⟩ := List.mem_map.1 hx
    obtain ⟨y1, y2, y3⟩ := h.en y hy
    by_cases e : y.e.id = g.e.id
    · have : y = g := nodup_map_inj _ h.ni hy hg e
      subst this
      rw [if_pos rfl]
      have hB : y.B ≠ y.eb := fun e => by rw [e, y2] at y3; cases y3
      refine ⟨⟨⟨?_, ?_, ?_, ?_, y1.en.sl.off k (by simpa using hB), Nat.lt_of_lt_of_le y1.en.lt k.size⟩, ?_, ?_, fun o => ?_, ?_⟩, y2, y3⟩
      · exact (World.cell?_setCell_other _ _ _ _ (by simp)).trans ((World.cell?_setCell_other _ _ _ _ (by simp)).trans y1.en.c0)
      · exact (World.cell?_setCell_other _ _ _ _ (by simp)).trans ((World.cell?_setCell_other _ _ _ _ (by simp)).trans y1.en.c1)
      · exact (World.cell?_setCell_other _ _ _ _ (by simp)).trans ((World.cell?_setCell_other _ _ _ _ (by simp)).trans y1.en.c2)
      · exact (World.cell?_setCell_other _ _ _ _ (by simp)).trans ((World.cell?_setCell_other _ _ _ _ (by simp)).trans y1.en.c3)
      · exact (World.cell?_setCell_other _ _ _ _ (by simp)).trans (World.cell?_setCell_same _ _ _ y1.k)
      · exact World.cell?_setCell_same _ _ _ ((World.cell?_setCell_other _ _ _ _ (by simp)).trans y1.u)
      · exact (World.frozen?_setCell ..).trans ((World.frozen?_setCell ..).trans (y1.fz o))
      · obtain ⟨cs, e⟩ := y1.bl
        exact ⟨_, heap_setCell_same _ _ _ _ _ _ (heap_setCell_same _ _ _ _ _ _ e)⟩
    · rw [if_neg e]
      have hne : y.eb ≠ g.eb := fun e2 => e (by rw [nodup_map_inj _ h.nd hy hg e2])
      have hB : y.B ≠ g.eb := fun e => by rw [e, g2] at y3; cases y3
      exact ⟨y1.off k (by simpa using hne) (by simpa using hB), y2, y3⟩

end Go.Proofs.YtjfkfiffakbagaaGreatDoor


/-
  The desk in memory when an entry goes out of its map or comes into it, and when a thing comes.
-/
namespace Go.Proofs.YtjfkfiffakbagaaGreatDoor
open Go.RowKit

def keptG (id : Int) (eg : List EG) : List EG := eg.filter fun g => g.e.id != id
theorem find_enAt {eg : List EG} {id : Int} : enAt eg id = ((eg.find? fun g => decide (g.e.id = id)).map (·.eb)) := by
  unfold enAt
  rw [List.find?_map]
  cases h : eg.find? ((fun p => decide (p.1 = id)) ∘ fun g => (g.e.id, g.eb)) with
  | none => have h' : eg.find? (fun g => decide (g.e.id = id)) = none := h; rw [h']; rfl
  | some g => have h' : eg.find? (fun g => decide (g.e.id = id)) = some g := h; rw [h']; rfl
theorem enAt_some {eg : List EG} (hn : (eg.map (·.e.id)).Nodup) {g : EG} (hg : g ∈ eg) : enAt eg g.e.id = some g.eb := by
  rw [find_enAt]
  cases h : eg.find? fun x => decide (x.e.id = g.e.id) with
  | none =>
    have := List.find?_eq_none.1 h g hg
    simp at this
  | some x =>
    have h1 := List.mem_of_find?_eq_some h
    have h2 := List.find?_some h
    have : x = g := nodup_map_inj _ hn h1 hg (by simpa using h2)
    rw [this]; rfl
theorem enAt_none {eg : List EG} {id : Int} (h : ∀ g ∈ eg, g.e.id ≠ id) : enAt eg id = none := by
  rw [find_enAt]
  have : eg.find? (fun g => decide (g.e.id = id)) = none := List.find?_eq_none.2 (fun g hg => by simpa using h g hg)
  rw [this]; rfl
theorem enAt_inv {eg : List EG} {id : Int} {b : Nat} (h : enAt eg id = some b) : ∃ g ∈ eg, g.e.id = id ∧ g.eb = b := by
  rw [find_enAt] at h
  cases e : eg.find? fun x => decide (x.e.id = id) with
  | none => rw [e] at h; cases h
  | some x =>
    rw [e] at h
    refine ⟨x, List.mem_of_find?_eq_some e, by simpa using List.find?_some e, by simpa using h⟩
theorem enAt_nil {eg : List EG} {id : Int} (h : enAt eg id = none) : ∀ g ∈ eg, g.e.id ≠ id := by
  rw [find_enAt] at h
  intro g hg e
  cases e2 : eg.find? fun x => decide (x.e.id = id) with
  | none =>
    have := List.find?_eq_none.1 e2 g hg
    simp [e] at this
  | some x => rw [e2] at h; cases h
theorem keptG_at {eg : List EG} (hn : (eg.map (·.e.id)).Nodup) (id x : Int) : enAt (keptG id eg) x = if x = id then none else enAt eg x := by
  by_cases e : x = id
  · subst e
    rw [if_pos rfl]
    exact enAt_none (fun g hg => by simpa using (List.mem_filter.1 hg).2)
  · rw [if_neg e]
    cases h : enAt eg x with
    | none => exact enAt_none (fun g hg => enAt_nil h g ((List.mem_filter.1 hg).1))
    | some b =>
      obtain ⟨g, hg, e1, e2⟩ := enAt_inv h
      have hn' : ((keptG id eg).map (·.e.id)).Nodup := List.Sublist.nodup (List.filter_sublist.map _) hn
      have hk : g ∈ keptG id eg := List.mem_filter.2 ⟨hg, by simpa [e1] using e⟩
      rw [← e1, enAt_some hn' hk, e2]
theorem keptG_len {eg : List EG} (hn : (eg.map (·.e.id)).Nodup) (id : Int) : (keptG id eg).length = eg.length - if (enAt eg id).isSome then 1 else 0 := by
  induction eg with
  | nil => simp [keptG]
  | cons g eg ih =>
    rw [List.map_cons, List.nodup_cons] at hn
    have ih := ih hn.2
    by_cases e : g.e.id = id
    · have h0 : ∀ x ∈ eg, x.e.id ≠ id := fun x hx e2 => hn.1 (List.mem_map.2 ⟨x, hx, by rw [e, e2]⟩)
      have e1 : keptG id (g :: eg) = eg := by
        unfold keptG
        rw [List.filter_cons, if_neg (by simp [e])]
        exact List.filter_eq_self.2 (fun x hx => by simpa using h0 x hx)
      have e2 : (enAt (g :: eg) id).isSome = true := by rw [find_enAt, List.find?_cons]; simp [e]
      rw [e1, e2]; simp
    · have e1 : keptG id (g :: eg) = g :: keptG id eg := by unfold keptG; rw [List.filter_cons, if_pos (by simpa using e)]
      have e2 : enAt (g :: eg) id = enAt eg id := by rw [find_enAt, find_enAt, List.find?_cons]; simp [e]
      rw [e1, e2, List.length_cons, List.length_cons, ih]
      have : (if (enAt eg id).isSome then 1 else 0) ≤ eg.length := by
        split
        · rename_i h
          cases eg with
          | nil => rw [find_enAt] at h; simp at h
          | cons _ _ => simp
        · omega
      omega

/-- An entry's number goes out of the map. -/
theorem DK.delE {w w' : World} {d : Nat} {r : Raw} {col : Nat → Option Col} (h : DK w d r col) {m : Nat} {f : Lit → Option Nat} (hc : w.cell? ⟨d, 3, none⟩ = some (.map (some m))) (hm : col m = some .me) (hf : ∀ id, f (litI id) = enAt r.eg id) (id : Int) (p : PMap Tryz.prog 3 w' m r.eg.length (Go.Proofs.YtjfkfiffakbagaaGreatDoor.upd f (litI id) none) (r.eg.length - if (f (litI id)).isSome then 1 else 0)) (hg : w.grownBy w' (some m)) :
    DK w' d { r with eg := keptG id r.eg } col ∧ Step (· = .me) w.heap.size col col w w' := by
  have k : Off [m] w w' := ⟨hg.os, hg.tape, hg.output, hg.size, fun i hi hn => hg.block i hi (by simpa using hn)⟩
  have st : Step (· = .me) w.heap.size col col w w' := ⟨⟨_, k, fun x hx => .inl ⟨_, by simp at hx; subst hx; exact hm, rfl⟩⟩, fun _ _ h => h, fun _ _ h => .inl h⟩
  obtain ⟨b1, b2, b3, b4, b5⟩ := h.base st (by simp)
  refine ⟨⟨b1, b2, h.mtC st (b5 2) (by simp), ⟨m, upd f (litI id) none, (b5 3).trans hc, hm, ?_, fun x => ?_⟩, h.waC st (b5 4) (by simp), h.heC st (b5 5) (b3 5) (by simp), fun i hi => h.thS st i hi (by simp), fun g hg => h.enS st (by simp) (by simp) g ((List.mem_filter.1 hg).1), List.Sublist.nodup (List.filter_sublist.map _) h.nd, List.Sublist.nodup (List.filter_sublist.map _) h.ni, b3, b4, fun x c hx => Nat.lt_of_lt_of_le (h.lt x c hx) st.size⟩, st⟩
  · have e := keptG_len h.ni id
    rw [hf] at p
    show PMap _ _ _ _ (keptG id r.eg).length _ (keptG id r.eg).length
    rw [e]; exact p.tight
  · show upd f (litI id) none (litI x) = enAt (keptG id r.eg) x
    rw [keptG_at h.ni]
    by_cases e : x = id
    · rw [e, upd_same, if_pos rfl]
    · rw [upd_other f _ (fun e2 => e (litI_inj e2)), if_neg e, hf]

theorem snocG_at {eg : List EG} {g : EG} (hno : ∀ x ∈ eg, x.e.id ≠ g.e.id) (x : Int) : enAt (eg ++ [g]) x = if x = g.e.id then some g.eb else enAt eg x := by
  by_cases e : x = g.e.id
  · rw [if_pos e, find_enAt, List.find?_append]
    have : eg.find? (fun y => decide (y.e.id = x)) = none := List.find?_eq_none.2 (fun y hy => by simpa [e] using hno y hy)
    rw [this]; simp [e]
  · rw [if_neg e, find_enAt, find_enAt, List.find?_append]
    cases h : eg.find? fun y => decide (y.e.id = x) with
    | none => simp [Ne.symm e]
    | some y => simp
theorem thAt_find {tg : List TG} {name : ByteArray} : thAt tg name = ((tg.find? fun t => Desk.sameB t.name name).map (·.tb)) := by
  unfold thAt
  rw [List.find?_map]
  cases h : tg.find? ((fun p => Desk.sameB p.1 name) ∘ fun t => (t.name, t.tb)) with
  | none => have h' : tg.find? (fun t => Desk.sameB t.name name) = none := h; rw [h']; rfl
  | some g => have h' : tg.find? (fun t => Desk.sameB t.name name) = some g := h; rw [h']; rfl
theorem thAt_snoc {tg : List TG} {t : TG} (hno : ∀ x ∈ tg, x.name ≠ t.name) (name : ByteArray) : thAt (tg ++ [t]) name = @ite _ (name = t.name) (Classical.propDecidable _) (some t.tb) (thAt tg name) := by
  by_cases e : name = t.name
  · rw [if_pos e, thAt_find, List.find?_append]
    have : tg.find? (fun y => Desk.sameB y.name name) = none := List.find?_eq_none.2 (fun y hy => by rw [Bool.not_eq_true, sameB_ne, e]; exact hno y hy)
    rw [this]
    have : Desk.sameB t.name name = true := sameB_eq.2 e.symm
    simp [this]
  · rw [if_neg e, thAt_find, thAt_find, List.find?_append]
    cases h : tg.find? fun y => Desk.sameB y.name name with
    | none =>
      have : Desk.sameB t.name name = false := sameB_ne.2 (Ne.symm e)
      simp [this]
    | some y => simp

end Go.Proofs.YtjfkfiffakbagaaGreatDoor


/-
  Package desk: settle, isBooked.
-/
namespace Go.Proofs.YtjfkfiffakbagaaGreatDoor
open Go.RowKit

/-- The call of Drop on the desk's heap. -/
theorem ddrop_any {w : World} {d : Nat} {r : Raw} {col : Nat → Option Col} (h : DK w d r col) (hh : Hp.Heap r.hl) (hl : r.hl.length ≤ 1000) (t n : Int) (hx : ∃ x ∈ r.hl, x.t = t ∧ x.n = n) :
    Calls Tryz.prog 146 #[.pointer (some ⟨d, 5, none⟩), .int .i64 t, .int .i64 n] w fun e w' => e = .returned (.tuple #[]) ∧ ∃ (x : Hp.Hi) (l' : List Hp.Hi) (col' : Nat → Option Col), x.t = t ∧ x.n = n ∧ Hp.Heap l' ∧ r.hl.Perm (x :: l') ∧ DK w' d { r with hl := l' } col' ∧ Step (fun c => c = .he ∨ c = .desk) w.heap.size col col' w w' := by
  obtain ⟨v, a1, a2⟩ := h.he
  refine (hDrop_any d 5 v r.hl t n w a1 hh hl).mono ?_
  rintro e w' ⟨rfl, hk⟩
  refine ⟨rfl, ?_⟩
  rcases hk with ⟨hk, _⟩ | ⟨x, l', e1, e2, p, h1, h2⟩
  · obtain ⟨x, hx1, hx2⟩ := hx
    exact absurd hx2 (hk x hx1)
  · obtain ⟨col', k1, k2⟩ := h.heap a2 p
    exact ⟨x, l', col', e1, e2, h1, h2, k1, k2⟩

def settleS (c : Col) : Prop := c = .he ∨ c = .desk ∨ c = .ent
/-- What settle leaves. -/
def SettlePost (w : World) (d : Nat) (r : Raw) (col : Nat → Option Col) (g : EG) (w' : World) : Prop :=
  ∃ (x : Hp.Hi) (l' : List Hp.Hi) (col' : Nat → Option Col), x.t = g.e.till ∧ x.n = g.e.id ∧ Hp.Heap l' ∧ r.hl.Perm (x :: l') ∧ DK w' d { r with eg := setKT g.e.id 1 0 r.eg, hl := l' } col' ∧ Step settleS w.heap.size col col' w w'

set_option maxRecDepth 100000 in
set_option maxHeartbeats 2000000 in
theorem settle_any {w : World} {d : Nat} {r : Raw} {col : Nat → Option Col} (h : DK w d r col) (hh : Hp.Heap r.hl) (hl : r.hl.length ≤ 1000) {g : EG} (hg : g ∈ r.eg) (hx : ∃ x ∈ r.hl, x.t = g.e.till ∧ x.n = g.e.id) :
    Calls Tryz.prog 105 #[.pointer (some ⟨d, 0, none⟩), .pointer (some ⟨g.eb, 0, none⟩)] w fun e w' => e = .returned (.tuple #[]) ∧ SettlePost w d r col g w' := by
  obtain ⟨g1, g2, g3⟩ := h.en g hg
  have c0 := g1.en.c0
  have c5 := g1.u
  have DR := hidp (fun wx (k : Below w.heap.size w wx) => ddrop_any (h.later k) hh hl g.e.till g.e.id hx)
  have HG := hidp (And.intro hg g2)
  clear h g3
  go_enter Tryz.func105, Tryz.ntmps105
  go_upto_region 0 with fail
  go_region_held3 (fun w' => w'.cell? ⟨g.eb, 0, none⟩ = some (.int .i64 g.e.id) ∧ w'.cell? ⟨g.eb, 5, none⟩ = some (.int .i64 g.e.till))
    (first
      | exact ⟨c0, c5⟩
      | exact ⟨((k5.en g HG.out.1).1).en.c0, ((k5.en g HG.out.1).1).u⟩)
    (first
      | (go_at_call 146; refine (DR.out _ (blwDrew w)).mono ?_; rintro e w4 ⟨rfl, x, l', col1, k1, k2, k3, k4, k5, k6⟩))
  obtain ⟨q1, q2, q3⟩ := k5.en g HG.out.1
  have d1 := q1.k
  have d5 := q1.u
  have f1 := q1.fz 1
  have f5 := q1.fz 5
  have SE := hidp (k5.setEnt (g := g) HG.out.1 1 0)
  have KK := hidp (And.intro k1 (And.intro k2 (And.intro k3 (And.intro k4 k6))))
  clear q1 q2 q3 k1 k2 k3 k4 k5 k6 DR c0 c5
  go_wp2_with fail
  go_end0
  obtain ⟨k1, k2, k3, k4, k6⟩ := KK.out
  obtain ⟨s1, s2⟩ := SE.out
  refine ⟨rfl, (⟨x, l', col1, k1, k2, k3, k4, s1, ?_⟩ : SettlePost _ _ _ _ _ _)⟩
  have t1 : Step settleS w.heap.size col col1 w w4 := (Step.below (blwDrew w)).trans (k6.mono (fun c hc => by unfold settleS; rcases hc with e | e; exact .inl e; exact .inr (.inl e)) (Nat.le_refl _))
  exact t1.trans (s2.mono (fun c hc => .inr (.inr hc)) t1.size)

set_option maxHeartbeats 1000000 in
theorem isBooked_any (eb : Nat) (kind : Int) (w : World) (c : w.cell? ⟨eb, 1, none⟩ = some (.int .i64 kind)) :
    Calls Tryz.prog 107 #[.pointer (some ⟨eb, 0, none⟩)] w fun e w' => e = .returned (.bool (kind == 1)) ∧ w' = w := by
  go_enter Tryz.func107, Tryz.ntmps107
  go_wp2_with fail
  go_ret
  exact ⟨rfl, rfl⟩

theorem infoE : (Tryz.prog.info? 194).map (fun i => i.size) = some 6 := by kernel_rfl
/-- Two pointers to entries held against each other. -/
theorem eqlE (w : World) (a b : Nat) (ha : ∃ cs, w.heap[a]? = some (.cells cs 194 (0, 0))) (hb : ∃ cs, w.heap[b]? = some (.cells cs 194 (0, 0))) :
    (binOp .eql 191 (.pointer (some ⟨b, 0, none⟩)) (.pointer (some ⟨a, 0, none⟩))).run Tryz.prog w = .ok (.bool (b == a)) w := by
  obtain ⟨j, hj⟩ : ∃ j, Tryz.prog.info? 194 = some j := by
    cases h : Tryz.prog.info? 194 with
    | none => have := infoE; rw [h] at this; cases this
    | some j => exact ⟨j, rfl⟩
  have hs : j.size ≠ 0 := by
    have := infoE
    rw [hj] at this
    simp at this
    omega
  by_cases e : b = a
  · subst e
    rw [run_eql_ptr_same w _ Tryz.underlying191 hj]; simp
  · obtain ⟨ca, ha⟩ := ha
    obtain ⟨cb, hb⟩ := hb
    rw [run_eql_ptr_other w (a := ⟨b, 0, none⟩) (b := ⟨a, 0, none⟩) Tryz.underlying191 hj hs (by have := e; simp) hb ha]
    simp [e]

set_option maxRecDepth 100000 in
set_option maxHeartbeats 1000000 in
theorem leave1_any (A a b : Nat) (w : World) (c : w.cell? ⟨A, 0, none⟩ = some (.pointer (some ⟨a, 0, none⟩))) (ha : ∃ cs, w.heap[a]? = some (.cells cs 194 (0, 0))) (hb : ∃ cs, w.heap[b]? = some (.cells cs 194 (0, 0))) :
    Calls Tryz.prog 198 #[.pointer (some ⟨b, 0, none⟩), .pointer (some ⟨A, 0, none⟩)] w fun e w' => e = .returned (.bool (b == a)) ∧ w' = w := by
  have he := eqlE w a b ha hb
  clear ha hb
  go_enter Tryz.func198, Tryz.ntmps198
  go_wp2_with fail
  go_ret
  exact ⟨rfl, rfl⟩

end Go.Proofs.YtjfkfiffakbagaaGreatDoor


/-
  slices.IndexFunc and slices.DeleteFunc at pointers to entries.
-/
namespace Go.Proofs.YtjfkfiffakbagaaGreatDoor
open Go.RowKit

theorem own_take {w : World} {base : Nat} {e : TypeId} {g n cap i : Nat} {xs : List Value} (h : w.ownsRow base e 1 (.slice (some ⟨g, 0, none⟩) n cap) n xs) (hi : i ≤ n) : w.ownsRow base e 1 (.slice (some ⟨g, 0, none⟩) i cap) i (xs.take i) := by
  obtain ⟨h1, h2⟩ := h
  refine ⟨by rw [List.length_take]; omega, ?_⟩
  rcases h2 with ⟨h0, _⟩ | ⟨g', cap', cur, hv, hg, hh, hn, hcap, hsz, htake⟩
  · cases h0
  · cases hv
    refine .inr ⟨g, cap, cur, rfl, hg, hh, by omega, hcap, hsz, ?_⟩
    rw [← htake, List.take_take]
    congr 1
    omega
theorem own_setCells {base : Nat} {e : TypeId} {g n cap : Nat} {xs : List Value} : ∀ (vs : List Value) (o : Nat) (w : World), n ≤ o → w.ownsRow base e 1 (.slice (some ⟨g, 0, none⟩) n cap) n xs → (w.setCells g o vs).ownsRow base e 1 (.slice (some ⟨g, 0, none⟩) n cap) n xs
  | [], _, _, _, h => h
  | v :: r, o, w, ho, h => by
    refine own_setCells r (o + 1) _ (by omega) ?_
    have := (h.stored o v).1
    rwa [List.set_eq_of_length_le (by have := h.1; omega)] at this
theorem off_setCells {g : Nat} : ∀ (vs : List Value) (o : Nat) (w : World), Off [g] w (w.setCells g o vs)
  | [], _, _ => Off.refl _ _
  | v :: r, o, w => (Off.set0 g w o v).trans (off_setCells r (o + 1) _)

/-- The row while it is gone through: i are kept of the first j. -/
structure DelIn (L : List Nat) (p : Nat → Bool) (i j : Nat) (M : List Nat) : Prop where
  len : M.length = L.length
  ij : i < j
  jl : j ≤ L.length
  lo : M.take i = (L.take j).filter fun b => !p b
  hi : ∀ k, j ≤ k → M[k]? = L[k]?
theorem DelIn.skip {L : List Nat} {p : Nat → Bool} {i j : Nat} {M : List Nat} (h : DelIn L p i j M) (hj : j < L.length) (hp : p L[j] = true) : DelIn L p i (j + 1) M := by
  refine ⟨h.len, by have := h.ij; omega, by omega, ?_, fun k hk => h.hi k (by omega)⟩
  rw [h.lo, List.take_succ_eq_append_getElem hj, List.filter_append]
  simp [hp]
theorem DelIn.keep {L : List Nat} {p : Nat → Bool} {i j : Nat} {M : List Nat} (h : DelIn L p i j M) (hj : j < L.length) (hp : p L[j] = false) : DelIn L p (i + 1) (j + 1) (M.set i L[j]) := by
  have hij := h.ij
  have hl := h.len
  refine ⟨by simpa using hl, by omega, by omega, ?_, fun k hk => ?_⟩
  · rw [List.take_succ_eq_append_getElem hj, List.filter_append, ← h.lo, List.take_succ_eq_append_getElem (by simp; omega), List.take_set_of_le (Nat.le_refl _)]
    simp [hp]
  · rw [List.getElem?_set_ne (by omega)]
    exact h.hi k (by omega)
theorem DelIn.new {L : List Nat} {p : Nat → Bool} {k : Nat} (hk : k < L.length) (hp : p L[k] = true) (h0 : ∀ (j : Nat) (hj : j < k), p (L[j]'(by omega)) = false) : DelIn L p k (k + 1) L := by
  refine ⟨rfl, by omega, by omega, ?_, fun _ _ => rfl⟩
  rw [List.take_succ_eq_append_getElem hk, List.filter_append]
  simp only [hp, List.filter_cons, Bool.not_true, Bool.false_eq_true, if_false, List.filter_nil, List.append_nil]
  refine (List.filter_eq_self.2 (fun b hb => ?_)).symm
  obtain ⟨j, hj, rfl⟩ := List.getElem_of_mem hb
  have hj' : j < k := by rw [List.length_take] at hj; omega
  simp [h0 j hj']

/-- What the function tells at the pointers of a list, in a world. -/
def TellsBk (w : World) (L : List Nat) (p : Nat → Bool) : Prop :=
  ∀ b ∈ L, Calls Tryz.prog 107 #[.pointer (some ⟨b, 0, none⟩)] w fun e w' => e = .returned (.bool (p b)) ∧ w' = w

set_option maxRecDepth 100000 in
set_option maxHeartbeats 1000000 in
theorem indexBk_any (L : List Nat) (p : Nat → Bool) (v : Value) (w : World) (ht : TellsBk w L p) (own : w.ownsRow 0 191 1 v L.length (L.map ptrB)) (hl : L.length ≤ 1000) :
    Calls Tryz.prog 157 #[v, .func (.func 107) #[] #[]] w fun e w' => e = .returned (.int .i64 (idxB p L 0)) ∧ w' = w := by
  have hv : ∃ a cap, v = .slice a L.length cap := by
    rcases own.2 with ⟨rfl, h⟩ | ⟨g, cap, _, rfl, _⟩
    · rw [h]; exact ⟨_, _, rfl⟩
    · exact ⟨_, _, rfl⟩
  obtain ⟨a, cap, rfl⟩ := hv
  have OWN := hidp own
  have TE := hidp ht
  clear own ht
  go_enter Tryz.func157, Tryz.ntmps157
  go_wp2_with fail
  go_loop [8] (fun i => ∃ k : Nat, k ≤ L.length ∧ i = .int .i64 k ∧ idxB p L 0 = idxB p (L.drop k) k) (fun i => L.length - (intOf i).toNat)
  case atStart => exact ⟨0, Nat.zero_le _, rfl, rfl⟩
  case round =>
    obtain ⟨j, hj, rfl, hu⟩ := hrel
    have HU := hidp hu
    clear hu
    by_cases hlt : j < L.length
    · have hi : (j : Int) < (L.length : Int) := by omega
      obtain ⟨H, cap', e1⟩ := Joins.ownsRow_form OWN.out (by omega)
      simp only [Value.slice.injEq, true_and] at e1
      obtain ⟨rfl, rfl⟩ := e1
      have a0 := OWN.out.cellAt j (by omega)
      rw [List.getElem?_map, List.getElem?_eq_getElem hlt, Option.map_some] at a0
      unfold ptrB at a0
      have D1 := hidp (TE.out L[j] (List.getElem_mem hlt))
      have ed : idxB p (L.drop j) j = if p L[j] then (j : Int) else idxB p (L.drop (j + 1)) ((j + 1 : Nat) : Int) := by rw [List.drop_eq_getElem_cons hlt]; rfl
      have ED := hidp ed
      clear ed
      cases hq : p L[j]
      · have HN : Hid (idxB p L 0 = idxB p (L.drop (j + 1)) ((j + 1 : Nat) : Int)) := by show _ = _; rw [HU.out, ED.out, hq]; rfl
        rw [hq] at D1
        clear hq
        go_wp2_with fail
        refine D1.out.mono ?_
        rintro e w1 ⟨rfl, hw⟩
        rw [hw]
        clear a0 D1 hw
        go_wp2_with fail
        go_round
        case rel => exact ⟨j + 1, by omega, by go_num, HN.out⟩
        case measure => simp [intOf]; omega
      · have HN : Hid (idxB p L 0 = j) := by show _ = _; rw [HU.out, ED.out, hq]; rfl
        rw [hq] at D1
        clear hq
        go_wp2_with fail
        refine D1.out.mono ?_
        rintro e w1 ⟨rfl, hw⟩
        rw [hw]
        clear a0 D1 hw
        go_wp2_with fail
        go_ret
        exact ⟨lret_int HN.out.symm, rfl⟩
    · have hi : ¬ (j : Int) < (L.length : Int) := by omega
      have e : L.drop j = [] := List.drop_eq_nil_of_le (by omega)
      have HN : Hid (idxB p L 0 = -1) := by show _ = _; rw [HU.out, e]; rfl
      clear e
      go_wp2_with fail
      go_ret
      exact ⟨lret_int HN.out.symm, rfl⟩

set_option maxRecDepth 100000 in
set_option maxHeartbeats 1000000 in
theorem delBk_any (L : List Nat) (p : Nat → Bool) (v : Value) (w : World) (ht : ∀ wx, Off v.ownBlock.toList w wx → TellsBk wx L p) (own : w.ownsRow 0 191 1 v L.length (L.map ptrB)) (hl : L.length ≤ 1000) :
    Calls Tryz.prog 106 #[v, .func (.func 107) #[] #[]] w fun e w' => ∃ v', e = .returned v' ∧ Off v.ownBlock.toList w w' ∧ w'.ownsRow 0 191 1 v' (L.filter fun b => !p b).length ((L.filter fun b => !p b).map ptrB) ∧ v'.ownBlock = v.ownBlock := by
  have IX := hidp (indexBk_any L p v w (ht w (Off.refl _ _)) own hl)
  have hq := idxB_is p L 0
  go_enter Tryz.func106, Tryz.ntmps106
  go_wp2_with fail
  refine IX.out.mono ?_
  rintro e w1 ⟨rfl, rfl⟩
  rcases hq with ⟨e1, e2⟩ | ⟨k, hk, e1, e2, e3⟩
  · rw [e1]
    have ef : (L.filter fun b => !p b) = L := List.filter_eq_self.2 (fun b hb => by simp [e2 b hb])
    have HF : Hid (w1.ownsRow 0 191 1 v (L.filter fun b => !p b).length ((L.filter fun b => !p b).map ptrB)) := by show w1.ownsRow _ _ _ _ _ _; rw [ef]; exact own
    clear e1 e2 ef IX ht own
    go_wp2_with fail
    go_ret
    exact ⟨v, rfl, Off.refl _ _, HF.out, rfl⟩
  · have hpos : 0 < L.length := by omega
    obtain ⟨H, cap, hv⟩ := Joins.ownsRow_form own hpos
    subst hv
    rw [e1, Int.zero_add]
    have D0 := hidp (DelIn.new hk e2 e3)
    have OWN := hidp own
    have HT := hidp ht
    have w3 : IntKind.i64.wrap ((k : Int) + 1) = ((k + 1 : Nat) : Int) := by rw [wrap_small (by omega) (by omega)]; omega
    have hne : ((k : Int) == -1) = false := by simp
    clear e1 e2 e3 IX ht own
    go_wp2_with fail
    go_loopw [5, 6, 7] (fun vi vj _ wx => ∃ (i j : Nat) (M : List Nat), vi = .int .i64 i ∧ vj = .int .i64 j ∧ DelIn L p i j M ∧ Off [H] w1 wx ∧ wx.ownsRow 0 191 1 (.slice (some ⟨H, 0, none⟩) L.length cap) L.length (M.map ptrB)) (fun _ vj _ _ => L.length - (intOf vj).toNat)
    case atStart => exact ⟨k, k + 1, L, rfl, rfl, D0.out, Off.refl _ _, OWN.out⟩
    case round =>
      obtain ⟨i, j, M, rfl, rfl, hd, ho, hw⟩ := hrel
      have hij := hd.ij
      have hjl := hd.jl
      have hml := hd.len
      have HD := hidp (And.intro hd (And.intro ho hw))
      by_cases hlt : j < L.length
      · have hj : (j : Int) < (L.length : Int) := by omega
        have hi : (i : Int) < (L.length : Int) := by omega
        have a0 := hw.cellAt j (by omega)
        rw [List.getElem?_map, hd.hi j (Nat.le_refl _), List.getElem?_eq_getElem hlt, Option.map_some] at a0
        have b0 := hw.cellAt i (by omega)
        rw [List.getElem?_map, List.getElem?_eq_getElem (by omega), Option.map_some] at b0
        have f0 := hw.frozenAt i
        unfold ptrB at a0 b0
        have D1 := hidp (HT.out wr ho L[j] (List.getElem_mem hlt))
        have wi : IntKind.i64.wrap ((i : Int) + 1) = ((i + 1 : Nat) : Int) := by rw [wrap_small (by omega) (by omega)]; omega
        have wj : IntKind.i64.wrap ((j : Int) + 1) = ((j + 1 : Nat) : Int) := by rw [wrap_small (by omega) (by omega)]; omega
        clear ho hd
        cases hq : p L[j]
        · have DN := hidp (HD.out.1.keep hlt hq)
          have WN := hidp ((hw.stored i (ptrB L[j])).1)
          have ON := hidp (HD.out.2.1.trans (Off.set0 H wr i (ptrB L[j])))
          rw [hq] at D1
          unfold ptrB at WN ON
          clear hq hw
          go_wp2_with fail
          refine D1.out.mono ?_
          rintro e w2 ⟨rfl, hw⟩
          rw [hw]
          clear D1 hw
          go_wp2_with fail
          go_roundw
          case rel => exact ⟨i + 1, j + 1, M.set i L[j], rfl, rfl, DN.out, ON.out, by rw [List.map_set]; exact WN.out⟩
          case measure => simp [intOf]; omega
        · have DN := hidp (HD.out.1.skip hlt hq)
          rw [hq] at D1
          clear hq hw
          go_wp2_with fail
          refine D1.out.mono ?_
          rintro e w2 ⟨rfl, hw⟩
          rw [hw]
          clear D1 hw
          go_wp2_with fail
          go_roundw
          case rel => exact ⟨i, j + 1, M, rfl, rfl, DN.out, HD.out.2.1, HD.out.2.2⟩
          case measure => simp [intOf]; omega
      · have hj : ¬ ((j : Int) < (L.length : Int)) := by omega
        have hje : j = L.length := by omega
        have hcap : L.length ≤ cap := by
          rcases hw.2 with ⟨h0, _⟩ | ⟨g', cap', cur, hv, _, _, h1, _⟩
          · cases h0
          · cases hv; exact h1
        have hcl : ∀ ty, (Builtin.clear_ #[127] ty #[.slice (some ⟨H, i, none⟩) (L.length - i) (cap - i)]).run Tryz.prog wr = .ok (.tuple #[]) (wr.setCells H i (List.replicate (L.length - i) (.pointer none))) :=
          fun ty => Lib.run_clear_slice wr _ _ ty (.pointer none) Tryz.underlying127 (fun w => by simp [go_sem]) rfl rfl H i _ _ (by omega) (fun t ht => by rw [hw.cellAt (i + t) (by omega)]; simp; omega) (fun t ht => hw.frozenAt (i + t))
        have hii : (i : Int) ≤ (L.length : Int) := by omega
        have hic : (i : Int) ≤ (cap : Int) := by omega
        have HF : Hid (Off [H] w1 (wr.setCells H i (List.replicate (L.length - i) (.pointer none))) ∧ (wr.setCells H i (List.replicate (L.length - i) (.pointer none))).ownsRow 0 191 1 (.slice (some ⟨H, 0, none⟩) i cap) (L.filter fun b => !p b).length ((L.filter fun b => !p b).map ptrB)) := by
          have e1 : (L.filter fun b => !p b) = M.take i := by rw [hd.lo, hje, List.take_of_length_le (Nat.le_refl _)]
          have e2 : (M.take i).length = i := by rw [List.length_take]; omega
          refine ⟨ho.trans (off_setCells _ _ _), ?_⟩
          rw [e1, e2, List.map_take]
          exact own_setCells _ i wr (Nat.le_refl _) (own_take hw (by omega))
        clear hd ho hw HD HT OWN D0 hje
        go_wp2_with fail
        go_ret
        exact ⟨_, rfl, HF.out.1, HF.out.2, rfl⟩

/-- What the function tells at the pointers of a list, in a world. -/
def TellsLv (A : Nat) (w : World) (L : List Nat) (p : Nat → Bool) : Prop :=
  ∀ b ∈ L, Calls Tryz.prog 198 #[.pointer (some ⟨b, 0, none⟩), .pointer (some ⟨A, 0, none⟩)] w fun e w' => e = .returned (.bool (p b)) ∧ w' = w

set_option maxRecDepth 100000 in
set_option maxHeartbeats 1000000 in
theorem indexLv_any (A : Nat) (L : List Nat) (p : Nat → Bool) (v : Value) (w : World) (ht : TellsLv A w L p) (own : w.ownsRow 0 191 1 v L.length (L.map ptrB)) (hl : L.length ≤ 1000) :
    Calls Tryz.prog 157 #[v, .func (.func 198) #[] #[.pointer (some ⟨A, 0, none⟩)]] w fun e w' => e = .returned (.int .i64 (idxB p L 0)) ∧ w' = w := by
  have hv : ∃ a cap, v = .slice a L.length cap := by
    rcases own.2 with ⟨rfl, h⟩ | ⟨g, cap, _, rfl, _⟩
    · rw [h]; exact ⟨_, _, rfl⟩
    · exact ⟨_, _, rfl⟩
  obtain ⟨a, cap, rfl⟩ := hv
  have OWN := hidp own
  have TE := hidp ht
  clear own ht
  go_enter Tryz.func157, Tryz.ntmps157
  go_wp2_with fail
  go_loop [8] (fun i => ∃ k : Nat, k ≤ L.length ∧ i = .int .i64 k ∧ idxB p L 0 = idxB p (L.drop k) k) (fun i => L.length - (intOf i).toNat)
  case atStart => exact ⟨0, Nat.zero_le _, rfl, rfl⟩
  case round =>
    obtain ⟨j, hj, rfl, hu⟩ := hrel
    have HU := hidp hu
    clear hu
    by_cases hlt : j < L.length
    · have hi : (j : Int) < (L.length : Int) := by omega
      obtain ⟨H, cap', e1⟩ := Joins.ownsRow_form OWN.out (by omega)
      simp only [Value.slice.injEq, true_and] at e1
      obtain ⟨rfl, rfl⟩ := e1
      have a0 := OWN.out.cellAt j (by omega)
      rw [List.getElem?_map, List.getElem?_eq_getElem hlt, Option.map_some] at a0
      unfold ptrB at a0
      have D1 := hidp (TE.out L[j] (List.getElem_mem hlt))
      have ed : idxB p (L.drop j) j = if p L[j] then (j : Int) else idxB p (L.drop (j + 1)) ((j + 1 : Nat) : Int) := by rw [List.drop_eq_getElem_cons hlt]; rfl
      have ED := hidp ed
      clear ed
      cases hq : p L[j]
      · have HN : Hid (idxB p L 0 = idxB p (L.drop (j + 1)) ((j + 1 : Nat) : Int)) := by show _ = _; rw [HU.out, ED.out, hq]; rfl
        rw [hq] at D1
        clear hq
        go_wp2_with fail
        refine D1.out.mono ?_
        rintro e w1 ⟨rfl, hw⟩
        rw [hw]
        clear a0 D1 hw
        go_wp2_with fail
        go_round
        case rel => exact ⟨j + 1, by omega, by go_num, HN.out⟩
        case measure => simp [intOf]; omega
      · have HN : Hid (idxB p L 0 = j) := by show _ = _; rw [HU.out, ED.out, hq]; rfl
        rw [hq] at D1
        clear hq
        go_wp2_with fail
        refine D1.out.mono ?_
        rintro e w1 ⟨rfl, hw⟩
        rw [hw]
        clear a0 D1 hw
        go_wp2_with fail
        go_ret
        exact ⟨lret_int HN.out.symm, rfl⟩
    · have hi : ¬ (j : Int) < (L.length : Int) := by omega
      have e : L.drop j = [] := List.drop_eq_nil_of_le (by omega)
      have HN : Hid (idxB p L 0 = -1) := by show _ = _; rw [HU.out, e]; rfl
      clear e
      go_wp2_with fail
      go_ret
      exact ⟨lret_int HN.out.symm, rfl⟩

set_option maxRecDepth 100000 in
set_option maxHeartbeats 1000000 in
theorem delLv_any (A : Nat) (L : List Nat) (p : Nat → Bool) (v : Value) (w : World) (ht : ∀ wx, Off v.ownBlock.toList w wx → TellsLv A wx L p) (own : w.ownsRow 0 191 1 v L.length (L.map ptrB)) (hl : L.length ≤ 1000) :
    Calls Tryz.prog 106 #[v, .func (.func 198) #[] #[.pointer (some ⟨A, 0, none⟩)]] w fun e w' => ∃ v', e = .returned v' ∧ Off v.ownBlock.toList w w' ∧ w'.ownsRow 0 191 1 v' (L.filter fun b => !p b).length ((L.filter fun b => !p b).map ptrB) ∧ v'.ownBlock = v.ownBlock := by
  have IX := hidp (indexLv_any A L p v w (ht w (Off.refl _ _)) own hl)
  have hq := idxB_is p L 0
  go_enter Tryz.func106, Tryz.ntmps106
  go_wp2_with fail
  refine IX.out.mono ?_
  rintro e w1 ⟨rfl, rfl⟩
  rcases hq with ⟨e1, e2⟩ | ⟨k, hk, e1, e2, e3⟩
  · rw [e1]
    have ef : (L.filter fun b => !p b) = L := List.filter_eq_self.2 (fun b hb => by simp [e2 b hb])
    have HF : Hid (w1.ownsRow 0 191 1 v (L.filter fun b => !p b).length ((L.filter fun b => !p b).map ptrB)) := by show w1.ownsRow _ _ _ _ _ _; rw [ef]; exact own
    clear e1 e2 ef IX ht own
    go_wp2_with fail
    go_ret
    exact ⟨v, rfl, Off.refl _ _, HF.out, rfl⟩
  · have hpos : 0 < L.length := by omega
    obtain ⟨H, cap, hv⟩ := Joins.ownsRow_form own hpos
    subst hv
    rw [e1, Int.zero_add]
    have D0 := hidp (DelIn.new hk e2 e3)
    have OWN := hidp own
    have HT := hidp ht
    have w3 : IntKind.i64.wrap ((k : Int) + 1) = ((k + 1 : Nat) : Int) := by rw [wrap_small (by omega) (by omega)]; omega
    have hne : ((k : Int) == -1) = false := by simp
    clear e1 e2 e3 IX ht own
    go_wp2_with fail
    go_loopw [5, 6, 7] (fun vi vj _ wx => ∃ (i j : Nat) (M : List Nat), vi = .int .i64 i ∧ vj = .int .i64 j ∧ DelIn L p i j M ∧ Off [H] w1 wx ∧ wx.ownsRow 0 191 1 (.slice (some ⟨H, 0, none⟩) L.length cap) L.length (M.map ptrB)) (fun _ vj _ _ => L.length - (intOf vj).toNat)
    case atStart => exact ⟨k, k + 1, L, rfl, rfl, D0.out, Off.refl _ _, OWN.out⟩
    case round =>
      obtain ⟨i, j, M, rfl, rfl, hd, ho, hw⟩ := hrel
      have hij := hd.ij
      have hjl := hd.jl
      have hml := hd.len
      have HD := hidp (And.intro hd (And.intro ho hw))
      by_cases hlt : j < L.length
      · have hj : (j : Int) < (L.length : Int) := by omega
        have hi : (i : Int) < (L.length : Int) := by omega
        have a0 := hw.cellAt j (by omega)
        rw [List.getElem?_map, hd.hi j (Nat.le_refl _), List.getElem?_eq_getElem hlt, Option.map_some] at a0
        have b0 := hw.cellAt i (by omega)
        rw [List.getElem?_map, List.getElem?_eq_getElem (by omega), Option.map_some] at b0
        have f0 := hw.frozenAt i
        unfold ptrB at a0 b0
        have D1 := hidp (HT.out wr ho L[j] (List.getElem_mem hlt))
        have wi : IntKind.i64.wrap ((i : Int) + 1) = ((i + 1 : Nat) : Int) := by rw [wrap_small (by omega) (by omega)]; omega
        have wj : IntKind.i64.wrap ((j : Int) + 1) = ((j + 1 : Nat) : Int) := by rw [wrap_small (by omega) (by omega)]; omega
        clear ho hd
        cases hq : p L[j]
        · have DN := hidp (HD.out.1.keep hlt hq)
          have WN := hidp ((hw.stored i (ptrB L[j])).1)
          have ON := hidp (HD.out.2.1.trans (Off.set0 H wr i (ptrB L[j])))
          rw [hq] at D1
          unfold ptrB at WN ON
          clear hq hw
          go_wp2_with fail
          refine D1.out.mono ?_
          rintro e w2 ⟨rfl, hw⟩
          rw [hw]
          clear D1 hw
          go_wp2_with fail
          go_roundw
          case rel => exact ⟨i + 1, j + 1, M.set i L[j], rfl, rfl, DN.out, ON.out, by rw [List.map_set]; exact WN.out⟩
          case measure => simp [intOf]; omega
        · have DN := hidp (HD.out.1.skip hlt hq)
          rw [hq] at D1
          clear hq hw
          go_wp2_with fail
          refine D1.out.mono ?_
          rintro e w2 ⟨rfl, hw⟩
          rw [hw]
          clear D1 hw
          go_wp2_with fail
          go_roundw
          case rel => exact ⟨i, j + 1, M, rfl, rfl, DN.out, HD.out.2.1, HD.out.2.2⟩
          case measure => simp [intOf]; omega
      · have hj : ¬ ((j : Int) < (L.length : Int)) := by omega
        have hje : j = L.length := by omega
        have hcap : L.length ≤ cap := by
          rcases hw.2 with ⟨h0, _⟩ | ⟨g', cap', cur, hv, _, _, h1, _⟩
          · cases h0
          · cases hv; exact h1
        have hcl : ∀ ty, (Builtin.clear_ #[127] ty #[.slice (some ⟨H, i, none⟩) (L.length - i) (cap - i)]).run Tryz.prog wr = .ok (.tuple #[]) (wr.setCells H i (List.replicate (L.length - i) (.pointer none))) :=
          fun ty => Lib.run_clear_slice wr _ _ ty (.pointer none) Tryz.underlying127 (fun w => by simp [go_sem]) rfl rfl H i _ _ (by omega) (fun t ht => by rw [hw.cellAt (i + t) (by omega)]; simp; omega) (fun t ht => hw.frozenAt (i + t))
        have hii : (i : Int) ≤ (L.length : Int) := by omega
        have hic : (i : Int) ≤ (cap : Int) := by omega
        have HF : Hid (Off [H] w1 (wr.setCells H i (List.replicate (L.length - i) (.pointer none))) ∧ (wr.setCells H i (List.replicate (L.length - i) (.pointer none))).ownsRow 0 191 1 (.slice (some ⟨H, 0, none⟩) i cap) (L.filter fun b => !p b).length ((L.filter fun b => !p b).map ptrB)) := by
          have e1 : (L.filter fun b => !p b) = M.take i := by rw [hd.lo, hje, List.take_of_length_le (Nat.le_refl _)]
          have e2 : (M.take i).length = i := by rw [List.length_take]; omega
          refine ⟨ho.trans (off_setCells _ _ _), ?_⟩
          rw [e1, e2, List.map_take]
          exact own_setCells _ i wr (Nat.le_refl _) (own_take hw (by omega))
        clear hd ho hw HD HT OWN D0 hje
        go_wp2_with fail
        go_ret
        exact ⟨_, rfl, HF.out.1, HF.out.2, rfl⟩

end Go.Proofs.YtjfkfiffakbagaaGreatDoor

