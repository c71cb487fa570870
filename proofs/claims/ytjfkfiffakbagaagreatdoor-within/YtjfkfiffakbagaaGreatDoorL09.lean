/-
  Parts of the proof, one behind the other: Order, Model, ModelInv, DeskRep.
-/
import Derived.Test.YtjfkfiffakbagaaGreatDoorL08
import Derived.Maps.Keyed
/-
  The order of what is listed: the document's ranks and the program's walk through its tree tell the same row.
-/
namespace Go.Proofs.YtjfkfiffakbagaaGreatDoor

namespace Rank
end Rank

namespace Desk
/-- The order of what is listed. -/
def ltE (a b : Int) (x y : Ent) : Prop := firstN a b x.spans < firstN a b y.spans ∨ (firstN a b x.spans = firstN a b y.spans ∧ x.id < y.id)
theorem ltE_irrefl (a b : Int) (x : Ent) : ¬ ltE a b x x := by unfold ltE; omega
theorem ltE_trans (a b : Int) (x y z : Ent) (h : ltE a b x y) (k : ltE a b y z) : ltE a b x z := by unfold ltE at *; omega
/-- Spans in the order of From, none with another's. -/
def Risen (L : List (Int × Int)) : Prop := L.Pairwise fun s t => s.1 < t.1
theorem firstN_is {a b : Int} : ∀ {L : List (Int × Int)}, Risen L → (∃ s ∈ L, meetB a b s = true) → (∃ s ∈ L, meetB a b s = true ∧ s.1 = firstN a b L) ∧ ∀ t ∈ L, meetB a b t = true → firstN a b L ≤ t.1
  | [], _, h => by obtain ⟨s, hs, _⟩ := h; simp at hs
  | s :: r, hr, h => by
    unfold Risen at hr
    rw [List.pairwise_cons] at hr
    simp only [firstN]
    by_cases c : meetB a b s = true
    · rw [if_pos c]
      refine ⟨⟨s, by simp, c, rfl⟩, fun t ht _ => ?_⟩
      rcases List.mem_cons.1 ht with rfl | ht
      · omega
      · have := hr.1 t ht; omega
    · rw [if_neg c]
      have h' : ∃ s ∈ r, meetB a b s = true := by
        obtain ⟨t, ht, k⟩ := h
        rcases List.mem_cons.1 ht with rfl | ht
        · exact absurd k c
        · exact ⟨t, ht, k⟩
      obtain ⟨⟨t, k1, k2, k3⟩, k4⟩ := firstN_is (a := a) (b := b) (L := r) hr.2 h'
      refine ⟨⟨t, by simp [k1], k2, k3⟩, fun u hu hm => ?_⟩
      rcases List.mem_cons.1 hu with rfl | hu
      · exact absurd hm c
      · exact k4 u hu hm
theorem firstN_none {a b : Int} : ∀ {L : List (Int × Int)}, (∀ s ∈ L, meetB a b s = false) → firstN a b L = -1
  | [], _ => rfl
  | s :: r, h => by
    simp only [firstN]
    rw [if_neg (by rw [h s (by simp)]; simp)]
    exact firstN_none (fun t ht => h t (by simp [ht]))
theorem firstN_pos {a b : Int} {L : List (Int × Int)} (hr : Risen L) (h0 : ∀ s ∈ L, 0 ≤ s.1) : 0 ≤ firstN a b L ↔ ∃ s ∈ L, meetB a b s = true := by
  constructor
  · intro h
    apply Classical.byContradiction
    intro c
    have : firstN a b L = -1 := firstN_none (fun s hs => by
      cases hb : meetB a b s
      · rfl
      · exact absurd ⟨s, hs, hb⟩ c)
    omega
  · intro h
    obtain ⟨⟨s, k1, _, k3⟩, _⟩ := firstN_is hr h
    have := h0 s k1
    omega

/-- The items of a row that are the first with their number. -/
def uniqStep (acc : List Avl.It) (z : Avl.It) : List Avl.It := if acc.any fun u => decide (u.n = z.n) then acc else acc ++ [z]
def uniq (M : List Avl.It) : List Avl.It := M.foldl uniqStep []
theorem uniq_snoc (M : List Avl.It) (z : Avl.It) : uniq (M ++ [z]) = uniqStep (uniq M) z := by unfold uniq; rw [List.foldl_append]; rfl
theorem uniq_is : ∀ (n : Nat) (M : List Avl.It), M.length = n → Avl.Ord M → Avl.Ord (uniq M) ∧ (∀ u ∈ uniq M, u ∈ M) ∧ (∀ z ∈ M, ∃ u ∈ uniq M, u.n = z.n ∧ (u = z ∨ Avl.lt u z)) ∧ ((uniq M).map (·.n)).Nodup := by
  intro n
  induction n with
  | zero =>
    intro M hM _
    rw [List.length_eq_zero_iff.1 hM]
    exact ⟨List.Pairwise.nil, by simp [uniq], by simp, by simp [uniq]⟩
  | succ n ih =>
    intro M hM hO
    obtain ⟨K, z, rfl⟩ : ∃ K z, M = K ++ [z] := ⟨M.dropLast, M.getLast (by intro e; simp [e] at hM), (List.dropLast_concat_getLast _).symm⟩
    unfold Avl.Ord at hO
    rw [List.pairwise_append] at hO
    obtain ⟨i1, i2, i3, i4⟩ := ih K (by simpa using hM) hO.1
    rw [uniq_snoc]
    unfold uniqStep
    by_cases c : ((uniq K).any fun u => decide (u.n = z.n)) = true
    · rw [if_pos c]
      obtain ⟨u, hu, hc⟩ := List.any_eq_true.1 c
      refine ⟨i1, fun u hu => by simp [i2 u hu], fun y hy => ?_, i4⟩
      rcases List.mem_append.1 hy with hy | hy
      · exact i3 y hy
      · have : y = z := by simpa using hy
        subst this
        exact ⟨u, hu, by simpa using hc, .inr (hO.2.2 u (i2 u hu) y (by simp))⟩
    · rw [if_neg c]
      have hno : ∀ u ∈ uniq K, u.n ≠ z.n := fun u hu e => c (List.any_eq_true.2 ⟨u, hu, by simp [e]⟩)
      refine ⟨?_, fun u hu => ?_, fun y hy => ?_, ?_⟩
      · unfold Avl.Ord
        rw [List.pairwise_append]
        exact ⟨i1, by simp, fun u hu y hy => by
          have : y = z := by simpa using hy
          subst this
          exact hO.2.2 u (i2 u hu) y (by simp)⟩
      · rcases List.mem_append.1 hu with hu | hu
        · simp [i2 u hu]
        · simp at hu; simp [hu]
      · rcases List.mem_append.1 hy with hy | hy
        · obtain ⟨u, hu, k⟩ := i3 y hy
          exact ⟨u, by simp [hu], k⟩
        · have : y = z := by simpa using hy
          subst this
          exact ⟨y, by simp, rfl, .inl rfl⟩
      · rw [List.map_append, List.nodup_append]
        refine ⟨i4, by simp, fun x hx y hy e => ?_⟩
        obtain ⟨u, hu, rfl⟩ := List.mem_map.1 hx
        simp at hy
        exact hno u hu (by rw [e, hy])

/-- What a thing's tree holds: each span of each entry of the thing, with the entry's number and place. -/
def Items (name : ByteArray) (es : List Ent) (at_ : Int → Nat) (T : Avl.S) : Prop :=
  Avl.Ord (Avl.inord T) ∧ ∀ z, z ∈ Avl.inord T ↔ ∃ e ∈ es, ofB name e = true ∧ ∃ s ∈ e.spans, z = ⟨s.1, s.2, e.id, at_ e.id⟩
/-- The entries that the program tells, in its order. -/
theorem told_is {name : ByteArray} {es : List Ent} {at_ : Int → Nat} {T : Avl.S} {a b : Int} (h : Items name es at_ T) (hid : Ids es) (hr : ∀ e ∈ es, Risen e.spans) (h0 : ∀ e ∈ es, ∀ s ∈ e.spans, 0 ≤ s.1) {ys : List Ent} (hl : ys.length = (uniq (Avl.meet a b T)).length) (hy : ∀ (i : Nat) (hi : i < ys.length), ys[i] ∈ es ∧ ys[i].id = ((uniq (Avl.meet a b T))[i]'(by omega)).n) :
    ys.Pairwise (ltE a b) ∧ ∀ e, e ∈ ys ↔ e ∈ es.filter (selB name a b) := by
  have hM := Avl.meet_is a b T h.1
  have hO : Avl.Ord (Avl.meet a b T) := by rw [hM]; exact Avl.ord_filter _ h.1
  obtain ⟨u1, u2, u3, u4⟩ := uniq_is _ (Avl.meet a b T) rfl hO
  have inM : ∀ z, z ∈ Avl.meet a b T ↔ ∃ e ∈ es, ofB name e = true ∧ ∃ s ∈ e.spans, meetB a b s = true ∧ z = ⟨s.1, s.2, e.id, at_ e.id⟩ := by
    intro z
    rw [hM, List.mem_filter, h.2]
    constructor
    · rintro ⟨⟨e, k1, k2, s, k3, rfl⟩, k4⟩
      exact ⟨e, k1, k2, s, k3, k4, rfl⟩
    · rintro ⟨e, k1, k2, s, k3, k4, rfl⟩
      exact ⟨⟨e, k1, k2, s, k3, rfl⟩, k4⟩
  -- each item that is kept stands at its entry's first
  have fst : ∀ u ∈ uniq (Avl.meet a b T), ∀ e ∈ es, e.id = u.n → ofB name e = true ∧ u.f = firstN a b e.spans ∧ ∃ s ∈ e.spans, meetB a b s = true := by
    intro u hu e he hn
    obtain ⟨e', k1, k2, s, k3, k4, rfl⟩ := (inM u).1 (u2 u hu)
    have : e = e' := hid.one he k1 hn
    subst this
    refine ⟨k2, ?_, s, k3, k4⟩
    obtain ⟨⟨t, t1, t2, t3⟩, t4⟩ := firstN_is (hr e he) ⟨s, k3, k4⟩
    have hle := t4 s k3 k4
    obtain ⟨u', hu', m1, m2⟩ := u3 ⟨t.1, t.2, e.id, at_ e.id⟩ ((inM _).2 ⟨e, he, k2, t, t1, t2, rfl⟩)
    have same : u' = ⟨s.1, s.2, e.id, at_ e.id⟩ := by
      have hnd := u4
      unfold List.Nodup at hnd
      rw [List.pairwise_map] at hnd
      apply Classical.byContradiction
      intro hne
      obtain ⟨i, hi, ei⟩ := List.getElem_of_mem hu'
      obtain ⟨j, hj, ej⟩ := List.getElem_of_mem hu
      have hij : i ≠ j := fun e => by subst e; exact hne (ei.symm.trans ej)
      rcases Nat.lt_or_gt_of_ne hij with c | c
      · have := List.pairwise_iff_getElem.1 hnd i j hi hj c
        rw [ei, ej] at this
        exact this m1
      · have := List.pairwise_iff_getElem.1 hnd j i hj hi c
        rw [ei, ej] at this
        exact this m1.symm
    subst same
    show s.1 = _
    rcases m2 with m2 | m2
    · have := congrArg Avl.It.f m2
      simp at this
      omega
    · unfold Avl.lt at m2
      simp at m2
      omega
  have sel : ∀ u ∈ uniq (Avl.meet a b T), ∀ e ∈ es, e.id = u.n → e ∈ es.filter (selB name a b) := by
    intro u hu e he hn
    obtain ⟨k1, _, k3⟩ := fst u hu e he hn
    exact List.mem_filter.2 ⟨he, by simp [selB, k1, (firstN_pos (hr e he) (h0 e he)).2 k3]⟩
  refine ⟨?_, fun e => ⟨fun he => ?_, fun he => ?_⟩⟩
  · rw [List.pairwise_iff_getElem]
    intro i j hi hj hij
    have o := List.pairwise_iff_getElem.1 u1 i j (by omega) (by omega) hij
    obtain ⟨a1, a2⟩ := hy i hi
    obtain ⟨b1, b2⟩ := hy j hj
    have f1 := (fst _ (List.getElem_mem (by omega)) _ a1 a2).2.1
    have f2 := (fst _ (List.getElem_mem (by omega)) _ b1 b2).2.1
    unfold Avl.lt at o
    unfold ltE
    rw [← f1, ← f2, a2, b2]
    exact o
  · obtain ⟨i, hi, rfl⟩ := List.getElem_of_mem he
    obtain ⟨a1, a2⟩ := hy i hi
    exact sel _ (List.getElem_mem (by omega)) _ a1 a2
  · obtain ⟨he1, he2⟩ := List.mem_filter.1 he
    simp only [selB, Bool.and_eq_true, decide_eq_true_eq] at he2
    obtain ⟨s, s1, s2⟩ := (firstN_pos (hr e he1) (h0 e he1)).1 he2.2
    obtain ⟨u, hu, m1, _⟩ := u3 _ ((inM _).2 ⟨e, he1, he2.1, s, s1, s2, rfl⟩)
    obtain ⟨i, hi, ei⟩ := List.getElem_of_mem hu
    obtain ⟨a1, a2⟩ := hy i (by omega)
    have : ys[i]'(by omega) = e := hid.one a1 he1 (by rw [a2, ei]; exact m1)
    rw [← this]
    exact List.getElem_mem _
theorem filter_ids {es : List Ent} (p : Ent → Bool) (h : Ids es) : Ids (es.filter p) := by
  unfold Ids at *
  exact List.Pairwise.sublist (List.Sublist.map _ List.filter_sublist) h
end Desk
end Go.Proofs.YtjfkfiffakbagaaGreatDoor


/-
  The desk as mathematics: what each line does, by the document.
-/
namespace Go.Proofs.YtjfkfiffakbagaaGreatDoor
namespace Desk

theorem sameB_iff {a b : ByteArray} : sameB a b = true ↔ a.toList = b.toList := by simp [sameB]
theorem sameB_self (a : ByteArray) : sameB a a = true := sameB_iff.2 rfl
theorem sameB_congr {a b c : ByteArray} (h : sameB a b = true) : sameB c a = sameB c b := by
  unfold sameB; rw [sameB_iff.1 h]

/-- In the order in which they are listed. -/
def insE (a b : Int) (x : Ent) : List Ent → List Ent
  | [] => [x]
  | y :: r => if firstN a b x.spans < firstN a b y.spans ∨ (firstN a b x.spans = firstN a b y.spans ∧ x.id < y.id) then x :: y :: r else y :: insE a b x r
def sortE (a b : Int) : List Ent → List Ent
  | [] => []
  | x :: r => insE a b x (sortE a b r)
theorem insE_mem {a b : Int} {x z : Ent} : ∀ {l : List Ent}, z ∈ insE a b x l ↔ z = x ∨ z ∈ l
  | [] => by simp [insE]
  | y :: r => by
    simp only [insE]
    split
    · simp
    · rw [List.mem_cons, insE_mem, List.mem_cons]
      constructor
      · rintro (h | h | h)
        · exact .inr (.inl h)
        · exact .inl h
        · exact .inr (.inr h)
      · rintro (h | h | h)
        · exact .inr (.inl h)
        · exact .inl h
        · exact .inr (.inr h)
theorem sortE_mem {a b : Int} {z : Ent} : ∀ {l : List Ent}, z ∈ sortE a b l ↔ z ∈ l
  | [] => by simp [sortE]
  | x :: r => by rw [sortE, insE_mem, sortE_mem, List.mem_cons]
theorem insE_up {a b : Int} {x : Ent} : ∀ {l : List Ent}, l.Pairwise (ltE a b) → (∀ z ∈ l, z.id ≠ x.id) → (insE a b x l).Pairwise (ltE a b)
  | [], _, _ => by simp [insE]
  | y :: r, h, hn => by
    rw [List.pairwise_cons] at h
    simp only [insE]
    split
    · rename_i c
      refine List.pairwise_cons.2 ⟨fun z hz => ?_, List.pairwise_cons.2 h⟩
      rcases List.mem_cons.1 hz with rfl | hz
      · exact c
      · exact ltE_trans a b x y z c (h.1 z hz)
    · rename_i c
      refine List.pairwise_cons.2 ⟨fun z hz => ?_, insE_up h.2 (fun z hz => hn z (by simp [hz]))⟩
      rcases insE_mem.1 hz with rfl | hz
      · have := hn y (by simp)
        unfold ltE
        omega
      · exact h.1 z hz
theorem sortE_up {a b : Int} : ∀ {l : List Ent}, Ids l → (sortE a b l).Pairwise (ltE a b)
  | [], _ => by simp [sortE]
  | x :: r, h => by
    obtain ⟨h1, h2⟩ := h.cons
    exact insE_up (sortE_up h2) (fun z hz => by have := h1 z (sortE_mem.1 hz); omega)
/-- What is listed of a thing between two times. -/
def listD (name : ByteArray) (a b : Int) (es : List Ent) : List Ent := sortE a b (es.filter (selB name a b))
theorem listD_unique {name : ByteArray} {a b : Int} {es out : List Ent} (hid : Ids es) (h : out.Pairwise (ltE a b)) (hm : ∀ e, e ∈ out ↔ e ∈ es.filter (selB name a b)) : out = listD name a b es :=
  sorted_unique (ltE_irrefl a b) (ltE_trans a b) h (sortE_up (filter_ids _ hid)) (fun e => (hm e).trans sortE_mem.symm)

/-- Those who wait are looked at, one behind the other. -/
def grantGo (ts : List (ByteArray × Int)) : List Ent → List Ent → List Ent × List Int
  | done, [] => (done, [])
  | done, e :: r =>
    if e.kind = 3 ∧ fitsN ts (done ++ e :: r) e.thing e.units e.spans = true then
      ((grantGo ts (done ++ [bookE e]) r).1, e.id :: (grantGo ts (done ++ [bookE e]) r).2)
    else grantGo ts (done ++ [e]) r
def grantS (ts : List (ByteArray × Int)) (es : List Ent) : List Ent × List Int := grantGo ts [] es

/-- The next time at which something ends, or to. -/
def nextT (tq : Int) : List Ent → Int
  | [] => tq
  | e :: r => if e.kind ≠ 1 ∧ e.till < nextT tq r then e.till else nextT tq r
def endsB (t : Int) (e : Ent) : Bool := (e.kind != 1) && decide (e.till = t)
def tickGo (ts : List (ByteArray × Int)) : Nat → List Ent → Int → Int → List Ent × List Int × List Int
  | 0, es, _, _ => (es, [], [])
  | k + 1, es, now, tq =>
    if now < tq then
      let t := nextT tq es
      let g := grantS ts (es.filter fun e => !endsB t e)
      let q := tickGo ts k g.1 t tq
      (q.1, (es.filter (endsB t)).map (·.id) ++ q.2.1, g.2 ++ q.2.2)
    else (es, [], [])

/-- A desk: its things, its entries, how many numbers were given away, the time. -/
structure St where
  ts : List (ByteArray × Int)
  es : List Ent
  given : Int
  now : Int
/-- An answer. -/
structure Rep where
  err : Int
  at_ : Int
  n : Int
  entries : List Ent
  days : List Int
  granted : List Int
  ended : List Int
def Rep.error (e : Int) : Rep := ⟨e, 0, 0, [], [], [], []⟩
def Rep.num (n : Int) : Rep := ⟨0, 0, n, [], [], [], []⟩
/-- A line. -/
inductive Line where
  | thing (name : ByteArray) (units : Int)
  | enter (kind : Int) (name : ByteArray) (units fr til long : Int)
  | series (name : ByteArray) (units : Int) (r : Rd.Rule)
  | confirm (id : Int)
  | cancel (id : Int)
  | list (name : ByteArray) (fr til : Int)
  | waiting
  | peak (name : ByteArray) (fr til : Int)
  | find (name : ByteArray) (units long fr til : Int)
  | expand (r : Rd.Rule)
  | tick (n : Int)
  | clock

def joinD (s : St) (e : Ent) : St × Rep := (⟨s.ts, s.es ++ [{ e with id := s.given + 1 }], s.given + 1, s.now⟩, Rep.num (s.given + 1))
def enterErr (s : St) (kind : Int) (name : ByteArray) (units fr til long : Int) : Int :=
  if askedN s.ts name units ≠ 0 then askedN s.ts name units
  else if til ≤ fr ∨ 1048320 < s.now + long then 6
  else if s.given = 60 then 5
  else if kind = 3 then (if waitN s.es = 6 then 5 else 0)
  else if fitsN s.ts s.es name units [(fr, til)] then 0 else 8
def entOf (s : St) (kind : Int) (name : ByteArray) (units fr til long : Int) : Ent := ⟨0, kind, name, units, [(fr, til)], if kind = 1 then 0 else s.now + long⟩
def seriesErr (s : St) (name : ByteArray) (units : Int) (r : Rd.Rule) : Int :=
  if askedN s.ts name units ≠ 0 then askedN s.ts name units
  else if Rd.docErr r ≠ 0 then Rd.docErr r
  else if s.given = 60 then 5
  else if fitsN s.ts s.es name units (Rd.spansOf r (Rd.docDays r)) then 0 else 8
def findE (id : Int) (es : List Ent) : Option Ent := es.find? fun e => decide (e.id = id)
/-- What a line does, but for those who wait. -/
def doesD (s : St) : Line → St × Rep
  | .thing name units => if unitsN name s.ts ≠ 0 then (s, .error 4) else if s.ts.length = 4 then (s, .error 5) else ({ s with ts := s.ts ++ [(name, units)] }, .num 0)
  | .enter kind name units fr til long => if enterErr s kind name units fr til long ≠ 0 then (s, .error (enterErr s kind name units fr til long)) else joinD s (entOf s kind name units fr til long)
  | .series name units r => if seriesErr s name units r ≠ 0 then (s, .error (seriesErr s name units r)) else joinD s ⟨0, 1, name, units, Rd.spansOf r (Rd.docDays r), 0⟩
  | .confirm id => match findE id s.es with
    | none => (s, .error 9)
    | some e => if e.kind ≠ 2 then (s, .error 10) else ({ s with es := booked id s.es }, .num 0)
  | .cancel id => match findE id s.es with
    | none => (s, .error 9)
    | some _ => ({ s with es := kept id s.es }, .num 0)
  | .list name fr til => if unitsN name s.ts = 0 then (s, .error 3) else if til ≤ fr then (s, .error 6) else (s, { Rep.num 0 with entries := listD name fr til s.es })
  | .waiting => (s, { Rep.num 0 with entries := s.es.filter fun e => e.kind == 3 })
  | .peak name fr til => if unitsN name s.ts = 0 then (s, .error 3) else if til ≤ fr then (s, .error 6) else (s, .num (peakN name s.es fr til))
  | .find name units long fr til => if askedN s.ts name units ≠ 0 then (s, .error (askedN s.ts name units)) else if til ≤ fr then (s, .error 6) else (s, .num (findN s.ts s.es name units long fr til))
  | .expand r => if Rd.docErr r ≠ 0 then (s, .error (Rd.docErr r)) else (s, { Rep.num (Rd.docDays r).length with days := Rd.docDays r })
  | .tick n => if 1048320 < s.now + n then (s, .error 6) else
      let q := tickGo s.ts (s.es.length + 1) s.es s.now (s.now + n)
      ({ s with es := q.1, now := s.now + n }, { Rep.num (s.now + n) with granted := q.2.2, ended := q.2.1 })
  | .clock => (s, .num s.now)
/-- What a line does. -/
def stepD (s : St) (l : Line) : St × Rep :=
  if (doesD s l).2.err ≠ 0 then doesD s l
  else ({ (doesD s l).1 with es := (grantS (doesD s l).1.ts (doesD s l).1.es).1 }, { (doesD s l).2 with granted := (doesD s l).2.granted ++ (grantS (doesD s l).1.ts (doesD s l).1.es).2 })

/-- The numbers of a line are such as it may have. -/
def LineOk : Line → Prop
  | .thing _ u => 1 ≤ u ∧ u ≤ 9
  | .enter k _ u fr til long => (k = 1 ∧ long = 0 ∨ (k = 2 ∨ k = 3) ∧ 1 ≤ long ∧ long ≤ 1048320) ∧ 1 ≤ u ∧ u ≤ 9 ∧ 0 ≤ fr ∧ fr ≤ 1048320 ∧ 0 ≤ til ∧ til ≤ 1048320
  | .series _ u r => 1 ≤ u ∧ u ≤ 9 ∧ Rd.Fine r
  | .confirm id => 0 ≤ id ∧ id ≤ 9999999
  | .cancel id => 0 ≤ id ∧ id ≤ 9999999
  | .list _ fr til => 0 ≤ fr ∧ fr ≤ 1048320 ∧ 0 ≤ til ∧ til ≤ 1048320
  | .waiting => True
  | .peak _ fr til => 0 ≤ fr ∧ fr ≤ 1048320 ∧ 0 ≤ til ∧ til ≤ 1048320
  | .find _ u long fr til => 1 ≤ u ∧ u ≤ 9 ∧ 1 ≤ long ∧ long ≤ 1048320 ∧ 0 ≤ fr ∧ fr ≤ 1048320 ∧ 0 ≤ til ∧ til ≤ 1048320
  | .expand r => Rd.Fine r
  | .tick n => 1 ≤ n ∧ n ≤ 1048320
  | .clock => True

/-- What an entry is. -/
structure EntOk (now : Int) (e : Ent) : Prop where
  u1 : 1 ≤ e.units
  u9 : e.units ≤ 9
  sl : e.spans.length ≤ 40
  s0 : e.spans ≠ []
  sp : SpOk e.spans
  ri : Risen e.spans
  kd : (e.kind = 1 ∧ e.till = 0) ∨ ((e.kind = 2 ∨ e.kind = 3) ∧ now < e.till ∧ e.till ≤ 1048320 ∧ e.spans.length = 1)
/-- What every desk keeps to. -/
structure Inv (s : St) : Prop where
  tl : s.ts.length ≤ 4
  tu : ∀ t ∈ s.ts, 1 ≤ t.2 ∧ t.2 ≤ 9
  tn : s.ts.Pairwise fun t u => sameB t.1 u.1 = false
  ids : Ids s.es
  idb : ∀ e ∈ s.es, 1 ≤ e.id ∧ e.id ≤ s.given
  g0 : 0 ≤ s.given
  g1 : s.given ≤ 60
  n0 : 0 ≤ s.now
  n1 : s.now ≤ 1048320
  en : ∀ e ∈ s.es, EntOk s.now e
  th : ∀ e ∈ s.es, e.units ≤ unitsN e.thing s.ts
  wa : waitN s.es ≤ 6
  no : ∀ e ∈ s.es, e.kind = 3 → fitsN s.ts s.es e.thing e.units e.spans = false
  wi : ∀ name x, takenN name x s.es ≤ unitsN name s.ts

end Desk
end Go.Proofs.YtjfkfiffakbagaaGreatDoor


/-
  What every desk keeps to is kept by every line: nothing has more taken than it has, nobody waits who fits.
-/
namespace Go.Proofs.YtjfkfiffakbagaaGreatDoor
namespace Desk

theorem EntOk.small {now : Int} {e : Ent} (h : EntOk now e) : Small e := ⟨by have := h.u1; omega, h.u9, by have := h.sl; omega⟩
/-- What is kept to while those who wait are looked at. -/
structure Mid (s : St) : Prop where
  tl : s.ts.length ≤ 4
  tu : ∀ t ∈ s.ts, 1 ≤ t.2 ∧ t.2 ≤ 9
  tn : s.ts.Pairwise fun t u => sameB t.1 u.1 = false
  ids : Ids s.es
  idb : ∀ e ∈ s.es, 1 ≤ e.id ∧ e.id ≤ s.given
  g0 : 0 ≤ s.given
  g1 : s.given ≤ 60
  n0 : 0 ≤ s.now
  n1 : s.now ≤ 1048320
  en : ∀ e ∈ s.es, EntOk s.now e
  th : ∀ e ∈ s.es, e.units ≤ unitsN e.thing s.ts
  wa : waitN s.es ≤ 6
  wi : ∀ name x, takenN name x s.es ≤ unitsN name s.ts
theorem Inv.mid {s : St} (h : Inv s) : Mid s := ⟨h.tl, h.tu, h.tn, h.ids, h.idb, h.g0, h.g1, h.n0, h.n1, h.en, h.th, h.wa, h.wi⟩
theorem Mid.inv {s : St} (h : Mid s) (no : ∀ e ∈ s.es, e.kind = 3 → fitsN s.ts s.es e.thing e.units e.spans = false) : Inv s := ⟨h.tl, h.tu, h.tn, h.ids, h.idb, h.g0, h.g1, h.n0, h.n1, h.en, h.th, h.wa, no, h.wi⟩
theorem Mid.small {s : St} (h : Mid s) : ∀ e ∈ s.es, Small e := fun e he => (h.en e he).small
theorem Mid.pos {s : St} (h : Mid s) : Pos s.es := Small.pos h.small

theorem unitsN_congr {a b : ByteArray} (h : sameB a b = true) : ∀ ts : List (ByteArray × Int), unitsN a ts = unitsN b ts
  | [] => rfl
  | t :: r => by simp only [unitsN, sameB_congr (c := t.1) h, unitsN_congr h r]
theorem ofB_congr {a b : ByteArray} (h : sameB a b = true) (e : Ent) : ofB a e = ofB b e := by unfold ofB; rw [sameB_congr h]
theorem takenN_congr {a b : ByteArray} (h : sameB a b = true) (x : Int) : ∀ es : List Ent, takenN a x es = takenN b x es
  | [] => rfl
  | e :: r => by simp only [takenN, ofB_congr h, takenN_congr h x r]
theorem unitsN_nonneg {ts : List (ByteArray × Int)} (h : ∀ t ∈ ts, 1 ≤ t.2 ∧ t.2 ≤ 9) (name : ByteArray) : 0 ≤ unitsN name ts ∧ unitsN name ts ≤ 9 := by
  induction ts with
  | nil => simp [unitsN]
  | cons t r ih =>
    have i := ih (fun u hu => h u (by simp [hu]))
    have j := h t (by simp)
    simp only [unitsN]
    split <;> omega
theorem takenN_nonneg {name : ByteArray} {x : Int} {es : List Ent} (h : Pos es) : 0 ≤ takenN name x es := by
  induction es with
  | nil => simp [takenN]
  | cons e r ih =>
    have i := ih (fun z hz => h z (by simp [hz]))
    have c : 0 ≤ timesN e.spans x * e.units := Int.mul_nonneg (timesN_bd e.spans x).1 (h e (by simp))
    simp only [takenN]
    split <;> omega
theorem takenN_filter {name : ByteArray} {x : Int} (p : Ent → Bool) : ∀ {es : List Ent}, Pos es → takenN name x (es.filter p) ≤ takenN name x es
  | [], _ => Int.le_refl _
  | e :: r, h => by
    have i := takenN_filter (name := name) (x := x) p (es := r) (fun z hz => h z (by simp [hz]))
    have c : 0 ≤ timesN e.spans x * e.units := Int.mul_nonneg (timesN_bd e.spans x).1 (h e (by simp))
    rw [List.filter_cons]
    split
    · simp only [takenN]; omega
    · simp only [takenN]; split <;> omega
/-- Who does not fit does not fit where more is taken. -/
theorem fits_anti {ts : List (ByteArray × Int)} {es es' : List Ent} {name : ByteArray} {u : Int} {L : List (Int × Int)} (hp : Pos es) (hp' : Pos es') (hu : 0 ≤ u) (h : ∀ x, takenN name x es ≤ takenN name x es') (k : fitsN ts es name u L = false) : fitsN ts es' name u L = false := by
  cases c : fitsN ts es' name u L
  · rfl
  · have : fitsN ts es name u L = true := (fitsN_iff hp hu).2 (fun x hx => by
      have := (fitsN_iff hp' hu).1 c x hx
      have := h x
      omega)
    rw [this] at k; cases k
/-- Something of a list of entries is booked. -/
theorem takenN_mid (name : ByteArray) (x : Int) (l r : List Ent) (e : Ent) (hk : e.kind = 3) : takenN name x (l ++ bookE e :: r) = takenN name x (l ++ e :: r) + if sameB e.thing name then timesN e.spans x * e.units else 0 := by
  have o : ofB name e = false := by simp [ofB, hk]
  rw [takenN_append, takenN_append]
  simp only [takenN, o, ofB_book, Bool.false_eq_true, if_false]
  show _ + ((if sameB e.thing name = true then timesN e.spans x * e.units else 0) + _) = _
  omega
theorem ids_mid {l r : List Ent} {e e' : Ent} (h : Ids (l ++ e :: r)) (k : e'.id = e.id) : Ids (l ++ e' :: r) := by
  unfold Ids at *
  simpa [k] using h
theorem waitN_append (l r : List Ent) : waitN (l ++ r) = waitN l + waitN r := by
  unfold waitN; rw [List.filter_append, List.length_append]; omega
theorem waitN_cons (e : Ent) (r : List Ent) : waitN (e :: r) = (if e.kind = 3 then 1 else 0) + waitN r := by
  unfold waitN
  rw [List.filter_cons]
  by_cases c : e.kind = 3
  · rw [if_pos (by simp [c]), if_pos c]; simp; omega
  · rw [if_neg (by simp [c]), if_neg c]; omega
theorem EntOk.book {now : Int} {e : Ent} (h : EntOk now e) : EntOk now (bookE e) := ⟨h.u1, h.u9, h.sl, h.s0, h.sp, h.ri, .inl ⟨rfl, rfl⟩⟩
/-- One who waits and fits is booked. -/
theorem Mid.grant {ts : List (ByteArray × Int)} {l r : List Ent} {e : Ent} {given now : Int} (h : Mid ⟨ts, l ++ e :: r, given, now⟩) (hk : e.kind = 3) (hf : fitsN ts (l ++ e :: r) e.thing e.units e.spans = true) : Mid ⟨ts, l ++ bookE e :: r, given, now⟩ := by
  have he : e ∈ l ++ e :: r := by simp
  have mem : ∀ z ∈ l ++ bookE e :: r, z = bookE e ∨ z ∈ l ++ e :: r := by
    intro z hz
    simp only [List.mem_append, List.mem_cons] at hz ⊢
    rcases hz with hz | hz | hz
    · exact .inr (.inl hz)
    · exact .inl hz
    · exact .inr (.inr (.inr hz))
  have u1 := (h.en e he).u1
  refine ⟨h.tl, h.tu, h.tn, ids_mid h.ids rfl, fun z hz => ?_, h.g0, h.g1, h.n0, h.n1, fun z hz => ?_, fun z hz => ?_, ?_, fun name x => ?_⟩
  · rcases mem z hz with rfl | hz
    · exact h.idb e he
    · exact h.idb z hz
  · rcases mem z hz with rfl | hz
    · exact (h.en e he).book
    · exact h.en z hz
  · rcases mem z hz with rfl | hz
    · exact h.th e he
    · exact h.th z hz
  · have := h.wa
    show waitN (l ++ bookE e :: r) ≤ 6
    have this : waitN (l ++ e :: r) ≤ 6 := this
    rw [waitN_append, waitN_cons] at this ⊢
    have e1 : (bookE e).kind = 1 := rfl
    rw [if_neg (by rw [e1]; omega)]
    rw [if_pos hk] at this
    omega
  · show takenN name x (l ++ bookE e :: r) ≤ unitsN name ts
    rw [takenN_mid name x l r e hk]
    have w : takenN name x (l ++ e :: r) ≤ unitsN name ts := h.wi name x
    split
    · rename_i c
      by_cases t : 0 < timesN e.spans x
      · have := (fitsN_iff h.pos (by omega)).1 hf x t
        rw [takenN_congr c x, unitsN_congr c ts] at this
        exact this
      · have b := (timesN_bd e.spans x).1
        have : timesN e.spans x = 0 := by omega
        rw [this]; simpa using w
    · omega
theorem grantGo_is (ts : List (ByteArray × Int)) (given now : Int) : ∀ (r done : List Ent), Mid ⟨ts, done ++ r, given, now⟩ → (∀ e ∈ done, e.kind = 3 → fitsN ts (done ++ r) e.thing e.units e.spans = false) →
    Inv ⟨ts, (grantGo ts done r).1, given, now⟩
  | [], done, h, no => by
    simp only [grantGo]
    rw [List.append_nil] at h no
    exact h.inv no
  | e :: r, done, h, no => by
    simp only [grantGo]
    by_cases c : e.kind = 3 ∧ fitsN ts (done ++ e :: r) e.thing e.units e.spans = true
    · rw [if_pos c]
      have h' := h.grant c.1 c.2
      refine grantGo_is ts given now r (done ++ [bookE e]) (by simpa using h') (fun z hz hk => ?_)
      rcases List.mem_append.1 hz with hz | hz
      · have hze : z ∈ done ++ e :: r := by simp [hz]
        refine fits_anti (es := done ++ e :: r) h.pos (by simpa using h'.pos) (by have := (h.en z hze).u1; omega) (fun x => ?_) (no z hz hk)
        rw [show done ++ [bookE e] ++ r = done ++ bookE e :: r from by simp, takenN_mid _ x done r e c.1]
        have := Int.mul_nonneg (timesN_bd e.spans x).1 (show 0 ≤ e.units by have := (h.en e (by simp)).u1; omega)
        split <;> omega
      · have : z = bookE e := by simpa using hz
        rw [this] at hk
        exact absurd hk (by show ¬ (1 : Int) = 3; omega)
    · rw [if_neg c]
      refine grantGo_is ts given now r (done ++ [e]) (by simpa using h) (fun z hz hk => ?_)
      rw [show done ++ [e] ++ r = done ++ e :: r from by simp]
      rcases List.mem_append.1 hz with hz | hz
      · exact no z hz hk
      · have : z = e := by simpa using hz
        subst this
        cases hf : fitsN ts (done ++ z :: r) z.thing z.units z.spans
        · rfl
        · exact absurd ⟨hk, hf⟩ c
theorem grantS_is {ts : List (ByteArray × Int)} {es : List Ent} {given now : Int} (h : Mid ⟨ts, es, given, now⟩) : Inv ⟨ts, (grantS ts es).1, given, now⟩ :=
  grantGo_is ts given now es [] (by simpa using h) (by simp)
theorem grantGo_no (ts : List (ByteArray × Int)) : ∀ (r done : List Ent), (∀ e ∈ r, e.kind = 3 → fitsN ts (done ++ r) e.thing e.units e.spans = false) → grantGo ts done r = (done ++ r, [])
  | [], done, _ => by simp [grantGo]
  | e :: r, done, h => by
    simp only [grantGo]
    rw [if_neg]
    · rw [grantGo_no ts r (done ++ [e]) (fun z hz hk => by rw [show done ++ [e] ++ r = done ++ e :: r from by simp]; exact h z (by simp [hz]) hk)]
      simp
    · rintro ⟨c1, c2⟩
      rw [h e (by simp) c1] at c2; cases c2
/-- Where nobody waits who fits, nobody is granted. -/
theorem grantS_no {s : St} (h : Inv s) : grantS s.ts s.es = (s.es, []) := by
  unfold grantS
  rw [grantGo_no s.ts s.es [] (by simpa using h.no)]
  simp

theorem nextT_le (tq : Int) : ∀ es : List Ent, nextT tq es ≤ tq ∧ (∀ e ∈ es, e.kind ≠ 1 → nextT tq es ≤ e.till) ∧ (nextT tq es = tq ∨ ∃ e ∈ es, e.kind ≠ 1 ∧ e.till = nextT tq es)
  | [] => ⟨Int.le_refl _, by simp, .inl rfl⟩
  | e :: r => by
    obtain ⟨h1, h2, h3⟩ := nextT_le tq r
    simp only [nextT]
    split
    · rename_i c
      refine ⟨by omega, fun z hz hk => ?_, .inr ⟨e, by simp, c.1, rfl⟩⟩
      rcases List.mem_cons.1 hz with rfl | hz
      · omega
      · have := h2 z hz hk; omega
    · rename_i c
      refine ⟨h1, fun z hz hk => ?_, ?_⟩
      · rcases List.mem_cons.1 hz with rfl | hz
        · apply Classical.byContradiction
          intro d
          exact c ⟨hk, by omega⟩
        · exact h2 z hz hk
      · rcases h3 with h3 | ⟨z, hz, k⟩
        · exact .inl h3
        · exact .inr ⟨z, by simp [hz], k⟩
theorem waitN_filter (p : Ent → Bool) (l : List Ent) : waitN (l.filter p) ≤ waitN l := by
  unfold waitN
  have := ((List.filter_sublist (p := p) (l := l)).filter (fun e => e.kind == 3)).length_le
  omega
/-- Some go. -/
theorem Mid.filter {ts : List (ByteArray × Int)} {es : List Ent} {given now now' : Int} (h : Mid ⟨ts, es, given, now⟩) (p : Ent → Bool) (hn : now ≤ now') (hn' : now' ≤ 1048320) (hp : ∀ e ∈ es, p e = true → e.kind ≠ 1 → now' < e.till) : Mid ⟨ts, es.filter p, given, now'⟩ := by
  have n0 : 0 ≤ now := h.n0
  have sub : ∀ z ∈ es.filter p, z ∈ es := fun z hz => (List.mem_filter.1 hz).1
  refine ⟨h.tl, h.tu, h.tn, filter_ids p h.ids, fun z hz => h.idb z (sub z hz), h.g0, h.g1, by show 0 ≤ now'; omega, hn', fun z hz => ?_, fun z hz => h.th z (sub z hz), ?_, fun name x => ?_⟩
  · have k := h.en z (sub z hz)
    refine ⟨k.u1, k.u9, k.sl, k.s0, k.sp, k.ri, ?_⟩
    rcases k.kd with kd | ⟨kd, k2, k3, k4⟩
    · exact .inl kd
    · exact .inr ⟨kd, hp z (sub z hz) (List.mem_filter.1 hz).2 (by omega), k3, k4⟩
  · have := h.wa
    have this : waitN es ≤ 6 := this
    have := waitN_filter p es
    show waitN (es.filter p) ≤ 6
    omega
  · have a := takenN_filter (name := name) (x := x) p h.pos
    have b := h.wi name x
    show takenN name x (es.filter p) ≤ unitsN name ts
    have a : takenN name x (es.filter p) ≤ takenN name x es := a
    have b : takenN name x es ≤ unitsN name ts := b
    omega
theorem grantGo_len (ts : List (ByteArray × Int)) : ∀ (r done : List Ent), (grantGo ts done r).1.length = done.length + r.length
  | [], done => by simp [grantGo]
  | e :: r, done => by
    simp only [grantGo]
    split
    · show (grantGo ts (done ++ [bookE e]) r).1.length = _
      rw [grantGo_len ts r]; simp; omega
    · rw [grantGo_len ts r]; simp; omega
theorem grantS_len (ts : List (ByteArray × Int)) (es : List Ent) : (grantS ts es).1.length = es.length := by unfold grantS; rw [grantGo_len]; simp
theorem tickGo_is (ts : List (ByteArray × Int)) (given tq : Int) (ht : tq ≤ 1048320) : ∀ (k : Nat) (es : List Ent) (now : Int), es.length < k ∨ now = tq → now ≤ tq → Inv ⟨ts, es, given, now⟩ → Inv ⟨ts, (tickGo ts k es now tq).1, given, tq⟩
  | 0, es, now, hk, hle, h => by
    have : now = tq := by omega
    subst this
    simpa [tickGo] using h
  | k + 1, es, now, hk, hle, h => by
    simp only [tickGo]
    by_cases c : now < tq
    · rw [if_pos c]
      obtain ⟨n1, n2, n3⟩ := nextT_le tq es
      have nn : now < nextT tq es := by
        rcases n3 with e | ⟨z, hz, zk, e⟩
        · omega
        · rcases (h.en z hz).kd with kd | ⟨_, k2, _⟩
          · exact absurd kd.1 zk
          · have k2 : now < z.till := k2
            omega
      have hm := h.mid.filter (now' := nextT tq es) (fun e => !endsB (nextT tq es) e) (by omega) (by omega) (fun e he hp hk1 => by
        have := n2 e he hk1
        have hp : (!endsB (nextT tq es) e) = true := hp
        simp [endsB] at hp
        rcases hp with e1 | e1
        · exact absurd e1 hk1
        · omega)
      have hi := grantS_is hm
      refine tickGo_is ts given tq ht k _ _ ?_ n1 hi
      by_cases e : nextT tq es = tq
      · exact .inr e
      · left
        rcases n3 with e' | ⟨z, hz, zk, e'⟩
        · exact absurd e' e
        · rw [grantS_len]
          have : (es.filter fun e => !endsB (nextT tq es) e).length < es.length := by
            rw [← List.countP_eq_length_filter]
            have hnot : ¬ List.countP (fun e => !endsB (nextT tq es) e) es = es.length := by
              rw [List.countP_eq_length]
              intro hall
              have := hall z hz
              simp [endsB, e'] at this
              exact zk this
            have := List.countP_le_length (p := fun e => !endsB (nextT tq es) e) (l := es)
            omega
          omega
    · rw [if_neg c]
      have : now = tq := by omega
      subst this
      exact h

theorem unitsN_snoc (name : ByteArray) (t : ByteArray × Int) : ∀ ts : List (ByteArray × Int), unitsN name (ts ++ [t]) = if (ts.any fun u => sameB u.1 name) = true then unitsN name ts else if sameB t.1 name then t.2 else 0
  | [] => by simp [unitsN]
  | u :: r => by
    have ih := unitsN_snoc name t r
    have e1 : unitsN name (u :: r ++ [t]) = if sameB u.1 name then u.2 else unitsN name (r ++ [t]) := rfl
    have e2 : unitsN name (u :: r) = if sameB u.1 name then u.2 else unitsN name r := rfl
    rw [e1, e2]
    by_cases h : sameB u.1 name = true
    · have : ((u :: r).any fun u => sameB u.1 name) = true := List.any_eq_true.2 ⟨u, by simp, h⟩
      rw [if_pos h, if_pos h, if_pos this]
    · rw [if_neg h, if_neg h, ih]
      by_cases c : (r.any fun u => sameB u.1 name) = true
      · have : ((u :: r).any fun u => sameB u.1 name) = true := by
          obtain ⟨z, hz, k⟩ := List.any_eq_true.1 c
          exact List.any_eq_true.2 ⟨z, by simp [hz], k⟩
        rw [if_pos c, if_pos this]
      · have : ¬ ((u :: r).any fun u => sameB u.1 name) = true := by
          intro k0
          obtain ⟨z, hz, k⟩ := List.any_eq_true.1 k0
          rcases List.mem_cons.1 hz with e | hz
          · rw [e] at k; exact h k
          · exact c (List.any_eq_true.2 ⟨z, hz, k⟩)
        rw [if_neg c, if_neg this]
theorem unitsN_zero {name : ByteArray} : ∀ {ts : List (ByteArray × Int)}, (∀ t ∈ ts, 1 ≤ t.2 ∧ t.2 ≤ 9) → (unitsN name ts = 0 ↔ ∀ t ∈ ts, sameB t.1 name = false)
  | [], _ => by simp [unitsN]
  | u :: r, h => by
    have i := unitsN_zero (name := name) (ts := r) (fun t ht => h t (by simp [ht]))
    have j := h u (by simp)
    simp only [unitsN, List.forall_mem_cons]
    cases c : sameB u.1 name
    · simp only [Bool.false_eq_true, if_false, true_and]; exact i
    · simp only [if_true]
      constructor
      · intro e; omega
      · rintro ⟨e, _⟩; cases e
theorem unitsN_more {name : ByteArray} {ts : List (ByteArray × Int)} {t : ByteArray × Int} (h : ∀ t ∈ ts, 1 ≤ t.2 ∧ t.2 ≤ 9) (hn : unitsN name ts ≠ 0) : unitsN name (ts ++ [t]) = unitsN name ts := by
  rw [unitsN_snoc, if_pos]
  cases c : ts.any fun u => sameB u.1 name
  · exfalso
    apply hn
    rw [unitsN_zero h]
    intro u hu
    cases d : sameB u.1 name
    · rfl
    · have : ts.any (fun u => sameB u.1 name) = true := List.any_eq_true.2 ⟨u, hu, d⟩
      rw [this] at c; cases c
  · rfl
theorem Inv.start : Inv ⟨[], [], 0, 0⟩ :=
  ⟨by simp, by simp, by simp, by simp [Ids], by simp, by simp, by simp, by simp, by simp, by simp, by simp, by simp [waitN], by simp, fun name x => by simp [takenN, unitsN]⟩
/-- One thing more. -/
theorem Inv.thing {s : St} (h : Inv s) {name : ByteArray} {u : Int} (hu : 1 ≤ u ∧ u ≤ 9) (hn : unitsN name s.ts = 0) (hl : s.ts.length ≠ 4) : Inv { s with ts := s.ts ++ [(name, u)] } := by
  have hno := (unitsN_zero h.tu).1 hn
  have un : ∀ m, unitsN m s.ts ≠ 0 → unitsN m (s.ts ++ [(name, u)]) = unitsN m s.ts := fun m hm => unitsN_more h.tu hm
  have pos : ∀ e ∈ s.es, unitsN e.thing s.ts ≠ 0 := fun e he => by
    have := h.th e he
    have := (h.en e he).u1
    omega
  have tl := h.tl
  refine ⟨?_, fun t ht => ?_, ?_, h.ids, h.idb, h.g0, h.g1, h.n0, h.n1, h.en, fun e he => ?_, h.wa, fun e he hk => ?_, fun m x => ?_⟩
  · show (s.ts ++ [(name, u)]).length ≤ 4
    simp; omega
  · rcases List.mem_append.1 ht with ht | ht
    · exact h.tu t ht
    · have : t = (name, u) := by simpa using ht
      subst this; exact hu
  · show (s.ts ++ [(name, u)]).Pairwise _
    rw [List.pairwise_append]
    refine ⟨h.tn, by simp, fun a ha b hb => ?_⟩
    have : b = (name, u) := by simpa using hb
    subst this
    exact hno a ha
  · show e.units ≤ unitsN e.thing (s.ts ++ [(name, u)])
    rw [un _ (pos e he)]; exact h.th e he
  · have := h.no e he hk
    show fitsN (s.ts ++ [(name, u)]) s.es e.thing e.units e.spans = false
    unfold fitsN at this ⊢
    rw [un _ (pos e he)]; exact this
  · show takenN m x s.es ≤ unitsN m (s.ts ++ [(name, u)])
    by_cases c : unitsN m s.ts = 0
    · have w := h.wi m x
      have b := takenN_nonneg (name := m) (x := x) h.mid.pos
      have : 0 ≤ unitsN m (s.ts ++ [(name, u)]) := by
        rw [unitsN_snoc]
        split
        · omega
        · split <;> simp <;> omega
      omega
    · rw [un m c]; exact h.wi m x
/-- One entry more, that fits or waits. -/
theorem Inv.join {s : St} (h : Inv s) {e : Ent} (hg : s.given ≠ 60) (he : EntOk s.now e) (ht : e.units ≤ unitsN e.thing s.ts) (hw : e.kind = 3 → waitN s.es ≠ 6) (hf : e.kind ≠ 3 → fitsN s.ts s.es e.thing e.units e.spans = true) : Mid (joinD s e).1 := by
  have g0 := h.g0
  have g1 := h.g1
  have idb := h.idb
  have wa := h.wa
  have he' : EntOk s.now { e with id := s.given + 1 } := ⟨he.u1, he.u9, he.sl, he.s0, he.sp, he.ri, he.kd⟩
  have mem : ∀ z ∈ s.es ++ [{ e with id := s.given + 1 }], z ∈ s.es ∨ z = { e with id := s.given + 1 } := by
    intro z hz
    rcases List.mem_append.1 hz with hz | hz
    · exact .inl hz
    · exact .inr (by simpa using hz)
  unfold joinD
  refine ⟨h.tl, h.tu, h.tn, ?_, fun z hz => ?_, by show 0 ≤ s.given + 1; omega, by show s.given + 1 ≤ 60; omega, h.n0, h.n1, fun z hz => ?_, fun z hz => ?_, ?_, fun name x => ?_⟩
  · show Ids (s.es ++ [{ e with id := s.given + 1 }])
    unfold Ids
    rw [List.map_append, List.pairwise_append]
    refine ⟨h.ids, by simp, fun a ha b hb => ?_⟩
    obtain ⟨z, hz, rfl⟩ := List.mem_map.1 ha
    have : b = s.given + 1 := by simpa using hb
    have := idb z hz
    omega
  · rcases mem z hz with hz | rfl
    · have := idb z hz
      show 1 ≤ z.id ∧ z.id ≤ s.given + 1
      omega
    · show 1 ≤ s.given + 1 ∧ s.given + 1 ≤ s.given + 1
      omega
  · rcases mem z hz with hz | rfl
    · exact h.en z hz
    · exact he'
  · rcases mem z hz with hz | rfl
    · exact h.th z hz
    · exact ht
  · show waitN (s.es ++ [{ e with id := s.given + 1 }]) ≤ 6
    rw [waitN_append, waitN_cons]
    have e0 : waitN ([] : List Ent) = 0 := by simp [waitN]
    rw [e0]
    show waitN s.es + ((if e.kind = 3 then 1 else 0) + 0) ≤ 6
    by_cases c : e.kind = 3
    · rw [if_pos c]; have := hw c; omega
    · rw [if_neg c]; omega
  · show takenN name x (s.es ++ [{ e with id := s.given + 1 }]) ≤ unitsN name s.ts
    rw [takenN_append]
    have w := h.wi name x
    have e1 : takenN name x [{ e with id := s.given + 1 }] = (if ofB name e then timesN e.spans x * e.units else 0) := by simp [takenN, ofB]
    rw [e1]
    by_cases c : ofB name e = true
    · rw [if_pos c]
      simp [ofB] at c
      by_cases t : 0 < timesN e.spans x
      · have := (fitsN_iff h.mid.pos (by have := he.u1; omega)).1 (hf c.2) x t
        rw [takenN_congr c.1 x, unitsN_congr c.1 s.ts] at this
        exact this
      · have b := (timesN_bd e.spans x).1
        have : timesN e.spans x = 0 := by omega
        rw [this]; simpa using w
    · rw [if_neg c]; omega
theorem booked_split {id : Int} {es : List Ent} {e : Ent} (hi : Ids es) (he : e ∈ es) (hid : e.id = id) : ∃ l r, es = l ++ e :: r ∧ booked id es = l ++ bookE e :: r ∧ kept id es = l ++ r := by
  obtain ⟨l, r, rfl⟩ := List.append_of_mem he
  refine ⟨l, r, rfl, ?_, ?_⟩
  · have hne : ∀ z ∈ l ++ r, z.id ≠ id := by
      intro z hz e1
      unfold Ids at hi
      rw [List.map_append, List.map_cons, List.pairwise_append, List.pairwise_cons] at hi
      rcases List.mem_append.1 hz with hz | hz
      · have := hi.2.2 z.id (List.mem_map.2 ⟨z, hz, rfl⟩) e.id (by simp); omega
      · have := hi.2.1.1 z.id (List.mem_map.2 ⟨z, hz, rfl⟩); omega
    have b1 := booked_none (id := id) (es := l) (fun z hz => hne z (by simp [hz]))
    have b2 := booked_none (id := id) (es := r) (fun z hz => hne z (by simp [hz]))
    unfold booked at b1 b2 ⊢
    rw [List.map_append, List.map_cons, b1, b2, if_pos hid]
  · have hne : ∀ z ∈ l ++ r, z.id ≠ id := by
      intro z hz e1
      unfold Ids at hi
      rw [List.map_append, List.map_cons, List.pairwise_append, List.pairwise_cons] at hi
      rcases List.mem_append.1 hz with hz | hz
      · have := hi.2.2 z.id (List.mem_map.2 ⟨z, hz, rfl⟩) e.id (by simp); omega
      · have := hi.2.1.1 z.id (List.mem_map.2 ⟨z, hz, rfl⟩); omega
    have b1 := kept_none (id := id) (es := l) (fun z hz => hne z (by simp [hz]))
    have b2 := kept_none (id := id) (es := r) (fun z hz => hne z (by simp [hz]))
    unfold kept at b1 b2 ⊢
    rw [List.filter_append, List.filter_cons, b1, b2, if_neg (by simp [hid])]
theorem takenN_held (name : ByteArray) (x : Int) (l r : List Ent) (e : Ent) (hk : e.kind ≠ 3) : takenN name x (l ++ bookE e :: r) = takenN name x (l ++ e :: r) := by
  have o : ofB name e = sameB e.thing name := by
    unfold ofB
    have : (e.kind != 3) = true := by simp [hk]
    rw [this, Bool.and_true]
  rw [takenN_append, takenN_append]
  simp only [takenN, o, ofB_book]
  rfl
/-- What is held is booked. -/
theorem Inv.confirm {s : St} (h : Inv s) {id : Int} {e : Ent} (he : e ∈ s.es) (hid : e.id = id) (hk : e.kind = 2) : Inv { s with es := booked id s.es } := by
  obtain ⟨l, r, h1, h2, _⟩ := booked_split h.ids he hid
  have tk : ∀ name x, takenN name x (booked id s.es) = takenN name x s.es := fun name x => by rw [h2, h1]; exact takenN_held name x l r e (by omega)
  have mem : ∀ z ∈ booked id s.es, z = bookE e ∨ z ∈ s.es := by
    intro z hz
    rcases booked_mem.1 hz with hz | ⟨y, hy, h3, h4⟩
    · exact .inr hz.1
    · have : y = e := h.ids.one hy he (by omega)
      subst this; exact .inl h4
  have hp' : Pos (booked id s.es) := by
    intro z hz
    rcases mem z hz with rfl | hz
    · exact h.mid.pos e he
    · exact h.mid.pos z hz
  refine ⟨h.tl, h.tu, h.tn, booked_ids h.ids, fun z hz => ?_, h.g0, h.g1, h.n0, h.n1, fun z hz => ?_, fun z hz => ?_, ?_, fun z hz hz3 => ?_, fun name x => ?_⟩
  · rcases mem z hz with rfl | hz
    · exact h.idb e he
    · exact h.idb z hz
  · rcases mem z hz with rfl | hz
    · exact (h.en e he).book
    · exact h.en z hz
  · rcases mem z hz with rfl | hz
    · exact h.th e he
    · exact h.th z hz
  · have := h.wa
    show waitN (booked id s.es) ≤ 6
    rw [h1] at this
    rw [h2]
    rw [waitN_append, waitN_cons] at this ⊢
    have e1 : (bookE e).kind = 1 := rfl
    rw [if_neg (by rw [e1]; omega)]
    rw [if_neg (by omega)] at this
    exact this
  · rcases mem z hz with rfl | hz
    · exact absurd hz3 (by show ¬ (1 : Int) = 3; omega)
    · exact fits_anti h.mid.pos hp' (by have := (h.en z hz).u1; omega) (fun x => by rw [tk]; omega) (h.no z hz hz3)
  · show takenN name x (booked id s.es) ≤ unitsN name s.ts
    rw [tk]; exact h.wi name x
theorem findE_some {id : Int} {es : List Ent} {e : Ent} (h : findE id es = some e) : e ∈ es ∧ e.id = id := by
  unfold findE at h
  exact ⟨List.mem_of_find?_eq_some h, by simpa using List.find?_some h⟩
theorem findE_none {id : Int} {es : List Ent} (h : findE id es = none) : ∀ e ∈ es, e.id ≠ id := by
  unfold findE at h
  intro e he
  have := List.find?_eq_none.1 h e he
  simpa using this
theorem Rd.spans_ok {r : Rd.Rule} (h : Rd.Fine r) (he : Rd.docErr r = 0) : SpOk (Rd.spansOf r (Rd.docDays r)) ∧ Risen (Rd.spansOf r (Rd.docDays r)) ∧ Rd.spansOf r (Rd.docDays r) ≠ [] ∧ (Rd.spansOf r (Rd.docDays r)).length ≤ 40 := by
  obtain ⟨_, k1, k2, k3⟩ := (Rd.err_same h).2 he
  have f0 := h.f0
  have m0 := h.m0
  have i1 := h.i1
  refine ⟨fun s hs => ?_, ?_, by simpa [Rd.spansOf] using k1, by simpa [Rd.spansOf] using k2⟩
  · obtain ⟨d, hd, rfl⟩ := List.mem_map.1 hs
    have a := Rd.docDays_mem h hd
    have b := k3 d hd
    show 0 ≤ d * 1440 + r.mn ∧ d * 1440 + r.mn < d * 1440 + r.mn + r.mi ∧ d * 1440 + r.mn + r.mi ≤ 1048320
    omega
  · unfold Risen Rd.spansOf
    rw [List.pairwise_map]
    refine List.Pairwise.imp ?_ (Rd.docDays_up h)
    intro a b hab
    show a * 1440 + r.mn < b * 1440 + r.mn
    omega
theorem askedN_ok {ts : List (ByteArray × Int)} {name : ByteArray} {u : Int} (h : askedN ts name u = 0) : unitsN name ts ≠ 0 ∧ u ≤ unitsN name ts := by
  unfold askedN at h
  split at h
  · omega
  · split at h
    · omega
    · constructor <;> omega
/-- A line leaves the desk such that those who wait may be looked at; with an error it leaves it. -/
theorem does_mid {s : St} (h : Inv s) {l : Line} (hl : LineOk l) : Mid (doesD s l).1 := by
  cases l with
  | thing name u =>
    simp only [doesD]
    split
    · exact h.mid
    · split
      · exact h.mid
      · rename_i c1 c2
        exact (h.thing hl (by simpa using c1) c2).mid
  | enter k name u fr til long =>
    simp only [doesD]
    split
    · exact h.mid
    · rename_i c
      simp only [ne_eq, Decidable.not_not] at c
      unfold enterErr at c
      split at c
      · omega
      · rename_i c1
        simp only [ne_eq, Decidable.not_not] at c1
        split at c
        · omega
        · rename_i c2
          split at c
          · omega
          · rename_i c3
            obtain ⟨lk, l1, l2, l3, l4, l5, l6⟩ := hl
            obtain ⟨a1, a2⟩ := askedN_ok c1
            have n0 := h.n0
            refine h.join c3 ⟨l1, l2, by simp [entOf], by simp [entOf], fun s hs => ?_, by simp [entOf, Risen], ?_⟩ a2 (fun hk => ?_) (fun hk => ?_)
            · have : s = (fr, til) := by simpa [entOf] using hs
              subst this
              show 0 ≤ fr ∧ fr < til ∧ til ≤ 1048320
              omega
            · show (k = 1 ∧ (if k = 1 then 0 else s.now + long) = 0) ∨ ((k = 2 ∨ k = 3) ∧ s.now < (if k = 1 then 0 else s.now + long) ∧ (if k = 1 then 0 else s.now + long) ≤ 1048320 ∧ [(fr, til)].length = 1)
              rcases lk with ⟨lk, _⟩ | ⟨lk, l7, l8⟩
              · exact .inl ⟨lk, by rw [if_pos lk]⟩
              · rw [if_neg (by omega)]
                exact .inr ⟨lk, by omega, by omega, rfl⟩
            · have hk : k = 3 := hk
              rw [if_pos hk] at c
              split at c
              · omega
              · assumption
            · have hk : k ≠ 3 := hk
              rw [if_neg hk] at c
              show fitsN s.ts s.es name u [(fr, til)] = true
              split at c
              · assumption
              · omega
  | series name u r =>
    simp only [doesD]
    split
    · exact h.mid
    · rename_i c
      simp only [ne_eq, Decidable.not_not] at c
      unfold seriesErr at c
      split at c
      · omega
      · rename_i c1
        simp only [ne_eq, Decidable.not_not] at c1
        split at c
        · omega
        · rename_i c2
          simp only [ne_eq, Decidable.not_not] at c2
          split at c
          · omega
          · rename_i c3
            obtain ⟨l1, l2, l3⟩ := hl
            obtain ⟨a1, a2⟩ := askedN_ok c1
            obtain ⟨p1, p2, p3, p4⟩ := Rd.spans_ok l3 c2
            refine h.join c3 ⟨l1, l2, p4, p3, p1, p2, .inl ⟨rfl, rfl⟩⟩ a2 (fun hk => ?_) (fun _ => ?_)
            · exact absurd hk (by show ¬ (1 : Int) = 3; omega)
            · show fitsN s.ts s.es name u (Rd.spansOf r (Rd.docDays r)) = true
              split at c
              · assumption
              · omega
  | confirm id =>
    simp only [doesD]
    cases hf : findE id s.es with
    | none => exact h.mid
    | some e =>
      simp only
      split
      · exact h.mid
      · rename_i c
        obtain ⟨f1, f2⟩ := findE_some hf
        exact (h.confirm f1 f2 (by simpa using c)).mid
  | cancel id =>
    simp only [doesD]
    cases hf : findE id s.es with
    | none => exact h.mid
    | some e =>
      exact h.mid.filter (now' := s.now) (fun e => e.id != id) (Int.le_refl _) h.n1 (fun z hz _ hk => by
        rcases (h.en z hz).kd with kd | ⟨_, k2, _⟩
        · exact absurd kd.1 hk
        · exact k2)
  | list name fr til =>
    simp only [doesD]
    split
    · exact h.mid
    · split <;> exact h.mid
  | waiting => exact h.mid
  | peak name fr til =>
    simp only [doesD]
    split
    · exact h.mid
    · split <;> exact h.mid
  | find name u long fr til =>
    simp only [doesD]
    split
    · exact h.mid
    · split <;> exact h.mid
  | expand r =>
    simp only [doesD]
    split <;> exact h.mid
  | tick n =>
    simp only [doesD]
    split
    · exact h.mid
    · rename_i c
      have hl : 1 ≤ n ∧ n ≤ 1048320 := hl
      exact (tickGo_is s.ts s.given (s.now + n) (by omega) (s.es.length + 1) s.es s.now (.inl (by omega)) (by omega) h).mid
  | clock => exact h.mid
theorem does_err {s : St} {l : Line} (h : (doesD s l).2.err ≠ 0) : (doesD s l).1 = s := by
  cases l with
  | thing name u =>
    simp only [doesD] at h ⊢
    by_cases c1 : unitsN name s.ts ≠ 0
    · rw [if_pos c1]
    · rw [if_neg c1] at h ⊢
      by_cases c2 : s.ts.length = 4
      · rw [if_pos c2]
      · rw [if_neg c2] at h; exact absurd rfl h
  | enter k name u fr til long =>
    simp only [doesD] at h ⊢
    by_cases c : enterErr s k name u fr til long ≠ 0
    · rw [if_pos c]
    · rw [if_neg c] at h; exact absurd rfl h
  | series name u r =>
    simp only [doesD] at h ⊢
    by_cases c : seriesErr s name u r ≠ 0
    · rw [if_pos c]
    · rw [if_neg c] at h; exact absurd rfl h
  | confirm id =>
    simp only [doesD] at h ⊢
    cases hf : findE id s.es with
    | none => rfl
    | some e =>
      rw [hf] at h
      simp only at h ⊢
      by_cases c : e.kind ≠ 2
      · rw [if_pos c]
      · rw [if_neg c] at h; exact absurd rfl h
  | cancel id =>
    simp only [doesD] at h ⊢
    cases hf : findE id s.es with
    | none => rfl
    | some e => rw [hf] at h; exact absurd rfl h
  | list name fr til =>
    simp only [doesD]
    split
    · rfl
    · split <;> rfl
  | waiting => rfl
  | peak name fr til =>
    simp only [doesD]
    split
    · rfl
    · split <;> rfl
  | find name u long fr til =>
    simp only [doesD]
    split
    · rfl
    · split <;> rfl
  | expand r =>
    simp only [doesD]
    split <;> rfl
  | tick n =>
    simp only [doesD] at h ⊢
    by_cases c : 1048320 < s.now + n
    · rw [if_pos c]
    · rw [if_neg c] at h; exact absurd rfl h
  | clock => rfl
theorem step_inv {s : St} (h : Inv s) {l : Line} (hl : LineOk l) : Inv (stepD s l).1 := by
  unfold stepD
  split
  · rename_i c
    rw [does_err c]; exact h
  · exact grantS_is (does_mid h hl)

end Desk
end Go.Proofs.YtjfkfiffakbagaaGreatDoor


/-
  The program's desk as it lies in memory: its two maps, those who wait, the heap of what ends, its things, its entries.
-/
namespace Go.Proofs.YtjfkfiffakbagaaGreatDoor
open Go.RowKit

theorem baLoop (b : ByteArray) : ∀ (n i : Nat) (r : List UInt8), b.size - i = n → ByteArray.toList.loop b i r = r.reverse ++ b.data.toList.drop i := by
  intro n
  induction n with
  | zero =>
    intro i r h
    rw [ByteArray.toList.loop, if_neg (by omega), List.drop_eq_nil_of_le (by simp; omega)]
    simp
  | succ n ih =>
    intro i r h
    have hi : i < b.size := by omega
    rw [ByteArray.toList.loop, if_pos hi, ih (i + 1) _ (by omega)]
    have hl : i < b.data.toList.length := by simpa using hi
    rw [List.drop_eq_getElem_cons hl]
    simp [ByteArray.get!, hi]
theorem baList (b : ByteArray) : b.toList = b.data.toList := by
  unfold ByteArray.toList
  rw [baLoop b b.size 0 [] (by omega)]
  simp
theorem sameB_eq {a b : ByteArray} : Desk.sameB a b = true ↔ a = b := by
  constructor
  · intro h
    have h := Desk.sameB_iff.1 h
    rw [baList, baList] at h
    cases a; cases b
    simp at h
    rw [h]
  · rintro rfl; exact Desk.sameB_self _
theorem sameB_ne {a b : ByteArray} : Desk.sameB a b = false ↔ a ≠ b := by
  cases h : Desk.sameB a b
  · simp; rintro rfl; rw [Desk.sameB_self] at h; cases h
  · simp; exact sameB_eq.1 h

/-- The keys of the two maps. -/
def litS (a : ByteArray) : Lit := .string a.data.toList
def litI (n : Int) : Lit := .int .i64 n
theorem litS_inj {a b : ByteArray} (h : litS a = litS b) : a = b := by
  cases a; cases b
  simp [litS] at h
  rw [h]
theorem litI_inj {a b : Int} (h : litI a = litI b) : a = b := by simpa [litI] using h
theorem keyStr : Maps.Keyed Tryz.prog 9 := Maps.string_keyed Tryz.underlying9
theorem keyInt : Maps.Keyed Tryz.prog 3 := Maps.int_keyed Tryz.underlying3
theorem key_str {s : ByteArray} (h : s.size ≤ 1000) : keyOf Tryz.prog 9 (.string s) = some (litS s) := by
  unfold keyOf mapKey
  rw [Tryz.underlying9]
  simp only
  rw [if_pos (by unfold maxLen; omega)]; rfl
theorem key_int {n : Int} (h1 : -1000000000000 ≤ n) (h2 : n ≤ 1000000000000) : keyOf Tryz.prog 3 (.int .i64 n) = some (litI n) := by
  unfold keyOf mapKey
  rw [Tryz.underlying3]
  simp only
  have m1 : IntKind.i64.min = -9223372036854775808 := rfl
  have m2 : IntKind.i64.max = 9223372036854775807 := rfl
  have hw : (Lit.int .i64 n).wf = true := by simp [Lit.wf, m1, m2]; omega
  rw [if_pos ⟨trivial, hw⟩]; rfl

/-- What a block of the desk's is. -/
inductive Col where
  | desk | mt | me | wa | he | ent | span
  | thing (i : Nat)

/-- A thing with where it lies. -/
structure TG where
  name : ByteArray
  units : Int
  tb : Nat
  A : List Bool → Int
  T : Avl.S
/-- An entry with where it and its spans lie. -/
structure EG where
  e : Desk.Ent
  eb : Nat
  B : Nat
  cap : Nat
  tb : Nat
def thAt (tg : List TG) (name : ByteArray) : Option Nat := ((tg.map fun t => (t.name, t.tb)).find? fun p => Desk.sameB p.1 name).map (·.2)
def enAt (eg : List EG) (id : Int) : Option Nat := ((eg.map fun g => (g.e.id, g.eb)).find? fun p => decide (p.1 = id)).map (·.2)

/-- An entry in memory, whole. -/
structure ENK (w : World) (g : EG) : Prop where
  en : ENT w g.eb g.e.id g.tb g.e.units g.B g.cap g.e.spans
  k : w.cell? ⟨g.eb, 1, none⟩ = some (.int .i64 g.e.kind)
  u : w.cell? ⟨g.eb, 5, none⟩ = some (.int .i64 g.e.till)
  fz : ∀ o, w.frozen? ⟨g.eb, o, none⟩ = false
  bl : ∃ cs, w.heap[g.eb]? = some (.cells cs 194 (0, 0))
theorem ENK.lt {w : World} {g : EG} (h : ENK w g) : g.eb < w.heap.size := World.block_lt_of_cell? _ _ h.k
theorem ENK.off {w w' : World} {g : EG} {G : List Nat} (h : ENK w g) (k : Off G w w') (h1 : g.eb ∉ G) (h2 : g.B ∉ G) : ENK w' g :=
  ⟨h.en.off k h1 h2, k.cell h1 h.k, k.cell h1 h.u, fun o => (k.frozen h1 h.lt).trans (h.fz o), by obtain ⟨cs, e⟩ := h.bl; exact ⟨cs, (k.block _ h.lt h1).trans e⟩⟩

def ptrB (b : Nat) : Value := .pointer (some ⟨b, 0, none⟩)

/-- What the desk holds. -/
structure Raw where
  now : Int
  given : Int
  tg : List TG
  eg : List EG
  wl : List Nat
  hl : List Hp.Hi

structure DK (w : World) (d : Nat) (r : Raw) (col : Nat → Option Col) : Prop where
  c0 : w.cell? ⟨d, 0, none⟩ = some (.int .i64 r.now)
  c1 : w.cell? ⟨d, 1, none⟩ = some (.int .i64 r.given)
  mt : ∃ m f, w.cell? ⟨d, 2, none⟩ = some (.map (some m)) ∧ col m = some .mt ∧ PMap Tryz.prog 9 w m r.tg.length f r.tg.length ∧ ∀ name, f (litS name) = thAt r.tg name
  me : ∃ m f, w.cell? ⟨d, 3, none⟩ = some (.map (some m)) ∧ col m = some .me ∧ PMap Tryz.prog 3 w m r.eg.length f r.eg.length ∧ ∀ id, f (litI id) = enAt r.eg id
  wa : ∃ v, w.cell? ⟨d, 4, none⟩ = some v ∧ w.ownsRow 0 191 1 v r.wl.length (r.wl.map ptrB) ∧ ∀ b, v.ownBlock = some b → col b = some .wa
  he : ∃ v, HP w d 5 v r.hl ∧ ∀ b, v.ownBlock = some b → col b = some .he
  th : ∀ (i : Nat) (h : i < r.tg.length), ∃ ul us Fl Fs, TH w r.tg[i].tb r.tg[i].name r.tg[i].units r.tg[i].A r.tg[i].T ul us Fl Fs ∧ ∀ k ∈ r.tg[i].tb :: (Fl ++ Fs), col k = some (.thing i)
  en : ∀ g ∈ r.eg, ENK w g ∧ col g.eb = some .ent ∧ col g.B = some .span
  nd : (r.eg.map (·.eb)).Nodup
  ni : (r.eg.map (·.e.id)).Nodup
  fz : ∀ o, w.frozen? ⟨d, o, none⟩ = false
  dc : col d = some .desk
  lt : ∀ k c, col k = some c → k < w.heap.size

/-- The desk in a later world in which none of its blocks has changed. -/
theorem DK.off {w w' : World} {d : Nat} {r : Raw} {col : Nat → Option Col} {G : List Nat} (h : DK w d r col) (k : Off G w w') (hG : ∀ x ∈ G, col x = none) : DK w' d r col := by
  have no : ∀ {x : Nat} {c : Col}, col x = some c → x ∉ G := fun hx hg => by rw [hG _ hg] at hx; cases hx
  have hd := no h.dc
  refine ⟨k.cell hd h.c0, k.cell hd h.c1, ?_, ?_, ?_, ?_, ?_, ?_, h.nd, h.ni, fun o => (k.frozen hd (h.lt d _ h.dc)).trans (h.fz o), h.dc, fun x c hx => Nat.lt_of_lt_of_le (h.lt x c hx) k.size⟩
  · obtain ⟨m, f, a1, a2, a3, a4⟩ := h.mt
    exact ⟨m, f, k.cell hd a1, a2, a3.block (k.block m (h.lt m _ a2) (no a2)), a4⟩
  · obtain ⟨m, f, a1, a2, a3, a4⟩ := h.me
    exact ⟨m, f, k.cell hd a1, a2, a3.block (k.block m (h.lt m _ a2) (no a2)), a4⟩
  · obtain ⟨v, a1, a2, a3⟩ := h.wa
    exact ⟨v, k.cell hd a1, ownOff a2 k (fun b hb => no (a3 b hb)), a3⟩
  · obtain ⟨v, a1, a2⟩ := h.he
    exact ⟨v, a1.off k hd (fun b hb => no (a2 b hb)), a2⟩
  · intro i hi
    obtain ⟨ul, us, Fl, Fs, a1, a2⟩ := h.th i hi
    exact ⟨ul, us, Fl, Fs, a1.off k (fun x hx => no (a2 x hx)), a2⟩
  · intro g hg
    obtain ⟨a1, a2, a3⟩ := h.en g hg
    exact ⟨a1.off k (no a2) (no a3), a2, a3⟩
theorem DK.later {w w' : World} {d : Nat} {r : Raw} {col : Nat → Option Col} (h : DK w d r col) (k : Below w.heap.size w w') : DK w' d r col := h.off (G := []) (Off.of_below k) (by simp)

end Go.Proofs.YtjfkfiffakbagaaGreatDoor

