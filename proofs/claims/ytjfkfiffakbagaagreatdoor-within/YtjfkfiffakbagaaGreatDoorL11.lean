/-
  Parts of the proof, one behind the other: DeskLeave, DeskOf, DeskOf2, GrantM, DeskKit, DeskFit, DeskGrant.
-/
import Derived.Test.YtjfkfiffakbagaaGreatDoorL10
/-
  Package desk: leave.
-/
namespace Go.Proofs.YtjfkfiffakbagaaGreatDoor
open Go.RowKit

def leaveS (c : Col) : Prop := c = .me ∨ c = .wa ∨ c = .desk ∨ ∃ i, c = .thing i
/-- What leave leaves of an entry that is booked or held of thing i. -/
def LeavePost (w : World) (d : Nat) (r : Raw) (col : Nat → Option Col) (g : EG) (i : Nat) (hi : i < r.tg.length) (w' : World) : Prop :=
  ∃ col', DK w' d ({ r with eg := keptG g.e.id r.eg }.setT i (r.tg[i].with (addL r.tg[i].A g.e.spans (-g.e.units)) (dropL g.e.id r.tg[i].T g.e.spans))) col' ∧ Step leaveS w.heap.size col col' w w'

theorem zeroPE (w : World) : (zeroValue 191).run Tryz.prog w = .ok (.pointer none) w := by simp [go_sem]

set_option maxRecDepth 100000 in
set_option maxHeartbeats 2000000 in
theorem leave_took {w : World} {d : Nat} {r : Raw} {col : Nat → Option Col} (h : DK w d r col) {g : EG} (hg : g ∈ r.eg) (hk : g.e.kind ≠ 3) (i : Nat) (hi : i < r.tg.length) (ht : g.tb = r.tg[i].tb) (hf : Fit r.tg[i] g.e) (ho : Avl.Ord (Avl.inord r.tg[i].T)) (hz : Avl.size r.tg[i].T ≤ 9000) (hA : ∀ p, 0 ≤ addL r.tg[i].A g.e.spans (-g.e.units) p) (hid : 0 ≤ g.e.id ∧ g.e.id ≤ 1000) :
    Calls Tryz.prog 147 #[.pointer (some ⟨d, 0, none⟩), .pointer (some ⟨g.eb, 0, none⟩)] w fun e w' => e = .returned (.tuple #[]) ∧ LeavePost w d r col g i hi w' := by
  have hX : Below w.heap.size w (w.alloc (.cells #[.pointer (some ⟨g.eb, 0, none⟩)] 191)) := (Below.refl _ _).alloc (Nat.le_refl _) _
  have hx := h.later hX
  have xb : (w.alloc (.cells #[.pointer (some ⟨g.eb, 0, none⟩)] 191)).cell? ⟨w.heap.size, 0, none⟩ = some (.pointer (some ⟨g.eb, 0, none⟩)) := by simp
  have hxs : w.heap.size < (w.alloc (.cells #[.pointer (some ⟨g.eb, 0, none⟩)] 191)).heap.size := by simp
  have hcn : col w.heap.size = none := by
    cases e : col w.heap.size with
    | none => rfl
    | some c => have := h.lt _ _ e; omega
  have HX := hidp (And.intro hX (And.intro hxs hcn))
  clear h hX hxs hcn
  go_enter Tryz.func147, Tryz.ntmps147
  go_upto_region 1 with fail
  generalize (w.alloc (.cells #[.pointer (some ⟨g.eb, 0, none⟩)] 191)) = X at hx xb HX ⊢
  obtain ⟨g1, g2, g3⟩ := hx.en g hg
  obtain ⟨m, f, a1, a2, a3, a4⟩ := hx.me
  have c0 := g1.en.c0
  have hkb : (g.e.kind != 3) = true := by simpa using hk
  have kk := key_int (n := g.e.id) (by omega) (by omega)
  obtain ⟨w1, hrun, p1, p2⟩ := (a3.block (w' := X.drew) rfl).dropRun keyInt Tryz.underlying126 kk 0
  have hxd := hx.later (blwDrew X)
  have DD := hidp (hxd.delE a1 a2 a4 g.e.id p1 p2)
  have E1 := hidp (DD.out.2.enk (hxd.en g hg).1 (.inl ⟨_, g2, by simp⟩) (.inl ⟨_, g3, by simp⟩))
  have ck1 := E1.out.k
  have co1 := E1.out.en.c1
  have xb1 : w1.cell? ⟨w.heap.size, 0, none⟩ = some (.pointer (some ⟨g.eb, 0, none⟩)) := (World.cell?_of_block (w := X) (DD.out.2.blockN HX.out.2.1 HX.out.2.2 HX.out.2.1)).trans xb
  clear hx hxd a3 p1 p2 a4
  go_big_region
  clear hrun xb a1 c0
  have hN1 : w.heap.size < w1.heap.size := World.block_lt_of_cell? _ _ xb1
  have NCOL := hidp (And.intro HX.out.2.2 hN1)
  have XB := hidp HX.out.1
  have G23 := hidp (And.intro g2 g3)
  have RL := hidp (fun wx (k : Below w1.heap.size w1 wx) => drelease_any (DD.out.1.later k) i hi (E1.out.off (G := []) (Off.of_below k) (by simp) (by simp)) ht (by rw [g2]; simp) (by rw [g3]; simp) hf ho hz hA)
  clear g1 g2 g3 hf ho hz hA HX kk a2 ht
  generalize w.heap.size = N at xb1 NCOL ⊢
  have AF : Hid (∀ w2 col2, Step (· = .thing i) w1.drew.heap.size col col2 w1.drew w2 → w2.cell? ⟨N, 0, none⟩ = some (.pointer (some ⟨g.eb, 0, none⟩)) ∧ w2.cell? ⟨g.eb, 2, none⟩ = some (.pointer (some ⟨g.tb, 0, none⟩))) := fun w2 col2 q2 =>
    ⟨(World.cell?_of_block (w := w1) (q2.blockN NCOL.out.2 NCOL.out.1 NCOL.out.2)).trans xb1, q2.cellC G23.out.1 (by simp) co1⟩
  go_upto_region 3 with fail
  go_region_held3 (fun w' => w'.cell? ⟨N, 0, none⟩ = some (.pointer (some ⟨g.eb, 0, none⟩)) ∧ w'.cell? ⟨g.eb, 2, none⟩ = some (.pointer (some ⟨g.tb, 0, none⟩)))
    (first
      | exact ⟨xb1, co1⟩
      | exact AF.out _ _ q2)
    (first
      | (go_at_call 197; refine (RL.out _ (blwDrew w1)).mono ?_; rintro e w2 ⟨rfl, col2, q1, q2⟩))
  have HF : Hid (LeavePost w d r col g i hi w2) := by
    have t0 : Step leaveS w.heap.size col col w X := Step.below XB.out
    have t1 : Step leaveS w.heap.size col col w w1 := t0.trans ((Step.below (blwDrew X)).trans (DD.out.2.mono (fun c hc => .inl hc) t0.size))
    have t2 : Step leaveS w.heap.size col col w w1.drew := t1.trans (Step.below (blwDrew w1))
    exact ⟨col2, q1, t2.trans (q2.mono (fun c hc => .inr (.inr (.inr ⟨i, hc⟩))) t2.size)⟩
  clear q1 q2 RL DD E1
  go_wp2_with fail
  (try simp only [Exit.inBlock, Exit.then]); refine bodyPost_ret (results_none rfl _ _ _) rfl ?_
  exact ⟨rfl, HF.out⟩

/-- What leave leaves of an entry that waits. -/
def LeavePostW (w : World) (d : Nat) (r : Raw) (col : Nat → Option Col) (g : EG) (w' : World) : Prop :=
  ∃ col', DK w' d { r with eg := keptG g.e.id r.eg, wl := r.wl.filter fun b => !(b == g.eb) } col' ∧ Step leaveS w.heap.size col col' w w'

set_option maxRecDepth 100000 in
set_option maxHeartbeats 2000000 in
theorem leave_wait {w : World} {d : Nat} {r : Raw} {col : Nat → Option Col} (h : DK w d r col) {g : EG} (hg : g ∈ r.eg) (hk : g.e.kind = 3) (hid : 0 ≤ g.e.id ∧ g.e.id ≤ 1000) (hwl : ∀ b ∈ r.wl, ∃ x ∈ r.eg, x.eb = b) (hwn : r.wl.length ≤ 1000) :
    Calls Tryz.prog 147 #[.pointer (some ⟨d, 0, none⟩), .pointer (some ⟨g.eb, 0, none⟩)] w fun e w' => e = .returned (.tuple #[]) ∧ LeavePostW w d r col g w' := by
  have hX : Below w.heap.size w (w.alloc (.cells #[.pointer (some ⟨g.eb, 0, none⟩)] 191)) := (Below.refl _ _).alloc (Nat.le_refl _) _
  have hx := h.later hX
  have xb : (w.alloc (.cells #[.pointer (some ⟨g.eb, 0, none⟩)] 191)).cell? ⟨w.heap.size, 0, none⟩ = some (.pointer (some ⟨g.eb, 0, none⟩)) := by simp
  have hxs : w.heap.size < (w.alloc (.cells #[.pointer (some ⟨g.eb, 0, none⟩)] 191)).heap.size := by simp
  have hcn : col w.heap.size = none := by
    cases e : col w.heap.size with
    | none => rfl
    | some c => have := h.lt _ _ e; omega
  have HX := hidp (And.intro hX (And.intro hxs hcn))
  clear h hX hxs hcn
  go_enter Tryz.func147, Tryz.ntmps147
  go_upto_region 1 with fail
  generalize (w.alloc (.cells #[.pointer (some ⟨g.eb, 0, none⟩)] 191)) = X at hx xb HX ⊢
  obtain ⟨g1, g2, g3⟩ := hx.en g hg
  obtain ⟨m, f, a1, a2, a3, a4⟩ := hx.me
  have c0 := g1.en.c0
  have hkb : (g.e.kind != 3) = false := by simpa using hk
  have kk := key_int (n := g.e.id) (by omega) (by omega)
  obtain ⟨w1, hrun, p1, p2⟩ := (a3.block (w' := X.drew) rfl).dropRun keyInt Tryz.underlying126 kk 0
  have hxd := hx.later (blwDrew X)
  have DD := hidp (hxd.delE a1 a2 a4 g.e.id p1 p2)
  have EC : Hid (∀ x ∈ r.eg, col x.eb = some .ent) := fun x hx => (hxd.en x hx).2.1
  have E1 : Hid (∀ x ∈ r.eg, ENK w1 x) := (fun x hx => DD.out.2.enk (hxd.en x hx).1 (.inl ⟨_, (hxd.en x hx).2.1, by simp⟩) (.inl ⟨_, (hxd.en x hx).2.2, by simp⟩))
  have ck1 := (E1.out g hg).k
  have xb1 : w1.cell? ⟨w.heap.size, 0, none⟩ = some (.pointer (some ⟨g.eb, 0, none⟩)) := (World.cell?_of_block (w := X) (DD.out.2.blockN HX.out.2.1 HX.out.2.2 HX.out.2.1)).trans xb
  clear hx hxd a3 p1 p2 a4
  go_big_region
  clear hrun xb a1 c0
  have hN1 : w.heap.size < w1.heap.size := World.block_lt_of_cell? _ _ xb1
  have NCOL := hidp (And.intro HX.out.2.2 hN1)
  have XB := hidp HX.out.1
  clear g1 g2 g3 HX kk a2
  obtain ⟨v, c4, own, hvc⟩ := DD.out.1.wa
  have f4 := DD.out.1.fz 4
  have hvN : w.heap.size ∉ v.ownBlock.toList := fun e => by have := hvc _ (Option.mem_toList.1 e); rw [NCOL.out.1] at this; cases this
  have hvd : d ∉ v.ownBlock.toList := fun e => by have := hvc _ (Option.mem_toList.1 e); rw [DD.out.1.dc] at this; cases this
  have hve : ∀ x ∈ r.eg, x.eb ∉ v.ownBlock.toList := fun x hx e => by
    have h1 := hvc _ (Option.mem_toList.1 e)
    have h2 := EC.out x hx
    rw [h2] at h1; cases h1
  have DL := hidp (delLv_any w.heap.size r.wl (fun b => b == g.eb) v w1 (fun wx k b hb => by
    obtain ⟨x, hx, rfl⟩ := hwl b hb
    have b1 : ∃ cs, wx.heap[g.eb]? = some (.cells cs 194 (0, 0)) := by
      obtain ⟨cs, e⟩ := (E1.out g hg).bl
      exact ⟨cs, (k.block _ (E1.out g hg).lt (hve g hg)).trans e⟩
    have b2 : ∃ cs, wx.heap[x.eb]? = some (.cells cs 194 (0, 0)) := by
      obtain ⟨cs, e⟩ := (E1.out x hx).bl
      exact ⟨cs, (k.block _ (E1.out x hx).lt (hve x hx)).trans e⟩
    exact leave1_any w.heap.size g.eb x.eb wx (k.cell hvN xb1) b1 b2) own hwn)
  have VC := hidp (And.intro hvc (And.intro hvN hvd))
  clear own hvc hvN hvd hve hwl
  go_wp2_with fail
  refine DL.out.mono ?_
  rintro e w2 ⟨v', rfl, k1, k2, k3⟩
  obtain ⟨va, vn, vc, rfl⟩ : ∃ a n cap, v' = .slice a n cap := by
    rcases k2.2 with ⟨e, _⟩ | ⟨_, _, _, e, _⟩
    · exact ⟨_, _, _, e⟩
    · exact ⟨_, _, _, e⟩
  have c42 := k1.cell VC.out.2.2 c4
  have f42 := (k1.frozen (o := 4) VC.out.2.2 (World.block_lt_of_cell? _ _ c4)).trans f4
  have SW := hidp (DD.out.1.setWait VC.out.1 k1 k2 (fun b hb => .inl (by rw [← k3]; exact hb)))
  clear k1 k2 k3 DL c4 f4 E1
  have HF : Hid (LeavePostW w d r col g (w2.setCell ⟨d, 4, none⟩ (.slice va vn vc))) := by
    have t0 : Step leaveS w.heap.size col col w X := Step.below XB.out
    have t1 : Step leaveS w.heap.size col col w w1 := t0.trans ((Step.below (blwDrew X)).trans (DD.out.2.mono (fun c hc => .inl hc) t0.size))
    obtain ⟨col2, q1, q2⟩ := SW.out
    exact ⟨col2, q1, t1.trans (q2.mono (fun c hc => by rcases hc with e | e; exact .inr (.inl e); exact .inr (.inr (.inl e))) t1.size)⟩
  clear DD SW VC NCOL XB
  go_wp2_with fail
  go_end0
  exact ⟨rfl, HF.out⟩

end Go.Proofs.YtjfkfiffakbagaaGreatDoor


/-
  What the desk in memory holds, held against the desk as mathematics.
-/
namespace Go.Proofs.YtjfkfiffakbagaaGreatDoor
open Go.RowKit
open Desk (Ent St Ids kept booked bookE sumA Items ofB sameB Risen Inv)

/-- Where the entry of a number lies. -/
def atE (eg : List EG) (id : Int) : Nat := (enAt eg id).getD 0
theorem atE_some {eg : List EG} (hn : (eg.map (·.e.id)).Nodup) {g : EG} (hg : g ∈ eg) : atE eg g.e.id = g.eb := by unfold atE; rw [enAt_some hn hg]; rfl

/-- What the desk holds is the state s. -/
structure Of (s : St) (r : Raw) : Prop where
  now : r.now = s.now
  given : r.given = s.given
  ts : r.tg.map (fun t => (t.name, t.units)) = s.ts
  es : r.eg.map (·.e) = s.es
  th : ∀ (i : Nat) (h : i < r.tg.length), r.tg[i].A = sumA r.tg[i].name s.es ∧ Items r.tg[i].name s.es (atE r.eg) r.tg[i].T
  tb : ∀ g ∈ r.eg, ∃ (i : Nat) (h : i < r.tg.length), r.tg[i].name = g.e.thing ∧ g.tb = r.tg[i].tb
/-- Those who wait, in the order in which they came. -/
def Wl (r : Raw) : Prop := r.wl = (r.eg.filter fun g => g.e.kind == 3).map (·.eb)
def hiOf (g : EG) : Hp.Hi := ⟨g.e.till, g.e.id, g.eb⟩
/-- The heap holds what ends. -/
def Hl (r : Raw) : Prop := Hp.Heap r.hl ∧ r.hl.Perm ((r.eg.filter fun g => g.e.kind != 1).map hiOf)

theorem Of.mem {s : St} {r : Raw} (h : Of s r) {g : EG} (hg : g ∈ r.eg) : g.e ∈ s.es := by rw [← h.es]; exact List.mem_map.2 ⟨g, hg, rfl⟩
theorem Of.get {s : St} {r : Raw} (h : Of s r) {e : Ent} (he : e ∈ s.es) : ∃ g ∈ r.eg, g.e = e := by rw [← h.es] at he; exact List.mem_map.1 he
theorem Of.ids {s : St} {r : Raw} (h : Of s r) (hi : Ids s.es) : (r.eg.map (·.e.id)).Pairwise (· < ·) := by
  have : r.eg.map (·.e.id) = s.es.map (·.id) := by rw [← h.es, List.map_map]; rfl
  rw [this]; exact hi
theorem Of.len {s : St} {r : Raw} (h : Of s r) : r.tg.length = s.ts.length := by rw [← h.ts]; simp
theorem Of.tsAt {s : St} {r : Raw} (h : Of s r) {i : Nat} (hi : i < r.tg.length) : s.ts[i]'(by rw [← h.len]; exact hi) = (r.tg[i].name, r.tg[i].units) := by
  have e : (r.tg.map fun t => (t.name, t.units))[i]'(by simpa using hi) = (r.tg[i].name, r.tg[i].units) := by simp
  rw [← e]
  congr 1
  exact h.ts.symm
theorem unitsN_at {ts : List (ByteArray × Int)} (hp : ts.Pairwise fun t u => sameB t.1 u.1 = false) : ∀ {i : Nat} (hi : i < ts.length), Desk.unitsN ts[i].1 ts = ts[i].2 := by
  induction ts with
  | nil => intro i hi; simp at hi
  | cons t ts ih =>
    intro i hi
    rw [List.pairwise_cons] at hp
    cases i with
    | zero => simp [Desk.unitsN, Desk.sameB_self]
    | succ i =>
      have hi' : i < ts.length := by simpa using hi
      have := hp.1 ts[i] (List.getElem_mem hi')
      simp only [List.getElem_cons_succ, Desk.unitsN, this]
      exact ih hp.2 hi'
theorem unitsN_zero {ts : List (ByteArray × Int)} {name : ByteArray} (h : ∀ t ∈ ts, t.1 ≠ name) : Desk.unitsN name ts = 0 := by
  induction ts with
  | nil => rfl
  | cons t ts ih =>
    have h1 : sameB t.1 name = false := sameB_ne.2 (h t (by simp))
    simp only [Desk.unitsN, h1]
    exact ih (fun t ht => h t (by simp [ht]))
/-- The names of a desk's things are distinct. -/
theorem Of.names {s : St} {r : Raw} (h : Of s r) (hp : s.ts.Pairwise fun t u => sameB t.1 u.1 = false) {i j : Nat} (hi : i < r.tg.length) (hj : j < r.tg.length) (e : r.tg[i].name = r.tg[j].name) : i = j := by
  have key : ∀ {a b : Nat} (ha : a < r.tg.length) (hb : b < r.tg.length), a < b → r.tg[a].name ≠ r.tg[b].name := by
    intro a b ha hb hab
    have := List.pairwise_iff_getElem.1 hp a b (by rw [← h.len]; exact ha) (by rw [← h.len]; exact hb) hab
    rw [h.tsAt ha, h.tsAt hb] at this
    exact sameB_ne.1 this
  by_cases h1 : i < j
  · exact absurd e (key hi hj h1)
  · by_cases h2 : j < i
    · exact absurd e.symm (key hj hi h2)
    · omega

theorem risen_nodup {L : List (Int × Int)} (h : Risen L) : (L.map (·.1)).Nodup := by
  unfold Risen at h
  rw [List.nodup_iff_pairwise_ne, List.pairwise_map]
  exact h.imp (fun hab => by omega)

/-- An entry's spans come into a thing's tree. -/
theorem items_put {name : ByteArray} {es es' : List Ent} {at_ at' : Int → Nat} {T : Avl.S} {id : Int} {eb : Nat} {L : List (Int × Int)} (h : Items name es at_ T) (hr : Risen L) (hno : ∀ e ∈ es, ofB name e = true → e.id ≠ id)
    (hs : ∀ z : Avl.It, (∃ e ∈ es', ofB name e = true ∧ ∃ s ∈ e.spans, z = ⟨s.1, s.2, e.id, at' e.id⟩) ↔ (∃ e ∈ es, ofB name e = true ∧ ∃ s ∈ e.spans, z = ⟨s.1, s.2, e.id, at_ e.id⟩) ∨ ∃ s ∈ L, z = itOf id eb s) :
    Items name es' at' (putL id eb T L) ∧ (∀ z ∈ Avl.inord T, z.n = id → ∀ s ∈ L, z.f ≠ s.1) := by
  have hcl : ∀ z ∈ Avl.inord T, z.n = id → ∀ s ∈ L, z.f ≠ s.1 := by
    intro z hz e
    obtain ⟨x, hx, h1, s, _, rfl⟩ := (h.2 z).1 hz
    exact absurd e (hno x hx h1)
  obtain ⟨k1, _, k3, _⟩ := putL_is id eb L T h.1 hcl (risen_nodup hr)
  exact ⟨⟨k1, fun z => by rw [k3, h.2]; exact (hs z).symm⟩, hcl⟩
theorem items_drop {name : ByteArray} {es : List Ent} {at_ at' : Int → Nat} {T : Avl.S} {e0 : Ent} (h : Items name es at_ T) (hid : Ids es) (h0 : e0 ∈ es) (hat : ∀ e ∈ es, e.id ≠ e0.id → at' e.id = at_ e.id) :
    Items name (kept e0.id es) at' (dropL e0.id T e0.spans) := by
  obtain ⟨k1, k2, _⟩ := dropL_is e0.id e0.spans T h.1
  refine ⟨k1, fun z => ?_⟩
  rw [k2, List.mem_filter, h.2]
  constructor
  · rintro ⟨⟨e, he, h1, s, hs, rfl⟩, h2⟩
    have hne : e.id ≠ e0.id := by
      intro e1
      have : e = e0 := hid.one he h0 e1
      subst this
      have := List.all_eq_true.1 h2 s hs
      simp [Avl.isNot] at this
    exact ⟨e, Desk.kept_mem.2 ⟨he, hne⟩, h1, s, hs, by rw [hat e he hne]⟩
  · rintro ⟨e, he, h1, s, hs, rfl⟩
    obtain ⟨he, hne⟩ := Desk.kept_mem.1 he
    refine ⟨⟨e, he, h1, s, hs, by rw [hat e he hne]⟩, ?_⟩
    rw [List.all_eq_true]
    intro t _
    simp [Avl.isNot, hne]
/-- Nothing of a thing has changed. -/
theorem items_same {name : ByteArray} {es es' : List Ent} {at_ at' : Int → Nat} {T : Avl.S} (h : Items name es at_ T) (h1 : ∀ e, ofB name e = true → (e ∈ es' ↔ e ∈ es)) (hat : ∀ e ∈ es, ofB name e = true → at' e.id = at_ e.id) : Items name es' at' T := by
  refine ⟨h.1, fun z => ?_⟩
  rw [h.2]
  constructor
  · rintro ⟨e, he, h2, s, hs, rfl⟩
    exact ⟨e, (h1 e h2).2 he, h2, s, hs, by rw [hat e he h2]⟩
  · rintro ⟨e, he, h2, s, hs, rfl⟩
    have he' := (h1 e h2).1 he
    exact ⟨e, he', h2, s, hs, by rw [hat e he' h2]⟩

/-- One thing and the entries have been turned. -/
theorem Of.turn {s : St} {r : Raw} (h : Of s r) (hp : s.ts.Pairwise fun t u => sameB t.1 u.1 = false) {i : Nat} (hi : i < r.tg.length) {es' : List Ent} {eg' : List EG} {A' : List Bool → Int} {T' : Avl.S} (he : eg'.map (·.e) = es') (h1 : A' = sumA r.tg[i].name es') (h2 : Items r.tg[i].name es' (atE eg') T')
    (h3 : ∀ (name : ByteArray) (T : Avl.S), name ≠ r.tg[i].name → sumA name es' = sumA name s.es ∧ (Items name s.es (atE r.eg) T → Items name es' (atE eg') T)) (h4 : ∀ g ∈ eg', ∃ (i : Nat) (h : i < r.tg.length), r.tg[i].name = g.e.thing ∧ g.tb = r.tg[i].tb) :
    Of { s with es := es' } ({ r with eg := eg' }.setT i (r.tg[i].with A' T')) := by
  have hlen : ({ r with eg := eg' }.setT i (r.tg[i].with A' T')).tg.length = r.tg.length := by simp [Raw.setT]
  have hname : ∀ (j : Nat) (hj : j < r.tg.length), (({ r with eg := eg' }.setT i (r.tg[i].with A' T')).tg[j]'(by rw [hlen]; exact hj)).name = r.tg[j].name ∧ (({ r with eg := eg' }.setT i (r.tg[i].with A' T')).tg[j]'(by rw [hlen]; exact hj)).tb = r.tg[j].tb := by
    intro j hj
    by_cases e : i = j
    · subst e; simp [Raw.setT, TG.with]
    · simp [Raw.setT, e]
  refine ⟨h.now, h.given, ?_, he, fun j hj => ?_, fun g hg => ?_⟩
  · rw [← h.ts]
    show (r.tg.set i (r.tg[i].with A' T')).map _ = _
    rw [List.map_set]
    have : ((r.tg[i].with A' T').name, (r.tg[i].with A' T').units) = (r.tg.map fun t => (t.name, t.units))[i]'(by simpa using hi) := by simp [TG.with]
    rw [this, List.set_getElem_self]
  · have hj' : j < r.tg.length := by rw [← hlen]; exact hj
    by_cases e : i = j
    · subst e
      have e2 : ({ r with eg := eg' }.setT i (r.tg[i].with A' T')).tg[i] = r.tg[i].with A' T' := by simp [Raw.setT]
      rw [e2]
      exact ⟨h1, h2⟩
    · have e2 : ({ r with eg := eg' }.setT i (r.tg[i].with A' T')).tg[j] = r.tg[j] := by simp [Raw.setT, e]
      rw [e2]
      obtain ⟨k1, k2⟩ := h3 r.tg[j].name r.tg[j].T (fun en => e (h.names hp hi hj' en.symm))
      obtain ⟨q1, q2⟩ := h.th j hj'
      exact ⟨q1.trans k1.symm, k2 q2⟩
  · obtain ⟨j, hj, e1, e2⟩ := h4 g hg
    exact ⟨j, by rw [hlen]; exact hj, (hname j hj).1.trans e1, e2.trans (hname j hj).2.symm⟩

end Go.Proofs.YtjfkfiffakbagaaGreatDoor


/-
  What the desk holds, when an entry is booked, goes, or comes: the levels, the trees, the heap, those who wait.
-/
namespace Go.Proofs.YtjfkfiffakbagaaGreatDoor
open Go.RowKit
open Desk (Ent St Ids kept booked bookE sumA Items ofB sameB Risen Inv)

theorem setKT_es (id : Int) (eg : List EG) : (setKT id 1 0 eg).map (·.e) = booked id (eg.map (·.e)) := by
  unfold setKT booked
  rw [List.map_map, List.map_map]
  apply List.map_congr_left
  intro g _
  simp only [Function.comp]
  split <;> rfl
theorem keptG_es (id : Int) (eg : List EG) : (keptG id eg).map (·.e) = kept id (eg.map (·.e)) := by
  unfold keptG kept
  rw [List.filter_map]
  rfl
theorem setKT_mem {id kind till : Int} {eg : List EG} {x : EG} (h : x ∈ setKT id kind till eg) : ∃ y ∈ eg, x.eb = y.eb ∧ x.tb = y.tb ∧ x.e.thing = y.e.thing ∧ x.e.id = y.e.id := by
  obtain ⟨y, hy, rfl⟩ := List.mem_map.1 h
  refine ⟨y, hy, ?_⟩
  split <;> exact ⟨rfl, rfl, rfl, rfl⟩
theorem atE_setKT (id kind till : Int) (eg : List EG) : atE (setKT id kind till eg) = atE eg := by funext x; unfold atE; rw [setKT_at]

/-- Somebody who waited is booked. -/
theorem Of.book {s : St} {r : Raw} (h : Of s r) (hp : s.ts.Pairwise fun t u => sameB t.1 u.1 = false) (hid : Ids s.es) (hn : (r.eg.map (·.e.id)).Nodup) {g : EG} (hg : g ∈ r.eg) (hk : g.e.kind = 3) (hr : Risen g.e.spans) {i : Nat} (hi : i < r.tg.length) (hname : r.tg[i].name = g.e.thing) :
    Of { s with es := booked g.e.id s.es } ({ r with eg := setKT g.e.id 1 0 r.eg }.setT i (r.tg[i].with (addL r.tg[i].A g.e.spans g.e.units) (putL g.e.id g.eb r.tg[i].T g.e.spans))) ∧ (∀ z ∈ Avl.inord r.tg[i].T, z.n = g.e.id → ∀ s ∈ g.e.spans, z.f ≠ s.1) := by
  obtain ⟨t1, t2⟩ := h.th i hi
  have hm := h.mem hg
  have hno3 : ∀ (name : ByteArray) (e : Ent), e ∈ s.es → ofB name e = true → e.id ≠ g.e.id := by
    intro name e he h1 e1
    have : e = g.e := hid.one he hm e1
    subst this
    simp [ofB, hk] at h1
  have hb1 : ofB r.tg[i].name (bookE g.e) = true := by rw [Desk.ofB_book, hname]; exact Desk.sameB_self _
  have hP := items_put (id := g.e.id) (eb := g.eb) (L := g.e.spans) (es' := booked g.e.id s.es) (at' := atE (setKT g.e.id 1 0 r.eg)) t2 hr (fun e he h1 => hno3 _ e he h1) (fun z => by
    rw [atE_setKT]
    constructor
    · rintro ⟨e, he, h1, q, hq, rfl⟩
      rcases Desk.booked_mem.1 he with ⟨he, _⟩ | ⟨y, hy, hye, rfl⟩
      · exact .inl ⟨e, he, h1, q, hq, rfl⟩
      · have : y = g.e := hid.one hy hm hye
        subst this
        exact .inr ⟨q, hq, by unfold itOf; rw [show (bookE g.e).id = g.e.id from rfl, atE_some hn hg]⟩
    · rintro (⟨e, he, h1, q, hq, rfl⟩ | ⟨q, hq, rfl⟩)
      · exact ⟨e, Desk.booked_mem.2 (.inl ⟨he, hno3 _ e he h1⟩), h1, q, hq, rfl⟩
      · exact ⟨bookE g.e, Desk.booked_mem.2 (.inr ⟨g.e, hm, rfl, rfl⟩), hb1, q, hq, by unfold itOf; rw [show (bookE g.e).id = g.e.id from rfl, atE_some hn hg]⟩)
  refine ⟨h.turn hp hi (by rw [setKT_es, h.es]) ?_ hP.1 (fun name T hne => ⟨?_, fun hT => ?_⟩) (fun x hx => ?_), hP.2⟩
  · rw [t1]; exact Desk.sumA_booked (by rw [hname]; exact Desk.sameB_self _) hk hid hm
  · refine Desk.sumA_booked_no (fun e he e1 h1 => ?_)
    have : e = g.e := hid.one he hm e1
    subst this
    exact absurd (sameB_eq.1 h1) (fun e2 => hne (by rw [hname, e2]))
  · refine items_same hT (fun e h1 => ?_) (fun e _ _ => by rw [atE_setKT])
    constructor
    · intro he
      rcases Desk.booked_mem.1 he with ⟨he, _⟩ | ⟨y, hy, hye, rfl⟩
      · exact he
      · have : y = g.e := hid.one hy hm hye
        subst this
        rw [Desk.ofB_book] at h1
        exact absurd (sameB_eq.1 h1) (fun e2 => hne (by rw [hname, e2]))
    · intro he
      exact Desk.booked_mem.2 (.inl ⟨he, hno3 name e he h1⟩)
  · obtain ⟨y, hy, e1, e2, e3, _⟩ := setKT_mem hx
    obtain ⟨j, hj, q1, q2⟩ := h.tb y hy
    exact ⟨j, hj, by rw [e3]; exact q1, by rw [e2]; exact q2⟩

/-- What was held is confirmed: nothing of the things changes. -/
theorem Of.conf {s : St} {r : Raw} (h : Of s r) (hid : Ids s.es) {g : EG} (hg : g ∈ r.eg) (hk : g.e.kind ≠ 3) :
    Of { s with es := booked g.e.id s.es } { r with eg := setKT g.e.id 1 0 r.eg } := by
  have hm := h.mem hg
  refine ⟨h.now, h.given, h.ts, by rw [← h.es]; exact setKT_es _ _, fun j hj => ?_, fun x hx => ?_⟩
  · obtain ⟨t1, t2⟩ := h.th j hj
    refine ⟨t1.trans (Desk.sumA_booked_no (fun e he e1 _ => ?_)).symm, ⟨t2.1, fun z => ?_⟩⟩
    · have : e = g.e := hid.one he hm e1
      rw [this]; exact hk
    · show z ∈ Avl.inord r.tg[j].T ↔ ∃ e ∈ booked g.e.id s.es, ofB r.tg[j].name e = true ∧ ∃ q ∈ e.spans, z = ⟨q.1, q.2, e.id, atE (setKT g.e.id 1 0 r.eg) e.id⟩
      rw [t2.2, atE_setKT]
      constructor
      · rintro ⟨e, he, h1, q, hq, rfl⟩
        by_cases e1 : e.id = g.e.id
        · have : e = g.e := hid.one he hm e1
          subst this
          refine ⟨bookE g.e, Desk.booked_mem.2 (.inr ⟨g.e, hm, rfl, rfl⟩), ?_, q, hq, rfl⟩
          rw [Desk.ofB_book]
          simp [ofB] at h1
          exact h1.1
        · exact ⟨e, Desk.booked_mem.2 (.inl ⟨he, e1⟩), h1, q, hq, rfl⟩
      · rintro ⟨e, he, h1, q, hq, rfl⟩
        rcases Desk.booked_mem.1 he with ⟨he, _⟩ | ⟨y, hy, hye, rfl⟩
        · exact ⟨e, he, h1, q, hq, rfl⟩
        · have : y = g.e := hid.one hy hm hye
          subst this
          rw [Desk.ofB_book] at h1
          exact ⟨g.e, hm, by simp [ofB, h1, hk], q, hq, rfl⟩
  · obtain ⟨y, hy, e1, e2, e3, _⟩ := setKT_mem hx
    obtain ⟨j, hj, q1, q2⟩ := h.tb y hy
    exact ⟨j, hj, by rw [e3]; exact q1, by rw [e2]; exact q2⟩

theorem atE_kept {eg : List EG} (hn : (eg.map (·.e.id)).Nodup) (id x : Int) (hx : x ≠ id) : atE (keptG id eg) x = atE eg x := by unfold atE; rw [keptG_at hn, if_neg hx]
/-- What was booked or held goes. -/
theorem Of.goes {s : St} {r : Raw} (h : Of s r) (hp : s.ts.Pairwise fun t u => sameB t.1 u.1 = false) (hid : Ids s.es) (hn : (r.eg.map (·.e.id)).Nodup) {g : EG} (hg : g ∈ r.eg) (hk : g.e.kind ≠ 3) {i : Nat} (hi : i < r.tg.length) (hname : r.tg[i].name = g.e.thing) :
    Of { s with es := kept g.e.id s.es } ({ r with eg := keptG g.e.id r.eg }.setT i (r.tg[i].with (addL r.tg[i].A g.e.spans (-g.e.units)) (dropL g.e.id r.tg[i].T g.e.spans))) := by
  obtain ⟨t1, t2⟩ := h.th i hi
  have hm := h.mem hg
  have hb1 : ofB r.tg[i].name g.e = true := by simp [ofB, hname, Desk.sameB_self, hk]
  refine h.turn hp hi (by rw [keptG_es, h.es]) ?_ (items_drop t2 hid hm (fun e _ hne => atE_kept hn _ _ hne)) (fun name T hne => ⟨?_, fun hT => ?_⟩) (fun x hx => h.tb x (List.mem_filter.1 hx).1)
  · rw [t1]; exact Desk.sumA_kept hb1 hid hm
  · refine Desk.sumA_kept_no (fun e he e1 => ?_)
    have : e = g.e := hid.one he hm e1
    subst this
    have : sameB g.e.thing name = false := sameB_ne.2 (fun e2 => hne (by rw [hname, e2]))
    simp [ofB, this]
  · have hne2 : ∀ e ∈ s.es, ofB name e = true → e.id ≠ g.e.id := fun e he h1 e1 => by
      have : e = g.e := hid.one he hm e1
      subst this
      have : sameB g.e.thing name = false := sameB_ne.2 (fun e2 => hne (by rw [hname, e2]))
      simp [ofB, this] at h1
    exact items_same hT (fun e h1 => ⟨fun he => (Desk.kept_mem.1 he).1, fun he => Desk.kept_mem.2 ⟨he, hne2 e he h1⟩⟩) (fun e he h1 => atE_kept hn _ _ (hne2 e he h1))
/-- Somebody who waited goes. -/
theorem Of.goesW {s : St} {r : Raw} (h : Of s r) (hid : Ids s.es) (hn : (r.eg.map (·.e.id)).Nodup) {g : EG} (hg : g ∈ r.eg) (hk : g.e.kind = 3) :
    Of { s with es := kept g.e.id s.es } { r with eg := keptG g.e.id r.eg } := by
  have hm := h.mem hg
  have hne : ∀ (name : ByteArray), ∀ e ∈ s.es, ofB name e = true → e.id ≠ g.e.id := fun name e he h1 e1 => by
    have : e = g.e := hid.one he hm e1
    subst this
    simp [ofB, hk] at h1
  refine ⟨h.now, h.given, h.ts, by rw [← h.es]; exact keptG_es _ _, fun j hj => ?_, fun x hx => h.tb x (List.mem_filter.1 hx).1⟩
  obtain ⟨t1, t2⟩ := h.th j hj
  refine ⟨t1.trans (Desk.sumA_kept_no (fun e he e1 => ?_)).symm, items_same t2 (fun e h1 => ⟨fun he => (Desk.kept_mem.1 he).1, fun he => Desk.kept_mem.2 ⟨he, hne _ e he h1⟩⟩) (fun e he h1 => atE_kept hn _ _ (hne _ e he h1))⟩
  have : e = g.e := hid.one he hm e1
  subst this
  simp [ofB, hk]

theorem atE_snoc {eg : List EG} {g : EG} (hno : ∀ x ∈ eg, x.e.id ≠ g.e.id) (x : Int) : atE (eg ++ [g]) x = if x = g.e.id then g.eb else atE eg x := by
  unfold atE; rw [snocG_at hno]; split <;> rfl
/-- One comes who is booked or held. -/
theorem Of.comes {s : St} {r : Raw} (h : Of s r) (hp : s.ts.Pairwise fun t u => sameB t.1 u.1 = false) {g : EG} (hno : ∀ x ∈ r.eg, x.e.id ≠ g.e.id) (hk : g.e.kind ≠ 3) (hr : Risen g.e.spans) {i : Nat} (hi : i < r.tg.length) (hname : r.tg[i].name = g.e.thing) (htb : g.tb = r.tg[i].tb) (n : Int) :
    Of { s with es := s.es ++ [g.e], given := n } ({ r with eg := r.eg ++ [g], given := n }.setT i (r.tg[i].with (addL r.tg[i].A g.e.spans g.e.units) (putL g.e.id g.eb r.tg[i].T g.e.spans))) ∧ (∀ z ∈ Avl.inord r.tg[i].T, z.n = g.e.id → ∀ s ∈ g.e.spans, z.f ≠ s.1) := by
  obtain ⟨t1, t2⟩ := h.th i hi
  have hb1 : ofB r.tg[i].name g.e = true := by simp [ofB, hname, Desk.sameB_self, hk]
  have hno' : ∀ e ∈ s.es, e.id ≠ g.e.id := fun e he => by obtain ⟨x, hx, rfl⟩ := h.get he; exact hno x hx
  have hP := items_put (id := g.e.id) (eb := g.eb) (L := g.e.spans) (es' := s.es ++ [g.e]) (at' := atE (r.eg ++ [g])) t2 hr (fun e he _ => hno' e he) (fun z => by
    constructor
    · rintro ⟨e, he, h1, q, hq, rfl⟩
      rcases List.mem_append.1 he with he | he
      · exact .inl ⟨e, he, h1, q, hq, by rw [atE_snoc hno, if_neg (hno' e he)]⟩
      · have : e = g.e := by simpa using he
        subst this
        exact .inr ⟨q, hq, by unfold itOf; rw [atE_snoc hno, if_pos rfl]⟩
    · rintro (⟨e, he, h1, q, hq, rfl⟩ | ⟨q, hq, rfl⟩)
      · exact ⟨e, by simp [he], h1, q, hq, by rw [atE_snoc hno, if_neg (hno' e he)]⟩
      · exact ⟨g.e, by simp, hb1, q, hq, by unfold itOf; rw [atE_snoc hno, if_pos rfl]⟩)
  have hO : Of { s with es := s.es ++ [g.e] } ({ r with eg := r.eg ++ [g] }.setT i (r.tg[i].with (addL r.tg[i].A g.e.spans g.e.units) (putL g.e.id g.eb r.tg[i].T g.e.spans))) := by
    refine h.turn hp hi (by rw [List.map_append, h.es]; rfl) ?_ hP.1 (fun name T hne => ?_) (fun x hx => ?_)
    · rw [t1]; exact Desk.sumA_snoc hb1
    · have hf : sameB g.e.thing name = false := sameB_ne.2 (fun e2 => hne (by rw [hname, e2]))
      have hof : ofB name g.e = false := by simp [ofB, hf]
      refine ⟨Desk.sumA_snoc_no hof, fun hT => items_same hT (fun e h1 => ?_) (fun e he _ => by rw [atE_snoc hno, if_neg (hno' e he)])⟩
      rw [List.mem_append]
      constructor
      · rintro (he | he)
        · exact he
        · have : e = g.e := by simpa using he
          subst this; rw [hof] at h1; cases h1
      · exact .inl
    · rcases List.mem_append.1 hx with hx | hx
      · exact h.tb x hx
      · have : x = g := by simpa using hx
        subst this; exact ⟨i, hi, hname, htb⟩
  exact ⟨⟨hO.now, rfl, hO.ts, hO.es, hO.th, hO.tb⟩, hP.2⟩
/-- One comes who waits. -/
theorem Of.comesW {s : St} {r : Raw} (h : Of s r) {g : EG} (hno : ∀ x ∈ r.eg, x.e.id ≠ g.e.id) (hk : g.e.kind = 3) {i : Nat} (hi : i < r.tg.length) (hname : r.tg[i].name = g.e.thing) (htb : g.tb = r.tg[i].tb) (n : Int) :
    Of { s with es := s.es ++ [g.e], given := n } { r with eg := r.eg ++ [g], given := n } := by
  have hno' : ∀ e ∈ s.es, e.id ≠ g.e.id := fun e he => by obtain ⟨x, hx, rfl⟩ := h.get he; exact hno x hx
  refine ⟨h.now, rfl, h.ts, by show (r.eg ++ [g]).map _ = _; rw [List.map_append, h.es]; rfl, fun j hj => ?_, fun x hx => ?_⟩
  · obtain ⟨t1, t2⟩ := h.th j hj
    have hof : ∀ name, ofB name g.e = false := fun name => by simp [ofB, hk]
    refine ⟨t1.trans (Desk.sumA_snoc_no (hof _)).symm, items_same t2 (fun e h1 => ?_) (fun e he _ => by show atE (r.eg ++ [g]) e.id = _; rw [atE_snoc hno, if_neg (hno' e he)])⟩
    show e ∈ s.es ++ [g.e] ↔ _
    rw [List.mem_append]
    constructor
    · rintro (he | he)
      · exact he
      · have : e = g.e := by simpa using he
        subst this; rw [hof] at h1; cases h1
    · exact .inl
  · rcases List.mem_append.1 hx with hx | hx
    · exact h.tb x hx
    · have : x = g := by simpa using hx
      subst this; exact ⟨i, hi, hname, htb⟩

/-! The heap -/
theorem filt_book {eg : List EG} (hn : (eg.map (·.e.id)).Nodup) {g : EG} (hg : g ∈ eg) (hk : g.e.kind ≠ 1) : (eg.filter fun x => x.e.kind != 1).Perm (g :: (setKT g.e.id 1 0 eg).filter fun x => x.e.kind != 1) := by
  induction eg with
  | nil => simp at hg
  | cons y eg ih =>
    rw [List.map_cons, List.nodup_cons] at hn
    rcases List.mem_cons.1 hg with rfl | hg'
    · have h0 : setKT g.e.id 1 0 eg = eg := by
        unfold setKT
        have : eg.map (fun x => if x.e.id = g.e.id then { x with e := { x.e with kind := 1, till := 0 } } else x) = eg.map id := by
          apply List.map_congr_left
          intro x hx
          rw [if_neg (fun e => hn.1 (List.mem_map.2 ⟨x, hx, e⟩))]; rfl
        rw [this, List.map_id]
      have e1 : setKT g.e.id 1 0 (g :: eg) = { g with e := { g.e with kind := 1, till := 0 } } :: eg := by
        conv => lhs; unfold setKT; rw [List.map_cons, if_pos rfl]
        conv => rhs; rw [← h0]
        rfl
      rw [e1, List.filter_cons, if_pos (by simpa using hk), List.filter_cons, if_neg (by simp)]
    · have hne : y.e.id ≠ g.e.id := fun e => hn.1 (List.mem_map.2 ⟨g, hg', e.symm⟩)
      have e1 : setKT g.e.id 1 0 (y :: eg) = y :: setKT g.e.id 1 0 eg := by
        conv => lhs; unfold setKT; rw [List.map_cons, if_neg hne]
        rfl
      rw [e1]
      have ih := ih hn.2 hg'
      by_cases h1 : (y.e.kind != 1) = true
      · rw [List.filter_cons, if_pos h1, List.filter_cons, if_pos h1]
        exact (ih.cons y).trans (.swap ..)
      · rw [List.filter_cons, if_neg h1, List.filter_cons, if_neg h1]
        exact ih
theorem filt_kept {eg : List EG} (hn : (eg.map (·.e.id)).Nodup) {g : EG} (hg : g ∈ eg) (p : EG → Bool) (hp : p g = true) : (eg.filter p).Perm (g :: (keptG g.e.id eg).filter p) := by
  induction eg with
  | nil => simp at hg
  | cons y eg ih =>
    rw [List.map_cons, List.nodup_cons] at hn
    rcases List.mem_cons.1 hg with rfl | hg'
    · have e1 : keptG g.e.id (g :: eg) = eg := by
        unfold keptG
        rw [List.filter_cons, if_neg (by simp)]
        exact List.filter_eq_self.2 (fun x hx => by simpa using fun e => hn.1 (List.mem_map.2 ⟨x, hx, e⟩))
      rw [e1, List.filter_cons, if_pos hp]
    · have hne : y.e.id ≠ g.e.id := fun e => hn.1 (List.mem_map.2 ⟨g, hg', e.symm⟩)
      have e1 : keptG g.e.id (y :: eg) = y :: keptG g.e.id eg := by unfold keptG; rw [List.filter_cons, if_pos (by simpa using hne)]
      rw [e1]
      have ih := ih hn.2 hg'
      by_cases h1 : p y = true
      · rw [List.filter_cons, if_pos h1, List.filter_cons, if_pos h1]
        exact (ih.cons y).trans (.swap ..)
      · rw [List.filter_cons, if_neg h1, List.filter_cons, if_neg h1]
        exact ih
theorem filt_kept_no {eg : List EG} (hn : (eg.map (·.e.id)).Nodup) {g : EG} (hg : g ∈ eg) (p : EG → Bool) (hp : p g = false) : (keptG g.e.id eg).filter p = eg.filter p := by
  unfold keptG
  rw [List.filter_filter]
  apply List.filter_congr
  intro x hx
  by_cases e : x.e.id = g.e.id
  · have : x = g := nodup_map_inj _ hn hx hg e
    subst this
    simp [hp]
  · have : (x.e.id != g.e.id) = true := by simpa using e
    simp [this]
/-- What stands first in the heap is an entry that ends. -/
theorem Hl.at {r : Raw} (h : Hl r) {x : Hp.Hi} (hx : x ∈ r.hl) : ∃ g ∈ r.eg, g.e.kind ≠ 1 ∧ x = hiOf g := by
  have := h.2.mem_iff.1 hx
  obtain ⟨g, hg, rfl⟩ := List.mem_map.1 this
  exact ⟨g, (List.mem_filter.1 hg).1, by simpa using (List.mem_filter.1 hg).2, rfl⟩
theorem Hl.has {r : Raw} (h : Hl r) {g : EG} (hg : g ∈ r.eg) (hk : g.e.kind ≠ 1) : hiOf g ∈ r.hl := h.2.mem_iff.2 (List.mem_map.2 ⟨g, List.mem_filter.2 ⟨hg, by simpa using hk⟩, rfl⟩)
theorem Hl.len {r : Raw} (h : Hl r) : r.hl.length ≤ r.eg.length := by
  rw [h.2.length_eq, List.length_map]; exact List.length_filter_le _ _
theorem Hl.one {r : Raw} (h : Hl r) (hn : (r.eg.map (·.e.id)).Nodup) {g : EG} (hg : g ∈ r.eg) {x : Hp.Hi} {l' : List Hp.Hi} (hx : x.n = g.e.id) (hp : r.hl.Perm (x :: l')) : x = hiOf g := by
  obtain ⟨y, hy, _, e⟩ := h.at (x := x) (hp.mem_iff.2 (by simp))
  subst e
  have : y = g := nodup_map_inj _ hn hy hg hx
  rw [this]
theorem Hl.book {r : Raw} (h : Hl r) (hn : (r.eg.map (·.e.id)).Nodup) {g : EG} (hg : g ∈ r.eg) (hk : g.e.kind ≠ 1) {x : Hp.Hi} {l' : List Hp.Hi} (hx : x.n = g.e.id) (hh : Hp.Heap l') (hp : r.hl.Perm (x :: l')) : Hl { r with eg := setKT g.e.id 1 0 r.eg, hl := l' } := by
  have e := h.one hn hg hx hp
  subst e
  refine ⟨hh, List.Perm.cons_inv (a := hiOf g) ?_⟩
  exact hp.symm.trans (h.2.trans ((filt_book hn hg hk).map hiOf))
theorem Hl.goes {r : Raw} (h : Hl r) (hn : (r.eg.map (·.e.id)).Nodup) {g : EG} (hg : g ∈ r.eg) (hk : g.e.kind ≠ 1) {x : Hp.Hi} {l' : List Hp.Hi} (hx : x.n = g.e.id) (hh : Hp.Heap l') (hp : r.hl.Perm (x :: l')) : Hl { r with eg := keptG g.e.id r.eg, hl := l' } := by
  have e := h.one hn hg hx hp
  subst e
  refine ⟨hh, List.Perm.cons_inv (a := hiOf g) ?_⟩
  exact hp.symm.trans (h.2.trans ((filt_kept hn hg (fun g => g.e.kind != 1) (by simpa using hk)).map hiOf))
theorem Hl.goes1 {r : Raw} (h : Hl r) (hn : (r.eg.map (·.e.id)).Nodup) {g : EG} (hg : g ∈ r.eg) (hk : g.e.kind = 1) : Hl { r with eg := keptG g.e.id r.eg } := by
  refine ⟨h.1, ?_⟩
  show r.hl.Perm (((keptG g.e.id r.eg).filter fun g => g.e.kind != 1).map hiOf)
  rw [filt_kept_no hn hg _ (by simp [hk])]
  exact h.2
theorem Hl.comes {r : Raw} (h : Hl r) {g : EG} (hk : g.e.kind ≠ 1) {l' : List Hp.Hi} (hh : Hp.Heap l') (hp : l'.Perm (r.hl ++ [hiOf g])) : Hl { r with eg := r.eg ++ [g], hl := l' } := by
  refine ⟨hh, hp.trans ?_⟩
  show (r.hl ++ [hiOf g]).Perm (((r.eg ++ [g]).filter fun g => g.e.kind != 1).map hiOf)
  rw [List.filter_append, List.map_append]
  have : [g].filter (fun g => g.e.kind != 1) = [g] := by simp [hk]
  rw [this]
  exact h.2.append_right _
theorem Hl.comes1 {r : Raw} (h : Hl r) {g : EG} (hk : g.e.kind = 1) : Hl { r with eg := r.eg ++ [g] } := by
  refine ⟨h.1, ?_⟩
  show r.hl.Perm (((r.eg ++ [g]).filter fun g => g.e.kind != 1).map hiOf)
  rw [List.filter_append]
  have : [g].filter (fun g => g.e.kind != 1) = [] := by simp [hk]
  rw [this, List.append_nil]
  exact h.2

/-! Those who wait -/
theorem Wl.goes {r : Raw} (h : Wl r) (hn : (r.eg.map (·.e.id)).Nodup) (hb : (r.eg.map (·.eb)).Nodup) {g : EG} (hg : g ∈ r.eg) : (r.wl.filter fun b => !(b == g.eb)) = ((keptG g.e.id r.eg).filter fun g => g.e.kind == 3).map (·.eb) := by
  rw [h, List.filter_map]
  unfold keptG
  rw [List.filter_filter, List.filter_filter]
  congr 1
  apply List.filter_congr
  intro x hx
  have : (x.eb == g.eb) = (x.e.id == g.e.id) := by
    by_cases e : x = g
    · subst e; simp
    · have h1 : x.eb ≠ g.eb := fun e2 => e (nodup_map_inj _ hb hx hg e2)
      have h2 : x.e.id ≠ g.e.id := fun e2 => e (nodup_map_inj _ hn hx hg e2)
      rw [beq_eq_false_iff_ne.2 h1, beq_eq_false_iff_ne.2 h2]
  simp only [Function.comp, this]
  rw [Bool.and_comm]; rfl
theorem Wl.goes1 {r : Raw} (h : Wl r) (hn : (r.eg.map (·.e.id)).Nodup) {g : EG} (hg : g ∈ r.eg) (hk : g.e.kind ≠ 3) : Wl { r with eg := keptG g.e.id r.eg } := by
  unfold Wl at *
  show r.wl = ((keptG g.e.id r.eg).filter fun g => g.e.kind == 3).map (·.eb)
  rw [filt_kept_no hn hg _ (by simpa using hk)]
  exact h
theorem Wl.comes {r : Raw} (h : Wl r) {g : EG} (hk : g.e.kind ≠ 3) : Wl { r with eg := r.eg ++ [g] } := by
  unfold Wl at *
  show r.wl = ((r.eg ++ [g]).filter fun g => g.e.kind == 3).map (·.eb)
  rw [List.filter_append]
  have : [g].filter (fun g => g.e.kind == 3) = [] := by simp [hk]
  rw [this, List.append_nil]; exact h
theorem Wl.comesW {r : Raw} (h : Wl r) {g : EG} (hk : g.e.kind = 3) : Wl { r with eg := r.eg ++ [g], wl := r.wl ++ [g.eb] } := by
  unfold Wl at *
  show r.wl ++ [g.eb] = ((r.eg ++ [g]).filter fun g => g.e.kind == 3).map (·.eb)
  rw [List.filter_append, List.map_append]
  have : [g].filter (fun g => g.e.kind == 3) = [g] := by simp [hk]
  rw [this, h]; rfl
theorem Wl.conf {r : Raw} (h : Wl r) (hn : (r.eg.map (·.e.id)).Nodup) {g : EG} (hg : g ∈ r.eg) (hk : g.e.kind ≠ 3) : Wl { r with eg := setKT g.e.id 1 0 r.eg } := by
  unfold Wl at *
  show r.wl = ((setKT g.e.id 1 0 r.eg).filter fun g => g.e.kind == 3).map (·.eb)
  rw [h]
  unfold setKT
  rw [List.filter_map, List.map_map]
  have e1 : (r.eg.filter ((fun g => g.e.kind == 3) ∘ fun x => if x.e.id = g.e.id then { x with e := { x.e with kind := 1, till := 0 } } else x)) = r.eg.filter fun g => g.e.kind == 3 := by
    apply List.filter_congr
    intro x hx
    simp only [Function.comp]
    by_cases e : x.e.id = g.e.id
    · have : x = g := nodup_map_inj _ hn hx hg e
      subst this
      rw [if_pos rfl]
      simp [hk]
    · rw [if_neg e]
  rw [e1]
  apply List.map_congr_left
  intro x _
  simp only [Function.comp]
  split <;> rfl

end Go.Proofs.YtjfkfiffakbagaaGreatDoor


/-
  Those who wait are looked at one behind the other: as a fold over them.
-/
namespace Go.Proofs.YtjfkfiffakbagaaGreatDoor
namespace Desk

def gStep (ts : List (ByteArray × Int)) (p : List Ent × List Int) (e : Ent) : List Ent × List Int :=
  if fitsN ts p.1 e.thing e.units e.spans = true then (booked e.id p.1, p.2 ++ [e.id]) else p
def waitsB (e : Ent) : Bool := e.kind == 3

theorem booked_here {d r : List Ent} {e : Ent} (h : Ids (d ++ e :: r)) : booked e.id (d ++ e :: r) = d ++ bookE e :: r := by
  unfold Ids at h
  rw [List.map_append, List.map_cons, List.pairwise_append, List.pairwise_cons] at h
  obtain ⟨_, ⟨h2, _⟩, h3⟩ := h
  unfold booked
  rw [List.map_append, List.map_cons, if_pos rfl]
  have e1 : d.map (fun x => if x.id = e.id then bookE x else x) = d := by
    rw [show d = d.map id from (List.map_id d).symm, List.map_map]
    apply List.map_congr_left
    intro x hx
    have := h3 x.id (List.mem_map.2 ⟨x, hx, rfl⟩) e.id (by simp)
    simp only [Function.comp, id]
    rw [if_neg (by omega)]
  have e2 : r.map (fun x => if x.id = e.id then bookE x else x) = r := by
    rw [show r = r.map id from (List.map_id r).symm, List.map_map]
    apply List.map_congr_left
    intro x hx
    have := h2 x.id (List.mem_map.2 ⟨x, hx, rfl⟩)
    simp only [Function.comp, id]
    rw [if_neg (by omega)]
  rw [e1, e2]
theorem grantGo_fold (ts : List (ByteArray × Int)) : ∀ (r d : List Ent) (acc : List Int), Ids (d ++ r) → (r.filter waitsB).foldl (gStep ts) (d ++ r, acc) = ((grantGo ts d r).1, acc ++ (grantGo ts d r).2)
  | [], d, acc, _ => by simp [grantGo]
  | e :: r, d, acc, h => by
    have h1 : Ids ((d ++ [e]) ++ r) := by simpa using h
    by_cases hk : e.kind = 3
    · have hw : waitsB e = true := by simp [waitsB, hk]
      rw [List.filter_cons, if_pos hw, List.foldl_cons]
      by_cases hf : fitsN ts (d ++ e :: r) e.thing e.units e.spans = true
      · have hb := booked_here h
        have h2 : Ids ((d ++ [bookE e]) ++ r) := by
          have := booked_ids (id := e.id) h
          rw [hb] at this
          simpa using this
        have e1 : gStep ts (d ++ e :: r, acc) e = ((d ++ [bookE e]) ++ r, acc ++ [e.id]) := by
          unfold gStep
          simp only
          rw [if_pos hf, hb]; simp
        rw [e1, grantGo_fold ts r _ _ h2]
        have e2 : grantGo ts d (e :: r) = ((grantGo ts (d ++ [bookE e]) r).1, e.id :: (grantGo ts (d ++ [bookE e]) r).2) := by
          rw [grantGo, if_pos ⟨hk, hf⟩]
        rw [e2]; simp
      · have e1 : gStep ts (d ++ e :: r, acc) e = ((d ++ [e]) ++ r, acc) := by
          unfold gStep
          simp only
          rw [if_neg hf]; simp
        rw [e1, grantGo_fold ts r _ _ h1]
        have e2 : grantGo ts d (e :: r) = grantGo ts (d ++ [e]) r := by
          rw [grantGo, if_neg (fun h => hf h.2)]
        rw [e2]
    · have hw : ¬ (waitsB e = true) := by simp [waitsB, hk]
      rw [List.filter_cons, if_neg hw]
      have e2 : grantGo ts d (e :: r) = grantGo ts (d ++ [e]) r := by
        rw [grantGo, if_neg (fun h => hk h.1)]
      rw [e2, ← grantGo_fold ts r _ _ h1]
      simp
theorem grant_fold (ts : List (ByteArray × Int)) (es : List Ent) (h : Ids es) : grantS ts es = (es.filter waitsB).foldl (gStep ts) (es, []) := by
  have := grantGo_fold ts es [] [] (by simpa using h)
  simp only [List.nil_append] at this
  rw [this]; rfl

end Desk
end Go.Proofs.YtjfkfiffakbagaaGreatDoor


/-
  What a step leaves of memory that is not the desk's; rows of numbers.
-/
namespace Go.Proofs.YtjfkfiffakbagaaGreatDoor
open Go.RowKit

theorem Step.keepN {S : Col → Prop} {B : Nat} {col col' : Nat → Option Col} {w w' : World} (h : Step S B col col' w w') {b : Nat} (hc : col b = none) (hB : b < B) : col' b = none := by
  cases e : col' b with
  | none => rfl
  | some c =>
    rcases h.new b c e with e1 | e1
    · rw [hc] at e1; cases e1
    · omega
theorem Step.own {S : Col → Prop} {B : Nat} {col col' : Nat → Option Col} {w w' : World} {base e size n : Nat} {v : Value} {xs : List Value} (h : Step S B col col' w w') (ho : w.ownsRow base e size v n xs) (hv : ∀ b, v.ownBlock = some b → col b = none ∧ b < B) : w'.ownsRow base e size v n xs := by
  obtain ⟨G, a1, a2⟩ := h.left
  exact ownOff ho a1 (fun b hb => a2 b (.inr (hv b hb)))
theorem DK.none {w : World} {d : Nat} {r : Raw} {col : Nat → Option Col} (h : DK w d r col) {b : Nat} (hb : w.heap.size ≤ b) : col b = none := by
  cases e : col b with
  | none => rfl
  | some c => have := h.lt _ _ e; omega
/-- A row of numbers that is nobody else's, from B on. -/
structure NRow (w : World) (B : Nat) (col : Nat → Option Col) (v : Value) (l : List Int) : Prop where
  own : w.ownsRow B 3 1 v l.length (l.map (Value.int .i64))
  no : ∀ b, v.ownBlock = some b → col b = none
theorem NRow.nil (w : World) (B : Nat) (col : Nat → Option Col) : NRow w B col (.slice none 0 0) [] := ⟨World.ownsRow_nil _ _ _ _, fun b hb => by cases hb⟩
theorem NRow.step {S : Col → Prop} {B : Nat} {col col' : Nat → Option Col} {w w' : World} {B0 : Nat} {v : Value} {l : List Int} (h : NRow w B0 col v l) (st : Step S B col col' w w') (hB : w.heap.size ≤ B) : NRow w' B0 col' v l := by
  have hv : ∀ b, v.ownBlock = some b → col b = none ∧ b < B := fun b hb => ⟨h.no b hb, Nat.lt_of_lt_of_le (h.own.lt b hb).2 hB⟩
  exact ⟨st.own h.own hv, fun b hb => st.keepN (hv b hb).1 (hv b hb).2⟩
theorem NRow.later {w w' : World} {B0 : Nat} {col : Nat → Option Col} {v : Value} {l : List Int} (h : NRow w B0 col v l) (k : Below w.heap.size w w') : NRow w' B0 col v l := ⟨ownLater h.own k, h.no⟩
theorem NRow.slice {w : World} {B : Nat} {col : Nat → Option Col} {v : Value} {l : List Int} (h : NRow w B col v l) : ∃ a cap, v = .slice a l.length cap := by
  rcases h.own.2 with ⟨rfl, h0⟩ | ⟨g, cap, _, rfl, _⟩
  · rw [h0]; exact ⟨_, _, rfl⟩
  · exact ⟨_, _, rfl⟩

def anyS (_ : Col) : Prop := True
theorem Step.any {S : Col → Prop} {B B' : Nat} {col col' : Nat → Option Col} {w w' : World} (h : Step S B col col' w w') (hB : B' ≤ B) : Step anyS B' col col' w w' := h.mono (fun _ _ => trivial) hB

end Go.Proofs.YtjfkfiffakbagaaGreatDoor


/-
  What the desk's bounds give: what take and release ask of its things and entries.
-/
namespace Go.Proofs.YtjfkfiffakbagaaGreatDoor
open Go.RowKit
open Desk (Ent St Ids kept booked bookE sumA Items ofB sameB Risen Mid EntOk)

theorem rising_len : ∀ (l : List Int) (a b : Int), l.Pairwise (· < ·) → (∀ x ∈ l, a ≤ x ∧ x ≤ b) → (l.length : Int) ≤ max 0 (b - a + 1)
  | [], a, b, _, _ => by simp; omega
  | x :: l, a, b, h, hb => by
    rw [List.pairwise_cons] at h
    have h1 := hb x (by simp)
    have ih := rising_len l (x + 1) b h.2 (fun y hy => ⟨by have := h.1 y hy; omega, (hb y (by simp [hy])).2⟩)
    simp only [List.length_cons]
    omega
theorem mid_len {s : St} (h : Mid s) : s.es.length ≤ 60 := by
  have hi : (s.es.map fun e : Ent => e.id).Pairwise (· < ·) := h.ids
  have := rising_len _ 1 60 hi (fun x hx => by
    obtain ⟨e, he, rfl⟩ := List.mem_map.1 hx
    have h1 := h.idb e he
    have h2 := h.g1
    omega)
  rw [List.length_map] at this
  omega
theorem nodup_len {α : Type} : ∀ (l m : List α), l.Nodup → (∀ x ∈ l, x ∈ m) → l.length ≤ m.length
  | [], m, _, _ => by simp
  | a :: l, m, h, hs => by
    rw [List.nodup_cons] at h
    obtain ⟨m1, m2, rfl⟩ := List.append_of_mem (hs a (by simp))
    have := nodup_len l (m1 ++ m2) h.2 (fun x hx => by
      have h1 := hs x (by simp [hx])
      simp only [List.mem_append, List.mem_cons] at h1 ⊢
      rcases h1 with e | e | e
      · exact .inl e
      · subst e; exact absurd hx h.1
      · exact .inr e)
    simp only [List.length_append, List.length_cons] at this ⊢
    omega
theorem spans_len (at_ : Int → Nat) : ∀ (es : List Ent), (∀ e ∈ es, e.spans.length ≤ 40) → (es.flatMap fun e => e.spans.map fun s => (⟨s.1, s.2, e.id, at_ e.id⟩ : Avl.It)).length ≤ 40 * es.length
  | [], _ => by simp
  | e :: es, h => by
    have ih := spans_len at_ es (fun x hx => h x (by simp [hx]))
    have := h e (by simp)
    simp only [List.flatMap_cons, List.length_append, List.length_map, List.length_cons]
    omega
theorem ord_nodup {l : List Avl.It} (h : Avl.Ord l) : l.Nodup := by
  rw [List.nodup_iff_pairwise_ne]
  refine List.Pairwise.imp ?_ h
  intro a b hab e
  subst e
  unfold Avl.lt at hab
  omega
theorem items_size {name : ByteArray} {es : List Ent} {at_ : Int → Nat} {T : Avl.S} (h : Items name es at_ T) (hl : es.length ≤ 60) (hs : ∀ e ∈ es, e.spans.length ≤ 40) : Avl.size T ≤ 9000 := by
  have h1 := nodup_len _ (es.flatMap fun e => e.spans.map fun s => (⟨s.1, s.2, e.id, at_ e.id⟩ : Avl.It)) (ord_nodup h.1) (fun z hz => by
    obtain ⟨e, he, _, s, hs, rfl⟩ := (h.2 z).1 hz
    exact List.mem_flatMap.2 ⟨e, he, List.mem_map.2 ⟨s, hs, rfl⟩⟩)
  have h2 := spans_len at_ es hs
  rw [Avl.size_inord] at h1
  omega

/-- What the bounds of the state give at an entry and its thing. -/
theorem mid_fit {s : St} {r : Raw} (h : Mid s) (ho : Of s r) {e : Ent} {now : Int} (he : EntOk now e) {i : Nat} (hi : i < r.tg.length) : Fit r.tg[i] e := by
  obtain ⟨t1, t2⟩ := ho.th i hi
  refine ⟨he.sp, fun p => ?_, he.u1, he.u9, by have := he.sl; omega⟩
  have := Desk.sumA_bd r.tg[i].name p s.es h.small
  have := mid_len h
  rw [t1]
  omega
theorem mid_spanned {s : St} (h : Mid s) : Desk.Spanned s.es := fun e he q hq => ((h.en e he).sp q hq).2.1
/-- Does it fit? As the program asks it, and as the document. -/
theorem mid_holds {s : St} {r : Raw} (h : Mid s) (ho : Of s r) {e : Ent} (hsp : SpOk e.spans) (hu : 1 ≤ e.units) {i : Nat} (hi : i < r.tg.length) (hn : r.tg[i].name = e.thing) :
    holdsB (addL r.tg[i].A e.spans e.units) r.tg[i].units e.spans = Desk.fitsN s.ts s.es e.thing e.units e.spans := by
  have e1 := unitsN_at h.tn (i := i) (by rw [← ho.len]; exact hi)
  rw [ho.tsAt hi] at e1
  rw [(ho.th i hi).1, hn] at *
  exact Desk.holds_fits h.small (mid_spanned h) hsp (by omega) e1
theorem mid_room {s : St} {r : Raw} (h : Mid s) (ho : Of s r) {i : Nat} (hi : i < r.tg.length) : Avl.Ord (Avl.inord r.tg[i].T) ∧ Avl.size r.tg[i].T ≤ 9000 := by
  obtain ⟨_, t2⟩ := ho.th i hi
  exact ⟨t2.1, items_size t2 (mid_len h) (fun e he => (h.en e he).sl)⟩
/-- What is given back was there. -/
theorem mid_back {s : St} {r : Raw} (h : Mid s) (ho : Of s r) {g : EG} (hg : g ∈ r.eg) (hk : g.e.kind ≠ 3) {i : Nat} (hi : i < r.tg.length) (hn : r.tg[i].name = g.e.thing) : ∀ p, 0 ≤ addL r.tg[i].A g.e.spans (-g.e.units) p := by
  intro p
  have hb : ofB r.tg[i].name g.e = true := by simp [ofB, hn, Desk.sameB_self, hk]
  rw [(ho.th i hi).1, Desk.sumA_kept hb h.ids (ho.mem hg)]
  exact (Desk.sumA_bd _ p _ (fun e he => h.small e (Desk.kept_mem.1 he).1)).1

end Go.Proofs.YtjfkfiffakbagaaGreatDoor


/-
  Package desk: grant.
-/
namespace Go.Proofs.YtjfkfiffakbagaaGreatDoor
open Go.RowKit
open Desk (Ent St Ids kept booked bookE sumA Items ofB sameB Risen Mid EntOk gStep)

/-- Those of these numbers are booked. -/
noncomputable def bkG (Gr : List Int) (g : EG) : EG := @ite _ (g.e.id ∈ Gr) (Classical.propDecidable _) { g with e := bookE g.e } g
theorem bkG_in {Gr : List Int} {g : EG} (h : g.e.id ∈ Gr) : bkG Gr g = { g with e := bookE g.e } := if_pos h
theorem bkG_out {Gr : List Int} {g : EG} (h : g.e.id ∉ Gr) : bkG Gr g = g := if_neg h
noncomputable def bookG (Gr : List Int) (eg : List EG) : List EG := eg.map (bkG Gr)
theorem bookG_nil (eg : List EG) : bookG [] eg = eg := by
  unfold bookG
  conv => rhs; rw [← List.map_id eg]
  apply List.map_congr_left
  intro g _
  rw [bkG_out (by simp)]; rfl
theorem bookG_snoc (Gr : List Int) (id : Int) (eg : List EG) : setKT id 1 0 (bookG Gr eg) = bookG (Gr ++ [id]) eg := by
  unfold setKT bookG
  rw [List.map_map]
  apply List.map_congr_left
  intro g _
  simp only [Function.comp]
  by_cases h1 : g.e.id ∈ Gr
  · rw [bkG_in h1, bkG_in (List.mem_append_left _ h1)]
    split <;> rfl
  · rw [bkG_out h1]
    by_cases h2 : g.e.id = id
    · rw [if_pos h2, bkG_in (List.mem_append_right _ (by rw [h2]; exact List.mem_singleton.2 rfl))]; rfl
    · rw [if_neg h2, bkG_out (fun hm => by rcases List.mem_append.1 hm with e | e; exact h1 e; exact h2 (List.mem_singleton.1 e))]
theorem bookG_mem {Gr : List Int} {eg : List EG} {g : EG} (hg : g ∈ eg) (h : g.e.id ∉ Gr) : g ∈ bookG Gr eg := by
  unfold bookG
  exact List.mem_map.2 ⟨g, hg, bkG_out h⟩
/-- Those who still wait. -/
theorem bookG_wl (Gr : List Int) (eg : List EG) (p : Nat → Bool) (hp : ∀ g ∈ eg, g.e.kind = 3 → (p g.eb = true ↔ g.e.id ∈ Gr)) : (((eg.filter fun g => g.e.kind == 3).map (·.eb)).filter fun b => !p b) = ((bookG Gr eg).filter fun g => g.e.kind == 3).map (·.eb) := by
  induction eg with
  | nil => rfl
  | cons g eg ih =>
    have ih := ih (fun x hx => hp x (List.mem_cons_of_mem _ hx))
    have e1 : bookG Gr (g :: eg) = bkG Gr g :: bookG Gr eg := rfl
    rw [e1]
    by_cases hk : g.e.kind = 3
    · have hkb : (g.e.kind == 3) = true := by rw [hk]; rfl
      rw [List.filter_cons, if_pos hkb, List.map_cons, List.filter_cons]
      by_cases hG : g.e.id ∈ Gr
      · have h1 : p g.eb = true := (hp g List.mem_cons_self hk).2 hG
        rw [if_neg (by rw [h1]; simp), bkG_in hG, List.filter_cons, if_neg (by simp [bookE])]
        exact ih
      · have h1 : p g.eb = false := by
          cases h : p g.eb
          · rfl
          · exact absurd ((hp g List.mem_cons_self hk).1 h) hG
        rw [if_pos (by rw [h1]; rfl), bkG_out hG, List.filter_cons, if_pos hkb, List.map_cons, ih]
    · have hkb : ¬ ((g.e.kind == 3) = true) := by simpa using hk
      rw [List.filter_cons, if_neg hkb, List.filter_cons]
      by_cases hG : g.e.id ∈ Gr
      · rw [bkG_in hG, if_neg (by simp [bookE])]
        exact ih
      · rw [bkG_out hG, if_neg hkb]
        exact ih

/-- What has been done when k of those who wait have been looked at. -/
def gAt (s : St) (k : Nat) : List Ent × List Int := ((s.es.filter Desk.waitsB).take k).foldl (gStep s.ts) (s.es, [])
theorem gAt_zero (s : St) : gAt s 0 = (s.es, []) := rfl
theorem gAt_succ (s : St) {k : Nat} (hk : k < (s.es.filter Desk.waitsB).length) : gAt s (k + 1) = gStep s.ts (gAt s k) (s.es.filter Desk.waitsB)[k] := by
  unfold gAt
  rw [List.take_succ_eq_append_getElem hk, List.foldl_append]
  rfl
theorem gAt_all (s : St) (h : Ids s.es) {k : Nat} (hk : (s.es.filter Desk.waitsB).length ≤ k) : gAt s k = Desk.grantS s.ts s.es := by
  unfold gAt
  rw [List.take_of_length_le hk, Desk.grant_fold s.ts s.es h]

/-- The desk while those who wait are looked at: k of them have been. -/
structure GX (w wx : World) (d : Nat) (s : St) (r : Raw) (col : Nat → Option Col) (v4 : Value) (k : Nat) (v : Value) (rk : Raw) (ck : Nat → Option Col) : Prop where
  dk : DK wx d rk ck
  of : Of { s with es := (gAt s k).1 } rk
  hl : Hl rk
  wl : rk.wl = r.wl
  eg : rk.eg = bookG (gAt s k).2 r.eg
  st : Step anyS w.heap.size col ck w wx
  nr : NRow wx w.heap.size ck v (gAt s k).2
  mid : Mid { s with es := (gAt s k).1 }
  gm : ∀ x ∈ (gAt s k).2, ∃ e ∈ (s.es.filter Desk.waitsB).take k, e.id = x
  row : wx.ownsRow 0 191 1 v4 r.wl.length (r.wl.map ptrB)
  rc : ∀ b, v4.ownBlock = some b → ck b = some .wa
def GI (w wx : World) (d : Nat) (s : St) (r : Raw) (col : Nat → Option Col) (v4 : Value) (k : Nat) (v : Value) : Prop := ∃ rk ck, GX w wx d s r col v4 k v rk ck

/-- What grant leaves, and tells. -/
def GrantPost (w : World) (d : Nat) (s : St) (col : Nat → Option Col) (v : Value) (w' : World) : Prop :=
  ∃ (r' : Raw) (col' : Nat → Option Col), DK w' d r' col' ∧ Of { s with es := (Desk.grantS s.ts s.es).1 } r' ∧ Wl r' ∧ Hl r' ∧ Step anyS w.heap.size col col' w w' ∧ NRow w' w.heap.size col' v (Desk.grantS s.ts s.es).2

theorem GX.later {w wx wy : World} {d : Nat} {s : St} {r : Raw} {col : Nat → Option Col} {v4 : Value} {k : Nat} {v : Value} {rk : Raw} {ck : Nat → Option Col} (h : GX w wx d s r col v4 k v rk ck) (b : Below wx.heap.size wx wy) : GX w wy d s r col v4 k v rk ck :=
  ⟨h.dk.later b, h.of, h.hl, h.wl, h.eg, h.st.trans (Step.below b), h.nr.later b, h.mid, h.gm, ownLater h.row b, h.rc⟩

/-- Who is looked at next. -/
theorem GX.next {w wx : World} {d : Nat} {s : St} {r : Raw} {col : Nat → Option Col} {v4 : Value} {k : Nat} {v : Value} {rk : Raw} {ck : Nat → Option Col} (h : GX w wx d s r col v4 k v rk ck) (ho : Of s r) (hw : Wl r) (hid : Ids s.es) (hk : k < r.wl.length) :
    ∃ (g : EG) (hk' : k < (s.es.filter Desk.waitsB).length), g ∈ r.eg ∧ g ∈ rk.eg ∧ g.eb = r.wl[k] ∧ g.e = (s.es.filter Desk.waitsB)[k] ∧ g.e.kind = 3 ∧ g.e.id ∉ (gAt s k).2 := by
  have e1 : s.es.filter Desk.waitsB = (r.eg.filter fun g => g.e.kind == 3).map (·.e) := by
    rw [← ho.es, List.filter_map]; rfl
  have hl : k < (r.eg.filter fun g => g.e.kind == 3).length := by
    have := hk; rw [hw, List.length_map] at this; exact this
  have hk' : k < (s.es.filter Desk.waitsB).length := by rw [e1, List.length_map]; exact hl
  have hge : ((r.eg.filter fun g => g.e.kind == 3)[k]).e = (s.es.filter Desk.waitsB)[k] := by simp only [e1, List.getElem_map]
  have hm := List.mem_filter.1 (List.getElem_mem hl)
  have hno : ((r.eg.filter fun g => g.e.kind == 3)[k]).e.id ∉ (gAt s k).2 := by
    intro hx
    obtain ⟨e, he, e2⟩ := h.gm _ hx
    obtain ⟨j, hj, rfl⟩ := List.getElem_of_mem he
    rw [List.length_take] at hj
    rw [List.getElem_take, hge] at e2
    have hp : (s.es.filter Desk.waitsB).Pairwise fun a b => a.id < b.id := by
      have := Desk.filter_ids Desk.waitsB hid
      unfold Ids at this
      rw [List.pairwise_map] at this
      exact this
    have := List.pairwise_iff_getElem.1 hp j k (by omega) hk' (by omega)
    omega
  refine ⟨_, hk', hm.1, ?_, ?_, hge, by simpa using hm.2, hno⟩
  · rw [h.eg]; exact bookG_mem hm.1 hno
  · have e3 : r.wl[k]? = some ((r.eg.filter fun g => g.e.kind == 3)[k]).eb := by rw [hw, List.getElem?_map, List.getElem?_eq_getElem hl]; rfl
    rw [List.getElem?_eq_getElem hk] at e3
    exact (Option.some.inj e3).symm

/-- Who does not fit waits on. -/
theorem GX.no {w wx w1 : World} {d : Nat} {s : St} {r : Raw} {col : Nat → Option Col} {v4 : Value} {k : Nat} {v : Value} {rk : Raw} {ck c1 : Nat → Option Col} (h : GX w wx d s r col v4 k v rk ck) (hk' : k < (s.es.filter Desk.waitsB).length) {i : Nat} (q1 : DK w1 d rk c1) (q2 : Step (· = .thing i) wx.heap.size ck c1 wx w1) (hf : Desk.fitsN s.ts (gAt s k).1 (s.es.filter Desk.waitsB)[k].thing (s.es.filter Desk.waitsB)[k].units (s.es.filter Desk.waitsB)[k].spans = false) :
    GX w w1 d s r col v4 (k + 1) v rk c1 := by
  have e : gAt s (k + 1) = gAt s k := by
    rw [gAt_succ s hk']; unfold gStep; rw [if_neg (by rw [hf]; simp)]
  obtain ⟨G, a1, a2⟩ := q2.left
  refine ⟨q1, by rw [e]; exact h.of, h.hl, h.wl, by rw [e]; exact h.eg, h.st.trans (q2.any h.st.size), by rw [e]; exact h.nr.step q2 (Nat.le_refl _), by rw [e]; exact h.mid, fun x hx => ?_, ownOff h.row a1 (fun b hb => a2 b (.inl ⟨_, h.rc b hb, by simp⟩)), fun b hb => q2.keep _ _ (h.rc b hb)⟩
  rw [e] at hx
  obtain ⟨y, hy, e2⟩ := h.gm x hx
  rw [List.take_succ_eq_append_getElem hk']
  exact ⟨y, List.mem_append_left _ hy, e2⟩

end Go.Proofs.YtjfkfiffakbagaaGreatDoor

