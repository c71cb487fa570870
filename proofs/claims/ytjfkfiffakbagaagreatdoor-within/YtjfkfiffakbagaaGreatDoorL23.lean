/-
  Parts of the proof, one behind the other: DeskListI, DeskList, DeskListD, DeskAnswer6, DeskGl, DeskAny, BookAny, Lits, ReadsExp.
-/
import Derived.Test.YtjfkfiffakbagaaGreatDoorL22
import Derived.RangeFuncCalls
/-
  Package desk: thing.list: the iterator's contract.
-/
namespace Go.Proofs.YtjfkfiffakbagaaGreatDoor
open Go.RowKit Go.Shelf
open Desk (Ent St Ids kept booked bookE sumA Items ofB sameB Risen Mid EntOk endsB Inv)

set_option maxHeartbeats 1000000 in
theorem Meeting_any (p : Option Addr) (a b : Int) (w : World) :
    Calls Tryz.prog 199 #[.pointer p, .int .i64 a, .int .i64 b] w fun e w' => e = .returned (.func (.func 246) #[] #[.pointer (some ⟨w.heap.size, 0, none⟩), .pointer (some ⟨w.heap.size + 1, 0, none⟩), .pointer (some ⟨w.heap.size + 2, 0, none⟩)]) ∧ w' = ((w.alloc (.cells #[.pointer p] 294)).alloc (.cells #[.int .i64 a] 3)).alloc (.cells #[.int .i64 b] 3) := by
  go_enter Tryz.func199, Tryz.ntmps199
  go_wp2_with fail
  go_ret
  exact ⟨rfl, rfl⟩

/-- It goes through the items that meet, and stops where a round says no more. -/
theorem meet_stops (n : Nat) (r : Raw) (B1 B2 B3 n₀ tb o : Nat) (p0 : Option Addr) (a b : Int) (t : Avl.S) (G : List Nat) (xs : List {x : Avl.It // QI r x}) (hxs : xs.map (·.1) = Avl.meet a b t) (w : World) (h1 : w.cell? ⟨B1, 0, none⟩ = some (.pointer (some ⟨tb, o, none⟩))) (h2 : w.cell? ⟨B2, 0, none⟩ = some (.int .i64 a)) (h3 : w.cell? ⟨B3, 0, none⟩ = some (.int .i64 b)) (hc : w.cell? ⟨tb, o, none⟩ = some (.pointer p0)) (hT : SRep w t (.pointer p0) G) (hG : ∀ i ∈ G, i < n₀) (hn : n₀ ≤ w.heap.size) :
    SeqStopsK Fence.wide n Tryz.prog 246 #[.pointer (some ⟨B1, 0, none⟩), .pointer (some ⟨B2, 0, none⟩), .pointer (some ⟨B3, 0, none⟩)] (fun x : {x : Avl.It // QI r x} => #[Value.pointer (some ⟨x.1.v, 0, none⟩)]) (Below n₀) (fun ys => ys = xs) (fun pre => pre <+: xs) xs.length w := by
  intro l J Jx W hW hJ _ hY h0
  refine callsIn_wide.2 ?_
  exact Meeting1_any l B1 B2 B3 n₀ tb o p0 a b t G xs hxs J Jx (fun m pre x W' hp hl => YieldAt.anyDepth rfl m (hY pre x W' hp hl)) (fun pre W' hp => hJ pre W' _ none hp (grownBy_drew W') (fun r e => by cases e)) W (cellLater hW h1) (cellLater hW h2) (cellLater hW h3) (cellLater hW hc) (hT.belowN (hW.mono hn) hG) hG h0

end Go.Proofs.YtjfkfiffakbagaaGreatDoor


/-
  Package desk: thing.list.
-/
namespace Go.Proofs.YtjfkfiffakbagaaGreatDoor
open Go.RowKit Go.Shelf
open Desk (Ent St Ids kept booked bookE sumA Items ofB sameB Risen Mid EntOk endsB Inv uniq)

attribute [local go_sem] Oper.semAt_some

/-- What lies between two rounds of list. -/
structure LI (w W : World) (s : St) (col : Nat → Option Col) (M : List Avl.It) : Prop where
  bx : ∃ v l, Boxed W (w.heap.size + 1) 34 v ∧ ERow W (w.heap.size + 5) col v l ∧ ToldL s M l
  bl : Below w.heap.size w W
  sz : w.heap.size + 5 ≤ W.heap.size
theorem ownKeptC {W W' : World} {row : Option Nat} {B e size n : Nat} {v : Value} {xs : List Value} (h : W.ownsRow B e size v n xs) (hg : W.grownBy W' row) (hr : ∀ r, row = some r → ∃ o : Obj, W.heap[r]? = some o ∧ o.isCells = false) : W'.ownsRow B e size v n xs := by
  refine h.kept hg ?_
  rcases h.2 with ⟨rfl, _⟩ | ⟨g, cap, cur, rfl, _, hgb, _⟩
  · exact .inl rfl
  · refine .inr fun e' => ?_
    obtain ⟨o, ho, hc⟩ := hr g (by simpa [Value.ownBlock] using e'.symm)
    rw [hgb] at ho; cases ho; cases hc
theorem li_own (w : World) (s : St) (r : Raw) (col : Nat → Option Col) {B : Nat} (hB : w.heap.size ≤ B) : OwnFrom B (fun (pre : List {x : Avl.It // QI r x}) W => LI w W s col (pre.map (·.1))) := by
  intro pre W W' row h hg hrow
  have hr : ∀ r, row = some r → ∃ o : Obj, W.heap[r]? = some o ∧ o.isCells = false := fun r e => (hrow r e).2
  obtain ⟨v, l, hv, er, tl⟩ := h.bx
  exact ⟨⟨v, l, boxedKept hv hg hr, ⟨ownKeptC er.own hg hr, er.no, fun p hp => ⟨⟨ownKeptC (er.sp p hp).1.own hg hr, (er.sp p hp).1.no⟩, (er.sp p hp).2⟩⟩, tl⟩, h.bl.grown hg h.bl.size (fun k e => Nat.le_trans hB (hrow k e).1), Nat.le_trans h.sz hg.size⟩
theorem keepsBelow {B : Nat} {W W' : World} (h : Below W.heap.size W W') : KeepsFrom B W W' := ⟨h.size, fun k _ _ hk _ => (h.block k (Array.getElem?_eq_some_iff.1 hk).1).trans hk⟩

theorem three_more (X : World) (p x y : Value) (t1 t2 t3 : TypeId) : Below X.heap.size X (((X.alloc (.cells #[p] t1)).alloc (.cells #[x] t2)).alloc (.cells #[y] t3)).drew ∧ (((X.alloc (.cells #[p] t1)).alloc (.cells #[x] t2)).alloc (.cells #[y] t3)).drew.cell? ⟨X.heap.size, 0, none⟩ = some p ∧ (((X.alloc (.cells #[p] t1)).alloc (.cells #[x] t2)).alloc (.cells #[y] t3)).drew.cell? ⟨X.heap.size + 1, 0, none⟩ = some x ∧ (((X.alloc (.cells #[p] t1)).alloc (.cells #[x] t2)).alloc (.cells #[y] t3)).drew.cell? ⟨X.heap.size + 2, 0, none⟩ = some y ∧ (((X.alloc (.cells #[p] t1)).alloc (.cells #[x] t2)).alloc (.cells #[y] t3)).drew.heap.size = X.heap.size + 3 := by
  have b1 := Boxed.new X t1 p
  have b2 := Boxed.new (X.alloc (.cells #[p] t1)) t2 x
  have b3 := Boxed.new ((X.alloc (.cells #[p] t1)).alloc (.cells #[x] t2)) t3 y
  simp only [World.size_alloc] at b2 b3
  exact ⟨((((Below.refl _ X).alloc (Nat.le_refl _) _).alloc (by simp) _).alloc (by simp; omega) _).drew, ((b1.alloc _).alloc _).cell, (b2.alloc _).cell, b3.cell, by rw [heap_drew]; simp⟩
/-- append, as one step of a region that draws, inside a fence. -/
theorem stepIn_append_own {F : Fence} {n : Nat} {P : Program} (w : World) {ops : Array Oper} {o : Oper} {a : Act} {K : Act → World → Prop} {Q : Exit → Act → World → Prop} {E : Prop}
    (hg : o.guard = none) (s x : Operand) (t : TypeId) (hop : o.op = Op.call { callee := Callee.builtin Builtin.append, args := #[s, x], argTypes := #[t, t] })
    (base : Nat) (e : TypeId) (i : TypeInfo) (z : Value) (size bytes : Nat) (h1 : P.underlying t = some (.slice e)) (h2 : P.info? e = some i) (h3 : i.zero = some z) (h4 : i.size = size) (h5 : i.bytes = bytes) (h6 : z.cells.size = size) (h7 : 0 < size)
    (v : Value) (k : Nat) (xs : List Value) (hs : a.eval s = v) (hown : w.ownsRow base e size v k xs) (ad : Addr) (m c : Nat) (news : List Value) (hx : a.eval x = .slice (some ad) m c) (hn : news.length = m * size)
    (hc : ∀ j u, news[j]? = some u → w.cell? (ad.add j) = some u) (h1c : ∀ u ∈ news, u.oneCell' = true) (b1 : k + m ≤ maxLen) (b2 : (k + m) * bytes ≤ 140737488355328) (b3 : base ≤ w.heap.size)
    (hK : ∀ v' w', w'.ownsRow base e size v' (k + m) (xs ++ news) → w.grownBy w' v.ownBlock → K (a.put o.dst v') w') :
    if Region.wanted o (yielded ops a.tmps) = true then Oper.wpIn F n P o a w K Q else E := by
  have hw : Region.wanted o (yielded ops a.tmps) = true := by simp [Region.wanted, hg]
  rw [if_pos hw]
  obtain ⟨v', w', hrun, r1, r2, r3⟩ := run_append_own (P := P) w base t o.type e i z size bytes h1 h2 h3 h4 h5 h6 h7 v k xs hown ad m c news hn hc h1c b1 b2 b3
  unfold Oper.wpIn
  refine ⟨?_, ?_⟩
  · simp [Oper.about, hop, resolve, Target.leads, Sem.run_pure]
  · rw [Oper.semAt_plain F _ _ (by rw [hop]; intro c hc'; cases hc')]
    simp [execOp, hop, resolve, invoke, builtin, hs, hx, hrun, Result.andThen]
    exact hK v' w' r1 r2
theorem cellAlloc {W : World} {b i : Nat} {v : Value} (h : W.cell? ⟨b, i, none⟩ = some v) (o : Obj) : (W.alloc o).cell? ⟨b, i, none⟩ = some v := (World.cell?_of_block (w := W) (Below.heap_alloc _ o _ (World.block_lt_of_cell? _ _ h))).trans h
theorem li_box {w W w1 w2 w3 : World} {s : St} {col : Nat → Option Col} {M : List Avl.It} {a1 : Option Addr} {c1 : Nat} {tl : List (Ent × Value)} (h : LI w W s col M) (hv : Boxed W (w.heap.size + 1) 34 (.slice a1 tl.length c1)) (er : ERow W (w.heap.size + 5) col (.slice a1 tl.length c1) tl) (hb1 : Below W.heap.size W w1) (hb2 : Below w1.drew.heap.size w1.drew w2) (o : Obj)
    (hgrow : (w2.alloc o).grownBy w3 (Value.slice a1 tl.length c1).ownBlock) : Boxed w3 (w.heap.size + 1) 34 (.slice a1 tl.length c1) := by
  have sz := h.sz
  have k1 : Below W.heap.size W w1.drew := hb1.drew
  have k12 : Below W.heap.size W w2 := k1.trans (hb2.mono k1.size)
  have h2 : Boxed w2 (w.heap.size + 1) 34 (.slice a1 tl.length c1) := (k12.block _ (by omega)).trans hv
  exact (h2.alloc o).kept hgrow (fun e => by have := (er.own.lt _ e.symm).1; omega)
/-- One more is told, and the box holds the new row. -/
theorem li_new {w W w1 w2 w3 : World} {s : St} {col : Nat → Option Col} {M : List Avl.It} {B : Nat} {a1 : Option Addr} {c1 : Nat} {tl : List (Ent × Value)} (h : LI w W s col M) (hv : Boxed W (w.heap.size + 1) 34 (.slice a1 tl.length c1)) (er : ERow W (w.heap.size + 5) col (.slice a1 tl.length c1) tl) (tld : ToldL s M tl) (hb1 : Below W.heap.size W w1) {e : Ent} {sp v' : Value} (ho : w2.ownsRow w1.drew.heap.size 60 2 sp e.spans.length (e.spans.flatMap spV)) (hb2 : Below w1.drew.heap.size w1.drew w2) (o : Obj)
    (hgrow : (w2.alloc o).grownBy w3 (Value.slice a1 tl.length c1).ownBlock) (hown : w3.ownsRow (w.heap.size + 5) 58 6 v' (tl.length + 1) (tl.flatMap tellV ++ tellV (e, sp))) (hc : ∀ b, w.heap.size ≤ b → col b = none) {z : Avl.It} (ha : tl.any (fun p => p.1.id == z.n) = false) (he : e ∈ s.es) (hn : e.id = z.n) :
    KeepsFrom B W (w3.setCell ⟨w.heap.size + 1, 0, none⟩ v') ∧ Below w.heap.size W (w3.setCell ⟨w.heap.size + 1, 0, none⟩ v') ∧ LI w (w3.setCell ⟨w.heap.size + 1, 0, none⟩ v') s col (M ++ [z]) := by
  have sz := h.sz
  have k1 : Below W.heap.size W w1.drew := hb1.drew
  have k12 : Below W.heap.size W w2 := k1.trans (hb2.mono k1.size)
  have ko : Off (Value.slice a1 tl.length c1).ownBlock.toList w2 w3 := Off.grown ((Off.refl _ w2).alloc _) hgrow (fun k hk => .inl (Option.mem_toList.2 hk))
  have E3 := er.snocT (Joins.ownsRow_le ho k1.size) k12 sz (fun b hb => hc b (by omega)) ko hown
  have own5 : ∀ b, (Value.slice a1 tl.length c1).ownBlock = some b → w.heap.size + 5 ≤ b := fun b hb => (er.own.lt b hb).1
  have ks := Off.set0 (w.heap.size + 1) w3 0 v'
  have bk : ∀ b, b < W.heap.size → b ≠ w.heap.size + 1 → (Value.slice a1 tl.length c1).ownBlock ≠ some b → (w3.setCell ⟨w.heap.size + 1, 0, none⟩ v').heap[b]? = W.heap[b]? := fun b hb h1 h2 => by
    rw [ks.block b (Nat.lt_of_lt_of_le (Nat.lt_of_lt_of_le hb k12.size) ko.size) (fun hx => h1 (List.mem_singleton.1 hx)), ko.block b (Nat.lt_of_lt_of_le hb k12.size) (fun hx => h2 (Option.mem_toList.1 hx)), k12.block b hb]
  have hv3 : Boxed w3 (w.heap.size + 1) 34 (.slice a1 tl.length c1) := (ko.block _ (by have := k12.size; omega) (fun hx => by have := own5 _ (Option.mem_toList.1 hx); omega)).trans ((k12.block _ (by omega)).trans hv)
  have hsz : W.heap.size ≤ (w3.setCell ⟨w.heap.size + 1, 0, none⟩ v').heap.size := Nat.le_trans k12.size (Nat.le_trans ko.size ks.size)
  have hbl : Below w.heap.size W (w3.setCell ⟨w.heap.size + 1, 0, none⟩ v') := ⟨ks.os.trans (ko.os.trans k12.os), ks.tape.trans (ko.tape.trans k12.tape), ks.output.trans (ko.output.trans k12.output), hsz, fun b hb => bk b (by omega) (by omega) (fun hx => by have := own5 _ hx; omega)⟩
  refine ⟨⟨hsz, fun k o' _ hk hcl => (bk k (Array.getElem?_eq_some_iff.1 hk).1 (fun e1 => ?_) (fun e1 => ?_)).trans hk⟩, hbl, ⟨⟨v', tl ++ [(e, sp)], hv3.set v', E3.off ks (fun x hx => by have := List.mem_singleton.1 hx; omega), tld.new ha he hn sp⟩, h.bl.trans hbl, Nat.le_trans sz hsz⟩⟩
  · subst e1
    rw [show W.heap[w.heap.size + 1]? = _ from hv] at hk
    cases hk; cases hcl
  · obtain ⟨cs, q, e2⟩ := ownType er.own e1
    rw [e2] at hk
    cases hk; cases hcl
/-- A post that bears no panic. -/
def noPan (Q : Exit → Act → World → Prop) : Exit → Act → World → Prop
  | .panic _, _, _ => False
  | .normal, a, w => Q .normal a w
  | .ret, a, w => Q .ret a w
  | .exit i, a, w => Q (.exit i) a w
  | .goto t, a, w => Q (.goto t) a w
  | .outgrown, a, w => Q .outgrown a w
theorem noPan_le {Q : Exit → Act → World → Prop} : ∀ e a w, noPan Q e a w → Q e a w
  | .panic _, _, _, h => h.elim
  | .normal, _, _, h => h
  | .ret, _, _, h => h
  | .exit _, _, _, h => h
  | .goto _, _, _, h => h
  | .outgrown, _, _, h => h
theorem noPan_ret {Q : Exit → Act → World → Prop} {a : Act} {w : World} (h : Q .ret a w) : noPan Q .ret a w := h

set_option maxRecDepth 100000 in
set_option maxHeartbeats 2000000 in
theorem tlist_any {w : World} {d : Nat} {s : St} {r : Raw} {col : Nat → Option Col} (h : DSt w d s r col) {i : Nat} (hi : i < r.tg.length) (a b : Int) :
    Calls Tryz.prog 148 #[.pointer (some ⟨r.tg[i].tb, 0, none⟩), .agg #[.int .i64 a, .int .i64 b]] w fun e w' => ∃ v l, e = .returned v ∧ l.map (·.1) = Desk.listD r.tg[i].name a b s.es ∧ ERow w' w.heap.size col v l ∧ Below w.heap.size w w' := by
  obtain ⟨i0, hi0, hz0, hz1, hz2⟩ := info_parts infoApiE
  obtain ⟨ul, us, Fl, Fs, th, hcol⟩ := h.dk.th i hi
  have HH := hidp h
  have tlt : r.tg[i].tb < w.heap.size := World.block_lt_of_cell? _ _ th.c0
  have xa : ((w.alloc (.cells #[.int .i64 a, .int .i64 b] 60)).alloc (.cells #[.slice none 0 0] 34)).cell? ⟨w.heap.size, 0, none⟩ = some (.int .i64 a) := by simp
  have xb : ((w.alloc (.cells #[.int .i64 a, .int .i64 b] 60)).alloc (.cells #[.slice none 0 0] 34)).cell? ⟨w.heap.size, 1, none⟩ = some (.int .i64 b) := by simp
  have bt := Boxed.new (w.alloc (.cells #[.int .i64 a, .int .i64 b] 60)) 34 (.slice none 0 0)
  have hX : Below w.heap.size w ((w.alloc (.cells #[.int .i64 a, .int .i64 b] 60)).alloc (.cells #[.slice none 0 0] 34)) := ((Below.refl _ _).alloc (Nat.le_refl _) _).alloc (by simp) _
  have hXs : ((w.alloc (.cells #[.int .i64 a, .int .i64 b] 60)).alloc (.cells #[.slice none 0 0] 34)).heap.size = w.heap.size + 2 := by simp
  rw [World.size_alloc] at bt
  have HX := hidp (And.intro hX (And.intro hXs bt))
  have HT := hidp th
  clear h th hX bt
  refine (callsIn_wide (n := 3)).1 ?_
  refine callsIn_of_wp_marks Tryz.func148 rfl trivial ?_ rfl
  simp only [Tryz.ntmps148, List.size_toArray, List.length_cons, List.length_nil, Nat.reduceAdd, Nat.reduceSub, Array.replicate_succ, Array.replicate_zero, List.push_toArray, List.append_toArray, List.nil_append, List.cons_append]
  refine wpIn_wide.2 (Code.wp_mono noPan_le ?_)
  generalize r.tg[i].tb = tb at *
  go_upto_region 2 with fail
  change Code.wp _ _ _ _ ((w.alloc (.cells #[.int .i64 a, .int .i64 b] 60)).alloc (.cells #[.slice none 0 0] 34))
  generalize (w.alloc (.cells #[.int .i64 a, .int .i64 b] 60)).alloc (.cells #[.slice none 0 0] 34) = X at *
  have ME := hidp (Meeting_any (some ⟨tb, 3, none⟩) a b X.drew)
  have hXd : X.drew.heap.size = w.heap.size + 2 := hXs
  rw [hXd] at ME
  go_region_with (first
    | (go_at_call 199; refine ME.out.mono ?_; rintro e w1 ⟨rfl, rfl⟩))
  all_goals
    obtain ⟨k0, z1, z2, z3, z4⟩ := three_more X (.pointer (some ⟨tb, 3, none⟩)) (.int .i64 a) (.int .i64 b) 294 3 3
    rw [hXs] at z1 z2 z3 z4
    go_wp2_with fail
    generalize (((X.alloc (.cells #[.pointer (some ⟨tb, 3, none⟩)] 294)).alloc (.cells #[.int .i64 a] 3)).alloc (.cells #[.int .i64 b] 3)).drew = Z at *
    have BZ : Below w.heap.size w Z := HX.out.1.trans (k0.mono HX.out.1.size)
    have L0 : Hid (LI w Z s col ([] : List Avl.It)) := ⟨⟨_, [], (k0.block _ (by omega)).trans HX.out.2.2, ERow.nil _ _ _, ToldL.nil s⟩, BZ, by omega⟩
    have hxs := withQ_map r (Avl.meet a b r.tg[i].T) (fun z hz => meet_items HH.out.of HH.out.dk.ni hi hz)
    generalize withQ r (Avl.meet a b r.tg[i].T) _ = xs at hxs
    have MS := hidp (meet_stops 2 r (w.heap.size + 2) (w.heap.size + 2 + 1) (w.heap.size + 2 + 2) w.heap.size tb 3 us a b r.tg[i].T Fs xs hxs Z z1 z2 z3 (cellLater BZ HT.out.c3) (HT.out.sp.belowN BZ (fun k hk => HT.out.lt k (by simp [hk]))) (fun k hk => HT.out.lt k (by simp [hk])) (by omega))
    have HXS := hidp hxs
    have h5 : w.heap.size ≤ Z.heap.size := by omega
    clear k0 z1 z2 z3 hxs xa xb ME
    refine (wpIn_wide (n := 3)).1 ?_
    refine wpIn_rangeFunc_ownG rfl (by omega) (gf := 246) (lb := #[.pointer (some ⟨w.heap.size + 2, 0, none⟩), .pointer (some ⟨w.heap.size + 2 + 1, 0, none⟩), .pointer (some ⟨w.heap.size + 2 + 2, 0, none⟩)]) rfl trivial (enters_of Tryz.func246 (by kernel_rfl) rfl) MS.out belowK_t (belowK_b h5) (Below.refl _ _) (fun _ => rfl)
      (fun pre W => LI w W s col (pre.map (·.1))) (fun _ _ _ => False) (li_own w s r col h5) (fun _ _ _ _ _ hs _ _ => hs) L0.out
      (fun x => { tmps := #[.pointer (some ⟨tb, 0, none⟩), .agg #[.int .i64 a, .int .i64 b], undef, .pointer (some ⟨w.heap.size, 0, none⟩), .slice none 0 0, .pointer (some ⟨w.heap.size + 1, 0, none⟩), .pointer (some ⟨x.1.v, 0, none⟩), .pointer (some ⟨tb, 0, none⟩), .pointer (some ⟨tb, 0, none⟩), .pointer (some ⟨tb, 3, none⟩), .pointer (some ⟨w.heap.size, 0, none⟩), .int .i64 a, .pointer (some ⟨w.heap.size, 1, none⟩), .int .i64 b, .func (.func 246) #[] #[.pointer (some ⟨w.heap.size + 2, 0, none⟩), .pointer (some ⟨w.heap.size + 2 + 1, 0, none⟩), .pointer (some ⟨w.heap.size + 2 + 2, 0, none⟩)], .pointer (some ⟨x.1.v, 0, none⟩), undef, undef, undef, undef, undef, undef, undef, undef, undef, undef, undef], defers := [] }) ?assign ?body ?done ?stop
    case assign =>
      intro l x W K hK
      gi_wp2
      exact hK
    case body =>
      rintro l pre x W h hlt
      obtain ⟨g, hg, ev, en⟩ := x.2
      obtain ⟨v, tl, hv, er, tld⟩ := h.bx
      obtain ⟨a1, c1, rfl⟩ := own_slice er.own
      have hcd := hv.cell
      have hsm := Nat.le_trans tld.small (mid_len HH.out.mid)
      have dW := HH.out.dk.later h.bl
      have CT := hidp (containsTold_any tl _ (w.heap.size + 5) g.eb g.e.id W er.own (fun p hp => by obtain ⟨x1, x2, x3⟩ := own_slice (er.sp p hp).1.own; exact ⟨x1, _, x2, x3⟩) (dW.en g hg).1.en.c0 (by omega))
      have HI := hidp (And.intro h (And.intro hv (And.intro er tld)))
      have hsz := h.sz
      have TE := hidp (fun W' (k : Below w.heap.size w W') => HH.out.tells k hg)
      clear h hv er tld dW
      rw [← ev] at CT
      simp only [← ev] at TE
      have EVN := hidp (And.intro ev en)
      clear ev en
      cases hany : tl.any (fun p => p.1.id == g.e.id)
      · rw [hany] at CT
        gi_wp2
        refine ⟨trivial, ?_⟩
        refine (CallsIn.inRound l (callsIn_wide.2 CT.out)).mono ?_
        rintro e w1 ⟨rfl, hb1⟩
        gi_wp2
        have hmix : Tryz.prog.follows .mixedOrders = true := by kernel_rfl
        have BW1 : Hid (Below w.heap.size w w1 ∧ Below W.heap.size W w1) := ⟨HI.out.1.bl.trans (hb1.mono HI.out.1.bl.size), hb1⟩
        have hcd1 := cellLater hb1 hcd
        have TE1 := hidp (TE.out w1.drew BW1.out.1.drew)
        clear TE CT hb1
        refine wpIn_region_any hmix ?_
        change wpAnyIn _ _ _ _ _ _ _ _ _ (World.drew _)
        refine wpAnyIn_ready (rs := [0, 1]) (by kernel_rfl) (by simp) ?_
        refine AllReadyIn.cons rfl (fun K hK => ?_) (AllReadyIn.cons rfl (fun K hK => ?_) AllReadyIn.nil)
        · go_simp
          refine hK _ _ ?_
          clear hK K
          refine wpAnyIn_ready (rs := [1]) (by kernel_rfl) (by simp) ?_
          refine AllReadyIn.cons rfl (fun K hK => ?_) AllReadyIn.nil
          go_simp
          refine hK _ _ ?_
          clear hK K
          refine wpAnyIn_ready (rs := [2]) (by kernel_rfl) (by simp) ?_
          refine AllReadyIn.cons rfl (fun K hK => ?_) AllReadyIn.nil
          go_simp
          refine ⟨trivial, (CallsIn.inRound l (callsIn_wide.2 TE1.out)).mono ?_⟩
          rintro e w2 ⟨v2, rfl, sp2, rfl, ho2, hb2⟩
          refine hK _ _ ?_
          clear hK K
          obtain ⟨sa, sc, rfl⟩ := own_slice ho2
          simp only [tellA]
          have hcd2 : w2.cell? ⟨w.heap.size + 1, 0, none⟩ = some (.slice a1 tl.length c1) := cellLater hb2 hcd1
          have hs2 : w.heap.size + 5 ≤ w2.heap.size := Nat.le_trans (Nat.le_trans HI.out.1.sz BW1.out.2.size) hb2.size
          have OW := hidp (ownLater (ownLater HI.out.2.2.1.own BW1.out.2.drew) hb2)
          have S2 := hidp (And.intro ho2 hb2)
          clear ho2 hb2
          refine wpAnyIn_ready (rs := [3]) (by kernel_rfl) (by simp) ?_
          refine AllReadyIn.cons rfl (fun K hK => ?_) AllReadyIn.nil
          go_simp
          refine hK _ _ ?_
          clear hK K
          have hcd3 := cellAlloc hcd2 (.cells #[.int .i64 g.e.id, .int .i64 g.e.kind, .string g.e.thing, .int .i64 g.e.units, .slice sa g.e.spans.length sc, .int .i64 g.e.till] 58)
          obtain ⟨V3, hV3⟩ : ∃ V3, V3 = w2.alloc (.cells #[.int .i64 g.e.id, .int .i64 g.e.kind, .string g.e.thing, .int .i64 g.e.units, .slice sa g.e.spans.length sc, .int .i64 g.e.till] 58) := ⟨_, rfl⟩
          rw [← hV3] at hcd3
          rw [← hV3]
          have AV : Hid (V3 = w2.alloc (.cells (tellV (g.e, .slice sa g.e.spans.length sc)).toArray 58)) := hidp hV3
          clear hV3
          refine wpAnyIn_ready (rs := [4]) (by kernel_rfl) (by simp) ?_
          refine AllReadyIn.cons rfl (fun K hK => ?_) AllReadyIn.nil
          refine stepIn_append_own V3 rfl (.tmp 21) (.tmp 24) 34 rfl (w.heap.size + 5) 58 i0 _ 6 72 Tryz.underlying34 hi0 hz0 hz1 hz2 rfl (by decide) (.slice a1 tl.length c1) tl.length (tl.flatMap tellV) rfl (by rw [AV.out]; exact OW.out.alloc _) ⟨w2.heap.size, 0, none⟩ 1 1 (tellV (g.e, .slice sa g.e.spans.length sc)) rfl rfl (by rw [AV.out]; exact World.news_of_block (cs := (tellV (g.e, .slice sa g.e.spans.length sc)).toArray) (heapNew w2 _)) (by simp [tellV, Value.oneCell']) (by unfold maxLen; omega) (by omega) (by rw [AV.out]; simp; omega) ?_
          intro v3 w3 hown3 hgrow3
          obtain ⟨va3, vc3, rfl⟩ := own_slice hown3
          refine hK _ _ ?_
          clear hK K
          rw [AV.out] at hgrow3
          have BX := li_box HI.out.1 HI.out.2.1 HI.out.2.2.1 BW1.out.2 S2.out.2 _ hgrow3
          have hcd4 := BX.cell
          have hfr4 := BX.frozen
          have G3 := hidp (And.intro hown3 hgrow3)
          clear hown3 hgrow3 BX AV hcd3
          refine wpAnyIn_ready (rs := [5]) (by kernel_rfl) (by simp) ?_
          refine AllReadyIn.cons rfl (fun K hK => ?_) AllReadyIn.nil
          go_simp
          refine hK _ _ ?_
          clear hK K
          refine wpAnyIn_done (by kernel_rfl) ?_ _
          have h0 := HI.out
          have hL := li_new (B := Z.heap.size) h0.1 h0.2.1 h0.2.2.1 h0.2.2.2 BW1.out.2 S2.out.1 S2.out.2 _ G3.out.2 G3.out.1 (fun b hb => HH.out.dk.none hb) (z := x.1) (by rw [EVN.out.2]; exact hany) (HH.out.of.mem hg) EVN.out.2.symm
          refine ⟨hL.1, hL.2.1, ?_⟩
          show LI w _ s col (List.map (fun x => x.val) (pre ++ [x]))
          rw [List.map_append]
          exact hL.2.2
        · go_simp
          refine hK _ _ ?_
          clear hK K
          refine wpAnyIn_ready (rs := [0, 2]) (by kernel_rfl) (by simp) ?_
          refine AllReadyIn.cons rfl (fun K hK => ?_) (AllReadyIn.cons rfl (fun K hK => ?_) AllReadyIn.nil)
          · go_simp
            refine hK _ _ ?_
            clear hK K
            refine wpAnyIn_ready (rs := [2]) (by kernel_rfl) (by simp) ?_
            refine AllReadyIn.cons rfl (fun K hK => ?_) AllReadyIn.nil
            go_simp
            refine ⟨trivial, (CallsIn.inRound l (callsIn_wide.2 TE1.out)).mono ?_⟩
            rintro e w2 ⟨v2, rfl, sp2, rfl, ho2, hb2⟩
            refine hK _ _ ?_
            clear hK K
            obtain ⟨sa, sc, rfl⟩ := own_slice ho2
            simp only [tellA]
            have hcd2 : w2.cell? ⟨w.heap.size + 1, 0, none⟩ = some (.slice a1 tl.length c1) := cellLater hb2 hcd1
            have hs2 : w.heap.size + 5 ≤ w2.heap.size := Nat.le_trans (Nat.le_trans HI.out.1.sz BW1.out.2.size) hb2.size
            have OW := hidp (ownLater (ownLater HI.out.2.2.1.own BW1.out.2.drew) hb2)
            have S2 := hidp (And.intro ho2 hb2)
            clear ho2 hb2
            refine wpAnyIn_ready (rs := [3]) (by kernel_rfl) (by simp) ?_
            refine AllReadyIn.cons rfl (fun K hK => ?_) AllReadyIn.nil
            go_simp
            refine hK _ _ ?_
            clear hK K
            have hcd3 := cellAlloc hcd2 (.cells #[.int .i64 g.e.id, .int .i64 g.e.kind, .string g.e.thing, .int .i64 g.e.units, .slice sa g.e.spans.length sc, .int .i64 g.e.till] 58)
            obtain ⟨V3, hV3⟩ : ∃ V3, V3 = w2.alloc (.cells #[.int .i64 g.e.id, .int .i64 g.e.kind, .string g.e.thing, .int .i64 g.e.units, .slice sa g.e.spans.length sc, .int .i64 g.e.till] 58) := ⟨_, rfl⟩
            rw [← hV3] at hcd3
            rw [← hV3]
            have AV : Hid (V3 = w2.alloc (.cells (tellV (g.e, .slice sa g.e.spans.length sc)).toArray 58)) := hidp hV3
            clear hV3
            refine wpAnyIn_ready (rs := [4]) (by kernel_rfl) (by simp) ?_
            refine AllReadyIn.cons rfl (fun K hK => ?_) AllReadyIn.nil
            refine stepIn_append_own V3 rfl (.tmp 21) (.tmp 24) 34 rfl (w.heap.size + 5) 58 i0 _ 6 72 Tryz.underlying34 hi0 hz0 hz1 hz2 rfl (by decide) (.slice a1 tl.length c1) tl.length (tl.flatMap tellV) rfl (by rw [AV.out]; exact OW.out.alloc _) ⟨w2.heap.size, 0, none⟩ 1 1 (tellV (g.e, .slice sa g.e.spans.length sc)) rfl rfl (by rw [AV.out]; exact World.news_of_block (cs := (tellV (g.e, .slice sa g.e.spans.length sc)).toArray) (heapNew w2 _)) (by simp [tellV, Value.oneCell']) (by unfold maxLen; omega) (by omega) (by rw [AV.out]; simp; omega) ?_
            intro v3 w3 hown3 hgrow3
            obtain ⟨va3, vc3, rfl⟩ := own_slice hown3
            refine hK _ _ ?_
            clear hK K
            rw [AV.out] at hgrow3
            have BX := li_box HI.out.1 HI.out.2.1 HI.out.2.2.1 BW1.out.2 S2.out.2 _ hgrow3
            have hcd4 := BX.cell
            have hfr4 := BX.frozen
            have G3 := hidp (And.intro hown3 hgrow3)
            clear hown3 hgrow3 BX AV hcd3
            refine wpAnyIn_ready (rs := [5]) (by kernel_rfl) (by simp) ?_
            refine AllReadyIn.cons rfl (fun K hK => ?_) AllReadyIn.nil
            go_simp
            refine hK _ _ ?_
            clear hK K
            refine wpAnyIn_done (by kernel_rfl) ?_ _
            have h0 := HI.out
            have hL := li_new (B := Z.heap.size) h0.1 h0.2.1 h0.2.2.1 h0.2.2.2 BW1.out.2 S2.out.1 S2.out.2 _ G3.out.2 G3.out.1 (fun b hb => HH.out.dk.none hb) (z := x.1) (by rw [EVN.out.2]; exact hany) (HH.out.of.mem hg) EVN.out.2.symm
            refine ⟨hL.1, hL.2.1, ?_⟩
            show LI w _ s col (List.map (fun x => x.val) (pre ++ [x]))
            rw [List.map_append]
            exact hL.2.2
          · go_simp
            refine ⟨trivial, (CallsIn.inRound l (callsIn_wide.2 TE1.out)).mono ?_⟩
            rintro e w2 ⟨v2, rfl, sp2, rfl, ho2, hb2⟩
            refine hK _ _ ?_
            clear hK K
            obtain ⟨sa, sc, rfl⟩ := own_slice ho2
            simp only [tellA]
            have hcd2 : w2.cell? ⟨w.heap.size + 1, 0, none⟩ = some (.slice a1 tl.length c1) := cellLater hb2 hcd1
            have hs2 : w.heap.size + 5 ≤ w2.heap.size := Nat.le_trans (Nat.le_trans HI.out.1.sz BW1.out.2.size) hb2.size
            have OW := hidp (ownLater (ownLater HI.out.2.2.1.own BW1.out.2.drew) hb2)
            have S2 := hidp (And.intro ho2 hb2)
            clear ho2 hb2
            refine wpAnyIn_ready (rs := [0, 3]) (by kernel_rfl) (by simp) ?_
            refine AllReadyIn.cons rfl (fun K hK => ?_) (AllReadyIn.cons rfl (fun K hK => ?_) AllReadyIn.nil)
            · go_simp
              refine hK _ _ ?_
              clear hK K
              refine wpAnyIn_ready (rs := [3]) (by kernel_rfl) (by simp) ?_
              refine AllReadyIn.cons rfl (fun K hK => ?_) AllReadyIn.nil
              go_simp
              refine hK _ _ ?_
              clear hK K
              have hcd3 := cellAlloc hcd2 (.cells #[.int .i64 g.e.id, .int .i64 g.e.kind, .string g.e.thing, .int .i64 g.e.units, .slice sa g.e.spans.length sc, .int .i64 g.e.till] 58)
              obtain ⟨V3, hV3⟩ : ∃ V3, V3 = w2.alloc (.cells #[.int .i64 g.e.id, .int .i64 g.e.kind, .string g.e.thing, .int .i64 g.e.units, .slice sa g.e.spans.length sc, .int .i64 g.e.till] 58) := ⟨_, rfl⟩
              rw [← hV3] at hcd3
              rw [← hV3]
              have AV : Hid (V3 = w2.alloc (.cells (tellV (g.e, .slice sa g.e.spans.length sc)).toArray 58)) := hidp hV3
              clear hV3
              refine wpAnyIn_ready (rs := [4]) (by kernel_rfl) (by simp) ?_
              refine AllReadyIn.cons rfl (fun K hK => ?_) AllReadyIn.nil
              refine stepIn_append_own V3 rfl (.tmp 21) (.tmp 24) 34 rfl (w.heap.size + 5) 58 i0 _ 6 72 Tryz.underlying34 hi0 hz0 hz1 hz2 rfl (by decide) (.slice a1 tl.length c1) tl.length (tl.flatMap tellV) rfl (by rw [AV.out]; exact OW.out.alloc _) ⟨w2.heap.size, 0, none⟩ 1 1 (tellV (g.e, .slice sa g.e.spans.length sc)) rfl rfl (by rw [AV.out]; exact World.news_of_block (cs := (tellV (g.e, .slice sa g.e.spans.length sc)).toArray) (heapNew w2 _)) (by simp [tellV, Value.oneCell']) (by unfold maxLen; omega) (by omega) (by rw [AV.out]; simp; omega) ?_
              intro v3 w3 hown3 hgrow3
              obtain ⟨va3, vc3, rfl⟩ := own_slice hown3
              refine hK _ _ ?_
              clear hK K
              rw [AV.out] at hgrow3
              have BX := li_box HI.out.1 HI.out.2.1 HI.out.2.2.1 BW1.out.2 S2.out.2 _ hgrow3
              have hcd4 := BX.cell
              have hfr4 := BX.frozen
              have G3 := hidp (And.intro hown3 hgrow3)
              clear hown3 hgrow3 BX AV hcd3
              refine wpAnyIn_ready (rs := [5]) (by kernel_rfl) (by simp) ?_
              refine AllReadyIn.cons rfl (fun K hK => ?_) AllReadyIn.nil
              go_simp
              refine hK _ _ ?_
              clear hK K
              refine wpAnyIn_done (by kernel_rfl) ?_ _
              have h0 := HI.out
              have hL := li_new (B := Z.heap.size) h0.1 h0.2.1 h0.2.2.1 h0.2.2.2 BW1.out.2 S2.out.1 S2.out.2 _ G3.out.2 G3.out.1 (fun b hb => HH.out.dk.none hb) (z := x.1) (by rw [EVN.out.2]; exact hany) (HH.out.of.mem hg) EVN.out.2.symm
              refine ⟨hL.1, hL.2.1, ?_⟩
              show LI w _ s col (List.map (fun x => x.val) (pre ++ [x]))
              rw [List.map_append]
              exact hL.2.2
            · go_simp
              refine hK _ _ ?_
              clear hK K
              have hcd3 := cellAlloc hcd2 (.cells #[.int .i64 g.e.id, .int .i64 g.e.kind, .string g.e.thing, .int .i64 g.e.units, .slice sa g.e.spans.length sc, .int .i64 g.e.till] 58)
              obtain ⟨V3, hV3⟩ : ∃ V3, V3 = w2.alloc (.cells #[.int .i64 g.e.id, .int .i64 g.e.kind, .string g.e.thing, .int .i64 g.e.units, .slice sa g.e.spans.length sc, .int .i64 g.e.till] 58) := ⟨_, rfl⟩
              rw [← hV3] at hcd3
              rw [← hV3]
              have AV : Hid (V3 = w2.alloc (.cells (tellV (g.e, .slice sa g.e.spans.length sc)).toArray 58)) := hidp hV3
              clear hV3
              refine wpAnyIn_ready (rs := [0]) (by kernel_rfl) (by simp) ?_
              refine AllReadyIn.cons rfl (fun K hK => ?_) AllReadyIn.nil
              go_simp
              refine hK _ _ ?_
              clear hK K
              refine wpAnyIn_ready (rs := [4]) (by kernel_rfl) (by simp) ?_
              refine AllReadyIn.cons rfl (fun K hK => ?_) AllReadyIn.nil
              refine stepIn_append_own V3 rfl (.tmp 21) (.tmp 24) 34 rfl (w.heap.size + 5) 58 i0 _ 6 72 Tryz.underlying34 hi0 hz0 hz1 hz2 rfl (by decide) (.slice a1 tl.length c1) tl.length (tl.flatMap tellV) rfl (by rw [AV.out]; exact OW.out.alloc _) ⟨w2.heap.size, 0, none⟩ 1 1 (tellV (g.e, .slice sa g.e.spans.length sc)) rfl rfl (by rw [AV.out]; exact World.news_of_block (cs := (tellV (g.e, .slice sa g.e.spans.length sc)).toArray) (heapNew w2 _)) (by simp [tellV, Value.oneCell']) (by unfold maxLen; omega) (by omega) (by rw [AV.out]; simp; omega) ?_
              intro v3 w3 hown3 hgrow3
              obtain ⟨va3, vc3, rfl⟩ := own_slice hown3
              refine hK _ _ ?_
              clear hK K
              rw [AV.out] at hgrow3
              have BX := li_box HI.out.1 HI.out.2.1 HI.out.2.2.1 BW1.out.2 S2.out.2 _ hgrow3
              have hcd4 := BX.cell
              have hfr4 := BX.frozen
              have G3 := hidp (And.intro hown3 hgrow3)
              clear hown3 hgrow3 BX AV hcd3
              refine wpAnyIn_ready (rs := [5]) (by kernel_rfl) (by simp) ?_
              refine AllReadyIn.cons rfl (fun K hK => ?_) AllReadyIn.nil
              go_simp
              refine hK _ _ ?_
              clear hK K
              refine wpAnyIn_done (by kernel_rfl) ?_ _
              have h0 := HI.out
              have hL := li_new (B := Z.heap.size) h0.1 h0.2.1 h0.2.2.1 h0.2.2.2 BW1.out.2 S2.out.1 S2.out.2 _ G3.out.2 G3.out.1 (fun b hb => HH.out.dk.none hb) (z := x.1) (by rw [EVN.out.2]; exact hany) (HH.out.of.mem hg) EVN.out.2.symm
              refine ⟨hL.1, hL.2.1, ?_⟩
              show LI w _ s col (List.map (fun x => x.val) (pre ++ [x]))
              rw [List.map_append]
              exact hL.2.2
      · rw [hany] at CT
        gi_wp2
        refine ⟨trivial, ?_⟩
        refine (CallsIn.inRound l (callsIn_wide.2 CT.out)).mono ?_
        rintro e w1 ⟨rfl, hb1⟩
        gi_wp2
        have h0 := HI.out
        exact ⟨keepsBelow hb1, hb1.mono h0.1.bl.size, ⟨⟨_, tl, (hb1.block _ h0.2.1.lt).trans h0.2.1, h0.2.2.1.later hb1, by
          have := h0.2.2.2.old (z := x.1) (by rw [EVN.out.2]; exact hany)
          simpa using this⟩, h0.1.bl.trans (hb1.mono h0.1.bl.size), Nat.le_trans h0.1.sz hb1.size⟩⟩
    case done =>
      rintro D ys W hD rfl h hK
      obtain ⟨v, tl, hv, er, tld⟩ := h.bx
      have hc := hv.cell
      obtain ⟨a1, c1, rfl⟩ := own_slice er.own
      have HF : Hid (tl.map (·.1) = Desk.listD r.tg[i].name a b s.es) := by
        rw [HXS.out] at tld
        have it := (HH.out.of.th i hi).2
        have inv := HH.out.inv
        obtain ⟨p1, p2⟩ := Desk.told_is (ys := tl.map (·.1)) (a := a) (b := b) it inv.ids (fun e he => (inv.en e he).ri) (fun e he sp hs => ((inv.en e he).sp sp hs).1) (by rw [List.length_map]; exact tld.len) (fun j hj => by
          have hj' : j < tl.length := by simpa using hj
          have := tld.at_ j hj'
          simpa using this)
        exact Desk.listD_unique inv.ids p1 p2
      have HE : Hid (ERow W w.heap.size col (.slice a1 tl.length c1) tl ∧ Below w.heap.size w W) := ⟨er.base (by omega), h.bl⟩
      clear h er tld hv
      go_wp2_with fail
      refine noPan_ret ?_
      refine ⟨by simp, .inl ⟨_, _, rfl, run_takeDeferred hK, ?_⟩⟩
      have kp : Below W.heap.size W (W.putObj D (.deferred none)) → True := fun _ => trivial
      refine ⟨_, results_tmp rfl _ _ _, _, tl, rfl, HF.out, ?_, HE.out.2.trans (belowK_b (w := w) (Nat.le_refl _) W D _ _ (by omega) hK rfl rfl)⟩
      exact ⟨ownsRow_putObj HE.out.1.own _ hK rfl, HE.out.1.no, fun p hp => ⟨⟨ownsRow_putObj (HE.out.1.sp p hp).1.own _ hK rfl, (HE.out.1.sp p hp).1.no⟩, (HE.out.1.sp p hp).2⟩⟩
    case stop =>
      rintro D c pre W _ _ h _
      exact h.elim

end Go.Proofs.YtjfkfiffakbagaaGreatDoor


/-
  Package desk: list.
-/
namespace Go.Proofs.YtjfkfiffakbagaaGreatDoor
open Go.RowKit
open Desk (Ent St Ids kept booked bookE sumA Items ofB sameB Risen Mid EntOk endsB Inv)

theorem does_list_err {s : St} {name : ByteArray} {fr til : Int} (hm : Mid s) (h : askErr s name 0 fr til ≠ 0) : Desk.doesD s (.list name fr til) = (s, Desk.Rep.error (askErr s name 0 fr til)) := by
  have hn := Desk.unitsN_nonneg hm.tu name
  simp only [Desk.doesD]
  unfold askErr Desk.askedN at *
  by_cases h1 : Desk.unitsN name s.ts = 0
  · rw [if_pos h1]; simp [h1]
  · have h2 : ¬ (Desk.unitsN name s.ts < 0) := by omega
    simp only [h1, h2] at h ⊢
    by_cases h3 : til ≤ fr
    · simp [h3]
    · simp [h3] at h
theorem does_list {s : St} {name : ByteArray} {fr til : Int} (h : askErr s name 0 fr til = 0) : Desk.doesD s (.list name fr til) = (s, ⟨0, 0, 0, Desk.listD name fr til s.es, [], [], []⟩) := by
  obtain ⟨h1, h2⟩ := askErr_zero h
  have h3 : Desk.unitsN name s.ts ≠ 0 := fun e => by unfold Desk.askedN at h1; rw [if_pos e] at h1; omega
  simp only [Desk.doesD]
  rw [if_neg h3, if_neg (by omega)]
  rfl
theorem list_more {w : World} (name : ByteArray) (wi : Bool) (fr til a b : Int) : Below w.heap.size w (((w.alloc (.cells #[.string name, .bool wi, .int .i64 fr, .int .i64 til] 164)).alloc zeroR).alloc (.cells #[.int .i64 a, .int .i64 b] 60)) ∧ (((w.alloc (.cells #[.string name, .bool wi, .int .i64 fr, .int .i64 til] 164)).alloc zeroR).alloc (.cells #[.int .i64 a, .int .i64 b] 60)).heap[w.heap.size + 1]? = some zeroR ∧ (((w.alloc (.cells #[.string name, .bool wi, .int .i64 fr, .int .i64 til] 164)).alloc zeroR).alloc (.cells #[.int .i64 a, .int .i64 b] 60)).cell? ⟨w.heap.size + 1 + 1, 0, none⟩ = some (.int .i64 a) ∧ (((w.alloc (.cells #[.string name, .bool wi, .int .i64 fr, .int .i64 til] 164)).alloc zeroR).alloc (.cells #[.int .i64 a, .int .i64 b] 60)).cell? ⟨w.heap.size + 1 + 1, 1, none⟩ = some (.int .i64 b) ∧ (((w.alloc (.cells #[.string name, .bool wi, .int .i64 fr, .int .i64 til] 164)).alloc zeroR).alloc (.cells #[.int .i64 a, .int .i64 b] 60)).heap.size = w.heap.size + 3 := by
  have h1 := heapNew (w.alloc (.cells #[.string name, .bool wi, .int .i64 fr, .int .i64 til] 164)) zeroR
  have h2 := heapNew ((w.alloc (.cells #[.string name, .bool wi, .int .i64 fr, .int .i64 til] 164)).alloc zeroR) (.cells #[.int .i64 a, .int .i64 b] 60)
  rw [World.size_alloc] at h1
  rw [World.size_alloc, World.size_alloc] at h2
  refine ⟨(((Below.refl _ _).alloc (Nat.le_refl _) _).alloc (by simp) _).alloc (by rw [World.size_alloc, World.size_alloc]; omega) _, (Below.heap_alloc _ _ _ (by rw [World.size_alloc, World.size_alloc]; omega)).trans h1, ?_, ?_, by rw [World.size_alloc, World.size_alloc, World.size_alloc]⟩
  · simp only [World.cell?, h2]; rfl
  · simp only [World.cell?, h2]; rfl

set_option maxRecDepth 100000 in
set_option maxHeartbeats 4000000 in
theorem list_any {w : World} {d : Nat} {s : St} {r : Raw} {col : Nat → Option Col} (h : DSt w d s r col) (name : ByteArray) (hn : name.size ≤ 1000) (wi : Bool) (fr til : Int) :
    Calls Tryz.prog 98 #[.pointer (some ⟨d, 0, none⟩), .agg #[.string name, .bool wi, .int .i64 fr, .int .i64 til]] w fun e w' => ∃ v, e = .returned v ∧ AnsPost w d col (Desk.doesD s (.list name (if wi then fr else 0) (if wi then til else 1048320))) v w' := by
  have HH := hidp h
  clear h
  cases wi
  · simp only [reduceIte, Bool.false_eq_true]
    obtain ⟨hX, hXQ, x1, x2, hNX⟩ := list_more (w := w) name false fr til 0 1048320
    have AK := hidp (asked_any (HH.out.dk.later hX) HH.out.of HH.out.mid name hn 0 0 1048320)
    have HX := hidp (And.intro hX hXQ)
    clear hX hXQ
    go_enter Tryz.func98, Tryz.ntmps98
    unfold zeroR at AK HX x1 x2 hNX
    go_upto_region 9 with fail
    generalize (((w.alloc (.cells #[.string name, .bool false, .int .i64 fr, .int .i64 til] 164)).alloc (.cells #[.int .i64 0, .int .i64 0, .int .i64 0, .slice none 0 0, .slice none 0 0, .slice none 0 0, .slice none 0 0] 40)).alloc (.cells #[.int .i64 0, .int .i64 1048320] 60)) = X at *
    refine AK.out.mono ?_
    rintro e w1 ⟨hp, hb⟩
    have BX : Hid (Below w.heap.size w w1) := HX.out.1.trans (hb.mono HX.out.1.size)
    have QX : Hid (Q7 w1 (w.heap.size + 1)) := (Q7.of HX.out.2).later (hb.block _ (by omega))
    rcases hp with ⟨h1, rfl⟩ | ⟨h1, i, hi, e1, e2, rfl⟩
    · have HD := hidp (does_list_err HH.out.mid h1)
      generalize askErr s name 0 0 1048320 = er at *
      have hb1 : (er != 0) = true := by simpa using h1
      clear h1 AK HX hb x1 x2
      go_wp2_with fail
      refine (refused_any er w1).mono ?_
      rintro e w2 ⟨rfl, hb2⟩
      have hq := hb2.block (w.heap.size + 1) (World.block_lt_of_cell? _ _ QX.out.q0)
      have HF : Hid (AnsPost w d col (Desk.doesD s (.list name 0 1048320)) (repV er 0 0 (.slice none 0 0) (.slice none 0 0) (.slice none 0 0) (.slice none 0 0)) (set7 w2 (w.heap.size + 1) (.int .i64 er) (.int .i64 0) (.int .i64 0) (.slice none 0 0) (.slice none 0 0) (.slice none 0 0) (.slice none 0 0))) := by
        rw [HD.out]; exact HH.out.said (BX.out.trans (hb2.mono BX.out.size)) (by omega) er 0 _ _ _ _ _ _ _
      obtain ⟨q0, q1, q2, q3, q4, q5, q6, fq⟩ := QX.out.later hq
      simp only [repV]
      go_wp2_with fail
      exact bodyPost_ret (v := repV er 0 0 (.slice none 0 0) (.slice none 0 0) (.slice none 0 0) (.slice none 0 0)) (by simp [results, Tryz.results98, go_sem, repV, q0, q1, q2, q3, q4, q5, q6]) rfl ⟨_, rfl, HF.out⟩
    · have HD := hidp (does_list h1)
      have y1 := cellLater hb x1
      have y2 := cellLater hb x2
      have hs1 : w.heap.size + 3 ≤ w1.heap.size := by have := hb.size; omega
      have TL := hidp (tlist_any (w := w1) (s := s) ⟨HH.out.dk.later BX.out, HH.out.of, HH.out.wl, HH.out.hl, HH.out.inv⟩ hi 0 1048320)
      rw [e1] at TL
      clear h1 AK HX hb x1 x2 e1 e2
      go_wp2_with fail
      refine TL.out.mono ?_
      rintro e w2 ⟨v, l, rfl, hl, er, hb2⟩
      obtain ⟨a1, c1, rfl⟩ := own_slice er.own
      have hq := hb2.block (w.heap.size + 1) (World.block_lt_of_cell? _ _ QX.out.q0)
      have HF : Hid (∀ a b c e f g i, AnsPost w d col (Desk.doesD s (.list name 0 1048320)) (repV 0 0 0 (.slice a1 l.length c1) (.slice none 0 0) (.slice none 0 0) (.slice none 0 0)) (set7 w2 (w.heap.size + 1) a b c e f g i)) := fun a b c e f g i => by
        rw [HD.out, ← hl]
        exact HH.out.ansEntries (BX.out.trans (hb2.mono BX.out.size)) (by omega) (er.base (by omega)) a b c e f g i
      obtain ⟨q0, q1, q2, q3, q4, q5, q6, fq⟩ := QX.out.later hq
      clear TL er hl hb2 hq
      go_wp2_with fail
      exact bodyPost_ret (v := repV 0 0 0 (.slice a1 l.length c1) (.slice none 0 0) (.slice none 0 0) (.slice none 0 0)) (by simp [results, Tryz.results98, go_sem, repV, q0, q1, q2, q3, q4, q5, q6]) rfl ⟨_, rfl, HF.out _ _ _ _ _ _ _⟩
  · simp only [if_true]
    obtain ⟨hX, hXQ, x1, x2, hNX⟩ := list_more (w := w) name true fr til fr til
    have AK := hidp (asked_any (HH.out.dk.later hX) HH.out.of HH.out.mid name hn 0 fr til)
    have HX := hidp (And.intro hX hXQ)
    clear hX hXQ
    go_enter Tryz.func98, Tryz.ntmps98
    unfold zeroR at AK HX x1 x2 hNX
    go_upto_region 9 with fail
    generalize (((w.alloc (.cells #[.string name, .bool true, .int .i64 fr, .int .i64 til] 164)).alloc (.cells #[.int .i64 0, .int .i64 0, .int .i64 0, .slice none 0 0, .slice none 0 0, .slice none 0 0, .slice none 0 0] 40)).alloc (.cells #[.int .i64 fr, .int .i64 til] 60)) = X at *
    refine AK.out.mono ?_
    rintro e w1 ⟨hp, hb⟩
    have BX : Hid (Below w.heap.size w w1) := HX.out.1.trans (hb.mono HX.out.1.size)
    have QX : Hid (Q7 w1 (w.heap.size + 1)) := (Q7.of HX.out.2).later (hb.block _ (by omega))
    rcases hp with ⟨h1, rfl⟩ | ⟨h1, i, hi, e1, e2, rfl⟩
    · have HD := hidp (does_list_err HH.out.mid h1)
      generalize askErr s name 0 fr til = er at *
      have hb1 : (er != 0) = true := by simpa using h1
      clear h1 AK HX hb x1 x2
      go_wp2_with fail
      refine (refused_any er w1).mono ?_
      rintro e w2 ⟨rfl, hb2⟩
      have hq := hb2.block (w.heap.size + 1) (World.block_lt_of_cell? _ _ QX.out.q0)
      have HF : Hid (AnsPost w d col (Desk.doesD s (.list name fr til)) (repV er 0 0 (.slice none 0 0) (.slice none 0 0) (.slice none 0 0) (.slice none 0 0)) (set7 w2 (w.heap.size + 1) (.int .i64 er) (.int .i64 0) (.int .i64 0) (.slice none 0 0) (.slice none 0 0) (.slice none 0 0) (.slice none 0 0))) := by
        rw [HD.out]; exact HH.out.said (BX.out.trans (hb2.mono BX.out.size)) (by omega) er 0 _ _ _ _ _ _ _
      obtain ⟨q0, q1, q2, q3, q4, q5, q6, fq⟩ := QX.out.later hq
      simp only [repV]
      go_wp2_with fail
      exact bodyPost_ret (v := repV er 0 0 (.slice none 0 0) (.slice none 0 0) (.slice none 0 0) (.slice none 0 0)) (by simp [results, Tryz.results98, go_sem, repV, q0, q1, q2, q3, q4, q5, q6]) rfl ⟨_, rfl, HF.out⟩
    · have HD := hidp (does_list h1)
      have y1 := cellLater hb x1
      have y2 := cellLater hb x2
      have hs1 : w.heap.size + 3 ≤ w1.heap.size := by have := hb.size; omega
      have TL := hidp (tlist_any (w := w1) (s := s) ⟨HH.out.dk.later BX.out, HH.out.of, HH.out.wl, HH.out.hl, HH.out.inv⟩ hi fr til)
      rw [e1] at TL
      clear h1 AK HX hb x1 x2 e1 e2
      go_wp2_with fail
      refine TL.out.mono ?_
      rintro e w2 ⟨v, l, rfl, hl, er, hb2⟩
      obtain ⟨a1, c1, rfl⟩ := own_slice er.own
      have hq := hb2.block (w.heap.size + 1) (World.block_lt_of_cell? _ _ QX.out.q0)
      have HF : Hid (∀ a b c e f g i, AnsPost w d col (Desk.doesD s (.list name fr til)) (repV 0 0 0 (.slice a1 l.length c1) (.slice none 0 0) (.slice none 0 0) (.slice none 0 0)) (set7 w2 (w.heap.size + 1) a b c e f g i)) := fun a b c e f g i => by
        rw [HD.out, ← hl]
        exact HH.out.ansEntries (BX.out.trans (hb2.mono BX.out.size)) (by omega) (er.base (by omega)) a b c e f g i
      obtain ⟨q0, q1, q2, q3, q4, q5, q6, fq⟩ := QX.out.later hq
      clear TL er hl hb2 hq
      go_wp2_with fail
      exact bodyPost_ret (v := repV 0 0 0 (.slice a1 l.length c1) (.slice none 0 0) (.slice none 0 0) (.slice none 0 0)) (by simp [results, Tryz.results98, go_sem, repV, q0, q1, q2, q3, q4, q5, q6]) rfl ⟨_, rfl, HF.out _ _ _ _ _ _ _⟩

end Go.Proofs.YtjfkfiffakbagaaGreatDoor


/-
  Package desk: answer: list.
-/
namespace Go.Proofs.YtjfkfiffakbagaaGreatDoor
open Go.RowKit
open Desk (Ent St Ids kept booked bookE sumA Items ofB sameB Risen Mid EntOk endsB Inv)

set_option maxRecDepth 100000 in
set_option maxHeartbeats 4000000 in
theorem answer_list {w : World} {d : Nat} {s : St} {rw_ : Raw} {col : Nat → Option Col} (h : DSt w d s rw_ col) (name : ByteArray) (hn : name.size ≤ 1000) (wi : Bool) (fr til a b : Int) (ha : (if wi then fr else 0) = a) (hb : (if wi then til else 1048320) = b) :
    Calls Tryz.prog 62 #[.pointer (some ⟨d, 0, none⟩), .iface 164 (.agg #[.string name, .bool wi, .int .i64 fr, .int .i64 til])] w fun e w' => ∃ v, e = .returned v ∧ AnsPost w d col (Desk.doesD s (.list name a b)) v w' := by
  have hX : Below w.heap.size w ((w.alloc zeroR).alloc (.cells #[.string name, .bool wi, .int .i64 fr, .int .i64 til] 164)) := ((Below.refl _ _).alloc (Nat.le_refl _) _).alloc (by simp) _
  have hq : ((w.alloc zeroR).alloc (.cells #[.string name, .bool wi, .int .i64 fr, .int .i64 til] 164)).heap[w.heap.size]? = some zeroR := (Below.heap_alloc _ _ _ (by simp)).trans (heapNew w zeroR)
  have hs : w.heap.size < ((w.alloc zeroR).alloc (.cells #[.string name, .bool wi, .int .i64 fr, .int .i64 til] 164)).heap.size := by simp; omega
  have EF := hidp (list_any (w := ((w.alloc zeroR).alloc (.cells #[.string name, .bool wi, .int .i64 fr, .int .i64 til] 164))) (s := s) ⟨h.dk.later hX, h.of, h.wl, h.hl, h.inv⟩ name hn wi fr til)
  have HX := hidp (And.intro hX (And.intro (Q7.of hq) (And.intro (h.dk.none (Nat.le_refl _)) hs)))
  rw [ha, hb] at EF
  clear h hX hq hs ha hb
  unfold zeroR at EF HX
  have noThing : ∀ (xT : TypeId) (v : Value) (w : World), (Instr.typeAssert (.iface 164 v) xT 143 true).run Tryz.prog w = .ok (.tuple #[.agg #[.string ⟨#[]⟩, .int .i64 0], .bool false]) w := by intro xT v w; simp [Instr.typeAssert, go_sem, Result.andThen, run_underlying Tryz.underlying143]
  have noBook : ∀ (xT : TypeId) (v : Value) (w : World), (Instr.typeAssert (.iface 164 v) xT 148 true).run Tryz.prog w = .ok (.tuple #[.agg #[.string ⟨#[]⟩, .int .i64 0, .int .i64 0, .int .i64 0], .bool false]) w := by intro xT v w; simp [Instr.typeAssert, go_sem, Result.andThen, run_underlying Tryz.underlying148]
  have noHold : ∀ (xT : TypeId) (v : Value) (w : World), (Instr.typeAssert (.iface 164 v) xT 150 true).run Tryz.prog w = .ok (.tuple #[.agg #[.string ⟨#[]⟩, .int .i64 0, .int .i64 0, .int .i64 0, .int .i64 0], .bool false]) w := by intro xT v w; simp [Instr.typeAssert, go_sem, Result.andThen, run_underlying Tryz.underlying150]
  have noWait : ∀ (xT : TypeId) (v : Value) (w : World), (Instr.typeAssert (.iface 164 v) xT 151 true).run Tryz.prog w = .ok (.tuple #[.agg #[.string ⟨#[]⟩, .int .i64 0, .int .i64 0, .int .i64 0, .int .i64 0], .bool false]) w := by intro xT v w; simp [Instr.typeAssert, go_sem, Result.andThen, run_underlying Tryz.underlying151]
  have noSeries : ∀ (xT : TypeId) (v : Value) (w : World), (Instr.typeAssert (.iface 164 v) xT 159 true).run Tryz.prog w = .ok (.tuple #[.agg #[.string ⟨#[]⟩, .int .i64 0, .int .i64 0, .int .i64 0, .bool false, .bool false, .bool false, .bool false, .bool false, .bool false, .bool false, .int .i64 0, .int .i64 0, .int .i64 0, .int .i64 0, .int .i64 0], .bool false]) w := by intro xT v w; simp [Instr.typeAssert, go_sem, Result.andThen, run_underlying Tryz.underlying159]
  have noConfirm : ∀ (xT : TypeId) (v : Value) (w : World), (Instr.typeAssert (.iface 164 v) xT 161 true).run Tryz.prog w = .ok (.tuple #[.agg #[.int .i64 0], .bool false]) w := by intro xT v w; simp [Instr.typeAssert, go_sem, Result.andThen, run_underlying Tryz.underlying161]
  have noCancel : ∀ (xT : TypeId) (v : Value) (w : World), (Instr.typeAssert (.iface 164 v) xT 162 true).run Tryz.prog w = .ok (.tuple #[.agg #[.int .i64 0], .bool false]) w := by intro xT v w; simp [Instr.typeAssert, go_sem, Result.andThen, run_underlying Tryz.underlying162]
  have yesList : ∀ (xT : TypeId) (v : Value) (w : World), (Instr.typeAssert (.iface 164 v) xT 164 true).run Tryz.prog w = .ok (.tuple #[v, .bool true]) w := by intro xT v w; simp [Instr.typeAssert, go_sem, Result.andThen, run_underlying Tryz.underlying164]
  go_enter Tryz.func62, Tryz.ntmps62
  go_wp2_with fail
  refine EF.out.mono ?_
  rintro e w2 ⟨v, rfl, ep⟩
  obtain ⟨er, at_, nn, a1, a2, a3, a4, n1, n2, n3, n4, c1, c2, c3, c4, rfl, q7, hf⟩ := ep.up HX.out.1 (Nat.le_refl _) HX.out.2.2.2 HX.out.2.2.1 HX.out.2.1
  have HF := hidp (hf (.int .i64 er) (.int .i64 at_) (.int .i64 nn) (.slice a1 n1 c1) (.slice a2 n2 c2) (.slice a3 n3 c3) (.slice a4 n4 c4))
  clear ep hf EF noThing noBook noHold noWait noSeries noConfirm noCancel yesList
  obtain ⟨q0, q1, q2, q3, q4, q5, q6, fq⟩ := q7
  simp only [repV]
  go_wp2_with fail
  exact bodyPost_ret (v := repV er at_ nn (.slice a1 n1 c1) (.slice a2 n2 c2) (.slice a3 n3 c3) (.slice a4 n4 c4)) (by simp [results, Tryz.results62, go_sem, repV, q0, q1, q2, q3, q4, q5, q6]) rfl ⟨_, rfl, HF.out⟩

end Go.Proofs.YtjfkfiffakbagaaGreatDoor


/-
  A line gives few their turn.
-/
namespace Go.Proofs.YtjfkfiffakbagaaGreatDoor
namespace Desk

theorem grantGo_few (ts : List (ByteArray × Int)) : ∀ (r done : List Ent), (grantGo ts done r).2.length ≤ r.length
  | [], done => by simp [grantGo]
  | e :: r, done => by
    simp only [grantGo]
    split
    · show ((grantGo ts (done ++ [bookE e]) r).2.length + 1) ≤ _
      have := grantGo_few ts r (done ++ [bookE e])
      simp; omega
    · have := grantGo_few ts r (done ++ [e])
      simp; omega
theorem grantS_few (ts : List (ByteArray × Int)) (es : List Ent) : (grantS ts es).2.length ≤ es.length := grantGo_few ts es []
theorem tickGo_few (ts : List (ByteArray × Int)) (tq : Int) (N : Nat) : ∀ (k : Nat) (es : List Ent) (now : Int), es.length ≤ N → (tickGo ts k es now tq).2.2.length ≤ k * N
  | 0, es, now, _ => by simp [tickGo]
  | k + 1, es, now, h => by
    simp only [tickGo]
    split
    · have hf : (es.filter fun e => !endsB (nextT tq es) e).length ≤ N := Nat.le_trans (List.length_filter_le _ _) h
      have h1 := grantS_few ts (es.filter fun e => !endsB (nextT tq es) e)
      have h2 := tickGo_few ts tq N k (grantS ts (es.filter fun e => !endsB (nextT tq es) e)).1 (nextT tq es) (by rw [grantS_len]; exact hf)
      rw [List.length_append, Nat.succ_mul]
      omega
    · simp
/-- What a line itself gives its turn is few. -/
theorem does_few {s : St} (h : Mid s) (l : Line) : (doesD s l).2.granted.length ≤ 50000 := by
  have hl := mid_len h
  cases l with
  | tick n =>
    simp only [doesD]
    split
    · simp [Rep.error]
    · have h1 := tickGo_few s.ts (s.now + n) 60 (s.es.length + 1) s.es s.now hl
      show (tickGo s.ts (s.es.length + 1) s.es s.now (s.now + n)).2.2.length ≤ 50000
      have : (s.es.length + 1) * 60 ≤ 61 * 60 := Nat.mul_le_mul_right _ (by omega)
      omega
  | confirm id => simp only [doesD]; split <;> (try split) <;> simp [Rep.error, Rep.num]
  | cancel id => simp only [doesD]; split <;> simp [Rep.error, Rep.num]
  | waiting => simp [doesD, Rep.num]
  | clock => simp [doesD, Rep.num]
  | thing => simp only [doesD]; split <;> (try split) <;> simp [Rep.error, Rep.num]
  | enter => simp only [doesD, joinD]; split <;> simp [Rep.error, Rep.num]
  | series => simp only [doesD, joinD]; split <;> simp [Rep.error, Rep.num]
  | list => simp only [doesD]; split <;> (try split) <;> simp [Rep.error, Rep.num]
  | peak => simp only [doesD]; split <;> (try split) <;> simp [Rep.error, Rep.num]
  | find => simp only [doesD]; split <;> (try split) <;> simp [Rep.error, Rep.num]
  | expand => simp only [doesD]; split <;> simp [Rep.error, Rep.num]

end Desk
end Go.Proofs.YtjfkfiffakbagaaGreatDoor


/-
  Package desk: answer, whatever the line.
-/
namespace Go.Proofs.YtjfkfiffakbagaaGreatDoor
open Go.RowKit
open Desk (Ent St Ids kept booked bookE sumA Items ofB sameB Risen Mid EntOk endsB Inv)

/-- A line as the program holds it, and what it is. -/
inductive LV : Value → Desk.Line → Prop where
  | thing (name : ByteArray) (hn : name.size ≤ 1000) (u : Int) : LV (.iface 143 (.agg #[.string name, .int .i64 u])) (.thing name u)
  | book (name : ByteArray) (hn : name.size ≤ 1000) (u fr til : Int) : LV (.iface 148 (.agg #[.string name, .int .i64 u, .int .i64 fr, .int .i64 til])) (.enter 1 name u fr til 0)
  | hold (name : ByteArray) (hn : name.size ≤ 1000) (u fr til long : Int) : LV (.iface 150 (.agg #[.string name, .int .i64 u, .int .i64 fr, .int .i64 til, .int .i64 long])) (.enter 2 name u fr til long)
  | wait (name : ByteArray) (hn : name.size ≤ 1000) (u fr til long : Int) : LV (.iface 151 (.agg #[.string name, .int .i64 u, .int .i64 fr, .int .i64 til, .int .i64 long])) (.enter 3 name u fr til long)
  | series (name : ByteArray) (hn : name.size ≤ 1000) (u : Int) (r : Rd.Rule) : LV (.iface 159 (.agg #[.string name, .int .i64 u, .int .i64 r.pc, .int .i64 r.ev, .bool (isd r.acc 0), .bool (isd r.acc 1), .bool (isd r.acc 2), .bool (isd r.acc 3), .bool (isd r.acc 4), .bool (isd r.acc 5), .bool (isd r.acc 6), .int .i64 r.fr, .int .i64 r.mn, .int .i64 r.mi, .int .i64 r.ti, .int .i64 r.un])) (.series name u r)
  | confirm (id : Int) : LV (.iface 161 (.agg #[.int .i64 id])) (.confirm id)
  | cancel (id : Int) : LV (.iface 162 (.agg #[.int .i64 id])) (.cancel id)
  | list (name : ByteArray) (hn : name.size ≤ 1000) (wi : Bool) (fr til a b : Int) (ha : (if wi then fr else 0) = a) (hb : (if wi then til else 1048320) = b) : LV (.iface 164 (.agg #[.string name, .bool wi, .int .i64 fr, .int .i64 til])) (.list name a b)
  | waiting : LV (.iface 167 (.agg #[])) (.waiting)
  | peak (name : ByteArray) (hn : name.size ≤ 1000) (fr til : Int) : LV (.iface 170 (.agg #[.string name, .int .i64 fr, .int .i64 til])) (.peak name fr til)
  | find (name : ByteArray) (hn : name.size ≤ 1000) (u long fr til : Int) : LV (.iface 172 (.agg #[.string name, .int .i64 u, .int .i64 long, .int .i64 fr, .int .i64 til])) (.find name u long fr til)
  | expand (r : Rd.Rule) : LV (.iface 174 (.agg #[.int .i64 r.pc, .int .i64 r.ev, .bool (isd r.acc 0), .bool (isd r.acc 1), .bool (isd r.acc 2), .bool (isd r.acc 3), .bool (isd r.acc 4), .bool (isd r.acc 5), .bool (isd r.acc 6), .int .i64 r.fr, .int .i64 r.mn, .int .i64 r.mi, .int .i64 r.ti, .int .i64 r.un])) (.expand r)
  | tick (n : Int) : LV (.iface 176 (.agg #[.int .i64 n])) (.tick n)
  | clock : LV (.iface 177 (.agg #[])) (.clock)

theorem answer_any {w : World} {d : Nat} {s : St} {rw_ : Raw} {col : Nat → Option Col} (h : DSt w d s rw_ col) (ht : Tab w) (h10 : 10 ≤ w.heap.size) {line : Value} {l : Desk.Line} (hv : LV line l) (hl : Desk.LineOk l) :
    Calls Tryz.prog 62 #[.pointer (some ⟨d, 0, none⟩), line] w fun e w' => ∃ v, e = .returned v ∧ AnsPost w d col (Desk.doesD s l) v w' := by
  cases hv with
  | thing name hn u => exact answer_thing h name hn u
  | book name hn u fr til => exact answer_book h name hn u fr til hl
  | hold name hn u fr til long => exact answer_hold h name hn u fr til long hl
  | wait name hn u fr til long => exact answer_wait h name hn u fr til long hl
  | series name hn u r => exact answer_series h ht h10 name hn u r hl
  | confirm id => exact answer_confirm h id hl
  | cancel id => exact answer_cancel h id hl
  | list name hn wi fr til a b ha hb => exact answer_list h name hn wi fr til a b ha hb
  | waiting => exact answer_waiting h
  | peak name hn fr til => exact answer_peak h name hn fr til hl
  | find name hn u long fr til => exact answer_find h name hn u long fr til hl
  | expand r => exact answer_expand h ht h10 r hl
  | tick n => exact answer_tick h n hl
  | clock => exact answer_clock h

end Go.Proofs.YtjfkfiffakbagaaGreatDoor


/-
  Package bookings: Do at a text that is read, whatever the line.
-/
namespace Go.Proofs.YtjfkfiffakbagaaGreatDoor
open Go.RowKit
open Desk (Ent St Ids kept booked bookE sumA Items ofB sameB Risen Mid EntOk endsB Inv)

/-- A text that reads as a line does what the line says. -/
theorem bDo_line {w : World} {p d : Nat} {s : St} {r : Raw} {col : Nat → Option Col} (h : BD w p d s r col) (t : ByteArray) {line : Value} {l : Desk.Line} (hr : ∀ e, ReadR t e → e = .returned (.tuple #[line, .int .i64 0, .int .i64 0])) (hv : LV line l) (hl : Desk.LineOk l) :
    Calls Tryz.prog 20 #[.pointer (some ⟨p, 0, none⟩), .string t] w fun e w' => ∃ v, e = .returned v ∧ BPost w p d col (Desk.stepD s l) v w' :=
  bDo_good h t line l hr hl (Desk.does_few h.ds.mid l) (fun _ ht h10 hds => answer_any hds ht h10 hv hl)

end Go.Proofs.YtjfkfiffakbagaaGreatDoor


/-
  The reader's steps: a word that is one; a word that can stand.
-/
namespace Go.Proofs.YtjfkfiffakbagaaGreatDoor
open Go.RowKit

theorem stp_yes {ws : List ByteArray} {B : ByteArray → Bool} {n : Nat} (h : n < ws.length) (hB : B (ws.getD n ByteArray.empty) = true) : stp ws B (n, false) = (n + 1, false) := by
  simp only [stp, tkN, tkW, tkB, moreB, hB, h, decide_true, Bool.not_false, Bool.and_self, if_true]

end Go.Proofs.YtjfkfiffakbagaaGreatDoor


/-
  What an expand line of known making reads.
-/
namespace Go.Proofs.YtjfkfiffakbagaaGreatDoor
open Go.RowKit

theorem takes {ws : List ByteArray} {B : ByteArray → Bool} {n : Nat} {x : ByteArray} (h : ws[n]? = some x) (hB : B x = true) : stp ws B (n, false) = (n + 1, false) ∧ ∀ V : ByteArray → Int, valAt ws (n, false) B V = V x := by
  have hn : n < ws.length := (List.getElem?_eq_some_iff.1 h).1
  have hg : ws.getD n ByteArray.empty = x := by rw [List.getD_eq_getElem?_getD, h]; rfl
  have ht : tkB ws n false B = true := by unfold tkB; rw [hg, hB]; simp [moreB, hn]
  exact ⟨stp_yes hn (by rw [hg]; exact hB), fun V => by simp only [valAt, tkV, ht, if_true, hg]⟩
theorem isb_yes {ws : List ByteArray} {n : Nat} {x : ByteArray} (h : ws[n]? = some x) : isB ws n false x = true := by
  have hn : n < ws.length := (List.getElem?_eq_some_iff.1 h).1
  have hg : ws.getD n ByteArray.empty = x := by rw [List.getD_eq_getElem?_getD, h]; rfl
  unfold isB; rw [hg]; simp [moreB, hn]
theorem stps_cons (ws : List ByteArray) (B : ByteArray → Bool) (Bs : List (ByteArray → Bool)) (st : Nat × Bool) : stps ws (B :: Bs) st = stps ws Bs (stp ws B st) := rfl
theorem stps_nil (ws : List ByteArray) (st : Nat × Bool) : stps ws [] st = st := rfl
end Go.Proofs.YtjfkfiffakbagaaGreatDoor

