import Derived.Test.YtfigmlfdnickmaaGreatDoorL19
import Derived.Test.YtfigmlfdnickmaaGreatDoorRows
import Derived.Test.YtfigmlfdnickmaaGreatDoorCards
import Derived.Test.YtfigmlfdnickmaaGreatDoorTie
import Derived.Deep.AppendLies
import Derived.BigQuiet
import Derived.WalkKit
import Derived.ProofKit
import Derived.Deep.DeepWitnessRowRef
import Derived.LaidLaws
import Derived.OpenShut
import Derived.Deep.Slices
import Derived.Deep.DeepHandedRow
import Derived.Lib.LaidTab
import Derived.Lib.LaidU8
import Derived.Shelf.Vars
set_option maxRecDepth 100000
set_option maxHeartbeats 8000000
variable{t:ByteArray}{l:List (Go.Proofs.YtfigmlfdnickmaaGreatDoor.Desk.Ent × Go.Value)}{ks:List (Nat × Go.Obj)}{es:List (Go.Value × List (Go.Proofs.YtfigmlfdnickmaaGreatDoor.Desk.Ent × Go.Value))}{B F a b dk g i k n p:Nat}{cc:Nat->Option (Nat × Go.Proofs.YtfigmlfdnickmaaGreatDoor.Col)}{cl col col':Nat->Option Go.Proofs.YtfigmlfdnickmaaGreatDoor.Col}{o:Go.Obj}{s:Go.Proofs.YtfigmlfdnickmaaGreatDoor.Desk.St}{v:Go.Value}{W W' X:Go.World}
namespace Go.Proofs.YtfigmlfdnickmaaGreatDoor
open Go.RowKit
open Desk (Ent St Inv a0h a2x a1q Rep)
def d1l(cc:Nat->Option (Nat × Col))(i k:Nat):Option Col :=
 match cc k with
 |some q=>if q.1=i then some q.2 else none
 |none=>none
def d1J(cc:Nat->Option (Nat × Col))(k:Nat):Option Col:=(cc k).map (·.2)
theorem d4S(h:cc k=none):d1J cc k=none:=by unfold d1J;rw[h];rfl
theorem d1U(h:cc k=none):d1l cc i k=none:=by unfold d1l;rw[h]
theorem c8K{c:Col}:d1l cc i k=some c↔cc k=some (i,c):=by
 unfold d1l
 cases h:cc k with
 |none=>simp
 |some q =>
  obtain⟨j,d⟩:=q;simp only[Option.some.injEq,Prod.mk.injEq]
  by_cases e:j=i
  ·rw[if_pos e];simp[e]
  ·rw[if_neg e];simp[e]
structure OR where
 v:Value
 t:TypeId
 z:Nat
 n:Nat
 xs:List Value
structure f5y(W:World)(col:Nat->Option Col)(q:OR):Prop where
 own:W.ownsRow 0 q.t q.z q.v q.n q.xs
 no:∀ b,q.v.ownBlock=some b->col b=none
theorem f5y.step{q:OR}(h:f5y W col q)(st:Step anyS W.heap.size col col' W W'):f5y W' col' q:=by
 have hv:∀ b,q.v.ownBlock=some b->col b=none/\b<W.heap.size:=fun b hb=>⟨h.no b hb,(h.own.lt b hb).2⟩
 exact⟨st.own h.own hv,fun b hb=>st.keepN (hv b hb).1 (hv b hb).2⟩
def c9T(v:Value)(l:List Int):OR:=⟨v,3,1,l.length,l.map (Value.int .i64)⟩
abbrev Dsk:=Nat × Nat × St
structure CMs(X W:World)(cc:Nat->Option (Nat × Col))(ds:List Dsk)(ks:List (Nat × Obj))(es:List (Value × List (Ent × Value)))(rs:List OR):Prop where
 dg:∀ (i:Nat) (d:Dsk),ds[i]?=some d->∃ r,DG X W d.1 d.2.1 d.2.2 r (d1l cc i)
 pp:∀ d∈ds,cc d.1=none
 ks:∀ q∈ks,KB W (d1J cc) q.1 q.2
 es:∀ q∈es,a3j W 0 (d1J cc) q.1 q.2
 rs:∀ q∈rs,f5y W (d1J cc) q
 lt:∀ k,W.heap.size<=k->cc k=none
 ev:Env W
 bl:Below X.heap.size X W
 nb:∀ k q,cc k=some q->q.1<ds.length
def CM(X W:World)(ds:List Dsk)(ks:List (Nat × Obj))(es:List (Value × List (Ent × Value)))(rs:List OR):Prop:=∃ cc,CMs X W cc ds ks es rs
theorem CM.start(he:Env X):CM X X [] [] [] []:=⟨fun _=>none,fun i d h=>by simp at h,by simp,by simp,by simp,by simp,fun _ _=>rfl,he,Below.refl _ _,fun _ _ h=>by cases h⟩
theorem CM.later{ds:List Dsk}{rs:List OR}(h:CM X W ds ks es rs)(k:Below W.heap.size W W'):CM X W' ds ks es rs:=by
 obtain⟨cc,h⟩:=h;have st:Step anyS W.heap.size (d1J cc) (d1J cc) W W':=Step.below k;refine⟨cc,fun i d hd=>?_,h.pp,fun q hq=>(h.ks q hq).later k,fun q hq=>(h.es q hq).step (S:=anyS) (B:=W.heap.size) st (zq _),fun q hq=>(h.rs q hq).step st,fun b hb=>h.lt b (zt k.size hb),h.ev.later k,h.bl.trans (k.mono h.bl.size),h.nb⟩;obtain⟨r,D⟩:=h.dg i d hd;exact⟨r,D.later k⟩
theorem CM.less{ds:List Dsk}{ks':List (Nat × Obj)}{es':List (Value × List (Ent × Value))}{rs rs':List OR}(h:CM X W ds ks es rs)(hk:∀ q∈ks',q∈ks)(he:∀ q∈es',q∈es)(hr:∀ q∈rs',q∈rs):CM X W ds ks' es' rs':=by
 obtain⟨cc,h⟩:=h;exact⟨cc,h.dg,h.pp,fun q hq=>h.ks q (hk q hq),fun q hq=>h.es q (he q hq),fun q hq=>h.rs q (hr q hq),h.lt,h.ev,h.bl,h.nb⟩
theorem CM.alloc{ds:List Dsk}{rs:List OR}(h:CM X W ds ks es rs)(o:Obj):CM X (W.alloc o) ds ((W.heap.size,o) :: ks) es rs:=by
 have k:Below W.heap.size W (W.alloc o):=(zr _ _).alloc (zq _) _;obtain⟨cc,h0⟩:=h;have st:Step anyS W.heap.size (d1J cc) (d1J cc) W (W.alloc o):=Step.below k;refine⟨cc,fun i d hd=>?_,h0.pp,fun q hq=>?_,fun q hq=>(h0.es q hq).step (S:=anyS) (B:=W.heap.size) st (zq _),fun q hq=>(h0.rs q hq).step st,fun b hb=>h0.lt b (zt k.size hb),h0.ev.later k,h0.bl.trans (k.mono h0.bl.size),h0.nb⟩
 ·obtain⟨r,D⟩:=h0.dg i d hd;exact⟨r,D.later k⟩
 ·rcases List.mem_cons.1 hq with rfl|hq
  ·exact⟨a0p W o,d4S (h0.lt _ (zq _))⟩
  ·exact (h0.ks q hq).later k
theorem CM.env{ds:List Dsk}{rs:List OR}(h:CM X W ds ks es rs):Env W:=by
 obtain⟨cc,h⟩:=h;exact h.ev
theorem CM.bl{ds:List Dsk}{rs:List OR}(h:CM X W ds ks es rs):Below X.heap.size X W:=by
 obtain⟨cc,h⟩:=h;exact h.bl
theorem CM.inv{ds:List Dsk}{rs:List OR}(h:CM X W ds ks es rs)(hi:ds[i]?=some (p,dk,s)):Inv s:=by
 obtain⟨cc,h⟩:=h;obtain⟨r,D⟩:=h.dg i _ hi;exact D.inv
theorem CM.kb{ds:List Dsk}{rs:List OR}(h:CM X W ds ks es rs)(hq:(b,o)∈ks):W.heap[b]?=some o:=by
 obtain⟨cc,h⟩:=h;exact (h.ks _ hq).h
theorem CM.ev{ds:List Dsk}{rs:List OR}(h:CM X W ds ks es rs)(hq:(v,l)∈es):EV W v l:=by
 obtain⟨cc,h⟩:=h;exact (h.es _ hq).ev
theorem CM.row{ds:List Dsk}{rs:List OR}(h:CM X W ds ks es rs){q:OR}(hq:q∈rs):W.ownsRow 0 q.t q.z q.v q.n q.xs:=by
 obtain⟨cc,h⟩:=h;exact (h.rs _ hq).own
theorem CMs.step{ds:List Dsk}{rs:List OR}(h:CMs X W cc ds ks es rs){d:Dsk}(hi:ds[i]?=some d){s':St}{r':Raw}(D':DG X W' d.1 d.2.1 s' r' col')(st:Step anyS W.heap.size (d1l cc i) col' W W'):
  ∃ cc',(∀ b,W.heap.size<=b->col' b=none->d1J cc' b=none)/\CMs X W' cc' (ds.set i (d.1,d.2.1,s')) ks es rs:=by
 let cc':Nat->Option (Nat × Col):=fun k=>match col' k with
  |some c=>some (i,c)
  |none=>cc k
 have c1:∀ {k c},col' k=some c->cc' k=some (i,c):=fun {k c} e=>by show (match col' k with|some c=>some (i,c)|none=>cc k)=_;rw[e]
 have c0:∀ {k},col' k=none->cc' k=cc k:=fun {k} e=>by show (match col' k with|some c=>some (i,c)|none=>cc k)=_;rw[e]
 have hself:d1l cc' i=col':=funext fun k=>by
  cases e:col' k with
  |some c=>exact c8K.2 (c1 e)
  |none =>
   cases e2:d1l cc' i k with
   |none=>rfl
   |some c =>
    have e3:=c8K.1 e2;rw[c0 e] at e3;have:=st.a9i k c (c8K.2 e3);rw[e] at this;cases this
 have hoth:∀ j,j≠i->d1l cc' j=d1l cc j:=fun j hj=>funext fun k=>by
  cases e:col' k with
  |none=>unfold d1l;rw[c0 e]
  |some c =>
   have e1:d1l cc' j k=none:=by
    cases e2:d1l cc' j k with
    |none=>rfl
    |some c2 =>
     have:=c8K.1 e2;rw[c1 e] at this;simp only[Option.some.injEq,Prod.mk.injEq] at this;exact absurd this.1.symm hj
   rw[e1];rcases st.new k c e with h2|h2
   ·cases e3:d1l cc j k with
    |none=>rfl
    |some c3 =>
     have x1:=c8K.1 h2;have x2:=c8K.1 e3;rw[x1] at x2;simp only[Option.some.injEq,Prod.mk.injEq] at x2;exact absurd x2.1.symm hj
   ·exact (d1U (h.lt k h2)).symm
 obtain⟨G,off,hG⟩:=st.off
 have hG2:∀ x∈G,(∃ c,cc x=some (i,c))\/W.heap.size<=x:=fun x hx=>by
  rcases hG x hx with ⟨c,e,_⟩|⟨_,e⟩
  ·exact .inl ⟨c,c8K.1 e⟩
  ·exact .inr e
 have ST:Step anyS W.heap.size (d1J cc) (d1J cc') W W':=by
  refine⟨⟨G,off,fun x hx=>?_⟩,fun k c hk=>?_,fun k c hk=>?_⟩
  ·rcases hG2 x hx with ⟨c,e⟩|e
   ·exact .inl ⟨c,by unfold d1J;rw[e];rfl,trivial⟩
   ·exact .inr ⟨d4S (h.lt x e),e⟩
  ·unfold d1J at hk ⊢
   cases e:cc k with
   |none=>rw[e] at hk;cases hk
   |some q =>
    obtain⟨j,c2⟩:=q;rw[e] at hk;simp only[Option.map_some,Option.some.injEq] at hk;subst hk
    by_cases hj:j=i
    ·subst hj;rw[c1 (st.a9i k c2 (c8K.2 e))];rfl
    ·cases e2:col' k with
     |none=>rw[c0 e2,e];rfl
     |some c3 =>
      rcases st.new k c3 e2 with h2|h2
      ·have:=c8K.1 h2;rw[e] at this;simp only[Option.some.injEq,Prod.mk.injEq] at this;exact absurd this.1 hj
      ·rw[h.lt k h2] at e;cases e
  ·unfold d1J at hk ⊢
   cases e2:col' k with
   |none=>rw[c0 e2] at hk;exact .inl hk
   |some c3 =>
    rw[c1 e2] at hk;simp only[Option.map_some,Option.some.injEq] at hk;subst hk;rcases st.new k c3 e2 with h2|h2
    ·rw[c8K.1 h2];exact .inl rfl
    ·exact .inr h2
 refine⟨cc',fun b hb hc=>by rw[d4S];rw[c0 hc];exact h.lt b hb,fun j dj hj=>?_,fun dj hdj=>?_,fun q hq=>(h.ks q hq).step ST,fun q hq=>(h.es q hq).step ST (zq _),fun q hq=>(h.rs q hq).step ST,fun k hk=>?_,D'.bd.env,D'.bl,fun k q hq=>?_⟩
 ·have hil:i<ds.length:=(List.getElem?_eq_some_iff.1 hi).1
  by_cases e:i=j
  ·subst e;rw[List.getElem?_set_self hil] at hj;simp only[Option.some.injEq] at hj;subst hj;exact⟨r',by rw[hself];exact D'⟩
  ·rw[List.getElem?_set_ne e] at hj;obtain⟨r,D⟩:=h.dg j dj hj
   have hp:dj.1 ∉ G:=fun hx=>by
    rcases hG2 _ hx with ⟨c,e2⟩|e2
    ·rw[h.pp dj (List.mem_of_getElem? hj)] at e2;cases e2
    ·have:=(Array.getElem?_eq_some_iff.1 D.bd.pc).1;omega
   rw[hoth j (fun x=>e x.symm)];refine⟨r,⟨⟨(off.block dj.1 (Array.getElem?_eq_some_iff.1 D.bd.pc).1 hp).trans D.bd.pc,D.bd.pn,⟨D.bd.ds.dk.off off (fun x hx=>?_),D.bd.ds.of,D.bd.ds.wl,D.bd.ds.hl,D.bd.ds.inv⟩,D'.bd.env,D.bd.gl⟩,D'.bl,D.lo⟩⟩;rcases hG2 x hx with ⟨c,e2⟩|e2
   ·cases e3:d1l cc j x with
    |none=>rfl
    |some c3 =>
     have:=c8K.1 e3;rw[e2] at this;simp only[Option.some.injEq,Prod.mk.injEq] at this;exact absurd this.1 e
   ·exact d1U (h.lt x e2)
 ·have hil:i<ds.length:=(List.getElem?_eq_some_iff.1 hi).1
  have hd0:∃ d0∈ds,dj.1=d0.1:=by
   rcases List.mem_or_eq_of_mem_set hdj with e|e
   ·exact⟨dj,e,rfl⟩
   ·exact⟨d,List.mem_of_getElem? hi,by rw[e]⟩
  obtain⟨d0,m0,e0⟩:=hd0;have n0:=h.pp d0 m0;rw[<- e0] at n0;obtain⟨j,hj,ej⟩:=List.getElem_of_mem m0;obtain⟨r,D⟩:=h.dg j d0 (by rw[List.getElem?_eq_getElem hj,ej]);have hb:dj.1<W.heap.size:=by rw[e0];exact (Array.getElem?_eq_some_iff.1 D.bd.pc).1
  rw[c0 (st.keepN (d1U n0) hb)];exact n0
 ·have hs:=st.size;rw[c0 (D'.none hk)];exact h.lt k (zt hs hk)
 ·rw[List.length_set]
  cases e:col' k with
  |none=>rw[c0 e] at hq;exact h.nb k q hq
  |some c =>
   rw[c1 e] at hq;simp only[Option.some.injEq] at hq;subst hq;exact (List.getElem?_eq_some_iff.1 hi).1
open Desk (Ent St Inv a0h a2x)
def MDo(X W:World)(ds:List Dsk)(i p dk:Nat)(ks:List (Nat × Obj))(es:List (Value × List (Ent × Value)))(rs:List OR)(q:St × Rep)(e:Ending)(W':World):Prop :=
 ∃ (l:List (Ent × Value)) (a1 a2 a3 a4:Option Addr) (c1 c2 c3 c4:Nat),e=.returned (.agg #[.int .i64 q.2.err,.int .i64 q.2.at_,.int .i64 q.2.n,.slice a1 l.length c1,.slice a2 q.2.days.length c2,.slice a3 q.2.granted.length c3,.slice a4 q.2.ended.length c4]) /\
  l.map (·.1)=q.2.entries/\CM X W' (ds.set i (p,dk,q.1)) ks ((.slice a1 l.length c1,l) :: es) (c9T (.slice a2 q.2.days.length c2) q.2.days :: c9T (.slice a3 q.2.granted.length c3) q.2.granted :: c9T (.slice a4 q.2.ended.length c4) q.2.ended :: rs)/\W.heap.size<=W'.heap.size
theorem a2I.orow{l:List Int}(h:a2I W B col v l)(hc:∀ b,B<=b->col b=none->cl b=none):f5y W cl (c9T v l) :=
 ⟨a9c h.own (zN _),fun b hb=>hc b (h.own.lt b hb).1 (h.no b hb)⟩
theorem a3j.flat(h:a3j W B col v l)(hc:∀ b,B<=b->col b=none->cl b=none):a3j W 0 cl v l :=
 ⟨a9c h.own (zN _),fun b hb=>hc b (h.own.lt b hb).1 (h.no b hb),fun p hp=>⟨⟨a9c (h.sp p hp).1.own (zN _),fun b hb=>hc b ((h.sp p hp).1.own.lt b hb).1 ((h.sp p hp).1.no b hb)⟩,(h.sp p hp).2⟩⟩
theorem f2I{ds:List Dsk}{rs:List OR}(h:CMs X W cc ds ks es rs)(hi:ds[i]?=some (p,dk,s)){r:Raw}(D:DG X W p dk s r (d1l cc i)){q:St × Rep}(k:b5M W p dk (d1l cc i) q v W'):MDo X W ds i p dk ks es rs q (.returned v) W':=by
 obtain⟨r',col',bd,st,en,da,gr,ed,l,rfl,he,k1,k2,k3,k4,_⟩:=k;obtain⟨a1,c1,rfl⟩:=a0B k1.own;obtain⟨a2,c2,rfl⟩:=a0B k2.own;obtain⟨a3,c3,rfl⟩:=a0B k3.own;obtain⟨a4,c4,rfl⟩:=a0B k4.own;obtain⟨cc',hfl,hC⟩:=h.step hi (D.step bd st) st;refine⟨l,a1,a2,a3,a4,c1,c2,c3,c4,rfl,he,⟨cc',hC.dg,hC.pp,hC.ks,fun x hx=>?_,fun x hx=>?_,hC.lt,hC.ev,hC.bl,hC.nb⟩,st.size⟩
 ·rcases List.mem_cons.1 hx with rfl|hx
  ·exact k1.flat hfl
  ·exact hC.es x hx
 ·rcases List.mem_cons.1 hx with rfl|hx
  ·exact k2.orow hfl
  ·rcases List.mem_cons.1 hx with rfl|hx
   ·exact k3.orow hfl
   ·rcases List.mem_cons.1 hx with rfl|hx
    ·exact k4.orow hfl
    ·exact hC.rs x hx
theorem CM.few{ds:List Dsk}{rs:List OR}(h:CM X W ds ks es rs)(i:Nat)(hi:ds[i]?=some (p,dk,s)){l:Desk.a7U}(hr:Reads t v)(hv:LV v l)(hl:Desk.a1O l)(hf:g5r l=true){q:St × Rep}(hq:a1q s l=q):
  Calls Tryz.prog 21 #[.pointer (some ⟨p,0,none⟩),.string t] W fun e W'=>MDo X W ds i p dk ks es rs q e W':=by
 subst hq;obtain⟨cc,h⟩:=h;obtain⟨r,D⟩:=h.dg i _ hi;exact (g3L D.bd t hr hv hl hf).mono fun _ _ ⟨_,e,k⟩=>by rw[e];exact f2I h hi D k
theorem CM.begin{ds:List Dsk}{rs:List OR}(h:CM X W ds ks es rs)(a b:Int)(ha:1<=a/\a<=9)(hb:1<=b/\b<=9):
  Calls Tryz.prog 18 #[.agg #[.int .i64 a,.int .i64 b]] W fun e W'=>∃ p dk,e=.returned (.tuple #[.pointer (some ⟨p,0,none⟩),.bool true])/\W.heap.size<=p/\p<W'.heap.size/\CM X W' (ds++[(p,dk,a3Z a b)]) ks es rs:=by
 obtain⟨cc,h⟩:=h;refine (f0a W h.ev a b ha hb).mono ?_;rintro e W' ⟨p,dk,r,col,rfl,D,hp⟩;have hk:Below W.heap.size W W':=D.bl
 let cc':Nat->Option (Nat × Col):=fun k=>match col k with
  |some c=>some (ds.length,c)
  |none=>cc k
 have c1:∀ {k c},col k=some c->cc' k=some (ds.length,c):=fun {k c} e=>by show (match col k with|some c=>some (ds.length,c)|none=>cc k)=_;rw[e]
 have c0:∀ {k},col k=none->cc' k=cc k:=fun {k} e=>by show (match col k with|some c=>some (ds.length,c)|none=>cc k)=_;rw[e]
 have lo2:∀ {k c},col k=some c->W.heap.size<=k:=fun {k c} e=>Nat.le_of_not_lt fun hl=>by rw[D.lo k hl] at e;cases e
 have low:∀ k,k<W.heap.size->cc' k=cc k:=fun k hl=>c0 (D.lo k hl)
 have hoth:∀ j,j<ds.length->d1l cc' j=d1l cc j:=fun j hj=>funext fun k=>by
  cases e:col k with
  |none=>unfold d1l;rw[c0 e]
  |some c =>
   rw[d1U (i:=j) (h.lt k (lo2 e))]
   cases e2:d1l cc' j k with
   |none=>rfl
   |some c2 =>
    have:=c8K.1 e2;rw[c1 e] at this;simp only[Option.some.injEq,Prod.mk.injEq] at this;omega
 have hself:d1l cc' ds.length=col:=funext fun k=>by
  cases e:col k with
  |some c=>exact c8K.2 (c1 e)
  |none =>
   cases e2:d1l cc' ds.length k with
   |none=>rfl
   |some c =>
    have e3:=c8K.1 e2;rw[c0 e] at e3;have:=h.nb k _ e3;simp at this
 have ST:Step anyS W.heap.size (d1J cc) (d1J cc') W W':=by
  refine⟨⟨[],Off.of_below hk,by simp⟩,fun k c e=>?_,fun k c e=>?_⟩
  ·have hl:k<W.heap.size:=Nat.lt_of_not_le fun hl=>by rw[d4S (h.lt k hl)] at e;cases e
   unfold d1J at e ⊢;rw[low k hl];exact e
  ·by_cases hl:k<W.heap.size
   ·unfold d1J at e ⊢;rw[low k hl] at e;exact .inl e
   ·exact .inr (Nat.le_of_not_lt hl)
 have pl:p<W'.heap.size:=(Array.getElem?_eq_some_iff.1 D.bd.pc).1;refine⟨p,dk,rfl,hp,pl,cc',fun j d hj=>?_,fun d hd=>?_,fun q hq=>(h.ks q hq).step ST,fun q hq=>(h.es q hq).step ST (zq _),fun q hq=>(h.rs q hq).step ST,fun k hk'=>?_,D.bd.env,h.bl.trans (hk.mono h.bl.size),fun k q hq=>?_⟩
 ·by_cases hl:j<ds.length
  ·rw[List.getElem?_append_left hl] at hj;obtain⟨r2,D2⟩:=h.dg j d hj;exact⟨r2,by rw[hoth j hl];exact D2.later hk⟩
  ·have hj2:j<(ds++[(p,dk,a3Z a b)]).length:=(List.getElem?_eq_some_iff.1 hj).1;rw[List.length_append] at hj2;have e:j=ds.length:=by simp at hj2;omega
   subst e;rw[List.getElem?_append_right (zq _)] at hj;simp only[Nat.sub_self,List.getElem?_cons_zero,Option.some.injEq] at hj;subst hj;refine⟨r,?_⟩;rw[hself];exact⟨D.bd,h.bl.trans (hk.mono h.bl.size),fun x hx=>D.lo x (zL hx h.bl.size)⟩
 ·rcases List.mem_append.1 hd with hd|hd
  ·obtain⟨j,hj,ej⟩:=List.getElem_of_mem hd;obtain⟨r2,D2⟩:=h.dg j d (by rw[List.getElem?_eq_getElem hj,ej]);rw[low d.1 (Array.getElem?_eq_some_iff.1 D2.bd.pc).1];exact h.pp d hd
  ·rw[List.mem_singleton.1 hd];rw[c0 D.bd.pn];exact h.lt p hp
 ·rw[c0 (D.none hk')];exact h.lt k (zt hk.size hk')
 ·rw[List.length_append]
  cases e:col k with
  |none=>rw[c0 e] at hq;have:=h.nb k q hq;simp;omega
  |some c =>
   rw[c1 e] at hq;simp only[Option.some.injEq] at hq;subst hq;simp
theorem CM.put{ds:List Dsk}{rs:List OR}{o':Obj}(h:CM X W ds ((b,o) :: ks) [] rs)(h10:10<=X.heap.size)(hX:X.heap.size<=b)(hp:∀ d∈ds,d.1≠b)(hn:∀ q∈ks,q.1≠b)(hr:∀ q∈rs,∀ c,q.v.ownBlock=some c->c≠b)(k:Off [b] W W')(hb:W'.heap[b]?=some o'):CM X W' ds ((b,o') :: ks) [] rs:=by
 obtain⟨cc,h⟩:=h;have hk0:=h.ks (b,o) (List.mem_cons_self ..)
 have hc:cc b=none:=by
  have:=hk0.c;unfold d1J at this
  cases e:cc b with
  |none=>rfl
  |some q=>rw[e] at this;cases this
 have kb:∀ N,N<=X.heap.size->Below N W W':=fun N hN=>⟨k.os,k.tape,k.output,k.size,fun x hx=>k.block x (zL hx (zt hN h.bl.size)) (by simp;omega)⟩
 have he:Env W':=h.ev.ten (kb 10 h10);have hbl:Below X.heap.size X W':=h.bl.trans (kb _ (zq _));refine⟨cc,fun i d hd=>?_,h.pp,fun q hq=>?_,by simp,fun q hq=>⟨a1i (h.rs q hq).own k (fun c hc=>by simp;exact hr q hq c hc),(h.rs q hq).no⟩,fun x hx=>h.lt x (zt k.size hx),he,hbl,h.nb⟩
 ·obtain⟨r,D⟩:=h.dg i d hd;exact⟨r,⟨⟨(k.block d.1 (Array.getElem?_eq_some_iff.1 D.bd.pc).1 (by simp;exact hp d (List.mem_of_getElem? hd))).trans D.bd.pc,D.bd.pn,⟨D.bd.ds.dk.off k (fun x hx=>by have:x=b:=List.mem_singleton.1 hx;subst this;exact d1U hc),D.bd.ds.of,D.bd.ds.wl,D.bd.ds.hl,D.bd.ds.inv⟩,he,D.bd.gl⟩,hbl,D.lo⟩⟩
 ·rcases List.mem_cons.1 hq with rfl|hq
  ·exact⟨hb,d4S hc⟩
  ·have h2:=h.ks q (List.mem_cons_of_mem _ hq);exact⟨(k.block q.1 (Array.getElem?_eq_some_iff.1 h2.h).1 (by simp;exact hn q hq)).trans h2.h,h2.c⟩
theorem CM.next{ds:List Dsk}{rs:List OR}(h:CM X W ds ((F,a8o t a) :: ks) [] rs)(h10:10<=X.heap.size)(hX:X.heap.size<=F)(hp:∀ d∈ds,d.1≠F)(hn:∀ q∈ks,q.1≠F)(hr:∀ q∈rs,∀ c,q.v.ownBlock=some c->c≠F)(ha:a<=t.size)(hs:t.size<=9223372036854775807)(n:Int)(h1:1<=n)(h2:n<=1000):
  Calls Tryz.prog 26 #[.pointer (some ⟨F,0,none⟩),.int .i64 n] W fun e W'=>∃ (v:Int) (a':Nat),e=.returned (.int .i64 v)/\0<=v/\v<n/\a'<=t.size/\CM X W' ds ((F,a8o t a') :: ks) [] rs:=by
 have hf:FW W F t W:=⟨⟨a,h.kb (List.mem_cons_self ..),ha,hs⟩,h.env,Off.refl _ _,Nat.le_trans h10 hX⟩;refine (a1h hf n h1 h2).mono ?_;rintro e W' ⟨v,rfl,v0,v1,kf⟩;obtain⟨a',fd⟩:=kf.fd;exact⟨v,a',rfl,v0,v1,fd.le,h.put h10 hX hp hn hr kf.off fd.b⟩
open Desk (Ent)
theorem b1y(L:List (Int × Int))(u v:Value)(w:World)(hu:SV w u L)(hv:SV w v L)(hl:L.length<=1000000):
  Calls Tryz.prog 31 #[u,v] w fun e w'=>e=.returned (.bool true)/\Below w.heap.size w w':=by
 obtain⟨a,ca,rfl⟩:=hu.form;obtain⟨b,cb,rfl⟩:=hv.form;have HU:=a0b hu;have HV:=a0b hv;clear hu hv;have hb:((L.length:Int) != (L.length:Int))=false:=by simp
 go_enter Tryz.func31,Tryz.ntmps31
 go_wp2_with fail
 go_loopw [5] (fun v wr=>∃ k:Nat,k<=L.length/\v=.int .i64 k/\Below w.heap.size w wr) (fun v _=>L.length-(intOf v).toNat)
 case atStart=>exact⟨0,Nat.zero_le _,rfl,Below.refl _ _⟩
 case round =>
  obtain⟨k,hk,rfl,hbl⟩:=hrel;have HB:=a0b hbl;clear hbl
  by_cases hlt:k<L.length
  ·have hlt':(k:Int)<(L.length:Int):=by omega
   obtain⟨g,cap,e,a0,a1⟩:=(HU.out.later HB.out).cell k hlt;simp only[Value.slice.injEq,true_and] at e;obtain⟨rfl,rfl⟩:=e;obtain⟨g2,cap2,e,b0,b1⟩:=(HV.out.later HB.out).cell k hlt;simp only[Value.slice.injEq,true_and] at e;obtain⟨rfl,rfl⟩:=e;generalize L[k].1=x at *;generalize L[k].2=y at *
   go_upto_region 6 with fail
   go_big_region
   have HBd:=a0b (HB.out.drew);clear HB
   go_wp2_with fail
   go_roundw
   case rel=>exact⟨k+1,by omega,by go_num,HBd.out⟩
   case measure=>simp[intOf];omega
  ·have hlt':¬ (k:Int)<(L.length:Int):=by omega
   go_wp2_with fail
   go_ret;exact⟨rfl,HB.out⟩
theorem a9Q{w w':World}(h:Below B w w')(n:Nat):Below B w (w'.drewN n):=⟨h.os,h.tape,h.output,h.size,h.block⟩
theorem a8V(l m:List (Ent × Value))(u v:Value)(w:World)(hu:EV w u l)(hv:EV w v m)(he:l.map (·.1)=m.map (·.1))(hl:l.length<=1000)(hs:∀ p∈l,p.1.a0e.length<=1000):
  Calls Tryz.prog 29 #[u,v] w fun e w'=>e=.returned (.bool true)/\Below w.heap.size w w':=by
 obtain⟨a,ca,rfl⟩:=hu.form;obtain⟨b,cb,rfl⟩:=hv.form;have hlen:m.length=l.length:=by have:=congrArg List.length he;simpa using this.symm
 have AT:Hid (∀ (k:Nat) (h:k<l.length) (h':k<m.length),m[k].1=l[k].1):=fun k h h'=>by
  have:=congrArg (fun x=>x[k]?) he;simp only[List.getElem?_map,List.getElem?_eq_getElem h,List.getElem?_eq_getElem h',Option.map_some] at this;exact (Option.some.inj this).symm
 have HU:=a0b hu;have HV:=a0b hv;have HS:=a0b hs;rw[hlen];clear hu hv he hs;have hb:((l.length:Int) != (l.length:Int))=false:=by simp
 go_enter Tryz.func29,Tryz.ntmps29
 go_wp2_with fail
 go_loopw [5,6] (fun v _ wr=>∃ k:Nat,k<=l.length/\v=.int .i64 k/\Below w.heap.size w wr) (fun v _ _=>l.length-(intOf v).toNat)
 case atStart=>exact⟨0,Nat.zero_le _,rfl,Below.refl _ _⟩
 case round =>
  obtain⟨k,hk,rfl,hbl⟩:=hrel;have HB:=a0b hbl;clear hbl
  by_cases hlt:k<l.length
  ·have hlt':(k:Int)<(l.length:Int):=by omega
   have hmt:k<m.length:=by omega
   obtain⟨g,cap,e,a0,a1,a2,a3,a4,a5⟩:=(HU.out.later HB.out).cell k hlt;simp only[Value.slice.injEq,true_and] at e;obtain⟨rfl,rfl⟩:=e;obtain⟨g2,cap2,e,b0,b1,b2,b3,b4,b5⟩:=(HV.out.later HB.out).cell k hmt;simp only[Value.slice.injEq,true_and] at e;obtain⟨rfl,rfl⟩:=e;have s1:=(HU.out.later HB.out).sp l[k] (zg hlt);have s2:=(HV.out.later HB.out).sp m[k] (zg hmt);rw[AT.out k hlt hmt] at b0 b1 b2 b3 b5 s2;have SP:=a0b (fun W' (q:Below wr.heap.size wr W')=>b1y l[k].1.a0e l[k].2 m[k].2 W' (s1.later q) (s2.later q) (by have:=HS.out l[k] (zg hlt);omega));obtain⟨f1,f2,e1⟩:=s1.form;obtain⟨f3,f4,e2⟩:=s2.form;rw[e1] at a4 SP;rw[e2] at b4 SP;clear s1 s2 e1 e2;generalize l[k].1=x at *;have n0:(x.id != x.id)=false:=by simp
   have n1:(x.kind != x.kind)=false:=by simp
   have n3:(x.a0c != x.a0c)=false:=by simp
   have n5:(x.a0Z != x.a0Z)=false:=by simp
   have HBd:=a0b (HB.out.drew);have SS:Hid (∀ W',Below wr.drew.heap.size wr.drew W'->W'.cell? ⟨g,k*6,none⟩=some (.int .i64 x.id)/\W'.cell? ⟨g,k*6+1,none⟩=some (.int .i64 x.kind)/\W'.cell? ⟨g,k*6+2,none⟩=some (.string x.a0k)/\W'.cell? ⟨g,k*6+3,none⟩=some (.int .i64 x.a0c)/\W'.cell? ⟨g,k*6+4,none⟩=some (.slice f1 x.a0e.length f2)/\W'.cell? ⟨g,k*6+5,none⟩=some (.int .i64 x.a0Z)/\W'.cell? ⟨g2,k*6,none⟩=some (.int .i64 x.id)/\W'.cell? ⟨g2,k*6+1,none⟩=some (.int .i64 x.kind)/\W'.cell? ⟨g2,k*6+2,none⟩=some (.string x.a0k)/\W'.cell? ⟨g2,k*6+3,none⟩=some (.int .i64 x.a0c)/\W'.cell? ⟨g2,k*6+4,none⟩=some (.slice f3 x.a0e.length f4)/\W'.cell? ⟨g2,k*6+5,none⟩=some (.int .i64 x.a0Z)):=fun W' q=>⟨a0a q a0,a0a q a1,a0a q a2,a0a q a3,a0a q a4,a0a q a5,a0a q b0,a0a q b1,a0a q b2,a0a q b3,a0a q b4,a0a q b5⟩
   clear HB
   go_upto_region 6 with fail
   go_region_held3 (fun W'=>W'.cell? ⟨g,k*6,none⟩=some (.int .i64 x.id)/\W'.cell? ⟨g,k*6+1,none⟩=some (.int .i64 x.kind)/\W'.cell? ⟨g,k*6+2,none⟩=some (.string x.a0k)/\W'.cell? ⟨g,k*6+3,none⟩=some (.int .i64 x.a0c)/\W'.cell? ⟨g,k*6+4,none⟩=some (.slice f1 x.a0e.length f2)/\W'.cell? ⟨g,k*6+5,none⟩=some (.int .i64 x.a0Z)/\W'.cell? ⟨g2,k*6,none⟩=some (.int .i64 x.id)/\W'.cell? ⟨g2,k*6+1,none⟩=some (.int .i64 x.kind)/\W'.cell? ⟨g2,k*6+2,none⟩=some (.string x.a0k)/\W'.cell? ⟨g2,k*6+3,none⟩=some (.int .i64 x.a0c)/\W'.cell? ⟨g2,k*6+4,none⟩=some (.slice f3 x.a0e.length f4)/\W'.cell? ⟨g2,k*6+5,none⟩=some (.int .i64 x.a0Z))
    (first
     |with_reducible exact SS.out _ HB6.out
     |exact⟨a0,a1,a2,a3,a4,a5,b0,b1,b2,b3,b4,b5⟩)
    (first
     |(go_at_call 31;refine (SP.out _ (a0q _)).mono ?_;rintro e w6 ⟨rfl,hb6⟩;have HB6:=a0b hb6;clear hb6))
   have HF:Hid (Below w.heap.size w w6):=a0j HBd.out HB6.out (zq _);obtain⟨c0,c1,c2,c3,c4,c5,d0,d1,d2,d3,d4,d5⟩:=SS.out _ HB6.out;clear HB6 HBd SS SP a0 a1 a2 a3 a4 a5 b0 b1 b2 b3 b4 b5;have n2:(x.a0k.toList != x.a0k.toList)=false:=by simp
   have n2':(x.a0k.toList==x.a0k.toList)=true:=by simp
   go_upto_region 7 with fail
   go_quiet (fail)
   go_wp2_with fail
   go_roundw
   case rel=>exact⟨k+1,by omega,by go_num,a9Q HF.out _⟩
   case measure=>simp[intOf];omega
  ·have hlt':¬ (k:Int)<(l.length:Int):=by omega
   go_wp2_with fail
   go_ret;exact⟨rfl,HB.out⟩
open Desk (Ent St Inv a1q Rep)
theorem d9f:Reads (⟨#[119,97,105,116,105,110,103]⟩:ByteArray) (.iface 173 (.agg #[])):=by
 have hw:Txt.a1v (⟨#[119,97,105,116,105,110,103]⟩:ByteArray)=[a5q]:=by
  refine Txt.a5p ?_ ?_
  ·simp only[List.map_cons,List.map_nil,Txt.b3k];rfl
  ·intro x hx;rw[List.mem_singleton.1 hx]
   decide +kernel
 exact a5G (n:=1) hw (by decide) (a2H.waiting (b1P (x:=a5q) rfl)) rfl
theorem d5K(h:Inv s):a1q s .waiting=(s,⟨0,0,0,s.es.filter (fun e=>e.kind==3),[],[],[]⟩):=by
 have e:Desk.a0g s .waiting=(s,⟨0,0,0,s.es.filter (fun e=>e.kind==3),[],[],[]⟩):=rfl;rw[Desk.a8T h (by rw[e]),e]
theorem e4h:Reads (⟨#[99,108,111,99,107]⟩:ByteArray) (.iface 183 (.agg #[])):=by
 have hw:Txt.a1v (⟨#[99,108,111,99,107]⟩:ByteArray)=[b1c]:=by
  refine Txt.a5p ?_ ?_
  ·simp only[List.map_cons,List.map_nil,Txt.b3k];rfl
  ·intro x hx;rw[List.mem_singleton.1 hx]
   decide +kernel
 exact a5G (n:=1) hw (by decide) (a2H.clock (b1P (x:=b1c) rfl)) rfl
theorem e7G(h:Inv s):a1q s .clock=(s,Rep.num s.now):=by
 have e:Desk.a0g s .clock=(s,Rep.num s.now):=rfl;rw[Desk.a8T h (by rw[e]),e]
theorem d2W(w:World)(l m:List (Ent × Value))(err at_ n:Int)(v1 v2 v3 v4 u1 u2 u3 u4:Value)(da gr ed:List Int)(h1:EV w v1 l)(k1:EV w u1 m)(he:l.map (·.1)=m.map (·.1))(hl:l.length<=1000)(hs:∀ p∈l,p.1.a0e.length<=1000)
  (h2:w.ownsRow 0 3 1 v2 da.length (da.map (Value.int .i64))) (k2:w.ownsRow 0 3 1 u2 da.length (da.map (Value.int .i64))) (h3:w.ownsRow 0 3 1 v3 gr.length (gr.map (Value.int .i64))) (k3:w.ownsRow 0 3 1 u3 gr.length (gr.map (Value.int .i64))) (h4:w.ownsRow 0 3 1 v4 ed.length (ed.map (Value.int .i64))) (k4:w.ownsRow 0 3 1 u4 ed.length (ed.map (Value.int .i64))) (b2:da.length<=1000000) (b3:gr.length<=1000000) (b4:ed.length<=1000000):
  Calls Tryz.prog 36 #[.agg #[.int .i64 err,.int .i64 at_,.int .i64 n,v1,v2,v3,v4],.agg #[.int .i64 err,.int .i64 at_,.int .i64 n,u1,u2,u3,u4]] w fun e w'=>e=.returned (.bool true)/\Below w.heap.size w w':=by
 have kX:Below w.heap.size w ((w.alloc (a5w err at_ n v1 v2 v3 v4)).alloc (a5w err at_ n u1 u2 u3 u4)):=((zr w.heap.size w).alloc (zq _) _).trans (((zr (w.alloc (a5w err at_ n v1 v2 v3 v4)).heap.size (w.alloc (a5w err at_ n v1 v2 v3 v4))).alloc (zq _) _).mono (by simp));have HX:=a0b kX;have RA:Hid (((w.alloc (a5w err at_ n v1 v2 v3 v4)).alloc (a5w err at_ n u1 u2 u3 u4)).heap[w.heap.size]?=some (a5w err at_ n v1 v2 v3 v4)):=((((zr (w.alloc (a5w err at_ n v1 v2 v3 v4)).heap.size (w.alloc (a5w err at_ n v1 v2 v3 v4))).alloc (zq _) (a5w err at_ n u1 u2 u3 u4)).block w.heap.size (by simp)).trans (a0p w _))
 have RB:Hid (((w.alloc (a5w err at_ n v1 v2 v3 v4)).alloc (a5w err at_ n u1 u2 u3 u4)).heap[w.heap.size+1]?=some (a5w err at_ n u1 u2 u3 u4)):=by
  have:=a0p (w.alloc (a5w err at_ n v1 v2 v3 v4)) (a5w err at_ n u1 u2 u3 u4);have e:(w.alloc (a5w err at_ n v1 v2 v3 v4)).heap.size=w.heap.size+1:=by simp
  rw[e] at this;exact this
 have H1:=a0b h1;have K1:=a0b k1;have H2:=a0b h2;have K2:=a0b k2;have H3:=a0b h3;have K3:=a0b k3;have H4:=a0b h4;have K4:=a0b k4;have HE:=a0b he;have HS:=a0b hs;clear h1 k1 h2 k2 h3 k3 h4 k4 he hs kX
 go_enter Tryz.func36,Tryz.ntmps36
 go_upto_region 1 with fail
 change Code.wp _ _ _ _ ((w.alloc (a5w err at_ n v1 v2 v3 v4)).alloc (a5w err at_ n u1 u2 u3 u4));generalize (w.alloc (a5w err at_ n v1 v2 v3 v4)).alloc (a5w err at_ n u1 u2 u3 u4)=V at HX RA RB ⊢
 have KA:Hid (∀ W',Below V.heap.size V W'->(W'.cell? ⟨w.heap.size,0,none⟩=some (.int .i64 err)/\W'.cell? ⟨w.heap.size,1,none⟩=some (.int .i64 at_)/\W'.cell? ⟨w.heap.size,2,none⟩=some (.int .i64 n)/\W'.cell? ⟨w.heap.size,3,none⟩=some v1/\W'.cell? ⟨w.heap.size,4,none⟩=some v2/\W'.cell? ⟨w.heap.size,5,none⟩=some v3/\W'.cell? ⟨w.heap.size,6,none⟩=some v4)/\(W'.cell? ⟨w.heap.size+1,0,none⟩=some (.int .i64 err)/\W'.cell? ⟨w.heap.size+1,1,none⟩=some (.int .i64 at_)/\W'.cell? ⟨w.heap.size+1,2,none⟩=some (.int .i64 n)/\W'.cell? ⟨w.heap.size+1,3,none⟩=some u1/\W'.cell? ⟨w.heap.size+1,4,none⟩=some u2/\W'.cell? ⟨w.heap.size+1,5,none⟩=some u3/\W'.cell? ⟨w.heap.size+1,6,none⟩=some u4)):=fun W' k =>
  ⟨a2T ((k.block _ (Array.getElem?_eq_some_iff.1 RA.out).1).trans RA.out),a2T ((k.block _ (Array.getElem?_eq_some_iff.1 RB.out).1).trans RB.out)⟩
 have S1:=a0b (fun W' (k:Below V.heap.size V W')=>a8V l m v1 u1 W' ((H1.out.later HX.out).later k) ((K1.out.later HX.out).later k) HE.out hl HS.out);have S2:=a0b (fun W' (k:Below V.heap.size V W')=>f1K da da v2 u2 0 0 W' (c6T (c6T H2.out HX.out) k) (c6T (c6T K2.out HX.out) k) b2);have S3:=a0b (fun W' (k:Below V.heap.size V W')=>f1K gr gr v3 u3 0 0 W' (c6T (c6T H3.out HX.out) k) (c6T (c6T K3.out HX.out) k) b3);have S4:=a0b (fun W' (k:Below V.heap.size V W')=>f1K ed ed v4 u4 0 0 W' (c6T (c6T H4.out HX.out) k) (c6T (c6T K4.out HX.out) k) b4);rw[show decide (da=da)=true from by simp] at S2;rw[show decide (gr=gr)=true from by simp] at S3;rw[show decide (ed=ed)=true from by simp] at S4;clear RA RB H1 K1 H2 K2 H3 K3 H4 K4 HE HS;generalize w.heap.size+1=Rb at KA ⊢;generalize hA:w.heap.size=Ra at KA ⊢;have HAe:=a0b hA;clear hA;obtain⟨⟨_,_,_,x3,x4,x5,x6⟩,⟨_,_,_,y3,y4,y5,y6⟩⟩:=KA.out V (zr _ _)
 go_upto_region 2 with (first
  |(go_at_call 29;refine (S1.out _ (zr _ _)).mono ?_;rintro e w1 ⟨rfl,hb⟩;have HB:=a0b hb;clear hb S1))
 clear x3 x4 x5 x6 y3 y4 y5 y6;obtain⟨⟨_,_,_,_,x4,_,_⟩,⟨_,_,_,_,y4,_,_⟩⟩:=KA.out _ HB.out
 go_upto_region 3 with (first
  |(go_at_call 34;refine (S2.out _ HB.out).mono ?_;rintro e w2 ⟨rfl,hb⟩;have HB2:=a0b (a0j HB.out hb (zq _));clear hb S2))
 clear x4 y4 HB;obtain⟨⟨_,_,_,_,_,x5,_⟩,⟨_,_,_,_,_,y5,_⟩⟩:=KA.out _ HB2.out
 go_upto_region 4 with (first
  |(go_at_call 34;refine (S3.out _ HB2.out).mono ?_;rintro e w3 ⟨rfl,hb⟩;have HB3:=a0b (a0j HB2.out hb (zq _));clear hb S3))
 clear x5 y5 HB2;obtain⟨⟨_,_,_,_,_,_,x6⟩,⟨_,_,_,_,_,_,y6⟩⟩:=KA.out _ HB3.out
 go_upto_region 5 with (first
  |(go_at_call 34;refine (S4.out _ HB3.out).mono ?_;rintro e w4 ⟨rfl,hb⟩;have HB4:=a0b (a0j HB3.out hb (zq _));clear hb S4))
 clear x6 y6 HB3;obtain⟨⟨x0,x1,x2,_,_,_,_⟩,⟨y0,y1,y2,_,_,_,_⟩⟩:=KA.out _ HB4.out;have HF:=a0b (HX.out.trans (HB4.out.mono HX.out.size));have q0:(err==err)=true:=by simp
 have q1:(at_==at_)=true:=by simp
 have q2:(n==n)=true:=by simp
 clear KA HB4 HX
 go_wp2_with fail
 go_ret;exact⟨rfl,HF.out⟩
theorem e4J{ds:List Dsk}{d:Dsk}(h:ds[i]?=some d):ds.set i d=ds:=by
 obtain⟨hl,e⟩:=List.getElem?_eq_some_iff.1 h;subst e;exact List.set_getElem_self hl
def d5a:Nat->ByteArray
 |0=>⟨#[108,105,115,116,32,97]⟩
 |1=>⟨#[108,105,115,116,32,98]⟩
 |2=>⟨#[119,97,105,116,105,110,103]⟩
 |_=>⟨#[99,108,111,99,107]⟩
def d3o:Obj:=.cells #[.string (d5a 0),.string (d5a 1),.string (d5a 2),.string (d5a 3)] 9 (0,0)
theorem f0f(h:W.heap[b]?=some d3o)(k:Nat)(hk:k<4):W.cell? ⟨b,k,none⟩=some (.string (d5a k)):=by
 unfold d3o at h;have:k=0\/k=1\/k=2\/k=3:=by omega
 rcases this with rfl|rfl|rfl|rfl <;> (simp only[World.cell?,h];rfl)
structure f5A(s:St)(k:Nat)(rep:Rep):Prop where
 err:rep.err=0
 da:rep.days=[]
 gr:rep.granted=[]
 ed:rep.ended=[]
 len:rep.entries.length<=60
 sp:∀ e∈rep.entries,e.a0e.length<=1000
 go:∀ {X W:World}{ds:List Dsk}{ks:List (Nat × Obj)}{es:List (Value × List (Ent × Value))}{rs:List OR},CM X W ds ks es rs->∀ (i p dk:Nat),ds[i]?=some (p,dk,s)->Calls Tryz.prog 21 #[.pointer (some ⟨p,0,none⟩),.string (d5a k)] W fun e W'=>MDo X W ds i p dk ks es rs (s,rep) e W'
theorem f4l(hi:Inv s)(ha:a0h (⟨#[97]⟩:ByteArray) s.ts≠0)(hb:a0h (⟨#[98]⟩:ByteArray) s.ts≠0)(k:Nat)(hk:k<4):∃ rep,f5A s k rep:=by
 have esp:∀ e∈s.es,e.a0e.length<=1000:=fun e he=>by have:=(hi.en e he).sl;omega
 have:k=0\/k=1\/k=2\/k=3:=by omega
 rcases this with rfl|rfl|rfl|rfl
 ·exact⟨_,rfl,rfl,rfl,rfl,Desk.c2P hi _,fun e he=>esp e (Desk.b6I hi _ he).1,fun h i p dk hd=>h.few i hd (b8g c7k rfl) (LV.list (⟨#[97]⟩:ByteArray) (by decide) false 0 0 0 1048320 rfl rfl) ⟨by omega,by omega,by omega,by omega⟩ rfl (Desk.c0t hi ha)⟩
 ·exact⟨_,rfl,rfl,rfl,rfl,Desk.c2P hi _,fun e he=>esp e (Desk.b6I hi _ he).1,fun h i p dk hd=>h.few i hd (b8g c7j rfl) (LV.list (⟨#[98]⟩:ByteArray) (by decide) false 0 0 0 1048320 rfl rfl) ⟨by omega,by omega,by omega,by omega⟩ rfl (Desk.c0t hi hb)⟩
 ·exact⟨_,rfl,rfl,rfl,rfl,Nat.le_trans (List.length_filter_le ..) (Desk.c6C hi),fun e he=>esp e (List.mem_filter.1 he).1,fun h i p dk hd=>h.few i hd d9f LV.waiting trivial rfl (d5K hi)⟩
 ·exact⟨_,rfl,rfl,rfl,rfl,by simp[Rep.num],fun e he=>by simp[Rep.num] at he,fun h i p dk hd=>h.few i hd e4h LV.clock trivial rfl (e7G hi)⟩
theorem f0e{ds:List Dsk}{rs:List OR}(h:CM X W ds ks [] rs){j p1 d1 p2 d2:Nat}(hi:ds[i]?=some (p1,d1,s))(hj:ds[j]?=some (p2,d2,s))(ha:a0h (⟨#[97]⟩:ByteArray) s.ts≠0)(hb:a0h (⟨#[98]⟩:ByteArray) s.ts≠0):
  Calls Tryz.prog 37 #[.pointer (some ⟨p1,0,none⟩),.pointer (some ⟨p2,0,none⟩)] W fun e W'=>e=.returned (.bool true)/\CM X W' ds ks [] rs:=by
 have AQ:=a0b (f4l (h.inv hi) ha hb);have HC:=a0b (h.alloc d3o);have HI:=a0b hi;have HJ:=a0b hj;clear h ha hb hi hj
 go_enter Tryz.func37,Tryz.ntmps37
 go_upto_region 2 with fail
 change Code.wp _ _ _ _ (W.alloc d3o);generalize W.alloc d3o=V at HC ⊢;generalize W.heap.size=lb at HC ⊢
 go_upto_region 3 with fail
 go_loopw [6,7,8,9] (fun vk _ _ _ wr=>∃ k:Nat,k<=4/\vk=.int .i64 k/\CM X wr ds ((lb,d3o) :: ks) [] rs) (fun vk _ _ _ _=>4-(intOf vk).toNat)
 case atStart=>exact⟨0,by omega,rfl,HC.out⟩
 case round =>
  obtain⟨k,hk,rfl,hcm⟩:=hrel;replace HC:=a0b hcm;clear hcm
  by_cases hlt:k<4
  ·have hlt':(k:Int)<4:=by omega
   obtain⟨rep,ra⟩:=AQ.out k hlt;have LO:Hid (∀ W' kk ee rr,CM X W' ds (kk++(lb,d3o) :: ks) ee rr->W'.cell? ⟨lb,k,none⟩=some (.string (d5a k))):=fun W' kk ee rr hc=>f0f (hc.kb (List.mem_append_right _ (List.mem_cons_self ..))) k hlt
   have GO:Hid (∀ (W':World) (kk:List (Nat × Obj)) (ee:List (Value × List (Ent × Value))) (rr:List OR),CM X W' ds kk ee rr->∀ (i p dk:Nat),ds[i]?=some (p,dk,s)->Calls Tryz.prog 21 #[.pointer (some ⟨p,0,none⟩),.string (d5a k)] W' fun e W''=>MDo X W' ds i p dk kk ee rr (s,rep) e W''):=fun W' kk ee rr hc i p dk hd=>ra.go hc i p dk hd
   have e0:=ra.err;have e1:=ra.da;have e2:=ra.gr;have e3:=ra.ed;have LB:=a0b (zA ra.len ra.sp);clear ra;have c0:=LO.out wr [] [] rs HC.out;generalize d5a k=t at LO GO c0
   go_upto_region 6 with (first
    |(go_at_call 21;refine (GO.out _ _ _ _ HC.out i p1 d1 HI.out).mono ?_;rintro e w1 ⟨l,a1,a2,a3,a4,c1,c2,c3,c4,rfl,hents,hc1,_⟩;have HE1:=a0b hents;replace HC:=a0b hc1;clear hc1 hents c0))
   replace HC:Hid (CM X w1 ds ((lb,d3o) :: ks) [(.slice a1 l.length c1,l)] (c9T (.slice a2 0 c2) [] :: c9T (.slice a3 0 c3) [] :: c9T (.slice a4 0 c4) [] :: rs)):=by
    have h:CM X w1 (ds.set i (p1,d1,s)) ((lb,d3o) :: ks) [(.slice a1 l.length c1,l)] (c9T (.slice a2 rep.days.length c2) rep.days :: c9T (.slice a3 rep.granted.length c3) rep.granted :: c9T (.slice a4 rep.ended.length c4) rep.ended :: rs):=HC.out;rw[e4J HI.out,e1,e2,e3] at h;exact h
   change Code.wp _ _ _ _ (w1.alloc (a5w 0 rep.at_ rep.n (.slice a1 l.length c1) (.slice a2 0 c2) (.slice a3 0 c3) (.slice a4 0 c4)));replace HC:=a0b (HC.out.alloc (a5w 0 rep.at_ rep.n (.slice a1 l.length c1) (.slice a2 0 c2) (.slice a3 0 c3) (.slice a4 0 c4)));generalize w1.alloc (a5w 0 rep.at_ rep.n (.slice a1 l.length c1) (.slice a2 0 c2) (.slice a3 0 c3) (.slice a4 0 c4))=V1 at HC ⊢;generalize w1.heap.size=xb at HC ⊢;have c0:=LO.out V1 [_] _ _ HC.out
   go_upto_region 7 with (first
    |(go_at_call 21;refine (GO.out _ _ _ _ HC.out j p2 d2 HJ.out).mono ?_;rintro e w2 ⟨m,b1,b2,b3,b4,d1',d2',d3,d4,rfl,hents,hc2,_⟩;have HE2:=a0b hents;replace HC:=a0b hc2;clear hc2 hents c0))
   replace HC:Hid (CM X w2 ds ((xb,a5w 0 rep.at_ rep.n (.slice a1 l.length c1) (.slice a2 0 c2) (.slice a3 0 c3) (.slice a4 0 c4)) :: (lb,d3o) :: ks) [(.slice b1 m.length d1',m),(.slice a1 l.length c1,l)] (c9T (.slice b2 0 d2') [] :: c9T (.slice b3 0 d3) [] :: c9T (.slice b4 0 d4) [] :: c9T (.slice a2 0 c2) [] :: c9T (.slice a3 0 c3) [] :: c9T (.slice a4 0 c4) [] :: rs)):=by
    have h:CM X w2 (ds.set j (p2,d2,s)) _ [(.slice b1 m.length d1',m),(.slice a1 l.length c1,l)] (c9T (.slice b2 rep.days.length d2') rep.days :: c9T (.slice b3 rep.granted.length d3) rep.granted :: c9T (.slice b4 rep.ended.length d4) rep.ended :: c9T (.slice a2 0 c2) [] :: c9T (.slice a3 0 c3) [] :: c9T (.slice a4 0 c4) [] :: rs):=HC.out;rw[e4J HJ.out,e1,e2,e3] at h;exact h
   change Code.wp _ _ _ _ (w2.alloc (a5w 0 rep.at_ rep.n (.slice b1 m.length d1') (.slice b2 0 d2') (.slice b3 0 d3) (.slice b4 0 d4)));replace HC:=a0b (HC.out.alloc (a5w 0 rep.at_ rep.n (.slice b1 m.length d1') (.slice b2 0 d2') (.slice b3 0 d3) (.slice b4 0 d4)));generalize w2.alloc (a5w 0 rep.at_ rep.n (.slice b1 m.length d1') (.slice b2 0 d2') (.slice b3 0 d3) (.slice b4 0 d4))=V2 at HC ⊢;generalize w2.heap.size=yb at HC ⊢
   have SR:=a0b (d2W V2 l m 0 rep.at_ rep.n (.slice a1 l.length c1) (.slice a2 0 c2) (.slice a3 0 c3) (.slice a4 0 c4) (.slice b1 m.length d1') (.slice b2 0 d2') (.slice b3 0 d3) (.slice b4 0 d4) [] [] [] (HC.out.ev (List.mem_cons_of_mem _ (List.mem_cons_self ..))) (HC.out.ev (List.mem_cons_self ..)) (HE1.out.trans HE2.out.symm) (by
     have:=LB.out.1;rw[<- HE1.out,List.length_map] at this
     omega) (fun q hq=>LB.out.2 q.1 (by
     have:=HE1.out;show q.1∈rep.entries;rw[<- this]
     exact List.mem_map.2 ⟨q,hq,rfl⟩))
    (HC.out.row (q:=c9T (.slice a2 0 c2) []) (by simp)) (HC.out.row (q:=c9T (.slice b2 0 d2') []) (by simp)) (HC.out.row (q:=c9T (.slice a3 0 c3) []) (by simp)) (HC.out.row (q:=c9T (.slice b3 0 d3) []) (by simp)) (HC.out.row (q:=c9T (.slice a4 0 c4) []) (by simp)) (HC.out.row (q:=c9T (.slice b4 0 d4) []) (by simp)) (by simp) (by simp) (by simp))
   obtain⟨y0,y1,y2,y3,y4,y5,y6⟩:=a2T (HC.out.kb (List.mem_cons_self ..));obtain⟨x0,x1,x2,x3,x4,x5,x6⟩:=a2T (HC.out.kb (b:=xb) (List.mem_cons_of_mem _ (List.mem_cons_self ..)))
   go_upto_region 8 with (first
    |(go_at_call 36;refine SR.out.mono ?_;rintro e w3 ⟨rfl,hb⟩;replace x0:=a0a hb x0;replace HC:=a0b (HC.out.later hb);clear hb SR y0 y1 y2 y3 y4 y5 y6 x1 x2 x3 x4 x5 x6))
   have HF:Hid (CM X w3 ds ((lb,d3o) :: ks) [] rs):=HC.out.less (fun q hq=>List.mem_cons_of_mem _ (List.mem_cons_of_mem _ hq)) (by simp) (fun q hq=>by simp[hq]);clear HC GO LO LB HE1 HE2
   go_wp2_with fail
   go_roundw
   case rel=>exact⟨k+1,by omega,by go_num,HF.out⟩
   case measure=>simp[intOf];omega
  ·have hlt':¬ (k:Int)<4:=by omega
   have HF:Hid (CM X wr ds ks [] rs):=HC.out.less (fun q hq=>List.mem_cons_of_mem _ hq) (by simp) (fun q hq=>hq);clear HC
   go_wp2_with fail
   go_ret;exact⟨rfl,HF.out⟩
namespace Desk
theorem d9a(p:Ent->Bool):∀ l:List Ent,(l.filter p).length+(l.filter fun e=>!p e).length=l.length
 |[]=>rfl
 |a :: r=>by
  have ih:=d9a p r;simp only[List.filter_cons]
  cases p a <;> simp <;> omega
theorem d8u(ts:List (ByteArray × Int)):∀ (k:Nat)(es:List Ent)(now tq:Int),(a1K ts k es now tq).2.1.length<=es.length
 |0,es,_,_=>by simp[a1K]
 |k+1,es,now,tq=>by
  simp only[a1K]
  split
  ·have h1:=d8u ts k (a0R ts (es.filter fun e=>!a0z (a3D tq es) e)).1 (a3D tq es) tq;have h2:=a7H ts (es.filter fun e=>!a0z (a3D tq es) e);have h3:=d9a (a0z (a3D tq es)) es;simp only[List.length_append,List.length_map];omega
  ·simp
structure f5z(s:St)(r:Rep):Prop where
 en:r.entries.length<=60
 es:∀ e∈r.entries,e∈s.es
 da:r.days.length<=60
 ed:r.ended.length<=60
theorem f5z.plain{r:Rep}(h1:r.entries=[])(h2:r.days=[])(h3:r.ended=[]):f5z s r:=⟨by rw[h1];simp,by rw[h1];simp,by rw[h2];simp,by rw[h3];simp⟩
theorem e7j(h:Inv s){l:a7U}(hl:a1O l):f5z s (a0g s l).2:=by
 cases l with
 |a0k name u=>simp only[a0g];split <;> first|exact .plain rfl rfl rfl|(split <;> exact .plain rfl rfl rfl)
 |enter k name u fr til long=>simp only[a0g];split <;> exact .plain rfl rfl rfl
 |series name u r=>simp only[a0g];split <;> exact .plain rfl rfl rfl
 |confirm id =>
  simp only[a0g]
  split
  ·exact .plain rfl rfl rfl
  ·split <;> exact .plain rfl rfl rfl
 |cancel id=>simp only[a0g];split <;> exact .plain rfl rfl rfl
 |list name fr til =>
  simp only[a0g]
  split
  ·exact .plain rfl rfl rfl
  ·split
   ·exact .plain rfl rfl rfl
   ·have hm:∀ e∈a2x name fr til s.es,e∈s.es:=fun e he=>(List.mem_filter.1 (a4U.1 he)).1
    have hlen:(a2x name fr til s.es).length<=60:=by
     have:=c6C h;have e:=(a3Y (a:=fr) (b:=til) (s.es.filter (b7U name fr til))).length_eq;have f:=List.length_filter_le (b7U name fr til) s.es;unfold a2x;omega
    exact⟨hlen,hm,by simp[Rep.num],by simp[Rep.num]⟩
 |waiting=>exact⟨zt (List.length_filter_le ..) (c6C h),fun e he=>(List.mem_filter.1 he).1,by simp[a0g,Rep.num],by simp[a0g,Rep.num]⟩
 |peak name fr til=>simp only[a0g];split <;> first|exact .plain rfl rfl rfl|(split <;> exact .plain rfl rfl rfl)
 |find name u long fr til=>simp only[a0g];split <;> first|exact .plain rfl rfl rfl|(split <;> exact .plain rfl rfl rfl)
 |expand r =>
  simp only[a0g]
  split
  ·exact .plain rfl rfl rfl
  ·rename_i c
   have hf:Rd.a6s r:=hl;have:=((Rd.a5K hf).2 (by omega)).2.2.1;exact⟨by simp[Rep.num],by simp[Rep.num],by show (Rd.a0E r).length<=60;omega,by simp[Rep.num]⟩
 |tick n =>
  simp only[a0g]
  split
  ·exact .plain rfl rfl rfl
  ·have h1:=d8u s.ts (s.es.length+1) s.es s.now (s.now+n);have h2:=c6C h;exact⟨by simp[Rep.num],by simp[Rep.num],by simp[Rep.num],by show (a1K s.ts (s.es.length+1) s.es s.now (s.now+n)).2.1.length<=60;omega⟩
 |clock=>exact .plain rfl rfl rfl
theorem e6u(h:Inv s){l:a7U}(hl:a1O l):f5z s (a1q s l).2/\(a1q s l).2.granted.length<=100000:=by
 have h1:=e7j h hl;have h2:=c3u h.mid l;unfold a1q
 split
 ·exact⟨h1,by omega⟩
 ·refine⟨⟨h1.en,h1.es,h1.da,h1.ed⟩,?_⟩;have h3:=b8x (a0g s l).1.ts (a0g s l).1.es;have h4:=a1x (b7f h hl);simp only[List.length_append];omega
end Desk
theorem CM.plt{ds:List Dsk}{rs:List OR}(h:CM X W ds ks es rs):∀ d∈ds,d.1<W.heap.size:=fun d hd=>by
 obtain⟨cc,h⟩:=h;obtain⟨j,hj,ej⟩:=List.getElem_of_mem hd;obtain⟨r,D⟩:=h.dg j d (by rw[List.getElem?_eq_getElem hj,ej]);exact (Array.getElem?_eq_some_iff.1 D.bd.pc).1
theorem CM.lineS{ds:List Dsk}{rs:List OR}(h:CM X W ds ((F,a8o t a) :: ks) [] rs)(h10:10<=X.heap.size)(hX:X.heap.size<=F)(hp:∀ d∈ds,d.1≠F)(hn:∀ q∈ks,q.1≠F)(hr:∀ q∈rs,∀ c,q.v.ownBlock=some c->c≠F)(ha:a<=t.size)(hs:t.size<=9223372036854775807):
  Calls Tryz.prog 32 #[.pointer (some ⟨F,0,none⟩)] W fun e W'=>∃ (x:ByteArray) (a':Nat),e=.returned (.string x)/\Made x/\a'<=t.size/\CM X W' ds ((F,a8o t a') :: ks) [] rs:=by
 have hf:FW W F t W:=⟨⟨a,h.kb (List.mem_cons_self ..),ha,hs⟩,h.env,Off.refl _ _,Nat.le_trans h10 hX⟩;refine (f1f hf).mono ?_;rintro e W' ⟨x,rfl,hm,kf⟩;obtain⟨a',fd⟩:=kf.fd;exact⟨x,a',rfl,hm,fd.le,h.put h10 hX hp hn hr kf.off fd.b⟩
theorem g4Q{l:Desk.a7U}(hv:LV v l)(ht:c2h v∈d2B):g5r l=true:=by
 cases hv <;> first|rfl|exact absurd ht (show ¬ ((176:Nat)∈d2B) by decide)|exact absurd ht (show ¬ ((178:Nat)∈d2B) by decide)|exact absurd ht (show ¬ ((180:Nat)∈d2B) by decide)
theorem f1L{P:ByteArray}(h:0<P.size):P.toList.isEmpty=false:=by
 rw[List.isEmpty_eq_false_iff,ByteArray.toList_eq];intro e;have h1:=congrArg List.length e;rw[Txt.a1l] at h1;have h2:P.size=0:=h1;omega
theorem f6I{o:ByteArray}(hk:k<t.size)(h:e3l (t.data.toList.take k) o.data.toList):e3l (t.data.toList.take (k+1)) (o++t.extract k (k+1)).data.toList:=by
 rw[Txt.a8N t k hk,Txt.a1X,Txt.c2G t k hk];exact h.same _
theorem f3l{o:ByteArray}(hk:k<t.size)(hb:(t[k].toNat:Int)=32)(h:e3l (t.data.toList.take k) o.data.toList):e3l (t.data.toList.take (k+1)) ((o++t.extract k (k+1))++(⟨#[32]⟩:ByteArray)).data.toList:=by
 have e:t[k]=32:=by
  apply UInt8.toNat_inj.1;show t[k].toNat=32;omega
 rw[Txt.a8N t k hk,Txt.a1X,Txt.a1X,Txt.c2G t k hk];have e2:t.data.toList[k]'(by rw[Txt.a1l];exact hk)=32:=e;rw[e,e2];exact h.more
theorem f1h(a b:Int)(raw:Value)(ss:List ByteArray)(w:World)(he:Env w)(hraw:TV w raw ss)(ha1:-9223372036854775808<=a)(ha2:a<=9223372036854775807)(hb1:-9223372036854775808<=b)(hb2:b<=9223372036854775807):
  Calls Tryz.prog 11 #[.int .i64 a,.int .i64 b,raw] w fun e w'=>e=.returned (.bool true)/\Below w.heap.size w w':=by
 obtain⟨rav,racap,rfl⟩:=hraw.form;have RM:=a0b (c2p a b w ha1 ha2 hb1 hb2);obtain⟨x1,x2⟩:=a6G (c:=a) (n:=4) (by omega);obtain⟨y1,y2⟩:=a6G (c:=b) (n:=9) (by omega);have A1:1<=1+a2s a 4:=by omega
 have A2:1+a2s a 4<=9:=by omega
 have B1:1<=1+a2s b 9:=by omega
 have B2:1+a2s b 9<=9:=by omega
 have HE:=a0b he;have HR:=a0b hraw;generalize 1+a2s a 4=A at *;generalize 1+a2s b 9=B at *;clear x1 x2 y1 y2 he hraw ha1 ha2 hb1 hb2
 go_enter Tryz.func11,Tryz.ntmps11
 go_upto_region 2 with (first
  |(go_at_call 17;refine RM.out.mono ?_;rintro e w1 ⟨rfl,hb1⟩))
 change Code.wp _ _ _ _ (w1.alloc (a1T A B));have hX:Below w.heap.size w (w1.alloc (a1T A B)):=hb1.trans (((zr w1.heap.size w1).alloc (zq _) _).mono hb1.size);have hro:=a0p w1 (a1T A B);have hrl:w1.heap.size<(w1.alloc (a1T A B)).heap.size:=by simp
 have HX:=a0b hX;have h10:=zt HE.out.size hX.size
 have RO:Hid (∀ W',Below (w1.alloc (a1T A B)).heap.size (w1.alloc (a1T A B)) W'->W'.cell? ⟨w1.heap.size,0,none⟩=some (.int .i64 A)/\W'.cell? ⟨w1.heap.size,1,none⟩=some (.int .i64 B)):=fun W' k=>by
  have h:=(k.block w1.heap.size hrl).trans hro;unfold a1T at h;obtain⟨x,y,_⟩:=b0q h;exact⟨x,y⟩
 have HC:Hid (CM (w1.alloc (a1T A B)) (w1.alloc (a1T A B)) [] [] [] []):=CM.start (HE.out.later hX);have HT:=a0b (HR.out.below hX);clear hX hro hrl RM hb1 HR HE;generalize w1.alloc (a1T A B)=X at *;generalize w1.heap.size=Rb at *;obtain⟨ra,rb⟩:=RO.out X (zr _ _)
 go_upto_region 3 with (first
  |(go_at_call 18;refine (HC.out.begin A B ⟨A1,A2⟩ ⟨B1,B2⟩).mono ?_;rintro e w2 ⟨p1,k1,rfl,g1,g2,hc⟩;replace HC:=a0b hc;clear hc ra rb))
 obtain⟨ra,rb⟩:=RO.out w2 HC.out.bl
 go_upto_region 6 with (first
  |(go_at_call 18;refine (HC.out.begin A B ⟨A1,A2⟩ ⟨B1,B2⟩).mono ?_;rintro e w3 ⟨p2,k2,rfl,g3,g4,hc⟩;replace HC:=a0b hc;clear hc ra rb))
 have C0:Hid (∃ s:St,a0h (⟨#[97]⟩:ByteArray) s.ts≠0/\a0h (⟨#[98]⟩:ByteArray) s.ts≠0/\CM X w3 [(p1,k1,s),(p2,k2,s)] [] [] []):=⟨a3Z A B,b2x A1 B1 0,b2x A1 B1 1,HC.out⟩;clear HC
 go_upto_region 7 with fail
 go_loopw [12,13,14,15,16,17,18,19,20,21,22,23,24,25] (fun vi _ _ _ _ _ _ _ _ _ _ _ _ _ wr=>∃ (i:Nat) (s:St),i<=ss.length/\i<=30/\vi=.int .i64 i/\a0h (⟨#[97]⟩:ByteArray) s.ts≠0/\a0h (⟨#[98]⟩:ByteArray) s.ts≠0/\CM X wr [(p1,k1,s),(p2,k2,s)] [] [] []) (fun vi _ _ _ _ _ _ _ _ _ _ _ _ _ _=>30-(intOf vi).toNat)
 case atStart =>
  obtain⟨s,u1,u2,c⟩:=C0.out;exact⟨0,s,Nat.zero_le _,by omega,rfl,u1,u2,c⟩
 case round =>
  obtain⟨i,s,hi,hi30,rfl,hua,hub,hcm⟩:=hrel;have HC:=a0b hcm;clear hcm C0
  by_cases hlt:i<ss.length/\i<30
  ·obtain⟨hl1,hl2⟩:=hlt;have hl1':(i:Int)<(ss.length:Int):=by omega
   have hl2':(i:Int)<30:=by omega
   obtain⟨wo,rfl⟩:∃ wo:World,wo=wr:=⟨_,rfl⟩;obtain⟨bb,off,cap',e,c0⟩:=HT.out.cell i hl1;simp only[Value.slice.injEq,true_and] at e;obtain⟨rfl,rfl⟩:=e;have c1:=(zo (w:=X) (HC.out.bl.block bb (zb _ _ c0))).trans c0;have hsz:=HT.out.size _ (zg hl1);generalize ss[i]=sf at hsz c1;clear c0
   go_upto_region 10 with fail
   change Code.wp _ _ _ _ (wo.alloc (a8o sf 0));have xF:=HC.out.bl.size
   have pp:Hid (∀ s1 s2:St,∀ d∈[(p1,k1,s1),(p2,k2,s2)],d.1≠wo.heap.size):=fun s1 s2 d hd=>by
    have h1:p1<wo.heap.size:=HC.out.plt (p1,k1,s) (by simp);have h2:p2<wo.heap.size:=HC.out.plt (p2,k2,s) (by simp);simp only[List.mem_cons,List.not_mem_nil,or_false] at hd;rcases hd with rfl|rfl
    ·exact Nat.ne_of_lt h1
    ·exact Nat.ne_of_lt h2
   replace HC:=a0b (HC.out.alloc (a8o sf 0));generalize wo.alloc (a8o sf 0)=V0 at HC ⊢;generalize wo.heap.size=F at HC pp xF ⊢;clear c1;have LS:=a0b (HC.out.lineS h10 xF (pp.out _ _) (by simp) (by simp) (zN _) hsz)
   go_upto_region 13 with (first
    |(go_at_call 32;refine LS.out.mono ?_;rintro e w5 ⟨t,fa,rfl,hm,hfa,hc5⟩;replace HC:=a0b hc5;have HM:=a0b hm;clear hc5 LS hm))
   obtain⟨ws,xs,v,hM⟩:=HM.out;have tsz:=hM.sz;have M:=a0b hM;clear HM hM;obtain⟨wo2,rfl⟩:∃ wo2:World,wo2=w5:=⟨_,rfl⟩
   go_loopw [15,16] (fun vo vk wr=>∃ (k:Nat) (o:ByteArray) (fb:Nat),k<=t.size/\vk=.int .i64 k/\vo=.string o/\e3l (t.data.toList.take k) o.data.toList/\fb<=sf.size/\CM X wr [(p1,k1,s),(p2,k2,s)] [(F,a8o sf fb)] [] []) (fun _ vk _=>t.size-(intOf vk).toNat)
   case atStart=>exact⟨0,⟨#[32,32]⟩,fa,Nat.zero_le _,rfl,rfl,e3l.nil,hfa,HC.out⟩
   case round =>
    obtain⟨k,o,fb,hk,rfl,rfl,hodd,hfb,hcm⟩:=hrel;replace HC:=a0b hcm;have HO:=a0b hodd
    have osz:o.size<=158:=by
     have h1:=hodd.len;rw[Txt.a1l,List.length_take] at h1;omega
    clear hcm hodd hfa
    by_cases hkt:k<t.size
    ·have hkt':(k:Int)<(t.size:Int):=by omega
     have O1:=a0b (f6I hkt HO.out)
     by_cases hb:(t[k].toNat:Int)=32
     ·have O2:=a0b (f3l hkt hb HO.out);have b1:((t[k].toNat:Int)==32)=true:=by simpa using hb
      have NX:=a0b (CM.next HC.out h10 xF (pp.out _ _) (by simp) (by simp) hfb hsz 3 (by omega) (by omega));clear hb HO
      go_wp2_with (first
       |(go_at_call 26;refine NX.out.mono ?_;rintro e w6 ⟨nv,fc,rfl,_,_,hfc,hc6⟩;replace HC:=a0b hc6;clear hc6 NX))
      ·go_roundw
       case rel=>exact⟨k+1,_,fc,by omega,by go_num,rfl,O2.out,hfc,HC.out⟩
       case measure=>simp[intOf];omega
      ·go_roundw
       case rel=>exact⟨k+1,_,fc,by omega,by go_num,rfl,O1.out,hfc,HC.out⟩
       case measure=>simp[intOf];omega
     ·have b1:((t[k].toNat:Int)==32)=false:=by simpa using hb
      clear hb HO
      go_wp2_with fail
      go_roundw
      case rel=>exact⟨k+1,_,fb,by omega,by go_num,rfl,O1.out,hfb,HC.out⟩
      case measure=>simp[intOf];omega
    ·obtain rfl:k=t.size:=by omega
     have hkt':¬ (t.size:Int)<(t.size:Int):=by omega
     have RO1:Hid (Reads o v):=M.out.odd (by
      have:=HO.out;rw[List.take_of_length_le (by rw[Txt.a1l];exact zq _)] at this
      exact this)
     have RO2:Hid (Reads (jn xs) v):=M.out.plain;obtain⟨ln,hlv,hlo⟩:=M.out.line;have LVh:=a0b hlv;have LOh:=a0b hlo;have FWh:=a0b (g4Q hlv M.out.tg);have PZ:=M.out.some;have PL:=M.out.js;have BP:Hid (∀ (W:World) (x:ByteArray),Env W->Reads x v->Calls Tryz.prog 35 #[.string x] W fun e w'=>e=.returned (.tuple #[.string (jn xs),.int .i64 0,.int .i64 0])/\Below W.heap.size W w'):=fun W x hE hR=>e6W x W hE hR M.out.tg M.out.pw M.out.x0 M.out.x1 (by omega)
     clear hlv hlo M HO;generalize jn xs=P at RO2 PZ PL BP;replace HC:Hid (CM X wr [(p1,k1,s),(p2,k2,s)] [] [] []):=HC.out.less (by simp) (by simp) (by simp);have P1:=a0b (BP.out wr o HC.out.env RO1.out)
     go_upto_region 19 with (first
      |(go_at_call 35;refine P1.out.mono ?_;rintro e w7 ⟨rfl,hb7⟩;replace HC:=a0b (HC.out.later hb7);clear hb7 P1))
     have P2:=a0b (BP.out w7 P HC.out.env RO2.out)
     go_upto_region 20 with (first
      |(go_at_call 35;refine P2.out.mono ?_;rintro e w8 ⟨rfl,hb8⟩;replace HC:=a0b (HC.out.later hb8);clear hb8 P2 BP))
     have n1:(P.toList != P.toList)=false:=by simp
     have n2:(P.toList==P.toList)=true:=by simp
     have n3:P.toList.isEmpty=false:=f1L PZ
     go_upto_region 22 with fail
     clear n3;have HI:=a0b (HC.out.inv (i:=0) rfl);have SM:=a0b (Desk.e6u HI.out LOh.out);have UN:=a0b (zA (fun nm (h:a0h nm s.ts≠0)=>(show a0h nm (a1q s ln).1.ts≠0 by rw[Desk.b7F HI.out ln h];exact h)) trivial);have SP:=a0b (fun e (he:e∈s.es)=>(HI.out.en e he).sl);obtain⟨q,hq⟩:∃ q,a1q s ln=q:=⟨_,rfl⟩;rw[hq] at SM UN;have QE:=a0b hq;clear hq n1 n2;have D1:=a0b (CM.few HC.out 0 rfl RO1.out LVh.out LOh.out FWh.out QE.out)
     go_upto_region 23 with (first
      |(go_at_call 21;refine D1.out.mono ?_;rintro e w9 ⟨l1,b1,b2,b3,b4,d1,d2,d3,d4,rfl,hents,hc9,_⟩;have HE1:=a0b hents;replace HC:=a0b hc9;clear hents hc9 D1))
     replace HC:Hid (CM X w9 [(p1,k1,q.1),(p2,k2,s)] [] [(.slice b1 l1.length d1,l1)] [c9T (.slice b2 q.2.days.length d2) q.2.days,c9T (.slice b3 q.2.granted.length d3) q.2.granted,c9T (.slice b4 q.2.ended.length d4) q.2.ended]):=HC.out;change Code.wp _ _ _ _ (w9.alloc (a5w q.2.err q.2.at_ q.2.n (.slice b1 l1.length d1) (.slice b2 q.2.days.length d2) (.slice b3 q.2.granted.length d3) (.slice b4 q.2.ended.length d4)));replace HC:=a0b (HC.out.alloc (a5w q.2.err q.2.at_ q.2.n (.slice b1 l1.length d1) (.slice b2 q.2.days.length d2) (.slice b3 q.2.granted.length d3) (.slice b4 q.2.ended.length d4)));generalize w9.alloc (a5w q.2.err q.2.at_ q.2.n (.slice b1 l1.length d1) (.slice b2 q.2.days.length d2) (.slice b3 q.2.granted.length d3) (.slice b4 q.2.ended.length d4))=V9 at HC ⊢;generalize w9.heap.size=pb at HC ⊢;have D2:=a0b (CM.few HC.out 1 rfl RO2.out LVh.out LOh.out FWh.out QE.out)
     go_upto_region 24 with (first
      |(go_at_call 21;refine D2.out.mono ?_;rintro e w10 ⟨l2,f1,f2,f3,f4,g1,g2,g3,g4,rfl,hents,hc10,_⟩;have HE2:=a0b hents;replace HC:=a0b hc10;clear hents hc10 D2))
     replace HC:Hid (CM X w10 [(p1,k1,q.1),(p2,k2,q.1)] [(pb,a5w q.2.err q.2.at_ q.2.n (.slice b1 l1.length d1) (.slice b2 q.2.days.length d2) (.slice b3 q.2.granted.length d3) (.slice b4 q.2.ended.length d4))] [(.slice f1 l2.length g1,l2),(.slice b1 l1.length d1,l1)] [c9T (.slice f2 q.2.days.length g2) q.2.days,c9T (.slice f3 q.2.granted.length g3) q.2.granted,c9T (.slice f4 q.2.ended.length g4) q.2.ended,c9T (.slice b2 q.2.days.length d2) q.2.days,c9T (.slice b3 q.2.granted.length d3) q.2.granted,c9T (.slice b4 q.2.ended.length d4) q.2.ended]):=HC.out;change Code.wp _ _ _ _ (w10.alloc (a5w q.2.err q.2.at_ q.2.n (.slice f1 l2.length g1) (.slice f2 q.2.days.length g2) (.slice f3 q.2.granted.length g3) (.slice f4 q.2.ended.length g4)));replace HC:=a0b (HC.out.alloc (a5w q.2.err q.2.at_ q.2.n (.slice f1 l2.length g1) (.slice f2 q.2.days.length g2) (.slice f3 q.2.granted.length g3) (.slice f4 q.2.ended.length g4)));generalize w10.alloc (a5w q.2.err q.2.at_ q.2.n (.slice f1 l2.length g1) (.slice f2 q.2.days.length g2) (.slice f3 q.2.granted.length g3) (.slice f4 q.2.ended.length g4))=V10 at HC ⊢;generalize w10.heap.size=qb at HC ⊢
     have SR:=a0b (d2W V10 l1 l2 q.2.err q.2.at_ q.2.n (.slice b1 l1.length d1) (.slice b2 q.2.days.length d2) (.slice b3 q.2.granted.length d3) (.slice b4 q.2.ended.length d4) (.slice f1 l2.length g1) (.slice f2 q.2.days.length g2) (.slice f3 q.2.granted.length g3) (.slice f4 q.2.ended.length g4) q.2.days q.2.granted q.2.ended (HC.out.ev (by simp)) (HC.out.ev (by simp)) (HE1.out.trans HE2.out.symm) (by
       have:=SM.out.1.en;rw[<- HE1.out,List.length_map] at this
       omega) (fun x hx=>by
       have hm:x.1∈q.2.entries:=by rw[<- HE1.out];exact List.mem_map.2 ⟨x,hx,rfl⟩
       have:=SP.out x.1 (SM.out.1.es x.1 hm)
       omega)
      (HC.out.row (q:=c9T (.slice b2 q.2.days.length d2) q.2.days) (by simp)) (HC.out.row (q:=c9T (.slice f2 q.2.days.length g2) q.2.days) (by simp)) (HC.out.row (q:=c9T (.slice b3 q.2.granted.length d3) q.2.granted) (by simp)) (HC.out.row (q:=c9T (.slice f3 q.2.granted.length g3) q.2.granted) (by simp)) (HC.out.row (q:=c9T (.slice b4 q.2.ended.length d4) q.2.ended) (by simp)) (HC.out.row (q:=c9T (.slice f4 q.2.ended.length g4) q.2.ended) (by simp)) (by have:=SM.out.1.da;omega) (by have:=SM.out.2;omega) (by have:=SM.out.1.ed;omega))
     obtain⟨z0,z1,z2,z3,z4,z5,z6⟩:=a2T (HC.out.kb (b:=qb) (List.mem_cons_self ..));obtain⟨x0,x1,x2,x3,x4,x5,x6⟩:=a2T (HC.out.kb (b:=pb) (List.mem_cons_of_mem _ (List.mem_cons_self ..)))
     go_upto_region 25 with (first
      |(go_at_call 36;refine SR.out.mono ?_;rintro e w11 ⟨rfl,hb⟩;replace HC:=a0b (HC.out.later hb);clear hb SR z0 z1 z2 z3 z4 z5 z6 x0 x1 x2 x3 x4 x5 x6))
     have HF:Hid (CM X w11 [(p1,k1,q.1),(p2,k2,q.1)] [] [] []):=HC.out.less (by simp) (by simp) (by simp);clear HC HE1 HE2 SM SP HI
     go_wp2_with fail
     go_roundw
     case rel=>exact⟨i+1,q.1,by omega,by omega,by go_num,UN.out.1 _ hua,UN.out.1 _ hub,HF.out⟩
     case measure=>simp[intOf];omega
  ·have HF:Hid (CM X wr [(p1,k1,s),(p2,k2,s)] [] [] []):=HC.out;have AL:=a0b (f0e HF.out (i:=0) (j:=1) rfl rfl hua hub);have BW:Hid (∀ W',CM X W' [(p1,k1,s),(p2,k2,s)] [] [] []->Below w.heap.size w W'):=fun W' hc=>HX.out.trans (hc.bl.mono HX.out.size)
   clear HC
   by_cases h1:i<ss.length
   ·have h1':(i:Int)<(ss.length:Int):=by omega
    have h2':¬ (i:Int)<30:=by omega
    clear hlt
    go_wp2_with (first
     |(go_at_call 37;refine AL.out.mono ?_;rintro e w9 ⟨rfl,hc⟩;have HF2:=a0b (BW.out _ hc);clear hc))
    go_ret;exact⟨rfl,HF2.out⟩
   ·have h1':¬ (i:Int)<(ss.length:Int):=by omega
    clear hlt
    go_wp2_with (first
     |(go_at_call 37;refine AL.out.mono ?_;rintro e w9 ⟨rfl,hc⟩;have HF2:=a0b (BW.out _ hc);clear hc))
    go_ret;exact⟨rfl,HF2.out⟩
end Go.Proofs.YtfigmlfdnickmaaGreatDoor
namespace Go.Proofs.YtfigmlfdnickmaaGreatDoor.Laid
def val:DataW Unit->Value
 |.lit (.int k n)=>.int k n
 |.lit (.string b)=>.string ⟨b.toArray⟩
 |_=>.bool false
def row:DataW Unit->List Value
 |.agg l=>l.map val
 |_=>[]
def rows:DataW Unit->List Value
 |.agg l=>l.flatMap row
 |_=>[]
def text:DataW Unit->Value
 |.iface _ (.ptr (.agg [d]))=>val d
 |_=>.bool false
def put(l:List Value):Obj->Obj
 |.cells _ t frozen=>.cells l.toArray t frozen
 |o=>o
def c6N(w:World):World :=
 { w with heap:=(((((((((w.heap.modify 1 (put (row Rows.laid_bookings_calendar_monthDays))).modify 0 (put (row Rows.laid_internal_strconv_uint64pow10))).modify 6 (put [.iface 369 (.pointer (some ⟨w.heap.size,0,none⟩))])).modify 7 (put [.iface 369 (.pointer (some ⟨w.heap.size+1,0,none⟩))])).modify 3 (put (row Rows.laid_bookings_lines_weekdays))).modify 4 (put (row Rows.laid_math_bits_deBruijn32tab))).modify 5 (put (row Rows.laid_math_bits_deBruijn64tab))).modify 8 (put (row Rows.laid_unicode_utf8_first))).modify 9 (put (rows Rows.laid_unicode_utf8_acceptRanges))).push (.cells #[text Rows.laid_strconv_ErrSyntax] 371) |>.push (.cells #[text Rows.laid_strconv_ErrRange] 371) }
end Go.Proofs.YtfigmlfdnickmaaGreatDoor.Laid
namespace Go.Proofs.YtfigmlfdnickmaaGreatDoor.datesLaw
open Go.ChangeShapes Go.WideShapes Go.ChangeAt Go.RowKit
theorem own:ownKnob Tryz.prog.godebug=none:=by kernel_rfl
theorem c5b:laidOutB Tryz.prog=true:=by kernel_rfl
end Go.Proofs.YtfigmlfdnickmaaGreatDoor.datesLaw
namespace Go.Proofs.YtfigmlfdnickmaaGreatDoor.EnvLaid
open Go.ChangeShapes Go.WideShapes Go.ChangeAt Go.RowKit
theorem b2G{P:Program}{name:String}{k:IntKind}{zs:List Int}{t e:TypeId}
  (hg:P.globalNamed name=some g) (hty:(P.globals[g]?).map (·.type)=some t) (ht:P.underlying t=some (.array n e)) (he:P.underlying e=some (.int k)) (hce:P.cellsOf e=1) (hct:P.cellsOf t=n)
  (h:Lib.VarReads P W name (Lib.tabData k zs)):Lib.TabIs P W name k zs:=by
 obtain⟨g',t',cs,fuel,p,hg',ht',hvar,hd⟩:=h;obtain rfl:=Option.some.inj (hg.symm.trans hg');obtain rfl:=Option.some.inj (hty.symm.trans ht');unfold Lib.TabIs;rw[hvar,<- Lib.cells_of_tab ht he hce hct hd]
theorem b9t{P:Program}{name:String}{zs:List (List UInt8)}{t e:TypeId}
  (hg:P.globalNamed name=some g) (hty:(P.globals[g]?).map (·.type)=some t) (ht:P.underlying t=some (.array n e)) (he:P.underlying e=some .string) (hce:P.cellsOf e=1)
  (h:Lib.VarReads P W name (.agg (zs.map fun z=>.lit (.string z)))) (i:Nat) (z:List UInt8) (hz:zs[i]?=some z):W.cell? ⟨g,i,none⟩=some (.string ⟨z.toArray⟩):=by
 obtain⟨g',t',cs,fuel,p,hg',ht',hvar,hd⟩:=h;obtain rfl:=Option.some.inj (hg.symm.trans hg');obtain rfl:=Option.some.inj (hty.symm.trans ht');obtain⟨xs,m,_,hx,_,hxl,hall⟩:=DataW.trod_array ht hd
 have hx1:zs.map (fun z=>(DataW.lit (.string z):DataW Unit))=xs.map (·.1):=by
  have:=congrArg Prod.fst hx
  simpa using this
 have hlen:zs.length=xs.length:=by
  have:=congrArg List.length hx1
  simpa using this
 have hi:i<zs.length:=(List.getElem?_eq_some_iff.1 hz).1;have hxi:xs[i]?=some xs[i]:=List.getElem?_eq_getElem (by omega);have hti:=hall i (by omega);rw[hxi,hce] at hti;obtain⟨s,hs1,hs2,_⟩:=DataW.trod_string he hti
 have h1:(xs.map (·.1))[i]?=some (DataW.lit (.string z):DataW Unit):=by rw[<- hx1];simp[hz]
 have h2:(xs.map (·.1))[i]?=some (DataW.lit (.string s.data.toList):DataW Unit):=by simp[hxi,hs2]
 have h3:z=s.data.toList:=by
  have:=h1.symm.trans h2
  simpa using this
 have h4:cs[i]?=some (.string s):=by
  have:=congrArg (·[0]?) hs1
  simpa[List.getElem?_take,List.getElem?_drop] using this
 rw[World.var?_cell hg hvar i,h4,h3]
theorem c3f:(Tryz.prog.globals[0]?).map (·.type)=some 306:=by kernel_rfl
theorem c3B:Tryz.prog.cellsOf 306=20:=by kernel_rfl
theorem c3z:Tryz.prog.cellsOf 265=1:=by kernel_rfl
theorem c6X : Tryz.prog.globalNamed "bookings/lines.weekdays" = some 3 := by kernel_rfl
theorem c0J:(Tryz.prog.globals[3]?).map (·.type)=some 352:=by kernel_rfl
theorem b8z : Tryz.prog.globalNamed "bookings/calendar.monthDays" = some 1 := by kernel_rfl
theorem c3g:(Tryz.prog.globals[1]?).map (·.type)=some 314:=by kernel_rfl
theorem c3C:Tryz.prog.cellsOf 314=12:=by kernel_rfl
theorem c6I:Tryz.prog.cellsOf 3=1:=by kernel_rfl
theorem b7n:Tryz.prog.cellsOf 9=1:=by kernel_rfl
theorem c6Y {W: World} {l: List (String × DataW Unit)} (hM : laidMet Tryz.prog l W) (hS : W.ShapedOpen Tryz.prog) (m1 : ("bookings/calendar.monthDays", Rows.laid_bookings_calendar_monthDays) ∈ l) (m2 : ("internal/strconv.uint64pow10", Rows.laid_internal_strconv_uint64pow10) ∈ l) (m3 : ("bookings/lines.weekdays", Rows.laid_bookings_lines_weekdays) ∈ l) : Env W := by
 have ht : Lib.VarReads Tryz.prog W "bookings/calendar.monthDays" (Lib.tabData .i64 [31, 28, 31, 30, 31, 30, 31, 31, 30, 31, 30, 31]) := Lib.laidMet.reads hM (d := Rows.laid_bookings_calendar_monthDays) m1;have hp : Lib.VarReads Tryz.prog W "internal/strconv.uint64pow10" (Lib.tabData .u64 Lib.pow10Tab) := Lib.laidMet.reads hM (d := Rows.laid_internal_strconv_uint64pow10) m2;have hd : Lib.VarReads Tryz.prog W "bookings/lines.weekdays" (.agg ([[109, 111], [116, 117], [119, 101], [116, 104], [102, 114], [115, 97], [115, 117]].map fun z => .lit (.string z))) := Lib.laidMet.reads hM (d := Rows.laid_bookings_lines_weekdays) m3;have day:=fun i z hz=>b9t c6X c0J Tryz.underlying352 Tryz.underlying9 b7n hd i z hz
 have tb:=b2G b8z c3g Tryz.underlying314 Tryz.underlying3 c6I c3C ht
 have hsz:10<=W.heap.size:=by
  have h0:(((begin Tryz.prog (fun _ _=>0) default).world.heap[9]?).bind Obj.row?).isSome=true:=by kernel_rfl
  obtain⟨⟨zero,t⟩,h1⟩:=Option.isSome_iff_exists.1 h0;obtain⟨cs,hh,_⟩:=hS.1 9 zero t (of_decide_eq_true (by kernel_rfl)) h1;exact (Array.getElem?_eq_some_iff.1 hh).1
 exact⟨⟨tb.cell b8z 0 (by decide),tb.cell b8z 1 (by decide),tb.cell b8z 2 (by decide),tb.cell b8z 3 (by decide),tb.cell b8z 4 (by decide),tb.cell b8z 5 (by decide),tb.cell b8z 6 (by decide),tb.cell b8z 7 (by decide),tb.cell b8z 8 (by decide),tb.cell b8z 9 (by decide),tb.cell b8z 10 (by decide),tb.cell b8z 11 (by decide)⟩,cell_of_shapedOpen_int (zero:=#[.int .i64 0]) (t:=3) hS (of_decide_eq_true (by kernel_rfl)) (by kernel_rfl) rfl (by kernel_rfl) (by kernel_rfl) Tryz.underlying3,
  b2G c6q c3f Tryz.underlying306 Tryz.underlying265 c3z c3B hp,hsz,
  day 0 _ rfl,day 1 _ rfl,day 2 _ rfl,day 3 _ rfl,day 4 _ rfl,day 5 _ rfl,day 6 _ rfl⟩
end Go.Proofs.YtfigmlfdnickmaaGreatDoor.EnvLaid
