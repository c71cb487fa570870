/-
  Parts of the proof, one behind the other.
-/
import Derived.Test.YtfigmlfdnickmaaGreatDoorL19
import Derived.Test.YtfigmlfdnickmaaGreatDoorRows
import Derived.Test.YtfigmlfdnickmaaGreatDoorCards
import Derived.Test.YtfigmlfdnickmaaGreatDoorTie
import Derived.BigQuiet
import Derived.WalkKit
import Derived.ProofKit
import Derived.Deep.DeepWitnessRowRef
import Derived.LaidLaws
import Derived.OpenShut
import Derived.Deep.Slices
import Derived.Deep.DeepHandedRow
import Derived.Lib.LaidTab
set_option maxRecDepth 100000
set_option maxHeartbeats 8000000
namespace Go.Proofs.YtfigmlfdnickmaaGreatDoor
open Go.RowKit
open Desk (Ent St Inv a0h a2x a1q Rep)
def MDo(X W:World)(ds:List Dsk)(i p dk:Nat)(ks:List (Nat × Obj))(es:List (Value × List (Ent × Value)))(rs:List OR)(q:St × Rep)(e:Ending)(W':World):Prop :=
 ∃ (l:List (Ent × Value)) (a1 a2 a3 a4:Option Addr) (c1 c2 c3 c4:Nat),e=.returned (.agg #[.int .i64 q.2.err,.int .i64 q.2.at_,.int .i64 q.2.n,.slice a1 l.length c1,.slice a2 q.2.days.length c2,.slice a3 q.2.granted.length c3,.slice a4 q.2.ended.length c4]) /\
  l.map (·.1)=q.2.entries/\CM X W' (ds.set i (p,dk,q.1)) ks ((.slice a1 l.length c1,l) :: es) (c9T (.slice a2 q.2.days.length c2) q.2.days :: c9T (.slice a3 q.2.granted.length c3) q.2.granted :: c9T (.slice a4 q.2.ended.length c4) q.2.ended :: rs)/\W.heap.size<=W'.heap.size
theorem a2I.orow{W:World}{B:Nat}{col:Nat->Option Col}{v:Value}{l:List Int}(h:a2I W B col v l){cl:Nat->Option Col}(hc:∀ b,B<=b->col b=none->cl b=none):f5y W cl (c9T v l) :=
 ⟨a9c h.own (Nat.zero_le _),fun b hb=>hc b (h.own.lt b hb).1 (h.no b hb)⟩
theorem a3j.flat{W:World}{B:Nat}{col:Nat->Option Col}{v:Value}{l:List (Ent × Value)}(h:a3j W B col v l){cl:Nat->Option Col}(hc:∀ b,B<=b->col b=none->cl b=none):a3j W 0 cl v l :=
 ⟨a9c h.own (Nat.zero_le _),fun b hb=>hc b (h.own.lt b hb).1 (h.no b hb),fun p hp=>⟨⟨a9c (h.sp p hp).1.own (Nat.zero_le _),fun b hb=>hc b ((h.sp p hp).1.own.lt b hb).1 ((h.sp p hp).1.no b hb)⟩,(h.sp p hp).2⟩⟩
theorem f2I{X W W':World}{cc:Nat->Option (Nat × Col)}{ds:List Dsk}{ks:List (Nat × Obj)}{es:List (Value × List (Ent × Value))}{rs:List OR}(h:CMs X W cc ds ks es rs){i p dk:Nat}{s:St}(hi:ds[i]?=some (p,dk,s)){r:Raw}(D:DG X W p dk s r (d1l cc i)){q:St × Rep}{v:Value}(k:b5M W p dk (d1l cc i) q v W'):MDo X W ds i p dk ks es rs q (.returned v) W':=by
 obtain⟨r',col',bd,st,en,da,gr,ed,l,rfl,he,k1,k2,k3,k4,_⟩:=k
 obtain⟨a1,c1,rfl⟩:=a0B k1.own
 obtain⟨a2,c2,rfl⟩:=a0B k2.own
 obtain⟨a3,c3,rfl⟩:=a0B k3.own
 obtain⟨a4,c4,rfl⟩:=a0B k4.own
 obtain⟨cc',hfl,hC⟩:=h.step hi (D.step bd st) st
 refine⟨l,a1,a2,a3,a4,c1,c2,c3,c4,rfl,he,⟨cc',hC.dg,hC.pp,hC.ks,fun x hx=>?_,fun x hx=>?_,hC.lt,hC.ev,hC.bl,hC.nb⟩,st.size⟩
 ·rcases List.mem_cons.1 hx with rfl|hx
  ·exact k1.flat hfl
  ·exact hC.es x hx
 ·rcases List.mem_cons.1 hx with rfl|hx
  ·exact k2.orow hfl
  ·rcases List.mem_cons.1 hx with rfl|hx
   ·exact k3.orow hfl
   ·rcases List.mem_cons.1 hx with rfl|hx
    ·exact k4.orow hfl
    ·exact hC.rs x hx
theorem CM.text{X W:World}{ds:List Dsk}{ks:List (Nat × Obj)}{es:List (Value × List (Ent × Value))}{rs:List OR}(h:CM X W ds ks es rs)(i:Nat){p dk:Nat}{s:St}(hi:ds[i]?=some (p,dk,s))(t:ByteArray):
  Calls Tryz.prog 21 #[.pointer (some ⟨p,0,none⟩),.string t] W fun e W'=>MDo X W ds i p dk ks es rs (stepT s t) e W':=by
 obtain⟨cc,h⟩:=h
 obtain⟨r,D⟩:=h.dg i _ hi
 exact (c5A D.bd t).mono fun _ _ ⟨_,e,k⟩=>by rw[e];exact f2I h hi D k
theorem CM.line{X W:World}{ds:List Dsk}{ks:List (Nat × Obj)}{es:List (Value × List (Ent × Value))}{rs:List OR}(h:CM X W ds ks es rs)(i:Nat){p dk:Nat}{s:St}(hi:ds[i]?=some (p,dk,s)){t:ByteArray}{v:Value}{l:Desk.a7U}(hr:Reads t v)(hv:LV v l)(hl:Desk.a1O l){q:St × Rep}(hq:a1q s l=q):
  Calls Tryz.prog 21 #[.pointer (some ⟨p,0,none⟩),.string t] W fun e W'=>MDo X W ds i p dk ks es rs q e W':=by
 subst hq
 obtain⟨cc,h⟩:=h
 obtain⟨r,D⟩:=h.dg i _ hi
 exact (b7q D.bd t hr hv hl).mono fun _ _ ⟨_,e,k⟩=>by rw[e];exact f2I h hi D k
theorem CM.begin{X W:World}{ds:List Dsk}{ks:List (Nat × Obj)}{es:List (Value × List (Ent × Value))}{rs:List OR}(h:CM X W ds ks es rs)(a b:Int)(ha:1<=a/\a<=9)(hb:1<=b/\b<=9):
  Calls Tryz.prog 18 #[.agg #[.int .i64 a,.int .i64 b]] W fun e W'=>∃ p dk,e=.returned (.tuple #[.pointer (some ⟨p,0,none⟩),.bool true])/\W.heap.size<=p/\p<W'.heap.size/\CM X W' (ds++[(p,dk,a3Z a b)]) ks es rs:=by
 obtain⟨cc,h⟩:=h
 refine (f0a W h.ev a b ha hb).mono ?_
 rintro e W' ⟨p,dk,r,col,rfl,D,hp⟩
 have hk:Below W.heap.size W W':=D.bl
 let cc':Nat->Option (Nat × Col):=fun k=>match col k with
  |some c=>some (ds.length,c)
  |none=>cc k
 have c1:∀ {k c},col k=some c->cc' k=some (ds.length,c):=fun {k c} e=>by show (match col k with|some c=>some (ds.length,c)|none=>cc k)=_;rw[e]
 have c0:∀ {k},col k=none->cc' k=cc k:=fun {k} e=>by show (match col k with|some c=>some (ds.length,c)|none=>cc k)=_;rw[e]
 have lo2:∀ {k c},col k=some c->W.heap.size<=k:=fun {k c} e=>Nat.le_of_not_lt fun hl=>by rw[D.lo k hl] at e;cases e
 have low:∀ k,k<W.heap.size->cc' k=cc k:=fun k hl=>c0 (D.lo k hl)
 have hoth:∀ j,j<ds.length->d1l cc' j=d1l cc j:=fun j hj=>funext fun k=>by
  cases e:col k with
  |none=>unfold d1l;rw[c0 e]
  |some c =>
   rw[d1U (i:=j) (h.lt k (lo2 e))]
   cases e2:d1l cc' j k with
   |none=>rfl
   |some c2 =>
    have:=c8K.1 e2
    rw[c1 e] at this
    simp only[Option.some.injEq,Prod.mk.injEq] at this
    omega
 have hself:d1l cc' ds.length=col:=funext fun k=>by
  cases e:col k with
  |some c=>exact c8K.2 (c1 e)
  |none =>
   cases e2:d1l cc' ds.length k with
   |none=>rfl
   |some c =>
    have e3:=c8K.1 e2
    rw[c0 e] at e3
    have:=h.nb k _ e3
    simp at this
 have ST:Step anyS W.heap.size (d1J cc) (d1J cc') W W':=by
  refine⟨⟨[],Off.of_below hk,by simp⟩,fun k c e=>?_,fun k c e=>?_⟩
  ·have hl:k<W.heap.size:=Nat.lt_of_not_le fun hl=>by rw[d4S (h.lt k hl)] at e;cases e
   unfold d1J at e ⊢
   rw[low k hl];exact e
  ·by_cases hl:k<W.heap.size
   ·unfold d1J at e ⊢
    rw[low k hl] at e
    exact .inl e
   ·exact .inr (Nat.le_of_not_lt hl)
 have pl:p<W'.heap.size:=(Array.getElem?_eq_some_iff.1 D.bd.pc).1
 refine⟨p,dk,rfl,hp,pl,cc',fun j d hj=>?_,fun d hd=>?_,fun q hq=>(h.ks q hq).step ST,fun q hq=>(h.es q hq).step ST (Nat.le_refl _),fun q hq=>(h.rs q hq).step ST,fun k hk'=>?_,D.bd.env,h.bl.trans (hk.mono h.bl.size),fun k q hq=>?_⟩
 ·by_cases hl:j<ds.length
  ·rw[List.getElem?_append_left hl] at hj
   obtain⟨r2,D2⟩:=h.dg j d hj
   exact⟨r2,by rw[hoth j hl];exact D2.later hk⟩
  ·have hj2:j<(ds++[(p,dk,a3Z a b)]).length:=(List.getElem?_eq_some_iff.1 hj).1
   rw[List.length_append] at hj2
   have e:j=ds.length:=by simp at hj2;omega
   subst e
   rw[List.getElem?_append_right (Nat.le_refl _)] at hj
   simp only[Nat.sub_self,List.getElem?_cons_zero,Option.some.injEq] at hj
   subst hj
   refine⟨r,?_⟩
   rw[hself]
   exact⟨D.bd,h.bl.trans (hk.mono h.bl.size),fun x hx=>D.lo x (Nat.lt_of_lt_of_le hx h.bl.size)⟩
 ·rcases List.mem_append.1 hd with hd|hd
  ·obtain⟨j,hj,ej⟩:=List.getElem_of_mem hd
   obtain⟨r2,D2⟩:=h.dg j d (by rw[List.getElem?_eq_getElem hj,ej])
   rw[low d.1 (Array.getElem?_eq_some_iff.1 D2.bd.pc).1]
   exact h.pp d hd
  ·rw[List.mem_singleton.1 hd]
   rw[c0 D.bd.pn]
   exact h.lt p hp
 ·rw[c0 (D.none hk')]
  exact h.lt k (Nat.le_trans hk.size hk')
 ·rw[List.length_append]
  cases e:col k with
  |none=>rw[c0 e] at hq;have:=h.nb k q hq;simp;omega
  |some c =>
   rw[c1 e] at hq
   simp only[Option.some.injEq] at hq
   subst hq
   simp
theorem CM.put{X W W':World}{ds:List Dsk}{ks:List (Nat × Obj)}{rs:List OR}{b:Nat}{o o':Obj}(h:CM X W ds ((b,o) :: ks) [] rs)(h10:10<=X.heap.size)(hX:X.heap.size<=b)(hp:∀ d∈ds,d.1≠b)(hn:∀ q∈ks,q.1≠b)(hr:∀ q∈rs,∀ c,q.v.ownBlock=some c->c≠b)(k:Off [b] W W')(hb:W'.heap[b]?=some o'):CM X W' ds ((b,o') :: ks) [] rs:=by
 obtain⟨cc,h⟩:=h
 have hk0:=h.ks (b,o) (List.mem_cons_self ..)
 have hc:cc b=none:=by
  have:=hk0.c
  unfold d1J at this
  cases e:cc b with
  |none=>rfl
  |some q=>rw[e] at this;cases this
 have kb:∀ N,N<=X.heap.size->Below N W W':=fun N hN=>⟨k.os,k.tape,k.output,k.size,fun x hx=>k.block x (Nat.lt_of_lt_of_le hx (Nat.le_trans hN h.bl.size)) (by simp;omega)⟩
 have he:Env W':=h.ev.ten (kb 10 h10)
 have hbl:Below X.heap.size X W':=h.bl.trans (kb _ (Nat.le_refl _))
 refine⟨cc,fun i d hd=>?_,h.pp,fun q hq=>?_,by simp,fun q hq=>⟨a1i (h.rs q hq).own k (fun c hc=>by simp;exact hr q hq c hc),(h.rs q hq).no⟩,fun x hx=>h.lt x (Nat.le_trans k.size hx),he,hbl,h.nb⟩
 ·obtain⟨r,D⟩:=h.dg i d hd
  exact⟨r,⟨⟨(k.block d.1 (Array.getElem?_eq_some_iff.1 D.bd.pc).1 (by simp;exact hp d (List.mem_of_getElem? hd))).trans D.bd.pc,D.bd.pn,⟨D.bd.ds.dk.off k (fun x hx=>by have:x=b:=List.mem_singleton.1 hx;subst this;exact d1U hc),D.bd.ds.of,D.bd.ds.wl,D.bd.ds.hl,D.bd.ds.inv⟩,he,D.bd.gl⟩,hbl,D.lo⟩⟩
 ·rcases List.mem_cons.1 hq with rfl|hq
  ·exact⟨hb,d4S hc⟩
  ·have h2:=h.ks q (List.mem_cons_of_mem _ hq)
   exact⟨(k.block q.1 (Array.getElem?_eq_some_iff.1 h2.h).1 (by simp;exact hn q hq)).trans h2.h,h2.c⟩
theorem CM.next{X W:World}{ds:List Dsk}{ks:List (Nat × Obj)}{rs:List OR}{F a:Nat}{t:ByteArray}(h:CM X W ds ((F,a8o t a) :: ks) [] rs)(h10:10<=X.heap.size)(hX:X.heap.size<=F)(hp:∀ d∈ds,d.1≠F)(hn:∀ q∈ks,q.1≠F)(hr:∀ q∈rs,∀ c,q.v.ownBlock=some c->c≠F)(ha:a<=t.size)(hs:t.size<=9223372036854775807)(n:Int)(h1:1<=n)(h2:n<=1000):
  Calls Tryz.prog 26 #[.pointer (some ⟨F,0,none⟩),.int .i64 n] W fun e W'=>∃ (v:Int) (a':Nat),e=.returned (.int .i64 v)/\0<=v/\v<n/\a'<=t.size/\CM X W' ds ((F,a8o t a') :: ks) [] rs:=by
 have hf:FW W F t W:=⟨⟨a,h.kb (List.mem_cons_self ..),ha,hs⟩,h.env,Off.refl _ _,Nat.le_trans h10 hX⟩
 refine (a1h hf n h1 h2).mono ?_
 rintro e W' ⟨v,rfl,v0,v1,kf⟩
 obtain⟨a',fd⟩:=kf.fd
 exact⟨v,a',rfl,v0,v1,fd.le,h.put h10 hX hp hn hr kf.off fd.b⟩
theorem CM.grown{X W W2 W3:World}{ds:List Dsk}{ks:List (Nat × Obj)}{rs:List OR}{q:OR}(h:CM X W ds ks [] (q :: rs))(h10:10<=X.heap.size){N:Nat}(hX:X.heap.size<=N)(hd:∀ d∈ds,d.1<N)(hks:∀ x∈ks,x.1<N)(hrs:∀ x∈rs,∀ c,x.v.ownBlock=some c->c<N)(hv:∀ b,q.v.ownBlock=some b->N<=b)
  (k:Below W.heap.size W W2) (k3:Off q.v.ownBlock.toList W2 W3) {g2 cap n':Nat}{xs':List Value}(hown:W3.ownsRow 0 q.t q.z (.slice (some ⟨g2,0,none⟩) n' cap) n' xs') (hat:q.v.ownBlock=some g2\/(W2.heap.size<=g2/\Below W2.heap.size W2 W3)):
  CM X W3 ds ks [] (⟨.slice (some ⟨g2,0,none⟩) n' cap,q.t,q.z,n',xs'⟩ :: rs):=by
 have h':=(h.less (rs':=rs) (fun x hx=>hx) (fun x hx=>hx) (fun x hx=>List.mem_cons_of_mem _ hx)).later k
 obtain⟨cc0,h0⟩:=h
 have row:=h0.rs q (List.mem_cons_self ..)
 have hcc:∀ {b},q.v.ownBlock=some b->cc0 b=none:=fun {b} hb=>by
  have:=row.no b hb
  unfold d1J at this
  cases e:cc0 b with
  |none=>rfl
  |some x=>rw[e] at this;cases this
 have D2:∀ (i:Nat) (d:Dsk),ds[i]?=some d->∃ r,DG X W2 d.1 d.2.1 d.2.2 r (d1l cc0 i):=fun i d hi=>by
  obtain⟨r,D⟩:=h0.dg i d hi
  exact⟨r,D.later k⟩
 have bl2:Below X.heap.size X W2:=h0.bl.trans (k.mono h0.bl.size)
 rcases hat with e1|⟨e1,e2⟩
 ·have hb:N<=g2:=hv g2 e1
  rw[e1] at k3
  have k3':Off [g2] W2 W3:=k3
  have kbl:∀ M,M<=X.heap.size->Below M W2 W3:=fun M hM=>⟨k3'.os,k3'.tape,k3'.output,k3'.size,fun x hx=>k3'.block x (Nat.lt_of_lt_of_le hx (Nat.le_trans hM bl2.size)) (by simp;omega)⟩
  have he:Env W3:=(h0.ev.later k).ten (kbl 10 h10)
  have hbl:Below X.heap.size X W3:=bl2.trans (kbl _ (Nat.le_refl _))
  refine⟨cc0,fun i d hi=>?_,h0.pp,fun x hx=>?_,by simp,fun x hx=>?_,fun x hx=>h0.lt x (Nat.le_trans (Nat.le_trans k.size k3'.size) hx),he,hbl,h0.nb⟩
  ·obtain⟨r,D⟩:=D2 i d hi
   have hdn:=hd d (List.mem_of_getElem? hi)
   exact⟨r,⟨⟨(k3'.block d.1 (Array.getElem?_eq_some_iff.1 D.bd.pc).1 (by simp;omega)).trans D.bd.pc,D.bd.pn,⟨D.bd.ds.dk.off k3' (fun x hx=>by have:x=g2:=List.mem_singleton.1 hx;subst this;exact d1U (hcc e1)),D.bd.ds.of,D.bd.ds.wl,D.bd.ds.hl,D.bd.ds.inv⟩,he,D.bd.gl⟩,hbl,D.lo⟩⟩
  ·have k0:=(h0.ks x hx).later k
   have hq1:=hks x hx
   exact⟨(k3'.block x.1 (Array.getElem?_eq_some_iff.1 k0.h).1 (by simp;omega)).trans k0.h,k0.c⟩
  ·rcases List.mem_cons.1 hx with rfl|hx
   ·exact⟨hown,fun b hb=>by
     have:g2=b:=by simpa[Value.ownBlock] using hb
     subst this;exact d4S (hcc e1)⟩
   ·have r0:=h0.rs x (List.mem_cons_of_mem _ hx)
    exact⟨a1i (c6T r0.own k) k3' (fun c hc=>by have:=hrs x hx c hc;simp;omega),r0.no⟩
 ·have h3:=h'.later e2
  obtain⟨cc,h3⟩:=h3
  obtain⟨cc1,h1⟩:=h'
  refine⟨cc0,fun i d hi=>?_,h0.pp,fun x hx=>((h0.ks x hx).later k).later e2,by simp,fun x hx=>?_,fun x hx=>h0.lt x (Nat.le_trans (Nat.le_trans k.size e2.size) hx),h3.ev,h3.bl,h0.nb⟩
  ·obtain⟨r,D⟩:=D2 i d hi
   exact⟨r,D.later e2⟩
  ·rcases List.mem_cons.1 hx with rfl|hx
   ·exact⟨hown,fun b hb=>by
     have:g2=b:=by simpa[Value.ownBlock] using hb
     subst this
     exact d4S (h0.lt _ (Nat.le_trans k.size e1))⟩
   ·have r0:=h0.rs x (List.mem_cons_of_mem _ hx)
    exact⟨c6T (c6T r0.own k) e2,r0.no⟩
theorem CM.addRow{X W W':World}{ds:List Dsk}{ks:List (Nat × Obj)}{es:List (Value × List (Ent × Value))}{rs:List OR}(h:CM X W ds ks es rs)(k:Below W.heap.size W W'){q:OR}(ho:W'.ownsRow W.heap.size q.t q.z q.v q.n q.xs):CM X W' ds ks es (q :: rs):=by
 have h2:=h.later k
 obtain⟨cc,h⟩:=h
 have st:Step anyS W.heap.size (d1J cc) (d1J cc) W W':=Step.below k
 refine⟨cc,fun i d hd=>?_,h.pp,fun x hx=>(h.ks x hx).later k,fun x hx=>(h.es x hx).step (S:=anyS) (B:=W.heap.size) st (Nat.le_refl _),fun x hx=>?_,fun b hb=>h.lt b (Nat.le_trans k.size hb),h2.env,h2.bl,h.nb⟩
 ·obtain⟨r,D⟩:=h.dg i d hd
  exact⟨r,D.later k⟩
 ·rcases List.mem_cons.1 hx with rfl|hx
  ·exact⟨a9c ho (Nat.zero_le _),fun b hb=>d4S (h.lt b (ho.lt b hb).1)⟩
  ·exact (h.rs x hx).step st
open Desk (Ent St Ids ofB a0y a1H Inv Mid a0h a2x a1e a1q a0g a2t Rep a0z a0o a0r kept a0Q a0R a0O c8A d5u d6E e0Q One a3D a1K)
def d0e:Ent:=⟨1,2,nmA,1,[(100,200)],50⟩
def d8U(j:Nat)(s:Int × Int):Ent:=⟨(j:Int)+2,3,nmA,1,[s],1000⟩
def c8k:Nat->List (Int × Int)->List Ent
 |_,[]=>[]
 |j,s :: r=>d8U j s :: c8k (j+1) r
def c9k:Nat->List (Int × Int)->List (Int × (Int × Int))
 |_,[]=>[]
 |j,s :: r=>((j:Int)+2,s) :: c9k (j+1) r
def qS(L:List (Int × Int)):St:=⟨(a3Z 1 1).ts,d0e :: c8k 0 L,(L.length:Int)+1,0⟩
def InQ(s:Int × Int):Prop:=100<=s.1/\s.1<s.2/\s.2<=200
theorem d9t:∀ (L:List (Int × Int))(j:Nat),(c8k j L).length=L.length
 |[],_=>rfl
 |_ :: r,j=>by simp[c8k,d9t r (j+1)]
theorem d7I(s:Int × Int):∀ (L:List (Int × Int))(j:Nat),c8k j (L++[s])=c8k j L++[d8U (j+L.length) s]
 |[],j=>by simp[c8k]
 |x :: r,j=>by
  simp only[List.cons_append,c8k,d7I s r (j+1),List.length_cons]
  rw[show j+1+r.length=j+(r.length+1) from by omega]
theorem d0z{e:Ent}:∀ {L:List (Int × Int)}{j:Nat},e∈c8k j L->∃ (i:Nat)(s:Int × Int),s∈L/\e=d8U (j+i) s
 |[],j,h=>absurd h (by simp[c8k])
 |x :: r,j,h=>by
  rcases List.mem_cons.1 h with rfl|h
  ·exact⟨0,x,List.mem_cons_self ..,rfl⟩
  ·obtain⟨i,s,hs,rfl⟩:=d0z h
   exact⟨i+1,s,List.mem_cons_of_mem _ hs,by rw[show j+1+i=j+(i+1) from by omega]⟩
theorem e1R:∀ (L:List (Int × Int))(j:Nat),(c8k j L).map (fun e=>(e.id,e0Q e))=c9k j L
 |[],_=>rfl
 |s :: r,j=>by simp only[c8k,List.map_cons,c9k,e1R r (j+1)];rfl
theorem f0X:a0h nmA (a3Z 1 1).ts=1:=b9b 1 1
theorem d7n(x:Int):∀ (L:List (Int × Int))(j:Nat),a0o nmA x (c8k j L)=0
 |[],_=>rfl
 |s :: r,j=>by
  simp only[c8k,a0o,d7n x r (j+1)]
  have:ofB nmA (d8U j s)=false:=by unfold ofB d8U;simp
  rw[this];rfl
theorem e3u:∀ (L:List (Int × Int))(j:Nat),(c8k j L).filter (fun e=>e.kind==3)=c8k j L:=fun L j=>List.filter_eq_self.2 fun e he=>by
 obtain⟨i,s,_,rfl⟩:=d0z he
 rfl
theorem f7b(L:List (Int × Int)):Desk.Pos (d0e :: c8k 0 L):=fun e he=>by
 rcases List.mem_cons.1 he with rfl|he
 ·show (0:Int)<=1;omega
 ·obtain⟨i,s,_,rfl⟩:=d0z he
  show (0:Int)<=1;omega
theorem f7v{L:List (Int × Int)}(hL:∀ s∈L,InQ s):∀ e∈d0e :: c8k 0 L,e.kind=3->a1e (a3Z 1 1).ts (d0e :: c8k 0 L) e.a0k e.a0c e.a0e=false:=fun e he hk=>by
 rcases List.mem_cons.1 he with rfl|he
 ·exact absurd hk (by show ¬ (2:Int)=3;omega)
 ·obtain⟨i,s,hs,rfl⟩:=d0z he
  obtain⟨h1,h2,h3⟩:=hL s hs
  rw[Bool.eq_false_iff]
  intro hf
  have hf':a1e (a3Z 1 1).ts (d0e :: c8k 0 L) nmA 1 [(s.1,s.2)]=true:=hf
  rw[Desk.a6S (f7b L) (by omega)] at hf'
  have:=hf' s.1 (by omega) h2
  rw[f0X] at this
  simp only[a0o,d7n] at this
  have ho:ofB nmA d0e=true:=by unfold ofB;rw[a4l.2 (show d0e.a0k=nmA from rfl)];rfl
  have ht:a0r d0e.a0e s.1=1:=by
   have:=Desk.a7i 100 200 s.1
   rw[if_pos ⟨h1,by omega⟩] at this
   exact this
  rw[ho,ht] at this
  have hu:d0e.a0c=1:=rfl
  rw[hu] at this
  simp at this
theorem e9h{L:List (Int × Int)}(hL:∀ s∈L,InQ s):a0R (a3Z 1 1).ts (d0e :: c8k 0 L)=(d0e :: c8k 0 L,[]):=by
 unfold a0R
 rw[Desk.b0Q _ _ [] (by simpa using f7v hL)]
 simp
theorem f4A:a1q (a3Z 1 1) (.enter 2 nmA 1 100 200 50)=(qS [],Rep.num 1):=by
 have hf:a1e (a3Z 1 1).ts (a3Z 1 1).es nmA 1 [(100,200)]=true:=by
  rw[Desk.a6S (fun e he=>by cases he) (by omega)]
  intro x _ _
  rw[f0X]
  show a0o nmA x []+1<=1
  simp[a0o]
 have ha:Desk.a0S (a3Z 1 1).ts nmA 1=0:=by unfold Desk.a0S;rw[f0X];rfl
 have he:Desk.a1M (a3Z 1 1) 2 nmA 1 100 200 50=0:=by
  unfold Desk.a1M
  have n0:(a3Z 1 1).now=0:=rfl
  have g0:(a3Z 1 1).given=0:=rfl
  rw[if_neg (by rw[ha];simp),if_neg (by rw[n0];omega),if_neg (by rw[g0];omega),if_neg (by omega),if_pos hf]
 have hd:a0g (a3Z 1 1) (.enter 2 nmA 1 100 200 50)=(qS [],Rep.num 1):=by
  simp only[a0g]
  rw[he,if_neg (by simp)]
  rfl
 unfold a1q
 rw[hd,if_neg (by simp[Rep.num])]
 have:=e9h (L:=[]) (by simp)
 show (({ qS [] with es:=(a0R (a3Z 1 1).ts (d0e :: c8k 0 [])).1 }:St),({ Rep.num 1 with granted:=(Rep.num 1).granted++(a0R (a3Z 1 1).ts (d0e :: c8k 0 [])).2 }:Rep))=_
 rw[this]
 rfl
theorem f5V{L:List (Int × Int)}(hL:∀ s∈L,InQ s)(hl:L.length<=5){s:Int × Int}(hs:InQ s):a1q (qS L) (.enter 3 nmA 1 s.1 s.2 1000)=(qS (L++[s]),Rep.num ((L.length:Int)+2)):=by
 have hL':∀ x∈L++[s],InQ x:=fun x hx=>by
  rcases List.mem_append.1 hx with hx|hx
  ·exact hL x hx
  ·rw[List.mem_singleton.1 hx];exact hs
 have ha:Desk.a0S (qS L).ts nmA 1=0:=by
  unfold Desk.a0S
  have:a0h nmA (qS L).ts=1:=f0X
  rw[this];rfl
 have hw:Desk.a1Y (qS L).es=(L.length:Int):=by
  unfold Desk.a1Y
  have e:(qS L).es.filter (fun e=>e.kind==3)=c8k 0 L:=by
   show (d0e :: c8k 0 L).filter _=_
   rw[List.filter_cons,if_neg (by decide),e3u]
  rw[e,d9t]
 have he:Desk.a1M (qS L) 3 nmA 1 s.1 s.2 1000=0:=by
  unfold Desk.a1M
  have n0:(qS L).now=0:=rfl
  have g0:(qS L).given=(L.length:Int)+1:=rfl
  have:=hs.2.1
  rw[if_neg (by rw[ha];simp),if_neg (by rw[n0];omega),if_neg (by rw[g0];omega),if_pos rfl,hw,if_neg (by omega)]
 have hd:a0g (qS L) (.enter 3 nmA 1 s.1 s.2 1000)=(qS (L++[s]),Rep.num ((L.length:Int)+2)):=by
  simp only[a0g]
  rw[he,if_neg (by simp)]
  have e1:(qS (L++[s])).es=d0e :: (c8k 0 L++[d8U (0+L.length) s]):=by
   show d0e :: c8k 0 (L++[s])=_
   rw[d7I]
  have e2:(L.length:Int)+1+1=(L.length:Int)+2:=by omega
  have e3:(((L++[s]).length:Nat):Int)+1=(L.length:Int)+2:=by rw[List.length_append];simp;omega
  refine Prod.ext ?_ ?_
  ·show (⟨(a3Z 1 1).ts,(d0e :: c8k 0 L)++[⟨(L.length:Int)+1+1,3,nmA,1,[(s.1,s.2)],0+1000⟩],(L.length:Int)+1+1,0⟩:St)=⟨(a3Z 1 1).ts,(qS (L++[s])).es,(((L++[s]).length:Nat):Int)+1,0⟩
   rw[e1,e2,e3]
   have e4:d8U (0+L.length) s=⟨(L.length:Int)+2,3,nmA,1,[(s.1,s.2)],0+1000⟩:=by unfold d8U;rw[Nat.zero_add];rfl
   rw[e4]
   rfl
  ·show Rep.num ((L.length:Int)+1+1)=_
   rw[e2]
 unfold a1q
 rw[hd,if_neg (by simp[Rep.num])]
 have:=e9h hL'
 show (({ qS (L++[s]) with es:=(a0R (a3Z 1 1).ts (d0e :: c8k 0 (L++[s]))).1 }:St),({ Rep.num ((L.length:Int)+2) with granted:=(Rep.num ((L.length:Int)+2)).granted++(a0R (a3Z 1 1).ts (d0e :: c8k 0 (L++[s]))).2 }:Rep))=_
 rw[this]
 rfl
theorem e1Q{L:List (Int × Int)}(hL:∀ s∈L,InQ s):(a0R (a3Z 1 1).ts (c8k 0 L)).2=c8A [] (c9k 0 L):=by
 have:=Desk.d4A (ts:=(a3Z 1 1).ts) (name:=nmA) f0X (c8k 0 L) [] (by simp) (fun e he=>by
  obtain⟨i,s,hs,rfl⟩:=d0z he
  exact⟨⟨a4l.2 rfl,rfl,⟨s,rfl,(hL s hs).2.1⟩,.inr rfl⟩,rfl⟩)
 unfold a0R
 rw[this,e1R]
 rfl
theorem f5Y(L:List (Int × Int)):kept 1 (qS L).es=c8k 0 L:=by
 show (d0e :: c8k 0 L).filter _=_
 rw[List.filter_cons,if_neg (by decide)]
 refine List.filter_eq_self.2 fun e he=>?_
 obtain⟨i,s,_,rfl⟩:=d0z he
 have:(d8U (0+i) s).id=(i:Int)+2:=by unfold d8U;simp
 simp only[bne_iff_ne,ne_eq,this]
 omega
theorem f3x(L:List (Int × Int)):a0g (qS L) (.cancel 1)=(⟨(a3Z 1 1).ts,c8k 0 L,(L.length:Int)+1,0⟩,Rep.num 0):=by
 have hf:Desk.a5S 1 (qS L).es=some d0e:=rfl
 simp only[a0g,hf]
 rw[f5Y]
 rfl
theorem f1W{L:List (Int × Int)}(hL:∀ s∈L,InQ s):∃ s',a1q (qS L) (.cancel 1)=(s',⟨0,0,0,[],[],c8A [] (c9k 0 L),[]⟩):=by
 refine⟨⟨(a3Z 1 1).ts,(a0R (a3Z 1 1).ts (c8k 0 L)).1,(L.length:Int)+1,0⟩,?_⟩
 unfold a1q
 rw[f3x,if_neg (by simp[Rep.num])]
 simp only
 rw[e1Q hL]
 rfl
theorem e0z{tq:Int}:∀ {l:List Ent},(∀ e∈l,e.kind=1\/tq<=e.a0Z)->a3D tq l=tq
 |[],_=>rfl
 |e :: r,h=>by
  simp only[a3D]
  rw[e0z fun x hx=>h x (List.mem_cons_of_mem _ hx)]
  rw[if_neg]
  intro c
  rcases h e (List.mem_cons_self ..) with k|k
  ·exact c.1 k
  ·omega
theorem d4G{P:Ent->Prop}(hP:∀ e,P e->P (a0Q e))(ts:List (ByteArray × Int)):∀ (r done:List Ent),(∀ e∈done,P e)->(∀ e∈r,P e)->∀ e∈(a0O ts done r).1,P e
 |[],done,hd,_=>by simpa[a0O] using hd
 |x :: r,done,hd,hr=>by
  simp only[a0O]
  split
  ·refine d4G hP ts r _ (fun e he=>?_) (fun e he=>hr e (List.mem_cons_of_mem _ he))
   rcases List.mem_append.1 he with he|he
   ·exact hd e he
   ·rw[List.mem_singleton.1 he];exact hP _ (hr x (List.mem_cons_self ..))
  ·refine d4G hP ts r _ (fun e he=>?_) (fun e he=>hr e (List.mem_cons_of_mem _ he))
   rcases List.mem_append.1 he with he|he
   ·exact hd e he
   ·rw[List.mem_singleton.1 he];exact hr x (List.mem_cons_self ..)
theorem e9g{L:List (Int × Int)}(hi:Inv (qS L)):a0R (a3Z 1 1).ts (a0R (a3Z 1 1).ts (c8k 0 L)).1=((a0R (a3Z 1 1).ts (c8k 0 L)).1,[]):=by
 have hm:=Desk.b7f hi (l:=.cancel 1) (by exact⟨by omega,by omega⟩)
 rw[f3x] at hm
 exact Desk.a9s (Desk.a9t hm)
theorem f5W{L:List (Int × Int)}(hi:Inv (qS L))(hL:∀ s∈L,InQ s){k:Int}(k1:50<=k)(k2:k<=900):∃ s',a1q (qS L) (.tick k)=(s',⟨0,0,k,[],[],c8A [] (c9k 0 L),[1]⟩):=by
 have hfar:∀ e∈c8k 0 L,e.kind=1\/1000<=e.a0Z:=fun e he=>by
  obtain⟨i,s,_,rfl⟩:=d0z he
  exact .inr (Int.le_refl _)
 have hg:∀ e∈(a0R (a3Z 1 1).ts (c8k 0 L)).1,e.kind=1\/1000<=e.a0Z:=d4G (P:=fun e=>e.kind=1\/1000<=e.a0Z) (fun _ _=>.inl rfl) _ _ [] (by simp) hfar
 have ne:∀ {l:List Ent}{t:Int},t<=900->(∀ e∈l,e.kind=1\/1000<=e.a0Z)->l.filter (a0z t)=[]/\l.filter (fun e=>!a0z t e)=l:=fun {l t} ht h=>Desk.e2X fun e he=>by
  unfold a0z
  rcases h e he with c|c
  ·rw[c];rfl
  ·have:¬ e.a0Z=t:=by omega
   simp[this]
 have hn:a3D k (d0e :: c8k 0 L)=50:=by
  simp only[a3D]
  rw[e0z fun e he=>(hfar e he).imp id (fun h=>by omega)]
  have h1:d0e.kind=2:=rfl
  have h2:d0e.a0Z=50:=rfl
  rw[h1,h2]
  by_cases c:50<k
  ·rw[if_pos ⟨by omega,c⟩]
  ·rw[if_neg (fun x=>c x.2)];omega
 have ef:(d0e :: c8k 0 L).filter (a0z 50)=[d0e]:=by
  rw[List.filter_cons,if_pos (by rfl),(ne (by omega) hfar).1]
 have ek:(d0e :: c8k 0 L).filter (fun e=>!a0z 50 e)=c8k 0 L:=by
  rw[List.filter_cons,if_neg (by decide),(ne (by omega) hfar).2]
 have h2:∀ n:Nat,a1K (a3Z 1 1).ts n (a0R (a3Z 1 1).ts (c8k 0 L)).1 50 k=((a0R (a3Z 1 1).ts (c8k 0 L)).1,[],[]):=fun n=>by
  cases n with
  |zero=>rfl
  |succ n =>
   simp only[a1K]
   by_cases c:50<k
   ·rw[if_pos c]
    rw[e0z fun e he=>(hg e he).imp id (fun h=>by omega),(ne k2 hg).1,(ne k2 hg).2,e9g hi]
    simp only
    have:a1K (a3Z 1 1).ts n (a0R (a3Z 1 1).ts (c8k 0 L)).1 k k=((a0R (a3Z 1 1).ts (c8k 0 L)).1,[],[]):=by
     cases n with
     |zero=>rfl
     |succ n=>simp only[a1K];rw[if_neg (by omega)]
    rw[this]
    rfl
   ·rw[if_neg c]
 have h1:a1K (a3Z 1 1).ts ((d0e :: c8k 0 L).length+1) (d0e :: c8k 0 L) 0 k=((a0R (a3Z 1 1).ts (c8k 0 L)).1,[1],c8A [] (c9k 0 L)):=by
  simp only[a1K]
  rw[if_pos (by omega)]
  rw[hn,ef,ek,h2,e1Q hL]
  simp[d0e]
 have hd:a0g (qS L) (.tick k)=(⟨(a3Z 1 1).ts,(a0R (a3Z 1 1).ts (c8k 0 L)).1,(L.length:Int)+1,k⟩,⟨0,0,k,[],[],c8A [] (c9k 0 L),[1]⟩):=by
  simp only[a0g]
  have n0:(qS L).now+k=k:=Int.zero_add k
  rw[n0,if_neg (by omega)]
  have e:a1K (qS L).ts ((qS L).es.length+1) (qS L).es (qS L).now k=((a0R (a3Z 1 1).ts (c8k 0 L)).1,[1],c8A [] (c9k 0 L)):=h1
  rw[e]
  rfl
 refine⟨⟨(a3Z 1 1).ts,(a0R (a3Z 1 1).ts (c8k 0 L)).1,(L.length:Int)+1,k⟩,?_⟩
 unfold a1q
 rw[hd,if_neg (by simp)]
 simp only
 rw[e9g hi]
 simp
theorem e3V:∀ (r:List (Int × (Int × Int)))(x:Int × (Int × Int))(got:List (Int × Int)),c8A got (x :: r)=(if d5u got x.2 then [x.1] else [])++c8A (if d5u got x.2 then got++[x.2] else got) r:=fun r x got=>by
 simp only[c8A]
 split <;> simp
theorem e3X(L:List (Int × Int))(i:Nat)(h:i<L.length)(j:Nat):c9k j (L.drop i)=((j:Int)+2,L[i]) :: c9k (j+1) (L.drop (i+1)):=by
 rw[List.drop_eq_getElem_cons h]
 rfl
theorem e7r{t nm:ByteArray}{u fr til k:Int}(hn:Nm nm)(hu:1<=u/\u<=9)(hf:0<=fr/\fr<=1048320)(hl:0<=til/\til<=1048320)(hk:1<=k/\k<=1048320)(ht:t.data.toList=b5f.data.toList++32 :: (nm.data.toList++32 :: ((Txt.a0x u).data.toList++32 :: ((Txt.a0x fr).data.toList++32 :: ((Txt.a0x til).data.toList++32 :: (Txt.a0x k).data.toList))))):
  Reads t (.iface 156 (.agg #[.string nm,.int .i64 u,.int .i64 fr,.int .i64 til,.int .i64 k])):=by
 obtain⟨u1,u2,u3⟩:=c5P hu.1 hu.2
 obtain⟨f1,f2,f3⟩:=b1q hf.1 hf.2
 obtain⟨l1,l2,l3⟩:=b1q hl.1 hl.2
 obtain⟨k1,k2,k3⟩:=f5w hk.1 hk.2
 have hw:Txt.a1v t=[b5f,nm,Txt.a0x u,Txt.a0x fr,Txt.a0x til,Txt.a0x k]:=by
  refine Txt.a5p ?_ ?_
  ·rw[ht];simp only[List.map_cons,List.map_nil,Txt.a6Q,Txt.b3k]
  ·intro x hx
   simp only[List.mem_cons,List.not_mem_nil,or_false] at hx
   rcases hx with rfl|rfl|rfl|rfl|rfl|rfl
   ·exact a8t.2.2.1
   ·exact hn.w
   ·exact u3
   ·exact f3
   ·exact l3
   ·exact k3
 have hs:t.size<=160:=by
  have c:=Txt.a0I u (by omega) (by omega)
  have a:=Txt.a0I fr (by omega) (by omega)
  have b:=Txt.a0I til (by omega) (by omega)
  have d:=Txt.a0I k (by omega) (by omega)
  rw[<- Txt.a1l] at a b c d ⊢
  rw[ht]
  have:=hn.s
  rw[<- Txt.a1l] at this
  simp only[List.length_append,List.length_cons]
  have:b5f.data.toList.length=4:=rfl
  omega
 generalize hW:[b5f,nm,Txt.a0x u,Txt.a0x fr,Txt.a0x til,Txt.a0x k]=W at hw
 have t1:=takes (ws:=W) (n:=1) (x:=nm) (B:=nmB) (by rw[<- hW];rfl) hn.b
 have t2:=takes (ws:=W) (n:=2) (x:=Txt.a0x u) (B:=unB) (by rw[<- hW];rfl) u1
 have t3:=takes (ws:=W) (n:=3) (x:=Txt.a0x fr) (B:=a0n) (by rw[<- hW];rfl) f1
 have t4:=takes (ws:=W) (n:=4) (x:=Txt.a0x til) (B:=a0n) (by rw[<- hW];rfl) l1
 have t5:=takes (ws:=W) (n:=5) (x:=Txt.a0x k) (B:=miB) (by rw[<- hW];rfl) k1
 have h:=a2H.hold (ws:=W) (b1P (by rw[<- hW];rfl))
 simp only[a4T,a6y,t1.1,t2.1,t2.2,t3.1,t3.2,t4.1,t4.2,t5.1,t5.2,a8A (ws:=W) (n:=1) (by rw[<- hW];rfl) hn.b,u2,f2,l2,k2] at h
 exact a5G hw hs h (by rw[<- hW];rfl)
theorem e6Q{t nm:ByteArray}{u fr til k:Int}(hn:Nm nm)(hu:1<=u/\u<=9)(hf:0<=fr/\fr<=1048320)(hl:0<=til/\til<=1048320)(hk:1<=k/\k<=1048320)(ht:t.data.toList=b4k.data.toList++32 :: (nm.data.toList++32 :: ((Txt.a0x u).data.toList++32 :: ((Txt.a0x fr).data.toList++32 :: ((Txt.a0x til).data.toList++32 :: (Txt.a0x k).data.toList))))):
  Reads t (.iface 157 (.agg #[.string nm,.int .i64 u,.int .i64 fr,.int .i64 til,.int .i64 k])):=by
 obtain⟨u1,u2,u3⟩:=c5P hu.1 hu.2
 obtain⟨f1,f2,f3⟩:=b1q hf.1 hf.2
 obtain⟨l1,l2,l3⟩:=b1q hl.1 hl.2
 obtain⟨k1,k2,k3⟩:=f5w hk.1 hk.2
 have hw:Txt.a1v t=[b4k,nm,Txt.a0x u,Txt.a0x fr,Txt.a0x til,Txt.a0x k]:=by
  refine Txt.a5p ?_ ?_
  ·rw[ht];simp only[List.map_cons,List.map_nil,Txt.a6Q,Txt.b3k]
  ·intro x hx
   simp only[List.mem_cons,List.not_mem_nil,or_false] at hx
   rcases hx with rfl|rfl|rfl|rfl|rfl|rfl
   ·exact a8t.2.2.2.1
   ·exact hn.w
   ·exact u3
   ·exact f3
   ·exact l3
   ·exact k3
 have hs:t.size<=160:=by
  have c:=Txt.a0I u (by omega) (by omega)
  have a:=Txt.a0I fr (by omega) (by omega)
  have b:=Txt.a0I til (by omega) (by omega)
  have d:=Txt.a0I k (by omega) (by omega)
  rw[<- Txt.a1l] at a b c d ⊢
  rw[ht]
  have:=hn.s
  rw[<- Txt.a1l] at this
  simp only[List.length_append,List.length_cons]
  have:b4k.data.toList.length=4:=rfl
  omega
 generalize hW:[b4k,nm,Txt.a0x u,Txt.a0x fr,Txt.a0x til,Txt.a0x k]=W at hw
 have t1:=takes (ws:=W) (n:=1) (x:=nm) (B:=nmB) (by rw[<- hW];rfl) hn.b
 have t2:=takes (ws:=W) (n:=2) (x:=Txt.a0x u) (B:=unB) (by rw[<- hW];rfl) u1
 have t3:=takes (ws:=W) (n:=3) (x:=Txt.a0x fr) (B:=a0n) (by rw[<- hW];rfl) f1
 have t4:=takes (ws:=W) (n:=4) (x:=Txt.a0x til) (B:=a0n) (by rw[<- hW];rfl) l1
 have t5:=takes (ws:=W) (n:=5) (x:=Txt.a0x k) (B:=miB) (by rw[<- hW];rfl) k1
 have h:=a2H.wait (ws:=W) (b1P (by rw[<- hW];rfl))
 simp only[a4T,a6y,t1.1,t2.1,t2.2,t3.1,t3.2,t4.1,t4.2,t5.1,t5.2,a8A (ws:=W) (n:=1) (by rw[<- hW];rfl) hn.b,u2,f2,l2,k2] at h
 exact a5G hw hs h (by rw[<- hW];rfl)
theorem e0N{t:ByteArray}{n:Int}(hn:0<=n/\n<=9999999)(ht:t.data.toList=a4z.data.toList++32 :: (Txt.a0x n).data.toList):
  Reads t (.iface 167 (.agg #[.int .i64 n])):=by
 obtain⟨n1,n2,n3⟩:=f6A hn.1 hn.2
 have hw:Txt.a1v t=[a4z,Txt.a0x n]:=by
  refine Txt.a5p ?_ ?_
  ·rw[ht];simp only[List.map_cons,List.map_nil,Txt.a6Q,Txt.b3k]
  ·intro x hx
   simp only[List.mem_cons,List.not_mem_nil,or_false] at hx
   rcases hx with rfl|rfl
   ·exact a8t.2.2.2.2.2.1
   ·exact n3
 have hs:t.size<=160:=by
  have a:=Txt.a0I n (by omega) (by omega)
  rw[<- Txt.a1l] at a ⊢
  rw[ht]
  simp only[List.length_append,List.length_cons]
  have:a4z.data.toList.length=7:=rfl
  omega
 generalize hW:[a4z,Txt.a0x n]=W at hw
 have t1:=takes (ws:=W) (n:=1) (x:=Txt.a0x n) (B:=idB) (by rw[<- hW];rfl) n1
 have h:=a2H.confirm (ws:=W) (b1P (by rw[<- hW];rfl))
 simp only[a4T,a6y,t1.1,t1.2,n2] at h
 exact a5G hw hs h (by rw[<- hW];rfl)
theorem e2R{t:ByteArray}{n:Int}(hn:0<=n/\n<=9999999)(ht:t.data.toList=a6m.data.toList++32 :: (Txt.a0x n).data.toList):
  Reads t (.iface 168 (.agg #[.int .i64 n])):=by
 obtain⟨n1,n2,n3⟩:=f6A hn.1 hn.2
 have hw:Txt.a1v t=[a6m,Txt.a0x n]:=by
  refine Txt.a5p ?_ ?_
  ·rw[ht];simp only[List.map_cons,List.map_nil,Txt.a6Q,Txt.b3k]
  ·intro x hx
   simp only[List.mem_cons,List.not_mem_nil,or_false] at hx
   rcases hx with rfl|rfl
   ·exact a8t.2.2.2.2.1
   ·exact n3
 have hs:t.size<=160:=by
  have a:=Txt.a0I n (by omega) (by omega)
  rw[<- Txt.a1l] at a ⊢
  rw[ht]
  simp only[List.length_append,List.length_cons]
  have:a6m.data.toList.length=6:=rfl
  omega
 generalize hW:[a6m,Txt.a0x n]=W at hw
 have t1:=takes (ws:=W) (n:=1) (x:=Txt.a0x n) (B:=idB) (by rw[<- hW];rfl) n1
 have h:=a2H.cancel (ws:=W) (b1P (by rw[<- hW];rfl))
 simp only[a4T,a6y,t1.1,t1.2,n2] at h
 exact a5G hw hs h (by rw[<- hW];rfl)
theorem e6A{t:ByteArray}{n:Int}(hn:1<=n/\n<=1048320)(ht:t.data.toList=b4n.data.toList++32 :: (Txt.a0x n).data.toList):
  Reads t (.iface 182 (.agg #[.int .i64 n])):=by
 obtain⟨n1,n2,n3⟩:=f5w hn.1 hn.2
 have hw:Txt.a1v t=[b4n,Txt.a0x n]:=by
  refine Txt.a5p ?_ ?_
  ·rw[ht];simp only[List.map_cons,List.map_nil,Txt.a6Q,Txt.b3k]
  ·intro x hx
   simp only[List.mem_cons,List.not_mem_nil,or_false] at hx
   rcases hx with rfl|rfl
   ·exact a8t.2.2.2.2.2.2.2.2.2
   ·exact n3
 have hs:t.size<=160:=by
  have a:=Txt.a0I n (by omega) (by omega)
  rw[<- Txt.a1l] at a ⊢
  rw[ht]
  simp only[List.length_append,List.length_cons]
  have:b4n.data.toList.length=4:=rfl
  omega
 generalize hW:[b4n,Txt.a0x n]=W at hw
 have t1:=takes (ws:=W) (n:=1) (x:=Txt.a0x n) (B:=miB) (by rw[<- hW];rfl) n1
 have h:=a2H.tick (ws:=W) (b1P (by rw[<- hW];rfl))
 simp only[a4T,a6y,t1.1,t1.2,n2] at h
 exact a5G hw hs h (by rw[<- hW];rfl)
open Desk (Ent)
theorem b1y(L:List (Int × Int))(u v:Value)(w:World)(hu:SV w u L)(hv:SV w v L)(hl:L.length<=1000000):
  Calls Tryz.prog 31 #[u,v] w fun e w'=>e=.returned (.bool true)/\Below w.heap.size w w':=by
 obtain⟨a,ca,rfl⟩:=hu.form
 obtain⟨b,cb,rfl⟩:=hv.form
 have HU:=a0b hu
 have HV:=a0b hv
 clear hu hv
 have hb:((L.length:Int) != (L.length:Int))=false:=by simp
 go_enter Tryz.func31,Tryz.ntmps31
 go_wp2_with fail
 go_loopw [5] (fun v wr=>∃ k:Nat,k<=L.length/\v=.int .i64 k/\Below w.heap.size w wr) (fun v _=>L.length-(intOf v).toNat)
 case atStart=>exact⟨0,Nat.zero_le _,rfl,Below.refl _ _⟩
 case round =>
  obtain⟨k,hk,rfl,hbl⟩:=hrel
  have HB:=a0b hbl
  clear hbl
  by_cases hlt:k<L.length
  ·have hlt':(k:Int)<(L.length:Int):=by omega
   obtain⟨g,cap,e,a0,a1⟩:=(HU.out.later HB.out).cell k hlt
   simp only[Value.slice.injEq,true_and] at e
   obtain⟨rfl,rfl⟩:=e
   obtain⟨g2,cap2,e,b0,b1⟩:=(HV.out.later HB.out).cell k hlt
   simp only[Value.slice.injEq,true_and] at e
   obtain⟨rfl,rfl⟩:=e
   generalize L[k].1=x at *
   generalize L[k].2=y at *
   go_upto_region 6 with fail
   go_big_region
   have HBd:=a0b (HB.out.drew)
   clear HB
   go_wp2_with fail
   go_roundw
   case rel=>exact⟨k+1,by omega,by go_num,HBd.out⟩
   case measure=>simp[intOf];omega
  ·have hlt':¬ (k:Int)<(L.length:Int):=by omega
   go_wp2_with fail
   go_ret
   exact⟨rfl,HB.out⟩
theorem a9Q{B:Nat}{w w':World}(h:Below B w w')(n:Nat):Below B w (w'.drewN n):=⟨h.os,h.tape,h.output,h.size,h.block⟩
theorem a8V(l m:List (Ent × Value))(u v:Value)(w:World)(hu:EV w u l)(hv:EV w v m)(he:l.map (·.1)=m.map (·.1))(hl:l.length<=1000)(hs:∀ p∈l,p.1.a0e.length<=1000):
  Calls Tryz.prog 29 #[u,v] w fun e w'=>e=.returned (.bool true)/\Below w.heap.size w w':=by
 obtain⟨a,ca,rfl⟩:=hu.form
 obtain⟨b,cb,rfl⟩:=hv.form
 have hlen:m.length=l.length:=by have:=congrArg List.length he;simpa using this.symm
 have AT:Hid (∀ (k:Nat) (h:k<l.length) (h':k<m.length),m[k].1=l[k].1):=fun k h h'=>by
  have:=congrArg (fun x=>x[k]?) he
  simp only[List.getElem?_map,List.getElem?_eq_getElem h,List.getElem?_eq_getElem h',Option.map_some] at this
  exact (Option.some.inj this).symm
 have HU:=a0b hu
 have HV:=a0b hv
 have HS:=a0b hs
 rw[hlen]
 clear hu hv he hs
 have hb:((l.length:Int) != (l.length:Int))=false:=by simp
 go_enter Tryz.func29,Tryz.ntmps29
 go_wp2_with fail
 go_loopw [5,6] (fun v _ wr=>∃ k:Nat,k<=l.length/\v=.int .i64 k/\Below w.heap.size w wr) (fun v _ _=>l.length-(intOf v).toNat)
 case atStart=>exact⟨0,Nat.zero_le _,rfl,Below.refl _ _⟩
 case round =>
  obtain⟨k,hk,rfl,hbl⟩:=hrel
  have HB:=a0b hbl
  clear hbl
  by_cases hlt:k<l.length
  ·have hlt':(k:Int)<(l.length:Int):=by omega
   have hmt:k<m.length:=by omega
   obtain⟨g,cap,e,a0,a1,a2,a3,a4,a5⟩:=(HU.out.later HB.out).cell k hlt
   simp only[Value.slice.injEq,true_and] at e
   obtain⟨rfl,rfl⟩:=e
   obtain⟨g2,cap2,e,b0,b1,b2,b3,b4,b5⟩:=(HV.out.later HB.out).cell k hmt
   simp only[Value.slice.injEq,true_and] at e
   obtain⟨rfl,rfl⟩:=e
   have s1:=(HU.out.later HB.out).sp l[k] (List.getElem_mem hlt)
   have s2:=(HV.out.later HB.out).sp m[k] (List.getElem_mem hmt)
   rw[AT.out k hlt hmt] at b0 b1 b2 b3 b5 s2
   have SP:=a0b (fun W' (q:Below wr.heap.size wr W')=>b1y l[k].1.a0e l[k].2 m[k].2 W' (s1.later q) (s2.later q) (by have:=HS.out l[k] (List.getElem_mem hlt);omega))
   obtain⟨f1,f2,e1⟩:=s1.form
   obtain⟨f3,f4,e2⟩:=s2.form
   rw[e1] at a4 SP
   rw[e2] at b4 SP
   clear s1 s2 e1 e2
   generalize l[k].1=x at *
   have n0:(x.id != x.id)=false:=by simp
   have n1:(x.kind != x.kind)=false:=by simp
   have n3:(x.a0c != x.a0c)=false:=by simp
   have n5:(x.a0Z != x.a0Z)=false:=by simp
   have HBd:=a0b (HB.out.drew)
   have SS:Hid (∀ W',Below wr.drew.heap.size wr.drew W'->W'.cell? ⟨g,k*6,none⟩=some (.int .i64 x.id)/\W'.cell? ⟨g,k*6+1,none⟩=some (.int .i64 x.kind)/\W'.cell? ⟨g,k*6+2,none⟩=some (.string x.a0k)/\W'.cell? ⟨g,k*6+3,none⟩=some (.int .i64 x.a0c)/\W'.cell? ⟨g,k*6+4,none⟩=some (.slice f1 x.a0e.length f2)/\W'.cell? ⟨g,k*6+5,none⟩=some (.int .i64 x.a0Z)/\W'.cell? ⟨g2,k*6,none⟩=some (.int .i64 x.id)/\W'.cell? ⟨g2,k*6+1,none⟩=some (.int .i64 x.kind)/\W'.cell? ⟨g2,k*6+2,none⟩=some (.string x.a0k)/\W'.cell? ⟨g2,k*6+3,none⟩=some (.int .i64 x.a0c)/\W'.cell? ⟨g2,k*6+4,none⟩=some (.slice f3 x.a0e.length f4)/\W'.cell? ⟨g2,k*6+5,none⟩=some (.int .i64 x.a0Z)):=fun W' q=>⟨a0a q a0,a0a q a1,a0a q a2,a0a q a3,a0a q a4,a0a q a5,a0a q b0,a0a q b1,a0a q b2,a0a q b3,a0a q b4,a0a q b5⟩
   clear HB
   go_upto_region 6 with fail
   go_region_held3 (fun W'=>W'.cell? ⟨g,k*6,none⟩=some (.int .i64 x.id)/\W'.cell? ⟨g,k*6+1,none⟩=some (.int .i64 x.kind)/\W'.cell? ⟨g,k*6+2,none⟩=some (.string x.a0k)/\W'.cell? ⟨g,k*6+3,none⟩=some (.int .i64 x.a0c)/\W'.cell? ⟨g,k*6+4,none⟩=some (.slice f1 x.a0e.length f2)/\W'.cell? ⟨g,k*6+5,none⟩=some (.int .i64 x.a0Z)/\W'.cell? ⟨g2,k*6,none⟩=some (.int .i64 x.id)/\W'.cell? ⟨g2,k*6+1,none⟩=some (.int .i64 x.kind)/\W'.cell? ⟨g2,k*6+2,none⟩=some (.string x.a0k)/\W'.cell? ⟨g2,k*6+3,none⟩=some (.int .i64 x.a0c)/\W'.cell? ⟨g2,k*6+4,none⟩=some (.slice f3 x.a0e.length f4)/\W'.cell? ⟨g2,k*6+5,none⟩=some (.int .i64 x.a0Z))
    (first
     |with_reducible exact SS.out _ HB6.out
     |exact⟨a0,a1,a2,a3,a4,a5,b0,b1,b2,b3,b4,b5⟩)
    (first
     |(go_at_call 31;refine (SP.out _ (a0q _)).mono ?_;rintro e w6 ⟨rfl,hb6⟩;have HB6:=a0b hb6;clear hb6))
   have HF:Hid (Below w.heap.size w w6):=a0j HBd.out HB6.out (Nat.le_refl _)
   obtain⟨c0,c1,c2,c3,c4,c5,d0,d1,d2,d3,d4,d5⟩:=SS.out _ HB6.out
   clear HB6 HBd SS SP a0 a1 a2 a3 a4 a5 b0 b1 b2 b3 b4 b5
   have n2:(x.a0k.toList != x.a0k.toList)=false:=by simp
   have n2':(x.a0k.toList==x.a0k.toList)=true:=by simp
   go_upto_region 7 with fail
   go_quiet (fail)
   go_wp2_with fail
   go_roundw
   case rel=>exact⟨k+1,by omega,by go_num,a9Q HF.out _⟩
   case measure=>simp[intOf];omega
  ·have hlt':¬ (k:Int)<(l.length:Int):=by omega
   go_wp2_with fail
   go_ret
   exact⟨rfl,HB.out⟩
open Desk (Ent St Inv a0h a2x a1q Rep c8A d5u)
theorem f4N:(Tryz.prog.info? 49).map (fun i=>(i.zero,i.size,i.bytes))=some (some (.agg #[.string ByteArray.empty,.int .i64 0,.int .i64 0,.int .i64 0]),4,40):=by kernel_rfl
def d8J(s:Int × Int):List Value:=[.string ⟨#[97]⟩,.int .i64 1,.int .i64 s.1,.int .i64 s.2]
def e3q(v:Value)(L:List (Int × Int)):OR:=⟨v,49,4,L.length,L.flatMap d8J⟩
theorem f0i(L:List (Int × Int)):(L.flatMap d8J).length=L.length*4:=by
 induction L with
 |nil=>rfl
 |cons a r ih=>rw[List.flatMap_cons,List.length_append,ih,List.length_cons];simp[d8J];omega
theorem e6j:∀ {L:List (Int × Int)}{k j:Nat}(hk:k<L.length)(_:j<4),(L.flatMap d8J)[k*4+j]?=(d8J L[k])[j]?
 |[],k,_,hk,_=>absurd hk (by simp)
 |a :: r,0,j,_,hj=>by
  rw[List.flatMap_cons,List.getElem?_append_left (by simp[d8J];omega)]
  simp
 |a :: r,k+1,j,hk,hj=>by
  rw[List.flatMap_cons,List.getElem?_append_right (by simp[d8J];omega)]
  have e:(k+1)*4+j-(d8J a).length=k*4+j:=by simp[d8J];omega
  rw[e,e6j (by simpa using hk) hj]
  simp
theorem e4R{W:World}{B:Nat}{v:Value}{L:List (Int × Int)}(h:W.ownsRow B 49 4 v L.length (L.flatMap d8J))(k:Nat)(hk:k<L.length):∃ g cap,v=.slice (some ⟨g,0,none⟩) L.length cap/\W.cell? ⟨g,k*4,none⟩=some (.string ⟨#[97]⟩)/\W.cell? ⟨g,k*4+1,none⟩=some (.int .i64 1)/\W.cell? ⟨g,k*4+2,none⟩=some (.int .i64 L[k].1)/\W.cell? ⟨g,k*4+3,none⟩=some (.int .i64 L[k].2):=by
 obtain⟨g,cap,e⟩:=Joins.ownsRow_form h (by omega)
 subst e
 have hl:=f0i L
 have at_:∀ j,j<4->W.cell? ⟨g,k*4+j,none⟩=(d8J L[k])[j]?:=fun j hj=>by
  have a0:=h.cellAt (k*4+j) (by omega)
  rw[e6j hk hj] at a0
  exact a0
 exact⟨g,cap,rfl,at_ 0 (by omega),at_ 1 (by omega),at_ 2 (by omega),at_ 3 (by omega)⟩
theorem f0c{gl:List (Int × Int)}{s:Int × Int}{k:Nat}(h:k<gl.length):d5u (gl.take (k+1)) s=(d5u (gl.take k) s && (decide (s.2<=gl[k].1) || decide (gl[k].2<=s.1))):=by
 unfold d5u
 rw[List.take_succ_eq_append_getElem h,List.all_append]
 simp
theorem e8t(fr til:Int):(((⟨#[119,97,105,116,32]⟩:ByteArray)++c5B (⟨#[97]⟩:ByteArray) 1 fr til)++(⟨#[32,49,48,48,48]⟩:ByteArray)).data.toList=b4k.data.toList++32 :: ((⟨#[97]⟩:ByteArray).data.toList++32 :: ((Txt.a0x 1).data.toList++32 :: ((Txt.a0x fr).data.toList++32 :: ((Txt.a0x til).data.toList++32 :: (Txt.a0x 1000).data.toList)))):=by
 have e1:(Txt.a0x 1000).data.toList=[49,48,48,48]:=by decide +kernel
 rw[e1]
 unfold c5B
 simp only[Txt.a1X,List.append_assoc]
 rfl
theorem e7L:(⟨#[104,111,108,100,32,97,32,49,32,49,48,48,32,50,48,48,32,53,48]⟩:ByteArray).data.toList=b5f.data.toList++32 :: ((⟨#[97]⟩:ByteArray).data.toList++32 :: ((Txt.a0x 1).data.toList++32 :: ((Txt.a0x 100).data.toList++32 :: ((Txt.a0x 200).data.toList++32 :: (Txt.a0x 50).data.toList)))):=by decide +kernel
theorem e2S:(⟨#[99,97,110,99,101,108,32,49]⟩:ByteArray).data.toList=a6m.data.toList++32 :: (Txt.a0x 1).data.toList:=by decide +kernel
theorem e6U(i:Int):((⟨#[116,105,99,107,32]⟩:ByteArray)++Txt.a0x i).data.toList=b4n.data.toList++32 :: (Txt.a0x i).data.toList:=by
 simp only[Txt.a1X]
 rfl
theorem e7y(raw:ByteArray)(ends:Bool)(w:World)(he:Env w)(hm:raw.size<=9223372036854775807):
  Calls Tryz.prog 10 #[.string raw,.bool ends] w fun e w'=>e=.returned (.bool true)/\Below w.heap.size w w':=by
 have h10:=he.size
 have BG:=a0b ((CM.start he).begin 1 1 ⟨by omega,by omega⟩ ⟨by omega,by omega⟩)
 clear he
 go_enter Tryz.func10,Tryz.ntmps10
 go_upto_region 4 with (first
  |(go_at_call 18;refine BG.out.mono ?_;rintro e w2 ⟨p,dk,rfl,p1,p2,hc⟩;have HC:=a0b hc;clear hc BG))
 have xF:=HC.out.bl.size
 go_upto_region 5 with fail
 change Code.wp _ _ _ _ (w2.alloc (a8o raw 0))
 replace HC:=a0b (HC.out.alloc (a8o raw 0))
 have hV:(w2.alloc (a8o raw 0)).heap.size=w2.heap.size+1:=by simp
 generalize w2.alloc (a8o raw 0)=V at HC hV ⊢
 generalize w2.heap.size=F at *
 have pF:p<F:=p2
 clear p2
 have HR:Hid (Reads (⟨#[104,111,108,100,32,97,32,49,32,49,48,48,32,50,48,48,32,53,48]⟩:ByteArray) (.iface 156 (.agg #[.string ⟨#[97]⟩,.int .i64 1,.int .i64 100,.int .i64 200,.int .i64 50]))):=e7r c7k ⟨by omega,by omega⟩ ⟨by omega,by omega⟩ ⟨by omega,by omega⟩ ⟨by omega,by omega⟩ e7L
 have QF:=a0b f4A
 go_upto_region 6 with (first
  |(go_at_call 21;refine (CM.line HC.out 0 rfl HR.out (LV.hold nmA (by decide) 1 100 200 50) ⟨.inr ⟨.inl rfl,by omega,by omega⟩,by omega,by omega,by omega,by omega,by omega,by omega⟩ QF.out).mono ?_;rintro e w3 ⟨l9,a1,a2,a3,a4,c1,c2,c3,c4,rfl,_,hc3,hs3⟩;dsimp only[Rep.num,List.length_nil];replace HC:=a0b hc3;clear hc3))
 change Code.wp _ _ _ _ (w3.alloc (a5w 0 0 1 (.slice a1 l9.length c1) (.slice a2 0 c2) (.slice a3 0 c3) (.slice a4 0 c4)))
 replace HC:=a0b (HC.out.alloc (a5w 0 0 1 (.slice a1 l9.length c1) (.slice a2 0 c2) (.slice a3 0 c3) (.slice a4 0 c4)))
 generalize w3.alloc (a5w 0 0 1 (.slice a1 l9.length c1) (.slice a2 0 c2) (.slice a3 0 c3) (.slice a4 0 c4))=V3 at HC ⊢
 generalize hfb:a5w 0 0 1 (.slice a1 l9.length c1) (.slice a2 0 c2) (.slice a3 0 c3) (.slice a4 0 c4)=O1 at HC
 have FR:Hid (∀ W':World,W'.heap[w3.heap.size]?=some O1->W'.cell? ⟨w3.heap.size,0,none⟩=some (.int .i64 0)/\W'.cell? ⟨w3.heap.size,2,none⟩=some (.int .i64 1)):=fun W' hh=>by
  rw[<- hfb] at hh
  have:=a2T hh
  exact⟨this.1,this.2.2.1⟩
 clear hfb QF HR
 have fF:F<w3.heap.size:=by omega
 generalize w3.heap.size=fb at HC FR fF ⊢
 have HC1:Hid (CM w V3 [(p,dk,qS [])] [(F,a8o raw 0),(fb,O1)] [] []):=HC.out.less (by simp) (by simp) (by simp)
 clear HC
 have pp:Hid (∀ (s:St),∀ d∈[(p,dk,s)],d.1≠F):=fun s d hd=>by
  rw[List.mem_singleton.1 hd];show p≠F;omega
 have nn:Hid (∀ q∈[(fb,O1)],q.1≠F):=fun q hq=>by
  rw[List.mem_singleton.1 hq];show fb≠F;omega
 go_upto_region 8 with (first
  |(go_at_call 26;refine (CM.next HC1.out h10 xF (pp.out _) nn.out (by simp) (Nat.zero_le _) hm 7 (by omega) (by omega)).mono ?_;rintro e w4 ⟨n,fz,rfl,n0,n7,hfz,hc⟩;have HC:=a0b hc;clear hc HC1))
 have HC0:Hid (CM w w4 [(p,dk,qS [])] [(F,a8o raw fz),(fb,O1)] [] [e3q (.slice none 0 0) []]):=HC.out.addRow (q:=e3q (.slice none 0 0) []) (Below.refl _ _) (World.ownsRow_nil _ _ _ _)
 clear HC
 obtain⟨i0,hi0,hz0,hz1,hz2⟩:=info_parts f4N
 go_upto_region 9 with fail
 go_loopw [9,11,12,13] (fun vl vi _ _ wr=>∃ (L:List (Int × Int)) (fa:Nat),(L.length:Int)<=n/\vi=.int .i64 (L.length:Int)/\(∀ s∈L,InQ s)/\fa<=raw.size/\(∀ b,vl.ownBlock=some b->fb<b)/\CM w wr [(p,dk,qS L)] [(F,a8o raw fa),(fb,O1)] [] [e3q vl L]) (fun _ vi _ _ _=>(n-intOf vi).toNat)
 case atStart=>exact⟨[],fz,by simp;omega,rfl,by simp,hfz,fun b hb=>(by cases hb),HC0.out⟩
 case round =>
  obtain⟨L,fa,hLn,rfl,hL,hfa,hvl,hcm⟩:=hrel
  have HC:=a0b hcm
  have HL:=a0b hL
  have HVL:=a0b hvl
  clear hcm hL hvl HC0
  have nR:Hid (∀ q∈[e3q u9 L],∀ c,q.v.ownBlock=some c->c≠F):=fun q hq c hc=>by
   rw[List.mem_singleton.1 hq] at hc
   have:=HVL.out c hc
   omega
  by_cases hlt:(L.length:Int)<n
  ·have L5:L.length<=5:=by omega
   go_upto_region 12 with (first
    |(go_at_call 26;refine (CM.next HC.out h10 xF (pp.out _) nn.out nR.out hfa hm 90 (by omega) (by omega)).mono ?_;rintro e w5 ⟨v8,fc,rfl,q0,q1,hfc,hc⟩;replace HC:=a0b hc;clear hc hfa;have kl:IntKind.i64.wrap (100+v8)=100+v8:=a0G (by omega) (by omega)))
   have hxb:=(Array.getElem?_eq_some_iff.1 (HC.out.kb (b:=fb) (o:=O1) (by simp))).1
   have hrx:Hid (∀ c,u9.ownBlock=some c->c<w5.heap.size):=fun c hc=>((HC.out.row (q:=e3q u9 L) (List.mem_cons_self ..)).lt c hc).2
   change Code.wp _ _ _ _ (w5.alloc (a1P ⟨#[97]⟩ 1 (100+v8) 0))
   replace HC:=a0b (HC.out.alloc (a1P ⟨#[97]⟩ 1 (100+v8) 0))
   generalize w5.alloc (a1P ⟨#[97]⟩ 1 (100+v8) 0)=V5 at HC ⊢
   generalize w5.heap.size=xb at HC hxb hrx ⊢
   have f0:100<=100+v8:=by omega
   have f1:100+v8<=189:=by omega
   generalize 100+v8=fr at HC f0 f1 ⊢
   clear kl q0 q1
   have HZ:Hid (CM w V5.drew [(p,dk,qS L)] [(F,a8o raw fc),(xb,a1P ⟨#[97]⟩ 1 fr 0),(fb,O1)] [] [e3q u9 L]):=HC.out.drew.less (by simp) (by simp) (by simp)
   have nn2:Hid (∀ (til:Int),∀ q∈[(xb,a1P ⟨#[97]⟩ 1 fr til),(fb,O1)],q.1≠F):=fun til q hq=>by
    simp only[List.mem_cons,List.not_mem_nil,or_false] at hq
    rcases hq with rfl|rfl
    ·show xb≠F;omega
    ·show fb≠F;omega
   have NX:=a0b (CM.next HZ.out h10 xF (pp.out _) (nn2.out 0) nR.out hfc hm (200-fr) (by omega) (by omega))
   have c2:=(a1y (HZ.out.kb (b:=xb) (o:=a1P ⟨#[97]⟩ 1 fr 0) (by simp))).2.2.1
   have k47:IntKind.i64.wrap (fr+1)=fr+1:=a0G (by omega) (by omega)
   have k51:IntKind.i64.wrap (200-fr)=200-fr:=a0G (by omega) (by omega)
   clear HC
   go_region_held3 (fun W'=>W'.cell? ⟨xb,2,none⟩=some (.int .i64 fr))
    (first
     |exact c2b
     |exact AS _
     |exact c2)
    (first
     |(go_at_call 26;refine NX.out.mono ?_;rintro e w6 ⟨v9,fd,rfl,r0,r1,hfd,hc6⟩;have HC6:=a0b hc6;clear hc6 NX;have k53:IntKind.i64.wrap (fr+1+v9)=fr+1+v9:=a0G (by omega) (by omega);obtain⟨_,_,c2b,c3b,cfb⟩:=a1y (HC6.out.kb (b:=xb) (o:=a1P ⟨#[97]⟩ 1 fr 0) (by simp));have AS:=fun x:Int=>(a1y (show (w6.setCell ⟨xb,3,none⟩ (.int .i64 x)).heap[xb]?=some (a1P ⟨#[97]⟩ 1 fr x) from a2A (HC6.out.kb (b:=xb) (o:=a1P ⟨#[97]⟩ 1 fr 0) (by simp)) _)).2.2.1))
   have HX6:Hid (CM w w6 [(p,dk,qS L)] [(xb,a1P ⟨#[97]⟩ 1 fr 0),(F,a8o raw fd),(fb,O1)] [] [e3q u9 L]):=HC6.out.less (by simp) (by simp) (by simp)
   have HC:Hid (CM w (w6.setCell ⟨xb,3,none⟩ (.int .i64 (fr+1+v9))) [(p,dk,qS L)] [(xb,a1P ⟨#[97]⟩ 1 fr (fr+1+v9)),(F,a8o raw fd),(fb,O1)] [] [e3q u9 L]):=HX6.out.put h10 (by omega) (fun d hd=>by rw[List.mem_singleton.1 hd];show p≠xb;omega) (fun q hq=>by
    simp only[List.mem_cons,List.not_mem_nil,or_false] at hq
    rcases hq with rfl|rfl
    ·show F≠xb;omega
    ·show fb≠xb;omega) (fun q hq c hc=>by
    rw[List.mem_singleton.1 hq] at hc
    have:=hrx.out c hc
    omega) (Off.set0 _ _ _ _) (a2A (HX6.out.kb (List.mem_cons_self ..)) _)
   have g0:fr<fr+1+v9:=by omega
   have g1:fr+1+v9<=200:=by omega
   clear HX6 HC6 c2 c2b c3b cfb AS k47 k51 k53 HZ r0 r1
   generalize w6.setCell ⟨xb,3,none⟩ (.int .i64 (fr+1+v9))=V6 at HC ⊢
   generalize fr+1+v9=til at HC g0 g1 ⊢
   obtain⟨c0,c1',c2,c3',_⟩:=a1y (HC.out.kb (List.mem_cons_self ..))
   have QW:=a0b (f5V HL.out L5 (s:=(fr,til)) ⟨f0,g0,g1⟩)
   have WR:Hid (Reads (((⟨#[119,97,105,116,32]⟩:ByteArray)++c5B (⟨#[97]⟩:ByteArray) 1 fr til)++(⟨#[32,49,48,48,48]⟩:ByteArray)) (.iface 157 (.agg #[.string ⟨#[97]⟩,.int .i64 1,.int .i64 fr,.int .i64 til,.int .i64 1000]))):=e6Q c7k ⟨by omega,by omega⟩ ⟨by omega,by omega⟩ ⟨by omega,by omega⟩ ⟨by omega,by omega⟩ (e8t fr til)
   have LO:Hid (Desk.a1O (.enter 3 nmA 1 fr til 1000)):=⟨.inr ⟨.inr rfl,by omega,by omega⟩,by omega,by omega,by omega,by omega,by omega,by omega⟩
   have z1:=b3U (nm:=(⟨#[97]⟩:ByteArray)) (u:=1) (fr:=fr) (til:=til) (by decide) ⟨by omega,by omega⟩ ⟨by omega,by omega⟩ ⟨by omega,by omega⟩
   go_upto_region 14 with (first
    |(go_at_call 28;refine (b5S _ HC.out.env (⟨#[97]⟩:ByteArray) 1 fr til (by decide) ⟨by omega,by omega⟩ ⟨by omega,by omega⟩ ⟨by omega,by omega⟩).mono ?_;rintro e w7 ⟨rfl,hb⟩;replace HC:=a0b (HC.out.later hb);clear hb c0 c1' c2 c3')
    |(go_at_call 21;refine (CM.line HC.out 0 rfl WR.out (LV.wait nmA (by decide) 1 fr til 1000) LO.out QW.out).mono ?_;rintro e w8 ⟨l8,b1,b2,b3,b4,d1,d2,d3,d4,rfl,_,hc8,_⟩;dsimp only[Rep.num,List.length_nil];replace HC:=a0b hc8;clear hc8))
   change Code.wp _ _ _ _ (w8.alloc (a5w 0 0 ((L.length:Int)+2) (.slice b1 l8.length d1) (.slice b2 0 d2) (.slice b3 0 d3) (.slice b4 0 d4)))
   replace HC:=a0b (HC.out.alloc (a5w 0 0 ((L.length:Int)+2) (.slice b1 l8.length d1) (.slice b2 0 d2) (.slice b3 0 d3) (.slice b4 0 d4)))
   generalize w8.alloc (a5w 0 0 ((L.length:Int)+2) (.slice b1 l8.length d1) (.slice b2 0 d2) (.slice b3 0 d3) (.slice b4 0 d4))=V8 at HC ⊢
   generalize w8.heap.size=yb at HC ⊢
   obtain⟨e0,_,e2,_,_,e5,_⟩:=a2T (HC.out.kb (List.mem_cons_self ..))
   obtain⟨c0,c1',c2,c3',_⟩:=a1y (HC.out.kb (b:=xb) (List.mem_cons_of_mem _ (List.mem_cons_self ..)))
   have k2:IntKind.i64.wrap ((L.length:Int)+2)=(L.length:Int)+2:=a0G (by omega) (by omega)
   have en:((L.length:Int)+2 != (L.length:Int)+2)=false:=by simp
   have HG:Hid (CM w V8 [(p,dk,qS (L++[(fr,til)]))] [(F,a8o raw fd),(fb,O1)] [] [e3q u9 L]):=HC.out.less (by simp) (by simp) (by simp)
   clear HC QW WR LO z1
   go_upto_region 16 with fail
   clear e0 e2 e5
   have ER:=a0b (HG.out.row (q:=e3q u9 L) (List.mem_cons_self ..))
   have ER2:Hid (V8.ownsRow 0 49 4 u9 L.length (L.flatMap d8J)):=ER.out
   clear ER
   go_upto_region 10 with (first
    |(at_builtin;go_loud (refine d4R _ rfl _ _ 66 rfl 0 49 i0 _ 4 40 Tryz.underlying66 hi0 hz0 hz1 hz2 rfl (by decide) _ _ _ rfl (ER2.out.alloc _) ⟨V8.heap.size,0,none⟩ 1 (d8J (fr,til)) rfl rfl (World.news_of_block (cs:=(d8J (fr,til)).toArray) (a0p V8 _)) (by simp[d8J,Value.oneCell']) (by unfold maxLen;omega) (by omega) (Nat.zero_le _) ?_);intro g2 cap2 w9 hown hgrow hat))
   have ko:Off u9.ownBlock.toList V8 w9:=Off.grown ((Off.refl _ V8).alloc _) hgrow (fun k hk=>.inl (Option.mem_toList.2 hk))
   have hat':u9.ownBlock=some g2\/(V8.heap.size<=g2/\Below V8.heap.size V8 w9):=by
    rcases hat with e|⟨e,hg⟩
    ·exact .inl e
    ·exact .inr ⟨by rw[e];simp,(((Below.refl V8.heap.size V8).alloc (Nat.le_refl _) _).grown hg (by simp) (fun k e=>by cases e))⟩
   have hfb8:=(Array.getElem?_eq_some_iff.1 (HG.out.kb (b:=fb) (o:=O1) (by simp))).1
   have HN:=a0b (CM.grown HG.out h10 (N:=fb+1) (by omega) (fun d hd=>by rw[List.mem_singleton.1 hd];show p<fb+1;omega) (fun x hx=>by
    simp only[List.mem_cons,List.not_mem_nil,or_false] at hx
    rcases hx with rfl|rfl
    ·show F<fb+1;omega
    ·show fb<fb+1;omega) (by simp) (fun b hb=>HVL.out b hb) (Below.refl _ _) ko hown hat')
   have hg2:fb<g2:=by
    rcases hat' with e|⟨e,_⟩
    ·exact HVL.out g2 e
    ·omega
   have HN2:Hid (CM w w9 [(p,dk,qS (L++[(fr,til)]))] [(F,a8o raw fd),(fb,O1)] [] [e3q (.slice (some ⟨g2,0,none⟩) (L.length+1) cap2) (L++[(fr,til)])]):=by
    have e:e3q (.slice (some ⟨g2,0,none⟩) (L.length+1) cap2) (L++[(fr,til)])=⟨.slice (some ⟨g2,0,none⟩) (L.length+1) cap2,49,4,L.length+1,L.flatMap d8J++d8J (fr,til)⟩:=by
     unfold e3q
     rw[List.length_append,List.flatMap_append]
     simp
    show CM _ _ _ _ _ _
    rw[e]
    exact HN.out
   have HB2:Hid (∀ b,(Value.slice (some ⟨g2,0,none⟩) (L.length+1) cap2).ownBlock=some b->fb<b):=fun b hb=>by
    have:g2=b:=by simpa[Value.ownBlock] using hb
    omega
   have HL2:Hid (∀ s∈L++[(fr,til)],InQ s):=fun s hs=>by
    rcases List.mem_append.1 hs with hs|hs
    ·exact HL.out s hs
    ·rw[List.mem_singleton.1 hs];exact⟨f0,g0,g1⟩
   clear hown hgrow hat hat' ko ER2 HG HN
   go_wp2_with fail
   go_roundw
   case rel=>exact⟨L++[(fr,til)],fd,by rw[List.length_append];simp;omega,by rw[List.length_append];go_num,HL2.out,hfd,HB2.out,HN2.out⟩
   case measure=>simp[intOf];omega
  ·have hlt':¬ (L.length:Int)<n:=hlt
   have L6:L.length<=6:=by omega
   obtain⟨ua,uc,hu9⟩:=a0B (HC.out.row (q:=e3q u9 L) (by simp))
   have hu9':u9=.slice ua L.length uc:=hu9
   clear hu9
   subst hu9'
   go_upto_if 81 with fail
   go_cut [14] from 81 to 86 (fun v14 wx=>∃ (t:ByteArray) (fz:Nat) (v:Value) (l:Desk.a7U) (s':St) (nn:Int) (E:List Int),v14=.string t/\Reads t v/\LV v l/\Desk.a1O l/\a1q (qS L) l=(s',⟨0,0,nn,[],[],c8A [] (c9k 0 L),E⟩)/\E=(if ends then [1] else [])/\CM w wx [(p,dk,qS L)] [(F,a8o raw fz),(fb,O1)] [] [e3q (.slice ua L.length uc) L])
   case first =>
    cases ends
    ·obtain⟨s',hq⟩:=f1W HL.out
     have HQ:=a0b hq
     clear hq
     go_wp2_with fail
     go_meet
     exact⟨_,fa,_,_,s',0,[],rfl,e2R ⟨by omega,by omega⟩ e2S,LV.cancel 1,⟨by omega,by omega⟩,HQ.out,rfl,HC.out⟩
    ·have HI:=a0b (HC.out.inv (i:=0) rfl)
     go_wp2_with (first
      |(go_at_call 26;refine (CM.next HC.out h10 xF (pp.out _) nn.out nR.out hfa hm 100 (by omega) (by omega)).mono ?_;rintro e w5 ⟨v8,fc,rfl,q0,q1,hfc,hc⟩;replace HC:=a0b hc;clear hc hfa;have kl:IntKind.i64.wrap (50+v8)=50+v8:=a0G (by omega) (by omega);have z1:=Txt.a0I (50+v8) (by omega) (by omega))
      |(go_at_call 22;refine (a6O _ _ HC.out.env (by omega) (by omega)).mono ?_;rintro e wn ⟨rfl,hb⟩;replace HC:=a0b (HC.out.later hb);clear hb))
     go_meet
     obtain⟨s',hq⟩:=f5W HI.out HL.out (k:=50+v8) (by omega) (by omega)
     exact⟨_,fc,_,_,s',50+v8,[1],rfl,e6A ⟨by omega,by omega⟩ (e6U (50+v8)),LV.tick (50+v8),⟨by omega,by omega⟩,hq,rfl,HC.out⟩
   case rest =>
    obtain⟨t,fz,v,l,s',nn,E,rfl,hr,hv,hlo,hst,hE,hcm⟩:=hcut
    have HEn:=a0b hE
    clear hE
    replace HC:=a0b hcm
    have RD:=a0b hr
    have HV:=a0b hv
    have LO:=a0b hlo
    have ST:=a0b hst
    clear hcm hr hv hlo hst nR hfa
    go_upto_region 21 with (first
     |(go_at_call 21;refine (CM.line HC.out 0 rfl RD.out HV.out LO.out ST.out).mono ?_;rintro e w8 ⟨l8,b1,b2,b3,b4,d1,d2,d3,d4,rfl,_,hc8,_⟩;dsimp only[List.length_nil];replace HC:=a0b hc8;clear hc8))
    change Code.wp _ _ _ _ (w8.alloc (a5w 0 0 nn (.slice b1 l8.length d1) (.slice b2 0 d2) (.slice b3 (c8A [] (c9k 0 L)).length d3) (.slice b4 E.length d4)))
    replace HC:=a0b (HC.out.alloc (a5w 0 0 nn (.slice b1 l8.length d1) (.slice b2 0 d2) (.slice b3 (c8A [] (c9k 0 L)).length d3) (.slice b4 E.length d4)))
    generalize w8.alloc (a5w 0 0 nn (.slice b1 l8.length d1) (.slice b2 0 d2) (.slice b3 (c8A [] (c9k 0 L)).length d3) (.slice b4 E.length d4))=V8 at HC ⊢
    generalize w8.heap.size=yb at HC ⊢
    clear RD HV LO ST
    have ER:Hid (∀ W',Below V8.heap.size V8 W'->W'.ownsRow 0 49 4 (.slice ua L.length uc) L.length (L.flatMap d8J)):=fun W' k=>(HC.out.later k).row (q:=e3q (.slice ua L.length uc) L) (by simp)
    have YC:Hid (∀ W',Below V8.heap.size V8 W'->W'.cell? ⟨yb,0,none⟩=some (.int .i64 0)/\W'.cell? ⟨yb,5,none⟩=some (.slice b3 (c8A [] (c9k 0 L)).length d3)/\W'.cell? ⟨yb,6,none⟩=some (.slice b4 E.length d4)/\W'.cell? ⟨fb,0,none⟩=some (.int .i64 0)/\W'.cell? ⟨fb,2,none⟩=some (.int .i64 1)):=fun W' k=>by
     have h1:=a2T ((HC.out.later k).kb (List.mem_cons_self ..))
     have h2:=FR.out W' ((HC.out.later k).kb (b:=fb) (o:=O1) (by simp))
     exact⟨h1.1,h1.2.2.2.2.2.1,h1.2.2.2.2.2.2,h2.1,h2.2⟩
    have GE:Hid (∀ W',Below V8.heap.size V8 W'->W'.ownsRow 0 3 1 (.slice b3 (c8A [] (c9k 0 L)).length d3) (c8A [] (c9k 0 L)).length ((c8A [] (c9k 0 L)).map (Value.int .i64))/\W'.ownsRow 0 3 1 (.slice b4 E.length d4) E.length (E.map (Value.int .i64))):=fun W' k =>
     ⟨(HC.out.later k).row (q:=c9T (.slice b3 (c8A [] (c9k 0 L)).length d3) (c8A [] (c9k 0 L))) (by simp),(HC.out.later k).row (q:=c9T (.slice b4 E.length d4) E) (by simp)⟩
    have BW:Hid (∀ W',Below V8.heap.size V8 W'->Below w.heap.size w W'):=fun W' k=>(HC.out.later k).bl
    obtain⟨G,hG⟩:∃ G,c8A [] (c9k 0 L)=G:=⟨_,rfl⟩
    rw[hG] at YC GE
    have HG:=a0b hG
    clear hG HC FR
    obtain⟨j0,hj0,jz0,jz1,jz2⟩:=info_parts b1S
    go_upto_region 24 with fail
    go_loopw [16,17,18,19,20] (fun vw vg vi _ _ wr=>∃ (i:Nat) (wl:List Int) (gl:List (Int × Int)),i<=L.length/\vi=.int .i64 i/\wl.length<=i/\gl.length<=i/\G=wl++c8A gl (c9k i (L.drop i))/\wr.ownsRow V8.heap.size 3 1 vw wl.length (wl.map (Value.int .i64))/\wr.ownsRow V8.heap.size 49 4 vg gl.length (gl.flatMap d8J)/\(∀ b,vw.ownBlock=some b->vg.ownBlock≠some b)/\Below V8.heap.size V8 wr) (fun _ _ vi _ _ _=>L.length-(intOf vi).toNat)
    case atStart=>exact⟨0,[],[],Nat.zero_le _,rfl,Nat.le_refl _,Nat.le_refl _,by rw[<- HG.out];rfl,by simpa using World.ownsRow_nil _ _ _ _,by simpa using World.ownsRow_nil _ _ _ _,fun b hb=>(by cases hb),Below.refl _ _⟩
    case round =>
     obtain⟨i,wl,gl,hi,rfl,hwl,hgl,hq,hw,hg,hdis,hbl⟩:=hrel
     have HW:=a0b hw
     have HGr:=a0b hg
     have HD:=a0b hdis
     have HB:=a0b hbl
     have HQ:=a0b hq
     clear hw hg hdis hbl hq
     by_cases hil:i<L.length
     ·have hil':(i:Int)<(L.length:Int):=by omega
      obtain⟨ga,gc,rfl⟩:=a0B HGr.out
      obtain⟨g,cap',e,x0,x1,x2,x3⟩:=e4R (ER.out wr HB.out) i hil
      simp only[Value.slice.injEq,true_and] at e
      obtain⟨rfl,rfl⟩:=e
      have QS:=HQ.out
      rw[e3X L i hil] at QS
      generalize hLi:L[i]=si at x2 x3 QS
      obtain⟨sf,st⟩:=si
      have HLi:=a0b hLi
      clear hLi
      dsimp only at x2 x3
      rw[e3V] at QS
      have HQS:=a0b QS
      clear QS HQ
      have hsz:V8.heap.size<=wr.heap.size:=HB.out.size
      obtain⟨wo,rfl⟩:∃ wo:World,wo=wr:=⟨_,rfl⟩
      go_upto_region 28 with fail
      go_loopw [19,20] (fun vf vk wq=>∃ k:Nat,k<=gl.length/\vk=.int .i64 k/\vf=.bool (d5u (gl.take k) (sf,st))/\Below wo.heap.size wo wq) (fun _ vk _=>gl.length-(intOf vk).toNat)
      case atStart=>exact⟨0,Nat.zero_le _,rfl,rfl,Below.refl _ _⟩
      case round =>
       obtain⟨k,hk,rfl,rfl,hbl⟩:=hrel
       by_cases hkl:k<gl.length
       ·have hkl':(k:Int)<(gl.length:Int):=by omega
        obtain⟨gg,gcap,e,z0,z1,z2,z3⟩:=e4R (c6T HGr.out hbl) k hkl
        simp only[Value.slice.injEq,true_and] at e
        obtain⟨rfl,rfl⟩:=e
        have y2:=a0a hbl x2
        have y3:=a0a hbl x3
        have FS:=a0b (f0c (s:=(sf,st)) hkl)
        have HBk:=a0b hbl
        clear hbl x0 x1 x2 x3 z0 z1
        dsimp only at FS
        generalize gl[k].1=gf at z2 FS
        generalize gl[k].2=gt at z3 FS
        cases hf:d5u (gl.take k) (sf,st)
        ·rw[hf] at FS
         go_upto_region 30 with fail
         go_quiet (fail)
         go_wp2_with fail
         go_roundw
         case rel=>exact⟨k+1,by omega,by go_num,by rw[FS.out];rfl,a9Q HBk.out _⟩
         case measure=>simp[intOf];omega
        ·rw[hf] at FS
         by_cases d1:st<=gf
         ·have d1b:decide (st<=gf)=true:=by simpa using d1
          rw[d1b] at FS
          clear d1
          go_upto_region 30 with fail
          go_quiet (fail)
          go_wp2_with fail
          go_roundw
          case rel=>exact⟨k+1,by omega,by go_num,by rw[FS.out];rfl,a9Q HBk.out _⟩
          case measure=>simp[intOf];omega
         ·have d1b:decide (st<=gf)=false:=by simpa using d1
          rw[d1b] at FS
          clear d1
          by_cases d2:gt<=sf
          ·have d2b:decide (gt<=sf)=true:=by simpa using d2
           rw[d2b] at FS
           clear d2
           go_upto_region 30 with fail
           go_quiet (fail)
           go_wp2_with fail
           go_roundw
           case rel=>exact⟨k+1,by omega,by go_num,by rw[FS.out];rfl,a9Q HBk.out _⟩
           case measure=>simp[intOf];omega
          ·have d2b:decide (gt<=sf)=false:=by simpa using d2
           rw[d2b] at FS
           clear d2
           go_upto_region 30 with fail
           go_quiet (fail)
           go_wp2_with fail
           go_roundw
           case rel=>exact⟨k+1,by omega,by go_num,by rw[FS.out];rfl,a9Q HBk.out _⟩
           case measure=>simp[intOf];omega
       ·have hkl':¬ (k:Int)<(gl.length:Int):=by omega
        have ef:gl.take k=gl:=List.take_of_length_le (by omega)
        rw[ef]
        have HW2:=a0b (c6T HW.out hbl)
        have HG2:=a0b (c6T HGr.out hbl)
        have hB2:Below V8.heap.size V8 wr:=HB.out.trans (hbl.mono hsz)
        have hsz2:V8.heap.size<=wr.heap.size:=hB2.size
        have HB2:=a0b hB2
        clear hB2 hbl ef
        cases hf:d5u gl (sf,st)
        ·rw[hf] at HQS
         have HQf:Hid (G=wl++c8A gl (c9k (i+1) (L.drop (i+1)))):=HQS.out
         clear hf HQS
         go_wp2_with fail
         go_roundw
         case rel=>exact⟨i+1,wl,gl,by omega,by go_num,by omega,by omega,HQf.out,HW2.out,HG2.out,HD.out,HB2.out⟩
         case measure=>simp[intOf];omega
        ·rw[hf] at HQS
         have HQf:Hid (G=(wl++[(i:Int)+2])++c8A (gl++[(sf,st)]) (c9k (i+1) (L.drop (i+1)))):=by
          have h:=HQS.out
          rw[List.append_assoc]
          exact h
         clear hf HQS
         have k2:IntKind.i64.wrap ((i:Int)+2)=(i:Int)+2:=a0G (by omega) (by omega)
         go_upto_region 33 with (first
          |(at_builtin;go_loud (refine d4R _ rfl _ _ 38 rfl V8.heap.size 3 j0 _ 1 8 Tryz.underlying38 hj0 jz0 jz1 jz2 rfl (by decide) _ _ _ rfl (HW2.out.alloc _) ⟨wr.heap.size,0,none⟩ 1 [.int .i64 ((i:Int)+2)] rfl rfl (World.news_of_block (cs:=#[.int .i64 ((i:Int)+2)]) (a0p wr _)) (by simp[Value.oneCell']) (by unfold maxLen;omega) (by omega) (by simp;omega) ?_);intro g2 cap2 w9 hown hgrow hat))
         have ko:Off u16.ownBlock.toList wr w9:=Off.grown ((Off.refl _ wr).alloc _) hgrow (fun k hk=>.inl (Option.mem_toList.2 hk))
         have hB9:Below V8.heap.size V8 w9:=by
          have h2:=HB2.out
          exact⟨ko.os.trans h2.os,ko.tape.trans h2.tape,ko.output.trans h2.output,Nat.le_trans h2.size ko.size,fun b hb=>(ko.block b (Nat.lt_of_lt_of_le hb h2.size) (fun hx=>by have:=(HW2.out.lt b (Option.mem_toList.1 hx)).1;omega)).trans (h2.block b hb)⟩
         have HG9:=a0b (a1i HG2.out ko (fun b hb hx=>HD.out b (Option.mem_toList.1 hx) hb))
         have hg2a:∀ c,(Value.slice ga gl.length gc).ownBlock=some c->c≠g2:=fun c hc e=>by
          rcases hat with h|⟨h,_⟩
          ·exact HD.out g2 h (by rw[<- e];exact hc)
          ·have:=(HG2.out.lt c hc).2
           simp at h
           omega
         have HGA:=a0b hg2a
         have HOw:=a0b hown
         have hg2l:g2<w9.heap.size:=(hown.lt g2 rfl).2
         have hsz9:V8.heap.size<=w9.heap.size:=hB9.size
         have HB9:=a0b hB9
         obtain⟨g',cap'',e,x0',x1',x2',x3'⟩:=e4R (ER.out w9 hB9) i hil
         simp only[Value.slice.injEq,Option.some.injEq,Addr.mk.injEq,true_and,and_true] at e
         obtain⟨rfl,rfl⟩:=e
         clear hown hgrow hat ko hg2a hB9 x0 x1 x2 x3 HG2 HW2 HB2 HGr HW HB HD
         rw[HLi.out] at x2' x3'
         dsimp only at x2' x3'
         go_upto_region 25 with (first
          |(at_builtin;go_loud (refine d4R _ rfl _ _ 66 rfl V8.heap.size 49 i0 _ 4 40 Tryz.underlying66 hi0 hz0 hz1 hz2 rfl (by decide) _ _ _ rfl (HG9.out.alloc _) ⟨w9.heap.size,0,none⟩ 1 (d8J (sf,st)) rfl rfl (World.news_of_block (cs:=(d8J (sf,st)).toArray) (a0p w9 _)) (by simp[d8J,Value.oneCell']) (by unfold maxLen;omega) (by omega) (by simp;omega) ?_);intro g3 cap3 w10 hown hgrow hat))
         have ko:Off (Value.slice ga gl.length gc).ownBlock.toList w9 w10:=Off.grown ((Off.refl _ w9).alloc _) hgrow (fun k hk=>.inl (Option.mem_toList.2 hk))
         have HBx:Hid (Below V8.heap.size V8 w10):=by
          have h2:=HB9.out
          exact⟨ko.os.trans h2.os,ko.tape.trans h2.tape,ko.output.trans h2.output,Nat.le_trans h2.size ko.size,fun b hb=>(ko.block b (Nat.lt_of_lt_of_le hb h2.size) (fun hx=>by have:=(HG9.out.lt b (Option.mem_toList.1 hx)).1;omega)).trans (h2.block b hb)⟩
         have HR1:Hid (w10.ownsRow V8.heap.size 3 1 (.slice (some ⟨g2,0,none⟩) (wl.length+1) cap2) (wl++[(i:Int)+2]).length ((wl++[(i:Int)+2]).map (Value.int .i64))):=by
          have h:=a1i HOw.out ko (fun b hb hx=>HGA.out b (Option.mem_toList.1 hx) (by
           have:g2=b:=by simpa[Value.ownBlock] using hb
           exact this.symm))
          show World.ownsRow _ _ _ _ _ _ _
          rw[List.length_append,List.map_append]
          exact h
         have HR2:Hid (w10.ownsRow V8.heap.size 49 4 (.slice (some ⟨g3,0,none⟩) (gl.length+1) cap3) (gl++[(sf,st)]).length ((gl++[(sf,st)]).flatMap d8J)):=by
          show World.ownsRow _ _ _ _ _ _ _
          rw[List.length_append,List.flatMap_append]
          simpa using hown
         have HD2:Hid (∀ b,(Value.slice (some ⟨g2,0,none⟩) (wl.length+1) cap2).ownBlock=some b->(Value.slice (some ⟨g3,0,none⟩) (gl.length+1) cap3).ownBlock≠some b):=fun b hb hx=>by
          have e2:g2=b:=by simpa[Value.ownBlock] using hb
          have e3:g3=b:=by simpa[Value.ownBlock] using hx
          rcases hat with h|⟨h,_⟩
          ·exact HGA.out g3 h (by omega)
          ·simp at h
           omega
         clear hown hgrow hat ko HOw HG9 HGA HB9
         go_wp2_with fail
         go_roundw
         case rel=>exact⟨i+1,wl++[(i:Int)+2],gl++[(sf,st)],by omega,by go_num,by simp;omega,by simp;omega,HQf.out,HR1.out,HR2.out,HD2.out,HBx.out⟩
         case measure=>simp[intOf];omega
     ·have hil':¬ (i:Int)<(L.length:Int):=by omega
      have GW:Hid (G=wl):=by
       have h:=HQ.out
       rw[List.drop_of_length_le (by omega)] at h
       show _=_
       rw[h]
       simp[c9k,c8A]
      have gwl:G.length<=6:=by rw[GW.out];omega
      obtain⟨y0,y5,y6,_,_⟩:=YC.out wr HB.out
      have SI:=a0b (f1K G wl (.slice b3 G.length d3) u16 0 V8.heap.size wr (GE.out wr HB.out).1 HW.out (by omega))
      rw[show decide (G=wl)=true from by simpa using GW.out] at SI
      clear y0 y6
      go_upto_region 35 with (first
       |(go_at_call 34;refine SI.out.mono ?_;rintro e w10 ⟨rfl,hb⟩;have hB10:Below V8.heap.size V8 w10:=HB.out.trans (hb.mono HB.out.size);clear hb SI y5))
      have HF:=a0b (BW.out w10 hB10)
      obtain⟨y0,_,y6,f0',f2'⟩:=YC.out w10 hB10
      have GR:=a0b (GE.out w10 hB10).2
      clear hB10 GW HQ HW HGr HD HB
      cases ends
      ·have hE:E=[]:=HEn.out
       subst hE
       clear GR HEn
       go_wp2_with fail
       go_ret
       exact⟨rfl,HF.out⟩
      ·have hE:E=[1]:=HEn.out
       subst hE
       obtain⟨ge,gcap,e⟩:=Joins.ownsRow_form GR.out (by simp)
       have gr:=GR.out
       rw[e] at gr y6
       have z0:=gr.cellAt 0 (by simp)
       have z0':w10.cell? ⟨ge,0,none⟩=some (.int .i64 1):=z0
       clear z0 gr GR e HEn
       go_wp2_with fail
       go_ret
       exact⟨rfl,HF.out⟩
end Go.Proofs.YtfigmlfdnickmaaGreatDoor
namespace Go.Proofs.YtfigmlfdnickmaaGreatDoor.Laid
def val:DataW Unit->Value
 |.lit (.int k n)=>.int k n
 |.lit (.string b)=>.string ⟨b.toArray⟩
 |_=>.bool false
def row:DataW Unit->List Value
 |.agg l=>l.map val
 |_=>[]
def rows:DataW Unit->List Value
 |.agg l=>l.flatMap row
 |_=>[]
def text:DataW Unit->Value
 |.iface _ (.ptr (.agg [d]))=>val d
 |_=>.bool false
def put(l:List Value):Obj->Obj
 |.cells _ t frozen=>.cells l.toArray t frozen
 |o=>o
def c6N(w:World):World :=
 { w with heap:=(((((((((w.heap.modify 1 (put (row Rows.laid_bookings_calendar_monthDays))).modify 0 (put (row Rows.laid_internal_strconv_uint64pow10))).modify 6 (put [.iface 369 (.pointer (some ⟨w.heap.size,0,none⟩))])).modify 7 (put [.iface 369 (.pointer (some ⟨w.heap.size+1,0,none⟩))])).modify 3 (put (row Rows.laid_bookings_lines_weekdays))).modify 4 (put (row Rows.laid_math_bits_deBruijn32tab))).modify 5 (put (row Rows.laid_math_bits_deBruijn64tab))).modify 8 (put (row Rows.laid_unicode_utf8_first))).modify 9 (put (rows Rows.laid_unicode_utf8_acceptRanges))).push (.cells #[text Rows.laid_strconv_ErrSyntax] 371) |>.push (.cells #[text Rows.laid_strconv_ErrRange] 371) }
theorem met(os:Os):laidMet Tryz.prog Rows.datesRow.laid ((c6N (World.holding Tryz.prog os ⟨#[],#[],[]⟩)).forCall (fun _ _=>0) ⟨#[],#[.slice none 0 0],[]⟩).memory :=
 laidMet_of_run' 8 (by kernel_rfl) (by kernel_rfl)
end Go.Proofs.YtfigmlfdnickmaaGreatDoor.Laid
namespace Go.Proofs.YtfigmlfdnickmaaGreatDoor.datesLaw
open Go.ChangeShapes Go.WideShapes Go.ChangeAt Go.RowKit
theorem own:ownKnob Tryz.prog.godebug=none:=by kernel_rfl
theorem c5b:laidOutB Tryz.prog=true:=by kernel_rfl
def b9r:String:=Rows.datesRow.named.getD 0 Rows.datesRow.func
theorem b8y:Tryz.prog.globalNamed b9r=some 1:=by kernel_rfl
theorem c3e:(Tryz.prog.globals[1]?).map (·.type)=some 314:=by kernel_rfl
theorem c3A:Tryz.prog.cellsOf 314=12:=by kernel_rfl
theorem c3D:Tryz.prog.cellsOf 3=1:=by kernel_rfl
theorem b7n:Tryz.prog.cellsOf 9=1:=by kernel_rfl
theorem table{W:World}(h:laidMetH Tryz.prog Rows.datesRow.laid W):Lib.TabIs Tryz.prog W b9r .i64 [31,28,31,30,31,30,31,31,30,31,30,31] :=
 Lib.tabIs_of_head b8y c3e Tryz.underlying314 Tryz.underlying3 c3D c3A h
theorem tab{W:World}(h:laidMetH Tryz.prog Rows.datesRow.laid W):Tab W :=
 ⟨(table h).cell b8y 0 (by decide),(table h).cell b8y 1 (by decide),(table h).cell b8y 2 (by decide),(table h).cell b8y 3 (by decide),(table h).cell b8y 4 (by decide),(table h).cell b8y 5 (by decide),(table h).cell b8y 6 (by decide),(table h).cell b8y 7 (by decide),(table h).cell b8y 8 (by decide),(table h).cell b8y 9 (by decide),(table h).cell b8y 10 (by decide),(table h).cell b8y 11 (by decide)⟩
end Go.Proofs.YtfigmlfdnickmaaGreatDoor.datesLaw
