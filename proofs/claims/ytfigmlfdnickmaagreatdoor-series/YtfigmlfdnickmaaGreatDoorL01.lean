import Derived.Test.YtfigmlfdnickmaaGreatDoorProg
import Derived.WalkKit
import Derived.WalkSpells
import Derived.WalkLawsBesides
import Derived.Deep.QuietTactic
import Derived.BigQuiet
import Derived.Deep.RegionHeld3
import Derived.Deep.RegionWith
import Derived.Deep.CutRange
set_option maxRecDepth 100000
set_option maxHeartbeats 8000000
open Go.Proofs.Tryz
open _root_ renaming List->U5,Option->U6,Bool->U7,Nat->U8,Int->U9,if_neg->Va,if_pos->Vb
open Option renaming none->Vd,some->Ve
open Bool renaming false->Vf,true->Vg,not_eq_true->Vt,false_or->Vu,not_false->Vv,not_true->Vw,false_eq_true->Vx,true_or->Vy
open Go renaming World->Vh,Value->Vi,Calls->Vk,Addr->Vl
open Go.RowKit renaming Below->Vj
open Nat renaming le_refl->Vn,le_trans->Vq
open Go.Ending renaming returned->Vo
open Go.IntKind renaming i64->Vp
open Go.World renaming block_lt_of_cell?->Vr,frozen?->Vs,cell?_setCell_same->VF,setCell->VH,alloc->VK,cell?->VL,drew->VM
open Int renaming add_assoc->Vz,zero_add->VI
open List renaming mem_cons->VA,mem_append->VB,nodup_nil->VD,nodup_cons->VE,nodup_append->VJ,cons_append->VN,pairwise_cons->VO,filter_append->VP,filter_cons->VQ,filter_eq_nil_iff->VS,sublist_cons_self->VX,append_assoc->VZ,perm_middle->V3
open Go.Value renaming pointer->VG,int->V4
open List.Pairwise renaming filter->VR
open List.Sublist renaming nodup->VT,cons_cons->VU,append->VV,trans->VW,refl->VY
open List.Perm renaming swap->V1,cons->V2
namespace Go.Proofs.YtfigmlfdnickmaaGreatDoor
variable{a c hi level lo long st y5 y6:U9}{f:U9->U9}{F F' Fl Fr G:U5 U8}{M N b bk fn n o:U8}{pl pr u:U6 Vl}{p v:Vi}{X w w' w'' w1 w2 w4:Vh}
theorem UU{p:Prop}(h:p:=by omega):p:=h
theorem UV{p:Prop}(h:p:=by simp):p:=h
theorem UW{p:Prop}(h:p:=by decide):p:=h
theorem UX{p:Prop}(h:p:=by assumption):p:=h
theorem UY{p:Prop}(h:p:=by decide +kernel):p:=h
theorem UZ{p:Prop}(h:p:=by kernel_rfl):p:=h
theorem U0{p:Prop}(h:p:=by (simp;omega)):p:=h
theorem U1{p:Prop}(h:p:=by (unfold maxLen;omega)):p:=h
theorem U2{p:Prop}(h:p:=by simp[Value.oneCell']):p:=h
theorem U3{p:Prop}(h:p:=by simp[Value.ownBlock]):p:=h
open Go.RowKit
theorem zq(n:U8):n<=n:=Vn n
theorem zS(w:Vh)(a b:Vl)(v:Vi)(h:a≠b):(w.setCell a v).cell? b=w.cell? b:=w.cell?_setCell_other a b v h
theorem zr(b:U8)(w:Vh):Vj b w w:=Below.refl b w
theorem zL{m k:U8}(h:n<m)(g:m<=k):n<k:=Nat.lt_of_lt_of_le h g
theorem zm(w:Vh)(a:Vl)(v:Vi){u:Vi}(h:w.cell? a=Ve u):(w.setCell a v).cell? a=Ve v:=w.cell?_setCell_same a v h
theorem zF(w:Vh)(a b:Vl)(v:Vi):(w.setCell a v).frozen? b=w.frozen? b:=w.frozen?_setCell a b v
theorem zo{a:Vl}(h:w'.heap[a.block]?=w.heap[a.block]?):w'.cell? a=w.cell? a:=World.cell?_of_block h
theorem zN(n:U8):0<=n:=n.zero_le
theorem zg{α:Type _}{l:U5 α}(h:n<l.length):l[n]∈l:=List.getElem_mem h
theorem zA{a b:Prop}(h:a)(k:b):a/\b:=⟨h,k⟩
theorem oa{a b:U7}(h:a=b):Vo (.bool a)=.returned (.bool b):=by rw[h]
theorem gL{k:IntKind}{b:U9}(h:a=b):Vo (.int k a)=.returned (.int k b):=by rw[h]
theorem aC{p:Prop}(h:p):Hid p:=h
theorem cG{x:U9}(g:-1000000000000<=x)(d:x<=1000000000000):Vp.wrap x=x:=by
 rw[IntKind.wrap_i64];omega
theorem tK(x y:U9):(if x<y then y else x)=max x y:=by split <;> omega
theorem FV(x y:U9):(if y<x then y else x)=min x y:=by split <;> omega
theorem A0(c x y:U9):(c+if x<y then y else x)=c+max x y:=by split <;> omega
theorem Od(c x y:U9):(c+if y<x then y else x)=c+min x y:=by split <;> omega
theorem bA{B:U8}(h:Vj B w w')(k:Vj w'.heap.size w' w'')(d:B<=w.heap.size):Vj B w w'':=h.trans (k.mono (Vq d h.size))
theorem dM(w:Vh):Vj w.heap.size w w.drew:=(zr _ _).drew
structure aF(F:U5 U8)(w w':Vh):Prop where
 os:w'.os=w.os
 tape:w'.tape=w.tape
 output:w'.output=w.output
 size:w.heap.size<=w'.heap.size
 block:∀ k,k<w.heap.size->k ∉ F->w'.heap[k]?=w.heap[k]?
theorem aF.refl(F:U5 U8)(w:Vh):aF F w w:=⟨rfl,rfl,rfl,Vn _,fun _ _ _=>rfl⟩
theorem aF.trans'{a b c:Vh}(h:aF F a b)(k:aF G b c)(l:∀ x∈G,x∈F\/a.heap.size<=x):aF F a c :=
 ⟨k.os.trans h.os,k.tape.trans h.tape,k.output.trans h.output,Vq h.size k.size,fun i hi d =>
  (k.block i (zL hi h.size) (fun j=>by rcases l i j with g|g;exact d g;omega)).trans (h.block i hi d)⟩
theorem aF.trans{a b c:Vh}(h:aF F a b)(k:aF F b c):aF F a c:=h.trans' k (fun _ d=>.inl d)
theorem aF.mono{a b:Vh}(h:aF F a b)(g:∀ x∈F,x∈G):aF G a b :=
 ⟨h.os,h.tape,h.output,h.size,fun i hi j=>h.block i hi (fun d=>j (g i d))⟩
theorem aF.aD(h:Vj w.heap.size w w'):aF F w w':=⟨h.os,h.tape,h.output,h.size,fun k d _=>h.block k d⟩
theorem aF.drew(h:aF F w w'):aF F w w'.drew:=⟨h.os,h.tape,h.output,h.size,h.block⟩
theorem aF.alloc(h:aF F w w')(o:Obj):aF F w (w'.alloc o) :=
 h.trans (aF.aD ((zr _ _).alloc (zq _) o))
theorem aF.aY(R:U8)(w':Vh)(o:U8)(v:Vi):aF [R] w' (w'.setCell ⟨R,o,Vd⟩ v) :=
 ⟨(Below.setCell (B:=0) (Below.refl 0 w') (zN _) v).os,(Below.setCell (B:=0) (Below.refl 0 w') (zN _) v).tape,(Below.setCell (B:=0) (Below.refl 0 w') (zN _) v).output,(Below.setCell (B:=0) (Below.refl 0 w') (p:=⟨R,o,Vd⟩) (zN _) v).size,fun k _ d=>Below.heap_setCell w' _ v k (by simpa using d)⟩
theorem aF.setCell(h:aF F w w'){R:U8}(g:R∈F\/w.heap.size<=R)(o:U8)(v:Vi):aF F w (w'.setCell ⟨R,o,Vd⟩ v) :=
 h.trans' (aF.aY R w' o v) (fun x d=>by simp at d;subst d;exact g)
theorem aF.cell(h:aF F w w')(d:b ∉ F)(g:w.cell? ⟨b,o,Vd⟩=Ve v):w'.cell? ⟨b,o,Vd⟩=Ve v :=
 (zo (w:=w) (h.block b (Vr _ _ g) d)).trans g
theorem aF.frozen(h:aF F w w')(d:b ∉ F)(g:b<w.heap.size):w'.frozen? ⟨b,o,Vd⟩=w.frozen? ⟨b,o,Vd⟩:=by
 have e:=h.block b g d;simp only[Vs,e]
theorem aN(h:Vj w.heap.size w w')(d:w.cell? ⟨b,o,Vd⟩=Ve v):w'.cell? ⟨b,o,Vd⟩=Ve v :=
 (h.cell (p:=⟨b,o,Vd⟩) (Vr _ _ d)).trans d
namespace aG
inductive T where
 |nil:T
 |node (a:U9) (l r:T):T
def top:T->U9
 |.nil=>0
 |.node a l r=>a+max (top l) (top r)
def bot:T->U9
 |.nil=>0
 |.node a l r=>a+min (bot l) (bot r)
def isNil:T->U7
 |.nil=>Vg
 |.node ..=>Vf
def val:T->U9
 |.nil=>0
 |.node a _ _=>a
def fst:T->T
 |.nil=>.nil
 |.node _ l _=>l
def snd:T->T
 |.nil=>.nil
 |.node _ _ r=>r
def flat(t:T):U7:=isNil (fst t) && isNil (snd t)
def mk(a:U9)(l r:T):T:=if a=0/\isNil l=Vg/\isNil r=Vg then .nil else .node a l r
theorem qV{t:T}(h:isNil t=Vg):t=.nil:=by cases t <;> simp_all [isNil]
@[simp] theorem val_mk (a:U9) (l r:T):val (mk a l r)=a:=by
 unfold mk;split
 ·rename_i h;simp[val,h.1]
 ·rfl
@[simp] theorem fst_mk (a:U9) (l r:T):fst (mk a l r)=l:=by
 unfold mk;split
 ·rename_i h;rw[qV h.2.1];rfl
 ·rfl
@[simp] theorem snd_mk (a:U9) (l r:T):snd (mk a l r)=r:=by
 unfold mk;split
 ·rename_i h;rw[qV h.2.2];rfl
 ·rfl
def aS(lo hi:U9):U9:=(lo+hi) / 2
def apart(lo hi a b:U9):U7:=decide (hi<=a) || decide (b<=lo)
def within(lo hi a b:U9):U7:=decide (a<=lo) && decide (hi<=b)
theorem sT{b:U9}:apart lo hi a b=Vg↔hi<=a\/b<=lo:=by simp[apart]
theorem mc{b:U9}:apart lo hi a b=Vf↔a<hi/\lo<b:=by
 rw[<- Vt,sT];omega
theorem ui{b:U9}:within lo hi a b=Vg↔a<=lo/\hi<=b:=by simp[within]
theorem v7{b:U9}:within lo hi a b=Vf↔¬ (a<=lo/\hi<=b):=by
 rw[<- Vt,ui]
def fU:U8->T->U9->U9->U9->U9->U9->T
 |n,t,lo,hi,a,b,u =>
  if apart lo hi a b then t
  else if within lo hi a b then mk (val t+u) (fst t) (snd t)
  else match n with
   |0=>t
   |n+1=>mk (val t) (fU n (fst t) lo (aS lo hi) a b u) (fU n (snd t) (aS lo hi) hi a b u)
def canon:U8->(U5 U7->U9)->U9->U9->T
 |0,A,_,_=>mk (A []) .nil .nil
 |n+1,A,lo,hi =>
  if hi-lo<=1 then mk (A []) .nil .nil
  else mk (A []) (canon n (fun p=>A (Vf :: p)) lo (aS lo hi)) (canon n (fun p=>A (Vg :: p)) (aS lo hi) hi)
def gG:U9->U9->U9->U9->U5 U7->U9
 |lo,hi,a,b,[]=>if apart lo hi a b then 0 else if within lo hi a b then 1 else 0
 |lo,hi,a,b,Vf :: p=>if apart lo hi a b then 0 else if within lo hi a b then 0 else gG lo (aS lo hi) a b p
 |lo,hi,a,b,Vg :: p=>if apart lo hi a b then 0 else if within lo hi a b then 0 else gG (aS lo hi) hi a b p
theorem B7{b:U9}(h:apart lo hi a b=Vg):∀ p,gG lo hi a b p=0
 |[]=>by simp[gG,h]
 |false :: p=>by simp[gG,h]
 |true :: p=>by simp[gG,h]
theorem AV:∀ (p:U5 U7)(lo hi a b:U9),0<=gG lo hi a b p/\gG lo hi a b p<=1
 |[],lo,hi,a,b=>by simp only[gG];split <;> (try split) <;> omega
 |false :: p,lo,hi,a,b=>by
   simp only[gG];split
   ·omega
   ·split
    ·omega
    ·exact AV p _ _ _ _
 |true :: p,lo,hi,a,b=>by
   simp only[gG];split
   ·omega
   ·split
    ·omega
    ·exact AV p _ _ _ _
theorem BH(h:hi-lo<=2 ^ (n+1)):aS lo hi-lo<=2 ^ n/\hi-aS lo hi<=2 ^ n:=by
 unfold aS;rw[Int.pow_succ] at h;omega
theorem S5:∀ {A B:U5 U7->U9}{lo hi:U9},(∀ p,A p=B p)->canon n A lo hi=canon n B lo hi:=by
 intro A B lo hi h;rw[show A=B from funext h]
theorem Sc:∀ (n:U8)(A:U5 U7->U9)(lo hi a b u:U9),lo<hi->hi-lo<=2 ^ n->a<b ->
  fU n (canon n A lo hi) lo hi a b u=canon n (fun p=>A p+u*gG lo hi a b p) lo hi:=by
 intro n
 induction n with
 |zero =>
  intro A lo hi a b u q i j;have i:hi-lo<=1:=by simpa using i
  unfold fU
  split
  ·rename_i h;simp[canon,B7 h]
  ·rename_i h
   rw[Vt,mc] at h;have d:within lo hi a b=Vg:=ui.2 UU;have g:apart lo hi a b=Vf:=mc.2 h;rw[Vb d];simp[canon,gG,d,g]
 |succ n ih =>
  intro A lo hi a b u q i j;unfold fU
  split
  ·rename_i h;exact S5 (by intro p;simp[B7 h])
  ·rename_i h
   have g:apart lo hi a b=Vf:=by simpa using h
   split
   ·rename_i d
    simp only[canon]
    split
    ·simp[gG,g,d]
    ·simp[gG,g,d]
   ·rename_i d
    have d:within lo hi a b=Vf:=by simpa using d
    have s:=mc.1 g;have r:=v7.1 d;have m:¬ hi-lo<=1:=UU
    have k:lo<aS lo hi/\aS lo hi<hi:=by unfold aS;omega
    have l:=BH i;simp only[canon,Va m,val_mk,fst_mk,snd_mk];rw[ih _ _ _ _ _ _ k.1 l.1 j,ih _ _ _ _ _ _ k.2 l.2 j];simp[gG,g,d]
def dJ:T->U9->U9->U9->U9
 |.nil,_,_,_=>0
 |.node a l r,lo,hi,x=>a+if x<aS lo hi then dJ l lo (aS lo hi) x else dJ r (aS lo hi) hi x
theorem oG(a:U9)(l r:T)(lo hi x:U9):dJ (mk a l r) lo hi x=a+if x<aS lo hi then dJ l lo (aS lo hi) x else dJ r (aS lo hi) hi x:=by
 unfold mk;split
 ·rename_i h;rw[qV h.2.1,qV h.2.2];simp[dJ,h.1]
 ·rfl
def Good:T->U9->U9->Prop
 |.nil,_,_=>True
 |.node a l r,lo,hi=>0<=a/\((isNil l=Vg/\isNil r=Vg)\/2<=hi-lo)/\Good l lo (aS lo hi)/\Good r (aS lo hi) hi
theorem Good.mk{l r:T}(i:0<=a)(h:(isNil l=Vg/\isNil r=Vg)\/2<=hi-lo)(g:Good l lo (aS lo hi))(d:Good r (aS lo hi) hi):Good (aG.mk a l r) lo hi:=by
 unfold aG.mk;split
 ·trivial
 ·exact⟨i,h,g,d⟩
theorem Si:∀ (n:U8)(A:U5 U7->U9)(lo hi:U9),(∀ p,0<=A p)->Good (canon n A lo hi) lo hi:=by
 intro n
 induction n with
 |zero=>intro A lo hi h;exact Good.mk (h _) (.inl ⟨rfl,rfl⟩) trivial trivial
 |succ n ih =>
  intro A lo hi h;simp only[canon]
  split
  ·exact Good.mk (h _) (.inl ⟨rfl,rfl⟩) trivial trivial
  ·exact Good.mk (h _) (.inr UU) (ih _ _ _ (fun p=>h _)) (ih _ _ _ (fun p=>h _))
theorem Uo:∀ (n:U8)(A:U5 U7->U9)(lo hi a b u x:U9),lo<=x->x<hi->hi-lo<=2 ^ n->a<b ->
  dJ (canon n (fun p=>A p+u*gG lo hi a b p) lo hi) lo hi x=dJ (canon n A lo hi) lo hi x+if a<=x/\x<b then u else 0:=by
 intro n
 induction n with
 |zero =>
  intro A lo hi a b u x r q i k;have i:hi-lo<=1:=by simpa using i
  simp only[canon,oG,dJ,gG]
  cases d:apart lo hi a b
  ·have j:=mc.1 d;have g:within lo hi a b=Vg:=ui.2 UU;rw[g,Vb (by omega:a<=x/\x<b)];simp
  ·have j:=sT.1 d;rw[Va (by omega:¬ (a<=x/\x<b))];simp
 |succ n ih =>
  intro A lo hi a b u x r q i k;simp only[canon];have l:=BH i
  cases d:apart lo hi a b
  ·have j:=mc.1 d
   cases g:within lo hi a b
   ·have s:=v7.1 g;have m:¬ hi-lo<=1:=UU
    rw[Va m,Va m,oG,oG];simp only[gG,d,g]
    by_cases h:x<aS lo hi
    ·rw[Vb h,Vb h];have:=ih (fun p=>A (Vf :: p)) lo (aS lo hi) a b u x r h l.1 k;simp at this ⊢;omega
    ·rw[Va h,Va h];have:=ih (fun p=>A (Vg :: p)) (aS lo hi) hi a b u x UU q l.2 k;simp at this ⊢;omega
   ·have s:=ui.1 g;rw[Vb (by omega:a<=x/\x<b)]
    split
    ·rw[oG,oG];simp[gG,d,g,dJ]
    ·rw[oG,oG];simp[gG,d,g];omega
  ·have j:=sT.1 d;rw[Va (by omega:¬ (a<=x/\x<b))];simp[B7 d]
theorem Ur:∀ (n:U8)(lo hi x:U9),dJ (canon n (fun _=>0) lo hi) lo hi x=0:=by
 intro n
 induction n with
 |zero=>intro lo hi x;simp[canon,oG,dJ]
 |succ n ih =>
  intro lo hi x;simp only[canon]
  split
  ·simp[oG,dJ]
  ·rw[oG,ih,ih];simp
theorem yK:∀ (t:T)(lo hi x:U9),Good t lo hi->0<=dJ t lo hi x:=by
 intro t
 induction t with
 |nil=>intro lo hi x _;simp[dJ]
 |node a l r ihl ihr =>
  intro lo hi x h;have i:=ihl lo (aS lo hi) x h.2.2.1;have g:=ihr (aS lo hi) hi x h.2.2.2;have d:=h.1;simp only[dJ];split <;> omega
theorem tW{t:T}(h:isNil t=Vg):top t=0/\bot t=0:=by rw[qV h];exact⟨rfl,rfl⟩
theorem tY{t:T}(h:isNil t=Vg)(lo hi x:U9):dJ t lo hi x=0:=by rw[qV h];rfl
theorem vC:∀ (t:T)(lo hi:U9),lo<hi->Good t lo hi->(∀ x,lo<=x->x<hi->dJ t lo hi x<=top t)/\∃ x,lo<=x/\x<hi/\dJ t lo hi x=top t:=by
 intro t
 induction t with
 |nil=>intro lo hi h _;exact⟨fun x _ _=>by simp[dJ,top],lo,by omega,h,rfl⟩
 |node a l r ihl ihr =>
  intro lo hi h g;rcases g.2.1 with ⟨j,i⟩|K
  ·have s:=tW j;have q:=tW i;simp only[dJ,top,tY j,tY i,s,q];exact⟨fun x _ _=>by split <;> omega,lo,by omega,h,by split <;> omega⟩
  ·have d:lo<aS lo hi/\aS lo hi<hi:=by unfold aS;omega
   obtain⟨l1,m,B,A,I⟩:=ihl lo (aS lo hi) d.1 g.2.2.1;obtain⟨z,k,H,y,E⟩:=ihr (aS lo hi) hi d.2 g.2.2.2;simp only[dJ,top];refine⟨fun x D C=>?_,?_⟩
   ·split
    ·have:=l1 x D UU;omega
    ·have:=z x UU C;omega
   ·by_cases J:top r<=top l
    ·exact⟨m,B,by omega,by rw[Vb A];omega⟩
    ·exact⟨k,by omega,y,by rw[Va UU];omega⟩
theorem Ou:∀ (t:T)(lo hi:U9),lo<hi->Good t lo hi->(∀ x,lo<=x->x<hi->bot t<=dJ t lo hi x)/\∃ x,lo<=x/\x<hi/\dJ t lo hi x=bot t:=by
 intro t
 induction t with
 |nil=>intro lo hi h _;exact⟨fun x _ _=>by simp[dJ,bot],lo,by omega,h,rfl⟩
 |node a l r ihl ihr =>
  intro lo hi h g;rcases g.2.1 with ⟨j,i⟩|K
  ·have s:=tW j;have q:=tW i;simp only[dJ,bot,tY j,tY i,s,q];exact⟨fun x _ _=>by split <;> omega,lo,by omega,h,by split <;> omega⟩
  ·have d:lo<aS lo hi/\aS lo hi<hi:=by unfold aS;omega
   obtain⟨l1,m,B,A,I⟩:=ihl lo (aS lo hi) d.1 g.2.2.1;obtain⟨z,k,H,y,E⟩:=ihr (aS lo hi) hi d.2 g.2.2.2;simp only[dJ,bot];refine⟨fun x D C=>?_,?_⟩
   ·split
    ·have:=l1 x D UU;omega
    ·have:=z x UU C;omega
   ·by_cases J:bot l<=bot r
    ·exact⟨m,B,by omega,by rw[Vb A];omega⟩
    ·exact⟨k,by omega,y,by rw[Va UU];omega⟩
def fF:T->U9->U9->U9->U9->U9
 |.nil,_,_,_,_=>0
 |.node c l r,lo,hi,a,b =>
  if apart lo hi a b then 0
  else if within lo hi a b then c+max (top l) (top r)
  else c+max (fF l lo (aS lo hi) a b) (fF r (aS lo hi) hi a b)
theorem yr{t:T}{b:U9}(h:apart lo hi a b=Vg):fF t lo hi a b=0:=by
 cases t <;> simp[fF,h]
theorem GQ:∀ (t:T)(lo hi a b:U9),lo<hi->a<b->Good t lo hi->apart lo hi a b=Vf ->
  0<=fF t lo hi a b/\(∀ x,lo<=x->x<hi->a<=x->x<b->dJ t lo hi x<=fF t lo hi a b)/\∃ x,lo<=x/\x<hi/\a<=x/\x<b/\dJ t lo hi x=fF t lo hi a b:=by
 intro t
 induction t with
 |nil =>
  intro lo hi a b h s _ m;have:=mc.1 m;exact⟨Int.le_refl _,fun x _ _ _ _=>by simp[dJ,fF],max lo a,by omega,by omega,by omega,by omega,rfl⟩
 |node c l r ihl ihr =>
  intro lo hi a b h s g m;have ab:=mc.1 m
  cases q:within lo hi a b
  ·have H:=v7.1 q;have I:lo<aS lo hi/\aS lo hi<hi:=by unfold aS;omega
   have e:fF (.node c l r) lo hi a b=c+max (fF l lo (aS lo hi) a b) (fF r (aS lo hi) hi a b):=by simp[fF,m,q]
   have g0:=g.1;rw[e];simp only[dJ]
   cases pl:apart lo (aS lo hi) a b
   ·obtain⟨l0,l1,J,P,O,L,K,l6⟩:=ihl lo (aS lo hi) a b I.1 s g.2.2.1 pl
    cases pr:apart (aS lo hi) hi a b
    ·obtain⟨Y,E,A,W,D,C,B,V⟩:=ihr (aS lo hi) hi a b I.2 s g.2.2.2 pr;refine⟨by omega,fun x k j i d=>?_,?_⟩
     ·split
      ·have:=l1 x k UU i d;omega
      ·have:=E x UU j i d;omega
     ·by_cases hc:fF r (aS lo hi) hi a b<=fF l lo (aS lo hi) a b
      ·exact⟨J,P,by omega,L,K,by rw[Vb O];omega⟩
      ·exact⟨A,by omega,D,C,B,by rw[Va UU];omega⟩
    ·have Z:=sT.1 pr;have z:=yr (t:=r) pr;refine⟨by omega,fun x k j i d=>?_,J,P,by omega,L,K,by rw[Vb O];omega⟩;rw[Vb UU];have:=l1 x k UU i d;omega
   ·have aa:=sT.1 pl;have z:=yr (t:=l) pl;have pr:apart (aS lo hi) hi a b=Vf:=mc.2 UU;obtain⟨Y,E,A,W,D,C,B,V⟩:=ihr (aS lo hi) hi a b I.2 s g.2.2.2 pr;refine⟨by omega,fun x k j i d=>?_,A,by omega,D,C,B,by rw[Va UU];omega⟩;rw[Va UU];have:=E x UU j i d;omega
  ·have H:=ui.1 q;have e:fF (.node c l r) lo hi a b=top (.node c l r):=by simp[fF,m,q,top]
   obtain⟨U,x,S,R,Q⟩:=vC (.node c l r) lo hi h g;rw[e];have:=yK (.node c l r) lo hi x g;exact⟨by omega,fun y k j _ _=>U y k j,x,S,R,by omega,by omega,Q⟩
def iK(d:U7)(level:U9)(t:T)(c:U9):U7:=if d then decide (level<c+top t) else decide (c+bot t<=level)
def want(d:U7)(level x:U9):Prop:=if d then level<x else x<=level
def fm(d:U7)(level:U9):T->U9->U9->U9->U9->U9->U6 U9
 |.nil,lo,hi,a,b,c=>if apart lo hi a b || !iK d level .nil c then Vd else Ve (max lo a)
 |.node v l r,lo,hi,a,b,c =>
  if apart lo hi a b || !iK d level (.node v l r) c then Vd
  else if isNil l && isNil r then Ve (max lo a)
  else match fm d level l lo (aS lo hi) a b (c+v) with
   |some x=>Ve x
   |none=>fm d level r (aS lo hi) hi a b (c+v)
theorem G8{d:U7}{t:T}(h:iK d level t c=Vf)(i:lo<hi)(g:Good t lo hi):∀ x,lo<=x->x<hi->¬ want d level (c+dJ t lo hi x):=by
 intro x k j
 cases d
 ·have:=(Ou t lo hi i g).1 x k j;simp[iK,want] at h ⊢;omega
 ·have:=(vC t lo hi i g).1 x k j;simp[iK,want] at h ⊢;omega
theorem IA{d:U7}{t:T}(h:iK d level t c=Vg)(g:∀ x,dJ t lo hi x=val t)(ht:top t=val t)(i:bot t=val t):∀ x,want d level (c+dJ t lo hi x):=by
 intro x;rw[g x]
 cases d
 ·simp[iK,want,i] at h ⊢;omega
 ·simp[iK,want,ht] at h ⊢;omega
def sF(P:U9->Prop)(lo hi a b:U9):U6 U9->Prop
 |none=>∀ x,lo<=x->x<hi->a<=x->x<b->¬ P x
 |some x=>lo<=x/\x<hi/\a<=x/\x<b/\P x/\∀ y,lo<=y->y<x->a<=y->¬ P y
theorem Fk(d:U7)(level:U9):∀ (t:T)(lo hi a b c:U9),lo<hi->a<b->Good t lo hi->sF (fun x=>want d level (c+dJ t lo hi x)) lo hi a b (fm d level t lo hi a b c):=by
 intro t
 induction t with
 |nil =>
  intro lo hi a b c h Q g;unfold fm
  cases A:apart lo hi a b
  ·have k:=mc.1 A
   cases z:iK d level .nil c
   ·simp only[Vu,Vv,if_true];exact fun x P s _ _=>G8 z h g x P s
   ·simp only[Vu,Vw,Vx,if_false];exact⟨by omega,by omega,by omega,by omega,IA z (fun _=>rfl) rfl rfl _,fun y _ _ _=>by omega⟩
  ·have k:=sT.1 A;simp only[Vy,if_true];exact fun x _ _ _ _=>by omega
 |node v l r ihl ihr =>
  intro lo hi a b c h Q g;unfold fm
  cases A:apart lo hi a b
  ·have k:=mc.1 A
   cases z:iK d level (.node v l r) c
   ·simp only[Vu,Vv,if_true];exact fun x P s _ _=>G8 z h g x P s
   ·simp only[Vu,Vw,Vx,if_false]
    cases O:isNil l && isNil r
    ·simp only[Vx,if_false]
     have s:2<=hi-lo:=by
      rcases g.2.1 with ⟨E,D⟩|s
      ·simp[E,D] at O
      ·exact s
     have S:lo<aS lo hi/\aS lo hi<hi:=by unfold aS;omega
     have i:=ihl lo (aS lo hi) a b (c+v) S.1 Q g.2.2.1;have q:=ihr (aS lo hi) hi a b (c+v) S.2 Q g.2.2.2
     cases V:fm d level l lo (aS lo hi) a b (c+v) with
     |some x =>
      rw[V] at i;obtain⟨R,L,K,J,I,H⟩:=i;refine⟨R,by omega,K,J,?_,fun y C B m=>?_⟩
      ·show want d level (c+dJ (.node v l r) lo hi x);simp only[dJ];rw[Vb L,<- Vz];exact I
      ·show ¬ want d level (c+dJ (.node v l r) lo hi y);simp only[dJ];rw[Vb UU,<- Vz];exact H y C B m
     |none =>
      rw[V] at i;have i:∀ x,lo<=x->x<aS lo hi->a<=x->x<b->¬ want d level (c+v+dJ l lo (aS lo hi) x):=i
      cases U:fm d level r (aS lo hi) hi a b (c+v) with
      |some x =>
       rw[U] at q;obtain⟨R,L,K,J,I,H⟩:=q;refine⟨by omega,L,K,J,?_,fun y C B m=>?_⟩
       ·show want d level (c+dJ (.node v l r) lo hi x);simp only[dJ];rw[Va UU,<- Vz];exact I
       ·show ¬ want d level (c+dJ (.node v l r) lo hi y);simp only[dJ]
        by_cases j:y<aS lo hi
        ·rw[Vb j,<- Vz];exact i y C j m UU
        ·rw[Va j,<- Vz];exact H y UU B m
      |none =>
       rw[U] at q;have q:∀ x,aS lo hi<=x->x<hi->a<=x->x<b->¬ want d level (c+v+dJ r (aS lo hi) hi x):=q;intro y C B m W;show ¬ want d level (c+dJ (.node v l r) lo hi y);simp only[dJ]
       by_cases j:y<aS lo hi
       ·rw[Vb j,<- Vz];exact i y C j m W
       ·rw[Va j,<- Vz];exact q y UU B m W
    ·simp only[if_true];have E:isNil l=Vg:=by revert O;cases isNil l <;> simp
     have D:isNil r=Vg:=by revert O;cases isNil r <;> simp
     have Z:=tW E;have Y:=tW D;refine⟨by omega,by omega,by omega,by omega,?_,fun y _ _ _=>by omega⟩;exact IA z (fun x=>by simp only[dJ,val,tY E,tY D];split <;> omega) (by simp only[top,val];omega) (by simp only[bot,val];omega) _
  ·have k:=sT.1 A;simp only[Vy,if_true];exact fun x _ _ _ _=>by omega
end aG
def cT(w:Vh):aG.T->Vi->U5 U8->Prop
 |.nil,p,F=>p=.pointer Vd/\F=[]
 |.node a l r,p,F=>∃ (b:U8) (pl pr:U6 Vl) (Fl Fr:U5 U8),p=.pointer (Ve ⟨b,0,Vd⟩)/\w.cell? ⟨b,0,Vd⟩=Ve (.int .i64 a)/\w.cell? ⟨b,1,Vd⟩=Ve (.int .i64 (aG.top (.node a l r)))/\w.cell? ⟨b,2,Vd⟩=Ve (.int .i64 (aG.bot (.node a l r)))/\w.cell? ⟨b,3,Vd⟩=Ve (.pointer pl)/\w.cell? ⟨b,4,Vd⟩=Ve (.pointer pr)/\(∀ o,w.frozen? ⟨b,o,Vd⟩=Vf)/\cT w l (.pointer pl) Fl/\cT w r (.pointer pr) Fr/\F=b :: (Fl++Fr)/\F.Nodup
theorem cT.lt{w:Vh}:∀ {t:aG.T}{p:Vi}{F:U5 U8},cT w t p F->∀ k∈F,k<w.heap.size
 |.nil,p,F,h,k,d=>by rw[h.2] at d;cases d
 |.node a l r,p,F,h,k,d=>by
  obtain⟨b,pl,pr,Fl,Fr,rfl,j,z,y,x,s,q,i,g,rfl,m⟩:=h;rcases VA.1 d with rfl|d
  ·exact Vr _ _ j
  ·rcases VB.1 d with d|d
   ·exact cT.lt i k d
   ·exact cT.lt g k d
theorem cT.off{G:U5 U8}{w w':Vh}(h:aF G w w'):∀ {t:aG.T}{p:Vi}{F:U5 U8},cT w t p F->(∀ k∈F,k ∉ G)->cT w' t p F
 |.nil,p,F,g,_=>g
 |.node a l r,p,F,g,hd=>by
  obtain⟨b,pl,pr,Fl,Fr,rfl,j,A,z,y,x,s,q,g,rfl,m⟩:=g;have d:b ∉ G:=hd b UV;exact⟨b,pl,pr,Fl,Fr,rfl,h.cell d j,h.cell d A,h.cell d z,h.cell d y,h.cell d x,fun o=>(h.frozen d (Vr _ _ j)).trans (s o),cT.off h q (fun k i=>hd k (by simp[i])),cT.off h g (fun k i=>hd k (by simp[i])),rfl,m⟩
theorem cT.same{t:aG.T}(h:cT w t p F)(k:aF [] w w'):cT w' t p F:=h.off k (fun _ _=>by simp)
theorem cT.nodup{t:aG.T}(h:cT w t p F):F.Nodup:=by
 cases t with
 |nil=>rw[h.2];exact VD
 |node a l r=>obtain⟨b,_,_,_,_,_,_,_,_,_,_,_,_,_,_,d⟩:=h;exact d
structure cQ(w:Vh)(b:U8)(c:U9)(l r:aG.T)(pl pr:U6 Vl)(Fl Fr:U5 U8):Prop where
 c0:w.cell? ⟨b,0,Vd⟩=Ve (.int .i64 c)
 c1:∃ x,w.cell? ⟨b,1,Vd⟩=Ve (.int .i64 x)
 c2:∃ x,w.cell? ⟨b,2,Vd⟩=Ve (.int .i64 x)
 c3:w.cell? ⟨b,3,Vd⟩=Ve (.pointer pl)
 c4:w.cell? ⟨b,4,Vd⟩=Ve (.pointer pr)
 fz:∀ o,w.frozen? ⟨b,o,Vd⟩=Vf
 l:cT w l (.pointer pl) Fl
 r:cT w r (.pointer pr) Fr
 nd:(b :: (Fl++Fr)).Nodup
def LB:aG.T->Prop
 |.nil=>True
 |.node a l r=>(-1000000<=a/\a<=1000000)/\(-100000000<=aG.top (.node a l r)/\aG.top (.node a l r)<=100000000)/\(-100000000<=aG.bot (.node a l r)/\aG.bot (.node a l r)<=100000000)/\LB l/\LB r
theorem LB.top{t:aG.T}(h:LB t):-100000000<=aG.top t/\aG.top t<=100000000:=by
 cases t with
 |nil=>simp[aG.top]
 |node a l r=>exact h.2.1
theorem LB.bot{t:aG.T}(h:LB t):-100000000<=aG.bot t/\aG.bot t<=100000000:=by
 cases t with
 |nil=>simp[aG.bot]
 |node a l r=>exact h.2.2.1
theorem LB.val{t:aG.T}(h:LB t):-1000000<=aG.val t/\aG.val t<=1000000:=by
 cases t with
 |nil=>simp[aG.val]
 |node a l r=>exact h.1
theorem LB.fst{t:aG.T}(h:LB t):LB (aG.fst t):=by
 cases t with
 |nil=>trivial
 |node a l r=>exact h.2.2.2.1
theorem LB.snd{t:aG.T}(h:LB t):LB (aG.snd t):=by
 cases t with
 |nil=>trivial
 |node a l r=>exact h.2.2.2.2
theorem LB.mk{l r:aG.T}(h:LB (aG.mk a l r)):(-1000000<=a/\a<=1000000)/\LB l/\LB r:=by
 have i:=h.val;have g:=h.fst;have d:=h.snd;simp at i g d;exact⟨i,g,d⟩
theorem nm(lo hi a b:U9)(w:Vh):
  Vk prog 257 #[.agg #[.int .i64 lo,.int .i64 hi],.agg #[.int .i64 a,.int .i64 b]] w fun e w'=>e=.returned (.bool (aG.apart lo hi a b))/\Vj w.heap.size w w':=by
 by_cases d:hi<=a
 ·go_in
  go_wp2;go_ret;exact⟨oa (by simp[aG.apart,d]),((zr _ _).alloc (zq _) _).alloc UV _⟩
 ·by_cases g:b<=lo
  all_goals
   go_in
   go_wp2;go_ret;exact⟨oa (by simp[aG.apart];omega),((zr _ _).alloc (zq _) _).alloc UV _⟩
theorem uk(lo hi a b:U9)(w:Vh):
  Vk prog 258 #[.agg #[.int .i64 lo,.int .i64 hi],.agg #[.int .i64 a,.int .i64 b]] w fun e w'=>e=.returned (.bool (aG.within lo hi a b))/\Vj w.heap.size w w':=by
 by_cases g:a<=lo
 ·by_cases d:hi<=b
  all_goals
   go_in
   go_wp2;go_ret;exact⟨oa (by simp[aG.within];omega),((zr _ _).alloc (zq _) _).alloc UV _⟩
 ·go_in
  go_wp2;go_ret;exact⟨oa (by simp[aG.within];omega),((zr _ _).alloc (zq _) _).alloc UV _⟩
theorem Qi(w:Vh):
  Vk prog 214 #[.pointer Vd] w fun e w'=>e=.returned (.int .i64 0)/\w'=w:=by
 go_in
 go_wp2;go_ret;exact⟨rfl,rfl⟩
theorem QO(b:U8)(x:U9)(w:Vh)(d:w.cell? ⟨b,1,Vd⟩=Ve (.int .i64 x)):
  Vk prog 214 #[.pointer (Ve ⟨b,0,Vd⟩)] w fun e w'=>e=.returned (.int .i64 x)/\w'=w:=by
 go_in
 go_wp2;go_ret;exact⟨rfl,rfl⟩
theorem vI{t:aG.T}(w:Vh)(h:cT w t (.pointer u) F):
  Vk prog 214 #[.pointer u] w fun e w'=>e=.returned (.int .i64 (aG.top t))/\w'=w:=by
 cases t with
 |nil=>obtain⟨g,_⟩:=h;cases g;exact Qi w
 |node a l r=>obtain⟨b,pl,pr,Fl,Fr,d,j,i,_⟩:=h;cases d;exact QO b _ w i
theorem Qd(w:Vh):
  Vk prog 216 #[.pointer Vd] w fun e w'=>e=.returned (.int .i64 0)/\w'=w:=by
 go_in
 go_wp2;go_ret;exact⟨rfl,rfl⟩
theorem QM(b:U8)(x:U9)(w:Vh)(d:w.cell? ⟨b,2,Vd⟩=Ve (.int .i64 x)):
  Vk prog 216 #[.pointer (Ve ⟨b,0,Vd⟩)] w fun e w'=>e=.returned (.int .i64 x)/\w'=w:=by
 go_in
 go_wp2;go_ret;exact⟨rfl,rfl⟩
theorem vH{t:aG.T}(w:Vh)(h:cT w t (.pointer u) F):
  Vk prog 216 #[.pointer u] w fun e w'=>e=.returned (.int .i64 (aG.bot t))/\w'=w:=by
 cases t with
 |nil=>obtain⟨g,_⟩:=h;cases g;exact Qd w
 |node a l r=>obtain⟨b,pl,pr,Fl,Fr,d,k,j,i,_⟩:=h;cases d;exact QM b _ w i
theorem RF(w:Vh):
  Vk prog 260 #[.pointer Vd] w fun e w'=>e=.returned (.bool Vg)/\w'=w:=by
 go_in
 go_wp2;go_ret;exact⟨rfl,rfl⟩
def sn(pl pr:U6 Vl):U7:=pl.isNone && pr.isNone
theorem Cu(b:U8)(pl pr:U6 Vl)(w:Vh)(g:w.cell? ⟨b,3,Vd⟩=Ve (.pointer pl))(d:w.cell? ⟨b,4,Vd⟩=Ve (.pointer pr)):
  Vk prog 260 #[.pointer (Ve ⟨b,0,Vd⟩)] w fun e w'=>e=.returned (.bool (sn pl pr))/\w'=w:=by
 cases pl with
 |none =>
  cases pr with
  |none =>
   go_in
   go_wp2;go_ret;exact⟨rfl,rfl⟩
  |some q =>
   go_in
   go_wp2;go_ret;exact⟨rfl,rfl⟩
 |some q =>
  go_in
  go_wp2;go_ret;exact⟨rfl,rfl⟩
theorem cT.isNone{t:aG.T}(h:cT w t (.pointer u) F):u.isNone=aG.isNil t:=by
 cases t with
 |nil=>obtain⟨g,_⟩:=h;cases g;rfl
 |node a l r=>obtain⟨b,pl,pr,Fl,Fr,d,_⟩:=h;cases d;rfl
theorem yv(lo hi:U9)(w:Vh)(h:0<=lo)(g:lo<=hi)(d:hi<=2000000):
  Vk prog 259 #[.agg #[.int .i64 lo,.int .i64 hi]] w fun e w'=>e=.returned (.tuple #[.agg #[.int .i64 lo,.int .i64 (aG.aS lo hi)],.agg #[.int .i64 (aG.aS lo hi),.int .i64 hi]])/\Vj w.heap.size w w':=by
 go_in
 go_wp2
 go_region
 all_goals
  go_wp2;refine bodyPost_ret (v:=.tuple #[.agg #[.int .i64 lo,.int .i64 (aG.aS lo hi)],.agg #[.int .i64 (aG.aS lo hi),.int .i64 hi]]) (by simp[results,results259,go_sem,aG.aS]) rfl ⟨rfl,?_⟩;exact ((((zr _ _).alloc (zq _) _).alloc UV _).alloc U0 _).drew
theorem cQ.off{l r:aG.T}(h:cQ w b c l r pl pr Fl Fr)(k:aF G w w')(d:b ∉ G)(i:∀ x∈Fl,x ∉ G)(g:∀ x∈Fr,x ∉ G):cQ w' b c l r pl pr Fl Fr :=
 ⟨k.cell d h.c0,h.c1.imp (fun _=>k.cell d),h.c2.imp (fun _=>k.cell d),k.cell d h.c3,k.cell d h.c4,fun o=>(k.frozen d (Vr _ _ h.c0)).trans (h.fz o),h.l.off k i,h.r.off k g,h.nd⟩
theorem cQ.drew{l r:aG.T}(h:cQ w b c l r pl pr Fl Fr):cQ w.drew b c l r pl pr Fl Fr :=
 h.off (G:=[]) (aF.refl _ _).drew UV UV UV
theorem cQ.out{l r:aG.T}(h:cQ w b c l r pl pr Fl Fr):(∀ x∈Fl,x ∉ [b])/\(∀ x∈Fr,x ∉ [b]):=by
 have d:=h.nd;rw[VE] at d;refine⟨fun x g=>?_,fun x g=>?_⟩ <;> (simp;rintro rfl;exact d.1 (by simp[g]))
theorem cQ.nu{l r:aG.T}(h:cQ w b c l r pl pr Fl Fr)(x:U9):cQ (w.setCell ⟨b,1,Vd⟩ (.int .i64 x)) b c l r pl pr Fl Fr:=by
 obtain⟨g,d⟩:=h.c1;exact⟨(zS _ _ _ _ UV).trans h.c0,⟨x,VF _ _ _ d⟩,h.c2.imp (fun _ e=>(zS _ _ _ _ UV).trans e),(zS _ _ _ _ UV).trans h.c3,(zS _ _ _ _ UV).trans h.c4,fun o=>(zF ..).trans (h.fz o),h.l.off (aF.aY ..) h.out.1,h.r.off (aF.aY ..) h.out.2,h.nd⟩
theorem cQ.nt{l r:aG.T}(h:cQ w b c l r pl pr Fl Fr)(x:U9):cQ (w.setCell ⟨b,2,Vd⟩ (.int .i64 x)) b c l r pl pr Fl Fr:=by
 obtain⟨g,d⟩:=h.c2;exact⟨(zS _ _ _ _ UV).trans h.c0,h.c1.imp (fun _ e=>(zS _ _ _ _ UV).trans e),⟨x,VF _ _ _ d⟩,(zS _ _ _ _ UV).trans h.c3,(zS _ _ _ _ UV).trans h.c4,fun o=>(zF ..).trans (h.fz o),h.l.off (aF.aY ..) h.out.1,h.r.off (aF.aY ..) h.out.2,h.nd⟩
theorem cQ.done{l r:aG.T}(h:cQ w b c l r pl pr Fl Fr)(g:w.cell? ⟨b,1,Vd⟩=Ve (.int .i64 (c+max (aG.top l) (aG.top r)))):
  cT (w.setCell ⟨b,2,Vd⟩ (.int .i64 (c+min (aG.bot l) (aG.bot r)))) (.node c l r) (.pointer (Ve ⟨b,0,Vd⟩)) (b :: (Fl++Fr)):=by
 have k:=h.nt (c+min (aG.bot l) (aG.bot r));obtain⟨i,d⟩:=h.c2;exact⟨b,pl,pr,Fl,Fr,rfl,k.c0,(zS _ _ _ _ UV).trans g,VF _ _ _ d,k.c3,k.c4,k.fz,k.l,k.r,rfl,h.nd⟩
theorem Ty(w:Vh)(b:U8)(l r:aG.T)(pl pr:U6 Vl)(Fl Fr:U5 U8)(h:cQ w b 0 l r pl pr Fl Fr)(g:aG.isNil l=Vg)(d:aG.isNil r=Vg):
  Vk prog 281 #[.pointer (Ve ⟨b,0,Vd⟩)] w fun e w'=>e=.returned (.pointer Vd)/\w'=w:=by
 have j:=h.c0;have i:sn pl pr=Vg:=by rw[sn,h.l.isNone,h.r.isNone,g,d];rfl
 go_in
 go_wp2_with (go_at_call 260;refine (Cu _ pl pr _ h.c3 h.c4).mono ?_;rintro e w' ⟨rfl,rfl⟩)
 go_ret;exact⟨rfl,rfl⟩
theorem qJ{l r:aG.T}(h:cQ w b c l r pl pr Fl Fr):
  w.cell? ⟨b,0,Vd⟩=Ve (.int .i64 c)/\w.cell? ⟨b,3,Vd⟩=Ve (.pointer pl)/\w.cell? ⟨b,4,Vd⟩=Ve (.pointer pr)/\cQ w b c l r pl pr Fl Fr:=⟨h.c0,h.c3,h.c4,h⟩
theorem Ub(w:Vh)(b:U8)(c:U9)(l r:aG.T)(pl pr:U6 Vl)(Fl Fr:U5 U8)(h:cQ w b c l r pl pr Fl Fr)(D:¬ (c=0/\aG.isNil l=Vg/\aG.isNil r=Vg))
  (R:-1000000<=c/\c<=1000000) (E:LB l) (C:LB r):
  Vk prog 281 #[.pointer (Ve ⟨b,0,Vd⟩)] w fun e w'=>e=.returned (.pointer (Ve ⟨b,0,Vd⟩))/\cT w' (.node c l r) (.pointer (Ve ⟨b,0,Vd⟩)) (b :: (Fl++Fr))/\aF [b] w w':=by
 have c0:=h.c0;obtain⟨Q,P⟩:=R;have Z:=E.top;have Y:=C.top;have W:=E.bot;have V:=C.bot
 have A:c=0->sn pl pr=Vf:=by
  rw[sn,h.l.isNone,h.r.isNone]
  cases hx:aG.isNil l <;> cases hy:aG.isNil r <;> simp_all
 have f1:=h.fz 1;have H:=h.fz 2;obtain⟨U,S⟩:=h.c1;obtain⟨B,K⟩:=h.c2
 have J:Vp.wrap (c+if aG.top l<aG.top r then aG.top r else aG.top l)=c+max (aG.top l) (aG.top r):=by
  rw[A0];exact cG UU UU
 have I:Vp.wrap (c+if aG.bot r<aG.bot l then aG.bot r else aG.bot l)=c+min (aG.bot l) (aG.bot r):=by
  rw[Od];exact cG UU UU
 have O:=aC J;have L:=aC I;have q:cQ ((w.setCell ⟨b,1,Vd⟩ (.int .i64 (c+max (aG.top l) (aG.top r)))).drew) b c l r pl pr Fl Fr:=(h.nu _).drew;have m:((w.setCell ⟨b,1,Vd⟩ (.int .i64 (c+max (aG.top l) (aG.top r)))).drew).cell? ⟨b,1,Vd⟩=Ve (.int .i64 (c+max (aG.top l) (aG.top r))):=zm _ _ _ S;have k:aF [b] w ((w.setCell ⟨b,1,Vd⟩ (.int .i64 (c+max (aG.top l) (aG.top r)))).drew):=(aF.aY b w _ _).drew;have y:=aC (zA q (zA m k));clear J I q m k
 by_cases j:c=0
 ·have e2:=A j;have z:(c==0)=Vg:=by simp[j]
  clear D A j
  go_in
  go_wp2_with (go_at_call 260;refine (Cu _ pl pr _ h.c3 h.c4).mono ?_;rintro e w' ⟨rfl,rfl⟩)
  go_region_held3 (fun w'=>w'.cell? ⟨b,0,Vd⟩=Ve (.int .i64 c)/\w'.cell? ⟨b,3,Vd⟩=Ve (.pointer pl)/\w'.cell? ⟨b,4,Vd⟩=Ve (.pointer pr)/\cQ w' b c l r pl pr Fl Fr)
   (first
    |exact qJ (cQ.drew h)
    |exact qJ (cQ.drew (cQ.nu h _)))
   (first
    |(go_at_call_of 214 (VG pl);go_split_ands;refine (vI _ (cQ.l UX)).mono ?_;rintro e w' ⟨rfl,rfl⟩)
    |(go_at_call_of 214 (VG pr);go_split_ands;refine (vI _ (cQ.r UX)).mono ?_;rintro e w' ⟨rfl,rfl⟩))
  rw[O.out,tK];obtain⟨d,x,i⟩:=y.out;clear y;generalize (VH _ ⟨b,1,Vd⟩ (.int .i64 (c+max (aG.top l) (aG.top r)))).drew=X at d x i ⊢;have H:=d.fz 2;obtain⟨B,K⟩:=d.c2
  go_wp2_with fail
  go_region_held3 (fun w'=>w'.cell? ⟨b,0,Vd⟩=Ve (.int .i64 c)/\w'.cell? ⟨b,3,Vd⟩=Ve (.pointer pl)/\w'.cell? ⟨b,4,Vd⟩=Ve (.pointer pr)/\cQ w' b c l r pl pr Fl Fr)
   (first
    |exact qJ (cQ.drew d)
    |exact qJ (cQ.drew (cQ.nt d _)))
   (first
    |(go_at_call_of 216 (VG pl);go_split_ands;refine (vH _ (cQ.l UX)).mono ?_;rintro e w' ⟨rfl,rfl⟩)
    |(go_at_call_of 216 (VG pr);go_split_ands;refine (vH _ (cQ.r UX)).mono ?_;rintro e w' ⟨rfl,rfl⟩))
  rw[L.out,FV];have t:=d.done x;have g:aF [b] _ (VH X ⟨b,2,Vd⟩ (.int .i64 (c+min (aG.bot l) (aG.bot r)))).drew:=(i.setCell (.inl UV) _ _).drew;have s:=aC (zA (t.same (aF.refl _ _).drew) g);clear t g
  go_wp2
  go_ret;exact⟨rfl,s.out.1,s.out.2⟩
 ·have z:(c==0)=Vf:=by simp[j]
  clear D A j
  go_in
  go_wp2_with fail
  go_region_held3 (fun w'=>w'.cell? ⟨b,0,Vd⟩=Ve (.int .i64 c)/\w'.cell? ⟨b,3,Vd⟩=Ve (.pointer pl)/\w'.cell? ⟨b,4,Vd⟩=Ve (.pointer pr)/\cQ w' b c l r pl pr Fl Fr)
   (first
    |exact qJ (cQ.drew h)
    |exact qJ (cQ.drew (cQ.nu h _)))
   (first
    |(go_at_call_of 214 (VG pl);go_split_ands;refine (vI _ (cQ.l UX)).mono ?_;rintro e w' ⟨rfl,rfl⟩)
    |(go_at_call_of 214 (VG pr);go_split_ands;refine (vI _ (cQ.r UX)).mono ?_;rintro e w' ⟨rfl,rfl⟩))
  rw[O.out,tK];obtain⟨d,x,i⟩:=y.out;clear y;generalize (VH _ ⟨b,1,Vd⟩ (.int .i64 (c+max (aG.top l) (aG.top r)))).drew=X at d x i ⊢;have H:=d.fz 2;obtain⟨B,K⟩:=d.c2
  go_wp2_with fail
  go_region_held3 (fun w'=>w'.cell? ⟨b,0,Vd⟩=Ve (.int .i64 c)/\w'.cell? ⟨b,3,Vd⟩=Ve (.pointer pl)/\w'.cell? ⟨b,4,Vd⟩=Ve (.pointer pr)/\cQ w' b c l r pl pr Fl Fr)
   (first
    |exact qJ (cQ.drew d)
    |exact qJ (cQ.drew (cQ.nt d _)))
   (first
    |(go_at_call_of 216 (VG pl);go_split_ands;refine (vH _ (cQ.l UX)).mono ?_;rintro e w' ⟨rfl,rfl⟩)
    |(go_at_call_of 216 (VG pr);go_split_ands;refine (vH _ (cQ.r UX)).mono ?_;rintro e w' ⟨rfl,rfl⟩))
  rw[L.out,FV];have t:=d.done x;have g:aF [b] _ (VH X ⟨b,2,Vd⟩ (.int .i64 (c+min (aG.bot l) (aG.bot r)))).drew:=(i.setCell (.inl UV) _ _).drew;have s:=aC (zA (t.same (aF.refl _ _).drew) g);clear t g
  go_wp2
  go_ret;exact⟨rfl,s.out.1,s.out.2⟩
structure NW(w w1:Vh)(lo hi a b:U9):Prop where
 q0:w1.cell? ⟨w.heap.size,0,Vd⟩=Ve (.int .i64 lo)
 q1:w1.cell? ⟨w.heap.size,1,Vd⟩=Ve (.int .i64 hi)
 q2:w1.cell? ⟨w.heap.size+1,0,Vd⟩=Ve (.int .i64 a)
 q3:w1.cell? ⟨w.heap.size+1,1,Vd⟩=Ve (.int .i64 b)
 sz:w.heap.size+1<w1.heap.size
 bw:Vj w.heap.size w w1
theorem boxes{b:U9}(h:Vj ((w.alloc (.cells #[.int .i64 lo,.int .i64 hi] 60)).alloc (.cells #[.int .i64 a,.int .i64 b] 60)).heap.size ((w.alloc (.cells #[.int .i64 lo,.int .i64 hi] 60)).alloc (.cells #[.int .i64 a,.int .i64 b] 60)) w1):NW w w1 lo hi a b:=by
 have e:((w.alloc (.cells #[.int .i64 lo,.int .i64 hi] 60)).alloc (.cells #[.int .i64 a,.int .i64 b] 60)).heap.size=w.heap.size+2:=UV
 refine⟨(h.cell (p:=⟨w.heap.size,0,Vd⟩) ?_).trans ?_,(h.cell (p:=⟨w.heap.size,1,Vd⟩) ?_).trans ?_,(h.cell (p:=⟨w.heap.size+1,0,Vd⟩) ?_).trans ?_,(h.cell (p:=⟨w.heap.size+1,1,Vd⟩) ?_).trans ?_,?_,?_⟩
 ·rw[e];show w.heap.size<_;omega
 ·simp
 ·rw[e];show w.heap.size<_;omega
 ·simp
 ·rw[e];show w.heap.size+1<_;omega
 ·simp
 ·rw[e];show w.heap.size+1<_;omega
 ·simp
 ·have:=h.size;omega
 ·exact (((zr _ _).alloc (zq _) _).alloc UV _).trans (h.mono UU)
def qH(w:Vh)(F:U5 U8)(d:aG.T)(e:Ending)(w':Vh):Prop :=
 ∃ (u:U6 Vl) (F':U5 U8),e=.returned (.pointer u)/\cT w' d (.pointer u) F'/\(∀ k∈F',k∈F\/w.heap.size<=k)/\aF F w w'
theorem Hu(t:aG.T)(u:U6 Vl)(F:U5 U8)(lo hi a b x:U9)(n:U8)(w:Vh)(h:cT w t (.pointer u) F)(d:aG.apart lo hi a b=Vg):
  Vk prog 261 #[.pointer u,.agg #[.int .i64 lo,.int .i64 hi],.agg #[.int .i64 a,.int .i64 b],.int .i64 x] w (qH w F (aG.fU n t lo hi a b x)):=by
 have e:aG.fU n t lo hi a b x=t:=by unfold aG.fU;rw[Vb d]
 rw[e];clear e
 go_in
 go_wp2_with fail
 refine (nm _ _ _ _ _).mono ?_;rintro e w1 ⟨rfl,g⟩;rw[d];have i:Vj w.heap.size w w1:=(((zr _ _).alloc (zq _) _).alloc UV _).trans (g.mono U0);have j:=aC i;clear i g
 go_wp2
 go_ret;exact⟨u,F,rfl,h.same (aF.aD j.out),fun k l=>.inl l,aF.aD j.out⟩
theorem GH(w:Vh)(c:U9):cQ (w.alloc (.cells #[.int .i64 c,.int .i64 0,.int .i64 0,.pointer Vd,.pointer Vd] 338)) w.heap.size c .nil .nil Vd Vd [] [] :=
 ⟨by simp,⟨0,by simp⟩,⟨0,by simp⟩,by simp,by simp,fun o=>World.frozen?_alloc_new w _ _ o,⟨rfl,rfl⟩,⟨rfl,rfl⟩,by simp⟩
theorem vE{l r:aG.T}(h:cT w (.node c l r) (.pointer u) F):∃ (b:U8)(pl pr:U6 Vl)(Fl Fr:U5 U8),u=Ve ⟨b,0,Vd⟩/\F=b :: (Fl++Fr)/\cQ w b c l r pl pr Fl Fr:=by
 obtain⟨b,pl,pr,Fl,Fr,j,y,x,t,s,q,m,k,i,d,g⟩:=h
 cases j
 exact⟨b,pl,pr,Fl,Fr,rfl,d,y,⟨_,x⟩,⟨_,t⟩,s,q,m,k,i,d ▸ g⟩
theorem yu(w:Vh)(b:U8)(c:U9)(l r:aG.T)(pl pr:U6 Vl)(Fl Fr:U5 U8)(h:cQ w b c l r pl pr Fl Fr)(s:LB (aG.mk c l r)):
  Vk prog 281 #[.pointer (Ve ⟨b,0,Vd⟩)] w fun e w'=>∃ (u:U6 Vl) (F':U5 U8),e=.returned (.pointer u)/\cT w' (aG.mk c l r) (.pointer u) F'/\(∀ k∈F',k∈b :: (Fl++Fr))/\aF [b] w w':=by
 obtain⟨y,x,t⟩:=s.mk
 by_cases d:c=0/\aG.isNil l=Vg/\aG.isNil r=Vg
 ·have e:aG.mk c l r=.nil:=by unfold aG.mk;rw[Vb d]
  rw[e];obtain⟨rfl,i,g⟩:=d;refine (Ty w b l r pl pr Fl Fr h i g).mono ?_;rintro e w' ⟨rfl,rfl⟩;exact⟨Vd,[],rfl,⟨rfl,rfl⟩,by simp,aF.refl _ _⟩
 ·have e:aG.mk c l r=.node c l r:=by unfold aG.mk;rw[Va d]
  rw[e];refine (Ub w b c l r pl pr Fl Fr h d y x t).mono ?_;rintro e w' ⟨rfl,m,j⟩;exact⟨_,_,rfl,m,fun _ q=>q,j⟩
theorem cQ.aY{l r:aG.T}(h:cQ w b c l r pl pr Fl Fr)(x:U9):cQ (w.setCell ⟨b,0,Vd⟩ (.int .i64 x)) b x l r pl pr Fl Fr :=
 ⟨zm _ _ _ h.c0,h.c1.imp (fun _ e=>(zS _ _ _ _ UV).trans e),h.c2.imp (fun _ e=>(zS _ _ _ _ UV).trans e),(zS _ _ _ _ UV).trans h.c3,(zS _ _ _ _ UV).trans h.c4,fun o=>(zF ..).trans (h.fz o),h.l.off (aF.aY ..) h.out.1,h.r.off (aF.aY ..) h.out.2,h.nd⟩
theorem xV{d:aG.T}(r:aF F w w1)(h:∀ k∈G,k∈F\/w.heap.size<=k)(j:b∈G)(q:cT w2 d (.pointer u) F')(m:∀ k∈F',k∈G)(l:aF [b] w1 w2):qH w F d (.returned (.pointer u)) w2 :=
 ⟨u,F',rfl,q,fun k i=>h k (m k i),r.trans' l (fun x g=>by simp at g;subst g;exact h x j)⟩
theorem Is(t:aG.T)(u:U6 Vl)(F:U5 U8)(lo hi a b x:U9)(n:U8)(w:Vh)(h:cT w t (.pointer u) F)(E:aG.apart lo hi a b=Vf)(D:aG.within lo hi a b=Vg)
  (O:-1000000<=x) (L:x<=1000000) (A:LB t) (g:LB (aG.fU n t lo hi a b x)):
  Vk prog 261 #[.pointer u,.agg #[.int .i64 lo,.int .i64 hi],.agg #[.int .i64 a,.int .i64 b],.int .i64 x] w (qH w F (aG.fU n t lo hi a b x)):=by
 have e:aG.fU n t lo hi a b x=aG.mk (aG.val t+x) (aG.fst t) (aG.snd t):=by unfold aG.fU;rw[Va (by simp[E]),Vb D]
 rw[e] at g ⊢;have K:=A.val;clear e A
 cases t with
 |nil =>
  obtain⟨P,rfl⟩:=h
  cases P
  simp only[aG.val,aG.fst,aG.snd,VI] at g K ⊢
  go_in
  go_wp2_with fail
  refine (nm _ _ _ _ _).mono ?_;rintro e w1 ⟨rfl,d⟩;rw[E];have B:=boxes d;have ⟨q0,q1,q2,q3,hs,hB⟩:=B;have C:=aC hB;have j:w.heap.size<w1.heap.size:=UU
  clear hB d B
  go_wp2_with fail
  refine (uk _ _ _ _ _).mono ?_;rintro e w2 ⟨rfl,d⟩;rw[D];have i:=(GH w1 0).off (G:=[]) (aF.aD d) UV UV UV;have z:aF [] w w2:=(((aF.aD C.out).alloc _).trans (aF.aD d));have U:w.heap.size<=w1.heap.size:=UU
  have m:∀ k∈w1.heap.size :: ([]++[]),k∈([]:U5 U8)\/w.heap.size<=k:=by simp;omega
  have I:=i.c0;have H:=i.fz 0;clear d q0 q1 q2 q3 hs j
  go_wp2_with fail
  refine (yu _ _ _ _ _ _ _ _ _ (i.aY _) g).mono ?_;rintro e w3 ⟨u3,S,rfl,y,s,q⟩;have J:=aC (xV (z.setCell (m _ UV) _ _) m UV y s q);clear y s q i z m I H
  go_wp2
  go_ret;exact J.out
 |node c l r =>
  obtain⟨bk,pl,pr,Fl,Fr,rfl,rfl,R⟩:=vE h;simp only[aG.val,aG.fst,aG.snd] at g K ⊢
  go_in
  go_wp2_with fail
  refine (nm _ _ _ _ _).mono ?_;rintro e w1 ⟨rfl,d⟩;rw[E];have B:=boxes d;have ⟨q0,q1,q2,q3,hs,hB⟩:=B;have C:=aC hB;have j:w.heap.size<w1.heap.size:=UU
  clear hB d B
  go_wp2_with fail
  refine (uk _ _ _ _ _).mono ?_;rintro e w2 ⟨rfl,d⟩;rw[D];have i:=R.off (G:=[]) ((aF.aD C.out).trans (aF.aD d)) UV UV UV;have z:aF (bk :: (Fl++Fr)) w w2:=(aF.aD C.out).trans (aF.aD d);have m:∀ k∈bk :: (Fl++Fr),k∈bk :: (Fl++Fr)\/w.heap.size<=k:=fun _ Q=>.inl Q
  have I:=i.c0;have H:=i.fz 0;clear d q0 q1 q2 q3 hs j
  go_wp2_with fail
  refine (yu _ _ _ _ _ _ _ _ _ (i.aY _) g).mono ?_;rintro e w3 ⟨u3,S,rfl,y,s,q⟩;have J:=aC (xV (z.setCell (m _ UV) _ _) m UV y s q);clear y s q i z m I H
  go_wp2
  go_ret;exact J.out
theorem cQ.lt{l r:aG.T}(h:cQ w b c l r pl pr Fl Fr):∀ k∈b :: (Fl++Fr),k<w.heap.size:=by
 intro k d;rcases VA.1 d with rfl|d
 ·exact Vr _ _ h.c0
 ·rcases VB.1 d with d|d
  ·exact h.l.lt k d
  ·exact h.r.lt k d
theorem cQ.iA{l r:aG.T}(h:cQ w b c l r pl pr Fl Fr):b ∉ Fl/\b ∉ Fr/\(∀ x∈Fr,x ∉ Fl)/\Fl.Nodup/\Fr.Nodup:=by
 have d:=h.nd;rw[VE,VJ] at d;obtain⟨g,k,j,i⟩:=d;exact⟨fun e=>g (by simp[e]),fun e=>g (by simp[e]),fun x q m=>i x m x q rfl,k,j⟩
theorem cQ.jV{l r z:aG.T}(h:cQ X b c l r pl pr Fl Fr)(B:cT w4 z (.pointer u) F')(A:∀ k∈F',k∈Fl\/X.heap.size<=k)(i:aF Fl X w4):
  cQ (w4.setCell ⟨b,3,Vd⟩ (.pointer u)) b c z r u pr F' Fr:=by
 obtain⟨g,t,s,J,E⟩:=h.iA;have j:=h.lt;have C:b ∉ F':=fun e=>by rcases A b e with m|m;exact g m;have:=j b UV;omega
 have I:∀ x∈Fr,x ∉ F':=fun x d e=>by rcases A x e with m|m;exact s x d m;have:=j x (by simp[d]);omega
 have D:=aF.aY b w4 3 (.pointer u);have q:=h.r.off i s
 exact⟨(zS _ _ _ _ UV).trans (i.cell g h.c0),h.c1.imp (fun _ e=>(zS _ _ _ _ UV).trans (i.cell g e)),h.c2.imp (fun _ e=>(zS _ _ _ _ UV).trans (i.cell g e)),VF _ _ _ (i.cell g h.c3),(zS _ _ _ _ UV).trans (i.cell g h.c4),
  fun o=>(zF ..).trans ((i.frozen g (j b UV)).trans (h.fz o)),B.off D (fun x d=>by simp;rintro rfl;exact C d),q.off D (fun x d=>by simp;rintro rfl;exact t d),
  VE.2 ⟨by simp;exact⟨C,t⟩,VJ.2 ⟨B.nodup,E,fun x d y H e=>I y H (e ▸ d)⟩⟩⟩
theorem cQ.jf{l r s:aG.T}(h:cQ X b c l r pl pr Fl Fr)(B:cT w4 s (.pointer u) F')(A:∀ k∈F',k∈Fr\/X.heap.size<=k)(i:aF Fr X w4):
  cQ (w4.setCell ⟨b,4,Vd⟩ (.pointer u)) b c l s pl u Fl F':=by
 obtain⟨z,g,t,E,J⟩:=h.iA;have j:=h.lt;have C:b ∉ F':=fun e=>by rcases A b e with m|m;exact g m;have:=j b UV;omega
 have I:∀ x∈Fl,x ∉ F':=fun x d e=>by rcases A x e with m|m;exact t x m d;have:=j x (by simp[d]);omega
 have D:=aF.aY b w4 4 (.pointer u);have q:=h.l.off i (fun x d e=>t x e d)
 exact⟨(zS _ _ _ _ UV).trans (i.cell g h.c0),h.c1.imp (fun _ e=>(zS _ _ _ _ UV).trans (i.cell g e)),h.c2.imp (fun _ e=>(zS _ _ _ _ UV).trans (i.cell g e)),(zS _ _ _ _ UV).trans (i.cell g h.c3),VF _ _ _ (i.cell g h.c4),
  fun o=>(zF ..).trans ((i.frozen g (j b UV)).trans (h.fz o)),q.off D (fun x d=>by simp;rintro rfl;exact z d),B.off D (fun x d=>by simp;rintro rfl;exact C d),
  VE.2 ⟨by simp;exact⟨z,C⟩,VJ.2 ⟨E,B.nodup,fun x d y H e=>I x d (e ▸ H)⟩⟩⟩
structure mL(w X:Vh)(F:U5 U8)(bk M:U8)(c lo hi a b:U9)(l r:aG.T)(pl pr:U6 Vl)(Fl Fr:U5 U8):Prop where
 half:cQ X bk c l r pl pr Fl Fr
 off:aF F w X
 own:∀ k∈bk :: (Fl++Fr),k∈F\/w.heap.size<=k
 a0:X.cell? ⟨w.heap.size+1,0,Vd⟩=Ve (.int .i64 a)
 a1:X.cell? ⟨w.heap.size+1,1,Vd⟩=Ve (.int .i64 b)
 m0:X.cell? ⟨M,0,Vd⟩=Ve (.int .i64 lo)
 m1:X.cell? ⟨M,1,Vd⟩=Ve (.int .i64 (aG.aS lo hi))
 n0:X.cell? ⟨M+1,0,Vd⟩=Ve (.int .i64 (aG.aS lo hi))
 n1:X.cell? ⟨M+1,1,Vd⟩=Ve (.int .i64 hi)
 out:w.heap.size+1 ∉ bk :: (Fl++Fr)/\M ∉ bk :: (Fl++Fr)/\M+1 ∉ bk :: (Fl++Fr)
def FQ(n:U8):Prop:=∀ (t:aG.T)(u:U6 Vl)(F:U5 U8)(lo hi a b x:U9)(w:Vh),cT w t (.pointer u) F->0<=lo->lo<hi->hi<=2000000->hi-lo<=2 ^ n->a<b->-1000000<=x->x<=1000000->LB t->LB (aG.fU n t lo hi a b x) ->
  Vk prog 261 #[.pointer u,.agg #[.int .i64 lo,.int .i64 hi],.agg #[.int .i64 a,.int .i64 b],.int .i64 x] w (qH w F (aG.fU n t lo hi a b x))
theorem mL.drew{b:U9}{l r:aG.T}(h:mL w X F bk M c lo hi a b l r pl pr Fl Fr):mL w X.drew F bk M c lo hi a b l r pl pr Fl Fr :=
 ⟨h.half.drew,h.off.drew,h.own,h.a0,h.a1,h.m0,h.m1,h.n0,h.n1,h.out⟩
theorem mL.jV{b:U9}{l r t:aG.T}(h:mL w X F bk M c lo hi a b l r pl pr Fl Fr)(D:cT w4 t (.pointer u) F')(z:∀ k∈F',k∈Fl\/X.heap.size<=k)(y:aF Fl X w4):
  mL w (w4.setCell ⟨bk,3,Vd⟩ (.pointer u)) F bk M c lo hi a b t r u pr F' Fr:=by
 obtain⟨s,q,m⟩:=h.out;have C:=Vr _ _ h.a0;have B:=Vr _ _ h.m0;have A:=Vr _ _ h.n0;have H:=h.off.size;have j:aF (bk :: (Fl++Fr)) X (w4.setCell ⟨bk,3,Vd⟩ (.pointer u)):=(y.mono (by intro x E;simp[E])).setCell (.inl UV) _ _
 have i:∀ k∈bk :: (F'++Fr),k∈bk :: (Fl++Fr)\/X.heap.size<=k:=by
  intro k g;rcases VA.1 g with rfl|g
  ·exact .inl UV
  ·rcases VB.1 g with g|g
   ·rcases z k g with d|d
    ·exact .inl (by simp[d])
    ·exact .inr d
   ·exact .inl (by simp[g])
 have I:=h.half.jV D z y;refine⟨I,h.off.trans' j h.own,fun k g=>?_,j.cell s h.a0,j.cell s h.a1,j.cell q h.m0,j.cell q h.m1,j.cell m h.n0,j.cell m h.n1,?_,?_,?_⟩
 ·rcases i k g with d|d
  ·exact h.own k d
  ·exact .inr UU
 ·intro e;rcases i _ e with d|d
  ·exact s d
  ·simp at C;omega
 ·intro e;rcases i _ e with d|d
  ·exact q d
  ·simp at B;omega
 ·intro e;rcases i _ e with d|d
  ·exact m d
  ·simp at A;omega
theorem mL.jf{b:U9}{l r g:aG.T}(h:mL w X F bk M c lo hi a b l r pl pr Fl Fr)(s:cT w4 g (.pointer u) F')(j:∀ k∈F',k∈Fr\/X.heap.size<=k)(i:aF Fr X w4):
  cQ (w4.setCell ⟨bk,4,Vd⟩ (.pointer u)) bk c l g pl u Fl F'/\aF F w (w4.setCell ⟨bk,4,Vd⟩ (.pointer u))/\∀ k∈bk :: (Fl++F'),k∈F\/w.heap.size<=k:=by
 have y:=h.off.size;have q:aF (bk :: (Fl++Fr)) X (w4.setCell ⟨bk,4,Vd⟩ (.pointer u)):=(i.mono (by intro x t;simp[t])).setCell (.inl UV) _ _;refine⟨h.half.jf s j i,h.off.trans' q h.own,fun k d=>?_⟩;rcases VA.1 d with rfl|d
 ·exact h.own k UV
 ·rcases VB.1 d with d|d
  ·exact h.own k (by simp[d])
  ·rcases j k d with m|m
   ·exact h.own k (by simp[m])
   ·exact .inr UU
theorem I6{w3:Vh}{b:U9}{l r:aG.T}(i:cQ w2 bk c l r pl pr Fl Fr)(s:aF F w w2)(t:∀ k∈bk :: (Fl++Fr),k∈F\/w.heap.size<=k)(m:w2.cell? ⟨w.heap.size+1,0,Vd⟩=Ve (.int .i64 a))(j:w2.cell? ⟨w.heap.size+1,1,Vd⟩=Ve (.int .i64 b))(g:w.heap.size+1 ∉ bk :: (Fl++Fr))(h:Vj w2.heap.size w2 w3):
  mL w ((w3.alloc (.cells #[.int .i64 lo,.int .i64 (aG.aS lo hi)] 60)).alloc (.cells #[.int .i64 (aG.aS lo hi),.int .i64 hi] 60)) F bk w3.heap.size c lo hi a b l r pl pr Fl Fr:=by
 have k:aF [] w2 ((w3.alloc (.cells #[.int .i64 lo,.int .i64 (aG.aS lo hi)] 60)).alloc (.cells #[.int .i64 (aG.aS lo hi),.int .i64 hi] 60)):=((aF.aD h).alloc _).alloc _;have d:=i.lt;have q:=h.size;refine⟨i.off k UV UV UV,s.trans' k UV,t,k.cell UV m,k.cell UV j,by simp,by simp,by simp,by simp,g,fun e=>?_,fun e=>?_⟩
 ·have:=d _ e;omega
 ·have:=d _ e;omega
theorem QK(n:U8)(ih:Hid (FQ n))(t:aG.T)(u:U6 Vl)(F:U5 U8)(lo hi a b x:U9)(w:Vh)(h:cT w t (.pointer u) F)(hp:aG.apart lo hi a b=Vf)(hw:aG.within lo hi a b=Vf)
  (h0:0<=lo) (h1:lo<hi) (h2:hi<=2000000) (h3:hi-lo<=2 ^ (n+1)) (h4:a<b)
  (aa:-1000000<=x) (Z:x<=1000000) (H:LB t) (z:LB (aG.fU (n+1) t lo hi a b x)):
  Vk prog 261 #[.pointer u,.agg #[.int .i64 lo,.int .i64 hi],.agg #[.int .i64 a,.int .i64 b],.int .i64 x] w (qH w F (aG.fU (n+1) t lo hi a b x)):=by
 have e:aG.fU (n+1) t lo hi a b x=aG.mk (aG.val t) (aG.fU n (aG.fst t) lo (aG.aS lo hi) a b x) (aG.fU n (aG.snd t) (aG.aS lo hi) hi a b x):=by rw[aG.fU];rw[Va (by simp[hp]),Va (by simp[hw])]
 rw[e] at z ⊢;obtain⟨_,ad,ac⟩:=z.mk;have hl:=H.fst;have hr:=H.snd;have g1:=aG.mc.1 hp;have g2:=aG.v7.1 hw;have hm:lo<aG.aS lo hi/\aG.aS lo hi<hi:=by unfold aG.aS;omega
 have E:=aG.BH h3
 have Q:Hid (∀ (w:Vh) (u:U6 Vl) (F:U5 U8),cT w (aG.fst t) (.pointer u) F->Vk prog 261 #[.pointer u,.agg #[.int .i64 lo,.int .i64 (aG.aS lo hi)],.agg #[.int .i64 a,.int .i64 b],.int .i64 x] w (qH w F (aG.fU n (aG.fst t) lo (aG.aS lo hi) a b x))) :=
  fun w u F k=>ih.out _ _ _ _ _ _ _ _ _ k h0 hm.1 UU E.1 h4 aa Z hl ad
 have P:Hid (∀ (w:Vh) (u:U6 Vl) (F:U5 U8),cT w (aG.snd t) (.pointer u) F->Vk prog 261 #[.pointer u,.agg #[.int .i64 (aG.aS lo hi),.int .i64 hi],.agg #[.int .i64 a,.int .i64 b],.int .i64 x] w (qH w F (aG.fU n (aG.snd t) (aG.aS lo hi) hi a b x))) :=
  fun w u F k=>ih.out _ _ _ _ _ _ _ _ _ k UU hm.2 h2 E.2 h4 aa Z hr ac
 have A:=aC z;clear e ad ac hl hr g1 g2 hm E h3 ih H z;generalize aG.fU n (aG.fst t) lo (aG.aS lo hi) a b x=tl at *;generalize aG.fU n (aG.snd t) (aG.aS lo hi) hi a b x=tr at *
 cases t with
 |nil =>
  obtain⟨hu,rfl⟩:=h
  cases hu
  simp only[aG.val,aG.fst,aG.snd] at A Q P ⊢
  go_in
  go_wp2_with fail
  refine (nm _ _ _ _ _).mono ?_;rintro e w1 ⟨rfl,g⟩;rw[hp];have bx:=boxes g;have ⟨q0,q1,q2,q3,hs,hB⟩:=bx;have R:=aC hB;have D:w.heap.size<w1.heap.size:=UU
  clear hB g bx
  go_wp2_with fail
  refine (uk _ _ _ _ _).mono ?_;rintro e w2 ⟨rfl,g⟩;rw[hw];obtain⟨bk,ab⟩:∃ bk,bk=w1.heap.size:=⟨_,rfl⟩;have O:=(GH w1 0).off (G:=[]) (aF.aD g) UV UV UV;have hO:aF [] w w2:=(((aF.aD R.out).alloc _).trans (aF.aD g));have hG:∀ k∈bk :: ([]++[]),k∈([]:U5 U8)\/w.heap.size<=k:=by simp;omega
  have s:w.heap.size+1 ∉ bk :: ([]++[]):=by simp;omega
  have m:aF [] w1 w2:=((aF.refl [] w1).alloc _).trans (aF.aD g);have r0:w2.cell? ⟨w.heap.size,0,Vd⟩=Ve (.int .i64 lo):=m.cell UV q0;have r1:w2.cell? ⟨w.heap.size,1,Vd⟩=Ve (.int .i64 hi):=m.cell UV q1;have U:w2.cell? ⟨w.heap.size+1,0,Vd⟩=Ve (.int .i64 a):=m.cell UV q2;have S:w2.cell? ⟨w.heap.size+1,1,Vd⟩=Ve (.int .i64 b):=m.cell UV q3;have C:w.heap.size+1<w2.heap.size:=zL hs m.size;rw[<- ab] at O ⊢;clear g q0 q1 q2 q3 hs D R m ab
  go_wp2_with fail
  refine (yv _ _ _ UU UU UU).mono ?_;rintro e w3 ⟨rfl,g⟩;have d:mL w _ _ _ _ 0 lo hi a b _ _ _ _ _ _:=I6 (w3:=w3) O hO hG U S s g;clear g O hO hG r0 r1 U S s C
  go_upto_region 8 with fail
  generalize (VK _ (.cells #[.int .i64 (aG.aS lo hi),.int .i64 hi] 60))=X at d ⊢;generalize w3.heap.size=M at d ⊢
  go_cut [43] from 35 to 45 (fun _ wx=>∃ (u4:U6 Vl) (y:U5 U8),mL w wx ([]:U5 U8) bk M 0 lo hi a b tl .nil u4 Vd y [])
  case first =>
   have L:=d.half.c3;have J:=d.half.fz 3;have a0:=d.a0;have a1:=d.a1;have m0:=d.m0;have m1:=d.m1
   go_region_with (first
    |(go_at_call 261;refine (Q.out _ _ _ d.half.drew.l).mono ?_;rintro e w4 ⟨u4,y,rfl,m,q,j⟩;have K:=j.cell d.half.iA.1 L;have I:=(j.frozen (o:=3) d.half.iA.1 (d.half.lt _ UV)).trans J))
   all_goals
    go_wp2
    go_meet
    exact⟨_,_,d.drew.jV m q j⟩
  case rest =>
   obtain⟨u4,y,i⟩:=hcut;clear d
   go_upto_region 9 with fail
   go_cut [54] from 46 to 56 (fun _ wx=>∃ (u5:U6 Vl) (B:U5 U8),cQ wx bk 0 tl tr u4 u5 y B/\aF ([]:U5 U8) w wx/\∀ k∈bk :: (y++B),k∈([]:U5 U8)\/w.heap.size<=k)
   case first =>
    have L:=i.half.c4;have J:=i.half.fz 4;have a0:=i.a0;have a1:=i.a1;have m0:=i.n0;have m1:=i.n1
    go_region_with (first
     |(go_at_call 261;refine (P.out _ _ _ i.half.drew.r).mono ?_;rintro e w5 ⟨u5,B,rfl,m,q,j⟩;have K:=j.cell i.half.iA.2.1 L;have I:=(j.frozen (o:=4) i.half.iA.2.1 (i.half.lt _ UV)).trans J))
    all_goals
     go_wp2
     go_meet
     exact⟨_,_,i.drew.jf m q j⟩
   case rest =>
    obtain⟨u5,B,m,q,j⟩:=hcut;clear i Q P
    go_wp2_with fail
    refine (yu _ _ _ _ _ _ _ _ _ m A.out).mono ?_;rintro e w6 ⟨u6,F6,rfl,Y,W,V⟩;have HK:=aC (xV q j UV Y W V);clear m q j Y W V
    go_wp2
    go_ret;exact HK.out
 |node c l r =>
  obtain⟨bk,pl,pr,Fl,Fr,rfl,rfl,E⟩:=vE h;simp only[aG.val,aG.fst,aG.snd] at A Q P ⊢
  go_in
  go_wp2_with fail
  refine (nm _ _ _ _ _).mono ?_;rintro e w1 ⟨rfl,g⟩;rw[hp];have bx:=boxes g;have ⟨q0,q1,q2,q3,hs,hB⟩:=bx;have R:=aC hB;have D:w.heap.size<w1.heap.size:=UU
  clear hB g bx
  go_wp2_with fail
  refine (uk _ _ _ _ _).mono ?_;rintro e w2 ⟨rfl,g⟩;rw[hw];have O:=E.off (G:=[]) ((aF.aD R.out).trans (aF.aD g)) UV UV UV;have hO:aF (bk :: (Fl++Fr)) w w2:=(aF.aD R.out).trans (aF.aD g);have hG:∀ k∈bk :: (Fl++Fr),k∈bk :: (Fl++Fr)\/w.heap.size<=k:=fun _ hk=>.inl hk
  have s:w.heap.size+1 ∉ bk :: (Fl++Fr):=fun e=>by have:=E.lt _ e;omega
  have r0:w2.cell? ⟨w.heap.size,0,Vd⟩=Ve (.int .i64 lo):=aN g q0;have r1:w2.cell? ⟨w.heap.size,1,Vd⟩=Ve (.int .i64 hi):=aN g q1;have U:w2.cell? ⟨w.heap.size+1,0,Vd⟩=Ve (.int .i64 a):=aN g q2;have S:w2.cell? ⟨w.heap.size+1,1,Vd⟩=Ve (.int .i64 b):=aN g q3;have C:w.heap.size+1<w2.heap.size:=zL hs g.size;clear g q0 q1 q2 q3 hs D R h E
  go_wp2_with fail
  refine (yv _ _ _ UU UU UU).mono ?_;rintro e w3 ⟨rfl,g⟩;have d:mL w _ _ _ _ c lo hi a b _ _ _ _ _ _:=I6 (w3:=w3) O hO hG U S s g;clear g O hO hG r0 r1 U S s C
  go_upto_region 8 with fail
  generalize (VK _ (.cells #[.int .i64 (aG.aS lo hi),.int .i64 hi] 60))=X at d ⊢;generalize w3.heap.size=M at d ⊢
  go_cut [43] from 35 to 45 (fun _ wx=>∃ (u4:U6 Vl) (y:U5 U8),mL w wx (bk :: (Fl++Fr)) bk M c lo hi a b tl r u4 pr y Fr)
  case first =>
   have L:=d.half.c3;have J:=d.half.fz 3;have a0:=d.a0;have a1:=d.a1;have m0:=d.m0;have m1:=d.m1
   go_region_with (first
    |(go_at_call 261;refine (Q.out _ _ _ d.half.drew.l).mono ?_;rintro e w4 ⟨u4,y,rfl,m,q,j⟩;have K:=j.cell d.half.iA.1 L;have I:=(j.frozen (o:=3) d.half.iA.1 (d.half.lt _ UV)).trans J))
   all_goals
    go_wp2
    go_meet
    exact⟨_,_,d.drew.jV m q j⟩
  case rest =>
   obtain⟨u4,y,i⟩:=hcut;clear d
   go_upto_region 9 with fail
   go_cut [54] from 46 to 56 (fun _ wx=>∃ (u5:U6 Vl) (B:U5 U8),cQ wx bk c tl tr u4 u5 y B/\aF (bk :: (Fl++Fr)) w wx/\∀ k∈bk :: (y++B),k∈(bk :: (Fl++Fr))\/w.heap.size<=k)
   case first =>
    have L:=i.half.c4;have J:=i.half.fz 4;have a0:=i.a0;have a1:=i.a1;have m0:=i.n0;have m1:=i.n1
    go_region_with (first
     |(go_at_call 261;refine (P.out _ _ _ i.half.drew.r).mono ?_;rintro e w5 ⟨u5,B,rfl,m,q,j⟩;have K:=j.cell i.half.iA.2.1 L;have I:=(j.frozen (o:=4) i.half.iA.2.1 (i.half.lt _ UV)).trans J))
    all_goals
     go_wp2
     go_meet
     exact⟨_,_,i.drew.jf m q j⟩
   case rest =>
    obtain⟨u5,B,m,q,j⟩:=hcut;clear i Q P
    go_wp2_with fail
    refine (yu _ _ _ _ _ _ _ _ _ m A.out).mono ?_;rintro e w6 ⟨u6,F6,rfl,Y,W,V⟩;have HK:=aC (xV q j UV Y W V);clear m q j Y W V
    go_wp2
    go_ret;exact HK.out
theorem OT:∀ n,FQ n:=by
 intro n
 induction n with
 |zero =>
  intro t u F lo hi a b x w h z y s m r i d k j;have m:hi-lo<=1:=by simpa using m
  cases l:aG.apart lo hi a b
  ·have g:=aG.mc.1 l;exact Is t u F lo hi a b x 0 w h l (aG.ui.2 UU) i d k j
  ·exact Hu t u F lo hi a b x 0 w h l
 |succ n ih =>
  intro t u F lo hi a b x w h z y s m r i d k j
  cases l:aG.apart lo hi a b
  ·cases q:aG.within lo hi a b
   ·exact QK n ih t u F lo hi a b x w h l q z y s m r i d k j
   ·exact Is t u F lo hi a b x _ w h l q i d k j
  ·exact Hu t u F lo hi a b x _ w h l
theorem cT.later{t:aG.T}(h:cT w t p F)(k:Vj w.heap.size w w'):cT w' t p F:=h.same (aF.aD k)
theorem Qm(lo hi a b:U9)(w:Vh):
  Vk prog 211 #[.pointer Vd,.agg #[.int .i64 lo,.int .i64 hi],.agg #[.int .i64 a,.int .i64 b]] w fun e w'=>e=.returned (.int .i64 0)/\Vj w.heap.size w w':=by
 go_in
 go_wp2
 go_ret;exact⟨rfl,((zr _ _).alloc (zq _) _).alloc UV _⟩
def MS(X w':Vh)(bk N M:U8)(c lo hi a b:U9)(pl pr:U6 Vl):Prop :=
 w'.cell? ⟨bk,0,Vd⟩=Ve (.int .i64 c)/\w'.cell? ⟨bk,3,Vd⟩=Ve (.pointer pl)/\w'.cell? ⟨bk,4,Vd⟩=Ve (.pointer pr)/\w'.cell? ⟨N,0,Vd⟩=Ve (.int .i64 a)/\w'.cell? ⟨N,1,Vd⟩=Ve (.int .i64 b)/\w'.cell? ⟨M,0,Vd⟩=Ve (.int .i64 lo)/\w'.cell? ⟨M,1,Vd⟩=Ve (.int .i64 (aG.aS lo hi))/\w'.cell? ⟨M+1,0,Vd⟩=Ve (.int .i64 (aG.aS lo hi))/\w'.cell? ⟨M+1,1,Vd⟩=Ve (.int .i64 hi)/\Vj X.heap.size X w'
theorem MS.later{b:U9}(h:MS X w' bk N M c lo hi a b pl pr)(k:Vj w'.heap.size w' w''):MS X w'' bk N M c lo hi a b pl pr:=by
 obtain⟨t,s,r,q,m,l,j,i,g,d⟩:=h;exact⟨aN k t,aN k s,aN k r,aN k q,aN k m,aN k l,aN k j,aN k i,aN k g,bA d k (zq _)⟩
theorem GP{t:aG.T}{b:U9}(g:aG.Good t lo hi)(k:LB t)(h:lo<hi)(l:a<b):0<=aG.fF t lo hi a b/\aG.fF t lo hi a b<=100000000:=by
 have:=k.top
 cases d:aG.apart lo hi a b
 ·obtain⟨q,_,x,j,i,_,_,m⟩:=aG.GQ t lo hi a b h l g d;have:=(aG.vC t lo hi h g).1 x j i;omega
 ·rw[aG.yr d];omega
theorem Ql:∀ (t:aG.T)(u:U6 Vl)(F:U5 U8)(lo hi a b:U9)(w:Vh),cT w t (.pointer u) F->LB t->aG.Good t lo hi->0<=lo->lo<hi->hi<=2000000->a<b ->
  Vk prog 211 #[.pointer u,.agg #[.int .i64 lo,.int .i64 hi],.agg #[.int .i64 a,.int .i64 b]] w fun e w'=>e=.returned (.int .i64 (aG.fF t lo hi a b))/\Vj w.heap.size w w':=by
 intro t
 induction t with
 |nil =>
  intro u F lo hi a b w h _ _ _ _ _ _;obtain⟨hu,_⟩:=h
  cases hu
  exact Qm lo hi a b w
 |node c l r ihl ihr =>
  intro u F lo hi a b w h g A h0 h1 h2 J;obtain⟨bk,pl,pr,Fl,Fr,rfl,rfl,s⟩:=vE h;have E:=aC ihl;have D:=aC ihr;clear ihl ihr
  have x:w.cell? ⟨bk,1,Vd⟩=Ve (.int .i64 (aG.top (.node c l r))):=by
   obtain⟨b',_,_,_,_,i,_,x,_⟩:=h;cases i;exact x
  clear h
  cases i:aG.apart lo hi a b
  ·cases z:aG.within lo hi a b
   ·have m:aG.fF (.node c l r) lo hi a b=c+max (aG.fF l lo (aG.aS lo hi) a b) (aG.fF r (aG.aS lo hi) hi a b):=by simp[aG.fF,i,z]
    have g1:=aG.mc.1 i;have g2:=aG.v7.1 z;have I:lo<aG.aS lo hi/\aG.aS lo hi<hi:=by unfold aG.aS;omega
    have bl:=GP (a:=a) (b:=b) A.2.2.1 g.2.2.2.1 I.1 J;have br:=GP (a:=a) (b:=b) A.2.2.2 g.2.2.2.2 I.2 J;have hc:=g.1
    have I1:Hid (∀ (w:Vh),cT w l (.pointer pl) Fl->Vk prog 211 #[.pointer pl,.agg #[.int .i64 lo,.int .i64 (aG.aS lo hi)],.agg #[.int .i64 a,.int .i64 b]] w fun e w'=>e=.returned (.int .i64 (aG.fF l lo (aG.aS lo hi) a b))/\Vj w.heap.size w w') :=
     fun w k=>E.out _ _ _ _ _ _ _ k g.2.2.2.1 A.2.2.1 h0 I.1 UU J
    have I2:Hid (∀ (w:Vh),cT w r (.pointer pr) Fr->Vk prog 211 #[.pointer pr,.agg #[.int .i64 (aG.aS lo hi),.int .i64 hi],.agg #[.int .i64 a,.int .i64 b]] w fun e w'=>e=.returned (.int .i64 (aG.fF r (aG.aS lo hi) hi a b))/\Vj w.heap.size w w') :=
     fun w k=>D.out _ _ _ _ _ _ _ k g.2.2.2.2 A.2.2.2 UU I.2 h2 J
    rw[m];clear m E D g1 g2 A g x;generalize aG.fF l lo (aG.aS lo hi) a b=ml at *;generalize aG.fF r (aG.aS lo hi) hi a b=mr at *;have c0:=s.c0;have Z:=s.c3;have Y:=s.c4;have RL:=aC s.l;have RR:=aC s.r;clear s;have O:Vp.wrap (c+if ml<mr then mr else ml)=c+max ml mr:=by rw[A0];exact cG UU UU
    have E5:=aC O;clear O
    go_in
    go_wp2_with fail
    refine (nm _ _ _ _ _).mono ?_;rintro e w1 ⟨rfl,d⟩;rw[i];have ⟨q0,q1,q2,q3,hs,g⟩:=boxes d;have W:=aN g c0;have U:=aN g Z;have S:=aN g Y;have q:=aC g;clear g d c0 Z Y
    go_wp2_with fail
    refine (uk _ _ _ _ _).mono ?_;rintro e w2 ⟨rfl,d⟩;rw[z];have y:=aC (bA q.out d (zq _));have r0:w2.cell? ⟨w.heap.size,0,Vd⟩=Ve (.int .i64 lo):=aN d q0;have r1:w2.cell? ⟨w.heap.size,1,Vd⟩=Ve (.int .i64 hi):=aN d q1;have L:w2.cell? ⟨w.heap.size+1,0,Vd⟩=Ve (.int .i64 a):=aN d q2;have K:w2.cell? ⟨w.heap.size+1,1,Vd⟩=Ve (.int .i64 b):=aN d q3;have R:=aN d W;have Q:=aN d U;have P:=aN d S;clear q d q0 q1 q2 q3 hs W U S
    go_wp2_with fail
    refine (yv _ _ _ UU UU UU).mono ?_;rintro e w3 ⟨rfl,d⟩;have j:Vj w2.heap.size w2 ((w3.alloc (.cells #[.int .i64 lo,.int .i64 (aG.aS lo hi)] 60)).alloc (.cells #[.int .i64 (aG.aS lo hi),.int .i64 hi] 60)):=(d.alloc d.size _).alloc (by have:=d.size;simp;omega) _
    have C:MS ((w3.alloc (.cells #[.int .i64 lo,.int .i64 (aG.aS lo hi)] 60)).alloc (.cells #[.int .i64 (aG.aS lo hi),.int .i64 hi] 60)) ((w3.alloc (.cells #[.int .i64 lo,.int .i64 (aG.aS lo hi)] 60)).alloc (.cells #[.int .i64 (aG.aS lo hi),.int .i64 hi] 60)) bk (w.heap.size+1) w3.heap.size c lo hi a b pl pr :=
     ⟨aN j R,aN j Q,aN j P,aN j L,aN j K,by simp,by simp,by simp,by simp,Below.refl _ _⟩
    have H:=aC (zA (bA y.out j (zq _)) (zA (RL.out.later (bA y.out j (zq _))) (RR.out.later (bA y.out j (zq _)))));clear y RL RR j d r0 r1 L K R Q P
    go_upto_region 6 with fail
    generalize (VK _ (.cells #[.int .i64 (aG.aS lo hi),.int .i64 hi] 60))=X at C H ⊢;generalize w3.heap.size=M at C ⊢
    go_region_held3 (fun w'=>w'.cell? ⟨bk,0,Vd⟩=Ve (.int .i64 c)/\w'.cell? ⟨bk,3,Vd⟩=Ve (.pointer pl)/\w'.cell? ⟨bk,4,Vd⟩=Ve (.pointer pr)/\w'.cell? ⟨w.heap.size+1,0,Vd⟩=Ve (.int .i64 a)/\w'.cell? ⟨w.heap.size+1,1,Vd⟩=Ve (.int .i64 b)/\w'.cell? ⟨M,0,Vd⟩=Ve (.int .i64 lo)/\w'.cell? ⟨M,1,Vd⟩=Ve (.int .i64 (aG.aS lo hi))/\w'.cell? ⟨M+1,0,Vd⟩=Ve (.int .i64 (aG.aS lo hi))/\w'.cell? ⟨M+1,1,Vd⟩=Ve (.int .i64 hi)/\Vj X.heap.size X w')
     (first
      |exact MS.later C (dM _)
      |(go_split_ands;exact MS.later C (bA UX B (zq _))))
     (first
      |(go_at_call_of 211 (VG pl);go_split_ands;refine (I1.out _ (H.out.2.1.later UX)).mono ?_;rintro e w4 ⟨rfl,B⟩)
      |(go_at_call_of 211 (VG pr);go_split_ands;refine (I2.out _ (H.out.2.2.later UX)).mono ?_;rintro e w4 ⟨rfl,B⟩))
    rw[E5.out,tK];have HF:=aC (bA H.out.1 (by go_split_ands;assumption:Vj X.heap.size X w4) (zq _));clear C H I1 I2
    go_wp2
    go_ret;exact⟨rfl,HF.out⟩
   ·have m:aG.fF (.node c l r) lo hi a b=aG.top (.node c l r):=by simp[aG.fF,i,z,aG.top]
    rw[m];clear m;generalize aG.top (.node c l r)=tp at x ⊢
    go_in
    go_wp2_with fail
    refine (nm _ _ _ _ _).mono ?_;rintro e w1 ⟨rfl,d⟩;rw[i];have ⟨q0,q1,q2,q3,hs,g⟩:=boxes d;have V:=aN g x;have q:=aC g;clear g d x
    go_wp2_with fail
    refine (uk _ _ _ _ _).mono ?_;rintro e w2 ⟨rfl,d⟩;rw[z];have d2:=aN d V;have y:=aC (bA q.out d (zq _));clear q d q0 q1 q2 q3 hs V
    go_wp2
    go_ret;exact⟨rfl,y.out⟩
  ·have m:aG.fF (.node c l r) lo hi a b=0:=aG.yr i;rw[m];clear m
   go_in
   go_wp2_with fail
   refine (nm _ _ _ _ _).mono ?_;rintro e w1 ⟨rfl,d⟩;rw[i];have q:=aC (boxes d).bw;clear d
   go_wp2
   go_ret;exact⟨rfl,q.out⟩
theorem um(w:Vh):Vk prog 212 #[] w fun e w'=>e=.returned (.agg #[.int .i64 0,.int .i64 1048320])/\Vj w.heap.size w w':=by
 go_in
 go_wp2;exact bodyPost_ret (v:=.agg #[.int .i64 0,.int .i64 1048320]) (by simp[results,results212,go_sem]) rfl ⟨rfl,(zr _ _).alloc (zq _) _⟩
theorem Gj(t:aG.T)(i o:U8)(u:U6 Vl)(F:U5 U8)(a b:U9)(w:Vh)(c:w.cell? ⟨i,o,Vd⟩=Ve (.pointer u))(h:cT w t (.pointer u) F)(s:LB t)(r:aG.Good t 0 1048320)(x:a<b):
  Vk prog 153 #[.pointer (Ve ⟨i,o,Vd⟩),.agg #[.int .i64 a,.int .i64 b]] w fun e w'=>e=.returned (.int .i64 (aG.fF t 0 1048320 a b))/\Vj w.heap.size w w':=by
 have q:=aC h;clear h
 go_in
 go_upto_region 1 with fail
 have j:Vj w.heap.size w (w.alloc (.cells #[.int .i64 a,.int .i64 b] 60)):=(zr _ _).alloc (zq _) _;have m:(w.alloc (.cells #[.int .i64 a,.int .i64 b] 60)).cell? ⟨w.heap.size,0,Vd⟩=Ve (.int .i64 a):=UV
 have l:(w.alloc (.cells #[.int .i64 a,.int .i64 b] 60)).cell? ⟨w.heap.size,1,Vd⟩=Ve (.int .i64 b):=UV
 have k:=aN j c;have g:=aC j;clear j;generalize (VK w (.cells #[.int .i64 a,.int .i64 b] 60))=X at m l k g ⊢
 go_region_held3 (fun w'=>w'.cell? ⟨i,o,Vd⟩=Ve (.pointer u)/\w'.cell? ⟨w.heap.size,0,Vd⟩=Ve (.int .i64 a)/\w'.cell? ⟨w.heap.size,1,Vd⟩=Ve (.int .i64 b)/\Vj X.heap.size X w')
  (first
   |exact⟨k,m,l,dM _⟩
   |(go_split_ands;exact⟨aN d UX,aN d UX,aN d UX,bA UX d (zq _)⟩))
  (first
   |(go_at_call 212;go_split_ands;refine (um _).mono ?_;rintro e w4 ⟨rfl,d⟩)
   |(go_at_call 211;go_split_ands;refine (Ql t u F 0 1048320 a b _ (q.out.later (bA g.out UX (zq _))) s r UU UU UU x).mono ?_;rintro e w4 ⟨rfl,d⟩))
 have y:=aC (bA g.out (by go_split_ands;assumption:Vj X.heap.size X w4) (zq _));clear g q
 go_wp2
 go_ret;exact⟨rfl,y.out⟩
def sE(w:Vh)(d o:U8)(F:U5 U8)(i:aG.T)(w':Vh):Prop :=
 ∃ (h:U6 Vl) (F':U5 U8),w'.cell? ⟨d,o,Vd⟩=Ve (.pointer h)/\cT w' i (.pointer h) F'/\(∀ k∈F',k∈F\/w.heap.size<=k)/\aF (d :: F) w w'/\(∀ g,g≠o->w'.cell? ⟨d,g,Vd⟩=w.cell? ⟨d,g,Vd⟩)/\∀ g,w'.frozen? ⟨d,g,Vd⟩=w.frozen? ⟨d,g,Vd⟩
theorem OU{g:Vh}{d:U8}{F5:U5 U8}{q:aG.T}{u5:U6 Vl}(m:Vj w.heap.size w w4)(j:d<w.heap.size)(t:d ∉ F)(C:cT g q (.pointer u5) F5)(s:∀ k∈F5,k∈F\/w4.heap.size<=k)(r:aF F w4 g)(z:g.cell? ⟨d,o,Vd⟩=Ve v):sE w d o F q (g.setCell ⟨d,o,Vd⟩ (.pointer u5)):=by
 have E:=m.size;have A:aF [] w w4:=aF.aD m;have l:d ∉ F5:=fun e=>by rcases s d e with h|h;exact t h;omega
 have y:g.heap[d]?=w.heap[d]?:=(r.block d UU t).trans (A.block d j UV);refine⟨u5,F5,VF _ _ _ z,C.off (aF.aY ..) (fun x i=>by simp;rintro rfl;exact l i),fun k D=>?_,?_,fun B H=>?_,fun B=>?_⟩
 ·rcases s k D with h|h
  ·exact .inl h
  ·exact .inr UU
 ·exact ((aF.aD (F:=d :: F) m).trans (r.mono (by intro x i;simp[i]))).setCell (.inl UV) _ _
 ·exact (zS _ _ _ _ UV).trans (zo (w:=w) y)
 ·refine (zF ..).trans ?_;simp only[Vs,y]
theorem OQ(t:aG.T)(g o:U8)(u:U6 Vl)(F:U5 U8)(a b x:U9)(w:Vh)(c:w.cell? ⟨g,o,Vd⟩=Ve (.pointer u))(f:w.frozen? ⟨g,o,Vd⟩=Vf)(C:g ∉ F)(h:cT w t (.pointer u) F)(Q:a<b)(B:-1000000<=x)(A:x<=1000000)(l:LB t)(j:LB (aG.fU 20 t 0 1048320 a b x)):
  Vk prog 219 #[.pointer (Ve ⟨g,o,Vd⟩),.agg #[.int .i64 a,.int .i64 b],.int .i64 x] w fun e w'=>e=.returned (.tuple #[])/\sE w g o F (aG.fU 20 t 0 1048320 a b x) w':=by
 have K:Hid (∀ (w':Vh),cT w' t (.pointer u) F->Vk prog 261 #[.pointer u,.agg #[.int .i64 0,.int .i64 1048320],.agg #[.int .i64 a,.int .i64 b],.int .i64 x] w' (qH w' F (aG.fU 20 t 0 1048320 a b x))) :=
  fun w' k=>OT 20 t u F 0 1048320 a b x w' k UU UU UU UW Q B A l j
 have J:=aC h;have i:=Vr _ _ c;generalize aG.fU 20 t 0 1048320 a b x=t' at *;clear h l j
 go_in
 go_upto_region 1 with fail
 have D:Vj w.heap.size w (w.alloc (.cells #[.int .i64 a,.int .i64 b] 60)):=(zr _ _).alloc (zq _) _;have z:(w.alloc (.cells #[.int .i64 a,.int .i64 b] 60)).cell? ⟨w.heap.size,0,Vd⟩=Ve (.int .i64 a):=UV
 have y:(w.alloc (.cells #[.int .i64 a,.int .i64 b] 60)).cell? ⟨w.heap.size,1,Vd⟩=Ve (.int .i64 b):=UV
 have s:=aN D c;have m:=aC D;clear D;generalize (VK w (.cells #[.int .i64 a,.int .i64 b] 60))=X at z y s m ⊢
 go_region_with (first
  |(go_at_call 212;refine (um _).mono ?_;rintro e w4 ⟨rfl,d⟩;have P:=aN d (show VL (VM X) _=_ from z);have O:=aN d (show VL (VM X) _=_ from y);have r:=aN d (show VL (VM X) _=_ from s))
  |(go_at_call 261;refine (K.out _ (J.out.later (bA m.out (bA (dM _) d (zq _)) (zq _)))).mono ?_;rintro e S ⟨u5,U,rfl,I,H,q⟩;have E:=q.cell C r;have L:=(q.frozen (o:=o) C (Vr _ _ r)).trans (((aF.aD (F:=[]) (bA m.out (bA (dM _) d (zq _)) (zq _))).frozen UV i).trans f)))
 all_goals
  have R:=aC (OU (bA m.out (bA (dM _) d (zq _)) (zq _)) i C I H q E);clear I H q E L P O r z y s m J K
  go_wp2
  go_end0
  exact⟨rfl,R.out⟩
theorem NY(t:aG.T)(u:U6 Vl)(F:U5 U8)(c level:U9)(k:U8)(w:Vh)(h:cT w t (.pointer u) F)(d:LB t)(g:w.cell? ⟨k,0,Vd⟩=Ve (.int .i64 level))(l:-1000000000<=c)(j:c<=1000000000):
  Vk prog 213 #[.pointer u,.int .i64 c,.pointer (Ve ⟨k,0,Vd⟩)] w fun e w'=>e=.returned (.bool (aG.iK Vg level t c))/\Vj w.heap.size w w':=by
 have i:=d.top;clear d
 go_in
 go_wp2_with fail
 go_region_held3 (fun w'=>w'.cell? ⟨k,0,Vd⟩=Ve (.int .i64 level)/\Vj w.heap.size w w')
  (exact⟨g,dM _⟩)
  (first|(go_at_call 214;go_split_ands;refine (vI _ (h.later UX)).mono ?_;rintro e w' ⟨rfl,rfl⟩))
 go_wp2
 go_ret;exact⟨oa (by simp only[aG.iK];rw[cG UU UU];simp),dM _⟩
theorem NZ(t:aG.T)(u:U6 Vl)(F:U5 U8)(c level:U9)(k:U8)(w:Vh)(h:cT w t (.pointer u) F)(d:LB t)(g:w.cell? ⟨k,0,Vd⟩=Ve (.int .i64 level))(l:-1000000000<=c)(j:c<=1000000000):
  Vk prog 215 #[.pointer u,.int .i64 c,.pointer (Ve ⟨k,0,Vd⟩)] w fun e w'=>e=.returned (.bool (aG.iK Vf level t c))/\Vj w.heap.size w w':=by
 have i:=d.bot;clear d
 go_in
 go_wp2_with fail
 go_region_held3 (fun w'=>w'.cell? ⟨k,0,Vd⟩=Ve (.int .i64 level)/\Vj w.heap.size w w')
  (exact⟨g,dM _⟩)
  (first|(go_at_call 216;go_split_ands;refine (vH _ (h.later UX)).mono ?_;rintro e w' ⟨rfl,rfl⟩))
 go_wp2
 go_ret;exact⟨oa (by simp only[aG.iK];rw[cG UU UU];simp),dM _⟩
def uz(d:U7)(fn:U8):Prop:=(d=Vg/\fn=213)\/(d=Vf/\fn=215)
theorem zn{d:U7}(m:uz d fn)(t:aG.T)(u:U6 Vl)(F:U5 U8)(c level:U9)(k:U8)(w:Vh)(h:cT w t (.pointer u) F)(i:LB t)(g:w.cell? ⟨k,0,Vd⟩=Ve (.int .i64 level))(l:-1000000000<=c)(j:c<=1000000000):
  Vk prog fn #[.pointer u,.int .i64 c,.pointer (Ve ⟨k,0,Vd⟩)] w fun e w'=>e=.returned (.bool (aG.iK d level t c))/\Vj w.heap.size w w':=by
 rcases m with ⟨rfl,rfl⟩|⟨rfl,rfl⟩
 ·exact NY t u F c level k w h i g l j
 ·exact NZ t u F c level k w h i g l j
theorem Jw{t:aG.T}(w:Vh)(h:cT w t (.pointer u) F):
  Vk prog 260 #[.pointer u] w fun e w'=>e=.returned (.bool (aG.flat t))/\w'=w:=by
 cases t with
 |nil=>obtain⟨g,_⟩:=h;cases g;exact RF w
 |node a l r =>
  obtain⟨b,pl,pr,Fl,Fr,rfl,rfl,d⟩:=vE h;have e:aG.flat (.node a l r)=sn pl pr:=by rw[sn,d.l.isNone,d.r.isNone];rfl
  rw[e];exact Cu b pl pr w d.c3 d.c4
def iN:U6 U9->Vi
 |none=>.tuple #[.int .i64 0,.bool Vf]
 |some x=>.tuple #[.int .i64 x,.bool Vg]
theorem O6{x y:U9}(h:x=y):Vo (.tuple #[.int .i64 x,.bool Vg])=.returned (iN (Ve y)):=by rw[h];rfl
theorem Jy(u:U6 Vl)(lo hi a b c:U9)(k fn:U8)(w:Vh)(g:aG.apart lo hi a b=Vg):
  Vk prog 217 #[.pointer u,.agg #[.int .i64 lo,.int .i64 hi],.agg #[.int .i64 a,.int .i64 b],.int .i64 c,.func (.func fn) #[] #[.pointer (Ve ⟨k,0,Vd⟩)]] w fun e w'=>e=.returned (iN Vd)/\Vj w.heap.size w w':=by
 generalize Value.func _ _ _=q
 go_in
 go_wp2_with fail
 refine (nm _ _ _ _ _).mono ?_;rintro e w1 ⟨rfl,d⟩;rw[g];have h:=aC (boxes d).bw;clear d
 go_wp2
 go_ret2;exact⟨rfl,h.out⟩
theorem Eo{i:U7}(l:uz i fn)(t:aG.T)(u:U6 Vl)(F:U5 U8)(lo hi a b c level:U9)(k:U8)(w:Vh)(h:cT w t (.pointer u) F)(m:LB t)(s:w.cell? ⟨k,0,Vd⟩=Ve (.int .i64 level))(y:-1000000000<=c)(x:c<=1000000000)(r:aG.apart lo hi a b=Vf)(q:aG.iK i level t c=Vf):
  Vk prog 217 #[.pointer u,.agg #[.int .i64 lo,.int .i64 hi],.agg #[.int .i64 a,.int .i64 b],.int .i64 c,.func (.func fn) #[] #[.pointer (Ve ⟨k,0,Vd⟩)]] w fun e w'=>e=.returned (iN Vd)/\Vj w.heap.size w w':=by
 have A:=aC (fun w' j=>zn l t u F c level k w' (cT.later h j) m (aN j s) y x);clear m;rcases l with ⟨rfl,rfl⟩|⟨rfl,rfl⟩
 all_goals
  go_in
  go_wp2_with fail
  refine (nm _ _ _ _ _).mono ?_;rintro e w1 ⟨rfl,d⟩;rw[r];have g:=aC (boxes d).bw;clear d
  go_wp2_with fail
  refine (A.out _ g.out).mono ?_;rintro e w2 ⟨rfl,d⟩;rw[q];have z:=aC (bA g.out d (zq _));clear g d
  go_wp2
  go_ret2;exact⟨rfl,z.out⟩
theorem En{i:U7}(l:uz i fn)(t:aG.T)(u:U6 Vl)(F:U5 U8)(lo hi a b c level:U9)(k:U8)(w:Vh)(h:cT w t (.pointer u) F)(m:LB t)(y:w.cell? ⟨k,0,Vd⟩=Ve (.int .i64 level))(A:-1000000000<=c)(z:c<=1000000000)(s:aG.apart lo hi a b=Vf)(r:aG.iK i level t c=Vg)(x:aG.flat t=Vg):
  Vk prog 217 #[.pointer u,.agg #[.int .i64 lo,.int .i64 hi],.agg #[.int .i64 a,.int .i64 b],.int .i64 c,.func (.func fn) #[] #[.pointer (Ve ⟨k,0,Vd⟩)]] w fun e w'=>e=.returned (iN (Ve (max lo a)))/\Vj w.heap.size w w':=by
 have B:=aC (fun w' j=>zn l t u F c level k w' (cT.later h j) m (aN j y) A z);clear m;rcases l with ⟨rfl,rfl⟩|⟨rfl,rfl⟩
 all_goals
  go_in
  go_wp2_with fail
  refine (nm _ _ _ _ _).mono ?_;rintro e w1 ⟨rfl,d⟩;rw[s];have ⟨q0,q1,q2,q3,hs,hBw⟩:=boxes d;have g:=aC hBw;clear d hBw
  go_wp2_with fail
  refine (B.out _ g.out).mono ?_;rintro e w2 ⟨rfl,d⟩;rw[r];have D:=aN d q0;have C:=aN d q2;have q:=aC (bA g.out d (zq _));clear g d q0 q1 q2 q3 hs
  go_wp2_with fail
  refine (Jw _ (h.later q.out)).mono ?_;rintro e w3 ⟨rfl,rfl⟩;rw[x]
  go_wp2_with fail
  all_goals
   go_ret2;exact⟨O6 UU,q.out⟩
def Bw(d:U7)(fn:U8)(t:aG.T):Prop:=∀ (u:U6 Vl)(F:U5 U8)(lo hi a b c level:U9)(k:U8)(w:Vh),cT w t (.pointer u) F->LB t->aG.Good t lo hi->w.cell? ⟨k,0,Vd⟩=Ve (.int .i64 level)->0<=c->c+aG.top t<=100000000->0<=lo->lo<hi->hi<=2000000->a<b ->
  Vk prog 217 #[.pointer u,.agg #[.int .i64 lo,.int .i64 hi],.agg #[.int .i64 a,.int .i64 b],.int .i64 c,.func (.func fn) #[] #[.pointer (Ve ⟨k,0,Vd⟩)]] w fun e w'=>e=.returned (iN (aG.fm d level t lo hi a b c))/\Vj w.heap.size w w'
def FS(X w':Vh)(bk N M:U8)(v lo hi a b:U9)(pl pr:U6 Vl):Prop :=
 w'.cell? ⟨bk,0,Vd⟩=Ve (.int .i64 v)/\w'.cell? ⟨bk,3,Vd⟩=Ve (.pointer pl)/\w'.cell? ⟨bk,4,Vd⟩=Ve (.pointer pr)/\w'.cell? ⟨N,0,Vd⟩=Ve (.int .i64 a)/\w'.cell? ⟨N,1,Vd⟩=Ve (.int .i64 b)/\w'.cell? ⟨M,0,Vd⟩=Ve (.int .i64 lo)/\w'.cell? ⟨M,1,Vd⟩=Ve (.int .i64 (aG.aS lo hi))/\w'.cell? ⟨M+1,0,Vd⟩=Ve (.int .i64 (aG.aS lo hi))/\w'.cell? ⟨M+1,1,Vd⟩=Ve (.int .i64 hi)/\Vj X.heap.size X w'
theorem FS.later{v b:U9}(h:FS X w' bk N M v lo hi a b pl pr)(k:Vj w'.heap.size w' w''):FS X w'' bk N M v lo hi a b pl pr:=by
 obtain⟨t,s,r,q,m,l,j,i,g,d⟩:=h;exact⟨aN k t,aN k s,aN k r,aN k q,aN k m,aN k l,aN k j,aN k i,aN k g,bA d k (zq _)⟩
theorem O5{d:U7}{v b:U9}{l r:aG.T}(i:aG.apart lo hi a b=Vf)(h:aG.iK d level (.node v l r) c=Vg)(j:aG.flat (.node v l r)=Vf):aG.fm d level (.node v l r) lo hi a b c=match aG.fm d level l lo (aG.aS lo hi) a b (c+v) with|some x=>Ve x|none=>aG.fm d level r (aG.aS lo hi) hi a b (c+v):=by
 have g:(aG.isNil l && aG.isNil r)=Vf:=j;rw[aG.fm];simp only[i,h,g,Vu,Vw,Vx,if_false] <;> rfl
theorem Ko{m:U7}(hG:uz m fn)(v:U9)(l r:aG.T)(I:Hid (Bw m fn l))(H:Hid (Bw m fn r))(u:U6 Vl)(F:U5 U8)(lo hi a b c level:U9)(k:U8)(w:Vh)(h:cT w (.node v l r) (.pointer u) F)(t:LB (.node v l r))(q:aG.Good (.node v l r) lo hi)(L:w.cell? ⟨k,0,Vd⟩=Ve (.int .i64 level))(h1:0<=c)(U:c+aG.top (.node v l r)<=100000000)(h3:0<=lo)(h4:lo<hi)(h5:hi<=2000000)(h6:a<b)
  (hp:aG.apart lo hi a b=Vf) (hw:aG.iK m level (.node v l r) c=Vg) (R:aG.flat (.node v l r)=Vf):
  Vk prog 217 #[.pointer u,.agg #[.int .i64 lo,.int .i64 hi],.agg #[.int .i64 a,.int .i64 b],.int .i64 c,.func (.func fn) #[] #[.pointer (Ve ⟨k,0,Vd⟩)]] w fun e w'=>e=.returned (iN (aG.fm m level (.node v l r) lo hi a b c))/\Vj w.heap.size w w':=by
 have tp:=t.top;have tl:=t.2.2.2.1.top;have tr:=t.2.2.2.2.top;have hv:=t.1;have P:=q.1;have ht:aG.top (.node v l r)=v+max (aG.top l) (aG.top r):=rfl;have gl:=aG.yK l lo (aG.aS lo hi) 0 q.2.2.1
 have t0:0<=aG.top (.node v l r):=by
  obtain⟨_,x,_,_,e⟩:=aG.vC (.node v l r) lo hi h4 q;have:=aG.yK (.node v l r) lo hi x q;omega
 have S:2<=hi-lo:=by
  rcases q.2.1 with ⟨e1,e2⟩|U
  ·have Q:(aG.isNil l && aG.isNil r)=Vf:=R;simp[e1,e2] at Q
  ·exact U
 have hm:lo<aG.aS lo hi/\aG.aS lo hi<hi:=by unfold aG.aS;omega
 have AK:=aC (fun w' j=>zn hG (.node v l r) u F c level k w' (cT.later h j) t (aN j L) UU UU);have J:=aC (fun (w':Vh) (j:Vj w.heap.size w w')=>Jw w' (cT.later h j));obtain⟨bk,pl,pr,Fl,Fr,rfl,rfl,B⟩:=vE h
 have D:Hid (∀ w',Vj w.heap.size w w'->Vk prog 217 #[.pointer pl,.agg #[.int .i64 lo,.int .i64 (aG.aS lo hi)],.agg #[.int .i64 a,.int .i64 b],.int .i64 (c+v),.func (.func fn) #[] #[.pointer (Ve ⟨k,0,Vd⟩)]] w' fun e w''=>e=.returned (iN (aG.fm m level l lo (aG.aS lo hi) a b (c+v)))/\Vj w'.heap.size w' w'') :=
  fun w' j=>I.out pl Fl lo _ a b (c+v) level k w' (B.l.later j) t.2.2.2.1 q.2.2.1 (aN j L) UU UU h3 hm.1 UU h6
 have A:Hid (∀ w',Vj w.heap.size w w'->Vk prog 217 #[.pointer pr,.agg #[.int .i64 (aG.aS lo hi),.int .i64 hi],.agg #[.int .i64 a,.int .i64 b],.int .i64 (c+v),.func (.func fn) #[] #[.pointer (Ve ⟨k,0,Vd⟩)]] w' fun e w''=>e=.returned (iN (aG.fm m level r (aG.aS lo hi) hi a b (c+v)))/\Vj w'.heap.size w' w'') :=
  fun w' j=>H.out pr Fr _ hi a b (c+v) level k w' (B.r.later j) t.2.2.2.2 q.2.2.2 (aN j L) UU UU UU hm.2 h5 h6
 rw[O5 hp hw R];have aa:Vp.wrap (c+v)=c+v:=cG UU UU;have c0:=B.c0;have c3:=B.c3;have c4:=B.c4;clear tp tl tr ht gl t0 S B t q U h I H L hv P;generalize aG.fm m level l lo (aG.aS lo hi) a b (c+v)=ol at *;generalize aG.fm m level r (aG.aS lo hi) hi a b (c+v)=or at *;rcases hG with ⟨rfl,rfl⟩|⟨rfl,rfl⟩
 all_goals
  go_in
  go_wp2_with fail
  refine (nm _ _ _ _ _).mono ?_;rintro e w1 ⟨rfl,d⟩;rw[hp];have ⟨q0,q1,q2,q3,hs,hBw⟩:=boxes d;have d0:=aN hBw c0;have d3:=aN hBw c3;have d4:=aN hBw c4;have W:=aC hBw;clear d hBw c0 c3 c4
  go_wp2_with fail
  refine (AK.out _ W.out).mono ?_;rintro e w2 ⟨rfl,d⟩;rw[hw];have r0:w2.cell? ⟨w.heap.size,0,Vd⟩=Ve (.int .i64 lo):=aN d q0;have r1:w2.cell? ⟨w.heap.size,1,Vd⟩=Ve (.int .i64 hi):=aN d q1;have Z:w2.cell? ⟨w.heap.size+1,0,Vd⟩=Ve (.int .i64 a):=aN d q2;have Y:w2.cell? ⟨w.heap.size+1,1,Vd⟩=Ve (.int .i64 b):=aN d q3;have e0:=aN d d0;have e3:=aN d d3;have e4:=aN d d4;have V:=aC (bA W.out d (zq _));clear W d q0 q1 q2 q3 hs d0 d3 d4 AK
  go_wp2_with fail
  refine (J.out _ V.out).mono ?_;rintro e E ⟨rfl,rfl⟩;rw[R];clear J
  go_wp2_with fail
  refine (yv _ _ _ UU UU UU).mono ?_;rintro e w3 ⟨rfl,d⟩;have z:Vj E.heap.size E ((w3.alloc (.cells #[.int .i64 lo,.int .i64 (aG.aS lo hi)] 60)).alloc (.cells #[.int .i64 (aG.aS lo hi),.int .i64 hi] 60)):=(d.alloc d.size _).alloc (by have:=d.size;simp;omega) _
  have s:FS ((w3.alloc (.cells #[.int .i64 lo,.int .i64 (aG.aS lo hi)] 60)).alloc (.cells #[.int .i64 (aG.aS lo hi),.int .i64 hi] 60)) ((w3.alloc (.cells #[.int .i64 lo,.int .i64 (aG.aS lo hi)] 60)).alloc (.cells #[.int .i64 (aG.aS lo hi),.int .i64 hi] 60)) bk (w.heap.size+1) w3.heap.size v lo hi a b pl pr :=
   ⟨aN z e0,aN z e3,aN z e4,aN z Z,aN z Y,by simp,by simp,by simp,by simp,Below.refl _ _⟩
  have i:=aC (bA V.out z (zq _));clear V z d r0 r1 Z Y e0 e3 e4
  go_upto_region 6 with fail
  generalize (VK _ (.cells #[.int .i64 (aG.aS lo hi),.int .i64 hi] 60))=X at s i ⊢;generalize w3.heap.size=M at s ⊢
  cases ol with
  |some y =>
   simp only[iN] at D ⊢
   go_region_held3 (fun w'=>w'.cell? ⟨bk,0,Vd⟩=Ve (.int .i64 v)/\w'.cell? ⟨bk,3,Vd⟩=Ve (.pointer pl)/\w'.cell? ⟨bk,4,Vd⟩=Ve (.pointer pr)/\w'.cell? ⟨w.heap.size+1,0,Vd⟩=Ve (.int .i64 a)/\w'.cell? ⟨w.heap.size+1,1,Vd⟩=Ve (.int .i64 b)/\w'.cell? ⟨M,0,Vd⟩=Ve (.int .i64 lo)/\w'.cell? ⟨M,1,Vd⟩=Ve (.int .i64 (aG.aS lo hi))/\w'.cell? ⟨M+1,0,Vd⟩=Ve (.int .i64 (aG.aS lo hi))/\w'.cell? ⟨M+1,1,Vd⟩=Ve (.int .i64 hi)/\Vj X.heap.size X w')
    (first
     |exact FS.later s (dM _)
     |(go_split_ands;exact FS.later s (bA UX g (zq _))))
    (first
     |(go_at_call 217;go_split_ands;refine (D.out _ (bA i.out UX (zq _))).mono ?_;rintro e w4 ⟨rfl,g⟩))
   have K:=aC (bA i.out (by go_split_ands;assumption:Vj X.heap.size X w4) (zq _));clear s i D A
   go_wp2
   go_ret2;exact⟨rfl,K.out⟩
  |none =>
   simp only[iN] at D ⊢
   go_region_held3 (fun w'=>w'.cell? ⟨bk,0,Vd⟩=Ve (.int .i64 v)/\w'.cell? ⟨bk,3,Vd⟩=Ve (.pointer pl)/\w'.cell? ⟨bk,4,Vd⟩=Ve (.pointer pr)/\w'.cell? ⟨w.heap.size+1,0,Vd⟩=Ve (.int .i64 a)/\w'.cell? ⟨w.heap.size+1,1,Vd⟩=Ve (.int .i64 b)/\w'.cell? ⟨M,0,Vd⟩=Ve (.int .i64 lo)/\w'.cell? ⟨M,1,Vd⟩=Ve (.int .i64 (aG.aS lo hi))/\w'.cell? ⟨M+1,0,Vd⟩=Ve (.int .i64 (aG.aS lo hi))/\w'.cell? ⟨M+1,1,Vd⟩=Ve (.int .i64 hi)/\Vj X.heap.size X w')
    (first
     |exact FS.later s (dM _)
     |(go_split_ands;exact FS.later s (bA UX g (zq _))))
    (first
     |(go_at_call 217;go_split_ands;refine (D.out _ (bA i.out UX (zq _))).mono ?_;rintro e w4 ⟨rfl,g⟩))
   have C:FS X w4 bk (w.heap.size+1) M v lo hi a b pl pr:=UX
   clear s D
   go_upto_region 9 with fail
   cases or with
   |some y =>
    simp only[iN] at A ⊢
    go_region_held3 (fun w'=>w'.cell? ⟨bk,0,Vd⟩=Ve (.int .i64 v)/\w'.cell? ⟨bk,3,Vd⟩=Ve (.pointer pl)/\w'.cell? ⟨bk,4,Vd⟩=Ve (.pointer pr)/\w'.cell? ⟨w.heap.size+1,0,Vd⟩=Ve (.int .i64 a)/\w'.cell? ⟨w.heap.size+1,1,Vd⟩=Ve (.int .i64 b)/\w'.cell? ⟨M,0,Vd⟩=Ve (.int .i64 lo)/\w'.cell? ⟨M,1,Vd⟩=Ve (.int .i64 (aG.aS lo hi))/\w'.cell? ⟨M+1,0,Vd⟩=Ve (.int .i64 (aG.aS lo hi))/\w'.cell? ⟨M+1,1,Vd⟩=Ve (.int .i64 hi)/\Vj X.heap.size X w')
     (first
      |exact FS.later C (dM _)
      |(go_split_ands;exact FS.later C (bA (dM _) g (zq _))))
     (first
      |(go_at_call 217;go_split_ands;refine (A.out _ (bA i.out UX (zq _))).mono ?_;rintro e O ⟨rfl,g⟩))
    have K:=aC (bA i.out (by go_split_ands;assumption:Vj X.heap.size X O) (zq _));clear C i A
    go_wp2
    go_ret2;exact⟨rfl,K.out⟩
   |none =>
    simp only[iN] at A ⊢
    go_region_held3 (fun w'=>w'.cell? ⟨bk,0,Vd⟩=Ve (.int .i64 v)/\w'.cell? ⟨bk,3,Vd⟩=Ve (.pointer pl)/\w'.cell? ⟨bk,4,Vd⟩=Ve (.pointer pr)/\w'.cell? ⟨w.heap.size+1,0,Vd⟩=Ve (.int .i64 a)/\w'.cell? ⟨w.heap.size+1,1,Vd⟩=Ve (.int .i64 b)/\w'.cell? ⟨M,0,Vd⟩=Ve (.int .i64 lo)/\w'.cell? ⟨M,1,Vd⟩=Ve (.int .i64 (aG.aS lo hi))/\w'.cell? ⟨M+1,0,Vd⟩=Ve (.int .i64 (aG.aS lo hi))/\w'.cell? ⟨M+1,1,Vd⟩=Ve (.int .i64 hi)/\Vj X.heap.size X w')
     (first
      |exact FS.later C (dM _)
      |(go_split_ands;exact FS.later C (bA (dM _) g (zq _))))
     (first
      |(go_at_call 217;go_split_ands;refine (A.out _ (bA i.out UX (zq _))).mono ?_;rintro e O ⟨rfl,g⟩))
    have K:=aC (bA i.out (by go_split_ands;assumption:Vj X.heap.size X O) (zq _));clear C i A
    go_wp2
    go_ret2;exact⟨rfl,K.out⟩
theorem Em{g:U7}(q:uz g fn):∀ t:aG.T,Bw g fn t:=by
 intro t
 induction t with
 |nil =>
  intro u F lo hi a b c level k w h m s j H B E A D C;simp only[aG.top] at B
  cases d:aG.apart lo hi a b
  ·cases i:aG.iK g level .nil c
   ·have e:aG.fm g level .nil lo hi a b c=Vd:=by simp[aG.fm,i]
    rw[e];exact Eo q .nil u F lo hi a b c level k w h m j UU UU d i
   ·have e:aG.fm g level .nil lo hi a b c=Ve (max lo a):=by simp[aG.fm,i,d]
    rw[e];exact En q .nil u F lo hi a b c level k w h m j UU UU d i rfl
  ·have e:aG.fm g level .nil lo hi a b c=Vd:=by simp[aG.fm,d]
   rw[e];exact Jy u lo hi a b c k _ w d
 |node v l r ihl ihr =>
  intro u F lo hi a b c level k w h m s j H B E A D C
  have I:0<=aG.top (.node v l r):=by
   obtain⟨_,x,_,_,e⟩:=aG.vC (.node v l r) lo hi A s;have:=aG.yK (.node v l r) lo hi x s;omega
  cases d:aG.apart lo hi a b
  ·cases i:aG.iK g level (.node v l r) c
   ·have e:aG.fm g level (.node v l r) lo hi a b c=Vd:=by simp[aG.fm,i]
    rw[e];exact Eo q _ u F lo hi a b c level k w h m j UU UU d i
   ·cases z:aG.flat (.node v l r)
    ·exact Ko q v l r ihl ihr u F lo hi a b c level k w h m s j H B E A D C d i z
    ·have y:(aG.isNil l && aG.isNil r)=Vg:=z;have e:aG.fm g level (.node v l r) lo hi a b c=Ve (max lo a):=by rw[aG.fm];simp only[i,d,y,Vu,Vw,Vx,if_false,if_true]
     rw[e];exact En q _ u F lo hi a b c level k w h m j UU UU d i z
  ·have e:aG.fm g level (.node v l r) lo hi a b c=Vd:=by simp[aG.fm,d]
   rw[e];exact Jy u lo hi a b c k _ w d
def n8(f:U9->U9)(long level s:U9):Prop:=∀ x,s<=x->x<s+long->f x<=level
def qN(f:U9->U9)(a b long level:U9):U6 U9->Prop
 |none=>∀ s,a<=s->s+long<=b->¬ n8 f long level s
 |some s=>a<=s/\s+long<=b/\n8 f long level s/\∀ d,a<=d->d<s->¬ n8 f long level d
theorem Pc(h:aG.sF (fun z=>level<f z) 0 1048320 st (st+long) Vd)(j:0<=st)(i:st+long<=1048320):n8 f long level st:=by
 intro x g d;have:=h x UU UU g d;have this:¬ level<f x:=this;omega
theorem Oe{b:U9}(h:∀ i,a<=i->i<st->¬ n8 f long level i)(t:level<f y5)(g:aG.sF (fun z=>f z<=level) 0 1048320 y5 b Vd)(r:st<=y5)(q:y5<st+long)(m:0<=y5)(l:b<=1048320):qN f a b long level Vd:=by
 intro i k s j
 by_cases c:i<st
 ·exact h i k c j
 ·by_cases d:i<=y5
  ·have:=j y5 d UU;omega
  ·have e:=j i UU UU;exact g i UU UU UU UU e
theorem O8{b:U9}(h:∀ s',a<=s'->s'<st->¬ n8 f long level s')(t:level<f y5)(g:aG.sF (fun z=>f z<=level) 0 1048320 y5 b (Ve y6))(m:0<=a)(s:a<=st)(r:st<=y5)(q:y5<st+long):a<=y6/\y6<=1048320/\∀ s',a<=s'->s'<y6->¬ n8 f long level s':=by
 obtain⟨C,B,A,y,x,l⟩:=g;refine⟨by omega,by omega,fun s' k j i=>?_⟩
 by_cases c:s'<st
 ·exact h s' k c i
 ·by_cases d:s'<=y5
  ·have:=i y5 d UU;omega
  ·have e:=i s' UU UU;exact l s' UU j UU e
theorem O7{b:U9}(h:level<f y5)(g:aG.sF (fun z=>f z<=level) 0 1048320 y5 b (Ve y6)):y5<y6/\y6<1048320:=by
 obtain⟨m,l,k,j,d,i⟩:=g;have d:f y6<=level:=d
 by_cases e:y5=y6
 ·subst e;omega
 ·omega
theorem Pz(t:aG.T)(m o:U8)(u:U6 Vl)(F:U5 U8)(a b long level:U9)(w:Vh)(c:w.cell? ⟨m,o,Vd⟩=Ve (.pointer u))(h:cT w t (.pointer u) F)(Q:LB t)(K:aG.Good t 0 1048320)(h0:0<=a)(h1:a<b)(h2:b<=1048320)(h3:1<=long)(h4:long<=1048320):
  Vk prog 154 #[.pointer (Ve ⟨m,o,Vd⟩),.agg #[.int .i64 a,.int .i64 b],.int .i64 long,.int .i64 level] w fun e w'=>∃ r:U6 U9,e=.returned (iN r)/\qN (aG.dJ t 0 1048320) a b long level r/\Vj w.heap.size w w':=by
 have tp:=Q.top
 have W:Hid (∀ (w':Vh) (x y:U9),Vj w.heap.size w w'->w'.cell? ⟨w.heap.size+1,0,Vd⟩=Ve (.int .i64 level)->x<y->Vk prog 217 #[.pointer u,.agg #[.int .i64 0,.int .i64 1048320],.agg #[.int .i64 x,.int .i64 y],.int .i64 0,.func (.func 213) #[] #[.pointer (Ve ⟨w.heap.size+1,0,Vd⟩)]] w' fun e w''=>e=.returned (iN (aG.fm Vg level t 0 1048320 x y 0))/\Vj w'.heap.size w' w''):=by
  intro w' x y i j k;exact Em (.inl ⟨rfl,rfl⟩) t u F 0 1048320 x y 0 level _ w' (h.later i) Q K j UU UU UU UU UU k
 have V:Hid (∀ (w':Vh) (x y:U9),Vj w.heap.size w w'->w'.cell? ⟨w.heap.size+1,0,Vd⟩=Ve (.int .i64 level)->x<y->Vk prog 217 #[.pointer u,.agg #[.int .i64 0,.int .i64 1048320],.agg #[.int .i64 x,.int .i64 y],.int .i64 0,.func (.func 215) #[] #[.pointer (Ve ⟨w.heap.size+1,0,Vd⟩)]] w' fun e w''=>e=.returned (iN (aG.fm Vf level t 0 1048320 x y 0))/\Vj w'.heap.size w' w''):=by
  intro w' x y i j k;exact Em (.inr ⟨rfl,rfl⟩) t u F 0 1048320 x y 0 level _ w' (h.later i) Q K j UU UU UU UU UU k
 have U:Hid (∀ x y,x<y->aG.sF (fun z=>level<aG.dJ t 0 1048320 z) 0 1048320 x y (aG.fm Vg level t 0 1048320 x y 0)):=by
  intro x y k;have:=aG.Fk Vg level t 0 1048320 x y 0 UU k K
  simpa only[aG.want,if_true,VI] using this
 have S:Hid (∀ x y,x<y->aG.sF (fun z=>aG.dJ t 0 1048320 z<=level) 0 1048320 x y (aG.fm Vf level t 0 1048320 x y 0)):=by
  intro x y k;have:=aG.Fk Vf level t 0 1048320 x y 0 UU k K
  simpa only[aG.want,Vx,if_false,VI] using this
 clear h Q K tp
 go_in
 go_wp2_with fail
 have hX:Vj w.heap.size w ((w.alloc (.cells #[.int .i64 a,.int .i64 b] 60)).alloc (.cells #[.int .i64 level] 3)):=((zr _ _).alloc (zq _) _).alloc UV _;have x1:((w.alloc (.cells #[.int .i64 a,.int .i64 b] 60)).alloc (.cells #[.int .i64 level] 3)).cell? ⟨w.heap.size,1,Vd⟩=Ve (.int .i64 b):=UV
 have Z:((w.alloc (.cells #[.int .i64 a,.int .i64 b] 60)).alloc (.cells #[.int .i64 level] 3)).cell? ⟨w.heap.size+1,0,Vd⟩=Ve (.int .i64 level):=UV
 have Y:=aN hX c;have g:=aC hX;clear hX c;generalize (VK _ (.cells #[.int .i64 level] 3))=X at x1 Z Y g ⊢
 go_loopw [12,13,14] (fun s _ _ wx=>∃ st:U9,s=.int .i64 st/\a<=st/\st<=1048320/\(∀ q,a<=q->q<st->¬ n8 (aG.dJ t 0 1048320) long level q)/\Vj X.heap.size X wx) (fun s _ _ _=>(1048321-intOf s).toNat)
 case atStart=>exact⟨a,rfl,by omega,by omega,fun q _ _=>by omega,Below.refl _ _⟩
 case round =>
  obtain⟨st,rfl,J,ac,I,A⟩:=hrel;have R:=aC I;have y1:=aN A x1;have y2:=aN A Z;have yc:=aN A Y;clear I
  by_cases aa:st+long<=b
  ·have ab:Vp.wrap (st+long)=st+long:=cG UU UU;have P:=aC (U.out st (st+long) UU);have E:=aC (fun w' i j=>W.out w' st (st+long) i j UU)
   cases C:aG.fm Vg level t 0 1048320 st (st+long) 0 with
   |none =>
    rw[C] at P;simp only[C,iN] at E;clear C
    go_upto_region 5 with fail
    go_region_held3 (fun w'=>w'.cell? ⟨m,o,Vd⟩=Ve (.pointer u)/\w'.cell? ⟨w.heap.size,1,Vd⟩=Ve (.int .i64 b)/\w'.cell? ⟨w.heap.size+1,0,Vd⟩=Ve (.int .i64 level)/\Vj X.heap.size X w')
     (first
      |exact⟨yc,y1,y2,bA A (dM _) (zq _)⟩
      |(go_split_ands;exact⟨aN d UX,aN d UX,aN d UX,bA UX d (zq _)⟩))
     (first
      |(go_at_call 212;go_split_ands;refine (um _).mono ?_;rintro e w4 ⟨rfl,d⟩)
      |(go_at_call 217;go_split_ands;refine (E.out _ (bA g.out UX (zq _)) UX).mono ?_;rintro e w5 ⟨rfl,d⟩))
    have HF:=aC (bA g.out (by go_split_ands;assumption:Vj X.heap.size X w5) (zq _));clear E W V S U g
    go_wp2
    go_ret2;exact⟨Ve st,rfl,⟨J,aa,Pc P.out UU UU,R.out⟩,HF.out⟩
   |some y5 =>
    rw[C] at P;simp only[C,iN] at E;clear C;obtain⟨_,g2,g3,g4,g5,g6⟩:=P.out;have L:level<aG.dJ t 0 1048320 y5:=g5;have l:=aC L;clear g5 L g6 P;have O:=aC (S.out y5 b UU);have D:=aC (fun w' i j=>V.out w' y5 b i j UU)
    go_upto_region 5 with fail
    go_region_held3 (fun w'=>w'.cell? ⟨m,o,Vd⟩=Ve (.pointer u)/\w'.cell? ⟨w.heap.size,1,Vd⟩=Ve (.int .i64 b)/\w'.cell? ⟨w.heap.size+1,0,Vd⟩=Ve (.int .i64 level)/\Vj X.heap.size X w')
     (first
      |exact⟨yc,y1,y2,bA A (dM _) (zq _)⟩
      |(go_split_ands;exact⟨aN d UX,aN d UX,aN d UX,bA UX d (zq _)⟩))
     (first
      |(go_at_call 212;go_split_ands;refine (um _).mono ?_;rintro e w4 ⟨rfl,d⟩)
      |(go_at_call 217;go_split_ands;refine (E.out _ (bA g.out UX (zq _)) UX).mono ?_;rintro e w5 ⟨rfl,d⟩))
    have H:Vj X.heap.size X w5:=by go_split_ands;assumption
    have z1:=aN H x1;have z2:=aN H Z;have zc:=aN H Y;clear E
    go_upto_region 8 with fail
    cases B:aG.fm Vf level t 0 1048320 y5 b 0 with
    |none =>
     rw[B] at O;simp only[B,iN] at D;clear B
     go_region_held3 (fun w'=>w'.cell? ⟨m,o,Vd⟩=Ve (.pointer u)/\w'.cell? ⟨w.heap.size,1,Vd⟩=Ve (.int .i64 b)/\w'.cell? ⟨w.heap.size+1,0,Vd⟩=Ve (.int .i64 level)/\Vj X.heap.size X w')
     (first
      |exact⟨zc,z1,z2,bA H (dM _) (zq _)⟩
      |(go_split_ands;exact⟨aN d UX,aN d UX,aN d UX,bA UX d (zq _)⟩))
     (first
      |(go_at_call 212;go_split_ands;refine (um _).mono ?_;rintro e w4 ⟨rfl,d⟩)
      |(go_at_call 217;go_split_ands;refine (D.out _ (bA g.out UX (zq _)) UX).mono ?_;rintro e w6 ⟨rfl,d⟩))
     have HF:=aC (bA g.out (by go_split_ands;assumption:Vj X.heap.size X w6) (zq _));clear D W V S U g
     go_wp2
     go_ret2;exact⟨Vd,rfl,Oe R.out l.out O.out g3 UU UU UU,HF.out⟩
    |some y6 =>
     rw[B] at O;simp only[B,iN] at D;clear B
     go_region_held3 (fun w'=>w'.cell? ⟨m,o,Vd⟩=Ve (.pointer u)/\w'.cell? ⟨w.heap.size,1,Vd⟩=Ve (.int .i64 b)/\w'.cell? ⟨w.heap.size+1,0,Vd⟩=Ve (.int .i64 level)/\Vj X.heap.size X w')
     (first
      |exact⟨zc,z1,z2,bA H (dM _) (zq _)⟩
      |(go_split_ands;exact⟨aN d UX,aN d UX,aN d UX,bA UX d (zq _)⟩))
     (first
      |(go_at_call 212;go_split_ands;refine (um _).mono ?_;rintro e w4 ⟨rfl,d⟩)
      |(go_at_call 217;go_split_ands;refine (D.out _ (bA g.out UX (zq _)) UX).mono ?_;rintro e w6 ⟨rfl,d⟩))
     have hv:Vj X.heap.size X w6:=by go_split_ands;assumption
     have HV:=aC hv;clear D W V S U g hv
     go_wp2
     go_roundw
     case rel=>have nx:=O8 R.out l.out O.out h0 J g3 UU;exact⟨y6,rfl,nx.1,nx.2.1,nx.2.2,HV.out⟩
     case measure=>simp[intOf];have:=O7 l.out O.out;omega
  ·go_wp2
   go_ret2;exact⟨Vd,rfl,fun q i j=>R.out q i UU,bA g.out A (zq _)⟩
namespace aE
structure It where
 f:U9
 t:U9
 n:U9
 v:U8
inductive S where
 |nil:S
 |node (x:It) (l r:S):S
def isNil:S->U7
 |.nil=>Vg
 |.node ..=>Vf
def left:S->S
 |.nil=>.nil
 |.node _ l _=>l
def right:S->S
 |.nil=>.nil
 |.node _ _ r=>r
def ht:S->U9
 |.nil=>0
 |.node _ l r=>1+max (ht l) (ht r)
def Fz(x:U9)(l r:S)(g d:U9):U9 :=
 let m:=if isNil l then x else max x g
 if isNil r then m else max m d
def late:S->U9
 |.nil=>0
 |.node x l r=>Fz x.t l r (late l) (late r)
def size:S->U8
 |.nil=>0
 |.node _ l r=>1+size l+size r
def bS:S->U5 It
 |.nil=>[]
 |.node x l r=>bS l++x :: bS r
def side(f n:U9)(x:It):U9:=if f<x.f then -1 else if x.f<f then 1 else if n<x.n then -1 else if x.n<n then 1 else 0
def sj:S->S
 |.node x (.node y a b) r=>.node y a (.node x b r)
 |t=>t
def si:S->S
 |.node x l (.node y a b)=>.node y (.node x l a) b
 |t=>t
def qz(x:It)(l r:S):S:=sj (.node x (if ht (left l)<ht (right l) then si l else l) r)
def qA(x:It)(l r:S):S:=si (.node x l (if ht (right r)<ht (left r) then sj r else r))
def fQ(x:It)(l r:S):S:=if 1<ht l-ht r then qz x l r else if ht l-ht r < -1 then qA x l r else .node x l r
def put(x:It):S->S
 |.nil=>fQ x .nil .nil
 |.node y l r=>if side x.f x.n y<0 then fQ y (put x l) r else if 0<side x.f x.n y then fQ y l (put x r) else fQ { y with t:=x.t,v:=x.v } l r
def nZ:It->S->S->It
 |x,.nil,_=>x
 |_,.node y a b,_=>nZ y a b
def kR:It->S->S->S
 |_,.nil,r=>r
 |x,.node y a b,r=>fQ x (kR y a b) r
def kQ(l:S):S->S
 |.nil=>l
 |.node y a b=>fQ (nZ y a b) l (kR y a b)
def drop(f n:U9):S->S
 |.nil=>.nil
 |.node y l r=>if side f n y<0 then fQ y (drop f n l) r else if 0<side f n y then fQ y l (drop f n r) else kQ l r
theorem jP:∀ t:S,0<=ht t
 |.nil=>by simp[ht]
 |.node _ l r=>by have:=jP l;have:=jP r;simp only[ht];omega
theorem ma:∀ t:S,ht t<=size t
 |.nil=>by simp[ht,size]
 |.node _ l r=>by have:=ma l;have:=ma r;simp only[ht,size];omega
theorem yp{t:S}(h:0<ht t):∃ x l r,t=.node x l r:=by
 cases t with
 |nil=>simp[ht] at h
 |node x l r=>exact⟨x,l,r,rfl⟩
theorem IK(t:S):bS (sj t)=bS t:=by
 cases t with
 |nil=>rfl
 |node x l r=>cases l <;> simp[sj,bS]
theorem IJ(t:S):bS (si t)=bS t:=by
 cases t with
 |nil=>rfl
 |node x l r=>cases r <;> simp[si,bS]
theorem nj(x:It)(l r:S):bS (fQ x l r)=bS l++x :: bS r:=by
 unfold fQ
 split
 ·unfold qz;rw[IK];split <;> simp[bS,IJ]
 ·split
  ·unfold qA;rw[IJ];split <;> simp[bS,IK]
  ·rfl
theorem mM:∀ t:S,(bS t).length=size t
 |.nil=>rfl
 |.node x l r=>by have:=mM l;have:=mM r;simp only[bS,size,List.length_append,List.length_cons];omega
theorem Cp:∀ (x:It)(l r:S),nZ x l r :: bS (kR x l r)=bS l++x :: bS r
 |x,.nil,r=>by simp[nZ,kR,bS]
 |x,.node y a b,r=>by
  have:=Cp y a b;simp only[nZ,kR,nj,bS];rw[<- VN,this]
theorem Jc(l r:S):bS (kQ l r)=bS l++bS r:=by
 cases r with
 |nil=>simp[kQ,bS]
 |node y a b=>simp only[kQ,nj];rw[Cp];rfl
def lt(x y:It):Prop:=x.f<y.f\/(x.f=y.f/\x.n<y.n)
theorem sM{f n:U9}{x:It}:side f n x<0↔f<x.f\/(f=x.f/\n<x.n):=by
 unfold side;repeat' split
 all_goals omega
theorem vP{f n:U9}{x:It}:0<side f n x↔x.f<f\/(f=x.f/\x.n<n):=by
 unfold side;repeat' split
 all_goals omega
def ins(x:It):U5 It->U5 It
 |[]=>[x]
 |y :: r=>if side x.f x.n y<0 then x :: y :: r else y :: ins x r
theorem He{x y:It}(h:side x.f x.n y<0)(R:U5 It):∀ L:U5 It,ins x (L++y :: R)=ins x L++y :: R
 |[]=>by simp[ins,h]
 |z :: L=>by
  simp only[VN,ins]
  split
  ·simp
  ·rw[He h R L];simp
theorem IL{x:It}(R:U5 It):∀ L:U5 It,(∀ z∈L,¬ side x.f x.n z<0)->ins x (L++R)=L++ins x R
 |[],_=>rfl
 |z :: L,h=>by
  simp only[VN,ins];rw[Va (h z UV),IL R L (fun y d=>h y (by simp[d]))]
def Ord(l:U5 It):Prop:=l.Pairwise lt
theorem BG{x:It}{l r:S}(h:Ord (bS (.node x l r))):Ord (bS l)/\Ord (bS r)/\(∀ z∈bS l,lt z x)/\(∀ z∈bS r,lt x z):=by
 simp only[bS,Ord,List.pairwise_append,VO] at h;exact⟨h.1,h.2.1.2,fun z d=>h.2.2 z d x UV,h.2.1.1⟩
theorem BU(x:It):∀ t:S,Ord (bS t)->(∀ z∈bS t,¬ (z.f=x.f/\z.n=x.n))->bS (put x t)=ins x (bS t)
 |.nil,_,_=>by simp[put,nj,bS,ins]
 |.node y l r,h,hn=>by
  obtain⟨j,i,g,m⟩:=BG h;have k:=hn y (by simp[bS]);unfold put
  by_cases a:side x.f x.n y<0
  ·rw[Vb a,nj,BU x l j (fun z d=>hn z (by simp[bS,d]))];simp only[bS];rw[He a]
  ·by_cases b:0<side x.f x.n y
   ·rw[Va a,Vb b,nj,BU x r i (fun z d=>hn z (by simp[bS,d]))];simp only[bS];rw[IL _ _ (fun z d=>?_)]
    ·simp[ins,a]
    ·have:=g z d;rw[sM];rw[vP] at b;unfold lt at this;omega
   ·rw[sM] at a;rw[vP] at b;omega
theorem yq{p:It->U7}{l:U5 It}(h:∀ z∈l,p z=Vg):l.filter p=l:=List.filter_eq_self.2 h
def na(f n:U9)(z:It):U7:=!(decide (z.f=f) && decide (z.n=n))
theorem IZ{f n:U9}{z y:It}(h:side f n y<0)(k:z=y\/lt y z):na f n z=Vg:=by
 rw[sM] at h;simp[na];rcases k with rfl|k
 ·omega
 ·unfold lt at k;omega
theorem IY{f n:U9}{z y:It}(h:0<side f n y)(k:z=y\/lt z y):na f n z=Vg:=by
 rw[vP] at h;simp[na];rcases k with rfl|k
 ·omega
 ·unfold lt at k;omega
theorem Co(f n:U9):∀ t:S,Ord (bS t)->bS (drop f n t)=(bS t).filter (na f n)
 |.nil,_=>rfl
 |.node y l r,h=>by
  obtain⟨m,k,i,g⟩:=BG h;unfold drop
  by_cases a:side f n y<0
  ·rw[Vb a,nj,Co f n l m];simp only[bS,VP,VQ,IZ a (.inl rfl),if_true];rw[yq (l:=bS r) (fun z d=>IZ a (.inr (g z d)))]
  ·by_cases b:0<side f n y
   ·rw[Va a,Vb b,nj,Co f n r k];simp only[bS,VP,VQ,IY b (.inl rfl),if_true];rw[yq (l:=bS l) (fun z d=>IY b (.inr (i z d)))]
   ·rw[Va a,Va b,Jc];have e:f=y.f/\n=y.n:=by rw[sM] at a;rw[vP] at b;omega
    have j:na f n y=Vf:=by simp[na,e.1,e.2]
    simp only[bS,VP,VQ,j];rw[yq (l:=bS l) (fun z d=>?_),yq (l:=bS r) (fun z d=>?_)]
    ·simp
    ·have:=g z d;simp[na];unfold lt at this;omega
    ·have:=i z d;simp[na];unfold lt at this;omega
theorem xQ{x z:It}:∀ {l:U5 It},z∈ins x l↔z=x\/z∈l
 |[]=>by simp[ins]
 |y :: r=>by
  simp only[ins];split
  ·simp
  ·simp[xQ (l:=r)];constructor
   ·rintro (h|h|h)
    ·exact .inr (.inl h)
    ·exact .inl h
    ·exact .inr (.inr h)
   ·rintro (h|h|h)
    ·exact .inr (.inl h)
    ·exact .inl h
    ·exact .inr (.inr h)
theorem IM(x:It):∀ l:U5 It,(ins x l).length=l.length+1
 |[]=>rfl
 |y :: r=>by
  simp only[ins];split
  ·simp
  ·simp[IM x r]
theorem Gb{x:It}:∀ {l:U5 It},Ord l->(∀ z∈l,¬ (z.f=x.f/\z.n=x.n))->Ord (ins x l)
 |[],_,_=>by simp[ins,Ord]
 |y :: r,h,hn=>by
  simp only[Ord,VO] at h;have g:=hn y UV;simp only[ins];split
  ·rename_i a
   rw[sM] at a;refine VO.2 ⟨fun z d=>?_,VO.2 h⟩;rcases VA.1 d with rfl|d
   ·unfold lt;omega
   ·have:=h.1 z d;unfold lt at *;omega
  ·rename_i a
   refine VO.2 ⟨fun z d=>?_,Gb h.2 (fun z d=>hn z (by simp[d]))⟩;rcases xQ.1 d with rfl|d
   ·rw[sM] at a;unfold lt;omega
   ·exact h.1 z d
theorem IU{l:U5 It}(p:It->U7)(h:Ord l):Ord (l.filter p):=VR p h
def meets(a b:U9)(x:It):U7:=decide (x.f<b) && decide (a<x.t)
def meet(a b:U9):S->U5 It
 |.nil=>[]
 |.node x l r=>if late (.node x l r)<=a then [] else meet a b l++if b<=x.f then [] else (if a<x.t then [x] else [])++meet a b r
theorem Bd:∀ (t:S),∀ z∈bS t,z.t<=late t
 |.nil=>by simp[bS]
 |.node x l r=>by
  have h:=Bd l;have g:=Bd r;intro z d;simp only[late,Fz];simp only[bS,VB,VA] at d;rcases d with d|rfl|d
  ·have:=h z d;have e:isNil l=Vf:=by cases l <;> simp_all [isNil,bS]
   simp only[e,Vx,if_false];split <;> omega
  ·split <;> split <;> omega
  ·have:=g z d;have e:isNil r=Vf:=by cases r <;> simp_all [isNil,bS]
   simp only[e,Vx,if_false];split <;> omega
theorem xP(a b:U9):∀ t:S,Ord (bS t)->meet a b t=(bS t).filter (meets a b)
 |.nil,_=>rfl
 |.node x l r,h=>by
  obtain⟨m,k,q,j⟩:=BG h;have i:=Bd (.node x l r);unfold meet
  split
  ·rename_i hc
   symm;rw[VS]
   intro z d;have:=i z d;simp[meets];omega
  ·rw[xP a b l m];simp only[bS,VP]
   congr 1
   split
   ·rename_i hb
    symm;rw[VS]
    intro z d;rcases VA.1 d with rfl|d
    ·simp[meets];omega
    ·have:=j z d;unfold lt at this;simp[meets];omega
   ·rename_i hb
    rw[xP a b r k,VQ];have g:x.f<b:=UU
    simp only[meets,g,decide_true,Bool.true_and,decide_eq_true_eq]
    split <;> rfl
end aE
structure gh(w:Vh)(b:U8)(x:aE.It):Prop where
 c0:w.cell? ⟨b,0,Vd⟩=Ve (.int .i64 x.f)
 c1:w.cell? ⟨b,1,Vd⟩=Ve (.int .i64 x.t)
 c2:w.cell? ⟨b,2,Vd⟩=Ve (.int .i64 x.n)
 c3:w.cell? ⟨b,3,Vd⟩=Ve (.pointer (Ve ⟨x.v,0,Vd⟩))
 c4:∃ y,w.cell? ⟨b,4,Vd⟩=Ve (.int .i64 y)
 c5:∃ y,w.cell? ⟨b,5,Vd⟩=Ve (.int .i64 y)
 c6:∃ y,w.cell? ⟨b,6,Vd⟩=Ve (.pointer y)
 c7:∃ y,w.cell? ⟨b,7,Vd⟩=Ve (.pointer y)
 fz:∀ o,w.frozen? ⟨b,o,Vd⟩=Vf
def cR(w:Vh):aE.S->Vi->U5 U8->Prop
 |.nil,p,F=>p=.pointer Vd/\F=[]
 |.node x l r,p,F=>∃ (b:U8) (pl pr:U6 Vl) (Fl Fr:U5 U8),p=.pointer (Ve ⟨b,0,Vd⟩)/\gh w b x/\w.cell? ⟨b,4,Vd⟩=Ve (.int .i64 (aE.late (.node x l r)))/\w.cell? ⟨b,5,Vd⟩=Ve (.int .i64 (aE.ht (.node x l r)))/\w.cell? ⟨b,6,Vd⟩=Ve (.pointer pl)/\w.cell? ⟨b,7,Vd⟩=Ve (.pointer pr)/\cR w l (.pointer pl) Fl/\cR w r (.pointer pr) Fr/\F=b :: (Fl++Fr)/\F.Nodup
structure cE(w:Vh)(b:U8)(x:aE.It)(l r:aE.S)(pl pr:U6 Vl)(Fl Fr:U5 U8):Prop where
 n:gh w b x
 c6:w.cell? ⟨b,6,Vd⟩=Ve (.pointer pl)
 c7:w.cell? ⟨b,7,Vd⟩=Ve (.pointer pr)
 l:cR w l (.pointer pl) Fl
 r:cR w r (.pointer pr) Fr
 nd:(b :: (Fl++Fr)).Nodup
theorem gh.lt{x:aE.It}(h:gh w b x):b<w.heap.size:=Vr _ _ h.c0
theorem gh.off{x:aE.It}(h:gh w b x)(k:aF G w w')(d:b ∉ G):gh w' b x :=
 ⟨k.cell d h.c0,k.cell d h.c1,k.cell d h.c2,k.cell d h.c3,h.c4.imp (fun _=>k.cell d),h.c5.imp (fun _=>k.cell d),h.c6.imp (fun _=>k.cell d),h.c7.imp (fun _=>k.cell d),fun o=>(k.frozen d h.lt).trans (h.fz o)⟩
theorem gh.lh{x:aE.It}(h:gh w b x)(y:U9):gh (w.setCell ⟨b,4,Vd⟩ (.int .i64 y)) b x:=by
 obtain⟨_,e⟩:=h.c4;exact⟨(zS _ _ _ _ UV).trans h.c0,(zS _ _ _ _ UV).trans h.c1,(zS _ _ _ _ UV).trans h.c2,(zS _ _ _ _ UV).trans h.c3,⟨_,VF _ _ _ e⟩,h.c5.imp (fun _ e=>(zS _ _ _ _ UV).trans e),h.c6.imp (fun _ e=>(zS _ _ _ _ UV).trans e),h.c7.imp (fun _ e=>(zS _ _ _ _ UV).trans e),fun o=>(zF ..).trans (h.fz o)⟩
theorem gh.oT{x:aE.It}(h:gh w b x)(y:U9):gh (w.setCell ⟨b,5,Vd⟩ (.int .i64 y)) b x:=by
 obtain⟨_,e⟩:=h.c5;exact⟨(zS _ _ _ _ UV).trans h.c0,(zS _ _ _ _ UV).trans h.c1,(zS _ _ _ _ UV).trans h.c2,(zS _ _ _ _ UV).trans h.c3,h.c4.imp (fun _ e=>(zS _ _ _ _ UV).trans e),⟨_,VF _ _ _ e⟩,h.c6.imp (fun _ e=>(zS _ _ _ _ UV).trans e),h.c7.imp (fun _ e=>(zS _ _ _ _ UV).trans e),fun o=>(zF ..).trans (h.fz o)⟩
theorem gh.tF{x:aE.It}(h:gh w b x)(y:U6 Vl):gh (w.setCell ⟨b,6,Vd⟩ (.pointer y)) b x:=by
 obtain⟨_,e⟩:=h.c6;exact⟨(zS _ _ _ _ UV).trans h.c0,(zS _ _ _ _ UV).trans h.c1,(zS _ _ _ _ UV).trans h.c2,(zS _ _ _ _ UV).trans h.c3,h.c4.imp (fun _ e=>(zS _ _ _ _ UV).trans e),h.c5.imp (fun _ e=>(zS _ _ _ _ UV).trans e),⟨_,VF _ _ _ e⟩,h.c7.imp (fun _ e=>(zS _ _ _ _ UV).trans e),fun o=>(zF ..).trans (h.fz o)⟩
theorem gh.cK{x:aE.It}(h:gh w b x)(y:U6 Vl):gh (w.setCell ⟨b,7,Vd⟩ (.pointer y)) b x:=by
 obtain⟨_,e⟩:=h.c7;exact⟨(zS _ _ _ _ UV).trans h.c0,(zS _ _ _ _ UV).trans h.c1,(zS _ _ _ _ UV).trans h.c2,(zS _ _ _ _ UV).trans h.c3,h.c4.imp (fun _ e=>(zS _ _ _ _ UV).trans e),h.c5.imp (fun _ e=>(zS _ _ _ _ UV).trans e),h.c6.imp (fun _ e=>(zS _ _ _ _ UV).trans e),⟨_,VF _ _ _ e⟩,fun o=>(zF ..).trans (h.fz o)⟩
theorem cR.lt{w:Vh}:∀ {t:aE.S}{p:Vi}{F:U5 U8},cR w t p F->∀ k∈F,k<w.heap.size
 |.nil,p,F,h,k,d=>by rw[h.2] at d;cases d
 |.node a l r,p,F,h,k,d=>by
  obtain⟨b,pl,pr,Fl,Fr,rfl,n,x,s,q,m,i,g,rfl,j⟩:=h;rcases VA.1 d with rfl|d
  ·exact n.lt
  ·rcases VB.1 d with d|d
   ·exact cR.lt i k d
   ·exact cR.lt g k d
theorem cR.off{G:U5 U8}{w w':Vh}(h:aF G w w'):∀ {t:aE.S}{p:Vi}{F:U5 U8},cR w t p F->(∀ k∈F,k ∉ G)->cR w' t p F
 |.nil,p,F,d,_=>d
 |.node a l r,p,F,d,hd=>by
  obtain⟨b,pl,pr,Fl,Fr,rfl,n,y,x,s,q,m,d,rfl,j⟩:=d;have g:b ∉ G:=hd b UV;exact⟨b,pl,pr,Fl,Fr,rfl,n.off h g,h.cell g y,h.cell g x,h.cell g s,h.cell g q,cR.off h m (fun k i=>hd k (by simp[i])),cR.off h d (fun k i=>hd k (by simp[i])),rfl,j⟩
theorem cR.same{t:aE.S}(h:cR w t p F)(k:aF [] w w'):cR w' t p F:=h.off k (fun _ _=>by simp)
theorem cR.later{t:aE.S}(h:cR w t p F)(k:Vj w.heap.size w w'):cR w' t p F:=h.same (aF.aD k)
theorem cR.nodup{t:aE.S}(h:cR w t p F):F.Nodup:=by
 cases t with
 |nil=>rw[h.2];exact VD
 |node a l r=>obtain⟨b,_,_,_,_,_,_,_,_,_,_,_,_,_,d⟩:=h;exact d
theorem cR.half{x:aE.It}{l r:aE.S}(h:cR w (.node x l r) (.pointer u) F):∃ (b:U8)(pl pr:U6 Vl)(Fl Fr:U5 U8),u=Ve ⟨b,0,Vd⟩/\F=b :: (Fl++Fr)/\cE w b x l r pl pr Fl Fr/\w.cell? ⟨b,4,Vd⟩=Ve (.int .i64 (aE.late (.node x l r)))/\w.cell? ⟨b,5,Vd⟩=Ve (.int .i64 (aE.ht (.node x l r))):=by
 obtain⟨b,pl,pr,Fl,Fr,j,n,t,s,q,m,k,i,d,g⟩:=h
 cases j
 exact⟨b,pl,pr,Fl,Fr,rfl,d,⟨n,q,m,k,i,d ▸ g⟩,t,s⟩
theorem cE.rep{x:aE.It}{l r:aE.S}(h:cE w b x l r pl pr Fl Fr)(g:w.cell? ⟨b,4,Vd⟩=Ve (.int .i64 (aE.late (.node x l r))))(d:w.cell? ⟨b,5,Vd⟩=Ve (.int .i64 (aE.ht (.node x l r)))):cR w (.node x l r) (.pointer (Ve ⟨b,0,Vd⟩)) (b :: (Fl++Fr)) :=
 ⟨b,pl,pr,Fl,Fr,rfl,h.n,g,d,h.c6,h.c7,h.l,h.r,rfl,h.nd⟩
theorem cE.off{x:aE.It}{l r:aE.S}(h:cE w b x l r pl pr Fl Fr)(k:aF G w w')(d:b ∉ G)(i:∀ y∈Fl,y ∉ G)(g:∀ y∈Fr,y ∉ G):cE w' b x l r pl pr Fl Fr :=
 ⟨h.n.off k d,k.cell d h.c6,k.cell d h.c7,h.l.off k i,h.r.off k g,h.nd⟩
theorem cE.same{x:aE.It}{l r:aE.S}(h:cE w b x l r pl pr Fl Fr)(k:aF [] w w'):cE w' b x l r pl pr Fl Fr:=h.off k UV UV UV
theorem cE.parts{x:aE.It}{l r:aE.S}(h:cE w b x l r pl pr Fl Fr):b ∉ Fl/\b ∉ Fr/\(∀ y∈Fl,y ∉ [b])/\(∀ y∈Fr,y ∉ [b])/\(∀ y∈Fr,y ∉ Fl)/\(∀ y∈Fl,y ∉ Fr)/\Fl.Nodup/\Fr.Nodup:=by
 have j:=h.nd;rw[VE,VJ] at j;obtain⟨g,q,m,k⟩:=j;exact⟨fun e=>g (by simp[e]),fun e=>g (by simp[e]),fun y d=>by simp;rintro rfl;exact g (by simp[d]),fun y d=>by simp;rintro rfl;exact g (by simp[d]),fun y i d=>k y d y i rfl,fun y i d=>k y i y d rfl,q,m⟩
theorem cE.lt{x:aE.It}{l r:aE.S}(h:cE w b x l r pl pr Fl Fr):∀ k∈b :: (Fl++Fr),k<w.heap.size:=by
 intro k d;rcases VA.1 d with rfl|d
 ·exact h.n.lt
 ·rcases VB.1 d with d|d
  ·exact h.l.lt k d
  ·exact h.r.lt k d
theorem cE.lh{x:aE.It}{l r:aE.S}(h:cE w b x l r pl pr Fl Fr)(y:U9):cE (w.setCell ⟨b,4,Vd⟩ (.int .i64 y)) b x l r pl pr Fl Fr :=
 ⟨h.n.lh y,(zS _ _ _ _ UV).trans h.c6,(zS _ _ _ _ UV).trans h.c7,h.l.off (aF.aY ..) h.parts.2.2.1,h.r.off (aF.aY ..) h.parts.2.2.2.1,h.nd⟩
theorem cE.oT{x:aE.It}{l r:aE.S}(h:cE w b x l r pl pr Fl Fr)(y:U9):cE (w.setCell ⟨b,5,Vd⟩ (.int .i64 y)) b x l r pl pr Fl Fr :=
 ⟨h.n.oT y,(zS _ _ _ _ UV).trans h.c6,(zS _ _ _ _ UV).trans h.c7,h.l.off (aF.aY ..) h.parts.2.2.1,h.r.off (aF.aY ..) h.parts.2.2.2.1,h.nd⟩
theorem cE.jV{x:aE.It}{r j:aE.S}(h:gh w b x)(m:w.cell? ⟨b,7,Vd⟩=Ve (.pointer pr))(l:cR w j (.pointer u) F')(k:cR w r (.pointer pr) Fr)(i:(b :: (F'++Fr)).Nodup):cE (w.setCell ⟨b,6,Vd⟩ (.pointer u)) b x j r u pr F' Fr:=by
 obtain⟨_,e⟩:=h.c6;have d:=i;rw[VE,VJ] at d;exact⟨h.tF u,VF _ _ _ e,(zS _ _ _ _ UV).trans m,l.off (aF.aY ..) (fun y g=>by simp;rintro rfl;exact d.1 (by simp[g])),k.off (aF.aY ..) (fun y g=>by simp;rintro rfl;exact d.1 (by simp[g])),i⟩
theorem cE.jf{x:aE.It}{l i:aE.S}(h:gh w b x)(q:w.cell? ⟨b,6,Vd⟩=Ve (.pointer pl))(m:cR w l (.pointer pl) Fl)(k:cR w i (.pointer u) F')(j:(b :: (Fl++F')).Nodup):cE (w.setCell ⟨b,7,Vd⟩ (.pointer u)) b x l i pl u Fl F':=by
 obtain⟨_,e⟩:=h.c7;have d:=j;rw[VE,VJ] at d;exact⟨h.cK u,(zS _ _ _ _ UV).trans q,VF _ _ _ e,m.off (aF.aY ..) (fun y g=>by simp;rintro rfl;exact d.1 (by simp[g])),k.off (aF.aY ..) (fun y g=>by simp;rintro rfl;exact d.1 (by simp[g])),j⟩
theorem P8(w:Vh):
  Vk prog 282 #[.pointer Vd] w fun e w'=>e=.returned (.int .i64 0)/\w'=w:=by
 go_in
 go_wp2;go_ret;exact⟨rfl,rfl⟩
theorem Rj(b:U8)(x:U9)(w:Vh)(d:w.cell? ⟨b,5,Vd⟩=Ve (.int .i64 x)):
  Vk prog 282 #[.pointer (Ve ⟨b,0,Vd⟩)] w fun e w'=>e=.returned (.int .i64 x)/\w'=w:=by
 go_in
 go_wp2;go_ret;exact⟨rfl,rfl⟩
theorem jO{t:aE.S}(w:Vh)(h:cR w t (.pointer u) F):
  Vk prog 282 #[.pointer u] w fun e w'=>e=.returned (.int .i64 (aE.ht t))/\w'=w:=by
 cases t with
 |nil=>obtain⟨g,_⟩:=h;cases g;exact P8 w
 |node a l r=>obtain⟨b,pl,pr,Fl,Fr,d,n,j,i,_⟩:=h;cases d;exact Rj b _ w i
theorem cE.drew{x:aE.It}{l r:aE.S}(h:cE w b x l r pl pr Fl Fr):cE w.drew b x l r pl pr Fl Fr:=h.same (aF.refl _ _).drew
theorem A5{x:aE.It}{l r:aE.S}(h:cE w b x l r pl pr Fl Fr):w.cell? ⟨b,6,Vd⟩=Ve (.pointer pl)/\w.cell? ⟨b,7,Vd⟩=Ve (.pointer pr)/\cE w b x l r pl pr Fl Fr:=⟨h.c6,h.c7,h⟩
def xC(w:Vh)(t:aE.S):U6 Vl->Prop
 |none=>aE.isNil t=Vg
 |some a=>a.off=0/\a.spot=Vd/\aE.isNil t=Vf/\w.cell? ⟨a.block,4,Vd⟩=Ve (.int .i64 (aE.late t))
theorem cR.xC{t:aE.S}(h:cR w t (.pointer u) F):xC w t u:=by
 cases t with
 |nil=>obtain⟨g,_⟩:=h;cases g;rfl
 |node a l r=>obtain⟨b,pl,pr,Fl,Fr,d,n,i,_⟩:=h;cases d;exact⟨rfl,rfl,rfl,i⟩
structure vl(w wx:Vh)(b:U8)(x:aE.It)(l r:aE.S)(pl pr:U6 Vl)(Fl Fr:U5 U8)(hh m:U9):Prop where
 half:cE wx b x l r pl pr Fl Fr
 c4:wx.cell? ⟨b,4,Vd⟩=Ve (.int .i64 m)
 c5:wx.cell? ⟨b,5,Vd⟩=Ve (.int .i64 hh)
 off:aF [b] w wx
theorem vl.lh{wx:Vh}{x:aE.It}{l r:aE.S}{d m:U9}(h:vl w wx b x l r pl pr Fl Fr d m)(m':U9):vl w (wx.setCell ⟨b,4,Vd⟩ (.int .i64 m')).drew b x l r pl pr Fl Fr d m' :=
 ⟨(h.half.lh m').drew,VF _ _ _ h.c4,(zS _ _ _ _ UV).trans h.c5,(h.off.setCell (.inl UV) _ _).drew⟩
theorem vX(w:Vh)(b:U8)(x:aE.It)(l r:aE.S)(pl pr:U6 Vl)(Fl Fr:U5 U8)(h:cE w b x l r pl pr Fl Fr)(hl:aE.ht l<=100000)(hr:aE.ht r<=100000):
  Vk prog 285 #[.pointer (Ve ⟨b,0,Vd⟩)] w fun e w'=>e=.returned (.tuple #[])/\cR w' (.node x l r) (.pointer (Ve ⟨b,0,Vd⟩)) (b :: (Fl++Fr))/\aF [b] w w':=by
 have h1:=aE.jP l;have h2:=aE.jP r
 have U:Vp.wrap (1+if aE.ht l<aE.ht r then aE.ht r else aE.ht l)=1+max (aE.ht l) (aE.ht r):=by
  rw[A0];exact cG UU UU
 have E3:=aC U;clear U;have f5:=h.n.fz 5;obtain⟨y5,W⟩:=h.n.c5;have d:((w.setCell ⟨b,5,Vd⟩ (.int .i64 (1+max (aE.ht l) (aE.ht r)))).drew).cell? ⟨b,5,Vd⟩=Ve (.int .i64 (1+max (aE.ht l) (aE.ht r))):=zm _ _ _ W;have g:=aC (zA (h.oT (1+max (aE.ht l) (aE.ht r))).drew (zA d ((aF.aY b w 5 (.int .i64 (1+max (aE.ht l) (aE.ht r)))).drew)));clear d
 go_in
 go_wp2_with fail
 go_region_held3 (fun w'=>w'.cell? ⟨b,6,Vd⟩=Ve (.pointer pl)/\w'.cell? ⟨b,7,Vd⟩=Ve (.pointer pr)/\cE w' b x l r pl pr Fl Fr)
  (first
   |exact A5 h.drew
   |exact A5 (cE.drew (cE.oT h _)))
  (first
   |(go_at_call_of 282 (VG pl);go_split_ands;refine (jO _ (cE.l UX)).mono ?_;rintro e w' ⟨rfl,rfl⟩)
   |(go_at_call_of 282 (VG pr);go_split_ands;refine (jO _ (cE.r UX)).mono ?_;rintro e w' ⟨rfl,rfl⟩))
 rw[E3.out,tK];obtain⟨j,L,H⟩:=g.out;clear g;generalize (VH _ ⟨b,5,Vd⟩ (.int .i64 (1+max (aE.ht l) (aE.ht r)))).drew=X at j L H ⊢;clear h f5 W;have c1:=j.n.c1;have c6:=j.c6;have c7:=j.c7;obtain⟨y4,Z⟩:=j.n.c4;have I:=j.n.fz 4;have d:(X.setCell ⟨b,4,Vd⟩ (.int .i64 x.t)).cell? ⟨b,4,Vd⟩=Ve (.int .i64 x.t):=zm _ _ _ Z;have y:(X.setCell ⟨b,4,Vd⟩ (.int .i64 x.t)).cell? ⟨b,5,Vd⟩=Ve (.int .i64 (1+max (aE.ht l) (aE.ht r))):=(zS _ _ _ _ UV).trans L;have g:=aC (zA (j.lh x.t) (zA d (zA y (H.setCell (R:=b) (.inl UV) 4 (.int .i64 x.t)))));clear d y
 go_upto_region 2 with fail
 obtain⟨i,E,D,C⟩:=g.out;clear g c1 c6 c7 Z I j L H;generalize (VH X ⟨b,4,Vd⟩ (.int .i64 x.t))=Y at i E D C ⊢;have V:=i.c6
 go_upto_if 28 with fail
 clear V
 go_cut [28] from 24 to 43 (fun _ wx=>vl w wx b x l r pl pr Fl Fr (1+max (aE.ht l) (aE.ht r)) (if aE.isNil l then x.t else max x.t (aE.late l)))
 case first =>
  have V:=i.c6;have d7:=i.c7;have I:=i.n.fz 4;have Q:=i.l.xC
  cases pl with
  |none =>
   have z:aE.isNil l=Vg:=Q
   go_wp2
   go_meet
   rw[Vb z];exact⟨i,E,D,C⟩
  |some q =>
   obtain⟨O,ol,sl⟩:=q;obtain⟨K,J,z,A⟩:=Q
   cases K
   cases J
   have A:Y.cell? ⟨O,4,Vd⟩=Ve (.int .i64 (aE.late l)):=A
   go_wp2_with fail
   go_region
   all_goals
    rw[tK]
    go_wp2
    go_meet
    rw[Va (by simp[z])];exact vl.lh ⟨i,E,D,C⟩ _
 case rest =>
  have k:=hcut;clear hcut i E D C;have m4:=k.c4;have B:=aC k;have T:aE.late (.node x l r)=if aE.isNil r then (if aE.isNil l then x.t else max x.t (aE.late l)) else max (if aE.isNil l then x.t else max x.t (aE.late l)) (aE.late r):=rfl
  have E9:=aC T;clear T;generalize (if aE.isNil l then x.t else max x.t (aE.late l))=m at *;have d7:=k.half.c7;have I:=k.half.n.fz 4;have P:=k.half.r.xC;clear k
  cases pr with
  |none =>
   have er:aE.isNil r=Vg:=P;have s:=aC (B.out.half.rep (by rw[B.out.c4,E9.out,Vb er]) B.out.c5)
   go_wp2
   go_end0
   exact⟨rfl,s.out,B.out.off⟩
  |some q =>
   obtain⟨O,ol,sl⟩:=q;obtain⟨K,J,z,A⟩:=P
   cases K
   cases J
   have A:wc.cell? ⟨O,4,Vd⟩=Ve (.int .i64 (aE.late r)):=A;have s:=aC (B.out.lh (max m (aE.late r)));have HR:=aC (s.out.half.rep (by rw[s.out.c4,E9.out,Va (by simp[z])]) s.out.c5)
   go_wp2_with fail
   go_region
   all_goals
    rw[tK]
    go_wp2
    go_end0
    exact⟨rfl,HR.out,s.out.off⟩
def kU(w:Vh)(F:U5 U8)(d:aE.S)(e:Ending)(w':Vh):Prop :=
 ∃ (u:U6 Vl) (F':U5 U8),e=.returned (.pointer u)/\cR w' d (.pointer u) F'/\(∀ k∈F',k∈F)/\aF F w w'
theorem IQ{a b:U5 U8}(h:a.Perm b)(k:a.Nodup):b.Nodup:=h.nodup_iff.1 k
theorem Rn{x y:aE.It}{s t r:aE.S}(h:cE w b x (.node y s t) r u pr Fl Fr):
  ∃ (bl:U8) (B g:U6 Vl) (Fa j:U5 U8),u=Ve ⟨bl,0,Vd⟩/\Fl=bl :: (Fa++j)/\w.cell? ⟨bl,7,Vd⟩=Ve (.pointer g)/\w.frozen? ⟨bl,7,Vd⟩=Vf/\b≠bl /\
   cE ((w.setCell ⟨b,6,Vd⟩ (.pointer g)).setCell ⟨bl,7,Vd⟩ (.pointer (Ve ⟨b,0,Vd⟩))) b x t r g pr j Fr /\
   (∀ w2,cR w2 (.node x t r) (.pointer (Ve ⟨b,0,Vd⟩)) (b :: (j++Fr))->aF [b] ((w.setCell ⟨b,6,Vd⟩ (.pointer g)).setCell ⟨bl,7,Vd⟩ (.pointer (Ve ⟨b,0,Vd⟩))) w2->cE w2 bl y s (.node x t r) B (Ve ⟨b,0,Vd⟩) Fa (b :: (j++Fr))) /\
   aF (b :: (Fl++Fr)) w ((w.setCell ⟨b,6,Vd⟩ (.pointer g)).setCell ⟨bl,7,Vd⟩ (.pointer (Ve ⟨b,0,Vd⟩))):=by
 obtain⟨bl,B,g,Fa,j,rfl,rfl,A,_,_⟩:=h.l.half;have q:=h.nd;have m:b≠bl:=by rintro rfl;simp at q
 have E:(b :: (j++Fr)).Nodup:=by
  refine VT ?_ q;exact VU _ (VV (VW (List.sublist_append_right Fa j) (VX _ _)) (VY _))
 have C:aF [b] w (w.setCell ⟨b,6,Vd⟩ (.pointer g)):=aF.aY ..;have I:aF [bl] (w.setCell ⟨b,6,Vd⟩ (.pointer g)) ((w.setCell ⟨b,6,Vd⟩ (.pointer g)).setCell ⟨bl,7,Vd⟩ (.pointer (Ve ⟨b,0,Vd⟩))):=aF.aY ..
 have i:∀ k,k∈Fa\/k∈j\/k∈Fr->k≠b/\k≠bl:=by
  intro k d;simp only[VE,VB,VA,VN,not_or] at q;constructor
  ·rintro rfl;rcases d with d|d|d
   ·exact q.1.2.1.1 d
   ·exact q.1.2.1.2 d
   ·exact q.1.2.2 d
  ·rintro rfl;rcases d with d|d|d
   ·exact q.2.1.1.1 d
   ·exact q.2.1.1.2 d
   ·exact q.2.1.2 d
 have O:cE (w.setCell ⟨b,6,Vd⟩ (.pointer g)) b x t r g pr j Fr:=cE.jV h.n h.c7 A.r h.r E
 have H:cE ((w.setCell ⟨b,6,Vd⟩ (.pointer g)).setCell ⟨bl,7,Vd⟩ (.pointer (Ve ⟨b,0,Vd⟩))) b x t r g pr j Fr :=
  O.off I (by simpa using m) (fun k d=>by simpa using (i k (.inr (.inl d))).2) (fun k d=>by simpa using (i k (.inr (.inr d))).2)
 refine⟨bl,B,g,Fa,j,rfl,rfl,A.c7,A.n.fz 7,m,H,fun w2 L D=>?_,?_⟩
 ·have K:gh ((w.setCell ⟨b,6,Vd⟩ (.pointer g)).setCell ⟨bl,7,Vd⟩ (.pointer (Ve ⟨b,0,Vd⟩))) bl y:=(A.n.off C (by simp;exact m.symm)).cK _;have R:((w.setCell ⟨b,6,Vd⟩ (.pointer g)).setCell ⟨bl,7,Vd⟩ (.pointer (Ve ⟨b,0,Vd⟩))).cell? ⟨bl,6,Vd⟩=Ve (.pointer B):=(zS _ _ _ _ UV).trans (C.cell (by simp;exact m.symm) A.c6);have Q:((w.setCell ⟨b,6,Vd⟩ (.pointer g)).setCell ⟨bl,7,Vd⟩ (.pointer (Ve ⟨b,0,Vd⟩))).cell? ⟨bl,7,Vd⟩=Ve (.pointer (Ve ⟨b,0,Vd⟩)):=zm _ _ _ (C.cell (by simp;exact m.symm) A.c7)
  have P:cR ((w.setCell ⟨b,6,Vd⟩ (.pointer g)).setCell ⟨bl,7,Vd⟩ (.pointer (Ve ⟨b,0,Vd⟩))) s (.pointer B) Fa :=
   (A.l.off C (fun k d=>by simpa using (i k (.inl d)).1)).off I (fun k d=>by simpa using (i k (.inl d)).2)
  have z:bl ∉ [b]:=by simp;exact m.symm
  refine⟨K.off D z,D.cell z R,D.cell z Q,P.off D (fun k d=>by simpa using (i k (.inl d)).1),L,?_⟩;refine IQ ?_ q;have J:(b :: (bl :: (Fa++j)++Fr)).Perm (bl :: b :: (Fa++(j++Fr))):=by simpa[VZ] using V1 bl b (Fa++(j++Fr))
  exact J.trans (V2 _ V3.symm)
 ·exact ((aF.aY b w 6 _).mono UV).setCell (.inl UV) _ _
theorem Rm{x y:aE.It}{s t l:aE.S}(h:cE w b x l (.node y s t) pl u Fl Fr):
  ∃ (br:U8) (g A:U6 Vl) (Fa Fb:U5 U8),u=Ve ⟨br,0,Vd⟩/\Fr=br :: (Fa++Fb)/\w.cell? ⟨br,6,Vd⟩=Ve (.pointer g)/\w.frozen? ⟨br,6,Vd⟩=Vf/\b≠br /\
   cE ((w.setCell ⟨b,7,Vd⟩ (.pointer g)).setCell ⟨br,6,Vd⟩ (.pointer (Ve ⟨b,0,Vd⟩))) b x l s pl g Fl Fa /\
   (∀ w2,cR w2 (.node x l s) (.pointer (Ve ⟨b,0,Vd⟩)) (b :: (Fl++Fa))->aF [b] ((w.setCell ⟨b,7,Vd⟩ (.pointer g)).setCell ⟨br,6,Vd⟩ (.pointer (Ve ⟨b,0,Vd⟩))) w2->cE w2 br y (.node x l s) t (Ve ⟨b,0,Vd⟩) A (b :: (Fl++Fa)) Fb) /\
   aF (b :: (Fl++Fr)) w ((w.setCell ⟨b,7,Vd⟩ (.pointer g)).setCell ⟨br,6,Vd⟩ (.pointer (Ve ⟨b,0,Vd⟩))):=by
 obtain⟨br,g,A,Fa,Fb,rfl,rfl,z,_,_⟩:=h.r.half;have m:=h.nd;have j:b≠br:=by rintro rfl;simp at m
 have D:(b :: (Fl++Fa)).Nodup:=by
  refine VT ?_ m;exact VU _ (VV (VY _) (VW (List.sublist_append_left Fa Fb) (VX _ _)))
 have B:aF [b] w (w.setCell ⟨b,7,Vd⟩ (.pointer g)):=aF.aY ..;have H:aF [br] (w.setCell ⟨b,7,Vd⟩ (.pointer g)) ((w.setCell ⟨b,7,Vd⟩ (.pointer g)).setCell ⟨br,6,Vd⟩ (.pointer (Ve ⟨b,0,Vd⟩))):=aF.aY ..
 have i:∀ k,k∈Fl\/k∈Fa\/k∈Fb->k≠b/\k≠br:=by
  intro k d;simp only[VE,VJ,VB,VA,not_or] at m;constructor
  ·rintro rfl;rcases d with d|d|d
   ·exact m.1.1 d
   ·exact m.1.2.2.1 d
   ·exact m.1.2.2.2 d
  ·rintro rfl;rcases d with d|d|d
   ·exact m.2.2.2 _ d _ (.inl rfl) rfl
   ·exact m.2.2.1.1.1 d
   ·exact m.2.2.1.1.2 d
 have L:cE (w.setCell ⟨b,7,Vd⟩ (.pointer g)) b x l s pl g Fl Fa:=cE.jf h.n h.c6 h.l z.l D
 have E:cE ((w.setCell ⟨b,7,Vd⟩ (.pointer g)).setCell ⟨br,6,Vd⟩ (.pointer (Ve ⟨b,0,Vd⟩))) b x l s pl g Fl Fa :=
  L.off H (by simpa using j) (fun k d=>by simpa using (i k (.inl d)).2) (fun k d=>by simpa using (i k (.inr (.inl d))).2)
 refine⟨br,g,A,Fa,Fb,rfl,rfl,z.c6,z.n.fz 6,j,E,fun w2 K C=>?_,?_⟩
 ·have J:gh ((w.setCell ⟨b,7,Vd⟩ (.pointer g)).setCell ⟨br,6,Vd⟩ (.pointer (Ve ⟨b,0,Vd⟩))) br y:=(z.n.off B (by simp;exact j.symm)).tF _;have Q:((w.setCell ⟨b,7,Vd⟩ (.pointer g)).setCell ⟨br,6,Vd⟩ (.pointer (Ve ⟨b,0,Vd⟩))).cell? ⟨br,6,Vd⟩=Ve (.pointer (Ve ⟨b,0,Vd⟩)):=zm _ _ _ (B.cell (by simp;exact j.symm) z.c6);have P:((w.setCell ⟨b,7,Vd⟩ (.pointer g)).setCell ⟨br,6,Vd⟩ (.pointer (Ve ⟨b,0,Vd⟩))).cell? ⟨br,7,Vd⟩=Ve (.pointer A):=(zS _ _ _ _ UV).trans (B.cell (by simp;exact j.symm) z.c7)
  have O:cR ((w.setCell ⟨b,7,Vd⟩ (.pointer g)).setCell ⟨br,6,Vd⟩ (.pointer (Ve ⟨b,0,Vd⟩))) t (.pointer A) Fb :=
   (z.r.off B (fun k d=>by simpa using (i k (.inr (.inr d))).1)).off H (fun k d=>by simpa using (i k (.inr (.inr d))).2)
  have q:br ∉ [b]:=by simp;exact j.symm
  refine⟨J.off C q,C.cell q Q,C.cell q P,K,O.off C (fun k d=>by simpa using (i k (.inr (.inr d))).1),?_⟩;refine IQ ?_ m;have I:(b :: (Fl++br :: (Fa++Fb))).Perm (b :: br :: (Fl++(Fa++Fb))):=V2 _ V3;refine I.trans ((V1 br b _).trans (V2 _ ?_));simp[VZ]
 ·exact ((aF.aY b w 7 _).mono UV).setCell (.inl UV) _ _
theorem CQ(w:Vh)(b:U8)(x y:aE.It)(s t r:aE.S)(u pr:U6 Vl)(Fl Fr:U5 U8)(h:cE w b x (.node y s t) r u pr Fl Fr)(T:aE.ht s<=50000)(R:aE.ht t<=50000)(Q:aE.ht r<=50000):
  Vk prog 284 #[.pointer (Ve ⟨b,0,Vd⟩)] w (kU w (b :: (Fl++Fr)) (.node y s (.node x t r))):=by
 obtain⟨O,C,B,P,A,rfl,rfl,J,H,D,q,m,l⟩:=Rn h;have L:=h.c6;have I:=h.n.fz 6;have j:aE.ht (.node x t r)<=100000:=by simp only[aE.ht];omega
 have G:=aC (zA q (zA m l));clear q m l h
 go_in
 go_wp2_with fail
 refine (vX _ b x t r B pr A Fr G.out.1 UU UU).mono ?_;rintro e w2 ⟨rfl,g,d⟩;have K:=aC (zA (G.out.2.1 w2 g d) (G.out.2.2.trans' d (fun z i=>by simp at i;subst i;exact .inl UV)));clear g d G J L H I
 go_wp2_with fail
 refine (vX _ O y s (.node x t r) C (Ve ⟨b,0,Vd⟩) P (b :: (A++Fr)) K.out.1 UU j).mono ?_;rintro e w3 ⟨rfl,g,d⟩;have M:=aC (zA g (K.out.2.trans' d (fun z i=>by simp at i;subst i;exact .inl UV)));clear g d K
 go_wp2
 go_ret;exact⟨_,_,rfl,M.out.1,(by intro k E;simp only[VA,VB] at E ⊢;grind),M.out.2⟩
theorem CR(w:Vh)(b:U8)(x y:aE.It)(s t l:aE.S)(u pl:U6 Vl)(Fl Fr:U5 U8)(h:cE w b x l (.node y s t) pl u Fl Fr)(T:aE.ht s<=50000)(R:aE.ht t<=50000)(Q:aE.ht l<=50000):
  Vk prog 283 #[.pointer (Ve ⟨b,0,Vd⟩)] w (kU w (b :: (Fl++Fr)) (.node y (.node x l s) t)):=by
 obtain⟨O,C,B,A,P,rfl,rfl,L,I,D,r,q,m⟩:=Rm h;have J:=h.c7;have H:=h.n.fz 7;have j:aE.ht (.node x l s)<=100000:=by simp only[aE.ht];omega
 have G:=aC (zA r (zA q m));clear r q m h
 go_in
 go_wp2_with fail
 refine (vX _ b x l s pl C Fl A G.out.1 UU UU).mono ?_;rintro e w2 ⟨rfl,g,d⟩;have K:=aC (zA (G.out.2.1 w2 g d) (G.out.2.2.trans' d (fun z i=>by simp at i;subst i;exact .inl UV)));clear g d G J L H I
 go_wp2_with fail
 refine (vX _ O y (.node x l s) t (Ve ⟨b,0,Vd⟩) B (b :: (Fl++A)) P K.out.1 j UU).mono ?_;rintro e w3 ⟨rfl,g,d⟩;have M:=aC (zA g (K.out.2.trans' d (fun z i=>by simp at i;subst i;exact .inl UV)));clear g d K
 go_wp2
 go_ret;exact⟨_,_,rfl,M.out.1,(by intro k E;simp only[VA,VB] at E ⊢;grind),M.out.2⟩
theorem cE.rC{x:aE.It}{l r t:aE.S}(h:cE w b x l r pl pr Fl Fr)(A:cR w2 t (.pointer u) F')(m:∀ k∈F',k∈Fl\/w.heap.size<=k)(i:aF Fl w w2):
  cE (w2.setCell ⟨b,6,Vd⟩ (.pointer u)) b x t r u pr F' Fr/\(∀ k∈b :: (F'++Fr),k∈b :: (Fl++Fr)\/w.heap.size<=k)/\aF (b :: (Fl++Fr)) w (w2.setCell ⟨b,6,Vd⟩ (.pointer u)):=by
 obtain⟨j,D,J,I,s,H,E,C⟩:=h.parts;have g:=h.lt;refine⟨cE.jV (h.n.off i j) (i.cell j h.c7) A (h.r.off i s) ?_,fun k d=>?_,?_⟩
 ·refine VE.2 ⟨fun e=>?_,VJ.2 ⟨A.nodup,C,fun y q z B e=>?_⟩⟩
  ·rcases VB.1 e with e|e
   ·rcases m b e with e|e
    ·exact j e
    ·have:=g b UV;omega
   ·exact D e
  ·subst e;rcases m y q with e|e
   ·exact s y B e
   ·have:=g y (by simp[B]);omega
 ·rcases VA.1 d with rfl|d
  ·exact .inl UV
  ·rcases VB.1 d with d|d
   ·rcases m k d with e|e
    ·exact .inl (by simp[e])
    ·exact .inr e
   ·exact .inl (by simp[d])
 ·exact (i.mono (by intro y q;simp[q])).setCell (.inl UV) _ _
theorem cE.uu{x:aE.It}{l r s:aE.S}(h:cE w b x l r pl pr Fl Fr)(A:cR w2 s (.pointer u) F')(q:∀ k∈F',k∈Fr\/w.heap.size<=k)(i:aF Fr w w2):
  cE (w2.setCell ⟨b,7,Vd⟩ (.pointer u)) b x l s pl u Fl F'/\(∀ k∈b :: (Fl++F'),k∈b :: (Fl++Fr)\/w.heap.size<=k)/\aF (b :: (Fl++Fr)) w (w2.setCell ⟨b,7,Vd⟩ (.pointer u)):=by
 obtain⟨C,m,J,I,H,t,B,E⟩:=h.parts;have g:=h.lt;refine⟨cE.jf (h.n.off i m) (i.cell m h.c6) (h.l.off i t) A ?_,fun k d=>?_,?_⟩
 ·refine VE.2 ⟨fun e=>?_,VJ.2 ⟨B,A.nodup,fun y j z D e=>?_⟩⟩
  ·rcases VB.1 e with e|e
   ·exact C e
   ·rcases q b e with e|e
    ·exact m e
    ·have:=g b UV;omega
  ·subst e;rcases q y D with e|e
   ·exact t y j e
   ·have:=g y (by simp[j]);omega
 ·rcases VA.1 d with rfl|d
  ·exact .inl UV
  ·rcases VB.1 d with d|d
   ·exact .inl (by simp[d])
   ·rcases q k d with e|e
    ·exact .inl (by simp[e])
    ·exact .inr e
 ·exact (i.mono (by intro y j;simp[j])).setCell (.inl UV) _ _
theorem kU.of{t:aE.S}{e:Ending}(h:kU w1 G t e w')(k:aF F w w1)(d:∀ k∈G,k∈F):kU w F t e w':=by
 obtain⟨u,F',rfl,m,l,j⟩:=h;exact⟨u,F',rfl,m,fun k i=>d k (l k i),k.trans' j (fun x g=>.inl (d x g))⟩
theorem TP(w:Vh)(b:U8)(x:aE.It)(l r:aE.S)(pl pr:U6 Vl)(Fl Fr:U5 U8)(h:cE w b x l r pl pr Fl Fr)(s:aE.ht l<=40000)(q:aE.ht r<=40000)(y:¬ 1<aE.ht l-aE.ht r)(t:¬ aE.ht l-aE.ht r < -1):
  Vk prog 262 #[.pointer (Ve ⟨b,0,Vd⟩)] w (kU w (b :: (Fl++Fr)) (.node x l r)):=by
 have B:=aE.jP l;have A:=aE.jP r;have k:Vp.wrap (aE.ht l-aE.ht r)=aE.ht l-aE.ht r:=cG UU UU
 go_in
 go_upto_region 1 with fail
 go_region_held3 (fun w'=>w'.cell? ⟨b,6,Vd⟩=Ve (.pointer pl)/\w'.cell? ⟨b,7,Vd⟩=Ve (.pointer pr)/\cE w' b x l r pl pr Fl Fr)
  (exact A5 h.drew)
  (first
   |(go_at_call_of 282 (VG pl);go_split_ands;refine (jO _ (cE.l UX)).mono ?_;rintro e w' ⟨rfl,rfl⟩)
   |(go_at_call_of 282 (VG pr);go_split_ands;refine (jO _ (cE.r UX)).mono ?_;rintro e w' ⟨rfl,rfl⟩))
 have H:=aC h.drew;have j:=aC ((aF.refl (b :: (Fl++Fr)) _).drew:aF _ w w.drew);clear h
 go_wp2_with fail
 refine (vX _ b x l r pl pr Fl Fr H.out UU UU).mono ?_;rintro e w2 ⟨rfl,g,d⟩;have K:=aC (zA g (j.out.trans' d (fun z i=>by simp at i;subst i;exact .inl UV)));clear g d H j
 go_wp2
 go_ret;exact⟨_,_,rfl,K.out.1,fun _ m=>m,K.out.2⟩
theorem Sd(w:Vh)(b:U8)(x y:aE.It)(s t:aE.S)(r:aE.S)(u pr:U6 Vl)(Fl Fr:U5 U8)(h:cE w b x (.node y s t) r u pr Fl Fr)(hs:aE.ht s<=40000)(ht:aE.ht t<=40000)(ho:aE.ht r<=40000)(h1:1<aE.ht (.node y s t)-aE.ht r):
  Vk prog 262 #[.pointer (Ve ⟨b,0,Vd⟩)] w (kU w (b :: (Fl++Fr)) (aE.qz x (.node y s t) r)):=by
 have g0:=aE.jP s;have g1:=aE.jP t;have g2:=aE.jP r;have g3:aE.ht (.node y s t)=1+max (aE.ht s) (aE.ht t):=rfl;obtain⟨i,L,K,Fs,Ft,rfl,rfl,D,_,_⟩:=h.l.half;have d:=aC (fun w' (k:aF [] w w')=>zA (h.same k) (D.same k));have O:=aC (fun w' (k:aF [] w w')=>jO w' (h.same k).l);generalize aE.ht (.node y s t)=hty at *;have aa:Vp.wrap (hty-aE.ht r)=hty-aE.ht r:=cG UU UU;clear g3
 by_cases hc:aE.ht s<aE.ht t
 ·have eb:aE.qz x (.node y s t) r=aE.sj (.node x (aE.si (.node y s t)) r):=by unfold aE.qz;rw[Vb (by simpa[aE.left,aE.right] using hc)]
  rw[eb];obtain⟨z,B,A,rfl⟩:=aE.yp (t:=t) UU;have gz:aE.ht (.node z B A)=1+max (aE.ht B) (aE.ht A):=rfl;have g4:=aE.jP B;have g5:=aE.jP A;have q1:aE.ht B<=40000:=UU
  have q2:aE.ht A<=40000:=UU
  have I:=aC (fun w' (k:aF [] w w')=>jO w' (D.same k).r);have J:=aC (fun w' (k:aF [] w w')=>jO w' (D.same k).l);generalize aE.ht (.node z B A)=htt at *;clear gz g4 g5 h D eb
  go_in
  go_upto_region 1 with fail
  have H:=(d.out w.drew (aF.refl _ _).drew).1.c6;have T:=(d.out w.drew (aF.refl _ _).drew).1.c7
  go_region_held3 (fun w'=>w'.cell? ⟨b,6,Vd⟩=Ve (.pointer (Ve ⟨i,0,Vd⟩))/\w'.cell? ⟨b,7,Vd⟩=Ve (.pointer pr)/\w'=w.drew)
   (exact⟨H,T,rfl⟩)
   (first
    |(go_at_call_of 282 (VG (Ve (Addr.mk i 0 Vd)));go_split_ands;refine (O.out _ (aF.refl _ _).drew).mono ?_;rintro e w' ⟨rfl,rfl⟩)
    |(go_at_call_of 282 (VG pr);go_split_ands;refine (jO _ (d.out _ (aF.refl _ _).drew).1.r).mono ?_;rintro e w' ⟨rfl,rfl⟩))
  go_upto_region 3 with fail
  have R:=(d.out w.drew.drew (aF.refl _ _).drew.drew).1.c6;have Q:=(d.out w.drew.drew (aF.refl _ _).drew.drew).2.c6;have P:=(d.out w.drew.drew (aF.refl _ _).drew.drew).2.c7
  go_region_held3 (fun w'=>w'.cell? ⟨b,6,Vd⟩=Ve (.pointer (Ve ⟨i,0,Vd⟩))/\w'.cell? ⟨i,6,Vd⟩=Ve (.pointer L)/\w'.cell? ⟨i,7,Vd⟩=Ve (.pointer K)/\w'=w.drew.drew)
   (exact⟨R,Q,P,rfl⟩)
   (first
    |(go_at_call_of 282 (VG L);go_split_ands;refine (J.out _ (aF.refl _ _).drew.drew).mono ?_;rintro e w' ⟨rfl,rfl⟩)
    |(go_at_call_of 282 (VG K);go_split_ands;refine (I.out _ (aF.refl _ _).drew.drew).mono ?_;rintro e w' ⟨rfl,rfl⟩))
  have g:=d.out w.drew.drew (aF.refl _ _).drew.drew;have U:=aC ((aF.refl (b :: ((i :: (Fs++Ft))++Fr)) _).drew.drew:aF _ w w.drew.drew);have j:=aC g;clear g d O J I
  go_wp2_with fail
  have g:=j.out;clear j;refine (CR _ i y z B A s _ _ _ _ g.2 UU UU UU).mono ?_;rintro e w2 ⟨u2,F2,rfl,E,C,q⟩;obtain⟨Y,m2,W⟩:=g.1.rC E (fun k m=>.inl (C k m)) q;have H:=q.cell (o:=6) g.1.parts.1 g.1.c6;have f6:=(q.frozen (o:=6) g.1.parts.1 g.1.n.lt).trans (g.1.n.fz 6);have M:=aC (zA Y (zA C (U.out.trans W)));clear Y m2 W E C q g
  go_wp2_with fail
  refine (CQ _ b x z (.node y s B) A r _ _ _ _ M.out.1 (by simp only[aE.ht];omega) UU UU).mono ?_;rintro e w3 m;have V:=aC (m.of M.out.2.2 (by intro k m;have:=M.out.2.1;simp only[VA,VB] at *;grind));obtain⟨u3,F3,rfl,E,C,q⟩:=m;clear E C q M H f6
  go_wp2
  go_ret;exact V.out
 ·have eb:aE.qz x (.node y s t) r=aE.sj (.node x (.node y s t) r):=by unfold aE.qz;rw[Va (by simpa[aE.left,aE.right] using hc)]
  rw[eb];have I:=aC (fun w' (k:aF [] w w')=>jO w' (D.same k).r);have J:=aC (fun w' (k:aF [] w w')=>jO w' (D.same k).l);generalize Z:aE.ht t=htt at *;clear h D eb
  go_in
  go_upto_region 1 with fail
  have H:=(d.out w.drew (aF.refl _ _).drew).1.c6;have T:=(d.out w.drew (aF.refl _ _).drew).1.c7
  go_region_held3 (fun w'=>w'.cell? ⟨b,6,Vd⟩=Ve (.pointer (Ve ⟨i,0,Vd⟩))/\w'.cell? ⟨b,7,Vd⟩=Ve (.pointer pr)/\w'=w.drew)
   (exact⟨H,T,rfl⟩)
   (first
    |(go_at_call_of 282 (VG (Ve (Addr.mk i 0 Vd)));go_split_ands;refine (O.out _ (aF.refl _ _).drew).mono ?_;rintro e w' ⟨rfl,rfl⟩)
    |(go_at_call_of 282 (VG pr);go_split_ands;refine (jO _ (d.out _ (aF.refl _ _).drew).1.r).mono ?_;rintro e w' ⟨rfl,rfl⟩))
  go_upto_region 3 with fail
  have R:=(d.out w.drew.drew (aF.refl _ _).drew.drew).1.c6;have Q:=(d.out w.drew.drew (aF.refl _ _).drew.drew).2.c6;have P:=(d.out w.drew.drew (aF.refl _ _).drew.drew).2.c7
  go_region_held3 (fun w'=>w'.cell? ⟨b,6,Vd⟩=Ve (.pointer (Ve ⟨i,0,Vd⟩))/\w'.cell? ⟨i,6,Vd⟩=Ve (.pointer L)/\w'.cell? ⟨i,7,Vd⟩=Ve (.pointer K)/\w'=w.drew.drew)
   (exact⟨R,Q,P,rfl⟩)
   (first
    |(go_at_call_of 282 (VG L);go_split_ands;refine (J.out _ (aF.refl _ _).drew.drew).mono ?_;rintro e w' ⟨rfl,rfl⟩)
    |(go_at_call_of 282 (VG K);go_split_ands;refine (I.out _ (aF.refl _ _).drew.drew).mono ?_;rintro e w' ⟨rfl,rfl⟩))
  have g:=d.out w.drew.drew (aF.refl _ _).drew.drew;have U:=aC ((aF.refl (b :: ((i :: (Fs++Ft))++Fr)) _).drew.drew:aF _ w w.drew.drew);have j:=aC g;clear g d O J I
  go_wp2_with fail
  have g:=j.out;clear j;refine (CQ _ b x y s t r _ _ _ _ g.1 UU UU UU).mono ?_;rintro e w3 m;have V:=aC (m.of U.out (fun _ m=>m));obtain⟨u3,F3,rfl,E,C,q⟩:=m;clear E C q
  go_wp2
  go_ret;exact V.out
theorem Se(w:Vh)(b:U8)(x y:aE.It)(s t:aE.S)(l:aE.S)(u pl:U6 Vl)(Fl Fr:U5 U8)(h:cE w b x l (.node y s t) pl u Fl Fr)(hs:aE.ht s<=40000)(ht:aE.ht t<=40000)(ho:aE.ht l<=40000)(h1:aE.ht l-aE.ht (.node y s t) < -1):
  Vk prog 262 #[.pointer (Ve ⟨b,0,Vd⟩)] w (kU w (b :: (Fl++Fr)) (aE.qA x l (.node y s t))):=by
 have g0:=aE.jP s;have g1:=aE.jP t;have g2:=aE.jP l;have g3:aE.ht (.node y s t)=1+max (aE.ht s) (aE.ht t):=rfl;obtain⟨i,L,K,Fs,Ft,rfl,rfl,D,_,_⟩:=h.r.half;have d:=aC (fun w' (k:aF [] w w')=>zA (h.same k) (D.same k));have O:=aC (fun w' (k:aF [] w w')=>jO w' (h.same k).r);generalize aE.ht (.node y s t)=hty at *;have aa:Vp.wrap (aE.ht l-hty)=aE.ht l-hty:=cG UU UU;have nx:¬ 1<aE.ht l-hty:=UU
 clear g3
 by_cases Z:aE.ht t<aE.ht s
 ·have eb:aE.qA x l (.node y s t)=aE.si (.node x l (aE.sj (.node y s t))):=by unfold aE.qA;rw[Vb (by simpa[aE.left,aE.right] using Z)]
  rw[eb];obtain⟨z,B,A,rfl⟩:=aE.yp (t:=s) UU;have gz:aE.ht (.node z B A)=1+max (aE.ht B) (aE.ht A):=rfl;have g4:=aE.jP B;have g5:=aE.jP A;have q1:aE.ht B<=40000:=UU
  have q2:aE.ht A<=40000:=UU
  have I:=aC (fun w' (k:aF [] w w')=>jO w' (D.same k).r);have J:=aC (fun w' (k:aF [] w w')=>jO w' (D.same k).l);generalize aE.ht (.node z B A)=hts at *;clear gz g4 g5 h D eb
  go_in
  go_upto_region 1 with fail
  have H:=(d.out w.drew (aF.refl _ _).drew).1.c6;have T:=(d.out w.drew (aF.refl _ _).drew).1.c7
  go_region_held3 (fun w'=>w'.cell? ⟨b,6,Vd⟩=Ve (.pointer pl)/\w'.cell? ⟨b,7,Vd⟩=Ve (.pointer (Ve ⟨i,0,Vd⟩))/\w'=w.drew)
   (exact⟨H,T,rfl⟩)
   (first
    |(go_at_call_of 282 (VG (Ve (Addr.mk i 0 Vd)));go_split_ands;refine (O.out _ (aF.refl _ _).drew).mono ?_;rintro e w' ⟨rfl,rfl⟩)
    |(go_at_call_of 282 (VG pl);go_split_ands;refine (jO _ (d.out _ (aF.refl _ _).drew).1.l).mono ?_;rintro e w' ⟨rfl,rfl⟩))
  go_upto_region 7 with fail
  have R:=(d.out w.drew.drew (aF.refl _ _).drew.drew).1.c7;have Q:=(d.out w.drew.drew (aF.refl _ _).drew.drew).2.c6;have P:=(d.out w.drew.drew (aF.refl _ _).drew.drew).2.c7
  go_region_held3 (fun w'=>w'.cell? ⟨b,7,Vd⟩=Ve (.pointer (Ve ⟨i,0,Vd⟩))/\w'.cell? ⟨i,6,Vd⟩=Ve (.pointer L)/\w'.cell? ⟨i,7,Vd⟩=Ve (.pointer K)/\w'=w.drew.drew)
   (exact⟨R,Q,P,rfl⟩)
   (first
    |(go_at_call_of 282 (VG L);go_split_ands;refine (J.out _ (aF.refl _ _).drew.drew).mono ?_;rintro e w' ⟨rfl,rfl⟩)
    |(go_at_call_of 282 (VG K);go_split_ands;refine (I.out _ (aF.refl _ _).drew.drew).mono ?_;rintro e w' ⟨rfl,rfl⟩))
  have g:=d.out w.drew.drew (aF.refl _ _).drew.drew;have U:=aC ((aF.refl (b :: (Fl++(i :: (Fs++Ft)))) _).drew.drew:aF _ w w.drew.drew);have j:=aC g;clear g d O J I
  go_wp2_with fail
  have g:=j.out;clear j;refine (CQ _ i y z B A t _ _ _ _ g.2 UU UU UU).mono ?_;rintro e w2 ⟨u2,F2,rfl,E,C,q⟩;obtain⟨Y,m2,W⟩:=g.1.uu E (fun k m=>.inl (C k m)) q;have H:=q.cell (o:=7) g.1.parts.2.1 g.1.c7;have f6:=(q.frozen (o:=7) g.1.parts.2.1 g.1.n.lt).trans (g.1.n.fz 7);have M:=aC (zA Y (zA C (U.out.trans W)));clear Y m2 W E C q g
  go_wp2_with fail
  refine (CR _ b x z B (.node y A t) l _ _ _ _ M.out.1 UU (by simp only[aE.ht];omega) UU).mono ?_;rintro e w3 m;have V:=aC (m.of M.out.2.2 (by intro k m;have:=M.out.2.1;simp only[VA,VB] at *;grind));obtain⟨u3,F3,rfl,E,C,q⟩:=m;clear E C q M H f6
  go_wp2
  go_ret;exact V.out
 ·have eb:aE.qA x l (.node y s t)=aE.si (.node x l (.node y s t)):=by unfold aE.qA;rw[Va (by simpa[aE.left,aE.right] using Z)]
  rw[eb];have I:=aC (fun w' (k:aF [] w w')=>jO w' (D.same k).r);have J:=aC (fun w' (k:aF [] w w')=>jO w' (D.same k).l);clear h D eb
  go_in
  go_upto_region 1 with fail
  have H:=(d.out w.drew (aF.refl _ _).drew).1.c6;have T:=(d.out w.drew (aF.refl _ _).drew).1.c7
  go_region_held3 (fun w'=>w'.cell? ⟨b,6,Vd⟩=Ve (.pointer pl)/\w'.cell? ⟨b,7,Vd⟩=Ve (.pointer (Ve ⟨i,0,Vd⟩))/\w'=w.drew)
   (exact⟨H,T,rfl⟩)
   (first
    |(go_at_call_of 282 (VG (Ve (Addr.mk i 0 Vd)));go_split_ands;refine (O.out _ (aF.refl _ _).drew).mono ?_;rintro e w' ⟨rfl,rfl⟩)
    |(go_at_call_of 282 (VG pl);go_split_ands;refine (jO _ (d.out _ (aF.refl _ _).drew).1.l).mono ?_;rintro e w' ⟨rfl,rfl⟩))
  go_upto_region 7 with fail
  have R:=(d.out w.drew.drew (aF.refl _ _).drew.drew).1.c7;have Q:=(d.out w.drew.drew (aF.refl _ _).drew.drew).2.c6;have P:=(d.out w.drew.drew (aF.refl _ _).drew.drew).2.c7
  go_region_held3 (fun w'=>w'.cell? ⟨b,7,Vd⟩=Ve (.pointer (Ve ⟨i,0,Vd⟩))/\w'.cell? ⟨i,6,Vd⟩=Ve (.pointer L)/\w'.cell? ⟨i,7,Vd⟩=Ve (.pointer K)/\w'=w.drew.drew)
   (exact⟨R,Q,P,rfl⟩)
   (first
    |(go_at_call_of 282 (VG L);go_split_ands;refine (J.out _ (aF.refl _ _).drew.drew).mono ?_;rintro e w' ⟨rfl,rfl⟩)
    |(go_at_call_of 282 (VG K);go_split_ands;refine (I.out _ (aF.refl _ _).drew.drew).mono ?_;rintro e w' ⟨rfl,rfl⟩))
  have g:=d.out w.drew.drew (aF.refl _ _).drew.drew;have U:=aC ((aF.refl (b :: (Fl++(i :: (Fs++Ft)))) _).drew.drew:aF _ w w.drew.drew);have j:=aC g;clear g d O J I
  go_wp2_with fail
  have g:=j.out;clear j;refine (CR _ b x y s t l _ _ _ _ g.1 UU UU UU).mono ?_;rintro e w3 m;have V:=aC (m.of U.out (fun _ m=>m));obtain⟨u3,F3,rfl,E,C,q⟩:=m;clear E C q
  go_wp2
  go_ret;exact V.out
theorem sU(w:Vh)(b:U8)(x:aE.It)(l r:aE.S)(pl pr:U6 Vl)(Fl Fr:U5 U8)(h:cE w b x l r pl pr Fl Fr)(k:aE.ht l<=30000)(j:aE.ht r<=30000):
  Vk prog 262 #[.pointer (Ve ⟨b,0,Vd⟩)] w (kU w (b :: (Fl++Fr)) (aE.fQ x l r)):=by
 have q:=aE.jP l;have m:=aE.jP r
 by_cases d:1<aE.ht l-aE.ht r
 ·have e:aE.fQ x l r=aE.qz x l r:=by unfold aE.fQ;rw[Vb d]
  rw[e];obtain⟨y,s,t,rfl⟩:=aE.yp (t:=l) UU;have i:aE.ht (.node y s t)=1+max (aE.ht s) (aE.ht t):=rfl;exact Sd w b x y s t r pl pr Fl Fr h UU UU UU d
 ·by_cases g:aE.ht l-aE.ht r < -1
  ·have e:aE.fQ x l r=aE.qA x l r:=by unfold aE.fQ;rw[Va d,Vb g]
   rw[e];obtain⟨y,s,t,rfl⟩:=aE.yp (t:=r) UU;have i:aE.ht (.node y s t)=1+max (aE.ht s) (aE.ht t):=rfl;exact Se w b x y s t l pr pl Fl Fr h UU UU UU g
  ·have e:aE.fQ x l r=.node x l r:=by unfold aE.fQ;rw[Va d,Va g]
   rw[e];exact TP w b x l r pl pr Fl Fr h UU UU d g
def ly(a b:U9):U9:=if a<b then -1 else if b<a then 1 else 0
theorem BV(a:U9)(w:Vh):Vk prog 279 #[.int .i64 a] w fun e w'=>e=.returned (.bool Vf)/\w'=w:=by
 go_in
 go_wp2;go_ret;exact⟨oa UV,rfl⟩
theorem yx(a b:U9)(w:Vh):Vk prog 251 #[.int .i64 a,.int .i64 b] w fun e w'=>e=.returned (.int .i64 (ly a b))/\w'=w:=by
 by_cases d:a<b
 ·go_in
  go_wp2_with (go_at_call 279;refine (BV _ _).mono ?_;rintro e w' ⟨rfl,rfl⟩)
  go_ret;exact⟨gL (by simp[ly,d]),rfl⟩
 ·by_cases g:b<a
  ·go_in
   go_wp2_with (go_at_call 279;refine (BV _ _).mono ?_;rintro e w' ⟨rfl,rfl⟩)
   go_ret;exact⟨gL (by rw[ly,Va UU,Vb UU]),rfl⟩
  ·go_in
   go_wp2_with (go_at_call 279;refine (BV _ _).mono ?_;rintro e w' ⟨rfl,rfl⟩)
   go_ret;exact⟨gL (by rw[ly,Va UU,Va UU]),rfl⟩
def oU(x y:U9):U9:=if x=0 then y else x
theorem Fq(A:U8)(x y:U9)(w:Vh)(l:w.cell? ⟨A,0,Vd⟩=Ve (.int .i64 x))(k:w.cell? ⟨A,1,Vd⟩=Ve (.int .i64 y)):
  Vk prog 250 #[.slice (Ve ⟨A,0,Vd⟩) 2 2] w fun e w'=>e=.returned (.int .i64 (oU x y))/\w'=w:=by
 go_in
 go_wp2
 go_loop [5,8] (fun _ i=>i=.int .i64 0\/(x=0/\i=.int .i64 1)\/(x=0/\y=0/\i=.int .i64 2)) (fun _ i=>2-(intOf i).toNat)
 case atStart=>exact .inl rfl
 case round =>
  rcases hrel with rfl|⟨d,rfl⟩|⟨d,g,rfl⟩
  ·by_cases d:x=0
   ·subst d;go_wp2
    go_round
    case rel=>simp
    case measure=>simp[intOf]
   ·have j:(x != 0)=Vg:=by simpa using d
    go_wp2;go_ret;exact⟨gL (by rw[oU,Va d]),rfl⟩
  ·subst d
   by_cases g:y=0
   ·subst g;go_wp2
    go_round
    case rel=>simp
    case measure=>simp[intOf]
   ·have h:(y != 0)=Vg:=by simpa using g
    go_wp2;go_ret;exact⟨gL (by rw[oU,Vb rfl]),rfl⟩
  ·subst d;subst g;go_wp2;go_ret;exact⟨gL (by simp[oU]),rfl⟩
theorem Pe(f n:U9)(x:aE.It):oU (ly f x.f) (ly n x.n)=aE.side f n x:=by
 unfold oU ly aE.side
 by_cases d:f<x.f
 ·simp[d]
 ·by_cases g:x.f<f
  ·simp[d,g]
  ·simp[d,g]
theorem I5(b:U8)(x:aE.It)(f n:U9)(w:Vh)(h:gh w b x):
  Vk prog 263 #[.pointer (Ve ⟨b,0,Vd⟩),.int .i64 f,.int .i64 n] w fun e w'=>e=.returned (.int .i64 (aE.side f n x))/\Vj w.heap.size w w':=by
 have g:=h.c0;have d:=h.c2;rw[<- Pe];have HP:=aC (fun w'=>yx f x.f w');have i:=aC (fun w'=>yx n x.n w');generalize ly f x.f=p at *;generalize ly n x.n=q at *;clear h
 go_in
 go_upto_region 1 with fail
 go_region_held3 (fun w'=>w'.cell? ⟨b,0,Vd⟩=Ve (.int .i64 x.f)/\w'.cell? ⟨b,2,Vd⟩=Ve (.int .i64 x.n)/\Vj w.heap.size w w')
  (first
   |exact⟨g,d,dM _⟩
   |(go_split_ands;refine⟨?_,?_,?_⟩ <;> assumption)
   |(go_split_ands;exact⟨aN ((zr _ _).alloc (zq _) _) UX,aN ((zr _ _).alloc (zq _) _) UX,bA UX ((zr _ _).alloc (zq _) _) (zq _)⟩))
  (first
   |(go_at_call_of 251 (V4 .i64 f);refine (HP.out _).mono ?_;rintro e w' ⟨rfl,rfl⟩)
   |(go_at_call_of 251 (V4 .i64 n);refine (i.out _).mono ?_;rintro e w' ⟨rfl,rfl⟩)
   |(go_at_call 250;refine (Fq _ p q _ UV UV).mono ?_;rintro e w' ⟨rfl,rfl⟩))
 all_goals
  have j:Hid (Vj w.heap.size w (VM (VK w (.cells #[.int .i64 p,.int .i64 q] 3)))):=((zr _ _).alloc (zq _) _).drew
  go_wp2
  go_ret;exact⟨rfl,j.out⟩
end Go.Proofs.YtfigmlfdnickmaaGreatDoor
