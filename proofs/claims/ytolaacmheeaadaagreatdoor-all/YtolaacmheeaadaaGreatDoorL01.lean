import Derived.Test.YtolaacmheeaadaaGreatDoorProg
import Derived.WalkKit
import Derived.WalkSpells
import Derived.WalkLawsBesides
import Derived.Deep.QuietTactic
import Derived.BigQuiet
import Derived.Deep.RegionHeld3
import Derived.Deep.RegionWith
import Derived.Deep.CutRange
set_option maxRecDepth 100000
set_option maxHeartbeats 8000000
open Go.Proofs.Tryz
open _root_ renaming List->Xo,Option->Xp,Bool->Xq,Nat->Xr,Int->Xs,if_neg->Xt,if_pos->Xu,List->J
open Option renaming none->Xw,some->Xx,none->Z,some->U
open Bool renaming false->Xy,true->Xz,not_eq_true->XY,false_or->XZ,not_false->X0,not_true->X4,false_eq_true->X5,true_or->X6
open Go renaming World->XA,Value->XC,Calls->XE,Addr->XF
open Go.RowKit renaming Below->XD,Below->XU
open Nat renaming le_refl->XT,le_trans->XV
open Go.Ending renaming returned->XR
open Go.IntKind renaming i64->XQ,i64->Y
open Go.World renaming block_lt_of_cell?->XW,frozen?->XX,cell?_setCell_same->Yc,setCell->Ye,alloc->Yh,cell?->Yi,drew->Yj
open Int renaming add_assoc->X7,zero_add->Yf
open List renaming mem_cons->X8,mem_append->X9,nodup_nil->Ya,nodup_cons->Yb,nodup_append->Yg,cons_append->Yk,pairwise_cons->Yl,filter_append->Ym,filter_cons->Yn,filter_eq_nil_iff->Yp,sublist_cons_self->Yu,perm_middle->Yx
open And renaming intro->Yd
open Go.Value renaming pointer->XI,int->XH,tuple->XM,agg->XN,int->V
open List.Pairwise renaming filter->Yo
open List.Sublist renaming nodup->Yq,cons_cons->Yr,append->Ys,trans->Yt,refl->Yv
open List.Perm renaming cons->Yw
open Go.Obj renaming cells->XS
namespace Go.Proofs.YtolaacmheeaadaaGreatDoor
variable{a c hi level lo long st y5 y6:Xs}{f:Xs->Xs}{F F' Fl Fr G:Xo Xr}{M N b bk fn n o:Xr}{pl pr u:Xp XF}{p v:XC}{X w w' w'' w1 w2 w4:XA}
theorem O{p:Prop}(h:p:=by omega):p:=h
theorem Xb{p:Prop}(h:p:=by omega):p:=h
theorem Xc{p:Prop}(h:p:=by simp):p:=h
theorem Xd{p:Prop}(h:p:=by decide):p:=h
theorem Xe{p:Prop}(h:p:=by assumption):p:=h
theorem Xf{p:Prop}(h:p:=by decide +kernel):p:=h
theorem Xg{p:Prop}(h:p:=by kernel_rfl):p:=h
theorem Xh{p:Prop}(h:p:=by (simp;omega)):p:=h
theorem Xi{p:Prop}(h:p:=by grind):p:=h
theorem Xj{p:Prop}(h:p:=by simp_all):p:=h
theorem Xk{p:Prop}(h:p:=by (unfold maxLen;omega)):p:=h
theorem Xl{p:Prop}(h:p:=by simp[Value.oneCell']):p:=h
theorem Xm{p:Prop}(h:p:=by simp[Value.ownBlock]):p:=h
open Go.RowKit
instance:Coe XA Xr:=⟨fun w=>w.heap.size⟩
instance:Coe Xs XC:=⟨XH XQ⟩
instance:Coe Xr XF:=⟨fun b=>⟨b,0,Xw⟩⟩
instance:Coe Xr (Xp XF):=⟨fun b=>Xx ⟨b,0,Xw⟩⟩
instance:Coe Xr XC:=⟨fun b=>XI (Xx ⟨b,0,Xw⟩)⟩
instance:Coe Unit XC:=⟨fun _=>.slice Xw 0 0⟩
instance:Coe Xq XC:=⟨.bool⟩
instance:Coe ByteArray XC:=⟨.string⟩
instance:Coe (Xp XF) XC:=⟨XI⟩
instance(b o:Xr):CoeDep (Xr×Xr) (b,o) XF:=⟨⟨b,o,Xw⟩⟩
instance(b:XA)(o:Xr):CoeDep (XA×Xr) (b,o) XF:=⟨⟨b.heap.size,o,Xw⟩⟩
theorem aJ{n:Xr}:n<=n:=XT n
theorem fJ{b:Xr}{w:XA}:XU b w w:=.refl b w
theorem aS{w:XA}{o:Obj}:XU w.heap.size w (w.alloc o):=(fJ).alloc aJ o
theorem bD{w:XA}{a b:XF}{v:XC}(h:a≠b):(w.setCell a v).cell? b=w.cell? b:=w.cell?_setCell_other a b v h
theorem aU{p q:Prop}(h:p)(e:p=q:=by (simp)):q:=e▸h
theorem aK{P:Program}{f:FuncId}{a:Array XC}{w:XA}{v:Ending}{R:XA->Prop}{Q:Ending->XA->Prop}(h:XE P f a w fun e w'=>e=v/\R w')(k:∀ w',R w'->Q v w'):XE P f a w Q:=h.mono (by rintro e w' ⟨rfl,r⟩;exact k _ r)
theorem aZ{P:Program}{f:FuncId}{a:Array XC}{w W:XA}{v:Ending}{Q:Ending->XA->Prop}(h:XE P f a w fun e w'=>e=v/\w'=W)(k:Q v W):XE P f a w Q:=h.mono (by rintro e w' ⟨rfl,rfl⟩;exact k)
theorem zq(n:Xr):n<=n:=XT n
theorem zS(w:XA)(a b:XF)(v:XC)(h:a≠b):(w.setCell a v).cell? b=w.cell? b:=w.cell?_setCell_other a b v h
theorem zr(b:Xr)(w:XA):XD b w w:=Below.refl b w
theorem zL{m k:Xr}(h:n<m)(g:m<=k):n<k:=Nat.lt_of_lt_of_le h g
theorem zm(w:XA)(a:XF)(v:XC){u:XC}(h:w.cell? a=U u):(w.setCell a v).cell? a=U v:=w.cell?_setCell_same a v h
theorem zF(w:XA)(a b:XF)(v:XC):(w.setCell a v).frozen? b=w.frozen? b:=w.frozen?_setCell a b v
theorem zo{a:XF}(h:w'.heap[a.block]?=w.heap[a.block]?):w'.cell? a=w.cell? a:=World.cell?_of_block h
theorem zN(n:Xr):0<=n:=n.zero_le
theorem zg{α:Type _}{l:J α}(h:n<l.length):l[n]∈l:=List.getElem_mem h
theorem qD{a b:Xq}(h:a=b):XR a=XR b:=by rw[h]
theorem jx{k:IntKind}{b:Xs}(h:a=b):XR (V k a)=XR (V k b):=by rw[h]
theorem aB{p:Prop}(h:p):Hid p:=h
theorem dJ{x:Xs}(g:-1000000000000<=x)(d:x<=1000000000000):Y.wrap x=x:=by rw[IntKind.wrap_i64];omega
theorem vU(x y:Xs):(if x<y then y else x)=max x y:=by split <;> omega
theorem JC(x y:Xs):(if y<x then y else x)=min x y:=by split <;> omega
theorem Dz(c x y:Xs):(c+if x<y then y else x)=c+max x y:=by split <;> omega
theorem Tb(c x y:Xs):(c+if y<x then y else x)=c+min x y:=by split <;> omega
theorem bV{B:Xr}(h:XD B w w')(k:XD w' w' w'')(d:B<=w):XD B w w'':=h.trans (k.mono (XV d h.size))
theorem eN(w:XA):XD w w w.drew:=fJ.drew
structure aH(F:J Xr)(w w':XA):Prop where
 os:w'.os=w.os
 tape:w'.tape=w.tape
 output:w'.output=w.output
 size:w<=w'.heap.size
 block:∀ k,k<w.heap.size->k ∉ F->w'.heap[k]?=w.heap[k]?
theorem aH.refl(F:J Xr)(w:XA):aH F w w:=⟨rfl,rfl,rfl,XT _,fun _ _ _=>rfl⟩
theorem aH.trans'{a b c:XA}(h:aH F a b)(k:aH G b c)(j:∀ x∈G,x∈F\/a<=x):aH F a c :=
 ⟨k.os.trans h.os,k.tape.trans h.tape,k.output.trans h.output,XV h.size k.size,fun i hi d =>(k.block i (zL hi h.size) (fun g=>by grind)).trans (h.block i hi d)⟩
theorem aH.trans{a b c:XA}(h:aH F a b)(k:aH F b c):aH F a c:=h.trans' k (fun _ d=>.inl d)
theorem aH.mono{a b:XA}(h:aH F a b)(g:∀ x∈F,x∈G):aH G a b :=⟨h.os,h.tape,h.output,h.size,fun i hi j=>h.block i hi (fun d=>j (g i d))⟩
theorem aH.aD(h:XD w w w'):aH F w w':=⟨h.os,h.tape,h.output,h.size,fun k d _=>h.block k d⟩
theorem aH.drew(h:aH F w w'):aH F w w'.drew:=⟨h.os,h.tape,h.output,h.size,h.block⟩
theorem aH.alloc(h:aH F w w')(o:Obj):aH F w (w'.alloc o) :=h.trans (aH.aD (fJ.alloc aJ o))
theorem aH.bN(R:Xr)(w':XA)(o:Xr)(v:XC):aH [R] w' (w'.setCell (R,o) v) :=⟨(Below.setCell (B:=0) (Below.refl 0 w') (zN _) v).os,(Below.setCell (B:=0) (Below.refl 0 w') (zN _) v).tape,(Below.setCell (B:=0) (Below.refl 0 w') (zN _) v).output,(Below.setCell (B:=0) (Below.refl 0 w') (p:=(R,o)) (zN _) v).size,fun k _ d=>Below.heap_setCell w' _ v k (aU d)⟩
theorem aH.setCell(h:aH F w w'){R:Xr}(g:R∈F\/w<=R)(o:Xr)(v:XC):aH F w (w'.setCell (R,o) v) :=h.trans' (aH.bN R w' o v) (fun x d=>by grind)
theorem aH.cell(h:aH F w w')(d:b ∉ F)(g:w.cell? (b,o)=U v):w'.cell? (b,o)=U v :=(zo (w:=w) (h.block b (XW _ _ g) d)).trans g
theorem aH.frozen(h:aH F w w')(d:b ∉ F)(g:b<w):w'.frozen? (b,o)=w.frozen? (b,o):=by have e:=h.block b g d;simp only[XX,e]
theorem aT(h:XD w w w')(d:w.cell? (b,o)=U v):w'.cell? (b,o)=U v :=(h.cell (p:=(b,o)) (XW _ _ d)).trans d
namespace aL
inductive T where
 |nil:T
 |node (a:Xs) (l r:T):T
def top:T->Xs
 |.nil=>0
 |.node a l r=>a+max (top l) (top r)
def bot:T->Xs
 |.nil=>0
 |.node a l r=>a+min (bot l) (bot r)
def isNil:T->Xq
 |.nil=>Xz
 |.node ..=>Xy
def val:T->Xs
 |.nil=>0
 |.node a _ _=>a
def fst:T->T
 |.nil=>.nil
 |.node _ l _=>l
def snd:T->T
 |.nil=>.nil
 |.node _ _ r=>r
def flat(t:T):Xq:=isNil (fst t) && isNil (snd t)
def mk(a:Xs)(l r:T):T:=if a=0/\isNil l=Xz/\isNil r=Xz then .nil else .node a l r
theorem wO{t:T}(h:isNil t=Xz):t=.nil:=by cases t <;> simp_all [isNil]
@[simp] theorem val_mk (a:Xs) (l r:T):val (mk a l r)=a:=by unfold mk;split;rename_i h;simp[val,h.1];rfl
@[simp] theorem fst_mk (a:Xs) (l r:T):fst (mk a l r)=l:=Xj
@[simp] theorem snd_mk (a:Xs) (l r:T):snd (mk a l r)=r:=Xj
def bB(lo hi:Xs):Xs:=(lo+hi) / 2
def apart(lo hi a b:Xs):Xq:=decide (hi<=a) || decide (b<=lo)
def within(lo hi a b:Xs):Xq:=decide (a<=lo) && decide (hi<=b)
theorem vp{b:Xs}:apart lo hi a b=Xz↔hi<=a\/b<=lo:=by simp[apart]
theorem oI{b:Xs}:apart lo hi a b=Xy↔a<hi/\lo<b:=by rw[<- XY,vp];omega
theorem wN{b:Xs}:within lo hi a b=Xz↔a<=lo/\hi<=b:=by simp[within]
theorem za{b:Xs}:within lo hi a b=Xy↔¬ (a<=lo/\hi<=b):=by rw[<- XY,wN]
def iQ:Xr->T->Xs->Xs->Xs->Xs->Xs->T
 |n,t,lo,hi,a,b,u =>
  if apart lo hi a b then t
  else if within lo hi a b then mk (val t+u) (fst t) (snd t)
  else match n with
   |0=>t
   |n+1=>mk (val t) (iQ n (fst t) lo (bB lo hi) a b u) (iQ n (snd t) (bB lo hi) hi a b u)
def canon:Xr->(J Xq->Xs)->Xs->Xs->T
 |0,A,_,_=>mk (A []) .nil .nil
 |n+1,A,lo,hi =>
  if hi-lo<=1 then mk (A []) .nil .nil
  else mk (A []) (canon n (fun p=>A (Xy :: p)) lo (bB lo hi)) (canon n (fun p=>A (Xz :: p)) (bB lo hi) hi)
def jJ:Xs->Xs->Xs->Xs->J Xq->Xs
 |lo,hi,a,b,[]=>if apart lo hi a b then 0 else if within lo hi a b then 1 else 0
 |lo,hi,a,b,Xy :: p=>if apart lo hi a b then 0 else if within lo hi a b then 0 else jJ lo (bB lo hi) a b p
 |lo,hi,a,b,Xz :: p=>if apart lo hi a b then 0 else if within lo hi a b then 0 else jJ (bB lo hi) hi a b p
theorem Fk{b:Xs}(h:apart lo hi a b=Xz):∀ p,jJ lo hi a b p=0
 |[]=>by simp[jJ,h]
 |false :: p=>by simp[jJ,h]
 |true :: p=>by simp[jJ,h]
theorem Jt:∀ (p:J Xq)(lo hi a b:Xs),0<=jJ lo hi a b p/\jJ lo hi a b p<=1:=by simp_all[jJ,Jt]
theorem EF(h:hi-lo<=2 ^ (n+1)):bB lo hi-lo<=2 ^ n/\hi-bB lo hi<=2 ^ n:=by unfold bB;rw[Int.pow_succ] at h;omega
theorem b5v:∀ {A B:J Xq->Xs}{lo hi:Xs},(∀ p,A p=B p)->canon n A lo hi=canon n B lo hi:=by intro A B lo hi h;rw[show A=B from funext h]
theorem W6:∀ (n:Xr)(A:J Xq->Xs)(lo hi a b u:Xs),lo<hi->hi-lo<=2 ^ n->a<b ->iQ n (canon n A lo hi) lo hi a b u=canon n (fun p=>A p+u*jJ lo hi a b p) lo hi:=by
 intro n;induction n with
 |zero =>
  intro A lo hi a b u q i j;have i:hi-lo<=1:=aU i;unfold iQ;split
  .rename_i h;simp[canon,Fk h]
  .rename_i h
   rw[XY,oI] at h;have d:within lo hi a b=Xz:=wN.2 O;have g:apart lo hi a b=Xy:=oI.2 h;rw[Xu d];simp[canon,jJ,d,g]
 |succ n ih =>
  intro A lo hi a b u q i j;unfold iQ;split
  .rename_i h;exact b5v (by intro p;simp[Fk h])
  .rename_i h
   have g:apart lo hi a b=Xy:=aU h;split
   .rename_i d
    simp only[canon];split
    .simp[jJ,g,d]
    .simp[jJ,g,d]
   .rename_i d
    have d:within lo hi a b=Xy:=aU d;have s:=oI.1 g;have r:=za.1 d;have m:¬ hi-lo<=1:=O;have k:lo<bB lo hi/\bB lo hi<hi:=by unfold bB;omega
    have l:=EF i;simp only[canon,Xt m,val_mk,fst_mk,snd_mk];rw[ih _ _ _ _ _ _ k.1 l.1 j,ih _ _ _ _ _ _ k.2 l.2 j];simp[jJ,g,d]
def fh:T->Xs->Xs->Xs->Xs
 |.nil,_,_,_=>0
 |.node a l r,lo,hi,x=>a+if x<bB lo hi then fh l lo (bB lo hi) x else fh r (bB lo hi) hi x
theorem ry(a:Xs)(l r:T)(lo hi x:Xs):fh (mk a l r) lo hi x=a+if x<bB lo hi then fh l lo (bB lo hi) x else fh r (bB lo hi) hi x:=by unfold mk;split;rename_i h;rw[wO h.2.1,wO h.2.2];simp[fh,h.1];rfl
def Good:T->Xs->Xs->Prop
 |.nil,_,_=>True
 |.node a l r,lo,hi=>0<=a/\((isNil l=Xz/\isNil r=Xz)\/2<=hi-lo)/\Good l lo (bB lo hi)/\Good r (bB lo hi) hi
theorem Good.mk{l r:T}(i:0<=a)(h:(isNil l=Xz/\isNil r=Xz)\/2<=hi-lo)(g:Good l lo (bB lo hi))(d:Good r (bB lo hi) hi):Good (aL.mk a l r) lo hi:=by grind[Good.mk,isNil,Good,bB]
theorem b8K:∀ (n:Xr)(A:J Xq->Xs)(lo hi:Xs),(∀ p,0<=A p)->Good (canon n A lo hi) lo hi:=by
 intro n;induction n with
 |zero=>intro A lo hi h;exact Good.mk (h _) (.inl ⟨rfl,rfl⟩) trivial trivial
 |succ n ih =>intro A lo hi h;simp only[canon];split;exact Good.mk (h _) (.inl ⟨rfl,rfl⟩) trivial trivial;exact Good.mk (h _) (.inr O) (ih _ _ _ (fun p=>h _)) (ih _ _ _ (fun p=>h _))
theorem b1L:∀ (n:Xr)(A:J Xq->Xs)(lo hi a b u x:Xs),lo<=x->x<hi->hi-lo<=2 ^ n->a<b ->fh (canon n (fun p=>A p+u*jJ lo hi a b p) lo hi) lo hi x=fh (canon n A lo hi) lo hi x+if a<=x/\x<b then u else 0:=by
 intro n;induction n with
 |zero =>
  intro A lo hi a b u x r q i k;have i:hi-lo<=1:=aU i;simp only[canon,ry,fh,jJ]
  cases d:apart lo hi a b
  .have j:=oI.1 d;have g:within lo hi a b=Xz:=wN.2 O;rw[g,Xu (by omega:a<=x/\x<b)];simp
  .have j:=vp.1 d;rw[Xt (by omega:¬ (a<=x/\x<b))];simp
 |succ n ih =>
  intro A lo hi a b u x r q i k;simp only[canon];have l:=EF i
  cases d:apart lo hi a b
  .have j:=oI.1 d
   cases g:within lo hi a b
   .have s:=za.1 g;have m:¬ hi-lo<=1:=O
    rw[Xt m,Xt m,ry,ry];simp only[jJ,d,g];by_cases h:x<bB lo hi;rw[Xu h,Xu h];have:=ih (fun p=>A (Xy :: p)) lo (bB lo hi) a b u x r h l.1 k;simp at this ⊢;omega;rw[Xt h,Xt h];have:=ih (fun p=>A (Xz :: p)) (bB lo hi) hi a b u x O q l.2 k;simp at this ⊢;omega
   .have s:=wN.1 g;rw[Xu (by omega:a<=x/\x<b)]
    split;rw[ry,ry];simp[jJ,d,g,fh];rw[ry,ry];simp[jJ,d,g];omega
  .have j:=vp.1 d;rw[Xt (by omega:¬ (a<=x/\x<b))];simp[Fk d]
theorem b0h:∀ (n:Xr)(lo hi x:Xs),fh (canon n (fun _=>0) lo hi) lo hi x=0:=by
 intro n;induction n with
 |zero=>intro lo hi x;simp[canon,ry,fh]
 |succ n ih =>intro lo hi x;simp only[canon];split;simp[ry,fh];rw[ry,ih,ih];simp
theorem BA:∀ (t:T)(lo hi x:Xs),Good t lo hi->0<=fh t lo hi x:=by
 intro t;induction t with
 |nil=>intro lo hi x _;simp[fh]
 |node a l r ihl ihr =>intro lo hi x h;have i:=ihl lo (bB lo hi) x h.2.2.1;have g:=ihr (bB lo hi) hi x h.2.2.2;have d:=h.1;simp only[fh];split <;> omega
theorem wm{t:T}(h:isNil t=Xz):top t=0/\bot t=0:=by rw[wO h];exact⟨rfl,rfl⟩
theorem wu{t:T}(h:isNil t=Xz)(lo hi x:Xs):fh t lo hi x=0:=by rw[wO h];rfl
theorem yu:∀ (t:T)(lo hi:Xs),lo<hi->Good t lo hi->(∀ x,lo<=x->x<hi->fh t lo hi x<=top t)/\∃ x,lo<=x/\x<hi/\fh t lo hi x=top t:=by
 intro t;induction t with
 |nil=>intro lo hi h _;exact⟨fun x _ _=>by simp[fh,top],lo,O,h,rfl⟩
 |node a l r ihl ihr =>
  intro lo hi h g;rcases g.2.1 with ⟨j,i⟩|z
  .have m:=wm j;have k:=wm i;simp only[fh,top,wu j,wu i,m,k];exact⟨fun x _ _=>by grind,lo,O,h,by grind⟩
  .have d:lo<bB lo hi/\bB lo hi<hi:=by unfold bB;omega
   let⟨l1,x1,l2,l3,l4⟩:=ihl lo (bB lo hi) d.1 g.2.2.1;let⟨r1,x2,r2,r3,r4⟩:=ihr (bB lo hi) hi d.2 g.2.2.2;simp only[fh,top];refine⟨fun x s q=>?_,?_⟩
   .split
    .have:=l1 x s O;omega
    .have:=r1 x O q;omega
   .by_cases y:top r<=top l
    .exact⟨x1,l2,O,by grind⟩
    .exact⟨x2,O,r3,by grind⟩
theorem Tp:∀ (t:T)(lo hi:Xs),lo<hi->Good t lo hi->(∀ x,lo<=x->x<hi->bot t<=fh t lo hi x)/\∃ x,lo<=x/\x<hi/\fh t lo hi x=bot t:=by
 intro t;induction t with
 |nil=>intro lo hi h _;exact⟨fun x _ _=>by simp[fh,bot],lo,O,h,rfl⟩
 |node a l r ihl ihr =>
  intro lo hi h g;rcases g.2.1 with ⟨j,i⟩|z
  .have m:=wm j;have k:=wm i;simp only[fh,bot,wu j,wu i,m,k];exact⟨fun x _ _=>by grind,lo,O,h,by grind⟩
  .have d:lo<bB lo hi/\bB lo hi<hi:=by unfold bB;omega
   let⟨l1,x1,l2,l3,l4⟩:=ihl lo (bB lo hi) d.1 g.2.2.1;let⟨r1,x2,r2,r3,r4⟩:=ihr (bB lo hi) hi d.2 g.2.2.2;simp only[fh,bot];refine⟨fun x s q=>?_,?_⟩
   .split
    .have:=l1 x s O;omega
    .have:=r1 x O q;omega
   .by_cases y:bot l<=bot r
    .exact⟨x1,l2,O,by grind⟩
    .exact⟨x2,O,r3,by grind⟩
def ic:T->Xs->Xs->Xs->Xs->Xs
 |.nil,_,_,_,_=>0
 |.node c l r,lo,hi,a,b =>
  if apart lo hi a b then 0
  else if within lo hi a b then c+max (top l) (top r)
  else c+max (ic l lo (bB lo hi) a b) (ic r (bB lo hi) hi a b)
theorem Bm{t:T}{b:Xs}(h:apart lo hi a b=Xz):ic t lo hi a b=0:=by
 cases t <;> simp[ic,h]
theorem Kr:∀ (t:T)(lo hi a b:Xs),lo<hi->a<b->Good t lo hi->apart lo hi a b=Xy ->0<=ic t lo hi a b/\(∀ x,lo<=x->x<hi->a<=x->x<b->fh t lo hi x<=ic t lo hi a b)/\∃ x,lo<=x/\x<hi/\a<=x/\x<b/\fh t lo hi x=ic t lo hi a b:=by
 intro t;induction t with
 |nil =>intro lo hi a b h s _ m;have:=oI.1 m;exact⟨Int.le_refl _,fun x _ _ _ _=>by simp[fh,ic],max lo a,O,O,O,O,rfl⟩
 |node c l r ihl ihr =>
  intro lo hi a b h s g m;have E:=oI.1 m
  cases q:within lo hi a b
  .have A:=za.1 q;have B:lo<bB lo hi/\bB lo hi<hi:=by unfold bB;omega
   have e:ic (.node c l r) lo hi a b=c+max (ic l lo (bB lo hi) a b) (ic r (bB lo hi) hi a b):=by simp[ic,m,q]
   have I:=g.1;rw[e];simp only[fh]
   cases pl:apart lo (bB lo hi) a b
   .let⟨l0,l1,x1,l2,l3,l4,l5,l6⟩:=ihl lo (bB lo hi) a b B.1 s g.2.2.1 pl
    cases pr:apart (bB lo hi) hi a b
    .let⟨r0,r1,x2,r2,r3,r4,r5,r6⟩:=ihr (bB lo hi) hi a b B.2 s g.2.2.2 pr;refine⟨O,fun x k j i d=>?_,?_⟩
     .split
      .have:=l1 x k O i d;omega
      .have:=r1 x O j i d;omega
     .by_cases H:ic r (bB lo hi) hi a b<=ic l lo (bB lo hi) a b
      .exact⟨x1,l2,O,l4,l5,by grind⟩
      .exact⟨x2,O,r3,r4,r5,by grind⟩
    .have C:=vp.1 pr;have z:=Bm (t:=r) pr;refine⟨O,fun x k j i d=>?_,x1,l2,O,l4,l5,by grind⟩;rw[Xu O];have:=l1 x k O i d;omega
   .have D:=vp.1 pl;have z:=Bm (t:=l) pl;have pr:apart (bB lo hi) hi a b=Xy:=oI.2 O;let⟨r0,r1,x2,r2,r3,r4,r5,r6⟩:=ihr (bB lo hi) hi a b B.2 s g.2.2.2 pr;refine⟨O,fun x k j i d=>?_,x2,O,r3,r4,r5,by grind⟩;rw[Xt O];have:=r1 x O j i d;omega
  .have A:=wN.1 q;have e:ic (.node c l r) lo hi a b=top (.node c l r):=by simp[ic,m,q,top]
   let⟨t1,x,t2,t3,t4⟩:=yu (.node c l r) lo hi h g;rw[e];have:=BA (.node c l r) lo hi x g;exact⟨O,fun y k j _ _=>t1 y k j,x,t2,t3,O,O,t4⟩
def kP(d:Xq)(level:Xs)(t:T)(c:Xs):Xq:=if d then decide (level<c+top t) else decide (c+bot t<=level)
def want(d:Xq)(level x:Xs):Prop:=if d then level<x else x<=level
def fm(d:Xq)(level:Xs):T->Xs->Xs->Xs->Xs->Xs->Xp Xs
 |.nil,lo,hi,a,b,c=>if apart lo hi a b || !kP d level .nil c then Z else U (max lo a)
 |.node v l r,lo,hi,a,b,c =>
  if apart lo hi a b || !kP d level (.node v l r) c then Z
  else if isNil l && isNil r then U (max lo a)
  else match fm d level l lo (bB lo hi) a b (c+v) with
   |some x=>U x
   |none=>fm d level r (bB lo hi) hi a b (c+v)
theorem KG{d:Xq}{t:T}(h:kP d level t c=Xy)(i:lo<hi)(g:Good t lo hi):∀ x,lo<=x->x<hi->¬ want d level (c+fh t lo hi x):=by
 intro x k j
 cases d
 .have:=(Tp t lo hi i g).1 x k j;simp[kP,want] at h ⊢;omega
 .have:=(yu t lo hi i g).1 x k j;simp[kP,want] at h ⊢;omega
theorem LZ{d:Xq}{t:T}(h:kP d level t c=Xz)(g:∀ x,fh t lo hi x=val t)(ht:top t=val t)(i:bot t=val t):∀ x,want d level (c+fh t lo hi x):=by
 intro x;rw[g x]
 cases d
 .simp[kP,want,i] at h ⊢;omega
 .simp[kP,want,ht] at h ⊢;omega
def rm(P:Xs->Prop)(lo hi a b:Xs):Xp Xs->Prop
 |none=>∀ x,lo<=x->x<hi->a<=x->x<b->¬ P x
 |some x=>lo<=x/\x<hi/\a<=x/\x<b/\P x/\∀ y,lo<=y->y<x->a<=y->¬ P y
theorem Jb(d:Xq)(level:Xs):∀ (t:T)(lo hi a b c:Xs),lo<hi->a<b->Good t lo hi->rm (fun x=>want d level (c+fh t lo hi x)) lo hi a b (fm d level t lo hi a b c):=by
 intro t;induction t with
 |nil =>
  intro lo hi a b c h I g;unfold fm
  cases A:apart lo hi a b
  .have k:=oI.1 A
   cases z:kP d level .nil c
   .simp only[XZ,X0,if_true];exact fun x H s _ _=>KG z h g x H s
   .simp only[XZ,X4,X5,if_false];exact⟨O,O,O,O,LZ z (fun _=>rfl) rfl rfl _,fun y _ _ _=>by omega⟩
  .have k:=vp.1 A;simp only[X6,if_true];exact fun x _ _ _ _=>by omega
 |node v l r ihl ihr =>
  intro lo hi a b c h I g;unfold fm
  cases A:apart lo hi a b
  .have k:=oI.1 A
   cases z:kP d level (.node v l r) c
   .simp only[XZ,X0,if_true];exact fun x H s _ _=>KG z h g x H s
   .simp only[XZ,X4,X5,if_false]
    cases R:isNil l && isNil r
    .simp only[X5,if_false]
     have s:2<=hi-lo:=by
      rcases g.2.1 with ⟨E,D⟩|s
      .simp[E,D] at R
      .exact s
     have K:lo<bB lo hi/\bB lo hi<hi:=by unfold bB;omega
     have i:=ihl lo (bB lo hi) a b (c+v) K.1 I g.2.2.1;have q:=ihr (bB lo hi) hi a b (c+v) K.2 I g.2.2.2
     cases P:fm d level l lo (bB lo hi) a b (c+v) with
     |some x =>rw[P] at i;let⟨k1,k2,k3,k4,k5,k6⟩:=i;refine⟨k1,O,k3,k4,?_,fun y C B m=>?_⟩;show want d level (c+fh (.node v l r) lo hi x);simp only[fh];rw[Xu k2,<- X7];exact k5;show ¬ want d level (c+fh (.node v l r) lo hi y);simp only[fh];rw[Xu O,<- X7];exact k6 y C B m
     |none =>
      rw[P] at i;have i:=i
      cases L:fm d level r (bB lo hi) hi a b (c+v) with
      |some x =>
       rw[L] at q;let⟨k1,k2,k3,k4,k5,k6⟩:=q;refine⟨O,k2,k3,k4,?_,fun y C B m=>?_⟩
       .show want d level (c+fh (.node v l r) lo hi x);simp only[fh];rw[Xt O,<- X7];exact k5
       .show ¬ want d level (c+fh (.node v l r) lo hi y);simp only[fh]
        by_cases j:y<bB lo hi
        .rw[Xu j,<- X7];exact i y C j m O
        .rw[Xt j,<- X7];exact k6 y O B m
      |none =>rw[L] at q;have q:=q;intro y C B m Q;show ¬ want d level (c+fh (.node v l r) lo hi y);simp only[fh];by_cases j:y<bB lo hi;rw[Xu j,<- X7];exact i y C j m Q;rw[Xt j,<- X7];exact q y O B m Q
    .simp only[if_true];have E:isNil l=Xz:=Xi
     have D:isNil r=Xz:=Xi;have W:=wm E;have S:=wm D;refine⟨O,O,O,O,?_,fun y _ _ _=>by omega⟩;exact LZ z (fun x=>by simp only[fh,val,wu E,wu D];split <;> omega) (by simp only[top,val];omega) (by simp only[bot,val];omega) _
  .have k:=vp.1 A;simp only[X6,if_true];exact fun x _ _ _ _=>by omega
end aL
def eC(w:XA):aL.T->XC->J Xr->Prop
 |.nil,p,F=>p=XI Z/\F=[]
 |.node a l r,p,F=>∃ (b:Xr) (pl pr:Xp XF) (Fl Fr:J Xr),p=XI (U ⟨b,0,Z⟩)/\w.cell? ⟨b,0,Z⟩=U (V Y a)/\w.cell? ⟨b,1,Z⟩=U (V Y (aL.top (.node a l r)))/\w.cell? ⟨b,2,Z⟩=U (V Y (aL.bot (.node a l r)))/\w.cell? ⟨b,3,Z⟩=U (XI pl)/\w.cell? ⟨b,4,Z⟩=U (XI pr)/\(∀ o,w.frozen? ⟨b,o,Z⟩=Xy)/\eC w l (XI pl) Fl/\eC w r (XI pr) Fr/\F=b :: (Fl++Fr)/\F.Nodup
theorem eC.lt{w:XA}:∀ {t:aL.T}{p:XC}{F:J Xr},eC w t p F->∀ k∈F,k<w
 |.nil,p,F,h,k,d=>by rw[h.2] at d;cases d
 |.node a l r,p,F,h,k,d=>by
  obtain⟨b,pl,pr,Fl,Fr,rfl,j,z,y,x,s,q,i,g,rfl,m⟩:=h;rcases X8.1 d with rfl|d
  .exact XW _ _ j
  .rcases X9.1 d with d|d
   .exact eC.lt i k d
   .exact eC.lt g k d
theorem eC.off{G:J Xr}{w w':XA}(h:aH G w w'):∀ {t:aL.T}{p:XC}{F:J Xr},eC w t p F->(∀ k∈F,k ∉ G)->eC w' t p F
 |.nil,p,F,g,_=>g
 |.node a l r,p,F,g,hd=>by obtain⟨b,pl,pr,Fl,Fr,rfl,j,A,z,y,x,s,q,g,rfl,m⟩:=g;have d:=hd b Xc;exact⟨b,pl,pr,Fl,Fr,rfl,h.cell d j,h.cell d A,h.cell d z,h.cell d y,h.cell d x,fun o=>(h.frozen d (XW _ _ j)).trans (s o),eC.off h q (fun k i=>hd k (by simp[i])),eC.off h g (fun k i=>hd k (by simp[i])),rfl,m⟩
theorem eC.same{t:aL.T}(h:eC w t p F)(k:aH [] w w'):eC w' t p F:=h.off k (fun _ _=>by simp)
theorem eC.nodup{t:aL.T}(h:eC w t p F):F.Nodup:=by
 cases t with
 |nil=>rw[h.2];exact Ya
 |node a l r=>let⟨b,_,_,_,_,_,_,_,_,_,_,_,_,_,_,nd⟩:=h;exact nd
structure eo(w:XA)(b:Xr)(c:Xs)(l r:aL.T)(pl pr:Xp XF)(Fl Fr:J Xr):Prop where
 c0:w.cell? (b,0)=U ↑c
 c1:∃ x,w.cell? (b,1)=U (V Y x)
 c2:∃ x,w.cell? (b,2)=U (V Y x)
 c3:w.cell? (b,3)=U ↑pl
 c4:w.cell? (b,4)=U ↑pr
 fz:∀ o,w.frozen? ⟨b,o,Z⟩=Xy
 l:eC w l pl Fl
 r:eC w r pr Fr
 nd:(b :: (Fl++Fr)).Nodup
def LB:aL.T->Prop
 |.nil=>True
 |.node a l r=>(-1000000<=a/\a<=1000000)/\(-100000000<=aL.top (.node a l r)/\aL.top (.node a l r)<=100000000)/\(-100000000<=aL.bot (.node a l r)/\aL.bot (.node a l r)<=100000000)/\LB l/\LB r
theorem LB.top{t:aL.T}(h:LB t):-100000000<=aL.top t/\aL.top t<=100000000:=by simp_all[LB.top,LB,aL.top]
theorem LB.bot{t:aL.T}(h:LB t):-100000000<=aL.bot t/\aL.bot t<=100000000:=by simp_all[LB.bot,LB,aL.bot]
theorem LB.val{t:aL.T}(h:LB t):-1000000<=aL.val t/\aL.val t<=1000000:=by
 cases t with
 |nil=>simp[aL.val]
 |node a l r=>exact h.1
theorem LB.fst{t:aL.T}(h:LB t):LB (aL.fst t):=by grind[LB.fst,LB,aL.fst]
theorem LB.snd{t:aL.T}(h:LB t):LB (aL.snd t):=by grind[LB.snd,LB,aL.snd]
theorem LB.mk{l r:aL.T}(h:LB (aL.mk a l r)):(-1000000<=a/\a<=1000000)/\LB l/\LB r:=by have i:=h.val;have g:=h.fst;have d:=h.snd;simp at i g d;exact⟨i,g,d⟩
theorem pS(lo hi a b:Xs)(w:XA):XE prog 227 #[XN #[lo,hi],XN #[a,b]] w fun e w'=>e=XR (aL.apart lo hi a b)/\XD w w w':=by
 by_cases d:hi<=a
 .go_in
  go_wp2;go_ret;exact⟨qD (by simp[aL.apart,d]),aS.alloc Xc _⟩
 .by_cases g:b<=lo
  all_goals go_in;go_wp2;go_ret;exact⟨qD (by simp[aL.apart];omega),aS.alloc Xc _⟩
theorem wQ(lo hi a b:Xs)(w:XA):XE prog 228 #[XN #[lo,hi],XN #[a,b]] w fun e w'=>e=XR (aL.within lo hi a b)/\XD w w w':=by
 by_cases g:a<=lo
 .by_cases d:hi<=b
  all_goals go_in;go_wp2;go_ret;exact⟨qD (by simp[aL.within];omega),aS.alloc Xc _⟩
 .go_in
  go_wp2;go_ret;exact⟨qD (by simp[aL.within];omega),aS.alloc Xc _⟩
theorem Vj(w:XA):XE prog 201 #[XI Z] w fun e w'=>e=XR (V Y 0)/\w'=w:=by
 go_in;go_wp2;go_ret;exact⟨rfl,rfl⟩
theorem VO(b:Xr)(x:Xs)(w:XA)(d:w.cell? (b,1)=U ↑x):XE prog 201 #[b] w fun e w'=>e=XR x/\w'=w:=by
 go_in;go_wp2;go_ret;exact⟨rfl,rfl⟩
theorem yI{t:aL.T}(w:XA)(h:eC w t u F):XE prog 201 #[u] w fun e w'=>e=XR (V Y (aL.top t))/\w'=w:=by
 cases t with
 |nil=>let⟨h1,_⟩:=h;cases h1;exact Vj w
 |node a l r=>let⟨b,pl,pr,Fl,Fr,hp,c0,c1,_⟩:=h;cases hp;exact VO b _ w c1
theorem Ve(w:XA):XE prog 203 #[XI Z] w fun e w'=>e=XR (V Y 0)/\w'=w:=by
 go_in;go_wp2;go_ret;exact⟨rfl,rfl⟩
theorem VM(b:Xr)(x:Xs)(w:XA)(d:w.cell? (b,2)=U ↑x):XE prog 203 #[b] w fun e w'=>e=XR x/\w'=w:=by
 go_in;go_wp2;go_ret;exact⟨rfl,rfl⟩
theorem yH{t:aL.T}(w:XA)(h:eC w t u F):XE prog 203 #[u] w fun e w'=>e=XR (V Y (aL.bot t))/\w'=w:=by
 cases t with
 |nil=>let⟨h1,_⟩:=h;cases h1;exact Ve w
 |node a l r=>let⟨b,pl,pr,Fl,Fr,hp,c0,c1,c2,_⟩:=h;cases hp;exact VM b _ w c2
theorem WD(w:XA):XE prog 230 #[XI Z] w fun e w'=>e=XR Xz/\w'=w:=by
 go_in;go_wp2;go_ret;exact⟨rfl,rfl⟩
def uI(pl pr:Xp XF):Xq:=pl.isNone && pr.isNone
theorem FU(b:Xr)(pl pr:Xp XF)(w:XA)(g:w.cell? (b,3)=U ↑pl)(d:w.cell? (b,4)=U ↑pr):XE prog 230 #[b] w fun e w'=>e=XR (uI pl pr)/\w'=w:=by
 cases pl with
 |none =>
  cases pr with
  |none =>go_in;go_wp2;go_ret;exact⟨rfl,rfl⟩
  |some q =>go_in;go_wp2;go_ret;exact⟨rfl,rfl⟩
 |some q =>go_in;go_wp2;go_ret;exact⟨rfl,rfl⟩
theorem eC.isNone{t:aL.T}(h:eC w t u F):u.isNone=aL.isNil t:=by
 cases t with
 |nil=>let⟨h1,_⟩:=h;cases h1;rfl
 |node a l r=>let⟨b,pl,pr,Fl,Fr,hp,_⟩:=h;cases hp;rfl
theorem Bq(lo hi:Xs)(w:XA)(h:0<=lo)(g:lo<=hi)(d:hi<=2000000):XE prog 229 #[XN #[lo,hi]] w fun e w'=>e=XR (XM #[XN #[lo,V Y (aL.bB lo hi)],XN #[V Y (aL.bB lo hi),hi]])/\XD w w w':=by
 go_in;go_wp2;go_region;all_goals go_wp2;refine bodyPost_ret (v:=XM #[XN #[lo,V Y (aL.bB lo hi)],XN #[V Y (aL.bB lo hi),hi]]) (by simp[results,results229,go_sem,aL.bB]) rfl ⟨rfl,?_⟩;exact ((aS.alloc Xc _).alloc Xh _).drew
theorem eo.off{l r:aL.T}(h:eo w b c l r pl pr Fl Fr)(k:aH G w w')(d:b ∉ G)(i:∀ x∈Fl,x ∉ G)(g:∀ x∈Fr,x ∉ G):eo w' b c l r pl pr Fl Fr :=⟨k.cell d h.c0,h.c1.imp (fun _=>k.cell d),h.c2.imp (fun _=>k.cell d),k.cell d h.c3,k.cell d h.c4,fun o=>(k.frozen d (XW _ _ h.c0)).trans (h.fz o),h.l.off k i,h.r.off k g,h.nd⟩
theorem eo.drew{l r:aL.T}(h:eo w b c l r pl pr Fl Fr):eo w.drew b c l r pl pr Fl Fr :=h.off (G:=[]) (aH.refl _ _).drew Xc Xc Xc
theorem eo.out{l r:aL.T}(h:eo w b c l r pl pr Fl Fr):(∀ x∈Fl,x ∉ [b])/\(∀ x∈Fr,x ∉ [b]):=by have d:=h.nd;rw[Yb] at d;refine⟨fun x g=>?_,fun x g=>?_⟩ <;> (simp;rintro rfl;exact d.1 (by simp[g]))
theorem eo.pX{l r:aL.T}(h:eo w b c l r pl pr Fl Fr)(x:Xs):eo (w.setCell (b,1) x) b c l r pl pr Fl Fr:=by let⟨x1,h1⟩:=h.c1;exact⟨(bD Xc).trans h.c0,⟨x,Yc _ _ _ h1⟩,h.c2.imp (fun _ e=>(bD Xc).trans e),(bD Xc).trans h.c3,(bD Xc).trans h.c4,fun o=>(zF ..).trans (h.fz o),h.l.off (aH.bN ..) h.out.1,h.r.off (aH.bN ..) h.out.2,h.nd⟩
theorem eo.pW{l r:aL.T}(h:eo w b c l r pl pr Fl Fr)(x:Xs):eo (w.setCell (b,2) x) b c l r pl pr Fl Fr:=by let⟨x1,h1⟩:=h.c2;exact⟨(bD Xc).trans h.c0,h.c1.imp (fun _ e=>(bD Xc).trans e),⟨x,Yc _ _ _ h1⟩,(bD Xc).trans h.c3,(bD Xc).trans h.c4,fun o=>(zF ..).trans (h.fz o),h.l.off (aH.bN ..) h.out.1,h.r.off (aH.bN ..) h.out.2,h.nd⟩
theorem eo.done{l r:aL.T}(h:eo w b c l r pl pr Fl Fr)(d:w.cell? (b,1)=U (V Y (c+max (aL.top l) (aL.top r)))):eC (w.setCell (b,2) (V Y (c+min (aL.bot l) (aL.bot r)))) (.node c l r) b (b :: (Fl++Fr)):=by
 have k:=h.pW (c+min (aL.bot l) (aL.bot r));let⟨x2,h2⟩:=h.c2;exact⟨b,pl,pr,Fl,Fr,rfl,k.c0,(bD Xc).trans d,Yc _ _ _ h2,k.c3,k.c4,k.fz,k.l,k.r,rfl,h.nd⟩
theorem b4E(w:XA)(b:Xr)(l r:aL.T)(pl pr:Xp XF)(Fl Fr:J Xr)(h:eo w b 0 l r pl pr Fl Fr)(g:aL.isNil l=Xz)(d:aL.isNil r=Xz):XE prog 247 #[b] w fun e w'=>e=XR (XI Z)/\w'=w:=by
 have j:=h.c0;have i:uI pl pr=Xz:=by rw[uI,h.l.isNone,h.r.isNone,g,d];rfl
 go_in;go_wp2_with (go_at_call 230;refine aZ (FU _ pl pr _ h.c3 h.c4) ?_);go_ret;exact⟨rfl,rfl⟩
theorem tH{l r:aL.T}(h:eo w b c l r pl pr Fl Fr):w.cell? (b,0)=U ↑c/\w.cell? (b,3)=U ↑pl/\w.cell? (b,4)=U ↑pr/\eo w b c l r pl pr Fl Fr:=⟨h.c0,h.c3,h.c4,h⟩
theorem b2M(w:XA)(b:Xr)(c:Xs)(l r:aL.T)(pl pr:Xp XF)(Fl Fr:J Xr)(h:eo w b c l r pl pr Fl Fr)(D:¬ (c=0/\aL.isNil l=Xz/\aL.isNil r=Xz))
  (W:-1000000<=c/\c<=1000000) (E:LB l) (C:LB r):
  XE prog 247 #[b] w fun e w'=>e=XR b/\eC w' (.node c l r) b (b :: (Fl++Fr))/\aH [b] w w':=by
 have c0:=h.c0;obtain⟨S,R⟩:=W;have t1:=E.top;have t2:=C.top;have t3:=E.bot;have t4:=C.bot;have A:c=0->uI pl pr=Xy:=by
  rw[uI,h.l.isNone,h.r.isNone]
  cases hx:aL.isNil l <;> cases hy:aL.isNil r <;> simp_all
 have f1:=h.fz 1;have H:=h.fz 2;obtain⟨x1,c1⟩:=h.c1;obtain⟨B,L⟩:=h.c2;have K:Y.wrap (c+if aL.top l<aL.top r then aL.top r else aL.top l)=c+max (aL.top l) (aL.top r):=by rw[Dz];exact dJ O O
 have I:Y.wrap (c+if aL.bot r<aL.bot l then aL.bot r else aL.bot l)=c+min (aL.bot l) (aL.bot r):=by rw[Tb];exact dJ O O
 have Q:=aB K;have P:=aB I;have q:eo ((w.setCell (b,1) (V Y (c+max (aL.top l) (aL.top r)))).drew) b c l r pl pr Fl Fr:=(h.pX _).drew;have m:((w.setCell (b,1) (V Y (c+max (aL.top l) (aL.top r)))).drew).cell? (b,1)=U (V Y (c+max (aL.top l) (aL.top r))):=zm _ _ _ c1;have k:aH [b] w ((w.setCell (b,1) (V Y (c+max (aL.top l) (aL.top r)))).drew):=(aH.bN b w _ _).drew;have y:=aB (Yd q (Yd m k));clear K I q m k;by_cases j:c=0
 .have e2:=A j;have z:(c==0)=Xz:=by simp[j]
  clear D A j;go_in;go_wp2_with (go_at_call 230;refine aZ (FU _ pl pr _ h.c3 h.c4) ?_);go_region_held3 (fun w'=>w'.cell? (b,0)=U ↑c/\w'.cell? (b,3)=U ↑pl/\w'.cell? (b,4)=U ↑pr/\eo w' b c l r pl pr Fl Fr)
   (first
    |exact tH (eo.drew h)
    |exact tH (eo.drew (eo.pX h _)))
   (first
    |(go_at_call_of 201 (XI pl);go_split_ands;refine aZ (yI _ (eo.l Xe)) ?_)
    |(go_at_call_of 201 (XI pr);go_split_ands;refine aZ (yI _ (eo.r Xe)) ?_))
  rw[Q.out,vU];obtain⟨d,x,i⟩:=y.out;clear y;generalize (Ye _ ⟨b,1,Z⟩ (V Y (c+max (aL.top l) (aL.top r)))).drew=X at d x i ⊢;have H:=d.fz 2;obtain⟨B,L⟩:=d.c2;go_wp21;go_region_held3 (fun w'=>w'.cell? (b,0)=U ↑c/\w'.cell? (b,3)=U ↑pl/\w'.cell? (b,4)=U ↑pr/\eo w' b c l r pl pr Fl Fr)
   (first
    |exact tH (eo.drew d)
    |exact tH (eo.drew (eo.pW d _)))
   (first
    |(go_at_call_of 203 (XI pl);go_split_ands;refine aZ (yH _ (eo.l Xe)) ?_)
    |(go_at_call_of 203 (XI pr);go_split_ands;refine aZ (yH _ (eo.r Xe)) ?_))
  rw[P,JC];have t:=d.done x;have g:aH [b] _ (Ye X (b,2) (V Y (c+min (aL.bot l) (aL.bot r)))).drew:=(i.setCell (.inl Xc) _ _).drew;have s:=aB (Yd (t.same (aH.refl _ _).drew) g);clear t g;go_wp21;go_ret;exact⟨rfl,s.out.1,s.out.2⟩
 .have z:(c==0)=Xy:=by simp[j]
  clear D A j;go_in;go_wp21;go_region_held3 (fun w'=>w'.cell? (b,0)=U ↑c/\w'.cell? (b,3)=U ↑pl/\w'.cell? (b,4)=U ↑pr/\eo w' b c l r pl pr Fl Fr)
   (first
    |exact tH (eo.drew h)
    |exact tH (eo.drew (eo.pX h _)))
   (first
    |(go_at_call_of 201 (XI pl);go_split_ands;refine aZ (yI _ (eo.l Xe)) ?_)
    |(go_at_call_of 201 (XI pr);go_split_ands;refine aZ (yI _ (eo.r Xe)) ?_))
  rw[Q.out,vU];obtain⟨d,x,i⟩:=y.out;clear y;generalize (Ye _ ⟨b,1,Z⟩ (V Y (c+max (aL.top l) (aL.top r)))).drew=X at d x i ⊢;have H:=d.fz 2;obtain⟨B,L⟩:=d.c2;go_wp21;go_region_held3 (fun w'=>w'.cell? (b,0)=U ↑c/\w'.cell? (b,3)=U ↑pl/\w'.cell? (b,4)=U ↑pr/\eo w' b c l r pl pr Fl Fr)
   (first
    |exact tH (eo.drew d)
    |exact tH (eo.drew (eo.pW d _)))
   (first
    |(go_at_call_of 203 (XI pl);go_split_ands;refine aZ (yH _ (eo.l Xe)) ?_)
    |(go_at_call_of 203 (XI pr);go_split_ands;refine aZ (yH _ (eo.r Xe)) ?_))
  rw[P,JC];have t:=d.done x;have g:aH [b] _ (Ye X (b,2) (V Y (c+min (aL.bot l) (aL.bot r)))).drew:=(i.setCell (.inl Xc) _ _).drew;have s:=aB (Yd (t.same (aH.refl _ _).drew) g);clear t g;go_wp21;go_ret;exact⟨rfl,s.out.1,s.out.2⟩
structure SY(w w1:XA)(lo hi a b:Xs):Prop where
 q0:w1.cell? (w,0)=U ↑lo
 q1:w1.cell? (w,1)=U ↑hi
 q2:w1.cell? (w.heap.size+1,0)=U ↑a
 q3:w1.cell? (w.heap.size+1,1)=U ↑b
 sz:w+1<w1.heap.size
 bw:XD w w w1
theorem boxes{b:Xs}(h:XD ((w.alloc (XS #[lo,hi] 83)).alloc (XS #[a,b] 83)).heap.size ((w.alloc (XS #[lo,hi] 83)).alloc (XS #[a,b] 83)) w1):SY w w1 lo hi a b:=by have e:((w.alloc (XS #[lo,hi] 83)).alloc (XS #[a,b] 83)).heap.size=w.heap.size+2:=Xc;refine⟨(h.cell (p:=(w,0)) ?_).trans ?_,(h.cell (p:=(w,1)) ?_).trans ?_,(h.cell (p:=(w.heap.size+1,0)) ?_).trans ?_,(h.cell (p:=(w.heap.size+1,1)) ?_).trans ?_,?_,?_⟩;rw[e];show w.heap.size<_;omega;simp;rw[e];show w.heap.size<_;omega;simp;rw[e];show w.heap.size+1<_;omega;simp;rw[e];show w.heap.size+1<_;omega;simp;have:=h.size;omega;exact (aS.alloc Xc _).trans (h.mono O)
def tF(w:XA)(F:J Xr)(d:aL.T)(e:Ending)(w':XA):Prop :=∃ (u:Xp XF) (F':J Xr),e=XR u/\eC w' d u F'/\(∀ k∈F',k∈F\/w<=k)/\aH F w w'
theorem Le(t:aL.T)(u:Xp XF)(F:J Xr)(lo hi a b x:Xs)(n:Xr)(w:XA)(h:eC w t u F)(d:aL.apart lo hi a b=Xz):XE prog 231 #[u,XN #[lo,hi],XN #[a,b],x] w (tF w F (aL.iQ n t lo hi a b x)):=by
 have e:aL.iQ n t lo hi a b x=t:=by unfold aL.iQ;rw[Xu d]
 rw[e];go_in;go_wp21;refine aK (pS _ _ _ _ _) fun w1 j=>?_;rw[d];have l:=(aS.alloc Xc _).trans (j.mono Xh);have g:=aB l;go_wp21;go_ret;exact⟨u,F,rfl,h.same (aH.aD g),fun k i=>.inl i,aH.aD g⟩
theorem Kj(w:XA)(c:Xs):eo (w.alloc (XS #[c,V Y 0,V Y 0,XI Z,XI Z] 320)) w c .nil .nil Z Z [] [] :=⟨by simp,⟨0,by simp⟩,⟨0,by simp⟩,by simp,by simp,fun o=>World.frozen?_alloc_new w _ _ o,⟨rfl,rfl⟩,⟨rfl,rfl⟩,by simp⟩
theorem yz{l r:aL.T}(h:eC w (.node c l r) u F):∃ (b:Xr)(pl pr:Xp XF)(Fl Fr:J Xr),u=U ⟨b,0,Z⟩/\F=b :: (Fl++Fr)/\eo w b c l r pl pr Fl Fr:=by
 let⟨b,pl,pr,Fl,Fr,hp,c0,c1,c2,c3,c4,fz,hl,hr,hF,nd⟩:=h
 cases hp;exact⟨b,pl,pr,Fl,Fr,rfl,hF,c0,⟨_,c1⟩,⟨_,c2⟩,c3,c4,fz,hl,hr,hF ▸ nd⟩
theorem Bp(w:XA)(b:Xr)(c:Xs)(l r:aL.T)(pl pr:Xp XF)(Fl Fr:J Xr)(h:eo w b c l r pl pr Fl Fr)(s:LB (aL.mk c l r)):XE prog 247 #[b] w fun e w'=>∃ (u:Xp XF) (F':J Xr),e=XR u/\eC w' (aL.mk c l r) u F'/\(∀ k∈F',k∈b :: (Fl++Fr))/\aH [b] w w':=by
 let⟨b1,b2,b3⟩:=s.mk;by_cases d:c=0/\aL.isNil l=Xz/\aL.isNil r=Xz
 .have e:aL.mk c l r=.nil:=by unfold aL.mk;rw[Xu d]
  rw[e];obtain⟨rfl,i,g⟩:=d;refine aZ (b4E w b l r pl pr Fl Fr h i g) ?_;exact⟨Z,[],rfl,⟨rfl,rfl⟩,by simp,aH.refl _ _⟩
 .have e:aL.mk c l r=.node c l r:=by unfold aL.mk;rw[Xt d]
  rw[e];refine aK (b2M w b c l r pl pr Fl Fr h d b1 b2 b3) ?_;rintro w' ⟨m,j⟩;exact⟨_,_,rfl,m,fun _ q=>q,j⟩
theorem eo.bN{l r:aL.T}(h:eo w b c l r pl pr Fl Fr)(x:Xs):eo (w.setCell (b,0) x) b x l r pl pr Fl Fr :=⟨zm _ _ _ h.c0,h.c1.imp (fun _ e=>(bD Xc).trans e),h.c2.imp (fun _ e=>(bD Xc).trans e),(bD Xc).trans h.c3,(bD Xc).trans h.c4,fun o=>(zF ..).trans (h.fz o),h.l.off (aH.bN ..) h.out.1,h.r.off (aH.bN ..) h.out.2,h.nd⟩
theorem A2{d:aL.T}(m:aH F w w1)(h:∀ k∈G,k∈F\/w<=k)(r:b∈G)(l:eC w2 d u F')(j:∀ k∈F',k∈G)(i:aH [b] w1 w2):tF w F d (XR u) w2 :=⟨u,F',rfl,l,fun k g=>h k (j k g),m.trans' i (fun x q=>by grind)⟩
theorem LJ(t:aL.T)(u:Xp XF)(F:J Xr)(lo hi a b x:Xs)(n:Xr)(w:XA)(h:eC w t u F)(C:aL.apart lo hi a b=Xy)(A:aL.within lo hi a b=Xz)
  (L:-1000000<=x) (K:x<=1000000) (E:LB t) (g:LB (aL.iQ n t lo hi a b x)):
  XE prog 231 #[u,XN #[lo,hi],XN #[a,b],x] w (tF w F (aL.iQ n t lo hi a b x)):=by
 have e:aL.iQ n t lo hi a b x=aL.mk (aL.val t+x) (aL.fst t) (aL.snd t):=by unfold aL.iQ;rw[Xt (by simp[C]),Xu A]
 rw[e] at g ⊢;have I:=E.val
 cases t with
 |nil =>
  obtain⟨P,rfl⟩:=h
  cases P;simp only[aL.val,aL.fst,aL.snd,Yf] at g I ⊢;go_in;go_wp21;refine aK (pS _ _ _ _ _) fun w1 d=>?_;rw[C];have m:=boxes d;have ⟨q0,q1,q2,q3,hs,hB⟩:=m;have q:=aB hB;have B:w<w1.heap.size:=O;clear hB d m;go_wp21;refine aK (wQ _ _ _ _ _) fun w2 d=>?_;rw[A];have i:=(Kj w1 0).off (G:=[]) (aH.aD d) Xc Xc Xc;have D:aH [] w w2:=(((aH.aD q).alloc _).trans (aH.aD d));have hz:w<=w1.heap.size:=O;have j:∀ k∈w1.heap.size :: ([]++[]),k∈([]:J Xr)\/w<=k:=by simp;omega
  have W:=i.c0;have S:=i.fz 0;go_wp21;refine (Bp _ _ _ _ _ _ _ _ _ (i.bN _) g).mono ?_;rintro e w3 ⟨u3,F3,rfl,z,y,s⟩;have H:=aB (A2 (D.setCell (j _ Xc) _ _) j Xc z y s);go_wp21;go_ret;exact H
 |node c l r =>obtain⟨bk,pl,pr,Fl,Fr,rfl,rfl,R⟩:=yz h;simp only[aL.val,aL.fst,aL.snd] at g I ⊢;go_in;go_wp21;refine aK (pS _ _ _ _ _) fun w1 d=>?_;rw[C];have m:=boxes d;have ⟨q0,q1,q2,q3,hs,hB⟩:=m;have q:=aB hB;have B:w<w1.heap.size:=O;clear hB d m;go_wp21;refine aK (wQ _ _ _ _ _) fun w2 d=>?_;rw[A];have i:=R.off (G:=[]) ((aH.aD q).trans (aH.aD d)) Xc Xc Xc;have D:aH (bk :: (Fl++Fr)) w w2:=(aH.aD q).trans (aH.aD d);have j:∀ k∈bk :: (Fl++Fr),k∈bk :: (Fl++Fr)\/w<=k:=fun _ Q=>.inl Q;have W:=i.c0;have S:=i.fz 0;go_wp21;refine (Bp _ _ _ _ _ _ _ _ _ (i.bN _) g).mono ?_;rintro e w3 ⟨u3,F3,rfl,z,y,s⟩;have H:=aB (A2 (D.setCell (j _ Xc) _ _) j Xc z y s);go_wp21;go_ret;exact H
theorem eo.lt{l r:aL.T}(h:eo w b c l r pl pr Fl Fr):∀ k∈b :: (Fl++Fr),k<w:=by
 intro k d;rcases X8.1 d with rfl|d
 .exact XW _ _ h.c0
 .rcases X9.1 d with d|d
  .exact h.l.lt k d
  .exact h.r.lt k d
theorem eo.kB{l r:aL.T}(h:eo w b c l r pl pr Fl Fr):b ∉ Fl/\b ∉ Fr/\(∀ x∈Fr,x ∉ Fl)/\Fl.Nodup/\Fr.Nodup:=by have d:=h.nd;rw[Yb,Yg] at d;let⟨n1,n2,n3,n4⟩:=d;exact⟨fun e=>n1 (by simp[e]),fun e=>n1 (by simp[e]),fun x i g=>n4 x g x i rfl,n2,n3⟩
theorem eo.mH{l r q:aL.T}(h:eo X b c l r pl pr Fl Fr)(t:eC w4 q u F')(s:∀ k∈F',k∈Fl\/X<=k)(d:aH Fl X w4):eo (w4.setCell (b,3) u) b c q r u pr F' Fr:=by
 let⟨n1,n2,n3,n4,n5⟩:=h.kB;have g:=h.lt;have C:b ∉ F':=fun e=>by rcases s b e with j|j;exact n1 j;have:=g b Xc;omega
 have B:∀ x∈Fr,x ∉ F':=fun x i e=>by rcases s x e with j|j;exact n3 x i j;have:=g x (by simp[i]);omega
 have z:=aH.bN b w4 3 u;have m:=h.r.off d n3;exact⟨(bD Xc).trans (d.cell n1 h.c0),h.c1.imp (fun _ e=>(bD Xc).trans (d.cell n1 e)),h.c2.imp (fun _ e=>(bD Xc).trans (d.cell n1 e)),Yc _ _ _ (d.cell n1 h.c3),(bD Xc).trans (d.cell n1 h.c4),
  fun o=>(zF ..).trans ((d.frozen n1 (g b Xc)).trans (h.fz o)),t.off z (fun x i=>by grind),m.off z (fun x i=>by grind),
  Yb.2 ⟨by grind,Yg.2 ⟨t.nodup,n5,fun x i y A e=>B y A (e ▸ i)⟩⟩⟩
theorem eo.lz{l r q:aL.T}(h:eo X b c l r pl pr Fl Fr)(t:eC w4 q u F')(s:∀ k∈F',k∈Fr\/X<=k)(g:aH Fr X w4):eo (w4.setCell (b,4) u) b c l q pl u Fl F':=by
 let⟨n1,n2,n3,n4,n5⟩:=h.kB;have i:=h.lt;have C:b ∉ F':=fun e=>by rcases s b e with j|j;exact n2 j;have:=i b Xc;omega
 have B:∀ x∈Fl,x ∉ F':=fun x d e=>by rcases s x e with j|j;exact n3 x j d;have:=i x (by simp[d]);omega
 have z:=aH.bN b w4 4 u;have m:=h.l.off g (fun x d e=>n3 x e d);exact⟨(bD Xc).trans (g.cell n2 h.c0),h.c1.imp (fun _ e=>(bD Xc).trans (g.cell n2 e)),h.c2.imp (fun _ e=>(bD Xc).trans (g.cell n2 e)),(bD Xc).trans (g.cell n2 h.c3),Yc _ _ _ (g.cell n2 h.c4),
  fun o=>(zF ..).trans ((g.frozen n2 (i b Xc)).trans (h.fz o)),m.off z (fun x d=>by grind),t.off z (fun x d=>by grind),
  Yb.2 ⟨by grind,Yg.2 ⟨n4,t.nodup,fun x d y A e=>B x d (e ▸ A)⟩⟩⟩
structure pR(w X:XA)(F:J Xr)(bk M:Xr)(c lo hi a b:Xs)(l r:aL.T)(pl pr:Xp XF)(Fl Fr:J Xr):Prop where
 half:eo X bk c l r pl pr Fl Fr
 off:aH F w X
 own:∀ k∈bk :: (Fl++Fr),k∈F\/w<=k
 a0:X.cell? (w.heap.size+1,0)=U ↑a
 a1:X.cell? (w.heap.size+1,1)=U ↑b
 m0:X.cell? (M,0)=U ↑lo
 m1:X.cell? (M,1)=U (V Y (aL.bB lo hi))
 n0:X.cell? (M+1,0)=U (V Y (aL.bB lo hi))
 n1:X.cell? (M+1,1)=U ↑hi
 out:w.heap.size+1 ∉ bk :: (Fl++Fr)/\M ∉ bk :: (Fl++Fr)/\M+1 ∉ bk :: (Fl++Fr)
def Jz(n:Xr):Prop:=∀ (t:aL.T)(u:Xp XF)(F:J Xr)(lo hi a b x:Xs)(w:XA),eC w t u F->0<=lo->lo<hi->hi<=2000000->hi-lo<=2 ^ n->a<b->-1000000<=x->x<=1000000->LB t->LB (aL.iQ n t lo hi a b x) ->XE prog 231 #[u,XN #[lo,hi],XN #[a,b],x] w (tF w F (aL.iQ n t lo hi a b x))
theorem pR.drew{b:Xs}{l r:aL.T}(h:pR w X F bk M c lo hi a b l r pl pr Fl Fr):pR w X.drew F bk M c lo hi a b l r pl pr Fl Fr :=⟨h.half.drew,h.off.drew,h.own,h.a0,h.a1,h.m0,h.m1,h.n0,h.n1,h.out⟩
theorem pR.mH{b:Xs}{l r j:aL.T}(h:pR w X F bk M c lo hi a b l r pl pr Fl Fr)(y:eC w4 j u F')(x:∀ k∈F',k∈Fl\/X<=k)(m:aH Fl X w4):pR w (w4.setCell (bk,3) u) F bk M c lo hi a b j r u pr F' Fr:=by
 let⟨o1,o2,o3⟩:=h.out;have t:=XW _ _ h.a0;have s:=XW _ _ h.m0;have q:=XW _ _ h.n0;have z:=h.off.size;have i:aH (bk :: (Fl++Fr)) X (w4.setCell (bk,3) u):=(m.mono Xi).setCell (.inl Xc) _ _;have g:∀ k∈bk :: (F'++Fr),k∈bk :: (Fl++Fr)\/X<=k:=Xi;have B:=h.half.mH y x m;refine⟨B,h.off.trans' i h.own,fun k A=>?_,i.cell o1 h.a0,i.cell o1 h.a1,i.cell o2 h.m0,i.cell o2 h.m1,i.cell o3 h.n0,i.cell o3 h.n1,?_,?_,?_⟩
 .rcases g k A with d|d
  .exact h.own k d
  .exact .inr O
 .intro e;rcases g _ e with d|d
  .exact o1 d
  .simp at t;omega
 .intro e;rcases g _ e with d|d
  .exact o2 d
  .simp at s;omega
 .intro e;rcases g _ e with d|d
  .exact o3 d
  .simp at q;omega
theorem pR.lz{b:Xs}{l r g:aL.T}(h:pR w X F bk M c lo hi a b l r pl pr Fl Fr)(s:eC w4 g u F')(j:∀ k∈F',k∈Fr\/X<=k)(i:aH Fr X w4):eo (w4.setCell (bk,4) u) bk c l g pl u Fl F'/\aH F w (w4.setCell (bk,4) u)/\∀ k∈bk :: (Fl++F'),k∈F\/w<=k:=by
 have t:=h.off.size;have q:aH (bk :: (Fl++Fr)) X (w4.setCell (bk,4) u):=(i.mono Xi).setCell (.inl Xc) _ _;refine⟨h.half.lz s j i,h.off.trans' q h.own,fun k d=>?_⟩;rcases X8.1 d with rfl|d
 .exact h.own k Xc
 .rcases X9.1 d with d|d
  .exact h.own k (by simp[d])
  .rcases j k d with m|m
   .exact h.own k (by simp[m])
   .exact .inr O
theorem Mt{w3:XA}{b:Xs}{l r:aL.T}(i:eo w2 bk c l r pl pr Fl Fr)(s:aH F w w2)(t:∀ k∈bk :: (Fl++Fr),k∈F\/w<=k)(m:w2.cell? (w.heap.size+1,0)=U ↑a)(j:w2.cell? (w.heap.size+1,1)=U ↑b)(g:w.heap.size+1 ∉ bk :: (Fl++Fr))(h:XD w2 w2 w3):pR w ((w3.alloc (XS #[lo,V Y (aL.bB lo hi)] 83)).alloc (XS #[V Y (aL.bB lo hi),hi] 83)) F bk w3 c lo hi a b l r pl pr Fl Fr:=by
 have k:aH [] w2 ((w3.alloc (XS #[lo,V Y (aL.bB lo hi)] 83)).alloc (XS #[V Y (aL.bB lo hi),hi] 83)):=((aH.aD h).alloc _).alloc _;have d:=i.lt;have q:=h.size;refine⟨i.off k Xc Xc Xc,s.trans' k Xc,t,k.cell Xc m,k.cell Xc j,by simp,by simp,by simp,by simp,g,fun e=>?_,fun e=>?_⟩
 .have:=d _ e;omega
 .have:=d _ e;omega
theorem VL(n:Xr)(ih:Hid (Jz n))(t:aL.T)(u:Xp XF)(F:J Xr)(lo hi a b x:Xs)(w:XA)(h:eC w t u F)(hp:aL.apart lo hi a b=Xy)(hw:aL.within lo hi a b=Xy)
  (h0:0<=lo) (h1:lo<hi) (h2:hi<=2000000) (h3:hi-lo<=2 ^ (n+1)) (h4:a<b)
  (ab:-1000000<=x) (aa:x<=1000000) (H:LB t) (z:LB (aL.iQ (n+1) t lo hi a b x)):
  XE prog 231 #[u,XN #[lo,hi],XN #[a,b],x] w (tF w F (aL.iQ (n+1) t lo hi a b x)):=by
 have e:aL.iQ (n+1) t lo hi a b x=aL.mk (aL.val t) (aL.iQ n (aL.fst t) lo (aL.bB lo hi) a b x) (aL.iQ n (aL.snd t) (aL.bB lo hi) hi a b x):=by rw[aL.iQ];rw[Xt (by simp[hp]),Xt (by simp[hw])]
 rw[e] at z ⊢;obtain⟨_,ae,ad⟩:=z.mk;have hl:=H.fst;have hr:=H.snd;have g1:=aL.oI.1 hp;have g2:=aL.za.1 hw;have hm:lo<aL.bB lo hi/\aL.bB lo hi<hi:=by unfold aL.bB;omega
 have E:=aL.EF h3;have S:Hid (∀ (w:XA) (u:Xp XF) (F:J Xr),eC w (aL.fst t) u F->XE prog 231 #[u,XN #[lo,V Y (aL.bB lo hi)],XN #[a,b],x] w (tF w F (aL.iQ n (aL.fst t) lo (aL.bB lo hi) a b x))) :=fun w u F k=>ih.out _ _ _ _ _ _ _ _ _ k h0 hm.1 O E.1 h4 ab aa hl ae
 have R:Hid (∀ (w:XA) (u:Xp XF) (F:J Xr),eC w (aL.snd t) u F->XE prog 231 #[u,XN #[V Y (aL.bB lo hi),hi],XN #[a,b],x] w (tF w F (aL.iQ n (aL.snd t) (aL.bB lo hi) hi a b x))) :=fun w u F k=>ih.out _ _ _ _ _ _ _ _ _ k O hm.2 h2 E.2 h4 ab aa hr ad
 have A:=aB z;clear e ae ad hl hr g1 g2 hm E h3 ih H z;generalize aL.iQ n (aL.fst t) lo (aL.bB lo hi) a b x=tl at *;generalize aL.iQ n (aL.snd t) (aL.bB lo hi) hi a b x=tr at *
 cases t with
 |nil =>
  obtain⟨hu,rfl⟩:=h
  cases hu;simp only[aL.val,aL.fst,aL.snd] at A S R ⊢;go_in;go_wp21;refine aK (pS _ _ _ _ _) fun w1 g=>?_;rw[hp];have bx:=boxes g;have ⟨q0,q1,q2,q3,hs,hB⟩:=bx;have W:=aB hB;have D:w<w1.heap.size:=O;clear hB g bx;go_wp21;refine aK (wQ _ _ _ _ _) fun w2 g=>?_;rw[hw];obtain⟨bk,ac⟩:∃ bk,bk=w1.heap.size:=⟨_,rfl⟩;have Q:=(Kj w1 0).off (G:=[]) (aH.aD g) Xc Xc Xc;have hO:aH [] w w2:=(((aH.aD W.out).alloc _).trans (aH.aD g));have hG:∀ k∈bk :: ([]++[]),k∈([]:J Xr)\/w.heap.size<=k:=by simp;omega
  have s:w.heap.size+1 ∉ bk :: ([]++[]):=by simp;omega
  have m:=((aH.refl [] w1).alloc _).trans (aH.aD g);have r0:=m.cell Xc q0;have r1:=m.cell Xc q1;have r2:=m.cell Xc q2;have r3:=m.cell Xc q3;have C:=zL hs m.size;rw[<- ac] at Q ⊢;clear g q0 q1 q2 q3 hs D W m ac;go_wp21;refine aK (Bq _ _ _ O O O) fun w3 g=>?_;have d:pR w _ _ _ _ 0 lo hi a b _ _ _ _ _ _:=Mt (w3:=w3) Q hO hG r2 r3 s g;clear g Q hO hG r0 r1 r2 r3 s C;go_upto_region 8 with fail;generalize (Yh _ (XS #[V Y (aL.bB lo hi),hi] 83))=X at d ⊢;generalize w3=M at d ⊢;go_cut [43] from 35 to 45 (fun _ wx=>∃ (u4:Xp XF) (y:J Xr),pR w wx ([]:J Xr) bk M 0 lo hi a b tl .nil u4 Z y [])
  .have P:=d.half.c3;have K:=d.half.fz 3;have a0:=d.a0;have a1:=d.a1;have m0:=d.m0;have m1:=d.m1
   go_region_with (first
    |(go_at_call 231;refine (S _ _ _ d.half.drew.l).mono ?_;rintro e w4 ⟨u4,y,rfl,m,q,j⟩;have L:=j.cell d.half.kB.1 P;have I:=(j.frozen (o:=3) d.half.kB.1 (d.half.lt _ Xc)).trans K))
   all_goals go_wp21;go_meet;exact⟨_,_,d.drew.mH m q j⟩
  .obtain⟨u4,y,i⟩:=hcut;clear d
   go_upto_region 9 with fail;go_cut [54] from 46 to 56 (fun _ wx=>∃ (u5:Xp XF) (B:J Xr),eo wx bk 0 tl tr u4 u5 y B/\aH ([]:J Xr) w wx/\∀ k∈bk :: (y++B),k∈([]:J Xr)\/w.heap.size<=k)
   .have P:=i.half.c4;have K:=i.half.fz 4;have a0:=i.a0;have a1:=i.a1;have m0:=i.n0;have m1:=i.n1
    go_region_with (first
     |(go_at_call 231;refine (R _ _ _ i.half.drew.r).mono ?_;rintro e w5 ⟨u5,B,rfl,m,q,j⟩;have L:=j.cell i.half.kB.2.1 P;have I:=(j.frozen (o:=4) i.half.kB.2.1 (i.half.lt _ Xc)).trans K))
    all_goals go_wp21;go_meet;exact⟨_,_,i.drew.lz m q j⟩
   .obtain⟨u5,B,m,q,j⟩:=hcut;clear i S R
    go_wp21;refine (Bp _ _ _ _ _ _ _ _ _ m A).mono ?_;rintro e w6 ⟨u6,F6,rfl,n1,n2,n3⟩;have HK:=aB (A2 q j Xc n1 n2 n3);clear m q j n1 n2 n3;go_wp21;go_ret;exact HK
 |node c l r =>
  obtain⟨bk,pl,pr,Fl,Fr,rfl,rfl,E⟩:=yz h;simp only[aL.val,aL.fst,aL.snd] at A S R ⊢;go_in;go_wp21;refine aK (pS _ _ _ _ _) fun w1 g=>?_;rw[hp];have bx:=boxes g;have ⟨q0,q1,q2,q3,hs,hB⟩:=bx;have W:=aB hB;have D:w<w1.heap.size:=O;clear hB g bx;go_wp21;refine aK (wQ _ _ _ _ _) fun w2 g=>?_;rw[hw];have Q:=E.off (G:=[]) ((aH.aD W).trans (aH.aD g)) Xc Xc Xc;have hO:aH (bk :: (Fl++Fr)) w w2:=(aH.aD W).trans (aH.aD g);have hG:∀ k∈bk :: (Fl++Fr),k∈bk :: (Fl++Fr)\/w<=k:=fun _ hk=>.inl hk;have s:w.heap.size+1 ∉ bk :: (Fl++Fr):=fun e=>by have:=E.lt _ e;omega
  have r0:=aT g q0;have r1:=aT g q1;have r2:=aT g q2;have r3:=aT g q3;have C:=zL hs g.size;clear g q0 q1 q2 q3 hs D W h E;go_wp21;refine aK (Bq _ _ _ O O O) fun w3 g=>?_;have d:=Mt (w3:=w3) Q hO hG r2 r3 s g;clear g Q hO hG r0 r1 r2 r3 s C;go_upto_region 8 with fail;generalize (Yh _ (XS #[V Y (aL.bB lo hi),hi] 83))=X at d ⊢;generalize w3=M at d ⊢;go_cut [43] from 35 to 45 (fun _ wx=>∃ (u4:Xp XF) (y:J Xr),pR w wx (bk :: (Fl++Fr)) bk M c lo hi a b tl r u4 pr y Fr)
  .have P:=d.half.c3;have K:=d.half.fz 3;have a0:=d.a0;have a1:=d.a1;have m0:=d.m0;have m1:=d.m1
   go_region_with (first
    |(go_at_call 231;refine (S _ _ _ d.half.drew.l).mono ?_;rintro e w4 ⟨u4,y,rfl,m,q,j⟩;have L:=j.cell d.half.kB.1 P;have I:=(j.frozen (o:=3) d.half.kB.1 (d.half.lt _ Xc)).trans K))
   all_goals go_wp21;go_meet;exact⟨_,_,d.drew.mH m q j⟩
  .obtain⟨u4,y,i⟩:=hcut;clear d
   go_upto_region 9 with fail;go_cut [54] from 46 to 56 (fun _ wx=>∃ (u5:Xp XF) (B:J Xr),eo wx bk c tl tr u4 u5 y B/\aH (bk :: (Fl++Fr)) w wx/\∀ k∈bk :: (y++B),k∈(bk :: (Fl++Fr))\/w<=k)
   .have P:=i.half.c4;have K:=i.half.fz 4;have a0:=i.a0;have a1:=i.a1;have m0:=i.n0;have m1:=i.n1
    go_region_with (first
     |(go_at_call 231;refine (R _ _ _ i.half.drew.r).mono ?_;rintro e w5 ⟨u5,B,rfl,m,q,j⟩;have L:=j.cell i.half.kB.2.1 P;have I:=(j.frozen (o:=4) i.half.kB.2.1 (i.half.lt _ Xc)).trans K))
    all_goals go_wp21;go_meet;exact⟨_,_,i.drew.lz m q j⟩
   .obtain⟨u5,B,m,q,j⟩:=hcut;clear i S R
    go_wp21;refine (Bp _ _ _ _ _ _ _ _ _ m A).mono ?_;rintro e w6 ⟨u6,F6,rfl,n1,n2,n3⟩;have HK:=aB (A2 q j Xc n1 n2 n3);clear m q j n1 n2 n3;go_wp21;go_ret;exact HK
theorem TW:∀ n,Jz n:=by
 intro n;induction n with
 |zero =>
  intro t u F lo hi a b x w h z y s m r i d k j;have m:hi-lo<=1:=aU m
  cases l:aL.apart lo hi a b
  .have g:=aL.oI.1 l;exact LJ t u F lo hi a b x 0 w h l (aL.wN.2 O) i d k j
  .exact Le t u F lo hi a b x 0 w h l
 |succ n ih =>
  intro t u F lo hi a b x w h z y s m r i d k j
  cases l:aL.apart lo hi a b
  .cases q:aL.within lo hi a b
   .exact VL n ih t u F lo hi a b x w h l q z y s m r i d k j
   .exact LJ t u F lo hi a b x _ w h l q i d k j
  .exact Le t u F lo hi a b x _ w h l
theorem eC.later{t:aL.T}(h:eC w t p F)(k:XD w w w'):eC w' t p F:=h.same (aH.aD k)
theorem Vn(lo hi a b:Xs)(w:XA):XE prog 198 #[XI Z,XN #[lo,hi],XN #[a,b]] w fun e w'=>e=XR (V Y 0)/\XD w w w':=by
 go_in;go_wp21;go_ret;exact⟨rfl,aS.alloc Xc _⟩
def MS(X w':XA)(bk N M:Xr)(c lo hi a b:Xs)(pl pr:Xp XF):Prop :=w'.cell? (bk,0)=U ↑c/\w'.cell? (bk,3)=U ↑pl/\w'.cell? (bk,4)=U ↑pr/\w'.cell? (N,0)=U ↑a/\w'.cell? (N,1)=U ↑b/\w'.cell? (M,0)=U ↑lo/\w'.cell? (M,1)=U (V Y (aL.bB lo hi))/\w'.cell? (M+1,0)=U (V Y (aL.bB lo hi))/\w'.cell? (M+1,1)=U ↑hi/\XD X X w'
theorem MS.later{b:Xs}(h:MS X w' bk N M c lo hi a b pl pr)(k:XD w' w' w''):MS X w'' bk N M c lo hi a b pl pr:=by let⟨h1,h2,h3,h4,h5,h6,h7,h8,h9,h10⟩:=h;exact⟨aT k h1,aT k h2,aT k h3,aT k h4,aT k h5,aT k h6,aT k h7,aT k h8,aT k h9,bV h10 k aJ⟩
theorem Kq{t:aL.T}{b:Xs}(g:aL.Good t lo hi)(i:LB t)(h:lo<hi)(j:a<b):0<=aL.ic t lo hi a b/\aL.ic t lo hi a b<=100000000:=by
 have:=i.top
 cases d:aL.apart lo hi a b
 .let⟨k0,_,x,k1,k2,_,_,k5⟩:=aL.Kr t lo hi a b h j g d;have:=(aL.yu t lo hi h g).1 x k1 k2;omega
 .rw[aL.Bm d];omega
theorem Vm:∀ (t:aL.T)(u:Xp XF)(F:J Xr)(lo hi a b:Xs)(w:XA),eC w t u F->LB t->aL.Good t lo hi->0<=lo->lo<hi->hi<=2000000->a<b ->XE prog 198 #[u,XN #[lo,hi],XN #[a,b]] w fun e w'=>e=XR (V Y (aL.ic t lo hi a b))/\XD w w w':=by
 intro t;induction t with
 |nil =>
  intro u F lo hi a b w h _ _ _ _ _ _;obtain⟨hu,_⟩:=h
  cases hu;exact Vn lo hi a b w
 |node c l r ihl ihr =>
  intro u F lo hi a b w h g A h0 h1 h2 K;obtain⟨bk,pl,pr,Fl,Fr,rfl,rfl,s⟩:=yz h;have E:=aB ihl;have D:=aB ihr;clear ihl ihr;have x:w.cell? (bk,1)=U (V Y (aL.top (.node c l r))):=by obtain⟨b',_,_,_,_,i,_,x,_⟩:=h;cases i;exact x
  clear h
  cases i:aL.apart lo hi a b
  .cases z:aL.within lo hi a b
   .have m:aL.ic (.node c l r) lo hi a b=c+max (aL.ic l lo (aL.bB lo hi) a b) (aL.ic r (aL.bB lo hi) hi a b):=by simp[aL.ic,i,z]
    have g1:=aL.oI.1 i;have g2:=aL.za.1 z;have I:lo<aL.bB lo hi/\aL.bB lo hi<hi:=by unfold aL.bB;omega
    have bl:=Kq (a:=a) (b:=b) A.2.2.1 g.2.2.2.1 I.1 K;have br:=Kq (a:=a) (b:=b) A.2.2.2 g.2.2.2.2 I.2 K;have hc:=g.1;have I1:Hid (∀ (w:XA),eC w l pl Fl->XE prog 198 #[pl,XN #[lo,V Y (aL.bB lo hi)],XN #[a,b]] w fun e w'=>e=XR (V Y (aL.ic l lo (aL.bB lo hi) a b))/\XD w w w') :=fun w k=>E _ _ _ _ _ _ _ k g.2.2.2.1 A.2.2.1 h0 I.1 O K
    have I2:Hid (∀ (w:XA),eC w r pr Fr->XE prog 198 #[pr,XN #[V Y (aL.bB lo hi),hi],XN #[a,b]] w fun e w'=>e=XR (V Y (aL.ic r (aL.bB lo hi) hi a b))/\XD w w w') :=fun w k=>D _ _ _ _ _ _ _ k g.2.2.2.2 A.2.2.2 O I.2 h2 K
    rw[m];clear m E D g1 g2 A g x;generalize aL.ic l lo (aL.bB lo hi) a b=ml at *;generalize aL.ic r (aL.bB lo hi) hi a b=mr at *;have c0:=s.c0;have c3:=s.c3;have c4:=s.c4;have RL:=aB s.l;have RR:=aB s.r;clear s;have Q:Y.wrap (c+if ml<mr then mr else ml)=c+max ml mr:=by rw[Dz];exact dJ O O
    have E5:=aB Q;clear Q;go_in;go_wp21;refine aK (pS _ _ _ _ _) fun w1 d=>?_;rw[i];have ⟨q0,q1,q2,q3,hs,g⟩:=boxes d;have d0:=aT g c0;have d3:=aT g c3;have d4:=aT g c4;have q:=aB g;clear g d c0 c3 c4;go_wp21;refine aK (wQ _ _ _ _ _) fun w2 d=>?_;rw[z];have y:=aB (bV q d aJ);have r0:=aT d q0;have r1:=aT d q1;have P:=aT d q2;have L:=aT d q3;have W:=aT d d0;have S:=aT d d3;have R:=aT d d4;clear q d q0 q1 q2 q3 hs d0 d3 d4;go_wp21;refine aK (Bq _ _ _ O O O) fun w3 d=>?_;have j:XD w2 w2 ((w3.alloc (XS #[lo,V Y (aL.bB lo hi)] 83)).alloc (XS #[V Y (aL.bB lo hi),hi] 83)):=(d.alloc d.size _).alloc (by have:=d.size;simp;omega) _;have C:MS ((w3.alloc (XS #[lo,V Y (aL.bB lo hi)] 83)).alloc (XS #[V Y (aL.bB lo hi),hi] 83)) ((w3.alloc (XS #[lo,V Y (aL.bB lo hi)] 83)).alloc (XS #[V Y (aL.bB lo hi),hi] 83)) bk (w.heap.size+1) w3 c lo hi a b pl pr :=⟨aT j W,aT j S,aT j R,aT j P,aT j L,by simp,by simp,by simp,by simp,Below.refl _ _⟩
    have H:=aB (Yd (bV y j aJ) (Yd (RL.later (bV y j aJ)) (RR.later (bV y j aJ))));clear y RL RR j d r0 r1 P L W S R;go_upto_region 6 with fail;generalize (Yh _ (XS #[V Y (aL.bB lo hi),hi] 83))=X at C H ⊢;generalize w3=M at C ⊢;go_region_held3 (fun w'=>w'.cell? (bk,0)=U ↑c/\w'.cell? (bk,3)=U ↑pl/\w'.cell? (bk,4)=U ↑pr/\w'.cell? (w.heap.size+1,0)=U ↑a/\w'.cell? (w.heap.size+1,1)=U ↑b/\w'.cell? (M,0)=U ↑lo/\w'.cell? (M,1)=U (V Y (aL.bB lo hi))/\w'.cell? ⟨M+1,0,Z⟩=U (V Y (aL.bB lo hi))/\w'.cell? ⟨M+1,1,Z⟩=U (V Y hi)/\XD X X w')
     (first
      |exact MS.later C (eN _)
      |(go_split_ands;exact MS.later C (bV Xe B aJ)))
     (first
      |(go_at_call_of 198 (XI pl);go_split_ands;refine aK (I1 _ (H.2.1.later Xe)) fun w4 B=>?_)
      |(go_at_call_of 198 (XI pr);go_split_ands;refine aK (I2 _ (H.2.2.later Xe)) fun w4 B=>?_))
    rw[E5,vU];have HF:=aB (bV H.1 (by go_split_ands;assumption:XD X X w4) aJ);clear C H I1 I2;go_wp21;go_ret;exact⟨rfl,HF⟩
   .have m:aL.ic (.node c l r) lo hi a b=aL.top (.node c l r):=by simp[aL.ic,i,z,aL.top]
    rw[m];clear m;generalize aL.top (.node c l r)=tp at x ⊢;go_in;go_wp21;refine aK (pS _ _ _ _ _) fun w1 d=>?_;rw[i];have ⟨q0,q1,q2,q3,hs,g⟩:=boxes d;have d1:=aT g x;have q:=aB g;clear g d x;go_wp21;refine aK (wQ _ _ _ _ _) fun w2 d=>?_;rw[z];have d2:=aT d d1;have y:=aB (bV q d aJ);clear q d q0 q1 q2 q3 hs d1;go_wp21;go_ret;exact⟨rfl,y⟩
  .have m:aL.ic (.node c l r) lo hi a b=0:=aL.Bm i;rw[m];clear m
   go_in;go_wp21;refine aK (pS _ _ _ _ _) fun w1 d=>?_;rw[i];have q:=aB (boxes d).bw;clear d;go_wp21;go_ret;exact⟨rfl,q⟩
theorem wR(w:XA):XE prog 199 #[] w fun e w'=>e=XR (XN #[V Y 0,V Y 1048320])/\XD w w w':=by go_in;go_wp2;exact bodyPost_ret (v:=XN #[V Y 0,V Y 1048320]) (by simp[results,results199,go_sem]) rfl ⟨rfl,aS⟩
theorem JT(t:aL.T)(i o:Xr)(u:Xp XF)(F:J Xr)(a b:Xs)(w:XA)(c:w.cell? (i,o)=U ↑u)(h:eC w t u F)(s:LB t)(r:aL.Good t 0 1048320)(x:a<b):XE prog 158 #[XI (U ⟨i,o,Z⟩),XN #[a,b]] w fun e w'=>e=XR (V Y (aL.ic t 0 1048320 a b))/\XD w w w':=by
 have q:=aB h;clear h;go_in;go_upto_region 1 with fail;have j:XD w w (w.alloc (XS #[a,b] 83)):=aS;have m:(w.alloc (XS #[a,b] 83)).cell? (w,0)=U ↑a:=Xc;have l:(w.alloc (XS #[a,b] 83)).cell? (w,1)=U ↑b:=Xc;have k:=aT j c;have g:=aB j;clear j;generalize (Yh w (XS #[a,b] 83))=X at m l k g ⊢;go_region_held3 (fun w'=>w'.cell? (i,o)=U ↑u/\w'.cell? (w,0)=U ↑a/\w'.cell? (w,1)=U ↑b/\XD X X w')
  (first
   |exact⟨k,m,l,eN _⟩
   |(go_split_ands;exact⟨aT d Xe,aT d Xe,aT d Xe,bV Xe d aJ⟩))
  (first
   |(go_at_call 199;go_split_ands;refine aK (wR _) fun w4 d=>?_)
   |(go_at_call 198;go_split_ands;refine aK (Vm t u F 0 1048320 a b _ (q.later (bV g Xe aJ)) s r O O O x) fun w4 d=>?_))
 have y:=aB (bV g (by go_split_ands;assumption:XD X X w4) aJ);clear g q;go_wp21;go_ret;exact⟨rfl,y⟩
def uS(w:XA)(d o:Xr)(F:J Xr)(i:aL.T)(w':XA):Prop :=∃ (h:Xp XF) (F':J Xr),w'.cell? ⟨d,o,Z⟩=U (XI h)/\eC w' i (XI h) F'/\(∀ k∈F',k∈F\/w.heap.size<=k)/\aH (d :: F) w w'/\(∀ g,g≠o->w'.cell? ⟨d,g,Z⟩=w.cell? ⟨d,g,Z⟩)/\∀ g,w'.frozen? ⟨d,g,Z⟩=w.frozen? ⟨d,g,Z⟩
theorem TY{g:XA}{d:Xr}{F5:J Xr}{l:aL.T}{u5:Xp XF}(j:XD w w w4)(i:d<w)(B:d ∉ F)(z:eC g l u5 F5)(y:∀ k∈F5,k∈F\/w4<=k)(m:aH F w4 g)(r:g.cell? (d,o)=U v):uS w d o F l (g.setCell (d,o) u5):=by
 have E:=j.size;have s:aH [] w w4:=aH.aD j;have A:d ∉ F5:=fun e=>by grind
 have q:g.heap[d]?=w.heap[d]?:=(m.block d O B).trans (s.block d i Xc);refine⟨u5,F5,Yc _ _ _ r,z.off (aH.bN ..) (fun x D=>by grind),fun k C=>?_,?_,fun t H=>?_,fun t=>?_⟩
 .rcases y k C with h|h
  .exact .inl h
  .exact .inr O
 .exact ((aH.aD (F:=d :: F) j).trans (m.mono Xi)).setCell (.inl Xc) _ _
 .exact (bD Xc).trans (zo (w:=w) q)
 .refine (zF ..).trans ?_;simp only[XX,q]
theorem TS(t:aL.T)(g o:Xr)(u:Xp XF)(F:J Xr)(a b x:Xs)(w:XA)(c:w.cell? (g,o)=U ↑u)(f:w.frozen? (g,o)=Xy)(r:g ∉ F)(h:eC w t u F)(K:a<b)(q:-1000000<=x)(m:x<=1000000)(y:LB t)(s:LB (aL.iQ 20 t 0 1048320 a b x)):XE prog 206 #[XI (U ⟨g,o,Z⟩),XN #[a,b],x] w fun e w'=>e=XR (XM #[])/\uS w g o F (aL.iQ 20 t 0 1048320 a b x) w':=by
 have Q:Hid (∀ (w':XA),eC w' t u F->XE prog 231 #[u,XN #[V Y 0,V Y 1048320],XN #[a,b],x] w' (tF w' F (aL.iQ 20 t 0 1048320 a b x))) :=fun w' k=>TW 20 t u F 0 1048320 a b x w' k O O O Xd K q m y s
 have L:=aB h;have i:=XW _ _ c;generalize aL.iQ 20 t 0 1048320 a b x=t' at *;go_in;go_upto_region 1 with fail;have D:XD w w (w.alloc (XS #[a,b] 83)):=aS;have C:(w.alloc (XS #[a,b] 83)).cell? (w,0)=U ↑a:=Xc;have B:(w.alloc (XS #[a,b] 83)).cell? (w,1)=U ↑b:=Xc;have A:=aT D c;have j:=aB D;generalize (Yh w (XS #[a,b] 83))=X at C B A j ⊢;go_region_with (first
  |(go_at_call 199;refine aK (wR _) fun w4 d=>?_;have W:=aT d (show Yi (Yj X) _=_ from C);have S:=aT d (show Yi (Yj X) _=_ from B);have z:=aT d (show Yi (Yj X) _=_ from A))
  |(go_at_call 231;refine (Q _ (L.later (bV j (bV (eN _) d aJ) aJ))).mono ?_;rintro e w5 ⟨u5,F5,rfl,I,H,l⟩;have E:=l.cell r z;have R:=(l.frozen (o:=o) r (XW _ _ z)).trans (((aH.aD (F:=[]) (bV j (bV (eN _) d aJ) aJ)).frozen Xc i).trans f)))
 all_goals have P:=aB (TY (bV j (bV (eN _) d aJ) aJ) i r I H l E);go_wp21;go_end0;exact⟨rfl,P⟩
theorem SZ(t:aL.T)(u:Xp XF)(F:J Xr)(c level:Xs)(k:Xr)(w:XA)(h:eC w t u F)(g:LB t)(d:w.cell? (k,0)=U ↑level)(l:-1000000000<=c)(j:c<=1000000000):XE prog 200 #[u,c,k] w fun e w'=>e=XR (aL.kP Xz level t c)/\XD w w w':=by
 have i:=g.top;go_in;go_wp21;go_region_held3 (fun w'=>w'.cell? (k,0)=U ↑level/\XD w w w')
  (exact⟨d,eN _⟩)
  (first|(go_at_call 201;go_split_ands;refine aZ (yI _ (h.later Xe)) ?_))
 go_wp21;go_ret;exact⟨qD (by simp only[aL.kP];rw[dJ O O];simp),eN _⟩
theorem S3(t:aL.T)(u:Xp XF)(F:J Xr)(c level:Xs)(k:Xr)(w:XA)(h:eC w t u F)(g:LB t)(d:w.cell? (k,0)=U ↑level)(l:-1000000000<=c)(j:c<=1000000000):XE prog 202 #[u,c,k] w fun e w'=>e=XR (aL.kP Xy level t c)/\XD w w w':=by
 have i:=g.bot;go_in;go_wp21;go_region_held3 (fun w'=>w'.cell? (k,0)=U ↑level/\XD w w w')
  (exact⟨d,eN _⟩)
  (first|(go_at_call 203;go_split_ands;refine aZ (yH _ (h.later Xe)) ?_))
 go_wp21;go_ret;exact⟨qD (by simp only[aL.kP];rw[dJ O O];simp),eN _⟩
def xh(d:Xq)(fn:Xr):Prop:=(d=Xz/\fn=200)\/(d=Xy/\fn=202)
theorem Ca{d:Xq}(m:xh d fn)(t:aL.T)(u:Xp XF)(F:J Xr)(c level:Xs)(k:Xr)(w:XA)(h:eC w t u F)(i:LB t)(g:w.cell? (k,0)=U ↑level)(l:-1000000000<=c)(j:c<=1000000000):XE prog fn #[u,c,k] w fun e w'=>e=XR (aL.kP d level t c)/\XD w w w':=by
 rcases m with ⟨rfl,rfl⟩|⟨rfl,rfl⟩
 .exact SZ t u F c level k w h i g l j
 .exact S3 t u F c level k w h i g l j
theorem M0{t:aL.T}(w:XA)(h:eC w t u F):XE prog 230 #[u] w fun e w'=>e=XR (aL.flat t)/\w'=w:=by
 cases t with
 |nil=>let⟨h1,_⟩:=h;cases h1;exact WD w
 |node a l r =>
  obtain⟨b,pl,pr,Fl,Fr,rfl,rfl,d⟩:=yz h;have e:aL.flat (.node a l r)=uI pl pr:=by rw[uI,d.l.isNone,d.r.isNone];rfl
  rw[e];exact FU b pl pr w d.c3 d.c4
def lf:Xp Xs->XC
 |none=>XM #[V Y 0,Xy]
 |some x=>XM #[V Y x,Xz]
theorem Ue{x y:Xs}(h:x=y):XR (XM #[x,Xz])=XR (lf (U y)):=by rw[h];rfl
theorem M1(u:Xp XF)(lo hi a b c:Xs)(k fn:Xr)(w:XA)(g:aL.apart lo hi a b=Xz):XE prog 204 #[u,XN #[lo,hi],XN #[a,b],c,.func (.func fn) #[] #[k]] w fun e w'=>e=XR (lf Z)/\XD w w w':=by
 generalize Value.func _ _ _=q;go_in;go_wp21;refine aK (pS _ _ _ _ _) fun w1 d=>?_;rw[g];have h:=aB (boxes d).bw;clear d;go_wp21;go_ret2;exact⟨rfl,h⟩
theorem Iu{i:Xq}(l:xh i fn)(t:aL.T)(u:Xp XF)(F:J Xr)(lo hi a b c level:Xs)(k:Xr)(w:XA)(h:eC w t u F)(m:LB t)(s:w.cell? (k,0)=U ↑level)(y:-1000000000<=c)(x:c<=1000000000)(r:aL.apart lo hi a b=Xy)(q:aL.kP i level t c=Xy):XE prog 204 #[u,XN #[lo,hi],XN #[a,b],c,.func (.func fn) #[] #[k]] w fun e w'=>e=XR (lf Z)/\XD w w w':=by
 have A:=aB (fun w' j=>Ca l t u F c level k w' (eC.later h j) m (aT j s) y x);clear m;rcases l with ⟨rfl,rfl⟩|⟨rfl,rfl⟩;all_goals go_in;go_wp21;refine aK (pS _ _ _ _ _) fun w1 d=>?_;rw[r];have g:=aB (boxes d).bw;clear d;go_wp21;refine aK (A _ g) fun w2 d=>?_;rw[q];have z:=aB (bV g d aJ);clear g d;go_wp21;go_ret2;exact⟨rfl,z⟩
theorem Is{i:Xq}(l:xh i fn)(t:aL.T)(u:Xp XF)(F:J Xr)(lo hi a b c level:Xs)(k:Xr)(w:XA)(h:eC w t u F)(m:LB t)(y:w.cell? (k,0)=U ↑level)(A:-1000000000<=c)(z:c<=1000000000)(s:aL.apart lo hi a b=Xy)(r:aL.kP i level t c=Xz)(x:aL.flat t=Xz):XE prog 204 #[u,XN #[lo,hi],XN #[a,b],c,.func (.func fn) #[] #[k]] w fun e w'=>e=XR (lf (U (max lo a)))/\XD w w w':=by
 have B:=aB (fun w' j=>Ca l t u F c level k w' (eC.later h j) m (aT j y) A z);clear m;rcases l with ⟨rfl,rfl⟩|⟨rfl,rfl⟩;all_goals
  go_in;go_wp21;refine aK (pS _ _ _ _ _) fun w1 d=>?_;rw[s];have ⟨q0,q1,q2,q3,hs,hBw⟩:=boxes d;have g:=aB hBw;clear d hBw;go_wp21;refine aK (B _ g) fun w2 d=>?_;rw[r];have D:=aT d q0;have C:=aT d q2;have q:=aB (bV g d aJ);clear g d q0 q1 q2 q3 hs;go_wp21;refine aZ (M0 _ (h.later q)) ?_;rw[x];go_wp21;all_goals go_ret2;exact⟨Ue O,q⟩
def Er(d:Xq)(fn:Xr)(t:aL.T):Prop:=∀ (u:Xp XF)(F:J Xr)(lo hi a b c level:Xs)(k:Xr)(w:XA),eC w t u F->LB t->aL.Good t lo hi->w.cell? (k,0)=U ↑level->0<=c->c+aL.top t<=100000000->0<=lo->lo<hi->hi<=2000000->a<b ->XE prog 204 #[u,XN #[lo,hi],XN #[a,b],c,.func (.func fn) #[] #[k]] w fun e w'=>e=XR (lf (aL.fm d level t lo hi a b c))/\XD w w w'
def FS(X w':XA)(bk N M:Xr)(v lo hi a b:Xs)(pl pr:Xp XF):Prop :=w'.cell? (bk,0)=U ↑v/\w'.cell? (bk,3)=U ↑pl/\w'.cell? (bk,4)=U ↑pr/\w'.cell? (N,0)=U ↑a/\w'.cell? (N,1)=U ↑b/\w'.cell? (M,0)=U ↑lo/\w'.cell? (M,1)=U (V Y (aL.bB lo hi))/\w'.cell? (M+1,0)=U (V Y (aL.bB lo hi))/\w'.cell? (M+1,1)=U ↑hi/\XD X X w'
theorem FS.later{v b:Xs}(h:FS X w' bk N M v lo hi a b pl pr)(k:XD w' w' w''):FS X w'' bk N M v lo hi a b pl pr:=by let⟨h1,h2,h3,h4,h5,h6,h7,h8,h9,h10⟩:=h;exact⟨aT k h1,aT k h2,aT k h3,aT k h4,aT k h5,aT k h6,aT k h7,aT k h8,aT k h9,bV h10 k aJ⟩
theorem Ud{d:Xq}{v b:Xs}{l r:aL.T}(i:aL.apart lo hi a b=Xy)(h:aL.kP d level (.node v l r) c=Xz)(j:aL.flat (.node v l r)=Xy):aL.fm d level (.node v l r) lo hi a b c=match aL.fm d level l lo (aL.bB lo hi) a b (c+v) with|some x=>U x|none=>aL.fm d level r (aL.bB lo hi) hi a b (c+v):=by have g:(aL.isNil l && aL.isNil r)=Xy:=j;rw[aL.fm];simp only[i,h,g,XZ,X4,X5,if_false] <;> rfl
theorem OQ{j:Xq}(hG:xh j fn)(v:Xs)(l r:aL.T)(L:Hid (Er j fn l))(K:Hid (Er j fn r))(u:Xp XF)(F:J Xr)(lo hi a b c level:Xs)(k:Xr)(w:XA)(h:eC w (.node v l r) (XI u) F)(t:LB (.node v l r))(q:aL.Good (.node v l r) lo hi)(R:w.cell? ⟨k,0,Z⟩=U (V Y level))(h1:0<=c)(h2:c+aL.top (.node v l r)<=100000000)(h3:0<=lo)(h4:lo<hi)(h5:hi<=2000000)(h6:a<b)
  (hp:aL.apart lo hi a b=Xy) (W:aL.kP j level (.node v l r) c=Xz) (Q:aL.flat (.node v l r)=Xy):
  XE prog 204 #[XI u,XN #[V Y lo,V Y hi],XN #[V Y a,V Y b],V Y c,.func (.func fn) #[] #[XI (U ⟨k,0,Z⟩)]] w fun e w'=>e=XR (lf (aL.fm j level (.node v l r) lo hi a b c))/\XD w.heap.size w w':=by
 have tp:=t.top;have tl:=t.2.2.2.1.top;have tr:=t.2.2.2.2.top;have hv:=t.1;have aa:=q.1;have ht:aL.top (.node v l r)=v+max (aL.top l) (aL.top r):=rfl;have gl:=aL.BA l lo (aL.bB lo hi) 0 q.2.2.1;have t0:0<=aL.top (.node v l r):=by obtain⟨_,x,_,_,e⟩:=aL.yu (.node v l r) lo hi h4 q;have:=aL.BA (.node v l r) lo hi x q;omega
 have ac:2<=hi-lo:=by
  rcases q.2.1 with ⟨e1,e2⟩|h2
  .have P:(aL.isNil l && aL.isNil r)=Xy:=Q;simp[e1,e2] at P
  .exact h2
 have hm:lo<aL.bB lo hi/\aL.bB lo hi<hi:=by unfold aL.bB;omega
 have AK:=aB (fun w' i=>Ca hG (.node v l r) u F c level k w' (eC.later h i) t (aT i R) O O);have S:=aB (fun (w':XA) (i:XD w.heap.size w w')=>M0 w' (eC.later h i));obtain⟨bk,pl,pr,Fl,Fr,rfl,rfl,B⟩:=yz h;have C:Hid (∀ w',XD w.heap.size w w'->XE prog 204 #[XI pl,XN #[V Y lo,V Y (aL.bB lo hi)],XN #[V Y a,V Y b],V Y (c+v),.func (.func fn) #[] #[XI (U ⟨k,0,Z⟩)]] w' fun e w''=>e=XR (lf (aL.fm j level l lo (aL.bB lo hi) a b (c+v)))/\XD w'.heap.size w' w'') :=fun w' i=>L.out pl Fl lo _ a b (c+v) level k w' (B.l.later i) t.2.2.2.1 q.2.2.1 (aT i R) O O h3 hm.1 O h6
 have H:Hid (∀ w',XD w.heap.size w w'->XE prog 204 #[XI pr,XN #[V Y (aL.bB lo hi),V Y hi],XN #[V Y a,V Y b],V Y (c+v),.func (.func fn) #[] #[XI (U ⟨k,0,Z⟩)]] w' fun e w''=>e=XR (lf (aL.fm j level r (aL.bB lo hi) hi a b (c+v)))/\XD w'.heap.size w' w'') :=fun w' i=>K.out pr Fr _ hi a b (c+v) level k w' (B.r.later i) t.2.2.2.2 q.2.2.2 (aT i R) O O O hm.2 h5 h6
 rw[Ud hp W Q];have ab:Y.wrap (c+v)=c+v:=dJ O O;have c0:=B.c0;have c3:=B.c3;have c4:=B.c4;generalize aL.fm j level l lo (aL.bB lo hi) a b (c+v)=ol at *;generalize aL.fm j level r (aL.bB lo hi) hi a b (c+v)=or at *;rcases hG with ⟨rfl,rfl⟩|⟨rfl,rfl⟩;all_goals
  go_in;go_wp2_with fail;refine (pS _ _ _ _ _).mono ?_;rintro e w1 ⟨rfl,g⟩;rw[hp];have ⟨q0,q1,q2,q3,hs,hBw⟩:=boxes g;have d0:=aT hBw c0;have d3:=aT hBw c3;have d4:=aT hBw c4;have HB:=aB hBw;go_wp2_with fail;refine (AK.out _ HB.out).mono ?_;rintro e w2 ⟨rfl,g⟩;rw[W];have r0:=aT g q0;have r1:=aT g q1;have r2:=aT g q2;have r3:=aT g q3;have e0:=aT g d0;have e3:=aT g d3;have e4:=aT g d4;have HC:=aB (bV HB.out g (zq _));go_wp2_with fail;refine (S.out _ HC.out).mono ?_;rintro e A ⟨rfl,rfl⟩;rw[Q];go_wp2_with fail;refine (Bq _ _ _ O O O).mono ?_;rintro e w3 ⟨rfl,g⟩;have z:XD A.heap.size A ((w3.alloc (XS #[V Y lo,V Y (aL.bB lo hi)] 83)).alloc (XS #[V Y (aL.bB lo hi),V Y hi] 83)):=(g.alloc g.size _).alloc (by have:=g.size;simp;omega) _;have s:FS ((w3.alloc (XS #[V Y lo,V Y (aL.bB lo hi)] 83)).alloc (XS #[V Y (aL.bB lo hi),V Y hi] 83)) ((w3.alloc (XS #[V Y lo,V Y (aL.bB lo hi)] 83)).alloc (XS #[V Y (aL.bB lo hi),V Y hi] 83)) bk (w.heap.size+1) w3.heap.size v lo hi a b pl pr :=⟨aT z e0,aT z e3,aT z e4,aT z r2,aT z r3,by simp,by simp,by simp,by simp,Below.refl _ _⟩
  have m:=aB (bV HC.out z (zq _));go_upto_region 6 with fail;generalize (Yh _ (XS #[V Y (aL.bB lo hi),V Y hi] 83))=X at s m ⊢;generalize w3.heap.size=M at s ⊢
  cases ol with
  |some y =>
   simp only[lf] at C ⊢;go_region_held3 (fun w'=>w'.cell? ⟨bk,0,Z⟩=U (V Y v)/\w'.cell? ⟨bk,3,Z⟩=U (XI pl)/\w'.cell? ⟨bk,4,Z⟩=U (XI pr)/\w'.cell? ⟨w.heap.size+1,0,Z⟩=U (V Y a)/\w'.cell? ⟨w.heap.size+1,1,Z⟩=U (V Y b)/\w'.cell? ⟨M,0,Z⟩=U (V Y lo)/\w'.cell? ⟨M,1,Z⟩=U (V Y (aL.bB lo hi))/\w'.cell? ⟨M+1,0,Z⟩=U (V Y (aL.bB lo hi))/\w'.cell? ⟨M+1,1,Z⟩=U (V Y hi)/\XD X.heap.size X w')
    (first
     |exact FS.later s (eN _)
     |(go_split_ands;exact FS.later s (bV Xe d (zq _))))
    (first
     |(go_at_call 204;go_split_ands;refine (C.out _ (bV m.out Xe (zq _))).mono ?_;rintro e w4 ⟨rfl,d⟩))
   have D:=aB (bV m.out (by go_split_ands;assumption:XD X.heap.size X w4) (zq _));go_wp2;go_ret2;exact⟨rfl,D.out⟩
  |none =>
   simp only[lf] at C ⊢;go_region_held3 (fun w'=>w'.cell? ⟨bk,0,Z⟩=U (V Y v)/\w'.cell? ⟨bk,3,Z⟩=U (XI pl)/\w'.cell? ⟨bk,4,Z⟩=U (XI pr)/\w'.cell? ⟨w.heap.size+1,0,Z⟩=U (V Y a)/\w'.cell? ⟨w.heap.size+1,1,Z⟩=U (V Y b)/\w'.cell? ⟨M,0,Z⟩=U (V Y lo)/\w'.cell? ⟨M,1,Z⟩=U (V Y (aL.bB lo hi))/\w'.cell? ⟨M+1,0,Z⟩=U (V Y (aL.bB lo hi))/\w'.cell? ⟨M+1,1,Z⟩=U (V Y hi)/\XD X.heap.size X w')
    (first
     |exact FS.later s (eN _)
     |(go_split_ands;exact FS.later s (bV Xe d (zq _))))
    (first
     |(go_at_call 204;go_split_ands;refine (C.out _ (bV m.out Xe (zq _))).mono ?_;rintro e w4 ⟨rfl,d⟩))
   have E:FS X w4 bk (w.heap.size+1) M v lo hi a b pl pr:=Xe;clear s C;go_upto_region 9 with fail
   cases or with
   |some y =>
    simp only[lf] at H ⊢;go_region_held3 (fun w'=>w'.cell? ⟨bk,0,Z⟩=U (V Y v)/\w'.cell? ⟨bk,3,Z⟩=U (XI pl)/\w'.cell? ⟨bk,4,Z⟩=U (XI pr)/\w'.cell? ⟨w.heap.size+1,0,Z⟩=U (V Y a)/\w'.cell? ⟨w.heap.size+1,1,Z⟩=U (V Y b)/\w'.cell? ⟨M,0,Z⟩=U (V Y lo)/\w'.cell? ⟨M,1,Z⟩=U (V Y (aL.bB lo hi))/\w'.cell? ⟨M+1,0,Z⟩=U (V Y (aL.bB lo hi))/\w'.cell? ⟨M+1,1,Z⟩=U (V Y hi)/\XD X.heap.size X w')
     (first
      |exact FS.later E (eN _)
      |(go_split_ands;exact FS.later E (bV (eN _) d (zq _))))
     (first
      |(go_at_call 204;go_split_ands;refine (H.out _ (bV m.out Xe (zq _))).mono ?_;rintro e I ⟨rfl,d⟩))
    have D:=aB (bV m.out (by go_split_ands;assumption:XD X.heap.size X I) (zq _));go_wp2;go_ret2;exact⟨rfl,D.out⟩
   |none =>
    simp only[lf] at H ⊢;go_region_held3 (fun w'=>w'.cell? ⟨bk,0,Z⟩=U (V Y v)/\w'.cell? ⟨bk,3,Z⟩=U (XI pl)/\w'.cell? ⟨bk,4,Z⟩=U (XI pr)/\w'.cell? ⟨w.heap.size+1,0,Z⟩=U (V Y a)/\w'.cell? ⟨w.heap.size+1,1,Z⟩=U (V Y b)/\w'.cell? ⟨M,0,Z⟩=U (V Y lo)/\w'.cell? ⟨M,1,Z⟩=U (V Y (aL.bB lo hi))/\w'.cell? ⟨M+1,0,Z⟩=U (V Y (aL.bB lo hi))/\w'.cell? ⟨M+1,1,Z⟩=U (V Y hi)/\XD X.heap.size X w')
     (first
      |exact FS.later E (eN _)
      |(go_split_ands;exact FS.later E (bV (eN _) d (zq _))))
     (first
      |(go_at_call 204;go_split_ands;refine (H.out _ (bV m.out Xe (zq _))).mono ?_;rintro e I ⟨rfl,d⟩))
    have D:=aB (bV m.out (by go_split_ands;assumption:XD X.heap.size X I) (zq _));go_wp2;go_ret2;exact⟨rfl,D.out⟩
theorem Ir{g:Xq}(q:xh g fn):∀ t:aL.T,Er g fn t:=by
 intro t;induction t with
 |nil =>
  intro u F lo hi a b c level k w h m s j H B E A D C;simp only[aL.top] at B
  cases d:aL.apart lo hi a b
  .cases i:aL.kP g level .nil c
   .have e:aL.fm g level .nil lo hi a b c=Z:=by simp[aL.fm,i]
    rw[e];exact Iu q .nil u F lo hi a b c level k w h m j O O d i
   .have e:aL.fm g level .nil lo hi a b c=U (max lo a):=by simp[aL.fm,i,d]
    rw[e];exact Is q .nil u F lo hi a b c level k w h m j O O d i rfl
  .have e:aL.fm g level .nil lo hi a b c=Z:=by simp[aL.fm,d]
   rw[e];exact M1 u lo hi a b c k _ w d
 |node v l r ihl ihr =>
  intro u F lo hi a b c level k w h m s j H B E A D C;have I:0<=aL.top (.node v l r):=by let⟨_,x,_,_,e⟩:=aL.yu (.node v l r) lo hi A s;have:=aL.BA (.node v l r) lo hi x s;omega
  cases d:aL.apart lo hi a b
  .cases i:aL.kP g level (.node v l r) c
   .have e:aL.fm g level (.node v l r) lo hi a b c=Z:=by simp[aL.fm,i]
    rw[e];exact Iu q _ u F lo hi a b c level k w h m j O O d i
   .cases z:aL.flat (.node v l r)
    .exact OQ q v l r ihl ihr u F lo hi a b c level k w h m s j H B E A D C d i z
    .have y:(aL.isNil l && aL.isNil r)=Xz:=z;have e:aL.fm g level (.node v l r) lo hi a b c=U (max lo a):=by rw[aL.fm];simp only[i,d,y,XZ,X4,X5,if_false,if_true]
     rw[e];exact Is q _ u F lo hi a b c level k w h m j O O d i z
  .have e:aL.fm g level (.node v l r) lo hi a b c=Z:=by simp[aL.fm,d]
   rw[e];exact M1 u lo hi a b c k _ w d
def pe(f:Xs->Xs)(long level s:Xs):Prop:=∀ x,s<=x->x<s+long->f x<=level
def tM(f:Xs->Xs)(a b long level:Xs):Xp Xs->Prop
 |none=>∀ s,a<=s->s+long<=b->¬ pe f long level s
 |some s=>a<=s/\s+long<=b/\pe f long level s/\∀ d,a<=d->d<s->¬ pe f long level d
theorem Ul(h:aL.rm (fun z=>level<f z) 0 1048320 st (st+long) Z)(g:0<=st)(d:st+long<=1048320):pe f long level st:=by grind[aL.rm,pe]
theorem Tc{b:Xs}(h:∀ i,a<=i->i<st->¬ pe f long level i)(t:level<f y5)(g:aL.rm (fun z=>f z<=level) 0 1048320 y5 b Z)(r:st<=y5)(q:y5<st+long)(m:0<=y5)(l:b<=1048320):tM f a b long level Z:=by
 intro i k s j;by_cases c:i<st
 .exact h i k c j
 .by_cases d:i<=y5
  .have:=j y5 d O;omega
  .have e:=j i O O;exact g i O O O O e
theorem Uh{b:Xs}(h:∀ s',a<=s'->s'<st->¬ pe f long level s')(l:level<f y5)(g:aL.rm (fun z=>f z<=level) 0 1048320 y5 b (U y6))(d:0<=a)(k:a<=st)(j:st<=y5)(i:y5<st+long):a<=y6/\y6<=1048320/\∀ s',a<=s'->s'<y6->¬ pe f long level s':=by grind[pe,aL.rm]
theorem Ug{b:Xs}(d:level<f y5)(g:aL.rm (fun z=>f z<=level) 0 1048320 y5 b (U y6)):y5<y6/\y6<1048320:=by grind[aL.rm]
theorem UK(t:aL.T)(m o:Xr)(u:Xp XF)(F:J Xr)(a b long level:Xs)(w:XA)(c:w.cell? ⟨m,o,Z⟩=U (XI u))(h:eC w t (XI u) F)(H:LB t)(D:aL.Good t 0 1048320)(h0:0<=a)(h1:a<b)(h2:b<=1048320)(h3:1<=long)(h4:long<=1048320):XE prog 159 #[XI (U ⟨m,o,Z⟩),XN #[V Y a,V Y b],V Y long,V Y level] w fun e w'=>∃ r:Xp Xs,e=XR (lf r)/\tM (aL.fh t 0 1048320) a b long level r/\XD w.heap.size w w':=by
 have tp:=H.top;have C1:Hid (∀ (w':XA) (x y:Xs),XD w.heap.size w w'->w'.cell? ⟨w.heap.size+1,0,Z⟩=U (V Y level)->x<y->XE prog 204 #[XI u,XN #[V Y 0,V Y 1048320],XN #[V Y x,V Y y],V Y 0,.func (.func 200) #[] #[XI (U ⟨w.heap.size+1,0,Z⟩)]] w' fun e w''=>e=XR (lf (aL.fm Xz level t 0 1048320 x y 0))/\XD w'.heap.size w' w''):=by intro w' x y g i k;exact Ir (.inl ⟨rfl,rfl⟩) t u F 0 1048320 x y 0 level _ w' (h.later g) H D i O O O O O k
 have C2:Hid (∀ (w':XA) (x y:Xs),XD w.heap.size w w'->w'.cell? ⟨w.heap.size+1,0,Z⟩=U (V Y level)->x<y->XE prog 204 #[XI u,XN #[V Y 0,V Y 1048320],XN #[V Y x,V Y y],V Y 0,.func (.func 202) #[] #[XI (U ⟨w.heap.size+1,0,Z⟩)]] w' fun e w''=>e=XR (lf (aL.fm Xy level t 0 1048320 x y 0))/\XD w'.heap.size w' w''):=by intro w' x y g i k;exact Ir (.inr ⟨rfl,rfl⟩) t u F 0 1048320 x y 0 level _ w' (h.later g) H D i O O O O O k
 have D1:Hid (∀ x y,x<y->aL.rm (fun z=>level<aL.fh t 0 1048320 z) 0 1048320 x y (aL.fm Xz level t 0 1048320 x y 0)):=by intro x y k;have:=aL.Jb Xz level t 0 1048320 x y 0 O k D;simpa only[aL.want,if_true,Yf] using this
 have D2:Hid (∀ x y,x<y->aL.rm (fun z=>aL.fh t 0 1048320 z<=level) 0 1048320 x y (aL.fm Xy level t 0 1048320 x y 0)):=by intro x y k;have:=aL.Jb Xy level t 0 1048320 x y 0 O k D;simpa only[aL.want,X5,if_false,Yf] using this
 clear h H D tp;go_in;go_wp2_with fail;have hX:XD w.heap.size w ((w.alloc (XS #[V Y a,V Y b] 83)).alloc (XS #[V Y level] 3)):=((zr _ _).alloc (zq _) _).alloc Xc _;have x1:((w.alloc (XS #[V Y a,V Y b] 83)).alloc (XS #[V Y level] 3)).cell? ⟨w.heap.size,1,Z⟩=U (V Y b):=Xc;have W:((w.alloc (XS #[V Y a,V Y b] 83)).alloc (XS #[V Y level] 3)).cell? ⟨w.heap.size+1,0,Z⟩=U (V Y level):=Xc;have S:=aT hX c;have j:=aB hX;generalize (Yh _ (XS #[V Y level] 3))=X at x1 W S j ⊢;go_loopw [12,13,14] (fun s _ _ wx=>∃ st:Xs,s=V Y st/\a<=st/\st<=1048320/\(∀ q,a<=q->q<st->¬ pe (aL.fh t 0 1048320) long level q)/\XD X.heap.size X wx) (fun s _ _ _=>(1048321-intOf s).toNat)
 case atStart=>exact⟨a,rfl,by omega,by omega,fun q _ _=>by omega,Below.refl _ _⟩
 case round =>
  obtain⟨st,rfl,C,ae,aa,A⟩:=hrel;have Q:=aB aa;have y1:=aT A x1;have y2:=aT A W;have yc:=aT A S;by_cases ab:st+long<=b
  .have ad:Y.wrap (st+long)=st+long:=dJ O O;have R:=aB (D1.out st (st+long) O);have P:=aB (fun w' g i=>C1.out w' st (st+long) g i O)
   cases K:aL.fm Xz level t 0 1048320 st (st+long) 0 with
   |none =>
    rw[K] at R;simp only[K,lf] at P;go_upto_region 5 with fail;go_region_held3 (fun w'=>w'.cell? ⟨m,o,Z⟩=U (XI u)/\w'.cell? ⟨w.heap.size,1,Z⟩=U (V Y b)/\w'.cell? ⟨w.heap.size+1,0,Z⟩=U (V Y level)/\XD X.heap.size X w')
     (first
      |exact⟨yc,y1,y2,bV A (eN _) (zq _)⟩
      |(go_split_ands;exact⟨aT d Xe,aT d Xe,aT d Xe,bV Xe d (zq _)⟩))
     (first
      |(go_at_call 199;go_split_ands;refine (wR _).mono ?_;rintro e w4 ⟨rfl,d⟩)
      |(go_at_call 204;go_split_ands;refine (P.out _ (bV j.out Xe (zq _)) Xe).mono ?_;rintro e w5 ⟨rfl,d⟩))
    have HF:=aB (bV j.out (by go_split_ands;assumption:XD X.heap.size X w5) (zq _));go_wp2;go_ret2;exact⟨U st,rfl,⟨C,ab,Ul R.out O O,Q.out⟩,HF.out⟩
   |some y5 =>
    rw[K] at R;simp only[K,lf] at P;obtain⟨_,g2,g3,g4,g5,g6⟩:=R.out;have ac:level<aL.fh t 0 1048320 y5:=g5;have l:=aB ac;have E:=aB (D2.out y5 b O);have L:=aB (fun w' g i=>C2.out w' y5 b g i O);go_upto_region 5 with fail;go_region_held3 (fun w'=>w'.cell? ⟨m,o,Z⟩=U (XI u)/\w'.cell? ⟨w.heap.size,1,Z⟩=U (V Y b)/\w'.cell? ⟨w.heap.size+1,0,Z⟩=U (V Y level)/\XD X.heap.size X w')
     (first
      |exact⟨yc,y1,y2,bV A (eN _) (zq _)⟩
      |(go_split_ands;exact⟨aT d Xe,aT d Xe,aT d Xe,bV Xe d (zq _)⟩))
     (first
      |(go_at_call 199;go_split_ands;refine (wR _).mono ?_;rintro e w4 ⟨rfl,d⟩)
      |(go_at_call 204;go_split_ands;refine (P.out _ (bV j.out Xe (zq _)) Xe).mono ?_;rintro e w5 ⟨rfl,d⟩))
    have B:XD X.heap.size X w5:=by go_split_ands;assumption
    have z1:=aT B x1;have z2:=aT B W;have zc:=aT B S;go_upto_region 8 with fail
    cases I:aL.fm Xy level t 0 1048320 y5 b 0 with
    |none =>
     rw[I] at E;simp only[I,lf] at L;go_region_held3 (fun w'=>w'.cell? ⟨m,o,Z⟩=U (XI u)/\w'.cell? ⟨w.heap.size,1,Z⟩=U (V Y b)/\w'.cell? ⟨w.heap.size+1,0,Z⟩=U (V Y level)/\XD X.heap.size X w')
     (first
      |exact⟨zc,z1,z2,bV B (eN _) (zq _)⟩
      |(go_split_ands;exact⟨aT d Xe,aT d Xe,aT d Xe,bV Xe d (zq _)⟩))
     (first
      |(go_at_call 199;go_split_ands;refine (wR _).mono ?_;rintro e w4 ⟨rfl,d⟩)
      |(go_at_call 204;go_split_ands;refine (L.out _ (bV j.out Xe (zq _)) Xe).mono ?_;rintro e w6 ⟨rfl,d⟩))
     have HF:=aB (bV j.out (by go_split_ands;assumption:XD X.heap.size X w6) (zq _));go_wp2;go_ret2;exact⟨Z,rfl,Tc Q.out l.out E.out g3 O O O,HF.out⟩
    |some y6 =>
     rw[I] at E;simp only[I,lf] at L;go_region_held3 (fun w'=>w'.cell? ⟨m,o,Z⟩=U (XI u)/\w'.cell? ⟨w.heap.size,1,Z⟩=U (V Y b)/\w'.cell? ⟨w.heap.size+1,0,Z⟩=U (V Y level)/\XD X.heap.size X w')
     (first
      |exact⟨zc,z1,z2,bV B (eN _) (zq _)⟩
      |(go_split_ands;exact⟨aT d Xe,aT d Xe,aT d Xe,bV Xe d (zq _)⟩))
     (first
      |(go_at_call 199;go_split_ands;refine (wR _).mono ?_;rintro e w4 ⟨rfl,d⟩)
      |(go_at_call 204;go_split_ands;refine (L.out _ (bV j.out Xe (zq _)) Xe).mono ?_;rintro e w6 ⟨rfl,d⟩))
     have hv:XD X.heap.size X w6:=by go_split_ands;assumption
     have HV:=aB hv;go_wp2;go_roundw
     case rel=>have nx:=Uh Q.out l.out E.out h0 C g3 O;exact⟨y6,rfl,nx.1,nx.2.1,nx.2.2,HV.out⟩
     case measure=>simp[intOf];have:=Ug l.out E.out;omega
  .go_wp2
   go_ret2;exact⟨Z,rfl,fun q g i=>Q.out q g O,bV j.out A (zq _)⟩
namespace aF
structure It where
 f:Xs
 t:Xs
 n:Xs
 v:Xr
inductive S where
 |nil:S
 |node (x:It) (l r:S):S
def isNil:S->Xq
 |.nil=>Xz
 |.node ..=>Xy
def left:S->S
 |.nil=>.nil
 |.node _ l _=>l
def right:S->S
 |.nil=>.nil
 |.node _ _ r=>r
def ht:S->Xs
 |.nil=>0
 |.node _ l r=>1+max (ht l) (ht r)
def Jk(x:Xs)(l r:S)(g d:Xs):Xs :=let m:=if isNil l then x else max x g;if isNil r then m else max m d
def late:S->Xs
 |.nil=>0
 |.node x l r=>Jk x.t l r (late l) (late r)
def size:S->Xr
 |.nil=>0
 |.node _ l r=>1+size l+size r
def cW:S->J It
 |.nil=>[]
 |.node x l r=>cW l++x :: cW r
def side(f n:Xs)(x:It):Xs:=if f<x.f then -1 else if x.f<f then 1 else if n<x.n then -1 else if x.n<n then 1 else 0
def uG:S->S
 |.node x (.node y a b) r=>.node y a (.node x b r)
 |t=>t
def uF:S->S
 |.node x l (.node y a b)=>.node y (.node x l a) b
 |t=>t
def tw(x:It)(l r:S):S:=uG (.node x (if ht (left l)<ht (right l) then uF l else l) r)
def tz(x:It)(l r:S):S:=uF (.node x l (if ht (right r)<ht (left r) then uG r else r))
def iM(x:It)(l r:S):S:=if 1<ht l-ht r then tw x l r else if ht l-ht r < -1 then tz x l r else .node x l r
def put(x:It):S->S
 |.nil=>iM x .nil .nil
 |.node y l r=>if side x.f x.n y<0 then iM y (put x l) r else if 0<side x.f x.n y then iM y l (put x r) else iM { y with t:=x.t,v:=x.v } l r
def rh:It->S->S->It
 |x,.nil,_=>x
 |_,.node y a b,_=>rh y a b
def nU:It->S->S->S
 |_,.nil,r=>r
 |x,.node y a b,r=>iM x (nU y a b) r
def nz(l:S):S->S
 |.nil=>l
 |.node y a b=>iM (rh y a b) l (nU y a b)
def drop(f n:Xs):S->S
 |.nil=>.nil
 |.node y l r=>if side f n y<0 then iM y (drop f n l) r else if 0<side f n y then iM y l (drop f n r) else nz l r
theorem mZ:∀ t:S,0<=ht t:=by simp_all[ht,mZ]
theorem pf:∀ t:S,ht t<=size t:=by simp_all[ht,size,pf]
theorem Bk{t:S}(h:0<ht t):∃ x l r,t=.node x l r:=by
 cases t with
 |nil=>simp[ht] at h
 |node x l r=>exact⟨x,l,r,rfl⟩
theorem Mf(t:S):cW (uG t)=cW t:=by
 cases t with
 |nil=>rfl
 |node x l r=>cases l <;> simp[uG,cW]
theorem Me(t:S):cW (uF t)=cW t:=by
 cases t with
 |nil=>rfl
 |node x l r=>cases r <;> simp[uF,cW]
theorem sL(x:It)(l r:S):cW (iM x l r)=cW l++x :: cW r:=by
 unfold iM;split
 .unfold tw;rw[Mf];split <;> simp[cW,Me]
 .split
  .unfold tz;rw[Me];split <;> simp[cW,Mf]
  .rfl
theorem ua:∀ t:S,(cW t).length=size t:=by grind[ua,cW,size,List.length_append,List.length_cons]
theorem FO:∀ (x:It)(l r:S),rh x l r :: cW (nU x l r)=cW l++x :: cW r:=by grind[rh,nU,cW,FO,sL,Yk]
theorem MA(l r:S):cW (nz l r)=cW l++cW r:=by
 cases r with
 |nil=>simp[nz,cW]
 |node y a b=>simp only[nz,sL];rw[FO];rfl
def lt(x y:It):Prop:=x.f<y.f\/(x.f=y.f/\x.n<y.n)
theorem wJ{f n:Xs}{x:It}:side f n x<0↔f<x.f\/(f=x.f/\n<x.n):=by
 unfold side;repeat' split
 all_goals omega
theorem Bc{f n:Xs}{x:It}:0<side f n x↔x.f<f\/(f=x.f/\x.n<n):=by
 unfold side;repeat' split
 all_goals omega
def ins(x:It):J It->J It
 |[]=>[x]
 |y :: r=>if side x.f x.n y<0 then x :: y :: r else y :: ins x r
theorem KU{x y:It}(h:side x.f x.n y<0)(R:J It):∀ L:J It,ins x (L++y :: R)=ins x L++y :: R
 |[]=>by simp[ins,h]
 |z :: L=>by simp only[Yk,ins];split;simp;rw[KU h R L];simp
theorem Mg{x:It}(R:J It):∀ L:J It,(∀ z∈L,¬ side x.f x.n z<0)->ins x (L++R)=L++ins x R
 |[],_=>rfl
 |z :: L,h=>by simp only[Yk,ins];rw[Xt (h z Xc),Mg R L (fun y d=>h y (by simp[d]))]
def Ord(l:J It):Prop:=l.Pairwise lt
theorem EA{x:It}{l r:S}(h:Ord (cW (.node x l r))):Ord (cW l)/\Ord (cW r)/\(∀ z∈cW l,lt z x)/\(∀ z∈cW r,lt x z):=by simp only[cW,Ord,List.pairwise_append,Yl] at h;exact⟨h.1,h.2.1.2,fun z d=>h.2.2 z d x Xc,h.2.1.1⟩
theorem Fe(x:It):∀ t:S,Ord (cW t)->(∀ z∈cW t,¬ (z.f=x.f/\z.n=x.n))->cW (put x t)=ins x (cW t)
 |.nil,_,_=>by simp[put,sL,cW,ins]
 |.node y l r,h,hn=>by
  let⟨h1,h2,h3,h4⟩:=EA h;have g:=hn y (by simp[cW]);unfold put;by_cases a:side x.f x.n y<0
  .rw[Xu a,sL,Fe x l h1 (fun z d=>hn z (by simp[cW,d]))];simp only[cW];rw[KU a]
  .by_cases b:0<side x.f x.n y
   .rw[Xt a,Xu b,sL,Fe x r h2 (fun z d=>hn z (by simp[cW,d]))];simp only[cW];rw[Mg _ _ (fun z d=>?_)]
    .simp[ins,a]
    .have:=h3 z d;rw[wJ];rw[Bc] at b;unfold lt at this;omega
   .rw[wJ] at a;rw[Bc] at b;omega
theorem Bl{p:It->Xq}{l:J It}(h:∀ z∈l,p z=Xz):l.filter p=l:=List.filter_eq_self.2 h
def pM(f n:Xs)(z:It):Xq:=!(decide (z.f=f) && decide (z.n=n))
theorem Mr{f n:Xs}{z y:It}(h:side f n y<0)(k:z=y\/lt y z):pM f n z=Xz:=by grind[side,lt,pM]
theorem Mq{f n:Xs}{z y:It}(h:0<side f n y)(k:z=y\/lt z y):pM f n z=Xz:=by grind[side,lt,pM]
theorem FM(f n:Xs):∀ t:S,Ord (cW t)->cW (drop f n t)=(cW t).filter (pM f n)
 |.nil,_=>rfl
 |.node y l r,h=>by
  let⟨h1,h2,h3,h4⟩:=EA h;unfold drop;by_cases a:side f n y<0
  .rw[Xu a,sL,FM f n l h1];simp only[cW,Ym,Yn,Mr a (.inl rfl),if_true];rw[Bl (l:=cW r) (fun z d=>Mr a (.inr (h4 z d)))]
  .by_cases b:0<side f n y
   .rw[Xt a,Xu b,sL,FM f n r h2];simp only[cW,Ym,Yn,Mq b (.inl rfl),if_true];rw[Bl (l:=cW l) (fun z d=>Mq b (.inr (h3 z d)))]
   .rw[Xt a,Xt b,MA];have e:f=y.f/\n=y.n:=by rw[wJ] at a;rw[Bc] at b;omega
    have g:pM f n y=Xy:=by simp[pM,e.1,e.2]
    simp only[cW,Ym,Yn,g];rw[Bl (l:=cW l) (fun z d=>?_),Bl (l:=cW r) (fun z d=>?_)]
    .simp
    .have:=h4 z d;simp[pM];unfold lt at this;omega
    .have:=h3 z d;simp[pM];unfold lt at this;omega
theorem AW{x z:It}:∀ {l:J It},z∈ins x l↔z=x\/z∈l:=by grind[ins,AW]
theorem Mi(x:It):∀ l:J It,(ins x l).length=l.length+1:=by grind[ins,Mi]
theorem JK{x:It}:∀ {l:J It},Ord l->(∀ z∈l,¬ (z.f=x.f/\z.n=x.n))->Ord (ins x l)
 |[],_,_=>by simp[ins,Ord]
 |y :: r,h,hn=>by
  simp only[Ord,Yl] at h;have g:=hn y Xc;simp only[ins];split
  .rename_i a
   rw[wJ] at a;refine Yl.2 ⟨fun z d=>?_,Yl.2 h⟩;rcases X8.1 d with rfl|d
   .unfold lt;omega
   .have:=h.1 z d;unfold lt at *;omega
  .rename_i a
   refine Yl.2 ⟨fun z d=>?_,JK h.2 (fun z d=>hn z (by simp[d]))⟩;rcases AW.1 d with rfl|d
   .rw[wJ] at a;unfold lt;omega
   .exact h.1 z d
theorem Mm{l:J It}(p:It->Xq)(h:Ord l):Ord (l.filter p):=Yo p h
def meets(a b:Xs)(x:It):Xq:=decide (x.f<b) && decide (a<x.t)
def meet(a b:Xs):S->J It
 |.nil=>[]
 |.node x l r=>if late (.node x l r)<=a then [] else meet a b l++if b<=x.f then [] else (if a<x.t then [x] else [])++meet a b r
theorem KJ:∀ (t:S),∀ z∈cW t,z.t<=late t:=by simp_all[cW,KJ,late,Jk,X9,X8,isNil,X5]
theorem AU(a b:Xs):∀ t:S,Ord (cW t)->meet a b t=(cW t).filter (meets a b)
 |.nil,_=>rfl
 |.node x l r,h=>by
  let⟨h1,h2,h3,h4⟩:=EA h;have i:=KJ (.node x l r);unfold meet;split
  .rename_i hc
   symm;rw[Yp];intro z d;have:=i z d;simp[meets];omega
  .rw[AU a b l h1];simp only[cW,Ym]
   congr 1;split
   .rename_i hb
    symm;rw[Yp];intro z d;rcases X8.1 d with rfl|d
    .simp[meets];omega
    .have:=h4 z d;unfold lt at this;simp[meets];omega
   .rename_i hb
    rw[AU a b r h2,Yn];have g:x.f<b:=O;simp only[meets,g,decide_true,Bool.true_and,decide_eq_true_eq];split <;> rfl
end aF
structure jd(w:XA)(b:Xr)(x:aF.It):Prop where
 c0:w.cell? (b,0)=U (V Y x.f)
 c1:w.cell? (b,1)=U ↑x.t
 c2:w.cell? (b,2)=U (V Y x.n)
 c3:w.cell? (b,3)=U ↑x.v
 c4:∃ y,w.cell? (b,4)=U (V Y y)
 c5:∃ y,w.cell? (b,5)=U (V Y y)
 c6:∃ y,w.cell? (b,6)=U (XI y)
 c7:∃ y,w.cell? (b,7)=U (XI y)
 fz:∀ o,w.frozen? ⟨b,o,Z⟩=Xy
def eB(w:XA):aF.S->XC->J Xr->Prop
 |.nil,p,F=>p=XI Z/\F=[]
 |.node x l r,p,F=>∃ (b:Xr) (pl pr:Xp XF) (Fl Fr:J Xr),p=XI (U ⟨b,0,Z⟩)/\jd w b x/\w.cell? ⟨b,4,Z⟩=U (V Y (aF.late (.node x l r)))/\w.cell? ⟨b,5,Z⟩=U (V Y (aF.ht (.node x l r)))/\w.cell? ⟨b,6,Z⟩=U (XI pl)/\w.cell? ⟨b,7,Z⟩=U (XI pr)/\eB w l (XI pl) Fl/\eB w r (XI pr) Fr/\F=b :: (Fl++Fr)/\F.Nodup
structure dO(w:XA)(b:Xr)(x:aF.It)(l r:aF.S)(pl pr:Xp XF)(Fl Fr:J Xr):Prop where
 n:jd w b x
 c6:w.cell? (b,6)=U ↑pl
 c7:w.cell? (b,7)=U ↑pr
 l:eB w l pl Fl
 r:eB w r pr Fr
 nd:(b :: (Fl++Fr)).Nodup
theorem jd.lt{x:aF.It}(h:jd w b x):b<w:=XW _ _ h.c0
theorem jd.off{x:aF.It}(h:jd w b x)(k:aH G w w')(d:b ∉ G):jd w' b x :=⟨k.cell d h.c0,k.cell d h.c1,k.cell d h.c2,k.cell d h.c3,h.c4.imp (fun _=>k.cell d),h.c5.imp (fun _=>k.cell d),h.c6.imp (fun _=>k.cell d),h.c7.imp (fun _=>k.cell d),fun o=>(k.frozen d h.lt).trans (h.fz o)⟩
theorem jd.nG{x:aF.It}(h:jd w b x)(y:Xs):jd (w.setCell (b,4) y) b x:=by let⟨_,e⟩:=h.c4;exact⟨(bD Xc).trans h.c0,(bD Xc).trans h.c1,(bD Xc).trans h.c2,(bD Xc).trans h.c3,⟨_,Yc _ _ _ e⟩,h.c5.imp (fun _ e=>(bD Xc).trans e),h.c6.imp (fun _ e=>(bD Xc).trans e),h.c7.imp (fun _ e=>(bD Xc).trans e),fun o=>(zF ..).trans (h.fz o)⟩
theorem jd.rM{x:aF.It}(h:jd w b x)(y:Xs):jd (w.setCell (b,5) y) b x:=by let⟨_,e⟩:=h.c5;exact⟨(bD Xc).trans h.c0,(bD Xc).trans h.c1,(bD Xc).trans h.c2,(bD Xc).trans h.c3,h.c4.imp (fun _ e=>(bD Xc).trans e),⟨_,Yc _ _ _ e⟩,h.c6.imp (fun _ e=>(bD Xc).trans e),h.c7.imp (fun _ e=>(bD Xc).trans e),fun o=>(zF ..).trans (h.fz o)⟩
theorem jd.vP{x:aF.It}(h:jd w b x)(y:Xp XF):jd (w.setCell (b,6) y) b x:=by let⟨_,e⟩:=h.c6;exact⟨(bD Xc).trans h.c0,(bD Xc).trans h.c1,(bD Xc).trans h.c2,(bD Xc).trans h.c3,h.c4.imp (fun _ e=>(bD Xc).trans e),h.c5.imp (fun _ e=>(bD Xc).trans e),⟨_,Yc _ _ _ e⟩,h.c7.imp (fun _ e=>(bD Xc).trans e),fun o=>(zF ..).trans (h.fz o)⟩
theorem jd.dE{x:aF.It}(h:jd w b x)(y:Xp XF):jd (w.setCell (b,7) y) b x:=by let⟨_,e⟩:=h.c7;exact⟨(bD Xc).trans h.c0,(bD Xc).trans h.c1,(bD Xc).trans h.c2,(bD Xc).trans h.c3,h.c4.imp (fun _ e=>(bD Xc).trans e),h.c5.imp (fun _ e=>(bD Xc).trans e),h.c6.imp (fun _ e=>(bD Xc).trans e),⟨_,Yc _ _ _ e⟩,fun o=>(zF ..).trans (h.fz o)⟩
theorem eB.lt{w:XA}:∀ {t:aF.S}{p:XC}{F:J Xr},eB w t p F->∀ k∈F,k<w
 |.nil,p,F,h,k,d=>by rw[h.2] at d;cases d
 |.node a l r,p,F,h,k,d=>by
  obtain⟨b,pl,pr,Fl,Fr,rfl,n,x,s,q,m,i,g,rfl,j⟩:=h;rcases X8.1 d with rfl|d
  .exact n.lt
  .rcases X9.1 d with d|d
   .exact eB.lt i k d
   .exact eB.lt g k d
theorem eB.off{G:J Xr}{w w':XA}(h:aH G w w'):∀ {t:aF.S}{p:XC}{F:J Xr},eB w t p F->(∀ k∈F,k ∉ G)->eB w' t p F
 |.nil,p,F,d,_=>d
 |.node a l r,p,F,d,hd=>by obtain⟨b,pl,pr,Fl,Fr,rfl,n,y,x,s,q,m,d,rfl,j⟩:=d;have g:=hd b Xc;exact⟨b,pl,pr,Fl,Fr,rfl,n.off h g,h.cell g y,h.cell g x,h.cell g s,h.cell g q,eB.off h m (fun k i=>hd k (by simp[i])),eB.off h d (fun k i=>hd k (by simp[i])),rfl,j⟩
theorem eB.same{t:aF.S}(h:eB w t p F)(k:aH [] w w'):eB w' t p F:=h.off k (fun _ _=>by simp)
theorem eB.later{t:aF.S}(h:eB w t p F)(k:XD w w w'):eB w' t p F:=h.same (aH.aD k)
theorem eB.nodup{t:aF.S}(h:eB w t p F):F.Nodup:=by
 cases t with
 |nil=>rw[h.2];exact Ya
 |node a l r=>let⟨b,_,_,_,_,_,_,_,_,_,_,_,_,_,nd⟩:=h;exact nd
theorem eB.half{x:aF.It}{l r:aF.S}(h:eB w (.node x l r) u F):∃ (b:Xr)(pl pr:Xp XF)(Fl Fr:J Xr),u=U ⟨b,0,Z⟩/\F=b :: (Fl++Fr)/\dO w b x l r pl pr Fl Fr/\w.cell? (b,4)=U (V Y (aF.late (.node x l r)))/\w.cell? (b,5)=U (V Y (aF.ht (.node x l r))):=by
 let⟨b,pl,pr,Fl,Fr,hp,n,c4,c5,c6,c7,hl,hr,hF,nd⟩:=h
 cases hp;exact⟨b,pl,pr,Fl,Fr,rfl,hF,⟨n,c6,c7,hl,hr,hF ▸ nd⟩,c4,c5⟩
theorem dO.rep{x:aF.It}{l r:aF.S}(h:dO w b x l r pl pr Fl Fr)(g:w.cell? (b,4)=U (V Y (aF.late (.node x l r))))(d:w.cell? (b,5)=U (V Y (aF.ht (.node x l r)))):eB w (.node x l r) b (b :: (Fl++Fr)) :=⟨b,pl,pr,Fl,Fr,rfl,h.n,g,d,h.c6,h.c7,h.l,h.r,rfl,h.nd⟩
theorem dO.off{x:aF.It}{l r:aF.S}(h:dO w b x l r pl pr Fl Fr)(k:aH G w w')(d:b ∉ G)(i:∀ y∈Fl,y ∉ G)(g:∀ y∈Fr,y ∉ G):dO w' b x l r pl pr Fl Fr :=⟨h.n.off k d,k.cell d h.c6,k.cell d h.c7,h.l.off k i,h.r.off k g,h.nd⟩
theorem dO.same{x:aF.It}{l r:aF.S}(h:dO w b x l r pl pr Fl Fr)(k:aH [] w w'):dO w' b x l r pl pr Fl Fr:=h.off k Xc Xc Xc
theorem dO.parts{x:aF.It}{l r:aF.S}(h:dO w b x l r pl pr Fl Fr):b ∉ Fl/\b ∉ Fr/\(∀ y∈Fl,y ∉ [b])/\(∀ y∈Fr,y ∉ [b])/\(∀ y∈Fr,y ∉ Fl)/\(∀ y∈Fl,y ∉ Fr)/\Fl.Nodup/\Fr.Nodup:=by have i:=h.nd;rw[Yb,Yg] at i;let⟨n1,n2,n3,n4⟩:=i;exact⟨fun e=>n1 (by simp[e]),fun e=>n1 (by simp[e]),fun y d=>by grind,fun y d=>by grind,fun y g d=>n4 y d y g rfl,fun y g d=>n4 y g y d rfl,n2,n3⟩
theorem dO.lt{x:aF.It}{l r:aF.S}(h:dO w b x l r pl pr Fl Fr):∀ k∈b :: (Fl++Fr),k<w:=by
 intro k d;rcases X8.1 d with rfl|d
 .exact h.n.lt
 .rcases X9.1 d with d|d
  .exact h.l.lt k d
  .exact h.r.lt k d
theorem dO.nG{x:aF.It}{l r:aF.S}(h:dO w b x l r pl pr Fl Fr)(y:Xs):dO (w.setCell (b,4) y) b x l r pl pr Fl Fr :=⟨h.n.nG y,(bD Xc).trans h.c6,(bD Xc).trans h.c7,h.l.off (aH.bN ..) h.parts.2.2.1,h.r.off (aH.bN ..) h.parts.2.2.2.1,h.nd⟩
theorem dO.rM{x:aF.It}{l r:aF.S}(h:dO w b x l r pl pr Fl Fr)(y:Xs):dO (w.setCell (b,5) y) b x l r pl pr Fl Fr :=⟨h.n.rM y,(bD Xc).trans h.c6,(bD Xc).trans h.c7,h.l.off (aH.bN ..) h.parts.2.2.1,h.r.off (aH.bN ..) h.parts.2.2.2.1,h.nd⟩
theorem dO.mH{x:aF.It}{r i:aF.S}(h:jd w b x)(m:w.cell? (b,7)=U ↑pr)(l:eB w i u F')(k:eB w r pr Fr)(g:(b :: (F'++Fr)).Nodup):dO (w.setCell (b,6) u) b x i r u pr F' Fr:=by let⟨_,e⟩:=h.c6;have d:=g;rw[Yb,Yg] at d;exact⟨h.vP u,Yc _ _ _ e,(bD Xc).trans m,l.off (aH.bN ..) (fun y j=>by grind),k.off (aH.bN ..) (fun y j=>by grind),g⟩
theorem dO.lz{x:aF.It}{l g:aF.S}(h:jd w b x)(q:w.cell? (b,6)=U ↑pl)(m:eB w l pl Fl)(k:eB w g u F')(i:(b :: (Fl++F')).Nodup):dO (w.setCell (b,7) u) b x l g pl u Fl F':=by let⟨_,e⟩:=h.c7;have d:=i;rw[Yb,Yg] at d;exact⟨h.dE u,(bD Xc).trans q,Yc _ _ _ e,m.off (aH.bN ..) (fun y j=>by grind),k.off (aH.bN ..) (fun y j=>by grind),i⟩
theorem U8(w:XA):XE prog 248 #[XI Z] w fun e w'=>e=XR (V Y 0)/\w'=w:=by
 go_in;go_wp2;go_ret;exact⟨rfl,rfl⟩
theorem Wg(b:Xr)(x:Xs)(w:XA)(d:w.cell? (b,5)=U ↑x):XE prog 248 #[b] w fun e w'=>e=XR x/\w'=w:=by
 go_in;go_wp2;go_ret;exact⟨rfl,rfl⟩
theorem mA{t:aF.S}(w:XA)(h:eB w t u F):XE prog 248 #[u] w fun e w'=>e=XR (V Y (aF.ht t))/\w'=w:=by
 cases t with
 |nil=>let⟨h1,_⟩:=h;cases h1;exact U8 w
 |node a l r=>let⟨b,pl,pr,Fl,Fr,hp,n,c4,c5,_⟩:=h;cases hp;exact Wg b _ w c5
theorem dO.drew{x:aF.It}{l r:aF.S}(h:dO w b x l r pl pr Fl Fr):dO w.drew b x l r pl pr Fl Fr:=h.same (aH.refl _ _).drew
theorem DH{x:aF.It}{l r:aF.S}(h:dO w b x l r pl pr Fl Fr):w.cell? (b,6)=U ↑pl/\w.cell? (b,7)=U ↑pr/\dO w b x l r pl pr Fl Fr:=⟨h.c6,h.c7,h⟩
def AA(w:XA)(t:aF.S):Xp XF->Prop
 |none=>aF.isNil t=Xz
 |some a=>a.off=0/\a.spot=Z/\aF.isNil t=Xy/\w.cell? (a.block,4)=U (V Y (aF.late t))
theorem eB.AA{t:aF.S}(h:eB w t (XI u) F):AA w t u:=by
 cases t with
 |nil=>let⟨h1,_⟩:=h;cases h1;rfl
 |node a l r=>let⟨b,pl,pr,Fl,Fr,hp,n,c4,_⟩:=h;cases hp;exact⟨rfl,rfl,rfl,c4⟩
structure xZ(w wx:XA)(b:Xr)(x:aF.It)(l r:aF.S)(pl pr:Xp XF)(Fl Fr:J Xr)(hh m:Xs):Prop where
 half:dO wx b x l r pl pr Fl Fr
 c4:wx.cell? (b,4)=U ↑m
 c5:wx.cell? (b,5)=U ↑hh
 off:aH [b] w wx
theorem xZ.nG{wx:XA}{x:aF.It}{l r:aF.S}{d m:Xs}(h:xZ w wx b x l r pl pr Fl Fr d m)(m':Xs):xZ w (wx.setCell (b,4) m').drew b x l r pl pr Fl Fr d m' :=⟨(h.half.nG m').drew,Yc _ _ _ h.c4,(bD Xc).trans h.c5,(h.off.setCell (.inl Xc) _ _).drew⟩
theorem yW(w:XA)(b:Xr)(x:aF.It)(l r:aF.S)(pl pr:Xp XF)(Fl Fr:J Xr)(h:dO w b x l r pl pr Fl Fr)(hl:aF.ht l<=100000)(hr:aF.ht r<=100000):XE prog 251 #[b] w fun e w'=>e=XR (XM #[])/\eB w' (.node x l r) b (b :: (Fl++Fr))/\aH [b] w w':=by
 have h1:=aF.mZ l;have h2:=aF.mZ r;have e3:XQ.wrap (1+if aF.ht l<aF.ht r then aF.ht r else aF.ht l)=1+max (aF.ht l) (aF.ht r):=by rw[Dz];exact dJ O O
 have E3:=aB e3;clear e3;have f5:=h.n.fz 5;obtain⟨y5,c5⟩:=h.n.c5;have d:((w.setCell (b,5) (V XQ (1+max (aF.ht l) (aF.ht r)))).drew).cell? (b,5)=U (V XQ (1+max (aF.ht l) (aF.ht r))):=zm _ _ _ c5;have g:=aB (Yd (h.rM (1+max (aF.ht l) (aF.ht r))).drew (Yd d ((aH.bN b w 5 (V XQ (1+max (aF.ht l) (aF.ht r)))).drew)));clear d;go_in;go_wp21;go_region_held3 (fun w'=>w'.cell? (b,6)=U ↑pl/\w'.cell? (b,7)=U ↑pr/\dO w' b x l r pl pr Fl Fr)
  (first
   |exact DH h.drew
   |exact DH (dO.drew (dO.rM h _)))
  (first
   |(go_at_call_of 248 (XI pl);go_split_ands;refine aZ (mA _ (dO.l Xe)) ?_)
   |(go_at_call_of 248 (XI pr);go_split_ands;refine aZ (mA _ (dO.r Xe)) ?_))
 rw[E3,vU];obtain⟨j,P,H⟩:=g.out;clear g;generalize (Ye _ (b,5) (V XQ (1+max (aF.ht l) (aF.ht r)))).drew=X at j P H ⊢;clear h f5 c5;have c1:=j.n.c1;have c6:=j.c6;have c7:=j.c7;obtain⟨y4,c4⟩:=j.n.c4;have I:=j.n.fz 4;have d:(X.setCell (b,4) x.t).cell? (b,4)=U ↑x.t:=zm _ _ _ c4;have y:(X.setCell (b,4) x.t).cell? (b,5)=U (V XQ (1+max (aF.ht l) (aF.ht r))):=(bD Xc).trans P;have g:=aB (Yd (j.nG x.t) (Yd d (Yd y (H.setCell (R:=b) (.inl Xc) 4 x.t))));clear d y;go_upto_region 2 with fail;obtain⟨i,E,D,C⟩:=g.out;clear g c1 c6 c7 c4 I j P H;generalize (Ye X (b,4) x.t)=Y at i E D C ⊢;have d6:=i.c6;go_upto_if 28 with fail;clear d6;go_cut [28] from 24 to 43 (fun _ wx=>xZ w wx b x l r pl pr Fl Fr (1+max (aF.ht l) (aF.ht r)) (if aF.isNil l then x.t else max x.t (aF.late l)))
 .have d6:=i.c6;have d7:=i.c7;have I:=i.n.fz 4;have W:=i.l.AA
  cases pl with
  |none =>have z:aF.isNil l=Xz:=W;go_wp21;go_meet;rw[Xu z];exact⟨i,E,D,C⟩
  |some q =>
   obtain⟨Q,ol,sl⟩:=q;obtain⟨L,K,z,A⟩:=W
   cases L
   cases K;have A:Y.cell? (Q,4)=U (V XQ (aF.late l)):=A;go_wp21;go_region;all_goals rw[vU];go_wp21;go_meet;rw[Xt (by simp[z])];exact xZ.nG ⟨i,E,D,C⟩ _
 .have k:=hcut;clear hcut i E D C;have m4:=k.c4;have B:=aB k;have e9:aF.late (.node x l r)=if aF.isNil r then (if aF.isNil l then x.t else max x.t (aF.late l)) else max (if aF.isNil l then x.t else max x.t (aF.late l)) (aF.late r):=rfl
  have E9:=aB e9;clear e9;generalize (if aF.isNil l then x.t else max x.t (aF.late l))=m at *;have d7:=k.half.c7;have I:=k.half.n.fz 4;have T:=k.half.r.AA;clear k
  cases pr with
  |none =>have er:aF.isNil r=Xz:=T;have s:=aB (B.half.rep (by rw[B.c4,E9,Xu er]) B.c5);go_wp21;go_end0;exact⟨rfl,s,B.off⟩
  |some q =>
   obtain⟨Q,ol,sl⟩:=q;obtain⟨L,K,z,A⟩:=T
   cases L
   cases K;have A:wc.cell? (Q,4)=U (V XQ (aF.late r)):=A;have s:=aB (B.nG (max m (aF.late r)));have HR:=aB (s.half.rep (by rw[s.c4,E9,Xt (by simp[z])]) s.c5);go_wp21;go_region;all_goals rw[vU];go_wp21;go_end0;exact⟨rfl,HR,s.off⟩
def nD(w:XA)(F:J Xr)(d:aF.S)(e:Ending)(w':XA):Prop :=∃ (u:Xp XF) (F':J Xr),e=XR u/\eB w' d u F'/\(∀ k∈F',k∈F)/\aH F w w'
theorem Mk{a b:J Xr}(h:a.Perm b)(k:a.Nodup):b.Nodup:=h.nodup_iff.1 k
theorem Wp{x y:aF.It}{s t r:aF.S}(h:dO w b x (.node y s t) r u pr Fl Fr):
  ∃ (bl:Xr) (pa d:Xp XF) (Fa g:J Xr),u=U ⟨bl,0,Z⟩/\Fl=bl :: (Fa++g)/\w.cell? (bl,7)=U ↑d/\w.frozen? (bl,7)=Xy/\b≠bl /\
   dO ((w.setCell (b,6) d).setCell (bl,7) b) b x t r d pr g Fr /\
   (∀ w2,eB w2 (.node x t r) b (b :: (g++Fr))->aH [b] ((w.setCell (b,6) d).setCell (bl,7) b) w2->dO w2 bl y s (.node x t r) pa b Fa (b :: (g++Fr))) /\
   aH (b :: (Fl++Fr)) w ((w.setCell (b,6) d).setCell (bl,7) b):=by
 obtain⟨bl,pa,d,Fa,g,rfl,rfl,j,_,_⟩:=h.l.half;have E:=h.nd;have B:b≠bl:=Xi;have A:(b :: (g++Fr)).Nodup:=by refine Yq ?_ E;exact Yr _ (Ys (Yt (List.sublist_append_right Fa g) (Yu _ _)) (Yv _))
 have m:aH [b] w (w.setCell (b,6) d):=aH.bN ..;have D:aH [bl] (w.setCell (b,6) d) ((w.setCell (b,6) d).setCell (bl,7) b):=aH.bN ..;have H:∀ k,k∈Fa\/k∈g\/k∈Fr->k≠b/\k≠bl:=Xi;have P:dO (w.setCell (b,6) d) b x t r d pr g Fr:=dO.mH h.n h.c7 j.r h.r A;have C:dO ((w.setCell (b,6) d).setCell (bl,7) b) b x t r d pr g Fr :=P.off D Xi (fun k z=>by grind) (fun k z=>by grind)
 refine⟨bl,pa,d,Fa,g,rfl,rfl,j.c7,j.n.fz 7,B,C,fun w2 L q=>?_,?_⟩
 .have K:jd ((w.setCell (b,6) d).setCell (bl,7) b) bl y:=(j.n.off m Xi).dE _;have T:((w.setCell (b,6) d).setCell (bl,7) b).cell? (bl,6)=U ↑pa:=(bD Xc).trans (m.cell Xi j.c6);have R:((w.setCell (b,6) d).setCell (bl,7) b).cell? (bl,7)=U ↑b:=zm _ _ _ (m.cell Xi j.c7)
  have Q:eB ((w.setCell (b,6) d).setCell (bl,7) b) s pa Fa :=(j.l.off m (fun k z=>by grind)).off D (fun k z=>by grind)
  have i:bl ∉ [b]:=Xi;refine⟨K.off q i,q.cell i T,q.cell i R,Q.off q (fun k z=>by grind),L,?_⟩;refine Mk ?_ E;have I:(b :: (bl :: (Fa++g)++Fr)).Perm (bl :: b :: (Fa++(g++Fr))):=Xi;exact I.trans (Yw _ Yx.symm)
 .exact ((aH.bN b w 6 _).mono Xc).setCell (.inl Xc) _ _
theorem Wn{x y:aF.It}{s t l:aF.S}(h:dO w b x l (.node y s t) pl u Fl Fr):
  ∃ (br:Xr) (d pb:Xp XF) (Fa Fb:J Xr),u=U ⟨br,0,Z⟩/\Fr=br :: (Fa++Fb)/\w.cell? (br,6)=U ↑d/\w.frozen? (br,6)=Xy/\b≠br /\
   dO ((w.setCell (b,7) d).setCell (br,6) b) b x l s pl d Fl Fa /\
   (∀ w2,eB w2 (.node x l s) b (b :: (Fl++Fa))->aH [b] ((w.setCell (b,7) d).setCell (br,6) b) w2->dO w2 br y (.node x l s) t b pb (b :: (Fl++Fa)) Fb) /\
   aH (b :: (Fl++Fr)) w ((w.setCell (b,7) d).setCell (br,6) b):=by
 obtain⟨br,d,pb,Fa,Fb,rfl,rfl,i,_,_⟩:=h.r.half;have D:=h.nd;have A:b≠br:=Xi;have z:(b :: (Fl++Fa)).Nodup:=by refine Yq ?_ D;exact Yr _ (Ys (Yv _) (Yt (List.sublist_append_left Fa Fb) (Yu _ _)))
 have j:aH [b] w (w.setCell (b,7) d):=aH.bN ..;have C:aH [br] (w.setCell (b,7) d) ((w.setCell (b,7) d).setCell (br,6) b):=aH.bN ..;have E:∀ k,k∈Fl\/k∈Fa\/k∈Fb->k≠b/\k≠br:=Xi;have L:dO (w.setCell (b,7) d) b x l s pl d Fl Fa:=dO.lz h.n h.c6 h.l i.l z;have B:dO ((w.setCell (b,7) d).setCell (br,6) b) b x l s pl d Fl Fa :=L.off C Xi (fun k q=>by grind) (fun k q=>by grind)
 refine⟨br,d,pb,Fa,Fb,rfl,rfl,i.c6,i.n.fz 6,A,B,fun w2 K m=>?_,?_⟩
 .have I:jd ((w.setCell (b,7) d).setCell (br,6) b) br y:=(i.n.off j Xi).vP _;have R:((w.setCell (b,7) d).setCell (br,6) b).cell? (br,6)=U ↑b:=zm _ _ _ (j.cell Xi i.c6);have Q:((w.setCell (b,7) d).setCell (br,6) b).cell? (br,7)=U ↑pb:=(bD Xc).trans (j.cell Xi i.c7)
  have P:eB ((w.setCell (b,7) d).setCell (br,6) b) t pb Fb :=(i.r.off j (fun k q=>by grind)).off C (fun k q=>by grind)
  have g:br ∉ [b]:=Xi;refine⟨I.off m g,m.cell g R,m.cell g Q,K,P.off m (fun k q=>by grind),?_⟩;refine Mk ?_ D;have H:(b :: (Fl++br :: (Fa++Fb))).Perm (b :: br :: (Fl++(Fa++Fb))):=Yw _ Yx;refine H.trans ((List.Perm.swap br b _).trans (Yw _ ?_));simp[List.append_assoc]
 .exact ((aH.bN b w 7 _).mono Xc).setCell (.inl Xc) _ _
theorem Ge(w:XA)(b:Xr)(x y:aF.It)(s t r:aF.S)(u pr:Xp XF)(Fl Fr:J Xr)(h:dO w b x (.node y s t) r u pr Fl Fr)(h1:aF.ht s<=50000)(W:aF.ht t<=50000)(T:aF.ht r<=50000):XE prog 250 #[b] w (nD w (b :: (Fl++Fr)) (.node y s (.node x t r))):=by
 obtain⟨Q,C,B,R,A,rfl,rfl,L,H,D,q,m,l⟩:=Wp h;have P:=h.c6;have I:=h.n.fz 6;have j:aF.ht (.node x t r)<=100000:=by simp only[aF.ht];omega
 have G:=aB (Yd q (Yd m l));clear q m l h;go_in;go_wp21;refine aK (yW _ b x t r B pr A Fr G.1 O O) ?_;rintro w2 ⟨g,d⟩;have K:=aB (Yd (G.2.1 w2 g d) (G.2.2.trans' d (fun z i=>by simp at i;subst i;exact .inl Xc)));clear g d G L P H I;go_wp21;refine aK (yW _ Q y s (.node x t r) C b R (b :: (A++Fr)) K.1 O j) ?_;rintro w3 ⟨g,d⟩;have M:=aB (Yd g (K.2.trans' d (fun z i=>by simp at i;subst i;exact .inl Xc)));clear g d K;go_wp21;go_ret;exact⟨_,_,rfl,M.1,(by intro k E;simp only[X8,X9] at E ⊢;grind),M.2⟩
theorem Gg(w:XA)(b:Xr)(x y:aF.It)(s t l:aF.S)(u pl:Xp XF)(Fl Fr:J Xr)(h:dO w b x l (.node y s t) pl u Fl Fr)(h1:aF.ht s<=50000)(W:aF.ht t<=50000)(T:aF.ht l<=50000):XE prog 249 #[b] w (nD w (b :: (Fl++Fr)) (.node y (.node x l s) t)):=by
 obtain⟨Q,C,B,A,R,rfl,rfl,P,I,D,r,q,m⟩:=Wn h;have L:=h.c7;have H:=h.n.fz 7;have j:aF.ht (.node x l s)<=100000:=by simp only[aF.ht];omega
 have G:=aB (Yd r (Yd q m));clear r q m h;go_in;go_wp21;refine aK (yW _ b x l s pl C Fl A G.1 O O) ?_;rintro w2 ⟨g,d⟩;have K:=aB (Yd (G.2.1 w2 g d) (G.2.2.trans' d (fun z i=>by simp at i;subst i;exact .inl Xc)));clear g d G L P H I;go_wp21;refine aK (yW _ Q y (.node x l s) t b B (b :: (Fl++A)) R K.1 j O) ?_;rintro w3 ⟨g,d⟩;have M:=aB (Yd g (K.2.trans' d (fun z i=>by simp at i;subst i;exact .inl Xc)));clear g d K;go_wp21;go_ret;exact⟨_,_,rfl,M.1,(by intro k E;simp only[X8,X9] at E ⊢;grind),M.2⟩
theorem dO.uh{x:aF.It}{l r m:aF.S}(h:dO w b x l r pl pr Fl Fr)(q:eB w2 m u F')(j:∀ k∈F',k∈Fl\/w<=k)(i:aH Fl w w2):dO (w2.setCell (b,6) u) b x m r u pr F' Fr/\(∀ k∈b :: (F'++Fr),k∈b :: (Fl++Fr)\/w<=k)/\aH (b :: (Fl++Fr)) w (w2.setCell (b,6) u):=by
 let⟨n1,n2,n3,n4,n5,n6,n7,n8⟩:=h.parts;have g:=h.lt;refine⟨dO.mH (h.n.off i n1) (i.cell n1 h.c7) q (h.r.off i n5) ?_,fun k d=>?_,?_⟩
 .refine Yb.2 ⟨fun e=>?_,Yg.2 ⟨q.nodup,n8,fun y t z s e=>?_⟩⟩
  .rcases X9.1 e with e|e
   .rcases j b e with e|e
    .exact n1 e
    .have:=g b Xc;omega
   .exact n2 e
  .subst e;rcases j y t with e|e
   .exact n5 y s e
   .have:=g y (by simp[s]);omega
 .rcases X8.1 d with rfl|d
  .exact .inl Xc
  .rcases X9.1 d with d|d
   .rcases j k d with e|e
    .exact .inl (by simp[e])
    .exact .inr e
   .exact .inl (by simp[d])
 .exact (i.mono Xi).setCell (.inl Xc) _ _
theorem dO.wX{x:aF.It}{l r m:aF.S}(h:dO w b x l r pl pr Fl Fr)(q:eB w2 m u F')(j:∀ k∈F',k∈Fr\/w<=k)(i:aH Fr w w2):dO (w2.setCell (b,7) u) b x l m pl u Fl F'/\(∀ k∈b :: (Fl++F'),k∈b :: (Fl++Fr)\/w<=k)/\aH (b :: (Fl++Fr)) w (w2.setCell (b,7) u):=by
 let⟨n1,n2,n3,n4,n5,n6,n7,n8⟩:=h.parts;have g:=h.lt;refine⟨dO.lz (h.n.off i n2) (i.cell n2 h.c6) (h.l.off i n6) q ?_,fun k d=>?_,?_⟩
 .refine Yb.2 ⟨fun e=>?_,Yg.2 ⟨n7,q.nodup,fun y s z t e=>?_⟩⟩
  .rcases X9.1 e with e|e
   .exact n1 e
   .rcases j b e with e|e
    .exact n2 e
    .have:=g b Xc;omega
  .subst e;rcases j y t with e|e
   .exact n6 y s e
   .have:=g y (by simp[s]);omega
 .rcases X8.1 d with rfl|d
  .exact .inl Xc
  .rcases X9.1 d with d|d
   .exact .inl (by simp[d])
   .rcases j k d with e|e
    .exact .inl (by simp[e])
    .exact .inr e
 .exact (i.mono Xi).setCell (.inl Xc) _ _
theorem nD.of{t:aF.S}{e:Ending}(h:nD w1 G t e w')(k:aH F w w1)(d:∀ k∈G,k∈F):nD w F t e w':=by obtain⟨u,F',rfl,m,l,j⟩:=h;exact⟨u,F',rfl,m,fun k i=>d k (l k i),k.trans' j (fun x g=>.inl (d x g))⟩
theorem b3S(w:XA)(b:Xr)(x:aF.It)(l r:aF.S)(pl pr:Xp XF)(Fl Fr:J Xr)(h:dO w b x l r pl pr Fl Fr)(s:aF.ht l<=40000)(q:aF.ht r<=40000)(y:¬ 1<aF.ht l-aF.ht r)(t:¬ aF.ht l-aF.ht r < -1):XE prog 232 #[b] w (nD w (b :: (Fl++Fr)) (.node x l r)):=by
 have B:=aF.mZ l;have A:=aF.mZ r;have k:Y.wrap (aF.ht l-aF.ht r)=aF.ht l-aF.ht r:=dJ O O;go_in;go_upto_region 1 with fail;go_region_held3 (fun w'=>w'.cell? (b,6)=U ↑pl/\w'.cell? (b,7)=U ↑pr/\dO w' b x l r pl pr Fl Fr)
  (exact DH h.drew)
  (first
   |(go_at_call_of 248 (XI pl);go_split_ands;refine aZ (mA _ (dO.l Xe)) ?_)
   |(go_at_call_of 248 (XI pr);go_split_ands;refine aZ (mA _ (dO.r Xe)) ?_))
 have H:=aB h.drew;have j:=aB ((aH.refl (b :: (Fl++Fr)) _).drew:aH _ w w.drew);clear h;go_wp21;refine aK (yW _ b x l r pl pr Fl Fr H O O) ?_;rintro w2 ⟨g,d⟩;have K:=aB (Yd g (j.trans' d (fun z i=>by simp at i;subst i;exact .inl Xc)));clear g d H j;go_wp21;go_ret;exact⟨_,_,rfl,K.1,fun _ m=>m,K.2⟩
theorem W8(w:XA)(b:Xr)(x y:aF.It)(s t:aF.S)(r:aF.S)(u pr:Xp XF)(Fl Fr:J Xr)(h:dO w b x (.node y s t) r u pr Fl Fr)(hs:aF.ht s<=40000)(ht:aF.ht t<=40000)(ho:aF.ht r<=40000)(h1:1<aF.ht (.node y s t)-aF.ht r):XE prog 232 #[b] w (nD w (b :: (Fl++Fr)) (aF.tw x (.node y s t) r)):=by
 have g0:=aF.mZ s;have g1:=aF.mZ t;have g2:=aF.mZ r;have g3:aF.ht (.node y s t)=1+max (aF.ht s) (aF.ht t):=rfl;obtain⟨d,D,C,Fs,Ft,rfl,rfl,B,_,_⟩:=h.l.half;have RB:=aB (fun w' (k:aH [] w w')=>Yd (h.same k) (B.same k));have TB:=aB (fun w' (k:aH [] w w')=>mA w' (h.same k).l);generalize aF.ht (.node y s t)=hty at *;have ab:Y.wrap (hty-aF.ht r)=hty-aF.ht r:=dJ O O;by_cases hc:aF.ht s<aF.ht t
 .have eb:aF.tw x (.node y s t) r=aF.uG (.node x (aF.uF (.node y s t)) r):=by unfold aF.tw;rw[Xu (by simpa[aF.left,aF.right] using hc)]
  rw[eb];obtain⟨z,m,j,rfl⟩:=aF.Bk (t:=t) O;have gz:aF.ht (.node z m j)=1+max (aF.ht m) (aF.ht j):=rfl;have g4:=aF.mZ m;have g5:=aF.mZ j;have q1:aF.ht m<=40000:=O;have q2:aF.ht j<=40000:=O;have R:=aB (fun w' (k:aH [] w w')=>mA w' (B.same k).r);have T:=aB (fun w' (k:aH [] w w')=>mA w' (B.same k).l);generalize aF.ht (.node z m j)=htt at *;go_in;go_upto_region 1 with fail;have H:=(RB w.drew (aH.refl _ _).drew).1.c6;have Q:=(RB w.drew (aH.refl _ _).drew).1.c7;go_region_held3 (fun w'=>w'.cell? (b,6)=U ↑d/\w'.cell? (b,7)=U ↑pr/\w'=w.drew)
   (exact⟨H,Q,rfl⟩)
   (first
    |(go_at_call_of 248 (XI (U (Addr.mk d 0 Z)));go_split_ands;refine aZ (TB _ (aH.refl _ _).drew) ?_)
    |(go_at_call_of 248 (XI pr);go_split_ands;refine aZ (mA _ (RB _ (aH.refl _ _).drew).1.r) ?_))
  go_upto_region 3 with fail;have P:=(RB w.drew.drew (aH.refl _ _).drew.drew).1.c6;have L:=(RB w.drew.drew (aH.refl _ _).drew.drew).2.c6;have K:=(RB w.drew.drew (aH.refl _ _).drew.drew).2.c7;go_region_held3 (fun w'=>w'.cell? (b,6)=U ↑d/\w'.cell? (d,6)=U ↑D/\w'.cell? (d,7)=U ↑C/\w'=w.drew.drew)
   (exact⟨P,L,K,rfl⟩)
   (first
    |(go_at_call_of 248 (XI D);go_split_ands;refine aZ (T _ (aH.refl _ _).drew.drew) ?_)
    |(go_at_call_of 248 (XI C);go_split_ands;refine aZ (R _ (aH.refl _ _).drew.drew) ?_))
  have g:=RB w.drew.drew (aH.refl _ _).drew.drew;have W:=aB ((aH.refl (b :: ((d :: (Fs++Ft))++Fr)) _).drew.drew:aH _ w w.drew.drew);have q:=aB g;go_wp21;have g:=q.out;refine (Gg _ d y z m j s _ _ _ _ g.2 O O O).mono ?_;rintro e w2 ⟨u2,F2,rfl,I,E,A⟩;obtain⟨m1,m2,m3⟩:=g.1.uh I (fun k i=>.inl (E k i)) A;have H:=A.cell (o:=6) g.1.parts.1 g.1.c6;have f6:=(A.frozen (o:=6) g.1.parts.1 g.1.n.lt).trans (g.1.n.fz 6);have M:=aB (Yd m1 (Yd E (W.trans m3)));go_wp21;refine (Ge _ b x z (.node y s m) j r _ _ _ _ M.1 (by simp only[aF.ht];omega) O O).mono ?_;rintro e w3 i;have HK:=aB (i.of M.2.2 (by intro k i;have:=M.2.1;simp only[X8,X9] at *;grind));obtain⟨u3,F3,rfl,I,E,A⟩:=i;go_wp21;go_ret;exact HK
 .have eb:aF.tw x (.node y s t) r=aF.uG (.node x (.node y s t) r):=by unfold aF.tw;rw[Xt (by simpa[aF.left,aF.right] using hc)]
  rw[eb];have R:=aB (fun w' (k:aH [] w w')=>mA w' (B.same k).r);have T:=aB (fun w' (k:aH [] w w')=>mA w' (B.same k).l);generalize aa:aF.ht t=htt at *;go_in;go_upto_region 1 with fail;have H:=(RB w.drew (aH.refl _ _).drew).1.c6;have Q:=(RB w.drew (aH.refl _ _).drew).1.c7;go_region_held3 (fun w'=>w'.cell? (b,6)=U ↑d/\w'.cell? (b,7)=U ↑pr/\w'=w.drew)
   (exact⟨H,Q,rfl⟩)
   (first
    |(go_at_call_of 248 (XI (U (Addr.mk d 0 Z)));go_split_ands;refine aZ (TB _ (aH.refl _ _).drew) ?_)
    |(go_at_call_of 248 (XI pr);go_split_ands;refine aZ (mA _ (RB _ (aH.refl _ _).drew).1.r) ?_))
  go_upto_region 3 with fail;have P:=(RB w.drew.drew (aH.refl _ _).drew.drew).1.c6;have L:=(RB w.drew.drew (aH.refl _ _).drew.drew).2.c6;have K:=(RB w.drew.drew (aH.refl _ _).drew.drew).2.c7;go_region_held3 (fun w'=>w'.cell? (b,6)=U ↑d/\w'.cell? (d,6)=U ↑D/\w'.cell? (d,7)=U ↑C/\w'=w.drew.drew)
   (exact⟨P,L,K,rfl⟩)
   (first
    |(go_at_call_of 248 (XI D);go_split_ands;refine aZ (T _ (aH.refl _ _).drew.drew) ?_)
    |(go_at_call_of 248 (XI C);go_split_ands;refine aZ (R _ (aH.refl _ _).drew.drew) ?_))
  have g:=RB w.drew.drew (aH.refl _ _).drew.drew;have W:=aB ((aH.refl (b :: ((d :: (Fs++Ft))++Fr)) _).drew.drew:aH _ w w.drew.drew);have q:=aB g;go_wp21;have g:=q.out;refine (Ge _ b x y s t r _ _ _ _ g.1 O O O).mono ?_;rintro e w3 i;have HK:=aB (i.of W (fun _ i=>i));obtain⟨u3,F3,rfl,I,E,A⟩:=i;go_wp21;go_ret;exact HK
theorem W9(w:XA)(b:Xr)(x y:aF.It)(s t:aF.S)(l:aF.S)(u pl:Xp XF)(Fl Fr:J Xr)(h:dO w b x l (.node y s t) pl u Fl Fr)(hs:aF.ht s<=40000)(ht:aF.ht t<=40000)(ho:aF.ht l<=40000)(h1:aF.ht l-aF.ht (.node y s t) < -1):XE prog 232 #[b] w (nD w (b :: (Fl++Fr)) (aF.tz x l (.node y s t))):=by
 have g0:=aF.mZ s;have g1:=aF.mZ t;have g2:=aF.mZ l;have g3:aF.ht (.node y s t)=1+max (aF.ht s) (aF.ht t):=rfl;obtain⟨d,D,C,Fs,Ft,rfl,rfl,B,_,_⟩:=h.r.half;have RB:=aB (fun w' (k:aH [] w w')=>Yd (h.same k) (B.same k));have TB:=aB (fun w' (k:aH [] w w')=>mA w' (h.same k).r);generalize aF.ht (.node y s t)=hty at *;have aa:Y.wrap (aF.ht l-hty)=aF.ht l-hty:=dJ O O;have nx:¬ 1<aF.ht l-hty:=O;clear g3;by_cases hc:aF.ht t<aF.ht s
 .have eb:aF.tz x l (.node y s t)=aF.uF (.node x l (aF.uG (.node y s t))):=by unfold aF.tz;rw[Xu (by simpa[aF.left,aF.right] using hc)]
  rw[eb];obtain⟨z,m,j,rfl⟩:=aF.Bk (t:=s) O;have gz:aF.ht (.node z m j)=1+max (aF.ht m) (aF.ht j):=rfl;have g4:=aF.mZ m;have g5:=aF.mZ j;have q1:aF.ht m<=40000:=O;have q2:aF.ht j<=40000:=O;have R:=aB (fun w' (k:aH [] w w')=>mA w' (B.same k).r);have T:=aB (fun w' (k:aH [] w w')=>mA w' (B.same k).l);generalize aF.ht (.node z m j)=hts at *;go_in;go_upto_region 1 with fail;have H:=(RB w.drew (aH.refl _ _).drew).1.c6;have Q:=(RB w.drew (aH.refl _ _).drew).1.c7;go_region_held3 (fun w'=>w'.cell? (b,6)=U ↑pl/\w'.cell? (b,7)=U ↑d/\w'=w.drew)
   (exact⟨H,Q,rfl⟩)
   (first
    |(go_at_call_of 248 (XI (U (Addr.mk d 0 Z)));go_split_ands;refine aZ (TB _ (aH.refl _ _).drew) ?_)
    |(go_at_call_of 248 (XI pl);go_split_ands;refine aZ (mA _ (RB _ (aH.refl _ _).drew).1.l) ?_))
  go_upto_region 7 with fail;have P:=(RB w.drew.drew (aH.refl _ _).drew.drew).1.c7;have L:=(RB w.drew.drew (aH.refl _ _).drew.drew).2.c6;have K:=(RB w.drew.drew (aH.refl _ _).drew.drew).2.c7;go_region_held3 (fun w'=>w'.cell? (b,7)=U ↑d/\w'.cell? (d,6)=U ↑D/\w'.cell? (d,7)=U ↑C/\w'=w.drew.drew)
   (exact⟨P,L,K,rfl⟩)
   (first
    |(go_at_call_of 248 (XI D);go_split_ands;refine aZ (T _ (aH.refl _ _).drew.drew) ?_)
    |(go_at_call_of 248 (XI C);go_split_ands;refine aZ (R _ (aH.refl _ _).drew.drew) ?_))
  have g:=RB w.drew.drew (aH.refl _ _).drew.drew;have W:=aB ((aH.refl (b :: (Fl++(d :: (Fs++Ft)))) _).drew.drew:aH _ w w.drew.drew);have q:=aB g;go_wp21;have g:=q.out;refine (Ge _ d y z m j t _ _ _ _ g.2 O O O).mono ?_;rintro e w2 ⟨u2,F2,rfl,I,E,A⟩;obtain⟨m1,m2,m3⟩:=g.1.wX I (fun k i=>.inl (E k i)) A;have H:=A.cell (o:=7) g.1.parts.2.1 g.1.c7;have f6:=(A.frozen (o:=7) g.1.parts.2.1 g.1.n.lt).trans (g.1.n.fz 7);have M:=aB (Yd m1 (Yd E (W.trans m3)));go_wp21;refine (Gg _ b x z m (.node y j t) l _ _ _ _ M.1 O (by simp only[aF.ht];omega) O).mono ?_;rintro e w3 i;have HK:=aB (i.of M.2.2 (by intro k i;have:=M.2.1;simp only[X8,X9] at *;grind));obtain⟨u3,F3,rfl,I,E,A⟩:=i;go_wp21;go_ret;exact HK
 .have eb:aF.tz x l (.node y s t)=aF.uF (.node x l (.node y s t)):=by unfold aF.tz;rw[Xt (by simpa[aF.left,aF.right] using hc)]
  rw[eb];have R:=aB (fun w' (k:aH [] w w')=>mA w' (B.same k).r);have T:=aB (fun w' (k:aH [] w w')=>mA w' (B.same k).l);go_in;go_upto_region 1 with fail;have H:=(RB w.drew (aH.refl _ _).drew).1.c6;have Q:=(RB w.drew (aH.refl _ _).drew).1.c7;go_region_held3 (fun w'=>w'.cell? (b,6)=U ↑pl/\w'.cell? (b,7)=U ↑d/\w'=w.drew)
   (exact⟨H,Q,rfl⟩)
   (first
    |(go_at_call_of 248 (XI (U (Addr.mk d 0 Z)));go_split_ands;refine aZ (TB _ (aH.refl _ _).drew) ?_)
    |(go_at_call_of 248 (XI pl);go_split_ands;refine aZ (mA _ (RB _ (aH.refl _ _).drew).1.l) ?_))
  go_upto_region 7 with fail;have P:=(RB w.drew.drew (aH.refl _ _).drew.drew).1.c7;have L:=(RB w.drew.drew (aH.refl _ _).drew.drew).2.c6;have K:=(RB w.drew.drew (aH.refl _ _).drew.drew).2.c7;go_region_held3 (fun w'=>w'.cell? (b,7)=U ↑d/\w'.cell? (d,6)=U ↑D/\w'.cell? (d,7)=U ↑C/\w'=w.drew.drew)
   (exact⟨P,L,K,rfl⟩)
   (first
    |(go_at_call_of 248 (XI D);go_split_ands;refine aZ (T _ (aH.refl _ _).drew.drew) ?_)
    |(go_at_call_of 248 (XI C);go_split_ands;refine aZ (R _ (aH.refl _ _).drew.drew) ?_))
  have g:=RB w.drew.drew (aH.refl _ _).drew.drew;have W:=aB ((aH.refl (b :: (Fl++(d :: (Fs++Ft)))) _).drew.drew:aH _ w w.drew.drew);have q:=aB g;go_wp21;have g:=q.out;refine (Gg _ b x y s t l _ _ _ _ g.1 O O O).mono ?_;rintro e w3 i;have HK:=aB (i.of W (fun _ i=>i));obtain⟨u3,F3,rfl,I,E,A⟩:=i;go_wp21;go_ret;exact HK
theorem vq(w:XA)(b:Xr)(x:aF.It)(l r:aF.S)(pl pr:Xp XF)(Fl Fr:J Xr)(h:dO w b x l r pl pr Fl Fr)(k:aF.ht l<=30000)(j:aF.ht r<=30000):XE prog 232 #[b] w (nD w (b :: (Fl++Fr)) (aF.iM x l r)):=by
 have q:=aF.mZ l;have m:=aF.mZ r;by_cases d:1<aF.ht l-aF.ht r
 .have e:aF.iM x l r=aF.tw x l r:=by unfold aF.iM;rw[Xu d]
  rw[e];obtain⟨y,s,t,rfl⟩:=aF.Bk (t:=l) O;have i:aF.ht (.node y s t)=1+max (aF.ht s) (aF.ht t):=rfl;exact W8 w b x y s t r pl pr Fl Fr h O O O d
 .by_cases g:aF.ht l-aF.ht r < -1
  .have e:aF.iM x l r=aF.tz x l r:=by unfold aF.iM;rw[Xt d,Xu g]
   rw[e];obtain⟨y,s,t,rfl⟩:=aF.Bk (t:=r) O;have i:aF.ht (.node y s t)=1+max (aF.ht s) (aF.ht t):=rfl;exact W9 w b x y s t l pr pl Fl Fr h O O O g
  .have e:aF.iM x l r=.node x l r:=by unfold aF.iM;rw[Xt d,Xt g]
   rw[e];exact b3S w b x l r pl pr Fl Fr h O O d g
def nR(a b:Xs):Xs:=if a<b then -1 else if b<a then 1 else 0
theorem Ff(a:Xs)(w:XA):XE prog 245 #[a] w fun e w'=>e=XR Xy/\w'=w:=by go_in;go_wp2;go_ret;exact⟨qD Xc,rfl⟩
theorem Bt(a b:Xs)(w:XA):XE prog 221 #[a,b] w fun e w'=>e=XR (V Y (nR a b))/\w'=w:=by
 by_cases d:a<b
 .go_in
  go_wp2_with (go_at_call 245;refine aZ (Ff _ _) ?_);go_ret;exact⟨jx (by simp[nR,d]),rfl⟩
 .by_cases g:b<a
  .go_in
   go_wp2_with (go_at_call 245;refine aZ (Ff _ _) ?_);go_ret;exact⟨jx (by rw[nR,Xt O,Xu O]),rfl⟩
  .go_in
   go_wp2_with (go_at_call 245;refine aZ (Ff _ _) ?_);go_ret;exact⟨jx (by rw[nR,Xt O,Xt O]),rfl⟩
def rN(x y:Xs):Xs:=if x=0 then y else x
theorem Jg(A:Xr)(x y:Xs)(w:XA)(l:w.cell? (A,0)=U ↑x)(k:w.cell? (A,1)=U ↑y):XE prog 220 #[.slice A 2 2] w fun e w'=>e=XR (V Y (rN x y))/\w'=w:=by
 go_in;go_wp2;go_loop [5,8] (fun _ i=>i=V Y 0\/(x=0/\i=V Y 1)\/(x=0/\y=0/\i=V Y 2)) (fun _ i=>2-(intOf i).toNat)
 .exact .inl rfl
 .rcases hrel with rfl|⟨d,rfl⟩|⟨d,g,rfl⟩
  .by_cases d:x=0
   .subst d;go_wp2
    go_round
    .simp
    .simp[intOf]
   .have j:(x != 0)=Xz:=aU d
    go_wp2;go_ret;exact⟨jx (by rw[rN,Xt d]),rfl⟩
  .subst d
   by_cases g:y=0
   .subst g;go_wp2
    go_round
    .simp
    .simp[intOf]
   .have h:(y != 0)=Xz:=aU g
    go_wp2;go_ret;exact⟨jx (by rw[rN,Xu rfl]),rfl⟩
  .subst d;subst g;go_wp2;go_ret;exact⟨jx (by simp[rN]),rfl⟩
theorem Un(f n:Xs)(x:aF.It):rN (nR f x.f) (nR n x.n)=aF.side f n x:=by grind[rN,nR,aF.side]
theorem Ms(b:Xr)(x:aF.It)(f n:Xs)(w:XA)(h:jd w b x):XE prog 233 #[b,f,n] w fun e w'=>e=XR (V Y (aF.side f n x))/\XD w w w':=by
 have g:=h.c0;have d:=h.c2;rw[<- Un];have HP:=aB (fun w'=>Bt f x.f w');have i:=aB (fun w'=>Bt n x.n w');generalize nR f x.f=p at *;generalize nR n x.n=q at *;go_in;go_upto_region 1 with fail;go_region_held3 (fun w'=>w'.cell? (b,0)=U (V Y x.f)/\w'.cell? (b,2)=U (V Y x.n)/\XD w w w')
  (first
   |exact⟨g,d,eN _⟩
   |(go_split_ands;refine⟨?_,?_,?_⟩ <;> assumption)
   |(go_split_ands;exact⟨aT aS Xe,aT aS Xe,bV Xe aS aJ⟩))
  (first
   |(go_at_call_of 221 (V Y f);refine aZ (HP _) ?_)
   |(go_at_call_of 221 (V Y n);refine aZ (i _) ?_)
   |(go_at_call 220;refine aZ (Jg _ p q _ Xc Xc) ?_))
 all_goals have j:Hid (XD w w (Yj (Yh w (XS #[V Y p,V Y q] 3)))):=aS.drew;go_wp21;go_ret;exact⟨rfl,j⟩
end Go.Proofs.YtolaacmheeaadaaGreatDoor
