import Derived.Test.YtolaacmheeaadaaGreatDoorProg
import Derived.WalkSpells
import Derived.WalkLawsBesides
import Derived.BigQuiet
import Derived.Deep.RegionHeld3
import Derived.Deep.CutRange
set_option maxRecDepth 100000
set_option maxHeartbeats 8000000
open Go.Proofs.Tryz
open _root_ renaming List->Xn,Option->Xo,Bool->Xp,Nat->Xq,Int->Xr,if_neg->Xs,if_pos->Xt,List->J
open Option renaming none->Xv,some->Xw,none->Z,some->U
open Bool renaming false->Xx,true->Xy,not_eq_true->XX,false_or->XY,not_false->XZ,not_true->X0,false_eq_true->X4,true_or->X5
open Go renaming World->Xz,Value->XA,Calls->XD,Addr->XE
open Go.RowKit renaming Below->XC,Below->XT
open Nat renaming le_refl->XS,le_trans->XU
open Go.Ending renaming returned->XQ
open Go.IntKind renaming i64->XP,i64->Y
open Go.World renaming block_lt_of_cell?->XV,frozen?->XW,cell?_setCell_same->Yb,setCell->Yd,alloc->Yg,cell?->Yh,drew->Yi
open Int renaming add_assoc->X6,zero_add->Ye
open List renaming mem_cons->X7,mem_append->X8,nodup_nil->X9,nodup_cons->Ya,nodup_append->Yf,cons_append->Yj,pairwise_cons->Yk,filter_append->Yl,filter_cons->Ym,filter_eq_nil_iff->Yo,sublist_cons_self->Yt,perm_middle->Yw
open And renaming intro->Yc
open Go.Value renaming pointer->XH,int->XG,tuple->XL,agg->XM,int->V
open List.Pairwise renaming filter->Yn
open List.Sublist renaming nodup->Yp,cons_cons->Yq,append->Yr,trans->Ys,refl->Yu
open List.Perm renaming cons->Yv
open Go.Obj renaming cells->XR
namespace Go.Proofs.YtolaacmheeaadaaGreatDoor
variable{a c hi level lo long st y5 y6:Xr}{f:Xr->Xr}{F F' Fl Fr G:Xn Xq}{M N b bk fn n o:Xq}{pl pr u:Xo XE}{p v:XA}{X w w' w'' w1 w2 w4:Xz}
theorem O{p:Prop}(h:p:=by omega):p:=h
theorem Xb{p:Prop}(h:p:=by omega):p:=h
theorem Xc{p:Prop}(h:p:=by simp):p:=h
theorem Xd{p:Prop}(h:p:=by decide):p:=h
theorem Xe{p:Prop}(h:p:=by assumption):p:=h
theorem Xf{p:Prop}(h:p:=by decide +kernel):p:=h
theorem Xg{p:Prop}(h:p:=by kernel_rfl):p:=h
theorem Xh{p:Prop}(h:p:=by (simp;omega)):p:=h
theorem Xi{p:Prop}(h:p:=by grind):p:=h
theorem Xj{p:Prop}(h:p:=by (unfold maxLen;omega)):p:=h
theorem Xk{p:Prop}(h:p:=by simp[Value.oneCell']):p:=h
theorem Xl{p:Prop}(h:p:=by simp[Value.ownBlock]):p:=h
open Go.RowKit
instance:Coe Xz Xq:=⟨fun w=>w.heap.size⟩
instance:Coe Xr XA:=⟨XG XP⟩
instance:Coe Xq XE:=⟨fun b=>⟨b,0,Xv⟩⟩
instance:Coe Xq (Xo XE):=⟨fun b=>Xw ⟨b,0,Xv⟩⟩
instance:Coe Xq XA:=⟨fun b=>XH (Xw ⟨b,0,Xv⟩)⟩
instance:Coe Unit XA:=⟨fun _=>.slice Xv 0 0⟩
instance:Coe Xp XA:=⟨.bool⟩
instance:Coe ByteArray XA:=⟨.string⟩
instance:Coe (Xo XE) XA:=⟨XH⟩
instance(b o:Xq):CoeDep (Xq×Xq) (b,o) XE:=⟨⟨b,o,Xv⟩⟩
instance(b:Xz)(o:Xq):CoeDep (Xz×Xq) (b,o) XE:=⟨⟨b.heap.size,o,Xv⟩⟩
theorem aJ{n:Xq}:n<=n:=XS n
theorem fI{b:Xq}{w:Xz}:XT b w w:=.refl b w
theorem aS{w:Xz}{o:Obj}:XT w.heap.size w (w.alloc o):=(fI).alloc aJ o
theorem bC{w:Xz}{a b:XE}{v:XA}(h:a≠b):(w.setCell a v).cell? b=w.cell? b:=w.cell?_setCell_other a b v h
theorem bV{p q:Prop}(h:p)(e:p=q:=by (simp)):q:=e▸h
theorem aK{P:Program}{f:FuncId}{a:Array XA}{w:Xz}{v:Ending}{R:Xz->Prop}{Q:Ending->Xz->Prop}(h:XD P f a w fun e w'=>e=v/\R w')(k:∀ w',R w'->Q v w'):XD P f a w Q:=h.mono (by rintro e w' ⟨rfl,r⟩;exact k _ r)
theorem aY{P:Program}{f:FuncId}{a:Array XA}{w W:Xz}{v:Ending}{Q:Ending->Xz->Prop}(h:XD P f a w fun e w'=>e=v/\w'=W)(k:Q v W):XD P f a w Q:=h.mono (by rintro e w' ⟨rfl,rfl⟩;exact k)
theorem zq(n:Xq):n<=n:=XS n
theorem zS(w:Xz)(a b:XE)(v:XA)(h:a≠b):(w.setCell a v).cell? b=w.cell? b:=w.cell?_setCell_other a b v h
theorem zr(b:Xq)(w:Xz):XC b w w:=Below.refl b w
theorem zL{m k:Xq}(h:n<m)(g:m<=k):n<k:=Nat.lt_of_lt_of_le h g
theorem zm(w:Xz)(a:XE)(v:XA){u:XA}(h:w.cell? a=U u):(w.setCell a v).cell? a=U v:=w.cell?_setCell_same a v h
theorem zF(w:Xz)(a b:XE)(v:XA):(w.setCell a v).frozen? b=w.frozen? b:=w.frozen?_setCell a b v
theorem zo{a:XE}(h:w'.heap[a.block]?=w.heap[a.block]?):w'.cell? a=w.cell? a:=World.cell?_of_block h
theorem zN(n:Xq):0<=n:=n.zero_le
theorem zg{α:Type _}{l:J α}(h:n<l.length):l[n]∈l:=List.getElem_mem h
theorem qH{a b:Xp}(h:a=b):XQ a=XQ b:=by rw[h]
theorem jy{k:IntKind}{b:Xr}(h:a=b):XQ (V k a)=XQ (V k b):=by rw[h]
theorem aB{p:Prop}(h:p):Hid p:=h
theorem dJ{x:Xr}(g:-1000000000000<=x)(d:x<=1000000000000):Y.wrap x=x:=by rw[IntKind.wrap_i64];omega
theorem vV(x y:Xr):(if x<y then y else x)=max x y:=by split <;> omega
theorem JF(x y:Xr):(if y<x then y else x)=min x y:=by split <;> omega
theorem DE(c x y:Xr):(c+if x<y then y else x)=c+max x y:=by split <;> omega
theorem Tc(c x y:Xr):(c+if y<x then y else x)=c+min x y:=by split <;> omega
theorem bU{B:Xq}(h:XC B w w')(k:XC w' w' w'')(d:B<=w):XC B w w'':=h.trans (k.mono (XU d h.size))
theorem eN(w:Xz):XC w w w.drew:=fI.drew
structure aH(F:J Xq)(w w':Xz):Prop where
 os:w'.os=w.os
 tape:w'.tape=w.tape
 output:w'.output=w.output
 size:w<=w'.heap.size
 block:∀ k,k<w.heap.size->k ∉ F->w'.heap[k]?=w.heap[k]?
theorem aH.refl(F:J Xq)(w:Xz):aH F w w:=⟨rfl,rfl,rfl,XS _,fun _ _ _=>rfl⟩
theorem aH.trans'{a b c:Xz}(h:aH F a b)(k:aH G b c)(j:∀ x∈G,x∈F\/a<=x):aH F a c :=
 ⟨k.os.trans h.os,k.tape.trans h.tape,k.output.trans h.output,XU h.size k.size,fun i hi d =>(k.block i (zL hi h.size) (fun g=>by grind)).trans (h.block i hi d)⟩
theorem aH.trans{a b c:Xz}(h:aH F a b)(k:aH F b c):aH F a c:=h.trans' k (fun _ d=>.inl d)
theorem aH.mono{a b:Xz}(h:aH F a b)(g:∀ x∈F,x∈G):aH G a b :=⟨h.os,h.tape,h.output,h.size,fun i hi j=>h.block i hi (fun d=>j (g i d))⟩
theorem aH.aD(h:XC w w w'):aH F w w':=⟨h.os,h.tape,h.output,h.size,fun k d _=>h.block k d⟩
theorem aH.drew(h:aH F w w'):aH F w w'.drew:=⟨h.os,h.tape,h.output,h.size,h.block⟩
theorem aH.alloc(h:aH F w w')(o:Obj):aH F w (w'.alloc o) :=h.trans (aH.aD (fI.alloc aJ o))
theorem aH.bM(R:Xq)(w':Xz)(o:Xq)(v:XA):aH [R] w' (w'.setCell (R,o) v) :=⟨(Below.setCell (B:=0) (Below.refl 0 w') (zN _) v).os,(Below.setCell (B:=0) (Below.refl 0 w') (zN _) v).tape,(Below.setCell (B:=0) (Below.refl 0 w') (zN _) v).output,(Below.setCell (B:=0) (Below.refl 0 w') (p:=(R,o)) (zN _) v).size,fun k _ d=>Below.heap_setCell w' _ v k Xi⟩
theorem aH.setCell(h:aH F w w'){R:Xq}(g:R∈F\/w<=R)(o:Xq)(v:XA):aH F w (w'.setCell (R,o) v) :=h.trans' (aH.bM R w' o v) (fun x d=>by grind)
theorem aH.cell(h:aH F w w')(d:b ∉ F)(g:w.cell? (b,o)=U v):w'.cell? (b,o)=U v :=(zo (w:=w) (h.block b (XV _ _ g) d)).trans g
theorem aH.frozen(h:aH F w w')(d:b ∉ F)(g:b<w):w'.frozen? (b,o)=w.frozen? (b,o):=by have e:=h.block b g d;simp only[XW,e]
theorem aT(h:XC w w w')(d:w.cell? (b,o)=U v):w'.cell? (b,o)=U v :=(h.cell (p:=(b,o)) (XV _ _ d)).trans d
namespace aL
inductive T where
 |nil:T
 |node (a:Xr) (l r:T):T
def top:T->Xr
 |.nil=>0
 |.node a l r=>a+max (top l) (top r)
def bot:T->Xr
 |.nil=>0
 |.node a l r=>a+min (bot l) (bot r)
def isNil:T->Xp
 |.nil=>Xy
 |.node ..=>Xx
def val:T->Xr
 |.nil=>0
 |.node a _ _=>a
def fst:T->T
 |.nil=>.nil
 |.node _ l _=>l
def snd:T->T
 |.nil=>.nil
 |.node _ _ r=>r
def flat(t:T):Xp:=isNil (fst t) && isNil (snd t)
def mk(a:Xr)(l r:T):T:=if a=0/\isNil l=Xy/\isNil r=Xy then .nil else .node a l r
theorem wO{t:T}(h:isNil t=Xy):t=.nil:=by cases t <;> simp_all [isNil]
@[simp] theorem val_mk (a:Xr) (l r:T):val (mk a l r)=a:=by unfold mk;split;rename_i h;simp[val,h.1];rfl
@[simp] theorem fst_mk (a:Xr) (l r:T):fst (mk a l r)=l:=by simp_all
@[simp] theorem snd_mk (a:Xr) (l r:T):snd (mk a l r)=r:=by simp_all
def bA(lo hi:Xr):Xr:=(lo+hi) / 2
def apart(lo hi a b:Xr):Xp:=decide (hi<=a) || decide (b<=lo)
def within(lo hi a b:Xr):Xp:=decide (a<=lo) && decide (hi<=b)
theorem vq{b:Xr}:apart lo hi a b=Xy↔hi<=a\/b<=lo:=by simp[apart]
theorem oI{b:Xr}:apart lo hi a b=Xx↔a<hi/\lo<b:=by rw[<- XX,vq];omega
theorem wN{b:Xr}:within lo hi a b=Xy↔a<=lo/\hi<=b:=by simp[within]
theorem ze{b:Xr}:within lo hi a b=Xx↔¬ (a<=lo/\hi<=b):=by rw[<- XX,wN]
def iQ:Xq->T->Xr->Xr->Xr->Xr->Xr->T
 |n,t,lo,hi,a,b,u =>
  if apart lo hi a b then t
  else if within lo hi a b then mk (val t+u) (fst t) (snd t)
  else match n with
   |0=>t
   |n+1=>mk (val t) (iQ n (fst t) lo (bA lo hi) a b u) (iQ n (snd t) (bA lo hi) hi a b u)
def canon:Xq->(J Xp->Xr)->Xr->Xr->T
 |0,A,_,_=>mk (A []) .nil .nil
 |n+1,A,lo,hi =>
  if hi-lo<=1 then mk (A []) .nil .nil
  else mk (A []) (canon n (fun p=>A (Xx :: p)) lo (bA lo hi)) (canon n (fun p=>A (Xy :: p)) (bA lo hi) hi)
def ju:Xr->Xr->Xr->Xr->J Xp->Xr
 |lo,hi,a,b,[]=>if apart lo hi a b then 0 else if within lo hi a b then 1 else 0
 |lo,hi,a,b,Xx :: p=>if apart lo hi a b then 0 else if within lo hi a b then 0 else ju lo (bA lo hi) a b p
 |lo,hi,a,b,Xy :: p=>if apart lo hi a b then 0 else if within lo hi a b then 0 else ju (bA lo hi) hi a b p
theorem Fp{b:Xr}(h:apart lo hi a b=Xy):∀ p,ju lo hi a b p=0
 |[]=>by simp[ju,h]
 |false :: p=>by simp[ju,h]
 |true :: p=>by simp[ju,h]
theorem Dv:∀ (p:J Xp)(lo hi a b:Xr),0<=ju lo hi a b p/\ju lo hi a b p<=1
 |[],lo,hi,a,b=>by simp only[ju];split <;> (try split) <;> omega
 |false :: p,lo,hi,a,b=>by
   simp only[ju];split
   .omega
   .split
    .omega
    .exact Dv p _ _ _ _
 |true :: p,lo,hi,a,b=>by
   simp only[ju];split
   .omega
   .split
    .omega
    .exact Dv p _ _ _ _
theorem EK(h:hi-lo<=2 ^ (n+1)):bA lo hi-lo<=2 ^ n/\hi-bA lo hi<=2 ^ n:=by unfold bA;rw[Int.pow_succ] at h;omega
theorem b5v:∀ {A B:J Xp->Xr}{lo hi:Xr},(∀ p,A p=B p)->canon n A lo hi=canon n B lo hi:=by intro A B lo hi h;rw[show A=B from funext h]
theorem W7:∀ (n:Xq)(A:J Xp->Xr)(lo hi a b u:Xr),lo<hi->hi-lo<=2 ^ n->a<b ->iQ n (canon n A lo hi) lo hi a b u=canon n (fun p=>A p+u*ju lo hi a b p) lo hi:=by
 intro n;induction n with
 |zero =>
  intro A lo hi a b u q j i;have j:hi-lo<=1:=Xi;unfold iQ;split
  .rename_i h;simp[canon,Fp h]
  .rename_i h
   rw[XX,oI] at h;have d:within lo hi a b=Xy:=wN.2 O;have g:apart lo hi a b=Xx:=oI.2 h;rw[Xt d];simp[canon,ju,d,g]
 |succ n ih =>
  intro A lo hi a b u q j i;unfold iQ;split
  .rename_i h;exact b5v (by intro p;simp[Fp h])
  .rename_i h
   have g:apart lo hi a b=Xx:=Xi;split
   .rename_i d
    simp only[canon];split
    .simp[ju,g,d]
    .simp[ju,g,d]
   .rename_i d
    have d:within lo hi a b=Xx:=Xi;have s:=oI.1 g;have r:=ze.1 d;have m:¬ hi-lo<=1:=O;have k:lo<bA lo hi/\bA lo hi<hi:=by unfold bA;omega
    have l:=EK j;simp only[canon,Xs m,val_mk,fst_mk,snd_mk];rw[ih _ _ _ _ _ _ k.1 l.1 i,ih _ _ _ _ _ _ k.2 l.2 i];simp[ju,g,d]
def fh:T->Xr->Xr->Xr->Xr
 |.nil,_,_,_=>0
 |.node a l r,lo,hi,x=>a+if x<bA lo hi then fh l lo (bA lo hi) x else fh r (bA lo hi) hi x
theorem rD(a:Xr)(l r:T)(lo hi x:Xr):fh (mk a l r) lo hi x=a+if x<bA lo hi then fh l lo (bA lo hi) x else fh r (bA lo hi) hi x:=by unfold mk;split;rename_i h;rw[wO h.2.1,wO h.2.2];simp[fh,h.1];rfl
def Good:T->Xr->Xr->Prop
 |.nil,_,_=>True
 |.node a l r,lo,hi=>0<=a/\((isNil l=Xy/\isNil r=Xy)\/2<=hi-lo)/\Good l lo (bA lo hi)/\Good r (bA lo hi) hi
theorem Good.mk{l r:T}(i:0<=a)(h:(isNil l=Xy/\isNil r=Xy)\/2<=hi-lo)(g:Good l lo (bA lo hi))(d:Good r (bA lo hi) hi):Good (aL.mk a l r) lo hi:=by grind[Good.mk,isNil,Good,bA]
theorem b8K:∀ (n:Xq)(A:J Xp->Xr)(lo hi:Xr),(∀ p,0<=A p)->Good (canon n A lo hi) lo hi:=by
 intro n;induction n with
 |zero=>intro A lo hi h;exact Good.mk (h _) (.inl ⟨rfl,rfl⟩) trivial trivial
 |succ n ih =>intro A lo hi h;simp only[canon];split;exact Good.mk (h _) (.inl ⟨rfl,rfl⟩) trivial trivial;exact Good.mk (h _) (.inr O) (ih _ _ _ (fun p=>h _)) (ih _ _ _ (fun p=>h _))
theorem b1L:∀ (n:Xq)(A:J Xp->Xr)(lo hi a b u x:Xr),lo<=x->x<hi->hi-lo<=2 ^ n->a<b ->fh (canon n (fun p=>A p+u*ju lo hi a b p) lo hi) lo hi x=fh (canon n A lo hi) lo hi x+if a<=x/\x<b then u else 0:=by
 intro n;induction n with
 |zero =>
  intro A lo hi a b u x r q k j;have k:hi-lo<=1:=Xi;simp only[canon,rD,fh,ju]
  cases d:apart lo hi a b
  .have i:=oI.1 d;have g:within lo hi a b=Xy:=wN.2 O;rw[g,Xt (by omega:a<=x/\x<b)];simp
  .have i:=vq.1 d;rw[Xs (by omega:¬ (a<=x/\x<b))];simp
 |succ n ih =>
  intro A lo hi a b u x r q k j;simp only[canon];have l:=EK k
  cases d:apart lo hi a b
  .have i:=oI.1 d
   cases g:within lo hi a b
   .have s:=ze.1 g;have m:¬ hi-lo<=1:=O
    rw[Xs m,Xs m,rD,rD];simp only[ju,d,g];by_cases h:x<bA lo hi;rw[Xt h,Xt h];have:=ih (fun p=>A (Xx :: p)) lo (bA lo hi) a b u x r h l.1 j;simp at this ⊢;omega;rw[Xs h,Xs h];have:=ih (fun p=>A (Xy :: p)) (bA lo hi) hi a b u x O q l.2 j;simp at this ⊢;omega
   .have s:=wN.1 g;rw[Xt (by omega:a<=x/\x<b)]
    split;rw[rD,rD];simp[ju,d,g,fh];rw[rD,rD];simp[ju,d,g];omega
  .have i:=vq.1 d;rw[Xs (by omega:¬ (a<=x/\x<b))];simp[Fp d]
theorem b0h:∀ (n:Xq)(lo hi x:Xr),fh (canon n (fun _=>0) lo hi) lo hi x=0:=by
 intro n;induction n with
 |zero=>intro lo hi x;simp[canon,rD,fh]
 |succ n ih =>intro lo hi x;simp only[canon];split;simp[rD,fh];rw[rD,ih,ih];simp
theorem BA:∀ (t:T)(lo hi x:Xr),Good t lo hi->0<=fh t lo hi x:=by
 intro t;induction t with
 |nil=>intro lo hi x _;simp[fh]
 |node a l r ihl ihr =>intro lo hi x h;have i:=ihl lo (bA lo hi) x h.2.2.1;have g:=ihr (bA lo hi) hi x h.2.2.2;have d:=h.1;simp only[fh];split <;> omega
theorem wq{t:T}(h:isNil t=Xy):top t=0/\bot t=0:=by rw[wO h];exact⟨rfl,rfl⟩
theorem wv{t:T}(h:isNil t=Xy)(lo hi x:Xr):fh t lo hi x=0:=by rw[wO h];rfl
theorem yv:∀ (t:T)(lo hi:Xr),lo<hi->Good t lo hi->(∀ x,lo<=x->x<hi->fh t lo hi x<=top t)/\∃ x,lo<=x/\x<hi/\fh t lo hi x=top t:=by
 intro t;induction t with
 |nil=>intro lo hi h _;exact⟨fun x _ _=>by simp[fh,top],lo,O,h,rfl⟩
 |node a l r ihl ihr =>
  intro lo hi h g;rcases g.2.1 with ⟨j,i⟩|z
  .have m:=wq j;have k:=wq i;simp only[fh,top,wv j,wv i,m,k];exact⟨fun x _ _=>by grind,lo,O,h,by grind⟩
  .have d:lo<bA lo hi/\bA lo hi<hi:=by unfold bA;omega
   let⟨l1,x1,l2,l3,l4⟩:=ihl lo (bA lo hi) d.1 g.2.2.1;let⟨r1,x2,r2,r3,r4⟩:=ihr (bA lo hi) hi d.2 g.2.2.2;simp only[fh,top];refine⟨fun x s q=>?_,?_⟩
   .split
    .have:=l1 x s O;omega
    .have:=r1 x O q;omega
   .by_cases y:top r<=top l
    .exact⟨x1,l2,O,by grind⟩
    .exact⟨x2,O,r3,by grind⟩
theorem Tq:∀ (t:T)(lo hi:Xr),lo<hi->Good t lo hi->(∀ x,lo<=x->x<hi->bot t<=fh t lo hi x)/\∃ x,lo<=x/\x<hi/\fh t lo hi x=bot t:=by
 intro t;induction t with
 |nil=>intro lo hi h _;exact⟨fun x _ _=>by simp[fh,bot],lo,O,h,rfl⟩
 |node a l r ihl ihr =>
  intro lo hi h g;rcases g.2.1 with ⟨j,i⟩|z
  .have m:=wq j;have k:=wq i;simp only[fh,bot,wv j,wv i,m,k];exact⟨fun x _ _=>by grind,lo,O,h,by grind⟩
  .have d:lo<bA lo hi/\bA lo hi<hi:=by unfold bA;omega
   let⟨l1,x1,l2,l3,l4⟩:=ihl lo (bA lo hi) d.1 g.2.2.1;let⟨r1,x2,r2,r3,r4⟩:=ihr (bA lo hi) hi d.2 g.2.2.2;simp only[fh,bot];refine⟨fun x s q=>?_,?_⟩
   .split
    .have:=l1 x s O;omega
    .have:=r1 x O q;omega
   .by_cases y:bot l<=bot r
    .exact⟨x1,l2,O,by grind⟩
    .exact⟨x2,O,r3,by grind⟩
def ie:T->Xr->Xr->Xr->Xr->Xr
 |.nil,_,_,_,_=>0
 |.node c l r,lo,hi,a,b =>
  if apart lo hi a b then 0
  else if within lo hi a b then c+max (top l) (top r)
  else c+max (ie l lo (bA lo hi) a b) (ie r (bA lo hi) hi a b)
theorem Bm{t:T}{b:Xr}(h:apart lo hi a b=Xy):ie t lo hi a b=0:=by
 cases t <;> simp[ie,h]
theorem Ku:∀ (t:T)(lo hi a b:Xr),lo<hi->a<b->Good t lo hi->apart lo hi a b=Xx ->0<=ie t lo hi a b/\(∀ x,lo<=x->x<hi->a<=x->x<b->fh t lo hi x<=ie t lo hi a b)/\∃ x,lo<=x/\x<hi/\a<=x/\x<b/\fh t lo hi x=ie t lo hi a b:=by
 intro t;induction t with
 |nil =>intro lo hi a b h s _ m;have:=oI.1 m;exact⟨Int.le_refl _,fun x _ _ _ _=>by simp[fh,ie],max lo a,O,O,O,O,rfl⟩
 |node c l r ihl ihr =>
  intro lo hi a b h s g m;have E:=oI.1 m
  cases q:within lo hi a b
  .have A:=ze.1 q;have B:lo<bA lo hi/\bA lo hi<hi:=by unfold bA;omega
   have e:ie (.node c l r) lo hi a b=c+max (ie l lo (bA lo hi) a b) (ie r (bA lo hi) hi a b):=by simp[ie,m,q]
   have I:=g.1;rw[e];simp only[fh]
   cases pl:apart lo (bA lo hi) a b
   .let⟨l0,l1,x1,l2,l3,l4,l5,l6⟩:=ihl lo (bA lo hi) a b B.1 s g.2.2.1 pl
    cases pr:apart (bA lo hi) hi a b
    .let⟨r0,r1,x2,r2,r3,r4,r5,r6⟩:=ihr (bA lo hi) hi a b B.2 s g.2.2.2 pr;refine⟨O,fun x k j i d=>?_,?_⟩
     .split
      .have:=l1 x k O i d;omega
      .have:=r1 x O j i d;omega
     .by_cases H:ie r (bA lo hi) hi a b<=ie l lo (bA lo hi) a b
      .exact⟨x1,l2,O,l4,l5,by grind⟩
      .exact⟨x2,O,r3,r4,r5,by grind⟩
    .have C:=vq.1 pr;have z:=Bm (t:=r) pr;refine⟨O,fun x k j i d=>?_,x1,l2,O,l4,l5,by grind⟩;rw[Xt O];have:=l1 x k O i d;omega
   .have D:=vq.1 pl;have z:=Bm (t:=l) pl;have pr:apart (bA lo hi) hi a b=Xx:=oI.2 O;let⟨r0,r1,x2,r2,r3,r4,r5,r6⟩:=ihr (bA lo hi) hi a b B.2 s g.2.2.2 pr;refine⟨O,fun x k j i d=>?_,x2,O,r3,r4,r5,by grind⟩;rw[Xs O];have:=r1 x O j i d;omega
  .have A:=wN.1 q;have e:ie (.node c l r) lo hi a b=top (.node c l r):=by simp[ie,m,q,top]
   let⟨t1,x,t2,t3,t4⟩:=yv (.node c l r) lo hi h g;rw[e];have:=BA (.node c l r) lo hi x g;exact⟨O,fun y k j _ _=>t1 y k j,x,t2,t3,O,O,t4⟩
def kR(d:Xp)(level:Xr)(t:T)(c:Xr):Xp:=if d then decide (level<c+top t) else decide (c+bot t<=level)
def want(d:Xp)(level x:Xr):Prop:=if d then level<x else x<=level
def fm(d:Xp)(level:Xr):T->Xr->Xr->Xr->Xr->Xr->Xo Xr
 |.nil,lo,hi,a,b,c=>if apart lo hi a b || !kR d level .nil c then Z else U (max lo a)
 |.node v l r,lo,hi,a,b,c =>
  if apart lo hi a b || !kR d level (.node v l r) c then Z
  else if isNil l && isNil r then U (max lo a)
  else match fm d level l lo (bA lo hi) a b (c+v) with
   |some x=>U x
   |none=>fm d level r (bA lo hi) hi a b (c+v)
theorem KM{d:Xp}{t:T}(h:kR d level t c=Xx)(i:lo<hi)(g:Good t lo hi):∀ x,lo<=x->x<hi->¬ want d level (c+fh t lo hi x):=by
 intro x k j
 cases d
 .have:=(Tq t lo hi i g).1 x k j;simp[kR,want] at h ⊢;omega
 .have:=(yv t lo hi i g).1 x k j;simp[kR,want] at h ⊢;omega
theorem L5{d:Xp}{t:T}(h:kR d level t c=Xy)(g:∀ x,fh t lo hi x=val t)(ht:top t=val t)(i:bot t=val t):∀ x,want d level (c+fh t lo hi x):=by
 intro x;rw[g x]
 cases d
 .simp[kR,want,i] at h ⊢;omega
 .simp[kR,want,ht] at h ⊢;omega
def rB(P:Xr->Prop)(lo hi a b:Xr):Xo Xr->Prop
 |none=>∀ x,lo<=x->x<hi->a<=x->x<b->¬ P x
 |some x=>lo<=x/\x<hi/\a<=x/\x<b/\P x/\∀ y,lo<=y->y<x->a<=y->¬ P y
theorem Jf(d:Xp)(level:Xr):∀ (t:T)(lo hi a b c:Xr),lo<hi->a<b->Good t lo hi->rB (fun x=>want d level (c+fh t lo hi x)) lo hi a b (fm d level t lo hi a b c):=by
 intro t;induction t with
 |nil =>
  intro lo hi a b c h I g;unfold fm
  cases A:apart lo hi a b
  .have k:=oI.1 A
   cases z:kR d level .nil c
   .simp only[XY,XZ,if_true];exact fun x H s _ _=>KM z h g x H s
   .simp only[XY,X0,X4,if_false];exact⟨O,O,O,O,L5 z (fun _=>rfl) rfl rfl _,fun y _ _ _=>by omega⟩
  .have k:=vq.1 A;simp only[X5,if_true];exact fun x _ _ _ _=>by omega
 |node v l r ihl ihr =>
  intro lo hi a b c h I g;unfold fm
  cases A:apart lo hi a b
  .have k:=oI.1 A
   cases z:kR d level (.node v l r) c
   .simp only[XY,XZ,if_true];exact fun x H s _ _=>KM z h g x H s
   .simp only[XY,X0,X4,if_false]
    cases R:isNil l && isNil r
    .simp only[X4,if_false]
     have s:2<=hi-lo:=by
      rcases g.2.1 with ⟨E,D⟩|s
      .simp[E,D] at R
      .exact s
     have K:lo<bA lo hi/\bA lo hi<hi:=by unfold bA;omega
     have i:=ihl lo (bA lo hi) a b (c+v) K.1 I g.2.2.1;have q:=ihr (bA lo hi) hi a b (c+v) K.2 I g.2.2.2
     cases P:fm d level l lo (bA lo hi) a b (c+v) with
     |some x =>rw[P] at i;let⟨k1,k2,k3,k4,k5,k6⟩:=i;refine⟨k1,O,k3,k4,?_,fun y C B m=>?_⟩;show want d level (c+fh (.node v l r) lo hi x);simp only[fh];rw[Xt k2,<- X6];exact k5;show ¬ want d level (c+fh (.node v l r) lo hi y);simp only[fh];rw[Xt O,<- X6];exact k6 y C B m
     |none =>
      rw[P] at i;have i:=i
      cases L:fm d level r (bA lo hi) hi a b (c+v) with
      |some x =>
       rw[L] at q;let⟨k1,k2,k3,k4,k5,k6⟩:=q;refine⟨O,k2,k3,k4,?_,fun y C B m=>?_⟩
       .show want d level (c+fh (.node v l r) lo hi x);simp only[fh];rw[Xs O,<- X6];exact k5
       .show ¬ want d level (c+fh (.node v l r) lo hi y);simp only[fh]
        by_cases j:y<bA lo hi
        .rw[Xt j,<- X6];exact i y C j m O
        .rw[Xs j,<- X6];exact k6 y O B m
      |none =>rw[L] at q;have q:=q;intro y C B m Q;show ¬ want d level (c+fh (.node v l r) lo hi y);simp only[fh];by_cases j:y<bA lo hi;rw[Xt j,<- X6];exact i y C j m Q;rw[Xs j,<- X6];exact q y O B m Q
    .simp only[if_true];have E:isNil l=Xy:=Xi
     have D:isNil r=Xy:=Xi;have W:=wq E;have S:=wq D;refine⟨O,O,O,O,?_,fun y _ _ _=>by omega⟩;exact L5 z (fun x=>by simp only[fh,val,wv E,wv D];split <;> omega) (by simp only[top,val];omega) (by simp only[bot,val];omega) _
  .have k:=vq.1 A;simp only[X5,if_true];exact fun x _ _ _ _=>by omega
end aL
def eC(w:Xz):aL.T->XA->J Xq->Prop
 |.nil,p,F=>p=XH Z/\F=[]
 |.node a l r,p,F=>∃ (b:Xq) (pl pr:Xo XE) (Fl Fr:J Xq),p=XH (U ⟨b,0,Z⟩)/\w.cell? ⟨b,0,Z⟩=U (V Y a)/\w.cell? ⟨b,1,Z⟩=U (V Y (aL.top (.node a l r)))/\w.cell? ⟨b,2,Z⟩=U (V Y (aL.bot (.node a l r)))/\w.cell? ⟨b,3,Z⟩=U (XH pl)/\w.cell? ⟨b,4,Z⟩=U (XH pr)/\(∀ o,w.frozen? ⟨b,o,Z⟩=Xx)/\eC w l (XH pl) Fl/\eC w r (XH pr) Fr/\F=b :: (Fl++Fr)/\F.Nodup
theorem eC.lt{w:Xz}:∀ {t:aL.T}{p:XA}{F:J Xq},eC w t p F->∀ k∈F,k<w
 |.nil,p,F,h,k,d=>by rw[h.2] at d;cases d
 |.node a l r,p,F,h,k,d=>by
  obtain⟨b,pl,pr,Fl,Fr,rfl,j,z,y,x,s,q,i,g,rfl,m⟩:=h;rcases X7.1 d with rfl|d
  .exact XV _ _ j
  .rcases X8.1 d with d|d
   .exact eC.lt i k d
   .exact eC.lt g k d
theorem eC.off{G:J Xq}{w w':Xz}(h:aH G w w'):∀ {t:aL.T}{p:XA}{F:J Xq},eC w t p F->(∀ k∈F,k ∉ G)->eC w' t p F
 |.nil,p,F,g,_=>g
 |.node a l r,p,F,g,hd=>by obtain⟨b,pl,pr,Fl,Fr,rfl,j,A,z,y,x,s,q,g,rfl,m⟩:=g;have d:=hd b Xc;exact⟨b,pl,pr,Fl,Fr,rfl,h.cell d j,h.cell d A,h.cell d z,h.cell d y,h.cell d x,fun o=>(h.frozen d (XV _ _ j)).trans (s o),eC.off h q (fun k i=>hd k (by simp[i])),eC.off h g (fun k i=>hd k (by simp[i])),rfl,m⟩
theorem eC.same{t:aL.T}(h:eC w t p F)(k:aH [] w w'):eC w' t p F:=h.off k (fun _ _=>by simp)
theorem eC.nodup{t:aL.T}(h:eC w t p F):F.Nodup:=by
 cases t with
 |nil=>rw[h.2];exact X9
 |node a l r=>let⟨b,_,_,_,_,_,_,_,_,_,_,_,_,_,_,nd⟩:=h;exact nd
structure eo(w:Xz)(b:Xq)(c:Xr)(l r:aL.T)(pl pr:Xo XE)(Fl Fr:J Xq):Prop where
 c0:w.cell? (b,0)=U ↑c
 c1:∃ x,w.cell? (b,1)=U (V Y x)
 c2:∃ x,w.cell? (b,2)=U (V Y x)
 c3:w.cell? (b,3)=U ↑pl
 c4:w.cell? (b,4)=U ↑pr
 fz:∀ o,w.frozen? ⟨b,o,Z⟩=Xx
 l:eC w l pl Fl
 r:eC w r pr Fr
 nd:(b :: (Fl++Fr)).Nodup
def LB:aL.T->Prop
 |.nil=>True
 |.node a l r=>(-1000000<=a/\a<=1000000)/\(-100000000<=aL.top (.node a l r)/\aL.top (.node a l r)<=100000000)/\(-100000000<=aL.bot (.node a l r)/\aL.bot (.node a l r)<=100000000)/\LB l/\LB r
theorem LB.top{t:aL.T}(h:LB t):-100000000<=aL.top t/\aL.top t<=100000000:=by
 cases t with
 |nil=>simp[aL.top]
 |node a l r=>exact h.2.1
theorem LB.bot{t:aL.T}(h:LB t):-100000000<=aL.bot t/\aL.bot t<=100000000:=by
 cases t with
 |nil=>simp[aL.bot]
 |node a l r=>exact h.2.2.1
theorem LB.val{t:aL.T}(h:LB t):-1000000<=aL.val t/\aL.val t<=1000000:=by
 cases t with
 |nil=>simp[aL.val]
 |node a l r=>exact h.1
theorem LB.fst{t:aL.T}(h:LB t):LB (aL.fst t):=by grind[LB.fst,LB,aL.fst]
theorem LB.snd{t:aL.T}(h:LB t):LB (aL.snd t):=by grind[LB.snd,LB,aL.snd]
theorem LB.mk{l r:aL.T}(h:LB (aL.mk a l r)):(-1000000<=a/\a<=1000000)/\LB l/\LB r:=by have i:=h.val;have g:=h.fst;have d:=h.snd;simp at i g d;exact⟨i,g,d⟩
theorem pT(lo hi a b:Xr)(w:Xz):XD prog 227 #[XM #[lo,hi],XM #[a,b]] w fun e w'=>e=XQ (aL.apart lo hi a b)/\XC w w w':=by
 by_cases d:hi<=a
 .go_in
  go_wp2;go_ret;exact⟨qH (by simp[aL.apart,d]),aS.alloc Xc _⟩
 .by_cases g:b<=lo
  all_goals go_in;go_wp2;go_ret;exact⟨qH (by simp[aL.apart];omega),aS.alloc Xc _⟩
theorem wR(lo hi a b:Xr)(w:Xz):XD prog 228 #[XM #[lo,hi],XM #[a,b]] w fun e w'=>e=XQ (aL.within lo hi a b)/\XC w w w':=by
 by_cases g:a<=lo
 .by_cases d:hi<=b
  all_goals go_in;go_wp2;go_ret;exact⟨qH (by simp[aL.within];omega),aS.alloc Xc _⟩
 .go_in
  go_wp2;go_ret;exact⟨qH (by simp[aL.within];omega),aS.alloc Xc _⟩
theorem Vk(w:Xz):XD prog 201 #[XH Z] w fun e w'=>e=XQ (V Y 0)/\w'=w:=by
 go_in;go_wp2;go_ret;exact⟨rfl,rfl⟩
theorem VP(b:Xq)(x:Xr)(w:Xz)(d:w.cell? (b,1)=U ↑x):XD prog 201 #[b] w fun e w'=>e=XQ x/\w'=w:=by
 go_in;go_wp2;go_ret;exact⟨rfl,rfl⟩
theorem yJ{t:aL.T}(w:Xz)(h:eC w t u F):XD prog 201 #[u] w fun e w'=>e=XQ (V Y (aL.top t))/\w'=w:=by
 cases t with
 |nil=>let⟨h1,_⟩:=h;cases h1;exact Vk w
 |node a l r=>let⟨b,pl,pr,Fl,Fr,hp,c0,c1,_⟩:=h;cases hp;exact VP b _ w c1
theorem Vf(w:Xz):XD prog 203 #[XH Z] w fun e w'=>e=XQ (V Y 0)/\w'=w:=by
 go_in;go_wp2;go_ret;exact⟨rfl,rfl⟩
theorem VN(b:Xq)(x:Xr)(w:Xz)(d:w.cell? (b,2)=U ↑x):XD prog 203 #[b] w fun e w'=>e=XQ x/\w'=w:=by
 go_in;go_wp2;go_ret;exact⟨rfl,rfl⟩
theorem yI{t:aL.T}(w:Xz)(h:eC w t u F):XD prog 203 #[u] w fun e w'=>e=XQ (V Y (aL.bot t))/\w'=w:=by
 cases t with
 |nil=>let⟨h1,_⟩:=h;cases h1;exact Vf w
 |node a l r=>let⟨b,pl,pr,Fl,Fr,hp,c0,c1,c2,_⟩:=h;cases hp;exact VN b _ w c2
theorem WE(w:Xz):XD prog 230 #[XH Z] w fun e w'=>e=XQ Xy/\w'=w:=by
 go_in;go_wp2;go_ret;exact⟨rfl,rfl⟩
def uI(pl pr:Xo XE):Xp:=pl.isNone && pr.isNone
theorem FY(b:Xq)(pl pr:Xo XE)(w:Xz)(g:w.cell? (b,3)=U ↑pl)(d:w.cell? (b,4)=U ↑pr):XD prog 230 #[b] w fun e w'=>e=XQ (uI pl pr)/\w'=w:=by
 cases pl with
 |none =>
  cases pr with
  |none =>go_in;go_wp2;go_ret;exact⟨rfl,rfl⟩
  |some q =>go_in;go_wp2;go_ret;exact⟨rfl,rfl⟩
 |some q =>go_in;go_wp2;go_ret;exact⟨rfl,rfl⟩
theorem eC.isNone{t:aL.T}(h:eC w t u F):u.isNone=aL.isNil t:=by
 cases t with
 |nil=>let⟨h1,_⟩:=h;cases h1;rfl
 |node a l r=>let⟨b,pl,pr,Fl,Fr,hp,_⟩:=h;cases hp;rfl
theorem Bq(lo hi:Xr)(w:Xz)(h:0<=lo)(g:lo<=hi)(d:hi<=2000000):XD prog 229 #[XM #[lo,hi]] w fun e w'=>e=XQ (XL #[XM #[lo,V Y (aL.bA lo hi)],XM #[V Y (aL.bA lo hi),hi]])/\XC w w w':=by
 go_in;go_wp2;go_region;all_goals go_wp2;refine bodyPost_ret (v:=XL #[XM #[lo,V Y (aL.bA lo hi)],XM #[V Y (aL.bA lo hi),hi]]) (by simp[results,results229,go_sem,aL.bA]) rfl ⟨rfl,?_⟩;exact ((aS.alloc Xc _).alloc Xh _).drew
theorem eo.off{l r:aL.T}(h:eo w b c l r pl pr Fl Fr)(k:aH G w w')(d:b ∉ G)(i:∀ x∈Fl,x ∉ G)(g:∀ x∈Fr,x ∉ G):eo w' b c l r pl pr Fl Fr :=⟨k.cell d h.c0,h.c1.imp (fun _=>k.cell d),h.c2.imp (fun _=>k.cell d),k.cell d h.c3,k.cell d h.c4,fun o=>(k.frozen d (XV _ _ h.c0)).trans (h.fz o),h.l.off k i,h.r.off k g,h.nd⟩
theorem eo.drew{l r:aL.T}(h:eo w b c l r pl pr Fl Fr):eo w.drew b c l r pl pr Fl Fr :=h.off (G:=[]) (aH.refl _ _).drew Xc Xc Xc
theorem eo.out{l r:aL.T}(h:eo w b c l r pl pr Fl Fr):(∀ x∈Fl,x ∉ [b])/\(∀ x∈Fr,x ∉ [b]):=by have d:=h.nd;rw[Ya] at d;refine⟨fun x g=>?_,fun x g=>?_⟩ <;> (simp;rintro rfl;exact d.1 (by simp[g]))
theorem eo.pY{l r:aL.T}(h:eo w b c l r pl pr Fl Fr)(x:Xr):eo (w.setCell (b,1) x) b c l r pl pr Fl Fr:=by let⟨x1,h1⟩:=h.c1;exact⟨(bC Xc).trans h.c0,⟨x,Yb _ _ _ h1⟩,h.c2.imp (fun _ e=>(bC Xc).trans e),(bC Xc).trans h.c3,(bC Xc).trans h.c4,fun o=>(zF ..).trans (h.fz o),h.l.off (aH.bM ..) h.out.1,h.r.off (aH.bM ..) h.out.2,h.nd⟩
theorem eo.pX{l r:aL.T}(h:eo w b c l r pl pr Fl Fr)(x:Xr):eo (w.setCell (b,2) x) b c l r pl pr Fl Fr:=by let⟨x1,h1⟩:=h.c2;exact⟨(bC Xc).trans h.c0,h.c1.imp (fun _ e=>(bC Xc).trans e),⟨x,Yb _ _ _ h1⟩,(bC Xc).trans h.c3,(bC Xc).trans h.c4,fun o=>(zF ..).trans (h.fz o),h.l.off (aH.bM ..) h.out.1,h.r.off (aH.bM ..) h.out.2,h.nd⟩
theorem eo.done{l r:aL.T}(h:eo w b c l r pl pr Fl Fr)(d:w.cell? (b,1)=U (V Y (c+max (aL.top l) (aL.top r)))):eC (w.setCell (b,2) (V Y (c+min (aL.bot l) (aL.bot r)))) (.node c l r) b (b :: (Fl++Fr)):=by
 have k:=h.pX (c+min (aL.bot l) (aL.bot r));let⟨x2,h2⟩:=h.c2;exact⟨b,pl,pr,Fl,Fr,rfl,k.c0,(bC Xc).trans d,Yb _ _ _ h2,k.c3,k.c4,k.fz,k.l,k.r,rfl,h.nd⟩
theorem b4E(w:Xz)(b:Xq)(l r:aL.T)(pl pr:Xo XE)(Fl Fr:J Xq)(h:eo w b 0 l r pl pr Fl Fr)(g:aL.isNil l=Xy)(d:aL.isNil r=Xy):XD prog 247 #[b] w fun e w'=>e=XQ (XH Z)/\w'=w:=by
 have j:=h.c0;have i:uI pl pr=Xy:=by rw[uI,h.l.isNone,h.r.isNone,g,d];rfl
 go_in;go_wp2_with (go_at_call 230;refine aY (FY _ pl pr _ h.c3 h.c4) ?_);go_ret;exact⟨rfl,rfl⟩
theorem tK{l r:aL.T}(h:eo w b c l r pl pr Fl Fr):w.cell? (b,0)=U ↑c/\w.cell? (b,3)=U ↑pl/\w.cell? (b,4)=U ↑pr/\eo w b c l r pl pr Fl Fr:=⟨h.c0,h.c3,h.c4,h⟩
theorem b2M(w:Xz)(b:Xq)(c:Xr)(l r:aL.T)(pl pr:Xo XE)(Fl Fr:J Xq)(h:eo w b c l r pl pr Fl Fr)(D:¬ (c=0/\aL.isNil l=Xy/\aL.isNil r=Xy))
  (W:-1000000<=c/\c<=1000000) (E:LB l) (C:LB r):
  XD prog 247 #[b] w fun e w'=>e=XQ b/\eC w' (.node c l r) b (b :: (Fl++Fr))/\aH [b] w w':=by
 have c0:=h.c0;obtain⟨S,R⟩:=W;have t1:=E.top;have t2:=C.top;have t3:=E.bot;have t4:=C.bot;have A:c=0->uI pl pr=Xx:=by
  rw[uI,h.l.isNone,h.r.isNone]
  cases hx:aL.isNil l <;> cases hy:aL.isNil r <;> simp_all
 have f1:=h.fz 1;have H:=h.fz 2;obtain⟨x1,c1⟩:=h.c1;obtain⟨B,L⟩:=h.c2;have K:Y.wrap (c+if aL.top l<aL.top r then aL.top r else aL.top l)=c+max (aL.top l) (aL.top r):=by rw[DE];exact dJ O O
 have I:Y.wrap (c+if aL.bot r<aL.bot l then aL.bot r else aL.bot l)=c+min (aL.bot l) (aL.bot r):=by rw[Tc];exact dJ O O
 have Q:=aB K;have P:=aB I;have q:eo ((w.setCell (b,1) (V Y (c+max (aL.top l) (aL.top r)))).drew) b c l r pl pr Fl Fr:=(h.pY _).drew;have m:((w.setCell (b,1) (V Y (c+max (aL.top l) (aL.top r)))).drew).cell? (b,1)=U (V Y (c+max (aL.top l) (aL.top r))):=zm _ _ _ c1;have k:aH [b] w ((w.setCell (b,1) (V Y (c+max (aL.top l) (aL.top r)))).drew):=(aH.bM b w _ _).drew;have y:=aB (Yc q (Yc m k));clear K I q m k;by_cases j:c=0
 .have e2:=A j;have z:(c==0)=Xy:=by simp[j]
  clear D A j;go_in;go_wp2_with (go_at_call 230;refine aY (FY _ pl pr _ h.c3 h.c4) ?_);go_region_held3 (fun w'=>w'.cell? (b,0)=U ↑c/\w'.cell? (b,3)=U ↑pl/\w'.cell? (b,4)=U ↑pr/\eo w' b c l r pl pr Fl Fr)
   (first
    |exact tK (eo.drew h)
    |exact tK (eo.drew (eo.pY h _)))
   (first
    |(go_at_call_of 201 (XH pl);go_split_ands;refine aY (yJ _ (eo.l Xe)) ?_)
    |(go_at_call_of 201 (XH pr);go_split_ands;refine aY (yJ _ (eo.r Xe)) ?_))
  rw[Q.out,vV];obtain⟨d,x,i⟩:=y.out;clear y;generalize (Yd _ ⟨b,1,Z⟩ (V Y (c+max (aL.top l) (aL.top r)))).drew=X at d x i ⊢;have H:=d.fz 2;obtain⟨B,L⟩:=d.c2;go_wp21;go_region_held3 (fun w'=>w'.cell? (b,0)=U ↑c/\w'.cell? (b,3)=U ↑pl/\w'.cell? (b,4)=U ↑pr/\eo w' b c l r pl pr Fl Fr)
   (first
    |exact tK (eo.drew d)
    |exact tK (eo.drew (eo.pX d _)))
   (first
    |(go_at_call_of 203 (XH pl);go_split_ands;refine aY (yI _ (eo.l Xe)) ?_)
    |(go_at_call_of 203 (XH pr);go_split_ands;refine aY (yI _ (eo.r Xe)) ?_))
  rw[P,JF];have t:=d.done x;have g:aH [b] _ (Yd X (b,2) (V Y (c+min (aL.bot l) (aL.bot r)))).drew:=(i.setCell (.inl Xc) _ _).drew;have s:=aB (Yc (t.same (aH.refl _ _).drew) g);clear t g;go_wp21;go_ret;exact⟨rfl,s.out.1,s.out.2⟩
 .have z:(c==0)=Xx:=by simp[j]
  clear D A j;go_in;go_wp21;go_region_held3 (fun w'=>w'.cell? (b,0)=U ↑c/\w'.cell? (b,3)=U ↑pl/\w'.cell? (b,4)=U ↑pr/\eo w' b c l r pl pr Fl Fr)
   (first
    |exact tK (eo.drew h)
    |exact tK (eo.drew (eo.pY h _)))
   (first
    |(go_at_call_of 201 (XH pl);go_split_ands;refine aY (yJ _ (eo.l Xe)) ?_)
    |(go_at_call_of 201 (XH pr);go_split_ands;refine aY (yJ _ (eo.r Xe)) ?_))
  rw[Q.out,vV];obtain⟨d,x,i⟩:=y.out;clear y;generalize (Yd _ ⟨b,1,Z⟩ (V Y (c+max (aL.top l) (aL.top r)))).drew=X at d x i ⊢;have H:=d.fz 2;obtain⟨B,L⟩:=d.c2;go_wp21;go_region_held3 (fun w'=>w'.cell? (b,0)=U ↑c/\w'.cell? (b,3)=U ↑pl/\w'.cell? (b,4)=U ↑pr/\eo w' b c l r pl pr Fl Fr)
   (first
    |exact tK (eo.drew d)
    |exact tK (eo.drew (eo.pX d _)))
   (first
    |(go_at_call_of 203 (XH pl);go_split_ands;refine aY (yI _ (eo.l Xe)) ?_)
    |(go_at_call_of 203 (XH pr);go_split_ands;refine aY (yI _ (eo.r Xe)) ?_))
  rw[P,JF];have t:=d.done x;have g:aH [b] _ (Yd X (b,2) (V Y (c+min (aL.bot l) (aL.bot r)))).drew:=(i.setCell (.inl Xc) _ _).drew;have s:=aB (Yc (t.same (aH.refl _ _).drew) g);clear t g;go_wp21;go_ret;exact⟨rfl,s.out.1,s.out.2⟩
structure SZ(w w1:Xz)(lo hi a b:Xr):Prop where
 q0:w1.cell? (w,0)=U ↑lo
 q1:w1.cell? (w,1)=U ↑hi
 q2:w1.cell? (w.heap.size+1,0)=U ↑a
 q3:w1.cell? (w.heap.size+1,1)=U ↑b
 sz:w+1<w1.heap.size
 bw:XC w w w1
theorem boxes{b:Xr}(h:XC ((w.alloc (XR #[lo,hi] 83)).alloc (XR #[a,b] 83)).heap.size ((w.alloc (XR #[lo,hi] 83)).alloc (XR #[a,b] 83)) w1):SZ w w1 lo hi a b:=by have e:((w.alloc (XR #[lo,hi] 83)).alloc (XR #[a,b] 83)).heap.size=w.heap.size+2:=Xc;refine⟨(h.cell (p:=(w,0)) ?_).trans ?_,(h.cell (p:=(w,1)) ?_).trans ?_,(h.cell (p:=(w.heap.size+1,0)) ?_).trans ?_,(h.cell (p:=(w.heap.size+1,1)) ?_).trans ?_,?_,?_⟩;rw[e];show w.heap.size<_;omega;simp;rw[e];show w.heap.size<_;omega;simp;rw[e];show w.heap.size+1<_;omega;simp;rw[e];show w.heap.size+1<_;omega;simp;have:=h.size;omega;exact (aS.alloc Xc _).trans (h.mono O)
def tH(w:Xz)(F:J Xq)(d:aL.T)(e:Ending)(w':Xz):Prop :=∃ (u:Xo XE) (F':J Xq),e=XQ u/\eC w' d u F'/\(∀ k∈F',k∈F\/w<=k)/\aH F w w'
theorem Lh(t:aL.T)(u:Xo XE)(F:J Xq)(lo hi a b x:Xr)(n:Xq)(w:Xz)(h:eC w t u F)(d:aL.apart lo hi a b=Xy):XD prog 231 #[u,XM #[lo,hi],XM #[a,b],x] w (tH w F (aL.iQ n t lo hi a b x)):=by
 have e:aL.iQ n t lo hi a b x=t:=by unfold aL.iQ;rw[Xt d]
 rw[e];go_in;go_wp21;refine aK (pT _ _ _ _ _) fun w1 j=>?_;rw[d];have l:=(aS.alloc Xc _).trans (j.mono Xh);have g:=aB l;go_wp21;go_ret;exact⟨u,F,rfl,h.same (aH.aD g),fun k i=>.inl i,aH.aD g⟩
theorem Km(w:Xz)(c:Xr):eo (w.alloc (XR #[c,V Y 0,V Y 0,XH Z,XH Z] 320)) w c .nil .nil Z Z [] [] :=⟨by simp,⟨0,by simp⟩,⟨0,by simp⟩,by simp,by simp,fun o=>World.frozen?_alloc_new w _ _ o,⟨rfl,rfl⟩,⟨rfl,rfl⟩,by simp⟩
theorem yD{l r:aL.T}(h:eC w (.node c l r) u F):∃ (b:Xq)(pl pr:Xo XE)(Fl Fr:J Xq),u=U ⟨b,0,Z⟩/\F=b :: (Fl++Fr)/\eo w b c l r pl pr Fl Fr:=by
 let⟨b,pl,pr,Fl,Fr,hp,c0,c1,c2,c3,c4,fz,hl,hr,hF,nd⟩:=h
 cases hp;exact⟨b,pl,pr,Fl,Fr,rfl,hF,c0,⟨_,c1⟩,⟨_,c2⟩,c3,c4,fz,hl,hr,hF ▸ nd⟩
theorem Bp(w:Xz)(b:Xq)(c:Xr)(l r:aL.T)(pl pr:Xo XE)(Fl Fr:J Xq)(h:eo w b c l r pl pr Fl Fr)(s:LB (aL.mk c l r)):XD prog 247 #[b] w fun e w'=>∃ (u:Xo XE) (F':J Xq),e=XQ u/\eC w' (aL.mk c l r) u F'/\(∀ k∈F',k∈b :: (Fl++Fr))/\aH [b] w w':=by
 let⟨b1,b2,b3⟩:=s.mk;by_cases d:c=0/\aL.isNil l=Xy/\aL.isNil r=Xy
 .have e:aL.mk c l r=.nil:=by unfold aL.mk;rw[Xt d]
  rw[e];obtain⟨rfl,i,g⟩:=d;refine aY (b4E w b l r pl pr Fl Fr h i g) ?_;exact⟨Z,[],rfl,⟨rfl,rfl⟩,by simp,aH.refl _ _⟩
 .have e:aL.mk c l r=.node c l r:=by unfold aL.mk;rw[Xs d]
  rw[e];refine aK (b2M w b c l r pl pr Fl Fr h d b1 b2 b3) ?_;rintro w' ⟨m,j⟩;exact⟨_,_,rfl,m,fun _ q=>q,j⟩
theorem eo.bM{l r:aL.T}(h:eo w b c l r pl pr Fl Fr)(x:Xr):eo (w.setCell (b,0) x) b x l r pl pr Fl Fr :=⟨zm _ _ _ h.c0,h.c1.imp (fun _ e=>(bC Xc).trans e),h.c2.imp (fun _ e=>(bC Xc).trans e),(bC Xc).trans h.c3,(bC Xc).trans h.c4,fun o=>(zF ..).trans (h.fz o),h.l.off (aH.bM ..) h.out.1,h.r.off (aH.bM ..) h.out.2,h.nd⟩
theorem A2{d:aL.T}(m:aH F w w1)(h:∀ k∈G,k∈F\/w<=k)(r:b∈G)(l:eC w2 d u F')(j:∀ k∈F',k∈G)(i:aH [b] w1 w2):tH w F d (XQ u) w2 :=⟨u,F',rfl,l,fun k g=>h k (j k g),m.trans' i (fun x q=>by grind)⟩
theorem LM(t:aL.T)(u:Xo XE)(F:J Xq)(lo hi a b x:Xr)(n:Xq)(w:Xz)(h:eC w t u F)(C:aL.apart lo hi a b=Xx)(A:aL.within lo hi a b=Xy)
  (L:-1000000<=x) (K:x<=1000000) (E:LB t) (g:LB (aL.iQ n t lo hi a b x)):
  XD prog 231 #[u,XM #[lo,hi],XM #[a,b],x] w (tH w F (aL.iQ n t lo hi a b x)):=by
 have e:aL.iQ n t lo hi a b x=aL.mk (aL.val t+x) (aL.fst t) (aL.snd t):=by unfold aL.iQ;rw[Xs (by simp[C]),Xt A]
 rw[e] at g ⊢;have I:=E.val
 cases t with
 |nil =>
  obtain⟨P,rfl⟩:=h
  cases P;simp only[aL.val,aL.fst,aL.snd,Ye] at g I ⊢;go_in;go_wp21;refine aK (pT _ _ _ _ _) fun w1 d=>?_;rw[C];have m:=boxes d;have ⟨q0,q1,q2,q3,hs,hB⟩:=m;have q:=aB hB;have B:w<w1.heap.size:=O;clear hB d m;go_wp21;refine aK (wR _ _ _ _ _) fun w2 d=>?_;rw[A];have i:=(Km w1 0).off (G:=[]) (aH.aD d) Xc Xc Xc;have D:aH [] w w2:=(((aH.aD q).alloc _).trans (aH.aD d));have hz:w<=w1.heap.size:=O;have j:∀ k∈w1.heap.size :: ([]++[]),k∈([]:J Xq)\/w<=k:=by simp;omega
  have W:=i.c0;have S:=i.fz 0;go_wp21;refine (Bp _ _ _ _ _ _ _ _ _ (i.bM _) g).mono ?_;rintro e w3 ⟨u3,F3,rfl,z,y,s⟩;have H:=aB (A2 (D.setCell (j _ Xc) _ _) j Xc z y s);go_wp21;go_ret;exact H
 |node c l r =>obtain⟨bk,pl,pr,Fl,Fr,rfl,rfl,R⟩:=yD h;simp only[aL.val,aL.fst,aL.snd] at g I ⊢;go_in;go_wp21;refine aK (pT _ _ _ _ _) fun w1 d=>?_;rw[C];have m:=boxes d;have ⟨q0,q1,q2,q3,hs,hB⟩:=m;have q:=aB hB;have B:w<w1.heap.size:=O;clear hB d m;go_wp21;refine aK (wR _ _ _ _ _) fun w2 d=>?_;rw[A];have i:=R.off (G:=[]) ((aH.aD q).trans (aH.aD d)) Xc Xc Xc;have D:aH (bk :: (Fl++Fr)) w w2:=(aH.aD q).trans (aH.aD d);have j:∀ k∈bk :: (Fl++Fr),k∈bk :: (Fl++Fr)\/w<=k:=fun _ Q=>.inl Q;have W:=i.c0;have S:=i.fz 0;go_wp21;refine (Bp _ _ _ _ _ _ _ _ _ (i.bM _) g).mono ?_;rintro e w3 ⟨u3,F3,rfl,z,y,s⟩;have H:=aB (A2 (D.setCell (j _ Xc) _ _) j Xc z y s);go_wp21;go_ret;exact H
theorem eo.lt{l r:aL.T}(h:eo w b c l r pl pr Fl Fr):∀ k∈b :: (Fl++Fr),k<w:=by
 intro k d;rcases X7.1 d with rfl|d
 .exact XV _ _ h.c0
 .rcases X8.1 d with d|d
  .exact h.l.lt k d
  .exact h.r.lt k d
theorem eo.kD{l r:aL.T}(h:eo w b c l r pl pr Fl Fr):b ∉ Fl/\b ∉ Fr/\(∀ x∈Fr,x ∉ Fl)/\Fl.Nodup/\Fr.Nodup:=by have d:=h.nd;rw[Ya,Yf] at d;let⟨n1,n2,n3,n4⟩:=d;exact⟨fun e=>n1 (by simp[e]),fun e=>n1 (by simp[e]),fun x i g=>n4 x g x i rfl,n2,n3⟩
theorem eo.mI{l r q:aL.T}(h:eo X b c l r pl pr Fl Fr)(t:eC w4 q u F')(s:∀ k∈F',k∈Fl\/X<=k)(d:aH Fl X w4):eo (w4.setCell (b,3) u) b c q r u pr F' Fr:=by
 let⟨n1,n2,n3,n4,n5⟩:=h.kD;have g:=h.lt;have C:b ∉ F':=fun e=>by rcases s b e with j|j;exact n1 j;have:=g b Xc;omega
 have B:∀ x∈Fr,x ∉ F':=fun x i e=>by rcases s x e with j|j;exact n3 x i j;have:=g x (by simp[i]);omega
 have z:=aH.bM b w4 3 u;have m:=h.r.off d n3;exact⟨(bC Xc).trans (d.cell n1 h.c0),h.c1.imp (fun _ e=>(bC Xc).trans (d.cell n1 e)),h.c2.imp (fun _ e=>(bC Xc).trans (d.cell n1 e)),Yb _ _ _ (d.cell n1 h.c3),(bC Xc).trans (d.cell n1 h.c4),
  fun o=>(zF ..).trans ((d.frozen n1 (g b Xc)).trans (h.fz o)),t.off z (fun x i=>by grind),m.off z (fun x i=>by grind),
  Ya.2 ⟨by grind,Yf.2 ⟨t.nodup,n5,fun x i y A e=>B y A (e ▸ i)⟩⟩⟩
theorem eo.lA{l r q:aL.T}(h:eo X b c l r pl pr Fl Fr)(t:eC w4 q u F')(s:∀ k∈F',k∈Fr\/X<=k)(g:aH Fr X w4):eo (w4.setCell (b,4) u) b c l q pl u Fl F':=by
 let⟨n1,n2,n3,n4,n5⟩:=h.kD;have i:=h.lt;have C:b ∉ F':=fun e=>by rcases s b e with j|j;exact n2 j;have:=i b Xc;omega
 have B:∀ x∈Fl,x ∉ F':=fun x d e=>by rcases s x e with j|j;exact n3 x j d;have:=i x (by simp[d]);omega
 have z:=aH.bM b w4 4 u;have m:=h.l.off g (fun x d e=>n3 x e d);exact⟨(bC Xc).trans (g.cell n2 h.c0),h.c1.imp (fun _ e=>(bC Xc).trans (g.cell n2 e)),h.c2.imp (fun _ e=>(bC Xc).trans (g.cell n2 e)),(bC Xc).trans (g.cell n2 h.c3),Yb _ _ _ (g.cell n2 h.c4),
  fun o=>(zF ..).trans ((g.frozen n2 (i b Xc)).trans (h.fz o)),m.off z (fun x d=>by grind),t.off z (fun x d=>by grind),
  Ya.2 ⟨by grind,Yf.2 ⟨n4,t.nodup,fun x d y A e=>B x d (e ▸ A)⟩⟩⟩
structure pR(w X:Xz)(F:J Xq)(bk M:Xq)(c lo hi a b:Xr)(l r:aL.T)(pl pr:Xo XE)(Fl Fr:J Xq):Prop where
 half:eo X bk c l r pl pr Fl Fr
 off:aH F w X
 own:∀ k∈bk :: (Fl++Fr),k∈F\/w<=k
 a0:X.cell? (w.heap.size+1,0)=U ↑a
 a1:X.cell? (w.heap.size+1,1)=U ↑b
 m0:X.cell? (M,0)=U ↑lo
 m1:X.cell? (M,1)=U (V Y (aL.bA lo hi))
 n0:X.cell? (M+1,0)=U (V Y (aL.bA lo hi))
 n1:X.cell? (M+1,1)=U ↑hi
 out:w.heap.size+1 ∉ bk :: (Fl++Fr)/\M ∉ bk :: (Fl++Fr)/\M+1 ∉ bk :: (Fl++Fr)
def JD(n:Xq):Prop:=∀ (t:aL.T)(u:Xo XE)(F:J Xq)(lo hi a b x:Xr)(w:Xz),eC w t u F->0<=lo->lo<hi->hi<=2000000->hi-lo<=2 ^ n->a<b->-1000000<=x->x<=1000000->LB t->LB (aL.iQ n t lo hi a b x) ->XD prog 231 #[u,XM #[lo,hi],XM #[a,b],x] w (tH w F (aL.iQ n t lo hi a b x))
theorem pR.drew{b:Xr}{l r:aL.T}(h:pR w X F bk M c lo hi a b l r pl pr Fl Fr):pR w X.drew F bk M c lo hi a b l r pl pr Fl Fr :=⟨h.half.drew,h.off.drew,h.own,h.a0,h.a1,h.m0,h.m1,h.n0,h.n1,h.out⟩
theorem pR.mI{b:Xr}{l r j:aL.T}(h:pR w X F bk M c lo hi a b l r pl pr Fl Fr)(y:eC w4 j u F')(x:∀ k∈F',k∈Fl\/X<=k)(m:aH Fl X w4):pR w (w4.setCell (bk,3) u) F bk M c lo hi a b j r u pr F' Fr:=by
 let⟨o1,o2,o3⟩:=h.out;have t:=XV _ _ h.a0;have s:=XV _ _ h.m0;have q:=XV _ _ h.n0;have z:=h.off.size;have i:aH (bk :: (Fl++Fr)) X (w4.setCell (bk,3) u):=(m.mono Xi).setCell (.inl Xc) _ _;have g:∀ k∈bk :: (F'++Fr),k∈bk :: (Fl++Fr)\/X<=k:=Xi;have B:=h.half.mI y x m;refine⟨B,h.off.trans' i h.own,fun k A=>?_,i.cell o1 h.a0,i.cell o1 h.a1,i.cell o2 h.m0,i.cell o2 h.m1,i.cell o3 h.n0,i.cell o3 h.n1,?_,?_,?_⟩
 .rcases g k A with d|d
  .exact h.own k d
  .exact .inr O
 .intro e;rcases g _ e with d|d
  .exact o1 d
  .simp at t;omega
 .intro e;rcases g _ e with d|d
  .exact o2 d
  .simp at s;omega
 .intro e;rcases g _ e with d|d
  .exact o3 d
  .simp at q;omega
theorem pR.lA{b:Xr}{l r g:aL.T}(h:pR w X F bk M c lo hi a b l r pl pr Fl Fr)(s:eC w4 g u F')(j:∀ k∈F',k∈Fr\/X<=k)(i:aH Fr X w4):eo (w4.setCell (bk,4) u) bk c l g pl u Fl F'/\aH F w (w4.setCell (bk,4) u)/\∀ k∈bk :: (Fl++F'),k∈F\/w<=k:=by
 have t:=h.off.size;have q:aH (bk :: (Fl++Fr)) X (w4.setCell (bk,4) u):=(i.mono Xi).setCell (.inl Xc) _ _;refine⟨h.half.lA s j i,h.off.trans' q h.own,fun k d=>?_⟩;rcases X7.1 d with rfl|d
 .exact h.own k Xc
 .rcases X8.1 d with d|d
  .exact h.own k (by simp[d])
  .rcases j k d with m|m
   .exact h.own k (by simp[m])
   .exact .inr O
theorem Mw{w3:Xz}{b:Xr}{l r:aL.T}(i:eo w2 bk c l r pl pr Fl Fr)(s:aH F w w2)(t:∀ k∈bk :: (Fl++Fr),k∈F\/w<=k)(m:w2.cell? (w.heap.size+1,0)=U ↑a)(j:w2.cell? (w.heap.size+1,1)=U ↑b)(g:w.heap.size+1 ∉ bk :: (Fl++Fr))(h:XC w2 w2 w3):pR w ((w3.alloc (XR #[lo,V Y (aL.bA lo hi)] 83)).alloc (XR #[V Y (aL.bA lo hi),hi] 83)) F bk w3 c lo hi a b l r pl pr Fl Fr:=by
 have k:aH [] w2 ((w3.alloc (XR #[lo,V Y (aL.bA lo hi)] 83)).alloc (XR #[V Y (aL.bA lo hi),hi] 83)):=((aH.aD h).alloc _).alloc _;have d:=i.lt;have q:=h.size;refine⟨i.off k Xc Xc Xc,s.trans' k Xc,t,k.cell Xc m,k.cell Xc j,by simp,by simp,by simp,by simp,g,fun e=>?_,fun e=>?_⟩
 .have:=d _ e;omega
 .have:=d _ e;omega
theorem VM(n:Xq)(ih:Hid (JD n))(t:aL.T)(u:Xo XE)(F:J Xq)(lo hi a b x:Xr)(w:Xz)(h:eC w t u F)(hp:aL.apart lo hi a b=Xx)(hw:aL.within lo hi a b=Xx)
  (h0:0<=lo) (h1:lo<hi) (h2:hi<=2000000) (h3:hi-lo<=2 ^ (n+1)) (h4:a<b)
  (ab:-1000000<=x) (aa:x<=1000000) (H:LB t) (z:LB (aL.iQ (n+1) t lo hi a b x)):
  XD prog 231 #[u,XM #[lo,hi],XM #[a,b],x] w (tH w F (aL.iQ (n+1) t lo hi a b x)):=by
 have e:aL.iQ (n+1) t lo hi a b x=aL.mk (aL.val t) (aL.iQ n (aL.fst t) lo (aL.bA lo hi) a b x) (aL.iQ n (aL.snd t) (aL.bA lo hi) hi a b x):=by rw[aL.iQ];rw[Xs (by simp[hp]),Xs (by simp[hw])]
 rw[e] at z ⊢;obtain⟨_,ae,ad⟩:=z.mk;have hl:=H.fst;have hr:=H.snd;have g1:=aL.oI.1 hp;have g2:=aL.ze.1 hw;have hm:lo<aL.bA lo hi/\aL.bA lo hi<hi:=by unfold aL.bA;omega
 have E:=aL.EK h3;have S:Hid (∀ (w:Xz) (u:Xo XE) (F:J Xq),eC w (aL.fst t) u F->XD prog 231 #[u,XM #[lo,V Y (aL.bA lo hi)],XM #[a,b],x] w (tH w F (aL.iQ n (aL.fst t) lo (aL.bA lo hi) a b x))) :=fun w u F k=>ih.out _ _ _ _ _ _ _ _ _ k h0 hm.1 O E.1 h4 ab aa hl ae
 have R:Hid (∀ (w:Xz) (u:Xo XE) (F:J Xq),eC w (aL.snd t) u F->XD prog 231 #[u,XM #[V Y (aL.bA lo hi),hi],XM #[a,b],x] w (tH w F (aL.iQ n (aL.snd t) (aL.bA lo hi) hi a b x))) :=fun w u F k=>ih.out _ _ _ _ _ _ _ _ _ k O hm.2 h2 E.2 h4 ab aa hr ad
 have A:=aB z;clear e ae ad hl hr g1 g2 hm E h3 ih H z;generalize aL.iQ n (aL.fst t) lo (aL.bA lo hi) a b x=tl at *;generalize aL.iQ n (aL.snd t) (aL.bA lo hi) hi a b x=tr at *
 cases t with
 |nil =>
  obtain⟨hu,rfl⟩:=h
  cases hu;simp only[aL.val,aL.fst,aL.snd] at A S R ⊢;go_in;go_wp21;refine aK (pT _ _ _ _ _) fun w1 g=>?_;rw[hp];have bx:=boxes g;have ⟨q0,q1,q2,q3,hs,hB⟩:=bx;have W:=aB hB;have D:w<w1.heap.size:=O;clear hB g bx;go_wp21;refine aK (wR _ _ _ _ _) fun w2 g=>?_;rw[hw];obtain⟨bk,ac⟩:∃ bk,bk=w1.heap.size:=⟨_,rfl⟩;have Q:=(Km w1 0).off (G:=[]) (aH.aD g) Xc Xc Xc;have hO:aH [] w w2:=(((aH.aD W.out).alloc _).trans (aH.aD g));have hG:∀ k∈bk :: ([]++[]),k∈([]:J Xq)\/w.heap.size<=k:=by simp;omega
  have s:w.heap.size+1 ∉ bk :: ([]++[]):=by simp;omega
  have m:=((aH.refl [] w1).alloc _).trans (aH.aD g);have r0:=m.cell Xc q0;have r1:=m.cell Xc q1;have r2:=m.cell Xc q2;have r3:=m.cell Xc q3;have C:=zL hs m.size;rw[<- ac] at Q ⊢;clear g q0 q1 q2 q3 hs D W m ac;go_wp21;refine aK (Bq _ _ _ O O O) fun w3 g=>?_;have d:pR w _ _ _ _ 0 lo hi a b _ _ _ _ _ _:=Mw (w3:=w3) Q hO hG r2 r3 s g;clear g Q hO hG r0 r1 r2 r3 s C;go_upto_region 8 with fail;generalize (Yg _ (XR #[V Y (aL.bA lo hi),hi] 83))=X at d ⊢;generalize w3=M at d ⊢;go_cut [43] from 35 to 45 (fun _ wx=>∃ (u4:Xo XE) (y:J Xq),pR w wx ([]:J Xq) bk M 0 lo hi a b tl .nil u4 Z y [])
  .have P:=d.half.c3;have K:=d.half.fz 3;have a0:=d.a0;have a1:=d.a1;have m0:=d.m0;have m1:=d.m1
   go_region_with (first
    |(go_at_call 231;refine (S _ _ _ d.half.drew.l).mono ?_;rintro e w4 ⟨u4,y,rfl,m,q,j⟩;have L:=j.cell d.half.kD.1 P;have I:=(j.frozen (o:=3) d.half.kD.1 (d.half.lt _ Xc)).trans K))
   all_goals go_wp21;go_meet;exact⟨_,_,d.drew.mI m q j⟩
  .obtain⟨u4,y,i⟩:=hcut;clear d
   go_upto_region 9 with fail;go_cut [54] from 46 to 56 (fun _ wx=>∃ (u5:Xo XE) (B:J Xq),eo wx bk 0 tl tr u4 u5 y B/\aH ([]:J Xq) w wx/\∀ k∈bk :: (y++B),k∈([]:J Xq)\/w.heap.size<=k)
   .have P:=i.half.c4;have K:=i.half.fz 4;have a0:=i.a0;have a1:=i.a1;have m0:=i.n0;have m1:=i.n1
    go_region_with (first
     |(go_at_call 231;refine (R _ _ _ i.half.drew.r).mono ?_;rintro e w5 ⟨u5,B,rfl,m,q,j⟩;have L:=j.cell i.half.kD.2.1 P;have I:=(j.frozen (o:=4) i.half.kD.2.1 (i.half.lt _ Xc)).trans K))
    all_goals go_wp21;go_meet;exact⟨_,_,i.drew.lA m q j⟩
   .obtain⟨u5,B,m,q,j⟩:=hcut;clear i S R
    go_wp21;refine (Bp _ _ _ _ _ _ _ _ _ m A).mono ?_;rintro e w6 ⟨u6,F6,rfl,n1,n2,n3⟩;have HK:=aB (A2 q j Xc n1 n2 n3);clear m q j n1 n2 n3;go_wp21;go_ret;exact HK
 |node c l r =>
  obtain⟨bk,pl,pr,Fl,Fr,rfl,rfl,E⟩:=yD h;simp only[aL.val,aL.fst,aL.snd] at A S R ⊢;go_in;go_wp21;refine aK (pT _ _ _ _ _) fun w1 g=>?_;rw[hp];have bx:=boxes g;have ⟨q0,q1,q2,q3,hs,hB⟩:=bx;have W:=aB hB;have D:w<w1.heap.size:=O;clear hB g bx;go_wp21;refine aK (wR _ _ _ _ _) fun w2 g=>?_;rw[hw];have Q:=E.off (G:=[]) ((aH.aD W).trans (aH.aD g)) Xc Xc Xc;have hO:aH (bk :: (Fl++Fr)) w w2:=(aH.aD W).trans (aH.aD g);have hG:∀ k∈bk :: (Fl++Fr),k∈bk :: (Fl++Fr)\/w<=k:=fun _ hk=>.inl hk;have s:w.heap.size+1 ∉ bk :: (Fl++Fr):=fun e=>by have:=E.lt _ e;omega
  have r0:=aT g q0;have r1:=aT g q1;have r2:=aT g q2;have r3:=aT g q3;have C:=zL hs g.size;clear g q0 q1 q2 q3 hs D W h E;go_wp21;refine aK (Bq _ _ _ O O O) fun w3 g=>?_;have d:=Mw (w3:=w3) Q hO hG r2 r3 s g;clear g Q hO hG r0 r1 r2 r3 s C;go_upto_region 8 with fail;generalize (Yg _ (XR #[V Y (aL.bA lo hi),hi] 83))=X at d ⊢;generalize w3=M at d ⊢;go_cut [43] from 35 to 45 (fun _ wx=>∃ (u4:Xo XE) (y:J Xq),pR w wx (bk :: (Fl++Fr)) bk M c lo hi a b tl r u4 pr y Fr)
  .have P:=d.half.c3;have K:=d.half.fz 3;have a0:=d.a0;have a1:=d.a1;have m0:=d.m0;have m1:=d.m1
   go_region_with (first
    |(go_at_call 231;refine (S _ _ _ d.half.drew.l).mono ?_;rintro e w4 ⟨u4,y,rfl,m,q,j⟩;have L:=j.cell d.half.kD.1 P;have I:=(j.frozen (o:=3) d.half.kD.1 (d.half.lt _ Xc)).trans K))
   all_goals go_wp21;go_meet;exact⟨_,_,d.drew.mI m q j⟩
  .obtain⟨u4,y,i⟩:=hcut;clear d
   go_upto_region 9 with fail;go_cut [54] from 46 to 56 (fun _ wx=>∃ (u5:Xo XE) (B:J Xq),eo wx bk c tl tr u4 u5 y B/\aH (bk :: (Fl++Fr)) w wx/\∀ k∈bk :: (y++B),k∈(bk :: (Fl++Fr))\/w<=k)
   .have P:=i.half.c4;have K:=i.half.fz 4;have a0:=i.a0;have a1:=i.a1;have m0:=i.n0;have m1:=i.n1
    go_region_with (first
     |(go_at_call 231;refine (R _ _ _ i.half.drew.r).mono ?_;rintro e w5 ⟨u5,B,rfl,m,q,j⟩;have L:=j.cell i.half.kD.2.1 P;have I:=(j.frozen (o:=4) i.half.kD.2.1 (i.half.lt _ Xc)).trans K))
    all_goals go_wp21;go_meet;exact⟨_,_,i.drew.lA m q j⟩
   .obtain⟨u5,B,m,q,j⟩:=hcut;clear i S R
    go_wp21;refine (Bp _ _ _ _ _ _ _ _ _ m A).mono ?_;rintro e w6 ⟨u6,F6,rfl,n1,n2,n3⟩;have HK:=aB (A2 q j Xc n1 n2 n3);clear m q j n1 n2 n3;go_wp21;go_ret;exact HK
theorem TY:∀ n,JD n:=by
 intro n;induction n with
 |zero =>
  intro t u F lo hi a b x w h z y s m r i d k j;have m:hi-lo<=1:=Xi
  cases l:aL.apart lo hi a b
  .have g:=aL.oI.1 l;exact LM t u F lo hi a b x 0 w h l (aL.wN.2 O) i d k j
  .exact Lh t u F lo hi a b x 0 w h l
 |succ n ih =>
  intro t u F lo hi a b x w h z y s m r i d k j
  cases l:aL.apart lo hi a b
  .cases q:aL.within lo hi a b
   .exact VM n ih t u F lo hi a b x w h l q z y s m r i d k j
   .exact LM t u F lo hi a b x _ w h l q i d k j
  .exact Lh t u F lo hi a b x _ w h l
theorem eC.later{t:aL.T}(h:eC w t p F)(k:XC w w w'):eC w' t p F:=h.same (aH.aD k)
theorem Vo(lo hi a b:Xr)(w:Xz):XD prog 198 #[XH Z,XM #[lo,hi],XM #[a,b]] w fun e w'=>e=XQ (V Y 0)/\XC w w w':=by
 go_in;go_wp21;go_ret;exact⟨rfl,aS.alloc Xc _⟩
def MS(X w':Xz)(bk N M:Xq)(c lo hi a b:Xr)(pl pr:Xo XE):Prop :=w'.cell? (bk,0)=U ↑c/\w'.cell? (bk,3)=U ↑pl/\w'.cell? (bk,4)=U ↑pr/\w'.cell? (N,0)=U ↑a/\w'.cell? (N,1)=U ↑b/\w'.cell? (M,0)=U ↑lo/\w'.cell? (M,1)=U (V Y (aL.bA lo hi))/\w'.cell? (M+1,0)=U (V Y (aL.bA lo hi))/\w'.cell? (M+1,1)=U ↑hi/\XC X X w'
theorem MS.later{b:Xr}(h:MS X w' bk N M c lo hi a b pl pr)(k:XC w' w' w''):MS X w'' bk N M c lo hi a b pl pr:=by let⟨h1,h2,h3,h4,h5,h6,h7,h8,h9,h10⟩:=h;exact⟨aT k h1,aT k h2,aT k h3,aT k h4,aT k h5,aT k h6,aT k h7,aT k h8,aT k h9,bU h10 k aJ⟩
theorem Kt{t:aL.T}{b:Xr}(g:aL.Good t lo hi)(i:LB t)(h:lo<hi)(j:a<b):0<=aL.ie t lo hi a b/\aL.ie t lo hi a b<=100000000:=by
 have:=i.top
 cases d:aL.apart lo hi a b
 .let⟨k0,_,x,k1,k2,_,_,k5⟩:=aL.Ku t lo hi a b h j g d;have:=(aL.yv t lo hi h g).1 x k1 k2;omega
 .rw[aL.Bm d];omega
theorem Vn:∀ (t:aL.T)(u:Xo XE)(F:J Xq)(lo hi a b:Xr)(w:Xz),eC w t u F->LB t->aL.Good t lo hi->0<=lo->lo<hi->hi<=2000000->a<b ->XD prog 198 #[u,XM #[lo,hi],XM #[a,b]] w fun e w'=>e=XQ (V Y (aL.ie t lo hi a b))/\XC w w w':=by
 intro t;induction t with
 |nil =>
  intro u F lo hi a b w h _ _ _ _ _ _;obtain⟨hu,_⟩:=h
  cases hu;exact Vo lo hi a b w
 |node c l r ihl ihr =>
  intro u F lo hi a b w h g A h0 h1 h2 K;obtain⟨bk,pl,pr,Fl,Fr,rfl,rfl,s⟩:=yD h;have E:=aB ihl;have D:=aB ihr;clear ihl ihr;have x:w.cell? (bk,1)=U (V Y (aL.top (.node c l r))):=by obtain⟨b',_,_,_,_,i,_,x,_⟩:=h;cases i;exact x
  clear h
  cases i:aL.apart lo hi a b
  .cases z:aL.within lo hi a b
   .have m:aL.ie (.node c l r) lo hi a b=c+max (aL.ie l lo (aL.bA lo hi) a b) (aL.ie r (aL.bA lo hi) hi a b):=by simp[aL.ie,i,z]
    have g1:=aL.oI.1 i;have g2:=aL.ze.1 z;have I:lo<aL.bA lo hi/\aL.bA lo hi<hi:=by unfold aL.bA;omega
    have bl:=Kt (a:=a) (b:=b) A.2.2.1 g.2.2.2.1 I.1 K;have br:=Kt (a:=a) (b:=b) A.2.2.2 g.2.2.2.2 I.2 K;have hc:=g.1;have I1:Hid (∀ (w:Xz),eC w l pl Fl->XD prog 198 #[pl,XM #[lo,V Y (aL.bA lo hi)],XM #[a,b]] w fun e w'=>e=XQ (V Y (aL.ie l lo (aL.bA lo hi) a b))/\XC w w w') :=fun w k=>E _ _ _ _ _ _ _ k g.2.2.2.1 A.2.2.1 h0 I.1 O K
    have I2:Hid (∀ (w:Xz),eC w r pr Fr->XD prog 198 #[pr,XM #[V Y (aL.bA lo hi),hi],XM #[a,b]] w fun e w'=>e=XQ (V Y (aL.ie r (aL.bA lo hi) hi a b))/\XC w w w') :=fun w k=>D _ _ _ _ _ _ _ k g.2.2.2.2 A.2.2.2 O I.2 h2 K
    rw[m];clear m E D g1 g2 A g x;generalize aL.ie l lo (aL.bA lo hi) a b=ml at *;generalize aL.ie r (aL.bA lo hi) hi a b=mr at *;have c0:=s.c0;have c3:=s.c3;have c4:=s.c4;have RL:=aB s.l;have RR:=aB s.r;clear s;have Q:Y.wrap (c+if ml<mr then mr else ml)=c+max ml mr:=by rw[DE];exact dJ O O
    have E5:=aB Q;clear Q;go_in;go_wp21;refine aK (pT _ _ _ _ _) fun w1 d=>?_;rw[i];have ⟨q0,q1,q2,q3,hs,g⟩:=boxes d;have d0:=aT g c0;have d3:=aT g c3;have d4:=aT g c4;have q:=aB g;clear g d c0 c3 c4;go_wp21;refine aK (wR _ _ _ _ _) fun w2 d=>?_;rw[z];have y:=aB (bU q d aJ);have r0:=aT d q0;have r1:=aT d q1;have P:=aT d q2;have L:=aT d q3;have W:=aT d d0;have S:=aT d d3;have R:=aT d d4;clear q d q0 q1 q2 q3 hs d0 d3 d4;go_wp21;refine aK (Bq _ _ _ O O O) fun w3 d=>?_;have j:XC w2 w2 ((w3.alloc (XR #[lo,V Y (aL.bA lo hi)] 83)).alloc (XR #[V Y (aL.bA lo hi),hi] 83)):=(d.alloc d.size _).alloc (by have:=d.size;simp;omega) _;have C:MS ((w3.alloc (XR #[lo,V Y (aL.bA lo hi)] 83)).alloc (XR #[V Y (aL.bA lo hi),hi] 83)) ((w3.alloc (XR #[lo,V Y (aL.bA lo hi)] 83)).alloc (XR #[V Y (aL.bA lo hi),hi] 83)) bk (w.heap.size+1) w3 c lo hi a b pl pr :=⟨aT j W,aT j S,aT j R,aT j P,aT j L,by simp,by simp,by simp,by simp,Below.refl _ _⟩
    have H:=aB (Yc (bU y j aJ) (Yc (RL.later (bU y j aJ)) (RR.later (bU y j aJ))));clear y RL RR j d r0 r1 P L W S R;go_upto_region 6 with fail;generalize (Yg _ (XR #[V Y (aL.bA lo hi),hi] 83))=X at C H ⊢;generalize w3=M at C ⊢;go_region_held3 (fun w'=>w'.cell? (bk,0)=U ↑c/\w'.cell? (bk,3)=U ↑pl/\w'.cell? (bk,4)=U ↑pr/\w'.cell? (w.heap.size+1,0)=U ↑a/\w'.cell? (w.heap.size+1,1)=U ↑b/\w'.cell? (M,0)=U ↑lo/\w'.cell? (M,1)=U (V Y (aL.bA lo hi))/\w'.cell? ⟨M+1,0,Z⟩=U (V Y (aL.bA lo hi))/\w'.cell? ⟨M+1,1,Z⟩=U (V Y hi)/\XC X X w')
     (first
      |exact MS.later C (eN _)
      |(go_split_ands;exact MS.later C (bU Xe B aJ)))
     (first
      |(go_at_call_of 198 (XH pl);go_split_ands;refine aK (I1 _ (H.2.1.later Xe)) fun w4 B=>?_)
      |(go_at_call_of 198 (XH pr);go_split_ands;refine aK (I2 _ (H.2.2.later Xe)) fun w4 B=>?_))
    rw[E5,vV];have HF:=aB (bU H.1 (by go_split_ands;assumption:XC X X w4) aJ);clear C H I1 I2;go_wp21;go_ret;exact⟨rfl,HF⟩
   .have m:aL.ie (.node c l r) lo hi a b=aL.top (.node c l r):=by simp[aL.ie,i,z,aL.top]
    rw[m];clear m;generalize aL.top (.node c l r)=tp at x ⊢;go_in;go_wp21;refine aK (pT _ _ _ _ _) fun w1 d=>?_;rw[i];have ⟨q0,q1,q2,q3,hs,g⟩:=boxes d;have d1:=aT g x;have q:=aB g;clear g d x;go_wp21;refine aK (wR _ _ _ _ _) fun w2 d=>?_;rw[z];have d2:=aT d d1;have y:=aB (bU q d aJ);clear q d q0 q1 q2 q3 hs d1;go_wp21;go_ret;exact⟨rfl,y⟩
  .have m:aL.ie (.node c l r) lo hi a b=0:=aL.Bm i;rw[m];clear m
   go_in;go_wp21;refine aK (pT _ _ _ _ _) fun w1 d=>?_;rw[i];have q:=aB (boxes d).bw;clear d;go_wp21;go_ret;exact⟨rfl,q⟩
theorem wS(w:Xz):XD prog 199 #[] w fun e w'=>e=XQ (XM #[V Y 0,V Y 1048320])/\XC w w w':=by go_in;go_wp2;exact bodyPost_ret (v:=XM #[V Y 0,V Y 1048320]) (by simp[results,results199,go_sem]) rfl ⟨rfl,aS⟩
theorem JW(t:aL.T)(i o:Xq)(u:Xo XE)(F:J Xq)(a b:Xr)(w:Xz)(c:w.cell? (i,o)=U ↑u)(h:eC w t u F)(s:LB t)(r:aL.Good t 0 1048320)(x:a<b):XD prog 158 #[XH (U ⟨i,o,Z⟩),XM #[a,b]] w fun e w'=>e=XQ (V Y (aL.ie t 0 1048320 a b))/\XC w w w':=by
 have q:=aB h;clear h;go_in;go_upto_region 1 with fail;have j:XC w w (w.alloc (XR #[a,b] 83)):=aS;have m:(w.alloc (XR #[a,b] 83)).cell? (w,0)=U ↑a:=Xc;have l:(w.alloc (XR #[a,b] 83)).cell? (w,1)=U ↑b:=Xc;have k:=aT j c;have g:=aB j;clear j;generalize (Yg w (XR #[a,b] 83))=X at m l k g ⊢;go_region_held3 (fun w'=>w'.cell? (i,o)=U ↑u/\w'.cell? (w,0)=U ↑a/\w'.cell? (w,1)=U ↑b/\XC X X w')
  (first
   |exact⟨k,m,l,eN _⟩
   |(go_split_ands;exact⟨aT d Xe,aT d Xe,aT d Xe,bU Xe d aJ⟩))
  (first
   |(go_at_call 199;go_split_ands;refine aK (wS _) fun w4 d=>?_)
   |(go_at_call 198;go_split_ands;refine aK (Vn t u F 0 1048320 a b _ (q.later (bU g Xe aJ)) s r O O O x) fun w4 d=>?_))
 have y:=aB (bU g (by go_split_ands;assumption:XC X X w4) aJ);clear g q;go_wp21;go_ret;exact⟨rfl,y⟩
def uS(w:Xz)(d o:Xq)(F:J Xq)(i:aL.T)(w':Xz):Prop :=∃ (h:Xo XE) (F':J Xq),w'.cell? ⟨d,o,Z⟩=U (XH h)/\eC w' i (XH h) F'/\(∀ k∈F',k∈F\/w.heap.size<=k)/\aH (d :: F) w w'/\(∀ g,g≠o->w'.cell? ⟨d,g,Z⟩=w.cell? ⟨d,g,Z⟩)/\∀ g,w'.frozen? ⟨d,g,Z⟩=w.frozen? ⟨d,g,Z⟩
theorem T3{g:Xz}{d:Xq}{F5:J Xq}{l:aL.T}{u5:Xo XE}(j:XC w w w4)(i:d<w)(B:d ∉ F)(z:eC g l u5 F5)(y:∀ k∈F5,k∈F\/w4<=k)(m:aH F w4 g)(r:g.cell? (d,o)=U v):uS w d o F l (g.setCell (d,o) u5):=by
 have E:=j.size;have s:aH [] w w4:=aH.aD j;have A:d ∉ F5:=fun e=>by grind
 have q:g.heap[d]?=w.heap[d]?:=(m.block d O B).trans (s.block d i Xc);refine⟨u5,F5,Yb _ _ _ r,z.off (aH.bM ..) (fun x D=>by grind),fun k C=>?_,?_,fun t H=>?_,fun t=>?_⟩
 .rcases y k C with h|h
  .exact .inl h
  .exact .inr O
 .exact ((aH.aD (F:=d :: F) j).trans (m.mono Xi)).setCell (.inl Xc) _ _
 .exact (bC Xc).trans (zo (w:=w) q)
 .refine (zF ..).trans ?_;simp only[XW,q]
theorem TU(t:aL.T)(g o:Xq)(u:Xo XE)(F:J Xq)(a b x:Xr)(w:Xz)(c:w.cell? (g,o)=U ↑u)(f:w.frozen? (g,o)=Xx)(r:g ∉ F)(h:eC w t u F)(K:a<b)(q:-1000000<=x)(m:x<=1000000)(y:LB t)(s:LB (aL.iQ 20 t 0 1048320 a b x)):XD prog 206 #[XH (U ⟨g,o,Z⟩),XM #[a,b],x] w fun e w'=>e=XQ (XL #[])/\uS w g o F (aL.iQ 20 t 0 1048320 a b x) w':=by
 have Q:Hid (∀ (w':Xz),eC w' t u F->XD prog 231 #[u,XM #[V Y 0,V Y 1048320],XM #[a,b],x] w' (tH w' F (aL.iQ 20 t 0 1048320 a b x))) :=fun w' k=>TY 20 t u F 0 1048320 a b x w' k O O O Xd K q m y s
 have L:=aB h;have i:=XV _ _ c;generalize aL.iQ 20 t 0 1048320 a b x=t' at *;go_in;go_upto_region 1 with fail;have D:XC w w (w.alloc (XR #[a,b] 83)):=aS;have C:(w.alloc (XR #[a,b] 83)).cell? (w,0)=U ↑a:=Xc;have B:(w.alloc (XR #[a,b] 83)).cell? (w,1)=U ↑b:=Xc;have A:=aT D c;have j:=aB D;generalize (Yg w (XR #[a,b] 83))=X at C B A j ⊢;go_region_with (first
  |(go_at_call 199;refine aK (wS _) fun w4 d=>?_;have W:=aT d (show Yh (Yi X) _=_ from C);have S:=aT d (show Yh (Yi X) _=_ from B);have z:=aT d (show Yh (Yi X) _=_ from A))
  |(go_at_call 231;refine (Q _ (L.later (bU j (bU (eN _) d aJ) aJ))).mono ?_;rintro e w5 ⟨u5,F5,rfl,I,H,l⟩;have E:=l.cell r z;have R:=(l.frozen (o:=o) r (XV _ _ z)).trans (((aH.aD (F:=[]) (bU j (bU (eN _) d aJ) aJ)).frozen Xc i).trans f)))
 all_goals have P:=aB (T3 (bU j (bU (eN _) d aJ) aJ) i r I H l E);go_wp21;go_end0;exact⟨rfl,P⟩
theorem S3(t:aL.T)(u:Xo XE)(F:J Xq)(c level:Xr)(k:Xq)(w:Xz)(h:eC w t u F)(g:LB t)(d:w.cell? (k,0)=U ↑level)(l:-1000000000<=c)(j:c<=1000000000):XD prog 200 #[u,c,k] w fun e w'=>e=XQ (aL.kR Xy level t c)/\XC w w w':=by
 have i:=g.top;go_in;go_wp21;go_region_held3 (fun w'=>w'.cell? (k,0)=U ↑level/\XC w w w')
  (exact⟨d,eN _⟩)
  (first|(go_at_call 201;go_split_ands;refine aY (yJ _ (h.later Xe)) ?_))
 go_wp21;go_ret;exact⟨qH (by simp only[aL.kR];rw[dJ O O];simp),eN _⟩
theorem S4(t:aL.T)(u:Xo XE)(F:J Xq)(c level:Xr)(k:Xq)(w:Xz)(h:eC w t u F)(g:LB t)(d:w.cell? (k,0)=U ↑level)(l:-1000000000<=c)(j:c<=1000000000):XD prog 202 #[u,c,k] w fun e w'=>e=XQ (aL.kR Xx level t c)/\XC w w w':=by
 have i:=g.bot;go_in;go_wp21;go_region_held3 (fun w'=>w'.cell? (k,0)=U ↑level/\XC w w w')
  (exact⟨d,eN _⟩)
  (first|(go_at_call 203;go_split_ands;refine aY (yI _ (h.later Xe)) ?_))
 go_wp21;go_ret;exact⟨qH (by simp only[aL.kR];rw[dJ O O];simp),eN _⟩
def xj(d:Xp)(fn:Xq):Prop:=(d=Xy/\fn=200)\/(d=Xx/\fn=202)
theorem Ca{d:Xp}(m:xj d fn)(t:aL.T)(u:Xo XE)(F:J Xq)(c level:Xr)(k:Xq)(w:Xz)(h:eC w t u F)(i:LB t)(g:w.cell? (k,0)=U ↑level)(l:-1000000000<=c)(j:c<=1000000000):XD prog fn #[u,c,k] w fun e w'=>e=XQ (aL.kR d level t c)/\XC w w w':=by
 rcases m with ⟨rfl,rfl⟩|⟨rfl,rfl⟩
 .exact S3 t u F c level k w h i g l j
 .exact S4 t u F c level k w h i g l j
theorem M4{t:aL.T}(w:Xz)(h:eC w t u F):XD prog 230 #[u] w fun e w'=>e=XQ (aL.flat t)/\w'=w:=by
 cases t with
 |nil=>let⟨h1,_⟩:=h;cases h1;exact WE w
 |node a l r =>
  obtain⟨b,pl,pr,Fl,Fr,rfl,rfl,d⟩:=yD h;have e:aL.flat (.node a l r)=uI pl pr:=by rw[uI,d.l.isNone,d.r.isNone];rfl
  rw[e];exact FY b pl pr w d.c3 d.c4
def lg:Xo Xr->XA
 |none=>XL #[V Y 0,Xx]
 |some x=>XL #[V Y x,Xy]
theorem Uf{x y:Xr}(h:x=y):XQ (XL #[x,Xy])=XQ (lg (U y)):=by rw[h];rfl
theorem M5(u:Xo XE)(lo hi a b c:Xr)(k fn:Xq)(w:Xz)(g:aL.apart lo hi a b=Xy):XD prog 204 #[u,XM #[lo,hi],XM #[a,b],c,.func (.func fn) #[] #[k]] w fun e w'=>e=XQ (lg Z)/\XC w w w':=by
 generalize Value.func _ _ _=q;go_in;go_wp21;refine aK (pT _ _ _ _ _) fun w1 d=>?_;rw[g];have h:=aB (boxes d).bw;clear d;go_wp21;go_ret2;exact⟨rfl,h⟩
theorem Iy{i:Xp}(l:xj i fn)(t:aL.T)(u:Xo XE)(F:J Xq)(lo hi a b c level:Xr)(k:Xq)(w:Xz)(h:eC w t u F)(m:LB t)(s:w.cell? (k,0)=U ↑level)(y:-1000000000<=c)(x:c<=1000000000)(r:aL.apart lo hi a b=Xx)(q:aL.kR i level t c=Xx):XD prog 204 #[u,XM #[lo,hi],XM #[a,b],c,.func (.func fn) #[] #[k]] w fun e w'=>e=XQ (lg Z)/\XC w w w':=by
 have A:=aB (fun w' j=>Ca l t u F c level k w' (eC.later h j) m (aT j s) y x);clear m;rcases l with ⟨rfl,rfl⟩|⟨rfl,rfl⟩;all_goals go_in;go_wp21;refine aK (pT _ _ _ _ _) fun w1 d=>?_;rw[r];have g:=aB (boxes d).bw;clear d;go_wp21;refine aK (A _ g) fun w2 d=>?_;rw[q];have z:=aB (bU g d aJ);clear g d;go_wp21;go_ret2;exact⟨rfl,z⟩
theorem Ix{i:Xp}(l:xj i fn)(t:aL.T)(u:Xo XE)(F:J Xq)(lo hi a b c level:Xr)(k:Xq)(w:Xz)(h:eC w t u F)(m:LB t)(y:w.cell? (k,0)=U ↑level)(A:-1000000000<=c)(z:c<=1000000000)(s:aL.apart lo hi a b=Xx)(r:aL.kR i level t c=Xy)(x:aL.flat t=Xy):XD prog 204 #[u,XM #[lo,hi],XM #[a,b],c,.func (.func fn) #[] #[k]] w fun e w'=>e=XQ (lg (U (max lo a)))/\XC w w w':=by
 have B:=aB (fun w' j=>Ca l t u F c level k w' (eC.later h j) m (aT j y) A z);clear m;rcases l with ⟨rfl,rfl⟩|⟨rfl,rfl⟩;all_goals
  go_in;go_wp21;refine aK (pT _ _ _ _ _) fun w1 d=>?_;rw[s];have ⟨q0,q1,q2,q3,hs,hBw⟩:=boxes d;have g:=aB hBw;clear d hBw;go_wp21;refine aK (B _ g) fun w2 d=>?_;rw[r];have D:=aT d q0;have C:=aT d q2;have q:=aB (bU g d aJ);clear g d q0 q1 q2 q3 hs;go_wp21;refine aY (M4 _ (h.later q)) ?_;rw[x];go_wp21;all_goals go_ret2;exact⟨Uf O,q⟩
def Eu(d:Xp)(fn:Xq)(t:aL.T):Prop:=∀ (u:Xo XE)(F:J Xq)(lo hi a b c level:Xr)(k:Xq)(w:Xz),eC w t u F->LB t->aL.Good t lo hi->w.cell? (k,0)=U ↑level->0<=c->c+aL.top t<=100000000->0<=lo->lo<hi->hi<=2000000->a<b ->XD prog 204 #[u,XM #[lo,hi],XM #[a,b],c,.func (.func fn) #[] #[k]] w fun e w'=>e=XQ (lg (aL.fm d level t lo hi a b c))/\XC w w w'
def FS(X w':Xz)(bk N M:Xq)(v lo hi a b:Xr)(pl pr:Xo XE):Prop :=w'.cell? (bk,0)=U ↑v/\w'.cell? (bk,3)=U ↑pl/\w'.cell? (bk,4)=U ↑pr/\w'.cell? (N,0)=U ↑a/\w'.cell? (N,1)=U ↑b/\w'.cell? (M,0)=U ↑lo/\w'.cell? (M,1)=U (V Y (aL.bA lo hi))/\w'.cell? (M+1,0)=U (V Y (aL.bA lo hi))/\w'.cell? (M+1,1)=U ↑hi/\XC X X w'
theorem FS.later{v b:Xr}(h:FS X w' bk N M v lo hi a b pl pr)(k:XC w' w' w''):FS X w'' bk N M v lo hi a b pl pr:=by let⟨h1,h2,h3,h4,h5,h6,h7,h8,h9,h10⟩:=h;exact⟨aT k h1,aT k h2,aT k h3,aT k h4,aT k h5,aT k h6,aT k h7,aT k h8,aT k h9,bU h10 k aJ⟩
theorem Ue{d:Xp}{v b:Xr}{l r:aL.T}(i:aL.apart lo hi a b=Xx)(h:aL.kR d level (.node v l r) c=Xy)(j:aL.flat (.node v l r)=Xx):aL.fm d level (.node v l r) lo hi a b c=match aL.fm d level l lo (aL.bA lo hi) a b (c+v) with|some x=>U x|none=>aL.fm d level r (aL.bA lo hi) hi a b (c+v):=by have g:(aL.isNil l && aL.isNil r)=Xx:=j;rw[aL.fm];simp only[i,h,g,XY,X0,X4,if_false] <;> rfl
theorem OR{j:Xp}(hG:xj j fn)(v:Xr)(l r:aL.T)(L:Hid (Eu j fn l))(K:Hid (Eu j fn r))(u:Xo XE)(F:J Xq)(lo hi a b c level:Xr)(k:Xq)(w:Xz)(h:eC w (.node v l r) (XH u) F)(t:LB (.node v l r))(q:aL.Good (.node v l r) lo hi)(R:w.cell? ⟨k,0,Z⟩=U (V Y level))(h1:0<=c)(h2:c+aL.top (.node v l r)<=100000000)(h3:0<=lo)(h4:lo<hi)(h5:hi<=2000000)(h6:a<b)
  (hp:aL.apart lo hi a b=Xx) (W:aL.kR j level (.node v l r) c=Xy) (Q:aL.flat (.node v l r)=Xx):
  XD prog 204 #[XH u,XM #[V Y lo,V Y hi],XM #[V Y a,V Y b],V Y c,.func (.func fn) #[] #[XH (U ⟨k,0,Z⟩)]] w fun e w'=>e=XQ (lg (aL.fm j level (.node v l r) lo hi a b c))/\XC w.heap.size w w':=by
 have tp:=t.top;have tl:=t.2.2.2.1.top;have tr:=t.2.2.2.2.top;have hv:=t.1;have aa:=q.1;have ht:aL.top (.node v l r)=v+max (aL.top l) (aL.top r):=rfl;have gl:=aL.BA l lo (aL.bA lo hi) 0 q.2.2.1;have t0:0<=aL.top (.node v l r):=by obtain⟨_,x,_,_,e⟩:=aL.yv (.node v l r) lo hi h4 q;have:=aL.BA (.node v l r) lo hi x q;omega
 have ac:2<=hi-lo:=by
  rcases q.2.1 with ⟨e1,e2⟩|h2
  .have P:(aL.isNil l && aL.isNil r)=Xx:=Q;simp[e1,e2] at P
  .exact h2
 have hm:lo<aL.bA lo hi/\aL.bA lo hi<hi:=by unfold aL.bA;omega
 have AK:=aB (fun w' i=>Ca hG (.node v l r) u F c level k w' (eC.later h i) t (aT i R) O O);have S:=aB (fun (w':Xz) (i:XC w.heap.size w w')=>M4 w' (eC.later h i));obtain⟨bk,pl,pr,Fl,Fr,rfl,rfl,B⟩:=yD h;have C:Hid (∀ w',XC w.heap.size w w'->XD prog 204 #[XH pl,XM #[V Y lo,V Y (aL.bA lo hi)],XM #[V Y a,V Y b],V Y (c+v),.func (.func fn) #[] #[XH (U ⟨k,0,Z⟩)]] w' fun e w''=>e=XQ (lg (aL.fm j level l lo (aL.bA lo hi) a b (c+v)))/\XC w'.heap.size w' w'') :=fun w' i=>L.out pl Fl lo _ a b (c+v) level k w' (B.l.later i) t.2.2.2.1 q.2.2.1 (aT i R) O O h3 hm.1 O h6
 have H:Hid (∀ w',XC w.heap.size w w'->XD prog 204 #[XH pr,XM #[V Y (aL.bA lo hi),V Y hi],XM #[V Y a,V Y b],V Y (c+v),.func (.func fn) #[] #[XH (U ⟨k,0,Z⟩)]] w' fun e w''=>e=XQ (lg (aL.fm j level r (aL.bA lo hi) hi a b (c+v)))/\XC w'.heap.size w' w'') :=fun w' i=>K.out pr Fr _ hi a b (c+v) level k w' (B.r.later i) t.2.2.2.2 q.2.2.2 (aT i R) O O O hm.2 h5 h6
 rw[Ue hp W Q];have ab:Y.wrap (c+v)=c+v:=dJ O O;have c0:=B.c0;have c3:=B.c3;have c4:=B.c4;generalize aL.fm j level l lo (aL.bA lo hi) a b (c+v)=ol at *;generalize aL.fm j level r (aL.bA lo hi) hi a b (c+v)=or at *;rcases hG with ⟨rfl,rfl⟩|⟨rfl,rfl⟩;all_goals
  go_in;go_wp2_with fail;refine (pT _ _ _ _ _).mono ?_;rintro e w1 ⟨rfl,g⟩;rw[hp];have ⟨q0,q1,q2,q3,hs,hBw⟩:=boxes g;have d0:=aT hBw c0;have d3:=aT hBw c3;have d4:=aT hBw c4;have HB:=aB hBw;go_wp2_with fail;refine (AK.out _ HB.out).mono ?_;rintro e w2 ⟨rfl,g⟩;rw[W];have r0:=aT g q0;have r1:=aT g q1;have r2:=aT g q2;have r3:=aT g q3;have e0:=aT g d0;have e3:=aT g d3;have e4:=aT g d4;have HC:=aB (bU HB.out g (zq _));go_wp2_with fail;refine (S.out _ HC.out).mono ?_;rintro e A ⟨rfl,rfl⟩;rw[Q];go_wp2_with fail;refine (Bq _ _ _ O O O).mono ?_;rintro e w3 ⟨rfl,g⟩;have z:XC A.heap.size A ((w3.alloc (XR #[V Y lo,V Y (aL.bA lo hi)] 83)).alloc (XR #[V Y (aL.bA lo hi),V Y hi] 83)):=(g.alloc g.size _).alloc (by have:=g.size;simp;omega) _;have s:FS ((w3.alloc (XR #[V Y lo,V Y (aL.bA lo hi)] 83)).alloc (XR #[V Y (aL.bA lo hi),V Y hi] 83)) ((w3.alloc (XR #[V Y lo,V Y (aL.bA lo hi)] 83)).alloc (XR #[V Y (aL.bA lo hi),V Y hi] 83)) bk (w.heap.size+1) w3.heap.size v lo hi a b pl pr :=⟨aT z e0,aT z e3,aT z e4,aT z r2,aT z r3,by simp,by simp,by simp,by simp,Below.refl _ _⟩
  have m:=aB (bU HC.out z (zq _));go_upto_region 6 with fail;generalize (Yg _ (XR #[V Y (aL.bA lo hi),V Y hi] 83))=X at s m ⊢;generalize w3.heap.size=M at s ⊢
  cases ol with
  |some y =>
   simp only[lg] at C ⊢;go_region_held3 (fun w'=>w'.cell? ⟨bk,0,Z⟩=U (V Y v)/\w'.cell? ⟨bk,3,Z⟩=U (XH pl)/\w'.cell? ⟨bk,4,Z⟩=U (XH pr)/\w'.cell? ⟨w.heap.size+1,0,Z⟩=U (V Y a)/\w'.cell? ⟨w.heap.size+1,1,Z⟩=U (V Y b)/\w'.cell? ⟨M,0,Z⟩=U (V Y lo)/\w'.cell? ⟨M,1,Z⟩=U (V Y (aL.bA lo hi))/\w'.cell? ⟨M+1,0,Z⟩=U (V Y (aL.bA lo hi))/\w'.cell? ⟨M+1,1,Z⟩=U (V Y hi)/\XC X.heap.size X w')
    (first
     |exact FS.later s (eN _)
     |(go_split_ands;exact FS.later s (bU Xe d (zq _))))
    (first
     |(go_at_call 204;go_split_ands;refine (C.out _ (bU m.out Xe (zq _))).mono ?_;rintro e w4 ⟨rfl,d⟩))
   have D:=aB (bU m.out (by go_split_ands;assumption:XC X.heap.size X w4) (zq _));go_wp2;go_ret2;exact⟨rfl,D.out⟩
  |none =>
   simp only[lg] at C ⊢;go_region_held3 (fun w'=>w'.cell? ⟨bk,0,Z⟩=U (V Y v)/\w'.cell? ⟨bk,3,Z⟩=U (XH pl)/\w'.cell? ⟨bk,4,Z⟩=U (XH pr)/\w'.cell? ⟨w.heap.size+1,0,Z⟩=U (V Y a)/\w'.cell? ⟨w.heap.size+1,1,Z⟩=U (V Y b)/\w'.cell? ⟨M,0,Z⟩=U (V Y lo)/\w'.cell? ⟨M,1,Z⟩=U (V Y (aL.bA lo hi))/\w'.cell? ⟨M+1,0,Z⟩=U (V Y (aL.bA lo hi))/\w'.cell? ⟨M+1,1,Z⟩=U (V Y hi)/\XC X.heap.size X w')
    (first
     |exact FS.later s (eN _)
     |(go_split_ands;exact FS.later s (bU Xe d (zq _))))
    (first
     |(go_at_call 204;go_split_ands;refine (C.out _ (bU m.out Xe (zq _))).mono ?_;rintro e w4 ⟨rfl,d⟩))
   have E:FS X w4 bk (w.heap.size+1) M v lo hi a b pl pr:=Xe;clear s C;go_upto_region 9 with fail
   cases or with
   |some y =>
    simp only[lg] at H ⊢;go_region_held3 (fun w'=>w'.cell? ⟨bk,0,Z⟩=U (V Y v)/\w'.cell? ⟨bk,3,Z⟩=U (XH pl)/\w'.cell? ⟨bk,4,Z⟩=U (XH pr)/\w'.cell? ⟨w.heap.size+1,0,Z⟩=U (V Y a)/\w'.cell? ⟨w.heap.size+1,1,Z⟩=U (V Y b)/\w'.cell? ⟨M,0,Z⟩=U (V Y lo)/\w'.cell? ⟨M,1,Z⟩=U (V Y (aL.bA lo hi))/\w'.cell? ⟨M+1,0,Z⟩=U (V Y (aL.bA lo hi))/\w'.cell? ⟨M+1,1,Z⟩=U (V Y hi)/\XC X.heap.size X w')
     (first
      |exact FS.later E (eN _)
      |(go_split_ands;exact FS.later E (bU (eN _) d (zq _))))
     (first
      |(go_at_call 204;go_split_ands;refine (H.out _ (bU m.out Xe (zq _))).mono ?_;rintro e I ⟨rfl,d⟩))
    have D:=aB (bU m.out (by go_split_ands;assumption:XC X.heap.size X I) (zq _));go_wp2;go_ret2;exact⟨rfl,D.out⟩
   |none =>
    simp only[lg] at H ⊢;go_region_held3 (fun w'=>w'.cell? ⟨bk,0,Z⟩=U (V Y v)/\w'.cell? ⟨bk,3,Z⟩=U (XH pl)/\w'.cell? ⟨bk,4,Z⟩=U (XH pr)/\w'.cell? ⟨w.heap.size+1,0,Z⟩=U (V Y a)/\w'.cell? ⟨w.heap.size+1,1,Z⟩=U (V Y b)/\w'.cell? ⟨M,0,Z⟩=U (V Y lo)/\w'.cell? ⟨M,1,Z⟩=U (V Y (aL.bA lo hi))/\w'.cell? ⟨M+1,0,Z⟩=U (V Y (aL.bA lo hi))/\w'.cell? ⟨M+1,1,Z⟩=U (V Y hi)/\XC X.heap.size X w')
     (first
      |exact FS.later E (eN _)
      |(go_split_ands;exact FS.later E (bU (eN _) d (zq _))))
     (first
      |(go_at_call 204;go_split_ands;refine (H.out _ (bU m.out Xe (zq _))).mono ?_;rintro e I ⟨rfl,d⟩))
    have D:=aB (bU m.out (by go_split_ands;assumption:XC X.heap.size X I) (zq _));go_wp2;go_ret2;exact⟨rfl,D.out⟩
theorem Iw{g:Xp}(q:xj g fn):∀ t:aL.T,Eu g fn t:=by
 intro t;induction t with
 |nil =>
  intro u F lo hi a b c level k w h m s j H B E A D C;simp only[aL.top] at B
  cases d:aL.apart lo hi a b
  .cases i:aL.kR g level .nil c
   .have e:aL.fm g level .nil lo hi a b c=Z:=by simp[aL.fm,i]
    rw[e];exact Iy q .nil u F lo hi a b c level k w h m j O O d i
   .have e:aL.fm g level .nil lo hi a b c=U (max lo a):=by simp[aL.fm,i,d]
    rw[e];exact Ix q .nil u F lo hi a b c level k w h m j O O d i rfl
  .have e:aL.fm g level .nil lo hi a b c=Z:=by simp[aL.fm,d]
   rw[e];exact M5 u lo hi a b c k _ w d
 |node v l r ihl ihr =>
  intro u F lo hi a b c level k w h m s j H B E A D C;have I:0<=aL.top (.node v l r):=by let⟨_,x,_,_,e⟩:=aL.yv (.node v l r) lo hi A s;have:=aL.BA (.node v l r) lo hi x s;omega
  cases d:aL.apart lo hi a b
  .cases i:aL.kR g level (.node v l r) c
   .have e:aL.fm g level (.node v l r) lo hi a b c=Z:=by simp[aL.fm,i]
    rw[e];exact Iy q _ u F lo hi a b c level k w h m j O O d i
   .cases z:aL.flat (.node v l r)
    .exact OR q v l r ihl ihr u F lo hi a b c level k w h m s j H B E A D C d i z
    .have y:(aL.isNil l && aL.isNil r)=Xy:=z;have e:aL.fm g level (.node v l r) lo hi a b c=U (max lo a):=by rw[aL.fm];simp only[i,d,y,XY,X0,X4,if_false,if_true]
     rw[e];exact Ix q _ u F lo hi a b c level k w h m j O O d i z
  .have e:aL.fm g level (.node v l r) lo hi a b c=Z:=by simp[aL.fm,d]
   rw[e];exact M5 u lo hi a b c k _ w d
def pe(f:Xr->Xr)(long level s:Xr):Prop:=∀ x,s<=x->x<s+long->f x<=level
def tO(f:Xr->Xr)(a b long level:Xr):Xo Xr->Prop
 |none=>∀ s,a<=s->s+long<=b->¬ pe f long level s
 |some s=>a<=s/\s+long<=b/\pe f long level s/\∀ d,a<=d->d<s->¬ pe f long level d
theorem Um(h:aL.rB (fun z=>level<f z) 0 1048320 st (st+long) Z)(g:0<=st)(d:st+long<=1048320):pe f long level st:=by grind[aL.rB,pe]
theorem Td{b:Xr}(h:∀ i,a<=i->i<st->¬ pe f long level i)(t:level<f y5)(g:aL.rB (fun z=>f z<=level) 0 1048320 y5 b Z)(r:st<=y5)(q:y5<st+long)(m:0<=y5)(l:b<=1048320):tO f a b long level Z:=by
 intro i k s j;by_cases c:i<st
 .exact h i k c j
 .by_cases d:i<=y5
  .have:=j y5 d O;omega
  .have e:=j i O O;exact g i O O O O e
theorem Ui{b:Xr}(h:∀ s',a<=s'->s'<st->¬ pe f long level s')(l:level<f y5)(g:aL.rB (fun z=>f z<=level) 0 1048320 y5 b (U y6))(d:0<=a)(k:a<=st)(j:st<=y5)(i:y5<st+long):a<=y6/\y6<=1048320/\∀ s',a<=s'->s'<y6->¬ pe f long level s':=by grind[pe,aL.rB]
theorem Uh{b:Xr}(d:level<f y5)(g:aL.rB (fun z=>f z<=level) 0 1048320 y5 b (U y6)):y5<y6/\y6<1048320:=by grind[aL.rB]
theorem UL(t:aL.T)(m o:Xq)(u:Xo XE)(F:J Xq)(a b long level:Xr)(w:Xz)(c:w.cell? ⟨m,o,Z⟩=U (XH u))(h:eC w t (XH u) F)(H:LB t)(D:aL.Good t 0 1048320)(h0:0<=a)(h1:a<b)(h2:b<=1048320)(h3:1<=long)(h4:long<=1048320):XD prog 159 #[XH (U ⟨m,o,Z⟩),XM #[V Y a,V Y b],V Y long,V Y level] w fun e w'=>∃ r:Xo Xr,e=XQ (lg r)/\tO (aL.fh t 0 1048320) a b long level r/\XC w.heap.size w w':=by
 have tp:=H.top;have C1:Hid (∀ (w':Xz) (x y:Xr),XC w.heap.size w w'->w'.cell? ⟨w.heap.size+1,0,Z⟩=U (V Y level)->x<y->XD prog 204 #[XH u,XM #[V Y 0,V Y 1048320],XM #[V Y x,V Y y],V Y 0,.func (.func 200) #[] #[XH (U ⟨w.heap.size+1,0,Z⟩)]] w' fun e w''=>e=XQ (lg (aL.fm Xy level t 0 1048320 x y 0))/\XC w'.heap.size w' w''):=by intro w' x y g i k;exact Iw (.inl ⟨rfl,rfl⟩) t u F 0 1048320 x y 0 level _ w' (h.later g) H D i O O O O O k
 have C2:Hid (∀ (w':Xz) (x y:Xr),XC w.heap.size w w'->w'.cell? ⟨w.heap.size+1,0,Z⟩=U (V Y level)->x<y->XD prog 204 #[XH u,XM #[V Y 0,V Y 1048320],XM #[V Y x,V Y y],V Y 0,.func (.func 202) #[] #[XH (U ⟨w.heap.size+1,0,Z⟩)]] w' fun e w''=>e=XQ (lg (aL.fm Xx level t 0 1048320 x y 0))/\XC w'.heap.size w' w''):=by intro w' x y g i k;exact Iw (.inr ⟨rfl,rfl⟩) t u F 0 1048320 x y 0 level _ w' (h.later g) H D i O O O O O k
 have D1:Hid (∀ x y,x<y->aL.rB (fun z=>level<aL.fh t 0 1048320 z) 0 1048320 x y (aL.fm Xy level t 0 1048320 x y 0)):=by intro x y k;have:=aL.Jf Xy level t 0 1048320 x y 0 O k D;simpa only[aL.want,if_true,Ye] using this
 have D2:Hid (∀ x y,x<y->aL.rB (fun z=>aL.fh t 0 1048320 z<=level) 0 1048320 x y (aL.fm Xx level t 0 1048320 x y 0)):=by intro x y k;have:=aL.Jf Xx level t 0 1048320 x y 0 O k D;simpa only[aL.want,X4,if_false,Ye] using this
 clear h H D tp;go_in;go_wp2_with fail;have hX:XC w.heap.size w ((w.alloc (XR #[V Y a,V Y b] 83)).alloc (XR #[V Y level] 3)):=((zr _ _).alloc (zq _) _).alloc Xc _;have x1:((w.alloc (XR #[V Y a,V Y b] 83)).alloc (XR #[V Y level] 3)).cell? ⟨w.heap.size,1,Z⟩=U (V Y b):=Xc;have W:((w.alloc (XR #[V Y a,V Y b] 83)).alloc (XR #[V Y level] 3)).cell? ⟨w.heap.size+1,0,Z⟩=U (V Y level):=Xc;have S:=aT hX c;have j:=aB hX;generalize (Yg _ (XR #[V Y level] 3))=X at x1 W S j ⊢;go_loopw [12,13,14] (fun s _ _ wx=>∃ st:Xr,s=V Y st/\a<=st/\st<=1048320/\(∀ q,a<=q->q<st->¬ pe (aL.fh t 0 1048320) long level q)/\XC X.heap.size X wx) (fun s _ _ _=>(1048321-intOf s).toNat)
 case atStart=>exact⟨a,rfl,by omega,by omega,fun q _ _=>by omega,Below.refl _ _⟩
 case round =>
  obtain⟨st,rfl,C,ae,aa,A⟩:=hrel;have Q:=aB aa;have y1:=aT A x1;have y2:=aT A W;have yc:=aT A S;by_cases ab:st+long<=b
  .have ad:Y.wrap (st+long)=st+long:=dJ O O;have R:=aB (D1.out st (st+long) O);have P:=aB (fun w' g i=>C1.out w' st (st+long) g i O)
   cases K:aL.fm Xy level t 0 1048320 st (st+long) 0 with
   |none =>
    rw[K] at R;simp only[K,lg] at P;go_upto_region 5 with fail;go_region_held3 (fun w'=>w'.cell? ⟨m,o,Z⟩=U (XH u)/\w'.cell? ⟨w.heap.size,1,Z⟩=U (V Y b)/\w'.cell? ⟨w.heap.size+1,0,Z⟩=U (V Y level)/\XC X.heap.size X w')
     (first
      |exact⟨yc,y1,y2,bU A (eN _) (zq _)⟩
      |(go_split_ands;exact⟨aT d Xe,aT d Xe,aT d Xe,bU Xe d (zq _)⟩))
     (first
      |(go_at_call 199;go_split_ands;refine (wS _).mono ?_;rintro e w4 ⟨rfl,d⟩)
      |(go_at_call 204;go_split_ands;refine (P.out _ (bU j.out Xe (zq _)) Xe).mono ?_;rintro e w5 ⟨rfl,d⟩))
    have HF:=aB (bU j.out (by go_split_ands;assumption:XC X.heap.size X w5) (zq _));go_wp2;go_ret2;exact⟨U st,rfl,⟨C,ab,Um R.out O O,Q.out⟩,HF.out⟩
   |some y5 =>
    rw[K] at R;simp only[K,lg] at P;obtain⟨_,g2,g3,g4,g5,g6⟩:=R.out;have ac:level<aL.fh t 0 1048320 y5:=g5;have l:=aB ac;have E:=aB (D2.out y5 b O);have L:=aB (fun w' g i=>C2.out w' y5 b g i O);go_upto_region 5 with fail;go_region_held3 (fun w'=>w'.cell? ⟨m,o,Z⟩=U (XH u)/\w'.cell? ⟨w.heap.size,1,Z⟩=U (V Y b)/\w'.cell? ⟨w.heap.size+1,0,Z⟩=U (V Y level)/\XC X.heap.size X w')
     (first
      |exact⟨yc,y1,y2,bU A (eN _) (zq _)⟩
      |(go_split_ands;exact⟨aT d Xe,aT d Xe,aT d Xe,bU Xe d (zq _)⟩))
     (first
      |(go_at_call 199;go_split_ands;refine (wS _).mono ?_;rintro e w4 ⟨rfl,d⟩)
      |(go_at_call 204;go_split_ands;refine (P.out _ (bU j.out Xe (zq _)) Xe).mono ?_;rintro e w5 ⟨rfl,d⟩))
    have B:XC X.heap.size X w5:=by go_split_ands;assumption
    have z1:=aT B x1;have z2:=aT B W;have zc:=aT B S;go_upto_region 8 with fail
    cases I:aL.fm Xx level t 0 1048320 y5 b 0 with
    |none =>
     rw[I] at E;simp only[I,lg] at L;go_region_held3 (fun w'=>w'.cell? ⟨m,o,Z⟩=U (XH u)/\w'.cell? ⟨w.heap.size,1,Z⟩=U (V Y b)/\w'.cell? ⟨w.heap.size+1,0,Z⟩=U (V Y level)/\XC X.heap.size X w')
     (first
      |exact⟨zc,z1,z2,bU B (eN _) (zq _)⟩
      |(go_split_ands;exact⟨aT d Xe,aT d Xe,aT d Xe,bU Xe d (zq _)⟩))
     (first
      |(go_at_call 199;go_split_ands;refine (wS _).mono ?_;rintro e w4 ⟨rfl,d⟩)
      |(go_at_call 204;go_split_ands;refine (L.out _ (bU j.out Xe (zq _)) Xe).mono ?_;rintro e w6 ⟨rfl,d⟩))
     have HF:=aB (bU j.out (by go_split_ands;assumption:XC X.heap.size X w6) (zq _));go_wp2;go_ret2;exact⟨Z,rfl,Td Q.out l.out E.out g3 O O O,HF.out⟩
    |some y6 =>
     rw[I] at E;simp only[I,lg] at L;go_region_held3 (fun w'=>w'.cell? ⟨m,o,Z⟩=U (XH u)/\w'.cell? ⟨w.heap.size,1,Z⟩=U (V Y b)/\w'.cell? ⟨w.heap.size+1,0,Z⟩=U (V Y level)/\XC X.heap.size X w')
     (first
      |exact⟨zc,z1,z2,bU B (eN _) (zq _)⟩
      |(go_split_ands;exact⟨aT d Xe,aT d Xe,aT d Xe,bU Xe d (zq _)⟩))
     (first
      |(go_at_call 199;go_split_ands;refine (wS _).mono ?_;rintro e w4 ⟨rfl,d⟩)
      |(go_at_call 204;go_split_ands;refine (L.out _ (bU j.out Xe (zq _)) Xe).mono ?_;rintro e w6 ⟨rfl,d⟩))
     have hv:XC X.heap.size X w6:=by go_split_ands;assumption
     have HV:=aB hv;go_wp2;go_roundw
     case rel=>have nx:=Ui Q.out l.out E.out h0 C g3 O;exact⟨y6,rfl,nx.1,nx.2.1,nx.2.2,HV.out⟩
     case measure=>simp[intOf];have:=Uh l.out E.out;omega
  .go_wp2
   go_ret2;exact⟨Z,rfl,fun q g i=>Q.out q g O,bU j.out A (zq _)⟩
namespace aF
structure It where
 f:Xr
 t:Xr
 n:Xr
 v:Xq
inductive S where
 |nil:S
 |node (x:It) (l r:S):S
def isNil:S->Xp
 |.nil=>Xy
 |.node ..=>Xx
def left:S->S
 |.nil=>.nil
 |.node _ l _=>l
def right:S->S
 |.nil=>.nil
 |.node _ _ r=>r
def ht:S->Xr
 |.nil=>0
 |.node _ l r=>1+max (ht l) (ht r)
def Jo(x:Xr)(l r:S)(g d:Xr):Xr :=let m:=if isNil l then x else max x g;if isNil r then m else max m d
def late:S->Xr
 |.nil=>0
 |.node x l r=>Jo x.t l r (late l) (late r)
def size:S->Xq
 |.nil=>0
 |.node _ l r=>1+size l+size r
def cT:S->J It
 |.nil=>[]
 |.node x l r=>cT l++x :: cT r
def side(f n:Xr)(x:It):Xr:=if f<x.f then -1 else if x.f<f then 1 else if n<x.n then -1 else if x.n<n then 1 else 0
def uG:S->S
 |.node x (.node y a b) r=>.node y a (.node x b r)
 |t=>t
def uF:S->S
 |.node x l (.node y a b)=>.node y (.node x l a) b
 |t=>t
def tA(x:It)(l r:S):S:=uG (.node x (if ht (left l)<ht (right l) then uF l else l) r)
def tC(x:It)(l r:S):S:=uF (.node x l (if ht (right r)<ht (left r) then uG r else r))
def iM(x:It)(l r:S):S:=if 1<ht l-ht r then tA x l r else if ht l-ht r < -1 then tC x l r else .node x l r
def put(x:It):S->S
 |.nil=>iM x .nil .nil
 |.node y l r=>if side x.f x.n y<0 then iM y (put x l) r else if 0<side x.f x.n y then iM y l (put x r) else iM { y with t:=x.t,v:=x.v } l r
def qF:It->S->S->It
 |x,.nil,_=>x
 |_,.node y a b,_=>qF y a b
def nA:It->S->S->S
 |_,.nil,r=>r
 |x,.node y a b,r=>iM x (nA y a b) r
def nz(l:S):S->S
 |.nil=>l
 |.node y a b=>iM (qF y a b) l (nA y a b)
def drop(f n:Xr):S->S
 |.nil=>.nil
 |.node y l r=>if side f n y<0 then iM y (drop f n l) r else if 0<side f n y then iM y l (drop f n r) else nz l r
theorem mB:∀ t:S,0<=ht t
 |.nil=>by simp[ht]
 |.node _ l r=>by have:=mB l;have:=mB r;simp only[ht];omega
theorem oH:∀ t:S,ht t<=size t
 |.nil=>by simp[ht,size]
 |.node _ l r=>by have:=oH l;have:=oH r;simp only[ht,size];omega
theorem Bk{t:S}(h:0<ht t):∃ x l r,t=.node x l r:=by
 cases t with
 |nil=>simp[ht] at h
 |node x l r=>exact⟨x,l,r,rfl⟩
theorem Mi(t:S):cT (uG t)=cT t:=by
 cases t with
 |nil=>rfl
 |node x l r=>cases l <;> simp[uG,cT]
theorem Mh(t:S):cT (uF t)=cT t:=by
 cases t with
 |nil=>rfl
 |node x l r=>cases r <;> simp[uF,cT]
theorem pS(x:It)(l r:S):cT (iM x l r)=cT l++x :: cT r:=by
 unfold iM;split
 .unfold tA;rw[Mi];split <;> simp[cT,Mh]
 .split
  .unfold tC;rw[Mh];split <;> simp[cT,Mi]
  .rfl
theorem pf:∀ t:S,(cT t).length=size t
 |.nil=>rfl
 |.node x l r=>by have:=pf l;have:=pf r;simp only[cT,size,List.length_append,List.length_cons];omega
theorem FV:∀ (x:It)(l r:S),qF x l r :: cT (nA x l r)=cT l++x :: cT r
 |x,.nil,r=>by simp[qF,nA,cT]
 |x,.node y a b,r=>by have:=FV y a b;simp only[qF,nA,pS,cT];rw[<- Yj,this]
theorem MG(l r:S):cT (nz l r)=cT l++cT r:=by
 cases r with
 |nil=>simp[nz,cT]
 |node y a b=>simp only[nz,pS];rw[FV];rfl
def lt(x y:It):Prop:=x.f<y.f\/(x.f=y.f/\x.n<y.n)
theorem wJ{f n:Xr}{x:It}:side f n x<0↔f<x.f\/(f=x.f/\n<x.n):=by
 unfold side;repeat' split
 all_goals omega
theorem Bc{f n:Xr}{x:It}:0<side f n x↔x.f<f\/(f=x.f/\x.n<n):=by
 unfold side;repeat' split
 all_goals omega
def ins(x:It):J It->J It
 |[]=>[x]
 |y :: r=>if side x.f x.n y<0 then x :: y :: r else y :: ins x r
theorem KX{x y:It}(h:side x.f x.n y<0)(R:J It):∀ L:J It,ins x (L++y :: R)=ins x L++y :: R
 |[]=>by simp[ins,h]
 |z :: L=>by simp only[Yj,ins];split;simp;rw[KX h R L];simp
theorem Mj{x:It}(R:J It):∀ L:J It,(∀ z∈L,¬ side x.f x.n z<0)->ins x (L++R)=L++ins x R
 |[],_=>rfl
 |z :: L,h=>by simp only[Yj,ins];rw[Xs (h z Xc),Mj R L (fun y d=>h y (by simp[d]))]
def Ord(l:J It):Prop:=l.Pairwise lt
theorem EJ{x:It}{l r:S}(h:Ord (cT (.node x l r))):Ord (cT l)/\Ord (cT r)/\(∀ z∈cT l,lt z x)/\(∀ z∈cT r,lt x z):=by simp only[cT,Ord,List.pairwise_append,Yk] at h;exact⟨h.1,h.2.1.2,fun z d=>h.2.2 z d x Xc,h.2.1.1⟩
theorem Fh(x:It):∀ t:S,Ord (cT t)->(∀ z∈cT t,¬ (z.f=x.f/\z.n=x.n))->cT (put x t)=ins x (cT t)
 |.nil,_,_=>by simp[put,pS,cT,ins]
 |.node y l r,h,hn=>by
  let⟨h1,h2,h3,h4⟩:=EJ h;have g:=hn y (by simp[cT]);unfold put;by_cases a:side x.f x.n y<0
  .rw[Xt a,pS,Fh x l h1 (fun z d=>hn z (by simp[cT,d]))];simp only[cT];rw[KX a]
  .by_cases b:0<side x.f x.n y
   .rw[Xs a,Xt b,pS,Fh x r h2 (fun z d=>hn z (by simp[cT,d]))];simp only[cT];rw[Mj _ _ (fun z d=>?_)]
    .simp[ins,a]
    .have:=h3 z d;rw[wJ];rw[Bc] at b;unfold lt at this;omega
   .rw[wJ] at a;rw[Bc] at b;omega
theorem Bl{p:It->Xp}{l:J It}(h:∀ z∈l,p z=Xy):l.filter p=l:=List.filter_eq_self.2 h
def pM(f n:Xr)(z:It):Xp:=!(decide (z.f=f) && decide (z.n=n))
theorem Mu{f n:Xr}{z y:It}(h:side f n y<0)(k:z=y\/lt y z):pM f n z=Xy:=by grind[side,lt,pM]
theorem Mt{f n:Xr}{z y:It}(h:0<side f n y)(k:z=y\/lt z y):pM f n z=Xy:=by grind[side,lt,pM]
theorem FU(f n:Xr):∀ t:S,Ord (cT t)->cT (drop f n t)=(cT t).filter (pM f n)
 |.nil,_=>rfl
 |.node y l r,h=>by
  let⟨h1,h2,h3,h4⟩:=EJ h;unfold drop;by_cases a:side f n y<0
  .rw[Xt a,pS,FU f n l h1];simp only[cT,Yl,Ym,Mu a (.inl rfl),if_true];rw[Bl (l:=cT r) (fun z d=>Mu a (.inr (h4 z d)))]
  .by_cases b:0<side f n y
   .rw[Xs a,Xt b,pS,FU f n r h2];simp only[cT,Yl,Ym,Mt b (.inl rfl),if_true];rw[Bl (l:=cT l) (fun z d=>Mt b (.inr (h3 z d)))]
   .rw[Xs a,Xs b,MG];have e:f=y.f/\n=y.n:=by rw[wJ] at a;rw[Bc] at b;omega
    have g:pM f n y=Xx:=by simp[pM,e.1,e.2]
    simp only[cT,Yl,Ym,g];rw[Bl (l:=cT l) (fun z d=>?_),Bl (l:=cT r) (fun z d=>?_)]
    .simp
    .have:=h4 z d;simp[pM];unfold lt at this;omega
    .have:=h3 z d;simp[pM];unfold lt at this;omega
theorem AW{x z:It}:∀ {l:J It},z∈ins x l↔z=x\/z∈l
 |[]=>by simp[ins]
 |y :: r=>by
  simp only[ins];split
  .simp
  .simp[AW (l:=r)];constructor
   .rintro (h|h|h)
    .exact .inr (.inl h)
    .exact .inl h
    .exact .inr (.inr h)
   .rintro (h|h|h)
    .exact .inr (.inl h)
    .exact .inl h
    .exact .inr (.inr h)
theorem Ml(x:It):∀ l:J It,(ins x l).length=l.length+1
 |[]=>rfl
 |y :: r=>by simp only[ins];split;simp;simp[Ml x r]
theorem JO{x:It}:∀ {l:J It},Ord l->(∀ z∈l,¬ (z.f=x.f/\z.n=x.n))->Ord (ins x l)
 |[],_,_=>by simp[ins,Ord]
 |y :: r,h,hn=>by
  simp only[Ord,Yk] at h;have g:=hn y Xc;simp only[ins];split
  .rename_i a
   rw[wJ] at a;refine Yk.2 ⟨fun z d=>?_,Yk.2 h⟩;rcases X7.1 d with rfl|d
   .unfold lt;omega
   .have:=h.1 z d;unfold lt at *;omega
  .rename_i a
   refine Yk.2 ⟨fun z d=>?_,JO h.2 (fun z d=>hn z (by simp[d]))⟩;rcases AW.1 d with rfl|d
   .rw[wJ] at a;unfold lt;omega
   .exact h.1 z d
theorem Mp{l:J It}(p:It->Xp)(h:Ord l):Ord (l.filter p):=Yn p h
def meets(a b:Xr)(x:It):Xp:=decide (x.f<b) && decide (a<x.t)
def meet(a b:Xr):S->J It
 |.nil=>[]
 |.node x l r=>if late (.node x l r)<=a then [] else meet a b l++if b<=x.f then [] else (if a<x.t then [x] else [])++meet a b r
theorem Ea:∀ (t:S),∀ z∈cT t,z.t<=late t
 |.nil=>by simp[cT]
 |.node x l r=>by
  have h:=Ea l;have g:=Ea r;intro z d;simp only[late,Jo];simp only[cT,X8,X7] at d;rcases d with d|rfl|d
  .have:=h z d;have e:isNil l=Xx:=by cases l <;> simp_all [isNil,cT]
   simp only[e,X4,if_false];split <;> omega
  .split <;> split <;> omega
  .have:=g z d;have e:isNil r=Xx:=by cases r <;> simp_all [isNil,cT]
   simp only[e,X4,if_false];split <;> omega
theorem AU(a b:Xr):∀ t:S,Ord (cT t)->meet a b t=(cT t).filter (meets a b)
 |.nil,_=>rfl
 |.node x l r,h=>by
  let⟨h1,h2,h3,h4⟩:=EJ h;have i:=Ea (.node x l r);unfold meet;split
  .rename_i hc
   symm;rw[Yo];intro z d;have:=i z d;simp[meets];omega
  .rw[AU a b l h1];simp only[cT,Yl]
   congr 1;split
   .rename_i hb
    symm;rw[Yo];intro z d;rcases X7.1 d with rfl|d
    .simp[meets];omega
    .have:=h4 z d;unfold lt at this;simp[meets];omega
   .rename_i hb
    rw[AU a b r h2,Ym];have g:x.f<b:=O;simp only[meets,g,decide_true,Bool.true_and,decide_eq_true_eq];split <;> rfl
end aF
structure je(w:Xz)(b:Xq)(x:aF.It):Prop where
 c0:w.cell? (b,0)=U (V Y x.f)
 c1:w.cell? (b,1)=U ↑x.t
 c2:w.cell? (b,2)=U (V Y x.n)
 c3:w.cell? (b,3)=U ↑x.v
 c4:∃ y,w.cell? (b,4)=U (V Y y)
 c5:∃ y,w.cell? (b,5)=U (V Y y)
 c6:∃ y,w.cell? (b,6)=U (XH y)
 c7:∃ y,w.cell? (b,7)=U (XH y)
 fz:∀ o,w.frozen? ⟨b,o,Z⟩=Xx
def eB(w:Xz):aF.S->XA->J Xq->Prop
 |.nil,p,F=>p=XH Z/\F=[]
 |.node x l r,p,F=>∃ (b:Xq) (pl pr:Xo XE) (Fl Fr:J Xq),p=XH (U ⟨b,0,Z⟩)/\je w b x/\w.cell? ⟨b,4,Z⟩=U (V Y (aF.late (.node x l r)))/\w.cell? ⟨b,5,Z⟩=U (V Y (aF.ht (.node x l r)))/\w.cell? ⟨b,6,Z⟩=U (XH pl)/\w.cell? ⟨b,7,Z⟩=U (XH pr)/\eB w l (XH pl) Fl/\eB w r (XH pr) Fr/\F=b :: (Fl++Fr)/\F.Nodup
structure dO(w:Xz)(b:Xq)(x:aF.It)(l r:aF.S)(pl pr:Xo XE)(Fl Fr:J Xq):Prop where
 n:je w b x
 c6:w.cell? (b,6)=U ↑pl
 c7:w.cell? (b,7)=U ↑pr
 l:eB w l pl Fl
 r:eB w r pr Fr
 nd:(b :: (Fl++Fr)).Nodup
theorem je.lt{x:aF.It}(h:je w b x):b<w:=XV _ _ h.c0
theorem je.off{x:aF.It}(h:je w b x)(k:aH G w w')(d:b ∉ G):je w' b x :=⟨k.cell d h.c0,k.cell d h.c1,k.cell d h.c2,k.cell d h.c3,h.c4.imp (fun _=>k.cell d),h.c5.imp (fun _=>k.cell d),h.c6.imp (fun _=>k.cell d),h.c7.imp (fun _=>k.cell d),fun o=>(k.frozen d h.lt).trans (h.fz o)⟩
theorem je.nH{x:aF.It}(h:je w b x)(y:Xr):je (w.setCell (b,4) y) b x:=by let⟨_,e⟩:=h.c4;exact⟨(bC Xc).trans h.c0,(bC Xc).trans h.c1,(bC Xc).trans h.c2,(bC Xc).trans h.c3,⟨_,Yb _ _ _ e⟩,h.c5.imp (fun _ e=>(bC Xc).trans e),h.c6.imp (fun _ e=>(bC Xc).trans e),h.c7.imp (fun _ e=>(bC Xc).trans e),fun o=>(zF ..).trans (h.fz o)⟩
theorem je.rQ{x:aF.It}(h:je w b x)(y:Xr):je (w.setCell (b,5) y) b x:=by let⟨_,e⟩:=h.c5;exact⟨(bC Xc).trans h.c0,(bC Xc).trans h.c1,(bC Xc).trans h.c2,(bC Xc).trans h.c3,h.c4.imp (fun _ e=>(bC Xc).trans e),⟨_,Yb _ _ _ e⟩,h.c6.imp (fun _ e=>(bC Xc).trans e),h.c7.imp (fun _ e=>(bC Xc).trans e),fun o=>(zF ..).trans (h.fz o)⟩
theorem je.vQ{x:aF.It}(h:je w b x)(y:Xo XE):je (w.setCell (b,6) y) b x:=by let⟨_,e⟩:=h.c6;exact⟨(bC Xc).trans h.c0,(bC Xc).trans h.c1,(bC Xc).trans h.c2,(bC Xc).trans h.c3,h.c4.imp (fun _ e=>(bC Xc).trans e),h.c5.imp (fun _ e=>(bC Xc).trans e),⟨_,Yb _ _ _ e⟩,h.c7.imp (fun _ e=>(bC Xc).trans e),fun o=>(zF ..).trans (h.fz o)⟩
theorem je.dE{x:aF.It}(h:je w b x)(y:Xo XE):je (w.setCell (b,7) y) b x:=by let⟨_,e⟩:=h.c7;exact⟨(bC Xc).trans h.c0,(bC Xc).trans h.c1,(bC Xc).trans h.c2,(bC Xc).trans h.c3,h.c4.imp (fun _ e=>(bC Xc).trans e),h.c5.imp (fun _ e=>(bC Xc).trans e),h.c6.imp (fun _ e=>(bC Xc).trans e),⟨_,Yb _ _ _ e⟩,fun o=>(zF ..).trans (h.fz o)⟩
theorem eB.lt{w:Xz}:∀ {t:aF.S}{p:XA}{F:J Xq},eB w t p F->∀ k∈F,k<w
 |.nil,p,F,h,k,d=>by rw[h.2] at d;cases d
 |.node a l r,p,F,h,k,d=>by
  obtain⟨b,pl,pr,Fl,Fr,rfl,n,x,s,q,m,i,g,rfl,j⟩:=h;rcases X7.1 d with rfl|d
  .exact n.lt
  .rcases X8.1 d with d|d
   .exact eB.lt i k d
   .exact eB.lt g k d
theorem eB.off{G:J Xq}{w w':Xz}(h:aH G w w'):∀ {t:aF.S}{p:XA}{F:J Xq},eB w t p F->(∀ k∈F,k ∉ G)->eB w' t p F
 |.nil,p,F,d,_=>d
 |.node a l r,p,F,d,hd=>by obtain⟨b,pl,pr,Fl,Fr,rfl,n,y,x,s,q,m,d,rfl,j⟩:=d;have g:=hd b Xc;exact⟨b,pl,pr,Fl,Fr,rfl,n.off h g,h.cell g y,h.cell g x,h.cell g s,h.cell g q,eB.off h m (fun k i=>hd k (by simp[i])),eB.off h d (fun k i=>hd k (by simp[i])),rfl,j⟩
theorem eB.same{t:aF.S}(h:eB w t p F)(k:aH [] w w'):eB w' t p F:=h.off k (fun _ _=>by simp)
theorem eB.later{t:aF.S}(h:eB w t p F)(k:XC w w w'):eB w' t p F:=h.same (aH.aD k)
theorem eB.nodup{t:aF.S}(h:eB w t p F):F.Nodup:=by
 cases t with
 |nil=>rw[h.2];exact X9
 |node a l r=>let⟨b,_,_,_,_,_,_,_,_,_,_,_,_,_,nd⟩:=h;exact nd
theorem eB.half{x:aF.It}{l r:aF.S}(h:eB w (.node x l r) u F):∃ (b:Xq)(pl pr:Xo XE)(Fl Fr:J Xq),u=U ⟨b,0,Z⟩/\F=b :: (Fl++Fr)/\dO w b x l r pl pr Fl Fr/\w.cell? (b,4)=U (V Y (aF.late (.node x l r)))/\w.cell? (b,5)=U (V Y (aF.ht (.node x l r))):=by
 let⟨b,pl,pr,Fl,Fr,hp,n,c4,c5,c6,c7,hl,hr,hF,nd⟩:=h
 cases hp;exact⟨b,pl,pr,Fl,Fr,rfl,hF,⟨n,c6,c7,hl,hr,hF ▸ nd⟩,c4,c5⟩
theorem dO.rep{x:aF.It}{l r:aF.S}(h:dO w b x l r pl pr Fl Fr)(g:w.cell? (b,4)=U (V Y (aF.late (.node x l r))))(d:w.cell? (b,5)=U (V Y (aF.ht (.node x l r)))):eB w (.node x l r) b (b :: (Fl++Fr)) :=⟨b,pl,pr,Fl,Fr,rfl,h.n,g,d,h.c6,h.c7,h.l,h.r,rfl,h.nd⟩
theorem dO.off{x:aF.It}{l r:aF.S}(h:dO w b x l r pl pr Fl Fr)(k:aH G w w')(d:b ∉ G)(i:∀ y∈Fl,y ∉ G)(g:∀ y∈Fr,y ∉ G):dO w' b x l r pl pr Fl Fr :=⟨h.n.off k d,k.cell d h.c6,k.cell d h.c7,h.l.off k i,h.r.off k g,h.nd⟩
theorem dO.same{x:aF.It}{l r:aF.S}(h:dO w b x l r pl pr Fl Fr)(k:aH [] w w'):dO w' b x l r pl pr Fl Fr:=h.off k Xc Xc Xc
theorem dO.parts{x:aF.It}{l r:aF.S}(h:dO w b x l r pl pr Fl Fr):b ∉ Fl/\b ∉ Fr/\(∀ y∈Fl,y ∉ [b])/\(∀ y∈Fr,y ∉ [b])/\(∀ y∈Fr,y ∉ Fl)/\(∀ y∈Fl,y ∉ Fr)/\Fl.Nodup/\Fr.Nodup:=by have i:=h.nd;rw[Ya,Yf] at i;let⟨n1,n2,n3,n4⟩:=i;exact⟨fun e=>n1 (by simp[e]),fun e=>n1 (by simp[e]),fun y d=>by grind,fun y d=>by grind,fun y g d=>n4 y d y g rfl,fun y g d=>n4 y g y d rfl,n2,n3⟩
theorem dO.lt{x:aF.It}{l r:aF.S}(h:dO w b x l r pl pr Fl Fr):∀ k∈b :: (Fl++Fr),k<w:=by
 intro k d;rcases X7.1 d with rfl|d
 .exact h.n.lt
 .rcases X8.1 d with d|d
  .exact h.l.lt k d
  .exact h.r.lt k d
theorem dO.nH{x:aF.It}{l r:aF.S}(h:dO w b x l r pl pr Fl Fr)(y:Xr):dO (w.setCell (b,4) y) b x l r pl pr Fl Fr :=⟨h.n.nH y,(bC Xc).trans h.c6,(bC Xc).trans h.c7,h.l.off (aH.bM ..) h.parts.2.2.1,h.r.off (aH.bM ..) h.parts.2.2.2.1,h.nd⟩
theorem dO.rQ{x:aF.It}{l r:aF.S}(h:dO w b x l r pl pr Fl Fr)(y:Xr):dO (w.setCell (b,5) y) b x l r pl pr Fl Fr :=⟨h.n.rQ y,(bC Xc).trans h.c6,(bC Xc).trans h.c7,h.l.off (aH.bM ..) h.parts.2.2.1,h.r.off (aH.bM ..) h.parts.2.2.2.1,h.nd⟩
theorem dO.mI{x:aF.It}{r i:aF.S}(h:je w b x)(m:w.cell? (b,7)=U ↑pr)(l:eB w i u F')(k:eB w r pr Fr)(g:(b :: (F'++Fr)).Nodup):dO (w.setCell (b,6) u) b x i r u pr F' Fr:=by let⟨_,e⟩:=h.c6;have d:=g;rw[Ya,Yf] at d;exact⟨h.vQ u,Yb _ _ _ e,(bC Xc).trans m,l.off (aH.bM ..) (fun y j=>by grind),k.off (aH.bM ..) (fun y j=>by grind),g⟩
theorem dO.lA{x:aF.It}{l g:aF.S}(h:je w b x)(q:w.cell? (b,6)=U ↑pl)(m:eB w l pl Fl)(k:eB w g u F')(i:(b :: (Fl++F')).Nodup):dO (w.setCell (b,7) u) b x l g pl u Fl F':=by let⟨_,e⟩:=h.c7;have d:=i;rw[Ya,Yf] at d;exact⟨h.dE u,(bC Xc).trans q,Yb _ _ _ e,m.off (aH.bM ..) (fun y j=>by grind),k.off (aH.bM ..) (fun y j=>by grind),i⟩
theorem U9(w:Xz):XD prog 248 #[XH Z] w fun e w'=>e=XQ (V Y 0)/\w'=w:=by
 go_in;go_wp2;go_ret;exact⟨rfl,rfl⟩
theorem Wh(b:Xq)(x:Xr)(w:Xz)(d:w.cell? (b,5)=U ↑x):XD prog 248 #[b] w fun e w'=>e=XQ x/\w'=w:=by
 go_in;go_wp2;go_ret;exact⟨rfl,rfl⟩
theorem mA{t:aF.S}(w:Xz)(h:eB w t u F):XD prog 248 #[u] w fun e w'=>e=XQ (V Y (aF.ht t))/\w'=w:=by
 cases t with
 |nil=>let⟨h1,_⟩:=h;cases h1;exact U9 w
 |node a l r=>let⟨b,pl,pr,Fl,Fr,hp,n,c4,c5,_⟩:=h;cases hp;exact Wh b _ w c5
theorem dO.drew{x:aF.It}{l r:aF.S}(h:dO w b x l r pl pr Fl Fr):dO w.drew b x l r pl pr Fl Fr:=h.same (aH.refl _ _).drew
theorem DJ{x:aF.It}{l r:aF.S}(h:dO w b x l r pl pr Fl Fr):w.cell? (b,6)=U ↑pl/\w.cell? (b,7)=U ↑pr/\dO w b x l r pl pr Fl Fr:=⟨h.c6,h.c7,h⟩
def AA(w:Xz)(t:aF.S):Xo XE->Prop
 |none=>aF.isNil t=Xy
 |some a=>a.off=0/\a.spot=Z/\aF.isNil t=Xx/\w.cell? (a.block,4)=U (V Y (aF.late t))
theorem eB.AA{t:aF.S}(h:eB w t (XH u) F):AA w t u:=by
 cases t with
 |nil=>let⟨h1,_⟩:=h;cases h1;rfl
 |node a l r=>let⟨b,pl,pr,Fl,Fr,hp,n,c4,_⟩:=h;cases hp;exact⟨rfl,rfl,rfl,c4⟩
structure ya(w wx:Xz)(b:Xq)(x:aF.It)(l r:aF.S)(pl pr:Xo XE)(Fl Fr:J Xq)(hh m:Xr):Prop where
 half:dO wx b x l r pl pr Fl Fr
 c4:wx.cell? (b,4)=U ↑m
 c5:wx.cell? (b,5)=U ↑hh
 off:aH [b] w wx
theorem ya.nH{wx:Xz}{x:aF.It}{l r:aF.S}{d m:Xr}(h:ya w wx b x l r pl pr Fl Fr d m)(m':Xr):ya w (wx.setCell (b,4) m').drew b x l r pl pr Fl Fr d m' :=⟨(h.half.nH m').drew,Yb _ _ _ h.c4,(bC Xc).trans h.c5,(h.off.setCell (.inl Xc) _ _).drew⟩
theorem yY(w:Xz)(b:Xq)(x:aF.It)(l r:aF.S)(pl pr:Xo XE)(Fl Fr:J Xq)(h:dO w b x l r pl pr Fl Fr)(hl:aF.ht l<=100000)(hr:aF.ht r<=100000):XD prog 251 #[b] w fun e w'=>e=XQ (XL #[])/\eB w' (.node x l r) b (b :: (Fl++Fr))/\aH [b] w w':=by
 have h1:=aF.mB l;have h2:=aF.mB r;have e3:XP.wrap (1+if aF.ht l<aF.ht r then aF.ht r else aF.ht l)=1+max (aF.ht l) (aF.ht r):=by rw[DE];exact dJ O O
 have E3:=aB e3;clear e3;have f5:=h.n.fz 5;obtain⟨y5,c5⟩:=h.n.c5;have d:((w.setCell (b,5) (V XP (1+max (aF.ht l) (aF.ht r)))).drew).cell? (b,5)=U (V XP (1+max (aF.ht l) (aF.ht r))):=zm _ _ _ c5;have g:=aB (Yc (h.rQ (1+max (aF.ht l) (aF.ht r))).drew (Yc d ((aH.bM b w 5 (V XP (1+max (aF.ht l) (aF.ht r)))).drew)));clear d;go_in;go_wp21;go_region_held3 (fun w'=>w'.cell? (b,6)=U ↑pl/\w'.cell? (b,7)=U ↑pr/\dO w' b x l r pl pr Fl Fr)
  (first
   |exact DJ h.drew
   |exact DJ (dO.drew (dO.rQ h _)))
  (first
   |(go_at_call_of 248 (XH pl);go_split_ands;refine aY (mA _ (dO.l Xe)) ?_)
   |(go_at_call_of 248 (XH pr);go_split_ands;refine aY (mA _ (dO.r Xe)) ?_))
 rw[E3,vV];obtain⟨j,P,H⟩:=g.out;clear g;generalize (Yd _ (b,5) (V XP (1+max (aF.ht l) (aF.ht r)))).drew=X at j P H ⊢;clear h f5 c5;have c1:=j.n.c1;have c6:=j.c6;have c7:=j.c7;obtain⟨y4,c4⟩:=j.n.c4;have I:=j.n.fz 4;have d:(X.setCell (b,4) x.t).cell? (b,4)=U ↑x.t:=zm _ _ _ c4;have y:(X.setCell (b,4) x.t).cell? (b,5)=U (V XP (1+max (aF.ht l) (aF.ht r))):=(bC Xc).trans P;have g:=aB (Yc (j.nH x.t) (Yc d (Yc y (H.setCell (R:=b) (.inl Xc) 4 x.t))));clear d y;go_upto_region 2 with fail;obtain⟨i,E,D,C⟩:=g.out;clear g c1 c6 c7 c4 I j P H;generalize (Yd X (b,4) x.t)=Y at i E D C ⊢;have d6:=i.c6;go_upto_if 28 with fail;clear d6;go_cut [28] from 24 to 43 (fun _ wx=>ya w wx b x l r pl pr Fl Fr (1+max (aF.ht l) (aF.ht r)) (if aF.isNil l then x.t else max x.t (aF.late l)))
 .have d6:=i.c6;have d7:=i.c7;have I:=i.n.fz 4;have W:=i.l.AA
  cases pl with
  |none =>have z:aF.isNil l=Xy:=W;go_wp21;go_meet;rw[Xt z];exact⟨i,E,D,C⟩
  |some q =>
   obtain⟨Q,ol,sl⟩:=q;obtain⟨L,K,z,A⟩:=W
   cases L
   cases K;have A:Y.cell? (Q,4)=U (V XP (aF.late l)):=A;go_wp21;go_region;all_goals rw[vV];go_wp21;go_meet;rw[Xs (by simp[z])];exact ya.nH ⟨i,E,D,C⟩ _
 .have k:=hcut;clear hcut i E D C;have m4:=k.c4;have B:=aB k;have e9:aF.late (.node x l r)=if aF.isNil r then (if aF.isNil l then x.t else max x.t (aF.late l)) else max (if aF.isNil l then x.t else max x.t (aF.late l)) (aF.late r):=rfl
  have E9:=aB e9;clear e9;generalize (if aF.isNil l then x.t else max x.t (aF.late l))=m at *;have d7:=k.half.c7;have I:=k.half.n.fz 4;have T:=k.half.r.AA;clear k
  cases pr with
  |none =>have er:aF.isNil r=Xy:=T;have s:=aB (B.half.rep (by rw[B.c4,E9,Xt er]) B.c5);go_wp21;go_end0;exact⟨rfl,s,B.off⟩
  |some q =>
   obtain⟨Q,ol,sl⟩:=q;obtain⟨L,K,z,A⟩:=T
   cases L
   cases K;have A:wc.cell? (Q,4)=U (V XP (aF.late r)):=A;have s:=aB (B.nH (max m (aF.late r)));have HR:=aB (s.half.rep (by rw[s.c4,E9,Xs (by simp[z])]) s.c5);go_wp21;go_region;all_goals rw[vV];go_wp21;go_end0;exact⟨rfl,HR,s.off⟩
def nE(w:Xz)(F:J Xq)(d:aF.S)(e:Ending)(w':Xz):Prop :=∃ (u:Xo XE) (F':J Xq),e=XQ u/\eB w' d u F'/\(∀ k∈F',k∈F)/\aH F w w'
theorem Mn{a b:J Xq}(h:a.Perm b)(k:a.Nodup):b.Nodup:=h.nodup_iff.1 k
theorem Wq{x y:aF.It}{s t r:aF.S}(h:dO w b x (.node y s t) r u pr Fl Fr):
  ∃ (bl:Xq) (pa d:Xo XE) (Fa g:J Xq),u=U ⟨bl,0,Z⟩/\Fl=bl :: (Fa++g)/\w.cell? (bl,7)=U ↑d/\w.frozen? (bl,7)=Xx/\b≠bl /\
   dO ((w.setCell (b,6) d).setCell (bl,7) b) b x t r d pr g Fr /\
   (∀ w2,eB w2 (.node x t r) b (b :: (g++Fr))->aH [b] ((w.setCell (b,6) d).setCell (bl,7) b) w2->dO w2 bl y s (.node x t r) pa b Fa (b :: (g++Fr))) /\
   aH (b :: (Fl++Fr)) w ((w.setCell (b,6) d).setCell (bl,7) b):=by
 obtain⟨bl,pa,d,Fa,g,rfl,rfl,j,_,_⟩:=h.l.half;have E:=h.nd;have B:b≠bl:=Xi;have A:(b :: (g++Fr)).Nodup:=by refine Yp ?_ E;exact Yq _ (Yr (Ys (List.sublist_append_right Fa g) (Yt _ _)) (Yu _))
 have m:aH [b] w (w.setCell (b,6) d):=aH.bM ..;have D:aH [bl] (w.setCell (b,6) d) ((w.setCell (b,6) d).setCell (bl,7) b):=aH.bM ..;have H:∀ k,k∈Fa\/k∈g\/k∈Fr->k≠b/\k≠bl:=Xi;have P:dO (w.setCell (b,6) d) b x t r d pr g Fr:=dO.mI h.n h.c7 j.r h.r A;have C:dO ((w.setCell (b,6) d).setCell (bl,7) b) b x t r d pr g Fr :=P.off D Xi (fun k z=>by grind) (fun k z=>by grind)
 refine⟨bl,pa,d,Fa,g,rfl,rfl,j.c7,j.n.fz 7,B,C,fun w2 L q=>?_,?_⟩
 .have K:je ((w.setCell (b,6) d).setCell (bl,7) b) bl y:=(j.n.off m Xi).dE _;have T:((w.setCell (b,6) d).setCell (bl,7) b).cell? (bl,6)=U ↑pa:=(bC Xc).trans (m.cell Xi j.c6);have R:((w.setCell (b,6) d).setCell (bl,7) b).cell? (bl,7)=U ↑b:=zm _ _ _ (m.cell Xi j.c7)
  have Q:eB ((w.setCell (b,6) d).setCell (bl,7) b) s pa Fa :=(j.l.off m (fun k z=>by grind)).off D (fun k z=>by grind)
  have i:bl ∉ [b]:=Xi;refine⟨K.off q i,q.cell i T,q.cell i R,Q.off q (fun k z=>by grind),L,?_⟩;refine Mn ?_ E;have I:(b :: (bl :: (Fa++g)++Fr)).Perm (bl :: b :: (Fa++(g++Fr))):=Xi;exact I.trans (Yv _ Yw.symm)
 .exact ((aH.bM b w 6 _).mono Xc).setCell (.inl Xc) _ _
theorem Wp{x y:aF.It}{s t l:aF.S}(h:dO w b x l (.node y s t) pl u Fl Fr):
  ∃ (br:Xq) (d pb:Xo XE) (Fa Fb:J Xq),u=U ⟨br,0,Z⟩/\Fr=br :: (Fa++Fb)/\w.cell? (br,6)=U ↑d/\w.frozen? (br,6)=Xx/\b≠br /\
   dO ((w.setCell (b,7) d).setCell (br,6) b) b x l s pl d Fl Fa /\
   (∀ w2,eB w2 (.node x l s) b (b :: (Fl++Fa))->aH [b] ((w.setCell (b,7) d).setCell (br,6) b) w2->dO w2 br y (.node x l s) t b pb (b :: (Fl++Fa)) Fb) /\
   aH (b :: (Fl++Fr)) w ((w.setCell (b,7) d).setCell (br,6) b):=by
 obtain⟨br,d,pb,Fa,Fb,rfl,rfl,i,_,_⟩:=h.r.half;have D:=h.nd;have A:b≠br:=Xi;have z:(b :: (Fl++Fa)).Nodup:=by refine Yp ?_ D;exact Yq _ (Yr (Yu _) (Ys (List.sublist_append_left Fa Fb) (Yt _ _)))
 have j:aH [b] w (w.setCell (b,7) d):=aH.bM ..;have C:aH [br] (w.setCell (b,7) d) ((w.setCell (b,7) d).setCell (br,6) b):=aH.bM ..;have E:∀ k,k∈Fl\/k∈Fa\/k∈Fb->k≠b/\k≠br:=Xi;have L:dO (w.setCell (b,7) d) b x l s pl d Fl Fa:=dO.lA h.n h.c6 h.l i.l z;have B:dO ((w.setCell (b,7) d).setCell (br,6) b) b x l s pl d Fl Fa :=L.off C Xi (fun k q=>by grind) (fun k q=>by grind)
 refine⟨br,d,pb,Fa,Fb,rfl,rfl,i.c6,i.n.fz 6,A,B,fun w2 K m=>?_,?_⟩
 .have I:je ((w.setCell (b,7) d).setCell (br,6) b) br y:=(i.n.off j Xi).vQ _;have R:((w.setCell (b,7) d).setCell (br,6) b).cell? (br,6)=U ↑b:=zm _ _ _ (j.cell Xi i.c6);have Q:((w.setCell (b,7) d).setCell (br,6) b).cell? (br,7)=U ↑pb:=(bC Xc).trans (j.cell Xi i.c7)
  have P:eB ((w.setCell (b,7) d).setCell (br,6) b) t pb Fb :=(i.r.off j (fun k q=>by grind)).off C (fun k q=>by grind)
  have g:br ∉ [b]:=Xi;refine⟨I.off m g,m.cell g R,m.cell g Q,K,P.off m (fun k q=>by grind),?_⟩;refine Mn ?_ D;have H:(b :: (Fl++br :: (Fa++Fb))).Perm (b :: br :: (Fl++(Fa++Fb))):=Yv _ Yw;refine H.trans ((List.Perm.swap br b _).trans (Yv _ ?_));simp[List.append_assoc]
 .exact ((aH.bM b w 7 _).mono Xc).setCell (.inl Xc) _ _
theorem Gi(w:Xz)(b:Xq)(x y:aF.It)(s t r:aF.S)(u pr:Xo XE)(Fl Fr:J Xq)(h:dO w b x (.node y s t) r u pr Fl Fr)(h1:aF.ht s<=50000)(W:aF.ht t<=50000)(T:aF.ht r<=50000):XD prog 250 #[b] w (nE w (b :: (Fl++Fr)) (.node y s (.node x t r))):=by
 obtain⟨Q,C,B,R,A,rfl,rfl,L,H,D,q,m,l⟩:=Wq h;have P:=h.c6;have I:=h.n.fz 6;have j:aF.ht (.node x t r)<=100000:=by simp only[aF.ht];omega
 have G:=aB (Yc q (Yc m l));clear q m l h;go_in;go_wp21;refine aK (yY _ b x t r B pr A Fr G.1 O O) ?_;rintro w2 ⟨g,d⟩;have K:=aB (Yc (G.2.1 w2 g d) (G.2.2.trans' d (fun z i=>by simp at i;subst i;exact .inl Xc)));clear g d G L P H I;go_wp21;refine aK (yY _ Q y s (.node x t r) C b R (b :: (A++Fr)) K.1 O j) ?_;rintro w3 ⟨g,d⟩;have M:=aB (Yc g (K.2.trans' d (fun z i=>by simp at i;subst i;exact .inl Xc)));clear g d K;go_wp21;go_ret;exact⟨_,_,rfl,M.1,(by intro k E;simp only[X7,X8] at E ⊢;grind),M.2⟩
theorem Gk(w:Xz)(b:Xq)(x y:aF.It)(s t l:aF.S)(u pl:Xo XE)(Fl Fr:J Xq)(h:dO w b x l (.node y s t) pl u Fl Fr)(h1:aF.ht s<=50000)(W:aF.ht t<=50000)(T:aF.ht l<=50000):XD prog 249 #[b] w (nE w (b :: (Fl++Fr)) (.node y (.node x l s) t)):=by
 obtain⟨Q,C,B,A,R,rfl,rfl,P,I,D,r,q,m⟩:=Wp h;have L:=h.c7;have H:=h.n.fz 7;have j:aF.ht (.node x l s)<=100000:=by simp only[aF.ht];omega
 have G:=aB (Yc r (Yc q m));clear r q m h;go_in;go_wp21;refine aK (yY _ b x l s pl C Fl A G.1 O O) ?_;rintro w2 ⟨g,d⟩;have K:=aB (Yc (G.2.1 w2 g d) (G.2.2.trans' d (fun z i=>by simp at i;subst i;exact .inl Xc)));clear g d G L P H I;go_wp21;refine aK (yY _ Q y (.node x l s) t b B (b :: (Fl++A)) R K.1 j O) ?_;rintro w3 ⟨g,d⟩;have M:=aB (Yc g (K.2.trans' d (fun z i=>by simp at i;subst i;exact .inl Xc)));clear g d K;go_wp21;go_ret;exact⟨_,_,rfl,M.1,(by intro k E;simp only[X7,X8] at E ⊢;grind),M.2⟩
theorem dO.uh{x:aF.It}{l r m:aF.S}(h:dO w b x l r pl pr Fl Fr)(q:eB w2 m u F')(j:∀ k∈F',k∈Fl\/w<=k)(i:aH Fl w w2):dO (w2.setCell (b,6) u) b x m r u pr F' Fr/\(∀ k∈b :: (F'++Fr),k∈b :: (Fl++Fr)\/w<=k)/\aH (b :: (Fl++Fr)) w (w2.setCell (b,6) u):=by
 let⟨n1,n2,n3,n4,n5,n6,n7,n8⟩:=h.parts;have g:=h.lt;refine⟨dO.mI (h.n.off i n1) (i.cell n1 h.c7) q (h.r.off i n5) ?_,fun k d=>?_,?_⟩
 .refine Ya.2 ⟨fun e=>?_,Yf.2 ⟨q.nodup,n8,fun y t z s e=>?_⟩⟩
  .rcases X8.1 e with e|e
   .rcases j b e with e|e
    .exact n1 e
    .have:=g b Xc;omega
   .exact n2 e
  .subst e;rcases j y t with e|e
   .exact n5 y s e
   .have:=g y (by simp[s]);omega
 .rcases X7.1 d with rfl|d
  .exact .inl Xc
  .rcases X8.1 d with d|d
   .rcases j k d with e|e
    .exact .inl (by simp[e])
    .exact .inr e
   .exact .inl (by simp[d])
 .exact (i.mono Xi).setCell (.inl Xc) _ _
theorem dO.wZ{x:aF.It}{l r m:aF.S}(h:dO w b x l r pl pr Fl Fr)(q:eB w2 m u F')(j:∀ k∈F',k∈Fr\/w<=k)(i:aH Fr w w2):dO (w2.setCell (b,7) u) b x l m pl u Fl F'/\(∀ k∈b :: (Fl++F'),k∈b :: (Fl++Fr)\/w<=k)/\aH (b :: (Fl++Fr)) w (w2.setCell (b,7) u):=by
 let⟨n1,n2,n3,n4,n5,n6,n7,n8⟩:=h.parts;have g:=h.lt;refine⟨dO.lA (h.n.off i n2) (i.cell n2 h.c6) (h.l.off i n6) q ?_,fun k d=>?_,?_⟩
 .refine Ya.2 ⟨fun e=>?_,Yf.2 ⟨n7,q.nodup,fun y s z t e=>?_⟩⟩
  .rcases X8.1 e with e|e
   .exact n1 e
   .rcases j b e with e|e
    .exact n2 e
    .have:=g b Xc;omega
  .subst e;rcases j y t with e|e
   .exact n6 y s e
   .have:=g y (by simp[s]);omega
 .rcases X7.1 d with rfl|d
  .exact .inl Xc
  .rcases X8.1 d with d|d
   .exact .inl (by simp[d])
   .rcases j k d with e|e
    .exact .inl (by simp[e])
    .exact .inr e
 .exact (i.mono Xi).setCell (.inl Xc) _ _
theorem nE.of{t:aF.S}{e:Ending}(h:nE w1 G t e w')(k:aH F w w1)(d:∀ k∈G,k∈F):nE w F t e w':=by obtain⟨u,F',rfl,m,l,j⟩:=h;exact⟨u,F',rfl,m,fun k i=>d k (l k i),k.trans' j (fun x g=>.inl (d x g))⟩
theorem b3S(w:Xz)(b:Xq)(x:aF.It)(l r:aF.S)(pl pr:Xo XE)(Fl Fr:J Xq)(h:dO w b x l r pl pr Fl Fr)(s:aF.ht l<=40000)(q:aF.ht r<=40000)(y:¬ 1<aF.ht l-aF.ht r)(t:¬ aF.ht l-aF.ht r < -1):XD prog 232 #[b] w (nE w (b :: (Fl++Fr)) (.node x l r)):=by
 have B:=aF.mB l;have A:=aF.mB r;have k:Y.wrap (aF.ht l-aF.ht r)=aF.ht l-aF.ht r:=dJ O O;go_in;go_upto_region 1 with fail;go_region_held3 (fun w'=>w'.cell? (b,6)=U ↑pl/\w'.cell? (b,7)=U ↑pr/\dO w' b x l r pl pr Fl Fr)
  (exact DJ h.drew)
  (first
   |(go_at_call_of 248 (XH pl);go_split_ands;refine aY (mA _ (dO.l Xe)) ?_)
   |(go_at_call_of 248 (XH pr);go_split_ands;refine aY (mA _ (dO.r Xe)) ?_))
 have H:=aB h.drew;have j:=aB ((aH.refl (b :: (Fl++Fr)) _).drew:aH _ w w.drew);clear h;go_wp21;refine aK (yY _ b x l r pl pr Fl Fr H O O) ?_;rintro w2 ⟨g,d⟩;have K:=aB (Yc g (j.trans' d (fun z i=>by simp at i;subst i;exact .inl Xc)));clear g d H j;go_wp21;go_ret;exact⟨_,_,rfl,K.1,fun _ m=>m,K.2⟩
theorem W9(w:Xz)(b:Xq)(x y:aF.It)(s t:aF.S)(r:aF.S)(u pr:Xo XE)(Fl Fr:J Xq)(h:dO w b x (.node y s t) r u pr Fl Fr)(hs:aF.ht s<=40000)(ht:aF.ht t<=40000)(ho:aF.ht r<=40000)(h1:1<aF.ht (.node y s t)-aF.ht r):XD prog 232 #[b] w (nE w (b :: (Fl++Fr)) (aF.tA x (.node y s t) r)):=by
 have g0:=aF.mB s;have g1:=aF.mB t;have g2:=aF.mB r;have g3:aF.ht (.node y s t)=1+max (aF.ht s) (aF.ht t):=rfl;obtain⟨d,D,C,Fs,Ft,rfl,rfl,B,_,_⟩:=h.l.half;have RB:=aB (fun w' (k:aH [] w w')=>Yc (h.same k) (B.same k));have TB:=aB (fun w' (k:aH [] w w')=>mA w' (h.same k).l);generalize aF.ht (.node y s t)=hty at *;have ab:Y.wrap (hty-aF.ht r)=hty-aF.ht r:=dJ O O;by_cases hc:aF.ht s<aF.ht t
 .have eb:aF.tA x (.node y s t) r=aF.uG (.node x (aF.uF (.node y s t)) r):=by unfold aF.tA;rw[Xt (by simpa[aF.left,aF.right] using hc)]
  rw[eb];obtain⟨z,m,j,rfl⟩:=aF.Bk (t:=t) O;have gz:aF.ht (.node z m j)=1+max (aF.ht m) (aF.ht j):=rfl;have g4:=aF.mB m;have g5:=aF.mB j;have q1:aF.ht m<=40000:=O;have q2:aF.ht j<=40000:=O;have R:=aB (fun w' (k:aH [] w w')=>mA w' (B.same k).r);have T:=aB (fun w' (k:aH [] w w')=>mA w' (B.same k).l);generalize aF.ht (.node z m j)=htt at *;go_in;go_upto_region 1 with fail;have H:=(RB w.drew (aH.refl _ _).drew).1.c6;have Q:=(RB w.drew (aH.refl _ _).drew).1.c7;go_region_held3 (fun w'=>w'.cell? (b,6)=U ↑d/\w'.cell? (b,7)=U ↑pr/\w'=w.drew)
   (exact⟨H,Q,rfl⟩)
   (first
    |(go_at_call_of 248 (XH (U (Addr.mk d 0 Z)));go_split_ands;refine aY (TB _ (aH.refl _ _).drew) ?_)
    |(go_at_call_of 248 (XH pr);go_split_ands;refine aY (mA _ (RB _ (aH.refl _ _).drew).1.r) ?_))
  go_upto_region 3 with fail;have P:=(RB w.drew.drew (aH.refl _ _).drew.drew).1.c6;have L:=(RB w.drew.drew (aH.refl _ _).drew.drew).2.c6;have K:=(RB w.drew.drew (aH.refl _ _).drew.drew).2.c7;go_region_held3 (fun w'=>w'.cell? (b,6)=U ↑d/\w'.cell? (d,6)=U ↑D/\w'.cell? (d,7)=U ↑C/\w'=w.drew.drew)
   (exact⟨P,L,K,rfl⟩)
   (first
    |(go_at_call_of 248 (XH D);go_split_ands;refine aY (T _ (aH.refl _ _).drew.drew) ?_)
    |(go_at_call_of 248 (XH C);go_split_ands;refine aY (R _ (aH.refl _ _).drew.drew) ?_))
  have g:=RB w.drew.drew (aH.refl _ _).drew.drew;have W:=aB ((aH.refl (b :: ((d :: (Fs++Ft))++Fr)) _).drew.drew:aH _ w w.drew.drew);have q:=aB g;go_wp21;have g:=q.out;refine (Gk _ d y z m j s _ _ _ _ g.2 O O O).mono ?_;rintro e w2 ⟨u2,F2,rfl,I,E,A⟩;obtain⟨m1,m2,m3⟩:=g.1.uh I (fun k i=>.inl (E k i)) A;have H:=A.cell (o:=6) g.1.parts.1 g.1.c6;have f6:=(A.frozen (o:=6) g.1.parts.1 g.1.n.lt).trans (g.1.n.fz 6);have M:=aB (Yc m1 (Yc E (W.trans m3)));go_wp21;refine (Gi _ b x z (.node y s m) j r _ _ _ _ M.1 (by simp only[aF.ht];omega) O O).mono ?_;rintro e w3 i;have HK:=aB (i.of M.2.2 (by intro k i;have:=M.2.1;simp only[X7,X8] at *;grind));obtain⟨u3,F3,rfl,I,E,A⟩:=i;go_wp21;go_ret;exact HK
 .have eb:aF.tA x (.node y s t) r=aF.uG (.node x (.node y s t) r):=by unfold aF.tA;rw[Xs (by simpa[aF.left,aF.right] using hc)]
  rw[eb];have R:=aB (fun w' (k:aH [] w w')=>mA w' (B.same k).r);have T:=aB (fun w' (k:aH [] w w')=>mA w' (B.same k).l);generalize aa:aF.ht t=htt at *;go_in;go_upto_region 1 with fail;have H:=(RB w.drew (aH.refl _ _).drew).1.c6;have Q:=(RB w.drew (aH.refl _ _).drew).1.c7;go_region_held3 (fun w'=>w'.cell? (b,6)=U ↑d/\w'.cell? (b,7)=U ↑pr/\w'=w.drew)
   (exact⟨H,Q,rfl⟩)
   (first
    |(go_at_call_of 248 (XH (U (Addr.mk d 0 Z)));go_split_ands;refine aY (TB _ (aH.refl _ _).drew) ?_)
    |(go_at_call_of 248 (XH pr);go_split_ands;refine aY (mA _ (RB _ (aH.refl _ _).drew).1.r) ?_))
  go_upto_region 3 with fail;have P:=(RB w.drew.drew (aH.refl _ _).drew.drew).1.c6;have L:=(RB w.drew.drew (aH.refl _ _).drew.drew).2.c6;have K:=(RB w.drew.drew (aH.refl _ _).drew.drew).2.c7;go_region_held3 (fun w'=>w'.cell? (b,6)=U ↑d/\w'.cell? (d,6)=U ↑D/\w'.cell? (d,7)=U ↑C/\w'=w.drew.drew)
   (exact⟨P,L,K,rfl⟩)
   (first
    |(go_at_call_of 248 (XH D);go_split_ands;refine aY (T _ (aH.refl _ _).drew.drew) ?_)
    |(go_at_call_of 248 (XH C);go_split_ands;refine aY (R _ (aH.refl _ _).drew.drew) ?_))
  have g:=RB w.drew.drew (aH.refl _ _).drew.drew;have W:=aB ((aH.refl (b :: ((d :: (Fs++Ft))++Fr)) _).drew.drew:aH _ w w.drew.drew);have q:=aB g;go_wp21;have g:=q.out;refine (Gi _ b x y s t r _ _ _ _ g.1 O O O).mono ?_;rintro e w3 i;have HK:=aB (i.of W (fun _ i=>i));obtain⟨u3,F3,rfl,I,E,A⟩:=i;go_wp21;go_ret;exact HK
theorem Xa(w:Xz)(b:Xq)(x y:aF.It)(s t:aF.S)(l:aF.S)(u pl:Xo XE)(Fl Fr:J Xq)(h:dO w b x l (.node y s t) pl u Fl Fr)(hs:aF.ht s<=40000)(ht:aF.ht t<=40000)(ho:aF.ht l<=40000)(h1:aF.ht l-aF.ht (.node y s t) < -1):XD prog 232 #[b] w (nE w (b :: (Fl++Fr)) (aF.tC x l (.node y s t))):=by
 have g0:=aF.mB s;have g1:=aF.mB t;have g2:=aF.mB l;have g3:aF.ht (.node y s t)=1+max (aF.ht s) (aF.ht t):=rfl;obtain⟨d,D,C,Fs,Ft,rfl,rfl,B,_,_⟩:=h.r.half;have RB:=aB (fun w' (k:aH [] w w')=>Yc (h.same k) (B.same k));have TB:=aB (fun w' (k:aH [] w w')=>mA w' (h.same k).r);generalize aF.ht (.node y s t)=hty at *;have aa:Y.wrap (aF.ht l-hty)=aF.ht l-hty:=dJ O O;have nx:¬ 1<aF.ht l-hty:=O;clear g3;by_cases hc:aF.ht t<aF.ht s
 .have eb:aF.tC x l (.node y s t)=aF.uF (.node x l (aF.uG (.node y s t))):=by unfold aF.tC;rw[Xt (by simpa[aF.left,aF.right] using hc)]
  rw[eb];obtain⟨z,m,j,rfl⟩:=aF.Bk (t:=s) O;have gz:aF.ht (.node z m j)=1+max (aF.ht m) (aF.ht j):=rfl;have g4:=aF.mB m;have g5:=aF.mB j;have q1:aF.ht m<=40000:=O;have q2:aF.ht j<=40000:=O;have R:=aB (fun w' (k:aH [] w w')=>mA w' (B.same k).r);have T:=aB (fun w' (k:aH [] w w')=>mA w' (B.same k).l);generalize aF.ht (.node z m j)=hts at *;go_in;go_upto_region 1 with fail;have H:=(RB w.drew (aH.refl _ _).drew).1.c6;have Q:=(RB w.drew (aH.refl _ _).drew).1.c7;go_region_held3 (fun w'=>w'.cell? (b,6)=U ↑pl/\w'.cell? (b,7)=U ↑d/\w'=w.drew)
   (exact⟨H,Q,rfl⟩)
   (first
    |(go_at_call_of 248 (XH (U (Addr.mk d 0 Z)));go_split_ands;refine aY (TB _ (aH.refl _ _).drew) ?_)
    |(go_at_call_of 248 (XH pl);go_split_ands;refine aY (mA _ (RB _ (aH.refl _ _).drew).1.l) ?_))
  go_upto_region 7 with fail;have P:=(RB w.drew.drew (aH.refl _ _).drew.drew).1.c7;have L:=(RB w.drew.drew (aH.refl _ _).drew.drew).2.c6;have K:=(RB w.drew.drew (aH.refl _ _).drew.drew).2.c7;go_region_held3 (fun w'=>w'.cell? (b,7)=U ↑d/\w'.cell? (d,6)=U ↑D/\w'.cell? (d,7)=U ↑C/\w'=w.drew.drew)
   (exact⟨P,L,K,rfl⟩)
   (first
    |(go_at_call_of 248 (XH D);go_split_ands;refine aY (T _ (aH.refl _ _).drew.drew) ?_)
    |(go_at_call_of 248 (XH C);go_split_ands;refine aY (R _ (aH.refl _ _).drew.drew) ?_))
  have g:=RB w.drew.drew (aH.refl _ _).drew.drew;have W:=aB ((aH.refl (b :: (Fl++(d :: (Fs++Ft)))) _).drew.drew:aH _ w w.drew.drew);have q:=aB g;go_wp21;have g:=q.out;refine (Gi _ d y z m j t _ _ _ _ g.2 O O O).mono ?_;rintro e w2 ⟨u2,F2,rfl,I,E,A⟩;obtain⟨m1,m2,m3⟩:=g.1.wZ I (fun k i=>.inl (E k i)) A;have H:=A.cell (o:=7) g.1.parts.2.1 g.1.c7;have f6:=(A.frozen (o:=7) g.1.parts.2.1 g.1.n.lt).trans (g.1.n.fz 7);have M:=aB (Yc m1 (Yc E (W.trans m3)));go_wp21;refine (Gk _ b x z m (.node y j t) l _ _ _ _ M.1 O (by simp only[aF.ht];omega) O).mono ?_;rintro e w3 i;have HK:=aB (i.of M.2.2 (by intro k i;have:=M.2.1;simp only[X7,X8] at *;grind));obtain⟨u3,F3,rfl,I,E,A⟩:=i;go_wp21;go_ret;exact HK
 .have eb:aF.tC x l (.node y s t)=aF.uF (.node x l (.node y s t)):=by unfold aF.tC;rw[Xs (by simpa[aF.left,aF.right] using hc)]
  rw[eb];have R:=aB (fun w' (k:aH [] w w')=>mA w' (B.same k).r);have T:=aB (fun w' (k:aH [] w w')=>mA w' (B.same k).l);go_in;go_upto_region 1 with fail;have H:=(RB w.drew (aH.refl _ _).drew).1.c6;have Q:=(RB w.drew (aH.refl _ _).drew).1.c7;go_region_held3 (fun w'=>w'.cell? (b,6)=U ↑pl/\w'.cell? (b,7)=U ↑d/\w'=w.drew)
   (exact⟨H,Q,rfl⟩)
   (first
    |(go_at_call_of 248 (XH (U (Addr.mk d 0 Z)));go_split_ands;refine aY (TB _ (aH.refl _ _).drew) ?_)
    |(go_at_call_of 248 (XH pl);go_split_ands;refine aY (mA _ (RB _ (aH.refl _ _).drew).1.l) ?_))
  go_upto_region 7 with fail;have P:=(RB w.drew.drew (aH.refl _ _).drew.drew).1.c7;have L:=(RB w.drew.drew (aH.refl _ _).drew.drew).2.c6;have K:=(RB w.drew.drew (aH.refl _ _).drew.drew).2.c7;go_region_held3 (fun w'=>w'.cell? (b,7)=U ↑d/\w'.cell? (d,6)=U ↑D/\w'.cell? (d,7)=U ↑C/\w'=w.drew.drew)
   (exact⟨P,L,K,rfl⟩)
   (first
    |(go_at_call_of 248 (XH D);go_split_ands;refine aY (T _ (aH.refl _ _).drew.drew) ?_)
    |(go_at_call_of 248 (XH C);go_split_ands;refine aY (R _ (aH.refl _ _).drew.drew) ?_))
  have g:=RB w.drew.drew (aH.refl _ _).drew.drew;have W:=aB ((aH.refl (b :: (Fl++(d :: (Fs++Ft)))) _).drew.drew:aH _ w w.drew.drew);have q:=aB g;go_wp21;have g:=q.out;refine (Gk _ b x y s t l _ _ _ _ g.1 O O O).mono ?_;rintro e w3 i;have HK:=aB (i.of W (fun _ i=>i));obtain⟨u3,F3,rfl,I,E,A⟩:=i;go_wp21;go_ret;exact HK
theorem vt(w:Xz)(b:Xq)(x:aF.It)(l r:aF.S)(pl pr:Xo XE)(Fl Fr:J Xq)(h:dO w b x l r pl pr Fl Fr)(k:aF.ht l<=30000)(j:aF.ht r<=30000):XD prog 232 #[b] w (nE w (b :: (Fl++Fr)) (aF.iM x l r)):=by
 have q:=aF.mB l;have m:=aF.mB r;by_cases d:1<aF.ht l-aF.ht r
 .have e:aF.iM x l r=aF.tA x l r:=by unfold aF.iM;rw[Xt d]
  rw[e];obtain⟨y,s,t,rfl⟩:=aF.Bk (t:=l) O;have i:aF.ht (.node y s t)=1+max (aF.ht s) (aF.ht t):=rfl;exact W9 w b x y s t r pl pr Fl Fr h O O O d
 .by_cases g:aF.ht l-aF.ht r < -1
  .have e:aF.iM x l r=aF.tC x l r:=by unfold aF.iM;rw[Xs d,Xt g]
   rw[e];obtain⟨y,s,t,rfl⟩:=aF.Bk (t:=r) O;have i:aF.ht (.node y s t)=1+max (aF.ht s) (aF.ht t):=rfl;exact Xa w b x y s t l pr pl Fl Fr h O O O g
  .have e:aF.iM x l r=.node x l r:=by unfold aF.iM;rw[Xs d,Xs g]
   rw[e];exact b3S w b x l r pl pr Fl Fr h O O d g
def nR(a b:Xr):Xr:=if a<b then -1 else if b<a then 1 else 0
theorem Fi(a:Xr)(w:Xz):XD prog 245 #[a] w fun e w'=>e=XQ Xx/\w'=w:=by go_in;go_wp2;go_ret;exact⟨qH Xc,rfl⟩
theorem Bs(a b:Xr)(w:Xz):XD prog 221 #[a,b] w fun e w'=>e=XQ (V Y (nR a b))/\w'=w:=by
 by_cases d:a<b
 .go_in
  go_wp2_with (go_at_call 245;refine aY (Fi _ _) ?_);go_ret;exact⟨jy (by simp[nR,d]),rfl⟩
 .by_cases g:b<a
  .go_in
   go_wp2_with (go_at_call 245;refine aY (Fi _ _) ?_);go_ret;exact⟨jy (by rw[nR,Xs O,Xt O]),rfl⟩
  .go_in
   go_wp2_with (go_at_call 245;refine aY (Fi _ _) ?_);go_ret;exact⟨jy (by rw[nR,Xs O,Xs O]),rfl⟩
def rR(x y:Xr):Xr:=if x=0 then y else x
theorem Jk(A:Xq)(x y:Xr)(w:Xz)(l:w.cell? (A,0)=U ↑x)(k:w.cell? (A,1)=U ↑y):XD prog 220 #[.slice A 2 2] w fun e w'=>e=XQ (V Y (rR x y))/\w'=w:=by
 go_in;go_wp2;go_loop [5,8] (fun _ i=>i=V Y 0\/(x=0/\i=V Y 1)\/(x=0/\y=0/\i=V Y 2)) (fun _ i=>2-(intOf i).toNat)
 .exact .inl rfl
 .rcases hrel with rfl|⟨d,rfl⟩|⟨d,g,rfl⟩
  .by_cases d:x=0
   .subst d;go_wp2
    go_round
    .simp
    .simp[intOf]
   .have j:(x != 0)=Xy:=bV d
    go_wp2;go_ret;exact⟨jy (by rw[rR,Xs d]),rfl⟩
  .subst d
   by_cases g:y=0
   .subst g;go_wp2
    go_round
    .simp
    .simp[intOf]
   .have h:(y != 0)=Xy:=bV g
    go_wp2;go_ret;exact⟨jy (by rw[rR,Xt rfl]),rfl⟩
  .subst d;subst g;go_wp2;go_ret;exact⟨jy (by simp[rR]),rfl⟩
theorem Uo(f n:Xr)(x:aF.It):rR (nR f x.f) (nR n x.n)=aF.side f n x:=by grind[rR,nR,aF.side]
theorem Mv(b:Xq)(x:aF.It)(f n:Xr)(w:Xz)(h:je w b x):XD prog 233 #[b,f,n] w fun e w'=>e=XQ (V Y (aF.side f n x))/\XC w w w':=by
 have g:=h.c0;have d:=h.c2;rw[<- Uo];have HP:=aB (fun w'=>Bs f x.f w');have i:=aB (fun w'=>Bs n x.n w');generalize nR f x.f=p at *;generalize nR n x.n=q at *;go_in;go_upto_region 1 with fail;go_region_held3 (fun w'=>w'.cell? (b,0)=U (V Y x.f)/\w'.cell? (b,2)=U (V Y x.n)/\XC w w w')
  (first
   |exact⟨g,d,eN _⟩
   |(go_split_ands;refine⟨?_,?_,?_⟩ <;> assumption)
   |(go_split_ands;exact⟨aT aS Xe,aT aS Xe,bU Xe aS aJ⟩))
  (first
   |(go_at_call_of 221 (V Y f);refine aY (HP _) ?_)
   |(go_at_call_of 221 (V Y n);refine aY (i _) ?_)
   |(go_at_call 220;refine aY (Jk _ p q _ Xc Xc) ?_))
 all_goals have j:Hid (XC w w (Yi (Yg w (XR #[V Y p,V Y q] 3)))):=aS.drew;go_wp21;go_ret;exact⟨rfl,j⟩
end Go.Proofs.YtolaacmheeaadaaGreatDoor
