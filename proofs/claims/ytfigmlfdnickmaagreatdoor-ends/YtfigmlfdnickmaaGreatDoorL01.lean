import Derived.Test.YtfigmlfdnickmaaGreatDoorProg
import Derived.WalkKit
import Derived.WalkSpells
import Derived.WalkLawsBesides
import Derived.Deep.QuietTactic
import Derived.BigQuiet
import Derived.Deep.RegionHeld3
import Derived.Deep.RegionWith
import Derived.Deep.CutRange
set_option maxRecDepth 100000
set_option maxHeartbeats 8000000
open Go.Proofs.Tryz
open _root_ renaming List->XL,Option->XM,Bool->XN,Nat->XP,Int->XQ,if_neg->XR,if_pos->XS,List->J
open Option renaming none->XU,some->XV,none->Z,some->U
open Bool renaming false->XW,true->XX,not_eq_true->Yn,false_or->Yo,not_false->Yp,not_true->Yq,false_eq_true->Yr,true_or->Ys
open Go renaming World->XY,Value->XZ,Calls->X4,Addr->X5
open Go.RowKit renaming Below->X0,Below->Yj
open Nat renaming le_refl->Yi,le_trans->Yk
open Go.Ending renaming returned->Yg
open Go.IntKind renaming i64->Yf,i64->Y
open Go.World renaming block_lt_of_cell?->Yl,frozen?->Ym,cell?_setCell_same->Yy,setCell->YA,alloc->YD,cell?->YF,drew->YG
open Int renaming add_assoc->Yt,zero_add->YB
open List renaming mem_cons->Yu,mem_append->Yv,nodup_nil->Yw,nodup_cons->Yx,nodup_append->YC,cons_append->YH,pairwise_cons->YI,filter_append->YJ,filter_cons->YK,filter_eq_nil_iff->YM,sublist_cons_self->YS,append_assoc->YU,perm_middle->YX
open And renaming intro->Yz
open Go.Value renaming pointer->X8,int->X7,tuple->Yc,agg->Yd,int->V
open List.Pairwise renaming filter->YL
open List.Sublist renaming nodup->YN,cons_cons->YP,append->YQ,trans->YR,refl->YT
open List.Perm renaming swap->YV,cons->YW
open Go.Obj renaming cells->Yh
namespace Go.Proofs.YtfigmlfdnickmaaGreatDoor
variable{a c hi level lo long st y5 y6:XQ}{f:XQ->XQ}{F F' Fl Fr G:XL XP}{M N b bk fn n o:XP}{pl pr u:XM X5}{p v:XZ}{X w w' w'' w1 w2 w4:XY}
theorem O{p:Prop}(h:p:=by omega):p:=h
theorem Xz{p:Prop}(h:p:=by omega):p:=h
theorem XA{p:Prop}(h:p:=by simp):p:=h
theorem XC{p:Prop}(h:p:=by decide):p:=h
theorem XD{p:Prop}(h:p:=by assumption):p:=h
theorem XE{p:Prop}(h:p:=by decide +kernel):p:=h
theorem XF{p:Prop}(h:p:=by kernel_rfl):p:=h
theorem XG{p:Prop}(h:p:=by (simp;omega)):p:=h
theorem XH{p:Prop}(h:p:=by (unfold maxLen;omega)):p:=h
theorem XI{p:Prop}(h:p:=by simp[Value.oneCell']):p:=h
theorem XJ{p:Prop}(h:p:=by simp[Value.ownBlock]):p:=h
open Go.RowKit
instance:Coe XY XP:=⟨fun w=>w.heap.size⟩
instance:Coe XQ XZ:=⟨X7 Yf⟩
instance:Coe XP X5:=⟨fun b=>⟨b,0,XU⟩⟩
instance:Coe XP (XM X5):=⟨fun b=>XV ⟨b,0,XU⟩⟩
instance:Coe XP XZ:=⟨fun b=>X8 (XV ⟨b,0,XU⟩)⟩
instance:Coe Unit XZ:=⟨fun _=>.slice XU 0 0⟩
instance:Coe XN XZ:=⟨.bool⟩
instance:Coe ByteArray XZ:=⟨.string⟩
instance:Coe (XM X5) XZ:=⟨X8⟩
instance(b o:XP):CoeDep (XP×XP) (b,o) X5:=⟨⟨b,o,XU⟩⟩
instance(b:XY)(o:XP):CoeDep (XY×XP) (b,o) X5:=⟨⟨b.heap.size,o,XU⟩⟩
theorem aI{n:XP}:n<=n:=Yi n
theorem fo{b:XP}{w:XY}:Yj b w w:=.refl b w
theorem bC{w:XY}{o:Obj}:Yj w.heap.size w (w.alloc o):=(fo).alloc aI o
theorem aZ{w:XY}{a b:X5}{v:XZ}(h:a≠b):(w.setCell a v).cell? b=w.cell? b:=w.cell?_setCell_other a b v h
theorem aK{P:Program}{f:FuncId}{a:Array XZ}{w:XY}{v:Ending}{R:XY->Prop}{Q:Ending->XY->Prop}(h:X4 P f a w fun e w'=>e=v/\R w')(k:∀ w',R w'->Q v w'):X4 P f a w Q:=h.mono (by rintro e w' ⟨rfl,r⟩;exact k _ r)
theorem aX{P:Program}{f:FuncId}{a:Array XZ}{w W:XY}{v:Ending}{Q:Ending->XY->Prop}(h:X4 P f a w fun e w'=>e=v/\w'=W)(k:Q v W):X4 P f a w Q:=h.mono (by rintro e w' ⟨rfl,rfl⟩;exact k)
theorem zq(n:XP):n<=n:=Yi n
theorem zS(w:XY)(a b:X5)(v:XZ)(h:a≠b):(w.setCell a v).cell? b=w.cell? b:=w.cell?_setCell_other a b v h
theorem zr(b:XP)(w:XY):X0 b w w:=Below.refl b w
theorem zL{m k:XP}(h:n<m)(g:m<=k):n<k:=Nat.lt_of_lt_of_le h g
theorem zm(w:XY)(a:X5)(v:XZ){u:XZ}(h:w.cell? a=U u):(w.setCell a v).cell? a=U v:=w.cell?_setCell_same a v h
theorem zF(w:XY)(a b:X5)(v:XZ):(w.setCell a v).frozen? b=w.frozen? b:=w.frozen?_setCell a b v
theorem zo{a:X5}(h:w'.heap[a.block]?=w.heap[a.block]?):w'.cell? a=w.cell? a:=World.cell?_of_block h
theorem zN(n:XP):0<=n:=n.zero_le
theorem zg{α:Type _}{l:J α}(h:n<l.length):l[n]∈l:=List.getElem_mem h
theorem pv{a b:XN}(h:a=b):Yg a=Yg b:=by rw[h]
theorem iy{k:IntKind}{b:XQ}(h:a=b):Yg (V k a)=Yg (V k b):=by rw[h]
theorem aC{p:Prop}(h:p):Hid p:=h
theorem cT{x:XQ}(g:-1000000000000<=x)(d:x<=1000000000000):Y.wrap x=x:=by
 rw[IntKind.wrap_i64];omega
theorem uR(x y:XQ):(if x<y then y else x)=max x y:=by split <;> omega
theorem IG(x y:XQ):(if y<x then y else x)=min x y:=by split <;> omega
theorem CI(c x y:XQ):(c+if x<y then y else x)=c+max x y:=by split <;> omega
theorem QO(c x y:XQ):(c+if y<x then y else x)=c+min x y:=by split <;> omega
theorem bM{B:XP}(h:X0 B w w')(k:X0 w' w' w'')(d:B<=w):X0 B w w'':=h.trans (k.mono (Yk d h.size))
theorem dV(w:XY):X0 w w w.drew:=fo.drew
structure aH(F:J XP)(w w':XY):Prop where
 os:w'.os=w.os
 tape:w'.tape=w.tape
 output:w'.output=w.output
 size:w<=w'.heap.size
 block:∀ k,k<w.heap.size->k ∉ F->w'.heap[k]?=w.heap[k]?
theorem aH.refl(F:J XP)(w:XY):aH F w w:=⟨rfl,rfl,rfl,Yi _,fun _ _ _=>rfl⟩
theorem aH.trans'{a b c:XY}(h:aH F a b)(k:aH G b c)(l:∀ x∈G,x∈F\/a<=x):aH F a c :=
 ⟨k.os.trans h.os,k.tape.trans h.tape,k.output.trans h.output,Yk h.size k.size,fun i hi d =>
  (k.block i (zL hi h.size) (fun j=>by rcases l i j with g|g;exact d g;omega)).trans (h.block i hi d)⟩
theorem aH.trans{a b c:XY}(h:aH F a b)(k:aH F b c):aH F a c:=h.trans' k (fun _ d=>.inl d)
theorem aH.mono{a b:XY}(h:aH F a b)(g:∀ x∈F,x∈G):aH G a b :=
 ⟨h.os,h.tape,h.output,h.size,fun i hi j=>h.block i hi (fun d=>j (g i d))⟩
theorem aH.aD(h:X0 w w w'):aH F w w':=⟨h.os,h.tape,h.output,h.size,fun k d _=>h.block k d⟩
theorem aH.drew(h:aH F w w'):aH F w w'.drew:=⟨h.os,h.tape,h.output,h.size,h.block⟩
theorem aH.alloc(h:aH F w w')(o:Obj):aH F w (w'.alloc o) :=
 h.trans (aH.aD (fo.alloc aI o))
theorem aH.bD(R:XP)(w':XY)(o:XP)(v:XZ):aH [R] w' (w'.setCell (R,o) v) :=
 ⟨(Below.setCell (B:=0) (Below.refl 0 w') (zN _) v).os,(Below.setCell (B:=0) (Below.refl 0 w') (zN _) v).tape,(Below.setCell (B:=0) (Below.refl 0 w') (zN _) v).output,(Below.setCell (B:=0) (Below.refl 0 w') (p:=(R,o)) (zN _) v).size,fun k _ d=>Below.heap_setCell w' _ v k (by simpa using d)⟩
theorem aH.setCell(h:aH F w w'){R:XP}(g:R∈F\/w<=R)(o:XP)(v:XZ):aH F w (w'.setCell (R,o) v) :=
 h.trans' (aH.bD R w' o v) (fun x d=>by simp at d;subst d;exact g)
theorem aH.cell(h:aH F w w')(d:b ∉ F)(g:w.cell? (b,o)=U v):w'.cell? (b,o)=U v :=
 (zo (w:=w) (h.block b (Yl _ _ g) d)).trans g
theorem aH.frozen(h:aH F w w')(d:b ∉ F)(g:b<w):w'.frozen? (b,o)=w.frozen? (b,o):=by
 have e:=h.block b g d;simp only[Ym,e]
theorem aR(h:X0 w w w')(d:w.cell? (b,o)=U v):w'.cell? (b,o)=U v :=
 (h.cell (p:=(b,o)) (Yl _ _ d)).trans d
namespace aJ
inductive T where
 |nil:T
 |node (a:XQ) (l r:T):T
def top:T->XQ
 |.nil=>0
 |.node a l r=>a+max (top l) (top r)
def bot:T->XQ
 |.nil=>0
 |.node a l r=>a+min (bot l) (bot r)
def isNil:T->XN
 |.nil=>XX
 |.node ..=>XW
def val:T->XQ
 |.nil=>0
 |.node a _ _=>a
def fst:T->T
 |.nil=>.nil
 |.node _ l _=>l
def snd:T->T
 |.nil=>.nil
 |.node _ _ r=>r
def flat(t:T):XN:=isNil (fst t) && isNil (snd t)
def mk(a:XQ)(l r:T):T:=if a=0/\isNil l=XX/\isNil r=XX then .nil else .node a l r
theorem sR{t:T}(h:isNil t=XX):t=.nil:=by cases t <;> simp_all [isNil]
@[simp] theorem val_mk (a:XQ) (l r:T):val (mk a l r)=a:=by
 unfold mk;split
 .rename_i h;simp[val,h.1]
 .rfl
@[simp] theorem fst_mk (a:XQ) (l r:T):fst (mk a l r)=l:=by
 unfold mk;split
 .rename_i h;rw[sR h.2.1];rfl
 .rfl
@[simp] theorem snd_mk (a:XQ) (l r:T):snd (mk a l r)=r:=by
 unfold mk;split
 .rename_i h;rw[sR h.2.2];rfl
 .rfl
def aY(lo hi:XQ):XQ:=(lo+hi) / 2
def apart(lo hi a b:XQ):XN:=decide (hi<=a) || decide (b<=lo)
def within(lo hi a b:XQ):XN:=decide (a<=lo) && decide (hi<=b)
theorem uy{b:XQ}:apart lo hi a b=XX↔hi<=a\/b<=lo:=by simp[apart]
theorem nw{b:XQ}:apart lo hi a b=XW↔a<hi/\lo<b:=by
 rw[<- Yn,uy];omega
theorem vC{b:XQ}:within lo hi a b=XX↔a<=lo/\hi<=b:=by simp[within]
theorem xY{b:XQ}:within lo hi a b=XW↔¬ (a<=lo/\hi<=b):=by
 rw[<- Yn,vC]
def gP:XP->T->XQ->XQ->XQ->XQ->XQ->T
 |n,t,lo,hi,a,b,u =>
  if apart lo hi a b then t
  else if within lo hi a b then mk (val t+u) (fst t) (snd t)
  else match n with
   |0=>t
   |n+1=>mk (val t) (gP n (fst t) lo (aY lo hi) a b u) (gP n (snd t) (aY lo hi) hi a b u)
def canon:XP->(J XN->XQ)->XQ->XQ->T
 |0,A,_,_=>mk (A []) .nil .nil
 |n+1,A,lo,hi =>
  if hi-lo<=1 then mk (A []) .nil .nil
  else mk (A []) (canon n (fun p=>A (XW :: p)) lo (aY lo hi)) (canon n (fun p=>A (XX :: p)) (aY lo hi) hi)
def ir:XQ->XQ->XQ->XQ->J XN->XQ
 |lo,hi,a,b,[]=>if apart lo hi a b then 0 else if within lo hi a b then 1 else 0
 |lo,hi,a,b,XW :: p=>if apart lo hi a b then 0 else if within lo hi a b then 0 else ir lo (aY lo hi) a b p
 |lo,hi,a,b,XX :: p=>if apart lo hi a b then 0 else if within lo hi a b then 0 else ir (aY lo hi) hi a b p
theorem Ee{b:XQ}(h:apart lo hi a b=XX):∀ p,ir lo hi a b p=0
 |[]=>by simp[ir,h]
 |false :: p=>by simp[ir,h]
 |true :: p=>by simp[ir,h]
theorem Cz:∀ (p:J XN)(lo hi a b:XQ),0<=ir lo hi a b p/\ir lo hi a b p<=1
 |[],lo,hi,a,b=>by simp only[ir];split <;> (try split) <;> omega
 |false :: p,lo,hi,a,b=>by
   simp only[ir];split
   .omega
   .split
    .omega
    .exact Cz p _ _ _ _
 |true :: p,lo,hi,a,b=>by
   simp only[ir];split
   .omega
   .split
    .omega
    .exact Cz p _ _ _ _
theorem DB(h:hi-lo<=2 ^ (n+1)):aY lo hi-lo<=2 ^ n/\hi-aY lo hi<=2 ^ n:=by
 unfold aY;rw[Int.pow_succ] at h;omega
theorem VO:∀ {A B:J XN->XQ}{lo hi:XQ},(∀ p,A p=B p)->canon n A lo hi=canon n B lo hi:=by
 intro A B lo hi h;rw[show A=B from funext h]
theorem U9:∀ (n:XP)(A:J XN->XQ)(lo hi a b u:XQ),lo<hi->hi-lo<=2 ^ n->a<b ->
  gP n (canon n A lo hi) lo hi a b u=canon n (fun p=>A p+u*ir lo hi a b p) lo hi:=by
 intro n
 induction n with
 |zero =>
  intro A lo hi a b u q i j;have i:hi-lo<=1:=by simpa using i
  unfold gP
  split
  .rename_i h;simp[canon,Ee h]
  .rename_i h
   rw[Yn,nw] at h;have d:within lo hi a b=XX:=vC.2 O;have g:apart lo hi a b=XW:=nw.2 h;rw[XS d];simp[canon,ir,d,g]
 |succ n ih =>
  intro A lo hi a b u q i j;unfold gP
  split
  .rename_i h;exact VO (by intro p;simp[Ee h])
  .rename_i h
   have g:apart lo hi a b=XW:=by simpa using h
   split
   .rename_i d
    simp only[canon]
    split
    .simp[ir,g,d]
    .simp[ir,g,d]
   .rename_i d
    have d:within lo hi a b=XW:=by simpa using d
    have s:=nw.1 g;have r:=xY.1 d;have m:¬ hi-lo<=1:=O
    have k:lo<aY lo hi/\aY lo hi<hi:=by unfold aY;omega
    have l:=DB i;simp only[canon,XR m,val_mk,fst_mk,snd_mk];rw[ih _ _ _ _ _ _ k.1 l.1 j,ih _ _ _ _ _ _ k.2 l.2 j];simp[ir,g,d]
def eD:T->XQ->XQ->XQ->XQ
 |.nil,_,_,_=>0
 |.node a l r,lo,hi,x=>a+if x<aY lo hi then eD l lo (aY lo hi) x else eD r (aY lo hi) hi x
theorem pX(a:XQ)(l r:T)(lo hi x:XQ):eD (mk a l r) lo hi x=a+if x<aY lo hi then eD l lo (aY lo hi) x else eD r (aY lo hi) hi x:=by
 unfold mk;split
 .rename_i h;rw[sR h.2.1,sR h.2.2];simp[eD,h.1]
 .rfl
def Good:T->XQ->XQ->Prop
 |.nil,_,_=>True
 |.node a l r,lo,hi=>0<=a/\((isNil l=XX/\isNil r=XX)\/2<=hi-lo)/\Good l lo (aY lo hi)/\Good r (aY lo hi) hi
theorem Good.mk{l r:T}(i:0<=a)(h:(isNil l=XX/\isNil r=XX)\/2<=hi-lo)(g:Good l lo (aY lo hi))(d:Good r (aY lo hi) hi):Good (aJ.mk a l r) lo hi:=by
 unfold aJ.mk;split
 .trivial
 .exact⟨i,h,g,d⟩
theorem Vf:∀ (n:XP)(A:J XN->XQ)(lo hi:XQ),(∀ p,0<=A p)->Good (canon n A lo hi) lo hi:=by
 intro n
 induction n with
 |zero=>intro A lo hi h;exact Good.mk (h _) (.inl ⟨rfl,rfl⟩) trivial trivial
 |succ n ih =>
  intro A lo hi h;simp only[canon]
  split
  .exact Good.mk (h _) (.inl ⟨rfl,rfl⟩) trivial trivial
  .exact Good.mk (h _) (.inr O) (ih _ _ _ (fun p=>h _)) (ih _ _ _ (fun p=>h _))
theorem Xa:∀ (n:XP)(A:J XN->XQ)(lo hi a b u x:XQ),lo<=x->x<hi->hi-lo<=2 ^ n->a<b ->
  eD (canon n (fun p=>A p+u*ir lo hi a b p) lo hi) lo hi x=eD (canon n A lo hi) lo hi x+if a<=x/\x<b then u else 0:=by
 intro n
 induction n with
 |zero =>
  intro A lo hi a b u x r q i k;have i:hi-lo<=1:=by simpa using i
  simp only[canon,pX,eD,ir]
  cases d:apart lo hi a b
  .have j:=nw.1 d;have g:within lo hi a b=XX:=vC.2 O;rw[g,XS (by omega:a<=x/\x<b)];simp
  .have j:=uy.1 d;rw[XR (by omega:¬ (a<=x/\x<b))];simp
 |succ n ih =>
  intro A lo hi a b u x r q i k;simp only[canon];have l:=DB i
  cases d:apart lo hi a b
  .have j:=nw.1 d
   cases g:within lo hi a b
   .have s:=xY.1 g;have m:¬ hi-lo<=1:=O
    rw[XR m,XR m,pX,pX];simp only[ir,d,g]
    by_cases h:x<aY lo hi
    .rw[XS h,XS h];have:=ih (fun p=>A (XW :: p)) lo (aY lo hi) a b u x r h l.1 k;simp at this ⊢;omega
    .rw[XR h,XR h];have:=ih (fun p=>A (XX :: p)) (aY lo hi) hi a b u x O q l.2 k;simp at this ⊢;omega
   .have s:=vC.1 g;rw[XS (by omega:a<=x/\x<b)]
    split
    .rw[pX,pX];simp[ir,d,g,eD]
    .rw[pX,pX];simp[ir,d,g];omega
  .have j:=uy.1 d;rw[XR (by omega:¬ (a<=x/\x<b))];simp[Ee d]
theorem Xc:∀ (n:XP)(lo hi x:XQ),eD (canon n (fun _=>0) lo hi) lo hi x=0:=by
 intro n
 induction n with
 |zero=>intro lo hi x;simp[canon,pX,eD]
 |succ n ih =>
  intro lo hi x;simp only[canon]
  split
  .simp[pX,eD]
  .rw[pX,ih,ih];simp
theorem AO:∀ (t:T)(lo hi x:XQ),Good t lo hi->0<=eD t lo hi x:=by
 intro t
 induction t with
 |nil=>intro lo hi x _;simp[eD]
 |node a l r ihl ihr =>
  intro lo hi x h;have i:=ihl lo (aY lo hi) x h.2.2.1;have g:=ihr (aY lo hi) hi x h.2.2.2;have d:=h.1;simp only[eD];split <;> omega
theorem vk{t:T}(h:isNil t=XX):top t=0/\bot t=0:=by rw[sR h];exact⟨rfl,rfl⟩
theorem vo{t:T}(h:isNil t=XX)(lo hi x:XQ):eD t lo hi x=0:=by rw[sR h];rfl
theorem xw:∀ (t:T)(lo hi:XQ),lo<hi->Good t lo hi->(∀ x,lo<=x->x<hi->eD t lo hi x<=top t)/\∃ x,lo<=x/\x<hi/\eD t lo hi x=top t:=by
 intro t
 induction t with
 |nil=>intro lo hi h _;exact⟨fun x _ _=>by simp[eD,top],lo,O,h,rfl⟩
 |node a l r ihl ihr =>
  intro lo hi h g;rcases g.2.1 with ⟨j,i⟩|z
  .have m:=vk j;have k:=vk i;simp only[eD,top,vo j,vo i,m,k];exact⟨fun x _ _=>by split <;> omega,lo,O,h,by split <;> omega⟩
  .have d:lo<aY lo hi/\aY lo hi<hi:=by unfold aY;omega
   let⟨l1,x1,l2,l3,l4⟩:=ihl lo (aY lo hi) d.1 g.2.2.1;let⟨r1,x2,r2,r3,r4⟩:=ihr (aY lo hi) hi d.2 g.2.2.2;simp only[eD,top];refine⟨fun x s q=>?_,?_⟩
   .split
    .have:=l1 x s O;omega
    .have:=r1 x O q;omega
   .by_cases y:top r<=top l
    .exact⟨x1,l2,O,by rw[XS l3];omega⟩
    .exact⟨x2,O,r3,by rw[XR O];omega⟩
theorem Q6:∀ (t:T)(lo hi:XQ),lo<hi->Good t lo hi->(∀ x,lo<=x->x<hi->bot t<=eD t lo hi x)/\∃ x,lo<=x/\x<hi/\eD t lo hi x=bot t:=by
 intro t
 induction t with
 |nil=>intro lo hi h _;exact⟨fun x _ _=>by simp[eD,bot],lo,O,h,rfl⟩
 |node a l r ihl ihr =>
  intro lo hi h g;rcases g.2.1 with ⟨j,i⟩|z
  .have m:=vk j;have k:=vk i;simp only[eD,bot,vo j,vo i,m,k];exact⟨fun x _ _=>by split <;> omega,lo,O,h,by split <;> omega⟩
  .have d:lo<aY lo hi/\aY lo hi<hi:=by unfold aY;omega
   let⟨l1,x1,l2,l3,l4⟩:=ihl lo (aY lo hi) d.1 g.2.2.1;let⟨r1,x2,r2,r3,r4⟩:=ihr (aY lo hi) hi d.2 g.2.2.2;simp only[eD,bot];refine⟨fun x s q=>?_,?_⟩
   .split
    .have:=l1 x s O;omega
    .have:=r1 x O q;omega
   .by_cases y:bot l<=bot r
    .exact⟨x1,l2,O,by rw[XS l3];omega⟩
    .exact⟨x2,O,r3,by rw[XR O];omega⟩
def gu:T->XQ->XQ->XQ->XQ->XQ
 |.nil,_,_,_,_=>0
 |.node c l r,lo,hi,a,b =>
  if apart lo hi a b then 0
  else if within lo hi a b then c+max (top l) (top r)
  else c+max (gu l lo (aY lo hi) a b) (gu r (aY lo hi) hi a b)
theorem At{t:T}{b:XQ}(h:apart lo hi a b=XX):gu t lo hi a b=0:=by
 cases t <;> simp[gu,h]
theorem Jz:∀ (t:T)(lo hi a b:XQ),lo<hi->a<b->Good t lo hi->apart lo hi a b=XW ->
  0<=gu t lo hi a b/\(∀ x,lo<=x->x<hi->a<=x->x<b->eD t lo hi x<=gu t lo hi a b)/\∃ x,lo<=x/\x<hi/\a<=x/\x<b/\eD t lo hi x=gu t lo hi a b:=by
 intro t
 induction t with
 |nil =>
  intro lo hi a b h s _ m;have:=nw.1 m;exact⟨Int.le_refl _,fun x _ _ _ _=>by simp[eD,gu],max lo a,O,O,O,O,rfl⟩
 |node c l r ihl ihr =>
  intro lo hi a b h s g m;have E:=nw.1 m
  cases q:within lo hi a b
  .have A:=xY.1 q;have B:lo<aY lo hi/\aY lo hi<hi:=by unfold aY;omega
   have e:gu (.node c l r) lo hi a b=c+max (gu l lo (aY lo hi) a b) (gu r (aY lo hi) hi a b):=by simp[gu,m,q]
   have I:=g.1;rw[e];simp only[eD]
   cases pl:apart lo (aY lo hi) a b
   .let⟨l0,l1,x1,l2,l3,l4,l5,l6⟩:=ihl lo (aY lo hi) a b B.1 s g.2.2.1 pl
    cases pr:apart (aY lo hi) hi a b
    .let⟨r0,r1,x2,r2,r3,r4,r5,r6⟩:=ihr (aY lo hi) hi a b B.2 s g.2.2.2 pr;refine⟨O,fun x k j i d=>?_,?_⟩
     .split
      .have:=l1 x k O i d;omega
      .have:=r1 x O j i d;omega
     .by_cases H:gu r (aY lo hi) hi a b<=gu l lo (aY lo hi) a b
      .exact⟨x1,l2,O,l4,l5,by rw[XS l3];omega⟩
      .exact⟨x2,O,r3,r4,r5,by rw[XR O];omega⟩
    .have C:=uy.1 pr;have z:=At (t:=r) pr;refine⟨O,fun x k j i d=>?_,x1,l2,O,l4,l5,by rw[XS l3];omega⟩;rw[XS O];have:=l1 x k O i d;omega
   .have D:=uy.1 pl;have z:=At (t:=l) pl;have pr:apart (aY lo hi) hi a b=XW:=nw.2 O;let⟨r0,r1,x2,r2,r3,r4,r5,r6⟩:=ihr (aY lo hi) hi a b B.2 s g.2.2.2 pr;refine⟨O,fun x k j i d=>?_,x2,O,r3,r4,r5,by rw[XR O];omega⟩;rw[XR O];have:=r1 x O j i d;omega
  .have A:=vC.1 q;have e:gu (.node c l r) lo hi a b=top (.node c l r):=by simp[gu,m,q,top]
   let⟨t1,x,t2,t3,t4⟩:=xw (.node c l r) lo hi h g;rw[e];have:=AO (.node c l r) lo hi x g;exact⟨O,fun y k j _ _=>t1 y k j,x,t2,t3,O,O,t4⟩
def ju(d:XN)(level:XQ)(t:T)(c:XQ):XN:=if d then decide (level<c+top t) else decide (c+bot t<=level)
def want(d:XN)(level x:XQ):Prop:=if d then level<x else x<=level
def fm(d:XN)(level:XQ):T->XQ->XQ->XQ->XQ->XQ->XM XQ
 |.nil,lo,hi,a,b,c=>if apart lo hi a b || !ju d level .nil c then Z else U (max lo a)
 |.node v l r,lo,hi,a,b,c =>
  if apart lo hi a b || !ju d level (.node v l r) c then Z
  else if isNil l && isNil r then U (max lo a)
  else match fm d level l lo (aY lo hi) a b (c+v) with
   |some x=>U x
   |none=>fm d level r (aY lo hi) hi a b (c+v)
theorem JP{d:XN}{t:T}(h:ju d level t c=XW)(i:lo<hi)(g:Good t lo hi):∀ x,lo<=x->x<hi->¬ want d level (c+eD t lo hi x):=by
 intro x k j
 cases d
 .have:=(Q6 t lo hi i g).1 x k j;simp[ju,want] at h ⊢;omega
 .have:=(xw t lo hi i g).1 x k j;simp[ju,want] at h ⊢;omega
theorem KM{d:XN}{t:T}(h:ju d level t c=XX)(g:∀ x,eD t lo hi x=val t)(ht:top t=val t)(i:bot t=val t):∀ x,want d level (c+eD t lo hi x):=by
 intro x;rw[g x]
 cases d
 .simp[ju,want,i] at h ⊢;omega
 .simp[ju,want,ht] at h ⊢;omega
def uc(P:XQ->Prop)(lo hi a b:XQ):XM XQ->Prop
 |none=>∀ x,lo<=x->x<hi->a<=x->x<b->¬ P x
 |some x=>lo<=x/\x<hi/\a<=x/\x<b/\P x/\∀ y,lo<=y->y<x->a<=y->¬ P y
theorem Ic(d:XN)(level:XQ):∀ (t:T)(lo hi a b c:XQ),lo<hi->a<b->Good t lo hi->uc (fun x=>want d level (c+eD t lo hi x)) lo hi a b (fm d level t lo hi a b c):=by
 intro t
 induction t with
 |nil =>
  intro lo hi a b c h S g;unfold fm
  cases A:apart lo hi a b
  .have k:=nw.1 A
   cases z:ju d level .nil c
   .simp only[Yo,Yp,if_true];exact fun x R s _ _=>JP z h g x R s
   .simp only[Yo,Yq,Yr,if_false];exact⟨O,O,O,O,KM z (fun _=>rfl) rfl rfl _,fun y _ _ _=>by omega⟩
  .have k:=uy.1 A;simp only[Ys,if_true];exact fun x _ _ _ _=>by omega
 |node v l r ihl ihr =>
  intro lo hi a b c h S g;unfold fm
  cases A:apart lo hi a b
  .have k:=nw.1 A
   cases z:ju d level (.node v l r) c
   .simp only[Yo,Yp,if_true];exact fun x R s _ _=>JP z h g x R s
   .simp only[Yo,Yq,Yr,if_false]
    cases Q:isNil l && isNil r
    .simp only[Yr,if_false]
     have s:2<=hi-lo:=by
      rcases g.2.1 with ⟨E,D⟩|s
      .simp[E,D] at Q
      .exact s
     have hm:lo<aY lo hi/\aY lo hi<hi:=by unfold aY;omega
     have i:=ihl lo (aY lo hi) a b (c+v) hm.1 S g.2.2.1;have q:=ihr (aY lo hi) hi a b (c+v) hm.2 S g.2.2.2
     cases el:fm d level l lo (aY lo hi) a b (c+v) with
     |some x =>
      rw[el] at i;obtain⟨W,P,L,K,I,H⟩:=i;refine⟨W,O,L,K,?_,fun y C B m=>?_⟩
      .show want d level (c+eD (.node v l r) lo hi x);simp only[eD];rw[XS P,<- Yt];exact I
      .show ¬ want d level (c+eD (.node v l r) lo hi y);simp only[eD];rw[XS O,<- Yt];exact H y C B m
     |none =>
      rw[el] at i;have i:∀ x,lo<=x->x<aY lo hi->a<=x->x<b->¬ want d level (c+v+eD l lo (aY lo hi) x):=i
      cases er:fm d level r (aY lo hi) hi a b (c+v) with
      |some x =>
       rw[er] at q;obtain⟨W,P,L,K,I,H⟩:=q;refine⟨O,P,L,K,?_,fun y C B m=>?_⟩
       .show want d level (c+eD (.node v l r) lo hi x);simp only[eD];rw[XR O,<- Yt];exact I
       .show ¬ want d level (c+eD (.node v l r) lo hi y);simp only[eD]
        by_cases j:y<aY lo hi
        .rw[XS j,<- Yt];exact i y C j m O
        .rw[XR j,<- Yt];exact H y O B m
      |none =>
       rw[er] at q;have q:∀ x,aY lo hi<=x->x<hi->a<=x->x<b->¬ want d level (c+v+eD r (aY lo hi) hi x):=q;intro y C B m a4;show ¬ want d level (c+eD (.node v l r) lo hi y);simp only[eD]
       by_cases j:y<aY lo hi
       .rw[XS j,<- Yt];exact i y C j m a4
       .rw[XR j,<- Yt];exact q y O B m a4
    .simp only[if_true];have E:isNil l=XX:=by revert Q;cases isNil l <;> simp
     have D:isNil r=XX:=by revert Q;cases isNil r <;> simp
     have t1:=vk E;have t2:=vk D;refine⟨O,O,O,O,?_,fun y _ _ _=>by omega⟩;exact KM z (fun x=>by simp only[eD,val,vo E,vo D];split <;> omega) (by simp only[top,val];omega) (by simp only[bot,val];omega) _
  .have k:=uy.1 A;simp only[Ys,if_true];exact fun x _ _ _ _=>by omega
end aJ
def dO(w:XY):aJ.T->XZ->J XP->Prop
 |.nil,p,F=>p=X8 Z/\F=[]
 |.node a l r,p,F=>∃ (b:XP) (pl pr:XM X5) (Fl Fr:J XP),p=X8 (U ⟨b,0,Z⟩)/\w.cell? ⟨b,0,Z⟩=U (V Y a)/\w.cell? ⟨b,1,Z⟩=U (V Y (aJ.top (.node a l r)))/\w.cell? ⟨b,2,Z⟩=U (V Y (aJ.bot (.node a l r)))/\w.cell? ⟨b,3,Z⟩=U (X8 pl)/\w.cell? ⟨b,4,Z⟩=U (X8 pr)/\(∀ o,w.frozen? ⟨b,o,Z⟩=XW)/\dO w l (X8 pl) Fl/\dO w r (X8 pr) Fr/\F=b :: (Fl++Fr)/\F.Nodup
theorem dO.lt{w:XY}:∀ {t:aJ.T}{p:XZ}{F:J XP},dO w t p F->∀ k∈F,k<w
 |.nil,p,F,h,k,d=>by rw[h.2] at d;cases d
 |.node a l r,p,F,h,k,d=>by
  obtain⟨b,pl,pr,Fl,Fr,rfl,j,z,y,x,s,q,i,g,rfl,m⟩:=h;rcases Yu.1 d with rfl|d
  .exact Yl _ _ j
  .rcases Yv.1 d with d|d
   .exact dO.lt i k d
   .exact dO.lt g k d
theorem dO.off{G:J XP}{w w':XY}(h:aH G w w'):∀ {t:aJ.T}{p:XZ}{F:J XP},dO w t p F->(∀ k∈F,k ∉ G)->dO w' t p F
 |.nil,p,F,g,_=>g
 |.node a l r,p,F,g,hd=>by
  obtain⟨b,pl,pr,Fl,Fr,rfl,j,A,z,y,x,s,q,g,rfl,m⟩:=g;have d:b ∉ G:=hd b XA;exact⟨b,pl,pr,Fl,Fr,rfl,h.cell d j,h.cell d A,h.cell d z,h.cell d y,h.cell d x,fun o=>(h.frozen d (Yl _ _ j)).trans (s o),dO.off h q (fun k i=>hd k (by simp[i])),dO.off h g (fun k i=>hd k (by simp[i])),rfl,m⟩
theorem dO.same{t:aJ.T}(h:dO w t p F)(k:aH [] w w'):dO w' t p F:=h.off k (fun _ _=>by simp)
theorem dO.nodup{t:aJ.T}(h:dO w t p F):F.Nodup:=by
 cases t with
 |nil=>rw[h.2];exact Yw
 |node a l r=>let⟨b,_,_,_,_,_,_,_,_,_,_,_,_,_,_,nd⟩:=h;exact nd
structure dJ(w:XY)(b:XP)(c:XQ)(l r:aJ.T)(pl pr:XM X5)(Fl Fr:J XP):Prop where
 c0:w.cell? (b,0)=U ↑c
 c1:∃ x,w.cell? (b,1)=U (V Y x)
 c2:∃ x,w.cell? (b,2)=U (V Y x)
 c3:w.cell? (b,3)=U ↑pl
 c4:w.cell? (b,4)=U ↑pr
 fz:∀ o,w.frozen? ⟨b,o,Z⟩=XW
 l:dO w l pl Fl
 r:dO w r pr Fr
 nd:(b :: (Fl++Fr)).Nodup
def LB:aJ.T->Prop
 |.nil=>True
 |.node a l r=>(-1000000<=a/\a<=1000000)/\(-100000000<=aJ.top (.node a l r)/\aJ.top (.node a l r)<=100000000)/\(-100000000<=aJ.bot (.node a l r)/\aJ.bot (.node a l r)<=100000000)/\LB l/\LB r
theorem LB.top{t:aJ.T}(h:LB t):-100000000<=aJ.top t/\aJ.top t<=100000000:=by
 cases t with
 |nil=>simp[aJ.top]
 |node a l r=>exact h.2.1
theorem LB.bot{t:aJ.T}(h:LB t):-100000000<=aJ.bot t/\aJ.bot t<=100000000:=by
 cases t with
 |nil=>simp[aJ.bot]
 |node a l r=>exact h.2.2.1
theorem LB.val{t:aJ.T}(h:LB t):-1000000<=aJ.val t/\aJ.val t<=1000000:=by
 cases t with
 |nil=>simp[aJ.val]
 |node a l r=>exact h.1
theorem LB.fst{t:aJ.T}(h:LB t):LB (aJ.fst t):=by
 cases t with
 |nil=>trivial
 |node a l r=>exact h.2.2.2.1
theorem LB.snd{t:aJ.T}(h:LB t):LB (aJ.snd t):=by
 cases t with
 |nil=>trivial
 |node a l r=>exact h.2.2.2.2
theorem LB.mk{l r:aJ.T}(h:LB (aJ.mk a l r)):(-1000000<=a/\a<=1000000)/\LB l/\LB r:=by
 have i:=h.val;have g:=h.fst;have d:=h.snd;simp at i g d;exact⟨i,g,d⟩
theorem ov(lo hi a b:XQ)(w:XY):
  X4 prog 257 #[Yd #[lo,hi],Yd #[a,b]] w fun e w'=>e=Yg (aJ.apart lo hi a b)/\X0 w w w':=by
 by_cases d:hi<=a
 .go_in
  go_wp2;go_ret;exact⟨pv (by simp[aJ.apart,d]),bC.alloc XA _⟩
 .by_cases g:b<=lo
  all_goals
   go_in
   go_wp2;go_ret;exact⟨pv (by simp[aJ.apart];omega),bC.alloc XA _⟩
theorem vH(lo hi a b:XQ)(w:XY):
  X4 prog 258 #[Yd #[lo,hi],Yd #[a,b]] w fun e w'=>e=Yg (aJ.within lo hi a b)/\X0 w w w':=by
 by_cases g:a<=lo
 .by_cases d:hi<=b
  all_goals
   go_in
   go_wp2;go_ret;exact⟨pv (by simp[aJ.within];omega),bC.alloc XA _⟩
 .go_in
  go_wp2;go_ret;exact⟨pv (by simp[aJ.within];omega),bC.alloc XA _⟩
theorem Tf(w:XY):
  X4 prog 214 #[X8 Z] w fun e w'=>e=Yg (V Y 0)/\w'=w:=by
 go_in
 go_wp2;go_ret;exact⟨rfl,rfl⟩
theorem TW(b:XP)(x:XQ)(w:XY)(d:w.cell? (b,1)=U ↑x):
  X4 prog 214 #[b] w fun e w'=>e=Yg x/\w'=w:=by
 go_in
 go_wp2;go_ret;exact⟨rfl,rfl⟩
theorem xF{t:aJ.T}(w:XY)(h:dO w t u F):
  X4 prog 214 #[u] w fun e w'=>e=Yg (V Y (aJ.top t))/\w'=w:=by
 cases t with
 |nil=>let⟨h1,_⟩:=h;cases h1;exact Tf w
 |node a l r=>let⟨b,pl,pr,Fl,Fr,hp,c0,c1,_⟩:=h;cases hp;exact TW b _ w c1
theorem Ta(w:XY):
  X4 prog 216 #[X8 Z] w fun e w'=>e=Yg (V Y 0)/\w'=w:=by
 go_in
 go_wp2;go_ret;exact⟨rfl,rfl⟩
theorem TU(b:XP)(x:XQ)(w:XY)(d:w.cell? (b,2)=U ↑x):
  X4 prog 216 #[b] w fun e w'=>e=Yg x/\w'=w:=by
 go_in
 go_wp2;go_ret;exact⟨rfl,rfl⟩
theorem xE{t:aJ.T}(w:XY)(h:dO w t u F):
  X4 prog 216 #[u] w fun e w'=>e=Yg (V Y (aJ.bot t))/\w'=w:=by
 cases t with
 |nil=>let⟨h1,_⟩:=h;cases h1;exact Ta w
 |node a l r=>let⟨b,pl,pr,Fl,Fr,hp,c0,c1,c2,_⟩:=h;cases hp;exact TU b _ w c2
theorem UR(w:XY):
  X4 prog 260 #[X8 Z] w fun e w'=>e=Yg XX/\w'=w:=by
 go_in
 go_wp2;go_ret;exact⟨rfl,rfl⟩
def tQ(pl pr:XM X5):XN:=pl.isNone && pr.isNone
theorem EK(b:XP)(pl pr:XM X5)(w:XY)(g:w.cell? (b,3)=U ↑pl)(d:w.cell? (b,4)=U ↑pr):
  X4 prog 260 #[b] w fun e w'=>e=Yg (tQ pl pr)/\w'=w:=by
 cases pl with
 |none =>
  cases pr with
  |none =>
   go_in
   go_wp2;go_ret;exact⟨rfl,rfl⟩
  |some q =>
   go_in
   go_wp2;go_ret;exact⟨rfl,rfl⟩
 |some q =>
  go_in
  go_wp2;go_ret;exact⟨rfl,rfl⟩
theorem dO.isNone{t:aJ.T}(h:dO w t u F):u.isNone=aJ.isNil t:=by
 cases t with
 |nil=>let⟨h1,_⟩:=h;cases h1;rfl
 |node a l r=>let⟨b,pl,pr,Fl,Fr,hp,_⟩:=h;cases hp;rfl
theorem Aw(lo hi:XQ)(w:XY)(h:0<=lo)(g:lo<=hi)(d:hi<=2000000):
  X4 prog 259 #[Yd #[lo,hi]] w fun e w'=>e=Yg (Yc #[Yd #[lo,V Y (aJ.aY lo hi)],Yd #[V Y (aJ.aY lo hi),hi]])/\X0 w w w':=by
 go_in
 go_wp2
 go_region
 all_goals
  go_wp2;refine bodyPost_ret (v:=Yc #[Yd #[lo,V Y (aJ.aY lo hi)],Yd #[V Y (aJ.aY lo hi),hi]]) (by simp[results,results259,go_sem,aJ.aY]) rfl ⟨rfl,?_⟩;exact ((bC.alloc XA _).alloc XG _).drew
theorem dJ.off{l r:aJ.T}(h:dJ w b c l r pl pr Fl Fr)(k:aH G w w')(d:b ∉ G)(i:∀ x∈Fl,x ∉ G)(g:∀ x∈Fr,x ∉ G):dJ w' b c l r pl pr Fl Fr :=
 ⟨k.cell d h.c0,h.c1.imp (fun _=>k.cell d),h.c2.imp (fun _=>k.cell d),k.cell d h.c3,k.cell d h.c4,fun o=>(k.frozen d (Yl _ _ h.c0)).trans (h.fz o),h.l.off k i,h.r.off k g,h.nd⟩
theorem dJ.drew{l r:aJ.T}(h:dJ w b c l r pl pr Fl Fr):dJ w.drew b c l r pl pr Fl Fr :=
 h.off (G:=[]) (aH.refl _ _).drew XA XA XA
theorem dJ.out{l r:aJ.T}(h:dJ w b c l r pl pr Fl Fr):(∀ x∈Fl,x ∉ [b])/\(∀ x∈Fr,x ∉ [b]):=by
 have d:=h.nd;rw[Yx] at d;refine⟨fun x g=>?_,fun x g=>?_⟩ <;> (simp;rintro rfl;exact d.1 (by simp[g]))
theorem dJ.oC{l r:aJ.T}(h:dJ w b c l r pl pr Fl Fr)(x:XQ):dJ (w.setCell (b,1) x) b c l r pl pr Fl Fr:=by
 let⟨x1,h1⟩:=h.c1;exact⟨(aZ XA).trans h.c0,⟨x,Yy _ _ _ h1⟩,h.c2.imp (fun _ e=>(aZ XA).trans e),(aZ XA).trans h.c3,(aZ XA).trans h.c4,fun o=>(zF ..).trans (h.fz o),h.l.off (aH.bD ..) h.out.1,h.r.off (aH.bD ..) h.out.2,h.nd⟩
theorem dJ.oB{l r:aJ.T}(h:dJ w b c l r pl pr Fl Fr)(x:XQ):dJ (w.setCell (b,2) x) b c l r pl pr Fl Fr:=by
 let⟨x1,h1⟩:=h.c2;exact⟨(aZ XA).trans h.c0,h.c1.imp (fun _ e=>(aZ XA).trans e),⟨x,Yy _ _ _ h1⟩,(aZ XA).trans h.c3,(aZ XA).trans h.c4,fun o=>(zF ..).trans (h.fz o),h.l.off (aH.bD ..) h.out.1,h.r.off (aH.bD ..) h.out.2,h.nd⟩
theorem dJ.done{l r:aJ.T}(h:dJ w b c l r pl pr Fl Fr)(d:w.cell? (b,1)=U (V Y (c+max (aJ.top l) (aJ.top r)))):
  dO (w.setCell (b,2) (V Y (c+min (aJ.bot l) (aJ.bot r)))) (.node c l r) b (b :: (Fl++Fr)):=by
 have k:=h.oB (c+min (aJ.bot l) (aJ.bot r));let⟨x2,h2⟩:=h.c2;exact⟨b,pl,pr,Fl,Fr,rfl,k.c0,(aZ XA).trans d,Yy _ _ _ h2,k.c3,k.c4,k.fz,k.l,k.r,rfl,h.nd⟩
theorem Wp(w:XY)(b:XP)(l r:aJ.T)(pl pr:XM X5)(Fl Fr:J XP)(h:dJ w b 0 l r pl pr Fl Fr)(g:aJ.isNil l=XX)(d:aJ.isNil r=XX):
  X4 prog 281 #[b] w fun e w'=>e=Yg (X8 Z)/\w'=w:=by
 have j:=h.c0;have i:tQ pl pr=XX:=by rw[tQ,h.l.isNone,h.r.isNone,g,d];rfl
 go_in
 go_wp2_with (go_at_call 260;refine aX (EK _ pl pr _ h.c3 h.c4) ?_)
 go_ret;exact⟨rfl,rfl⟩
theorem sH{l r:aJ.T}(h:dJ w b c l r pl pr Fl Fr):
  w.cell? (b,0)=U ↑c/\w.cell? (b,3)=U ↑pl/\w.cell? (b,4)=U ↑pr/\dJ w b c l r pl pr Fl Fr:=⟨h.c0,h.c3,h.c4,h⟩
theorem WT(w:XY)(b:XP)(c:XQ)(l r:aJ.T)(pl pr:XM X5)(Fl Fr:J XP)(h:dJ w b c l r pl pr Fl Fr)(D:¬ (c=0/\aJ.isNil l=XX/\aJ.isNil r=XX))
  (W:-1000000<=c/\c<=1000000) (E:LB l) (C:LB r):
  X4 prog 281 #[b] w fun e w'=>e=Yg b/\dO w' (.node c l r) b (b :: (Fl++Fr))/\aH [b] w w':=by
 have c0:=h.c0;obtain⟨S,R⟩:=W;have t1:=E.top;have t2:=C.top;have t3:=E.bot;have t4:=C.bot
 have A:c=0->tQ pl pr=XW:=by
  rw[tQ,h.l.isNone,h.r.isNone]
  cases hx:aJ.isNil l <;> cases hy:aJ.isNil r <;> simp_all
 have f1:=h.fz 1;have H:=h.fz 2;obtain⟨x1,c1⟩:=h.c1;obtain⟨B,L⟩:=h.c2
 have K:Y.wrap (c+if aJ.top l<aJ.top r then aJ.top r else aJ.top l)=c+max (aJ.top l) (aJ.top r):=by
  rw[CI];exact cT O O
 have I:Y.wrap (c+if aJ.bot r<aJ.bot l then aJ.bot r else aJ.bot l)=c+min (aJ.bot l) (aJ.bot r):=by
  rw[QO];exact cT O O
 have Q:=aC K;have P:=aC I;have q:dJ ((w.setCell (b,1) (V Y (c+max (aJ.top l) (aJ.top r)))).drew) b c l r pl pr Fl Fr:=(h.oC _).drew;have m:((w.setCell (b,1) (V Y (c+max (aJ.top l) (aJ.top r)))).drew).cell? (b,1)=U (V Y (c+max (aJ.top l) (aJ.top r))):=zm _ _ _ c1;have k:aH [b] w ((w.setCell (b,1) (V Y (c+max (aJ.top l) (aJ.top r)))).drew):=(aH.bD b w _ _).drew;have y:=aC (Yz q (Yz m k));clear K I q m k
 by_cases j:c=0
 .have e2:=A j;have z:(c==0)=XX:=by simp[j]
  clear D A j
  go_in
  go_wp2_with (go_at_call 260;refine aX (EK _ pl pr _ h.c3 h.c4) ?_)
  go_region_held3 (fun w'=>w'.cell? (b,0)=U ↑c/\w'.cell? (b,3)=U ↑pl/\w'.cell? (b,4)=U ↑pr/\dJ w' b c l r pl pr Fl Fr)
   (first
    |exact sH (dJ.drew h)
    |exact sH (dJ.drew (dJ.oC h _)))
   (first
    |(go_at_call_of 214 (X8 pl);go_split_ands;refine aX (xF _ (dJ.l XD)) ?_)
    |(go_at_call_of 214 (X8 pr);go_split_ands;refine aX (xF _ (dJ.r XD)) ?_))
  rw[Q.out,uR];obtain⟨d,x,i⟩:=y.out;clear y;generalize (YA _ ⟨b,1,Z⟩ (V Y (c+max (aJ.top l) (aJ.top r)))).drew=X at d x i ⊢;have H:=d.fz 2;obtain⟨B,L⟩:=d.c2
  go_wp21
  go_region_held3 (fun w'=>w'.cell? (b,0)=U ↑c/\w'.cell? (b,3)=U ↑pl/\w'.cell? (b,4)=U ↑pr/\dJ w' b c l r pl pr Fl Fr)
   (first
    |exact sH (dJ.drew d)
    |exact sH (dJ.drew (dJ.oB d _)))
   (first
    |(go_at_call_of 216 (X8 pl);go_split_ands;refine aX (xE _ (dJ.l XD)) ?_)
    |(go_at_call_of 216 (X8 pr);go_split_ands;refine aX (xE _ (dJ.r XD)) ?_))
  rw[P,IG];have t:=d.done x;have g:aH [b] _ (YA X (b,2) (V Y (c+min (aJ.bot l) (aJ.bot r)))).drew:=(i.setCell (.inl XA) _ _).drew;have s:=aC (Yz (t.same (aH.refl _ _).drew) g);clear t g
  go_wp21
  go_ret;exact⟨rfl,s.out.1,s.out.2⟩
 .have z:(c==0)=XW:=by simp[j]
  clear D A j
  go_in
  go_wp21
  go_region_held3 (fun w'=>w'.cell? (b,0)=U ↑c/\w'.cell? (b,3)=U ↑pl/\w'.cell? (b,4)=U ↑pr/\dJ w' b c l r pl pr Fl Fr)
   (first
    |exact sH (dJ.drew h)
    |exact sH (dJ.drew (dJ.oC h _)))
   (first
    |(go_at_call_of 214 (X8 pl);go_split_ands;refine aX (xF _ (dJ.l XD)) ?_)
    |(go_at_call_of 214 (X8 pr);go_split_ands;refine aX (xF _ (dJ.r XD)) ?_))
  rw[Q.out,uR];obtain⟨d,x,i⟩:=y.out;clear y;generalize (YA _ ⟨b,1,Z⟩ (V Y (c+max (aJ.top l) (aJ.top r)))).drew=X at d x i ⊢;have H:=d.fz 2;obtain⟨B,L⟩:=d.c2
  go_wp21
  go_region_held3 (fun w'=>w'.cell? (b,0)=U ↑c/\w'.cell? (b,3)=U ↑pl/\w'.cell? (b,4)=U ↑pr/\dJ w' b c l r pl pr Fl Fr)
   (first
    |exact sH (dJ.drew d)
    |exact sH (dJ.drew (dJ.oB d _)))
   (first
    |(go_at_call_of 216 (X8 pl);go_split_ands;refine aX (xE _ (dJ.l XD)) ?_)
    |(go_at_call_of 216 (X8 pr);go_split_ands;refine aX (xE _ (dJ.r XD)) ?_))
  rw[P,IG];have t:=d.done x;have g:aH [b] _ (YA X (b,2) (V Y (c+min (aJ.bot l) (aJ.bot r)))).drew:=(i.setCell (.inl XA) _ _).drew;have s:=aC (Yz (t.same (aH.refl _ _).drew) g);clear t g
  go_wp21
  go_ret;exact⟨rfl,s.out.1,s.out.2⟩
structure QB(w w1:XY)(lo hi a b:XQ):Prop where
 q0:w1.cell? (w,0)=U ↑lo
 q1:w1.cell? (w,1)=U ↑hi
 q2:w1.cell? (w.heap.size+1,0)=U ↑a
 q3:w1.cell? (w.heap.size+1,1)=U ↑b
 sz:w+1<w1.heap.size
 bw:X0 w w w1
theorem boxes{b:XQ}(h:X0 ((w.alloc (Yh #[lo,hi] 60)).alloc (Yh #[a,b] 60)).heap.size ((w.alloc (Yh #[lo,hi] 60)).alloc (Yh #[a,b] 60)) w1):QB w w1 lo hi a b:=by
 have e:((w.alloc (Yh #[lo,hi] 60)).alloc (Yh #[a,b] 60)).heap.size=w.heap.size+2:=XA
 refine⟨(h.cell (p:=(w,0)) ?_).trans ?_,(h.cell (p:=(w,1)) ?_).trans ?_,(h.cell (p:=(w.heap.size+1,0)) ?_).trans ?_,(h.cell (p:=(w.heap.size+1,1)) ?_).trans ?_,?_,?_⟩
 .rw[e];show w.heap.size<_;omega
 .simp
 .rw[e];show w.heap.size<_;omega
 .simp
 .rw[e];show w.heap.size+1<_;omega
 .simp
 .rw[e];show w.heap.size+1<_;omega
 .simp
 .have:=h.size;omega
 .exact (bC.alloc XA _).trans (h.mono O)
def sF(w:XY)(F:J XP)(d:aJ.T)(e:Ending)(w':XY):Prop :=
 ∃ (u:XM X5) (F':J XP),e=Yg u/\dO w' d u F'/\(∀ k∈F',k∈F\/w<=k)/\aH F w w'
theorem J8(t:aJ.T)(u:XM X5)(F:J XP)(lo hi a b x:XQ)(n:XP)(w:XY)(h:dO w t u F)(d:aJ.apart lo hi a b=XX):
  X4 prog 261 #[u,Yd #[lo,hi],Yd #[a,b],x] w (sF w F (aJ.gP n t lo hi a b x)):=by
 have e:aJ.gP n t lo hi a b x=t:=by unfold aJ.gP;rw[XS d]
 rw[e];clear e
 go_in
 go_wp21
 refine aK (ov _ _ _ _ _) fun w1 g=>?_;rw[d];have i:X0 w w w1:=(bC.alloc XA _).trans (g.mono XG);have j:=aC i;clear i g
 go_wp21
 go_ret;exact⟨u,F,rfl,h.same (aH.aD j),fun k l=>.inl l,aH.aD j⟩
theorem Jr(w:XY)(c:XQ):dJ (w.alloc (Yh #[c,V Y 0,V Y 0,X8 Z,X8 Z] 338)) w c .nil .nil Z Z [] [] :=
 ⟨by simp,⟨0,by simp⟩,⟨0,by simp⟩,by simp,by simp,fun o=>World.frozen?_alloc_new w _ _ o,⟨rfl,rfl⟩,⟨rfl,rfl⟩,by simp⟩
theorem xA{l r:aJ.T}(h:dO w (.node c l r) u F):∃ (b:XP)(pl pr:XM X5)(Fl Fr:J XP),u=U ⟨b,0,Z⟩/\F=b :: (Fl++Fr)/\dJ w b c l r pl pr Fl Fr:=by
 let⟨b,pl,pr,Fl,Fr,hp,c0,c1,c2,c3,c4,fz,hl,hr,hF,nd⟩:=h
 cases hp
 exact⟨b,pl,pr,Fl,Fr,rfl,hF,c0,⟨_,c1⟩,⟨_,c2⟩,c3,c4,fz,hl,hr,hF ▸ nd⟩
theorem Av(w:XY)(b:XP)(c:XQ)(l r:aJ.T)(pl pr:XM X5)(Fl Fr:J XP)(h:dJ w b c l r pl pr Fl Fr)(s:LB (aJ.mk c l r)):
  X4 prog 281 #[b] w fun e w'=>∃ (u:XM X5) (F':J XP),e=Yg u/\dO w' (aJ.mk c l r) u F'/\(∀ k∈F',k∈b :: (Fl++Fr))/\aH [b] w w':=by
 let⟨b1,b2,b3⟩:=s.mk
 by_cases d:c=0/\aJ.isNil l=XX/\aJ.isNil r=XX
 .have e:aJ.mk c l r=.nil:=by unfold aJ.mk;rw[XS d]
  rw[e];obtain⟨rfl,i,g⟩:=d;refine aX (Wp w b l r pl pr Fl Fr h i g) ?_;exact⟨Z,[],rfl,⟨rfl,rfl⟩,by simp,aH.refl _ _⟩
 .have e:aJ.mk c l r=.node c l r:=by unfold aJ.mk;rw[XR d]
  rw[e];refine aK (WT w b c l r pl pr Fl Fr h d b1 b2 b3) ?_;rintro w' ⟨m,j⟩;exact⟨_,_,rfl,m,fun _ q=>q,j⟩
theorem dJ.bD{l r:aJ.T}(h:dJ w b c l r pl pr Fl Fr)(x:XQ):dJ (w.setCell (b,0) x) b x l r pl pr Fl Fr :=
 ⟨zm _ _ _ h.c0,h.c1.imp (fun _ e=>(aZ XA).trans e),h.c2.imp (fun _ e=>(aZ XA).trans e),(aZ XA).trans h.c3,(aZ XA).trans h.c4,fun o=>(zF ..).trans (h.fz o),h.l.off (aH.bD ..) h.out.1,h.r.off (aH.bD ..) h.out.2,h.nd⟩
theorem Ac{d:aJ.T}(r:aH F w w1)(h:∀ k∈G,k∈F\/w<=k)(j:b∈G)(q:dO w2 d u F')(m:∀ k∈F',k∈G)(l:aH [b] w1 w2):sF w F d (Yg u) w2 :=
 ⟨u,F',rfl,q,fun k i=>h k (m k i),r.trans' l (fun x g=>by simp at g;subst g;exact h x j)⟩
theorem Ky(t:aJ.T)(u:XM X5)(F:J XP)(lo hi a b x:XQ)(n:XP)(w:XY)(h:dO w t u F)(E:aJ.apart lo hi a b=XW)(D:aJ.within lo hi a b=XX)
  (Q:-1000000<=x) (P:x<=1000000) (A:LB t) (g:LB (aJ.gP n t lo hi a b x)):
  X4 prog 261 #[u,Yd #[lo,hi],Yd #[a,b],x] w (sF w F (aJ.gP n t lo hi a b x)):=by
 have e:aJ.gP n t lo hi a b x=aJ.mk (aJ.val t+x) (aJ.fst t) (aJ.snd t):=by unfold aJ.gP;rw[XR (by simp[E]),XS D]
 rw[e] at g ⊢;have L:=A.val;clear e A
 cases t with
 |nil =>
  obtain⟨R,rfl⟩:=h
  cases R
  simp only[aJ.val,aJ.fst,aJ.snd,YB] at g L ⊢
  go_in
  go_wp21
  refine aK (ov _ _ _ _ _) fun w1 d=>?_;rw[E];have B:=boxes d;have ⟨q0,q1,q2,q3,hs,hB⟩:=B;have C:=aC hB;have j:w<w1.heap.size:=O
  clear hB d B
  go_wp21
  refine aK (vH _ _ _ _ _) fun w2 d=>?_;rw[D];have i:=(Jr w1 0).off (G:=[]) (aH.aD d) XA XA XA;have z:aH [] w w2:=(((aH.aD C).alloc _).trans (aH.aD d));have hz:w<=w1.heap.size:=O
  have m:∀ k∈w1.heap.size :: ([]++[]),k∈([]:J XP)\/w<=k:=by simp;omega
  have I:=i.c0;have H:=i.fz 0;clear d q0 q1 q2 q3 hs j
  go_wp21
  refine (Av _ _ _ _ _ _ _ _ _ (i.bD _) g).mono ?_;rintro e w3 ⟨u3,F3,rfl,y,s,q⟩;have K:=aC (Ac (z.setCell (m _ XA) _ _) m XA y s q);clear y s q i z m I H
  go_wp21
  go_ret;exact K
 |node c l r =>
  obtain⟨bk,pl,pr,Fl,Fr,rfl,rfl,W⟩:=xA h;simp only[aJ.val,aJ.fst,aJ.snd] at g L ⊢
  go_in
  go_wp21
  refine aK (ov _ _ _ _ _) fun w1 d=>?_;rw[E];have B:=boxes d;have ⟨q0,q1,q2,q3,hs,hB⟩:=B;have C:=aC hB;have j:w<w1.heap.size:=O
  clear hB d B
  go_wp21
  refine aK (vH _ _ _ _ _) fun w2 d=>?_;rw[D];have i:=W.off (G:=[]) ((aH.aD C).trans (aH.aD d)) XA XA XA;have z:aH (bk :: (Fl++Fr)) w w2:=(aH.aD C).trans (aH.aD d);have m:∀ k∈bk :: (Fl++Fr),k∈bk :: (Fl++Fr)\/w<=k:=fun _ S=>.inl S
  have I:=i.c0;have H:=i.fz 0;clear d q0 q1 q2 q3 hs j
  go_wp21
  refine (Av _ _ _ _ _ _ _ _ _ (i.bD _) g).mono ?_;rintro e w3 ⟨u3,F3,rfl,y,s,q⟩;have K:=aC (Ac (z.setCell (m _ XA) _ _) m XA y s q);clear y s q i z m I H
  go_wp21
  go_ret;exact K
theorem dJ.lt{l r:aJ.T}(h:dJ w b c l r pl pr Fl Fr):∀ k∈b :: (Fl++Fr),k<w:=by
 intro k d;rcases Yu.1 d with rfl|d
 .exact Yl _ _ h.c0
 .rcases Yv.1 d with d|d
  .exact h.l.lt k d
  .exact h.r.lt k d
theorem dJ.jf{l r:aJ.T}(h:dJ w b c l r pl pr Fl Fr):b ∉ Fl/\b ∉ Fr/\(∀ x∈Fr,x ∉ Fl)/\Fl.Nodup/\Fr.Nodup:=by
 have d:=h.nd;rw[Yx,YC] at d;let⟨n1,n2,n3,n4⟩:=d;exact⟨fun e=>n1 (by simp[e]),fun e=>n1 (by simp[e]),fun x i g=>n4 x g x i rfl,n2,n3⟩
theorem dJ.lg{l r q:aJ.T}(h:dJ X b c l r pl pr Fl Fr)(t:dO w4 q u F')(s:∀ k∈F',k∈Fl\/X<=k)(g:aH Fl X w4):
  dJ (w4.setCell (b,3) u) b c q r u pr F' Fr:=by
 let⟨n1,n2,n3,n4,n5⟩:=h.jf;have i:=h.lt;have z:b ∉ F':=fun e=>by rcases s b e with j|j;exact n1 j;have:=i b XA;omega
 have C:∀ x∈Fr,x ∉ F':=fun x d e=>by rcases s x e with j|j;exact n3 x d j;have:=i x (by simp[d]);omega
 have A:=aH.bD b w4 3 u;have m:=h.r.off g n3
 exact⟨(aZ XA).trans (g.cell n1 h.c0),h.c1.imp (fun _ e=>(aZ XA).trans (g.cell n1 e)),h.c2.imp (fun _ e=>(aZ XA).trans (g.cell n1 e)),Yy _ _ _ (g.cell n1 h.c3),(aZ XA).trans (g.cell n1 h.c4),
  fun o=>(zF ..).trans ((g.frozen n1 (i b XA)).trans (h.fz o)),t.off A (fun x d=>by simp;rintro rfl;exact z d),m.off A (fun x d=>by simp;rintro rfl;exact n2 d),
  Yx.2 ⟨by simp;exact⟨z,n2⟩,YC.2 ⟨t.nodup,n5,fun x d y B e=>C y B (e ▸ d)⟩⟩⟩
theorem dJ.jR{l r q:aJ.T}(h:dJ X b c l r pl pr Fl Fr)(t:dO w4 q u F')(s:∀ k∈F',k∈Fr\/X<=k)(g:aH Fr X w4):
  dJ (w4.setCell (b,4) u) b c l q pl u Fl F':=by
 let⟨n1,n2,n3,n4,n5⟩:=h.jf;have i:=h.lt;have z:b ∉ F':=fun e=>by rcases s b e with j|j;exact n2 j;have:=i b XA;omega
 have C:∀ x∈Fl,x ∉ F':=fun x d e=>by rcases s x e with j|j;exact n3 x j d;have:=i x (by simp[d]);omega
 have A:=aH.bD b w4 4 u;have m:=h.l.off g (fun x d e=>n3 x e d)
 exact⟨(aZ XA).trans (g.cell n2 h.c0),h.c1.imp (fun _ e=>(aZ XA).trans (g.cell n2 e)),h.c2.imp (fun _ e=>(aZ XA).trans (g.cell n2 e)),(aZ XA).trans (g.cell n2 h.c3),Yy _ _ _ (g.cell n2 h.c4),
  fun o=>(zF ..).trans ((g.frozen n2 (i b XA)).trans (h.fz o)),m.off A (fun x d=>by simp;rintro rfl;exact n1 d),t.off A (fun x d=>by simp;rintro rfl;exact z d),
  Yx.2 ⟨by simp;exact⟨n1,z⟩,YC.2 ⟨n4,t.nodup,fun x d y B e=>C x d (e ▸ B)⟩⟩⟩
structure nR(w X:XY)(F:J XP)(bk M:XP)(c lo hi a b:XQ)(l r:aJ.T)(pl pr:XM X5)(Fl Fr:J XP):Prop where
 half:dJ X bk c l r pl pr Fl Fr
 off:aH F w X
 own:∀ k∈bk :: (Fl++Fr),k∈F\/w<=k
 a0:X.cell? (w.heap.size+1,0)=U ↑a
 a1:X.cell? (w.heap.size+1,1)=U ↑b
 m0:X.cell? (M,0)=U ↑lo
 m1:X.cell? (M,1)=U (V Y (aJ.aY lo hi))
 n0:X.cell? (M+1,0)=U (V Y (aJ.aY lo hi))
 n1:X.cell? (M+1,1)=U ↑hi
 out:w.heap.size+1 ∉ bk :: (Fl++Fr)/\M ∉ bk :: (Fl++Fr)/\M+1 ∉ bk :: (Fl++Fr)
def IE(n:XP):Prop:=∀ (t:aJ.T)(u:XM X5)(F:J XP)(lo hi a b x:XQ)(w:XY),dO w t u F->0<=lo->lo<hi->hi<=2000000->hi-lo<=2 ^ n->a<b->-1000000<=x->x<=1000000->LB t->LB (aJ.gP n t lo hi a b x) ->
  X4 prog 261 #[u,Yd #[lo,hi],Yd #[a,b],x] w (sF w F (aJ.gP n t lo hi a b x))
theorem nR.drew{b:XQ}{l r:aJ.T}(h:nR w X F bk M c lo hi a b l r pl pr Fl Fr):nR w X.drew F bk M c lo hi a b l r pl pr Fl Fr :=
 ⟨h.half.drew,h.off.drew,h.own,h.a0,h.a1,h.m0,h.m1,h.n0,h.n1,h.out⟩
theorem nR.lg{b:XQ}{l r m:aJ.T}(h:nR w X F bk M c lo hi a b l r pl pr Fl Fr)(A:dO w4 m u F')(s:∀ k∈F',k∈Fl\/X<=k)(q:aH Fl X w4):
  nR w (w4.setCell (bk,3) u) F bk M c lo hi a b m r u pr F' Fr:=by
 let⟨o1,o2,o3⟩:=h.out;have z:=Yl _ _ h.a0;have y:=Yl _ _ h.m0;have t:=Yl _ _ h.n0;have C:=h.off.size;have j:aH (bk :: (Fl++Fr)) X (w4.setCell (bk,3) u):=(q.mono (by intro x B;simp[B])).setCell (.inl XA) _ _
 have i:∀ k∈bk :: (F'++Fr),k∈bk :: (Fl++Fr)\/X<=k:=by
  intro k g;rcases Yu.1 g with rfl|g
  .exact .inl XA
  .rcases Yv.1 g with g|g
   .rcases s k g with d|d
    .exact .inl (by simp[d])
    .exact .inr d
   .exact .inl (by simp[g])
 have D:=h.half.lg A s q;refine⟨D,h.off.trans' j h.own,fun k g=>?_,j.cell o1 h.a0,j.cell o1 h.a1,j.cell o2 h.m0,j.cell o2 h.m1,j.cell o3 h.n0,j.cell o3 h.n1,?_,?_,?_⟩
 .rcases i k g with d|d
  .exact h.own k d
  .exact .inr O
 .intro e;rcases i _ e with d|d
  .exact o1 d
  .simp at z;omega
 .intro e;rcases i _ e with d|d
  .exact o2 d
  .simp at y;omega
 .intro e;rcases i _ e with d|d
  .exact o3 d
  .simp at t;omega
theorem nR.jR{b:XQ}{l r g:aJ.T}(h:nR w X F bk M c lo hi a b l r pl pr Fl Fr)(s:dO w4 g u F')(j:∀ k∈F',k∈Fr\/X<=k)(i:aH Fr X w4):
  dJ (w4.setCell (bk,4) u) bk c l g pl u Fl F'/\aH F w (w4.setCell (bk,4) u)/\∀ k∈bk :: (Fl++F'),k∈F\/w<=k:=by
 have y:=h.off.size;have q:aH (bk :: (Fl++Fr)) X (w4.setCell (bk,4) u):=(i.mono (by intro x t;simp[t])).setCell (.inl XA) _ _;refine⟨h.half.jR s j i,h.off.trans' q h.own,fun k d=>?_⟩;rcases Yu.1 d with rfl|d
 .exact h.own k XA
 .rcases Yv.1 d with d|d
  .exact h.own k (by simp[d])
  .rcases j k d with m|m
   .exact h.own k (by simp[m])
   .exact .inr O
theorem Ln{w3:XY}{b:XQ}{l r:aJ.T}(i:dJ w2 bk c l r pl pr Fl Fr)(s:aH F w w2)(t:∀ k∈bk :: (Fl++Fr),k∈F\/w<=k)(m:w2.cell? (w.heap.size+1,0)=U ↑a)(j:w2.cell? (w.heap.size+1,1)=U ↑b)(g:w.heap.size+1 ∉ bk :: (Fl++Fr))(h:X0 w2 w2 w3):
  nR w ((w3.alloc (Yh #[lo,V Y (aJ.aY lo hi)] 60)).alloc (Yh #[V Y (aJ.aY lo hi),hi] 60)) F bk w3 c lo hi a b l r pl pr Fl Fr:=by
 have k:aH [] w2 ((w3.alloc (Yh #[lo,V Y (aJ.aY lo hi)] 60)).alloc (Yh #[V Y (aJ.aY lo hi),hi] 60)):=((aH.aD h).alloc _).alloc _;have d:=i.lt;have q:=h.size;refine⟨i.off k XA XA XA,s.trans' k XA,t,k.cell XA m,k.cell XA j,by simp,by simp,by simp,by simp,g,fun e=>?_,fun e=>?_⟩
 .have:=d _ e;omega
 .have:=d _ e;omega
theorem TS(n:XP)(ih:Hid (IE n))(t:aJ.T)(u:XM X5)(F:J XP)(lo hi a b x:XQ)(w:XY)(h:dO w t u F)(hp:aJ.apart lo hi a b=XW)(hw:aJ.within lo hi a b=XW)
  (h0:0<=lo) (h1:lo<hi) (h2:hi<=2000000) (h3:hi-lo<=2 ^ (n+1)) (h4:a<b)
  (ab:-1000000<=x) (aa:x<=1000000) (H:LB t) (z:LB (aJ.gP (n+1) t lo hi a b x)):
  X4 prog 261 #[u,Yd #[lo,hi],Yd #[a,b],x] w (sF w F (aJ.gP (n+1) t lo hi a b x)):=by
 have e:aJ.gP (n+1) t lo hi a b x=aJ.mk (aJ.val t) (aJ.gP n (aJ.fst t) lo (aJ.aY lo hi) a b x) (aJ.gP n (aJ.snd t) (aJ.aY lo hi) hi a b x):=by rw[aJ.gP];rw[XR (by simp[hp]),XR (by simp[hw])]
 rw[e] at z ⊢;obtain⟨_,ae,ad⟩:=z.mk;have hl:=H.fst;have hr:=H.snd;have g1:=aJ.nw.1 hp;have g2:=aJ.xY.1 hw;have hm:lo<aJ.aY lo hi/\aJ.aY lo hi<hi:=by unfold aJ.aY;omega
 have E:=aJ.DB h3
 have S:Hid (∀ (w:XY) (u:XM X5) (F:J XP),dO w (aJ.fst t) u F->X4 prog 261 #[u,Yd #[lo,V Y (aJ.aY lo hi)],Yd #[a,b],x] w (sF w F (aJ.gP n (aJ.fst t) lo (aJ.aY lo hi) a b x))) :=
  fun w u F k=>ih.out _ _ _ _ _ _ _ _ _ k h0 hm.1 O E.1 h4 ab aa hl ae
 have R:Hid (∀ (w:XY) (u:XM X5) (F:J XP),dO w (aJ.snd t) u F->X4 prog 261 #[u,Yd #[V Y (aJ.aY lo hi),hi],Yd #[a,b],x] w (sF w F (aJ.gP n (aJ.snd t) (aJ.aY lo hi) hi a b x))) :=
  fun w u F k=>ih.out _ _ _ _ _ _ _ _ _ k O hm.2 h2 E.2 h4 ab aa hr ad
 have A:=aC z;clear e ae ad hl hr g1 g2 hm E h3 ih H z;generalize aJ.gP n (aJ.fst t) lo (aJ.aY lo hi) a b x=tl at *;generalize aJ.gP n (aJ.snd t) (aJ.aY lo hi) hi a b x=tr at *
 cases t with
 |nil =>
  obtain⟨hu,rfl⟩:=h
  cases hu
  simp only[aJ.val,aJ.fst,aJ.snd] at A S R ⊢
  go_in
  go_wp21
  refine aK (ov _ _ _ _ _) fun w1 g=>?_;rw[hp];have bx:=boxes g;have ⟨q0,q1,q2,q3,hs,hB⟩:=bx;have W:=aC hB;have D:w<w1.heap.size:=O
  clear hB g bx
  go_wp21
  refine aK (vH _ _ _ _ _) fun w2 g=>?_;rw[hw];obtain⟨bk,ac⟩:∃ bk,bk=w1.heap.size:=⟨_,rfl⟩;have Q:=(Jr w1 0).off (G:=[]) (aH.aD g) XA XA XA;have hO:aH [] w w2:=(((aH.aD W.out).alloc _).trans (aH.aD g));have hG:∀ k∈bk :: ([]++[]),k∈([]:J XP)\/w.heap.size<=k:=by simp;omega
  have s:w.heap.size+1 ∉ bk :: ([]++[]):=by simp;omega
  have m:aH [] w1 w2:=((aH.refl [] w1).alloc _).trans (aH.aD g);have r0:w2.cell? (w,0)=U ↑lo:=m.cell XA q0;have r1:w2.cell? (w,1)=U ↑hi:=m.cell XA q1;have r2:w2.cell? (w.heap.size+1,0)=U ↑a:=m.cell XA q2;have r3:w2.cell? (w.heap.size+1,1)=U ↑b:=m.cell XA q3;have C:w+1<w2.heap.size:=zL hs m.size;rw[<- ac] at Q ⊢;clear g q0 q1 q2 q3 hs D W m ac
  go_wp21
  refine aK (Aw _ _ _ O O O) fun w3 g=>?_;have d:nR w _ _ _ _ 0 lo hi a b _ _ _ _ _ _:=Ln (w3:=w3) Q hO hG r2 r3 s g;clear g Q hO hG r0 r1 r2 r3 s C
  go_upto_region 8 with fail
  generalize (YD _ (Yh #[V Y (aJ.aY lo hi),hi] 60))=X at d ⊢;generalize w3=M at d ⊢
  go_cut [43] from 35 to 45 (fun _ wx=>∃ (u4:XM X5) (y:J XP),nR w wx ([]:J XP) bk M 0 lo hi a b tl .nil u4 Z y [])
  .have P:=d.half.c3;have K:=d.half.fz 3;have a0:=d.a0;have a1:=d.a1;have m0:=d.m0;have m1:=d.m1
   go_region_with (first
    |(go_at_call 261;refine (S _ _ _ d.half.drew.l).mono ?_;rintro e w4 ⟨u4,y,rfl,m,q,j⟩;have L:=j.cell d.half.jf.1 P;have I:=(j.frozen (o:=3) d.half.jf.1 (d.half.lt _ XA)).trans K))
   all_goals
    go_wp21
    go_meet
    exact⟨_,_,d.drew.lg m q j⟩
  .obtain⟨u4,y,i⟩:=hcut;clear d
   go_upto_region 9 with fail
   go_cut [54] from 46 to 56 (fun _ wx=>∃ (u5:XM X5) (B:J XP),dJ wx bk 0 tl tr u4 u5 y B/\aH ([]:J XP) w wx/\∀ k∈bk :: (y++B),k∈([]:J XP)\/w.heap.size<=k)
   .have P:=i.half.c4;have K:=i.half.fz 4;have a0:=i.a0;have a1:=i.a1;have m0:=i.n0;have m1:=i.n1
    go_region_with (first
     |(go_at_call 261;refine (R _ _ _ i.half.drew.r).mono ?_;rintro e w5 ⟨u5,B,rfl,m,q,j⟩;have L:=j.cell i.half.jf.2.1 P;have I:=(j.frozen (o:=4) i.half.jf.2.1 (i.half.lt _ XA)).trans K))
    all_goals
     go_wp21
     go_meet
     exact⟨_,_,i.drew.jR m q j⟩
   .obtain⟨u5,B,m,q,j⟩:=hcut;clear i S R
    go_wp21
    refine (Av _ _ _ _ _ _ _ _ _ m A).mono ?_;rintro e w6 ⟨u6,F6,rfl,n1,n2,n3⟩;have HK:=aC (Ac q j XA n1 n2 n3);clear m q j n1 n2 n3
    go_wp21
    go_ret;exact HK
 |node c l r =>
  obtain⟨bk,pl,pr,Fl,Fr,rfl,rfl,E⟩:=xA h;simp only[aJ.val,aJ.fst,aJ.snd] at A S R ⊢
  go_in
  go_wp21
  refine aK (ov _ _ _ _ _) fun w1 g=>?_;rw[hp];have bx:=boxes g;have ⟨q0,q1,q2,q3,hs,hB⟩:=bx;have W:=aC hB;have D:w<w1.heap.size:=O
  clear hB g bx
  go_wp21
  refine aK (vH _ _ _ _ _) fun w2 g=>?_;rw[hw];have Q:=E.off (G:=[]) ((aH.aD W).trans (aH.aD g)) XA XA XA;have hO:aH (bk :: (Fl++Fr)) w w2:=(aH.aD W).trans (aH.aD g);have hG:∀ k∈bk :: (Fl++Fr),k∈bk :: (Fl++Fr)\/w<=k:=fun _ hk=>.inl hk
  have s:w.heap.size+1 ∉ bk :: (Fl++Fr):=fun e=>by have:=E.lt _ e;omega
  have r0:w2.cell? (w,0)=U ↑lo:=aR g q0;have r1:w2.cell? (w,1)=U ↑hi:=aR g q1;have r2:w2.cell? (w.heap.size+1,0)=U ↑a:=aR g q2;have r3:w2.cell? (w.heap.size+1,1)=U ↑b:=aR g q3;have C:w+1<w2.heap.size:=zL hs g.size;clear g q0 q1 q2 q3 hs D W h E
  go_wp21
  refine aK (Aw _ _ _ O O O) fun w3 g=>?_;have d:nR w _ _ _ _ c lo hi a b _ _ _ _ _ _:=Ln (w3:=w3) Q hO hG r2 r3 s g;clear g Q hO hG r0 r1 r2 r3 s C
  go_upto_region 8 with fail
  generalize (YD _ (Yh #[V Y (aJ.aY lo hi),hi] 60))=X at d ⊢;generalize w3=M at d ⊢
  go_cut [43] from 35 to 45 (fun _ wx=>∃ (u4:XM X5) (y:J XP),nR w wx (bk :: (Fl++Fr)) bk M c lo hi a b tl r u4 pr y Fr)
  .have P:=d.half.c3;have K:=d.half.fz 3;have a0:=d.a0;have a1:=d.a1;have m0:=d.m0;have m1:=d.m1
   go_region_with (first
    |(go_at_call 261;refine (S _ _ _ d.half.drew.l).mono ?_;rintro e w4 ⟨u4,y,rfl,m,q,j⟩;have L:=j.cell d.half.jf.1 P;have I:=(j.frozen (o:=3) d.half.jf.1 (d.half.lt _ XA)).trans K))
   all_goals
    go_wp21
    go_meet
    exact⟨_,_,d.drew.lg m q j⟩
  .obtain⟨u4,y,i⟩:=hcut;clear d
   go_upto_region 9 with fail
   go_cut [54] from 46 to 56 (fun _ wx=>∃ (u5:XM X5) (B:J XP),dJ wx bk c tl tr u4 u5 y B/\aH (bk :: (Fl++Fr)) w wx/\∀ k∈bk :: (y++B),k∈(bk :: (Fl++Fr))\/w<=k)
   .have P:=i.half.c4;have K:=i.half.fz 4;have a0:=i.a0;have a1:=i.a1;have m0:=i.n0;have m1:=i.n1
    go_region_with (first
     |(go_at_call 261;refine (R _ _ _ i.half.drew.r).mono ?_;rintro e w5 ⟨u5,B,rfl,m,q,j⟩;have L:=j.cell i.half.jf.2.1 P;have I:=(j.frozen (o:=4) i.half.jf.2.1 (i.half.lt _ XA)).trans K))
    all_goals
     go_wp21
     go_meet
     exact⟨_,_,i.drew.jR m q j⟩
   .obtain⟨u5,B,m,q,j⟩:=hcut;clear i S R
    go_wp21
    refine (Av _ _ _ _ _ _ _ _ _ m A).mono ?_;rintro e w6 ⟨u6,F6,rfl,n1,n2,n3⟩;have HK:=aC (Ac q j XA n1 n2 n3);clear m q j n1 n2 n3
    go_wp21
    go_ret;exact HK
theorem Rt:∀ n,IE n:=by
 intro n
 induction n with
 |zero =>
  intro t u F lo hi a b x w h z y s m r i d k j;have m:hi-lo<=1:=by simpa using m
  cases l:aJ.apart lo hi a b
  .have g:=aJ.nw.1 l;exact Ky t u F lo hi a b x 0 w h l (aJ.vC.2 O) i d k j
  .exact J8 t u F lo hi a b x 0 w h l
 |succ n ih =>
  intro t u F lo hi a b x w h z y s m r i d k j
  cases l:aJ.apart lo hi a b
  .cases q:aJ.within lo hi a b
   .exact TS n ih t u F lo hi a b x w h l q z y s m r i d k j
   .exact Ky t u F lo hi a b x _ w h l q i d k j
  .exact J8 t u F lo hi a b x _ w h l
theorem dO.later{t:aJ.T}(h:dO w t p F)(k:X0 w w w'):dO w' t p F:=h.same (aH.aD k)
theorem Tk(lo hi a b:XQ)(w:XY):
  X4 prog 211 #[X8 Z,Yd #[lo,hi],Yd #[a,b]] w fun e w'=>e=Yg (V Y 0)/\X0 w w w':=by
 go_in
 go_wp21
 go_ret;exact⟨rfl,bC.alloc XA _⟩
def MS(X w':XY)(bk N M:XP)(c lo hi a b:XQ)(pl pr:XM X5):Prop :=
 w'.cell? (bk,0)=U ↑c/\w'.cell? (bk,3)=U ↑pl/\w'.cell? (bk,4)=U ↑pr/\w'.cell? (N,0)=U ↑a/\w'.cell? (N,1)=U ↑b/\w'.cell? (M,0)=U ↑lo/\w'.cell? (M,1)=U (V Y (aJ.aY lo hi))/\w'.cell? (M+1,0)=U (V Y (aJ.aY lo hi))/\w'.cell? (M+1,1)=U ↑hi/\X0 X X w'
theorem MS.later{b:XQ}(h:MS X w' bk N M c lo hi a b pl pr)(k:X0 w' w' w''):MS X w'' bk N M c lo hi a b pl pr:=by
 let⟨h1,h2,h3,h4,h5,h6,h7,h8,h9,h10⟩:=h;exact⟨aR k h1,aR k h2,aR k h3,aR k h4,aR k h5,aR k h6,aR k h7,aR k h8,aR k h9,bM h10 k aI⟩
theorem Jy{t:aJ.T}{b:XQ}(g:aJ.Good t lo hi)(i:LB t)(h:lo<hi)(j:a<b):0<=aJ.gu t lo hi a b/\aJ.gu t lo hi a b<=100000000:=by
 have:=i.top
 cases d:aJ.apart lo hi a b
 .let⟨k0,_,x,k1,k2,_,_,k5⟩:=aJ.Jz t lo hi a b h j g d;have:=(aJ.xw t lo hi h g).1 x k1 k2;omega
 .rw[aJ.At d];omega
theorem Tj:∀ (t:aJ.T)(u:XM X5)(F:J XP)(lo hi a b:XQ)(w:XY),dO w t u F->LB t->aJ.Good t lo hi->0<=lo->lo<hi->hi<=2000000->a<b ->
  X4 prog 211 #[u,Yd #[lo,hi],Yd #[a,b]] w fun e w'=>e=Yg (V Y (aJ.gu t lo hi a b))/\X0 w w w':=by
 intro t
 induction t with
 |nil =>
  intro u F lo hi a b w h _ _ _ _ _ _;obtain⟨hu,_⟩:=h
  cases hu
  exact Tk lo hi a b w
 |node c l r ihl ihr =>
  intro u F lo hi a b w h g A h0 h1 h2 K;obtain⟨bk,pl,pr,Fl,Fr,rfl,rfl,s⟩:=xA h;have E:=aC ihl;have D:=aC ihr;clear ihl ihr
  have x:w.cell? (bk,1)=U (V Y (aJ.top (.node c l r))):=by
   obtain⟨b',_,_,_,_,i,_,x,_⟩:=h;cases i;exact x
  clear h
  cases i:aJ.apart lo hi a b
  .cases z:aJ.within lo hi a b
   .have m:aJ.gu (.node c l r) lo hi a b=c+max (aJ.gu l lo (aJ.aY lo hi) a b) (aJ.gu r (aJ.aY lo hi) hi a b):=by simp[aJ.gu,i,z]
    have g1:=aJ.nw.1 i;have g2:=aJ.xY.1 z;have I:lo<aJ.aY lo hi/\aJ.aY lo hi<hi:=by unfold aJ.aY;omega
    have bl:=Jy (a:=a) (b:=b) A.2.2.1 g.2.2.2.1 I.1 K;have br:=Jy (a:=a) (b:=b) A.2.2.2 g.2.2.2.2 I.2 K;have hc:=g.1
    have I1:Hid (∀ (w:XY),dO w l pl Fl->X4 prog 211 #[pl,Yd #[lo,V Y (aJ.aY lo hi)],Yd #[a,b]] w fun e w'=>e=Yg (V Y (aJ.gu l lo (aJ.aY lo hi) a b))/\X0 w w w') :=
     fun w k=>E _ _ _ _ _ _ _ k g.2.2.2.1 A.2.2.1 h0 I.1 O K
    have I2:Hid (∀ (w:XY),dO w r pr Fr->X4 prog 211 #[pr,Yd #[V Y (aJ.aY lo hi),hi],Yd #[a,b]] w fun e w'=>e=Yg (V Y (aJ.gu r (aJ.aY lo hi) hi a b))/\X0 w w w') :=
     fun w k=>D _ _ _ _ _ _ _ k g.2.2.2.2 A.2.2.2 O I.2 h2 K
    rw[m];clear m E D g1 g2 A g x;generalize aJ.gu l lo (aJ.aY lo hi) a b=ml at *;generalize aJ.gu r (aJ.aY lo hi) hi a b=mr at *;have c0:=s.c0;have c3:=s.c3;have c4:=s.c4;have RL:=aC s.l;have RR:=aC s.r;clear s;have Q:Y.wrap (c+if ml<mr then mr else ml)=c+max ml mr:=by rw[CI];exact cT O O
    have E5:=aC Q;clear Q
    go_in
    go_wp21
    refine aK (ov _ _ _ _ _) fun w1 d=>?_;rw[i];have ⟨q0,q1,q2,q3,hs,g⟩:=boxes d;have d0:=aR g c0;have d3:=aR g c3;have d4:=aR g c4;have q:=aC g;clear g d c0 c3 c4
    go_wp21
    refine aK (vH _ _ _ _ _) fun w2 d=>?_;rw[z];have y:=aC (bM q d aI);have r0:w2.cell? (w,0)=U ↑lo:=aR d q0;have r1:w2.cell? (w,1)=U ↑hi:=aR d q1;have P:w2.cell? (w.heap.size+1,0)=U ↑a:=aR d q2;have L:w2.cell? (w.heap.size+1,1)=U ↑b:=aR d q3;have W:=aR d d0;have S:=aR d d3;have R:=aR d d4;clear q d q0 q1 q2 q3 hs d0 d3 d4
    go_wp21
    refine aK (Aw _ _ _ O O O) fun w3 d=>?_;have j:X0 w2 w2 ((w3.alloc (Yh #[lo,V Y (aJ.aY lo hi)] 60)).alloc (Yh #[V Y (aJ.aY lo hi),hi] 60)):=(d.alloc d.size _).alloc (by have:=d.size;simp;omega) _
    have C:MS ((w3.alloc (Yh #[lo,V Y (aJ.aY lo hi)] 60)).alloc (Yh #[V Y (aJ.aY lo hi),hi] 60)) ((w3.alloc (Yh #[lo,V Y (aJ.aY lo hi)] 60)).alloc (Yh #[V Y (aJ.aY lo hi),hi] 60)) bk (w.heap.size+1) w3 c lo hi a b pl pr :=
     ⟨aR j W,aR j S,aR j R,aR j P,aR j L,by simp,by simp,by simp,by simp,Below.refl _ _⟩
    have H:=aC (Yz (bM y j aI) (Yz (RL.later (bM y j aI)) (RR.later (bM y j aI))));clear y RL RR j d r0 r1 P L W S R
    go_upto_region 6 with fail
    generalize (YD _ (Yh #[V Y (aJ.aY lo hi),hi] 60))=X at C H ⊢;generalize w3=M at C ⊢
    go_region_held3 (fun w'=>w'.cell? (bk,0)=U ↑c/\w'.cell? (bk,3)=U ↑pl/\w'.cell? (bk,4)=U ↑pr/\w'.cell? (w.heap.size+1,0)=U ↑a/\w'.cell? (w.heap.size+1,1)=U ↑b/\w'.cell? (M,0)=U ↑lo/\w'.cell? (M,1)=U (V Y (aJ.aY lo hi))/\w'.cell? ⟨M+1,0,Z⟩=U (V Y (aJ.aY lo hi))/\w'.cell? ⟨M+1,1,Z⟩=U (V Y hi)/\X0 X X w')
     (first
      |exact MS.later C (dV _)
      |(go_split_ands;exact MS.later C (bM XD B aI)))
     (first
      |(go_at_call_of 211 (X8 pl);go_split_ands;refine aK (I1 _ (H.2.1.later XD)) fun w4 B=>?_)
      |(go_at_call_of 211 (X8 pr);go_split_ands;refine aK (I2 _ (H.2.2.later XD)) fun w4 B=>?_))
    rw[E5,uR];have HF:=aC (bM H.1 (by go_split_ands;assumption:X0 X X w4) aI);clear C H I1 I2
    go_wp21
    go_ret;exact⟨rfl,HF⟩
   .have m:aJ.gu (.node c l r) lo hi a b=aJ.top (.node c l r):=by simp[aJ.gu,i,z,aJ.top]
    rw[m];clear m;generalize aJ.top (.node c l r)=tp at x ⊢
    go_in
    go_wp21
    refine aK (ov _ _ _ _ _) fun w1 d=>?_;rw[i];have ⟨q0,q1,q2,q3,hs,g⟩:=boxes d;have d1:=aR g x;have q:=aC g;clear g d x
    go_wp21
    refine aK (vH _ _ _ _ _) fun w2 d=>?_;rw[z];have d2:=aR d d1;have y:=aC (bM q d aI);clear q d q0 q1 q2 q3 hs d1
    go_wp21
    go_ret;exact⟨rfl,y⟩
  .have m:aJ.gu (.node c l r) lo hi a b=0:=aJ.At i;rw[m];clear m
   go_in
   go_wp21
   refine aK (ov _ _ _ _ _) fun w1 d=>?_;rw[i];have q:=aC (boxes d).bw;clear d
   go_wp21
   go_ret;exact⟨rfl,q⟩
theorem vI(w:XY):X4 prog 212 #[] w fun e w'=>e=Yg (Yd #[V Y 0,V Y 1048320])/\X0 w w w':=by
 go_in
 go_wp2;exact bodyPost_ret (v:=Yd #[V Y 0,V Y 1048320]) (by simp[results,results212,go_sem]) rfl ⟨rfl,bC⟩
theorem I5(t:aJ.T)(i o:XP)(u:XM X5)(F:J XP)(a b:XQ)(w:XY)(c:w.cell? (i,o)=U ↑u)(h:dO w t u F)(s:LB t)(r:aJ.Good t 0 1048320)(x:a<b):
  X4 prog 153 #[X8 (U ⟨i,o,Z⟩),Yd #[a,b]] w fun e w'=>e=Yg (V Y (aJ.gu t 0 1048320 a b))/\X0 w w w':=by
 have q:=aC h;clear h
 go_in
 go_upto_region 1 with fail
 have j:X0 w w (w.alloc (Yh #[a,b] 60)):=bC;have m:(w.alloc (Yh #[a,b] 60)).cell? (w,0)=U ↑a:=XA
 have l:(w.alloc (Yh #[a,b] 60)).cell? (w,1)=U ↑b:=XA
 have k:=aR j c;have g:=aC j;clear j;generalize (YD w (Yh #[a,b] 60))=X at m l k g ⊢
 go_region_held3 (fun w'=>w'.cell? (i,o)=U ↑u/\w'.cell? (w,0)=U ↑a/\w'.cell? (w,1)=U ↑b/\X0 X X w')
  (first
   |exact⟨k,m,l,dV _⟩
   |(go_split_ands;exact⟨aR d XD,aR d XD,aR d XD,bM XD d aI⟩))
  (first
   |(go_at_call 212;go_split_ands;refine aK (vI _) fun w4 d=>?_)
   |(go_at_call 211;go_split_ands;refine aK (Tj t u F 0 1048320 a b _ (q.later (bM g XD aI)) s r O O O x) fun w4 d=>?_))
 have y:=aC (bM g (by go_split_ands;assumption:X0 X X w4) aI);clear g q
 go_wp21
 go_ret;exact⟨rfl,y⟩
def ub(w:XY)(d o:XP)(F:J XP)(i:aJ.T)(w':XY):Prop :=
 ∃ (h:XM X5) (F':J XP),w'.cell? ⟨d,o,Z⟩=U (X8 h)/\dO w' i (X8 h) F'/\(∀ k∈F',k∈F\/w.heap.size<=k)/\aH (d :: F) w w'/\(∀ g,g≠o->w'.cell? ⟨d,g,Z⟩=w.cell? ⟨d,g,Z⟩)/\∀ g,w'.frozen? ⟨d,g,Z⟩=w.frozen? ⟨d,g,Z⟩
theorem Ru{g:XY}{d:XP}{F5:J XP}{q:aJ.T}{u5:XM X5}(m:X0 w w w4)(j:d<w)(t:d ∉ F)(C:dO g q u5 F5)(s:∀ k∈F5,k∈F\/w4<=k)(r:aH F w4 g)(z:g.cell? (d,o)=U v):ub w d o F q (g.setCell (d,o) u5):=by
 have E:=m.size;have A:aH [] w w4:=aH.aD m;have l:d ∉ F5:=fun e=>by rcases s d e with h|h;exact t h;omega
 have y:g.heap[d]?=w.heap[d]?:=(r.block d O t).trans (A.block d j XA);refine⟨u5,F5,Yy _ _ _ z,C.off (aH.bD ..) (fun x i=>by simp;rintro rfl;exact l i),fun k D=>?_,?_,fun B H=>?_,fun B=>?_⟩
 .rcases s k D with h|h
  .exact .inl h
  .exact .inr O
 .exact ((aH.aD (F:=d :: F) m).trans (r.mono (by intro x i;simp[i]))).setCell (.inl XA) _ _
 .exact (aZ XA).trans (zo (w:=w) y)
 .refine (zF ..).trans ?_;simp only[Ym,y]
theorem Rq(t:aJ.T)(g o:XP)(u:XM X5)(F:J XP)(a b x:XQ)(w:XY)(c:w.cell? (g,o)=U ↑u)(f:w.frozen? (g,o)=XW)(C:g ∉ F)(h:dO w t u F)(S:a<b)(B:-1000000<=x)(A:x<=1000000)(l:LB t)(j:LB (aJ.gP 20 t 0 1048320 a b x)):
  X4 prog 219 #[X8 (U ⟨g,o,Z⟩),Yd #[a,b],x] w fun e w'=>e=Yg (Yc #[])/\ub w g o F (aJ.gP 20 t 0 1048320 a b x) w':=by
 have L:Hid (∀ (w':XY),dO w' t u F->X4 prog 261 #[u,Yd #[V Y 0,V Y 1048320],Yd #[a,b],x] w' (sF w' F (aJ.gP 20 t 0 1048320 a b x))) :=
  fun w' k=>Rt 20 t u F 0 1048320 a b x w' k O O O XC S B A l j
 have K:=aC h;have i:=Yl _ _ c;generalize aJ.gP 20 t 0 1048320 a b x=t' at *;clear h l j
 go_in
 go_upto_region 1 with fail
 have D:X0 w w (w.alloc (Yh #[a,b] 60)):=bC;have z:(w.alloc (Yh #[a,b] 60)).cell? (w,0)=U ↑a:=XA
 have y:(w.alloc (Yh #[a,b] 60)).cell? (w,1)=U ↑b:=XA
 have s:=aR D c;have m:=aC D;clear D;generalize (YD w (Yh #[a,b] 60))=X at z y s m ⊢
 go_region_with (first
  |(go_at_call 212;refine aK (vI _) fun w4 d=>?_;have R:=aR d (show YF (YG X) _=_ from z);have Q:=aR d (show YF (YG X) _=_ from y);have r:=aR d (show YF (YG X) _=_ from s))
  |(go_at_call 261;refine (L _ (K.later (bM m (bM (dV _) d aI) aI))).mono ?_;rintro e w5 ⟨u5,F5,rfl,I,H,q⟩;have E:=q.cell C r;have P:=(q.frozen (o:=o) C (Yl _ _ r)).trans (((aH.aD (F:=[]) (bM m (bM (dV _) d aI) aI)).frozen XA i).trans f)))
 all_goals
  have W:=aC (Ru (bM m (bM (dV _) d aI) aI) i C I H q E);clear I H q E P R Q r z y s m K L
  go_wp21
  go_end0
  exact⟨rfl,W⟩
theorem QC(t:aJ.T)(u:XM X5)(F:J XP)(c level:XQ)(k:XP)(w:XY)(h:dO w t u F)(d:LB t)(g:w.cell? (k,0)=U ↑level)(l:-1000000000<=c)(j:c<=1000000000):
  X4 prog 213 #[u,c,k] w fun e w'=>e=Yg (aJ.ju XX level t c)/\X0 w w w':=by
 have i:=d.top;clear d
 go_in
 go_wp21
 go_region_held3 (fun w'=>w'.cell? (k,0)=U ↑level/\X0 w w w')
  (exact⟨g,dV _⟩)
  (first|(go_at_call 214;go_split_ands;refine aX (xF _ (h.later XD)) ?_))
 go_wp21
 go_ret;exact⟨pv (by simp only[aJ.ju];rw[cT O O];simp),dV _⟩
theorem QD(t:aJ.T)(u:XM X5)(F:J XP)(c level:XQ)(k:XP)(w:XY)(h:dO w t u F)(d:LB t)(g:w.cell? (k,0)=U ↑level)(l:-1000000000<=c)(j:c<=1000000000):
  X4 prog 215 #[u,c,k] w fun e w'=>e=Yg (aJ.ju XW level t c)/\X0 w w w':=by
 have i:=d.bot;clear d
 go_in
 go_wp21
 go_region_held3 (fun w'=>w'.cell? (k,0)=U ↑level/\X0 w w w')
  (exact⟨g,dV _⟩)
  (first|(go_at_call 216;go_split_ands;refine aX (xE _ (h.later XD)) ?_))
 go_wp21
 go_ret;exact⟨pv (by simp only[aJ.ju];rw[cT O O];simp),dV _⟩
def vS(d:XN)(fn:XP):Prop:=(d=XX/\fn=213)\/(d=XW/\fn=215)
theorem Bf{d:XN}(m:vS d fn)(t:aJ.T)(u:XM X5)(F:J XP)(c level:XQ)(k:XP)(w:XY)(h:dO w t u F)(i:LB t)(g:w.cell? (k,0)=U ↑level)(l:-1000000000<=c)(j:c<=1000000000):
  X4 prog fn #[u,c,k] w fun e w'=>e=Yg (aJ.ju d level t c)/\X0 w w w':=by
 rcases m with ⟨rfl,rfl⟩|⟨rfl,rfl⟩
 .exact QC t u F c level k w h i g l j
 .exact QD t u F c level k w h i g l j
theorem LR{t:aJ.T}(w:XY)(h:dO w t u F):
  X4 prog 260 #[u] w fun e w'=>e=Yg (aJ.flat t)/\w'=w:=by
 cases t with
 |nil=>let⟨h1,_⟩:=h;cases h1;exact UR w
 |node a l r =>
  obtain⟨b,pl,pr,Fl,Fr,rfl,rfl,d⟩:=xA h;have e:aJ.flat (.node a l r)=tQ pl pr:=by rw[tQ,d.l.isNone,d.r.isNone];rfl
  rw[e];exact EK b pl pr w d.c3 d.c4
def jx:XM XQ->XZ
 |none=>Yc #[V Y 0,XW]
 |some x=>Yc #[V Y x,XX]
theorem RG{x y:XQ}(h:x=y):Yg (Yc #[x,XX])=Yg (jx (U y)):=by rw[h];rfl
theorem LU(u:XM X5)(lo hi a b c:XQ)(k fn:XP)(w:XY)(g:aJ.apart lo hi a b=XX):
  X4 prog 217 #[u,Yd #[lo,hi],Yd #[a,b],c,.func (.func fn) #[] #[k]] w fun e w'=>e=Yg (jx Z)/\X0 w w w':=by
 generalize Value.func _ _ _=q
 go_in
 go_wp21
 refine aK (ov _ _ _ _ _) fun w1 d=>?_;rw[g];have h:=aC (boxes d).bw;clear d
 go_wp21
 go_ret2;exact⟨rfl,h⟩
theorem GW{i:XN}(l:vS i fn)(t:aJ.T)(u:XM X5)(F:J XP)(lo hi a b c level:XQ)(k:XP)(w:XY)(h:dO w t u F)(m:LB t)(s:w.cell? (k,0)=U ↑level)(y:-1000000000<=c)(x:c<=1000000000)(r:aJ.apart lo hi a b=XW)(q:aJ.ju i level t c=XW):
  X4 prog 217 #[u,Yd #[lo,hi],Yd #[a,b],c,.func (.func fn) #[] #[k]] w fun e w'=>e=Yg (jx Z)/\X0 w w w':=by
 have A:=aC (fun w' j=>Bf l t u F c level k w' (dO.later h j) m (aR j s) y x);clear m;rcases l with ⟨rfl,rfl⟩|⟨rfl,rfl⟩
 all_goals
  go_in
  go_wp21
  refine aK (ov _ _ _ _ _) fun w1 d=>?_;rw[r];have g:=aC (boxes d).bw;clear d
  go_wp21
  refine aK (A _ g) fun w2 d=>?_;rw[q];have z:=aC (bM g d aI);clear g d
  go_wp21
  go_ret2;exact⟨rfl,z⟩
theorem GV{i:XN}(l:vS i fn)(t:aJ.T)(u:XM X5)(F:J XP)(lo hi a b c level:XQ)(k:XP)(w:XY)(h:dO w t u F)(m:LB t)(y:w.cell? (k,0)=U ↑level)(A:-1000000000<=c)(z:c<=1000000000)(s:aJ.apart lo hi a b=XW)(r:aJ.ju i level t c=XX)(x:aJ.flat t=XX):
  X4 prog 217 #[u,Yd #[lo,hi],Yd #[a,b],c,.func (.func fn) #[] #[k]] w fun e w'=>e=Yg (jx (U (max lo a)))/\X0 w w w':=by
 have B:=aC (fun w' j=>Bf l t u F c level k w' (dO.later h j) m (aR j y) A z);clear m;rcases l with ⟨rfl,rfl⟩|⟨rfl,rfl⟩
 all_goals
  go_in
  go_wp21
  refine aK (ov _ _ _ _ _) fun w1 d=>?_;rw[s];have ⟨q0,q1,q2,q3,hs,hBw⟩:=boxes d;have g:=aC hBw;clear d hBw
  go_wp21
  refine aK (B _ g) fun w2 d=>?_;rw[r];have D:=aR d q0;have C:=aR d q2;have q:=aC (bM g d aI);clear g d q0 q1 q2 q3 hs
  go_wp21
  refine aX (LR _ (h.later q)) ?_;rw[x]
  go_wp21
  all_goals
   go_ret2;exact⟨RG O,q⟩
def Dq(d:XN)(fn:XP)(t:aJ.T):Prop:=∀ (u:XM X5)(F:J XP)(lo hi a b c level:XQ)(k:XP)(w:XY),dO w t u F->LB t->aJ.Good t lo hi->w.cell? (k,0)=U ↑level->0<=c->c+aJ.top t<=100000000->0<=lo->lo<hi->hi<=2000000->a<b ->
  X4 prog 217 #[u,Yd #[lo,hi],Yd #[a,b],c,.func (.func fn) #[] #[k]] w fun e w'=>e=Yg (jx (aJ.fm d level t lo hi a b c))/\X0 w w w'
def FS(X w':XY)(bk N M:XP)(v lo hi a b:XQ)(pl pr:XM X5):Prop :=
 w'.cell? (bk,0)=U ↑v/\w'.cell? (bk,3)=U ↑pl/\w'.cell? (bk,4)=U ↑pr/\w'.cell? (N,0)=U ↑a/\w'.cell? (N,1)=U ↑b/\w'.cell? (M,0)=U ↑lo/\w'.cell? (M,1)=U (V Y (aJ.aY lo hi))/\w'.cell? (M+1,0)=U (V Y (aJ.aY lo hi))/\w'.cell? (M+1,1)=U ↑hi/\X0 X X w'
theorem FS.later{v b:XQ}(h:FS X w' bk N M v lo hi a b pl pr)(k:X0 w' w' w''):FS X w'' bk N M v lo hi a b pl pr:=by
 let⟨h1,h2,h3,h4,h5,h6,h7,h8,h9,h10⟩:=h;exact⟨aR k h1,aR k h2,aR k h3,aR k h4,aR k h5,aR k h6,aR k h7,aR k h8,aR k h9,bM h10 k aI⟩
theorem RF{d:XN}{v b:XQ}{l r:aJ.T}(i:aJ.apart lo hi a b=XW)(h:aJ.ju d level (.node v l r) c=XX)(j:aJ.flat (.node v l r)=XW):aJ.fm d level (.node v l r) lo hi a b c=match aJ.fm d level l lo (aJ.aY lo hi) a b (c+v) with|some x=>U x|none=>aJ.fm d level r (aJ.aY lo hi) hi a b (c+v):=by
 have g:(aJ.isNil l && aJ.isNil r)=XW:=j;rw[aJ.fm];simp only[i,h,g,Yo,Yq,Yr,if_false] <;> rfl
theorem MW{m:XN}(hG:vS m fn)(v:XQ)(l r:aJ.T)(I:Hid (Dq m fn l))(H:Hid (Dq m fn r))(u:XM X5)(F:J XP)(lo hi a b c level:XQ)(k:XP)(w:XY)(h:dO w (.node v l r) (X8 u) F)(t:LB (.node v l r))(q:aJ.Good (.node v l r) lo hi)(P:w.cell? ⟨k,0,Z⟩=U (V Y level))(h1:0<=c)(h2:c+aJ.top (.node v l r)<=100000000)(h3:0<=lo)(h4:lo<hi)(h5:hi<=2000000)(h6:a<b)
  (hp:aJ.apart lo hi a b=XW) (hw:aJ.ju m level (.node v l r) c=XX) (W:aJ.flat (.node v l r)=XW):
  X4 prog 217 #[X8 u,Yd #[V Y lo,V Y hi],Yd #[V Y a,V Y b],V Y c,.func (.func fn) #[] #[X8 (U ⟨k,0,Z⟩)]] w fun e w'=>e=Yg (jx (aJ.fm m level (.node v l r) lo hi a b c))/\X0 w.heap.size w w':=by
 have tp:=t.top;have tl:=t.2.2.2.1.top;have tr:=t.2.2.2.2.top;have hv:=t.1;have R:=q.1;have ht:aJ.top (.node v l r)=v+max (aJ.top l) (aJ.top r):=rfl;have gl:=aJ.AO l lo (aJ.aY lo hi) 0 q.2.2.1
 have t0:0<=aJ.top (.node v l r):=by
  obtain⟨_,x,_,_,e⟩:=aJ.xw (.node v l r) lo hi h4 q;have:=aJ.AO (.node v l r) lo hi x q;omega
 have aa:2<=hi-lo:=by
  rcases q.2.1 with ⟨e1,e2⟩|h2
  .have S:(aJ.isNil l && aJ.isNil r)=XW:=W;simp[e1,e2] at S
  .exact h2
 have hm:lo<aJ.aY lo hi/\aJ.aY lo hi<hi:=by unfold aJ.aY;omega
 have AK:=aC (fun w' j=>Bf hG (.node v l r) u F c level k w' (dO.later h j) t (aR j P) O O);have K:=aC (fun (w':XY) (j:X0 w.heap.size w w')=>LR w' (dO.later h j));obtain⟨bk,pl,pr,Fl,Fr,rfl,rfl,B⟩:=xA h
 have D:Hid (∀ w',X0 w.heap.size w w'->X4 prog 217 #[X8 pl,Yd #[V Y lo,V Y (aJ.aY lo hi)],Yd #[V Y a,V Y b],V Y (c+v),.func (.func fn) #[] #[X8 (U ⟨k,0,Z⟩)]] w' fun e w''=>e=Yg (jx (aJ.fm m level l lo (aJ.aY lo hi) a b (c+v)))/\X0 w'.heap.size w' w'') :=
  fun w' j=>I.out pl Fl lo _ a b (c+v) level k w' (B.l.later j) t.2.2.2.1 q.2.2.1 (aR j P) O O h3 hm.1 O h6
 have A:Hid (∀ w',X0 w.heap.size w w'->X4 prog 217 #[X8 pr,Yd #[V Y (aJ.aY lo hi),V Y hi],Yd #[V Y a,V Y b],V Y (c+v),.func (.func fn) #[] #[X8 (U ⟨k,0,Z⟩)]] w' fun e w''=>e=Yg (jx (aJ.fm m level r (aJ.aY lo hi) hi a b (c+v)))/\X0 w'.heap.size w' w'') :=
  fun w' j=>H.out pr Fr _ hi a b (c+v) level k w' (B.r.later j) t.2.2.2.2 q.2.2.2 (aR j P) O O O hm.2 h5 h6
 rw[RF hp hw W];have ab:Y.wrap (c+v)=c+v:=cT O O;have c0:=B.c0;have c3:=B.c3;have c4:=B.c4;clear tp tl tr ht gl t0 aa B t q h2 h I H P hv R;generalize aJ.fm m level l lo (aJ.aY lo hi) a b (c+v)=ol at *;generalize aJ.fm m level r (aJ.aY lo hi) hi a b (c+v)=or at *;rcases hG with ⟨rfl,rfl⟩|⟨rfl,rfl⟩
 all_goals
  go_in
  go_wp2_with fail
  refine (ov _ _ _ _ _).mono ?_;rintro e w1 ⟨rfl,d⟩;rw[hp];have ⟨q0,q1,q2,q3,hs,hBw⟩:=boxes d;have d0:=aR hBw c0;have d3:=aR hBw c3;have d4:=aR hBw c4;have HB:=aC hBw;clear d hBw c0 c3 c4
  go_wp2_with fail
  refine (AK.out _ HB.out).mono ?_;rintro e w2 ⟨rfl,d⟩;rw[hw];have r0:w2.cell? ⟨w.heap.size,0,Z⟩=U (V Y lo):=aR d q0;have r1:w2.cell? ⟨w.heap.size,1,Z⟩=U (V Y hi):=aR d q1;have r2:w2.cell? ⟨w.heap.size+1,0,Z⟩=U (V Y a):=aR d q2;have r3:w2.cell? ⟨w.heap.size+1,1,Z⟩=U (V Y b):=aR d q3;have e0:=aR d d0;have e3:=aR d d3;have e4:=aR d d4;have HC:=aC (bM HB.out d (zq _));clear HB d q0 q1 q2 q3 hs d0 d3 d4 AK
  go_wp2_with fail
  refine (K.out _ HC.out).mono ?_;rintro e E ⟨rfl,rfl⟩;rw[W];clear K
  go_wp2_with fail
  refine (Aw _ _ _ O O O).mono ?_;rintro e w3 ⟨rfl,d⟩;have z:X0 E.heap.size E ((w3.alloc (Yh #[V Y lo,V Y (aJ.aY lo hi)] 60)).alloc (Yh #[V Y (aJ.aY lo hi),V Y hi] 60)):=(d.alloc d.size _).alloc (by have:=d.size;simp;omega) _
  have s:FS ((w3.alloc (Yh #[V Y lo,V Y (aJ.aY lo hi)] 60)).alloc (Yh #[V Y (aJ.aY lo hi),V Y hi] 60)) ((w3.alloc (Yh #[V Y lo,V Y (aJ.aY lo hi)] 60)).alloc (Yh #[V Y (aJ.aY lo hi),V Y hi] 60)) bk (w.heap.size+1) w3.heap.size v lo hi a b pl pr :=
   ⟨aR z e0,aR z e3,aR z e4,aR z r2,aR z r3,by simp,by simp,by simp,by simp,Below.refl _ _⟩
  have i:=aC (bM HC.out z (zq _));clear HC z d r0 r1 r2 r3 e0 e3 e4
  go_upto_region 6 with fail
  generalize (YD _ (Yh #[V Y (aJ.aY lo hi),V Y hi] 60))=X at s i ⊢;generalize w3.heap.size=M at s ⊢
  cases ol with
  |some y =>
   simp only[jx] at D ⊢
   go_region_held3 (fun w'=>w'.cell? ⟨bk,0,Z⟩=U (V Y v)/\w'.cell? ⟨bk,3,Z⟩=U (X8 pl)/\w'.cell? ⟨bk,4,Z⟩=U (X8 pr)/\w'.cell? ⟨w.heap.size+1,0,Z⟩=U (V Y a)/\w'.cell? ⟨w.heap.size+1,1,Z⟩=U (V Y b)/\w'.cell? ⟨M,0,Z⟩=U (V Y lo)/\w'.cell? ⟨M,1,Z⟩=U (V Y (aJ.aY lo hi))/\w'.cell? ⟨M+1,0,Z⟩=U (V Y (aJ.aY lo hi))/\w'.cell? ⟨M+1,1,Z⟩=U (V Y hi)/\X0 X.heap.size X w')
    (first
     |exact FS.later s (dV _)
     |(go_split_ands;exact FS.later s (bM XD g (zq _))))
    (first
     |(go_at_call 217;go_split_ands;refine (D.out _ (bM i.out XD (zq _))).mono ?_;rintro e w4 ⟨rfl,g⟩))
   have L:=aC (bM i.out (by go_split_ands;assumption:X0 X.heap.size X w4) (zq _));clear s i D A
   go_wp2
   go_ret2;exact⟨rfl,L.out⟩
  |none =>
   simp only[jx] at D ⊢
   go_region_held3 (fun w'=>w'.cell? ⟨bk,0,Z⟩=U (V Y v)/\w'.cell? ⟨bk,3,Z⟩=U (X8 pl)/\w'.cell? ⟨bk,4,Z⟩=U (X8 pr)/\w'.cell? ⟨w.heap.size+1,0,Z⟩=U (V Y a)/\w'.cell? ⟨w.heap.size+1,1,Z⟩=U (V Y b)/\w'.cell? ⟨M,0,Z⟩=U (V Y lo)/\w'.cell? ⟨M,1,Z⟩=U (V Y (aJ.aY lo hi))/\w'.cell? ⟨M+1,0,Z⟩=U (V Y (aJ.aY lo hi))/\w'.cell? ⟨M+1,1,Z⟩=U (V Y hi)/\X0 X.heap.size X w')
    (first
     |exact FS.later s (dV _)
     |(go_split_ands;exact FS.later s (bM XD g (zq _))))
    (first
     |(go_at_call 217;go_split_ands;refine (D.out _ (bM i.out XD (zq _))).mono ?_;rintro e w4 ⟨rfl,g⟩))
   have C:FS X w4 bk (w.heap.size+1) M v lo hi a b pl pr:=XD
   clear s D
   go_upto_region 9 with fail
   cases or with
   |some y =>
    simp only[jx] at A ⊢
    go_region_held3 (fun w'=>w'.cell? ⟨bk,0,Z⟩=U (V Y v)/\w'.cell? ⟨bk,3,Z⟩=U (X8 pl)/\w'.cell? ⟨bk,4,Z⟩=U (X8 pr)/\w'.cell? ⟨w.heap.size+1,0,Z⟩=U (V Y a)/\w'.cell? ⟨w.heap.size+1,1,Z⟩=U (V Y b)/\w'.cell? ⟨M,0,Z⟩=U (V Y lo)/\w'.cell? ⟨M,1,Z⟩=U (V Y (aJ.aY lo hi))/\w'.cell? ⟨M+1,0,Z⟩=U (V Y (aJ.aY lo hi))/\w'.cell? ⟨M+1,1,Z⟩=U (V Y hi)/\X0 X.heap.size X w')
     (first
      |exact FS.later C (dV _)
      |(go_split_ands;exact FS.later C (bM (dV _) g (zq _))))
     (first
      |(go_at_call 217;go_split_ands;refine (A.out _ (bM i.out XD (zq _))).mono ?_;rintro e Q ⟨rfl,g⟩))
    have L:=aC (bM i.out (by go_split_ands;assumption:X0 X.heap.size X Q) (zq _));clear C i A
    go_wp2
    go_ret2;exact⟨rfl,L.out⟩
   |none =>
    simp only[jx] at A ⊢
    go_region_held3 (fun w'=>w'.cell? ⟨bk,0,Z⟩=U (V Y v)/\w'.cell? ⟨bk,3,Z⟩=U (X8 pl)/\w'.cell? ⟨bk,4,Z⟩=U (X8 pr)/\w'.cell? ⟨w.heap.size+1,0,Z⟩=U (V Y a)/\w'.cell? ⟨w.heap.size+1,1,Z⟩=U (V Y b)/\w'.cell? ⟨M,0,Z⟩=U (V Y lo)/\w'.cell? ⟨M,1,Z⟩=U (V Y (aJ.aY lo hi))/\w'.cell? ⟨M+1,0,Z⟩=U (V Y (aJ.aY lo hi))/\w'.cell? ⟨M+1,1,Z⟩=U (V Y hi)/\X0 X.heap.size X w')
     (first
      |exact FS.later C (dV _)
      |(go_split_ands;exact FS.later C (bM (dV _) g (zq _))))
     (first
      |(go_at_call 217;go_split_ands;refine (A.out _ (bM i.out XD (zq _))).mono ?_;rintro e Q ⟨rfl,g⟩))
    have L:=aC (bM i.out (by go_split_ands;assumption:X0 X.heap.size X Q) (zq _));clear C i A
    go_wp2
    go_ret2;exact⟨rfl,L.out⟩
theorem GU{g:XN}(q:vS g fn):∀ t:aJ.T,Dq g fn t:=by
 intro t
 induction t with
 |nil =>
  intro u F lo hi a b c level k w h m s j H B E A D C;simp only[aJ.top] at B
  cases d:aJ.apart lo hi a b
  .cases i:aJ.ju g level .nil c
   .have e:aJ.fm g level .nil lo hi a b c=Z:=by simp[aJ.fm,i]
    rw[e];exact GW q .nil u F lo hi a b c level k w h m j O O d i
   .have e:aJ.fm g level .nil lo hi a b c=U (max lo a):=by simp[aJ.fm,i,d]
    rw[e];exact GV q .nil u F lo hi a b c level k w h m j O O d i rfl
  .have e:aJ.fm g level .nil lo hi a b c=Z:=by simp[aJ.fm,d]
   rw[e];exact LU u lo hi a b c k _ w d
 |node v l r ihl ihr =>
  intro u F lo hi a b c level k w h m s j H B E A D C
  have I:0<=aJ.top (.node v l r):=by
   let⟨_,x,_,_,e⟩:=aJ.xw (.node v l r) lo hi A s;have:=aJ.AO (.node v l r) lo hi x s;omega
  cases d:aJ.apart lo hi a b
  .cases i:aJ.ju g level (.node v l r) c
   .have e:aJ.fm g level (.node v l r) lo hi a b c=Z:=by simp[aJ.fm,i]
    rw[e];exact GW q _ u F lo hi a b c level k w h m j O O d i
   .cases z:aJ.flat (.node v l r)
    .exact MW q v l r ihl ihr u F lo hi a b c level k w h m s j H B E A D C d i z
    .have y:(aJ.isNil l && aJ.isNil r)=XX:=z;have e:aJ.fm g level (.node v l r) lo hi a b c=U (max lo a):=by rw[aJ.fm];simp only[i,d,y,Yo,Yq,Yr,if_false,if_true]
     rw[e];exact GV q _ u F lo hi a b c level k w h m j O O d i z
  .have e:aJ.fm g level (.node v l r) lo hi a b c=Z:=by simp[aJ.fm,d]
   rw[e];exact LU u lo hi a b c k _ w d
def pq(f:XQ->XQ)(long level s:XQ):Prop:=∀ x,s<=x->x<s+long->f x<=level
def sL(f:XQ->XQ)(a b long level:XQ):XM XQ->Prop
 |none=>∀ s,a<=s->s+long<=b->¬ pq f long level s
 |some s=>a<=s/\s+long<=b/\pq f long level s/\∀ d,a<=d->d<s->¬ pq f long level d
theorem RQ(h:aJ.uc (fun z=>level<f z) 0 1048320 st (st+long) Z)(j:0<=st)(i:st+long<=1048320):pq f long level st:=by
 intro x g d;have:=h x O O g d;have this:¬ level<f x:=this;omega
theorem QP{b:XQ}(h:∀ i,a<=i->i<st->¬ pq f long level i)(t:level<f y5)(g:aJ.uc (fun z=>f z<=level) 0 1048320 y5 b Z)(r:st<=y5)(q:y5<st+long)(m:0<=y5)(l:b<=1048320):sL f a b long level Z:=by
 intro i k s j
 by_cases c:i<st
 .exact h i k c j
 .by_cases d:i<=y5
  .have:=j y5 d O;omega
  .have e:=j i O O;exact g i O O O O e
theorem RJ{b:XQ}(h:∀ s',a<=s'->s'<st->¬ pq f long level s')(s:level<f y5)(g:aJ.uc (fun z=>f z<=level) 0 1048320 y5 b (U y6))(l:0<=a)(r:a<=st)(q:st<=y5)(m:y5<st+long):a<=y6/\y6<=1048320/\∀ s',a<=s'->s'<y6->¬ pq f long level s':=by
 let⟨g1,g2,g3,g4,g5,g6⟩:=g;refine⟨O,O,fun s' k j i=>?_⟩
 by_cases c:s'<st
 .exact h s' k c i
 .by_cases d:s'<=y5
  .have:=i y5 d O;omega
  .have e:=i s' O O;exact g6 s' O j O e
theorem RI{b:XQ}(h:level<f y5)(g:aJ.uc (fun z=>f z<=level) 0 1048320 y5 b (U y6)):y5<y6/\y6<1048320:=by
 let⟨g1,g2,g3,g4,d,g6⟩:=g;have d:f y6<=level:=d
 by_cases e:y5=y6
 .subst e;omega
 .omega
theorem Su(t:aJ.T)(m o:XP)(u:XM X5)(F:J XP)(a b long level:XQ)(w:XY)(c:w.cell? ⟨m,o,Z⟩=U (X8 u))(h:dO w t (X8 u) F)(S:LB t)(L:aJ.Good t 0 1048320)(h0:0<=a)(h1:a<b)(h2:b<=1048320)(h3:1<=long)(h4:long<=1048320):
  X4 prog 154 #[X8 (U ⟨m,o,Z⟩),Yd #[V Y a,V Y b],V Y long,V Y level] w fun e w'=>∃ r:XM XQ,e=Yg (jx r)/\sL (aJ.eD t 0 1048320) a b long level r/\X0 w.heap.size w w':=by
 have tp:=S.top
 have C1:Hid (∀ (w':XY) (x y:XQ),X0 w.heap.size w w'->w'.cell? ⟨w.heap.size+1,0,Z⟩=U (V Y level)->x<y->X4 prog 217 #[X8 u,Yd #[V Y 0,V Y 1048320],Yd #[V Y x,V Y y],V Y 0,.func (.func 213) #[] #[X8 (U ⟨w.heap.size+1,0,Z⟩)]] w' fun e w''=>e=Yg (jx (aJ.fm XX level t 0 1048320 x y 0))/\X0 w'.heap.size w' w''):=by
  intro w' x y i j k;exact GU (.inl ⟨rfl,rfl⟩) t u F 0 1048320 x y 0 level _ w' (h.later i) S L j O O O O O k
 have C2:Hid (∀ (w':XY) (x y:XQ),X0 w.heap.size w w'->w'.cell? ⟨w.heap.size+1,0,Z⟩=U (V Y level)->x<y->X4 prog 217 #[X8 u,Yd #[V Y 0,V Y 1048320],Yd #[V Y x,V Y y],V Y 0,.func (.func 215) #[] #[X8 (U ⟨w.heap.size+1,0,Z⟩)]] w' fun e w''=>e=Yg (jx (aJ.fm XW level t 0 1048320 x y 0))/\X0 w'.heap.size w' w''):=by
  intro w' x y i j k;exact GU (.inr ⟨rfl,rfl⟩) t u F 0 1048320 x y 0 level _ w' (h.later i) S L j O O O O O k
 have D1:Hid (∀ x y,x<y->aJ.uc (fun z=>level<aJ.eD t 0 1048320 z) 0 1048320 x y (aJ.fm XX level t 0 1048320 x y 0)):=by
  intro x y k;have:=aJ.Ic XX level t 0 1048320 x y 0 O k L
  simpa only[aJ.want,if_true,YB] using this
 have D2:Hid (∀ x y,x<y->aJ.uc (fun z=>aJ.eD t 0 1048320 z<=level) 0 1048320 x y (aJ.fm XW level t 0 1048320 x y 0)):=by
  intro x y k;have:=aJ.Ic XW level t 0 1048320 x y 0 O k L
  simpa only[aJ.want,Yr,if_false,YB] using this
 clear h S L tp
 go_in
 go_wp2_with fail
 have hX:X0 w.heap.size w ((w.alloc (Yh #[V Y a,V Y b] 60)).alloc (Yh #[V Y level] 3)):=((zr _ _).alloc (zq _) _).alloc XA _;have x1:((w.alloc (Yh #[V Y a,V Y b] 60)).alloc (Yh #[V Y level] 3)).cell? ⟨w.heap.size,1,Z⟩=U (V Y b):=XA
 have x2:((w.alloc (Yh #[V Y a,V Y b] 60)).alloc (Yh #[V Y level] 3)).cell? ⟨w.heap.size+1,0,Z⟩=U (V Y level):=XA
 have xc:=aR hX c;have g:=aC hX;clear hX c;generalize (YD _ (Yh #[V Y level] 3))=X at x1 x2 xc g ⊢
 go_loopw [12,13,14] (fun s _ _ wx=>∃ st:XQ,s=V Y st/\a<=st/\st<=1048320/\(∀ q,a<=q->q<st->¬ pq (aJ.eD t 0 1048320) long level q)/\X0 X.heap.size X wx) (fun s _ _ _=>(1048321-intOf s).toNat)
 case atStart=>exact⟨a,rfl,by omega,by omega,fun q _ _=>by omega,Below.refl _ _⟩
 case round =>
  obtain⟨st,rfl,K,ac,I,A⟩:=hrel;have W:=aC I;have y1:=aR A x1;have y2:=aR A x2;have yc:=aR A xc;clear I
  by_cases aa:st+long<=b
  .have ab:Y.wrap (st+long)=st+long:=cT O O;have R:=aC (D1.out st (st+long) O);have E:=aC (fun w' i j=>C1.out w' st (st+long) i j O)
   cases C:aJ.fm XX level t 0 1048320 st (st+long) 0 with
   |none =>
    rw[C] at R;simp only[C,jx] at E;clear C
    go_upto_region 5 with fail
    go_region_held3 (fun w'=>w'.cell? ⟨m,o,Z⟩=U (X8 u)/\w'.cell? ⟨w.heap.size,1,Z⟩=U (V Y b)/\w'.cell? ⟨w.heap.size+1,0,Z⟩=U (V Y level)/\X0 X.heap.size X w')
     (first
      |exact⟨yc,y1,y2,bM A (dV _) (zq _)⟩
      |(go_split_ands;exact⟨aR d XD,aR d XD,aR d XD,bM XD d (zq _)⟩))
     (first
      |(go_at_call 212;go_split_ands;refine (vI _).mono ?_;rintro e w4 ⟨rfl,d⟩)
      |(go_at_call 217;go_split_ands;refine (E.out _ (bM g.out XD (zq _)) XD).mono ?_;rintro e w5 ⟨rfl,d⟩))
    have HF:=aC (bM g.out (by go_split_ands;assumption:X0 X.heap.size X w5) (zq _));clear E C1 C2 D2 D1 g
    go_wp2
    go_ret2;exact⟨U st,rfl,⟨K,aa,RQ R.out O O,W.out⟩,HF.out⟩
   |some y5 =>
    rw[C] at R;simp only[C,jx] at E;clear C;obtain⟨_,g2,g3,g4,g5,g6⟩:=R.out;have P:level<aJ.eD t 0 1048320 y5:=g5;have l:=aC P;clear g5 P g6 R;have Q:=aC (D2.out y5 b O);have D:=aC (fun w' i j=>C2.out w' y5 b i j O)
    go_upto_region 5 with fail
    go_region_held3 (fun w'=>w'.cell? ⟨m,o,Z⟩=U (X8 u)/\w'.cell? ⟨w.heap.size,1,Z⟩=U (V Y b)/\w'.cell? ⟨w.heap.size+1,0,Z⟩=U (V Y level)/\X0 X.heap.size X w')
     (first
      |exact⟨yc,y1,y2,bM A (dV _) (zq _)⟩
      |(go_split_ands;exact⟨aR d XD,aR d XD,aR d XD,bM XD d (zq _)⟩))
     (first
      |(go_at_call 212;go_split_ands;refine (vI _).mono ?_;rintro e w4 ⟨rfl,d⟩)
      |(go_at_call 217;go_split_ands;refine (E.out _ (bM g.out XD (zq _)) XD).mono ?_;rintro e w5 ⟨rfl,d⟩))
    have H:X0 X.heap.size X w5:=by go_split_ands;assumption
    have z1:=aR H x1;have z2:=aR H x2;have zc:=aR H xc;clear E
    go_upto_region 8 with fail
    cases B:aJ.fm XW level t 0 1048320 y5 b 0 with
    |none =>
     rw[B] at Q;simp only[B,jx] at D;clear B
     go_region_held3 (fun w'=>w'.cell? ⟨m,o,Z⟩=U (X8 u)/\w'.cell? ⟨w.heap.size,1,Z⟩=U (V Y b)/\w'.cell? ⟨w.heap.size+1,0,Z⟩=U (V Y level)/\X0 X.heap.size X w')
     (first
      |exact⟨zc,z1,z2,bM H (dV _) (zq _)⟩
      |(go_split_ands;exact⟨aR d XD,aR d XD,aR d XD,bM XD d (zq _)⟩))
     (first
      |(go_at_call 212;go_split_ands;refine (vI _).mono ?_;rintro e w4 ⟨rfl,d⟩)
      |(go_at_call 217;go_split_ands;refine (D.out _ (bM g.out XD (zq _)) XD).mono ?_;rintro e w6 ⟨rfl,d⟩))
     have HF:=aC (bM g.out (by go_split_ands;assumption:X0 X.heap.size X w6) (zq _));clear D C1 C2 D2 D1 g
     go_wp2
     go_ret2;exact⟨Z,rfl,QP W.out l.out Q.out g3 O O O,HF.out⟩
    |some y6 =>
     rw[B] at Q;simp only[B,jx] at D;clear B
     go_region_held3 (fun w'=>w'.cell? ⟨m,o,Z⟩=U (X8 u)/\w'.cell? ⟨w.heap.size,1,Z⟩=U (V Y b)/\w'.cell? ⟨w.heap.size+1,0,Z⟩=U (V Y level)/\X0 X.heap.size X w')
     (first
      |exact⟨zc,z1,z2,bM H (dV _) (zq _)⟩
      |(go_split_ands;exact⟨aR d XD,aR d XD,aR d XD,bM XD d (zq _)⟩))
     (first
      |(go_at_call 212;go_split_ands;refine (vI _).mono ?_;rintro e w4 ⟨rfl,d⟩)
      |(go_at_call 217;go_split_ands;refine (D.out _ (bM g.out XD (zq _)) XD).mono ?_;rintro e w6 ⟨rfl,d⟩))
     have hv:X0 X.heap.size X w6:=by go_split_ands;assumption
     have HV:=aC hv;clear D C1 C2 D2 D1 g hv
     go_wp2
     go_roundw
     case rel=>have nx:=RJ W.out l.out Q.out h0 K g3 O;exact⟨y6,rfl,nx.1,nx.2.1,nx.2.2,HV.out⟩
     case measure=>simp[intOf];have:=RI l.out Q.out;omega
  .go_wp2
   go_ret2;exact⟨Z,rfl,fun q i j=>W.out q i O,bM g.out A (zq _)⟩
namespace aF
structure It where
 f:XQ
 t:XQ
 n:XQ
 v:XP
inductive S where
 |nil:S
 |node (x:It) (l r:S):S
def isNil:S->XN
 |.nil=>XX
 |.node ..=>XW
def left:S->S
 |.nil=>.nil
 |.node _ l _=>l
def right:S->S
 |.nil=>.nil
 |.node _ _ r=>r
def ht:S->XQ
 |.nil=>0
 |.node _ l r=>1+max (ht l) (ht r)
def Ip(x:XQ)(l r:S)(g d:XQ):XQ :=
 let m:=if isNil l then x else max x g
 if isNil r then m else max m d
def late:S->XQ
 |.nil=>0
 |.node x l r=>Ip x.t l r (late l) (late r)
def size:S->XP
 |.nil=>0
 |.node _ l r=>1+size l+size r
def cH:S->J It
 |.nil=>[]
 |.node x l r=>cH l++x :: cH r
def side(f n:XQ)(x:It):XQ:=if f<x.f then -1 else if x.f<f then 1 else if n<x.n then -1 else if x.n<n then 1 else 0
def tP:S->S
 |.node x (.node y a b) r=>.node y a (.node x b r)
 |t=>t
def tO:S->S
 |.node x l (.node y a b)=>.node y (.node x l a) b
 |t=>t
def sw(x:It)(l r:S):S:=tP (.node x (if ht (left l)<ht (right l) then tO l else l) r)
def sy(x:It)(l r:S):S:=tO (.node x l (if ht (right r)<ht (left r) then tP r else r))
def gL(x:It)(l r:S):S:=if 1<ht l-ht r then sw x l r else if ht l-ht r < -1 then sy x l r else .node x l r
def put(x:It):S->S
 |.nil=>gL x .nil .nil
 |.node y l r=>if side x.f x.n y<0 then gL y (put x l) r else if 0<side x.f x.n y then gL y l (put x r) else gL { y with t:=x.t,v:=x.v } l r
def po:It->S->S->It
 |x,.nil,_=>x
 |_,.node y a b,_=>po y a b
def mv:It->S->S->S
 |_,.nil,r=>r
 |x,.node y a b,r=>gL x (mv y a b) r
def mu(l:S):S->S
 |.nil=>l
 |.node y a b=>gL (po y a b) l (mv y a b)
def drop(f n:XQ):S->S
 |.nil=>.nil
 |.node y l r=>if side f n y<0 then gL y (drop f n l) r else if 0<side f n y then gL y l (drop f n r) else mu l r
theorem kR:∀ t:S,0<=ht t
 |.nil=>by simp[ht]
 |.node _ l r=>by have:=kR l;have:=kR r;simp only[ht];omega
theorem nu:∀ t:S,ht t<=size t
 |.nil=>by simp[ht,size]
 |.node _ l r=>by have:=nu l;have:=nu r;simp only[ht,size];omega
theorem Ar{t:S}(h:0<ht t):∃ x l r,t=.node x l r:=by
 cases t with
 |nil=>simp[ht] at h
 |node x l r=>exact⟨x,l,r,rfl⟩
theorem K9(t:S):cH (tP t)=cH t:=by
 cases t with
 |nil=>rfl
 |node x l r=>cases l <;> simp[tP,cH]
theorem K7(t:S):cH (tO t)=cH t:=by
 cases t with
 |nil=>rfl
 |node x l r=>cases r <;> simp[tO,cH]
theorem ou(x:It)(l r:S):cH (gL x l r)=cH l++x :: cH r:=by
 unfold gL
 split
 .unfold sw;rw[K9];split <;> simp[cH,K7]
 .split
  .unfold sy;rw[K7];split <;> simp[cH,K9]
  .rfl
theorem nS:∀ t:S,(cH t).length=size t
 |.nil=>rfl
 |.node x l r=>by have:=nS l;have:=nS r;simp only[cH,size,List.length_append,List.length_cons];omega
theorem Ez:∀ (x:It)(l r:S),po x l r :: cH (mv x l r)=cH l++x :: cH r
 |x,.nil,r=>by simp[po,mv,cH]
 |x,.node y a b,r=>by
  have:=Ez y a b;simp only[po,mv,ou,cH];rw[<- YH,this]
theorem Lt(l r:S):cH (mu l r)=cH l++cH r:=by
 cases r with
 |nil=>simp[mu,cH]
 |node y a b=>simp only[mu,ou];rw[Ez];rfl
def lt(x y:It):Prop:=x.f<y.f\/(x.f=y.f/\x.n<y.n)
theorem uo{f n:XQ}{x:It}:side f n x<0↔f<x.f\/(f=x.f/\n<x.n):=by
 unfold side;repeat' split
 all_goals omega
theorem xL{f n:XQ}{x:It}:0<side f n x↔x.f<f\/(f=x.f/\x.n<n):=by
 unfold side;repeat' split
 all_goals omega
def ins(x:It):J It->J It
 |[]=>[x]
 |y :: r=>if side x.f x.n y<0 then x :: y :: r else y :: ins x r
theorem JW{x y:It}(h:side x.f x.n y<0)(R:J It):∀ L:J It,ins x (L++y :: R)=ins x L++y :: R
 |[]=>by simp[ins,h]
 |z :: L=>by
  simp only[YH,ins]
  split
  .simp
  .rw[JW h R L];simp
theorem La{x:It}(R:J It):∀ L:J It,(∀ z∈L,¬ side x.f x.n z<0)->ins x (L++R)=L++ins x R
 |[],_=>rfl
 |z :: L,h=>by
  simp only[YH,ins];rw[XR (h z XA),La R L (fun y d=>h y (by simp[d]))]
def Ord(l:J It):Prop:=l.Pairwise lt
theorem Dz{x:It}{l r:S}(h:Ord (cH (.node x l r))):Ord (cH l)/\Ord (cH r)/\(∀ z∈cH l,lt z x)/\(∀ z∈cH r,lt x z):=by
 simp only[cH,Ord,List.pairwise_append,YI] at h;exact⟨h.1,h.2.1.2,fun z d=>h.2.2 z d x XA,h.2.1.1⟩
theorem D7(x:It):∀ t:S,Ord (cH t)->(∀ z∈cH t,¬ (z.f=x.f/\z.n=x.n))->cH (put x t)=ins x (cH t)
 |.nil,_,_=>by simp[put,ou,cH,ins]
 |.node y l r,h,hn=>by
  let⟨h1,h2,h3,h4⟩:=Dz h;have g:=hn y (by simp[cH]);unfold put
  by_cases a:side x.f x.n y<0
  .rw[XS a,ou,D7 x l h1 (fun z d=>hn z (by simp[cH,d]))];simp only[cH];rw[JW a]
  .by_cases b:0<side x.f x.n y
   .rw[XR a,XS b,ou,D7 x r h2 (fun z d=>hn z (by simp[cH,d]))];simp only[cH];rw[La _ _ (fun z d=>?_)]
    .simp[ins,a]
    .have:=h3 z d;rw[uo];rw[xL] at b;unfold lt at this;omega
   .rw[uo] at a;rw[xL] at b;omega
theorem As{p:It->XN}{l:J It}(h:∀ z∈l,p z=XX):l.filter p=l:=List.filter_eq_self.2 h
def oi(f n:XQ)(z:It):XN:=!(decide (z.f=f) && decide (z.n=n))
theorem Lk{f n:XQ}{z y:It}(h:side f n y<0)(k:z=y\/lt y z):oi f n z=XX:=by
 rw[uo] at h;simp[oi];rcases k with rfl|k
 .omega
 .unfold lt at k;omega
theorem Lj{f n:XQ}{z y:It}(h:0<side f n y)(k:z=y\/lt z y):oi f n z=XX:=by
 rw[xL] at h;simp[oi];rcases k with rfl|k
 .omega
 .unfold lt at k;omega
theorem Ey(f n:XQ):∀ t:S,Ord (cH t)->cH (drop f n t)=(cH t).filter (oi f n)
 |.nil,_=>rfl
 |.node y l r,h=>by
  let⟨h1,h2,h3,h4⟩:=Dz h;unfold drop
  by_cases a:side f n y<0
  .rw[XS a,ou,Ey f n l h1];simp only[cH,YJ,YK,Lk a (.inl rfl),if_true];rw[As (l:=cH r) (fun z d=>Lk a (.inr (h4 z d)))]
  .by_cases b:0<side f n y
   .rw[XR a,XS b,ou,Ey f n r h2];simp only[cH,YJ,YK,Lj b (.inl rfl),if_true];rw[As (l:=cH l) (fun z d=>Lj b (.inr (h3 z d)))]
   .rw[XR a,XR b,Lt];have e:f=y.f/\n=y.n:=by rw[uo] at a;rw[xL] at b;omega
    have g:oi f n y=XW:=by simp[oi,e.1,e.2]
    simp only[cH,YJ,YK,g];rw[As (l:=cH l) (fun z d=>?_),As (l:=cH r) (fun z d=>?_)]
    .simp
    .have:=h4 z d;simp[oi];unfold lt at this;omega
    .have:=h3 z d;simp[oi];unfold lt at this;omega
theorem zY{x z:It}:∀ {l:J It},z∈ins x l↔z=x\/z∈l
 |[]=>by simp[ins]
 |y :: r=>by
  simp only[ins];split
  .simp
  .simp[zY (l:=r)];constructor
   .rintro (h|h|h)
    .exact .inr (.inl h)
    .exact .inl h
    .exact .inr (.inr h)
   .rintro (h|h|h)
    .exact .inr (.inl h)
    .exact .inl h
    .exact .inr (.inr h)
theorem Lb(x:It):∀ l:J It,(ins x l).length=l.length+1
 |[]=>rfl
 |y :: r=>by
  simp only[ins];split
  .simp
  .simp[Lb x r]
theorem IU{x:It}:∀ {l:J It},Ord l->(∀ z∈l,¬ (z.f=x.f/\z.n=x.n))->Ord (ins x l)
 |[],_,_=>by simp[ins,Ord]
 |y :: r,h,hn=>by
  simp only[Ord,YI] at h;have g:=hn y XA;simp only[ins];split
  .rename_i a
   rw[uo] at a;refine YI.2 ⟨fun z d=>?_,YI.2 h⟩;rcases Yu.1 d with rfl|d
   .unfold lt;omega
   .have:=h.1 z d;unfold lt at *;omega
  .rename_i a
   refine YI.2 ⟨fun z d=>?_,IU h.2 (fun z d=>hn z (by simp[d]))⟩;rcases zY.1 d with rfl|d
   .rw[uo] at a;unfold lt;omega
   .exact h.1 z d
theorem Lf{l:J It}(p:It->XN)(h:Ord l):Ord (l.filter p):=YL p h
def meets(a b:XQ)(x:It):XN:=decide (x.f<b) && decide (a<x.t)
def meet(a b:XQ):S->J It
 |.nil=>[]
 |.node x l r=>if late (.node x l r)<=a then [] else meet a b l++if b<=x.f then [] else (if a<x.t then [x] else [])++meet a b r
theorem C6:∀ (t:S),∀ z∈cH t,z.t<=late t
 |.nil=>by simp[cH]
 |.node x l r=>by
  have h:=C6 l;have g:=C6 r;intro z d;simp only[late,Ip];simp only[cH,Yv,Yu] at d;rcases d with d|rfl|d
  .have:=h z d;have e:isNil l=XW:=by cases l <;> simp_all [isNil,cH]
   simp only[e,Yr,if_false];split <;> omega
  .split <;> split <;> omega
  .have:=g z d;have e:isNil r=XW:=by cases r <;> simp_all [isNil,cH]
   simp only[e,Yr,if_false];split <;> omega
theorem zX(a b:XQ):∀ t:S,Ord (cH t)->meet a b t=(cH t).filter (meets a b)
 |.nil,_=>rfl
 |.node x l r,h=>by
  let⟨h1,h2,h3,h4⟩:=Dz h;have i:=C6 (.node x l r);unfold meet
  split
  .rename_i hc
   symm;rw[YM]
   intro z d;have:=i z d;simp[meets];omega
  .rw[zX a b l h1];simp only[cH,YJ]
   congr 1
   split
   .rename_i hb
    symm;rw[YM]
    intro z d;rcases Yu.1 d with rfl|d
    .simp[meets];omega
    .have:=h4 z d;unfold lt at this;simp[meets];omega
   .rename_i hb
    rw[zX a b r h2,YK];have g:x.f<b:=O
    simp only[meets,g,decide_true,Bool.true_and,decide_eq_true_eq]
    split <;> rfl
end aF
structure gZ(w:XY)(b:XP)(x:aF.It):Prop where
 c0:w.cell? (b,0)=U (V Y x.f)
 c1:w.cell? (b,1)=U ↑x.t
 c2:w.cell? (b,2)=U (V Y x.n)
 c3:w.cell? (b,3)=U ↑x.v
 c4:∃ y,w.cell? (b,4)=U (V Y y)
 c5:∃ y,w.cell? (b,5)=U (V Y y)
 c6:∃ y,w.cell? (b,6)=U (X8 y)
 c7:∃ y,w.cell? (b,7)=U (X8 y)
 fz:∀ o,w.frozen? ⟨b,o,Z⟩=XW
def dK(w:XY):aF.S->XZ->J XP->Prop
 |.nil,p,F=>p=X8 Z/\F=[]
 |.node x l r,p,F=>∃ (b:XP) (pl pr:XM X5) (Fl Fr:J XP),p=X8 (U ⟨b,0,Z⟩)/\gZ w b x/\w.cell? ⟨b,4,Z⟩=U (V Y (aF.late (.node x l r)))/\w.cell? ⟨b,5,Z⟩=U (V Y (aF.ht (.node x l r)))/\w.cell? ⟨b,6,Z⟩=U (X8 pl)/\w.cell? ⟨b,7,Z⟩=U (X8 pr)/\dK w l (X8 pl) Fl/\dK w r (X8 pr) Fr/\F=b :: (Fl++Fr)/\F.Nodup
structure cW(w:XY)(b:XP)(x:aF.It)(l r:aF.S)(pl pr:XM X5)(Fl Fr:J XP):Prop where
 n:gZ w b x
 c6:w.cell? (b,6)=U ↑pl
 c7:w.cell? (b,7)=U ↑pr
 l:dK w l pl Fl
 r:dK w r pr Fr
 nd:(b :: (Fl++Fr)).Nodup
theorem gZ.lt{x:aF.It}(h:gZ w b x):b<w:=Yl _ _ h.c0
theorem gZ.off{x:aF.It}(h:gZ w b x)(k:aH G w w')(d:b ∉ G):gZ w' b x :=
 ⟨k.cell d h.c0,k.cell d h.c1,k.cell d h.c2,k.cell d h.c3,h.c4.imp (fun _=>k.cell d),h.c5.imp (fun _=>k.cell d),h.c6.imp (fun _=>k.cell d),h.c7.imp (fun _=>k.cell d),fun o=>(k.frozen d h.lt).trans (h.fz o)⟩
theorem gZ.mD{x:aF.It}(h:gZ w b x)(y:XQ):gZ (w.setCell (b,4) y) b x:=by
 let⟨_,e⟩:=h.c4;exact⟨(aZ XA).trans h.c0,(aZ XA).trans h.c1,(aZ XA).trans h.c2,(aZ XA).trans h.c3,⟨_,Yy _ _ _ e⟩,h.c5.imp (fun _ e=>(aZ XA).trans e),h.c6.imp (fun _ e=>(aZ XA).trans e),h.c7.imp (fun _ e=>(aZ XA).trans e),fun o=>(zF ..).trans (h.fz o)⟩
theorem gZ.qo{x:aF.It}(h:gZ w b x)(y:XQ):gZ (w.setCell (b,5) y) b x:=by
 let⟨_,e⟩:=h.c5;exact⟨(aZ XA).trans h.c0,(aZ XA).trans h.c1,(aZ XA).trans h.c2,(aZ XA).trans h.c3,h.c4.imp (fun _ e=>(aZ XA).trans e),⟨_,Yy _ _ _ e⟩,h.c6.imp (fun _ e=>(aZ XA).trans e),h.c7.imp (fun _ e=>(aZ XA).trans e),fun o=>(zF ..).trans (h.fz o)⟩
theorem gZ.uN{x:aF.It}(h:gZ w b x)(y:XM X5):gZ (w.setCell (b,6) y) b x:=by
 let⟨_,e⟩:=h.c6;exact⟨(aZ XA).trans h.c0,(aZ XA).trans h.c1,(aZ XA).trans h.c2,(aZ XA).trans h.c3,h.c4.imp (fun _ e=>(aZ XA).trans e),h.c5.imp (fun _ e=>(aZ XA).trans e),⟨_,Yy _ _ _ e⟩,h.c7.imp (fun _ e=>(aZ XA).trans e),fun o=>(zF ..).trans (h.fz o)⟩
theorem gZ.cR{x:aF.It}(h:gZ w b x)(y:XM X5):gZ (w.setCell (b,7) y) b x:=by
 let⟨_,e⟩:=h.c7;exact⟨(aZ XA).trans h.c0,(aZ XA).trans h.c1,(aZ XA).trans h.c2,(aZ XA).trans h.c3,h.c4.imp (fun _ e=>(aZ XA).trans e),h.c5.imp (fun _ e=>(aZ XA).trans e),h.c6.imp (fun _ e=>(aZ XA).trans e),⟨_,Yy _ _ _ e⟩,fun o=>(zF ..).trans (h.fz o)⟩
theorem dK.lt{w:XY}:∀ {t:aF.S}{p:XZ}{F:J XP},dK w t p F->∀ k∈F,k<w
 |.nil,p,F,h,k,d=>by rw[h.2] at d;cases d
 |.node a l r,p,F,h,k,d=>by
  obtain⟨b,pl,pr,Fl,Fr,rfl,n,x,s,q,m,i,g,rfl,j⟩:=h;rcases Yu.1 d with rfl|d
  .exact n.lt
  .rcases Yv.1 d with d|d
   .exact dK.lt i k d
   .exact dK.lt g k d
theorem dK.off{G:J XP}{w w':XY}(h:aH G w w'):∀ {t:aF.S}{p:XZ}{F:J XP},dK w t p F->(∀ k∈F,k ∉ G)->dK w' t p F
 |.nil,p,F,d,_=>d
 |.node a l r,p,F,d,hd=>by
  obtain⟨b,pl,pr,Fl,Fr,rfl,n,y,x,s,q,m,d,rfl,j⟩:=d;have g:b ∉ G:=hd b XA;exact⟨b,pl,pr,Fl,Fr,rfl,n.off h g,h.cell g y,h.cell g x,h.cell g s,h.cell g q,dK.off h m (fun k i=>hd k (by simp[i])),dK.off h d (fun k i=>hd k (by simp[i])),rfl,j⟩
theorem dK.same{t:aF.S}(h:dK w t p F)(k:aH [] w w'):dK w' t p F:=h.off k (fun _ _=>by simp)
theorem dK.later{t:aF.S}(h:dK w t p F)(k:X0 w w w'):dK w' t p F:=h.same (aH.aD k)
theorem dK.nodup{t:aF.S}(h:dK w t p F):F.Nodup:=by
 cases t with
 |nil=>rw[h.2];exact Yw
 |node a l r=>let⟨b,_,_,_,_,_,_,_,_,_,_,_,_,_,nd⟩:=h;exact nd
theorem dK.half{x:aF.It}{l r:aF.S}(h:dK w (.node x l r) u F):∃ (b:XP)(pl pr:XM X5)(Fl Fr:J XP),u=U ⟨b,0,Z⟩/\F=b :: (Fl++Fr)/\cW w b x l r pl pr Fl Fr/\w.cell? (b,4)=U (V Y (aF.late (.node x l r)))/\w.cell? (b,5)=U (V Y (aF.ht (.node x l r))):=by
 let⟨b,pl,pr,Fl,Fr,hp,n,c4,c5,c6,c7,hl,hr,hF,nd⟩:=h
 cases hp
 exact⟨b,pl,pr,Fl,Fr,rfl,hF,⟨n,c6,c7,hl,hr,hF ▸ nd⟩,c4,c5⟩
theorem cW.rep{x:aF.It}{l r:aF.S}(h:cW w b x l r pl pr Fl Fr)(g:w.cell? (b,4)=U (V Y (aF.late (.node x l r))))(d:w.cell? (b,5)=U (V Y (aF.ht (.node x l r)))):dK w (.node x l r) b (b :: (Fl++Fr)) :=
 ⟨b,pl,pr,Fl,Fr,rfl,h.n,g,d,h.c6,h.c7,h.l,h.r,rfl,h.nd⟩
theorem cW.off{x:aF.It}{l r:aF.S}(h:cW w b x l r pl pr Fl Fr)(k:aH G w w')(d:b ∉ G)(i:∀ y∈Fl,y ∉ G)(g:∀ y∈Fr,y ∉ G):cW w' b x l r pl pr Fl Fr :=
 ⟨h.n.off k d,k.cell d h.c6,k.cell d h.c7,h.l.off k i,h.r.off k g,h.nd⟩
theorem cW.same{x:aF.It}{l r:aF.S}(h:cW w b x l r pl pr Fl Fr)(k:aH [] w w'):cW w' b x l r pl pr Fl Fr:=h.off k XA XA XA
theorem cW.parts{x:aF.It}{l r:aF.S}(h:cW w b x l r pl pr Fl Fr):b ∉ Fl/\b ∉ Fr/\(∀ y∈Fl,y ∉ [b])/\(∀ y∈Fr,y ∉ [b])/\(∀ y∈Fr,y ∉ Fl)/\(∀ y∈Fl,y ∉ Fr)/\Fl.Nodup/\Fr.Nodup:=by
 have i:=h.nd;rw[Yx,YC] at i;let⟨n1,n2,n3,n4⟩:=i;exact⟨fun e=>n1 (by simp[e]),fun e=>n1 (by simp[e]),fun y d=>by simp;rintro rfl;exact n1 (by simp[d]),fun y d=>by simp;rintro rfl;exact n1 (by simp[d]),fun y g d=>n4 y d y g rfl,fun y g d=>n4 y g y d rfl,n2,n3⟩
theorem cW.lt{x:aF.It}{l r:aF.S}(h:cW w b x l r pl pr Fl Fr):∀ k∈b :: (Fl++Fr),k<w:=by
 intro k d;rcases Yu.1 d with rfl|d
 .exact h.n.lt
 .rcases Yv.1 d with d|d
  .exact h.l.lt k d
  .exact h.r.lt k d
theorem cW.mD{x:aF.It}{l r:aF.S}(h:cW w b x l r pl pr Fl Fr)(y:XQ):cW (w.setCell (b,4) y) b x l r pl pr Fl Fr :=
 ⟨h.n.mD y,(aZ XA).trans h.c6,(aZ XA).trans h.c7,h.l.off (aH.bD ..) h.parts.2.2.1,h.r.off (aH.bD ..) h.parts.2.2.2.1,h.nd⟩
theorem cW.qo{x:aF.It}{l r:aF.S}(h:cW w b x l r pl pr Fl Fr)(y:XQ):cW (w.setCell (b,5) y) b x l r pl pr Fl Fr :=
 ⟨h.n.qo y,(aZ XA).trans h.c6,(aZ XA).trans h.c7,h.l.off (aH.bD ..) h.parts.2.2.1,h.r.off (aH.bD ..) h.parts.2.2.2.1,h.nd⟩
theorem cW.lg{x:aF.It}{r j:aF.S}(h:gZ w b x)(m:w.cell? (b,7)=U ↑pr)(l:dK w j u F')(k:dK w r pr Fr)(i:(b :: (F'++Fr)).Nodup):cW (w.setCell (b,6) u) b x j r u pr F' Fr:=by
 let⟨_,e⟩:=h.c6;have d:=i;rw[Yx,YC] at d;exact⟨h.uN u,Yy _ _ _ e,(aZ XA).trans m,l.off (aH.bD ..) (fun y g=>by simp;rintro rfl;exact d.1 (by simp[g])),k.off (aH.bD ..) (fun y g=>by simp;rintro rfl;exact d.1 (by simp[g])),i⟩
theorem cW.jR{x:aF.It}{l i:aF.S}(h:gZ w b x)(q:w.cell? (b,6)=U ↑pl)(m:dK w l pl Fl)(k:dK w i u F')(j:(b :: (Fl++F')).Nodup):cW (w.setCell (b,7) u) b x l i pl u Fl F':=by
 let⟨_,e⟩:=h.c7;have d:=j;rw[Yx,YC] at d;exact⟨h.cR u,(aZ XA).trans q,Yy _ _ _ e,m.off (aH.bD ..) (fun y g=>by simp;rintro rfl;exact d.1 (by simp[g])),k.off (aH.bD ..) (fun y g=>by simp;rintro rfl;exact d.1 (by simp[g])),j⟩
theorem S4(w:XY):
  X4 prog 282 #[X8 Z] w fun e w'=>e=Yg (V Y 0)/\w'=w:=by
 go_in
 go_wp2;go_ret;exact⟨rfl,rfl⟩
theorem Uv(b:XP)(x:XQ)(w:XY)(d:w.cell? (b,5)=U ↑x):
  X4 prog 282 #[b] w fun e w'=>e=Yg x/\w'=w:=by
 go_in
 go_wp2;go_ret;exact⟨rfl,rfl⟩
theorem kQ{t:aF.S}(w:XY)(h:dK w t u F):
  X4 prog 282 #[u] w fun e w'=>e=Yg (V Y (aF.ht t))/\w'=w:=by
 cases t with
 |nil=>let⟨h1,_⟩:=h;cases h1;exact S4 w
 |node a l r=>let⟨b,pl,pr,Fl,Fr,hp,n,c4,c5,_⟩:=h;cases hp;exact Uv b _ w c5
theorem cW.drew{x:aF.It}{l r:aF.S}(h:cW w b x l r pl pr Fl Fr):cW w.drew b x l r pl pr Fl Fr:=h.same (aH.refl _ _).drew
theorem CQ{x:aF.It}{l r:aF.S}(h:cW w b x l r pl pr Fl Fr):w.cell? (b,6)=U ↑pl/\w.cell? (b,7)=U ↑pr/\cW w b x l r pl pr Fl Fr:=⟨h.c6,h.c7,h⟩
def zI(w:XY)(t:aF.S):XM X5->Prop
 |none=>aF.isNil t=XX
 |some a=>a.off=0/\a.spot=Z/\aF.isNil t=XW/\w.cell? (a.block,4)=U (V Y (aF.late t))
theorem dK.zI{t:aF.S}(h:dK w t (X8 u) F):zI w t u:=by
 cases t with
 |nil=>let⟨h1,_⟩:=h;cases h1;rfl
 |node a l r=>let⟨b,pl,pr,Fl,Fr,hp,n,c4,_⟩:=h;cases hp;exact⟨rfl,rfl,rfl,c4⟩
structure wU(w wx:XY)(b:XP)(x:aF.It)(l r:aF.S)(pl pr:XM X5)(Fl Fr:J XP)(hh m:XQ):Prop where
 half:cW wx b x l r pl pr Fl Fr
 c4:wx.cell? (b,4)=U ↑m
 c5:wx.cell? (b,5)=U ↑hh
 off:aH [b] w wx
theorem wU.mD{wx:XY}{x:aF.It}{l r:aF.S}{d m:XQ}(h:wU w wx b x l r pl pr Fl Fr d m)(m':XQ):wU w (wx.setCell (b,4) m').drew b x l r pl pr Fl Fr d m' :=
 ⟨(h.half.mD m').drew,Yy _ _ _ h.c4,(aZ XA).trans h.c5,(h.off.setCell (.inl XA) _ _).drew⟩
theorem xV(w:XY)(b:XP)(x:aF.It)(l r:aF.S)(pl pr:XM X5)(Fl Fr:J XP)(h:cW w b x l r pl pr Fl Fr)(hl:aF.ht l<=100000)(hr:aF.ht r<=100000):
  X4 prog 285 #[b] w fun e w'=>e=Yg (Yc #[])/\dK w' (.node x l r) b (b :: (Fl++Fr))/\aH [b] w w':=by
 have h1:=aF.kR l;have h2:=aF.kR r
 have e3:Yf.wrap (1+if aF.ht l<aF.ht r then aF.ht r else aF.ht l)=1+max (aF.ht l) (aF.ht r):=by
  rw[CI];exact cT O O
 have E3:=aC e3;clear e3;have f5:=h.n.fz 5;obtain⟨y5,c5⟩:=h.n.c5;have d:((w.setCell (b,5) (V Yf (1+max (aF.ht l) (aF.ht r)))).drew).cell? (b,5)=U (V Yf (1+max (aF.ht l) (aF.ht r))):=zm _ _ _ c5;have g:=aC (Yz (h.qo (1+max (aF.ht l) (aF.ht r))).drew (Yz d ((aH.bD b w 5 (V Yf (1+max (aF.ht l) (aF.ht r)))).drew)));clear d
 go_in
 go_wp21
 go_region_held3 (fun w'=>w'.cell? (b,6)=U ↑pl/\w'.cell? (b,7)=U ↑pr/\cW w' b x l r pl pr Fl Fr)
  (first
   |exact CQ h.drew
   |exact CQ (cW.drew (cW.qo h _)))
  (first
   |(go_at_call_of 282 (X8 pl);go_split_ands;refine aX (kQ _ (cW.l XD)) ?_)
   |(go_at_call_of 282 (X8 pr);go_split_ands;refine aX (kQ _ (cW.r XD)) ?_))
 rw[E3,uR];obtain⟨j,P,H⟩:=g.out;clear g;generalize (YA _ (b,5) (V Yf (1+max (aF.ht l) (aF.ht r)))).drew=X at j P H ⊢;clear h f5 c5;have c1:=j.n.c1;have c6:=j.c6;have c7:=j.c7;obtain⟨y4,c4⟩:=j.n.c4;have I:=j.n.fz 4;have d:(X.setCell (b,4) x.t).cell? (b,4)=U ↑x.t:=zm _ _ _ c4;have y:(X.setCell (b,4) x.t).cell? (b,5)=U (V Yf (1+max (aF.ht l) (aF.ht r))):=(aZ XA).trans P;have g:=aC (Yz (j.mD x.t) (Yz d (Yz y (H.setCell (R:=b) (.inl XA) 4 x.t))));clear d y
 go_upto_region 2 with fail
 obtain⟨i,E,D,C⟩:=g.out;clear g c1 c6 c7 c4 I j P H;generalize (YA X (b,4) x.t)=Y at i E D C ⊢;have d6:=i.c6
 go_upto_if 28 with fail
 clear d6
 go_cut [28] from 24 to 43 (fun _ wx=>wU w wx b x l r pl pr Fl Fr (1+max (aF.ht l) (aF.ht r)) (if aF.isNil l then x.t else max x.t (aF.late l)))
 .have d6:=i.c6;have d7:=i.c7;have I:=i.n.fz 4;have W:=i.l.zI
  cases pl with
  |none =>
   have z:aF.isNil l=XX:=W
   go_wp21
   go_meet
   rw[XS z];exact⟨i,E,D,C⟩
  |some q =>
   obtain⟨Q,ol,sl⟩:=q;obtain⟨L,K,z,A⟩:=W
   cases L
   cases K
   have A:Y.cell? (Q,4)=U (V Yf (aF.late l)):=A
   go_wp21
   go_region
   all_goals
    rw[uR]
    go_wp21
    go_meet
    rw[XR (by simp[z])];exact wU.mD ⟨i,E,D,C⟩ _
 .have k:=hcut;clear hcut i E D C;have m4:=k.c4;have B:=aC k;have e9:aF.late (.node x l r)=if aF.isNil r then (if aF.isNil l then x.t else max x.t (aF.late l)) else max (if aF.isNil l then x.t else max x.t (aF.late l)) (aF.late r):=rfl
  have E9:=aC e9;clear e9;generalize (if aF.isNil l then x.t else max x.t (aF.late l))=m at *;have d7:=k.half.c7;have I:=k.half.n.fz 4;have T:=k.half.r.zI;clear k
  cases pr with
  |none =>
   have er:aF.isNil r=XX:=T;have s:=aC (B.half.rep (by rw[B.c4,E9,XS er]) B.c5)
   go_wp21
   go_end0
   exact⟨rfl,s,B.off⟩
  |some q =>
   obtain⟨Q,ol,sl⟩:=q;obtain⟨L,K,z,A⟩:=T
   cases L
   cases K
   have A:wc.cell? (Q,4)=U (V Yf (aF.late r)):=A;have s:=aC (B.mD (max m (aF.late r)));have HR:=aC (s.half.rep (by rw[s.c4,E9,XR (by simp[z])]) s.c5)
   go_wp21
   go_region
   all_goals
    rw[uR]
    go_wp21
    go_end0
    exact⟨rfl,HR,s.off⟩
def mA(w:XY)(F:J XP)(d:aF.S)(e:Ending)(w':XY):Prop :=
 ∃ (u:XM X5) (F':J XP),e=Yg u/\dK w' d u F'/\(∀ k∈F',k∈F)/\aH F w w'
theorem Ld{a b:J XP}(h:a.Perm b)(k:a.Nodup):b.Nodup:=h.nodup_iff.1 k
theorem UC{x y:aF.It}{s t r:aF.S}(h:cW w b x (.node y s t) r u pr Fl Fr):
  ∃ (bl:XP) (pa g:XM X5) (Fa j:J XP),u=U ⟨bl,0,Z⟩/\Fl=bl :: (Fa++j)/\w.cell? (bl,7)=U ↑g/\w.frozen? (bl,7)=XW/\b≠bl /\
   cW ((w.setCell (b,6) g).setCell (bl,7) b) b x t r g pr j Fr /\
   (∀ w2,dK w2 (.node x t r) b (b :: (j++Fr))->aH [b] ((w.setCell (b,6) g).setCell (bl,7) b) w2->cW w2 bl y s (.node x t r) pa b Fa (b :: (j++Fr))) /\
   aH (b :: (Fl++Fr)) w ((w.setCell (b,6) g).setCell (bl,7) b):=by
 obtain⟨bl,pa,g,Fa,j,rfl,rfl,A,_,_⟩:=h.l.half;have q:=h.nd;have m:b≠bl:=by rintro rfl;simp at q
 have D:(b :: (j++Fr)).Nodup:=by
  refine YN ?_ q;exact YP _ (YQ (YR (List.sublist_append_right Fa j) (YS _ _)) (YT _))
 have B:aH [b] w (w.setCell (b,6) g):=aH.bD ..;have H:aH [bl] (w.setCell (b,6) g) ((w.setCell (b,6) g).setCell (bl,7) b):=aH.bD ..
 have i:∀ k,k∈Fa\/k∈j\/k∈Fr->k≠b/\k≠bl:=by
  intro k d;simp only[Yx,Yv,Yu,YH,not_or] at q;constructor
  .rintro rfl;rcases d with d|d|d
   .exact q.1.2.1.1 d
   .exact q.1.2.1.2 d
   .exact q.1.2.2 d
  .rintro rfl;rcases d with d|d|d
   .exact q.2.1.1.1 d
   .exact q.2.1.1.2 d
   .exact q.2.1.2 d
 have P:cW (w.setCell (b,6) g) b x t r g pr j Fr:=cW.lg h.n h.c7 A.r h.r D
 have E:cW ((w.setCell (b,6) g).setCell (bl,7) b) b x t r g pr j Fr :=
  P.off H (by simpa using m) (fun k d=>by simpa using (i k (.inr (.inl d))).2) (fun k d=>by simpa using (i k (.inr (.inr d))).2)
 refine⟨bl,pa,g,Fa,j,rfl,rfl,A.c7,A.n.fz 7,m,E,fun w2 L C=>?_,?_⟩
 .have K:gZ ((w.setCell (b,6) g).setCell (bl,7) b) bl y:=(A.n.off B (by simp;exact m.symm)).cR _;have T:((w.setCell (b,6) g).setCell (bl,7) b).cell? (bl,6)=U ↑pa:=(aZ XA).trans (B.cell (by simp;exact m.symm) A.c6);have R:((w.setCell (b,6) g).setCell (bl,7) b).cell? (bl,7)=U ↑b:=zm _ _ _ (B.cell (by simp;exact m.symm) A.c7)
  have Q:dK ((w.setCell (b,6) g).setCell (bl,7) b) s pa Fa :=
   (A.l.off B (fun k d=>by simpa using (i k (.inl d)).1)).off H (fun k d=>by simpa using (i k (.inl d)).2)
  have z:bl ∉ [b]:=by simp;exact m.symm
  refine⟨K.off C z,C.cell z T,C.cell z R,Q.off C (fun k d=>by simpa using (i k (.inl d)).1),L,?_⟩;refine Ld ?_ q;have I:(b :: (bl :: (Fa++j)++Fr)).Perm (bl :: b :: (Fa++(j++Fr))):=by simpa[YU] using YV bl b (Fa++(j++Fr))
  exact I.trans (YW _ YX.symm)
 .exact ((aH.bD b w 6 _).mono XA).setCell (.inl XA) _ _
theorem UB{x y:aF.It}{s t l:aF.S}(h:cW w b x l (.node y s t) pl u Fl Fr):
  ∃ (br:XP) (g pb:XM X5) (Fa Fb:J XP),u=U ⟨br,0,Z⟩/\Fr=br :: (Fa++Fb)/\w.cell? (br,6)=U ↑g/\w.frozen? (br,6)=XW/\b≠br /\
   cW ((w.setCell (b,7) g).setCell (br,6) b) b x l s pl g Fl Fa /\
   (∀ w2,dK w2 (.node x l s) b (b :: (Fl++Fa))->aH [b] ((w.setCell (b,7) g).setCell (br,6) b) w2->cW w2 br y (.node x l s) t b pb (b :: (Fl++Fa)) Fb) /\
   aH (b :: (Fl++Fr)) w ((w.setCell (b,7) g).setCell (br,6) b):=by
 obtain⟨br,g,pb,Fa,Fb,rfl,rfl,z,_,_⟩:=h.r.half;have m:=h.nd;have j:b≠br:=by rintro rfl;simp at m
 have C:(b :: (Fl++Fa)).Nodup:=by
  refine YN ?_ m;exact YP _ (YQ (YT _) (YR (List.sublist_append_left Fa Fb) (YS _ _)))
 have A:aH [b] w (w.setCell (b,7) g):=aH.bD ..;have E:aH [br] (w.setCell (b,7) g) ((w.setCell (b,7) g).setCell (br,6) b):=aH.bD ..
 have i:∀ k,k∈Fl\/k∈Fa\/k∈Fb->k≠b/\k≠br:=by
  intro k d;simp only[Yx,YC,Yv,Yu,not_or] at m;constructor
  .rintro rfl;rcases d with d|d|d
   .exact m.1.1 d
   .exact m.1.2.2.1 d
   .exact m.1.2.2.2 d
  .rintro rfl;rcases d with d|d|d
   .exact m.2.2.2 _ d _ (.inl rfl) rfl
   .exact m.2.2.1.1.1 d
   .exact m.2.2.1.1.2 d
 have L:cW (w.setCell (b,7) g) b x l s pl g Fl Fa:=cW.jR h.n h.c6 h.l z.l C
 have D:cW ((w.setCell (b,7) g).setCell (br,6) b) b x l s pl g Fl Fa :=
  L.off E (by simpa using j) (fun k d=>by simpa using (i k (.inl d)).2) (fun k d=>by simpa using (i k (.inr (.inl d))).2)
 refine⟨br,g,pb,Fa,Fb,rfl,rfl,z.c6,z.n.fz 6,j,D,fun w2 K B=>?_,?_⟩
 .have I:gZ ((w.setCell (b,7) g).setCell (br,6) b) br y:=(z.n.off A (by simp;exact j.symm)).uN _;have R:((w.setCell (b,7) g).setCell (br,6) b).cell? (br,6)=U ↑b:=zm _ _ _ (A.cell (by simp;exact j.symm) z.c6);have Q:((w.setCell (b,7) g).setCell (br,6) b).cell? (br,7)=U ↑pb:=(aZ XA).trans (A.cell (by simp;exact j.symm) z.c7)
  have P:dK ((w.setCell (b,7) g).setCell (br,6) b) t pb Fb :=
   (z.r.off A (fun k d=>by simpa using (i k (.inr (.inr d))).1)).off E (fun k d=>by simpa using (i k (.inr (.inr d))).2)
  have q:br ∉ [b]:=by simp;exact j.symm
  refine⟨I.off B q,B.cell q R,B.cell q Q,K,P.off B (fun k d=>by simpa using (i k (.inr (.inr d))).1),?_⟩;refine Ld ?_ m;have H:(b :: (Fl++br :: (Fa++Fb))).Perm (b :: br :: (Fl++(Fa++Fb))):=YW _ YX;refine H.trans ((YV br b _).trans (YW _ ?_));simp[YU]
 .exact ((aH.bD b w 7 _).mono XA).setCell (.inl XA) _ _
theorem Fm(w:XY)(b:XP)(x y:aF.It)(s t r:aF.S)(u pr:XM X5)(Fl Fr:J XP)(h:cW w b x (.node y s t) r u pr Fl Fr)(h1:aF.ht s<=50000)(W:aF.ht t<=50000)(T:aF.ht r<=50000):
  X4 prog 284 #[b] w (mA w (b :: (Fl++Fr)) (.node y s (.node x t r))):=by
 obtain⟨Q,C,B,R,A,rfl,rfl,L,H,D,q,m,l⟩:=UC h;have P:=h.c6;have I:=h.n.fz 6;have j:aF.ht (.node x t r)<=100000:=by simp only[aF.ht];omega
 have G:=aC (Yz q (Yz m l));clear q m l h
 go_in
 go_wp21
 refine aK (xV _ b x t r B pr A Fr G.1 O O) ?_;rintro w2 ⟨g,d⟩;have K:=aC (Yz (G.2.1 w2 g d) (G.2.2.trans' d (fun z i=>by simp at i;subst i;exact .inl XA)));clear g d G L P H I
 go_wp21
 refine aK (xV _ Q y s (.node x t r) C b R (b :: (A++Fr)) K.1 O j) ?_;rintro w3 ⟨g,d⟩;have M:=aC (Yz g (K.2.trans' d (fun z i=>by simp at i;subst i;exact .inl XA)));clear g d K
 go_wp21
 go_ret;exact⟨_,_,rfl,M.1,(by intro k E;simp only[Yu,Yv] at E ⊢;grind),M.2⟩
theorem Fp(w:XY)(b:XP)(x y:aF.It)(s t l:aF.S)(u pl:XM X5)(Fl Fr:J XP)(h:cW w b x l (.node y s t) pl u Fl Fr)(h1:aF.ht s<=50000)(W:aF.ht t<=50000)(T:aF.ht l<=50000):
  X4 prog 283 #[b] w (mA w (b :: (Fl++Fr)) (.node y (.node x l s) t)):=by
 obtain⟨Q,C,B,A,R,rfl,rfl,P,I,D,r,q,m⟩:=UB h;have L:=h.c7;have H:=h.n.fz 7;have j:aF.ht (.node x l s)<=100000:=by simp only[aF.ht];omega
 have G:=aC (Yz r (Yz q m));clear r q m h
 go_in
 go_wp21
 refine aK (xV _ b x l s pl C Fl A G.1 O O) ?_;rintro w2 ⟨g,d⟩;have K:=aC (Yz (G.2.1 w2 g d) (G.2.2.trans' d (fun z i=>by simp at i;subst i;exact .inl XA)));clear g d G L P H I
 go_wp21
 refine aK (xV _ Q y (.node x l s) t b B (b :: (Fl++A)) R K.1 j O) ?_;rintro w3 ⟨g,d⟩;have M:=aC (Yz g (K.2.trans' d (fun z i=>by simp at i;subst i;exact .inl XA)));clear g d K
 go_wp21
 go_ret;exact⟨_,_,rfl,M.1,(by intro k E;simp only[Yu,Yv] at E ⊢;grind),M.2⟩
theorem cW.s9{x:aF.It}{l r q:aF.S}(h:cW w b x l r pl pr Fl Fr)(s:dK w2 q u F')(j:∀ k∈F',k∈Fl\/w<=k)(i:aH Fl w w2):
  cW (w2.setCell (b,6) u) b x q r u pr F' Fr/\(∀ k∈b :: (F'++Fr),k∈b :: (Fl++Fr)\/w<=k)/\aH (b :: (Fl++Fr)) w (w2.setCell (b,6) u):=by
 let⟨n1,n2,n3,n4,n5,n6,n7,n8⟩:=h.parts;have g:=h.lt;refine⟨cW.lg (h.n.off i n1) (i.cell n1 h.c7) s (h.r.off i n5) ?_,fun k d=>?_,?_⟩
 .refine Yx.2 ⟨fun e=>?_,YC.2 ⟨s.nodup,n8,fun y m z t e=>?_⟩⟩
  .rcases Yv.1 e with e|e
   .rcases j b e with e|e
    .exact n1 e
    .have:=g b XA;omega
   .exact n2 e
  .subst e;rcases j y m with e|e
   .exact n5 y t e
   .have:=g y (by simp[t]);omega
 .rcases Yu.1 d with rfl|d
  .exact .inl XA
  .rcases Yv.1 d with d|d
   .rcases j k d with e|e
    .exact .inl (by simp[e])
    .exact .inr e
   .exact .inl (by simp[d])
 .exact (i.mono (by intro y m;simp[m])).setCell (.inl XA) _ _
theorem cW.vM{x:aF.It}{l r q:aF.S}(h:cW w b x l r pl pr Fl Fr)(s:dK w2 q u F')(m:∀ k∈F',k∈Fr\/w<=k)(i:aH Fr w w2):
  cW (w2.setCell (b,7) u) b x l q pl u Fl F'/\(∀ k∈b :: (Fl++F'),k∈b :: (Fl++Fr)\/w<=k)/\aH (b :: (Fl++Fr)) w (w2.setCell (b,7) u):=by
 let⟨n1,n2,n3,n4,n5,n6,n7,n8⟩:=h.parts;have g:=h.lt;refine⟨cW.jR (h.n.off i n2) (i.cell n2 h.c6) (h.l.off i n6) s ?_,fun k d=>?_,?_⟩
 .refine Yx.2 ⟨fun e=>?_,YC.2 ⟨n7,s.nodup,fun y j z t e=>?_⟩⟩
  .rcases Yv.1 e with e|e
   .exact n1 e
   .rcases m b e with e|e
    .exact n2 e
    .have:=g b XA;omega
  .subst e;rcases m y t with e|e
   .exact n6 y j e
   .have:=g y (by simp[j]);omega
 .rcases Yu.1 d with rfl|d
  .exact .inl XA
  .rcases Yv.1 d with d|d
   .exact .inl (by simp[d])
   .rcases m k d with e|e
    .exact .inl (by simp[e])
    .exact .inr e
 .exact (i.mono (by intro y j;simp[j])).setCell (.inl XA) _ _
theorem mA.of{t:aF.S}{e:Ending}(h:mA w1 G t e w')(k:aH F w w1)(d:∀ k∈G,k∈F):mA w F t e w':=by
 obtain⟨u,F',rfl,m,l,j⟩:=h;exact⟨u,F',rfl,m,fun k i=>d k (l k i),k.trans' j (fun x g=>.inl (d x g))⟩
theorem Wx(w:XY)(b:XP)(x:aF.It)(l r:aF.S)(pl pr:XM X5)(Fl Fr:J XP)(h:cW w b x l r pl pr Fl Fr)(s:aF.ht l<=40000)(q:aF.ht r<=40000)(y:¬ 1<aF.ht l-aF.ht r)(t:¬ aF.ht l-aF.ht r < -1):
  X4 prog 262 #[b] w (mA w (b :: (Fl++Fr)) (.node x l r)):=by
 have B:=aF.kR l;have A:=aF.kR r;have k:Y.wrap (aF.ht l-aF.ht r)=aF.ht l-aF.ht r:=cT O O
 go_in
 go_upto_region 1 with fail
 go_region_held3 (fun w'=>w'.cell? (b,6)=U ↑pl/\w'.cell? (b,7)=U ↑pr/\cW w' b x l r pl pr Fl Fr)
  (exact CQ h.drew)
  (first
   |(go_at_call_of 282 (X8 pl);go_split_ands;refine aX (kQ _ (cW.l XD)) ?_)
   |(go_at_call_of 282 (X8 pr);go_split_ands;refine aX (kQ _ (cW.r XD)) ?_))
 have H:=aC h.drew;have j:=aC ((aH.refl (b :: (Fl++Fr)) _).drew:aH _ w w.drew);clear h
 go_wp21
 refine aK (xV _ b x l r pl pr Fl Fr H O O) ?_;rintro w2 ⟨g,d⟩;have K:=aC (Yz g (j.trans' d (fun z i=>by simp at i;subst i;exact .inl XA)));clear g d H j
 go_wp21
 go_ret;exact⟨_,_,rfl,K.1,fun _ m=>m,K.2⟩
theorem Va(w:XY)(b:XP)(x y:aF.It)(s t:aF.S)(r:aF.S)(u pr:XM X5)(Fl Fr:J XP)(h:cW w b x (.node y s t) r u pr Fl Fr)(hs:aF.ht s<=40000)(ht:aF.ht t<=40000)(ho:aF.ht r<=40000)(h1:1<aF.ht (.node y s t)-aF.ht r):
  X4 prog 262 #[b] w (mA w (b :: (Fl++Fr)) (aF.sw x (.node y s t) r)):=by
 have g0:=aF.kR s;have g1:=aF.kR t;have g2:=aF.kR r;have g3:aF.ht (.node y s t)=1+max (aF.ht s) (aF.ht t):=rfl;obtain⟨g,L,K,Fs,Ft,rfl,rfl,C,_,_⟩:=h.l.half;have RB:=aC (fun w' (k:aH [] w w')=>Yz (h.same k) (C.same k));have P:=aC (fun w' (k:aH [] w w')=>kQ w' (h.same k).l);generalize aF.ht (.node y s t)=hty at *;have ab:Y.wrap (hty-aF.ht r)=hty-aF.ht r:=cT O O;clear g3
 by_cases hc:aF.ht s<aF.ht t
 .have eb:aF.sw x (.node y s t) r=aF.tP (.node x (aF.tO (.node y s t)) r):=by unfold aF.sw;rw[XS (by simpa[aF.left,aF.right] using hc)]
  rw[eb];obtain⟨z,A,q,rfl⟩:=aF.Ar (t:=t) O;have gz:aF.ht (.node z A q)=1+max (aF.ht A) (aF.ht q):=rfl;have g4:=aF.kR A;have g5:=aF.kR q;have q1:aF.ht A<=40000:=O
  have q2:aF.ht q<=40000:=O
  have H:=aC (fun w' (k:aH [] w w')=>kQ w' (C.same k).r);have I:=aC (fun w' (k:aH [] w w')=>kQ w' (C.same k).l);generalize aF.ht (.node z A q)=htt at *;clear gz g4 g5 h C eb
  go_in
  go_upto_region 1 with fail
  have E:=(RB w.drew (aH.refl _ _).drew).1.c6;have W:=(RB w.drew (aH.refl _ _).drew).1.c7
  go_region_held3 (fun w'=>w'.cell? (b,6)=U ↑g/\w'.cell? (b,7)=U ↑pr/\w'=w.drew)
   (exact⟨E,W,rfl⟩)
   (first
    |(go_at_call_of 282 (X8 (U (Addr.mk g 0 Z)));go_split_ands;refine aX (P _ (aH.refl _ _).drew) ?_)
    |(go_at_call_of 282 (X8 pr);go_split_ands;refine aX (kQ _ (RB _ (aH.refl _ _).drew).1.r) ?_))
  go_upto_region 3 with fail
  have T:=(RB w.drew.drew (aH.refl _ _).drew.drew).1.c6;have R:=(RB w.drew.drew (aH.refl _ _).drew.drew).2.c6;have Q:=(RB w.drew.drew (aH.refl _ _).drew.drew).2.c7
  go_region_held3 (fun w'=>w'.cell? (b,6)=U ↑g/\w'.cell? (g,6)=U ↑L/\w'.cell? (g,7)=U ↑K/\w'=w.drew.drew)
   (exact⟨T,R,Q,rfl⟩)
   (first
    |(go_at_call_of 282 (X8 L);go_split_ands;refine aX (I _ (aH.refl _ _).drew.drew) ?_)
    |(go_at_call_of 282 (X8 K);go_split_ands;refine aX (H _ (aH.refl _ _).drew.drew) ?_))
  have d:=RB w.drew.drew (aH.refl _ _).drew.drew;have OW:=aC ((aH.refl (b :: ((g :: (Fs++Ft))++Fr)) _).drew.drew:aH _ w w.drew.drew);have i:=aC d;clear d RB P I H
  go_wp21
  have d:=i.out;clear i;refine (Fp _ g y z A q s _ _ _ _ d.2 O O O).mono ?_;rintro e w2 ⟨u2,F2,rfl,D,B,m⟩;obtain⟨m1,m2,m3⟩:=d.1.s9 D (fun k j=>.inl (B k j)) m;have E:=m.cell (o:=6) d.1.parts.1 d.1.c6;have f6:=(m.frozen (o:=6) d.1.parts.1 d.1.n.lt).trans (d.1.n.fz 6);have M:=aC (Yz m1 (Yz B (OW.trans m3)));clear m1 m2 m3 D B m d
  go_wp21
  refine (Fm _ b x z (.node y s A) q r _ _ _ _ M.1 (by simp only[aF.ht];omega) O O).mono ?_;rintro e w3 j;have HK:=aC (j.of M.2.2 (by intro k j;have:=M.2.1;simp only[Yu,Yv] at *;grind));obtain⟨u3,F3,rfl,D,B,m⟩:=j;clear D B m M E f6
  go_wp21
  go_ret;exact HK
 .have eb:aF.sw x (.node y s t) r=aF.tP (.node x (.node y s t) r):=by unfold aF.sw;rw[XR (by simpa[aF.left,aF.right] using hc)]
  rw[eb];have H:=aC (fun w' (k:aH [] w w')=>kQ w' (C.same k).r);have I:=aC (fun w' (k:aH [] w w')=>kQ w' (C.same k).l);generalize aa:aF.ht t=htt at *;clear h C eb
  go_in
  go_upto_region 1 with fail
  have E:=(RB w.drew (aH.refl _ _).drew).1.c6;have W:=(RB w.drew (aH.refl _ _).drew).1.c7
  go_region_held3 (fun w'=>w'.cell? (b,6)=U ↑g/\w'.cell? (b,7)=U ↑pr/\w'=w.drew)
   (exact⟨E,W,rfl⟩)
   (first
    |(go_at_call_of 282 (X8 (U (Addr.mk g 0 Z)));go_split_ands;refine aX (P _ (aH.refl _ _).drew) ?_)
    |(go_at_call_of 282 (X8 pr);go_split_ands;refine aX (kQ _ (RB _ (aH.refl _ _).drew).1.r) ?_))
  go_upto_region 3 with fail
  have T:=(RB w.drew.drew (aH.refl _ _).drew.drew).1.c6;have R:=(RB w.drew.drew (aH.refl _ _).drew.drew).2.c6;have Q:=(RB w.drew.drew (aH.refl _ _).drew.drew).2.c7
  go_region_held3 (fun w'=>w'.cell? (b,6)=U ↑g/\w'.cell? (g,6)=U ↑L/\w'.cell? (g,7)=U ↑K/\w'=w.drew.drew)
   (exact⟨T,R,Q,rfl⟩)
   (first
    |(go_at_call_of 282 (X8 L);go_split_ands;refine aX (I _ (aH.refl _ _).drew.drew) ?_)
    |(go_at_call_of 282 (X8 K);go_split_ands;refine aX (H _ (aH.refl _ _).drew.drew) ?_))
  have d:=RB w.drew.drew (aH.refl _ _).drew.drew;have OW:=aC ((aH.refl (b :: ((g :: (Fs++Ft))++Fr)) _).drew.drew:aH _ w w.drew.drew);have i:=aC d;clear d RB P I H
  go_wp21
  have d:=i.out;clear i;refine (Fm _ b x y s t r _ _ _ _ d.1 O O O).mono ?_;rintro e w3 j;have HK:=aC (j.of OW (fun _ j=>j));obtain⟨u3,F3,rfl,D,B,m⟩:=j;clear D B m
  go_wp21
  go_ret;exact HK
theorem Vb(w:XY)(b:XP)(x y:aF.It)(s t:aF.S)(l:aF.S)(u pl:XM X5)(Fl Fr:J XP)(h:cW w b x l (.node y s t) pl u Fl Fr)(hs:aF.ht s<=40000)(ht:aF.ht t<=40000)(ho:aF.ht l<=40000)(h1:aF.ht l-aF.ht (.node y s t) < -1):
  X4 prog 262 #[b] w (mA w (b :: (Fl++Fr)) (aF.sy x l (.node y s t))):=by
 have g0:=aF.kR s;have g1:=aF.kR t;have g2:=aF.kR l;have g3:aF.ht (.node y s t)=1+max (aF.ht s) (aF.ht t):=rfl;obtain⟨g,L,K,Fs,Ft,rfl,rfl,C,_,_⟩:=h.r.half;have RB:=aC (fun w' (k:aH [] w w')=>Yz (h.same k) (C.same k));have P:=aC (fun w' (k:aH [] w w')=>kQ w' (h.same k).r);generalize aF.ht (.node y s t)=hty at *;have aa:Y.wrap (aF.ht l-hty)=aF.ht l-hty:=cT O O;have nx:¬ 1<aF.ht l-hty:=O
 clear g3
 by_cases hc:aF.ht t<aF.ht s
 .have eb:aF.sy x l (.node y s t)=aF.tO (.node x l (aF.tP (.node y s t))):=by unfold aF.sy;rw[XS (by simpa[aF.left,aF.right] using hc)]
  rw[eb];obtain⟨z,A,q,rfl⟩:=aF.Ar (t:=s) O;have gz:aF.ht (.node z A q)=1+max (aF.ht A) (aF.ht q):=rfl;have g4:=aF.kR A;have g5:=aF.kR q;have q1:aF.ht A<=40000:=O
  have q2:aF.ht q<=40000:=O
  have H:=aC (fun w' (k:aH [] w w')=>kQ w' (C.same k).r);have I:=aC (fun w' (k:aH [] w w')=>kQ w' (C.same k).l);generalize aF.ht (.node z A q)=hts at *;clear gz g4 g5 h C eb
  go_in
  go_upto_region 1 with fail
  have E:=(RB w.drew (aH.refl _ _).drew).1.c6;have W:=(RB w.drew (aH.refl _ _).drew).1.c7
  go_region_held3 (fun w'=>w'.cell? (b,6)=U ↑pl/\w'.cell? (b,7)=U ↑g/\w'=w.drew)
   (exact⟨E,W,rfl⟩)
   (first
    |(go_at_call_of 282 (X8 (U (Addr.mk g 0 Z)));go_split_ands;refine aX (P _ (aH.refl _ _).drew) ?_)
    |(go_at_call_of 282 (X8 pl);go_split_ands;refine aX (kQ _ (RB _ (aH.refl _ _).drew).1.l) ?_))
  go_upto_region 7 with fail
  have T:=(RB w.drew.drew (aH.refl _ _).drew.drew).1.c7;have R:=(RB w.drew.drew (aH.refl _ _).drew.drew).2.c6;have Q:=(RB w.drew.drew (aH.refl _ _).drew.drew).2.c7
  go_region_held3 (fun w'=>w'.cell? (b,7)=U ↑g/\w'.cell? (g,6)=U ↑L/\w'.cell? (g,7)=U ↑K/\w'=w.drew.drew)
   (exact⟨T,R,Q,rfl⟩)
   (first
    |(go_at_call_of 282 (X8 L);go_split_ands;refine aX (I _ (aH.refl _ _).drew.drew) ?_)
    |(go_at_call_of 282 (X8 K);go_split_ands;refine aX (H _ (aH.refl _ _).drew.drew) ?_))
  have d:=RB w.drew.drew (aH.refl _ _).drew.drew;have OW:=aC ((aH.refl (b :: (Fl++(g :: (Fs++Ft)))) _).drew.drew:aH _ w w.drew.drew);have i:=aC d;clear d RB P I H
  go_wp21
  have d:=i.out;clear i;refine (Fm _ g y z A q t _ _ _ _ d.2 O O O).mono ?_;rintro e w2 ⟨u2,F2,rfl,D,B,m⟩;obtain⟨m1,m2,m3⟩:=d.1.vM D (fun k j=>.inl (B k j)) m;have E:=m.cell (o:=7) d.1.parts.2.1 d.1.c7;have f6:=(m.frozen (o:=7) d.1.parts.2.1 d.1.n.lt).trans (d.1.n.fz 7);have M:=aC (Yz m1 (Yz B (OW.trans m3)));clear m1 m2 m3 D B m d
  go_wp21
  refine (Fp _ b x z A (.node y q t) l _ _ _ _ M.1 O (by simp only[aF.ht];omega) O).mono ?_;rintro e w3 j;have HK:=aC (j.of M.2.2 (by intro k j;have:=M.2.1;simp only[Yu,Yv] at *;grind));obtain⟨u3,F3,rfl,D,B,m⟩:=j;clear D B m M E f6
  go_wp21
  go_ret;exact HK
 .have eb:aF.sy x l (.node y s t)=aF.tO (.node x l (.node y s t)):=by unfold aF.sy;rw[XR (by simpa[aF.left,aF.right] using hc)]
  rw[eb];have H:=aC (fun w' (k:aH [] w w')=>kQ w' (C.same k).r);have I:=aC (fun w' (k:aH [] w w')=>kQ w' (C.same k).l);clear h C eb
  go_in
  go_upto_region 1 with fail
  have E:=(RB w.drew (aH.refl _ _).drew).1.c6;have W:=(RB w.drew (aH.refl _ _).drew).1.c7
  go_region_held3 (fun w'=>w'.cell? (b,6)=U ↑pl/\w'.cell? (b,7)=U ↑g/\w'=w.drew)
   (exact⟨E,W,rfl⟩)
   (first
    |(go_at_call_of 282 (X8 (U (Addr.mk g 0 Z)));go_split_ands;refine aX (P _ (aH.refl _ _).drew) ?_)
    |(go_at_call_of 282 (X8 pl);go_split_ands;refine aX (kQ _ (RB _ (aH.refl _ _).drew).1.l) ?_))
  go_upto_region 7 with fail
  have T:=(RB w.drew.drew (aH.refl _ _).drew.drew).1.c7;have R:=(RB w.drew.drew (aH.refl _ _).drew.drew).2.c6;have Q:=(RB w.drew.drew (aH.refl _ _).drew.drew).2.c7
  go_region_held3 (fun w'=>w'.cell? (b,7)=U ↑g/\w'.cell? (g,6)=U ↑L/\w'.cell? (g,7)=U ↑K/\w'=w.drew.drew)
   (exact⟨T,R,Q,rfl⟩)
   (first
    |(go_at_call_of 282 (X8 L);go_split_ands;refine aX (I _ (aH.refl _ _).drew.drew) ?_)
    |(go_at_call_of 282 (X8 K);go_split_ands;refine aX (H _ (aH.refl _ _).drew.drew) ?_))
  have d:=RB w.drew.drew (aH.refl _ _).drew.drew;have OW:=aC ((aH.refl (b :: (Fl++(g :: (Fs++Ft)))) _).drew.drew:aH _ w w.drew.drew);have i:=aC d;clear d RB P I H
  go_wp21
  have d:=i.out;clear i;refine (Fp _ b x y s t l _ _ _ _ d.1 O O O).mono ?_;rintro e w3 j;have HK:=aC (j.of OW (fun _ j=>j));obtain⟨u3,F3,rfl,D,B,m⟩:=j;clear D B m
  go_wp21
  go_ret;exact HK
theorem uz(w:XY)(b:XP)(x:aF.It)(l r:aF.S)(pl pr:XM X5)(Fl Fr:J XP)(h:cW w b x l r pl pr Fl Fr)(k:aF.ht l<=30000)(j:aF.ht r<=30000):
  X4 prog 262 #[b] w (mA w (b :: (Fl++Fr)) (aF.gL x l r)):=by
 have q:=aF.kR l;have m:=aF.kR r
 by_cases d:1<aF.ht l-aF.ht r
 .have e:aF.gL x l r=aF.sw x l r:=by unfold aF.gL;rw[XS d]
  rw[e];obtain⟨y,s,t,rfl⟩:=aF.Ar (t:=l) O;have i:aF.ht (.node y s t)=1+max (aF.ht s) (aF.ht t):=rfl;exact Va w b x y s t r pl pr Fl Fr h O O O d
 .by_cases g:aF.ht l-aF.ht r < -1
  .have e:aF.gL x l r=aF.sy x l r:=by unfold aF.gL;rw[XR d,XS g]
   rw[e];obtain⟨y,s,t,rfl⟩:=aF.Ar (t:=r) O;have i:aF.ht (.node y s t)=1+max (aF.ht s) (aF.ht t):=rfl;exact Vb w b x y s t l pr pl Fl Fr h O O O g
  .have e:aF.gL x l r=.node x l r:=by unfold aF.gL;rw[XR d,XR g]
   rw[e];exact Wx w b x l r pl pr Fl Fr h O O d g
def mK(a b:XQ):XQ:=if a<b then -1 else if b<a then 1 else 0
theorem D8(a:XQ)(w:XY):X4 prog 279 #[a] w fun e w'=>e=Yg XW/\w'=w:=by
 go_in
 go_wp2;go_ret;exact⟨pv XA,rfl⟩
theorem Ay(a b:XQ)(w:XY):X4 prog 251 #[a,b] w fun e w'=>e=Yg (V Y (mK a b))/\w'=w:=by
 by_cases d:a<b
 .go_in
  go_wp2_with (go_at_call 279;refine aX (D8 _ _) ?_)
  go_ret;exact⟨iy (by simp[mK,d]),rfl⟩
 .by_cases g:b<a
  .go_in
   go_wp2_with (go_at_call 279;refine aX (D8 _ _) ?_)
   go_ret;exact⟨iy (by rw[mK,XR O,XS O]),rfl⟩
  .go_in
   go_wp2_with (go_at_call 279;refine aX (D8 _ _) ?_)
   go_ret;exact⟨iy (by rw[mK,XR O,XR O]),rfl⟩
def qq(x y:XQ):XQ:=if x=0 then y else x
theorem Ij(A:XP)(x y:XQ)(w:XY)(l:w.cell? (A,0)=U ↑x)(k:w.cell? (A,1)=U ↑y):
  X4 prog 250 #[.slice A 2 2] w fun e w'=>e=Yg (V Y (qq x y))/\w'=w:=by
 go_in
 go_wp2
 go_loop [5,8] (fun _ i=>i=V Y 0\/(x=0/\i=V Y 1)\/(x=0/\y=0/\i=V Y 2)) (fun _ i=>2-(intOf i).toNat)
 .exact .inl rfl
 .rcases hrel with rfl|⟨d,rfl⟩|⟨d,g,rfl⟩
  .by_cases d:x=0
   .subst d;go_wp2
    go_round
    .simp
    .simp[intOf]
   .have j:(x != 0)=XX:=by simpa using d
    go_wp2;go_ret;exact⟨iy (by rw[qq,XR d]),rfl⟩
  .subst d
   by_cases g:y=0
   .subst g;go_wp2
    go_round
    .simp
    .simp[intOf]
   .have h:(y != 0)=XX:=by simpa using g
    go_wp2;go_ret;exact⟨iy (by rw[qq,XS rfl]),rfl⟩
  .subst d;subst g;go_wp2;go_ret;exact⟨iy (by simp[qq]),rfl⟩
theorem RU(f n:XQ)(x:aF.It):qq (mK f x.f) (mK n x.n)=aF.side f n x:=by
 unfold qq mK aF.side
 by_cases d:f<x.f
 .simp[d]
 .by_cases g:x.f<f
  .simp[d,g]
  .simp[d,g]
theorem Lm(b:XP)(x:aF.It)(f n:XQ)(w:XY)(h:gZ w b x):
  X4 prog 263 #[b,f,n] w fun e w'=>e=Yg (V Y (aF.side f n x))/\X0 w w w':=by
 have g:=h.c0;have d:=h.c2;rw[<- RU];have HP:=aC (fun w'=>Ay f x.f w');have i:=aC (fun w'=>Ay n x.n w');generalize mK f x.f=p at *;generalize mK n x.n=q at *;clear h
 go_in
 go_upto_region 1 with fail
 go_region_held3 (fun w'=>w'.cell? (b,0)=U (V Y x.f)/\w'.cell? (b,2)=U (V Y x.n)/\X0 w w w')
  (first
   |exact⟨g,d,dV _⟩
   |(go_split_ands;refine⟨?_,?_,?_⟩ <;> assumption)
   |(go_split_ands;exact⟨aR bC XD,aR bC XD,bM XD bC aI⟩))
  (first
   |(go_at_call_of 251 (V Y f);refine aX (HP _) ?_)
   |(go_at_call_of 251 (V Y n);refine aX (i _) ?_)
   |(go_at_call 250;refine aX (Ij _ p q _ XA XA) ?_))
 all_goals
  have j:Hid (X0 w w (YG (YD w (Yh #[V Y p,V Y q] 3)))):=bC.drew
  go_wp21
  go_ret;exact⟨rfl,j⟩
end Go.Proofs.YtfigmlfdnickmaaGreatDoor
