import Derived.Test.YtolaacmheeaadaaGreatDoorProg
import Derived.WalkSpells
import Derived.WalkLawsBesides
import Derived.BigQuiet
import Derived.Deep.RegionHeld3
import Derived.Deep.CutRange
set_option maxRecDepth 100000
set_option maxHeartbeats 8000000
open Go.Proofs.Tryz
open _root_ renaming List->Ut,Option->Uu,Bool->Uv,Nat->Uw,Int->Ux,if_neg->Uy,if_pos->Uz,List->J
open Option renaming none->UB,some->UC,none->Z,some->U
open Bool renaming false->UD,true->UE,not_eq_true->U3,false_or->U4,not_false->U5,not_true->U6,false_eq_true->U7,true_or->U8
open Go renaming World->UF,Value->UG,Calls->UI,Addr->UJ
open Go.RowKit renaming Below->UH,Below->UZ
open Nat renaming le_refl->UY,le_trans->U0
open Go.Ending renaming returned->UW
open Go.IntKind renaming i64->UV,i64->Y
open Go.World renaming block_lt_of_cell?->U1,frozen?->U2,cell?_setCell_same->Ve,setCell->Vg,alloc->Vj,cell?->Vk,drew->Vl
open Int renaming add_assoc->U9,zero_add->Vh
open List renaming mem_cons->Va,mem_append->Vb,nodup_nil->Vc,nodup_cons->Vd,nodup_append->Vi,cons_append->Vm,pairwise_cons->Vn,filter_append->Vo,filter_cons->Vp,filter_eq_nil_iff->Vr,sublist_cons_self->Vw,perm_middle->Vz
open And renaming intro->Vf
open Go.Value renaming pointer->UM,int->UL,tuple->US,agg->UT,int->V
open List.Pairwise renaming filter->Vq
open List.Sublist renaming nodup->Vs,cons_cons->Vt,append->Vu,trans->Vv,refl->Vx
open List.Perm renaming cons->Vy
open Go.Obj renaming cells->UX
namespace Go.Proofs.YtolaacmheeaadaaGreatDoor
variable{a c hi level lo long st y5 y6:Ux}{f:Ux->Ux}{F F' Fl Fr G:Ut Uw}{M N b bk fn n o:Uw}{pl pr u:Uu UJ}{p v:UG}{X w w' w'' w1 w2 w4:UF}
theorem O{p:Prop}(h:p:=by omega):p:=h
theorem Uh{p:Prop}(h:p:=by omega):p:=h
theorem Ui{p:Prop}(h:p:=by simp):p:=h
theorem Uj{p:Prop}(h:p:=by decide):p:=h
theorem Uk{p:Prop}(h:p:=by assumption):p:=h
theorem Ul{p:Prop}(h:p:=by decide +kernel):p:=h
theorem Um{p:Prop}(h:p:=by kernel_rfl):p:=h
theorem Un{p:Prop}(h:p:=by (simp;omega)):p:=h
theorem Uo{p:Prop}(h:p:=by grind):p:=h
theorem Up{p:Prop}(h:p:=by (unfold maxLen;omega)):p:=h
theorem Uq{p:Prop}(h:p:=by simp[Value.oneCell']):p:=h
theorem Ur{p:Prop}(h:p:=by simp[Value.ownBlock]):p:=h
open Go.RowKit
instance:Coe UF Uw:=⟨fun w=>w.heap.size⟩
instance:Coe Ux UG:=⟨UL UV⟩
instance:Coe Uw UJ:=⟨fun b=>⟨b,0,UB⟩⟩
instance:Coe Uw (Uu UJ):=⟨fun b=>UC ⟨b,0,UB⟩⟩
instance:Coe Uw UG:=⟨fun b=>UM (UC ⟨b,0,UB⟩)⟩
instance:Coe Unit UG:=⟨fun _=>.slice UB 0 0⟩
instance:Coe Uv UG:=⟨.bool⟩
instance:Coe ByteArray UG:=⟨.string⟩
instance:Coe (Uu UJ) UG:=⟨UM⟩
instance(b o:Uw):CoeDep (Uw×Uw) (b,o) UJ:=⟨⟨b,o,UB⟩⟩
instance(b:UF)(o:Uw):CoeDep (UF×Uw) (b,o) UJ:=⟨⟨b.heap.size,o,UB⟩⟩
theorem aJ{n:Uw}:n<=n:=UY n
theorem fI{b:Uw}{w:UF}:UZ b w w:=.refl b w
theorem aS{w:UF}{o:Obj}:UZ w.heap.size w (w.alloc o):=(fI).alloc aJ o
theorem bC{w:UF}{a b:UJ}{v:UG}(h:a≠b):(w.setCell a v).cell? b=w.cell? b:=w.cell?_setCell_other a b v h
theorem bZ{p q:Prop}(h:p)(e:p=q:=by (simp)):q:=e▸h
theorem aK{P:Program}{f:FuncId}{a:Array UG}{w:UF}{v:Ending}{R:UF->Prop}{Q:Ending->UF->Prop}(h:UI P f a w fun e w'=>e=v/\R w')(k:∀ w',R w'->Q v w'):UI P f a w Q:=h.mono (by rintro e w' ⟨rfl,r⟩;exact k _ r)
theorem aY{P:Program}{f:FuncId}{a:Array UG}{w W:UF}{v:Ending}{Q:Ending->UF->Prop}(h:UI P f a w fun e w'=>e=v/\w'=W)(k:Q v W):UI P f a w Q:=h.mono (by rintro e w' ⟨rfl,rfl⟩;exact k)
theorem zq(n:Uw):n<=n:=UY n
theorem zS(w:UF)(a b:UJ)(v:UG)(h:a≠b):(w.setCell a v).cell? b=w.cell? b:=w.cell?_setCell_other a b v h
theorem zr(b:Uw)(w:UF):UH b w w:=Below.refl b w
theorem zL{m k:Uw}(h:n<m)(g:m<=k):n<k:=Nat.lt_of_lt_of_le h g
theorem zm(w:UF)(a:UJ)(v:UG){u:UG}(h:w.cell? a=U u):(w.setCell a v).cell? a=U v:=w.cell?_setCell_same a v h
theorem zF(w:UF)(a b:UJ)(v:UG):(w.setCell a v).frozen? b=w.frozen? b:=w.frozen?_setCell a b v
theorem zo{a:UJ}(h:w'.heap[a.block]?=w.heap[a.block]?):w'.cell? a=w.cell? a:=World.cell?_of_block h
theorem zN(n:Uw):0<=n:=n.zero_le
theorem zg{α:Type _}{l:J α}(h:n<l.length):l[n]∈l:=List.getElem_mem h
theorem qH{a b:Uv}(h:a=b):UW a=UW b:=by rw[h]
theorem jy{k:IntKind}{b:Ux}(h:a=b):UW (V k a)=UW (V k b):=by rw[h]
theorem aB{p:Prop}(h:p):Hid p:=h
theorem dJ{x:Ux}(g:-1000000000000<=x)(d:x<=1000000000000):Y.wrap x=x:=by rw[IntKind.wrap_i64];omega
theorem vX(x y:Ux):(if x<y then y else x)=max x y:=by split <;> omega
theorem JH(x y:Ux):(if y<x then y else x)=min x y:=by split <;> omega
theorem DG(c x y:Ux):(c+if x<y then y else x)=c+max x y:=by split <;> omega
theorem Te(c x y:Ux):(c+if y<x then y else x)=c+min x y:=by split <;> omega
theorem bU{B:Uw}(h:UH B w w')(k:UH w' w' w'')(d:B<=w):UH B w w'':=h.trans (k.mono (U0 d h.size))
theorem eN(w:UF):UH w w w.drew:=fI.drew
structure aH(F:J Uw)(w w':UF):Prop where
 os:w'.os=w.os
 tape:w'.tape=w.tape
 output:w'.output=w.output
 size:w<=w'.heap.size
 block:∀ k,k<w.heap.size->k ∉ F->w'.heap[k]?=w.heap[k]?
theorem aH.refl(F:J Uw)(w:UF):aH F w w:=⟨rfl,rfl,rfl,UY _,fun _ _ _=>rfl⟩
theorem aH.trans'{a b c:UF}(h:aH F a b)(k:aH G b c)(j:∀ x∈G,x∈F\/a<=x):aH F a c :=
 ⟨k.os.trans h.os,k.tape.trans h.tape,k.output.trans h.output,U0 h.size k.size,fun i hi d =>(k.block i (zL hi h.size) (fun g=>by grind)).trans (h.block i hi d)⟩
theorem aH.trans{a b c:UF}(h:aH F a b)(k:aH F b c):aH F a c:=h.trans' k (fun _ d=>.inl d)
theorem aH.mono{a b:UF}(h:aH F a b)(g:∀ x∈F,x∈G):aH G a b :=⟨h.os,h.tape,h.output,h.size,fun i hi j=>h.block i hi (fun d=>j (g i d))⟩
theorem aH.aD(h:UH w w w'):aH F w w':=⟨h.os,h.tape,h.output,h.size,fun k d _=>h.block k d⟩
theorem aH.drew(h:aH F w w'):aH F w w'.drew:=⟨h.os,h.tape,h.output,h.size,h.block⟩
theorem aH.alloc(h:aH F w w')(o:Obj):aH F w (w'.alloc o) :=h.trans (aH.aD (fI.alloc aJ o))
theorem aH.bM(R:Uw)(w':UF)(o:Uw)(v:UG):aH [R] w' (w'.setCell (R,o) v) :=⟨(Below.setCell (B:=0) (Below.refl 0 w') (zN _) v).os,(Below.setCell (B:=0) (Below.refl 0 w') (zN _) v).tape,(Below.setCell (B:=0) (Below.refl 0 w') (zN _) v).output,(Below.setCell (B:=0) (Below.refl 0 w') (p:=(R,o)) (zN _) v).size,fun k _ d=>Below.heap_setCell w' _ v k Uo⟩
theorem aH.setCell(h:aH F w w'){R:Uw}(g:R∈F\/w<=R)(o:Uw)(v:UG):aH F w (w'.setCell (R,o) v) :=h.trans' (aH.bM R w' o v) (fun x d=>by grind)
theorem aH.cell(h:aH F w w')(d:b ∉ F)(g:w.cell? (b,o)=U v):w'.cell? (b,o)=U v :=(zo (w:=w) (h.block b (U1 _ _ g) d)).trans g
theorem aH.frozen(h:aH F w w')(d:b ∉ F)(g:b<w):w'.frozen? (b,o)=w.frozen? (b,o):=by have e:=h.block b g d;simp only[U2,e]
theorem aT(h:UH w w w')(d:w.cell? (b,o)=U v):w'.cell? (b,o)=U v :=(h.cell (p:=(b,o)) (U1 _ _ d)).trans d
namespace aL
inductive T where
 |nil:T
 |node (a:Ux) (l r:T):T
def top:T->Ux
 |.nil=>0
 |.node a l r=>a+max (top l) (top r)
def bot:T->Ux
 |.nil=>0
 |.node a l r=>a+min (bot l) (bot r)
def isNil:T->Uv
 |.nil=>UE
 |.node ..=>UD
def val:T->Ux
 |.nil=>0
 |.node a _ _=>a
def fst:T->T
 |.nil=>.nil
 |.node _ l _=>l
def snd:T->T
 |.nil=>.nil
 |.node _ _ r=>r
def flat(t:T):Uv:=isNil (fst t) && isNil (snd t)
def mk(a:Ux)(l r:T):T:=if a=0/\isNil l=UE/\isNil r=UE then .nil else .node a l r
theorem tV{t:T}(h:isNil t=UE):t=.nil:=by cases t <;> simp_all [isNil]
@[simp] theorem val_mk (a:Ux) (l r:T):val (mk a l r)=a:=by unfold mk;split;rename_i h;simp[val,h.1];rfl
@[simp] theorem fst_mk (a:Ux) (l r:T):fst (mk a l r)=l:=by unfold mk;split;rename_i h;rw[tV h.2.1];rfl;rfl
@[simp] theorem snd_mk (a:Ux) (l r:T):snd (mk a l r)=r:=by unfold mk;split;rename_i h;rw[tV h.2.2];rfl;rfl
def bA(lo hi:Ux):Ux:=(lo+hi) / 2
def apart(lo hi a b:Ux):Uv:=decide (hi<=a) || decide (b<=lo)
def within(lo hi a b:Ux):Uv:=decide (a<=lo) && decide (hi<=b)
theorem vu{b:Ux}:apart lo hi a b=UE↔hi<=a\/b<=lo:=by simp[apart]
theorem oI{b:Ux}:apart lo hi a b=UD↔a<hi/\lo<b:=by rw[<- U3,vu];omega
theorem wP{b:Ux}:within lo hi a b=UE↔a<=lo/\hi<=b:=by simp[within]
theorem zf{b:Ux}:within lo hi a b=UD↔¬ (a<=lo/\hi<=b):=by rw[<- U3,wP]
def iQ:Uw->T->Ux->Ux->Ux->Ux->Ux->T
 |n,t,lo,hi,a,b,u =>
  if apart lo hi a b then t
  else if within lo hi a b then mk (val t+u) (fst t) (snd t)
  else match n with
   |0=>t
   |n+1=>mk (val t) (iQ n (fst t) lo (bA lo hi) a b u) (iQ n (snd t) (bA lo hi) hi a b u)
def canon:Uw->(J Uv->Ux)->Ux->Ux->T
 |0,A,_,_=>mk (A []) .nil .nil
 |n+1,A,lo,hi =>
  if hi-lo<=1 then mk (A []) .nil .nil
  else mk (A []) (canon n (fun p=>A (UD :: p)) lo (bA lo hi)) (canon n (fun p=>A (UE :: p)) (bA lo hi) hi)
def ju:Ux->Ux->Ux->Ux->J Uv->Ux
 |lo,hi,a,b,[]=>if apart lo hi a b then 0 else if within lo hi a b then 1 else 0
 |lo,hi,a,b,UD :: p=>if apart lo hi a b then 0 else if within lo hi a b then 0 else ju lo (bA lo hi) a b p
 |lo,hi,a,b,UE :: p=>if apart lo hi a b then 0 else if within lo hi a b then 0 else ju (bA lo hi) hi a b p
theorem Fv{b:Ux}(h:apart lo hi a b=UE):∀ p,ju lo hi a b p=0
 |[]=>by simp[ju,h]
 |false :: p=>by simp[ju,h]
 |true :: p=>by simp[ju,h]
theorem Dw:∀ (p:J Uv)(lo hi a b:Ux),0<=ju lo hi a b p/\ju lo hi a b p<=1
 |[],lo,hi,a,b=>by simp only[ju];split <;> (try split) <;> omega
 |false :: p,lo,hi,a,b=>by
   simp only[ju];split
   .omega
   .split
    .omega
    .exact Dw p _ _ _ _
 |true :: p,lo,hi,a,b=>by
   simp only[ju];split
   .omega
   .split
    .omega
    .exact Dw p _ _ _ _
theorem EO(h:hi-lo<=2 ^ (n+1)):bA lo hi-lo<=2 ^ n/\hi-bA lo hi<=2 ^ n:=by unfold bA;rw[Int.pow_succ] at h;omega
theorem b5v:∀ {A B:J Uv->Ux}{lo hi:Ux},(∀ p,A p=B p)->canon n A lo hi=canon n B lo hi:=by intro A B lo hi h;rw[show A=B from funext h]
theorem b8T:∀ (n:Uw)(A:J Uv->Ux)(lo hi a b u:Ux),lo<hi->hi-lo<=2 ^ n->a<b ->iQ n (canon n A lo hi) lo hi a b u=canon n (fun p=>A p+u*ju lo hi a b p) lo hi:=by
 intro n;induction n with
 |zero =>
  intro A lo hi a b u q j i;have j:hi-lo<=1:=Uo;unfold iQ;split
  .rename_i h;simp[canon,Fv h]
  .rename_i h
   rw[U3,oI] at h;have d:within lo hi a b=UE:=wP.2 O;have g:apart lo hi a b=UD:=oI.2 h;rw[Uz d];simp[canon,ju,d,g]
 |succ n ih =>
  intro A lo hi a b u q j i;unfold iQ;split
  .rename_i h;exact b5v (by intro p;simp[Fv h])
  .rename_i h
   have g:apart lo hi a b=UD:=Uo;split
   .rename_i d
    simp only[canon];split
    .simp[ju,g,d]
    .simp[ju,g,d]
   .rename_i d
    have d:within lo hi a b=UD:=Uo;have s:=oI.1 g;have r:=zf.1 d;have m:¬ hi-lo<=1:=O;have k:lo<bA lo hi/\bA lo hi<hi:=by unfold bA;omega
    have l:=EO j;simp only[canon,Uy m,val_mk,fst_mk,snd_mk];rw[ih _ _ _ _ _ _ k.1 l.1 i,ih _ _ _ _ _ _ k.2 l.2 i];simp[ju,g,d]
def fh:T->Ux->Ux->Ux->Ux
 |.nil,_,_,_=>0
 |.node a l r,lo,hi,x=>a+if x<bA lo hi then fh l lo (bA lo hi) x else fh r (bA lo hi) hi x
theorem rC(a:Ux)(l r:T)(lo hi x:Ux):fh (mk a l r) lo hi x=a+if x<bA lo hi then fh l lo (bA lo hi) x else fh r (bA lo hi) hi x:=by unfold mk;split;rename_i h;rw[tV h.2.1,tV h.2.2];simp[fh,h.1];rfl
def Good:T->Ux->Ux->Prop
 |.nil,_,_=>True
 |.node a l r,lo,hi=>0<=a/\((isNil l=UE/\isNil r=UE)\/2<=hi-lo)/\Good l lo (bA lo hi)/\Good r (bA lo hi) hi
theorem Good.mk{l r:T}(i:0<=a)(h:(isNil l=UE/\isNil r=UE)\/2<=hi-lo)(g:Good l lo (bA lo hi))(d:Good r (bA lo hi) hi):Good (aL.mk a l r) lo hi:=by unfold aL.mk;split;trivial;exact⟨i,h,g,d⟩
theorem b8K:∀ (n:Uw)(A:J Uv->Ux)(lo hi:Ux),(∀ p,0<=A p)->Good (canon n A lo hi) lo hi:=by
 intro n;induction n with
 |zero=>intro A lo hi h;exact Good.mk (h _) (.inl ⟨rfl,rfl⟩) trivial trivial
 |succ n ih =>intro A lo hi h;simp only[canon];split;exact Good.mk (h _) (.inl ⟨rfl,rfl⟩) trivial trivial;exact Good.mk (h _) (.inr O) (ih _ _ _ (fun p=>h _)) (ih _ _ _ (fun p=>h _))
theorem b1L:∀ (n:Uw)(A:J Uv->Ux)(lo hi a b u x:Ux),lo<=x->x<hi->hi-lo<=2 ^ n->a<b ->fh (canon n (fun p=>A p+u*ju lo hi a b p) lo hi) lo hi x=fh (canon n A lo hi) lo hi x+if a<=x/\x<b then u else 0:=by
 intro n;induction n with
 |zero =>
  intro A lo hi a b u x r q k j;have k:hi-lo<=1:=Uo;simp only[canon,rC,fh,ju]
  cases d:apart lo hi a b
  .have i:=oI.1 d;have g:within lo hi a b=UE:=wP.2 O;rw[g,Uz (by omega:a<=x/\x<b)];simp
  .have i:=vu.1 d;rw[Uy (by omega:¬ (a<=x/\x<b))];simp
 |succ n ih =>
  intro A lo hi a b u x r q k j;simp only[canon];have l:=EO k
  cases d:apart lo hi a b
  .have i:=oI.1 d
   cases g:within lo hi a b
   .have s:=zf.1 g;have m:¬ hi-lo<=1:=O
    rw[Uy m,Uy m,rC,rC];simp only[ju,d,g];by_cases h:x<bA lo hi;rw[Uz h,Uz h];have:=ih (fun p=>A (UD :: p)) lo (bA lo hi) a b u x r h l.1 j;simp at this ⊢;omega;rw[Uy h,Uy h];have:=ih (fun p=>A (UE :: p)) (bA lo hi) hi a b u x O q l.2 j;simp at this ⊢;omega
   .have s:=wP.1 g;rw[Uz (by omega:a<=x/\x<b)]
    split;rw[rC,rC];simp[ju,d,g,fh];rw[rC,rC];simp[ju,d,g];omega
  .have i:=vu.1 d;rw[Uy (by omega:¬ (a<=x/\x<b))];simp[Fv d]
theorem b0h:∀ (n:Uw)(lo hi x:Ux),fh (canon n (fun _=>0) lo hi) lo hi x=0:=by
 intro n;induction n with
 |zero=>intro lo hi x;simp[canon,rC,fh]
 |succ n ih =>intro lo hi x;simp only[canon];split;simp[rC,fh];rw[rC,ih,ih];simp
theorem BB:∀ (t:T)(lo hi x:Ux),Good t lo hi->0<=fh t lo hi x:=by
 intro t;induction t with
 |nil=>intro lo hi x _;simp[fh]
 |node a l r ihl ihr =>intro lo hi x h;have i:=ihl lo (bA lo hi) x h.2.2.1;have g:=ihr (bA lo hi) hi x h.2.2.2;have d:=h.1;simp only[fh];split <;> omega
theorem wv{t:T}(h:isNil t=UE):top t=0/\bot t=0:=by rw[tV h];exact⟨rfl,rfl⟩
theorem wB{t:T}(h:isNil t=UE)(lo hi x:Ux):fh t lo hi x=0:=by rw[tV h];rfl
theorem yw:∀ (t:T)(lo hi:Ux),lo<hi->Good t lo hi->(∀ x,lo<=x->x<hi->fh t lo hi x<=top t)/\∃ x,lo<=x/\x<hi/\fh t lo hi x=top t:=by
 intro t;induction t with
 |nil=>intro lo hi h _;exact⟨fun x _ _=>by simp[fh,top],lo,O,h,rfl⟩
 |node a l r ihl ihr =>
  intro lo hi h g;rcases g.2.1 with ⟨j,i⟩|z
  .have m:=wv j;have k:=wv i;simp only[fh,top,wB j,wB i,m,k];exact⟨fun x _ _=>by grind,lo,O,h,by grind⟩
  .have d:lo<bA lo hi/\bA lo hi<hi:=by unfold bA;omega
   let⟨l1,x1,l2,l3,l4⟩:=ihl lo (bA lo hi) d.1 g.2.2.1;let⟨r1,x2,r2,r3,r4⟩:=ihr (bA lo hi) hi d.2 g.2.2.2;simp only[fh,top];refine⟨fun x s q=>?_,?_⟩
   .split
    .have:=l1 x s O;omega
    .have:=r1 x O q;omega
   .by_cases y:top r<=top l
    .exact⟨x1,l2,O,by grind⟩
    .exact⟨x2,O,r3,by grind⟩
theorem Ts:∀ (t:T)(lo hi:Ux),lo<hi->Good t lo hi->(∀ x,lo<=x->x<hi->bot t<=fh t lo hi x)/\∃ x,lo<=x/\x<hi/\fh t lo hi x=bot t:=by
 intro t;induction t with
 |nil=>intro lo hi h _;exact⟨fun x _ _=>by simp[fh,bot],lo,O,h,rfl⟩
 |node a l r ihl ihr =>
  intro lo hi h g;rcases g.2.1 with ⟨j,i⟩|z
  .have m:=wv j;have k:=wv i;simp only[fh,bot,wB j,wB i,m,k];exact⟨fun x _ _=>by grind,lo,O,h,by grind⟩
  .have d:lo<bA lo hi/\bA lo hi<hi:=by unfold bA;omega
   let⟨l1,x1,l2,l3,l4⟩:=ihl lo (bA lo hi) d.1 g.2.2.1;let⟨r1,x2,r2,r3,r4⟩:=ihr (bA lo hi) hi d.2 g.2.2.2;simp only[fh,bot];refine⟨fun x s q=>?_,?_⟩
   .split
    .have:=l1 x s O;omega
    .have:=r1 x O q;omega
   .by_cases y:bot l<=bot r
    .exact⟨x1,l2,O,by grind⟩
    .exact⟨x2,O,r3,by grind⟩
def ie:T->Ux->Ux->Ux->Ux->Ux
 |.nil,_,_,_,_=>0
 |.node c l r,lo,hi,a,b =>
  if apart lo hi a b then 0
  else if within lo hi a b then c+max (top l) (top r)
  else c+max (ie l lo (bA lo hi) a b) (ie r (bA lo hi) hi a b)
theorem Bo{t:T}{b:Ux}(h:apart lo hi a b=UE):ie t lo hi a b=0:=by
 cases t <;> simp[ie,h]
theorem Kw:∀ (t:T)(lo hi a b:Ux),lo<hi->a<b->Good t lo hi->apart lo hi a b=UD ->0<=ie t lo hi a b/\(∀ x,lo<=x->x<hi->a<=x->x<b->fh t lo hi x<=ie t lo hi a b)/\∃ x,lo<=x/\x<hi/\a<=x/\x<b/\fh t lo hi x=ie t lo hi a b:=by
 intro t;induction t with
 |nil =>intro lo hi a b h s _ m;have:=oI.1 m;exact⟨Int.le_refl _,fun x _ _ _ _=>by simp[fh,ie],max lo a,O,O,O,O,rfl⟩
 |node c l r ihl ihr =>
  intro lo hi a b h s g m;have E:=oI.1 m
  cases q:within lo hi a b
  .have A:=zf.1 q;have B:lo<bA lo hi/\bA lo hi<hi:=by unfold bA;omega
   have e:ie (.node c l r) lo hi a b=c+max (ie l lo (bA lo hi) a b) (ie r (bA lo hi) hi a b):=by simp[ie,m,q]
   have I:=g.1;rw[e];simp only[fh]
   cases pl:apart lo (bA lo hi) a b
   .let⟨l0,l1,x1,l2,l3,l4,l5,l6⟩:=ihl lo (bA lo hi) a b B.1 s g.2.2.1 pl
    cases pr:apart (bA lo hi) hi a b
    .let⟨r0,r1,x2,r2,r3,r4,r5,r6⟩:=ihr (bA lo hi) hi a b B.2 s g.2.2.2 pr;refine⟨O,fun x k j i d=>?_,?_⟩
     .split
      .have:=l1 x k O i d;omega
      .have:=r1 x O j i d;omega
     .by_cases H:ie r (bA lo hi) hi a b<=ie l lo (bA lo hi) a b
      .exact⟨x1,l2,O,l4,l5,by grind⟩
      .exact⟨x2,O,r3,r4,r5,by grind⟩
    .have C:=vu.1 pr;have z:=Bo (t:=r) pr;refine⟨O,fun x k j i d=>?_,x1,l2,O,l4,l5,by grind⟩;rw[Uz O];have:=l1 x k O i d;omega
   .have D:=vu.1 pl;have z:=Bo (t:=l) pl;have pr:apart (bA lo hi) hi a b=UD:=oI.2 O;let⟨r0,r1,x2,r2,r3,r4,r5,r6⟩:=ihr (bA lo hi) hi a b B.2 s g.2.2.2 pr;refine⟨O,fun x k j i d=>?_,x2,O,r3,r4,r5,by grind⟩;rw[Uy O];have:=r1 x O j i d;omega
  .have A:=wP.1 q;have e:ie (.node c l r) lo hi a b=top (.node c l r):=by simp[ie,m,q,top]
   let⟨t1,x,t2,t3,t4⟩:=yw (.node c l r) lo hi h g;rw[e];have:=BB (.node c l r) lo hi x g;exact⟨O,fun y k j _ _=>t1 y k j,x,t2,t3,O,O,t4⟩
def kR(d:Uv)(level:Ux)(t:T)(c:Ux):Uv:=if d then decide (level<c+top t) else decide (c+bot t<=level)
def want(d:Uv)(level x:Ux):Prop:=if d then level<x else x<=level
def fm(d:Uv)(level:Ux):T->Ux->Ux->Ux->Ux->Ux->Uu Ux
 |.nil,lo,hi,a,b,c=>if apart lo hi a b || !kR d level .nil c then Z else U (max lo a)
 |.node v l r,lo,hi,a,b,c =>
  if apart lo hi a b || !kR d level (.node v l r) c then Z
  else if isNil l && isNil r then U (max lo a)
  else match fm d level l lo (bA lo hi) a b (c+v) with
   |some x=>U x
   |none=>fm d level r (bA lo hi) hi a b (c+v)
theorem KQ{d:Uv}{t:T}(h:kR d level t c=UD)(i:lo<hi)(g:Good t lo hi):∀ x,lo<=x->x<hi->¬ want d level (c+fh t lo hi x):=by
 intro x k j
 cases d
 .have:=(Ts t lo hi i g).1 x k j;simp[kR,want] at h ⊢;omega
 .have:=(yw t lo hi i g).1 x k j;simp[kR,want] at h ⊢;omega
theorem L7{d:Uv}{t:T}(h:kR d level t c=UE)(g:∀ x,fh t lo hi x=val t)(ht:top t=val t)(i:bot t=val t):∀ x,want d level (c+fh t lo hi x):=by
 intro x;rw[g x]
 cases d
 .simp[kR,want,i] at h ⊢;omega
 .simp[kR,want,ht] at h ⊢;omega
def rA(P:Ux->Prop)(lo hi a b:Ux):Uu Ux->Prop
 |none=>∀ x,lo<=x->x<hi->a<=x->x<b->¬ P x
 |some x=>lo<=x/\x<hi/\a<=x/\x<b/\P x/\∀ y,lo<=y->y<x->a<=y->¬ P y
theorem Jh(d:Uv)(level:Ux):∀ (t:T)(lo hi a b c:Ux),lo<hi->a<b->Good t lo hi->rA (fun x=>want d level (c+fh t lo hi x)) lo hi a b (fm d level t lo hi a b c):=by
 intro t;induction t with
 |nil =>
  intro lo hi a b c h I g;unfold fm
  cases A:apart lo hi a b
  .have k:=oI.1 A
   cases z:kR d level .nil c
   .simp only[U4,U5,if_true];exact fun x H s _ _=>KQ z h g x H s
   .simp only[U4,U6,U7,if_false];exact⟨O,O,O,O,L7 z (fun _=>rfl) rfl rfl _,fun y _ _ _=>by omega⟩
  .have k:=vu.1 A;simp only[U8,if_true];exact fun x _ _ _ _=>by omega
 |node v l r ihl ihr =>
  intro lo hi a b c h I g;unfold fm
  cases A:apart lo hi a b
  .have k:=oI.1 A
   cases z:kR d level (.node v l r) c
   .simp only[U4,U5,if_true];exact fun x H s _ _=>KQ z h g x H s
   .simp only[U4,U6,U7,if_false]
    cases R:isNil l && isNil r
    .simp only[U7,if_false]
     have s:2<=hi-lo:=by
      rcases g.2.1 with ⟨E,D⟩|s
      .simp[E,D] at R
      .exact s
     have K:lo<bA lo hi/\bA lo hi<hi:=by unfold bA;omega
     have i:=ihl lo (bA lo hi) a b (c+v) K.1 I g.2.2.1;have q:=ihr (bA lo hi) hi a b (c+v) K.2 I g.2.2.2
     cases P:fm d level l lo (bA lo hi) a b (c+v) with
     |some x =>rw[P] at i;let⟨k1,k2,k3,k4,k5,k6⟩:=i;refine⟨k1,O,k3,k4,?_,fun y C B m=>?_⟩;show want d level (c+fh (.node v l r) lo hi x);simp only[fh];rw[Uz k2,<- U9];exact k5;show ¬ want d level (c+fh (.node v l r) lo hi y);simp only[fh];rw[Uz O,<- U9];exact k6 y C B m
     |none =>
      rw[P] at i;have i:=i
      cases L:fm d level r (bA lo hi) hi a b (c+v) with
      |some x =>
       rw[L] at q;let⟨k1,k2,k3,k4,k5,k6⟩:=q;refine⟨O,k2,k3,k4,?_,fun y C B m=>?_⟩
       .show want d level (c+fh (.node v l r) lo hi x);simp only[fh];rw[Uy O,<- U9];exact k5
       .show ¬ want d level (c+fh (.node v l r) lo hi y);simp only[fh]
        by_cases j:y<bA lo hi
        .rw[Uz j,<- U9];exact i y C j m O
        .rw[Uy j,<- U9];exact k6 y O B m
      |none =>rw[L] at q;have q:=q;intro y C B m Q;show ¬ want d level (c+fh (.node v l r) lo hi y);simp only[fh];by_cases j:y<bA lo hi;rw[Uz j,<- U9];exact i y C j m Q;rw[Uy j,<- U9];exact q y O B m Q
    .simp only[if_true];have E:isNil l=UE:=Uo
     have D:isNil r=UE:=Uo;have W:=wv E;have S:=wv D;refine⟨O,O,O,O,?_,fun y _ _ _=>by omega⟩;exact L7 z (fun x=>by simp only[fh,val,wB E,wB D];split <;> omega) (by simp only[top,val];omega) (by simp only[bot,val];omega) _
  .have k:=vu.1 A;simp only[U8,if_true];exact fun x _ _ _ _=>by omega
end aL
def eC(w:UF):aL.T->UG->J Uw->Prop
 |.nil,p,F=>p=UM Z/\F=[]
 |.node a l r,p,F=>∃ (b:Uw) (pl pr:Uu UJ) (Fl Fr:J Uw),p=UM (U ⟨b,0,Z⟩)/\w.cell? ⟨b,0,Z⟩=U (V Y a)/\w.cell? ⟨b,1,Z⟩=U (V Y (aL.top (.node a l r)))/\w.cell? ⟨b,2,Z⟩=U (V Y (aL.bot (.node a l r)))/\w.cell? ⟨b,3,Z⟩=U (UM pl)/\w.cell? ⟨b,4,Z⟩=U (UM pr)/\(∀ o,w.frozen? ⟨b,o,Z⟩=UD)/\eC w l (UM pl) Fl/\eC w r (UM pr) Fr/\F=b :: (Fl++Fr)/\F.Nodup
theorem eC.lt{w:UF}:∀ {t:aL.T}{p:UG}{F:J Uw},eC w t p F->∀ k∈F,k<w
 |.nil,p,F,h,k,d=>by rw[h.2] at d;cases d
 |.node a l r,p,F,h,k,d=>by
  obtain⟨b,pl,pr,Fl,Fr,rfl,j,z,y,x,s,q,i,g,rfl,m⟩:=h;rcases Va.1 d with rfl|d
  .exact U1 _ _ j
  .rcases Vb.1 d with d|d
   .exact eC.lt i k d
   .exact eC.lt g k d
theorem eC.off{G:J Uw}{w w':UF}(h:aH G w w'):∀ {t:aL.T}{p:UG}{F:J Uw},eC w t p F->(∀ k∈F,k ∉ G)->eC w' t p F
 |.nil,p,F,g,_=>g
 |.node a l r,p,F,g,hd=>by obtain⟨b,pl,pr,Fl,Fr,rfl,j,A,z,y,x,s,q,g,rfl,m⟩:=g;have d:=hd b Ui;exact⟨b,pl,pr,Fl,Fr,rfl,h.cell d j,h.cell d A,h.cell d z,h.cell d y,h.cell d x,fun o=>(h.frozen d (U1 _ _ j)).trans (s o),eC.off h q (fun k i=>hd k (by simp[i])),eC.off h g (fun k i=>hd k (by simp[i])),rfl,m⟩
theorem eC.same{t:aL.T}(h:eC w t p F)(k:aH [] w w'):eC w' t p F:=h.off k (fun _ _=>by simp)
theorem eC.nodup{t:aL.T}(h:eC w t p F):F.Nodup:=by
 cases t with
 |nil=>rw[h.2];exact Vc
 |node a l r=>let⟨b,_,_,_,_,_,_,_,_,_,_,_,_,_,_,nd⟩:=h;exact nd
structure eo(w:UF)(b:Uw)(c:Ux)(l r:aL.T)(pl pr:Uu UJ)(Fl Fr:J Uw):Prop where
 c0:w.cell? (b,0)=U ↑c
 c1:∃ x,w.cell? (b,1)=U (V Y x)
 c2:∃ x,w.cell? (b,2)=U (V Y x)
 c3:w.cell? (b,3)=U ↑pl
 c4:w.cell? (b,4)=U ↑pr
 fz:∀ o,w.frozen? ⟨b,o,Z⟩=UD
 l:eC w l pl Fl
 r:eC w r pr Fr
 nd:(b :: (Fl++Fr)).Nodup
def LB:aL.T->Prop
 |.nil=>True
 |.node a l r=>(-1000000<=a/\a<=1000000)/\(-100000000<=aL.top (.node a l r)/\aL.top (.node a l r)<=100000000)/\(-100000000<=aL.bot (.node a l r)/\aL.bot (.node a l r)<=100000000)/\LB l/\LB r
theorem LB.top{t:aL.T}(h:LB t):-100000000<=aL.top t/\aL.top t<=100000000:=by
 cases t with
 |nil=>simp[aL.top]
 |node a l r=>exact h.2.1
theorem LB.bot{t:aL.T}(h:LB t):-100000000<=aL.bot t/\aL.bot t<=100000000:=by
 cases t with
 |nil=>simp[aL.bot]
 |node a l r=>exact h.2.2.1
theorem LB.val{t:aL.T}(h:LB t):-1000000<=aL.val t/\aL.val t<=1000000:=by
 cases t with
 |nil=>simp[aL.val]
 |node a l r=>exact h.1
theorem LB.fst{t:aL.T}(h:LB t):LB (aL.fst t):=by
 cases t with
 |nil=>trivial
 |node a l r=>exact h.2.2.2.1
theorem LB.snd{t:aL.T}(h:LB t):LB (aL.snd t):=by
 cases t with
 |nil=>trivial
 |node a l r=>exact h.2.2.2.2
theorem LB.mk{l r:aL.T}(h:LB (aL.mk a l r)):(-1000000<=a/\a<=1000000)/\LB l/\LB r:=by have i:=h.val;have g:=h.fst;have d:=h.snd;simp at i g d;exact⟨i,g,d⟩
theorem pT(lo hi a b:Ux)(w:UF):UI prog 227 #[UT #[lo,hi],UT #[a,b]] w fun e w'=>e=UW (aL.apart lo hi a b)/\UH w w w':=by
 by_cases d:hi<=a
 .go_in
  go_wp2;go_ret;exact⟨qH (by simp[aL.apart,d]),aS.alloc Ui _⟩
 .by_cases g:b<=lo
  all_goals go_in;go_wp2;go_ret;exact⟨qH (by simp[aL.apart];omega),aS.alloc Ui _⟩
theorem wS(lo hi a b:Ux)(w:UF):UI prog 228 #[UT #[lo,hi],UT #[a,b]] w fun e w'=>e=UW (aL.within lo hi a b)/\UH w w w':=by
 by_cases g:a<=lo
 .by_cases d:hi<=b
  all_goals go_in;go_wp2;go_ret;exact⟨qH (by simp[aL.within];omega),aS.alloc Ui _⟩
 .go_in
  go_wp2;go_ret;exact⟨qH (by simp[aL.within];omega),aS.alloc Ui _⟩
theorem c2M(w:UF):UI prog 201 #[UM Z] w fun e w'=>e=UW (V Y 0)/\w'=w:=by
 go_in;go_wp2;go_ret;exact⟨rfl,rfl⟩
theorem c0r(b:Uw)(x:Ux)(w:UF)(d:w.cell? (b,1)=U ↑x):UI prog 201 #[b] w fun e w'=>e=UW x/\w'=w:=by
 go_in;go_wp2;go_ret;exact⟨rfl,rfl⟩
theorem yK{t:aL.T}(w:UF)(h:eC w t u F):UI prog 201 #[u] w fun e w'=>e=UW (V Y (aL.top t))/\w'=w:=by
 cases t with
 |nil=>let⟨h1,_⟩:=h;cases h1;exact c2M w
 |node a l r=>let⟨b,pl,pr,Fl,Fr,hp,c0,c1,_⟩:=h;cases hp;exact c0r b _ w c1
theorem c2V(w:UF):UI prog 203 #[UM Z] w fun e w'=>e=UW (V Y 0)/\w'=w:=by
 go_in;go_wp2;go_ret;exact⟨rfl,rfl⟩
theorem c0y(b:Uw)(x:Ux)(w:UF)(d:w.cell? (b,2)=U ↑x):UI prog 203 #[b] w fun e w'=>e=UW x/\w'=w:=by
 go_in;go_wp2;go_ret;exact⟨rfl,rfl⟩
theorem yJ{t:aL.T}(w:UF)(h:eC w t u F):UI prog 203 #[u] w fun e w'=>e=UW (V Y (aL.bot t))/\w'=w:=by
 cases t with
 |nil=>let⟨h1,_⟩:=h;cases h1;exact c2V w
 |node a l r=>let⟨b,pl,pr,Fl,Fr,hp,c0,c1,c2,_⟩:=h;cases hp;exact c0y b _ w c2
theorem b8t(w:UF):UI prog 230 #[UM Z] w fun e w'=>e=UW UE/\w'=w:=by
 go_in;go_wp2;go_ret;exact⟨rfl,rfl⟩
def uK(pl pr:Uu UJ):Uv:=pl.isNone && pr.isNone
theorem F0(b:Uw)(pl pr:Uu UJ)(w:UF)(g:w.cell? (b,3)=U ↑pl)(d:w.cell? (b,4)=U ↑pr):UI prog 230 #[b] w fun e w'=>e=UW (uK pl pr)/\w'=w:=by
 cases pl with
 |none =>
  cases pr with
  |none =>go_in;go_wp2;go_ret;exact⟨rfl,rfl⟩
  |some q =>go_in;go_wp2;go_ret;exact⟨rfl,rfl⟩
 |some q =>go_in;go_wp2;go_ret;exact⟨rfl,rfl⟩
theorem eC.isNone{t:aL.T}(h:eC w t u F):u.isNone=aL.isNil t:=by
 cases t with
 |nil=>let⟨h1,_⟩:=h;cases h1;rfl
 |node a l r=>let⟨b,pl,pr,Fl,Fr,hp,_⟩:=h;cases hp;rfl
theorem Br(lo hi:Ux)(w:UF)(h:0<=lo)(g:lo<=hi)(d:hi<=2000000):UI prog 229 #[UT #[lo,hi]] w fun e w'=>e=UW (US #[UT #[lo,V Y (aL.bA lo hi)],UT #[V Y (aL.bA lo hi),hi]])/\UH w w w':=by
 go_in;go_wp2;go_region;all_goals go_wp2;refine bodyPost_ret (v:=US #[UT #[lo,V Y (aL.bA lo hi)],UT #[V Y (aL.bA lo hi),hi]]) (by simp[results,results229,go_sem,aL.bA]) rfl ⟨rfl,?_⟩;exact ((aS.alloc Ui _).alloc Un _).drew
theorem eo.off{l r:aL.T}(h:eo w b c l r pl pr Fl Fr)(k:aH G w w')(d:b ∉ G)(i:∀ x∈Fl,x ∉ G)(g:∀ x∈Fr,x ∉ G):eo w' b c l r pl pr Fl Fr :=⟨k.cell d h.c0,h.c1.imp (fun _=>k.cell d),h.c2.imp (fun _=>k.cell d),k.cell d h.c3,k.cell d h.c4,fun o=>(k.frozen d (U1 _ _ h.c0)).trans (h.fz o),h.l.off k i,h.r.off k g,h.nd⟩
theorem eo.drew{l r:aL.T}(h:eo w b c l r pl pr Fl Fr):eo w.drew b c l r pl pr Fl Fr :=h.off (G:=[]) (aH.refl _ _).drew Ui Ui Ui
theorem eo.out{l r:aL.T}(h:eo w b c l r pl pr Fl Fr):(∀ x∈Fl,x ∉ [b])/\(∀ x∈Fr,x ∉ [b]):=by have d:=h.nd;rw[Vd] at d;refine⟨fun x g=>?_,fun x g=>?_⟩ <;> (simp;rintro rfl;exact d.1 (by simp[g]))
theorem eo.pY{l r:aL.T}(h:eo w b c l r pl pr Fl Fr)(x:Ux):eo (w.setCell (b,1) x) b c l r pl pr Fl Fr:=by let⟨x1,h1⟩:=h.c1;exact⟨(bC Ui).trans h.c0,⟨x,Ve _ _ _ h1⟩,h.c2.imp (fun _ e=>(bC Ui).trans e),(bC Ui).trans h.c3,(bC Ui).trans h.c4,fun o=>(zF ..).trans (h.fz o),h.l.off (aH.bM ..) h.out.1,h.r.off (aH.bM ..) h.out.2,h.nd⟩
theorem eo.pX{l r:aL.T}(h:eo w b c l r pl pr Fl Fr)(x:Ux):eo (w.setCell (b,2) x) b c l r pl pr Fl Fr:=by let⟨x1,h1⟩:=h.c2;exact⟨(bC Ui).trans h.c0,h.c1.imp (fun _ e=>(bC Ui).trans e),⟨x,Ve _ _ _ h1⟩,(bC Ui).trans h.c3,(bC Ui).trans h.c4,fun o=>(zF ..).trans (h.fz o),h.l.off (aH.bM ..) h.out.1,h.r.off (aH.bM ..) h.out.2,h.nd⟩
theorem eo.done{l r:aL.T}(h:eo w b c l r pl pr Fl Fr)(d:w.cell? (b,1)=U (V Y (c+max (aL.top l) (aL.top r)))):eC (w.setCell (b,2) (V Y (c+min (aL.bot l) (aL.bot r)))) (.node c l r) b (b :: (Fl++Fr)):=by
 have k:=h.pX (c+min (aL.bot l) (aL.bot r));let⟨x2,h2⟩:=h.c2;exact⟨b,pl,pr,Fl,Fr,rfl,k.c0,(bC Ui).trans d,Ve _ _ _ h2,k.c3,k.c4,k.fz,k.l,k.r,rfl,h.nd⟩
theorem b4E(w:UF)(b:Uw)(l r:aL.T)(pl pr:Uu UJ)(Fl Fr:J Uw)(h:eo w b 0 l r pl pr Fl Fr)(g:aL.isNil l=UE)(d:aL.isNil r=UE):UI prog 247 #[b] w fun e w'=>e=UW (UM Z)/\w'=w:=by
 have j:=h.c0;have i:uK pl pr=UE:=by rw[uK,h.l.isNone,h.r.isNone,g,d];rfl
 go_in;go_wp2_with (go_at_call 230;refine aY (F0 _ pl pr _ h.c3 h.c4) ?_);go_ret;exact⟨rfl,rfl⟩
theorem tK{l r:aL.T}(h:eo w b c l r pl pr Fl Fr):w.cell? (b,0)=U ↑c/\w.cell? (b,3)=U ↑pl/\w.cell? (b,4)=U ↑pr/\eo w b c l r pl pr Fl Fr:=⟨h.c0,h.c3,h.c4,h⟩
theorem b2M(w:UF)(b:Uw)(c:Ux)(l r:aL.T)(pl pr:Uu UJ)(Fl Fr:J Uw)(h:eo w b c l r pl pr Fl Fr)(D:¬ (c=0/\aL.isNil l=UE/\aL.isNil r=UE))
  (W:-1000000<=c/\c<=1000000) (E:LB l) (C:LB r):
  UI prog 247 #[b] w fun e w'=>e=UW b/\eC w' (.node c l r) b (b :: (Fl++Fr))/\aH [b] w w':=by
 have c0:=h.c0;obtain⟨S,R⟩:=W;have t1:=E.top;have t2:=C.top;have t3:=E.bot;have t4:=C.bot;have A:c=0->uK pl pr=UD:=by
  rw[uK,h.l.isNone,h.r.isNone]
  cases hx:aL.isNil l <;> cases hy:aL.isNil r <;> simp_all
 have f1:=h.fz 1;have H:=h.fz 2;obtain⟨x1,c1⟩:=h.c1;obtain⟨B,L⟩:=h.c2;have K:Y.wrap (c+if aL.top l<aL.top r then aL.top r else aL.top l)=c+max (aL.top l) (aL.top r):=by rw[DG];exact dJ O O
 have I:Y.wrap (c+if aL.bot r<aL.bot l then aL.bot r else aL.bot l)=c+min (aL.bot l) (aL.bot r):=by rw[Te];exact dJ O O
 have Q:=aB K;have P:=aB I;have q:eo ((w.setCell (b,1) (V Y (c+max (aL.top l) (aL.top r)))).drew) b c l r pl pr Fl Fr:=(h.pY _).drew;have m:((w.setCell (b,1) (V Y (c+max (aL.top l) (aL.top r)))).drew).cell? (b,1)=U (V Y (c+max (aL.top l) (aL.top r))):=zm _ _ _ c1;have k:aH [b] w ((w.setCell (b,1) (V Y (c+max (aL.top l) (aL.top r)))).drew):=(aH.bM b w _ _).drew;have y:=aB (Vf q (Vf m k));clear K I q m k;by_cases j:c=0
 .have e2:=A j;have z:(c==0)=UE:=by simp[j]
  clear D A j;go_in;go_wp2_with (go_at_call 230;refine aY (F0 _ pl pr _ h.c3 h.c4) ?_);go_region_held3 (fun w'=>w'.cell? (b,0)=U ↑c/\w'.cell? (b,3)=U ↑pl/\w'.cell? (b,4)=U ↑pr/\eo w' b c l r pl pr Fl Fr)
   (first
    |exact tK (eo.drew h)
    |exact tK (eo.drew (eo.pY h _)))
   (first
    |(go_at_call_of 201 (UM pl);go_split_ands;refine aY (yK _ (eo.l Uk)) ?_)
    |(go_at_call_of 201 (UM pr);go_split_ands;refine aY (yK _ (eo.r Uk)) ?_))
  rw[Q.out,vX];obtain⟨d,x,i⟩:=y.out;clear y;generalize (Vg _ ⟨b,1,Z⟩ (V Y (c+max (aL.top l) (aL.top r)))).drew=X at d x i ⊢;have H:=d.fz 2;obtain⟨B,L⟩:=d.c2;go_wp21;go_region_held3 (fun w'=>w'.cell? (b,0)=U ↑c/\w'.cell? (b,3)=U ↑pl/\w'.cell? (b,4)=U ↑pr/\eo w' b c l r pl pr Fl Fr)
   (first
    |exact tK (eo.drew d)
    |exact tK (eo.drew (eo.pX d _)))
   (first
    |(go_at_call_of 203 (UM pl);go_split_ands;refine aY (yJ _ (eo.l Uk)) ?_)
    |(go_at_call_of 203 (UM pr);go_split_ands;refine aY (yJ _ (eo.r Uk)) ?_))
  rw[P,JH];have t:=d.done x;have g:aH [b] _ (Vg X (b,2) (V Y (c+min (aL.bot l) (aL.bot r)))).drew:=(i.setCell (.inl Ui) _ _).drew;have s:=aB (Vf (t.same (aH.refl _ _).drew) g);clear t g;go_wp21;go_ret;exact⟨rfl,s.out.1,s.out.2⟩
 .have z:(c==0)=UD:=by simp[j]
  clear D A j;go_in;go_wp21;go_region_held3 (fun w'=>w'.cell? (b,0)=U ↑c/\w'.cell? (b,3)=U ↑pl/\w'.cell? (b,4)=U ↑pr/\eo w' b c l r pl pr Fl Fr)
   (first
    |exact tK (eo.drew h)
    |exact tK (eo.drew (eo.pY h _)))
   (first
    |(go_at_call_of 201 (UM pl);go_split_ands;refine aY (yK _ (eo.l Uk)) ?_)
    |(go_at_call_of 201 (UM pr);go_split_ands;refine aY (yK _ (eo.r Uk)) ?_))
  rw[Q.out,vX];obtain⟨d,x,i⟩:=y.out;clear y;generalize (Vg _ ⟨b,1,Z⟩ (V Y (c+max (aL.top l) (aL.top r)))).drew=X at d x i ⊢;have H:=d.fz 2;obtain⟨B,L⟩:=d.c2;go_wp21;go_region_held3 (fun w'=>w'.cell? (b,0)=U ↑c/\w'.cell? (b,3)=U ↑pl/\w'.cell? (b,4)=U ↑pr/\eo w' b c l r pl pr Fl Fr)
   (first
    |exact tK (eo.drew d)
    |exact tK (eo.drew (eo.pX d _)))
   (first
    |(go_at_call_of 203 (UM pl);go_split_ands;refine aY (yJ _ (eo.l Uk)) ?_)
    |(go_at_call_of 203 (UM pr);go_split_ands;refine aY (yJ _ (eo.r Uk)) ?_))
  rw[P,JH];have t:=d.done x;have g:aH [b] _ (Vg X (b,2) (V Y (c+min (aL.bot l) (aL.bot r)))).drew:=(i.setCell (.inl Ui) _ _).drew;have s:=aB (Vf (t.same (aH.refl _ _).drew) g);clear t g;go_wp21;go_ret;exact⟨rfl,s.out.1,s.out.2⟩
structure S4(w w1:UF)(lo hi a b:Ux):Prop where
 q0:w1.cell? (w,0)=U ↑lo
 q1:w1.cell? (w,1)=U ↑hi
 q2:w1.cell? (w.heap.size+1,0)=U ↑a
 q3:w1.cell? (w.heap.size+1,1)=U ↑b
 sz:w+1<w1.heap.size
 bw:UH w w w1
theorem boxes{b:Ux}(h:UH ((w.alloc (UX #[lo,hi] 83)).alloc (UX #[a,b] 83)).heap.size ((w.alloc (UX #[lo,hi] 83)).alloc (UX #[a,b] 83)) w1):S4 w w1 lo hi a b:=by have e:((w.alloc (UX #[lo,hi] 83)).alloc (UX #[a,b] 83)).heap.size=w.heap.size+2:=Ui;refine⟨(h.cell (p:=(w,0)) ?_).trans ?_,(h.cell (p:=(w,1)) ?_).trans ?_,(h.cell (p:=(w.heap.size+1,0)) ?_).trans ?_,(h.cell (p:=(w.heap.size+1,1)) ?_).trans ?_,?_,?_⟩;rw[e];show w.heap.size<_;omega;simp;rw[e];show w.heap.size<_;omega;simp;rw[e];show w.heap.size+1<_;omega;simp;rw[e];show w.heap.size+1<_;omega;simp;have:=h.size;omega;exact (aS.alloc Ui _).trans (h.mono O)
def tH(w:UF)(F:J Uw)(d:aL.T)(e:Ending)(w':UF):Prop :=∃ (u:Uu UJ) (F':J Uw),e=UW u/\eC w' d u F'/\(∀ k∈F',k∈F\/w<=k)/\aH F w w'
theorem Lj(t:aL.T)(u:Uu UJ)(F:J Uw)(lo hi a b x:Ux)(n:Uw)(w:UF)(h:eC w t u F)(d:aL.apart lo hi a b=UE):UI prog 231 #[u,UT #[lo,hi],UT #[a,b],x] w (tH w F (aL.iQ n t lo hi a b x)):=by
 have e:aL.iQ n t lo hi a b x=t:=by unfold aL.iQ;rw[Uz d]
 rw[e];clear e;go_in;go_wp21;refine aK (pT _ _ _ _ _) fun w1 g=>?_;rw[d];have i:=(aS.alloc Ui _).trans (g.mono Un);have j:=aB i;clear i g;go_wp21;go_ret;exact⟨u,F,rfl,h.same (aH.aD j),fun k l=>.inl l,aH.aD j⟩
theorem Ko(w:UF)(c:Ux):eo (w.alloc (UX #[c,V Y 0,V Y 0,UM Z,UM Z] 320)) w c .nil .nil Z Z [] [] :=⟨by simp,⟨0,by simp⟩,⟨0,by simp⟩,by simp,by simp,fun o=>World.frozen?_alloc_new w _ _ o,⟨rfl,rfl⟩,⟨rfl,rfl⟩,by simp⟩
theorem yE{l r:aL.T}(h:eC w (.node c l r) u F):∃ (b:Uw)(pl pr:Uu UJ)(Fl Fr:J Uw),u=U ⟨b,0,Z⟩/\F=b :: (Fl++Fr)/\eo w b c l r pl pr Fl Fr:=by
 let⟨b,pl,pr,Fl,Fr,hp,c0,c1,c2,c3,c4,fz,hl,hr,hF,nd⟩:=h
 cases hp;exact⟨b,pl,pr,Fl,Fr,rfl,hF,c0,⟨_,c1⟩,⟨_,c2⟩,c3,c4,fz,hl,hr,hF ▸ nd⟩
theorem Bq(w:UF)(b:Uw)(c:Ux)(l r:aL.T)(pl pr:Uu UJ)(Fl Fr:J Uw)(h:eo w b c l r pl pr Fl Fr)(s:LB (aL.mk c l r)):UI prog 247 #[b] w fun e w'=>∃ (u:Uu UJ) (F':J Uw),e=UW u/\eC w' (aL.mk c l r) u F'/\(∀ k∈F',k∈b :: (Fl++Fr))/\aH [b] w w':=by
 let⟨b1,b2,b3⟩:=s.mk;by_cases d:c=0/\aL.isNil l=UE/\aL.isNil r=UE
 .have e:aL.mk c l r=.nil:=by unfold aL.mk;rw[Uz d]
  rw[e];obtain⟨rfl,i,g⟩:=d;refine aY (b4E w b l r pl pr Fl Fr h i g) ?_;exact⟨Z,[],rfl,⟨rfl,rfl⟩,by simp,aH.refl _ _⟩
 .have e:aL.mk c l r=.node c l r:=by unfold aL.mk;rw[Uy d]
  rw[e];refine aK (b2M w b c l r pl pr Fl Fr h d b1 b2 b3) ?_;rintro w' ⟨m,j⟩;exact⟨_,_,rfl,m,fun _ q=>q,j⟩
theorem eo.bM{l r:aL.T}(h:eo w b c l r pl pr Fl Fr)(x:Ux):eo (w.setCell (b,0) x) b x l r pl pr Fl Fr :=⟨zm _ _ _ h.c0,h.c1.imp (fun _ e=>(bC Ui).trans e),h.c2.imp (fun _ e=>(bC Ui).trans e),(bC Ui).trans h.c3,(bC Ui).trans h.c4,fun o=>(zF ..).trans (h.fz o),h.l.off (aH.bM ..) h.out.1,h.r.off (aH.bM ..) h.out.2,h.nd⟩
theorem A3{d:aL.T}(m:aH F w w1)(h:∀ k∈G,k∈F\/w<=k)(r:b∈G)(l:eC w2 d u F')(j:∀ k∈F',k∈G)(i:aH [b] w1 w2):tH w F d (UW u) w2 :=⟨u,F',rfl,l,fun k g=>h k (j k g),m.trans' i (fun x q=>by grind)⟩
theorem LO(t:aL.T)(u:Uu UJ)(F:J Uw)(lo hi a b x:Ux)(n:Uw)(w:UF)(h:eC w t u F)(E:aL.apart lo hi a b=UD)(D:aL.within lo hi a b=UE)
  (Q:-1000000<=x) (P:x<=1000000) (A:LB t) (g:LB (aL.iQ n t lo hi a b x)):
  UI prog 231 #[u,UT #[lo,hi],UT #[a,b],x] w (tH w F (aL.iQ n t lo hi a b x)):=by
 have e:aL.iQ n t lo hi a b x=aL.mk (aL.val t+x) (aL.fst t) (aL.snd t):=by unfold aL.iQ;rw[Uy (by simp[E]),Uz D]
 rw[e] at g ⊢;have L:=A.val;clear e A
 cases t with
 |nil =>
  obtain⟨R,rfl⟩:=h
  cases R;simp only[aL.val,aL.fst,aL.snd,Vh] at g L ⊢;go_in;go_wp21;refine aK (pT _ _ _ _ _) fun w1 d=>?_;rw[E];have B:=boxes d;have ⟨q0,q1,q2,q3,hs,hB⟩:=B;have C:=aB hB;have j:w<w1.heap.size:=O;clear hB d B;go_wp21;refine aK (wS _ _ _ _ _) fun w2 d=>?_;rw[D];have i:=(Ko w1 0).off (G:=[]) (aH.aD d) Ui Ui Ui;have z:aH [] w w2:=(((aH.aD C).alloc _).trans (aH.aD d));have hz:w<=w1.heap.size:=O;have m:∀ k∈w1.heap.size :: ([]++[]),k∈([]:J Uw)\/w<=k:=by simp;omega
  have I:=i.c0;have H:=i.fz 0;clear d q0 q1 q2 q3 hs j;go_wp21;refine (Bq _ _ _ _ _ _ _ _ _ (i.bM _) g).mono ?_;rintro e w3 ⟨u3,F3,rfl,y,s,q⟩;have K:=aB (A3 (z.setCell (m _ Ui) _ _) m Ui y s q);clear y s q i z m I H;go_wp21;go_ret;exact K
 |node c l r =>obtain⟨bk,pl,pr,Fl,Fr,rfl,rfl,W⟩:=yE h;simp only[aL.val,aL.fst,aL.snd] at g L ⊢;go_in;go_wp21;refine aK (pT _ _ _ _ _) fun w1 d=>?_;rw[E];have B:=boxes d;have ⟨q0,q1,q2,q3,hs,hB⟩:=B;have C:=aB hB;have j:w<w1.heap.size:=O;clear hB d B;go_wp21;refine aK (wS _ _ _ _ _) fun w2 d=>?_;rw[D];have i:=W.off (G:=[]) ((aH.aD C).trans (aH.aD d)) Ui Ui Ui;have z:aH (bk :: (Fl++Fr)) w w2:=(aH.aD C).trans (aH.aD d);have m:∀ k∈bk :: (Fl++Fr),k∈bk :: (Fl++Fr)\/w<=k:=fun _ S=>.inl S;have I:=i.c0;have H:=i.fz 0;clear d q0 q1 q2 q3 hs j;go_wp21;refine (Bq _ _ _ _ _ _ _ _ _ (i.bM _) g).mono ?_;rintro e w3 ⟨u3,F3,rfl,y,s,q⟩;have K:=aB (A3 (z.setCell (m _ Ui) _ _) m Ui y s q);clear y s q i z m I H;go_wp21;go_ret;exact K
theorem eo.lt{l r:aL.T}(h:eo w b c l r pl pr Fl Fr):∀ k∈b :: (Fl++Fr),k<w:=by
 intro k d;rcases Va.1 d with rfl|d
 .exact U1 _ _ h.c0
 .rcases Vb.1 d with d|d
  .exact h.l.lt k d
  .exact h.r.lt k d
theorem eo.kD{l r:aL.T}(h:eo w b c l r pl pr Fl Fr):b ∉ Fl/\b ∉ Fr/\(∀ x∈Fr,x ∉ Fl)/\Fl.Nodup/\Fr.Nodup:=by have d:=h.nd;rw[Vd,Vi] at d;let⟨n1,n2,n3,n4⟩:=d;exact⟨fun e=>n1 (by simp[e]),fun e=>n1 (by simp[e]),fun x i g=>n4 x g x i rfl,n2,n3⟩
theorem eo.mI{l r q:aL.T}(h:eo X b c l r pl pr Fl Fr)(t:eC w4 q u F')(s:∀ k∈F',k∈Fl\/X<=k)(d:aH Fl X w4):eo (w4.setCell (b,3) u) b c q r u pr F' Fr:=by
 let⟨n1,n2,n3,n4,n5⟩:=h.kD;have g:=h.lt;have C:b ∉ F':=fun e=>by rcases s b e with j|j;exact n1 j;have:=g b Ui;omega
 have B:∀ x∈Fr,x ∉ F':=fun x i e=>by rcases s x e with j|j;exact n3 x i j;have:=g x (by simp[i]);omega
 have z:=aH.bM b w4 3 u;have m:=h.r.off d n3;exact⟨(bC Ui).trans (d.cell n1 h.c0),h.c1.imp (fun _ e=>(bC Ui).trans (d.cell n1 e)),h.c2.imp (fun _ e=>(bC Ui).trans (d.cell n1 e)),Ve _ _ _ (d.cell n1 h.c3),(bC Ui).trans (d.cell n1 h.c4),
  fun o=>(zF ..).trans ((d.frozen n1 (g b Ui)).trans (h.fz o)),t.off z (fun x i=>by grind),m.off z (fun x i=>by grind),
  Vd.2 ⟨by grind,Vi.2 ⟨t.nodup,n5,fun x i y A e=>B y A (e ▸ i)⟩⟩⟩
theorem eo.lA{l r q:aL.T}(h:eo X b c l r pl pr Fl Fr)(t:eC w4 q u F')(s:∀ k∈F',k∈Fr\/X<=k)(g:aH Fr X w4):eo (w4.setCell (b,4) u) b c l q pl u Fl F':=by
 let⟨n1,n2,n3,n4,n5⟩:=h.kD;have i:=h.lt;have C:b ∉ F':=fun e=>by rcases s b e with j|j;exact n2 j;have:=i b Ui;omega
 have B:∀ x∈Fl,x ∉ F':=fun x d e=>by rcases s x e with j|j;exact n3 x j d;have:=i x (by simp[d]);omega
 have z:=aH.bM b w4 4 u;have m:=h.l.off g (fun x d e=>n3 x e d);exact⟨(bC Ui).trans (g.cell n2 h.c0),h.c1.imp (fun _ e=>(bC Ui).trans (g.cell n2 e)),h.c2.imp (fun _ e=>(bC Ui).trans (g.cell n2 e)),(bC Ui).trans (g.cell n2 h.c3),Ve _ _ _ (g.cell n2 h.c4),
  fun o=>(zF ..).trans ((g.frozen n2 (i b Ui)).trans (h.fz o)),m.off z (fun x d=>by grind),t.off z (fun x d=>by grind),
  Vd.2 ⟨by grind,Vi.2 ⟨n4,t.nodup,fun x d y A e=>B x d (e ▸ A)⟩⟩⟩
structure pf(w X:UF)(F:J Uw)(bk M:Uw)(c lo hi a b:Ux)(l r:aL.T)(pl pr:Uu UJ)(Fl Fr:J Uw):Prop where
 half:eo X bk c l r pl pr Fl Fr
 off:aH F w X
 own:∀ k∈bk :: (Fl++Fr),k∈F\/w<=k
 a0:X.cell? (w.heap.size+1,0)=U ↑a
 a1:X.cell? (w.heap.size+1,1)=U ↑b
 m0:X.cell? (M,0)=U ↑lo
 m1:X.cell? (M,1)=U (V Y (aL.bA lo hi))
 n0:X.cell? (M+1,0)=U (V Y (aL.bA lo hi))
 n1:X.cell? (M+1,1)=U ↑hi
 out:w.heap.size+1 ∉ bk :: (Fl++Fr)/\M ∉ bk :: (Fl++Fr)/\M+1 ∉ bk :: (Fl++Fr)
def JF(n:Uw):Prop:=∀ (t:aL.T)(u:Uu UJ)(F:J Uw)(lo hi a b x:Ux)(w:UF),eC w t u F->0<=lo->lo<hi->hi<=2000000->hi-lo<=2 ^ n->a<b->-1000000<=x->x<=1000000->LB t->LB (aL.iQ n t lo hi a b x) ->UI prog 231 #[u,UT #[lo,hi],UT #[a,b],x] w (tH w F (aL.iQ n t lo hi a b x))
theorem pf.drew{b:Ux}{l r:aL.T}(h:pf w X F bk M c lo hi a b l r pl pr Fl Fr):pf w X.drew F bk M c lo hi a b l r pl pr Fl Fr :=⟨h.half.drew,h.off.drew,h.own,h.a0,h.a1,h.m0,h.m1,h.n0,h.n1,h.out⟩
theorem pf.mI{b:Ux}{l r j:aL.T}(h:pf w X F bk M c lo hi a b l r pl pr Fl Fr)(y:eC w4 j u F')(x:∀ k∈F',k∈Fl\/X<=k)(m:aH Fl X w4):pf w (w4.setCell (bk,3) u) F bk M c lo hi a b j r u pr F' Fr:=by
 let⟨o1,o2,o3⟩:=h.out;have t:=U1 _ _ h.a0;have s:=U1 _ _ h.m0;have q:=U1 _ _ h.n0;have z:=h.off.size;have i:aH (bk :: (Fl++Fr)) X (w4.setCell (bk,3) u):=(m.mono Uo).setCell (.inl Ui) _ _;have g:∀ k∈bk :: (F'++Fr),k∈bk :: (Fl++Fr)\/X<=k:=Uo;have B:=h.half.mI y x m;refine⟨B,h.off.trans' i h.own,fun k A=>?_,i.cell o1 h.a0,i.cell o1 h.a1,i.cell o2 h.m0,i.cell o2 h.m1,i.cell o3 h.n0,i.cell o3 h.n1,?_,?_,?_⟩
 .rcases g k A with d|d
  .exact h.own k d
  .exact .inr O
 .intro e;rcases g _ e with d|d
  .exact o1 d
  .simp at t;omega
 .intro e;rcases g _ e with d|d
  .exact o2 d
  .simp at s;omega
 .intro e;rcases g _ e with d|d
  .exact o3 d
  .simp at q;omega
theorem pf.lA{b:Ux}{l r g:aL.T}(h:pf w X F bk M c lo hi a b l r pl pr Fl Fr)(s:eC w4 g u F')(j:∀ k∈F',k∈Fr\/X<=k)(i:aH Fr X w4):eo (w4.setCell (bk,4) u) bk c l g pl u Fl F'/\aH F w (w4.setCell (bk,4) u)/\∀ k∈bk :: (Fl++F'),k∈F\/w<=k:=by
 have t:=h.off.size;have q:aH (bk :: (Fl++Fr)) X (w4.setCell (bk,4) u):=(i.mono Uo).setCell (.inl Ui) _ _;refine⟨h.half.lA s j i,h.off.trans' q h.own,fun k d=>?_⟩;rcases Va.1 d with rfl|d
 .exact h.own k Ui
 .rcases Vb.1 d with d|d
  .exact h.own k (by simp[d])
  .rcases j k d with m|m
   .exact h.own k (by simp[m])
   .exact .inr O
theorem My{w3:UF}{b:Ux}{l r:aL.T}(i:eo w2 bk c l r pl pr Fl Fr)(s:aH F w w2)(t:∀ k∈bk :: (Fl++Fr),k∈F\/w<=k)(m:w2.cell? (w.heap.size+1,0)=U ↑a)(j:w2.cell? (w.heap.size+1,1)=U ↑b)(g:w.heap.size+1 ∉ bk :: (Fl++Fr))(h:UH w2 w2 w3):pf w ((w3.alloc (UX #[lo,V Y (aL.bA lo hi)] 83)).alloc (UX #[V Y (aL.bA lo hi),hi] 83)) F bk w3 c lo hi a b l r pl pr Fl Fr:=by
 have k:aH [] w2 ((w3.alloc (UX #[lo,V Y (aL.bA lo hi)] 83)).alloc (UX #[V Y (aL.bA lo hi),hi] 83)):=((aH.aD h).alloc _).alloc _;have d:=i.lt;have q:=h.size;refine⟨i.off k Ui Ui Ui,s.trans' k Ui,t,k.cell Ui m,k.cell Ui j,by simp,by simp,by simp,by simp,g,fun e=>?_,fun e=>?_⟩
 .have:=d _ e;omega
 .have:=d _ e;omega
theorem c1A(n:Uw)(ih:Hid (JF n))(t:aL.T)(u:Uu UJ)(F:J Uw)(lo hi a b x:Ux)(w:UF)(h:eC w t u F)(hp:aL.apart lo hi a b=UD)(hw:aL.within lo hi a b=UD)
  (h0:0<=lo) (h1:lo<hi) (h2:hi<=2000000) (h3:hi-lo<=2 ^ (n+1)) (h4:a<b)
  (ab:-1000000<=x) (aa:x<=1000000) (H:LB t) (z:LB (aL.iQ (n+1) t lo hi a b x)):
  UI prog 231 #[u,UT #[lo,hi],UT #[a,b],x] w (tH w F (aL.iQ (n+1) t lo hi a b x)):=by
 have e:aL.iQ (n+1) t lo hi a b x=aL.mk (aL.val t) (aL.iQ n (aL.fst t) lo (aL.bA lo hi) a b x) (aL.iQ n (aL.snd t) (aL.bA lo hi) hi a b x):=by rw[aL.iQ];rw[Uy (by simp[hp]),Uy (by simp[hw])]
 rw[e] at z ⊢;obtain⟨_,ae,ad⟩:=z.mk;have hl:=H.fst;have hr:=H.snd;have g1:=aL.oI.1 hp;have g2:=aL.zf.1 hw;have hm:lo<aL.bA lo hi/\aL.bA lo hi<hi:=by unfold aL.bA;omega
 have E:=aL.EO h3;have S:Hid (∀ (w:UF) (u:Uu UJ) (F:J Uw),eC w (aL.fst t) u F->UI prog 231 #[u,UT #[lo,V Y (aL.bA lo hi)],UT #[a,b],x] w (tH w F (aL.iQ n (aL.fst t) lo (aL.bA lo hi) a b x))) :=fun w u F k=>ih.out _ _ _ _ _ _ _ _ _ k h0 hm.1 O E.1 h4 ab aa hl ae
 have R:Hid (∀ (w:UF) (u:Uu UJ) (F:J Uw),eC w (aL.snd t) u F->UI prog 231 #[u,UT #[V Y (aL.bA lo hi),hi],UT #[a,b],x] w (tH w F (aL.iQ n (aL.snd t) (aL.bA lo hi) hi a b x))) :=fun w u F k=>ih.out _ _ _ _ _ _ _ _ _ k O hm.2 h2 E.2 h4 ab aa hr ad
 have A:=aB z;clear e ae ad hl hr g1 g2 hm E h3 ih H z;generalize aL.iQ n (aL.fst t) lo (aL.bA lo hi) a b x=tl at *;generalize aL.iQ n (aL.snd t) (aL.bA lo hi) hi a b x=tr at *
 cases t with
 |nil =>
  obtain⟨hu,rfl⟩:=h
  cases hu;simp only[aL.val,aL.fst,aL.snd] at A S R ⊢;go_in;go_wp21;refine aK (pT _ _ _ _ _) fun w1 g=>?_;rw[hp];have bx:=boxes g;have ⟨q0,q1,q2,q3,hs,hB⟩:=bx;have W:=aB hB;have D:w<w1.heap.size:=O;clear hB g bx;go_wp21;refine aK (wS _ _ _ _ _) fun w2 g=>?_;rw[hw];obtain⟨bk,ac⟩:∃ bk,bk=w1.heap.size:=⟨_,rfl⟩;have Q:=(Ko w1 0).off (G:=[]) (aH.aD g) Ui Ui Ui;have hO:aH [] w w2:=(((aH.aD W.out).alloc _).trans (aH.aD g));have hG:∀ k∈bk :: ([]++[]),k∈([]:J Uw)\/w.heap.size<=k:=by simp;omega
  have s:w.heap.size+1 ∉ bk :: ([]++[]):=by simp;omega
  have m:aH [] w1 w2:=((aH.refl [] w1).alloc _).trans (aH.aD g);have r0:w2.cell? (w,0)=U ↑lo:=m.cell Ui q0;have r1:w2.cell? (w,1)=U ↑hi:=m.cell Ui q1;have r2:w2.cell? (w.heap.size+1,0)=U ↑a:=m.cell Ui q2;have r3:w2.cell? (w.heap.size+1,1)=U ↑b:=m.cell Ui q3;have C:w+1<w2.heap.size:=zL hs m.size;rw[<- ac] at Q ⊢;clear g q0 q1 q2 q3 hs D W m ac;go_wp21;refine aK (Br _ _ _ O O O) fun w3 g=>?_;have d:pf w _ _ _ _ 0 lo hi a b _ _ _ _ _ _:=My (w3:=w3) Q hO hG r2 r3 s g;clear g Q hO hG r0 r1 r2 r3 s C;go_upto_region 8 with fail;generalize (Vj _ (UX #[V Y (aL.bA lo hi),hi] 83))=X at d ⊢;generalize w3=M at d ⊢;go_cut [43] from 35 to 45 (fun _ wx=>∃ (u4:Uu UJ) (y:J Uw),pf w wx ([]:J Uw) bk M 0 lo hi a b tl .nil u4 Z y [])
  .have P:=d.half.c3;have K:=d.half.fz 3;have a0:=d.a0;have a1:=d.a1;have m0:=d.m0;have m1:=d.m1
   go_region_with (first
    |(go_at_call 231;refine (S _ _ _ d.half.drew.l).mono ?_;rintro e w4 ⟨u4,y,rfl,m,q,j⟩;have L:=j.cell d.half.kD.1 P;have I:=(j.frozen (o:=3) d.half.kD.1 (d.half.lt _ Ui)).trans K))
   all_goals go_wp21;go_meet;exact⟨_,_,d.drew.mI m q j⟩
  .obtain⟨u4,y,i⟩:=hcut;clear d
   go_upto_region 9 with fail;go_cut [54] from 46 to 56 (fun _ wx=>∃ (u5:Uu UJ) (B:J Uw),eo wx bk 0 tl tr u4 u5 y B/\aH ([]:J Uw) w wx/\∀ k∈bk :: (y++B),k∈([]:J Uw)\/w.heap.size<=k)
   .have P:=i.half.c4;have K:=i.half.fz 4;have a0:=i.a0;have a1:=i.a1;have m0:=i.n0;have m1:=i.n1
    go_region_with (first
     |(go_at_call 231;refine (R _ _ _ i.half.drew.r).mono ?_;rintro e w5 ⟨u5,B,rfl,m,q,j⟩;have L:=j.cell i.half.kD.2.1 P;have I:=(j.frozen (o:=4) i.half.kD.2.1 (i.half.lt _ Ui)).trans K))
    all_goals go_wp21;go_meet;exact⟨_,_,i.drew.lA m q j⟩
   .obtain⟨u5,B,m,q,j⟩:=hcut;clear i S R
    go_wp21;refine (Bq _ _ _ _ _ _ _ _ _ m A).mono ?_;rintro e w6 ⟨u6,F6,rfl,n1,n2,n3⟩;have HK:=aB (A3 q j Ui n1 n2 n3);clear m q j n1 n2 n3;go_wp21;go_ret;exact HK
 |node c l r =>
  obtain⟨bk,pl,pr,Fl,Fr,rfl,rfl,E⟩:=yE h;simp only[aL.val,aL.fst,aL.snd] at A S R ⊢;go_in;go_wp21;refine aK (pT _ _ _ _ _) fun w1 g=>?_;rw[hp];have bx:=boxes g;have ⟨q0,q1,q2,q3,hs,hB⟩:=bx;have W:=aB hB;have D:w<w1.heap.size:=O;clear hB g bx;go_wp21;refine aK (wS _ _ _ _ _) fun w2 g=>?_;rw[hw];have Q:=E.off (G:=[]) ((aH.aD W).trans (aH.aD g)) Ui Ui Ui;have hO:aH (bk :: (Fl++Fr)) w w2:=(aH.aD W).trans (aH.aD g);have hG:∀ k∈bk :: (Fl++Fr),k∈bk :: (Fl++Fr)\/w<=k:=fun _ hk=>.inl hk;have s:w.heap.size+1 ∉ bk :: (Fl++Fr):=fun e=>by have:=E.lt _ e;omega
  have r0:w2.cell? (w,0)=U ↑lo:=aT g q0;have r1:w2.cell? (w,1)=U ↑hi:=aT g q1;have r2:w2.cell? (w.heap.size+1,0)=U ↑a:=aT g q2;have r3:w2.cell? (w.heap.size+1,1)=U ↑b:=aT g q3;have C:w+1<w2.heap.size:=zL hs g.size;clear g q0 q1 q2 q3 hs D W h E;go_wp21;refine aK (Br _ _ _ O O O) fun w3 g=>?_;have d:pf w _ _ _ _ c lo hi a b _ _ _ _ _ _:=My (w3:=w3) Q hO hG r2 r3 s g;clear g Q hO hG r0 r1 r2 r3 s C;go_upto_region 8 with fail;generalize (Vj _ (UX #[V Y (aL.bA lo hi),hi] 83))=X at d ⊢;generalize w3=M at d ⊢;go_cut [43] from 35 to 45 (fun _ wx=>∃ (u4:Uu UJ) (y:J Uw),pf w wx (bk :: (Fl++Fr)) bk M c lo hi a b tl r u4 pr y Fr)
  .have P:=d.half.c3;have K:=d.half.fz 3;have a0:=d.a0;have a1:=d.a1;have m0:=d.m0;have m1:=d.m1
   go_region_with (first
    |(go_at_call 231;refine (S _ _ _ d.half.drew.l).mono ?_;rintro e w4 ⟨u4,y,rfl,m,q,j⟩;have L:=j.cell d.half.kD.1 P;have I:=(j.frozen (o:=3) d.half.kD.1 (d.half.lt _ Ui)).trans K))
   all_goals go_wp21;go_meet;exact⟨_,_,d.drew.mI m q j⟩
  .obtain⟨u4,y,i⟩:=hcut;clear d
   go_upto_region 9 with fail;go_cut [54] from 46 to 56 (fun _ wx=>∃ (u5:Uu UJ) (B:J Uw),eo wx bk c tl tr u4 u5 y B/\aH (bk :: (Fl++Fr)) w wx/\∀ k∈bk :: (y++B),k∈(bk :: (Fl++Fr))\/w<=k)
   .have P:=i.half.c4;have K:=i.half.fz 4;have a0:=i.a0;have a1:=i.a1;have m0:=i.n0;have m1:=i.n1
    go_region_with (first
     |(go_at_call 231;refine (R _ _ _ i.half.drew.r).mono ?_;rintro e w5 ⟨u5,B,rfl,m,q,j⟩;have L:=j.cell i.half.kD.2.1 P;have I:=(j.frozen (o:=4) i.half.kD.2.1 (i.half.lt _ Ui)).trans K))
    all_goals go_wp21;go_meet;exact⟨_,_,i.drew.lA m q j⟩
   .obtain⟨u5,B,m,q,j⟩:=hcut;clear i S R
    go_wp21;refine (Bq _ _ _ _ _ _ _ _ _ m A).mono ?_;rintro e w6 ⟨u6,F6,rfl,n1,n2,n3⟩;have HK:=aB (A3 q j Ui n1 n2 n3);clear m q j n1 n2 n3;go_wp21;go_ret;exact HK
theorem T9:∀ n,JF n:=by
 intro n;induction n with
 |zero =>
  intro t u F lo hi a b x w h z y s m r i d k j;have m:hi-lo<=1:=Uo
  cases l:aL.apart lo hi a b
  .have g:=aL.oI.1 l;exact LO t u F lo hi a b x 0 w h l (aL.wP.2 O) i d k j
  .exact Lj t u F lo hi a b x 0 w h l
 |succ n ih =>
  intro t u F lo hi a b x w h z y s m r i d k j
  cases l:aL.apart lo hi a b
  .cases q:aL.within lo hi a b
   .exact c1A n ih t u F lo hi a b x w h l q z y s m r i d k j
   .exact LO t u F lo hi a b x _ w h l q i d k j
  .exact Lj t u F lo hi a b x _ w h l
theorem eC.later{t:aL.T}(h:eC w t p F)(k:UH w w w'):eC w' t p F:=h.same (aH.aD k)
theorem c2I(lo hi a b:Ux)(w:UF):UI prog 198 #[UM Z,UT #[lo,hi],UT #[a,b]] w fun e w'=>e=UW (V Y 0)/\UH w w w':=by
 go_in;go_wp21;go_ret;exact⟨rfl,aS.alloc Ui _⟩
def MS(X w':UF)(bk N M:Uw)(c lo hi a b:Ux)(pl pr:Uu UJ):Prop :=w'.cell? (bk,0)=U ↑c/\w'.cell? (bk,3)=U ↑pl/\w'.cell? (bk,4)=U ↑pr/\w'.cell? (N,0)=U ↑a/\w'.cell? (N,1)=U ↑b/\w'.cell? (M,0)=U ↑lo/\w'.cell? (M,1)=U (V Y (aL.bA lo hi))/\w'.cell? (M+1,0)=U (V Y (aL.bA lo hi))/\w'.cell? (M+1,1)=U ↑hi/\UH X X w'
theorem MS.later{b:Ux}(h:MS X w' bk N M c lo hi a b pl pr)(k:UH w' w' w''):MS X w'' bk N M c lo hi a b pl pr:=by let⟨h1,h2,h3,h4,h5,h6,h7,h8,h9,h10⟩:=h;exact⟨aT k h1,aT k h2,aT k h3,aT k h4,aT k h5,aT k h6,aT k h7,aT k h8,aT k h9,bU h10 k aJ⟩
theorem Kv{t:aL.T}{b:Ux}(g:aL.Good t lo hi)(i:LB t)(h:lo<hi)(j:a<b):0<=aL.ie t lo hi a b/\aL.ie t lo hi a b<=100000000:=by
 have:=i.top
 cases d:aL.apart lo hi a b
 .let⟨k0,_,x,k1,k2,_,_,k5⟩:=aL.Kw t lo hi a b h j g d;have:=(aL.yw t lo hi h g).1 x k1 k2;omega
 .rw[aL.Bo d];omega
theorem c2J:∀ (t:aL.T)(u:Uu UJ)(F:J Uw)(lo hi a b:Ux)(w:UF),eC w t u F->LB t->aL.Good t lo hi->0<=lo->lo<hi->hi<=2000000->a<b ->UI prog 198 #[u,UT #[lo,hi],UT #[a,b]] w fun e w'=>e=UW (V Y (aL.ie t lo hi a b))/\UH w w w':=by
 intro t;induction t with
 |nil =>
  intro u F lo hi a b w h _ _ _ _ _ _;obtain⟨hu,_⟩:=h
  cases hu;exact c2I lo hi a b w
 |node c l r ihl ihr =>
  intro u F lo hi a b w h g A h0 h1 h2 K;obtain⟨bk,pl,pr,Fl,Fr,rfl,rfl,s⟩:=yE h;have E:=aB ihl;have D:=aB ihr;clear ihl ihr;have x:w.cell? (bk,1)=U (V Y (aL.top (.node c l r))):=by obtain⟨b',_,_,_,_,i,_,x,_⟩:=h;cases i;exact x
  clear h
  cases i:aL.apart lo hi a b
  .cases z:aL.within lo hi a b
   .have m:aL.ie (.node c l r) lo hi a b=c+max (aL.ie l lo (aL.bA lo hi) a b) (aL.ie r (aL.bA lo hi) hi a b):=by simp[aL.ie,i,z]
    have g1:=aL.oI.1 i;have g2:=aL.zf.1 z;have I:lo<aL.bA lo hi/\aL.bA lo hi<hi:=by unfold aL.bA;omega
    have bl:=Kv (a:=a) (b:=b) A.2.2.1 g.2.2.2.1 I.1 K;have br:=Kv (a:=a) (b:=b) A.2.2.2 g.2.2.2.2 I.2 K;have hc:=g.1;have I1:Hid (∀ (w:UF),eC w l pl Fl->UI prog 198 #[pl,UT #[lo,V Y (aL.bA lo hi)],UT #[a,b]] w fun e w'=>e=UW (V Y (aL.ie l lo (aL.bA lo hi) a b))/\UH w w w') :=fun w k=>E _ _ _ _ _ _ _ k g.2.2.2.1 A.2.2.1 h0 I.1 O K
    have I2:Hid (∀ (w:UF),eC w r pr Fr->UI prog 198 #[pr,UT #[V Y (aL.bA lo hi),hi],UT #[a,b]] w fun e w'=>e=UW (V Y (aL.ie r (aL.bA lo hi) hi a b))/\UH w w w') :=fun w k=>D _ _ _ _ _ _ _ k g.2.2.2.2 A.2.2.2 O I.2 h2 K
    rw[m];clear m E D g1 g2 A g x;generalize aL.ie l lo (aL.bA lo hi) a b=ml at *;generalize aL.ie r (aL.bA lo hi) hi a b=mr at *;have c0:=s.c0;have c3:=s.c3;have c4:=s.c4;have RL:=aB s.l;have RR:=aB s.r;clear s;have Q:Y.wrap (c+if ml<mr then mr else ml)=c+max ml mr:=by rw[DG];exact dJ O O
    have E5:=aB Q;clear Q;go_in;go_wp21;refine aK (pT _ _ _ _ _) fun w1 d=>?_;rw[i];have ⟨q0,q1,q2,q3,hs,g⟩:=boxes d;have d0:=aT g c0;have d3:=aT g c3;have d4:=aT g c4;have q:=aB g;clear g d c0 c3 c4;go_wp21;refine aK (wS _ _ _ _ _) fun w2 d=>?_;rw[z];have y:=aB (bU q d aJ);have r0:=aT d q0;have r1:=aT d q1;have P:=aT d q2;have L:=aT d q3;have W:=aT d d0;have S:=aT d d3;have R:=aT d d4;clear q d q0 q1 q2 q3 hs d0 d3 d4;go_wp21;refine aK (Br _ _ _ O O O) fun w3 d=>?_;have j:UH w2 w2 ((w3.alloc (UX #[lo,V Y (aL.bA lo hi)] 83)).alloc (UX #[V Y (aL.bA lo hi),hi] 83)):=(d.alloc d.size _).alloc (by have:=d.size;simp;omega) _;have C:MS ((w3.alloc (UX #[lo,V Y (aL.bA lo hi)] 83)).alloc (UX #[V Y (aL.bA lo hi),hi] 83)) ((w3.alloc (UX #[lo,V Y (aL.bA lo hi)] 83)).alloc (UX #[V Y (aL.bA lo hi),hi] 83)) bk (w.heap.size+1) w3 c lo hi a b pl pr :=⟨aT j W,aT j S,aT j R,aT j P,aT j L,by simp,by simp,by simp,by simp,Below.refl _ _⟩
    have H:=aB (Vf (bU y j aJ) (Vf (RL.later (bU y j aJ)) (RR.later (bU y j aJ))));clear y RL RR j d r0 r1 P L W S R;go_upto_region 6 with fail;generalize (Vj _ (UX #[V Y (aL.bA lo hi),hi] 83))=X at C H ⊢;generalize w3=M at C ⊢;go_region_held3 (fun w'=>w'.cell? (bk,0)=U ↑c/\w'.cell? (bk,3)=U ↑pl/\w'.cell? (bk,4)=U ↑pr/\w'.cell? (w.heap.size+1,0)=U ↑a/\w'.cell? (w.heap.size+1,1)=U ↑b/\w'.cell? (M,0)=U ↑lo/\w'.cell? (M,1)=U (V Y (aL.bA lo hi))/\w'.cell? ⟨M+1,0,Z⟩=U (V Y (aL.bA lo hi))/\w'.cell? ⟨M+1,1,Z⟩=U (V Y hi)/\UH X X w')
     (first
      |exact MS.later C (eN _)
      |(go_split_ands;exact MS.later C (bU Uk B aJ)))
     (first
      |(go_at_call_of 198 (UM pl);go_split_ands;refine aK (I1 _ (H.2.1.later Uk)) fun w4 B=>?_)
      |(go_at_call_of 198 (UM pr);go_split_ands;refine aK (I2 _ (H.2.2.later Uk)) fun w4 B=>?_))
    rw[E5,vX];have HF:=aB (bU H.1 (by go_split_ands;assumption:UH X X w4) aJ);clear C H I1 I2;go_wp21;go_ret;exact⟨rfl,HF⟩
   .have m:aL.ie (.node c l r) lo hi a b=aL.top (.node c l r):=by simp[aL.ie,i,z,aL.top]
    rw[m];clear m;generalize aL.top (.node c l r)=tp at x ⊢;go_in;go_wp21;refine aK (pT _ _ _ _ _) fun w1 d=>?_;rw[i];have ⟨q0,q1,q2,q3,hs,g⟩:=boxes d;have d1:=aT g x;have q:=aB g;clear g d x;go_wp21;refine aK (wS _ _ _ _ _) fun w2 d=>?_;rw[z];have d2:=aT d d1;have y:=aB (bU q d aJ);clear q d q0 q1 q2 q3 hs d1;go_wp21;go_ret;exact⟨rfl,y⟩
  .have m:aL.ie (.node c l r) lo hi a b=0:=aL.Bo i;rw[m];clear m
   go_in;go_wp21;refine aK (pT _ _ _ _ _) fun w1 d=>?_;rw[i];have q:=aB (boxes d).bw;clear d;go_wp21;go_ret;exact⟨rfl,q⟩
theorem wT(w:UF):UI prog 199 #[] w fun e w'=>e=UW (UT #[V Y 0,V Y 1048320])/\UH w w w':=by go_in;go_wp2;exact bodyPost_ret (v:=UT #[V Y 0,V Y 1048320]) (by simp[results,results199,go_sem]) rfl ⟨rfl,aS⟩
theorem JY(t:aL.T)(i o:Uw)(u:Uu UJ)(F:J Uw)(a b:Ux)(w:UF)(c:w.cell? (i,o)=U ↑u)(h:eC w t u F)(s:LB t)(r:aL.Good t 0 1048320)(x:a<b):UI prog 158 #[UM (U ⟨i,o,Z⟩),UT #[a,b]] w fun e w'=>e=UW (V Y (aL.ie t 0 1048320 a b))/\UH w w w':=by
 have q:=aB h;clear h;go_in;go_upto_region 1 with fail;have j:UH w w (w.alloc (UX #[a,b] 83)):=aS;have m:(w.alloc (UX #[a,b] 83)).cell? (w,0)=U ↑a:=Ui;have l:(w.alloc (UX #[a,b] 83)).cell? (w,1)=U ↑b:=Ui;have k:=aT j c;have g:=aB j;clear j;generalize (Vj w (UX #[a,b] 83))=X at m l k g ⊢;go_region_held3 (fun w'=>w'.cell? (i,o)=U ↑u/\w'.cell? (w,0)=U ↑a/\w'.cell? (w,1)=U ↑b/\UH X X w')
  (first
   |exact⟨k,m,l,eN _⟩
   |(go_split_ands;exact⟨aT d Uk,aT d Uk,aT d Uk,bU Uk d aJ⟩))
  (first
   |(go_at_call 199;go_split_ands;refine aK (wT _) fun w4 d=>?_)
   |(go_at_call 198;go_split_ands;refine aK (c2J t u F 0 1048320 a b _ (q.later (bU g Uk aJ)) s r O O O x) fun w4 d=>?_))
 have y:=aB (bU g (by go_split_ands;assumption:UH X X w4) aJ);clear g q;go_wp21;go_ret;exact⟨rfl,y⟩
def uU(w:UF)(d o:Uw)(F:J Uw)(i:aL.T)(w':UF):Prop :=∃ (h:Uu UJ) (F':J Uw),w'.cell? ⟨d,o,Z⟩=U (UM h)/\eC w' i (UM h) F'/\(∀ k∈F',k∈F\/w.heap.size<=k)/\aH (d :: F) w w'/\(∀ g,g≠o->w'.cell? ⟨d,g,Z⟩=w.cell? ⟨d,g,Z⟩)/\∀ g,w'.frozen? ⟨d,g,Z⟩=w.frozen? ⟨d,g,Z⟩
theorem Ua{g:UF}{d:Uw}{F5:J Uw}{l:aL.T}{u5:Uu UJ}(j:UH w w w4)(i:d<w)(B:d ∉ F)(z:eC g l u5 F5)(y:∀ k∈F5,k∈F\/w4<=k)(m:aH F w4 g)(r:g.cell? (d,o)=U v):uU w d o F l (g.setCell (d,o) u5):=by
 have E:=j.size;have s:aH [] w w4:=aH.aD j;have A:d ∉ F5:=fun e=>by grind
 have q:g.heap[d]?=w.heap[d]?:=(m.block d O B).trans (s.block d i Ui);refine⟨u5,F5,Ve _ _ _ r,z.off (aH.bM ..) (fun x D=>by grind),fun k C=>?_,?_,fun t H=>?_,fun t=>?_⟩
 .rcases y k C with h|h
  .exact .inl h
  .exact .inr O
 .exact ((aH.aD (F:=d :: F) j).trans (m.mono Uo)).setCell (.inl Ui) _ _
 .exact (bC Ui).trans (zo (w:=w) q)
 .refine (zF ..).trans ?_;simp only[U2,q]
theorem TW(t:aL.T)(g o:Uw)(u:Uu UJ)(F:J Uw)(a b x:Ux)(w:UF)(c:w.cell? (g,o)=U ↑u)(f:w.frozen? (g,o)=UD)(C:g ∉ F)(h:eC w t u F)(S:a<b)(B:-1000000<=x)(A:x<=1000000)(l:LB t)(j:LB (aL.iQ 20 t 0 1048320 a b x)):UI prog 206 #[UM (U ⟨g,o,Z⟩),UT #[a,b],x] w fun e w'=>e=UW (US #[])/\uU w g o F (aL.iQ 20 t 0 1048320 a b x) w':=by
 have L:Hid (∀ (w':UF),eC w' t u F->UI prog 231 #[u,UT #[V Y 0,V Y 1048320],UT #[a,b],x] w' (tH w' F (aL.iQ 20 t 0 1048320 a b x))) :=fun w' k=>T9 20 t u F 0 1048320 a b x w' k O O O Uj S B A l j
 have K:=aB h;have i:=U1 _ _ c;generalize aL.iQ 20 t 0 1048320 a b x=t' at *;clear h l j;go_in;go_upto_region 1 with fail;have D:UH w w (w.alloc (UX #[a,b] 83)):=aS;have z:(w.alloc (UX #[a,b] 83)).cell? (w,0)=U ↑a:=Ui;have y:(w.alloc (UX #[a,b] 83)).cell? (w,1)=U ↑b:=Ui;have s:=aT D c;have m:=aB D;clear D;generalize (Vj w (UX #[a,b] 83))=X at z y s m ⊢;go_region_with (first
  |(go_at_call 199;refine aK (wT _) fun w4 d=>?_;have R:=aT d (show Vk (Vl X) _=_ from z);have Q:=aT d (show Vk (Vl X) _=_ from y);have r:=aT d (show Vk (Vl X) _=_ from s))
  |(go_at_call 231;refine (L _ (K.later (bU m (bU (eN _) d aJ) aJ))).mono ?_;rintro e w5 ⟨u5,F5,rfl,I,H,q⟩;have E:=q.cell C r;have P:=(q.frozen (o:=o) C (U1 _ _ r)).trans (((aH.aD (F:=[]) (bU m (bU (eN _) d aJ) aJ)).frozen Ui i).trans f)))
 all_goals have W:=aB (Ua (bU m (bU (eN _) d aJ) aJ) i C I H q E);clear I H q E P R Q r z y s m K L;go_wp21;go_end0;exact⟨rfl,W⟩
theorem S5(t:aL.T)(u:Uu UJ)(F:J Uw)(c level:Ux)(k:Uw)(w:UF)(h:eC w t u F)(d:LB t)(g:w.cell? (k,0)=U ↑level)(l:-1000000000<=c)(j:c<=1000000000):UI prog 200 #[u,c,k] w fun e w'=>e=UW (aL.kR UE level t c)/\UH w w w':=by
 have i:=d.top;clear d;go_in;go_wp21;go_region_held3 (fun w'=>w'.cell? (k,0)=U ↑level/\UH w w w')
  (exact⟨g,eN _⟩)
  (first|(go_at_call 201;go_split_ands;refine aY (yK _ (h.later Uk)) ?_))
 go_wp21;go_ret;exact⟨qH (by simp only[aL.kR];rw[dJ O O];simp),eN _⟩
theorem S6(t:aL.T)(u:Uu UJ)(F:J Uw)(c level:Ux)(k:Uw)(w:UF)(h:eC w t u F)(d:LB t)(g:w.cell? (k,0)=U ↑level)(l:-1000000000<=c)(j:c<=1000000000):UI prog 202 #[u,c,k] w fun e w'=>e=UW (aL.kR UD level t c)/\UH w w w':=by
 have i:=d.bot;clear d;go_in;go_wp21;go_region_held3 (fun w'=>w'.cell? (k,0)=U ↑level/\UH w w w')
  (exact⟨g,eN _⟩)
  (first|(go_at_call 203;go_split_ands;refine aY (yJ _ (h.later Uk)) ?_))
 go_wp21;go_ret;exact⟨qH (by simp only[aL.kR];rw[dJ O O];simp),eN _⟩
def xl(d:Uv)(fn:Uw):Prop:=(d=UE/\fn=200)\/(d=UD/\fn=202)
theorem Cb{d:Uv}(m:xl d fn)(t:aL.T)(u:Uu UJ)(F:J Uw)(c level:Ux)(k:Uw)(w:UF)(h:eC w t u F)(i:LB t)(g:w.cell? (k,0)=U ↑level)(l:-1000000000<=c)(j:c<=1000000000):UI prog fn #[u,c,k] w fun e w'=>e=UW (aL.kR d level t c)/\UH w w w':=by
 rcases m with ⟨rfl,rfl⟩|⟨rfl,rfl⟩
 .exact S5 t u F c level k w h i g l j
 .exact S6 t u F c level k w h i g l j
theorem M6{t:aL.T}(w:UF)(h:eC w t u F):UI prog 230 #[u] w fun e w'=>e=UW (aL.flat t)/\w'=w:=by
 cases t with
 |nil=>let⟨h1,_⟩:=h;cases h1;exact b8t w
 |node a l r =>
  obtain⟨b,pl,pr,Fl,Fr,rfl,rfl,d⟩:=yE h;have e:aL.flat (.node a l r)=uK pl pr:=by rw[uK,d.l.isNone,d.r.isNone];rfl
  rw[e];exact F0 b pl pr w d.c3 d.c4
def lg:Uu Ux->UG
 |none=>US #[V Y 0,UD]
 |some x=>US #[V Y x,UE]
theorem c4b{x y:Ux}(h:x=y):UW (US #[x,UE])=UW (lg (U y)):=by rw[h];rfl
theorem M7(u:Uu UJ)(lo hi a b c:Ux)(k fn:Uw)(w:UF)(g:aL.apart lo hi a b=UE):UI prog 204 #[u,UT #[lo,hi],UT #[a,b],c,.func (.func fn) #[] #[k]] w fun e w'=>e=UW (lg Z)/\UH w w w':=by
 generalize Value.func _ _ _=q;go_in;go_wp21;refine aK (pT _ _ _ _ _) fun w1 d=>?_;rw[g];have h:=aB (boxes d).bw;clear d;go_wp21;go_ret2;exact⟨rfl,h⟩
theorem IA{i:Uv}(l:xl i fn)(t:aL.T)(u:Uu UJ)(F:J Uw)(lo hi a b c level:Ux)(k:Uw)(w:UF)(h:eC w t u F)(m:LB t)(s:w.cell? (k,0)=U ↑level)(y:-1000000000<=c)(x:c<=1000000000)(r:aL.apart lo hi a b=UD)(q:aL.kR i level t c=UD):UI prog 204 #[u,UT #[lo,hi],UT #[a,b],c,.func (.func fn) #[] #[k]] w fun e w'=>e=UW (lg Z)/\UH w w w':=by
 have A:=aB (fun w' j=>Cb l t u F c level k w' (eC.later h j) m (aT j s) y x);clear m;rcases l with ⟨rfl,rfl⟩|⟨rfl,rfl⟩;all_goals go_in;go_wp21;refine aK (pT _ _ _ _ _) fun w1 d=>?_;rw[r];have g:=aB (boxes d).bw;clear d;go_wp21;refine aK (A _ g) fun w2 d=>?_;rw[q];have z:=aB (bU g d aJ);clear g d;go_wp21;go_ret2;exact⟨rfl,z⟩
theorem Iz{i:Uv}(l:xl i fn)(t:aL.T)(u:Uu UJ)(F:J Uw)(lo hi a b c level:Ux)(k:Uw)(w:UF)(h:eC w t u F)(m:LB t)(y:w.cell? (k,0)=U ↑level)(A:-1000000000<=c)(z:c<=1000000000)(s:aL.apart lo hi a b=UD)(r:aL.kR i level t c=UE)(x:aL.flat t=UE):UI prog 204 #[u,UT #[lo,hi],UT #[a,b],c,.func (.func fn) #[] #[k]] w fun e w'=>e=UW (lg (U (max lo a)))/\UH w w w':=by
 have B:=aB (fun w' j=>Cb l t u F c level k w' (eC.later h j) m (aT j y) A z);clear m;rcases l with ⟨rfl,rfl⟩|⟨rfl,rfl⟩;all_goals
  go_in;go_wp21;refine aK (pT _ _ _ _ _) fun w1 d=>?_;rw[s];have ⟨q0,q1,q2,q3,hs,hBw⟩:=boxes d;have g:=aB hBw;clear d hBw;go_wp21;refine aK (B _ g) fun w2 d=>?_;rw[r];have D:=aT d q0;have C:=aT d q2;have q:=aB (bU g d aJ);clear g d q0 q1 q2 q3 hs;go_wp21;refine aY (M6 _ (h.later q)) ?_;rw[x];go_wp21;all_goals go_ret2;exact⟨c4b O,q⟩
def Ev(d:Uv)(fn:Uw)(t:aL.T):Prop:=∀ (u:Uu UJ)(F:J Uw)(lo hi a b c level:Ux)(k:Uw)(w:UF),eC w t u F->LB t->aL.Good t lo hi->w.cell? (k,0)=U ↑level->0<=c->c+aL.top t<=100000000->0<=lo->lo<hi->hi<=2000000->a<b ->UI prog 204 #[u,UT #[lo,hi],UT #[a,b],c,.func (.func fn) #[] #[k]] w fun e w'=>e=UW (lg (aL.fm d level t lo hi a b c))/\UH w w w'
def FS(X w':UF)(bk N M:Uw)(v lo hi a b:Ux)(pl pr:Uu UJ):Prop :=w'.cell? (bk,0)=U ↑v/\w'.cell? (bk,3)=U ↑pl/\w'.cell? (bk,4)=U ↑pr/\w'.cell? (N,0)=U ↑a/\w'.cell? (N,1)=U ↑b/\w'.cell? (M,0)=U ↑lo/\w'.cell? (M,1)=U (V Y (aL.bA lo hi))/\w'.cell? (M+1,0)=U (V Y (aL.bA lo hi))/\w'.cell? (M+1,1)=U ↑hi/\UH X X w'
theorem FS.later{v b:Ux}(h:FS X w' bk N M v lo hi a b pl pr)(k:UH w' w' w''):FS X w'' bk N M v lo hi a b pl pr:=by let⟨h1,h2,h3,h4,h5,h6,h7,h8,h9,h10⟩:=h;exact⟨aT k h1,aT k h2,aT k h3,aT k h4,aT k h5,aT k h6,aT k h7,aT k h8,aT k h9,bU h10 k aJ⟩
theorem Ug{d:Uv}{v b:Ux}{l r:aL.T}(i:aL.apart lo hi a b=UD)(h:aL.kR d level (.node v l r) c=UE)(j:aL.flat (.node v l r)=UD):aL.fm d level (.node v l r) lo hi a b c=match aL.fm d level l lo (aL.bA lo hi) a b (c+v) with|some x=>U x|none=>aL.fm d level r (aL.bA lo hi) hi a b (c+v):=by have g:(aL.isNil l && aL.isNil r)=UD:=j;rw[aL.fm];simp only[i,h,g,U4,U6,U7,if_false] <;> rfl
theorem OT{m:Uv}(hG:xl m fn)(v:Ux)(l r:aL.T)(I:Hid (Ev m fn l))(H:Hid (Ev m fn r))(u:Uu UJ)(F:J Uw)(lo hi a b c level:Ux)(k:Uw)(w:UF)(h:eC w (.node v l r) (UM u) F)(t:LB (.node v l r))(q:aL.Good (.node v l r) lo hi)(P:w.cell? ⟨k,0,Z⟩=U (V Y level))(h1:0<=c)(h2:c+aL.top (.node v l r)<=100000000)(h3:0<=lo)(h4:lo<hi)(h5:hi<=2000000)(h6:a<b)
  (hp:aL.apart lo hi a b=UD) (hw:aL.kR m level (.node v l r) c=UE) (W:aL.flat (.node v l r)=UD):
  UI prog 204 #[UM u,UT #[V Y lo,V Y hi],UT #[V Y a,V Y b],V Y c,.func (.func fn) #[] #[UM (U ⟨k,0,Z⟩)]] w fun e w'=>e=UW (lg (aL.fm m level (.node v l r) lo hi a b c))/\UH w.heap.size w w':=by
 have tp:=t.top;have tl:=t.2.2.2.1.top;have tr:=t.2.2.2.2.top;have hv:=t.1;have R:=q.1;have ht:aL.top (.node v l r)=v+max (aL.top l) (aL.top r):=rfl;have gl:=aL.BB l lo (aL.bA lo hi) 0 q.2.2.1;have t0:0<=aL.top (.node v l r):=by obtain⟨_,x,_,_,e⟩:=aL.yw (.node v l r) lo hi h4 q;have:=aL.BB (.node v l r) lo hi x q;omega
 have aa:2<=hi-lo:=by
  rcases q.2.1 with ⟨e1,e2⟩|h2
  .have S:(aL.isNil l && aL.isNil r)=UD:=W;simp[e1,e2] at S
  .exact h2
 have hm:lo<aL.bA lo hi/\aL.bA lo hi<hi:=by unfold aL.bA;omega
 have AK:=aB (fun w' j=>Cb hG (.node v l r) u F c level k w' (eC.later h j) t (aT j P) O O);have K:=aB (fun (w':UF) (j:UH w.heap.size w w')=>M6 w' (eC.later h j));obtain⟨bk,pl,pr,Fl,Fr,rfl,rfl,B⟩:=yE h;have D:Hid (∀ w',UH w.heap.size w w'->UI prog 204 #[UM pl,UT #[V Y lo,V Y (aL.bA lo hi)],UT #[V Y a,V Y b],V Y (c+v),.func (.func fn) #[] #[UM (U ⟨k,0,Z⟩)]] w' fun e w''=>e=UW (lg (aL.fm m level l lo (aL.bA lo hi) a b (c+v)))/\UH w'.heap.size w' w'') :=fun w' j=>I.out pl Fl lo _ a b (c+v) level k w' (B.l.later j) t.2.2.2.1 q.2.2.1 (aT j P) O O h3 hm.1 O h6
 have A:Hid (∀ w',UH w.heap.size w w'->UI prog 204 #[UM pr,UT #[V Y (aL.bA lo hi),V Y hi],UT #[V Y a,V Y b],V Y (c+v),.func (.func fn) #[] #[UM (U ⟨k,0,Z⟩)]] w' fun e w''=>e=UW (lg (aL.fm m level r (aL.bA lo hi) hi a b (c+v)))/\UH w'.heap.size w' w'') :=fun w' j=>H.out pr Fr _ hi a b (c+v) level k w' (B.r.later j) t.2.2.2.2 q.2.2.2 (aT j P) O O O hm.2 h5 h6
 rw[Ug hp hw W];have ab:Y.wrap (c+v)=c+v:=dJ O O;have c0:=B.c0;have c3:=B.c3;have c4:=B.c4;clear tp tl tr ht gl t0 aa B t q h2 h I H P hv R;generalize aL.fm m level l lo (aL.bA lo hi) a b (c+v)=ol at *;generalize aL.fm m level r (aL.bA lo hi) hi a b (c+v)=or at *;rcases hG with ⟨rfl,rfl⟩|⟨rfl,rfl⟩;all_goals
  go_in;go_wp2_with fail;refine (pT _ _ _ _ _).mono ?_;rintro e w1 ⟨rfl,d⟩;rw[hp];have ⟨q0,q1,q2,q3,hs,hBw⟩:=boxes d;have d0:=aT hBw c0;have d3:=aT hBw c3;have d4:=aT hBw c4;have HB:=aB hBw;clear d hBw c0 c3 c4;go_wp2_with fail;refine (AK.out _ HB.out).mono ?_;rintro e w2 ⟨rfl,d⟩;rw[hw];have r0:=aT d q0;have r1:=aT d q1;have r2:=aT d q2;have r3:=aT d q3;have e0:=aT d d0;have e3:=aT d d3;have e4:=aT d d4;have HC:=aB (bU HB.out d (zq _));clear HB d q0 q1 q2 q3 hs d0 d3 d4 AK;go_wp2_with fail;refine (K.out _ HC.out).mono ?_;rintro e E ⟨rfl,rfl⟩;rw[W];clear K;go_wp2_with fail;refine (Br _ _ _ O O O).mono ?_;rintro e w3 ⟨rfl,d⟩;have z:UH E.heap.size E ((w3.alloc (UX #[V Y lo,V Y (aL.bA lo hi)] 83)).alloc (UX #[V Y (aL.bA lo hi),V Y hi] 83)):=(d.alloc d.size _).alloc (by have:=d.size;simp;omega) _;have s:FS ((w3.alloc (UX #[V Y lo,V Y (aL.bA lo hi)] 83)).alloc (UX #[V Y (aL.bA lo hi),V Y hi] 83)) ((w3.alloc (UX #[V Y lo,V Y (aL.bA lo hi)] 83)).alloc (UX #[V Y (aL.bA lo hi),V Y hi] 83)) bk (w.heap.size+1) w3.heap.size v lo hi a b pl pr :=⟨aT z e0,aT z e3,aT z e4,aT z r2,aT z r3,by simp,by simp,by simp,by simp,Below.refl _ _⟩
  have i:=aB (bU HC.out z (zq _));clear HC z d r0 r1 r2 r3 e0 e3 e4;go_upto_region 6 with fail;generalize (Vj _ (UX #[V Y (aL.bA lo hi),V Y hi] 83))=X at s i ⊢;generalize w3.heap.size=M at s ⊢
  cases ol with
  |some y =>
   simp only[lg] at D ⊢;go_region_held3 (fun w'=>w'.cell? ⟨bk,0,Z⟩=U (V Y v)/\w'.cell? ⟨bk,3,Z⟩=U (UM pl)/\w'.cell? ⟨bk,4,Z⟩=U (UM pr)/\w'.cell? ⟨w.heap.size+1,0,Z⟩=U (V Y a)/\w'.cell? ⟨w.heap.size+1,1,Z⟩=U (V Y b)/\w'.cell? ⟨M,0,Z⟩=U (V Y lo)/\w'.cell? ⟨M,1,Z⟩=U (V Y (aL.bA lo hi))/\w'.cell? ⟨M+1,0,Z⟩=U (V Y (aL.bA lo hi))/\w'.cell? ⟨M+1,1,Z⟩=U (V Y hi)/\UH X.heap.size X w')
    (first
     |exact FS.later s (eN _)
     |(go_split_ands;exact FS.later s (bU Uk g (zq _))))
    (first
     |(go_at_call 204;go_split_ands;refine (D.out _ (bU i.out Uk (zq _))).mono ?_;rintro e w4 ⟨rfl,g⟩))
   have L:=aB (bU i.out (by go_split_ands;assumption:UH X.heap.size X w4) (zq _));clear s i D A;go_wp2;go_ret2;exact⟨rfl,L.out⟩
  |none =>
   simp only[lg] at D ⊢;go_region_held3 (fun w'=>w'.cell? ⟨bk,0,Z⟩=U (V Y v)/\w'.cell? ⟨bk,3,Z⟩=U (UM pl)/\w'.cell? ⟨bk,4,Z⟩=U (UM pr)/\w'.cell? ⟨w.heap.size+1,0,Z⟩=U (V Y a)/\w'.cell? ⟨w.heap.size+1,1,Z⟩=U (V Y b)/\w'.cell? ⟨M,0,Z⟩=U (V Y lo)/\w'.cell? ⟨M,1,Z⟩=U (V Y (aL.bA lo hi))/\w'.cell? ⟨M+1,0,Z⟩=U (V Y (aL.bA lo hi))/\w'.cell? ⟨M+1,1,Z⟩=U (V Y hi)/\UH X.heap.size X w')
    (first
     |exact FS.later s (eN _)
     |(go_split_ands;exact FS.later s (bU Uk g (zq _))))
    (first
     |(go_at_call 204;go_split_ands;refine (D.out _ (bU i.out Uk (zq _))).mono ?_;rintro e w4 ⟨rfl,g⟩))
   have C:FS X w4 bk (w.heap.size+1) M v lo hi a b pl pr:=Uk;clear s D;go_upto_region 9 with fail
   cases or with
   |some y =>
    simp only[lg] at A ⊢;go_region_held3 (fun w'=>w'.cell? ⟨bk,0,Z⟩=U (V Y v)/\w'.cell? ⟨bk,3,Z⟩=U (UM pl)/\w'.cell? ⟨bk,4,Z⟩=U (UM pr)/\w'.cell? ⟨w.heap.size+1,0,Z⟩=U (V Y a)/\w'.cell? ⟨w.heap.size+1,1,Z⟩=U (V Y b)/\w'.cell? ⟨M,0,Z⟩=U (V Y lo)/\w'.cell? ⟨M,1,Z⟩=U (V Y (aL.bA lo hi))/\w'.cell? ⟨M+1,0,Z⟩=U (V Y (aL.bA lo hi))/\w'.cell? ⟨M+1,1,Z⟩=U (V Y hi)/\UH X.heap.size X w')
     (first
      |exact FS.later C (eN _)
      |(go_split_ands;exact FS.later C (bU (eN _) g (zq _))))
     (first
      |(go_at_call 204;go_split_ands;refine (A.out _ (bU i.out Uk (zq _))).mono ?_;rintro e Q ⟨rfl,g⟩))
    have L:=aB (bU i.out (by go_split_ands;assumption:UH X.heap.size X Q) (zq _));clear C i A;go_wp2;go_ret2;exact⟨rfl,L.out⟩
   |none =>
    simp only[lg] at A ⊢;go_region_held3 (fun w'=>w'.cell? ⟨bk,0,Z⟩=U (V Y v)/\w'.cell? ⟨bk,3,Z⟩=U (UM pl)/\w'.cell? ⟨bk,4,Z⟩=U (UM pr)/\w'.cell? ⟨w.heap.size+1,0,Z⟩=U (V Y a)/\w'.cell? ⟨w.heap.size+1,1,Z⟩=U (V Y b)/\w'.cell? ⟨M,0,Z⟩=U (V Y lo)/\w'.cell? ⟨M,1,Z⟩=U (V Y (aL.bA lo hi))/\w'.cell? ⟨M+1,0,Z⟩=U (V Y (aL.bA lo hi))/\w'.cell? ⟨M+1,1,Z⟩=U (V Y hi)/\UH X.heap.size X w')
     (first
      |exact FS.later C (eN _)
      |(go_split_ands;exact FS.later C (bU (eN _) g (zq _))))
     (first
      |(go_at_call 204;go_split_ands;refine (A.out _ (bU i.out Uk (zq _))).mono ?_;rintro e Q ⟨rfl,g⟩))
    have L:=aB (bU i.out (by go_split_ands;assumption:UH X.heap.size X Q) (zq _));clear C i A;go_wp2;go_ret2;exact⟨rfl,L.out⟩
theorem Iy{g:Uv}(q:xl g fn):∀ t:aL.T,Ev g fn t:=by
 intro t;induction t with
 |nil =>
  intro u F lo hi a b c level k w h m s j H B E A D C;simp only[aL.top] at B
  cases d:aL.apart lo hi a b
  .cases i:aL.kR g level .nil c
   .have e:aL.fm g level .nil lo hi a b c=Z:=by simp[aL.fm,i]
    rw[e];exact IA q .nil u F lo hi a b c level k w h m j O O d i
   .have e:aL.fm g level .nil lo hi a b c=U (max lo a):=by simp[aL.fm,i,d]
    rw[e];exact Iz q .nil u F lo hi a b c level k w h m j O O d i rfl
  .have e:aL.fm g level .nil lo hi a b c=Z:=by simp[aL.fm,d]
   rw[e];exact M7 u lo hi a b c k _ w d
 |node v l r ihl ihr =>
  intro u F lo hi a b c level k w h m s j H B E A D C;have I:0<=aL.top (.node v l r):=by let⟨_,x,_,_,e⟩:=aL.yw (.node v l r) lo hi A s;have:=aL.BB (.node v l r) lo hi x s;omega
  cases d:aL.apart lo hi a b
  .cases i:aL.kR g level (.node v l r) c
   .have e:aL.fm g level (.node v l r) lo hi a b c=Z:=by simp[aL.fm,i]
    rw[e];exact IA q _ u F lo hi a b c level k w h m j O O d i
   .cases z:aL.flat (.node v l r)
    .exact OT q v l r ihl ihr u F lo hi a b c level k w h m s j H B E A D C d i z
    .have y:(aL.isNil l && aL.isNil r)=UE:=z;have e:aL.fm g level (.node v l r) lo hi a b c=U (max lo a):=by rw[aL.fm];simp only[i,d,y,U4,U6,U7,if_false,if_true]
     rw[e];exact Iz q _ u F lo hi a b c level k w h m j O O d i z
  .have e:aL.fm g level (.node v l r) lo hi a b c=Z:=by simp[aL.fm,d]
   rw[e];exact M7 u lo hi a b c k _ w d
def pe(f:Ux->Ux)(long level s:Ux):Prop:=∀ x,s<=x->x<s+long->f x<=level
def tO(f:Ux->Ux)(a b long level:Ux):Uu Ux->Prop
 |none=>∀ s,a<=s->s+long<=b->¬ pe f long level s
 |some s=>a<=s/\s+long<=b/\pe f long level s/\∀ d,a<=d->d<s->¬ pe f long level d
theorem c4P(h:aL.rA (fun z=>level<f z) 0 1048320 st (st+long) Z)(g:0<=st)(d:st+long<=1048320):pe f long level st:=by grind[aL.rA,pe]
theorem Tf{b:Ux}(h:∀ i,a<=i->i<st->¬ pe f long level i)(t:level<f y5)(g:aL.rA (fun z=>f z<=level) 0 1048320 y5 b Z)(r:st<=y5)(q:y5<st+long)(m:0<=y5)(l:b<=1048320):tO f a b long level Z:=by
 intro i k s j;by_cases c:i<st
 .exact h i k c j
 .by_cases d:i<=y5
  .have:=j y5 d O;omega
  .have e:=j i O O;exact g i O O O O e
theorem c4U{b:Ux}(h:∀ s',a<=s'->s'<st->¬ pe f long level s')(l:level<f y5)(g:aL.rA (fun z=>f z<=level) 0 1048320 y5 b (U y6))(d:0<=a)(k:a<=st)(j:st<=y5)(i:y5<st+long):a<=y6/\y6<=1048320/\∀ s',a<=s'->s'<y6->¬ pe f long level s':=by grind[pe,aL.rA]
theorem c4V{b:Ux}(d:level<f y5)(g:aL.rA (fun z=>f z<=level) 0 1048320 y5 b (U y6)):y5<y6/\y6<1048320:=by grind[aL.rA]
theorem c3K(t:aL.T)(m o:Uw)(u:Uu UJ)(F:J Uw)(a b long level:Ux)(w:UF)(c:w.cell? ⟨m,o,Z⟩=U (UM u))(h:eC w t (UM u) F)(S:LB t)(L:aL.Good t 0 1048320)(h0:0<=a)(h1:a<b)(h2:b<=1048320)(h3:1<=long)(h4:long<=1048320):UI prog 159 #[UM (U ⟨m,o,Z⟩),UT #[V Y a,V Y b],V Y long,V Y level] w fun e w'=>∃ r:Uu Ux,e=UW (lg r)/\tO (aL.fh t 0 1048320) a b long level r/\UH w.heap.size w w':=by
 have tp:=S.top;have C1:Hid (∀ (w':UF) (x y:Ux),UH w.heap.size w w'->w'.cell? ⟨w.heap.size+1,0,Z⟩=U (V Y level)->x<y->UI prog 204 #[UM u,UT #[V Y 0,V Y 1048320],UT #[V Y x,V Y y],V Y 0,.func (.func 200) #[] #[UM (U ⟨w.heap.size+1,0,Z⟩)]] w' fun e w''=>e=UW (lg (aL.fm UE level t 0 1048320 x y 0))/\UH w'.heap.size w' w''):=by intro w' x y i j k;exact Iy (.inl ⟨rfl,rfl⟩) t u F 0 1048320 x y 0 level _ w' (h.later i) S L j O O O O O k
 have C2:Hid (∀ (w':UF) (x y:Ux),UH w.heap.size w w'->w'.cell? ⟨w.heap.size+1,0,Z⟩=U (V Y level)->x<y->UI prog 204 #[UM u,UT #[V Y 0,V Y 1048320],UT #[V Y x,V Y y],V Y 0,.func (.func 202) #[] #[UM (U ⟨w.heap.size+1,0,Z⟩)]] w' fun e w''=>e=UW (lg (aL.fm UD level t 0 1048320 x y 0))/\UH w'.heap.size w' w''):=by intro w' x y i j k;exact Iy (.inr ⟨rfl,rfl⟩) t u F 0 1048320 x y 0 level _ w' (h.later i) S L j O O O O O k
 have D1:Hid (∀ x y,x<y->aL.rA (fun z=>level<aL.fh t 0 1048320 z) 0 1048320 x y (aL.fm UE level t 0 1048320 x y 0)):=by intro x y k;have:=aL.Jh UE level t 0 1048320 x y 0 O k L;simpa only[aL.want,if_true,Vh] using this
 have D2:Hid (∀ x y,x<y->aL.rA (fun z=>aL.fh t 0 1048320 z<=level) 0 1048320 x y (aL.fm UD level t 0 1048320 x y 0)):=by intro x y k;have:=aL.Jh UD level t 0 1048320 x y 0 O k L;simpa only[aL.want,U7,if_false,Vh] using this
 clear h S L tp;go_in;go_wp2_with fail;have hX:UH w.heap.size w ((w.alloc (UX #[V Y a,V Y b] 83)).alloc (UX #[V Y level] 3)):=((zr _ _).alloc (zq _) _).alloc Ui _;have x1:((w.alloc (UX #[V Y a,V Y b] 83)).alloc (UX #[V Y level] 3)).cell? ⟨w.heap.size,1,Z⟩=U (V Y b):=Ui;have x2:((w.alloc (UX #[V Y a,V Y b] 83)).alloc (UX #[V Y level] 3)).cell? ⟨w.heap.size+1,0,Z⟩=U (V Y level):=Ui;have xc:=aT hX c;have g:=aB hX;clear hX c;generalize (Vj _ (UX #[V Y level] 3))=X at x1 x2 xc g ⊢;go_loopw [12,13,14] (fun s _ _ wx=>∃ st:Ux,s=V Y st/\a<=st/\st<=1048320/\(∀ q,a<=q->q<st->¬ pe (aL.fh t 0 1048320) long level q)/\UH X.heap.size X wx) (fun s _ _ _=>(1048321-intOf s).toNat)
 case atStart=>exact⟨a,rfl,by omega,by omega,fun q _ _=>by omega,Below.refl _ _⟩
 case round =>
  obtain⟨st,rfl,K,ac,I,A⟩:=hrel;have W:=aB I;have y1:=aT A x1;have y2:=aT A x2;have yc:=aT A xc;clear I;by_cases aa:st+long<=b
  .have ab:Y.wrap (st+long)=st+long:=dJ O O;have R:=aB (D1.out st (st+long) O);have E:=aB (fun w' i j=>C1.out w' st (st+long) i j O)
   cases C:aL.fm UE level t 0 1048320 st (st+long) 0 with
   |none =>
    rw[C] at R;simp only[C,lg] at E;clear C;go_upto_region 5 with fail;go_region_held3 (fun w'=>w'.cell? ⟨m,o,Z⟩=U (UM u)/\w'.cell? ⟨w.heap.size,1,Z⟩=U (V Y b)/\w'.cell? ⟨w.heap.size+1,0,Z⟩=U (V Y level)/\UH X.heap.size X w')
     (first
      |exact⟨yc,y1,y2,bU A (eN _) (zq _)⟩
      |(go_split_ands;exact⟨aT d Uk,aT d Uk,aT d Uk,bU Uk d (zq _)⟩))
     (first
      |(go_at_call 199;go_split_ands;refine (wT _).mono ?_;rintro e w4 ⟨rfl,d⟩)
      |(go_at_call 204;go_split_ands;refine (E.out _ (bU g.out Uk (zq _)) Uk).mono ?_;rintro e w5 ⟨rfl,d⟩))
    have HF:=aB (bU g.out (by go_split_ands;assumption:UH X.heap.size X w5) (zq _));clear E C1 C2 D2 D1 g;go_wp2;go_ret2;exact⟨U st,rfl,⟨K,aa,c4P R.out O O,W.out⟩,HF.out⟩
   |some y5 =>
    rw[C] at R;simp only[C,lg] at E;clear C;obtain⟨_,g2,g3,g4,g5,g6⟩:=R.out;have P:level<aL.fh t 0 1048320 y5:=g5;have l:=aB P;clear g5 P g6 R;have Q:=aB (D2.out y5 b O);have D:=aB (fun w' i j=>C2.out w' y5 b i j O);go_upto_region 5 with fail;go_region_held3 (fun w'=>w'.cell? ⟨m,o,Z⟩=U (UM u)/\w'.cell? ⟨w.heap.size,1,Z⟩=U (V Y b)/\w'.cell? ⟨w.heap.size+1,0,Z⟩=U (V Y level)/\UH X.heap.size X w')
     (first
      |exact⟨yc,y1,y2,bU A (eN _) (zq _)⟩
      |(go_split_ands;exact⟨aT d Uk,aT d Uk,aT d Uk,bU Uk d (zq _)⟩))
     (first
      |(go_at_call 199;go_split_ands;refine (wT _).mono ?_;rintro e w4 ⟨rfl,d⟩)
      |(go_at_call 204;go_split_ands;refine (E.out _ (bU g.out Uk (zq _)) Uk).mono ?_;rintro e w5 ⟨rfl,d⟩))
    have H:UH X.heap.size X w5:=by go_split_ands;assumption
    have z1:=aT H x1;have z2:=aT H x2;have zc:=aT H xc;clear E;go_upto_region 8 with fail
    cases B:aL.fm UD level t 0 1048320 y5 b 0 with
    |none =>
     rw[B] at Q;simp only[B,lg] at D;clear B;go_region_held3 (fun w'=>w'.cell? ⟨m,o,Z⟩=U (UM u)/\w'.cell? ⟨w.heap.size,1,Z⟩=U (V Y b)/\w'.cell? ⟨w.heap.size+1,0,Z⟩=U (V Y level)/\UH X.heap.size X w')
     (first
      |exact⟨zc,z1,z2,bU H (eN _) (zq _)⟩
      |(go_split_ands;exact⟨aT d Uk,aT d Uk,aT d Uk,bU Uk d (zq _)⟩))
     (first
      |(go_at_call 199;go_split_ands;refine (wT _).mono ?_;rintro e w4 ⟨rfl,d⟩)
      |(go_at_call 204;go_split_ands;refine (D.out _ (bU g.out Uk (zq _)) Uk).mono ?_;rintro e w6 ⟨rfl,d⟩))
     have HF:=aB (bU g.out (by go_split_ands;assumption:UH X.heap.size X w6) (zq _));clear D C1 C2 D2 D1 g;go_wp2;go_ret2;exact⟨Z,rfl,Tf W.out l.out Q.out g3 O O O,HF.out⟩
    |some y6 =>
     rw[B] at Q;simp only[B,lg] at D;clear B;go_region_held3 (fun w'=>w'.cell? ⟨m,o,Z⟩=U (UM u)/\w'.cell? ⟨w.heap.size,1,Z⟩=U (V Y b)/\w'.cell? ⟨w.heap.size+1,0,Z⟩=U (V Y level)/\UH X.heap.size X w')
     (first
      |exact⟨zc,z1,z2,bU H (eN _) (zq _)⟩
      |(go_split_ands;exact⟨aT d Uk,aT d Uk,aT d Uk,bU Uk d (zq _)⟩))
     (first
      |(go_at_call 199;go_split_ands;refine (wT _).mono ?_;rintro e w4 ⟨rfl,d⟩)
      |(go_at_call 204;go_split_ands;refine (D.out _ (bU g.out Uk (zq _)) Uk).mono ?_;rintro e w6 ⟨rfl,d⟩))
     have hv:UH X.heap.size X w6:=by go_split_ands;assumption
     have HV:=aB hv;clear D C1 C2 D2 D1 g hv;go_wp2;go_roundw
     case rel=>have nx:=c4U W.out l.out Q.out h0 K g3 O;exact⟨y6,rfl,nx.1,nx.2.1,nx.2.2,HV.out⟩
     case measure=>simp[intOf];have:=c4V l.out Q.out;omega
  .go_wp2
   go_ret2;exact⟨Z,rfl,fun q i j=>W.out q i O,bU g.out A (zq _)⟩
namespace aF
structure It where
 f:Ux
 t:Ux
 n:Ux
 v:Uw
inductive S where
 |nil:S
 |node (x:It) (l r:S):S
def isNil:S->Uv
 |.nil=>UE
 |.node ..=>UD
def left:S->S
 |.nil=>.nil
 |.node _ l _=>l
def right:S->S
 |.nil=>.nil
 |.node _ _ r=>r
def ht:S->Ux
 |.nil=>0
 |.node _ l r=>1+max (ht l) (ht r)
def Jq(x:Ux)(l r:S)(g d:Ux):Ux :=let m:=if isNil l then x else max x g;if isNil r then m else max m d
def late:S->Ux
 |.nil=>0
 |.node x l r=>Jq x.t l r (late l) (late r)
def size:S->Uw
 |.nil=>0
 |.node _ l r=>1+size l+size r
def cT:S->J It
 |.nil=>[]
 |.node x l r=>cT l++x :: cT r
def side(f n:Ux)(x:It):Ux:=if f<x.f then -1 else if x.f<f then 1 else if n<x.n then -1 else if x.n<n then 1 else 0
def uI:S->S
 |.node x (.node y a b) r=>.node y a (.node x b r)
 |t=>t
def uH:S->S
 |.node x l (.node y a b)=>.node y (.node x l a) b
 |t=>t
def tA(x:It)(l r:S):S:=uI (.node x (if ht (left l)<ht (right l) then uH l else l) r)
def tC(x:It)(l r:S):S:=uH (.node x l (if ht (right r)<ht (left r) then uI r else r))
def iM(x:It)(l r:S):S:=if 1<ht l-ht r then tA x l r else if ht l-ht r < -1 then tC x l r else .node x l r
def put(x:It):S->S
 |.nil=>iM x .nil .nil
 |.node y l r=>if side x.f x.n y<0 then iM y (put x l) r else if 0<side x.f x.n y then iM y l (put x r) else iM { y with t:=x.t,v:=x.v } l r
def qF:It->S->S->It
 |x,.nil,_=>x
 |_,.node y a b,_=>qF y a b
def nC:It->S->S->S
 |_,.nil,r=>r
 |x,.node y a b,r=>iM x (nC y a b) r
def nB(l:S):S->S
 |.nil=>l
 |.node y a b=>iM (qF y a b) l (nC y a b)
def drop(f n:Ux):S->S
 |.nil=>.nil
 |.node y l r=>if side f n y<0 then iM y (drop f n l) r else if 0<side f n y then iM y l (drop f n r) else nB l r
theorem mB:∀ t:S,0<=ht t
 |.nil=>by simp[ht]
 |.node _ l r=>by have:=mB l;have:=mB r;simp only[ht];omega
theorem oH:∀ t:S,ht t<=size t
 |.nil=>by simp[ht,size]
 |.node _ l r=>by have:=oH l;have:=oH r;simp only[ht,size];omega
theorem Bl{t:S}(h:0<ht t):∃ x l r,t=.node x l r:=by
 cases t with
 |nil=>simp[ht] at h
 |node x l r=>exact⟨x,l,r,rfl⟩
theorem Mk(t:S):cT (uI t)=cT t:=by
 cases t with
 |nil=>rfl
 |node x l r=>cases l <;> simp[uI,cT]
theorem Mj(t:S):cT (uH t)=cT t:=by
 cases t with
 |nil=>rfl
 |node x l r=>cases r <;> simp[uH,cT]
theorem pS(x:It)(l r:S):cT (iM x l r)=cT l++x :: cT r:=by
 unfold iM;split
 .unfold tA;rw[Mk];split <;> simp[cT,Mj]
 .split
  .unfold tC;rw[Mj];split <;> simp[cT,Mk]
  .rfl
theorem pg:∀ t:S,(cT t).length=size t
 |.nil=>rfl
 |.node x l r=>by have:=pg l;have:=pg r;simp only[cT,size,List.length_append,List.length_cons];omega
theorem FX:∀ (x:It)(l r:S),qF x l r :: cT (nC x l r)=cT l++x :: cT r
 |x,.nil,r=>by simp[qF,nC,cT]
 |x,.node y a b,r=>by have:=FX y a b;simp only[qF,nC,pS,cT];rw[<- Vm,this]
theorem MI(l r:S):cT (nB l r)=cT l++cT r:=by
 cases r with
 |nil=>simp[nB,cT]
 |node y a b=>simp only[nB,pS];rw[FX];rfl
def lt(x y:It):Prop:=x.f<y.f\/(x.f=y.f/\x.n<y.n)
theorem wL{f n:Ux}{x:It}:side f n x<0↔f<x.f\/(f=x.f/\n<x.n):=by
 unfold side;repeat' split
 all_goals omega
theorem Bd{f n:Ux}{x:It}:0<side f n x↔x.f<f\/(f=x.f/\x.n<n):=by
 unfold side;repeat' split
 all_goals omega
def ins(x:It):J It->J It
 |[]=>[x]
 |y :: r=>if side x.f x.n y<0 then x :: y :: r else y :: ins x r
theorem KZ{x y:It}(h:side x.f x.n y<0)(R:J It):∀ L:J It,ins x (L++y :: R)=ins x L++y :: R
 |[]=>by simp[ins,h]
 |z :: L=>by simp only[Vm,ins];split;simp;rw[KZ h R L];simp
theorem Ml{x:It}(R:J It):∀ L:J It,(∀ z∈L,¬ side x.f x.n z<0)->ins x (L++R)=L++ins x R
 |[],_=>rfl
 |z :: L,h=>by simp only[Vm,ins];rw[Uy (h z Ui),Ml R L (fun y d=>h y (by simp[d]))]
def Ord(l:J It):Prop:=l.Pairwise lt
theorem EK{x:It}{l r:S}(h:Ord (cT (.node x l r))):Ord (cT l)/\Ord (cT r)/\(∀ z∈cT l,lt z x)/\(∀ z∈cT r,lt x z):=by simp only[cT,Ord,List.pairwise_append,Vn] at h;exact⟨h.1,h.2.1.2,fun z d=>h.2.2 z d x Ui,h.2.1.1⟩
theorem Fj(x:It):∀ t:S,Ord (cT t)->(∀ z∈cT t,¬ (z.f=x.f/\z.n=x.n))->cT (put x t)=ins x (cT t)
 |.nil,_,_=>by simp[put,pS,cT,ins]
 |.node y l r,h,hn=>by
  let⟨h1,h2,h3,h4⟩:=EK h;have g:=hn y (by simp[cT]);unfold put;by_cases a:side x.f x.n y<0
  .rw[Uz a,pS,Fj x l h1 (fun z d=>hn z (by simp[cT,d]))];simp only[cT];rw[KZ a]
  .by_cases b:0<side x.f x.n y
   .rw[Uy a,Uz b,pS,Fj x r h2 (fun z d=>hn z (by simp[cT,d]))];simp only[cT];rw[Ml _ _ (fun z d=>?_)]
    .simp[ins,a]
    .have:=h3 z d;rw[wL];rw[Bd] at b;unfold lt at this;omega
   .rw[wL] at a;rw[Bd] at b;omega
theorem Bm{p:It->Uv}{l:J It}(h:∀ z∈l,p z=UE):l.filter p=l:=List.filter_eq_self.2 h
def pN(f n:Ux)(z:It):Uv:=!(decide (z.f=f) && decide (z.n=n))
theorem Mw{f n:Ux}{z y:It}(h:side f n y<0)(k:z=y\/lt y z):pN f n z=UE:=by grind[side,lt,pN]
theorem Mv{f n:Ux}{z y:It}(h:0<side f n y)(k:z=y\/lt z y):pN f n z=UE:=by grind[side,lt,pN]
theorem FW(f n:Ux):∀ t:S,Ord (cT t)->cT (drop f n t)=(cT t).filter (pN f n)
 |.nil,_=>rfl
 |.node y l r,h=>by
  let⟨h1,h2,h3,h4⟩:=EK h;unfold drop;by_cases a:side f n y<0
  .rw[Uz a,pS,FW f n l h1];simp only[cT,Vo,Vp,Mw a (.inl rfl),if_true];rw[Bm (l:=cT r) (fun z d=>Mw a (.inr (h4 z d)))]
  .by_cases b:0<side f n y
   .rw[Uy a,Uz b,pS,FW f n r h2];simp only[cT,Vo,Vp,Mv b (.inl rfl),if_true];rw[Bm (l:=cT l) (fun z d=>Mv b (.inr (h3 z d)))]
   .rw[Uy a,Uy b,MI];have e:f=y.f/\n=y.n:=by rw[wL] at a;rw[Bd] at b;omega
    have g:pN f n y=UD:=by simp[pN,e.1,e.2]
    simp only[cT,Vo,Vp,g];rw[Bm (l:=cT l) (fun z d=>?_),Bm (l:=cT r) (fun z d=>?_)]
    .simp
    .have:=h4 z d;simp[pN];unfold lt at this;omega
    .have:=h3 z d;simp[pN];unfold lt at this;omega
theorem AX{x z:It}:∀ {l:J It},z∈ins x l↔z=x\/z∈l
 |[]=>by simp[ins]
 |y :: r=>by
  simp only[ins];split
  .simp
  .simp[AX (l:=r)];constructor
   .rintro (h|h|h)
    .exact .inr (.inl h)
    .exact .inl h
    .exact .inr (.inr h)
   .rintro (h|h|h)
    .exact .inr (.inl h)
    .exact .inl h
    .exact .inr (.inr h)
theorem Mn(x:It):∀ l:J It,(ins x l).length=l.length+1
 |[]=>rfl
 |y :: r=>by simp only[ins];split;simp;simp[Mn x r]
theorem JQ{x:It}:∀ {l:J It},Ord l->(∀ z∈l,¬ (z.f=x.f/\z.n=x.n))->Ord (ins x l)
 |[],_,_=>by simp[ins,Ord]
 |y :: r,h,hn=>by
  simp only[Ord,Vn] at h;have g:=hn y Ui;simp only[ins];split
  .rename_i a
   rw[wL] at a;refine Vn.2 ⟨fun z d=>?_,Vn.2 h⟩;rcases Va.1 d with rfl|d
   .unfold lt;omega
   .have:=h.1 z d;unfold lt at *;omega
  .rename_i a
   refine Vn.2 ⟨fun z d=>?_,JQ h.2 (fun z d=>hn z (by simp[d]))⟩;rcases AX.1 d with rfl|d
   .rw[wL] at a;unfold lt;omega
   .exact h.1 z d
theorem Mr{l:J It}(p:It->Uv)(h:Ord l):Ord (l.filter p):=Vq p h
def meets(a b:Ux)(x:It):Uv:=decide (x.f<b) && decide (a<x.t)
def meet(a b:Ux):S->J It
 |.nil=>[]
 |.node x l r=>if late (.node x l r)<=a then [] else meet a b l++if b<=x.f then [] else (if a<x.t then [x] else [])++meet a b r
theorem Eb:∀ (t:S),∀ z∈cT t,z.t<=late t
 |.nil=>by simp[cT]
 |.node x l r=>by
  have h:=Eb l;have g:=Eb r;intro z d;simp only[late,Jq];simp only[cT,Vb,Va] at d;rcases d with d|rfl|d
  .have:=h z d;have e:isNil l=UD:=by cases l <;> simp_all [isNil,cT]
   simp only[e,U7,if_false];split <;> omega
  .split <;> split <;> omega
  .have:=g z d;have e:isNil r=UD:=by cases r <;> simp_all [isNil,cT]
   simp only[e,U7,if_false];split <;> omega
theorem AW(a b:Ux):∀ t:S,Ord (cT t)->meet a b t=(cT t).filter (meets a b)
 |.nil,_=>rfl
 |.node x l r,h=>by
  let⟨h1,h2,h3,h4⟩:=EK h;have i:=Eb (.node x l r);unfold meet;split
  .rename_i hc
   symm;rw[Vr];intro z d;have:=i z d;simp[meets];omega
  .rw[AW a b l h1];simp only[cT,Vo]
   congr 1;split
   .rename_i hb
    symm;rw[Vr];intro z d;rcases Va.1 d with rfl|d
    .simp[meets];omega
    .have:=h4 z d;unfold lt at this;simp[meets];omega
   .rename_i hb
    rw[AW a b r h2,Vp];have g:x.f<b:=O;simp only[meets,g,decide_true,Bool.true_and,decide_eq_true_eq];split <;> rfl
end aF
structure je(w:UF)(b:Uw)(x:aF.It):Prop where
 c0:w.cell? (b,0)=U (V Y x.f)
 c1:w.cell? (b,1)=U ↑x.t
 c2:w.cell? (b,2)=U (V Y x.n)
 c3:w.cell? (b,3)=U ↑x.v
 c4:∃ y,w.cell? (b,4)=U (V Y y)
 c5:∃ y,w.cell? (b,5)=U (V Y y)
 c6:∃ y,w.cell? (b,6)=U (UM y)
 c7:∃ y,w.cell? (b,7)=U (UM y)
 fz:∀ o,w.frozen? ⟨b,o,Z⟩=UD
def eB(w:UF):aF.S->UG->J Uw->Prop
 |.nil,p,F=>p=UM Z/\F=[]
 |.node x l r,p,F=>∃ (b:Uw) (pl pr:Uu UJ) (Fl Fr:J Uw),p=UM (U ⟨b,0,Z⟩)/\je w b x/\w.cell? ⟨b,4,Z⟩=U (V Y (aF.late (.node x l r)))/\w.cell? ⟨b,5,Z⟩=U (V Y (aF.ht (.node x l r)))/\w.cell? ⟨b,6,Z⟩=U (UM pl)/\w.cell? ⟨b,7,Z⟩=U (UM pr)/\eB w l (UM pl) Fl/\eB w r (UM pr) Fr/\F=b :: (Fl++Fr)/\F.Nodup
structure dO(w:UF)(b:Uw)(x:aF.It)(l r:aF.S)(pl pr:Uu UJ)(Fl Fr:J Uw):Prop where
 n:je w b x
 c6:w.cell? (b,6)=U ↑pl
 c7:w.cell? (b,7)=U ↑pr
 l:eB w l pl Fl
 r:eB w r pr Fr
 nd:(b :: (Fl++Fr)).Nodup
theorem je.lt{x:aF.It}(h:je w b x):b<w:=U1 _ _ h.c0
theorem je.off{x:aF.It}(h:je w b x)(k:aH G w w')(d:b ∉ G):je w' b x :=⟨k.cell d h.c0,k.cell d h.c1,k.cell d h.c2,k.cell d h.c3,h.c4.imp (fun _=>k.cell d),h.c5.imp (fun _=>k.cell d),h.c6.imp (fun _=>k.cell d),h.c7.imp (fun _=>k.cell d),fun o=>(k.frozen d h.lt).trans (h.fz o)⟩
theorem je.nJ{x:aF.It}(h:je w b x)(y:Ux):je (w.setCell (b,4) y) b x:=by let⟨_,e⟩:=h.c4;exact⟨(bC Ui).trans h.c0,(bC Ui).trans h.c1,(bC Ui).trans h.c2,(bC Ui).trans h.c3,⟨_,Ve _ _ _ e⟩,h.c5.imp (fun _ e=>(bC Ui).trans e),h.c6.imp (fun _ e=>(bC Ui).trans e),h.c7.imp (fun _ e=>(bC Ui).trans e),fun o=>(zF ..).trans (h.fz o)⟩
theorem je.rP{x:aF.It}(h:je w b x)(y:Ux):je (w.setCell (b,5) y) b x:=by let⟨_,e⟩:=h.c5;exact⟨(bC Ui).trans h.c0,(bC Ui).trans h.c1,(bC Ui).trans h.c2,(bC Ui).trans h.c3,h.c4.imp (fun _ e=>(bC Ui).trans e),⟨_,Ve _ _ _ e⟩,h.c6.imp (fun _ e=>(bC Ui).trans e),h.c7.imp (fun _ e=>(bC Ui).trans e),fun o=>(zF ..).trans (h.fz o)⟩
theorem je.vS{x:aF.It}(h:je w b x)(y:Uu UJ):je (w.setCell (b,6) y) b x:=by let⟨_,e⟩:=h.c6;exact⟨(bC Ui).trans h.c0,(bC Ui).trans h.c1,(bC Ui).trans h.c2,(bC Ui).trans h.c3,h.c4.imp (fun _ e=>(bC Ui).trans e),h.c5.imp (fun _ e=>(bC Ui).trans e),⟨_,Ve _ _ _ e⟩,h.c7.imp (fun _ e=>(bC Ui).trans e),fun o=>(zF ..).trans (h.fz o)⟩
theorem je.dE{x:aF.It}(h:je w b x)(y:Uu UJ):je (w.setCell (b,7) y) b x:=by let⟨_,e⟩:=h.c7;exact⟨(bC Ui).trans h.c0,(bC Ui).trans h.c1,(bC Ui).trans h.c2,(bC Ui).trans h.c3,h.c4.imp (fun _ e=>(bC Ui).trans e),h.c5.imp (fun _ e=>(bC Ui).trans e),h.c6.imp (fun _ e=>(bC Ui).trans e),⟨_,Ve _ _ _ e⟩,fun o=>(zF ..).trans (h.fz o)⟩
theorem eB.lt{w:UF}:∀ {t:aF.S}{p:UG}{F:J Uw},eB w t p F->∀ k∈F,k<w
 |.nil,p,F,h,k,d=>by rw[h.2] at d;cases d
 |.node a l r,p,F,h,k,d=>by
  obtain⟨b,pl,pr,Fl,Fr,rfl,n,x,s,q,m,i,g,rfl,j⟩:=h;rcases Va.1 d with rfl|d
  .exact n.lt
  .rcases Vb.1 d with d|d
   .exact eB.lt i k d
   .exact eB.lt g k d
theorem eB.off{G:J Uw}{w w':UF}(h:aH G w w'):∀ {t:aF.S}{p:UG}{F:J Uw},eB w t p F->(∀ k∈F,k ∉ G)->eB w' t p F
 |.nil,p,F,d,_=>d
 |.node a l r,p,F,d,hd=>by obtain⟨b,pl,pr,Fl,Fr,rfl,n,y,x,s,q,m,d,rfl,j⟩:=d;have g:=hd b Ui;exact⟨b,pl,pr,Fl,Fr,rfl,n.off h g,h.cell g y,h.cell g x,h.cell g s,h.cell g q,eB.off h m (fun k i=>hd k (by simp[i])),eB.off h d (fun k i=>hd k (by simp[i])),rfl,j⟩
theorem eB.same{t:aF.S}(h:eB w t p F)(k:aH [] w w'):eB w' t p F:=h.off k (fun _ _=>by simp)
theorem eB.later{t:aF.S}(h:eB w t p F)(k:UH w w w'):eB w' t p F:=h.same (aH.aD k)
theorem eB.nodup{t:aF.S}(h:eB w t p F):F.Nodup:=by
 cases t with
 |nil=>rw[h.2];exact Vc
 |node a l r=>let⟨b,_,_,_,_,_,_,_,_,_,_,_,_,_,nd⟩:=h;exact nd
theorem eB.half{x:aF.It}{l r:aF.S}(h:eB w (.node x l r) u F):∃ (b:Uw)(pl pr:Uu UJ)(Fl Fr:J Uw),u=U ⟨b,0,Z⟩/\F=b :: (Fl++Fr)/\dO w b x l r pl pr Fl Fr/\w.cell? (b,4)=U (V Y (aF.late (.node x l r)))/\w.cell? (b,5)=U (V Y (aF.ht (.node x l r))):=by
 let⟨b,pl,pr,Fl,Fr,hp,n,c4,c5,c6,c7,hl,hr,hF,nd⟩:=h
 cases hp;exact⟨b,pl,pr,Fl,Fr,rfl,hF,⟨n,c6,c7,hl,hr,hF ▸ nd⟩,c4,c5⟩
theorem dO.rep{x:aF.It}{l r:aF.S}(h:dO w b x l r pl pr Fl Fr)(g:w.cell? (b,4)=U (V Y (aF.late (.node x l r))))(d:w.cell? (b,5)=U (V Y (aF.ht (.node x l r)))):eB w (.node x l r) b (b :: (Fl++Fr)) :=⟨b,pl,pr,Fl,Fr,rfl,h.n,g,d,h.c6,h.c7,h.l,h.r,rfl,h.nd⟩
theorem dO.off{x:aF.It}{l r:aF.S}(h:dO w b x l r pl pr Fl Fr)(k:aH G w w')(d:b ∉ G)(i:∀ y∈Fl,y ∉ G)(g:∀ y∈Fr,y ∉ G):dO w' b x l r pl pr Fl Fr :=⟨h.n.off k d,k.cell d h.c6,k.cell d h.c7,h.l.off k i,h.r.off k g,h.nd⟩
theorem dO.same{x:aF.It}{l r:aF.S}(h:dO w b x l r pl pr Fl Fr)(k:aH [] w w'):dO w' b x l r pl pr Fl Fr:=h.off k Ui Ui Ui
theorem dO.parts{x:aF.It}{l r:aF.S}(h:dO w b x l r pl pr Fl Fr):b ∉ Fl/\b ∉ Fr/\(∀ y∈Fl,y ∉ [b])/\(∀ y∈Fr,y ∉ [b])/\(∀ y∈Fr,y ∉ Fl)/\(∀ y∈Fl,y ∉ Fr)/\Fl.Nodup/\Fr.Nodup:=by have i:=h.nd;rw[Vd,Vi] at i;let⟨n1,n2,n3,n4⟩:=i;exact⟨fun e=>n1 (by simp[e]),fun e=>n1 (by simp[e]),fun y d=>by grind,fun y d=>by grind,fun y g d=>n4 y d y g rfl,fun y g d=>n4 y g y d rfl,n2,n3⟩
theorem dO.lt{x:aF.It}{l r:aF.S}(h:dO w b x l r pl pr Fl Fr):∀ k∈b :: (Fl++Fr),k<w:=by
 intro k d;rcases Va.1 d with rfl|d
 .exact h.n.lt
 .rcases Vb.1 d with d|d
  .exact h.l.lt k d
  .exact h.r.lt k d
theorem dO.nJ{x:aF.It}{l r:aF.S}(h:dO w b x l r pl pr Fl Fr)(y:Ux):dO (w.setCell (b,4) y) b x l r pl pr Fl Fr :=⟨h.n.nJ y,(bC Ui).trans h.c6,(bC Ui).trans h.c7,h.l.off (aH.bM ..) h.parts.2.2.1,h.r.off (aH.bM ..) h.parts.2.2.2.1,h.nd⟩
theorem dO.rP{x:aF.It}{l r:aF.S}(h:dO w b x l r pl pr Fl Fr)(y:Ux):dO (w.setCell (b,5) y) b x l r pl pr Fl Fr :=⟨h.n.rP y,(bC Ui).trans h.c6,(bC Ui).trans h.c7,h.l.off (aH.bM ..) h.parts.2.2.1,h.r.off (aH.bM ..) h.parts.2.2.2.1,h.nd⟩
theorem dO.mI{x:aF.It}{r i:aF.S}(h:je w b x)(m:w.cell? (b,7)=U ↑pr)(l:eB w i u F')(k:eB w r pr Fr)(g:(b :: (F'++Fr)).Nodup):dO (w.setCell (b,6) u) b x i r u pr F' Fr:=by let⟨_,e⟩:=h.c6;have d:=g;rw[Vd,Vi] at d;exact⟨h.vS u,Ve _ _ _ e,(bC Ui).trans m,l.off (aH.bM ..) (fun y j=>by grind),k.off (aH.bM ..) (fun y j=>by grind),g⟩
theorem dO.lA{x:aF.It}{l g:aF.S}(h:je w b x)(q:w.cell? (b,6)=U ↑pl)(m:eB w l pl Fl)(k:eB w g u F')(i:(b :: (Fl++F')).Nodup):dO (w.setCell (b,7) u) b x l g pl u Fl F':=by let⟨_,e⟩:=h.c7;have d:=i;rw[Vd,Vi] at d;exact⟨h.dE u,(bC Ui).trans q,Ve _ _ _ e,m.off (aH.bM ..) (fun y j=>by grind),k.off (aH.bM ..) (fun y j=>by grind),i⟩
theorem c2e(w:UF):UI prog 248 #[UM Z] w fun e w'=>e=UW (V Y 0)/\w'=w:=by
 go_in;go_wp2;go_ret;exact⟨rfl,rfl⟩
theorem b9m(b:Uw)(x:Ux)(w:UF)(d:w.cell? (b,5)=U ↑x):UI prog 248 #[b] w fun e w'=>e=UW x/\w'=w:=by
 go_in;go_wp2;go_ret;exact⟨rfl,rfl⟩
theorem mA{t:aF.S}(w:UF)(h:eB w t u F):UI prog 248 #[u] w fun e w'=>e=UW (V Y (aF.ht t))/\w'=w:=by
 cases t with
 |nil=>let⟨h1,_⟩:=h;cases h1;exact c2e w
 |node a l r=>let⟨b,pl,pr,Fl,Fr,hp,n,c4,c5,_⟩:=h;cases hp;exact b9m b _ w c5
theorem dO.drew{x:aF.It}{l r:aF.S}(h:dO w b x l r pl pr Fl Fr):dO w.drew b x l r pl pr Fl Fr:=h.same (aH.refl _ _).drew
theorem DM{x:aF.It}{l r:aF.S}(h:dO w b x l r pl pr Fl Fr):w.cell? (b,6)=U ↑pl/\w.cell? (b,7)=U ↑pr/\dO w b x l r pl pr Fl Fr:=⟨h.c6,h.c7,h⟩
def AB(w:UF)(t:aF.S):Uu UJ->Prop
 |none=>aF.isNil t=UE
 |some a=>a.off=0/\a.spot=Z/\aF.isNil t=UD/\w.cell? (a.block,4)=U (V Y (aF.late t))
theorem eB.AB{t:aF.S}(h:eB w t (UM u) F):AB w t u:=by
 cases t with
 |nil=>let⟨h1,_⟩:=h;cases h1;rfl
 |node a l r=>let⟨b,pl,pr,Fl,Fr,hp,n,c4,_⟩:=h;cases hp;exact⟨rfl,rfl,rfl,c4⟩
structure ye(w wx:UF)(b:Uw)(x:aF.It)(l r:aF.S)(pl pr:Uu UJ)(Fl Fr:J Uw)(hh m:Ux):Prop where
 half:dO wx b x l r pl pr Fl Fr
 c4:wx.cell? (b,4)=U ↑m
 c5:wx.cell? (b,5)=U ↑hh
 off:aH [b] w wx
theorem ye.nJ{wx:UF}{x:aF.It}{l r:aF.S}{d m:Ux}(h:ye w wx b x l r pl pr Fl Fr d m)(m':Ux):ye w (wx.setCell (b,4) m').drew b x l r pl pr Fl Fr d m' :=⟨(h.half.nJ m').drew,Ve _ _ _ h.c4,(bC Ui).trans h.c5,(h.off.setCell (.inl Ui) _ _).drew⟩
theorem yZ(w:UF)(b:Uw)(x:aF.It)(l r:aF.S)(pl pr:Uu UJ)(Fl Fr:J Uw)(h:dO w b x l r pl pr Fl Fr)(hl:aF.ht l<=100000)(hr:aF.ht r<=100000):UI prog 251 #[b] w fun e w'=>e=UW (US #[])/\eB w' (.node x l r) b (b :: (Fl++Fr))/\aH [b] w w':=by
 have h1:=aF.mB l;have h2:=aF.mB r;have e3:UV.wrap (1+if aF.ht l<aF.ht r then aF.ht r else aF.ht l)=1+max (aF.ht l) (aF.ht r):=by rw[DG];exact dJ O O
 have E3:=aB e3;clear e3;have f5:=h.n.fz 5;obtain⟨y5,c5⟩:=h.n.c5;have d:((w.setCell (b,5) (V UV (1+max (aF.ht l) (aF.ht r)))).drew).cell? (b,5)=U (V UV (1+max (aF.ht l) (aF.ht r))):=zm _ _ _ c5;have g:=aB (Vf (h.rP (1+max (aF.ht l) (aF.ht r))).drew (Vf d ((aH.bM b w 5 (V UV (1+max (aF.ht l) (aF.ht r)))).drew)));clear d;go_in;go_wp21;go_region_held3 (fun w'=>w'.cell? (b,6)=U ↑pl/\w'.cell? (b,7)=U ↑pr/\dO w' b x l r pl pr Fl Fr)
  (first
   |exact DM h.drew
   |exact DM (dO.drew (dO.rP h _)))
  (first
   |(go_at_call_of 248 (UM pl);go_split_ands;refine aY (mA _ (dO.l Uk)) ?_)
   |(go_at_call_of 248 (UM pr);go_split_ands;refine aY (mA _ (dO.r Uk)) ?_))
 rw[E3,vX];obtain⟨j,P,H⟩:=g.out;clear g;generalize (Vg _ (b,5) (V UV (1+max (aF.ht l) (aF.ht r)))).drew=X at j P H ⊢;clear h f5 c5;have c1:=j.n.c1;have c6:=j.c6;have c7:=j.c7;obtain⟨y4,c4⟩:=j.n.c4;have I:=j.n.fz 4;have d:(X.setCell (b,4) x.t).cell? (b,4)=U ↑x.t:=zm _ _ _ c4;have y:(X.setCell (b,4) x.t).cell? (b,5)=U (V UV (1+max (aF.ht l) (aF.ht r))):=(bC Ui).trans P;have g:=aB (Vf (j.nJ x.t) (Vf d (Vf y (H.setCell (R:=b) (.inl Ui) 4 x.t))));clear d y;go_upto_region 2 with fail;obtain⟨i,E,D,C⟩:=g.out;clear g c1 c6 c7 c4 I j P H;generalize (Vg X (b,4) x.t)=Y at i E D C ⊢;have d6:=i.c6;go_upto_if 28 with fail;clear d6;go_cut [28] from 24 to 43 (fun _ wx=>ye w wx b x l r pl pr Fl Fr (1+max (aF.ht l) (aF.ht r)) (if aF.isNil l then x.t else max x.t (aF.late l)))
 .have d6:=i.c6;have d7:=i.c7;have I:=i.n.fz 4;have W:=i.l.AB
  cases pl with
  |none =>have z:aF.isNil l=UE:=W;go_wp21;go_meet;rw[Uz z];exact⟨i,E,D,C⟩
  |some q =>
   obtain⟨Q,ol,sl⟩:=q;obtain⟨L,K,z,A⟩:=W
   cases L
   cases K;have A:Y.cell? (Q,4)=U (V UV (aF.late l)):=A;go_wp21;go_region;all_goals rw[vX];go_wp21;go_meet;rw[Uy (by simp[z])];exact ye.nJ ⟨i,E,D,C⟩ _
 .have k:=hcut;clear hcut i E D C;have m4:=k.c4;have B:=aB k;have e9:aF.late (.node x l r)=if aF.isNil r then (if aF.isNil l then x.t else max x.t (aF.late l)) else max (if aF.isNil l then x.t else max x.t (aF.late l)) (aF.late r):=rfl
  have E9:=aB e9;clear e9;generalize (if aF.isNil l then x.t else max x.t (aF.late l))=m at *;have d7:=k.half.c7;have I:=k.half.n.fz 4;have T:=k.half.r.AB;clear k
  cases pr with
  |none =>have er:aF.isNil r=UE:=T;have s:=aB (B.half.rep (by rw[B.c4,E9,Uz er]) B.c5);go_wp21;go_end0;exact⟨rfl,s,B.off⟩
  |some q =>
   obtain⟨Q,ol,sl⟩:=q;obtain⟨L,K,z,A⟩:=T
   cases L
   cases K;have A:wc.cell? (Q,4)=U (V UV (aF.late r)):=A;have s:=aB (B.nJ (max m (aF.late r)));have HR:=aB (s.half.rep (by rw[s.c4,E9,Uy (by simp[z])]) s.c5);go_wp21;go_region;all_goals rw[vX];go_wp21;go_end0;exact⟨rfl,HR,s.off⟩
def nH(w:UF)(F:J Uw)(d:aF.S)(e:Ending)(w':UF):Prop :=∃ (u:Uu UJ) (F':J Uw),e=UW u/\eB w' d u F'/\(∀ k∈F',k∈F)/\aH F w w'
theorem Mp{a b:J Uw}(h:a.Perm b)(k:a.Nodup):b.Nodup:=h.nodup_iff.1 k
theorem b9c{x y:aF.It}{s t r:aF.S}(h:dO w b x (.node y s t) r u pr Fl Fr):
  ∃ (bl:Uw) (pa d:Uu UJ) (Fa g:J Uw),u=U ⟨bl,0,Z⟩/\Fl=bl :: (Fa++g)/\w.cell? (bl,7)=U ↑d/\w.frozen? (bl,7)=UD/\b≠bl /\
   dO ((w.setCell (b,6) d).setCell (bl,7) b) b x t r d pr g Fr /\
   (∀ w2,eB w2 (.node x t r) b (b :: (g++Fr))->aH [b] ((w.setCell (b,6) d).setCell (bl,7) b) w2->dO w2 bl y s (.node x t r) pa b Fa (b :: (g++Fr))) /\
   aH (b :: (Fl++Fr)) w ((w.setCell (b,6) d).setCell (bl,7) b):=by
 obtain⟨bl,pa,d,Fa,g,rfl,rfl,j,_,_⟩:=h.l.half;have E:=h.nd;have B:b≠bl:=Uo;have A:(b :: (g++Fr)).Nodup:=by refine Vs ?_ E;exact Vt _ (Vu (Vv (List.sublist_append_right Fa g) (Vw _ _)) (Vx _))
 have m:aH [b] w (w.setCell (b,6) d):=aH.bM ..;have D:aH [bl] (w.setCell (b,6) d) ((w.setCell (b,6) d).setCell (bl,7) b):=aH.bM ..;have H:∀ k,k∈Fa\/k∈g\/k∈Fr->k≠b/\k≠bl:=Uo;have P:dO (w.setCell (b,6) d) b x t r d pr g Fr:=dO.mI h.n h.c7 j.r h.r A;have C:dO ((w.setCell (b,6) d).setCell (bl,7) b) b x t r d pr g Fr :=P.off D Uo (fun k z=>by grind) (fun k z=>by grind)
 refine⟨bl,pa,d,Fa,g,rfl,rfl,j.c7,j.n.fz 7,B,C,fun w2 L q=>?_,?_⟩
 .have K:je ((w.setCell (b,6) d).setCell (bl,7) b) bl y:=(j.n.off m Uo).dE _;have T:((w.setCell (b,6) d).setCell (bl,7) b).cell? (bl,6)=U ↑pa:=(bC Ui).trans (m.cell Uo j.c6);have R:((w.setCell (b,6) d).setCell (bl,7) b).cell? (bl,7)=U ↑b:=zm _ _ _ (m.cell Uo j.c7)
  have Q:eB ((w.setCell (b,6) d).setCell (bl,7) b) s pa Fa :=(j.l.off m (fun k z=>by grind)).off D (fun k z=>by grind)
  have i:bl ∉ [b]:=Uo;refine⟨K.off q i,q.cell i T,q.cell i R,Q.off q (fun k z=>by grind),L,?_⟩;refine Mp ?_ E;have I:(b :: (bl :: (Fa++g)++Fr)).Perm (bl :: b :: (Fa++(g++Fr))):=Uo;exact I.trans (Vy _ Vz.symm)
 .exact ((aH.bM b w 6 _).mono Ui).setCell (.inl Ui) _ _
theorem b9d{x y:aF.It}{s t l:aF.S}(h:dO w b x l (.node y s t) pl u Fl Fr):
  ∃ (br:Uw) (d pb:Uu UJ) (Fa Fb:J Uw),u=U ⟨br,0,Z⟩/\Fr=br :: (Fa++Fb)/\w.cell? (br,6)=U ↑d/\w.frozen? (br,6)=UD/\b≠br /\
   dO ((w.setCell (b,7) d).setCell (br,6) b) b x l s pl d Fl Fa /\
   (∀ w2,eB w2 (.node x l s) b (b :: (Fl++Fa))->aH [b] ((w.setCell (b,7) d).setCell (br,6) b) w2->dO w2 br y (.node x l s) t b pb (b :: (Fl++Fa)) Fb) /\
   aH (b :: (Fl++Fr)) w ((w.setCell (b,7) d).setCell (br,6) b):=by
 obtain⟨br,d,pb,Fa,Fb,rfl,rfl,i,_,_⟩:=h.r.half;have D:=h.nd;have A:b≠br:=Uo;have z:(b :: (Fl++Fa)).Nodup:=by refine Vs ?_ D;exact Vt _ (Vu (Vx _) (Vv (List.sublist_append_left Fa Fb) (Vw _ _)))
 have j:aH [b] w (w.setCell (b,7) d):=aH.bM ..;have C:aH [br] (w.setCell (b,7) d) ((w.setCell (b,7) d).setCell (br,6) b):=aH.bM ..;have E:∀ k,k∈Fl\/k∈Fa\/k∈Fb->k≠b/\k≠br:=Uo;have L:dO (w.setCell (b,7) d) b x l s pl d Fl Fa:=dO.lA h.n h.c6 h.l i.l z;have B:dO ((w.setCell (b,7) d).setCell (br,6) b) b x l s pl d Fl Fa :=L.off C Uo (fun k q=>by grind) (fun k q=>by grind)
 refine⟨br,d,pb,Fa,Fb,rfl,rfl,i.c6,i.n.fz 6,A,B,fun w2 K m=>?_,?_⟩
 .have I:je ((w.setCell (b,7) d).setCell (br,6) b) br y:=(i.n.off j Uo).vS _;have R:((w.setCell (b,7) d).setCell (br,6) b).cell? (br,6)=U ↑b:=zm _ _ _ (j.cell Uo i.c6);have Q:((w.setCell (b,7) d).setCell (br,6) b).cell? (br,7)=U ↑pb:=(bC Ui).trans (j.cell Uo i.c7)
  have P:eB ((w.setCell (b,7) d).setCell (br,6) b) t pb Fb :=(i.r.off j (fun k q=>by grind)).off C (fun k q=>by grind)
  have g:br ∉ [b]:=Uo;refine⟨I.off m g,m.cell g R,m.cell g Q,K,P.off m (fun k q=>by grind),?_⟩;refine Mp ?_ D;have H:(b :: (Fl++br :: (Fa++Fb))).Perm (b :: br :: (Fl++(Fa++Fb))):=Vy _ Vz;refine H.trans ((List.Perm.swap br b _).trans (Vy _ ?_));simp[List.append_assoc]
 .exact ((aH.bM b w 7 _).mono Ui).setCell (.inl Ui) _ _
theorem Gk(w:UF)(b:Uw)(x y:aF.It)(s t r:aF.S)(u pr:Uu UJ)(Fl Fr:J Uw)(h:dO w b x (.node y s t) r u pr Fl Fr)(h1:aF.ht s<=50000)(W:aF.ht t<=50000)(T:aF.ht r<=50000):UI prog 250 #[b] w (nH w (b :: (Fl++Fr)) (.node y s (.node x t r))):=by
 obtain⟨Q,C,B,R,A,rfl,rfl,L,H,D,q,m,l⟩:=b9c h;have P:=h.c6;have I:=h.n.fz 6;have j:aF.ht (.node x t r)<=100000:=by simp only[aF.ht];omega
 have G:=aB (Vf q (Vf m l));clear q m l h;go_in;go_wp21;refine aK (yZ _ b x t r B pr A Fr G.1 O O) ?_;rintro w2 ⟨g,d⟩;have K:=aB (Vf (G.2.1 w2 g d) (G.2.2.trans' d (fun z i=>by simp at i;subst i;exact .inl Ui)));clear g d G L P H I;go_wp21;refine aK (yZ _ Q y s (.node x t r) C b R (b :: (A++Fr)) K.1 O j) ?_;rintro w3 ⟨g,d⟩;have M:=aB (Vf g (K.2.trans' d (fun z i=>by simp at i;subst i;exact .inl Ui)));clear g d K;go_wp21;go_ret;exact⟨_,_,rfl,M.1,(by intro k E;simp only[Va,Vb] at E ⊢;grind),M.2⟩
theorem Gm(w:UF)(b:Uw)(x y:aF.It)(s t l:aF.S)(u pl:Uu UJ)(Fl Fr:J Uw)(h:dO w b x l (.node y s t) pl u Fl Fr)(h1:aF.ht s<=50000)(W:aF.ht t<=50000)(T:aF.ht l<=50000):UI prog 249 #[b] w (nH w (b :: (Fl++Fr)) (.node y (.node x l s) t)):=by
 obtain⟨Q,C,B,A,R,rfl,rfl,P,I,D,r,q,m⟩:=b9d h;have L:=h.c7;have H:=h.n.fz 7;have j:aF.ht (.node x l s)<=100000:=by simp only[aF.ht];omega
 have G:=aB (Vf r (Vf q m));clear r q m h;go_in;go_wp21;refine aK (yZ _ b x l s pl C Fl A G.1 O O) ?_;rintro w2 ⟨g,d⟩;have K:=aB (Vf (G.2.1 w2 g d) (G.2.2.trans' d (fun z i=>by simp at i;subst i;exact .inl Ui)));clear g d G L P H I;go_wp21;refine aK (yZ _ Q y (.node x l s) t b B (b :: (Fl++A)) R K.1 j O) ?_;rintro w3 ⟨g,d⟩;have M:=aB (Vf g (K.2.trans' d (fun z i=>by simp at i;subst i;exact .inl Ui)));clear g d K;go_wp21;go_ret;exact⟨_,_,rfl,M.1,(by intro k E;simp only[Va,Vb] at E ⊢;grind),M.2⟩
theorem dO.ui{x:aF.It}{l r m:aF.S}(h:dO w b x l r pl pr Fl Fr)(q:eB w2 m u F')(j:∀ k∈F',k∈Fl\/w<=k)(i:aH Fl w w2):dO (w2.setCell (b,6) u) b x m r u pr F' Fr/\(∀ k∈b :: (F'++Fr),k∈b :: (Fl++Fr)\/w<=k)/\aH (b :: (Fl++Fr)) w (w2.setCell (b,6) u):=by
 let⟨n1,n2,n3,n4,n5,n6,n7,n8⟩:=h.parts;have g:=h.lt;refine⟨dO.mI (h.n.off i n1) (i.cell n1 h.c7) q (h.r.off i n5) ?_,fun k d=>?_,?_⟩
 .refine Vd.2 ⟨fun e=>?_,Vi.2 ⟨q.nodup,n8,fun y t z s e=>?_⟩⟩
  .rcases Vb.1 e with e|e
   .rcases j b e with e|e
    .exact n1 e
    .have:=g b Ui;omega
   .exact n2 e
  .subst e;rcases j y t with e|e
   .exact n5 y s e
   .have:=g y (by simp[s]);omega
 .rcases Va.1 d with rfl|d
  .exact .inl Ui
  .rcases Vb.1 d with d|d
   .rcases j k d with e|e
    .exact .inl (by simp[e])
    .exact .inr e
   .exact .inl (by simp[d])
 .exact (i.mono Uo).setCell (.inl Ui) _ _
theorem dO.xe{x:aF.It}{l r m:aF.S}(h:dO w b x l r pl pr Fl Fr)(q:eB w2 m u F')(j:∀ k∈F',k∈Fr\/w<=k)(i:aH Fr w w2):dO (w2.setCell (b,7) u) b x l m pl u Fl F'/\(∀ k∈b :: (Fl++F'),k∈b :: (Fl++Fr)\/w<=k)/\aH (b :: (Fl++Fr)) w (w2.setCell (b,7) u):=by
 let⟨n1,n2,n3,n4,n5,n6,n7,n8⟩:=h.parts;have g:=h.lt;refine⟨dO.lA (h.n.off i n2) (i.cell n2 h.c6) (h.l.off i n6) q ?_,fun k d=>?_,?_⟩
 .refine Vd.2 ⟨fun e=>?_,Vi.2 ⟨n7,q.nodup,fun y s z t e=>?_⟩⟩
  .rcases Vb.1 e with e|e
   .exact n1 e
   .rcases j b e with e|e
    .exact n2 e
    .have:=g b Ui;omega
  .subst e;rcases j y t with e|e
   .exact n6 y s e
   .have:=g y (by simp[s]);omega
 .rcases Va.1 d with rfl|d
  .exact .inl Ui
  .rcases Vb.1 d with d|d
   .exact .inl (by simp[d])
   .rcases j k d with e|e
    .exact .inl (by simp[e])
    .exact .inr e
 .exact (i.mono Uo).setCell (.inl Ui) _ _
theorem nH.of{t:aF.S}{e:Ending}(h:nH w1 G t e w')(k:aH F w w1)(d:∀ k∈G,k∈F):nH w F t e w':=by obtain⟨u,F',rfl,m,l,j⟩:=h;exact⟨u,F',rfl,m,fun k i=>d k (l k i),k.trans' j (fun x g=>.inl (d x g))⟩
theorem b3S(w:UF)(b:Uw)(x:aF.It)(l r:aF.S)(pl pr:Uu UJ)(Fl Fr:J Uw)(h:dO w b x l r pl pr Fl Fr)(s:aF.ht l<=40000)(q:aF.ht r<=40000)(y:¬ 1<aF.ht l-aF.ht r)(t:¬ aF.ht l-aF.ht r < -1):UI prog 232 #[b] w (nH w (b :: (Fl++Fr)) (.node x l r)):=by
 have B:=aF.mB l;have A:=aF.mB r;have k:Y.wrap (aF.ht l-aF.ht r)=aF.ht l-aF.ht r:=dJ O O;go_in;go_upto_region 1 with fail;go_region_held3 (fun w'=>w'.cell? (b,6)=U ↑pl/\w'.cell? (b,7)=U ↑pr/\dO w' b x l r pl pr Fl Fr)
  (exact DM h.drew)
  (first
   |(go_at_call_of 248 (UM pl);go_split_ands;refine aY (mA _ (dO.l Uk)) ?_)
   |(go_at_call_of 248 (UM pr);go_split_ands;refine aY (mA _ (dO.r Uk)) ?_))
 have H:=aB h.drew;have j:=aB ((aH.refl (b :: (Fl++Fr)) _).drew:aH _ w w.drew);clear h;go_wp21;refine aK (yZ _ b x l r pl pr Fl Fr H O O) ?_;rintro w2 ⟨g,d⟩;have K:=aB (Vf g (j.trans' d (fun z i=>by simp at i;subst i;exact .inl Ui)));clear g d H j;go_wp21;go_ret;exact⟨_,_,rfl,K.1,fun _ m=>m,K.2⟩
theorem b8Q(w:UF)(b:Uw)(x y:aF.It)(s t:aF.S)(r:aF.S)(u pr:Uu UJ)(Fl Fr:J Uw)(h:dO w b x (.node y s t) r u pr Fl Fr)(hs:aF.ht s<=40000)(ht:aF.ht t<=40000)(ho:aF.ht r<=40000)(h1:1<aF.ht (.node y s t)-aF.ht r):UI prog 232 #[b] w (nH w (b :: (Fl++Fr)) (aF.tA x (.node y s t) r)):=by
 have g0:=aF.mB s;have g1:=aF.mB t;have g2:=aF.mB r;have g3:aF.ht (.node y s t)=1+max (aF.ht s) (aF.ht t):=rfl;obtain⟨g,L,K,Fs,Ft,rfl,rfl,C,_,_⟩:=h.l.half;have RB:=aB (fun w' (k:aH [] w w')=>Vf (h.same k) (C.same k));have P:=aB (fun w' (k:aH [] w w')=>mA w' (h.same k).l);generalize aF.ht (.node y s t)=hty at *;have ab:Y.wrap (hty-aF.ht r)=hty-aF.ht r:=dJ O O;clear g3;by_cases hc:aF.ht s<aF.ht t
 .have eb:aF.tA x (.node y s t) r=aF.uI (.node x (aF.uH (.node y s t)) r):=by unfold aF.tA;rw[Uz (by simpa[aF.left,aF.right] using hc)]
  rw[eb];obtain⟨z,A,q,rfl⟩:=aF.Bl (t:=t) O;have gz:aF.ht (.node z A q)=1+max (aF.ht A) (aF.ht q):=rfl;have g4:=aF.mB A;have g5:=aF.mB q;have q1:aF.ht A<=40000:=O;have q2:aF.ht q<=40000:=O;have H:=aB (fun w' (k:aH [] w w')=>mA w' (C.same k).r);have I:=aB (fun w' (k:aH [] w w')=>mA w' (C.same k).l);generalize aF.ht (.node z A q)=htt at *;clear gz g4 g5 h C eb;go_in;go_upto_region 1 with fail;have E:=(RB w.drew (aH.refl _ _).drew).1.c6;have W:=(RB w.drew (aH.refl _ _).drew).1.c7;go_region_held3 (fun w'=>w'.cell? (b,6)=U ↑g/\w'.cell? (b,7)=U ↑pr/\w'=w.drew)
   (exact⟨E,W,rfl⟩)
   (first
    |(go_at_call_of 248 (UM (U (Addr.mk g 0 Z)));go_split_ands;refine aY (P _ (aH.refl _ _).drew) ?_)
    |(go_at_call_of 248 (UM pr);go_split_ands;refine aY (mA _ (RB _ (aH.refl _ _).drew).1.r) ?_))
  go_upto_region 3 with fail;have T:=(RB w.drew.drew (aH.refl _ _).drew.drew).1.c6;have R:=(RB w.drew.drew (aH.refl _ _).drew.drew).2.c6;have Q:=(RB w.drew.drew (aH.refl _ _).drew.drew).2.c7;go_region_held3 (fun w'=>w'.cell? (b,6)=U ↑g/\w'.cell? (g,6)=U ↑L/\w'.cell? (g,7)=U ↑K/\w'=w.drew.drew)
   (exact⟨T,R,Q,rfl⟩)
   (first
    |(go_at_call_of 248 (UM L);go_split_ands;refine aY (I _ (aH.refl _ _).drew.drew) ?_)
    |(go_at_call_of 248 (UM K);go_split_ands;refine aY (H _ (aH.refl _ _).drew.drew) ?_))
  have d:=RB w.drew.drew (aH.refl _ _).drew.drew;have OW:=aB ((aH.refl (b :: ((g :: (Fs++Ft))++Fr)) _).drew.drew:aH _ w w.drew.drew);have i:=aB d;clear d RB P I H;go_wp21;have d:=i.out;clear i;refine (Gm _ g y z A q s _ _ _ _ d.2 O O O).mono ?_;rintro e w2 ⟨u2,F2,rfl,D,B,m⟩;obtain⟨m1,m2,m3⟩:=d.1.ui D (fun k j=>.inl (B k j)) m;have E:=m.cell (o:=6) d.1.parts.1 d.1.c6;have f6:=(m.frozen (o:=6) d.1.parts.1 d.1.n.lt).trans (d.1.n.fz 6);have M:=aB (Vf m1 (Vf B (OW.trans m3)));clear m1 m2 m3 D B m d;go_wp21;refine (Gk _ b x z (.node y s A) q r _ _ _ _ M.1 (by simp only[aF.ht];omega) O O).mono ?_;rintro e w3 j;have HK:=aB (j.of M.2.2 (by intro k j;have:=M.2.1;simp only[Va,Vb] at *;grind));obtain⟨u3,F3,rfl,D,B,m⟩:=j;clear D B m M E f6;go_wp21;go_ret;exact HK
 .have eb:aF.tA x (.node y s t) r=aF.uI (.node x (.node y s t) r):=by unfold aF.tA;rw[Uy (by simpa[aF.left,aF.right] using hc)]
  rw[eb];have H:=aB (fun w' (k:aH [] w w')=>mA w' (C.same k).r);have I:=aB (fun w' (k:aH [] w w')=>mA w' (C.same k).l);generalize aa:aF.ht t=htt at *;clear h C eb;go_in;go_upto_region 1 with fail;have E:=(RB w.drew (aH.refl _ _).drew).1.c6;have W:=(RB w.drew (aH.refl _ _).drew).1.c7;go_region_held3 (fun w'=>w'.cell? (b,6)=U ↑g/\w'.cell? (b,7)=U ↑pr/\w'=w.drew)
   (exact⟨E,W,rfl⟩)
   (first
    |(go_at_call_of 248 (UM (U (Addr.mk g 0 Z)));go_split_ands;refine aY (P _ (aH.refl _ _).drew) ?_)
    |(go_at_call_of 248 (UM pr);go_split_ands;refine aY (mA _ (RB _ (aH.refl _ _).drew).1.r) ?_))
  go_upto_region 3 with fail;have T:=(RB w.drew.drew (aH.refl _ _).drew.drew).1.c6;have R:=(RB w.drew.drew (aH.refl _ _).drew.drew).2.c6;have Q:=(RB w.drew.drew (aH.refl _ _).drew.drew).2.c7;go_region_held3 (fun w'=>w'.cell? (b,6)=U ↑g/\w'.cell? (g,6)=U ↑L/\w'.cell? (g,7)=U ↑K/\w'=w.drew.drew)
   (exact⟨T,R,Q,rfl⟩)
   (first
    |(go_at_call_of 248 (UM L);go_split_ands;refine aY (I _ (aH.refl _ _).drew.drew) ?_)
    |(go_at_call_of 248 (UM K);go_split_ands;refine aY (H _ (aH.refl _ _).drew.drew) ?_))
  have d:=RB w.drew.drew (aH.refl _ _).drew.drew;have OW:=aB ((aH.refl (b :: ((g :: (Fs++Ft))++Fr)) _).drew.drew:aH _ w w.drew.drew);have i:=aB d;clear d RB P I H;go_wp21;have d:=i.out;clear i;refine (Gk _ b x y s t r _ _ _ _ d.1 O O O).mono ?_;rintro e w3 j;have HK:=aB (j.of OW (fun _ j=>j));obtain⟨u3,F3,rfl,D,B,m⟩:=j;clear D B m;go_wp21;go_ret;exact HK
theorem b8P(w:UF)(b:Uw)(x y:aF.It)(s t:aF.S)(l:aF.S)(u pl:Uu UJ)(Fl Fr:J Uw)(h:dO w b x l (.node y s t) pl u Fl Fr)(hs:aF.ht s<=40000)(ht:aF.ht t<=40000)(ho:aF.ht l<=40000)(h1:aF.ht l-aF.ht (.node y s t) < -1):UI prog 232 #[b] w (nH w (b :: (Fl++Fr)) (aF.tC x l (.node y s t))):=by
 have g0:=aF.mB s;have g1:=aF.mB t;have g2:=aF.mB l;have g3:aF.ht (.node y s t)=1+max (aF.ht s) (aF.ht t):=rfl;obtain⟨g,L,K,Fs,Ft,rfl,rfl,C,_,_⟩:=h.r.half;have RB:=aB (fun w' (k:aH [] w w')=>Vf (h.same k) (C.same k));have P:=aB (fun w' (k:aH [] w w')=>mA w' (h.same k).r);generalize aF.ht (.node y s t)=hty at *;have aa:Y.wrap (aF.ht l-hty)=aF.ht l-hty:=dJ O O;have nx:¬ 1<aF.ht l-hty:=O;clear g3;by_cases hc:aF.ht t<aF.ht s
 .have eb:aF.tC x l (.node y s t)=aF.uH (.node x l (aF.uI (.node y s t))):=by unfold aF.tC;rw[Uz (by simpa[aF.left,aF.right] using hc)]
  rw[eb];obtain⟨z,A,q,rfl⟩:=aF.Bl (t:=s) O;have gz:aF.ht (.node z A q)=1+max (aF.ht A) (aF.ht q):=rfl;have g4:=aF.mB A;have g5:=aF.mB q;have q1:aF.ht A<=40000:=O;have q2:aF.ht q<=40000:=O;have H:=aB (fun w' (k:aH [] w w')=>mA w' (C.same k).r);have I:=aB (fun w' (k:aH [] w w')=>mA w' (C.same k).l);generalize aF.ht (.node z A q)=hts at *;clear gz g4 g5 h C eb;go_in;go_upto_region 1 with fail;have E:=(RB w.drew (aH.refl _ _).drew).1.c6;have W:=(RB w.drew (aH.refl _ _).drew).1.c7;go_region_held3 (fun w'=>w'.cell? (b,6)=U ↑pl/\w'.cell? (b,7)=U ↑g/\w'=w.drew)
   (exact⟨E,W,rfl⟩)
   (first
    |(go_at_call_of 248 (UM (U (Addr.mk g 0 Z)));go_split_ands;refine aY (P _ (aH.refl _ _).drew) ?_)
    |(go_at_call_of 248 (UM pl);go_split_ands;refine aY (mA _ (RB _ (aH.refl _ _).drew).1.l) ?_))
  go_upto_region 7 with fail;have T:=(RB w.drew.drew (aH.refl _ _).drew.drew).1.c7;have R:=(RB w.drew.drew (aH.refl _ _).drew.drew).2.c6;have Q:=(RB w.drew.drew (aH.refl _ _).drew.drew).2.c7;go_region_held3 (fun w'=>w'.cell? (b,7)=U ↑g/\w'.cell? (g,6)=U ↑L/\w'.cell? (g,7)=U ↑K/\w'=w.drew.drew)
   (exact⟨T,R,Q,rfl⟩)
   (first
    |(go_at_call_of 248 (UM L);go_split_ands;refine aY (I _ (aH.refl _ _).drew.drew) ?_)
    |(go_at_call_of 248 (UM K);go_split_ands;refine aY (H _ (aH.refl _ _).drew.drew) ?_))
  have d:=RB w.drew.drew (aH.refl _ _).drew.drew;have OW:=aB ((aH.refl (b :: (Fl++(g :: (Fs++Ft)))) _).drew.drew:aH _ w w.drew.drew);have i:=aB d;clear d RB P I H;go_wp21;have d:=i.out;clear i;refine (Gk _ g y z A q t _ _ _ _ d.2 O O O).mono ?_;rintro e w2 ⟨u2,F2,rfl,D,B,m⟩;obtain⟨m1,m2,m3⟩:=d.1.xe D (fun k j=>.inl (B k j)) m;have E:=m.cell (o:=7) d.1.parts.2.1 d.1.c7;have f6:=(m.frozen (o:=7) d.1.parts.2.1 d.1.n.lt).trans (d.1.n.fz 7);have M:=aB (Vf m1 (Vf B (OW.trans m3)));clear m1 m2 m3 D B m d;go_wp21;refine (Gm _ b x z A (.node y q t) l _ _ _ _ M.1 O (by simp only[aF.ht];omega) O).mono ?_;rintro e w3 j;have HK:=aB (j.of M.2.2 (by intro k j;have:=M.2.1;simp only[Va,Vb] at *;grind));obtain⟨u3,F3,rfl,D,B,m⟩:=j;clear D B m M E f6;go_wp21;go_ret;exact HK
 .have eb:aF.tC x l (.node y s t)=aF.uH (.node x l (.node y s t)):=by unfold aF.tC;rw[Uy (by simpa[aF.left,aF.right] using hc)]
  rw[eb];have H:=aB (fun w' (k:aH [] w w')=>mA w' (C.same k).r);have I:=aB (fun w' (k:aH [] w w')=>mA w' (C.same k).l);clear h C eb;go_in;go_upto_region 1 with fail;have E:=(RB w.drew (aH.refl _ _).drew).1.c6;have W:=(RB w.drew (aH.refl _ _).drew).1.c7;go_region_held3 (fun w'=>w'.cell? (b,6)=U ↑pl/\w'.cell? (b,7)=U ↑g/\w'=w.drew)
   (exact⟨E,W,rfl⟩)
   (first
    |(go_at_call_of 248 (UM (U (Addr.mk g 0 Z)));go_split_ands;refine aY (P _ (aH.refl _ _).drew) ?_)
    |(go_at_call_of 248 (UM pl);go_split_ands;refine aY (mA _ (RB _ (aH.refl _ _).drew).1.l) ?_))
  go_upto_region 7 with fail;have T:=(RB w.drew.drew (aH.refl _ _).drew.drew).1.c7;have R:=(RB w.drew.drew (aH.refl _ _).drew.drew).2.c6;have Q:=(RB w.drew.drew (aH.refl _ _).drew.drew).2.c7;go_region_held3 (fun w'=>w'.cell? (b,7)=U ↑g/\w'.cell? (g,6)=U ↑L/\w'.cell? (g,7)=U ↑K/\w'=w.drew.drew)
   (exact⟨T,R,Q,rfl⟩)
   (first
    |(go_at_call_of 248 (UM L);go_split_ands;refine aY (I _ (aH.refl _ _).drew.drew) ?_)
    |(go_at_call_of 248 (UM K);go_split_ands;refine aY (H _ (aH.refl _ _).drew.drew) ?_))
  have d:=RB w.drew.drew (aH.refl _ _).drew.drew;have OW:=aB ((aH.refl (b :: (Fl++(g :: (Fs++Ft)))) _).drew.drew:aH _ w w.drew.drew);have i:=aB d;clear d RB P I H;go_wp21;have d:=i.out;clear i;refine (Gm _ b x y s t l _ _ _ _ d.1 O O O).mono ?_;rintro e w3 j;have HK:=aB (j.of OW (fun _ j=>j));obtain⟨u3,F3,rfl,D,B,m⟩:=j;clear D B m;go_wp21;go_ret;exact HK
theorem vv(w:UF)(b:Uw)(x:aF.It)(l r:aF.S)(pl pr:Uu UJ)(Fl Fr:J Uw)(h:dO w b x l r pl pr Fl Fr)(k:aF.ht l<=30000)(j:aF.ht r<=30000):UI prog 232 #[b] w (nH w (b :: (Fl++Fr)) (aF.iM x l r)):=by
 have q:=aF.mB l;have m:=aF.mB r;by_cases d:1<aF.ht l-aF.ht r
 .have e:aF.iM x l r=aF.tA x l r:=by unfold aF.iM;rw[Uz d]
  rw[e];obtain⟨y,s,t,rfl⟩:=aF.Bl (t:=l) O;have i:aF.ht (.node y s t)=1+max (aF.ht s) (aF.ht t):=rfl;exact b8Q w b x y s t r pl pr Fl Fr h O O O d
 .by_cases g:aF.ht l-aF.ht r < -1
  .have e:aF.iM x l r=aF.tC x l r:=by unfold aF.iM;rw[Uy d,Uz g]
   rw[e];obtain⟨y,s,t,rfl⟩:=aF.Bl (t:=r) O;have i:aF.ht (.node y s t)=1+max (aF.ht s) (aF.ht t):=rfl;exact b8P w b x y s t l pr pl Fl Fr h O O O g
  .have e:aF.iM x l r=.node x l r:=by unfold aF.iM;rw[Uy d,Uy g]
   rw[e];exact b3S w b x l r pl pr Fl Fr h O O d g
def nS(a b:Ux):Ux:=if a<b then -1 else if b<a then 1 else 0
theorem Fk(a:Ux)(w:UF):UI prog 245 #[a] w fun e w'=>e=UW UD/\w'=w:=by go_in;go_wp2;go_ret;exact⟨qH Ui,rfl⟩
theorem Bt(a b:Ux)(w:UF):UI prog 221 #[a,b] w fun e w'=>e=UW (V Y (nS a b))/\w'=w:=by
 by_cases d:a<b
 .go_in
  go_wp2_with (go_at_call 245;refine aY (Fk _ _) ?_);go_ret;exact⟨jy (by simp[nS,d]),rfl⟩
 .by_cases g:b<a
  .go_in
   go_wp2_with (go_at_call 245;refine aY (Fk _ _) ?_);go_ret;exact⟨jy (by rw[nS,Uy O,Uz O]),rfl⟩
  .go_in
   go_wp2_with (go_at_call 245;refine aY (Fk _ _) ?_);go_ret;exact⟨jy (by rw[nS,Uy O,Uy O]),rfl⟩
def rQ(x y:Ux):Ux:=if x=0 then y else x
theorem Jm(A:Uw)(x y:Ux)(w:UF)(l:w.cell? (A,0)=U ↑x)(k:w.cell? (A,1)=U ↑y):UI prog 220 #[.slice A 2 2] w fun e w'=>e=UW (V Y (rQ x y))/\w'=w:=by
 go_in;go_wp2;go_loop [5,8] (fun _ i=>i=V Y 0\/(x=0/\i=V Y 1)\/(x=0/\y=0/\i=V Y 2)) (fun _ i=>2-(intOf i).toNat)
 .exact .inl rfl
 .rcases hrel with rfl|⟨d,rfl⟩|⟨d,g,rfl⟩
  .by_cases d:x=0
   .subst d;go_wp2
    go_round
    .simp
    .simp[intOf]
   .have j:(x != 0)=UE:=bZ d
    go_wp2;go_ret;exact⟨jy (by rw[rQ,Uy d]),rfl⟩
  .subst d
   by_cases g:y=0
   .subst g;go_wp2
    go_round
    .simp
    .simp[intOf]
   .have h:(y != 0)=UE:=bZ g
    go_wp2;go_ret;exact⟨jy (by rw[rQ,Uz rfl]),rfl⟩
  .subst d;subst g;go_wp2;go_ret;exact⟨jy (by simp[rQ]),rfl⟩
theorem c4D(f n:Ux)(x:aF.It):rQ (nS f x.f) (nS n x.n)=aF.side f n x:=by grind[rQ,nS,aF.side]
theorem Mx(b:Uw)(x:aF.It)(f n:Ux)(w:UF)(h:je w b x):UI prog 233 #[b,f,n] w fun e w'=>e=UW (V Y (aF.side f n x))/\UH w w w':=by
 have g:=h.c0;have d:=h.c2;rw[<- c4D];have HP:=aB (fun w'=>Bt f x.f w');have i:=aB (fun w'=>Bt n x.n w');generalize nS f x.f=p at *;generalize nS n x.n=q at *;clear h;go_in;go_upto_region 1 with fail;go_region_held3 (fun w'=>w'.cell? (b,0)=U (V Y x.f)/\w'.cell? (b,2)=U (V Y x.n)/\UH w w w')
  (first
   |exact⟨g,d,eN _⟩
   |(go_split_ands;refine⟨?_,?_,?_⟩ <;> assumption)
   |(go_split_ands;exact⟨aT aS Uk,aT aS Uk,bU Uk aS aJ⟩))
  (first
   |(go_at_call_of 221 (V Y f);refine aY (HP _) ?_)
   |(go_at_call_of 221 (V Y n);refine aY (i _) ?_)
   |(go_at_call 220;refine aY (Jm _ p q _ Ui Ui) ?_))
 all_goals have j:Hid (UH w w (Vl (Vj w (UX #[V Y p,V Y q] 3)))):=aS.drew;go_wp21;go_ret;exact⟨rfl,j⟩
end Go.Proofs.YtolaacmheeaadaaGreatDoor
