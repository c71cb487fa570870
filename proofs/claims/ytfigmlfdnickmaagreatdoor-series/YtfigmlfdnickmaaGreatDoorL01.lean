import Derived.Test.YtfigmlfdnickmaaGreatDoorProg
import Derived.WalkKit
import Derived.WalkSpells
import Derived.WalkLawsBesides
import Derived.Deep.QuietTactic
import Derived.BigQuiet
import Derived.Deep.RegionHeld3
import Derived.Deep.RegionWith
import Derived.Deep.CutRange
set_option maxRecDepth 100000
set_option maxHeartbeats 8000000
open Go.Proofs.Tryz
open _root_ renaming List->UV,Option->UW,Bool->UX,Nat->UY,Int->UZ,if_neg->U0,if_pos->U1
open Option renaming none->U3,some->U4
open Bool renaming false->U5,true->U6,not_eq_true->Vj,false_or->Vk,not_false->Vl,not_true->Vm,false_eq_true->Vn,true_or->Vo
open Go renaming World->U7,Value->U8,Calls->Va,Addr->Vb
open Go.RowKit renaming Below->U9
open Nat renaming le_refl->Vd,le_trans->Vg
open Go.Ending renaming returned->Ve
open Go.IntKind renaming i64->Vf
open Go.World renaming block_lt_of_cell?->Vh,frozen?->Vi,cell?_setCell_same->Vu,setCell->Vw,alloc->Vz,cell?->VA,drew->VB
open Int renaming add_assoc->Vp,zero_add->Vx
open List renaming mem_cons->Vq,mem_append->Vr,nodup_nil->Vs,nodup_cons->Vt,nodup_append->Vy,cons_append->VD,pairwise_cons->VE,filter_append->VF,filter_cons->VG,filter_eq_nil_iff->VI,sublist_cons_self->VN,append_assoc->VP,perm_middle->VS
open Go.Value renaming pointer->Vv
open List.Pairwise renaming filter->VH
open List.Sublist renaming nodup->VJ,cons_cons->VK,append->VL,trans->VM,refl->VO
open List.Perm renaming swap->VQ,cons->VR
namespace Go.Proofs.YtfigmlfdnickmaaGreatDoor
variable{a c hi level lo long st y5 y6:UZ}{f:UZ->UZ}{F F' Fl Fr G:UV UY}{M N b bk fn n o:UY}{pl pr u:UW Vb}{p v:U8}{X w w' w'' w1 w2 w4:U7}
theorem UI{p:Prop}(h:p:=by omega):p:=h
theorem UJ{p:Prop}(h:p:=by simp):p:=h
theorem UK{p:Prop}(h:p:=by decide):p:=h
theorem UL{p:Prop}(h:p:=by assumption):p:=h
theorem UM{p:Prop}(h:p:=by decide +kernel):p:=h
theorem UO{p:Prop}(h:p:=by kernel_rfl):p:=h
theorem UQ{p:Prop}(h:p:=by (simp;omega)):p:=h
theorem UR{p:Prop}(h:p:=by (unfold maxLen;omega)):p:=h
theorem US{p:Prop}(h:p:=by simp[Value.oneCell']):p:=h
theorem UT{p:Prop}(h:p:=by simp[Value.ownBlock]):p:=h
open Go.RowKit
theorem zq(n:UY):n<=n:=Vd n
theorem zS(w:U7)(a b:Vb)(v:U8)(h:a≠b):(w.setCell a v).cell? b=w.cell? b:=w.cell?_setCell_other a b v h
theorem zr(b:UY)(w:U7):U9 b w w:=Below.refl b w
theorem zL{m k:UY}(h:n<m)(g:m<=k):n<k:=Nat.lt_of_lt_of_le h g
theorem zm(w:U7)(a:Vb)(v:U8){u:U8}(h:w.cell? a=U4 u):(w.setCell a v).cell? a=U4 v:=w.cell?_setCell_same a v h
theorem zF(w:U7)(a b:Vb)(v:U8):(w.setCell a v).frozen? b=w.frozen? b:=w.frozen?_setCell a b v
theorem zo{a:Vb}(h:w'.heap[a.block]?=w.heap[a.block]?):w'.cell? a=w.cell? a:=World.cell?_of_block h
theorem zN(n:UY):0<=n:=n.zero_le
theorem zg{α:Type _}{l:UV α}(h:n<l.length):l[n]∈l:=List.getElem_mem h
theorem zA{a b:Prop}(h:a)(k:b):a/\b:=⟨h,k⟩
theorem nY{a b:UX}(h:a=b):Ve (.bool a)=.returned (.bool b):=by rw[h]
theorem gL{k:IntKind}{b:UZ}(h:a=b):Ve (.int k a)=.returned (.int k b):=by rw[h]
theorem aC{p:Prop}(h:p):Hid p:=h
theorem cG{x:UZ}(g:-1000000000000<=x)(d:x<=1000000000000):Vf.wrap x=x:=by
 rw[IntKind.wrap_i64];omega
theorem tF(x y:UZ):(if x<y then y else x)=max x y:=by split <;> omega
theorem FL(x y:UZ):(if y<x then y else x)=min x y:=by split <;> omega
theorem AV(c x y:UZ):(c+if x<y then y else x)=c+max x y:=by split <;> omega
theorem N4(c x y:UZ):(c+if y<x then y else x)=c+min x y:=by split <;> omega
theorem aZ{B:UY}(h:U9 B w w')(k:U9 w'.heap.size w' w'')(d:B<=w.heap.size):U9 B w w'':=h.trans (k.mono (Vg d h.size))
theorem dM(w:U7):U9 w.heap.size w w.drew:=(zr _ _).drew
structure aF(F:UV UY)(w w':U7):Prop where
 os:w'.os=w.os
 tape:w'.tape=w.tape
 output:w'.output=w.output
 size:w.heap.size<=w'.heap.size
 block:∀ k,k<w.heap.size->k ∉ F->w'.heap[k]?=w.heap[k]?
theorem aF.refl(F:UV UY)(w:U7):aF F w w:=⟨rfl,rfl,rfl,Vd _,fun _ _ _=>rfl⟩
theorem aF.trans'{a b c:U7}(h:aF F a b)(k:aF G b c)(l:∀ x∈G,x∈F\/a.heap.size<=x):aF F a c :=
 ⟨k.os.trans h.os,k.tape.trans h.tape,k.output.trans h.output,Vg h.size k.size,fun i hi d =>
  (k.block i (zL hi h.size) (fun j=>by rcases l i j with g|g;exact d g;omega)).trans (h.block i hi d)⟩
theorem aF.trans{a b c:U7}(h:aF F a b)(k:aF F b c):aF F a c:=h.trans' k (fun _ d=>.inl d)
theorem aF.mono{a b:U7}(h:aF F a b)(g:∀ x∈F,x∈G):aF G a b :=
 ⟨h.os,h.tape,h.output,h.size,fun i hi j=>h.block i hi (fun d=>j (g i d))⟩
theorem aF.aD(h:U9 w.heap.size w w'):aF F w w':=⟨h.os,h.tape,h.output,h.size,fun k d _=>h.block k d⟩
theorem aF.drew(h:aF F w w'):aF F w w'.drew:=⟨h.os,h.tape,h.output,h.size,h.block⟩
theorem aF.alloc(h:aF F w w')(o:Obj):aF F w (w'.alloc o) :=
 h.trans (aF.aD ((zr _ _).alloc (zq _) o))
theorem aF.aX(R:UY)(w':U7)(o:UY)(v:U8):aF [R] w' (w'.setCell ⟨R,o,U3⟩ v) :=
 ⟨(Below.setCell (B:=0) (Below.refl 0 w') (zN _) v).os,(Below.setCell (B:=0) (Below.refl 0 w') (zN _) v).tape,(Below.setCell (B:=0) (Below.refl 0 w') (zN _) v).output,(Below.setCell (B:=0) (Below.refl 0 w') (p:=⟨R,o,U3⟩) (zN _) v).size,fun k _ d=>Below.heap_setCell w' _ v k (by simpa using d)⟩
theorem aF.setCell(h:aF F w w'){R:UY}(g:R∈F\/w.heap.size<=R)(o:UY)(v:U8):aF F w (w'.setCell ⟨R,o,U3⟩ v) :=
 h.trans' (aF.aX R w' o v) (fun x d=>by simp at d;subst d;exact g)
theorem aF.cell(h:aF F w w')(d:b ∉ F)(g:w.cell? ⟨b,o,U3⟩=U4 v):w'.cell? ⟨b,o,U3⟩=U4 v :=
 (zo (w:=w) (h.block b (Vh _ _ g) d)).trans g
theorem aF.frozen(h:aF F w w')(d:b ∉ F)(g:b<w.heap.size):w'.frozen? ⟨b,o,U3⟩=w.frozen? ⟨b,o,U3⟩:=by
 have e:=h.block b g d;simp only[Vi,e]
theorem aN(h:U9 w.heap.size w w')(d:w.cell? ⟨b,o,U3⟩=U4 v):w'.cell? ⟨b,o,U3⟩=U4 v :=
 (h.cell (p:=⟨b,o,U3⟩) (Vh _ _ d)).trans d
namespace aG
inductive T where
 |nil:T
 |node (a:UZ) (l r:T):T
def top:T->UZ
 |.nil=>0
 |.node a l r=>a+max (top l) (top r)
def bot:T->UZ
 |.nil=>0
 |.node a l r=>a+min (bot l) (bot r)
def isNil:T->UX
 |.nil=>U6
 |.node ..=>U5
def val:T->UZ
 |.nil=>0
 |.node a _ _=>a
def fst:T->T
 |.nil=>.nil
 |.node _ l _=>l
def snd:T->T
 |.nil=>.nil
 |.node _ _ r=>r
def flat(t:T):UX:=isNil (fst t) && isNil (snd t)
def mk(a:UZ)(l r:T):T:=if a=0/\isNil l=U6/\isNil r=U6 then .nil else .node a l r
theorem qS{t:T}(h:isNil t=U6):t=.nil:=by cases t <;> simp_all [isNil]
@[simp] theorem val_mk (a:UZ) (l r:T):val (mk a l r)=a:=by
 unfold mk;split
 ·rename_i h;simp[val,h.1]
 ·rfl
@[simp] theorem fst_mk (a:UZ) (l r:T):fst (mk a l r)=l:=by
 unfold mk;split
 ·rename_i h;rw[qS h.2.1];rfl
 ·rfl
@[simp] theorem snd_mk (a:UZ) (l r:T):snd (mk a l r)=r:=by
 unfold mk;split
 ·rename_i h;rw[qS h.2.2];rfl
 ·rfl
def aS(lo hi:UZ):UZ:=(lo+hi) / 2
def apart(lo hi a b:UZ):UX:=decide (hi<=a) || decide (b<=lo)
def within(lo hi a b:UZ):UX:=decide (a<=lo) && decide (hi<=b)
theorem sQ{b:UZ}:apart lo hi a b=U6↔hi<=a\/b<=lo:=by simp[apart]
theorem lZ{b:UZ}:apart lo hi a b=U5↔a<hi/\lo<b:=by
 rw[<- Vj,sQ];omega
theorem ud{b:UZ}:within lo hi a b=U6↔a<=lo/\hi<=b:=by simp[within]
theorem vV{b:UZ}:within lo hi a b=U5↔¬ (a<=lo/\hi<=b):=by
 rw[<- Vj,ud]
def fU:UY->T->UZ->UZ->UZ->UZ->UZ->T
 |n,t,lo,hi,a,b,u =>
  if apart lo hi a b then t
  else if within lo hi a b then mk (val t+u) (fst t) (snd t)
  else match n with
   |0=>t
   |n+1=>mk (val t) (fU n (fst t) lo (aS lo hi) a b u) (fU n (snd t) (aS lo hi) hi a b u)
def canon:UY->(UV UX->UZ)->UZ->UZ->T
 |0,A,_,_=>mk (A []) .nil .nil
 |n+1,A,lo,hi =>
  if hi-lo<=1 then mk (A []) .nil .nil
  else mk (A []) (canon n (fun p=>A (U5 :: p)) lo (aS lo hi)) (canon n (fun p=>A (U6 :: p)) (aS lo hi) hi)
def gG:UZ->UZ->UZ->UZ->UV UX->UZ
 |lo,hi,a,b,[]=>if apart lo hi a b then 0 else if within lo hi a b then 1 else 0
 |lo,hi,a,b,U5 :: p=>if apart lo hi a b then 0 else if within lo hi a b then 0 else gG lo (aS lo hi) a b p
 |lo,hi,a,b,U6 :: p=>if apart lo hi a b then 0 else if within lo hi a b then 0 else gG (aS lo hi) hi a b p
theorem BU{b:UZ}(h:apart lo hi a b=U6):∀ p,gG lo hi a b p=0
 |[]=>by simp[gG,h]
 |false :: p=>by simp[gG,h]
 |true :: p=>by simp[gG,h]
theorem AJ:∀ (p:UV UX)(lo hi a b:UZ),0<=gG lo hi a b p/\gG lo hi a b p<=1
 |[],lo,hi,a,b=>by simp only[gG];split <;> (try split) <;> omega
 |false :: p,lo,hi,a,b=>by
   simp only[gG];split
   ·omega
   ·split
    ·omega
    ·exact AJ p _ _ _ _
 |true :: p,lo,hi,a,b=>by
   simp only[gG];split
   ·omega
   ·split
    ·omega
    ·exact AJ p _ _ _ _
theorem BA(h:hi-lo<=2 ^ (n+1)):aS lo hi-lo<=2 ^ n/\hi-aS lo hi<=2 ^ n:=by
 unfold aS;rw[Int.pow_succ] at h;omega
theorem SM:∀ {A B:UV UX->UZ}{lo hi:UZ},(∀ p,A p=B p)->canon n A lo hi=canon n B lo hi:=by
 intro A B lo hi h;rw[show A=B from funext h]
theorem RT:∀ (n:UY)(A:UV UX->UZ)(lo hi a b u:UZ),lo<hi->hi-lo<=2 ^ n->a<b ->
  fU n (canon n A lo hi) lo hi a b u=canon n (fun p=>A p+u*gG lo hi a b p) lo hi:=by
 intro n
 induction n with
 |zero =>
  intro A lo hi a b u q i j;have i:hi-lo<=1:=by simpa using i
  unfold fU
  split
  ·rename_i h;simp[canon,BU h]
  ·rename_i h
   rw[Vj,lZ] at h;have d:within lo hi a b=U6:=ud.2 UI;have g:apart lo hi a b=U5:=lZ.2 h;rw[U1 d];simp[canon,gG,d,g]
 |succ n ih =>
  intro A lo hi a b u q i j;unfold fU
  split
  ·rename_i h;exact SM (by intro p;simp[BU h])
  ·rename_i h
   have g:apart lo hi a b=U5:=by simpa using h
   split
   ·rename_i d
    simp only[canon]
    split
    ·simp[gG,g,d]
    ·simp[gG,g,d]
   ·rename_i d
    have d:within lo hi a b=U5:=by simpa using d
    have s:=lZ.1 g;have r:=vV.1 d;have m:¬ hi-lo<=1:=UI
    have k:lo<aS lo hi/\aS lo hi<hi:=by unfold aS;omega
    have l:=BA i;simp only[canon,U0 m,val_mk,fst_mk,snd_mk];rw[ih _ _ _ _ _ _ k.1 l.1 j,ih _ _ _ _ _ _ k.2 l.2 j];simp[gG,g,d]
def dJ:T->UZ->UZ->UZ->UZ
 |.nil,_,_,_=>0
 |.node a l r,lo,hi,x=>a+if x<aS lo hi then dJ l lo (aS lo hi) x else dJ r (aS lo hi) hi x
theorem oD(a:UZ)(l r:T)(lo hi x:UZ):dJ (mk a l r) lo hi x=a+if x<aS lo hi then dJ l lo (aS lo hi) x else dJ r (aS lo hi) hi x:=by
 unfold mk;split
 ·rename_i h;rw[qS h.2.1,qS h.2.2];simp[dJ,h.1]
 ·rfl
def Good:T->UZ->UZ->Prop
 |.nil,_,_=>True
 |.node a l r,lo,hi=>0<=a/\((isNil l=U6/\isNil r=U6)\/2<=hi-lo)/\Good l lo (aS lo hi)/\Good r (aS lo hi) hi
theorem Good.mk{l r:T}(i:0<=a)(h:(isNil l=U6/\isNil r=U6)\/2<=hi-lo)(g:Good l lo (aS lo hi))(d:Good r (aS lo hi) hi):Good (aG.mk a l r) lo hi:=by
 unfold aG.mk;split
 ·trivial
 ·exact⟨i,h,g,d⟩
theorem Sa:∀ (n:UY)(A:UV UX->UZ)(lo hi:UZ),(∀ p,0<=A p)->Good (canon n A lo hi) lo hi:=by
 intro n
 induction n with
 |zero=>intro A lo hi h;exact Good.mk (h _) (.inl ⟨rfl,rfl⟩) trivial trivial
 |succ n ih =>
  intro A lo hi h;simp only[canon]
  split
  ·exact Good.mk (h _) (.inl ⟨rfl,rfl⟩) trivial trivial
  ·exact Good.mk (h _) (.inr UI) (ih _ _ _ (fun p=>h _)) (ih _ _ _ (fun p=>h _))
theorem Ue:∀ (n:UY)(A:UV UX->UZ)(lo hi a b u x:UZ),lo<=x->x<hi->hi-lo<=2 ^ n->a<b ->
  dJ (canon n (fun p=>A p+u*gG lo hi a b p) lo hi) lo hi x=dJ (canon n A lo hi) lo hi x+if a<=x/\x<b then u else 0:=by
 intro n
 induction n with
 |zero =>
  intro A lo hi a b u x r q i k;have i:hi-lo<=1:=by simpa using i
  simp only[canon,oD,dJ,gG]
  cases d:apart lo hi a b
  ·have j:=lZ.1 d;have g:within lo hi a b=U6:=ud.2 UI;rw[g,U1 (by omega:a<=x/\x<b)];simp
  ·have j:=sQ.1 d;rw[U0 (by omega:¬ (a<=x/\x<b))];simp
 |succ n ih =>
  intro A lo hi a b u x r q i k;simp only[canon];have l:=BA i
  cases d:apart lo hi a b
  ·have j:=lZ.1 d
   cases g:within lo hi a b
   ·have s:=vV.1 g;have m:¬ hi-lo<=1:=UI
    rw[U0 m,U0 m,oD,oD];simp only[gG,d,g]
    by_cases h:x<aS lo hi
    ·rw[U1 h,U1 h];have:=ih (fun p=>A (U5 :: p)) lo (aS lo hi) a b u x r h l.1 k;simp at this ⊢;omega
    ·rw[U0 h,U0 h];have:=ih (fun p=>A (U6 :: p)) (aS lo hi) hi a b u x UI q l.2 k;simp at this ⊢;omega
   ·have s:=ud.1 g;rw[U1 (by omega:a<=x/\x<b)]
    split
    ·rw[oD,oD];simp[gG,d,g,dJ]
    ·rw[oD,oD];simp[gG,d,g];omega
  ·have j:=sQ.1 d;rw[U0 (by omega:¬ (a<=x/\x<b))];simp[BU d]
theorem Uh:∀ (n:UY)(lo hi x:UZ),dJ (canon n (fun _=>0) lo hi) lo hi x=0:=by
 intro n
 induction n with
 |zero=>intro lo hi x;simp[canon,oD,dJ]
 |succ n ih =>
  intro lo hi x;simp only[canon]
  split
  ·simp[oD,dJ]
  ·rw[oD,ih,ih];simp
theorem yD:∀ (t:T)(lo hi x:UZ),Good t lo hi->0<=dJ t lo hi x:=by
 intro t
 induction t with
 |nil=>intro lo hi x _;simp[dJ]
 |node a l r ihl ihr =>
  intro lo hi x h;have i:=ihl lo (aS lo hi) x h.2.2.1;have g:=ihr (aS lo hi) hi x h.2.2.2;have d:=h.1;simp only[dJ];split <;> omega
theorem tR{t:T}(h:isNil t=U6):top t=0/\bot t=0:=by rw[qS h];exact⟨rfl,rfl⟩
theorem tU{t:T}(h:isNil t=U6)(lo hi x:UZ):dJ t lo hi x=0:=by rw[qS h];rfl
theorem vx:∀ (t:T)(lo hi:UZ),lo<hi->Good t lo hi->(∀ x,lo<=x->x<hi->dJ t lo hi x<=top t)/\∃ x,lo<=x/\x<hi/\dJ t lo hi x=top t:=by
 intro t
 induction t with
 |nil=>intro lo hi h _;exact⟨fun x _ _=>by simp[dJ,top],lo,by omega,h,rfl⟩
 |node a l r ihl ihr =>
  intro lo hi h g;rcases g.2.1 with ⟨j,i⟩|K
  ·have s:=tR j;have q:=tR i;simp only[dJ,top,tU j,tU i,s,q];exact⟨fun x _ _=>by split <;> omega,lo,by omega,h,by split <;> omega⟩
  ·have d:lo<aS lo hi/\aS lo hi<hi:=by unfold aS;omega
   obtain⟨l1,m,B,A,I⟩:=ihl lo (aS lo hi) d.1 g.2.2.1;obtain⟨z,k,H,y,E⟩:=ihr (aS lo hi) hi d.2 g.2.2.2;simp only[dJ,top];refine⟨fun x D C=>?_,?_⟩
   ·split
    ·have:=l1 x D UI;omega
    ·have:=z x UI C;omega
   ·by_cases J:top r<=top l
    ·exact⟨m,B,by omega,by rw[U1 A];omega⟩
    ·exact⟨k,by omega,y,by rw[U0 UI];omega⟩
theorem Oj:∀ (t:T)(lo hi:UZ),lo<hi->Good t lo hi->(∀ x,lo<=x->x<hi->bot t<=dJ t lo hi x)/\∃ x,lo<=x/\x<hi/\dJ t lo hi x=bot t:=by
 intro t
 induction t with
 |nil=>intro lo hi h _;exact⟨fun x _ _=>by simp[dJ,bot],lo,by omega,h,rfl⟩
 |node a l r ihl ihr =>
  intro lo hi h g;rcases g.2.1 with ⟨j,i⟩|K
  ·have s:=tR j;have q:=tR i;simp only[dJ,bot,tU j,tU i,s,q];exact⟨fun x _ _=>by split <;> omega,lo,by omega,h,by split <;> omega⟩
  ·have d:lo<aS lo hi/\aS lo hi<hi:=by unfold aS;omega
   obtain⟨l1,m,B,A,I⟩:=ihl lo (aS lo hi) d.1 g.2.2.1;obtain⟨z,k,H,y,E⟩:=ihr (aS lo hi) hi d.2 g.2.2.2;simp only[dJ,bot];refine⟨fun x D C=>?_,?_⟩
   ·split
    ·have:=l1 x D UI;omega
    ·have:=z x UI C;omega
   ·by_cases J:bot l<=bot r
    ·exact⟨m,B,by omega,by rw[U1 A];omega⟩
    ·exact⟨k,by omega,y,by rw[U0 UI];omega⟩
def fF:T->UZ->UZ->UZ->UZ->UZ
 |.nil,_,_,_,_=>0
 |.node c l r,lo,hi,a,b =>
  if apart lo hi a b then 0
  else if within lo hi a b then c+max (top l) (top r)
  else c+max (fF l lo (aS lo hi) a b) (fF r (aS lo hi) hi a b)
theorem yj{t:T}{b:UZ}(h:apart lo hi a b=U6):fF t lo hi a b=0:=by
 cases t <;> simp[fF,h]
theorem GJ:∀ (t:T)(lo hi a b:UZ),lo<hi->a<b->Good t lo hi->apart lo hi a b=U5 ->
  0<=fF t lo hi a b/\(∀ x,lo<=x->x<hi->a<=x->x<b->dJ t lo hi x<=fF t lo hi a b)/\∃ x,lo<=x/\x<hi/\a<=x/\x<b/\dJ t lo hi x=fF t lo hi a b:=by
 intro t
 induction t with
 |nil =>
  intro lo hi a b h s _ m;have:=lZ.1 m;exact⟨Int.le_refl _,fun x _ _ _ _=>by simp[dJ,fF],max lo a,by omega,by omega,by omega,by omega,rfl⟩
 |node c l r ihl ihr =>
  intro lo hi a b h s g m;have ab:=lZ.1 m
  cases q:within lo hi a b
  ·have H:=vV.1 q;have I:lo<aS lo hi/\aS lo hi<hi:=by unfold aS;omega
   have e:fF (.node c l r) lo hi a b=c+max (fF l lo (aS lo hi) a b) (fF r (aS lo hi) hi a b):=by simp[fF,m,q]
   have g0:=g.1;rw[e];simp only[dJ]
   cases pl:apart lo (aS lo hi) a b
   ·obtain⟨l0,l1,J,P,O,L,K,l6⟩:=ihl lo (aS lo hi) a b I.1 s g.2.2.1 pl
    cases pr:apart (aS lo hi) hi a b
    ·obtain⟨Y,E,A,W,D,C,B,V⟩:=ihr (aS lo hi) hi a b I.2 s g.2.2.2 pr;refine⟨by omega,fun x k j i d=>?_,?_⟩
     ·split
      ·have:=l1 x k UI i d;omega
      ·have:=E x UI j i d;omega
     ·by_cases hc:fF r (aS lo hi) hi a b<=fF l lo (aS lo hi) a b
      ·exact⟨J,P,by omega,L,K,by rw[U1 O];omega⟩
      ·exact⟨A,by omega,D,C,B,by rw[U0 UI];omega⟩
    ·have Z:=sQ.1 pr;have z:=yj (t:=r) pr;refine⟨by omega,fun x k j i d=>?_,J,P,by omega,L,K,by rw[U1 O];omega⟩;rw[U1 UI];have:=l1 x k UI i d;omega
   ·have aa:=sQ.1 pl;have z:=yj (t:=l) pl;have pr:apart (aS lo hi) hi a b=U5:=lZ.2 UI;obtain⟨Y,E,A,W,D,C,B,V⟩:=ihr (aS lo hi) hi a b I.2 s g.2.2.2 pr;refine⟨by omega,fun x k j i d=>?_,A,by omega,D,C,B,by rw[U0 UI];omega⟩;rw[U0 UI];have:=E x UI j i d;omega
  ·have H:=ud.1 q;have e:fF (.node c l r) lo hi a b=top (.node c l r):=by simp[fF,m,q,top]
   obtain⟨U,x,S,R,Q⟩:=vx (.node c l r) lo hi h g;rw[e];have:=yD (.node c l r) lo hi x g;exact⟨by omega,fun y k j _ _=>U y k j,x,S,R,by omega,by omega,Q⟩
def iK(d:UX)(level:UZ)(t:T)(c:UZ):UX:=if d then decide (level<c+top t) else decide (c+bot t<=level)
def want(d:UX)(level x:UZ):Prop:=if d then level<x else x<=level
def fm(d:UX)(level:UZ):T->UZ->UZ->UZ->UZ->UZ->UW UZ
 |.nil,lo,hi,a,b,c=>if apart lo hi a b || !iK d level .nil c then U3 else U4 (max lo a)
 |.node v l r,lo,hi,a,b,c =>
  if apart lo hi a b || !iK d level (.node v l r) c then U3
  else if isNil l && isNil r then U4 (max lo a)
  else match fm d level l lo (aS lo hi) a b (c+v) with
   |some x=>U4 x
   |none=>fm d level r (aS lo hi) hi a b (c+v)
theorem GY{d:UX}{t:T}(h:iK d level t c=U5)(i:lo<hi)(g:Good t lo hi):∀ x,lo<=x->x<hi->¬ want d level (c+dJ t lo hi x):=by
 intro x k j
 cases d
 ·have:=(Oj t lo hi i g).1 x k j;simp[iK,want] at h ⊢;omega
 ·have:=(vx t lo hi i g).1 x k j;simp[iK,want] at h ⊢;omega
theorem Iu{d:UX}{t:T}(h:iK d level t c=U6)(g:∀ x,dJ t lo hi x=val t)(ht:top t=val t)(i:bot t=val t):∀ x,want d level (c+dJ t lo hi x):=by
 intro x;rw[g x]
 cases d
 ·simp[iK,want,i] at h ⊢;omega
 ·simp[iK,want,ht] at h ⊢;omega
def sC(P:UZ->Prop)(lo hi a b:UZ):UW UZ->Prop
 |none=>∀ x,lo<=x->x<hi->a<=x->x<b->¬ P x
 |some x=>lo<=x/\x<hi/\a<=x/\x<b/\P x/\∀ y,lo<=y->y<x->a<=y->¬ P y
theorem Fe(d:UX)(level:UZ):∀ (t:T)(lo hi a b c:UZ),lo<hi->a<b->Good t lo hi->sC (fun x=>want d level (c+dJ t lo hi x)) lo hi a b (fm d level t lo hi a b c):=by
 intro t
 induction t with
 |nil =>
  intro lo hi a b c h Q g;unfold fm
  cases A:apart lo hi a b
  ·have k:=lZ.1 A
   cases z:iK d level .nil c
   ·simp only[Vk,Vl,if_true];exact fun x P s _ _=>GY z h g x P s
   ·simp only[Vk,Vm,Vn,if_false];exact⟨by omega,by omega,by omega,by omega,Iu z (fun _=>rfl) rfl rfl _,fun y _ _ _=>by omega⟩
  ·have k:=sQ.1 A;simp only[Vo,if_true];exact fun x _ _ _ _=>by omega
 |node v l r ihl ihr =>
  intro lo hi a b c h Q g;unfold fm
  cases A:apart lo hi a b
  ·have k:=lZ.1 A
   cases z:iK d level (.node v l r) c
   ·simp only[Vk,Vl,if_true];exact fun x P s _ _=>GY z h g x P s
   ·simp only[Vk,Vm,Vn,if_false]
    cases O:isNil l && isNil r
    ·simp only[Vn,if_false]
     have s:2<=hi-lo:=by
      rcases g.2.1 with ⟨E,D⟩|s
      ·simp[E,D] at O
      ·exact s
     have S:lo<aS lo hi/\aS lo hi<hi:=by unfold aS;omega
     have i:=ihl lo (aS lo hi) a b (c+v) S.1 Q g.2.2.1;have q:=ihr (aS lo hi) hi a b (c+v) S.2 Q g.2.2.2
     cases V:fm d level l lo (aS lo hi) a b (c+v) with
     |some x =>
      rw[V] at i;obtain⟨R,L,K,J,I,H⟩:=i;refine⟨R,by omega,K,J,?_,fun y C B m=>?_⟩
      ·show want d level (c+dJ (.node v l r) lo hi x);simp only[dJ];rw[U1 L,<- Vp];exact I
      ·show ¬ want d level (c+dJ (.node v l r) lo hi y);simp only[dJ];rw[U1 UI,<- Vp];exact H y C B m
     |none =>
      rw[V] at i;have i:∀ x,lo<=x->x<aS lo hi->a<=x->x<b->¬ want d level (c+v+dJ l lo (aS lo hi) x):=i
      cases U:fm d level r (aS lo hi) hi a b (c+v) with
      |some x =>
       rw[U] at q;obtain⟨R,L,K,J,I,H⟩:=q;refine⟨by omega,L,K,J,?_,fun y C B m=>?_⟩
       ·show want d level (c+dJ (.node v l r) lo hi x);simp only[dJ];rw[U0 UI,<- Vp];exact I
       ·show ¬ want d level (c+dJ (.node v l r) lo hi y);simp only[dJ]
        by_cases j:y<aS lo hi
        ·rw[U1 j,<- Vp];exact i y C j m UI
        ·rw[U0 j,<- Vp];exact H y UI B m
      |none =>
       rw[U] at q;have q:∀ x,aS lo hi<=x->x<hi->a<=x->x<b->¬ want d level (c+v+dJ r (aS lo hi) hi x):=q;intro y C B m W;show ¬ want d level (c+dJ (.node v l r) lo hi y);simp only[dJ]
       by_cases j:y<aS lo hi
       ·rw[U1 j,<- Vp];exact i y C j m W
       ·rw[U0 j,<- Vp];exact q y UI B m W
    ·simp only[if_true];have E:isNil l=U6:=by revert O;cases isNil l <;> simp
     have D:isNil r=U6:=by revert O;cases isNil r <;> simp
     have Z:=tR E;have Y:=tR D;refine⟨by omega,by omega,by omega,by omega,?_,fun y _ _ _=>by omega⟩;exact Iu z (fun x=>by simp only[dJ,val,tU E,tU D];split <;> omega) (by simp only[top,val];omega) (by simp only[bot,val];omega) _
  ·have k:=sQ.1 A;simp only[Vo,if_true];exact fun x _ _ _ _=>by omega
end aG
def cT(w:U7):aG.T->U8->UV UY->Prop
 |.nil,p,F=>p=.pointer U3/\F=[]
 |.node a l r,p,F=>∃ (b:UY) (pl pr:UW Vb) (Fl Fr:UV UY),p=.pointer (U4 ⟨b,0,U3⟩)/\w.cell? ⟨b,0,U3⟩=U4 (.int .i64 a)/\w.cell? ⟨b,1,U3⟩=U4 (.int .i64 (aG.top (.node a l r)))/\w.cell? ⟨b,2,U3⟩=U4 (.int .i64 (aG.bot (.node a l r)))/\w.cell? ⟨b,3,U3⟩=U4 (.pointer pl)/\w.cell? ⟨b,4,U3⟩=U4 (.pointer pr)/\(∀ o,w.frozen? ⟨b,o,U3⟩=U5)/\cT w l (.pointer pl) Fl/\cT w r (.pointer pr) Fr/\F=b :: (Fl++Fr)/\F.Nodup
theorem cT.lt{w:U7}:∀ {t:aG.T}{p:U8}{F:UV UY},cT w t p F->∀ k∈F,k<w.heap.size
 |.nil,p,F,h,k,d=>by rw[h.2] at d;cases d
 |.node a l r,p,F,h,k,d=>by
  obtain⟨b,pl,pr,Fl,Fr,rfl,j,z,y,x,s,q,i,g,rfl,m⟩:=h;rcases Vq.1 d with rfl|d
  ·exact Vh _ _ j
  ·rcases Vr.1 d with d|d
   ·exact cT.lt i k d
   ·exact cT.lt g k d
theorem cT.off{G:UV UY}{w w':U7}(h:aF G w w'):∀ {t:aG.T}{p:U8}{F:UV UY},cT w t p F->(∀ k∈F,k ∉ G)->cT w' t p F
 |.nil,p,F,g,_=>g
 |.node a l r,p,F,g,hd=>by
  obtain⟨b,pl,pr,Fl,Fr,rfl,j,A,z,y,x,s,q,g,rfl,m⟩:=g;have d:b ∉ G:=hd b UJ;exact⟨b,pl,pr,Fl,Fr,rfl,h.cell d j,h.cell d A,h.cell d z,h.cell d y,h.cell d x,fun o=>(h.frozen d (Vh _ _ j)).trans (s o),cT.off h q (fun k i=>hd k (by simp[i])),cT.off h g (fun k i=>hd k (by simp[i])),rfl,m⟩
theorem cT.same{t:aG.T}(h:cT w t p F)(k:aF [] w w'):cT w' t p F:=h.off k (fun _ _=>by simp)
theorem cT.nodup{t:aG.T}(h:cT w t p F):F.Nodup:=by
 cases t with
 |nil=>rw[h.2];exact Vs
 |node a l r=>obtain⟨b,_,_,_,_,_,_,_,_,_,_,_,_,_,_,d⟩:=h;exact d
structure cQ(w:U7)(b:UY)(c:UZ)(l r:aG.T)(pl pr:UW Vb)(Fl Fr:UV UY):Prop where
 c0:w.cell? ⟨b,0,U3⟩=U4 (.int .i64 c)
 c1:∃ x,w.cell? ⟨b,1,U3⟩=U4 (.int .i64 x)
 c2:∃ x,w.cell? ⟨b,2,U3⟩=U4 (.int .i64 x)
 c3:w.cell? ⟨b,3,U3⟩=U4 (.pointer pl)
 c4:w.cell? ⟨b,4,U3⟩=U4 (.pointer pr)
 fz:∀ o,w.frozen? ⟨b,o,U3⟩=U5
 l:cT w l (.pointer pl) Fl
 r:cT w r (.pointer pr) Fr
 nd:(b :: (Fl++Fr)).Nodup
def LB:aG.T->Prop
 |.nil=>True
 |.node a l r=>(-1000000<=a/\a<=1000000)/\(-100000000<=aG.top (.node a l r)/\aG.top (.node a l r)<=100000000)/\(-100000000<=aG.bot (.node a l r)/\aG.bot (.node a l r)<=100000000)/\LB l/\LB r
theorem LB.top{t:aG.T}(h:LB t):-100000000<=aG.top t/\aG.top t<=100000000:=by
 cases t with
 |nil=>simp[aG.top]
 |node a l r=>exact h.2.1
theorem LB.bot{t:aG.T}(h:LB t):-100000000<=aG.bot t/\aG.bot t<=100000000:=by
 cases t with
 |nil=>simp[aG.bot]
 |node a l r=>exact h.2.2.1
theorem LB.val{t:aG.T}(h:LB t):-1000000<=aG.val t/\aG.val t<=1000000:=by
 cases t with
 |nil=>simp[aG.val]
 |node a l r=>exact h.1
theorem LB.fst{t:aG.T}(h:LB t):LB (aG.fst t):=by
 cases t with
 |nil=>trivial
 |node a l r=>exact h.2.2.2.1
theorem LB.snd{t:aG.T}(h:LB t):LB (aG.snd t):=by
 cases t with
 |nil=>trivial
 |node a l r=>exact h.2.2.2.2
theorem LB.mk{l r:aG.T}(h:LB (aG.mk a l r)):(-1000000<=a/\a<=1000000)/\LB l/\LB r:=by
 have i:=h.val;have g:=h.fst;have d:=h.snd;simp at i g d;exact⟨i,g,d⟩
theorem ng(lo hi a b:UZ)(w:U7):
  Va prog 257 #[.agg #[.int .i64 lo,.int .i64 hi],.agg #[.int .i64 a,.int .i64 b]] w fun e w'=>e=.returned (.bool (aG.apart lo hi a b))/\U9 w.heap.size w w':=by
 by_cases d:hi<=a
 ·go_in
  go_wp2;go_ret;exact⟨nY (by simp[aG.apart,d]),((zr _ _).alloc (zq _) _).alloc UJ _⟩
 ·by_cases g:b<=lo
  all_goals
   go_in
   go_wp2;go_ret;exact⟨nY (by simp[aG.apart];omega),((zr _ _).alloc (zq _) _).alloc UJ _⟩
theorem uf(lo hi a b:UZ)(w:U7):
  Va prog 258 #[.agg #[.int .i64 lo,.int .i64 hi],.agg #[.int .i64 a,.int .i64 b]] w fun e w'=>e=.returned (.bool (aG.within lo hi a b))/\U9 w.heap.size w w':=by
 by_cases g:a<=lo
 ·by_cases d:hi<=b
  all_goals
   go_in
   go_wp2;go_ret;exact⟨nY (by simp[aG.within];omega),((zr _ _).alloc (zq _) _).alloc UJ _⟩
 ·go_in
  go_wp2;go_ret;exact⟨nY (by simp[aG.within];omega),((zr _ _).alloc (zq _) _).alloc UJ _⟩
theorem Qa(w:U7):
  Va prog 214 #[.pointer U3] w fun e w'=>e=.returned (.int .i64 0)/\w'=w:=by
 go_in
 go_wp2;go_ret;exact⟨rfl,rfl⟩
theorem QE(b:UY)(x:UZ)(w:U7)(d:w.cell? ⟨b,1,U3⟩=U4 (.int .i64 x)):
  Va prog 214 #[.pointer (U4 ⟨b,0,U3⟩)] w fun e w'=>e=.returned (.int .i64 x)/\w'=w:=by
 go_in
 go_wp2;go_ret;exact⟨rfl,rfl⟩
theorem vD{t:aG.T}(w:U7)(h:cT w t (.pointer u) F):
  Va prog 214 #[.pointer u] w fun e w'=>e=.returned (.int .i64 (aG.top t))/\w'=w:=by
 cases t with
 |nil=>obtain⟨g,_⟩:=h;cases g;exact Qa w
 |node a l r=>obtain⟨b,pl,pr,Fl,Fr,d,j,i,_⟩:=h;cases d;exact QE b _ w i
theorem P4(w:U7):
  Va prog 216 #[.pointer U3] w fun e w'=>e=.returned (.int .i64 0)/\w'=w:=by
 go_in
 go_wp2;go_ret;exact⟨rfl,rfl⟩
theorem QC(b:UY)(x:UZ)(w:U7)(d:w.cell? ⟨b,2,U3⟩=U4 (.int .i64 x)):
  Va prog 216 #[.pointer (U4 ⟨b,0,U3⟩)] w fun e w'=>e=.returned (.int .i64 x)/\w'=w:=by
 go_in
 go_wp2;go_ret;exact⟨rfl,rfl⟩
theorem vC{t:aG.T}(w:U7)(h:cT w t (.pointer u) F):
  Va prog 216 #[.pointer u] w fun e w'=>e=.returned (.int .i64 (aG.bot t))/\w'=w:=by
 cases t with
 |nil=>obtain⟨g,_⟩:=h;cases g;exact P4 w
 |node a l r=>obtain⟨b,pl,pr,Fl,Fr,d,k,j,i,_⟩:=h;cases d;exact QC b _ w i
theorem Rt(w:U7):
  Va prog 260 #[.pointer U3] w fun e w'=>e=.returned (.bool U6)/\w'=w:=by
 go_in
 go_wp2;go_ret;exact⟨rfl,rfl⟩
def si(pl pr:UW Vb):UX:=pl.isNone && pr.isNone
theorem Co(b:UY)(pl pr:UW Vb)(w:U7)(g:w.cell? ⟨b,3,U3⟩=U4 (.pointer pl))(d:w.cell? ⟨b,4,U3⟩=U4 (.pointer pr)):
  Va prog 260 #[.pointer (U4 ⟨b,0,U3⟩)] w fun e w'=>e=.returned (.bool (si pl pr))/\w'=w:=by
 cases pl with
 |none =>
  cases pr with
  |none =>
   go_in
   go_wp2;go_ret;exact⟨rfl,rfl⟩
  |some q =>
   go_in
   go_wp2;go_ret;exact⟨rfl,rfl⟩
 |some q =>
  go_in
  go_wp2;go_ret;exact⟨rfl,rfl⟩
theorem cT.isNone{t:aG.T}(h:cT w t (.pointer u) F):u.isNone=aG.isNil t:=by
 cases t with
 |nil=>obtain⟨g,_⟩:=h;cases g;rfl
 |node a l r=>obtain⟨b,pl,pr,Fl,Fr,d,_⟩:=h;cases d;rfl
theorem yn(lo hi:UZ)(w:U7)(h:0<=lo)(g:lo<=hi)(d:hi<=2000000):
  Va prog 259 #[.agg #[.int .i64 lo,.int .i64 hi]] w fun e w'=>e=.returned (.tuple #[.agg #[.int .i64 lo,.int .i64 (aG.aS lo hi)],.agg #[.int .i64 (aG.aS lo hi),.int .i64 hi]])/\U9 w.heap.size w w':=by
 go_in
 go_wp2
 go_region
 all_goals
  go_wp2;refine bodyPost_ret (v:=.tuple #[.agg #[.int .i64 lo,.int .i64 (aG.aS lo hi)],.agg #[.int .i64 (aG.aS lo hi),.int .i64 hi]]) (by simp[results,results259,go_sem,aG.aS]) rfl ⟨rfl,?_⟩;exact ((((zr _ _).alloc (zq _) _).alloc UJ _).alloc UQ _).drew
theorem cQ.off{l r:aG.T}(h:cQ w b c l r pl pr Fl Fr)(k:aF G w w')(d:b ∉ G)(i:∀ x∈Fl,x ∉ G)(g:∀ x∈Fr,x ∉ G):cQ w' b c l r pl pr Fl Fr :=
 ⟨k.cell d h.c0,h.c1.imp (fun _=>k.cell d),h.c2.imp (fun _=>k.cell d),k.cell d h.c3,k.cell d h.c4,fun o=>(k.frozen d (Vh _ _ h.c0)).trans (h.fz o),h.l.off k i,h.r.off k g,h.nd⟩
theorem cQ.drew{l r:aG.T}(h:cQ w b c l r pl pr Fl Fr):cQ w.drew b c l r pl pr Fl Fr :=
 h.off (G:=[]) (aF.refl _ _).drew UJ UJ UJ
theorem cQ.y{l r:aG.T}(h:cQ w b c l r pl pr Fl Fr):(∀ x∈Fl,x ∉ [b])/\(∀ x∈Fr,x ∉ [b]):=by
 have d:=h.nd;rw[Vt] at d;refine⟨fun x g=>?_,fun x g=>?_⟩ <;> (simp;rintro rfl;exact d.1 (by simp[g]))
theorem cQ.nk{l r:aG.T}(h:cQ w b c l r pl pr Fl Fr)(x:UZ):cQ (w.setCell ⟨b,1,U3⟩ (.int .i64 x)) b c l r pl pr Fl Fr:=by
 obtain⟨g,d⟩:=h.c1;exact⟨(zS _ _ _ _ UJ).trans h.c0,⟨x,Vu _ _ _ d⟩,h.c2.imp (fun _ e=>(zS _ _ _ _ UJ).trans e),(zS _ _ _ _ UJ).trans h.c3,(zS _ _ _ _ UJ).trans h.c4,fun o=>(zF ..).trans (h.fz o),h.l.off (aF.aX ..) h.y.1,h.r.off (aF.aX ..) h.y.2,h.nd⟩
theorem cQ.nj{l r:aG.T}(h:cQ w b c l r pl pr Fl Fr)(x:UZ):cQ (w.setCell ⟨b,2,U3⟩ (.int .i64 x)) b c l r pl pr Fl Fr:=by
 obtain⟨g,d⟩:=h.c2;exact⟨(zS _ _ _ _ UJ).trans h.c0,h.c1.imp (fun _ e=>(zS _ _ _ _ UJ).trans e),⟨x,Vu _ _ _ d⟩,(zS _ _ _ _ UJ).trans h.c3,(zS _ _ _ _ UJ).trans h.c4,fun o=>(zF ..).trans (h.fz o),h.l.off (aF.aX ..) h.y.1,h.r.off (aF.aX ..) h.y.2,h.nd⟩
theorem cQ.done{l r:aG.T}(h:cQ w b c l r pl pr Fl Fr)(g:w.cell? ⟨b,1,U3⟩=U4 (.int .i64 (c+max (aG.top l) (aG.top r)))):
  cT (w.setCell ⟨b,2,U3⟩ (.int .i64 (c+min (aG.bot l) (aG.bot r)))) (.node c l r) (.pointer (U4 ⟨b,0,U3⟩)) (b :: (Fl++Fr)):=by
 have k:=h.nj (c+min (aG.bot l) (aG.bot r));obtain⟨i,d⟩:=h.c2;exact⟨b,pl,pr,Fl,Fr,rfl,k.c0,(zS _ _ _ _ UJ).trans g,Vu _ _ _ d,k.c3,k.c4,k.fz,k.l,k.r,rfl,h.nd⟩
theorem Tp(w:U7)(b:UY)(l r:aG.T)(pl pr:UW Vb)(Fl Fr:UV UY)(h:cQ w b 0 l r pl pr Fl Fr)(g:aG.isNil l=U6)(d:aG.isNil r=U6):
  Va prog 281 #[.pointer (U4 ⟨b,0,U3⟩)] w fun e w'=>e=.returned (.pointer U3)/\w'=w:=by
 have j:=h.c0;have i:si pl pr=U6:=by rw[si,h.l.isNone,h.r.isNone,g,d];rfl
 go_in
 go_wp2_with (go_at_call 260;refine (Co _ pl pr _ h.c3 h.c4).mono ?_;rintro e w' ⟨rfl,rfl⟩)
 go_ret;exact⟨rfl,rfl⟩
theorem qG{l r:aG.T}(h:cQ w b c l r pl pr Fl Fr):
  w.cell? ⟨b,0,U3⟩=U4 (.int .i64 c)/\w.cell? ⟨b,3,U3⟩=U4 (.pointer pl)/\w.cell? ⟨b,4,U3⟩=U4 (.pointer pr)/\cQ w b c l r pl pr Fl Fr:=⟨h.c0,h.c3,h.c4,h⟩
theorem TX(w:U7)(b:UY)(c:UZ)(l r:aG.T)(pl pr:UW Vb)(Fl Fr:UV UY)(h:cQ w b c l r pl pr Fl Fr)(D:¬ (c=0/\aG.isNil l=U6/\aG.isNil r=U6))
  (R:-1000000<=c/\c<=1000000) (E:LB l) (C:LB r):
  Va prog 281 #[.pointer (U4 ⟨b,0,U3⟩)] w fun e w'=>e=.returned (.pointer (U4 ⟨b,0,U3⟩))/\cT w' (.node c l r) (.pointer (U4 ⟨b,0,U3⟩)) (b :: (Fl++Fr))/\aF [b] w w':=by
 have c0:=h.c0;obtain⟨Q,P⟩:=R;have Z:=E.top;have Y:=C.top;have W:=E.bot;have V:=C.bot
 have A:c=0->si pl pr=U5:=by
  rw[si,h.l.isNone,h.r.isNone]
  cases hx:aG.isNil l <;> cases hy:aG.isNil r <;> simp_all
 have f1:=h.fz 1;have H:=h.fz 2;obtain⟨U,S⟩:=h.c1;obtain⟨B,K⟩:=h.c2
 have J:Vf.wrap (c+if aG.top l<aG.top r then aG.top r else aG.top l)=c+max (aG.top l) (aG.top r):=by
  rw[AV];exact cG UI UI
 have I:Vf.wrap (c+if aG.bot r<aG.bot l then aG.bot r else aG.bot l)=c+min (aG.bot l) (aG.bot r):=by
  rw[N4];exact cG UI UI
 have O:=aC J;have L:=aC I;have q:cQ ((w.setCell ⟨b,1,U3⟩ (.int .i64 (c+max (aG.top l) (aG.top r)))).drew) b c l r pl pr Fl Fr:=(h.nk _).drew;have m:((w.setCell ⟨b,1,U3⟩ (.int .i64 (c+max (aG.top l) (aG.top r)))).drew).cell? ⟨b,1,U3⟩=U4 (.int .i64 (c+max (aG.top l) (aG.top r))):=zm _ _ _ S;have k:aF [b] w ((w.setCell ⟨b,1,U3⟩ (.int .i64 (c+max (aG.top l) (aG.top r)))).drew):=(aF.aX b w _ _).drew;have y:=aC (zA q (zA m k));clear J I q m k
 by_cases j:c=0
 ·have e2:=A j;have z:(c==0)=U6:=by simp[j]
  clear D A j
  go_in
  go_wp2_with (go_at_call 260;refine (Co _ pl pr _ h.c3 h.c4).mono ?_;rintro e w' ⟨rfl,rfl⟩)
  go_region_held3 (fun w'=>w'.cell? ⟨b,0,U3⟩=U4 (.int .i64 c)/\w'.cell? ⟨b,3,U3⟩=U4 (.pointer pl)/\w'.cell? ⟨b,4,U3⟩=U4 (.pointer pr)/\cQ w' b c l r pl pr Fl Fr)
   (first
    |exact qG (cQ.drew h)
    |exact qG (cQ.drew (cQ.nk h _)))
   (first
    |(go_at_call_of 214 (Vv pl);go_split_ands;refine (vD _ (cQ.l UL)).mono ?_;rintro e w' ⟨rfl,rfl⟩)
    |(go_at_call_of 214 (Vv pr);go_split_ands;refine (vD _ (cQ.r UL)).mono ?_;rintro e w' ⟨rfl,rfl⟩))
  rw[O.y,tF];obtain⟨d,x,i⟩:=y.y;clear y;generalize (Vw _ ⟨b,1,U3⟩ (.int .i64 (c+max (aG.top l) (aG.top r)))).drew=X at d x i ⊢;have H:=d.fz 2;obtain⟨B,K⟩:=d.c2
  go_wp2_with fail
  go_region_held3 (fun w'=>w'.cell? ⟨b,0,U3⟩=U4 (.int .i64 c)/\w'.cell? ⟨b,3,U3⟩=U4 (.pointer pl)/\w'.cell? ⟨b,4,U3⟩=U4 (.pointer pr)/\cQ w' b c l r pl pr Fl Fr)
   (first
    |exact qG (cQ.drew d)
    |exact qG (cQ.drew (cQ.nj d _)))
   (first
    |(go_at_call_of 216 (Vv pl);go_split_ands;refine (vC _ (cQ.l UL)).mono ?_;rintro e w' ⟨rfl,rfl⟩)
    |(go_at_call_of 216 (Vv pr);go_split_ands;refine (vC _ (cQ.r UL)).mono ?_;rintro e w' ⟨rfl,rfl⟩))
  rw[L.y,FL];have t:=d.done x;have g:aF [b] _ (Vw X ⟨b,2,U3⟩ (.int .i64 (c+min (aG.bot l) (aG.bot r)))).drew:=(i.setCell (.inl UJ) _ _).drew;have s:=aC (zA (t.same (aF.refl _ _).drew) g);clear t g
  go_wp2
  go_ret;exact⟨rfl,s.y.1,s.y.2⟩
 ·have z:(c==0)=U5:=by simp[j]
  clear D A j
  go_in
  go_wp2_with fail
  go_region_held3 (fun w'=>w'.cell? ⟨b,0,U3⟩=U4 (.int .i64 c)/\w'.cell? ⟨b,3,U3⟩=U4 (.pointer pl)/\w'.cell? ⟨b,4,U3⟩=U4 (.pointer pr)/\cQ w' b c l r pl pr Fl Fr)
   (first
    |exact qG (cQ.drew h)
    |exact qG (cQ.drew (cQ.nk h _)))
   (first
    |(go_at_call_of 214 (Vv pl);go_split_ands;refine (vD _ (cQ.l UL)).mono ?_;rintro e w' ⟨rfl,rfl⟩)
    |(go_at_call_of 214 (Vv pr);go_split_ands;refine (vD _ (cQ.r UL)).mono ?_;rintro e w' ⟨rfl,rfl⟩))
  rw[O.y,tF];obtain⟨d,x,i⟩:=y.y;clear y;generalize (Vw _ ⟨b,1,U3⟩ (.int .i64 (c+max (aG.top l) (aG.top r)))).drew=X at d x i ⊢;have H:=d.fz 2;obtain⟨B,K⟩:=d.c2
  go_wp2_with fail
  go_region_held3 (fun w'=>w'.cell? ⟨b,0,U3⟩=U4 (.int .i64 c)/\w'.cell? ⟨b,3,U3⟩=U4 (.pointer pl)/\w'.cell? ⟨b,4,U3⟩=U4 (.pointer pr)/\cQ w' b c l r pl pr Fl Fr)
   (first
    |exact qG (cQ.drew d)
    |exact qG (cQ.drew (cQ.nj d _)))
   (first
    |(go_at_call_of 216 (Vv pl);go_split_ands;refine (vC _ (cQ.l UL)).mono ?_;rintro e w' ⟨rfl,rfl⟩)
    |(go_at_call_of 216 (Vv pr);go_split_ands;refine (vC _ (cQ.r UL)).mono ?_;rintro e w' ⟨rfl,rfl⟩))
  rw[L.y,FL];have t:=d.done x;have g:aF [b] _ (Vw X ⟨b,2,U3⟩ (.int .i64 (c+min (aG.bot l) (aG.bot r)))).drew:=(i.setCell (.inl UJ) _ _).drew;have s:=aC (zA (t.same (aF.refl _ _).drew) g);clear t g
  go_wp2
  go_ret;exact⟨rfl,s.y.1,s.y.2⟩
structure NJ(w w1:U7)(lo hi a b:UZ):Prop where
 q0:w1.cell? ⟨w.heap.size,0,U3⟩=U4 (.int .i64 lo)
 q1:w1.cell? ⟨w.heap.size,1,U3⟩=U4 (.int .i64 hi)
 q2:w1.cell? ⟨w.heap.size+1,0,U3⟩=U4 (.int .i64 a)
 q3:w1.cell? ⟨w.heap.size+1,1,U3⟩=U4 (.int .i64 b)
 sz:w.heap.size+1<w1.heap.size
 bw:U9 w.heap.size w w1
theorem boxes{b:UZ}(h:U9 ((w.alloc (.cells #[.int .i64 lo,.int .i64 hi] 60)).alloc (.cells #[.int .i64 a,.int .i64 b] 60)).heap.size ((w.alloc (.cells #[.int .i64 lo,.int .i64 hi] 60)).alloc (.cells #[.int .i64 a,.int .i64 b] 60)) w1):NJ w w1 lo hi a b:=by
 have e:((w.alloc (.cells #[.int .i64 lo,.int .i64 hi] 60)).alloc (.cells #[.int .i64 a,.int .i64 b] 60)).heap.size=w.heap.size+2:=UJ
 refine⟨(h.cell (p:=⟨w.heap.size,0,U3⟩) ?_).trans ?_,(h.cell (p:=⟨w.heap.size,1,U3⟩) ?_).trans ?_,(h.cell (p:=⟨w.heap.size+1,0,U3⟩) ?_).trans ?_,(h.cell (p:=⟨w.heap.size+1,1,U3⟩) ?_).trans ?_,?_,?_⟩
 ·rw[e];show w.heap.size<_;omega
 ·simp
 ·rw[e];show w.heap.size<_;omega
 ·simp
 ·rw[e];show w.heap.size+1<_;omega
 ·simp
 ·rw[e];show w.heap.size+1<_;omega
 ·simp
 ·have:=h.size;omega
 ·exact (((zr _ _).alloc (zq _) _).alloc UJ _).trans (h.mono UI)
def qE(w:U7)(F:UV UY)(d:aG.T)(e:Ending)(w':U7):Prop :=
 ∃ (u:UW Vb) (F':UV UY),e=.returned (.pointer u)/\cT w' d (.pointer u) F'/\(∀ k∈F',k∈F\/w.heap.size<=k)/\aF F w w'
theorem Hn(t:aG.T)(u:UW Vb)(F:UV UY)(lo hi a b x:UZ)(n:UY)(w:U7)(h:cT w t (.pointer u) F)(d:aG.apart lo hi a b=U6):
  Va prog 261 #[.pointer u,.agg #[.int .i64 lo,.int .i64 hi],.agg #[.int .i64 a,.int .i64 b],.int .i64 x] w (qE w F (aG.fU n t lo hi a b x)):=by
 have e:aG.fU n t lo hi a b x=t:=by unfold aG.fU;rw[U1 d]
 rw[e];clear e
 go_in
 go_wp2_with fail
 refine (ng _ _ _ _ _).mono ?_;rintro e w1 ⟨rfl,g⟩;rw[d];have i:U9 w.heap.size w w1:=(((zr _ _).alloc (zq _) _).alloc UJ _).trans (g.mono UQ);have j:=aC i;clear i g
 go_wp2
 go_ret;exact⟨u,F,rfl,h.same (aF.aD j.y),fun k l=>.inl l,aF.aD j.y⟩
theorem GA(w:U7)(c:UZ):cQ (w.alloc (.cells #[.int .i64 c,.int .i64 0,.int .i64 0,.pointer U3,.pointer U3] 338)) w.heap.size c .nil .nil U3 U3 [] [] :=
 ⟨by simp,⟨0,by simp⟩,⟨0,by simp⟩,by simp,by simp,fun o=>World.frozen?_alloc_new w _ _ o,⟨rfl,rfl⟩,⟨rfl,rfl⟩,by simp⟩
theorem vz{l r:aG.T}(h:cT w (.node c l r) (.pointer u) F):∃ (b:UY)(pl pr:UW Vb)(Fl Fr:UV UY),u=U4 ⟨b,0,U3⟩/\F=b :: (Fl++Fr)/\cQ w b c l r pl pr Fl Fr:=by
 obtain⟨b,pl,pr,Fl,Fr,j,y,x,t,s,q,m,k,i,d,g⟩:=h
 cases j
 exact⟨b,pl,pr,Fl,Fr,rfl,d,y,⟨_,x⟩,⟨_,t⟩,s,q,m,k,i,d ▸ g⟩
theorem ym(w:U7)(b:UY)(c:UZ)(l r:aG.T)(pl pr:UW Vb)(Fl Fr:UV UY)(h:cQ w b c l r pl pr Fl Fr)(s:LB (aG.mk c l r)):
  Va prog 281 #[.pointer (U4 ⟨b,0,U3⟩)] w fun e w'=>∃ (u:UW Vb) (F':UV UY),e=.returned (.pointer u)/\cT w' (aG.mk c l r) (.pointer u) F'/\(∀ k∈F',k∈b :: (Fl++Fr))/\aF [b] w w':=by
 obtain⟨y,x,t⟩:=s.mk
 by_cases d:c=0/\aG.isNil l=U6/\aG.isNil r=U6
 ·have e:aG.mk c l r=.nil:=by unfold aG.mk;rw[U1 d]
  rw[e];obtain⟨rfl,i,g⟩:=d;refine (Tp w b l r pl pr Fl Fr h i g).mono ?_;rintro e w' ⟨rfl,rfl⟩;exact⟨U3,[],rfl,⟨rfl,rfl⟩,by simp,aF.refl _ _⟩
 ·have e:aG.mk c l r=.node c l r:=by unfold aG.mk;rw[U0 d]
  rw[e];refine (TX w b c l r pl pr Fl Fr h d y x t).mono ?_;rintro e w' ⟨rfl,m,j⟩;exact⟨_,_,rfl,m,fun _ q=>q,j⟩
theorem cQ.aX{l r:aG.T}(h:cQ w b c l r pl pr Fl Fr)(x:UZ):cQ (w.setCell ⟨b,0,U3⟩ (.int .i64 x)) b x l r pl pr Fl Fr :=
 ⟨zm _ _ _ h.c0,h.c1.imp (fun _ e=>(zS _ _ _ _ UJ).trans e),h.c2.imp (fun _ e=>(zS _ _ _ _ UJ).trans e),(zS _ _ _ _ UJ).trans h.c3,(zS _ _ _ _ UJ).trans h.c4,fun o=>(zF ..).trans (h.fz o),h.l.off (aF.aX ..) h.y.1,h.r.off (aF.aX ..) h.y.2,h.nd⟩
theorem xP{d:aG.T}(r:aF F w w1)(h:∀ k∈G,k∈F\/w.heap.size<=k)(j:b∈G)(q:cT w2 d (.pointer u) F')(m:∀ k∈F',k∈G)(l:aF [b] w1 w2):qE w F d (.returned (.pointer u)) w2 :=
 ⟨u,F',rfl,q,fun k i=>h k (m k i),r.trans' l (fun x g=>by simp at g;subst g;exact h x j)⟩
theorem Il(t:aG.T)(u:UW Vb)(F:UV UY)(lo hi a b x:UZ)(n:UY)(w:U7)(h:cT w t (.pointer u) F)(E:aG.apart lo hi a b=U5)(D:aG.within lo hi a b=U6)
  (O:-1000000<=x) (L:x<=1000000) (A:LB t) (g:LB (aG.fU n t lo hi a b x)):
  Va prog 261 #[.pointer u,.agg #[.int .i64 lo,.int .i64 hi],.agg #[.int .i64 a,.int .i64 b],.int .i64 x] w (qE w F (aG.fU n t lo hi a b x)):=by
 have e:aG.fU n t lo hi a b x=aG.mk (aG.val t+x) (aG.fst t) (aG.snd t):=by unfold aG.fU;rw[U0 (by simp[E]),U1 D]
 rw[e] at g ⊢;have K:=A.val;clear e A
 cases t with
 |nil =>
  obtain⟨P,rfl⟩:=h
  cases P
  simp only[aG.val,aG.fst,aG.snd,Vx] at g K ⊢
  go_in
  go_wp2_with fail
  refine (ng _ _ _ _ _).mono ?_;rintro e w1 ⟨rfl,d⟩;rw[E];have B:=boxes d;have ⟨q0,q1,q2,q3,hs,hB⟩:=B;have C:=aC hB;have j:w.heap.size<w1.heap.size:=UI
  clear hB d B
  go_wp2_with fail
  refine (uf _ _ _ _ _).mono ?_;rintro e w2 ⟨rfl,d⟩;rw[D];have i:=(GA w1 0).off (G:=[]) (aF.aD d) UJ UJ UJ;have z:aF [] w w2:=(((aF.aD C.y).alloc _).trans (aF.aD d));have U:w.heap.size<=w1.heap.size:=UI
  have m:∀ k∈w1.heap.size :: ([]++[]),k∈([]:UV UY)\/w.heap.size<=k:=by simp;omega
  have I:=i.c0;have H:=i.fz 0;clear d q0 q1 q2 q3 hs j
  go_wp2_with fail
  refine (ym _ _ _ _ _ _ _ _ _ (i.aX _) g).mono ?_;rintro e w3 ⟨u3,S,rfl,y,s,q⟩;have J:=aC (xP (z.setCell (m _ UJ) _ _) m UJ y s q);clear y s q i z m I H
  go_wp2
  go_ret;exact J.y
 |node c l r =>
  obtain⟨bk,pl,pr,Fl,Fr,rfl,rfl,R⟩:=vz h;simp only[aG.val,aG.fst,aG.snd] at g K ⊢
  go_in
  go_wp2_with fail
  refine (ng _ _ _ _ _).mono ?_;rintro e w1 ⟨rfl,d⟩;rw[E];have B:=boxes d;have ⟨q0,q1,q2,q3,hs,hB⟩:=B;have C:=aC hB;have j:w.heap.size<w1.heap.size:=UI
  clear hB d B
  go_wp2_with fail
  refine (uf _ _ _ _ _).mono ?_;rintro e w2 ⟨rfl,d⟩;rw[D];have i:=R.off (G:=[]) ((aF.aD C.y).trans (aF.aD d)) UJ UJ UJ;have z:aF (bk :: (Fl++Fr)) w w2:=(aF.aD C.y).trans (aF.aD d);have m:∀ k∈bk :: (Fl++Fr),k∈bk :: (Fl++Fr)\/w.heap.size<=k:=fun _ Q=>.inl Q
  have I:=i.c0;have H:=i.fz 0;clear d q0 q1 q2 q3 hs j
  go_wp2_with fail
  refine (ym _ _ _ _ _ _ _ _ _ (i.aX _) g).mono ?_;rintro e w3 ⟨u3,S,rfl,y,s,q⟩;have J:=aC (xP (z.setCell (m _ UJ) _ _) m UJ y s q);clear y s q i z m I H
  go_wp2
  go_ret;exact J.y
theorem cQ.lt{l r:aG.T}(h:cQ w b c l r pl pr Fl Fr):∀ k∈b :: (Fl++Fr),k<w.heap.size:=by
 intro k d;rcases Vq.1 d with rfl|d
 ·exact Vh _ _ h.c0
 ·rcases Vr.1 d with d|d
  ·exact h.l.lt k d
  ·exact h.r.lt k d
theorem cQ.iA{l r:aG.T}(h:cQ w b c l r pl pr Fl Fr):b ∉ Fl/\b ∉ Fr/\(∀ x∈Fr,x ∉ Fl)/\Fl.Nodup/\Fr.Nodup:=by
 have d:=h.nd;rw[Vt,Vy] at d;obtain⟨g,k,j,i⟩:=d;exact⟨fun e=>g (by simp[e]),fun e=>g (by simp[e]),fun x q m=>i x m x q rfl,k,j⟩
theorem cQ.jV{l r z:aG.T}(h:cQ X b c l r pl pr Fl Fr)(B:cT w4 z (.pointer u) F')(A:∀ k∈F',k∈Fl\/X.heap.size<=k)(i:aF Fl X w4):
  cQ (w4.setCell ⟨b,3,U3⟩ (.pointer u)) b c z r u pr F' Fr:=by
 obtain⟨g,t,s,J,E⟩:=h.iA;have j:=h.lt;have C:b ∉ F':=fun e=>by rcases A b e with m|m;exact g m;have:=j b UJ;omega
 have I:∀ x∈Fr,x ∉ F':=fun x d e=>by rcases A x e with m|m;exact s x d m;have:=j x (by simp[d]);omega
 have D:=aF.aX b w4 3 (.pointer u);have q:=h.r.off i s
 exact⟨(zS _ _ _ _ UJ).trans (i.cell g h.c0),h.c1.imp (fun _ e=>(zS _ _ _ _ UJ).trans (i.cell g e)),h.c2.imp (fun _ e=>(zS _ _ _ _ UJ).trans (i.cell g e)),Vu _ _ _ (i.cell g h.c3),(zS _ _ _ _ UJ).trans (i.cell g h.c4),
  fun o=>(zF ..).trans ((i.frozen g (j b UJ)).trans (h.fz o)),B.off D (fun x d=>by simp;rintro rfl;exact C d),q.off D (fun x d=>by simp;rintro rfl;exact t d),
  Vt.2 ⟨by simp;exact⟨C,t⟩,Vy.2 ⟨B.nodup,E,fun x d y H e=>I y H (e ▸ d)⟩⟩⟩
theorem cQ.jf{l r s:aG.T}(h:cQ X b c l r pl pr Fl Fr)(B:cT w4 s (.pointer u) F')(A:∀ k∈F',k∈Fr\/X.heap.size<=k)(i:aF Fr X w4):
  cQ (w4.setCell ⟨b,4,U3⟩ (.pointer u)) b c l s pl u Fl F':=by
 obtain⟨z,g,t,E,J⟩:=h.iA;have j:=h.lt;have C:b ∉ F':=fun e=>by rcases A b e with m|m;exact g m;have:=j b UJ;omega
 have I:∀ x∈Fl,x ∉ F':=fun x d e=>by rcases A x e with m|m;exact t x m d;have:=j x (by simp[d]);omega
 have D:=aF.aX b w4 4 (.pointer u);have q:=h.l.off i (fun x d e=>t x e d)
 exact⟨(zS _ _ _ _ UJ).trans (i.cell g h.c0),h.c1.imp (fun _ e=>(zS _ _ _ _ UJ).trans (i.cell g e)),h.c2.imp (fun _ e=>(zS _ _ _ _ UJ).trans (i.cell g e)),(zS _ _ _ _ UJ).trans (i.cell g h.c3),Vu _ _ _ (i.cell g h.c4),
  fun o=>(zF ..).trans ((i.frozen g (j b UJ)).trans (h.fz o)),q.off D (fun x d=>by simp;rintro rfl;exact z d),B.off D (fun x d=>by simp;rintro rfl;exact C d),
  Vt.2 ⟨by simp;exact⟨z,C⟩,Vy.2 ⟨E,B.nodup,fun x d y H e=>I x d (e ▸ H)⟩⟩⟩
structure mI(w X:U7)(F:UV UY)(bk M:UY)(c lo hi a b:UZ)(l r:aG.T)(pl pr:UW Vb)(Fl Fr:UV UY):Prop where
 half:cQ X bk c l r pl pr Fl Fr
 off:aF F w X
 own:∀ k∈bk :: (Fl++Fr),k∈F\/w.heap.size<=k
 a0:X.cell? ⟨w.heap.size+1,0,U3⟩=U4 (.int .i64 a)
 a1:X.cell? ⟨w.heap.size+1,1,U3⟩=U4 (.int .i64 b)
 m0:X.cell? ⟨M,0,U3⟩=U4 (.int .i64 lo)
 m1:X.cell? ⟨M,1,U3⟩=U4 (.int .i64 (aG.aS lo hi))
 n0:X.cell? ⟨M+1,0,U3⟩=U4 (.int .i64 (aG.aS lo hi))
 n1:X.cell? ⟨M+1,1,U3⟩=U4 (.int .i64 hi)
 y:w.heap.size+1 ∉ bk :: (Fl++Fr)/\M ∉ bk :: (Fl++Fr)/\M+1 ∉ bk :: (Fl++Fr)
def FH(n:UY):Prop:=∀ (t:aG.T)(u:UW Vb)(F:UV UY)(lo hi a b x:UZ)(w:U7),cT w t (.pointer u) F->0<=lo->lo<hi->hi<=2000000->hi-lo<=2 ^ n->a<b->-1000000<=x->x<=1000000->LB t->LB (aG.fU n t lo hi a b x) ->
  Va prog 261 #[.pointer u,.agg #[.int .i64 lo,.int .i64 hi],.agg #[.int .i64 a,.int .i64 b],.int .i64 x] w (qE w F (aG.fU n t lo hi a b x))
theorem mI.drew{b:UZ}{l r:aG.T}(h:mI w X F bk M c lo hi a b l r pl pr Fl Fr):mI w X.drew F bk M c lo hi a b l r pl pr Fl Fr :=
 ⟨h.half.drew,h.off.drew,h.own,h.a0,h.a1,h.m0,h.m1,h.n0,h.n1,h.y⟩
theorem mI.jV{b:UZ}{l r t:aG.T}(h:mI w X F bk M c lo hi a b l r pl pr Fl Fr)(D:cT w4 t (.pointer u) F')(z:∀ k∈F',k∈Fl\/X.heap.size<=k)(y:aF Fl X w4):
  mI w (w4.setCell ⟨bk,3,U3⟩ (.pointer u)) F bk M c lo hi a b t r u pr F' Fr:=by
 obtain⟨s,q,m⟩:=h.y;have C:=Vh _ _ h.a0;have B:=Vh _ _ h.m0;have A:=Vh _ _ h.n0;have H:=h.off.size;have j:aF (bk :: (Fl++Fr)) X (w4.setCell ⟨bk,3,U3⟩ (.pointer u)):=(y.mono (by intro x E;simp[E])).setCell (.inl UJ) _ _
 have i:∀ k∈bk :: (F'++Fr),k∈bk :: (Fl++Fr)\/X.heap.size<=k:=by
  intro k g;rcases Vq.1 g with rfl|g
  ·exact .inl UJ
  ·rcases Vr.1 g with g|g
   ·rcases z k g with d|d
    ·exact .inl (by simp[d])
    ·exact .inr d
   ·exact .inl (by simp[g])
 have I:=h.half.jV D z y;refine⟨I,h.off.trans' j h.own,fun k g=>?_,j.cell s h.a0,j.cell s h.a1,j.cell q h.m0,j.cell q h.m1,j.cell m h.n0,j.cell m h.n1,?_,?_,?_⟩
 ·rcases i k g with d|d
  ·exact h.own k d
  ·exact .inr UI
 ·intro e;rcases i _ e with d|d
  ·exact s d
  ·simp at C;omega
 ·intro e;rcases i _ e with d|d
  ·exact q d
  ·simp at B;omega
 ·intro e;rcases i _ e with d|d
  ·exact m d
  ·simp at A;omega
theorem mI.jf{b:UZ}{l r g:aG.T}(h:mI w X F bk M c lo hi a b l r pl pr Fl Fr)(s:cT w4 g (.pointer u) F')(j:∀ k∈F',k∈Fr\/X.heap.size<=k)(i:aF Fr X w4):
  cQ (w4.setCell ⟨bk,4,U3⟩ (.pointer u)) bk c l g pl u Fl F'/\aF F w (w4.setCell ⟨bk,4,U3⟩ (.pointer u))/\∀ k∈bk :: (Fl++F'),k∈F\/w.heap.size<=k:=by
 have y:=h.off.size;have q:aF (bk :: (Fl++Fr)) X (w4.setCell ⟨bk,4,U3⟩ (.pointer u)):=(i.mono (by intro x t;simp[t])).setCell (.inl UJ) _ _;refine⟨h.half.jf s j i,h.off.trans' q h.own,fun k d=>?_⟩;rcases Vq.1 d with rfl|d
 ·exact h.own k UJ
 ·rcases Vr.1 d with d|d
  ·exact h.own k (by simp[d])
  ·rcases j k d with m|m
   ·exact h.own k (by simp[m])
   ·exact .inr UI
theorem IY{w3:U7}{b:UZ}{l r:aG.T}(i:cQ w2 bk c l r pl pr Fl Fr)(s:aF F w w2)(t:∀ k∈bk :: (Fl++Fr),k∈F\/w.heap.size<=k)(m:w2.cell? ⟨w.heap.size+1,0,U3⟩=U4 (.int .i64 a))(j:w2.cell? ⟨w.heap.size+1,1,U3⟩=U4 (.int .i64 b))(g:w.heap.size+1 ∉ bk :: (Fl++Fr))(h:U9 w2.heap.size w2 w3):
  mI w ((w3.alloc (.cells #[.int .i64 lo,.int .i64 (aG.aS lo hi)] 60)).alloc (.cells #[.int .i64 (aG.aS lo hi),.int .i64 hi] 60)) F bk w3.heap.size c lo hi a b l r pl pr Fl Fr:=by
 have k:aF [] w2 ((w3.alloc (.cells #[.int .i64 lo,.int .i64 (aG.aS lo hi)] 60)).alloc (.cells #[.int .i64 (aG.aS lo hi),.int .i64 hi] 60)):=((aF.aD h).alloc _).alloc _;have d:=i.lt;have q:=h.size;refine⟨i.off k UJ UJ UJ,s.trans' k UJ,t,k.cell UJ m,k.cell UJ j,by simp,by simp,by simp,by simp,g,fun e=>?_,fun e=>?_⟩
 ·have:=d _ e;omega
 ·have:=d _ e;omega
theorem QB(n:UY)(ih:Hid (FH n))(t:aG.T)(u:UW Vb)(F:UV UY)(lo hi a b x:UZ)(w:U7)(h:cT w t (.pointer u) F)(hp:aG.apart lo hi a b=U5)(hw:aG.within lo hi a b=U5)
  (h0:0<=lo) (h1:lo<hi) (h2:hi<=2000000) (h3:hi-lo<=2 ^ (n+1)) (h4:a<b)
  (aa:-1000000<=x) (Z:x<=1000000) (H:LB t) (z:LB (aG.fU (n+1) t lo hi a b x)):
  Va prog 261 #[.pointer u,.agg #[.int .i64 lo,.int .i64 hi],.agg #[.int .i64 a,.int .i64 b],.int .i64 x] w (qE w F (aG.fU (n+1) t lo hi a b x)):=by
 have e:aG.fU (n+1) t lo hi a b x=aG.mk (aG.val t) (aG.fU n (aG.fst t) lo (aG.aS lo hi) a b x) (aG.fU n (aG.snd t) (aG.aS lo hi) hi a b x):=by rw[aG.fU];rw[U0 (by simp[hp]),U0 (by simp[hw])]
 rw[e] at z ⊢;obtain⟨_,ad,ac⟩:=z.mk;have hl:=H.fst;have hr:=H.snd;have g1:=aG.lZ.1 hp;have g2:=aG.vV.1 hw;have hm:lo<aG.aS lo hi/\aG.aS lo hi<hi:=by unfold aG.aS;omega
 have E:=aG.BA h3
 have Q:Hid (∀ (w:U7) (u:UW Vb) (F:UV UY),cT w (aG.fst t) (.pointer u) F->Va prog 261 #[.pointer u,.agg #[.int .i64 lo,.int .i64 (aG.aS lo hi)],.agg #[.int .i64 a,.int .i64 b],.int .i64 x] w (qE w F (aG.fU n (aG.fst t) lo (aG.aS lo hi) a b x))) :=
  fun w u F k=>ih.y _ _ _ _ _ _ _ _ _ k h0 hm.1 UI E.1 h4 aa Z hl ad
 have P:Hid (∀ (w:U7) (u:UW Vb) (F:UV UY),cT w (aG.snd t) (.pointer u) F->Va prog 261 #[.pointer u,.agg #[.int .i64 (aG.aS lo hi),.int .i64 hi],.agg #[.int .i64 a,.int .i64 b],.int .i64 x] w (qE w F (aG.fU n (aG.snd t) (aG.aS lo hi) hi a b x))) :=
  fun w u F k=>ih.y _ _ _ _ _ _ _ _ _ k UI hm.2 h2 E.2 h4 aa Z hr ac
 have A:=aC z;clear e ad ac hl hr g1 g2 hm E h3 ih H z;generalize aG.fU n (aG.fst t) lo (aG.aS lo hi) a b x=tl at *;generalize aG.fU n (aG.snd t) (aG.aS lo hi) hi a b x=tr at *
 cases t with
 |nil =>
  obtain⟨hu,rfl⟩:=h
  cases hu
  simp only[aG.val,aG.fst,aG.snd] at A Q P ⊢
  go_in
  go_wp2_with fail
  refine (ng _ _ _ _ _).mono ?_;rintro e w1 ⟨rfl,g⟩;rw[hp];have bx:=boxes g;have ⟨q0,q1,q2,q3,hs,hB⟩:=bx;have R:=aC hB;have D:w.heap.size<w1.heap.size:=UI
  clear hB g bx
  go_wp2_with fail
  refine (uf _ _ _ _ _).mono ?_;rintro e w2 ⟨rfl,g⟩;rw[hw];obtain⟨bk,ab⟩:∃ bk,bk=w1.heap.size:=⟨_,rfl⟩;have O:=(GA w1 0).off (G:=[]) (aF.aD g) UJ UJ UJ;have hO:aF [] w w2:=(((aF.aD R.y).alloc _).trans (aF.aD g));have hG:∀ k∈bk :: ([]++[]),k∈([]:UV UY)\/w.heap.size<=k:=by simp;omega
  have s:w.heap.size+1 ∉ bk :: ([]++[]):=by simp;omega
  have m:aF [] w1 w2:=((aF.refl [] w1).alloc _).trans (aF.aD g);have r0:w2.cell? ⟨w.heap.size,0,U3⟩=U4 (.int .i64 lo):=m.cell UJ q0;have r1:w2.cell? ⟨w.heap.size,1,U3⟩=U4 (.int .i64 hi):=m.cell UJ q1;have U:w2.cell? ⟨w.heap.size+1,0,U3⟩=U4 (.int .i64 a):=m.cell UJ q2;have S:w2.cell? ⟨w.heap.size+1,1,U3⟩=U4 (.int .i64 b):=m.cell UJ q3;have C:w.heap.size+1<w2.heap.size:=zL hs m.size;rw[<- ab] at O ⊢;clear g q0 q1 q2 q3 hs D R m ab
  go_wp2_with fail
  refine (yn _ _ _ UI UI UI).mono ?_;rintro e w3 ⟨rfl,g⟩;have d:mI w _ _ _ _ 0 lo hi a b _ _ _ _ _ _:=IY (w3:=w3) O hO hG U S s g;clear g O hO hG r0 r1 U S s C
  go_upto_region 8 with fail
  generalize (Vz _ (.cells #[.int .i64 (aG.aS lo hi),.int .i64 hi] 60))=X at d ⊢;generalize w3.heap.size=M at d ⊢
  go_cut [43] from 35 to 45 (fun _ wx=>∃ (u4:UW Vb) (y:UV UY),mI w wx ([]:UV UY) bk M 0 lo hi a b tl .nil u4 U3 y [])
  case first =>
   have L:=d.half.c3;have J:=d.half.fz 3;have a0:=d.a0;have a1:=d.a1;have m0:=d.m0;have m1:=d.m1
   go_region_with (first
    |(go_at_call 261;refine (Q.y _ _ _ d.half.drew.l).mono ?_;rintro e w4 ⟨u4,y,rfl,m,q,j⟩;have K:=j.cell d.half.iA.1 L;have I:=(j.frozen (o:=3) d.half.iA.1 (d.half.lt _ UJ)).trans J))
   all_goals
    go_wp2
    go_meet
    exact⟨_,_,d.drew.jV m q j⟩
  case rest =>
   obtain⟨u4,y,i⟩:=hcut;clear d
   go_upto_region 9 with fail
   go_cut [54] from 46 to 56 (fun _ wx=>∃ (u5:UW Vb) (B:UV UY),cQ wx bk 0 tl tr u4 u5 y B/\aF ([]:UV UY) w wx/\∀ k∈bk :: (y++B),k∈([]:UV UY)\/w.heap.size<=k)
   case first =>
    have L:=i.half.c4;have J:=i.half.fz 4;have a0:=i.a0;have a1:=i.a1;have m0:=i.n0;have m1:=i.n1
    go_region_with (first
     |(go_at_call 261;refine (P.y _ _ _ i.half.drew.r).mono ?_;rintro e w5 ⟨u5,B,rfl,m,q,j⟩;have K:=j.cell i.half.iA.2.1 L;have I:=(j.frozen (o:=4) i.half.iA.2.1 (i.half.lt _ UJ)).trans J))
    all_goals
     go_wp2
     go_meet
     exact⟨_,_,i.drew.jf m q j⟩
   case rest =>
    obtain⟨u5,B,m,q,j⟩:=hcut;clear i Q P
    go_wp2_with fail
    refine (ym _ _ _ _ _ _ _ _ _ m A.y).mono ?_;rintro e w6 ⟨u6,F6,rfl,Y,W,V⟩;have HK:=aC (xP q j UJ Y W V);clear m q j Y W V
    go_wp2
    go_ret;exact HK.y
 |node c l r =>
  obtain⟨bk,pl,pr,Fl,Fr,rfl,rfl,E⟩:=vz h;simp only[aG.val,aG.fst,aG.snd] at A Q P ⊢
  go_in
  go_wp2_with fail
  refine (ng _ _ _ _ _).mono ?_;rintro e w1 ⟨rfl,g⟩;rw[hp];have bx:=boxes g;have ⟨q0,q1,q2,q3,hs,hB⟩:=bx;have R:=aC hB;have D:w.heap.size<w1.heap.size:=UI
  clear hB g bx
  go_wp2_with fail
  refine (uf _ _ _ _ _).mono ?_;rintro e w2 ⟨rfl,g⟩;rw[hw];have O:=E.off (G:=[]) ((aF.aD R.y).trans (aF.aD g)) UJ UJ UJ;have hO:aF (bk :: (Fl++Fr)) w w2:=(aF.aD R.y).trans (aF.aD g);have hG:∀ k∈bk :: (Fl++Fr),k∈bk :: (Fl++Fr)\/w.heap.size<=k:=fun _ hk=>.inl hk
  have s:w.heap.size+1 ∉ bk :: (Fl++Fr):=fun e=>by have:=E.lt _ e;omega
  have r0:w2.cell? ⟨w.heap.size,0,U3⟩=U4 (.int .i64 lo):=aN g q0;have r1:w2.cell? ⟨w.heap.size,1,U3⟩=U4 (.int .i64 hi):=aN g q1;have U:w2.cell? ⟨w.heap.size+1,0,U3⟩=U4 (.int .i64 a):=aN g q2;have S:w2.cell? ⟨w.heap.size+1,1,U3⟩=U4 (.int .i64 b):=aN g q3;have C:w.heap.size+1<w2.heap.size:=zL hs g.size;clear g q0 q1 q2 q3 hs D R h E
  go_wp2_with fail
  refine (yn _ _ _ UI UI UI).mono ?_;rintro e w3 ⟨rfl,g⟩;have d:mI w _ _ _ _ c lo hi a b _ _ _ _ _ _:=IY (w3:=w3) O hO hG U S s g;clear g O hO hG r0 r1 U S s C
  go_upto_region 8 with fail
  generalize (Vz _ (.cells #[.int .i64 (aG.aS lo hi),.int .i64 hi] 60))=X at d ⊢;generalize w3.heap.size=M at d ⊢
  go_cut [43] from 35 to 45 (fun _ wx=>∃ (u4:UW Vb) (y:UV UY),mI w wx (bk :: (Fl++Fr)) bk M c lo hi a b tl r u4 pr y Fr)
  case first =>
   have L:=d.half.c3;have J:=d.half.fz 3;have a0:=d.a0;have a1:=d.a1;have m0:=d.m0;have m1:=d.m1
   go_region_with (first
    |(go_at_call 261;refine (Q.y _ _ _ d.half.drew.l).mono ?_;rintro e w4 ⟨u4,y,rfl,m,q,j⟩;have K:=j.cell d.half.iA.1 L;have I:=(j.frozen (o:=3) d.half.iA.1 (d.half.lt _ UJ)).trans J))
   all_goals
    go_wp2
    go_meet
    exact⟨_,_,d.drew.jV m q j⟩
  case rest =>
   obtain⟨u4,y,i⟩:=hcut;clear d
   go_upto_region 9 with fail
   go_cut [54] from 46 to 56 (fun _ wx=>∃ (u5:UW Vb) (B:UV UY),cQ wx bk c tl tr u4 u5 y B/\aF (bk :: (Fl++Fr)) w wx/\∀ k∈bk :: (y++B),k∈(bk :: (Fl++Fr))\/w.heap.size<=k)
   case first =>
    have L:=i.half.c4;have J:=i.half.fz 4;have a0:=i.a0;have a1:=i.a1;have m0:=i.n0;have m1:=i.n1
    go_region_with (first
     |(go_at_call 261;refine (P.y _ _ _ i.half.drew.r).mono ?_;rintro e w5 ⟨u5,B,rfl,m,q,j⟩;have K:=j.cell i.half.iA.2.1 L;have I:=(j.frozen (o:=4) i.half.iA.2.1 (i.half.lt _ UJ)).trans J))
    all_goals
     go_wp2
     go_meet
     exact⟨_,_,i.drew.jf m q j⟩
   case rest =>
    obtain⟨u5,B,m,q,j⟩:=hcut;clear i Q P
    go_wp2_with fail
    refine (ym _ _ _ _ _ _ _ _ _ m A.y).mono ?_;rintro e w6 ⟨u6,F6,rfl,Y,W,V⟩;have HK:=aC (xP q j UJ Y W V);clear m q j Y W V
    go_wp2
    go_ret;exact HK.y
theorem OI:∀ n,FH n:=by
 intro n
 induction n with
 |zero =>
  intro t u F lo hi a b x w h z y s m r i d k j;have m:hi-lo<=1:=by simpa using m
  cases l:aG.apart lo hi a b
  ·have g:=aG.lZ.1 l;exact Il t u F lo hi a b x 0 w h l (aG.ud.2 UI) i d k j
  ·exact Hn t u F lo hi a b x 0 w h l
 |succ n ih =>
  intro t u F lo hi a b x w h z y s m r i d k j
  cases l:aG.apart lo hi a b
  ·cases q:aG.within lo hi a b
   ·exact QB n ih t u F lo hi a b x w h l q z y s m r i d k j
   ·exact Il t u F lo hi a b x _ w h l q i d k j
  ·exact Hn t u F lo hi a b x _ w h l
theorem cT.later{t:aG.T}(h:cT w t p F)(k:U9 w.heap.size w w'):cT w' t p F:=h.same (aF.aD k)
theorem Qe(lo hi a b:UZ)(w:U7):
  Va prog 211 #[.pointer U3,.agg #[.int .i64 lo,.int .i64 hi],.agg #[.int .i64 a,.int .i64 b]] w fun e w'=>e=.returned (.int .i64 0)/\U9 w.heap.size w w':=by
 go_in
 go_wp2
 go_ret;exact⟨rfl,((zr _ _).alloc (zq _) _).alloc UJ _⟩
def MS(X w':U7)(bk N M:UY)(c lo hi a b:UZ)(pl pr:UW Vb):Prop :=
 w'.cell? ⟨bk,0,U3⟩=U4 (.int .i64 c)/\w'.cell? ⟨bk,3,U3⟩=U4 (.pointer pl)/\w'.cell? ⟨bk,4,U3⟩=U4 (.pointer pr)/\w'.cell? ⟨N,0,U3⟩=U4 (.int .i64 a)/\w'.cell? ⟨N,1,U3⟩=U4 (.int .i64 b)/\w'.cell? ⟨M,0,U3⟩=U4 (.int .i64 lo)/\w'.cell? ⟨M,1,U3⟩=U4 (.int .i64 (aG.aS lo hi))/\w'.cell? ⟨M+1,0,U3⟩=U4 (.int .i64 (aG.aS lo hi))/\w'.cell? ⟨M+1,1,U3⟩=U4 (.int .i64 hi)/\U9 X.heap.size X w'
theorem MS.later{b:UZ}(h:MS X w' bk N M c lo hi a b pl pr)(k:U9 w'.heap.size w' w''):MS X w'' bk N M c lo hi a b pl pr:=by
 obtain⟨t,s,r,q,m,l,j,i,g,d⟩:=h;exact⟨aN k t,aN k s,aN k r,aN k q,aN k m,aN k l,aN k j,aN k i,aN k g,aZ d k (zq _)⟩
theorem GH{t:aG.T}{b:UZ}(g:aG.Good t lo hi)(k:LB t)(h:lo<hi)(l:a<b):0<=aG.fF t lo hi a b/\aG.fF t lo hi a b<=100000000:=by
 have:=k.top
 cases d:aG.apart lo hi a b
 ·obtain⟨q,_,x,j,i,_,_,m⟩:=aG.GJ t lo hi a b h l g d;have:=(aG.vx t lo hi h g).1 x j i;omega
 ·rw[aG.yj d];omega
theorem Qd:∀ (t:aG.T)(u:UW Vb)(F:UV UY)(lo hi a b:UZ)(w:U7),cT w t (.pointer u) F->LB t->aG.Good t lo hi->0<=lo->lo<hi->hi<=2000000->a<b ->
  Va prog 211 #[.pointer u,.agg #[.int .i64 lo,.int .i64 hi],.agg #[.int .i64 a,.int .i64 b]] w fun e w'=>e=.returned (.int .i64 (aG.fF t lo hi a b))/\U9 w.heap.size w w':=by
 intro t
 induction t with
 |nil =>
  intro u F lo hi a b w h _ _ _ _ _ _;obtain⟨hu,_⟩:=h
  cases hu
  exact Qe lo hi a b w
 |node c l r ihl ihr =>
  intro u F lo hi a b w h g A h0 h1 h2 J;obtain⟨bk,pl,pr,Fl,Fr,rfl,rfl,s⟩:=vz h;have E:=aC ihl;have D:=aC ihr;clear ihl ihr
  have x:w.cell? ⟨bk,1,U3⟩=U4 (.int .i64 (aG.top (.node c l r))):=by
   obtain⟨b',_,_,_,_,i,_,x,_⟩:=h;cases i;exact x
  clear h
  cases i:aG.apart lo hi a b
  ·cases z:aG.within lo hi a b
   ·have m:aG.fF (.node c l r) lo hi a b=c+max (aG.fF l lo (aG.aS lo hi) a b) (aG.fF r (aG.aS lo hi) hi a b):=by simp[aG.fF,i,z]
    have g1:=aG.lZ.1 i;have g2:=aG.vV.1 z;have I:lo<aG.aS lo hi/\aG.aS lo hi<hi:=by unfold aG.aS;omega
    have bl:=GH (a:=a) (b:=b) A.2.2.1 g.2.2.2.1 I.1 J;have br:=GH (a:=a) (b:=b) A.2.2.2 g.2.2.2.2 I.2 J;have hc:=g.1
    have I1:Hid (∀ (w:U7),cT w l (.pointer pl) Fl->Va prog 211 #[.pointer pl,.agg #[.int .i64 lo,.int .i64 (aG.aS lo hi)],.agg #[.int .i64 a,.int .i64 b]] w fun e w'=>e=.returned (.int .i64 (aG.fF l lo (aG.aS lo hi) a b))/\U9 w.heap.size w w') :=
     fun w k=>E.y _ _ _ _ _ _ _ k g.2.2.2.1 A.2.2.1 h0 I.1 UI J
    have I2:Hid (∀ (w:U7),cT w r (.pointer pr) Fr->Va prog 211 #[.pointer pr,.agg #[.int .i64 (aG.aS lo hi),.int .i64 hi],.agg #[.int .i64 a,.int .i64 b]] w fun e w'=>e=.returned (.int .i64 (aG.fF r (aG.aS lo hi) hi a b))/\U9 w.heap.size w w') :=
     fun w k=>D.y _ _ _ _ _ _ _ k g.2.2.2.2 A.2.2.2 UI I.2 h2 J
    rw[m];clear m E D g1 g2 A g x;generalize aG.fF l lo (aG.aS lo hi) a b=ml at *;generalize aG.fF r (aG.aS lo hi) hi a b=mr at *;have c0:=s.c0;have Z:=s.c3;have Y:=s.c4;have RL:=aC s.l;have RR:=aC s.r;clear s;have O:Vf.wrap (c+if ml<mr then mr else ml)=c+max ml mr:=by rw[AV];exact cG UI UI
    have E5:=aC O;clear O
    go_in
    go_wp2_with fail
    refine (ng _ _ _ _ _).mono ?_;rintro e w1 ⟨rfl,d⟩;rw[i];have ⟨q0,q1,q2,q3,hs,g⟩:=boxes d;have W:=aN g c0;have U:=aN g Z;have S:=aN g Y;have q:=aC g;clear g d c0 Z Y
    go_wp2_with fail
    refine (uf _ _ _ _ _).mono ?_;rintro e w2 ⟨rfl,d⟩;rw[z];have y:=aC (aZ q.y d (zq _));have r0:w2.cell? ⟨w.heap.size,0,U3⟩=U4 (.int .i64 lo):=aN d q0;have r1:w2.cell? ⟨w.heap.size,1,U3⟩=U4 (.int .i64 hi):=aN d q1;have L:w2.cell? ⟨w.heap.size+1,0,U3⟩=U4 (.int .i64 a):=aN d q2;have K:w2.cell? ⟨w.heap.size+1,1,U3⟩=U4 (.int .i64 b):=aN d q3;have R:=aN d W;have Q:=aN d U;have P:=aN d S;clear q d q0 q1 q2 q3 hs W U S
    go_wp2_with fail
    refine (yn _ _ _ UI UI UI).mono ?_;rintro e w3 ⟨rfl,d⟩;have j:U9 w2.heap.size w2 ((w3.alloc (.cells #[.int .i64 lo,.int .i64 (aG.aS lo hi)] 60)).alloc (.cells #[.int .i64 (aG.aS lo hi),.int .i64 hi] 60)):=(d.alloc d.size _).alloc (by have:=d.size;simp;omega) _
    have C:MS ((w3.alloc (.cells #[.int .i64 lo,.int .i64 (aG.aS lo hi)] 60)).alloc (.cells #[.int .i64 (aG.aS lo hi),.int .i64 hi] 60)) ((w3.alloc (.cells #[.int .i64 lo,.int .i64 (aG.aS lo hi)] 60)).alloc (.cells #[.int .i64 (aG.aS lo hi),.int .i64 hi] 60)) bk (w.heap.size+1) w3.heap.size c lo hi a b pl pr :=
     ⟨aN j R,aN j Q,aN j P,aN j L,aN j K,by simp,by simp,by simp,by simp,Below.refl _ _⟩
    have H:=aC (zA (aZ y.y j (zq _)) (zA (RL.y.later (aZ y.y j (zq _))) (RR.y.later (aZ y.y j (zq _)))));clear y RL RR j d r0 r1 L K R Q P
    go_upto_region 6 with fail
    generalize (Vz _ (.cells #[.int .i64 (aG.aS lo hi),.int .i64 hi] 60))=X at C H ⊢;generalize w3.heap.size=M at C ⊢
    go_region_held3 (fun w'=>w'.cell? ⟨bk,0,U3⟩=U4 (.int .i64 c)/\w'.cell? ⟨bk,3,U3⟩=U4 (.pointer pl)/\w'.cell? ⟨bk,4,U3⟩=U4 (.pointer pr)/\w'.cell? ⟨w.heap.size+1,0,U3⟩=U4 (.int .i64 a)/\w'.cell? ⟨w.heap.size+1,1,U3⟩=U4 (.int .i64 b)/\w'.cell? ⟨M,0,U3⟩=U4 (.int .i64 lo)/\w'.cell? ⟨M,1,U3⟩=U4 (.int .i64 (aG.aS lo hi))/\w'.cell? ⟨M+1,0,U3⟩=U4 (.int .i64 (aG.aS lo hi))/\w'.cell? ⟨M+1,1,U3⟩=U4 (.int .i64 hi)/\U9 X.heap.size X w')
     (first
      |exact MS.later C (dM _)
      |(go_split_ands;exact MS.later C (aZ UL B (zq _))))
     (first
      |(go_at_call_of 211 (Vv pl);go_split_ands;refine (I1.y _ (H.y.2.1.later UL)).mono ?_;rintro e w4 ⟨rfl,B⟩)
      |(go_at_call_of 211 (Vv pr);go_split_ands;refine (I2.y _ (H.y.2.2.later UL)).mono ?_;rintro e w4 ⟨rfl,B⟩))
    rw[E5.y,tF];have HF:=aC (aZ H.y.1 (by go_split_ands;assumption:U9 X.heap.size X w4) (zq _));clear C H I1 I2
    go_wp2
    go_ret;exact⟨rfl,HF.y⟩
   ·have m:aG.fF (.node c l r) lo hi a b=aG.top (.node c l r):=by simp[aG.fF,i,z,aG.top]
    rw[m];clear m;generalize aG.top (.node c l r)=tp at x ⊢
    go_in
    go_wp2_with fail
    refine (ng _ _ _ _ _).mono ?_;rintro e w1 ⟨rfl,d⟩;rw[i];have ⟨q0,q1,q2,q3,hs,g⟩:=boxes d;have V:=aN g x;have q:=aC g;clear g d x
    go_wp2_with fail
    refine (uf _ _ _ _ _).mono ?_;rintro e w2 ⟨rfl,d⟩;rw[z];have d2:=aN d V;have y:=aC (aZ q.y d (zq _));clear q d q0 q1 q2 q3 hs V
    go_wp2
    go_ret;exact⟨rfl,y.y⟩
  ·have m:aG.fF (.node c l r) lo hi a b=0:=aG.yj i;rw[m];clear m
   go_in
   go_wp2_with fail
   refine (ng _ _ _ _ _).mono ?_;rintro e w1 ⟨rfl,d⟩;rw[i];have q:=aC (boxes d).bw;clear d
   go_wp2
   go_ret;exact⟨rfl,q.y⟩
theorem ug(w:U7):Va prog 212 #[] w fun e w'=>e=.returned (.agg #[.int .i64 0,.int .i64 1048320])/\U9 w.heap.size w w':=by
 go_in
 go_wp2;exact bodyPost_ret (v:=.agg #[.int .i64 0,.int .i64 1048320]) (by simp[results,results212,go_sem]) rfl ⟨rfl,(zr _ _).alloc (zq _) _⟩
theorem Gd(t:aG.T)(i o:UY)(u:UW Vb)(F:UV UY)(a b:UZ)(w:U7)(c:w.cell? ⟨i,o,U3⟩=U4 (.pointer u))(h:cT w t (.pointer u) F)(s:LB t)(r:aG.Good t 0 1048320)(x:a<b):
  Va prog 153 #[.pointer (U4 ⟨i,o,U3⟩),.agg #[.int .i64 a,.int .i64 b]] w fun e w'=>e=.returned (.int .i64 (aG.fF t 0 1048320 a b))/\U9 w.heap.size w w':=by
 have q:=aC h;clear h
 go_in
 go_upto_region 1 with fail
 have j:U9 w.heap.size w (w.alloc (.cells #[.int .i64 a,.int .i64 b] 60)):=(zr _ _).alloc (zq _) _;have m:(w.alloc (.cells #[.int .i64 a,.int .i64 b] 60)).cell? ⟨w.heap.size,0,U3⟩=U4 (.int .i64 a):=UJ
 have l:(w.alloc (.cells #[.int .i64 a,.int .i64 b] 60)).cell? ⟨w.heap.size,1,U3⟩=U4 (.int .i64 b):=UJ
 have k:=aN j c;have g:=aC j;clear j;generalize (Vz w (.cells #[.int .i64 a,.int .i64 b] 60))=X at m l k g ⊢
 go_region_held3 (fun w'=>w'.cell? ⟨i,o,U3⟩=U4 (.pointer u)/\w'.cell? ⟨w.heap.size,0,U3⟩=U4 (.int .i64 a)/\w'.cell? ⟨w.heap.size,1,U3⟩=U4 (.int .i64 b)/\U9 X.heap.size X w')
  (first
   |exact⟨k,m,l,dM _⟩
   |(go_split_ands;exact⟨aN d UL,aN d UL,aN d UL,aZ UL d (zq _)⟩))
  (first
   |(go_at_call 212;go_split_ands;refine (ug _).mono ?_;rintro e w4 ⟨rfl,d⟩)
   |(go_at_call 211;go_split_ands;refine (Qd t u F 0 1048320 a b _ (q.y.later (aZ g.y UL (zq _))) s r UI UI UI x).mono ?_;rintro e w4 ⟨rfl,d⟩))
 have y:=aC (aZ g.y (by go_split_ands;assumption:U9 X.heap.size X w4) (zq _));clear g q
 go_wp2
 go_ret;exact⟨rfl,y.y⟩
def sB(w:U7)(d o:UY)(F:UV UY)(i:aG.T)(w':U7):Prop :=
 ∃ (h:UW Vb) (F':UV UY),w'.cell? ⟨d,o,U3⟩=U4 (.pointer h)/\cT w' i (.pointer h) F'/\(∀ k∈F',k∈F\/w.heap.size<=k)/\aF (d :: F) w w'/\(∀ g,g≠o->w'.cell? ⟨d,g,U3⟩=w.cell? ⟨d,g,U3⟩)/\∀ g,w'.frozen? ⟨d,g,U3⟩=w.frozen? ⟨d,g,U3⟩
theorem OJ{g:U7}{d:UY}{F5:UV UY}{q:aG.T}{u5:UW Vb}(m:U9 w.heap.size w w4)(j:d<w.heap.size)(t:d ∉ F)(C:cT g q (.pointer u5) F5)(s:∀ k∈F5,k∈F\/w4.heap.size<=k)(r:aF F w4 g)(z:g.cell? ⟨d,o,U3⟩=U4 v):sB w d o F q (g.setCell ⟨d,o,U3⟩ (.pointer u5)):=by
 have E:=m.size;have A:aF [] w w4:=aF.aD m;have l:d ∉ F5:=fun e=>by rcases s d e with h|h;exact t h;omega
 have y:g.heap[d]?=w.heap[d]?:=(r.block d UI t).trans (A.block d j UJ);refine⟨u5,F5,Vu _ _ _ z,C.off (aF.aX ..) (fun x i=>by simp;rintro rfl;exact l i),fun k D=>?_,?_,fun B H=>?_,fun B=>?_⟩
 ·rcases s k D with h|h
  ·exact .inl h
  ·exact .inr UI
 ·exact ((aF.aD (F:=d :: F) m).trans (r.mono (by intro x i;simp[i]))).setCell (.inl UJ) _ _
 ·exact (zS _ _ _ _ UJ).trans (zo (w:=w) y)
 ·refine (zF ..).trans ?_;simp only[Vi,y]
theorem OE(t:aG.T)(g o:UY)(u:UW Vb)(F:UV UY)(a b x:UZ)(w:U7)(c:w.cell? ⟨g,o,U3⟩=U4 (.pointer u))(f:w.frozen? ⟨g,o,U3⟩=U5)(C:g ∉ F)(h:cT w t (.pointer u) F)(Q:a<b)(B:-1000000<=x)(A:x<=1000000)(l:LB t)(j:LB (aG.fU 20 t 0 1048320 a b x)):
  Va prog 219 #[.pointer (U4 ⟨g,o,U3⟩),.agg #[.int .i64 a,.int .i64 b],.int .i64 x] w fun e w'=>e=.returned (.tuple #[])/\sB w g o F (aG.fU 20 t 0 1048320 a b x) w':=by
 have K:Hid (∀ (w':U7),cT w' t (.pointer u) F->Va prog 261 #[.pointer u,.agg #[.int .i64 0,.int .i64 1048320],.agg #[.int .i64 a,.int .i64 b],.int .i64 x] w' (qE w' F (aG.fU 20 t 0 1048320 a b x))) :=
  fun w' k=>OI 20 t u F 0 1048320 a b x w' k UI UI UI UK Q B A l j
 have J:=aC h;have i:=Vh _ _ c;generalize aG.fU 20 t 0 1048320 a b x=t' at *;clear h l j
 go_in
 go_upto_region 1 with fail
 have D:U9 w.heap.size w (w.alloc (.cells #[.int .i64 a,.int .i64 b] 60)):=(zr _ _).alloc (zq _) _;have z:(w.alloc (.cells #[.int .i64 a,.int .i64 b] 60)).cell? ⟨w.heap.size,0,U3⟩=U4 (.int .i64 a):=UJ
 have y:(w.alloc (.cells #[.int .i64 a,.int .i64 b] 60)).cell? ⟨w.heap.size,1,U3⟩=U4 (.int .i64 b):=UJ
 have s:=aN D c;have m:=aC D;clear D;generalize (Vz w (.cells #[.int .i64 a,.int .i64 b] 60))=X at z y s m ⊢
 go_region_with (first
  |(go_at_call 212;refine (ug _).mono ?_;rintro e w4 ⟨rfl,d⟩;have P:=aN d (show VA (VB X) _=_ from z);have O:=aN d (show VA (VB X) _=_ from y);have r:=aN d (show VA (VB X) _=_ from s))
  |(go_at_call 261;refine (K.y _ (J.y.later (aZ m.y (aZ (dM _) d (zq _)) (zq _)))).mono ?_;rintro e S ⟨u5,U,rfl,I,H,q⟩;have E:=q.cell C r;have L:=(q.frozen (o:=o) C (Vh _ _ r)).trans (((aF.aD (F:=[]) (aZ m.y (aZ (dM _) d (zq _)) (zq _))).frozen UJ i).trans f)))
 all_goals
  have R:=aC (OJ (aZ m.y (aZ (dM _) d (zq _)) (zq _)) i C I H q E);clear I H q E L P O r z y s m J K
  go_wp2
  go_end0
  exact⟨rfl,R.y⟩
theorem NK(t:aG.T)(u:UW Vb)(F:UV UY)(c level:UZ)(k:UY)(w:U7)(h:cT w t (.pointer u) F)(d:LB t)(g:w.cell? ⟨k,0,U3⟩=U4 (.int .i64 level))(l:-1000000000<=c)(j:c<=1000000000):
  Va prog 213 #[.pointer u,.int .i64 c,.pointer (U4 ⟨k,0,U3⟩)] w fun e w'=>e=.returned (.bool (aG.iK U6 level t c))/\U9 w.heap.size w w':=by
 have i:=d.top;clear d
 go_in
 go_wp2_with fail
 go_region_held3 (fun w'=>w'.cell? ⟨k,0,U3⟩=U4 (.int .i64 level)/\U9 w.heap.size w w')
  (exact⟨g,dM _⟩)
  (first|(go_at_call 214;go_split_ands;refine (vD _ (h.later UL)).mono ?_;rintro e w' ⟨rfl,rfl⟩))
 go_wp2
 go_ret;exact⟨nY (by simp only[aG.iK];rw[cG UI UI];simp),dM _⟩
theorem NN(t:aG.T)(u:UW Vb)(F:UV UY)(c level:UZ)(k:UY)(w:U7)(h:cT w t (.pointer u) F)(d:LB t)(g:w.cell? ⟨k,0,U3⟩=U4 (.int .i64 level))(l:-1000000000<=c)(j:c<=1000000000):
  Va prog 215 #[.pointer u,.int .i64 c,.pointer (U4 ⟨k,0,U3⟩)] w fun e w'=>e=.returned (.bool (aG.iK U5 level t c))/\U9 w.heap.size w w':=by
 have i:=d.bot;clear d
 go_in
 go_wp2_with fail
 go_region_held3 (fun w'=>w'.cell? ⟨k,0,U3⟩=U4 (.int .i64 level)/\U9 w.heap.size w w')
  (exact⟨g,dM _⟩)
  (first|(go_at_call 216;go_split_ands;refine (vC _ (h.later UL)).mono ?_;rintro e w' ⟨rfl,rfl⟩))
 go_wp2
 go_ret;exact⟨nY (by simp only[aG.iK];rw[cG UI UI];simp),dM _⟩
def uu(d:UX)(fn:UY):Prop:=(d=U6/\fn=213)\/(d=U5/\fn=215)
theorem ze{d:UX}(m:uu d fn)(t:aG.T)(u:UW Vb)(F:UV UY)(c level:UZ)(k:UY)(w:U7)(h:cT w t (.pointer u) F)(i:LB t)(g:w.cell? ⟨k,0,U3⟩=U4 (.int .i64 level))(l:-1000000000<=c)(j:c<=1000000000):
  Va prog fn #[.pointer u,.int .i64 c,.pointer (U4 ⟨k,0,U3⟩)] w fun e w'=>e=.returned (.bool (aG.iK d level t c))/\U9 w.heap.size w w':=by
 rcases m with ⟨rfl,rfl⟩|⟨rfl,rfl⟩
 ·exact NK t u F c level k w h i g l j
 ·exact NN t u F c level k w h i g l j
theorem Jq{t:aG.T}(w:U7)(h:cT w t (.pointer u) F):
  Va prog 260 #[.pointer u] w fun e w'=>e=.returned (.bool (aG.flat t))/\w'=w:=by
 cases t with
 |nil=>obtain⟨g,_⟩:=h;cases g;exact Rt w
 |node a l r =>
  obtain⟨b,pl,pr,Fl,Fr,rfl,rfl,d⟩:=vz h;have e:aG.flat (.node a l r)=si pl pr:=by rw[si,d.l.isNone,d.r.isNone];rfl
  rw[e];exact Co b pl pr w d.c3 d.c4
def iN:UW UZ->U8
 |none=>.tuple #[.int .i64 0,.bool U5]
 |some x=>.tuple #[.int .i64 x,.bool U6]
theorem OU{x y:UZ}(h:x=y):Ve (.tuple #[.int .i64 x,.bool U6])=.returned (iN (U4 y)):=by rw[h];rfl
theorem Jr(u:UW Vb)(lo hi a b c:UZ)(k fn:UY)(w:U7)(g:aG.apart lo hi a b=U6):
  Va prog 217 #[.pointer u,.agg #[.int .i64 lo,.int .i64 hi],.agg #[.int .i64 a,.int .i64 b],.int .i64 c,.func (.func fn) #[] #[.pointer (U4 ⟨k,0,U3⟩)]] w fun e w'=>e=.returned (iN U3)/\U9 w.heap.size w w':=by
 generalize Value.func _ _ _=q
 go_in
 go_wp2_with fail
 refine (ng _ _ _ _ _).mono ?_;rintro e w1 ⟨rfl,d⟩;rw[g];have h:=aC (boxes d).bw;clear d
 go_wp2
 go_ret2;exact⟨rfl,h.y⟩
theorem Ei{i:UX}(l:uu i fn)(t:aG.T)(u:UW Vb)(F:UV UY)(lo hi a b c level:UZ)(k:UY)(w:U7)(h:cT w t (.pointer u) F)(m:LB t)(s:w.cell? ⟨k,0,U3⟩=U4 (.int .i64 level))(y:-1000000000<=c)(x:c<=1000000000)(r:aG.apart lo hi a b=U5)(q:aG.iK i level t c=U5):
  Va prog 217 #[.pointer u,.agg #[.int .i64 lo,.int .i64 hi],.agg #[.int .i64 a,.int .i64 b],.int .i64 c,.func (.func fn) #[] #[.pointer (U4 ⟨k,0,U3⟩)]] w fun e w'=>e=.returned (iN U3)/\U9 w.heap.size w w':=by
 have A:=aC (fun w' j=>ze l t u F c level k w' (cT.later h j) m (aN j s) y x);clear m;rcases l with ⟨rfl,rfl⟩|⟨rfl,rfl⟩
 all_goals
  go_in
  go_wp2_with fail
  refine (ng _ _ _ _ _).mono ?_;rintro e w1 ⟨rfl,d⟩;rw[r];have g:=aC (boxes d).bw;clear d
  go_wp2_with fail
  refine (A.y _ g.y).mono ?_;rintro e w2 ⟨rfl,d⟩;rw[q];have z:=aC (aZ g.y d (zq _));clear g d
  go_wp2
  go_ret2;exact⟨rfl,z.y⟩
theorem Eh{i:UX}(l:uu i fn)(t:aG.T)(u:UW Vb)(F:UV UY)(lo hi a b c level:UZ)(k:UY)(w:U7)(h:cT w t (.pointer u) F)(m:LB t)(y:w.cell? ⟨k,0,U3⟩=U4 (.int .i64 level))(A:-1000000000<=c)(z:c<=1000000000)(s:aG.apart lo hi a b=U5)(r:aG.iK i level t c=U6)(x:aG.flat t=U6):
  Va prog 217 #[.pointer u,.agg #[.int .i64 lo,.int .i64 hi],.agg #[.int .i64 a,.int .i64 b],.int .i64 c,.func (.func fn) #[] #[.pointer (U4 ⟨k,0,U3⟩)]] w fun e w'=>e=.returned (iN (U4 (max lo a)))/\U9 w.heap.size w w':=by
 have B:=aC (fun w' j=>ze l t u F c level k w' (cT.later h j) m (aN j y) A z);clear m;rcases l with ⟨rfl,rfl⟩|⟨rfl,rfl⟩
 all_goals
  go_in
  go_wp2_with fail
  refine (ng _ _ _ _ _).mono ?_;rintro e w1 ⟨rfl,d⟩;rw[s];have ⟨q0,q1,q2,q3,hs,hBw⟩:=boxes d;have g:=aC hBw;clear d hBw
  go_wp2_with fail
  refine (B.y _ g.y).mono ?_;rintro e w2 ⟨rfl,d⟩;rw[r];have D:=aN d q0;have C:=aN d q2;have q:=aC (aZ g.y d (zq _));clear g d q0 q1 q2 q3 hs
  go_wp2_with fail
  refine (Jq _ (h.later q.y)).mono ?_;rintro e w3 ⟨rfl,rfl⟩;rw[x]
  go_wp2_with fail
  all_goals
   go_ret2;exact⟨OU UI,q.y⟩
def Br(d:UX)(fn:UY)(t:aG.T):Prop:=∀ (u:UW Vb)(F:UV UY)(lo hi a b c level:UZ)(k:UY)(w:U7),cT w t (.pointer u) F->LB t->aG.Good t lo hi->w.cell? ⟨k,0,U3⟩=U4 (.int .i64 level)->0<=c->c+aG.top t<=100000000->0<=lo->lo<hi->hi<=2000000->a<b ->
  Va prog 217 #[.pointer u,.agg #[.int .i64 lo,.int .i64 hi],.agg #[.int .i64 a,.int .i64 b],.int .i64 c,.func (.func fn) #[] #[.pointer (U4 ⟨k,0,U3⟩)]] w fun e w'=>e=.returned (iN (aG.fm d level t lo hi a b c))/\U9 w.heap.size w w'
def FS(X w':U7)(bk N M:UY)(v lo hi a b:UZ)(pl pr:UW Vb):Prop :=
 w'.cell? ⟨bk,0,U3⟩=U4 (.int .i64 v)/\w'.cell? ⟨bk,3,U3⟩=U4 (.pointer pl)/\w'.cell? ⟨bk,4,U3⟩=U4 (.pointer pr)/\w'.cell? ⟨N,0,U3⟩=U4 (.int .i64 a)/\w'.cell? ⟨N,1,U3⟩=U4 (.int .i64 b)/\w'.cell? ⟨M,0,U3⟩=U4 (.int .i64 lo)/\w'.cell? ⟨M,1,U3⟩=U4 (.int .i64 (aG.aS lo hi))/\w'.cell? ⟨M+1,0,U3⟩=U4 (.int .i64 (aG.aS lo hi))/\w'.cell? ⟨M+1,1,U3⟩=U4 (.int .i64 hi)/\U9 X.heap.size X w'
theorem FS.later{v b:UZ}(h:FS X w' bk N M v lo hi a b pl pr)(k:U9 w'.heap.size w' w''):FS X w'' bk N M v lo hi a b pl pr:=by
 obtain⟨t,s,r,q,m,l,j,i,g,d⟩:=h;exact⟨aN k t,aN k s,aN k r,aN k q,aN k m,aN k l,aN k j,aN k i,aN k g,aZ d k (zq _)⟩
theorem OT{d:UX}{v b:UZ}{l r:aG.T}(i:aG.apart lo hi a b=U5)(h:aG.iK d level (.node v l r) c=U6)(j:aG.flat (.node v l r)=U5):aG.fm d level (.node v l r) lo hi a b c=match aG.fm d level l lo (aG.aS lo hi) a b (c+v) with|some x=>U4 x|none=>aG.fm d level r (aG.aS lo hi) hi a b (c+v):=by
 have g:(aG.isNil l && aG.isNil r)=U5:=j;rw[aG.fm];simp only[i,h,g,Vk,Vm,Vn,if_false];rfl
theorem Ki{m:UX}(hG:uu m fn)(v:UZ)(l r:aG.T)(I:Hid (Br m fn l))(H:Hid (Br m fn r))(u:UW Vb)(F:UV UY)(lo hi a b c level:UZ)(k:UY)(w:U7)(h:cT w (.node v l r) (.pointer u) F)(t:LB (.node v l r))(q:aG.Good (.node v l r) lo hi)(L:w.cell? ⟨k,0,U3⟩=U4 (.int .i64 level))(h1:0<=c)(U:c+aG.top (.node v l r)<=100000000)(h3:0<=lo)(h4:lo<hi)(h5:hi<=2000000)(h6:a<b)
  (hp:aG.apart lo hi a b=U5) (hw:aG.iK m level (.node v l r) c=U6) (R:aG.flat (.node v l r)=U5):
  Va prog 217 #[.pointer u,.agg #[.int .i64 lo,.int .i64 hi],.agg #[.int .i64 a,.int .i64 b],.int .i64 c,.func (.func fn) #[] #[.pointer (U4 ⟨k,0,U3⟩)]] w fun e w'=>e=.returned (iN (aG.fm m level (.node v l r) lo hi a b c))/\U9 w.heap.size w w':=by
 have tp:=t.top;have tl:=t.2.2.2.1.top;have tr:=t.2.2.2.2.top;have hv:=t.1;have P:=q.1;have ht:aG.top (.node v l r)=v+max (aG.top l) (aG.top r):=rfl;have gl:=aG.yD l lo (aG.aS lo hi) 0 q.2.2.1
 have t0:0<=aG.top (.node v l r):=by
  obtain⟨_,x,_,_,e⟩:=aG.vx (.node v l r) lo hi h4 q;have:=aG.yD (.node v l r) lo hi x q;omega
 have S:2<=hi-lo:=by
  rcases q.2.1 with ⟨e1,e2⟩|U
  ·have Q:(aG.isNil l && aG.isNil r)=U5:=R;simp[e1,e2] at Q
  ·exact U
 have hm:lo<aG.aS lo hi/\aG.aS lo hi<hi:=by unfold aG.aS;omega
 have AK:=aC (fun w' j=>ze hG (.node v l r) u F c level k w' (cT.later h j) t (aN j L) UI UI);have J:=aC (fun (w':U7) (j:U9 w.heap.size w w')=>Jq w' (cT.later h j));obtain⟨bk,pl,pr,Fl,Fr,rfl,rfl,B⟩:=vz h
 have D:Hid (∀ w',U9 w.heap.size w w'->Va prog 217 #[.pointer pl,.agg #[.int .i64 lo,.int .i64 (aG.aS lo hi)],.agg #[.int .i64 a,.int .i64 b],.int .i64 (c+v),.func (.func fn) #[] #[.pointer (U4 ⟨k,0,U3⟩)]] w' fun e w''=>e=.returned (iN (aG.fm m level l lo (aG.aS lo hi) a b (c+v)))/\U9 w'.heap.size w' w'') :=
  fun w' j=>I.y pl Fl lo _ a b (c+v) level k w' (B.l.later j) t.2.2.2.1 q.2.2.1 (aN j L) UI UI h3 hm.1 UI h6
 have A:Hid (∀ w',U9 w.heap.size w w'->Va prog 217 #[.pointer pr,.agg #[.int .i64 (aG.aS lo hi),.int .i64 hi],.agg #[.int .i64 a,.int .i64 b],.int .i64 (c+v),.func (.func fn) #[] #[.pointer (U4 ⟨k,0,U3⟩)]] w' fun e w''=>e=.returned (iN (aG.fm m level r (aG.aS lo hi) hi a b (c+v)))/\U9 w'.heap.size w' w'') :=
  fun w' j=>H.y pr Fr _ hi a b (c+v) level k w' (B.r.later j) t.2.2.2.2 q.2.2.2 (aN j L) UI UI UI hm.2 h5 h6
 rw[OT hp hw R];have aa:Vf.wrap (c+v)=c+v:=cG UI UI;have c0:=B.c0;have c3:=B.c3;have c4:=B.c4;clear tp tl tr ht gl t0 S B t q U h I H L hv P;generalize aG.fm m level l lo (aG.aS lo hi) a b (c+v)=ol at *;generalize aG.fm m level r (aG.aS lo hi) hi a b (c+v)=or at *;rcases hG with ⟨rfl,rfl⟩|⟨rfl,rfl⟩
 all_goals
  go_in
  go_wp2_with fail
  refine (ng _ _ _ _ _).mono ?_;rintro e w1 ⟨rfl,d⟩;rw[hp];have ⟨q0,q1,q2,q3,hs,hBw⟩:=boxes d;have d0:=aN hBw c0;have d3:=aN hBw c3;have d4:=aN hBw c4;have W:=aC hBw;clear d hBw c0 c3 c4
  go_wp2_with fail
  refine (AK.y _ W.y).mono ?_;rintro e w2 ⟨rfl,d⟩;rw[hw];have r0:w2.cell? ⟨w.heap.size,0,U3⟩=U4 (.int .i64 lo):=aN d q0;have r1:w2.cell? ⟨w.heap.size,1,U3⟩=U4 (.int .i64 hi):=aN d q1;have Z:w2.cell? ⟨w.heap.size+1,0,U3⟩=U4 (.int .i64 a):=aN d q2;have Y:w2.cell? ⟨w.heap.size+1,1,U3⟩=U4 (.int .i64 b):=aN d q3;have e0:=aN d d0;have e3:=aN d d3;have e4:=aN d d4;have V:=aC (aZ W.y d (zq _));clear W d q0 q1 q2 q3 hs d0 d3 d4 AK
  go_wp2_with fail
  refine (J.y _ V.y).mono ?_;rintro e E ⟨rfl,rfl⟩;rw[R];clear J
  go_wp2_with fail
  refine (yn _ _ _ UI UI UI).mono ?_;rintro e w3 ⟨rfl,d⟩;have z:U9 E.heap.size E ((w3.alloc (.cells #[.int .i64 lo,.int .i64 (aG.aS lo hi)] 60)).alloc (.cells #[.int .i64 (aG.aS lo hi),.int .i64 hi] 60)):=(d.alloc d.size _).alloc (by have:=d.size;simp;omega) _
  have s:FS ((w3.alloc (.cells #[.int .i64 lo,.int .i64 (aG.aS lo hi)] 60)).alloc (.cells #[.int .i64 (aG.aS lo hi),.int .i64 hi] 60)) ((w3.alloc (.cells #[.int .i64 lo,.int .i64 (aG.aS lo hi)] 60)).alloc (.cells #[.int .i64 (aG.aS lo hi),.int .i64 hi] 60)) bk (w.heap.size+1) w3.heap.size v lo hi a b pl pr :=
   ⟨aN z e0,aN z e3,aN z e4,aN z Z,aN z Y,by simp,by simp,by simp,by simp,Below.refl _ _⟩
  have i:=aC (aZ V.y z (zq _));clear V z d r0 r1 Z Y e0 e3 e4
  go_upto_region 6 with fail
  generalize (Vz _ (.cells #[.int .i64 (aG.aS lo hi),.int .i64 hi] 60))=X at s i ⊢;generalize w3.heap.size=M at s ⊢
  cases ol with
  |some y =>
   simp only[iN] at D ⊢
   go_region_held3 (fun w'=>w'.cell? ⟨bk,0,U3⟩=U4 (.int .i64 v)/\w'.cell? ⟨bk,3,U3⟩=U4 (.pointer pl)/\w'.cell? ⟨bk,4,U3⟩=U4 (.pointer pr)/\w'.cell? ⟨w.heap.size+1,0,U3⟩=U4 (.int .i64 a)/\w'.cell? ⟨w.heap.size+1,1,U3⟩=U4 (.int .i64 b)/\w'.cell? ⟨M,0,U3⟩=U4 (.int .i64 lo)/\w'.cell? ⟨M,1,U3⟩=U4 (.int .i64 (aG.aS lo hi))/\w'.cell? ⟨M+1,0,U3⟩=U4 (.int .i64 (aG.aS lo hi))/\w'.cell? ⟨M+1,1,U3⟩=U4 (.int .i64 hi)/\U9 X.heap.size X w')
    (first
     |exact FS.later s (dM _)
     |(go_split_ands;exact FS.later s (aZ UL g (zq _))))
    (first
     |(go_at_call 217;go_split_ands;refine (D.y _ (aZ i.y UL (zq _))).mono ?_;rintro e w4 ⟨rfl,g⟩))
   have K:=aC (aZ i.y (by go_split_ands;assumption:U9 X.heap.size X w4) (zq _));clear s i D A
   go_wp2
   go_ret2;exact⟨rfl,K.y⟩
  |none =>
   simp only[iN] at D ⊢
   go_region_held3 (fun w'=>w'.cell? ⟨bk,0,U3⟩=U4 (.int .i64 v)/\w'.cell? ⟨bk,3,U3⟩=U4 (.pointer pl)/\w'.cell? ⟨bk,4,U3⟩=U4 (.pointer pr)/\w'.cell? ⟨w.heap.size+1,0,U3⟩=U4 (.int .i64 a)/\w'.cell? ⟨w.heap.size+1,1,U3⟩=U4 (.int .i64 b)/\w'.cell? ⟨M,0,U3⟩=U4 (.int .i64 lo)/\w'.cell? ⟨M,1,U3⟩=U4 (.int .i64 (aG.aS lo hi))/\w'.cell? ⟨M+1,0,U3⟩=U4 (.int .i64 (aG.aS lo hi))/\w'.cell? ⟨M+1,1,U3⟩=U4 (.int .i64 hi)/\U9 X.heap.size X w')
    (first
     |exact FS.later s (dM _)
     |(go_split_ands;exact FS.later s (aZ UL g (zq _))))
    (first
     |(go_at_call 217;go_split_ands;refine (D.y _ (aZ i.y UL (zq _))).mono ?_;rintro e w4 ⟨rfl,g⟩))
   have C:FS X w4 bk (w.heap.size+1) M v lo hi a b pl pr:=UL
   clear s D
   go_upto_region 9 with fail
   cases or with
   |some y =>
    simp only[iN] at A ⊢
    go_region_held3 (fun w'=>w'.cell? ⟨bk,0,U3⟩=U4 (.int .i64 v)/\w'.cell? ⟨bk,3,U3⟩=U4 (.pointer pl)/\w'.cell? ⟨bk,4,U3⟩=U4 (.pointer pr)/\w'.cell? ⟨w.heap.size+1,0,U3⟩=U4 (.int .i64 a)/\w'.cell? ⟨w.heap.size+1,1,U3⟩=U4 (.int .i64 b)/\w'.cell? ⟨M,0,U3⟩=U4 (.int .i64 lo)/\w'.cell? ⟨M,1,U3⟩=U4 (.int .i64 (aG.aS lo hi))/\w'.cell? ⟨M+1,0,U3⟩=U4 (.int .i64 (aG.aS lo hi))/\w'.cell? ⟨M+1,1,U3⟩=U4 (.int .i64 hi)/\U9 X.heap.size X w')
     (first
      |exact FS.later C (dM _)
      |(go_split_ands;exact FS.later C (aZ (dM _) g (zq _))))
     (first
      |(go_at_call 217;go_split_ands;refine (A.y _ (aZ i.y UL (zq _))).mono ?_;rintro e O ⟨rfl,g⟩))
    have K:=aC (aZ i.y (by go_split_ands;assumption:U9 X.heap.size X O) (zq _));clear C i A
    go_wp2
    go_ret2;exact⟨rfl,K.y⟩
   |none =>
    simp only[iN] at A ⊢
    go_region_held3 (fun w'=>w'.cell? ⟨bk,0,U3⟩=U4 (.int .i64 v)/\w'.cell? ⟨bk,3,U3⟩=U4 (.pointer pl)/\w'.cell? ⟨bk,4,U3⟩=U4 (.pointer pr)/\w'.cell? ⟨w.heap.size+1,0,U3⟩=U4 (.int .i64 a)/\w'.cell? ⟨w.heap.size+1,1,U3⟩=U4 (.int .i64 b)/\w'.cell? ⟨M,0,U3⟩=U4 (.int .i64 lo)/\w'.cell? ⟨M,1,U3⟩=U4 (.int .i64 (aG.aS lo hi))/\w'.cell? ⟨M+1,0,U3⟩=U4 (.int .i64 (aG.aS lo hi))/\w'.cell? ⟨M+1,1,U3⟩=U4 (.int .i64 hi)/\U9 X.heap.size X w')
     (first
      |exact FS.later C (dM _)
      |(go_split_ands;exact FS.later C (aZ (dM _) g (zq _))))
     (first
      |(go_at_call 217;go_split_ands;refine (A.y _ (aZ i.y UL (zq _))).mono ?_;rintro e O ⟨rfl,g⟩))
    have K:=aC (aZ i.y (by go_split_ands;assumption:U9 X.heap.size X O) (zq _));clear C i A
    go_wp2
    go_ret2;exact⟨rfl,K.y⟩
theorem Eg{g:UX}(q:uu g fn):∀ t:aG.T,Br g fn t:=by
 intro t
 induction t with
 |nil =>
  intro u F lo hi a b c level k w h m s j H B E A D C;simp only[aG.top] at B
  cases d:aG.apart lo hi a b
  ·cases i:aG.iK g level .nil c
   ·have e:aG.fm g level .nil lo hi a b c=U3:=by simp[aG.fm,i]
    rw[e];exact Ei q .nil u F lo hi a b c level k w h m j UI UI d i
   ·have e:aG.fm g level .nil lo hi a b c=U4 (max lo a):=by simp[aG.fm,i,d]
    rw[e];exact Eh q .nil u F lo hi a b c level k w h m j UI UI d i rfl
  ·have e:aG.fm g level .nil lo hi a b c=U3:=by simp[aG.fm,d]
   rw[e];exact Jr u lo hi a b c k _ w d
 |node v l r ihl ihr =>
  intro u F lo hi a b c level k w h m s j H B E A D C
  have I:0<=aG.top (.node v l r):=by
   obtain⟨_,x,_,_,e⟩:=aG.vx (.node v l r) lo hi A s;have:=aG.yD (.node v l r) lo hi x s;omega
  cases d:aG.apart lo hi a b
  ·cases i:aG.iK g level (.node v l r) c
   ·have e:aG.fm g level (.node v l r) lo hi a b c=U3:=by simp[aG.fm,i]
    rw[e];exact Ei q _ u F lo hi a b c level k w h m j UI UI d i
   ·cases z:aG.flat (.node v l r)
    ·exact Ki q v l r ihl ihr u F lo hi a b c level k w h m s j H B E A D C d i z
    ·have y:(aG.isNil l && aG.isNil r)=U6:=z;have e:aG.fm g level (.node v l r) lo hi a b c=U4 (max lo a):=by rw[aG.fm];simp only[i,d,y,Vk,Vm,Vn,if_false,if_true]
     rw[e];exact Eh q _ u F lo hi a b c level k w h m j UI UI d i z
  ·have e:aG.fm g level (.node v l r) lo hi a b c=U3:=by simp[aG.fm,d]
   rw[e];exact Jr u lo hi a b c k _ w d
def nW(f:UZ->UZ)(long level s:UZ):Prop:=∀ x,s<=x->x<s+long->f x<=level
def qK(f:UZ->UZ)(a b long level:UZ):UW UZ->Prop
 |none=>∀ s,a<=s->s+long<=b->¬ nW f long level s
 |some s=>a<=s/\s+long<=b/\nW f long level s/\∀ d,a<=d->d<s->¬ nW f long level d
theorem O3(h:aG.sC (fun z=>level<f z) 0 1048320 st (st+long) U3)(j:0<=st)(i:st+long<=1048320):nW f long level st:=by
 intro x g d;have:=h x UI UI g d;have this:¬ level<f x:=this;omega
theorem N5{b:UZ}(h:∀ i,a<=i->i<st->¬ nW f long level i)(t:level<f y5)(g:aG.sC (fun z=>f z<=level) 0 1048320 y5 b U3)(r:st<=y5)(q:y5<st+long)(m:0<=y5)(l:b<=1048320):qK f a b long level U3:=by
 intro i k s j
 by_cases c:i<st
 ·exact h i k c j
 ·by_cases d:i<=y5
  ·have:=j y5 d UI;omega
  ·have e:=j i UI UI;exact g i UI UI UI UI e
theorem OX{b:UZ}(h:∀ s',a<=s'->s'<st->¬ nW f long level s')(t:level<f y5)(g:aG.sC (fun z=>f z<=level) 0 1048320 y5 b (U4 y6))(m:0<=a)(s:a<=st)(r:st<=y5)(q:y5<st+long):a<=y6/\y6<=1048320/\∀ s',a<=s'->s'<y6->¬ nW f long level s':=by
 obtain⟨C,B,A,y,x,l⟩:=g;refine⟨by omega,by omega,fun s' k j i=>?_⟩
 by_cases c:s'<st
 ·exact h s' k c i
 ·by_cases d:s'<=y5
  ·have:=i y5 d UI;omega
  ·have e:=i s' UI UI;exact l s' UI j UI e
theorem OV{b:UZ}(h:level<f y5)(g:aG.sC (fun z=>f z<=level) 0 1048320 y5 b (U4 y6)):y5<y6/\y6<1048320:=by
 obtain⟨m,l,k,j,d,i⟩:=g;have d:f y6<=level:=d
 by_cases e:y5=y6
 ·subst e;omega
 ·omega
theorem Pr(t:aG.T)(m o:UY)(u:UW Vb)(F:UV UY)(a b long level:UZ)(w:U7)(c:w.cell? ⟨m,o,U3⟩=U4 (.pointer u))(h:cT w t (.pointer u) F)(Q:LB t)(K:aG.Good t 0 1048320)(h0:0<=a)(h1:a<b)(h2:b<=1048320)(h3:1<=long)(h4:long<=1048320):
  Va prog 154 #[.pointer (U4 ⟨m,o,U3⟩),.agg #[.int .i64 a,.int .i64 b],.int .i64 long,.int .i64 level] w fun e w'=>∃ r:UW UZ,e=.returned (iN r)/\qK (aG.dJ t 0 1048320) a b long level r/\U9 w.heap.size w w':=by
 have tp:=Q.top
 have W:Hid (∀ (w':U7) (x y:UZ),U9 w.heap.size w w'->w'.cell? ⟨w.heap.size+1,0,U3⟩=U4 (.int .i64 level)->x<y->Va prog 217 #[.pointer u,.agg #[.int .i64 0,.int .i64 1048320],.agg #[.int .i64 x,.int .i64 y],.int .i64 0,.func (.func 213) #[] #[.pointer (U4 ⟨w.heap.size+1,0,U3⟩)]] w' fun e w''=>e=.returned (iN (aG.fm U6 level t 0 1048320 x y 0))/\U9 w'.heap.size w' w''):=by
  intro w' x y i j k;exact Eg (.inl ⟨rfl,rfl⟩) t u F 0 1048320 x y 0 level _ w' (h.later i) Q K j UI UI UI UI UI k
 have V:Hid (∀ (w':U7) (x y:UZ),U9 w.heap.size w w'->w'.cell? ⟨w.heap.size+1,0,U3⟩=U4 (.int .i64 level)->x<y->Va prog 217 #[.pointer u,.agg #[.int .i64 0,.int .i64 1048320],.agg #[.int .i64 x,.int .i64 y],.int .i64 0,.func (.func 215) #[] #[.pointer (U4 ⟨w.heap.size+1,0,U3⟩)]] w' fun e w''=>e=.returned (iN (aG.fm U5 level t 0 1048320 x y 0))/\U9 w'.heap.size w' w''):=by
  intro w' x y i j k;exact Eg (.inr ⟨rfl,rfl⟩) t u F 0 1048320 x y 0 level _ w' (h.later i) Q K j UI UI UI UI UI k
 have U:Hid (∀ x y,x<y->aG.sC (fun z=>level<aG.dJ t 0 1048320 z) 0 1048320 x y (aG.fm U6 level t 0 1048320 x y 0)):=by
  intro x y k;have:=aG.Fe U6 level t 0 1048320 x y 0 UI k K
  simpa only[aG.want,if_true,Vx] using this
 have S:Hid (∀ x y,x<y->aG.sC (fun z=>aG.dJ t 0 1048320 z<=level) 0 1048320 x y (aG.fm U5 level t 0 1048320 x y 0)):=by
  intro x y k;have:=aG.Fe U5 level t 0 1048320 x y 0 UI k K
  simpa only[aG.want,Vn,if_false,Vx] using this
 clear h Q K tp
 go_in
 go_wp2_with fail
 have hX:U9 w.heap.size w ((w.alloc (.cells #[.int .i64 a,.int .i64 b] 60)).alloc (.cells #[.int .i64 level] 3)):=((zr _ _).alloc (zq _) _).alloc UJ _;have x1:((w.alloc (.cells #[.int .i64 a,.int .i64 b] 60)).alloc (.cells #[.int .i64 level] 3)).cell? ⟨w.heap.size,1,U3⟩=U4 (.int .i64 b):=UJ
 have Z:((w.alloc (.cells #[.int .i64 a,.int .i64 b] 60)).alloc (.cells #[.int .i64 level] 3)).cell? ⟨w.heap.size+1,0,U3⟩=U4 (.int .i64 level):=UJ
 have Y:=aN hX c;have g:=aC hX;clear hX c;generalize (Vz _ (.cells #[.int .i64 level] 3))=X at x1 Z Y g ⊢
 go_loopw [12,13,14] (fun s _ _ wx=>∃ st:UZ,s=.int .i64 st/\a<=st/\st<=1048320/\(∀ q,a<=q->q<st->¬ nW (aG.dJ t 0 1048320) long level q)/\U9 X.heap.size X wx) (fun s _ _ _=>(1048321-intOf s).toNat)
 case atStart=>exact⟨a,rfl,by omega,by omega,fun q _ _=>by omega,Below.refl _ _⟩
 case round =>
  obtain⟨st,rfl,J,ac,I,A⟩:=hrel;have R:=aC I;have y1:=aN A x1;have y2:=aN A Z;have yc:=aN A Y;clear I
  by_cases aa:st+long<=b
  ·have ab:Vf.wrap (st+long)=st+long:=cG UI UI;have P:=aC (U.y st (st+long) UI);have E:=aC (fun w' i j=>W.y w' st (st+long) i j UI)
   cases C:aG.fm U6 level t 0 1048320 st (st+long) 0 with
   |none =>
    rw[C] at P;simp only[C,iN] at E;clear C
    go_upto_region 5 with fail
    go_region_held3 (fun w'=>w'.cell? ⟨m,o,U3⟩=U4 (.pointer u)/\w'.cell? ⟨w.heap.size,1,U3⟩=U4 (.int .i64 b)/\w'.cell? ⟨w.heap.size+1,0,U3⟩=U4 (.int .i64 level)/\U9 X.heap.size X w')
     (first
      |exact⟨yc,y1,y2,aZ A (dM _) (zq _)⟩
      |(go_split_ands;exact⟨aN d UL,aN d UL,aN d UL,aZ UL d (zq _)⟩))
     (first
      |(go_at_call 212;go_split_ands;refine (ug _).mono ?_;rintro e w4 ⟨rfl,d⟩)
      |(go_at_call 217;go_split_ands;refine (E.y _ (aZ g.y UL (zq _)) UL).mono ?_;rintro e w5 ⟨rfl,d⟩))
    have HF:=aC (aZ g.y (by go_split_ands;assumption:U9 X.heap.size X w5) (zq _));clear E W V S U g
    go_wp2
    go_ret2;exact⟨U4 st,rfl,⟨J,aa,O3 P.y UI UI,R.y⟩,HF.y⟩
   |some y5 =>
    rw[C] at P;simp only[C,iN] at E;clear C;obtain⟨_,g2,g3,g4,g5,g6⟩:=P.y;have L:level<aG.dJ t 0 1048320 y5:=g5;have l:=aC L;clear g5 L g6 P;have O:=aC (S.y y5 b UI);have D:=aC (fun w' i j=>V.y w' y5 b i j UI)
    go_upto_region 5 with fail
    go_region_held3 (fun w'=>w'.cell? ⟨m,o,U3⟩=U4 (.pointer u)/\w'.cell? ⟨w.heap.size,1,U3⟩=U4 (.int .i64 b)/\w'.cell? ⟨w.heap.size+1,0,U3⟩=U4 (.int .i64 level)/\U9 X.heap.size X w')
     (first
      |exact⟨yc,y1,y2,aZ A (dM _) (zq _)⟩
      |(go_split_ands;exact⟨aN d UL,aN d UL,aN d UL,aZ UL d (zq _)⟩))
     (first
      |(go_at_call 212;go_split_ands;refine (ug _).mono ?_;rintro e w4 ⟨rfl,d⟩)
      |(go_at_call 217;go_split_ands;refine (E.y _ (aZ g.y UL (zq _)) UL).mono ?_;rintro e w5 ⟨rfl,d⟩))
    have H:U9 X.heap.size X w5:=by go_split_ands;assumption
    have z1:=aN H x1;have z2:=aN H Z;have zc:=aN H Y;clear E
    go_upto_region 8 with fail
    cases B:aG.fm U5 level t 0 1048320 y5 b 0 with
    |none =>
     rw[B] at O;simp only[B,iN] at D;clear B
     go_region_held3 (fun w'=>w'.cell? ⟨m,o,U3⟩=U4 (.pointer u)/\w'.cell? ⟨w.heap.size,1,U3⟩=U4 (.int .i64 b)/\w'.cell? ⟨w.heap.size+1,0,U3⟩=U4 (.int .i64 level)/\U9 X.heap.size X w')
     (first
      |exact⟨zc,z1,z2,aZ H (dM _) (zq _)⟩
      |(go_split_ands;exact⟨aN d UL,aN d UL,aN d UL,aZ UL d (zq _)⟩))
     (first
      |(go_at_call 212;go_split_ands;refine (ug _).mono ?_;rintro e w4 ⟨rfl,d⟩)
      |(go_at_call 217;go_split_ands;refine (D.y _ (aZ g.y UL (zq _)) UL).mono ?_;rintro e w6 ⟨rfl,d⟩))
     have HF:=aC (aZ g.y (by go_split_ands;assumption:U9 X.heap.size X w6) (zq _));clear D W V S U g
     go_wp2
     go_ret2;exact⟨U3,rfl,N5 R.y l.y O.y g3 UI UI UI,HF.y⟩
    |some y6 =>
     rw[B] at O;simp only[B,iN] at D;clear B
     go_region_held3 (fun w'=>w'.cell? ⟨m,o,U3⟩=U4 (.pointer u)/\w'.cell? ⟨w.heap.size,1,U3⟩=U4 (.int .i64 b)/\w'.cell? ⟨w.heap.size+1,0,U3⟩=U4 (.int .i64 level)/\U9 X.heap.size X w')
     (first
      |exact⟨zc,z1,z2,aZ H (dM _) (zq _)⟩
      |(go_split_ands;exact⟨aN d UL,aN d UL,aN d UL,aZ UL d (zq _)⟩))
     (first
      |(go_at_call 212;go_split_ands;refine (ug _).mono ?_;rintro e w4 ⟨rfl,d⟩)
      |(go_at_call 217;go_split_ands;refine (D.y _ (aZ g.y UL (zq _)) UL).mono ?_;rintro e w6 ⟨rfl,d⟩))
     have hv:U9 X.heap.size X w6:=by go_split_ands;assumption
     have HV:=aC hv;clear D W V S U g hv
     go_wp2
     go_roundw
     case rel=>have nx:=OX R.y l.y O.y h0 J g3 UI;exact⟨y6,rfl,nx.1,nx.2.1,nx.2.2,HV.y⟩
     case measure=>simp[intOf];have:=OV l.y O.y;omega
  ·go_wp2
   go_ret2;exact⟨U3,rfl,fun q i j=>R.y q i UI,aZ g.y A (zq _)⟩
namespace aE
structure It where
 f:UZ
 t:UZ
 n:UZ
 v:UY
inductive S where
 |nil:S
 |node (x:It) (l r:S):S
def isNil:S->UX
 |.nil=>U6
 |.node ..=>U5
def left:S->S
 |.nil=>.nil
 |.node _ l _=>l
def right:S->S
 |.nil=>.nil
 |.node _ _ r=>r
def ht:S->UZ
 |.nil=>0
 |.node _ l r=>1+max (ht l) (ht r)
def Fp(x:UZ)(l r:S)(g d:UZ):UZ :=
 let m:=if isNil l then x else max x g
 if isNil r then m else max m d
def late:S->UZ
 |.nil=>0
 |.node x l r=>Fp x.t l r (late l) (late r)
def size:S->UY
 |.nil=>0
 |.node _ l r=>1+size l+size r
def bS:S->UV It
 |.nil=>[]
 |.node x l r=>bS l++x :: bS r
def side(f n:UZ)(x:It):UZ:=if f<x.f then -1 else if x.f<f then 1 else if n<x.n then -1 else if x.n<n then 1 else 0
def se:S->S
 |.node x (.node y a b) r=>.node y a (.node x b r)
 |t=>t
def sd:S->S
 |.node x l (.node y a b)=>.node y (.node x l a) b
 |t=>t
def qw(x:It)(l r:S):S:=se (.node x (if ht (left l)<ht (right l) then sd l else l) r)
def qx(x:It)(l r:S):S:=sd (.node x l (if ht (right r)<ht (left r) then se r else r))
def fQ(x:It)(l r:S):S:=if 1<ht l-ht r then qw x l r else if ht l-ht r < -1 then qx x l r else .node x l r
def put(x:It):S->S
 |.nil=>fQ x .nil .nil
 |.node y l r=>if side x.f x.n y<0 then fQ y (put x l) r else if 0<side x.f x.n y then fQ y l (put x r) else fQ { y with t:=x.t,v:=x.v } l r
def nV:It->S->S->It
 |x,.nil,_=>x
 |_,.node y a b,_=>nV y a b
def kQ:It->S->S->S
 |_,.nil,r=>r
 |x,.node y a b,r=>fQ x (kQ y a b) r
def kP(l:S):S->S
 |.nil=>l
 |.node y a b=>fQ (nV y a b) l (kQ y a b)
def drop(f n:UZ):S->S
 |.nil=>.nil
 |.node y l r=>if side f n y<0 then fQ y (drop f n l) r else if 0<side f n y then fQ y l (drop f n r) else kP l r
theorem jP:∀ t:S,0<=ht t
 |.nil=>by simp[ht]
 |.node _ l r=>by have:=jP l;have:=jP r;simp only[ht];omega
theorem lW:∀ t:S,ht t<=size t
 |.nil=>by simp[ht,size]
 |.node _ l r=>by have:=lW l;have:=lW r;simp only[ht,size];omega
theorem yh{t:S}(h:0<ht t):∃ x l r,t=.node x l r:=by
 cases t with
 |nil=>simp[ht] at h
 |node x l r=>exact⟨x,l,r,rfl⟩
theorem ID(t:S):bS (se t)=bS t:=by
 cases t with
 |nil=>rfl
 |node x l r=>cases l <;> simp[se,bS]
theorem IC(t:S):bS (sd t)=bS t:=by
 cases t with
 |nil=>rfl
 |node x l r=>cases r <;> simp[sd,bS]
theorem nf(x:It)(l r:S):bS (fQ x l r)=bS l++x :: bS r:=by
 unfold fQ
 split
 ·unfold qw;rw[ID];split <;> simp[bS,IC]
 ·split
  ·unfold qx;rw[IC];split <;> simp[bS,ID]
  ·rfl
theorem mJ:∀ t:S,(bS t).length=size t
 |.nil=>rfl
 |.node x l r=>by have:=mJ l;have:=mJ r;simp only[bS,size,List.length_append,List.length_cons];omega
theorem Cj:∀ (x:It)(l r:S),nV x l r :: bS (kQ x l r)=bS l++x :: bS r
 |x,.nil,r=>by simp[nV,kQ,bS]
 |x,.node y a b,r=>by
  have:=Cj y a b;simp only[nV,kQ,nf,bS];rw[<- VD,this]
theorem I6(l r:S):bS (kP l r)=bS l++bS r:=by
 cases r with
 |nil=>simp[kP,bS]
 |node y a b=>simp only[kP,nf];rw[Cj];rfl
def lt(x y:It):Prop:=x.f<y.f\/(x.f=y.f/\x.n<y.n)
theorem sJ{f n:UZ}{x:It}:side f n x<0↔f<x.f\/(f=x.f/\n<x.n):=by
 unfold side;repeat' split
 all_goals omega
theorem vJ{f n:UZ}{x:It}:0<side f n x↔x.f<f\/(f=x.f/\x.n<n):=by
 unfold side;repeat' split
 all_goals omega
def ins(x:It):UV It->UV It
 |[]=>[x]
 |y :: r=>if side x.f x.n y<0 then x :: y :: r else y :: ins x r
theorem G8{x y:It}(h:side x.f x.n y<0)(R:UV It):∀ L:UV It,ins x (L++y :: R)=ins x L++y :: R
 |[]=>by simp[ins,h]
 |z :: L=>by
  simp only[VD,ins]
  split
  ·simp
  ·rw[G8 h R L];simp
theorem IE{x:It}(R:UV It):∀ L:UV It,(∀ z∈L,¬ side x.f x.n z<0)->ins x (L++R)=L++ins x R
 |[],_=>rfl
 |z :: L,h=>by
  simp only[VD,ins];rw[U0 (h z UJ),IE R L (fun y d=>h y (by simp[d]))]
def Ord(l:UV It):Prop:=l.Pairwise lt
theorem Bz{x:It}{l r:S}(h:Ord (bS (.node x l r))):Ord (bS l)/\Ord (bS r)/\(∀ z∈bS l,lt z x)/\(∀ z∈bS r,lt x z):=by
 simp only[bS,Ord,List.pairwise_append,VE] at h;exact⟨h.1,h.2.1.2,fun z d=>h.2.2 z d x UJ,h.2.1.1⟩
theorem BM(x:It):∀ t:S,Ord (bS t)->(∀ z∈bS t,¬ (z.f=x.f/\z.n=x.n))->bS (put x t)=ins x (bS t)
 |.nil,_,_=>by simp[put,nf,bS,ins]
 |.node y l r,h,hn=>by
  obtain⟨j,i,g,m⟩:=Bz h;have k:=hn y (by simp[bS]);unfold put
  by_cases a:side x.f x.n y<0
  ·rw[U1 a,nf,BM x l j (fun z d=>hn z (by simp[bS,d]))];simp only[bS];rw[G8 a]
  ·by_cases b:0<side x.f x.n y
   ·rw[U0 a,U1 b,nf,BM x r i (fun z d=>hn z (by simp[bS,d]))];simp only[bS];rw[IE _ _ (fun z d=>?_)]
    ·simp[ins,a]
    ·have:=g z d;rw[sJ];rw[vJ] at b;unfold lt at this;omega
   ·rw[sJ] at a;rw[vJ] at b;omega
theorem yi{p:It->UX}{l:UV It}(h:∀ z∈l,p z=U6):l.filter p=l:=List.filter_eq_self.2 h
def mX(f n:UZ)(z:It):UX:=!(decide (z.f=f) && decide (z.n=n))
theorem IR{f n:UZ}{z y:It}(h:side f n y<0)(k:z=y\/lt y z):mX f n z=U6:=by
 rw[sJ] at h;simp[mX];rcases k with rfl|k
 ·omega
 ·unfold lt at k;omega
theorem IQ{f n:UZ}{z y:It}(h:0<side f n y)(k:z=y\/lt z y):mX f n z=U6:=by
 rw[vJ] at h;simp[mX];rcases k with rfl|k
 ·omega
 ·unfold lt at k;omega
theorem Ci(f n:UZ):∀ t:S,Ord (bS t)->bS (drop f n t)=(bS t).filter (mX f n)
 |.nil,_=>rfl
 |.node y l r,h=>by
  obtain⟨m,k,i,g⟩:=Bz h;unfold drop
  by_cases a:side f n y<0
  ·rw[U1 a,nf,Ci f n l m];simp only[bS,VF,VG,IR a (.inl rfl),if_true];rw[yi (l:=bS r) (fun z d=>IR a (.inr (g z d)))]
  ·by_cases b:0<side f n y
   ·rw[U0 a,U1 b,nf,Ci f n r k];simp only[bS,VF,VG,IQ b (.inl rfl),if_true];rw[yi (l:=bS l) (fun z d=>IQ b (.inr (i z d)))]
   ·rw[U0 a,U0 b,I6];have e:f=y.f/\n=y.n:=by rw[sJ] at a;rw[vJ] at b;omega
    have j:mX f n y=U5:=by simp[mX,e.1,e.2]
    simp only[bS,VF,VG,j];rw[yi (l:=bS l) (fun z d=>?_),yi (l:=bS r) (fun z d=>?_)]
    ·simp
    ·have:=g z d;simp[mX];unfold lt at this;omega
    ·have:=i z d;simp[mX];unfold lt at this;omega
theorem xK{x z:It}:∀ {l:UV It},z∈ins x l↔z=x\/z∈l
 |[]=>by simp[ins]
 |y :: r=>by
  simp only[ins];split
  ·simp
  ·simp[xK (l:=r)];constructor
   ·rintro (h|h|h)
    ·exact .inr (.inl h)
    ·exact .inl h
    ·exact .inr (.inr h)
   ·rintro (h|h|h)
    ·exact .inr (.inl h)
    ·exact .inl h
    ·exact .inr (.inr h)
theorem IF(x:It):∀ l:UV It,(ins x l).length=l.length+1
 |[]=>rfl
 |y :: r=>by
  simp only[ins];split
  ·simp
  ·simp[IF x r]
theorem FZ{x:It}:∀ {l:UV It},Ord l->(∀ z∈l,¬ (z.f=x.f/\z.n=x.n))->Ord (ins x l)
 |[],_,_=>by simp[ins,Ord]
 |y :: r,h,hn=>by
  simp only[Ord,VE] at h;have g:=hn y UJ;simp only[ins];split
  ·rename_i a
   rw[sJ] at a;refine VE.2 ⟨fun z d=>?_,VE.2 h⟩;rcases Vq.1 d with rfl|d
   ·unfold lt;omega
   ·have:=h.1 z d;unfold lt at *;omega
  ·rename_i a
   refine VE.2 ⟨fun z d=>?_,FZ h.2 (fun z d=>hn z (by simp[d]))⟩;rcases xK.1 d with rfl|d
   ·rw[sJ] at a;unfold lt;omega
   ·exact h.1 z d
theorem IK{l:UV It}(p:It->UX)(h:Ord l):Ord (l.filter p):=VH p h
def meets(a b:UZ)(x:It):UX:=decide (x.f<b) && decide (a<x.t)
def meet(a b:UZ):S->UV It
 |.nil=>[]
 |.node x l r=>if late (.node x l r)<=a then [] else meet a b l++if b<=x.f then [] else (if a<x.t then [x] else [])++meet a b r
theorem A8:∀ (t:S),∀ z∈bS t,z.t<=late t
 |.nil=>by simp[bS]
 |.node x l r=>by
  have h:=A8 l;have g:=A8 r;intro z d;simp only[late,Fp];simp only[bS,Vr,Vq] at d;rcases d with d|rfl|d
  ·have:=h z d;have e:isNil l=U5:=by cases l <;> simp_all [isNil,bS]
   simp only[e,Vn,if_false];split <;> omega
  ·split <;> split <;> omega
  ·have:=g z d;have e:isNil r=U5:=by cases r <;> simp_all [isNil,bS]
   simp only[e,Vn,if_false];split <;> omega
theorem xJ(a b:UZ):∀ t:S,Ord (bS t)->meet a b t=(bS t).filter (meets a b)
 |.nil,_=>rfl
 |.node x l r,h=>by
  obtain⟨m,k,q,j⟩:=Bz h;have i:=A8 (.node x l r);unfold meet
  split
  ·rename_i hc
   symm;rw[VI]
   intro z d;have:=i z d;simp[meets];omega
  ·rw[xJ a b l m];simp only[bS,VF]
   congr 1
   split
   ·rename_i hb
    symm;rw[VI]
    intro z d;rcases Vq.1 d with rfl|d
    ·simp[meets];omega
    ·have:=j z d;unfold lt at this;simp[meets];omega
   ·rename_i hb
    rw[xJ a b r k,VG];have g:x.f<b:=UI
    simp only[meets,g,decide_true,Bool.true_and,decide_eq_true_eq]
    split <;> rfl
end aE
structure gh(w:U7)(b:UY)(x:aE.It):Prop where
 c0:w.cell? ⟨b,0,U3⟩=U4 (.int .i64 x.f)
 c1:w.cell? ⟨b,1,U3⟩=U4 (.int .i64 x.t)
 c2:w.cell? ⟨b,2,U3⟩=U4 (.int .i64 x.n)
 c3:w.cell? ⟨b,3,U3⟩=U4 (.pointer (U4 ⟨x.v,0,U3⟩))
 c4:∃ y,w.cell? ⟨b,4,U3⟩=U4 (.int .i64 y)
 c5:∃ y,w.cell? ⟨b,5,U3⟩=U4 (.int .i64 y)
 c6:∃ y,w.cell? ⟨b,6,U3⟩=U4 (.pointer y)
 c7:∃ y,w.cell? ⟨b,7,U3⟩=U4 (.pointer y)
 fz:∀ o,w.frozen? ⟨b,o,U3⟩=U5
def cR(w:U7):aE.S->U8->UV UY->Prop
 |.nil,p,F=>p=.pointer U3/\F=[]
 |.node x l r,p,F=>∃ (b:UY) (pl pr:UW Vb) (Fl Fr:UV UY),p=.pointer (U4 ⟨b,0,U3⟩)/\gh w b x/\w.cell? ⟨b,4,U3⟩=U4 (.int .i64 (aE.late (.node x l r)))/\w.cell? ⟨b,5,U3⟩=U4 (.int .i64 (aE.ht (.node x l r)))/\w.cell? ⟨b,6,U3⟩=U4 (.pointer pl)/\w.cell? ⟨b,7,U3⟩=U4 (.pointer pr)/\cR w l (.pointer pl) Fl/\cR w r (.pointer pr) Fr/\F=b :: (Fl++Fr)/\F.Nodup
structure cE(w:U7)(b:UY)(x:aE.It)(l r:aE.S)(pl pr:UW Vb)(Fl Fr:UV UY):Prop where
 n:gh w b x
 c6:w.cell? ⟨b,6,U3⟩=U4 (.pointer pl)
 c7:w.cell? ⟨b,7,U3⟩=U4 (.pointer pr)
 l:cR w l (.pointer pl) Fl
 r:cR w r (.pointer pr) Fr
 nd:(b :: (Fl++Fr)).Nodup
theorem gh.lt{x:aE.It}(h:gh w b x):b<w.heap.size:=Vh _ _ h.c0
theorem gh.off{x:aE.It}(h:gh w b x)(k:aF G w w')(d:b ∉ G):gh w' b x :=
 ⟨k.cell d h.c0,k.cell d h.c1,k.cell d h.c2,k.cell d h.c3,h.c4.imp (fun _=>k.cell d),h.c5.imp (fun _=>k.cell d),h.c6.imp (fun _=>k.cell d),h.c7.imp (fun _=>k.cell d),fun o=>(k.frozen d h.lt).trans (h.fz o)⟩
theorem gh.kZ{x:aE.It}(h:gh w b x)(y:UZ):gh (w.setCell ⟨b,4,U3⟩ (.int .i64 y)) b x:=by
 obtain⟨_,e⟩:=h.c4;exact⟨(zS _ _ _ _ UJ).trans h.c0,(zS _ _ _ _ UJ).trans h.c1,(zS _ _ _ _ UJ).trans h.c2,(zS _ _ _ _ UJ).trans h.c3,⟨_,Vu _ _ _ e⟩,h.c5.imp (fun _ e=>(zS _ _ _ _ UJ).trans e),h.c6.imp (fun _ e=>(zS _ _ _ _ UJ).trans e),h.c7.imp (fun _ e=>(zS _ _ _ _ UJ).trans e),fun o=>(zF ..).trans (h.fz o)⟩
theorem gh.oQ{x:aE.It}(h:gh w b x)(y:UZ):gh (w.setCell ⟨b,5,U3⟩ (.int .i64 y)) b x:=by
 obtain⟨_,e⟩:=h.c5;exact⟨(zS _ _ _ _ UJ).trans h.c0,(zS _ _ _ _ UJ).trans h.c1,(zS _ _ _ _ UJ).trans h.c2,(zS _ _ _ _ UJ).trans h.c3,h.c4.imp (fun _ e=>(zS _ _ _ _ UJ).trans e),⟨_,Vu _ _ _ e⟩,h.c6.imp (fun _ e=>(zS _ _ _ _ UJ).trans e),h.c7.imp (fun _ e=>(zS _ _ _ _ UJ).trans e),fun o=>(zF ..).trans (h.fz o)⟩
theorem gh.tz{x:aE.It}(h:gh w b x)(y:UW Vb):gh (w.setCell ⟨b,6,U3⟩ (.pointer y)) b x:=by
 obtain⟨_,e⟩:=h.c6;exact⟨(zS _ _ _ _ UJ).trans h.c0,(zS _ _ _ _ UJ).trans h.c1,(zS _ _ _ _ UJ).trans h.c2,(zS _ _ _ _ UJ).trans h.c3,h.c4.imp (fun _ e=>(zS _ _ _ _ UJ).trans e),h.c5.imp (fun _ e=>(zS _ _ _ _ UJ).trans e),⟨_,Vu _ _ _ e⟩,h.c7.imp (fun _ e=>(zS _ _ _ _ UJ).trans e),fun o=>(zF ..).trans (h.fz o)⟩
theorem gh.cK{x:aE.It}(h:gh w b x)(y:UW Vb):gh (w.setCell ⟨b,7,U3⟩ (.pointer y)) b x:=by
 obtain⟨_,e⟩:=h.c7;exact⟨(zS _ _ _ _ UJ).trans h.c0,(zS _ _ _ _ UJ).trans h.c1,(zS _ _ _ _ UJ).trans h.c2,(zS _ _ _ _ UJ).trans h.c3,h.c4.imp (fun _ e=>(zS _ _ _ _ UJ).trans e),h.c5.imp (fun _ e=>(zS _ _ _ _ UJ).trans e),h.c6.imp (fun _ e=>(zS _ _ _ _ UJ).trans e),⟨_,Vu _ _ _ e⟩,fun o=>(zF ..).trans (h.fz o)⟩
theorem cR.lt{w:U7}:∀ {t:aE.S}{p:U8}{F:UV UY},cR w t p F->∀ k∈F,k<w.heap.size
 |.nil,p,F,h,k,d=>by rw[h.2] at d;cases d
 |.node a l r,p,F,h,k,d=>by
  obtain⟨b,pl,pr,Fl,Fr,rfl,n,x,s,q,m,i,g,rfl,j⟩:=h;rcases Vq.1 d with rfl|d
  ·exact n.lt
  ·rcases Vr.1 d with d|d
   ·exact cR.lt i k d
   ·exact cR.lt g k d
theorem cR.off{G:UV UY}{w w':U7}(h:aF G w w'):∀ {t:aE.S}{p:U8}{F:UV UY},cR w t p F->(∀ k∈F,k ∉ G)->cR w' t p F
 |.nil,p,F,d,_=>d
 |.node a l r,p,F,d,hd=>by
  obtain⟨b,pl,pr,Fl,Fr,rfl,n,y,x,s,q,m,d,rfl,j⟩:=d;have g:b ∉ G:=hd b UJ;exact⟨b,pl,pr,Fl,Fr,rfl,n.off h g,h.cell g y,h.cell g x,h.cell g s,h.cell g q,cR.off h m (fun k i=>hd k (by simp[i])),cR.off h d (fun k i=>hd k (by simp[i])),rfl,j⟩
theorem cR.same{t:aE.S}(h:cR w t p F)(k:aF [] w w'):cR w' t p F:=h.off k (fun _ _=>by simp)
theorem cR.later{t:aE.S}(h:cR w t p F)(k:U9 w.heap.size w w'):cR w' t p F:=h.same (aF.aD k)
theorem cR.nodup{t:aE.S}(h:cR w t p F):F.Nodup:=by
 cases t with
 |nil=>rw[h.2];exact Vs
 |node a l r=>obtain⟨b,_,_,_,_,_,_,_,_,_,_,_,_,_,d⟩:=h;exact d
theorem cR.half{x:aE.It}{l r:aE.S}(h:cR w (.node x l r) (.pointer u) F):∃ (b:UY)(pl pr:UW Vb)(Fl Fr:UV UY),u=U4 ⟨b,0,U3⟩/\F=b :: (Fl++Fr)/\cE w b x l r pl pr Fl Fr/\w.cell? ⟨b,4,U3⟩=U4 (.int .i64 (aE.late (.node x l r)))/\w.cell? ⟨b,5,U3⟩=U4 (.int .i64 (aE.ht (.node x l r))):=by
 obtain⟨b,pl,pr,Fl,Fr,j,n,t,s,q,m,k,i,d,g⟩:=h
 cases j
 exact⟨b,pl,pr,Fl,Fr,rfl,d,⟨n,q,m,k,i,d ▸ g⟩,t,s⟩
theorem cE.rep{x:aE.It}{l r:aE.S}(h:cE w b x l r pl pr Fl Fr)(g:w.cell? ⟨b,4,U3⟩=U4 (.int .i64 (aE.late (.node x l r))))(d:w.cell? ⟨b,5,U3⟩=U4 (.int .i64 (aE.ht (.node x l r)))):cR w (.node x l r) (.pointer (U4 ⟨b,0,U3⟩)) (b :: (Fl++Fr)) :=
 ⟨b,pl,pr,Fl,Fr,rfl,h.n,g,d,h.c6,h.c7,h.l,h.r,rfl,h.nd⟩
theorem cE.off{x:aE.It}{l r:aE.S}(h:cE w b x l r pl pr Fl Fr)(k:aF G w w')(d:b ∉ G)(i:∀ y∈Fl,y ∉ G)(g:∀ y∈Fr,y ∉ G):cE w' b x l r pl pr Fl Fr :=
 ⟨h.n.off k d,k.cell d h.c6,k.cell d h.c7,h.l.off k i,h.r.off k g,h.nd⟩
theorem cE.same{x:aE.It}{l r:aE.S}(h:cE w b x l r pl pr Fl Fr)(k:aF [] w w'):cE w' b x l r pl pr Fl Fr:=h.off k UJ UJ UJ
theorem cE.parts{x:aE.It}{l r:aE.S}(h:cE w b x l r pl pr Fl Fr):b ∉ Fl/\b ∉ Fr/\(∀ y∈Fl,y ∉ [b])/\(∀ y∈Fr,y ∉ [b])/\(∀ y∈Fr,y ∉ Fl)/\(∀ y∈Fl,y ∉ Fr)/\Fl.Nodup/\Fr.Nodup:=by
 have j:=h.nd;rw[Vt,Vy] at j;obtain⟨g,q,m,k⟩:=j;exact⟨fun e=>g (by simp[e]),fun e=>g (by simp[e]),fun y d=>by simp;rintro rfl;exact g (by simp[d]),fun y d=>by simp;rintro rfl;exact g (by simp[d]),fun y i d=>k y d y i rfl,fun y i d=>k y i y d rfl,q,m⟩
theorem cE.lt{x:aE.It}{l r:aE.S}(h:cE w b x l r pl pr Fl Fr):∀ k∈b :: (Fl++Fr),k<w.heap.size:=by
 intro k d;rcases Vq.1 d with rfl|d
 ·exact h.n.lt
 ·rcases Vr.1 d with d|d
  ·exact h.l.lt k d
  ·exact h.r.lt k d
theorem cE.kZ{x:aE.It}{l r:aE.S}(h:cE w b x l r pl pr Fl Fr)(y:UZ):cE (w.setCell ⟨b,4,U3⟩ (.int .i64 y)) b x l r pl pr Fl Fr :=
 ⟨h.n.kZ y,(zS _ _ _ _ UJ).trans h.c6,(zS _ _ _ _ UJ).trans h.c7,h.l.off (aF.aX ..) h.parts.2.2.1,h.r.off (aF.aX ..) h.parts.2.2.2.1,h.nd⟩
theorem cE.oQ{x:aE.It}{l r:aE.S}(h:cE w b x l r pl pr Fl Fr)(y:UZ):cE (w.setCell ⟨b,5,U3⟩ (.int .i64 y)) b x l r pl pr Fl Fr :=
 ⟨h.n.oQ y,(zS _ _ _ _ UJ).trans h.c6,(zS _ _ _ _ UJ).trans h.c7,h.l.off (aF.aX ..) h.parts.2.2.1,h.r.off (aF.aX ..) h.parts.2.2.2.1,h.nd⟩
theorem cE.jV{x:aE.It}{r j:aE.S}(h:gh w b x)(m:w.cell? ⟨b,7,U3⟩=U4 (.pointer pr))(l:cR w j (.pointer u) F')(k:cR w r (.pointer pr) Fr)(i:(b :: (F'++Fr)).Nodup):cE (w.setCell ⟨b,6,U3⟩ (.pointer u)) b x j r u pr F' Fr:=by
 obtain⟨_,e⟩:=h.c6;have d:=i;rw[Vt,Vy] at d;exact⟨h.tz u,Vu _ _ _ e,(zS _ _ _ _ UJ).trans m,l.off (aF.aX ..) (fun y g=>by simp;rintro rfl;exact d.1 (by simp[g])),k.off (aF.aX ..) (fun y g=>by simp;rintro rfl;exact d.1 (by simp[g])),i⟩
theorem cE.jf{x:aE.It}{l i:aE.S}(h:gh w b x)(q:w.cell? ⟨b,6,U3⟩=U4 (.pointer pl))(m:cR w l (.pointer pl) Fl)(k:cR w i (.pointer u) F')(j:(b :: (Fl++F')).Nodup):cE (w.setCell ⟨b,7,U3⟩ (.pointer u)) b x l i pl u Fl F':=by
 obtain⟨_,e⟩:=h.c7;have d:=j;rw[Vt,Vy] at d;exact⟨h.cK u,(zS _ _ _ _ UJ).trans q,Vu _ _ _ e,m.off (aF.aX ..) (fun y g=>by simp;rintro rfl;exact d.1 (by simp[g])),k.off (aF.aX ..) (fun y g=>by simp;rintro rfl;exact d.1 (by simp[g])),j⟩
theorem PS(w:U7):
  Va prog 282 #[.pointer U3] w fun e w'=>e=.returned (.int .i64 0)/\w'=w:=by
 go_in
 go_wp2;go_ret;exact⟨rfl,rfl⟩
theorem Ra(b:UY)(x:UZ)(w:U7)(d:w.cell? ⟨b,5,U3⟩=U4 (.int .i64 x)):
  Va prog 282 #[.pointer (U4 ⟨b,0,U3⟩)] w fun e w'=>e=.returned (.int .i64 x)/\w'=w:=by
 go_in
 go_wp2;go_ret;exact⟨rfl,rfl⟩
theorem jO{t:aE.S}(w:U7)(h:cR w t (.pointer u) F):
  Va prog 282 #[.pointer u] w fun e w'=>e=.returned (.int .i64 (aE.ht t))/\w'=w:=by
 cases t with
 |nil=>obtain⟨g,_⟩:=h;cases g;exact PS w
 |node a l r=>obtain⟨b,pl,pr,Fl,Fr,d,n,j,i,_⟩:=h;cases d;exact Ra b _ w i
theorem cE.drew{x:aE.It}{l r:aE.S}(h:cE w b x l r pl pr Fl Fr):cE w.drew b x l r pl pr Fl Fr:=h.same (aF.refl _ _).drew
theorem AZ{x:aE.It}{l r:aE.S}(h:cE w b x l r pl pr Fl Fr):w.cell? ⟨b,6,U3⟩=U4 (.pointer pl)/\w.cell? ⟨b,7,U3⟩=U4 (.pointer pr)/\cE w b x l r pl pr Fl Fr:=⟨h.c6,h.c7,h⟩
def xv(w:U7)(t:aE.S):UW Vb->Prop
 |none=>aE.isNil t=U6
 |some a=>a.off=0/\a.spot=U3/\aE.isNil t=U5/\w.cell? ⟨a.block,4,U3⟩=U4 (.int .i64 (aE.late t))
theorem cR.xv{t:aE.S}(h:cR w t (.pointer u) F):xv w t u:=by
 cases t with
 |nil=>obtain⟨g,_⟩:=h;cases g;rfl
 |node a l r=>obtain⟨b,pl,pr,Fl,Fr,d,n,i,_⟩:=h;cases d;exact⟨rfl,rfl,rfl,i⟩
structure vd(w wx:U7)(b:UY)(x:aE.It)(l r:aE.S)(pl pr:UW Vb)(Fl Fr:UV UY)(hh m:UZ):Prop where
 half:cE wx b x l r pl pr Fl Fr
 c4:wx.cell? ⟨b,4,U3⟩=U4 (.int .i64 m)
 c5:wx.cell? ⟨b,5,U3⟩=U4 (.int .i64 hh)
 off:aF [b] w wx
theorem vd.kZ{wx:U7}{x:aE.It}{l r:aE.S}{d m:UZ}(h:vd w wx b x l r pl pr Fl Fr d m)(m':UZ):vd w (wx.setCell ⟨b,4,U3⟩ (.int .i64 m')).drew b x l r pl pr Fl Fr d m' :=
 ⟨(h.half.kZ m').drew,Vu _ _ _ h.c4,(zS _ _ _ _ UJ).trans h.c5,(h.off.setCell (.inl UJ) _ _).drew⟩
theorem vS(w:U7)(b:UY)(x:aE.It)(l r:aE.S)(pl pr:UW Vb)(Fl Fr:UV UY)(h:cE w b x l r pl pr Fl Fr)(hl:aE.ht l<=100000)(hr:aE.ht r<=100000):
  Va prog 285 #[.pointer (U4 ⟨b,0,U3⟩)] w fun e w'=>e=.returned (.tuple #[])/\cR w' (.node x l r) (.pointer (U4 ⟨b,0,U3⟩)) (b :: (Fl++Fr))/\aF [b] w w':=by
 have h1:=aE.jP l;have h2:=aE.jP r
 have U:Vf.wrap (1+if aE.ht l<aE.ht r then aE.ht r else aE.ht l)=1+max (aE.ht l) (aE.ht r):=by
  rw[AV];exact cG UI UI
 have E3:=aC U;clear U;have f5:=h.n.fz 5;obtain⟨y5,W⟩:=h.n.c5;have d:((w.setCell ⟨b,5,U3⟩ (.int .i64 (1+max (aE.ht l) (aE.ht r)))).drew).cell? ⟨b,5,U3⟩=U4 (.int .i64 (1+max (aE.ht l) (aE.ht r))):=zm _ _ _ W;have g:=aC (zA (h.oQ (1+max (aE.ht l) (aE.ht r))).drew (zA d ((aF.aX b w 5 (.int .i64 (1+max (aE.ht l) (aE.ht r)))).drew)));clear d
 go_in
 go_wp2_with fail
 go_region_held3 (fun w'=>w'.cell? ⟨b,6,U3⟩=U4 (.pointer pl)/\w'.cell? ⟨b,7,U3⟩=U4 (.pointer pr)/\cE w' b x l r pl pr Fl Fr)
  (first
   |exact AZ h.drew
   |exact AZ (cE.drew (cE.oQ h _)))
  (first
   |(go_at_call_of 282 (Vv pl);go_split_ands;refine (jO _ (cE.l UL)).mono ?_;rintro e w' ⟨rfl,rfl⟩)
   |(go_at_call_of 282 (Vv pr);go_split_ands;refine (jO _ (cE.r UL)).mono ?_;rintro e w' ⟨rfl,rfl⟩))
 rw[E3.y,tF];obtain⟨j,L,H⟩:=g.y;clear g;generalize (Vw _ ⟨b,5,U3⟩ (.int .i64 (1+max (aE.ht l) (aE.ht r)))).drew=X at j L H ⊢;clear h f5 W;have c1:=j.n.c1;have c6:=j.c6;have c7:=j.c7;obtain⟨y4,Z⟩:=j.n.c4;have I:=j.n.fz 4;have d:(X.setCell ⟨b,4,U3⟩ (.int .i64 x.t)).cell? ⟨b,4,U3⟩=U4 (.int .i64 x.t):=zm _ _ _ Z;have y:(X.setCell ⟨b,4,U3⟩ (.int .i64 x.t)).cell? ⟨b,5,U3⟩=U4 (.int .i64 (1+max (aE.ht l) (aE.ht r))):=(zS _ _ _ _ UJ).trans L;have g:=aC (zA (j.kZ x.t) (zA d (zA y (H.setCell (R:=b) (.inl UJ) 4 (.int .i64 x.t)))));clear d y
 go_upto_region 2 with fail
 obtain⟨i,E,D,C⟩:=g.y;clear g c1 c6 c7 Z I j L H;generalize (Vw X ⟨b,4,U3⟩ (.int .i64 x.t))=Y at i E D C ⊢;have V:=i.c6
 go_upto_if 28 with fail
 clear V
 go_cut [28] from 24 to 43 (fun _ wx=>vd w wx b x l r pl pr Fl Fr (1+max (aE.ht l) (aE.ht r)) (if aE.isNil l then x.t else max x.t (aE.late l)))
 case first =>
  have V:=i.c6;have d7:=i.c7;have I:=i.n.fz 4;have Q:=i.l.xv
  cases pl with
  |none =>
   have z:aE.isNil l=U6:=Q
   go_wp2
   go_meet
   rw[U1 z];exact⟨i,E,D,C⟩
  |some q =>
   obtain⟨O,ol,sl⟩:=q;obtain⟨K,J,z,A⟩:=Q
   cases K
   cases J
   have A:Y.cell? ⟨O,4,U3⟩=U4 (.int .i64 (aE.late l)):=A
   go_wp2_with fail
   go_region
   all_goals
    rw[tF]
    go_wp2
    go_meet
    rw[U0 (by simp[z])];exact vd.kZ ⟨i,E,D,C⟩ _
 case rest =>
  have k:=hcut;clear hcut i E D C;have m4:=k.c4;have B:=aC k;have T:aE.late (.node x l r)=if aE.isNil r then (if aE.isNil l then x.t else max x.t (aE.late l)) else max (if aE.isNil l then x.t else max x.t (aE.late l)) (aE.late r):=rfl
  have E9:=aC T;clear T;generalize (if aE.isNil l then x.t else max x.t (aE.late l))=m at *;have d7:=k.half.c7;have I:=k.half.n.fz 4;have P:=k.half.r.xv;clear k
  cases pr with
  |none =>
   have er:aE.isNil r=U6:=P;have s:=aC (B.y.half.rep (by rw[B.y.c4,E9.y,U1 er]) B.y.c5)
   go_wp2
   go_end0
   exact⟨rfl,s.y,B.y.off⟩
  |some q =>
   obtain⟨O,ol,sl⟩:=q;obtain⟨K,J,z,A⟩:=P
   cases K
   cases J
   have A:wc.cell? ⟨O,4,U3⟩=U4 (.int .i64 (aE.late r)):=A;have s:=aC (B.y.kZ (max m (aE.late r)));have HR:=aC (s.y.half.rep (by rw[s.y.c4,E9.y,U0 (by simp[z])]) s.y.c5)
   go_wp2_with fail
   go_region
   all_goals
    rw[tF]
    go_wp2
    go_end0
    exact⟨rfl,HR.y,s.y.off⟩
def kT(w:U7)(F:UV UY)(d:aE.S)(e:Ending)(w':U7):Prop :=
 ∃ (u:UW Vb) (F':UV UY),e=.returned (.pointer u)/\cR w' d (.pointer u) F'/\(∀ k∈F',k∈F)/\aF F w w'
theorem II{a b:UV UY}(h:a.Perm b)(k:a.Nodup):b.Nodup:=h.nodup_iff.1 k
theorem Rf{x y:aE.It}{s t r:aE.S}(h:cE w b x (.node y s t) r u pr Fl Fr):
  ∃ (bl:UY) (B g:UW Vb) (Fa j:UV UY),u=U4 ⟨bl,0,U3⟩/\Fl=bl :: (Fa++j)/\w.cell? ⟨bl,7,U3⟩=U4 (.pointer g)/\w.frozen? ⟨bl,7,U3⟩=U5/\b≠bl /\
   cE ((w.setCell ⟨b,6,U3⟩ (.pointer g)).setCell ⟨bl,7,U3⟩ (.pointer (U4 ⟨b,0,U3⟩))) b x t r g pr j Fr /\
   (∀ w2,cR w2 (.node x t r) (.pointer (U4 ⟨b,0,U3⟩)) (b :: (j++Fr))->aF [b] ((w.setCell ⟨b,6,U3⟩ (.pointer g)).setCell ⟨bl,7,U3⟩ (.pointer (U4 ⟨b,0,U3⟩))) w2->cE w2 bl y s (.node x t r) B (U4 ⟨b,0,U3⟩) Fa (b :: (j++Fr))) /\
   aF (b :: (Fl++Fr)) w ((w.setCell ⟨b,6,U3⟩ (.pointer g)).setCell ⟨bl,7,U3⟩ (.pointer (U4 ⟨b,0,U3⟩))):=by
 obtain⟨bl,B,g,Fa,j,rfl,rfl,A,_,_⟩:=h.l.half;have q:=h.nd;have m:b≠bl:=by rintro rfl;simp at q
 have E:(b :: (j++Fr)).Nodup:=by
  refine VJ ?_ q;exact VK _ (VL (VM (List.sublist_append_right Fa j) (VN _ _)) (VO _))
 have C:aF [b] w (w.setCell ⟨b,6,U3⟩ (.pointer g)):=aF.aX ..;have I:aF [bl] (w.setCell ⟨b,6,U3⟩ (.pointer g)) ((w.setCell ⟨b,6,U3⟩ (.pointer g)).setCell ⟨bl,7,U3⟩ (.pointer (U4 ⟨b,0,U3⟩))):=aF.aX ..
 have i:∀ k,k∈Fa\/k∈j\/k∈Fr->k≠b/\k≠bl:=by
  intro k d;simp only[Vt,Vr,Vq,VD,not_or] at q;constructor
  ·rintro rfl;rcases d with d|d|d
   ·exact q.1.2.1.1 d
   ·exact q.1.2.1.2 d
   ·exact q.1.2.2 d
  ·rintro rfl;rcases d with d|d|d
   ·exact q.2.1.1.1 d
   ·exact q.2.1.1.2 d
   ·exact q.2.1.2 d
 have O:cE (w.setCell ⟨b,6,U3⟩ (.pointer g)) b x t r g pr j Fr:=cE.jV h.n h.c7 A.r h.r E
 have H:cE ((w.setCell ⟨b,6,U3⟩ (.pointer g)).setCell ⟨bl,7,U3⟩ (.pointer (U4 ⟨b,0,U3⟩))) b x t r g pr j Fr :=
  O.off I (by simpa using m) (fun k d=>by simpa using (i k (.inr (.inl d))).2) (fun k d=>by simpa using (i k (.inr (.inr d))).2)
 refine⟨bl,B,g,Fa,j,rfl,rfl,A.c7,A.n.fz 7,m,H,fun w2 L D=>?_,?_⟩
 ·have K:gh ((w.setCell ⟨b,6,U3⟩ (.pointer g)).setCell ⟨bl,7,U3⟩ (.pointer (U4 ⟨b,0,U3⟩))) bl y:=(A.n.off C (by simp;exact m.symm)).cK _;have R:((w.setCell ⟨b,6,U3⟩ (.pointer g)).setCell ⟨bl,7,U3⟩ (.pointer (U4 ⟨b,0,U3⟩))).cell? ⟨bl,6,U3⟩=U4 (.pointer B):=(zS _ _ _ _ UJ).trans (C.cell (by simp;exact m.symm) A.c6);have Q:((w.setCell ⟨b,6,U3⟩ (.pointer g)).setCell ⟨bl,7,U3⟩ (.pointer (U4 ⟨b,0,U3⟩))).cell? ⟨bl,7,U3⟩=U4 (.pointer (U4 ⟨b,0,U3⟩)):=zm _ _ _ (C.cell (by simp;exact m.symm) A.c7)
  have P:cR ((w.setCell ⟨b,6,U3⟩ (.pointer g)).setCell ⟨bl,7,U3⟩ (.pointer (U4 ⟨b,0,U3⟩))) s (.pointer B) Fa :=
   (A.l.off C (fun k d=>by simpa using (i k (.inl d)).1)).off I (fun k d=>by simpa using (i k (.inl d)).2)
  have z:bl ∉ [b]:=by simp;exact m.symm
  refine⟨K.off D z,D.cell z R,D.cell z Q,P.off D (fun k d=>by simpa using (i k (.inl d)).1),L,?_⟩;refine II ?_ q;have J:(b :: (bl :: (Fa++j)++Fr)).Perm (bl :: b :: (Fa++(j++Fr))):=by simpa[VP] using VQ bl b (Fa++(j++Fr))
  exact J.trans (VR _ VS.symm)
 ·exact ((aF.aX b w 6 _).mono UJ).setCell (.inl UJ) _ _
theorem Re{x y:aE.It}{s t l:aE.S}(h:cE w b x l (.node y s t) pl u Fl Fr):
  ∃ (br:UY) (g A:UW Vb) (Fa Fb:UV UY),u=U4 ⟨br,0,U3⟩/\Fr=br :: (Fa++Fb)/\w.cell? ⟨br,6,U3⟩=U4 (.pointer g)/\w.frozen? ⟨br,6,U3⟩=U5/\b≠br /\
   cE ((w.setCell ⟨b,7,U3⟩ (.pointer g)).setCell ⟨br,6,U3⟩ (.pointer (U4 ⟨b,0,U3⟩))) b x l s pl g Fl Fa /\
   (∀ w2,cR w2 (.node x l s) (.pointer (U4 ⟨b,0,U3⟩)) (b :: (Fl++Fa))->aF [b] ((w.setCell ⟨b,7,U3⟩ (.pointer g)).setCell ⟨br,6,U3⟩ (.pointer (U4 ⟨b,0,U3⟩))) w2->cE w2 br y (.node x l s) t (U4 ⟨b,0,U3⟩) A (b :: (Fl++Fa)) Fb) /\
   aF (b :: (Fl++Fr)) w ((w.setCell ⟨b,7,U3⟩ (.pointer g)).setCell ⟨br,6,U3⟩ (.pointer (U4 ⟨b,0,U3⟩))):=by
 obtain⟨br,g,A,Fa,Fb,rfl,rfl,z,_,_⟩:=h.r.half;have m:=h.nd;have j:b≠br:=by rintro rfl;simp at m
 have D:(b :: (Fl++Fa)).Nodup:=by
  refine VJ ?_ m;exact VK _ (VL (VO _) (VM (List.sublist_append_left Fa Fb) (VN _ _)))
 have B:aF [b] w (w.setCell ⟨b,7,U3⟩ (.pointer g)):=aF.aX ..;have H:aF [br] (w.setCell ⟨b,7,U3⟩ (.pointer g)) ((w.setCell ⟨b,7,U3⟩ (.pointer g)).setCell ⟨br,6,U3⟩ (.pointer (U4 ⟨b,0,U3⟩))):=aF.aX ..
 have i:∀ k,k∈Fl\/k∈Fa\/k∈Fb->k≠b/\k≠br:=by
  intro k d;simp only[Vt,Vy,Vr,Vq,not_or] at m;constructor
  ·rintro rfl;rcases d with d|d|d
   ·exact m.1.1 d
   ·exact m.1.2.2.1 d
   ·exact m.1.2.2.2 d
  ·rintro rfl;rcases d with d|d|d
   ·exact m.2.2.2 _ d _ (.inl rfl) rfl
   ·exact m.2.2.1.1.1 d
   ·exact m.2.2.1.1.2 d
 have L:cE (w.setCell ⟨b,7,U3⟩ (.pointer g)) b x l s pl g Fl Fa:=cE.jf h.n h.c6 h.l z.l D
 have E:cE ((w.setCell ⟨b,7,U3⟩ (.pointer g)).setCell ⟨br,6,U3⟩ (.pointer (U4 ⟨b,0,U3⟩))) b x l s pl g Fl Fa :=
  L.off H (by simpa using j) (fun k d=>by simpa using (i k (.inl d)).2) (fun k d=>by simpa using (i k (.inr (.inl d))).2)
 refine⟨br,g,A,Fa,Fb,rfl,rfl,z.c6,z.n.fz 6,j,E,fun w2 K C=>?_,?_⟩
 ·have J:gh ((w.setCell ⟨b,7,U3⟩ (.pointer g)).setCell ⟨br,6,U3⟩ (.pointer (U4 ⟨b,0,U3⟩))) br y:=(z.n.off B (by simp;exact j.symm)).tz _;have Q:((w.setCell ⟨b,7,U3⟩ (.pointer g)).setCell ⟨br,6,U3⟩ (.pointer (U4 ⟨b,0,U3⟩))).cell? ⟨br,6,U3⟩=U4 (.pointer (U4 ⟨b,0,U3⟩)):=zm _ _ _ (B.cell (by simp;exact j.symm) z.c6);have P:((w.setCell ⟨b,7,U3⟩ (.pointer g)).setCell ⟨br,6,U3⟩ (.pointer (U4 ⟨b,0,U3⟩))).cell? ⟨br,7,U3⟩=U4 (.pointer A):=(zS _ _ _ _ UJ).trans (B.cell (by simp;exact j.symm) z.c7)
  have O:cR ((w.setCell ⟨b,7,U3⟩ (.pointer g)).setCell ⟨br,6,U3⟩ (.pointer (U4 ⟨b,0,U3⟩))) t (.pointer A) Fb :=
   (z.r.off B (fun k d=>by simpa using (i k (.inr (.inr d))).1)).off H (fun k d=>by simpa using (i k (.inr (.inr d))).2)
  have q:br ∉ [b]:=by simp;exact j.symm
  refine⟨J.off C q,C.cell q Q,C.cell q P,K,O.off C (fun k d=>by simpa using (i k (.inr (.inr d))).1),?_⟩;refine II ?_ m;have I:(b :: (Fl++br :: (Fa++Fb))).Perm (b :: br :: (Fl++(Fa++Fb))):=VR _ VS;refine I.trans ((VQ br b _).trans (VR _ ?_));simp[VP]
 ·exact ((aF.aX b w 7 _).mono UJ).setCell (.inl UJ) _ _
theorem CF(w:U7)(b:UY)(x y:aE.It)(s t r:aE.S)(u pr:UW Vb)(Fl Fr:UV UY)(h:cE w b x (.node y s t) r u pr Fl Fr)(T:aE.ht s<=50000)(R:aE.ht t<=50000)(Q:aE.ht r<=50000):
  Va prog 284 #[.pointer (U4 ⟨b,0,U3⟩)] w (kT w (b :: (Fl++Fr)) (.node y s (.node x t r))):=by
 obtain⟨O,C,B,P,A,rfl,rfl,J,H,D,q,m,l⟩:=Rf h;have L:=h.c6;have I:=h.n.fz 6;have j:aE.ht (.node x t r)<=100000:=by simp only[aE.ht];omega
 have G:=aC (zA q (zA m l));clear q m l h
 go_in
 go_wp2_with fail
 refine (vS _ b x t r B pr A Fr G.y.1 UI UI).mono ?_;rintro e w2 ⟨rfl,g,d⟩;have K:=aC (zA (G.y.2.1 w2 g d) (G.y.2.2.trans' d (fun z i=>by simp at i;subst i;exact .inl UJ)));clear g d G J L H I
 go_wp2_with fail
 refine (vS _ O y s (.node x t r) C (U4 ⟨b,0,U3⟩) P (b :: (A++Fr)) K.y.1 UI j).mono ?_;rintro e w3 ⟨rfl,g,d⟩;have M:=aC (zA g (K.y.2.trans' d (fun z i=>by simp at i;subst i;exact .inl UJ)));clear g d K
 go_wp2
 go_ret;exact⟨_,_,rfl,M.y.1,(by intro k E;simp only[Vq,Vr] at E ⊢;grind),M.y.2⟩
theorem CG(w:U7)(b:UY)(x y:aE.It)(s t l:aE.S)(u pl:UW Vb)(Fl Fr:UV UY)(h:cE w b x l (.node y s t) pl u Fl Fr)(T:aE.ht s<=50000)(R:aE.ht t<=50000)(Q:aE.ht l<=50000):
  Va prog 283 #[.pointer (U4 ⟨b,0,U3⟩)] w (kT w (b :: (Fl++Fr)) (.node y (.node x l s) t)):=by
 obtain⟨O,C,B,A,P,rfl,rfl,L,I,D,r,q,m⟩:=Re h;have J:=h.c7;have H:=h.n.fz 7;have j:aE.ht (.node x l s)<=100000:=by simp only[aE.ht];omega
 have G:=aC (zA r (zA q m));clear r q m h
 go_in
 go_wp2_with fail
 refine (vS _ b x l s pl C Fl A G.y.1 UI UI).mono ?_;rintro e w2 ⟨rfl,g,d⟩;have K:=aC (zA (G.y.2.1 w2 g d) (G.y.2.2.trans' d (fun z i=>by simp at i;subst i;exact .inl UJ)));clear g d G J L H I
 go_wp2_with fail
 refine (vS _ O y (.node x l s) t (U4 ⟨b,0,U3⟩) B (b :: (Fl++A)) P K.y.1 j UI).mono ?_;rintro e w3 ⟨rfl,g,d⟩;have M:=aC (zA g (K.y.2.trans' d (fun z i=>by simp at i;subst i;exact .inl UJ)));clear g d K
 go_wp2
 go_ret;exact⟨_,_,rfl,M.y.1,(by intro k E;simp only[Vq,Vr] at E ⊢;grind),M.y.2⟩
theorem cE.ry{x:aE.It}{l r t:aE.S}(h:cE w b x l r pl pr Fl Fr)(A:cR w2 t (.pointer u) F')(m:∀ k∈F',k∈Fl\/w.heap.size<=k)(i:aF Fl w w2):
  cE (w2.setCell ⟨b,6,U3⟩ (.pointer u)) b x t r u pr F' Fr/\(∀ k∈b :: (F'++Fr),k∈b :: (Fl++Fr)\/w.heap.size<=k)/\aF (b :: (Fl++Fr)) w (w2.setCell ⟨b,6,U3⟩ (.pointer u)):=by
 obtain⟨j,D,J,I,s,H,E,C⟩:=h.parts;have g:=h.lt;refine⟨cE.jV (h.n.off i j) (i.cell j h.c7) A (h.r.off i s) ?_,fun k d=>?_,?_⟩
 ·refine Vt.2 ⟨fun e=>?_,Vy.2 ⟨A.nodup,C,fun y q z B e=>?_⟩⟩
  ·rcases Vr.1 e with e|e
   ·rcases m b e with e|e
    ·exact j e
    ·have:=g b UJ;omega
   ·exact D e
  ·subst e;rcases m y q with e|e
   ·exact s y B e
   ·have:=g y (by simp[B]);omega
 ·rcases Vq.1 d with rfl|d
  ·exact .inl UJ
  ·rcases Vr.1 d with d|d
   ·rcases m k d with e|e
    ·exact .inl (by simp[e])
    ·exact .inr e
   ·exact .inl (by simp[d])
 ·exact (i.mono (by intro y q;simp[q])).setCell (.inl UJ) _ _
theorem cE.uj{x:aE.It}{l r s:aE.S}(h:cE w b x l r pl pr Fl Fr)(A:cR w2 s (.pointer u) F')(q:∀ k∈F',k∈Fr\/w.heap.size<=k)(i:aF Fr w w2):
  cE (w2.setCell ⟨b,7,U3⟩ (.pointer u)) b x l s pl u Fl F'/\(∀ k∈b :: (Fl++F'),k∈b :: (Fl++Fr)\/w.heap.size<=k)/\aF (b :: (Fl++Fr)) w (w2.setCell ⟨b,7,U3⟩ (.pointer u)):=by
 obtain⟨C,m,J,I,H,t,B,E⟩:=h.parts;have g:=h.lt;refine⟨cE.jf (h.n.off i m) (i.cell m h.c6) (h.l.off i t) A ?_,fun k d=>?_,?_⟩
 ·refine Vt.2 ⟨fun e=>?_,Vy.2 ⟨B,A.nodup,fun y j z D e=>?_⟩⟩
  ·rcases Vr.1 e with e|e
   ·exact C e
   ·rcases q b e with e|e
    ·exact m e
    ·have:=g b UJ;omega
  ·subst e;rcases q y D with e|e
   ·exact t y j e
   ·have:=g y (by simp[j]);omega
 ·rcases Vq.1 d with rfl|d
  ·exact .inl UJ
  ·rcases Vr.1 d with d|d
   ·exact .inl (by simp[d])
   ·rcases q k d with e|e
    ·exact .inl (by simp[e])
    ·exact .inr e
 ·exact (i.mono (by intro y j;simp[j])).setCell (.inl UJ) _ _
theorem kT.of{t:aE.S}{e:Ending}(h:kT w1 G t e w')(k:aF F w w1)(d:∀ k∈G,k∈F):kT w F t e w':=by
 obtain⟨u,F',rfl,m,l,j⟩:=h;exact⟨u,F',rfl,m,fun k i=>d k (l k i),k.trans' j (fun x g=>.inl (d x g))⟩
theorem Ty(w:U7)(b:UY)(x:aE.It)(l r:aE.S)(pl pr:UW Vb)(Fl Fr:UV UY)(h:cE w b x l r pl pr Fl Fr)(s:aE.ht l<=40000)(q:aE.ht r<=40000)(y:¬ 1<aE.ht l-aE.ht r)(t:¬ aE.ht l-aE.ht r < -1):
  Va prog 262 #[.pointer (U4 ⟨b,0,U3⟩)] w (kT w (b :: (Fl++Fr)) (.node x l r)):=by
 have B:=aE.jP l;have A:=aE.jP r;have k:Vf.wrap (aE.ht l-aE.ht r)=aE.ht l-aE.ht r:=cG UI UI
 go_in
 go_upto_region 1 with fail
 go_region_held3 (fun w'=>w'.cell? ⟨b,6,U3⟩=U4 (.pointer pl)/\w'.cell? ⟨b,7,U3⟩=U4 (.pointer pr)/\cE w' b x l r pl pr Fl Fr)
  (exact AZ h.drew)
  (first
   |(go_at_call_of 282 (Vv pl);go_split_ands;refine (jO _ (cE.l UL)).mono ?_;rintro e w' ⟨rfl,rfl⟩)
   |(go_at_call_of 282 (Vv pr);go_split_ands;refine (jO _ (cE.r UL)).mono ?_;rintro e w' ⟨rfl,rfl⟩))
 have H:=aC h.drew;have j:=aC ((aF.refl (b :: (Fl++Fr)) _).drew:aF _ w w.drew);clear h
 go_wp2_with fail
 refine (vS _ b x l r pl pr Fl Fr H.y UI UI).mono ?_;rintro e w2 ⟨rfl,g,d⟩;have K:=aC (zA g (j.y.trans' d (fun z i=>by simp at i;subst i;exact .inl UJ)));clear g d H j
 go_wp2
 go_ret;exact⟨_,_,rfl,K.y.1,fun _ m=>m,K.y.2⟩
end Go.Proofs.YtfigmlfdnickmaaGreatDoor
