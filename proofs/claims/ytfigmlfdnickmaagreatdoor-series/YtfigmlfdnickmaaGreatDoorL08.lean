import Derived.Test.YtfigmlfdnickmaaGreatDoorL07
import Derived.Deep.CutRange
import Derived.Deep.RegionWith
import Derived.Deep.RegionHeld3
import Derived.Maps.AppendAt
import Derived.Deep.AppendLies
import Derived.Lib.SmallJoins
import Derived.Lib.SliceRun
import Derived.RangeFuncKeeps
import Derived.RangeFuncBound
import Derived.RangeFuncLeaves
import Derived.Shelf.Abstract
import Derived.Shelf.RegionOpen
import Derived.OwnWalkIn
import Derived.TacticsInMore
import Derived.RangeFuncCalls
set_option maxRecDepth 100000
set_option maxHeartbeats 8000000
open Go.Proofs.Tryz
open _root_ renaming ByteArray->UU,List->UV,Option->UW,Nat->UY,Int->UZ,if_neg->U0,if_pos->U1
open Option renaming none->U3,some->U4,map_some->Ye,mem_toList->WI
open Bool renaming false->U5,true->U6
open Go renaming World->U7,Value->U8,Calls->Va,Value->Zf
open Go.RowKit renaming Below->U9
open Go.Oper renaming semAt_some->Y5
open Go.Fence renaming wide->Zg
open List renaming size_toArray->Y6,length_cons->VV,length_nil->VZ,push_toArray->Zb,append_toArray->Zc,nil_append->Zd,cons_append->VD,mem_append->Vr,takeWhile_cons->Zk,take_of_length_le->V7,append_assoc->VP,getLast?_eq_some_getLast->Zm,getLastD_eq_getLast?->Zn,length_take->Yb,length_pos_iff->Zo,getElem?_map->Yd,mem_singleton->Yo,getElem?_append_right->Wz,any_eq_false->Zq,any_eq_true->XQ,getElem_mem->Zr,map_append->We,flatMap_append->Wj,map_eq_nil_iff->Zs,map_eq_append_iff->Zt,length_append->VU,getElem_of_mem->XN,getElem_append_left->YW,getElem_append_right->Zu,mem_map->V9,map->Zx
open Nat renaming reduceAdd->Y7,reduceSub->Y8,le_trans->Vg,zero_le->V6
open Array renaming replicate_succ->Y9,replicate_zero->Za,getElem?_eq_some_iff->YR
open Go.World renaming alloc_heap_new->Zh,size_alloc->Zj,ownsRow_nil->Yl,cell?->VA,block_lt_of_cell?->Vh,news_of_block->Wv
open Go.Code renaming wp->YS
open Go.Value renaming int->VT,ownBlock->Wr,oneCell'->WD,slice->YZ
open Go.Boxed renaming new->Zi
open Go.KeepsFrom renaming refl->Zl
open Go.Joins renaming ownsRow_form->Yc,ownsRow_le->Yq
open Go.Value.slice renaming injEq->Zp
open ByteArray renaming empty->Yy
open Go.Region renaming wanted->Yt
open Go.AllReadyIn renaming cons->Zv,nil->Zw
namespace Go.Proofs.YtfigmlfdnickmaaGreatDoor
variable{name:UU}{fr la mo til u x:UZ}{p:UZ->Bool}{l tl:UV (aA.aM × Zf)}{L:UV (UZ × UZ)}{xs:UV Zf}{B Bn Q b c1 d e i k m n n₀:UY}{aJ:UY->UW bB}{a1:UW Addr}{r rw_:Raw}{s:aA.St}{v v':Zf}{W W' Z w w' w1 w2 w3 wx:U7}
open Go.RowKit Go.Shelf
attribute [local go_sem] Y5
theorem pR(h:gy w)(k:U9 n₀ w w')(f:10<=n₀):gy w':=by
 obtain⟨C,a1,A,z,y,t,q,o,j,g,c,a⟩:=h;refine⟨?_,?_,?_,?_,?_,?_,?_,?_,?_,?_,?_,?_⟩
 all_goals (refine (k.cell (by show 1<n₀;omega)).trans ?_;assumption)
theorem Tm(n:UY)(hn:1<=n)(l Bn n₀:UY)(U:10<=n₀)(r:Rd.bL)(F:Rd.fw r)(J Jx:UV UZ->U7->Prop)
  (hY:∀ pre x W,J pre W->pre.length<(Rd.iH (Cal.dT r.fr) r.ev 100 (Cal.yT r.fr) (Cal.mT r.fr)).length->YieldAt Zg (n-1) prog l #[.int .i64 x] W fun e W' =>
   (e=.returned (.bool U6)/\J (pre++[x]) W'/\RK n₀ Bn W W')\/(e=.returned (.bool U5)/\Jx (pre++[x]) W'))
  (W:U7) (ht:gy W) (O:W.heap[Bn]?=U4 (bN r)) (h0:J [] W):
  CallsIn Zg n prog 293 #[.func (.yield l) #[] #[],.pointer (U4 ⟨Bn,0,U3⟩)] W fun e W'=>(∃ v,e=.returned v) /\
   ((∃ ys,ys=Rd.iH (Cal.dT r.fr) r.ev 100 (Cal.yT r.fr) (Cal.mT r.fr)/\J ys W')\/(∃ pre,pre <+: Rd.iH (Cal.dT r.fr) r.ev 100 (Cal.yT r.fr) (Cal.mT r.fr)/\Jx pre W')):=by
 have c9:=pN O;have e1:=F.e1;have e2:=F.e2;have f0:=F.f0;have f1:=F.f1;clear F;obtain⟨mo,mn,my,mm⟩:=Rd.pF f0 f1;obtain⟨g1,g2,g3,g4,g5,g6⟩:=(Cal.gO _ _ _).1 mo;have HD:Hid (∀ y m d:UZ,Cal.ok y m d=U6->Cal.num y m d=r.fr->y=Cal.yT r.fr/\m=Cal.mT r.fr/\d=Cal.dT r.fr):=fun y m d h k=>Cal.AA y m d r.fr h k
 have DA:=aC (SJ r.fr W ht UI UI);clear mo mn g5 g6;generalize hS:Rd.iH (Cal.dT r.fr) r.ev 100 (Cal.yT r.fr) (Cal.mT r.fr)=S at *;generalize Cal.dT r.fr=dt at *;generalize Cal.yT r.fr=y0 at *;generalize Cal.mT r.fr=m0 at *;refine callsIn_of_wp func293 rfl trivial ?_ rfl;simp only[ntmps293,Y6,VV,VZ,Y7,Y8,Y9,Za,Zb,Zc,Zd,VD]
 gi_wp2_with (first
  |((try refine⟨trivial,?_⟩);gi_at_call 116;refine (callsIn_wide.2 DA.y).mono ?_;rintro e w1 ⟨y,m,d,rfl,g,q,rfl⟩;obtain⟨rfl,rfl,rfl⟩:=HD.y y m d g q))
 clear DA HD c9 g q
 gi_loopw [3,4] (fun v u wr=>∃ (y m:UZ) (f:UY) (pre:UV UZ),v=.int .i64 y/\u=.int .i64 m/\S=pre++Rd.iH d r.ev f y m/\2024<=y/\y<=2034/\1<=m/\m<=12/\24312<12*y+m+f/\J pre wr/\wr.heap[Bn]?=U4 (bN r)/\gy wr) (fun v u _=>(30000-(12*intOf v+intOf u)).toNat)
 case atStart=>exact⟨y,m,100,[],rfl,rfl,hS.symm,by omega,by omega,by omega,by omega,by omega,h0,O,ht⟩
 case round =>
  obtain⟨c,a,f,pre,rfl,rfl,j,a1,a2,X,V,a5,T,M,H⟩:=hrel;clear O h0 ht;have K:=aC (Ud c a wr H);have o:=Rd.I9 (y:=c) (m:=a) a1 UI X V
  by_cases t:Rd.reached c a=U6
  ·have ac:=o.1 t;obtain⟨C,rfl⟩:∃ C,f=C+1:=⟨f-1,by omega⟩;have D:Rd.iH d r.ev (C+1) c a=Rd.pL c a d++Rd.iH d r.ev C (Rd.nc c a r.ev) (Rd.lU a r.ev):=by simp[Rd.iH,t]
   obtain⟨l1,l2,l3⟩:=Rd.Bu (y:=c) (m:=a) (ev:=r.ev);rw[D] at j;rw[t] at K
   cases g:Cal.ok c a d
   ·have DY:=aC (BS c a d wr H g);have Y:=aC (Hc c a r.ev wr UI UI X V e1 e2);have E:Rd.pL c a d=[]:=by simp[Rd.pL,g]
    have c1:=oH M;rw[E,Zd] at j;clear o t D E;generalize Rd.nc c a r.ev=y2 at *;generalize Rd.lU a r.ev=m2 at *
    gi_wp2_with (first
     |((try refine⟨trivial,?_⟩);gi_at_call 294;refine (callsIn_wide.2 K.y).mono ?_;rintro e w1 ⟨rfl,rfl⟩)
     |((try refine⟨trivial,?_⟩);gi_at_call 112;refine (callsIn_wide.2 DY.y).mono ?_;rintro e w1 ⟨rfl,rfl⟩))
    refine⟨fun _ h=>(by cases h),?_⟩
    gi_wp2_with (first
     |((try refine⟨trivial,?_⟩);gi_at_call 295;refine (callsIn_wide.2 Y.y).mono ?_;rintro e w1 ⟨rfl,rfl⟩))
    go_roundw
    case rel=>exact⟨y2,m2,C,pre,rfl,rfl,j,by omega,by omega,l2,l3,by omega,T,M,H⟩
    case measure=>simp[intOf];omega
   ·have DY:=aC (Ce c a d wr H g);have E:Rd.pL c a d=[Cal.num c a d]:=by simp[Rd.pL,g]
    rw[E] at j;clear o t D E;generalize Cal.num c a d=z at *;have Y:=aC (fun w=>Hc c a r.ev w UI UI X V e1 e2);generalize Rd.nc c a r.ev=y2 at *;generalize Rd.lU a r.ev=m2 at *;obtain⟨fn,aa,N,ab,hy,P⟩:=hY pre z wr T (by rw[j];simp)
    gi_wp2_with (first
     |((try refine⟨trivial,?_⟩);gi_at_call 294;refine (callsIn_wide.2 K.y).mono ?_;rintro e w1 ⟨rfl,rfl⟩)
     |((try refine⟨trivial,?_⟩);gi_at_call 112;refine (callsIn_wide.2 DY.y).mono ?_;rintro e w1 ⟨rfl,rfl⟩))
    refine P.mono ?_;rintro e W3 (⟨rfl,R,A⟩|⟨rfl,I⟩)
    ·have c1:=oH (A.2.trans M)
     gi_wp2_with (first
      |((try refine⟨trivial,?_⟩);gi_at_call 295;refine (callsIn_wide.2 (Y.y W3)).mono ?_;rintro e w2 ⟨rfl,rfl⟩))
     go_roundw
     case rel=>exact⟨y2,m2,C,pre++[z],rfl,rfl,by simp[j],by omega,by omega,l2,l3,by omega,R,A.2.trans M,pR H A.1 U⟩
     case measure=>simp[intOf];omega
    ·gi_wp2
     refine bodyPost_ret (results_none rfl _ _ _) rfl ?_;exact⟨⟨_,rfl⟩,.inr ⟨pre++[z],⟨Rd.iH d r.ev C y2 m2,by simp[j]⟩,I⟩⟩
  ·have D:Rd.iH d r.ev f c a=[]:=by cases f <;> simp[Rd.iH,t]
   have G:Rd.reached c a=U5:=by simpa using t
   rw[D,List.append_nil] at j;subst j;rw[G] at K;clear o D t G
   gi_wp2_with (first
    |((try refine⟨trivial,?_⟩);gi_at_call 294;refine (callsIn_wide.2 K.y).mono ?_;rintro e w1 ⟨rfl,rfl⟩))
   go_end0
   exact⟨⟨_,rfl⟩,.inl ⟨_,rfl,T⟩⟩
theorem Qv(r:Rd.bL)(w:U7):
  Va prog 278 #[ik r] w fun e w'=>e=.returned (.func (.func 296) #[] #[.pointer (U4 ⟨w.heap.size,0,U3⟩)])/\w'=w.alloc (bN r):=by
 unfold ik
 go_in
 go_wp2_with fail
 exact bodyPost_ret (v:=.func (.func 296) #[] #[.pointer (U4 ⟨w.heap.size,0,U3⟩)]) (by simp[results,results278,go_sem]) rfl ⟨rfl,rfl⟩
theorem Sx(r:Rd.bL)(w:U7):
  Va prog 276 #[ik r] w fun e w'=>e=.returned (.func (.func 292) #[] #[.pointer (U4 ⟨w.heap.size,0,U3⟩)])/\w'=w.alloc (bN r):=by
 unfold ik
 go_in
 go_wp2_with fail
 exact bodyPost_ret (v:=.func (.func 292) #[] #[.pointer (U4 ⟨w.heap.size,0,U3⟩)]) (by simp[results,results276,go_sem]) rfl ⟨rfl,rfl⟩
theorem Tn(r:Rd.bL)(w:U7):
  Va prog 277 #[ik r] w fun e w'=>e=.returned (.func (.func 293) #[] #[.pointer (U4 ⟨w.heap.size,0,U3⟩)])/\w'=w.alloc (bN r):=by
 unfold ik
 go_in
 go_wp2_with fail
 exact bodyPost_ret (v:=.func (.func 293) #[] #[.pointer (U4 ⟨w.heap.size,0,U3⟩)]) (by simp[results,results277,go_sem]) rfl ⟨rfl,rfl⟩
def iB(r:Rd.bL):UY:=if r.pc=2 then 292 else if r.pc=3 then 293 else 296
theorem IZ(r:Rd.bL)(w:U7):
  Va prog 249 #[ik r] w fun e w'=>e=.returned (.func (.func (iB r)) #[] #[.pointer (U4 ⟨w.heap.size+1,0,U3⟩)])/\w'=(w.alloc (bN r)).alloc (bN r):=by
 have A:=aC (Sx r (w.alloc (bN r)));have C:=aC (Tn r (w.alloc (bN r)));have D:=aC (Qv r (w.alloc (bN r)));have a:=Zh w (bN r);have E:(w.alloc (bN r)).heap.size=w.heap.size+1:=UJ
 have P:=tG a;have O:=oH a;have N:=tH a;have M:=tJ a;have K:=tK a;have J:=tL a;have I:=tM a;have H:=tN a;have G:=tO a;have F:=pN a;have t:=vF a;have q:=vG a;have o:=vH a;have j:=vI a;rw[E] at A C D;clear a E;unfold ik at *;obtain⟨X,z⟩:∃ X,X=w.alloc (bN r):=⟨_,rfl⟩;rw[<- z] at A C D P O N M K J I H G F t q o j;have g:=aC z;clear z
 by_cases f:r.pc=2
 ·have R:(r.pc==2)=U6:=by simpa using f
  have c:iB r=292:=by unfold iB;rw[U1 f]
  rw[c];clear c f
  go_in
  go_upto_region 1 with fail
  change YS _ _ _ _ (w.alloc (bN r));rw[<- g.y]
  go_wp2_with (first
   |(go_at_call 276;refine A.y.mono ?_;rintro e w1 ⟨rfl,rfl⟩))
  exact bodyPost_ret (v:=.func (.func 292) #[] #[.pointer (U4 ⟨w.heap.size+1,0,U3⟩)]) (by simp[results,results249,go_sem]) rfl ⟨rfl,by rw[g.y]⟩
 ·have R:(r.pc==2)=U5:=by simpa using f
  by_cases h:r.pc=3
  ·have y:(r.pc==3)=U6:=by simpa using h
   have c:iB r=293:=by unfold iB;rw[U0 f,U1 h]
   rw[c];clear c h
   go_in
   go_upto_region 1 with fail
   change YS _ _ _ _ (w.alloc (bN r));rw[<- g.y]
   go_wp2_with (first
    |(go_at_call 277;refine C.y.mono ?_;rintro e w1 ⟨rfl,rfl⟩))
   exact bodyPost_ret (v:=.func (.func 293) #[] #[.pointer (U4 ⟨w.heap.size+1,0,U3⟩)]) (by simp[results,results249,go_sem]) rfl ⟨rfl,by rw[g.y]⟩
  ·have y:(r.pc==3)=U5:=by simpa using h
   have c:iB r=296:=by unfold iB;rw[U0 f,U0 h]
   rw[c];clear c
   go_in
   go_upto_region 1 with fail
   change YS _ _ _ _ (w.alloc (bN r));rw[<- g.y]
   go_wp2_with (first
    |(go_at_call 278;refine D.y.mono ?_;rintro e w1 ⟨rfl,rfl⟩))
   exact bodyPost_ret (v:=.func (.func 296) #[] #[.pointer (U4 ⟨w.heap.size+1,0,U3⟩)]) (by simp[results,results249,go_sem]) rfl ⟨rfl,by rw[g.y]⟩
theorem GB(n:UY)(o:1<=n)(Bn n₀:UY)(t:10<=n₀)(r:Rd.bL)(q:Rd.fw r)(w:U7)(E:Bn<w.heap.size)(D:n₀<=w.heap.size)(ht:gy w)(C:w.heap[Bn]?=U4 (bN r)):
  SeqStopsK Zg n prog (iB r) #[.pointer (U4 ⟨Bn,0,U3⟩)] (fun x:UZ=>#[VT .i64 x]) (RK n₀ Bn) (fun ys=>ys=Rd.seq r) (fun pre=>pre <+: Rd.seq r) (Rd.seq r).length w:=by
 intro l J z W A _ _ c y;have a:W.heap[Bn]?=U4 (bN r):=(A.block Bn E).trans C;have j:gy W:=pR ht A UI
 by_cases f:r.pc=2
 ·have g:iB r=292:=by unfold iB;rw[U1 f]
  have es:Rd.seq r=Rd.iw r.acc r.fr r.ev 800 (r.fr-r.fr % 7):=by unfold Rd.seq;rw[U1 f]
  rw[es] at c ⊢;rw[g];exact Sw Zg n trivial rfl o l Bn n₀ r q J z c W a y
 ·by_cases h:r.pc=3
  ·have g:iB r=293:=by unfold iB;rw[U0 f,U1 h]
   have es:Rd.seq r=Rd.iH (Cal.dT r.fr) r.ev 100 (Cal.yT r.fr) (Cal.mT r.fr):=by unfold Rd.seq;rw[U0 f,U1 h]
   rw[es] at c ⊢;rw[g];exact Tm n o l Bn n₀ t r q J z c W j a y
  ·have g:iB r=296:=by unfold iB;rw[U0 f,U0 h]
   have es:Rd.seq r=Rd.iG r.ev 800 r.fr:=by unfold Rd.seq;rw[U0 f,U0 h]
   rw[es] at c ⊢;rw[g];exact Qu Zg n trivial rfl o l Bn n₀ r q J z c W a y
attribute [local go_sem] Y5
structure FD(w W:U7)(r:Rd.bL)(la mo:UZ)(pre:UV UZ):Prop where
 l:Boxed W (w.heap.size+1) 3 (.int .i64 la)
 m:Boxed W (w.heap.size+2) 3 (.int .i64 mo)
 d:∃ v,Boxed W (w.heap.size+3) 38 v/\W.ownsRow (w.heap.size+6) 3 1 v pre.length (pre.map (VT .i64))
 ru:W.heap[w.heap.size+5]?=U4 (bN r)
 bl:U9 w.heap.size w W
 sz:w.heap.size+6<=W.heap.size
 le:∀ x∈pre,x<=la
 ml:(pre.length:UZ)<=mo
theorem xS{row:UW UY}{t:TypeId}(h:Boxed W B t v)(f:W.grownBy W' row)(c:∀ r,row=U4 r->∃ o:Obj,W.heap[r]?=U4 o/\o.isCells=U5):Boxed W' B t v :=
 h.kept f (fun e=>by
  obtain⟨o,a,g⟩:=c B e.symm
  rw[show W.heap[B]?=_ from h] at a;cases a;cases g)
theorem xu(w:U7)(r:Rd.bL)(la mo:UZ)(z:w.heap.size<=B):OwnFrom B (fun pre W=>FD w W r la mo pre):=by
 intro pre W W' row h f a;have j:∀ r,row=U4 r->∃ o:Obj,W.heap[r]?=U4 o/\o.isCells=U5:=fun r e=>(a r e).2
 obtain⟨v,y,c⟩:=h.d;refine⟨xS h.l f j,xS h.m f j,⟨v,xS y f j,c.kept f ?_⟩,(f.block _ (by have:=h.sz;omega) (fun e=>?_)).trans h.ru,h.bl.grown f h.bl.size (fun k e=>Vg z (a k e).1),Vg h.sz f.size,h.le,h.ml⟩
 ·rcases c.2 with ⟨rfl,_⟩|⟨g,cap,C,rfl,_,q,_⟩
  ·exact .inl rfl
  ·refine .inr fun A=>?_
   obtain⟨o,c,t⟩:=j g (by simpa[Wr] using A.symm);rw[q] at c;cases c;cases t
 ·obtain⟨o,c,t⟩:=j _ e.symm;rw[h.ru] at c;cases c;cases t
theorem FP{r:Rd.bL}{pre:UV UZ}(h:FD w W r la mo pre)(M:Boxed W (w.heap.size+3) 38 v)(G:W.ownsRow (w.heap.size+6) 3 1 v pre.length (pre.map (VT .i64))){a:Obj}(c:w1.ownsRow (w.heap.size+6) 3 1 v' (pre.length+1) (pre.map (VT .i64)++[.int .i64 x]))(C:(W.alloc a).grownBy w1 v.ownBlock)(O:x<=la)(R:(pre.length:UZ)+1<=mo):
  Boxed w1 (w.heap.size+3) 38 v/\KeepsFrom (w.heap.size+6) W (w1.setCell ⟨w.heap.size+3,0,U3⟩ v')/\RK w.heap.size (w.heap.size+5) W (w1.setCell ⟨w.heap.size+3,0,U3⟩ v')/\FD w (w1.setCell ⟨w.heap.size+3,0,U3⟩ v') r la mo (pre++[x]):=by
 have P:=h.sz;have F:∀ b,v.ownBlock=U4 b->w.heap.size+6<=b:=fun b f=>(G.lt b f).1
 have D:∀ b,v'.ownBlock=U4 b->w.heap.size+6<=b:=fun b f=>(c.lt b f).1
 have q:∀ b,b<w.heap.size+6->w1.heap[b]?=W.heap[b]?:=fun b f =>
  (C.block b UQ (fun e=>by have:=F b e.symm;omega)).trans (Below.heap_alloc W a b UI)
 have A:∀ b,b≠w.heap.size+3->(w1.setCell ⟨w.heap.size+3,0,U3⟩ v').heap[b]?=w1.heap[b]?:=fun b f=>Below.heap_setCell _ _ _ b f
 have z:Boxed w1 (w.heap.size+3) 38 v:=(q _ UI).trans M;have K:W.heap.size<=w1.heap.size:=by have:=C.size;simp at this;omega
 have J:U9 w.heap.size W (w1.setCell ⟨w.heap.size+3,0,U3⟩ v'):=(((zr _ W).alloc UI a).grown C UQ (fun j e=>by have:=F j e;omega)).setCell (p:=⟨w.heap.size+3,0,U3⟩) (by show w.heap.size<=w.heap.size+3;omega) v';refine⟨z,?_,⟨J,(A _ UI).trans (q _ UI)⟩,⟨((A _ UI).trans (q _ UI)).trans h.l,((A _ UI).trans (q _ UI)).trans h.m,⟨v',z.set v',?_⟩,((A _ UI).trans (q _ UI)).trans h.ru,h.bl.trans J,?_,?_,?_⟩⟩
 ·refine (((KeepsOthers.alloc W a).trans (KeepsOthers.of_grownBy C fun j o I H=>?_)).trans (KeepsOthers.setCell _ _ _)).from _
  rcases (G.alloc a).2 with ⟨rfl,_⟩|⟨g,cap,N,rfl,_,E,_⟩
  ·simp[Wr] at I
  ·obtain rfl:g=j:=by simpa[Wr] using I
   rw[E] at H;cases H;rfl
 ·have:=c.kept (grownBy_setCell' w1 (w.heap.size+3) v') (.inr (fun e=>by have:=D _ e;omega))
  simpa using this
 ·have:=(grownBy_setCell' w1 (w.heap.size+3) v').size;omega
 ·intro y t;rcases Vr.1 t with t|t
  ·exact h.le y t
  ·simp at t;omega
 ·simp;omega
structure yH(w Y:U7)(r:Rd.bL)(la mo:UZ):Prop where
 ru:Y.heap[w.heap.size]?=U4 (bN r)
 l:Boxed Y (w.heap.size+1) 3 (.int .i64 la)
 m:Boxed Y (w.heap.size+2) 3 (.int .i64 mo)
 d:Boxed Y (w.heap.size+3) 38 (.slice U3 0 0)
 bl:U9 w.heap.size w Y
 sz:Y.heap.size=w.heap.size+4
theorem Dq(w:U7)(r:Rd.bL)(la mo:UZ):yH w ((((w.alloc (bN r)).alloc (.cells #[.int .i64 la] 3)).alloc (.cells #[.int .i64 mo] 3)).alloc (.cells #[.slice U3 0 0] 38)) r la mo:=by
 have g:=Zh w (bN r);have f:=Zi (w.alloc (bN r)) 3 (.int .i64 la);have c:=Zi ((w.alloc (bN r)).alloc (.cells #[.int .i64 la] 3)) 3 (.int .i64 mo);have a:=Zi (((w.alloc (bN r)).alloc (.cells #[.int .i64 la] 3)).alloc (.cells #[.int .i64 mo] 3)) 38 (.slice U3 0 0);simp only[Zj] at f c a;have k:∀ (W:U7) (o:Obj) (b:UY) (x:Obj),W.heap[b]?=U4 x->(W.alloc o).heap[b]?=U4 x:=fun W o b x h=>(Below.heap_alloc W o b (YR.1 h).1).trans h
 exact⟨k _ _ _ _ (k _ _ _ _ (k _ _ _ _ g)),(f.alloc _).alloc _,c.alloc _,a,((((zr _ w).alloc (zq _) _).alloc UJ _).alloc UQ _).alloc UQ _,by simp⟩
theorem Nx(w:U7)(r:Rd.bL)(la mo:UZ):yH w (((((w.alloc (bN r)).alloc (.cells #[.int .i64 la] 3)).alloc (.cells #[.int .i64 mo] 3)).drew).alloc (.cells #[.slice U3 0 0] 38)) r la mo:=by
 obtain⟨j,h,g,f,c,a⟩:=Dq w r la mo;exact⟨j,h,g,f,c.drew,a⟩
theorem Gx{Y:U7}{r:Rd.bL}(f:Boxed Y (w.heap.size+1) 3 (.int .i64 la))(c:Boxed Y (w.heap.size+2) 3 (.int .i64 mo))(g:Boxed Y (w.heap.size+3) 38 (.slice U3 0 0))(h:U9 w.heap.size w Y)(a:Y.heap.size=w.heap.size+4)(j:0<=mo):FD w ((Y.alloc (bN r)).alloc (bN r)) r la mo []:=by
 have b:=Zh (Y.alloc (bN r)) (bN r);rw[Zj,a] at b;exact⟨(f.alloc _).alloc _,(c.alloc _).alloc _,⟨_,(g.alloc _).alloc _,Yl _ _ _ _⟩,b,(h.alloc UI _).alloc UQ _,by simp;omega,by simp,by simpa using j⟩
theorem RK.trans{A B C:U7}(h:RK n₀ Bn A B)(k:RK n₀ Bn B C):RK n₀ Bn A C:=⟨h.1.trans k.1,k.2.trans h.2⟩
theorem RK.put(c:n₀<=w.heap.size)(q:Bn<w.heap.size)(W:U7)(l:UY)(o a:Obj)(f:w.heap.size<=l)(h:W.heap[l]?=U4 o)(j:o.isCells=U5)(g:o.isWalk=U5):RK n₀ Bn W (W.putObj l a) :=
 ⟨belowK_b c W l o a f h j g,(grownBy_putObj' W l a).block Bn (by have:=(YR.1 h).1;omega) (fun e=>by cases e;omega)⟩
theorem Ha(r:Rd.bL)(a:Array U8)(w:U7):(callFunc (iB r) a).run prog w=.ok (.enter (iB r) a) w:=by
 unfold iB
 split
 ·exact enters_of func292 UO rfl a w
 ·split
  ·exact enters_of func293 UO rfl a w
  ·exact enters_of func296 UO rfl a w
theorem pC{size:UY}(h:w.ownsRow B e size v n xs):∃ a cap,v=.slice a n cap:=by
 rcases h.2 with ⟨rfl,c⟩|⟨g,cap,_,rfl,_⟩
 ·rw[c];exact⟨_,_,rfl⟩
 ·exact⟨_,_,rfl⟩
theorem vt{C size:UY}(h:w.ownsRow B e size v n xs)(c:C<=B):w.ownsRow C e size v n xs :=
 ⟨h.1,h.2.imp id (fun ⟨g,cap,a,o,j,f⟩=>⟨g,cap,a,o,Vg c j,f⟩)⟩
theorem sE{l:UV UZ}(h:∀ x∈l,p x=U6)(c:l.length<=k):(l.takeWhile p).take k=l:=by
 have e:l.takeWhile p=l:=by
  induction l with
  |nil=>rfl
  |cons a l ih=>rw[Zk,h a UJ,U1 rfl,ih (fun x f=>h x (by simp[f])) (by simp at c;omega)]
 rw[e,V7 c]
theorem Ig{pre rest:UV UZ}(h:∀ y∈pre,p y=U6)(c:pre.length<=k)(a:p x=U5\/pre.length=k):((pre++x :: rest).takeWhile p).take k=pre:=by
 have e:(pre++x :: rest).takeWhile p=pre++(x :: rest).takeWhile p:=List.takeWhile_append_of_pos h;rw[e];rcases a with a|a
 ·rw[Zk,a];simp[V7 c]
 ·rw[<- a,List.take_left]
def sV(r:Rd.bL):UZ:=if 0<r.ti then 727 else r.un
def sT(r:Rd.bL):UZ:=if 0<r.ti then r.ti else 41
theorem yw(r:Rd.bL):Rd.fG r=((Rd.seq r).takeWhile (fun d=>decide (d<=sV r))).take (sT r).toNat:=by
 unfold Rd.fG sV sT
 split
 ·rfl
 ·rfl
theorem TR(r:Rd.bL)(hf:Rd.fw r)(w:U7)(ht:gy w)(O:10<=w.heap.size):
  Va prog 199 #[ik r] w fun e w'=>∃ v,e=.returned v/\w'.ownsRow w.heap.size 3 1 v (Rd.fG r).length ((Rd.fG r).map (VT .i64))/\U9 w.heap.size w w':=by
 obtain⟨i0,ak,aj,ai,ag⟩:=info_parts pB;have t1:=hf.t1;refine (callsIn_wide (n:=3)).1 ?_;unfold ik;refine callsIn_of_wp_marks func199 rfl trivial ?_ rfl;simp only[ntmps199,Y6,VV,VZ,Y7,Y8,Y9,Za,Zb,Zc,Zd,VD];refine wpIn_wide.2 ?_
 by_cases N:0<r.ti
 ·have M:sV r=727/\sT r=r.ti:=by unfold sV sT;rw[U1 N,U1 N];exact⟨rfl,rfl⟩
  have HY:Hid (yH w (((((w.alloc (bN r)).alloc (.cells #[.int .i64 727] 3)).alloc (.cells #[.int .i64 r.ti] 3)).drew).alloc (.cells #[.slice U3 0 0] 38)) r 727 r.ti):=Nx w r 727 r.ti;have S:=aC M;clear M
  go_upto_region 4 with fail
  go_region
  go_upto_region 5 with fail
  change YS _ _ _ _ (((((w.alloc (bN r)).alloc (.cells #[.int .i64 727] 3)).alloc (.cells #[.int .i64 r.ti] 3)).drew).alloc (.cells #[.slice U3 0 0] 38));generalize ((((w.alloc (bN r)).alloc (.cells #[.int .i64 727] 3)).alloc (.cells #[.int .i64 r.ti] 3)).drew).alloc (.cells #[.slice U3 0 0] 38)=Y at HY ⊢;obtain⟨f,H,G,I,J,E⟩:=HY.y;have R:=aC (IZ r Y);have HZ:=aC (Gx (r:=r) H G I J E);have TZ:Hid (gy ((Y.alloc (bN r)).alloc (bN r))):=pR ht (HZ.y UI).bl O;rw[E] at R;unfold ik at R;have x0:=tG f;have x1:=oH f;have x2:=tH f;have x3:=tJ f;have x4:=tK f;have x5:=tL f;have x6:=tM f;have x7:=tN f;have x8:=tO f;have x9:=pN f;have X:=vF f;have V:=vG f;have U:=vH f;have T:=vI f;clear f H G I J HY
  go_wp2_with (first
   |(go_at_call 249;refine R.y.mono ?_;rintro e w1 ⟨rfl,rfl⟩))
  clear R x0 x1 x2 x3 x4 x5 x6 x7 x8 x9 X V U T;have ad:((Y.alloc (bN r)).alloc (bN r)).heap.size=w.heap.size+6:=by simp[E]
  generalize (Y.alloc (bN r)).alloc (bN r)=Z at HZ TZ ad ⊢;have hF:=HZ.y UI;have HS:=aC (GB 2 UI (w.heap.size+5) w.heap.size O r hf Z UI UI TZ.y hF.ru);refine (wpIn_wide (n:=3)).1 ?_
  refine wpIn_rangeFunc_ownG rfl UI (gf:=iB r) (lb:=#[.pointer (U4 ⟨w.heap.size+5,0,U3⟩)]) rfl trivial (Ha r) HS.y (fun h k=>RK.trans h k) (RK.put UI UI) (zr _ _) (fun _=>rfl)
   (fun pre W=>FD w W r 727 r.ti pre) (fun c o W=>c=.exit 0/\∃ pre x,o=pre++[x]/\FD w W r 727 r.ti pre/\(727<x\/(pre.length:UZ)=r.ti))
   (xu w r 727 r.ti UI) (fun c s A B row hs hg hr=>by obtain⟨e,pre,x,e2,h,h3⟩:=hs;exact⟨e,pre,x,e2,xu w r 727 r.ti UI pre A B row h hg hr,h3⟩) hF
   (fun x=>{ tmps:=#[.agg #[.int .i64 r.pc,.int .i64 r.ev,.bool (aI r.acc 0),.bool (aI r.acc 1),.bool (aI r.acc 2),.bool (aI r.acc 3),.bool (aI r.acc 4),.bool (aI r.acc 5),.bool (aI r.acc 6),.int .i64 r.fr,.int .i64 r.mn,.int .i64 r.mi,.int .i64 r.ti,.int .i64 r.un],.pointer (U4 ⟨w.heap.size,0,U3⟩),.slice U3 0 0,.pointer (U4 ⟨w.heap.size+1,0,U3⟩),.pointer (U4 ⟨w.heap.size+1+1,0,U3⟩),.pointer (U4 ⟨w.heap.size+1+1+1,0,U3⟩),.int .i64 x,.pointer (U4 ⟨w.heap.size,13,U3⟩),.int .i64 r.un,.pointer (U4 ⟨w.heap.size,12,U3⟩),.int .i64 r.ti,.bool U6,.pointer (U4 ⟨w.heap.size,12,U3⟩),.int .i64 r.ti,.agg #[.int .i64 r.pc,.int .i64 r.ev,.bool (aI r.acc 0),.bool (aI r.acc 1),.bool (aI r.acc 2),.bool (aI r.acc 3),.bool (aI r.acc 4),.bool (aI r.acc 5),.bool (aI r.acc 6),.int .i64 r.fr,.int .i64 r.mn,.int .i64 r.mi,.int .i64 r.ti,.int .i64 r.un],.func (.func (iB r)) #[] #[.pointer (U4 ⟨w.heap.size+5,0,U3⟩)],.int .i64 x,undef,undef,undef,undef,undef,undef,undef,undef,undef,undef,undef,undef,undef,undef],defers:=[] }) ?assign ?body ?done ?stop
  case assign =>
   intro l x W K j
   gi_wp2
   exact j
  case body =>
   rintro l pre x W h aq;obtain⟨v,q,a⟩:=h.d;have av:=h.l.cell;have au:=h.m.cell;have aw:=q.cell;have ao:=h.ml;have HI:=aC h;obtain⟨a0,t,rfl⟩:=pC a;have an:w.heap.size+6<=W.heap.size:=h.sz
   by_cases c1:727<x
   ·clear h a q
    gi_wp2
    exact⟨Zl _ _,rfl,pre,x,rfl,HI.y,.inl c1⟩
   ·by_cases P:(pre.length:UZ)=r.ti
    ·have af:((pre.length:UZ)==r.ti)=U6:=by simpa using P
     have C2:=aC P;clear h a q P
     gi_wp2
     exact⟨Zl _ _,rfl,pre,x,rfl,HI.y,.inr C2.y⟩
    ·have af:((pre.length:UZ)==r.ti)=U5:=by simpa using P
     clear h
     gi_wp2_with (first
      |(gi_at_builtin;refine wpListIn_append_own _ rfl _ _ 38 rfl (w.heap.size+6) 3 i0 (.int .i64 0) 1 8 underlying38 ak aj ai ag rfl UK _ _ _ rfl (a.alloc _) ⟨W.heap.size,0,U3⟩ 1 1 [.int .i64 x] rfl rfl (cell_one_new _ _ _) US UR UI UQ ?_;intro v' w1 g C _;obtain⟨g',al,rfl⟩:=ownsRow_succ g;obtain⟨F,ab,aa,ac⟩:=FP HI.y q a g C UI UI;have ax:=F.cell;have ar:=F.frozen))
     exact⟨ab,aa,ac⟩
  case done =>
   rintro D ys W hD rfl h j
   have ED:Hid (Rd.fG r=Rd.seq r):=by
    show Rd.fG r=Rd.seq r;have h0:=h.ml;rw[yw,S.y.1,S.y.2];exact sE (fun y hy=>by simpa using h.le y hy) UI
   obtain⟨v,q,a⟩:=h.d;have hc:=q.cell;have hb:=h.bl;obtain⟨a0,t,rfl⟩:=pC a;clear h
   go_wp2_with fail
   refine⟨by simp,.inl ⟨_,_,rfl,run_takeDeferred j,?_⟩⟩;refine⟨_,results_tmp rfl _ _ _,_,rfl,?_,hb.trans (belowK_b (w:=w) (zq _) W D _ _ UI j rfl rfl)⟩;rw[ED.y];exact ownsRow_putObj (vt a UI) _ j rfl
  case stop =>
   rintro D c o W hD ae ⟨rfl,pre,x,rfl,h,hx⟩ j
   have ED:Hid (Rd.fG r=pre):=by
    obtain⟨rest,z⟩:=ae;show Rd.fG r=pre;have h0:=h.ml;rw[yw,S.y.1,S.y.2,<- z,VP];exact Ig (fun y hy=>by simpa using h.le y hy) UI (hx.imp (fun e=>by simpa using e) (fun e=>by omega))
   obtain⟨v,q,a⟩:=h.d;have hc:=q.cell;have hb:=h.bl;obtain⟨a0,t,rfl⟩:=pC a;clear h;refine wpIn_wide.2 ?_
   go_wp2_with fail
   refine⟨by simp,.inl ⟨_,_,rfl,run_takeDeferred j,?_⟩⟩;refine⟨_,results_tmp rfl _ _ _,_,rfl,?_,hb.trans (belowK_b (w:=w) (zq _) W D _ _ UI j rfl rfl)⟩;rw[ED.y];exact ownsRow_putObj (vt a UI) _ j rfl
 ·have M:sV r=r.un/\sT r=41:=by unfold sV sT;rw[U0 N,U0 N];exact⟨rfl,rfl⟩
  have HY:Hid (yH w ((((w.alloc (bN r)).alloc (.cells #[.int .i64 r.un] 3)).alloc (.cells #[.int .i64 41] 3)).alloc (.cells #[.slice U3 0 0] 38)) r r.un 41):=Dq w r r.un 41;have S:=aC M;clear M
  go_upto_region 5 with fail
  change YS _ _ _ _ ((((w.alloc (bN r)).alloc (.cells #[.int .i64 r.un] 3)).alloc (.cells #[.int .i64 41] 3)).alloc (.cells #[.slice U3 0 0] 38));generalize (((w.alloc (bN r)).alloc (.cells #[.int .i64 r.un] 3)).alloc (.cells #[.int .i64 41] 3)).alloc (.cells #[.slice U3 0 0] 38)=Y at HY ⊢;obtain⟨f,H,G,I,J,E⟩:=HY.y;have R:=aC (IZ r Y);have HZ:=aC (Gx (r:=r) H G I J E);have TZ:Hid (gy ((Y.alloc (bN r)).alloc (bN r))):=pR ht (HZ.y UI).bl O;rw[E] at R;unfold ik at R;have x0:=tG f;have x1:=oH f;have x2:=tH f;have x3:=tJ f;have x4:=tK f;have x5:=tL f;have x6:=tM f;have x7:=tN f;have x8:=tO f;have x9:=pN f;have X:=vF f;have V:=vG f;have U:=vH f;have T:=vI f;clear f H G I J HY
  go_wp2_with (first
   |(go_at_call 249;refine R.y.mono ?_;rintro e w1 ⟨rfl,rfl⟩))
  clear R x0 x1 x2 x3 x4 x5 x6 x7 x8 x9 X V U T;have ad:((Y.alloc (bN r)).alloc (bN r)).heap.size=w.heap.size+6:=by simp[E]
  generalize (Y.alloc (bN r)).alloc (bN r)=Z at HZ TZ ad ⊢;have hF:=HZ.y UI;have HS:=aC (GB 2 UI (w.heap.size+5) w.heap.size O r hf Z UI UI TZ.y hF.ru);refine (wpIn_wide (n:=3)).1 ?_
  refine wpIn_rangeFunc_ownG rfl UI (gf:=iB r) (lb:=#[.pointer (U4 ⟨w.heap.size+5,0,U3⟩)]) rfl trivial (Ha r) HS.y (fun h k=>RK.trans h k) (RK.put UI UI) (zr _ _) (fun _=>rfl)
   (fun pre W=>FD w W r r.un 41 pre) (fun c o W=>c=.exit 0/\∃ pre x,o=pre++[x]/\FD w W r r.un 41 pre/\(r.un<x\/(pre.length:UZ)=41))
   (xu w r r.un 41 UI) (fun c s A B row hs hg hr=>by obtain⟨e,pre,x,e2,h,h3⟩:=hs;exact⟨e,pre,x,e2,xu w r r.un 41 UI pre A B row h hg hr,h3⟩) hF
   (fun x=>{ tmps:=#[.agg #[.int .i64 r.pc,.int .i64 r.ev,.bool (aI r.acc 0),.bool (aI r.acc 1),.bool (aI r.acc 2),.bool (aI r.acc 3),.bool (aI r.acc 4),.bool (aI r.acc 5),.bool (aI r.acc 6),.int .i64 r.fr,.int .i64 r.mn,.int .i64 r.mi,.int .i64 r.ti,.int .i64 r.un],.pointer (U4 ⟨w.heap.size,0,U3⟩),.slice U3 0 0,.pointer (U4 ⟨w.heap.size+1,0,U3⟩),.pointer (U4 ⟨w.heap.size+1+1,0,U3⟩),.pointer (U4 ⟨w.heap.size+1+1+1,0,U3⟩),.int .i64 x,.pointer (U4 ⟨w.heap.size,13,U3⟩),.int .i64 r.un,.pointer (U4 ⟨w.heap.size,12,U3⟩),.int .i64 r.ti,.bool U5,undef,undef,.agg #[.int .i64 r.pc,.int .i64 r.ev,.bool (aI r.acc 0),.bool (aI r.acc 1),.bool (aI r.acc 2),.bool (aI r.acc 3),.bool (aI r.acc 4),.bool (aI r.acc 5),.bool (aI r.acc 6),.int .i64 r.fr,.int .i64 r.mn,.int .i64 r.mi,.int .i64 r.ti,.int .i64 r.un],.func (.func (iB r)) #[] #[.pointer (U4 ⟨w.heap.size+5,0,U3⟩)],.int .i64 x,undef,undef,undef,undef,undef,undef,undef,undef,undef,undef,undef,undef,undef,undef],defers:=[] }) ?assign ?body ?done ?stop
  case assign =>
   intro l x W K j
   gi_wp2
   exact j
  case body =>
   rintro l pre x W h aq;obtain⟨v,q,a⟩:=h.d;have av:=h.l.cell;have au:=h.m.cell;have aw:=q.cell;have ao:=h.ml;have HI:=aC h;obtain⟨a0,t,rfl⟩:=pC a;have an:w.heap.size+6<=W.heap.size:=h.sz
   by_cases c1:r.un<x
   ·clear h a q
    gi_wp2
    exact⟨Zl _ _,rfl,pre,x,rfl,HI.y,.inl c1⟩
   ·by_cases P:(pre.length:UZ)=41
    ·have af:((pre.length:UZ)==41)=U6:=by simpa using P
     have C2:=aC P;clear h a q P
     gi_wp2
     exact⟨Zl _ _,rfl,pre,x,rfl,HI.y,.inr C2.y⟩
    ·have af:((pre.length:UZ)==41)=U5:=by simpa using P
     clear h
     gi_wp2_with (first
      |(gi_at_builtin;refine wpListIn_append_own _ rfl _ _ 38 rfl (w.heap.size+6) 3 i0 (.int .i64 0) 1 8 underlying38 ak aj ai ag rfl UK _ _ _ rfl (a.alloc _) ⟨W.heap.size,0,U3⟩ 1 1 [.int .i64 x] rfl rfl (cell_one_new _ _ _) US UR UI UQ ?_;intro v' w1 g C _;obtain⟨g',al,rfl⟩:=ownsRow_succ g;obtain⟨F,ab,aa,ac⟩:=FP HI.y q a g C UI UI;have ax:=F.cell;have ar:=F.frozen))
     exact⟨ab,aa,ac⟩
  case done =>
   rintro D ys W hD rfl h j
   have ED:Hid (Rd.fG r=Rd.seq r):=by
    show Rd.fG r=Rd.seq r;have h0:=h.ml;rw[yw,S.y.1,S.y.2];exact sE (fun y hy=>by simpa using h.le y hy) UI
   obtain⟨v,q,a⟩:=h.d;have hc:=q.cell;have hb:=h.bl;obtain⟨a0,t,rfl⟩:=pC a;clear h
   go_wp2_with fail
   refine⟨by simp,.inl ⟨_,_,rfl,run_takeDeferred j,?_⟩⟩;refine⟨_,results_tmp rfl _ _ _,_,rfl,?_,hb.trans (belowK_b (w:=w) (zq _) W D _ _ UI j rfl rfl)⟩;rw[ED.y];exact ownsRow_putObj (vt a UI) _ j rfl
  case stop =>
   rintro D c o W hD ae ⟨rfl,pre,x,rfl,h,hx⟩ j
   have ED:Hid (Rd.fG r=pre):=by
    obtain⟨rest,z⟩:=ae;show Rd.fG r=pre;have h0:=h.ml;rw[yw,S.y.1,S.y.2,<- z,VP];exact Ig (fun y hy=>by simpa using h.le y hy) UI (hx.imp (fun e=>by simpa using e) (fun e=>by omega))
   obtain⟨v,q,a⟩:=h.d;have hc:=q.cell;have hb:=h.bl;obtain⟨a0,t,rfl⟩:=pC a;clear h;refine wpIn_wide.2 ?_
   go_wp2_with fail
   refine⟨by simp,.inl ⟨_,_,rfl,run_takeDeferred j,?_⟩⟩;refine⟨_,results_tmp rfl _ _ _,_,rfl,?_,hb.trans (belowK_b (w:=w) (zq _) W D _ _ UI j rfl rfl)⟩;rw[ED.y];exact ownsRow_putObj (vt a UI) _ j rfl
def eJ(r:Rd.bL):UV UZ:=if Rd.fg r=0 then Rd.fG r else []
theorem Ua{r:Rd.bL}(h:Rd.fw r)(a:x∈Rd.fG r):0<=x/\x<728:=by
 have c:=h.f0;rw[Rd.Hr h] at a
 split at a
 ·have:=Rd.sF h a;omega
 ·have:=Rd.sF h (List.mem_of_mem_take a);omega
theorem P3{l:UV UZ}(h:l≠[]):l[l.length-1]?=U4 (l.getLastD 0):=by
 rw[<- List.getLast?_eq_getElem?,Zm h,Zn,Zm h];rfl
theorem Pj(r:Rd.bL)(h:Rd.fw r):(Rd.fG r).length<=99:=by
 have:=h.t1;unfold Rd.fG
 split
 ·rw[Yb];omega
 ·rw[Yb];omega
theorem Od{size:UY}(h:w.ownsRow B e size v n xs)(k:U9 w.heap.size w w'):w'.ownsRow B e size v n xs:=by
 refine⟨h.1,h.2.imp id (fun ⟨g,cap,a,o,j,c,f⟩=>⟨g,cap,a,o,j,(k.block g (YR.1 c).1).trans c,f⟩)⟩
theorem F0{size:UY}(h:w.ownsRow B e size v n xs):w.drew.ownsRow B e size v n xs:=⟨h.1,h.2⟩
theorem Gc(r:Rd.bL)(Y:Rd.fw r)(w:U7)(ht:gy w)(ab:10<=w.heap.size):
  Va prog 147 #[ik r] w fun e w'=>∃ v,e=.returned (.tuple #[v,.int .i64 (Rd.fg r)])/\w'.ownsRow w.heap.size 3 1 v (eJ r).length ((eJ r).map (VT .i64))/\U9 w.heap.size w w':=by
 have hX:U9 w.heap.size w (w.alloc (bN r)):=(zr _ _).alloc (zq _) _;have f:=Zh w (bN r);have hs:(w.alloc (bN r)).heap.size=w.heap.size+1:=UJ
 have FI:=aC (TR r Y (w.alloc (bN r)) (pR ht hX ab) (by rw[hs];omega));have x0:=tG f;have x1:=oH f;have x2:=tH f;have x3:=tJ f;have x4:=tK f;have x5:=tL f;have x6:=tM f;have x7:=tN f;have x8:=tO f;have x9:=pN f;have V:=vF f;have U:=vG f;have T:=vH f;have S:=vI f;have HX:=aC (zA hX (zA hs f));have ae:=Pj r Y;have HF:=aC Y;have C:Hid (Rd.fg r=if 40<r.ti then 11 else if 40<(Rd.fG r).length then 11 else if Rd.fG r=[]\/((Rd.fG r).length:UZ)<r.ti then 6 else if Rd.lS r ((Rd.fG r).getLastD 0) then 6 else 0):=rfl;have E:Hid (eJ r=if Rd.fg r=0 then Rd.fG r else []):=rfl;have t1:=Y.t1;clear hX f hs ht Y;unfold ik at *
 by_cases c1:40<r.ti
 ·have c:Rd.fg r=11:=by rw[C.y,U1 c1]
  have o:eJ r=[]:=by rw[E.y,c];simp
  rw[c,o];clear FI C E c o
  go_in
  go_upto_region 1 with fail
  change YS _ _ _ _ (w.alloc (bN r));generalize w.alloc (bN r)=X at *
  go_wp2_with fail
  exact bodyPost_ret (v:=.tuple #[.slice U3 0 0,.int .i64 11]) (by simp[results,results147,go_sem]) rfl ⟨_,rfl,Yl _ _ _ _,HX.y.1⟩
 ·rw[U0 c1] at C
  go_in
  go_upto_region 1 with fail
  change YS _ _ _ _ (w.alloc (bN r));generalize w.alloc (bN r)=X at *
  go_upto_region 4 with (first
   |(go_at_call 199;refine FI.y.mono ?_;rintro e w1 ⟨v,rfl,own,g⟩))
  obtain⟨a,cap,rfl⟩:=pC own;have F:Hid (U9 w.heap.size w w1):=HX.y.1.trans (g.mono (by rw[HX.y.2.1];omega));have OW:Hid (w1.ownsRow w.heap.size 3 1 (.slice a (Rd.fG r).length cap) (Rd.fG r).length ((Rd.fG r).map (VT .i64))):=vt own (by rw[HX.y.2.1];omega);have MB:Hid (∀ x∈Rd.fG r,0<=x/\x<728):=fun x hx=>Ua HF.y hx
  have R:=aN g x0;have P:=aN g x1;have O:=aN g x2;have N:=aN g x3;have M:=aN g x4;have K:=aN g x5;have J:=aN g x6;have I:=aN g x7;have H:=aN g x8;have G:=aN g x9;have y:=aN g V;have t:=aN g U;have D:=aN g T;have q:=aN g S;clear FI x0 x1 x2 x3 x4 x5 x6 x7 x8 x9 V U T S own g HX;generalize Rd.fG r=L at *
  by_cases A:40<L.length
  ·have c:Hid (Rd.fg r=11):=by show Rd.fg r=11;rw[C.y,U1 A]
   have o:Hid (eJ r=[]):=by show eJ r=[];rw[E.y,c.y];simp
   have ad:(40:UZ)<(L.length:UZ):=UI
   clear R P O N M K J I H G y t D q A
   go_wp2_with fail
   exact bodyPost_ret (v:=.tuple #[.slice U3 0 0,.int .i64 11]) (by simp[results,results147,go_sem]) rfl ⟨_,by rw[c.y],by rw[o.y];exact Yl _ _ _ _,F.y⟩
  ·have ad:¬ (40:UZ)<(L.length:UZ):=UI
   by_cases z:L=[]
   ·have c:Hid (Rd.fg r=6):=by show Rd.fg r=6;rw[C.y,U0 A,U1 (.inl z)]
    have o:Hid (eJ r=[]):=by show eJ r=[];rw[E.y,c.y];simp
    have ac:((L.length:UZ)==0)=U6:=by rw[z];rfl
    clear R P O N M K J I H G y t q z A
    go_wp2_with fail
    exact bodyPost_ret (v:=.tuple #[.slice U3 0 0,.int .i64 6]) (by simp[results,results147,go_sem]) rfl ⟨_,by rw[c.y],by rw[o.y];exact Yl _ _ _ _,F.y⟩
   ·have h0:0<L.length:=Zo.2 z;have ac:((L.length:UZ)==0)=U5:=by simp;omega
    by_cases c4:(L.length:UZ)<r.ti
    ·have c:Hid (Rd.fg r=6):=by show Rd.fg r=6;rw[C.y,U0 A,U1 (.inr c4)]
     have o:Hid (eJ r=[]):=by show eJ r=[];rw[E.y,c.y];simp
     clear R P O N M K J I H G y t q z A
     go_wp2_with fail
     exact bodyPost_ret (v:=.tuple #[.slice U3 0 0,.int .i64 6]) (by simp[results,results147,go_sem]) rfl ⟨_,by rw[c.y],by rw[o.y];exact Yl _ _ _ _,F.y⟩
    ·obtain⟨Hh,af,e0⟩:=Yc OW.y UI;simp only[Zp,true_and] at e0;obtain⟨rfl,rfl⟩:=e0;have a0:=OW.y.cellAt (L.length-1) UI;rw[Yd,P3 z,Ye] at a0;have hl:=MB.y (L.getLastD 0) (by rw[Zn,Zm z];exact List.getLast_mem z);have SO:=aC (Ir r HF.y (L.getLastD 0) hl.1 UI w1.drew);have aa:Hid (Rd.fg r=if Rd.lS r (L.getLastD 0) then 6 else 0):=by show Rd.fg r=_;rw[C.y,U0 A,U0 (by rintro (h|h) <;> contradiction)]
     have LB:Hid (Rd.lS r (L.getLastD 0)=decide (1048320<(jL r (L.getLastD 0)).2)):=rfl;have k1:IntKind.i64.wrap ((L.length:UZ)-1)=((L.length-1:UY):UZ):=by rw[show (L.length:UZ)-1=((L.length-1:UY):UZ) from by omega];exact cG UI UI
     have k2:((L.length-1:UY):UZ)<(L.length:UZ):=UI
     generalize (jL r (L.getLastD 0)).2=til at *;generalize (jL r (L.getLastD 0)).1=fro at *;generalize L.getLastD 0=ld at *;unfold ik at SO;clear z hl A MB C;have ag:∀ w:U7,(Instr.field 60 (.agg #[.int .i64 fro,.int .i64 til]) 1).run prog w=.ok (.int .i64 til) w:=fun _=>by kernel_rfl
     by_cases c5:1048320<til
     ·have c:Hid (Rd.fg r=6):=by show Rd.fg r=6;rw[aa.y,LB.y];simp[c5]
      have o:Hid (eJ r=[]):=by show eJ r=[];rw[E.y,c.y];simp
      go_upto_region 9 with fail
      go_region_with (first
       |(go_at_call 200;refine SO.y.mono ?_;rintro e w2 ⟨rfl,j⟩))
      all_goals
       have BF:Hid (U9 w.heap.size w w2):=F.y.drew.trans (j.mono F.y.size);clear j R P O N M K J I H G y t D q a0
       go_wp2_with fail
       exact bodyPost_ret (v:=.tuple #[.slice U3 0 0,.int .i64 6]) (by simp[results,results147,go_sem]) rfl ⟨_,by rw[c.y],by rw[o.y];exact Yl _ _ _ _,BF.y⟩
     ·have c:Hid (Rd.fg r=0):=by show Rd.fg r=0;rw[aa.y,LB.y];simp[c5]
      have o:Hid (eJ r=L):=by show eJ r=L;rw[E.y,c.y];simp
      go_upto_region 9 with fail
      go_region_with (first
       |(go_at_call 200;refine SO.y.mono ?_;rintro e w2 ⟨rfl,j⟩))
      all_goals
       have BF:Hid (U9 w.heap.size w w2/\w2.ownsRow w.heap.size 3 1 (.slice (U4 ⟨Hh,0,U3⟩) L.length cap) L.length (L.map (VT .i64))):=⟨F.y.drew.trans (j.mono F.y.size),Od (w:=w1.drew) (F0 OW.y) j⟩;clear j R P O N M K J I H G y t D q a0
       go_wp2_with fail
       exact bodyPost_ret (v:=.tuple #[.slice (U4 ⟨Hh,0,U3⟩) L.length cap,.int .i64 0]) (by simp[results,results147,go_sem]) rfl ⟨_,by rw[c.y],by rw[o.y];exact BF.y.2,BF.y.1⟩
open Go.RowKit
open aA (aM St dB kept dZ cS cN gC cA bW gJ ec gD n8 Inv)
theorem dS.pD(h:dS w d s r aJ)(k:U9 w.heap.size w Z)(y:w.heap.size<=Q){l:UV UZ}{t:U8}(own:Z.ownsRow (Q+1) 3 1 t l.length (l.map (VT .i64)))(n:UZ)(a b c e f g i:U8):
  dX w d aJ (s,⟨0,0,n,[],l,[],[]⟩) (bC 0 0 n (.slice U3 0 0) t (.slice U3 0 0) (.slice U3 0 0)) (cK Z Q a b c e f g i):=by
 have q:=lC Z Q a b c e f g i;have z:=h.dk.later k;have nq:∀ b,Q<=b->aJ b=U3:=fun b o=>h.dk.none UI
 have st:Step anyS w.heap.size aJ aJ Z (cK Z Q a b c e f g i):=⟨⟨_,q,fun x j=>.inr (by have:x=Q:=Yo.1 j;subst this;exact⟨nq _ (zq _),y⟩)⟩,fun _ _ h=>h,fun _ _ h=>.inl h⟩
 have rp:ku Z (Q+1) aJ (bC 0 0 n (.slice U3 0 0) t (.slice U3 0 0) (.slice U3 0 0)) ⟨0,0,n,[],l,[],[]⟩ :=
  ⟨_,_,_,_,[],rfl,rfl,gI.nil _ _ _,⟨own,fun b o=>nq b (by have:=(own.lt b o).1;omega)⟩,eE.nil _ _ _,eE.nil _ _ _,(fun b o=>by cases o),fun b _=>by simp[Wr]⟩
 exact⟨r,aJ,z.off q (fun x j=>by have:x=Q:=Yo.1 j;subst this;exact nq _ (zq _)),h.of,h.wl,h.hl,(Step.below k).trans st,(rp.off q (fun x j=>by have:x=Q:=Yo.1 j;omega)).base UI⟩
theorem Un{r:Rd.bL}(a:Rd.fw r)(h:Rd.fg r≠0):aA.aU s (.expand r)=(s,aA.bO.error (Rd.fg r)):=by
 have e:=(Rd.pJ a).1;simp only[aA.aU];rw[<- e,U1 h]
theorem SX{r:Rd.bL}(c:Rd.fw r)(h:Rd.fg r=0):aA.aU s (.expand r)=(s,⟨0,0,((eJ r).length:UZ),[],eJ r,[],[]⟩):=by
 obtain⟨a,j⟩:=Rd.pJ c;have g:=(j (by rw[<- a];exact h)).1;have f:eJ r=Rd.bH r:=by unfold eJ;rw[U1 h,g]
 simp only[aA.aU];rw[<- a,U0 UI,f];rfl
theorem QO(w:U7)(r:Rd.bL):let X:=((w.alloc (.cells #[.int .i64 r.pc,.int .i64 r.ev,.bool (aI r.acc 0),.bool (aI r.acc 1),.bool (aI r.acc 2),.bool (aI r.acc 3),.bool (aI r.acc 4),.bool (aI r.acc 5),.bool (aI r.acc 6),.int .i64 r.fr,.int .i64 r.mn,.int .i64 r.mi,.int .i64 r.ti,.int .i64 r.un] 180)).alloc aW);U9 w.heap.size w X/\X.heap[w.heap.size+1]?=U4 aW/\X.heap.size=w.heap.size+2/\X.heap[w.heap.size]?=U4 (.cells #[.int .i64 r.pc,.int .i64 r.ev,.bool (aI r.acc 0),.bool (aI r.acc 1),.bool (aI r.acc 2),.bool (aI r.acc 3),.bool (aI r.acc 4),.bool (aI r.acc 5),.bool (aI r.acc 6),.int .i64 r.fr,.int .i64 r.mn,.int .i64 r.mi,.int .i64 r.ti,.int .i64 r.un] 180 (0,0)):=by
 obtain⟨c,a⟩:=yz (w:=w) (.cells #[.int .i64 r.pc,.int .i64 r.ev,.bool (aI r.acc 0),.bool (aI r.acc 1),.bool (aI r.acc 2),.bool (aI r.acc 3),.bool (aI r.acc 4),.bool (aI r.acc 5),.bool (aI r.acc 6),.int .i64 r.fr,.int .i64 r.mn,.int .i64 r.mi,.int .i64 r.ti,.int .i64 r.un] 180);exact⟨c,a,by simp,(Below.heap_alloc _ _ _ UJ).trans (Zh w _)⟩
theorem Sf(h:dS w d s rw_ aJ)(ht:gy w)(T:10<=w.heap.size)(r:Rd.bL)(z:Rd.fw r):
  Va prog 102 #[.agg #[.int .i64 r.pc,.int .i64 r.ev,.bool (aI r.acc 0),.bool (aI r.acc 1),.bool (aI r.acc 2),.bool (aI r.acc 3),.bool (aI r.acc 4),.bool (aI r.acc 5),.bool (aI r.acc 6),.int .i64 r.fr,.int .i64 r.mn,.int .i64 r.mi,.int .i64 r.ti,.int .i64 r.un]] w fun e w'=>∃ v,e=.returned v/\dX w d aJ (aA.aU s (.expand r)) v w':=by
 obtain⟨S,y,o,j⟩:=QO w r;have DY:=aC (Gc r z ((w.alloc (.cells #[.int .i64 r.pc,.int .i64 r.ev,.bool (aI r.acc 0),.bool (aI r.acc 1),.bool (aI r.acc 2),.bool (aI r.acc 3),.bool (aI r.acc 4),.bool (aI r.acc 5),.bool (aI r.acc 6),.int .i64 r.fr,.int .i64 r.mn,.int .i64 r.mi,.int .i64 r.ti,.int .i64 r.un] 180)).alloc aW) (pR ht S T) (by rw[o];omega));have HE:=aC (Un (s:=s) z);have Y:=aC (SX (s:=s) z);have HH:=aC h;have t:=aC (zA S (zA y o));have x0:=aY j 0 rfl;have x1:=aY j 1 rfl;have x2:=aY j 2 rfl;have x3:=aY j 3 rfl;have x4:=aY j 4 rfl;have x5:=aY j 5 rfl;have x6:=aY j 6 rfl;have x7:=aY j 7 rfl;have x8:=aY j 8 rfl;have x9:=aY j 9 rfl;have F:=aY j 10 rfl;have E:=aY j 11 rfl;have D:=aY j 12 rfl;have C:=aY j 13 rfl;unfold ik at DY;clear h S y o j z ht
 go_in
 go_upto_region 1 with fail
 change YS _ _ _ _ ((w.alloc (.cells #[.int .i64 r.pc,.int .i64 r.ev,.bool (aI r.acc 0),.bool (aI r.acc 1),.bool (aI r.acc 2),.bool (aI r.acc 3),.bool (aI r.acc 4),.bool (aI r.acc 5),.bool (aI r.acc 6),.int .i64 r.fr,.int .i64 r.mn,.int .i64 r.mi,.int .i64 r.ti,.int .i64 r.un] 180)).alloc aW);generalize ((w.alloc (.cells #[.int .i64 r.pc,.int .i64 r.ev,.bool (aI r.acc 0),.bool (aI r.acc 1),.bool (aI r.acc 2),.bool (aI r.acc 3),.bool (aI r.acc 4),.bool (aI r.acc 5),.bool (aI r.acc 6),.int .i64 r.fr,.int .i64 r.mn,.int .i64 r.mi,.int .i64 r.ti,.int .i64 r.un] 180)).alloc aW)=X at *
 go_upto_region 2 with (first
  |(go_at_call 147;refine DY.y.mono ?_;rintro e w1 ⟨da,rfl,own,R⟩))
 obtain⟨a1,cap,rfl⟩:=pC own;have BX:Hid (U9 w.heap.size w w1):=t.y.1.trans (R.mono t.y.1.size);have QX:Hid (Q7 w1 (w.heap.size+1)):=(Q7.of t.y.2.1).later (R.block _ (by rw[t.y.2.2];omega));have V:Hid (w1.ownsRow (w.heap.size+1+1) 3 1 (.slice a1 (eJ r).length cap) (eJ r).length ((eJ r).map (VT .i64))):=by have:=own;rw[t.y.2.2] at this;exact this
 clear DY x0 x1 x2 x3 x4 x5 x6 x7 x8 x9 F E D C own R t
 by_cases q:Rd.fg r=0
 ·have A:=aC (Y.y q);have P:(Rd.fg r != 0)=U5:=by simpa using q
  have AF:Hid (∀ a b c e f g i,dX w d aJ (aA.aU s (.expand r)) (bC 0 0 ((eJ r).length:UZ) (.slice U3 0 0) (.slice a1 (eJ r).length cap) (.slice U3 0 0) (.slice U3 0 0)) (cK w1 (w.heap.size+1) a b c e f g i)):=fun a b c e f g i=>by rw[A.y];exact HH.y.pD BX.y UI V.y _ a b c e f g i
  clear HE Y A V;generalize (eJ r).length=nn at *;generalize Rd.fg r=er at *;subst q;obtain⟨N,M,K,J,I,H,G,U⟩:=QX.y
  go_wp2_with fail
  exact cO results102 ⟨N,M,K,J,I,H,G,U⟩ ⟨_,rfl,AF.y _ _ _ _ _ _ _⟩
 ·have A:=aC (HE.y q);have P:(Rd.fg r != 0)=U6:=by simpa using q
  clear HE Y V q;generalize Rd.fg r=er at *
  go_wp2_with fail
  refine (lF er w1).mono ?_;rintro e w2 ⟨rfl,O⟩;have HF:=aC (HH.y.refuse BX.y QX.y O A.y);obtain⟨N,M,K,J,I,H,G,U⟩:=HF.y.1;simp only[bC]
  go_wp2_with fail
  exact cO results102 ⟨N,M,K,J,I,H,G,U⟩ ⟨_,rfl,HF.y.2⟩
theorem TN(h:dS w d s rw_ aJ)(ht:gy w)(D:10<=w.heap.size)(r:Rd.bL)(F:Rd.fw r):
  Va prog 64 #[.pointer (U4 ⟨d,0,U3⟩),.iface 180 (.agg #[.int .i64 r.pc,.int .i64 r.ev,.bool (aI r.acc 0),.bool (aI r.acc 1),.bool (aI r.acc 2),.bool (aI r.acc 3),.bool (aI r.acc 4),.bool (aI r.acc 5),.bool (aI r.acc 6),.int .i64 r.fr,.int .i64 r.mn,.int .i64 r.mi,.int .i64 r.ti,.int .i64 r.un])] w fun e w'=>∃ v,e=.returned v/\dX w d aJ (aA.aU s (.expand r)) v w':=by
 have E:=aC (h.pX (.cells #[.int .i64 r.pc,.int .i64 r.ev,.bool (aI r.acc 0),.bool (aI r.acc 1),.bool (aI r.acc 2),.bool (aI r.acc 3),.bool (aI r.acc 4),.bool (aI r.acc 5),.bool (aI r.acc 6),.int .i64 r.fr,.int .i64 r.mn,.int .i64 r.mi,.int .i64 r.ti,.int .i64 r.un] 180));have G:=aC (Sf E.y.1 (pR ht E.y.2.1 D) (Vg D E.y.2.1.size) r F);clear h;unfold aW at G E;have o:=qq 180 UK;have C:=rV 180 UK;have z:=rW 180 UK;have q:=rU 180 UK;have g:=te 180 UK;have f:=td 180 UK;have j:=uV 180 UK;have y:=wO 180 UK;have c:=wW 180 UK;have t:=zU 180 UK;have A:=Ec 180 UK;have a:=pe underlying180
 go_in
 go_wp2_with fail
 refine G.y.mono ?_;rintro e w2 ⟨v,rfl,H⟩;obtain⟨er,at_,U,a1,a2,a3,a4,n1,Y,X,V,c1,c2,c3,c4,rfl,I,F⟩:=H.pT E.y.2;have T:=aC F;clear H F G o C z q g f j y c t A a;obtain⟨R,P,O,N,M,K,J,S⟩:=I;simp only[bC]
 go_wp2_with fail
 exact cO results64 ⟨R,P,O,N,M,K,J,S⟩ ⟨_,rfl,T.y⟩
theorem Fo:∀ (L:UV (UZ × UZ))(j:UY)(u:U8),(L.flatMap fC)[j]?=U4 u->∃ (i:UY)(h:i<L.length),(j=i*2/\u=.int .i64 L[i].1)\/(j=i*2+1/\u=.int .i64 L[i].2)
 |[],j,u,h=>by simp at h
 |p :: L,0,u,h=>by
  refine⟨0,by simp,.inl ⟨rfl,?_⟩⟩;simp[fC] at h;exact h.symm
 |p :: L,1,u,h=>by
  refine⟨0,by simp,.inr ⟨rfl,?_⟩⟩;simp[fC] at h;exact h.symm
 |p :: L,j+2,u,h=>by
  have c:(L.flatMap fC)[j]?=U4 u:=by simpa[fC] using h
  obtain⟨i,g,e⟩:=Fo L j u c;refine⟨i+1,by simp;omega,?_⟩;rcases e with ⟨f,a⟩|⟨f,a⟩
  ·exact .inl ⟨by omega,by simpa using a⟩
  ·exact .inr ⟨by omega,by simpa using a⟩
theorem Iz(L:UV (UZ × UZ)):(L.flatMap fC).length=L.length*2:=by
 induction L with
 |nil=>rfl
 |cons p L ih=>simp[fC,ih];omega
theorem Sh(L:UV (UZ × UZ)):∀ u∈L.flatMap fC,u.oneCell'=U6:=by
 intro u c;obtain⟨p,_,a⟩:=List.mem_flatMap.1 c;simp[fC] at a;rcases a with rfl|rfl <;> rfl
theorem Tr(w:U7)(B cap:UY)(L:UV (UZ × UZ))(A:SL w B L)(J:L.length<=100):
  Va prog 210 #[.slice (U4 ⟨B,0,U3⟩) L.length cap] w fun e w'=>∃ v,e=.returned v/\w'.ownsRow w.heap.size 60 2 v L.length (L.flatMap fC)/\U9 w.heap.size w w':=by
 obtain⟨G,y,t,q,o⟩:=info_parts uZ;have F:∀ (w:U7) (a:UW Addr) (n c h z:UY),(binOp .eql 56 (.slice a n c) (.slice U3 h z)).run prog w=.ok (.bool a.isNone) w:=fun w a n c h z=>Lib.run_eql_slice_nil w _ _ a n c h z underlying56
 have E:=aC A;clear A
 go_in
 go_wp2_with (at_builtin;refine wpList_append_own _ rfl _ _ 56 rfl w.heap.size 60 G _ 2 16 underlying56 y t q o rfl UK _ _ _ rfl (World.ownsRow_made w #[] 0 (zq _) (zN _) rfl) ⟨B,0,U3⟩ L.length cap (L.flatMap fC) rfl ?qc1 ?qc2 ?qc3 ?qc4 ?qc5 ?qc6 ?_)
 case qc1=>exact Iz L
 case qc2 =>
  intro j u I;rw[Addr.add_lit];refine Lib.cell?_alloc_some _ ?_;obtain⟨i,D,⟨rfl,rfl⟩|⟨rfl,rfl⟩⟩:=Fo L j u I
  ·have:=(E.y i D).1
   simpa using this
  ·have:=(E.y i D).2
   simpa using this
 case qc3=>exact Sh L
 case qc4=>unfold maxLen;omega
 case qc5=>omega
 case qc6=>simp
 intro v' w1 g f C;go_wp2;go_ret;refine⟨v',rfl,by simpa using g,?_⟩;exact ((zr _ w).alloc (zq _) _).grown f UJ (by intro k H;simp[Wr] at H;omega)
def ja:Obj:=.cells #[.int .i64 0,.int .i64 0,.string Yy,.int .i64 0,.slice U3 0 0,.int .i64 0] 58 (0,0)
def nU(e:aM)(v:U8):U8:=.agg #[.int .i64 e.id,.int .i64 e.kind,.string e.aT,.int .i64 e.aH,v,.int .i64 e.bY]
def tz(Z:U7)(Q:UY)(a b c d e f:U8):U7:=(((((Z.setCell ⟨Q,0,U3⟩ a).setCell ⟨Q,1,U3⟩ b).setCell ⟨Q,2,U3⟩ c).setCell ⟨Q,3,U3⟩ d).setCell ⟨Q,4,U3⟩ e).setCell ⟨Q,5,U3⟩ f
theorem Gw(Z:U7)(Q:UY)(a b c d e f:U8):aF [Q] Z (tz Z Q a b c d e f) :=
 ((((((aF.refl [Q] Z).setCell (.inl UJ) _ _).setCell (.inl UJ) _ _).setCell (.inl UJ) _ _).setCell (.inl UJ) _ _).setCell (.inl UJ) _ _).setCell (.inl UJ) _ _
def Bj(w:U7)(e:aM)(v:U8)(w':U7):Prop:=∃ sp,v=nU e sp/\w'.ownsRow w.heap.size 60 2 sp e.aL.length (e.aL.flatMap fC)/\U9 w.heap.size w w'
theorem Nz(h:w.heap[Q]?=U4 ja):w.cell? ⟨Q,0,U3⟩=U4 (.int .i64 0):=by unfold ja at h;simp only[VA,h];rfl
theorem NA(h:w.heap[Q]?=U4 ja):w.cell? ⟨Q,1,U3⟩=U4 (.int .i64 0):=by unfold ja at h;simp only[VA,h];rfl
theorem NC(h:w.heap[Q]?=U4 ja):w.cell? ⟨Q,2,U3⟩=U4 (.string Yy):=by unfold ja at h;simp only[VA,h];rfl
theorem ND(h:w.heap[Q]?=U4 ja):w.cell? ⟨Q,3,U3⟩=U4 (.int .i64 0):=by unfold ja at h;simp only[VA,h];rfl
theorem NF(h:w.heap[Q]?=U4 ja):w.cell? ⟨Q,4,U3⟩=U4 (.slice U3 0 0):=by unfold ja at h;simp only[VA,h];rfl
theorem NG(h:w.heap[Q]?=U4 ja):w.cell? ⟨Q,5,U3⟩=U4 (.int .i64 0):=by unfold ja at h;simp only[VA,h];rfl
theorem NH(h:w.heap[Q]?=U4 ja):∀ o,w.frozen? ⟨Q,o,U3⟩=U5:=fun o=>frozen_of_row _ Q o _ _ h
theorem PV(w:U7)(g:EG)(h:gR w g)(K:w.cell? ⟨g.tb,0,U3⟩=U4 (.string g.e.aT))(hL:g.e.aL.length<=100):
  Va prog 152 #[.pointer (U4 ⟨g.eb,0,U3⟩)] w fun e w'=>∃ v,e=.returned v/\Bj w g.e v w':=by
 have H:U9 w.heap.size w (w.alloc ja):=(zr _ _).alloc (zq _) _;have U:=cC w ja;have y:=h.off (G:=[]) (aF.aD H) UJ UJ;have S:=y.en.c0;have c1:=y.k;have R:=y.en.c1;have P:=y.en.c2;have O:=y.en.c3;have N:=y.u;have M:=aN H K;have V:=aC (Tr (w.alloc ja).drew g.B g.cap g.e.aL (y.en.sl.off (G:=[]) (aF.aD (dM _)) UJ) hL);have I:=aC (zA H U);have q:g.eb≠w.heap.size/\g.tb≠w.heap.size:=⟨by have:=h.lt;omega,by have z:g.tb<w.heap.size:=Vh _ _ K;omega⟩;clear h K H U y
 go_in
 go_upto_region 1 with fail
 change YS _ _ _ _ (w.alloc ja);have J:w.heap.size<(w.alloc ja).heap.size:=UJ
 generalize w.alloc ja=X at *;have T:Hid (∀ w2,U9 X.drew.heap.size X.drew w2->w2.cell? ⟨g.eb,0,U3⟩=U4 (.int .i64 g.e.id)/\w2.cell? ⟨g.eb,1,U3⟩=U4 (.int .i64 g.e.kind)/\w2.cell? ⟨g.eb,2,U3⟩=U4 (.pointer (U4 ⟨g.tb,0,U3⟩))/\w2.cell? ⟨g.eb,3,U3⟩=U4 (.int .i64 g.e.aH)/\w2.cell? ⟨g.eb,4,U3⟩=U4 (.slice (U4 ⟨g.B,0,U3⟩) g.e.aL.length g.cap)/\w2.cell? ⟨g.eb,5,U3⟩=U4 (.int .i64 g.e.bY)/\w2.cell? ⟨g.tb,0,U3⟩=U4 (.string g.e.aT)):=fun w2 k=>⟨aN k S,aN k c1,aN k R,aN k P,aN k O,aN k N,aN k M⟩
 have AQ:Hid (∀ w2,U9 X.drew.heap.size X.drew w2->w2.heap[w.heap.size]?=U4 ja):=fun w2 k=>(k.block _ J).trans I.y.2
 have Y:Hid (∀ w2 a b c d e f,U9 X.drew.heap.size X.drew w2->((((((w2.setCell ⟨w.heap.size,0,U3⟩ a).setCell ⟨w.heap.size,1,U3⟩ b).setCell ⟨w.heap.size,2,U3⟩ c).setCell ⟨w.heap.size,3,U3⟩ d).setCell ⟨w.heap.size,4,U3⟩ e).setCell ⟨w.heap.size,5,U3⟩ f).cell? ⟨g.eb,0,U3⟩=U4 (.int .i64 g.e.id)/\((((((w2.setCell ⟨w.heap.size,0,U3⟩ a).setCell ⟨w.heap.size,1,U3⟩ b).setCell ⟨w.heap.size,2,U3⟩ c).setCell ⟨w.heap.size,3,U3⟩ d).setCell ⟨w.heap.size,4,U3⟩ e).setCell ⟨w.heap.size,5,U3⟩ f).cell? ⟨g.eb,1,U3⟩=U4 (.int .i64 g.e.kind)/\((((((w2.setCell ⟨w.heap.size,0,U3⟩ a).setCell ⟨w.heap.size,1,U3⟩ b).setCell ⟨w.heap.size,2,U3⟩ c).setCell ⟨w.heap.size,3,U3⟩ d).setCell ⟨w.heap.size,4,U3⟩ e).setCell ⟨w.heap.size,5,U3⟩ f).cell? ⟨g.eb,2,U3⟩=U4 (.pointer (U4 ⟨g.tb,0,U3⟩))/\((((((w2.setCell ⟨w.heap.size,0,U3⟩ a).setCell ⟨w.heap.size,1,U3⟩ b).setCell ⟨w.heap.size,2,U3⟩ c).setCell ⟨w.heap.size,3,U3⟩ d).setCell ⟨w.heap.size,4,U3⟩ e).setCell ⟨w.heap.size,5,U3⟩ f).cell? ⟨g.eb,3,U3⟩=U4 (.int .i64 g.e.aH)/\((((((w2.setCell ⟨w.heap.size,0,U3⟩ a).setCell ⟨w.heap.size,1,U3⟩ b).setCell ⟨w.heap.size,2,U3⟩ c).setCell ⟨w.heap.size,3,U3⟩ d).setCell ⟨w.heap.size,4,U3⟩ e).setCell ⟨w.heap.size,5,U3⟩ f).cell? ⟨g.eb,4,U3⟩=U4 (.slice (U4 ⟨g.B,0,U3⟩) g.e.aL.length g.cap)/\((((((w2.setCell ⟨w.heap.size,0,U3⟩ a).setCell ⟨w.heap.size,1,U3⟩ b).setCell ⟨w.heap.size,2,U3⟩ c).setCell ⟨w.heap.size,3,U3⟩ d).setCell ⟨w.heap.size,4,U3⟩ e).setCell ⟨w.heap.size,5,U3⟩ f).cell? ⟨g.eb,5,U3⟩=U4 (.int .i64 g.e.bY)/\((((((w2.setCell ⟨w.heap.size,0,U3⟩ a).setCell ⟨w.heap.size,1,U3⟩ b).setCell ⟨w.heap.size,2,U3⟩ c).setCell ⟨w.heap.size,3,U3⟩ d).setCell ⟨w.heap.size,4,U3⟩ e).setCell ⟨w.heap.size,5,U3⟩ f).cell? ⟨g.tb,0,U3⟩=U4 (.string g.e.aT)):=fun w2 a b c d e f k=>by
  have o:=Gw w2 w.heap.size a b c d e f;obtain⟨k0,k1,k2,k3,k4,k5,k6⟩:=T.y w2 k;exact⟨o.cell (by simpa using q.1) k0,o.cell (by simpa using q.1) k1,o.cell (by simpa using q.1) k2,o.cell (by simpa using q.1) k3,o.cell (by simpa using q.1) k4,o.cell (by simpa using q.1) k5,o.cell (by simpa using q.2) k6⟩
 clear q
 go_region_held3 (fun w'=>w'.cell? ⟨g.eb,0,U3⟩=U4 (.int .i64 g.e.id)/\w'.cell? ⟨g.eb,1,U3⟩=U4 (.int .i64 g.e.kind)/\w'.cell? ⟨g.eb,2,U3⟩=U4 (.pointer (U4 ⟨g.tb,0,U3⟩))/\w'.cell? ⟨g.eb,3,U3⟩=U4 (.int .i64 g.e.aH)/\w'.cell? ⟨g.eb,4,U3⟩=U4 (.slice (U4 ⟨g.B,0,U3⟩) g.e.aL.length g.cap)/\w'.cell? ⟨g.eb,5,U3⟩=U4 (.int .i64 g.e.bY)/\w'.cell? ⟨g.tb,0,U3⟩=U4 (.string g.e.aT))
  (first
   |with_reducible exact Y.y _ _ _ _ _ _ _ t
   |with_reducible exact T.y _ t
   |exact⟨S,c1,R,P,O,N,M⟩)
  (first
   |(go_at_call 210;refine V.y.mono ?_;rintro e w2 ⟨v,rfl,E,t⟩;obtain⟨D,C,rfl⟩:=iy E;have j:=AQ.y w2 t;have q0:=Nz j;have q1:=NA j;have q2:=NC j;have q3:=ND j;have q4:=NF j;have q5:=NG j;have fq:=NH j;clear j))
 have HF:Hid (Bj w g.e (nU g.e (.slice D g.e.aL.length C)) (tz w2 w.heap.size (.int .i64 g.e.id) (.int .i64 g.e.kind) (.string g.e.aT) (.int .i64 g.e.aH) (.slice D g.e.aL.length C) (.int .i64 g.e.bY))):=by
  have A:=I.y.1.size;have k:=Gw w2 w.heap.size (.int .i64 g.e.id) (.int .i64 g.e.kind) (.string g.e.aT) (.int .i64 g.e.aH) (.slice D g.e.aL.length C) (.int .i64 g.e.bY);have z:U9 w.heap.size w w2:=I.y.1.drew.trans (t.mono A);refine⟨_,rfl,dO (Yq E A) k (fun b F y=>?_),?_⟩
  ·have:=(E.lt b F).1;have e:b=w.heap.size:=Yo.1 y;have aa:w.heap.size<X.drew.heap.size:=J;omega
  ·exact⟨k.os.trans z.os,k.tape.trans z.tape,k.output.trans z.output,Vg z.size k.size,fun b F=>(k.block b (zL F z.size) UQ).trans (z.block b F)⟩
 clear E t V T AQ Y S c1 R P O N M I J
 go_wp2_with fail
 exact bodyPost_ret (v:=nU g.e (.slice D g.e.aL.length C)) (by simp[results,results152,go_sem,nU,q0,q1,q2,q3,q4,q5]) rfl ⟨_,rfl,HF.y⟩
theorem SG:(prog.info? 58).map (fun i=>(i.zero,i.size,i.bytes))=U4 (U4 (.agg #[.int .i64 0,.int .i64 0,.string Yy,.int .i64 0,.slice U3 0 0,.int .i64 0]),6,72):=UO
theorem dS.lH(h:dS w d s r aJ)(k:U9 w.heap.size w wx){g:EG}(a:g∈r.eg):
  Va prog 152 #[.pointer (U4 ⟨g.eb,0,U3⟩)] wx fun e w'=>∃ v,e=.returned v/\Bj wx g.e v w':=by
 have f:=h.dk.later k;obtain⟨i,o,t,q⟩:=h.of.tb g a;obtain⟨z,y,C,A,j,_⟩:=f.th i o;have c:=j.c0;rw[t,<- q] at c;exact PV wx g (f.en g a).1 c (by have:=(h.inv.en _ (h.of.mem a)).sl;omega)
theorem qT:∀ {l:UV (aM × U8)}{k:UY}(c:k<l.length){j:UY}(_:j<6),(l.flatMap ef)[k*6+j]?=(ef l[k])[j]?
 |p :: l,0,c,j,hj=>by
  have e:(p :: l).flatMap ef=ef p++l.flatMap ef:=UJ
  rw[e,List.getElem?_append_left (by simp[ef];omega)];simp
 |p :: l,k+1,c,j,hj=>by
  have a:k<l.length:=by simpa using c
  have e:(p :: l).flatMap ef=ef p++l.flatMap ef:=UJ
  have f:(ef p).length=6:=rfl;rw[e,Wz (by rw[f];omega),f,show (k+1)*6+j-6=k*6+j by omega,qT a hj];simp
theorem Rv(eb:UY)(id:UZ)(x:aM)(a:UW Addr)(n c:UY)(w:U7)(g:w.cell? ⟨eb,0,U3⟩=U4 (.int .i64 id)):
  Va prog 209 #[.pointer (U4 ⟨eb,0,U3⟩),nU x (.slice a n c)] w fun e w'=>e=.returned (.bool (x.id==id))/\U9 w.heap.size w w':=by
 have f:U9 w.heap.size w (w.alloc (.cells #[.int .i64 x.id,.int .i64 x.kind,.string x.aT,.int .i64 x.aH,.slice a n c,.int .i64 x.bY] 58)):=(zr _ _).alloc (zq _) _;have o:(w.alloc (.cells #[.int .i64 x.id,.int .i64 x.kind,.string x.aT,.int .i64 x.aH,.slice a n c,.int .i64 x.bY] 58)).cell? ⟨w.heap.size,0,U3⟩=U4 (.int .i64 x.id):=UJ
 have j:=aN f g;have h:=aC f;clear f g;unfold nU
 go_in
 go_upto_region 1 with fail
 generalize w.alloc (.cells #[.int .i64 x.id,.int .i64 x.kind,.string x.aT,.int .i64 x.aH,.slice a n c,.int .i64 x.bY] 58)=X at *
 go_big_region
 go_wp2
 go_ret;exact⟨rfl,h.y.drew⟩
theorem Uc(l:UV (aM × U8))(v:U8)(B eb:UY)(id:UZ)(w:U7)(own:w.ownsRow B 58 6 v l.length (l.flatMap ef))(O:∀ p∈l,∃ a n c,p.2=.slice a n c)(P:w.cell? ⟨eb,0,U3⟩=U4 (.int .i64 id))(hl:l.length<=1000):
  Va prog 256 #[v,.func (.func 209) #[.pointer (U4 ⟨eb,0,U3⟩)] #[]] w fun e w'=>e=.returned (.int .i64 (eP (fun p:aM × U8=>p.1.id==id) l 0))/\U9 w.heap.size w w':=by
 obtain⟨a,cap,rfl⟩:=iy own;have CC:=aC P;have HS:=aC O;have z:=aC own;clear P O own
 go_in
 go_wp2_with fail
 go_loopw [8] (fun i wx=>∃ k:UY,k<=l.length/\i=.int .i64 k/\eP (fun p:aM × U8=>p.1.id==id) l 0=eP (fun p:aM × U8=>p.1.id==id) (l.drop k) k/\U9 w.heap.size w wx) (fun i _=>l.length-(intOf i).toNat)
 case atStart=>exact⟨0,V6 _,rfl,rfl,Below.refl _ _⟩
 case round =>
  obtain⟨k,hk,rfl,D,y⟩:=hrel;have K:=aC D;have N:=aC y
  by_cases g:k<l.length
  ·have hi:(k:UZ)<(l.length:UZ):=UI
   obtain⟨H,T,S⟩:=Yc z.y UI;simp only[Zp,true_and] at S;obtain⟨rfl,rfl⟩:=S;have f:=ey z.y y;have J:=(f.cellAt (k*6) UI).trans (qT g (j:=0) UI);have a1:=(f.cellAt (k*6+1) UI).trans (qT g (j:=1) UI);have I:=(f.cellAt (k*6+2) UI).trans (qT g (j:=2) UI);have G:=(f.cellAt (k*6+3) UI).trans (qT g (j:=3) UI);have C:=(f.cellAt (k*6+4) UI).trans (qT g (j:=4) UI);have F:=(f.cellAt (k*6+5) UI).trans (qT g (j:=5) UI);simp only[ef,List.getElem?_cons_zero,List.getElem?_cons_succ] at J a1 I G C F;obtain⟨Y,V,X,t⟩:=HS.y l[k] (zg g);rw[t] at C;have h:=aC (Rv eb id l[k].1 Y V X wr (aN y CC.y));have R:eP (fun p:aM × U8=>p.1.id==id) (l.drop k) k=if l[k].1.id==id then (k:UZ) else eP (fun p:aM × U8=>p.1.id==id) (l.drop (k+1)) ((k+1:UY):UZ):=by rw[List.drop_eq_getElem_cons g];rfl
   have U:=aC R;clear R f y D t
   cases o:(l[k].1.id==id)
   ·have A:Hid (eP (fun p:aM × U8=>p.1.id==id) l 0=eP (fun p:aM × U8=>p.1.id==id) (l.drop (k+1)) ((k+1:UY):UZ)):=by show _=_;rw[K.y,U.y,o];rfl
    rw[o] at h;clear o;unfold nU at h
    go_wp2_with fail
    refine h.y.mono ?_;rintro e w1 ⟨rfl,q⟩;have M:=aC (aZ N.y q (zq _));clear q J a1 I G C F h
    go_wp2
    go_roundw
    case rel=>exact⟨k+1,by omega,by go_num,A.y,M.y⟩
    case measure=>simp[intOf];omega
   ·have A:Hid (eP (fun p:aM × U8=>p.1.id==id) l 0=k):=by show _=_;rw[K.y,U.y,o];rfl
    rw[o] at h;clear o;unfold nU at h
    go_wp2_with fail
    refine h.y.mono ?_;rintro e w1 ⟨rfl,q⟩;have M:=aC (aZ N.y q (zq _));clear q J a1 I G C F h
    go_wp2
    go_ret;exact⟨gL A.y.symm,M.y⟩
  ·have E:k=l.length:=UI
   have hi:¬ ((k:UZ)<(l.length:UZ)):=UI
   have A:Hid (eP (fun p:aM × U8=>p.1.id==id) l 0=-1):=by show _=_;rw[K.y,E,List.drop_length];rfl
   clear D y
   go_wp2
   go_ret;exact⟨gL A.y.symm,N.y⟩
theorem Uq(l:UV (aM × U8))(v:U8)(B eb:UY)(id:UZ)(w:U7)(own:w.ownsRow B 58 6 v l.length (l.flatMap ef))(t:∀ p∈l,∃ a n c,p.2=.slice a n c)(y:w.cell? ⟨eb,0,U3⟩=U4 (.int .i64 id))(D:l.length<=1000):
  Va prog 208 #[v,.func (.func 209) #[.pointer (U4 ⟨eb,0,U3⟩)] #[]] w fun e w'=>e=.returned (.bool (l.any (fun p:aM × U8=>p.1.id==id)))/\U9 w.heap.size w w':=by
 have A:=aC (Uc l v B eb id w own t y D)
 have f:(decide ((0:UZ)<=eP (fun p:aM × U8=>p.1.id==id) l 0))=l.any (fun p:aM × U8=>p.1.id==id):=by
  rcases vA (fun p:aM × U8=>p.1.id==id) l 0 with ⟨j,g⟩|⟨k,h,j,g,_⟩
  ·rw[j];have:l.any (fun p:aM × U8=>p.1.id==id)=U5:=Zq.2 (fun x C=>by rw[g x C];simp);rw[this];rfl
  ·have:l.any (fun p:aM × U8=>p.1.id==id)=U6:=XQ.2 ⟨_,Zr h,g⟩;rw[this,j];exact decide_eq_true UI
 have o:=aC f;clear f own t y
 go_in
 go_wp2_with fail
 refine A.y.mono ?_;rintro e w1 ⟨rfl,q⟩;have E:=aC q;clear q A;generalize eP (fun p:aM × U8=>p.1.id==id) l 0=z at *
 go_wp2
 go_ret;exact⟨by rw[o.y];rfl,E.y⟩
structure At(w wx:U7)(r:Rd.bL)(days:UV UZ)(k:UY)(v:U8):Prop where
 own:wx.ownsRow w.heap.size 60 2 v k ((((days.take k).map (jL r))).flatMap fC)
 bl:U9 w.heap.size w wx
 ru:wx.heap[w.heap.size]?=U4 (bN r)
 ne:v.ownBlock≠U4 w.heap.size
theorem QA(r:Rd.bL)(hf:Rd.fw r)(c:UV UZ)(hd:∀ d∈c,0<=d/\d<100000)(hl:c.length<=100)(v:U8)(B:UY)(w:U7)(own:w.ownsRow B 3 1 v c.length (c.map (VT .i64))):
  Va prog 148 #[ik r,v] w fun e w'=>∃ v',e=.returned v'/\w'.ownsRow w.heap.size 60 2 v' c.length ((c.map (jL r)).flatMap fC)/\U9 w.heap.size w w':=by
 obtain⟨i0,E,C,A,z⟩:=info_parts uZ;obtain⟨a,cap,rfl⟩:=iy own;have hX:U9 w.heap.size w (w.alloc (bN r)):=(zr _ _).alloc (zq _) _;have hr:=cC w (bN r);have hs:(w.alloc (bN r)).heap.size=w.heap.size+1:=UJ
 have HX:=aC (zA hX (zA hr hs));have OW:=aC own;have HD:=aC (zA hd hf);clear own hX hr hd hf hs;unfold ik
 go_in
 go_upto_region 1 with fail
 change YS _ _ _ _ (w.alloc (bN r));generalize w.alloc (bN r)=X at *
 go_wp2_with (first
  |(at_make;refine wpList_make_own _ rfl _ _ 56 rfl w.heap.size 60 i0 _ 2 underlying56 E C A .i64 .i64 (c.length:UZ) c.length rfl rfl rfl (by rw[z];omega) UR (by have:=HX.y.1.size;omega) ?_;intro w1 g f))
 have S0:Hid (At w w1 r c 0 (.slice (U4 ⟨X.heap.size,0,U3⟩) 0 c.length)):=by
  obtain⟨J,N,x3⟩:=HX.y;refine⟨by simpa using g,J.grown f J.size (fun k e=>by cases e),(f.block _ UI UJ).trans N,fun e=>?_⟩;have:X.heap.size=w.heap.size:=by simpa[Wr] using e
  omega
 clear g f
 go_loopw [5,7,13] (fun vs _ U wx=>∃ k:UY,k<=c.length/\U=.int .i64 k/\At w wx r c k vs) (fun _ _ U _=>c.length-(intOf U).toNat)
 case atStart=>exact⟨0,V6 _,rfl,S0.y⟩
 case round =>
  obtain⟨k,hk,rfl,S⟩:=hrel
  by_cases h:k<c.length
  ·have D:(k:UZ)<(c.length:UZ):=UI
   have row:=ey OW.y S.bl;obtain⟨Hh,ac,G⟩:=Yc row UI;simp only[Zp,true_and] at G;obtain⟨rfl,rfl⟩:=G;have a0:=row.cellAt k UI;rw[Yd,List.getElem?_eq_getElem h,Ye] at a0;have SO:=aC (Ir r HD.y.2 c[k] (HD.y.1 _ (zg h)).1 (HD.y.1 _ (zg h)).2 wr);have x0:=tG S.ru;have J:=oH S.ru;have N:=tH S.ru;have x3:=tJ S.ru;have x4:=tK S.ru;have x5:=tL S.ru;have x6:=tM S.ru;have x7:=tN S.ru;have x8:=tO S.ru;have x9:=pN S.ru;have T:=vF S.ru;have R:=vG S.ru;have P:=vH S.ru;have O:=vI S.ru;have M:=aC S;unfold ik at SO;clear S row
   go_wp2_with fail
   refine SO.y.mono ?_;rintro e w2 ⟨rfl,j⟩;have RW:=aC (ey M.y.own j);have I:=aC j;have ad:w.heap.size<=w2.heap.size:=Vg M.y.bl.size j.size;clear j SO a0 x0 J N x3 x4 x5 x6 x7 x8 x9 T R P O
   go_wp2_with (first
    |(at_builtin;refine wpList_append_lies _ rfl _ _ 56 rfl w.heap.size 60 i0 _ 2 16 underlying56 E C A z rfl UK _ _ _ rfl (RW.y.alloc _) ⟨w2.heap.size,0,U3⟩ 1 1 (fC (jL r c[k])) rfl rfl (Wv (cs:=(fC (jL r c[k])).toArray) (cC w2 _)) (by simp[fC,WD]) UI UR UI UQ (w2.heap.size+1) UJ ?_;intro K H w3 g f F ab))
   have t:aF u5.ownBlock.toList w2 w3:=aF.grown ((aF.refl _ w2).alloc _) f (fun k hk=>.inl (WI.2 hk));have q:u5.ownBlock=U4 K\/K=w2.heap.size+1:=F
   have HN:Hid (At w w3 r c (k+1) (.slice (U4 ⟨K,0,U3⟩) (k+1) H)):=by
    have S:=M.y;have y:U9 w.heap.size w w2:=S.bl.trans (I.y.mono S.bl.size)
    have Y:w.heap.size<wr.heap.size:=by
     have:=tG S.ru;exact Vh _ _ this
    refine⟨?_,⟨t.os.trans y.os,t.tape.trans y.tape,t.output.trans y.output,Vg y.size t.size,fun b hb=>(t.block b (zL hb y.size) (fun V=>by have:=(S.own.lt b (WI.1 V)).1;omega)).trans (y.block b hb)⟩,?_,fun e=>?_⟩
    ·rw[List.take_succ_eq_append_getElem h,We,Wj];have:([c[k]].map (jL r)).flatMap fC=fC (jL r c[k]):=UJ
     rw[this];exact g
    ·exact ((t.block _ (by have:=I.y.size;omega) (fun V=>S.ne (WI.1 V))).trans (I.y.block _ Y)).trans S.ru
    ·have:K=w.heap.size:=by simpa[Wr] using e
     rcases q with G|G
     ·exact S.ne (by rw[G,this])
     ·have:=I.y.size;omega
   clear g f F t q M RW I
   go_wp2
   go_roundw
   case rel=>exact⟨k+1,by omega,by go_num,HN.y⟩
   case measure=>simp[intOf];omega
  ·have aa:k=c.length:=UI
   have D:¬ ((k:UZ)<(c.length:UZ)):=UI
   have HF:Hid (wr.ownsRow w.heap.size 60 2 u5 c.length ((c.map (jL r)).flatMap fC)/\U9 w.heap.size w wr):=by
    have o:=S.own;rw[aa,List.take_length] at o;exact⟨o,S.bl⟩
   clear S
   go_wp2
   go_ret;exact⟨_,rfl,HF.y⟩
theorem Uo{q:Rd.bL}(h:aA.dH s.ts name u≠0):aA.aU s (.series name u q)=(s,aA.bO.error (aA.dH s.ts name u)):=by
 have e:aA.mH s name u q=aA.dH s.ts name u:=by unfold aA.mH;rw[U1 h]
 simp only[aA.aU];rw[e,U1 h]
theorem Up{q:Rd.bL}(c:Rd.fw q)(h:aA.dH s.ts name u=0)(a:Rd.fg q≠0):aA.aU s (.series name u q)=(s,aA.bO.error (Rd.fg q)):=by
 have f:=(Rd.pJ c).1;have e:aA.mH s name u q=Rd.fg q:=by unfold aA.mH;rw[U0 UI,<- f,U1 a]
 simp only[aA.aU];rw[e,U1 a]
theorem SY{q:Rd.bL}(j:Rd.fw q)(h:aA.dH s.ts name u=0)(f:Rd.fg q=0):aA.aU s (.series name u q)=il s ⟨0,1,name,u,(eJ q).map (jL q),0⟩:=by
 obtain⟨g,y⟩:=Rd.pJ j;have t:=(y (by rw[<- g];exact f)).1;have o:(eJ q).map (jL q)=Rd.gg q (Rd.bH q):=by unfold eJ;rw[U1 f,t];rfl
 simp only[aA.aU];unfold aA.mH il;rw[U0 (c:=aA.dH s.ts name u≠0) UI,<- g,U0 (c:=Rd.fg q≠0) UI,o]
 by_cases a:s.given=60
 ·simp[a]
 ·cases aA.dG s.ts s.es name u (Rd.gg q (Rd.bH q)) <;> simp[a]
theorem Hw:∀ (i:UY)(h:i<L.length),(L.flatMap fC)[i*2]?=U4 (.int .i64 L[i].1)/\(L.flatMap fC)[i*2+1]?=U4 (.int .i64 L[i].2):=by
 induction L with
 |nil=>intro i h;simp at h
 |cons a L ih =>
  intro i h
  cases i with
  |zero=>exact⟨rfl,rfl⟩
  |succ i =>
   obtain⟨f,c⟩:=ih i (by simpa using h);have e:(a :: L).flatMap fC=[.int .i64 a.1,.int .i64 a.2]++L.flatMap fC:=rfl;rw[e,show (i+1)*2=2+i*2 from by omega,show 2+i*2+1=2+(i*2+1) from by omega];constructor
   ·rw[Wz UJ];simpa using f
   ·rw[Wz UJ];simpa using c
theorem dS.vo(h:dS w d s r aJ)(z:U9 w.heap.size w w3){g cap y:UY}(D:i<r.tg.length)(c:r.tg[i].name=name)(row:w3.ownsRow y 60 2 (.slice (U4 ⟨g,0,U3⟩) n cap) n (L.flatMap fC))(A:n=L.length)(E:B<=y)(J:w.heap.size<=B)(ok:gD s.now ⟨0,1,name,u,L,0⟩):
  kK (w3.alloc (.cells #[.int .i64 0,.int .i64 1,.pointer (U4 ⟨r.tg[i].tb,0,U3⟩),.int .i64 u,.slice (U4 ⟨g,0,U3⟩) n cap,.int .i64 0] 200)) B d s r aJ ⟨⟨0,1,name,u,L,0⟩,w3.heap.size,g,cap,r.tg[i].tb⟩ i:=by
 have q:U9 w3.heap.size w3 (w3.alloc (.cells #[.int .i64 0,.int .i64 1,.pointer (U4 ⟨r.tg[i].tb,0,U3⟩),.int .i64 u,.slice (U4 ⟨g,0,U3⟩) n cap,.int .i64 0] 200)):=(zr _ _).alloc (zq _) _;have t:=h.dk.later z;have eb:=cC w3 (.cells #[.int .i64 0,.int .i64 1,.pointer (U4 ⟨r.tg[i].tb,0,U3⟩),.int .i64 u,.slice (U4 ⟨g,0,U3⟩) n cap,.int .i64 0] 200);have K:=row.lt g rfl;have I:(w3.alloc (.cells #[.int .i64 0,.int .i64 1,.pointer (U4 ⟨r.tg[i].tb,0,U3⟩),.int .i64 u,.slice (U4 ⟨g,0,U3⟩) n cap,.int .i64 0] 200)).heap.size=w3.heap.size+1:=UJ
 have a:=ey row q;generalize w3.alloc (.cells #[.int .i64 0,.int .i64 1,.pointer (U4 ⟨r.tg[i].tb,0,U3⟩),.int .i64 u,.slice (U4 ⟨g,0,U3⟩) n cap,.int .i64 0] 200)=Z at *;refine⟨⟨t.later q,h.of,h.wl,h.hl,h.inv⟩,⟨⟨?_,?_,?_,?_,fun j C=>?_,?_⟩,?_,?_,fun o=>frozen_of_row _ _ _ _ _ eb,⟨_,eb⟩⟩,t.none (zq _),h.dk.none (by show w.heap.size<=g;omega),(by show B<=w3.heap.size;omega),(by show B<=g;omega),(by show w3.heap.size≠g;omega),UI,D,c,rfl,ok⟩
 ·show Z.cell? ⟨w3.heap.size,0,U3⟩=_;simp only[VA,eb];rfl
 ·show Z.cell? ⟨w3.heap.size,2,U3⟩=_;simp only[VA,eb];rfl
 ·show Z.cell? ⟨w3.heap.size,3,U3⟩=_;simp only[VA,eb];rfl
 ·show Z.cell? ⟨w3.heap.size,4,U3⟩=U4 (.slice (U4 ⟨g,0,U3⟩) L.length cap);rw[<- A];simp only[VA,eb];rfl
 ·have f:j<L.length:=C;obtain⟨G,F⟩:=Hw j f;have H:=a.cellAt (j*2) UI;have c1:=a.cellAt (j*2+1) UI;exact⟨H.trans G,c1.trans F⟩
 ·show g<_;omega
 ·show Z.cell? ⟨w3.heap.size,1,U3⟩=_;simp only[VA,eb];rfl
 ·show Z.cell? ⟨w3.heap.size,5,U3⟩=_;simp only[VA,eb];rfl
theorem QW(w:U7)(name:UU)(u:UZ)(q:Rd.bL):let X:=((w.alloc (.cells #[.string name,.int .i64 u,.int .i64 q.pc,.int .i64 q.ev,.bool (aI q.acc 0),.bool (aI q.acc 1),.bool (aI q.acc 2),.bool (aI q.acc 3),.bool (aI q.acc 4),.bool (aI q.acc 5),.bool (aI q.acc 6),.int .i64 q.fr,.int .i64 q.mn,.int .i64 q.mi,.int .i64 q.ti,.int .i64 q.un] 165)).alloc aW);U9 w.heap.size w X/\X.heap[w.heap.size+1]?=U4 aW/\X.heap.size=w.heap.size+2/\X.heap[w.heap.size]?=U4 (.cells #[.string name,.int .i64 u,.int .i64 q.pc,.int .i64 q.ev,.bool (aI q.acc 0),.bool (aI q.acc 1),.bool (aI q.acc 2),.bool (aI q.acc 3),.bool (aI q.acc 4),.bool (aI q.acc 5),.bool (aI q.acc 6),.int .i64 q.fr,.int .i64 q.mn,.int .i64 q.mi,.int .i64 q.ti,.int .i64 q.un] 165 (0,0)):=by
 obtain⟨c,a⟩:=yz (w:=w) (.cells #[.string name,.int .i64 u,.int .i64 q.pc,.int .i64 q.ev,.bool (aI q.acc 0),.bool (aI q.acc 1),.bool (aI q.acc 2),.bool (aI q.acc 3),.bool (aI q.acc 4),.bool (aI q.acc 5),.bool (aI q.acc 6),.int .i64 q.fr,.int .i64 q.mn,.int .i64 q.mi,.int .i64 q.ti,.int .i64 q.un] 165);exact⟨c,a,by simp,(Below.heap_alloc _ _ _ UJ).trans (cC w _)⟩
theorem Pf(a:Array U8)(w:U7):(callFunc 148 a).run prog w=.ok (.enter 148 a) w:=UO
theorem Pe(a:Array U8)(w:U7):(callFunc 144 a).run prog w=.ok (.enter 144 a) w:=UO
theorem Sm(h:dS w d s r aJ)(ht:gy w)(aj:10<=w.heap.size)(name:UU)(hn:name.size<=1000)(u:UZ)(q:Rd.bL)(hl:aA.jA (.series name u q)):
  Va prog 95 #[.pointer (U4 ⟨d,0,U3⟩),.agg #[.string name,.int .i64 u,.int .i64 q.pc,.int .i64 q.ev,.bool (aI q.acc 0),.bool (aI q.acc 1),.bool (aI q.acc 2),.bool (aI q.acc 3),.bool (aI q.acc 4),.bool (aI q.acc 5),.bool (aI q.acc 6),.int .i64 q.fr,.int .i64 q.mn,.int .i64 q.mi,.int .i64 q.ti,.int .i64 q.un]] w fun e w'=>∃ v,e=.returned v/\dX w d aJ (aA.aU s (.series name u q)) v w':=by
 obtain⟨hX,ad,M,c⟩:=QW w name u q;obtain⟨ai,ag,J⟩:=hl;have HV:=aC (IB (h.dk.later hX) h.of h.aS name hn u);have DY:=aC (Gc q J ((w.alloc (.cells #[.string name,.int .i64 u,.int .i64 q.pc,.int .i64 q.ev,.bool (aI q.acc 0),.bool (aI q.acc 1),.bool (aI q.acc 2),.bool (aI q.acc 3),.bool (aI q.acc 4),.bool (aI q.acc 5),.bool (aI q.acc 6),.int .i64 q.fr,.int .i64 q.mn,.int .i64 q.mi,.int .i64 q.ti,.int .i64 q.un] 165)).alloc aW) (pR ht hX aj) (by rw[M];omega));have HH:=aC h;have S:=aC (zA hX (zA ad M));have HA:=aC (Uo (s:=s) (name:=name) (u:=u) (q:=q));have HE:=aC (Up (s:=s) (name:=name) (u:=u) J);have HO:=aC (SY (s:=s) (name:=name) (u:=u) J);have t:=aC J;have x0:=aY c 0 rfl;have x1:=aY c 1 rfl;have x2:=aY c 2 rfl;have x3:=aY c 3 rfl;have x4:=aY c 4 rfl;have x5:=aY c 5 rfl;have x6:=aY c 6 rfl;have x7:=aY c 7 rfl;have x8:=aY c 8 rfl;have x9:=aY c 9 rfl;have E:=aY c 10 rfl;have D:=aY c 11 rfl;have C:=aY c 12 rfl;have A:=aY c 13 rfl;have z:=aY c 14 rfl;have y:=aY c 15 rfl;unfold ik at DY;clear h hX ad M c J ht
 go_in
 go_upto_region 1 with fail
 change YS _ _ _ _ ((w.alloc (.cells #[.string name,.int .i64 u,.int .i64 q.pc,.int .i64 q.ev,.bool (aI q.acc 0),.bool (aI q.acc 1),.bool (aI q.acc 2),.bool (aI q.acc 3),.bool (aI q.acc 4),.bool (aI q.acc 5),.bool (aI q.acc 6),.int .i64 q.fr,.int .i64 q.mn,.int .i64 q.mi,.int .i64 q.ti,.int .i64 q.un] 165)).alloc aW);generalize ((w.alloc (.cells #[.string name,.int .i64 u,.int .i64 q.pc,.int .i64 q.ev,.bool (aI q.acc 0),.bool (aI q.acc 1),.bool (aI q.acc 2),.bool (aI q.acc 3),.bool (aI q.acc 4),.bool (aI q.acc 5),.bool (aI q.acc 6),.int .i64 q.fr,.int .i64 q.mn,.int .i64 q.mi,.int .i64 q.ti,.int .i64 q.un] 165)).alloc aW)=X at *;have BX:Hid (U9 w.heap.size w X):=S.y.1;have QX:Hid (Q7 X (w.heap.size+1)):=Q7.of S.y.2.1
 go_wp2_with fail
 refine HV.y.mono ?_;rintro e w1 ⟨hp,rfl⟩;rcases hp with ⟨K,rfl⟩|⟨K,i,hi,e1,e2,rfl⟩
 ·have HD:=aC (HA.y K);generalize aA.dH s.ts name u=G at *;have ac:(G != 0)=U6:=by simpa using K
  clear K HV S DY HE HO HA x0 x1 x2 x3 x4 x5 x6 x7 x8 x9 E D C A z y
  go_wp2_with fail
  refine (lF G w1).mono ?_;rintro e w9 ⟨rfl,N⟩;have P:=aC (HH.y.refuse BX.y QX.y N HD.y);obtain⟨q0,q1,q2,Y,V,U,T,fq⟩:=P.y.1;simp only[bC]
  go_wp2_with fail
  exact cO results95 ⟨q0,q1,q2,Y,V,U,T,fq⟩ ⟨_,rfl,P.y.2⟩
 ·go_wp2_with fail
  refine DY.y.mono ?_;rintro e w2 ⟨da,rfl,own,a⟩;have j:Hid (U9 w.heap.size w w2):=BX.y.trans (a.mono BX.y.size);have I:Hid (Q7 w2 (w.heap.size+1)):=QX.y.later (a.block _ (Vh _ _ QX.y.q0));obtain⟨a1,af,rfl⟩:=pC own
  by_cases F:Rd.fg q=0
  ·have HD:=aC (HO.y K F);have ac:(Rd.fg q != 0)=U5:=by simpa using F
   obtain⟨O,ae⟩:=Rd.pJ t.y;have H:=ae (by rw[<- O];exact F);have o:eJ q=Rd.bH q:=by unfold eJ;rw[U1 F,H.1]
   have OK:Hid (gD s.now ⟨0,1,name,u,(eJ q).map (jL q),0⟩):=by
    obtain⟨p1,p2,p3,p4⟩:=aA.Rd.jU t.y (by rw[<- O];exact F);have e4:(eJ q).map (jL q)=Rd.gg q (Rd.bH q):=by rw[o];rfl
    show gD _ _;rw[e4];exact⟨ai,ag,p4,p3,p1,p2,.inl ⟨rfl,rfl⟩⟩
   have ab:0<(eJ q).length:=Zo.2 (by rw[o];exact H.2.1);have au:(eJ q).length<=40:=by rw[o];exact H.2.2.1
   have SP:=aC (QA q t.y (eJ q) (fun d hd=>by rw[o] at hd;have:=Rd.sF t.y hd;have:=t.y.f0;omega) UI (.slice a1 (eJ q).length af) w1.heap.size w2.drew (F0 own));have aa:w.heap.size+2<=w2.drew.heap.size:=by have:=a.size;have:=S.y.2.2;show w.heap.size+2<=w2.heap.size;omega
   have AS:=aC (fun (w3:U7) (g cap:UY) (f:U9 w2.drew.heap.size w2.drew w3) (row:w3.ownsRow w2.drew.heap.size 60 2 (.slice (U4 ⟨g,0,U3⟩) (eJ q).length cap) (eJ q).length (((eJ q).map (jL q)).flatMap fC)) =>
    I0 (HH.y.vo (j.y.drew.trans (f.mono j.y.size)) (B:=w.heap.size+2) hi e1 row UJ aa UI OK.y))
   have AP:=aC (fun (w3 w4:U7) (g cap:UY) (v:U8) (f:U9 w2.drew.heap.size w2.drew w3) (R:lD (w3.alloc (.cells #[.int .i64 0,.int .i64 1,.pointer (U4 ⟨r.tg[i].tb,0,U3⟩),.int .i64 u,.slice (U4 ⟨g,0,U3⟩) (eJ q).length cap,.int .i64 0] 200)) (w.heap.size+2) d aJ (il s ⟨0,1,name,u,(eJ q).map (jL q),0⟩) v w4) =>
    R.IL (w:=w) (Q:=w.heap.size+1) (Step.below ((j.y.drew.trans (f.mono j.y.size)).trans (((zr w3.heap.size w3).alloc (zq _) _).mono (j.y.drew.trans (f.mono j.y.size)).size))) UI UI UI (HH.y.dk.none UI) ((I.y.later (w':=w2.drew) rfl).later (((Below.heap_alloc w3 _ _ (zL (Vh _ _ I.y.q0) f.size))).trans (f.block _ (Vh _ _ I.y.q0)))))
   have y1:=aN a x1;have y2:=aN a x2;have y3:=aN a x3;have y4:=aN a x4;have y5:=aN a x5;have y6:=aN a x6;have y7:=aN a x7;have y8:=aN a x8;have y9:=aN a x9;have ar:=aN a E;have aq:=aN a D;have ao:=aN a C;have an:=aN a A;have al:=aN a z;have ak:=aN a y;unfold ik at SP;clear HV DY HE HO HA S own a H o O ae OK K x0 x1 x2 x3 x4 x5 x6 x7 x8 x9 E D C A z y BX QX;generalize Rd.fg q=G at *;subst F
   go_upto_region 7 with fail
   go_region_law (first
    |(refine qW (by rfl) 148 _ _ (by rfl) _ (by simp[Act.eval]) (Pf _ _) SP.y ?_;rintro e w3 ⟨v',rfl,row,f⟩;refine⟨_,rfl,?_⟩;obtain⟨g,cap,rfl⟩:=Yc row ab;have z1:=aN f y1;have EN:=aC (AS.y w3 g cap f row);have AQ:=aC (fun w4 v R=>AP.y w3 w4 g cap v f R);clear SP AS AP row)
    |(refine qW (by rfl) 144 _ _ (by rfl) _ (by simp[Act.eval]) (Pe _ _) EN.y ?_;rintro e w4 ⟨v,rfl,R⟩;refine⟨_,rfl,?_⟩;obtain⟨G,nn,rfl,q7,J⟩:=AQ.y w4 v R;have P:Hid (dX w d aJ (aA.aU s (.series name u q)) (bC G 0 nn (.slice U3 0 0) (.slice U3 0 0) (.slice U3 0 0) (.slice U3 0 0)) (cK w4 (w.heap.size+1) (.int .i64 G) (.int .i64 0) (.int .i64 nn) (.slice U3 0 0) (.slice U3 0 0) (.slice U3 0 0) (.slice U3 0 0))):=(by rw[HD.y];exact J _ _ _ _ _ _ _);obtain⟨q0,q1,q2,Y,V,U,T,fq⟩:=q7;clear R J EN AQ;simp only[bC]))
   all_goals
    go_wp2_with fail
    exact cO results95 ⟨q0,q1,q2,Y,V,U,T,fq⟩ ⟨_,rfl,P.y⟩
  ·have HD:=aC (HE.y K F);generalize Rd.fg q=G at *;have ac:(G != 0)=U6:=by simpa using F
   clear K HV S DY HE HO HA x0 x1 x2 x3 x4 x5 x6 x7 x8 x9 E D C A z y own a F
   go_wp2_with fail
   refine (lF G w2).mono ?_;rintro e w9 ⟨rfl,N⟩;have P:=aC (HH.y.refuse j.y I.y N HD.y);obtain⟨q0,q1,q2,Y,V,U,T,fq⟩:=P.y.1;simp only[bC]
   go_wp2_with fail
   exact cO results95 ⟨q0,q1,q2,Y,V,U,T,fq⟩ ⟨_,rfl,P.y.2⟩
theorem TO(h:dS w d s rw_ aJ)(ht:gy w)(o:10<=w.heap.size)(name:UU)(J:name.size<=1000)(u:UZ)(r:Rd.bL)(K:aA.jA (.series name u r)):
  Va prog 64 #[.pointer (U4 ⟨d,0,U3⟩),.iface 165 (.agg #[.string name,.int .i64 u,.int .i64 r.pc,.int .i64 r.ev,.bool (aI r.acc 0),.bool (aI r.acc 1),.bool (aI r.acc 2),.bool (aI r.acc 3),.bool (aI r.acc 4),.bool (aI r.acc 5),.bool (aI r.acc 6),.int .i64 r.fr,.int .i64 r.mn,.int .i64 r.mi,.int .i64 r.ti,.int .i64 r.un])] w fun e w'=>∃ v,e=.returned v/\dX w d aJ (aA.aU s (.series name u r)) v w':=by
 have q:=aC (h.pX (.cells #[.string name,.int .i64 u,.int .i64 r.pc,.int .i64 r.ev,.bool (aI r.acc 0),.bool (aI r.acc 1),.bool (aI r.acc 2),.bool (aI r.acc 3),.bool (aI r.acc 4),.bool (aI r.acc 5),.bool (aI r.acc 6),.int .i64 r.fr,.int .i64 r.mn,.int .i64 r.mi,.int .i64 r.ti,.int .i64 r.un] 165));have t:=aC (Sm q.y.1 (pR ht q.y.2.1 o) (Vg o q.y.2.1.size) name J u r K);clear h;unfold aW at t q;have c:=qq 165 UK;have j:=rV 165 UK;have g:=rW 165 UK;have f:=rU 165 UK;have a:=pe underlying165
 go_in
 go_wp2_with fail
 refine t.y.mono ?_;rintro e w2 ⟨v,rfl,z⟩;obtain⟨U,at_,O,a1,a2,a3,a4,T,S,R,P,c1,Y,X,V,rfl,A,y⟩:=z.pT q.y.2;have N:=aC y;clear z y t c j g f a;obtain⟨I,H,G,F,E,D,C,M⟩:=A;simp only[bC]
 go_wp2_with fail
 exact cO results64 ⟨I,H,G,F,E,D,C,M⟩ ⟨_,rfl,N.y⟩
theorem dS.ib(h:dS w d s r aJ)(k:U9 w.heap.size w Z)(y:w.heap.size<=Q){t:U8}(z:gI Z (Q+1) aJ t l)(a b c e f g i:U8):
  dX w d aJ (s,⟨0,0,0,l.map (·.1),[],[],[]⟩) (bC 0 0 0 t (.slice U3 0 0) (.slice U3 0 0) (.slice U3 0 0)) (cK Z Q a b c e f g i):=by
 have q:=lC Z Q a b c e f g i;have A:=h.dk.later k;have nq:∀ b,Q<=b->aJ b=U3:=fun b o=>h.dk.none UI
 have st:Step anyS w.heap.size aJ aJ Z (cK Z Q a b c e f g i):=⟨⟨_,q,fun x j=>.inr (by have:x=Q:=Yo.1 j;subst this;exact⟨nq _ (zq _),y⟩)⟩,fun _ _ h=>h,fun _ _ h=>.inl h⟩
 have rp:ku Z (Q+1) aJ (bC 0 0 0 t (.slice U3 0 0) (.slice U3 0 0) (.slice U3 0 0)) ⟨0,0,0,l.map (·.1),[],[],[]⟩ :=
  ⟨_,_,_,_,l,rfl,rfl,z,eE.nil _ _ _,eE.nil _ _ _,eE.nil _ _ _,(fun b o=>by cases o),fun b o=>by cases o⟩
 exact⟨r,aJ,A.off q (fun x j=>by have:x=Q:=Yo.1 j;subst this;exact nq _ (zq _)),h.of,h.wl,h.hl,(Step.below k).trans st,(rp.off q (fun x j=>by have:x=Q:=Yo.1 j;omega)).base UI⟩
theorem Tw(h:dS w d s rw_ aJ):
  Va prog 64 #[.pointer (U4 ⟨d,0,U3⟩),.iface 183 (.agg #[])] w fun e w'=>∃ v,e=.returned v/\dX w d aJ (aA.aU s .clock) v w':=by
 have J:U9 w.heap.size w ((w.alloc (.cells #[.int .i64 0,.int .i64 0,.int .i64 0,.slice U3 0 0,.slice U3 0 0,.slice U3 0 0,.slice U3 0 0] 40)).alloc (.cells #[] 183)):=((zr _ _).alloc (zq _) _).alloc UJ _;have K:((w.alloc (.cells #[.int .i64 0,.int .i64 0,.int .i64 0,.slice U3 0 0,.slice U3 0 0,.slice U3 0 0,.slice U3 0 0] 40)).alloc (.cells #[] 183)).heap[w.heap.size]?=U4 aW:=(Below.heap_alloc _ _ _ UJ).trans (cC w aW);have M:=(h.dk.later J).c0;rw[h.of.now] at M;have HX:=aC J;have HH:=aC h;have N:=Q7.of K;have HD:Hid (aA.aU s .clock=(s,⟨0,0,s.now,[],[],[],[]⟩)):=rfl;clear J K h;have A:=qq 183 UK;have I:=rV 183 UK;have G:=rW 183 UK;have C:=rU 183 UK;have t:=te 183 UK;have o:=td 183 UK;have z:=uV 183 UK;have F:=wO 183 UK;have j:=wW 183 UK;have E:=zU 183 UK;have H:=Ec 183 UK;have y:=Nh 183 UK;have D:=Mt 183 UK;have q:=pe underlying183
 go_in
 go_upto_region 43 with fail
 change YS _ _ _ _ ((w.alloc (.cells #[.int .i64 0,.int .i64 0,.int .i64 0,.slice U3 0 0,.slice U3 0 0,.slice U3 0 0,.slice U3 0 0] 40)).alloc (.cells #[] 183));generalize ((w.alloc (.cells #[.int .i64 0,.int .i64 0,.int .i64 0,.slice U3 0 0,.slice U3 0 0,.slice U3 0 0,.slice U3 0 0] 40)).alloc (.cells #[] 183))=X at *
 have HF:Hid (∀ a b c e f g i,dX w d aJ (aA.aU s .clock) (bC 0 0 s.now (.slice U3 0 0) (.slice U3 0 0) (.slice U3 0 0) (.slice U3 0 0)) (cK X w.heap.size a b c e f g i)):=fun a b c e f g i=>by
  rw[HD.y];exact HH.y.said HX.y (zq _) 0 s.now a b c e f g i
 clear A I G C t o z F j E H y D q;obtain⟨V,U,T,S,R,P,O,Y⟩:=N
 go_wp2_with fail
 exact cO results64 ⟨V,U,T,S,R,P,O,Y⟩ ⟨_,rfl,HF.y _ _ _ _ _ _ _⟩
attribute [local go_sem] Y5
theorem TU{F:Fence}(a:F.depth=U3)(k:UY):F.room k:=fun d h=>by rw[a] at h;cases h
theorem RoundIn.ia{F:Fence}(q:F.depth=U3){o:UY}{P:Program}{l:UY}{f:FuncId}{g:Array U8}{a j:Code}{R:Ending->U7->Prop}
  (h:RoundIn F m P l f g a j w R):RoundIn F o P l f g a j w R:=⟨h.1,fun c cs _=>h.2 c cs (TU q _)⟩
theorem YieldAt.ia{F:Fence}(q:F.depth=U3)(j:UY){P:Program}{l:UY}{c:Array U8}{R:Ending->U7->Prop}(h:YieldAt F m P l c W R):YieldAt F j P l c W R:=by
 obtain⟨y,f,a,g,o,t⟩:=h;exact⟨y,f,a,g,o,RoundIn.ia q t⟩
theorem gh.fl{x:aE.It}(h:gh w b x)(k:U9 n₀ w w')(a:b<n₀):gh w' b x :=
 ⟨(k.cell (p:=⟨b,0,U3⟩) a).trans h.c0,(k.cell (p:=⟨b,1,U3⟩) a).trans h.c1,(k.cell (p:=⟨b,2,U3⟩) a).trans h.c2,(k.cell (p:=⟨b,3,U3⟩) a).trans h.c3,h.c4.imp (fun _=>(k.cell (p:=⟨b,4,U3⟩) a).trans),h.c5.imp (fun _=>(k.cell (p:=⟨b,5,U3⟩) a).trans),h.c6.imp (fun _=>(k.cell (p:=⟨b,6,U3⟩) a).trans),h.c7.imp (fun _=>(k.cell (p:=⟨b,7,U3⟩) a).trans),fun o=>(k.frozen (p:=⟨b,o,U3⟩) a).trans (h.fz o)⟩
theorem cR.fl{n₀:UY}{w w':U7}(k:U9 n₀ w w'):∀ {t:aE.S}{p:U8}{F:UV UY},cR w t p F->(∀ i∈F,i<n₀)->cR w' t p F
 |.nil,p,F,c,_=>c
 |.node a l r,p,F,c,hd=>by
  obtain⟨b,j,h,E,D,rfl,n,C,A,z,y,q,c,rfl,o⟩:=c;have f:b<n₀:=hd b UJ;exact⟨b,j,h,E,D,rfl,n.fl k f,(k.cell (p:=⟨b,4,U3⟩) f).trans C,(k.cell (p:=⟨b,5,U3⟩) f).trans A,(k.cell (p:=⟨b,6,U3⟩) f).trans z,(k.cell (p:=⟨b,7,U3⟩) f).trans y,cR.fl k q (fun i g=>hd i (by simp[g])),cR.fl k c (fun i g=>hd i (by simp[g])),rfl,o⟩
theorem RN(F:Fence)(hd:F.depth=U3)(h6:F.fn 255)(P:F.round=U3)(l n₀ N:UY)(a b:UZ){Q:aE.It->Prop}(J Jx:UV {x:aE.It // Q x}->U7->Prop)
  (hY:∀ m pre x W,J pre W->pre.length<N->YieldAt F m prog l #[.pointer (U4 ⟨x.1.v,0,U3⟩)] W fun e W' =>
   (e=.returned (.bool U6)/\J (pre++[x]) W'/\U9 n₀ W W')\/(e=.returned (.bool U5)/\Jx (pre++[x]) W')) (t:aE.S):
  ∀ (n:UY) (p:UW Addr) (G:UV UY) (pre ys:UV {x:aE.It // Q x}) (W:U7),cR W t (.pointer p) G->(∀ i∈G,i<n₀)->ys.map (·.1)=aE.meet a b t->J pre W->pre.length+ys.length<=N ->
   CallsIn F n prog 255 #[.pointer p,.int .i64 a,.int .i64 b,.func (.yield l) #[] #[]] W fun e W' =>
    (e=.returned (.bool U6)/\J (pre++ys) W'/\U9 n₀ W W')\/(e=.returned (.bool U5)/\∃ q,q <+: ys/\Jx (pre++q) W'):=by
 induction t with
 |nil =>
  intro n p G pre ys W ht _ H hJ _;obtain⟨hp,_⟩:=ht
  cases hp
  obtain rfl:ys=[]:=Zs.1 (H.trans rfl);refine callsIn_of_wp func255 rfl h6 ?_ P;simp only[ntmps255,Y6,VV,VZ,Y7,Y8,Y9,Za,Zb,Zc,Zd,VD]
  gi_wp2
  go_ret;exact .inl ⟨rfl,by simpa using hJ,Below.refl _ _⟩
 |node x tl tr ihl ihr =>
  intro n p G pre ys W ht hG H hJ hN;obtain⟨j,pl,U,Fl,Fr,rfl,rfl,K,c4,_⟩:=ht.half;have D:∀ k:UY,(F.depth.isSome=U6->1<=k):=fun k h=>by rw[hd] at h;cases h
  have hb:j<n₀:=hG j UJ;have ag:∀ i∈Fl,i<n₀:=fun i hi=>hG i (by simp[hi])
  have R:∀ i∈Fr,i<n₀:=fun i hi=>hG i (by simp[hi])
  generalize ai:aE.late (.node x tl tr)=la at c4
  by_cases q1:la<=a
  ·obtain rfl:ys=[]:=by
    have:aE.meet a b (.node x tl tr)=[]:=by rw[aE.meet,ai,U1 q1]
    exact Zs.1 (H.trans this)
   refine callsIn_of_wp func255 rfl h6 ?_ P;simp only[ntmps255,Y6,VV,VZ,Y7,Y8,Y9,Za,Zb,Zc,Zd,VD]
   gi_wp2
   go_ret;exact .inl ⟨rfl,by simpa using hJ,Below.refl _ _⟩
  ·have em:aE.meet a b (.node x tl tr)=aE.meet a b tl++if b<=x.f then [] else (if a<x.t then [x] else [])++aE.meet a b tr:=by rw[aE.meet,ai,U0 q1]
   rw[em] at H;obtain⟨C,y2,rfl,ad,A⟩:=Zt.1 H;clear em H;simp only[VU] at hN;have c0:=K.n.c0;have c1:=K.n.c1;have c3:=K.n.c3;have c6:=K.c6;have c7:=K.c7
   by_cases q2:b<=x.f
   ·rw[U1 q2] at A;obtain rfl:y2=[]:=Zs.1 A
    have y:=(ihl (n-1) pl Fl pre C W K.l ag ad hJ (by simpa using hN)).mono (R':=fun e g =>
      (e=.returned (.bool U6)/\J (pre++C) g/\U9 n₀ W g/\g.cell? ⟨j,0,U3⟩=U4 (.int .i64 x.f))\/(e=.returned (.bool U5)/\∃ q,q <+: C/\Jx (pre++q) g))
     (fun e g h=>h.elim (fun ⟨he,hj,c⟩=>.inl ⟨he,hj,c,(c.cell (p:=⟨j,0,U3⟩) hb).trans c0⟩) .inr)
    clear ihl ihr K ht;refine callsIn_of_wp func255 rfl h6 ?_ P;simp only[ntmps255,Y6,VV,VZ,Y7,Y8,Y9,Za,Zb,Zc,Zd,VD]
    gi_wp2_with (first
     |((try refine⟨D _,?_⟩);gi_at_call 255;refine y.mono ?_;clear y;rintro e g (⟨rfl,af,c,aj⟩|⟨rfl,q,T,O⟩)))
    ·go_ret;exact .inl ⟨rfl,by simpa using af,c⟩
    ·go_ret;exact .inr ⟨rfl,q,by simpa using T,O⟩
   ·rw[U0 q2] at A;have aw:x.f<b:=UI
    obtain⟨y3,y4,rfl,I,ac⟩:=Zt.1 A;clear A;simp only[VU] at hN
    by_cases q3:a<x.t
    ·rw[U1 q3] at I
     obtain⟨o,rfl,an⟩:∃ o:{x:aE.It // Q x},y3=[o]/\o.1=x:=by
      rcases y3 with _|⟨o,_|⟨z,r⟩⟩
      ·simp at I
      ·exact⟨o,rfl,by simpa using I⟩
      ·simp at I
     subst an;simp only[VV,VZ] at hN
     have A:∀ g,J (pre++C) g->U9 n₀ W g->YieldAt F (n-1) prog l #[.pointer (U4 ⟨o.1.v,0,U3⟩)] g fun e M =>
       (e=.returned (.bool U6)/\J (pre++C++[o]) M/\U9 n₀ W M/\M.cell? ⟨j,7,U3⟩=U4 (.pointer U)/\cR M tr (.pointer U) Fr)\/(e=.returned (.bool U5)/\Jx (pre++C++[o]) M):=fun g af c =>
      YieldAt.mono (hY (n-1) _ o g af UQ) fun e M h=>h.elim
       (fun ⟨he,hj,E⟩=>.inl ⟨he,hj,c.trans E,((c.trans E).cell (p:=⟨j,7,U3⟩) hb).trans c7,K.r.fl (c.trans E) R⟩) .inr
     have y:=(ihl (n-1) pl Fl pre C W K.l ag ad hJ UI).mono (R':=fun e g =>
       (e=.returned (.bool U6)/\g.cell? ⟨j,0,U3⟩=U4 (.int .i64 o.1.f)/\g.cell? ⟨j,1,U3⟩=U4 (.int .i64 o.1.t)/\g.cell? ⟨j,3,U3⟩=U4 (.pointer (U4 ⟨o.1.v,0,U3⟩))/\YieldAt F (n-1) prog l #[.pointer (U4 ⟨o.1.v,0,U3⟩)] g fun e M =>
        (e=.returned (.bool U6)/\J (pre++C++[o]) M/\U9 n₀ W M/\M.cell? ⟨j,7,U3⟩=U4 (.pointer U)/\cR M tr (.pointer U) Fr)\/(e=.returned (.bool U5)/\Jx (pre++C++[o]) M)) \/
       (e=.returned (.bool U5)/\∃ q,q <+: C/\Jx (pre++q) g))
      (fun e g h=>h.elim (fun ⟨he,hj,c⟩=>.inl ⟨he,(c.cell (p:=⟨j,0,U3⟩) hb).trans c0,(c.cell (p:=⟨j,1,U3⟩) hb).trans c1,(c.cell (p:=⟨j,3,U3⟩) hb).trans c3,A g hj c⟩) .inr)
     clear A ihl K ht;refine callsIn_of_wp func255 rfl h6 ?_ P;simp only[ntmps255,Y6,VV,VZ,Y7,Y8,Y9,Za,Zb,Zc,Zd,VD]
     gi_wp2_with (first
      |((try refine⟨D _,?_⟩);gi_at_call 255;refine y.mono ?_;clear y;rintro e g (⟨rfl,aj,aq,ax,fn,ar,ak,au,hy,hR⟩|⟨rfl,q,T,O⟩))
      |((try refine⟨D _,?_⟩);refine hR.mono ?_;clear hR;rintro e M (⟨rfl,ab,E,ao,X⟩|⟨rfl,al⟩))
      |((try refine⟨D _,?_⟩);gi_at_call 255;refine (ihr (n-1) U Fr _ y4 _ X R ac ab UQ).mono ?_;rintro e W3 (⟨rfl,aa,Y⟩|⟨rfl,q,T,V⟩)))
     ·go_ret;exact .inl ⟨rfl,by simpa[VP] using aa,E.trans Y⟩
     ·go_ret;obtain⟨r,ae⟩:=T;exact .inr ⟨rfl,C++o :: q,⟨r,by simp[<- ae]⟩,by simpa[VP] using V⟩
     ·go_ret;exact .inr ⟨rfl,C++[o],⟨y4,by simp⟩,by simpa[VP] using al⟩
     ·go_ret;exact .inr ⟨rfl,q,T.trans ⟨_,rfl⟩,O⟩
    ·rw[U0 q3] at I;obtain rfl:y3=[]:=Zs.1 I;have av:x.t<=a:=UI
     simp only[VZ] at hN
     have y:=(ihl (n-1) pl Fl pre C W K.l ag ad hJ UI).mono (R':=fun e g =>
       (e=.returned (.bool U6)/\g.cell? ⟨j,0,U3⟩=U4 (.int .i64 x.f)/\g.cell? ⟨j,1,U3⟩=U4 (.int .i64 x.t)/\g.cell? ⟨j,7,U3⟩=U4 (.pointer U)/\cR g tr (.pointer U) Fr/\J (pre++C) g/\U9 n₀ W g) \/
       (e=.returned (.bool U5)/\∃ q,q <+: C/\Jx (pre++q) g))
      (fun e g h=>h.elim (fun ⟨he,hj,c⟩=>.inl ⟨he,(c.cell (p:=⟨j,0,U3⟩) hb).trans c0,(c.cell (p:=⟨j,1,U3⟩) hb).trans c1,(c.cell (p:=⟨j,7,U3⟩) hb).trans c7,K.r.fl c R,hj,c⟩) .inr)
     clear ihl K ht;refine callsIn_of_wp func255 rfl h6 ?_ P;simp only[ntmps255,Y6,VV,VZ,Y7,Y8,Y9,Za,Zb,Zc,Zd,VD]
     gi_wp2_with (first
      |((try refine⟨D _,?_⟩);gi_at_call 255;refine y.mono ?_;clear y;rintro e g (⟨rfl,aj,aq,ao,X,ab,E⟩|⟨rfl,q,T,O⟩))
      |((try refine⟨D _,?_⟩);gi_at_call 255;refine (ihr (n-1) U Fr _ y4 _ X R ac ab UQ).mono ?_;rintro e W3 (⟨rfl,aa,Y⟩|⟨rfl,q,T,V⟩)))
     ·refine⟨fun _ h=>(by cases h),?_⟩
      gi_wp2_with (first
       |((try refine⟨D _,?_⟩);gi_at_call 255;refine (ihr (n-1) U Fr _ y4 _ X R ac ab UQ).mono ?_;rintro e W3 (⟨rfl,aa,Y⟩|⟨rfl,q,T,V⟩)))
      ·go_ret;exact .inl ⟨rfl,by simpa[VP] using aa,E.trans Y⟩
      ·go_ret;obtain⟨r,ae⟩:=T;exact .inr ⟨rfl,C++q,⟨r,by simp[<- ae]⟩,by simpa[VP] using V⟩
     ·go_ret;exact .inr ⟨rfl,q,T.trans ⟨_,rfl⟩,O⟩
theorem Tu(W:U7):W.grownBy W.drew U3:=⟨rfl,rfl,rfl,Nat.le_refl _,fun _ _ _=>rfl⟩
theorem Tk(l O N M n₀:UY)(C o:UY)(y:UW Addr)(a b:UZ)(t:aE.S)(G:UV UY){Q:aE.It->Prop}(xs:UV {x:aE.It // Q x})(c:xs.map (·.1)=aE.meet a b t)(J j:UV {x:aE.It // Q x}->U7->Prop)
  (E:∀ m pre x W,J pre W->pre.length<xs.length->YieldAt Zg m prog l #[.pointer (U4 ⟨x.1.v,0,U3⟩)] W fun e W' =>
   (e=.returned (.bool U6)/\J (pre++[x]) W'/\U9 n₀ W W')\/(e=.returned (.bool U5)/\j (pre++[x]) W'))
  (g:∀ pre W,J pre W->J pre W.drew)
  (W:U7) (X:W.cell? ⟨O,0,U3⟩=U4 (.pointer (U4 ⟨C,o,U3⟩))) (V:W.cell? ⟨N,0,U3⟩=U4 (.int .i64 a)) (U:W.cell? ⟨M,0,U3⟩=U4 (.int .i64 b)) (Y:W.cell? ⟨C,o,U3⟩=U4 (.pointer y)) (F:cR W t (.pointer y) G) (H:∀ i∈G,i<n₀) (I:J [] W):
  Va prog 254 #[.func (.yield l) #[] #[],.pointer (U4 ⟨O,0,U3⟩),.pointer (U4 ⟨N,0,U3⟩),.pointer (U4 ⟨M,0,U3⟩)] W fun e W'=>(∃ v,e=.returned v) /\
   ((∃ ys,ys=xs/\J ys W')\/(∃ pre,pre <+: xs/\j pre W')):=by
 have D:=callsIn_wide.1 (RN Zg rfl trivial rfl l n₀ xs.length a b J j E t 0 y G [] xs W.drew (F.same (aF.refl _ _).drew) H c (g _ _ I) UJ)
 have z:=aC (D.mono (R':=fun e W'=>(∃ K,e=.returned (.bool K))/\((∃ ys,ys=xs/\J ys W')\/(∃ pre,pre <+: xs/\j pre W')))
  (fun e W' h=>h.elim (fun ⟨A,T,_⟩=>⟨⟨_,A⟩,.inl ⟨_,rfl,by simpa using T⟩⟩) (fun ⟨A,q,R,P⟩=>⟨⟨_,A⟩,.inr ⟨q,R,by simpa using P⟩⟩)))
 clear D E g I c F H
 go_in
 go_upto_region 0 with fail
 go_region_with (first
  |(go_at_call 255;refine z.y.mono ?_;rintro e W1 ⟨⟨K,rfl⟩,f⟩))
 all_goals
  go_wp2
  go_end0
  exact⟨⟨_,rfl⟩,f⟩
open aA (aM St dB kept dZ cS cN gC cA bW gJ ec gD n8 Inv uniq tY xR)
def QI(r:Raw)(x:aE.It):Prop:=∃ g∈r.eg,x.v=g.eb/\x.n=g.e.id
theorem RJ(f:Of s r)(j:(r.eg.map (·.e.id)).Nodup)(o:i<r.tg.length){a b:UZ}{z:aE.It}(c:z∈aE.meet a b r.tg[i].T):QI r z:=by
 obtain⟨_,y,t⟩:=f.th i o;rw[aE.xJ a b _ y] at c;obtain⟨e,q,_,sp,_,rfl⟩:=(t z).1 (List.mem_filter.1 c).1;obtain⟨g,h,rfl⟩:=f.get q;exact⟨g,h,Bl j h,rfl⟩
def xm(r:Raw):(l:UV aE.It)->(∀ z∈l,QI r z)->UV {x:aE.It // QI r x}
 |[],_=>[]
 |z :: l,h=>⟨z,h z UJ⟩ :: xm r l (fun y a=>h y (by simp[a]))
theorem Hz(r:Raw):∀ (l:UV aE.It)(h:∀ z∈l,QI r z),(xm r l h).map (·.1)=l
 |[],_=>rfl
 |z :: l,h=>by simp[xm,Hz r l]
structure jK(s:St)(M:UV aE.It)(l:UV (aM × U8)):Prop where
 len:l.length=(uniq M).length
 at_:∀ (i:UY) (h:i<l.length),l[i].1∈s.es/\l[i].1.id=((uniq M)[i]'UI).n
 nd:(l.map (·.1.id)).Nodup
theorem jK.nil(s:St):jK s [] []:=⟨rfl,fun i h=>by simp at h,by simp⟩
theorem jK.any{M:UV aE.It}(h:jK s M l)(n:UZ):l.any (fun p=>p.1.id==n)=(uniq M).any (fun u=>decide (u.n=n)):=by
 rw[Bool.eq_iff_iff,XQ,XQ];constructor
 ·rintro ⟨p,g,e⟩;obtain⟨i,a,rfl⟩:=XN g;have:=h.at_ i a;exact⟨_,Zr (by have:=h.len;omega:i<(uniq M).length),by simpa[<- this.2] using e⟩
 ·rintro ⟨u,f,e⟩;obtain⟨i,a,rfl⟩:=XN f;have c:i<l.length:=by rw[h.len];exact a
  have:=h.at_ i c;exact⟨_,Zr c,by rw[this.2];simpa using e⟩
theorem jK.JG{M:UV aE.It}(h:jK s M l){z:aE.It}(c:l.any (fun p=>p.1.id==z.n)=U6):jK s (M++[z]) l:=by
 have e:uniq (M++[z])=uniq M:=by rw[xR];unfold tY;rw[<- h.any z.n,c];rfl
 exact⟨by rw[e];exact h.len,fun i a=>by have:=h.at_ i a;simp only[e];exact this,h.nd⟩
theorem jK.rA{M:UV aE.It}(h:jK s M l){z:aE.It}(j:uniq (M++[z])=uniq M++[z]){e:aM}(q:e∈s.es)(o:e.id=z.n){sp:U8}(g:i<(l++[(e,sp)]).length):(l++[(e,sp)])[i].1∈s.es/\(l++[(e,sp)])[i].1.id=((uniq (M++[z]))[i]'(by rw[j];have:=h.len;simp at g ⊢;omega)).n:=by
 have c:=h.len;simp only[j];rw[VU] at g
 by_cases a:i<l.length
 ·rw[YW a,YW UI];exact h.at_ i a
 ·have f:i=l.length:=by simp at g;omega
  subst f;rw[Zu (zq _),Zu UI];simp[c,q,o]
theorem jK.new{M:UV aE.It}(h:jK s M l){z:aE.It}(g:l.any (fun p=>p.1.id==z.n)=U5){e:aM}(C:e∈s.es)(f:e.id=z.n)(sp:U8):jK s (M++[z]) (l++[(e,sp)]):=by
 have j:uniq (M++[z])=uniq M++[z]:=by rw[xR];unfold tY;rw[<- h.any z.n,g];rfl
 have a:=h.len;refine⟨by rw[j];simp[a],fun i A=>?_,?_⟩
 ·exact jK.rA h j C f A
 ·rw[We,List.nodup_append];refine⟨h.nd,by simp,fun x q y o=>?_⟩;obtain⟨p,t,rfl⟩:=V9.1 q;have:y=e.id:=by simpa using o
  subst this;intro c;have:=Zq.1 g p t;simp[c,f] at this
theorem GK:∀ {l m:UV UZ},l.Nodup->(∀ x∈l,x∈m)->l.length<=m.length
 |[],_,_,_=>zN _
 |a :: l,m,hn,h=>by
  rw[List.nodup_cons] at hn;have f:=h a UJ;have:=GK (l:=l) (m:=m.erase a) hn.2 (fun x c=>(List.mem_erase_of_ne (show x≠a from fun e=>hn.1 (by rw[<- e];exact c))).2 (h x (by simp[c])));rw[List.length_erase_of_mem f] at this;have:=List.length_pos_of_mem f;simp;omega
theorem jK.small{M:UV aE.It}(h:jK s M l):l.length<=s.es.length:=by
 have:=GK (m:=s.es.map (·.id)) h.nd (fun x a=>by
  obtain⟨p,c,rfl⟩:=V9.1 a;obtain⟨i,f,rfl⟩:=XN c
  exact V9.2 ⟨_,(h.at_ i f).1,rfl⟩)
 simpa using this
theorem Bb{size:UY}(h:w.ownsRow B e size v n xs)(c:v.ownBlock=U4 b):∃ cs k,w.heap[b]?=U4 (.cells cs e k):=by
 rcases h.2 with ⟨rfl,_⟩|⟨g,cap,f,rfl,_,a,_⟩
 ·cases c
 ·obtain rfl:g=b:=by simpa[Wr] using c
  exact⟨_,_,a⟩
theorem gI.uh(h:gI wx B aJ v l){e:aM}{sp:U8}(y:w2.ownsRow wx.heap.size 60 2 sp e.aL.length (e.aL.flatMap fC))(k:U9 wx.heap.size wx w2)(E:B<=wx.heap.size)(D:∀ b,B<=b->aJ b=U3)(C:aF v.ownBlock.toList w2 w3)(f:w3.ownsRow B 58 6 v' (l.length+1) (l.flatMap ef++ef (e,sp))):
  gI w3 B aJ v' (l++[(e,sp)]):=by
 have o:∀ b,v.ownBlock=U4 b->b<wx.heap.size:=fun b a=>(h.own.lt b a).2
 have z:∀ p∈l,w3.ownsRow B 60 2 p.2 p.1.aL.length (p.1.aL.flatMap fC):=fun p c=>dO (ey (h.sp p c).1.own k) C (fun b a g=>(h.sp p c).2 b a (WI.1 g))
 have j:w3.ownsRow B 60 2 sp e.aL.length (e.aL.flatMap fC):=dO (Yq y E) C (fun b a g=>by have G:=(y.lt b a).1;have F:=o b (WI.1 g);omega)
 have A:∀ {q:U8}{n:UY}{xs:UV U8},w3.ownsRow B 60 2 q n xs->∀ b,q.ownBlock=U4 b->v'.ownBlock≠U4 b:=fun t b a g=>by
  obtain⟨c1,K,I⟩:=Bb t a;obtain⟨M,J,H⟩:=Bb f g;have:=I.symm.trans H;simp at this
 refine⟨?_,fun b a=>D b (f.lt b a).1,fun p c=>?_,?_⟩
 ·rw[VU,Wj];have:[(e,sp)].flatMap ef=ef (e,sp):=UJ
  rw[this];exact f
 ·rcases Vr.1 c with c|c
  ·exact⟨⟨z p c,(h.sp p c).1.no⟩,A (z p c)⟩
  ·have:p=(e,sp):=Yo.1 c;subst this;exact⟨⟨j,fun b a=>D b (j.lt b a).1⟩,A j⟩
 ·refine List.pairwise_append.2 ⟨h.pw,List.pairwise_singleton _ _,fun p c q t b a g=>?_⟩;rw[Yo.1 t] at g;have G:=(y.lt b g).1;have F:=((h.sp p c).1.own.lt b a).2;omega
theorem S5(p:UW Addr)(a b:UZ)(w:U7):
  Va prog 207 #[.pointer p,.int .i64 a,.int .i64 b] w fun e w'=>e=.returned (.func (.func 254) #[] #[.pointer (U4 ⟨w.heap.size,0,U3⟩),.pointer (U4 ⟨w.heap.size+1,0,U3⟩),.pointer (U4 ⟨w.heap.size+2,0,U3⟩)])/\w'=((w.alloc (.cells #[.pointer p] 301)).alloc (.cells #[.int .i64 a] 3)).alloc (.cells #[.int .i64 b] 3):=by
 go_in
 go_wp2
 go_ret;exact⟨rfl,rfl⟩
theorem RM(n:UY)(r:Raw)(z y q n₀ f o:UY)(g:UW Addr)(a b:UZ)(t:aE.S)(G:UV UY)(xs:UV {x:aE.It // QI r x})(h:xs.map (·.1)=aE.meet a b t)(w:U7)(N:w.cell? ⟨z,0,U3⟩=U4 (.pointer (U4 ⟨f,o,U3⟩)))(M:w.cell? ⟨y,0,U3⟩=U4 (.int .i64 a))(K:w.cell? ⟨q,0,U3⟩=U4 (.int .i64 b))(E:w.cell? ⟨f,o,U3⟩=U4 (.pointer g))(H:cR w t (.pointer g) G)(A:∀ i∈G,i<n₀)(C:n₀<=w.heap.size):
  SeqStopsK Zg n prog 254 #[.pointer (U4 ⟨z,0,U3⟩),.pointer (U4 ⟨y,0,U3⟩),.pointer (U4 ⟨q,0,U3⟩)] (fun x:{x:aE.It // QI r x}=>#[Value.pointer (U4 ⟨x.1.v,0,U3⟩)]) (U9 n₀) (fun ys=>ys=xs) (fun pre=>pre <+: xs) xs.length w:=by
 intro l J P W c I _ F O;refine callsIn_wide.2 ?_;exact Tk l z y q n₀ f o g a b t G xs h J P (fun m pre x W' j D=>YieldAt.ia rfl m (F pre x W' j D)) (fun pre W' j=>I pre W' _ U3 j (Tu W') (fun r e=>by cases e)) W (aN c N) (aN c M) (aN c K) (aN c E) (H.fl (c.mono C) A) A O
open aA (aM St dB kept dZ cS cN gC cA bW gJ ec gD n8 Inv uniq)
attribute [local go_sem] Y5
structure LI(w W:U7)(s:St)(aJ:UY->UW bB)(M:UV aE.It):Prop where
 bx:∃ v l,Boxed W (w.heap.size+1) 34 v/\gI W (w.heap.size+5) aJ v l/\jK s M l
 bl:U9 w.heap.size w W
 sz:w.heap.size+5<=W.heap.size
theorem Gn{row:UW UY}{size:UY}(h:W.ownsRow B e size v n xs)(j:W.grownBy W' row)(f:∀ r,row=U4 r->∃ o:Obj,W.heap[r]?=U4 o/\o.isCells=U5):W'.ownsRow B e size v n xs:=by
 refine h.kept j ?_;rcases h.2 with ⟨rfl,_⟩|⟨g,cap,y,rfl,_,a,_⟩
 ·exact .inl rfl
 ·refine .inr fun t=>?_
  obtain⟨o,c,q⟩:=f g (by simpa[Wr] using t.symm);rw[a] at c;cases c;cases q
theorem NZ(w:U7)(s:St)(r:Raw)(aJ:UY->UW bB)(t:w.heap.size<=B):OwnFrom B (fun (pre:UV {x:aE.It // QI r x}) W=>LI w W s aJ (pre.map (·.1))):=by
 intro pre W W' row h f a;have g:∀ r,row=U4 r->∃ o:Obj,W.heap[r]?=U4 o/\o.isCells=U5:=fun r e=>(a r e).2
 obtain⟨v,l,q,c,tl⟩:=h.bx;exact⟨⟨v,l,xS q f g,⟨Gn c.own f g,c.no,fun p j=>⟨⟨Gn (c.sp p j).1.own f g,(c.sp p j).1.no⟩,(c.sp p j).2⟩,c.pw⟩,tl⟩,h.bl.grown f h.bl.size (fun k e=>Vg t (a k e).1),Vg h.sz f.size⟩
theorem RA(h:U9 W.heap.size W W'):KeepsFrom B W W':=⟨h.size,fun k _ _ a _=>(h.block k (YR.1 a).1).trans a⟩
theorem Sv(X:U7)(p x y:U8)(a c f:TypeId):U9 X.heap.size X (((X.alloc (.cells #[p] a)).alloc (.cells #[x] c)).alloc (.cells #[y] f)).drew/\(((X.alloc (.cells #[p] a)).alloc (.cells #[x] c)).alloc (.cells #[y] f)).drew.cell? ⟨X.heap.size,0,U3⟩=U4 p/\(((X.alloc (.cells #[p] a)).alloc (.cells #[x] c)).alloc (.cells #[y] f)).drew.cell? ⟨X.heap.size+1,0,U3⟩=U4 x/\(((X.alloc (.cells #[p] a)).alloc (.cells #[x] c)).alloc (.cells #[y] f)).drew.cell? ⟨X.heap.size+2,0,U3⟩=U4 y/\(((X.alloc (.cells #[p] a)).alloc (.cells #[x] c)).alloc (.cells #[y] f)).drew.heap.size=X.heap.size+3:=by
 have j:=Zi X a p;have h:=Zi (X.alloc (.cells #[p] a)) c x;have g:=Zi ((X.alloc (.cells #[p] a)).alloc (.cells #[x] c)) f y;simp only[Zj] at h g;exact⟨((((zr _ X).alloc (zq _) _).alloc UJ _).alloc UQ _).drew,((j.alloc _).alloc _).cell,(h.alloc _).cell,g.cell,by rw[heap_drew];simp⟩
theorem yG{F:Fence}{P:Program}(w:U7){y:Array Oper}{o:Oper}{a:Act}{K:Act->U7->Prop}{Q:Exit->Act->U7->Prop}{E:Prop}
  (S:o.guard=U3) (s x:Operand) (t:TypeId) (q:o.op=Op.call { callee:=Callee.builtin Builtin.append,args:=#[s,x],argTypes:=#[t,t] })
  (h:UY) (e:TypeId) (i:TypeInfo) (z:U8) (size g:UY) (h1:P.underlying t=U4 (.slice e)) (h2:P.info? e=U4 i) (h3:i.zero=U4 z) (h4:i.size=size) (Y:i.bytes=g) (X:z.cells.size=size) (V:0<size)
  (v:U8) (k:UY) (xs:UV U8) (O:a.eval s=v) (C:w.ownsRow h e size v k xs) (H:Addr) (m c:UY) (f:UV U8) (M:a.eval x=.slice (U4 H) m c) (R:f.length=m*size)
  (T:∀ j u,f[j]?=U4 u->w.cell? (H.add j)=U4 u) (G:∀ u∈f,u.oneCell'=U6) (b1:k+m<=maxLen) (b2:(k+m)*g<=140737488355328) (b3:h<=w.heap.size)
  (U:∀ v' w',w'.ownsRow h e size v' (k+m) (xs++f)->w.grownBy w' v.ownBlock->K (a.put o.dst v') w'):
  if Yt o (yielded y a.tmps)=U6 then Oper.wpIn F n P o a w K Q else E:=by
 have N:Yt o (yielded y a.tmps)=U6:=by simp[Yt,S]
 rw[U1 N];obtain⟨v',w',A,J,I,r3⟩:=run_append_own (P:=P) w h t o.type e i z size g h1 h2 h3 h4 Y X V v k xs C H m c f R T G b1 b2 b3;unfold Oper.wpIn;refine⟨?_,?_⟩
 ·simp[Oper.about,q,resolve,Target.leads,Sem.run_pure]
 ·rw[Oper.semAt_plain F _ _ (by rw[q];intro c D;cases D)];simp[execOp,q,resolve,invoke,builtin,O,M,A,Result.andThen];exact U v' w' J I
theorem xT(h:W.cell? ⟨b,i,U3⟩=U4 v)(o:Obj):(W.alloc o).cell? ⟨b,i,U3⟩=U4 v:=(zo (w:=W) (Below.heap_alloc _ o _ (Vh _ _ h))).trans h
theorem xw{M:UV aE.It}(h:LI w W s aJ M)(q:Boxed W (w.heap.size+1) 34 (.slice a1 tl.length c1))(y:gI W (w.heap.size+5) aJ (.slice a1 tl.length c1) tl)(g:U9 W.heap.size W w1)(f:U9 w1.drew.heap.size w1.drew w2)(o:Obj)
  (a:(w2.alloc o).grownBy w3 (YZ a1 tl.length c1).ownBlock):Boxed w3 (w.heap.size+1) 34 (.slice a1 tl.length c1):=by
 have z:=h.sz;have j:U9 W.heap.size W w1.drew:=g.drew;have c:U9 W.heap.size W w2:=j.trans (f.mono j.size);have t:Boxed w2 (w.heap.size+1) 34 (.slice a1 tl.length c1):=(c.block _ UI).trans q;exact (t.alloc o).kept a (fun e=>by have:=(y.own.lt _ e.symm).1;omega)
theorem xx{M:UV aE.It}(h:LI w W s aJ M)(R:Boxed W (w.heap.size+1) 34 (.slice a1 tl.length c1))(N:gI W (w.heap.size+5) aJ (.slice a1 tl.length c1) tl)(G:jK s M tl)(K:U9 W.heap.size W w1){e:aM}{sp:U8}(T:w2.ownsRow w1.drew.heap.size 60 2 sp e.aL.length (e.aL.flatMap fC))(J:U9 w1.drew.heap.size w1.drew w2)(o:Obj)
  (y:(w2.alloc o).grownBy w3 (YZ a1 tl.length c1).ownBlock) (D:w3.ownsRow (w.heap.size+5) 58 6 v' (tl.length+1) (tl.flatMap ef++ef (e,sp))) (X:∀ b,w.heap.size<=b->aJ b=U3) {z:aE.It}(Y:tl.any (fun p=>p.1.id==z.n)=U5) (V:e∈s.es) (U:e.id=z.n):
  KeepsFrom B W (w3.setCell ⟨w.heap.size+1,0,U3⟩ v')/\U9 w.heap.size W (w3.setCell ⟨w.heap.size+1,0,U3⟩ v')/\LI w (w3.setCell ⟨w.heap.size+1,0,U3⟩ v') s aJ (M++[z]):=by
 have P:=h.sz;have H:U9 W.heap.size W w1.drew:=K.drew;have a:U9 W.heap.size W w2:=H.trans (J.mono H.size);have g:aF (YZ a1 tl.length c1).ownBlock.toList w2 w3:=aF.grown ((aF.refl _ w2).alloc _) y (fun k j=>.inl (WI.2 j));have E3:=N.uh (Yq T H.size) a P (fun b A=>X b UI) g D;have f:∀ b,(YZ a1 tl.length c1).ownBlock=U4 b->w.heap.size+5<=b:=fun b A=>(N.own.lt b A).1
 have C:=aF.aX (w.heap.size+1) w3 0 v'
 have S:∀ b,b<W.heap.size->b≠w.heap.size+1->(YZ a1 tl.length c1).ownBlock≠U4 b->(w3.setCell ⟨w.heap.size+1,0,U3⟩ v').heap[b]?=W.heap[b]?:=fun b A h1 h2=>by
  rw[C.block b (zL (zL A a.size) g.size) (fun c=>h1 (Yo.1 c)),g.block b (zL A a.size) (fun c=>h2 (WI.1 c)),a.block b A]
 have I:Boxed w3 (w.heap.size+1) 34 (.slice a1 tl.length c1):=(g.block _ (by have:=a.size;omega) (fun c=>by have:=f _ (WI.1 c);omega)).trans ((a.block _ UI).trans R);have t:W.heap.size<=(w3.setCell ⟨w.heap.size+1,0,U3⟩ v').heap.size:=Vg a.size (Vg g.size C.size);have F:U9 w.heap.size W (w3.setCell ⟨w.heap.size+1,0,U3⟩ v'):=⟨C.os.trans (g.os.trans a.os),C.tape.trans (g.tape.trans a.tape),C.output.trans (g.output.trans a.output),t,fun b A=>S b UI UI (fun c=>by have:=f _ c;omega)⟩;refine⟨⟨t,fun k o' _ j E=>(S k (YR.1 j).1 (fun O=>?_) (fun O=>?_)).trans j⟩,F,⟨⟨v',tl++[(e,sp)],I.set v',E3.off C (fun x c=>by have:=Yo.1 c;omega),G.new Y V U sp⟩,h.bl.trans F,Vg P t⟩⟩
 ·subst O;rw[show W.heap[w.heap.size+1]?=_ from R] at j
  cases j;cases E
 ·obtain⟨cs,q,e2⟩:=Bb N.own O;rw[e2] at j
  cases j;cases E
def Fg(Q:Exit->Act->U7->Prop):Exit->Act->U7->Prop
 |.panic _,_,_=>False
 |.normal,a,w=>Q .normal a w
 |.ret,a,w=>Q .ret a w
 |.exit i,a,w=>Q (.exit i) a w
 |.goto t,a,w=>Q (.goto t) a w
 |.outgrown,a,w=>Q .outgrown a w
theorem Qf{Q:Exit->Act->U7->Prop}:∀ e a w,Fg Q e a w->Q e a w
 |.panic _,_,_,h=>h.elim
 |.normal,_,_,h=>h
 |.ret,_,_,h=>h
 |.exit _,_,_,h=>h
 |.goto _,_,_,h=>h
 |.outgrown,_,_,h=>h
theorem QH{Q:Exit->Act->U7->Prop}{a:Act}(h:Q .ret a w):Fg Q .ret a w:=h
theorem Hy(h:dS w d s r aJ)(hi:i<r.tg.length)(a b:UZ):
  Va prog 151 #[.pointer (U4 ⟨r.tg[i].tb,0,U3⟩),.agg #[.int .i64 a,.int .i64 b]] w fun e w'=>∃ v l,e=.returned v/\l.map (·.1)=aA.kS r.tg[i].name a b s.es/\gI w' w.heap.size aJ v l/\U9 w.heap.size w w':=by
 obtain⟨i0,aj,ag,af,ae⟩:=info_parts SG;obtain⟨ul,us,Fl,Fs,th,az⟩:=h.dk.th i hi;have V:=aC h;have a3:r.tg[i].tb<w.heap.size:=Vh _ _ th.c0;have xa:((w.alloc (.cells #[.int .i64 a,.int .i64 b] 60)).alloc (.cells #[.slice U3 0 0] 34)).cell? ⟨w.heap.size,0,U3⟩=U4 (.int .i64 a):=UJ
 have xb:((w.alloc (.cells #[.int .i64 a,.int .i64 b] 60)).alloc (.cells #[.slice U3 0 0] 34)).cell? ⟨w.heap.size,1,U3⟩=U4 (.int .i64 b):=UJ
 have bt:=Zi (w.alloc (.cells #[.int .i64 a,.int .i64 b] 60)) 34 (.slice U3 0 0);have hX:U9 w.heap.size w ((w.alloc (.cells #[.int .i64 a,.int .i64 b] 60)).alloc (.cells #[.slice U3 0 0] 34)):=((zr _ _).alloc (zq _) _).alloc UJ _;have an:((w.alloc (.cells #[.int .i64 a,.int .i64 b] 60)).alloc (.cells #[.slice U3 0 0] 34)).heap.size=w.heap.size+2:=UJ
 rw[Zj] at bt;have HX:=aC (zA hX (zA an bt));have HT:=aC th;clear h th hX bt;refine (callsIn_wide (n:=3)).1 ?_;refine callsIn_of_wp_marks func151 rfl trivial ?_ rfl;simp only[ntmps151,Y6,VV,VZ,Y7,Y8,Y9,Za,Zb,Zc,Zd,VD];refine wpIn_wide.2 (Code.wp_mono Qf ?_);generalize r.tg[i].tb=tb at *
 go_upto_region 2 with fail
 change YS _ _ _ _ ((w.alloc (.cells #[.int .i64 a,.int .i64 b] 60)).alloc (.cells #[.slice U3 0 0] 34));generalize (w.alloc (.cells #[.int .i64 a,.int .i64 b] 60)).alloc (.cells #[.slice U3 0 0] 34)=X at *;have ME:=aC (S5 (U4 ⟨tb,3,U3⟩) a b X.drew);have ax:X.drew.heap.size=w.heap.size+2:=an;rw[ax] at ME
 go_region_with (first
  |(go_at_call 207;refine ME.y.mono ?_;rintro e w1 ⟨rfl,rfl⟩))
 all_goals
  obtain⟨k0,z1,z2,z3,z4⟩:=Sv X (.pointer (U4 ⟨tb,3,U3⟩)) (.int .i64 a) (.int .i64 b) 301 3 3;rw[an] at z1 z2 z3 z4
  go_wp2_with fail
  generalize (((X.alloc (.cells #[.pointer (U4 ⟨tb,3,U3⟩)] 301)).alloc (.cells #[.int .i64 a] 3)).alloc (.cells #[.int .i64 b] 3)).drew=Z at *;have BZ:U9 w.heap.size w Z:=HX.y.1.trans (k0.mono HX.y.1.size);have L0:Hid (LI w Z s aJ ([]:UV aE.It)):=⟨⟨_,[],(k0.block _ UI).trans HX.y.2.2,gI.nil _ _ _,jK.nil s⟩,BZ,by omega⟩;have ai:=Hz r (aE.meet a b r.tg[i].T) (fun z hz=>RJ V.y.of V.y.dk.ni hi hz);generalize xm r (aE.meet a b r.tg[i].T) _=xs at ai;have MS:=aC (RM 2 r (w.heap.size+2) (w.heap.size+2+1) (w.heap.size+2+2) w.heap.size tb 3 us a b r.tg[i].T Fs xs ai Z z1 z2 z3 (aN BZ HT.y.c3) (HT.y.sp.fl BZ (fun k hk=>HT.y.lt k (by simp[hk]))) (fun k hk=>HT.y.lt k (by simp[hk])) UI);have ay:=aC ai;have h5:w.heap.size<=Z.heap.size:=UI
  clear k0 z1 z2 z3 ai xa xb ME;refine (wpIn_wide (n:=3)).1 ?_
  refine wpIn_rangeFunc_ownG rfl UI (gf:=254) (lb:=#[.pointer (U4 ⟨w.heap.size+2,0,U3⟩),.pointer (U4 ⟨w.heap.size+2+1,0,U3⟩),.pointer (U4 ⟨w.heap.size+2+2,0,U3⟩)]) rfl trivial (enters_of func254 UO rfl) MS.y belowK_t (belowK_b h5) (zr _ _) (fun _=>rfl)
   (fun pre W=>LI w W s aJ (pre.map (·.1))) (fun _ _ _=>False) (NZ w s r aJ h5) (fun _ _ _ _ _ hs _ _=>hs) L0.y
   (fun x=>{ tmps:=#[.pointer (U4 ⟨tb,0,U3⟩),.agg #[.int .i64 a,.int .i64 b],undef,.pointer (U4 ⟨w.heap.size,0,U3⟩),.slice U3 0 0,.pointer (U4 ⟨w.heap.size+1,0,U3⟩),.pointer (U4 ⟨x.1.v,0,U3⟩),.pointer (U4 ⟨tb,0,U3⟩),.pointer (U4 ⟨tb,0,U3⟩),.pointer (U4 ⟨tb,3,U3⟩),.pointer (U4 ⟨w.heap.size,0,U3⟩),.int .i64 a,.pointer (U4 ⟨w.heap.size,1,U3⟩),.int .i64 b,.func (.func 254) #[] #[.pointer (U4 ⟨w.heap.size+2,0,U3⟩),.pointer (U4 ⟨w.heap.size+2+1,0,U3⟩),.pointer (U4 ⟨w.heap.size+2+2,0,U3⟩)],.pointer (U4 ⟨x.1.v,0,U3⟩),undef,undef,undef,undef,undef,undef,undef,undef,undef,undef,undef],defers:=[] }) ?assign ?body ?done ?stop
  case assign =>
   intro l x W K o
   gi_wp2
   exact o
  case body =>
   rintro l pre x W h a6;obtain⟨g,hg,ev,en⟩:=x.2;obtain⟨v,tl,hv,er,S⟩:=h.bx;obtain⟨a1,c1,rfl⟩:=iy er.own;have aw:=hv.cell;have a5:=Vg S.small (lY V.y.aS);have dW:=V.y.dk.later h.bl;have CT:=aC (Uq tl _ (w.heap.size+5) g.eb g.e.id W er.own (fun p hp=>by obtain⟨x1,x2,x3⟩:=iy (er.sp p hp).1.own;exact⟨x1,_,x2,x3⟩) (dW.en g hg).1.en.c0 UI);have F:=aC (zA h (zA hv (zA er S)));have a4:=h.sz;have TE:=aC (fun W' (k:U9 w.heap.size w W')=>V.y.lH k hg);clear h hv er S dW;rw[<- ev] at CT;simp only[<- ev] at TE;have R:=aC (zA ev en);clear ev en
   cases I:tl.any (fun p=>p.1.id==g.e.id)
   ·rw[I] at CT
    gi_wp2
    refine⟨trivial,?_⟩;refine (CallsIn.inRound l (callsIn_wide.2 CT.y)).mono ?_;rintro e w1 ⟨rfl,H⟩
    gi_wp2
    have au:prog.follows .mixedOrders=U6:=UO
    have C:Hid (U9 w.heap.size w w1/\U9 W.heap.size W w1):=⟨F.y.1.bl.trans (H.mono F.y.1.bl.size),H⟩;have ac:=aN H aw;have ao:=aC (TE.y w1.drew C.y.1.drew);clear TE CT H;refine wpIn_region_any au ?_;change wpAnyIn _ _ _ _ _ _ _ _ _ (World.drew _);refine wpAnyIn_ready (rs:=[0,1]) UO UJ ?_;refine Zv rfl (fun K o=>?_) (Zv rfl (fun K o=>?_) Zw)
    ·go_simp
     refine o _ _ ?_;clear o K;refine wpAnyIn_ready (rs:=[1]) UO UJ ?_;refine Zv rfl (fun K o=>?_) Zw
     go_simp
     refine o _ _ ?_;clear o K;refine wpAnyIn_ready (rs:=[2]) UO UJ ?_;refine Zv rfl (fun K o=>?_) Zw
     go_simp
     refine⟨trivial,(CallsIn.inRound l (callsIn_wide.2 ao.y)).mono ?_⟩;rintro e w2 ⟨v2,rfl,aq,rfl,G,A⟩;refine o _ _ ?_;clear o K;obtain⟨N,M,rfl⟩:=iy G;simp only[nU];have O:w2.cell? ⟨w.heap.size+1,0,U3⟩=U4 (.slice a1 tl.length c1):=aN A ac;have ar:w.heap.size+5<=w2.heap.size:=Vg (Vg F.y.1.sz C.y.2.size) A.size;have OW:=aC (ey (ey F.y.2.2.1.own C.y.2.drew) A);have S2:=aC (zA G A);clear G A;refine wpAnyIn_ready (rs:=[3]) UO UJ ?_;refine Zv rfl (fun K o=>?_) Zw
     go_simp
     refine o _ _ ?_;clear o K;have y:=xT O (.cells #[.int .i64 g.e.id,.int .i64 g.e.kind,.string g.e.aT,.int .i64 g.e.aH,.slice N g.e.aL.length M,.int .i64 g.e.bY] 58);obtain⟨P,t⟩:∃ P,P=w2.alloc (.cells #[.int .i64 g.e.id,.int .i64 g.e.kind,.string g.e.aT,.int .i64 g.e.aH,.slice N g.e.aL.length M,.int .i64 g.e.bY] 58):=⟨_,rfl⟩;rw[<- t] at y;rw[<- t];have J:Hid (P=w2.alloc (.cells (ef (g.e,.slice N g.e.aL.length M)).toArray 58)):=aC t;clear t;refine wpAnyIn_ready (rs:=[4]) UO UJ ?_;refine Zv rfl (fun K o=>?_) Zw;refine yG P rfl (.tmp 21) (.tmp 24) 34 rfl (w.heap.size+5) 58 i0 _ 6 72 underlying34 aj ag af ae rfl UK (.slice a1 tl.length c1) tl.length (tl.flatMap ef) rfl (by rw[J.y];exact OW.y.alloc _) ⟨w2.heap.size,0,U3⟩ 1 1 (ef (g.e,.slice N g.e.aL.length M)) rfl rfl (by rw[J.y];exact Wv (cs:=(ef (g.e,.slice N g.e.aL.length M)).toArray) (cC w2 _)) (by simp[ef,WD]) UR UI (by rw[J.y];simp;omega) ?_;intro v3 w3 q f;obtain⟨al,ak,rfl⟩:=iy q;refine o _ _ ?_;clear o K;rw[J.y] at f;have Y:=xw F.y.1 F.y.2.1 F.y.2.2.1 C.y.2 S2.y.2 _ f;have ab:=Y.cell;have aa:=Y.frozen;have G3:=aC (zA q f);clear q f Y J y;refine wpAnyIn_ready (rs:=[5]) UO UJ ?_;refine Zv rfl (fun K o=>?_) Zw
     go_simp
     refine o _ _ ?_;clear o K;refine wpAnyIn_done UO ?_ _;have E:=F.y;have U:=xx (B:=Z.heap.size) E.1 E.2.1 E.2.2.1 E.2.2.2 C.y.2 S2.y.1 S2.y.2 _ G3.y.2 G3.y.1 (fun b hb=>V.y.dk.none hb) (z:=x.1) (by rw[R.y.2];exact I) (V.y.of.mem hg) R.y.2.symm;refine⟨U.1,U.2.1,?_⟩;show LI w _ s aJ (Zx (fun x=>x.val) (pre++[x]));rw[We];exact U.2.2
    ·go_simp
     refine o _ _ ?_;clear o K;refine wpAnyIn_ready (rs:=[0,2]) UO UJ ?_;refine Zv rfl (fun K o=>?_) (Zv rfl (fun K o=>?_) Zw)
     ·go_simp
      refine o _ _ ?_;clear o K;refine wpAnyIn_ready (rs:=[2]) UO UJ ?_;refine Zv rfl (fun K o=>?_) Zw
      go_simp
      refine⟨trivial,(CallsIn.inRound l (callsIn_wide.2 ao.y)).mono ?_⟩;rintro e w2 ⟨v2,rfl,aq,rfl,G,A⟩;refine o _ _ ?_;clear o K;obtain⟨N,M,rfl⟩:=iy G;simp only[nU];have O:w2.cell? ⟨w.heap.size+1,0,U3⟩=U4 (.slice a1 tl.length c1):=aN A ac;have ar:w.heap.size+5<=w2.heap.size:=Vg (Vg F.y.1.sz C.y.2.size) A.size;have OW:=aC (ey (ey F.y.2.2.1.own C.y.2.drew) A);have S2:=aC (zA G A);clear G A;refine wpAnyIn_ready (rs:=[3]) UO UJ ?_;refine Zv rfl (fun K o=>?_) Zw
      go_simp
      refine o _ _ ?_;clear o K;have y:=xT O (.cells #[.int .i64 g.e.id,.int .i64 g.e.kind,.string g.e.aT,.int .i64 g.e.aH,.slice N g.e.aL.length M,.int .i64 g.e.bY] 58);obtain⟨P,t⟩:∃ P,P=w2.alloc (.cells #[.int .i64 g.e.id,.int .i64 g.e.kind,.string g.e.aT,.int .i64 g.e.aH,.slice N g.e.aL.length M,.int .i64 g.e.bY] 58):=⟨_,rfl⟩;rw[<- t] at y;rw[<- t];have J:Hid (P=w2.alloc (.cells (ef (g.e,.slice N g.e.aL.length M)).toArray 58)):=aC t;clear t;refine wpAnyIn_ready (rs:=[4]) UO UJ ?_;refine Zv rfl (fun K o=>?_) Zw;refine yG P rfl (.tmp 21) (.tmp 24) 34 rfl (w.heap.size+5) 58 i0 _ 6 72 underlying34 aj ag af ae rfl UK (.slice a1 tl.length c1) tl.length (tl.flatMap ef) rfl (by rw[J.y];exact OW.y.alloc _) ⟨w2.heap.size,0,U3⟩ 1 1 (ef (g.e,.slice N g.e.aL.length M)) rfl rfl (by rw[J.y];exact Wv (cs:=(ef (g.e,.slice N g.e.aL.length M)).toArray) (cC w2 _)) (by simp[ef,WD]) UR UI (by rw[J.y];simp;omega) ?_;intro v3 w3 q f;obtain⟨al,ak,rfl⟩:=iy q;refine o _ _ ?_;clear o K;rw[J.y] at f;have Y:=xw F.y.1 F.y.2.1 F.y.2.2.1 C.y.2 S2.y.2 _ f;have ab:=Y.cell;have aa:=Y.frozen;have G3:=aC (zA q f);clear q f Y J y;refine wpAnyIn_ready (rs:=[5]) UO UJ ?_;refine Zv rfl (fun K o=>?_) Zw
      go_simp
      refine o _ _ ?_;clear o K;refine wpAnyIn_done UO ?_ _;have E:=F.y;have U:=xx (B:=Z.heap.size) E.1 E.2.1 E.2.2.1 E.2.2.2 C.y.2 S2.y.1 S2.y.2 _ G3.y.2 G3.y.1 (fun b hb=>V.y.dk.none hb) (z:=x.1) (by rw[R.y.2];exact I) (V.y.of.mem hg) R.y.2.symm;refine⟨U.1,U.2.1,?_⟩;show LI w _ s aJ (Zx (fun x=>x.val) (pre++[x]));rw[We];exact U.2.2
     ·go_simp
      refine⟨trivial,(CallsIn.inRound l (callsIn_wide.2 ao.y)).mono ?_⟩;rintro e w2 ⟨v2,rfl,aq,rfl,G,A⟩;refine o _ _ ?_;clear o K;obtain⟨N,M,rfl⟩:=iy G;simp only[nU];have O:w2.cell? ⟨w.heap.size+1,0,U3⟩=U4 (.slice a1 tl.length c1):=aN A ac;have ar:w.heap.size+5<=w2.heap.size:=Vg (Vg F.y.1.sz C.y.2.size) A.size;have OW:=aC (ey (ey F.y.2.2.1.own C.y.2.drew) A);have S2:=aC (zA G A);clear G A;refine wpAnyIn_ready (rs:=[0,3]) UO UJ ?_;refine Zv rfl (fun K o=>?_) (Zv rfl (fun K o=>?_) Zw)
      ·go_simp
       refine o _ _ ?_;clear o K;refine wpAnyIn_ready (rs:=[3]) UO UJ ?_;refine Zv rfl (fun K o=>?_) Zw
       go_simp
       refine o _ _ ?_;clear o K;have y:=xT O (.cells #[.int .i64 g.e.id,.int .i64 g.e.kind,.string g.e.aT,.int .i64 g.e.aH,.slice N g.e.aL.length M,.int .i64 g.e.bY] 58);obtain⟨P,t⟩:∃ P,P=w2.alloc (.cells #[.int .i64 g.e.id,.int .i64 g.e.kind,.string g.e.aT,.int .i64 g.e.aH,.slice N g.e.aL.length M,.int .i64 g.e.bY] 58):=⟨_,rfl⟩;rw[<- t] at y;rw[<- t];have J:Hid (P=w2.alloc (.cells (ef (g.e,.slice N g.e.aL.length M)).toArray 58)):=aC t;clear t;refine wpAnyIn_ready (rs:=[4]) UO UJ ?_;refine Zv rfl (fun K o=>?_) Zw;refine yG P rfl (.tmp 21) (.tmp 24) 34 rfl (w.heap.size+5) 58 i0 _ 6 72 underlying34 aj ag af ae rfl UK (.slice a1 tl.length c1) tl.length (tl.flatMap ef) rfl (by rw[J.y];exact OW.y.alloc _) ⟨w2.heap.size,0,U3⟩ 1 1 (ef (g.e,.slice N g.e.aL.length M)) rfl rfl (by rw[J.y];exact Wv (cs:=(ef (g.e,.slice N g.e.aL.length M)).toArray) (cC w2 _)) (by simp[ef,WD]) UR UI (by rw[J.y];simp;omega) ?_;intro v3 w3 q f;obtain⟨al,ak,rfl⟩:=iy q;refine o _ _ ?_;clear o K;rw[J.y] at f;have Y:=xw F.y.1 F.y.2.1 F.y.2.2.1 C.y.2 S2.y.2 _ f;have ab:=Y.cell;have aa:=Y.frozen;have G3:=aC (zA q f);clear q f Y J y;refine wpAnyIn_ready (rs:=[5]) UO UJ ?_;refine Zv rfl (fun K o=>?_) Zw
       go_simp
       refine o _ _ ?_;clear o K;refine wpAnyIn_done UO ?_ _;have E:=F.y;have U:=xx (B:=Z.heap.size) E.1 E.2.1 E.2.2.1 E.2.2.2 C.y.2 S2.y.1 S2.y.2 _ G3.y.2 G3.y.1 (fun b hb=>V.y.dk.none hb) (z:=x.1) (by rw[R.y.2];exact I) (V.y.of.mem hg) R.y.2.symm;refine⟨U.1,U.2.1,?_⟩;show LI w _ s aJ (Zx (fun x=>x.val) (pre++[x]));rw[We];exact U.2.2
      ·go_simp
       refine o _ _ ?_;clear o K;have y:=xT O (.cells #[.int .i64 g.e.id,.int .i64 g.e.kind,.string g.e.aT,.int .i64 g.e.aH,.slice N g.e.aL.length M,.int .i64 g.e.bY] 58);obtain⟨P,t⟩:∃ P,P=w2.alloc (.cells #[.int .i64 g.e.id,.int .i64 g.e.kind,.string g.e.aT,.int .i64 g.e.aH,.slice N g.e.aL.length M,.int .i64 g.e.bY] 58):=⟨_,rfl⟩;rw[<- t] at y;rw[<- t];have J:Hid (P=w2.alloc (.cells (ef (g.e,.slice N g.e.aL.length M)).toArray 58)):=aC t;clear t;refine wpAnyIn_ready (rs:=[0]) UO UJ ?_;refine Zv rfl (fun K o=>?_) Zw
       go_simp
       refine o _ _ ?_;clear o K;refine wpAnyIn_ready (rs:=[4]) UO UJ ?_;refine Zv rfl (fun K o=>?_) Zw;refine yG P rfl (.tmp 21) (.tmp 24) 34 rfl (w.heap.size+5) 58 i0 _ 6 72 underlying34 aj ag af ae rfl UK (.slice a1 tl.length c1) tl.length (tl.flatMap ef) rfl (by rw[J.y];exact OW.y.alloc _) ⟨w2.heap.size,0,U3⟩ 1 1 (ef (g.e,.slice N g.e.aL.length M)) rfl rfl (by rw[J.y];exact Wv (cs:=(ef (g.e,.slice N g.e.aL.length M)).toArray) (cC w2 _)) (by simp[ef,WD]) UR UI (by rw[J.y];simp;omega) ?_;intro v3 w3 q f;obtain⟨al,ak,rfl⟩:=iy q;refine o _ _ ?_;clear o K;rw[J.y] at f;have Y:=xw F.y.1 F.y.2.1 F.y.2.2.1 C.y.2 S2.y.2 _ f;have ab:=Y.cell;have aa:=Y.frozen;have G3:=aC (zA q f);clear q f Y J y;refine wpAnyIn_ready (rs:=[5]) UO UJ ?_;refine Zv rfl (fun K o=>?_) Zw
       go_simp
       refine o _ _ ?_;clear o K;refine wpAnyIn_done UO ?_ _;have E:=F.y;have U:=xx (B:=Z.heap.size) E.1 E.2.1 E.2.2.1 E.2.2.2 C.y.2 S2.y.1 S2.y.2 _ G3.y.2 G3.y.1 (fun b hb=>V.y.dk.none hb) (z:=x.1) (by rw[R.y.2];exact I) (V.y.of.mem hg) R.y.2.symm;refine⟨U.1,U.2.1,?_⟩;show LI w _ s aJ (Zx (fun x=>x.val) (pre++[x]));rw[We];exact U.2.2
   ·rw[I] at CT
    gi_wp2
    refine⟨trivial,?_⟩;refine (CallsIn.inRound l (callsIn_wide.2 CT.y)).mono ?_;rintro e w1 ⟨rfl,H⟩
    gi_wp2
    have E:=F.y
    exact⟨RA H,H.mono E.1.bl.size,⟨⟨_,tl,(H.block _ E.2.1.lt).trans E.2.1,E.2.2.1.later H,by
     have:=E.2.2.2.JG (z:=x.1) (by rw[R.y.2];exact I)
     simpa using this⟩,E.1.bl.trans (H.mono E.1.bl.size),Vg E.1.sz H.size⟩⟩
  case done =>
   rintro D ys W hD rfl h o;obtain⟨v,tl,hv,er,S⟩:=h.bx;have hc:=hv.cell;obtain⟨a1,c1,rfl⟩:=iy er.own
   have HF:Hid (tl.map (·.1)=aA.kS r.tg[i].name a b s.es):=by
    rw[ay.y] at S;have it:=(V.y.of.th i hi).2;have ad:=V.y.inv
    obtain⟨p1,p2⟩:=aA.OP (ys:=tl.map (·.1)) (a:=a) (b:=b) it ad.ids (fun e he=>(ad.en e he).ri) (fun e he sp hs=>((ad.en e he).sp sp hs).1) (by rw[List.length_map];exact S.len) (fun j hj=>by
     have av:j<tl.length:=by simpa using hj
     have:=S.at_ j av
     simpa using this)
    exact aA.Hd ad.ids p1 p2
   have HE:Hid (gI W w.heap.size aJ (.slice a1 tl.length c1) tl/\U9 w.heap.size w W):=⟨er.base UI,h.bl⟩;clear h er S hv
   go_wp2_with fail
   refine QH ?_;refine⟨by simp,.inl ⟨_,_,rfl,run_takeDeferred o,?_⟩⟩;have kp:U9 W.heap.size W (W.putObj D (.deferred U3))->True:=fun _=>trivial
   refine⟨_,results_tmp rfl _ _ _,_,tl,rfl,HF.y,?_,HE.y.2.trans (belowK_b (w:=w) (zq _) W D _ _ UI o rfl rfl)⟩;exact⟨ownsRow_putObj HE.y.1.own _ o rfl,HE.y.1.no,fun p hp=>⟨⟨ownsRow_putObj (HE.y.1.sp p hp).1.own _ o rfl,(HE.y.1.sp p hp).1.no⟩,(HE.y.1.sp p hp).2⟩,HE.y.1.pw⟩
  case stop =>
   rintro D c pre W _ _ h _;exact h.elim
theorem Jl(f:ec s)(h:fA s name 0 fr til≠0):aA.aU s (.list name fr til)=(s,aA.bO.error (fA s name 0 fr til)):=by
 have j:=aA.Cy f.tu name;simp only[aA.aU];unfold fA aA.dH at *
 by_cases a:aA.bJ name s.ts=0
 ·rw[U1 a];simp[a]
 ·have g:¬ (aA.bJ name s.ts<0):=UI
  simp only[a,g] at h ⊢
  by_cases c:til<=fr
  ·simp[c]
  ·simp[c] at h
theorem Ht(h:fA s name 0 fr til=0):aA.aU s (.list name fr til)=(s,⟨0,0,0,aA.kS name fr til s.es,[],[],[]⟩):=by
 obtain⟨a,f⟩:=sS h;have c:aA.bJ name s.ts≠0:=fun e=>by unfold aA.dH at a;rw[U1 e] at a;omega
 simp only[aA.aU];rw[U0 c,U0 UI];rfl
theorem He(name:UU)(c:Bool)(fr til a b:UZ):U9 w.heap.size w (((w.alloc (.cells #[.string name,.bool c,.int .i64 fr,.int .i64 til] 170)).alloc aW).alloc (.cells #[.int .i64 a,.int .i64 b] 60))/\(((w.alloc (.cells #[.string name,.bool c,.int .i64 fr,.int .i64 til] 170)).alloc aW).alloc (.cells #[.int .i64 a,.int .i64 b] 60)).heap[w.heap.size+1]?=U4 aW/\(((w.alloc (.cells #[.string name,.bool c,.int .i64 fr,.int .i64 til] 170)).alloc aW).alloc (.cells #[.int .i64 a,.int .i64 b] 60)).cell? ⟨w.heap.size+1+1,0,U3⟩=U4 (.int .i64 a)/\(((w.alloc (.cells #[.string name,.bool c,.int .i64 fr,.int .i64 til] 170)).alloc aW).alloc (.cells #[.int .i64 a,.int .i64 b] 60)).cell? ⟨w.heap.size+1+1,1,U3⟩=U4 (.int .i64 b)/\(((w.alloc (.cells #[.string name,.bool c,.int .i64 fr,.int .i64 til] 170)).alloc aW).alloc (.cells #[.int .i64 a,.int .i64 b] 60)).heap.size=w.heap.size+3:=by
 have g:=cC (w.alloc (.cells #[.string name,.bool c,.int .i64 fr,.int .i64 til] 170)) aW;have f:=cC ((w.alloc (.cells #[.string name,.bool c,.int .i64 fr,.int .i64 til] 170)).alloc aW) (.cells #[.int .i64 a,.int .i64 b] 60);rw[Zj] at g;rw[Zj,Zj] at f;refine⟨(((zr _ _).alloc (zq _) _).alloc UJ _).alloc (by rw[Zj,Zj];omega) _,(Below.heap_alloc _ _ _ (by rw[Zj,Zj];omega)).trans g,?_,?_,by rw[Zj,Zj,Zj]⟩
 ·simp only[VA,f];rfl
 ·simp only[VA,f];rfl
theorem P8(h:dS w d s r aJ)(name:UU)(hn:name.size<=1000)(wi:Bool)(fr til:UZ):
  Va prog 98 #[.pointer (U4 ⟨d,0,U3⟩),.agg #[.string name,.bool wi,.int .i64 fr,.int .i64 til]] w fun e w'=>∃ v,e=.returned v/\dX w d aJ (aA.aU s (.list name (if wi then fr else 0) (if wi then til else 1048320))) v w':=by
 have o:=aC h;clear h
 cases wi
 ·simp only[reduceIte,Bool.false_eq_true];obtain⟨P,A,D,C,R⟩:=He (w:=w) name U5 fr til 0 1048320;have G:=aC (vM (o.y.dk.later P) o.y.of o.y.aS name hn 0 0 1048320);have z:=aC (zA P A);clear P A
  go_in
  unfold aW at G z D C R
  go_upto_region 9 with fail
  generalize (((w.alloc (.cells #[.string name,.bool U5,.int .i64 fr,.int .i64 til] 170)).alloc (.cells #[.int .i64 0,.int .i64 0,.int .i64 0,.slice U3 0 0,.slice U3 0 0,.slice U3 0 0,.slice U3 0 0] 40)).alloc (.cells #[.int .i64 0,.int .i64 1048320] 60))=X at *;refine G.y.mono ?_;rintro e w1 ⟨hp,q⟩;have F:Hid (U9 w.heap.size w w1):=z.y.1.trans (q.mono z.y.1.size);have T:Hid (Q7 w1 (w.heap.size+1)):=(Q7.of z.y.2).later (q.block _ UI);rcases hp with ⟨t,rfl⟩|⟨t,i,hi,e1,e2,rfl⟩
  ·have U:=aC (Jl o.y.aS t);generalize fA s name 0 0 1048320=y at *;have ab:(y != 0)=U6:=by simpa using t
   clear t G z q D C
   go_wp2_with fail
   refine (lF y w1).mono ?_;rintro e w2 ⟨rfl,j⟩;have E:=aC (o.y.refuse F.y T.y j U.y);obtain⟨O,N,M,K,J,I,H,S⟩:=E.y.1;simp only[bC]
   go_wp2_with fail
   exact cO results98 ⟨O,N,M,K,J,I,H,S⟩ ⟨_,rfl,E.y.2⟩
  ·have U:=aC (Ht t);have y1:=aN q D;have y2:=aN q C;have aa:w.heap.size+3<=w1.heap.size:=by have:=q.size;omega
   have TL:=aC (Hy (w:=w1) (s:=s) ⟨o.y.dk.later F.y,o.y.of,o.y.wl,o.y.hl,o.y.inv⟩ hi 0 1048320);rw[e1] at TL;clear t G z q D C e1 e2
   go_wp2_with fail
   refine TL.y.mono ?_;rintro e w2 ⟨v,l,rfl,Y,y,j⟩;obtain⟨a1,c1,rfl⟩:=iy y.own;have V:=j.block (w.heap.size+1) (Vh _ _ T.y.q0)
   have E:Hid (∀ a b c e f g i,dX w d aJ (aA.aU s (.list name 0 1048320)) (bC 0 0 0 (.slice a1 l.length c1) (.slice U3 0 0) (.slice U3 0 0) (.slice U3 0 0)) (cK w2 (w.heap.size+1) a b c e f g i)):=fun a b c e f g i=>by
    rw[U.y,<- Y];exact o.y.ib (F.y.trans (j.mono F.y.size)) UI (y.base UI) a b c e f g i
   obtain⟨O,N,M,K,J,I,H,S⟩:=T.y.later V;clear TL y Y j V
   go_wp2_with fail
   exact cO results98 ⟨O,N,M,K,J,I,H,S⟩ ⟨_,rfl,E.y _ _ _ _ _ _ _⟩
 ·simp only[if_true];obtain⟨P,A,D,C,R⟩:=He (w:=w) name U6 fr til fr til;have G:=aC (vM (o.y.dk.later P) o.y.of o.y.aS name hn 0 fr til);have z:=aC (zA P A);clear P A
  go_in
  unfold aW at G z D C R
  go_upto_region 9 with fail
  generalize (((w.alloc (.cells #[.string name,.bool U6,.int .i64 fr,.int .i64 til] 170)).alloc (.cells #[.int .i64 0,.int .i64 0,.int .i64 0,.slice U3 0 0,.slice U3 0 0,.slice U3 0 0,.slice U3 0 0] 40)).alloc (.cells #[.int .i64 fr,.int .i64 til] 60))=X at *;refine G.y.mono ?_;rintro e w1 ⟨hp,q⟩;have F:Hid (U9 w.heap.size w w1):=z.y.1.trans (q.mono z.y.1.size);have T:Hid (Q7 w1 (w.heap.size+1)):=(Q7.of z.y.2).later (q.block _ UI);rcases hp with ⟨t,rfl⟩|⟨t,i,hi,e1,e2,rfl⟩
  ·have U:=aC (Jl o.y.aS t);generalize fA s name 0 fr til=y at *;have ab:(y != 0)=U6:=by simpa using t
   clear t G z q D C
   go_wp2_with fail
   refine (lF y w1).mono ?_;rintro e w2 ⟨rfl,j⟩;have E:=aC (o.y.refuse F.y T.y j U.y);obtain⟨O,N,M,K,J,I,H,S⟩:=E.y.1;simp only[bC]
   go_wp2_with fail
   exact cO results98 ⟨O,N,M,K,J,I,H,S⟩ ⟨_,rfl,E.y.2⟩
  ·have U:=aC (Ht t);have y1:=aN q D;have y2:=aN q C;have aa:w.heap.size+3<=w1.heap.size:=by have:=q.size;omega
   have TL:=aC (Hy (w:=w1) (s:=s) ⟨o.y.dk.later F.y,o.y.of,o.y.wl,o.y.hl,o.y.inv⟩ hi fr til);rw[e1] at TL;clear t G z q D C e1 e2
   go_wp2_with fail
   refine TL.y.mono ?_;rintro e w2 ⟨v,l,rfl,Y,y,j⟩;obtain⟨a1,c1,rfl⟩:=iy y.own;have V:=j.block (w.heap.size+1) (Vh _ _ T.y.q0)
   have E:Hid (∀ a b c e f g i,dX w d aJ (aA.aU s (.list name fr til)) (bC 0 0 0 (.slice a1 l.length c1) (.slice U3 0 0) (.slice U3 0 0) (.slice U3 0 0)) (cK w2 (w.heap.size+1) a b c e f g i)):=fun a b c e f g i=>by
    rw[U.y,<- Y];exact o.y.ib (F.y.trans (j.mono F.y.size)) UI (y.base UI) a b c e f g i
   obtain⟨O,N,M,K,J,I,H,S⟩:=T.y.later V;clear TL y Y j V
   go_wp2_with fail
   exact cO results98 ⟨O,N,M,K,J,I,H,S⟩ ⟨_,rfl,E.y _ _ _ _ _ _ _⟩
theorem S8(h:dS w d s rw_ aJ)(name:UU)(R:name.size<=1000)(z:Bool)(fr til a b:UZ)(F:(if z then fr else 0)=a)(E:(if z then til else 1048320)=b):
  Va prog 64 #[.pointer (U4 ⟨d,0,U3⟩),.iface 170 (.agg #[.string name,.bool z,.int .i64 fr,.int .i64 til])] w fun e w'=>∃ v,e=.returned v/\dX w d aJ (aA.aU s (.list name a b)) v w':=by
 have C:=aC (h.pX (.cells #[.string name,.bool z,.int .i64 fr,.int .i64 til] 170));have A:=aC (P8 C.y.1 name R z fr til);rw[F,E] at A;clear h F E;unfold aW at A C;have o:=qq 170 UK;have y:=rV 170 UK;have t:=rW 170 UK;have q:=rU 170 UK;have f:=te 170 UK;have c:=td 170 UK;have g:=uV 170 UK;have j:=pe underlying170
 go_in
 go_wp2_with fail
 refine A.y.mono ?_;rintro e w2 ⟨v,rfl,G⟩;obtain⟨er,at_,U,a1,a2,a3,a4,n1,Y,X,V,c1,c2,c3,c4,rfl,H,D⟩:=G.pT C.y.2;have T:=aC D;clear G D A o y t q f c g j;obtain⟨P,O,N,M,K,J,I,S⟩:=H;simp only[bC]
 go_wp2_with fail
 exact cO results64 ⟨P,O,N,M,K,J,I,S⟩ ⟨_,rfl,T.y⟩
end Go.Proofs.YtfigmlfdnickmaaGreatDoor
