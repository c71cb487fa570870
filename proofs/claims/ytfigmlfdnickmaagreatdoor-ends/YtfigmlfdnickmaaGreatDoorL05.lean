import Derived.Test.YtfigmlfdnickmaaGreatDoorL04
import Derived.Test.YtfigmlfdnickmaaGreatDoorProg
import Derived.Test.YtfigmlfdnickmaaGreatDoorShelf
import Derived.WalkKit
import Derived.WalkSpells
import Derived.WalkLawsBesides
import Derived.Deep.QuietTactic
import Derived.BigQuiet
import Derived.Lib.SmallJoins
set_option maxRecDepth 100000
set_option maxHeartbeats 8000000
open Go.Proofs.Tryz
open _root_ renaming ByteArray->XK,List->XL,Option->XM,Bool->XN,Nat->XP,Int->XQ,if_neg->XR,if_pos->XS,absurd->XT,Int->N,Nat->M,List->J
open Option renaming none->XU,some->XV,mem_toList->ZL,some->U
open Bool renaming false->XW,true->XX,and_eq_true->ZR,false_eq_true->Yr,eq_iff_iff->ZW
open Go renaming World->XY,Value->XZ,Calls->X4
open Go.RowKit renaming Below->X0
open List renaming length_eq_zero_iff->Y6,mem_map->Zh,length_append->YZ,map_append->Zl,length_filter_le->ZA,length_nil->Y7,length_map->ZE,mem_cons->Yu
open Nat renaming le_refl->Yi,le_trans->Yk,zero_le->Zd
open Go.World renaming cell?->YF,ownsRow_nil->ZD,block_lt_of_cell?->Yl,cell?_setCell_same->Yy
open And renaming intro->Yz
open Go.Ending renaming returned->Yg
open Go.Exit renaming inBlock->Zz
open Go.Lib renaming cut->ZX
open Go.Value renaming string->Ya,ownBlock->ZB,int->X7,pointer->X8,slice->X9,tuple->Yc,int->V
open Go.IntKind renaming i64->Yf,i64->Y
open Go.Obj renaming cells->Yh
namespace Go.Proofs.YtfigmlfdnickmaaGreatDoor
variable{c wr:XN}{name:XK}{a b m n nowc t tq y:XQ}{l:XL (aA.aO × XZ)}{ws:XL XK}{esc:XL aA.aO}{E G:XL XQ}{xs:XL XZ}{A B B' Q R d e hi lo nx:XP}{ck aN col' col1:XP->XM bH}{r:Raw}{s:aA.St}{v v2 vE vG:XZ}{X Z w w' w1 w2 w4 wx:XY}
open Go.RowKit
def sB(n:N)(f g:XZ):Array XZ:=#[V Y 0,V Y 0,n,(),(),f,g]
theorem dY.base{l:J N}(h:dY w B aN v l)(f:B'<=B):dY w B' aN v l:=⟨Joins.ownsRow_le h.own f,h.no⟩
theorem dY.append{u:XZ}{l m:J N}(h:dY w B aN v l)(k:dY w B aN u m)(D:B<=w)(C:∀ b,w.heap.size<=b->aN b=XU)(I:l.length+m.length<=100000):
  ∃ (v':XZ) (w':XY),(∀ f,(Builtin.append_ #[38,38] f #[v,u]).run prog w=.ok v' w')/\dY w' B aN v' (l++m)/\w.grownBy w' v.ownBlock/\(v'.ownBlock=v.ownBlock\/v'.ownBlock=U w.heap.size):=by
 let⟨i0,hi0,hz0,hz1,hz2⟩:=info_parts pg;rcases k.own.2 with ⟨rfl,F⟩|⟨g,cap,H,rfl,q,L,h1,W,T,S⟩
 .have z:m=[]:=Y6.1 F;subst z;refine⟨v,w,fun f=>run_append_owned_none (P:=prog) w B 38 f 3 i0 1 underlying38 hi0 v l.length _ h.own,by rw[List.append_nil];exact h,⟨rfl,rfl,rfl,Yi _,fun _ _ _=>rfl⟩,.inl rfl⟩
 .have p:=fun f=>run_append_own_at (P:=prog) w B 38 f 3 i0 _ 1 8 underlying38 hi0 hz0 hz1 hz2 rfl XC v l.length _ h.own (g,0) m.length cap (m.map (Value.int Y)) XA (fun j x o=>by
   have K:j<m.length:=by
    have:=List.getElem?_eq_some_iff.1 o;let⟨h,_⟩:=this
    simpa using h
   have e:=k.own.cellAt j O;have i:((g,0):Addr).add j=(g,j):=by unfold Addr.add;split <;> simp_all
   rw[i,e];exact o) (by
   intro x o;obtain⟨y,_,rfl⟩:=Zh.1 o
   rfl) XH O D
  let⟨v',w',r1,r2,r3,r4,r5⟩:=p 0;refine⟨v',w',fun f=>?_,⟨by rw[YZ,Zl];exact r2,fun b q=>?_⟩,r3,r5⟩
  .exact r1
  .rcases r5 with e|e
   .exact h.no b (by rw[<- e];exact q)
   .rw[q] at e
    cases e
    exact C _ aI
theorem Kw{P:Program}{o:Oper}{a:Act}{K:Act->XY->Prop}{Q:Exit->Act->XY->Prop}(s x:Operand)(t:TypeId)(v':XZ)
  (g:o.op=.call { callee:=.builtin .append,args:=#[s,x],argTypes:=#[t,t] }) (f:(Builtin.append_ #[t,t] o.type #[a.eval s,a.eval x]).run P w=.ok v' w') (h:K (a.put o.dst v') w'):o.wp P a w K Q:=by
 unfold Oper.wp execOp;simp only[g,resolve,invoke,builtin,Sem.run_bind,Sem.run_pure,Result.andThen_ok,List.map_toArray,List.map_cons,List.map_nil,f];exact h
theorem Fk{P:Program}{f:Array Oper}{o:Oper}{a:Act}{K:Act->XY->Prop}{Q:Exit->Act->XY->Prop}{E:Prop}(i:o.guard=XU)(s x:Operand)(t:TypeId)(v':XZ)
  (k:o.op=.call { callee:=.builtin .append,args:=#[s,x],argTypes:=#[t,t] }) (g:(Builtin.append_ #[t,t] o.type #[a.eval s,a.eval x]).run P w=.ok v' w') (h:K (a.put o.dst v') w'):
  if Region.wanted o (yielded f a.tmps)=XX then Oper.wp P o a w K Q else E:=by
 have j:Region.wanted o (yielded f a.tmps)=XX:=by simp[Region.wanted,i]
 rw[XS j];exact Kw s x t v' k g h
theorem Hz{P:Program}{f:Array Oper}{rest:J Oper}{o:Oper}{a:Act}{Q:Exit->Act->XY->Prop}(i:o.guard=XU)(s x:Operand)(t:TypeId)(v':XZ)
  (j:o.op=.call { callee:=.builtin .append,args:=#[s,x],argTypes:=#[t,t] }) (g:(Builtin.append_ #[t,t] o.type #[a.eval s,a.eval x]).run P w=.ok v' w') (h:wpList P f Q rest (a.put o.dst v') w'):wpList P f Q (o :: rest) a w :=
 wpList_plain i fun _ k=>Kw s x t v' j g (k _ _ h)
theorem qe{P:Program}{g:Array Oper}{o:Oper}{a:Act}{K:Act->XY->Prop}{Q:Exit->Act->XY->Prop}{E:Prop}(i:o.guard=XU)(f:FuncId)(xs:Array Operand)(j:Array TypeId)
  (p:o.op=.call { callee:=.value (.func f),args:=xs,argTypes:=j }) (args:Array XZ) (x:xs.map a.eval=args) (q:(callFunc f args).run P w=.ok (.enter f args) w) {R:Ending->XY->Prop}(u:X4 P f args w R) (h:∀ e w',R e w'->∃ v,e=Yg v/\K (a.put o.dst v) w'):
  if Region.wanted o (yielded g a.tmps)=XX then Oper.wp P o a w K Q else E:=by
 have k:Region.wanted o (yielded g a.tmps)=XX:=by simp[Region.wanted,i]
 rw[XS k];unfold Oper.wp
 have D:(execOp a.eval o).run P w=.ok (.enter f args) w:=by
  simp[execOp,p,resolve,invoke,Act.eval,Deferred.ofValue,x,q]
 rw[D,Oper.upon_enter];refine u.mono ?_;intro e w' z;obtain⟨v,rfl,C⟩:=h e w' z;exact C
structure RB(w:XY)(B:M)(aN:M->XM bH)(R Q:M)(n:N)(vG vE:XZ)(G E:J N):Prop where
 r:w.heap[R]?=U (Yh (sB n vG vE) 40 (0,0))
 q:w.heap[Q]?=U (Yh (sB 0 () ()) 40 (0,0))
 rc:aN R=XU
 qc:aN Q=XU
 rb:B<=R
 qb:B<=Q
 rq:R≠Q
 g:dY w B aN vG G
 e:dY w B aN vE E
 ge:∀ b,vG.ownBlock=U b->vE.ownBlock≠U b/\b≠R/\b≠Q
 er:∀ b,vE.ownBlock=U b->b≠R/\b≠Q
theorem ug{b:M}{o:Obj}(h:w.heap[b]?=U o):b<w:=by
 by_cases f:b<w
 .exact f
 .rw[Array.getElem?_eq_none O] at h;cases h
theorem RB.step{S:bH->Prop}(h:RB w B aN R Q n vG vE G E)(st:Step S B' aN col' w w')(f:w<=B'):RB w' B col' R Q n vG vE G E:=by
 have i:=ug h.r;have j:=ug h.q;exact⟨(st.cF i h.rc O).trans h.r,(st.cF j h.qc O).trans h.q,st.dG h.rc O,st.dG h.qc O,h.rb,h.qb,h.rq,h.g.step st f,h.e.step st f,h.ge,h.er⟩
theorem RB.later(h:RB w B aN R Q n vG vE G E)(k:X0 w w w'):RB w' B aN R Q n vG vE G E:=h.step (Step.below (S:=anyS) (B:=w) k) aI
theorem RB.cells(h:RB w B aN R Q n vG vE G E):w.cell? (R,5)=U vG/\w.cell? (R,6)=U vE/\∀ o,w.frozen? ⟨R,o,XU⟩=XW:=by
 refine⟨?_,?_,fun o=>?_⟩
 .simp[YF,h.r,sB]
 .simp[YF,h.r,sB]
 .exact frozen_of_row w R o _ _ h.r
theorem RB.vU{H:J N}(h:RB w B aN R Q n vG vE G E)(F:dY w1 B aN v H)(L:w.grownBy w1 vE.ownBlock)(j:v.ownBlock=vE.ownBlock\/v.ownBlock=U w.heap.size):
  RB (w1.setCell (R,6) v) B aN R Q n vG v G H/\aH (R :: vE.ownBlock.toList) w (w1.setCell (R,6) v)/\w1.cell? (R,6)=U vE/\w1.frozen? (R,6)=XW:=by
 have u:=ug h.r;have x:=ug h.q;have k:aH vE.ownBlock.toList w w1:=aH.grown (aH.refl _ w) L (fun k K=>.inl (ZL.2 K));have z:R ∉ vE.ownBlock.toList:=fun e=>(h.er R (ZL.1 e)).1 rfl
 have C:Q ∉ vE.ownBlock.toList:=fun e=>(h.er Q (ZL.1 e)).2 rfl
 have p:=(k.block R u z).trans h.r;have I:=(k.block Q x C).trans h.q
 have i:∀ b,v.ownBlock=U b->b≠R/\b≠Q:=fun b f=>by
  rcases j with e|e
  .exact h.er b (by rw[<- e];exact f)
  .rw[f] at e;cases e;omega
 have D:∀ b,vG.ownBlock=U b->b ∉ vE.ownBlock.toList:=fun b f e=>(h.ge b f).1 (ZL.1 e)
 refine⟨⟨?_,?_,h.rc,h.qc,h.rb,h.qb,h.rq,⟨?_,h.g.no⟩,⟨?_,F.no⟩,fun b f=>⟨fun e=>?_,(h.ge b f).2⟩,i⟩,?_,?_,?_⟩
 .have:=heap_setCell_same w1 R 6 _ _ v p;rw[this];simp[sB]
 .exact (heap_setCell_other w1 (R,6) Q v (by simpa using h.rq.symm)).trans I
 .exact cV (cV h.g.own k D) (aH.bD R _ 6 _) (fun b f=>by simpa using (h.ge b f).2.1)
 .exact cV F.own (aH.bD R _ 6 _) (fun b f=>by simpa using (i b f).1)
 .rcases j with o|o
  .exact (h.ge b f).1 (by rw[<- o];exact e)
  .have P:=(h.g.own.lt b f).2;rw[e] at o;cases o;omega
 .exact (k.mono (by simp +contextual)).setCell (.inl XA) _ _
 .simp[YF,p,sB]
 .exact frozen_of_row w1 R 6 _ _ p
theorem RB.vT{F:J N}(h:RB w B aN R Q n vG vE G E)(D:dY w1 B aN v F)(K:w.grownBy w1 vG.ownBlock)(i:v.ownBlock=vG.ownBlock\/v.ownBlock=U w.heap.size):
  RB (w1.setCell (R,5) v) B aN R Q n v vE F E/\aH (R :: vG.ownBlock.toList) w (w1.setCell (R,5) v)/\w1.cell? (R,5)=U vG/\w1.frozen? (R,5)=XW:=by
 have p:=ug h.r;have u:=ug h.q;have k:aH vG.ownBlock.toList w w1:=aH.grown (aH.refl _ w) K (fun k I=>.inl (ZL.2 I));have x:R ∉ vG.ownBlock.toList:=fun e=>(h.ge R (ZL.1 e)).2.1 rfl
 have z:Q ∉ vG.ownBlock.toList:=fun e=>(h.ge Q (ZL.1 e)).2.2 rfl
 have o:=(k.block R p x).trans h.r;have H:=(k.block Q u z).trans h.q
 have g:∀ b,v.ownBlock=U b->b≠R/\b≠Q:=fun b f=>by
  rcases i with e|e
  .exact (h.ge b (by rw[<- e];exact f)).2
  .rw[f] at e;cases e;omega
 have C:∀ b,vE.ownBlock=U b->b ∉ vG.ownBlock.toList:=fun b f e=>(h.ge b (ZL.1 e)).1 f
 refine⟨⟨?_,?_,h.rc,h.qc,h.rb,h.qb,h.rq,⟨?_,D.no⟩,⟨?_,h.e.no⟩,fun b f=>⟨fun e=>?_,g b f⟩,h.er⟩,?_,?_,?_⟩
 .have:=heap_setCell_same w1 R 5 _ _ v o;rw[this];simp[sB]
 .exact (heap_setCell_other w1 (R,5) Q v (by simpa using h.rq.symm)).trans H
 .exact cV D.own (aH.bD R _ 5 _) (fun b f=>by simpa using (g b f).1)
 .exact cV (cV h.e.own k C) (aH.bD R _ 5 _) (fun b f=>by simpa using (h.er b f).1)
 .rcases i with j|j
  .exact (h.ge b (by rw[<- j];exact f)).1 e
  .have L:=(h.e.own.lt b e).2;rw[f] at j;cases j;omega
 .exact (k.mono (by simp +contextual)).setCell (.inl XA) _ _
 .simp[YF,o,sB]
 .exact frozen_of_row w1 R 5 _ _ o
open aA (aO St dL kept eA dI dE im cN cO iu dZ ie bO Inv)
structure TD(w wx:XY)(d:M)(s:St)(aN:M->XM bH)(R Q:M)(tq:N)(esc:J aO)(G E:J N)(vG vE:XZ):Prop where
 ex:∃ rk ck,DK wx d rk ck/\Of { s with es:=esc } rk/\Wl rk/\Hl rk/\Step anyS w aN ck w wx/\RB wx w ck R Q tq vG vE G E
structure TK(s:St)(tq:N)(esc:J aO)(nowc:N)(G E:J N)(K:M):Prop where
 inv:Inv ⟨s.ts,esc,s.given,nowc⟩
 n1:s.now<=nowc
 n2:nowc<=tq
 len:esc.length<=K
 gF:E.length+esc.length<=s.es.length
 gl:G.length<=60*E.length
 tk:aA.fg s.ts (s.es.length+1) s.es s.now tq=((aA.fg s.ts (K+1) esc nowc tq).1,E++(aA.fg s.ts (K+1) esc nowc tq).2.1,G++(aA.fg s.ts (K+1) esc nowc tq).2.2)
theorem TK.aY{K:M}(h:TK s tq esc nowc G E K)(f:0<=s.now):dZ { s with es:=esc }:=(h.inv.aY).mX f h.n1
theorem TK.stop{K:M}(h:TK s tq esc nowc G E K)(f:∀ e∈esc,e.kind≠1->tq<e.bP):aA.fg s.ts (s.es.length+1) s.es s.now tq=(esc,E,G):=by
 rw[h.tk,aA.UA h.inv f];simp
theorem TK.next{K:M}(h:TK s tq esc nowc G E K)(q:tq<=1048320)(ht:t<=tq)(j:∃ e∈esc,e.kind≠1/\e.bP=t)(i:∀ e∈esc,e.kind≠1->t<=e.bP):
  ∃ K',TK s tq (aA.dB s.ts (esc.filter fun e=>!bO t e)).1 t (G++(aA.dB s.ts (esc.filter fun e=>!bO t e)).2) (E++(esc.filter (bO t)).map fun e=>e.id) K'/\dZ ⟨s.ts,esc.filter (fun e=>!bO t e),s.given,t⟩/\nowc<t:=by
 let⟨e0,he0,hk0,ht0⟩:=j
 have f:nowc<t:=by
  rcases (h.inv.en e0 he0).kd with e|e
  .exact XT e.1 hk0
  .have:=e.2.1;simp only at this;omega
 let⟨i1,i2⟩:=aA.ID h.inv f O i
 have g:(esc.filter (bO t)).length+(esc.filter fun e=>!bO t e).length=esc.length:=by
  have:∀ l:J aO,(l.filter (bO t)).length+(l.filter fun e=>!bO t e).length=l.length:=by
   intro l
   induction l with
   |nil=>rfl
   |cons x l ih=>simp only[List.filter_cons];cases bO t x <;> simp <;> omega
  exact this esc
 have k:0<(esc.filter (bO t)).length:=List.length_pos_iff.2 (fun e=>by
  have:e0∈esc.filter (bO t):=List.mem_filter.2 ⟨he0,by unfold bO;rw[ZR,decide_eq_true_iff];exact⟨by simpa using hk0,ht0⟩⟩
  rw[e] at this;simp at this)
 have o:=h.len;have p:=h.gF;have u:=h.gl;obtain⟨K',rfl⟩:∃ K',K=K'+1:=⟨K-1,O⟩;have z:=aA.xz s.ts (esc.filter fun e=>!bO t e)
 have C:(aA.dB s.ts (esc.filter fun e=>!bO t e)).2.length<=60:=by
  have F:=aA.Ap s.ts (esc.filter fun e=>!bO t e) i2.ids;rw[F];have j:=xN s.ts ((esc.filter fun e=>!bO t e).filter aA.fA) (esc.filter fun e=>!bO t e,[]);have i:=ZA aA.fA (esc.filter fun e=>!bO t e);have D:=jM i2;simp only[Y7] at j D;omega
 refine⟨K',⟨i1,by have:=h.n1;omega,ht,O,?_,?_,?_⟩,i2,f⟩
 .rw[YZ,ZE];omega
 .rw[YZ,YZ,ZE];omega
 .rw[h.tk,aA.Uz f ht ⟨e0,he0,hk0,ht0⟩ i];simp only[List.append_assoc]
theorem TD.ended(k:Step anyS w aN ck w wx)(z:RB wx w ck R Q tq vG vE G E)(p:Ad wx d { s with es:=esc } ck t v2 w4)(o:E.length+esc.length<=1000):
  ∃ a n cap j,(∀ q,(Builtin.append_ #[38,38] q #[vE,v2]).run prog w4=.ok (X9 a n cap) j)/\j.cell? (R,6)=U vE/\j.frozen? (R,6)=XW/\w4.cell? (R,6)=U vE/\TD w (j.setCell (R,6) (X9 a n cap)) d s aN R Q tq (esc.filter fun e=>!bO t e) G (E++(esc.filter (bO t)).map fun e=>e.id) vG (X9 a n cap):=by
 let⟨r4,c4,q1,q2,q3,q4,q5,q6⟩:=p;have f:=z.step q5 aI;have i:=k.size;have C:=ZA (bO t) esc;let⟨v3,j,a1,a2,a3,a4⟩:=f.e.append (q6.base i) (Yk i q5.size) (fun b o=>q1.none o) (by rw[ZE];show E.length+(esc.filter (bO t)).length<=100000;omega);obtain⟨a,cap,rfl⟩:=a2.slice;let⟨b1,b2,b3,b4⟩:=f.vU a2 a3 a4;refine⟨a,_,cap,j,a1,b3,b4,f.cells.2.1,r4,c4,?_,q2,q3,q4,?_,b1⟩
 .refine q1.off b2 (fun x g=>?_);rcases Yu.1 g with rfl|g
  .exact f.rc
  .exact f.e.no x (ZL.1 g)
 .have u:=k.trans (q5.any i);refine u.trans ⟨⟨_,b2,fun x g=>.inr ?_⟩,fun _ _ h=>h,fun _ _ h=>.inl h⟩;rcases Yu.1 g with rfl|g
  .exact⟨f.rc,f.rb⟩
  .exact⟨f.e.no x (ZL.1 g),(f.e.own.lt x (ZL.1 g)).1⟩
theorem TD.granted(q:Step anyS w aN ck w wx)(C:RB wx w ck R Q tq vG vE G E)(p:xM wx d { s with es:=esc } ck v2 w4)(o:G.length+(aA.dB s.ts esc).2.length<=100000):
  ∃ a n cap k,(∀ u,(Builtin.append_ #[38,38] u #[vG,v2]).run prog w4=.ok (X9 a n cap) k)/\k.cell? (R,5)=U vG/\k.frozen? (R,5)=XW/\w4.cell? (R,5)=U vG/\TD w (k.setCell (R,5) (X9 a n cap)) d s aN R Q tq (aA.dB s.ts esc).1 (G++(aA.dB s.ts esc).2) E (X9 a n cap) vE:=by
 let⟨r4,c4,q1,q2,q3,q4,q5,q6⟩:=p;have f:=C.step q5 aI;have j:=q.size;let⟨v3,k,a1,a2,a3,a4⟩:=f.g.append (q6.base j) (Yk j q5.size) (fun b o=>q1.none o) o;obtain⟨a,cap,rfl⟩:=a2.slice;let⟨b1,b2,b3,b4⟩:=f.vT a2 a3 a4;refine⟨a,_,cap,k,a1,b3,b4,f.cells.1,r4,c4,?_,q2,q3,q4,?_,b1⟩
 .refine q1.off b2 (fun x i=>?_);rcases Yu.1 i with rfl|i
  .exact f.rc
  .exact f.g.no x (ZL.1 i)
 .have z:=q.trans (q5.any j);refine z.trans ⟨⟨_,b2,fun x i=>.inr ?_⟩,fun _ _ h=>h,fun _ _ h=>.inl h⟩;rcases Yu.1 i with rfl|i
  .exact⟨f.rc,f.rb⟩
  .exact⟨f.g.no x (ZL.1 i),(f.g.own.lt x (ZL.1 i)).1⟩
theorem jN(f:N)(w:XY):
  X4 prog 141 #[f] w fun e w'=>e=Yg (bJ f 0 0 () () () ())/\X0 w w w':=by
 go_in
 have g:Hid (X0 w w (w.alloc (Yh #[f,V Y 0,V Y 0,(),(),(),()] 40))):=bC
 go_wp21
 exact bodyPost_ret (v:=bJ f 0 0 () () () ()) (by simp[results,results141,go_sem,bJ]) rfl ⟨rfl,g⟩
theorem Vg(h:DK w d r aN)(k:Hl r):
  X4 prog 155 #[X8 (U ⟨d,5,XU⟩)] w fun e w'=>w'=w /\
   ((e=Yg (Yc #[V Y 0,XW])/\∀ g∈r.eg,g.e.kind=1)\/∃ g∈r.eg,g.e.kind≠1/\e=Yg (Yc #[g.e.bP,XX])/\∀ x∈r.eg,x.e.kind≠1->g.e.bP<=x.e.bP):=by
 let⟨v,a1,a2⟩:=h.he;refine aX (KZ d 5 v r.hl w a1) ?_;refine⟨rfl,?_⟩
 by_cases q:r.hl.length=0
 .refine .inl ⟨by simp[zf,uL,q],fun g p=>?_⟩
  by_cases j:g.e.kind=1
  .exact j
  .have:=k.has p j;rw[Y6.1 q] at this;simp at this
 .have f:0<r.hl.length:=O
  let⟨g,p,j,e⟩:=k.at (x:=Hp.at_ r.hl 0) (by rw[Hp.oq f];exact zg f);refine .inr ⟨g,p,j,by rw[Dt f,Ds f,e];rfl,fun x u o=>?_⟩;let⟨i,hi,e2⟩:=List.getElem_of_mem (k.has u o);have:=Hp.C0 k.1 i hi;rw[Hp.oq hi,e2,e] at this;unfold Hp.ahead iR at this;simp only at this;omega
structure R7(Z:XY)(R Q:M)(n:N)(vG vE:XZ):Prop where
 r0:Z.cell? (R,0)=U (V Y 0)
 r1:Z.cell? (R,1)=U (V Y 0)
 r2:Z.cell? (R,2)=U ↑n
 r3:Z.cell? (R,3)=U ↑()
 r4:Z.cell? (R,4)=U ↑()
 r5:Z.cell? (R,5)=U vG
 r6:Z.cell? (R,6)=U vE
 q0:Z.cell? (Q,0)=U (V Y 0)
 q1:Z.cell? (Q,1)=U (V Y 0)
 q2:Z.cell? (Q,2)=U (V Y 0)
 q3:Z.cell? (Q,3)=U ↑()
 q4:Z.cell? (Q,4)=U ↑()
 q5:Z.cell? (Q,5)=U ↑()
 q6:Z.cell? (Q,6)=U ↑()
 fq:∀ o,Z.frozen? ⟨Q,o,XU⟩=XW
theorem RB.r7(h:RB w B aN R Q n vG vE G E):R7 w R Q n vG vE:=by
 refine⟨?_,?_,?_,?_,?_,?_,?_,?_,?_,?_,?_,?_,?_,?_,fun o=>frozen_of_row _ Q o _ _ h.q⟩
 all_goals first
  |(simp only[YF,h.r];rfl)
  |(simp only[YF,h.q];rfl)
def xy(w:XY)(d:M)(s:St)(aN:M->XM bH)(n:N)(v:XZ)(w':XY):Prop :=
 ∃ (f:Raw) (col':M->XM bH) (vG vE:XZ),v=bJ 0 0 (s.now+n) () () vG vE/\DK w' d f col'/\Of (aA.aV s (.tick n)).1 f/\Wl f/\Hl f/\Step anyS w aN col' w w'/\dY w' w col' vG (aA.aV s (.tick n)).2.granted/\dY w' w col' vE (aA.aV s (.tick n)).2.ended/\(∀ b,vG.ownBlock=U b->vE.ownBlock≠U b)
theorem JM{wr:XY}{i:Raw}(j:s.now+n=tq)(o:Step anyS w aN ck w wr)(p:Of { s with es:=esc } i)(D:Wl i)(H:Hl i)(z:DK (wr.setCell (d,0) tq) d { i with now:=tq } ck)(u:Step (·=.desk) wr ck ck wr (wr.setCell (d,0) tq))(f:RB (wr.setCell (d,0) tq) w ck R Q tq vG vE G E)(ht:aA.fg s.ts (s.es.length+1) s.es s.now tq=(esc,E,G))(F:s.now+n<=1048320):
  xy w d s aN n (bJ 0 0 tq () () vG vE) (cR (wr.setCell (d,0) tq) Q (V Y 0) (V Y 0) tq () () vG vE):=by
 have k:=lQ (wr.setCell (d,0) tq) Q (V Y 0) (V Y 0) tq () () vG vE
 have I:aA.aV s (.tick n)=({ s with es:=esc,now:=tq },{ aA.bI.num tq with granted:=G,ended:=E }):=by
  subst j;show (if 1048320<s.now+n then _ else _)=_;rw[XR O,ht]
 rw[xy,I];refine⟨{ i with now:=tq },ck,vG,vE,by rw[j],z.off k (fun x C=>?_),⟨rfl,p.given,p.ts,p.es,p.th,p.tb⟩,D,H,?_,⟨?_,f.g.no⟩,⟨?_,f.e.no⟩,fun b q=>(f.ge b q).1⟩
 .have:x=Q:=List.mem_singleton.1 C;subst this;exact f.qc
 .refine (o.trans (u.any o.size)).trans ⟨⟨_,k,fun x C=>.inr ?_⟩,fun _ _ h=>h,fun _ _ h=>.inl h⟩;have:x=Q:=List.mem_singleton.1 C;subst this;exact⟨f.qc,f.qb⟩
 .exact cV f.g.own k (fun b q=>by simpa using (f.ge b q).2.2)
 .exact cV f.e.own k (fun b q=>by simpa using (f.er b q).2)
theorem Sf(f:Array XZ)(w:XY):(callFunc 156 f).run prog w=.ok (.enter 156 f) w:=XF
theorem Jn(f:Array XZ)(w:XY):(callFunc 65 f).run prog w=.ok (.enter 65 f) w:=XF
theorem TO(h:DK w d r aN)(ho:Of s r)(hw:Wl r)(hh:Hl r)(hm:Inv s)(n:N)(hn:1<=n/\n<=1048320)(T:s.now+n<=1048320):
  X4 prog 103 #[d,.agg #[n]] w fun e w'=>∃ v,e=Yg v/\xy w d s aN n v w':=by
 have hX:X0 w w ((w.alloc (Yh #[n] 182)).alloc (Yh #[V Yf 0,V Yf 0,V Yf 0,(),(),(),()] 40)):=bC.alloc XA _;have F:=h.later hX;have c0:=F.c0;rw[ho.now] at c0;have xn:((w.alloc (Yh #[n] 182)).alloc (Yh #[V Yf 0,V Yf 0,V Yf 0,(),(),(),()] 40)).cell? (w,0)=U ↑n:=XA
 have xr:((w.alloc (Yh #[n] 182)).alloc (Yh #[V Yf 0,V Yf 0,V Yf 0,(),(),(),()] 40)).heap[w.heap.size+1]?=U (Yh #[V Yf 0,V Yf 0,V Yf 0,(),(),(),()] 40):=by
  have:=cP (w.alloc (Yh #[n] 182)) (Yh #[V Yf 0,V Yf 0,V Yf 0,(),(),(),()] 40)
  rwa [World.size_alloc] at this
 have aw:¬ (1048320<s.now+n):=O
 have h0:=hm.n0;have S:IntKind.i64.wrap (s.now+n)=s.now+n:=cT O O;have HX:=aC (Yz hX (Yz F (Yz xr (Yz ho (Yz hw (Yz hh hm))))));have ak:∀ b,w.heap.size<=b->aN b=XU:=fun b I=>h.none I
 have ad:=aC ak;clear h ho hw hh hm hX F xr ak
 go_in
 go_upto_region 1 with fail
 generalize ((w.alloc (Yh #[n] 182)).alloc (Yh #[V Yf 0,V Yf 0,V Yf 0,(),(),(),()] 40))=X at HX c0 xn ⊢
 go_big_region
 clear c0 xn
 have T0:Hid (TD w (X.alloc (Yh #[V Yf 0,V Yf 0,V Yf (s.now+n),(),(),(),()] 40)).drew d s aN X (w.heap.size+1) (s.now+n) s.es [] [] () ()):=by
  obtain⟨hX,F,xr,ho,hw,hh,hm⟩:=HX.out;have I:X0 X.heap.size X (X.alloc (Yh #[V Yf 0,V Yf 0,V Yf (s.now+n),(),(),(),()] 40)).drew:=bC.drew;have ao:=ug xr;refine⟨r,aN,F.later I,ho,hw,hh,(Step.below hX).trans (Step.below I),⟨cP X _,(I.block _ ao).trans xr,ad.out _ hX.size,ad.out _ O,hX.size,O,O,dY.nil _ _ _,dY.nil _ _ _,fun b I=>(by cases I),fun b I=>(by cases I)⟩⟩
 have K0:Hid (TK s (s.now+n) s.es s.now [] [] s.es.length):=⟨HX.2.2.2.2.2.2,Int.le_refl _,O,Yi _,by simp,by simp,by simp⟩;clear HX ad
 go_wp21
 generalize (X.alloc (Yh #[V Yf 0,V Yf 0,V Yf (s.now+n),(),(),(),()] 40)).drew=Y at T0 ⊢;generalize X.heap.size=R at T0 ⊢;generalize w.heap.size+1=Q at T0 ⊢;generalize ae:s.now+n=tq at *;have av:=aC ae;clear ae S
 go_loopw [7,8] (fun _ _ wx=>∃ (esc:J aO) (nowc:N) (G E:J N) (K:M) (vG vE:XZ),TD w wx d s aN R Q tq esc G E vG vE/\TK s tq esc nowc G E K) (fun _ _ wx=>s.es.length-lenOf ((wx.cell? (R,6)).getD undef))
 .exact⟨s.es,s.now,[],[],s.es.length,_,_,T0,K0⟩
 .obtain⟨esc,nowc,G,E,K,vG,vE,⟨rk,ck,D,ax,W,HH,ST,u⟩,k⟩:=hrel;have FI:=aC (Vg D HH);have i:=aC (Yz D (Yz ax (Yz W (Yz HH (Yz ST (Yz u k))))));clear D ax W HH ST u k
  go_wp21
  refine FI.mono ?_;rintro e w1 ⟨S,f⟩;subst S;have z:=av.out;rcases f with ⟨rfl,f⟩|⟨g,hg,aa,rfl,f⟩
  .have D:=i.1
   have H:∀ e∈esc,e.kind≠1->tq<e.bP:=by
    intro e he hk;obtain⟨x,F,rfl⟩:=i.2.1.get he;exact XT (f x F) hk
   have cd:=D.c0;have fd:=D.fz 0;obtain⟨C,q⟩:=D.oy tq;have j:=i.2.2.2.2.2.1.step q aI;have HF:=aC (JM z (i.2.2.2.2.1) i.2.1 i.2.2.1 i.2.2.2.1 C q j (i.2.2.2.2.2.2.stop H) (by rw[z];exact T));obtain⟨r0,r1,r2,r3,r4,r5,r6,q0,q1,q2,q3,q4,q5,q6,fq⟩:=j.r7;obtain⟨aG,cG,eG⟩:=j.g.slice;obtain⟨aE,cE,eE⟩:=j.e.slice;subst eG;subst eE;clear D C q j H f i FI
   go_wp21
   exact cL results103 ⟨q0,q1,q2,q3,q4,q5,q6,fq⟩ ⟨_,rfl,HF⟩
  .by_cases ht:tq<g.e.bP
   .have D:=i.1
    have H:∀ e∈esc,e.kind≠1->tq<e.bP:=by
     intro e he hk;obtain⟨x,F,rfl⟩:=i.2.1.get he;have:=f x F hk;omega
    have cd:=D.c0;have fd:=D.fz 0;obtain⟨C,q⟩:=D.oy tq;have j:=i.2.2.2.2.2.1.step q aI;have HF:=aC (JM z (i.2.2.2.2.1) i.2.1 i.2.2.1 i.2.2.2.1 C q j (i.2.2.2.2.2.2.stop H) (by rw[z];exact T));obtain⟨r0,r1,r2,r3,r4,r5,r6,q0,q1,q2,q3,q4,q5,q6,fq⟩:=j.r7;obtain⟨aG,cG,eG⟩:=j.g.slice;obtain⟨aE,cE,eE⟩:=j.e.slice;subst eG;subst eE;clear D C q j H f i FI
    go_wp21
    exact cL results103 ⟨q0,q1,q2,q3,q4,q5,q6,fq⟩ ⟨_,rfl,HF⟩
   .have D:=i.1;have k:=i.2.2.2.2.2.2;have P:=k.aY h0
    have ab:∀ e∈esc,e.kind≠1->g.e.bP<=e.bP:=fun e he hk=>by
     obtain⟨x,F,rfl⟩:=i.2.1.get he;exact f x F hk
    obtain⟨K',k',m',ag⟩:=k.next T O ⟨g.e,i.2.1.mem hg,aa,rfl⟩ ab;have ai:=k.gF;have ar:s.es.length<=60:=jM (K0.aY h0);have al:E.length+esc.length<=1000:=O
    have ST:=i.2.2.2.2.1;have u:=i.2.2.2.2.2.1;have EB:=aC (Ue (D.later (dV w1)) i.2.1 i.2.2.1 i.2.2.2.1 P g.e.bP ab);have AP:=aC (fun v2 w4 (p:Ad w1.drew d { s with es:=esc } ck g.e.bP v2 w4)=>TD.ended (ST.trans (Step.below (dV w1))) (u.later (dV w1)) p al);have cE:=u.cells.2.1;have lE:lenOf vE=E.length:=u.e.len
    have af:0<(esc.filter (bO g.e.bP)).length:=List.length_pos_iff.2 (fun e=>by
     have:g.e∈esc.filter (bO g.e.bP):=List.mem_filter.2 ⟨i.2.1.mem hg,by unfold bO;rw[ZR,decide_eq_true_iff];exact⟨by simpa using aa,rfl⟩⟩
     rw[e] at this;simp at this)
    have KN:=aC (Yz k' (Yz (m'.mX h0 (by have h1:=k.n1;have h2:=ag;omega)) (Yz lE af)));have aq:G.length<=3600:=by have:=k.gl;omega
    clear D k P ab k' m' ai ST u i FI f hg aa lE al ar af ag
    go_upto_region 7 with fail
    go_cut [40] from 35 to 41 (fun _ wx=>∃ vE',TD w wx d s aN R Q tq (esc.filter fun e=>!bO g.e.bP e) G (E++(esc.filter (bO g.e.bP)).map fun e=>e.id) vG vE')
    .go_region_law (first
      |(refine qe (by rfl) 156 _ _ (by rfl) _ (by simp[Act.eval,Act.put]) (Sf _ _) EB ?_;rintro e w4 ⟨v2,rfl,p⟩;refine⟨_,rfl,?_⟩;obtain⟨a,nn,cap,w5,o,b6,f6,an,L⟩:=AP v2 w4 p;have HR:=aC o;clear o)
      |(refine Fk (by rfl) _ _ _ _ (by rfl) (HR _) ?_))
     all_goals
      go_wp21
      go_meet
      exact⟨_,L⟩
    .obtain⟨vE',T1⟩:=hcut;have au:wc.cell? (R,6)=U vE':=by obtain⟨_,_,_,_,_,_,_,hr⟩:=T1.ex;exact hr.cells.2.1
     obtain⟨r2,c2,D2,O2,W2,H2,S2,ac⟩:=T1.ex;have GR:=aC (JS (D2.later (dV wc)) O2 W2 H2 KN.2.1)
     have aj:G.length+(aA.dB s.ts (esc.filter fun e=>!bO g.e.bP e)).2.length<=100000:=by
      have h1:=xN s.ts ((esc.filter fun e=>!bO g.e.bP e).filter aA.fA) (esc.filter fun e=>!bO g.e.bP e,[]);have h2:=ZA aA.fA (esc.filter fun e=>!bO g.e.bP e);have h3:=jM KN.2.1;have e1:=aA.Ap s.ts (esc.filter fun e=>!bO g.e.bP e) KN.2.1.ids;simp only[Y7] at h1 h3;rw[<- e1] at h1;omega
     have AG:=aC (fun v2 w4 (p:xM wc.drew d { s with es:=esc.filter fun e=>!bO g.e.bP e } c2 v2 w4)=>TD.granted (S2.trans (Step.below (dV wc))) (ac.later (dV wc)) p aj);have cG:=ac.cells.1;have CE:=aC cE;clear D2 O2 W2 H2 S2 ac T1 EB AP aj cE aq
     go_upto_region 8 with fail
     go_region_law (first
      |(refine qe (by rfl) 65 _ _ (by rfl) _ (by simp[Act.eval,Act.put]) (Jn _ _) GR ?_;rintro e w4 ⟨v2,rfl,p⟩;refine⟨_,rfl,?_⟩;obtain⟨a,nn,cap,w5,o,b6,f6,an,L⟩:=AG v2 w4 p;have HR:=aC o;clear o)
      |(refine Fk (by rfl) _ _ _ _ (by rfl) (HR _) ?_))
     all_goals
      have TN:=aC L;clear L p b6 f6 an GR AG HR cG au
      go_wp21
      go_roundw
      .exact⟨_,_,_,_,_,_,_,TN,KN.1⟩
      .obtain⟨_,_,_,_,_,_,_,hr⟩:=TN.ex;have e1:=hr.cells.2.1;have e2:=hr.e.len;have h1:=KN.1.gF;have h2:=KN.2.2.2;have h3:=KN.2.2.1;rw[YZ,ZE] at e2 h1;rw[e1,CE];simp only[Option.getD_some];omega
theorem Ku(f:Of s r)(k:s.ts.Pairwise fun t u=>cO t.1 u.1=XW){b:M}(h:kH r.tg name=U b):∃ (i:M)(hi:i<r.tg.length),r.tg[i].name=name/\r.tg[i].tb=b/\aA.bW name s.ts=r.tg[i].aM:=by
 rw[uw] at h
 cases e:r.tg.find? fun t=>cO t.name name with
 |none=>rw[e] at h;cases h
 |some t =>
  rw[e] at h;obtain⟨i,hi,rfl⟩:=List.getElem_of_mem (List.mem_of_find?_eq_some e);have g:r.tg[i].name=name:=um.1 (by simpa using List.find?_some e);refine⟨i,hi,g,by simpa using h,?_⟩;have j:=El k (i:=i) (by rw[<- f.len];exact hi);rw[f.kU hi] at j;rw[<- g];exact j
theorem Kt(i:Of s r)(h:kH r.tg name=XU):aA.bW name s.ts=0:=by
 refine xX (fun t ht e=>?_);rw[<- i.ts] at ht;obtain⟨x,g,rfl⟩:=Zh.1 ht;rw[uw] at h
 cases f:r.tg.find? fun t=>cO t.name name with
 |none =>
  have:=List.find?_eq_none.1 f x g;exact this (um.2 e)
 |some y=>rw[f] at h;cases h
def sO(s:St)(r:Raw)(name:XK)(f:N)(e:Ending):Prop :=
 (f≠0/\e=Yg (Yc #[X8 XU,f]))\/(f=0/\∃ (i:M) (hi:i<r.tg.length),r.tg[i].name=name/\aA.bW name s.ts=r.tg[i].aM/\e=Yg (Yc #[X8 (U ⟨r.tg[i].tb,0,XU⟩),V Y 0]))
theorem Rp(w:XY):(zeroValue 198).run prog w=.ok (X8 XU) w:=by simp[go_sem]
theorem K5(h:DK w d r aN)(p:Of s r)(x:dZ s)(name:XK)(H:name.size<=1000)(u:N):
  X4 prog 146 #[d,name,u] w fun e w'=>sO s r name (aA.eB s.ts name u) e/\w'=w:=by
 let⟨m,f,a1,a2,a3,a4⟩:=h.mt;have F:=C5 H;have g:=a3.look CG underlying137 (Rp w) F;rw[a4 name] at g
 cases ht:kH r.tg name with
 |none =>
  rw[ht] at g;have D:=Kt p ht;have o:aA.eB s.ts name u=3:=by unfold aA.eB;rw[XS D]
  have k:(Instr.lookup 137 (.map (U m)) name XW).run prog w=.ok (X8 XU) w:=g;have z:Hid (sO s r name (aA.eB s.ts name u) (Yg (Yc #[X8 XU,V Y 3]))):=.inl ⟨by rw[o];omega,by rw[o]⟩;clear g o D ht a3 a4 h p x
  go_in
  go_wp21
  go_ret2;exact⟨z,rfl⟩
 |some b =>
  rw[ht] at g;let⟨i,hi,o,e2,e3⟩:=Ku p x.tn ht;let⟨ul,us,Fl,Fs,t1,t2⟩:=h.th i hi;have I:=t1.c1;rw[e2] at I
  have j:aA.bW name s.ts≠0:=by
   rw[e3];have C:(r.tg[i].name,r.tg[i].aM)∈s.ts:=by rw[<- p.kU hi];exact zg _
   have:=(x.tu _ C).1;simp only at this;omega
  have k:(Instr.lookup 137 (.map (U m)) name XW).run prog w=.ok b w:=g
  by_cases K:r.tg[i].aM<u
  .have q:aA.eB s.ts name u=7:=by unfold aA.eB;rw[XR j,XS O]
   have z:Hid (sO s r name (aA.eB s.ts name u) (Yg (Yc #[X8 XU,V Y 7]))):=.inl ⟨by rw[q];omega,by rw[q]⟩;clear g ht a3 a4 h p x o e2 e3 t1 t2 j q;generalize r.tg[i].aM=un at *
   go_in
   go_wp21
   go_ret2;exact⟨z,rfl⟩
  .have q:aA.eB s.ts name u=0:=by unfold aA.eB;rw[XR j,XR O]
   have z:Hid (sO s r name (aA.eB s.ts name u) (Yg (Yc #[b,V Y 0]))):=.inr ⟨q,i,hi,o,e3,by rw[e2]⟩;clear g ht a3 a4 h p x o e2 e3 t1 t2 j q;generalize r.tg[i].aM=un at *
   go_in
   go_wp21
   go_ret2;exact⟨z,rfl⟩
def fS(s:St)(name:XK)(u fr til:N):N:=if aA.eB s.ts name u≠0 then aA.eB s.ts name u else if til<=fr then 6 else 0
theorem vz(h:DK w d r aN)(x:Of s r)(z:dZ s)(name:XK)(I:name.size<=1000)(u fr til:N):
  X4 prog 143 #[d,name,u,.agg #[fr,til]] w fun e w'=>sO s r name (fS s name u fr til) e/\X0 w w w':=by
 have k:X0 w w (w.alloc (Yh #[fr,til] 60)):=bC;have F:=aC (K5 (h.later k) x z name I u);have D:=aC k;clear h x z k
 go_in
 go_wp21
 refine F.mono ?_;rintro e w1 ⟨H,f⟩;have q:=aC (show X0 w w w1 by rw[f];exact D);have L:w1.cell? (w,0)=U ↑fr:=by rw[f];simp
 have K:w1.cell? (w,1)=U ↑til:=by rw[f];simp
 clear f F D;rcases H with ⟨g,rfl⟩|⟨g,i,hi,p,o,rfl⟩
 .have j:Hid (sO s r name (fS s name u fr til) (Yg (Yc #[X8 XU,V Y (aA.eB s.ts name u)]))):=by
   have:fS s name u fr til=aA.eB s.ts name u:=by unfold fS;rw[XS g]
   rw[this];exact .inl ⟨g,rfl⟩
  generalize aA.eB s.ts name u=e0 at *;have P:(e0 != 0)=XX:=by simpa using g
  go_wp21
  go_ret2;exact⟨j,q⟩
 .by_cases C:til<=fr
  .have j:Hid (sO s r name (fS s name u fr til) (Yg (Yc #[X8 XU,V Y 6]))):=by
    have:fS s name u fr til=6:=by unfold fS;rw[XR O,XS C]
    rw[this];exact .inl ⟨O,rfl⟩
   clear g p o
   go_wp21
   go_ret2;exact⟨j,q⟩
  .have j:Hid (sO s r name (fS s name u fr til) (Yg (Yc #[X8 (U ⟨r.tg[i].tb,0,XU⟩),V Y 0]))):=by
    have:fS s name u fr til=0:=by unfold fS;rw[XR O,XR C]
    rw[this];exact .inr ⟨rfl,i,hi,p,o,rfl⟩
   clear g p o
   go_wp21
   go_ret2;exact⟨j,q⟩
def gk(p:N × N):J XZ:=[V Y p.1,V Y p.2]
def gA(p:aO × XZ):J XZ:=[p.1.id,p.1.kind,p.1.bA,p.1.aM,p.2,p.1.bP]
structure sK(w:XY)(B:M)(aN:M->XM bH)(v:XZ)(L:J (N × N)):Prop where
 own:w.ownsRow B 60 2 v L.length (L.flatMap gk)
 no:∀ b,v.ownBlock=U b->aN b=XU
structure ik(w:XY)(B:M)(aN:M->XM bH)(v:XZ)(l:J (aO × XZ)):Prop where
 own:w.ownsRow B 58 6 v l.length (l.flatMap gA)
 no:∀ b,v.ownBlock=U b->aN b=XU
 sp:∀ p∈l,sK w B aN p.2 p.1.aQ/\∀ b,p.2.ownBlock=U b->v.ownBlock≠U b
 pw:l.Pairwise fun p q=>∀ b,p.2.ownBlock=U b->q.2.ownBlock≠U b
theorem ik.nil(w:XY)(B:M)(aN:M->XM bH):ik w B aN () []:=⟨ZD _ _ _ _,(fun b f=>by cases f),XA,List.Pairwise.nil⟩
def lK(w:XY)(B:M)(aN:M->XM bH)(v:XZ)(p:aA.bI):Prop :=
 ∃ (i g h f:XZ) (l:J (aO × XZ)),v=bJ p.err p.at_ p.n i g h f/\l.map (·.1)=p.entries/\ik w B aN i l/\dY w B aN g p.days/\dY w B aN h p.granted/\dY w B aN f p.ended/\(∀ b,h.ownBlock=U b->i.ownBlock≠U b/\g.ownBlock≠U b/\f.ownBlock≠U b/\∀ q∈l,q.2.ownBlock≠U b)/\∀ b,g.ownBlock=U b->f.ownBlock≠U b
theorem lK.plain(w:XY)(B:M)(aN:M->XM bH)(e n:N):lK w B aN (bJ e 0 n () () () ()) ⟨e,0,n,[],[],[],[]⟩ :=
 ⟨_,_,_,_,[],rfl,rfl,ik.nil _ _ _,dY.nil _ _ _,dY.nil _ _ _,dY.nil _ _ _,(fun b f=>by cases f),fun b f=>by cases f⟩
def dS(w:XY)(d:M)(aN:M->XM bH)(q:St × aA.bI)(v:XZ)(w':XY):Prop :=
 ∃ (f:Raw) (col':M->XM bH),DK w' d f col'/\Of q.1 f/\Wl f/\Hl f/\Step anyS w aN col' w w'/\lK w' w col' v q.2
structure eh(w:XY)(d:M)(s:St)(r:Raw)(aN:M->XM bH):Prop where
 dk:DK w d r aN
 of:Of s r
 wl:Wl r
 hl:Hl r
 inv:Inv s
theorem eh.aY(h:eh w d s r aN):dZ s:=h.inv.aY
theorem Ao(f:Of s r){g:EG}(k:(r.eg.map (·.e.id)).Nodup)(i:g∈r.eg):aA.lL g.e.id s.es=U g.e:=by
 unfold aA.lL
 cases h:s.es.find? fun e=>decide (e.id=g.e.id) with
 |none =>
  have:=List.find?_eq_none.1 h g.e (f.mem i);simp at this
 |some e =>
  have p:=List.mem_of_find?_eq_some h;have o:=List.find?_some h;obtain⟨x,j,rfl⟩:=f.get p;have:x=g:=pA _ k j i (by simpa using o);rw[this]
theorem LJ(g:Of s r){id:N}(h:gW r.eg id=XU):aA.lL id s.es=XU:=by
 unfold aA.lL;refine List.find?_eq_none.2 (fun e i=>?_);obtain⟨x,f,rfl⟩:=g.get i
 simpa using Jd h x f
theorem vv{p:St}{j:Raw}(I:DK Z d j col')(H:Of p j)(F:Wl j)(D:Hl j)(C:Step anyS w aN col' w Z)(z:w<=Q)(q:col' Q=XU)(u n:N)(a b c e f g i:XZ):
  dS w d aN (p,⟨u,0,n,[],[],[],[]⟩) (bJ u 0 n () () () ()) (cR Z Q a b c e f g i):=by
 have k:=lQ Z Q a b c e f g i;have st:Step anyS w col' col' Z (cR Z Q a b c e f g i):=⟨⟨_,k,fun x o=>.inr (by have:x=Q:=List.mem_singleton.1 o;subst this;exact⟨q,z⟩)⟩,fun _ _ h=>h,fun _ _ h=>.inl h⟩;exact⟨j,col',I.off k (fun x o=>by have:x=Q:=List.mem_singleton.1 o;subst this;exact q),H,F,D,C.trans st,lK.plain _ _ _ _ _⟩
theorem eh.said(h:eh w d s r aN)(k:X0 w w Z)(o:w<=Q)(j n:N)(a b c e f g i:XZ):
  dS w d aN (s,⟨j,0,n,[],[],[],[]⟩) (bJ j 0 n () () () ()) (cR Z Q a b c e f g i) :=
 vv (h.dk.later k) h.of h.wl h.hl (Step.below k) o (h.dk.none o) j n a b c e f g i
theorem eh.refuse(h:eh w d s r aN)(j:X0 w w w1)(i:Q7 w1 (w.heap.size+1))(g:X0 w1 w1 w2){f:N}{l:aA.gn}(k:aA.aV s l=(s,aA.bI.error f)):
  Q7 w2 (w.heap.size+1)/\dS w d aN (aA.aV s l) (bJ f 0 0 () () () ()) (cR w2 (w.heap.size+1) f (V Y 0) (V Y 0) () () () ()) :=
 ⟨i.later (g.block _ (Yl _ _ i.q0)),by rw[k];exact h.said (j.trans (g.mono j.size)) O f 0 _ _ _ _ _ _ _⟩
theorem VQ(h:eh w d s r aN)(id:N)(ae:0<=id/\id<=9999999):
  X4 prog 96 #[d,.agg #[id]] w fun e w'=>∃ v,e=Yg v/\dS w d aN (aA.aV s (.bF id)) v w':=by
 obtain⟨hX,ac,ab,_⟩:=qA w (Yh #[id] 167);have xi:=bG ab 0 rfl;have p:=aC h;have D:=aC (Yz hX ac);clear h hX ac ab
 go_in
 go_upto_region 1 with fail
 change Code.wp _ _ _ _ ((w.alloc (Yh #[id] 167)).alloc bB);generalize (w.alloc (Yh #[id] 167)).alloc bB=X at D xi ⊢;have q:=p.dk.later D.1;obtain⟨m,f,a1,a2,a3,a4⟩:=q.me;have kk:=xl (n:=id) O O;have i:=(a3.block (w':=X.drew) rfl).look wW underlying138 (Ix X.drew) kk;rw[a4 id] at i;have QX:Hid (Q7 X.drew (w.heap.size+1)):=Q7.of D.2;have BX:Hid (X0 w w X.drew):=D.1.drew
 cases C:gW r.eg id with
 |none =>
  rw[C] at i;have j:(Instr.lookup 138 (.map (U m)) id XW).run prog X.drew=.ok (X8 XU) X.drew:=i;have HD:Hid (aA.aV s (.bF id)=(s,aA.bI.error 9)):=by have e:=LJ p.of C;simp only[Hid,aA.aV,e]
  clear i a3 a4 C q D
  go_big_region
  clear j xi a1
  go_wp21
  refine aK (jN 9 X.drew) fun w1 hb=>?_;have H:=aC (p.refuse BX QX hb HD);obtain⟨W,T,S,P,L,K,I,fq⟩:=H.1;simp only[bJ]
  go_wp21
  exact cL results96 ⟨W,T,S,P,L,K,I,fq⟩ ⟨_,rfl,H.2⟩
 |some b =>
  rw[C] at i;obtain⟨g,F,rfl,rfl⟩:=Do C;have j:(Instr.lookup 138 (.map (U m)) g.e.id XW).run prog X.drew=.ok g.eb X.drew:=i;have hf:=Ao p.of q.ni F;have ck:X.drew.cell? (g.eb,1)=U ↑g.e.kind:=(q.en g F).1.k;have hd:=q.later (dV X)
  by_cases z:g.e.kind=2
  .have HD:Hid (aA.aV s (.bF g.e.id)=({ s with es:=eA g.e.id s.es },aA.bI.num 0)):=by simp only[Hid,aA.aV,hf,z];simp
   have u:r.hl.length<=1000:=by
    have h1:=p.hl.len;have h2:r.eg.length=s.es.length:=by rw[<- p.of.es];simp
    have h3:=jM p.aY;omega
   have SE:=aC (KE hd p.hl.1 u F ⟨_,p.hl.has F O,rfl,rfl⟩);have HG:=aC (Yz F z);have ad:(g.e.kind != 2)=XW:=by simpa using z
   have NI:=aC q.ni;clear i a3 a4 C q D hf z hd u F
   go_big_region
   clear j xi a1
   go_wp21
   refine SE.mono ?_;rintro e w1 ⟨rfl,x,l',col1,k1,k2,k3,k4,k5,k6⟩;have hQ:w+1<X.drew.heap.size:=Yl _ _ QX.q0;have aa:aN (w.heap.size+1)=XU:=p.dk.none O;have hq:=k6.cF hQ aa hQ
   have H:Hid (dS w d aN (aA.aV s (.bF g.e.id)) (bJ 0 0 0 () () () ()) (cR w1 (w.heap.size+1) (V Y 0) (V Y 0) (V Y 0) () () () ())):=by
    rw[HD];have g2:=HG.2;refine vv k5 ?_ (p.wl.tL NI HG.1 O) (p.hl.book NI HG.1 O k2 k3 k4) ((Step.below BX).trans (k6.any BX.size)) O (k6.dG aa hQ) 0 0 _ _ _ _ _ _ _;have o:=p.of.tL p.inv.ids HG.1 O;exact⟨o.now,o.given,o.ts,o.es,o.th,o.tb⟩
   clear k1 k2 k3 k4 k5 k6 SE ck;obtain⟨W,T,S,P,L,K,I,fq⟩:=QX.later hq
   go_wp21
   exact cL results96 ⟨W,T,S,P,L,K,I,fq⟩ ⟨_,rfl,H⟩
  .have HD:Hid (aA.aV s (.bF g.e.id)=(s,aA.bI.error 10)):=by simp only[Hid,aA.aV,hf];rw[XS z]
   have ad:(g.e.kind != 2)=XX:=by simpa using z
   clear i a3 a4 C q D hf z hd
   go_big_region
   clear j xi a1
   go_wp21
   refine aK (jN 10 X.drew) fun w1 hb=>?_;have hq:=hb.block (w.heap.size+1) (Yl _ _ QX.q0)
   have H:Hid (dS w d aN (aA.aV s (.bF g.e.id)) (bJ 10 0 0 () () () ()) (cR w1 (w.heap.size+1) (V Y 10) (V Y 0) (V Y 0) () () () ())):=by
    rw[HD];exact p.said (BX.trans (hb.mono BX.size)) O 10 0 _ _ _ _ _ _ _
   clear ck;obtain⟨W,T,S,P,L,K,I,fq⟩:=QX.later hq;simp only[bJ]
   go_wp21
   exact cL results96 ⟨W,T,S,P,L,K,I,fq⟩ ⟨_,rfl,H⟩
theorem lR{size n:M}(h:w.ownsRow B e size v n xs):∃ a cap,v=X9 a n cap:=by
 rcases h.2 with ⟨rfl,f⟩|⟨g,cap,_,rfl,_⟩
 .rw[f];exact⟨_,_,rfl⟩
 .exact⟨_,_,rfl⟩
theorem sK.off{l:J (N × N)}{G:J M}(h:sK w B aN v l)(k:aH G w w')(i:∀ x∈G,x<B):sK w' B aN v l :=
 ⟨cV h.own k (fun b g f=>by have:=(h.own.lt b g).1;have:=i b f;omega),h.no⟩
theorem dY.off{l:J N}{G:J M}(h:dY w B aN v l)(k:aH G w w')(i:∀ x∈G,x<B):dY w' B aN v l :=
 ⟨cV h.own k (fun b g f=>by have:=(h.own.lt b g).1;have:=i b f;omega),h.no⟩
theorem ik.off{G:J M}(h:ik w B aN v l)(k:aH G w w')(g:∀ x∈G,x<B):ik w' B aN v l :=
 ⟨cV h.own k (fun b j i=>by have:=(h.own.lt b j).1;have:=g b i;omega),h.no,fun p f=>⟨(h.sp p f).1.off k g,(h.sp p f).2⟩,h.pw⟩
theorem ik.base(h:ik w B aN v l)(g:B'<=B):ik w B' aN v l :=
 ⟨Joins.ownsRow_le h.own g,h.no,fun p f=>⟨⟨Joins.ownsRow_le (h.sp p f).1.own g,(h.sp p f).1.no⟩,(h.sp p f).2⟩,h.pw⟩
theorem lK.off{p:aA.bI}{G:J M}(h:lK w B aN v p)(k:aH G w w')(f:∀ x∈G,x<B):lK w' B aN v p:=by
 let⟨en,da,gr,ed,l,e1,e2,e3,e4,e5,e6,e7⟩:=h;exact⟨en,da,gr,ed,l,e1,e2,e3.off k f,e4.off k f,e5.off k f,e6.off k f,e7⟩
theorem lK.base{p:aA.bI}(h:lK w B aN v p)(f:B'<=B):lK w B' aN v p:=by
 let⟨en,da,gr,ed,l,e1,e2,e3,e4,e5,e6,e7⟩:=h;exact⟨en,da,gr,ed,l,e1,e2,e3.base f,e4.base f,e5.base f,e6.base f,e7⟩
theorem dS.up{q:St × aA.bI}(h:dS X d aN q v w2)(C:X0 w w X)(hQ:w<=Q)(j:Q<X)(z:aN Q=XU)(h7:Q7 X Q):
  ∃ (er at_ n:N) (a1 a2 a3 a4:XM Addr) (n1 n2 W T I H F D:M),v=bJ er at_ n (X9 a1 n1 I) (X9 a2 n2 H) (X9 a3 W F) (X9 a4 T D)/\Q7 w2 Q/\∀ a b c e f g i,dS w d aN q v (cR w2 Q a b c e f g i):=by
 let⟨r',col',k1,k2,k3,k4,k5,k6⟩:=h;have hR:=k6;obtain⟨en,da,gr,ed,l,rfl,_,S,P,L,K,_⟩:=k6;obtain⟨b1,I,rfl⟩:=lR S.own;obtain⟨b2,H,rfl⟩:=P.slice;obtain⟨b3,F,rfl⟩:=L.slice;obtain⟨b4,D,rfl⟩:=K.slice;refine⟨_,_,_,_,_,_,_,_,_,_,_,_,_,_,_,rfl,h7.later (k5.cF j z j),fun a b c e f g i=>?_⟩;have k:=lQ w2 Q a b c e f g i;have u:=k5.dG z j;have p:=C.size;have st:Step anyS w col' col' w2 (cR w2 Q a b c e f g i):=⟨⟨_,k,fun x o=>.inr (by have:x=Q:=List.mem_singleton.1 o;subst this;exact⟨u,hQ⟩)⟩,fun _ _ h=>h,fun _ _ h=>.inl h⟩;exact⟨r',col',k1.off k (fun x o=>by have:x=Q:=List.mem_singleton.1 o;subst this;exact u),k2,k3,k4,((Step.below C).trans (k5.any p)).trans st,(hR.off k (fun x o=>by have:x=Q:=List.mem_singleton.1 o;omega)).base p⟩
theorem sK.later{l:J (N × N)}(h:sK w B aN v l)(k:X0 w w w'):sK w' B aN v l:=⟨eQ h.own k,h.no⟩
theorem ik.later(h:ik w B aN v l)(k:X0 w w w'):ik w' B aN v l:=⟨eQ h.own k,h.no,fun p f=>⟨(h.sp p f).1.later k,(h.sp p f).2⟩,h.pw⟩
def iz:St:=⟨[],[],0,0⟩
def ob:Raw:=⟨0,0,[],[],[],[]⟩
def qN(f:M)(k:M):XM bH:=if k=f then U .mt else if k=f+1 then U .me else if k=f+2 then U .desk else XU
theorem Qs:Inv iz:=by
 refine⟨by simp[iz],by simp[iz],by simp[iz],by simp[iz,dL],by simp[iz],by simp[iz],by simp[iz],by simp[iz],by simp[iz],by simp[iz],by simp[iz],by simp[iz,aA.eM],by simp[iz],fun name x=>?_⟩;simp[iz,aA.bZ,aA.bW]
def IF(w:XY)(v:XZ)(w':XY):Prop:=v=X8 (U ⟨w.heap.size+2,0,XU⟩)/\eh w' (w.heap.size+2) iz ob (qN w)/\X0 w w w'
theorem VS(w:XY):X4 prog 60 #[] w fun e w'=>∃ v,e=Yg v/\IF w v w':=by
 have I:=@run_makeMap prog
 have HF:Hid (IF w (X8 (U ⟨w.heap.size+2,0,XU⟩)) (((w.alloc (.map #[] 0)).alloc (.map #[] 0)).alloc (Yh #[V Y 0,V Y 0,.map (U w),.map (U (w.heap.size+1)),(),()] 144))):=by
  have s1:(w.alloc (.map #[] 0)).heap.size=w.heap.size+1:=XA
  have F:((w.alloc (.map #[] 0)).alloc (.map #[] 0)).heap.size=w.heap.size+2:=XA
  have H:=fO.made prog 9 w;have C:=fO.made prog 3 (w.alloc (.map #[] 0));have f:=cP ((w.alloc (.map #[] 0)).alloc (.map #[] 0)) (Yh #[V Y 0,V Y 0,.map (U w.heap.size),.map (U (w.heap.size+1)),(),()] 144);have b1:(((w.alloc (.map #[] 0)).alloc (.map #[] 0)).alloc (Yh #[V Y 0,V Y 0,.map (U w.heap.size),.map (U (w.heap.size+1)),(),()] 144)).heap[w.heap.size]?=(w.alloc (.map #[] 0)).heap[w.heap.size]?:=(Below.heap_alloc _ _ _ O).trans (Below.heap_alloc _ _ _ O);have W:(((w.alloc (.map #[] 0)).alloc (.map #[] 0)).alloc (Yh #[V Y 0,V Y 0,.map (U w.heap.size),.map (U (w.heap.size+1)),(),()] 144)).heap[w.heap.size+1]?=((w.alloc (.map #[] 0)).alloc (.map #[] 0)).heap[w.heap.size+1]?:=Below.heap_alloc _ _ _ O;have h:X0 w.heap.size w (((w.alloc (.map #[] 0)).alloc (.map #[] 0)).alloc (Yh #[V Y 0,V Y 0,.map (U w.heap.size),.map (U (w.heap.size+1)),(),()] 144)):=(bC.alloc O _).alloc O _;have s3:(((w.alloc (.map #[] 0)).alloc (.map #[] 0)).alloc (Yh #[V Y 0,V Y 0,.map (U w.heap.size),.map (U (w.heap.size+1)),(),()] 144)).heap.size=w.heap.size+3:=XA
  rw[F] at f;rw[s1] at C;have p:=H.block b1;have j:=C.block W;generalize ((w.alloc (.map #[] 0)).alloc (.map #[] 0)).alloc (Yh #[V Y 0,V Y 0,.map (U w),.map (U (w.heap.size+1)),(),()] 144)=Z at *;have T:Z.cell? (w.heap.size+2,4)=U ↑():=by simp only[YF,f];rfl
  have S:Z.cell? (w.heap.size+2,5)=U ↑():=by simp only[YF,f];rfl
  refine⟨rfl,⟨⟨?_,?_,⟨w,_,?_,by simp[qN],p,fun n=>rfl⟩,⟨w.heap.size+1,_,?_,by simp[qN],j,fun n=>rfl⟩,⟨_,T,ZD _ _ _ _,fun b h=>by cases h⟩,⟨_,⟨S,ZD _ _ _ _,XJ,frozen_of_row _ _ _ _ _ f⟩,fun b h=>by cases h⟩,fun i hi=>by simp[ob] at hi,fun g z=>by simp[ob] at z,by simp[ob],by simp[ob],fun o=>frozen_of_row _ _ _ _ _ f,by simp[qN],fun k c D=>?_⟩,⟨rfl,rfl,rfl,rfl,fun i hi=>by simp[ob] at hi,fun g z=>by simp[ob] at z⟩,rfl,⟨?_,List.Perm.nil⟩,Qs⟩,h⟩
  .simp only[YF,f];rfl
  .simp only[YF,f];rfl
  .simp only[YF,f];rfl
  .simp only[YF,f];rfl
  .unfold qN at D
   by_cases P:k=w
   .omega
   .by_cases L:k=w+1
    .omega
    .by_cases K:k=w+2
     .omega
     .simp[P,L,K] at D
  .intro i x u;have q:i<([]:J Hp.Hi).length:=by first|exact x|exact u
   simp at q
 go_in
 go_wp21
 go_ret;exact⟨_,rfl,HF⟩
theorem zn{S:bH->Prop}{W k:XY}{x:M->XM bH}{g size n:M}{u:XZ}(h:w1.ownsRow g e size v n xs)(q:∀ b,v.ownBlock=U b->col1 b=XU)(p:X0 w1 w1 W)(o:Step S W col1 x W w4)(C:aH u.ownBlock.toList w4 k)(z:aH [R] k Z)(H:w1<=R)(D:∀ b,v.ownBlock=U b->u.ownBlock≠U b):
  Z.ownsRow g e size v n xs/\∀ b,v.ownBlock=U b->x b=XU:=by
 have j:∀ b,v.ownBlock=U b->b<w1:=fun b f=>(h.lt b f).2
 have F:=p.size;refine⟨cV (cV (o.own (eQ h p) (fun b f=>⟨q b f,by have:=j b f;omega⟩)) C (fun b f i=>D b f (ZL.1 i))) z (fun b f i=>?_),fun b f=>o.dG (q b f) (by have:=j b f;omega)⟩;have:=j b f;have:b=R:=List.mem_singleton.1 i;omega
theorem Vh{s1:St}{r1:Raw}{p:aA.bI}{F at_:N}{C z j u:XZ}(hX:X0 w.heap.size w X)(ac:w.heap.size<X.heap.size)(h7:Q7 X w.heap.size)(ak:aN w.heap.size=XU)
  (k1:DK w1 d r1 col1) (k5:Step anyS X.heap.size aN col1 X w1) (hl:l.map (·.1)=p.entries) (e3:ik w1 X.heap.size col1 C l) (e4:dY w1 X.heap.size col1 z p.days) (e5:dY w1 X.heap.size col1 j p.granted) (e6:dY w1 X.heap.size col1 u p.ended) (e7:∀ b,j.ownBlock=U b->C.ownBlock≠U b/\z.ownBlock≠U b/\u.ownBlock≠U b/\∀ q∈l,q.2.ownBlock≠U b) (e8:∀ b,z.ownBlock=U b->u.ownBlock≠U b) (e1:F=p.err/\at_=p.at_/\n=p.n)
  (g:xM (w1.alloc (Yh #[V Y F,V Y at_,V Y n,C,z,j,u] 40)).drew d s1 col1 v2 w4) (i:p.granted.length+(aA.dB s1.ts s1.es).2.length<=100000):
  ∃ a m cap w5,(∀ ty,(Builtin.append_ #[38,38] ty #[j,v2]).run prog w4=.ok (X9 a m cap) w5)/\w4.cell? ⟨w1.heap.size,5,XU⟩=U j/\w5.heap[w1.heap.size]?=U (Yh #[V Y F,V Y at_,V Y n,C,z,j,u] 40 (0,0))/\Q7 (w5.setCell ⟨w1.heap.size,5,XU⟩ (X9 a m cap)) w.heap.size /\
   ∀ x1 x2 x3 x4 x5 x6 x7,dS w d aN ({ s1 with es:=(aA.dB s1.ts s1.es).1 },{ p with granted:=p.granted++(aA.dB s1.ts s1.es).2 }) (bJ F at_ n C z (X9 a m cap) u) (cR (w5.setCell ⟨w1.heap.size,5,XU⟩ (X9 a m cap)) w.heap.size x1 x2 x3 x4 x5 x6 x7):=by
 have kW:X0 w1.heap.size w1 (w1.alloc (Yh #[V Y F,V Y at_,V Y n,C,z,j,u] 40)).drew:=((zr _ _).alloc (zq _) _).drew;have ar:(w1.alloc (Yh #[V Y F,V Y at_,V Y n,C,z,j,u] 40)).drew.heap[w1.heap.size]?=U (Yh #[V Y F,V Y at_,V Y n,C,z,j,u] 40 (0,0)):=cP w1 _;have ab:w1.heap.size<(w1.alloc (Yh #[V Y F,V Y at_,V Y n,C,z,j,u] 40)).drew.heap.size:=by show _<(w1.alloc _).heap.size;simp
 generalize (w1.alloc (Yh #[V Y F,V Y at_,V Y n,C,z,j,u] 40)).drew=W at *;obtain⟨r4,D,q1,q2,q3,q4,o,q6⟩:=g;have al:=hX.size;have ay:=k5.size;have an:col1 w1.heap.size=XU:=k1.none (zq _);have g4:=(e5.later kW).step o (zq _);obtain⟨v3,w5,a1,a2,a3,a4⟩:=g4.append (q6.base (B':=X.heap.size) O) (by have:=o.size;omega) (fun b i=>q1.none i) i;obtain⟨I,H,rfl⟩:=a2.slice;have K:aH j.ownBlock.toList w4 w5:=aH.grown (aH.refl _ w4) a3 (fun k hk=>.inl (ZL.2 hk));have aj:∀ b,j.ownBlock=U b->b<w1.heap.size:=fun b i=>(e5.own.lt b i).2
 have ao:w4.heap[w1.heap.size]?=U _:=(o.cF ab an ab).trans ar;have au:w5.heap[w1.heap.size]?=U _:=(K.block _ (by have:=o.size;omega) (fun f=>by have:=aj _ (ZL.1 f);omega)).trans ao;have L:=aH.bD w1.heap.size w5 5 (X9 I (p.granted++(aA.dB s1.ts s1.es).2).length H);have S:D w1.heap.size=XU:=o.dG an ab;have aa:col1 w.heap.size=XU:=k5.dG ak ac;have T:D w.heap.size=XU:=o.dG aa O
 have ag:∀ b,(Value.slice I (p.granted++(aA.dB s1.ts s1.es).2).length H).ownBlock=U b->j.ownBlock=U b\/b=w4.heap.size:=fun b i=>by
  rcases a4 with e|e
  .exact .inl (by rw[<- e];exact i)
  .rw[i] at e;exact .inr (Option.some.inj e)
 have ax:=o.size
 have aw:Q7 (w5.setCell ⟨w1.heap.size,5,XU⟩ (X9 I (p.granted++(aA.dB s1.ts s1.es).2).length H)) w.heap.size:=by
  refine h7.later ?_;have b1:=k5.cF ac ak ac;have b2:=kW.block w.heap.size O;have b3:=o.cF (b:=w.heap.size) O aa O;have b4:=K.block w.heap.size O (fun f=>by have:=(e5.own.lt _ (ZL.1 f)).1;omega);have b5:=L.block w.heap.size (by have:=K.size;omega) XG;rw[b5,b4,b3,b2,b1]
 have ad:=zn e3.own e3.no kW o K L (zq _) (fun b i f=>(e7 b f).1 i);have af:=zn e4.own e4.no kW o K L (zq _) (fun b i f=>(e7 b f).2.1 i);have ae:=zn e6.own e6.no kW o K L (zq _) (fun b i f=>(e7 b f).2.2.1 i)
 have aq:∀ q∈l,sK (w5.setCell ⟨w1.heap.size,5,XU⟩ (X9 I (p.granted++(aA.dB s1.ts s1.es).2).length H)) X.heap.size D q.2 q.1.aQ:=fun q P=>by
  have x:=zn (e3.sp q P).1.own (e3.sp q P).1.no kW o K L (zq _) (fun b i f=>(e7 b f).2.2.2 q P i);exact⟨x.1,x.2⟩
 refine⟨I,_,H,w5,a1,?_,au,aw,fun x1 x2 x3 x4 x5 x6 x7=>?_⟩
 .simp only[YF,ao];rfl
 .have kq:=lQ (w5.setCell ⟨w1.heap.size,5,XU⟩ (X9 I (p.granted++(aA.dB s1.ts s1.es).2).length H)) w.heap.size x1 x2 x3 x4 x5 x6 x7;have av:∀ x∈[w.heap.size],x<X.heap.size:=fun x f=>by have:x=w.heap.size:=List.mem_singleton.1 f;omega
  have ai:lK (w5.setCell ⟨w1.heap.size,5,XU⟩ (X9 I (p.granted++(aA.dB s1.ts s1.es).2).length H)) X.heap.size D (bJ F at_ n C z (X9 I (p.granted++(aA.dB s1.ts s1.es).2).length H) u) { p with granted:=p.granted++(aA.dB s1.ts s1.es).2 }:=by
   refine⟨C,z,_,u,l,by rw[e1.1,e1.2.1,e1.2.2],hl,⟨ad.1,ad.2,fun q P=>⟨aq q P,(e3.sp q P).2⟩,e3.pw⟩,⟨af.1,af.2⟩,⟨cV a2.own L (fun b i f=>?_),a2.no⟩,⟨ae.1,ae.2⟩,fun b i=>?_,e8⟩
   .have e:b=w1.heap.size:=List.mem_singleton.1 f;rcases ag b i with e2|e2
    .have:=aj b e2;omega
    .omega
   .rcases ag b i with e2|e2
    .exact e7 b e2
    .refine⟨fun e=>?_,fun e=>?_,fun e=>?_,fun q P e=>?_⟩
     .have:=(e3.own.lt b e).2;omega
     .have:=(e4.own.lt b e).2;omega
     .have:=(e6.own.lt b e).2;omega
     .have:=((e3.sp q P).1.own.lt b e).2;omega
  refine⟨r4,D,((q1.off K (fun x f=>g4.no x (ZL.1 f))).off L (fun x f=>by have:x=w1.heap.size:=List.mem_singleton.1 f;subst this;exact S)).off kq (fun x f=>by have:x=w.heap.size:=List.mem_singleton.1 f;subst this;exact T),q2,q3,q4,?_,(ai.off kq av).base al⟩;have t1:Step anyS w.heap.size aN col1 w w1:=(Step.below hX).trans (k5.any al);have t2:Step anyS w.heap.size aN D w w4:=(t1.trans (Step.below kW)).trans (o.any O);have t3:Step anyS w.heap.size D D w4 w5:=⟨⟨_,K,fun x f=>.inr ⟨g4.no x (ZL.1 f),by have:=(e5.own.lt x (ZL.1 f)).1;omega⟩⟩,fun _ _ h=>h,fun _ _ h=>.inl h⟩;have t4:Step anyS w.heap.size D D w5 (w5.setCell ⟨w1.heap.size,5,XU⟩ (X9 I (p.granted++(aA.dB s1.ts s1.es).2).length H)):=⟨⟨_,L,fun x f=>.inr (by have:x=w1.heap.size:=List.mem_singleton.1 f;subst this;exact⟨S,by omega⟩)⟩,fun _ _ h=>h,fun _ _ h=>.inl h⟩;have t5:Step anyS w.heap.size D D _ _:=⟨⟨_,kq,fun x f=>.inr (by have:x=w.heap.size:=List.mem_singleton.1 f;subst this;exact⟨T,Yi _⟩)⟩,fun _ _ h=>h,fun _ _ h=>.inl h⟩;exact ((t2.trans t3).trans t4).trans t5
theorem lK.later{p:aA.bI}(h:lK w B aN v p)(k:X0 w w w'):lK w' B aN v p:=by
 let⟨en,da,gr,ed,l,e1,e2,e3,e4,e5,e6,e7⟩:=h;exact⟨en,da,gr,ed,l,e1,e2,e3.later k,e4.later k,e5.later k,e6.later k,e7⟩
theorem dS.later{q:St × aA.bI}(h:dS X d aN q v w1)(k:X0 w1 w1 w2):dS X d aN q v w2:=by
 let⟨r',col',k1,k2,k3,k4,k5,k6⟩:=h;exact⟨r',col',k1.later k,k2,k3,k4,k5.trans (Step.below k),k6.later k⟩
theorem Ur{l:aA.gn}(h:(aA.aV s l).2.err≠0):aA.ix s l=aA.aV s l:=by unfold aA.ix;rw[XS h]
theorem SX{l:aA.gn}(h:(aA.aV s l).2.err=0):aA.ix s l=({ (aA.aV s l).1 with es:=(aA.dB (aA.aV s l).1.ts (aA.aV s l).1.es).1 },{ (aA.aV s l).2 with granted:=(aA.aV s l).2.granted++(aA.dB (aA.aV s l).1.ts (aA.aV s l).1.es).2 }):=by unfold aA.ix;rw[XR O]
theorem QA{a b c d e f g:XZ}(h:w.heap[R]?=U (Yh #[a,b,c,d,e,f,g] 40 (0,0))):w.cell? (R,0)=U a/\w.cell? (R,1)=U b/\w.cell? (R,2)=U c/\w.cell? (R,3)=U d/\w.cell? (R,4)=U e/\w.cell? (R,5)=U f/\w.cell? (R,6)=U g/\∀ o,w.frozen? ⟨R,o,XU⟩=XW:=by
 refine⟨?_,?_,?_,?_,?_,?_,?_,fun o=>frozen_of_row _ R o _ _ h⟩
 all_goals (simp only[YF,h];rfl)
theorem Rb(h:eh w d s r aN)(f:XZ)(l:aA.gn)(aa:aA.dZ (aA.aV s l).1)(u:(aA.aV s l).2.granted.length<=50000)
  (j:∀ X,X0 w w X->eh X d s r aN->X4 prog 64 #[d,f] X fun e w'=>∃ v,e=Yg v/\dS X d aN (aA.aV s l) v w'):
  X4 prog 46 #[d,f] w fun e w'=>∃ v,e=Yg v/\dS w d aN (aA.ix s l) v w':=by
 have hX:X0 w w (w.alloc bB):=bC;have hq:=cP w bB;have hs:w<(w.alloc bB).heap.size:=XA
 have AN:=aC (j (w.alloc bB) hX ⟨h.dk.later hX,h.of,h.wl,h.hl,h.inv⟩);have o:=aC (Yz hX (Yz (Q7.of hq) (h.dk.none aI)));have HM:=aC (Yz aa u);have HE:=aC (Ur (s:=s) (l:=l));have HO:=aC (SX (s:=s) (l:=l));clear h j hX hq u;generalize aA.ix s l=SD at *;generalize aA.aV s l=D at *
 go_in
 go_upto_region 1 with fail
 change Code.wp _ _ _ _ (w.alloc bB);generalize w.alloc bB=X at *
 go_wp21
 refine AN.mono ?_;rintro e w1 ⟨v,rfl,ap⟩;have AP:=aC ap;obtain⟨r1,col1,W,k2,k3,k4,T,en,da,gr,ed,q,rfl,k,e3,e4,e5,e6,e7⟩:=ap;obtain⟨P,H,rfl⟩:=lR e3.own;obtain⟨L,F,rfl⟩:=e4.slice;obtain⟨K,C,rfl⟩:=e5.slice;obtain⟨I,z,rfl⟩:=e6.slice;have ab:=T.size
 by_cases he:D.2.err=0
 .have S:=aC (HO he);have GR:=aC (JS (w:=(w1.alloc (Yh #[D.2.err,V Y D.2.at_,V Y D.2.n,X9 P q.length H,X9 L D.2.days.length F,X9 K D.2.granted.length C,X9 I D.2.ended.length z] 40)).drew) (W.later bC.drew) k2 k3 k4 HM.1)
  have AG:=aC (fun v2 w4 g=>Vh (w:=w) (w4:=w4) (v2:=v2) (s1:=D.1) o.1 hs o.2.1 o.2.2 W T k e3 e4 e5 e6 e7.1 e7.2 ⟨rfl,rfl,rfl⟩ g (by
   have h1:=xN D.1.ts (D.1.es.filter aA.fA) (D.1.es,[]);have h2:=ZA aA.fA D.1.es;have h3:=jM HM.1;have e1:=aA.Ap D.1.ts D.1.es HM.1.ids;have h4:=HM.2;simp only[Y7] at h1;rw[<- e1] at h1
   omega))
  have yR:(w1.alloc (Yh #[D.2.err,V Y D.2.at_,V Y D.2.n,X9 P q.length H,X9 L D.2.days.length F,X9 K D.2.granted.length C,X9 I D.2.ended.length z] 40)).cell? (w1,5)=U (X9 K D.2.granted.length C):=XA
  clear W k2 k3 k4 T k e3 e4 e5 e6 e7 AP AN;simp only[bJ];rw[he] at GR AG yR S ⊢
  go_upto_region 3 with fail
  go_region_law (first
   |(refine qe (by rfl) 65 _ _ (by rfl) _ (by simp[Act.eval,Act.put]) (Jn _ _) GR ?_;rintro e w4 ⟨v2,rfl,p⟩;refine⟨_,rfl,?_⟩;obtain⟨a,m,cap,w5,i,g5,h5,q7,x⟩:=AG v2 w4 p;have HR:=aC i;have HF:=aC x;clear i x;obtain⟨y0,y1,y2,y3,y4,y5,y6,fR⟩:=QA h5;obtain⟨q0,q1,q2,q3,q4,q5,q6,fq⟩:=q7)
   |(refine Fk (by rfl) _ _ _ _ (by rfl) (HR _) ?_))
  all_goals
   have HG:=aC (HF (V Y 0) (V Y D.2.at_) (V Y D.2.n) (X9 P q.length H) (X9 L D.2.days.length F) (X9 a m cap) (X9 I D.2.ended.length z));clear HF p GR AG HR yR g5 h5
   go_wp21
   exact cL results46 ⟨q0,q1,q2,q3,q4,q5,q6,fq⟩ ⟨_,rfl,by rw[S];exact HG⟩
 .have ac:(D.2.err==0)=XW:=by simpa using he
  have HD:=aC (HE he);have kW:X0 w1 w1 (w1.alloc (Yh #[D.2.err,V Y D.2.at_,V Y D.2.n,X9 P q.length H,X9 L D.2.days.length F,X9 K D.2.granted.length C,X9 I D.2.ended.length z] 40)):=bC;obtain⟨_,_,_,_,_,_,_,_,_,_,_,_,_,_,_,_,q7,x⟩:=(AP.later kW).up o.1 aI hs o.2.2 o.2.1;have HF:=aC (x D.2.err (V Y D.2.at_) (V Y D.2.n) (X9 P q.length H) (X9 L D.2.days.length F) (X9 K D.2.granted.length C) (X9 I D.2.ended.length z));obtain⟨q0,q1,q2,q3,q4,q5,q6,fq⟩:=q7;clear W k2 k3 k4 T k e3 e4 e5 e6 e7 AP AN x kW;simp only[bJ];generalize D.2.err=er at *
  go_wp21
  exact cL results46 ⟨q0,q1,q2,q3,q4,q5,q6,fq⟩ ⟨_,rfl,by rw[HD];exact HF⟩
theorem eV{a b:XN}(h:a=b):Yg a=Yg b:=by rw[h]
theorem gH{k:IntKind}(h:a=b):Yg (V k a)=Yg (V k b):=by rw[h]
def ig(w:XY):Prop:=w.cell? (1,0)=U (V Y 31)/\w.cell? (1,1)=U (V Y 28)/\w.cell? (1,2)=U (V Y 31)/\w.cell? (1,3)=U (V Y 30)/\w.cell? (1,4)=U (V Y 31)/\w.cell? (1,5)=U (V Y 30)/\w.cell? (1,6)=U (V Y 31)/\w.cell? (1,7)=U (V Y 31)/\w.cell? (1,8)=U (V Y 30)/\w.cell? (1,9)=U (V Y 31)/\w.cell? (1,10)=U (V Y 30)/\w.cell? (1,11)=U (V Y 31)
theorem US(y:N)(w:XY)(j:0<=y)(i:y<=10000):
  X4 prog 228 #[y] w fun e w'=>e=Yg (Cal.nc y)/\w'=w:=by
 cases h:(y % 4==0)
 .go_in
  go_wp2;go_ret;exact⟨eV (by simp[Cal.nc,h]),rfl⟩
 .cases f:(y % 100 != 0)
  .cases g:(y % 400==0)
   all_goals
    go_in
    go_wp2;go_ret;exact⟨eV (by simp only[Cal.nc,h,f,g];rfl),rfl⟩
  .go_in
   go_wp2;go_ret;exact⟨eV (by simp only[Cal.nc,h,f];rfl),rfl⟩
theorem AA(y:N)(w:XY)(g:1<=y)(f:y<=10000):
  X4 prog 168 #[y] w fun e w'=>e=Yg (V Y (Cal.ah y))/\w'=w:=by
 go_in
 go_wp2;go_ret;exact⟨gH (by unfold Cal.ah;omega),rfl⟩
theorem An(y m:N)(w:XY)(ht:ig w)(k:0<=y)(j:y<=10000)(i:1<=m)(g:m<=12):
  X4 prog 169 #[y,m] w fun e w'=>e=Yg (V Y (Cal.gK y m))/\w'=w:=by
 let⟨c0,c1,c2,c3,c4,c5,c6,c7,c8,c9,c10,c11⟩:=ht;rcases Cal.Cx m i g with h|h|h|h|h|h|h|h|h|h|h|h
 .subst h
  go_in
  go_wp2;go_ret;exact⟨gH (by simp[Cal.gK,Cal.jv]),rfl⟩
 .subst h
  cases f:Cal.nc y
  all_goals
   go_in
   go_wp2_with (go_at_call 228;refine aX (US _ _ O O) ?_)
   go_ret;exact⟨gH (by simp[Cal.gK,Cal.lp,f]),rfl⟩
 all_goals
  subst h
  go_in
  go_wp2;go_ret;exact⟨gH (by simp[Cal.gK,Cal.jv]),rfl⟩
theorem VG(g:N)(w:XY)(p:0<=g)(u:g<3652059):
  X4 prog 171 #[g] w fun e w'=>∃ y:N,e=Yg y/\1<=y/\y<=9999/\Cal.ah y<=g/\g<Cal.ah (y+1)/\w'=w:=by
 have o:=Cal.I8 g p
 go_in
 go_wp2
 go_loop [3] (fun t=>∃ y:N,1<=y/\y<=9999/\Cal.ah y<=g/\t=V Y y) (fun t=>(9999-intOf t).toNat)
 .exact⟨_,O,O,o,rfl⟩
 .obtain⟨y,i,h,f,rfl⟩:=hrel;clear o
  by_cases k:Cal.ah (y+1)<=g
  .have q:y<9999:=by
    by_cases e:y=9999
    .subst e;have:=Cal.zz;rw[show (9999:N)+1=10000 from rfl] at k;omega
    .omega
   go_wp2_with (go_at_call 168;refine aX (AA _ _ O O) ?_)
   go_round
   .exact⟨y+1,O,O,k,rfl⟩
   .simp[intOf];omega
  .have j:g<Cal.ah (y+1):=O
   go_wp2_with (go_at_call 168;refine aX (AA _ _ O O) ?_)
   go_ret;exact⟨y,rfl,i,h,f,j,rfl⟩
theorem mM{d:N}(h:¬ (1<=y/\y<=9999/\1<=m/\m<=12/\1<=d/\d<=Cal.gK y m)):Cal.ok y m d=XW:=by
 unfold Cal.ok;exact decide_eq_false h
theorem wR{d:N}(h:1<=y/\y<=9999/\1<=m/\m<=12/\1<=d/\d<=Cal.gK y m):Cal.ok y m d=XX:=by
 unfold Cal.ok;exact decide_eq_true h
theorem KV(y m d:N)(w:XY)(ht:ig w):
  X4 prog 167 #[y,m,d] w fun e w'=>e=Yg (Cal.ok y m d)/\w'=w:=by
 by_cases a:1<=y
 .by_cases b:y<=9999
  .by_cases c:1<=m
   .by_cases f:m<=12
    .by_cases g:1<=d
     .by_cases k:d<=Cal.gK y m
      all_goals
       go_in
       go_wp2_with (go_at_call 169;refine aX (An _ _ _ ht O O O O) ?_)
       go_ret
      .exact⟨eV (by rw[wR ⟨a,b,c,f,g,k⟩]),rfl⟩
      .exact⟨eV (by rw[mM O];exact decide_eq_false O),rfl⟩
     .go_in
      go_wp2;go_ret;exact⟨eV (by rw[mM O]),rfl⟩
    .go_in
     go_wp2;go_ret;exact⟨eV (by rw[mM O]),rfl⟩
   .go_in
    go_wp2;go_ret;exact⟨eV (by rw[mM O]),rfl⟩
  .go_in
   go_wp2;go_ret;exact⟨eV (by rw[mM O]),rfl⟩
 .go_in
  go_wp2;go_ret;exact⟨eV (by rw[mM O]),rfl⟩
theorem Ed(y m d:N)(w:XY)(ht:ig w)(h:Cal.ok y m d=XW):
  X4 prog 112 #[y,m,d] w fun e w'=>e=Yg (Yc #[V Y 0,V Y 6])/\w'=w:=by
 go_in
 go_wp2_with (go_at_call 167;refine aX (KV _ _ _ _ ht) ?_)
 go_ret2;exact⟨rfl,rfl⟩
theorem Iy{k l:IntKind}{c:N}(h:a=b):Yg (Yc #[V k a,V l c])=Yg (Yc #[V k b,V l c]):=by rw[h]
theorem Eu(y m d:N)(w:XY)(ht:ig w)(h:Cal.ok y m d=XX):
  X4 prog 112 #[y,m,d] w fun e w'=>e=Yg (Yc #[V Y (Cal.num y m d),V Y 0])/\w'=w:=by
 let⟨h1,h2,h3,h4,h5,h6⟩:=(Cal.iB y m d).1 h;have u:=Cal.ss y h1 O;have i:=Cal.pe y m;have p:=Cal.sA y
 go_in
 go_wp2_with (first|(go_at_call 167;refine aX (KV _ _ _ _ ht) ?_)|(go_at_call 168;refine aX (AA _ _ O O) ?_))
 go_loop [8,9] (fun n k=>∃ j:N,1<=j/\j<=m/\k=V Y j/\n=V Y (-738885+Cal.ah y+d-1+Cal.dA y j)) (fun _ k=>(m-intOf k).toNat)
 .exact⟨1,O,O,rfl,by rw[Cal.pT,Int.add_zero]⟩
 .obtain⟨j,f,g,rfl,rfl⟩:=hrel;have cb:=Cal.sC y j f O;have x:=Cal.pe y j;have cs:=Cal.qX y j f O;have o:Hid (Cal.dA y (j+1)=Cal.dA y j+Cal.gK y j):=cs;clear cs
  by_cases q:j<m
  .go_wp2_with (go_at_call 169;refine aX (An _ _ _ ht O O O O) ?_)
   go_round
   .exact⟨j+1,O,O,rfl,by rw[o];go_num⟩
   .simp[intOf];omega
  .obtain rfl:j=m:=O
   go_wp2;go_ret2;exact⟨Iy (by unfold Cal.num Cal.first;omega),rfl⟩
theorem qP{g:Func}{t u v x:Tmp}(h:g.results=#[.tmp t,.tmp u,.tmp v,.tmp x])(f:Array XZ)(P:Program)(w:XY):
  (results g f).run P w=.ok (Yc #[f.getD t undef,f.getD u undef,f.getD v undef,f.getD x undef]) w:=by
 simp[results,h]
theorem QQ(n y k:N):Cal.num y k (n+738885-Cal.ah y-Cal.dA y k+1)=n:=by unfold Cal.num Cal.first;omega
theorem VN(n:N)(w:XY)(ht:ig w)(K:-738885<=n)(I:n<=2913173):
  X4 prog 116 #[n] w fun e w'=>∃ y m d:N,e=Yg (Yc #[y,m,V Y d,V Y 0])/\Cal.ok y m d=XX/\Cal.num y m d=n/\w'=w:=by
 go_in
 go_wp2_with (first|(go_at_call 171;refine (VG _ _ O O).mono ?_;rintro e w' ⟨y,rfl,f,x,u,q,rfl⟩;have H:=Cal.ss y f O)|(go_at_call 168;refine aX (AA _ _ O O) ?_))
 have j:=Cal.tR y f;have D:=Cal.sA y
 go_loop [8,9] (fun r k=>∃ m:N,1<=m/\m<=12/\k=V Y m/\0<=n+738885-Cal.ah y-Cal.dA y m/\r=V Y (n+738885-Cal.ah y-Cal.dA y m)) (fun _ k=>(12-intOf k).toNat)
 .exact⟨1,O,O,rfl,by rw[Cal.pT];omega,by rw[Cal.pT,Int.sub_zero]⟩
 .obtain⟨m,g,i,rfl,z,rfl⟩:=hrel;have cb:=Cal.sC y m g O;have L:=Cal.pe y m;have cs:=Cal.qX y m g i;have o:=Cal.wT y
  by_cases F:Cal.gK y m<=n+738885-Cal.ah y-Cal.dA y m
  .have C:m<12:=by
    by_cases e:m=12
    .subst e;rw[show (12:N)+1=13 from rfl] at cs;omega
    .omega
   have p:Hid (Cal.dA y (m+1)=Cal.dA y m+Cal.gK y m):=cs;clear cs o j
   go_wp2_with (go_at_call 169;refine aX (An _ _ _ ht O O O O) ?_)
   go_round
   .exact⟨m+1,O,O,rfl,by rw[p];omega,by rw[p];go_num⟩
   .simp[intOf];omega
  .have h:Cal.ok y m (n+738885-Cal.ah y-Cal.dA y m+1)=XX:=wR O;clear cs o j
   go_wp2_with (go_at_call 169;refine aX (An _ _ _ ht O O O O) ?_)
   (try simp only[Zz,Exit.then]);refine bodyPost_ret (qP rfl _ _ _) rfl ?_
   exact⟨y,m,_,rfl,h,QQ n y m,rfl⟩
theorem Hv(y:N)(w:XY)(j:0<=y)(i:y<=10000):
  X4 prog 170 #[y] w fun e w'=>e=Yg (Cal.nc y)/\w'=w:=by
 cases f:(y % 100==0)
 .go_in
  go_wp2;go_ret;exact⟨eV (by simp only[Cal.nc,bne,f];simp),rfl⟩
 .have g:(y % 4==0)=XX:=by simp only[beq_iff_eq] at f ⊢;omega
  have h:Hid ((y % 4==0)=XX):=g;clear g
  go_in
  go_wp2;go_ret;exact⟨eV (by simp only[Cal.nc,bne,f,h.out];simp),rfl⟩
theorem sq(y:N)(w:XY)(h:0<=y)(g:y<=10000):
  X4 prog 115 #[y] w fun e w'=>e=Yg (V Y (365+Cal.lp y))/\w'=w:=by
 cases f:Cal.nc y
 all_goals
  go_in
  go_wp2_with (go_at_call 170;refine aX (Hv _ _ O O) ?_)
  go_ret;exact⟨gH (by simp[Cal.lp,f]),rfl⟩
theorem uJ(y m:N)(w:XY)(k:0<=y)(j:y<=10000)(i:1<=m)(g:m<=12):
  X4 prog 114 #[y,m] w fun e w'=>e=Yg (V Y (Cal.gK y m))/\w'=w:=by
 rcases Cal.Cx m i g with h|h|h|h|h|h|h|h|h|h|h|h
 .subst h
  go_in
  go_wp2;go_ret;exact⟨gH (by simp[Cal.gK,Cal.jv]),rfl⟩
 .subst h
  cases f:Cal.nc y
  all_goals
   go_in
   go_wp2_with (go_at_call 170;refine aX (Hv _ _ O O) ?_)
   go_ret;exact⟨gH (by simp[Cal.gK,Cal.lp,f]),rfl⟩
 all_goals
  subst h
  go_in
  go_wp2;go_ret;exact⟨gH (by simp[Cal.gK,Cal.jv]),rfl⟩
theorem Hm(y m d:N)(w:XY):
  X4 prog 113 #[y,m,d] w fun e w'=>e=Yg (Cal.ok y m d)/\w'=w:=by
 by_cases a:1<=y
 .by_cases b:y<=9999
  .by_cases c:1<=m
   .by_cases f:m<=12
    .by_cases g:1<=d
     .by_cases k:d<=Cal.gK y m
      all_goals
       go_in
       go_wp2_with (go_at_call 114;refine aX (uJ _ _ _ O O O O) ?_)
       go_ret
      .exact⟨eV (by rw[wR ⟨a,b,c,f,g,k⟩]),rfl⟩
      .exact⟨eV (by rw[mM O];exact decide_eq_false O),rfl⟩
     .go_in
      go_wp2;go_ret;exact⟨eV (by rw[mM O]),rfl⟩
    .go_in
     go_wp2;go_ret;exact⟨eV (by rw[mM O]),rfl⟩
   .go_in
    go_wp2;go_ret;exact⟨eV (by rw[mM O]),rfl⟩
  .go_in
   go_wp2;go_ret;exact⟨eV (by rw[mM O]),rfl⟩
 .go_in
  go_wp2;go_ret;exact⟨eV (by rw[mM O]),rfl⟩
theorem Ph(y m d:N)(w:XY)(h:Cal.ok y m d=XW):
  X4 prog 71 #[y,m,d] w fun e w'=>e=Yg (Yc #[V Y 0,V Y 6])/\w'=w:=by
 go_in
 go_wp2_with (go_at_call 113;refine aX (Hm _ _ _ _) ?_)
 go_ret2;exact⟨rfl,rfl⟩
theorem wG:Cal.ah 2024=738885:=XC
theorem Pw(y m d:N)(w:XY)(h:Cal.ok y m d=XX):
  X4 prog 71 #[y,m,d] w fun e w'=>e=Yg (Yc #[V Y (Cal.num y m d),V Y 0])/\w'=w:=by
 obtain⟨C,h2,P,h4,h5,h6⟩:=(Cal.iB y m d).1 h;have hb:=Cal.ss y C O;have L:=Cal.pe y m;have hl:=Cal.sA y;have T:=Cal.sC y m P O
 go_in
 go_wp2_with (go_at_call 113;refine aX (Hm _ _ _ _) ?_)
 go_loop [9,10,11] (fun n k _=>∃ j:N,1<=j/\j<=m/\k=V Y j/\n=V Y (d-1+Cal.dA y j)) (fun _ k _=>(m-intOf k).toNat)
 .exact⟨1,O,O,rfl,by rw[Cal.pT,Int.add_zero]⟩
 .obtain⟨j,o,I,rfl,rfl⟩:=hrel;have cb:=Cal.sC y j o O;have db:=Cal.pe y j;have cs:=Cal.qX y j o O;have HC:Hid (Cal.dA y (j+1)=Cal.dA y j+Cal.gK y j):=cs;clear cs
  by_cases hc:j<m
  .go_wp2_with (go_at_call 114;refine aX (uJ _ _ _ O O O O) ?_)
   go_round
   .exact⟨j+1,O,O,rfl,by rw[HC];go_num⟩
   .simp[intOf];omega
  .obtain rfl:j=m:=O
   go_wp2
   go_loop [9,12,13] (fun n k _=>∃ f:N,2024<=f/\(f<=y\/f=2024)/\k=V Y f/\n=V Y (d-1+Cal.dA y j+(Cal.ah f - 738885))) (fun _ k _=>(y-intOf k).toNat)
   .exact⟨2024,O,O,rfl,by rw[wG];go_num⟩
   .obtain⟨k,H,F,rfl,rfl⟩:=hrel;have kb:=Cal.ss k O O;have kl:=Cal.sA k;have x:=Cal.tR k O;have HK:Hid (Cal.ah (k+1)=Cal.ah k+365+Cal.lp k):=x;clear x
    by_cases hk:k<y
    .go_wp2_with (go_at_call 115;refine aX (sq _ _ O O) ?_)
     go_round
     .exact⟨k+1,O,O,rfl,by rw[HK];go_num⟩
     .simp[intOf];omega
    .have km:Cal.ah y<=Cal.ah k:=Cal.tW y k C O;have g:(y=k)\/(y<2024/\k=2024):=O
     have u:Hid ((y=k)\/(y<2024/\k=2024)):=g;clear g;go_wp2
     go_loop [9,14,15] (fun n p _=>∃ i:N,y<=i/\(i<=2024\/i=y)/\p=V Y i/\n=V Y (d-1+Cal.dA y j+(Cal.ah k-738885)-(Cal.ah i-Cal.ah y))) (fun _ p _=>(2024-intOf p).toNat)
     .exact⟨y,O,O,rfl,by go_num⟩
     .obtain⟨i,q,K,rfl,rfl⟩:=hrel;have ib:=Cal.ss i O O;have il:=Cal.sA i;have z:=Cal.tR i O;have HI:Hid (Cal.ah (i+1)=Cal.ah i+365+Cal.lp i):=z;clear z
      by_cases hi:i<2024
      .go_wp2_with (go_at_call 115;refine aX (sq _ _ O O) ?_)
       go_round
       .exact⟨i+1,O,O,rfl,by rw[HI];go_num⟩
       .simp[intOf];omega
      .go_wp2;go_ret2;refine⟨Iy ?_,rfl⟩;have W:=wG;rcases u with e|⟨e1,S⟩
       .subst e
        by_cases D:i=y
        .subst D;unfold Cal.num Cal.first;omega
        .obtain rfl:i=2024:=O
         exact XT q O
       .subst S;obtain rfl:i=2024:=O
        unfold Cal.num Cal.first;omega
theorem early(n z:N)(h:0<=n+(738885-Cal.ah z)\/z=1)(g:n+(738885-Cal.ah z)<0):n < -738885\/2913173<n:=by
 rcases h with h|h
 .omega
 .subst h;have:=Cal.Nv;omega
theorem late(n z:N)(h:z=9999)(e:Cal.ah (z+1)=Cal.ah z+365+Cal.lp z)(g:365+Cal.lp z<=n+(738885-Cal.ah z)):n < -738885\/2913173<n:=by
 subst h;have:=Cal.zz;rw[show (9999:N)+1=10000 from rfl] at e;omega
theorem BH(n y k:N):Cal.num y k (n+(738885-Cal.ah y)-Cal.dA y k+1)=n:=by unfold Cal.num Cal.first;omega
theorem inside(n z m:N)(h:Cal.ok z m (n+(738885-Cal.ah z)-Cal.dA z m+1)=XX):¬ (n < -738885\/2913173<n):=by
 have b:=Cal.Cy _ _ _ h;rw[BH] at b;unfold Cal.first Cal.last at b;omega
theorem PZ(n:N)(w:XY)(h1:-9223372036854775808<=n)(h2:n<=9223372036854775807):
  X4 prog 73 #[n] w fun e w'=>((n < -738885\/2913173<n)/\e=Yg (Yc #[V Y 0,V Y 0,V Y 0,V Y 6])\/(¬ (n < -738885\/2913173<n))/\∃ y m d:N,e=Yg (Yc #[y,m,V Y d,V Y 0])/\Cal.ok y m d=XX/\Cal.num y m d=n)/\w'=w:=by
 go_in
 go_wp2
 go_loop [0,6,7] (fun t k _=>∃ y:N,1<=y/\y<=2024/\k=V Y y/\t=V Y (n+(738885-Cal.ah y))/\n+(738885-Cal.ah y)<=9223372036854775807) (fun _ k _=>(intOf k).toNat)
 .exact⟨2024,O,O,rfl,by rw[wG];go_num,by rw[wG];omega⟩
 .obtain⟨y,x,L,rfl,rfl,K⟩:=hrel;have yb:=Cal.ss y x O;have S:=Cal.tW y 2024 x L;rw[wG] at S
  by_cases P:n+(738885-Cal.ah y)<0/\1<y
  .obtain⟨P,hy⟩:=P;have ys:=Cal.tR (y-1) O;rw[show y-1+1=y from by omega] at ys;have yl:=Cal.sA (y-1);have W:Hid (Cal.ah y=Cal.ah (y-1)+365+Cal.lp (y-1)):=ys;clear ys
   go_wp2_with (go_at_call 115;refine aX (sq _ _ O O) ?_)
   go_round
   .exact⟨y-1,O,O,rfl,by have:=W.out;go_num,by have:=W.out;omega⟩
   .simp[intOf];omega
  .have T:0<=n+(738885-Cal.ah y)\/y=1:=O
   have HZ:Hid (0<=n+(738885-Cal.ah y)\/y=1):=T;clear T;have j:(n+(738885-Cal.ah y)<0/\¬ 1<y)\/¬ n+(738885-Cal.ah y)<0:=O
   clear P;rcases j with ⟨j,hy⟩|j
   all_goals
    go_wp2
    go_loop [0,6,8] (fun t k _=>∃ z:N,1<=z/\z<=9999/\k=V Y z/\t=V Y (n+(738885-Cal.ah z))/\n+(738885-Cal.ah z)<=9223372036854775807/\(0<=n+(738885-Cal.ah z)\/z=1)) (fun _ k _=>(9999-intOf k).toNat)
    .exact⟨y,O,O,rfl,rfl,K,HZ⟩
    .obtain⟨z,u,ac,rfl,rfl,aa,q⟩:=hrel;have F:Hid (0<=n+(738885-Cal.ah z)\/z=1):=q;clear q yb S j;have zb:=Cal.ss z u O;have zl:=Cal.sA z;have zs:=Cal.tR z u;have I:Hid (Cal.ah (z+1)=Cal.ah z+365+Cal.lp z):=zs;clear zs
     by_cases ab:z<9999
     .by_cases C:365+Cal.lp z<=n+(738885-Cal.ah z)
      .go_wp2_with (go_at_call 115;refine aX (sq _ _ O O) ?_)
       go_round
       .exact⟨z+1,O,O,rfl,by have:=I.out;go_num,by have:=I.out;omega,by have:=I.out;omega⟩
       .simp[intOf];omega
      .by_cases g:n+(738885-Cal.ah z)<0
       .go_wp2_with (go_at_call 115;refine aX (sq _ _ O O) ?_)
        (try simp only[Zz,Exit.then]);refine bodyPost_ret (qP rfl _ _ _) rfl ?_
        exact⟨Or.inl ⟨early n z F g,rfl⟩,rfl⟩
       .go_wp2_with (go_at_call 115;refine aX (sq _ _ O O) ?_)
        go_loop [0,9,10] (fun r k _=>∃ m:N,1<=m/\m<=12/\k=V Y m/\0<=n+(738885-Cal.ah z)-Cal.dA z m/\r=V Y (n+(738885-Cal.ah z)-Cal.dA z m)) (fun _ k _=>(12-intOf k).toNat)
        .exact⟨1,O,O,rfl,by rw[Cal.pT];omega,by rw[Cal.pT,Int.sub_zero]⟩
        .obtain⟨m,h,o,rfl,hr,rfl⟩:=hrel;have cb:=Cal.sC z m h O;have db:=Cal.pe z m;have cs:=Cal.qX z m h o;have D:=Cal.wT z
         by_cases hd:Cal.gK z m<=n+(738885-Cal.ah z)-Cal.dA z m
         .have hm:m<12:=by
           by_cases e:m=12
           .subst e;rw[show (12:N)+1=13 from rfl] at cs;omega
           .omega
          have H:Hid (Cal.dA z (m+1)=Cal.dA z m+Cal.gK z m):=cs;clear cs D
          go_wp2_with (go_at_call 114;refine aX (uJ _ _ _ O O O O) ?_)
          go_round
          .exact⟨m+1,O,O,rfl,by rw[H];omega,by rw[H];go_num⟩
          .simp[intOf];omega
         .have f:Cal.ok z m (n+(738885-Cal.ah z)-Cal.dA z m+1)=XX:=wR O;have i:¬ (n < -738885\/2913173<n):=inside n z m f;have p:Hid (¬ (n < -738885\/2913173<n)):=i;clear cs D i
          go_wp2_with (go_at_call 114;refine aX (uJ _ _ _ O O O O) ?_)
          (try simp only[Zz,Exit.then]);refine bodyPost_ret (qP rfl _ _ _) rfl ?_
          exact⟨Or.inr ⟨p,z,m,_,rfl,f,BH n z m⟩,rfl⟩
     .by_cases g:n+(738885-Cal.ah z)<0
      .go_wp2
       (try simp only[Zz,Exit.then]);refine bodyPost_ret (qP rfl _ _ _) rfl ?_
       exact⟨Or.inl ⟨early n z F g,rfl⟩,rfl⟩
      .by_cases C:365+Cal.lp z<=n+(738885-Cal.ah z)
       .go_wp2_with (go_at_call 115;refine aX (sq _ _ O O) ?_)
        (try simp only[Zz,Exit.then]);refine bodyPost_ret (qP rfl _ _ _) rfl ?_
        exact⟨Or.inl ⟨late n z O I C,rfl⟩,rfl⟩
       .go_wp2_with (go_at_call 115;refine aX (sq _ _ O O) ?_)
        go_loop [0,9,10] (fun r k _=>∃ m:N,1<=m/\m<=12/\k=V Y m/\0<=n+(738885-Cal.ah z)-Cal.dA z m/\r=V Y (n+(738885-Cal.ah z)-Cal.dA z m)) (fun _ k _=>(12-intOf k).toNat)
        .exact⟨1,O,O,rfl,by rw[Cal.pT];omega,by rw[Cal.pT,Int.sub_zero]⟩
        .obtain⟨m,h,o,rfl,hr,rfl⟩:=hrel;have cb:=Cal.sC z m h O;have db:=Cal.pe z m;have cs:=Cal.qX z m h o;have D:=Cal.wT z
         by_cases hd:Cal.gK z m<=n+(738885-Cal.ah z)-Cal.dA z m
         .have hm:m<12:=by
           by_cases e:m=12
           .subst e;rw[show (12:N)+1=13 from rfl] at cs;omega
           .omega
          have H:Hid (Cal.dA z (m+1)=Cal.dA z m+Cal.gK z m):=cs;clear cs D
          go_wp2_with (go_at_call 114;refine aX (uJ _ _ _ O O O O) ?_)
          go_round
          .exact⟨m+1,O,O,rfl,by rw[H];omega,by rw[H];go_num⟩
          .simp[intOf];omega
         .have f:Cal.ok z m (n+(738885-Cal.ah z)-Cal.dA z m+1)=XX:=wR O;have i:¬ (n < -738885\/2913173<n):=inside n z m f;have p:Hid (¬ (n < -738885\/2913173<n)):=i;clear cs D i
          go_wp2_with (go_at_call 114;refine aX (uJ _ _ _ O O O O) ?_)
          (try simp only[Zz,Exit.then]);refine bodyPost_ret (qP rfl _ _ _) rfl ?_
          exact⟨Or.inr ⟨p,z,m,_,rfl,f,BH n z m⟩,rfl⟩
theorem hide{p:Prop}(h:p):Hid p:=h
theorem aP{p:Prop}(h:Hid p):p:=h
theorem ig.later(h:ig w)(f:X0 w w wx):ig wx:=by
 let⟨c0,c1,c2,c3,c4,c5,c6,c7,c8,c9,c10,c11⟩:=h;exact⟨cell_later f c0,cell_later f c1,cell_later f c2,cell_later f c3,cell_later f c4,cell_later f c5,cell_later f c6,cell_later f c7,cell_later f c8,cell_later f c9,cell_later f c10,cell_later f c11⟩
theorem fh{k:IntKind}{d:XN}(h:a=b)(g:c=d):Yg (Yc #[V k a,c])=Yg (Yc #[V k b,d]):=by rw[h,g]
theorem fK(s:XK)(w:XY)(C:s.size<=maxLen):
  X4 prog 139 #[s] w fun e w'=>e=Yg (Yc #[V Y (aB.cY s.data.toList),aB.isNum s.data.toList])/\w'=w:=by
 unfold maxLen at C
 by_cases F:s.size=0
 .have H:Hid (aB.isNum s.data.toList=XW):=aB.zM (by rw[aB.gI];omega);have D:((s.size:N)==0)=XX:=beq_iff_eq.2 O
  go_in
  go_wp2;go_ret2;exact⟨fh (by simp[aB.cY,H.out]) (by rw[H]),rfl⟩
 .have D:((s.size:N)==0)=XW:=beq_eq_false_iff_ne.2 O
  by_cases L:7<s.size
  .have H:Hid (aB.isNum s.data.toList=XW):=aB.zM (by rw[aB.gI];omega);clear F
   go_in
   go_wp2;go_ret2;exact⟨fh (by simp[aB.cY,H.out]) (by rw[H]),rfl⟩
  .go_in
   go_wp2
   go_loop [4,5,6] (fun n i _=>∃ k:M,k<=s.size/\i=V Y k/\n=V Y (aB.nO (s.data.toList.take k))/\aB.ic (s.data.toList.take k)=XX) (fun _ i _=>s.size-(intOf i).toNat)
   .exact⟨0,Zd _,rfl,rfl,rfl⟩
   .obtain⟨k,K,rfl,rfl,o⟩:=hrel;have q:=hide o;have I:=aB.II (s.data.toList.take k) o (by rw[List.length_take];omega);clear o
    by_cases j:k<s.size
    .have p:Hid (s.data.toList.take (k+1)=s.data.toList.take k++[s[k]]):=aB.Ab s k j
     by_cases g:aB.tG s[k]=XX
     .have f:=(aB.ud _).1 g;have h:=hide g;let⟨hc1,hc2⟩:=f;clear g;go_wp2
      go_round
      .exact⟨k+1,O,by go_num,by rw[p,aB.WM],by rw[p,aB.Ah,q,h];rfl⟩
      .simp[intOf];omega
     .have h:Hid (aB.isNum s.data.toList=XW):=aB.Dg (aB.Lq _ (k+1) (by rw[p,aB.Ah,q];simpa using g))
      have f:(s[k].toNat:N)<48\/(¬ (s[k].toNat:N)<48/\57<(s[k].toNat:N)):=by
       have:=mt (aB.ud s[k]).2 g;omega
      clear g;rcases f with f |⟨f,u⟩
      all_goals
       go_wp2;go_ret2;exact⟨fh (by simp[aB.cY,h.out]) (by rw[h]),rfl⟩
    .have z:Hid (s.data.toList.take k=s.data.toList):=aB.uh s k O;have x:Hid (aB.isNum s.data.toList=XX):=aB.DG (by rw[aB.gI];omega) (by rw[aB.gI];omega) (by rw[<- z];exact q);go_wp2;go_ret2;exact⟨fh (by rw[z];simp[aB.cY,x.out]) (by rw[x]),rfl⟩
theorem pd(h:a≠b):(a != b)=XX:=by rw[bne_iff_ne];exact h
theorem oZ(h:a=b):(a != b)=XW:=by subst h;simp
theorem iD(s:XK)(a b:M)(h:s.size<=maxLen):(s.extract a b).size<=maxLen:=by
 have:(s.extract a b).size=min b s.size-a:=ByteArray.size_extract ..;omega
theorem xZ(s:XK)(w:XY)(z:s.size<=maxLen):
  X4 prog 137 #[s] w fun e w'=>e=Yg (Yc #[V Y (aB.fZ s),aB.ef s])/\w'=w:=by
 have h:=hide z;clear z
 by_cases u:s.size=5
 .have F:((s.size:N) != 5)=XW:=oZ O;have K:(2:N)<(s.size:N):=O
  have o:2<s.size:=O
  have I:(3:N)<=(s.size:N):=O
  by_cases k:aB.eI s 2=58
  .have D:(((s[2]'o).toNat:N) != 58)=XW:=oZ (by rw[<- aB.jL];exact k);have P:=aB.mB (aB.part s 0 2);have L:=aB.mB (aB.part s 3 5);have j:=hide u;have H:=hide k;clear u k;have f:=hide (aB.Jw j H)
   cases g:aB.isNum (aB.part s 0 2)
   .go_in
    go_wp21
    refine aX (fK _ _ (iD _ _ _ h)) ?_;rw[show (s.extract 0 2).data.toList=aB.part s 0 2 from rfl]
    go_wp21
    refine aX (fK _ _ (iD _ _ _ h)) ?_;rw[show (s.extract 3 s.size).data.toList=aB.part s 3 5 from by rw[j];rfl];go_wp2;go_ret2;exact⟨fh (by simp[aB.fZ,aP f,g]) (by simp[aP f,g]),rfl⟩
   .cases i:aB.isNum (aB.part s 3 5)
    .go_in
     go_wp21
     refine aX (fK _ _ (iD _ _ _ h)) ?_;rw[show (s.extract 0 2).data.toList=aB.part s 0 2 from rfl]
     go_wp21
     refine aX (fK _ _ (iD _ _ _ h)) ?_;rw[show (s.extract 3 s.size).data.toList=aB.part s 3 5 from by rw[j];rfl];go_wp2;go_ret2;exact⟨fh (by simp[aB.fZ,aP f,g,i]) (by simp[aP f,g,i]),rfl⟩
    .by_cases x:aB.cY (aB.part s 0 2)<=23
     .by_cases C:aB.cY (aB.part s 3 5)<=59
      .go_in
       go_wp21
       refine aX (fK _ _ (iD _ _ _ h)) ?_;rw[show (s.extract 0 2).data.toList=aB.part s 0 2 from rfl]
       go_wp21
       refine aX (fK _ _ (iD _ _ _ h)) ?_;rw[show (s.extract 3 s.size).data.toList=aB.part s 3 5 from by rw[j];rfl];go_wp2;go_ret2;exact⟨fh (by simp[aB.fZ,aP f,g,i,x,C]) (by simp[aP f,g,i,x,C]),rfl⟩
      .go_in
       go_wp21
       refine aX (fK _ _ (iD _ _ _ h)) ?_;rw[show (s.extract 0 2).data.toList=aB.part s 0 2 from rfl]
       go_wp21
       refine aX (fK _ _ (iD _ _ _ h)) ?_;rw[show (s.extract 3 s.size).data.toList=aB.part s 3 5 from by rw[j];rfl];go_wp2;go_ret2;have p:¬ aB.cY (aB.part s 3 5)<=59:=O
       exact⟨fh (by simp[aB.fZ,aP f,g,i,x,p]) (by simp[aP f,g,i,x,p]),rfl⟩
     .go_in
      go_wp21
      refine aX (fK _ _ (iD _ _ _ h)) ?_;rw[show (s.extract 0 2).data.toList=aB.part s 0 2 from rfl]
      go_wp21
      refine aX (fK _ _ (iD _ _ _ h)) ?_;rw[show (s.extract 3 s.size).data.toList=aB.part s 3 5 from by rw[j];rfl];go_wp2;go_ret2;have q:¬ aB.cY (aB.part s 0 2)<=23:=O
      exact⟨fh (by simp[aB.fZ,aP f,g,i,q]) (by simp[aP f,g,i,q]),rfl⟩
  .have D:(((s[2]'o).toNat:N) != 58)=XX:=pd (by rw[<- aB.jL];exact k);have f:Hid (aB.ef s=XW):=aB.Aq O;clear u k
   go_in
   go_wp2;go_ret2;exact⟨fh (by simp[aB.fZ,f.out]) (by rw[f]),rfl⟩
 .have F:((s.size:N) != 5)=XX:=pd O;have f:Hid (aB.ef s=XW):=aB.Aq O;clear u
  go_in
  go_wp2;go_ret2;exact⟨fh (by simp[aB.fZ,f.out]) (by rw[f]),rfl⟩
theorem ye(s:XK)(w:XY)(ht:ig w)(L:s.size<=maxLen):
  X4 prog 195 #[s] w fun e w'=>e=Yg (Yc #[V Y (aB.fu s),aB.js s])/\w'=w:=by
 have g:=hide L;clear L
 by_cases x:s.size=10
 .have W:((s.size:N) != 10)=XW:=oZ O;have H:4<s.size:=O
  have F:7<s.size:=O
  have h4:(4:N)<(s.size:N):=O
  have h7:(7:N)<(s.size:N):=O
  have h8:(8:N)<=(s.size:N):=O
  by_cases C:aB.eI s 4=45
  .have T:(((s[4]'H).toNat:N) != 45)=XW:=oZ (by rw[<- aB.jL];exact C)
   by_cases D:aB.eI s 7=45
   .have S:(((s[7]'F).toNat:N) != 45)=XW:=oZ (by rw[<- aB.jL];exact D);have b1:=aB.mB (aB.part s 0 4);have b2:=aB.mB (aB.part s 5 7);have b3:=aB.mB (aB.part s 8 10);have f:=hide (aB.IB x C D);have K:=hide x;clear x C D;have P:∃ p u n3:XN,aB.isNum (aB.part s 0 4)=p/\aB.isNum (aB.part s 5 7)=u/\aB.isNum (aB.part s 8 10)=n3:=⟨_,_,_,rfl,rfl,rfl⟩;obtain⟨p,u,n3,i,j,k⟩:=P;have o:p=XW\/(p=XX/\u=XW)\/(p=XX/\u=XX/\n3=XW)\/(p=XX/\u=XX/\n3=XX):=by cases p <;> cases u <;> cases n3 <;> simp
    rcases o with h|⟨h,I⟩|⟨h,I,q⟩|⟨h,I,q⟩
    .subst h;clear j k
     go_in
     go_wp21
     refine aX (fK _ _ (iD _ _ _ g)) ?_;rw[show (s.extract 0 4).data.toList=aB.part s 0 4 from rfl]
     go_wp21
     refine aX (fK _ _ (iD _ _ _ g)) ?_;rw[show (s.extract 5 7).data.toList=aB.part s 5 7 from rfl]
     go_wp21
     refine aX (fK _ _ (iD _ _ _ g)) ?_;rw[show (s.extract 8 s.size).data.toList=aB.part s 8 10 from by rw[K];rfl];go_wp2;go_ret2;exact⟨fh (by simp[aB.fu,aP f,i]) (by simp[aP f,i]),rfl⟩
    .subst h I;clear k
     go_in
     go_wp21
     refine aX (fK _ _ (iD _ _ _ g)) ?_;rw[show (s.extract 0 4).data.toList=aB.part s 0 4 from rfl]
     go_wp21
     refine aX (fK _ _ (iD _ _ _ g)) ?_;rw[show (s.extract 5 7).data.toList=aB.part s 5 7 from rfl]
     go_wp21
     refine aX (fK _ _ (iD _ _ _ g)) ?_;rw[show (s.extract 8 s.size).data.toList=aB.part s 8 10 from by rw[K];rfl];go_wp2;go_ret2;exact⟨fh (by simp[aB.fu,aP f,i,j]) (by simp[aP f,i,j]),rfl⟩
    .subst h I q
     go_in
     go_wp21
     refine aX (fK _ _ (iD _ _ _ g)) ?_;rw[show (s.extract 0 4).data.toList=aB.part s 0 4 from rfl]
     go_wp21
     refine aX (fK _ _ (iD _ _ _ g)) ?_;rw[show (s.extract 5 7).data.toList=aB.part s 5 7 from rfl]
     go_wp21
     refine aX (fK _ _ (iD _ _ _ g)) ?_;rw[show (s.extract 8 s.size).data.toList=aB.part s 8 10 from by rw[K];rfl];go_wp2;go_ret2;exact⟨fh (by simp[aB.fu,aP f,i,j,k]) (by simp[aP f,i,j,k]),rfl⟩
    .subst h I q
     cases z:Cal.ok (aB.cY (aB.part s 0 4)) (aB.cY (aB.part s 5 7)) (aB.cY (aB.part s 8 10))
     .go_in
      go_wp21
      refine aX (fK _ _ (iD _ _ _ g)) ?_;rw[show (s.extract 0 4).data.toList=aB.part s 0 4 from rfl]
      go_wp21
      refine aX (fK _ _ (iD _ _ _ g)) ?_;rw[show (s.extract 5 7).data.toList=aB.part s 5 7 from rfl]
      go_wp21
      refine aX (fK _ _ (iD _ _ _ g)) ?_;rw[show (s.extract 8 s.size).data.toList=aB.part s 8 10 from by rw[K];rfl]
      go_wp21
      refine aX (Ed _ _ _ _ ht z) ?_;go_wp2;go_ret2;exact⟨fh (by simp[aB.fu,aP f,i,j,k,z]) (by simp[aP f,i,j,k,z]),rfl⟩
     .go_in
      go_wp21
      refine aX (fK _ _ (iD _ _ _ g)) ?_;rw[show (s.extract 0 4).data.toList=aB.part s 0 4 from rfl]
      go_wp21
      refine aX (fK _ _ (iD _ _ _ g)) ?_;rw[show (s.extract 5 7).data.toList=aB.part s 5 7 from rfl]
      go_wp21
      refine aX (fK _ _ (iD _ _ _ g)) ?_;rw[show (s.extract 8 s.size).data.toList=aB.part s 8 10 from by rw[K];rfl]
      go_wp21
      refine aX (Eu _ _ _ _ ht z) ?_;go_wp2;go_ret2;exact⟨fh (by simp[aB.fu,aP f,i,j,k,z]) (by simp[aP f,i,j,k,z]),rfl⟩
   .have S:(((s[7]'F).toNat:N) != 45)=XX:=pd (by rw[<- aB.jL];exact D);have f:Hid (aB.js s=XW):=aB.vp O;clear x C D
    go_in
    go_wp2;go_ret2;exact⟨fh (by simp[aB.fu,f.out]) (by rw[f]),rfl⟩
  .have T:(((s[4]'H).toNat:N) != 45)=XX:=pd (by rw[<- aB.jL];exact C);have f:Hid (aB.js s=XW):=aB.vp O;clear x C
   go_in
   go_wp2;go_ret2;exact⟨fh (by simp[aB.fu,f.out]) (by rw[f]),rfl⟩
 .have W:((s.size:N) != 10)=XX:=pd O;have f:Hid (aB.js s=XW):=aB.vp O;clear x
  go_in
  go_wp2;go_ret2;exact⟨fh (by simp[aB.fu,f.out]) (by rw[f]),rfl⟩
structure Kept(R:M)(w w':XY):Prop where
 os:w'.os=w.os
 tape:w'.tape=w.tape
 output:w'.output=w.output
 size:w<=w'.heap.size
 block:∀ k,k<w.heap.size->k≠R->w'.heap[k]?=w.heap[k]?
theorem Kept.refl(R:M)(w:XY):Kept R w w:=⟨rfl,rfl,rfl,Yi _,fun _ _ _=>rfl⟩
theorem Kept.trans{a b c:XY}(h:Kept R a b)(k:Kept R b c):Kept R a c :=
 ⟨k.os.trans h.os,k.tape.trans h.tape,k.output.trans h.output,Yk h.size k.size,fun i hi f=>(k.block i (zL hi h.size) f).trans (h.block i hi f)⟩
theorem Kept.aD(h:X0 w w w'):Kept R w w':=⟨h.os,h.tape,h.output,h.size,fun k f _=>h.block k f⟩
theorem Kept.drewN(h:Kept R w w')(n:M):Kept R w (w'.drewN n):=⟨h.os,h.tape,h.output,h.size,h.block⟩
theorem Kept.setCell(h:Kept R w w')(o:M)(v:XZ):Kept R w (w'.setCell (R,o) v) :=
 h.trans ⟨(Below.setCell (B:=0) (Below.refl 0 w') (zN _) v).os,(Below.setCell (B:=0) (Below.refl 0 w') (zN _) v).tape,(Below.setCell (B:=0) (Below.refl 0 w') (zN _) v).output,(Below.setCell (B:=0) (Below.refl 0 w') (p:=(R,o)) (zN _) v).size,fun k _ f=>Below.heap_setCell w' _ v k f⟩
theorem Kept.below(h:Kept R w w')(g:B<=R)(i:B<=w):X0 B w w' :=
 ⟨h.os,h.tape,h.output,h.size,fun k f=>h.block k (zL f i) (Nat.ne_of_lt (zL f g))⟩
theorem Kept.cell(h:Kept R w w'){b o:M}(f:b≠R)(g:w.cell? (b,o)=U v):w'.cell? (b,o)=U v :=
 (zo (w:=w) (h.block b (Yl _ _ g) f)).trans g
structure RS(w:XY)(R A:M)(ws:J XK)(nx:M)(wr:XN):Prop where
 c0:w.cell? (R,0)=U (X9 A ws.length ws.length)
 c1:w.cell? (R,1)=U (V Y nx)
 c2:w.cell? (R,2)=U ↑wr
 f1:w.frozen? (R,1)=XW
 f2:w.frozen? (R,2)=XW
 ne:A≠R
 rows:∀ (i:M) (h:i<ws.length),w.cell? (A,i)=U (Ya ws[i])
 len:ws.length<=160
 wP:nx<=ws.length
 short:∀ x∈ws,x.size<=160
theorem RS.aD(h:RS w R A ws nx wr)(f:X0 w w w'):RS w' R A ws nx wr :=
 ⟨cell_later f h.c0,cell_later f h.c1,cell_later f h.c2,(f.frozen (Yl _ _ h.c1)).trans h.f1,(f.frozen (Yl _ _ h.c2)).trans h.f2,h.ne,fun i hi=>cell_later f (h.rows i hi),h.len,h.wP,h.short⟩
theorem RS.drewN(h:RS w R A ws nx wr)(n:M):RS (w.drewN n) R A ws nx wr:=⟨h.c0,h.c1,h.c2,h.f1,h.f2,h.ne,h.rows,h.len,h.wP,h.short⟩
def cU(n nx:M)(wr:XN):XN:=!wr && decide (nx<n)
theorem iW(R A:M)(ws:J XK)(nx:M)(wr:XN)(w:XY)(h:RS w R A ws nx wr):
  X4 prog 63 #[R] w fun e w'=>e=Yg (cU ws.length nx wr)/\∃ n,w'=w.drewN n:=by
 have i:=h.c0;have g:=h.c1;have f:=h.c2;clear h
 cases wr
 .go_in
  go_wp2
  go_quiet (fail)
  go_wp2;go_ret;exact⟨eV (by simp[cU]),_,rfl⟩
 .go_in
  go_wp2
  go_quiet (fail)
  go_wp2;go_ret;exact⟨eV (by simp[cU]),_,rfl⟩
theorem Ll{n:M}(h:¬ (wr=XW/\nx<n)):cU n nx wr=XW:=by
 unfold cU
 cases wr
 .simp;simp at h;exact h
 .rfl
theorem QJ(R A:M)(ws:J XK)(nx:M)(wr:XN)(f:XK)(w:XY)(h:RS w R A ws nx wr)(g:cU ws.length nx wr=XW):
  X4 prog 82 #[R,f] w fun e w'=>e=Yg XW/\∃ n,w'=w.drewN n:=by
 go_in
 go_wp2
 go_quiet ((go_at_call 63;exact Calls.quiet_of (iW R A ws nx wr _ (h.drewN _))))
 go_wp2;go_ret;exact⟨rfl,_,rfl⟩
theorem S8(R A:M)(ws:J XK)(nx:M)(wr:XN)(f:XK)(w:XY)(h:RS w R A ws nx wr)(i:cU ws.length nx wr=XX)(g:nx<ws.length)(j:(ws[nx].toList==f.toList)=XW):
  X4 prog 82 #[R,f] w fun e w'=>e=Yg XW/\∃ n,w'=w.drewN n:=by
 have q:=h.c0;have p:=h.c1;have o:=h.c2;have k:=h.rows nx g;have hi:(nx:N)<(ws.length:N):=O
 go_in
 go_wp2
 go_quiet ((go_at_call 63;exact Calls.quiet_of (iW R A ws nx wr _ (h.drewN _))))
 go_wp2;go_ret;exact⟨rfl,_,rfl⟩
theorem RS.step(h:RS w R A ws nx wr)(f:nx<ws.length):RS (w.setCell (R,1) (V Y ((nx:N)+1))) R A ws (nx+1) wr :=
 ⟨(aZ XA).trans h.c0,Yy _ _ _ h.c1,(aZ XA).trans h.c2,(zF ..).trans h.f1,(zF ..).trans h.f2,h.ne,
  fun i hi=>(aZ (by simp;intro e;exact XT e.symm h.ne)).trans (h.rows i hi),h.len,f,h.short⟩
theorem RS.bad(h:RS w R A ws nx wr):RS (w.setCell (R,2) XX) R A ws nx XX :=
 ⟨(aZ XA).trans h.c0,(aZ XA).trans h.c1,Yy _ _ _ h.c2,(zF ..).trans h.f1,(zF ..).trans h.f2,h.ne,
  fun i hi=>(aZ (by simp;intro e;exact XT e.symm h.ne)).trans (h.rows i hi),h.len,h.wP,h.short⟩
theorem QK(R A:M)(ws:J XK)(nx:M)(wr:XN)(f:XK)(w:XY)(h:RS w R A ws nx wr)(i:cU ws.length nx wr=XX)(g:nx<ws.length)(k:(ws[nx].toList==f.toList)=XX):
  X4 prog 82 #[R,f] w fun e w'=>e=Yg XX/\RS w' R A ws (nx+1) wr/\Kept R w w':=by
 have x:=h.c0;have u:=h.c1;have q:=h.c2;have o:=h.f1;have p:=h.rows nx g;have j:=h.len;have hi:(nx:N)<(ws.length:N):=O
 go_in
 go_wp2
 go_quiet ((go_at_call 63;exact Calls.quiet_of (iW R A ws nx wr _ (h.drewN _))))
 go_wp2;go_ret;exact⟨rfl,(h.drewN _).step g,((Kept.refl R w).drewN _).setCell _ _⟩
def bS(ws:J XK)(nx:M)(wr:XN)(f:XK):XN:=cU ws.length nx wr && ((ws.getD nx ByteArray.empty).toList==f.toList)
theorem jt(R A:M)(ws:J XK)(nx:M)(wr:XN)(f:XK)(w:XY)(h:RS w R A ws nx wr):
  X4 prog 82 #[R,f] w fun e w'=>e=Yg (bS ws nx wr f)/\RS w' R A ws (if bS ws nx wr f then nx+1 else nx) wr/\Kept R w w':=by
 cases i:cU ws.length nx wr
 .have e:bS ws nx wr f=XW:=by simp[bS,i]
  rw[e];refine aK (QJ R A ws nx wr f w h i) ?_;rintro w' ⟨n,rfl⟩;exact⟨rfl,h.drewN n,(Kept.refl R w).drewN n⟩
 .have g:nx<ws.length:=by
   by_cases g:nx<ws.length
   .exact g
   .rw[Ll O] at i;cases i
  have k:ws.getD nx ByteArray.empty=ws[nx]:=by simp[List.getD,g]
  cases j:(ws[nx].toList==f.toList)
  .have e:bS ws nx wr f=XW:=by rw[bS,k,j,Bool.and_false]
   rw[e];refine aK (S8 R A ws nx wr f w h i g j) ?_;rintro w' ⟨n,rfl⟩;exact⟨rfl,h.drewN n,(Kept.refl R w).drewN n⟩
  .have e:bS ws nx wr f=XX:=by rw[bS,k,j,i];rfl
   rw[e];exact QK R A ws nx wr f w h i g j
theorem Dy(R A:M)(ws:J XK)(nx:M)(wr:XN)(f:XK)(w:XY)(h:RS w R A ws nx wr):
  X4 prog 134 #[R,f] w fun e w'=>e=Yg (Yc #[])/\RS w' R A ws (if bS ws nx wr f then nx+1 else nx) (if bS ws nx wr f then wr else XX)/\Kept R w w':=by
 cases j:bS ws nx wr f
 .go_in
  go_wp21
  refine aK (jt R A ws nx wr f w h) ?_;rintro w' ⟨g,i⟩;rw[j] at g ⊢;have o:=g.c2;have k:=g.f2;go_wp2
  go_end0
  exact⟨rfl,g.bad,i.setCell _ _⟩
 .go_in
  go_wp21
  refine aK (jt R A ws nx wr f w h) ?_;rintro w' ⟨g,i⟩;rw[j] at g ⊢;go_wp2
  go_end0
  exact⟨rfl,g,i⟩
def eU(ws:J XK)(nx:M)(wr:XN)(B:XK->XN):XN:=cU ws.length nx wr && B (ws.getD nx ByteArray.empty)
def eS(ws:J XK)(nx:M)(wr:XN)(B:XK->XN):M:=if eU ws nx wr B then nx+1 else nx
def eO(ws:J XK)(nx:M)(wr:XN)(B:XK->XN):XN:=if eU ws nx wr B then wr else XX
def fU(ws:J XK)(nx:M)(wr:XN)(B:XK->XN)(f:XK->N):N:=if eU ws nx wr B then f (ws.getD nx ByteArray.empty) else 0
theorem rh{n:M}(h:cU n nx wr=XX):nx<n:=by
 by_cases f:nx<n
 .exact f
 .rw[Ll O] at h;cases h
theorem qV(ws:J XK)(nx:M)(h:nx<ws.length):ws.getD nx ByteArray.empty=ws[nx]:=by simp[List.getD,h]
theorem xW(f:XZ)(R A:M)(ws:J XK)(nx:M)(wr:XN)(w:XY)(h:RS w R A ws nx wr)(k:cU ws.length nx wr=XW):
  X4 prog 135 #[R,f] w fun e w'=>e=Yg (V Y 0)/\RS w' R A ws nx XX/\Kept R w w':=by
 go_in
 go_wp21
 refine aK (iW R A ws nx wr w h) ?_;rintro w1 ⟨n,g⟩;have i:RS w1 R A ws nx wr:=by rw[g];exact h.drewN n
 have j:Kept R w w1:=by rw[g];exact (Kept.refl R w).drewN n
 have p:=i.c2;have o:=i.f2;clear g;go_wp2;go_ret;exact⟨rfl,i.bad,j.setCell _ _⟩
theorem Vw(R A:M)(ws:J XK)(nx:M)(wr:XN)(w:XY)(h:RS w R A ws nx wr)(o:cU ws.length nx wr=XX)(g:nx<ws.length)(k:ws[nx].size<=maxLen)(q:aB.isNum ws[nx].data.toList=XX):
  X4 prog 135 #[R,.func (.func 139) #[] #[]] w fun e w'=>e=Yg (V Y (aB.cY ws[nx].data.toList))/\RS w' R A ws (nx+1) wr/\Kept R w w':=by
 have hi:(nx:N)<(ws.length:N):=O
 go_in
 go_wp21
 refine aK (iW R A ws nx wr w h) ?_;rintro w1 ⟨n,i⟩;have f:RS w1 R A ws nx wr:=by rw[i];exact h.drewN n
 have j:Kept R w w1:=by rw[i];exact (Kept.refl R w).drewN n
 have C:=f.c0;have z:=f.c1;have u:=f.f1;have x:=f.rows nx g;have p:=f.len;clear i;go_wp2
 go_quiet ((go_at_call 139;exact Calls.quiet_of_same (fK _ _ k)))
 go_wp2;go_ret;exact⟨rfl,(f.drewN _).step g,(j.drewN _).setCell _ _⟩
theorem Vv(R A:M)(ws:J XK)(nx:M)(wr:XN)(w:XY)(h:RS w R A ws nx wr)(o:cU ws.length nx wr=XX)(i:nx<ws.length)(k:ws[nx].size<=maxLen)(q:aB.isNum ws[nx].data.toList=XW):
  X4 prog 135 #[R,.func (.func 139) #[] #[]] w fun e w'=>e=Yg (V Y 0)/\RS w' R A ws nx XX/\Kept R w w':=by
 have hi:(nx:N)<(ws.length:N):=O
 go_in
 go_wp21
 refine aK (iW R A ws nx wr w h) ?_;rintro w1 ⟨n,g⟩;have f:RS w1 R A ws nx wr:=by rw[g];exact h.drewN n
 have j:Kept R w w1:=by rw[g];exact (Kept.refl R w).drewN n
 have D:=f.c0;have C:=f.c1;have z:=f.c2;have u:=f.f2;have x:=f.rows nx i;have p:=f.len;clear g;go_wp2
 go_quiet ((go_at_call 139;exact Calls.quiet_of_same (fK _ _ k)))
 go_wp2;go_ret;exact⟨rfl,(f.drewN _).bad,(j.drewN _).setCell _ _⟩
structure Env(w:XY):Prop where
 jv:ig w
 uM:∃ m,w.cell? (2,0)=U (V Y m)
 pow : Lib.TabIs prog w "internal/strconv.uint64pow10" .u64 Lib.pow10Tab
 size:10<=w.heap.size
 mo:w.cell? (3,0)=U (Ya ⟨#[109,111]⟩)
 tu:w.cell? (3,1)=U (Ya ⟨#[116,117]⟩)
 we:w.cell? (3,2)=U (Ya ⟨#[119,101]⟩)
 th:w.cell? (3,3)=U (Ya ⟨#[116,104]⟩)
 fr:w.cell? (3,4)=U (Ya ⟨#[102,114]⟩)
 sa:w.cell? (3,5)=U (Ya ⟨#[115,97]⟩)
 su:w.cell? (3,6)=U (Ya ⟨#[115,117]⟩)
theorem wO : prog.globalNamed "internal/strconv.uint64pow10" = U 0 := by kernel_rfl
theorem Env.later(h:Env w)(f:X0 w w wx):Env wx:=by
 let⟨m,hm⟩:=h.uM;refine⟨h.jv.later f,⟨m,cell_later f hm⟩,?_,Yk h.size f.size,cell_later f h.mo,cell_later f h.tu,cell_later f h.we,cell_later f h.th,cell_later f h.fr,cell_later f h.sa,cell_later f h.su⟩;have g:=h.pow;have i:=h.size;unfold Lib.TabIs World.var? at g ⊢;simp only[wO,Option.bind_some] at g ⊢;rw[f.block 0 O];exact g
theorem Env.drewN(h:Env w)(n:M):Env (w.drewN n):=h.later (w:=w) (wx:=w.drewN n) ⟨rfl,rfl,rfl,Yi _,fun _ _=>rfl⟩
theorem zU{a b:XK}{d:XN}(h:a=b)(g:c=d):Yg (Yc #[a,c])=Yg (Yc #[b,d]):=by rw[h,g]
theorem Ka(s:XK)(w:XY)(f:s.size<=281474976710656):
  X4 prog 142 #[s] w fun e w'=>e=Yg s/\X0 w w w':=by
 go_in
 go_wp21
 refine aK (stringslite_Clone s w f) fun w' g=>?_;go_wp2;go_ret;exact⟨rfl,g⟩
def sG(s:XK):XK:=if aB.fQ s.data.toList then s else ⟨#[]⟩
theorem Lv(s:XK)(w:XY)(I:s.size<=160):
  X4 prog 131 #[s] w fun e w'=>e=Yg (Yc #[sG s,aB.fQ s.data.toList])/\X0 w w w':=by
 by_cases D:s.size=0
 .have H:Hid (aB.fQ s.data.toList=XW):=aB.zZ (by rw[aB.gI];omega);have C:((s.size:N)==0)=XX:=beq_iff_eq.2 O
  go_in
  go_wp2;go_ret2;exact⟨zU (by simp[sG,H.out]) (by rw[H]),Below.refl _ _⟩
 .have C:((s.size:N)==0)=XW:=beq_eq_false_iff_ne.2 O
  by_cases L:8<s.size
  .have H:Hid (aB.fQ s.data.toList=XW):=aB.zZ (by rw[aB.gI];omega);clear D
   go_in
   go_wp2;go_ret2;exact⟨zU (by simp[sG,H.out]) (by rw[H]),Below.refl _ _⟩
  .go_in
   go_wp2
   go_loop [4] (fun i=>∃ k:M,k<=s.size/\i=V Y k/\aB.oV (s.data.toList.take k)=XX) (fun i=>s.size-(intOf i).toNat)
   .exact⟨0,Zd _,rfl,rfl⟩
   .obtain⟨k,K,rfl,p⟩:=hrel;have o:=hide p;clear p
    by_cases j:k<s.size
    .have u:Hid (s.data.toList.take (k+1)=s.data.toList.take k++[s[k]]):=aB.Ab s k j
     by_cases g:aB.low s[k]=XX
     .have f:=(aB.zx _).1 g;have h:=hide g;let⟨hc1,hc2⟩:=f;clear g;go_wp2
      go_round
      .exact⟨k+1,O,by go_num,by rw[u,aB.zO,o,h];rfl⟩
      .simp[intOf];omega
     .have h:Hid (aB.fQ s.data.toList=XW):=aB.I0 (aB.J3 _ (k+1) (by rw[u,aB.zO,o];simpa using g))
      have f:(s[k].toNat:N)<97\/(¬ (s[k].toNat:N)<97/\122<(s[k].toNat:N)):=by
       have:=mt (aB.zx s[k]).2 g;omega
      clear g;rcases f with f |⟨f,q⟩
      all_goals
       go_wp2;go_ret2;exact⟨zU (by simp[sG,h.out]) (by rw[h]),Below.refl _ _⟩
    .have F:Hid (s.data.toList.take k=s.data.toList):=aB.uh s k O;have x:Hid (aB.fQ s.data.toList=XX):=aB.JE (by rw[aB.gI];omega) (by rw[aB.gI];omega) (by rw[<- F];exact o)
     go_wp21
     refine aK (Ka s w O) fun w' z=>?_;go_wp2;go_ret2;exact⟨zU (by simp[sG,x.out]) (by rw[x]),z⟩
theorem O9(s:XK)(w:XY)(D:s.size<=160):
  X4 prog 186 #[s] w fun e w'=>e=Yg (aB.fQ s.data.toList)/\w'=w:=by
 by_cases K:s.size<1
 .have H:Hid (aB.fQ s.data.toList=XW):=aB.zZ (by rw[aB.gI];omega);have x:((s.size:N)<1):=O
  go_in
  go_wp2;go_ret;exact⟨eV (by rw[H]),rfl⟩
 .have x:¬ ((s.size:N)<1):=O
  by_cases I:8<s.size
  .have H:Hid (aB.fQ s.data.toList=XW):=aB.zZ (by rw[aB.gI];omega)
   go_in
   go_wp2;go_ret;exact⟨eV (by rw[H]),rfl⟩
  .go_in
   go_wp2
   go_loop [3] (fun i=>∃ k:M,k<=s.size/\i=V Y k/\aB.oV (s.data.toList.take k)=XX) (fun i=>s.size-(intOf i).toNat)
   .exact⟨0,Zd _,rfl,rfl⟩
   .obtain⟨k,F,rfl,p⟩:=hrel;have j:=hide p;clear p
    by_cases h:k<s.size
    .have u:Hid (s.data.toList.take (k+1)=s.data.toList.take k++[s[k]]):=aB.Ab s k h
     by_cases g:aB.low s[k]=XX
     .have f:=(aB.zx _).1 g;have o:=hide g;let⟨hc1,hc2⟩:=f;clear g;go_wp2
      go_round
      .exact⟨k+1,O,by go_num,by rw[u,aB.zO,j,o];rfl⟩
      .simp[intOf];omega
     .have o:Hid (aB.fQ s.data.toList=XW):=aB.I0 (aB.J3 _ (k+1) (by rw[u,aB.zO,j];simpa using g))
      have f:(s[k].toNat:N)<97\/(¬ (s[k].toNat:N)<97/\122<(s[k].toNat:N)):=by
       have:=mt (aB.zx s[k]).2 g;omega
      clear g;rcases f with f |⟨f,q⟩
      all_goals
       go_wp2;go_ret;exact⟨eV (by rw[o]),rfl⟩
    .have C:Hid (s.data.toList.take k=s.data.toList):=aB.uh s k O;have z:Hid (aB.fQ s.data.toList=XX):=aB.JE (by rw[aB.gI];omega) (by rw[aB.gI];omega) (by rw[<- C];exact j);go_wp2;go_ret;exact⟨eV (by rw[z]),rfl⟩
theorem Wz(l:J UInt8):∀ acc:M,aB.ic l=XX->∃ n:M,Lib.decFrom acc l=U n/\(n:N)=l.foldl (fun n c=>n*10+((c.toNat:N)-48)) (acc:N):=by
 induction l with
 |nil=>intro acc _;exact⟨acc,rfl,rfl⟩
 |cons c l ih =>
  intro acc h;simp only[aB.ic,List.all_cons,ZR] at h;have f:=(aB.ud c).1 h.1;let⟨n,h1,h2⟩:=ih (acc*10+(c.toNat-48)) h.2;refine⟨n,?_,?_⟩
  .simp only[Lib.decFrom,Lib.digitVal];rw[XS O];exact h1
  .rw[h2,List.foldl_cons]
   congr 1
   omega
theorem Tr(l:J UInt8)(h:aB.ic l=XX)(g:l≠[]):Lib.atoi l=U (aB.nO l):=by
 let⟨n,h1,h2⟩:=Wz l 0 h
 cases l with
 |nil=>exact XT rfl g
 |cons b r =>
  simp only[aB.ic,List.all_cons,ZR] at h;have f:=(aB.ud b).1 h.1
  have j:(b==45)=XW:=by
   rw[beq_eq_false_iff_ne];intro e;subst e;revert f;decide
  have i:(b==43)=XW:=by
   rw[beq_eq_false_iff_ne];intro e;subst e;revert f;decide
  simp only[Lib.atoi,j,i,Yr,if_false,Lib.decNat,List.isEmpty_cons,h1,Option.map_some];rw[h2];rfl
def bT(s:XK)(lo hi:M):N:=if lo<=s.size/\s.size<=hi/\aB.ic s.data.toList=XX then aB.nO s.data.toList else -1
theorem CW{s:XK}(h:¬ (lo<=s.size/\s.size<=hi)):bT s lo hi=-1:=by
 unfold bT;rw[XR (fun g=>h ⟨g.1,g.2.1⟩)]
theorem CY{s:XK}(h:aB.ic s.data.toList=XW):bT s lo hi=-1:=by
 unfold bT;rw[XR (fun g=>by rw[h] at g;exact XT g.2.2 XC)]
theorem CX{s:XK}(g:lo<=s.size)(f:s.size<=hi)(h:aB.ic s.data.toList=XX):bT s lo hi=aB.nO s.data.toList:=by
 unfold bT;rw[XS ⟨g,f,h⟩]
theorem fH(s:XK)(lo hi:M)(w:XY)(T:s.size<=160)(C:1<=lo)(D:hi<=7):
  X4 prog 126 #[s,V Y lo,V Y hi] w fun e w'=>e=Yg (V Y (bT s lo hi))/\X0 w w w':=by
 by_cases h0:s.size<lo
 .have H:Hid (bT s lo hi=-1):=CW O;have K:((s.size:N)<(lo:N)):=O
  go_in
  go_wp2;go_ret;exact⟨gH (by rw[H]),Below.refl _ _⟩
 .have K:¬ ((s.size:N)<(lo:N)):=O
  by_cases h7:hi<s.size
  .have H:Hid (bT s lo hi=-1):=CW O;have I:((hi:N)<(s.size:N)):=O
   go_in
   go_wp2;go_ret;exact⟨gH (by rw[H]),Below.refl _ _⟩
  .have I:¬ ((hi:N)<(s.size:N)):=O
   go_in
   go_wp2
   go_loop [7] (fun i=>∃ k:M,k<=s.size/\i=V Y k/\aB.ic (s.data.toList.take k)=XX) (fun i=>s.size-(intOf i).toNat)
   .exact⟨0,Zd _,rfl,rfl⟩
   .obtain⟨k,W,rfl,u⟩:=hrel;have o:=hide u;clear u
    by_cases j:k<s.size
    .have z:Hid (s.data.toList.take (k+1)=s.data.toList.take k++[s[k]]):=aB.Ab s k j
     by_cases h:aB.tG s[k]=XX
     .have f:=(aB.ud _).1 h;have p:=hide h;let⟨hc1,hc2⟩:=f;clear h;go_wp2
      go_round
      .exact⟨k+1,O,by go_num,by rw[z,aB.Ah,o,p];rfl⟩
      .simp[intOf];omega
     .have p:Hid (bT s lo hi=-1):=CY (aB.Lq _ (k+1) (by rw[z,aB.Ah,o];simpa using h))
      have f:(s[k].toNat:N)<48\/(¬ (s[k].toNat:N)<48/\57<(s[k].toNat:N)):=by
       have:=mt (aB.ud s[k]).2 h;omega
      clear h;rcases f with f |⟨f,x⟩
      all_goals
       go_wp2;go_ret;exact⟨gH (by rw[p]),Below.refl _ _⟩
    .have S:Hid (s.data.toList.take k=s.data.toList):=aB.uh s k O;have g:aB.ic s.data.toList=XX:=by rw[<- S];exact o
     have L:Hid (bT s lo hi=aB.nO s.data.toList):=CX O O g;have P:Hid (Lib.atoi s.data.toList=U (aB.nO s.data.toList)):=Tr _ g (fun e=>by have:=aB.gI s;rw[e] at this;simp at this;omega);clear g
     go_wp21
     refine aK (strconv_Atoi s _ O P w) ?_;rintro w' ⟨t,q⟩;have F:X0 w w w':=by rw[q];exact Joins.below_bytesWorld _ _ _ _ aI
     clear q;go_wp2;go_ret;exact⟨gH (by rw[L]),F⟩
theorem pR(s:XK)(a b:M)(h:s.size<=160):(s.extract a b).size<=160:=by
 have:(s.extract a b).size=min b s.size-a:=ByteArray.size_extract ..;omega
theorem xh(s:XK)(a b n:M)(h:min b s.size-a=n):(s.extract a b).size=n:=(ByteArray.size_extract ..).trans h
theorem xg(t:XK)(n:M)(h:t.size=n)(k:1<=n)(j:n<=7):bT t n n=if aB.isNum t.data.toList then aB.cY t.data.toList else -1:=by
 have i:=aB.gI t
 cases f:aB.ic t.data.toList
 .rw[CY f,aB.Dg f];rfl
 .have g:aB.isNum t.data.toList=XX:=aB.DG O O f;rw[CX O O f,g];simp[aB.cY,g]
theorem wJ(t:XK):bT t 1 7=if aB.isNum t.data.toList then aB.cY t.data.toList else -1:=by
 have i:=aB.gI t
 cases f:aB.ic t.data.toList
 .rw[CY f,aB.Dg f];rfl
 .by_cases h:1<=t.size/\t.size<=7
  .have g:aB.isNum t.data.toList=XX:=aB.DG O O f;rw[CX h.1 h.2 f,g];simp[aB.cY,g]
  .rw[CW h,aB.zM O];rfl
def iG(s:XK):N:=if aB.ef s then aB.fZ s else -1
def fM(s:XK):N:=if aB.js s=XX/\0<=aB.fu s/\aB.fu s<=728 then aB.fu s else -1
theorem Dr{s:XK}(h:aB.ef s=XW):iG s=-1:=by simp[iG,h]
theorem yV{s:XK}(h:aB.js s=XW):fM s=-1:=by simp[fM,h]
theorem Cq(s:XK)(w:XY)(K:s.size<=160):
  X4 prog 188 #[s] w fun e w'=>e=Yg (V Y (iG s))/\X0 w w w':=by
 by_cases j:s.size=5
 .have S:((s.size:N) != 5)=XW:=oZ O;have p:2<s.size:=O
  have h6:(2:N)<(s.size:N):=O
  have h7:(3:N)<=(s.size:N):=O
  by_cases o:aB.eI s 2=58
  .have P:(((s[2]'p).toNat:N) != 58)=XW:=oZ (by rw[<- aB.jL];exact o);have b1:=aB.mB (aB.part s 0 2);have b2:=aB.mB (aB.part s 3 5);have i:=hide (aB.Jw j o);have I:bT (s.extract 0 2) 2 2=if aB.isNum (aB.part s 0 2) then aB.cY (aB.part s 0 2) else -1:=xg _ 2 (xh _ _ _ _ O) O O
   have H:bT (s.extract 3 s.size) 2 2=if aB.isNum (aB.part s 3 5) then aB.cY (aB.part s 3 5) else -1:=by
    rw[j];exact xg _ 2 (xh _ _ _ _ O) O O
   have h:∃ x y:N,bT (s.extract 0 2) 2 2=x/\bT (s.extract 3 s.size) 2 2=y:=⟨_,_,rfl,rfl⟩;obtain⟨x,y,h,u⟩:=h;have bx:-1<=x/\x<=9999999:=by rw[<- h,I];split <;> omega
   have W:-1<=y/\y<=9999999:=by rw[<- u,H];split <;> omega
   have HR:Hid (iG s=if x<0\/23<x\/y<0\/59<y then -1 else 60*x+y):=by
    show iG s=_;rw[<- h,<- u,I,H,iG,aB.fZ,aP i]
    cases aB.isNum (aB.part s 0 2)
    .simp
    .cases aB.isNum (aB.part s 3 5)
     .simp
     .simp only[Bool.true_and,if_true]
      by_cases D:aB.cY (aB.part s 0 2)<=23
      .by_cases L:aB.cY (aB.part s 3 5)<=59
       .simp only[D,L,decide_true,Bool.and_self,if_true];rw[XR O];omega
       .simp only[D,L,decide_true,decide_false,Bool.and_false,Yr,if_false];rw[XS O]
      .simp only[D,decide_false,Bool.false_and,Yr,if_false];rw[XS O]
   have HX:=hide h;have HY:=hide u;clear I H h u j o b1 b2 i;have f:x<0\/(¬ x<0/\23<x)\/(¬ x<0/\¬ 23<x/\y<0)\/(¬ x<0/\¬ 23<x/\¬ y<0/\59<y)\/(¬ x<0/\¬ 23<x/\¬ y<0/\¬ 59<y):=O
   rcases f with g|⟨g,F⟩|⟨g,F,q⟩|⟨g,F,q,T⟩|⟨g,F,q,T⟩
   all_goals
    go_in
    go_wp21
    refine aK (fH (s.extract 0 2) 2 2 _ (pR _ _ _ K) O O) fun w1 k=>?_;rw[aP HX]
    go_wp21
    refine aK (fH (s.extract 3 s.size) 2 2 _ (pR _ _ _ K) O O) fun w2 C=>?_;rw[aP HY];have z:=k.trans (C.mono k.size);go_wp2;go_ret;refine⟨gH ?_,z⟩;rw[HR]
    first|rw[XS O]|rw[XR O]
  .have P:(((s[2]'p).toNat:N) != 58)=XX:=pd (by rw[<- aB.jL];exact o);have i:=hide (Dr (aB.Aq (s:=s) O));clear j o
   go_in
   go_wp2;go_ret;exact⟨gH (by rw[aP i]),Below.refl _ _⟩
 .have S:((s.size:N) != 5)=XX:=pd O;have i:=hide (Dr (aB.Aq (s:=s) O));clear j
  go_in
  go_wp2;go_ret;exact⟨gH (by rw[aP i]),Below.refl _ _⟩
theorem wK(s:XK)(w:XY)(q:s.size<=160):
  X4 prog 187 #[s] w fun e w'=>e=Yg (V Y (fM s))/\X0 w w w':=by
 by_cases p:s.size=10
 .have h5:((s.size:N) != 10)=XW:=oZ O;have H:4<s.size:=O
  have F:7<s.size:=O
  have h4:(4:N)<(s.size:N):=O
  have h7:(7:N)<(s.size:N):=O
  have h8:(8:N)<=(s.size:N):=O
  by_cases u:aB.eI s 4=45
  .have hc:(((s[4]'H).toNat:N) != 45)=XW:=oZ (by rw[<- aB.jL];exact u)
   by_cases D:aB.eI s 7=45
   .have he:(((s[7]'F).toNat:N) != 45)=XW:=oZ (by rw[<- aB.jL];exact D);have i:=hide (aB.IB p u D);have T:bT (s.extract 0 4) 4 4=if aB.isNum (aB.part s 0 4) then aB.cY (aB.part s 0 4) else -1:=xg _ 4 (xh _ _ _ _ O) O O
    have S:bT (s.extract 5 7) 2 2=if aB.isNum (aB.part s 5 7) then aB.cY (aB.part s 5 7) else -1:=xg _ 2 (xh _ _ _ _ O) O O
    have P:bT (s.extract 8 s.size) 2 2=if aB.isNum (aB.part s 8 10) then aB.cY (aB.part s 8 10) else -1:=by
     rw[p];exact xg _ 2 (xh _ _ _ _ O) O O
    have C:∃ x y z:N,bT (s.extract 0 4) 4 4=x/\bT (s.extract 5 7) 2 2=y/\bT (s.extract 8 s.size) 2 2=z:=⟨_,_,_,rfl,rfl,rfl⟩;obtain⟨x,y,z,C,L,K⟩:=C
    have HR:Hid (fM s=if Cal.ok x y z=XX/\0<=Cal.num x y z/\Cal.num x y z<=728 then Cal.num x y z else -1):=by
     show fM s=_;rw[<- C,<- L,<- K,T,S,P,fM,aB.fu,aP i]
     cases aB.isNum (aB.part s 0 4)
     .simp[mM (y:=-1) (m:=_) (d:=_) O]
     .cases aB.isNum (aB.part s 5 7)
      .simp[mM (y:=_) (m:=-1) (d:=_) O]
      .cases aB.isNum (aB.part s 8 10)
       .simp[mM (y:=_) (m:=_) (d:=-1) O]
       .simp only[Bool.true_and,if_true]
        cases Cal.ok (aB.cY (aB.part s 0 4)) (aB.cY (aB.part s 5 7)) (aB.cY (aB.part s 8 10)) <;> simp
    have HX:=hide C;have HY:=hide L;have W:=hide K;clear T S P C L K p u D i
    cases I:Cal.ok x y z
    .go_in
     go_wp21
     refine aK (fH (s.extract 0 4) 4 4 _ (pR _ _ _ q) O O) fun w1 f=>?_;rw[aP HX]
     go_wp21
     refine aK (fH (s.extract 5 7) 2 2 _ (pR _ _ _ q) O O) fun w2 h=>?_;rw[aP HY]
     go_wp21
     refine aK (fH (s.extract 8 s.size) 2 2 _ (pR _ _ _ q) O O) fun w3 o=>?_;rw[aP W];have k:=(f.trans (h.mono f.size)).trans (o.mono (Yk f.size h.size))
     go_wp21
     refine aX (Ph _ _ _ _ I) ?_;go_wp2;go_ret;exact⟨gH (by rw[HR,I];simp),k⟩
    .have j:Cal.num x y z<0\/(¬ Cal.num x y z<0/\728<Cal.num x y z)\/(¬ Cal.num x y z<0/\¬ 728<Cal.num x y z):=O
     rcases j with g|⟨g,g'⟩|⟨g,g'⟩
     all_goals
      go_in
      go_wp21
      refine aK (fH (s.extract 0 4) 4 4 _ (pR _ _ _ q) O O) fun w1 f=>?_;rw[aP HX]
      go_wp21
      refine aK (fH (s.extract 5 7) 2 2 _ (pR _ _ _ q) O O) fun w2 h=>?_;rw[aP HY]
      go_wp21
      refine aK (fH (s.extract 8 s.size) 2 2 _ (pR _ _ _ q) O O) fun w3 o=>?_;rw[aP W];have k:=(f.trans (h.mono f.size)).trans (o.mono (Yk f.size h.size))
      go_wp21
      refine aX (Pw _ _ _ _ I) ?_;go_wp2;go_ret;refine⟨gH ?_,k⟩;rw[HR]
      first|rw[XR O]|rw[XS ⟨I,O,O⟩]
   .have he:(((s[7]'F).toNat:N) != 45)=XX:=pd (by rw[<- aB.jL];exact D);have i:=hide (yV (aB.vp (s:=s) O));clear p u D
    go_in
    go_wp2;go_ret;exact⟨gH (by rw[aP i]),Below.refl _ _⟩
  .have hc:(((s[4]'H).toNat:N) != 45)=XX:=pd (by rw[<- aB.jL];exact u);have i:=hide (yV (aB.vp (s:=s) O));clear p u
   go_in
   go_wp2;go_ret;exact⟨gH (by rw[aP i]),Below.refl _ _⟩
 .have h5:((s.size:N) != 10)=XX:=pd O;have i:=hide (yV (aB.vp (s:=s) O));clear p
  go_in
  go_wp2;go_ret;exact⟨gH (by rw[aP i]),Below.refl _ _⟩
theorem Sa(s:XK):aB.dC s=(aB.js s && decide (0<=aB.fu s) && decide (aB.fu s<728)):=by
 rw[ZW];simp[aB.dC,and_assoc]
def gN(s:XK):N:=if aB.dC s then aB.fu s else 0
theorem Lu(s:XK)(w:XY)(ht:ig w)(q:s.size<=160):
  X4 prog 136 #[s] w fun e w'=>e=Yg (Yc #[V Y (gN s),aB.dC s])/\w'=w:=by
 have i:s.size<=maxLen:=by unfold maxLen;omega
 have k:=hide (Sa s)
 cases j:aB.js s
 .go_in
  go_wp21
  refine aX (ye s w ht i) ?_;go_wp2;go_ret2;exact⟨fh (by simp[gN,aP k,j]) (by simp[aP k,j]),rfl⟩
 .have f:aB.fu s<0\/(¬ aB.fu s<0/\728<=aB.fu s)\/(¬ aB.fu s<0/\¬ 728<=aB.fu s):=O
  rcases f with g|⟨g,o⟩|⟨g,o⟩
  all_goals
   have h:Hid (aB.dC s=(decide (0<=aB.fu s) && decide (aB.fu s<728))):=(aP k).trans (by rw[j];rfl)
   go_in
   go_wp21
   refine aX (ye s w ht i) ?_;go_wp2;go_ret2;refine⟨fh ?_ ?_,rfl⟩
  .rw[gN,h,decide_eq_false O];rfl
  .rw[h,decide_eq_false O];rfl
  .rw[gN,h,decide_eq_false (p:=aB.fu s<728) O,Bool.and_false];rfl
  .rw[h,decide_eq_false (p:=aB.fu s<728) O,Bool.and_false]
  .rw[gN,h,decide_eq_true (p:=aB.fu s<728) O,decide_eq_true (p:=0<=aB.fu s) O];rfl
  .rw[h,decide_eq_true (p:=aB.fu s<728) O,decide_eq_true (p:=0<=aB.fu s) O];rfl
def pV(s:XK):N:=if aB.isNum s.data.toList then aB.cY s.data.toList else aB.lA s
def bL(s:XK):XN:=(aB.isNum s.data.toList || aB.jB s) && decide (0<=pV s/\pV s<=1048320)
def eu(s:XK):N:=if bL s then pV s else 0
def dX(s:XK):N:=if bL s then pV s else -1
theorem Tw(s:XK)(h:s.size<=160):(aB.jE s).size<=160:=by
 rw[<- aB.gI];unfold aB.jE ZX;have:=aB.gI s
 split <;> simp <;> omega
theorem Tx(s:XK)(h:s.size<=160):(aB.jF s).size<=160:=by
 rw[<- aB.gI];unfold aB.jF ZX;have:=aB.gI s
 split <;> simp <;> omega
theorem AR(s:XK)(w:XY)(j:Env w)(x:s.size<=160):
  X4 prog 196 #[s] w fun e w'=>e=Yg (Yc #[V Y (aB.lA s),aB.jB s])/\∃ n,w'=w.drewN n:=by
 obtain⟨m,g⟩:=j.uM;have o:=hide j;have h:=hide (aB.Q9 s);have H:=aB.Ir (aB.jE s);have F:=aB.zi (aB.jF s);have C:(aB.jE s).size<=maxLen:=by have:=Tw s x;unfold maxLen;omega
 have z:(aB.jF s).size<=maxLen:=by have:=Tx s x;unfold maxLen;omega
 have q:=hide C;have p:=hide z;clear j C z
 cases i:aB.pO s
 .have f:Hid (aB.jB s=XW):=by show aB.jB s=XW;rw[<- (aP h).1,i];rfl
  go_in
  go_wp21
  refine aK (strings_Cut s ⟨#[47]⟩ m w O g) ?_;rintro w1 ⟨n,rfl⟩;rw[show (ZX s.data.toList (ByteArray.mk #[47]).data.toList).snd.snd=aB.pO s from rfl];go_wp2;go_ret2;exact⟨fh (by simp[aB.lA,f.out]) (by rw[f]),_,rfl⟩
 .cases k:aB.js (aB.jE s)
  .have f:Hid (aB.jB s=XW):=by show aB.jB s=XW;rw[<- (aP h).1,i,k];rfl
   go_in
   go_wp21
   refine aK (strings_Cut s ⟨#[47]⟩ m w O g) ?_;rintro w1 ⟨n,rfl⟩;rw[show (ZX s.data.toList (ByteArray.mk #[47]).data.toList).snd.snd=aB.pO s from rfl,show (ByteArray.mk (ZX s.data.toList (ByteArray.mk #[47]).data.toList).fst.toArray)=aB.jE s from rfl,show (ByteArray.mk (ZX s.data.toList (ByteArray.mk #[47]).data.toList).snd.fst.toArray)=aB.jF s from rfl]
   go_wp21
   refine aX (ye (aB.jE s) _ ((aP o).drewN n).jv (aP q)) ?_
   go_wp21
   refine aX (xZ (aB.jF s) _ (aP p)) ?_;go_wp2;go_ret2;exact⟨fh (by simp[aB.lA,f.out]) (by rw[f]),_,rfl⟩
  .cases u:aB.ef (aB.jF s)
   .have f:Hid (aB.jB s=XW):=by show aB.jB s=XW;rw[<- (aP h).1,i,k,u];rfl
    go_in
    go_wp21
    refine aK (strings_Cut s ⟨#[47]⟩ m w O g) ?_;rintro w1 ⟨n,rfl⟩;rw[show (ZX s.data.toList (ByteArray.mk #[47]).data.toList).snd.snd=aB.pO s from rfl,show (ByteArray.mk (ZX s.data.toList (ByteArray.mk #[47]).data.toList).fst.toArray)=aB.jE s from rfl,show (ByteArray.mk (ZX s.data.toList (ByteArray.mk #[47]).data.toList).snd.fst.toArray)=aB.jF s from rfl]
    go_wp21
    refine aX (ye (aB.jE s) _ ((aP o).drewN n).jv (aP q)) ?_
    go_wp21
    refine aX (xZ (aB.jF s) _ (aP p)) ?_;go_wp2;go_ret2;exact⟨fh (by simp[aB.lA,f.out]) (by rw[f]),_,rfl⟩
   .have f:Hid (aB.jB s=XX):=by show aB.jB s=XX;rw[<- (aP h).1,i,k,u];rfl
    have D:=hide ((aP h).2 f)
    go_in
    go_wp21
    refine aK (strings_Cut s ⟨#[47]⟩ m w O g) ?_;rintro w1 ⟨n,rfl⟩;rw[show (ZX s.data.toList (ByteArray.mk #[47]).data.toList).snd.snd=aB.pO s from rfl,show (ByteArray.mk (ZX s.data.toList (ByteArray.mk #[47]).data.toList).fst.toArray)=aB.jE s from rfl,show (ByteArray.mk (ZX s.data.toList (ByteArray.mk #[47]).data.toList).snd.fst.toArray)=aB.jF s from rfl]
    go_wp21
    refine aX (ye (aB.jE s) _ ((aP o).drewN n).jv (aP q)) ?_
    go_wp21
    refine aX (xZ (aB.jF s) _ (aP p)) ?_;go_wp2;go_ret2;exact⟨fh (aP D) (by rw[f]),_,rfl⟩
theorem IQ{s:XK}(h:aB.isNum s.data.toList=XX):bL s=decide (aB.cY s.data.toList<=1048320)/\pV s=aB.cY s.data.toList:=by
 have b:=aB.mB s.data.toList;have e:pV s=aB.cY s.data.toList:=by simp[pV,h]
 refine⟨?_,e⟩;unfold bL;rw[e,h,ZW];simp;omega
theorem CD{s:XK}(h:aB.isNum s.data.toList=XW):bL s=(aB.jB s && decide (0<=aB.lA s/\aB.lA s<=1048320))/\pV s=aB.lA s:=by
 have e:pV s=aB.lA s:=by simp[pV,h]
 exact⟨by unfold bL;rw[e,h];rfl,e⟩
theorem LC(s:XK)(w:XY)(x:Env w)(k:s.size<=160):
  X4 prog 140 #[s] w fun e w'=>e=Yg (Yc #[V Y (eu s),bL s])/\∃ n,w'=w.drewN n:=by
 have p:=hide x;have h:s.size<=maxLen:=by unfold maxLen;omega
 clear x
 cases u:aB.isNum s.data.toList
 .have i:=hide (CD u)
  cases o:aB.jB s
  .have f:Hid (bL s=XW):=by show bL s=XW;rw[(aP i).1,o];rfl
   go_in
   go_wp21
   refine aX (fK s w h) ?_
   go_wp21
   refine aK (AR s _ (aP p) k) ?_;rintro w1 ⟨n,rfl⟩;go_wp2;go_ret2;exact⟨fh (by simp[eu,f.out]) (by rw[f]),_,rfl⟩
  .have j:aB.lA s<0\/(¬ aB.lA s<0/\1048320<aB.lA s)\/(¬ aB.lA s<0/\¬ 1048320<aB.lA s):=O
   rcases j with g|⟨g,z⟩|⟨g,z⟩
   .have f:Hid (bL s=XW):=by show bL s=XW;rw[(aP i).1,o,decide_eq_false O];rfl
    go_in
    go_wp21
    refine aX (fK s w h) ?_
    go_wp21
    refine aK (AR s _ (aP p) k) ?_;rintro w1 ⟨n,rfl⟩;go_wp2;go_ret2;exact⟨fh (by simp[eu,f.out]) (by rw[f]),_,rfl⟩
   .have f:Hid (bL s=XW):=by show bL s=XW;rw[(aP i).1,o,decide_eq_false O];rfl
    go_in
    go_wp21
    refine aX (fK s w h) ?_
    go_wp21
    refine aK (AR s _ (aP p) k) ?_;rintro w1 ⟨n,rfl⟩;go_wp2;go_ret2;exact⟨fh (by simp[eu,f.out]) (by rw[f]),_,rfl⟩
   .have f:Hid (bL s=XX):=by show bL s=XX;rw[(aP i).1,o,decide_eq_true O];rfl
    have q:=hide (aP i).2
    go_in
    go_wp21
    refine aX (fK s w h) ?_
    go_wp21
    refine aK (AR s _ (aP p) k) ?_;rintro w1 ⟨n,rfl⟩;go_wp2;go_ret2;exact⟨fh (by simp[eu,f.out,aP q]) (by rw[f]),_,rfl⟩
 .have i:=hide (IQ u);have b:=aB.mB s.data.toList
  by_cases g:1048320<aB.cY s.data.toList
  .have f:Hid (bL s=XW):=by show bL s=XW;rw[(aP i).1,decide_eq_false O]
   go_in
   go_wp21
   refine aX (fK s w h) ?_;go_wp2;go_ret2;exact⟨fh (by simp[eu,f.out]) (by rw[f]),0,rfl⟩
  .have f:Hid (bL s=XX):=by show bL s=XX;rw[(aP i).1,decide_eq_true O]
   have q:=hide (aP i).2
   go_in
   go_wp21
   refine aX (fK s w h) ?_;go_wp2;go_ret2;exact⟨fh (by simp[eu,f.out,aP q]) (by rw[f]),0,rfl⟩
theorem Ny{s:XK}(h:s.size=16):aB.isNum s.data.toList=XW:=aB.zM (by rw[aB.gI];omega)
theorem NK{s:XK}(j:s.size=16)(p:aB.eI s 10=47):dX s=if fM (s.extract 0 10)<0\/iG (s.extract 11 16)<0\/1048320<1440*fM (s.extract 0 10)+iG (s.extract 11 16) then -1 else 1440*fM (s.extract 0 10)+iG (s.extract 11 16):=by
 have ⟨e1,e2⟩:=CD (Ny j);have x:=aB.zi (s.extract 11 16);have z:=aB.Ir (s.extract 0 10)
 have f:aB.jB s=(aB.js (s.extract 0 10) && aB.ef (s.extract 11 16)):=by
  rw[ZW];simp[aB.jB,j,p]
 unfold dX;rw[e1,e2,aB.lA,f]
 cases o:aB.js (s.extract 0 10)
 .rw[yV o];simp
 .cases k:aB.ef (s.extract 11 16)
  .rw[Dr k];simp
  .have u:iG (s.extract 11 16)=aB.fZ (s.extract 11 16):=by simp[iG,k]
   simp only[Bool.and_self,Bool.true_and,if_true,u,decide_eq_true_eq]
   by_cases g:0<=aB.fu (s.extract 0 10)/\aB.fu (s.extract 0 10)<=728
   .have i:fM (s.extract 0 10)=aB.fu (s.extract 0 10):=by simp[fM,o,g]
    rw[i]
    by_cases q:aB.fu (s.extract 0 10)*1440+aB.fZ (s.extract 11 16)<=1048320
    .rw[XS O,XR O];omega
    .rw[XR O,XS O]
   .have i:fM (s.extract 0 10)=-1:=by unfold fM;rw[XR (fun h=>g h.2)]
    rw[i,XR O,XS O]
theorem GS{s:XK}(h:¬ (s.size=16/\aB.eI s 10=47)):dX s=if 1048320<bT s 1 7 then -1 else bT s 1 7:=by
 have f:aB.jB s=XW:=by
  cases j:aB.jB s
  .rfl
  .have:=of_decide_eq_true j;exact XT ⟨this.1,this.2.1⟩ h
 rw[wJ]
 cases i:aB.isNum s.data.toList
 .have ⟨e1,e2⟩:=CD i;unfold dX;rw[e1,f];simp
 .have ⟨e1,e2⟩:=IQ i;unfold dX;rw[e1,e2]
  by_cases g:aB.cY s.data.toList<=1048320
  .rw[decide_eq_true g];simp;omega
  .rw[decide_eq_false g];simp;omega
theorem sj(s:XK)(w:XY)(C:s.size<=160):
  X4 prog 127 #[s] w fun e w'=>e=Yg (V Y (dX s))/\X0 w w w':=by
 by_cases k:s.size=16
 .have L:((s.size:N)==16)=XX:=beq_iff_eq.2 O;have p:10<s.size:=O
  have W:(10:N)<(s.size:N):=O
  have T:(11:N)<=(s.size:N):=O
  by_cases o:aB.eI s 10=47
  .have K:(((s[10]'p).toNat:N)==47)=XX:=beq_iff_eq.2 (by rw[<- aB.jL];exact o);have i:=hide (NK k o);have f:∃ x y:N,fM (s.extract 0 10)=x/\iG (s.extract 11 16)=y:=⟨_,_,rfl,rfl⟩;obtain⟨x,y,f,z⟩:=f;have bx:-1<=x/\x<=728:=by rw[<- f,fM];split <;> omega
   have P:-1<=y/\y<=1439:=by have:=aB.zi (s.extract 11 16);rw[<- z,iG];split <;> omega
   have q:=hide f;have S:Hid (iG (s.extract 11 s.size)=y):=by show iG (s.extract 11 s.size)=y;rw[k];exact z
   have u:Hid (dX s=if x<0\/y<0\/1048320<1440*x+y then -1 else 1440*x+y):=by
    show dX s=_;rw[aP i,f,z]
   clear f z k o i;have j:x<0\/(¬ x<0/\y<0)\/(¬ x<0/\¬ y<0/\1048320<1440*x+y)\/(¬ x<0/\¬ y<0/\¬ 1048320<1440*x+y):=O
   rcases j with g|⟨g,I⟩|⟨g,I,H⟩|⟨g,I,H⟩
   all_goals
    go_in
    go_wp21
    refine aK (wK (s.extract 0 10) _ (pR _ _ _ C)) fun w1 h=>?_;rw[aP q]
    go_wp21
    refine aK (Cq (s.extract 11 s.size) _ (pR _ _ _ C)) fun w2 F=>?_;rw[S];have D:=h.trans (F.mono h.size);go_wp2;go_ret;refine⟨gH ?_,D⟩;rw[u]
    first|rw[XS O]|rw[XR O]
  .have K:(((s[10]'p).toNat:N)==47)=XW:=beq_eq_false_iff_ne.2 (by rw[<- aB.jL];exact o);have i:=hide (GS (s:=s) O);clear k o;have f:∃ x:N,bT s 1 7=x:=⟨_,rfl⟩;obtain⟨x,f⟩:=f;have q:=hide f
   have u:Hid (dX s=if 1048320<x then -1 else x):=by
    show dX s=_;rw[aP i,f]
   clear f i
   by_cases g:1048320<x
   all_goals
    go_in
    go_wp21
    refine aK (fH s 1 7 _ C O O) fun w1 h=>?_;rw[aP q];go_wp2;go_ret;refine⟨gH ?_,h⟩;rw[u]
    first|rw[XS O]|rw[XR O]
 .have L:((s.size:N)==16)=XW:=beq_eq_false_iff_ne.2 O;have i:=hide (GS (s:=s) O);clear k;have f:∃ x:N,bT s 1 7=x:=⟨_,rfl⟩;obtain⟨x,f⟩:=f;have q:=hide f
  have u:Hid (dX s=if 1048320<x then -1 else x):=by
   show dX s=_;rw[aP i,f]
  clear f i
  by_cases g:1048320<x
  all_goals
   go_in
   go_wp21
   refine aK (fH s 1 7 _ C O O) fun w1 h=>?_;rw[aP q];go_wp2;go_ret;refine⟨gH ?_,h⟩;rw[u]
   first|rw[XS O]|rw[XR O]
theorem Ts(x:M)(w:XY):
  X4 prog 81 #[V .i32 x] w fun e w'=>e=Yg (x==32)/\∃ q,w'=w.drewN q:=by
 go_in
 go_wp2;go_ret;refine⟨eV ?_,0,rfl⟩;rw[ZW];simp;omega
theorem VW(f:Array XZ)(w:XY):Sem.run prog (callFunc 81 f) w=.ok (.enter 81 f) w:=XF
theorem Uq(s:XK)(w:XY)(j:s.size<=160):
  X4 prog 61 #[s] w fun e w'=>∃ A,e=Yg (X9 (U ⟨A,0,XU⟩) (aB.aU s).length (aB.aU s).length)/\w<=A /\
   w'.ownsRow w 9 1 (X9 A (aB.aU s).length (aB.aU s).length) (aB.aU s).length ((aB.aU s).map Ya)/\X0 w w w':=by
 have f:PredAtRunes prog 81 #[] (fun r=>r==32) w:=fun W x _ _=>Ts x W
 have HP:=hide f;clear f
 go_in
 go_wp21
 refine (strings_FieldsFunc_runes 81 #[] VW (fun r=>r==32) s w O (aP HP)).mono ?_;rintro e w' ⟨A,rfl,i,g,h⟩;rw[aB.WD] at g ⊢;go_wp2;go_ret;exact⟨A,rfl,i,g,h⟩
theorem toList_data(b:XK):b.toList=b.data.toList:=Lib.toList_data b
theorem yU{b:XK}(h:b.toList.isEmpty=XX):b.size=0:=by
 rw[toList_data,List.isEmpty_iff] at h;rw[<- aB.gI,h];rfl
theorem yZ{b:XK}(h:b.toList.isEmpty=XW):b.size≠0:=by
 intro e;rw[toList_data,List.isEmpty_eq_false_iff] at h;exact h (List.eq_nil_of_length_eq_zero (by rw[aB.gI];exact e))
theorem pK{f size n:M}(h:w.ownsRow f e size v n xs){k:M}(i:v.ownBlock=U k):f<=k:=by
 rcases h.2 with ⟨rfl,_⟩|⟨g,cap,j,rfl,o,_⟩
 .simp[ZB] at i
 .simp[ZB] at i;omega
theorem yH:(prog.info? 9).map (fun i=>(i.zero,i.size,i.bytes))=U (U (Ya ⟨#[]⟩),1,16):=XF
theorem Hb(s:XK)(w:XY)(T:s.size<=160):
  X4 prog 59 #[s] w fun e w'=>∃ v,e=Yg v/\w'.ownsRow w 9 1 v (aB.aU s).length ((aB.aU s).map Ya)/\X0 w w w':=by
 obtain⟨L,hi,C,z,x⟩:=info_parts yH
 go_in
 go_wp2
 go_loopw [3,4,5] (fun v c i wr=>∃ k:M,k<=s.size/\i=V Y k/\c=Ya (aB.fl s k)/\wr.ownsRow w 9 1 v (aB.kF s k).length ((aB.kF s k).map Ya)/\X0 w w wr) (fun _ _ i _=>s.size-(intOf i).toNat)
 case atStart=>exact⟨0,Zd _,rfl,rfl,ZD _ _ _ _,Below.refl _ _⟩
 case round =>
  obtain⟨k,F,rfl,rfl,f,g⟩:=hrel;have W:=aB.zG s k
  by_cases S:k<s.size
  .by_cases q:aB.eI s k=32
   .have I:((s[k].toNat:N)==32)=XX:=beq_iff_eq.2 (by rw[<- aB.jL];exact q);have p:=hide (aB.zP s k F q);clear q
    cases H:(aB.fl s k).toList.isEmpty
    .have o:Hid ((aB.fl s k).size≠0):=(yZ H);have K:=aB.sD s k
     go_wp2_with (first
      |(at_builtin;refine wpList_append_own _ rfl _ _ 26 rfl w 9 L (Ya ⟨#[]⟩) 1 16 underlying26 hi C z x rfl XC _ _ _ rfl (f.alloc _) (wr,0) 1 1 [aB.fl s k] rfl rfl ?c1 ?c2 ?c3 ?c4 ?c5 ?_)
      |go_in)
     case c1=>exact cell_one_new _ _ _
     case c2=>intro u D;simp at D;subst D;rfl
     case c3=>unfold maxLen;omega
     case c4=>omega
     case c5=>have:=g.size;simp;omega
     intro v' w1 h j _;go_wp2;refine⟨⟨k+1,O,by go_num,by rw[(aP p).1],?_,?_⟩,by simp[intOf];omega⟩
     .rw[(aP p).2,XR o,Zl,YZ];exact h
     .refine (g.alloc g.size _).grown j (by have:=g.size;simp;omega) (fun k F=>?_);exact pK f F
    .have o:Hid ((aB.fl s k).size=0):=(yU H);go_wp2;exact⟨⟨k+1,O,by go_num,by rw[(aP p).1],by rw[(aP p).2,XS o.out,List.append_nil];exact f,g⟩,by simp[intOf];omega⟩
   .have I:((s[k].toNat:N)==32)=XW:=beq_eq_false_iff_ne.2 (by rw[<- aB.jL];exact q);have p:=hide (aB.zE s k q);clear q;go_wp2;exact⟨⟨k+1,O,by go_num,by rw[(aP p).1],by rw[(aP p).2];exact f,g⟩,by simp[intOf];omega⟩
  .obtain rfl:k=s.size:=O
   have P:=hide (aB.xe s)
   cases H:(aB.fl s s.size).toList.isEmpty
   .have o:Hid ((aB.fl s s.size).size≠0):=(yZ H);have K:=aB.sD s s.size
    go_wp2_with (first
     |(at_builtin;refine wpList_append_own _ rfl _ _ 26 rfl w 9 L (Ya ⟨#[]⟩) 1 16 underlying26 hi C z x rfl XC _ _ _ rfl (f.alloc _) (wr,0) 1 1 [aB.fl s s.size] rfl rfl ?c1 ?c2 ?c3 ?c4 ?c5 ?_)
     |go_in)
    case c1=>exact cell_one_new _ _ _
    case c2=>intro u D;simp at D;subst D;rfl
    case c3=>unfold maxLen;omega
    case c4=>omega
    case c5=>have:=g.size;simp;omega
    intro v' w1 h j _;go_wp2;go_ret;refine⟨v',rfl,?_,?_⟩
    .rw[aP P,XR o,Zl,YZ];exact h
    .refine (g.alloc g.size _).grown j (by have:=g.size;simp;omega) (fun k F=>?_);exact pK f F
   .have o:Hid ((aB.fl s s.size).size=0):=(yU H);go_wp2;go_ret;exact⟨_,rfl,by rw[aP P,XS o.out,List.append_nil];exact f,g⟩
end Go.Proofs.YtfigmlfdnickmaaGreatDoor
