import Derived.Test.YtolaacmheeaadaaGreatDoorL04
import Derived.Test.YtolaacmheeaadaaGreatDoorShelf
set_option maxRecDepth 100000
set_option maxHeartbeats 8000000
open Go.Proofs.Tryz
open _root_ renaming ByteArray->Us,List->Ut,Option->Uu,Bool->Uv,Nat->Uw,Int->Ux,if_neg->Uy,if_pos->Uz,absurd->UA,Int->N,Nat->M,List->J
open Option renaming none->UB,some->UC,mem_toList->Wn,some->U
open Bool renaming false->UD,true->UE,and_eq_true->Wu,and_false->Yn,false_eq_true->U7,true_and->Ys,and_self->Yt,eq_iff_iff->Wy
open Go renaming World->UF,Value->UG,Calls->UI,Value->Ya
open Go.RowKit renaming Below->UH
open Go.Joins renaming ownsRow_le->Yb
open Go.Builtin renaming append_->Yc
open List renaming length_eq_zero_iff->VF,mem_map->VQ,length_pos_iff->Yg,mem_filter->Xb,length_filter_le->Wj,length_nil->VG,length_append->VA,length_map->We,mem_cons->Va,getElem_of_mem->Xs,mem_singleton->X9,mem_of_find?_eq_some->XM,find?_some->XN,find?_eq_none->XL,all_cons->Yq
open Nat renaming le_refl->UY,le_trans->U0,zero_le->VM
open Go.Oper renaming wp->Yd
open Go.Region renaming wanted->Ye
open Go.Act renaming eval->Yf,put->Yh
open Go.World renaming cell?->Vk,ownsRow_nil->Wc,block_lt_of_cell?->U1,cell?_setCell_same->Ve
open And renaming intro->Vf
open Go.Instr renaming lookup->Yi
open List.Pairwise renaming nil->Xt
open Go.Ending renaming returned->UW
open Int renaming add_zero->Yj,sub_zero->Yk
open Go.Exit renaming inBlock->V7
open ByteArray renaming size_extract->WX,empty->Ym
open Go.Calls renaming quiet_of->Yl,quiet_of_same->Yo
open Go.Lib renaming decFrom->Yp,atoi->Yr,cut->Wz
open Go.Value renaming int->UL,pointer->UM,slice->UO,string->UQ,tuple->US,int->V
open Go.IntKind renaming i64->UV,i64->Y
open Go.Obj renaming cells->UX
namespace Go.Proofs.YtolaacmheeaadaaGreatDoor
variable{c wr:Uv}{name:Us}{a b m n nowc t tq y:Ux}{l:Ut (aA.aQ × Ya)}{ws:Ut Us}{esc:Ut aA.aQ}{E G:Ut Ux}{xs:Ut Ya}{A B B' Q R d e hi lo nx:Uw}{ck aM col' col1:Uw->Uu bO}{r:Raw}{s:aA.St}{v v2 vE vG:Ya}{X Z w w' w1 w2 w4 wx:UF}
open Go.RowKit
def tF(n:N)(f g:UG):Array UG:=#[V Y 0,V Y 0,n,(),(),f,g]
theorem eO.base{l:J N}(h:eO w B aM v l)(f:B'<=B):eO w B' aM v l:=⟨Yb h.own f,h.no⟩
theorem eO.append{u:UG}{l m:J N}(h:eO w B aM v l)(k:eO w B aM u m)(D:B<=w)(C:∀ b,w.heap.size<=b->aM b=UB)(I:l.length+m.length<=100000):∃ (v':UG) (w':UF),(∀ f,(Yc #[53,53] f #[v,u]).run prog w=.ok v' w')/\eO w' B aM v' (l++m)/\w.grownBy w' v.ownBlock/\(v'.ownBlock=v.ownBlock\/v'.ownBlock=U w.heap.size):=by
 let⟨i0,hi0,hz0,hz1,hz2⟩:=info_parts qC;rcases k.own.2 with ⟨rfl,F⟩|⟨g,cap,H,rfl,q,L,h1,W,T,S⟩
 .have z:=VF.1 F;subst z;refine⟨v,w,fun f=>run_append_owned_none (P:=prog) w B 53 f 3 i0 1 underlying53 hi0 v l.length _ h.own,by grind,⟨rfl,rfl,rfl,UY _,fun _ _ _=>rfl⟩,.inl rfl⟩
 .have p:=fun f=>run_append_own_at (P:=prog) w B 53 f 3 i0 _ 1 8 underlying53 hi0 hz0 hz1 hz2 rfl Uj v l.length _ h.own (g,0) m.length cap (m.map (Value.int Y)) Ui (fun j x o=>by
   have K:j<m.length:=by have:=List.getElem?_eq_some_iff.1 o;let⟨h,_⟩:=this;simpa using h
   have e:=k.own.cellAt j O;have i:((g,0):Addr).add j=(g,j):=by unfold Addr.add;split <;> simp_all
   rw[i,e];exact o) (by
   intro x o;obtain⟨y,_,rfl⟩:=VQ.1 o;rfl) Up O D
  let⟨v',w',r1,r2,r3,r4,r5⟩:=p 0;refine⟨v',w',fun f=>?_,⟨by grind,fun b q=>?_⟩,r3,r5⟩
  .exact r1
  .rcases r5 with e|e
   .exact h.no b Uo
   .rw[q] at e
    cases e;exact C _ aJ
theorem LM{P:Program}{o:Oper}{a:Act}{K:Act->UF->Prop}{Q:Exit->Act->UF->Prop}(s x:Operand)(t:TypeId)(v':UG)(g:o.op=.call { callee:=.builtin .append,args:=#[s,x],argTypes:=#[t,t] }) (f:(Yc #[t,t] o.type #[a.eval s,a.eval x]).run P w=.ok v' w') (h:K (a.put o.dst v') w'):o.wp P a w K Q:=by
 unfold Yd execOp;simp only[g,resolve,invoke,builtin,Sem.run_bind,Sem.run_pure,Result.andThen_ok,List.map_toArray,List.map_cons,List.map_nil,f];exact h
theorem Gj{P:Program}{f:Array Oper}{o:Oper}{a:Act}{K:Act->UF->Prop}{Q:Exit->Act->UF->Prop}{E:Prop}(i:o.guard=UB)(s x:Operand)(t:TypeId)(v':UG)
  (k:o.op=.call { callee:=.builtin .append,args:=#[s,x],argTypes:=#[t,t] }) (g:(Yc #[t,t] o.type #[a.eval s,a.eval x]).run P w=.ok v' w') (h:K (a.put o.dst v') w'):
  if Ye o (yielded f a.tmps)=UE then Yd P o a w K Q else E:=by
 have j:Ye o (yielded f a.tmps)=UE:=by simp[Ye,i]
 rw[Uz j];exact LM s x t v' k g h
theorem Ja{P:Program}{f:Array Oper}{rest:J Oper}{o:Oper}{a:Act}{Q:Exit->Act->UF->Prop}(i:o.guard=UB)(s x:Operand)(t:TypeId)(v':UG)(j:o.op=.call { callee:=.builtin .append,args:=#[s,x],argTypes:=#[t,t] }) (g:(Yc #[t,t] o.type #[a.eval s,a.eval x]).run P w=.ok v' w') (h:wpList P f Q rest (a.put o.dst v') w'):wpList P f Q (o :: rest) a w :=
 wpList_plain i fun _ k=>LM s x t v' j g (k _ _ h)
theorem rH{P:Program}{g:Array Oper}{o:Oper}{a:Act}{K:Act->UF->Prop}{Q:Exit->Act->UF->Prop}{E:Prop}(i:o.guard=UB)(f:FuncId)(xs:Array Operand)(j:Array TypeId)
  (p:o.op=.call { callee:=.value (.func f),args:=xs,argTypes:=j }) (args:Array UG) (x:xs.map a.eval=args) (q:(callFunc f args).run P w=.ok (.enter f args) w) {R:Ending->UF->Prop}(u:UI P f args w R) (h:∀ e w',R e w'->∃ v,e=UW v/\K (a.put o.dst v) w'):
  if Ye o (yielded g a.tmps)=UE then Yd P o a w K Q else E:=by
 have k:Ye o (yielded g a.tmps)=UE:=by simp[Ye,i]
 rw[Uz k];unfold Yd;have D:(execOp a.eval o).run P w=.ok (.enter f args) w:=by simp[execOp,p,resolve,invoke,Yf,Deferred.ofValue,x,q]
 rw[D,Oper.upon_enter];refine u.mono ?_;intro e w' z;obtain⟨v,rfl,C⟩:=h e w' z;exact C
structure RB(w:UF)(B:M)(aM:M->Uu bO)(R Q:M)(n:N)(vG vE:UG)(G E:J N):Prop where
 r:w.heap[R]?=U (UX (tF n vG vE) 74 (0,0))
 q:w.heap[Q]?=U (UX (tF 0 () ()) 74 (0,0))
 rc:aM R=UB
 qc:aM Q=UB
 rb:B<=R
 qb:B<=Q
 rq:R≠Q
 g:eO w B aM vG G
 e:eO w B aM vE E
 ge:∀ b,vG.ownBlock=U b->vE.ownBlock≠U b/\b≠R/\b≠Q
 er:∀ b,vE.ownBlock=U b->b≠R/\b≠Q
theorem uW{b:M}{o:Obj}(h:w.heap[b]?=U o):b<w:=Uo
theorem RB.step{S:bO->Prop}(h:RB w B aM R Q n vG vE G E)(st:Step S B' aM col' w w')(f:w<=B'):RB w' B col' R Q n vG vE G E:=by have i:=uW h.r;have j:=uW h.q;exact⟨(st.cS i h.rc O).trans h.r,(st.cS j h.qc O).trans h.q,st.dY h.rc O,st.dY h.qc O,h.rb,h.qb,h.rq,h.g.step st f,h.e.step st f,h.ge,h.er⟩
theorem RB.later(h:RB w B aM R Q n vG vE G E)(k:UH w w w'):RB w' B aM R Q n vG vE G E:=h.step (Step.below (S:=anyS) (B:=w) k) aJ
theorem RB.cells(h:RB w B aM R Q n vG vE G E):w.cell? (R,5)=U vG/\w.cell? (R,6)=U vE/\∀ o,w.frozen? ⟨R,o,UB⟩=UD:=by refine⟨?_,?_,fun o=>?_⟩;simp[Vk,h.r,tF];simp[Vk,h.r,tF];exact frozen_of_row w R o _ _ h.r
theorem RB.xq{H:J N}(h:RB w B aM R Q n vG vE G E)(F:eO w1 B aM v H)(L:w.grownBy w1 vE.ownBlock)(u:v.ownBlock=vE.ownBlock\/v.ownBlock=U w.heap.size):RB (w1.setCell (R,6) v) B aM R Q n vG v G H/\aH (R :: vE.ownBlock.toList) w (w1.setCell (R,6) v)/\w1.cell? (R,6)=U vE/\w1.frozen? (R,6)=UD:=by
 have o:=uW h.r;have p:=uW h.q;have k:=aH.grown (aH.refl _ w) L (fun k K=>.inl (Wn.2 K));have x:R ∉ vE.ownBlock.toList:=fun e=>(h.er R (Wn.1 e)).1 rfl;have z:Q ∉ vE.ownBlock.toList:=fun e=>(h.er Q (Wn.1 e)).2 rfl;have i:=(k.block R o x).trans h.r;have I:=(k.block Q p z).trans h.q;have j:∀ b,v.ownBlock=U b->b≠R/\b≠Q:=fun b f=>by grind
 have C:∀ b,vG.ownBlock=U b->b ∉ vE.ownBlock.toList:=fun b f e=>(h.ge b f).1 (Wn.1 e);refine⟨⟨?_,?_,h.rc,h.qc,h.rb,h.qb,h.rq,⟨?_,h.g.no⟩,⟨?_,F.no⟩,fun b f=>⟨fun e=>?_,(h.ge b f).2⟩,j⟩,?_,?_,?_⟩
 .have:=heap_setCell_same w1 R 6 _ _ v i;rw[this];simp[tF]
 .exact (heap_setCell_other w1 (R,6) Q v (bZ h.rq.symm)).trans I
 .exact dL (dL h.g.own k C) (aH.bM R _ 6 _) (fun b f=>by simpa using (h.ge b f).2.1)
 .exact dL F.own (aH.bM R _ 6 _) (fun b f=>by grind)
 .rcases u with D|D
  .exact (h.ge b f).1 Uo
  .have P:=(h.g.own.lt b f).2;rw[e] at D;cases D;omega
 .exact (k.mono Uo).setCell (.inl Ui) _ _
 .simp[Vk,i,tF]
 .exact frozen_of_row w1 R 6 _ _ i
theorem RB.xp{F:J N}(h:RB w B aM R Q n vG vE G E)(D:eO w1 B aM v F)(K:w.grownBy w1 vG.ownBlock)(p:v.ownBlock=vG.ownBlock\/v.ownBlock=U w.heap.size):RB (w1.setCell (R,5) v) B aM R Q n v vE F E/\aH (R :: vG.ownBlock.toList) w (w1.setCell (R,5) v)/\w1.cell? (R,5)=U vG/\w1.frozen? (R,5)=UD:=by
 have j:=uW h.r;have o:=uW h.q;have k:=aH.grown (aH.refl _ w) K (fun k I=>.inl (Wn.2 I));have u:R ∉ vG.ownBlock.toList:=fun e=>(h.ge R (Wn.1 e)).2.1 rfl;have x:Q ∉ vG.ownBlock.toList:=fun e=>(h.ge Q (Wn.1 e)).2.2 rfl;have g:=(k.block R j u).trans h.r;have H:=(k.block Q o x).trans h.q;have i:∀ b,v.ownBlock=U b->b≠R/\b≠Q:=fun b f=>by grind
 have z:∀ b,vE.ownBlock=U b->b ∉ vG.ownBlock.toList:=fun b f e=>(h.ge b (Wn.1 e)).1 f;refine⟨⟨?_,?_,h.rc,h.qc,h.rb,h.qb,h.rq,⟨?_,D.no⟩,⟨?_,h.e.no⟩,fun b f=>⟨fun e=>?_,i b f⟩,h.er⟩,?_,?_,?_⟩
 .have:=heap_setCell_same w1 R 5 _ _ v g;rw[this];simp[tF]
 .exact (heap_setCell_other w1 (R,5) Q v (bZ h.rq.symm)).trans H
 .exact dL D.own (aH.bM R _ 5 _) (fun b f=>by grind)
 .exact dL (dL h.e.own k z) (aH.bM R _ 5 _) (fun b f=>by simpa using (h.er b f).1)
 .rcases p with C|C
  .exact (h.ge b Uo).1 e
  .have L:=(h.e.own.lt b e).2;rw[f] at C;cases C;omega
 .exact (k.mono Uo).setCell (.inl Ui) _ _
 .simp[Vk,g,tF]
 .exact frozen_of_row w1 R 5 _ _ g
open aA (aQ St eD kept fc ek ec jw dB dI jC eS jr cA Inv)
structure TD(w wx:UF)(d:M)(s:St)(aM:M->Uu bO)(R Q:M)(tq:N)(esc:J aQ)(G E:J N)(vG vE:UG):Prop where ex:∃ rk ck,DK wx d rk ck/\Of { s with es:=esc } rk/\Wl rk/\Hl rk/\Step anyS w aM ck w wx/\RB wx w ck R Q tq vG vE G E
structure TK(s:St)(tq:N)(esc:J aQ)(nowc:N)(G E:J N)(K:M):Prop where
 inv:Inv ⟨s.ts,esc,s.given,nowc⟩
 n1:s.now<=nowc
 n2:nowc<=tq
 len:esc.length<=K
 iC:E.length+esc.length<=s.es.length
 gl:G.length<=60*E.length
 tk:aA.gd s.ts (s.es.length+1) s.es s.now tq=((aA.gd s.ts (K+1) esc nowc tq).1,E++(aA.gd s.ts (K+1) esc nowc tq).2.1,G++(aA.gd s.ts (K+1) esc nowc tq).2.2)
theorem TK.bA{K:M}(h:TK s tq esc nowc G E K)(f:0<=s.now):eS { s with es:=esc }:=(h.inv.bA).oh f h.n1
theorem TK.stop{K:M}(h:TK s tq esc nowc G E K)(f:∀ e∈esc,e.kind≠1->tq<e.bY):aA.gd s.ts (s.es.length+1) s.es s.now tq=(esc,E,G):=by rw[h.tk,aA.b9g h.inv f];simp
theorem TK.next{K:M}(h:TK s tq esc nowc G E K)(q:tq<=1048320)(ht:t<=tq)(j:∃ e∈esc,e.kind≠1/\e.bY=t)(i:∀ e∈esc,e.kind≠1->t<=e.bY):∃ K',TK s tq (aA.dS s.ts (esc.filter fun e=>!cA t e)).1 t (G++(aA.dS s.ts (esc.filter fun e=>!cA t e)).2) (E++(esc.filter (cA t)).map fun e=>e.id) K'/\eS ⟨s.ts,esc.filter (fun e=>!cA t e),s.given,t⟩/\nowc<t:=by
 let⟨e0,he0,hk0,ht0⟩:=j;have f:nowc<t:=by
  rcases (h.inv.en e0 he0).kd with e|e
  .exact UA e.1 hk0
  .have:=e.2.1;simp only at this;omega
 let⟨i1,i2⟩:=aA.JE h.inv f O i;have g:(esc.filter (cA t)).length+(esc.filter fun e=>!cA t e).length=esc.length:=by
  have:∀ l:J aQ,(l.filter (cA t)).length+(l.filter fun e=>!cA t e).length=l.length:=by
   intro l;induction l with
   |nil=>rfl
   |cons x l ih=>simp only[List.filter_cons];cases cA t x <;> simp <;> omega
  exact this esc
 have k:0<(esc.filter (cA t)).length:=Yg.2 (fun e=>by have:e0∈esc.filter (cA t):=Xb.2 ⟨he0,by unfold cA;rw[Wu,decide_eq_true_iff];exact⟨by simpa using hk0,ht0⟩⟩;rw[e] at this;simp at this)
 have o:=h.len;have p:=h.iC;have u:=h.gl;obtain⟨K',rfl⟩:∃ K',K=K'+1:=⟨K-1,O⟩;have z:=aA.yD s.ts (esc.filter fun e=>!cA t e);have C:(aA.dS s.ts (esc.filter fun e=>!cA t e)).2.length<=60:=by have F:=aA.Bj s.ts (esc.filter fun e=>!cA t e) i2.ids;rw[F];have j:=yS s.ts ((esc.filter fun e=>!cA t e).filter aA.gj) (esc.filter fun e=>!cA t e,[]);have i:=Wj aA.gj (esc.filter fun e=>!cA t e);have D:=kS i2;simp only[VG] at j D;omega
 refine⟨K',⟨i1,by have:=h.n1;omega,ht,O,?_,?_,?_⟩,i2,f⟩
 .rw[VA,We];omega
 .rw[VA,VA,We];omega
 .rw[h.tk,aA.b9h f ht ⟨e0,he0,hk0,ht0⟩ i];simp only[List.append_assoc]
theorem TD.ended(k:Step anyS w aM ck w wx)(z:RB wx w ck R Q tq vG vE G E)(p:A4 wx d { s with es:=esc } ck t v2 w4)(o:E.length+esc.length<=1000):∃ a n cap j,(∀ q,(Yc #[53,53] q #[vE,v2]).run prog w4=.ok (UO a n cap) j)/\j.cell? (R,6)=U vE/\j.frozen? (R,6)=UD/\w4.cell? (R,6)=U vE/\TD w (j.setCell (R,6) (UO a n cap)) d s aM R Q tq (esc.filter fun e=>!cA t e) G (E++(esc.filter (cA t)).map fun e=>e.id) vG (UO a n cap):=by
 let⟨r4,c4,q1,q2,q3,q4,q5,q6⟩:=p;have f:=z.step q5 aJ;have i:=k.size;have C:=Wj (cA t) esc;let⟨v3,j,a1,a2,a3,a4⟩:=f.e.append (q6.base i) (U0 i q5.size) (fun b o=>q1.none o) Uo;obtain⟨a,cap,rfl⟩:=a2.slice;let⟨b1,b2,b3,b4⟩:=f.xq a2 a3 a4;refine⟨a,_,cap,j,a1,b3,b4,f.cells.2.1,r4,c4,?_,q2,q3,q4,?_,b1⟩
 .refine q1.off b2 (fun x g=>?_);rcases Va.1 g with rfl|g
  .exact f.rc
  .exact f.e.no x (Wn.1 g)
 .have u:=k.trans (q5.any i);refine u.trans ⟨⟨_,b2,fun x g=>.inr ?_⟩,fun _ _ h=>h,fun _ _ h=>.inl h⟩;rcases Va.1 g with rfl|g
  .exact⟨f.rc,f.rb⟩
  .exact⟨f.e.no x (Wn.1 g),(f.e.own.lt x (Wn.1 g)).1⟩
theorem TD.granted(q:Step anyS w aM ck w wx)(C:RB wx w ck R Q tq vG vE G E)(p:yQ wx d { s with es:=esc } ck v2 w4)(o:G.length+(aA.dS s.ts esc).2.length<=100000):∃ a n cap k,(∀ u,(Yc #[53,53] u #[vG,v2]).run prog w4=.ok (UO a n cap) k)/\k.cell? (R,5)=U vG/\k.frozen? (R,5)=UD/\w4.cell? (R,5)=U vG/\TD w (k.setCell (R,5) (UO a n cap)) d s aM R Q tq (aA.dS s.ts esc).1 (G++(aA.dS s.ts esc).2) E (UO a n cap) vE:=by
 let⟨r4,c4,q1,q2,q3,q4,q5,q6⟩:=p;have f:=C.step q5 aJ;have j:=q.size;let⟨v3,k,a1,a2,a3,a4⟩:=f.g.append (q6.base j) (U0 j q5.size) (fun b o=>q1.none o) o;obtain⟨a,cap,rfl⟩:=a2.slice;let⟨b1,b2,b3,b4⟩:=f.xp a2 a3 a4;refine⟨a,_,cap,k,a1,b3,b4,f.cells.1,r4,c4,?_,q2,q3,q4,?_,b1⟩
 .refine q1.off b2 (fun x i=>?_);rcases Va.1 i with rfl|i
  .exact f.rc
  .exact f.g.no x (Wn.1 i)
 .have z:=q.trans (q5.any j);refine z.trans ⟨⟨_,b2,fun x i=>.inr ?_⟩,fun _ _ h=>h,fun _ _ h=>.inl h⟩;rcases Va.1 i with rfl|i
  .exact⟨f.rc,f.rb⟩
  .exact⟨f.g.no x (Wn.1 i),(f.g.own.lt x (Wn.1 i)).1⟩
theorem ly(f:N)(w:UF):UI prog 146 #[f] w fun e w'=>e=UW (bT f 0 0 () () () ())/\UH w w w':=by
 go_in;have g:Hid (UH w w (w.alloc (UX #[f,V Y 0,V Y 0,(),(),(),()] 74))):=aS;go_wp21;exact bodyPost_ret (v:=bT f 0 0 () () () ()) (by simp[results,results146,go_sem,bT]) rfl ⟨rfl,g⟩
theorem b8J(h:DK w d r aM)(k:Hl r):
  UI prog 160 #[UM (U ⟨d,5,UB⟩)] w fun e w'=>w'=w /\((e=UW (US #[V Y 0,UD])/\∀ g∈r.eg,g.e.kind=1)\/∃ g∈r.eg,g.e.kind≠1/\e=UW (US #[g.e.bY,UE])/\∀ x∈r.eg,x.e.kind≠1->g.e.bY<=x.e.bY):=by
 let⟨v,a1,a2⟩:=h.he;refine aY (Mh d 5 v r.hl w a1) ?_;refine⟨rfl,?_⟩;by_cases q:r.hl.length=0
 .refine .inl ⟨by simp[Aq,vR,q],fun g p=>?_⟩
  by_cases j:g.e.kind=1
  .exact j
  .have:=k.has p j;rw[VF.1 q] at this;simp at this
 .have f:0<r.hl.length:=O
  let⟨g,p,j,e⟩:=k.at (x:=Hp.at_ r.hl 0) (by rw[Hp.pQ f];exact zg f);refine .inr ⟨g,p,j,by rw[Ey f,Ex f,e];rfl,fun x u o=>?_⟩;let⟨i,hi,e2⟩:=Xs (k.has u o);have:=Hp.D9 k.1 i hi;rw[Hp.pQ hi,e2,e] at this;unfold Hp.ahead jW at this;simp only at this;omega
structure R7(Z:UF)(R Q:M)(n:N)(vG vE:UG):Prop where
 r0:Z.cell? (R,0)=U (V Y 0)
 r1:Z.cell? (R,1)=U (V Y 0)
 r2:Z.cell? (R,2)=U ↑n
 r3:Z.cell? (R,3)=U ↑()
 r4:Z.cell? (R,4)=U ↑()
 r5:Z.cell? (R,5)=U vG
 r6:Z.cell? (R,6)=U vE
 q0:Z.cell? (Q,0)=U (V Y 0)
 q1:Z.cell? (Q,1)=U (V Y 0)
 q2:Z.cell? (Q,2)=U (V Y 0)
 q3:Z.cell? (Q,3)=U ↑()
 q4:Z.cell? (Q,4)=U ↑()
 q5:Z.cell? (Q,5)=U ↑()
 q6:Z.cell? (Q,6)=U ↑()
 fq:∀ o,Z.frozen? ⟨Q,o,UB⟩=UD
theorem RB.r7(h:RB w B aM R Q n vG vE G E):R7 w R Q n vG vE:=by
 refine⟨?_,?_,?_,?_,?_,?_,?_,?_,?_,?_,?_,?_,?_,?_,fun o=>frozen_of_row _ Q o _ _ h.q⟩;all_goals first
  |(simp only[Vk,h.r];rfl)
  |(simp only[Vk,h.q];rfl)
def yz(w:UF)(d:M)(s:St)(aM:M->Uu bO)(n:N)(v:UG)(w':UF):Prop :=∃ (f:Raw) (col':M->Uu bO) (vG vE:UG),v=bT 0 0 (s.now+n) () () vG vE/\DK w' d f col'/\Of (aA.aX s (.tick n)).1 f/\Wl f/\Hl f/\Step anyS w aM col' w w'/\eO w' w col' vG (aA.aX s (.tick n)).2.granted/\eO w' w col' vE (aA.aX s (.tick n)).2.ended/\(∀ b,vG.ownBlock=U b->vE.ownBlock≠U b)
theorem KM{wr:UF}{i:Raw}(j:s.now+n=tq)(o:Step anyS w aM ck w wr)(p:Of { s with es:=esc } i)(D:Wl i)(H:Hl i)(z:DK (wr.setCell (d,0) tq) d { i with now:=tq } ck)(u:Step (·=.desk) wr ck ck wr (wr.setCell (d,0) tq))(f:RB (wr.setCell (d,0) tq) w ck R Q tq vG vE G E)(ht:aA.gd s.ts (s.es.length+1) s.es s.now tq=(esc,E,G))(F:s.now+n<=1048320):yz w d s aM n (bT 0 0 tq () () vG vE) (dE (wr.setCell (d,0) tq) Q (V Y 0) (V Y 0) tq () () vG vE):=by
 have k:=mY (wr.setCell (d,0) tq) Q (V Y 0) (V Y 0) tq () () vG vE;have I:aA.aX s (.tick n)=({ s with es:=esc,now:=tq },{ aA.bS.num tq with granted:=G,ended:=E }):=by subst j;show (if 1048320<s.now+n then _ else _)=_;rw[Uy O,ht]
 rw[yz,I];refine⟨{ i with now:=tq },ck,vG,vE,by rw[j],z.off k (fun x C=>?_),⟨rfl,p.given,p.ts,p.es,p.th,p.tb⟩,D,H,?_,⟨?_,f.g.no⟩,⟨?_,f.e.no⟩,fun b q=>(f.ge b q).1⟩
 .have:x=Q:=X9.1 C;subst this;exact f.qc
 .refine (o.trans (u.any o.size)).trans ⟨⟨_,k,fun x C=>.inr ?_⟩,fun _ _ h=>h,fun _ _ h=>.inl h⟩;have:x=Q:=X9.1 C;subst this;exact⟨f.qc,f.qb⟩
 .exact dL f.g.own k (fun b q=>by simpa using (f.ge b q).2.2)
 .exact dL f.e.own k (fun b q=>by simpa using (f.er b q).2)
theorem c3o(f:Array UG)(w:UF):(callFunc 161 f).run prog w=.ok (.enter 161 f) w:=Um
theorem Kk(f:Array UG)(w:UF):(callFunc 63 f).run prog w=.ok (.enter 63 f) w:=Um
theorem c1Z(h:DK w d r aM)(ho:Of s r)(hw:Wl r)(hh:Hl r)(hm:Inv s)(n:N)(hn:1<=n/\n<=1048320)(T:s.now+n<=1048320):UI prog 111 #[d,.agg #[n]] w fun e w'=>∃ v,e=UW v/\yz w d s aM n v w':=by
 have hX:UH w w ((w.alloc (UX #[n] 175)).alloc (UX #[V UV 0,V UV 0,V UV 0,(),(),(),()] 74)):=aS.alloc Ui _;have F:=h.later hX;have c0:=F.c0;rw[ho.now] at c0;have xn:((w.alloc (UX #[n] 175)).alloc (UX #[V UV 0,V UV 0,V UV 0,(),(),(),()] 74)).cell? (w,0)=U ↑n:=Ui;have xr:((w.alloc (UX #[n] 175)).alloc (UX #[V UV 0,V UV 0,V UV 0,(),(),(),()] 74)).heap[w.heap.size+1]?=U (UX #[V UV 0,V UV 0,V UV 0,(),(),(),()] 74):=by have:=dH (w.alloc (UX #[n] 175)) (UX #[V UV 0,V UV 0,V UV 0,(),(),(),()] 74);rwa [World.size_alloc] at this
 have aw:¬ (1048320<s.now+n):=O;have h0:=hm.n0;have S:IntKind.i64.wrap (s.now+n)=s.now+n:=dJ O O;have HX:=aB (Vf hX (Vf F (Vf xr (Vf ho (Vf hw (Vf hh hm))))));have ak:∀ b,w.heap.size<=b->aM b=UB:=fun b I=>h.none I;have ad:=aB ak;clear h ho hw hh hm hX F xr ak;go_in;go_upto_region 1 with fail;generalize ((w.alloc (UX #[n] 175)).alloc (UX #[V UV 0,V UV 0,V UV 0,(),(),(),()] 74))=X at HX c0 xn ⊢;go_big_region;clear c0 xn;have T0:Hid (TD w (X.alloc (UX #[V UV 0,V UV 0,V UV (s.now+n),(),(),(),()] 74)).drew d s aM X (w.heap.size+1) (s.now+n) s.es [] [] () ()):=by obtain⟨hX,F,xr,ho,hw,hh,hm⟩:=HX.out;have I:UH X.heap.size X (X.alloc (UX #[V UV 0,V UV 0,V UV (s.now+n),(),(),(),()] 74)).drew:=aS.drew;have ao:=uW xr;refine⟨r,aM,F.later I,ho,hw,hh,(Step.below hX).trans (Step.below I),⟨dH X _,(I.block _ ao).trans xr,ad.out _ hX.size,ad.out _ O,hX.size,O,O,eO.nil _ _ _,eO.nil _ _ _,fun b I=>(by cases I),fun b I=>(by cases I)⟩⟩
 have K0:Hid (TK s (s.now+n) s.es s.now [] [] s.es.length):=⟨HX.2.2.2.2.2.2,Int.le_refl _,O,UY _,by simp,by simp,by simp⟩;clear HX ad;go_wp21;generalize (X.alloc (UX #[V UV 0,V UV 0,V UV (s.now+n),(),(),(),()] 74)).drew=Y at T0 ⊢;generalize X.heap.size=R at T0 ⊢;generalize w.heap.size+1=Q at T0 ⊢;generalize ae:s.now+n=tq at *;have av:=aB ae;clear ae S;go_loopw [7,8] (fun _ _ wx=>∃ (esc:J aQ) (nowc:N) (G E:J N) (K:M) (vG vE:UG),TD w wx d s aM R Q tq esc G E vG vE/\TK s tq esc nowc G E K) (fun _ _ wx=>s.es.length-lenOf ((wx.cell? (R,6)).getD undef))
 .exact⟨s.es,s.now,[],[],s.es.length,_,_,T0,K0⟩
 .obtain⟨esc,nowc,G,E,K,vG,vE,⟨rk,ck,D,ax,W,HH,ST,u⟩,k⟩:=hrel;have FI:=aB (b8J D HH);have i:=aB (Vf D (Vf ax (Vf W (Vf HH (Vf ST (Vf u k))))));clear D ax W HH ST u k
  go_wp21;refine FI.mono ?_;rintro e w1 ⟨S,f⟩;subst S;have z:=av.out;rcases f with ⟨rfl,f⟩|⟨g,hg,aa,rfl,f⟩
  .have D:=i.1
   have H:∀ e∈esc,e.kind≠1->tq<e.bY:=by intro e he hk;obtain⟨x,F,rfl⟩:=i.2.1.get he;exact UA (f x F) hk
   have cd:=D.c0;have fd:=D.fz 0;obtain⟨C,q⟩:=D.pV tq;have j:=i.2.2.2.2.2.1.step q aJ;have HF:=aB (KM z (i.2.2.2.2.1) i.2.1 i.2.2.1 i.2.2.2.1 C q j (i.2.2.2.2.2.2.stop H) (by rw[z];exact T));obtain⟨r0,r1,r2,r3,r4,r5,r6,q0,q1,q2,q3,q4,q5,q6,fq⟩:=j.r7;obtain⟨aG,cG,eG⟩:=j.g.slice;obtain⟨aE,cE,eE⟩:=j.e.slice;subst eG;subst eE;clear D C q j H f i FI;go_wp21;exact cV results111 ⟨q0,q1,q2,q3,q4,q5,q6,fq⟩ ⟨_,rfl,HF⟩
  .by_cases ht:tq<g.e.bY
   .have D:=i.1
    have H:∀ e∈esc,e.kind≠1->tq<e.bY:=by intro e he hk;obtain⟨x,F,rfl⟩:=i.2.1.get he;have:=f x F hk;omega
    have cd:=D.c0;have fd:=D.fz 0;obtain⟨C,q⟩:=D.pV tq;have j:=i.2.2.2.2.2.1.step q aJ;have HF:=aB (KM z (i.2.2.2.2.1) i.2.1 i.2.2.1 i.2.2.2.1 C q j (i.2.2.2.2.2.2.stop H) (by rw[z];exact T));obtain⟨r0,r1,r2,r3,r4,r5,r6,q0,q1,q2,q3,q4,q5,q6,fq⟩:=j.r7;obtain⟨aG,cG,eG⟩:=j.g.slice;obtain⟨aE,cE,eE⟩:=j.e.slice;subst eG;subst eE;clear D C q j H f i FI;go_wp21;exact cV results111 ⟨q0,q1,q2,q3,q4,q5,q6,fq⟩ ⟨_,rfl,HF⟩
   .have D:=i.1;have k:=i.2.2.2.2.2.2;have P:=k.bA h0
    have ab:∀ e∈esc,e.kind≠1->g.e.bY<=e.bY:=fun e he hk=>by obtain⟨x,F,rfl⟩:=i.2.1.get he;exact f x F hk
    obtain⟨K',k',m',ag⟩:=k.next T O ⟨g.e,i.2.1.mem hg,aa,rfl⟩ ab;have ai:=k.iC;have ar:s.es.length<=60:=kS (K0.bA h0);have al:E.length+esc.length<=1000:=O;have ST:=i.2.2.2.2.1;have u:=i.2.2.2.2.2.1;have EB:=aB (c0U (D.later (eN w1)) i.2.1 i.2.2.1 i.2.2.2.1 P g.e.bY ab);have AP:=aB (fun v2 w4 (p:A4 w1.drew d { s with es:=esc } ck g.e.bY v2 w4)=>TD.ended (ST.trans (Step.below (eN w1))) (u.later (eN w1)) p al);have cE:=u.cells.2.1;have lE:lenOf vE=E.length:=u.e.len;have af:0<(esc.filter (cA g.e.bY)).length:=Yg.2 (fun e=>by have:g.e∈esc.filter (cA g.e.bY):=Xb.2 ⟨i.2.1.mem hg,by unfold cA;rw[Wu,decide_eq_true_iff];exact⟨by simpa using aa,rfl⟩⟩;rw[e] at this;simp at this)
    have KN:=aB (Vf k' (Vf (m'.oh h0 (by have h1:=k.n1;have h2:=ag;omega)) (Vf lE af)));have aq:G.length<=3600:=by have:=k.gl;omega
    clear D k P ab k' m' ai ST u i FI f hg aa lE al ar af ag;go_upto_region 7 with fail;go_cut [40] from 35 to 41 (fun _ wx=>∃ vE',TD w wx d s aM R Q tq (esc.filter fun e=>!cA g.e.bY e) G (E++(esc.filter (cA g.e.bY)).map fun e=>e.id) vG vE')
    .go_region_law (first
      |(refine rH (by rfl) 161 _ _ (by rfl) _ (by simp[Yf,Yh]) (c3o _ _) EB ?_;rintro e w4 ⟨v2,rfl,p⟩;refine⟨_,rfl,?_⟩;obtain⟨a,nn,cap,w5,o,b6,f6,an,L⟩:=AP v2 w4 p;have HR:=aB o;clear o)
      |(refine Gj (by rfl) _ _ _ _ (by rfl) (HR _) ?_))
     all_goals go_wp21;go_meet;exact⟨_,L⟩
    .obtain⟨vE',T1⟩:=hcut;have au:wc.cell? (R,6)=U vE':=by obtain⟨_,_,_,_,_,_,_,hr⟩:=T1.ex;exact hr.cells.2.1
     obtain⟨r2,c2,D2,O2,W2,H2,S2,ac⟩:=T1.ex;have GR:=aB (KV (D2.later (eN wc)) O2 W2 H2 KN.2.1);have aj:G.length+(aA.dS s.ts (esc.filter fun e=>!cA g.e.bY e)).2.length<=100000:=by have h1:=yS s.ts ((esc.filter fun e=>!cA g.e.bY e).filter aA.gj) (esc.filter fun e=>!cA g.e.bY e,[]);have h2:=Wj aA.gj (esc.filter fun e=>!cA g.e.bY e);have h3:=kS KN.2.1;have e1:=aA.Bj s.ts (esc.filter fun e=>!cA g.e.bY e) KN.2.1.ids;simp only[VG] at h1 h3;rw[<- e1] at h1;omega
     have AG:=aB (fun v2 w4 (p:yQ wc.drew d { s with es:=esc.filter fun e=>!cA g.e.bY e } c2 v2 w4)=>TD.granted (S2.trans (Step.below (eN wc))) (ac.later (eN wc)) p aj);have cG:=ac.cells.1;have CE:=aB cE;clear D2 O2 W2 H2 S2 ac T1 EB AP aj cE aq;go_upto_region 8 with fail;go_region_law (first
      |(refine rH (by rfl) 63 _ _ (by rfl) _ (by simp[Yf,Yh]) (Kk _ _) GR ?_;rintro e w4 ⟨v2,rfl,p⟩;refine⟨_,rfl,?_⟩;obtain⟨a,nn,cap,w5,o,b6,f6,an,L⟩:=AG v2 w4 p;have HR:=aB o;clear o)
      |(refine Gj (by rfl) _ _ _ _ (by rfl) (HR _) ?_))
     all_goals
      have TN:=aB L;clear L p b6 f6 an GR AG HR cG au;go_wp21;go_roundw
      .exact⟨_,_,_,_,_,_,_,TN,KN.1⟩
      .obtain⟨_,_,_,_,_,_,_,hr⟩:=TN.ex;have e1:=hr.cells.2.1;have e2:=hr.e.len;have h1:=KN.1.iC;have h2:=KN.2.2.2;have h3:=KN.2.2.1;rw[VA,We] at e2 h1;rw[e1,CE];simp only[Option.getD_some];omega
theorem LK(f:Of s r)(k:s.ts.Pairwise fun t u=>dI t.1 u.1=UD){b:M}(h:mh r.tg name=U b):∃ (i:M)(hi:i<r.tg.length),r.tg[i].name=name/\r.tg[i].tb=b/\aA.cI name s.ts=r.tg[i].aN:=by
 rw[vq] at h
 cases e:r.tg.find? fun t=>dI t.name name with
 |none=>rw[e] at h;cases h
 |some t =>rw[e] at h;obtain⟨i,hi,rfl⟩:=Xs (XM e);have g:=vk.1 (by simpa using XN e);refine⟨i,hi,g,by grind,?_⟩;have j:=FE k (i:=i) (by rw[<- f.len];exact hi);rw[f.mE hi] at j;rw[<- g];exact j
theorem LJ(i:Of s r)(h:mh r.tg name=UB):aA.cI name s.ts=0:=by
 refine ze (fun t ht e=>?_);rw[<- i.ts] at ht;obtain⟨x,g,rfl⟩:=VQ.1 ht;rw[vq] at h
 cases f:r.tg.find? fun t=>dI t.name name with
 |none =>have:=XL.1 f x g;exact this (vk.2 e)
 |some y=>rw[f] at h;cases h
def tQ(s:St)(r:Raw)(name:Us)(f:N)(e:Ending):Prop :=(f≠0/\e=UW (US #[UM UB,f]))\/(f=0/\∃ (i:M) (hi:i<r.tg.length),r.tg[i].name=name/\aA.cI name s.ts=r.tg[i].aN/\e=UW (US #[UM (U ⟨r.tg[i].tb,0,UB⟩),V Y 0]))
theorem TV(w:UF):(zeroValue 195).run prog w=.ok (UM UB) w:=by simp[go_sem]
theorem Mi(h:DK w d r aM)(p:Of s r)(x:eS s)(name:Us)(H:name.size<=1000)(u:N):UI prog 151 #[d,name,u] w fun e w'=>tQ s r name (aA.eW s.ts name u) e/\w'=w:=by
 let⟨m,f,a1,a2,a3,a4⟩:=h.mt;have F:=Ea H;have g:=a3.look DE underlying86 (TV w) F;rw[a4 name] at g
 cases ht:mh r.tg name with
 |none =>
  rw[ht] at g;have D:=LJ p ht;have o:aA.eW s.ts name u=3:=by unfold aA.eW;rw[Uz D]
  have k:(Yi 86 (.map (U m)) name UD).run prog w=.ok (UM UB) w:=g;have z:Hid (tQ s r name (aA.eW s.ts name u) (UW (US #[UM UB,V Y 3]))):=.inl ⟨by rw[o];omega,by rw[o]⟩;clear g o D ht a3 a4 h p x;go_in;go_wp21;go_ret2;exact⟨z,rfl⟩
 |some b =>
  rw[ht] at g;let⟨i,hi,o,e2,e3⟩:=LK p x.tn ht;let⟨ul,us,Fl,Fs,t1,t2⟩:=h.th i hi;have I:=t1.c1;rw[e2] at I;have j:aA.cI name s.ts≠0:=by
   rw[e3];have C:(r.tg[i].name,r.tg[i].aN)∈s.ts:=by rw[<- p.mE hi];exact zg _
   have:=(x.tu _ C).1;simp only at this;omega
  have k:(Yi 86 (.map (U m)) name UD).run prog w=.ok b w:=g;by_cases K:r.tg[i].aN<u
  .have q:aA.eW s.ts name u=7:=by unfold aA.eW;rw[Uy j,Uz O]
   have z:Hid (tQ s r name (aA.eW s.ts name u) (UW (US #[UM UB,V Y 7]))):=.inl ⟨by rw[q];omega,by rw[q]⟩;clear g ht a3 a4 h p x o e2 e3 t1 t2 j q;generalize r.tg[i].aN=un at *;go_in;go_wp21;go_ret2;exact⟨z,rfl⟩
  .have q:aA.eW s.ts name u=0:=by unfold aA.eW;rw[Uy j,Uy O]
   have z:Hid (tQ s r name (aA.eW s.ts name u) (UW (US #[b,V Y 0]))):=.inr ⟨q,i,hi,o,e3,by rw[e2]⟩;clear g ht a3 a4 h p x o e2 e3 t1 t2 j q;generalize r.tg[i].aN=un at *;go_in;go_wp21;go_ret2;exact⟨z,rfl⟩
def gH(s:St)(name:Us)(u fr til:N):N:=if aA.eW s.ts name u≠0 then aA.eW s.ts name u else if til<=fr then 6 else 0
theorem wM(h:DK w d r aM)(x:Of s r)(z:eS s)(name:Us)(I:name.size<=1000)(u fr til:N):UI prog 148 #[d,name,u,.agg #[fr,til]] w fun e w'=>tQ s r name (gH s name u fr til) e/\UH w w w':=by
 have k:UH w w (w.alloc (UX #[fr,til] 83)):=aS;have F:=aB (Mi (h.later k) x z name I u);have D:=aB k;clear h x z k;go_in;go_wp21;refine F.mono ?_;rintro e w1 ⟨H,f⟩;have q:=aB (show UH w w w1 by rw[f];exact D);have L:w1.cell? (w,0)=U ↑fr:=by rw[f];simp
 have K:w1.cell? (w,1)=U ↑til:=by rw[f];simp
 clear f F D;rcases H with ⟨g,rfl⟩|⟨g,i,hi,p,o,rfl⟩
 .have j:Hid (tQ s r name (gH s name u fr til) (UW (US #[UM UB,V Y (aA.eW s.ts name u)]))):=by
   have:gH s name u fr til=aA.eW s.ts name u:=by unfold gH;rw[Uz g]
   rw[this];exact .inl ⟨g,rfl⟩
  generalize aA.eW s.ts name u=e0 at *;have P:(e0 != 0)=UE:=bZ g;go_wp21;go_ret2;exact⟨j,q⟩
 .by_cases C:til<=fr
  .have j:Hid (tQ s r name (gH s name u fr til) (UW (US #[UM UB,V Y 6]))):=by
    have:gH s name u fr til=6:=by unfold gH;rw[Uy O,Uz C]
    rw[this];exact .inl ⟨O,rfl⟩
   clear g p o;go_wp21;go_ret2;exact⟨j,q⟩
  .have j:Hid (tQ s r name (gH s name u fr til) (UW (US #[UM (U ⟨r.tg[i].tb,0,UB⟩),V Y 0]))):=by
    have:gH s name u fr til=0:=by unfold gH;rw[Uy O,Uy C]
    rw[this];exact .inr ⟨rfl,i,hi,p,o,rfl⟩
   clear g p o;go_wp21;go_ret2;exact⟨j,q⟩
def ia(p:N × N):J UG:=[V Y p.1,V Y p.2]
def gv(p:aQ × UG):J UG:=[p.1.id,p.1.kind,p.1.bH,p.1.aN,p.2,p.1.bY]
structure tN(w:UF)(B:M)(aM:M->Uu bO)(v:UG)(L:J (N × N)):Prop where
 own:w.ownsRow B 83 2 v L.length (L.flatMap ia)
 no:∀ b,v.ownBlock=U b->aM b=UB
structure iw(w:UF)(B:M)(aM:M->Uu bO)(v:UG)(l:J (aQ × UG)):Prop where
 own:w.ownsRow B 85 6 v l.length (l.flatMap gv)
 no:∀ b,v.ownBlock=U b->aM b=UB
 sp:∀ p∈l,tN w B aM p.2 p.1.aR/\∀ b,p.2.ownBlock=U b->v.ownBlock≠U b
 pw:l.Pairwise fun p q=>∀ b,p.2.ownBlock=U b->q.2.ownBlock≠U b
theorem iw.nil(w:UF)(B:M)(aM:M->Uu bO):iw w B aM () []:=⟨Wc _ _ _ _,(fun b f=>by cases f),Ui,Xt⟩
def mV(w:UF)(B:M)(aM:M->Uu bO)(v:UG)(p:aA.bS):Prop :=∃ (i g h f:UG) (l:J (aQ × UG)),v=bT p.err p.at_ p.n i g h f/\l.map (·.1)=p.entries/\iw w B aM i l/\eO w B aM g p.days/\eO w B aM h p.granted/\eO w B aM f p.ended/\(∀ b,h.ownBlock=U b->i.ownBlock≠U b/\g.ownBlock≠U b/\f.ownBlock≠U b/\∀ q∈l,q.2.ownBlock≠U b)/\∀ b,g.ownBlock=U b->f.ownBlock≠U b
theorem mV.plain(w:UF)(B:M)(aM:M->Uu bO)(e n:N):mV w B aM (bT e 0 n () () () ()) ⟨e,0,n,[],[],[],[]⟩ :=⟨_,_,_,_,[],rfl,rfl,iw.nil _ _ _,eO.nil _ _ _,eO.nil _ _ _,eO.nil _ _ _,(fun b f=>by cases f),fun b f=>by cases f⟩
def eu(w:UF)(d:M)(aM:M->Uu bO)(q:St × aA.bS)(v:UG)(w':UF):Prop :=∃ (f:Raw) (col':M->Uu bO),DK w' d f col'/\Of q.1 f/\Wl f/\Hl f/\Step anyS w aM col' w w'/\mV w' w col' v q.2
structure eH(w:UF)(d:M)(s:St)(r:Raw)(aM:M->Uu bO):Prop where
 dk:DK w d r aM
 of:Of s r
 wl:Wl r
 hl:Hl r
 inv:Inv s
theorem eH.bA(h:eH w d s r aM):eS s:=h.inv.bA
theorem Bi(f:Of s r){g:EG}(k:(r.eg.map (·.e.id)).Nodup)(i:g∈r.eg):aA.mW g.e.id s.es=U g.e:=by
 unfold aA.mW
 cases h:s.es.find? fun e=>decide (e.id=g.e.id) with
 |none =>have:=XL.1 h g.e (f.mem i);simp at this
 |some e =>have o:=XM h;have p:=XN h;obtain⟨x,j,rfl⟩:=f.get o;have:x=g:=qL _ k j i Uo;rw[this]
theorem MW(g:Of s r){id:N}(h:jc r.eg id=UB):aA.mW id s.es=UB:=by unfold aA.mW;refine XL.2 (fun e i=>?_);obtain⟨x,f,rfl⟩:=g.get i;simpa using J7 h x f
theorem wH{o:St}{j:Raw}(F:DK Z d j col')(D:Of o j)(C:Wl j)(z:Hl j)(u:Step anyS w aM col' w Z)(I:w<=Q)(H:col' Q=UB)(p n:N)(a b c e f g i:UG):eu w d aM (o,⟨p,0,n,[],[],[],[]⟩) (bT p 0 n () () () ()) (dE Z Q a b c e f g i):=by
 have k:=mY Z Q a b c e f g i;have st:Step anyS w col' col' Z (dE Z Q a b c e f g i):=⟨⟨_,k,fun x q=>.inr Uo⟩,fun _ _ h=>h,fun _ _ h=>.inl h⟩;exact⟨j,col',F.off k (fun x q=>by grind),D,C,z,u.trans st,mV.plain _ _ _ _ _⟩
theorem eH.said(h:eH w d s r aM)(k:UH w w Z)(o:w<=Q)(j n:N)(a b c e f g i:UG):eu w d aM (s,⟨j,0,n,[],[],[],[]⟩) (bT j 0 n () () () ()) (dE Z Q a b c e f g i) :=
 wH (h.dk.later k) h.of h.wl h.hl (Step.below k) o (h.dk.none o) j n a b c e f g i
theorem eH.refuse(h:eH w d s r aM)(j:UH w w w1)(i:Q7 w1 (w.heap.size+1))(g:UH w1 w1 w2){f:N}{l:aA.jb}(k:aA.aX s l=(s,aA.bS.error f)):Q7 w2 (w.heap.size+1)/\eu w d aM (aA.aX s l) (bT f 0 0 () () () ()) (dE w2 (w.heap.size+1) f (V Y 0) (V Y 0) () () () ()) :=
 ⟨i.later (g.block _ (U1 _ _ i.q0)),by rw[k];exact h.said (j.trans (g.mono j.size)) O f 0 _ _ _ _ _ _ _⟩
theorem b5s(h:eH w d s r aM)(id:N)(ae:0<=id/\id<=9999999):UI prog 104 #[d,.agg #[id]] w fun e w'=>∃ v,e=UW v/\eu w d aM (aA.aX s (.bL id)) v w':=by
 obtain⟨hX,ac,ab,_⟩:=qR w (UX #[id] 160);have xi:=bN ab 0 rfl;have p:=aB h;have D:=aB (Vf hX ac);clear h hX ac ab;go_in;go_upto_region 1 with fail;change Code.wp _ _ _ _ ((w.alloc (UX #[id] 160)).alloc bI);generalize (w.alloc (UX #[id] 160)).alloc bI=X at D xi ⊢;have q:=p.dk.later D.1;obtain⟨m,f,a1,a2,a3,a4⟩:=q.me;have kk:=yq (n:=id) O O;have i:=(a3.block (w':=X.drew) rfl).look yh underlying87 (Jy X.drew) kk;rw[a4 id] at i;have QX:Hid (Q7 X.drew (w.heap.size+1)):=Q7.of D.2;have BX:Hid (UH w w X.drew):=D.1.drew
 cases C:jc r.eg id with
 |none =>
  rw[C] at i;have j:(Yi 87 (.map (U m)) id UD).run prog X.drew=.ok (UM UB) X.drew:=i;have HD:Hid (aA.aX s (.bL id)=(s,aA.bS.error 9)):=by have e:=MW p.of C;simp only[Hid,aA.aX,e]
  clear i a3 a4 C q D;go_big_region;clear j xi a1;go_wp21;refine aK (ly 9 X.drew) fun w1 hb=>?_;have H:=aB (p.refuse BX QX hb HD);obtain⟨W,T,S,P,L,K,I,fq⟩:=H.1;simp only[bT];go_wp21;exact cV results104 ⟨W,T,S,P,L,K,I,fq⟩ ⟨_,rfl,H.2⟩
 |some b =>
  rw[C] at i;obtain⟨g,F,rfl,rfl⟩:=Et C;have j:(Yi 87 (.map (U m)) g.e.id UD).run prog X.drew=.ok g.eb X.drew:=i;have hf:=Bi p.of q.ni F;have ck:X.drew.cell? (g.eb,1)=U ↑g.e.kind:=(q.en g F).1.k;have hd:=q.later (eN X);by_cases z:g.e.kind=2
  .have HD:Hid (aA.aX s (.bL g.e.id)=({ s with es:=fc g.e.id s.es },aA.bS.num 0)):=by simp only[Hid,aA.aX,hf,z];simp
   have u:r.hl.length<=1000:=by
    have h1:=p.hl.len;have h2:r.eg.length=s.es.length:=by rw[<- p.of.es];simp
    have h3:=kS p.bA;omega
   have SE:=aB (LZ hd p.hl.1 u F ⟨_,p.hl.has F O,rfl,rfl⟩);have HG:=aB (Vf F z);have ad:(g.e.kind != 2)=UD:=by simpa using z
   have NI:=aB q.ni;clear i a3 a4 C q D hf z hd u F;go_big_region;clear j xi a1;go_wp21;refine SE.mono ?_;rintro e w1 ⟨rfl,x,l',col1,k1,k2,k3,k4,k5,k6⟩;have hQ:w+1<X.drew.heap.size:=U1 _ _ QX.q0;have aa:aM (w.heap.size+1)=UB:=p.dk.none O;have hq:=k6.cS hQ aa hQ;have H:Hid (eu w d aM (aA.aX s (.bL g.e.id)) (bT 0 0 0 () () () ()) (dE w1 (w.heap.size+1) (V Y 0) (V Y 0) (V Y 0) () () () ())):=by rw[HD];have g2:=HG.2;refine wH k5 ?_ (p.wl.uE NI HG.1 O) (p.hl.book NI HG.1 O k2 k3 k4) ((Step.below BX).trans (k6.any BX.size)) O (k6.dY aa hQ) 0 0 _ _ _ _ _ _ _;have o:=p.of.uE p.inv.ids HG.1 O;exact⟨o.now,o.given,o.ts,o.es,o.th,o.tb⟩
   clear k1 k2 k3 k4 k5 k6 SE ck;obtain⟨W,T,S,P,L,K,I,fq⟩:=QX.later hq;go_wp21;exact cV results104 ⟨W,T,S,P,L,K,I,fq⟩ ⟨_,rfl,H⟩
  .have HD:Hid (aA.aX s (.bL g.e.id)=(s,aA.bS.error 10)):=by simp only[Hid,aA.aX,hf];rw[Uz z]
   have ad:(g.e.kind != 2)=UE:=by simpa using z
   clear i a3 a4 C q D hf z hd;go_big_region;clear j xi a1;go_wp21;refine aK (ly 10 X.drew) fun w1 hb=>?_;have hq:=hb.block (w.heap.size+1) (U1 _ _ QX.q0);have H:Hid (eu w d aM (aA.aX s (.bL g.e.id)) (bT 10 0 0 () () () ()) (dE w1 (w.heap.size+1) (V Y 10) (V Y 0) (V Y 0) () () () ())):=by rw[HD];exact p.said (BX.trans (hb.mono BX.size)) O 10 0 _ _ _ _ _ _ _
   clear ck;obtain⟨W,T,S,P,L,K,I,fq⟩:=QX.later hq;simp only[bT];go_wp21;exact cV results104 ⟨W,T,S,P,L,K,I,fq⟩ ⟨_,rfl,H⟩
theorem lz{size n:M}(h:w.ownsRow B e size v n xs):∃ a cap,v=UO a n cap:=by
 rcases h.2 with ⟨rfl,f⟩|⟨g,cap,_,rfl,_⟩
 .rw[f];exact⟨_,_,rfl⟩
 .exact⟨_,_,rfl⟩
theorem tN.off{l:J (N × N)}{G:J M}(h:tN w B aM v l)(k:aH G w w')(i:∀ x∈G,x<B):tN w' B aM v l :=⟨dL h.own k (fun b g f=>by have:=(h.own.lt b g).1;have:=i b f;omega),h.no⟩
theorem eO.off{l:J N}{G:J M}(h:eO w B aM v l)(k:aH G w w')(i:∀ x∈G,x<B):eO w' B aM v l :=⟨dL h.own k (fun b g f=>by have:=(h.own.lt b g).1;have:=i b f;omega),h.no⟩
theorem iw.off{G:J M}(h:iw w B aM v l)(k:aH G w w')(g:∀ x∈G,x<B):iw w' B aM v l :=⟨dL h.own k (fun b j i=>by have:=(h.own.lt b j).1;have:=g b i;omega),h.no,fun p f=>⟨(h.sp p f).1.off k g,(h.sp p f).2⟩,h.pw⟩
theorem iw.base(h:iw w B aM v l)(g:B'<=B):iw w B' aM v l :=⟨Yb h.own g,h.no,fun p f=>⟨⟨Yb (h.sp p f).1.own g,(h.sp p f).1.no⟩,(h.sp p f).2⟩,h.pw⟩
theorem mV.off{p:aA.bS}{G:J M}(h:mV w B aM v p)(k:aH G w w')(f:∀ x∈G,x<B):mV w' B aM v p:=by let⟨en,da,gr,ed,l,e1,e2,e3,e4,e5,e6,e7⟩:=h;exact⟨en,da,gr,ed,l,e1,e2,e3.off k f,e4.off k f,e5.off k f,e6.off k f,e7⟩
theorem mV.base{p:aA.bS}(h:mV w B aM v p)(f:B'<=B):mV w B' aM v p:=by let⟨en,da,gr,ed,l,e1,e2,e3,e4,e5,e6,e7⟩:=h;exact⟨en,da,gr,ed,l,e1,e2,e3.base f,e4.base f,e5.base f,e6.base f,e7⟩
theorem eu.up{q:St × aA.bS}(h:eu X d aM q v w2)(z:UH w w X)(hQ:w<=Q)(j:Q<X)(u:aM Q=UB)(h7:Q7 X Q):∃ (er at_ n:N) (a1 a2 a3 a4:Uu Addr) (n1 W T S H F D C:M),v=bT er at_ n (UO a1 n1 H) (UO a2 W F) (UO a3 T D) (UO a4 S C)/\Q7 w2 Q/\∀ a b c e f g i,eu w d aM q v (dE w2 Q a b c e f g i):=by
 let⟨r',col',k1,k2,k3,k4,k5,k6⟩:=h;have hR:=k6;obtain⟨en,da,gr,ed,l,rfl,_,P,L,K,I,_⟩:=k6;obtain⟨b1,H,rfl⟩:=lz P.own;obtain⟨b2,F,rfl⟩:=L.slice;obtain⟨b3,D,rfl⟩:=K.slice;obtain⟨b4,C,rfl⟩:=I.slice;refine⟨_,_,_,_,_,_,_,_,_,_,_,_,_,_,_,rfl,h7.later (k5.cS j u j),fun a b c e f g i=>?_⟩;have k:=mY w2 Q a b c e f g i;have hn:=k5.dY u j;have p:=z.size;have st:Step anyS w col' col' w2 (dE w2 Q a b c e f g i):=⟨⟨_,k,fun x o=>.inr Uo⟩,fun _ _ h=>h,fun _ _ h=>.inl h⟩;exact⟨r',col',k1.off k (fun x o=>by grind),k2,k3,k4,((Step.below z).trans (k5.any p)).trans st,(hR.off k (fun x o=>by grind)).base p⟩
theorem tN.later{l:J (N × N)}(h:tN w B aM v l)(k:UH w w w'):tN w' B aM v l:=⟨fG h.own k,h.no⟩
theorem iw.later(h:iw w B aM v l)(k:UH w w w'):iw w' B aM v l:=⟨fG h.own k,h.no,fun p f=>⟨(h.sp p f).1.later k,(h.sp p f).2⟩,h.pw⟩
def jz:St:=⟨[],[],0,0⟩
def pJ:Raw:=⟨0,0,[],[],[],[]⟩
def sw(f:M)(k:M):Uu bO:=if k=f then U .mt else if k=f+1 then U .me else if k=f+2 then U .desk else UB
theorem SJ:Inv jz:=by refine⟨by simp[jz],by simp[jz],by simp[jz],by simp[jz,eD],by simp[jz],by simp[jz],by simp[jz],by simp[jz],by simp[jz],by simp[jz],by simp[jz],by simp[jz,aA.fH],by simp[jz],fun name x=>?_⟩;simp[jz,aA.cM,aA.cI]
def JG(w:UF)(v:UG)(w':UF):Prop:=v=UM (U ⟨w.heap.size+2,0,UB⟩)/\eH w' (w.heap.size+2) jz pJ (sw w)/\UH w w w'
theorem b5o(w:UF):UI prog 17 #[] w fun e w'=>∃ v,e=UW v/\JG w v w':=by
 have I:=@run_makeMap prog;have HF:Hid (JG w (UM (U ⟨w.heap.size+2,0,UB⟩)) (((w.alloc (.map #[] 0)).alloc (.map #[] 0)).alloc (UX #[V Y 0,V Y 0,.map (U w),.map (U (w.heap.size+1)),(),()] 93))):=by
  have s1:(w.alloc (.map #[] 0)).heap.size=w.heap.size+1:=Ui;have F:((w.alloc (.map #[] 0)).alloc (.map #[] 0)).heap.size=w.heap.size+2:=Ui;have H:=gO.made prog 9 w;have C:=gO.made prog 3 (w.alloc (.map #[] 0));have f:=dH ((w.alloc (.map #[] 0)).alloc (.map #[] 0)) (UX #[V Y 0,V Y 0,.map (U w.heap.size),.map (U (w.heap.size+1)),(),()] 93);have b1:(((w.alloc (.map #[] 0)).alloc (.map #[] 0)).alloc (UX #[V Y 0,V Y 0,.map (U w.heap.size),.map (U (w.heap.size+1)),(),()] 93)).heap[w.heap.size]?=(w.alloc (.map #[] 0)).heap[w.heap.size]?:=(Below.heap_alloc _ _ _ O).trans (Below.heap_alloc _ _ _ O);have W:(((w.alloc (.map #[] 0)).alloc (.map #[] 0)).alloc (UX #[V Y 0,V Y 0,.map (U w.heap.size),.map (U (w.heap.size+1)),(),()] 93)).heap[w.heap.size+1]?=((w.alloc (.map #[] 0)).alloc (.map #[] 0)).heap[w.heap.size+1]?:=Below.heap_alloc _ _ _ O;have h:UH w.heap.size w (((w.alloc (.map #[] 0)).alloc (.map #[] 0)).alloc (UX #[V Y 0,V Y 0,.map (U w.heap.size),.map (U (w.heap.size+1)),(),()] 93)):=(aS.alloc O _).alloc O _;have s3:(((w.alloc (.map #[] 0)).alloc (.map #[] 0)).alloc (UX #[V Y 0,V Y 0,.map (U w.heap.size),.map (U (w.heap.size+1)),(),()] 93)).heap.size=w.heap.size+3:=Ui;rw[F] at f;rw[s1] at C;have p:=H.block b1;have j:=C.block W;generalize ((w.alloc (.map #[] 0)).alloc (.map #[] 0)).alloc (UX #[V Y 0,V Y 0,.map (U w),.map (U (w.heap.size+1)),(),()] 93)=Z at *;have T:Z.cell? (w.heap.size+2,4)=U ↑():=by simp only[Vk,f];rfl
  have S:Z.cell? (w.heap.size+2,5)=U ↑():=by simp only[Vk,f];rfl
  refine⟨rfl,⟨⟨?_,?_,⟨w,_,?_,by simp[sw],p,fun n=>rfl⟩,⟨w.heap.size+1,_,?_,by simp[sw],j,fun n=>rfl⟩,⟨_,T,Wc _ _ _ _,fun b h=>by cases h⟩,⟨_,⟨S,Wc _ _ _ _,Ur,frozen_of_row _ _ _ _ _ f⟩,fun b h=>by cases h⟩,fun i hi=>by simp[pJ] at hi,fun g z=>by simp[pJ] at z,by simp[pJ],by simp[pJ],fun o=>frozen_of_row _ _ _ _ _ f,by simp[sw],fun k c D=>?_⟩,⟨rfl,rfl,rfl,rfl,fun i hi=>by simp[pJ] at hi,fun g z=>by simp[pJ] at z⟩,rfl,⟨?_,List.Perm.nil⟩,SJ⟩,h⟩
  .simp only[Vk,f];rfl
  .simp only[Vk,f];rfl
  .simp only[Vk,f];rfl
  .simp only[Vk,f];rfl
  .unfold sw at D
   by_cases P:k=w
   .omega
   .by_cases L:k=w+1
    .omega
    .by_cases K:k=w+2
     .omega
     .simp[P,L,K] at D
  .intro i x u;have q:i<([]:J Hp.Hi).length:=by first|exact x|exact u
   simp at q
 go_in;go_wp21;go_ret;exact⟨_,rfl,HF⟩
theorem Au{S:bO->Prop}{W j:UF}{u:M->Uu bO}{g size n:M}{q:UG}(h:w1.ownsRow g e size v n xs)(p:∀ b,v.ownBlock=U b->col1 b=UB)(o:UH w1 w1 W)(k:Step S W col1 u W w4)(z:aH q.ownBlock.toList w4 j)(x:aH [R] j Z)(H:w1<=R)(D:∀ b,v.ownBlock=U b->q.ownBlock≠U b):Z.ownsRow g e size v n xs/\∀ b,v.ownBlock=U b->u b=UB:=by
 have C:∀ b,v.ownBlock=U b->b<w1:=fun b f=>(h.lt b f).2;have F:=o.size;refine⟨dL (dL (k.own (fG h o) (fun b f=>⟨p b f,by grind⟩)) z (fun b f i=>D b f (Wn.1 i))) x (fun b f i=>?_),fun b f=>k.dY (p b f) Uo⟩;have:=C b f;have:b=R:=X9.1 i;omega
theorem b8I{s1:St}{r1:Raw}{p:aA.bS}{D at_:N}{C u j o:UG}(hX:UH w.heap.size w X)(ab:w.heap.size<X.heap.size)(h7:Q7 X w.heap.size)(ai:aM w.heap.size=UB)
  (k1:DK w1 d r1 col1) (k5:Step anyS X.heap.size aM col1 X w1) (hl:l.map (·.1)=p.entries) (T:iw w1 X.heap.size col1 C l) (e4:eO w1 X.heap.size col1 u p.days) (e5:eO w1 X.heap.size col1 j p.granted) (e6:eO w1 X.heap.size col1 o p.ended) (e7:∀ b,j.ownBlock=U b->C.ownBlock≠U b/\u.ownBlock≠U b/\o.ownBlock≠U b/\∀ q∈l,q.2.ownBlock≠U b) (e8:∀ b,u.ownBlock=U b->o.ownBlock≠U b) (e1:D=p.err/\at_=p.at_/\n=p.n)
  (g:yQ (w1.alloc (UX #[V Y D,V Y at_,V Y n,C,u,j,o] 74)).drew d s1 col1 v2 w4) (i:p.granted.length+(aA.dS s1.ts s1.es).2.length<=100000):
  ∃ a m cap w5,(∀ ty,(Yc #[53,53] ty #[j,v2]).run prog w4=.ok (UO a m cap) w5)/\w4.cell? ⟨w1.heap.size,5,UB⟩=U j/\w5.heap[w1.heap.size]?=U (UX #[V Y D,V Y at_,V Y n,C,u,j,o] 74 (0,0))/\Q7 (w5.setCell ⟨w1.heap.size,5,UB⟩ (UO a m cap)) w.heap.size /\∀ x1 x2 x3 x4 x5 x6 x7,eu w d aM ({ s1 with es:=(aA.dS s1.ts s1.es).1 },{ p with granted:=p.granted++(aA.dS s1.ts s1.es).2 }) (bT D at_ n C u (UO a m cap) o) (dE (w5.setCell ⟨w1.heap.size,5,UB⟩ (UO a m cap)) w.heap.size x1 x2 x3 x4 x5 x6 x7):=by
 have kW:UH w1.heap.size w1 (w1.alloc (UX #[V Y D,V Y at_,V Y n,C,u,j,o] 74)).drew:=((zr _ _).alloc (zq _) _).drew;have aq:(w1.alloc (UX #[V Y D,V Y at_,V Y n,C,u,j,o] 74)).drew.heap[w1.heap.size]?=U (UX #[V Y D,V Y at_,V Y n,C,u,j,o] 74 (0,0)):=dH w1 _;have aa:w1.heap.size<(w1.alloc (UX #[V Y D,V Y at_,V Y n,C,u,j,o] 74)).drew.heap.size:=Uo;generalize (w1.alloc (UX #[V Y D,V Y at_,V Y n,C,u,j,o] 74)).drew=W at *;obtain⟨r4,I,q1,q2,q3,q4,z,q6⟩:=g;have aj:=hX.size;have az:=k5.size;have ak:=k1.none (zq _);have g4:=(e5.later kW).step z (zq _);obtain⟨v3,w5,a1,a2,a3,a4⟩:=g4.append (q6.base (B':=X.heap.size) O) (by have:=z.size;omega) (fun b i=>q1.none i) i;obtain⟨H,F,rfl⟩:=a2.slice;have K:=aH.grown (aH.refl _ w4) a3 (fun k hk=>.inl (Wn.2 hk));have ao:∀ b,j.ownBlock=U b->b<w1.heap.size:=fun b i=>(e5.own.lt b i).2;have al:=(z.cS aa ak aa).trans aq;have ar:=(K.block _ Uo (fun f=>by grind)).trans al;have L:=aH.bM w1.heap.size w5 5 (UO H (p.granted++(aA.dS s1.ts s1.es).2).length F);have aw:=z.dY ak aa;have S:=k5.dY ai ab;have ax:=z.dY S O;have af:∀ b,(Value.slice H (p.granted++(aA.dS s1.ts s1.es).2).length F).ownBlock=U b->j.ownBlock=U b\/b=w4.heap.size:=fun b i=>by grind
 have ay:=z.size;have av:Q7 (w5.setCell ⟨w1.heap.size,5,UB⟩ (UO H (p.granted++(aA.dS s1.ts s1.es).2).length F)) w.heap.size:=by refine h7.later ?_;have b1:=k5.cS ab ai ab;have b2:=kW.block w.heap.size O;have b3:=z.cS (b:=w.heap.size) O S O;have b4:=K.block w.heap.size O (fun f=>by have:=(e5.own.lt _ (Wn.1 f)).1;omega);have b5:=L.block w.heap.size Uo Un;rw[b5,b4,b3,b2,b1]
 have ac:=Au T.own T.no kW z K L (zq _) (fun b i f=>(e7 b f).1 i);have ae:=Au e4.own e4.no kW z K L (zq _) (fun b i f=>(e7 b f).2.1 i);have ad:=Au e6.own e6.no kW z K L (zq _) (fun b i f=>(e7 b f).2.2.1 i);have an:∀ q∈l,tN (w5.setCell ⟨w1.heap.size,5,UB⟩ (UO H (p.granted++(aA.dS s1.ts s1.es).2).length F)) X.heap.size I q.2 q.1.aR:=fun q P=>by have x:=Au (T.sp q P).1.own (T.sp q P).1.no kW z K L (zq _) (fun b i f=>(e7 b f).2.2.2 q P i);exact⟨x.1,x.2⟩
 refine⟨H,_,F,w5,a1,?_,ar,av,fun x1 x2 x3 x4 x5 x6 x7=>?_⟩
 .simp only[Vk,al];rfl
 .have kq:=mY (w5.setCell ⟨w1.heap.size,5,UB⟩ (UO H (p.granted++(aA.dS s1.ts s1.es).2).length F)) w.heap.size x1 x2 x3 x4 x5 x6 x7;have au:∀ x∈[w.heap.size],x<X.heap.size:=fun x f=>by grind
  have ag:mV (w5.setCell ⟨w1.heap.size,5,UB⟩ (UO H (p.granted++(aA.dS s1.ts s1.es).2).length F)) X.heap.size I (bT D at_ n C u (UO H (p.granted++(aA.dS s1.ts s1.es).2).length F) o) { p with granted:=p.granted++(aA.dS s1.ts s1.es).2 }:=by
   refine⟨C,u,_,o,l,by grind,hl,⟨ac.1,ac.2,fun q P=>⟨an q P,(T.sp q P).2⟩,T.pw⟩,⟨ae.1,ae.2⟩,⟨dL a2.own L (fun b i f=>?_),a2.no⟩,⟨ad.1,ad.2⟩,fun b i=>?_,e8⟩
   .have e:=X9.1 f;rcases af b i with e2|e2
    .have:=ao b e2;omega
    .omega
   .rcases af b i with e2|e2
    .exact e7 b e2
    .refine⟨fun e=>?_,fun e=>?_,fun e=>?_,fun q P e=>?_⟩
     .have:=(T.own.lt b e).2;omega
     .have:=(e4.own.lt b e).2;omega
     .have:=(e6.own.lt b e).2;omega
     .have:=((T.sp q P).1.own.lt b e).2;omega
  refine⟨r4,I,((q1.off K (fun x f=>g4.no x (Wn.1 f))).off L (fun x f=>by grind)).off kq (fun x f=>by grind),q2,q3,q4,?_,(ag.off kq au).base aj⟩;have t1:=(Step.below hX).trans (k5.any aj);have t2:=(t1.trans (Step.below kW)).trans (z.any O);have t3:Step anyS w.heap.size I I w4 w5:=⟨⟨_,K,fun x f=>.inr ⟨g4.no x (Wn.1 f),by have:=(e5.own.lt x (Wn.1 f)).1;omega⟩⟩,fun _ _ h=>h,fun _ _ h=>.inl h⟩;have t4:Step anyS w.heap.size I I w5 (w5.setCell ⟨w1.heap.size,5,UB⟩ (UO H (p.granted++(aA.dS s1.ts s1.es).2).length F)):=⟨⟨_,L,fun x f=>.inr Uo⟩,fun _ _ h=>h,fun _ _ h=>.inl h⟩;have t5:Step anyS w.heap.size I I _ _:=⟨⟨_,kq,fun x f=>.inr Uo⟩,fun _ _ h=>h,fun _ _ h=>.inl h⟩;exact ((t2.trans t3).trans t4).trans t5
theorem mV.later{p:aA.bS}(h:mV w B aM v p)(k:UH w w w'):mV w' B aM v p:=by let⟨en,da,gr,ed,l,e1,e2,e3,e4,e5,e6,e7⟩:=h;exact⟨en,da,gr,ed,l,e1,e2,e3.later k,e4.later k,e5.later k,e6.later k,e7⟩
theorem eu.later{q:St × aA.bS}(h:eu X d aM q v w1)(k:UH w1 w1 w2):eu X d aM q v w2:=by let⟨r',col',k1,k2,k3,k4,k5,k6⟩:=h;exact⟨r',col',k1.later k,k2,k3,k4,k5.trans (Step.below k),k6.later k⟩
theorem b9u{l:aA.jb}(h:(aA.aX s l).2.err≠0):aA.jE s l=aA.aX s l:=by unfold aA.jE;rw[Uz h]
theorem c2k{l:aA.jb}(h:(aA.aX s l).2.err=0):aA.jE s l=({ (aA.aX s l).1 with es:=(aA.dS (aA.aX s l).1.ts (aA.aX s l).1.es).1 },{ (aA.aX s l).2 with granted:=(aA.aX s l).2.granted++(aA.dS (aA.aX s l).1.ts (aA.aX s l).1.es).2 }):=by unfold aA.jE;rw[Uy O]
theorem S3{a b c d e f g:UG}(h:w.heap[R]?=U (UX #[a,b,c,d,e,f,g] 74 (0,0))):w.cell? (R,0)=U a/\w.cell? (R,1)=U b/\w.cell? (R,2)=U c/\w.cell? (R,3)=U d/\w.cell? (R,4)=U e/\w.cell? (R,5)=U f/\w.cell? (R,6)=U g/\∀ o,w.frozen? ⟨R,o,UB⟩=UD:=by refine⟨?_,?_,?_,?_,?_,?_,?_,fun o=>frozen_of_row _ R o _ _ h⟩;all_goals (simp only[Vk,h];rfl)
theorem Tw(h:eH w d s r aM)(f:UG)(l:aA.jb)(aa:aA.eS (aA.aX s l).1)(u:(aA.aX s l).2.granted.length<=50000)
  (j:∀ X,UH w w X->eH X d s r aM->UI prog 62 #[d,f] X fun e w'=>∃ v,e=UW v/\eu X d aM (aA.aX s l) v w'):
  UI prog 37 #[d,f] w fun e w'=>∃ v,e=UW v/\eu w d aM (aA.jE s l) v w':=by
 have hX:UH w w (w.alloc bI):=aS;have hq:=dH w bI;have hs:w<(w.alloc bI).heap.size:=Ui;have AN:=aB (j (w.alloc bI) hX ⟨h.dk.later hX,h.of,h.wl,h.hl,h.inv⟩);have o:=aB (Vf hX (Vf (Q7.of hq) (h.dk.none aJ)));have HM:=aB (Vf aa u);have HE:=aB (b9u (s:=s) (l:=l));have HO:=aB (c2k (s:=s) (l:=l));clear h j hX hq u;generalize aA.jE s l=SD at *;generalize aA.aX s l=D at *;go_in;go_upto_region 1 with fail;change Code.wp _ _ _ _ (w.alloc bI);generalize w.alloc bI=X at *;go_wp21;refine AN.mono ?_;rintro e w1 ⟨v,rfl,ap⟩;have AP:=aB ap;obtain⟨r1,col1,W,k2,k3,k4,T,en,da,gr,ed,q,rfl,k,e3,e4,e5,e6,e7⟩:=ap;obtain⟨P,H,rfl⟩:=lz e3.own;obtain⟨L,F,rfl⟩:=e4.slice;obtain⟨K,C,rfl⟩:=e5.slice;obtain⟨I,z,rfl⟩:=e6.slice;have ab:=T.size;by_cases he:D.2.err=0
 .have S:=aB (HO he);have GR:=aB (KV (w:=(w1.alloc (UX #[D.2.err,V Y D.2.at_,V Y D.2.n,UO P q.length H,UO L D.2.days.length F,UO K D.2.granted.length C,UO I D.2.ended.length z] 74)).drew) (W.later aS.drew) k2 k3 k4 HM.1)
  have AG:=aB (fun v2 w4 g=>b8I (w:=w) (w4:=w4) (v2:=v2) (s1:=D.1) o.1 hs o.2.1 o.2.2 W T k e3 e4 e5 e6 e7.1 e7.2 ⟨rfl,rfl,rfl⟩ g (by have h1:=yS D.1.ts (D.1.es.filter aA.gj) (D.1.es,[]);have h2:=Wj aA.gj D.1.es;have h3:=kS HM.1;have e1:=aA.Bj D.1.ts D.1.es HM.1.ids;have h4:=HM.2;simp only[VG] at h1;rw[<- e1] at h1;omega))
  have yR:(w1.alloc (UX #[D.2.err,V Y D.2.at_,V Y D.2.n,UO P q.length H,UO L D.2.days.length F,UO K D.2.granted.length C,UO I D.2.ended.length z] 74)).cell? (w1,5)=U (UO K D.2.granted.length C):=Ui;clear W k2 k3 k4 T k e3 e4 e5 e6 e7 AP AN;simp only[bT];rw[he] at GR AG yR S ⊢;go_upto_region 3 with fail;go_region_law (first
   |(refine rH (by rfl) 63 _ _ (by rfl) _ (by simp[Yf,Yh]) (Kk _ _) GR ?_;rintro e w4 ⟨v2,rfl,p⟩;refine⟨_,rfl,?_⟩;obtain⟨a,m,cap,w5,i,g5,h5,q7,x⟩:=AG v2 w4 p;have HR:=aB i;have HF:=aB x;clear i x;obtain⟨y0,y1,y2,y3,y4,y5,y6,fR⟩:=S3 h5;obtain⟨q0,q1,q2,q3,q4,q5,q6,fq⟩:=q7)
   |(refine Gj (by rfl) _ _ _ _ (by rfl) (HR _) ?_))
  all_goals have HG:=aB (HF (V Y 0) (V Y D.2.at_) (V Y D.2.n) (UO P q.length H) (UO L D.2.days.length F) (UO a m cap) (UO I D.2.ended.length z));clear HF p GR AG HR yR g5 h5;go_wp21;exact cV results37 ⟨q0,q1,q2,q3,q4,q5,q6,fq⟩ ⟨_,rfl,by rw[S];exact HG⟩
 .have ac:(D.2.err==0)=UD:=bZ he
  have HD:=aB (HE he);have kW:UH w1 w1 (w1.alloc (UX #[D.2.err,V Y D.2.at_,V Y D.2.n,UO P q.length H,UO L D.2.days.length F,UO K D.2.granted.length C,UO I D.2.ended.length z] 74)):=aS;obtain⟨_,_,_,_,_,_,_,_,_,_,_,_,_,_,_,_,q7,x⟩:=(AP.later kW).up o.1 aJ hs o.2.2 o.2.1;have HF:=aB (x D.2.err (V Y D.2.at_) (V Y D.2.n) (UO P q.length H) (UO L D.2.days.length F) (UO K D.2.granted.length C) (UO I D.2.ended.length z));obtain⟨q0,q1,q2,q3,q4,q5,q6,fq⟩:=q7;clear W k2 k3 k4 T k e3 e4 e5 e6 e7 AP AN x kW;simp only[bT];generalize D.2.err=er at *;go_wp21;exact cV results37 ⟨q0,q1,q2,q3,q4,q5,q6,fq⟩ ⟨_,rfl,by rw[HD];exact HF⟩
theorem fJ{a b:Uv}(h:a=b):UW a=UW b:=by rw[h]
theorem iJ{k:IntKind}(h:a=b):UW (V k a)=UW (V k b):=by rw[h]
def hI(w:UF):Prop:=w.cell? (0,0)=U (V Y 31)/\w.cell? (0,1)=U (V Y 28)/\w.cell? (0,2)=U (V Y 31)/\w.cell? (0,3)=U (V Y 30)/\w.cell? (0,4)=U (V Y 31)/\w.cell? (0,5)=U (V Y 30)/\w.cell? (0,6)=U (V Y 31)/\w.cell? (0,7)=U (V Y 31)/\w.cell? (0,8)=U (V Y 30)/\w.cell? (0,9)=U (V Y 31)/\w.cell? (0,10)=U (V Y 30)/\w.cell? (0,11)=U (V Y 31)
theorem b8s(y:N)(w:UF)(j:0<=y)(i:y<=10000):UI prog 84 #[y] w fun e w'=>e=UW (Cal.ow y)/\w'=w:=by
 cases h:(y % 4==0)
 .go_in
  go_wp2;go_ret;exact⟨fJ (by simp[Cal.ow,h]),rfl⟩
 .cases f:(y % 100 != 0)
  .cases g:(y % 400==0)
   all_goals go_in;go_wp2;go_ret;exact⟨fJ (by simp only[Cal.ow,h,f,g];rfl),rfl⟩
  .go_in
   go_wp2;go_ret;exact⟨fJ (by simp only[Cal.ow,h,f];rfl),rfl⟩
theorem Bv(y:N)(w:UF)(g:1<=y)(f:y<=10000):UI prog 54 #[y] w fun e w'=>e=UW (V Y (Cal.ah y))/\w'=w:=by
 go_in;go_wp2;go_ret;exact⟨iJ (by unfold Cal.ah;omega),rfl⟩
theorem Bg(y m:N)(w:UF)(ht:hI w)(k:0<=y)(j:y<=10000)(i:1<=m)(g:m<=12):UI prog 55 #[y,m] w fun e w'=>e=UW (V Y (Cal.jm y m))/\w'=w:=by
 let⟨c0,c1,c2,c3,c4,c5,c6,c7,c8,c9,c10,c11⟩:=ht;rcases Cal.Dt m i g with h|h|h|h|h|h|h|h|h|h|h|h
 .subst h
  go_in;go_wp2;go_ret;exact⟨iJ (by simp[Cal.jm,Cal.jH]),rfl⟩
 .subst h
  cases f:Cal.ow y;all_goals go_in;go_wp2_with (go_at_call 84;refine aY (b8s _ _ O O) ?_);go_ret;exact⟨iJ (by simp[Cal.jm,Cal.lp,f]),rfl⟩
 all_goals subst h;go_in;go_wp2;go_ret;exact⟨iJ (by simp[Cal.jm,Cal.jH]),rfl⟩
theorem b7A(g:N)(w:UF)(p:0<=g)(u:g<3652059):UI prog 57 #[g] w fun e w'=>∃ y:N,e=UW y/\1<=y/\y<=9999/\Cal.ah y<=g/\g<Cal.ah (y+1)/\w'=w:=by
 have o:=Cal.b7s g p;go_in;go_wp2;go_loop [3] (fun t=>∃ y:N,1<=y/\y<=9999/\Cal.ah y<=g/\t=V Y y) (fun t=>(9999-intOf t).toNat)
 .exact⟨_,O,O,o,rfl⟩
 .obtain⟨y,i,h,f,rfl⟩:=hrel;clear o
  by_cases k:Cal.ah (y+1)<=g
  .have q:y<9999:=by
    by_cases e:y=9999
    .subst e;have:=Cal.Az;rw[show (9999:N)+1=10000 from rfl] at k;omega
    .omega
   go_wp2_with (go_at_call 54;refine aY (Bv _ _ O O) ?_);go_round
   .exact⟨y+1,O,O,k,rfl⟩
   .simp[intOf];omega
  .have j:g<Cal.ah (y+1):=O
   go_wp2_with (go_at_call 54;refine aY (Bv _ _ O O) ?_);go_ret;exact⟨y,rfl,i,h,f,j,rfl⟩
theorem nV{d:N}(h:¬ (1<=y/\y<=9999/\1<=m/\m<=12/\1<=d/\d<=Cal.jm y m)):Cal.ok y m d=UD:=by unfold Cal.ok;exact decide_eq_false h
theorem xW{d:N}(h:1<=y/\y<=9999/\1<=m/\m<=12/\1<=d/\d<=Cal.jm y m):Cal.ok y m d=UE:=by unfold Cal.ok;exact decide_eq_true h
theorem Md(y m d:N)(w:UF)(ht:hI w):UI prog 53 #[y,m,d] w fun e w'=>e=UW (Cal.ok y m d)/\w'=w:=by
 by_cases a:1<=y
 .by_cases b:y<=9999
  .by_cases c:1<=m
   .by_cases f:m<=12
    .by_cases g:1<=d
     .by_cases k:d<=Cal.jm y m
      all_goals go_in;go_wp2_with (go_at_call 55;refine aY (Bg _ _ _ ht O O O O) ?_);go_ret
      .exact⟨fJ (by rw[xW ⟨a,b,c,f,g,k⟩]),rfl⟩
      .exact⟨fJ (by rw[nV O];exact decide_eq_false O),rfl⟩
     .go_in
      go_wp2;go_ret;exact⟨fJ (by rw[nV O]),rfl⟩
    .go_in
     go_wp2;go_ret;exact⟨fJ (by rw[nV O]),rfl⟩
   .go_in
    go_wp2;go_ret;exact⟨fJ (by rw[nV O]),rfl⟩
  .go_in
   go_wp2;go_ret;exact⟨fJ (by rw[nV O]),rfl⟩
 .go_in
  go_wp2;go_ret;exact⟨fJ (by rw[nV O]),rfl⟩
theorem AZ(y m d:N)(w:UF)(ht:hI w)(h:Cal.ok y m d=UD):UI prog 30 #[y,m,d] w fun e w'=>e=UW (US #[V Y 0,V Y 6])/\w'=w:=by
 go_in;go_wp2_with (go_at_call 53;refine aY (Md _ _ _ _ ht) ?_);go_ret2;exact⟨rfl,rfl⟩
theorem Jz{k l:IntKind}{c:N}(h:a=b):UW (US #[V k a,V l c])=UW (US #[V k b,V l c]):=by rw[h]
theorem A5(y m d:N)(w:UF)(ht:hI w)(h:Cal.ok y m d=UE):UI prog 30 #[y,m,d] w fun e w'=>e=UW (US #[V Y (Cal.num y m d),V Y 0])/\w'=w:=by
 let⟨h1,h2,h3,h4,h5,h6⟩:=(Cal.jx y m d).1 h;have u:=Cal.tz y h1 O;have i:=Cal.pL y m;have p:=Cal.tD y;go_in;go_wp2_with (first|(go_at_call 53;refine aY (Md _ _ _ _ ht) ?_)|(go_at_call 54;refine aY (Bv _ _ O O) ?_));go_loop [8,9] (fun n k=>∃ j:N,1<=j/\j<=m/\k=V Y j/\n=V Y (-738885+Cal.ah y+d-1+Cal.eh y j)) (fun _ k=>(m-intOf k).toNat)
 .exact⟨1,O,O,rfl,by rw[Cal.rj,Yj]⟩
 .obtain⟨j,f,g,rfl,rfl⟩:=hrel;have cb:=Cal.tG y j f O;have x:=Cal.pL y j;have cs:=Cal.sE y j f O;have o:=cs;clear cs
  by_cases q:j<m
  .go_wp2_with (go_at_call 55;refine aY (Bg _ _ _ ht O O O O) ?_)
   go_round
   .exact⟨j+1,O,O,rfl,by rw[o];go_num⟩
   .simp[intOf];omega
  .obtain rfl:j=m:=O
   go_wp2;go_ret2;exact⟨Jz (by unfold Cal.num Cal.first;omega),rfl⟩
theorem oW{g:Func}{t u v x:Tmp}(h:g.results=#[.tmp t,.tmp u,.tmp v,.tmp x])(f:Array UG)(P:Program)(w:UF):(results g f).run P w=.ok (US #[f.getD t undef,f.getD u undef,f.getD v undef,f.getD x undef]) w:=by
 simp[results,h]
theorem O3(n:N)(w:UF)(h:n < -738885\/2913173<n):UI prog 34 #[n] w fun e w'=>e=UW (US #[V Y 0,V Y 0,V Y 0,V Y 6])/\w'=w:=by
 rcases h with h|h
 .go_in
  go_wp2;(try simp only[V7,Exit.then]);refine bodyPost_ret (oW rfl _ _ _) rfl ?_;exact⟨rfl,rfl⟩
 .have f:¬ n < -738885:=O
  go_in;go_wp2;(try simp only[V7,Exit.then]);refine bodyPost_ret (oW rfl _ _ _) rfl ?_;exact⟨rfl,rfl⟩
theorem Th(n y k:N):Cal.num y k (n+738885-Cal.ah y-Cal.eh y k+1)=n:=by unfold Cal.num Cal.first;omega
theorem D7(n:N)(w:UF)(ht:hI w)(K:-738885<=n)(I:n<=2913173):UI prog 34 #[n] w fun e w'=>∃ y m d:N,e=UW (US #[y,m,V Y d,V Y 0])/\Cal.ok y m d=UE/\Cal.num y m d=n/\w'=w:=by
 go_in;go_wp2_with (first|(go_at_call 57;refine (b7A _ _ O O).mono ?_;rintro e w' ⟨y,rfl,f,x,u,q,rfl⟩;have H:=Cal.tz y f O)|(go_at_call 54;refine aY (Bv _ _ O O) ?_));have j:=Cal.uL y f;have D:=Cal.tD y;go_loop [8,9] (fun r k=>∃ m:N,1<=m/\m<=12/\k=V Y m/\0<=n+738885-Cal.ah y-Cal.eh y m/\r=V Y (n+738885-Cal.ah y-Cal.eh y m)) (fun _ k=>(12-intOf k).toNat)
 .exact⟨1,O,O,rfl,by rw[Cal.rj];omega,by rw[Cal.rj,Yk]⟩
 .obtain⟨m,g,i,rfl,z,rfl⟩:=hrel;have cb:=Cal.tG y m g O;have L:=Cal.pL y m;have cs:=Cal.sE y m g i;have o:=Cal.xY y
  by_cases F:Cal.jm y m<=n+738885-Cal.ah y-Cal.eh y m
  .have C:m<12:=by
    by_cases e:m=12
    .subst e;rw[show (12:N)+1=13 from rfl] at cs;omega
    .omega
   have p:=cs;clear cs o j;go_wp2_with (go_at_call 55;refine aY (Bg _ _ _ ht O O O O) ?_);go_round
   .exact⟨m+1,O,O,rfl,by rw[p];omega,by rw[p];go_num⟩
   .simp[intOf];omega
  .have h:Cal.ok y m (n+738885-Cal.ah y-Cal.eh y m+1)=UE:=xW O;clear cs o j
   go_wp2_with (go_at_call 55;refine aY (Bg _ _ _ ht O O O O) ?_);(try simp only[V7,Exit.then]);refine bodyPost_ret (oW rfl _ _ _) rfl ?_;exact⟨y,m,_,rfl,h,Th n y m,rfl⟩
theorem I7(y:N)(w:UF)(j:0<=y)(i:y<=10000):UI prog 56 #[y] w fun e w'=>e=UW (Cal.ow y)/\w'=w:=by
 cases f:(y % 100==0)
 .go_in
  go_wp2;go_ret;exact⟨fJ (by simp only[Cal.ow,bne,f];simp),rfl⟩
 .have g:(y % 4==0)=UE:=by simp only[beq_iff_eq] at f ⊢;omega
  have h:Hid ((y % 4==0)=UE):=g;clear g;go_in;go_wp2;go_ret;exact⟨fJ (by simp only[Cal.ow,bne,f,h.out];simp),rfl⟩
theorem tw(y:N)(w:UF)(h:0<=y)(g:y<=10000):UI prog 33 #[y] w fun e w'=>e=UW (V Y (365+Cal.lp y))/\w'=w:=by
 cases f:Cal.ow y;all_goals go_in;go_wp2_with (go_at_call 56;refine aY (I7 _ _ O O) ?_);go_ret;exact⟨iJ (by simp[Cal.lp,f]),rfl⟩
theorem vO(y m:N)(w:UF)(k:0<=y)(j:y<=10000)(i:1<=m)(g:m<=12):UI prog 32 #[y,m] w fun e w'=>e=UW (V Y (Cal.jm y m))/\w'=w:=by
 rcases Cal.Dt m i g with h|h|h|h|h|h|h|h|h|h|h|h
 .subst h
  go_in;go_wp2;go_ret;exact⟨iJ (by simp[Cal.jm,Cal.jH]),rfl⟩
 .subst h
  cases f:Cal.ow y;all_goals go_in;go_wp2_with (go_at_call 56;refine aY (I7 _ _ O O) ?_);go_ret;exact⟨iJ (by simp[Cal.jm,Cal.lp,f]),rfl⟩
 all_goals subst h;go_in;go_wp2;go_ret;exact⟨iJ (by simp[Cal.jm,Cal.jH]),rfl⟩
theorem IW(y m d:N)(w:UF):UI prog 31 #[y,m,d] w fun e w'=>e=UW (Cal.ok y m d)/\w'=w:=by
 by_cases a:1<=y
 .by_cases b:y<=9999
  .by_cases c:1<=m
   .by_cases f:m<=12
    .by_cases g:1<=d
     .by_cases k:d<=Cal.jm y m
      all_goals go_in;go_wp2_with (go_at_call 32;refine aY (vO _ _ _ O O O O) ?_);go_ret
      .exact⟨fJ (by rw[xW ⟨a,b,c,f,g,k⟩]),rfl⟩
      .exact⟨fJ (by rw[nV O];exact decide_eq_false O),rfl⟩
     .go_in
      go_wp2;go_ret;exact⟨fJ (by rw[nV O]),rfl⟩
    .go_in
     go_wp2;go_ret;exact⟨fJ (by rw[nV O]),rfl⟩
   .go_in
    go_wp2;go_ret;exact⟨fJ (by rw[nV O]),rfl⟩
  .go_in
   go_wp2;go_ret;exact⟨fJ (by rw[nV O]),rfl⟩
 .go_in
  go_wp2;go_ret;exact⟨fJ (by rw[nV O]),rfl⟩
theorem Hr(y m d:N)(w:UF)(h:Cal.ok y m d=UD):UI prog 19 #[y,m,d] w fun e w'=>e=UW (US #[V Y 0,V Y 6])/\w'=w:=by
 go_in;go_wp2_with (go_at_call 31;refine aY (IW _ _ _ _) ?_);go_ret2;exact⟨rfl,rfl⟩
theorem xM:Cal.ah 2024=738885:=Uj
theorem H8(y m d:N)(w:UF)(h:Cal.ok y m d=UE):UI prog 19 #[y,m,d] w fun e w'=>e=UW (US #[V Y (Cal.num y m d),V Y 0])/\w'=w:=by
 obtain⟨C,h2,P,h4,h5,h6⟩:=(Cal.jx y m d).1 h;have hb:=Cal.tz y C O;have L:=Cal.pL y m;have hl:=Cal.tD y;have T:=Cal.tG y m P O;go_in;go_wp2_with (go_at_call 31;refine aY (IW _ _ _ _) ?_);go_loop [9,10,11] (fun n k _=>∃ j:N,1<=j/\j<=m/\k=V Y j/\n=V Y (d-1+Cal.eh y j)) (fun _ k _=>(m-intOf k).toNat)
 .exact⟨1,O,O,rfl,by rw[Cal.rj,Yj]⟩
 .obtain⟨j,o,I,rfl,rfl⟩:=hrel;have cb:=Cal.tG y j o O;have db:=Cal.pL y j;have cs:=Cal.sE y j o O;have HC:=cs;clear cs
  by_cases hc:j<m
  .go_wp2_with (go_at_call 32;refine aY (vO _ _ _ O O O O) ?_)
   go_round
   .exact⟨j+1,O,O,rfl,by rw[HC];go_num⟩
   .simp[intOf];omega
  .obtain rfl:j=m:=O
   go_wp2;go_loop [9,12,13] (fun n k _=>∃ f:N,2024<=f/\(f<=y\/f=2024)/\k=V Y f/\n=V Y (d-1+Cal.eh y j+(Cal.ah f - 738885))) (fun _ k _=>(y-intOf k).toNat)
   .exact⟨2024,O,O,rfl,by rw[xM];go_num⟩
   .obtain⟨k,H,F,rfl,rfl⟩:=hrel;have kb:=Cal.tz k O O;have kl:=Cal.tD k;have x:=Cal.uL k O;have HK:=x;clear x
    by_cases hk:k<y
    .go_wp2_with (go_at_call 33;refine aY (tw _ _ O O) ?_)
     go_round
     .exact⟨k+1,O,O,rfl,by rw[HK];go_num⟩
     .simp[intOf];omega
    .have km:=Cal.uP y k C O;have g:(y=k)\/(y<2024/\k=2024):=O
     have u:=g;clear g;go_wp2;go_loop [9,14,15] (fun n p _=>∃ i:N,y<=i/\(i<=2024\/i=y)/\p=V Y i/\n=V Y (d-1+Cal.eh y j+(Cal.ah k-738885)-(Cal.ah i-Cal.ah y))) (fun _ p _=>(2024-intOf p).toNat)
     .exact⟨y,O,O,rfl,by go_num⟩
     .obtain⟨i,q,K,rfl,rfl⟩:=hrel;have ib:=Cal.tz i O O;have il:=Cal.tD i;have z:=Cal.uL i O;have HI:=z;clear z
      by_cases hi:i<2024
      .go_wp2_with (go_at_call 33;refine aY (tw _ _ O O) ?_)
       go_round
       .exact⟨i+1,O,O,rfl,by rw[HI];go_num⟩
       .simp[intOf];omega
      .go_wp2;go_ret2;refine⟨Jz ?_,rfl⟩;have W:=xM;rcases u with e|⟨e1,S⟩
       .subst e
        by_cases D:i=y
        .subst D;unfold Cal.num Cal.first;omega
        .obtain rfl:i=2024:=O
         exact UA q O
       .subst S;obtain rfl:i=2024:=O
        unfold Cal.num Cal.first;omega
theorem early(n z:N)(h:0<=n+(738885-Cal.ah z)\/z=1)(g:n+(738885-Cal.ah z)<0):n < -738885\/2913173<n:=by grind[Cal.ah]
theorem late(n z:N)(h:z=9999)(e:Cal.ah (z+1)=Cal.ah z+365+Cal.lp z)(g:365+Cal.lp z<=n+(738885-Cal.ah z)):n < -738885\/2913173<n:=by subst h;have:=Cal.Az;rw[show (9999:N)+1=10000 from rfl] at e;omega
theorem CB(n y k:N):Cal.num y k (n+(738885-Cal.ah y)-Cal.eh y k+1)=n:=by unfold Cal.num Cal.first;omega
theorem inside(n z m:N)(h:Cal.ok z m (n+(738885-Cal.ah z)-Cal.eh z m+1)=UE):¬ (n < -738885\/2913173<n):=by have b:=Cal.Du _ _ _ h;rw[CB] at b;unfold Cal.first Cal.last at b;omega
theorem CF(n:N)(w:UF)(h1:-9223372036854775808<=n)(h2:n<=9223372036854775807):UI prog 21 #[n] w fun e w'=>((n < -738885\/2913173<n)/\e=UW (US #[V Y 0,V Y 0,V Y 0,V Y 6])\/(¬ (n < -738885\/2913173<n))/\∃ y m d:N,e=UW (US #[y,m,V Y d,V Y 0])/\Cal.ok y m d=UE/\Cal.num y m d=n)/\w'=w:=by
 go_in;go_wp2;go_loop [0,6,7] (fun t k _=>∃ y:N,1<=y/\y<=2024/\k=V Y y/\t=V Y (n+(738885-Cal.ah y))/\n+(738885-Cal.ah y)<=9223372036854775807) (fun _ k _=>(intOf k).toNat)
 .exact⟨2024,O,O,rfl,by rw[xM];go_num,by rw[xM];omega⟩
 .obtain⟨y,x,L,rfl,rfl,K⟩:=hrel;have yb:=Cal.tz y x O;have S:=Cal.uP y 2024 x L;rw[xM] at S
  by_cases P:n+(738885-Cal.ah y)<0/\1<y
  .obtain⟨P,hy⟩:=P;have ys:=Cal.uL (y-1) O;rw[show y-1+1=y from by omega] at ys;have yl:=Cal.tD (y-1);have W:Hid (Cal.ah y=Cal.ah (y-1)+365+Cal.lp (y-1)):=ys;clear ys
   go_wp2_with (go_at_call 33;refine aY (tw _ _ O O) ?_);go_round
   .exact⟨y-1,O,O,rfl,by have:=W.out;go_num,by have:=W.out;omega⟩
   .simp[intOf];omega
  .have T:0<=n+(738885-Cal.ah y)\/y=1:=O
   have HZ:Hid (0<=n+(738885-Cal.ah y)\/y=1):=T;clear T;have j:(n+(738885-Cal.ah y)<0/\¬ 1<y)\/¬ n+(738885-Cal.ah y)<0:=O;clear P;rcases j with ⟨j,hy⟩|j;all_goals
    go_wp2;go_loop [0,6,8] (fun t k _=>∃ z:N,1<=z/\z<=9999/\k=V Y z/\t=V Y (n+(738885-Cal.ah z))/\n+(738885-Cal.ah z)<=9223372036854775807/\(0<=n+(738885-Cal.ah z)\/z=1)) (fun _ k _=>(9999-intOf k).toNat)
    .exact⟨y,O,O,rfl,rfl,K,HZ⟩
    .obtain⟨z,u,ac,rfl,rfl,aa,q⟩:=hrel;have F:Hid (0<=n+(738885-Cal.ah z)\/z=1):=q;clear q yb S j;have zb:=Cal.tz z u O;have zl:=Cal.tD z;have zs:=Cal.uL z u;have I:Hid (Cal.ah (z+1)=Cal.ah z+365+Cal.lp z):=zs;clear zs
     by_cases ab:z<9999
     .by_cases C:365+Cal.lp z<=n+(738885-Cal.ah z)
      .go_wp2_with (go_at_call 33;refine aY (tw _ _ O O) ?_)
       go_round
       .exact⟨z+1,O,O,rfl,by have:=I.out;go_num,by have:=I.out;omega,by have:=I.out;omega⟩
       .simp[intOf];omega
      .by_cases g:n+(738885-Cal.ah z)<0
       .go_wp2_with (go_at_call 33;refine aY (tw _ _ O O) ?_)
        (try simp only[V7,Exit.then]);refine bodyPost_ret (oW rfl _ _ _) rfl ?_;exact⟨Or.inl ⟨early n z F g,rfl⟩,rfl⟩
       .go_wp2_with (go_at_call 33;refine aY (tw _ _ O O) ?_)
        go_loop [0,9,10] (fun r k _=>∃ m:N,1<=m/\m<=12/\k=V Y m/\0<=n+(738885-Cal.ah z)-Cal.eh z m/\r=V Y (n+(738885-Cal.ah z)-Cal.eh z m)) (fun _ k _=>(12-intOf k).toNat)
        .exact⟨1,O,O,rfl,by rw[Cal.rj];omega,by rw[Cal.rj,Yk]⟩
        .obtain⟨m,h,o,rfl,hr,rfl⟩:=hrel;have cb:=Cal.tG z m h O;have db:=Cal.pL z m;have cs:=Cal.sE z m h o;have D:=Cal.xY z
         by_cases hd:Cal.jm z m<=n+(738885-Cal.ah z)-Cal.eh z m
         .have hm:m<12:=by
           by_cases e:m=12
           .subst e;rw[show (12:N)+1=13 from rfl] at cs;omega
           .omega
          have H:Hid (Cal.eh z (m+1)=Cal.eh z m+Cal.jm z m):=cs;clear cs D;go_wp2_with (go_at_call 32;refine aY (vO _ _ _ O O O O) ?_);go_round
          .exact⟨m+1,O,O,rfl,by rw[H];omega,by rw[H];go_num⟩
          .simp[intOf];omega
         .have f:Cal.ok z m (n+(738885-Cal.ah z)-Cal.eh z m+1)=UE:=xW O;have i:¬ (n < -738885\/2913173<n):=inside n z m f;have p:Hid (¬ (n < -738885\/2913173<n)):=i;clear cs D i
          go_wp2_with (go_at_call 32;refine aY (vO _ _ _ O O O O) ?_);(try simp only[V7,Exit.then]);refine bodyPost_ret (oW rfl _ _ _) rfl ?_;exact⟨Or.inr ⟨p,z,m,_,rfl,f,CB n z m⟩,rfl⟩
     .by_cases g:n+(738885-Cal.ah z)<0
      .go_wp2
       (try simp only[V7,Exit.then]);refine bodyPost_ret (oW rfl _ _ _) rfl ?_;exact⟨Or.inl ⟨early n z F g,rfl⟩,rfl⟩
      .by_cases C:365+Cal.lp z<=n+(738885-Cal.ah z)
       .go_wp2_with (go_at_call 33;refine aY (tw _ _ O O) ?_)
        (try simp only[V7,Exit.then]);refine bodyPost_ret (oW rfl _ _ _) rfl ?_;exact⟨Or.inl ⟨late n z O I C,rfl⟩,rfl⟩
       .go_wp2_with (go_at_call 33;refine aY (tw _ _ O O) ?_)
        go_loop [0,9,10] (fun r k _=>∃ m:N,1<=m/\m<=12/\k=V Y m/\0<=n+(738885-Cal.ah z)-Cal.eh z m/\r=V Y (n+(738885-Cal.ah z)-Cal.eh z m)) (fun _ k _=>(12-intOf k).toNat)
        .exact⟨1,O,O,rfl,by rw[Cal.rj];omega,by rw[Cal.rj,Yk]⟩
        .obtain⟨m,h,o,rfl,hr,rfl⟩:=hrel;have cb:=Cal.tG z m h O;have db:=Cal.pL z m;have cs:=Cal.sE z m h o;have D:=Cal.xY z
         by_cases hd:Cal.jm z m<=n+(738885-Cal.ah z)-Cal.eh z m
         .have hm:m<12:=by
           by_cases e:m=12
           .subst e;rw[show (12:N)+1=13 from rfl] at cs;omega
           .omega
          have H:Hid (Cal.eh z (m+1)=Cal.eh z m+Cal.jm z m):=cs;clear cs D;go_wp2_with (go_at_call 32;refine aY (vO _ _ _ O O O O) ?_);go_round
          .exact⟨m+1,O,O,rfl,by rw[H];omega,by rw[H];go_num⟩
          .simp[intOf];omega
         .have f:Cal.ok z m (n+(738885-Cal.ah z)-Cal.eh z m+1)=UE:=xW O;have i:¬ (n < -738885\/2913173<n):=inside n z m f;have p:Hid (¬ (n < -738885\/2913173<n)):=i;clear cs D i
          go_wp2_with (go_at_call 32;refine aY (vO _ _ _ O O O O) ?_);(try simp only[V7,Exit.then]);refine bodyPost_ret (oW rfl _ _ _) rfl ?_;exact⟨Or.inr ⟨p,z,m,_,rfl,f,CB n z m⟩,rfl⟩
theorem hide{p:Prop}(h:p):Hid p:=h
theorem aO{p:Prop}(h:Hid p):p:=h
theorem hI.later(h:hI w)(f:UH w w wx):hI wx:=by let⟨c0,c1,c2,c3,c4,c5,c6,c7,c8,c9,c10,c11⟩:=h;exact⟨cell_later f c0,cell_later f c1,cell_later f c2,cell_later f c3,cell_later f c4,cell_later f c5,cell_later f c6,cell_later f c7,cell_later f c8,cell_later f c9,cell_later f c10,cell_later f c11⟩
theorem N3(y m d:N)(w:UF)(ht:hI w)(h:Cal.ok y m d=UE):UI prog 18 #[y,m,d] w fun e w'=>e=UW (US #[V Y (Cal.num y m d),V Y 0])/\w'=w:=by
 go_in;go_wp2_with (go_at_call 30;refine aY (A5 _ _ _ _ ht h) ?_);go_ret2;exact⟨rfl,rfl⟩
theorem NU(y m d:N)(w:UF)(ht:hI w)(h:Cal.ok y m d=UD):UI prog 18 #[y,m,d] w fun e w'=>e=UW (US #[V Y 0,V Y 6])/\w'=w:=by
 go_in;go_wp2_with (go_at_call 30;refine aY (AZ _ _ _ _ ht h) ?_);go_ret2;exact⟨rfl,rfl⟩
theorem Oe(n:N)(w:UF)(ht:hI w)(i:-738885<=n)(h:n<=2913173):UI prog 20 #[n] w fun e w'=>∃ y m d:N,e=UW (US #[y,m,V Y d,V Y 0])/\Cal.ok y m d=UE/\Cal.num y m d=n/\w'=w:=by
 go_in;go_wp2_with (go_at_call 34;refine (D7 _ _ ht i h).mono ?_;rintro e w' ⟨y,m,d,rfl,g,f,rfl⟩);(try simp only[V7,Exit.then]);refine bodyPost_ret (oW rfl _ _ _) rfl ?_;exact⟨y,m,d,rfl,g,f,rfl⟩
theorem NZ(n:N)(w:UF)(h:n < -738885\/2913173<n):UI prog 20 #[n] w fun e w'=>e=UW (US #[V Y 0,V Y 0,V Y 0,V Y 6])/\w'=w:=by
 have H:=h;clear h;go_in;go_wp2_with (go_at_call 34;refine aY (O3 _ _ H) ?_);(try simp only[V7,Exit.then]);refine bodyPost_ret (oW rfl _ _ _) rfl ?_;exact⟨rfl,rfl⟩
theorem N4(n:N)(w:UF)(ht:hI w)(p:-9223372036854775808<=n)(o:n<=9223372036854775807):UI prog 10 #[n] w fun e w'=>e=UW UE/\w'=w:=by
 by_cases h:n < -738885\/2913173<n
 .have H:=h;clear h
  go_in;go_wp21;refine aY (NZ _ _ H) ?_;go_wp21;refine (CF _ _ p o).mono ?_;rintro e w' ⟨⟨_,rfl⟩|⟨k,_⟩,rfl⟩
  .go_wp2;go_ret;exact⟨rfl,rfl⟩
  .exact UA H k
 .have H:=h;have z:-738885<=n:=O
  have x:n<=2913173:=O;clear h;go_in;go_wp21;refine (Oe _ _ ht z x).mono ?_;rintro e w' ⟨y,m,d,rfl,j,i,rfl⟩;have D:=hide j;have F:=hide i;clear j i;go_wp21;refine (CF _ _ p o).mono ?_;rintro e w' ⟨⟨k,_⟩|⟨_,q,u,C,rfl,g,f⟩,rfl⟩
  .exact UA k H
  .obtain⟨rfl,rfl,rfl⟩:=Cal.one y m d q u C (aO D) g (by rw[aO F,f]);clear g f;go_wp2;go_ret;exact⟨fJ Ui,rfl⟩
theorem Od(k a y m d:N)(s:Us)(w:UF)(ht:hI w):UI prog 9 #[.agg #[k,a,y,m,d,s]] w fun e w'=>e=UW UE/\UH w w w':=by
 have g:∀ o,UH w w (w.alloc o):=fun o=>fI.alloc aJ o;have f:=hide g;clear g
 cases h:Cal.ok y m d
 .go_in
  go_wp21;refine aY (NU _ _ _ _ (ht.later (aO f _)) h) ?_;go_wp21;refine aY (Hr _ _ _ _ h) ?_;go_wp2;go_ret;exact⟨rfl,aO f _⟩
 .go_in
  go_wp21;refine aY (N3 _ _ _ _ (ht.later (aO f _)) h) ?_;go_wp21;refine aY (H8 _ _ _ _ h) ?_;go_wp2;go_ret;exact⟨fJ Ui,aO f _⟩
theorem Oc(p:UG)(a y m d:N)(s:Us)(w:UF)(ht:hI w):UI prog 6 #[p,.agg #[V Y 1,a,y,m,d,s]] w fun e w'=>e=UW UE/\UH w w w':=by
 have g:∀ o,UH w w (w.alloc o):=fun o=>fI.alloc aJ o;have h:=hide g;clear g;go_in;go_wp21;refine aK (Od _ _ _ _ _ _ _ (ht.later (aO h _))) fun w' f=>?_;go_wp2;go_ret;exact⟨rfl,(aO h _).trans (f.mono Ui)⟩
theorem OP(p:UG)(a y m d:N)(s:Us)(w:UF)(ht:hI w)(i:-9223372036854775808<=d)(h:d<=9223372036854775807):UI prog 6 #[p,.agg #[V Y 2,a,y,m,d,s]] w fun e w'=>e=UW UE/\UH w w w':=by
 have f:∀ o,UH w w (w.alloc o):=fun o=>fI.alloc aJ o;have g:=hide f;clear f;go_in;go_wp21;refine aY (N4 _ _ (ht.later (aO g _)) i h) ?_;go_wp2;go_ret;exact⟨rfl,aO g _⟩
theorem gb{k:IntKind}{d:Uv}(h:a=b)(g:c=d):UW (US #[V k a,c])=UW (US #[V k b,d]):=by rw[h,g]
theorem gI(s:Us)(w:UF)(C:s.size<=maxLen):UI prog 142 #[s] w fun e w'=>e=UW (US #[V Y (Txt.dG s.data.toList),Txt.isNum s.data.toList])/\w'=w:=by
 unfold maxLen at C;by_cases F:s.size=0
 .have H:Hid (Txt.isNum s.data.toList=UD):=Txt.AE (by rw[Txt.iK];omega);have D:((s.size:N)==0)=UE:=beq_iff_eq.2 O
  go_in;go_wp2;go_ret2;exact⟨gb (by simp[Txt.dG,H.out]) (by rw[H]),rfl⟩
 .have D:((s.size:N)==0)=UD:=beq_eq_false_iff_ne.2 O
  by_cases L:7<s.size
  .have H:Hid (Txt.isNum s.data.toList=UD):=Txt.AE (by rw[Txt.iK];omega);clear F
   go_in;go_wp2;go_ret2;exact⟨gb (by simp[Txt.dG,H.out]) (by rw[H]),rfl⟩
  .go_in
   go_wp2;go_loop [4,5,6] (fun n i _=>∃ k:M,k<=s.size/\i=V Y k/\n=V Y (Txt.jB (s.data.toList.take k))/\Txt.iI (s.data.toList.take k)=UE) (fun _ i _=>s.size-(intOf i).toNat)
   .exact⟨0,VM _,rfl,rfl,rfl⟩
   .obtain⟨k,K,rfl,rfl,o⟩:=hrel;have q:=hide o;have I:=Txt.JI (s.data.toList.take k) o (by rw[List.length_take];omega);clear o
    by_cases j:k<s.size
    .have p:Hid (s.data.toList.take (k+1)=s.data.toList.take k++[s[k]]):=Txt.A2 s k j
     by_cases g:Txt.tc s[k]=UE
     .have f:=(Txt.rB _).1 g;have h:=hide g;let⟨hc1,hc2⟩:=f;clear g;go_wp2
      go_round
      .exact⟨k+1,O,by go_num,by rw[p,Txt.Lw],by rw[p,Txt.yI,q,h];rfl⟩
      .simp[intOf];omega
     .have h:Hid (Txt.isNum s.data.toList=UD):=Txt.K5 (Txt.MD _ (k+1) (by rw[p,Txt.yI,q];simpa using g))
      have f:(s[k].toNat:N)<48\/(¬ (s[k].toNat:N)<48/\57<(s[k].toNat:N)):=by have:=mt (Txt.rB s[k]).2 g;omega
      clear g;rcases f with f |⟨f,u⟩;all_goals go_wp2;go_ret2;exact⟨gb (by simp[Txt.dG,h.out]) (by rw[h]),rfl⟩
    .have z:Hid (s.data.toList.take k=s.data.toList):=Txt.uX s k O;have x:Hid (Txt.isNum s.data.toList=UE):=Txt.Mm (by rw[Txt.iK];omega) (by rw[Txt.iK];omega) (by rw[<- z];exact q);go_wp2;go_ret2;exact⟨gb (by rw[z];simp[Txt.dG,x.out]) (by rw[x]),rfl⟩
theorem qB(h:a≠b):(a != b)=UE:=by rw[bne_iff_ne];exact h
theorem qA(h:a=b):(a != b)=UD:=by subst h;simp
theorem jF(s:Us)(a b:M)(h:s.size<=maxLen):(s.extract a b).size<=maxLen:=by have:(s.extract a b).size=min b s.size-a:=WX ..;omega
theorem zh(s:Us)(w:UF)(z:s.size<=maxLen):UI prog 140 #[s] w fun e w'=>e=UW (US #[V Y (Txt.eA s),Txt.dZ s])/\w'=w:=by
 have h:=hide z;clear z;by_cases u:s.size=5
 .have F:((s.size:N) != 5)=UD:=qA O;have K:(2:N)<(s.size:N):=O
  have o:2<s.size:=O;have I:(3:N)<=(s.size:N):=O;by_cases k:Txt.fK s 2=58
  .have D:(((s[2]'o).toNat:N) != 58)=UD:=qA (by rw[<- Txt.mz];exact k);have P:=Txt.lT (Txt.part s 0 2);have L:=Txt.lT (Txt.part s 3 5);have j:=hide u;have H:=hide k;clear u k;have f:=hide (Txt.Ku j H)
   cases g:Txt.isNum (Txt.part s 0 2)
   .go_in
    go_wp21;refine aY (gI _ _ (jF _ _ _ h)) ?_;rw[show (s.extract 0 2).data.toList=Txt.part s 0 2 from rfl];go_wp21;refine aY (gI _ _ (jF _ _ _ h)) ?_;rw[show (s.extract 3 s.size).data.toList=Txt.part s 3 5 from by rw[j];rfl];go_wp2;go_ret2;exact⟨gb (by simp[Txt.eA,aO f,g]) (by simp[aO f,g]),rfl⟩
   .cases i:Txt.isNum (Txt.part s 3 5)
    .go_in
     go_wp21;refine aY (gI _ _ (jF _ _ _ h)) ?_;rw[show (s.extract 0 2).data.toList=Txt.part s 0 2 from rfl];go_wp21;refine aY (gI _ _ (jF _ _ _ h)) ?_;rw[show (s.extract 3 s.size).data.toList=Txt.part s 3 5 from by rw[j];rfl];go_wp2;go_ret2;exact⟨gb (by simp[Txt.eA,aO f,g,i]) (by simp[aO f,g,i]),rfl⟩
    .by_cases x:Txt.dG (Txt.part s 0 2)<=23
     .by_cases C:Txt.dG (Txt.part s 3 5)<=59
      .go_in
       go_wp21;refine aY (gI _ _ (jF _ _ _ h)) ?_;rw[show (s.extract 0 2).data.toList=Txt.part s 0 2 from rfl];go_wp21;refine aY (gI _ _ (jF _ _ _ h)) ?_;rw[show (s.extract 3 s.size).data.toList=Txt.part s 3 5 from by rw[j];rfl];go_wp2;go_ret2;exact⟨gb (by simp[Txt.eA,aO f,g,i,x,C]) (by simp[aO f,g,i,x,C]),rfl⟩
      .go_in
       go_wp21;refine aY (gI _ _ (jF _ _ _ h)) ?_;rw[show (s.extract 0 2).data.toList=Txt.part s 0 2 from rfl];go_wp21;refine aY (gI _ _ (jF _ _ _ h)) ?_;rw[show (s.extract 3 s.size).data.toList=Txt.part s 3 5 from by rw[j];rfl];go_wp2;go_ret2;have p:¬ Txt.dG (Txt.part s 3 5)<=59:=O;exact⟨gb (by simp[Txt.eA,aO f,g,i,x,p]) (by simp[aO f,g,i,x,p]),rfl⟩
     .go_in
      go_wp21;refine aY (gI _ _ (jF _ _ _ h)) ?_;rw[show (s.extract 0 2).data.toList=Txt.part s 0 2 from rfl];go_wp21;refine aY (gI _ _ (jF _ _ _ h)) ?_;rw[show (s.extract 3 s.size).data.toList=Txt.part s 3 5 from by rw[j];rfl];go_wp2;go_ret2;have q:¬ Txt.dG (Txt.part s 0 2)<=23:=O;exact⟨gb (by simp[Txt.eA,aO f,g,i,q]) (by simp[aO f,g,i,q]),rfl⟩
  .have D:(((s[2]'o).toNat:N) != 58)=UE:=qB (by rw[<- Txt.mz];exact k);have f:Hid (Txt.dZ s=UD):=Txt.Bk O;clear u k
   go_in;go_wp2;go_ret2;exact⟨gb (by simp[Txt.eA,f.out]) (by rw[f]),rfl⟩
 .have F:((s.size:N) != 5)=UE:=qB O;have f:Hid (Txt.dZ s=UD):=Txt.Bk O;clear u
  go_in;go_wp2;go_ret2;exact⟨gb (by simp[Txt.eA,f.out]) (by rw[f]),rfl⟩
theorem zj(s:Us)(w:UF)(ht:hI w)(L:s.size<=maxLen):UI prog 180 #[s] w fun e w'=>e=UW (US #[V Y (Txt.gh s),Txt.jY s])/\w'=w:=by
 have g:=hide L;clear L;by_cases x:s.size=10
 .have W:((s.size:N) != 10)=UD:=qA O;have H:4<s.size:=O
  have F:7<s.size:=O;have h4:(4:N)<(s.size:N):=O;have h7:(7:N)<(s.size:N):=O;have h8:(8:N)<=(s.size:N):=O;by_cases C:Txt.fK s 4=45
  .have T:(((s[4]'H).toNat:N) != 45)=UD:=qA (by rw[<- Txt.mz];exact C)
   by_cases D:Txt.fK s 7=45
   .have S:(((s[7]'F).toNat:N) != 45)=UD:=qA (by rw[<- Txt.mz];exact D);have b1:=Txt.lT (Txt.part s 0 4);have b2:=Txt.lT (Txt.part s 5 7);have b3:=Txt.lT (Txt.part s 8 10);have f:=hide (Txt.JC x C D);have K:=hide x;clear x C D;have P:∃ p u n3:Uv,Txt.isNum (Txt.part s 0 4)=p/\Txt.isNum (Txt.part s 5 7)=u/\Txt.isNum (Txt.part s 8 10)=n3:=⟨_,_,_,rfl,rfl,rfl⟩;obtain⟨p,u,n3,i,j,k⟩:=P;have o:p=UD\/(p=UE/\u=UD)\/(p=UE/\u=UE/\n3=UD)\/(p=UE/\u=UE/\n3=UE):=by cases p <;> cases u <;> cases n3 <;> simp
    rcases o with h|⟨h,I⟩|⟨h,I,q⟩|⟨h,I,q⟩
    .subst h;clear j k
     go_in;go_wp21;refine aY (gI _ _ (jF _ _ _ g)) ?_;rw[show (s.extract 0 4).data.toList=Txt.part s 0 4 from rfl];go_wp21;refine aY (gI _ _ (jF _ _ _ g)) ?_;rw[show (s.extract 5 7).data.toList=Txt.part s 5 7 from rfl];go_wp21;refine aY (gI _ _ (jF _ _ _ g)) ?_;rw[show (s.extract 8 s.size).data.toList=Txt.part s 8 10 from by rw[K];rfl];go_wp2;go_ret2;exact⟨gb (by simp[Txt.gh,aO f,i]) (by simp[aO f,i]),rfl⟩
    .subst h I;clear k
     go_in;go_wp21;refine aY (gI _ _ (jF _ _ _ g)) ?_;rw[show (s.extract 0 4).data.toList=Txt.part s 0 4 from rfl];go_wp21;refine aY (gI _ _ (jF _ _ _ g)) ?_;rw[show (s.extract 5 7).data.toList=Txt.part s 5 7 from rfl];go_wp21;refine aY (gI _ _ (jF _ _ _ g)) ?_;rw[show (s.extract 8 s.size).data.toList=Txt.part s 8 10 from by rw[K];rfl];go_wp2;go_ret2;exact⟨gb (by simp[Txt.gh,aO f,i,j]) (by simp[aO f,i,j]),rfl⟩
    .subst h I q
     go_in;go_wp21;refine aY (gI _ _ (jF _ _ _ g)) ?_;rw[show (s.extract 0 4).data.toList=Txt.part s 0 4 from rfl];go_wp21;refine aY (gI _ _ (jF _ _ _ g)) ?_;rw[show (s.extract 5 7).data.toList=Txt.part s 5 7 from rfl];go_wp21;refine aY (gI _ _ (jF _ _ _ g)) ?_;rw[show (s.extract 8 s.size).data.toList=Txt.part s 8 10 from by rw[K];rfl];go_wp2;go_ret2;exact⟨gb (by simp[Txt.gh,aO f,i,j,k]) (by simp[aO f,i,j,k]),rfl⟩
    .subst h I q
     cases z:Cal.ok (Txt.dG (Txt.part s 0 4)) (Txt.dG (Txt.part s 5 7)) (Txt.dG (Txt.part s 8 10))
     .go_in
      go_wp21;refine aY (gI _ _ (jF _ _ _ g)) ?_;rw[show (s.extract 0 4).data.toList=Txt.part s 0 4 from rfl];go_wp21;refine aY (gI _ _ (jF _ _ _ g)) ?_;rw[show (s.extract 5 7).data.toList=Txt.part s 5 7 from rfl];go_wp21;refine aY (gI _ _ (jF _ _ _ g)) ?_;rw[show (s.extract 8 s.size).data.toList=Txt.part s 8 10 from by rw[K];rfl];go_wp21;refine aY (AZ _ _ _ _ ht z) ?_;go_wp2;go_ret2;exact⟨gb (by simp[Txt.gh,aO f,i,j,k,z]) (by simp[aO f,i,j,k,z]),rfl⟩
     .go_in
      go_wp21;refine aY (gI _ _ (jF _ _ _ g)) ?_;rw[show (s.extract 0 4).data.toList=Txt.part s 0 4 from rfl];go_wp21;refine aY (gI _ _ (jF _ _ _ g)) ?_;rw[show (s.extract 5 7).data.toList=Txt.part s 5 7 from rfl];go_wp21;refine aY (gI _ _ (jF _ _ _ g)) ?_;rw[show (s.extract 8 s.size).data.toList=Txt.part s 8 10 from by rw[K];rfl];go_wp21;refine aY (A5 _ _ _ _ ht z) ?_;go_wp2;go_ret2;exact⟨gb (by simp[Txt.gh,aO f,i,j,k,z]) (by simp[aO f,i,j,k,z]),rfl⟩
   .have S:(((s[7]'F).toNat:N) != 45)=UE:=qB (by rw[<- Txt.mz];exact D);have f:Hid (Txt.jY s=UD):=Txt.wD O;clear x C D
    go_in;go_wp2;go_ret2;exact⟨gb (by simp[Txt.gh,f.out]) (by rw[f]),rfl⟩
  .have T:(((s[4]'H).toNat:N) != 45)=UE:=qB (by rw[<- Txt.mz];exact C);have f:Hid (Txt.jY s=UD):=Txt.wD O;clear x C
   go_in;go_wp2;go_ret2;exact⟨gb (by simp[Txt.gh,f.out]) (by rw[f]),rfl⟩
 .have W:((s.size:N) != 10)=UE:=qB O;have f:Hid (Txt.jY s=UD):=Txt.wD O;clear x
  go_in;go_wp2;go_ret2;exact⟨gb (by simp[Txt.gh,f.out]) (by rw[f]),rfl⟩
structure Kept(R:M)(w w':UF):Prop where
 os:w'.os=w.os
 tape:w'.tape=w.tape
 output:w'.output=w.output
 size:w<=w'.heap.size
 block:∀ k,k<w.heap.size->k≠R->w'.heap[k]?=w.heap[k]?
theorem Kept.refl(R:M)(w:UF):Kept R w w:=⟨rfl,rfl,rfl,UY _,fun _ _ _=>rfl⟩
theorem Kept.trans{a b c:UF}(h:Kept R a b)(k:Kept R b c):Kept R a c :=⟨k.os.trans h.os,k.tape.trans h.tape,k.output.trans h.output,U0 h.size k.size,fun i hi f=>(k.block i (zL hi h.size) f).trans (h.block i hi f)⟩
theorem Kept.aD(h:UH w w w'):Kept R w w':=⟨h.os,h.tape,h.output,h.size,fun k f _=>h.block k f⟩
theorem Kept.drewN(h:Kept R w w')(n:M):Kept R w (w'.drewN n):=⟨h.os,h.tape,h.output,h.size,h.block⟩
theorem Kept.setCell(h:Kept R w w')(o:M)(v:UG):Kept R w (w'.setCell (R,o) v) :=h.trans ⟨(Below.setCell (B:=0) (Below.refl 0 w') (zN _) v).os,(Below.setCell (B:=0) (Below.refl 0 w') (zN _) v).tape,(Below.setCell (B:=0) (Below.refl 0 w') (zN _) v).output,(Below.setCell (B:=0) (Below.refl 0 w') (p:=(R,o)) (zN _) v).size,fun k _ f=>Below.heap_setCell w' _ v k f⟩
theorem Kept.below(h:Kept R w w')(g:B<=R)(i:B<=w):UH B w w' :=⟨h.os,h.tape,h.output,h.size,fun k f=>h.block k (zL f i) (Nat.ne_of_lt (zL f g))⟩
theorem Kept.cell(h:Kept R w w'){b o:M}(f:b≠R)(g:w.cell? (b,o)=U v):w'.cell? (b,o)=U v :=(zo (w:=w) (h.block b (U1 _ _ g) f)).trans g
structure RS(w:UF)(R A:M)(ws:J Us)(nx:M)(wr:Uv):Prop where
 c0:w.cell? (R,0)=U (UO A ws.length ws.length)
 c1:w.cell? (R,1)=U (V Y nx)
 c2:w.cell? (R,2)=U ↑wr
 f1:w.frozen? (R,1)=UD
 f2:w.frozen? (R,2)=UD
 ne:A≠R
 rows:∀ (i:M) (h:i<ws.length),w.cell? (A,i)=U (UQ ws[i])
 len:ws.length<=160
 xU:nx<=ws.length
 short:∀ x∈ws,x.size<=160
theorem RS.aD(h:RS w R A ws nx wr)(f:UH w w w'):RS w' R A ws nx wr :=⟨cell_later f h.c0,cell_later f h.c1,cell_later f h.c2,(f.frozen (U1 _ _ h.c1)).trans h.f1,(f.frozen (U1 _ _ h.c2)).trans h.f2,h.ne,fun i hi=>cell_later f (h.rows i hi),h.len,h.xU,h.short⟩
theorem RS.drewN(h:RS w R A ws nx wr)(n:M):RS (w.drewN n) R A ws nx wr:=⟨h.c0,h.c1,h.c2,h.f1,h.f2,h.ne,h.rows,h.len,h.xU,h.short⟩
def dN(n nx:M)(wr:Uv):Uv:=!wr && decide (nx<n)
theorem kf(R A:M)(ws:J Us)(nx:M)(wr:Uv)(w:UF)(h:RS w R A ws nx wr):UI prog 60 #[R] w fun e w'=>e=UW (dN ws.length nx wr)/\∃ n,w'=w.drewN n:=by
 have i:=h.c0;have g:=h.c1;have f:=h.c2;clear h
 cases wr
 .go_in
  go_wp2;go_quiet (fail);go_wp2;go_ret;exact⟨fJ (by simp[dN]),_,rfl⟩
 .go_in
  go_wp2;go_quiet (fail);go_wp2;go_ret;exact⟨fJ (by simp[dN]),_,rfl⟩
theorem a9d{n:M}(h:¬ (wr=UD/\nx<n)):dN n nx wr=UD:=by
 unfold dN
 cases wr
 .simp;simp at h;exact h
 .rfl
theorem Ta(R A:M)(ws:J Us)(nx:M)(wr:Uv)(f:Us)(w:UF)(h:RS w R A ws nx wr)(g:dN ws.length nx wr=UD):UI prog 87 #[R,f] w fun e w'=>e=UW UD/\∃ n,w'=w.drewN n:=by
 go_in;go_wp2;go_quiet ((go_at_call 60;exact Yl (kf R A ws nx wr _ (h.drewN _))));go_wp2;go_ret;exact⟨rfl,_,rfl⟩
theorem c2Z(R A:M)(ws:J Us)(nx:M)(wr:Uv)(f:Us)(w:UF)(h:RS w R A ws nx wr)(i:dN ws.length nx wr=UE)(g:nx<ws.length)(j:(ws[nx].toList==f.toList)=UD):UI prog 87 #[R,f] w fun e w'=>e=UW UD/\∃ n,w'=w.drewN n:=by
 have q:=h.c0;have p:=h.c1;have o:=h.c2;have k:=h.rows nx g;have hi:(nx:N)<(ws.length:N):=O;go_in;go_wp2;go_quiet ((go_at_call 60;exact Yl (kf R A ws nx wr _ (h.drewN _))));go_wp2;go_ret;exact⟨rfl,_,rfl⟩
theorem RS.step(h:RS w R A ws nx wr)(f:nx<ws.length):RS (w.setCell (R,1) (V Y ((nx:N)+1))) R A ws (nx+1) wr :=
 ⟨(bC Ui).trans h.c0,Ve _ _ _ h.c1,(bC Ui).trans h.c2,(zF ..).trans h.f1,(zF ..).trans h.f2,h.ne,fun i hi=>(bC (by simp;intro e;exact UA e.symm h.ne)).trans (h.rows i hi),h.len,f,h.short⟩
theorem RS.bad(h:RS w R A ws nx wr):RS (w.setCell (R,2) UE) R A ws nx UE :=
 ⟨(bC Ui).trans h.c0,(bC Ui).trans h.c1,Ve _ _ _ h.c2,(zF ..).trans h.f1,(zF ..).trans h.f2,h.ne,fun i hi=>(bC (by simp;intro e;exact UA e.symm h.ne)).trans (h.rows i hi),h.len,h.xU,h.short⟩
theorem Tb(R A:M)(ws:J Us)(nx:M)(wr:Uv)(f:Us)(w:UF)(h:RS w R A ws nx wr)(i:dN ws.length nx wr=UE)(g:nx<ws.length)(k:(ws[nx].toList==f.toList)=UE):UI prog 87 #[R,f] w fun e w'=>e=UW UE/\RS w' R A ws (nx+1) wr/\Kept R w w':=by
 have x:=h.c0;have u:=h.c1;have q:=h.c2;have o:=h.f1;have p:=h.rows nx g;have j:=h.len;have hi:(nx:N)<(ws.length:N):=O;go_in;go_wp2;go_quiet ((go_at_call 60;exact Yl (kf R A ws nx wr _ (h.drewN _))));go_wp2;go_ret;exact⟨rfl,(h.drewN _).step g,((Kept.refl R w).drewN _).setCell _ _⟩
def bP(ws:J Us)(nx:M)(wr:Uv)(f:Us):Uv:=dN ws.length nx wr && ((ws.getD nx Ym).toList==f.toList)
theorem kQ(R A:M)(ws:J Us)(nx:M)(wr:Uv)(f:Us)(w:UF)(h:RS w R A ws nx wr):UI prog 87 #[R,f] w fun e w'=>e=UW (bP ws nx wr f)/\RS w' R A ws (if bP ws nx wr f then nx+1 else nx) wr/\Kept R w w':=by
 cases i:dN ws.length nx wr
 .have e:bP ws nx wr f=UD:=by simp[bP,i]
  rw[e];refine aK (Ta R A ws nx wr f w h i) ?_;rintro w' ⟨n,rfl⟩;exact⟨rfl,h.drewN n,(Kept.refl R w).drewN n⟩
 .have g:nx<ws.length:=by by_cases g:nx<ws.length;exact g;rw[a9d O] at i;cases i
  have k:ws.getD nx Ym=ws[nx]:=by simp[List.getD,g]
  cases j:(ws[nx].toList==f.toList)
  .have e:bP ws nx wr f=UD:=by rw[bP,k,j,Yn]
   rw[e];refine aK (c2Z R A ws nx wr f w h i g j) ?_;rintro w' ⟨n,rfl⟩;exact⟨rfl,h.drewN n,(Kept.refl R w).drewN n⟩
  .have e:bP ws nx wr f=UE:=by rw[bP,k,j,i];rfl
   rw[e];exact Tb R A ws nx wr f w h i g j
theorem EJ(R A:M)(ws:J Us)(nx:M)(wr:Uv)(f:Us)(w:UF)(h:RS w R A ws nx wr):UI prog 137 #[R,f] w fun e w'=>e=UW (US #[])/\RS w' R A ws (if bP ws nx wr f then nx+1 else nx) (if bP ws nx wr f then wr else UE)/\Kept R w w':=by
 cases j:bP ws nx wr f
 .go_in
  go_wp21;refine aK (kQ R A ws nx wr f w h) ?_;rintro w' ⟨g,i⟩;rw[j] at g ⊢;have o:=g.c2;have k:=g.f2;go_wp2;go_end0;exact⟨rfl,g.bad,i.setCell _ _⟩
 .go_in
  go_wp21;refine aK (kQ R A ws nx wr f w h) ?_;rintro w' ⟨g,i⟩;rw[j] at g ⊢;go_wp2;go_end0;exact⟨rfl,g,i⟩
def fQ(ws:J Us)(nx:M)(wr:Uv)(B:Us->Uv):Uv:=dN ws.length nx wr && B (ws.getD nx Ym)
def fP(ws:J Us)(nx:M)(wr:Uv)(B:Us->Uv):M:=if fQ ws nx wr B then nx+1 else nx
def fL(ws:J Us)(nx:M)(wr:Uv)(B:Us->Uv):Uv:=if fQ ws nx wr B then wr else UE
def gS(ws:J Us)(nx:M)(wr:Uv)(B:Us->Uv)(f:Us->N):N:=if fQ ws nx wr B then f (ws.getD nx Ym) else 0
theorem sH{n:M}(h:dN n nx wr=UE):nx<n:=by grind[dN]
theorem sC(ws:J Us)(nx:M)(h:nx<ws.length):ws.getD nx Ym=ws[nx]:=by simp[List.getD,h]
theorem za(f:UG)(R A:M)(ws:J Us)(nx:M)(wr:Uv)(w:UF)(h:RS w R A ws nx wr)(k:dN ws.length nx wr=UD):UI prog 138 #[R,f] w fun e w'=>e=UW (V Y 0)/\RS w' R A ws nx UE/\Kept R w w':=by
 go_in;go_wp21;refine aK (kf R A ws nx wr w h) ?_;rintro w1 ⟨n,g⟩;have i:RS w1 R A ws nx wr:=by rw[g];exact h.drewN n
 have j:Kept R w w1:=by rw[g];exact (Kept.refl R w).drewN n
 have p:=i.c2;have o:=i.f2;clear g;go_wp2;go_ret;exact⟨rfl,i.bad,j.setCell _ _⟩
theorem b7N(R A:M)(ws:J Us)(nx:M)(wr:Uv)(w:UF)(h:RS w R A ws nx wr)(o:dN ws.length nx wr=UE)(g:nx<ws.length)(k:ws[nx].size<=maxLen)(q:Txt.isNum ws[nx].data.toList=UE):UI prog 138 #[R,.func (.func 142) #[] #[]] w fun e w'=>e=UW (V Y (Txt.dG ws[nx].data.toList))/\RS w' R A ws (nx+1) wr/\Kept R w w':=by
 have hi:(nx:N)<(ws.length:N):=O;go_in;go_wp21;refine aK (kf R A ws nx wr w h) ?_;rintro w1 ⟨n,i⟩;have f:RS w1 R A ws nx wr:=by rw[i];exact h.drewN n
 have j:Kept R w w1:=by rw[i];exact (Kept.refl R w).drewN n
 have C:=f.c0;have z:=f.c1;have u:=f.f1;have x:=f.rows nx g;have p:=f.len;clear i;go_wp2;go_quiet ((go_at_call 142;exact Yo (gI _ _ k)));go_wp2;go_ret;exact⟨rfl,(f.drewN _).step g,(j.drewN _).setCell _ _⟩
theorem b7O(R A:M)(ws:J Us)(nx:M)(wr:Uv)(w:UF)(h:RS w R A ws nx wr)(o:dN ws.length nx wr=UE)(i:nx<ws.length)(k:ws[nx].size<=maxLen)(q:Txt.isNum ws[nx].data.toList=UD):UI prog 138 #[R,.func (.func 142) #[] #[]] w fun e w'=>e=UW (V Y 0)/\RS w' R A ws nx UE/\Kept R w w':=by
 have hi:(nx:N)<(ws.length:N):=O;go_in;go_wp21;refine aK (kf R A ws nx wr w h) ?_;rintro w1 ⟨n,g⟩;have f:RS w1 R A ws nx wr:=by rw[g];exact h.drewN n
 have j:Kept R w w1:=by rw[g];exact (Kept.refl R w).drewN n
 have D:=f.c0;have C:=f.c1;have z:=f.c2;have u:=f.f2;have x:=f.rows nx i;have p:=f.len;clear g;go_wp2;go_quiet ((go_at_call 142;exact Yo (gI _ _ k)));go_wp2;go_ret;exact⟨rfl,(f.drewN _).bad,(j.drewN _).setCell _ _⟩
structure Env(w:UF):Prop where
 jH:hI w
 uG:∃ m,w.cell? (4,0)=U (V Y m)
 pow : Lib.TabIs prog w "internal/strconv.uint64pow10" .u64 Lib.pow10Tab
 size:10<=w.heap.size
 mo:w.cell? (5,0)=U (UQ ⟨#[109,111]⟩)
 tu:w.cell? (5,1)=U (UQ ⟨#[116,117]⟩)
 we:w.cell? (5,2)=U (UQ ⟨#[119,101]⟩)
 th:w.cell? (5,3)=U (UQ ⟨#[116,104]⟩)
 fr:w.cell? (5,4)=U (UQ ⟨#[102,114]⟩)
 sa:w.cell? (5,5)=U (UQ ⟨#[115,97]⟩)
 su:w.cell? (5,6)=U (UQ ⟨#[115,117]⟩)
theorem vP : prog.globalNamed "internal/strconv.uint64pow10" = U 1 := by kernel_rfl
theorem Env.later(h:Env w)(f:UH w w wx):Env wx:=by let⟨m,hm⟩:=h.uG;refine⟨h.jH.later f,⟨m,cell_later f hm⟩,?_,U0 h.size f.size,cell_later f h.mo,cell_later f h.tu,cell_later f h.we,cell_later f h.th,cell_later f h.fr,cell_later f h.sa,cell_later f h.su⟩;have g:=h.pow;have i:=h.size;unfold Lib.TabIs World.var? at g ⊢;simp only[vP,Option.bind_some] at g ⊢;rw[f.block 1 O];exact g
theorem Env.drewN(h:Env w)(n:M):Env (w.drewN n):=h.later (w:=w) (wx:=w.drewN n) ⟨rfl,rfl,rfl,UY _,fun _ _=>rfl⟩
theorem AR{a b:Us}{d:Uv}(h:a=b)(g:c=d):UW (US #[a,c])=UW (US #[b,d]):=by rw[h,g]
theorem Ll(s:Us)(w:UF)(f:s.size<=281474976710656):UI prog 147 #[s] w fun e w'=>e=UW s/\UH w w w':=by
 go_in;go_wp21;refine aK (stringslite_Clone s w f) fun w' g=>?_;go_wp2;go_ret;exact⟨rfl,g⟩
def tJ(s:Us):Us:=if Txt.gP s.data.toList then s else ⟨#[]⟩
theorem MK(s:Us)(w:UF)(I:s.size<=160):UI prog 134 #[s] w fun e w'=>e=UW (US #[tJ s,Txt.gP s.data.toList])/\UH w w w':=by
 by_cases D:s.size=0
 .have H:Hid (Txt.gP s.data.toList=UD):=Txt.AY (by rw[Txt.iK];omega);have C:((s.size:N)==0)=UE:=beq_iff_eq.2 O
  go_in;go_wp2;go_ret2;exact⟨AR (by simp[tJ,H.out]) (by rw[H]),Below.refl _ _⟩
 .have C:((s.size:N)==0)=UD:=beq_eq_false_iff_ne.2 O
  by_cases L:8<s.size
  .have H:Hid (Txt.gP s.data.toList=UD):=Txt.AY (by rw[Txt.iK];omega);clear D
   go_in;go_wp2;go_ret2;exact⟨AR (by simp[tJ,H.out]) (by rw[H]),Below.refl _ _⟩
  .go_in
   go_wp2;go_loop [4] (fun i=>∃ k:M,k<=s.size/\i=V Y k/\Txt.qx (s.data.toList.take k)=UE) (fun i=>s.size-(intOf i).toNat)
   .exact⟨0,VM _,rfl,rfl⟩
   .obtain⟨k,K,rfl,p⟩:=hrel;have o:=hide p;clear p
    by_cases j:k<s.size
    .have u:Hid (s.data.toList.take (k+1)=s.data.toList.take k++[s[k]]):=Txt.A2 s k j
     by_cases g:Txt.low s[k]=UE
     .have f:=(Txt.Ax _).1 g;have h:=hide g;let⟨hc1,hc2⟩:=f;clear g;go_wp2
      go_round
      .exact⟨k+1,O,by go_num,by rw[u,Txt.AJ,o,h];rfl⟩
      .simp[intOf];omega
     .have h:Hid (Txt.gP s.data.toList=UD):=Txt.JV (Txt.Le _ (k+1) (by rw[u,Txt.AJ,o];simpa using g))
      have f:(s[k].toNat:N)<97\/(¬ (s[k].toNat:N)<97/\122<(s[k].toNat:N)):=by have:=mt (Txt.Ax s[k]).2 g;omega
      clear g;rcases f with f |⟨f,q⟩;all_goals go_wp2;go_ret2;exact⟨AR (by simp[tJ,h.out]) (by rw[h]),Below.refl _ _⟩
    .have F:Hid (s.data.toList.take k=s.data.toList):=Txt.uX s k O;have x:Hid (Txt.gP s.data.toList=UE):=Txt.KB (by rw[Txt.iK];omega) (by rw[Txt.iK];omega) (by rw[<- F];exact o)
     go_wp21;refine aK (Ll s w O) fun w' z=>?_;go_wp2;go_ret2;exact⟨AR (by simp[tJ,x.out]) (by rw[x]),z⟩
theorem Rm(s:Us)(w:UF)(D:s.size<=160):UI prog 78 #[s] w fun e w'=>e=UW (Txt.gP s.data.toList)/\w'=w:=by
 by_cases K:s.size<1
 .have H:Hid (Txt.gP s.data.toList=UD):=Txt.AY (by rw[Txt.iK];omega);have x:((s.size:N)<1):=O
  go_in;go_wp2;go_ret;exact⟨fJ (by rw[H]),rfl⟩
 .have x:¬ ((s.size:N)<1):=O
  by_cases I:8<s.size
  .have H:Hid (Txt.gP s.data.toList=UD):=Txt.AY (by rw[Txt.iK];omega)
   go_in;go_wp2;go_ret;exact⟨fJ (by rw[H]),rfl⟩
  .go_in
   go_wp2;go_loop [3] (fun i=>∃ k:M,k<=s.size/\i=V Y k/\Txt.qx (s.data.toList.take k)=UE) (fun i=>s.size-(intOf i).toNat)
   .exact⟨0,VM _,rfl,rfl⟩
   .obtain⟨k,F,rfl,p⟩:=hrel;have j:=hide p;clear p
    by_cases h:k<s.size
    .have u:Hid (s.data.toList.take (k+1)=s.data.toList.take k++[s[k]]):=Txt.A2 s k h
     by_cases g:Txt.low s[k]=UE
     .have f:=(Txt.Ax _).1 g;have o:=hide g;let⟨hc1,hc2⟩:=f;clear g;go_wp2
      go_round
      .exact⟨k+1,O,by go_num,by rw[u,Txt.AJ,j,o];rfl⟩
      .simp[intOf];omega
     .have o:Hid (Txt.gP s.data.toList=UD):=Txt.JV (Txt.Le _ (k+1) (by rw[u,Txt.AJ,j];simpa using g))
      have f:(s[k].toNat:N)<97\/(¬ (s[k].toNat:N)<97/\122<(s[k].toNat:N)):=by have:=mt (Txt.Ax s[k]).2 g;omega
      clear g;rcases f with f |⟨f,q⟩;all_goals go_wp2;go_ret;exact⟨fJ (by rw[o]),rfl⟩
    .have C:Hid (s.data.toList.take k=s.data.toList):=Txt.uX s k O;have z:Hid (Txt.gP s.data.toList=UE):=Txt.KB (by rw[Txt.iK];omega) (by rw[Txt.iK];omega) (by rw[<- C];exact j);go_wp2;go_ret;exact⟨fJ (by rw[z]),rfl⟩
theorem b3K(l:J UInt8):∀ acc:M,Txt.iI l=UE->∃ n:M,Yp acc l=U n/\(n:N)=l.foldl (fun n c=>n*10+((c.toNat:N)-48)) (acc:N):=by
 induction l with
 |nil=>intro acc _;exact⟨acc,rfl,rfl⟩
 |cons c l ih =>
  intro acc h;simp only[Txt.iI,Yq,Wu] at h;have f:=(Txt.rB c).1 h.1;let⟨n,h1,h2⟩:=ih (acc*10+(c.toNat-48)) h.2;refine⟨n,?_,?_⟩
  .simp only[Yp,Lib.digitVal];rw[Uz O];exact h1
  .rw[h2,List.foldl_cons]
   congr 1;omega
theorem c1z(l:J UInt8)(h:Txt.iI l=UE)(g:l≠[]):Yr l=U (Txt.jB l):=by
 let⟨n,h1,h2⟩:=b3K l 0 h
 cases l with
 |nil=>exact UA rfl g
 |cons b r =>
  simp only[Txt.iI,Yq,Wu] at h;have f:=(Txt.rB b).1 h.1;have j:(b==45)=UD:=by rw[beq_eq_false_iff_ne];intro e;subst e;revert f;decide
  have i:(b==43)=UD:=by rw[beq_eq_false_iff_ne];intro e;subst e;revert f;decide
  simp only[Yr,j,i,U7,if_false,Lib.decNat,List.isEmpty_cons,h1,Option.map_some];rw[h2];rfl
def cB(s:Us)(lo hi:M):N:=if lo<=s.size/\s.size<=hi/\Txt.iI s.data.toList=UE then Txt.jB s.data.toList else -1
theorem D6{s:Us}(h:¬ (lo<=s.size/\s.size<=hi)):cB s lo hi=-1:=by unfold cB;rw[Uy (fun g=>h ⟨g.1,g.2.1⟩)]
theorem Kz{s:Us}(h:Txt.iI s.data.toList=UD):cB s lo hi=-1:=by grind[cB,Txt.iI]
theorem Ka{s:Us}(g:lo<=s.size)(f:s.size<=hi)(h:Txt.iI s.data.toList=UE):cB s lo hi=Txt.jB s.data.toList:=by unfold cB;rw[Uz ⟨g,f,h⟩]
theorem gC(s:Us)(lo hi:M)(w:UF)(T:s.size<=160)(C:1<=lo)(D:hi<=7):UI prog 49 #[s,V Y lo,V Y hi] w fun e w'=>e=UW (V Y (cB s lo hi))/\UH w w w':=by
 by_cases h0:s.size<lo
 .have H:Hid (cB s lo hi=-1):=D6 O;have K:((s.size:N)<(lo:N)):=O
  go_in;go_wp2;go_ret;exact⟨iJ (by rw[H]),Below.refl _ _⟩
 .have K:¬ ((s.size:N)<(lo:N)):=O
  by_cases h7:hi<s.size
  .have H:Hid (cB s lo hi=-1):=D6 O;have I:((hi:N)<(s.size:N)):=O
   go_in;go_wp2;go_ret;exact⟨iJ (by rw[H]),Below.refl _ _⟩
  .have I:¬ ((hi:N)<(s.size:N)):=O
   go_in;go_wp2;go_loop [7] (fun i=>∃ k:M,k<=s.size/\i=V Y k/\Txt.iI (s.data.toList.take k)=UE) (fun i=>s.size-(intOf i).toNat)
   .exact⟨0,VM _,rfl,rfl⟩
   .obtain⟨k,W,rfl,u⟩:=hrel;have o:=hide u;clear u
    by_cases j:k<s.size
    .have z:Hid (s.data.toList.take (k+1)=s.data.toList.take k++[s[k]]):=Txt.A2 s k j
     by_cases h:Txt.tc s[k]=UE
     .have f:=(Txt.rB _).1 h;have p:=hide h;let⟨hc1,hc2⟩:=f;clear h;go_wp2
      go_round
      .exact⟨k+1,O,by go_num,by rw[z,Txt.yI,o,p];rfl⟩
      .simp[intOf];omega
     .have p:Hid (cB s lo hi=-1):=Kz (Txt.MD _ (k+1) (by rw[z,Txt.yI,o];simpa using h))
      have f:(s[k].toNat:N)<48\/(¬ (s[k].toNat:N)<48/\57<(s[k].toNat:N)):=by have:=mt (Txt.rB s[k]).2 h;omega
      clear h;rcases f with f |⟨f,x⟩;all_goals go_wp2;go_ret;exact⟨iJ (by rw[p]),Below.refl _ _⟩
    .have S:Hid (s.data.toList.take k=s.data.toList):=Txt.uX s k O;have g:Txt.iI s.data.toList=UE:=by rw[<- S];exact o
     have L:Hid (cB s lo hi=Txt.jB s.data.toList):=Ka O O g;have P:Hid (Yr s.data.toList=U (Txt.jB s.data.toList)):=c1z _ g (fun e=>by have:=Txt.iK s;rw[e] at this;simp at this;omega);clear g;go_wp21;refine aK (strconv_Atoi s _ O P w) ?_;rintro w' ⟨t,q⟩;have F:UH w w w':=by rw[q];exact Joins.below_bytesWorld _ _ _ _ aJ
     clear q;go_wp2;go_ret;exact⟨iJ (by rw[L]),F⟩
theorem re(s:Us)(a b:M)(h:s.size<=160):(s.extract a b).size<=160:=by have:(s.extract a b).size=min b s.size-a:=WX ..;omega
theorem vU(s:Us)(a b n:M)(h:min b s.size-a=n):(s.extract a b).size=n:=(WX ..).trans h
theorem yk(t:Us)(n:M)(h:t.size=n)(g:1<=n)(f:n<=7):cB t n n=if Txt.isNum t.data.toList then Txt.dG t.data.toList else -1:=by simp_all[cB,Txt.isNum,Txt.dG]
theorem xP(t:Us):cB t 1 7=if Txt.isNum t.data.toList then Txt.dG t.data.toList else -1:=by
 have i:=Txt.iK t
 cases f:Txt.iI t.data.toList
 .rw[Kz f,Txt.K5 f];rfl
 .by_cases h:1<=t.size/\t.size<=7
  .have g:=Txt.Mm O O f;rw[Ka h.1 h.2 f,g];simp[Txt.dG,g]
  .rw[D6 h,Txt.AE O];rfl
def jL(s:Us):N:=if Txt.dZ s then Txt.eA s else -1
def gK(s:Us):N:=if Txt.jY s=UE/\0<=Txt.gh s/\Txt.gh s<=728 then Txt.gh s else -1
theorem Ew{s:Us}(h:Txt.dZ s=UD):jL s=-1:=by simp[jL,h]
theorem Ah{s:Us}(h:Txt.jY s=UD):gK s=-1:=by simp[gK,h]
theorem Do(s:Us)(w:UF)(K:s.size<=160):UI prog 80 #[s] w fun e w'=>e=UW (V Y (jL s))/\UH w w w':=by
 by_cases j:s.size=5
 .have S:((s.size:N) != 5)=UD:=qA O;have p:2<s.size:=O
  have h6:(2:N)<(s.size:N):=O;have h7:(3:N)<=(s.size:N):=O;by_cases o:Txt.fK s 2=58
  .have P:(((s[2]'p).toNat:N) != 58)=UD:=qA (by rw[<- Txt.mz];exact o);have b1:=Txt.lT (Txt.part s 0 2);have b2:=Txt.lT (Txt.part s 3 5);have i:=hide (Txt.Ku j o);have I:cB (s.extract 0 2) 2 2=if Txt.isNum (Txt.part s 0 2) then Txt.dG (Txt.part s 0 2) else -1:=yk _ 2 (vU _ _ _ _ O) O O
   have H:cB (s.extract 3 s.size) 2 2=if Txt.isNum (Txt.part s 3 5) then Txt.dG (Txt.part s 3 5) else -1:=by rw[j];exact yk _ 2 (vU _ _ _ _ O) O O
   have h:∃ x y:N,cB (s.extract 0 2) 2 2=x/\cB (s.extract 3 s.size) 2 2=y:=⟨_,_,rfl,rfl⟩;obtain⟨x,y,h,u⟩:=h;have bx:-1<=x/\x<=9999999:=by rw[<- h,I];split <;> omega
   have W:-1<=y/\y<=9999999:=by rw[<- u,H];split <;> omega
   have HR:Hid (jL s=if x<0\/23<x\/y<0\/59<y then -1 else 60*x+y):=by
    show jL s=_;rw[<- h,<- u,I,H,jL,Txt.eA,aO i]
    cases Txt.isNum (Txt.part s 0 2)
    .simp
    .cases Txt.isNum (Txt.part s 3 5)
     .simp
     .simp only[Ys,if_true]
      by_cases D:Txt.dG (Txt.part s 0 2)<=23
      .by_cases L:Txt.dG (Txt.part s 3 5)<=59
       .simp only[D,L,decide_true,Yt,if_true];rw[Uy O];omega
       .simp only[D,L,decide_true,decide_false,Yn,U7,if_false];rw[Uz O]
      .simp only[D,decide_false,Bool.false_and,U7,if_false];rw[Uz O]
   have HX:=hide h;have HY:=hide u;clear I H h u j o b1 b2 i;have f:x<0\/(¬ x<0/\23<x)\/(¬ x<0/\¬ 23<x/\y<0)\/(¬ x<0/\¬ 23<x/\¬ y<0/\59<y)\/(¬ x<0/\¬ 23<x/\¬ y<0/\¬ 59<y):=O;rcases f with g|⟨g,F⟩|⟨g,F,q⟩|⟨g,F,q,T⟩|⟨g,F,q,T⟩;all_goals go_in;go_wp21;refine aK (gC (s.extract 0 2) 2 2 _ (re _ _ _ K) O O) fun w1 k=>?_;rw[aO HX];go_wp21;refine aK (gC (s.extract 3 s.size) 2 2 _ (re _ _ _ K) O O) fun w2 C=>?_;rw[aO HY];have z:=k.trans (C.mono k.size);go_wp2;go_ret;refine⟨iJ ?_,z⟩;rw[HR];first|rw[Uz O]|rw[Uy O]
  .have P:(((s[2]'p).toNat:N) != 58)=UE:=qB (by rw[<- Txt.mz];exact o);have i:=hide (Ew (Txt.Bk (s:=s) O));clear j o
   go_in;go_wp2;go_ret;exact⟨iJ (by rw[aO i]),Below.refl _ _⟩
 .have S:((s.size:N) != 5)=UE:=qB O;have i:=hide (Ew (Txt.Bk (s:=s) O));clear j
  go_in;go_wp2;go_ret;exact⟨iJ (by rw[aO i]),Below.refl _ _⟩
theorem xQ(s:Us)(w:UF)(q:s.size<=160):UI prog 79 #[s] w fun e w'=>e=UW (V Y (gK s))/\UH w w w':=by
 by_cases p:s.size=10
 .have h5:((s.size:N) != 10)=UD:=qA O;have H:4<s.size:=O
  have F:7<s.size:=O;have h4:(4:N)<(s.size:N):=O;have h7:(7:N)<(s.size:N):=O;have h8:(8:N)<=(s.size:N):=O;by_cases u:Txt.fK s 4=45
  .have hc:(((s[4]'H).toNat:N) != 45)=UD:=qA (by rw[<- Txt.mz];exact u)
   by_cases D:Txt.fK s 7=45
   .have he:(((s[7]'F).toNat:N) != 45)=UD:=qA (by rw[<- Txt.mz];exact D);have i:=hide (Txt.JC p u D);have T:cB (s.extract 0 4) 4 4=if Txt.isNum (Txt.part s 0 4) then Txt.dG (Txt.part s 0 4) else -1:=yk _ 4 (vU _ _ _ _ O) O O
    have S:cB (s.extract 5 7) 2 2=if Txt.isNum (Txt.part s 5 7) then Txt.dG (Txt.part s 5 7) else -1:=yk _ 2 (vU _ _ _ _ O) O O;have P:cB (s.extract 8 s.size) 2 2=if Txt.isNum (Txt.part s 8 10) then Txt.dG (Txt.part s 8 10) else -1:=by rw[p];exact yk _ 2 (vU _ _ _ _ O) O O
    have C:∃ x y z:N,cB (s.extract 0 4) 4 4=x/\cB (s.extract 5 7) 2 2=y/\cB (s.extract 8 s.size) 2 2=z:=⟨_,_,_,rfl,rfl,rfl⟩;obtain⟨x,y,z,C,L,K⟩:=C;have HR:Hid (gK s=if Cal.ok x y z=UE/\0<=Cal.num x y z/\Cal.num x y z<=728 then Cal.num x y z else -1):=by
     show gK s=_;rw[<- C,<- L,<- K,T,S,P,gK,Txt.gh,aO i]
     cases Txt.isNum (Txt.part s 0 4)
     .simp[nV (y:=-1) (m:=_) (d:=_) O]
     .cases Txt.isNum (Txt.part s 5 7)
      .simp[nV (y:=_) (m:=-1) (d:=_) O]
      .cases Txt.isNum (Txt.part s 8 10)
       .simp[nV (y:=_) (m:=_) (d:=-1) O]
       .simp only[Ys,if_true]
        cases Cal.ok (Txt.dG (Txt.part s 0 4)) (Txt.dG (Txt.part s 5 7)) (Txt.dG (Txt.part s 8 10)) <;> simp
    have HX:=hide C;have HY:=hide L;have W:=hide K;clear T S P C L K p u D i
    cases I:Cal.ok x y z
    .go_in
     go_wp21;refine aK (gC (s.extract 0 4) 4 4 _ (re _ _ _ q) O O) fun w1 f=>?_;rw[aO HX];go_wp21;refine aK (gC (s.extract 5 7) 2 2 _ (re _ _ _ q) O O) fun w2 h=>?_;rw[aO HY];go_wp21;refine aK (gC (s.extract 8 s.size) 2 2 _ (re _ _ _ q) O O) fun w3 o=>?_;rw[aO W];have k:=(f.trans (h.mono f.size)).trans (o.mono (U0 f.size h.size));go_wp21;refine aY (Hr _ _ _ _ I) ?_;go_wp2;go_ret;exact⟨iJ (by rw[HR,I];simp),k⟩
    .have j:Cal.num x y z<0\/(¬ Cal.num x y z<0/\728<Cal.num x y z)\/(¬ Cal.num x y z<0/\¬ 728<Cal.num x y z):=O
     rcases j with g|⟨g,g'⟩|⟨g,g'⟩;all_goals go_in;go_wp21;refine aK (gC (s.extract 0 4) 4 4 _ (re _ _ _ q) O O) fun w1 f=>?_;rw[aO HX];go_wp21;refine aK (gC (s.extract 5 7) 2 2 _ (re _ _ _ q) O O) fun w2 h=>?_;rw[aO HY];go_wp21;refine aK (gC (s.extract 8 s.size) 2 2 _ (re _ _ _ q) O O) fun w3 o=>?_;rw[aO W];have k:=(f.trans (h.mono f.size)).trans (o.mono (U0 f.size h.size));go_wp21;refine aY (H8 _ _ _ _ I) ?_;go_wp2;go_ret;refine⟨iJ ?_,k⟩;rw[HR];first|rw[Uy O]|rw[Uz ⟨I,O,O⟩]
   .have he:(((s[7]'F).toNat:N) != 45)=UE:=qB (by rw[<- Txt.mz];exact D);have i:=hide (Ah (Txt.wD (s:=s) O));clear p u D
    go_in;go_wp2;go_ret;exact⟨iJ (by rw[aO i]),Below.refl _ _⟩
  .have hc:(((s[4]'H).toNat:N) != 45)=UE:=qB (by rw[<- Txt.mz];exact u);have i:=hide (Ah (Txt.wD (s:=s) O));clear p u
   go_in;go_wp2;go_ret;exact⟨iJ (by rw[aO i]),Below.refl _ _⟩
 .have h5:((s.size:N) != 10)=UE:=qB O;have i:=hide (Ah (Txt.wD (s:=s) O));clear p
  go_in;go_wp2;go_ret;exact⟨iJ (by rw[aO i]),Below.refl _ _⟩
theorem c3v(s:Us):Txt.cU s=(Txt.jY s && decide (0<=Txt.gh s) && decide (Txt.gh s<728)):=by rw[Wy];simp[Txt.cU,and_assoc]
def dV(s:Us):N:=if Txt.cU s then Txt.gh s else 0
theorem MJ(s:Us)(w:UF)(ht:hI w)(q:s.size<=160):UI prog 139 #[s] w fun e w'=>e=UW (US #[V Y (dV s),Txt.cU s])/\w'=w:=by
 have i:s.size<=maxLen:=by unfold maxLen;omega
 have k:=hide (c3v s)
 cases j:Txt.jY s
 .go_in
  go_wp21;refine aY (zj s w ht i) ?_;go_wp2;go_ret2;exact⟨gb (by simp[dV,aO k,j]) (by simp[aO k,j]),rfl⟩
 .have f:Txt.gh s<0\/(¬ Txt.gh s<0/\728<=Txt.gh s)\/(¬ Txt.gh s<0/\¬ 728<=Txt.gh s):=O
  rcases f with g|⟨g,o⟩|⟨g,o⟩;all_goals have h:Hid (Txt.cU s=(decide (0<=Txt.gh s) && decide (Txt.gh s<728))):=(aO k).trans (by rw[j];rfl);go_in;go_wp21;refine aY (zj s w ht i) ?_;go_wp2;go_ret2;refine⟨gb ?_ ?_,rfl⟩
  .rw[dV,h,decide_eq_false O];rfl
  .rw[h,decide_eq_false O];rfl
  .rw[dV,h,decide_eq_false (p:=Txt.gh s<728) O,Yn];rfl
  .rw[h,decide_eq_false (p:=Txt.gh s<728) O,Yn]
  .rw[dV,h,decide_eq_true (p:=Txt.gh s<728) O,decide_eq_true (p:=0<=Txt.gh s) O];rfl
  .rw[h,decide_eq_true (p:=Txt.gh s<728) O,decide_eq_true (p:=0<=Txt.gh s) O];rfl
def ry(s:Us):N:=if Txt.isNum s.data.toList then Txt.dG s.data.toList else Txt.mQ s
def bB(s:Us):Uv:=(Txt.isNum s.data.toList || Txt.lq s) && decide (0<=ry s/\ry s<=1048320)
def cL(s:Us):N:=if bB s then ry s else 0
def eJ(s:Us):N:=if bB s then ry s else -1
theorem c1o(s:Us)(h:s.size<=160):(Txt.lK s).size<=160:=by rw[<- Txt.iK];unfold Txt.lK Wz;have:=Txt.iK s;split <;> simp <;> omega
theorem c1n(s:Us)(h:s.size<=160):(Txt.lP s).size<=160:=by rw[<- Txt.iK];unfold Txt.lP Wz;have:=Txt.iK s;split <;> simp <;> omega
theorem BC(s:Us)(w:UF)(j:Env w)(x:s.size<=160):UI prog 181 #[s] w fun e w'=>e=UW (US #[V Y (Txt.mQ s),Txt.lq s])/\∃ n,w'=w.drewN n:=by
 obtain⟨m,g⟩:=j.uG;have o:=hide j;have h:=hide (Txt.Tu s);have H:=Txt.Js (Txt.lK s);have F:=Txt.mR (Txt.lP s);have C:(Txt.lK s).size<=maxLen:=by have:=c1o s x;unfold maxLen;omega
 have z:(Txt.lP s).size<=maxLen:=by have:=c1n s x;unfold maxLen;omega
 have q:=hide C;have p:=hide z;clear j C z
 cases i:Txt.qW s
 .have f:Hid (Txt.lq s=UD):=by show Txt.lq s=UD;rw[<- (aO h).1,i];rfl
  go_in;go_wp21;refine aK (strings_Cut s ⟨#[47]⟩ m w O g) ?_;rintro w1 ⟨n,rfl⟩;rw[show (Wz s.data.toList (ByteArray.mk #[47]).data.toList).snd.snd=Txt.qW s from rfl];go_wp2;go_ret2;exact⟨gb (by simp[Txt.mQ,f.out]) (by rw[f]),_,rfl⟩
 .cases k:Txt.jY (Txt.lK s)
  .have f:Hid (Txt.lq s=UD):=by show Txt.lq s=UD;rw[<- (aO h).1,i,k];rfl
   go_in;go_wp21;refine aK (strings_Cut s ⟨#[47]⟩ m w O g) ?_;rintro w1 ⟨n,rfl⟩;rw[show (Wz s.data.toList (ByteArray.mk #[47]).data.toList).snd.snd=Txt.qW s from rfl,show (ByteArray.mk (Wz s.data.toList (ByteArray.mk #[47]).data.toList).fst.toArray)=Txt.lK s from rfl,show (ByteArray.mk (Wz s.data.toList (ByteArray.mk #[47]).data.toList).snd.fst.toArray)=Txt.lP s from rfl];go_wp21;refine aY (zj (Txt.lK s) _ ((aO o).drewN n).jH (aO q)) ?_;go_wp21;refine aY (zh (Txt.lP s) _ (aO p)) ?_;go_wp2;go_ret2;exact⟨gb (by simp[Txt.mQ,f.out]) (by rw[f]),_,rfl⟩
  .cases u:Txt.dZ (Txt.lP s)
   .have f:Hid (Txt.lq s=UD):=by show Txt.lq s=UD;rw[<- (aO h).1,i,k,u];rfl
    go_in;go_wp21;refine aK (strings_Cut s ⟨#[47]⟩ m w O g) ?_;rintro w1 ⟨n,rfl⟩;rw[show (Wz s.data.toList (ByteArray.mk #[47]).data.toList).snd.snd=Txt.qW s from rfl,show (ByteArray.mk (Wz s.data.toList (ByteArray.mk #[47]).data.toList).fst.toArray)=Txt.lK s from rfl,show (ByteArray.mk (Wz s.data.toList (ByteArray.mk #[47]).data.toList).snd.fst.toArray)=Txt.lP s from rfl];go_wp21;refine aY (zj (Txt.lK s) _ ((aO o).drewN n).jH (aO q)) ?_;go_wp21;refine aY (zh (Txt.lP s) _ (aO p)) ?_;go_wp2;go_ret2;exact⟨gb (by simp[Txt.mQ,f.out]) (by rw[f]),_,rfl⟩
   .have f:Hid (Txt.lq s=UE):=by show Txt.lq s=UE;rw[<- (aO h).1,i,k,u];rfl
    have D:=hide ((aO h).2 f);go_in;go_wp21;refine aK (strings_Cut s ⟨#[47]⟩ m w O g) ?_;rintro w1 ⟨n,rfl⟩;rw[show (Wz s.data.toList (ByteArray.mk #[47]).data.toList).snd.snd=Txt.qW s from rfl,show (ByteArray.mk (Wz s.data.toList (ByteArray.mk #[47]).data.toList).fst.toArray)=Txt.lK s from rfl,show (ByteArray.mk (Wz s.data.toList (ByteArray.mk #[47]).data.toList).snd.fst.toArray)=Txt.lP s from rfl];go_wp21;refine aY (zj (Txt.lK s) _ ((aO o).drewN n).jH (aO q)) ?_;go_wp21;refine aY (zh (Txt.lP s) _ (aO p)) ?_;go_wp2;go_ret2;exact⟨gb (aO D) (by rw[f]),_,rfl⟩
theorem JO{s:Us}(h:Txt.isNum s.data.toList=UE):bB s=decide (Txt.dG s.data.toList<=1048320)/\ry s=Txt.dG s.data.toList:=by
 have b:=Txt.lT s.data.toList;have e:ry s=Txt.dG s.data.toList:=by simp[ry,h]
 refine⟨?_,e⟩;unfold bB;rw[e,h,Wy];simp;omega
theorem Dz{s:Us}(h:Txt.isNum s.data.toList=UD):bB s=(Txt.lq s && decide (0<=Txt.mQ s/\Txt.mQ s<=1048320))/\ry s=Txt.mQ s:=by
 have e:ry s=Txt.mQ s:=by simp[ry,h]
 exact⟨by unfold bB;rw[e,h];rfl,e⟩
theorem MQ(s:Us)(w:UF)(x:Env w)(k:s.size<=160):UI prog 143 #[s] w fun e w'=>e=UW (US #[V Y (cL s),bB s])/\∃ n,w'=w.drewN n:=by
 have p:=hide x;have h:s.size<=maxLen:=by unfold maxLen;omega
 clear x
 cases u:Txt.isNum s.data.toList
 .have i:=hide (Dz u)
  cases o:Txt.lq s
  .have f:Hid (bB s=UD):=by show bB s=UD;rw[(aO i).1,o];rfl
   go_in;go_wp21;refine aY (gI s w h) ?_;go_wp21;refine aK (BC s _ (aO p) k) ?_;rintro w1 ⟨n,rfl⟩;go_wp2;go_ret2;exact⟨gb (by simp[cL,f.out]) (by rw[f]),_,rfl⟩
  .have j:Txt.mQ s<0\/(¬ Txt.mQ s<0/\1048320<Txt.mQ s)\/(¬ Txt.mQ s<0/\¬ 1048320<Txt.mQ s):=O
   rcases j with g|⟨g,z⟩|⟨g,z⟩
   .have f:Hid (bB s=UD):=by show bB s=UD;rw[(aO i).1,o,decide_eq_false O];rfl
    go_in;go_wp21;refine aY (gI s w h) ?_;go_wp21;refine aK (BC s _ (aO p) k) ?_;rintro w1 ⟨n,rfl⟩;go_wp2;go_ret2;exact⟨gb (by simp[cL,f.out]) (by rw[f]),_,rfl⟩
   .have f:Hid (bB s=UD):=by show bB s=UD;rw[(aO i).1,o,decide_eq_false O];rfl
    go_in;go_wp21;refine aY (gI s w h) ?_;go_wp21;refine aK (BC s _ (aO p) k) ?_;rintro w1 ⟨n,rfl⟩;go_wp2;go_ret2;exact⟨gb (by simp[cL,f.out]) (by rw[f]),_,rfl⟩
   .have f:Hid (bB s=UE):=by show bB s=UE;rw[(aO i).1,o,decide_eq_true O];rfl
    have q:=hide (aO i).2;go_in;go_wp21;refine aY (gI s w h) ?_;go_wp21;refine aK (BC s _ (aO p) k) ?_;rintro w1 ⟨n,rfl⟩;go_wp2;go_ret2;exact⟨gb (by simp[cL,f.out,aO q]) (by rw[f]),_,rfl⟩
 .have i:=hide (JO u);have b:=Txt.lT s.data.toList
  by_cases g:1048320<Txt.dG s.data.toList
  .have f:Hid (bB s=UD):=by show bB s=UD;rw[(aO i).1,decide_eq_false O]
   go_in;go_wp21;refine aY (gI s w h) ?_;go_wp2;go_ret2;exact⟨gb (by simp[cL,f.out]) (by rw[f]),0,rfl⟩
  .have f:Hid (bB s=UE):=by show bB s=UE;rw[(aO i).1,decide_eq_true O]
   have q:=hide (aO i).2;go_in;go_wp21;refine aY (gI s w h) ?_;go_wp2;go_ret2;exact⟨gb (by simp[cL,f.out,aO q]) (by rw[f]),0,rfl⟩
theorem PZ{s:Us}(h:s.size=16):Txt.isNum s.data.toList=UD:=Txt.AE (by simp_all)
theorem Qc{s:Us}(j:s.size=16)(p:Txt.fK s 10=47):eJ s=if gK (s.extract 0 10)<0\/jL (s.extract 11 16)<0\/1048320<1440*gK (s.extract 0 10)+jL (s.extract 11 16) then -1 else 1440*gK (s.extract 0 10)+jL (s.extract 11 16):=by
 have ⟨e1,e2⟩:=Dz (PZ j);have x:=Txt.mR (s.extract 11 16);have z:=Txt.Js (s.extract 0 10);have f:Txt.lq s=(Txt.jY (s.extract 0 10) && Txt.dZ (s.extract 11 16)):=by rw[Wy];simp[Txt.lq,j,p]
 unfold eJ;rw[e1,e2,Txt.mQ,f]
 cases o:Txt.jY (s.extract 0 10)
 .rw[Ah o];simp
 .cases k:Txt.dZ (s.extract 11 16)
  .rw[Ew k];simp
  .have u:jL (s.extract 11 16)=Txt.eA (s.extract 11 16):=by simp[jL,k]
   simp only[Yt,Ys,if_true,u,decide_eq_true_eq];by_cases g:0<=Txt.gh (s.extract 0 10)/\Txt.gh (s.extract 0 10)<=728
   .have i:gK (s.extract 0 10)=Txt.gh (s.extract 0 10):=by simp[gK,o,g]
    rw[i];by_cases q:Txt.gh (s.extract 0 10)*1440+Txt.eA (s.extract 11 16)<=1048320
    .rw[Uz O,Uy O];omega
    .rw[Uy O,Uz O]
   .have i:gK (s.extract 0 10)=-1:=by unfold gK;rw[Uy (fun h=>g h.2)]
    rw[i,Uy O,Uz O]
theorem Iv{s:Us}(h:¬ (s.size=16/\Txt.fK s 10=47)):eJ s=if 1048320<cB s 1 7 then -1 else cB s 1 7:=by
 have f:Txt.lq s=UD:=by
  cases j:Txt.lq s
  .rfl
  .have:=of_decide_eq_true j;exact UA ⟨this.1,this.2.1⟩ h
 rw[xP]
 cases i:Txt.isNum s.data.toList
 .have ⟨e1,e2⟩:=Dz i;unfold eJ;rw[e1,f];simp
 .have ⟨e1,e2⟩:=JO i;unfold eJ;rw[e1,e2]
  by_cases g:Txt.dG s.data.toList<=1048320;rw[decide_eq_true g];simp;omega;rw[decide_eq_false g];simp;omega
theorem tj(s:Us)(w:UF)(C:s.size<=160):UI prog 50 #[s] w fun e w'=>e=UW (V Y (eJ s))/\UH w w w':=by
 by_cases k:s.size=16
 .have L:((s.size:N)==16)=UE:=beq_iff_eq.2 O;have p:10<s.size:=O
  have W:(10:N)<(s.size:N):=O;have T:(11:N)<=(s.size:N):=O;by_cases o:Txt.fK s 10=47
  .have K:(((s[10]'p).toNat:N)==47)=UE:=beq_iff_eq.2 (by rw[<- Txt.mz];exact o);have i:=hide (Qc k o);have f:∃ x y:N,gK (s.extract 0 10)=x/\jL (s.extract 11 16)=y:=⟨_,_,rfl,rfl⟩;obtain⟨x,y,f,z⟩:=f;have bx:-1<=x/\x<=728:=by rw[<- f,gK];split <;> omega
   have P:-1<=y/\y<=1439:=by have:=Txt.mR (s.extract 11 16);rw[<- z,jL];split <;> omega
   have q:=hide f;have S:Hid (jL (s.extract 11 s.size)=y):=by show jL (s.extract 11 s.size)=y;rw[k];exact z
   have u:Hid (eJ s=if x<0\/y<0\/1048320<1440*x+y then -1 else 1440*x+y):=by show eJ s=_;rw[aO i,f,z]
   clear f z k o i;have j:x<0\/(¬ x<0/\y<0)\/(¬ x<0/\¬ y<0/\1048320<1440*x+y)\/(¬ x<0/\¬ y<0/\¬ 1048320<1440*x+y):=O;rcases j with g|⟨g,I⟩|⟨g,I,H⟩|⟨g,I,H⟩;all_goals go_in;go_wp21;refine aK (xQ (s.extract 0 10) _ (re _ _ _ C)) fun w1 h=>?_;rw[aO q];go_wp21;refine aK (Do (s.extract 11 s.size) _ (re _ _ _ C)) fun w2 F=>?_;rw[S];have D:=h.trans (F.mono h.size);go_wp2;go_ret;refine⟨iJ ?_,D⟩;rw[u];first|rw[Uz O]|rw[Uy O]
  .have K:(((s[10]'p).toNat:N)==47)=UD:=beq_eq_false_iff_ne.2 (by rw[<- Txt.mz];exact o);have i:=hide (Iv (s:=s) O);clear k o;have f:∃ x:N,cB s 1 7=x:=⟨_,rfl⟩;obtain⟨x,f⟩:=f;have q:=hide f
   have u:Hid (eJ s=if 1048320<x then -1 else x):=by show eJ s=_;rw[aO i,f]
   clear f i;by_cases g:1048320<x;all_goals go_in;go_wp21;refine aK (gC s 1 7 _ C O O) fun w1 h=>?_;rw[aO q];go_wp2;go_ret;refine⟨iJ ?_,h⟩;rw[u];first|rw[Uz O]|rw[Uy O]
 .have L:((s.size:N)==16)=UD:=beq_eq_false_iff_ne.2 O;have i:=hide (Iv (s:=s) O);clear k;have f:∃ x:N,cB s 1 7=x:=⟨_,rfl⟩;obtain⟨x,f⟩:=f;have q:=hide f
  have u:Hid (eJ s=if 1048320<x then -1 else x):=by show eJ s=_;rw[aO i,f]
  clear f i;by_cases g:1048320<x;all_goals go_in;go_wp21;refine aK (gC s 1 7 _ C O O) fun w1 h=>?_;rw[aO q];go_wp2;go_ret;refine⟨iJ ?_,h⟩;rw[u];first|rw[Uz O]|rw[Uy O]
end Go.Proofs.YtolaacmheeaadaaGreatDoor
