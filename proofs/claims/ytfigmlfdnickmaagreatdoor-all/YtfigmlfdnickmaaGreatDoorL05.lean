import Derived.Test.YtfigmlfdnickmaaGreatDoorL04
import Derived.Test.YtfigmlfdnickmaaGreatDoorProg
import Derived.Test.YtfigmlfdnickmaaGreatDoorShelf
import Derived.WalkKit
import Derived.WalkSpells
import Derived.WalkLawsBesides
import Derived.Deep.QuietTactic
import Derived.BigQuiet
import Derived.Lib.SmallJoins
set_option maxRecDepth 100000
set_option maxHeartbeats 8000000
variable{c wr:Bool}{name:ByteArray}{a b m n nowc t tq y:Int}{l:List (Go.Proofs.YtfigmlfdnickmaaGreatDoor.Desk.Ent × Go.Value)}{ws:List ByteArray}{esc:List Go.Proofs.YtfigmlfdnickmaaGreatDoor.Desk.Ent}{E G:List Int}{xs:List Go.Value}{A B B' Q R d e hi lo nx:Nat}{ck col col' col1:Nat->Option Go.Proofs.YtfigmlfdnickmaaGreatDoor.Col}{r:Go.Proofs.YtfigmlfdnickmaaGreatDoor.Raw}{s:Go.Proofs.YtfigmlfdnickmaaGreatDoor.Desk.St}{v v2 vE vG:Go.Value}{X Z w w' w1 w2 w4 wx:Go.World}
namespace Go.Proofs.YtfigmlfdnickmaaGreatDoor
open Go.RowKit
def c3U(n:Int)(gr ed:Value):Array Value:=#[.int .i64 0,.int .i64 0,.int .i64 n,.slice none 0 0,.slice none 0 0,gr,ed]
theorem a2I.base{l:List Int}(h:a2I w B col v l)(hb:B'<=B):a2I w B' col v l:=⟨Joins.ownsRow_le h.own hb,h.no⟩
theorem a2I.append{u:Value}{l m:List Int}(h:a2I w B col v l)(k:a2I w B col u m)(hB:B<=w.heap.size)(hc:∀ b,w.heap.size<=b->col b=none)(hl:l.length+m.length<=100000):
  ∃ (v':Value) (w':World),(∀ ty,(Builtin.append_ #[38,38] ty #[v,u]).run Tryz.prog w=.ok v' w')/\a2I w' B col v' (l++m)/\w.grownBy w' v.ownBlock/\(v'.ownBlock=v.ownBlock\/v'.ownBlock=some w.heap.size):=by
 obtain⟨i0,hi0,hz0,hz1,hz2⟩:=info_parts b1S;rcases k.own.2 with ⟨rfl,h0⟩|⟨g,cap,cur,rfl,hb,hh,h1,h2,h3,h4⟩
 ·have hm:m=[]:=List.length_eq_zero_iff.1 h0;subst hm;refine⟨v,w,fun ty=>run_append_owned_none (P:=Tryz.prog) w B 38 ty 3 i0 1 Tryz.underlying38 hi0 v l.length _ h.own,by rw[List.append_nil];exact h,⟨rfl,rfl,rfl,Nat.le_refl _,fun _ _ _=>rfl⟩,.inl rfl⟩
 ·have key:=fun ty=>run_append_own_at (P:=Tryz.prog) w B 38 ty 3 i0 _ 1 8 Tryz.underlying38 hi0 hz0 hz1 hz2 rfl (by decide) v l.length _ h.own ⟨g,0,none⟩ m.length cap (m.map (Value.int .i64)) (by simp) (fun j x hx=>by
   have hj:j<m.length:=by
    have:=List.getElem?_eq_some_iff.1 hx;obtain⟨h,_⟩:=this
    simpa using h
   have e:=k.own.cellAt j (by omega);have hadd:(⟨g,0,none⟩:Addr).add j=⟨g,j,none⟩:=by unfold Addr.add;split <;> simp_all
   rw[hadd,e];exact hx) (by
   intro x hx;obtain⟨y,_,rfl⟩:=List.mem_map.1 hx
   rfl) (by unfold maxLen;omega) (by omega) hB
  obtain⟨v',w',r1,r2,r3,r4,r5⟩:=key 0;refine⟨v',w',fun ty=>?_,⟨by rw[List.length_append,List.map_append];exact r2,fun b hb=>?_⟩,r3,r5⟩
  ·exact r1
  ·rcases r5 with e|e
   ·exact h.no b (by rw[<- e];exact hb)
   ·rw[hb] at e
    cases e
    exact hc _ (zq _)
theorem b1n{P:Program}{o:Oper}{a:Act}{K:Act->World->Prop}{Q:Exit->Act->World->Prop}(s x:Operand)(t:TypeId)(v':Value)
  (ho:o.op=.call { callee:=.builtin .append,args:=#[s,x],argTypes:=#[t,t] }) (hrun:(Builtin.append_ #[t,t] o.type #[a.eval s,a.eval x]).run P w=.ok v' w') (h:K (a.put o.dst v') w'):o.wp P a w K Q:=by
 unfold Oper.wp execOp;simp only[ho,resolve,invoke,builtin,Sem.run_bind,Sem.run_pure,Result.andThen_ok,List.map_toArray,List.map_cons,List.map_nil,hrun];exact h
theorem a3u{P:Program}{ops:Array Oper}{o:Oper}{a:Act}{K:Act->World->Prop}{Q:Exit->Act->World->Prop}{E:Prop}(hgd:o.guard=none)(s x:Operand)(t:TypeId)(v':Value)
  (ho:o.op=.call { callee:=.builtin .append,args:=#[s,x],argTypes:=#[t,t] }) (hrun:(Builtin.append_ #[t,t] o.type #[a.eval s,a.eval x]).run P w=.ok v' w') (h:K (a.put o.dst v') w'):
  if Region.wanted o (yielded ops a.tmps)=true then Oper.wp P o a w K Q else E:=by
 have hw:Region.wanted o (yielded ops a.tmps)=true:=by simp[Region.wanted,hgd]
 rw[if_pos hw];exact b1n s x t v' ho hrun h
theorem d6i{P:Program}{ops:Array Oper}{rest:List Oper}{o:Oper}{a:Act}{Q:Exit->Act->World->Prop}(hgd:o.guard=none)(s x:Operand)(t:TypeId)(v':Value)
  (ho:o.op=.call { callee:=.builtin .append,args:=#[s,x],argTypes:=#[t,t] }) (hrun:(Builtin.append_ #[t,t] o.type #[a.eval s,a.eval x]).run P w=.ok v' w') (h:wpList P ops Q rest (a.put o.dst v') w'):wpList P ops Q (o :: rest) a w :=
 wpList_plain hgd fun _ hK=>b1n s x t v' ho hrun (hK _ _ h)
theorem a2k{P:Program}{ops:Array Oper}{o:Oper}{a:Act}{K:Act->World->Prop}{Q:Exit->Act->World->Prop}{E:Prop}(hgd:o.guard=none)(f:FuncId)(xs:Array Operand)(ats:Array TypeId)
  (ho:o.op=.call { callee:=.value (.func f),args:=xs,argTypes:=ats }) (args:Array Value) (ha:xs.map a.eval=args) (he:(callFunc f args).run P w=.ok (.enter f args) w) {R:Ending->World->Prop}(hc:Calls P f args w R) (h:∀ e w',R e w'->∃ v,e=.returned v/\K (a.put o.dst v) w'):
  if Region.wanted o (yielded ops a.tmps)=true then Oper.wp P o a w K Q else E:=by
 have hw:Region.wanted o (yielded ops a.tmps)=true:=by simp[Region.wanted,hgd]
 rw[if_pos hw];unfold Oper.wp
 have e1:(execOp a.eval o).run P w=.ok (.enter f args) w:=by
  simp[execOp,ho,resolve,invoke,Act.eval,Deferred.ofValue,ha,he]
 rw[e1,Oper.upon_enter];refine hc.mono ?_;intro e w' hR;obtain⟨v,rfl,hK⟩:=h e w' hR;exact hK
structure RB(w:World)(B:Nat)(col:Nat->Option Col)(R Q:Nat)(n:Int)(vG vE:Value)(G E:List Int):Prop where
 r:w.heap[R]?=some (.cells (c3U n vG vE) 40 (0,0))
 q:w.heap[Q]?=some (.cells (c3U 0 (.slice none 0 0) (.slice none 0 0)) 40 (0,0))
 rc:col R=none
 qc:col Q=none
 rb:B<=R
 qb:B<=Q
 rq:R≠Q
 g:a2I w B col vG G
 e:a2I w B col vE E
 ge:∀ b,vG.ownBlock=some b->vE.ownBlock≠some b/\b≠R/\b≠Q
 er:∀ b,vE.ownBlock=some b->b≠R/\b≠Q
theorem a6f{b:Nat}{o:Obj}(h:w.heap[b]?=some o):b<w.heap.size:=by
 by_cases hx:b<w.heap.size
 ·exact hx
 ·rw[Array.getElem?_eq_none (by omega)] at h;cases h
theorem RB.step{S:Col->Prop}(h:RB w B col R Q n vG vE G E)(st:Step S B' col col' w w')(hB:w.heap.size<=B'):RB w' B col' R Q n vG vE G E:=by
 have hr:=a6f h.r;have hq:=a6f h.q;exact⟨(st.blockN hr h.rc (by omega)).trans h.r,(st.blockN hq h.qc (by omega)).trans h.q,st.keepN h.rc (by omega),st.keepN h.qc (by omega),h.rb,h.qb,h.rq,h.g.step st hB,h.e.step st hB,h.ge,h.er⟩
theorem RB.later(h:RB w B col R Q n vG vE G E)(k:Below w.heap.size w w'):RB w' B col R Q n vG vE G E:=h.step (Step.below (S:=anyS) (B:=w.heap.size) k) (zq _)
theorem RB.cells(h:RB w B col R Q n vG vE G E):w.cell? ⟨R,5,none⟩=some vG/\w.cell? ⟨R,6,none⟩=some vE/\∀ o,w.frozen? ⟨R,o,none⟩=false:=by
 refine⟨?_,?_,fun o=>?_⟩
 ·simp[World.cell?,h.r,c3U]
 ·simp[World.cell?,h.r,c3U]
 ·exact frozen_of_row w R o _ _ h.r
theorem RB.growE{E':List Int}(h:RB w B col R Q n vG vE G E)(hn:a2I w1 B col v E')(hg:w.grownBy w1 vE.ownBlock)(hat:v.ownBlock=vE.ownBlock\/v.ownBlock=some w.heap.size):
  RB (w1.setCell ⟨R,6,none⟩ v) B col R Q n vG v G E'/\Off (R :: vE.ownBlock.toList) w (w1.setCell ⟨R,6,none⟩ v)/\w1.cell? ⟨R,6,none⟩=some vE/\w1.frozen? ⟨R,6,none⟩=false:=by
 have hrl:=a6f h.r;have hql:=a6f h.q;have k:Off vE.ownBlock.toList w w1:=Off.grown (Off.refl _ w) hg (fun k hk=>.inl (Option.mem_toList.2 hk));have hRE:R ∉ vE.ownBlock.toList:=fun e=>(h.er R (Option.mem_toList.1 e)).1 rfl
 have hQE:Q ∉ vE.ownBlock.toList:=fun e=>(h.er Q (Option.mem_toList.1 e)).2 rfl
 have r1:=(k.block R hrl hRE).trans h.r;have q1:=(k.block Q hql hQE).trans h.q
 have hvR:∀ b,v.ownBlock=some b->b≠R/\b≠Q:=fun b hb=>by
  rcases hat with e|e
  ·exact h.er b (by rw[<- e];exact hb)
  ·rw[hb] at e;cases e;omega
 have hGE:∀ b,vG.ownBlock=some b->b ∉ vE.ownBlock.toList:=fun b hb e=>(h.ge b hb).1 (Option.mem_toList.1 e)
 refine⟨⟨?_,?_,h.rc,h.qc,h.rb,h.qb,h.rq,⟨?_,h.g.no⟩,⟨?_,hn.no⟩,fun b hb=>⟨fun e=>?_,(h.ge b hb).2⟩,hvR⟩,?_,?_,?_⟩
 ·have:=heap_setCell_same w1 R 6 _ _ v r1;rw[this];simp[c3U]
 ·exact (heap_setCell_other w1 ⟨R,6,none⟩ Q v (by simpa using h.rq.symm)).trans q1
 ·exact a1i (a1i h.g.own k hGE) (Off.set0 R _ 6 _) (fun b hb=>by simpa using (h.ge b hb).2.1)
 ·exact a1i hn.own (Off.set0 R _ 6 _) (fun b hb=>by simpa using (hvR b hb).1)
 ·rcases hat with e2|e2
  ·exact (h.ge b hb).1 (by rw[<- e2];exact e)
  ·have h1:=(h.g.own.lt b hb).2;rw[e] at e2;cases e2;omega
 ·exact (k.mono (by simp +contextual)).setCell (.inl (by simp)) _ _
 ·simp[World.cell?,r1,c3U]
 ·exact frozen_of_row w1 R 6 _ _ r1
theorem RB.growG{G':List Int}(h:RB w B col R Q n vG vE G E)(hn:a2I w1 B col v G')(hg:w.grownBy w1 vG.ownBlock)(hat:v.ownBlock=vG.ownBlock\/v.ownBlock=some w.heap.size):
  RB (w1.setCell ⟨R,5,none⟩ v) B col R Q n v vE G' E/\Off (R :: vG.ownBlock.toList) w (w1.setCell ⟨R,5,none⟩ v)/\w1.cell? ⟨R,5,none⟩=some vG/\w1.frozen? ⟨R,5,none⟩=false:=by
 have hrl:=a6f h.r;have hql:=a6f h.q;have k:Off vG.ownBlock.toList w w1:=Off.grown (Off.refl _ w) hg (fun k hk=>.inl (Option.mem_toList.2 hk));have hRE:R ∉ vG.ownBlock.toList:=fun e=>(h.ge R (Option.mem_toList.1 e)).2.1 rfl
 have hQE:Q ∉ vG.ownBlock.toList:=fun e=>(h.ge Q (Option.mem_toList.1 e)).2.2 rfl
 have r1:=(k.block R hrl hRE).trans h.r;have q1:=(k.block Q hql hQE).trans h.q
 have hvR:∀ b,v.ownBlock=some b->b≠R/\b≠Q:=fun b hb=>by
  rcases hat with e|e
  ·exact (h.ge b (by rw[<- e];exact hb)).2
  ·rw[hb] at e;cases e;omega
 have hGE:∀ b,vE.ownBlock=some b->b ∉ vG.ownBlock.toList:=fun b hb e=>(h.ge b (Option.mem_toList.1 e)).1 hb
 refine⟨⟨?_,?_,h.rc,h.qc,h.rb,h.qb,h.rq,⟨?_,hn.no⟩,⟨?_,h.e.no⟩,fun b hb=>⟨fun e=>?_,hvR b hb⟩,h.er⟩,?_,?_,?_⟩
 ·have:=heap_setCell_same w1 R 5 _ _ v r1;rw[this];simp[c3U]
 ·exact (heap_setCell_other w1 ⟨R,5,none⟩ Q v (by simpa using h.rq.symm)).trans q1
 ·exact a1i hn.own (Off.set0 R _ 5 _) (fun b hb=>by simpa using (hvR b hb).1)
 ·exact a1i (a1i h.e.own k hGE) (Off.set0 R _ 5 _) (fun b hb=>by simpa using (h.er b hb).1)
 ·rcases hat with e2|e2
  ·exact (h.ge b (by rw[<- e2];exact hb)).1 e
  ·have h1:=(h.e.own.lt b e).2;rw[hb] at e2;cases e2;omega
 ·exact (k.mono (by simp +contextual)).setCell (.inl (by simp)) _ _
 ·simp[World.cell?,r1,c3U]
 ·exact frozen_of_row w1 R 5 _ _ r1
open Desk (Ent St Ids kept a0C a0Q a1C a2e ofB a0y a2c Mid a1H a0z Inv)
structure TD(w wx:World)(d:Nat)(s:St)(col:Nat->Option Col)(R Q:Nat)(tq:Int)(esc:List Ent)(G E:List Int)(vG vE:Value):Prop where
 ex:∃ rk ck,DK wx d rk ck/\Of { s with es:=esc } rk/\Wl rk/\Hl rk/\Step anyS w.heap.size col ck w wx/\RB wx w.heap.size ck R Q tq vG vE G E
structure TK(s:St)(tq:Int)(esc:List Ent)(nowc:Int)(G E:List Int)(K:Nat):Prop where
 inv:Inv ⟨s.ts,esc,s.given,nowc⟩
 n1:s.now<=nowc
 n2:nowc<=tq
 len:esc.length<=K
 cnt:E.length+esc.length<=s.es.length
 gl:G.length<=60*E.length
 tk:Desk.a1K s.ts (s.es.length+1) s.es s.now tq=((Desk.a1K s.ts (K+1) esc nowc tq).1,E++(Desk.a1K s.ts (K+1) esc nowc tq).2.1,G++(Desk.a1K s.ts (K+1) esc nowc tq).2.2)
theorem TK.mid{K:Nat}(h:TK s tq esc nowc G E K)(h0:0<=s.now):Mid { s with es:=esc }:=(h.inv.mid).earlier h0 h.n1
theorem TK.stop{K:Nat}(h:TK s tq esc nowc G E K)(hno:∀ e∈esc,e.kind≠1->tq<e.a0Z):Desk.a1K s.ts (s.es.length+1) s.es s.now tq=(esc,E,G):=by
 rw[h.tk,Desk.b9g h.inv hno];simp
theorem TK.next{K:Nat}(h:TK s tq esc nowc G E K)(htq:tq<=1048320)(ht:t<=tq)(h1:∃ e∈esc,e.kind≠1/\e.a0Z=t)(h2:∀ e∈esc,e.kind≠1->t<=e.a0Z):
  ∃ K',TK s tq (Desk.a0R s.ts (esc.filter fun e=>!a0z t e)).1 t (G++(Desk.a0R s.ts (esc.filter fun e=>!a0z t e)).2) (E++(esc.filter (a0z t)).map fun e=>e.id) K'/\Mid ⟨s.ts,esc.filter (fun e=>!a0z t e),s.given,t⟩/\nowc<t:=by
 obtain⟨e0,he0,hk0,ht0⟩:=h1
 have hnt:nowc<t:=by
  rcases (h.inv.en e0 he0).kd with e|e
  ·exact absurd e.1 hk0
  ·have:=e.2.1;simp only at this;omega
 obtain⟨i1,i2⟩:=Desk.c1Y h.inv hnt (by omega) h2
 have hsplit:(esc.filter (a0z t)).length+(esc.filter fun e=>!a0z t e).length=esc.length:=by
  have:∀ l:List Ent,(l.filter (a0z t)).length+(l.filter fun e=>!a0z t e).length=l.length:=by
   intro l
   induction l with
   |nil=>rfl
   |cons x l ih=>simp only[List.filter_cons];cases a0z t x <;> simp <;> omega
  exact this esc
 have hpos:0<(esc.filter (a0z t)).length:=List.length_pos_iff.2 (fun e=>by
  have:e0∈esc.filter (a0z t):=List.mem_filter.2 ⟨he0,by unfold a0z;rw[Bool.and_eq_true,decide_eq_true_iff];exact⟨by simpa using hk0,ht0⟩⟩
  rw[e] at this;simp at this)
 have hlen:=h.len;have hcnt:=h.cnt;have hgl:=h.gl;obtain⟨K',rfl⟩:∃ K',K=K'+1:=⟨K-1,by omega⟩;have hgL:=Desk.a7H s.ts (esc.filter fun e=>!a0z t e)
 have hg2:(Desk.a0R s.ts (esc.filter fun e=>!a0z t e)).2.length<=60:=by
  have e1:=Desk.a5F s.ts (esc.filter fun e=>!a0z t e) i2.ids;rw[e1];have h1:=a5e s.ts ((esc.filter fun e=>!a0z t e).filter Desk.a0T) (esc.filter fun e=>!a0z t e,[]);have h2:=List.length_filter_le Desk.a0T (esc.filter fun e=>!a0z t e);have h3:=a1x i2;simp only[List.length_nil] at h1 h3;omega
 refine⟨K',⟨i1,by have:=h.n1;omega,ht,by omega,?_,?_,?_⟩,i2,hnt⟩
 ·rw[List.length_append,List.length_map];omega
 ·rw[List.length_append,List.length_append,List.length_map];omega
 ·rw[h.tk,Desk.b9h hnt ht ⟨e0,he0,hk0,ht0⟩ h2];simp only[List.append_assoc]
theorem TD.ended(hs:Step anyS w.heap.size col ck w wx)(hr:RB wx w.heap.size ck R Q tq vG vE G E)(p:a7d wx d { s with es:=esc } ck t v2 w4)(hb:E.length+esc.length<=1000):
  ∃ a n cap w5,(∀ ty,(Builtin.append_ #[38,38] ty #[vE,v2]).run Tryz.prog w4=.ok (.slice a n cap) w5)/\w5.cell? ⟨R,6,none⟩=some vE/\w5.frozen? ⟨R,6,none⟩=false/\w4.cell? ⟨R,6,none⟩=some vE/\TD w (w5.setCell ⟨R,6,none⟩ (.slice a n cap)) d s col R Q tq (esc.filter fun e=>!a0z t e) G (E++(esc.filter (a0z t)).map fun e=>e.id) vG (.slice a n cap):=by
 obtain⟨r4,c4,q1,q2,q3,q4,q5,q6⟩:=p;have hr4:=hr.step q5 (zq _);have hsz:=hs.size;have hf:=List.length_filter_le (a0z t) esc;obtain⟨v3,w5,a1,a2,a3,a4⟩:=hr4.e.append (q6.base hsz) (Nat.le_trans hsz q5.size) (fun b hb=>q1.none hb) (by rw[List.length_map];show E.length+(esc.filter (a0z t)).length<=100000;omega);obtain⟨a,cap,rfl⟩:=a2.slice;obtain⟨b1,b2,b3,b4⟩:=hr4.growE a2 a3 a4;refine⟨a,_,cap,w5,a1,b3,b4,hr4.cells.2.1,r4,c4,?_,q2,q3,q4,?_,b1⟩
 ·refine q1.off b2 (fun x hx=>?_);rcases List.mem_cons.1 hx with rfl|hx
  ·exact hr4.rc
  ·exact hr4.e.no x (Option.mem_toList.1 hx)
 ·have t1:=hs.trans (q5.any hsz);refine t1.trans ⟨⟨_,b2,fun x hx=>.inr ?_⟩,fun _ _ h=>h,fun _ _ h=>.inl h⟩;rcases List.mem_cons.1 hx with rfl|hx
  ·exact⟨hr4.rc,hr4.rb⟩
  ·exact⟨hr4.e.no x (Option.mem_toList.1 hx),(hr4.e.own.lt x (Option.mem_toList.1 hx)).1⟩
theorem TD.granted(hs:Step anyS w.heap.size col ck w wx)(hr:RB wx w.heap.size ck R Q tq vG vE G E)(p:a5o wx d { s with es:=esc } ck v2 w4)(hb:G.length+(Desk.a0R s.ts esc).2.length<=100000):
  ∃ a n cap w5,(∀ ty,(Builtin.append_ #[38,38] ty #[vG,v2]).run Tryz.prog w4=.ok (.slice a n cap) w5)/\w5.cell? ⟨R,5,none⟩=some vG/\w5.frozen? ⟨R,5,none⟩=false/\w4.cell? ⟨R,5,none⟩=some vG/\TD w (w5.setCell ⟨R,5,none⟩ (.slice a n cap)) d s col R Q tq (Desk.a0R s.ts esc).1 (G++(Desk.a0R s.ts esc).2) E (.slice a n cap) vE:=by
 obtain⟨r4,c4,q1,q2,q3,q4,q5,q6⟩:=p;have hr4:=hr.step q5 (zq _);have hsz:=hs.size;obtain⟨v3,w5,a1,a2,a3,a4⟩:=hr4.g.append (q6.base hsz) (Nat.le_trans hsz q5.size) (fun b hb=>q1.none hb) hb;obtain⟨a,cap,rfl⟩:=a2.slice;obtain⟨b1,b2,b3,b4⟩:=hr4.growG a2 a3 a4;refine⟨a,_,cap,w5,a1,b3,b4,hr4.cells.1,r4,c4,?_,q2,q3,q4,?_,b1⟩
 ·refine q1.off b2 (fun x hx=>?_);rcases List.mem_cons.1 hx with rfl|hx
  ·exact hr4.rc
  ·exact hr4.g.no x (Option.mem_toList.1 hx)
 ·have t1:=hs.trans (q5.any hsz);refine t1.trans ⟨⟨_,b2,fun x hx=>.inr ?_⟩,fun _ _ h=>h,fun _ _ h=>.inl h⟩;rcases List.mem_cons.1 hx with rfl|hx
  ·exact⟨hr4.rc,hr4.rb⟩
  ·exact⟨hr4.g.no x (Option.mem_toList.1 hx),(hr4.g.own.lt x (Option.mem_toList.1 hx)).1⟩
theorem a0D(err:Int)(w:World):
  Calls Tryz.prog 141 #[.int .i64 err] w fun e w'=>e=.returned (a0s err 0 0 (.slice none 0 0) (.slice none 0 0) (.slice none 0 0) (.slice none 0 0))/\Below w.heap.size w w':=by
 go_enter Tryz.func141,Tryz.ntmps141
 have HB:Hid (Below w.heap.size w (w.alloc (.cells #[.int .i64 err,.int .i64 0,.int .i64 0,.slice none 0 0,.slice none 0 0,.slice none 0 0,.slice none 0 0] 40))):=(zr _ _).alloc (zq _) _
 go_wp2_with fail
 exact bodyPost_ret (v:=a0s err 0 0 (.slice none 0 0) (.slice none 0 0) (.slice none 0 0) (.slice none 0 0)) (by simp[results,Tryz.results141,go_sem,a0s]) rfl ⟨rfl,HB.out⟩
theorem b8J(h:DK w d r col)(hh:Hl r):
  Calls Tryz.prog 155 #[.pointer (some ⟨d,5,none⟩)] w fun e w'=>w'=w /\
   ((e=.returned (.tuple #[.int .i64 0,.bool false])/\∀ g∈r.eg,g.e.kind=1)\/∃ g∈r.eg,g.e.kind≠1/\e=.returned (.tuple #[.int .i64 g.e.a0Z,.bool true])/\∀ x∈r.eg,x.e.kind≠1->g.e.a0Z<=x.e.a0Z):=by
 obtain⟨v,a1,a2⟩:=h.he;refine (b0P d 5 v r.hl w a1).mono ?_;rintro e w' ⟨rfl,rfl⟩;refine⟨rfl,?_⟩
 by_cases h0:r.hl.length=0
 ·refine .inl ⟨by simp[c6P,c5M,h0],fun g hg=>?_⟩
  by_cases hk:g.e.kind=1
  ·exact hk
  ·have:=hh.has hg hk;rw[List.length_eq_zero_iff.1 h0] at this;simp at this
 ·have hp:0<r.hl.length:=by omega
  obtain⟨g,hg,hk,e⟩:=hh.at (x:=Hp.at_ r.hl 0) (by rw[Hp.a4H hp];exact zg hp);refine .inr ⟨g,hg,hk,by rw[b1V hp,b1W hp,e];rfl,fun x hx hkx=>?_⟩;obtain⟨i,hi,e2⟩:=List.getElem_of_mem (hh.has hx hkx);have:=Hp.b4l hh.1 i hi;rw[Hp.a4H hi,e2,e] at this;unfold Hp.ahead a9r at this;simp only at this;omega
structure R7(Z:World)(R Q:Nat)(n:Int)(vG vE:Value):Prop where
 r0:Z.cell? ⟨R,0,none⟩=some (.int .i64 0)
 r1:Z.cell? ⟨R,1,none⟩=some (.int .i64 0)
 r2:Z.cell? ⟨R,2,none⟩=some (.int .i64 n)
 r3:Z.cell? ⟨R,3,none⟩=some (.slice none 0 0)
 r4:Z.cell? ⟨R,4,none⟩=some (.slice none 0 0)
 r5:Z.cell? ⟨R,5,none⟩=some vG
 r6:Z.cell? ⟨R,6,none⟩=some vE
 q0:Z.cell? ⟨Q,0,none⟩=some (.int .i64 0)
 q1:Z.cell? ⟨Q,1,none⟩=some (.int .i64 0)
 q2:Z.cell? ⟨Q,2,none⟩=some (.int .i64 0)
 q3:Z.cell? ⟨Q,3,none⟩=some (.slice none 0 0)
 q4:Z.cell? ⟨Q,4,none⟩=some (.slice none 0 0)
 q5:Z.cell? ⟨Q,5,none⟩=some (.slice none 0 0)
 q6:Z.cell? ⟨Q,6,none⟩=some (.slice none 0 0)
 fq:∀ o,Z.frozen? ⟨Q,o,none⟩=false
theorem RB.r7(h:RB w B col R Q n vG vE G E):R7 w R Q n vG vE:=by
 refine⟨?_,?_,?_,?_,?_,?_,?_,?_,?_,?_,?_,?_,?_,?_,fun o=>frozen_of_row _ Q o _ _ h.q⟩
 all_goals first
  |(simp only[World.cell?,h.r];rfl)
  |(simp only[World.cell?,h.q];rfl)
def a7b(w:World)(d:Nat)(s:St)(col:Nat->Option Col)(n:Int)(v:Value)(w':World):Prop :=
 ∃ (r':Raw) (col':Nat->Option Col) (vG vE:Value),v=a0s 0 0 (s.now+n) (.slice none 0 0) (.slice none 0 0) vG vE/\DK w' d r' col'/\Of (Desk.a0g s (.tick n)).1 r'/\Wl r'/\Hl r'/\Step anyS w.heap.size col col' w w'/\a2I w' w.heap.size col' vG (Desk.a0g s (.tick n)).2.granted/\a2I w' w.heap.size col' vE (Desk.a0g s (.tick n)).2.ended/\(∀ b,vG.ownBlock=some b->vE.ownBlock≠some b)
theorem b5Q{wr:World}{rk:Raw}(htq:s.now+n=tq)(hst:Step anyS w.heap.size col ck w wr)(ho:Of { s with es:=esc } rk)(hw:Wl rk)(hh:Hl rk)(sn1:DK (wr.setCell ⟨d,0,none⟩ (.int .i64 tq)) d { rk with now:=tq } ck)(sn2:Step (·=.desk) wr.heap.size ck ck wr (wr.setCell ⟨d,0,none⟩ (.int .i64 tq)))(hr:RB (wr.setCell ⟨d,0,none⟩ (.int .i64 tq)) w.heap.size ck R Q tq vG vE G E)(ht:Desk.a1K s.ts (s.es.length+1) s.es s.now tq=(esc,E,G))(hle:s.now+n<=1048320):
  a7b w d s col n (a0s 0 0 tq (.slice none 0 0) (.slice none 0 0) vG vE) (a2w (wr.setCell ⟨d,0,none⟩ (.int .i64 tq)) Q (.int .i64 0) (.int .i64 0) (.int .i64 tq) (.slice none 0 0) (.slice none 0 0) vG vE):=by
 have k:=a2R (wr.setCell ⟨d,0,none⟩ (.int .i64 tq)) Q (.int .i64 0) (.int .i64 0) (.int .i64 tq) (.slice none 0 0) (.slice none 0 0) vG vE
 have hd:Desk.a0g s (.tick n)=({ s with es:=esc,now:=tq },{ Desk.Rep.num tq with granted:=G,ended:=E }):=by
  subst htq;show (if 1048320<s.now+n then _ else _)=_;rw[if_neg (by omega),ht]
 rw[a7b,hd];refine⟨{ rk with now:=tq },ck,vG,vE,by rw[htq],sn1.off k (fun x hx=>?_),⟨rfl,ho.given,ho.ts,ho.es,ho.th,ho.tb⟩,hw,hh,?_,⟨?_,hr.g.no⟩,⟨?_,hr.e.no⟩,fun b hb=>(hr.ge b hb).1⟩
 ·have:x=Q:=List.mem_singleton.1 hx;subst this;exact hr.qc
 ·refine (hst.trans (sn2.any hst.size)).trans ⟨⟨_,k,fun x hx=>.inr ?_⟩,fun _ _ h=>h,fun _ _ h=>.inl h⟩;have:x=Q:=List.mem_singleton.1 hx;subst this;exact⟨hr.qc,hr.qb⟩
 ·exact a1i hr.g.own k (fun b hb=>by simpa using (hr.ge b hb).2.2)
 ·exact a1i hr.e.own k (fun b hb=>by simpa using (hr.er b hb).2)
theorem c3o(args:Array Value)(w:World):(callFunc 156 args).run Tryz.prog w=.ok (.enter 156 args) w:=by kernel_rfl
theorem b6Z(args:Array Value)(w:World):(callFunc 65 args).run Tryz.prog w=.ok (.enter 65 args) w:=by kernel_rfl
theorem c1Z(h:DK w d r col)(ho:Of s r)(hw:Wl r)(hh:Hl r)(hm:Inv s)(n:Int)(hn:1<=n/\n<=1048320)(hle:s.now+n<=1048320):
  Calls Tryz.prog 103 #[.pointer (some ⟨d,0,none⟩),.agg #[.int .i64 n]] w fun e w'=>∃ v,e=.returned v/\a7b w d s col n v w':=by
 have hX:Below w.heap.size w ((w.alloc (.cells #[.int .i64 n] 182)).alloc (.cells #[.int .i64 0,.int .i64 0,.int .i64 0,.slice none 0 0,.slice none 0 0,.slice none 0 0,.slice none 0 0] 40)):=((zr _ _).alloc (zq _) _).alloc (by simp) _;have hx:=h.later hX;have c0:=hx.c0;rw[ho.now] at c0;have xn:((w.alloc (.cells #[.int .i64 n] 182)).alloc (.cells #[.int .i64 0,.int .i64 0,.int .i64 0,.slice none 0 0,.slice none 0 0,.slice none 0 0,.slice none 0 0] 40)).cell? ⟨w.heap.size,0,none⟩=some (.int .i64 n):=by simp
 have xr:((w.alloc (.cells #[.int .i64 n] 182)).alloc (.cells #[.int .i64 0,.int .i64 0,.int .i64 0,.slice none 0 0,.slice none 0 0,.slice none 0 0,.slice none 0 0] 40)).heap[w.heap.size+1]?=some (.cells #[.int .i64 0,.int .i64 0,.int .i64 0,.slice none 0 0,.slice none 0 0,.slice none 0 0,.slice none 0 0] 40):=by
  have:=a0p (w.alloc (.cells #[.int .i64 n] 182)) (.cells #[.int .i64 0,.int .i64 0,.int .i64 0,.slice none 0 0,.slice none 0 0,.slice none 0 0,.slice none 0 0] 40)
  rwa [World.size_alloc] at this
 have hle':¬ (1048320<s.now+n):=by omega
 have h0:=hm.n0;have hw1:IntKind.i64.wrap (s.now+n)=s.now+n:=a0i (by omega) (by omega);have HX:=a0b (And.intro hX (And.intro hx (And.intro xr (And.intro ho (And.intro hw (And.intro hh hm))))));have hcn:∀ b,w.heap.size<=b->col b=none:=fun b hb=>h.none hb
 have HCN:=a0b hcn;clear h ho hw hh hm hX hx xr hcn
 go_enter Tryz.func103,Tryz.ntmps103
 go_upto_region 1 with fail
 generalize ((w.alloc (.cells #[.int .i64 n] 182)).alloc (.cells #[.int .i64 0,.int .i64 0,.int .i64 0,.slice none 0 0,.slice none 0 0,.slice none 0 0,.slice none 0 0] 40))=X at HX c0 xn ⊢
 go_big_region
 clear c0 xn
 have T0:Hid (TD w (X.alloc (.cells #[.int .i64 0,.int .i64 0,.int .i64 (s.now+n),.slice none 0 0,.slice none 0 0,.slice none 0 0,.slice none 0 0] 40)).drew d s col X.heap.size (w.heap.size+1) (s.now+n) s.es [] [] (.slice none 0 0) (.slice none 0 0)):=by
  obtain⟨hX,hx,xr,ho,hw,hh,hm⟩:=HX.out;have hb:Below X.heap.size X (X.alloc (.cells #[.int .i64 0,.int .i64 0,.int .i64 (s.now+n),.slice none 0 0,.slice none 0 0,.slice none 0 0,.slice none 0 0] 40)).drew:=((zr _ _).alloc (zq _) _).drew;have hql:=a6f xr;refine⟨r,col,hx.later hb,ho,hw,hh,(Step.below hX).trans (Step.below hb),⟨a0p X _,(hb.block _ hql).trans xr,HCN.out _ hX.size,HCN.out _ (by omega),hX.size,by omega,by omega,a2I.nil _ _ _,a2I.nil _ _ _,fun b hb=>(by cases hb),fun b hb=>(by cases hb)⟩⟩
 have K0:Hid (TK s (s.now+n) s.es s.now [] [] s.es.length):=⟨HX.out.2.2.2.2.2.2,Int.le_refl _,by omega,Nat.le_refl _,by simp,by simp,by simp⟩;clear HX HCN
 go_wp2_with fail
 generalize (X.alloc (.cells #[.int .i64 0,.int .i64 0,.int .i64 (s.now+n),.slice none 0 0,.slice none 0 0,.slice none 0 0,.slice none 0 0] 40)).drew=Y at T0 ⊢;generalize X.heap.size=R at T0 ⊢;generalize w.heap.size+1=Q at T0 ⊢;generalize htq:s.now+n=tq at *;have HTQ:=a0b htq;clear htq hw1
 go_loopw [7,8] (fun _ _ wx=>∃ (esc:List Ent) (nowc:Int) (G E:List Int) (K:Nat) (vG vE:Value),TD w wx d s col R Q tq esc G E vG vE/\TK s tq esc nowc G E K) (fun _ _ wx=>s.es.length-lenOf ((wx.cell? ⟨R,6,none⟩).getD undef))
 case atStart=>exact⟨s.es,s.now,[],[],s.es.length,_,_,T0.out,K0.out⟩
 case round =>
  obtain⟨esc,nowc,G,E,K,vG,vE,⟨rk,ck,D,O,W,HH,ST,RBk⟩,k⟩:=hrel;have FI:=a0b (b8J D HH);have HD:=a0b (And.intro D (And.intro O (And.intro W (And.intro HH (And.intro ST (And.intro RBk k))))));clear D O W HH ST RBk k
  go_wp2_with fail
  refine FI.out.mono ?_;rintro e w1 ⟨hw1,hcase⟩;subst hw1;have htq':=HTQ.out;rcases hcase with ⟨rfl,hcase⟩|⟨g,hg,hkd,rfl,hcase⟩
  ·have D:=HD.out.1
   have hno:∀ e∈esc,e.kind≠1->tq<e.a0Z:=by
    intro e he hk;obtain⟨x,hx,rfl⟩:=HD.out.2.1.get he;exact absurd (hcase x hx) hk
   have cd:=D.c0;have fd:=D.fz 0;obtain⟨sn1,sn2⟩:=D.setNow tq;have RB1:=HD.out.2.2.2.2.2.1.step sn2 (zq _);have HF:=a0b (b5Q htq' (HD.out.2.2.2.2.1) HD.out.2.1 HD.out.2.2.1 HD.out.2.2.2.1 sn1 sn2 RB1 (HD.out.2.2.2.2.2.2.stop hno) (by rw[htq'];exact hle));obtain⟨r0,r1,r2,r3,r4,r5,r6,q0,q1,q2,q3,q4,q5,q6,fq⟩:=RB1.r7;obtain⟨aG,cG,eG⟩:=RB1.g.slice;obtain⟨aE,cE,eE⟩:=RB1.e.slice;subst eG;subst eE;clear D sn1 sn2 RB1 hno hcase HD FI
   go_wp2_with fail
   exact d0O Tryz.results103 ⟨q0,q1,q2,q3,q4,q5,q6,fq⟩ ⟨_,rfl,HF.out⟩
  ·by_cases ht:tq<g.e.a0Z
   ·have D:=HD.out.1
    have hno:∀ e∈esc,e.kind≠1->tq<e.a0Z:=by
     intro e he hk;obtain⟨x,hx,rfl⟩:=HD.out.2.1.get he;have:=hcase x hx hk;omega
    have cd:=D.c0;have fd:=D.fz 0;obtain⟨sn1,sn2⟩:=D.setNow tq;have RB1:=HD.out.2.2.2.2.2.1.step sn2 (zq _);have HF:=a0b (b5Q htq' (HD.out.2.2.2.2.1) HD.out.2.1 HD.out.2.2.1 HD.out.2.2.2.1 sn1 sn2 RB1 (HD.out.2.2.2.2.2.2.stop hno) (by rw[htq'];exact hle));obtain⟨r0,r1,r2,r3,r4,r5,r6,q0,q1,q2,q3,q4,q5,q6,fq⟩:=RB1.r7;obtain⟨aG,cG,eG⟩:=RB1.g.slice;obtain⟨aE,cE,eE⟩:=RB1.e.slice;subst eG;subst eE;clear D sn1 sn2 RB1 hno hcase HD FI
    go_wp2_with fail
    exact d0O Tryz.results103 ⟨q0,q1,q2,q3,q4,q5,q6,fq⟩ ⟨_,rfl,HF.out⟩
   ·have D:=HD.out.1;have k:=HD.out.2.2.2.2.2.2;have hmid:=k.mid h0
    have hg0:∀ e∈esc,e.kind≠1->g.e.a0Z<=e.a0Z:=fun e he hk=>by
     obtain⟨x,hx,rfl⟩:=HD.out.2.1.get he;exact hcase x hx hk
    obtain⟨K',k',m',hnt⟩:=k.next hle (by omega) ⟨g.e,HD.out.2.1.mem hg,hkd,rfl⟩ hg0;have hlen:=k.cnt;have hes:s.es.length<=60:=a1x (K0.out.mid h0);have hEl:E.length+esc.length<=1000:=by omega
    have ST:=HD.out.2.2.2.2.1;have RBk:=HD.out.2.2.2.2.2.1;have EB:=a0b (c0U (D.later (a0q w1)) HD.out.2.1 HD.out.2.2.1 HD.out.2.2.2.1 hmid g.e.a0Z hg0);have AP:=a0b (fun v2 w4 (p:a7d w1.drew d { s with es:=esc } ck g.e.a0Z v2 w4)=>TD.ended (ST.trans (Step.below (a0q w1))) (RBk.later (a0q w1)) p hEl);have cE:=RBk.cells.2.1;have lE:lenOf vE=E.length:=RBk.e.len
    have hps:0<(esc.filter (a0z g.e.a0Z)).length:=List.length_pos_iff.2 (fun e=>by
     have:g.e∈esc.filter (a0z g.e.a0Z):=List.mem_filter.2 ⟨HD.out.2.1.mem hg,by unfold a0z;rw[Bool.and_eq_true,decide_eq_true_iff];exact⟨by simpa using hkd,rfl⟩⟩
     rw[e] at this;simp at this)
    have KN:=a0b (And.intro k' (And.intro (m'.earlier h0 (by have h1:=k.n1;have h2:=hnt;omega)) (And.intro lE hps)));have hgl:G.length<=3600:=by have:=k.gl;omega
    clear D k hmid hg0 k' m' hlen ST RBk HD FI hcase hg hkd lE hEl hes hps hnt
    go_upto_region 7 with fail
    go_cut [40] from 35 to 41 (fun _ wx=>∃ vE',TD w wx d s col R Q tq (esc.filter fun e=>!a0z g.e.a0Z e) G (E++(esc.filter (a0z g.e.a0Z)).map fun e=>e.id) vG vE')
    case first =>
     go_region_law (first
      |(refine a2k (by rfl) 156 _ _ (by rfl) _ (by simp[Act.eval,Act.put]) (c3o _ _) EB.out ?_;rintro e w4 ⟨v2,rfl,p⟩;refine⟨_,rfl,?_⟩;obtain⟨a,nn,cap,w5,hrun,b6,f6,b64,TDn⟩:=AP.out v2 w4 p;have HR:=a0b hrun;clear hrun)
      |(refine a3u (by rfl) _ _ _ _ (by rfl) (HR.out _) ?_))
     all_goals
      go_wp2_with fail
      go_meet
      exact⟨_,TDn⟩
    case rest =>
     obtain⟨vE',T1⟩:=hcut;have hcE:wc.cell? ⟨R,6,none⟩=some vE':=by obtain⟨_,_,_,_,_,_,_,hr⟩:=T1.ex;exact hr.cells.2.1
     obtain⟨r2,c2,D2,O2,W2,H2,S2,RB2⟩:=T1.ex;have GR:=a0b (b3y (D2.later (a0q wc)) O2 W2 H2 KN.out.2.1)
     have hg2:G.length+(Desk.a0R s.ts (esc.filter fun e=>!a0z g.e.a0Z e)).2.length<=100000:=by
      have h1:=a5e s.ts ((esc.filter fun e=>!a0z g.e.a0Z e).filter Desk.a0T) (esc.filter fun e=>!a0z g.e.a0Z e,[]);have h2:=List.length_filter_le Desk.a0T (esc.filter fun e=>!a0z g.e.a0Z e);have h3:=a1x KN.out.2.1;have e1:=Desk.a5F s.ts (esc.filter fun e=>!a0z g.e.a0Z e) KN.out.2.1.ids;simp only[List.length_nil] at h1 h3;rw[<- e1] at h1;omega
     have AG:=a0b (fun v2 w4 (p:a5o wc.drew d { s with es:=esc.filter fun e=>!a0z g.e.a0Z e } c2 v2 w4)=>TD.granted (S2.trans (Step.below (a0q wc))) (RB2.later (a0q wc)) p hg2);have cG:=RB2.cells.1;have CE:=a0b cE;clear D2 O2 W2 H2 S2 RB2 T1 EB AP hg2 cE hgl
     go_upto_region 8 with fail
     go_region_law (first
      |(refine a2k (by rfl) 65 _ _ (by rfl) _ (by simp[Act.eval,Act.put]) (b6Z _ _) GR.out ?_;rintro e w4 ⟨v2,rfl,p⟩;refine⟨_,rfl,?_⟩;obtain⟨a,nn,cap,w5,hrun,b6,f6,b64,TDn⟩:=AG.out v2 w4 p;have HR:=a0b hrun;clear hrun)
      |(refine a3u (by rfl) _ _ _ _ (by rfl) (HR.out _) ?_))
     all_goals
      have TN:=a0b TDn;clear TDn p b6 f6 b64 GR AG HR cG hcE
      go_wp2_with fail
      go_roundw
      case rel=>exact⟨_,_,_,_,_,_,_,TN.out,KN.out.1⟩
      case measure =>
       obtain⟨_,_,_,_,_,_,_,hr⟩:=TN.out.ex;have e1:=hr.cells.2.1;have e2:=hr.e.len;have h1:=KN.out.1.cnt;have h2:=KN.out.2.2.2;have h3:=KN.out.2.2.1;rw[List.length_append,List.length_map] at e2 h1;rw[e1,CE.out];simp only[Option.getD_some];omega
theorem b2B(ho:Of s r)(hp:s.ts.Pairwise fun t u=>a0y t.1 u.1=false){b:Nat}(h:b2r r.tg name=some b):∃ (i:Nat)(hi:i<r.tg.length),r.tg[i].name=name/\r.tg[i].tb=b/\Desk.a0h name s.ts=r.tg[i].a0c:=by
 rw[a3r] at h
 cases e:r.tg.find? fun t=>a0y t.name name with
 |none=>rw[e] at h;cases h
 |some t =>
  rw[e] at h;obtain⟨i,hi,rfl⟩:=List.getElem_of_mem (List.mem_of_find?_eq_some e);have hn:r.tg[i].name=name:=a4l.1 (by simpa using List.find?_some e);refine⟨i,hi,hn,by simpa using h,?_⟩;have e1:=a8G hp (i:=i) (by rw[<- ho.len];exact hi);rw[ho.tsAt hi] at e1;rw[<- hn];exact e1
theorem b2C(ho:Of s r)(h:b2r r.tg name=none):Desk.a0h name s.ts=0:=by
 refine a3o (fun t ht e=>?_);rw[<- ho.ts] at ht;obtain⟨x,hx,rfl⟩:=List.mem_map.1 ht;rw[a3r] at h
 cases e2:r.tg.find? fun t=>a0y t.name name with
 |none =>
  have:=List.find?_eq_none.1 e2 x hx;exact this (a4l.2 e)
 |some y=>rw[e2] at h;cases h
def a5n(s:St)(r:Raw)(name:ByteArray)(err:Int)(e:Ending):Prop :=
 (err≠0/\e=.returned (.tuple #[.pointer none,.int .i64 err]))\/(err=0/\∃ (i:Nat) (hi:i<r.tg.length),r.tg[i].name=name/\Desk.a0h name s.ts=r.tg[i].a0c/\e=.returned (.tuple #[.pointer (some ⟨r.tg[i].tb,0,none⟩),.int .i64 0]))
theorem c5O(w:World):(zeroValue 198).run Tryz.prog w=.ok (.pointer none) w:=by simp[go_sem]
theorem b0O(h:DK w d r col)(ho:Of s r)(hm:Mid s)(name:ByteArray)(hn:name.size<=1000)(u:Int):
  Calls Tryz.prog 146 #[.pointer (some ⟨d,0,none⟩),.string name,.int .i64 u] w fun e w'=>a5n s r name (Desk.a0S s.ts name u) e/\w'=w:=by
 obtain⟨m,f,a1,a2,a3,a4⟩:=h.mt;have kk:=b4Z hn;have hlook:=a3.look c0z Tryz.underlying137 (c5O w) kk;rw[a4 name] at hlook
 cases ht:b2r r.tg name with
 |none =>
  rw[ht] at hlook;have hu:=b2C ho ht;have e1:Desk.a0S s.ts name u=3:=by unfold Desk.a0S;rw[if_pos hu]
  have hlook':(Instr.lookup 137 (.map (some m)) (.string name) false).run Tryz.prog w=.ok (.pointer none) w:=hlook;have HF:Hid (a5n s r name (Desk.a0S s.ts name u) (.returned (.tuple #[.pointer none,.int .i64 3]))):=.inl ⟨by rw[e1];omega,by rw[e1]⟩;clear hlook e1 hu ht a3 a4 h ho hm
  go_enter Tryz.func146,Tryz.ntmps146
  go_wp2_with fail
  go_ret2;exact⟨HF.out,rfl⟩
 |some b =>
  rw[ht] at hlook;obtain⟨i,hi,e1,e2,e3⟩:=b2B ho hm.tn ht;obtain⟨ul,us,Fl,Fs,t1,t2⟩:=h.th i hi;have cu:=t1.c1;rw[e2] at cu
  have hpos:Desk.a0h name s.ts≠0:=by
   rw[e3];have hin:(r.tg[i].name,r.tg[i].a0c)∈s.ts:=by rw[<- ho.tsAt hi];exact zg _
   have:=(hm.tu _ hin).1;simp only at this;omega
  have hlook':(Instr.lookup 137 (.map (some m)) (.string name) false).run Tryz.prog w=.ok (.pointer (some ⟨b,0,none⟩)) w:=hlook
  by_cases hc:r.tg[i].a0c<u
  ·have e4:Desk.a0S s.ts name u=7:=by unfold Desk.a0S;rw[if_neg hpos,if_pos (by omega)]
   have HF:Hid (a5n s r name (Desk.a0S s.ts name u) (.returned (.tuple #[.pointer none,.int .i64 7]))):=.inl ⟨by rw[e4];omega,by rw[e4]⟩;clear hlook ht a3 a4 h ho hm e1 e2 e3 t1 t2 hpos e4;generalize r.tg[i].a0c=un at *
   go_enter Tryz.func146,Tryz.ntmps146
   go_wp2_with fail
   go_ret2;exact⟨HF.out,rfl⟩
  ·have e4:Desk.a0S s.ts name u=0:=by unfold Desk.a0S;rw[if_neg hpos,if_neg (by omega)]
   have HF:Hid (a5n s r name (Desk.a0S s.ts name u) (.returned (.tuple #[.pointer (some ⟨b,0,none⟩),.int .i64 0]))):=.inr ⟨e4,i,hi,e1,e3,by rw[e2]⟩;clear hlook ht a3 a4 h ho hm e1 e2 e3 t1 t2 hpos e4;generalize r.tg[i].a0c=un at *
   go_enter Tryz.func146,Tryz.ntmps146
   go_wp2_with fail
   go_ret2;exact⟨HF.out,rfl⟩
def a1c(s:St)(name:ByteArray)(u fr til:Int):Int:=if Desk.a0S s.ts name u≠0 then Desk.a0S s.ts name u else if til<=fr then 6 else 0
theorem a4e(h:DK w d r col)(ho:Of s r)(hm:Mid s)(name:ByteArray)(hn:name.size<=1000)(u fr til:Int):
  Calls Tryz.prog 143 #[.pointer (some ⟨d,0,none⟩),.string name,.int .i64 u,.agg #[.int .i64 fr,.int .i64 til]] w fun e w'=>a5n s r name (a1c s name u fr til) e/\Below w.heap.size w w':=by
 have hX:Below w.heap.size w (w.alloc (.cells #[.int .i64 fr,.int .i64 til] 60)):=(zr _ _).alloc (zq _) _;have HV:=a0b (b0O (h.later hX) ho hm name hn u);have HX:=a0b hX;clear h ho hm hX
 go_enter Tryz.func143,Tryz.ntmps143
 go_wp2_with fail
 refine HV.out.mono ?_;rintro e w1 ⟨hp,hw1⟩;have HW:=a0b (show Below w.heap.size w w1 by rw[hw1];exact HX.out);have x0:w1.cell? ⟨w.heap.size,0,none⟩=some (.int .i64 fr):=by rw[hw1];simp
 have x1:w1.cell? ⟨w.heap.size,1,none⟩=some (.int .i64 til):=by rw[hw1];simp
 clear hw1 HV HX;rcases hp with ⟨h1,rfl⟩|⟨h1,i,hi,e1,e2,rfl⟩
 ·have HF:Hid (a5n s r name (a1c s name u fr til) (.returned (.tuple #[.pointer none,.int .i64 (Desk.a0S s.ts name u)]))):=by
   have:a1c s name u fr til=Desk.a0S s.ts name u:=by unfold a1c;rw[if_pos h1]
   rw[this];exact .inl ⟨h1,rfl⟩
  generalize Desk.a0S s.ts name u=e0 at *;have hb:(e0 != 0)=true:=by simpa using h1
  go_wp2_with fail
  go_ret2;exact⟨HF.out,HW.out⟩
 ·by_cases hc:til<=fr
  ·have HF:Hid (a5n s r name (a1c s name u fr til) (.returned (.tuple #[.pointer none,.int .i64 6]))):=by
    have:a1c s name u fr til=6:=by unfold a1c;rw[if_neg (by omega),if_pos hc]
    rw[this];exact .inl ⟨by omega,rfl⟩
   clear h1 e1 e2
   go_wp2_with fail
   go_ret2;exact⟨HF.out,HW.out⟩
  ·have HF:Hid (a5n s r name (a1c s name u fr til) (.returned (.tuple #[.pointer (some ⟨r.tg[i].tb,0,none⟩),.int .i64 0]))):=by
    have:a1c s name u fr til=0:=by unfold a1c;rw[if_neg (by omega),if_neg hc]
    rw[this];exact .inr ⟨rfl,i,hi,e1,e2,rfl⟩
   clear h1 e1 e2
   go_wp2_with fail
   go_ret2;exact⟨HF.out,HW.out⟩
def spV(p:Int × Int):List Value:=[.int .i64 p.1,.int .i64 p.2]
def a1f(p:Ent × Value):List Value:=[.int .i64 p.1.id,.int .i64 p.1.kind,.string p.1.a0k,.int .i64 p.1.a0c,p.2,.int .i64 p.1.a0Z]
structure a9V(w:World)(B:Nat)(col:Nat->Option Col)(v:Value)(L:List (Int × Int)):Prop where
 own:w.ownsRow B 60 2 v L.length (L.flatMap spV)
 no:∀ b,v.ownBlock=some b->col b=none
structure a3j(w:World)(B:Nat)(col:Nat->Option Col)(v:Value)(l:List (Ent × Value)):Prop where
 own:w.ownsRow B 58 6 v l.length (l.flatMap a1f)
 no:∀ b,v.ownBlock=some b->col b=none
 sp:∀ p∈l,a9V w B col p.2 p.1.a0e/\∀ b,p.2.ownBlock=some b->v.ownBlock≠some b
 pw:l.Pairwise fun p q=>∀ b,p.2.ownBlock=some b->q.2.ownBlock≠some b
theorem a3j.nil(w:World)(B:Nat)(col:Nat->Option Col):a3j w B col (.slice none 0 0) []:=⟨World.ownsRow_nil _ _ _ _,(fun b hb=>by cases hb),(by simp),List.Pairwise.nil⟩
def a5m(w:World)(B:Nat)(col:Nat->Option Col)(v:Value)(p:Desk.Rep):Prop :=
 ∃ (en da gr ed:Value) (l:List (Ent × Value)),v=a0s p.err p.at_ p.n en da gr ed/\l.map (·.1)=p.entries/\a3j w B col en l/\a2I w B col da p.days/\a2I w B col gr p.granted/\a2I w B col ed p.ended/\(∀ b,gr.ownBlock=some b->en.ownBlock≠some b/\da.ownBlock≠some b/\ed.ownBlock≠some b/\∀ q∈l,q.2.ownBlock≠some b)/\∀ b,da.ownBlock=some b->ed.ownBlock≠some b
theorem a5m.plain(w:World)(B:Nat)(col:Nat->Option Col)(e n:Int):a5m w B col (a0s e 0 n (.slice none 0 0) (.slice none 0 0) (.slice none 0 0) (.slice none 0 0)) ⟨e,0,n,[],[],[],[]⟩ :=
 ⟨_,_,_,_,[],rfl,rfl,a3j.nil _ _ _,a2I.nil _ _ _,a2I.nil _ _ _,a2I.nil _ _ _,(fun b hb=>by cases hb),fun b hb=>by cases hb⟩
def a0l(w:World)(d:Nat)(col:Nat->Option Col)(q:St × Desk.Rep)(v:Value)(w':World):Prop :=
 ∃ (r':Raw) (col':Nat->Option Col),DK w' d r' col'/\Of q.1 r'/\Wl r'/\Hl r'/\Step anyS w.heap.size col col' w w'/\a5m w' w.heap.size col' v q.2
structure DSt(w:World)(d:Nat)(s:St)(r:Raw)(col:Nat->Option Col):Prop where
 dk:DK w d r col
 of:Of s r
 wl:Wl r
 hl:Hl r
 inv:Inv s
theorem DSt.mid(h:DSt w d s r col):Mid s:=h.inv.mid
theorem a5I(ho:Of s r){g:EG}(hn:(r.eg.map (·.e.id)).Nodup)(hg:g∈r.eg):Desk.a5S g.e.id s.es=some g.e:=by
 unfold Desk.a5S
 cases h:s.es.find? fun e=>decide (e.id=g.e.id) with
 |none =>
  have:=List.find?_eq_none.1 h g.e (ho.mem hg);simp at this
 |some e =>
  have h1:=List.mem_of_find?_eq_some h;have h2:=List.find?_some h;obtain⟨x,hx,rfl⟩:=ho.get h1;have:x=g:=a0W _ hn hx hg (by simpa using h2);rw[this]
theorem a7K(ho:Of s r){id:Int}(h:a6U r.eg id=none):Desk.a5S id s.es=none:=by
 unfold Desk.a5S;refine List.find?_eq_none.2 (fun e he=>?_);obtain⟨x,hx,rfl⟩:=ho.get he
 simpa using b7d h x hx
theorem a5O{s':St}{r':Raw}(h1:DK Z d r' col')(h2:Of s' r')(h3:Wl r')(h4:Hl r')(h5:Step anyS w.heap.size col col' w Z)(hQ:w.heap.size<=Q)(hn:col' Q=none)(er n:Int)(a b c e f g i:Value):
  a0l w d col (s',⟨er,0,n,[],[],[],[]⟩) (a0s er 0 n (.slice none 0 0) (.slice none 0 0) (.slice none 0 0) (.slice none 0 0)) (a2w Z Q a b c e f g i):=by
 have k:=a2R Z Q a b c e f g i;have st:Step anyS w.heap.size col' col' Z (a2w Z Q a b c e f g i):=⟨⟨_,k,fun x hx=>.inr (by have:x=Q:=List.mem_singleton.1 hx;subst this;exact⟨hn,hQ⟩)⟩,fun _ _ h=>h,fun _ _ h=>.inl h⟩;exact⟨r',col',h1.off k (fun x hx=>by have:x=Q:=List.mem_singleton.1 hx;subst this;exact hn),h2,h3,h4,h5.trans st,a5m.plain _ _ _ _ _⟩
theorem DSt.said(h:DSt w d s r col)(k:Below w.heap.size w Z)(hQ:w.heap.size<=Q)(er n:Int)(a b c e f g i:Value):
  a0l w d col (s,⟨er,0,n,[],[],[],[]⟩) (a0s er 0 n (.slice none 0 0) (.slice none 0 0) (.slice none 0 0) (.slice none 0 0)) (a2w Z Q a b c e f g i) :=
 a5O (h.dk.later k) h.of h.wl h.hl (Step.below k) hQ (h.dk.none hQ) er n a b c e f g i
theorem DSt.refuse(h:DSt w d s r col)(BX:Below w.heap.size w w1)(QX:Q7 w1 (w.heap.size+1))(hb:Below w1.heap.size w1 w2){er:Int}{l:Desk.a7U}(HD:Desk.a0g s l=(s,Desk.Rep.error er)):
  Q7 w2 (w.heap.size+1)/\a0l w d col (Desk.a0g s l) (a0s er 0 0 (.slice none 0 0) (.slice none 0 0) (.slice none 0 0) (.slice none 0 0)) (a2w w2 (w.heap.size+1) (.int .i64 er) (.int .i64 0) (.int .i64 0) (.slice none 0 0) (.slice none 0 0) (.slice none 0 0) (.slice none 0 0)) :=
 ⟨QX.later (hb.block _ (World.block_lt_of_cell? _ _ QX.q0)),by rw[HD];exact h.said (BX.trans (hb.mono BX.size)) (by omega) er 0 _ _ _ _ _ _ _⟩
theorem b5s(h:DSt w d s r col)(id:Int)(hid:0<=id/\id<=9999999):
  Calls Tryz.prog 96 #[.pointer (some ⟨d,0,none⟩),.agg #[.int .i64 id]] w fun e w'=>∃ v,e=.returned v/\a0l w d col (Desk.a0g s (.confirm id)) v w':=by
 obtain⟨hX,hXQ,hXb,_⟩:=e2v w (.cells #[.int .i64 id] 167);have xi:=d0h hXb 0 rfl;have HH:=a0b h;have HX:=a0b (And.intro hX hXQ);clear h hX hXQ hXb
 go_enter Tryz.func96,Tryz.ntmps96
 go_upto_region 1 with fail
 change Code.wp _ _ _ _ ((w.alloc (.cells #[.int .i64 id] 167)).alloc a0f);generalize (w.alloc (.cells #[.int .i64 id] 167)).alloc a0f=X at HX xi ⊢;have hx:=HH.out.dk.later HX.out.1;obtain⟨m,f,a1,a2,a3,a4⟩:=hx.me;have kk:=a9g (n:=id) (by omega) (by omega);have hlook:=(a3.block (w':=X.drew) rfl).look b3h Tryz.underlying138 (c3P X.drew) kk;rw[a4 id] at hlook;have QX:Hid (Q7 X.drew (w.heap.size+1)):=Q7.of HX.out.2;have BX:Hid (Below w.heap.size w X.drew):=HX.out.1.drew
 cases he:a6U r.eg id with
 |none =>
  rw[he] at hlook;have hlook':(Instr.lookup 138 (.map (some m)) (.int .i64 id) false).run Tryz.prog X.drew=.ok (.pointer none) X.drew:=hlook;have HD:Hid (Desk.a0g s (.confirm id)=(s,Desk.Rep.error 9)):=by have e:=a7K HH.out.of he;simp only[Hid,Desk.a0g,e]
  clear hlook a3 a4 he hx HX
  go_big_region
  clear hlook' xi a1
  go_wp2_with fail
  refine (a0D 9 X.drew).mono ?_;rintro e w1 ⟨rfl,hb⟩;have HF:=a0b (HH.out.refuse BX.out QX.out hb HD.out);obtain⟨q0,q1,q2,q3,q4,q5,q6,fq⟩:=HF.out.1;simp only[a0s]
  go_wp2_with fail
  exact d0O Tryz.results96 ⟨q0,q1,q2,q3,q4,q5,q6,fq⟩ ⟨_,rfl,HF.out.2⟩
 |some b =>
  rw[he] at hlook;obtain⟨g,hg,rfl,rfl⟩:=b2b he;have hlook':(Instr.lookup 138 (.map (some m)) (.int .i64 g.e.id) false).run Tryz.prog X.drew=.ok (.pointer (some ⟨g.eb,0,none⟩)) X.drew:=hlook;have hf:=a5I HH.out.of hx.ni hg;have ck:X.drew.cell? ⟨g.eb,1,none⟩=some (.int .i64 g.e.kind):=(hx.en g hg).1.k;have hd:=hx.later (a0q X)
  by_cases hk:g.e.kind=2
  ·have HD:Hid (Desk.a0g s (.confirm g.e.id)=({ s with es:=a0C g.e.id s.es },Desk.Rep.num 0)):=by simp only[Hid,Desk.a0g,hf,hk];simp
   have hcnt:r.hl.length<=1000:=by
    have h1:=HH.out.hl.len;have h2:r.eg.length=s.es.length:=by rw[<- HH.out.of.es];simp
    have h3:=a1x HH.out.mid;omega
   have SE:=a0b (b0w hd HH.out.hl.1 hcnt hg ⟨_,HH.out.hl.has hg (by omega),rfl,rfl⟩);have HG:=a0b (And.intro hg hk);have hkb:(g.e.kind != 2)=false:=by simpa using hk
   have NI:=a0b hx.ni;clear hlook a3 a4 he hx HX hf hk hd hcnt hg
   go_big_region
   clear hlook' xi a1
   go_wp2_with fail
   refine SE.out.mono ?_;rintro e w1 ⟨rfl,x,l',col1,k1,k2,k3,k4,k5,k6⟩;have hQ:w.heap.size+1<X.drew.heap.size:=World.block_lt_of_cell? _ _ QX.out.q0;have hcQ:col (w.heap.size+1)=none:=HH.out.dk.none (by omega);have hq:=k6.blockN hQ hcQ hQ
   have HF:Hid (a0l w d col (Desk.a0g s (.confirm g.e.id)) (a0s 0 0 0 (.slice none 0 0) (.slice none 0 0) (.slice none 0 0) (.slice none 0 0)) (a2w w1 (w.heap.size+1) (.int .i64 0) (.int .i64 0) (.int .i64 0) (.slice none 0 0) (.slice none 0 0) (.slice none 0 0) (.slice none 0 0))):=by
    rw[HD.out];have g2:=HG.out.2;refine a5O k5 ?_ (HH.out.wl.conf NI.out HG.out.1 (by omega)) (HH.out.hl.book NI.out HG.out.1 (by omega) k2 k3 k4) ((Step.below BX.out).trans (k6.any BX.out.size)) (by omega) (k6.keepN hcQ hQ) 0 0 _ _ _ _ _ _ _;have o:=HH.out.of.conf HH.out.inv.ids HG.out.1 (by omega);exact⟨o.now,o.given,o.ts,o.es,o.th,o.tb⟩
   clear k1 k2 k3 k4 k5 k6 SE ck;obtain⟨q0,q1,q2,q3,q4,q5,q6,fq⟩:=QX.out.later hq
   go_wp2_with fail
   exact d0O Tryz.results96 ⟨q0,q1,q2,q3,q4,q5,q6,fq⟩ ⟨_,rfl,HF.out⟩
  ·have HD:Hid (Desk.a0g s (.confirm g.e.id)=(s,Desk.Rep.error 10)):=by simp only[Hid,Desk.a0g,hf];rw[if_pos hk]
   have hkb:(g.e.kind != 2)=true:=by simpa using hk
   clear hlook a3 a4 he hx HX hf hk hd
   go_big_region
   clear hlook' xi a1
   go_wp2_with fail
   refine (a0D 10 X.drew).mono ?_;rintro e w1 ⟨rfl,hb⟩;have hq:=hb.block (w.heap.size+1) (World.block_lt_of_cell? _ _ QX.out.q0)
   have HF:Hid (a0l w d col (Desk.a0g s (.confirm g.e.id)) (a0s 10 0 0 (.slice none 0 0) (.slice none 0 0) (.slice none 0 0) (.slice none 0 0)) (a2w w1 (w.heap.size+1) (.int .i64 10) (.int .i64 0) (.int .i64 0) (.slice none 0 0) (.slice none 0 0) (.slice none 0 0) (.slice none 0 0))):=by
    rw[HD.out];exact HH.out.said (BX.out.trans (hb.mono BX.out.size)) (by omega) 10 0 _ _ _ _ _ _ _
   clear ck;obtain⟨q0,q1,q2,q3,q4,q5,q6,fq⟩:=QX.out.later hq;simp only[a0s]
   go_wp2_with fail
   exact d0O Tryz.results96 ⟨q0,q1,q2,q3,q4,q5,q6,fq⟩ ⟨_,rfl,HF.out⟩
theorem a0B{size n:Nat}(h:w.ownsRow B e size v n xs):∃ a cap,v=.slice a n cap:=by
 rcases h.2 with ⟨rfl,h0⟩|⟨g,cap,_,rfl,_⟩
 ·rw[h0];exact⟨_,_,rfl⟩
 ·exact⟨_,_,rfl⟩
theorem a9V.off{l:List (Int × Int)}{G:List Nat}(h:a9V w B col v l)(k:Off G w w')(hG:∀ x∈G,x<B):a9V w' B col v l :=
 ⟨a1i h.own k (fun b hb hx=>by have:=(h.own.lt b hb).1;have:=hG b hx;omega),h.no⟩
theorem a2I.off{l:List Int}{G:List Nat}(h:a2I w B col v l)(k:Off G w w')(hG:∀ x∈G,x<B):a2I w' B col v l :=
 ⟨a1i h.own k (fun b hb hx=>by have:=(h.own.lt b hb).1;have:=hG b hx;omega),h.no⟩
theorem a3j.off{G:List Nat}(h:a3j w B col v l)(k:Off G w w')(hG:∀ x∈G,x<B):a3j w' B col v l :=
 ⟨a1i h.own k (fun b hb hx=>by have:=(h.own.lt b hb).1;have:=hG b hx;omega),h.no,fun p hp=>⟨(h.sp p hp).1.off k hG,(h.sp p hp).2⟩,h.pw⟩
theorem a3j.base(h:a3j w B col v l)(hb:B'<=B):a3j w B' col v l :=
 ⟨Joins.ownsRow_le h.own hb,h.no,fun p hp=>⟨⟨Joins.ownsRow_le (h.sp p hp).1.own hb,(h.sp p hp).1.no⟩,(h.sp p hp).2⟩,h.pw⟩
theorem a5m.off{p:Desk.Rep}{G:List Nat}(h:a5m w B col v p)(k:Off G w w')(hG:∀ x∈G,x<B):a5m w' B col v p:=by
 obtain⟨en,da,gr,ed,l,e1,e2,e3,e4,e5,e6,e7⟩:=h;exact⟨en,da,gr,ed,l,e1,e2,e3.off k hG,e4.off k hG,e5.off k hG,e6.off k hG,e7⟩
theorem a5m.base{p:Desk.Rep}(h:a5m w B col v p)(hb:B'<=B):a5m w B' col v p:=by
 obtain⟨en,da,gr,ed,l,e1,e2,e3,e4,e5,e6,e7⟩:=h;exact⟨en,da,gr,ed,l,e1,e2,e3.base hb,e4.base hb,e5.base hb,e6.base hb,e7⟩
theorem a0l.up{q:St × Desk.Rep}(h:a0l X d col q v w2)(hb:Below w.heap.size w X)(hQ:w.heap.size<=Q)(hQX:Q<X.heap.size)(hc:col Q=none)(h7:Q7 X Q):
  ∃ (er at_ n:Int) (a1 a2 a3 a4:Option Addr) (n1 n2 n3 n4 c1 c2 c3 c4:Nat),v=a0s er at_ n (.slice a1 n1 c1) (.slice a2 n2 c2) (.slice a3 n3 c3) (.slice a4 n4 c4)/\Q7 w2 Q/\∀ a b c e f g i,a0l w d col q v (a2w w2 Q a b c e f g i):=by
 obtain⟨r',col',k1,k2,k3,k4,k5,k6⟩:=h;have hR:=k6;obtain⟨en,da,gr,ed,l,rfl,_,r1,r2,r3,r4,_⟩:=k6;obtain⟨b1,c1,rfl⟩:=a0B r1.own;obtain⟨b2,c2,rfl⟩:=r2.slice;obtain⟨b3,c3,rfl⟩:=r3.slice;obtain⟨b4,c4,rfl⟩:=r4.slice;refine⟨_,_,_,_,_,_,_,_,_,_,_,_,_,_,_,rfl,h7.later (k5.blockN hQX hc hQX),fun a b c e f g i=>?_⟩;have k:=a2R w2 Q a b c e f g i;have hn:=k5.keepN hc hQX;have hs:=hb.size;have st:Step anyS w.heap.size col' col' w2 (a2w w2 Q a b c e f g i):=⟨⟨_,k,fun x hx=>.inr (by have:x=Q:=List.mem_singleton.1 hx;subst this;exact⟨hn,hQ⟩)⟩,fun _ _ h=>h,fun _ _ h=>.inl h⟩;exact⟨r',col',k1.off k (fun x hx=>by have:x=Q:=List.mem_singleton.1 hx;subst this;exact hn),k2,k3,k4,((Step.below hb).trans (k5.any hs)).trans st,(hR.off k (fun x hx=>by have:x=Q:=List.mem_singleton.1 hx;omega)).base hs⟩
theorem a9V.later{l:List (Int × Int)}(h:a9V w B col v l)(k:Below w.heap.size w w'):a9V w' B col v l:=⟨a1g h.own k,h.no⟩
theorem a3j.later(h:a3j w B col v l)(k:Below w.heap.size w w'):a3j w' B col v l:=⟨a1g h.own k,h.no,fun p hp=>⟨(h.sp p hp).1.later k,(h.sp p hp).2⟩,h.pw⟩
def st0:St:=⟨[],[],0,0⟩
def c2z:Raw:=⟨0,0,[],[],[],[]⟩
def c1O(N:Nat)(k:Nat):Option Col:=if k=N then some .mt else if k=N+1 then some .me else if k=N+2 then some .desk else none
theorem c7w:Inv st0:=by
 refine⟨by simp[st0],by simp[st0],by simp[st0],by simp[st0,Ids],by simp[st0],by simp[st0],by simp[st0],by simp[st0],by simp[st0],by simp[st0],by simp[st0],by simp[st0,Desk.a1Y],by simp[st0],fun name x=>?_⟩;simp[st0,Desk.a0o,Desk.a0h]
def c1H(w:World)(v:Value)(w':World):Prop:=v=.pointer (some ⟨w.heap.size+2,0,none⟩)/\DSt w' (w.heap.size+2) st0 c2z (c1O w.heap.size)/\Below w.heap.size w w'
theorem b5o(w:World):Calls Tryz.prog 60 #[] w fun e w'=>∃ v,e=.returned v/\c1H w v w':=by
 have hmm:=@run_makeMap Tryz.prog
 have HF:Hid (c1H w (.pointer (some ⟨w.heap.size+2,0,none⟩)) (((w.alloc (.map #[] 0)).alloc (.map #[] 0)).alloc (.cells #[.int .i64 0,.int .i64 0,.map (some w.heap.size),.map (some (w.heap.size+1)),.slice none 0 0,.slice none 0 0] 144))):=by
  have s1:(w.alloc (.map #[] 0)).heap.size=w.heap.size+1:=by simp
  have s2:((w.alloc (.map #[] 0)).alloc (.map #[] 0)).heap.size=w.heap.size+2:=by simp
  have m1:=a4N.made Tryz.prog 9 w;have m2:=a4N.made Tryz.prog 3 (w.alloc (.map #[] 0));have hd:=a0p ((w.alloc (.map #[] 0)).alloc (.map #[] 0)) (.cells #[.int .i64 0,.int .i64 0,.map (some w.heap.size),.map (some (w.heap.size+1)),.slice none 0 0,.slice none 0 0] 144);have b1:(((w.alloc (.map #[] 0)).alloc (.map #[] 0)).alloc (.cells #[.int .i64 0,.int .i64 0,.map (some w.heap.size),.map (some (w.heap.size+1)),.slice none 0 0,.slice none 0 0] 144)).heap[w.heap.size]?=(w.alloc (.map #[] 0)).heap[w.heap.size]?:=(Below.heap_alloc _ _ _ (by omega)).trans (Below.heap_alloc _ _ _ (by omega));have b2:(((w.alloc (.map #[] 0)).alloc (.map #[] 0)).alloc (.cells #[.int .i64 0,.int .i64 0,.map (some w.heap.size),.map (some (w.heap.size+1)),.slice none 0 0,.slice none 0 0] 144)).heap[w.heap.size+1]?=((w.alloc (.map #[] 0)).alloc (.map #[] 0)).heap[w.heap.size+1]?:=Below.heap_alloc _ _ _ (by omega);have hb:Below w.heap.size w (((w.alloc (.map #[] 0)).alloc (.map #[] 0)).alloc (.cells #[.int .i64 0,.int .i64 0,.map (some w.heap.size),.map (some (w.heap.size+1)),.slice none 0 0,.slice none 0 0] 144)):=(((zr _ _).alloc (zq _) _).alloc (by omega) _).alloc (by omega) _;have s3:(((w.alloc (.map #[] 0)).alloc (.map #[] 0)).alloc (.cells #[.int .i64 0,.int .i64 0,.map (some w.heap.size),.map (some (w.heap.size+1)),.slice none 0 0,.slice none 0 0] 144)).heap.size=w.heap.size+3:=by simp
  rw[s2] at hd;rw[s1] at m2;have m1':=m1.block b1;have m2':=m2.block b2;generalize ((w.alloc (.map #[] 0)).alloc (.map #[] 0)).alloc (.cells #[.int .i64 0,.int .i64 0,.map (some w.heap.size),.map (some (w.heap.size+1)),.slice none 0 0,.slice none 0 0] 144)=Z at *;have c4:Z.cell? ⟨w.heap.size+2,4,none⟩=some (.slice none 0 0):=by simp only[World.cell?,hd];rfl
  have c5:Z.cell? ⟨w.heap.size+2,5,none⟩=some (.slice none 0 0):=by simp only[World.cell?,hd];rfl
  refine⟨rfl,⟨⟨?_,?_,⟨w.heap.size,_,?_,by simp[c1O],m1',fun n=>rfl⟩,⟨w.heap.size+1,_,?_,by simp[c1O],m2',fun n=>rfl⟩,⟨_,c4,World.ownsRow_nil _ _ _ _,fun b hb=>by cases hb⟩,⟨_,⟨c5,World.ownsRow_nil _ _ _ _,(by simp[Value.ownBlock]),frozen_of_row _ _ _ _ _ hd⟩,fun b hb=>by cases hb⟩,fun i hi=>by simp[c2z] at hi,fun g hg=>by simp[c2z] at hg,by simp[c2z],by simp[c2z],fun o=>frozen_of_row _ _ _ _ _ hd,by simp[c1O],fun k c hk=>?_⟩,⟨rfl,rfl,rfl,rfl,fun i hi=>by simp[c2z] at hi,fun g hg=>by simp[c2z] at hg⟩,rfl,⟨?_,List.Perm.nil⟩,c7w⟩,hb⟩
  ·simp only[World.cell?,hd];rfl
  ·simp only[World.cell?,hd];rfl
  ·simp only[World.cell?,hd];rfl
  ·simp only[World.cell?,hd];rfl
  ·unfold c1O at hk
   by_cases h1:k=w.heap.size
   ·omega
   ·by_cases h2:k=w.heap.size+1
    ·omega
    ·by_cases h3:k=w.heap.size+2
     ·omega
     ·simp[h1,h2,h3] at hk
  ·intro i hi1 hi2;have hi3:i<([]:List Hp.Hi).length:=by first|exact hi1|exact hi2
   simp at hi3
 go_enter Tryz.func60,Tryz.ntmps60
 go_wp2_with fail
 go_ret;exact⟨_,rfl,HF.out⟩
theorem c3O{S:Col->Prop}{W w5:World}{c4:Nat->Option Col}{base size n:Nat}{gr:Value}(h:w1.ownsRow base e size v n xs)(hc:∀ b,v.ownBlock=some b->col1 b=none)(kW:Below w1.heap.size w1 W)(q5:Step S W.heap.size col1 c4 W w4)(k5:Off gr.ownBlock.toList w4 w5)(k6:Off [R] w5 Z)(hR:w1.heap.size<=R)(ha:∀ b,v.ownBlock=some b->gr.ownBlock≠some b):
  Z.ownsRow base e size v n xs/\∀ b,v.ownBlock=some b->c4 b=none:=by
 have hl:∀ b,v.ownBlock=some b->b<w1.heap.size:=fun b hb=>(h.lt b hb).2
 have hs:=kW.size;refine⟨a1i (a1i (q5.own (a1g h kW) (fun b hb=>⟨hc b hb,by have:=hl b hb;omega⟩)) k5 (fun b hb hx=>ha b hb (Option.mem_toList.1 hx))) k6 (fun b hb hx=>?_),fun b hb=>q5.keepN (hc b hb) (by have:=hl b hb;omega)⟩;have:=hl b hb;have:b=R:=List.mem_singleton.1 hx;omega
theorem b8I{s1:St}{r1:Raw}{p:Desk.Rep}{er at_:Int}{en da gr ed:Value}(hX:Below w.heap.size w X)(hQX:w.heap.size<X.heap.size)(h7:Q7 X w.heap.size)(hcQ:col w.heap.size=none)
  (k1:DK w1 d r1 col1) (k5:Step anyS X.heap.size col col1 X w1) (hl:l.map (·.1)=p.entries) (e3:a3j w1 X.heap.size col1 en l) (e4:a2I w1 X.heap.size col1 da p.days) (e5:a2I w1 X.heap.size col1 gr p.granted) (e6:a2I w1 X.heap.size col1 ed p.ended) (e7:∀ b,gr.ownBlock=some b->en.ownBlock≠some b/\da.ownBlock≠some b/\ed.ownBlock≠some b/\∀ q∈l,q.2.ownBlock≠some b) (e8:∀ b,da.ownBlock=some b->ed.ownBlock≠some b) (e1:er=p.err/\at_=p.at_/\n=p.n)
  (g:a5o (w1.alloc (.cells #[.int .i64 er,.int .i64 at_,.int .i64 n,en,da,gr,ed] 40)).drew d s1 col1 v2 w4) (hb:p.granted.length+(Desk.a0R s1.ts s1.es).2.length<=100000):
  ∃ a m cap w5,(∀ ty,(Builtin.append_ #[38,38] ty #[gr,v2]).run Tryz.prog w4=.ok (.slice a m cap) w5)/\w4.cell? ⟨w1.heap.size,5,none⟩=some gr/\w5.heap[w1.heap.size]?=some (.cells #[.int .i64 er,.int .i64 at_,.int .i64 n,en,da,gr,ed] 40 (0,0))/\Q7 (w5.setCell ⟨w1.heap.size,5,none⟩ (.slice a m cap)) w.heap.size /\
   ∀ x1 x2 x3 x4 x5 x6 x7,a0l w d col ({ s1 with es:=(Desk.a0R s1.ts s1.es).1 },{ p with granted:=p.granted++(Desk.a0R s1.ts s1.es).2 }) (a0s er at_ n en da (.slice a m cap) ed) (a2w (w5.setCell ⟨w1.heap.size,5,none⟩ (.slice a m cap)) w.heap.size x1 x2 x3 x4 x5 x6 x7):=by
 have kW:Below w1.heap.size w1 (w1.alloc (.cells #[.int .i64 er,.int .i64 at_,.int .i64 n,en,da,gr,ed] 40)).drew:=((zr _ _).alloc (zq _) _).drew;have hWR:(w1.alloc (.cells #[.int .i64 er,.int .i64 at_,.int .i64 n,en,da,gr,ed] 40)).drew.heap[w1.heap.size]?=some (.cells #[.int .i64 er,.int .i64 at_,.int .i64 n,en,da,gr,ed] 40 (0,0)):=a0p w1 _;have hWs:w1.heap.size<(w1.alloc (.cells #[.int .i64 er,.int .i64 at_,.int .i64 n,en,da,gr,ed] 40)).drew.heap.size:=by show _<(w1.alloc _).heap.size;simp
 generalize (w1.alloc (.cells #[.int .i64 er,.int .i64 at_,.int .i64 n,en,da,gr,ed] 40)).drew=W at *;obtain⟨r4,c4,q1,q2,q3,q4,q5,q6⟩:=g;have hXw:=hX.size;have hXs:=k5.size;have hRc:col1 w1.heap.size=none:=k1.none (zq _);have g4:=(e5.later kW).step q5 (zq _);obtain⟨v3,w5,a1,a2,a3,a4⟩:=g4.append (q6.base (B':=X.heap.size) (by omega)) (by have:=q5.size;omega) (fun b hb=>q1.none hb) hb;obtain⟨va,vc,rfl⟩:=a2.slice;have ko:Off gr.ownBlock.toList w4 w5:=Off.grown (Off.refl _ w4) a3 (fun k hk=>.inl (Option.mem_toList.2 hk));have hgl:∀ b,gr.ownBlock=some b->b<w1.heap.size:=fun b hb=>(e5.own.lt b hb).2
 have hR4:w4.heap[w1.heap.size]?=some _:=(q5.blockN hWs hRc hWs).trans hWR;have hR5:w5.heap[w1.heap.size]?=some _:=(ko.block _ (by have:=q5.size;omega) (fun hx=>by have:=hgl _ (Option.mem_toList.1 hx);omega)).trans hR4;have k6:=Off.set0 w1.heap.size w5 5 (.slice va (p.granted++(Desk.a0R s1.ts s1.es).2).length vc);have hcR4:c4 w1.heap.size=none:=q5.keepN hRc hWs;have hcQ1:col1 w.heap.size=none:=k5.keepN hcQ hQX;have hcQ4:c4 w.heap.size=none:=q5.keepN hcQ1 (by omega)
 have hv3:∀ b,(Value.slice va (p.granted++(Desk.a0R s1.ts s1.es).2).length vc).ownBlock=some b->gr.ownBlock=some b\/b=w4.heap.size:=fun b hb=>by
  rcases a4 with e|e
  ·exact .inl (by rw[<- e];exact hb)
  ·rw[hb] at e;exact .inr (Option.some.inj e)
 have hs4:=q5.size
 have h7':Q7 (w5.setCell ⟨w1.heap.size,5,none⟩ (.slice va (p.granted++(Desk.a0R s1.ts s1.es).2).length vc)) w.heap.size:=by
  refine h7.later ?_;have b1:=k5.blockN hQX hcQ hQX;have b2:=kW.block w.heap.size (by omega);have b3:=q5.blockN (b:=w.heap.size) (by omega) hcQ1 (by omega);have b4:=ko.block w.heap.size (by omega) (fun hx=>by have:=(e5.own.lt _ (Option.mem_toList.1 hx)).1;omega);have b5:=k6.block w.heap.size (by have:=ko.size;omega) (by simp;omega);rw[b5,b4,b3,b2,b1]
 have rEn:=c3O e3.own e3.no kW q5 ko k6 (zq _) (fun b hb hx=>(e7 b hx).1 hb);have rDa:=c3O e4.own e4.no kW q5 ko k6 (zq _) (fun b hb hx=>(e7 b hx).2.1 hb);have rEd:=c3O e6.own e6.no kW q5 ko k6 (zq _) (fun b hb hx=>(e7 b hx).2.2.1 hb)
 have rSp:∀ q∈l,a9V (w5.setCell ⟨w1.heap.size,5,none⟩ (.slice va (p.granted++(Desk.a0R s1.ts s1.es).2).length vc)) X.heap.size c4 q.2 q.1.a0e:=fun q hq=>by
  have x:=c3O (e3.sp q hq).1.own (e3.sp q hq).1.no kW q5 ko k6 (zq _) (fun b hb hx=>(e7 b hx).2.2.2 q hq hb);exact⟨x.1,x.2⟩
 refine⟨va,_,vc,w5,a1,?_,hR5,h7',fun x1 x2 x3 x4 x5 x6 x7=>?_⟩
 ·simp only[World.cell?,hR4];rfl
 ·have kq:=a2R (w5.setCell ⟨w1.heap.size,5,none⟩ (.slice va (p.granted++(Desk.a0R s1.ts s1.es).2).length vc)) w.heap.size x1 x2 x3 x4 x5 x6 x7;have hQ1:∀ x∈[w.heap.size],x<X.heap.size:=fun x hx=>by have:x=w.heap.size:=List.mem_singleton.1 hx;omega
  have hrep:a5m (w5.setCell ⟨w1.heap.size,5,none⟩ (.slice va (p.granted++(Desk.a0R s1.ts s1.es).2).length vc)) X.heap.size c4 (a0s er at_ n en da (.slice va (p.granted++(Desk.a0R s1.ts s1.es).2).length vc) ed) { p with granted:=p.granted++(Desk.a0R s1.ts s1.es).2 }:=by
   refine⟨en,da,_,ed,l,by rw[e1.1,e1.2.1,e1.2.2],hl,⟨rEn.1,rEn.2,fun q hq=>⟨rSp q hq,(e3.sp q hq).2⟩,e3.pw⟩,⟨rDa.1,rDa.2⟩,⟨a1i a2.own k6 (fun b hb hx=>?_),a2.no⟩,⟨rEd.1,rEd.2⟩,fun b hb=>?_,e8⟩
   ·have e:b=w1.heap.size:=List.mem_singleton.1 hx;rcases hv3 b hb with e2|e2
    ·have:=hgl b e2;omega
    ·omega
   ·rcases hv3 b hb with e2|e2
    ·exact e7 b e2
    ·refine⟨fun e=>?_,fun e=>?_,fun e=>?_,fun q hq e=>?_⟩
     ·have:=(e3.own.lt b e).2;omega
     ·have:=(e4.own.lt b e).2;omega
     ·have:=(e6.own.lt b e).2;omega
     ·have:=((e3.sp q hq).1.own.lt b e).2;omega
  refine⟨r4,c4,((q1.off ko (fun x hx=>g4.no x (Option.mem_toList.1 hx))).off k6 (fun x hx=>by have:x=w1.heap.size:=List.mem_singleton.1 hx;subst this;exact hcR4)).off kq (fun x hx=>by have:x=w.heap.size:=List.mem_singleton.1 hx;subst this;exact hcQ4),q2,q3,q4,?_,(hrep.off kq hQ1).base hXw⟩;have t1:Step anyS w.heap.size col col1 w w1:=(Step.below hX).trans (k5.any hXw);have t2:Step anyS w.heap.size col c4 w w4:=(t1.trans (Step.below kW)).trans (q5.any (by omega));have t3:Step anyS w.heap.size c4 c4 w4 w5:=⟨⟨_,ko,fun x hx=>.inr ⟨g4.no x (Option.mem_toList.1 hx),by have:=(e5.own.lt x (Option.mem_toList.1 hx)).1;omega⟩⟩,fun _ _ h=>h,fun _ _ h=>.inl h⟩;have t4:Step anyS w.heap.size c4 c4 w5 (w5.setCell ⟨w1.heap.size,5,none⟩ (.slice va (p.granted++(Desk.a0R s1.ts s1.es).2).length vc)):=⟨⟨_,k6,fun x hx=>.inr (by have:x=w1.heap.size:=List.mem_singleton.1 hx;subst this;exact⟨hcR4,by omega⟩)⟩,fun _ _ h=>h,fun _ _ h=>.inl h⟩;have t5:Step anyS w.heap.size c4 c4 _ _:=⟨⟨_,kq,fun x hx=>.inr (by have:x=w.heap.size:=List.mem_singleton.1 hx;subst this;exact⟨hcQ4,Nat.le_refl _⟩)⟩,fun _ _ h=>h,fun _ _ h=>.inl h⟩;exact ((t2.trans t3).trans t4).trans t5
theorem a5m.later{p:Desk.Rep}(h:a5m w B col v p)(k:Below w.heap.size w w'):a5m w' B col v p:=by
 obtain⟨en,da,gr,ed,l,e1,e2,e3,e4,e5,e6,e7⟩:=h;exact⟨en,da,gr,ed,l,e1,e2,e3.later k,e4.later k,e5.later k,e6.later k,e7⟩
theorem a0l.later{q:St × Desk.Rep}(h:a0l X d col q v w1)(k:Below w1.heap.size w1 w2):a0l X d col q v w2:=by
 obtain⟨r',col',k1,k2,k3,k4,k5,k6⟩:=h;exact⟨r',col',k1.later k,k2,k3,k4,k5.trans (Step.below k),k6.later k⟩
theorem b9u{l:Desk.a7U}(h:(Desk.a0g s l).2.err≠0):Desk.a1q s l=Desk.a0g s l:=by unfold Desk.a1q;rw[if_pos h]
theorem c2k{l:Desk.a7U}(h:(Desk.a0g s l).2.err=0):Desk.a1q s l=({ (Desk.a0g s l).1 with es:=(Desk.a0R (Desk.a0g s l).1.ts (Desk.a0g s l).1.es).1 },{ (Desk.a0g s l).2 with granted:=(Desk.a0g s l).2.granted++(Desk.a0R (Desk.a0g s l).1.ts (Desk.a0g s l).1.es).2 }):=by unfold Desk.a1q;rw[if_neg (by omega)]
theorem c7o{a b c d e f g:Value}(h:w.heap[R]?=some (.cells #[a,b,c,d,e,f,g] 40 (0,0))):w.cell? ⟨R,0,none⟩=some a/\w.cell? ⟨R,1,none⟩=some b/\w.cell? ⟨R,2,none⟩=some c/\w.cell? ⟨R,3,none⟩=some d/\w.cell? ⟨R,4,none⟩=some e/\w.cell? ⟨R,5,none⟩=some f/\w.cell? ⟨R,6,none⟩=some g/\∀ o,w.frozen? ⟨R,o,none⟩=false:=by
 refine⟨?_,?_,?_,?_,?_,?_,?_,fun o=>frozen_of_row _ R o _ _ h⟩
 all_goals (simp only[World.cell?,h];rfl)
theorem c6E(h:DSt w d s r col)(line:Value)(l:Desk.a7U)(hmd:Desk.Mid (Desk.a0g s l).1)(hgl:(Desk.a0g s l).2.granted.length<=50000)
  (hans:∀ X,Below w.heap.size w X->DSt X d s r col->Calls Tryz.prog 64 #[.pointer (some ⟨d,0,none⟩),line] X fun e w'=>∃ v,e=.returned v/\a0l X d col (Desk.a0g s l) v w'):
  Calls Tryz.prog 46 #[.pointer (some ⟨d,0,none⟩),line] w fun e w'=>∃ v,e=.returned v/\a0l w d col (Desk.a1q s l) v w':=by
 have hX:Below w.heap.size w (w.alloc a0f):=(zr _ _).alloc (zq _) _;have hq:=a0p w a0f;have hs:w.heap.size<(w.alloc a0f).heap.size:=by simp
 have AN:=a0b (hans (w.alloc a0f) hX ⟨h.dk.later hX,h.of,h.wl,h.hl,h.inv⟩);have HX:=a0b (And.intro hX (And.intro (Q7.of hq) (h.dk.none (zq _))));have HM:=a0b (And.intro hmd hgl);have HE:=a0b (b9u (s:=s) (l:=l));have HO:=a0b (c2k (s:=s) (l:=l));clear h hans hX hq hgl;generalize Desk.a1q s l=SD at *;generalize Desk.a0g s l=D at *
 go_enter Tryz.func46,Tryz.ntmps46
 go_upto_region 1 with fail
 change Code.wp _ _ _ _ (w.alloc a0f);generalize w.alloc a0f=X at *
 go_wp2_with fail
 refine AN.out.mono ?_;rintro e w1 ⟨v,rfl,ap⟩;have AP:=a0b ap;obtain⟨r1,col1,k1,k2,k3,k4,k5,en,da,gr,ed,l2,rfl,hl2,e3,e4,e5,e6,e7⟩:=ap;obtain⟨b1,c1,rfl⟩:=a0B e3.own;obtain⟨b2,c2,rfl⟩:=e4.slice;obtain⟨b3,c3,rfl⟩:=e5.slice;obtain⟨b4,c4,rfl⟩:=e6.slice;have hs1:=k5.size
 by_cases he:D.2.err=0
 ·have HOO:=a0b (HO.out he);have GR:=a0b (b3y (w:=(w1.alloc (.cells #[.int .i64 D.2.err,.int .i64 D.2.at_,.int .i64 D.2.n,.slice b1 l2.length c1,.slice b2 D.2.days.length c2,.slice b3 D.2.granted.length c3,.slice b4 D.2.ended.length c4] 40)).drew) (k1.later ((zr _ _).alloc (zq _) _).drew) k2 k3 k4 HM.out.1)
  have AG:=a0b (fun v2 w4 g=>b8I (w:=w) (w4:=w4) (v2:=v2) (s1:=D.1) HX.out.1 hs HX.out.2.1 HX.out.2.2 k1 k5 hl2 e3 e4 e5 e6 e7.1 e7.2 ⟨rfl,rfl,rfl⟩ g (by
   have h1:=a5e D.1.ts (D.1.es.filter Desk.a0T) (D.1.es,[]);have h2:=List.length_filter_le Desk.a0T D.1.es;have h3:=a1x HM.out.1;have e1:=Desk.a5F D.1.ts D.1.es HM.out.1.ids;have h4:=HM.out.2;simp only[List.length_nil] at h1;rw[<- e1] at h1
   omega))
  have yR:(w1.alloc (.cells #[.int .i64 D.2.err,.int .i64 D.2.at_,.int .i64 D.2.n,.slice b1 l2.length c1,.slice b2 D.2.days.length c2,.slice b3 D.2.granted.length c3,.slice b4 D.2.ended.length c4] 40)).cell? ⟨w1.heap.size,5,none⟩=some (.slice b3 D.2.granted.length c3):=by simp
  clear k1 k2 k3 k4 k5 hl2 e3 e4 e5 e6 e7 AP AN;simp only[a0s];rw[he] at GR AG yR HOO ⊢
  go_upto_region 3 with fail
  go_region_law (first
   |(refine a2k (by rfl) 65 _ _ (by rfl) _ (by simp[Act.eval,Act.put]) (b6Z _ _) GR.out ?_;rintro e w4 ⟨v2,rfl,p⟩;refine⟨_,rfl,?_⟩;obtain⟨a,m,cap,w5,hrun,g5,h5,q7,hf⟩:=AG.out v2 w4 p;have HR:=a0b hrun;have HF:=a0b hf;clear hrun hf;obtain⟨y0,y1,y2,y3,y4,y5,y6,fR⟩:=c7o h5;obtain⟨q0,q1,q2,q3,q4,q5,q6,fq⟩:=q7)
   |(refine a3u (by rfl) _ _ _ _ (by rfl) (HR.out _) ?_))
  all_goals
   have HG:=a0b (HF.out (.int .i64 0) (.int .i64 D.2.at_) (.int .i64 D.2.n) (.slice b1 l2.length c1) (.slice b2 D.2.days.length c2) (.slice a m cap) (.slice b4 D.2.ended.length c4));clear HF p GR AG HR yR g5 h5
   go_wp2_with fail
   exact d0O Tryz.results46 ⟨q0,q1,q2,q3,q4,q5,q6,fq⟩ ⟨_,rfl,by rw[HOO.out];exact HG.out⟩
 ·have hbe:(D.2.err==0)=false:=by simpa using he
  have HD:=a0b (HE.out he);have kW:Below w1.heap.size w1 (w1.alloc (.cells #[.int .i64 D.2.err,.int .i64 D.2.at_,.int .i64 D.2.n,.slice b1 l2.length c1,.slice b2 D.2.days.length c2,.slice b3 D.2.granted.length c3,.slice b4 D.2.ended.length c4] 40)):=(zr _ _).alloc (zq _) _;obtain⟨_,_,_,_,_,_,_,_,_,_,_,_,_,_,_,_,q7,hf⟩:=(AP.out.later kW).up HX.out.1 (zq _) hs HX.out.2.2 HX.out.2.1;have HF:=a0b (hf (.int .i64 D.2.err) (.int .i64 D.2.at_) (.int .i64 D.2.n) (.slice b1 l2.length c1) (.slice b2 D.2.days.length c2) (.slice b3 D.2.granted.length c3) (.slice b4 D.2.ended.length c4));obtain⟨q0,q1,q2,q3,q4,q5,q6,fq⟩:=q7;clear k1 k2 k3 k4 k5 hl2 e3 e4 e5 e6 e7 AP AN hf kW;simp only[a0s];generalize D.2.err=er at *
  go_wp2_with fail
  exact d0O Tryz.results46 ⟨q0,q1,q2,q3,q4,q5,q6,fq⟩ ⟨_,rfl,by rw[HD.out];exact HF.out⟩
theorem a2a{a b:Bool}(h:a=b):Ending.returned (.bool a)=.returned (.bool b):=by rw[h]
theorem a3w{k:IntKind}(h:a=b):Ending.returned (.int k a)=.returned (.int k b):=by rw[h]
def Tab(w:World):Prop:=w.cell? ⟨1,0,none⟩=some (.int .i64 31)/\w.cell? ⟨1,1,none⟩=some (.int .i64 28)/\w.cell? ⟨1,2,none⟩=some (.int .i64 31)/\w.cell? ⟨1,3,none⟩=some (.int .i64 30)/\w.cell? ⟨1,4,none⟩=some (.int .i64 31)/\w.cell? ⟨1,5,none⟩=some (.int .i64 30)/\w.cell? ⟨1,6,none⟩=some (.int .i64 31)/\w.cell? ⟨1,7,none⟩=some (.int .i64 31)/\w.cell? ⟨1,8,none⟩=some (.int .i64 30)/\w.cell? ⟨1,9,none⟩=some (.int .i64 31)/\w.cell? ⟨1,10,none⟩=some (.int .i64 30)/\w.cell? ⟨1,11,none⟩=some (.int .i64 31)
theorem b8s(y:Int)(w:World)(h1:0<=y)(h2:y<=10000):
  Calls Tryz.prog 228 #[.int .i64 y] w fun e w'=>e=.returned (.bool (Cal.c2U y))/\w'=w:=by
 cases a4:(y % 4==0)
 ·go_enter Tryz.func228,Tryz.ntmps228
  go_wp2;go_ret;exact⟨a2a (by simp[Cal.c2U,a4]),rfl⟩
 ·cases a100:(y % 100 != 0)
  ·cases a400:(y % 400==0)
   all_goals
    go_enter Tryz.func228,Tryz.ntmps228
    go_wp2;go_ret;exact⟨a2a (by simp only[Cal.c2U,a4,a100,a400];rfl),rfl⟩
  ·go_enter Tryz.func228,Tryz.ntmps228
   go_wp2;go_ret;exact⟨a2a (by simp only[Cal.c2U,a4,a100];rfl),rfl⟩
theorem a3h(y:Int)(w:World)(h1:1<=y)(h2:y<=10000):
  Calls Tryz.prog 168 #[.int .i64 y] w fun e w'=>e=.returned (.int .i64 (Cal.ah y))/\w'=w:=by
 go_enter Tryz.func168,Tryz.ntmps168
 go_wp2;go_ret;exact⟨a3w (by unfold Cal.ah;omega),rfl⟩
theorem a5L(y m:Int)(w:World)(ht:Tab w)(h1:0<=y)(h2:y<=10000)(h3:1<=m)(h4:m<=12):
  Calls Tryz.prog 169 #[.int .i64 y,.int .i64 m] w fun e w'=>e=.returned (.int .i64 (Cal.dim y m))/\w'=w:=by
 obtain⟨c0,c1,c2,c3,c4,c5,c6,c7,c8,c9,c10,c11⟩:=ht;rcases Cal.c3Z m h3 h4 with h|h|h|h|h|h|h|h|h|h|h|h
 ·subst h
  go_enter Tryz.func169,Tryz.ntmps169
  go_wp2;go_ret;exact⟨a3w (by simp[Cal.dim,Cal.tab]),rfl⟩
 ·subst h
  cases hl:Cal.c2U y
  all_goals
   go_enter Tryz.func169,Tryz.ntmps169
   go_wp2_with (go_at_call 228;refine (b8s _ _ (by omega) (by omega)).mono ?_;rintro e w' ⟨rfl,rfl⟩)
   go_ret;exact⟨a3w (by simp[Cal.dim,Cal.lp,hl]),rfl⟩
 all_goals
  subst h
  go_enter Tryz.func169,Tryz.ntmps169
  go_wp2;go_ret;exact⟨a3w (by simp[Cal.dim,Cal.tab]),rfl⟩
theorem b7A(g:Int)(w:World)(h1:0<=g)(h2:g<3652059):
  Calls Tryz.prog 171 #[.int .i64 g] w fun e w'=>∃ y:Int,e=.returned (.int .i64 y)/\1<=y/\y<=9999/\Cal.ah y<=g/\g<Cal.ah (y+1)/\w'=w:=by
 have g0:=Cal.b7s g h1
 go_enter Tryz.func171,Tryz.ntmps171
 go_wp2
 go_loop [3] (fun t=>∃ y:Int,1<=y/\y<=9999/\Cal.ah y<=g/\t=.int .i64 y) (fun t=>(9999-intOf t).toNat)
 case atStart=>exact⟨_,by omega,by omega,g0,rfl⟩
 case round =>
  obtain⟨y,hy1,hy2,hy3,rfl⟩:=hrel;clear g0
  by_cases hd:Cal.ah (y+1)<=g
  ·have hy:y<9999:=by
    by_cases e:y=9999
    ·subst e;have:=Cal.b7t;rw[show (9999:Int)+1=10000 from rfl] at hd;omega
    ·omega
   go_wp2_with (go_at_call 168;refine (a3h _ _ (by omega) (by omega)).mono ?_;rintro e w' ⟨rfl,rfl⟩)
   go_round
   case rel=>exact⟨y+1,by omega,by omega,hd,rfl⟩
   case measure=>simp[intOf];omega
  ·have hd':g<Cal.ah (y+1):=by omega
   go_wp2_with (go_at_call 168;refine (a3h _ _ (by omega) (by omega)).mono ?_;rintro e w' ⟨rfl,rfl⟩)
   go_ret;exact⟨y,rfl,hy1,hy2,hy3,hd',rfl⟩
theorem a5A{d:Int}(h:¬ (1<=y/\y<=9999/\1<=m/\m<=12/\1<=d/\d<=Cal.dim y m)):Cal.ok y m d=false:=by
 unfold Cal.ok;exact decide_eq_false h
theorem b9Y{d:Int}(h:1<=y/\y<=9999/\1<=m/\m<=12/\1<=d/\d<=Cal.dim y m):Cal.ok y m d=true:=by
 unfold Cal.ok;exact decide_eq_true h
theorem b0T(y m d:Int)(w:World)(ht:Tab w):
  Calls Tryz.prog 167 #[.int .i64 y,.int .i64 m,.int .i64 d] w fun e w'=>e=.returned (.bool (Cal.ok y m d))/\w'=w:=by
 by_cases a:1<=y
 ·by_cases b:y<=9999
  ·by_cases c:1<=m
   ·by_cases f:m<=12
    ·by_cases g:1<=d
     ·by_cases k:d<=Cal.dim y m
      all_goals
       go_enter Tryz.func167,Tryz.ntmps167
       go_wp2_with (go_at_call 169;refine (a5L _ _ _ ht (by omega) (by omega) (by omega) (by omega)).mono ?_;rintro e w' ⟨rfl,rfl⟩)
       go_ret
      ·exact⟨a2a (by rw[b9Y ⟨a,b,c,f,g,k⟩]),rfl⟩
      ·exact⟨a2a (by rw[a5A (by omega)];exact decide_eq_false (by omega)),rfl⟩
     ·go_enter Tryz.func167,Tryz.ntmps167
      go_wp2;go_ret;exact⟨a2a (by rw[a5A (by omega)]),rfl⟩
    ·go_enter Tryz.func167,Tryz.ntmps167
     go_wp2;go_ret;exact⟨a2a (by rw[a5A (by omega)]),rfl⟩
   ·go_enter Tryz.func167,Tryz.ntmps167
    go_wp2;go_ret;exact⟨a2a (by rw[a5A (by omega)]),rfl⟩
  ·go_enter Tryz.func167,Tryz.ntmps167
   go_wp2;go_ret;exact⟨a2a (by rw[a5A (by omega)]),rfl⟩
 ·go_enter Tryz.func167,Tryz.ntmps167
  go_wp2;go_ret;exact⟨a2a (by rw[a5A (by omega)]),rfl⟩
theorem a9O(y m d:Int)(w:World)(ht:Tab w)(h:Cal.ok y m d=false):
  Calls Tryz.prog 112 #[.int .i64 y,.int .i64 m,.int .i64 d] w fun e w'=>e=.returned (.tuple #[.int .i64 0,.int .i64 6])/\w'=w:=by
 go_enter Tryz.func112,Tryz.ntmps112
 go_wp2_with (go_at_call 167;refine (b0T _ _ _ _ ht).mono ?_;rintro e w' ⟨rfl,rfl⟩)
 go_ret2;exact⟨rfl,rfl⟩
theorem c2w{k l:IntKind}{c:Int}(h:a=b):Ending.returned (.tuple #[.int k a,.int l c])=.returned (.tuple #[.int k b,.int l c]):=by rw[h]
theorem a7P(y m d:Int)(w:World)(ht:Tab w)(h:Cal.ok y m d=true):
  Calls Tryz.prog 112 #[.int .i64 y,.int .i64 m,.int .i64 d] w fun e w'=>e=.returned (.tuple #[.int .i64 (Cal.num y m d),.int .i64 0])/\w'=w:=by
 obtain⟨h1,h2,h3,h4,h5,h6⟩:=(Cal.a2K y m d).1 h;have hb:=Cal.c5D y h1 (by omega);have hdb:=Cal.b3I y m;have hl:=Cal.c4Z y
 go_enter Tryz.func112,Tryz.ntmps112
 go_wp2_with (first|(go_at_call 167;refine (b0T _ _ _ _ ht).mono ?_;rintro e w' ⟨rfl,rfl⟩)|(go_at_call 168;refine (a3h _ _ (by omega) (by omega)).mono ?_;rintro e w' ⟨rfl,rfl⟩))
 go_loop [8,9] (fun n k=>∃ j:Int,1<=j/\j<=m/\k=.int .i64 j/\n=.int .i64 (-738885+Cal.ah y+d-1+Cal.cum y j)) (fun _ k=>(m-intOf k).toNat)
 case atStart=>exact⟨1,by omega,by omega,rfl,by rw[Cal.a9K,Int.add_zero]⟩
 case round =>
  obtain⟨j,hj1,hj2,rfl,rfl⟩:=hrel;have cb:=Cal.b7m y j hj1 (by omega);have db:=Cal.b3I y j;have cs:=Cal.a5M y j hj1 (by omega);have HC:Hid (Cal.cum y (j+1)=Cal.cum y j+Cal.dim y j):=cs;clear cs
  by_cases hc:j<m
  ·go_wp2_with (go_at_call 169;refine (a5L _ _ _ ht (by omega) (by omega) (by omega) (by omega)).mono ?_;rintro e w' ⟨rfl,rfl⟩)
   go_round
   case rel=>exact⟨j+1,by omega,by omega,rfl,by rw[HC.out];go_num⟩
   case measure=>simp[intOf];omega
  ·obtain rfl:j=m:=by omega
   go_wp2;go_ret2;exact⟨c2w (by unfold Cal.num Cal.first;omega),rfl⟩
theorem b2R{fn:Func}{t u v x:Tmp}(h:fn.results=#[.tmp t,.tmp u,.tmp v,.tmp x])(tmps:Array Value)(P:Program)(w:World):
  (results fn tmps).run P w=.ok (.tuple #[tmps.getD t undef,tmps.getD u undef,tmps.getD v undef,tmps.getD x undef]) w:=by
 simp[results,h]
theorem g9D(n:Int)(w:World)(h:n < -738885\/2913173<n):
  Calls Tryz.prog 116 #[.int .i64 n] w fun e w'=>e=.returned (.tuple #[.int .i64 0,.int .i64 0,.int .i64 0,.int .i64 6])/\w'=w:=by
 rcases h with h|h
 ·go_enter Tryz.func116,Tryz.ntmps116
  go_wp2
  (try simp only[Exit.inBlock,Exit.then]);refine bodyPost_ret (b2R rfl _ _ _) rfl ?_
  exact⟨rfl,rfl⟩
 ·have h':¬ n < -738885:=by omega
  go_enter Tryz.func116,Tryz.ntmps116
  go_wp2
  (try simp only[Exit.inBlock,Exit.then]);refine bodyPost_ret (b2R rfl _ _ _) rfl ?_
  exact⟨rfl,rfl⟩
theorem c6d(n y k:Int):Cal.num y k (n+738885-Cal.ah y-Cal.cum y k+1)=n:=by unfold Cal.num Cal.first;omega
theorem b5w(n:Int)(w:World)(ht:Tab w)(h1:-738885<=n)(h2:n<=2913173):
  Calls Tryz.prog 116 #[.int .i64 n] w fun e w'=>∃ y m d:Int,e=.returned (.tuple #[.int .i64 y,.int .i64 m,.int .i64 d,.int .i64 0])/\Cal.ok y m d=true/\Cal.num y m d=n/\w'=w:=by
 go_enter Tryz.func116,Tryz.ntmps116
 go_wp2_with (first|(go_at_call 171;refine (b7A _ _ (by omega) (by omega)).mono ?_;rintro e w' ⟨y,rfl,hy1,hy2,hy3,hy4,rfl⟩;have hb:=Cal.c5D y hy1 (by omega))|(go_at_call 168;refine (a3h _ _ (by omega) (by omega)).mono ?_;rintro e w' ⟨rfl,rfl⟩))
 have hs:=Cal.b5I y hy1;have hl:=Cal.c4Z y
 go_loop [8,9] (fun r k=>∃ m:Int,1<=m/\m<=12/\k=.int .i64 m/\0<=n+738885-Cal.ah y-Cal.cum y m/\r=.int .i64 (n+738885-Cal.ah y-Cal.cum y m)) (fun _ k=>(12-intOf k).toNat)
 case atStart=>exact⟨1,by omega,by omega,rfl,by rw[Cal.a9K];omega,by rw[Cal.a9K,Int.sub_zero]⟩
 case round =>
  obtain⟨m,hm1,hm2,rfl,hr,rfl⟩:=hrel;have cb:=Cal.b7m y m hm1 (by omega);have db:=Cal.b3I y m;have cs:=Cal.a5M y m hm1 hm2;have ce:=Cal.b5q y
  by_cases hd:Cal.dim y m<=n+738885-Cal.ah y-Cal.cum y m
  ·have hm:m<12:=by
    by_cases e:m=12
    ·subst e;rw[show (12:Int)+1=13 from rfl] at cs;omega
    ·omega
   have HC:Hid (Cal.cum y (m+1)=Cal.cum y m+Cal.dim y m):=cs;clear cs ce hs
   go_wp2_with (go_at_call 169;refine (a5L _ _ _ ht (by omega) (by omega) (by omega) (by omega)).mono ?_;rintro e w' ⟨rfl,rfl⟩)
   go_round
   case rel=>exact⟨m+1,by omega,by omega,rfl,by rw[HC.out];omega,by rw[HC.out];go_num⟩
   case measure=>simp[intOf];omega
  ·have hok:Cal.ok y m (n+738885-Cal.ah y-Cal.cum y m+1)=true:=b9Y (by omega);clear cs ce hs
   go_wp2_with (go_at_call 169;refine (a5L _ _ _ ht (by omega) (by omega) (by omega) (by omega)).mono ?_;rintro e w' ⟨rfl,rfl⟩)
   (try simp only[Exit.inBlock,Exit.then]);refine bodyPost_ret (b2R rfl _ _ _) rfl ?_
   exact⟨y,m,_,rfl,hok,c6d n y m,rfl⟩
theorem d8n(y:Int)(w:World)(h1:0<=y)(h2:y<=10000):
  Calls Tryz.prog 170 #[.int .i64 y] w fun e w'=>e=.returned (.bool (Cal.c2U y))/\w'=w:=by
 cases a100:(y % 100==0)
 ·go_enter Tryz.func170,Tryz.ntmps170
  go_wp2;go_ret;exact⟨a2a (by simp only[Cal.c2U,bne,a100];simp),rfl⟩
 ·have a4:(y % 4==0)=true:=by simp only[beq_iff_eq] at a100 ⊢;omega
  have HA:Hid ((y % 4==0)=true):=a4;clear a4
  go_enter Tryz.func170,Tryz.ntmps170
  go_wp2;go_ret;exact⟨a2a (by simp only[Cal.c2U,bne,a100,HA.out];simp),rfl⟩
theorem c9C(y:Int)(w:World)(h1:0<=y)(h2:y<=10000):
  Calls Tryz.prog 115 #[.int .i64 y] w fun e w'=>e=.returned (.int .i64 (365+Cal.lp y))/\w'=w:=by
 cases hl:Cal.c2U y
 all_goals
  go_enter Tryz.func115,Tryz.ntmps115
  go_wp2_with (go_at_call 170;refine (d8n _ _ (by omega) (by omega)).mono ?_;rintro e w' ⟨rfl,rfl⟩)
  go_ret;exact⟨a3w (by simp[Cal.lp,hl]),rfl⟩
theorem c9Q(y m:Int)(w:World)(h1:0<=y)(h2:y<=10000)(h3:1<=m)(h4:m<=12):
  Calls Tryz.prog 114 #[.int .i64 y,.int .i64 m] w fun e w'=>e=.returned (.int .i64 (Cal.dim y m))/\w'=w:=by
 rcases Cal.c3Z m h3 h4 with h|h|h|h|h|h|h|h|h|h|h|h
 ·subst h
  go_enter Tryz.func114,Tryz.ntmps114
  go_wp2;go_ret;exact⟨a3w (by simp[Cal.dim,Cal.tab]),rfl⟩
 ·subst h
  cases hl:Cal.c2U y
  all_goals
   go_enter Tryz.func114,Tryz.ntmps114
   go_wp2_with (go_at_call 170;refine (d8n _ _ (by omega) (by omega)).mono ?_;rintro e w' ⟨rfl,rfl⟩)
   go_ret;exact⟨a3w (by simp[Cal.dim,Cal.lp,hl]),rfl⟩
 all_goals
  subst h
  go_enter Tryz.func114,Tryz.ntmps114
  go_wp2;go_ret;exact⟨a3w (by simp[Cal.dim,Cal.tab]),rfl⟩
theorem e0r(y m d:Int)(w:World):
  Calls Tryz.prog 113 #[.int .i64 y,.int .i64 m,.int .i64 d] w fun e w'=>e=.returned (.bool (Cal.ok y m d))/\w'=w:=by
 by_cases a:1<=y
 ·by_cases b:y<=9999
  ·by_cases c:1<=m
   ·by_cases f:m<=12
    ·by_cases g:1<=d
     ·by_cases k:d<=Cal.dim y m
      all_goals
       go_enter Tryz.func113,Tryz.ntmps113
       go_wp2_with (go_at_call 114;refine (c9Q _ _ _ (by omega) (by omega) (by omega) (by omega)).mono ?_;rintro e w' ⟨rfl,rfl⟩)
       go_ret
      ·exact⟨a2a (by rw[b9Y ⟨a,b,c,f,g,k⟩]),rfl⟩
      ·exact⟨a2a (by rw[a5A (by omega)];exact decide_eq_false (by omega)),rfl⟩
     ·go_enter Tryz.func113,Tryz.ntmps113
      go_wp2;go_ret;exact⟨a2a (by rw[a5A (by omega)]),rfl⟩
    ·go_enter Tryz.func113,Tryz.ntmps113
     go_wp2;go_ret;exact⟨a2a (by rw[a5A (by omega)]),rfl⟩
   ·go_enter Tryz.func113,Tryz.ntmps113
    go_wp2;go_ret;exact⟨a2a (by rw[a5A (by omega)]),rfl⟩
  ·go_enter Tryz.func113,Tryz.ntmps113
   go_wp2;go_ret;exact⟨a2a (by rw[a5A (by omega)]),rfl⟩
 ·go_enter Tryz.func113,Tryz.ntmps113
  go_wp2;go_ret;exact⟨a2a (by rw[a5A (by omega)]),rfl⟩
theorem f3X(y m d:Int)(w:World)(h:Cal.ok y m d=false):
  Calls Tryz.prog 71 #[.int .i64 y,.int .i64 m,.int .i64 d] w fun e w'=>e=.returned (.tuple #[.int .i64 0,.int .i64 6])/\w'=w:=by
 go_enter Tryz.func71,Tryz.ntmps71
 go_wp2_with (go_at_call 113;refine (e0r _ _ _ _).mono ?_;rintro e w' ⟨rfl,rfl⟩)
 go_ret2;exact⟨rfl,rfl⟩
theorem d9w:Cal.ah 2024=738885:=by decide
theorem f1m(y m d:Int)(w:World)(h:Cal.ok y m d=true):
  Calls Tryz.prog 71 #[.int .i64 y,.int .i64 m,.int .i64 d] w fun e w'=>e=.returned (.tuple #[.int .i64 (Cal.num y m d),.int .i64 0])/\w'=w:=by
 obtain⟨h1,h2,h3,h4,h5,h6⟩:=(Cal.a2K y m d).1 h;have hb:=Cal.c5D y h1 (by omega);have hdb:=Cal.b3I y m;have hl:=Cal.c4Z y;have cbm:=Cal.b7m y m h3 (by omega)
 go_enter Tryz.func71,Tryz.ntmps71
 go_wp2_with (go_at_call 113;refine (e0r _ _ _ _).mono ?_;rintro e w' ⟨rfl,rfl⟩)
 go_loop [9,10,11] (fun n k _=>∃ j:Int,1<=j/\j<=m/\k=.int .i64 j/\n=.int .i64 (d-1+Cal.cum y j)) (fun _ k _=>(m-intOf k).toNat)
 case atStart=>exact⟨1,by omega,by omega,rfl,by rw[Cal.a9K,Int.add_zero]⟩
 case round =>
  obtain⟨j,hj1,hj2,rfl,rfl⟩:=hrel;have cb:=Cal.b7m y j hj1 (by omega);have db:=Cal.b3I y j;have cs:=Cal.a5M y j hj1 (by omega);have HC:Hid (Cal.cum y (j+1)=Cal.cum y j+Cal.dim y j):=cs;clear cs
  by_cases hc:j<m
  ·go_wp2_with (go_at_call 114;refine (c9Q _ _ _ (by omega) (by omega) (by omega) (by omega)).mono ?_;rintro e w' ⟨rfl,rfl⟩)
   go_round
   case rel=>exact⟨j+1,by omega,by omega,rfl,by rw[HC.out];go_num⟩
   case measure=>simp[intOf];omega
  ·obtain rfl:j=m:=by omega
   go_wp2
   go_loop [9,12,13] (fun n k _=>∃ j':Int,2024<=j'/\(j'<=y\/j'=2024)/\k=.int .i64 j'/\n=.int .i64 (d-1+Cal.cum y j+(Cal.ah j' - 738885))) (fun _ k _=>(y-intOf k).toNat)
   case atStart=>exact⟨2024,by omega,by omega,rfl,by rw[d9w];go_num⟩
   case round =>
    obtain⟨k,hk1,hk2,rfl,rfl⟩:=hrel;have kb:=Cal.c5D k (by omega) (by omega);have kl:=Cal.c4Z k;have ks:=Cal.b5I k (by omega);have HK:Hid (Cal.ah (k+1)=Cal.ah k+365+Cal.lp k):=ks;clear ks
    by_cases hk:k<y
    ·go_wp2_with (go_at_call 115;refine (c9C _ _ (by omega) (by omega)).mono ?_;rintro e w' ⟨rfl,rfl⟩)
     go_round
     case rel=>exact⟨k+1,by omega,by omega,rfl,by rw[HK.out];go_num⟩
     case measure=>simp[intOf];omega
    ·have km:Cal.ah y<=Cal.ah k:=Cal.a9T y k h1 (by omega);have hk3:(y=k)\/(y<2024/\k=2024):=by omega
     have HK3:Hid ((y=k)\/(y<2024/\k=2024)):=hk3;clear hk3;go_wp2
     go_loop [9,14,15] (fun n k' _=>∃ i:Int,y<=i/\(i<=2024\/i=y)/\k'=.int .i64 i/\n=.int .i64 (d-1+Cal.cum y j+(Cal.ah k-738885)-(Cal.ah i-Cal.ah y))) (fun _ k' _=>(2024-intOf k').toNat)
     case atStart=>exact⟨y,by omega,by omega,rfl,by go_num⟩
     case round =>
      obtain⟨i,hi1,hi2,rfl,rfl⟩:=hrel;have ib:=Cal.c5D i (by omega) (by omega);have il:=Cal.c4Z i;have is:=Cal.b5I i (by omega);have HI:Hid (Cal.ah (i+1)=Cal.ah i+365+Cal.lp i):=is;clear is
      by_cases hi:i<2024
      ·go_wp2_with (go_at_call 115;refine (c9C _ _ (by omega) (by omega)).mono ?_;rintro e w' ⟨rfl,rfl⟩)
       go_round
       case rel=>exact⟨i+1,by omega,by omega,rfl,by rw[HI.out];go_num⟩
       case measure=>simp[intOf];omega
      ·go_wp2;go_ret2;refine⟨c2w ?_,rfl⟩;have a24:=d9w;rcases HK3.out with e|⟨e1,e2⟩
       ·subst e
        by_cases hy:i=y
        ·subst hy;unfold Cal.num Cal.first;omega
        ·obtain rfl:i=2024:=by omega
         exact absurd hi1 (by omega)
       ·subst e2;obtain rfl:i=2024:=by omega
        unfold Cal.num Cal.first;omega
theorem early(n z:Int)(h:0<=n+(738885-Cal.ah z)\/z=1)(g:n+(738885-Cal.ah z)<0):n < -738885\/2913173<n:=by
 rcases h with h|h
 ·omega
 ·subst h;have:=Cal.g3J;omega
theorem late(n z:Int)(h:z=9999)(e:Cal.ah (z+1)=Cal.ah z+365+Cal.lp z)(g:365+Cal.lp z<=n+(738885-Cal.ah z)):n < -738885\/2913173<n:=by
 subst h;have:=Cal.b7t;rw[show (9999:Int)+1=10000 from rfl] at e;omega
theorem e6M(n y k:Int):Cal.num y k (n+(738885-Cal.ah y)-Cal.cum y k+1)=n:=by unfold Cal.num Cal.first;omega
theorem inside(n z m:Int)(h:Cal.ok z m (n+(738885-Cal.ah z)-Cal.cum z m+1)=true):¬ (n < -738885\/2913173<n):=by
 have b:=Cal.c3X _ _ _ h;rw[e6M] at b;unfold Cal.first Cal.last at b;omega
theorem e6D(n:Int)(w:World)(h1:-9223372036854775808<=n)(h2:n<=9223372036854775807):
  Calls Tryz.prog 73 #[.int .i64 n] w fun e w'=>((n < -738885\/2913173<n)/\e=.returned (.tuple #[.int .i64 0,.int .i64 0,.int .i64 0,.int .i64 6])\/(¬ (n < -738885\/2913173<n))/\∃ y m d:Int,e=.returned (.tuple #[.int .i64 y,.int .i64 m,.int .i64 d,.int .i64 0])/\Cal.ok y m d=true/\Cal.num y m d=n)/\w'=w:=by
 go_enter Tryz.func73,Tryz.ntmps73
 go_wp2
 go_loop [0,6,7] (fun t k _=>∃ y:Int,1<=y/\y<=2024/\k=.int .i64 y/\t=.int .i64 (n+(738885-Cal.ah y))/\n+(738885-Cal.ah y)<=9223372036854775807) (fun _ k _=>(intOf k).toNat)
 case atStart=>exact⟨2024,by omega,by omega,rfl,by rw[d9w];go_num,by rw[d9w];omega⟩
 case round =>
  obtain⟨y,hy1,hy2,rfl,rfl,hyt⟩:=hrel;have yb:=Cal.c5D y hy1 (by omega);have ym:=Cal.a9T y 2024 hy1 hy2;rw[d9w] at ym
  by_cases hn:n+(738885-Cal.ah y)<0/\1<y
  ·obtain⟨hn,hy⟩:=hn;have ys:=Cal.b5I (y-1) (by omega);rw[show y-1+1=y from by omega] at ys;have yl:=Cal.c4Z (y-1);have HY:Hid (Cal.ah y=Cal.ah (y-1)+365+Cal.lp (y-1)):=ys;clear ys
   go_wp2_with (go_at_call 115;refine (c9C _ _ (by omega) (by omega)).mono ?_;rintro e w' ⟨rfl,rfl⟩)
   go_round
   case rel=>exact⟨y-1,by omega,by omega,rfl,by have:=HY.out;go_num,by have:=HY.out;omega⟩
   case measure=>simp[intOf];omega
  ·have hz:0<=n+(738885-Cal.ah y)\/y=1:=by omega
   have HZ:Hid (0<=n+(738885-Cal.ah y)\/y=1):=hz;clear hz;have hn0:(n+(738885-Cal.ah y)<0/\¬ 1<y)\/¬ n+(738885-Cal.ah y)<0:=by omega
   clear hn;rcases hn0 with ⟨hn0,hy⟩|hn0
   all_goals
    go_wp2
    go_loop [0,6,8] (fun t k _=>∃ z:Int,1<=z/\z<=9999/\k=.int .i64 z/\t=.int .i64 (n+(738885-Cal.ah z))/\n+(738885-Cal.ah z)<=9223372036854775807/\(0<=n+(738885-Cal.ah z)\/z=1)) (fun _ k _=>(9999-intOf k).toNat)
    case atStart=>exact⟨y,by omega,by omega,rfl,rfl,hyt,HZ.out⟩
    case round =>
     obtain⟨z,hz1,hz2,rfl,rfl,hzt,hz3⟩:=hrel;have HZ3:Hid (0<=n+(738885-Cal.ah z)\/z=1):=hz3;clear hz3 yb ym hn0;have zb:=Cal.c5D z hz1 (by omega);have zl:=Cal.c4Z z;have zs:=Cal.b5I z hz1;have HS:Hid (Cal.ah (z+1)=Cal.ah z+365+Cal.lp z):=zs;clear zs
     by_cases hz9:z<9999
     ·by_cases hge:365+Cal.lp z<=n+(738885-Cal.ah z)
      ·go_wp2_with (go_at_call 115;refine (c9C _ _ (by omega) (by omega)).mono ?_;rintro e w' ⟨rfl,rfl⟩)
       go_round
       case rel=>exact⟨z+1,by omega,by omega,rfl,by have:=HS.out;go_num,by have:=HS.out;omega,by have:=HS.out;omega⟩
       case measure=>simp[intOf];omega
      ·by_cases hneg:n+(738885-Cal.ah z)<0
       ·go_wp2_with (go_at_call 115;refine (c9C _ _ (by omega) (by omega)).mono ?_;rintro e w' ⟨rfl,rfl⟩)
        (try simp only[Exit.inBlock,Exit.then]);refine bodyPost_ret (b2R rfl _ _ _) rfl ?_
        exact⟨Or.inl ⟨early n z HZ3.out hneg,rfl⟩,rfl⟩
       ·go_wp2_with (go_at_call 115;refine (c9C _ _ (by omega) (by omega)).mono ?_;rintro e w' ⟨rfl,rfl⟩)
        go_loop [0,9,10] (fun r k _=>∃ m:Int,1<=m/\m<=12/\k=.int .i64 m/\0<=n+(738885-Cal.ah z)-Cal.cum z m/\r=.int .i64 (n+(738885-Cal.ah z)-Cal.cum z m)) (fun _ k _=>(12-intOf k).toNat)
        case atStart=>exact⟨1,by omega,by omega,rfl,by rw[Cal.a9K];omega,by rw[Cal.a9K,Int.sub_zero]⟩
        case round =>
         obtain⟨m,hm1,hm2,rfl,hr,rfl⟩:=hrel;have cb:=Cal.b7m z m hm1 (by omega);have db:=Cal.b3I z m;have cs:=Cal.a5M z m hm1 hm2;have ce:=Cal.b5q z
         by_cases hd:Cal.dim z m<=n+(738885-Cal.ah z)-Cal.cum z m
         ·have hm:m<12:=by
           by_cases e:m=12
           ·subst e;rw[show (12:Int)+1=13 from rfl] at cs;omega
           ·omega
          have HC:Hid (Cal.cum z (m+1)=Cal.cum z m+Cal.dim z m):=cs;clear cs ce
          go_wp2_with (go_at_call 114;refine (c9Q _ _ _ (by omega) (by omega) (by omega) (by omega)).mono ?_;rintro e w' ⟨rfl,rfl⟩)
          go_round
          case rel=>exact⟨m+1,by omega,by omega,rfl,by rw[HC.out];omega,by rw[HC.out];go_num⟩
          case measure=>simp[intOf];omega
         ·have hok:Cal.ok z m (n+(738885-Cal.ah z)-Cal.cum z m+1)=true:=b9Y (by omega);have hin:¬ (n < -738885\/2913173<n):=inside n z m hok;have HIN:Hid (¬ (n < -738885\/2913173<n)):=hin;clear cs ce hin
          go_wp2_with (go_at_call 114;refine (c9Q _ _ _ (by omega) (by omega) (by omega) (by omega)).mono ?_;rintro e w' ⟨rfl,rfl⟩)
          (try simp only[Exit.inBlock,Exit.then]);refine bodyPost_ret (b2R rfl _ _ _) rfl ?_
          exact⟨Or.inr ⟨HIN.out,z,m,_,rfl,hok,e6M n z m⟩,rfl⟩
     ·by_cases hneg:n+(738885-Cal.ah z)<0
      ·go_wp2
       (try simp only[Exit.inBlock,Exit.then]);refine bodyPost_ret (b2R rfl _ _ _) rfl ?_
       exact⟨Or.inl ⟨early n z HZ3.out hneg,rfl⟩,rfl⟩
      ·by_cases hge:365+Cal.lp z<=n+(738885-Cal.ah z)
       ·go_wp2_with (go_at_call 115;refine (c9C _ _ (by omega) (by omega)).mono ?_;rintro e w' ⟨rfl,rfl⟩)
        (try simp only[Exit.inBlock,Exit.then]);refine bodyPost_ret (b2R rfl _ _ _) rfl ?_
        exact⟨Or.inl ⟨late n z (by omega) HS.out hge,rfl⟩,rfl⟩
       ·go_wp2_with (go_at_call 115;refine (c9C _ _ (by omega) (by omega)).mono ?_;rintro e w' ⟨rfl,rfl⟩)
        go_loop [0,9,10] (fun r k _=>∃ m:Int,1<=m/\m<=12/\k=.int .i64 m/\0<=n+(738885-Cal.ah z)-Cal.cum z m/\r=.int .i64 (n+(738885-Cal.ah z)-Cal.cum z m)) (fun _ k _=>(12-intOf k).toNat)
        case atStart=>exact⟨1,by omega,by omega,rfl,by rw[Cal.a9K];omega,by rw[Cal.a9K,Int.sub_zero]⟩
        case round =>
         obtain⟨m,hm1,hm2,rfl,hr,rfl⟩:=hrel;have cb:=Cal.b7m z m hm1 (by omega);have db:=Cal.b3I z m;have cs:=Cal.a5M z m hm1 hm2;have ce:=Cal.b5q z
         by_cases hd:Cal.dim z m<=n+(738885-Cal.ah z)-Cal.cum z m
         ·have hm:m<12:=by
           by_cases e:m=12
           ·subst e;rw[show (12:Int)+1=13 from rfl] at cs;omega
           ·omega
          have HC:Hid (Cal.cum z (m+1)=Cal.cum z m+Cal.dim z m):=cs;clear cs ce
          go_wp2_with (go_at_call 114;refine (c9Q _ _ _ (by omega) (by omega) (by omega) (by omega)).mono ?_;rintro e w' ⟨rfl,rfl⟩)
          go_round
          case rel=>exact⟨m+1,by omega,by omega,rfl,by rw[HC.out];omega,by rw[HC.out];go_num⟩
          case measure=>simp[intOf];omega
         ·have hok:Cal.ok z m (n+(738885-Cal.ah z)-Cal.cum z m+1)=true:=b9Y (by omega);have hin:¬ (n < -738885\/2913173<n):=inside n z m hok;have HIN:Hid (¬ (n < -738885\/2913173<n)):=hin;clear cs ce hin
          go_wp2_with (go_at_call 114;refine (c9Q _ _ _ (by omega) (by omega) (by omega) (by omega)).mono ?_;rintro e w' ⟨rfl,rfl⟩)
          (try simp only[Exit.inBlock,Exit.then]);refine bodyPost_ret (b2R rfl _ _ _) rfl ?_
          exact⟨Or.inr ⟨HIN.out,z,m,_,rfl,hok,e6M n z m⟩,rfl⟩
theorem hide{p:Prop}(h:p):Hid p:=h
theorem a0d{p:Prop}(h:Hid p):p:=h
theorem Tab.later(h:Tab w)(hb:Below w.heap.size w wx):Tab wx:=by
 obtain⟨c0,c1,c2,c3,c4,c5,c6,c7,c8,c9,c10,c11⟩:=h;exact⟨cell_later hb c0,cell_later hb c1,cell_later hb c2,cell_later hb c3,cell_later hb c4,cell_later hb c5,cell_later hb c6,cell_later hb c7,cell_later hb c8,cell_later hb c9,cell_later hb c10,cell_later hb c11⟩
theorem h6X(y m d:Int)(w:World)(ht:Tab w)(h:Cal.ok y m d=true):
  Calls Tryz.prog 70 #[.int .i64 y,.int .i64 m,.int .i64 d] w fun e w'=>e=.returned (.tuple #[.int .i64 (Cal.num y m d),.int .i64 0])/\w'=w:=by
 go_enter Tryz.func70,Tryz.ntmps70
 go_wp2_with (go_at_call 112;refine (a7P _ _ _ _ ht h).mono ?_;rintro e w' ⟨rfl,rfl⟩)
 go_ret2;exact⟨rfl,rfl⟩
theorem h8G(y m d:Int)(w:World)(ht:Tab w)(h:Cal.ok y m d=false):
  Calls Tryz.prog 70 #[.int .i64 y,.int .i64 m,.int .i64 d] w fun e w'=>e=.returned (.tuple #[.int .i64 0,.int .i64 6])/\w'=w:=by
 go_enter Tryz.func70,Tryz.ntmps70
 go_wp2_with (go_at_call 112;refine (a9O _ _ _ _ ht h).mono ?_;rintro e w' ⟨rfl,rfl⟩)
 go_ret2;exact⟨rfl,rfl⟩
theorem h3Q(n:Int)(w:World)(ht:Tab w)(h1:-738885<=n)(h2:n<=2913173):
  Calls Tryz.prog 72 #[.int .i64 n] w fun e w'=>∃ y m d:Int,e=.returned (.tuple #[.int .i64 y,.int .i64 m,.int .i64 d,.int .i64 0])/\Cal.ok y m d=true/\Cal.num y m d=n/\w'=w:=by
 go_enter Tryz.func72,Tryz.ntmps72
 go_wp2_with (go_at_call 116;refine (b5w _ _ ht h1 h2).mono ?_;rintro e w' ⟨y,m,d,rfl,hok,hnum,rfl⟩)
 (try simp only[Exit.inBlock,Exit.then]);refine bodyPost_ret (b2R rfl _ _ _) rfl ?_
 exact⟨y,m,d,rfl,hok,hnum,rfl⟩
theorem h6Y(n:Int)(w:World)(h:n < -738885\/2913173<n):
  Calls Tryz.prog 72 #[.int .i64 n] w fun e w'=>e=.returned (.tuple #[.int .i64 0,.int .i64 0,.int .i64 0,.int .i64 6])/\w'=w:=by
 have H:Hid (n < -738885\/2913173<n):=h;clear h
 go_enter Tryz.func72,Tryz.ntmps72
 go_wp2_with (go_at_call 116;refine (g9D _ _ H.out).mono ?_;rintro e w' ⟨rfl,rfl⟩)
 (try simp only[Exit.inBlock,Exit.then]);refine bodyPost_ret (b2R rfl _ _ _) rfl ?_
 exact⟨rfl,rfl⟩
theorem h6F(n:Int)(w:World)(ht:Tab w)(h1:-9223372036854775808<=n)(h2:n<=9223372036854775807):
  Calls Tryz.prog 52 #[.int .i64 n] w fun e w'=>e=.returned (.bool true)/\w'=w:=by
 by_cases h:n < -738885\/2913173<n
 ·have H:Hid (n < -738885\/2913173<n):=h;clear h
  go_enter Tryz.func52,Tryz.ntmps52
  go_wp2_with fail
  refine (h6Y _ _ H.out).mono ?_;rintro e w' ⟨rfl,rfl⟩
  go_wp2_with fail
  refine (e6D _ _ h1 h2).mono ?_;rintro e w' ⟨⟨_,rfl⟩|⟨hn,_⟩,rfl⟩
  ·go_wp2;go_ret;exact⟨rfl,rfl⟩
  ·exact absurd H.out hn
 ·have H:Hid (¬ (n < -738885\/2913173<n)):=h;have g1:-738885<=n:=by omega
  have g2:n<=2913173:=by omega
  clear h
  go_enter Tryz.func52,Tryz.ntmps52
  go_wp2_with fail
  refine (h3Q _ _ ht g1 g2).mono ?_;rintro e w' ⟨y,m,d,rfl,hok,hnum,rfl⟩;have HO:=hide hok;have HN:=hide hnum;clear hok hnum
  go_wp2_with fail
  refine (e6D _ _ h1 h2).mono ?_;rintro e w' ⟨⟨hn,_⟩|⟨_,y',m',d',rfl,hok',hnum'⟩,rfl⟩
  ·exact absurd hn H.out
  ·obtain⟨rfl,rfl,rfl⟩:=Cal.one y m d y' m' d' (a0d HO) hok' (by rw[a0d HN,hnum']);clear hok' hnum';go_wp2;go_ret;exact⟨a2a (by simp),rfl⟩
theorem h3r(k a y m d:Int)(s:ByteArray)(w:World)(ht:Tab w):
  Calls Tryz.prog 51 #[.agg #[.int .i64 k,.int .i64 a,.int .i64 y,.int .i64 m,.int .i64 d,.string s]] w fun e w'=>e=.returned (.bool true)/\Below w.heap.size w w':=by
 have hb:∀ o,Below w.heap.size w (w.alloc o):=fun o=>(zr _ _).alloc (zq _) o
 have HB:=hide hb;clear hb
 cases h:Cal.ok y m d
 ·go_enter Tryz.func51,Tryz.ntmps51
  go_wp2_with fail
  refine (h8G _ _ _ _ (ht.later (a0d HB _)) h).mono ?_;rintro e w' ⟨rfl,rfl⟩
  go_wp2_with fail
  refine (f3X _ _ _ _ h).mono ?_;rintro e w' ⟨rfl,rfl⟩;go_wp2;go_ret;exact⟨rfl,a0d HB _⟩
 ·go_enter Tryz.func51,Tryz.ntmps51
  go_wp2_with fail
  refine (h6X _ _ _ _ (ht.later (a0d HB _)) h).mono ?_;rintro e w' ⟨rfl,rfl⟩
  go_wp2_with fail
  refine (f1m _ _ _ _ h).mono ?_;rintro e w' ⟨rfl,rfl⟩;go_wp2;go_ret;exact⟨a2a (by simp),a0d HB _⟩
theorem h4E(p:Value)(a y m d:Int)(s:ByteArray)(w:World)(ht:Tab w):
  Calls Tryz.prog 41 #[p,.agg #[.int .i64 1,.int .i64 a,.int .i64 y,.int .i64 m,.int .i64 d,.string s]] w fun e w'=>e=.returned (.bool true)/\Below w.heap.size w w':=by
 have hb:∀ o,Below w.heap.size w (w.alloc o):=fun o=>(zr _ _).alloc (zq _) o
 have HB:=hide hb;clear hb
 go_enter Tryz.func41,Tryz.ntmps41
 go_wp2_with fail
 refine (h3r _ _ _ _ _ _ _ (ht.later (a0d HB _))).mono ?_;rintro e w' ⟨rfl,hb1⟩;go_wp2;go_ret;exact⟨rfl,(a0d HB _).trans (hb1.mono (by simp))⟩
theorem h0B(p:Value)(a y m d:Int)(s:ByteArray)(w:World)(ht:Tab w)(h1:-9223372036854775808<=d)(h2:d<=9223372036854775807):
  Calls Tryz.prog 41 #[p,.agg #[.int .i64 2,.int .i64 a,.int .i64 y,.int .i64 m,.int .i64 d,.string s]] w fun e w'=>e=.returned (.bool true)/\Below w.heap.size w w':=by
 have hb:∀ o,Below w.heap.size w (w.alloc o):=fun o=>(zr _ _).alloc (zq _) o
 have HB:=hide hb;clear hb
 go_enter Tryz.func41,Tryz.ntmps41
 go_wp2_with fail
 refine (h6F _ _ (ht.later (a0d HB _)) h1 h2).mono ?_;rintro e w' ⟨rfl,rfl⟩;go_wp2;go_ret;exact⟨rfl,a0d HB _⟩
theorem a0A{k:IntKind}{d:Bool}(h:a=b)(g:c=d):Ending.returned (.tuple #[.int k a,.bool c])=.returned (.tuple #[.int k b,.bool d]):=by rw[h,g]
theorem a0m(s:ByteArray)(w:World)(hs:s.size<=maxLen):
  Calls Tryz.prog 139 #[.string s] w fun e w'=>e=.returned (.tuple #[.int .i64 (Txt.a2f s.data.toList),.bool (Txt.isNum s.data.toList)])/\w'=w:=by
 unfold maxLen at hs
 by_cases h0:s.size=0
 ·have H:Hid (Txt.isNum s.data.toList=false):=Txt.b3o (by rw[Txt.a1d];omega);have h1:((s.size:Int)==0)=true:=beq_iff_eq.2 (by omega)
  go_enter Tryz.func139,Tryz.ntmps139
  go_wp2;go_ret2;exact⟨a0A (by simp[Txt.a2f,H.out]) (by rw[H.out]),rfl⟩
 ·have h1:((s.size:Int)==0)=false:=beq_eq_false_iff_ne.2 (by omega)
  by_cases h7:7<s.size
  ·have H:Hid (Txt.isNum s.data.toList=false):=Txt.b3o (by rw[Txt.a1d];omega);clear h0
   go_enter Tryz.func139,Tryz.ntmps139
   go_wp2;go_ret2;exact⟨a0A (by simp[Txt.a2f,H.out]) (by rw[H.out]),rfl⟩
  ·go_enter Tryz.func139,Tryz.ntmps139
   go_wp2
   go_loop [4,5,6] (fun n i _=>∃ k:Nat,k<=s.size/\i=.int .i64 k/\n=.int .i64 (Txt.b4R (s.data.toList.take k))/\Txt.a6j (s.data.toList.take k)=true) (fun _ i _=>s.size-(intOf i).toNat)
   case atStart=>exact⟨0,Nat.zero_le _,rfl,rfl,rfl⟩
   case round =>
    obtain⟨k,hk,rfl,rfl,hd⟩:=hrel;have HD:=hide hd;have nb:=Txt.c0i (s.data.toList.take k) hd (by rw[List.length_take];omega);clear hd
    by_cases hlt:k<s.size
    ·have HT:Hid (s.data.toList.take (k+1)=s.data.toList.take k++[s[k]]):=Txt.a8N s k hlt
     by_cases hc:Txt.dig s[k]=true
     ·have hc':=(Txt.a6k _).1 hc;have HC:=hide hc;obtain⟨hc1,hc2⟩:=hc';clear hc;go_wp2
      go_round
      case rel=>exact⟨k+1,by omega,by go_num,by rw[HT.out,Txt.b2Y],by rw[HT.out,Txt.a6X,HD.out,HC.out];rfl⟩
      case measure=>simp[intOf];omega
     ·have HC:Hid (Txt.isNum s.data.toList=false):=Txt.b3q (Txt.a8h _ (k+1) (by rw[HT.out,Txt.a6X,HD.out];simpa using hc))
      have hc':(s[k].toNat:Int)<48\/(¬ (s[k].toNat:Int)<48/\57<(s[k].toNat:Int)):=by
       have:=mt (Txt.a6k s[k]).2 hc;omega
      clear hc;rcases hc' with hc' |⟨hc',hc''⟩
      all_goals
       go_wp2;go_ret2;exact⟨a0A (by simp[Txt.a2f,HC.out]) (by rw[HC.out]),rfl⟩
    ·have HA:Hid (s.data.toList.take k=s.data.toList):=Txt.a5t s k (by omega);have HN:Hid (Txt.isNum s.data.toList=true):=Txt.b0J (by rw[Txt.a1d];omega) (by rw[Txt.a1d];omega) (by rw[<- HA.out];exact HD.out);go_wp2;go_ret2;exact⟨a0A (by rw[HA.out];simp[Txt.a2f,HN.out]) (by rw[HN.out]),rfl⟩
theorem b5y(h:a≠b):(a != b)=true:=by rw[bne_iff_ne];exact h
theorem b5z(h:a=b):(a != b)=false:=by subst h;simp
theorem a0P(s:ByteArray)(a b:Nat)(h:s.size<=maxLen):(s.extract a b).size<=maxLen:=by
 have:(s.extract a b).size=min b s.size-a:=ByteArray.size_extract ..;omega
theorem a2m(s:ByteArray)(w:World)(hm:s.size<=maxLen):
  Calls Tryz.prog 137 #[.string s] w fun e w'=>e=.returned (.tuple #[.int .i64 (Txt.a6J s),.bool (Txt.a3a s)])/\w'=w:=by
 have HM:=hide hm;clear hm
 by_cases hs:s.size=5
 ·have h5:((s.size:Int) != 5)=false:=b5z (by omega);have h6:(2:Int)<(s.size:Int):=by omega
  have h2n:2<s.size:=by omega
  have h7:(3:Int)<=(s.size:Int):=by omega
  by_cases hb:Txt.a0V s 2=58
  ·have hc:(((s[2]'h2n).toNat:Int) != 58)=false:=b5z (by rw[<- Txt.a2W];exact hb);have b1:=Txt.a2B (Txt.part s 0 2);have b2:=Txt.a2B (Txt.part s 3 5);have HS:=hide hs;have HB:=hide hb;clear hs hb;have HF:=hide (Txt.b6G HS.out HB.out)
   cases n1:Txt.isNum (Txt.part s 0 2)
   ·go_enter Tryz.func137,Tryz.ntmps137
    go_wp2_with fail
    refine (a0m _ _ (a0P _ _ _ HM.out)).mono ?_;rintro e w' ⟨rfl,rfl⟩;rw[show (s.extract 0 2).data.toList=Txt.part s 0 2 from rfl]
    go_wp2_with fail
    refine (a0m _ _ (a0P _ _ _ HM.out)).mono ?_;rintro e w' ⟨rfl,rfl⟩;rw[show (s.extract 3 s.size).data.toList=Txt.part s 3 5 from by rw[HS.out];rfl];go_wp2;go_ret2;exact⟨a0A (by simp[Txt.a6J,a0d HF,n1]) (by simp[a0d HF,n1]),rfl⟩
   ·cases n2:Txt.isNum (Txt.part s 3 5)
    ·go_enter Tryz.func137,Tryz.ntmps137
     go_wp2_with fail
     refine (a0m _ _ (a0P _ _ _ HM.out)).mono ?_;rintro e w' ⟨rfl,rfl⟩;rw[show (s.extract 0 2).data.toList=Txt.part s 0 2 from rfl]
     go_wp2_with fail
     refine (a0m _ _ (a0P _ _ _ HM.out)).mono ?_;rintro e w' ⟨rfl,rfl⟩;rw[show (s.extract 3 s.size).data.toList=Txt.part s 3 5 from by rw[HS.out];rfl];go_wp2;go_ret2;exact⟨a0A (by simp[Txt.a6J,a0d HF,n1,n2]) (by simp[a0d HF,n1,n2]),rfl⟩
    ·by_cases g1:Txt.a2f (Txt.part s 0 2)<=23
     ·by_cases g2:Txt.a2f (Txt.part s 3 5)<=59
      ·go_enter Tryz.func137,Tryz.ntmps137
       go_wp2_with fail
       refine (a0m _ _ (a0P _ _ _ HM.out)).mono ?_;rintro e w' ⟨rfl,rfl⟩;rw[show (s.extract 0 2).data.toList=Txt.part s 0 2 from rfl]
       go_wp2_with fail
       refine (a0m _ _ (a0P _ _ _ HM.out)).mono ?_;rintro e w' ⟨rfl,rfl⟩;rw[show (s.extract 3 s.size).data.toList=Txt.part s 3 5 from by rw[HS.out];rfl];go_wp2;go_ret2;exact⟨a0A (by simp[Txt.a6J,a0d HF,n1,n2,g1,g2]) (by simp[a0d HF,n1,n2,g1,g2]),rfl⟩
      ·go_enter Tryz.func137,Tryz.ntmps137
       go_wp2_with fail
       refine (a0m _ _ (a0P _ _ _ HM.out)).mono ?_;rintro e w' ⟨rfl,rfl⟩;rw[show (s.extract 0 2).data.toList=Txt.part s 0 2 from rfl]
       go_wp2_with fail
       refine (a0m _ _ (a0P _ _ _ HM.out)).mono ?_;rintro e w' ⟨rfl,rfl⟩;rw[show (s.extract 3 s.size).data.toList=Txt.part s 3 5 from by rw[HS.out];rfl];go_wp2;go_ret2;have g2':¬ Txt.a2f (Txt.part s 3 5)<=59:=by omega
       exact⟨a0A (by simp[Txt.a6J,a0d HF,n1,n2,g1,g2']) (by simp[a0d HF,n1,n2,g1,g2']),rfl⟩
     ·go_enter Tryz.func137,Tryz.ntmps137
      go_wp2_with fail
      refine (a0m _ _ (a0P _ _ _ HM.out)).mono ?_;rintro e w' ⟨rfl,rfl⟩;rw[show (s.extract 0 2).data.toList=Txt.part s 0 2 from rfl]
      go_wp2_with fail
      refine (a0m _ _ (a0P _ _ _ HM.out)).mono ?_;rintro e w' ⟨rfl,rfl⟩;rw[show (s.extract 3 s.size).data.toList=Txt.part s 3 5 from by rw[HS.out];rfl];go_wp2;go_ret2;have g1':¬ Txt.a2f (Txt.part s 0 2)<=23:=by omega
      exact⟨a0A (by simp[Txt.a6J,a0d HF,n1,n2,g1']) (by simp[a0d HF,n1,n2,g1']),rfl⟩
  ·have hc:(((s[2]'h2n).toNat:Int) != 58)=true:=b5y (by rw[<- Txt.a2W];exact hb);have HF:Hid (Txt.a3a s=false):=Txt.a5D (by omega);clear hs hb
   go_enter Tryz.func137,Tryz.ntmps137
   go_wp2;go_ret2;exact⟨a0A (by simp[Txt.a6J,HF.out]) (by rw[HF.out]),rfl⟩
 ·have h5:((s.size:Int) != 5)=true:=b5y (by omega);have HF:Hid (Txt.a3a s=false):=Txt.a5D (by omega);clear hs
  go_enter Tryz.func137,Tryz.ntmps137
  go_wp2;go_ret2;exact⟨a0A (by simp[Txt.a6J,HF.out]) (by rw[HF.out]),rfl⟩
theorem a1U(s:ByteArray)(w:World)(ht:Tab w)(hm:s.size<=maxLen):
  Calls Tryz.prog 195 #[.string s] w fun e w'=>e=.returned (.tuple #[.int .i64 (Txt.a2o s),.bool (Txt.a5j s)])/\w'=w:=by
 have HM:=hide hm;clear hm
 by_cases hs:s.size=10
 ·have h5:((s.size:Int) != 10)=false:=b5z (by omega);have h4n:4<s.size:=by omega
  have h7n:7<s.size:=by omega
  have h4:(4:Int)<(s.size:Int):=by omega
  have h7:(7:Int)<(s.size:Int):=by omega
  have h8:(8:Int)<=(s.size:Int):=by omega
  by_cases hb:Txt.a0V s 4=45
  ·have hc:(((s[4]'h4n).toNat:Int) != 45)=false:=b5z (by rw[<- Txt.a2W];exact hb)
   by_cases hd:Txt.a0V s 7=45
   ·have he:(((s[7]'h7n).toNat:Int) != 45)=false:=b5z (by rw[<- Txt.a2W];exact hd);have b1:=Txt.a2B (Txt.part s 0 4);have b2:=Txt.a2B (Txt.part s 5 7);have b3:=Txt.a2B (Txt.part s 8 10);have HF:=hide (Txt.c1h hs hb hd);have HS:=hide hs;clear hs hb hd;have hn:∃ n1 n2 n3:Bool,Txt.isNum (Txt.part s 0 4)=n1/\Txt.isNum (Txt.part s 5 7)=n2/\Txt.isNum (Txt.part s 8 10)=n3:=⟨_,_,_,rfl,rfl,rfl⟩;obtain⟨n1,n2,n3,e1,e2,e3⟩:=hn;have walk3:n1=false\/(n1=true/\n2=false)\/(n1=true/\n2=true/\n3=false)\/(n1=true/\n2=true/\n3=true):=by cases n1 <;> cases n2 <;> cases n3 <;> simp
    rcases walk3 with h|⟨h,h'⟩|⟨h,h',h''⟩|⟨h,h',h''⟩
    ·subst h;clear e2 e3
     go_enter Tryz.func195,Tryz.ntmps195
     go_wp2_with fail
     refine (a0m _ _ (a0P _ _ _ HM.out)).mono ?_;rintro e w' ⟨rfl,rfl⟩;rw[show (s.extract 0 4).data.toList=Txt.part s 0 4 from rfl]
     go_wp2_with fail
     refine (a0m _ _ (a0P _ _ _ HM.out)).mono ?_;rintro e w' ⟨rfl,rfl⟩;rw[show (s.extract 5 7).data.toList=Txt.part s 5 7 from rfl]
     go_wp2_with fail
     refine (a0m _ _ (a0P _ _ _ HM.out)).mono ?_;rintro e w' ⟨rfl,rfl⟩;rw[show (s.extract 8 s.size).data.toList=Txt.part s 8 10 from by rw[HS.out];rfl];go_wp2;go_ret2;exact⟨a0A (by simp[Txt.a2o,a0d HF,e1]) (by simp[a0d HF,e1]),rfl⟩
    ·subst h h';clear e3
     go_enter Tryz.func195,Tryz.ntmps195
     go_wp2_with fail
     refine (a0m _ _ (a0P _ _ _ HM.out)).mono ?_;rintro e w' ⟨rfl,rfl⟩;rw[show (s.extract 0 4).data.toList=Txt.part s 0 4 from rfl]
     go_wp2_with fail
     refine (a0m _ _ (a0P _ _ _ HM.out)).mono ?_;rintro e w' ⟨rfl,rfl⟩;rw[show (s.extract 5 7).data.toList=Txt.part s 5 7 from rfl]
     go_wp2_with fail
     refine (a0m _ _ (a0P _ _ _ HM.out)).mono ?_;rintro e w' ⟨rfl,rfl⟩;rw[show (s.extract 8 s.size).data.toList=Txt.part s 8 10 from by rw[HS.out];rfl];go_wp2;go_ret2;exact⟨a0A (by simp[Txt.a2o,a0d HF,e1,e2]) (by simp[a0d HF,e1,e2]),rfl⟩
    ·subst h h' h''
     go_enter Tryz.func195,Tryz.ntmps195
     go_wp2_with fail
     refine (a0m _ _ (a0P _ _ _ HM.out)).mono ?_;rintro e w' ⟨rfl,rfl⟩;rw[show (s.extract 0 4).data.toList=Txt.part s 0 4 from rfl]
     go_wp2_with fail
     refine (a0m _ _ (a0P _ _ _ HM.out)).mono ?_;rintro e w' ⟨rfl,rfl⟩;rw[show (s.extract 5 7).data.toList=Txt.part s 5 7 from rfl]
     go_wp2_with fail
     refine (a0m _ _ (a0P _ _ _ HM.out)).mono ?_;rintro e w' ⟨rfl,rfl⟩;rw[show (s.extract 8 s.size).data.toList=Txt.part s 8 10 from by rw[HS.out];rfl];go_wp2;go_ret2;exact⟨a0A (by simp[Txt.a2o,a0d HF,e1,e2,e3]) (by simp[a0d HF,e1,e2,e3]),rfl⟩
    ·subst h h' h''
     cases ho:Cal.ok (Txt.a2f (Txt.part s 0 4)) (Txt.a2f (Txt.part s 5 7)) (Txt.a2f (Txt.part s 8 10))
     ·go_enter Tryz.func195,Tryz.ntmps195
      go_wp2_with fail
      refine (a0m _ _ (a0P _ _ _ HM.out)).mono ?_;rintro e w' ⟨rfl,rfl⟩;rw[show (s.extract 0 4).data.toList=Txt.part s 0 4 from rfl]
      go_wp2_with fail
      refine (a0m _ _ (a0P _ _ _ HM.out)).mono ?_;rintro e w' ⟨rfl,rfl⟩;rw[show (s.extract 5 7).data.toList=Txt.part s 5 7 from rfl]
      go_wp2_with fail
      refine (a0m _ _ (a0P _ _ _ HM.out)).mono ?_;rintro e w' ⟨rfl,rfl⟩;rw[show (s.extract 8 s.size).data.toList=Txt.part s 8 10 from by rw[HS.out];rfl]
      go_wp2_with fail
      refine (a9O _ _ _ _ ht ho).mono ?_;rintro e w' ⟨rfl,rfl⟩;go_wp2;go_ret2;exact⟨a0A (by simp[Txt.a2o,a0d HF,e1,e2,e3,ho]) (by simp[a0d HF,e1,e2,e3,ho]),rfl⟩
     ·go_enter Tryz.func195,Tryz.ntmps195
      go_wp2_with fail
      refine (a0m _ _ (a0P _ _ _ HM.out)).mono ?_;rintro e w' ⟨rfl,rfl⟩;rw[show (s.extract 0 4).data.toList=Txt.part s 0 4 from rfl]
      go_wp2_with fail
      refine (a0m _ _ (a0P _ _ _ HM.out)).mono ?_;rintro e w' ⟨rfl,rfl⟩;rw[show (s.extract 5 7).data.toList=Txt.part s 5 7 from rfl]
      go_wp2_with fail
      refine (a0m _ _ (a0P _ _ _ HM.out)).mono ?_;rintro e w' ⟨rfl,rfl⟩;rw[show (s.extract 8 s.size).data.toList=Txt.part s 8 10 from by rw[HS.out];rfl]
      go_wp2_with fail
      refine (a7P _ _ _ _ ht ho).mono ?_;rintro e w' ⟨rfl,rfl⟩;go_wp2;go_ret2;exact⟨a0A (by simp[Txt.a2o,a0d HF,e1,e2,e3,ho]) (by simp[a0d HF,e1,e2,e3,ho]),rfl⟩
   ·have he:(((s[7]'h7n).toNat:Int) != 45)=true:=b5y (by rw[<- Txt.a2W];exact hd);have HF:Hid (Txt.a5j s=false):=Txt.a6l (by omega);clear hs hb hd
    go_enter Tryz.func195,Tryz.ntmps195
    go_wp2;go_ret2;exact⟨a0A (by simp[Txt.a2o,HF.out]) (by rw[HF.out]),rfl⟩
  ·have hc:(((s[4]'h4n).toNat:Int) != 45)=true:=b5y (by rw[<- Txt.a2W];exact hb);have HF:Hid (Txt.a5j s=false):=Txt.a6l (by omega);clear hs hb
   go_enter Tryz.func195,Tryz.ntmps195
   go_wp2;go_ret2;exact⟨a0A (by simp[Txt.a2o,HF.out]) (by rw[HF.out]),rfl⟩
 ·have h5:((s.size:Int) != 10)=true:=b5y (by omega);have HF:Hid (Txt.a5j s=false):=Txt.a6l (by omega);clear hs
  go_enter Tryz.func195,Tryz.ntmps195
  go_wp2;go_ret2;exact⟨a0A (by simp[Txt.a2o,HF.out]) (by rw[HF.out]),rfl⟩
structure Kept(R:Nat)(w w':World):Prop where
 os:w'.os=w.os
 tape:w'.tape=w.tape
 output:w'.output=w.output
 size:w.heap.size<=w'.heap.size
 block:∀ k,k<w.heap.size->k≠R->w'.heap[k]?=w.heap[k]?
theorem Kept.refl(R:Nat)(w:World):Kept R w w:=⟨rfl,rfl,rfl,Nat.le_refl _,fun _ _ _=>rfl⟩
theorem Kept.trans{a b c:World}(h:Kept R a b)(k:Kept R b c):Kept R a c :=
 ⟨k.os.trans h.os,k.tape.trans h.tape,k.output.trans h.output,Nat.le_trans h.size k.size,fun i hi hr=>(k.block i (zL hi h.size) hr).trans (h.block i hi hr)⟩
theorem Kept.of_below(h:Below w.heap.size w w'):Kept R w w':=⟨h.os,h.tape,h.output,h.size,fun k hk _=>h.block k hk⟩
theorem Kept.drewN(h:Kept R w w')(n:Nat):Kept R w (w'.drewN n):=⟨h.os,h.tape,h.output,h.size,h.block⟩
theorem Kept.setCell(h:Kept R w w')(o:Nat)(v:Value):Kept R w (w'.setCell ⟨R,o,none⟩ v) :=
 h.trans ⟨(Below.setCell (B:=0) (Below.refl 0 w') (zN _) v).os,(Below.setCell (B:=0) (Below.refl 0 w') (zN _) v).tape,(Below.setCell (B:=0) (Below.refl 0 w') (zN _) v).output,(Below.setCell (B:=0) (Below.refl 0 w') (p:=⟨R,o,none⟩) (zN _) v).size,fun k _ hr=>Below.heap_setCell w' _ v k hr⟩
theorem Kept.below(h:Kept R w w')(hr:B<=R)(hb:B<=w.heap.size):Below B w w' :=
 ⟨h.os,h.tape,h.output,h.size,fun k hk=>h.block k (zL hk hb) (Nat.ne_of_lt (zL hk hr))⟩
theorem Kept.cell(h:Kept R w w'){b o:Nat}(hne:b≠R)(hc:w.cell? ⟨b,o,none⟩=some v):w'.cell? ⟨b,o,none⟩=some v :=
 (zo (w:=w) (h.block b (World.block_lt_of_cell? _ _ hc) hne)).trans hc
structure RS(w:World)(R A:Nat)(ws:List ByteArray)(nx:Nat)(wr:Bool):Prop where
 c0:w.cell? ⟨R,0,none⟩=some (.slice (some ⟨A,0,none⟩) ws.length ws.length)
 c1:w.cell? ⟨R,1,none⟩=some (.int .i64 nx)
 c2:w.cell? ⟨R,2,none⟩=some (.bool wr)
 f1:w.frozen? ⟨R,1,none⟩=false
 f2:w.frozen? ⟨R,2,none⟩=false
 ne:A≠R
 rows:∀ (i:Nat) (h:i<ws.length),w.cell? ⟨A,i,none⟩=some (.string ws[i])
 len:ws.length<=160
 c6c:nx<=ws.length
 short:∀ x∈ws,x.size<=160
theorem RS.of_below(h:RS w R A ws nx wr)(hb:Below w.heap.size w w'):RS w' R A ws nx wr :=
 ⟨cell_later hb h.c0,cell_later hb h.c1,cell_later hb h.c2,(hb.frozen (World.block_lt_of_cell? _ _ h.c1)).trans h.f1,(hb.frozen (World.block_lt_of_cell? _ _ h.c2)).trans h.f2,h.ne,fun i hi=>cell_later hb (h.rows i hi),h.len,h.c6c,h.short⟩
theorem RS.drewN(h:RS w R A ws nx wr)(n:Nat):RS (w.drewN n) R A ws nx wr:=⟨h.c0,h.c1,h.c2,h.f1,h.f2,h.ne,h.rows,h.len,h.c6c,h.short⟩
def a1b(n nx:Nat)(wr:Bool):Bool:=!wr && decide (nx<n)
theorem a0X(R A:Nat)(ws:List ByteArray)(nx:Nat)(wr:Bool)(w:World)(h:RS w R A ws nx wr):
  Calls Tryz.prog 63 #[.pointer (some ⟨R,0,none⟩)] w fun e w'=>e=.returned (.bool (a1b ws.length nx wr))/\∃ n,w'=w.drewN n:=by
 have c0:=h.c0;have c1:=h.c1;have c2:=h.c2;clear h
 cases wr
 ·go_enter Tryz.func63,Tryz.ntmps63
  go_wp2
  go_quiet (fail)
  go_wp2;go_ret;exact⟨a2a (by simp[a1b]),_,rfl⟩
 ·go_enter Tryz.func63,Tryz.ntmps63
  go_wp2
  go_quiet (fail)
  go_wp2;go_ret;exact⟨a2a (by simp[a1b]),_,rfl⟩
theorem a9d{n:Nat}(h:¬ (wr=false/\nx<n)):a1b n nx wr=false:=by
 unfold a1b
 cases wr
 ·simp;simp at h;exact h
 ·rfl
theorem c6l(R A:Nat)(ws:List ByteArray)(nx:Nat)(wr:Bool)(word:ByteArray)(w:World)(h:RS w R A ws nx wr)(hn:a1b ws.length nx wr=false):
  Calls Tryz.prog 82 #[.pointer (some ⟨R,0,none⟩),.string word] w fun e w'=>e=.returned (.bool false)/\∃ n,w'=w.drewN n:=by
 go_enter Tryz.func82,Tryz.ntmps82
 go_wp2
 go_quiet ((go_at_call 63;exact Calls.quiet_of (a0X R A ws nx wr _ (h.drewN _))))
 go_wp2;go_ret;exact⟨rfl,_,rfl⟩
theorem c2Z(R A:Nat)(ws:List ByteArray)(nx:Nat)(wr:Bool)(word:ByteArray)(w:World)(h:RS w R A ws nx wr)(hn:a1b ws.length nx wr=true)(hlt:nx<ws.length)(he:(ws[nx].toList==word.toList)=false):
  Calls Tryz.prog 82 #[.pointer (some ⟨R,0,none⟩),.string word] w fun e w'=>e=.returned (.bool false)/\∃ n,w'=w.drewN n:=by
 have c0:=h.c0;have c1:=h.c1;have c2:=h.c2;have cr:=h.rows nx hlt;have hi:(nx:Int)<(ws.length:Int):=by omega
 go_enter Tryz.func82,Tryz.ntmps82
 go_wp2
 go_quiet ((go_at_call 63;exact Calls.quiet_of (a0X R A ws nx wr _ (h.drewN _))))
 go_wp2;go_ret;exact⟨rfl,_,rfl⟩
theorem RS.step(h:RS w R A ws nx wr)(hlt:nx<ws.length):RS (w.setCell ⟨R,1,none⟩ (.int .i64 ((nx:Int)+1))) R A ws (nx+1) wr :=
 ⟨(zS _ _ _ _ (by simp)).trans h.c0,World.cell?_setCell_same _ _ _ h.c1,(zS _ _ _ _ (by simp)).trans h.c2,(zF ..).trans h.f1,(zF ..).trans h.f2,h.ne,
  fun i hi=>(zS _ _ _ _ (by simp;intro e;exact absurd e.symm h.ne)).trans (h.rows i hi),h.len,hlt,h.short⟩
theorem RS.bad(h:RS w R A ws nx wr):RS (w.setCell ⟨R,2,none⟩ (.bool true)) R A ws nx true :=
 ⟨(zS _ _ _ _ (by simp)).trans h.c0,(zS _ _ _ _ (by simp)).trans h.c1,World.cell?_setCell_same _ _ _ h.c2,(zF ..).trans h.f1,(zF ..).trans h.f2,h.ne,
  fun i hi=>(zS _ _ _ _ (by simp;intro e;exact absurd e.symm h.ne)).trans (h.rows i hi),h.len,h.c6c,h.short⟩
theorem c6k(R A:Nat)(ws:List ByteArray)(nx:Nat)(wr:Bool)(word:ByteArray)(w:World)(h:RS w R A ws nx wr)(hn:a1b ws.length nx wr=true)(hlt:nx<ws.length)(he:(ws[nx].toList==word.toList)=true):
  Calls Tryz.prog 82 #[.pointer (some ⟨R,0,none⟩),.string word] w fun e w'=>e=.returned (.bool true)/\RS w' R A ws (nx+1) wr/\Kept R w w':=by
 have c0:=h.c0;have c1:=h.c1;have c2:=h.c2;have f1:=h.f1;have cr:=h.rows nx hlt;have hl:=h.len;have hi:(nx:Int)<(ws.length:Int):=by omega
 go_enter Tryz.func82,Tryz.ntmps82
 go_wp2
 go_quiet ((go_at_call 63;exact Calls.quiet_of (a0X R A ws nx wr _ (h.drewN _))))
 go_wp2;go_ret;exact⟨rfl,(h.drewN _).step hlt,((Kept.refl R w).drewN _).setCell _ _⟩
def isB(ws:List ByteArray)(nx:Nat)(wr:Bool)(word:ByteArray):Bool:=a1b ws.length nx wr && ((ws.getD nx ByteArray.empty).toList==word.toList)
theorem a2n(R A:Nat)(ws:List ByteArray)(nx:Nat)(wr:Bool)(word:ByteArray)(w:World)(h:RS w R A ws nx wr):
  Calls Tryz.prog 82 #[.pointer (some ⟨R,0,none⟩),.string word] w fun e w'=>e=.returned (.bool (isB ws nx wr word))/\RS w' R A ws (if isB ws nx wr word then nx+1 else nx) wr/\Kept R w w':=by
 cases hm:a1b ws.length nx wr
 ·have e:isB ws nx wr word=false:=by simp[isB,hm]
  rw[e];refine (c6l R A ws nx wr word w h hm).mono ?_;rintro e w' ⟨rfl,n,rfl⟩;exact⟨rfl,h.drewN n,(Kept.refl R w).drewN n⟩
 ·have hlt:nx<ws.length:=by
   by_cases hlt:nx<ws.length
   ·exact hlt
   ·rw[a9d (by omega)] at hm;cases hm
  have eg:ws.getD nx ByteArray.empty=ws[nx]:=by simp[List.getD,hlt]
  cases he:(ws[nx].toList==word.toList)
  ·have e:isB ws nx wr word=false:=by rw[isB,eg,he,Bool.and_false]
   rw[e];refine (c2Z R A ws nx wr word w h hm hlt he).mono ?_;rintro e w' ⟨rfl,n,rfl⟩;exact⟨rfl,h.drewN n,(Kept.refl R w).drewN n⟩
  ·have e:isB ws nx wr word=true:=by rw[isB,eg,he,hm];rfl
   rw[e];exact c6k R A ws nx wr word w h hm hlt he
theorem b1F(R A:Nat)(ws:List ByteArray)(nx:Nat)(wr:Bool)(word:ByteArray)(w:World)(h:RS w R A ws nx wr):
  Calls Tryz.prog 134 #[.pointer (some ⟨R,0,none⟩),.string word] w fun e w'=>e=.returned (.tuple #[])/\RS w' R A ws (if isB ws nx wr word then nx+1 else nx) (if isB ws nx wr word then wr else true)/\Kept R w w':=by
 cases hb:isB ws nx wr word
 ·go_enter Tryz.func134,Tryz.ntmps134
  go_wp2_with fail
  refine (a2n R A ws nx wr word w h).mono ?_;rintro e w' ⟨rfl,h1,k1⟩;rw[hb] at h1 ⊢;have c2:=h1.c2;have f2:=h1.f2;go_wp2
  go_end0
  exact⟨rfl,h1.bad,k1.setCell _ _⟩
 ·go_enter Tryz.func134,Tryz.ntmps134
  go_wp2_with fail
  refine (a2n R A ws nx wr word w h).mono ?_;rintro e w' ⟨rfl,h1,k1⟩;rw[hb] at h1 ⊢;go_wp2
  go_end0
  exact⟨rfl,h1,k1⟩
def tkB(ws:List ByteArray)(nx:Nat)(wr:Bool)(B:ByteArray->Bool):Bool:=a1b ws.length nx wr && B (ws.getD nx ByteArray.empty)
def tkN(ws:List ByteArray)(nx:Nat)(wr:Bool)(B:ByteArray->Bool):Nat:=if tkB ws nx wr B then nx+1 else nx
def tkW(ws:List ByteArray)(nx:Nat)(wr:Bool)(B:ByteArray->Bool):Bool:=if tkB ws nx wr B then wr else true
def tkV(ws:List ByteArray)(nx:Nat)(wr:Bool)(B:ByteArray->Bool)(V:ByteArray->Int):Int:=if tkB ws nx wr B then V (ws.getD nx ByteArray.empty) else 0
theorem a4q{n:Nat}(h:a1b n nx wr=true):nx<n:=by
 by_cases hlt:nx<n
 ·exact hlt
 ·rw[a9d (by omega)] at h;cases h
theorem a5f(ws:List ByteArray)(nx:Nat)(h:nx<ws.length):ws.getD nx ByteArray.empty=ws[nx]:=by simp[List.getD,h]
theorem a3s(f:Value)(R A:Nat)(ws:List ByteArray)(nx:Nat)(wr:Bool)(w:World)(h:RS w R A ws nx wr)(hm:a1b ws.length nx wr=false):
  Calls Tryz.prog 135 #[.pointer (some ⟨R,0,none⟩),f] w fun e w'=>e=.returned (.int .i64 0)/\RS w' R A ws nx true/\Kept R w w':=by
 go_enter Tryz.func135,Tryz.ntmps135
 go_wp2_with fail
 refine (a0X R A ws nx wr w h).mono ?_;rintro e w1 ⟨rfl,n,hw⟩;have h1:RS w1 R A ws nx wr:=by rw[hw];exact h.drewN n
 have k1:Kept R w w1:=by rw[hw];exact (Kept.refl R w).drewN n
 have c2:=h1.c2;have f2:=h1.f2;clear hw;go_wp2;go_ret;exact⟨rfl,h1.bad,k1.setCell _ _⟩
theorem b7N(R A:Nat)(ws:List ByteArray)(nx:Nat)(wr:Bool)(w:World)(h:RS w R A ws nx wr)(hm:a1b ws.length nx wr=true)(hlt:nx<ws.length)(hs:ws[nx].size<=maxLen)(hb:Txt.isNum ws[nx].data.toList=true):
  Calls Tryz.prog 135 #[.pointer (some ⟨R,0,none⟩),.func (.func 139) #[] #[]] w fun e w'=>e=.returned (.int .i64 (Txt.a2f ws[nx].data.toList))/\RS w' R A ws (nx+1) wr/\Kept R w w':=by
 have hi:(nx:Int)<(ws.length:Int):=by omega
 go_enter Tryz.func135,Tryz.ntmps135
 go_wp2_with fail
 refine (a0X R A ws nx wr w h).mono ?_;rintro e w1 ⟨rfl,n,hw⟩;have h1:RS w1 R A ws nx wr:=by rw[hw];exact h.drewN n
 have k1:Kept R w w1:=by rw[hw];exact (Kept.refl R w).drewN n
 have c0:=h1.c0;have c1:=h1.c1;have f1:=h1.f1;have cr:=h1.rows nx hlt;have hl:=h1.len;clear hw;go_wp2
 go_quiet ((go_at_call 139;exact Calls.quiet_of_same (a0m _ _ hs)))
 go_wp2;go_ret;exact⟨rfl,(h1.drewN _).step hlt,(k1.drewN _).setCell _ _⟩
theorem b7O(R A:Nat)(ws:List ByteArray)(nx:Nat)(wr:Bool)(w:World)(h:RS w R A ws nx wr)(hm:a1b ws.length nx wr=true)(hlt:nx<ws.length)(hs:ws[nx].size<=maxLen)(hb:Txt.isNum ws[nx].data.toList=false):
  Calls Tryz.prog 135 #[.pointer (some ⟨R,0,none⟩),.func (.func 139) #[] #[]] w fun e w'=>e=.returned (.int .i64 0)/\RS w' R A ws nx true/\Kept R w w':=by
 have hi:(nx:Int)<(ws.length:Int):=by omega
 go_enter Tryz.func135,Tryz.ntmps135
 go_wp2_with fail
 refine (a0X R A ws nx wr w h).mono ?_;rintro e w1 ⟨rfl,n,hw⟩;have h1:RS w1 R A ws nx wr:=by rw[hw];exact h.drewN n
 have k1:Kept R w w1:=by rw[hw];exact (Kept.refl R w).drewN n
 have c0:=h1.c0;have c1:=h1.c1;have c2:=h1.c2;have f2:=h1.f2;have cr:=h1.rows nx hlt;have hl:=h1.len;clear hw;go_wp2
 go_quiet ((go_at_call 139;exact Calls.quiet_of_same (a0m _ _ hs)))
 go_wp2;go_ret;exact⟨rfl,(h1.drewN _).bad,(k1.drewN _).setCell _ _⟩
structure Env(w:World):Prop where
 tab:Tab w
 c5L:∃ m,w.cell? ⟨2,0,none⟩=some (.int .i64 m)
 pow : Lib.TabIs Tryz.prog w "internal/strconv.uint64pow10" .u64 Lib.pow10Tab
 size:10<=w.heap.size
 mo:w.cell? ⟨3,0,none⟩=some (.string ⟨#[109,111]⟩)
 tu:w.cell? ⟨3,1,none⟩=some (.string ⟨#[116,117]⟩)
 we:w.cell? ⟨3,2,none⟩=some (.string ⟨#[119,101]⟩)
 th:w.cell? ⟨3,3,none⟩=some (.string ⟨#[116,104]⟩)
 fr:w.cell? ⟨3,4,none⟩=some (.string ⟨#[102,114]⟩)
 sa:w.cell? ⟨3,5,none⟩=some (.string ⟨#[115,97]⟩)
 su:w.cell? ⟨3,6,none⟩=some (.string ⟨#[115,117]⟩)
theorem c6q : Tryz.prog.globalNamed "internal/strconv.uint64pow10" = some 0 := by kernel_rfl
theorem Env.later(h:Env w)(hb:Below w.heap.size w wx):Env wx:=by
 obtain⟨m,hm⟩:=h.c5L;refine⟨h.tab.later hb,⟨m,cell_later hb hm⟩,?_,Nat.le_trans h.size hb.size,cell_later hb h.mo,cell_later hb h.tu,cell_later hb h.we,cell_later hb h.th,cell_later hb h.fr,cell_later hb h.sa,cell_later hb h.su⟩;have hp:=h.pow;have hz:=h.size;unfold Lib.TabIs World.var? at hp ⊢;simp only[c6q,Option.bind_some] at hp ⊢;rw[hb.block 0 (by omega)];exact hp
theorem Env.drewN(h:Env w)(n:Nat):Env (w.drewN n):=h.later (w:=w) (wx:=w.drewN n) ⟨rfl,rfl,rfl,Nat.le_refl _,fun _ _=>rfl⟩
theorem b1z{a b:ByteArray}{d:Bool}(h:a=b)(g:c=d):Ending.returned (.tuple #[.string a,.bool c])=.returned (.tuple #[.string b,.bool d]):=by rw[h,g]
theorem b3Q(s:ByteArray)(w:World)(hs:s.size<=281474976710656):
  Calls Tryz.prog 142 #[.string s] w fun e w'=>e=.returned (.string s)/\Below w.heap.size w w':=by
 go_enter Tryz.func142,Tryz.ntmps142
 go_wp2_with fail
 refine (Tryz.stringslite_Clone s w hs).mono ?_;rintro e w' ⟨rfl,hb⟩;go_wp2;go_ret;exact⟨rfl,hb⟩
def b4S(s:ByteArray):ByteArray:=if Txt.a1j s.data.toList then s else ⟨#[]⟩
theorem a8a(s:ByteArray)(w:World)(hs:s.size<=160):
  Calls Tryz.prog 131 #[.string s] w fun e w'=>e=.returned (.tuple #[.string (b4S s),.bool (Txt.a1j s.data.toList)])/\Below w.heap.size w w':=by
 by_cases h0:s.size=0
 ·have H:Hid (Txt.a1j s.data.toList=false):=Txt.b0K (by rw[Txt.a1d];omega);have h1:((s.size:Int)==0)=true:=beq_iff_eq.2 (by omega)
  go_enter Tryz.func131,Tryz.ntmps131
  go_wp2;go_ret2;exact⟨b1z (by simp[b4S,H.out]) (by rw[H.out]),Below.refl _ _⟩
 ·have h1:((s.size:Int)==0)=false:=beq_eq_false_iff_ne.2 (by omega)
  by_cases h7:8<s.size
  ·have H:Hid (Txt.a1j s.data.toList=false):=Txt.b0K (by rw[Txt.a1d];omega);clear h0
   go_enter Tryz.func131,Tryz.ntmps131
   go_wp2;go_ret2;exact⟨b1z (by simp[b4S,H.out]) (by rw[H.out]),Below.refl _ _⟩
  ·go_enter Tryz.func131,Tryz.ntmps131
   go_wp2
   go_loop [4] (fun i=>∃ k:Nat,k<=s.size/\i=.int .i64 k/\Txt.c1M (s.data.toList.take k)=true) (fun i=>s.size-(intOf i).toNat)
   case atStart=>exact⟨0,Nat.zero_le _,rfl,rfl⟩
   case round =>
    obtain⟨k,hk,rfl,hd⟩:=hrel;have HD:=hide hd;clear hd
    by_cases hlt:k<s.size
    ·have HT:Hid (s.data.toList.take (k+1)=s.data.toList.take k++[s[k]]):=Txt.a8N s k hlt
     by_cases hc:Txt.low s[k]=true
     ·have hc':=(Txt.c0s _).1 hc;have HC:=hide hc;obtain⟨hc1,hc2⟩:=hc';clear hc;go_wp2
      go_round
      case rel=>exact⟨k+1,by omega,by go_num,by rw[HT.out,Txt.b3c,HD.out,HC.out];rfl⟩
      case measure=>simp[intOf];omega
     ·have HC:Hid (Txt.a1j s.data.toList=false):=Txt.b8r (Txt.b3d _ (k+1) (by rw[HT.out,Txt.b3c,HD.out];simpa using hc))
      have hc':(s[k].toNat:Int)<97\/(¬ (s[k].toNat:Int)<97/\122<(s[k].toNat:Int)):=by
       have:=mt (Txt.c0s s[k]).2 hc;omega
      clear hc;rcases hc' with hc' |⟨hc',hc''⟩
      all_goals
       go_wp2;go_ret2;exact⟨b1z (by simp[b4S,HC.out]) (by rw[HC.out]),Below.refl _ _⟩
    ·have HA:Hid (s.data.toList.take k=s.data.toList):=Txt.a5t s k (by omega);have HN:Hid (Txt.a1j s.data.toList=true):=Txt.b5b (by rw[Txt.a1d];omega) (by rw[Txt.a1d];omega) (by rw[<- HA.out];exact HD.out)
     go_wp2_with fail
     refine (b3Q s w (by omega)).mono ?_;rintro e w' ⟨rfl,hb⟩;go_wp2;go_ret2;exact⟨b1z (by simp[b4S,HN.out]) (by rw[HN.out]),hb⟩
theorem f4Z(s:ByteArray)(w:World)(hs:s.size<=160):
  Calls Tryz.prog 186 #[.string s] w fun e w'=>e=.returned (.bool (Txt.a1j s.data.toList))/\w'=w:=by
 by_cases h0:s.size<1
 ·have H:Hid (Txt.a1j s.data.toList=false):=Txt.b0K (by rw[Txt.a1d];omega);have h1:((s.size:Int)<1):=by omega
  go_enter Tryz.func186,Tryz.ntmps186
  go_wp2;go_ret;exact⟨a2a (by rw[H.out]),rfl⟩
 ·have h1:¬ ((s.size:Int)<1):=by omega
  by_cases h7:8<s.size
  ·have H:Hid (Txt.a1j s.data.toList=false):=Txt.b0K (by rw[Txt.a1d];omega)
   go_enter Tryz.func186,Tryz.ntmps186
   go_wp2;go_ret;exact⟨a2a (by rw[H.out]),rfl⟩
  ·go_enter Tryz.func186,Tryz.ntmps186
   go_wp2
   go_loop [3] (fun i=>∃ k:Nat,k<=s.size/\i=.int .i64 k/\Txt.c1M (s.data.toList.take k)=true) (fun i=>s.size-(intOf i).toNat)
   case atStart=>exact⟨0,Nat.zero_le _,rfl,rfl⟩
   case round =>
    obtain⟨k,hk,rfl,hd⟩:=hrel;have HD:=hide hd;clear hd
    by_cases hlt:k<s.size
    ·have HT:Hid (s.data.toList.take (k+1)=s.data.toList.take k++[s[k]]):=Txt.a8N s k hlt
     by_cases hc:Txt.low s[k]=true
     ·have hc':=(Txt.c0s _).1 hc;have HC:=hide hc;obtain⟨hc1,hc2⟩:=hc';clear hc;go_wp2
      go_round
      case rel=>exact⟨k+1,by omega,by go_num,by rw[HT.out,Txt.b3c,HD.out,HC.out];rfl⟩
      case measure=>simp[intOf];omega
     ·have HC:Hid (Txt.a1j s.data.toList=false):=Txt.b8r (Txt.b3d _ (k+1) (by rw[HT.out,Txt.b3c,HD.out];simpa using hc))
      have hc':(s[k].toNat:Int)<97\/(¬ (s[k].toNat:Int)<97/\122<(s[k].toNat:Int)):=by
       have:=mt (Txt.c0s s[k]).2 hc;omega
      clear hc;rcases hc' with hc' |⟨hc',hc''⟩
      all_goals
       go_wp2;go_ret;exact⟨a2a (by rw[HC.out]),rfl⟩
    ·have HA:Hid (s.data.toList.take k=s.data.toList):=Txt.a5t s k (by omega);have HN:Hid (Txt.a1j s.data.toList=true):=Txt.b5b (by rw[Txt.a1d];omega) (by rw[Txt.a1d];omega) (by rw[<- HA.out];exact HD.out);go_wp2;go_ret;exact⟨a2a (by rw[HN.out]),rfl⟩
theorem b3K(l:List UInt8):∀ acc:Nat,Txt.a6j l=true->∃ n:Nat,Lib.decFrom acc l=some n/\(n:Int)=l.foldl (fun n c=>n*10+((c.toNat:Int)-48)) (acc:Int):=by
 induction l with
 |nil=>intro acc _;exact⟨acc,rfl,rfl⟩
 |cons c l ih =>
  intro acc h;simp only[Txt.a6j,List.all_cons,Bool.and_eq_true] at h;have hc:=(Txt.a6k c).1 h.1;obtain⟨n,h1,h2⟩:=ih (acc*10+(c.toNat-48)) h.2;refine⟨n,?_,?_⟩
  ·simp only[Lib.decFrom,Lib.digitVal];rw[if_pos (by omega)];exact h1
  ·rw[h2,List.foldl_cons]
   congr 1
   omega
theorem c1z(l:List UInt8)(h:Txt.a6j l=true)(h0:l≠[]):Lib.atoi l=some (Txt.b4R l):=by
 obtain⟨n,h1,h2⟩:=b3K l 0 h
 cases l with
 |nil=>exact absurd rfl h0
 |cons b r =>
  simp only[Txt.a6j,List.all_cons,Bool.and_eq_true] at h;have hb:=(Txt.a6k b).1 h.1
  have b1:(b==45)=false:=by
   rw[beq_eq_false_iff_ne];intro e;subst e;revert hb;decide
  have b2:(b==43)=false:=by
   rw[beq_eq_false_iff_ne];intro e;subst e;revert hb;decide
  simp only[Lib.atoi,b1,b2,Bool.false_eq_true,if_false,Lib.decNat,List.isEmpty_cons,h1,Option.map_some];rw[h2];rfl
def b4g(s:ByteArray)(lo hi:Nat):Int:=if lo<=s.size/\s.size<=hi/\Txt.a6j s.data.toList=true then Txt.b4R s.data.toList else -1
theorem b6z{s:ByteArray}(h:¬ (lo<=s.size/\s.size<=hi)):b4g s lo hi=-1:=by
 unfold b4g;rw[if_neg (fun g=>h ⟨g.1,g.2.1⟩)]
theorem b6A{s:ByteArray}(h:Txt.a6j s.data.toList=false):b4g s lo hi=-1:=by
 unfold b4g;rw[if_neg (fun g=>by rw[h] at g;exact absurd g.2.2 (by decide))]
theorem b6y{s:ByteArray}(h1:lo<=s.size)(h2:s.size<=hi)(h:Txt.a6j s.data.toList=true):b4g s lo hi=Txt.b4R s.data.toList:=by
 unfold b4g;rw[if_pos ⟨h1,h2,h⟩]
theorem b0E(s:ByteArray)(lo hi:Nat)(w:World)(hs:s.size<=160)(hlo:1<=lo)(hhi:hi<=7):
  Calls Tryz.prog 126 #[.string s,.int .i64 lo,.int .i64 hi] w fun e w'=>e=.returned (.int .i64 (b4g s lo hi))/\Below w.heap.size w w':=by
 by_cases h0:s.size<lo
 ·have H:Hid (b4g s lo hi=-1):=b6z (by omega);have h1:((s.size:Int)<(lo:Int)):=by omega
  go_enter Tryz.func126,Tryz.ntmps126
  go_wp2;go_ret;exact⟨a3w (by rw[H.out]),Below.refl _ _⟩
 ·have h1:¬ ((s.size:Int)<(lo:Int)):=by omega
  by_cases h7:hi<s.size
  ·have H:Hid (b4g s lo hi=-1):=b6z (by omega);have h2:((hi:Int)<(s.size:Int)):=by omega
   go_enter Tryz.func126,Tryz.ntmps126
   go_wp2;go_ret;exact⟨a3w (by rw[H.out]),Below.refl _ _⟩
  ·have h2:¬ ((hi:Int)<(s.size:Int)):=by omega
   go_enter Tryz.func126,Tryz.ntmps126
   go_wp2
   go_loop [7] (fun i=>∃ k:Nat,k<=s.size/\i=.int .i64 k/\Txt.a6j (s.data.toList.take k)=true) (fun i=>s.size-(intOf i).toNat)
   case atStart=>exact⟨0,Nat.zero_le _,rfl,rfl⟩
   case round =>
    obtain⟨k,hk,rfl,hd⟩:=hrel;have HD:=hide hd;clear hd
    by_cases hlt:k<s.size
    ·have HT:Hid (s.data.toList.take (k+1)=s.data.toList.take k++[s[k]]):=Txt.a8N s k hlt
     by_cases hc:Txt.dig s[k]=true
     ·have hc':=(Txt.a6k _).1 hc;have HC:=hide hc;obtain⟨hc1,hc2⟩:=hc';clear hc;go_wp2
      go_round
      case rel=>exact⟨k+1,by omega,by go_num,by rw[HT.out,Txt.a6X,HD.out,HC.out];rfl⟩
      case measure=>simp[intOf];omega
     ·have HC:Hid (b4g s lo hi=-1):=b6A (Txt.a8h _ (k+1) (by rw[HT.out,Txt.a6X,HD.out];simpa using hc))
      have hc':(s[k].toNat:Int)<48\/(¬ (s[k].toNat:Int)<48/\57<(s[k].toNat:Int)):=by
       have:=mt (Txt.a6k s[k]).2 hc;omega
      clear hc;rcases hc' with hc' |⟨hc',hc''⟩
      all_goals
       go_wp2;go_ret;exact⟨a3w (by rw[HC.out]),Below.refl _ _⟩
    ·have HA:Hid (s.data.toList.take k=s.data.toList):=Txt.a5t s k (by omega);have hdg:Txt.a6j s.data.toList=true:=by rw[<- HA.out];exact HD.out
     have HN:Hid (b4g s lo hi=Txt.b4R s.data.toList):=b6y (by omega) (by omega) hdg;have HE:Hid (Lib.atoi s.data.toList=some (Txt.b4R s.data.toList)):=c1z _ hdg (fun e=>by have:=Txt.a1d s;rw[e] at this;simp at this;omega);clear hdg
     go_wp2_with fail
     refine (Tryz.strconv_Atoi s _ (by omega) HE.out w).mono ?_;rintro e w' ⟨rfl,t,hw⟩;have hb:Below w.heap.size w w':=by rw[hw];exact Joins.below_bytesWorld _ _ _ _ (zq _)
     clear hw;go_wp2;go_ret;exact⟨a3w (by rw[HN.out]),hb⟩
theorem b2L(s:ByteArray)(a b:Nat)(h:s.size<=160):(s.extract a b).size<=160:=by
 have:(s.extract a b).size=min b s.size-a:=ByteArray.size_extract ..;omega
theorem b2K(s:ByteArray)(a b n:Nat)(h:min b s.size-a=n):(s.extract a b).size=n:=(ByteArray.size_extract ..).trans h
theorem b2X(t:ByteArray)(n:Nat)(h:t.size=n)(h1:1<=n)(h7:n<=7):b4g t n n=if Txt.isNum t.data.toList then Txt.a2f t.data.toList else -1:=by
 have hl:=Txt.a1d t
 cases hd:Txt.a6j t.data.toList
 ·rw[b6A hd,Txt.b3q hd];rfl
 ·have hn:Txt.isNum t.data.toList=true:=Txt.b0J (by omega) (by omega) hd;rw[b6y (by omega) (by omega) hd,hn];simp[Txt.a2f,hn]
theorem d5I(t:ByteArray):b4g t 1 7=if Txt.isNum t.data.toList then Txt.a2f t.data.toList else -1:=by
 have hl:=Txt.a1d t
 cases hd:Txt.a6j t.data.toList
 ·rw[b6A hd,Txt.b3q hd];rfl
 ·by_cases h:1<=t.size/\t.size<=7
  ·have hn:Txt.isNum t.data.toList=true:=Txt.b0J (by omega) (by omega) hd;rw[b6y h.1 h.2 hd,hn];simp[Txt.a2f,hn]
  ·rw[b6z h,Txt.b3o (by omega)];rfl
def c5N(s:ByteArray):Int:=if Txt.a3a s then Txt.a6J s else -1
def g2R(s:ByteArray):Int:=if Txt.a5j s=true/\0<=Txt.a2o s/\Txt.a2o s<=728 then Txt.a2o s else -1
theorem b1d{s:ByteArray}(h:Txt.a3a s=false):c5N s=-1:=by simp[c5N,h]
theorem d4C{s:ByteArray}(h:Txt.a5j s=false):g2R s=-1:=by simp[g2R,h]
theorem c5y(s:ByteArray)(w:World)(hm:s.size<=160):
  Calls Tryz.prog 188 #[.string s] w fun e w'=>e=.returned (.int .i64 (c5N s))/\Below w.heap.size w w':=by
 by_cases hs:s.size=5
 ·have h5:((s.size:Int) != 5)=false:=b5z (by omega);have h2n:2<s.size:=by omega
  have h6:(2:Int)<(s.size:Int):=by omega
  have h7:(3:Int)<=(s.size:Int):=by omega
  by_cases hb:Txt.a0V s 2=58
  ·have hc:(((s[2]'h2n).toNat:Int) != 58)=false:=b5z (by rw[<- Txt.a2W];exact hb);have b1:=Txt.a2B (Txt.part s 0 2);have b2:=Txt.a2B (Txt.part s 3 5);have HF:=hide (Txt.b6G hs hb);have e1:b4g (s.extract 0 2) 2 2=if Txt.isNum (Txt.part s 0 2) then Txt.a2f (Txt.part s 0 2) else -1:=b2X _ 2 (b2K _ _ _ _ (by omega)) (by omega) (by omega)
   have e2:b4g (s.extract 3 s.size) 2 2=if Txt.isNum (Txt.part s 3 5) then Txt.a2f (Txt.part s 3 5) else -1:=by
    rw[hs];exact b2X _ 2 (b2K _ _ _ _ (by omega)) (by omega) (by omega)
   have hx:∃ x y:Int,b4g (s.extract 0 2) 2 2=x/\b4g (s.extract 3 s.size) 2 2=y:=⟨_,_,rfl,rfl⟩;obtain⟨x,y,hx,hy⟩:=hx;have bx:-1<=x/\x<=9999999:=by rw[<- hx,e1];split <;> omega
   have by':-1<=y/\y<=9999999:=by rw[<- hy,e2];split <;> omega
   have HR:Hid (c5N s=if x<0\/23<x\/y<0\/59<y then -1 else 60*x+y):=by
    show c5N s=_;rw[<- hx,<- hy,e1,e2,c5N,Txt.a6J,a0d HF]
    cases Txt.isNum (Txt.part s 0 2)
    ·simp
    ·cases Txt.isNum (Txt.part s 3 5)
     ·simp
     ·simp only[Bool.true_and,if_true]
      by_cases g1:Txt.a2f (Txt.part s 0 2)<=23
      ·by_cases g2:Txt.a2f (Txt.part s 3 5)<=59
       ·simp only[g1,g2,decide_true,Bool.and_self,if_true];rw[if_neg (by omega)];omega
       ·simp only[g1,g2,decide_true,decide_false,Bool.and_false,Bool.false_eq_true,if_false];rw[if_pos (by omega)]
      ·simp only[g1,decide_false,Bool.false_and,Bool.false_eq_true,if_false];rw[if_pos (by omega)]
   have HX:=hide hx;have HY:=hide hy;clear e1 e2 hx hy hs hb b1 b2 HF;have hcase:x<0\/(¬ x<0/\23<x)\/(¬ x<0/\¬ 23<x/\y<0)\/(¬ x<0/\¬ 23<x/\¬ y<0/\59<y)\/(¬ x<0/\¬ 23<x/\¬ y<0/\¬ 59<y):=by omega
   rcases hcase with g|⟨g,g'⟩|⟨g,g',g''⟩|⟨g,g',g'',g3⟩|⟨g,g',g'',g3⟩
   all_goals
    go_enter Tryz.func188,Tryz.ntmps188
    go_wp2_with fail
    refine (b0E (s.extract 0 2) 2 2 _ (b2L _ _ _ hm) (by omega) (by omega)).mono ?_;rintro e w1 ⟨rfl,hb1⟩;rw[a0d HX]
    go_wp2_with fail
    refine (b0E (s.extract 3 s.size) 2 2 _ (b2L _ _ _ hm) (by omega) (by omega)).mono ?_;rintro e w2 ⟨rfl,hb2⟩;rw[a0d HY];have hbb:=hb1.trans (hb2.mono hb1.size);go_wp2;go_ret;refine⟨a3w ?_,hbb⟩;rw[HR.out]
    first|rw[if_pos (by omega)]|rw[if_neg (by omega)]
  ·have hc:(((s[2]'h2n).toNat:Int) != 58)=true:=b5y (by rw[<- Txt.a2W];exact hb);have HF:=hide (b1d (Txt.a5D (s:=s) (by omega)));clear hs hb
   go_enter Tryz.func188,Tryz.ntmps188
   go_wp2;go_ret;exact⟨a3w (by rw[a0d HF]),Below.refl _ _⟩
 ·have h5:((s.size:Int) != 5)=true:=b5y (by omega);have HF:=hide (b1d (Txt.a5D (s:=s) (by omega)));clear hs
  go_enter Tryz.func188,Tryz.ntmps188
  go_wp2;go_ret;exact⟨a3w (by rw[a0d HF]),Below.refl _ _⟩
theorem d4B(s:ByteArray)(w:World)(hm:s.size<=160):
  Calls Tryz.prog 187 #[.string s] w fun e w'=>e=.returned (.int .i64 (g2R s))/\Below w.heap.size w w':=by
 by_cases hs:s.size=10
 ·have h5:((s.size:Int) != 10)=false:=b5z (by omega);have h4n:4<s.size:=by omega
  have h7n:7<s.size:=by omega
  have h4:(4:Int)<(s.size:Int):=by omega
  have h7:(7:Int)<(s.size:Int):=by omega
  have h8:(8:Int)<=(s.size:Int):=by omega
  by_cases hb:Txt.a0V s 4=45
  ·have hc:(((s[4]'h4n).toNat:Int) != 45)=false:=b5z (by rw[<- Txt.a2W];exact hb)
   by_cases hd:Txt.a0V s 7=45
   ·have he:(((s[7]'h7n).toNat:Int) != 45)=false:=b5z (by rw[<- Txt.a2W];exact hd);have HF:=hide (Txt.c1h hs hb hd);have e1:b4g (s.extract 0 4) 4 4=if Txt.isNum (Txt.part s 0 4) then Txt.a2f (Txt.part s 0 4) else -1:=b2X _ 4 (b2K _ _ _ _ (by omega)) (by omega) (by omega)
    have e2:b4g (s.extract 5 7) 2 2=if Txt.isNum (Txt.part s 5 7) then Txt.a2f (Txt.part s 5 7) else -1:=b2X _ 2 (b2K _ _ _ _ (by omega)) (by omega) (by omega)
    have e3:b4g (s.extract 8 s.size) 2 2=if Txt.isNum (Txt.part s 8 10) then Txt.a2f (Txt.part s 8 10) else -1:=by
     rw[hs];exact b2X _ 2 (b2K _ _ _ _ (by omega)) (by omega) (by omega)
    have hx:∃ x y z:Int,b4g (s.extract 0 4) 4 4=x/\b4g (s.extract 5 7) 2 2=y/\b4g (s.extract 8 s.size) 2 2=z:=⟨_,_,_,rfl,rfl,rfl⟩;obtain⟨x,y,z,hx,hy,hz⟩:=hx
    have HR:Hid (g2R s=if Cal.ok x y z=true/\0<=Cal.num x y z/\Cal.num x y z<=728 then Cal.num x y z else -1):=by
     show g2R s=_;rw[<- hx,<- hy,<- hz,e1,e2,e3,g2R,Txt.a2o,a0d HF]
     cases Txt.isNum (Txt.part s 0 4)
     ·simp[a5A (y:=-1) (m:=_) (d:=_) (by omega)]
     ·cases Txt.isNum (Txt.part s 5 7)
      ·simp[a5A (y:=_) (m:=-1) (d:=_) (by omega)]
      ·cases Txt.isNum (Txt.part s 8 10)
       ·simp[a5A (y:=_) (m:=_) (d:=-1) (by omega)]
       ·simp only[Bool.true_and,if_true]
        cases Cal.ok (Txt.a2f (Txt.part s 0 4)) (Txt.a2f (Txt.part s 5 7)) (Txt.a2f (Txt.part s 8 10)) <;> simp
    have HX:=hide hx;have HY:=hide hy;have HZ:=hide hz;clear e1 e2 e3 hx hy hz hs hb hd HF
    cases ho:Cal.ok x y z
    ·go_enter Tryz.func187,Tryz.ntmps187
     go_wp2_with fail
     refine (b0E (s.extract 0 4) 4 4 _ (b2L _ _ _ hm) (by omega) (by omega)).mono ?_;rintro e w1 ⟨rfl,hb1⟩;rw[a0d HX]
     go_wp2_with fail
     refine (b0E (s.extract 5 7) 2 2 _ (b2L _ _ _ hm) (by omega) (by omega)).mono ?_;rintro e w2 ⟨rfl,hb2⟩;rw[a0d HY]
     go_wp2_with fail
     refine (b0E (s.extract 8 s.size) 2 2 _ (b2L _ _ _ hm) (by omega) (by omega)).mono ?_;rintro e w3 ⟨rfl,hb3⟩;rw[a0d HZ];have hbb:=(hb1.trans (hb2.mono hb1.size)).trans (hb3.mono (Nat.le_trans hb1.size hb2.size))
     go_wp2_with fail
     refine (f3X _ _ _ _ ho).mono ?_;rintro e w4 ⟨rfl,rfl⟩;go_wp2;go_ret;exact⟨a3w (by rw[HR.out,ho];simp),hbb⟩
    ·have hcase:Cal.num x y z<0\/(¬ Cal.num x y z<0/\728<Cal.num x y z)\/(¬ Cal.num x y z<0/\¬ 728<Cal.num x y z):=by omega
     rcases hcase with g|⟨g,g'⟩|⟨g,g'⟩
     all_goals
      go_enter Tryz.func187,Tryz.ntmps187
      go_wp2_with fail
      refine (b0E (s.extract 0 4) 4 4 _ (b2L _ _ _ hm) (by omega) (by omega)).mono ?_;rintro e w1 ⟨rfl,hb1⟩;rw[a0d HX]
      go_wp2_with fail
      refine (b0E (s.extract 5 7) 2 2 _ (b2L _ _ _ hm) (by omega) (by omega)).mono ?_;rintro e w2 ⟨rfl,hb2⟩;rw[a0d HY]
      go_wp2_with fail
      refine (b0E (s.extract 8 s.size) 2 2 _ (b2L _ _ _ hm) (by omega) (by omega)).mono ?_;rintro e w3 ⟨rfl,hb3⟩;rw[a0d HZ];have hbb:=(hb1.trans (hb2.mono hb1.size)).trans (hb3.mono (Nat.le_trans hb1.size hb2.size))
      go_wp2_with fail
      refine (f1m _ _ _ _ ho).mono ?_;rintro e w4 ⟨rfl,rfl⟩;go_wp2;go_ret;refine⟨a3w ?_,hbb⟩;rw[HR.out]
      first|rw[if_neg (by omega)]|rw[if_pos ⟨ho,by omega,by omega⟩]
   ·have he:(((s[7]'h7n).toNat:Int) != 45)=true:=b5y (by rw[<- Txt.a2W];exact hd);have HF:=hide (d4C (Txt.a6l (s:=s) (by omega)));clear hs hb hd
    go_enter Tryz.func187,Tryz.ntmps187
    go_wp2;go_ret;exact⟨a3w (by rw[a0d HF]),Below.refl _ _⟩
  ·have hc:(((s[4]'h4n).toNat:Int) != 45)=true:=b5y (by rw[<- Txt.a2W];exact hb);have HF:=hide (d4C (Txt.a6l (s:=s) (by omega)));clear hs hb
   go_enter Tryz.func187,Tryz.ntmps187
   go_wp2;go_ret;exact⟨a3w (by rw[a0d HF]),Below.refl _ _⟩
 ·have h5:((s.size:Int) != 10)=true:=b5y (by omega);have HF:=hide (d4C (Txt.a6l (s:=s) (by omega)));clear hs
  go_enter Tryz.func187,Tryz.ntmps187
  go_wp2;go_ret;exact⟨a3w (by rw[a0d HF]),Below.refl _ _⟩
theorem c3v(s:ByteArray):Txt.a2y s=(Txt.a5j s && decide (0<=Txt.a2o s) && decide (Txt.a2o s<728)):=by
 rw[Bool.eq_iff_iff];simp[Txt.a2y,and_assoc]
def b0a(s:ByteArray):Int:=if Txt.a2y s then Txt.a2o s else 0
theorem a8b(s:ByteArray)(w:World)(ht:Tab w)(hm:s.size<=160):
  Calls Tryz.prog 136 #[.string s] w fun e w'=>e=.returned (.tuple #[.int .i64 (b0a s),.bool (Txt.a2y s)])/\w'=w:=by
 have hm':s.size<=maxLen:=by unfold maxLen;omega
 have HD:=hide (c3v s)
 cases hb:Txt.a5j s
 ·go_enter Tryz.func136,Tryz.ntmps136
  go_wp2_with fail
  refine (a1U s w ht hm').mono ?_;rintro e w' ⟨rfl,rfl⟩;go_wp2;go_ret2;exact⟨a0A (by simp[b0a,a0d HD,hb]) (by simp[a0d HD,hb]),rfl⟩
 ·have hcase:Txt.a2o s<0\/(¬ Txt.a2o s<0/\728<=Txt.a2o s)\/(¬ Txt.a2o s<0/\¬ 728<=Txt.a2o s):=by omega
  rcases hcase with g|⟨g,g'⟩|⟨g,g'⟩
  all_goals
   have HB:Hid (Txt.a2y s=(decide (0<=Txt.a2o s) && decide (Txt.a2o s<728))):=(a0d HD).trans (by rw[hb];rfl)
   go_enter Tryz.func136,Tryz.ntmps136
   go_wp2_with fail
   refine (a1U s w ht hm').mono ?_;rintro e w' ⟨rfl,rfl⟩;go_wp2;go_ret2;refine⟨a0A ?_ ?_,rfl⟩
  ·rw[b0a,HB.out,decide_eq_false (by omega)];rfl
  ·rw[HB.out,decide_eq_false (by omega)];rfl
  ·rw[b0a,HB.out,decide_eq_false (p:=Txt.a2o s<728) (by omega),Bool.and_false];rfl
  ·rw[HB.out,decide_eq_false (p:=Txt.a2o s<728) (by omega),Bool.and_false]
  ·rw[b0a,HB.out,decide_eq_true (p:=Txt.a2o s<728) (by omega),decide_eq_true (p:=0<=Txt.a2o s) (by omega)];rfl
  ·rw[HB.out,decide_eq_true (p:=Txt.a2o s<728) (by omega),decide_eq_true (p:=0<=Txt.a2o s) (by omega)];rfl
def a8J(s:ByteArray):Int:=if Txt.isNum s.data.toList then Txt.a2f s.data.toList else Txt.dmV s
def a0n(s:ByteArray):Bool:=(Txt.isNum s.data.toList || Txt.dmB s) && decide (0<=a8J s/\a8J s<=1048320)
def a1J(s:ByteArray):Int:=if a0n s then a8J s else 0
def g2T(s:ByteArray):Int:=if a0n s then a8J s else -1
theorem c1o(s:ByteArray)(h:s.size<=160):(Txt.b1a s).size<=160:=by
 rw[<- Txt.a1d];unfold Txt.b1a Lib.cut;have:=Txt.a1d s
 split <;> simp <;> omega
theorem c1n(s:ByteArray)(h:s.size<=160):(Txt.b0Z s).size<=160:=by
 rw[<- Txt.a1d];unfold Txt.b0Z Lib.cut;have:=Txt.a1d s
 split <;> simp <;> omega
theorem a1u(s:ByteArray)(w:World)(he:Env w)(hm:s.size<=160):
  Calls Tryz.prog 196 #[.string s] w fun e w'=>e=.returned (.tuple #[.int .i64 (Txt.dmV s),.bool (Txt.dmB s)])/\∃ n,w'=w.drewN n:=by
 obtain⟨m,hmx⟩:=he.c5L;have HE:=hide he;have HC:=hide (Txt.c6H s);have b1:=Txt.c3w (Txt.b1a s);have b2:=Txt.c4W (Txt.b0Z s);have hA:(Txt.b1a s).size<=maxLen:=by have:=c1o s hm;unfold maxLen;omega
 have hB:(Txt.b0Z s).size<=maxLen:=by have:=c1n s hm;unfold maxLen;omega
 have HA:=hide hA;have HB:=hide hB;clear he hA hB
 cases hf:Txt.c1N s
 ·have HD:Hid (Txt.dmB s=false):=by show Txt.dmB s=false;rw[<- (a0d HC).1,hf];rfl
  go_enter Tryz.func196,Tryz.ntmps196
  go_wp2_with fail
  refine (Tryz.strings_Cut s ⟨#[47]⟩ m w (by omega) hmx).mono ?_;rintro e w1 ⟨rfl,n,rfl⟩;rw[show (Lib.cut s.data.toList (ByteArray.mk #[47]).data.toList).snd.snd=Txt.c1N s from rfl];go_wp2;go_ret2;exact⟨a0A (by simp[Txt.dmV,HD.out]) (by rw[HD.out]),_,rfl⟩
 ·cases hd:Txt.a5j (Txt.b1a s)
  ·have HD:Hid (Txt.dmB s=false):=by show Txt.dmB s=false;rw[<- (a0d HC).1,hf,hd];rfl
   go_enter Tryz.func196,Tryz.ntmps196
   go_wp2_with fail
   refine (Tryz.strings_Cut s ⟨#[47]⟩ m w (by omega) hmx).mono ?_;rintro e w1 ⟨rfl,n,rfl⟩;rw[show (Lib.cut s.data.toList (ByteArray.mk #[47]).data.toList).snd.snd=Txt.c1N s from rfl,show (ByteArray.mk (Lib.cut s.data.toList (ByteArray.mk #[47]).data.toList).fst.toArray)=Txt.b1a s from rfl,show (ByteArray.mk (Lib.cut s.data.toList (ByteArray.mk #[47]).data.toList).snd.fst.toArray)=Txt.b0Z s from rfl]
   go_wp2_with fail
   refine (a1U (Txt.b1a s) _ ((a0d HE).drewN n).tab (a0d HA)).mono ?_;rintro e w1 ⟨rfl,rfl⟩
   go_wp2_with fail
   refine (a2m (Txt.b0Z s) _ (a0d HB)).mono ?_;rintro e w1 ⟨rfl,rfl⟩;go_wp2;go_ret2;exact⟨a0A (by simp[Txt.dmV,HD.out]) (by rw[HD.out]),_,rfl⟩
  ·cases hn:Txt.a3a (Txt.b0Z s)
   ·have HD:Hid (Txt.dmB s=false):=by show Txt.dmB s=false;rw[<- (a0d HC).1,hf,hd,hn];rfl
    go_enter Tryz.func196,Tryz.ntmps196
    go_wp2_with fail
    refine (Tryz.strings_Cut s ⟨#[47]⟩ m w (by omega) hmx).mono ?_;rintro e w1 ⟨rfl,n,rfl⟩;rw[show (Lib.cut s.data.toList (ByteArray.mk #[47]).data.toList).snd.snd=Txt.c1N s from rfl,show (ByteArray.mk (Lib.cut s.data.toList (ByteArray.mk #[47]).data.toList).fst.toArray)=Txt.b1a s from rfl,show (ByteArray.mk (Lib.cut s.data.toList (ByteArray.mk #[47]).data.toList).snd.fst.toArray)=Txt.b0Z s from rfl]
    go_wp2_with fail
    refine (a1U (Txt.b1a s) _ ((a0d HE).drewN n).tab (a0d HA)).mono ?_;rintro e w1 ⟨rfl,rfl⟩
    go_wp2_with fail
    refine (a2m (Txt.b0Z s) _ (a0d HB)).mono ?_;rintro e w1 ⟨rfl,rfl⟩;go_wp2;go_ret2;exact⟨a0A (by simp[Txt.dmV,HD.out]) (by rw[HD.out]),_,rfl⟩
   ·have HD:Hid (Txt.dmB s=true):=by show Txt.dmB s=true;rw[<- (a0d HC).1,hf,hd,hn];rfl
    have HV:=hide ((a0d HC).2 HD.out)
    go_enter Tryz.func196,Tryz.ntmps196
    go_wp2_with fail
    refine (Tryz.strings_Cut s ⟨#[47]⟩ m w (by omega) hmx).mono ?_;rintro e w1 ⟨rfl,n,rfl⟩;rw[show (Lib.cut s.data.toList (ByteArray.mk #[47]).data.toList).snd.snd=Txt.c1N s from rfl,show (ByteArray.mk (Lib.cut s.data.toList (ByteArray.mk #[47]).data.toList).fst.toArray)=Txt.b1a s from rfl,show (ByteArray.mk (Lib.cut s.data.toList (ByteArray.mk #[47]).data.toList).snd.fst.toArray)=Txt.b0Z s from rfl]
    go_wp2_with fail
    refine (a1U (Txt.b1a s) _ ((a0d HE).drewN n).tab (a0d HA)).mono ?_;rintro e w1 ⟨rfl,rfl⟩
    go_wp2_with fail
    refine (a2m (Txt.b0Z s) _ (a0d HB)).mono ?_;rintro e w1 ⟨rfl,rfl⟩;go_wp2;go_ret2;exact⟨a0A (a0d HV) (by rw[HD.out]),_,rfl⟩
theorem b9f{s:ByteArray}(h:Txt.isNum s.data.toList=true):a0n s=decide (Txt.a2f s.data.toList<=1048320)/\a8J s=Txt.a2f s.data.toList:=by
 have b:=Txt.a2B s.data.toList;have e:a8J s=Txt.a2f s.data.toList:=by simp[a8J,h]
 refine⟨?_,e⟩;unfold a0n;rw[e,h,Bool.eq_iff_iff];simp;omega
theorem c1X{s:ByteArray}(h:Txt.isNum s.data.toList=false):a0n s=(Txt.dmB s && decide (0<=Txt.dmV s/\Txt.dmV s<=1048320))/\a8J s=Txt.dmV s:=by
 have e:a8J s=Txt.dmV s:=by simp[a8J,h]
 exact⟨by unfold a0n;rw[e,h];rfl,e⟩
theorem a7Z(s:ByteArray)(w:World)(he:Env w)(hm:s.size<=160):
  Calls Tryz.prog 140 #[.string s] w fun e w'=>e=.returned (.tuple #[.int .i64 (a1J s),.bool (a0n s)])/\∃ n,w'=w.drewN n:=by
 have HE:=hide he;have hm':s.size<=maxLen:=by unfold maxLen;omega
 clear he
 cases hn:Txt.isNum s.data.toList
 ·have HT:=hide (c1X hn)
  cases hd:Txt.dmB s
  ·have HB:Hid (a0n s=false):=by show a0n s=false;rw[(a0d HT).1,hd];rfl
   go_enter Tryz.func140,Tryz.ntmps140
   go_wp2_with fail
   refine (a0m s w hm').mono ?_;rintro e w' ⟨rfl,rfl⟩
   go_wp2_with fail
   refine (a1u s _ (a0d HE) hm).mono ?_;rintro e w1 ⟨rfl,n,rfl⟩;go_wp2;go_ret2;exact⟨a0A (by simp[a1J,HB.out]) (by rw[HB.out]),_,rfl⟩
  ·have hcase:Txt.dmV s<0\/(¬ Txt.dmV s<0/\1048320<Txt.dmV s)\/(¬ Txt.dmV s<0/\¬ 1048320<Txt.dmV s):=by omega
   rcases hcase with g|⟨g,g'⟩|⟨g,g'⟩
   ·have HB:Hid (a0n s=false):=by show a0n s=false;rw[(a0d HT).1,hd,decide_eq_false (by omega)];rfl
    go_enter Tryz.func140,Tryz.ntmps140
    go_wp2_with fail
    refine (a0m s w hm').mono ?_;rintro e w' ⟨rfl,rfl⟩
    go_wp2_with fail
    refine (a1u s _ (a0d HE) hm).mono ?_;rintro e w1 ⟨rfl,n,rfl⟩;go_wp2;go_ret2;exact⟨a0A (by simp[a1J,HB.out]) (by rw[HB.out]),_,rfl⟩
   ·have HB:Hid (a0n s=false):=by show a0n s=false;rw[(a0d HT).1,hd,decide_eq_false (by omega)];rfl
    go_enter Tryz.func140,Tryz.ntmps140
    go_wp2_with fail
    refine (a0m s w hm').mono ?_;rintro e w' ⟨rfl,rfl⟩
    go_wp2_with fail
    refine (a1u s _ (a0d HE) hm).mono ?_;rintro e w1 ⟨rfl,n,rfl⟩;go_wp2;go_ret2;exact⟨a0A (by simp[a1J,HB.out]) (by rw[HB.out]),_,rfl⟩
   ·have HB:Hid (a0n s=true):=by show a0n s=true;rw[(a0d HT).1,hd,decide_eq_true (by omega)];rfl
    have HV:=hide (a0d HT).2
    go_enter Tryz.func140,Tryz.ntmps140
    go_wp2_with fail
    refine (a0m s w hm').mono ?_;rintro e w' ⟨rfl,rfl⟩
    go_wp2_with fail
    refine (a1u s _ (a0d HE) hm).mono ?_;rintro e w1 ⟨rfl,n,rfl⟩;go_wp2;go_ret2;exact⟨a0A (by simp[a1J,HB.out,a0d HV]) (by rw[HB.out]),_,rfl⟩
 ·have HT:=hide (b9f hn);have b:=Txt.a2B s.data.toList
  by_cases g:1048320<Txt.a2f s.data.toList
  ·have HB:Hid (a0n s=false):=by show a0n s=false;rw[(a0d HT).1,decide_eq_false (by omega)]
   go_enter Tryz.func140,Tryz.ntmps140
   go_wp2_with fail
   refine (a0m s w hm').mono ?_;rintro e w' ⟨rfl,rfl⟩;go_wp2;go_ret2;exact⟨a0A (by simp[a1J,HB.out]) (by rw[HB.out]),0,rfl⟩
  ·have HB:Hid (a0n s=true):=by show a0n s=true;rw[(a0d HT).1,decide_eq_true (by omega)]
   have HV:=hide (a0d HT).2
   go_enter Tryz.func140,Tryz.ntmps140
   go_wp2_with fail
   refine (a0m s w hm').mono ?_;rintro e w' ⟨rfl,rfl⟩;go_wp2;go_ret2;exact⟨a0A (by simp[a1J,HB.out,a0d HV]) (by rw[HB.out]),0,rfl⟩
theorem g2f{s:ByteArray}(h:s.size=16):Txt.isNum s.data.toList=false:=Txt.b3o (by rw[Txt.a1d];omega)
theorem g1h{s:ByteArray}(hs:s.size=16)(hb:Txt.a0V s 10=47):g2T s=if g2R (s.extract 0 10)<0\/c5N (s.extract 11 16)<0\/1048320<1440*g2R (s.extract 0 10)+c5N (s.extract 11 16) then -1 else 1440*g2R (s.extract 0 10)+c5N (s.extract 11 16):=by
 have ⟨e1,e2⟩:=c1X (g2f hs);have bm:=Txt.c4W (s.extract 11 16);have bd:=Txt.c3w (s.extract 0 10)
 have hdm:Txt.dmB s=(Txt.a5j (s.extract 0 10) && Txt.a3a (s.extract 11 16)):=by
  rw[Bool.eq_iff_iff];simp[Txt.dmB,hs,hb]
 unfold g2T;rw[e1,e2,Txt.dmV,hdm]
 cases hd:Txt.a5j (s.extract 0 10)
 ·rw[d4C hd];simp
 ·cases hn:Txt.a3a (s.extract 11 16)
  ·rw[b1d hn];simp
  ·have ec:c5N (s.extract 11 16)=Txt.a6J (s.extract 11 16):=by simp[c5N,hn]
   simp only[Bool.and_self,Bool.true_and,if_true,ec,decide_eq_true_eq]
   by_cases g:0<=Txt.a2o (s.extract 0 10)/\Txt.a2o (s.extract 0 10)<=728
   ·have ed:g2R (s.extract 0 10)=Txt.a2o (s.extract 0 10):=by simp[g2R,hd,g]
    rw[ed]
    by_cases q:Txt.a2o (s.extract 0 10)*1440+Txt.a6J (s.extract 11 16)<=1048320
    ·rw[if_pos (by omega),if_neg (by omega)];omega
    ·rw[if_neg (by omega),if_pos (by omega)]
   ·have ed:g2R (s.extract 0 10)=-1:=by unfold g2R;rw[if_neg (fun h=>g h.2)]
    rw[ed,if_neg (by omega),if_pos (by omega)]
theorem e7S{s:ByteArray}(h:¬ (s.size=16/\Txt.a0V s 10=47)):g2T s=if 1048320<b4g s 1 7 then -1 else b4g s 1 7:=by
 have hdm:Txt.dmB s=false:=by
  cases hd:Txt.dmB s
  ·rfl
  ·have:=of_decide_eq_true hd;exact absurd ⟨this.1,this.2.1⟩ h
 rw[d5I]
 cases hn:Txt.isNum s.data.toList
 ·have ⟨e1,e2⟩:=c1X hn;unfold g2T;rw[e1,hdm];simp
 ·have ⟨e1,e2⟩:=b9f hn;unfold g2T;rw[e1,e2]
  by_cases g:Txt.a2f s.data.toList<=1048320
  ·rw[decide_eq_true g];simp;omega
  ·rw[decide_eq_false g];simp;omega
theorem d0T(s:ByteArray)(w:World)(hm:s.size<=160):
  Calls Tryz.prog 127 #[.string s] w fun e w'=>e=.returned (.int .i64 (g2T s))/\Below w.heap.size w w':=by
 by_cases hs:s.size=16
 ·have h5:((s.size:Int)==16)=true:=beq_iff_eq.2 (by omega);have h2n:10<s.size:=by omega
  have h6:(10:Int)<(s.size:Int):=by omega
  have h7:(11:Int)<=(s.size:Int):=by omega
  by_cases hb:Txt.a0V s 10=47
  ·have hc:(((s[10]'h2n).toNat:Int)==47)=true:=beq_iff_eq.2 (by rw[<- Txt.a2W];exact hb);have HR:=hide (g1h hs hb);have hx:∃ x y:Int,g2R (s.extract 0 10)=x/\c5N (s.extract 11 16)=y:=⟨_,_,rfl,rfl⟩;obtain⟨x,y,hx,hy⟩:=hx;have bx:-1<=x/\x<=728:=by rw[<- hx,g2R];split <;> omega
   have by':-1<=y/\y<=1439:=by have:=Txt.c4W (s.extract 11 16);rw[<- hy,c5N];split <;> omega
   have HX:=hide hx;have HY:Hid (c5N (s.extract 11 s.size)=y):=by show c5N (s.extract 11 s.size)=y;rw[hs];exact hy
   have HQ:Hid (g2T s=if x<0\/y<0\/1048320<1440*x+y then -1 else 1440*x+y):=by
    show g2T s=_;rw[a0d HR,hx,hy]
   clear hx hy hs hb HR;have hcase:x<0\/(¬ x<0/\y<0)\/(¬ x<0/\¬ y<0/\1048320<1440*x+y)\/(¬ x<0/\¬ y<0/\¬ 1048320<1440*x+y):=by omega
   rcases hcase with g|⟨g,g'⟩|⟨g,g',g''⟩|⟨g,g',g''⟩
   all_goals
    go_enter Tryz.func127,Tryz.ntmps127
    go_wp2_with fail
    refine (d4B (s.extract 0 10) _ (b2L _ _ _ hm)).mono ?_;rintro e w1 ⟨rfl,hb1⟩;rw[a0d HX]
    go_wp2_with fail
    refine (c5y (s.extract 11 s.size) _ (b2L _ _ _ hm)).mono ?_;rintro e w2 ⟨rfl,hb2⟩;rw[HY.out];have hbb:=hb1.trans (hb2.mono hb1.size);go_wp2;go_ret;refine⟨a3w ?_,hbb⟩;rw[HQ.out]
    first|rw[if_pos (by omega)]|rw[if_neg (by omega)]
  ·have hc:(((s[10]'h2n).toNat:Int)==47)=false:=beq_eq_false_iff_ne.2 (by rw[<- Txt.a2W];exact hb);have HR:=hide (e7S (s:=s) (by omega));clear hs hb;have hx:∃ x:Int,b4g s 1 7=x:=⟨_,rfl⟩;obtain⟨x,hx⟩:=hx;have HX:=hide hx
   have HQ:Hid (g2T s=if 1048320<x then -1 else x):=by
    show g2T s=_;rw[a0d HR,hx]
   clear hx HR
   by_cases g:1048320<x
   all_goals
    go_enter Tryz.func127,Tryz.ntmps127
    go_wp2_with fail
    refine (b0E s 1 7 _ hm (by omega) (by omega)).mono ?_;rintro e w1 ⟨rfl,hb1⟩;rw[a0d HX];go_wp2;go_ret;refine⟨a3w ?_,hb1⟩;rw[HQ.out]
    first|rw[if_pos (by omega)]|rw[if_neg (by omega)]
 ·have h5:((s.size:Int)==16)=false:=beq_eq_false_iff_ne.2 (by omega);have HR:=hide (e7S (s:=s) (by omega));clear hs;have hx:∃ x:Int,b4g s 1 7=x:=⟨_,rfl⟩;obtain⟨x,hx⟩:=hx;have HX:=hide hx
  have HQ:Hid (g2T s=if 1048320<x then -1 else x):=by
   show g2T s=_;rw[a0d HR,hx]
  clear hx HR
  by_cases g:1048320<x
  all_goals
   go_enter Tryz.func127,Tryz.ntmps127
   go_wp2_with fail
   refine (b0E s 1 7 _ hm (by omega) (by omega)).mono ?_;rintro e w1 ⟨rfl,hb1⟩;rw[a0d HX];go_wp2;go_ret;refine⟨a3w ?_,hb1⟩;rw[HQ.out]
   first|rw[if_pos (by omega)]|rw[if_neg (by omega)]
end Go.Proofs.YtfigmlfdnickmaaGreatDoor
