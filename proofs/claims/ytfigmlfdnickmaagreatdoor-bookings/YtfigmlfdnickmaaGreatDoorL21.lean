import Derived.Test.YtfigmlfdnickmaaGreatDoorL20
import Derived.BigQuiet
set_option maxRecDepth 100000
set_option maxHeartbeats 8000000
variable{t:ByteArray}{l:List (Go.Proofs.YtfigmlfdnickmaaGreatDoor.Desk.Ent × Go.Value)}{L:List ByteArray}{Q R d g k:Nat}{col:Nat->Option Go.Proofs.YtfigmlfdnickmaaGreatDoor.Col}{s:Go.Proofs.YtfigmlfdnickmaaGreatDoor.Desk.St}{u1 u2 u3 u4 v z1 z2 z3 z4:Go.Value}{W w w':Go.World}
namespace Go.Proofs.YtfigmlfdnickmaaGreatDoor
open Go.RowKit
open Desk (Ent St Rep Inv)
theorem f0o{ops:Array Oper}{rest:List Oper}{o:Oper}{a:Act}{Q:Exit->Act->World->Prop}(hgd:o.guard=none)(x y:Operand)(t:TypeId)(ho:o.op=.call { callee:=.builtin .append,args:=#[x,y],argTypes:=#[t,t] })
  {B e:Nat}{i:TypeInfo}{z:Value}(size bytes:Nat) (ht:Tryz.prog.underlying t=some (.slice e)) (hi:Tryz.prog.info? e=some i) (hz:i.zero=some z) (hsize:i.size=size) (hby:i.bytes=bytes) (hb72:bytes<=104) (hzs:z.cells.size=size) (hp0:0<size)
  {v:Value}{n:Nat}{xs:List Value}(hown:W.ownsRow B e size v n xs) {cs:Array Value}{ty:TypeId}{mk:Nat × Nat}(hcl:cs.toList.length=size) (hp1:∀ u∈cs.toList,u.oneCell'=true) (hs:a.eval x=v) (hx:a.eval y=.slice (some ⟨W.heap.size,0,none⟩) 1 1) (hl:n<=2000000) (hB:B<=W.heap.size)
  (h:∀ g cap w',w'.ownsRow B e size (.slice (some ⟨g,0,none⟩) (n+1) cap) (n+1) (xs++cs.toList)->Off v.ownBlock.toList W w'->(v.ownBlock=some g\/W.heap.size<=g)->wpList Tryz.prog ops Q rest (a.put o.dst (.slice (some ⟨g,0,none⟩) (n+1) cap)) w'):
  wpList Tryz.prog ops Q (o :: rest) a (W.alloc (.cells cs ty mk)):=by
 refine wpList_append_lies _ hgd x y t ho B e i z size bytes ht hi hz hsize hby hzs hp0 v n xs hs (hown.alloc _) ⟨W.heap.size,0,none⟩ 1 1 cs.toList hx (by omega) (World.news_of_block (cs:=cs) (a0p W _)) hp1 (by omega) (by unfold maxLen;omega) (Nat.le_trans (Nat.mul_le_mul (show n+1<=2000001 by omega) hb72) (by decide)) (by simp;omega) (W.heap.size+1) (by simp) ?_;intro g cap w' h1 h2 h3 _;exact h g cap w' h1 (((Off.refl _ W).alloc _).grown h2 (fun k hk=>.inl (by simp[hk]))) (h3.imp id (fun e=>by omega))
def zD:Obj:=.cells #[.slice none 0 0,.slice none 0 0,.int .i64 0,.int .i64 0] 105
theorem DD.zero(h:w.heap[Q]?=some zD):DD w Q st0 [] [Q]:=by
 have hl:=(Array.getElem?_eq_some_iff.1 h).1;have c:∀ (i:Nat) {v:Value},#[Value.slice none 0 0,.slice none 0 0,.int .i64 0,.int .i64 0][i]?=some v->w.cell? ⟨Q,i,none⟩=some v:=fun i _ hv=>d0h h i hv
 refine⟨⟨⟨_,c 0 rfl,World.ownsRow_nil _ _ _ _,fun k hk=>by cases hk⟩,⟨_,c 1 rfl,World.ownsRow_nil _ _ _ _,fun k hk=>by cases hk⟩,c 2 rfl,c 3 rfl,fun o=>by simp[World.frozen?,h,zD],by simp,by simp⟩,rfl,fun k hk=>by simp at hk;omega,by simp[st0],by simp[st0],by simp[st0]⟩
section
variable {w0 w w1 w2 w3 w5:World}{B n:Nat}{tg:Nat->Tg}{D:List Dk}{K:List Nat}{v0 v1 r1 r2 r3 v0' v1':Value}{X1 X2 X3:List KL}
theorem BK.set0(h:BK w B v0 v1 K r1 r2 r3 X1 X2 X3)(v:Value):BK (w.setCell ⟨B,0,none⟩ v) B v v1 K r1 r2 r3 X1 X2 X3:=by
 have kd:Off [B] w (w.setCell ⟨B,0,none⟩ v):=Off.set0 ..
 have ne:∀ {t:Nat}{r:Value}{n:Nat}{xs:List Value},w.ownsRow 0 t 5 r n xs->86≠t->∀ b,r.ownBlock=some b->b ∉ [B]:=fun ho ht b hb e=>by
  rw[List.mem_singleton.1 e] at hb;exact c8L ho h.hb ht hb
 exact⟨by rw[d1X h.hb];rfl,h.br.off kd (ne h.br.b1.own (by decide)) (ne h.br.b2.own (by decide)) (ne h.br.b3.own (by decide)) (fun b hb e=>h.bK (List.mem_singleton.1 e ▸ hb)),h.bK⟩
theorem BK.set1(h:BK w B v0 v1 K r1 r2 r3 X1 X2 X3)(v:Value):BK (w.setCell ⟨B,1,none⟩ v) B v0 v K r1 r2 r3 X1 X2 X3:=by
 have kd:Off [B] w (w.setCell ⟨B,1,none⟩ v):=Off.set0 ..
 have ne:∀ {t:Nat}{r:Value}{n:Nat}{xs:List Value},w.ownsRow 0 t 5 r n xs->86≠t->∀ b,r.ownBlock=some b->b ∉ [B]:=fun ho ht b hb e=>by
  rw[List.mem_singleton.1 e] at hb;exact c8L ho h.hb ht hb
 exact⟨by rw[d1X h.hb];rfl,h.br.off kd (ne h.br.b1.own (by decide)) (ne h.br.b2.own (by decide)) (ne h.br.b3.own (by decide)) (fun b hb e=>h.bK (List.mem_singleton.1 e ▸ hb)),h.bK⟩
theorem LX.xB(h:LX w0 w B n tg D K v0 v1 r1 r2 r3 X1 X2 X3):∀ b,v0.ownBlock=some b->b ∉ bkB B r1 r2 r3/\b ∉ K/\v1.ownBlock≠some b/\b≠B:=fun b hb=>by
 have ht:=h.tx b hb;refine⟨fun e=>?_,fun e=>?_,fun e=>?_,fun e=>?_⟩
 ·have:=h.tb b e;rw[ht] at this;cases this
 ·have:=h.tk b e;rw[ht] at this;cases this
 ·have:=h.ty b e;rw[ht] at this;cases this
 ·have:=h.tb b (by rw[e];simp[bkB]);rw[ht] at this;cases this
theorem LX.yB(h:LX w0 w B n tg D K v0 v1 r1 r2 r3 X1 X2 X3):∀ b,v1.ownBlock=some b->b ∉ bkB B r1 r2 r3/\b ∉ K/\v0.ownBlock≠some b/\b≠B:=fun b hb=>by
 have ht:=h.ty b hb;refine⟨fun e=>?_,fun e=>?_,fun e=>?_,fun e=>?_⟩
 ·have:=h.tb b e;rw[ht] at this;cases this
 ·have:=h.tk b e;rw[ht] at this;cases this
 ·have:=h.tx b e;rw[ht] at this;cases this
 ·have:=h.tb b (by rw[e];simp[bkB]);rw[ht] at this;cases this
theorem LX.bt(h:LX w0 w B n tg D K v0 v1 r1 r2 r3 X1 X2 X3):tg B=.bk/\B<w.heap.size:=⟨h.tb B (by simp[bkB]),h.bk.lt B (by simp[bkB])⟩
open Classical in
theorem LX.begin(h:LX w0 w B n tg D K v0 v1 r1 r2 r3 X1 X2 X3)(hD:D.length<3){p:Nat}(bd:BD w1 p d st0 c2z col)(k1:Below w.heap.size w w1)(hc:∀ b,b<w.heap.size->col b=none)(hp:w.heap.size<=p)
  (k2:Off v0.ownBlock.toList w1 w2) (o2:w2.ownsRow 0 30 1 v0' (D.length+1) ((D.map fun k=>Value.pointer (some ⟨k.p,0,none⟩))++[.pointer (some ⟨p,0,none⟩)])) (a2:∀ b,v0'.ownBlock=some b->v0.ownBlock=some b\/w1.heap.size<=b)
  (e3:w3=w2.setCell ⟨B,0,none⟩ v0') (k5:Off v1.ownBlock.toList (w3.alloc zD) w5) (o5:w5.ownsRow 0 102 1 v1' (D.length+1) ((D.map fun k=>Value.pointer (some ⟨k.dd,0,none⟩))++[.pointer (some ⟨w3.heap.size,0,none⟩)])) (a5:∀ b,v1'.ownBlock=some b->v1.ownBlock=some b\/(w3.alloc zD).heap.size<=b):
  LW w0 (w5.setCell ⟨B,1,none⟩ v1') B n:=by
 obtain⟨tB,lB⟩:=h.bt;have s1:=k1.size;have s2:=k2.size;have ks3:Off [B] w2 w3:=by rw[e3];exact Off.set0 ..
 have s3:w3.heap.size=w2.heap.size:=by rw[e3];simp[World.setCell]
 have k4:Below w3.heap.size w3 (w3.alloc zD):=(zr _ _).alloc (zq _) _;have s4:(w3.alloc zD).heap.size=w3.heap.size+1:=by simp
 have s5:=k5.size;have ks6:Off [B] w5 (w5.setCell ⟨B,1,none⟩ v1'):=Off.set0 ..;have s6:=ks6.size;have xlt:∀ b,v0.ownBlock=some b->b<w.heap.size:=fun b hb=>h.ds.lt b (by rw[h.tx b hb];simp)
 have ylt:∀ b,v1.ownBlock=some b->b<w.heap.size:=fun b hb=>h.ds.lt b (by rw[h.ty b hb];simp)
 have plt:p<w1.heap.size:=(Array.getElem?_eq_some_iff.1 bd.pc).1
 have clt:∀ b c,col b=some c->w.heap.size<=b/\b<w1.heap.size:=fun b c hb=>by
  refine⟨?_,?_⟩
  ·rcases Nat.lt_or_ge b w.heap.size with e|e
   ·rw[hc b e] at hb;cases hb
   ·exact e
  ·rcases Nat.lt_or_ge b w1.heap.size with e|e
   ·exact e
   ·rw[bd.ds.dk.none e] at hb;cases hb
 have x'lt:∀ b,v0'.ownBlock=some b->b<w2.heap.size:=fun b hb=>c7O o2 hb
 have y'lt:∀ b,v1'.ownBlock=some b->b<w5.heap.size:=fun b hb=>c7O o5 hb
 -- all that changes
 have kA:Off (B :: (v0.ownBlock.toList++v1.ownBlock.toList)) w1 (w5.setCell ⟨B,1,none⟩ v1'):=by
  refine ((((k2.mono fun x hx=>?_).trans (ks3.mono fun x hx=>?_)).trans (Off.of_below k4)).trans (k5.mono fun x hx=>?_)).trans (ks6.mono fun x hx=>?_)
  ·exact List.mem_cons_of_mem _ (List.mem_append_left _ hx)
  ·rw[List.mem_singleton.1 hx];exact List.mem_cons_self ..
  ·exact List.mem_cons_of_mem _ (List.mem_append_right _ hx)
  ·rw[List.mem_singleton.1 hx];exact List.mem_cons_self ..
 have kW:=(Off.of_below (F:=B :: (v0.ownBlock.toList++v1.ownBlock.toList)) k1).trans kA
 have GT:∀ b∈B :: (v0.ownBlock.toList++v1.ownBlock.toList),(tg b=.bk\/tg b=.xs\/tg b=.ys)/\b<w.heap.size:=fun b hb=>by
  simp only[List.mem_cons,List.mem_append,Option.mem_toList] at hb;rcases hb with rfl|hb|hb
  ·exact⟨.inl tB,lB⟩
  ·exact⟨.inr (.inl (h.tx b hb)),xlt b hb⟩
  ·exact⟨.inr (.inr (h.ty b hb)),ylt b hb⟩
 have GN:∀ b∈B :: (v0.ownBlock.toList++v1.ownBlock.toList),tg b≠.no:=fun b hb=>by
  rcases (GT b hb).1 with e|e|e <;> rw[e] <;> simp
 have G10:∀ b∈B :: (v0.ownBlock.toList++v1.ownBlock.toList),10<=b:=fun b hb=>by
  rcases Nat.lt_or_ge b 10 with e|e
  ·exact (GN b hb (h.ds.gl b e)).elim
  ·exact e
 let tn:Nat->Tg:=fun b=>if tg b≠.no then tg b else if b=w3.heap.size then .dc D.length else if v0'.ownBlock=some b then .xs else if v1'.ownBlock=some b then .ys else if col b≠none\/b=p then .pr D.length else .no
 have tn1:∀ b,tg b≠.no->tn b=tg b:=fun b hb=>if_pos hb
 have tn0:∀ b,w.heap.size<=b->¬ tg b≠.no:=fun b hb e=>by have:=h.ds.lt b e;omega
 have tnd:tn w3.heap.size=.dc D.length:=by
  show (if _ then _ else _)=_;rw[if_neg (tn0 _ (by omega)),if_pos rfl]
 have tnx:∀ b,v0'.ownBlock=some b->tn b=.xs:=fun b hb=>by
  rcases a2 b hb with e|e
  ·rw[tn1 b (by rw[h.tx b e];simp),h.tx b e]
  ·show (if _ then _ else _)=_;rw[if_neg (tn0 _ (by omega)),if_neg (by have:=x'lt b hb;omega),if_pos hb]
 have tny:∀ b,v1'.ownBlock=some b->tn b=.ys:=fun b hb=>by
  rcases a5 b hb with e|e
  ·rw[tn1 b (by rw[h.ty b e];simp),h.ty b e]
  ·show (if _ then _ else _)=_;rw[if_neg (tn0 _ (by omega)),if_neg (by omega),if_neg (fun hx=>by have:=x'lt b hx;omega),if_pos hb]
 have tnp:∀ b,w.heap.size<=b->b<w1.heap.size->(col b≠none\/b=p)->tn b=.pr D.length:=fun b h1 h2 hb=>by
  show (if _ then _ else _)=_;rw[if_neg (tn0 _ h1),if_neg (by omega),if_neg (fun hx=>?_),if_neg (fun hx=>?_),if_pos hb]
  ·rcases a5 b hx with e|e
   ·have:=ylt b e;omega
   ·omega
  ·rcases a2 b hx with e|e
   ·have:=xlt b e;omega
   ·omega
 have tno:∀ b,tn b≠.no->(tg b≠.no\/w.heap.size<=b)/\b<(w5.setCell ⟨B,1,none⟩ v1').heap.size:=fun b hb=>by
  have hb':(if tg b≠.no then tg b else if b=w3.heap.size then Tg.dc D.length else if v0'.ownBlock=some b then Tg.xs else if v1'.ownBlock=some b then Tg.ys else if col b≠none\/b=p then Tg.pr D.length else Tg.no)≠.no:=hb
  by_cases e:tg b≠.no
  ·exact⟨.inl e,by have:=h.ds.lt b e;omega⟩
  rw[if_neg e] at hb'
  by_cases e1:b=w3.heap.size
  ·exact⟨.inr (by omega),by omega⟩
  rw[if_neg e1] at hb'
  by_cases e2:v0'.ownBlock=some b
  ·refine⟨?_,by have:=x'lt b e2;omega⟩;rcases a2 b e2 with q|q
   ·exact .inl (by rw[h.tx b q];simp)
   ·exact .inr (by omega)
  rw[if_neg e2] at hb'
  by_cases e3:v1'.ownBlock=some b
  ·refine⟨?_,by have:=y'lt b e3;omega⟩;rcases a5 b e3 with q|q
   ·exact .inl (by rw[h.ty b q];simp)
   ·exact .inr (by omega)
  rw[if_neg e3] at hb'
  by_cases e4:col b≠none\/b=p
  ·rcases e4 with q|q
   ·cases hcb:col b with
    |none=>exact (q hcb).elim
    |some c=>exact⟨.inr (clt b c hcb).1,by have:=(clt b c hcb).2;omega⟩
   ·exact⟨.inr (by omega),by omega⟩
  ·rw[if_neg e4] at hb';exact (hb' rfl).elim
 have hb0:=h.bl.size
 have lo':∀ b,tn b≠.no->w0.heap.size<=b:=fun b hb=>by
  rcases (tno b hb).1 with e|e
  ·exact h.lo b e
  ·omega
 have gl':∀ b,b<10->tn b=.no:=fun b hb=>by
  rcases Classical.em (tn b=.no) with e|e
  ·exact e
  ·have h1:=lo' b e;have h2:=h.w10;omega
 have ds':f2L (w5.setCell ⟨B,1,none⟩ v1') tn D:=h.ds.off kW (fun b hb=>⟨fun i=>by rcases (GT b hb).1 with e|e|e <;> rw[e] <;> simp,G10 b hb⟩) tn1 (fun b hb=>(tno b hb).2) gl';have bd':BD (w5.setCell ⟨B,1,none⟩ v1') p d st0 c2z col:=bd.off kA (fun b hb=>⟨hc b (GT b hb).2,by have:=(GT b hb).2;omega⟩) ds'.env;have hQ5:w5.heap[w3.heap.size]?=some zD:=(k5.block _ (by omega) (fun e=>by have:=ylt _ (Option.mem_toList.1 e);omega)).trans (a0p w3 _);have hQ:(w5.setCell ⟨B,1,none⟩ v1').heap[w3.heap.size]?=some zD:=(ks6.block _ (by omega) (fun e=>by have:=List.mem_singleton.1 e;omega)).trans hQ5;have b2:BK w2 B v0 v1 K r1 r2 r3 X1 X2 X3:=(h.bk.later k1).off k2 (fun b hb e=>(h.xB b (Option.mem_toList.1 e)).1 hb) (fun b hb e=>(h.xB b (Option.mem_toList.1 e)).2.1 hb);have b3:BK w3 B v0' v1 K r1 r2 r3 X1 X2 X3:=by rw[e3];exact b2.set0 v0'
 have b5:BK w5 B v0' v1 K r1 r2 r3 X1 X2 X3:=(b3.later k4).off k5 (fun b hb e=>(h.yB b (Option.mem_toList.1 e)).1 hb) (fun b hb e=>(h.yB b (Option.mem_toList.1 e)).2.1 hb)
 have nx:∀ b,v0'.ownBlock=some b->b≠B/\v1.ownBlock≠some b:=fun b hb=>by
  rcases a2 b hb with e|e
  ·exact⟨(h.xB b e).2.2.2,(h.xB b e).2.2.1⟩
  ·exact⟨by omega,fun e1=>by have:=ylt b e1;omega⟩
 have ny:∀ b,v1'.ownBlock=some b->b≠B:=fun b hb=>by
  rcases a5 b hb with e|e
  ·exact (h.yB b e).2.2.2
  ·omega
 have xo':(w5.setCell ⟨B,1,none⟩ v1').ownsRow 0 30 1 v0' (D.length+1) ((D.map fun k=>Value.pointer (some ⟨k.p,0,none⟩))++[.pointer (some ⟨p,0,none⟩)]) :=
  a1i (a1i (a1g (a1i o2 ks3 fun b hb e=>(nx b hb).1 (List.mem_singleton.1 e)) k4) k5 fun b hb e=>(nx b hb).2 (Option.mem_toList.1 e)) ks6 fun b hb e=>(nx b hb).1 (List.mem_singleton.1 e)
 have yo':(w5.setCell ⟨B,1,none⟩ v1').ownsRow 0 102 1 v1' (D.length+1) ((D.map fun k=>Value.pointer (some ⟨k.dd,0,none⟩))++[.pointer (some ⟨w3.heap.size,0,none⟩)]) :=
  a1i o5 ks6 fun b hb e=>ny b hb (List.mem_singleton.1 e)
 refine⟨tn,D++[⟨p,d,st0,c2z,col,w3.heap.size,[],[w3.heap.size]⟩],K,v0',v1',r1,r2,r3,X1,X2,X3,⟨⟨fun i k hk=>?_,ds'.env,ds'.lt,ds'.gl⟩,b5.set1 v1',h.len,by simpa using xo',by simpa using yo',fun b hb=>(tn1 b (by rw[h.tb b hb];simp)).trans (h.tb b hb),fun b hb=>(tn1 b (by rw[h.tk b hb];simp)).trans (h.tk b hb),tnx,tny,by simp;omega,h.bl.trans (Below.of_off kW hb0 fun b hb=>h.lo b (GN b hb)),lo',h.w10⟩⟩;rcases Nat.lt_or_ge i D.length with e|e
 ·rw[List.getElem?_append_left e] at hk;exact ds'.at_ i k hk
 ·rw[List.getElem?_append_right e] at hk
  have hi:i-D.length=0:=by
   rcases Nat.eq_zero_or_pos (i-D.length) with q|q
   ·exact q
   ·rw[List.getElem?_eq_none (by simp;omega)] at hk;cases hk
  rw[hi] at hk;have:i=D.length:=by omega
  subst this;simp only[List.getElem?_cons_zero,Option.some.injEq] at hk;subst hk;exact⟨bd',DD.zero hQ,tnp p hp plt (.inr rfl),fun b c hb=>tnp b (clt b c hb).1 (clt b c hb).2 (.inl (fun e=>by rw[show col b=some c from hb] at e;cases e)),fun b hb=>by rw[List.mem_singleton.1 hb];exact tnd,fun x hx=>by cases hx⟩
theorem g3p:(Tryz.prog.info? 30).map (fun i=>(i.zero,i.size,i.bytes))=some (some (.pointer none),1,8):=by kernel_rfl
theorem g3n:(Tryz.prog.info? 102).map (fun i=>(i.zero,i.size,i.bytes))=some (some (.pointer none),1,8):=by kernel_rfl
theorem e0X(h:LW w0 w B n):Calls Tryz.prog 40 #[.pointer (some ⟨B,0,none⟩)] w fun e w'=>e=.returned (.bool true)/\LW w0 w' B n:=by
 obtain⟨i0,hi0,hz0,hz1,hz2⟩:=info_parts g3p;obtain⟨j0,hj0,jz0,jz1,jz2⟩:=info_parts g3n;obtain⟨tg,D,K,v0,v1,r1,r2,r3,X1,X2,X3,hx⟩:=h;have NE:=a0b (f2r w hx.ds.env);obtain⟨a0,c0,rfl⟩:=c9y hx.xo;obtain⟨a1,c1,rfl⟩:=c9y hx.yo;have HX:=a0b hx;clear hx
 go_enter Tryz.func40,Tryz.ntmps40
 go_upto_region 4 with (first|(go_at_call 44;refine NE.out.mono ?_;rintro e w1 ⟨p,d,col,rfl,bd,k1,hc,hp⟩;have H1:=a0b (zA bd (zA k1 (zA hc hp)));clear bd k1 hc hp))
 obtain⟨x0,x1,_,_,_,fz⟩:=(HX.out.bk.later H1.out.2.1).cells
 by_cases hD:D.length<3
 ·have hD':(D.length:Int)<3:=by omega
  have XO:=a0b (a1g HX.out.xo H1.out.2.1);have f0:=fz 0;have hBx:Hid (B ∉ (Value.slice a0 D.length c0).ownBlock.toList):=fun e=>(HX.out.xB B (Option.mem_toList.1 e)).2.2.2 rfl
  have hBy:Hid (B ∉ (Value.slice a1 D.length c1).ownBlock.toList):=fun e=>(HX.out.yB B (Option.mem_toList.1 e)).2.2.2 rfl
  have LB:Hid (B<w1.heap.size):=World.block_lt_of_cell? _ _ x0
  go_upto_region 6 with (first|(at_builtin;go_loud (refine f0o rfl _ _ 78 rfl 1 8 Tryz.underlying78 hi0 hz0 hz1 hz2 (by decide) rfl (by decide) XO.out (cs:=#[.pointer (some ⟨p,0,none⟩)]) rfl (by simp[Value.oneCell']) rfl rfl (by omega) (zN _) ?_);intro g2 c2 w2 o2 k2 a2;have y0:=k2.cell hBx.out x0;have z0:=(k2.frozen hBx.out LB.out).trans f0;have y1:=k2.cell hBx.out x1;have z1:=(k2.frozen (o:=1) hBx.out LB.out).trans (fz 1)))
  have K2:=a0b (zA k2 (zA o2 a2))
  have q1:(w2.setCell ⟨B,0,none⟩ (.slice (some ⟨g2,0,none⟩) (D.length+1) c2)).cell? ⟨B,1,none⟩=some (.slice a1 D.length c1):=by
   rw[World.cell?_setCell_other _ _ _ _ (by simp)];exact y1
  have z3:(w2.setCell ⟨B,0,none⟩ (.slice (some ⟨g2,0,none⟩) (D.length+1) c2)).frozen? ⟨B,1,none⟩=false:=by
   rw[World.frozen?_setCell];exact z1
  clear k2 o2 a2 x0 x1 y0 y1 z0 z1 f0;have hw3:Hid (∃ w3,w3=w2.setCell ⟨B,0,none⟩ (.slice (some ⟨g2,0,none⟩) (D.length+1) c2)):=⟨_,rfl⟩
  have YO:Hid (((w2.setCell ⟨B,0,none⟩ (.slice (some ⟨g2,0,none⟩) (D.length+1) c2)).alloc zD).ownsRow 0 102 1 (.slice a1 D.length c1) D.length (D.map fun k=>Value.pointer (some ⟨k.dd,0,none⟩))) :=
   (a1i (a1i (a1g HX.out.yo H1.out.2.1) K2.out.1 fun b hb e=>(HX.out.yB b hb).2.2.1 (Option.mem_toList.1 e)) (Off.set0 B w2 0 _) fun b hb e=>(HX.out.yB b hb).2.2.2 (List.mem_singleton.1 e)).alloc _
  have FIN:Hid (∀ v1' w5,Off (Value.slice a1 D.length c1).ownBlock.toList ((w2.setCell ⟨B,0,none⟩ (.slice (some ⟨g2,0,none⟩) (D.length+1) c2)).alloc zD) w5->w5.ownsRow 0 102 1 v1' (D.length+1) ((D.map fun k=>Value.pointer (some ⟨k.dd,0,none⟩))++[.pointer (some ⟨(w2.setCell ⟨B,0,none⟩ (.slice (some ⟨g2,0,none⟩) (D.length+1) c2)).heap.size,0,none⟩)])->(∀ b,v1'.ownBlock=some b->(Value.slice a1 D.length c1).ownBlock=some b\/((w2.setCell ⟨B,0,none⟩ (.slice (some ⟨g2,0,none⟩) (D.length+1) c2)).alloc zD).heap.size<=b)->LW w0 (w5.setCell ⟨B,1,none⟩ v1') B n):=fun v1' w5 k5 o5 a5 =>
   HX.out.begin hD H1.out.1 H1.out.2.1 H1.out.2.2.1 H1.out.2.2.2 K2.out.1 K2.out.2.1 (fun b hb=>by simp[Value.ownBlock] at hb;subst hb;exact K2.out.2.2) rfl k5 o5 a5
  clear hw3;have q1A:((w2.setCell ⟨B,0,none⟩ (.slice (some ⟨g2,0,none⟩) (D.length+1) c2)).alloc zD).cell? ⟨B,1,none⟩=some (.slice a1 D.length c1):=a0a ((zr _ _).alloc (zq _) _) q1
  have z3A:((w2.setCell ⟨B,0,none⟩ (.slice (some ⟨g2,0,none⟩) (D.length+1) c2)).alloc zD).frozen? ⟨B,1,none⟩=false:=by
   have e:=((zr (w2.setCell ⟨B,0,none⟩ (.slice (some ⟨g2,0,none⟩) (D.length+1) c2)).heap.size _).alloc (zq _) zD).block B (World.block_lt_of_cell? _ _ q1);simp only[World.frozen?,e] at z3 ⊢;exact z3
  generalize w2.setCell ⟨B,0,none⟩ (.slice (some ⟨g2,0,none⟩) (D.length+1) c2)=w3 at *;clear K2 XO H1 NE LB hBx fz;have hBA:Hid (B<(w3.alloc zD).heap.size):=World.block_lt_of_cell? _ _ q1A
  go_upto_region 7 with (first|(at_builtin;go_loud (refine f0o (W:=w3.alloc zD) rfl _ _ 79 rfl 1 8 Tryz.underlying79 hj0 jz0 jz1 jz2 (by decide) rfl (by decide) YO.out (cs:=#[.pointer (some ⟨w3.heap.size,0,none⟩)]) rfl (by simp[Value.oneCell']) rfl (by simp[Act.eval]) (by omega) (zN _) ?_);intro g5 c5 w5 o5 k5 a5;have y1:=k5.cell hBy.out q1A;have z1:=(k5.frozen hBy.out hBA.out).trans z3A))
  have HF:=a0b (FIN.out _ _ k5 o5 (fun b hb=>by simp[Value.ownBlock] at hb;subst hb;exact a5));clear k5 o5 a5 y1 z1 FIN YO
  go_wp2_with fail
  go_ret;exact⟨rfl,HF.out⟩
 ·have hD':¬ (D.length:Int)<3:=by omega
  go_wp2_with fail
  go_ret;exact⟨rfl,_,_,_,_,_,_,_,_,_,_,_,HX.out.later H1.out.2.1⟩
end
open Desk (Ent Rep)
structure g0I(w:World)(p:Rep)(v1 v2 v3 v4:Value):Prop where
 en:∃ l,EV w v1 l/\l.map (·.1)=p.entries
 da:NV w v2 p.days
 gr:NV w v3 p.granted
 ed:NV w v4 p.ended
theorem g0I.later{p:Rep}{v1 v2 v3 v4:Value}(h:g0I w p v1 v2 v3 v4)(k:Below w.heap.size w w'):g0I w' p v1 v2 v3 v4:=by
 obtain⟨l,h1,h2⟩:=h.en;exact⟨⟨l,h1.later k,h2⟩,h.da.later k,h.gr.later k,h.ed.later k⟩
structure g2A(p:Rep):Prop where
 en:p.entries.length<=1000
 sp:∀ e∈p.entries,e.a0e.length<=1000
 da:p.days.length<=1000000
 gr:p.granted.length<=1000000
 ed:p.ended.length<=1000000
 er:p.err≠0->p.entries=[]/\p.days=[]/\p.granted=[]/\p.ended=[]
def g2J(p:Rep)(v1 v2 v3 v4:Value):Obj:=.cells #[.int .i64 p.err,.int .i64 p.at_,.int .i64 p.n,v1,v2,v3,v4] 40 (0,0)
theorem e1u(w:World)(p:Rep)(hp:g2A p)(u1 u2 u3 u4 v1 v2 v3 v4:Value)(hu:g0I w p u1 u2 u3 u4)(hv:g0I w p v1 v2 v3 v4):
  Calls Tryz.prog 76 #[a0s p.err p.at_ p.n u1 u2 u3 u4,a0s p.err p.at_ p.n v1 v2 v3 v4] w fun e w'=>e=.returned (.bool true)/\Below w.heap.size w w':=by
 have P0:=a0b (((KP.nil w).alloc (g2J p u1 u2 u3 u4)).alloc (g2J p v1 v2 v3 v4));obtain⟨l,el,ml⟩:=hu.en;obtain⟨m,em,mm⟩:=hv.en;obtain⟨a1,c1,e1⟩:=el.form;obtain⟨a2,c2,e2⟩:=hu.da.form;obtain⟨a3,c3,e3⟩:=hu.gr.form;obtain⟨a4,c4,e4⟩:=hu.ed.form;obtain⟨b1,d1,f1⟩:=em.form;obtain⟨b2,d2,f2⟩:=hv.da.form;obtain⟨b3,d3,f3⟩:=hv.gr.form;obtain⟨b4,d4,f4⟩:=hv.ed.form;subst e1 e2 e3 e4 f1 f2 f3 f4;have hll:l.length=p.entries.length:=by rw[<- ml,List.length_map]
 have hml:m.length=p.entries.length:=by rw[<- mm,List.length_map]
 have E1:=a0b (fun W (k:Below w.heap.size w W)=>d9N l m _ _ W (el.later k) (em.later k) (by rw[ml,mm]) (by have:=hp.en;omega) (fun q hq=>hp.sp q.1 (ml ▸ List.mem_map.2 ⟨q,hq,rfl⟩)));have E2:=a0b (fun W (k:Below w.heap.size w W)=>d5e p.days _ _ W (hu.da.later k) (hv.da.later k) hp.da);have E3:=a0b (fun W (k:Below w.heap.size w W)=>d5e p.granted _ _ W (hu.gr.later k) (hv.gr.later k) hp.gr);have E4:=a0b (fun W (k:Below w.heap.size w W)=>d5e p.ended _ _ W (hu.ed.later k) (hv.ed.later k) hp.ed)
 have ER:Hid (p.err≠0->l.length=0/\p.days.length=0/\p.granted.length=0/\p.ended.length=0):=fun h=>by
  obtain⟨h1,h2,h3,h4⟩:=hp.er h;rw[hll,h1,h2,h3,h4];simp
 clear hu hv el em ml mm hll hml hp;simp only[a0s]
 go_enter Tryz.func76,Tryz.ntmps76
 go_upto_region 1 with fail
 rw[World.size_alloc] at P0;change Code.wp _ _ _ _ ((w.alloc (g2J p (.slice a1 l.length c1) (.slice a2 p.days.length c2) (.slice a3 p.granted.length c3) (.slice a4 p.ended.length c4))).alloc (g2J p (.slice b1 m.length d1) (.slice b2 p.days.length d2) (.slice b3 p.granted.length d3) (.slice b4 p.ended.length d4)));generalize (w.alloc (g2J p (.slice a1 l.length c1) (.slice a2 p.days.length c2) (.slice a3 p.granted.length c3) (.slice a4 p.ended.length c4))).alloc (g2J p (.slice b1 m.length d1) (.slice b2 p.days.length d2) (.slice b3 p.granted.length d3) (.slice b4 p.ended.length d4))=X at *
 have CL:Hid (∀ W,Below X.heap.size X W->(W.cell? ⟨w.heap.size,3,none⟩=some (.slice a1 l.length c1)/\W.cell? ⟨w.heap.size,4,none⟩=some (.slice a2 p.days.length c2)/\W.cell? ⟨w.heap.size,5,none⟩=some (.slice a3 p.granted.length c3)/\W.cell? ⟨w.heap.size,6,none⟩=some (.slice a4 p.ended.length c4))/\(W.cell? ⟨w.heap.size+1,3,none⟩=some (.slice b1 m.length d1)/\W.cell? ⟨w.heap.size+1,4,none⟩=some (.slice b2 p.days.length d2)/\W.cell? ⟨w.heap.size+1,5,none⟩=some (.slice b3 p.granted.length d3)/\W.cell? ⟨w.heap.size+1,6,none⟩=some (.slice b4 p.ended.length d4))/\(W.cell? ⟨w.heap.size,0,none⟩=some (.int .i64 p.err)/\W.cell? ⟨w.heap.size,1,none⟩=some (.int .i64 p.at_)/\W.cell? ⟨w.heap.size,2,none⟩=some (.int .i64 p.n))/\W.cell? ⟨w.heap.size+1,0,none⟩=some (.int .i64 p.err)/\W.cell? ⟨w.heap.size+1,1,none⟩=some (.int .i64 p.at_)/\W.cell? ⟨w.heap.size+1,2,none⟩=some (.int .i64 p.n)):=fun W k=>by
  have hb:=P0.out.later k;have hu:=(hb.swap);exact⟨⟨hu.hc 3 rfl,hu.hc 4 rfl,hu.hc 5 rfl,hu.hc 6 rfl⟩,⟨hb.hc 3 rfl,hb.hc 4 rfl,hb.hc 5 rfl,hb.hc 6 rfl⟩,⟨hu.hc 0 rfl,hu.hc 1 rfl,hu.hc 2 rfl⟩,hb.hc 0 rfl,hb.hc 1 rfl,hb.hc 2 rfl⟩
 have BX:=a0b P0.out.bl;clear P0;obtain⟨⟨x3,_,_,_⟩,⟨y3,_,_,_⟩,_⟩:=CL.out X (zr _ _)
 go_wp2_with fail
 refine (E1.out _ BX.out).mono ?_;rintro e w1 ⟨rfl,hb1⟩;obtain⟨⟨_,x4,_,_⟩,⟨_,y4,_,_⟩,_⟩:=CL.out w1 hb1;have B1:=a0b (zA (a0j BX.out hb1 (zq _)) hb1);clear hb1 x3 y3
 go_wp2_with fail
 refine (E2.out _ B1.out.1).mono ?_;rintro e w2 ⟨rfl,hb2⟩;have B2:=a0b (zA (a0j B1.out.1 hb2 (zq _)) (a0j B1.out.2 hb2 (zq _)));obtain⟨⟨_,_,x5,_⟩,⟨_,_,y5,_⟩,_⟩:=CL.out w2 B2.out.2;clear hb2 x4 y4 B1
 go_wp2_with fail
 refine (E3.out _ B2.out.1).mono ?_;rintro e w3 ⟨rfl,hb3⟩;have B3:=a0b (zA (a0j B2.out.1 hb3 (zq _)) (a0j B2.out.2 hb3 (zq _)));obtain⟨⟨_,_,_,x6⟩,⟨_,_,_,y6⟩,_⟩:=CL.out w3 B3.out.2;clear hb3 x5 y5 B2
 go_wp2_with fail
 refine (E4.out _ B3.out.1).mono ?_;rintro e w4 ⟨rfl,hb4⟩;have B4:=a0b (a0j B3.out.1 hb4 (zq _));clear x6 y6;obtain⟨⟨x3,x4,x5,x6⟩,_,⟨x0,x1,x2⟩,y0,y1,y2⟩:=CL.out w4 (a0j B3.out.2 hb4 (zq _));clear hb4 B3 CL E1 E2 E3 E4
 by_cases he:p.err=0
 ·have he':(p.err==0)=true:=by simp[he]
  clear he
  go_wp2_with fail
  all_goals
   go_ret;exact⟨by simp,B4.out⟩
 ·have he':(p.err==0)=false:=by simp[he]
  obtain⟨h1,h2,h3,h4⟩:=ER.out he;clear he
  go_wp2_with fail
  all_goals
   go_ret;exact⟨by simp,B4.out⟩
theorem f4k(c n:Int)(w:World)(h1:-9223372036854775808<=c)(h2:c<=9223372036854775807)(hn:1<=n)(hn2:n<=1000000):
  Calls Tryz.prog 74 #[.int .i64 c,.int .i64 n] w fun e w'=>e=.returned (.int .i64 (a2s c n))/\w'=w:=by
 have hz:(n==0)=false:=by simp;omega
 have hb:=a6G (c:=c) hn
 by_cases h:c<0
 ·have k1:IntKind.i64.wrap (c+1)=c+1:=a0G (by omega) (by omega);have k2:IntKind.i64.wrap (-(c+1))=-(c+1):=a0G (by omega) (by omega);have e:(-(c+1)).tmod n=a2s c n:=by unfold a2s;rw[if_pos h];exact Int.tmod_eq_emod_of_nonneg (by omega)
  have k3:IntKind.i64.wrap (a2s c n)=a2s c n:=a0i (by omega) (by omega);generalize a2s c n=v at *
  go_enter Tryz.func74,Tryz.ntmps74
  go_wp2_with fail
  go_ret
  simp_all
 ·have e:c.tmod n=a2s c n:=by unfold a2s;rw[if_neg h];exact Int.tmod_eq_emod_of_nonneg (by omega)
  have k3:IntKind.i64.wrap (a2s c n)=a2s c n:=a0i (by omega) (by omega);generalize a2s c n=v at *
  go_enter Tryz.func74,Tryz.ntmps74
  go_wp2_with fail
  go_ret
  simp_all
theorem f7Z(h:Inv s){o:(Int × Int) ⊕ Desk.a7U}(ht:c4m t o)(hf:g4t o):g2A (d4I s o).2/\(d4I s o).2.entries.length<=60/\(d4I s o).2.days.length<=900000/\(d4I s o).2.granted.length<=900000/\(d4I s o).2.ended.length<=900000:=by
 cases o with
 |inl q=>exact⟨⟨by simp[d4I],by simp[d4I],by simp[d4I],by simp[d4I],by simp[d4I],fun _=>by simp[d4I]⟩,by simp[d4I]⟩
 |inr l =>
  obtain⟨line,_,_,hl⟩:=ht;have k:=Desk.g1y h hl hf;have en:=k.en;have gr:=k.gr;show g2A (Desk.a1q s l).2/\(Desk.a1q s l).2.entries.length<=60/\(Desk.a1q s l).2.days.length<=900000/\(Desk.a1q s l).2.granted.length<=900000/\(Desk.a1q s l).2.ended.length<=900000;have da:(Desk.a1q s l).2.days.length=0:=by rw[k.da];rfl
  have ed:(Desk.a1q s l).2.ended.length=0:=by rw[k.ed];rfl
  refine⟨⟨by omega,fun e he=>?_,by omega,by omega,by omega,fun he=>⟨(k.er he).1,k.da,(k.er he).2,k.ed⟩⟩,en,by omega,by omega,by omega⟩;have:=(h.en e (k.es e he)).sl;omega
theorem BD.more{p:Nat}{r:Raw}(h:BD w p d s r col)(k:Below w.heap.size w w'):BD w' p d s r col :=
 h.off (G:=[]) (Off.of_below k) (by simp) (h.env.later k)
theorem b5M.later{w1:World}{p:Nat}{q:St × Rep}(h:b5M w p d col q v w1)(k:Below w1.heap.size w1 w'):b5M w p d col q v w':=by
 obtain⟨r',col',bd,st,rp⟩:=h;exact⟨r',col',bd.more k,st.trans (Step.below k),rp.later k⟩
theorem d9C.a0s{K N:List Nat}{p:Rep}(h:d9C w K N u1 u2 u3 u4 l p.days p.granted p.ended)(hl:l.map (·.1)=p.entries):g0I w p u1 u2 u3 u4 :=
 ⟨⟨l,EV.own h.en (fun p hp=>SV.own (h.sp p hp)),hl⟩,NV.own h.da,NV.own h.gr,NV.own h.ed⟩
theorem g2b(args:Array Value)(w:World):(callFunc 77 args).run Tryz.prog w=.ok (.enter 77 args) w:=by kernel_rfl
section
variable {w0 w w1 w':World}{B n:Nat}{tg:Nat->Tg}{i:Nat}{k:Dk}{D:List Dk}{K:List Nat}{v0 v1 r1 r2 r3:Value}{X1 X2 X3:List KL}
theorem LX.still(h:LX w0 w B n tg D K v0 v1 r1 r2 r3 X1 X2 X3)(hi:D[i]?=some k){q:St × Rep}(P:b5M w k.p k.d k.col q v w1){b:Nat}(hb:tg b≠.no)(hp:tg b≠.pr i):w1.heap[b]?=w.heap[b]?:=by
 obtain⟨r',col',_,st,_⟩:=P;have hl:=h.ds.lt b hb;refine st.blockN hl ?_ hl
 cases hc:k.col b with
 |none=>rfl
 |some c=>exact (hp ((h.ds.at_ i k hi).pc b c hc)).elim
theorem LX.more{m:Nat}(h:LX w0 w B n tg D K v0 v1 r1 r2 r3 X1 X2 X3)(k:n<=m):LX w0 w B m tg D K v0 v1 r1 r2 r3 X1 X2 X3 :=
 ⟨h.ds,h.bk,Nat.le_trans h.len k,h.xo,h.yo,h.tb,h.tk,h.tx,h.ty,h.d3,h.bl,h.lo,h.w10⟩
theorem r7{er at_ n:Int}(h:w.heap[Q]?=some (d9E er at_ n u1 u2 u3 u4)):w.cell? ⟨Q,0,none⟩=some (.int .i64 er)/\w.cell? ⟨Q,1,none⟩=some (.int .i64 at_)/\w.cell? ⟨Q,2,none⟩=some (.int .i64 n)/\w.cell? ⟨Q,3,none⟩=some u1/\w.cell? ⟨Q,4,none⟩=some u2/\w.cell? ⟨Q,5,none⟩=some u3/\w.cell? ⟨Q,6,none⟩=some u4 :=
 ⟨d0h h 0 rfl,d0h h 1 rfl,d0h h 2 rfl,d0h h 3 rfl,d0h h 4 rfl,d0h h 5 rfl,d0h h 6 rfl⟩
structure g4C(w0 w:World)(B n:Nat)(tg:Nat->Tg)(D:List Dk)(K:List Nat)(v0 v1 r1 r2 r3:Value)(X1 X2 X3:List KL)(i:Nat)(k:Dk)(q:St × Rep)(Q:Nat)(u1 u2 u3 u4:Value)(W:World):Prop where
 lx:LX w0 w B n tg D K v0 v1 r1 r2 r3 X1 X2 X3
 hi:D[i]?=some k
 bp:b5M w k.p k.d k.col q (a0s q.2.err q.2.at_ q.2.n u1 u2 u3 u4) W
 hQ:W.heap[Q]?=some (d9E q.2.err q.2.at_ q.2.n u1 u2 u3 u4)
 lo:w.heap.size<=Q
theorem LX.mid1(h:LX w0 w B n tg D K v0 v1 r1 r2 r3 X1 X2 X3)(hi:D[i]?=some k){q:St × Rep}(P:b5M w k.p k.d k.col q (a0s q.2.err q.2.at_ q.2.n u1 u2 u3 u4) w1):g4C w0 w B n tg D K v0 v1 r1 r2 r3 X1 X2 X3 i k q w1.heap.size u1 u2 u3 u4 (w1.alloc (d9E q.2.err q.2.at_ q.2.n u1 u2 u3 u4)) :=
 ⟨h,hi,P.later ((zr _ _).alloc (zq _) _),a0p _ _,by obtain⟨_,_,_,st,_⟩:=P;exact st.size⟩
structure g2L(w0:World)(B n:Nat)(tg:Nat->Tg)(D:List Dk)(K:List Nat)(v0 v1 r1 r2 r3:Value)(X1 X2 X3:List KL)(p:Rep)(Q R:Nat)(u1 u2 u3 u4 z1 z2 z3 z4:Value)(l:List (Ent × Value))(W:World):Prop where
 lx:LX w0 W B n tg D K v0 v1 r1 r2 r3 X1 X2 X3
 rl:d9C W K (bkB B r1 r2 r3) u1 u2 u3 u4 l p.days p.granted p.ended
 hl:l.map (·.1)=p.entries
 no:∀ b∈rlB u1 u2 u3 u4 l,tg b=.no/\w0.heap.size<=b
 rv:g0I W p z1 z2 z3 z4
 hQ:W.heap[Q]?=some (d9E p.err p.at_ p.n u1 u2 u3 u4)
 hR:W.heap[R]?=some (d9E p.err p.at_ p.n z1 z2 z3 z4)
theorem g2L.later{p:Rep}(h:g2L w0 B n tg D K v0 v1 r1 r2 r3 X1 X2 X3 p Q R u1 u2 u3 u4 z1 z2 z3 z4 l w)(k:Below w.heap.size w w'):g2L w0 B n tg D K v0 v1 r1 r2 r3 X1 X2 X3 p Q R u1 u2 u3 u4 z1 z2 z3 z4 l w' :=
 ⟨h.lx.later k,h.rl.later k,h.hl,h.no,h.rv.later k,(k.block _ (Array.getElem?_eq_some_iff.1 h.hQ).1).trans h.hQ,(k.block _ (Array.getElem?_eq_some_iff.1 h.hR).1).trans h.hR⟩
theorem g4C.mid2{q:St × Rep}{w2:World}(h:g4C w0 w B n tg D K v0 v1 r1 r2 r3 X1 X2 X3 i k q Q u1 u2 u3 u4 W)(P:DDo W k.dd k.F k.xs q (.returned (a0s q.2.err q.2.at_ q.2.n z1 z2 z3 z4)) w2):
  ∃ tg' D' l,g2L w0 B n tg' D' K v0 v1 r1 r2 r3 X1 X2 X3 q.2 Q w2.heap.size u1 u2 u3 u4 z1 z2 z3 z4 l (w2.alloc (d9E q.2.err q.2.at_ q.2.n z1 z2 z3 z4)):=by
 obtain⟨k',tg',lx,a1,a2,a3,a4,l,hv,hl,hr,hn⟩:=h.lx.both h.hi h.bp P;simp only[a0s,Value.agg.injEq,Array.mk.injEq,List.cons.injEq,true_and,and_true] at hv;obtain⟨rfl,rfl,rfl,rfl⟩:=hv;have kW:Below w2.heap.size w2 (w2.alloc (d9E q.2.err q.2.at_ q.2.n z1 z2 z3 z4)):=(zr _ _).alloc (zq _) _;obtain⟨y1,y2,y3,y4,xs',F',he,tl,nv,_,_,kd,_⟩:=P;simp only[Ending.returned.injEq,a0s,Value.agg.injEq,Array.mk.injEq,List.cons.injEq,true_and,and_true] at he;obtain⟨rfl,rfl,rfl,rfl⟩:=he;have hQl:=(Array.getElem?_eq_some_iff.1 h.hQ).1
 have hQ2:w2.heap[Q]?=some (d9E q.2.err q.2.at_ q.2.n u1 u2 u3 u4):=(kd.block Q hQl (fun hx=>by
  have:=h.lx.ds.lt Q (by rw[(h.lx.ds.at_ i k h.hi).df Q hx];simp);have:=h.lo
  omega)).trans h.hQ
 exact⟨tg',_,l,lx.later kW,hr.later kW,hl,hn,(g0I.mk tl.en tl.da nv tl.ed).later kW,(kW.block _ (by have:=kd.size;omega)).trans hQ2,a0p _ _⟩
theorem g2L.a9i{p:Rep}(h:g2L w0 B n tg D K v0 v1 r1 r2 r3 X1 X2 X3 p Q R u1 u2 u3 u4 z1 z2 z3 z4 l w)(hn:n+64<=900000000)(ok:g2A p)(o6:p.entries.length<=60/\p.days.length<=900000/\p.granted.length<=900000/\p.ended.length<=900000):
  Calls Tryz.prog 77 #[.pointer (some ⟨B,2,none⟩),.agg #[.int .i64 p.err,.int .i64 p.at_,.int .i64 p.n,u1,u2,u3,u4]] w fun x w'=>x=.returned (.tuple #[])/\LW w0 w' B (n+64):=by
 have hll:l.length=p.entries.length:=by rw[<- h.hl,List.length_map]
 have hlen:=h.lx.len;refine (f8V h.lx.bk (by omega) h.rl (by omega) (fun x hx=>?_) o6.2.1 o6.2.2.1 o6.2.2.2 p.err p.at_ p.n).mono ?_
 ·have:x.1∈p.entries:=by rw[<- h.hl];exact List.mem_map.2 ⟨x,hx,rfl⟩
  have:=ok.sp x.1 this;omega
 ·rintro e w4 ⟨rfl,h4⟩;exact⟨rfl,(h.lx.more (Nat.le_add_right n 64)).kept (by omega) h.no h4⟩
theorem e2q(h:LW w0 w B n){a:Int}(h1:-9223372036854775808<=a)(h2:a<=9223372036854775807)(ht:f9Y t)(hn:n+64<=900000000):
  Calls Tryz.prog 54 #[.pointer (some ⟨B,0,none⟩),.int .i64 a,.string t] w fun e w'=>e=.returned (.bool true)/\LW w0 w' B (n+64):=by
 obtain⟨tg,D,K,v0,v1,r1,r2,r3,X1,X2,X3,hx⟩:=h;obtain⟨a0,c0,rfl⟩:=c9y hx.xo;obtain⟨a1,c1,rfl⟩:=c9y hx.yo;obtain⟨x0,x1,_,_,_,_⟩:=hx.bk.cells;have HX:=a0b hx
 by_cases hD:D.length=0
 ·have hD':((D.length:Int)==0)=true:=by simp[hD]
  clear hx ht hD
  go_enter Tryz.func54,Tryz.ntmps54
  go_wp2_with fail
  go_ret;exact⟨rfl,_,_,_,_,_,_,_,_,_,_,_,HX.out.more (Nat.le_add_right n 64)⟩
 ·have hD':((D.length:Int)==0)=false:=by rw[beq_eq_false_iff_ne];omega
  have hd3:=hx.d3;have hb:=a6G (c:=a) (n:=D.length) (by omega);obtain⟨j,hj⟩:∃ j:Nat,a2s a D.length=j:=⟨(a2s a D.length).toNat,by omega⟩;have hjl:j<D.length:=by omega
  have PK:=a0b (f4k a D.length w h1 h2 (by omega) (by omega));rw[hj] at PK;clear hb hj hD h1 h2;have hk:D[j]?=some D[j]:=List.getElem?_eq_getElem hjl;generalize D[j]=k at hk;obtain⟨g0,q0,e0,y0⟩:=e4k hx.xo (k:=j) (u:=.pointer (some ⟨k.p,0,none⟩)) (by rw[List.getElem?_map,hk];rfl);obtain⟨g1,q1,e1,y1⟩:=e4k hx.yo (k:=j) (u:=.pointer (some ⟨k.dd,0,none⟩)) (by rw[List.getElem?_map,hk];rfl);simp only[Value.slice.injEq,true_and] at e0 e1;obtain⟨rfl,rfl⟩:=e0;obtain⟨rfl,rfl⟩:=e1;obtain⟨o,hT,hDc,hf⟩:=f7P ht;have DO:=a0b (g3G (hx.ds.at_ j k hk).bd (f9k ht) hT hf);have OK:=a0b (f7Z (hx.ds.at_ j k hk).bd.ds.inv hT hf);have RD:Hid (∀ W,DD W k.dd k.s k.xs k.F->Calls Tryz.prog 75 #[.pointer (some ⟨k.dd,0,none⟩),.string t] W (DDo W k.dd k.F k.xs (d4I k.s o))):=fun W hW=>f8p hW (hx.ds.at_ j k hk).bd.ds.inv hDc hf
  have BT:=a0b (zA (HX.out.tb B (by simp[bkB])) (HX.out.ty g1 rfl));have HK:=a0b hk;generalize d4I k.s o=q at *;clear hx ht hT hDc hf hk;have hjl':(j:Int)<(D.length:Int):=by omega
  go_enter Tryz.func54,Tryz.ntmps54
  go_upto_region 4 with (first|(go_at_call 74;refine PK.out.mono ?_;rintro e w1 ⟨rfl,hw⟩;rw[hw];clear hw w1))
  go_upto_region 5 with (first|(go_at_call 21;refine DO.out.mono ?_;rintro e w1 ⟨v,rfl,bp⟩;have BP:=a0b bp;obtain⟨r',col',_,_,u1,u2,u3,u4,l0,rfl,hl0,e1,e2,e3,e4,_,_⟩:=bp;obtain⟨b1,d1,rfl⟩:=a0B e1.own;obtain⟨b2,d2,rfl⟩:=e2.slice;obtain⟨b3,d3,rfl⟩:=e3.slice;obtain⟨b4,d4,rfl⟩:=e4.slice;have z1:=(zo (HX.out.still HK.out BP.out (b:=B) (by rw[BT.out.1];simp) (by rw[BT.out.1];simp))).trans x1;have z2:=(zo (HX.out.still HK.out BP.out (b:=g1) (by rw[BT.out.2];simp) (by rw[BT.out.2];simp))).trans y1;clear hl0 e1 e2 e3 e4 x0 x1 y0 y1 DO PK;simp only[a0s]))
  have M1:=a0b (HX.out.mid1 HK.out BP.out);change Code.wp _ _ _ _ (w1.alloc (d9E q.2.err q.2.at_ q.2.n (.slice b1 l0.length d1) (.slice b2 q.2.days.length d2) (.slice b3 q.2.granted.length d3) (.slice b4 q.2.ended.length d4)));have RDW:=a0b (RD.out _ (M1.out.lx.ds.doc M1.out.hi M1.out.bp));have z3:=a0a ((zr _ w1).alloc (zq _) (d9E q.2.err q.2.at_ q.2.n (.slice b1 l0.length d1) (.slice b2 q.2.days.length d2) (.slice b3 q.2.granted.length d3) (.slice b4 q.2.ended.length d4))) z1;have z4:=a0a ((zr _ w1).alloc (zq _) (d9E q.2.err q.2.at_ q.2.n (.slice b1 l0.length d1) (.slice b2 q.2.days.length d2) (.slice b3 q.2.granted.length d3) (.slice b4 q.2.ended.length d4))) z2;clear z1 z2 RD BP BT HX HK;generalize w1.alloc (d9E q.2.err q.2.at_ q.2.n (.slice b1 l0.length d1) (.slice b2 q.2.days.length d2) (.slice b3 q.2.granted.length d3) (.slice b4 q.2.ended.length d4))=W1 at *;generalize w1.heap.size=Q at *
  go_upto_region 6 with (first|(go_at_call 75;refine RDW.out.mono ?_;rintro e w2 dd;have DDH:=a0b dd;obtain⟨y1,y2,y3,y4,xs',F',rfl,tl,nv,_⟩:=dd;obtain⟨le,ev,_⟩:=tl.en;obtain⟨f1,g2,rfl⟩:=ev.form;obtain⟨f2,g3,rfl⟩:=tl.da.form;obtain⟨f3,g4,rfl⟩:=nv.form;obtain⟨f4,g5,rfl⟩:=tl.ed.form;clear tl nv ev z3 z4 RDW;simp only[a0s]))
  change Code.wp _ _ _ _ (w2.alloc (d9E q.2.err q.2.at_ q.2.n (.slice f1 le.length g2) (.slice f2 q.2.days.length g3) (.slice f3 q.2.granted.length g4) (.slice f4 q.2.ended.length g5)));obtain⟨tg',D',l,m2⟩:=M1.out.mid2 DDH.out;have M2:=a0b m2;obtain⟨a0,a1,a2,a3,a4,a5,a6⟩:=r7 m2.hQ;obtain⟨s0,s1,s2,s3,s4,s5,s6⟩:=r7 m2.hR;have SR:=a0b (e1u _ q.2 OK.out.1 _ _ _ _ _ _ _ _ (m2.rl.a0s m2.hl) m2.rv);simp only[a0s] at SR;clear m2 M1 DDH;generalize w2.alloc (d9E q.2.err q.2.at_ q.2.n (.slice f1 le.length g2) (.slice f2 q.2.days.length g3) (.slice f3 q.2.granted.length g4) (.slice f4 q.2.ended.length g5))=W2 at *;generalize w2.heap.size=R at *
  go_upto_region 7 with (first|(go_at_call 76;refine SR.out.mono ?_;rintro e w3 ⟨rfl,hb3⟩;have M3:=a0b (M2.out.later hb3);clear hb3 a0 a1 a2 a3 a4 a5 a6 s0 s1 s2 s3 s4 s5 s6 SR))
  obtain⟨a0,a1,a2,a3,a4,a5,a6⟩:=r7 M3.out.hQ;have KP:=a0b ((M3.out.later (a0q w3)).a9i hn OK.out.1 OK.out.2);clear M2 M3 OK
  go_region_law (first
   |(refine a2k (by rfl) 77 _ _ (by rfl) _ (by simp[Act.eval]) (g2b _ _) KP.out ?_;rintro e w4 ⟨rfl,h4⟩;refine⟨_,rfl,?_⟩;have H4:=a0b h4;clear h4))
  all_goals
   go_wp2_with fail
   go_ret;exact⟨rfl,H4.out⟩
end
variable {w w1 w2:World}{B:Nat}{v0 v1 r1 r2 r3:Value}{K:List Nat}{X1 X2 X3:List KL}
theorem g4m{X:List KL}(hk:k<X.length)(o:Nat)(ho:o<5):(X.flatMap klV)[k*5+o]?=(klV X[k])[o]?:=by
 induction X generalizing k with
 |nil=>simp at hk
 |cons a r ih =>
  cases k with
  |zero=>rw[List.flatMap_cons,Nat.zero_mul,Nat.zero_add,List.getElem?_append_left (by simpa[klV] using ho)];rfl
  |succ k =>
   have:=ih (k:=k) (by simpa using hk);rw[List.flatMap_cons,List.getElem?_append_right (by simp[klV];omega)];simp only[klV,List.length_cons,List.length_nil,List.getElem_cons_succ] at this ⊢;rw[<- this]
   congr 1
   omega
theorem e7E.look{P:Int->List Value}{t:TypeId}{r:Value}{X:List KL}(h:e7E P t K w r X)(hk:k<X.length):∃ (g cap:Nat)(a1 a2 a3 a4:Option Addr)(j c1 c2 c3 c4:Nat)(m:Int),r=.slice (some ⟨g,0,none⟩) X.length cap/\w.cell? ⟨g,k*5,none⟩=some (.slice a1 j c1)/\w.cell? ⟨g,k*5+1,none⟩=some (.slice a2 (j+1) c2)/\w.cell? ⟨g,k*5+2,none⟩=some (.slice a3 (j+2) c3)/\w.cell? ⟨g,k*5+3,none⟩=some (.slice a4 (j+3) c4)/\w.cell? ⟨g,k*5+4,none⟩=some (.int .i64 m) /\
  j<=900000/\Fu (P m) w (.slice a1 j c1) j/\Fu (P m) w (.slice a2 (j+1) c2) (j+1)/\Fu (P m) w (.slice a3 (j+2) c3) (j+2)/\Fu (P m) w (.slice a4 (j+3) c4) (j+3):=by
 obtain⟨j,hj,f1,f2,f3,f4⟩:=h.four _ (zg hk);obtain⟨a1,c1,e1⟩:=f1.form;obtain⟨a2,c2,e2⟩:=f2.form;obtain⟨a3,c3,e3⟩:=f3.form;obtain⟨a4,c4,e4⟩:=f4.form
 have c:∀ o v,o<5->(klV X[k])[o]?=some v->∃ g cap,r=.slice (some ⟨g,0,none⟩) X.length cap/\w.cell? ⟨g,k*5+o,none⟩=some v:=fun o v ho hv=>by
  have hc:=(g4m hk o ho).trans hv;rcases h.own.2 with ⟨rfl,hn⟩|⟨g,cap,cur,rfl,_,hh,_⟩
  ·omega
  ·exact⟨g,cap,rfl,(f6U g (k*5+o)) ▸ h.own.cells (g:=g) rfl _ v hc⟩
 obtain⟨g,cap,rfl,y0⟩:=c 0 _ (by decide) rfl
 have c':∀ o v,o<5->(klV X[k])[o]?=some v->w.cell? ⟨g,k*5+o,none⟩=some v:=fun o v ho hv=>by
  obtain⟨g',cap',e,y⟩:=c o v ho hv;simp only[Value.slice.injEq,Option.some.injEq,Addr.mk.injEq,and_true,true_and] at e;obtain⟨rfl,rfl⟩:=e;exact y
 have y1:=c' 1 _ (by decide) rfl;have y2:=c' 2 _ (by decide) rfl;have y3:=c' 3 _ (by decide) rfl;have y4:=c' 4 _ (by decide) rfl;rw[Nat.add_zero] at y0;rw[e1] at y0 f1;rw[e2] at y1 f2;rw[e3] at y2 f3;rw[e4] at y3 f4;exact⟨g,cap,a1,a2,a3,a4,j,c1,c2,c3,c4,_,rfl,y0,y1,y2,y3,y4,hj,f1,f2,f3,f4⟩
def bx5(t:TypeId)(a b c d e:Value):Obj:=.cells #[a,b,c,d,e] t
theorem f5k(h:BK w B v0 v1 K r1 r2 r3 X1 X2 X3)(hm:X1.length+X2.length+X3.length<=1000000000):
  Calls Tryz.prog 42 #[.pointer (some ⟨B,2,none⟩)] w fun e w'=>e=.returned (.bool true)/\Below w.heap.size w w':=by
 have HB:=a0b h;obtain⟨⟨p1,s1,e1⟩,⟨p2,s2,e2⟩,p3,s3,e3⟩:=h.forms;subst e1 e2 e3;clear h
 go_enter Tryz.func42,Tryz.ntmps42
 go_wp2_with fail
 have HW1:Hid (Below w.heap.size w w):=zr _ _
 go_loopw [3] (fun v wr=>∃ k:Nat,k<=X1.length/\v=.int .i64 k/\Below w.heap.size w wr) (fun v _=>X1.length-(intOf v).toNat)
 case atStart=>exact⟨0,Nat.zero_le _,rfl,HW1.out⟩
 case round =>
  obtain⟨k,hk,rfl,hbl⟩:=hrel;have HR:=a0b hbl;have hBr:=HB.out.later hbl;obtain⟨_,_,d2,d3,d4,_⟩:=hBr.cells;clear hbl
  by_cases hlt:k<X1.length
  ·have hlt':(k:Int)<(X1.length:Int):=by omega
   obtain⟨g,cap,a1,a2,a3,a4,j,c1,c2,c3,c4,m,e,y0,y1,y2,y3,y4,hj,f1,f2,f3,f4⟩:=hBr.br.b1.look hlt;simp only[Value.slice.injEq,true_and] at e;obtain⟨rfl,rfl⟩:=e;have FF:=a0b (fun W (kW:Below wr.heap.size wr W)=>zA (d2d j m _ W (f1.later kW).nv (by omega)) (zA (d2d (j+1) m _ W (f2.later kW).nv (by omega)) (zA (d2d (j+2) m _ W (f3.later kW).nv (by omega)) (d2d (j+3) m _ W (f4.later kW).nv (by omega)))));clear f1 f2 f3 f4 hBr
   go_upto_region 5 with fail
   change Code.wp _ _ _ _ (wr.alloc (bx5 tI (.slice a1 j c1) (.slice a2 (j+1) c2) (.slice a3 (j+2) c3) (.slice a4 (j+3) c4) (.int .i64 m)));have BX:=a0b (zA ((zr _ wr).alloc (zq _) (bx5 tI (.slice a1 j c1) (.slice a2 (j+1) c2) (.slice a3 (j+2) c3) (.slice a4 (j+3) c4) (.int .i64 m))) (a0p wr (bx5 tI (.slice a1 j c1) (.slice a2 (j+1) c2) (.slice a3 (j+2) c3) (.slice a4 (j+3) c4) (.int .i64 m))));generalize wr.alloc (bx5 tI (.slice a1 j c1) (.slice a2 (j+1) c2) (.slice a3 (j+2) c3) (.slice a4 (j+3) c4) (.int .i64 m))=Z0 at BX ⊢
   have CL:Hid (∀ W,Below Z0.heap.size Z0 W->W.cell? ⟨wr.heap.size,0,none⟩=some (.slice a1 j c1)/\W.cell? ⟨wr.heap.size,1,none⟩=some (.slice a2 (j+1) c2)/\W.cell? ⟨wr.heap.size,2,none⟩=some (.slice a3 (j+2) c3)/\W.cell? ⟨wr.heap.size,3,none⟩=some (.slice a4 (j+3) c4)/\W.cell? ⟨wr.heap.size,4,none⟩=some (.int .i64 m)):=fun W kW=>by
    have hb:=(kW.block _ (Array.getElem?_eq_some_iff.1 BX.out.2).1).trans BX.out.2;exact⟨d0h hb 0 rfl,d0h hb 1 rfl,d0h hb 2 rfl,d0h hb 3 rfl,d0h hb 4 rfl⟩
   clear y0 y1 y2 y3 y4 d2 d3 d4;obtain⟨x0,_,_,_,x4⟩:=CL.out _ (zr _ _)
   go_upto_region 6 with (first|(go_at_call 56;refine (FF.out _ BX.out.1).1.mono ?_;rintro e w1 ⟨rfl,h1⟩;have B1:=a0b h1;clear h1))
   clear x0 x4;obtain⟨_,x1,_,_,x4⟩:=CL.out _ B1.out
   go_upto_region 7 with (first|(go_at_call 56;refine (FF.out _ (a0j BX.out.1 B1.out (zq _))).2.1.mono ?_;rintro e w2 ⟨rfl,h2⟩;have B2:=a0b (a0j B1.out h2 (zq _));clear h2))
   clear x1 x4;obtain⟨_,_,x2,_,x4⟩:=CL.out _ B2.out
   go_upto_region 8 with (first|(go_at_call 56;refine (FF.out _ (a0j BX.out.1 B2.out (zq _))).2.2.1.mono ?_;rintro e w3 ⟨rfl,h3⟩;have B3:=a0b (a0j B2.out h3 (zq _));clear h3))
   clear x2 x4;obtain⟨_,_,_,x3,x4⟩:=CL.out _ B3.out
   go_upto_region 9 with (first|(go_at_call 56;refine (FF.out _ (a0j BX.out.1 B3.out (zq _))).2.2.2.mono ?_;rintro e w4 ⟨rfl,h4⟩;have B4:=a0b (a0j B3.out h4 (zq _));clear h4))
   go_wp2_with fail
   go_roundw
   case rel=>exact⟨k+1,by omega,by go_num,a0j HR.out (a0j BX.out.1 B4.out (zq _)) (zq _)⟩
   case measure=>simp[intOf];omega
  ·have hlt':¬ (k:Int)<(X1.length:Int):=by omega
   clear hBr
   go_wp2_with fail
   have HW2:=a0b HR.out;clear d2 d3 d4 hlt hlt' hk HR
   go_loopw [9] (fun v wr=>∃ k:Nat,k<=X2.length/\v=.int .i64 k/\Below w.heap.size w wr) (fun v _=>X2.length-(intOf v).toNat)
   case atStart=>exact⟨0,Nat.zero_le _,rfl,HW2.out⟩
   case round =>
    obtain⟨k,hk,rfl,hbl⟩:=hrel;have HR:=a0b hbl;have hBr:=HB.out.later hbl;obtain⟨_,_,d2,d3,d4,_⟩:=hBr.cells;clear hbl
    by_cases hlt:k<X2.length
    ·have hlt':(k:Int)<(X2.length:Int):=by omega
     obtain⟨g,cap,a1,a2,a3,a4,j,c1,c2,c3,c4,m,e,y0,y1,y2,y3,y4,hj,f1,f2,f3,f4⟩:=hBr.br.b2.look hlt;simp only[Value.slice.injEq,true_and] at e;obtain⟨rfl,rfl⟩:=e;have FF:=a0b (fun W (kW:Below wr.heap.size wr W)=>zA (d1s j m _ W (f1.later kW).sv (by omega)) (zA (d1s (j+1) m _ W (f2.later kW).sv (by omega)) (zA (d1s (j+2) m _ W (f3.later kW).sv (by omega)) (d1s (j+3) m _ W (f4.later kW).sv (by omega)))));clear f1 f2 f3 f4 hBr
     go_upto_region 15 with fail
     change Code.wp _ _ _ _ (wr.alloc (bx5 tS (.slice a1 j c1) (.slice a2 (j+1) c2) (.slice a3 (j+2) c3) (.slice a4 (j+3) c4) (.int .i64 m)));have BX:=a0b (zA ((zr _ wr).alloc (zq _) (bx5 tS (.slice a1 j c1) (.slice a2 (j+1) c2) (.slice a3 (j+2) c3) (.slice a4 (j+3) c4) (.int .i64 m))) (a0p wr (bx5 tS (.slice a1 j c1) (.slice a2 (j+1) c2) (.slice a3 (j+2) c3) (.slice a4 (j+3) c4) (.int .i64 m))));generalize wr.alloc (bx5 tS (.slice a1 j c1) (.slice a2 (j+1) c2) (.slice a3 (j+2) c3) (.slice a4 (j+3) c4) (.int .i64 m))=Z0 at BX ⊢
     have CL:Hid (∀ W,Below Z0.heap.size Z0 W->W.cell? ⟨wr.heap.size,0,none⟩=some (.slice a1 j c1)/\W.cell? ⟨wr.heap.size,1,none⟩=some (.slice a2 (j+1) c2)/\W.cell? ⟨wr.heap.size,2,none⟩=some (.slice a3 (j+2) c3)/\W.cell? ⟨wr.heap.size,3,none⟩=some (.slice a4 (j+3) c4)/\W.cell? ⟨wr.heap.size,4,none⟩=some (.int .i64 m)):=fun W kW=>by
      have hb:=(kW.block _ (Array.getElem?_eq_some_iff.1 BX.out.2).1).trans BX.out.2;exact⟨d0h hb 0 rfl,d0h hb 1 rfl,d0h hb 2 rfl,d0h hb 3 rfl,d0h hb 4 rfl⟩
     clear y0 y1 y2 y3 y4 d2 d3 d4;obtain⟨x0,_,_,_,x4⟩:=CL.out _ (zr _ _)
     go_upto_region 16 with (first|(go_at_call 57;refine (FF.out _ BX.out.1).1.mono ?_;rintro e w1 ⟨rfl,h1⟩;have B1:=a0b h1;clear h1))
     clear x0 x4;obtain⟨_,x1,_,_,x4⟩:=CL.out _ B1.out
     go_upto_region 17 with (first|(go_at_call 57;refine (FF.out _ (a0j BX.out.1 B1.out (zq _))).2.1.mono ?_;rintro e w2 ⟨rfl,h2⟩;have B2:=a0b (a0j B1.out h2 (zq _));clear h2))
     clear x1 x4;obtain⟨_,_,x2,_,x4⟩:=CL.out _ B2.out
     go_upto_region 18 with (first|(go_at_call 57;refine (FF.out _ (a0j BX.out.1 B2.out (zq _))).2.2.1.mono ?_;rintro e w3 ⟨rfl,h3⟩;have B3:=a0b (a0j B2.out h3 (zq _));clear h3))
     clear x2 x4;obtain⟨_,_,_,x3,x4⟩:=CL.out _ B3.out
     go_upto_region 19 with (first|(go_at_call 57;refine (FF.out _ (a0j BX.out.1 B3.out (zq _))).2.2.2.mono ?_;rintro e w4 ⟨rfl,h4⟩;have B4:=a0b (a0j B3.out h4 (zq _));clear h4))
     go_wp2_with fail
     go_roundw
     case rel=>exact⟨k+1,by omega,by go_num,a0j HR.out (a0j BX.out.1 B4.out (zq _)) (zq _)⟩
     case measure=>simp[intOf];omega
    ·have hlt':¬ (k:Int)<(X2.length:Int):=by omega
     clear hBr
     go_wp2_with fail
     have HW3:=a0b HR.out;clear d2 d3 d4 hlt hlt' hk HR
     go_loopw [15] (fun v wr=>∃ k:Nat,k<=X3.length/\v=.int .i64 k/\Below w.heap.size w wr) (fun v _=>X3.length-(intOf v).toNat)
     case atStart=>exact⟨0,Nat.zero_le _,rfl,HW3.out⟩
     case round =>
      obtain⟨k,hk,rfl,hbl⟩:=hrel;have HR:=a0b hbl;have hBr:=HB.out.later hbl;obtain⟨_,_,d2,d3,d4,_⟩:=hBr.cells;clear hbl
      by_cases hlt:k<X3.length
      ·have hlt':(k:Int)<(X3.length:Int):=by omega
       obtain⟨g,cap,a1,a2,a3,a4,j,c1,c2,c3,c4,m,e,y0,y1,y2,y3,y4,hj,f1,f2,f3,f4⟩:=hBr.br.b3.look hlt;simp only[Value.slice.injEq,true_and] at e;obtain⟨rfl,rfl⟩:=e;have FF:=a0b (fun W (kW:Below wr.heap.size wr W)=>zA (d0B j m _ W (f1.later kW).ev (by omega)) (zA (d0B (j+1) m _ W (f2.later kW).ev (by omega)) (zA (d0B (j+2) m _ W (f3.later kW).ev (by omega)) (d0B (j+3) m _ W (f4.later kW).ev (by omega)))));clear f1 f2 f3 f4 hBr
       go_upto_region 25 with fail
       change Code.wp _ _ _ _ (wr.alloc (bx5 tE (.slice a1 j c1) (.slice a2 (j+1) c2) (.slice a3 (j+2) c3) (.slice a4 (j+3) c4) (.int .i64 m)));have BX:=a0b (zA ((zr _ wr).alloc (zq _) (bx5 tE (.slice a1 j c1) (.slice a2 (j+1) c2) (.slice a3 (j+2) c3) (.slice a4 (j+3) c4) (.int .i64 m))) (a0p wr (bx5 tE (.slice a1 j c1) (.slice a2 (j+1) c2) (.slice a3 (j+2) c3) (.slice a4 (j+3) c4) (.int .i64 m))));generalize wr.alloc (bx5 tE (.slice a1 j c1) (.slice a2 (j+1) c2) (.slice a3 (j+2) c3) (.slice a4 (j+3) c4) (.int .i64 m))=Z0 at BX ⊢
       have CL:Hid (∀ W,Below Z0.heap.size Z0 W->W.cell? ⟨wr.heap.size,0,none⟩=some (.slice a1 j c1)/\W.cell? ⟨wr.heap.size,1,none⟩=some (.slice a2 (j+1) c2)/\W.cell? ⟨wr.heap.size,2,none⟩=some (.slice a3 (j+2) c3)/\W.cell? ⟨wr.heap.size,3,none⟩=some (.slice a4 (j+3) c4)/\W.cell? ⟨wr.heap.size,4,none⟩=some (.int .i64 m)):=fun W kW=>by
        have hb:=(kW.block _ (Array.getElem?_eq_some_iff.1 BX.out.2).1).trans BX.out.2;exact⟨d0h hb 0 rfl,d0h hb 1 rfl,d0h hb 2 rfl,d0h hb 3 rfl,d0h hb 4 rfl⟩
       clear y0 y1 y2 y3 y4 d2 d3 d4;obtain⟨x0,_,_,_,x4⟩:=CL.out _ (zr _ _)
       go_upto_region 26 with (first|(go_at_call 58;refine (FF.out _ BX.out.1).1.mono ?_;rintro e w1 ⟨rfl,h1⟩;have B1:=a0b h1;clear h1))
       clear x0 x4;obtain⟨_,x1,_,_,x4⟩:=CL.out _ B1.out
       go_upto_region 27 with (first|(go_at_call 58;refine (FF.out _ (a0j BX.out.1 B1.out (zq _))).2.1.mono ?_;rintro e w2 ⟨rfl,h2⟩;have B2:=a0b (a0j B1.out h2 (zq _));clear h2))
       clear x1 x4;obtain⟨_,_,x2,_,x4⟩:=CL.out _ B2.out
       go_upto_region 28 with (first|(go_at_call 58;refine (FF.out _ (a0j BX.out.1 B2.out (zq _))).2.2.1.mono ?_;rintro e w3 ⟨rfl,h3⟩;have B3:=a0b (a0j B2.out h3 (zq _));clear h3))
       clear x2 x4;obtain⟨_,_,_,x3,x4⟩:=CL.out _ B3.out
       go_upto_region 29 with (first|(go_at_call 58;refine (FF.out _ (a0j BX.out.1 B3.out (zq _))).2.2.2.mono ?_;rintro e w4 ⟨rfl,h4⟩;have B4:=a0b (a0j B3.out h4 (zq _));clear h4))
       go_wp2_with fail
       go_roundw
       case rel=>exact⟨k+1,by omega,by go_num,a0j HR.out (a0j BX.out.1 B4.out (zq _)) (zq _)⟩
       case measure=>simp[intOf];omega
      ·have hlt':¬ (k:Int)<(X3.length:Int):=by omega
       clear hBr
       go_wp2_with fail
       go_ret;exact⟨rfl,HR.out⟩
theorem f0x(s:ByteArray)(w:World)(hs:s.size<=2000000):
  Calls Tryz.prog 59 #[.string s] w fun e w'=>∃ v,e=.returned v/\w'.ownsRow w.heap.size 9 1 v (Txt.a1v s).length ((Txt.a1v s).map Value.string)/\Below w.heap.size w w':=by
 obtain⟨i0,hi,hz0,hz1,hz2⟩:=info_parts e4B
 go_enter Tryz.func59,Tryz.ntmps59
 go_wp2
 go_loopw [3,4,5] (fun v c i wr=>∃ k:Nat,k<=s.size/\i=.int .i64 k/\c=.string (Txt.a8z s k)/\wr.ownsRow w.heap.size 9 1 v (Txt.b7w s k).length ((Txt.b7w s k).map Value.string)/\Below w.heap.size w wr) (fun _ _ i _=>s.size-(intOf i).toNat)
 case atStart=>exact⟨0,Nat.zero_le _,rfl,rfl,World.ownsRow_nil _ _ _ _,Below.refl _ _⟩
 case round =>
  obtain⟨k,hk,rfl,rfl,hown,hnx⟩:=hrel;have cz:=Txt.b7k s k
  by_cases hlt:k<s.size
  ·by_cases hb:Txt.a0V s k=32
   ·have hb':((s[k].toNat:Int)==32)=true:=beq_iff_eq.2 (by rw[<- Txt.a2W];exact hb);have HB:=hide (Txt.b3O s k hk hb);clear hb
    cases he:(Txt.a8z s k).toList.isEmpty
    ·have HE:Hid ((Txt.a8z s k).size≠0):=(d1p he);have hal:=Txt.b5J s k
     go_wp2_with (first
      |(at_builtin;refine wpList_append_own _ rfl _ _ 26 rfl w.heap.size 9 i0 (.string ⟨#[]⟩) 1 16 Tryz.underlying26 hi hz0 hz1 hz2 rfl (by decide) _ _ _ rfl (hown.alloc _) ⟨wr.heap.size,0,none⟩ 1 1 [.string (Txt.a8z s k)] rfl rfl ?c1 ?c2 ?c3 ?c4 ?c5 ?_)
      |go_in)
     case c1=>exact cell_one_new _ _ _
     case c2=>intro u hu;simp at hu;subst hu;rfl
     case c3=>unfold maxLen;omega
     case c4=>omega
     case c5=>have:=hnx.size;simp;omega
     intro v' w1 hown' hgrow _;go_wp2;refine⟨⟨k+1,by omega,by go_num,by rw[(a0d HB).1],?_,?_⟩,by simp[intOf];omega⟩
     ·rw[(a0d HB).2,if_neg HE.out,List.map_append,List.length_append];exact hown'
     ·refine (hnx.alloc hnx.size _).grown hgrow (by have:=hnx.size;simp;omega) (fun k hk=>?_);exact d0U hown hk
    ·have HE:Hid ((Txt.a8z s k).size=0):=(d4z he);go_wp2;exact⟨⟨k+1,by omega,by go_num,by rw[(a0d HB).1],by rw[(a0d HB).2,if_pos HE.out,List.append_nil];exact hown,hnx⟩,by simp[intOf];omega⟩
   ·have hb':((s[k].toNat:Int)==32)=false:=beq_eq_false_iff_ne.2 (by rw[<- Txt.a2W];exact hb);have HB:=hide (Txt.b7l s k hb);clear hb;go_wp2;exact⟨⟨k+1,by omega,by go_num,by rw[(a0d HB).1],by rw[(a0d HB).2];exact hown,hnx⟩,by simp[intOf];omega⟩
  ·obtain rfl:k=s.size:=by omega
   have HW:=hide (Txt.b2t s)
   cases he:(Txt.a8z s s.size).toList.isEmpty
   ·have HE:Hid ((Txt.a8z s s.size).size≠0):=(d1p he);have hal:=Txt.b5J s s.size
    go_wp2_with (first
     |(at_builtin;refine wpList_append_own _ rfl _ _ 26 rfl w.heap.size 9 i0 (.string ⟨#[]⟩) 1 16 Tryz.underlying26 hi hz0 hz1 hz2 rfl (by decide) _ _ _ rfl (hown.alloc _) ⟨wr.heap.size,0,none⟩ 1 1 [.string (Txt.a8z s s.size)] rfl rfl ?c1 ?c2 ?c3 ?c4 ?c5 ?_)
     |go_in)
    case c1=>exact cell_one_new _ _ _
    case c2=>intro u hu;simp at hu;subst hu;rfl
    case c3=>unfold maxLen;omega
    case c4=>omega
    case c5=>have:=hnx.size;simp;omega
    intro v' w1 hown' hgrow _;go_wp2;go_ret;refine⟨v',rfl,?_,?_⟩
    ·rw[a0d HW,if_neg HE.out,List.map_append,List.length_append];exact hown'
    ·refine (hnx.alloc hnx.size _).grown hgrow (by have:=hnx.size;simp;omega) (fun k hk=>?_);exact d0U hown hk
   ·have HE:Hid ((Txt.a8z s s.size).size=0):=(d4z he);go_wp2;go_ret;exact⟨_,rfl,by rw[a0d HW,if_pos HE.out,List.append_nil];exact hown,hnx⟩
def d9x(w:World)(g:Nat)(L:List ByteArray):Prop:=∀ (j:Nat)(hj:j<L.length),w.cell? ⟨g,j,none⟩=some (.string L[j])
theorem d9x.later(h:d9x w g L)(k:Below w.heap.size w w'):d9x w' g L:=fun j hj=>a0a k (h j hj)
def g4A(s:ByteArray)(L:List ByteArray)(w:World)(e:Ending)(w':World):Prop:=∃ b,e=.returned (.bool b)/\(b=true->∃ k∈L,isB (Txt.a1v s) 0 false k=true)/\Below w.heap.size w w'
theorem e4v(s:ByteArray)(w:World)(hs:s.size<=2000000){c:Nat}(hL:d9x w g L)(hl:L.length<=100):
  Calls Tryz.prog 43 #[.string s,.slice (some ⟨g,0,none⟩) L.length c] w (g4A s L w):=by
 have HW:=a0b (f0x s w hs);have HL:=a0b hL;clear hL
 go_enter Tryz.func43,Tryz.ntmps43
 go_wp2_with (first|(go_at_call 59;refine HW.out.mono ?_;rintro e w1 ⟨v,rfl,ho,hb⟩;have HO:=a0b (zA ho hb);obtain⟨va,vc,rfl⟩:=c9y ho;clear ho hb))
 have HL1:=a0b (HL.out.later HO.out.2)
 go_loopw [6] (fun v wr=>∃ k:Nat,k<=L.length/\v=.int .i64 k/\wr.heap=w1.heap/\Below w.heap.size w wr) (fun v _=>L.length-(intOf v).toNat)
 case atStart=>exact⟨0,Nat.zero_le _,rfl,rfl,HO.out.2⟩
 case round =>
  obtain⟨k,hk,rfl,hh,hbl⟩:=hrel;have HB:=a0b hbl;clear hbl
  by_cases hlt:k<L.length
  ·have hlt':(k:Int)<(L.length:Int):=by omega
   by_cases h0:0<(Txt.a1v s).length
   ·have h0':(0:Int)<((Txt.a1v s).length:Int):=by omega
    obtain⟨g1,c1,e1,y1⟩:=e4k HO.out.1 (k:=0) (u:=.string ((Txt.a1v s).getD 0 ByteArray.empty)) (by
     rw[List.getElem?_map,List.getD_eq_getElem?_getD,List.getElem?_eq_getElem h0];rfl)
    simp only[Value.slice.injEq,true_and] at e1;obtain⟨rfl,rfl⟩:=e1;have y1':wr.cell? ⟨g1,0,none⟩=some (.string ((Txt.a1v s).getD 0 ByteArray.empty)):=by rw[<- y1];simp only[World.cell?,hh]
    have y2:wr.cell? ⟨g,k,none⟩=some (.string L[k]):=by rw[<- HL1.out k hlt];simp only[World.cell?,hh]
    clear y1;obtain⟨x,hx⟩:∃ x,(Txt.a1v s).getD 0 ByteArray.empty=x:=⟨_,rfl⟩;obtain⟨z,hz⟩:∃ z,L[k]=z:=⟨_,rfl⟩;rw[hx] at y1';rw[hz] at y2;have HZ:Hid (z∈L/\((x.toList==z.toList)=true->isB (Txt.a1v s) 0 false z=true)):=⟨hz ▸ zg hlt,fun hq=>by simp only[isB,a1b,hx,hq];simp[h0]⟩;clear hx hz
    cases hq:x.toList==z.toList
    ·go_upto_region 5 with fail
     go_quiet (fail)
     go_wp2_with fail
     exact⟨⟨k+1,by omega,by go_num,hh,d7M HB.out _⟩,by simp[intOf];omega⟩
    ·have HI:=a0b (HZ.out.2 hq)
     go_upto_region 5 with fail
     go_quiet (fail)
     go_wp2_with fail
     go_ret;exact⟨true,rfl,fun _=>⟨z,HZ.out.1,HI.out⟩,d7M HB.out _⟩
   ·have h0':¬ (0:Int)<((Txt.a1v s).length:Int):=by omega
    go_wp2_with fail
    go_ret;exact⟨false,rfl,by simp,HB.out⟩
  ·have hlt':¬ (k:Int)<(L.length:Int):=by omega
   go_wp2_with fail
   go_ret;exact⟨false,rfl,by simp,HB.out⟩
namespace Txt
theorem e9C:∀ (l:List UInt8)(x:List (List UInt8) × List UInt8),∃ t,c1V (l.foldl b1m x)=x.1++t
 |[],x=>by
  unfold c1V
  by_cases h:x.2=[]
  ·exact⟨[],by simp[h]⟩
  ·exact⟨[x.2],by simp[h]⟩
 |c :: l,x=>by
  obtain⟨t,ht⟩:=e9C l (b1m x c);rw[List.foldl_cons,ht];unfold b1m
  by_cases h:c=32
  ·rw[if_pos h]
   by_cases h2:x.2=[]
   ·exact⟨t,by simp[h2]⟩
   ·exact⟨[x.2]++t,by simp[h2]⟩
  ·exact⟨t,by rw[if_neg h]⟩
theorem f5E{s k:ByteArray}(hk:a3V k.data.toList=true)(h:s.data.toList=k.data.toList\/∃ r,s.data.toList=k.data.toList++32 :: r):∃ R,a1v s=k :: R:=by
 obtain⟨h1,h2⟩:=a8C.1 hk
 have key:∃ t,b2u s.data.toList=k.data.toList :: t:=by
  unfold b2u c4p;rcases h with e|⟨r,e⟩
  ·rw[e,b3A h2];exact⟨[],by simp[c1V,h1]⟩
  ·rw[e,List.foldl_append,b3A h2,List.foldl_cons,b7S];obtain⟨t,ht⟩:=e9C r (c1V ([],[]++k.data.toList),[]);rw[ht];exact⟨t,by simp[c1V,h1]⟩
 obtain⟨t,ht⟩:=key;rw[<- b7B] at ht
 cases hw:a1v s with
 |nil=>rw[hw] at ht;simp at ht
 |cons a R =>
  rw[hw] at ht;simp only[List.map_cons,List.cons.injEq] at ht;exact⟨R,by rw[c1t ht.1]⟩
end Txt
theorem e9e(p ws:List ByteArray):∀ n:Nat,(e0k p ws (n+1)).data.toList=(wrS (p.getD 0 ⟨#[]⟩) (ws.getD 0 ⟨#[]⟩)).data.toList\/∃ r,(e0k p ws (n+1)).data.toList=(wrS (p.getD 0 ⟨#[]⟩) (ws.getD 0 ⟨#[]⟩)).data.toList++32 :: r
 |0=>by
  left;simp[e0k]
 |n+1=>by
  right;rw[e0k,if_pos (by omega),Txt.a1X,Txt.a1X];rcases e9e p ws n with e|⟨r,e⟩
  ·rw[e];exact⟨_,by rw[List.append_assoc];rfl⟩
  ·rw[e];exact⟨r++(32 :: (wrS (p.getD (n+1) ⟨#[]⟩) (ws.getD (n+1) ⟨#[]⟩)).data.toList),by simp⟩
theorem f9j{k:ByteArray}(hk:k∈e7g):Txt.a3V k.data.toList=true/\wrS k k=k:=by
 simp only[e7g,List.mem_cons,List.not_mem_nil,or_false] at hk;rcases hk with rfl|rfl|rfl|rfl|rfl|rfl|rfl <;> exact⟨by decide +kernel,by decide +kernel⟩
theorem f9q{q:List ByteArray}{l:Desk.a7U}(hF:Full t q)(hq:e2P (Txt.a1v t) q l)(hf:g1X l=true):∃ k∈e7g,(Txt.a1v t).getD 0 ByteArray.empty=k/\∃ R,q=k :: R:=by
 cases hq with
 |a0k=>exact⟨a3F,by simp[e7g],hF.head (by decide +kernel),_,rfl⟩
 |book=>exact⟨a9P,by simp[e7g],hF.head (by decide +kernel),_,rfl⟩
 |cancel=>exact⟨a6m,by simp[e7g],hF.head (by decide +kernel),_,rfl⟩
 |list0=>exact⟨a5Q,by simp[e7g],hF.head (by decide +kernel),_,rfl⟩
 |list1=>exact⟨a5Q,by simp[e7g],hF.head (by decide +kernel),_,rfl⟩
 |peak=>exact⟨a9a,by simp[e7g],hF.head (by decide +kernel),_,rfl⟩
 |find=>exact⟨b5h,by simp[e7g],hF.head (by decide +kernel),_,rfl⟩
 |clock=>exact⟨b1c,by simp[e7g],hF.head (by decide +kernel),_,rfl⟩
 |_=>cases hf
theorem f5R(h:f9Y t){p:List ByteArray}(hp:g0V t=(some p,0)):f9Y (e0k p (Txt.a1v t) (Txt.a1v t).length):=by
 obtain⟨v,st,_,hn,hd⟩:=e9M h
 by_cases hb:st.2=true\/a1b (Txt.a1v t).length st.1 st.2=true
 ·have:=hn hb;rw[hp] at this
  cases this
 ·have h2:st.2=false:=by cases e:st.2 <;> simp_all
  have h3:a1b (Txt.a1v t).length st.1 st.2=false:=by cases e:a1b (Txt.a1v t).length st.1 st.2 <;> simp_all
  obtain⟨q,l,x1,x2,_,_,x5⟩:=hd h2 h3;have e:=x1.sc;rw[hp] at e;simp only[Prod.mk.injEq,Option.some.injEq,and_true] at e;subst e;obtain⟨k,hk,hw,R,rfl⟩:=f9q x1 x2 x5;obtain⟨w1,w2⟩:=f9j hk;have hl:=x1.len;simp only[List.length_cons] at hl;rw[hl];have ho:=e9e (k :: R) (Txt.a1v t) R.length
  have e0:wrS ((k :: R).getD 0 ⟨#[]⟩) ((Txt.a1v t).getD 0 ⟨#[]⟩)=k:=by
   have:(Txt.a1v t).getD 0 ⟨#[]⟩=k:=hw;rw[this];exact w2
  rw[e0] at ho;obtain⟨T,hT⟩:=Txt.f5E w1 ho;exact⟨k,hk,by rw[hT];simp[isB,a1b]⟩
end Go.Proofs.YtfigmlfdnickmaaGreatDoor
