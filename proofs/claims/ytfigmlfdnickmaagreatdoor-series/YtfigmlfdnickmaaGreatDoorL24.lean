import Derived.Test.YtfigmlfdnickmaaGreatDoorL23
import Derived.BigQuiet
set_option maxRecDepth 100000
set_option maxHeartbeats 8000000
variable{held:Bool}{name ut:ByteArray}{xs:List (Go.Proofs.YtfigmlfdnickmaaGreatDoor.Desk.Ent × Nat × Nat)}{L:List ByteArray}{F:List Nat}{b c d g k n:Nat}{spare:Nat->Bool}{s:Go.Proofs.YtfigmlfdnickmaaGreatDoor.Desk.St}{W w w':Go.World}
namespace Go.Proofs.YtfigmlfdnickmaaGreatDoor
open Go.RowKit
open Desk (Ent St Rep Inv)
theorem f0o{ops:Array Oper}{rest:List Oper}{o:Oper}{a:Act}{Q:Exit->Act->World->Prop}(hgd:o.guard=none)(x y:Operand)(t:TypeId)(ho:o.op=.call { callee:=.builtin .append,args:=#[x,y],argTypes:=#[t,t] })
  {B e:Nat}{i:TypeInfo}{z:Value}(size bytes:Nat) (ht:Tryz.prog.underlying t=some (.slice e)) (hi:Tryz.prog.info? e=some i) (hz:i.zero=some z) (hsize:i.size=size) (hby:i.bytes=bytes) (hb72:bytes<=104) (hzs:z.cells.size=size) (hp0:0<size)
  {v:Value}{n:Nat}{xs:List Value}(hown:W.ownsRow B e size v n xs) {cs:Array Value}{ty:TypeId}{mk:Nat × Nat}(hcl:cs.toList.length=size) (hp1:∀ u∈cs.toList,u.oneCell'=true) (hs:a.eval x=v) (hx:a.eval y=.slice (some ⟨W.heap.size,0,none⟩) 1 1) (hl:n<=2000000) (hB:B<=W.heap.size)
  (h:∀ g cap w',w'.ownsRow B e size (.slice (some ⟨g,0,none⟩) (n+1) cap) (n+1) (xs++cs.toList)->Off v.ownBlock.toList W w'->(v.ownBlock=some g\/W.heap.size<=g)->wpList Tryz.prog ops Q rest (a.put o.dst (.slice (some ⟨g,0,none⟩) (n+1) cap)) w'):
  wpList Tryz.prog ops Q (o :: rest) a (W.alloc (.cells cs ty mk)):=by
 refine wpList_append_lies _ hgd x y t ho B e i z size bytes ht hi hz hsize hby hzs hp0 v n xs hs (hown.alloc _) ⟨W.heap.size,0,none⟩ 1 1 cs.toList hx (by omega) (World.news_of_block (cs:=cs) (a0p W _)) hp1 (by omega) (by unfold maxLen;omega) (Nat.le_trans (Nat.mul_le_mul (show n+1<=2000001 by omega) hb72) (by decide)) (by simp;omega) (W.heap.size+1) (by simp) ?_;intro g cap w' h1 h2 h3 _;exact h g cap w' h1 (((Off.refl _ W).alloc _).grown h2 (fun k hk=>.inl (by simp[hk]))) (h3.imp id (fun e=>by omega))
def zD:Obj:=.cells #[.slice none 0 0,.slice none 0 0,.int .i64 0,.int .i64 0] 105
theorem DD.zero{Q:Nat}(h:w.heap[Q]?=some zD):DD w Q st0 [] [Q]:=by
 have hl:=(Array.getElem?_eq_some_iff.1 h).1;have c:∀ (i:Nat) {v:Value},#[Value.slice none 0 0,.slice none 0 0,.int .i64 0,.int .i64 0][i]?=some v->w.cell? ⟨Q,i,none⟩=some v:=fun i _ hv=>d0h h i hv
 refine⟨⟨⟨_,c 0 rfl,World.ownsRow_nil _ _ _ _,fun k hk=>by cases hk⟩,⟨_,c 1 rfl,World.ownsRow_nil _ _ _ _,fun k hk=>by cases hk⟩,c 2 rfl,c 3 rfl,fun o=>by simp[World.frozen?,h,zD],by simp,by simp⟩,rfl,fun k hk=>by simp at hk;omega,by simp[st0],by simp[st0],by simp[st0]⟩
section
variable {w0 w w1 w2 w3 w5:World}{B n:Nat}{tg:Nat->Tg}{D:List Dk}{K:List Nat}{v0 v1 r1 r2 r3 v0' v1':Value}{X1 X2 X3:List KL}
theorem BK.set0(h:BK w B v0 v1 K r1 r2 r3 X1 X2 X3)(v:Value):BK (w.setCell ⟨B,0,none⟩ v) B v v1 K r1 r2 r3 X1 X2 X3:=by
 have kd:Off [B] w (w.setCell ⟨B,0,none⟩ v):=Off.set0 ..
 have ne:∀ {t:Nat}{r:Value}{n:Nat}{xs:List Value},w.ownsRow 0 t 5 r n xs->86≠t->∀ b,r.ownBlock=some b->b ∉ [B]:=fun ho ht b hb e=>by
  rw[List.mem_singleton.1 e] at hb;exact c8L ho h.hb ht hb
 exact⟨by rw[d1X h.hb];rfl,h.br.off kd (ne h.br.b1.own (by decide)) (ne h.br.b2.own (by decide)) (ne h.br.b3.own (by decide)) (fun b hb e=>h.bK (List.mem_singleton.1 e ▸ hb)),h.bK⟩
theorem BK.set1(h:BK w B v0 v1 K r1 r2 r3 X1 X2 X3)(v:Value):BK (w.setCell ⟨B,1,none⟩ v) B v0 v K r1 r2 r3 X1 X2 X3:=by
 have kd:Off [B] w (w.setCell ⟨B,1,none⟩ v):=Off.set0 ..
 have ne:∀ {t:Nat}{r:Value}{n:Nat}{xs:List Value},w.ownsRow 0 t 5 r n xs->86≠t->∀ b,r.ownBlock=some b->b ∉ [B]:=fun ho ht b hb e=>by
  rw[List.mem_singleton.1 e] at hb;exact c8L ho h.hb ht hb
 exact⟨by rw[d1X h.hb];rfl,h.br.off kd (ne h.br.b1.own (by decide)) (ne h.br.b2.own (by decide)) (ne h.br.b3.own (by decide)) (fun b hb e=>h.bK (List.mem_singleton.1 e ▸ hb)),h.bK⟩
theorem LX.xB(h:LX w0 w B n tg D K v0 v1 r1 r2 r3 X1 X2 X3):∀ b,v0.ownBlock=some b->b ∉ bkB B r1 r2 r3/\b ∉ K/\v1.ownBlock≠some b/\b≠B:=fun b hb=>by
 have ht:=h.tx b hb;refine⟨fun e=>?_,fun e=>?_,fun e=>?_,fun e=>?_⟩
 ·have:=h.tb b e;rw[ht] at this;cases this
 ·have:=h.tk b e;rw[ht] at this;cases this
 ·have:=h.ty b e;rw[ht] at this;cases this
 ·have:=h.tb b (by rw[e];simp[bkB]);rw[ht] at this;cases this
theorem LX.yB(h:LX w0 w B n tg D K v0 v1 r1 r2 r3 X1 X2 X3):∀ b,v1.ownBlock=some b->b ∉ bkB B r1 r2 r3/\b ∉ K/\v0.ownBlock≠some b/\b≠B:=fun b hb=>by
 have ht:=h.ty b hb;refine⟨fun e=>?_,fun e=>?_,fun e=>?_,fun e=>?_⟩
 ·have:=h.tb b e;rw[ht] at this;cases this
 ·have:=h.tk b e;rw[ht] at this;cases this
 ·have:=h.tx b e;rw[ht] at this;cases this
 ·have:=h.tb b (by rw[e];simp[bkB]);rw[ht] at this;cases this
theorem LX.bt(h:LX w0 w B n tg D K v0 v1 r1 r2 r3 X1 X2 X3):tg B=.bk/\B<w.heap.size:=⟨h.tb B (by simp[bkB]),h.bk.lt B (by simp[bkB])⟩
open Classical in
theorem LX.begin(h:LX w0 w B n tg D K v0 v1 r1 r2 r3 X1 X2 X3)(hD:D.length<3){p:Nat}{col:Nat->Option Col}(bd:BD w1 p d st0 c2z col)(k1:Below w.heap.size w w1)(hc:∀ b,b<w.heap.size->col b=none)(hp:w.heap.size<=p)
  (k2:Off v0.ownBlock.toList w1 w2) (o2:w2.ownsRow 0 30 1 v0' (D.length+1) ((D.map fun k=>Value.pointer (some ⟨k.p,0,none⟩))++[.pointer (some ⟨p,0,none⟩)])) (a2:∀ b,v0'.ownBlock=some b->v0.ownBlock=some b\/w1.heap.size<=b)
  (e3:w3=w2.setCell ⟨B,0,none⟩ v0') (k5:Off v1.ownBlock.toList (w3.alloc zD) w5) (o5:w5.ownsRow 0 102 1 v1' (D.length+1) ((D.map fun k=>Value.pointer (some ⟨k.dd,0,none⟩))++[.pointer (some ⟨w3.heap.size,0,none⟩)])) (a5:∀ b,v1'.ownBlock=some b->v1.ownBlock=some b\/(w3.alloc zD).heap.size<=b):
  LW w0 (w5.setCell ⟨B,1,none⟩ v1') B n:=by
 obtain⟨tB,lB⟩:=h.bt;have s1:=k1.size;have s2:=k2.size;have ks3:Off [B] w2 w3:=by rw[e3];exact Off.set0 ..
 have s3:w3.heap.size=w2.heap.size:=by rw[e3];simp[World.setCell]
 have k4:Below w3.heap.size w3 (w3.alloc zD):=(zr _ _).alloc (zq _) _;have s4:(w3.alloc zD).heap.size=w3.heap.size+1:=by simp
 have s5:=k5.size;have ks6:Off [B] w5 (w5.setCell ⟨B,1,none⟩ v1'):=Off.set0 ..;have s6:=ks6.size;have xlt:∀ b,v0.ownBlock=some b->b<w.heap.size:=fun b hb=>h.ds.lt b (by rw[h.tx b hb];simp)
 have ylt:∀ b,v1.ownBlock=some b->b<w.heap.size:=fun b hb=>h.ds.lt b (by rw[h.ty b hb];simp)
 have plt:p<w1.heap.size:=(Array.getElem?_eq_some_iff.1 bd.pc).1
 have clt:∀ b c,col b=some c->w.heap.size<=b/\b<w1.heap.size:=fun b c hb=>by
  refine⟨?_,?_⟩
  ·rcases Nat.lt_or_ge b w.heap.size with e|e
   ·rw[hc b e] at hb;cases hb
   ·exact e
  ·rcases Nat.lt_or_ge b w1.heap.size with e|e
   ·exact e
   ·rw[bd.ds.dk.none e] at hb;cases hb
 have x'lt:∀ b,v0'.ownBlock=some b->b<w2.heap.size:=fun b hb=>c7O o2 hb
 have y'lt:∀ b,v1'.ownBlock=some b->b<w5.heap.size:=fun b hb=>c7O o5 hb
 -- all that changes
 have kA:Off (B :: (v0.ownBlock.toList++v1.ownBlock.toList)) w1 (w5.setCell ⟨B,1,none⟩ v1'):=by
  refine ((((k2.mono fun x hx=>?_).trans (ks3.mono fun x hx=>?_)).trans (Off.of_below k4)).trans (k5.mono fun x hx=>?_)).trans (ks6.mono fun x hx=>?_)
  ·exact List.mem_cons_of_mem _ (List.mem_append_left _ hx)
  ·rw[List.mem_singleton.1 hx];exact List.mem_cons_self ..
  ·exact List.mem_cons_of_mem _ (List.mem_append_right _ hx)
  ·rw[List.mem_singleton.1 hx];exact List.mem_cons_self ..
 have kW:=(Off.of_below (F:=B :: (v0.ownBlock.toList++v1.ownBlock.toList)) k1).trans kA
 have GT:∀ b∈B :: (v0.ownBlock.toList++v1.ownBlock.toList),(tg b=.bk\/tg b=.xs\/tg b=.ys)/\b<w.heap.size:=fun b hb=>by
  simp only[List.mem_cons,List.mem_append,Option.mem_toList] at hb;rcases hb with rfl|hb|hb
  ·exact⟨.inl tB,lB⟩
  ·exact⟨.inr (.inl (h.tx b hb)),xlt b hb⟩
  ·exact⟨.inr (.inr (h.ty b hb)),ylt b hb⟩
 have GN:∀ b∈B :: (v0.ownBlock.toList++v1.ownBlock.toList),tg b≠.no:=fun b hb=>by
  rcases (GT b hb).1 with e|e|e <;> rw[e] <;> simp
 have G10:∀ b∈B :: (v0.ownBlock.toList++v1.ownBlock.toList),10<=b:=fun b hb=>by
  rcases Nat.lt_or_ge b 10 with e|e
  ·exact (GN b hb (h.ds.gl b e)).elim
  ·exact e
 let tn:Nat->Tg:=fun b=>if tg b≠.no then tg b else if b=w3.heap.size then .dc D.length else if v0'.ownBlock=some b then .xs else if v1'.ownBlock=some b then .ys else if col b≠none\/b=p then .pr D.length else .no
 have tn1:∀ b,tg b≠.no->tn b=tg b:=fun b hb=>if_pos hb
 have tn0:∀ b,w.heap.size<=b->¬ tg b≠.no:=fun b hb e=>by have:=h.ds.lt b e;omega
 have tnd:tn w3.heap.size=.dc D.length:=by
  show (if _ then _ else _)=_;rw[if_neg (tn0 _ (by omega)),if_pos rfl]
 have tnx:∀ b,v0'.ownBlock=some b->tn b=.xs:=fun b hb=>by
  rcases a2 b hb with e|e
  ·rw[tn1 b (by rw[h.tx b e];simp),h.tx b e]
  ·show (if _ then _ else _)=_;rw[if_neg (tn0 _ (by omega)),if_neg (by have:=x'lt b hb;omega),if_pos hb]
 have tny:∀ b,v1'.ownBlock=some b->tn b=.ys:=fun b hb=>by
  rcases a5 b hb with e|e
  ·rw[tn1 b (by rw[h.ty b e];simp),h.ty b e]
  ·show (if _ then _ else _)=_;rw[if_neg (tn0 _ (by omega)),if_neg (by omega),if_neg (fun hx=>by have:=x'lt b hx;omega),if_pos hb]
 have tnp:∀ b,w.heap.size<=b->b<w1.heap.size->(col b≠none\/b=p)->tn b=.pr D.length:=fun b h1 h2 hb=>by
  show (if _ then _ else _)=_;rw[if_neg (tn0 _ h1),if_neg (by omega),if_neg (fun hx=>?_),if_neg (fun hx=>?_),if_pos hb]
  ·rcases a5 b hx with e|e
   ·have:=ylt b e;omega
   ·omega
  ·rcases a2 b hx with e|e
   ·have:=xlt b e;omega
   ·omega
 have tno:∀ b,tn b≠.no->(tg b≠.no\/w.heap.size<=b)/\b<(w5.setCell ⟨B,1,none⟩ v1').heap.size:=fun b hb=>by
  have hb':(if tg b≠.no then tg b else if b=w3.heap.size then Tg.dc D.length else if v0'.ownBlock=some b then Tg.xs else if v1'.ownBlock=some b then Tg.ys else if col b≠none\/b=p then Tg.pr D.length else Tg.no)≠.no:=hb
  by_cases e:tg b≠.no
  ·exact⟨.inl e,by have:=h.ds.lt b e;omega⟩
  rw[if_neg e] at hb'
  by_cases e1:b=w3.heap.size
  ·exact⟨.inr (by omega),by omega⟩
  rw[if_neg e1] at hb'
  by_cases e2:v0'.ownBlock=some b
  ·refine⟨?_,by have:=x'lt b e2;omega⟩;rcases a2 b e2 with q|q
   ·exact .inl (by rw[h.tx b q];simp)
   ·exact .inr (by omega)
  rw[if_neg e2] at hb'
  by_cases e3:v1'.ownBlock=some b
  ·refine⟨?_,by have:=y'lt b e3;omega⟩;rcases a5 b e3 with q|q
   ·exact .inl (by rw[h.ty b q];simp)
   ·exact .inr (by omega)
  rw[if_neg e3] at hb'
  by_cases e4:col b≠none\/b=p
  ·rcases e4 with q|q
   ·cases hcb:col b with
    |none=>exact (q hcb).elim
    |some c=>exact⟨.inr (clt b c hcb).1,by have:=(clt b c hcb).2;omega⟩
   ·exact⟨.inr (by omega),by omega⟩
  ·rw[if_neg e4] at hb';exact (hb' rfl).elim
 have hb0:=h.bl.size
 have lo':∀ b,tn b≠.no->w0.heap.size<=b:=fun b hb=>by
  rcases (tno b hb).1 with e|e
  ·exact h.lo b e
  ·omega
 have gl':∀ b,b<10->tn b=.no:=fun b hb=>by
  rcases Classical.em (tn b=.no) with e|e
  ·exact e
  ·have h1:=lo' b e;have h2:=h.w10;omega
 have ds':f2L (w5.setCell ⟨B,1,none⟩ v1') tn D:=h.ds.off kW (fun b hb=>⟨fun i=>by rcases (GT b hb).1 with e|e|e <;> rw[e] <;> simp,G10 b hb⟩) tn1 (fun b hb=>(tno b hb).2) gl';have bd':BD (w5.setCell ⟨B,1,none⟩ v1') p d st0 c2z col:=bd.off kA (fun b hb=>⟨hc b (GT b hb).2,by have:=(GT b hb).2;omega⟩) ds'.env;have hQ5:w5.heap[w3.heap.size]?=some zD:=(k5.block _ (by omega) (fun e=>by have:=ylt _ (Option.mem_toList.1 e);omega)).trans (a0p w3 _);have hQ:(w5.setCell ⟨B,1,none⟩ v1').heap[w3.heap.size]?=some zD:=(ks6.block _ (by omega) (fun e=>by have:=List.mem_singleton.1 e;omega)).trans hQ5;have b2:BK w2 B v0 v1 K r1 r2 r3 X1 X2 X3:=(h.bk.later k1).off k2 (fun b hb e=>(h.xB b (Option.mem_toList.1 e)).1 hb) (fun b hb e=>(h.xB b (Option.mem_toList.1 e)).2.1 hb);have b3:BK w3 B v0' v1 K r1 r2 r3 X1 X2 X3:=by rw[e3];exact b2.set0 v0'
 have b5:BK w5 B v0' v1 K r1 r2 r3 X1 X2 X3:=(b3.later k4).off k5 (fun b hb e=>(h.yB b (Option.mem_toList.1 e)).1 hb) (fun b hb e=>(h.yB b (Option.mem_toList.1 e)).2.1 hb)
 have nx:∀ b,v0'.ownBlock=some b->b≠B/\v1.ownBlock≠some b:=fun b hb=>by
  rcases a2 b hb with e|e
  ·exact⟨(h.xB b e).2.2.2,(h.xB b e).2.2.1⟩
  ·exact⟨by omega,fun e1=>by have:=ylt b e1;omega⟩
 have ny:∀ b,v1'.ownBlock=some b->b≠B:=fun b hb=>by
  rcases a5 b hb with e|e
  ·exact (h.yB b e).2.2.2
  ·omega
 have xo':(w5.setCell ⟨B,1,none⟩ v1').ownsRow 0 30 1 v0' (D.length+1) ((D.map fun k=>Value.pointer (some ⟨k.p,0,none⟩))++[.pointer (some ⟨p,0,none⟩)]) :=
  a1i (a1i (a1g (a1i o2 ks3 fun b hb e=>(nx b hb).1 (List.mem_singleton.1 e)) k4) k5 fun b hb e=>(nx b hb).2 (Option.mem_toList.1 e)) ks6 fun b hb e=>(nx b hb).1 (List.mem_singleton.1 e)
 have yo':(w5.setCell ⟨B,1,none⟩ v1').ownsRow 0 102 1 v1' (D.length+1) ((D.map fun k=>Value.pointer (some ⟨k.dd,0,none⟩))++[.pointer (some ⟨w3.heap.size,0,none⟩)]) :=
  a1i o5 ks6 fun b hb e=>ny b hb (List.mem_singleton.1 e)
 refine⟨tn,D++[⟨p,d,st0,c2z,col,w3.heap.size,[],[w3.heap.size]⟩],K,v0',v1',r1,r2,r3,X1,X2,X3,⟨⟨fun i k hk=>?_,ds'.env,ds'.lt,ds'.gl⟩,b5.set1 v1',h.len,by simpa using xo',by simpa using yo',fun b hb=>(tn1 b (by rw[h.tb b hb];simp)).trans (h.tb b hb),fun b hb=>(tn1 b (by rw[h.tk b hb];simp)).trans (h.tk b hb),tnx,tny,by simp;omega,h.bl.trans (Below.of_off kW hb0 fun b hb=>h.lo b (GN b hb)),lo',h.w10⟩⟩;rcases Nat.lt_or_ge i D.length with e|e
 ·rw[List.getElem?_append_left e] at hk;exact ds'.at_ i k hk
 ·rw[List.getElem?_append_right e] at hk
  have hi:i-D.length=0:=by
   rcases Nat.eq_zero_or_pos (i-D.length) with q|q
   ·exact q
   ·rw[List.getElem?_eq_none (by simp;omega)] at hk;cases hk
  rw[hi] at hk;have:i=D.length:=by omega
  subst this;simp only[List.getElem?_cons_zero,Option.some.injEq] at hk;subst hk;exact⟨bd',DD.zero hQ,tnp p hp plt (.inr rfl),fun b c hb=>tnp b (clt b c hb).1 (clt b c hb).2 (.inl (fun e=>by rw[show col b=some c from hb] at e;cases e)),fun b hb=>by rw[List.mem_singleton.1 hb];exact tnd,fun x hx=>by cases hx⟩
theorem g3p:(Tryz.prog.info? 30).map (fun i=>(i.zero,i.size,i.bytes))=some (some (.pointer none),1,8):=by kernel_rfl
theorem g3n:(Tryz.prog.info? 102).map (fun i=>(i.zero,i.size,i.bytes))=some (some (.pointer none),1,8):=by kernel_rfl
theorem e0X(h:LW w0 w B n):Calls Tryz.prog 40 #[.pointer (some ⟨B,0,none⟩)] w fun e w'=>e=.returned (.bool true)/\LW w0 w' B n:=by
 obtain⟨i0,hi0,hz0,hz1,hz2⟩:=info_parts g3p;obtain⟨j0,hj0,jz0,jz1,jz2⟩:=info_parts g3n;obtain⟨tg,D,K,v0,v1,r1,r2,r3,X1,X2,X3,hx⟩:=h;have NE:=a0b (f2r w hx.ds.env);obtain⟨a0,c0,rfl⟩:=c9y hx.xo;obtain⟨a1,c1,rfl⟩:=c9y hx.yo;have HX:=a0b hx;clear hx
 go_enter Tryz.func40,Tryz.ntmps40
 go_upto_region 4 with (first|(go_at_call 44;refine NE.out.mono ?_;rintro e w1 ⟨p,d,col,rfl,bd,k1,hc,hp⟩;have H1:=a0b (zA bd (zA k1 (zA hc hp)));clear bd k1 hc hp))
 obtain⟨x0,x1,_,_,_,fz⟩:=(HX.out.bk.later H1.out.2.1).cells
 by_cases hD:D.length<3
 ·have hD':(D.length:Int)<3:=by omega
  have XO:=a0b (a1g HX.out.xo H1.out.2.1);have f0:=fz 0;have hBx:Hid (B ∉ (Value.slice a0 D.length c0).ownBlock.toList):=fun e=>(HX.out.xB B (Option.mem_toList.1 e)).2.2.2 rfl
  have hBy:Hid (B ∉ (Value.slice a1 D.length c1).ownBlock.toList):=fun e=>(HX.out.yB B (Option.mem_toList.1 e)).2.2.2 rfl
  have LB:Hid (B<w1.heap.size):=World.block_lt_of_cell? _ _ x0
  go_upto_region 6 with (first|(at_builtin;go_loud (refine f0o rfl _ _ 78 rfl 1 8 Tryz.underlying78 hi0 hz0 hz1 hz2 (by decide) rfl (by decide) XO.out (cs:=#[.pointer (some ⟨p,0,none⟩)]) rfl (by simp[Value.oneCell']) rfl rfl (by omega) (zN _) ?_);intro g2 c2 w2 o2 k2 a2;have y0:=k2.cell hBx.out x0;have z0:=(k2.frozen hBx.out LB.out).trans f0;have y1:=k2.cell hBx.out x1;have z1:=(k2.frozen (o:=1) hBx.out LB.out).trans (fz 1)))
  have K2:=a0b (zA k2 (zA o2 a2))
  have q1:(w2.setCell ⟨B,0,none⟩ (.slice (some ⟨g2,0,none⟩) (D.length+1) c2)).cell? ⟨B,1,none⟩=some (.slice a1 D.length c1):=by
   rw[World.cell?_setCell_other _ _ _ _ (by simp)];exact y1
  have z3:(w2.setCell ⟨B,0,none⟩ (.slice (some ⟨g2,0,none⟩) (D.length+1) c2)).frozen? ⟨B,1,none⟩=false:=by
   rw[World.frozen?_setCell];exact z1
  clear k2 o2 a2 x0 x1 y0 y1 z0 z1 f0;have hw3:Hid (∃ w3,w3=w2.setCell ⟨B,0,none⟩ (.slice (some ⟨g2,0,none⟩) (D.length+1) c2)):=⟨_,rfl⟩
  have YO:Hid (((w2.setCell ⟨B,0,none⟩ (.slice (some ⟨g2,0,none⟩) (D.length+1) c2)).alloc zD).ownsRow 0 102 1 (.slice a1 D.length c1) D.length (D.map fun k=>Value.pointer (some ⟨k.dd,0,none⟩))) :=
   (a1i (a1i (a1g HX.out.yo H1.out.2.1) K2.out.1 fun b hb e=>(HX.out.yB b hb).2.2.1 (Option.mem_toList.1 e)) (Off.set0 B w2 0 _) fun b hb e=>(HX.out.yB b hb).2.2.2 (List.mem_singleton.1 e)).alloc _
  have FIN:Hid (∀ v1' w5,Off (Value.slice a1 D.length c1).ownBlock.toList ((w2.setCell ⟨B,0,none⟩ (.slice (some ⟨g2,0,none⟩) (D.length+1) c2)).alloc zD) w5->w5.ownsRow 0 102 1 v1' (D.length+1) ((D.map fun k=>Value.pointer (some ⟨k.dd,0,none⟩))++[.pointer (some ⟨(w2.setCell ⟨B,0,none⟩ (.slice (some ⟨g2,0,none⟩) (D.length+1) c2)).heap.size,0,none⟩)])->(∀ b,v1'.ownBlock=some b->(Value.slice a1 D.length c1).ownBlock=some b\/((w2.setCell ⟨B,0,none⟩ (.slice (some ⟨g2,0,none⟩) (D.length+1) c2)).alloc zD).heap.size<=b)->LW w0 (w5.setCell ⟨B,1,none⟩ v1') B n):=fun v1' w5 k5 o5 a5 =>
   HX.out.begin hD H1.out.1 H1.out.2.1 H1.out.2.2.1 H1.out.2.2.2 K2.out.1 K2.out.2.1 (fun b hb=>by simp[Value.ownBlock] at hb;subst hb;exact K2.out.2.2) rfl k5 o5 a5
  clear hw3;have q1A:((w2.setCell ⟨B,0,none⟩ (.slice (some ⟨g2,0,none⟩) (D.length+1) c2)).alloc zD).cell? ⟨B,1,none⟩=some (.slice a1 D.length c1):=a0a ((zr _ _).alloc (zq _) _) q1
  have z3A:((w2.setCell ⟨B,0,none⟩ (.slice (some ⟨g2,0,none⟩) (D.length+1) c2)).alloc zD).frozen? ⟨B,1,none⟩=false:=by
   have e:=((zr (w2.setCell ⟨B,0,none⟩ (.slice (some ⟨g2,0,none⟩) (D.length+1) c2)).heap.size _).alloc (zq _) zD).block B (World.block_lt_of_cell? _ _ q1);simp only[World.frozen?,e] at z3 ⊢;exact z3
  generalize w2.setCell ⟨B,0,none⟩ (.slice (some ⟨g2,0,none⟩) (D.length+1) c2)=w3 at *;clear K2 XO H1 NE LB hBx fz;have hBA:Hid (B<(w3.alloc zD).heap.size):=World.block_lt_of_cell? _ _ q1A
  go_upto_region 7 with (first|(at_builtin;go_loud (refine f0o (W:=w3.alloc zD) rfl _ _ 79 rfl 1 8 Tryz.underlying79 hj0 jz0 jz1 jz2 (by decide) rfl (by decide) YO.out (cs:=#[.pointer (some ⟨w3.heap.size,0,none⟩)]) rfl (by simp[Value.oneCell']) rfl (by simp[Act.eval]) (by omega) (zN _) ?_);intro g5 c5 w5 o5 k5 a5;have y1:=k5.cell hBy.out q1A;have z1:=(k5.frozen hBy.out hBA.out).trans z3A))
  have HF:=a0b (FIN.out _ _ k5 o5 (fun b hb=>by simp[Value.ownBlock] at hb;subst hb;exact a5));clear k5 o5 a5 y1 z1 FIN YO
  go_wp2_with fail
  go_ret;exact⟨rfl,HF.out⟩
 ·have hD':¬ (D.length:Int)<3:=by omega
  go_wp2_with fail
  go_ret;exact⟨rfl,_,_,_,_,_,_,_,_,_,_,_,HX.out.later H1.out.2.1⟩
end
variable {w w1 w2:World}{B:Nat}{v0 v1 r1 r2 r3:Value}{K:List Nat}{X1 X2 X3:List KL}
theorem g4m{X:List KL}(hk:k<X.length)(o:Nat)(ho:o<5):(X.flatMap klV)[k*5+o]?=(klV X[k])[o]?:=by
 induction X generalizing k with
 |nil=>simp at hk
 |cons a r ih =>
  cases k with
  |zero=>rw[List.flatMap_cons,Nat.zero_mul,Nat.zero_add,List.getElem?_append_left (by simpa[klV] using ho)];rfl
  |succ k =>
   have:=ih (k:=k) (by simpa using hk);rw[List.flatMap_cons,List.getElem?_append_right (by simp[klV];omega)];simp only[klV,List.length_cons,List.length_nil,List.getElem_cons_succ] at this ⊢;rw[<- this]
   congr 1
   omega
theorem e7E.look{P:Int->List Value}{t:TypeId}{r:Value}{X:List KL}(h:e7E P t K w r X)(hk:k<X.length):∃ (g cap:Nat)(a1 a2 a3 a4:Option Addr)(j c1 c2 c3 c4:Nat)(m:Int),r=.slice (some ⟨g,0,none⟩) X.length cap/\w.cell? ⟨g,k*5,none⟩=some (.slice a1 j c1)/\w.cell? ⟨g,k*5+1,none⟩=some (.slice a2 (j+1) c2)/\w.cell? ⟨g,k*5+2,none⟩=some (.slice a3 (j+2) c3)/\w.cell? ⟨g,k*5+3,none⟩=some (.slice a4 (j+3) c4)/\w.cell? ⟨g,k*5+4,none⟩=some (.int .i64 m) /\
  j<=900000/\Fu (P m) w (.slice a1 j c1) j/\Fu (P m) w (.slice a2 (j+1) c2) (j+1)/\Fu (P m) w (.slice a3 (j+2) c3) (j+2)/\Fu (P m) w (.slice a4 (j+3) c4) (j+3):=by
 obtain⟨j,hj,f1,f2,f3,f4⟩:=h.four _ (zg hk);obtain⟨a1,c1,e1⟩:=f1.form;obtain⟨a2,c2,e2⟩:=f2.form;obtain⟨a3,c3,e3⟩:=f3.form;obtain⟨a4,c4,e4⟩:=f4.form
 have c:∀ o v,o<5->(klV X[k])[o]?=some v->∃ g cap,r=.slice (some ⟨g,0,none⟩) X.length cap/\w.cell? ⟨g,k*5+o,none⟩=some v:=fun o v ho hv=>by
  have hc:=(g4m hk o ho).trans hv;rcases h.own.2 with ⟨rfl,hn⟩|⟨g,cap,cur,rfl,_,hh,_⟩
  ·omega
  ·exact⟨g,cap,rfl,(f6U g (k*5+o)) ▸ h.own.cells (g:=g) rfl _ v hc⟩
 obtain⟨g,cap,rfl,y0⟩:=c 0 _ (by decide) rfl
 have c':∀ o v,o<5->(klV X[k])[o]?=some v->w.cell? ⟨g,k*5+o,none⟩=some v:=fun o v ho hv=>by
  obtain⟨g',cap',e,y⟩:=c o v ho hv;simp only[Value.slice.injEq,Option.some.injEq,Addr.mk.injEq,and_true,true_and] at e;obtain⟨rfl,rfl⟩:=e;exact y
 have y1:=c' 1 _ (by decide) rfl;have y2:=c' 2 _ (by decide) rfl;have y3:=c' 3 _ (by decide) rfl;have y4:=c' 4 _ (by decide) rfl;rw[Nat.add_zero] at y0;rw[e1] at y0 f1;rw[e2] at y1 f2;rw[e3] at y2 f3;rw[e4] at y3 f4;exact⟨g,cap,a1,a2,a3,a4,j,c1,c2,c3,c4,_,rfl,y0,y1,y2,y3,y4,hj,f1,f2,f3,f4⟩
def bx5(t:TypeId)(a b c d e:Value):Obj:=.cells #[a,b,c,d,e] t
theorem f5k(h:BK w B v0 v1 K r1 r2 r3 X1 X2 X3)(hm:X1.length+X2.length+X3.length<=1000000000):
  Calls Tryz.prog 42 #[.pointer (some ⟨B,2,none⟩)] w fun e w'=>e=.returned (.bool true)/\Below w.heap.size w w':=by
 have HB:=a0b h;obtain⟨⟨p1,s1,e1⟩,⟨p2,s2,e2⟩,p3,s3,e3⟩:=h.forms;subst e1 e2 e3;clear h
 go_enter Tryz.func42,Tryz.ntmps42
 go_wp2_with fail
 have HW1:Hid (Below w.heap.size w w):=zr _ _
 go_loopw [3] (fun v wr=>∃ k:Nat,k<=X1.length/\v=.int .i64 k/\Below w.heap.size w wr) (fun v _=>X1.length-(intOf v).toNat)
 case atStart=>exact⟨0,Nat.zero_le _,rfl,HW1.out⟩
 case round =>
  obtain⟨k,hk,rfl,hbl⟩:=hrel;have HR:=a0b hbl;have hBr:=HB.out.later hbl;obtain⟨_,_,d2,d3,d4,_⟩:=hBr.cells;clear hbl
  by_cases hlt:k<X1.length
  ·have hlt':(k:Int)<(X1.length:Int):=by omega
   obtain⟨g,cap,a1,a2,a3,a4,j,c1,c2,c3,c4,m,e,y0,y1,y2,y3,y4,hj,f1,f2,f3,f4⟩:=hBr.br.b1.look hlt;simp only[Value.slice.injEq,true_and] at e;obtain⟨rfl,rfl⟩:=e;have FF:=a0b (fun W (kW:Below wr.heap.size wr W)=>zA (d2d j m _ W (f1.later kW).nv (by omega)) (zA (d2d (j+1) m _ W (f2.later kW).nv (by omega)) (zA (d2d (j+2) m _ W (f3.later kW).nv (by omega)) (d2d (j+3) m _ W (f4.later kW).nv (by omega)))));clear f1 f2 f3 f4 hBr
   go_upto_region 5 with fail
   change Code.wp _ _ _ _ (wr.alloc (bx5 tI (.slice a1 j c1) (.slice a2 (j+1) c2) (.slice a3 (j+2) c3) (.slice a4 (j+3) c4) (.int .i64 m)));have BX:=a0b (zA ((zr _ wr).alloc (zq _) (bx5 tI (.slice a1 j c1) (.slice a2 (j+1) c2) (.slice a3 (j+2) c3) (.slice a4 (j+3) c4) (.int .i64 m))) (a0p wr (bx5 tI (.slice a1 j c1) (.slice a2 (j+1) c2) (.slice a3 (j+2) c3) (.slice a4 (j+3) c4) (.int .i64 m))));generalize wr.alloc (bx5 tI (.slice a1 j c1) (.slice a2 (j+1) c2) (.slice a3 (j+2) c3) (.slice a4 (j+3) c4) (.int .i64 m))=Z0 at BX ⊢
   have CL:Hid (∀ W,Below Z0.heap.size Z0 W->W.cell? ⟨wr.heap.size,0,none⟩=some (.slice a1 j c1)/\W.cell? ⟨wr.heap.size,1,none⟩=some (.slice a2 (j+1) c2)/\W.cell? ⟨wr.heap.size,2,none⟩=some (.slice a3 (j+2) c3)/\W.cell? ⟨wr.heap.size,3,none⟩=some (.slice a4 (j+3) c4)/\W.cell? ⟨wr.heap.size,4,none⟩=some (.int .i64 m)):=fun W kW=>by
    have hb:=(kW.block _ (Array.getElem?_eq_some_iff.1 BX.out.2).1).trans BX.out.2;exact⟨d0h hb 0 rfl,d0h hb 1 rfl,d0h hb 2 rfl,d0h hb 3 rfl,d0h hb 4 rfl⟩
   clear y0 y1 y2 y3 y4 d2 d3 d4;obtain⟨x0,_,_,_,x4⟩:=CL.out _ (zr _ _)
   go_upto_region 6 with (first|(go_at_call 56;refine (FF.out _ BX.out.1).1.mono ?_;rintro e w1 ⟨rfl,h1⟩;have B1:=a0b h1;clear h1))
   clear x0 x4;obtain⟨_,x1,_,_,x4⟩:=CL.out _ B1.out
   go_upto_region 7 with (first|(go_at_call 56;refine (FF.out _ (a0j BX.out.1 B1.out (zq _))).2.1.mono ?_;rintro e w2 ⟨rfl,h2⟩;have B2:=a0b (a0j B1.out h2 (zq _));clear h2))
   clear x1 x4;obtain⟨_,_,x2,_,x4⟩:=CL.out _ B2.out
   go_upto_region 8 with (first|(go_at_call 56;refine (FF.out _ (a0j BX.out.1 B2.out (zq _))).2.2.1.mono ?_;rintro e w3 ⟨rfl,h3⟩;have B3:=a0b (a0j B2.out h3 (zq _));clear h3))
   clear x2 x4;obtain⟨_,_,_,x3,x4⟩:=CL.out _ B3.out
   go_upto_region 9 with (first|(go_at_call 56;refine (FF.out _ (a0j BX.out.1 B3.out (zq _))).2.2.2.mono ?_;rintro e w4 ⟨rfl,h4⟩;have B4:=a0b (a0j B3.out h4 (zq _));clear h4))
   go_wp2_with fail
   go_roundw
   case rel=>exact⟨k+1,by omega,by go_num,a0j HR.out (a0j BX.out.1 B4.out (zq _)) (zq _)⟩
   case measure=>simp[intOf];omega
  ·have hlt':¬ (k:Int)<(X1.length:Int):=by omega
   clear hBr
   go_wp2_with fail
   have HW2:=a0b HR.out;clear d2 d3 d4 hlt hlt' hk HR
   go_loopw [9] (fun v wr=>∃ k:Nat,k<=X2.length/\v=.int .i64 k/\Below w.heap.size w wr) (fun v _=>X2.length-(intOf v).toNat)
   case atStart=>exact⟨0,Nat.zero_le _,rfl,HW2.out⟩
   case round =>
    obtain⟨k,hk,rfl,hbl⟩:=hrel;have HR:=a0b hbl;have hBr:=HB.out.later hbl;obtain⟨_,_,d2,d3,d4,_⟩:=hBr.cells;clear hbl
    by_cases hlt:k<X2.length
    ·have hlt':(k:Int)<(X2.length:Int):=by omega
     obtain⟨g,cap,a1,a2,a3,a4,j,c1,c2,c3,c4,m,e,y0,y1,y2,y3,y4,hj,f1,f2,f3,f4⟩:=hBr.br.b2.look hlt;simp only[Value.slice.injEq,true_and] at e;obtain⟨rfl,rfl⟩:=e;have FF:=a0b (fun W (kW:Below wr.heap.size wr W)=>zA (d1s j m _ W (f1.later kW).sv (by omega)) (zA (d1s (j+1) m _ W (f2.later kW).sv (by omega)) (zA (d1s (j+2) m _ W (f3.later kW).sv (by omega)) (d1s (j+3) m _ W (f4.later kW).sv (by omega)))));clear f1 f2 f3 f4 hBr
     go_upto_region 15 with fail
     change Code.wp _ _ _ _ (wr.alloc (bx5 tS (.slice a1 j c1) (.slice a2 (j+1) c2) (.slice a3 (j+2) c3) (.slice a4 (j+3) c4) (.int .i64 m)));have BX:=a0b (zA ((zr _ wr).alloc (zq _) (bx5 tS (.slice a1 j c1) (.slice a2 (j+1) c2) (.slice a3 (j+2) c3) (.slice a4 (j+3) c4) (.int .i64 m))) (a0p wr (bx5 tS (.slice a1 j c1) (.slice a2 (j+1) c2) (.slice a3 (j+2) c3) (.slice a4 (j+3) c4) (.int .i64 m))));generalize wr.alloc (bx5 tS (.slice a1 j c1) (.slice a2 (j+1) c2) (.slice a3 (j+2) c3) (.slice a4 (j+3) c4) (.int .i64 m))=Z0 at BX ⊢
     have CL:Hid (∀ W,Below Z0.heap.size Z0 W->W.cell? ⟨wr.heap.size,0,none⟩=some (.slice a1 j c1)/\W.cell? ⟨wr.heap.size,1,none⟩=some (.slice a2 (j+1) c2)/\W.cell? ⟨wr.heap.size,2,none⟩=some (.slice a3 (j+2) c3)/\W.cell? ⟨wr.heap.size,3,none⟩=some (.slice a4 (j+3) c4)/\W.cell? ⟨wr.heap.size,4,none⟩=some (.int .i64 m)):=fun W kW=>by
      have hb:=(kW.block _ (Array.getElem?_eq_some_iff.1 BX.out.2).1).trans BX.out.2;exact⟨d0h hb 0 rfl,d0h hb 1 rfl,d0h hb 2 rfl,d0h hb 3 rfl,d0h hb 4 rfl⟩
     clear y0 y1 y2 y3 y4 d2 d3 d4;obtain⟨x0,_,_,_,x4⟩:=CL.out _ (zr _ _)
     go_upto_region 16 with (first|(go_at_call 57;refine (FF.out _ BX.out.1).1.mono ?_;rintro e w1 ⟨rfl,h1⟩;have B1:=a0b h1;clear h1))
     clear x0 x4;obtain⟨_,x1,_,_,x4⟩:=CL.out _ B1.out
     go_upto_region 17 with (first|(go_at_call 57;refine (FF.out _ (a0j BX.out.1 B1.out (zq _))).2.1.mono ?_;rintro e w2 ⟨rfl,h2⟩;have B2:=a0b (a0j B1.out h2 (zq _));clear h2))
     clear x1 x4;obtain⟨_,_,x2,_,x4⟩:=CL.out _ B2.out
     go_upto_region 18 with (first|(go_at_call 57;refine (FF.out _ (a0j BX.out.1 B2.out (zq _))).2.2.1.mono ?_;rintro e w3 ⟨rfl,h3⟩;have B3:=a0b (a0j B2.out h3 (zq _));clear h3))
     clear x2 x4;obtain⟨_,_,_,x3,x4⟩:=CL.out _ B3.out
     go_upto_region 19 with (first|(go_at_call 57;refine (FF.out _ (a0j BX.out.1 B3.out (zq _))).2.2.2.mono ?_;rintro e w4 ⟨rfl,h4⟩;have B4:=a0b (a0j B3.out h4 (zq _));clear h4))
     go_wp2_with fail
     go_roundw
     case rel=>exact⟨k+1,by omega,by go_num,a0j HR.out (a0j BX.out.1 B4.out (zq _)) (zq _)⟩
     case measure=>simp[intOf];omega
    ·have hlt':¬ (k:Int)<(X2.length:Int):=by omega
     clear hBr
     go_wp2_with fail
     have HW3:=a0b HR.out;clear d2 d3 d4 hlt hlt' hk HR
     go_loopw [15] (fun v wr=>∃ k:Nat,k<=X3.length/\v=.int .i64 k/\Below w.heap.size w wr) (fun v _=>X3.length-(intOf v).toNat)
     case atStart=>exact⟨0,Nat.zero_le _,rfl,HW3.out⟩
     case round =>
      obtain⟨k,hk,rfl,hbl⟩:=hrel;have HR:=a0b hbl;have hBr:=HB.out.later hbl;obtain⟨_,_,d2,d3,d4,_⟩:=hBr.cells;clear hbl
      by_cases hlt:k<X3.length
      ·have hlt':(k:Int)<(X3.length:Int):=by omega
       obtain⟨g,cap,a1,a2,a3,a4,j,c1,c2,c3,c4,m,e,y0,y1,y2,y3,y4,hj,f1,f2,f3,f4⟩:=hBr.br.b3.look hlt;simp only[Value.slice.injEq,true_and] at e;obtain⟨rfl,rfl⟩:=e;have FF:=a0b (fun W (kW:Below wr.heap.size wr W)=>zA (d0B j m _ W (f1.later kW).ev (by omega)) (zA (d0B (j+1) m _ W (f2.later kW).ev (by omega)) (zA (d0B (j+2) m _ W (f3.later kW).ev (by omega)) (d0B (j+3) m _ W (f4.later kW).ev (by omega)))));clear f1 f2 f3 f4 hBr
       go_upto_region 25 with fail
       change Code.wp _ _ _ _ (wr.alloc (bx5 tE (.slice a1 j c1) (.slice a2 (j+1) c2) (.slice a3 (j+2) c3) (.slice a4 (j+3) c4) (.int .i64 m)));have BX:=a0b (zA ((zr _ wr).alloc (zq _) (bx5 tE (.slice a1 j c1) (.slice a2 (j+1) c2) (.slice a3 (j+2) c3) (.slice a4 (j+3) c4) (.int .i64 m))) (a0p wr (bx5 tE (.slice a1 j c1) (.slice a2 (j+1) c2) (.slice a3 (j+2) c3) (.slice a4 (j+3) c4) (.int .i64 m))));generalize wr.alloc (bx5 tE (.slice a1 j c1) (.slice a2 (j+1) c2) (.slice a3 (j+2) c3) (.slice a4 (j+3) c4) (.int .i64 m))=Z0 at BX ⊢
       have CL:Hid (∀ W,Below Z0.heap.size Z0 W->W.cell? ⟨wr.heap.size,0,none⟩=some (.slice a1 j c1)/\W.cell? ⟨wr.heap.size,1,none⟩=some (.slice a2 (j+1) c2)/\W.cell? ⟨wr.heap.size,2,none⟩=some (.slice a3 (j+2) c3)/\W.cell? ⟨wr.heap.size,3,none⟩=some (.slice a4 (j+3) c4)/\W.cell? ⟨wr.heap.size,4,none⟩=some (.int .i64 m)):=fun W kW=>by
        have hb:=(kW.block _ (Array.getElem?_eq_some_iff.1 BX.out.2).1).trans BX.out.2;exact⟨d0h hb 0 rfl,d0h hb 1 rfl,d0h hb 2 rfl,d0h hb 3 rfl,d0h hb 4 rfl⟩
       clear y0 y1 y2 y3 y4 d2 d3 d4;obtain⟨x0,_,_,_,x4⟩:=CL.out _ (zr _ _)
       go_upto_region 26 with (first|(go_at_call 58;refine (FF.out _ BX.out.1).1.mono ?_;rintro e w1 ⟨rfl,h1⟩;have B1:=a0b h1;clear h1))
       clear x0 x4;obtain⟨_,x1,_,_,x4⟩:=CL.out _ B1.out
       go_upto_region 27 with (first|(go_at_call 58;refine (FF.out _ (a0j BX.out.1 B1.out (zq _))).2.1.mono ?_;rintro e w2 ⟨rfl,h2⟩;have B2:=a0b (a0j B1.out h2 (zq _));clear h2))
       clear x1 x4;obtain⟨_,_,x2,_,x4⟩:=CL.out _ B2.out
       go_upto_region 28 with (first|(go_at_call 58;refine (FF.out _ (a0j BX.out.1 B2.out (zq _))).2.2.1.mono ?_;rintro e w3 ⟨rfl,h3⟩;have B3:=a0b (a0j B2.out h3 (zq _));clear h3))
       clear x2 x4;obtain⟨_,_,_,x3,x4⟩:=CL.out _ B3.out
       go_upto_region 29 with (first|(go_at_call 58;refine (FF.out _ (a0j BX.out.1 B3.out (zq _))).2.2.2.mono ?_;rintro e w4 ⟨rfl,h4⟩;have B4:=a0b (a0j B3.out h4 (zq _));clear h4))
       go_wp2_with fail
       go_roundw
       case rel=>exact⟨k+1,by omega,by go_num,a0j HR.out (a0j BX.out.1 B4.out (zq _)) (zq _)⟩
       case measure=>simp[intOf];omega
      ·have hlt':¬ (k:Int)<(X3.length:Int):=by omega
       clear hBr
       go_wp2_with fail
       go_ret;exact⟨rfl,HR.out⟩
theorem f0x(s:ByteArray)(w:World)(hs:s.size<=2000000):
  Calls Tryz.prog 59 #[.string s] w fun e w'=>∃ v,e=.returned v/\w'.ownsRow w.heap.size 9 1 v (Txt.a1v s).length ((Txt.a1v s).map Value.string)/\Below w.heap.size w w':=by
 obtain⟨i0,hi,hz0,hz1,hz2⟩:=info_parts e4B
 go_enter Tryz.func59,Tryz.ntmps59
 go_wp2
 go_loopw [3,4,5] (fun v c i wr=>∃ k:Nat,k<=s.size/\i=.int .i64 k/\c=.string (Txt.a8z s k)/\wr.ownsRow w.heap.size 9 1 v (Txt.b7w s k).length ((Txt.b7w s k).map Value.string)/\Below w.heap.size w wr) (fun _ _ i _=>s.size-(intOf i).toNat)
 case atStart=>exact⟨0,Nat.zero_le _,rfl,rfl,World.ownsRow_nil _ _ _ _,Below.refl _ _⟩
 case round =>
  obtain⟨k,hk,rfl,rfl,hown,hnx⟩:=hrel;have cz:=Txt.b7k s k
  by_cases hlt:k<s.size
  ·by_cases hb:Txt.a0V s k=32
   ·have hb':((s[k].toNat:Int)==32)=true:=beq_iff_eq.2 (by rw[<- Txt.a2W];exact hb);have HB:=hide (Txt.b3O s k hk hb);clear hb
    cases he:(Txt.a8z s k).toList.isEmpty
    ·have HE:Hid ((Txt.a8z s k).size≠0):=(d1p he);have hal:=Txt.b5J s k
     go_wp2_with (first
      |(at_builtin;refine wpList_append_own _ rfl _ _ 26 rfl w.heap.size 9 i0 (.string ⟨#[]⟩) 1 16 Tryz.underlying26 hi hz0 hz1 hz2 rfl (by decide) _ _ _ rfl (hown.alloc _) ⟨wr.heap.size,0,none⟩ 1 1 [.string (Txt.a8z s k)] rfl rfl ?c1 ?c2 ?c3 ?c4 ?c5 ?_)
      |go_in)
     case c1=>exact cell_one_new _ _ _
     case c2=>intro u hu;simp at hu;subst hu;rfl
     case c3=>unfold maxLen;omega
     case c4=>omega
     case c5=>have:=hnx.size;simp;omega
     intro v' w1 hown' hgrow _;go_wp2;refine⟨⟨k+1,by omega,by go_num,by rw[(a0d HB).1],?_,?_⟩,by simp[intOf];omega⟩
     ·rw[(a0d HB).2,if_neg HE.out,List.map_append,List.length_append];exact hown'
     ·refine (hnx.alloc hnx.size _).grown hgrow (by have:=hnx.size;simp;omega) (fun k hk=>?_);exact d0U hown hk
    ·have HE:Hid ((Txt.a8z s k).size=0):=(d4z he);go_wp2;exact⟨⟨k+1,by omega,by go_num,by rw[(a0d HB).1],by rw[(a0d HB).2,if_pos HE.out,List.append_nil];exact hown,hnx⟩,by simp[intOf];omega⟩
   ·have hb':((s[k].toNat:Int)==32)=false:=beq_eq_false_iff_ne.2 (by rw[<- Txt.a2W];exact hb);have HB:=hide (Txt.b7l s k hb);clear hb;go_wp2;exact⟨⟨k+1,by omega,by go_num,by rw[(a0d HB).1],by rw[(a0d HB).2];exact hown,hnx⟩,by simp[intOf];omega⟩
  ·obtain rfl:k=s.size:=by omega
   have HW:=hide (Txt.b2t s)
   cases he:(Txt.a8z s s.size).toList.isEmpty
   ·have HE:Hid ((Txt.a8z s s.size).size≠0):=(d1p he);have hal:=Txt.b5J s s.size
    go_wp2_with (first
     |(at_builtin;refine wpList_append_own _ rfl _ _ 26 rfl w.heap.size 9 i0 (.string ⟨#[]⟩) 1 16 Tryz.underlying26 hi hz0 hz1 hz2 rfl (by decide) _ _ _ rfl (hown.alloc _) ⟨wr.heap.size,0,none⟩ 1 1 [.string (Txt.a8z s s.size)] rfl rfl ?c1 ?c2 ?c3 ?c4 ?c5 ?_)
     |go_in)
    case c1=>exact cell_one_new _ _ _
    case c2=>intro u hu;simp at hu;subst hu;rfl
    case c3=>unfold maxLen;omega
    case c4=>omega
    case c5=>have:=hnx.size;simp;omega
    intro v' w1 hown' hgrow _;go_wp2;go_ret;refine⟨v',rfl,?_,?_⟩
    ·rw[a0d HW,if_neg HE.out,List.map_append,List.length_append];exact hown'
    ·refine (hnx.alloc hnx.size _).grown hgrow (by have:=hnx.size;simp;omega) (fun k hk=>?_);exact d0U hown hk
   ·have HE:Hid ((Txt.a8z s s.size).size=0):=(d4z he);go_wp2;go_ret;exact⟨_,rfl,by rw[a0d HW,if_pos HE.out,List.append_nil];exact hown,hnx⟩
def d9x(w:World)(g:Nat)(L:List ByteArray):Prop:=∀ (j:Nat)(hj:j<L.length),w.cell? ⟨g,j,none⟩=some (.string L[j])
theorem d9x.later(h:d9x w g L)(k:Below w.heap.size w w'):d9x w' g L:=fun j hj=>a0a k (h j hj)
def g4A(s:ByteArray)(L:List ByteArray)(w:World)(e:Ending)(w':World):Prop:=∃ b,e=.returned (.bool b)/\(b=true->∃ k∈L,isB (Txt.a1v s) 0 false k=true)/\Below w.heap.size w w'
theorem e4v(s:ByteArray)(w:World)(hs:s.size<=2000000)(hL:d9x w g L)(hl:L.length<=100):
  Calls Tryz.prog 43 #[.string s,.slice (some ⟨g,0,none⟩) L.length c] w (g4A s L w):=by
 have HW:=a0b (f0x s w hs);have HL:=a0b hL;clear hL
 go_enter Tryz.func43,Tryz.ntmps43
 go_wp2_with (first|(go_at_call 59;refine HW.out.mono ?_;rintro e w1 ⟨v,rfl,ho,hb⟩;have HO:=a0b (zA ho hb);obtain⟨va,vc,rfl⟩:=c9y ho;clear ho hb))
 have HL1:=a0b (HL.out.later HO.out.2)
 go_loopw [6] (fun v wr=>∃ k:Nat,k<=L.length/\v=.int .i64 k/\wr.heap=w1.heap/\Below w.heap.size w wr) (fun v _=>L.length-(intOf v).toNat)
 case atStart=>exact⟨0,Nat.zero_le _,rfl,rfl,HO.out.2⟩
 case round =>
  obtain⟨k,hk,rfl,hh,hbl⟩:=hrel;have HB:=a0b hbl;clear hbl
  by_cases hlt:k<L.length
  ·have hlt':(k:Int)<(L.length:Int):=by omega
   by_cases h0:0<(Txt.a1v s).length
   ·have h0':(0:Int)<((Txt.a1v s).length:Int):=by omega
    obtain⟨g1,c1,e1,y1⟩:=e4k HO.out.1 (k:=0) (u:=.string ((Txt.a1v s).getD 0 ByteArray.empty)) (by
     rw[List.getElem?_map,List.getD_eq_getElem?_getD,List.getElem?_eq_getElem h0];rfl)
    simp only[Value.slice.injEq,true_and] at e1;obtain⟨rfl,rfl⟩:=e1;have y1':wr.cell? ⟨g1,0,none⟩=some (.string ((Txt.a1v s).getD 0 ByteArray.empty)):=by rw[<- y1];simp only[World.cell?,hh]
    have y2:wr.cell? ⟨g,k,none⟩=some (.string L[k]):=by rw[<- HL1.out k hlt];simp only[World.cell?,hh]
    clear y1;obtain⟨x,hx⟩:∃ x,(Txt.a1v s).getD 0 ByteArray.empty=x:=⟨_,rfl⟩;obtain⟨z,hz⟩:∃ z,L[k]=z:=⟨_,rfl⟩;rw[hx] at y1';rw[hz] at y2;have HZ:Hid (z∈L/\((x.toList==z.toList)=true->isB (Txt.a1v s) 0 false z=true)):=⟨hz ▸ zg hlt,fun hq=>by simp only[isB,a1b,hx,hq];simp[h0]⟩;clear hx hz
    cases hq:x.toList==z.toList
    ·go_upto_region 5 with fail
     go_quiet (fail)
     go_wp2_with fail
     exact⟨⟨k+1,by omega,by go_num,hh,d7M HB.out _⟩,by simp[intOf];omega⟩
    ·have HI:=a0b (HZ.out.2 hq)
     go_upto_region 5 with fail
     go_quiet (fail)
     go_wp2_with fail
     go_ret;exact⟨true,rfl,fun _=>⟨z,HZ.out.1,HI.out⟩,d7M HB.out _⟩
   ·have h0':¬ (0:Int)<((Txt.a1v s).length:Int):=by omega
    go_wp2_with fail
    go_ret;exact⟨false,rfl,by simp,HB.out⟩
  ·have hlt':¬ (k:Int)<(L.length:Int):=by omega
   go_wp2_with fail
   go_ret;exact⟨false,rfl,by simp,HB.out⟩
structure OpX where
 k:Int
 a:Int
 y:Int
 m:Int
 d:Int
 s:ByteArray
def opC(x:OpX):List Value:=[.int .i64 x.k,.int .i64 x.a,.int .i64 x.y,.int .i64 x.m,.int .i64 x.d,.string x.s]
structure g4K(x:OpX):Prop where
 a1:-9223372036854775808<=x.a
 a2:x.a<=9223372036854775807
 sz:x.s.size<=2000000
def g2D(w:World)(b o:Nat)(x:OpX):Prop:=w.cell? ⟨b,o,none⟩=some (.int .i64 x.k)/\w.cell? ⟨b,o+1,none⟩=some (.int .i64 x.a)/\w.cell? ⟨b,o+2,none⟩=some (.int .i64 x.y)/\w.cell? ⟨b,o+3,none⟩=some (.int .i64 x.m)/\w.cell? ⟨b,o+4,none⟩=some (.int .i64 x.d)/\w.cell? ⟨b,o+5,none⟩=some (.string x.s)
theorem g2D.later{o:Nat}{x:OpX}(h:g2D w b o x)(k:Below w.heap.size w w'):g2D w' b o x:=by
 obtain⟨h0,h1,h2,h3,h4,h5⟩:=h;exact⟨a0a k h0,a0a k h1,a0a k h2,a0a k h3,a0a k h4,a0a k h5⟩
theorem g4h{X:List OpX}(hk:k<X.length)(o:Nat)(ho:o<6):(X.flatMap opC)[k*6+o]?=(opC X[k])[o]?:=by
 induction X generalizing k with
 |nil=>simp at hk
 |cons a r ih =>
  cases k with
  |zero=>rw[List.flatMap_cons,Nat.zero_mul,Nat.zero_add,List.getElem?_append_left (by simpa[opC] using ho)];rfl
  |succ k =>
   have:=ih (k:=k) (by simpa using hk);rw[List.flatMap_cons,List.getElem?_append_right (by simp[opC];omega)];simp only[opC,List.length_cons,List.length_nil,List.getElem_cons_succ] at this ⊢;rw[<- this]
   congr 1
   omega
section
variable {w0 w w':World}{B n:Nat}
theorem LW.env(h:LW w0 w B n):Env w:=by
 obtain⟨tg,D,K,v0,v1,r1,r2,r3,X1,X2,X3,h⟩:=h;exact h.ds.env
theorem LW.bl(h:LW w0 w B n):Below w0.heap.size w0 w:=by
 obtain⟨tg,D,K,v0,v1,r1,r2,r3,X1,X2,X3,h⟩:=h;exact h.bl
theorem LW.looks(h:LW w0 w B n)(hn:n<=900000000):Calls Tryz.prog 42 #[.pointer (some ⟨B,2,none⟩)] w fun e w'=>e=.returned (.bool true)/\LW w0 w' B n:=by
 have h':=h;obtain⟨tg,D,K,v0,v1,r1,r2,r3,X1,X2,X3,h⟩:=h;refine (f5k h.bk (by have:=h.len;omega)).mono ?_;rintro e w1 ⟨rfl,hb⟩;exact⟨rfl,h'.later hb⟩
def zW:Obj:=.cells #[.slice none 0 0,.slice none 0 0,.slice none 0 0,.slice none 0 0,.slice none 0 0] 86
theorem LW.start(he:Env w):LW w (w.alloc zW) w.heap.size 0:=by
 have hb:Below w.heap.size w (w.alloc zW):=(zr _ _).alloc (zq _) _;have hs:(w.alloc zW).heap.size=w.heap.size+1:=by simp
 have h10:=he.size;have row:∀ {P:Int->List Value}{t:TypeId},e7E P t [] (w.alloc zW) (.slice none 0 0) []:=⟨World.ownsRow_nil _ _ _ _,by simp,by simp⟩;have bb:∀ b∈bkB w.heap.size (.slice none 0 0) (.slice none 0 0) (.slice none 0 0),b=w.heap.size:=fun b hb=>by simpa[bkB,Value.ownBlock] using hb
 refine⟨fun b=>if b=w.heap.size then .bk else .no,[],[],.slice none 0 0,.slice none 0 0,.slice none 0 0,.slice none 0 0,.slice none 0 0,[],[],[],⟨⟨fun i k hk=>by simp at hk,he.later hb,fun b hb=>?_,fun b hb=>if_neg (by omega)⟩,⟨a0p w _,⟨row,row,row,by simp⟩,by simp⟩,by simp,World.ownsRow_nil _ _ _ _,World.ownsRow_nil _ _ _ _,fun b hb=>if_pos (bb b hb),by simp,fun b hb=>(by cases hb),fun b hb=>(by cases hb),by simp,hb,fun b hb=>?_,h10⟩⟩
 ·by_cases e:b=w.heap.size
  ·omega
  ·exact (hb (if_neg e)).elim
 ·by_cases e:b=w.heap.size
  ·omega
  ·exact (hb (if_neg e)).elim
def opO(x:OpX):Obj:=.cells #[.int .i64 x.k,.int .i64 x.a,.int .i64 x.y,.int .i64 x.m,.int .i64 x.d,.string x.s] 89
def e2N(w:World)(a0:Option Addr)(len:Nat):Prop:=∀ i,i<len->∃ b off x,a0=some ⟨b,off,none⟩/\g2D w b (off+i*6) x/\g4K x
theorem g3q:(Tryz.prog.info? 89).map (fun i=>(i.zero,i.size,i.bytes))=some (some (.agg #[.int .i64 0,.int .i64 0,.int .i64 0,.int .i64 0,.int .i64 0,.string ⟨#[]⟩]),6,56):=by kernel_rfl
end
end Go.Proofs.YtfigmlfdnickmaaGreatDoor
namespace Go.Proofs.YtfigmlfdnickmaaGreatDoor.uptoLaw
open Go.ChangeShapes Go.WideShapes Go.ChangeAt Go.RowKit
theorem f9G{H:Type}(d:DataW H):1<=Rows.uptoBulk d:=by
 cases d with
 |lit l=>cases l <;> simp[Rows.uptoBulk]
 |_=>simp[Rows.uptoBulk]
theorem f0k{H:Type}:∀ l:List (DataW H),l.length<=Rows.uptoBulkAll l
 |[]=>zN _
 |d :: r=>by
  have:=f0k r;have:=f9G d;simp only[Rows.uptoBulkAll,List.length_cons];omega
theorem f0h{H:Type}{d:DataW H}:∀ {l:List (DataW H)},d∈l->Rows.uptoBulk d<=Rows.uptoBulkAll l
 |a :: r,h=>by
  simp only[Rows.uptoBulkAll];rcases List.mem_cons.1 h with rfl|h
  ·omega
  ·have:=f0h h;omega
theorem g2Z{H:Type}{enc:TypeId × Value->H}{base:Nat}{off:Nat}{cs:List Value}{x:DataW H × List MemPlace}(k:Nat)
  (hc:W.cells? base (Addr.add ⟨b,off,none⟩ (k*6)) 6=some cs) (h:DataW.trod enc Tryz.prog W base spare held n 89 cs=some x):∃ o:OpX,g2D W b (off+k*6) o/\-9223372036854775808<=o.a/\o.a<=9223372036854775807/\o.s.size<=Rows.uptoBulk x.1:=by
 obtain⟨xs,n',_,hx,hlen,hxl,hf⟩:=DataW.trod_struct Tryz.underlying89 h;rw[datesLaw.e7q] at hlen;obtain⟨c0,c1,c2,c3,c4,c5,rfl⟩:=datesLaw.six hlen;obtain⟨x0,x1,x2,x3,x4,x5,rfl⟩:=datesLaw.six (show xs.length=6 from hxl);have f0:=hf 0 _ rfl;have f1:=hf 1 _ rfl;have f2:=hf 2 _ rfl;have f3:=hf 3 _ rfl;have f4:=hf 4 _ rfl;have f5:=hf 5 _ rfl;simp only[List.getElem_toArray,List.getElem_cons_zero,List.getElem_cons_succ,datesLaw.c3D,datesLaw.b7n,List.drop,List.take,List.getElem?_cons_zero,List.getElem?_cons_succ] at f0 f1 f2 f3 f4 f5;obtain⟨i0,e0,_,_⟩:=DataW.trod_int Tryz.underlying3 f0;obtain⟨i1,e1,_,w1⟩:=DataW.trod_int Tryz.underlying3 f1;obtain⟨i2,e2,_,_⟩:=DataW.trod_int Tryz.underlying3 f2;obtain⟨i3,e3,_,_⟩:=DataW.trod_int Tryz.underlying3 f3;obtain⟨i4,e4,_,_⟩:=DataW.trod_int Tryz.underlying3 f4;obtain⟨i5,e5,d5,_⟩:=DataW.trod_string Tryz.underlying9 f5;simp only[List.cons.injEq,and_true] at e0 e1 e2 e3 e4 e5;subst e0 e1 e2 e3 e4 e5;obtain⟨_,_,hcs⟩:=World.cells?_some hc;have g0:=hcs 0 (by decide);have g1:=hcs 1 (by decide);have g2:=hcs 2 (by decide);have g3:=hcs 3 (by decide);have g4:=hcs 4 (by decide);have g5:=hcs 5 (by decide);have bd:=bounds_i64 w1;have ad:∀ j,Addr.add (Addr.add ⟨b,off,none⟩ (k*6)) j=⟨b,off+k*6+j,none⟩:=fun j=>by rw[Deep.add_add,Addr.add];simp[Nat.add_assoc]
 simp only[ad,List.getElem?_cons_zero,List.getElem?_cons_succ] at g0 g1 g2 g3 g4 g5;refine⟨⟨i0,i1,i2,i3,i4,i5⟩,⟨g0,g1,g2,g3,g4,g5⟩,bd.1,bd.2,?_⟩;have hz:=Txt.a1l i5;rw[hx,d5];simp only[List.map,Rows.uptoBulk,Rows.uptoBulkAll];omega
theorem script{H:Type}{enc:TypeId × Value->H}{base:Nat}{a0:Option Addr}{len0 cap0:Nat}{d:DataW H}{ps:List MemPlace}(h:DataW.Trod enc Tryz.prog W base spare held 22 (.slice a0 len0 cap0) d ps)(hb:Rows.uptoBulk d<=1048576):e2N W a0 len0/\len0<=1900000:=by
 obtain⟨fuel,hf⟩:=h;rcases Deep.open_slice Tryz.underlying22 hf with ⟨hcs,_⟩|⟨a,l,c,m,n,D,Pl,hcs,_,hl,hm,hmd,hx,hel⟩
 ·simp[Value.cells] at hcs;obtain⟨rfl,rfl,rfl⟩:=hcs;exact⟨fun i hi=>by omega,by omega⟩
 ·simp[Value.cells] at hcs;obtain⟨rfl,rfl,rfl⟩:=hcs;have hd:d=.slice ((List.range len0).map D) ((List.range (m-len0)).map fun j=>D (len0+j)):=congrArg Prod.fst hx;rw[hd] at hb;simp only[Rows.uptoBulk] at hb;have h1:=f0k ((List.range len0).map D);rw[List.length_map,List.length_range] at h1;refine⟨fun i hi=>?_,by omega⟩;have hlm:len0<=m:=by rw[hmd];split <;> omega
  obtain⟨b,off,spot⟩:=a;obtain⟨cs,hc,ht⟩:=hel i (by omega)
  have hspot:spot=none:=by
   obtain⟨cs,hc,_⟩:=hel 0 (by omega);obtain⟨_,hn,hcc⟩:=World.cells?_some hc;rw[datesLaw.e7q] at hn hcc;obtain⟨c0,c1,c2,c3,c4,c5,rfl⟩:=datesLaw.six hn;have g:=hcc 0 (by decide)
   simpa[Addr.add] using World.cell?_spot g
  subst hspot;rw[datesLaw.e7q] at hc;obtain⟨o,o1,o2,o3,o4⟩:=g2Z i hc ht;have h2:=f0h (d:=D i) (l:=(List.range len0).map D) (List.mem_map.2 ⟨i,List.mem_range.2 hi,rfl⟩);exact⟨b,off,o,rfl,o1,o2,o3,by simp only at o4;omega⟩
end Go.Proofs.YtfigmlfdnickmaaGreatDoor.uptoLaw
namespace Go.Proofs.YtfigmlfdnickmaaGreatDoor
namespace Desk
structure h0u(s:St)(r:Rep):Prop where
 en:r.entries.length<=60
 es:∀ e∈r.entries,e∈s.es
 da:r.days.length<=60
 gr:r.granted.length<=100000
 ed:r.ended.length<=60
 er:r.err≠0->r.entries=[]/\r.days=[]/\r.granted=[]/\r.ended=[]
theorem f7Y(h:Inv s){l:a7U}(hl:a1O l):h0u s (a1q s l).2:=by
 obtain⟨⟨a,b,c,d⟩,e⟩:=e6u h hl;refine⟨a,b,c,e,d,fun he=>?_⟩;unfold a1q at he ⊢
 split at he
 ·rename_i q
  rw[if_pos q,b8H q];exact⟨rfl,rfl,rfl,rfl⟩
 ·rename_i q
  exact absurd he q
end Desk
def g1X:Desk.a7U->Bool
 |.a0k ..=>true
 |.enter k ..=>k==1
 |.cancel ..=>true
 |.list ..=>true
 |.peak ..=>true
 |.find ..=>true
 |.clock=>true
 |.series ..=>true
 |.expand ..=>true
 |_=>false
open Go.RowKit
def e6G(r:Rd.a0Y):Nat->List Int
 |0=>[]
 |k+1=>Rd.b4L r (e6G r k) (r.fr+k)
theorem g4g(r:Rd.a0Y):∀ n k:Nat,Rd.a4Y r n (r.fr+k) (e6G r k)=e6G r (k+n)
 |0,k=>rfl
 |n+1,k=>by
  have:=g4g r n (k+1);rw[Rd.a4Y,show k+(n+1)=k+1+n by omega,<- this];simp only[e6G];rw[show r.fr+(k:Int)+1=r.fr+((k+1:Nat):Int) by omega]
theorem f1X{r:Rd.a0Y}:e6G r (728-r.fr).toNat=Rd.a0E r:=by
 have:=g4g r (728-r.fr).toNat 0;rw[Nat.zero_add] at this;rw[<- this];simp[Rd.a0E,e6G]
theorem f1Q(r:Rd.a0Y):∀ k,(e6G r k).length<=k
 |0=>zq _
 |k+1=>by
  have:=f1Q r k;simp only[e6G,Rd.b4L]
  split
  ·simp;omega
  ·omega
theorem g9F{N:Nat}{G:List Nat}(h:Off G w w')(hN:N<=w.heap.size)(hG:∀ b∈G,N<=b):Below N w w':=⟨h.os,h.tape,h.output,h.size,fun b hb=>h.block b (by omega) fun hx=>by have:=hG b hx;omega⟩
def f8f(r:Rd.a0Y)(w:World)(e:Ending)(w':World):Prop:=Below w.heap.size w w'/\((Rd.a6W r=0/\∃ v,e=.returned (.tuple #[v,.int .i64 0])/\w'.ownsRow w.heap.size 3 1 v (Rd.a0E r).length ((Rd.a0E r).map (Value.int .i64)))\/(Rd.a6W r≠0/\e=.returned (.tuple #[.slice none 0 0,.int .i64 (Rd.a6W r)])))
theorem f8f.err{r:Rd.a0Y}{n:Int}(hb:Below w.heap.size w w')(h:Rd.a6W r=n)(hn:n≠0):f8f r w (.returned (.tuple #[.slice none 0 0,.int .i64 n])) w':=⟨hb,.inr ⟨by rw[h];exact hn,by rw[h]⟩⟩
theorem f6Q(r:Rd.a0Y)(hf:Rd.a6s r)(w:World):Calls Tryz.prog 181 #[ruR r] w (f8f r w):=by
 have f0:=hf.f0;have f1:=hf.f1;have t0:=hf.t0;have HF:=a0b hf;have BX:=a0b (zA ((zr _ w).alloc (zq _) (ruB r)) (a0p w (ruB r)));have HS:=a0b (fun d (h0:r.fr<=d) (h1:d<728) W=>h1G r hf d h0 h1 W);simp only[ruR,ruL] at HS ⊢;clear hf
 go_enter Tryz.func181,Tryz.ntmps181
 go_upto_region 1 with fail
 change Code.wp _ _ _ _ (w.alloc (ruB r));generalize w.alloc (ruB r)=W0 at *;have CL:Hid (∀ W,Below W0.heap.size W0 W->W.heap[w.heap.size]?=some (ruB r)):=fun W k=>(k.block _ (Array.getElem?_eq_some_iff.1 BX.out.2).1).trans BX.out.2
 obtain⟨⟨c0,c1,c9,c10,c11,c12,c13⟩,_⟩:=ruC BX.out.2
 go_wp2_with fail
 clear c0 c1 c9 c10 c11 c12 c13
 go_loopw [4,5,6] (fun v d _ wr=>∃ k:Nat,k<=(728-r.fr).toNat/\d=.int .i64 (r.fr+k)/\wr.ownsRow W0.heap.size 3 1 v (e6G r k).length ((e6G r k).map (Value.int .i64))/\Below W0.heap.size W0 wr) (fun _ d _ _=>(728-intOf d).toNat)
 case atStart=>exact⟨0,Nat.zero_le _,by simp,World.ownsRow_nil _ _ _ _,Below.refl _ _⟩
 case round =>
  obtain⟨k,hk,rfl,ho,hbl⟩:=hrel;have HO:=a0b (zA ho hbl);obtain⟨va,vc,rfl⟩:=c9y ho;clear ho hbl
  by_cases hlt:r.fr+k<728
  ·obtain⟨⟨c0,c1,c9,c10,c11,c12,c13⟩,cJ⟩:=ruC (CL.out _ HO.out.2);have j0:=cJ 0 (by omega);have j1:=cJ 1 (by omega);have j2:=cJ 2 (by omega);have j3:=cJ 3 (by omega);have j4:=cJ 4 (by omega);have j5:=cJ 5 (by omega);have j6:=cJ 6 (by omega);clear cJ;have wd:IntKind.i64.wrap (r.fr+k+1)=r.fr+k+1:=a0i (by omega) (by omega)
   go_upto_region 6 with (first|(go_at_call 239;refine (HS.out (r.fr+k) (by omega) hlt _).mono ?_;rintro e w1 ⟨rfl,hb1⟩;have B1:=a0b hb1;clear hb1))
   have OW:=a0b (a1g HO.out.1 B1.out);have BK:=a0b (a0j HO.out.2 B1.out (zq _));have hlen:=f1Q r k;clear c0 c1 c9 c10 c11 c12 c13 j0 j1 j2 j3 j4 j5 j6;obtain⟨⟨_,_,_,_,_,c12,c13⟩,_⟩:=ruC (CL.out _ BK.out)
   cases hb:Rd.has r (r.fr+k)
   ·have HN:Hid (e6G r (k+1)=e6G r k):=if_neg (fun e=>by rw[hb] at e;exact absurd e.1 (by simp));clear hb
    go_wp2_with fail
    exact⟨⟨k+1,by omega,by go_num,by rw[HN.out];exact OW.out,BK.out⟩,by simp[intOf];omega⟩
   ·by_cases ht:r.ti=0
    ·have ht':(r.ti==0)=true:=by simp[ht]
     have ht2:¬ (0:Int)<r.ti:=by omega
     by_cases hu:r.fr+k<=r.un
     ·have HY:Hid (e6G r (k+1)=e6G r k++[r.fr+k]):=if_pos ⟨hb,.inl ⟨ht,hu⟩⟩;clear hb
      go_wp2_with (first|(at_builtin;refine g3H rfl _ _ rfl OW.out (r.fr+k) rfl rfl (by omega) (by have:=HO.out.2.size;have:=B1.out.size;omega) ?_;intro v' w2 o2 k2))
      exact⟨⟨k+1,by omega,by go_num,by rw[HY.out];exact o2,BK.out.trans (g9F k2 BK.out.size fun b hb=>(OW.out.lt b (Option.mem_toList.1 hb)).1)⟩,by simp[intOf];omega⟩
     ·have HN:Hid (e6G r (k+1)=e6G r k):=if_neg (fun e=>by rcases e.2 with q|q <;> omega);clear hb
      go_wp2_with fail
      exact⟨⟨k+1,by omega,by go_num,by rw[HN.out];exact OW.out,BK.out⟩,by simp[intOf];omega⟩
    ·have ht':(r.ti==0)=false:=by simp[ht]
     have ht2:(0:Int)<r.ti:=by omega
     by_cases hu:((e6G r k).length:Int)<r.ti
     ·have HY:Hid (e6G r (k+1)=e6G r k++[r.fr+k]):=if_pos ⟨hb,.inr ⟨ht2,hu⟩⟩;clear hb
      go_wp2_with (first|(at_builtin;refine g3H rfl _ _ rfl OW.out (r.fr+k) rfl rfl (by omega) (by have:=HO.out.2.size;have:=B1.out.size;omega) ?_;intro v' w2 o2 k2))
      exact⟨⟨k+1,by omega,by go_num,by rw[HY.out];exact o2,BK.out.trans (g9F k2 BK.out.size fun b hb=>(OW.out.lt b (Option.mem_toList.1 hb)).1)⟩,by simp[intOf];omega⟩
     ·have HN:Hid (e6G r (k+1)=e6G r k):=if_neg (fun e=>by rcases e.2 with q|q <;> omega);clear hb
      go_wp2_with fail
      exact⟨⟨k+1,by omega,by go_num,by rw[HN.out];exact OW.out,BK.out⟩,by simp[intOf];omega⟩
  ·have hkk:k=(728-r.fr).toNat:=by omega
   rw[hkk,f1X] at HO;have hlen:=f1Q r (728-r.fr).toNat;rw[hkk,f1X];rw[f1X] at hlen;have B0:=a0b (a0j BX.out.1 HO.out.2 (zq _));obtain⟨⟨_,_,_,c10,c11,c12,_⟩,_⟩:=ruC (CL.out _ HO.out.2);clear hk hkk hlt;have hl728:(Rd.a0E r).length<=728:=by omega
   clear hlen
   by_cases h40:40<(Rd.a0E r).length
   ·have h40':(40:Int)<((Rd.a0E r).length:Int):=by omega
    have HD:Hid (Rd.a6W r=11):=if_pos (.inl h40)
    go_wp2_with fail
    go_ret2;exact f8f.err B0.out HD.out (by decide)
   have h40':¬ (40:Int)<((Rd.a0E r).length:Int):=by omega
   by_cases ht:40<r.ti
   ·have HD:Hid (Rd.a6W r=11):=if_pos (.inr ht)
    go_wp2_with fail
    go_ret2;exact f8f.err B0.out HD.out (by decide)
   have H40:Hid (¬ (40<(Rd.a0E r).length\/40<r.ti)):=by rw[Hid];omega
   by_cases hz:(Rd.a0E r).length=0
   ·have hz':(((Rd.a0E r).length:Int)==0)=true:=by simp[hz]
    have HD:Hid (Rd.a6W r=6):=(if_neg H40.out).trans (if_pos (.inl (List.length_eq_zero_iff.1 hz)))
    go_wp2_with fail
    go_ret2;exact f8f.err B0.out HD.out (by decide)
   have hz':(((Rd.a0E r).length:Int)==0)=false:=by rw[beq_eq_false_iff_ne];omega
   by_cases hl:((Rd.a0E r).length:Int)<r.ti
   ·have HD:Hid (Rd.a6W r=6):=(if_neg H40.out).trans (if_pos (.inr hl))
    go_wp2_with fail
    go_ret2;exact f8f.err B0.out HD.out (by decide)
   have HD:Hid (Rd.a6W r=if (Rd.a0E r).any (Rd.a8m r) then 6 else 0):=(if_neg H40.out).trans (if_neg (by
    rintro (e|e)
    ·exact hz (by rw[e];rfl)
    ·exact hl e))
   have hne:0<(Rd.a0E r).length:=by omega
   go_wp2_with fail
   have MM:=a0b (fun i (hi:i<(Rd.a0E r).length)=>zA (Rd.a4x HF.out (zg hi)) (zA HF.out.m0 (zA HF.out.m1 (zA HF.out.i1 HF.out.i2))));clear HS c10 c11 c12 h40 ht hz hl hz' h40';obtain⟨V,hV⟩:∃ V,V=wr:=⟨_,rfl⟩;subst hV
   go_loopw [7] (fun v wx=>∃ i:Nat,i<=(Rd.a0E r).length/\v=.int .i64 i/\(∀ x∈(Rd.a0E r).take i,Rd.a8m r x=false)/\Below V.heap.size V wx) (fun v _=>(Rd.a0E r).length-(intOf v).toNat)
   case atStart=>exact⟨0,Nat.zero_le _,rfl,by simp,Below.refl _ _⟩
   case round =>
    obtain⟨i,hi,rfl,hno,hbl⟩:=hrel;have HB:=a0b (zA hno (zA hbl (a0j B0.out hbl (zq _))));clear hno hbl
    by_cases hlt:i<(Rd.a0E r).length
    ·have hlt':(i:Int)<((Rd.a0E r).length:Int):=by omega
     obtain⟨g,cap,e,y⟩:=e4k HO.out.1 (k:=i) (u:=.int .i64 (Rd.a0E r)[i]) (by rw[List.getElem?_map,List.getElem?_eq_getElem hlt];rfl);simp only[Value.slice.injEq,true_and] at e;obtain⟨rfl,rfl⟩:=e;have y':=a0a HB.out.2.1 y;clear y;obtain⟨⟨_,_,_,c10,c11,_⟩,_⟩:=ruC (CL.out _ (a0j HO.out.2 HB.out.2.1 (zq _)));obtain⟨⟨m1,m2⟩,m3,m4,m5,m6⟩:=MM.out i hlt
     have HT:Hid (∀ x∈(Rd.a0E r).take (i+1),x∈(Rd.a0E r).take i\/x=(Rd.a0E r)[i]):=fun x hx=>by
      rw[List.take_succ_eq_append_getElem hlt] at hx;exact (List.mem_append.1 hx).imp id List.mem_singleton.1
     have HM:Hid ((Rd.a0E r)[i]∈Rd.a0E r):=zg hlt;generalize (Rd.a0E r)[i]=x at *;have w1:IntKind.i64.wrap (1440*x)=1440*x:=a0i (by omega) (by omega);have w2:IntKind.i64.wrap (1440*x+r.mn)=1440*x+r.mn:=a0i (by omega) (by omega);have w3:IntKind.i64.wrap (1440*x+r.mn+r.mi)=1440*x+r.mn+r.mi:=a0i (by omega) (by omega)
     by_cases hla:(1048320:Int)<1440*x+r.mn+r.mi
     ·have HX:Hid (Rd.a6W r=6):=HD.out.trans (if_pos (List.any_eq_true.2 ⟨x,HM.out,decide_eq_true (by omega)⟩))
      go_upto_region 15 with fail
      go_quiet (fail)
      go_wp2_with fail
      go_ret2;exact f8f.err (d7M HB.out.2.2 _) HX.out (by decide)
     ·go_upto_region 15 with fail
      go_quiet (fail)
      go_wp2_with fail
      exact⟨⟨i+1,by omega,by go_num,fun y hy=>by
       rcases HT.out y hy with e|e
       ·exact HB.out.1 y e
       ·rw[e];exact decide_eq_false (by omega),d7M HB.out.2.1 _⟩,by simp[intOf];omega⟩
    ·have hlt':¬ (i:Int)<((Rd.a0E r).length:Int):=by omega
     have HX:Hid (Rd.a6W r=0):=HD.out.trans (if_neg (by
      rw[List.any_eq_true];rintro ⟨x,hx,hl⟩;rw[HB.out.1 x (by rw[List.take_of_length_le (by omega)];exact hx)] at hl
      cases hl))
     go_wp2_with fail
     go_ret2;exact⟨HB.out.2.2,.inl ⟨HX.out,_,rfl,d7F (a1g HO.out.1 HB.out.2.1) BX.out.1.size⟩⟩
open Desk (Ent St Rep a0g)
theorem f5D:(Tryz.prog.info? 315).map (fun i=>(i.zero,i.size,i.bytes))=some (some (.agg #[.string ⟨#[]⟩,.int .i64 0]),2,24):=by kernel_rfl
theorem e4W(args:Array Value)(w:World):(callFunc 126 args).run Tryz.prog w=.ok (.enter 126 args) w:=by kernel_rfl
theorem DD.thinged{Y w5:World}{v:Value}{cap:Nat}{t:ByteArray × Int}(h:DD Y d s xs F)(cv:Y.cell? ⟨d,0,none⟩=some v)(ho:Y.ownsRow 0 315 2 v s.ts.length (s.ts.flatMap c4x))(hvF:∀ k,v.ownBlock=some k->k∈F/\k≠d)(k:Off (v.ownBlock.toList) Y w5)(ho5:w5.ownsRow 0 315 2 (.slice (some ⟨g,0,none⟩) (s.ts.length+1) cap) (s.ts.length+1) (s.ts.flatMap c4x++c4x t))(hg:v.ownBlock=some g\/Y.heap.size<=g)(hl:s.ts.length<4):
  DD (w5.setCell ⟨d,0,none⟩ (.slice (some ⟨g,0,none⟩) (s.ts.length+1) cap)) d { s with ts:=s.ts++[t] } xs (g :: F)/\Off F Y (w5.setCell ⟨d,0,none⟩ (.slice (some ⟨g,0,none⟩) (s.ts.length+1) cap)):=by
 obtain⟨v2,b1,b2,b3⟩:=h.rd.ev;have hdl:d<Y.heap.size:=h.lt d h.rd.dF
 have hgd:g≠d:=by
  rcases hg with e|e
  ·exact (hvF g e).2
  ·omega
 have hvF2:∀ y∈v.ownBlock.toList,y∈F/\y≠d:=fun y hy=>hvF y (by simpa using hy)
 have hdv:d ∉ v.ownBlock.toList:=fun e=>(hvF2 d e).2 rfl
 have k0:Off [d] w5 (w5.setCell ⟨d,0,none⟩ (.slice (some ⟨g,0,none⟩) (s.ts.length+1) cap)):=Off.set0 ..;have k1:Off (d :: v.ownBlock.toList) Y (w5.setCell ⟨d,0,none⟩ (.slice (some ⟨g,0,none⟩) (s.ts.length+1) cap)):=(k.mono (by intro y hy;exact List.mem_cons_of_mem _ hy)).setCell (.inl (by simp)) _ _
 have hF1:∀ y,y ∉ F->y ∉ d :: v.ownBlock.toList:=by
  intro y hy e;rcases List.mem_cons.1 e with rfl|e
  ·exact hy h.rd.dF
  ·exact hy (hvF2 y e).1
 have hv2:∀ b,v2.ownBlock=some b->b ∉ d :: v.ownBlock.toList:=by
  intro b hb e;rcases List.mem_cons.1 e with e|e
  ·exact (b3 b hb).2 e
  ·have e:v.ownBlock=some b:=by simpa using e
   rcases ho.2 with ⟨rfl,_⟩|⟨g',cap',cur,rfl,_,hh,_⟩
   ·simp[Value.ownBlock] at e
   ·simp[Value.ownBlock] at e;subst e;exact c8L b2 hh (by decide) hb
 have cd:∀ o u,Y.cell? ⟨d,o,none⟩=some u->o≠0->(w5.setCell ⟨d,0,none⟩ (.slice (some ⟨g,0,none⟩) (s.ts.length+1) cap)).cell? ⟨d,o,none⟩=some u:=fun o u hu _=>(zS _ _ _ _ (by simp)).trans (k.cell hdv hu)
 refine⟨⟨⟨⟨_,World.cell?_setCell_same _ _ _ (k.cell hdv cv),?_,fun b hb=>?_⟩,⟨v2,cd 1 _ b1 (by omega),a1i b2 k1 hv2,fun b hb=>⟨List.mem_cons_of_mem _ (b3 b hb).1,(b3 b hb).2⟩⟩,cd 2 _ h.rd.c2 (by omega),cd 3 _ h.rd.c3 (by omega),fun o=>(zF ..).trans ((k.frozen hdv hdl).trans (h.rd.fz o)),List.mem_cons_of_mem _ h.rd.dF,fun y hy=>?_⟩,h.es,fun x hx=>?_,?_,h.el,h.en⟩,k1.mono (fun y hy=>?_)⟩
 ·have e1:(s.ts++[t]).flatMap c4x=s.ts.flatMap c4x++c4x t:=by simp
  rw[e1,List.length_append];exact a1i ho5 k0 (fun b hb=>by simp[Value.ownBlock] at hb;subst hb;simpa using hgd)
 ·simp[Value.ownBlock] at hb;subst hb;exact⟨by simp,hgd⟩
 ·obtain⟨y1,y2,y3⟩:=h.rd.sp y hy;refine⟨y1.off k1 (hF1 _ y2),fun e=>?_,Nat.lt_of_lt_of_le y3 k1.size⟩;rcases List.mem_cons.1 e with e|e
  ·rcases hg with e2|e2
   ·exact y2 (e ▸ (hvF g e2).1)
   ·omega
  ·exact y2 e
 ·rcases List.mem_cons.1 hx with rfl|hx
  ·exact zL (c7O ho5 rfl) k0.size
  ·exact zL (h.lt x hx) k1.size
 ·simp;omega
 ·rcases List.mem_cons.1 hy with rfl|hy
  ·exact h.rd.dF
  ·exact (hvF2 y hy).1
theorem f0K(h:DD w d s xs F)(hl:2<n)(z2:ut.size<=160)(hun:0<=Desk.a0h name s.ts)(h1:w.cell? ⟨g,1,none⟩=some (.string name))(h2:w.cell? ⟨g,2,none⟩=some (.string ut)):
  Calls Tryz.prog 172 #[.pointer (some ⟨d,0,none⟩),.slice (some ⟨g,0,none⟩) n c] w (d1S w d F xs (a0g s (.a0k name (b4g ut 1 7)))):=by
 obtain⟨ti,hi0,hz0,hz1,hz2⟩:=info_parts f5D;have P0:=a0b ((KP.nil w).alloc a0f);have H:=a0b h;have D0:=a0b (h.later P0.out.bl);have i1:(1:Int)<(n:Int):=by omega
 have i2:(2:Int)<(n:Int):=by omega
 have y1:=a0a P0.out.bl h1;have y2:=a0a P0.out.bl h2;have UN:=a0b (D0.out.a0c name);have NM:=a0b (fun wx=>b0E ut 1 7 wx z2 (by omega) (by omega));have HD:Hid (a0g s (.a0k name (b4g ut 1 7))=if Desk.a0h name s.ts≠0 then (s,.error 4) else if s.ts.length=4 then (s,.error 5) else ({ s with ts:=s.ts++[(name,b4g ut 1 7)] },.num 0)):=rfl;clear h
 go_enter Tryz.func172,Tryz.ntmps172
 go_upto_region 1 with fail
 change Code.wp _ _ _ _ (w.alloc a0f);generalize w.alloc a0f=X at *;generalize b4g ut 1 7=u at *;generalize Desk.a0h name s.ts=un at *
 go_wp2_with fail
 refine UN.out.mono ?_;rintro e w1 ⟨rfl,rfl⟩;clear UN;have Q1:=a0b (Q7.of (P0.out.kb (w.heap.size,a0f) (by simp)));obtain⟨v,cv,ho,hvF⟩:=D0.out.rd.tv;obtain⟨av,cpv,rfl⟩:=c9y ho
 by_cases a1:0<un
 ·have HF:Hid (d1S w d F xs (a0g s (.a0k name u)) (.returned (a0s 4 0 0 c7N c7N c7N c7N)) (a2w w1 w.heap.size (.int .i64 4) (.int .i64 0) (.int .i64 0) c7N c7N c7N c7N)):=by
   show d1S w d F xs _ _ _;rw[HD.out,if_pos (by omega)];exact H.out.said P0.out.bl (zq _) 4 0 _ _ _ _ _ _ _
  obtain⟨q0,q1,q2,q3,q4,q5,q6,fq⟩:=Q1.out
  go_wp2_with fail
  exact bodyPost_ret (v:=a0s 4 0 0 c7N c7N c7N c7N) (by simp[results,Tryz.results172,go_sem,a0s,c7N,q0,q1,q2,q3,q4,q5,q6]) rfl HF.out
 ·by_cases a2:s.ts.length=4
  ·have HF:Hid (d1S w d F xs (a0g s (.a0k name u)) (.returned (a0s 5 0 0 c7N c7N c7N c7N)) (a2w w1 w.heap.size (.int .i64 5) (.int .i64 0) (.int .i64 0) c7N c7N c7N c7N)):=by
    show d1S w d F xs _ _ _;rw[HD.out,if_neg (by omega),if_pos a2];exact H.out.said P0.out.bl (zq _) 5 0 _ _ _ _ _ _ _
   have q2':((s.ts.length:Int)==4)=true:=by simp;omega
   obtain⟨q0,q1,q2,q3,q4,q5,q6,fq⟩:=Q1.out
   go_wp2_with fail
   exact bodyPost_ret (v:=a0s 5 0 0 c7N c7N c7N c7N) (by simp[results,Tryz.results172,go_sem,a0s,c7N,q0,q1,q2,q3,q4,q5,q6]) rfl HF.out
  ·have q2':((s.ts.length:Int)==4)=false:=by simp;omega
   have hts:s.ts.length<4:=by have:=H.out.tl;omega
   have E9:Hid (a0g s (.a0k name u)=({ s with ts:=s.ts++[(name,u)] },⟨0,0,0,[],[],[],[]⟩)):=by
    show _=_;rw[HD.out,if_neg (by omega),if_neg a2];rfl
   have fd:=D0.out.rd.fz 0;have HO:=a0b (zA ho hvF);clear ho hvF a2 HD
   go_upto_region 6 with fail
   go_cut [34] from 21 to 37 (fun _ wx=>∃ g' cp Y w5,Below w1.heap.size w1 Y/\Off ((Value.slice av s.ts.length cpv).ownBlock.toList) Y w5/\w5.ownsRow 0 315 2 (.slice (some ⟨g',0,none⟩) (s.ts.length+1) cp) (s.ts.length+1) (s.ts.flatMap c4x++c4x (name,u))/\((Value.slice av s.ts.length cpv).ownBlock=some g'\/Y.heap.size<=g')/\wx=w5.setCell ⟨d,0,none⟩ (.slice (some ⟨g',0,none⟩) (s.ts.length+1) cp))
   case first =>
    go_region_law (first
     |(refine a2k (by rfl) 126 _ _ (by rfl) _ (by simp[Act.eval]) (e4W _ _) (NM.out _) ?_;rintro e w4 ⟨rfl,hb4⟩;refine⟨_,rfl,?_⟩;have kb4:Below w1.heap.size w1 w4:=a0j (a0q w1) hb4 (zq _);have cv4:=a0a kb4 cv;have cvA:∀ o,(w4.alloc o).cell? ⟨d,0,none⟩=some (.slice av s.ts.length cpv):=(fun o=>a0a ((zr _ _).alloc (zq _) _) cv4);have y14:=a0a kb4 y1;have fd4:=(kb4.frozen (World.block_lt_of_cell? _ _ cv)).trans fd;clear hb4)
     |(refine step_append_lies _ rfl _ _ 103 rfl 0 315 ti _ 2 24 Tryz.underlying103 hi0 hz0 hz1 hz2 rfl (by decide) (.slice av s.ts.length cpv) s.ts.length (s.ts.flatMap c4x) rfl (a1g HO.out.1 (a0j kb4 ((zr _ _).alloc (zq _) _) (zq _))) ⟨w4.heap.size,0,none⟩ 1 1 (c4x (name,u)) rfl rfl (World.news_of_block (cs:=(c4x (name,u)).toArray) (a0p w4 _)) (by simp[c4x,Value.oneCell']) (by omega) (by unfold maxLen;omega) (by omega) (zN _) (w4.heap.size+1) (by simp) ?_;intro g' cp w5 ho5 hgrow hat hlt;have kk:Off ((Value.slice av s.ts.length cpv).ownBlock.toList) w4 w5:=Off.grown ((Off.refl _ w4).alloc _) hgrow (fun k hk=>.inl (by simp[hk]));have hdv:d ∉ (Value.slice av s.ts.length cpv).ownBlock.toList:=(fun e=>(HO.out.2 d (by simpa using e)).2 rfl);have z1:=kk.cell hdv cv4;have z2:=(kk.frozen (o:=0) hdv (World.block_lt_of_cell? _ _ cv4)).trans fd4))
    all_goals
     go_wp2_with fail
     go_meet
     exact⟨g',cp,w4,w5,kb4,kk,ho5,hat.imp id (fun e=>by omega),rfl⟩
   case rest =>
    obtain⟨g',cp,Y,w5,kY,k5,ho5,hat,rfl⟩:=hcut;obtain⟨hJ,hO⟩:=(D0.out.later kY).thinged (a0a kY cv) (a1g HO.out.1 kY) HO.out.2 k5 ho5 hat hts;have hQF:w.heap.size ∉ F:=fun e=>by have:=H.out.lt _ e;omega
    have hQ:w.heap.size<w1.heap.size:=World.block_lt_of_cell? _ _ Q1.out.q0;have hQY:=kY.size;have hQ8:=hO.block w.heap.size (by omega) hQF;have Q2:=a0b ((Q1.out.later (kY.block _ hQ)).later hQ8)
    have hg':∀ x∈g' :: F,x∈F\/Y.heap.size<=x:=fun x hx=>by
     rcases List.mem_cons.1 hx with rfl|hx
     ·exact hat.imp (fun e=>(HO.out.2 x e).1) id
     ·exact .inl hx
    have hz:=P0.out.bl.size;have hw:Off F w (w5.setCell ⟨d,0,none⟩ (.slice (some ⟨g',0,none⟩) (s.ts.length+1) cp)):=((Off.of_below P0.out.bl).trans (Off.of_below kY)).trans hO;generalize w5.setCell ⟨d,0,none⟩ _=Z at *
    have HF:Hid (d1S w d F xs ({ s with ts:=s.ts++[(name,u)] },⟨0,0,0,[],[],[],[]⟩) (.returned (a0s 0 0 0 c7N c7N c7N c7N)) (a2w Z w.heap.size (.int .i64 0) (.int .i64 0) (.int .i64 0) c7N c7N c7N c7N)):=by
     refine hJ.put7 (fun x hx=>(hg' x hx).imp id (fun e=>by omega)) hw (zq _) (fun e=>?_) (fun x hx e=>?_) (fun x hx=>.inl ⟨x,hx,rfl⟩) 0 0 _ _ _ _ _ _ _
     ·rcases hg' _ e with e|e
      ·exact hQF e
      ·omega
     ·have:=(H.out.rd.sp x hx).2.2;omega
    obtain⟨q0,q1,q2,q3,q4,q5,q6,fq⟩:=Q2.out;clear hJ hO hw HO k5 ho5 cv
    go_wp2_with fail
    exact bodyPost_ret (v:=a0s 0 0 0 c7N c7N c7N c7N) (by simp[results,Tryz.results172,go_sem,a0s,c7N,q0,q1,q2,q3,q4,q5,q6]) rfl (by rw[E9.out];exact HF.out)
theorem g2c(args:Array Value)(w:World):(callFunc 237 args).run Tryz.prog w=.ok (.enter 237 args) w:=by kernel_rfl
theorem f2f(h:DD w d s xs F){lt ft tt:ByteArray}(hn:5<n)(z2:ut.size<=160)(z3:lt.size<=160)(z4:ft.size<=160)(z5:tt.size<=160)(hu:0<=b4g ut 1 7/\b4g ut 1 7<=9)(hlo:0<=b4g lt 1 7/\b4g lt 1 7<=1048320)(hfr:0<=g2T ft/\g2T ft<=1048320)(h1:w.cell? ⟨g,1,none⟩=some (.string name))(h2:w.cell? ⟨g,2,none⟩=some (.string ut))(h3:w.cell? ⟨g,3,none⟩=some (.string lt))(h4:w.cell? ⟨g,4,none⟩=some (.string ft))(h5:w.cell? ⟨g,5,none⟩=some (.string tt)):
  Calls Tryz.prog 178 #[.pointer (some ⟨d,0,none⟩),.slice (some ⟨g,0,none⟩) n c] w (d1S w d F xs (a0g s (.find name (b4g ut 1 7) (b4g lt 1 7) (g2T ft) (g2T tt)))):=by
 have P0:=a0b ((KP.nil w).alloc a0f);have H:=a0b h;have i1:(1:Int)<(n:Int):=by omega
 have i2:(2:Int)<(n:Int):=by omega
 have i3:(3:Int)<(n:Int):=by omega
 have i4:(4:Int)<(n:Int):=by omega
 have i5:(5:Int)<(n:Int):=by omega
 have y2:=a0a P0.out.bl h2;have N1:=a0b (fun wx=>b0E ut 1 7 wx z2 (by omega) (by omega));have N2:=a0b (fun wx=>b0E lt 1 7 wx z3 (by omega) (by omega));have T1:=a0b (fun wx=>d0T ft wx z4);have T2:=a0b (fun wx=>d0T tt wx z5);have HD:Hid (a0g s (.find name (b4g ut 1 7) (b4g lt 1 7) (g2T ft) (g2T tt))=if Desk.a0S s.ts name (b4g ut 1 7)≠0 then (s,.error (Desk.a0S s.ts name (b4g ut 1 7))) else if g2T tt<=g2T ft then (s,.error 6) else (s,.num (Desk.a9A s.ts s.es name (b4g ut 1 7) (b4g lt 1 7) (g2T ft) (g2T tt)))):=rfl;clear h
 go_enter Tryz.func178,Tryz.ntmps178
 go_upto_region 1 with fail
 change Code.wp _ _ _ _ (w.alloc a0f);generalize w.alloc a0f=X at *;generalize a0g s _=D at *;generalize b4g ut 1 7=u at *;generalize b4g lt 1 7=lo at *;generalize g2T ft=fr at *;generalize g2T tt=til at *
 go_wp2_with fail
 refine (N1.out _).mono ?_;rintro e w1 ⟨rfl,hb⟩;replace P0:=a0b (P0.out.later hb);have y4:=a0a P0.out.bl h4;clear hb y2
 go_wp2_with fail
 refine (T1.out _).mono ?_;rintro e w2 ⟨rfl,hb⟩;replace P0:=a0b (P0.out.later hb);have y5:=a0a P0.out.bl h5;clear hb y4
 go_wp2_with fail
 refine (T2.out _).mono ?_;rintro e w3 ⟨rfl,hb⟩;replace P0:=a0b (P0.out.later hb);have y1:=a0a P0.out.bl h1;have y3:=a0a P0.out.bl h3;clear hb y5 N1 T1 T2 X;have D0:=a0b (H.out.later P0.out.bl);have AK:=a0b (D0.out.asked name u);have hQ:w.heap.size<w3.heap.size:=P0.out.lt (q:=(w.heap.size,a0f)) (by simp);have Q1:=a0b (Q7.of (P0.out.kb (w.heap.size,a0f) (by simp)));generalize Desk.a0S s.ts name u=an at *
 go_wp2_with fail
 refine AK.out.mono ?_;rintro e w4 ⟨rfl,rfl⟩;clear AK
 have ERR:Hid (∀ er,D=(s,.error er)->d1S w d F xs D (.returned (a0s er 0 0 c7N c7N c7N c7N)) (a2w w4 w.heap.size (.int .i64 er) (.int .i64 0) (.int .i64 0) c7N c7N c7N c7N)):=fun er e=>by
  rw[e];exact H.out.said P0.out.bl (zq _) er 0 _ _ _ _ _ _ _
 by_cases a1:an=0
 ·subst a1
  by_cases a2:til<=fr
  ·have HF:=a0b (ERR.out 6 (by rw[HD.out];simp[a2]));obtain⟨q0,q1,q2,q3,q4,q5,q6,fq⟩:=Q1.out
   go_wp2_with fail
   exact bodyPost_ret (v:=a0s 6 0 0 c7N c7N c7N c7N) (by simp[results,Tryz.results178,go_sem,a0s,c7N,q0,q1,q2,q3,q4,q5,q6]) rfl HF.out
  ·have E9:Hid (D=(s,.num (Desk.a9A s.ts s.es name u lo fr til))):=by show _=_;rw[HD.out,if_neg (by simp),if_neg a2]
   have FN:Hid (∀ wx,Below w4.heap.size w4 wx->Calls Tryz.prog 237 #[.pointer (some ⟨d,0,none⟩),.string name,.int .i64 u,.int .i64 lo,.int .i64 fr,.int .i64 til] wx fun e w'=>e=.returned (.int .i64 (Desk.a9A s.ts s.es name u lo fr til))/\Below wx.heap.size wx w'):=fun wx k=>(D0.out.later k).find name u lo fr til hu.1 hu.2 hlo.1 (by omega) hfr.1 (by omega)
   have AF:Hid (∀ wx,Below w4.heap.size w4 wx->Q7 wx w.heap.size/\d1S w d F xs D (.returned (a0s 0 0 (Desk.a9A s.ts s.es name u lo fr til) c7N c7N c7N c7N)) (a2w wx w.heap.size (.int .i64 0) (.int .i64 0) (.int .i64 (Desk.a9A s.ts s.es name u lo fr til)) c7N c7N c7N c7N)):=fun wx k=>⟨Q1.out.later (k.block _ hQ),by rw[E9.out];exact H.out.said (a0j P0.out.bl k (zq _)) (zq _) 0 _ _ _ _ _ _ _ _⟩
   generalize Desk.a9A s.ts s.es name u lo fr til=fv at *;clear ERR E9 HD
   go_upto_region 9 with fail
   go_region_law (first
    |(refine a2k (by rfl) 126 _ _ (by rfl) _ (by simp[Act.eval]) (e4W _ _) (N2.out _) ?_;rintro e w5 ⟨rfl,hb5⟩;refine⟨_,rfl,?_⟩;have kb5:Below w4.heap.size w4 w5:=a0j (a0q w4) hb5 (zq _);have y15:=a0a kb5 y1;clear hb5)
    |(refine a2k (by rfl) 237 _ _ (by rfl) _ (by simp[Act.eval]) (g2c _ _) (FN.out _ kb5) ?_;rintro e w6 ⟨rfl,hb6⟩;refine⟨_,rfl,?_⟩;have FF:=a0b (AF.out w6 (a0j kb5 hb6 (zq _)));obtain⟨⟨q0,q1,q2,q3,q4,q5,q6,fq⟩,_⟩:=FF.out;clear hb6))
   all_goals
    go_wp2_with fail
    exact bodyPost_ret (v:=a0s 0 0 fv c7N c7N c7N c7N) (by simp[results,Tryz.results178,go_sem,a0s,c7N,q0,q1,q2,q3,q4,q5,q6]) rfl FF.out.2
 ·have HF:=a0b (ERR.out an (by rw[HD.out,if_pos a1]));have a1':(an==0)=false:=by simpa using a1
  have a1'':(an != 0)=true:=by simpa using a1
  obtain⟨q0,q1,q2,q3,q4,q5,q6,fq⟩:=Q1.out;clear a1
  go_wp2_with fail
  exact bodyPost_ret (v:=a0s an 0 0 c7N c7N c7N c7N) (by simp[results,Tryz.results178,go_sem,a0s,c7N,q0,q1,q2,q3,q4,q5,q6]) rfl HF.out
end Go.Proofs.YtfigmlfdnickmaaGreatDoor
