import Derived.Test.YtfigmlfdnickmaaGreatDoorL06
import Derived.RangeFuncKeeps
import Derived.RangeFuncBound
import Derived.RangeFuncLeaves
import Derived.RangeFuncBox
import Derived.Shelf.Abstract
import Derived.OwnWalkIn
import Derived.TacticsInMore
import Derived.LoopNIn
import Derived.LoopIn
import Derived.Deep.CutRange
import Derived.Deep.RegionWith
import Derived.Deep.RegionHeld3
import Derived.Maps.AppendAt
import Derived.Deep.AppendLies
import Derived.Lib.SmallJoins
import Derived.Lib.SliceRun
import Derived.Shelf.RegionOpen
set_option maxRecDepth 100000
set_option maxHeartbeats 8000000
open Go.Proofs.Tryz
open _root_ renaming ByteArray->U3,List->U4,Option->U5,Nat->U7,Int->U8,if_neg->U9,if_pos->Va
open Option renaming none->Vc,some->Vd,map_some->Ys,mem_toList->WV
open Bool renaming false->Ve,true->Vf
open Go renaming World->Vg,Value->Vh,Calls->Vj,Value->Zf
open Go.RowKit renaming Below->Vi
open List renaming map_append->Wq,getElem_append_left->Zg,size_toArray->Zj,length_cons->V5,length_nil->V9,push_toArray->Zo,append_toArray->Zp,nil_append->Zq,cons_append->VM,append_nil->X4,append_assoc->VY,mem_append->VA,takeWhile_cons->Zv,take_of_length_le->Wh,getLast?_eq_some_getLast->Zx,getLastD_eq_getLast?->Zy,length_take->Yo,length_pos_iff->Zz,getElem?_map->Yr,mem_singleton->YC,getElem?_append_right->Wy,any_eq_false->ZA,any_eq_true->XH,getElem_mem->ZB,flatMap_append->Ww,map_eq_nil_iff->ZC,map_eq_append_iff->ZD,length_append->V4,getElem_of_mem->XY,getElem_append_right->ZE,mem_map->Wk
open List.Pairwise renaming nil->XZ
open Go.World renaming block_lt_of_cell?->Vq,cell?->VK,alloc_heap_new->Zt,size_alloc->WW,ownsRow_nil->WJ
open Go.Code renaming wp->Y9
open Go.Instr renaming lookup->YI
open Go.IntKind renaming i64->Vo
open Int renaming tmod_eq_emod_of_nonneg->Zh
open Go.Oper renaming semAt_some->Zi
open Nat renaming reduceAdd->Zk,reduceSub->Zl,sub_self->Zr,le_trans->Vp,zero_le->Wg
open Array renaming replicate_succ->Zm,replicate_zero->Zn,getElem?_eq_some_iff->Y8
open Go.Fence renaming wide->Zs
open Go.Value renaming int->V3,ownBlock->WH
open Go.Boxed renaming new->Zu
open Go.KeepsFrom renaming refl->Zw
open Go.Joins renaming ownsRow_form->Yp,ownsRow_le->YD
open Go.Value.slice renaming injEq->Yq
open ByteArray renaming empty->YM
namespace Go.Proofs.YtfigmlfdnickmaaGreatDoor
variable{name:U3}{la mo u x:U8}{p:U8->Bool}{l:U4 (aA.aL × Zf)}{L:U4 (U8 × U8)}{xs:U4 Zf}{B Bn Q b d e i k m n n₀:U7}{aM:U7->U5 aW}{rw_:Raw}{s:aA.St}{v v':Zf}{W Z w w' w1 w3 wx:Vg}
open Go.RowKit
open aA (aL St dB kept dZ cS cN gC cA bW gI ec gv nj Inv)
theorem Ck:∀ (n:U7)(a c:U8),aG.canon n (fun _=>0) a c=.nil
 |0,_,_=>by simp[aG.canon,aG.mk,aG.isNil]
 |n+1,a,c=>by
  simp only[aG.canon];have g:=Ck n a (aG.aS a c);have f:=Ck n (aG.aS a c) c;rw[g,f];simp[aG.mk,aG.isNil]
theorem QM:js (fun _=>0)=.nil:=Ck 20 0 1048320
theorem Ij{name:U3}:∀ {es:U4 aL},(∀ e∈es,cA name e=Ve)->cN name es=fun _=>0
 |[],_=>by funext p;rfl
 |e :: es,h=>by
  funext p
  have ih:=congrFun (Ij (name:=name) (es:=es) (fun x a=>h x (List.mem_cons_of_mem _ a))) p;simp only[cN,h e List.mem_cons_self,ih];rfl
theorem Of.aT{r:Raw}(h:Of s r){a:U7}(q:∀ t∈r.tg,t.name≠name):Of { s with ts:=s.ts++[(name,u)] } { r with tg:=r.tg++[⟨name,u,a,fun _=>0,.nil⟩] }:=by
 have j:∀ e∈s.es,cA name e=Ve:=fun e D=>by
  obtain⟨g,C,rfl⟩:=h.get D;obtain⟨i,o,E,f⟩:=h.tb g C;have:bW g.e.aT name=Ve:=pS.2 (fun c=>q _ (zg o) (by rw[E,c]));simp[cA,this]
 refine⟨h.now,h.given,by show (r.tg++[_]).map _=_;rw[Wq,h.ts];rfl,h.es,fun i o=>?_,fun g C=>?_⟩
 ·have y:i<r.tg.length+1:=by simpa using o
  by_cases e:i<r.tg.length
  ·have f:(r.tg++[(⟨name,u,a,fun _=>0,.nil⟩:TG)])[i]'(by simpa using y)=r.tg[i]:=Zg e;show (r.tg++[(⟨name,u,a,fun _=>0,.nil⟩:TG)])[i].A=cN (r.tg++[(⟨name,u,a,fun _=>0,.nil⟩:TG)])[i].name s.es/\gC (r.tg++[(⟨name,u,a,fun _=>0,.nil⟩:TG)])[i].name s.es (iW r.eg) (r.tg++[(⟨name,u,a,fun _=>0,.nil⟩:TG)])[i].T;rw[f];exact h.th i e
  ·have c:i=r.tg.length:=UT
   subst c;have f:(r.tg++[(⟨name,u,a,fun _=>0,.nil⟩:TG)])[r.tg.length]'UU=⟨name,u,a,fun _=>0,.nil⟩:=UU
   show (r.tg++[(⟨name,u,a,fun _=>0,.nil⟩:TG)])[r.tg.length].A=cN (r.tg++[(⟨name,u,a,fun _=>0,.nil⟩:TG)])[r.tg.length].name s.es/\gC (r.tg++[(⟨name,u,a,fun _=>0,.nil⟩:TG)])[r.tg.length].name s.es (iW r.eg) (r.tg++[(⟨name,u,a,fun _=>0,.nil⟩:TG)])[r.tg.length].T;rw[f];refine⟨(Ij j).symm,XZ,fun z=>?_⟩;constructor
   ·intro G;simp[aE.bS] at G
   ·rintro ⟨e,D,F,_⟩;rw[j e D] at F;cases F
 ·obtain⟨i,o,E,f⟩:=h.tb g C;have c:(r.tg++[(⟨name,u,a,fun _=>0,.nil⟩:TG)])[i]'UZ=r.tg[i]:=Zg o;refine⟨i,(by show i<(r.tg++[_]).length;simp;omega),?_,?_⟩
  ·exact (congrArg TG.name c).trans E
  ·exact f.trans (congrArg TG.tb c).symm
theorem G5{r:Raw}(h:jG r.tg name=Vc):∀ t∈r.tg,t.name≠name:=by
 intro t ht e;rw[sQ] at h
 cases a:r.tg.find? fun t=>bW t.name name with
 |none=>exact (List.find?_eq_none.1 a t ht) (sK.2 e)
 |some y=>rw[a] at h;cases h
theorem dS.yZ{r:Raw}(h:dS w d s r aM)(k:Vi w.heap.size w w1)(P:name.size<=1000)(ht:jG r.tg name=Vc)(hl:r.tg.length<4)(F:Q7 w1 (w.heap.size+1)):
  ∃ m,w1.cell? ⟨d,2,Vc⟩=Vd (.map (Vd m))/\∃ w3,(Instr.mapUpdate 137 (.map (Vd m)) (.string name) (.pointer (Vd ⟨w1.heap.size,0,Vc⟩))).run prog (w1.alloc (.cells #[.string name,.int .i64 u,.pointer Vc,.pointer Vc] 243)).drew=.ok () w3/\Q7 w3 (w.heap.size+1)/\∀ a b c e f g i,dX w d aM ({ s with ts:=s.ts++[(name,u)] },aA.bO.num 0) (bC 0 0 0 (.slice Vc 0 0) (.slice Vc 0 0) (.slice Vc 0 0) (.slice Vc 0 0)) (cK w3 (w.heap.size+1) a b c e f g i):=by
 have G:=h.dk.later k;have A:Vi w1.heap.size w1 (w1.alloc (.cells #[.string name,.int .i64 u,.pointer Vc,.pointer Vc] 243)).drew:=((zr _ _).alloc (zq _) _).drew;have J:=G.later A;have S:=cC w1 (.cells #[.string name,.int .i64 u,.pointer Vc,.pointer Vc] 243);have j:(w1.alloc (.cells #[.string name,.int .i64 u,.pointer Vc,.pointer Vc] 243)).drew.heap[w1.heap.size]?=Vd (.cells #[.string name,.int .i64 u,.pointer Vc,.pointer Vc] 243 (0,0)):=S;have z:Q7 (w1.alloc (.cells #[.string name,.int .i64 u,.pointer Vc,.pointer Vc] 243)).drew (w.heap.size+1):=F.later (A.block _ (Vq _ _ F.q0));have O:w.heap.size+1<w1.heap.size:=Vq _ _ F.q0;obtain⟨m0,_,H,_⟩:=G.mt;obtain⟨m,f,M,K,a3,Y⟩:=J.mt
 have R:m0=m:=by
  have e:=A.cell (p:=⟨d,2,Vc⟩) (Vq _ _ H);rw[H,M] at e
  injection e with e;injection e with e;injection e with e
  exact e.symm
 subst R;refine⟨m0,H,?_⟩;generalize (w1.alloc (.cells #[.string name,.int .i64 u,.pointer Vc,.pointer Vc] 243)).drew=Z at *;obtain⟨w3,y,N,I⟩:=a3.jS AY underlying137 U0 (Bb P) (by unfold mE;trivial) w1.heap.size
 have T:TH Z w1.heap.size name u (fun _=>0) .nil Vc Vc [] []:=by
  refine⟨?_,?_,?_,?_,fun o=>frozen_of_row _ _ _ _ _ j,?_,⟨rfl,rfl⟩,by simp,by simp,by simp⟩
  ·simp only[VK,j];rfl
  ·simp only[VK,j];rfl
  ·simp only[VK,j];rfl
  ·simp only[VK,j];rfl
  ·rw[QM];exact⟨rfl,rfl⟩
 obtain⟨c2,X,V,U⟩:=J.uw (t:=⟨name,u,w1.heap.size,fun _=>0,.nil⟩) (B:=w1.heap.size) M K Y T (G.none (zq _)) (zq _) (G5 ht) N I;have q:aM (w.heap.size+1)=Vc:=h.dk.none UT;have D:w.heap.size+1≠m0:=fun e=>by rw[e,K] at q;cases q
 have C:w.heap.size+1<Z.heap.size:=Vq _ _ z.q0;have E:w3.heap[w.heap.size+1]?=Z.heap[w.heap.size+1]?:=I.block _ C (fun e=>D (Option.some.inj e));refine⟨w3,y,z.later E,fun a b c e f g i=>vQ X (h.of.aT (G5 ht)) h.wl h.hl (((Step.below k).trans (Step.below A)).trans (V.any k.size)) UT (U _ q (by show w.heap.size+1≠w1.heap.size;omega)) 0 0 a b c e f g i⟩
theorem O2(w:Vg):(zeroValue 198).run prog w=.ok (.pointer Vc) w:=by simp[go_sem]
theorem Rk{r:Raw}(h:dS w d s r aM)(name:U3)(hn:name.size<=1000)(u:U8):
  Vj prog 91 #[.pointer (Vd ⟨d,0,Vc⟩),.agg #[.string name,.int .i64 u]] w fun e w'=>∃ v,e=.returned v/\dX w d aM (aA.aU s (.aT name u)) v w':=by
 obtain⟨hX,I,q,_⟩:=uP w (.cells #[.string name,.int .i64 u] 149);have O:=aZ q 0 rfl;have N:=aZ q 1 rfl;have g:=aC h;have y:=aC (zA hX I);clear h hX I q
 go_in
 go_upto_region 1 with fail
 change Y9 _ _ _ _ ((w.alloc (.cells #[.string name,.int .i64 u] 149)).alloc aX);generalize (w.alloc (.cells #[.string name,.int .i64 u] 149)).alloc aX=X at *;have P:=g.out.dk.later y.out.1;obtain⟨m,f,T,a2,K,S⟩:=P.mt;have a:=(K.block (w':=X.drew) rfl).look AY underlying137 (O2 X.drew) (Bb hn);have j:=(K.block (w':=X.drew) rfl).len underlying137;rw[S name] at a;have U:Hid (Q7 X.drew (w.heap.size+1)):=Q7.of y.out.2;have V:Hid (Vi w.heap.size w X.drew):=y.out.1.drew;have aa:=g.out.inv.tl;rw[<- g.out.of.len] at aa
 cases ht:jG r.tg name with
 |some b =>
  rw[ht] at a;have c:(YI 137 (.map (Vd m)) (.string name) Ve).run prog X.drew=.ok (.pointer (Vd ⟨b,0,Vc⟩)) X.drew:=a
  have M:Hid (aA.aU s (.aT name u)=(s,aA.bO.error 4)):=by
   obtain⟨i,hi,e1,e2,e3⟩:=Io g.out.of g.out.inv.tn ht;have ab:(r.tg[i].name,r.tg[i].aH)∈s.ts:=by rw[<- g.out.of.jR hi];exact zg _
   have:=(g.out.inv.tu _ ab).1;simp only[Hid,aA.aU];rw[Va (by rw[e3];omega)]
  clear a K S ht P y j
  go_big_region
  clear c O N T
  go_wp2_with fail
  refine (lH 4 X.drew).mono ?_;rintro e w2 ⟨rfl,o⟩;have t:=aC (g.out.refuse V.out U.out o M.out);obtain⟨G,F,E,D,C,A,z,J⟩:=t.out.1;simp only[bC]
  go_wp2_with fail
  exact cO results91 ⟨G,F,E,D,C,A,z,J⟩ ⟨_,rfl,t.out.2⟩
 |none =>
  rw[ht] at a;have c:(YI 137 (.map (Vd m)) (.string name) Ve).run prog X.drew=.ok (.pointer Vc) X.drew:=a;have af:=Im g.out.of ht;have b1:X.drew.cell? ⟨d,2,Vc⟩=Vd (.map (Vd m)):=T;have z0:X.drew.cell? ⟨w.heap.size,0,Vc⟩=Vd (.string name):=O;have z1:X.drew.cell? ⟨w.heap.size,1,Vc⟩=Vd (.int .i64 u):=N
  by_cases h4:r.tg.length=4
  ·rw[h4] at j
   have M:Hid (aA.aU s (.aT name u)=(s,aA.bO.error 5)):=by
    simp only[Hid,aA.aU];rw[U9 UT,Va (by rw[<- g.out.of.len];exact h4)]
   clear a K S ht P y
   go_big_region
   clear c O N T;generalize X.drew=Y at *
   go_wp2_with fail
   refine (lH 5 Y).mono ?_;rintro e w2 ⟨rfl,o⟩;have t:=aC (g.out.refuse V.out U.out o M.out);obtain⟨G,F,E,D,C,A,z,J⟩:=t.out.1;simp only[bC]
   go_wp2_with fail
   exact cO results91 ⟨G,F,E,D,C,A,z,J⟩ ⟨_,rfl,t.out.2⟩
  ·have M:Hid (aA.aU s (.aT name u)=({ s with ts:=s.ts++[(name,u)] },aA.bO.num 0)):=by
    simp only[Hid,aA.aU];rw[U9 UT,U9 (by rw[<- g.out.of.len];exact h4)]
   have HT:=aC ht;have ag:(r.tg.length:U8)<4:=UT
   clear a K S ht P y
   go_big_region
   clear c O N T;generalize X.drew=Y at *
   go_wp2_with fail
   refine (Hv name Y UT).mono ?_;rintro e w1 ⟨rfl,R⟩;have ac:w.heap.size+1<Y.heap.size:=Vq _ _ U.out.q0;obtain⟨m2,g1,w3,H,q7,hf⟩:=g.out.yZ (u:=u) (V.out.trans (R.mono V.out.size)) hn HT.out UT (U.out.later (R.block _ ac));have g2:w1.cell? ⟨w.heap.size,1,Vc⟩=Vd (.int .i64 u):=aN R z1;have t:Hid (dX w d aM (aA.aU s (.aT name u)) (bC 0 0 0 (.slice Vc 0 0) (.slice Vc 0 0) (.slice Vc 0 0) (.slice Vc 0 0)) (cK w3 (w.heap.size+1) (.int .i64 0) (.int .i64 0) (.int .i64 0) (.slice Vc 0 0) (.slice Vc 0 0) (.slice Vc 0 0) (.slice Vc 0 0))):=by rw[M.out];exact hf _ _ _ _ _ _ _
   have ka:Vi w1.heap.size w1 (w1.alloc (.cells #[.string name,.int .i64 u,.pointer Vc,.pointer Vc] 243)):=(zr _ _).alloc (zq _) _;have ae:=aN ka g1;have ad:=aN ka g2;clear hf R j z0 z1 b1 ka
   go_upto_region 6 with fail
   go_big_region
   clear H g1 g2 ae ad;obtain⟨G,F,E,D,C,A,z,J⟩:=q7
   go_wp2_with fail
   exact cO results91 ⟨G,F,E,D,C,A,z,J⟩ ⟨_,rfl,t.out⟩
theorem TN{r:Raw}(h:dS w d s r aM)(name:U3)(E:name.size<=1000)(u:U8):
  Vj prog 64 #[.pointer (Vd ⟨d,0,Vc⟩),.iface 149 (.agg #[.string name,.int .i64 u])] w fun e w'=>∃ v,e=.returned v/\dX w d aM (aA.aU s (.aT name u)) v w':=by
 have c:=aC (h.pZ (.cells #[.string name,.int .i64 u] 149));have f:=aC (Rk c.out.1 name E u);clear h;unfold aX at f c;have a:=pg underlying149
 go_in
 go_wp2_with fail
 refine f.out.mono ?_;rintro e H ⟨v,rfl,j⟩;obtain⟨O,at_,I,Y,X,V,U,N,M,K,J,T,S,R,P,rfl,o,g⟩:=j.pV c.out.2;have G:=aC g;clear j g f a;obtain⟨D,C,A,z,y,t,q,F⟩:=o;simp only[bC]
 go_wp2_with fail
 exact cO results64 ⟨D,C,A,z,y,t,q,F⟩ ⟨_,rfl,G.out⟩
theorem Te{r:Raw}(h:dS w d s r aM)(name:U3)(F:name.size<=1000)(u fr til:U8)(G:aA.jz (.enter 1 name u fr til 0)):
  Vj prog 64 #[.pointer (Vd ⟨d,0,Vc⟩),.iface 154 (.agg #[.string name,.int .i64 u,.int .i64 fr,.int .i64 til])] w fun e w'=>∃ v,e=.returned v/\dX w d aM (aA.aU s (.enter 1 name u fr til 0)) v w':=by
 have f:=aC (h.pZ (.cells #[.string name,.int .i64 u,.int .i64 fr,.int .i64 til] 154));have g:=aC (PA f.out.1 name F u fr til G);clear h;unfold aX at g f;have c:=qt 154 UV;have a:=pg underlying154
 go_in
 go_wp2_with fail
 refine g.out.mono ?_;rintro e J ⟨v,rfl,o⟩;obtain⟨R,at_,K,a1,a2,Y,X,P,O,N,M,V,U,T,S,rfl,q,j⟩:=o.pV f.out.2;have I:=aC j;clear o j g c a;obtain⟨E,D,C,A,z,y,t,H⟩:=q;simp only[bC]
 go_wp2_with fail
 exact cO results64 ⟨E,D,C,A,z,y,t,H⟩ ⟨_,rfl,I.out⟩
theorem TW{r:Raw}(h:dS w d s r aM)(id:U8)(t:0<=id/\id<=9999999):
  Vj prog 64 #[.pointer (Vd ⟨d,0,Vc⟩),.iface 168 (.agg #[.int .i64 id])] w fun e w'=>∃ v,e=.returned v/\dX w d aM (aA.aU s (.cancel id)) v w':=by
 have y:=aC (h.pZ (.cells #[.int .i64 id] 168));have z:=aC (Sg y.out.1 id t);clear h;unfold aX at z y;have g:=qt 168 UV;have q:=rZ 168 UV;have o:=sb 168 UV;have j:=rW 168 UV;have f:=tw 168 UV;have c:=tj 168 UV;have a:=pg underlying168
 go_in
 go_wp2_with fail
 refine z.out.mono ?_;rintro e O ⟨v,rfl,C⟩;obtain⟨V,at_,P,a1,a2,a3,a4,U,T,S,R,c1,c2,Y,X,rfl,D,A⟩:=C.pV y.out.2;have N:=aC A;clear C A z g q o j f c a;obtain⟨K,J,I,H,G,F,E,M⟩:=D;simp only[bC]
 go_wp2_with fail
 exact cO results64 ⟨K,J,I,H,G,F,E,M⟩ ⟨_,rfl,N.out⟩
theorem Ti{r:Raw}(h:dS w d s r aM)(name:U3)(O:name.size<=1000)(fr til:U8)(P:aA.jz (.cY name fr til)):
  Vj prog 64 #[.pointer (Vd ⟨d,0,Vc⟩),.iface 176 (.agg #[.string name,.int .i64 fr,.int .i64 til])] w fun e w'=>∃ v,e=.returned v/\dX w d aM (aA.aU s (.cY name fr til)) v w':=by
 have A:=aC (h.pZ (.cells #[.string name,.int .i64 fr,.int .i64 til] 176));have C:=aC (Qp A.out.1 name O fr til P);clear h;unfold aX at C A;have o:=qt 176 UV;have z:=rZ 176 UV;have y:=sb 176 UV;have q:=rW 176 UV;have f:=tw 176 UV;have c:=tj 176 UV;have g:=uZ 176 UV;have t:=wS 176 UV;have a:=xe 176 UV;have j:=pg underlying176
 go_in
 go_wp2_with fail
 refine C.out.mono ?_;rintro e T ⟨v,rfl,E⟩;obtain⟨er,at_,U,a1,a2,a3,a4,n1,Y,X,V,c1,c2,c3,c4,rfl,F,D⟩:=E.pV A.out.2;have S:=aC D;clear E D C o z y q f c g t a j;obtain⟨N,M,K,J,I,H,G,R⟩:=F;simp only[bC]
 go_wp2_with fail
 exact cO results64 ⟨N,M,K,J,I,H,G,R⟩ ⟨_,rfl,S.out⟩
theorem Tf{r:Raw}(h:dS w d s r aM)(name:U3)(P:name.size<=1000)(u long fr til:U8)(R:aA.jz (.find name u long fr til)):
  Vj prog 64 #[.pointer (Vd ⟨d,0,Vc⟩),.iface 178 (.agg #[.string name,.int .i64 u,.int .i64 long,.int .i64 fr,.int .i64 til])] w fun e w'=>∃ v,e=.returned v/\dX w d aM (aA.aU s (.find name u long fr til)) v w':=by
 have C:=aC (h.pZ (.cells #[.string name,.int .i64 u,.int .i64 long,.int .i64 fr,.int .i64 til] 178));have D:=aC (Pq C.out.1 name P u long fr til R);clear h;unfold aX at D C;have o:=qt 178 UV;have A:=rZ 178 UV;have z:=sb 178 UV;have q:=rW 178 UV;have f:=tw 178 UV;have c:=tj 178 UV;have g:=uZ 178 UV;have y:=wS 178 UV;have a:=xe 178 UV;have t:=Aa 178 UV;have j:=pg underlying178
 go_in
 go_wp2_with fail
 refine D.out.mono ?_;rintro e U ⟨v,rfl,F⟩;obtain⟨er,at_,V,a1,a2,a3,a4,n1,n2,Y,X,c1,c2,c3,c4,rfl,G,E⟩:=F.pV C.out.2;have T:=aC E;clear F E D o A z q f c g y a t j;obtain⟨O,N,M,K,J,I,H,S⟩:=G;simp only[bC]
 go_wp2_with fail
 exact cO results64 ⟨O,N,M,K,J,I,H,S⟩ ⟨_,rfl,T.out⟩
theorem Um(y m:U8)(w:Vg)(ht:gy w):
  Vj prog 294 #[.int .i64 y,.int .i64 m] w fun e w'=>e=.returned (.bool (Rd.reached y m))/\w'=w:=by
 cases h:Cal.ok y m 1
 ·have a:=aC (B5 y m 1 w ht h);have e:Rd.reached y m=Ve:=by unfold Rd.reached;rw[h];rfl
  rw[e];clear h ht e
  go_in
  go_wp2_with fail
  refine a.out.mono ?_;rintro e w1 ⟨rfl,rfl⟩
  go_wp2
  go_ret;exact⟨rfl,rfl⟩
 ·have a:=aC (Cj y m 1 w ht h);have e:Rd.reached y m=decide (Cal.num y m 1<728):=by unfold Rd.reached;rw[h];rfl
  rw[e];clear h ht e;generalize Cal.num y m 1=z at *
  go_in
  go_wp2_with fail
  refine a.out.mono ?_;rintro e w1 ⟨rfl,rfl⟩
  go_wp2
  go_ret;exact⟨rfl,rfl⟩
theorem Hj(y m ev:U8)(w:Vg)(C:0<=y)(A:y<=100000)(z:1<=m)(t:m<=12)(r:1<=ev)(q:ev<=99):
  Vj prog 295 #[.int .i64 y,.int .i64 m,.int .i64 ev] w fun e w'=>e=.returned (.tuple #[.int .i64 (Rd.ng y m ev),.int .i64 (Rd.lW m ev)])/\w'=w:=by
 have o:Vo.wrap (m-1)=m-1:=cG UT UT;have j:Vo.wrap (m-1+ev)=m-1+ev:=cG UT UT;have h:Vo.wrap ((m-1+ev).tdiv 12)=(m-1+ev) / 12:=by rw[Int.tdiv_eq_ediv_of_nonneg UT];exact cG UT UT
 have g:Vo.wrap (y+(m-1+ev) / 12)=y+(m-1+ev) / 12:=cG UT UT;have f:(m-1+ev).tmod 12=(m-1+ev) % 12:=Zh UT;have c:Vo.wrap ((m-1+ev) % 12)=(m-1+ev) % 12:=cG UT UT;have a:Vo.wrap ((m-1+ev) % 12+1)=(m-1+ev) % 12+1:=cG UT UT;unfold Rd.ng Rd.lW
 go_in
 go_wp2
 go_ret2;simp
def ig(r:Rd.bL):Vh:=.agg #[.int .i64 r.pc,.int .i64 r.ev,.bool (aI r.acc 0),.bool (aI r.acc 1),.bool (aI r.acc 2),.bool (aI r.acc 3),.bool (aI r.acc 4),.bool (aI r.acc 5),.bool (aI r.acc 6),.int .i64 r.fr,.int .i64 r.mn,.int .i64 r.mi,.int .i64 r.ti,.int .i64 r.un]
def jK(r:Rd.bL)(d:U8):U8 × U8:=(d*1440+r.mn,d*1440+r.mn+r.mi)
theorem Ix(r:Rd.bL)(a:Rd.fu r)(d:U8)(z:0<=d)(y:d<100000)(w:Vg):
  Vj prog 200 #[ig r,.int .i64 d] w fun e w'=>e=.returned (.agg #[.int .i64 (jK r d).1,.int .i64 (jK r d).2])/\Vi w.heap.size w w':=by
 have g:=a.m0;have f:=a.m1;have t:=a.i1;have q:=a.i2;have o:Vo.wrap (d*1440)=d*1440:=cG UT UT;have j:Vo.wrap (d*1440+r.mn)=d*1440+r.mn:=cG UT UT;have h:Vo.wrap (d*1440+r.mn+r.mi)=d*1440+r.mn+r.mi:=cG UT UT;have c:Hid (Vi w.heap.size w ((w.alloc (.cells #[.int .i64 r.pc,.int .i64 r.ev,.bool (aI r.acc 0),.bool (aI r.acc 1),.bool (aI r.acc 2),.bool (aI r.acc 3),.bool (aI r.acc 4),.bool (aI r.acc 5),.bool (aI r.acc 6),.int .i64 r.fr,.int .i64 r.mn,.int .i64 r.mi,.int .i64 r.ti,.int .i64 r.un] 162)).alloc (.cells #[.int .i64 (d*1440+r.mn),.int .i64 (d*1440+r.mn+r.mi)] 60))):=((zr _ _).alloc (zq _) _).alloc UU _;clear a;unfold ig
 go_in
 go_wp2_with fail
 exact bodyPost_ret (v:=.agg #[.int .i64 (d*1440+r.mn),.int .i64 (d*1440+r.mn+r.mi)]) (by simp[results,results200,go_sem]) rfl ⟨rfl,c.out⟩
def bN(r:Rd.bL):Obj:=(.cells #[.int .i64 r.pc,.int .i64 r.ev,.bool (aI r.acc 0),.bool (aI r.acc 1),.bool (aI r.acc 2),.bool (aI r.acc 3),.bool (aI r.acc 4),.bool (aI r.acc 5),.bool (aI r.acc 6),.int .i64 r.fr,.int .i64 r.mn,.int .i64 r.mi,.int .i64 r.ti,.int .i64 r.un] 162 (0,0))
theorem tK{r:Rd.bL}(h:w.heap[b]?=Vd (bN r)):w.cell? ⟨b,0,Vc⟩=Vd (.int .i64 r.pc):=by unfold bN at h;simp only[VK,h];rfl
theorem oJ{r:Rd.bL}(h:w.heap[b]?=Vd (bN r)):w.cell? ⟨b,1,Vc⟩=Vd (.int .i64 r.ev):=by unfold bN at h;simp only[VK,h];rfl
theorem tL{r:Rd.bL}(h:w.heap[b]?=Vd (bN r)):w.cell? ⟨b,2,Vc⟩=Vd (.bool (aI r.acc 0)):=by unfold bN at h;simp only[VK,h];rfl
theorem tM{r:Rd.bL}(h:w.heap[b]?=Vd (bN r)):w.cell? ⟨b,3,Vc⟩=Vd (.bool (aI r.acc 1)):=by unfold bN at h;simp only[VK,h];rfl
theorem tN{r:Rd.bL}(h:w.heap[b]?=Vd (bN r)):w.cell? ⟨b,4,Vc⟩=Vd (.bool (aI r.acc 2)):=by unfold bN at h;simp only[VK,h];rfl
theorem tO{r:Rd.bL}(h:w.heap[b]?=Vd (bN r)):w.cell? ⟨b,5,Vc⟩=Vd (.bool (aI r.acc 3)):=by unfold bN at h;simp only[VK,h];rfl
theorem tP{r:Rd.bL}(h:w.heap[b]?=Vd (bN r)):w.cell? ⟨b,6,Vc⟩=Vd (.bool (aI r.acc 4)):=by unfold bN at h;simp only[VK,h];rfl
theorem tQ{r:Rd.bL}(h:w.heap[b]?=Vd (bN r)):w.cell? ⟨b,7,Vc⟩=Vd (.bool (aI r.acc 5)):=by unfold bN at h;simp only[VK,h];rfl
theorem tR{r:Rd.bL}(h:w.heap[b]?=Vd (bN r)):w.cell? ⟨b,8,Vc⟩=Vd (.bool (aI r.acc 6)):=by unfold bN at h;simp only[VK,h];rfl
theorem pP{r:Rd.bL}(h:w.heap[b]?=Vd (bN r)):w.cell? ⟨b,9,Vc⟩=Vd (.int .i64 r.fr):=by unfold bN at h;simp only[VK,h];rfl
theorem vJ{r:Rd.bL}(h:w.heap[b]?=Vd (bN r)):w.cell? ⟨b,10,Vc⟩=Vd (.int .i64 r.mn):=by unfold bN at h;simp only[VK,h];rfl
theorem vK{r:Rd.bL}(h:w.heap[b]?=Vd (bN r)):w.cell? ⟨b,11,Vc⟩=Vd (.int .i64 r.mi):=by unfold bN at h;simp only[VK,h];rfl
theorem vL{r:Rd.bL}(h:w.heap[b]?=Vd (bN r)):w.cell? ⟨b,12,Vc⟩=Vd (.int .i64 r.ti):=by unfold bN at h;simp only[VK,h];rfl
theorem vM{r:Rd.bL}(h:w.heap[b]?=Vd (bN r)):w.cell? ⟨b,13,Vc⟩=Vd (.int .i64 r.un):=by unfold bN at h;simp only[VK,h];rfl
open Go.RowKit Go.Shelf
attribute [local go_sem] Zi
def RK(n₀ Bn:U7)(W a:Vg):Prop:=Vi n₀ W a/\a.heap[Bn]?=W.heap[Bn]?
theorem QB(F:Fence)(n:U7)(T:F.fn 296)(z:F.round=Vc)(hn:1<=n)(l Bn n₀:U7)(r:Rd.bL)(o:Rd.fu r)(J K:U4 U8->Vg->Prop)
  (P:∀ pre x W,J pre W->pre.length<(Rd.iF r.ev 800 r.fr).length->YieldAt F (n-1) prog l #[.int .i64 x] W fun e g =>
   (e=.returned (.bool Vf)/\J (pre++[x]) g/\RK n₀ Bn W g)\/(e=.returned (.bool Ve)/\K (pre++[x]) g))
  (W:Vg) (E:W.heap[Bn]?=Vd (bN r)) (U:J [] W):
  CallsIn F n prog 296 #[.func (.yield l) #[] #[],.pointer (Vd ⟨Bn,0,Vc⟩)] W fun e g=>(∃ v,e=.returned v) /\
   ((∃ ys,ys=Rd.iF r.ev 800 r.fr/\J ys g)\/(∃ pre,pre <+: Rd.iF r.ev 800 r.fr/\K pre g)):=by
 have c9:=pP E;have e1:=o.e1;have e2:=o.e2;have V:=o.f0;have f1:=o.f1;clear o;generalize R:Rd.iF r.ev 800 r.fr=S at *;refine callsIn_of_wp func296 rfl T ?_ z;simp only[ntmps296,Zj,V5,V9,Zk,Zl,Zm,Zn,Zo,Zp,Zq,VM]
 gi_wp2
 gi_loopw [3] (fun v wr=>∃ (d:U8) (f:U7) (pre:U4 U8),v=.int .i64 d/\S=pre++Rd.iF r.ev f d/\0<=d/\d<=10000/\728<=d+f/\J pre wr/\wr.heap[Bn]?=Vd (bN r)) (fun v _=>(20000-intOf v).toNat)
 case atStart=>exact⟨r.fr,800,[],rfl,R.symm,V,by omega,by omega,U,E⟩
 case round =>
  obtain⟨d,f,pre,rfl,a,O,N,M,H,G⟩:=hrel
  by_cases h:d<728
  ·obtain⟨c,rfl⟩:∃ c,f=c+1:=⟨f-1,by omega⟩;have y:Rd.iF r.ev (c+1) d=d :: Rd.iF r.ev c (d+r.ev):=by simp[Rd.iF,h]
   rw[y] at a;have X:Vo.wrap (d+r.ev)=d+r.ev:=cG UT UT;obtain⟨fn,D,t,I,Y,A⟩:=P pre d wr H (by rw[a];simp)
   gi_wp2
   refine A.mono ?_;rintro e W3 (⟨rfl,C,j⟩|⟨rfl,q⟩)
   ·have c1:=oJ (j.2.trans G)
    gi_wp2
    go_roundw
    case rel=>exact⟨d+r.ev,c,pre++[d],by simp,by simp[a],by omega,by omega,by omega,C,j.2.trans G⟩
    case measure=>simp[intOf];omega
   ·gi_wp2
    refine bodyPost_ret (results_none rfl _ _ _) rfl ?_;exact⟨⟨_,rfl⟩,.inr ⟨pre++[d],⟨Rd.iF r.ev c (d+r.ev),by simp[a]⟩,q⟩⟩
  ·have y:Rd.iF r.ev f d=[]:=by cases f <;> simp[Rd.iF,h]
   rw[y,X4] at a;subst a
   gi_wp2
   go_end0
   exact⟨⟨_,rfl⟩,.inl H⟩
attribute [local go_sem] Zi
theorem Ge{r:Rd.bL}(h:w.heap[b]?=Vd (bN r)):∀ i:U7,i<7->w.cell? ⟨b,2+i,Vc⟩=Vd (.bool (aI r.acc i))
 |0,_=>tL h
 |1,_=>tM h
 |2,_=>tN h
 |3,_=>tO h
 |4,_=>tP h
 |5,_=>tQ h
 |6,_=>tR h
 |i+7,hi=>by omega
theorem SG(F:Fence)(n:U7)(h6:F.fn 292)(aa:F.round=Vc)(hn:1<=n)(l Bn n₀:U7)(r:Rd.bL)(P:Rd.fu r)(J Jx:U4 U8->Vg->Prop)
  (hY:∀ pre x W,J pre W->pre.length<(Rd.iv r.acc r.fr r.ev 800 (r.fr-r.fr % 7)).length->YieldAt F (n-1) prog l #[.int .i64 x] W fun e K =>
   (e=.returned (.bool Vf)/\J (pre++[x]) K/\RK n₀ Bn W K)\/(e=.returned (.bool Ve)/\Jx (pre++[x]) K))
  (W:Vg) (hr:W.heap[Bn]?=Vd (bN r)) (h0:J [] W):
  CallsIn F n prog 292 #[.func (.yield l) #[] #[],.pointer (Vd ⟨Bn,0,Vc⟩)] W fun e K=>(∃ v,e=.returned v) /\
   ((∃ ys,ys=Rd.iv r.acc r.fr r.ev 800 (r.fr-r.fr % 7)/\J ys K)\/(∃ pre,pre <+: Rd.iv r.acc r.fr r.ev 800 (r.fr-r.fr % 7)/\Jx pre K)):=by
 have X:=pP hr;have e1:=P.e1;have e2:=P.e2;have f0:=P.f0;have f1:=P.f1;clear P;have m1:r.fr.tmod 7=r.fr % 7:=Zh f0;have m2:Vo.wrap (r.fr % 7)=r.fr % 7:=cG UT UT;have m3:Vo.wrap (r.fr-r.fr % 7)=r.fr-r.fr % 7:=cG UT UT;have m4:Vo.wrap (r.ev*7)=r.ev*7:=cG UT UT;generalize hS:Rd.iv r.acc r.fr r.ev 800 (r.fr-r.fr % 7)=S at *;refine callsIn_of_wp func292 rfl h6 ?_ aa;simp only[ntmps292,Zj,V5,V9,Zk,Zl,Zm,Zn,Zo,Zp,Zq,VM]
 gi_wp2
 gi_loopw [3] (fun v wr=>∃ (d:U8) (f:U7) (pre:U4 U8),v=.int .i64 d/\S=pre++Rd.iv r.acc r.fr r.ev f d/\0<=d/\d<=10000/\r.fr<d+7/\728<=d+f/\J pre wr/\wr.heap[Bn]?=Vd (bN r)) (fun v _=>(20000-intOf v).toNat)
 case atStart=>exact⟨r.fr-r.fr % 7,800,[],rfl,hS.symm,by omega,by omega,by omega,by omega,h0,hr⟩
 case round =>
  obtain⟨a,f,pre,rfl,y,ae,ad,ab,ac,U,T⟩:=hrel;clear X hr h0
  by_cases O:a<728
  ·obtain⟨C,rfl⟩:∃ C,f=C+1:=⟨f-1,by omega⟩;have q1:Rd.iv r.acc r.fr r.ev (C+1) a=Rd.oy r.acc r.fr a++Rd.iv r.acc r.fr r.ev C (a+r.ev*7):=by simp[Rd.iv,O]
   rw[q1] at y;have k1:Vo.wrap (a+r.ev*7)=a+r.ev*7:=cG UT UT;have k2:Vo.wrap (a+7)=a+7:=cG UT UT;have X:=pP T
   by_cases hm:r.fr<=a
   ·have z:Rd.oy r.acc r.fr a=Rd.fU (fun d=>aI r.acc (d-a)) (7-0) (a+((0:U7):U8)):=by unfold Rd.oy;rw[show max a r.fr=a from by omega,show (a+7-a).toNat=7 from by omega];simp
    gi_wp2
    gi_loopw [4] (fun v wr=>∃ (i:U7) (c:U4 U8),v=.int .i64 (a+i)/\i<=7/\c++Rd.fU (fun d=>aI r.acc (d-a)) (7-i) (a+i)=pre++Rd.oy r.acc r.fr a/\J c wr/\wr.heap[Bn]?=Vd (bN r)) (fun v _=>(a+7-intOf v).toNat)
    case atStart=>exact⟨0,pre,(by first|(simp;done)|(simp;omega)),by omega,by rw[z],U,T⟩
    case round =>
     obtain⟨i,c,rfl,hi,j,o,g⟩:=hrel;clear U T X
     by_cases E:i<7
     ·have q:a+(i:U8)<a+7:=UT
      have N:=Ge g i E;have k3:Vo.wrap (a+(i:U8)-a)=i:=by rw[show a+(i:U8)-a=i from by omega];exact cG UT UT
      have k4:Vo.wrap (a+(i:U8)+1)=a+i+1:=cG UT UT;have hp:a+(i:U8)-a=i:=UT
      have Y:Rd.fU (fun d=>aI r.acc (d-a)) (7-i) (a+i)=(if aI r.acc i then [a+(i:U8)] else [])++Rd.fU (fun d=>aI r.acc (d-a)) (7-(i+1)) (a+((i+1:U7):U8)):=by
       rw[show 7-i=(7-(i+1))+1 from by omega,Rd.fU,hp,show a+((i+1:U7):U8)=a+i+1 from by omega]
       split <;> simp
      rw[Y] at j
      cases R:aI r.acc i
      ·rw[R] at N j
       gi_wp2
       refine⟨fun _ h=>(by cases h),?_⟩
       gi_wp2
       go_roundw
       case rel=>exact⟨i+1,c,by simp;omega,by omega,by simpa using j,o,g⟩
       case measure=>simp[intOf];omega
      ·rw[R] at N j;obtain⟨fn,M,A,V,hy,H⟩:=hY c (a+i) wr o (by rw[y,<- VY,<- j];simp)
       gi_wp2
       refine H.mono ?_;rintro e W3 (⟨rfl,I,D⟩|⟨rfl,t⟩)
       ·gi_wp2
        go_roundw
        case rel=>exact⟨i+1,c++[a+(i:U8)],by simp;omega,by omega,by simpa using j,I,D.2.trans g⟩
        case measure=>simp[intOf];omega
       ·gi_wp2
        refine bodyPost_ret (results_none rfl _ _ _) rfl ?_;exact⟨⟨_,rfl⟩,.inr ⟨c++[a+(i:U8)],⟨Rd.fU (fun d=>aI r.acc (d-a)) (7-(i+1)) (a+((i+1:U7):U8))++Rd.iv r.acc r.fr r.ev C (a+r.ev*7),by rw[y,<- VY,<- VY,<- j];simp⟩,t⟩⟩
     ·have q:¬ a+(i:U8)<a+7:=UT
      have c1:=oJ g;have e7:i=7:=UT
      subst e7;simp only[Zr,Rd.fU,X4] at j
      gi_wp2
      go_roundw
      case rel=>exact⟨a+r.ev*7,C,c,by simp,by rw[y,j,VY],by omega,by omega,by omega,by omega,o,g⟩
      case measure=>simp[intOf];omega
   ·have G:r.fr=a+((r.fr-a).toNat:U8):=UT
    have z:Rd.oy r.acc r.fr a=Rd.fU (fun d=>aI r.acc (d-a)) (7-(r.fr-a).toNat) (a+((r.fr-a).toNat:U8)):=by unfold Rd.oy;rw[<- G,show max a r.fr=r.fr from by omega,show (a+7-r.fr).toNat=7-(r.fr-a).toNat from by omega]
    have HW:=aC (zA G z);clear G z
    gi_wp2
    gi_loopw [4] (fun v wr=>∃ (i:U7) (c:U4 U8),v=.int .i64 (a+i)/\i<=7/\c++Rd.fU (fun d=>aI r.acc (d-a)) (7-i) (a+i)=pre++Rd.oy r.acc r.fr a/\J c wr/\wr.heap[Bn]?=Vd (bN r)) (fun v _=>(a+7-intOf v).toNat)
    case atStart=>exact⟨(r.fr-a).toNat,pre,(by first|(rw[<- HW.out.1];done)|(rw[<- HW.out.1];congr 1;omega)),by omega,by rw[HW.out.2],U,T⟩
    case round =>
     obtain⟨i,c,rfl,hi,j,o,g⟩:=hrel;clear U T X
     by_cases E:i<7
     ·have q:a+(i:U8)<a+7:=UT
      have N:=Ge g i E;have k3:Vo.wrap (a+(i:U8)-a)=i:=by rw[show a+(i:U8)-a=i from by omega];exact cG UT UT
      have k4:Vo.wrap (a+(i:U8)+1)=a+i+1:=cG UT UT;have hp:a+(i:U8)-a=i:=UT
      have Y:Rd.fU (fun d=>aI r.acc (d-a)) (7-i) (a+i)=(if aI r.acc i then [a+(i:U8)] else [])++Rd.fU (fun d=>aI r.acc (d-a)) (7-(i+1)) (a+((i+1:U7):U8)):=by
       rw[show 7-i=(7-(i+1))+1 from by omega,Rd.fU,hp,show a+((i+1:U7):U8)=a+i+1 from by omega]
       split <;> simp
      rw[Y] at j
      cases R:aI r.acc i
      ·rw[R] at N j
       gi_wp2
       refine⟨fun _ h=>(by cases h),?_⟩
       gi_wp2
       go_roundw
       case rel=>exact⟨i+1,c,by simp;omega,by omega,by simpa using j,o,g⟩
       case measure=>simp[intOf];omega
      ·rw[R] at N j;obtain⟨fn,M,A,V,hy,H⟩:=hY c (a+i) wr o (by rw[y,<- VY,<- j];simp)
       gi_wp2
       refine H.mono ?_;rintro e W3 (⟨rfl,I,D⟩|⟨rfl,t⟩)
       ·gi_wp2
        go_roundw
        case rel=>exact⟨i+1,c++[a+(i:U8)],by simp;omega,by omega,by simpa using j,I,D.2.trans g⟩
        case measure=>simp[intOf];omega
       ·gi_wp2
        refine bodyPost_ret (results_none rfl _ _ _) rfl ?_;exact⟨⟨_,rfl⟩,.inr ⟨c++[a+(i:U8)],⟨Rd.fU (fun d=>aI r.acc (d-a)) (7-(i+1)) (a+((i+1:U7):U8))++Rd.iv r.acc r.fr r.ev C (a+r.ev*7),by rw[y,<- VY,<- VY,<- j];simp⟩,t⟩⟩
     ·have q:¬ a+(i:U8)<a+7:=UT
      have c1:=oJ g;have e7:i=7:=UT
      subst e7;simp only[Zr,Rd.fU,X4] at j
      gi_wp2
      go_roundw
      case rel=>exact⟨a+r.ev*7,C,c,by simp,by rw[y,j,VY],by omega,by omega,by omega,by omega,o,g⟩
      case measure=>simp[intOf];omega
  ·have q1:Rd.iv r.acc r.fr r.ev f a=[]:=by cases f <;> simp[Rd.iv,O]
   rw[q1,X4] at y;subst y
   gi_wp2
   go_end0
   exact⟨⟨_,rfl⟩,.inl U⟩
attribute [local go_sem] Zi
theorem pT(h:gy w)(k:Vi n₀ w w')(f:10<=n₀):gy w':=by
 obtain⟨C,A,z,y,t,r,q,o,j,g,c,a⟩:=h;refine⟨?_,?_,?_,?_,?_,?_,?_,?_,?_,?_,?_,?_⟩
 all_goals (refine (k.cell (by show 1<n₀;omega)).trans ?_;assumption)
theorem Tu(n:U7)(hn:1<=n)(l Bn n₀:U7)(V:10<=n₀)(r:Rd.bL)(G:Rd.fu r)(J Jx:U4 U8->Vg->Prop)
  (hY:∀ pre x W,J pre W->pre.length<(Rd.iG (Cal.dT r.fr) r.ev 100 (Cal.yT r.fr) (Cal.mT r.fr)).length->YieldAt Zs (n-1) prog l #[.int .i64 x] W fun e E =>
   (e=.returned (.bool Vf)/\J (pre++[x]) E/\RK n₀ Bn W E)\/(e=.returned (.bool Ve)/\Jx (pre++[x]) E))
  (W:Vg) (ht:gy W) (P:W.heap[Bn]?=Vd (bN r)) (h0:J [] W):
  CallsIn Zs n prog 293 #[.func (.yield l) #[] #[],.pointer (Vd ⟨Bn,0,Vc⟩)] W fun e E=>(∃ v,e=.returned v) /\
   ((∃ ys,ys=Rd.iG (Cal.dT r.fr) r.ev 100 (Cal.yT r.fr) (Cal.mT r.fr)/\J ys E)\/(∃ pre,pre <+: Rd.iG (Cal.dT r.fr) r.ev 100 (Cal.yT r.fr) (Cal.mT r.fr)/\Jx pre E)):=by
 have c9:=pP P;have e1:=G.e1;have e2:=G.e2;have f0:=G.f0;have f1:=G.f1;clear G;obtain⟨mo,mn,my,mm⟩:=Rd.pH f0 f1;obtain⟨g1,g2,g3,g4,g5,g6⟩:=(Cal.gN _ _ _).1 mo;have HD:Hid (∀ y m d:U8,Cal.ok y m d=Vf->Cal.num y m d=r.fr->y=Cal.yT r.fr/\m=Cal.mT r.fr/\d=Cal.dT r.fr):=fun y m d h k=>Cal.AJ y m d r.fr h k
 have DA:=aC (S3 r.fr W ht UT UT);clear mo mn g5 g6;generalize hS:Rd.iG (Cal.dT r.fr) r.ev 100 (Cal.yT r.fr) (Cal.mT r.fr)=S at *;generalize Cal.dT r.fr=dt at *;generalize Cal.yT r.fr=y0 at *;generalize Cal.mT r.fr=m0 at *;refine callsIn_of_wp func293 rfl trivial ?_ rfl;simp only[ntmps293,Zj,V5,V9,Zk,Zl,Zm,Zn,Zo,Zp,Zq,VM]
 gi_wp2_with (first
  |((try refine⟨trivial,?_⟩);gi_at_call 116;refine (callsIn_wide.2 DA.out).mono ?_;rintro e w1 ⟨y,m,d,rfl,g,q,rfl⟩;obtain⟨rfl,rfl,rfl⟩:=HD.out y m d g q))
 clear DA HD c9 g q
 gi_loopw [3,4] (fun v u wr=>∃ (y m:U8) (f:U7) (pre:U4 U8),v=.int .i64 y/\u=.int .i64 m/\S=pre++Rd.iG d r.ev f y m/\2024<=y/\y<=2034/\1<=m/\m<=12/\24312<12*y+m+f/\J pre wr/\wr.heap[Bn]?=Vd (bN r)/\gy wr) (fun v u _=>(30000-(12*intOf v+intOf u)).toNat)
 case atStart=>exact⟨y,m,100,[],rfl,rfl,hS.symm,by omega,by omega,by omega,by omega,by omega,h0,P,ht⟩
 case round =>
  obtain⟨c,a,f,pre,rfl,rfl,j,a1,a2,Y,X,a5,U,N,I⟩:=hrel;clear P h0 ht;have M:=aC (Um c a wr I);have o:=Rd.Je (y:=c) (m:=a) a1 UT Y X
  by_cases t:Rd.reached c a=Vf
  ·have ac:=o.1 t;obtain⟨C,rfl⟩:∃ C,f=C+1:=⟨f-1,by omega⟩;have D:Rd.iG d r.ev (C+1) c a=Rd.pN c a d++Rd.iG d r.ev C (Rd.ng c a r.ev) (Rd.lW a r.ev):=by simp[Rd.iG,t]
   obtain⟨l1,l2,l3⟩:=Rd.Bz (y:=c) (m:=a) (ev:=r.ev);rw[D] at j;rw[t] at M
   cases g:Cal.ok c a d
   ·have DY:=aC (B5 c a d wr I g);have LA:=aC (Hj c a r.ev wr UT UT Y X e1 e2);have F:Rd.pN c a d=[]:=by simp[Rd.pN,g]
    have c1:=oJ N;rw[F,Zq] at j;clear o t D F;generalize Rd.ng c a r.ev=y2 at *;generalize Rd.lW a r.ev=m2 at *
    gi_wp2_with (first
     |((try refine⟨trivial,?_⟩);gi_at_call 294;refine (callsIn_wide.2 M.out).mono ?_;rintro e w1 ⟨rfl,rfl⟩)
     |((try refine⟨trivial,?_⟩);gi_at_call 112;refine (callsIn_wide.2 DY.out).mono ?_;rintro e w1 ⟨rfl,rfl⟩))
    refine⟨fun _ h=>(by cases h),?_⟩
    gi_wp2_with (first
     |((try refine⟨trivial,?_⟩);gi_at_call 295;refine (callsIn_wide.2 LA.out).mono ?_;rintro e w1 ⟨rfl,rfl⟩))
    go_roundw
    case rel=>exact⟨y2,m2,C,pre,rfl,rfl,j,by omega,by omega,l2,l3,by omega,U,N,I⟩
    case measure=>simp[intOf];omega
   ·have DY:=aC (Cj c a d wr I g);have F:Rd.pN c a d=[Cal.num c a d]:=by simp[Rd.pN,g]
    rw[F] at j;clear o t D F;generalize Cal.num c a d=z at *;have LA:=aC (fun w=>Hj c a r.ev w UT UT Y X e1 e2);generalize Rd.ng c a r.ev=y2 at *;generalize Rd.lW a r.ev=m2 at *;obtain⟨fn,aa,O,ab,hy,R⟩:=hY pre z wr U (by rw[j];simp)
    gi_wp2_with (first
     |((try refine⟨trivial,?_⟩);gi_at_call 294;refine (callsIn_wide.2 M.out).mono ?_;rintro e w1 ⟨rfl,rfl⟩)
     |((try refine⟨trivial,?_⟩);gi_at_call 112;refine (callsIn_wide.2 DY.out).mono ?_;rintro e w1 ⟨rfl,rfl⟩))
    refine R.mono ?_;rintro e W3 (⟨rfl,T,A⟩|⟨rfl,K⟩)
    ·have c1:=oJ (A.2.trans N)
     gi_wp2_with (first
      |((try refine⟨trivial,?_⟩);gi_at_call 295;refine (callsIn_wide.2 (LA.out W3)).mono ?_;rintro e w2 ⟨rfl,rfl⟩))
     go_roundw
     case rel=>exact⟨y2,m2,C,pre++[z],rfl,rfl,by simp[j],by omega,by omega,l2,l3,by omega,T,A.2.trans N,pT I A.1 V⟩
     case measure=>simp[intOf];omega
    ·gi_wp2
     refine bodyPost_ret (results_none rfl _ _ _) rfl ?_;exact⟨⟨_,rfl⟩,.inr ⟨pre++[z],⟨Rd.iG d r.ev C y2 m2,by simp[j]⟩,K⟩⟩
  ·have D:Rd.iG d r.ev f c a=[]:=by cases f <;> simp[Rd.iG,t]
   have H:Rd.reached c a=Ve:=by simpa using t
   rw[D,X4] at j;subst j;rw[H] at M;clear o D t H
   gi_wp2_with (first
    |((try refine⟨trivial,?_⟩);gi_at_call 294;refine (callsIn_wide.2 M.out).mono ?_;rintro e w1 ⟨rfl,rfl⟩))
   go_end0
   exact⟨⟨_,rfl⟩,.inl ⟨_,rfl,U⟩⟩
theorem QC(r:Rd.bL)(w:Vg):
  Vj prog 278 #[ig r] w fun e w'=>e=.returned (.func (.func 296) #[] #[.pointer (Vd ⟨w.heap.size,0,Vc⟩)])/\w'=w.alloc (bN r):=by
 unfold ig
 go_in
 go_wp2_with fail
 exact bodyPost_ret (v:=.func (.func 296) #[] #[.pointer (Vd ⟨w.heap.size,0,Vc⟩)]) (by simp[results,results278,go_sem]) rfl ⟨rfl,rfl⟩
theorem SH(r:Rd.bL)(w:Vg):
  Vj prog 276 #[ig r] w fun e w'=>e=.returned (.func (.func 292) #[] #[.pointer (Vd ⟨w.heap.size,0,Vc⟩)])/\w'=w.alloc (bN r):=by
 unfold ig
 go_in
 go_wp2_with fail
 exact bodyPost_ret (v:=.func (.func 292) #[] #[.pointer (Vd ⟨w.heap.size,0,Vc⟩)]) (by simp[results,results276,go_sem]) rfl ⟨rfl,rfl⟩
theorem Tv(r:Rd.bL)(w:Vg):
  Vj prog 277 #[ig r] w fun e w'=>e=.returned (.func (.func 293) #[] #[.pointer (Vd ⟨w.heap.size,0,Vc⟩)])/\w'=w.alloc (bN r):=by
 unfold ig
 go_in
 go_wp2_with fail
 exact bodyPost_ret (v:=.func (.func 293) #[] #[.pointer (Vd ⟨w.heap.size,0,Vc⟩)]) (by simp[results,results277,go_sem]) rfl ⟨rfl,rfl⟩
def iA(r:Rd.bL):U7:=if r.pc=2 then 292 else if r.pc=3 then 293 else 296
theorem I6(r:Rd.bL)(w:Vg):
  Vj prog 249 #[ig r] w fun e w'=>e=.returned (.func (.func (iA r)) #[] #[.pointer (Vd ⟨w.heap.size+1,0,Vc⟩)])/\w'=(w.alloc (bN r)).alloc (bN r):=by
 have A:=aC (SH r (w.alloc (bN r)));have C:=aC (Tv r (w.alloc (bN r)));have D:=aC (QC r (w.alloc (bN r)));have a:=Zt w (bN r);have E:(w.alloc (bN r)).heap.size=w.heap.size+1:=UU
 have P:=tK a;have O:=oJ a;have N:=tL a;have M:=tM a;have K:=tN a;have J:=tO a;have I:=tP a;have H:=tQ a;have G:=tR a;have F:=pP a;have t:=vJ a;have q:=vK a;have o:=vL a;have j:=vM a;rw[E] at A C D;clear a E;unfold ig at *;obtain⟨X,z⟩:∃ X,X=w.alloc (bN r):=⟨_,rfl⟩;rw[<- z] at A C D P O N M K J I H G F t q o j;have g:=aC z;clear z
 by_cases f:r.pc=2
 ·have R:(r.pc==2)=Vf:=by simpa using f
  have c:iA r=292:=by unfold iA;rw[Va f]
  rw[c];clear c f
  go_in
  go_upto_region 1 with fail
  change Y9 _ _ _ _ (w.alloc (bN r));rw[<- g.out]
  go_wp2_with (first
   |(go_at_call 276;refine A.out.mono ?_;rintro e w1 ⟨rfl,rfl⟩))
  exact bodyPost_ret (v:=.func (.func 292) #[] #[.pointer (Vd ⟨w.heap.size+1,0,Vc⟩)]) (by simp[results,results249,go_sem]) rfl ⟨rfl,by rw[g.out]⟩
 ·have R:(r.pc==2)=Ve:=by simpa using f
  by_cases h:r.pc=3
  ·have y:(r.pc==3)=Vf:=by simpa using h
   have c:iA r=293:=by unfold iA;rw[U9 f,Va h]
   rw[c];clear c h
   go_in
   go_upto_region 1 with fail
   change Y9 _ _ _ _ (w.alloc (bN r));rw[<- g.out]
   go_wp2_with (first
    |(go_at_call 277;refine C.out.mono ?_;rintro e w1 ⟨rfl,rfl⟩))
   exact bodyPost_ret (v:=.func (.func 293) #[] #[.pointer (Vd ⟨w.heap.size+1,0,Vc⟩)]) (by simp[results,results249,go_sem]) rfl ⟨rfl,by rw[g.out]⟩
  ·have y:(r.pc==3)=Ve:=by simpa using h
   have c:iA r=296:=by unfold iA;rw[U9 f,U9 h]
   rw[c];clear c
   go_in
   go_upto_region 1 with fail
   change Y9 _ _ _ _ (w.alloc (bN r));rw[<- g.out]
   go_wp2_with (first
    |(go_at_call 278;refine D.out.mono ?_;rintro e w1 ⟨rfl,rfl⟩))
   exact bodyPost_ret (v:=.func (.func 296) #[] #[.pointer (Vd ⟨w.heap.size+1,0,Vc⟩)]) (by simp[results,results249,go_sem]) rfl ⟨rfl,by rw[g.out]⟩
theorem GH(n:U7)(o:1<=n)(Bn n₀:U7)(t:10<=n₀)(r:Rd.bL)(q:Rd.fu r)(w:Vg)(E:Bn<w.heap.size)(D:n₀<=w.heap.size)(ht:gy w)(C:w.heap[Bn]?=Vd (bN r)):
  SeqStopsK Zs n prog (iA r) #[.pointer (Vd ⟨Bn,0,Vc⟩)] (fun x:U8=>#[V3 .i64 x]) (RK n₀ Bn) (fun ys=>ys=Rd.seq r) (fun pre=>pre <+: Rd.seq r) (Rd.seq r).length w:=by
 intro l J z W A _ _ c y;have a:W.heap[Bn]?=Vd (bN r):=(A.block Bn E).trans C;have j:gy W:=pT ht A UT
 by_cases f:r.pc=2
 ·have g:iA r=292:=by unfold iA;rw[Va f]
  have es:Rd.seq r=Rd.iv r.acc r.fr r.ev 800 (r.fr-r.fr % 7):=by unfold Rd.seq;rw[Va f]
  rw[es] at c ⊢;rw[g];exact SG Zs n trivial rfl o l Bn n₀ r q J z c W a y
 ·by_cases h:r.pc=3
  ·have g:iA r=293:=by unfold iA;rw[U9 f,Va h]
   have es:Rd.seq r=Rd.iG (Cal.dT r.fr) r.ev 100 (Cal.yT r.fr) (Cal.mT r.fr):=by unfold Rd.seq;rw[U9 f,Va h]
   rw[es] at c ⊢;rw[g];exact Tu n o l Bn n₀ t r q J z c W j a y
  ·have g:iA r=296:=by unfold iA;rw[U9 f,U9 h]
   have es:Rd.seq r=Rd.iF r.ev 800 r.fr:=by unfold Rd.seq;rw[U9 f,U9 h]
   rw[es] at c ⊢;rw[g];exact QB Zs n trivial rfl o l Bn n₀ r q J z c W a y
attribute [local go_sem] Zi
structure FD(w W:Vg)(r:Rd.bL)(la mo:U8)(pre:U4 U8):Prop where
 l:Boxed W (w.heap.size+1) 3 (.int .i64 la)
 m:Boxed W (w.heap.size+2) 3 (.int .i64 mo)
 d:∃ v,Boxed W (w.heap.size+3) 38 v/\W.ownsRow (w.heap.size+6) 3 1 v pre.length (pre.map (V3 .i64))
 ru:W.heap[w.heap.size+5]?=Vd (bN r)
 bl:Vi w.heap.size w W
 sz:w.heap.size+6<=W.heap.size
 le:∀ x∈pre,x<=la
 ml:(pre.length:U8)<=mo
theorem xX{c:Vg}{row:U5 U7}{t:TypeId}(h:Boxed W B t v)(g:W.grownBy c row)(f:∀ r,row=Vd r->∃ o:Obj,W.heap[r]?=Vd o/\o.isCells=Ve):Boxed c B t v :=
 h.kept g (fun e=>by
  obtain⟨o,a,j⟩:=f B e.symm
  rw[show W.heap[B]?=_ from h] at a;cases a;cases j)
theorem xz(w:Vg)(r:Rd.bL)(la mo:U8)(z:w.heap.size<=B):OwnFrom B (fun pre W=>FD w W r la mo pre):=by
 intro pre W D row h f a;have j:∀ r,row=Vd r->∃ o:Obj,W.heap[r]?=Vd o/\o.isCells=Ve:=fun r e=>(a r e).2
 obtain⟨v,y,c⟩:=h.d;refine⟨xX h.l f j,xX h.m f j,⟨v,xX y f j,c.kept f ?_⟩,(f.block _ (by have:=h.sz;omega) (fun e=>?_)).trans h.ru,h.bl.grown f h.bl.size (fun k e=>Vp z (a k e).1),Vp h.sz f.size,h.le,h.ml⟩
 ·rcases c.2 with ⟨rfl,_⟩|⟨g,cap,C,rfl,_,q,_⟩
  ·exact .inl rfl
  ·refine .inr fun A=>?_
   obtain⟨o,c,t⟩:=j g (by simpa[WH] using A.symm);rw[q] at c;cases c;cases t
 ·obtain⟨o,c,t⟩:=j _ e.symm;rw[h.ru] at c;cases c;cases t
theorem FZ{r:Rd.bL}{pre:U4 U8}(h:FD w W r la mo pre)(M:Boxed W (w.heap.size+3) 38 v)(G:W.ownsRow (w.heap.size+6) 3 1 v pre.length (pre.map (V3 .i64))){a:Obj}(c:w1.ownsRow (w.heap.size+6) 3 1 v' (pre.length+1) (pre.map (V3 .i64)++[.int .i64 x]))(C:(W.alloc a).grownBy w1 v.ownBlock)(O:x<=la)(R:(pre.length:U8)+1<=mo):
  Boxed w1 (w.heap.size+3) 38 v/\KeepsFrom (w.heap.size+6) W (w1.setCell ⟨w.heap.size+3,0,Vc⟩ v')/\RK w.heap.size (w.heap.size+5) W (w1.setCell ⟨w.heap.size+3,0,Vc⟩ v')/\FD w (w1.setCell ⟨w.heap.size+3,0,Vc⟩ v') r la mo (pre++[x]):=by
 have P:=h.sz;have F:∀ b,v.ownBlock=Vd b->w.heap.size+6<=b:=fun b f=>(G.lt b f).1
 have D:∀ b,v'.ownBlock=Vd b->w.heap.size+6<=b:=fun b f=>(c.lt b f).1
 have q:∀ b,b<w.heap.size+6->w1.heap[b]?=W.heap[b]?:=fun b f =>
  (C.block b UZ (fun e=>by have:=F b e.symm;omega)).trans (Below.heap_alloc W a b UT)
 have A:∀ b,b≠w.heap.size+3->(w1.setCell ⟨w.heap.size+3,0,Vc⟩ v').heap[b]?=w1.heap[b]?:=fun b f=>Below.heap_setCell _ _ _ b f
 have z:Boxed w1 (w.heap.size+3) 38 v:=(q _ UT).trans M;have K:W.heap.size<=w1.heap.size:=by have:=C.size;simp at this;omega
 have J:Vi w.heap.size W (w1.setCell ⟨w.heap.size+3,0,Vc⟩ v'):=(((zr _ W).alloc UT a).grown C UZ (fun j e=>by have:=F j e;omega)).setCell (p:=⟨w.heap.size+3,0,Vc⟩) (by show w.heap.size<=w.heap.size+3;omega) v';refine⟨z,?_,⟨J,(A _ UT).trans (q _ UT)⟩,⟨((A _ UT).trans (q _ UT)).trans h.l,((A _ UT).trans (q _ UT)).trans h.m,⟨v',z.set v',?_⟩,((A _ UT).trans (q _ UT)).trans h.ru,h.bl.trans J,?_,?_,?_⟩⟩
 ·refine (((KeepsOthers.alloc W a).trans (KeepsOthers.of_grownBy C fun j o I H=>?_)).trans (KeepsOthers.setCell _ _ _)).from _
  rcases (G.alloc a).2 with ⟨rfl,_⟩|⟨g,cap,N,rfl,_,E,_⟩
  ·simp[WH] at I
  ·obtain rfl:g=j:=by simpa[WH] using I
   rw[E] at H;cases H;rfl
 ·have:=c.kept (grownBy_setCell' w1 (w.heap.size+3) v') (.inr (fun e=>by have:=D _ e;omega))
  simpa using this
 ·have:=(grownBy_setCell' w1 (w.heap.size+3) v').size;omega
 ·intro y t;rcases VA.1 t with t|t
  ·exact h.le y t
  ·simp at t;omega
 ·simp;omega
structure yM(w Y:Vg)(r:Rd.bL)(la mo:U8):Prop where
 ru:Y.heap[w.heap.size]?=Vd (bN r)
 l:Boxed Y (w.heap.size+1) 3 (.int .i64 la)
 m:Boxed Y (w.heap.size+2) 3 (.int .i64 mo)
 d:Boxed Y (w.heap.size+3) 38 (.slice Vc 0 0)
 bl:Vi w.heap.size w Y
 sz:Y.heap.size=w.heap.size+4
theorem Dv(w:Vg)(r:Rd.bL)(la mo:U8):yM w ((((w.alloc (bN r)).alloc (.cells #[.int .i64 la] 3)).alloc (.cells #[.int .i64 mo] 3)).alloc (.cells #[.slice Vc 0 0] 38)) r la mo:=by
 have g:=Zt w (bN r);have f:=Zu (w.alloc (bN r)) 3 (.int .i64 la);have c:=Zu ((w.alloc (bN r)).alloc (.cells #[.int .i64 la] 3)) 3 (.int .i64 mo);have a:=Zu (((w.alloc (bN r)).alloc (.cells #[.int .i64 la] 3)).alloc (.cells #[.int .i64 mo] 3)) 38 (.slice Vc 0 0);simp only[WW] at f c a;have k:∀ (W:Vg) (o:Obj) (b:U7) (x:Obj),W.heap[b]?=Vd x->(W.alloc o).heap[b]?=Vd x:=fun W o b x h=>(Below.heap_alloc W o b (Y8.1 h).1).trans h
 exact⟨k _ _ _ _ (k _ _ _ _ (k _ _ _ _ g)),(f.alloc _).alloc _,c.alloc _,a,((((zr _ w).alloc (zq _) _).alloc UU _).alloc UZ _).alloc UZ _,by simp⟩
theorem NG(w:Vg)(r:Rd.bL)(la mo:U8):yM w (((((w.alloc (bN r)).alloc (.cells #[.int .i64 la] 3)).alloc (.cells #[.int .i64 mo] 3)).drew).alloc (.cells #[.slice Vc 0 0] 38)) r la mo:=by
 obtain⟨j,h,g,f,c,a⟩:=Dv w r la mo;exact⟨j,h,g,f,c.drew,a⟩
theorem GC{Y:Vg}{r:Rd.bL}(f:Boxed Y (w.heap.size+1) 3 (.int .i64 la))(c:Boxed Y (w.heap.size+2) 3 (.int .i64 mo))(g:Boxed Y (w.heap.size+3) 38 (.slice Vc 0 0))(h:Vi w.heap.size w Y)(a:Y.heap.size=w.heap.size+4)(j:0<=mo):FD w ((Y.alloc (bN r)).alloc (bN r)) r la mo []:=by
 have b:=Zt (Y.alloc (bN r)) (bN r);rw[WW,a] at b;exact⟨(f.alloc _).alloc _,(c.alloc _).alloc _,⟨_,(g.alloc _).alloc _,WJ _ _ _ _⟩,b,(h.alloc UT _).alloc UZ _,by simp;omega,by simp,by simpa using j⟩
theorem RK.trans{A B C:Vg}(h:RK n₀ Bn A B)(k:RK n₀ Bn B C):RK n₀ Bn A C:=⟨h.1.trans k.1,k.2.trans h.2⟩
theorem RK.put(c:n₀<=w.heap.size)(q:Bn<w.heap.size)(W:Vg)(l:U7)(o a:Obj)(f:w.heap.size<=l)(h:W.heap[l]?=Vd o)(j:o.isCells=Ve)(g:o.isWalk=Ve):RK n₀ Bn W (W.putObj l a) :=
 ⟨belowK_b c W l o a f h j g,(grownBy_putObj' W l a).block Bn (by have:=(Y8.1 h).1;omega) (fun e=>by cases e;omega)⟩
theorem Hf(r:Rd.bL)(a:Array Vh)(w:Vg):(callFunc (iA r) a).run prog w=.ok (.enter (iA r) a) w:=by
 unfold iA
 split
 ·exact enters_of func292 UY rfl a w
 ·split
  ·exact enters_of func293 UY rfl a w
  ·exact enters_of func296 UY rfl a w
theorem pE{size:U7}(h:w.ownsRow B e size v n xs):∃ a cap,v=.slice a n cap:=by
 rcases h.2 with ⟨rfl,c⟩|⟨g,cap,_,rfl,_⟩
 ·rw[c];exact⟨_,_,rfl⟩
 ·exact⟨_,_,rfl⟩
theorem vx{C size:U7}(h:w.ownsRow B e size v n xs)(c:C<=B):w.ownsRow C e size v n xs :=
 ⟨h.1,h.2.imp id (fun ⟨g,cap,a,o,j,f⟩=>⟨g,cap,a,o,Vp c j,f⟩)⟩
theorem sG{l:U4 U8}(h:∀ x∈l,p x=Vf)(c:l.length<=k):(l.takeWhile p).take k=l:=by
 have e:l.takeWhile p=l:=by
  induction l with
  |nil=>rfl
  |cons a l ih=>rw[Zv,h a UU,Va rfl,ih (fun x f=>h x (by simp[f])) (by simp at c;omega)]
 rw[e,Wh c]
theorem Il{pre rest:U4 U8}(h:∀ y∈pre,p y=Vf)(c:pre.length<=k)(a:p x=Ve\/pre.length=k):((pre++x :: rest).takeWhile p).take k=pre:=by
 have e:(pre++x :: rest).takeWhile p=pre++(x :: rest).takeWhile p:=List.takeWhile_append_of_pos h;rw[e];rcases a with a|a
 ·rw[Zv,a];simp[Wh c]
 ·rw[<- a,List.take_left]
def sX(r:Rd.bL):U8:=if 0<r.ti then 727 else r.un
def sV(r:Rd.bL):U8:=if 0<r.ti then r.ti else 41
theorem yE(r:Rd.bL):Rd.fF r=((Rd.seq r).takeWhile (fun d=>decide (d<=sX r))).take (sV r).toNat:=by
 unfold Rd.fF sX sV
 split
 ·rfl
 ·rfl
theorem T5(r:Rd.bL)(hf:Rd.fu r)(w:Vg)(ht:gy w)(O:10<=w.heap.size):
  Vj prog 199 #[ig r] w fun e w'=>∃ v,e=.returned v/\w'.ownsRow w.heap.size 3 1 v (Rd.fF r).length ((Rd.fF r).map (V3 .i64))/\Vi w.heap.size w w':=by
 obtain⟨i0,ak,aj,ai,ag⟩:=info_parts pD;have t1:=hf.t1;refine (callsIn_wide (n:=3)).1 ?_;unfold ig;refine callsIn_of_wp_marks func199 rfl trivial ?_ rfl;simp only[ntmps199,Zj,V5,V9,Zk,Zl,Zm,Zn,Zo,Zp,Zq,VM];refine wpIn_wide.2 ?_
 by_cases N:0<r.ti
 ·have M:sX r=727/\sV r=r.ti:=by unfold sX sV;rw[Va N,Va N];exact⟨rfl,rfl⟩
  have HY:Hid (yM w (((((w.alloc (bN r)).alloc (.cells #[.int .i64 727] 3)).alloc (.cells #[.int .i64 r.ti] 3)).drew).alloc (.cells #[.slice Vc 0 0] 38)) r 727 r.ti):=NG w r 727 r.ti;have S:=aC M;clear M
  go_upto_region 4 with fail
  go_region
  go_upto_region 5 with fail
  change Y9 _ _ _ _ (((((w.alloc (bN r)).alloc (.cells #[.int .i64 727] 3)).alloc (.cells #[.int .i64 r.ti] 3)).drew).alloc (.cells #[.slice Vc 0 0] 38));generalize ((((w.alloc (bN r)).alloc (.cells #[.int .i64 727] 3)).alloc (.cells #[.int .i64 r.ti] 3)).drew).alloc (.cells #[.slice Vc 0 0] 38)=Y at HY ⊢;obtain⟨f,H,G,I,J,E⟩:=HY.out;have R:=aC (I6 r Y);have HZ:=aC (GC (r:=r) H G I J E);have TZ:Hid (gy ((Y.alloc (bN r)).alloc (bN r))):=pT ht (HZ.out UT).bl O;rw[E] at R;unfold ig at R;have x0:=tK f;have x1:=oJ f;have x2:=tL f;have x3:=tM f;have x4:=tN f;have x5:=tO f;have x6:=tP f;have x7:=tQ f;have x8:=tR f;have x9:=pP f;have X:=vJ f;have V:=vK f;have U:=vL f;have T:=vM f;clear f H G I J HY
  go_wp2_with (first
   |(go_at_call 249;refine R.out.mono ?_;rintro e w1 ⟨rfl,rfl⟩))
  clear R x0 x1 x2 x3 x4 x5 x6 x7 x8 x9 X V U T;have ad:((Y.alloc (bN r)).alloc (bN r)).heap.size=w.heap.size+6:=by simp[E]
  generalize (Y.alloc (bN r)).alloc (bN r)=Z at HZ TZ ad ⊢;have hF:=HZ.out UT;have HS:=aC (GH 2 UT (w.heap.size+5) w.heap.size O r hf Z UT UT TZ.out hF.ru);refine (wpIn_wide (n:=3)).1 ?_
  refine wpIn_rangeFunc_ownG rfl UT (gf:=iA r) (lb:=#[.pointer (Vd ⟨w.heap.size+5,0,Vc⟩)]) rfl trivial (Hf r) HS.out (fun h k=>RK.trans h k) (RK.put UT UT) (zr _ _) (fun _=>rfl)
   (fun pre W=>FD w W r 727 r.ti pre) (fun c o W=>c=.exit 0/\∃ pre x,o=pre++[x]/\FD w W r 727 r.ti pre/\(727<x\/(pre.length:U8)=r.ti))
   (xz w r 727 r.ti UT) (fun c s A B row hs hg hr=>by obtain⟨e,pre,x,e2,h,h3⟩:=hs;exact⟨e,pre,x,e2,xz w r 727 r.ti UT pre A B row h hg hr,h3⟩) hF
   (fun x=>{ tmps:=#[.agg #[.int .i64 r.pc,.int .i64 r.ev,.bool (aI r.acc 0),.bool (aI r.acc 1),.bool (aI r.acc 2),.bool (aI r.acc 3),.bool (aI r.acc 4),.bool (aI r.acc 5),.bool (aI r.acc 6),.int .i64 r.fr,.int .i64 r.mn,.int .i64 r.mi,.int .i64 r.ti,.int .i64 r.un],.pointer (Vd ⟨w.heap.size,0,Vc⟩),.slice Vc 0 0,.pointer (Vd ⟨w.heap.size+1,0,Vc⟩),.pointer (Vd ⟨w.heap.size+1+1,0,Vc⟩),.pointer (Vd ⟨w.heap.size+1+1+1,0,Vc⟩),.int .i64 x,.pointer (Vd ⟨w.heap.size,13,Vc⟩),.int .i64 r.un,.pointer (Vd ⟨w.heap.size,12,Vc⟩),.int .i64 r.ti,.bool Vf,.pointer (Vd ⟨w.heap.size,12,Vc⟩),.int .i64 r.ti,.agg #[.int .i64 r.pc,.int .i64 r.ev,.bool (aI r.acc 0),.bool (aI r.acc 1),.bool (aI r.acc 2),.bool (aI r.acc 3),.bool (aI r.acc 4),.bool (aI r.acc 5),.bool (aI r.acc 6),.int .i64 r.fr,.int .i64 r.mn,.int .i64 r.mi,.int .i64 r.ti,.int .i64 r.un],.func (.func (iA r)) #[] #[.pointer (Vd ⟨w.heap.size+5,0,Vc⟩)],.int .i64 x,undef,undef,undef,undef,undef,undef,undef,undef,undef,undef,undef,undef,undef,undef],defers:=[] }) ?assign ?body ?done ?stop
  case assign =>
   intro l x W K j
   gi_wp2
   exact j
  case body =>
   rintro l pre x W h aq;obtain⟨v,q,a⟩:=h.d;have av:=h.l.cell;have au:=h.m.cell;have aw:=q.cell;have ao:=h.ml;have HI:=aC h;obtain⟨a0,t,rfl⟩:=pE a;have an:w.heap.size+6<=W.heap.size:=h.sz
   by_cases c1:727<x
   ·clear h a q
    gi_wp2
    exact⟨Zw _ _,rfl,pre,x,rfl,HI.out,.inl c1⟩
   ·by_cases P:(pre.length:U8)=r.ti
    ·have af:((pre.length:U8)==r.ti)=Vf:=by simpa using P
     have C2:=aC P;clear h a q P
     gi_wp2
     exact⟨Zw _ _,rfl,pre,x,rfl,HI.out,.inr C2.out⟩
    ·have af:((pre.length:U8)==r.ti)=Ve:=by simpa using P
     clear h
     gi_wp2_with (first
      |(gi_at_builtin;refine wpListIn_append_own _ rfl _ _ 38 rfl (w.heap.size+6) 3 i0 (.int .i64 0) 1 8 underlying38 ak aj ai ag rfl UV _ _ _ rfl (a.alloc _) ⟨W.heap.size,0,Vc⟩ 1 1 [.int .i64 x] rfl rfl (cell_one_new _ _ _) U1 U0 UT UZ ?_;intro v' w1 g C _;obtain⟨g',al,rfl⟩:=ownsRow_succ g;obtain⟨F,ab,aa,ac⟩:=FZ HI.out q a g C UT UT;have ax:=F.cell;have ar:=F.frozen))
     exact⟨ab,aa,ac⟩
  case done =>
   rintro D ys W hD rfl h j
   have ED:Hid (Rd.fF r=Rd.seq r):=by
    show Rd.fF r=Rd.seq r;have h0:=h.ml;rw[yE,S.out.1,S.out.2];exact sG (fun y hy=>by simpa using h.le y hy) UT
   obtain⟨v,q,a⟩:=h.d;have hc:=q.cell;have hb:=h.bl;obtain⟨a0,t,rfl⟩:=pE a;clear h
   go_wp2_with fail
   refine⟨by simp,.inl ⟨_,_,rfl,run_takeDeferred j,?_⟩⟩;refine⟨_,results_tmp rfl _ _ _,_,rfl,?_,hb.trans (belowK_b (w:=w) (zq _) W D _ _ UT j rfl rfl)⟩;rw[ED.out];exact ownsRow_putObj (vx a UT) _ j rfl
  case stop =>
   rintro D c o W hD ae ⟨rfl,pre,x,rfl,h,hx⟩ j
   have ED:Hid (Rd.fF r=pre):=by
    obtain⟨rest,z⟩:=ae;show Rd.fF r=pre;have h0:=h.ml;rw[yE,S.out.1,S.out.2,<- z,VY];exact Il (fun y hy=>by simpa using h.le y hy) UT (hx.imp (fun e=>by simpa using e) (fun e=>by omega))
   obtain⟨v,q,a⟩:=h.d;have hc:=q.cell;have hb:=h.bl;obtain⟨a0,t,rfl⟩:=pE a;clear h;refine wpIn_wide.2 ?_
   go_wp2_with fail
   refine⟨by simp,.inl ⟨_,_,rfl,run_takeDeferred j,?_⟩⟩;refine⟨_,results_tmp rfl _ _ _,_,rfl,?_,hb.trans (belowK_b (w:=w) (zq _) W D _ _ UT j rfl rfl)⟩;rw[ED.out];exact ownsRow_putObj (vx a UT) _ j rfl
 ·have M:sX r=r.un/\sV r=41:=by unfold sX sV;rw[U9 N,U9 N];exact⟨rfl,rfl⟩
  have HY:Hid (yM w ((((w.alloc (bN r)).alloc (.cells #[.int .i64 r.un] 3)).alloc (.cells #[.int .i64 41] 3)).alloc (.cells #[.slice Vc 0 0] 38)) r r.un 41):=Dv w r r.un 41;have S:=aC M;clear M
  go_upto_region 5 with fail
  change Y9 _ _ _ _ ((((w.alloc (bN r)).alloc (.cells #[.int .i64 r.un] 3)).alloc (.cells #[.int .i64 41] 3)).alloc (.cells #[.slice Vc 0 0] 38));generalize (((w.alloc (bN r)).alloc (.cells #[.int .i64 r.un] 3)).alloc (.cells #[.int .i64 41] 3)).alloc (.cells #[.slice Vc 0 0] 38)=Y at HY ⊢;obtain⟨f,H,G,I,J,E⟩:=HY.out;have R:=aC (I6 r Y);have HZ:=aC (GC (r:=r) H G I J E);have TZ:Hid (gy ((Y.alloc (bN r)).alloc (bN r))):=pT ht (HZ.out UT).bl O;rw[E] at R;unfold ig at R;have x0:=tK f;have x1:=oJ f;have x2:=tL f;have x3:=tM f;have x4:=tN f;have x5:=tO f;have x6:=tP f;have x7:=tQ f;have x8:=tR f;have x9:=pP f;have X:=vJ f;have V:=vK f;have U:=vL f;have T:=vM f;clear f H G I J HY
  go_wp2_with (first
   |(go_at_call 249;refine R.out.mono ?_;rintro e w1 ⟨rfl,rfl⟩))
  clear R x0 x1 x2 x3 x4 x5 x6 x7 x8 x9 X V U T;have ad:((Y.alloc (bN r)).alloc (bN r)).heap.size=w.heap.size+6:=by simp[E]
  generalize (Y.alloc (bN r)).alloc (bN r)=Z at HZ TZ ad ⊢;have hF:=HZ.out UT;have HS:=aC (GH 2 UT (w.heap.size+5) w.heap.size O r hf Z UT UT TZ.out hF.ru);refine (wpIn_wide (n:=3)).1 ?_
  refine wpIn_rangeFunc_ownG rfl UT (gf:=iA r) (lb:=#[.pointer (Vd ⟨w.heap.size+5,0,Vc⟩)]) rfl trivial (Hf r) HS.out (fun h k=>RK.trans h k) (RK.put UT UT) (zr _ _) (fun _=>rfl)
   (fun pre W=>FD w W r r.un 41 pre) (fun c o W=>c=.exit 0/\∃ pre x,o=pre++[x]/\FD w W r r.un 41 pre/\(r.un<x\/(pre.length:U8)=41))
   (xz w r r.un 41 UT) (fun c s A B row hs hg hr=>by obtain⟨e,pre,x,e2,h,h3⟩:=hs;exact⟨e,pre,x,e2,xz w r r.un 41 UT pre A B row h hg hr,h3⟩) hF
   (fun x=>{ tmps:=#[.agg #[.int .i64 r.pc,.int .i64 r.ev,.bool (aI r.acc 0),.bool (aI r.acc 1),.bool (aI r.acc 2),.bool (aI r.acc 3),.bool (aI r.acc 4),.bool (aI r.acc 5),.bool (aI r.acc 6),.int .i64 r.fr,.int .i64 r.mn,.int .i64 r.mi,.int .i64 r.ti,.int .i64 r.un],.pointer (Vd ⟨w.heap.size,0,Vc⟩),.slice Vc 0 0,.pointer (Vd ⟨w.heap.size+1,0,Vc⟩),.pointer (Vd ⟨w.heap.size+1+1,0,Vc⟩),.pointer (Vd ⟨w.heap.size+1+1+1,0,Vc⟩),.int .i64 x,.pointer (Vd ⟨w.heap.size,13,Vc⟩),.int .i64 r.un,.pointer (Vd ⟨w.heap.size,12,Vc⟩),.int .i64 r.ti,.bool Ve,undef,undef,.agg #[.int .i64 r.pc,.int .i64 r.ev,.bool (aI r.acc 0),.bool (aI r.acc 1),.bool (aI r.acc 2),.bool (aI r.acc 3),.bool (aI r.acc 4),.bool (aI r.acc 5),.bool (aI r.acc 6),.int .i64 r.fr,.int .i64 r.mn,.int .i64 r.mi,.int .i64 r.ti,.int .i64 r.un],.func (.func (iA r)) #[] #[.pointer (Vd ⟨w.heap.size+5,0,Vc⟩)],.int .i64 x,undef,undef,undef,undef,undef,undef,undef,undef,undef,undef,undef,undef,undef,undef],defers:=[] }) ?assign ?body ?done ?stop
  case assign =>
   intro l x W K j
   gi_wp2
   exact j
  case body =>
   rintro l pre x W h aq;obtain⟨v,q,a⟩:=h.d;have av:=h.l.cell;have au:=h.m.cell;have aw:=q.cell;have ao:=h.ml;have HI:=aC h;obtain⟨a0,t,rfl⟩:=pE a;have an:w.heap.size+6<=W.heap.size:=h.sz
   by_cases c1:r.un<x
   ·clear h a q
    gi_wp2
    exact⟨Zw _ _,rfl,pre,x,rfl,HI.out,.inl c1⟩
   ·by_cases P:(pre.length:U8)=41
    ·have af:((pre.length:U8)==41)=Vf:=by simpa using P
     have C2:=aC P;clear h a q P
     gi_wp2
     exact⟨Zw _ _,rfl,pre,x,rfl,HI.out,.inr C2.out⟩
    ·have af:((pre.length:U8)==41)=Ve:=by simpa using P
     clear h
     gi_wp2_with (first
      |(gi_at_builtin;refine wpListIn_append_own _ rfl _ _ 38 rfl (w.heap.size+6) 3 i0 (.int .i64 0) 1 8 underlying38 ak aj ai ag rfl UV _ _ _ rfl (a.alloc _) ⟨W.heap.size,0,Vc⟩ 1 1 [.int .i64 x] rfl rfl (cell_one_new _ _ _) U1 U0 UT UZ ?_;intro v' w1 g C _;obtain⟨g',al,rfl⟩:=ownsRow_succ g;obtain⟨F,ab,aa,ac⟩:=FZ HI.out q a g C UT UT;have ax:=F.cell;have ar:=F.frozen))
     exact⟨ab,aa,ac⟩
  case done =>
   rintro D ys W hD rfl h j
   have ED:Hid (Rd.fF r=Rd.seq r):=by
    show Rd.fF r=Rd.seq r;have h0:=h.ml;rw[yE,S.out.1,S.out.2];exact sG (fun y hy=>by simpa using h.le y hy) UT
   obtain⟨v,q,a⟩:=h.d;have hc:=q.cell;have hb:=h.bl;obtain⟨a0,t,rfl⟩:=pE a;clear h
   go_wp2_with fail
   refine⟨by simp,.inl ⟨_,_,rfl,run_takeDeferred j,?_⟩⟩;refine⟨_,results_tmp rfl _ _ _,_,rfl,?_,hb.trans (belowK_b (w:=w) (zq _) W D _ _ UT j rfl rfl)⟩;rw[ED.out];exact ownsRow_putObj (vx a UT) _ j rfl
  case stop =>
   rintro D c o W hD ae ⟨rfl,pre,x,rfl,h,hx⟩ j
   have ED:Hid (Rd.fF r=pre):=by
    obtain⟨rest,z⟩:=ae;show Rd.fF r=pre;have h0:=h.ml;rw[yE,S.out.1,S.out.2,<- z,VY];exact Il (fun y hy=>by simpa using h.le y hy) UT (hx.imp (fun e=>by simpa using e) (fun e=>by omega))
   obtain⟨v,q,a⟩:=h.d;have hc:=q.cell;have hb:=h.bl;obtain⟨a0,t,rfl⟩:=pE a;clear h;refine wpIn_wide.2 ?_
   go_wp2_with fail
   refine⟨by simp,.inl ⟨_,_,rfl,run_takeDeferred j,?_⟩⟩;refine⟨_,results_tmp rfl _ _ _,_,rfl,?_,hb.trans (belowK_b (w:=w) (zq _) W D _ _ UT j rfl rfl)⟩;rw[ED.out];exact ownsRow_putObj (vx a UT) _ j rfl
def eI(r:Rd.bL):U4 U8:=if Rd.fe r=0 then Rd.fF r else []
theorem Uj{r:Rd.bL}(h:Rd.fu r)(a:x∈Rd.fF r):0<=x/\x<728:=by
 have c:=h.f0;rw[Rd.Hw h] at a
 split at a
 ·have:=Rd.sH h a;omega
 ·have:=Rd.sH h (List.mem_of_mem_take a);omega
theorem Qb{l:U4 U8}(h:l≠[]):l[l.length-1]?=Vd (l.getLastD 0):=by
 rw[<- List.getLast?_eq_getElem?,Zx h,Zy,Zx h];rfl
theorem Pr(r:Rd.bL)(h:Rd.fu r):(Rd.fF r).length<=99:=by
 have:=h.t1;unfold Rd.fF
 split
 ·rw[Yo];omega
 ·rw[Yo];omega
theorem Ol{size:U7}(h:w.ownsRow B e size v n xs)(k:Vi w.heap.size w w'):w'.ownsRow B e size v n xs:=by
 refine⟨h.1,h.2.imp id (fun ⟨g,cap,a,o,j,c,f⟩=>⟨g,cap,a,o,j,(k.block g (Y8.1 c).1).trans c,f⟩)⟩
theorem Gb{size:U7}(h:w.ownsRow B e size v n xs):w.drew.ownsRow B e size v n xs:=⟨h.1,h.2⟩
theorem Gh(r:Rd.bL)(Y:Rd.fu r)(w:Vg)(ht:gy w)(ab:10<=w.heap.size):
  Vj prog 147 #[ig r] w fun e w'=>∃ v,e=.returned (.tuple #[v,.int .i64 (Rd.fe r)])/\w'.ownsRow w.heap.size 3 1 v (eI r).length ((eI r).map (V3 .i64))/\Vi w.heap.size w w':=by
 have hX:Vi w.heap.size w (w.alloc (bN r)):=(zr _ _).alloc (zq _) _;have f:=Zt w (bN r);have hs:(w.alloc (bN r)).heap.size=w.heap.size+1:=UU
 have FI:=aC (T5 r Y (w.alloc (bN r)) (pT ht hX ab) (by rw[hs];omega));have x0:=tK f;have x1:=oJ f;have x2:=tL f;have x3:=tM f;have x4:=tN f;have x5:=tO f;have x6:=tP f;have x7:=tQ f;have x8:=tR f;have x9:=pP f;have V:=vJ f;have U:=vK f;have T:=vL f;have S:=vM f;have HX:=aC (zA hX (zA hs f));have ae:=Pr r Y;have HF:=aC Y;have C:Hid (Rd.fe r=if 40<r.ti then 11 else if 40<(Rd.fF r).length then 11 else if Rd.fF r=[]\/((Rd.fF r).length:U8)<r.ti then 6 else if Rd.lU r ((Rd.fF r).getLastD 0) then 6 else 0):=rfl;have E:Hid (eI r=if Rd.fe r=0 then Rd.fF r else []):=rfl;have t1:=Y.t1;clear hX f hs ht Y;unfold ig at *
 by_cases c1:40<r.ti
 ·have c:Rd.fe r=11:=by rw[C.out,Va c1]
  have o:eI r=[]:=by rw[E.out,c];simp
  rw[c,o];clear FI C E c o
  go_in
  go_upto_region 1 with fail
  change Y9 _ _ _ _ (w.alloc (bN r));generalize w.alloc (bN r)=X at *
  go_wp2_with fail
  exact bodyPost_ret (v:=.tuple #[.slice Vc 0 0,.int .i64 11]) (by simp[results,results147,go_sem]) rfl ⟨_,rfl,WJ _ _ _ _,HX.out.1⟩
 ·rw[U9 c1] at C
  go_in
  go_upto_region 1 with fail
  change Y9 _ _ _ _ (w.alloc (bN r));generalize w.alloc (bN r)=X at *
  go_upto_region 4 with (first
   |(go_at_call 199;refine FI.out.mono ?_;rintro e w1 ⟨v,rfl,own,g⟩))
  obtain⟨a,cap,rfl⟩:=pE own;have F:Hid (Vi w.heap.size w w1):=HX.out.1.trans (g.mono (by rw[HX.out.2.1];omega));have OW:Hid (w1.ownsRow w.heap.size 3 1 (.slice a (Rd.fF r).length cap) (Rd.fF r).length ((Rd.fF r).map (V3 .i64))):=vx own (by rw[HX.out.2.1];omega);have MB:Hid (∀ x∈Rd.fF r,0<=x/\x<728):=fun x hx=>Uj HF.out hx
  have R:=aN g x0;have P:=aN g x1;have O:=aN g x2;have N:=aN g x3;have M:=aN g x4;have K:=aN g x5;have J:=aN g x6;have I:=aN g x7;have H:=aN g x8;have G:=aN g x9;have y:=aN g V;have t:=aN g U;have D:=aN g T;have q:=aN g S;clear FI x0 x1 x2 x3 x4 x5 x6 x7 x8 x9 V U T S own g HX;generalize Rd.fF r=L at *
  by_cases A:40<L.length
  ·have c:Hid (Rd.fe r=11):=by show Rd.fe r=11;rw[C.out,Va A]
   have o:Hid (eI r=[]):=by show eI r=[];rw[E.out,c.out];simp
   have ad:(40:U8)<(L.length:U8):=UT
   clear R P O N M K J I H G y t D q A
   go_wp2_with fail
   exact bodyPost_ret (v:=.tuple #[.slice Vc 0 0,.int .i64 11]) (by simp[results,results147,go_sem]) rfl ⟨_,by rw[c.out],by rw[o.out];exact WJ _ _ _ _,F.out⟩
  ·have ad:¬ (40:U8)<(L.length:U8):=UT
   by_cases z:L=[]
   ·have c:Hid (Rd.fe r=6):=by show Rd.fe r=6;rw[C.out,U9 A,Va (.inl z)]
    have o:Hid (eI r=[]):=by show eI r=[];rw[E.out,c.out];simp
    have ac:((L.length:U8)==0)=Vf:=by rw[z];rfl
    clear R P O N M K J I H G y t q z A
    go_wp2_with fail
    exact bodyPost_ret (v:=.tuple #[.slice Vc 0 0,.int .i64 6]) (by simp[results,results147,go_sem]) rfl ⟨_,by rw[c.out],by rw[o.out];exact WJ _ _ _ _,F.out⟩
   ·have h0:0<L.length:=Zz.2 z;have ac:((L.length:U8)==0)=Ve:=by simp;omega
    by_cases c4:(L.length:U8)<r.ti
    ·have c:Hid (Rd.fe r=6):=by show Rd.fe r=6;rw[C.out,U9 A,Va (.inr c4)]
     have o:Hid (eI r=[]):=by show eI r=[];rw[E.out,c.out];simp
     clear R P O N M K J I H G y t q z A
     go_wp2_with fail
     exact bodyPost_ret (v:=.tuple #[.slice Vc 0 0,.int .i64 6]) (by simp[results,results147,go_sem]) rfl ⟨_,by rw[c.out],by rw[o.out];exact WJ _ _ _ _,F.out⟩
    ·obtain⟨Hh,af,e0⟩:=Yp OW.out UT;simp only[Yq,true_and] at e0;obtain⟨rfl,rfl⟩:=e0;have a0:=OW.out.cellAt (L.length-1) UT;rw[Yr,Qb z,Ys] at a0;have hl:=MB.out (L.getLastD 0) (by rw[Zy,Zx z];exact List.getLast_mem z);have SO:=aC (Ix r HF.out (L.getLastD 0) hl.1 UT w1.drew);have aa:Hid (Rd.fe r=if Rd.lU r (L.getLastD 0) then 6 else 0):=by show Rd.fe r=_;rw[C.out,U9 A,U9 (by rintro (h|h) <;> contradiction)]
     have LB:Hid (Rd.lU r (L.getLastD 0)=decide (1048320<(jK r (L.getLastD 0)).2)):=rfl;have k1:Vo.wrap ((L.length:U8)-1)=((L.length-1:U7):U8):=by rw[show (L.length:U8)-1=((L.length-1:U7):U8) from by omega];exact cG UT UT
     have k2:((L.length-1:U7):U8)<(L.length:U8):=UT
     generalize (jK r (L.getLastD 0)).2=til at *;generalize (jK r (L.getLastD 0)).1=fro at *;generalize L.getLastD 0=ld at *;unfold ig at SO;clear z hl A MB C;have ag:∀ w:Vg,(Instr.field 60 (.agg #[.int .i64 fro,.int .i64 til]) 1).run prog w=.ok (.int .i64 til) w:=fun _=>by kernel_rfl
     by_cases c5:1048320<til
     ·have c:Hid (Rd.fe r=6):=by show Rd.fe r=6;rw[aa.out,LB.out];simp[c5]
      have o:Hid (eI r=[]):=by show eI r=[];rw[E.out,c.out];simp
      go_upto_region 9 with fail
      go_region_with (first
       |(go_at_call 200;refine SO.out.mono ?_;rintro e w2 ⟨rfl,j⟩))
      all_goals
       have BF:Hid (Vi w.heap.size w w2):=F.out.drew.trans (j.mono F.out.size);clear j R P O N M K J I H G y t D q a0
       go_wp2_with fail
       exact bodyPost_ret (v:=.tuple #[.slice Vc 0 0,.int .i64 6]) (by simp[results,results147,go_sem]) rfl ⟨_,by rw[c.out],by rw[o.out];exact WJ _ _ _ _,BF.out⟩
     ·have c:Hid (Rd.fe r=0):=by show Rd.fe r=0;rw[aa.out,LB.out];simp[c5]
      have o:Hid (eI r=L):=by show eI r=L;rw[E.out,c.out];simp
      go_upto_region 9 with fail
      go_region_with (first
       |(go_at_call 200;refine SO.out.mono ?_;rintro e w2 ⟨rfl,j⟩))
      all_goals
       have BF:Hid (Vi w.heap.size w w2/\w2.ownsRow w.heap.size 3 1 (.slice (Vd ⟨Hh,0,Vc⟩) L.length cap) L.length (L.map (V3 .i64))):=⟨F.out.drew.trans (j.mono F.out.size),Ol (w:=w1.drew) (Gb OW.out) j⟩;clear j R P O N M K J I H G y t D q a0
       go_wp2_with fail
       exact bodyPost_ret (v:=.tuple #[.slice (Vd ⟨Hh,0,Vc⟩) L.length cap,.int .i64 0]) (by simp[results,results147,go_sem]) rfl ⟨_,by rw[c.out],by rw[o.out];exact BF.out.2,BF.out.1⟩
theorem dS.pF{r:Raw}(h:dS w d s r aM)(k:Vi w.heap.size w Z)(y:w.heap.size<=Q){l:U4 U8}{t:Vh}(own:Z.ownsRow (Q+1) 3 1 t l.length (l.map (V3 .i64)))(n:U8)(a b c e f g i:Vh):
  dX w d aM (s,⟨0,0,n,[],l,[],[]⟩) (bC 0 0 n (.slice Vc 0 0) t (.slice Vc 0 0) (.slice Vc 0 0)) (cK Z Q a b c e f g i):=by
 have q:=lE Z Q a b c e f g i;have z:=h.dk.later k;have nq:∀ b,Q<=b->aM b=Vc:=fun b o=>h.dk.none UT
 have st:Step anyS w.heap.size aM aM Z (cK Z Q a b c e f g i):=⟨⟨_,q,fun x j=>.inr (by have:x=Q:=YC.1 j;subst this;exact⟨nq _ (zq _),y⟩)⟩,fun _ _ h=>h,fun _ _ h=>.inl h⟩
 have rp:ku Z (Q+1) aM (bC 0 0 n (.slice Vc 0 0) t (.slice Vc 0 0) (.slice Vc 0 0)) ⟨0,0,n,[],l,[],[]⟩ :=
  ⟨_,_,_,_,[],rfl,rfl,gH.nil _ _ _,⟨own,fun b o=>nq b (by have:=(own.lt b o).1;omega)⟩,eD.nil _ _ _,eD.nil _ _ _,(fun b o=>by cases o),fun b _=>by simp[WH]⟩
 exact⟨r,aM,z.off q (fun x j=>by have:x=Q:=YC.1 j;subst this;exact nq _ (zq _)),h.of,h.wl,h.hl,(Step.below k).trans st,(rp.off q (fun x j=>by have:x=Q:=YC.1 j;omega)).base UT⟩
theorem Uw{r:Rd.bL}(a:Rd.fu r)(h:Rd.fe r≠0):aA.aU s (.expand r)=(s,aA.bO.error (Rd.fe r)):=by
 have e:=(Rd.pL a).1;simp only[aA.aU];rw[<- e,Va h]
theorem S8{r:Rd.bL}(c:Rd.fu r)(h:Rd.fe r=0):aA.aU s (.expand r)=(s,⟨0,0,((eI r).length:U8),[],eI r,[],[]⟩):=by
 obtain⟨a,j⟩:=Rd.pL c;have g:=(j (by rw[<- a];exact h)).1;have f:eI r=Rd.bH r:=by unfold eI;rw[Va h,g]
 simp only[aA.aU];rw[<- a,U9 UT,f];rfl
theorem QV(w:Vg)(r:Rd.bL):let X:=((w.alloc (.cells #[.int .i64 r.pc,.int .i64 r.ev,.bool (aI r.acc 0),.bool (aI r.acc 1),.bool (aI r.acc 2),.bool (aI r.acc 3),.bool (aI r.acc 4),.bool (aI r.acc 5),.bool (aI r.acc 6),.int .i64 r.fr,.int .i64 r.mn,.int .i64 r.mi,.int .i64 r.ti,.int .i64 r.un] 180)).alloc aX);Vi w.heap.size w X/\X.heap[w.heap.size+1]?=Vd aX/\X.heap.size=w.heap.size+2/\X.heap[w.heap.size]?=Vd (.cells #[.int .i64 r.pc,.int .i64 r.ev,.bool (aI r.acc 0),.bool (aI r.acc 1),.bool (aI r.acc 2),.bool (aI r.acc 3),.bool (aI r.acc 4),.bool (aI r.acc 5),.bool (aI r.acc 6),.int .i64 r.fr,.int .i64 r.mn,.int .i64 r.mi,.int .i64 r.ti,.int .i64 r.un] 180 (0,0)):=by
 obtain⟨c,a⟩:=yI (w:=w) (.cells #[.int .i64 r.pc,.int .i64 r.ev,.bool (aI r.acc 0),.bool (aI r.acc 1),.bool (aI r.acc 2),.bool (aI r.acc 3),.bool (aI r.acc 4),.bool (aI r.acc 5),.bool (aI r.acc 6),.int .i64 r.fr,.int .i64 r.mn,.int .i64 r.mi,.int .i64 r.ti,.int .i64 r.un] 180);exact⟨c,a,by simp,(Below.heap_alloc _ _ _ UU).trans (Zt w _)⟩
theorem Sm(h:dS w d s rw_ aM)(ht:gy w)(T:10<=w.heap.size)(r:Rd.bL)(z:Rd.fu r):
  Vj prog 102 #[.agg #[.int .i64 r.pc,.int .i64 r.ev,.bool (aI r.acc 0),.bool (aI r.acc 1),.bool (aI r.acc 2),.bool (aI r.acc 3),.bool (aI r.acc 4),.bool (aI r.acc 5),.bool (aI r.acc 6),.int .i64 r.fr,.int .i64 r.mn,.int .i64 r.mi,.int .i64 r.ti,.int .i64 r.un]] w fun e w'=>∃ v,e=.returned v/\dX w d aM (aA.aU s (.expand r)) v w':=by
 obtain⟨S,y,o,j⟩:=QV w r;have DY:=aC (Gh r z ((w.alloc (.cells #[.int .i64 r.pc,.int .i64 r.ev,.bool (aI r.acc 0),.bool (aI r.acc 1),.bool (aI r.acc 2),.bool (aI r.acc 3),.bool (aI r.acc 4),.bool (aI r.acc 5),.bool (aI r.acc 6),.int .i64 r.fr,.int .i64 r.mn,.int .i64 r.mi,.int .i64 r.ti,.int .i64 r.un] 180)).alloc aX) (pT ht S T) (by rw[o];omega));have HE:=aC (Uw (s:=s) z);have Y:=aC (S8 (s:=s) z);have HH:=aC h;have t:=aC (zA S (zA y o));have x0:=aZ j 0 rfl;have x1:=aZ j 1 rfl;have x2:=aZ j 2 rfl;have x3:=aZ j 3 rfl;have x4:=aZ j 4 rfl;have x5:=aZ j 5 rfl;have x6:=aZ j 6 rfl;have x7:=aZ j 7 rfl;have x8:=aZ j 8 rfl;have x9:=aZ j 9 rfl;have F:=aZ j 10 rfl;have E:=aZ j 11 rfl;have D:=aZ j 12 rfl;have C:=aZ j 13 rfl;unfold ig at DY;clear h S y o j z ht
 go_in
 go_upto_region 1 with fail
 change Y9 _ _ _ _ ((w.alloc (.cells #[.int .i64 r.pc,.int .i64 r.ev,.bool (aI r.acc 0),.bool (aI r.acc 1),.bool (aI r.acc 2),.bool (aI r.acc 3),.bool (aI r.acc 4),.bool (aI r.acc 5),.bool (aI r.acc 6),.int .i64 r.fr,.int .i64 r.mn,.int .i64 r.mi,.int .i64 r.ti,.int .i64 r.un] 180)).alloc aX);generalize ((w.alloc (.cells #[.int .i64 r.pc,.int .i64 r.ev,.bool (aI r.acc 0),.bool (aI r.acc 1),.bool (aI r.acc 2),.bool (aI r.acc 3),.bool (aI r.acc 4),.bool (aI r.acc 5),.bool (aI r.acc 6),.int .i64 r.fr,.int .i64 r.mn,.int .i64 r.mi,.int .i64 r.ti,.int .i64 r.un] 180)).alloc aX)=X at *
 go_upto_region 2 with (first
  |(go_at_call 147;refine DY.out.mono ?_;rintro e w1 ⟨da,rfl,own,R⟩))
 obtain⟨a1,cap,rfl⟩:=pE own;have BX:Hid (Vi w.heap.size w w1):=t.out.1.trans (R.mono t.out.1.size);have QX:Hid (Q7 w1 (w.heap.size+1)):=(Q7.of t.out.2.1).later (R.block _ (by rw[t.out.2.2];omega));have V:Hid (w1.ownsRow (w.heap.size+1+1) 3 1 (.slice a1 (eI r).length cap) (eI r).length ((eI r).map (V3 .i64))):=by have:=own;rw[t.out.2.2] at this;exact this
 clear DY x0 x1 x2 x3 x4 x5 x6 x7 x8 x9 F E D C own R t
 by_cases q:Rd.fe r=0
 ·have A:=aC (Y.out q);have P:(Rd.fe r != 0)=Ve:=by simpa using q
  have AF:Hid (∀ a b c e f g i,dX w d aM (aA.aU s (.expand r)) (bC 0 0 ((eI r).length:U8) (.slice Vc 0 0) (.slice a1 (eI r).length cap) (.slice Vc 0 0) (.slice Vc 0 0)) (cK w1 (w.heap.size+1) a b c e f g i)):=fun a b c e f g i=>by rw[A.out];exact HH.out.pF BX.out UT V.out _ a b c e f g i
  clear HE Y A V;generalize (eI r).length=nn at *;generalize Rd.fe r=er at *;subst q;obtain⟨N,M,K,J,I,H,G,U⟩:=QX.out
  go_wp2_with fail
  exact cO results102 ⟨N,M,K,J,I,H,G,U⟩ ⟨_,rfl,AF.out _ _ _ _ _ _ _⟩
 ·have A:=aC (HE.out q);have P:(Rd.fe r != 0)=Vf:=by simpa using q
  clear HE Y V q;generalize Rd.fe r=er at *
  go_wp2_with fail
  refine (lH er w1).mono ?_;rintro e w2 ⟨rfl,O⟩;have HF:=aC (HH.out.refuse BX.out QX.out O A.out);obtain⟨N,M,K,J,I,H,G,U⟩:=HF.out.1;simp only[bC]
  go_wp2_with fail
  exact cO results102 ⟨N,M,K,J,I,H,G,U⟩ ⟨_,rfl,HF.out.2⟩
theorem TX(h:dS w d s rw_ aM)(ht:gy w)(D:10<=w.heap.size)(r:Rd.bL)(F:Rd.fu r):
  Vj prog 64 #[.pointer (Vd ⟨d,0,Vc⟩),.iface 180 (.agg #[.int .i64 r.pc,.int .i64 r.ev,.bool (aI r.acc 0),.bool (aI r.acc 1),.bool (aI r.acc 2),.bool (aI r.acc 3),.bool (aI r.acc 4),.bool (aI r.acc 5),.bool (aI r.acc 6),.int .i64 r.fr,.int .i64 r.mn,.int .i64 r.mi,.int .i64 r.ti,.int .i64 r.un])] w fun e w'=>∃ v,e=.returned v/\dX w d aM (aA.aU s (.expand r)) v w':=by
 have E:=aC (h.pZ (.cells #[.int .i64 r.pc,.int .i64 r.ev,.bool (aI r.acc 0),.bool (aI r.acc 1),.bool (aI r.acc 2),.bool (aI r.acc 3),.bool (aI r.acc 4),.bool (aI r.acc 5),.bool (aI r.acc 6),.int .i64 r.fr,.int .i64 r.mn,.int .i64 r.mi,.int .i64 r.ti,.int .i64 r.un] 180));have G:=aC (Sm E.out.1 (pT ht E.out.2.1 D) (Vp D E.out.2.1.size) r F);clear h;unfold aX at G E;have o:=qt 180 UV;have C:=rZ 180 UV;have z:=sb 180 UV;have q:=rW 180 UV;have g:=tw 180 UV;have f:=tj 180 UV;have j:=uZ 180 UV;have y:=wS 180 UV;have c:=xe 180 UV;have t:=Aa 180 UV;have A:=Eh 180 UV;have a:=pg underlying180
 go_in
 go_wp2_with fail
 refine G.out.mono ?_;rintro e U ⟨v,rfl,H⟩;obtain⟨er,at_,V,a1,a2,a3,a4,n1,n2,Y,X,c1,c2,c3,c4,rfl,I,F⟩:=H.pV E.out.2;have T:=aC F;clear H F G o C z q g f j y c t A a;obtain⟨R,P,O,N,M,K,J,S⟩:=I;simp only[bC]
 go_wp2_with fail
 exact cO results64 ⟨R,P,O,N,M,K,J,S⟩ ⟨_,rfl,T.out⟩
theorem Fx:∀ (L:U4 (U8 × U8))(j:U7)(u:Vh),(L.flatMap fA)[j]?=Vd u->∃ (i:U7)(h:i<L.length),(j=i*2/\u=.int .i64 L[i].1)\/(j=i*2+1/\u=.int .i64 L[i].2)
 |[],j,u,h=>by simp at h
 |p :: L,0,u,h=>by
  refine⟨0,by simp,.inl ⟨rfl,?_⟩⟩;simp[fA] at h;exact h.symm
 |p :: L,1,u,h=>by
  refine⟨0,by simp,.inr ⟨rfl,?_⟩⟩;simp[fA] at h;exact h.symm
 |p :: L,j+2,u,h=>by
  have c:(L.flatMap fA)[j]?=Vd u:=by simpa[fA] using h
  obtain⟨i,g,e⟩:=Fx L j u c;refine⟨i+1,by simp;omega,?_⟩;rcases e with ⟨f,a⟩|⟨f,a⟩
  ·exact .inl ⟨by omega,by simpa using a⟩
  ·exact .inr ⟨by omega,by simpa using a⟩
theorem IE(L:U4 (U8 × U8)):(L.flatMap fA).length=L.length*2:=by
 induction L with
 |nil=>rfl
 |cons p L ih=>simp[fA,ih];omega
theorem Sp(L:U4 (U8 × U8)):∀ u∈L.flatMap fA,u.oneCell'=Vf:=by
 intro u c;obtain⟨p,_,a⟩:=List.mem_flatMap.1 c;simp[fA] at a;rcases a with rfl|rfl <;> rfl
theorem Tz(w:Vg)(B cap:U7)(L:U4 (U8 × U8))(z:SL w B L)(I:L.length<=100):
  Vj prog 210 #[.slice (Vd ⟨B,0,Vc⟩) L.length cap] w fun e w'=>∃ v,e=.returned v/\w'.ownsRow w.heap.size 60 2 v L.length (L.flatMap fA)/\Vi w.heap.size w w':=by
 obtain⟨F,t,r,q,o⟩:=info_parts vh;have E:∀ (w:Vg) (a:U5 Addr) (n c h y:U7),(binOp .eql 56 (.slice a n c) (.slice Vc h y)).run prog w=.ok (.bool a.isNone) w:=fun w a n c h y=>Lib.run_eql_slice_nil w _ _ a n c h y underlying56
 have D:=aC z;clear z
 go_in
 go_wp2_with (at_builtin;refine wpList_append_own _ rfl _ _ 56 rfl w.heap.size 60 F _ 2 16 underlying56 t r q o rfl UV _ _ _ rfl (World.ownsRow_made w #[] 0 (zq _) (zN _) rfl) ⟨B,0,Vc⟩ L.length cap (L.flatMap fA) rfl ?qc1 ?qc2 ?qc3 ?qc4 ?qc5 ?qc6 ?_)
 case qc1=>exact IE L
 case qc2 =>
  intro j u H;rw[Addr.add_lit];refine Lib.cell?_alloc_some _ ?_;obtain⟨i,C,⟨rfl,rfl⟩|⟨rfl,rfl⟩⟩:=Fx L j u H
  ·have:=(D.out i C).1
   simpa using this
  ·have:=(D.out i C).2
   simpa using this
 case qc3=>exact Sp L
 case qc4=>unfold maxLen;omega
 case qc5=>omega
 case qc6=>simp
 intro v' w1 g f A;go_wp2;go_ret;refine⟨v',rfl,by simpa using g,?_⟩;exact ((zr _ w).alloc (zq _) _).grown f UU (by intro k G;simp[WH] at G;omega)
def iZ:Obj:=.cells #[.int .i64 0,.int .i64 0,.string YM,.int .i64 0,.slice Vc 0 0,.int .i64 0] 58 (0,0)
def nX(e:aL)(v:Vh):Vh:=.agg #[.int .i64 e.id,.int .i64 e.kind,.string e.aT,.int .i64 e.aH,v,.int .i64 e.bY]
def tD(Z:Vg)(Q:U7)(a b c d e f:Vh):Vg:=(((((Z.setCell ⟨Q,0,Vc⟩ a).setCell ⟨Q,1,Vc⟩ b).setCell ⟨Q,2,Vc⟩ c).setCell ⟨Q,3,Vc⟩ d).setCell ⟨Q,4,Vc⟩ e).setCell ⟨Q,5,Vc⟩ f
theorem GB(Z:Vg)(Q:U7)(a b c d e f:Vh):aF [Q] Z (tD Z Q a b c d e f) :=
 ((((((aF.refl [Q] Z).setCell (.inl UU) _ _).setCell (.inl UU) _ _).setCell (.inl UU) _ _).setCell (.inl UU) _ _).setCell (.inl UU) _ _).setCell (.inl UU) _ _
def Bo(w:Vg)(e:aL)(v:Vh)(w':Vg):Prop:=∃ sp,v=nX e sp/\w'.ownsRow w.heap.size 60 2 sp e.aK.length (e.aK.flatMap fA)/\Vi w.heap.size w w'
theorem NI(h:w.heap[Q]?=Vd iZ):w.cell? ⟨Q,0,Vc⟩=Vd (.int .i64 0):=by unfold iZ at h;simp only[VK,h];rfl
theorem NJ(h:w.heap[Q]?=Vd iZ):w.cell? ⟨Q,1,Vc⟩=Vd (.int .i64 0):=by unfold iZ at h;simp only[VK,h];rfl
theorem NK(h:w.heap[Q]?=Vd iZ):w.cell? ⟨Q,2,Vc⟩=Vd (.string YM):=by unfold iZ at h;simp only[VK,h];rfl
theorem NN(h:w.heap[Q]?=Vd iZ):w.cell? ⟨Q,3,Vc⟩=Vd (.int .i64 0):=by unfold iZ at h;simp only[VK,h];rfl
theorem NP(h:w.heap[Q]?=Vd iZ):w.cell? ⟨Q,4,Vc⟩=Vd (.slice Vc 0 0):=by unfold iZ at h;simp only[VK,h];rfl
theorem NQ(h:w.heap[Q]?=Vd iZ):w.cell? ⟨Q,5,Vc⟩=Vd (.int .i64 0):=by unfold iZ at h;simp only[VK,h];rfl
theorem NS(h:w.heap[Q]?=Vd iZ):∀ o,w.frozen? ⟨Q,o,Vc⟩=Ve:=fun o=>frozen_of_row _ Q o _ _ h
theorem P8(w:Vg)(g:EG)(h:gQ w g)(J:w.cell? ⟨g.tb,0,Vc⟩=Vd (.string g.e.aT))(hL:g.e.aK.length<=100):
  Vj prog 152 #[.pointer (Vd ⟨g.eb,0,Vc⟩)] w fun e w'=>∃ v,e=.returned v/\Bo w g.e v w':=by
 have F:Vi w.heap.size w (w.alloc iZ):=(zr _ _).alloc (zq _) _;have U:=cC w iZ;have t:=h.off (G:=[]) (aF.aD F) UU UU;have S:=t.en.c0;have R:=t.k;have P:=t.en.c1;have O:=t.en.c2;have N:=t.en.c3;have M:=t.u;have K:=aN F J;have V:=aC (Tz (w.alloc iZ).drew g.B g.cap g.e.aK (t.en.sl.off (G:=[]) (aF.aD (dM _)) UU) hL);have H:=aC (zA F U);have q:g.eb≠w.heap.size/\g.tb≠w.heap.size:=⟨by have:=h.lt;omega,by have y:g.tb<w.heap.size:=Vq _ _ J;omega⟩;clear h J F U t
 go_in
 go_upto_region 1 with fail
 change Y9 _ _ _ _ (w.alloc iZ);have I:w.heap.size<(w.alloc iZ).heap.size:=UU
 generalize w.alloc iZ=X at *;have T:Hid (∀ w2,Vi X.drew.heap.size X.drew w2->w2.cell? ⟨g.eb,0,Vc⟩=Vd (.int .i64 g.e.id)/\w2.cell? ⟨g.eb,1,Vc⟩=Vd (.int .i64 g.e.kind)/\w2.cell? ⟨g.eb,2,Vc⟩=Vd (.pointer (Vd ⟨g.tb,0,Vc⟩))/\w2.cell? ⟨g.eb,3,Vc⟩=Vd (.int .i64 g.e.aH)/\w2.cell? ⟨g.eb,4,Vc⟩=Vd (.slice (Vd ⟨g.B,0,Vc⟩) g.e.aK.length g.cap)/\w2.cell? ⟨g.eb,5,Vc⟩=Vd (.int .i64 g.e.bY)/\w2.cell? ⟨g.tb,0,Vc⟩=Vd (.string g.e.aT)):=fun w2 k=>⟨aN k S,aN k R,aN k P,aN k O,aN k N,aN k M,aN k K⟩
 have AQ:Hid (∀ w2,Vi X.drew.heap.size X.drew w2->w2.heap[w.heap.size]?=Vd iZ):=fun w2 k=>(k.block _ I).trans H.out.2
 have Y:Hid (∀ w2 a b c d e f,Vi X.drew.heap.size X.drew w2->((((((w2.setCell ⟨w.heap.size,0,Vc⟩ a).setCell ⟨w.heap.size,1,Vc⟩ b).setCell ⟨w.heap.size,2,Vc⟩ c).setCell ⟨w.heap.size,3,Vc⟩ d).setCell ⟨w.heap.size,4,Vc⟩ e).setCell ⟨w.heap.size,5,Vc⟩ f).cell? ⟨g.eb,0,Vc⟩=Vd (.int .i64 g.e.id)/\((((((w2.setCell ⟨w.heap.size,0,Vc⟩ a).setCell ⟨w.heap.size,1,Vc⟩ b).setCell ⟨w.heap.size,2,Vc⟩ c).setCell ⟨w.heap.size,3,Vc⟩ d).setCell ⟨w.heap.size,4,Vc⟩ e).setCell ⟨w.heap.size,5,Vc⟩ f).cell? ⟨g.eb,1,Vc⟩=Vd (.int .i64 g.e.kind)/\((((((w2.setCell ⟨w.heap.size,0,Vc⟩ a).setCell ⟨w.heap.size,1,Vc⟩ b).setCell ⟨w.heap.size,2,Vc⟩ c).setCell ⟨w.heap.size,3,Vc⟩ d).setCell ⟨w.heap.size,4,Vc⟩ e).setCell ⟨w.heap.size,5,Vc⟩ f).cell? ⟨g.eb,2,Vc⟩=Vd (.pointer (Vd ⟨g.tb,0,Vc⟩))/\((((((w2.setCell ⟨w.heap.size,0,Vc⟩ a).setCell ⟨w.heap.size,1,Vc⟩ b).setCell ⟨w.heap.size,2,Vc⟩ c).setCell ⟨w.heap.size,3,Vc⟩ d).setCell ⟨w.heap.size,4,Vc⟩ e).setCell ⟨w.heap.size,5,Vc⟩ f).cell? ⟨g.eb,3,Vc⟩=Vd (.int .i64 g.e.aH)/\((((((w2.setCell ⟨w.heap.size,0,Vc⟩ a).setCell ⟨w.heap.size,1,Vc⟩ b).setCell ⟨w.heap.size,2,Vc⟩ c).setCell ⟨w.heap.size,3,Vc⟩ d).setCell ⟨w.heap.size,4,Vc⟩ e).setCell ⟨w.heap.size,5,Vc⟩ f).cell? ⟨g.eb,4,Vc⟩=Vd (.slice (Vd ⟨g.B,0,Vc⟩) g.e.aK.length g.cap)/\((((((w2.setCell ⟨w.heap.size,0,Vc⟩ a).setCell ⟨w.heap.size,1,Vc⟩ b).setCell ⟨w.heap.size,2,Vc⟩ c).setCell ⟨w.heap.size,3,Vc⟩ d).setCell ⟨w.heap.size,4,Vc⟩ e).setCell ⟨w.heap.size,5,Vc⟩ f).cell? ⟨g.eb,5,Vc⟩=Vd (.int .i64 g.e.bY)/\((((((w2.setCell ⟨w.heap.size,0,Vc⟩ a).setCell ⟨w.heap.size,1,Vc⟩ b).setCell ⟨w.heap.size,2,Vc⟩ c).setCell ⟨w.heap.size,3,Vc⟩ d).setCell ⟨w.heap.size,4,Vc⟩ e).setCell ⟨w.heap.size,5,Vc⟩ f).cell? ⟨g.tb,0,Vc⟩=Vd (.string g.e.aT)):=fun w2 a b c d e f k=>by
  have o:=GB w2 w.heap.size a b c d e f;obtain⟨k0,k1,k2,k3,k4,k5,k6⟩:=T.out w2 k;exact⟨o.cell (by simpa using q.1) k0,o.cell (by simpa using q.1) k1,o.cell (by simpa using q.1) k2,o.cell (by simpa using q.1) k3,o.cell (by simpa using q.1) k4,o.cell (by simpa using q.1) k5,o.cell (by simpa using q.2) k6⟩
 clear q
 go_region_held3 (fun w'=>w'.cell? ⟨g.eb,0,Vc⟩=Vd (.int .i64 g.e.id)/\w'.cell? ⟨g.eb,1,Vc⟩=Vd (.int .i64 g.e.kind)/\w'.cell? ⟨g.eb,2,Vc⟩=Vd (.pointer (Vd ⟨g.tb,0,Vc⟩))/\w'.cell? ⟨g.eb,3,Vc⟩=Vd (.int .i64 g.e.aH)/\w'.cell? ⟨g.eb,4,Vc⟩=Vd (.slice (Vd ⟨g.B,0,Vc⟩) g.e.aK.length g.cap)/\w'.cell? ⟨g.eb,5,Vc⟩=Vd (.int .i64 g.e.bY)/\w'.cell? ⟨g.tb,0,Vc⟩=Vd (.string g.e.aT))
  (first
   |with_reducible exact Y.out _ _ _ _ _ _ _ r
   |with_reducible exact T.out _ r
   |exact⟨S,R,P,O,N,M,K⟩)
  (first
   |(go_at_call 210;refine V.out.mono ?_;rintro e w2 ⟨v,rfl,D,r⟩;obtain⟨C,A,rfl⟩:=ix D;have j:=AQ.out w2 r;have q0:=NI j;have q1:=NJ j;have q2:=NK j;have q3:=NN j;have q4:=NP j;have q5:=NQ j;have fq:=NS j;clear j))
 have HF:Hid (Bo w g.e (nX g.e (.slice C g.e.aK.length A)) (tD w2 w.heap.size (.int .i64 g.e.id) (.int .i64 g.e.kind) (.string g.e.aT) (.int .i64 g.e.aH) (.slice C g.e.aK.length A) (.int .i64 g.e.bY))):=by
  have z:=H.out.1.size;have k:=GB w2 w.heap.size (.int .i64 g.e.id) (.int .i64 g.e.kind) (.string g.e.aT) (.int .i64 g.e.aH) (.slice C g.e.aK.length A) (.int .i64 g.e.bY);have y:Vi w.heap.size w w2:=H.out.1.drew.trans (r.mono z);refine⟨_,rfl,dO (YD D z) k (fun b E t=>?_),?_⟩
  ·have:=(D.lt b E).1;have e:b=w.heap.size:=YC.1 t;have aa:w.heap.size<X.drew.heap.size:=I;omega
  ·exact⟨k.os.trans y.os,k.tape.trans y.tape,k.output.trans y.output,Vp y.size k.size,fun b E=>(k.block b (zL E y.size) UZ).trans (y.block b E)⟩
 clear D r V T AQ Y S R P O N M K H I
 go_wp2_with fail
 exact bodyPost_ret (v:=nX g.e (.slice C g.e.aK.length A)) (by simp[results,results152,go_sem,nX,q0,q1,q2,q3,q4,q5]) rfl ⟨_,rfl,HF.out⟩
theorem SX:(prog.info? 58).map (fun i=>(i.zero,i.size,i.bytes))=Vd (Vd (.agg #[.int .i64 0,.int .i64 0,.string YM,.int .i64 0,.slice Vc 0 0,.int .i64 0]),6,72):=UY
theorem dS.lJ{r:Raw}(h:dS w d s r aM)(k:Vi w.heap.size w wx){g:EG}(a:g∈r.eg):
  Vj prog 152 #[.pointer (Vd ⟨g.eb,0,Vc⟩)] wx fun e w'=>∃ v,e=.returned v/\Bo wx g.e v w':=by
 have f:=h.dk.later k;obtain⟨i,o,t,q⟩:=h.of.tb g a;obtain⟨z,y,C,A,j,_⟩:=f.th i o;have c:=j.c0;rw[t,<- q] at c;exact P8 wx g (f.en g a).1 c (by have:=(h.inv.en _ (h.of.mem a)).sl;omega)
theorem qV:∀ {l:U4 (aL × Vh)}{k:U7}(c:k<l.length){j:U7}(_:j<6),(l.flatMap ef)[k*6+j]?=(ef l[k])[j]?
 |p :: l,0,c,j,hj=>by
  have e:(p :: l).flatMap ef=ef p++l.flatMap ef:=UU
  rw[e,List.getElem?_append_left (by simp[ef];omega)];simp
 |p :: l,k+1,c,j,hj=>by
  have a:k<l.length:=by simpa using c
  have e:(p :: l).flatMap ef=ef p++l.flatMap ef:=UU
  have f:(ef p).length=6:=rfl;rw[e,Wy (by rw[f];omega),f,show (k+1)*6+j-6=k*6+j by omega,qV a hj];simp
theorem RG(eb:U7)(id:U8)(x:aL)(a:U5 Addr)(n c:U7)(w:Vg)(g:w.cell? ⟨eb,0,Vc⟩=Vd (.int .i64 id)):
  Vj prog 209 #[.pointer (Vd ⟨eb,0,Vc⟩),nX x (.slice a n c)] w fun e w'=>e=.returned (.bool (x.id==id))/\Vi w.heap.size w w':=by
 have f:Vi w.heap.size w (w.alloc (.cells #[.int .i64 x.id,.int .i64 x.kind,.string x.aT,.int .i64 x.aH,.slice a n c,.int .i64 x.bY] 58)):=(zr _ _).alloc (zq _) _;have o:(w.alloc (.cells #[.int .i64 x.id,.int .i64 x.kind,.string x.aT,.int .i64 x.aH,.slice a n c,.int .i64 x.bY] 58)).cell? ⟨w.heap.size,0,Vc⟩=Vd (.int .i64 x.id):=UU
 have j:=aN f g;have h:=aC f;clear f g;unfold nX
 go_in
 go_upto_region 1 with fail
 generalize w.alloc (.cells #[.int .i64 x.id,.int .i64 x.kind,.string x.aT,.int .i64 x.aH,.slice a n c,.int .i64 x.bY] 58)=X at *
 go_big_region
 go_wp2
 go_ret;exact⟨rfl,h.out.drew⟩
theorem Ul(l:U4 (aL × Vh))(v:Vh)(B eb:U7)(id:U8)(w:Vg)(own:w.ownsRow B 58 6 v l.length (l.flatMap ef))(O:∀ p∈l,∃ a n c,p.2=.slice a n c)(P:w.cell? ⟨eb,0,Vc⟩=Vd (.int .i64 id))(hl:l.length<=1000):
  Vj prog 256 #[v,.func (.func 209) #[.pointer (Vd ⟨eb,0,Vc⟩)] #[]] w fun e w'=>e=.returned (.int .i64 (eO (fun p:aL × Vh=>p.1.id==id) l 0))/\Vi w.heap.size w w':=by
 obtain⟨a,cap,rfl⟩:=ix own;have CC:=aC P;have HS:=aC O;have y:=aC own;clear P O own
 go_in
 go_wp2_with fail
 go_loopw [8] (fun i wx=>∃ k:U7,k<=l.length/\i=.int .i64 k/\eO (fun p:aL × Vh=>p.1.id==id) l 0=eO (fun p:aL × Vh=>p.1.id==id) (l.drop k) k/\Vi w.heap.size w wx) (fun i _=>l.length-(intOf i).toNat)
 case atStart=>exact⟨0,Wg _,rfl,rfl,Below.refl _ _⟩
 case round =>
  obtain⟨k,hk,rfl,C,t⟩:=hrel;have K:=aC C;have N:=aC t
  by_cases g:k<l.length
  ·have hi:(k:U8)<(l.length:U8):=UT
   obtain⟨H,T,S⟩:=Yp y.out UT;simp only[Yq,true_and] at S;obtain⟨rfl,rfl⟩:=S;have f:=eu y.out t;have J:=(f.cellAt (k*6) UT).trans (qV g (j:=0) UT);have I:=(f.cellAt (k*6+1) UT).trans (qV g (j:=1) UT);have G:=(f.cellAt (k*6+2) UT).trans (qV g (j:=2) UT);have F:=(f.cellAt (k*6+3) UT).trans (qV g (j:=3) UT);have A:=(f.cellAt (k*6+4) UT).trans (qV g (j:=4) UT);have E:=(f.cellAt (k*6+5) UT).trans (qV g (j:=5) UT);simp only[ef,List.getElem?_cons_zero,List.getElem?_cons_succ] at J I G F A E;obtain⟨Y,V,X,r⟩:=HS.out l[k] (zg g);rw[r] at A;have h:=aC (RG eb id l[k].1 Y V X wr (aN t CC.out));have R:eO (fun p:aL × Vh=>p.1.id==id) (l.drop k) k=if l[k].1.id==id then (k:U8) else eO (fun p:aL × Vh=>p.1.id==id) (l.drop (k+1)) ((k+1:U7):U8):=by rw[List.drop_eq_getElem_cons g];rfl
   have U:=aC R;clear R f t C r
   cases o:(l[k].1.id==id)
   ·have z:Hid (eO (fun p:aL × Vh=>p.1.id==id) l 0=eO (fun p:aL × Vh=>p.1.id==id) (l.drop (k+1)) ((k+1:U7):U8)):=by show _=_;rw[K.out,U.out,o];rfl
    rw[o] at h;clear o;unfold nX at h
    go_wp2_with fail
    refine h.out.mono ?_;rintro e w1 ⟨rfl,q⟩;have M:=aC (bA N.out q (zq _));clear q J I G F A E h
    go_wp2
    go_roundw
    case rel=>exact⟨k+1,by omega,by go_num,z.out,M.out⟩
    case measure=>simp[intOf];omega
   ·have z:Hid (eO (fun p:aL × Vh=>p.1.id==id) l 0=k):=by show _=_;rw[K.out,U.out,o];rfl
    rw[o] at h;clear o;unfold nX at h
    go_wp2_with fail
    refine h.out.mono ?_;rintro e w1 ⟨rfl,q⟩;have M:=aC (bA N.out q (zq _));clear q J I G F A E h
    go_wp2
    go_ret;exact⟨gK z.out.symm,M.out⟩
  ·have D:k=l.length:=UT
   have hi:¬ ((k:U8)<(l.length:U8)):=UT
   have z:Hid (eO (fun p:aL × Vh=>p.1.id==id) l 0=-1):=by show _=_;rw[K.out,D,List.drop_length];rfl
   clear C t
   go_wp2
   go_ret;exact⟨gK z.out.symm,N.out⟩
theorem Uz(l:U4 (aL × Vh))(v:Vh)(B eb:U7)(id:U8)(w:Vg)(own:w.ownsRow B 58 6 v l.length (l.flatMap ef))(r:∀ p∈l,∃ a n c,p.2=.slice a n c)(t:w.cell? ⟨eb,0,Vc⟩=Vd (.int .i64 id))(C:l.length<=1000):
  Vj prog 208 #[v,.func (.func 209) #[.pointer (Vd ⟨eb,0,Vc⟩)] #[]] w fun e w'=>e=.returned (.bool (l.any (fun p:aL × Vh=>p.1.id==id)))/\Vi w.heap.size w w':=by
 have y:=aC (Ul l v B eb id w own r t C)
 have f:(decide ((0:U8)<=eO (fun p:aL × Vh=>p.1.id==id) l 0))=l.any (fun p:aL × Vh=>p.1.id==id):=by
  rcases vE (fun p:aL × Vh=>p.1.id==id) l 0 with ⟨j,g⟩|⟨k,h,j,g,_⟩
  ·rw[j];have:l.any (fun p:aL × Vh=>p.1.id==id)=Ve:=ZA.2 (fun x A=>by rw[g x A];simp);rw[this];rfl
  ·have:l.any (fun p:aL × Vh=>p.1.id==id)=Vf:=XH.2 ⟨_,ZB h,g⟩;rw[this,j];exact decide_eq_true UT
 have o:=aC f;clear f own r t
 go_in
 go_wp2_with fail
 refine y.out.mono ?_;rintro e w1 ⟨rfl,q⟩;have D:=aC q;clear q y;generalize eO (fun p:aL × Vh=>p.1.id==id) l 0=z at *
 go_wp2
 go_ret;exact⟨by rw[o.out];rfl,D.out⟩
structure Ay(w wx:Vg)(r:Rd.bL)(days:U4 U8)(k:U7)(v:Vh):Prop where
 own:wx.ownsRow w.heap.size 60 2 v k ((((days.take k).map (jK r))).flatMap fA)
 bl:Vi w.heap.size w wx
 ru:wx.heap[w.heap.size]?=Vd (bN r)
 ne:v.ownBlock≠Vd w.heap.size
theorem QH(r:Rd.bL)(hf:Rd.fu r)(c:U4 U8)(hd:∀ d∈c,0<=d/\d<100000)(hl:c.length<=100)(v:Vh)(B:U7)(w:Vg)(own:w.ownsRow B 3 1 v c.length (c.map (V3 .i64))):
  Vj prog 148 #[ig r,v] w fun e w'=>∃ v',e=.returned v'/\w'.ownsRow w.heap.size 60 2 v' c.length ((c.map (jK r)).flatMap fA)/\Vi w.heap.size w w':=by
 obtain⟨i0,E,C,A,z⟩:=info_parts vh;obtain⟨a,cap,rfl⟩:=ix own;have hX:Vi w.heap.size w (w.alloc (bN r)):=(zr _ _).alloc (zq _) _;have hr:=cC w (bN r);have hs:(w.alloc (bN r)).heap.size=w.heap.size+1:=UU
 have HX:=aC (zA hX (zA hr hs));have OW:=aC own;have HD:=aC (zA hd hf);clear own hX hr hd hf hs;unfold ig
 go_in
 go_upto_region 1 with fail
 change Y9 _ _ _ _ (w.alloc (bN r));generalize w.alloc (bN r)=X at *
 go_wp2_with (first
  |(at_make;refine wpList_make_own _ rfl _ _ 56 rfl w.heap.size 60 i0 _ 2 underlying56 E C A .i64 .i64 (c.length:U8) c.length rfl rfl rfl (by rw[z];omega) U0 (by have:=HX.out.1.size;omega) ?_;intro w1 g f))
 have S0:Hid (Ay w w1 r c 0 (.slice (Vd ⟨X.heap.size,0,Vc⟩) 0 c.length)):=by
  obtain⟨J,N,x3⟩:=HX.out;refine⟨by simpa using g,J.grown f J.size (fun k e=>by cases e),(f.block _ UT UU).trans N,fun e=>?_⟩;have:X.heap.size=w.heap.size:=by simpa[WH] using e
  omega
 clear g f
 go_loopw [5,7,13] (fun vs _ U wx=>∃ k:U7,k<=c.length/\U=.int .i64 k/\Ay w wx r c k vs) (fun _ _ U _=>c.length-(intOf U).toNat)
 case atStart=>exact⟨0,Wg _,rfl,S0.out⟩
 case round =>
  obtain⟨k,hk,rfl,S⟩:=hrel
  by_cases h:k<c.length
  ·have D:(k:U8)<(c.length:U8):=UT
   have row:=eu OW.out S.bl;obtain⟨Hh,ac,G⟩:=Yp row UT;simp only[Yq,true_and] at G;obtain⟨rfl,rfl⟩:=G;have a0:=row.cellAt k UT;rw[Yr,List.getElem?_eq_getElem h,Ys] at a0;have SO:=aC (Ix r HD.out.2 c[k] (HD.out.1 _ (zg h)).1 (HD.out.1 _ (zg h)).2 wr);have x0:=tK S.ru;have J:=oJ S.ru;have N:=tL S.ru;have x3:=tM S.ru;have x4:=tN S.ru;have x5:=tO S.ru;have x6:=tP S.ru;have x7:=tQ S.ru;have x8:=tR S.ru;have x9:=pP S.ru;have T:=vJ S.ru;have R:=vK S.ru;have P:=vL S.ru;have O:=vM S.ru;have M:=aC S;unfold ig at SO;clear S row
   go_wp2_with fail
   refine SO.out.mono ?_;rintro e w2 ⟨rfl,j⟩;have RW:=aC (eu M.out.own j);have I:=aC j;have ad:w.heap.size<=w2.heap.size:=Vp M.out.bl.size j.size;clear j SO a0 x0 J N x3 x4 x5 x6 x7 x8 x9 T R P O
   go_wp2_with (first
    |(at_builtin;refine wpList_append_lies _ rfl _ _ 56 rfl w.heap.size 60 i0 _ 2 16 underlying56 E C A z rfl UV _ _ _ rfl (RW.out.alloc _) ⟨w2.heap.size,0,Vc⟩ 1 1 (fA (jK r c[k])) rfl rfl (World.news_of_block (cs:=(fA (jK r c[k])).toArray) (cC w2 _)) (by simp[fA,Value.oneCell']) UT U0 UT UZ (w2.heap.size+1) UU ?_;intro K H w3 g f F ab))
   have t:aF u5.ownBlock.toList w2 w3:=aF.grown ((aF.refl _ w2).alloc _) f (fun k hk=>.inl (WV.2 hk));have q:u5.ownBlock=Vd K\/K=w2.heap.size+1:=F
   have HN:Hid (Ay w w3 r c (k+1) (.slice (Vd ⟨K,0,Vc⟩) (k+1) H)):=by
    have S:=M.out;have y:Vi w.heap.size w w2:=S.bl.trans (I.out.mono S.bl.size)
    have Y:w.heap.size<wr.heap.size:=by
     have:=tK S.ru;exact Vq _ _ this
    refine⟨?_,⟨t.os.trans y.os,t.tape.trans y.tape,t.output.trans y.output,Vp y.size t.size,fun b hb=>(t.block b (zL hb y.size) (fun V=>by have:=(S.own.lt b (WV.1 V)).1;omega)).trans (y.block b hb)⟩,?_,fun e=>?_⟩
    ·rw[List.take_succ_eq_append_getElem h,Wq,Ww];have:([c[k]].map (jK r)).flatMap fA=fA (jK r c[k]):=UU
     rw[this];exact g
    ·exact ((t.block _ (by have:=I.out.size;omega) (fun V=>S.ne (WV.1 V))).trans (I.out.block _ Y)).trans S.ru
    ·have:K=w.heap.size:=by simpa[WH] using e
     rcases q with G|G
     ·exact S.ne (by rw[G,this])
     ·have:=I.out.size;omega
   clear g f F t q M RW I
   go_wp2
   go_roundw
   case rel=>exact⟨k+1,by omega,by go_num,HN.out⟩
   case measure=>simp[intOf];omega
  ·have aa:k=c.length:=UT
   have D:¬ ((k:U8)<(c.length:U8)):=UT
   have HF:Hid (wr.ownsRow w.heap.size 60 2 u5 c.length ((c.map (jK r)).flatMap fA)/\Vi w.heap.size w wr):=by
    have o:=S.own;rw[aa,List.take_length] at o;exact⟨o,S.bl⟩
   clear S
   go_wp2
   go_ret;exact⟨_,rfl,HF.out⟩
theorem Ux{q:Rd.bL}(h:aA.dH s.ts name u≠0):aA.aU s (.series name u q)=(s,aA.bO.error (aA.dH s.ts name u)):=by
 have e:aA.mJ s name u q=aA.dH s.ts name u:=by unfold aA.mJ;rw[Va h]
 simp only[aA.aU];rw[e,Va h]
theorem Uy{q:Rd.bL}(c:Rd.fu q)(h:aA.dH s.ts name u=0)(a:Rd.fe q≠0):aA.aU s (.series name u q)=(s,aA.bO.error (Rd.fe q)):=by
 have f:=(Rd.pL c).1;have e:aA.mJ s name u q=Rd.fe q:=by unfold aA.mJ;rw[U9 UT,<- f,Va a]
 simp only[aA.aU];rw[e,Va a]
theorem S9{q:Rd.bL}(j:Rd.fu q)(h:aA.dH s.ts name u=0)(f:Rd.fe q=0):aA.aU s (.series name u q)=ik s ⟨0,1,name,u,(eI q).map (jK q),0⟩:=by
 obtain⟨g,t⟩:=Rd.pL j;have r:=(t (by rw[<- g];exact f)).1;have o:(eI q).map (jK q)=Rd.gd q (Rd.bH q):=by unfold eI;rw[Va f,r];rfl
 simp only[aA.aU];unfold aA.mJ ik;rw[U9 (c:=aA.dH s.ts name u≠0) UT,<- g,U9 (c:=Rd.fe q≠0) UT,o]
 by_cases a:s.given=60
 ·simp[a]
 ·cases aA.dG s.ts s.es name u (Rd.gd q (Rd.bH q)) <;> simp[a]
theorem H6:∀ (i:U7)(h:i<L.length),(L.flatMap fA)[i*2]?=Vd (.int .i64 L[i].1)/\(L.flatMap fA)[i*2+1]?=Vd (.int .i64 L[i].2):=by
 induction L with
 |nil=>intro i h;simp at h
 |cons a L ih =>
  intro i h
  cases i with
  |zero=>exact⟨rfl,rfl⟩
  |succ i =>
   obtain⟨f,c⟩:=ih i (by simpa using h);have e:(a :: L).flatMap fA=[.int .i64 a.1,.int .i64 a.2]++L.flatMap fA:=rfl;rw[e,show (i+1)*2=2+i*2 from by omega,show 2+i*2+1=2+(i*2+1) from by omega];constructor
   ·rw[Wy UU];simpa using f
   ·rw[Wy UU];simpa using c
theorem dS.vu{r:Raw}(h:dS w d s r aM)(z:Vi w.heap.size w w3){g cap y:U7}(D:i<r.tg.length)(c:r.tg[i].name=name)(row:w3.ownsRow y 60 2 (.slice (Vd ⟨g,0,Vc⟩) n cap) n (L.flatMap fA))(A:n=L.length)(E:B<=y)(K:w.heap.size<=B)(ok:gv s.now ⟨0,1,name,u,L,0⟩):
  kK (w3.alloc (.cells #[.int .i64 0,.int .i64 1,.pointer (Vd ⟨r.tg[i].tb,0,Vc⟩),.int .i64 u,.slice (Vd ⟨g,0,Vc⟩) n cap,.int .i64 0] 200)) B d s r aM ⟨⟨0,1,name,u,L,0⟩,w3.heap.size,g,cap,r.tg[i].tb⟩ i:=by
 have q:Vi w3.heap.size w3 (w3.alloc (.cells #[.int .i64 0,.int .i64 1,.pointer (Vd ⟨r.tg[i].tb,0,Vc⟩),.int .i64 u,.slice (Vd ⟨g,0,Vc⟩) n cap,.int .i64 0] 200)):=(zr _ _).alloc (zq _) _;have t:=h.dk.later z;have eb:=cC w3 (.cells #[.int .i64 0,.int .i64 1,.pointer (Vd ⟨r.tg[i].tb,0,Vc⟩),.int .i64 u,.slice (Vd ⟨g,0,Vc⟩) n cap,.int .i64 0] 200);have M:=row.lt g rfl;have J:(w3.alloc (.cells #[.int .i64 0,.int .i64 1,.pointer (Vd ⟨r.tg[i].tb,0,Vc⟩),.int .i64 u,.slice (Vd ⟨g,0,Vc⟩) n cap,.int .i64 0] 200)).heap.size=w3.heap.size+1:=UU
 have a:=eu row q;generalize w3.alloc (.cells #[.int .i64 0,.int .i64 1,.pointer (Vd ⟨r.tg[i].tb,0,Vc⟩),.int .i64 u,.slice (Vd ⟨g,0,Vc⟩) n cap,.int .i64 0] 200)=Z at *;refine⟨⟨t.later q,h.of,h.wl,h.hl,h.inv⟩,⟨⟨?_,?_,?_,?_,fun j C=>?_,?_⟩,?_,?_,fun o=>frozen_of_row _ _ _ _ _ eb,⟨_,eb⟩⟩,t.none (zq _),h.dk.none (by show w.heap.size<=g;omega),(by show B<=w3.heap.size;omega),(by show B<=g;omega),(by show w3.heap.size≠g;omega),UT,D,c,rfl,ok⟩
 ·show Z.cell? ⟨w3.heap.size,0,Vc⟩=_;simp only[VK,eb];rfl
 ·show Z.cell? ⟨w3.heap.size,2,Vc⟩=_;simp only[VK,eb];rfl
 ·show Z.cell? ⟨w3.heap.size,3,Vc⟩=_;simp only[VK,eb];rfl
 ·show Z.cell? ⟨w3.heap.size,4,Vc⟩=Vd (.slice (Vd ⟨g,0,Vc⟩) L.length cap);rw[<- A];simp only[VK,eb];rfl
 ·have f:j<L.length:=C;obtain⟨G,F⟩:=H6 j f;have I:=a.cellAt (j*2) UT;have H:=a.cellAt (j*2+1) UT;exact⟨I.trans G,H.trans F⟩
 ·show g<_;omega
 ·show Z.cell? ⟨w3.heap.size,1,Vc⟩=_;simp only[VK,eb];rfl
 ·show Z.cell? ⟨w3.heap.size,5,Vc⟩=_;simp only[VK,eb];rfl
theorem Q9(w:Vg)(name:U3)(u:U8)(q:Rd.bL):let X:=((w.alloc (.cells #[.string name,.int .i64 u,.int .i64 q.pc,.int .i64 q.ev,.bool (aI q.acc 0),.bool (aI q.acc 1),.bool (aI q.acc 2),.bool (aI q.acc 3),.bool (aI q.acc 4),.bool (aI q.acc 5),.bool (aI q.acc 6),.int .i64 q.fr,.int .i64 q.mn,.int .i64 q.mi,.int .i64 q.ti,.int .i64 q.un] 165)).alloc aX);Vi w.heap.size w X/\X.heap[w.heap.size+1]?=Vd aX/\X.heap.size=w.heap.size+2/\X.heap[w.heap.size]?=Vd (.cells #[.string name,.int .i64 u,.int .i64 q.pc,.int .i64 q.ev,.bool (aI q.acc 0),.bool (aI q.acc 1),.bool (aI q.acc 2),.bool (aI q.acc 3),.bool (aI q.acc 4),.bool (aI q.acc 5),.bool (aI q.acc 6),.int .i64 q.fr,.int .i64 q.mn,.int .i64 q.mi,.int .i64 q.ti,.int .i64 q.un] 165 (0,0)):=by
 obtain⟨c,a⟩:=yI (w:=w) (.cells #[.string name,.int .i64 u,.int .i64 q.pc,.int .i64 q.ev,.bool (aI q.acc 0),.bool (aI q.acc 1),.bool (aI q.acc 2),.bool (aI q.acc 3),.bool (aI q.acc 4),.bool (aI q.acc 5),.bool (aI q.acc 6),.int .i64 q.fr,.int .i64 q.mn,.int .i64 q.mi,.int .i64 q.ti,.int .i64 q.un] 165);exact⟨c,a,by simp,(Below.heap_alloc _ _ _ UU).trans (cC w _)⟩
theorem Po(a:Array Vh)(w:Vg):(callFunc 148 a).run prog w=.ok (.enter 148 a) w:=UY
theorem Pn(a:Array Vh)(w:Vg):(callFunc 144 a).run prog w=.ok (.enter 144 a) w:=UY
theorem Sv{r:Raw}(h:dS w d s r aM)(ht:gy w)(aj:10<=w.heap.size)(name:U3)(hn:name.size<=1000)(u:U8)(q:Rd.bL)(hl:aA.jz (.series name u q)):
  Vj prog 95 #[.pointer (Vd ⟨d,0,Vc⟩),.agg #[.string name,.int .i64 u,.int .i64 q.pc,.int .i64 q.ev,.bool (aI q.acc 0),.bool (aI q.acc 1),.bool (aI q.acc 2),.bool (aI q.acc 3),.bool (aI q.acc 4),.bool (aI q.acc 5),.bool (aI q.acc 6),.int .i64 q.fr,.int .i64 q.mn,.int .i64 q.mi,.int .i64 q.ti,.int .i64 q.un]] w fun e w'=>∃ v,e=.returned v/\dX w d aM (aA.aU s (.series name u q)) v w':=by
 obtain⟨hX,ad,N,c⟩:=Q9 w name u q;obtain⟨ai,ag,K⟩:=hl;have HV:=aC (IG (h.dk.later hX) h.of h.aS name hn u);have DY:=aC (Gh q K ((w.alloc (.cells #[.string name,.int .i64 u,.int .i64 q.pc,.int .i64 q.ev,.bool (aI q.acc 0),.bool (aI q.acc 1),.bool (aI q.acc 2),.bool (aI q.acc 3),.bool (aI q.acc 4),.bool (aI q.acc 5),.bool (aI q.acc 6),.int .i64 q.fr,.int .i64 q.mn,.int .i64 q.mi,.int .i64 q.ti,.int .i64 q.un] 165)).alloc aX) (pT ht hX aj) (by rw[N];omega));have HH:=aC h;have T:=aC (zA hX (zA ad N));have HA:=aC (Ux (s:=s) (name:=name) (u:=u) (q:=q));have HE:=aC (Uy (s:=s) (name:=name) (u:=u) K);have HO:=aC (S9 (s:=s) (name:=name) (u:=u) K);have y:=aC K;have x0:=aZ c 0 rfl;have x1:=aZ c 1 rfl;have x2:=aZ c 2 rfl;have x3:=aZ c 3 rfl;have x4:=aZ c 4 rfl;have x5:=aZ c 5 rfl;have x6:=aZ c 6 rfl;have x7:=aZ c 7 rfl;have x8:=aZ c 8 rfl;have x9:=aZ c 9 rfl;have F:=aZ c 10 rfl;have E:=aZ c 11 rfl;have D:=aZ c 12 rfl;have C:=aZ c 13 rfl;have A:=aZ c 14 rfl;have z:=aZ c 15 rfl;unfold ig at DY;clear h hX ad N c K ht
 go_in
 go_upto_region 1 with fail
 change Y9 _ _ _ _ ((w.alloc (.cells #[.string name,.int .i64 u,.int .i64 q.pc,.int .i64 q.ev,.bool (aI q.acc 0),.bool (aI q.acc 1),.bool (aI q.acc 2),.bool (aI q.acc 3),.bool (aI q.acc 4),.bool (aI q.acc 5),.bool (aI q.acc 6),.int .i64 q.fr,.int .i64 q.mn,.int .i64 q.mi,.int .i64 q.ti,.int .i64 q.un] 165)).alloc aX);generalize ((w.alloc (.cells #[.string name,.int .i64 u,.int .i64 q.pc,.int .i64 q.ev,.bool (aI q.acc 0),.bool (aI q.acc 1),.bool (aI q.acc 2),.bool (aI q.acc 3),.bool (aI q.acc 4),.bool (aI q.acc 5),.bool (aI q.acc 6),.int .i64 q.fr,.int .i64 q.mn,.int .i64 q.mi,.int .i64 q.ti,.int .i64 q.un] 165)).alloc aX)=X at *;have BX:Hid (Vi w.heap.size w X):=T.out.1;have QX:Hid (Q7 X (w.heap.size+1)):=Q7.of T.out.2.1
 go_wp2_with fail
 refine HV.out.mono ?_;rintro e w1 ⟨hp,rfl⟩;rcases hp with ⟨M,rfl⟩|⟨M,i,hi,e1,e2,rfl⟩
 ·have HD:=aC (HA.out M);generalize aA.dH s.ts name u=H at *;have ac:(H != 0)=Vf:=by simpa using M
  clear M HV T DY HE HO HA x0 x1 x2 x3 x4 x5 x6 x7 x8 x9 F E D C A z
  go_wp2_with fail
  refine (lH H w1).mono ?_;rintro e w9 ⟨rfl,O⟩;have R:=aC (HH.out.refuse BX.out QX.out O HD.out);obtain⟨q0,q1,q2,q3,Y,V,U,fq⟩:=R.out.1;simp only[bC]
  go_wp2_with fail
  exact cO results95 ⟨q0,q1,q2,q3,Y,V,U,fq⟩ ⟨_,rfl,R.out.2⟩
 ·go_wp2_with fail
  refine DY.out.mono ?_;rintro e o ⟨da,rfl,own,a⟩;have j:Hid (Vi w.heap.size w o):=BX.out.trans (a.mono BX.out.size);have J:Hid (Q7 o (w.heap.size+1)):=QX.out.later (a.block _ (Vq _ _ QX.out.q0));obtain⟨a1,af,rfl⟩:=pE own
  by_cases G:Rd.fe q=0
  ·have HD:=aC (HO.out M G);have ac:(Rd.fe q != 0)=Ve:=by simpa using G
   obtain⟨P,ae⟩:=Rd.pL y.out;have I:=ae (by rw[<- P];exact G);have t:eI q=Rd.bH q:=by unfold eI;rw[Va G,I.1]
   have OK:Hid (gv s.now ⟨0,1,name,u,(eI q).map (jK q),0⟩):=by
    obtain⟨p1,p2,p3,p4⟩:=aA.Rd.jT y.out (by rw[<- P];exact G);have e4:(eI q).map (jK q)=Rd.gd q (Rd.bH q):=by rw[t];rfl
    show gv _ _;rw[e4];exact⟨ai,ag,p4,p3,p1,p2,.inl ⟨rfl,rfl⟩⟩
   have ab:0<(eI q).length:=Zz.2 (by rw[t];exact I.2.1);have au:(eI q).length<=40:=by rw[t];exact I.2.2.1
   have SP:=aC (QH q y.out (eI q) (fun d hd=>by rw[t] at hd;have:=Rd.sH y.out hd;have:=y.out.f0;omega) UT (.slice a1 (eI q).length af) w1.heap.size o.drew (Gb own));have aa:w.heap.size+2<=o.drew.heap.size:=by have:=a.size;have:=T.out.2.2;show w.heap.size+2<=o.heap.size;omega
   have AS:=aC (fun (w3:Vg) (g cap:U7) (f:Vi o.drew.heap.size o.drew w3) (row:w3.ownsRow o.drew.heap.size 60 2 (.slice (Vd ⟨g,0,Vc⟩) (eI q).length cap) (eI q).length (((eI q).map (jK q)).flatMap fA)) =>
    I7 (HH.out.vu (j.out.drew.trans (f.mono j.out.size)) (B:=w.heap.size+2) hi e1 row UU aa UT OK.out))
   have AP:=aC (fun (w3 w4:Vg) (g cap:U7) (v:Vh) (f:Vi o.drew.heap.size o.drew w3) (S:lF (w3.alloc (.cells #[.int .i64 0,.int .i64 1,.pointer (Vd ⟨r.tg[i].tb,0,Vc⟩),.int .i64 u,.slice (Vd ⟨g,0,Vc⟩) (eI q).length cap,.int .i64 0] 200)) (w.heap.size+2) d aM (ik s ⟨0,1,name,u,(eI q).map (jK q),0⟩) v w4) =>
    S.IU (w:=w) (Q:=w.heap.size+1) (Step.below ((j.out.drew.trans (f.mono j.out.size)).trans (((zr w3.heap.size w3).alloc (zq _) _).mono (j.out.drew.trans (f.mono j.out.size)).size))) UT UT UT (HH.out.dk.none UT) ((J.out.later (w':=o.drew) rfl).later (((Below.heap_alloc w3 _ _ (zL (Vq _ _ J.out.q0) f.size))).trans (f.block _ (Vq _ _ J.out.q0)))))
   have y1:=aN a x1;have y2:=aN a x2;have y3:=aN a x3;have y4:=aN a x4;have y5:=aN a x5;have y6:=aN a x6;have y7:=aN a x7;have y8:=aN a x8;have y9:=aN a x9;have ar:=aN a F;have aq:=aN a E;have ao:=aN a D;have an:=aN a C;have al:=aN a A;have ak:=aN a z;unfold ig at SP;clear HV DY HE HO HA T own a I t P ae OK M x0 x1 x2 x3 x4 x5 x6 x7 x8 x9 F E D C A z BX QX;generalize Rd.fe q=H at *;subst G
   go_upto_region 7 with fail
   go_region_law (first
    |(refine qY (by rfl) 148 _ _ (by rfl) _ (by simp[Act.eval]) (Po _ _) SP.out ?_;rintro e w3 ⟨v',rfl,row,f⟩;refine⟨_,rfl,?_⟩;obtain⟨g,cap,rfl⟩:=Yp row ab;have z1:=aN f y1;have EN:=aC (AS.out w3 g cap f row);have AQ:=aC (fun w4 v S=>AP.out w3 w4 g cap v f S);clear SP AS AP row)
    |(refine qY (by rfl) 144 _ _ (by rfl) _ (by simp[Act.eval]) (Pn _ _) EN.out ?_;rintro e w4 ⟨v,rfl,S⟩;refine⟨_,rfl,?_⟩;obtain⟨H,nn,rfl,q7,K⟩:=AQ.out w4 v S;have R:Hid (dX w d aM (aA.aU s (.series name u q)) (bC H 0 nn (.slice Vc 0 0) (.slice Vc 0 0) (.slice Vc 0 0) (.slice Vc 0 0)) (cK w4 (w.heap.size+1) (.int .i64 H) (.int .i64 0) (.int .i64 nn) (.slice Vc 0 0) (.slice Vc 0 0) (.slice Vc 0 0) (.slice Vc 0 0))):=(by rw[HD.out];exact K _ _ _ _ _ _ _);obtain⟨q0,q1,q2,q3,Y,V,U,fq⟩:=q7;clear S K EN AQ;simp only[bC]))
   all_goals
    go_wp2_with fail
    exact cO results95 ⟨q0,q1,q2,q3,Y,V,U,fq⟩ ⟨_,rfl,R.out⟩
  ·have HD:=aC (HE.out M G);generalize Rd.fe q=H at *;have ac:(H != 0)=Vf:=by simpa using G
   clear M HV T DY HE HO HA x0 x1 x2 x3 x4 x5 x6 x7 x8 x9 F E D C A z own a G
   go_wp2_with fail
   refine (lH H o).mono ?_;rintro e w9 ⟨rfl,O⟩;have R:=aC (HH.out.refuse j.out J.out O HD.out);obtain⟨q0,q1,q2,q3,Y,V,U,fq⟩:=R.out.1;simp only[bC]
   go_wp2_with fail
   exact cO results95 ⟨q0,q1,q2,q3,Y,V,U,fq⟩ ⟨_,rfl,R.out.2⟩
theorem TY(h:dS w d s rw_ aM)(ht:gy w)(o:10<=w.heap.size)(name:U3)(J:name.size<=1000)(u:U8)(r:Rd.bL)(K:aA.jz (.series name u r)):
  Vj prog 64 #[.pointer (Vd ⟨d,0,Vc⟩),.iface 165 (.agg #[.string name,.int .i64 u,.int .i64 r.pc,.int .i64 r.ev,.bool (aI r.acc 0),.bool (aI r.acc 1),.bool (aI r.acc 2),.bool (aI r.acc 3),.bool (aI r.acc 4),.bool (aI r.acc 5),.bool (aI r.acc 6),.int .i64 r.fr,.int .i64 r.mn,.int .i64 r.mi,.int .i64 r.ti,.int .i64 r.un])] w fun e w'=>∃ v,e=.returned v/\dX w d aM (aA.aU s (.series name u r)) v w':=by
 have q:=aC (h.pZ (.cells #[.string name,.int .i64 u,.int .i64 r.pc,.int .i64 r.ev,.bool (aI r.acc 0),.bool (aI r.acc 1),.bool (aI r.acc 2),.bool (aI r.acc 3),.bool (aI r.acc 4),.bool (aI r.acc 5),.bool (aI r.acc 6),.int .i64 r.fr,.int .i64 r.mn,.int .i64 r.mi,.int .i64 r.ti,.int .i64 r.un] 165));have t:=aC (Sv q.out.1 (pT ht q.out.2.1 o) (Vp o q.out.2.1.size) name J u r K);clear h;unfold aX at t q;have c:=qt 165 UV;have j:=rZ 165 UV;have g:=sb 165 UV;have f:=rW 165 UV;have a:=pg underlying165
 go_in
 go_wp2_with fail
 refine t.out.mono ?_;rintro e O ⟨v,rfl,z⟩;obtain⟨V,at_,P,a1,a2,a3,a4,U,T,S,R,c1,c2,Y,X,rfl,A,y⟩:=z.pV q.out.2;have N:=aC y;clear z y t c j g f a;obtain⟨I,H,G,F,E,D,C,M⟩:=A;simp only[bC]
 go_wp2_with fail
 exact cO results64 ⟨I,H,G,F,E,D,C,M⟩ ⟨_,rfl,N.out⟩
theorem dS.ia{r:Raw}(h:dS w d s r aM)(k:Vi w.heap.size w Z)(y:w.heap.size<=Q){t:Vh}(z:gH Z (Q+1) aM t l)(a b c e f g i:Vh):
  dX w d aM (s,⟨0,0,0,l.map (·.1),[],[],[]⟩) (bC 0 0 0 t (.slice Vc 0 0) (.slice Vc 0 0) (.slice Vc 0 0)) (cK Z Q a b c e f g i):=by
 have q:=lE Z Q a b c e f g i;have A:=h.dk.later k;have nq:∀ b,Q<=b->aM b=Vc:=fun b o=>h.dk.none UT
 have st:Step anyS w.heap.size aM aM Z (cK Z Q a b c e f g i):=⟨⟨_,q,fun x j=>.inr (by have:x=Q:=YC.1 j;subst this;exact⟨nq _ (zq _),y⟩)⟩,fun _ _ h=>h,fun _ _ h=>.inl h⟩
 have rp:ku Z (Q+1) aM (bC 0 0 0 t (.slice Vc 0 0) (.slice Vc 0 0) (.slice Vc 0 0)) ⟨0,0,0,l.map (·.1),[],[],[]⟩ :=
  ⟨_,_,_,_,l,rfl,rfl,z,eD.nil _ _ _,eD.nil _ _ _,eD.nil _ _ _,(fun b o=>by cases o),fun b o=>by cases o⟩
 exact⟨r,aM,A.off q (fun x j=>by have:x=Q:=YC.1 j;subst this;exact nq _ (zq _)),h.of,h.wl,h.hl,(Step.below k).trans st,(rp.off q (fun x j=>by have:x=Q:=YC.1 j;omega)).base UT⟩
theorem TJ(h:dS w d s rw_ aM):
  Vj prog 64 #[.pointer (Vd ⟨d,0,Vc⟩),.iface 183 (.agg #[])] w fun e w'=>∃ v,e=.returned v/\dX w d aM (aA.aU s .clock) v w':=by
 have I:Vi w.heap.size w ((w.alloc (.cells #[.int .i64 0,.int .i64 0,.int .i64 0,.slice Vc 0 0,.slice Vc 0 0,.slice Vc 0 0,.slice Vc 0 0] 40)).alloc (.cells #[] 183)):=((zr _ _).alloc (zq _) _).alloc UU _;have J:((w.alloc (.cells #[.int .i64 0,.int .i64 0,.int .i64 0,.slice Vc 0 0,.slice Vc 0 0,.slice Vc 0 0,.slice Vc 0 0] 40)).alloc (.cells #[] 183)).heap[w.heap.size]?=Vd aX:=(Below.heap_alloc _ _ _ UU).trans (cC w aX);have K:=(h.dk.later I).c0;rw[h.of.now] at K;have Y:=aC I;have HH:=aC h;have M:=Q7.of J;have HD:Hid (aA.aU s .clock=(s,⟨0,0,s.now,[],[],[],[]⟩)):=rfl;clear I J h;have z:=qt 183 UV;have H:=rZ 183 UV;have F:=sb 183 UV;have A:=rW 183 UV;have r:=tw 183 UV;have o:=tj 183 UV;have y:=uZ 183 UV;have E:=wS 183 UV;have j:=xe 183 UV;have D:=Aa 183 UV;have G:=Eh 183 UV;have t:=Nq 183 UV;have C:=MA 183 UV;have q:=pg underlying183
 go_in
 go_upto_region 43 with fail
 change Y9 _ _ _ _ ((w.alloc (.cells #[.int .i64 0,.int .i64 0,.int .i64 0,.slice Vc 0 0,.slice Vc 0 0,.slice Vc 0 0,.slice Vc 0 0] 40)).alloc (.cells #[] 183));generalize ((w.alloc (.cells #[.int .i64 0,.int .i64 0,.int .i64 0,.slice Vc 0 0,.slice Vc 0 0,.slice Vc 0 0,.slice Vc 0 0] 40)).alloc (.cells #[] 183))=X at *
 have HF:Hid (∀ a b c e f g i,dX w d aM (aA.aU s .clock) (bC 0 0 s.now (.slice Vc 0 0) (.slice Vc 0 0) (.slice Vc 0 0) (.slice Vc 0 0)) (cK X w.heap.size a b c e f g i)):=fun a b c e f g i=>by
  rw[HD.out];exact HH.out.said Y.out (zq _) 0 s.now a b c e f g i
 clear z H F A r o y E j D G t C q;obtain⟨U,T,S,R,P,O,N,V⟩:=M
 go_wp2_with fail
 exact cO results64 ⟨U,T,S,R,P,O,N,V⟩ ⟨_,rfl,HF.out _ _ _ _ _ _ _⟩
attribute [local go_sem] Zi
theorem T7{F:Fence}(a:F.depth=Vc)(k:U7):F.room k:=fun d h=>by rw[a] at h;cases h
theorem RoundIn.hU{F:Fence}(q:F.depth=Vc){o:U7}{P:Program}{l:U7}{f:FuncId}{g:Array Vh}{a j:Code}{R:Ending->Vg->Prop}
  (h:RoundIn F m P l f g a j w R):RoundIn F o P l f g a j w R:=⟨h.1,fun c cs _=>h.2 c cs (T7 q _)⟩
theorem YieldAt.hU{F:Fence}(q:F.depth=Vc)(j:U7){P:Program}{l:U7}{c:Array Vh}{R:Ending->Vg->Prop}(h:YieldAt F m P l c W R):YieldAt F j P l c W R:=by
 obtain⟨t,f,a,g,o,r⟩:=h;exact⟨t,f,a,g,o,RoundIn.hU q r⟩
theorem gg.fk{x:aE.It}(h:gg w b x)(k:Vi n₀ w w')(a:b<n₀):gg w' b x :=
 ⟨(k.cell (p:=⟨b,0,Vc⟩) a).trans h.c0,(k.cell (p:=⟨b,1,Vc⟩) a).trans h.c1,(k.cell (p:=⟨b,2,Vc⟩) a).trans h.c2,(k.cell (p:=⟨b,3,Vc⟩) a).trans h.c3,h.c4.imp (fun _=>(k.cell (p:=⟨b,4,Vc⟩) a).trans),h.c5.imp (fun _=>(k.cell (p:=⟨b,5,Vc⟩) a).trans),h.c6.imp (fun _=>(k.cell (p:=⟨b,6,Vc⟩) a).trans),h.c7.imp (fun _=>(k.cell (p:=⟨b,7,Vc⟩) a).trans),fun o=>(k.frozen (p:=⟨b,o,Vc⟩) a).trans (h.fz o)⟩
theorem cR.fk{n₀:U7}{w w':Vg}(k:Vi n₀ w w'):∀ {t:aE.S}{p:Vh}{F:U4 U7},cR w t p F->(∀ i∈F,i<n₀)->cR w' t p F
 |.nil,p,F,c,_=>c
 |.node a l r,p,F,c,hd=>by
  obtain⟨b,j,h,E,D,rfl,n,C,A,z,y,q,c,rfl,o⟩:=c;have f:b<n₀:=hd b UU;exact⟨b,j,h,E,D,rfl,n.fk k f,(k.cell (p:=⟨b,4,Vc⟩) f).trans C,(k.cell (p:=⟨b,5,Vc⟩) f).trans A,(k.cell (p:=⟨b,6,Vc⟩) f).trans z,(k.cell (p:=⟨b,7,Vc⟩) f).trans y,cR.fk k q (fun i g=>hd i (by simp[g])),cR.fk k c (fun i g=>hd i (by simp[g])),rfl,o⟩
theorem RY(F:Fence)(hd:F.depth=Vc)(h6:F.fn 255)(P:F.round=Vc)(l n₀ N:U7)(a b:U8){Q:aE.It->Prop}(J Jx:U4 {x:aE.It // Q x}->Vg->Prop)
  (hY:∀ m pre x W,J pre W->pre.length<N->YieldAt F m prog l #[.pointer (Vd ⟨x.1.v,0,Vc⟩)] W fun e W' =>
   (e=.returned (.bool Vf)/\J (pre++[x]) W'/\Vi n₀ W W')\/(e=.returned (.bool Ve)/\Jx (pre++[x]) W')) (t:aE.S):
  ∀ (n:U7) (p:U5 Addr) (G:U4 U7) (pre ys:U4 {x:aE.It // Q x}) (W:Vg),cR W t (.pointer p) G->(∀ i∈G,i<n₀)->ys.map (·.1)=aE.meet a b t->J pre W->pre.length+ys.length<=N ->
   CallsIn F n prog 255 #[.pointer p,.int .i64 a,.int .i64 b,.func (.yield l) #[] #[]] W fun e W' =>
    (e=.returned (.bool Vf)/\J (pre++ys) W'/\Vi n₀ W W')\/(e=.returned (.bool Ve)/\∃ q,q <+: ys/\Jx (pre++q) W'):=by
 induction t with
 |nil =>
  intro n p G pre ys W ht _ H hJ _;obtain⟨hp,_⟩:=ht
  cases hp
  obtain rfl:ys=[]:=ZC.1 (H.trans rfl);refine callsIn_of_wp func255 rfl h6 ?_ P;simp only[ntmps255,Zj,V5,V9,Zk,Zl,Zm,Zn,Zo,Zp,Zq,VM]
  gi_wp2
  go_ret;exact .inl ⟨rfl,by simpa using hJ,Below.refl _ _⟩
 |node x tl tr ihl ihr =>
  intro n p G pre ys W ht hG H hJ hN;obtain⟨j,pl,U,Fl,Fr,rfl,rfl,K,c4,_⟩:=ht.half;have D:∀ k:U7,(F.depth.isSome=Vf->1<=k):=fun k h=>by rw[hd] at h;cases h
  have hb:j<n₀:=hG j UU;have ag:∀ i∈Fl,i<n₀:=fun i hi=>hG i (by simp[hi])
  have R:∀ i∈Fr,i<n₀:=fun i hi=>hG i (by simp[hi])
  generalize ai:aE.late (.node x tl tr)=la at c4
  by_cases q1:la<=a
  ·obtain rfl:ys=[]:=by
    have:aE.meet a b (.node x tl tr)=[]:=by rw[aE.meet,ai,Va q1]
    exact ZC.1 (H.trans this)
   refine callsIn_of_wp func255 rfl h6 ?_ P;simp only[ntmps255,Zj,V5,V9,Zk,Zl,Zm,Zn,Zo,Zp,Zq,VM]
   gi_wp2
   go_ret;exact .inl ⟨rfl,by simpa using hJ,Below.refl _ _⟩
  ·have em:aE.meet a b (.node x tl tr)=aE.meet a b tl++if b<=x.f then [] else (if a<x.t then [x] else [])++aE.meet a b tr:=by rw[aE.meet,ai,U9 q1]
   rw[em] at H;obtain⟨C,y2,rfl,ad,A⟩:=ZD.1 H;clear em H;simp only[V4] at hN;have c0:=K.n.c0;have c1:=K.n.c1;have c3:=K.n.c3;have c6:=K.c6;have c7:=K.c7
   by_cases q2:b<=x.f
   ·rw[Va q2] at A;obtain rfl:y2=[]:=ZC.1 A
    have y:=(ihl (n-1) pl Fl pre C W K.l ag ad hJ (by simpa using hN)).mono (R':=fun e g =>
      (e=.returned (.bool Vf)/\J (pre++C) g/\Vi n₀ W g/\g.cell? ⟨j,0,Vc⟩=Vd (.int .i64 x.f))\/(e=.returned (.bool Ve)/\∃ q,q <+: C/\Jx (pre++q) g))
     (fun e g h=>h.elim (fun ⟨he,hj,c⟩=>.inl ⟨he,hj,c,(c.cell (p:=⟨j,0,Vc⟩) hb).trans c0⟩) .inr)
    clear ihl ihr K ht;refine callsIn_of_wp func255 rfl h6 ?_ P;simp only[ntmps255,Zj,V5,V9,Zk,Zl,Zm,Zn,Zo,Zp,Zq,VM]
    gi_wp2_with (first
     |((try refine⟨D _,?_⟩);gi_at_call 255;refine y.mono ?_;clear y;rintro e g (⟨rfl,af,c,aj⟩|⟨rfl,q,T,O⟩)))
    ·go_ret;exact .inl ⟨rfl,by simpa using af,c⟩
    ·go_ret;exact .inr ⟨rfl,q,by simpa using T,O⟩
   ·rw[U9 q2] at A;have aw:x.f<b:=UT
    obtain⟨y3,y4,rfl,I,ac⟩:=ZD.1 A;clear A;simp only[V4] at hN
    by_cases q3:a<x.t
    ·rw[Va q3] at I
     obtain⟨o,rfl,an⟩:∃ o:{x:aE.It // Q x},y3=[o]/\o.1=x:=by
      rcases y3 with _|⟨o,_|⟨z,r⟩⟩
      ·simp at I
      ·exact⟨o,rfl,by simpa using I⟩
      ·simp at I
     subst an;simp only[V5,V9] at hN
     have A:∀ g,J (pre++C) g->Vi n₀ W g->YieldAt F (n-1) prog l #[.pointer (Vd ⟨o.1.v,0,Vc⟩)] g fun e M =>
       (e=.returned (.bool Vf)/\J (pre++C++[o]) M/\Vi n₀ W M/\M.cell? ⟨j,7,Vc⟩=Vd (.pointer U)/\cR M tr (.pointer U) Fr)\/(e=.returned (.bool Ve)/\Jx (pre++C++[o]) M):=fun g af c =>
      YieldAt.mono (hY (n-1) _ o g af UZ) fun e M h=>h.elim
       (fun ⟨he,hj,E⟩=>.inl ⟨he,hj,c.trans E,((c.trans E).cell (p:=⟨j,7,Vc⟩) hb).trans c7,K.r.fk (c.trans E) R⟩) .inr
     have y:=(ihl (n-1) pl Fl pre C W K.l ag ad hJ UT).mono (R':=fun e g =>
       (e=.returned (.bool Vf)/\g.cell? ⟨j,0,Vc⟩=Vd (.int .i64 o.1.f)/\g.cell? ⟨j,1,Vc⟩=Vd (.int .i64 o.1.t)/\g.cell? ⟨j,3,Vc⟩=Vd (.pointer (Vd ⟨o.1.v,0,Vc⟩))/\YieldAt F (n-1) prog l #[.pointer (Vd ⟨o.1.v,0,Vc⟩)] g fun e M =>
        (e=.returned (.bool Vf)/\J (pre++C++[o]) M/\Vi n₀ W M/\M.cell? ⟨j,7,Vc⟩=Vd (.pointer U)/\cR M tr (.pointer U) Fr)\/(e=.returned (.bool Ve)/\Jx (pre++C++[o]) M)) \/
       (e=.returned (.bool Ve)/\∃ q,q <+: C/\Jx (pre++q) g))
      (fun e g h=>h.elim (fun ⟨he,hj,c⟩=>.inl ⟨he,(c.cell (p:=⟨j,0,Vc⟩) hb).trans c0,(c.cell (p:=⟨j,1,Vc⟩) hb).trans c1,(c.cell (p:=⟨j,3,Vc⟩) hb).trans c3,A g hj c⟩) .inr)
     clear A ihl K ht;refine callsIn_of_wp func255 rfl h6 ?_ P;simp only[ntmps255,Zj,V5,V9,Zk,Zl,Zm,Zn,Zo,Zp,Zq,VM]
     gi_wp2_with (first
      |((try refine⟨D _,?_⟩);gi_at_call 255;refine y.mono ?_;clear y;rintro e g (⟨rfl,aj,aq,ax,fn,ar,ak,au,hy,hR⟩|⟨rfl,q,T,O⟩))
      |((try refine⟨D _,?_⟩);refine hR.mono ?_;clear hR;rintro e M (⟨rfl,ab,E,ao,X⟩|⟨rfl,al⟩))
      |((try refine⟨D _,?_⟩);gi_at_call 255;refine (ihr (n-1) U Fr _ y4 _ X R ac ab UZ).mono ?_;rintro e W3 (⟨rfl,aa,Y⟩|⟨rfl,q,T,V⟩)))
     ·go_ret;exact .inl ⟨rfl,by simpa[VY] using aa,E.trans Y⟩
     ·go_ret;obtain⟨r,ae⟩:=T;exact .inr ⟨rfl,C++o :: q,⟨r,by simp[<- ae]⟩,by simpa[VY] using V⟩
     ·go_ret;exact .inr ⟨rfl,C++[o],⟨y4,by simp⟩,by simpa[VY] using al⟩
     ·go_ret;exact .inr ⟨rfl,q,T.trans ⟨_,rfl⟩,O⟩
    ·rw[U9 q3] at I;obtain rfl:y3=[]:=ZC.1 I;have av:x.t<=a:=UT
     simp only[V9] at hN
     have y:=(ihl (n-1) pl Fl pre C W K.l ag ad hJ UT).mono (R':=fun e g =>
       (e=.returned (.bool Vf)/\g.cell? ⟨j,0,Vc⟩=Vd (.int .i64 x.f)/\g.cell? ⟨j,1,Vc⟩=Vd (.int .i64 x.t)/\g.cell? ⟨j,7,Vc⟩=Vd (.pointer U)/\cR g tr (.pointer U) Fr/\J (pre++C) g/\Vi n₀ W g) \/
       (e=.returned (.bool Ve)/\∃ q,q <+: C/\Jx (pre++q) g))
      (fun e g h=>h.elim (fun ⟨he,hj,c⟩=>.inl ⟨he,(c.cell (p:=⟨j,0,Vc⟩) hb).trans c0,(c.cell (p:=⟨j,1,Vc⟩) hb).trans c1,(c.cell (p:=⟨j,7,Vc⟩) hb).trans c7,K.r.fk c R,hj,c⟩) .inr)
     clear ihl K ht;refine callsIn_of_wp func255 rfl h6 ?_ P;simp only[ntmps255,Zj,V5,V9,Zk,Zl,Zm,Zn,Zo,Zp,Zq,VM]
     gi_wp2_with (first
      |((try refine⟨D _,?_⟩);gi_at_call 255;refine y.mono ?_;clear y;rintro e g (⟨rfl,aj,aq,ao,X,ab,E⟩|⟨rfl,q,T,O⟩))
      |((try refine⟨D _,?_⟩);gi_at_call 255;refine (ihr (n-1) U Fr _ y4 _ X R ac ab UZ).mono ?_;rintro e W3 (⟨rfl,aa,Y⟩|⟨rfl,q,T,V⟩)))
     ·refine⟨fun _ h=>(by cases h),?_⟩
      gi_wp2_with (first
       |((try refine⟨D _,?_⟩);gi_at_call 255;refine (ihr (n-1) U Fr _ y4 _ X R ac ab UZ).mono ?_;rintro e W3 (⟨rfl,aa,Y⟩|⟨rfl,q,T,V⟩)))
      ·go_ret;exact .inl ⟨rfl,by simpa[VY] using aa,E.trans Y⟩
      ·go_ret;obtain⟨r,ae⟩:=T;exact .inr ⟨rfl,C++q,⟨r,by simp[<- ae]⟩,by simpa[VY] using V⟩
     ·go_ret;exact .inr ⟨rfl,q,T.trans ⟨_,rfl⟩,O⟩
theorem TF(W:Vg):W.grownBy W.drew Vc:=⟨rfl,rfl,rfl,Nat.le_refl _,fun _ _ _=>rfl⟩
theorem Ts(l O N M n₀:U7)(C o:U7)(y:U5 Addr)(a b:U8)(t:aE.S)(G:U4 U7){Q:aE.It->Prop}(xs:U4 {x:aE.It // Q x})(f:xs.map (·.1)=aE.meet a b t)(J r:U4 {x:aE.It // Q x}->Vg->Prop)
  (E:∀ m pre x W,J pre W->pre.length<xs.length->YieldAt Zs m prog l #[.pointer (Vd ⟨x.1.v,0,Vc⟩)] W fun e c =>
   (e=.returned (.bool Vf)/\J (pre++[x]) c/\Vi n₀ W c)\/(e=.returned (.bool Ve)/\r (pre++[x]) c))
  (j:∀ pre W,J pre W->J pre W.drew)
  (W:Vg) (X:W.cell? ⟨O,0,Vc⟩=Vd (.pointer (Vd ⟨C,o,Vc⟩))) (V:W.cell? ⟨N,0,Vc⟩=Vd (.int .i64 a)) (U:W.cell? ⟨M,0,Vc⟩=Vd (.int .i64 b)) (Y:W.cell? ⟨C,o,Vc⟩=Vd (.pointer y)) (F:cR W t (.pointer y) G) (H:∀ i∈G,i<n₀) (I:J [] W):
  Vj prog 254 #[.func (.yield l) #[] #[],.pointer (Vd ⟨O,0,Vc⟩),.pointer (Vd ⟨N,0,Vc⟩),.pointer (Vd ⟨M,0,Vc⟩)] W fun e c=>(∃ v,e=.returned v) /\
   ((∃ ys,ys=xs/\J ys c)\/(∃ pre,pre <+: xs/\r pre c)):=by
 have D:=callsIn_wide.1 (RY Zs rfl trivial rfl l n₀ xs.length a b J r E t 0 y G [] xs W.drew (F.same (aF.refl _ _).drew) H f (j _ _ I) UU)
 have z:=aC (D.mono (R':=fun e c=>(∃ K,e=.returned (.bool K))/\((∃ ys,ys=xs/\J ys c)\/(∃ pre,pre <+: xs/\r pre c)))
  (fun e c h=>h.elim (fun ⟨A,T,_⟩=>⟨⟨_,A⟩,.inl ⟨_,rfl,by simpa using T⟩⟩) (fun ⟨A,q,R,P⟩=>⟨⟨_,A⟩,.inr ⟨q,R,by simpa using P⟩⟩)))
 clear D E j I f F H
 go_in
 go_upto_region 0 with fail
 go_region_with (first
  |(go_at_call 255;refine z.out.mono ?_;rintro e W1 ⟨⟨K,rfl⟩,g⟩))
 all_goals
  go_wp2
  go_end0
  exact⟨⟨_,rfl⟩,g⟩
open aA (aL St dB kept dZ cS cN gC cA bW gI ec gv nj Inv uniq ub xW)
def QI(r:Raw)(x:aE.It):Prop:=∃ g∈r.eg,x.v=g.eb/\x.n=g.e.id
theorem RU{r:Raw}(f:Of s r)(j:(r.eg.map (·.e.id)).Nodup)(o:i<r.tg.length){a b:U8}{z:aE.It}(c:z∈aE.meet a b r.tg[i].T):QI r z:=by
 obtain⟨_,y,t⟩:=f.th i o;rw[aE.xO a b _ y] at c;obtain⟨e,q,_,sp,_,rfl⟩:=(t z).1 (List.mem_filter.1 c).1;obtain⟨g,h,rfl⟩:=f.get q;exact⟨g,h,Bq j h,rfl⟩
def xt(r:Raw):(l:U4 aE.It)->(∀ z∈l,QI r z)->U4 {x:aE.It // QI r x}
 |[],_=>[]
 |z :: l,h=>⟨z,h z UU⟩ :: xt r l (fun y a=>h y (by simp[a]))
theorem Ia(r:Raw):∀ (l:U4 aE.It)(h:∀ z∈l,QI r z),(xt r l h).map (·.1)=l
 |[],_=>rfl
 |z :: l,h=>by simp[xt,Ia r l]
structure jJ(s:St)(M:U4 aE.It)(l:U4 (aL × Vh)):Prop where
 len:l.length=(uniq M).length
 at_:∀ (i:U7) (h:i<l.length),l[i].1∈s.es/\l[i].1.id=((uniq M)[i]'UT).n
 nd:(l.map (·.1.id)).Nodup
theorem jJ.nil(s:St):jJ s [] []:=⟨rfl,fun i h=>by simp at h,by simp⟩
theorem jJ.any{M:U4 aE.It}(h:jJ s M l)(n:U8):l.any (fun p=>p.1.id==n)=(uniq M).any (fun u=>decide (u.n=n)):=by
 rw[Bool.eq_iff_iff,XH,XH];constructor
 ·rintro ⟨p,g,e⟩;obtain⟨i,a,rfl⟩:=XY g;have:=h.at_ i a;exact⟨_,ZB (by have:=h.len;omega:i<(uniq M).length),by simpa[<- this.2] using e⟩
 ·rintro ⟨u,f,e⟩;obtain⟨i,a,rfl⟩:=XY f;have c:i<l.length:=by rw[h.len];exact a
  have:=h.at_ i c;exact⟨_,ZB c,by rw[this.2];simpa using e⟩
theorem jJ.JL{M:U4 aE.It}(h:jJ s M l){z:aE.It}(c:l.any (fun p=>p.1.id==z.n)=Vf):jJ s (M++[z]) l:=by
 have e:uniq (M++[z])=uniq M:=by rw[xW];unfold ub;rw[<- h.any z.n,c];rfl
 exact⟨by rw[e];exact h.len,fun i a=>by have:=h.at_ i a;simp only[e];exact this,h.nd⟩
theorem jJ.rC{M:U4 aE.It}(h:jJ s M l){z:aE.It}(j:uniq (M++[z])=uniq M++[z]){e:aL}(q:e∈s.es)(o:e.id=z.n){sp:Vh}(g:i<(l++[(e,sp)]).length):(l++[(e,sp)])[i].1∈s.es/\(l++[(e,sp)])[i].1.id=((uniq (M++[z]))[i]'(by rw[j];have:=h.len;simp at g ⊢;omega)).n:=by
 have c:=h.len;simp only[j];rw[V4] at g
 by_cases a:i<l.length
 ·rw[Zg a,Zg UT];exact h.at_ i a
 ·have f:i=l.length:=by simp at g;omega
  subst f;rw[ZE (zq _),ZE UT];simp[c,q,o]
theorem jJ.new{M:U4 aE.It}(h:jJ s M l){z:aE.It}(g:l.any (fun p=>p.1.id==z.n)=Ve){e:aL}(A:e∈s.es)(f:e.id=z.n)(sp:Vh):jJ s (M++[z]) (l++[(e,sp)]):=by
 have j:uniq (M++[z])=uniq M++[z]:=by rw[xW];unfold ub;rw[<- h.any z.n,g];rfl
 have a:=h.len;refine⟨by rw[j];simp[a],fun i t=>?_,?_⟩
 ·exact jJ.rC h j A f t
 ·rw[Wq,List.nodup_append];refine⟨h.nd,by simp,fun x q y o=>?_⟩;obtain⟨p,r,rfl⟩:=Wk.1 q;have:y=e.id:=by simpa using o
  subst this;intro c;have:=ZA.1 g p r;simp[c,f] at this
theorem GQ:∀ {l m:U4 U8},l.Nodup->(∀ x∈l,x∈m)->l.length<=m.length
 |[],_,_,_=>zN _
 |a :: l,m,hn,h=>by
  rw[List.nodup_cons] at hn;have f:=h a UU;have:=GQ (l:=l) (m:=m.erase a) hn.2 (fun x c=>(List.mem_erase_of_ne (show x≠a from fun e=>hn.1 (by rw[<- e];exact c))).2 (h x (by simp[c])));rw[List.length_erase_of_mem f] at this;have:=List.length_pos_of_mem f;simp;omega
theorem jJ.small{M:U4 aE.It}(h:jJ s M l):l.length<=s.es.length:=by
 have:=GQ (m:=s.es.map (·.id)) h.nd (fun x a=>by
  obtain⟨p,c,rfl⟩:=Wk.1 a;obtain⟨i,f,rfl⟩:=XY c
  exact Wk.2 ⟨_,(h.at_ i f).1,rfl⟩)
 simpa using this
theorem Bf{size:U7}(h:w.ownsRow B e size v n xs)(c:v.ownBlock=Vd b):∃ cs k,w.heap[b]?=Vd (.cells cs e k):=by
 rcases h.2 with ⟨rfl,_⟩|⟨g,cap,f,rfl,_,a,_⟩
 ·cases c
 ·obtain rfl:g=b:=by simpa[WH] using c
  exact⟨_,_,a⟩
theorem gH.um{j:Vg}(h:gH wx B aM v l){e:aL}{sp:Vh}(y:j.ownsRow wx.heap.size 60 2 sp e.aK.length (e.aK.flatMap fA))(k:Vi wx.heap.size wx j)(E:B<=wx.heap.size)(D:∀ b,B<=b->aM b=Vc)(C:aF v.ownBlock.toList j w3)(f:w3.ownsRow B 58 6 v' (l.length+1) (l.flatMap ef++ef (e,sp))):
  gH w3 B aM v' (l++[(e,sp)]):=by
 have r:∀ b,v.ownBlock=Vd b->b<wx.heap.size:=fun b a=>(h.own.lt b a).2
 have z:∀ p∈l,w3.ownsRow B 60 2 p.2 p.1.aK.length (p.1.aK.flatMap fA):=fun p c=>dO (eu (h.sp p c).1.own k) C (fun b a g=>(h.sp p c).2 b a (WV.1 g))
 have o:w3.ownsRow B 60 2 sp e.aK.length (e.aK.flatMap fA):=dO (YD y E) C (fun b a g=>by have G:=(y.lt b a).1;have F:=r b (WV.1 g);omega)
 have A:∀ {q:Vh}{n:U7}{xs:U4 Vh},w3.ownsRow B 60 2 q n xs->∀ b,q.ownBlock=Vd b->v'.ownBlock≠Vd b:=fun t b a g=>by
  obtain⟨N,K,I⟩:=Bf t a;obtain⟨M,J,H⟩:=Bf f g;have:=I.symm.trans H;simp at this
 refine⟨?_,fun b a=>D b (f.lt b a).1,fun p c=>?_,?_⟩
 ·rw[V4,Ww];have:[(e,sp)].flatMap ef=ef (e,sp):=UU
  rw[this];exact f
 ·rcases VA.1 c with c|c
  ·exact⟨⟨z p c,(h.sp p c).1.no⟩,A (z p c)⟩
  ·have:p=(e,sp):=YC.1 c;subst this;exact⟨⟨o,fun b a=>D b (o.lt b a).1⟩,A o⟩
 ·refine List.pairwise_append.2 ⟨h.pw,List.pairwise_singleton _ _,fun p c q t b a g=>?_⟩;rw[YC.1 t] at g;have G:=(y.lt b g).1;have F:=((h.sp p c).1.own.lt b a).2;omega
theorem Td(p:U5 Addr)(a b:U8)(w:Vg):
  Vj prog 207 #[.pointer p,.int .i64 a,.int .i64 b] w fun e w'=>e=.returned (.func (.func 254) #[] #[.pointer (Vd ⟨w.heap.size,0,Vc⟩),.pointer (Vd ⟨w.heap.size+1,0,Vc⟩),.pointer (Vd ⟨w.heap.size+2,0,Vc⟩)])/\w'=((w.alloc (.cells #[.pointer p] 301)).alloc (.cells #[.int .i64 a] 3)).alloc (.cells #[.int .i64 b] 3):=by
 go_in
 go_wp2
 go_ret;exact⟨rfl,rfl⟩
theorem RV(n:U7)(r:Raw)(A z y n₀ g o:U7)(h:U5 Addr)(a b:U8)(t:aE.S)(G:U4 U7)(xs:U4 {x:aE.It // QI r x})(j:xs.map (·.1)=aE.meet a b t)(w:Vg)(O:w.cell? ⟨A,0,Vc⟩=Vd (.pointer (Vd ⟨g,o,Vc⟩)))(N:w.cell? ⟨z,0,Vc⟩=Vd (.int .i64 a))(M:w.cell? ⟨y,0,Vc⟩=Vd (.int .i64 b))(F:w.cell? ⟨g,o,Vc⟩=Vd (.pointer h))(I:cR w t (.pointer h) G)(C:∀ i∈G,i<n₀)(D:n₀<=w.heap.size):
  SeqStopsK Zs n prog 254 #[.pointer (Vd ⟨A,0,Vc⟩),.pointer (Vd ⟨z,0,Vc⟩),.pointer (Vd ⟨y,0,Vc⟩)] (fun x:{x:aE.It // QI r x}=>#[Value.pointer (Vd ⟨x.1.v,0,Vc⟩)]) (Vi n₀) (fun ys=>ys=xs) (fun pre=>pre <+: xs) xs.length w:=by
 intro l J R W c K _ H P;refine callsIn_wide.2 ?_;exact Ts l A z y n₀ g o h a b t G xs j J R (fun m pre x f q E=>YieldAt.hU rfl m (H pre x f q E)) (fun pre f q=>K pre f _ Vc q (TF f) (fun r e=>by cases e)) W (aN c O) (aN c N) (aN c M) (aN c F) (I.fk (c.mono D) C) C P
end Go.Proofs.YtfigmlfdnickmaaGreatDoor
