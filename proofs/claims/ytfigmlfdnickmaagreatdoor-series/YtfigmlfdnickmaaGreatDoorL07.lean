import Derived.Test.YtfigmlfdnickmaaGreatDoorL06
import Derived.RangeFuncKeeps
import Derived.RangeFuncBound
import Derived.RangeFuncLeaves
import Derived.RangeFuncBox
import Derived.Shelf.Abstract
import Derived.OwnWalkIn
import Derived.TacticsInMore
import Derived.LoopNIn
import Derived.LoopIn
import Derived.Deep.CutRange
import Derived.Deep.RegionWith
import Derived.Deep.RegionHeld3
import Derived.Maps.AppendAt
import Derived.Deep.AppendLies
import Derived.Lib.SmallJoins
import Derived.Lib.SliceRun
import Derived.Shelf.RegionOpen
set_option maxRecDepth 100000
set_option maxHeartbeats 8000000
open Go.Proofs.Tryz
open _root_ renaming ByteArray->U4,List->U5,Option->U6,Nat->U8,Int->U9,if_neg->Va,if_pos->Vb
open Option renaming none->Vd,some->Ve,map_some->Yt,mem_toList->WW
open Bool renaming false->Vf,true->Vg
open Go renaming World->Vh,Value->Vi,Calls->Vk,Value->Zg
open Go.RowKit renaming Below->Vj
open List renaming map_append->Wr,getElem_append_left->Zh,size_toArray->Zk,length_cons->V6,length_nil->Wa,push_toArray->Zp,append_toArray->Zq,nil_append->Zr,cons_append->VN,append_nil->X5,append_assoc->VZ,mem_append->VB,takeWhile_cons->Zw,take_of_length_le->Wi,getLast?_eq_some_getLast->Zy,getLastD_eq_getLast?->Zz,length_take->Yp,length_pos_iff->ZA,getElem?_map->Ys,mem_singleton->YD,getElem?_append_right->Wz,any_eq_false->ZB,any_eq_true->XI,getElem_mem->ZC,flatMap_append->Wx,map_eq_nil_iff->ZD,map_eq_append_iff->ZE,length_append->V5,getElem_of_mem->XZ,getElem_append_right->ZF,mem_map->Wm
open List.Pairwise renaming nil->X0
open Go.World renaming block_lt_of_cell?->Vr,cell?->VL,alloc_heap_new->Zu,size_alloc->WX,ownsRow_nil->WK
open Go.Code renaming wp->Za
open Go.Instr renaming lookup->YJ
open Go.IntKind renaming i64->Vp
open Int renaming tmod_eq_emod_of_nonneg->Zi
open Go.Oper renaming semAt_some->Zj
open Nat renaming reduceAdd->Zl,reduceSub->Zm,sub_self->Zs,le_trans->Vq,zero_le->Wh
open Array renaming replicate_succ->Zn,replicate_zero->Zo,getElem?_eq_some_iff->Y9
open Go.Fence renaming wide->Zt
open Go.Value renaming int->V4,ownBlock->WI
open Go.Boxed renaming new->Zv
open Go.KeepsFrom renaming refl->Zx
open Go.Joins renaming ownsRow_form->Yq,ownsRow_le->YF
open Go.Value.slice renaming injEq->Yr
open ByteArray renaming empty->YN
namespace Go.Proofs.YtfigmlfdnickmaaGreatDoor
variable{name:U4}{la mo u x:U9}{p:U9->Bool}{l:U5 (aA.aL × Zg)}{L:U5 (U9 × U9)}{xs:U5 Zg}{B Bn Q b d e i k m n n₀:U8}{aM:U8->U6 aW}{rw_:Raw}{s:aA.St}{v v':Zg}{W Z w w' w1 w3 wx:Vh}
open Go.RowKit
open aA (aL St dB kept dZ cS cN gD cA bW gJ ec gy nk Inv)
theorem Cl:∀ (n:U8)(a c:U9),aG.canon n (fun _=>0) a c=.nil
 |0,_,_=>by simp[aG.canon,aG.mk,aG.isNil]
 |n+1,a,c=>by
  simp only[aG.canon];have g:=Cl n a (aG.aS a c);have f:=Cl n (aG.aS a c) c;rw[g,f];simp[aG.mk,aG.isNil]
theorem QN:jt (fun _=>0)=.nil:=Cl 20 0 1048320
theorem Ik{name:U4}:∀ {es:U5 aL},(∀ e∈es,cA name e=Vf)->cN name es=fun _=>0
 |[],_=>by funext p;rfl
 |e :: es,h=>by
  funext p
  have ih:=congrFun (Ik (name:=name) (es:=es) (fun x a=>h x (List.mem_cons_of_mem _ a))) p;simp only[cN,h e List.mem_cons_self,ih];rfl
theorem Of.aT{r:Raw}(h:Of s r){a:U8}(q:∀ t∈r.tg,t.name≠name):Of { s with ts:=s.ts++[(name,u)] } { r with tg:=r.tg++[⟨name,u,a,fun _=>0,.nil⟩] }:=by
 have j:∀ e∈s.es,cA name e=Vf:=fun e D=>by
  obtain⟨g,C,rfl⟩:=h.get D;obtain⟨i,o,E,f⟩:=h.tb g C;have:bW g.e.aT name=Vf:=pT.2 (fun c=>q _ (zg o) (by rw[E,c]));simp[cA,this]
 refine⟨h.now,h.given,by show (r.tg++[_]).map _=_;rw[Wr,h.ts];rfl,h.es,fun i o=>?_,fun g C=>?_⟩
 ·have y:i<r.tg.length+1:=by simpa using o
  by_cases e:i<r.tg.length
  ·have f:(r.tg++[(⟨name,u,a,fun _=>0,.nil⟩:TG)])[i]'(by simpa using y)=r.tg[i]:=Zh e;show (r.tg++[(⟨name,u,a,fun _=>0,.nil⟩:TG)])[i].A=cN (r.tg++[(⟨name,u,a,fun _=>0,.nil⟩:TG)])[i].name s.es/\gD (r.tg++[(⟨name,u,a,fun _=>0,.nil⟩:TG)])[i].name s.es (iX r.eg) (r.tg++[(⟨name,u,a,fun _=>0,.nil⟩:TG)])[i].T;rw[f];exact h.th i e
  ·have c:i=r.tg.length:=UU
   subst c;have f:(r.tg++[(⟨name,u,a,fun _=>0,.nil⟩:TG)])[r.tg.length]'UV=⟨name,u,a,fun _=>0,.nil⟩:=UV
   show (r.tg++[(⟨name,u,a,fun _=>0,.nil⟩:TG)])[r.tg.length].A=cN (r.tg++[(⟨name,u,a,fun _=>0,.nil⟩:TG)])[r.tg.length].name s.es/\gD (r.tg++[(⟨name,u,a,fun _=>0,.nil⟩:TG)])[r.tg.length].name s.es (iX r.eg) (r.tg++[(⟨name,u,a,fun _=>0,.nil⟩:TG)])[r.tg.length].T;rw[f];refine⟨(Ik j).symm,X0,fun z=>?_⟩;constructor
   ·intro G;simp[aE.bS] at G
   ·rintro ⟨e,D,F,_⟩;rw[j e D] at F;cases F
 ·obtain⟨i,o,E,f⟩:=h.tb g C;have c:(r.tg++[(⟨name,u,a,fun _=>0,.nil⟩:TG)])[i]'U0=r.tg[i]:=Zh o;refine⟨i,(by show i<(r.tg++[_]).length;simp;omega),?_,?_⟩
  ·exact (congrArg TG.name c).trans E
  ·exact f.trans (congrArg TG.tb c).symm
theorem G6{r:Raw}(h:jH r.tg name=Vd):∀ t∈r.tg,t.name≠name:=by
 intro t ht e;rw[sR] at h
 cases a:r.tg.find? fun t=>bW t.name name with
 |none=>exact (List.find?_eq_none.1 a t ht) (sL.2 e)
 |some y=>rw[a] at h;cases h
theorem dS.za{r:Raw}(h:dS w d s r aM)(k:Vj w.heap.size w w1)(P:name.size<=1000)(ht:jH r.tg name=Vd)(hl:r.tg.length<4)(F:Q7 w1 (w.heap.size+1)):
  ∃ m,w1.cell? ⟨d,2,Vd⟩=Ve (.map (Ve m))/\∃ w3,(Instr.mapUpdate 137 (.map (Ve m)) (.string name) (.pointer (Ve ⟨w1.heap.size,0,Vd⟩))).run prog (w1.alloc (.cells #[.string name,.int .i64 u,.pointer Vd,.pointer Vd] 243)).drew=.ok () w3/\Q7 w3 (w.heap.size+1)/\∀ a b c e f g i,dX w d aM ({ s with ts:=s.ts++[(name,u)] },aA.bO.num 0) (bC 0 0 0 (.slice Vd 0 0) (.slice Vd 0 0) (.slice Vd 0 0) (.slice Vd 0 0)) (cK w3 (w.heap.size+1) a b c e f g i):=by
 have G:=h.dk.later k;have A:Vj w1.heap.size w1 (w1.alloc (.cells #[.string name,.int .i64 u,.pointer Vd,.pointer Vd] 243)).drew:=((zr _ _).alloc (zq _) _).drew;have J:=G.later A;have S:=cC w1 (.cells #[.string name,.int .i64 u,.pointer Vd,.pointer Vd] 243);have j:(w1.alloc (.cells #[.string name,.int .i64 u,.pointer Vd,.pointer Vd] 243)).drew.heap[w1.heap.size]?=Ve (.cells #[.string name,.int .i64 u,.pointer Vd,.pointer Vd] 243 (0,0)):=S;have z:Q7 (w1.alloc (.cells #[.string name,.int .i64 u,.pointer Vd,.pointer Vd] 243)).drew (w.heap.size+1):=F.later (A.block _ (Vr _ _ F.q0));have O:w.heap.size+1<w1.heap.size:=Vr _ _ F.q0;obtain⟨m0,_,H,_⟩:=G.mt;obtain⟨m,f,M,K,a3,Y⟩:=J.mt
 have R:m0=m:=by
  have e:=A.cell (p:=⟨d,2,Vd⟩) (Vr _ _ H);rw[H,M] at e
  injection e with e;injection e with e;injection e with e
  exact e.symm
 subst R;refine⟨m0,H,?_⟩;generalize (w1.alloc (.cells #[.string name,.int .i64 u,.pointer Vd,.pointer Vd] 243)).drew=Z at *;obtain⟨w3,y,N,I⟩:=a3.jT AZ underlying137 U1 (Bc P) (by unfold mG;trivial) w1.heap.size
 have T:TH Z w1.heap.size name u (fun _=>0) .nil Vd Vd [] []:=by
  refine⟨?_,?_,?_,?_,fun o=>frozen_of_row _ _ _ _ _ j,?_,⟨rfl,rfl⟩,by simp,by simp,by simp⟩
  ·simp only[VL,j];rfl
  ·simp only[VL,j];rfl
  ·simp only[VL,j];rfl
  ·simp only[VL,j];rfl
  ·rw[QN];exact⟨rfl,rfl⟩
 obtain⟨c2,X,V,U⟩:=J.ux (t:=⟨name,u,w1.heap.size,fun _=>0,.nil⟩) (B:=w1.heap.size) M K Y T (G.none (zq _)) (zq _) (G6 ht) N I;have q:aM (w.heap.size+1)=Vd:=h.dk.none UU;have D:w.heap.size+1≠m0:=fun e=>by rw[e,K] at q;cases q
 have C:w.heap.size+1<Z.heap.size:=Vr _ _ z.q0;have E:w3.heap[w.heap.size+1]?=Z.heap[w.heap.size+1]?:=I.block _ C (fun e=>D (Option.some.inj e));refine⟨w3,y,z.later E,fun a b c e f g i=>vR X (h.of.aT (G6 ht)) h.wl h.hl (((Step.below k).trans (Step.below A)).trans (V.any k.size)) UU (U _ q (by show w.heap.size+1≠w1.heap.size;omega)) 0 0 a b c e f g i⟩
theorem O3(w:Vh):(zeroValue 198).run prog w=.ok (.pointer Vd) w:=by simp[go_sem]
theorem Rl{r:Raw}(h:dS w d s r aM)(name:U4)(hn:name.size<=1000)(u:U9):
  Vk prog 91 #[.pointer (Ve ⟨d,0,Vd⟩),.agg #[.string name,.int .i64 u]] w fun e w'=>∃ v,e=.returned v/\dX w d aM (aA.aU s (.aT name u)) v w':=by
 obtain⟨hX,I,q,_⟩:=uQ w (.cells #[.string name,.int .i64 u] 149);have O:=aZ q 0 rfl;have N:=aZ q 1 rfl;have g:=aC h;have y:=aC (zA hX I);clear h hX I q
 go_in
 go_upto_region 1 with fail
 change Za _ _ _ _ ((w.alloc (.cells #[.string name,.int .i64 u] 149)).alloc aX);generalize (w.alloc (.cells #[.string name,.int .i64 u] 149)).alloc aX=X at *;have P:=g.out.dk.later y.out.1;obtain⟨m,f,T,a2,K,S⟩:=P.mt;have a:=(K.block (w':=X.drew) rfl).look AZ underlying137 (O3 X.drew) (Bc hn);have j:=(K.block (w':=X.drew) rfl).len underlying137;rw[S name] at a;have U:Hid (Q7 X.drew (w.heap.size+1)):=Q7.of y.out.2;have V:Hid (Vj w.heap.size w X.drew):=y.out.1.drew;have aa:=g.out.inv.tl;rw[<- g.out.of.len] at aa
 cases ht:jH r.tg name with
 |some b =>
  rw[ht] at a;have c:(YJ 137 (.map (Ve m)) (.string name) Vf).run prog X.drew=.ok (.pointer (Ve ⟨b,0,Vd⟩)) X.drew:=a
  have M:Hid (aA.aU s (.aT name u)=(s,aA.bO.error 4)):=by
   obtain⟨i,hi,e1,e2,e3⟩:=Ip g.out.of g.out.inv.tn ht;have ab:(r.tg[i].name,r.tg[i].aH)∈s.ts:=by rw[<- g.out.of.jS hi];exact zg _
   have:=(g.out.inv.tu _ ab).1;simp only[Hid,aA.aU];rw[Vb (by rw[e3];omega)]
  clear a K S ht P y j
  go_big_region
  clear c O N T
  go_wp2_with fail
  refine (lI 4 X.drew).mono ?_;rintro e w2 ⟨rfl,o⟩;have t:=aC (g.out.refuse V.out U.out o M.out);obtain⟨G,F,E,D,C,A,z,J⟩:=t.out.1;simp only[bC]
  go_wp2_with fail
  exact cO results91 ⟨G,F,E,D,C,A,z,J⟩ ⟨_,rfl,t.out.2⟩
 |none =>
  rw[ht] at a;have c:(YJ 137 (.map (Ve m)) (.string name) Vf).run prog X.drew=.ok (.pointer Vd) X.drew:=a;have af:=Io g.out.of ht;have b1:X.drew.cell? ⟨d,2,Vd⟩=Ve (.map (Ve m)):=T;have z0:X.drew.cell? ⟨w.heap.size,0,Vd⟩=Ve (.string name):=O;have z1:X.drew.cell? ⟨w.heap.size,1,Vd⟩=Ve (.int .i64 u):=N
  by_cases h4:r.tg.length=4
  ·rw[h4] at j
   have M:Hid (aA.aU s (.aT name u)=(s,aA.bO.error 5)):=by
    simp only[Hid,aA.aU];rw[Va UU,Vb (by rw[<- g.out.of.len];exact h4)]
   clear a K S ht P y
   go_big_region
   clear c O N T;generalize X.drew=Y at *
   go_wp2_with fail
   refine (lI 5 Y).mono ?_;rintro e w2 ⟨rfl,o⟩;have t:=aC (g.out.refuse V.out U.out o M.out);obtain⟨G,F,E,D,C,A,z,J⟩:=t.out.1;simp only[bC]
   go_wp2_with fail
   exact cO results91 ⟨G,F,E,D,C,A,z,J⟩ ⟨_,rfl,t.out.2⟩
  ·have M:Hid (aA.aU s (.aT name u)=({ s with ts:=s.ts++[(name,u)] },aA.bO.num 0)):=by
    simp only[Hid,aA.aU];rw[Va UU,Va (by rw[<- g.out.of.len];exact h4)]
   have HT:=aC ht;have ag:(r.tg.length:U9)<4:=UU
   clear a K S ht P y
   go_big_region
   clear c O N T;generalize X.drew=Y at *
   go_wp2_with fail
   refine (Hw name Y UU).mono ?_;rintro e w1 ⟨rfl,R⟩;have ac:w.heap.size+1<Y.heap.size:=Vr _ _ U.out.q0;obtain⟨m2,g1,w3,H,q7,hf⟩:=g.out.za (u:=u) (V.out.trans (R.mono V.out.size)) hn HT.out UU (U.out.later (R.block _ ac));have g2:w1.cell? ⟨w.heap.size,1,Vd⟩=Ve (.int .i64 u):=aN R z1;have t:Hid (dX w d aM (aA.aU s (.aT name u)) (bC 0 0 0 (.slice Vd 0 0) (.slice Vd 0 0) (.slice Vd 0 0) (.slice Vd 0 0)) (cK w3 (w.heap.size+1) (.int .i64 0) (.int .i64 0) (.int .i64 0) (.slice Vd 0 0) (.slice Vd 0 0) (.slice Vd 0 0) (.slice Vd 0 0))):=by rw[M.out];exact hf _ _ _ _ _ _ _
   have ka:Vj w1.heap.size w1 (w1.alloc (.cells #[.string name,.int .i64 u,.pointer Vd,.pointer Vd] 243)):=(zr _ _).alloc (zq _) _;have ae:=aN ka g1;have ad:=aN ka g2;clear hf R j z0 z1 b1 ka
   go_upto_region 6 with fail
   go_big_region
   clear H g1 g2 ae ad;obtain⟨G,F,E,D,C,A,z,J⟩:=q7
   go_wp2_with fail
   exact cO results91 ⟨G,F,E,D,C,A,z,J⟩ ⟨_,rfl,t.out⟩
theorem TO{r:Raw}(h:dS w d s r aM)(name:U4)(E:name.size<=1000)(u:U9):
  Vk prog 64 #[.pointer (Ve ⟨d,0,Vd⟩),.iface 149 (.agg #[.string name,.int .i64 u])] w fun e w'=>∃ v,e=.returned v/\dX w d aM (aA.aU s (.aT name u)) v w':=by
 have c:=aC (h.qa (.cells #[.string name,.int .i64 u] 149));have f:=aC (Rl c.out.1 name E u);clear h;unfold aX at f c;have a:=ph underlying149
 go_in
 go_wp2_with fail
 refine f.out.mono ?_;rintro e H ⟨v,rfl,j⟩;obtain⟨O,at_,I,Y,X,V,U,N,M,K,J,T,S,R,P,rfl,o,g⟩:=j.pW c.out.2;have G:=aC g;clear j g f a;obtain⟨D,C,A,z,y,t,q,F⟩:=o;simp only[bC]
 go_wp2_with fail
 exact cO results64 ⟨D,C,A,z,y,t,q,F⟩ ⟨_,rfl,G.out⟩
theorem Tf{r:Raw}(h:dS w d s r aM)(name:U4)(F:name.size<=1000)(u fr til:U9)(G:aA.jA (.enter 1 name u fr til 0)):
  Vk prog 64 #[.pointer (Ve ⟨d,0,Vd⟩),.iface 154 (.agg #[.string name,.int .i64 u,.int .i64 fr,.int .i64 til])] w fun e w'=>∃ v,e=.returned v/\dX w d aM (aA.aU s (.enter 1 name u fr til 0)) v w':=by
 have f:=aC (h.qa (.cells #[.string name,.int .i64 u,.int .i64 fr,.int .i64 til] 154));have g:=aC (PC f.out.1 name F u fr til G);clear h;unfold aX at g f;have c:=qu 154 UW;have a:=ph underlying154
 go_in
 go_wp2_with fail
 refine g.out.mono ?_;rintro e J ⟨v,rfl,o⟩;obtain⟨R,at_,K,a1,a2,Y,X,P,O,N,M,V,U,T,S,rfl,q,j⟩:=o.pW f.out.2;have I:=aC j;clear o j g c a;obtain⟨E,D,C,A,z,y,t,H⟩:=q;simp only[bC]
 go_wp2_with fail
 exact cO results64 ⟨E,D,C,A,z,y,t,H⟩ ⟨_,rfl,I.out⟩
theorem TX{r:Raw}(h:dS w d s r aM)(id:U9)(t:0<=id/\id<=9999999):
  Vk prog 64 #[.pointer (Ve ⟨d,0,Vd⟩),.iface 168 (.agg #[.int .i64 id])] w fun e w'=>∃ v,e=.returned v/\dX w d aM (aA.aU s (.cancel id)) v w':=by
 have y:=aC (h.qa (.cells #[.int .i64 id] 168));have z:=aC (Sh y.out.1 id t);clear h;unfold aX at z y;have g:=qu 168 UW;have q:=sb 168 UW;have o:=sd 168 UW;have j:=rZ 168 UW;have f:=tz 168 UW;have c:=tw 168 UW;have a:=ph underlying168
 go_in
 go_wp2_with fail
 refine z.out.mono ?_;rintro e O ⟨v,rfl,C⟩;obtain⟨V,at_,P,a1,a2,a3,a4,U,T,S,R,c1,c2,Y,X,rfl,D,A⟩:=C.pW y.out.2;have N:=aC A;clear C A z g q o j f c a;obtain⟨K,J,I,H,G,F,E,M⟩:=D;simp only[bC]
 go_wp2_with fail
 exact cO results64 ⟨K,J,I,H,G,F,E,M⟩ ⟨_,rfl,N.out⟩
theorem Tj{r:Raw}(h:dS w d s r aM)(name:U4)(O:name.size<=1000)(fr til:U9)(P:aA.jA (.cY name fr til)):
  Vk prog 64 #[.pointer (Ve ⟨d,0,Vd⟩),.iface 176 (.agg #[.string name,.int .i64 fr,.int .i64 til])] w fun e w'=>∃ v,e=.returned v/\dX w d aM (aA.aU s (.cY name fr til)) v w':=by
 have A:=aC (h.qa (.cells #[.string name,.int .i64 fr,.int .i64 til] 176));have C:=aC (Qq A.out.1 name O fr til P);clear h;unfold aX at C A;have o:=qu 176 UW;have z:=sb 176 UW;have y:=sd 176 UW;have q:=rZ 176 UW;have f:=tz 176 UW;have c:=tw 176 UW;have g:=vb 176 UW;have t:=wT 176 UW;have a:=xf 176 UW;have j:=ph underlying176
 go_in
 go_wp2_with fail
 refine C.out.mono ?_;rintro e T ⟨v,rfl,E⟩;obtain⟨er,at_,U,a1,a2,a3,a4,n1,Y,X,V,c1,c2,c3,c4,rfl,F,D⟩:=E.pW A.out.2;have S:=aC D;clear E D C o z y q f c g t a j;obtain⟨N,M,K,J,I,H,G,R⟩:=F;simp only[bC]
 go_wp2_with fail
 exact cO results64 ⟨N,M,K,J,I,H,G,R⟩ ⟨_,rfl,S.out⟩
theorem Th{r:Raw}(h:dS w d s r aM)(name:U4)(P:name.size<=1000)(u long fr til:U9)(R:aA.jA (.find name u long fr til)):
  Vk prog 64 #[.pointer (Ve ⟨d,0,Vd⟩),.iface 178 (.agg #[.string name,.int .i64 u,.int .i64 long,.int .i64 fr,.int .i64 til])] w fun e w'=>∃ v,e=.returned v/\dX w d aM (aA.aU s (.find name u long fr til)) v w':=by
 have C:=aC (h.qa (.cells #[.string name,.int .i64 u,.int .i64 long,.int .i64 fr,.int .i64 til] 178));have D:=aC (Pr C.out.1 name P u long fr til R);clear h;unfold aX at D C;have o:=qu 178 UW;have A:=sb 178 UW;have z:=sd 178 UW;have q:=rZ 178 UW;have f:=tz 178 UW;have c:=tw 178 UW;have g:=vb 178 UW;have y:=wT 178 UW;have a:=xf 178 UW;have t:=Ab 178 UW;have j:=ph underlying178
 go_in
 go_wp2_with fail
 refine D.out.mono ?_;rintro e U ⟨v,rfl,F⟩;obtain⟨er,at_,V,a1,a2,a3,a4,n1,n2,Y,X,c1,c2,c3,c4,rfl,G,E⟩:=F.pW C.out.2;have T:=aC E;clear F E D o A z q f c g y a t j;obtain⟨O,N,M,K,J,I,H,S⟩:=G;simp only[bC]
 go_wp2_with fail
 exact cO results64 ⟨O,N,M,K,J,I,H,S⟩ ⟨_,rfl,T.out⟩
theorem Un(y m:U9)(w:Vh)(ht:gA w):
  Vk prog 294 #[.int .i64 y,.int .i64 m] w fun e w'=>e=.returned (.bool (Rd.reached y m))/\w'=w:=by
 cases h:Cal.ok y m 1
 ·have a:=aC (B6 y m 1 w ht h);have e:Rd.reached y m=Vf:=by unfold Rd.reached;rw[h];rfl
  rw[e];clear h ht e
  go_in
  go_wp2_with fail
  refine a.out.mono ?_;rintro e w1 ⟨rfl,rfl⟩
  go_wp2
  go_ret;exact⟨rfl,rfl⟩
 ·have a:=aC (Ck y m 1 w ht h);have e:Rd.reached y m=decide (Cal.num y m 1<728):=by unfold Rd.reached;rw[h];rfl
  rw[e];clear h ht e;generalize Cal.num y m 1=z at *
  go_in
  go_wp2_with fail
  refine a.out.mono ?_;rintro e w1 ⟨rfl,rfl⟩
  go_wp2
  go_ret;exact⟨rfl,rfl⟩
theorem Hk(y m ev:U9)(w:Vh)(C:0<=y)(A:y<=100000)(z:1<=m)(t:m<=12)(r:1<=ev)(q:ev<=99):
  Vk prog 295 #[.int .i64 y,.int .i64 m,.int .i64 ev] w fun e w'=>e=.returned (.tuple #[.int .i64 (Rd.nh y m ev),.int .i64 (Rd.lY m ev)])/\w'=w:=by
 have o:Vp.wrap (m-1)=m-1:=cG UU UU;have j:Vp.wrap (m-1+ev)=m-1+ev:=cG UU UU;have h:Vp.wrap ((m-1+ev).tdiv 12)=(m-1+ev) / 12:=by rw[Int.tdiv_eq_ediv_of_nonneg UU];exact cG UU UU
 have g:Vp.wrap (y+(m-1+ev) / 12)=y+(m-1+ev) / 12:=cG UU UU;have f:(m-1+ev).tmod 12=(m-1+ev) % 12:=Zi UU;have c:Vp.wrap ((m-1+ev) % 12)=(m-1+ev) % 12:=cG UU UU;have a:Vp.wrap ((m-1+ev) % 12+1)=(m-1+ev) % 12+1:=cG UU UU;unfold Rd.nh Rd.lY
 go_in
 go_wp2
 go_ret2;simp
def ik(r:Rd.bL):Vi:=.agg #[.int .i64 r.pc,.int .i64 r.ev,.bool (aI r.acc 0),.bool (aI r.acc 1),.bool (aI r.acc 2),.bool (aI r.acc 3),.bool (aI r.acc 4),.bool (aI r.acc 5),.bool (aI r.acc 6),.int .i64 r.fr,.int .i64 r.mn,.int .i64 r.mi,.int .i64 r.ti,.int .i64 r.un]
def jL(r:Rd.bL)(d:U9):U9 × U9:=(d*1440+r.mn,d*1440+r.mn+r.mi)
theorem Iy(r:Rd.bL)(a:Rd.fw r)(d:U9)(z:0<=d)(y:d<100000)(w:Vh):
  Vk prog 200 #[ik r,.int .i64 d] w fun e w'=>e=.returned (.agg #[.int .i64 (jL r d).1,.int .i64 (jL r d).2])/\Vj w.heap.size w w':=by
 have g:=a.m0;have f:=a.m1;have t:=a.i1;have q:=a.i2;have o:Vp.wrap (d*1440)=d*1440:=cG UU UU;have j:Vp.wrap (d*1440+r.mn)=d*1440+r.mn:=cG UU UU;have h:Vp.wrap (d*1440+r.mn+r.mi)=d*1440+r.mn+r.mi:=cG UU UU;have c:Hid (Vj w.heap.size w ((w.alloc (.cells #[.int .i64 r.pc,.int .i64 r.ev,.bool (aI r.acc 0),.bool (aI r.acc 1),.bool (aI r.acc 2),.bool (aI r.acc 3),.bool (aI r.acc 4),.bool (aI r.acc 5),.bool (aI r.acc 6),.int .i64 r.fr,.int .i64 r.mn,.int .i64 r.mi,.int .i64 r.ti,.int .i64 r.un] 162)).alloc (.cells #[.int .i64 (d*1440+r.mn),.int .i64 (d*1440+r.mn+r.mi)] 60))):=((zr _ _).alloc (zq _) _).alloc UV _;clear a;unfold ik
 go_in
 go_wp2_with fail
 exact bodyPost_ret (v:=.agg #[.int .i64 (d*1440+r.mn),.int .i64 (d*1440+r.mn+r.mi)]) (by simp[results,results200,go_sem]) rfl ⟨rfl,c.out⟩
def bN(r:Rd.bL):Obj:=(.cells #[.int .i64 r.pc,.int .i64 r.ev,.bool (aI r.acc 0),.bool (aI r.acc 1),.bool (aI r.acc 2),.bool (aI r.acc 3),.bool (aI r.acc 4),.bool (aI r.acc 5),.bool (aI r.acc 6),.int .i64 r.fr,.int .i64 r.mn,.int .i64 r.mi,.int .i64 r.ti,.int .i64 r.un] 162 (0,0))
theorem tL{r:Rd.bL}(h:w.heap[b]?=Ve (bN r)):w.cell? ⟨b,0,Vd⟩=Ve (.int .i64 r.pc):=by unfold bN at h;simp only[VL,h];rfl
theorem oK{r:Rd.bL}(h:w.heap[b]?=Ve (bN r)):w.cell? ⟨b,1,Vd⟩=Ve (.int .i64 r.ev):=by unfold bN at h;simp only[VL,h];rfl
theorem tM{r:Rd.bL}(h:w.heap[b]?=Ve (bN r)):w.cell? ⟨b,2,Vd⟩=Ve (.bool (aI r.acc 0)):=by unfold bN at h;simp only[VL,h];rfl
theorem tN{r:Rd.bL}(h:w.heap[b]?=Ve (bN r)):w.cell? ⟨b,3,Vd⟩=Ve (.bool (aI r.acc 1)):=by unfold bN at h;simp only[VL,h];rfl
theorem tO{r:Rd.bL}(h:w.heap[b]?=Ve (bN r)):w.cell? ⟨b,4,Vd⟩=Ve (.bool (aI r.acc 2)):=by unfold bN at h;simp only[VL,h];rfl
theorem tP{r:Rd.bL}(h:w.heap[b]?=Ve (bN r)):w.cell? ⟨b,5,Vd⟩=Ve (.bool (aI r.acc 3)):=by unfold bN at h;simp only[VL,h];rfl
theorem tQ{r:Rd.bL}(h:w.heap[b]?=Ve (bN r)):w.cell? ⟨b,6,Vd⟩=Ve (.bool (aI r.acc 4)):=by unfold bN at h;simp only[VL,h];rfl
theorem tR{r:Rd.bL}(h:w.heap[b]?=Ve (bN r)):w.cell? ⟨b,7,Vd⟩=Ve (.bool (aI r.acc 5)):=by unfold bN at h;simp only[VL,h];rfl
theorem tT{r:Rd.bL}(h:w.heap[b]?=Ve (bN r)):w.cell? ⟨b,8,Vd⟩=Ve (.bool (aI r.acc 6)):=by unfold bN at h;simp only[VL,h];rfl
theorem pQ{r:Rd.bL}(h:w.heap[b]?=Ve (bN r)):w.cell? ⟨b,9,Vd⟩=Ve (.int .i64 r.fr):=by unfold bN at h;simp only[VL,h];rfl
theorem vK{r:Rd.bL}(h:w.heap[b]?=Ve (bN r)):w.cell? ⟨b,10,Vd⟩=Ve (.int .i64 r.mn):=by unfold bN at h;simp only[VL,h];rfl
theorem vL{r:Rd.bL}(h:w.heap[b]?=Ve (bN r)):w.cell? ⟨b,11,Vd⟩=Ve (.int .i64 r.mi):=by unfold bN at h;simp only[VL,h];rfl
theorem vM{r:Rd.bL}(h:w.heap[b]?=Ve (bN r)):w.cell? ⟨b,12,Vd⟩=Ve (.int .i64 r.ti):=by unfold bN at h;simp only[VL,h];rfl
theorem vO{r:Rd.bL}(h:w.heap[b]?=Ve (bN r)):w.cell? ⟨b,13,Vd⟩=Ve (.int .i64 r.un):=by unfold bN at h;simp only[VL,h];rfl
open Go.RowKit Go.Shelf
attribute [local go_sem] Zj
def RK(n₀ Bn:U8)(W a:Vh):Prop:=Vj n₀ W a/\a.heap[Bn]?=W.heap[Bn]?
theorem QC(F:Fence)(n:U8)(T:F.fn 296)(z:F.round=Vd)(hn:1<=n)(l Bn n₀:U8)(r:Rd.bL)(o:Rd.fw r)(J K:U5 U9->Vh->Prop)
  (P:∀ pre x W,J pre W->pre.length<(Rd.iG r.ev 800 r.fr).length->YieldAt F (n-1) prog l #[.int .i64 x] W fun e g =>
   (e=.returned (.bool Vg)/\J (pre++[x]) g/\RK n₀ Bn W g)\/(e=.returned (.bool Vf)/\K (pre++[x]) g))
  (W:Vh) (E:W.heap[Bn]?=Ve (bN r)) (U:J [] W):
  CallsIn F n prog 296 #[.func (.yield l) #[] #[],.pointer (Ve ⟨Bn,0,Vd⟩)] W fun e g=>(∃ v,e=.returned v) /\
   ((∃ ys,ys=Rd.iG r.ev 800 r.fr/\J ys g)\/(∃ pre,pre <+: Rd.iG r.ev 800 r.fr/\K pre g)):=by
 have c9:=pQ E;have e1:=o.e1;have e2:=o.e2;have V:=o.f0;have f1:=o.f1;clear o;generalize R:Rd.iG r.ev 800 r.fr=S at *;refine callsIn_of_wp func296 rfl T ?_ z;simp only[ntmps296,Zk,V6,Wa,Zl,Zm,Zn,Zo,Zp,Zq,Zr,VN]
 gi_wp2
 gi_loopw [3] (fun v wr=>∃ (d:U9) (f:U8) (pre:U5 U9),v=.int .i64 d/\S=pre++Rd.iG r.ev f d/\0<=d/\d<=10000/\728<=d+f/\J pre wr/\wr.heap[Bn]?=Ve (bN r)) (fun v _=>(20000-intOf v).toNat)
 case atStart=>exact⟨r.fr,800,[],rfl,R.symm,V,by omega,by omega,U,E⟩
 case round =>
  obtain⟨d,f,pre,rfl,a,O,N,M,H,G⟩:=hrel
  by_cases h:d<728
  ·obtain⟨c,rfl⟩:∃ c,f=c+1:=⟨f-1,by omega⟩;have y:Rd.iG r.ev (c+1) d=d :: Rd.iG r.ev c (d+r.ev):=by simp[Rd.iG,h]
   rw[y] at a;have X:Vp.wrap (d+r.ev)=d+r.ev:=cG UU UU;obtain⟨fn,D,t,I,Y,A⟩:=P pre d wr H (by rw[a];simp)
   gi_wp2
   refine A.mono ?_;rintro e W3 (⟨rfl,C,j⟩|⟨rfl,q⟩)
   ·have c1:=oK (j.2.trans G)
    gi_wp2
    go_roundw
    case rel=>exact⟨d+r.ev,c,pre++[d],by simp,by simp[a],by omega,by omega,by omega,C,j.2.trans G⟩
    case measure=>simp[intOf];omega
   ·gi_wp2
    refine bodyPost_ret (results_none rfl _ _ _) rfl ?_;exact⟨⟨_,rfl⟩,.inr ⟨pre++[d],⟨Rd.iG r.ev c (d+r.ev),by simp[a]⟩,q⟩⟩
  ·have y:Rd.iG r.ev f d=[]:=by cases f <;> simp[Rd.iG,h]
   rw[y,X5] at a;subst a
   gi_wp2
   go_end0
   exact⟨⟨_,rfl⟩,.inl H⟩
attribute [local go_sem] Zj
theorem Gf{r:Rd.bL}(h:w.heap[b]?=Ve (bN r)):∀ i:U8,i<7->w.cell? ⟨b,2+i,Vd⟩=Ve (.bool (aI r.acc i))
 |0,_=>tM h
 |1,_=>tN h
 |2,_=>tO h
 |3,_=>tP h
 |4,_=>tQ h
 |5,_=>tR h
 |6,_=>tT h
 |i+7,hi=>by omega
theorem SH(F:Fence)(n:U8)(h6:F.fn 292)(aa:F.round=Vd)(hn:1<=n)(l Bn n₀:U8)(r:Rd.bL)(P:Rd.fw r)(J Jx:U5 U9->Vh->Prop)
  (hY:∀ pre x W,J pre W->pre.length<(Rd.iw r.acc r.fr r.ev 800 (r.fr-r.fr % 7)).length->YieldAt F (n-1) prog l #[.int .i64 x] W fun e K =>
   (e=.returned (.bool Vg)/\J (pre++[x]) K/\RK n₀ Bn W K)\/(e=.returned (.bool Vf)/\Jx (pre++[x]) K))
  (W:Vh) (hr:W.heap[Bn]?=Ve (bN r)) (h0:J [] W):
  CallsIn F n prog 292 #[.func (.yield l) #[] #[],.pointer (Ve ⟨Bn,0,Vd⟩)] W fun e K=>(∃ v,e=.returned v) /\
   ((∃ ys,ys=Rd.iw r.acc r.fr r.ev 800 (r.fr-r.fr % 7)/\J ys K)\/(∃ pre,pre <+: Rd.iw r.acc r.fr r.ev 800 (r.fr-r.fr % 7)/\Jx pre K)):=by
 have X:=pQ hr;have e1:=P.e1;have e2:=P.e2;have f0:=P.f0;have f1:=P.f1;clear P;have m1:r.fr.tmod 7=r.fr % 7:=Zi f0;have m2:Vp.wrap (r.fr % 7)=r.fr % 7:=cG UU UU;have m3:Vp.wrap (r.fr-r.fr % 7)=r.fr-r.fr % 7:=cG UU UU;have m4:Vp.wrap (r.ev*7)=r.ev*7:=cG UU UU;generalize hS:Rd.iw r.acc r.fr r.ev 800 (r.fr-r.fr % 7)=S at *;refine callsIn_of_wp func292 rfl h6 ?_ aa;simp only[ntmps292,Zk,V6,Wa,Zl,Zm,Zn,Zo,Zp,Zq,Zr,VN]
 gi_wp2
 gi_loopw [3] (fun v wr=>∃ (d:U9) (f:U8) (pre:U5 U9),v=.int .i64 d/\S=pre++Rd.iw r.acc r.fr r.ev f d/\0<=d/\d<=10000/\r.fr<d+7/\728<=d+f/\J pre wr/\wr.heap[Bn]?=Ve (bN r)) (fun v _=>(20000-intOf v).toNat)
 case atStart=>exact⟨r.fr-r.fr % 7,800,[],rfl,hS.symm,by omega,by omega,by omega,by omega,h0,hr⟩
 case round =>
  obtain⟨a,f,pre,rfl,y,ae,ad,ab,ac,U,T⟩:=hrel;clear X hr h0
  by_cases O:a<728
  ·obtain⟨C,rfl⟩:∃ C,f=C+1:=⟨f-1,by omega⟩;have q1:Rd.iw r.acc r.fr r.ev (C+1) a=Rd.oA r.acc r.fr a++Rd.iw r.acc r.fr r.ev C (a+r.ev*7):=by simp[Rd.iw,O]
   rw[q1] at y;have k1:Vp.wrap (a+r.ev*7)=a+r.ev*7:=cG UU UU;have k2:Vp.wrap (a+7)=a+7:=cG UU UU;have X:=pQ T
   by_cases hm:r.fr<=a
   ·have z:Rd.oA r.acc r.fr a=Rd.fV (fun d=>aI r.acc (d-a)) (7-0) (a+((0:U8):U9)):=by unfold Rd.oA;rw[show max a r.fr=a from by omega,show (a+7-a).toNat=7 from by omega];simp
    gi_wp2
    gi_loopw [4] (fun v wr=>∃ (i:U8) (c:U5 U9),v=.int .i64 (a+i)/\i<=7/\c++Rd.fV (fun d=>aI r.acc (d-a)) (7-i) (a+i)=pre++Rd.oA r.acc r.fr a/\J c wr/\wr.heap[Bn]?=Ve (bN r)) (fun v _=>(a+7-intOf v).toNat)
    case atStart=>exact⟨0,pre,(by first|(simp;done)|(simp;omega)),by omega,by rw[z],U,T⟩
    case round =>
     obtain⟨i,c,rfl,hi,j,o,g⟩:=hrel;clear U T X
     by_cases E:i<7
     ·have q:a+(i:U9)<a+7:=UU
      have N:=Gf g i E;have k3:Vp.wrap (a+(i:U9)-a)=i:=by rw[show a+(i:U9)-a=i from by omega];exact cG UU UU
      have k4:Vp.wrap (a+(i:U9)+1)=a+i+1:=cG UU UU;have hp:a+(i:U9)-a=i:=UU
      have Y:Rd.fV (fun d=>aI r.acc (d-a)) (7-i) (a+i)=(if aI r.acc i then [a+(i:U9)] else [])++Rd.fV (fun d=>aI r.acc (d-a)) (7-(i+1)) (a+((i+1:U8):U9)):=by
       rw[show 7-i=(7-(i+1))+1 from by omega,Rd.fV,hp,show a+((i+1:U8):U9)=a+i+1 from by omega]
       split <;> simp
      rw[Y] at j
      cases R:aI r.acc i
      ·rw[R] at N j
       gi_wp2
       refine⟨fun _ h=>(by cases h),?_⟩
       gi_wp2
       go_roundw
       case rel=>exact⟨i+1,c,by simp;omega,by omega,by simpa using j,o,g⟩
       case measure=>simp[intOf];omega
      ·rw[R] at N j;obtain⟨fn,M,A,V,hy,H⟩:=hY c (a+i) wr o (by rw[y,<- VZ,<- j];simp)
       gi_wp2
       refine H.mono ?_;rintro e W3 (⟨rfl,I,D⟩|⟨rfl,t⟩)
       ·gi_wp2
        go_roundw
        case rel=>exact⟨i+1,c++[a+(i:U9)],by simp;omega,by omega,by simpa using j,I,D.2.trans g⟩
        case measure=>simp[intOf];omega
       ·gi_wp2
        refine bodyPost_ret (results_none rfl _ _ _) rfl ?_;exact⟨⟨_,rfl⟩,.inr ⟨c++[a+(i:U9)],⟨Rd.fV (fun d=>aI r.acc (d-a)) (7-(i+1)) (a+((i+1:U8):U9))++Rd.iw r.acc r.fr r.ev C (a+r.ev*7),by rw[y,<- VZ,<- VZ,<- j];simp⟩,t⟩⟩
     ·have q:¬ a+(i:U9)<a+7:=UU
      have c1:=oK g;have e7:i=7:=UU
      subst e7;simp only[Zs,Rd.fV,X5] at j
      gi_wp2
      go_roundw
      case rel=>exact⟨a+r.ev*7,C,c,by simp,by rw[y,j,VZ],by omega,by omega,by omega,by omega,o,g⟩
      case measure=>simp[intOf];omega
   ·have G:r.fr=a+((r.fr-a).toNat:U9):=UU
    have z:Rd.oA r.acc r.fr a=Rd.fV (fun d=>aI r.acc (d-a)) (7-(r.fr-a).toNat) (a+((r.fr-a).toNat:U9)):=by unfold Rd.oA;rw[<- G,show max a r.fr=r.fr from by omega,show (a+7-r.fr).toNat=7-(r.fr-a).toNat from by omega]
    have HW:=aC (zA G z);clear G z
    gi_wp2
    gi_loopw [4] (fun v wr=>∃ (i:U8) (c:U5 U9),v=.int .i64 (a+i)/\i<=7/\c++Rd.fV (fun d=>aI r.acc (d-a)) (7-i) (a+i)=pre++Rd.oA r.acc r.fr a/\J c wr/\wr.heap[Bn]?=Ve (bN r)) (fun v _=>(a+7-intOf v).toNat)
    case atStart=>exact⟨(r.fr-a).toNat,pre,(by first|(rw[<- HW.out.1];done)|(rw[<- HW.out.1];congr 1;omega)),by omega,by rw[HW.out.2],U,T⟩
    case round =>
     obtain⟨i,c,rfl,hi,j,o,g⟩:=hrel;clear U T X
     by_cases E:i<7
     ·have q:a+(i:U9)<a+7:=UU
      have N:=Gf g i E;have k3:Vp.wrap (a+(i:U9)-a)=i:=by rw[show a+(i:U9)-a=i from by omega];exact cG UU UU
      have k4:Vp.wrap (a+(i:U9)+1)=a+i+1:=cG UU UU;have hp:a+(i:U9)-a=i:=UU
      have Y:Rd.fV (fun d=>aI r.acc (d-a)) (7-i) (a+i)=(if aI r.acc i then [a+(i:U9)] else [])++Rd.fV (fun d=>aI r.acc (d-a)) (7-(i+1)) (a+((i+1:U8):U9)):=by
       rw[show 7-i=(7-(i+1))+1 from by omega,Rd.fV,hp,show a+((i+1:U8):U9)=a+i+1 from by omega]
       split <;> simp
      rw[Y] at j
      cases R:aI r.acc i
      ·rw[R] at N j
       gi_wp2
       refine⟨fun _ h=>(by cases h),?_⟩
       gi_wp2
       go_roundw
       case rel=>exact⟨i+1,c,by simp;omega,by omega,by simpa using j,o,g⟩
       case measure=>simp[intOf];omega
      ·rw[R] at N j;obtain⟨fn,M,A,V,hy,H⟩:=hY c (a+i) wr o (by rw[y,<- VZ,<- j];simp)
       gi_wp2
       refine H.mono ?_;rintro e W3 (⟨rfl,I,D⟩|⟨rfl,t⟩)
       ·gi_wp2
        go_roundw
        case rel=>exact⟨i+1,c++[a+(i:U9)],by simp;omega,by omega,by simpa using j,I,D.2.trans g⟩
        case measure=>simp[intOf];omega
       ·gi_wp2
        refine bodyPost_ret (results_none rfl _ _ _) rfl ?_;exact⟨⟨_,rfl⟩,.inr ⟨c++[a+(i:U9)],⟨Rd.fV (fun d=>aI r.acc (d-a)) (7-(i+1)) (a+((i+1:U8):U9))++Rd.iw r.acc r.fr r.ev C (a+r.ev*7),by rw[y,<- VZ,<- VZ,<- j];simp⟩,t⟩⟩
     ·have q:¬ a+(i:U9)<a+7:=UU
      have c1:=oK g;have e7:i=7:=UU
      subst e7;simp only[Zs,Rd.fV,X5] at j
      gi_wp2
      go_roundw
      case rel=>exact⟨a+r.ev*7,C,c,by simp,by rw[y,j,VZ],by omega,by omega,by omega,by omega,o,g⟩
      case measure=>simp[intOf];omega
  ·have q1:Rd.iw r.acc r.fr r.ev f a=[]:=by cases f <;> simp[Rd.iw,O]
   rw[q1,X5] at y;subst y
   gi_wp2
   go_end0
   exact⟨⟨_,rfl⟩,.inl U⟩
attribute [local go_sem] Zj
theorem pU(h:gA w)(k:Vj n₀ w w')(f:10<=n₀):gA w':=by
 obtain⟨C,A,z,y,t,r,q,o,j,g,c,a⟩:=h;refine⟨?_,?_,?_,?_,?_,?_,?_,?_,?_,?_,?_,?_⟩
 all_goals (refine (k.cell (by show 1<n₀;omega)).trans ?_;assumption)
theorem Tv(n:U8)(hn:1<=n)(l Bn n₀:U8)(V:10<=n₀)(r:Rd.bL)(G:Rd.fw r)(J Jx:U5 U9->Vh->Prop)
  (hY:∀ pre x W,J pre W->pre.length<(Rd.iH (Cal.dT r.fr) r.ev 100 (Cal.yT r.fr) (Cal.mT r.fr)).length->YieldAt Zt (n-1) prog l #[.int .i64 x] W fun e E =>
   (e=.returned (.bool Vg)/\J (pre++[x]) E/\RK n₀ Bn W E)\/(e=.returned (.bool Vf)/\Jx (pre++[x]) E))
  (W:Vh) (ht:gA W) (P:W.heap[Bn]?=Ve (bN r)) (h0:J [] W):
  CallsIn Zt n prog 293 #[.func (.yield l) #[] #[],.pointer (Ve ⟨Bn,0,Vd⟩)] W fun e E=>(∃ v,e=.returned v) /\
   ((∃ ys,ys=Rd.iH (Cal.dT r.fr) r.ev 100 (Cal.yT r.fr) (Cal.mT r.fr)/\J ys E)\/(∃ pre,pre <+: Rd.iH (Cal.dT r.fr) r.ev 100 (Cal.yT r.fr) (Cal.mT r.fr)/\Jx pre E)):=by
 have c9:=pQ P;have e1:=G.e1;have e2:=G.e2;have f0:=G.f0;have f1:=G.f1;clear G;obtain⟨mo,mn,my,mm⟩:=Rd.pI f0 f1;obtain⟨g1,g2,g3,g4,g5,g6⟩:=(Cal.gO _ _ _).1 mo;have HD:Hid (∀ y m d:U9,Cal.ok y m d=Vg->Cal.num y m d=r.fr->y=Cal.yT r.fr/\m=Cal.mT r.fr/\d=Cal.dT r.fr):=fun y m d h k=>Cal.AM y m d r.fr h k
 have DA:=aC (S4 r.fr W ht UU UU);clear mo mn g5 g6;generalize hS:Rd.iH (Cal.dT r.fr) r.ev 100 (Cal.yT r.fr) (Cal.mT r.fr)=S at *;generalize Cal.dT r.fr=dt at *;generalize Cal.yT r.fr=y0 at *;generalize Cal.mT r.fr=m0 at *;refine callsIn_of_wp func293 rfl trivial ?_ rfl;simp only[ntmps293,Zk,V6,Wa,Zl,Zm,Zn,Zo,Zp,Zq,Zr,VN]
 gi_wp2_with (first
  |((try refine⟨trivial,?_⟩);gi_at_call 116;refine (callsIn_wide.2 DA.out).mono ?_;rintro e w1 ⟨y,m,d,rfl,g,q,rfl⟩;obtain⟨rfl,rfl,rfl⟩:=HD.out y m d g q))
 clear DA HD c9 g q
 gi_loopw [3,4] (fun v u wr=>∃ (y m:U9) (f:U8) (pre:U5 U9),v=.int .i64 y/\u=.int .i64 m/\S=pre++Rd.iH d r.ev f y m/\2024<=y/\y<=2034/\1<=m/\m<=12/\24312<12*y+m+f/\J pre wr/\wr.heap[Bn]?=Ve (bN r)/\gA wr) (fun v u _=>(30000-(12*intOf v+intOf u)).toNat)
 case atStart=>exact⟨y,m,100,[],rfl,rfl,hS.symm,by omega,by omega,by omega,by omega,by omega,h0,P,ht⟩
 case round =>
  obtain⟨c,a,f,pre,rfl,rfl,j,a1,a2,Y,X,a5,U,N,I⟩:=hrel;clear P h0 ht;have M:=aC (Un c a wr I);have o:=Rd.Jf (y:=c) (m:=a) a1 UU Y X
  by_cases t:Rd.reached c a=Vg
  ·have ac:=o.1 t;obtain⟨C,rfl⟩:∃ C,f=C+1:=⟨f-1,by omega⟩;have D:Rd.iH d r.ev (C+1) c a=Rd.pO c a d++Rd.iH d r.ev C (Rd.nh c a r.ev) (Rd.lY a r.ev):=by simp[Rd.iH,t]
   obtain⟨l1,l2,l3⟩:=Rd.BA (y:=c) (m:=a) (ev:=r.ev);rw[D] at j;rw[t] at M
   cases g:Cal.ok c a d
   ·have DY:=aC (B6 c a d wr I g);have LA:=aC (Hk c a r.ev wr UU UU Y X e1 e2);have F:Rd.pO c a d=[]:=by simp[Rd.pO,g]
    have c1:=oK N;rw[F,Zr] at j;clear o t D F;generalize Rd.nh c a r.ev=y2 at *;generalize Rd.lY a r.ev=m2 at *
    gi_wp2_with (first
     |((try refine⟨trivial,?_⟩);gi_at_call 294;refine (callsIn_wide.2 M.out).mono ?_;rintro e w1 ⟨rfl,rfl⟩)
     |((try refine⟨trivial,?_⟩);gi_at_call 112;refine (callsIn_wide.2 DY.out).mono ?_;rintro e w1 ⟨rfl,rfl⟩))
    refine⟨fun _ h=>(by cases h),?_⟩
    gi_wp2_with (first
     |((try refine⟨trivial,?_⟩);gi_at_call 295;refine (callsIn_wide.2 LA.out).mono ?_;rintro e w1 ⟨rfl,rfl⟩))
    go_roundw
    case rel=>exact⟨y2,m2,C,pre,rfl,rfl,j,by omega,by omega,l2,l3,by omega,U,N,I⟩
    case measure=>simp[intOf];omega
   ·have DY:=aC (Ck c a d wr I g);have F:Rd.pO c a d=[Cal.num c a d]:=by simp[Rd.pO,g]
    rw[F] at j;clear o t D F;generalize Cal.num c a d=z at *;have LA:=aC (fun w=>Hk c a r.ev w UU UU Y X e1 e2);generalize Rd.nh c a r.ev=y2 at *;generalize Rd.lY a r.ev=m2 at *;obtain⟨fn,aa,O,ab,hy,R⟩:=hY pre z wr U (by rw[j];simp)
    gi_wp2_with (first
     |((try refine⟨trivial,?_⟩);gi_at_call 294;refine (callsIn_wide.2 M.out).mono ?_;rintro e w1 ⟨rfl,rfl⟩)
     |((try refine⟨trivial,?_⟩);gi_at_call 112;refine (callsIn_wide.2 DY.out).mono ?_;rintro e w1 ⟨rfl,rfl⟩))
    refine R.mono ?_;rintro e W3 (⟨rfl,T,A⟩|⟨rfl,K⟩)
    ·have c1:=oK (A.2.trans N)
     gi_wp2_with (first
      |((try refine⟨trivial,?_⟩);gi_at_call 295;refine (callsIn_wide.2 (LA.out W3)).mono ?_;rintro e w2 ⟨rfl,rfl⟩))
     go_roundw
     case rel=>exact⟨y2,m2,C,pre++[z],rfl,rfl,by simp[j],by omega,by omega,l2,l3,by omega,T,A.2.trans N,pU I A.1 V⟩
     case measure=>simp[intOf];omega
    ·gi_wp2
     refine bodyPost_ret (results_none rfl _ _ _) rfl ?_;exact⟨⟨_,rfl⟩,.inr ⟨pre++[z],⟨Rd.iH d r.ev C y2 m2,by simp[j]⟩,K⟩⟩
  ·have D:Rd.iH d r.ev f c a=[]:=by cases f <;> simp[Rd.iH,t]
   have H:Rd.reached c a=Vf:=by simpa using t
   rw[D,X5] at j;subst j;rw[H] at M;clear o D t H
   gi_wp2_with (first
    |((try refine⟨trivial,?_⟩);gi_at_call 294;refine (callsIn_wide.2 M.out).mono ?_;rintro e w1 ⟨rfl,rfl⟩))
   go_end0
   exact⟨⟨_,rfl⟩,.inl ⟨_,rfl,U⟩⟩
theorem QD(r:Rd.bL)(w:Vh):
  Vk prog 278 #[ik r] w fun e w'=>e=.returned (.func (.func 296) #[] #[.pointer (Ve ⟨w.heap.size,0,Vd⟩)])/\w'=w.alloc (bN r):=by
 unfold ik
 go_in
 go_wp2_with fail
 exact bodyPost_ret (v:=.func (.func 296) #[] #[.pointer (Ve ⟨w.heap.size,0,Vd⟩)]) (by simp[results,results278,go_sem]) rfl ⟨rfl,rfl⟩
theorem SI(r:Rd.bL)(w:Vh):
  Vk prog 276 #[ik r] w fun e w'=>e=.returned (.func (.func 292) #[] #[.pointer (Ve ⟨w.heap.size,0,Vd⟩)])/\w'=w.alloc (bN r):=by
 unfold ik
 go_in
 go_wp2_with fail
 exact bodyPost_ret (v:=.func (.func 292) #[] #[.pointer (Ve ⟨w.heap.size,0,Vd⟩)]) (by simp[results,results276,go_sem]) rfl ⟨rfl,rfl⟩
theorem Tw(r:Rd.bL)(w:Vh):
  Vk prog 277 #[ik r] w fun e w'=>e=.returned (.func (.func 293) #[] #[.pointer (Ve ⟨w.heap.size,0,Vd⟩)])/\w'=w.alloc (bN r):=by
 unfold ik
 go_in
 go_wp2_with fail
 exact bodyPost_ret (v:=.func (.func 293) #[] #[.pointer (Ve ⟨w.heap.size,0,Vd⟩)]) (by simp[results,results277,go_sem]) rfl ⟨rfl,rfl⟩
def iB(r:Rd.bL):U8:=if r.pc=2 then 292 else if r.pc=3 then 293 else 296
theorem I7(r:Rd.bL)(w:Vh):
  Vk prog 249 #[ik r] w fun e w'=>e=.returned (.func (.func (iB r)) #[] #[.pointer (Ve ⟨w.heap.size+1,0,Vd⟩)])/\w'=(w.alloc (bN r)).alloc (bN r):=by
 have A:=aC (SI r (w.alloc (bN r)));have C:=aC (Tw r (w.alloc (bN r)));have D:=aC (QD r (w.alloc (bN r)));have a:=Zu w (bN r);have E:(w.alloc (bN r)).heap.size=w.heap.size+1:=UV
 have P:=tL a;have O:=oK a;have N:=tM a;have M:=tN a;have K:=tO a;have J:=tP a;have I:=tQ a;have H:=tR a;have G:=tT a;have F:=pQ a;have t:=vK a;have q:=vL a;have o:=vM a;have j:=vO a;rw[E] at A C D;clear a E;unfold ik at *;obtain⟨X,z⟩:∃ X,X=w.alloc (bN r):=⟨_,rfl⟩;rw[<- z] at A C D P O N M K J I H G F t q o j;have g:=aC z;clear z
 by_cases f:r.pc=2
 ·have R:(r.pc==2)=Vg:=by simpa using f
  have c:iB r=292:=by unfold iB;rw[Vb f]
  rw[c];clear c f
  go_in
  go_upto_region 1 with fail
  change Za _ _ _ _ (w.alloc (bN r));rw[<- g.out]
  go_wp2_with (first
   |(go_at_call 276;refine A.out.mono ?_;rintro e w1 ⟨rfl,rfl⟩))
  exact bodyPost_ret (v:=.func (.func 292) #[] #[.pointer (Ve ⟨w.heap.size+1,0,Vd⟩)]) (by simp[results,results249,go_sem]) rfl ⟨rfl,by rw[g.out]⟩
 ·have R:(r.pc==2)=Vf:=by simpa using f
  by_cases h:r.pc=3
  ·have y:(r.pc==3)=Vg:=by simpa using h
   have c:iB r=293:=by unfold iB;rw[Va f,Vb h]
   rw[c];clear c h
   go_in
   go_upto_region 1 with fail
   change Za _ _ _ _ (w.alloc (bN r));rw[<- g.out]
   go_wp2_with (first
    |(go_at_call 277;refine C.out.mono ?_;rintro e w1 ⟨rfl,rfl⟩))
   exact bodyPost_ret (v:=.func (.func 293) #[] #[.pointer (Ve ⟨w.heap.size+1,0,Vd⟩)]) (by simp[results,results249,go_sem]) rfl ⟨rfl,by rw[g.out]⟩
  ·have y:(r.pc==3)=Vf:=by simpa using h
   have c:iB r=296:=by unfold iB;rw[Va f,Va h]
   rw[c];clear c
   go_in
   go_upto_region 1 with fail
   change Za _ _ _ _ (w.alloc (bN r));rw[<- g.out]
   go_wp2_with (first
    |(go_at_call 278;refine D.out.mono ?_;rintro e w1 ⟨rfl,rfl⟩))
   exact bodyPost_ret (v:=.func (.func 296) #[] #[.pointer (Ve ⟨w.heap.size+1,0,Vd⟩)]) (by simp[results,results249,go_sem]) rfl ⟨rfl,by rw[g.out]⟩
theorem GJ(n:U8)(o:1<=n)(Bn n₀:U8)(t:10<=n₀)(r:Rd.bL)(q:Rd.fw r)(w:Vh)(E:Bn<w.heap.size)(D:n₀<=w.heap.size)(ht:gA w)(C:w.heap[Bn]?=Ve (bN r)):
  SeqStopsK Zt n prog (iB r) #[.pointer (Ve ⟨Bn,0,Vd⟩)] (fun x:U9=>#[V4 .i64 x]) (RK n₀ Bn) (fun ys=>ys=Rd.seq r) (fun pre=>pre <+: Rd.seq r) (Rd.seq r).length w:=by
 intro l J z W A _ _ c y;have a:W.heap[Bn]?=Ve (bN r):=(A.block Bn E).trans C;have j:gA W:=pU ht A UU
 by_cases f:r.pc=2
 ·have g:iB r=292:=by unfold iB;rw[Vb f]
  have es:Rd.seq r=Rd.iw r.acc r.fr r.ev 800 (r.fr-r.fr % 7):=by unfold Rd.seq;rw[Vb f]
  rw[es] at c ⊢;rw[g];exact SH Zt n trivial rfl o l Bn n₀ r q J z c W a y
 ·by_cases h:r.pc=3
  ·have g:iB r=293:=by unfold iB;rw[Va f,Vb h]
   have es:Rd.seq r=Rd.iH (Cal.dT r.fr) r.ev 100 (Cal.yT r.fr) (Cal.mT r.fr):=by unfold Rd.seq;rw[Va f,Vb h]
   rw[es] at c ⊢;rw[g];exact Tv n o l Bn n₀ t r q J z c W j a y
  ·have g:iB r=296:=by unfold iB;rw[Va f,Va h]
   have es:Rd.seq r=Rd.iG r.ev 800 r.fr:=by unfold Rd.seq;rw[Va f,Va h]
   rw[es] at c ⊢;rw[g];exact QC Zt n trivial rfl o l Bn n₀ r q J z c W a y
attribute [local go_sem] Zj
structure FD(w W:Vh)(r:Rd.bL)(la mo:U9)(pre:U5 U9):Prop where
 l:Boxed W (w.heap.size+1) 3 (.int .i64 la)
 m:Boxed W (w.heap.size+2) 3 (.int .i64 mo)
 d:∃ v,Boxed W (w.heap.size+3) 38 v/\W.ownsRow (w.heap.size+6) 3 1 v pre.length (pre.map (V4 .i64))
 ru:W.heap[w.heap.size+5]?=Ve (bN r)
 bl:Vj w.heap.size w W
 sz:w.heap.size+6<=W.heap.size
 le:∀ x∈pre,x<=la
 ml:(pre.length:U9)<=mo
theorem xY{c:Vh}{row:U6 U8}{t:TypeId}(h:Boxed W B t v)(g:W.grownBy c row)(f:∀ r,row=Ve r->∃ o:Obj,W.heap[r]?=Ve o/\o.isCells=Vf):Boxed c B t v :=
 h.kept g (fun e=>by
  obtain⟨o,a,j⟩:=f B e.symm
  rw[show W.heap[B]?=_ from h] at a;cases a;cases j)
theorem xA(w:Vh)(r:Rd.bL)(la mo:U9)(z:w.heap.size<=B):OwnFrom B (fun pre W=>FD w W r la mo pre):=by
 intro pre W D row h f a;have j:∀ r,row=Ve r->∃ o:Obj,W.heap[r]?=Ve o/\o.isCells=Vf:=fun r e=>(a r e).2
 obtain⟨v,y,c⟩:=h.d;refine⟨xY h.l f j,xY h.m f j,⟨v,xY y f j,c.kept f ?_⟩,(f.block _ (by have:=h.sz;omega) (fun e=>?_)).trans h.ru,h.bl.grown f h.bl.size (fun k e=>Vq z (a k e).1),Vq h.sz f.size,h.le,h.ml⟩
 ·rcases c.2 with ⟨rfl,_⟩|⟨g,cap,C,rfl,_,q,_⟩
  ·exact .inl rfl
  ·refine .inr fun A=>?_
   obtain⟨o,c,t⟩:=j g (by simpa[WI] using A.symm);rw[q] at c;cases c;cases t
 ·obtain⟨o,c,t⟩:=j _ e.symm;rw[h.ru] at c;cases c;cases t
theorem F0{r:Rd.bL}{pre:U5 U9}(h:FD w W r la mo pre)(M:Boxed W (w.heap.size+3) 38 v)(G:W.ownsRow (w.heap.size+6) 3 1 v pre.length (pre.map (V4 .i64))){a:Obj}(c:w1.ownsRow (w.heap.size+6) 3 1 v' (pre.length+1) (pre.map (V4 .i64)++[.int .i64 x]))(C:(W.alloc a).grownBy w1 v.ownBlock)(O:x<=la)(R:(pre.length:U9)+1<=mo):
  Boxed w1 (w.heap.size+3) 38 v/\KeepsFrom (w.heap.size+6) W (w1.setCell ⟨w.heap.size+3,0,Vd⟩ v')/\RK w.heap.size (w.heap.size+5) W (w1.setCell ⟨w.heap.size+3,0,Vd⟩ v')/\FD w (w1.setCell ⟨w.heap.size+3,0,Vd⟩ v') r la mo (pre++[x]):=by
 have P:=h.sz;have F:∀ b,v.ownBlock=Ve b->w.heap.size+6<=b:=fun b f=>(G.lt b f).1
 have D:∀ b,v'.ownBlock=Ve b->w.heap.size+6<=b:=fun b f=>(c.lt b f).1
 have q:∀ b,b<w.heap.size+6->w1.heap[b]?=W.heap[b]?:=fun b f =>
  (C.block b U0 (fun e=>by have:=F b e.symm;omega)).trans (Below.heap_alloc W a b UU)
 have A:∀ b,b≠w.heap.size+3->(w1.setCell ⟨w.heap.size+3,0,Vd⟩ v').heap[b]?=w1.heap[b]?:=fun b f=>Below.heap_setCell _ _ _ b f
 have z:Boxed w1 (w.heap.size+3) 38 v:=(q _ UU).trans M;have K:W.heap.size<=w1.heap.size:=by have:=C.size;simp at this;omega
 have J:Vj w.heap.size W (w1.setCell ⟨w.heap.size+3,0,Vd⟩ v'):=(((zr _ W).alloc UU a).grown C U0 (fun j e=>by have:=F j e;omega)).setCell (p:=⟨w.heap.size+3,0,Vd⟩) (by show w.heap.size<=w.heap.size+3;omega) v';refine⟨z,?_,⟨J,(A _ UU).trans (q _ UU)⟩,⟨((A _ UU).trans (q _ UU)).trans h.l,((A _ UU).trans (q _ UU)).trans h.m,⟨v',z.set v',?_⟩,((A _ UU).trans (q _ UU)).trans h.ru,h.bl.trans J,?_,?_,?_⟩⟩
 ·refine (((KeepsOthers.alloc W a).trans (KeepsOthers.of_grownBy C fun j o I H=>?_)).trans (KeepsOthers.setCell _ _ _)).from _
  rcases (G.alloc a).2 with ⟨rfl,_⟩|⟨g,cap,N,rfl,_,E,_⟩
  ·simp[WI] at I
  ·obtain rfl:g=j:=by simpa[WI] using I
   rw[E] at H;cases H;rfl
 ·have:=c.kept (grownBy_setCell' w1 (w.heap.size+3) v') (.inr (fun e=>by have:=D _ e;omega))
  simpa using this
 ·have:=(grownBy_setCell' w1 (w.heap.size+3) v').size;omega
 ·intro y t;rcases VB.1 t with t|t
  ·exact h.le y t
  ·simp at t;omega
 ·simp;omega
structure yN(w Y:Vh)(r:Rd.bL)(la mo:U9):Prop where
 ru:Y.heap[w.heap.size]?=Ve (bN r)
 l:Boxed Y (w.heap.size+1) 3 (.int .i64 la)
 m:Boxed Y (w.heap.size+2) 3 (.int .i64 mo)
 d:Boxed Y (w.heap.size+3) 38 (.slice Vd 0 0)
 bl:Vj w.heap.size w Y
 sz:Y.heap.size=w.heap.size+4
theorem Dw(w:Vh)(r:Rd.bL)(la mo:U9):yN w ((((w.alloc (bN r)).alloc (.cells #[.int .i64 la] 3)).alloc (.cells #[.int .i64 mo] 3)).alloc (.cells #[.slice Vd 0 0] 38)) r la mo:=by
 have g:=Zu w (bN r);have f:=Zv (w.alloc (bN r)) 3 (.int .i64 la);have c:=Zv ((w.alloc (bN r)).alloc (.cells #[.int .i64 la] 3)) 3 (.int .i64 mo);have a:=Zv (((w.alloc (bN r)).alloc (.cells #[.int .i64 la] 3)).alloc (.cells #[.int .i64 mo] 3)) 38 (.slice Vd 0 0);simp only[WX] at f c a;have k:∀ (W:Vh) (o:Obj) (b:U8) (x:Obj),W.heap[b]?=Ve x->(W.alloc o).heap[b]?=Ve x:=fun W o b x h=>(Below.heap_alloc W o b (Y9.1 h).1).trans h
 exact⟨k _ _ _ _ (k _ _ _ _ (k _ _ _ _ g)),(f.alloc _).alloc _,c.alloc _,a,((((zr _ w).alloc (zq _) _).alloc UV _).alloc U0 _).alloc U0 _,by simp⟩
theorem NH(w:Vh)(r:Rd.bL)(la mo:U9):yN w (((((w.alloc (bN r)).alloc (.cells #[.int .i64 la] 3)).alloc (.cells #[.int .i64 mo] 3)).drew).alloc (.cells #[.slice Vd 0 0] 38)) r la mo:=by
 obtain⟨j,h,g,f,c,a⟩:=Dw w r la mo;exact⟨j,h,g,f,c.drew,a⟩
theorem GD{Y:Vh}{r:Rd.bL}(f:Boxed Y (w.heap.size+1) 3 (.int .i64 la))(c:Boxed Y (w.heap.size+2) 3 (.int .i64 mo))(g:Boxed Y (w.heap.size+3) 38 (.slice Vd 0 0))(h:Vj w.heap.size w Y)(a:Y.heap.size=w.heap.size+4)(j:0<=mo):FD w ((Y.alloc (bN r)).alloc (bN r)) r la mo []:=by
 have b:=Zu (Y.alloc (bN r)) (bN r);rw[WX,a] at b;exact⟨(f.alloc _).alloc _,(c.alloc _).alloc _,⟨_,(g.alloc _).alloc _,WK _ _ _ _⟩,b,(h.alloc UU _).alloc U0 _,by simp;omega,by simp,by simpa using j⟩
theorem RK.trans{A B C:Vh}(h:RK n₀ Bn A B)(k:RK n₀ Bn B C):RK n₀ Bn A C:=⟨h.1.trans k.1,k.2.trans h.2⟩
theorem RK.put(c:n₀<=w.heap.size)(q:Bn<w.heap.size)(W:Vh)(l:U8)(o a:Obj)(f:w.heap.size<=l)(h:W.heap[l]?=Ve o)(j:o.isCells=Vf)(g:o.isWalk=Vf):RK n₀ Bn W (W.putObj l a) :=
 ⟨belowK_b c W l o a f h j g,(grownBy_putObj' W l a).block Bn (by have:=(Y9.1 h).1;omega) (fun e=>by cases e;omega)⟩
theorem Hg(r:Rd.bL)(a:Array Vi)(w:Vh):(callFunc (iB r) a).run prog w=.ok (.enter (iB r) a) w:=by
 unfold iB
 split
 ·exact enters_of func292 UZ rfl a w
 ·split
  ·exact enters_of func293 UZ rfl a w
  ·exact enters_of func296 UZ rfl a w
theorem pF{size:U8}(h:w.ownsRow B e size v n xs):∃ a cap,v=.slice a n cap:=by
 rcases h.2 with ⟨rfl,c⟩|⟨g,cap,_,rfl,_⟩
 ·rw[c];exact⟨_,_,rfl⟩
 ·exact⟨_,_,rfl⟩
theorem vy{C size:U8}(h:w.ownsRow B e size v n xs)(c:C<=B):w.ownsRow C e size v n xs :=
 ⟨h.1,h.2.imp id (fun ⟨g,cap,a,o,j,f⟩=>⟨g,cap,a,o,Vq c j,f⟩)⟩
theorem sH{l:U5 U9}(h:∀ x∈l,p x=Vg)(c:l.length<=k):(l.takeWhile p).take k=l:=by
 have e:l.takeWhile p=l:=by
  induction l with
  |nil=>rfl
  |cons a l ih=>rw[Zw,h a UV,Vb rfl,ih (fun x f=>h x (by simp[f])) (by simp at c;omega)]
 rw[e,Wi c]
theorem Im{pre rest:U5 U9}(h:∀ y∈pre,p y=Vg)(c:pre.length<=k)(a:p x=Vf\/pre.length=k):((pre++x :: rest).takeWhile p).take k=pre:=by
 have e:(pre++x :: rest).takeWhile p=pre++(x :: rest).takeWhile p:=List.takeWhile_append_of_pos h;rw[e];rcases a with a|a
 ·rw[Zw,a];simp[Wi c]
 ·rw[<- a,List.take_left]
def sY(r:Rd.bL):U9:=if 0<r.ti then 727 else r.un
def sW(r:Rd.bL):U9:=if 0<r.ti then r.ti else 41
theorem yG(r:Rd.bL):Rd.fG r=((Rd.seq r).takeWhile (fun d=>decide (d<=sY r))).take (sW r).toNat:=by
 unfold Rd.fG sY sW
 split
 ·rfl
 ·rfl
theorem T6(r:Rd.bL)(hf:Rd.fw r)(w:Vh)(ht:gA w)(O:10<=w.heap.size):
  Vk prog 199 #[ik r] w fun e w'=>∃ v,e=.returned v/\w'.ownsRow w.heap.size 3 1 v (Rd.fG r).length ((Rd.fG r).map (V4 .i64))/\Vj w.heap.size w w':=by
 obtain⟨i0,ak,aj,ai,ag⟩:=info_parts pE;have t1:=hf.t1;refine (callsIn_wide (n:=3)).1 ?_;unfold ik;refine callsIn_of_wp_marks func199 rfl trivial ?_ rfl;simp only[ntmps199,Zk,V6,Wa,Zl,Zm,Zn,Zo,Zp,Zq,Zr,VN];refine wpIn_wide.2 ?_
 by_cases N:0<r.ti
 ·have M:sY r=727/\sW r=r.ti:=by unfold sY sW;rw[Vb N,Vb N];exact⟨rfl,rfl⟩
  have HY:Hid (yN w (((((w.alloc (bN r)).alloc (.cells #[.int .i64 727] 3)).alloc (.cells #[.int .i64 r.ti] 3)).drew).alloc (.cells #[.slice Vd 0 0] 38)) r 727 r.ti):=NH w r 727 r.ti;have S:=aC M;clear M
  go_upto_region 4 with fail
  go_region
  go_upto_region 5 with fail
  change Za _ _ _ _ (((((w.alloc (bN r)).alloc (.cells #[.int .i64 727] 3)).alloc (.cells #[.int .i64 r.ti] 3)).drew).alloc (.cells #[.slice Vd 0 0] 38));generalize ((((w.alloc (bN r)).alloc (.cells #[.int .i64 727] 3)).alloc (.cells #[.int .i64 r.ti] 3)).drew).alloc (.cells #[.slice Vd 0 0] 38)=Y at HY ⊢;obtain⟨f,H,G,I,J,E⟩:=HY.out;have R:=aC (I7 r Y);have HZ:=aC (GD (r:=r) H G I J E);have TZ:Hid (gA ((Y.alloc (bN r)).alloc (bN r))):=pU ht (HZ.out UU).bl O;rw[E] at R;unfold ik at R;have x0:=tL f;have x1:=oK f;have x2:=tM f;have x3:=tN f;have x4:=tO f;have x5:=tP f;have x6:=tQ f;have x7:=tR f;have x8:=tT f;have x9:=pQ f;have X:=vK f;have V:=vL f;have U:=vM f;have T:=vO f;clear f H G I J HY
  go_wp2_with (first
   |(go_at_call 249;refine R.out.mono ?_;rintro e w1 ⟨rfl,rfl⟩))
  clear R x0 x1 x2 x3 x4 x5 x6 x7 x8 x9 X V U T;have ad:((Y.alloc (bN r)).alloc (bN r)).heap.size=w.heap.size+6:=by simp[E]
  generalize (Y.alloc (bN r)).alloc (bN r)=Z at HZ TZ ad ⊢;have hF:=HZ.out UU;have HS:=aC (GJ 2 UU (w.heap.size+5) w.heap.size O r hf Z UU UU TZ.out hF.ru);refine (wpIn_wide (n:=3)).1 ?_
  refine wpIn_rangeFunc_ownG rfl UU (gf:=iB r) (lb:=#[.pointer (Ve ⟨w.heap.size+5,0,Vd⟩)]) rfl trivial (Hg r) HS.out (fun h k=>RK.trans h k) (RK.put UU UU) (zr _ _) (fun _=>rfl)
   (fun pre W=>FD w W r 727 r.ti pre) (fun c o W=>c=.exit 0/\∃ pre x,o=pre++[x]/\FD w W r 727 r.ti pre/\(727<x\/(pre.length:U9)=r.ti))
   (xA w r 727 r.ti UU) (fun c s A B row hs hg hr=>by obtain⟨e,pre,x,e2,h,h3⟩:=hs;exact⟨e,pre,x,e2,xA w r 727 r.ti UU pre A B row h hg hr,h3⟩) hF
   (fun x=>{ tmps:=#[.agg #[.int .i64 r.pc,.int .i64 r.ev,.bool (aI r.acc 0),.bool (aI r.acc 1),.bool (aI r.acc 2),.bool (aI r.acc 3),.bool (aI r.acc 4),.bool (aI r.acc 5),.bool (aI r.acc 6),.int .i64 r.fr,.int .i64 r.mn,.int .i64 r.mi,.int .i64 r.ti,.int .i64 r.un],.pointer (Ve ⟨w.heap.size,0,Vd⟩),.slice Vd 0 0,.pointer (Ve ⟨w.heap.size+1,0,Vd⟩),.pointer (Ve ⟨w.heap.size+1+1,0,Vd⟩),.pointer (Ve ⟨w.heap.size+1+1+1,0,Vd⟩),.int .i64 x,.pointer (Ve ⟨w.heap.size,13,Vd⟩),.int .i64 r.un,.pointer (Ve ⟨w.heap.size,12,Vd⟩),.int .i64 r.ti,.bool Vg,.pointer (Ve ⟨w.heap.size,12,Vd⟩),.int .i64 r.ti,.agg #[.int .i64 r.pc,.int .i64 r.ev,.bool (aI r.acc 0),.bool (aI r.acc 1),.bool (aI r.acc 2),.bool (aI r.acc 3),.bool (aI r.acc 4),.bool (aI r.acc 5),.bool (aI r.acc 6),.int .i64 r.fr,.int .i64 r.mn,.int .i64 r.mi,.int .i64 r.ti,.int .i64 r.un],.func (.func (iB r)) #[] #[.pointer (Ve ⟨w.heap.size+5,0,Vd⟩)],.int .i64 x,undef,undef,undef,undef,undef,undef,undef,undef,undef,undef,undef,undef,undef,undef],defers:=[] }) ?assign ?body ?done ?stop
  case assign =>
   intro l x W K j
   gi_wp2
   exact j
  case body =>
   rintro l pre x W h aq;obtain⟨v,q,a⟩:=h.d;have av:=h.l.cell;have au:=h.m.cell;have aw:=q.cell;have ao:=h.ml;have HI:=aC h;obtain⟨a0,t,rfl⟩:=pF a;have an:w.heap.size+6<=W.heap.size:=h.sz
   by_cases c1:727<x
   ·clear h a q
    gi_wp2
    exact⟨Zx _ _,rfl,pre,x,rfl,HI.out,.inl c1⟩
   ·by_cases P:(pre.length:U9)=r.ti
    ·have af:((pre.length:U9)==r.ti)=Vg:=by simpa using P
     have C2:=aC P;clear h a q P
     gi_wp2
     exact⟨Zx _ _,rfl,pre,x,rfl,HI.out,.inr C2.out⟩
    ·have af:((pre.length:U9)==r.ti)=Vf:=by simpa using P
     clear h
     gi_wp2_with (first
      |(gi_at_builtin;refine wpListIn_append_own _ rfl _ _ 38 rfl (w.heap.size+6) 3 i0 (.int .i64 0) 1 8 underlying38 ak aj ai ag rfl UW _ _ _ rfl (a.alloc _) ⟨W.heap.size,0,Vd⟩ 1 1 [.int .i64 x] rfl rfl (cell_one_new _ _ _) U2 U1 UU U0 ?_;intro v' w1 g C _;obtain⟨g',al,rfl⟩:=ownsRow_succ g;obtain⟨F,ab,aa,ac⟩:=F0 HI.out q a g C UU UU;have ax:=F.cell;have ar:=F.frozen))
     exact⟨ab,aa,ac⟩
  case done =>
   rintro D ys W hD rfl h j
   have ED:Hid (Rd.fG r=Rd.seq r):=by
    show Rd.fG r=Rd.seq r;have h0:=h.ml;rw[yG,S.out.1,S.out.2];exact sH (fun y hy=>by simpa using h.le y hy) UU
   obtain⟨v,q,a⟩:=h.d;have hc:=q.cell;have hb:=h.bl;obtain⟨a0,t,rfl⟩:=pF a;clear h
   go_wp2_with fail
   refine⟨by simp,.inl ⟨_,_,rfl,run_takeDeferred j,?_⟩⟩;refine⟨_,results_tmp rfl _ _ _,_,rfl,?_,hb.trans (belowK_b (w:=w) (zq _) W D _ _ UU j rfl rfl)⟩;rw[ED.out];exact ownsRow_putObj (vy a UU) _ j rfl
  case stop =>
   rintro D c o W hD ae ⟨rfl,pre,x,rfl,h,hx⟩ j
   have ED:Hid (Rd.fG r=pre):=by
    obtain⟨rest,z⟩:=ae;show Rd.fG r=pre;have h0:=h.ml;rw[yG,S.out.1,S.out.2,<- z,VZ];exact Im (fun y hy=>by simpa using h.le y hy) UU (hx.imp (fun e=>by simpa using e) (fun e=>by omega))
   obtain⟨v,q,a⟩:=h.d;have hc:=q.cell;have hb:=h.bl;obtain⟨a0,t,rfl⟩:=pF a;clear h;refine wpIn_wide.2 ?_
   go_wp2_with fail
   refine⟨by simp,.inl ⟨_,_,rfl,run_takeDeferred j,?_⟩⟩;refine⟨_,results_tmp rfl _ _ _,_,rfl,?_,hb.trans (belowK_b (w:=w) (zq _) W D _ _ UU j rfl rfl)⟩;rw[ED.out];exact ownsRow_putObj (vy a UU) _ j rfl
 ·have M:sY r=r.un/\sW r=41:=by unfold sY sW;rw[Va N,Va N];exact⟨rfl,rfl⟩
  have HY:Hid (yN w ((((w.alloc (bN r)).alloc (.cells #[.int .i64 r.un] 3)).alloc (.cells #[.int .i64 41] 3)).alloc (.cells #[.slice Vd 0 0] 38)) r r.un 41):=Dw w r r.un 41;have S:=aC M;clear M
  go_upto_region 5 with fail
  change Za _ _ _ _ ((((w.alloc (bN r)).alloc (.cells #[.int .i64 r.un] 3)).alloc (.cells #[.int .i64 41] 3)).alloc (.cells #[.slice Vd 0 0] 38));generalize (((w.alloc (bN r)).alloc (.cells #[.int .i64 r.un] 3)).alloc (.cells #[.int .i64 41] 3)).alloc (.cells #[.slice Vd 0 0] 38)=Y at HY ⊢;obtain⟨f,H,G,I,J,E⟩:=HY.out;have R:=aC (I7 r Y);have HZ:=aC (GD (r:=r) H G I J E);have TZ:Hid (gA ((Y.alloc (bN r)).alloc (bN r))):=pU ht (HZ.out UU).bl O;rw[E] at R;unfold ik at R;have x0:=tL f;have x1:=oK f;have x2:=tM f;have x3:=tN f;have x4:=tO f;have x5:=tP f;have x6:=tQ f;have x7:=tR f;have x8:=tT f;have x9:=pQ f;have X:=vK f;have V:=vL f;have U:=vM f;have T:=vO f;clear f H G I J HY
  go_wp2_with (first
   |(go_at_call 249;refine R.out.mono ?_;rintro e w1 ⟨rfl,rfl⟩))
  clear R x0 x1 x2 x3 x4 x5 x6 x7 x8 x9 X V U T;have ad:((Y.alloc (bN r)).alloc (bN r)).heap.size=w.heap.size+6:=by simp[E]
  generalize (Y.alloc (bN r)).alloc (bN r)=Z at HZ TZ ad ⊢;have hF:=HZ.out UU;have HS:=aC (GJ 2 UU (w.heap.size+5) w.heap.size O r hf Z UU UU TZ.out hF.ru);refine (wpIn_wide (n:=3)).1 ?_
  refine wpIn_rangeFunc_ownG rfl UU (gf:=iB r) (lb:=#[.pointer (Ve ⟨w.heap.size+5,0,Vd⟩)]) rfl trivial (Hg r) HS.out (fun h k=>RK.trans h k) (RK.put UU UU) (zr _ _) (fun _=>rfl)
   (fun pre W=>FD w W r r.un 41 pre) (fun c o W=>c=.exit 0/\∃ pre x,o=pre++[x]/\FD w W r r.un 41 pre/\(r.un<x\/(pre.length:U9)=41))
   (xA w r r.un 41 UU) (fun c s A B row hs hg hr=>by obtain⟨e,pre,x,e2,h,h3⟩:=hs;exact⟨e,pre,x,e2,xA w r r.un 41 UU pre A B row h hg hr,h3⟩) hF
   (fun x=>{ tmps:=#[.agg #[.int .i64 r.pc,.int .i64 r.ev,.bool (aI r.acc 0),.bool (aI r.acc 1),.bool (aI r.acc 2),.bool (aI r.acc 3),.bool (aI r.acc 4),.bool (aI r.acc 5),.bool (aI r.acc 6),.int .i64 r.fr,.int .i64 r.mn,.int .i64 r.mi,.int .i64 r.ti,.int .i64 r.un],.pointer (Ve ⟨w.heap.size,0,Vd⟩),.slice Vd 0 0,.pointer (Ve ⟨w.heap.size+1,0,Vd⟩),.pointer (Ve ⟨w.heap.size+1+1,0,Vd⟩),.pointer (Ve ⟨w.heap.size+1+1+1,0,Vd⟩),.int .i64 x,.pointer (Ve ⟨w.heap.size,13,Vd⟩),.int .i64 r.un,.pointer (Ve ⟨w.heap.size,12,Vd⟩),.int .i64 r.ti,.bool Vf,undef,undef,.agg #[.int .i64 r.pc,.int .i64 r.ev,.bool (aI r.acc 0),.bool (aI r.acc 1),.bool (aI r.acc 2),.bool (aI r.acc 3),.bool (aI r.acc 4),.bool (aI r.acc 5),.bool (aI r.acc 6),.int .i64 r.fr,.int .i64 r.mn,.int .i64 r.mi,.int .i64 r.ti,.int .i64 r.un],.func (.func (iB r)) #[] #[.pointer (Ve ⟨w.heap.size+5,0,Vd⟩)],.int .i64 x,undef,undef,undef,undef,undef,undef,undef,undef,undef,undef,undef,undef,undef,undef],defers:=[] }) ?assign ?body ?done ?stop
  case assign =>
   intro l x W K j
   gi_wp2
   exact j
  case body =>
   rintro l pre x W h aq;obtain⟨v,q,a⟩:=h.d;have av:=h.l.cell;have au:=h.m.cell;have aw:=q.cell;have ao:=h.ml;have HI:=aC h;obtain⟨a0,t,rfl⟩:=pF a;have an:w.heap.size+6<=W.heap.size:=h.sz
   by_cases c1:r.un<x
   ·clear h a q
    gi_wp2
    exact⟨Zx _ _,rfl,pre,x,rfl,HI.out,.inl c1⟩
   ·by_cases P:(pre.length:U9)=41
    ·have af:((pre.length:U9)==41)=Vg:=by simpa using P
     have C2:=aC P;clear h a q P
     gi_wp2
     exact⟨Zx _ _,rfl,pre,x,rfl,HI.out,.inr C2.out⟩
    ·have af:((pre.length:U9)==41)=Vf:=by simpa using P
     clear h
     gi_wp2_with (first
      |(gi_at_builtin;refine wpListIn_append_own _ rfl _ _ 38 rfl (w.heap.size+6) 3 i0 (.int .i64 0) 1 8 underlying38 ak aj ai ag rfl UW _ _ _ rfl (a.alloc _) ⟨W.heap.size,0,Vd⟩ 1 1 [.int .i64 x] rfl rfl (cell_one_new _ _ _) U2 U1 UU U0 ?_;intro v' w1 g C _;obtain⟨g',al,rfl⟩:=ownsRow_succ g;obtain⟨F,ab,aa,ac⟩:=F0 HI.out q a g C UU UU;have ax:=F.cell;have ar:=F.frozen))
     exact⟨ab,aa,ac⟩
  case done =>
   rintro D ys W hD rfl h j
   have ED:Hid (Rd.fG r=Rd.seq r):=by
    show Rd.fG r=Rd.seq r;have h0:=h.ml;rw[yG,S.out.1,S.out.2];exact sH (fun y hy=>by simpa using h.le y hy) UU
   obtain⟨v,q,a⟩:=h.d;have hc:=q.cell;have hb:=h.bl;obtain⟨a0,t,rfl⟩:=pF a;clear h
   go_wp2_with fail
   refine⟨by simp,.inl ⟨_,_,rfl,run_takeDeferred j,?_⟩⟩;refine⟨_,results_tmp rfl _ _ _,_,rfl,?_,hb.trans (belowK_b (w:=w) (zq _) W D _ _ UU j rfl rfl)⟩;rw[ED.out];exact ownsRow_putObj (vy a UU) _ j rfl
  case stop =>
   rintro D c o W hD ae ⟨rfl,pre,x,rfl,h,hx⟩ j
   have ED:Hid (Rd.fG r=pre):=by
    obtain⟨rest,z⟩:=ae;show Rd.fG r=pre;have h0:=h.ml;rw[yG,S.out.1,S.out.2,<- z,VZ];exact Im (fun y hy=>by simpa using h.le y hy) UU (hx.imp (fun e=>by simpa using e) (fun e=>by omega))
   obtain⟨v,q,a⟩:=h.d;have hc:=q.cell;have hb:=h.bl;obtain⟨a0,t,rfl⟩:=pF a;clear h;refine wpIn_wide.2 ?_
   go_wp2_with fail
   refine⟨by simp,.inl ⟨_,_,rfl,run_takeDeferred j,?_⟩⟩;refine⟨_,results_tmp rfl _ _ _,_,rfl,?_,hb.trans (belowK_b (w:=w) (zq _) W D _ _ UU j rfl rfl)⟩;rw[ED.out];exact ownsRow_putObj (vy a UU) _ j rfl
def eI(r:Rd.bL):U5 U9:=if Rd.fe r=0 then Rd.fG r else []
theorem Uk{r:Rd.bL}(h:Rd.fw r)(a:x∈Rd.fG r):0<=x/\x<728:=by
 have c:=h.f0;rw[Rd.Hx h] at a
 split at a
 ·have:=Rd.sI h a;omega
 ·have:=Rd.sI h (List.mem_of_mem_take a);omega
theorem Qc{l:U5 U9}(h:l≠[]):l[l.length-1]?=Ve (l.getLastD 0):=by
 rw[<- List.getLast?_eq_getElem?,Zy h,Zz,Zy h];rfl
theorem Ps(r:Rd.bL)(h:Rd.fw r):(Rd.fG r).length<=99:=by
 have:=h.t1;unfold Rd.fG
 split
 ·rw[Yp];omega
 ·rw[Yp];omega
theorem Om{size:U8}(h:w.ownsRow B e size v n xs)(k:Vj w.heap.size w w'):w'.ownsRow B e size v n xs:=by
 refine⟨h.1,h.2.imp id (fun ⟨g,cap,a,o,j,c,f⟩=>⟨g,cap,a,o,j,(k.block g (Y9.1 c).1).trans c,f⟩)⟩
theorem Gc{size:U8}(h:w.ownsRow B e size v n xs):w.drew.ownsRow B e size v n xs:=⟨h.1,h.2⟩
theorem Gi(r:Rd.bL)(Y:Rd.fw r)(w:Vh)(ht:gA w)(ab:10<=w.heap.size):
  Vk prog 147 #[ik r] w fun e w'=>∃ v,e=.returned (.tuple #[v,.int .i64 (Rd.fe r)])/\w'.ownsRow w.heap.size 3 1 v (eI r).length ((eI r).map (V4 .i64))/\Vj w.heap.size w w':=by
 have hX:Vj w.heap.size w (w.alloc (bN r)):=(zr _ _).alloc (zq _) _;have f:=Zu w (bN r);have hs:(w.alloc (bN r)).heap.size=w.heap.size+1:=UV
 have FI:=aC (T6 r Y (w.alloc (bN r)) (pU ht hX ab) (by rw[hs];omega));have x0:=tL f;have x1:=oK f;have x2:=tM f;have x3:=tN f;have x4:=tO f;have x5:=tP f;have x6:=tQ f;have x7:=tR f;have x8:=tT f;have x9:=pQ f;have V:=vK f;have U:=vL f;have T:=vM f;have S:=vO f;have HX:=aC (zA hX (zA hs f));have ae:=Ps r Y;have HF:=aC Y;have C:Hid (Rd.fe r=if 40<r.ti then 11 else if 40<(Rd.fG r).length then 11 else if Rd.fG r=[]\/((Rd.fG r).length:U9)<r.ti then 6 else if Rd.lV r ((Rd.fG r).getLastD 0) then 6 else 0):=rfl;have E:Hid (eI r=if Rd.fe r=0 then Rd.fG r else []):=rfl;have t1:=Y.t1;clear hX f hs ht Y;unfold ik at *
 by_cases c1:40<r.ti
 ·have c:Rd.fe r=11:=by rw[C.out,Vb c1]
  have o:eI r=[]:=by rw[E.out,c];simp
  rw[c,o];clear FI C E c o
  go_in
  go_upto_region 1 with fail
  change Za _ _ _ _ (w.alloc (bN r));generalize w.alloc (bN r)=X at *
  go_wp2_with fail
  exact bodyPost_ret (v:=.tuple #[.slice Vd 0 0,.int .i64 11]) (by simp[results,results147,go_sem]) rfl ⟨_,rfl,WK _ _ _ _,HX.out.1⟩
 ·rw[Va c1] at C
  go_in
  go_upto_region 1 with fail
  change Za _ _ _ _ (w.alloc (bN r));generalize w.alloc (bN r)=X at *
  go_upto_region 4 with (first
   |(go_at_call 199;refine FI.out.mono ?_;rintro e w1 ⟨v,rfl,own,g⟩))
  obtain⟨a,cap,rfl⟩:=pF own;have F:Hid (Vj w.heap.size w w1):=HX.out.1.trans (g.mono (by rw[HX.out.2.1];omega));have OW:Hid (w1.ownsRow w.heap.size 3 1 (.slice a (Rd.fG r).length cap) (Rd.fG r).length ((Rd.fG r).map (V4 .i64))):=vy own (by rw[HX.out.2.1];omega);have MB:Hid (∀ x∈Rd.fG r,0<=x/\x<728):=fun x hx=>Uk HF.out hx
  have R:=aN g x0;have P:=aN g x1;have O:=aN g x2;have N:=aN g x3;have M:=aN g x4;have K:=aN g x5;have J:=aN g x6;have I:=aN g x7;have H:=aN g x8;have G:=aN g x9;have y:=aN g V;have t:=aN g U;have D:=aN g T;have q:=aN g S;clear FI x0 x1 x2 x3 x4 x5 x6 x7 x8 x9 V U T S own g HX;generalize Rd.fG r=L at *
  by_cases A:40<L.length
  ·have c:Hid (Rd.fe r=11):=by show Rd.fe r=11;rw[C.out,Vb A]
   have o:Hid (eI r=[]):=by show eI r=[];rw[E.out,c.out];simp
   have ad:(40:U9)<(L.length:U9):=UU
   clear R P O N M K J I H G y t D q A
   go_wp2_with fail
   exact bodyPost_ret (v:=.tuple #[.slice Vd 0 0,.int .i64 11]) (by simp[results,results147,go_sem]) rfl ⟨_,by rw[c.out],by rw[o.out];exact WK _ _ _ _,F.out⟩
  ·have ad:¬ (40:U9)<(L.length:U9):=UU
   by_cases z:L=[]
   ·have c:Hid (Rd.fe r=6):=by show Rd.fe r=6;rw[C.out,Va A,Vb (.inl z)]
    have o:Hid (eI r=[]):=by show eI r=[];rw[E.out,c.out];simp
    have ac:((L.length:U9)==0)=Vg:=by rw[z];rfl
    clear R P O N M K J I H G y t q z A
    go_wp2_with fail
    exact bodyPost_ret (v:=.tuple #[.slice Vd 0 0,.int .i64 6]) (by simp[results,results147,go_sem]) rfl ⟨_,by rw[c.out],by rw[o.out];exact WK _ _ _ _,F.out⟩
   ·have h0:0<L.length:=ZA.2 z;have ac:((L.length:U9)==0)=Vf:=by simp;omega
    by_cases c4:(L.length:U9)<r.ti
    ·have c:Hid (Rd.fe r=6):=by show Rd.fe r=6;rw[C.out,Va A,Vb (.inr c4)]
     have o:Hid (eI r=[]):=by show eI r=[];rw[E.out,c.out];simp
     clear R P O N M K J I H G y t q z A
     go_wp2_with fail
     exact bodyPost_ret (v:=.tuple #[.slice Vd 0 0,.int .i64 6]) (by simp[results,results147,go_sem]) rfl ⟨_,by rw[c.out],by rw[o.out];exact WK _ _ _ _,F.out⟩
    ·obtain⟨Hh,af,e0⟩:=Yq OW.out UU;simp only[Yr,true_and] at e0;obtain⟨rfl,rfl⟩:=e0;have a0:=OW.out.cellAt (L.length-1) UU;rw[Ys,Qc z,Yt] at a0;have hl:=MB.out (L.getLastD 0) (by rw[Zz,Zy z];exact List.getLast_mem z);have SO:=aC (Iy r HF.out (L.getLastD 0) hl.1 UU w1.drew);have aa:Hid (Rd.fe r=if Rd.lV r (L.getLastD 0) then 6 else 0):=by show Rd.fe r=_;rw[C.out,Va A,Va (by rintro (h|h) <;> contradiction)]
     have LB:Hid (Rd.lV r (L.getLastD 0)=decide (1048320<(jL r (L.getLastD 0)).2)):=rfl;have k1:Vp.wrap ((L.length:U9)-1)=((L.length-1:U8):U9):=by rw[show (L.length:U9)-1=((L.length-1:U8):U9) from by omega];exact cG UU UU
     have k2:((L.length-1:U8):U9)<(L.length:U9):=UU
     generalize (jL r (L.getLastD 0)).2=til at *;generalize (jL r (L.getLastD 0)).1=fro at *;generalize L.getLastD 0=ld at *;unfold ik at SO;clear z hl A MB C;have ag:∀ w:Vh,(Instr.field 60 (.agg #[.int .i64 fro,.int .i64 til]) 1).run prog w=.ok (.int .i64 til) w:=fun _=>by kernel_rfl
     by_cases c5:1048320<til
     ·have c:Hid (Rd.fe r=6):=by show Rd.fe r=6;rw[aa.out,LB.out];simp[c5]
      have o:Hid (eI r=[]):=by show eI r=[];rw[E.out,c.out];simp
      go_upto_region 9 with fail
      go_region_with (first
       |(go_at_call 200;refine SO.out.mono ?_;rintro e w2 ⟨rfl,j⟩))
      all_goals
       have BF:Hid (Vj w.heap.size w w2):=F.out.drew.trans (j.mono F.out.size);clear j R P O N M K J I H G y t D q a0
       go_wp2_with fail
       exact bodyPost_ret (v:=.tuple #[.slice Vd 0 0,.int .i64 6]) (by simp[results,results147,go_sem]) rfl ⟨_,by rw[c.out],by rw[o.out];exact WK _ _ _ _,BF.out⟩
     ·have c:Hid (Rd.fe r=0):=by show Rd.fe r=0;rw[aa.out,LB.out];simp[c5]
      have o:Hid (eI r=L):=by show eI r=L;rw[E.out,c.out];simp
      go_upto_region 9 with fail
      go_region_with (first
       |(go_at_call 200;refine SO.out.mono ?_;rintro e w2 ⟨rfl,j⟩))
      all_goals
       have BF:Hid (Vj w.heap.size w w2/\w2.ownsRow w.heap.size 3 1 (.slice (Ve ⟨Hh,0,Vd⟩) L.length cap) L.length (L.map (V4 .i64))):=⟨F.out.drew.trans (j.mono F.out.size),Om (w:=w1.drew) (Gc OW.out) j⟩;clear j R P O N M K J I H G y t D q a0
       go_wp2_with fail
       exact bodyPost_ret (v:=.tuple #[.slice (Ve ⟨Hh,0,Vd⟩) L.length cap,.int .i64 0]) (by simp[results,results147,go_sem]) rfl ⟨_,by rw[c.out],by rw[o.out];exact BF.out.2,BF.out.1⟩
theorem dS.pG{r:Raw}(h:dS w d s r aM)(k:Vj w.heap.size w Z)(y:w.heap.size<=Q){l:U5 U9}{t:Vi}(own:Z.ownsRow (Q+1) 3 1 t l.length (l.map (V4 .i64)))(n:U9)(a b c e f g i:Vi):
  dX w d aM (s,⟨0,0,n,[],l,[],[]⟩) (bC 0 0 n (.slice Vd 0 0) t (.slice Vd 0 0) (.slice Vd 0 0)) (cK Z Q a b c e f g i):=by
 have q:=lF Z Q a b c e f g i;have z:=h.dk.later k;have nq:∀ b,Q<=b->aM b=Vd:=fun b o=>h.dk.none UU
 have st:Step anyS w.heap.size aM aM Z (cK Z Q a b c e f g i):=⟨⟨_,q,fun x j=>.inr (by have:x=Q:=YD.1 j;subst this;exact⟨nq _ (zq _),y⟩)⟩,fun _ _ h=>h,fun _ _ h=>.inl h⟩
 have rp:kv Z (Q+1) aM (bC 0 0 n (.slice Vd 0 0) t (.slice Vd 0 0) (.slice Vd 0 0)) ⟨0,0,n,[],l,[],[]⟩ :=
  ⟨_,_,_,_,[],rfl,rfl,gI.nil _ _ _,⟨own,fun b o=>nq b (by have:=(own.lt b o).1;omega)⟩,eD.nil _ _ _,eD.nil _ _ _,(fun b o=>by cases o),fun b _=>by simp[WI]⟩
 exact⟨r,aM,z.off q (fun x j=>by have:x=Q:=YD.1 j;subst this;exact nq _ (zq _)),h.of,h.wl,h.hl,(Step.below k).trans st,(rp.off q (fun x j=>by have:x=Q:=YD.1 j;omega)).base UU⟩
theorem Ux{r:Rd.bL}(a:Rd.fw r)(h:Rd.fe r≠0):aA.aU s (.expand r)=(s,aA.bO.error (Rd.fe r)):=by
 have e:=(Rd.pM a).1;simp only[aA.aU];rw[<- e,Vb h]
theorem S9{r:Rd.bL}(c:Rd.fw r)(h:Rd.fe r=0):aA.aU s (.expand r)=(s,⟨0,0,((eI r).length:U9),[],eI r,[],[]⟩):=by
 obtain⟨a,j⟩:=Rd.pM c;have g:=(j (by rw[<- a];exact h)).1;have f:eI r=Rd.bH r:=by unfold eI;rw[Vb h,g]
 simp only[aA.aU];rw[<- a,Va UU,f];rfl
theorem QW(w:Vh)(r:Rd.bL):let X:=((w.alloc (.cells #[.int .i64 r.pc,.int .i64 r.ev,.bool (aI r.acc 0),.bool (aI r.acc 1),.bool (aI r.acc 2),.bool (aI r.acc 3),.bool (aI r.acc 4),.bool (aI r.acc 5),.bool (aI r.acc 6),.int .i64 r.fr,.int .i64 r.mn,.int .i64 r.mi,.int .i64 r.ti,.int .i64 r.un] 180)).alloc aX);Vj w.heap.size w X/\X.heap[w.heap.size+1]?=Ve aX/\X.heap.size=w.heap.size+2/\X.heap[w.heap.size]?=Ve (.cells #[.int .i64 r.pc,.int .i64 r.ev,.bool (aI r.acc 0),.bool (aI r.acc 1),.bool (aI r.acc 2),.bool (aI r.acc 3),.bool (aI r.acc 4),.bool (aI r.acc 5),.bool (aI r.acc 6),.int .i64 r.fr,.int .i64 r.mn,.int .i64 r.mi,.int .i64 r.ti,.int .i64 r.un] 180 (0,0)):=by
 obtain⟨c,a⟩:=yJ (w:=w) (.cells #[.int .i64 r.pc,.int .i64 r.ev,.bool (aI r.acc 0),.bool (aI r.acc 1),.bool (aI r.acc 2),.bool (aI r.acc 3),.bool (aI r.acc 4),.bool (aI r.acc 5),.bool (aI r.acc 6),.int .i64 r.fr,.int .i64 r.mn,.int .i64 r.mi,.int .i64 r.ti,.int .i64 r.un] 180);exact⟨c,a,by simp,(Below.heap_alloc _ _ _ UV).trans (Zu w _)⟩
theorem Sn(h:dS w d s rw_ aM)(ht:gA w)(T:10<=w.heap.size)(r:Rd.bL)(z:Rd.fw r):
  Vk prog 102 #[.agg #[.int .i64 r.pc,.int .i64 r.ev,.bool (aI r.acc 0),.bool (aI r.acc 1),.bool (aI r.acc 2),.bool (aI r.acc 3),.bool (aI r.acc 4),.bool (aI r.acc 5),.bool (aI r.acc 6),.int .i64 r.fr,.int .i64 r.mn,.int .i64 r.mi,.int .i64 r.ti,.int .i64 r.un]] w fun e w'=>∃ v,e=.returned v/\dX w d aM (aA.aU s (.expand r)) v w':=by
 obtain⟨S,y,o,j⟩:=QW w r;have DY:=aC (Gi r z ((w.alloc (.cells #[.int .i64 r.pc,.int .i64 r.ev,.bool (aI r.acc 0),.bool (aI r.acc 1),.bool (aI r.acc 2),.bool (aI r.acc 3),.bool (aI r.acc 4),.bool (aI r.acc 5),.bool (aI r.acc 6),.int .i64 r.fr,.int .i64 r.mn,.int .i64 r.mi,.int .i64 r.ti,.int .i64 r.un] 180)).alloc aX) (pU ht S T) (by rw[o];omega));have HE:=aC (Ux (s:=s) z);have Y:=aC (S9 (s:=s) z);have HH:=aC h;have t:=aC (zA S (zA y o));have x0:=aZ j 0 rfl;have x1:=aZ j 1 rfl;have x2:=aZ j 2 rfl;have x3:=aZ j 3 rfl;have x4:=aZ j 4 rfl;have x5:=aZ j 5 rfl;have x6:=aZ j 6 rfl;have x7:=aZ j 7 rfl;have x8:=aZ j 8 rfl;have x9:=aZ j 9 rfl;have F:=aZ j 10 rfl;have E:=aZ j 11 rfl;have D:=aZ j 12 rfl;have C:=aZ j 13 rfl;unfold ik at DY;clear h S y o j z ht
 go_in
 go_upto_region 1 with fail
 change Za _ _ _ _ ((w.alloc (.cells #[.int .i64 r.pc,.int .i64 r.ev,.bool (aI r.acc 0),.bool (aI r.acc 1),.bool (aI r.acc 2),.bool (aI r.acc 3),.bool (aI r.acc 4),.bool (aI r.acc 5),.bool (aI r.acc 6),.int .i64 r.fr,.int .i64 r.mn,.int .i64 r.mi,.int .i64 r.ti,.int .i64 r.un] 180)).alloc aX);generalize ((w.alloc (.cells #[.int .i64 r.pc,.int .i64 r.ev,.bool (aI r.acc 0),.bool (aI r.acc 1),.bool (aI r.acc 2),.bool (aI r.acc 3),.bool (aI r.acc 4),.bool (aI r.acc 5),.bool (aI r.acc 6),.int .i64 r.fr,.int .i64 r.mn,.int .i64 r.mi,.int .i64 r.ti,.int .i64 r.un] 180)).alloc aX)=X at *
 go_upto_region 2 with (first
  |(go_at_call 147;refine DY.out.mono ?_;rintro e w1 ⟨da,rfl,own,R⟩))
 obtain⟨a1,cap,rfl⟩:=pF own;have BX:Hid (Vj w.heap.size w w1):=t.out.1.trans (R.mono t.out.1.size);have QX:Hid (Q7 w1 (w.heap.size+1)):=(Q7.of t.out.2.1).later (R.block _ (by rw[t.out.2.2];omega));have V:Hid (w1.ownsRow (w.heap.size+1+1) 3 1 (.slice a1 (eI r).length cap) (eI r).length ((eI r).map (V4 .i64))):=by have:=own;rw[t.out.2.2] at this;exact this
 clear DY x0 x1 x2 x3 x4 x5 x6 x7 x8 x9 F E D C own R t
 by_cases q:Rd.fe r=0
 ·have A:=aC (Y.out q);have P:(Rd.fe r != 0)=Vf:=by simpa using q
  have AF:Hid (∀ a b c e f g i,dX w d aM (aA.aU s (.expand r)) (bC 0 0 ((eI r).length:U9) (.slice Vd 0 0) (.slice a1 (eI r).length cap) (.slice Vd 0 0) (.slice Vd 0 0)) (cK w1 (w.heap.size+1) a b c e f g i)):=fun a b c e f g i=>by rw[A.out];exact HH.out.pG BX.out UU V.out _ a b c e f g i
  clear HE Y A V;generalize (eI r).length=nn at *;generalize Rd.fe r=er at *;subst q;obtain⟨N,M,K,J,I,H,G,U⟩:=QX.out
  go_wp2_with fail
  exact cO results102 ⟨N,M,K,J,I,H,G,U⟩ ⟨_,rfl,AF.out _ _ _ _ _ _ _⟩
 ·have A:=aC (HE.out q);have P:(Rd.fe r != 0)=Vg:=by simpa using q
  clear HE Y V q;generalize Rd.fe r=er at *
  go_wp2_with fail
  refine (lI er w1).mono ?_;rintro e w2 ⟨rfl,O⟩;have HF:=aC (HH.out.refuse BX.out QX.out O A.out);obtain⟨N,M,K,J,I,H,G,U⟩:=HF.out.1;simp only[bC]
  go_wp2_with fail
  exact cO results102 ⟨N,M,K,J,I,H,G,U⟩ ⟨_,rfl,HF.out.2⟩
theorem TY(h:dS w d s rw_ aM)(ht:gA w)(D:10<=w.heap.size)(r:Rd.bL)(F:Rd.fw r):
  Vk prog 64 #[.pointer (Ve ⟨d,0,Vd⟩),.iface 180 (.agg #[.int .i64 r.pc,.int .i64 r.ev,.bool (aI r.acc 0),.bool (aI r.acc 1),.bool (aI r.acc 2),.bool (aI r.acc 3),.bool (aI r.acc 4),.bool (aI r.acc 5),.bool (aI r.acc 6),.int .i64 r.fr,.int .i64 r.mn,.int .i64 r.mi,.int .i64 r.ti,.int .i64 r.un])] w fun e w'=>∃ v,e=.returned v/\dX w d aM (aA.aU s (.expand r)) v w':=by
 have E:=aC (h.qa (.cells #[.int .i64 r.pc,.int .i64 r.ev,.bool (aI r.acc 0),.bool (aI r.acc 1),.bool (aI r.acc 2),.bool (aI r.acc 3),.bool (aI r.acc 4),.bool (aI r.acc 5),.bool (aI r.acc 6),.int .i64 r.fr,.int .i64 r.mn,.int .i64 r.mi,.int .i64 r.ti,.int .i64 r.un] 180));have G:=aC (Sn E.out.1 (pU ht E.out.2.1 D) (Vq D E.out.2.1.size) r F);clear h;unfold aX at G E;have o:=qu 180 UW;have C:=sb 180 UW;have z:=sd 180 UW;have q:=rZ 180 UW;have g:=tz 180 UW;have f:=tw 180 UW;have j:=vb 180 UW;have y:=wT 180 UW;have c:=xf 180 UW;have t:=Ab 180 UW;have A:=Ei 180 UW;have a:=ph underlying180
 go_in
 go_wp2_with fail
 refine G.out.mono ?_;rintro e U ⟨v,rfl,H⟩;obtain⟨er,at_,V,a1,a2,a3,a4,n1,n2,Y,X,c1,c2,c3,c4,rfl,I,F⟩:=H.pW E.out.2;have T:=aC F;clear H F G o C z q g f j y c t A a;obtain⟨R,P,O,N,M,K,J,S⟩:=I;simp only[bC]
 go_wp2_with fail
 exact cO results64 ⟨R,P,O,N,M,K,J,S⟩ ⟨_,rfl,T.out⟩
theorem Fy:∀ (L:U5 (U9 × U9))(j:U8)(u:Vi),(L.flatMap fC)[j]?=Ve u->∃ (i:U8)(h:i<L.length),(j=i*2/\u=.int .i64 L[i].1)\/(j=i*2+1/\u=.int .i64 L[i].2)
 |[],j,u,h=>by simp at h
 |p :: L,0,u,h=>by
  refine⟨0,by simp,.inl ⟨rfl,?_⟩⟩;simp[fC] at h;exact h.symm
 |p :: L,1,u,h=>by
  refine⟨0,by simp,.inr ⟨rfl,?_⟩⟩;simp[fC] at h;exact h.symm
 |p :: L,j+2,u,h=>by
  have c:(L.flatMap fC)[j]?=Ve u:=by simpa[fC] using h
  obtain⟨i,g,e⟩:=Fy L j u c;refine⟨i+1,by simp;omega,?_⟩;rcases e with ⟨f,a⟩|⟨f,a⟩
  ·exact .inl ⟨by omega,by simpa using a⟩
  ·exact .inr ⟨by omega,by simpa using a⟩
theorem IF(L:U5 (U9 × U9)):(L.flatMap fC).length=L.length*2:=by
 induction L with
 |nil=>rfl
 |cons p L ih=>simp[fC,ih];omega
theorem Sq(L:U5 (U9 × U9)):∀ u∈L.flatMap fC,u.oneCell'=Vg:=by
 intro u c;obtain⟨p,_,a⟩:=List.mem_flatMap.1 c;simp[fC] at a;rcases a with rfl|rfl <;> rfl
theorem TB(w:Vh)(B cap:U8)(L:U5 (U9 × U9))(z:SL w B L)(I:L.length<=100):
  Vk prog 210 #[.slice (Ve ⟨B,0,Vd⟩) L.length cap] w fun e w'=>∃ v,e=.returned v/\w'.ownsRow w.heap.size 60 2 v L.length (L.flatMap fC)/\Vj w.heap.size w w':=by
 obtain⟨F,t,r,q,o⟩:=info_parts vj;have E:∀ (w:Vh) (a:U6 Addr) (n c h y:U8),(binOp .eql 56 (.slice a n c) (.slice Vd h y)).run prog w=.ok (.bool a.isNone) w:=fun w a n c h y=>Lib.run_eql_slice_nil w _ _ a n c h y underlying56
 have D:=aC z;clear z
 go_in
 go_wp2_with (at_builtin;refine wpList_append_own _ rfl _ _ 56 rfl w.heap.size 60 F _ 2 16 underlying56 t r q o rfl UW _ _ _ rfl (World.ownsRow_made w #[] 0 (zq _) (zN _) rfl) ⟨B,0,Vd⟩ L.length cap (L.flatMap fC) rfl ?qc1 ?qc2 ?qc3 ?qc4 ?qc5 ?qc6 ?_)
 case qc1=>exact IF L
 case qc2 =>
  intro j u H;rw[Addr.add_lit];refine Lib.cell?_alloc_some _ ?_;obtain⟨i,C,⟨rfl,rfl⟩|⟨rfl,rfl⟩⟩:=Fy L j u H
  ·have:=(D.out i C).1
   simpa using this
  ·have:=(D.out i C).2
   simpa using this
 case qc3=>exact Sq L
 case qc4=>unfold maxLen;omega
 case qc5=>omega
 case qc6=>simp
 intro v' w1 g f A;go_wp2;go_ret;refine⟨v',rfl,by simpa using g,?_⟩;exact ((zr _ w).alloc (zq _) _).grown f UV (by intro k G;simp[WI] at G;omega)
def ja:Obj:=.cells #[.int .i64 0,.int .i64 0,.string YN,.int .i64 0,.slice Vd 0 0,.int .i64 0] 58 (0,0)
def nY(e:aL)(v:Vi):Vi:=.agg #[.int .i64 e.id,.int .i64 e.kind,.string e.aT,.int .i64 e.aH,v,.int .i64 e.bY]
def tF(Z:Vh)(Q:U8)(a b c d e f:Vi):Vh:=(((((Z.setCell ⟨Q,0,Vd⟩ a).setCell ⟨Q,1,Vd⟩ b).setCell ⟨Q,2,Vd⟩ c).setCell ⟨Q,3,Vd⟩ d).setCell ⟨Q,4,Vd⟩ e).setCell ⟨Q,5,Vd⟩ f
theorem GC(Z:Vh)(Q:U8)(a b c d e f:Vi):aF [Q] Z (tF Z Q a b c d e f) :=
 ((((((aF.refl [Q] Z).setCell (.inl UV) _ _).setCell (.inl UV) _ _).setCell (.inl UV) _ _).setCell (.inl UV) _ _).setCell (.inl UV) _ _).setCell (.inl UV) _ _
def Bp(w:Vh)(e:aL)(v:Vi)(w':Vh):Prop:=∃ sp,v=nY e sp/\w'.ownsRow w.heap.size 60 2 sp e.aK.length (e.aK.flatMap fC)/\Vj w.heap.size w w'
theorem NJ(h:w.heap[Q]?=Ve ja):w.cell? ⟨Q,0,Vd⟩=Ve (.int .i64 0):=by unfold ja at h;simp only[VL,h];rfl
theorem NK(h:w.heap[Q]?=Ve ja):w.cell? ⟨Q,1,Vd⟩=Ve (.int .i64 0):=by unfold ja at h;simp only[VL,h];rfl
theorem NN(h:w.heap[Q]?=Ve ja):w.cell? ⟨Q,2,Vd⟩=Ve (.string YN):=by unfold ja at h;simp only[VL,h];rfl
theorem NP(h:w.heap[Q]?=Ve ja):w.cell? ⟨Q,3,Vd⟩=Ve (.int .i64 0):=by unfold ja at h;simp only[VL,h];rfl
theorem NQ(h:w.heap[Q]?=Ve ja):w.cell? ⟨Q,4,Vd⟩=Ve (.slice Vd 0 0):=by unfold ja at h;simp only[VL,h];rfl
theorem NS(h:w.heap[Q]?=Ve ja):w.cell? ⟨Q,5,Vd⟩=Ve (.int .i64 0):=by unfold ja at h;simp only[VL,h];rfl
theorem NT(h:w.heap[Q]?=Ve ja):∀ o,w.frozen? ⟨Q,o,Vd⟩=Vf:=fun o=>frozen_of_row _ Q o _ _ h
theorem P9(w:Vh)(g:EG)(h:gR w g)(J:w.cell? ⟨g.tb,0,Vd⟩=Ve (.string g.e.aT))(hL:g.e.aK.length<=100):
  Vk prog 152 #[.pointer (Ve ⟨g.eb,0,Vd⟩)] w fun e w'=>∃ v,e=.returned v/\Bp w g.e v w':=by
 have F:Vj w.heap.size w (w.alloc ja):=(zr _ _).alloc (zq _) _;have U:=cC w ja;have t:=h.off (G:=[]) (aF.aD F) UV UV;have S:=t.en.c0;have R:=t.k;have P:=t.en.c1;have O:=t.en.c2;have N:=t.en.c3;have M:=t.u;have K:=aN F J;have V:=aC (TB (w.alloc ja).drew g.B g.cap g.e.aK (t.en.sl.off (G:=[]) (aF.aD (dM _)) UV) hL);have H:=aC (zA F U);have q:g.eb≠w.heap.size/\g.tb≠w.heap.size:=⟨by have:=h.lt;omega,by have y:g.tb<w.heap.size:=Vr _ _ J;omega⟩;clear h J F U t
 go_in
 go_upto_region 1 with fail
 change Za _ _ _ _ (w.alloc ja);have I:w.heap.size<(w.alloc ja).heap.size:=UV
 generalize w.alloc ja=X at *;have T:Hid (∀ w2,Vj X.drew.heap.size X.drew w2->w2.cell? ⟨g.eb,0,Vd⟩=Ve (.int .i64 g.e.id)/\w2.cell? ⟨g.eb,1,Vd⟩=Ve (.int .i64 g.e.kind)/\w2.cell? ⟨g.eb,2,Vd⟩=Ve (.pointer (Ve ⟨g.tb,0,Vd⟩))/\w2.cell? ⟨g.eb,3,Vd⟩=Ve (.int .i64 g.e.aH)/\w2.cell? ⟨g.eb,4,Vd⟩=Ve (.slice (Ve ⟨g.B,0,Vd⟩) g.e.aK.length g.cap)/\w2.cell? ⟨g.eb,5,Vd⟩=Ve (.int .i64 g.e.bY)/\w2.cell? ⟨g.tb,0,Vd⟩=Ve (.string g.e.aT)):=fun w2 k=>⟨aN k S,aN k R,aN k P,aN k O,aN k N,aN k M,aN k K⟩
 have AQ:Hid (∀ w2,Vj X.drew.heap.size X.drew w2->w2.heap[w.heap.size]?=Ve ja):=fun w2 k=>(k.block _ I).trans H.out.2
 have Y:Hid (∀ w2 a b c d e f,Vj X.drew.heap.size X.drew w2->((((((w2.setCell ⟨w.heap.size,0,Vd⟩ a).setCell ⟨w.heap.size,1,Vd⟩ b).setCell ⟨w.heap.size,2,Vd⟩ c).setCell ⟨w.heap.size,3,Vd⟩ d).setCell ⟨w.heap.size,4,Vd⟩ e).setCell ⟨w.heap.size,5,Vd⟩ f).cell? ⟨g.eb,0,Vd⟩=Ve (.int .i64 g.e.id)/\((((((w2.setCell ⟨w.heap.size,0,Vd⟩ a).setCell ⟨w.heap.size,1,Vd⟩ b).setCell ⟨w.heap.size,2,Vd⟩ c).setCell ⟨w.heap.size,3,Vd⟩ d).setCell ⟨w.heap.size,4,Vd⟩ e).setCell ⟨w.heap.size,5,Vd⟩ f).cell? ⟨g.eb,1,Vd⟩=Ve (.int .i64 g.e.kind)/\((((((w2.setCell ⟨w.heap.size,0,Vd⟩ a).setCell ⟨w.heap.size,1,Vd⟩ b).setCell ⟨w.heap.size,2,Vd⟩ c).setCell ⟨w.heap.size,3,Vd⟩ d).setCell ⟨w.heap.size,4,Vd⟩ e).setCell ⟨w.heap.size,5,Vd⟩ f).cell? ⟨g.eb,2,Vd⟩=Ve (.pointer (Ve ⟨g.tb,0,Vd⟩))/\((((((w2.setCell ⟨w.heap.size,0,Vd⟩ a).setCell ⟨w.heap.size,1,Vd⟩ b).setCell ⟨w.heap.size,2,Vd⟩ c).setCell ⟨w.heap.size,3,Vd⟩ d).setCell ⟨w.heap.size,4,Vd⟩ e).setCell ⟨w.heap.size,5,Vd⟩ f).cell? ⟨g.eb,3,Vd⟩=Ve (.int .i64 g.e.aH)/\((((((w2.setCell ⟨w.heap.size,0,Vd⟩ a).setCell ⟨w.heap.size,1,Vd⟩ b).setCell ⟨w.heap.size,2,Vd⟩ c).setCell ⟨w.heap.size,3,Vd⟩ d).setCell ⟨w.heap.size,4,Vd⟩ e).setCell ⟨w.heap.size,5,Vd⟩ f).cell? ⟨g.eb,4,Vd⟩=Ve (.slice (Ve ⟨g.B,0,Vd⟩) g.e.aK.length g.cap)/\((((((w2.setCell ⟨w.heap.size,0,Vd⟩ a).setCell ⟨w.heap.size,1,Vd⟩ b).setCell ⟨w.heap.size,2,Vd⟩ c).setCell ⟨w.heap.size,3,Vd⟩ d).setCell ⟨w.heap.size,4,Vd⟩ e).setCell ⟨w.heap.size,5,Vd⟩ f).cell? ⟨g.eb,5,Vd⟩=Ve (.int .i64 g.e.bY)/\((((((w2.setCell ⟨w.heap.size,0,Vd⟩ a).setCell ⟨w.heap.size,1,Vd⟩ b).setCell ⟨w.heap.size,2,Vd⟩ c).setCell ⟨w.heap.size,3,Vd⟩ d).setCell ⟨w.heap.size,4,Vd⟩ e).setCell ⟨w.heap.size,5,Vd⟩ f).cell? ⟨g.tb,0,Vd⟩=Ve (.string g.e.aT)):=fun w2 a b c d e f k=>by
  have o:=GC w2 w.heap.size a b c d e f;obtain⟨k0,k1,k2,k3,k4,k5,k6⟩:=T.out w2 k;exact⟨o.cell (by simpa using q.1) k0,o.cell (by simpa using q.1) k1,o.cell (by simpa using q.1) k2,o.cell (by simpa using q.1) k3,o.cell (by simpa using q.1) k4,o.cell (by simpa using q.1) k5,o.cell (by simpa using q.2) k6⟩
 clear q
 go_region_held3 (fun w'=>w'.cell? ⟨g.eb,0,Vd⟩=Ve (.int .i64 g.e.id)/\w'.cell? ⟨g.eb,1,Vd⟩=Ve (.int .i64 g.e.kind)/\w'.cell? ⟨g.eb,2,Vd⟩=Ve (.pointer (Ve ⟨g.tb,0,Vd⟩))/\w'.cell? ⟨g.eb,3,Vd⟩=Ve (.int .i64 g.e.aH)/\w'.cell? ⟨g.eb,4,Vd⟩=Ve (.slice (Ve ⟨g.B,0,Vd⟩) g.e.aK.length g.cap)/\w'.cell? ⟨g.eb,5,Vd⟩=Ve (.int .i64 g.e.bY)/\w'.cell? ⟨g.tb,0,Vd⟩=Ve (.string g.e.aT))
  (first
   |with_reducible exact Y.out _ _ _ _ _ _ _ r
   |with_reducible exact T.out _ r
   |exact⟨S,R,P,O,N,M,K⟩)
  (first
   |(go_at_call 210;refine V.out.mono ?_;rintro e w2 ⟨v,rfl,D,r⟩;obtain⟨C,A,rfl⟩:=iy D;have j:=AQ.out w2 r;have q0:=NJ j;have q1:=NK j;have q2:=NN j;have q3:=NP j;have q4:=NQ j;have q5:=NS j;have fq:=NT j;clear j))
 have HF:Hid (Bp w g.e (nY g.e (.slice C g.e.aK.length A)) (tF w2 w.heap.size (.int .i64 g.e.id) (.int .i64 g.e.kind) (.string g.e.aT) (.int .i64 g.e.aH) (.slice C g.e.aK.length A) (.int .i64 g.e.bY))):=by
  have z:=H.out.1.size;have k:=GC w2 w.heap.size (.int .i64 g.e.id) (.int .i64 g.e.kind) (.string g.e.aT) (.int .i64 g.e.aH) (.slice C g.e.aK.length A) (.int .i64 g.e.bY);have y:Vj w.heap.size w w2:=H.out.1.drew.trans (r.mono z);refine⟨_,rfl,dO (YF D z) k (fun b E t=>?_),?_⟩
  ·have:=(D.lt b E).1;have e:b=w.heap.size:=YD.1 t;have aa:w.heap.size<X.drew.heap.size:=I;omega
  ·exact⟨k.os.trans y.os,k.tape.trans y.tape,k.output.trans y.output,Vq y.size k.size,fun b E=>(k.block b (zL E y.size) U0).trans (y.block b E)⟩
 clear D r V T AQ Y S R P O N M K H I
 go_wp2_with fail
 exact bodyPost_ret (v:=nY g.e (.slice C g.e.aK.length A)) (by simp[results,results152,go_sem,nY,q0,q1,q2,q3,q4,q5]) rfl ⟨_,rfl,HF.out⟩
theorem SY:(prog.info? 58).map (fun i=>(i.zero,i.size,i.bytes))=Ve (Ve (.agg #[.int .i64 0,.int .i64 0,.string YN,.int .i64 0,.slice Vd 0 0,.int .i64 0]),6,72):=UZ
theorem dS.lK{r:Raw}(h:dS w d s r aM)(k:Vj w.heap.size w wx){g:EG}(a:g∈r.eg):
  Vk prog 152 #[.pointer (Ve ⟨g.eb,0,Vd⟩)] wx fun e w'=>∃ v,e=.returned v/\Bp wx g.e v w':=by
 have f:=h.dk.later k;obtain⟨i,o,t,q⟩:=h.of.tb g a;obtain⟨z,y,C,A,j,_⟩:=f.th i o;have c:=j.c0;rw[t,<- q] at c;exact P9 wx g (f.en g a).1 c (by have:=(h.inv.en _ (h.of.mem a)).sl;omega)
theorem qW:∀ {l:U5 (aL × Vi)}{k:U8}(c:k<l.length){j:U8}(_:j<6),(l.flatMap ef)[k*6+j]?=(ef l[k])[j]?
 |p :: l,0,c,j,hj=>by
  have e:(p :: l).flatMap ef=ef p++l.flatMap ef:=UV
  rw[e,List.getElem?_append_left (by simp[ef];omega)];simp
 |p :: l,k+1,c,j,hj=>by
  have a:k<l.length:=by simpa using c
  have e:(p :: l).flatMap ef=ef p++l.flatMap ef:=UV
  have f:(ef p).length=6:=rfl;rw[e,Wz (by rw[f];omega),f,show (k+1)*6+j-6=k*6+j by omega,qW a hj];simp
theorem RH(eb:U8)(id:U9)(x:aL)(a:U6 Addr)(n c:U8)(w:Vh)(g:w.cell? ⟨eb,0,Vd⟩=Ve (.int .i64 id)):
  Vk prog 209 #[.pointer (Ve ⟨eb,0,Vd⟩),nY x (.slice a n c)] w fun e w'=>e=.returned (.bool (x.id==id))/\Vj w.heap.size w w':=by
 have f:Vj w.heap.size w (w.alloc (.cells #[.int .i64 x.id,.int .i64 x.kind,.string x.aT,.int .i64 x.aH,.slice a n c,.int .i64 x.bY] 58)):=(zr _ _).alloc (zq _) _;have o:(w.alloc (.cells #[.int .i64 x.id,.int .i64 x.kind,.string x.aT,.int .i64 x.aH,.slice a n c,.int .i64 x.bY] 58)).cell? ⟨w.heap.size,0,Vd⟩=Ve (.int .i64 x.id):=UV
 have j:=aN f g;have h:=aC f;clear f g;unfold nY
 go_in
 go_upto_region 1 with fail
 generalize w.alloc (.cells #[.int .i64 x.id,.int .i64 x.kind,.string x.aT,.int .i64 x.aH,.slice a n c,.int .i64 x.bY] 58)=X at *
 go_big_region
 go_wp2
 go_ret;exact⟨rfl,h.out.drew⟩
theorem Um(l:U5 (aL × Vi))(v:Vi)(B eb:U8)(id:U9)(w:Vh)(own:w.ownsRow B 58 6 v l.length (l.flatMap ef))(O:∀ p∈l,∃ a n c,p.2=.slice a n c)(P:w.cell? ⟨eb,0,Vd⟩=Ve (.int .i64 id))(hl:l.length<=1000):
  Vk prog 256 #[v,.func (.func 209) #[.pointer (Ve ⟨eb,0,Vd⟩)] #[]] w fun e w'=>e=.returned (.int .i64 (eO (fun p:aL × Vi=>p.1.id==id) l 0))/\Vj w.heap.size w w':=by
 obtain⟨a,cap,rfl⟩:=iy own;have CC:=aC P;have HS:=aC O;have y:=aC own;clear P O own
 go_in
 go_wp2_with fail
 go_loopw [8] (fun i wx=>∃ k:U8,k<=l.length/\i=.int .i64 k/\eO (fun p:aL × Vi=>p.1.id==id) l 0=eO (fun p:aL × Vi=>p.1.id==id) (l.drop k) k/\Vj w.heap.size w wx) (fun i _=>l.length-(intOf i).toNat)
 case atStart=>exact⟨0,Wh _,rfl,rfl,Below.refl _ _⟩
 case round =>
  obtain⟨k,hk,rfl,C,t⟩:=hrel;have K:=aC C;have N:=aC t
  by_cases g:k<l.length
  ·have hi:(k:U9)<(l.length:U9):=UU
   obtain⟨H,T,S⟩:=Yq y.out UU;simp only[Yr,true_and] at S;obtain⟨rfl,rfl⟩:=S;have f:=eu y.out t;have J:=(f.cellAt (k*6) UU).trans (qW g (j:=0) UU);have I:=(f.cellAt (k*6+1) UU).trans (qW g (j:=1) UU);have G:=(f.cellAt (k*6+2) UU).trans (qW g (j:=2) UU);have F:=(f.cellAt (k*6+3) UU).trans (qW g (j:=3) UU);have A:=(f.cellAt (k*6+4) UU).trans (qW g (j:=4) UU);have E:=(f.cellAt (k*6+5) UU).trans (qW g (j:=5) UU);simp only[ef,List.getElem?_cons_zero,List.getElem?_cons_succ] at J I G F A E;obtain⟨Y,V,X,r⟩:=HS.out l[k] (zg g);rw[r] at A;have h:=aC (RH eb id l[k].1 Y V X wr (aN t CC.out));have R:eO (fun p:aL × Vi=>p.1.id==id) (l.drop k) k=if l[k].1.id==id then (k:U9) else eO (fun p:aL × Vi=>p.1.id==id) (l.drop (k+1)) ((k+1:U8):U9):=by rw[List.drop_eq_getElem_cons g];rfl
   have U:=aC R;clear R f t C r
   cases o:(l[k].1.id==id)
   ·have z:Hid (eO (fun p:aL × Vi=>p.1.id==id) l 0=eO (fun p:aL × Vi=>p.1.id==id) (l.drop (k+1)) ((k+1:U8):U9)):=by show _=_;rw[K.out,U.out,o];rfl
    rw[o] at h;clear o;unfold nY at h
    go_wp2_with fail
    refine h.out.mono ?_;rintro e w1 ⟨rfl,q⟩;have M:=aC (bA N.out q (zq _));clear q J I G F A E h
    go_wp2
    go_roundw
    case rel=>exact⟨k+1,by omega,by go_num,z.out,M.out⟩
    case measure=>simp[intOf];omega
   ·have z:Hid (eO (fun p:aL × Vi=>p.1.id==id) l 0=k):=by show _=_;rw[K.out,U.out,o];rfl
    rw[o] at h;clear o;unfold nY at h
    go_wp2_with fail
    refine h.out.mono ?_;rintro e w1 ⟨rfl,q⟩;have M:=aC (bA N.out q (zq _));clear q J I G F A E h
    go_wp2
    go_ret;exact⟨gL z.out.symm,M.out⟩
  ·have D:k=l.length:=UU
   have hi:¬ ((k:U9)<(l.length:U9)):=UU
   have z:Hid (eO (fun p:aL × Vi=>p.1.id==id) l 0=-1):=by show _=_;rw[K.out,D,List.drop_length];rfl
   clear C t
   go_wp2
   go_ret;exact⟨gL z.out.symm,N.out⟩
theorem UA(l:U5 (aL × Vi))(v:Vi)(B eb:U8)(id:U9)(w:Vh)(own:w.ownsRow B 58 6 v l.length (l.flatMap ef))(r:∀ p∈l,∃ a n c,p.2=.slice a n c)(t:w.cell? ⟨eb,0,Vd⟩=Ve (.int .i64 id))(C:l.length<=1000):
  Vk prog 208 #[v,.func (.func 209) #[.pointer (Ve ⟨eb,0,Vd⟩)] #[]] w fun e w'=>e=.returned (.bool (l.any (fun p:aL × Vi=>p.1.id==id)))/\Vj w.heap.size w w':=by
 have y:=aC (Um l v B eb id w own r t C)
 have f:(decide ((0:U9)<=eO (fun p:aL × Vi=>p.1.id==id) l 0))=l.any (fun p:aL × Vi=>p.1.id==id):=by
  rcases vF (fun p:aL × Vi=>p.1.id==id) l 0 with ⟨j,g⟩|⟨k,h,j,g,_⟩
  ·rw[j];have:l.any (fun p:aL × Vi=>p.1.id==id)=Vf:=ZB.2 (fun x A=>by rw[g x A];simp);rw[this];rfl
  ·have:l.any (fun p:aL × Vi=>p.1.id==id)=Vg:=XI.2 ⟨_,ZC h,g⟩;rw[this,j];exact decide_eq_true UU
 have o:=aC f;clear f own r t
 go_in
 go_wp2_with fail
 refine y.out.mono ?_;rintro e w1 ⟨rfl,q⟩;have D:=aC q;clear q y;generalize eO (fun p:aL × Vi=>p.1.id==id) l 0=z at *
 go_wp2
 go_ret;exact⟨by rw[o.out];rfl,D.out⟩
structure Az(w wx:Vh)(r:Rd.bL)(days:U5 U9)(k:U8)(v:Vi):Prop where
 own:wx.ownsRow w.heap.size 60 2 v k ((((days.take k).map (jL r))).flatMap fC)
 bl:Vj w.heap.size w wx
 ru:wx.heap[w.heap.size]?=Ve (bN r)
 ne:v.ownBlock≠Ve w.heap.size
theorem QJ(r:Rd.bL)(hf:Rd.fw r)(c:U5 U9)(hd:∀ d∈c,0<=d/\d<100000)(hl:c.length<=100)(v:Vi)(B:U8)(w:Vh)(own:w.ownsRow B 3 1 v c.length (c.map (V4 .i64))):
  Vk prog 148 #[ik r,v] w fun e w'=>∃ v',e=.returned v'/\w'.ownsRow w.heap.size 60 2 v' c.length ((c.map (jL r)).flatMap fC)/\Vj w.heap.size w w':=by
 obtain⟨i0,E,C,A,z⟩:=info_parts vj;obtain⟨a,cap,rfl⟩:=iy own;have hX:Vj w.heap.size w (w.alloc (bN r)):=(zr _ _).alloc (zq _) _;have hr:=cC w (bN r);have hs:(w.alloc (bN r)).heap.size=w.heap.size+1:=UV
 have HX:=aC (zA hX (zA hr hs));have OW:=aC own;have HD:=aC (zA hd hf);clear own hX hr hd hf hs;unfold ik
 go_in
 go_upto_region 1 with fail
 change Za _ _ _ _ (w.alloc (bN r));generalize w.alloc (bN r)=X at *
 go_wp2_with (first
  |(at_make;refine wpList_make_own _ rfl _ _ 56 rfl w.heap.size 60 i0 _ 2 underlying56 E C A .i64 .i64 (c.length:U9) c.length rfl rfl rfl (by rw[z];omega) U1 (by have:=HX.out.1.size;omega) ?_;intro w1 g f))
 have S0:Hid (Az w w1 r c 0 (.slice (Ve ⟨X.heap.size,0,Vd⟩) 0 c.length)):=by
  obtain⟨J,N,x3⟩:=HX.out;refine⟨by simpa using g,J.grown f J.size (fun k e=>by cases e),(f.block _ UU UV).trans N,fun e=>?_⟩;have:X.heap.size=w.heap.size:=by simpa[WI] using e
  omega
 clear g f
 go_loopw [5,7,13] (fun vs _ U wx=>∃ k:U8,k<=c.length/\U=.int .i64 k/\Az w wx r c k vs) (fun _ _ U _=>c.length-(intOf U).toNat)
 case atStart=>exact⟨0,Wh _,rfl,S0.out⟩
 case round =>
  obtain⟨k,hk,rfl,S⟩:=hrel
  by_cases h:k<c.length
  ·have D:(k:U9)<(c.length:U9):=UU
   have row:=eu OW.out S.bl;obtain⟨Hh,ac,G⟩:=Yq row UU;simp only[Yr,true_and] at G;obtain⟨rfl,rfl⟩:=G;have a0:=row.cellAt k UU;rw[Ys,List.getElem?_eq_getElem h,Yt] at a0;have SO:=aC (Iy r HD.out.2 c[k] (HD.out.1 _ (zg h)).1 (HD.out.1 _ (zg h)).2 wr);have x0:=tL S.ru;have J:=oK S.ru;have N:=tM S.ru;have x3:=tN S.ru;have x4:=tO S.ru;have x5:=tP S.ru;have x6:=tQ S.ru;have x7:=tR S.ru;have x8:=tT S.ru;have x9:=pQ S.ru;have T:=vK S.ru;have R:=vL S.ru;have P:=vM S.ru;have O:=vO S.ru;have M:=aC S;unfold ik at SO;clear S row
   go_wp2_with fail
   refine SO.out.mono ?_;rintro e w2 ⟨rfl,j⟩;have RW:=aC (eu M.out.own j);have I:=aC j;have ad:w.heap.size<=w2.heap.size:=Vq M.out.bl.size j.size;clear j SO a0 x0 J N x3 x4 x5 x6 x7 x8 x9 T R P O
   go_wp2_with (first
    |(at_builtin;refine wpList_append_lies _ rfl _ _ 56 rfl w.heap.size 60 i0 _ 2 16 underlying56 E C A z rfl UW _ _ _ rfl (RW.out.alloc _) ⟨w2.heap.size,0,Vd⟩ 1 1 (fC (jL r c[k])) rfl rfl (World.news_of_block (cs:=(fC (jL r c[k])).toArray) (cC w2 _)) (by simp[fC,Value.oneCell']) UU U1 UU U0 (w2.heap.size+1) UV ?_;intro K H w3 g f F ab))
   have t:aF u5.ownBlock.toList w2 w3:=aF.grown ((aF.refl _ w2).alloc _) f (fun k hk=>.inl (WW.2 hk));have q:u5.ownBlock=Ve K\/K=w2.heap.size+1:=F
   have HN:Hid (Az w w3 r c (k+1) (.slice (Ve ⟨K,0,Vd⟩) (k+1) H)):=by
    have S:=M.out;have y:Vj w.heap.size w w2:=S.bl.trans (I.out.mono S.bl.size)
    have Y:w.heap.size<wr.heap.size:=by
     have:=tL S.ru;exact Vr _ _ this
    refine⟨?_,⟨t.os.trans y.os,t.tape.trans y.tape,t.output.trans y.output,Vq y.size t.size,fun b hb=>(t.block b (zL hb y.size) (fun V=>by have:=(S.own.lt b (WW.1 V)).1;omega)).trans (y.block b hb)⟩,?_,fun e=>?_⟩
    ·rw[List.take_succ_eq_append_getElem h,Wr,Wx];have:([c[k]].map (jL r)).flatMap fC=fC (jL r c[k]):=UV
     rw[this];exact g
    ·exact ((t.block _ (by have:=I.out.size;omega) (fun V=>S.ne (WW.1 V))).trans (I.out.block _ Y)).trans S.ru
    ·have:K=w.heap.size:=by simpa[WI] using e
     rcases q with G|G
     ·exact S.ne (by rw[G,this])
     ·have:=I.out.size;omega
   clear g f F t q M RW I
   go_wp2
   go_roundw
   case rel=>exact⟨k+1,by omega,by go_num,HN.out⟩
   case measure=>simp[intOf];omega
  ·have aa:k=c.length:=UU
   have D:¬ ((k:U9)<(c.length:U9)):=UU
   have HF:Hid (wr.ownsRow w.heap.size 60 2 u5 c.length ((c.map (jL r)).flatMap fC)/\Vj w.heap.size w wr):=by
    have o:=S.own;rw[aa,List.take_length] at o;exact⟨o,S.bl⟩
   clear S
   go_wp2
   go_ret;exact⟨_,rfl,HF.out⟩
theorem Uy{q:Rd.bL}(h:aA.dH s.ts name u≠0):aA.aU s (.series name u q)=(s,aA.bO.error (aA.dH s.ts name u)):=by
 have e:aA.mK s name u q=aA.dH s.ts name u:=by unfold aA.mK;rw[Vb h]
 simp only[aA.aU];rw[e,Vb h]
theorem Uz{q:Rd.bL}(c:Rd.fw q)(h:aA.dH s.ts name u=0)(a:Rd.fe q≠0):aA.aU s (.series name u q)=(s,aA.bO.error (Rd.fe q)):=by
 have f:=(Rd.pM c).1;have e:aA.mK s name u q=Rd.fe q:=by unfold aA.mK;rw[Va UU,<- f,Vb a]
 simp only[aA.aU];rw[e,Vb a]
theorem Ta{q:Rd.bL}(j:Rd.fw q)(h:aA.dH s.ts name u=0)(f:Rd.fe q=0):aA.aU s (.series name u q)=il s ⟨0,1,name,u,(eI q).map (jL q),0⟩:=by
 obtain⟨g,t⟩:=Rd.pM j;have r:=(t (by rw[<- g];exact f)).1;have o:(eI q).map (jL q)=Rd.gg q (Rd.bH q):=by unfold eI;rw[Vb f,r];rfl
 simp only[aA.aU];unfold aA.mK il;rw[Va (c:=aA.dH s.ts name u≠0) UU,<- g,Va (c:=Rd.fe q≠0) UU,o]
 by_cases a:s.given=60
 ·simp[a]
 ·cases aA.dG s.ts s.es name u (Rd.gg q (Rd.bH q)) <;> simp[a]
theorem H8:∀ (i:U8)(h:i<L.length),(L.flatMap fC)[i*2]?=Ve (.int .i64 L[i].1)/\(L.flatMap fC)[i*2+1]?=Ve (.int .i64 L[i].2):=by
 induction L with
 |nil=>intro i h;simp at h
 |cons a L ih =>
  intro i h
  cases i with
  |zero=>exact⟨rfl,rfl⟩
  |succ i =>
   obtain⟨f,c⟩:=ih i (by simpa using h);have e:(a :: L).flatMap fC=[.int .i64 a.1,.int .i64 a.2]++L.flatMap fC:=rfl;rw[e,show (i+1)*2=2+i*2 from by omega,show 2+i*2+1=2+(i*2+1) from by omega];constructor
   ·rw[Wz UV];simpa using f
   ·rw[Wz UV];simpa using c
theorem dS.vv{r:Raw}(h:dS w d s r aM)(z:Vj w.heap.size w w3){g cap y:U8}(D:i<r.tg.length)(c:r.tg[i].name=name)(row:w3.ownsRow y 60 2 (.slice (Ve ⟨g,0,Vd⟩) n cap) n (L.flatMap fC))(A:n=L.length)(E:B<=y)(K:w.heap.size<=B)(ok:gy s.now ⟨0,1,name,u,L,0⟩):
  kL (w3.alloc (.cells #[.int .i64 0,.int .i64 1,.pointer (Ve ⟨r.tg[i].tb,0,Vd⟩),.int .i64 u,.slice (Ve ⟨g,0,Vd⟩) n cap,.int .i64 0] 200)) B d s r aM ⟨⟨0,1,name,u,L,0⟩,w3.heap.size,g,cap,r.tg[i].tb⟩ i:=by
 have q:Vj w3.heap.size w3 (w3.alloc (.cells #[.int .i64 0,.int .i64 1,.pointer (Ve ⟨r.tg[i].tb,0,Vd⟩),.int .i64 u,.slice (Ve ⟨g,0,Vd⟩) n cap,.int .i64 0] 200)):=(zr _ _).alloc (zq _) _;have t:=h.dk.later z;have eb:=cC w3 (.cells #[.int .i64 0,.int .i64 1,.pointer (Ve ⟨r.tg[i].tb,0,Vd⟩),.int .i64 u,.slice (Ve ⟨g,0,Vd⟩) n cap,.int .i64 0] 200);have M:=row.lt g rfl;have J:(w3.alloc (.cells #[.int .i64 0,.int .i64 1,.pointer (Ve ⟨r.tg[i].tb,0,Vd⟩),.int .i64 u,.slice (Ve ⟨g,0,Vd⟩) n cap,.int .i64 0] 200)).heap.size=w3.heap.size+1:=UV
 have a:=eu row q;generalize w3.alloc (.cells #[.int .i64 0,.int .i64 1,.pointer (Ve ⟨r.tg[i].tb,0,Vd⟩),.int .i64 u,.slice (Ve ⟨g,0,Vd⟩) n cap,.int .i64 0] 200)=Z at *;refine⟨⟨t.later q,h.of,h.wl,h.hl,h.inv⟩,⟨⟨?_,?_,?_,?_,fun j C=>?_,?_⟩,?_,?_,fun o=>frozen_of_row _ _ _ _ _ eb,⟨_,eb⟩⟩,t.none (zq _),h.dk.none (by show w.heap.size<=g;omega),(by show B<=w3.heap.size;omega),(by show B<=g;omega),(by show w3.heap.size≠g;omega),UU,D,c,rfl,ok⟩
 ·show Z.cell? ⟨w3.heap.size,0,Vd⟩=_;simp only[VL,eb];rfl
 ·show Z.cell? ⟨w3.heap.size,2,Vd⟩=_;simp only[VL,eb];rfl
 ·show Z.cell? ⟨w3.heap.size,3,Vd⟩=_;simp only[VL,eb];rfl
 ·show Z.cell? ⟨w3.heap.size,4,Vd⟩=Ve (.slice (Ve ⟨g,0,Vd⟩) L.length cap);rw[<- A];simp only[VL,eb];rfl
 ·have f:j<L.length:=C;obtain⟨G,F⟩:=H8 j f;have I:=a.cellAt (j*2) UU;have H:=a.cellAt (j*2+1) UU;exact⟨I.trans G,H.trans F⟩
 ·show g<_;omega
 ·show Z.cell? ⟨w3.heap.size,1,Vd⟩=_;simp only[VL,eb];rfl
 ·show Z.cell? ⟨w3.heap.size,5,Vd⟩=_;simp only[VL,eb];rfl
theorem Ra(w:Vh)(name:U4)(u:U9)(q:Rd.bL):let X:=((w.alloc (.cells #[.string name,.int .i64 u,.int .i64 q.pc,.int .i64 q.ev,.bool (aI q.acc 0),.bool (aI q.acc 1),.bool (aI q.acc 2),.bool (aI q.acc 3),.bool (aI q.acc 4),.bool (aI q.acc 5),.bool (aI q.acc 6),.int .i64 q.fr,.int .i64 q.mn,.int .i64 q.mi,.int .i64 q.ti,.int .i64 q.un] 165)).alloc aX);Vj w.heap.size w X/\X.heap[w.heap.size+1]?=Ve aX/\X.heap.size=w.heap.size+2/\X.heap[w.heap.size]?=Ve (.cells #[.string name,.int .i64 u,.int .i64 q.pc,.int .i64 q.ev,.bool (aI q.acc 0),.bool (aI q.acc 1),.bool (aI q.acc 2),.bool (aI q.acc 3),.bool (aI q.acc 4),.bool (aI q.acc 5),.bool (aI q.acc 6),.int .i64 q.fr,.int .i64 q.mn,.int .i64 q.mi,.int .i64 q.ti,.int .i64 q.un] 165 (0,0)):=by
 obtain⟨c,a⟩:=yJ (w:=w) (.cells #[.string name,.int .i64 u,.int .i64 q.pc,.int .i64 q.ev,.bool (aI q.acc 0),.bool (aI q.acc 1),.bool (aI q.acc 2),.bool (aI q.acc 3),.bool (aI q.acc 4),.bool (aI q.acc 5),.bool (aI q.acc 6),.int .i64 q.fr,.int .i64 q.mn,.int .i64 q.mi,.int .i64 q.ti,.int .i64 q.un] 165);exact⟨c,a,by simp,(Below.heap_alloc _ _ _ UV).trans (cC w _)⟩
theorem Pp(a:Array Vi)(w:Vh):(callFunc 148 a).run prog w=.ok (.enter 148 a) w:=UZ
theorem Po(a:Array Vi)(w:Vh):(callFunc 144 a).run prog w=.ok (.enter 144 a) w:=UZ
theorem Sw{r:Raw}(h:dS w d s r aM)(ht:gA w)(aj:10<=w.heap.size)(name:U4)(hn:name.size<=1000)(u:U9)(q:Rd.bL)(hl:aA.jA (.series name u q)):
  Vk prog 95 #[.pointer (Ve ⟨d,0,Vd⟩),.agg #[.string name,.int .i64 u,.int .i64 q.pc,.int .i64 q.ev,.bool (aI q.acc 0),.bool (aI q.acc 1),.bool (aI q.acc 2),.bool (aI q.acc 3),.bool (aI q.acc 4),.bool (aI q.acc 5),.bool (aI q.acc 6),.int .i64 q.fr,.int .i64 q.mn,.int .i64 q.mi,.int .i64 q.ti,.int .i64 q.un]] w fun e w'=>∃ v,e=.returned v/\dX w d aM (aA.aU s (.series name u q)) v w':=by
 obtain⟨hX,ad,N,c⟩:=Ra w name u q;obtain⟨ai,ag,K⟩:=hl;have HV:=aC (II (h.dk.later hX) h.of h.aS name hn u);have DY:=aC (Gi q K ((w.alloc (.cells #[.string name,.int .i64 u,.int .i64 q.pc,.int .i64 q.ev,.bool (aI q.acc 0),.bool (aI q.acc 1),.bool (aI q.acc 2),.bool (aI q.acc 3),.bool (aI q.acc 4),.bool (aI q.acc 5),.bool (aI q.acc 6),.int .i64 q.fr,.int .i64 q.mn,.int .i64 q.mi,.int .i64 q.ti,.int .i64 q.un] 165)).alloc aX) (pU ht hX aj) (by rw[N];omega));have HH:=aC h;have T:=aC (zA hX (zA ad N));have HA:=aC (Uy (s:=s) (name:=name) (u:=u) (q:=q));have HE:=aC (Uz (s:=s) (name:=name) (u:=u) K);have HO:=aC (Ta (s:=s) (name:=name) (u:=u) K);have y:=aC K;have x0:=aZ c 0 rfl;have x1:=aZ c 1 rfl;have x2:=aZ c 2 rfl;have x3:=aZ c 3 rfl;have x4:=aZ c 4 rfl;have x5:=aZ c 5 rfl;have x6:=aZ c 6 rfl;have x7:=aZ c 7 rfl;have x8:=aZ c 8 rfl;have x9:=aZ c 9 rfl;have F:=aZ c 10 rfl;have E:=aZ c 11 rfl;have D:=aZ c 12 rfl;have C:=aZ c 13 rfl;have A:=aZ c 14 rfl;have z:=aZ c 15 rfl;unfold ik at DY;clear h hX ad N c K ht
 go_in
 go_upto_region 1 with fail
 change Za _ _ _ _ ((w.alloc (.cells #[.string name,.int .i64 u,.int .i64 q.pc,.int .i64 q.ev,.bool (aI q.acc 0),.bool (aI q.acc 1),.bool (aI q.acc 2),.bool (aI q.acc 3),.bool (aI q.acc 4),.bool (aI q.acc 5),.bool (aI q.acc 6),.int .i64 q.fr,.int .i64 q.mn,.int .i64 q.mi,.int .i64 q.ti,.int .i64 q.un] 165)).alloc aX);generalize ((w.alloc (.cells #[.string name,.int .i64 u,.int .i64 q.pc,.int .i64 q.ev,.bool (aI q.acc 0),.bool (aI q.acc 1),.bool (aI q.acc 2),.bool (aI q.acc 3),.bool (aI q.acc 4),.bool (aI q.acc 5),.bool (aI q.acc 6),.int .i64 q.fr,.int .i64 q.mn,.int .i64 q.mi,.int .i64 q.ti,.int .i64 q.un] 165)).alloc aX)=X at *;have BX:Hid (Vj w.heap.size w X):=T.out.1;have QX:Hid (Q7 X (w.heap.size+1)):=Q7.of T.out.2.1
 go_wp2_with fail
 refine HV.out.mono ?_;rintro e w1 ⟨hp,rfl⟩;rcases hp with ⟨M,rfl⟩|⟨M,i,hi,e1,e2,rfl⟩
 ·have HD:=aC (HA.out M);generalize aA.dH s.ts name u=H at *;have ac:(H != 0)=Vg:=by simpa using M
  clear M HV T DY HE HO HA x0 x1 x2 x3 x4 x5 x6 x7 x8 x9 F E D C A z
  go_wp2_with fail
  refine (lI H w1).mono ?_;rintro e w9 ⟨rfl,O⟩;have R:=aC (HH.out.refuse BX.out QX.out O HD.out);obtain⟨q0,q1,q2,q3,Y,V,U,fq⟩:=R.out.1;simp only[bC]
  go_wp2_with fail
  exact cO results95 ⟨q0,q1,q2,q3,Y,V,U,fq⟩ ⟨_,rfl,R.out.2⟩
 ·go_wp2_with fail
  refine DY.out.mono ?_;rintro e o ⟨da,rfl,own,a⟩;have j:Hid (Vj w.heap.size w o):=BX.out.trans (a.mono BX.out.size);have J:Hid (Q7 o (w.heap.size+1)):=QX.out.later (a.block _ (Vr _ _ QX.out.q0));obtain⟨a1,af,rfl⟩:=pF own
  by_cases G:Rd.fe q=0
  ·have HD:=aC (HO.out M G);have ac:(Rd.fe q != 0)=Vf:=by simpa using G
   obtain⟨P,ae⟩:=Rd.pM y.out;have I:=ae (by rw[<- P];exact G);have t:eI q=Rd.bH q:=by unfold eI;rw[Vb G,I.1]
   have OK:Hid (gy s.now ⟨0,1,name,u,(eI q).map (jL q),0⟩):=by
    obtain⟨p1,p2,p3,p4⟩:=aA.Rd.jU y.out (by rw[<- P];exact G);have e4:(eI q).map (jL q)=Rd.gg q (Rd.bH q):=by rw[t];rfl
    show gy _ _;rw[e4];exact⟨ai,ag,p4,p3,p1,p2,.inl ⟨rfl,rfl⟩⟩
   have ab:0<(eI q).length:=ZA.2 (by rw[t];exact I.2.1);have au:(eI q).length<=40:=by rw[t];exact I.2.2.1
   have SP:=aC (QJ q y.out (eI q) (fun d hd=>by rw[t] at hd;have:=Rd.sI y.out hd;have:=y.out.f0;omega) UU (.slice a1 (eI q).length af) w1.heap.size o.drew (Gc own));have aa:w.heap.size+2<=o.drew.heap.size:=by have:=a.size;have:=T.out.2.2;show w.heap.size+2<=o.heap.size;omega
   have AS:=aC (fun (w3:Vh) (g cap:U8) (f:Vj o.drew.heap.size o.drew w3) (row:w3.ownsRow o.drew.heap.size 60 2 (.slice (Ve ⟨g,0,Vd⟩) (eI q).length cap) (eI q).length (((eI q).map (jL q)).flatMap fC)) =>
    I8 (HH.out.vv (j.out.drew.trans (f.mono j.out.size)) (B:=w.heap.size+2) hi e1 row UV aa UU OK.out))
   have AP:=aC (fun (w3 w4:Vh) (g cap:U8) (v:Vi) (f:Vj o.drew.heap.size o.drew w3) (S:lG (w3.alloc (.cells #[.int .i64 0,.int .i64 1,.pointer (Ve ⟨r.tg[i].tb,0,Vd⟩),.int .i64 u,.slice (Ve ⟨g,0,Vd⟩) (eI q).length cap,.int .i64 0] 200)) (w.heap.size+2) d aM (il s ⟨0,1,name,u,(eI q).map (jL q),0⟩) v w4) =>
    S.IV (w:=w) (Q:=w.heap.size+1) (Step.below ((j.out.drew.trans (f.mono j.out.size)).trans (((zr w3.heap.size w3).alloc (zq _) _).mono (j.out.drew.trans (f.mono j.out.size)).size))) UU UU UU (HH.out.dk.none UU) ((J.out.later (w':=o.drew) rfl).later (((Below.heap_alloc w3 _ _ (zL (Vr _ _ J.out.q0) f.size))).trans (f.block _ (Vr _ _ J.out.q0)))))
   have y1:=aN a x1;have y2:=aN a x2;have y3:=aN a x3;have y4:=aN a x4;have y5:=aN a x5;have y6:=aN a x6;have y7:=aN a x7;have y8:=aN a x8;have y9:=aN a x9;have ar:=aN a F;have aq:=aN a E;have ao:=aN a D;have an:=aN a C;have al:=aN a A;have ak:=aN a z;unfold ik at SP;clear HV DY HE HO HA T own a I t P ae OK M x0 x1 x2 x3 x4 x5 x6 x7 x8 x9 F E D C A z BX QX;generalize Rd.fe q=H at *;subst G
   go_upto_region 7 with fail
   go_region_law (first
    |(refine qZ (by rfl) 148 _ _ (by rfl) _ (by simp[Act.eval]) (Pp _ _) SP.out ?_;rintro e w3 ⟨v',rfl,row,f⟩;refine⟨_,rfl,?_⟩;obtain⟨g,cap,rfl⟩:=Yq row ab;have z1:=aN f y1;have EN:=aC (AS.out w3 g cap f row);have AQ:=aC (fun w4 v S=>AP.out w3 w4 g cap v f S);clear SP AS AP row)
    |(refine qZ (by rfl) 144 _ _ (by rfl) _ (by simp[Act.eval]) (Po _ _) EN.out ?_;rintro e w4 ⟨v,rfl,S⟩;refine⟨_,rfl,?_⟩;obtain⟨H,nn,rfl,q7,K⟩:=AQ.out w4 v S;have R:Hid (dX w d aM (aA.aU s (.series name u q)) (bC H 0 nn (.slice Vd 0 0) (.slice Vd 0 0) (.slice Vd 0 0) (.slice Vd 0 0)) (cK w4 (w.heap.size+1) (.int .i64 H) (.int .i64 0) (.int .i64 nn) (.slice Vd 0 0) (.slice Vd 0 0) (.slice Vd 0 0) (.slice Vd 0 0))):=(by rw[HD.out];exact K _ _ _ _ _ _ _);obtain⟨q0,q1,q2,q3,Y,V,U,fq⟩:=q7;clear S K EN AQ;simp only[bC]))
   all_goals
    go_wp2_with fail
    exact cO results95 ⟨q0,q1,q2,q3,Y,V,U,fq⟩ ⟨_,rfl,R.out⟩
  ·have HD:=aC (HE.out M G);generalize Rd.fe q=H at *;have ac:(H != 0)=Vg:=by simpa using G
   clear M HV T DY HE HO HA x0 x1 x2 x3 x4 x5 x6 x7 x8 x9 F E D C A z own a G
   go_wp2_with fail
   refine (lI H o).mono ?_;rintro e w9 ⟨rfl,O⟩;have R:=aC (HH.out.refuse j.out J.out O HD.out);obtain⟨q0,q1,q2,q3,Y,V,U,fq⟩:=R.out.1;simp only[bC]
   go_wp2_with fail
   exact cO results95 ⟨q0,q1,q2,q3,Y,V,U,fq⟩ ⟨_,rfl,R.out.2⟩
theorem T3(h:dS w d s rw_ aM)(ht:gA w)(o:10<=w.heap.size)(name:U4)(J:name.size<=1000)(u:U9)(r:Rd.bL)(K:aA.jA (.series name u r)):
  Vk prog 64 #[.pointer (Ve ⟨d,0,Vd⟩),.iface 165 (.agg #[.string name,.int .i64 u,.int .i64 r.pc,.int .i64 r.ev,.bool (aI r.acc 0),.bool (aI r.acc 1),.bool (aI r.acc 2),.bool (aI r.acc 3),.bool (aI r.acc 4),.bool (aI r.acc 5),.bool (aI r.acc 6),.int .i64 r.fr,.int .i64 r.mn,.int .i64 r.mi,.int .i64 r.ti,.int .i64 r.un])] w fun e w'=>∃ v,e=.returned v/\dX w d aM (aA.aU s (.series name u r)) v w':=by
 have q:=aC (h.qa (.cells #[.string name,.int .i64 u,.int .i64 r.pc,.int .i64 r.ev,.bool (aI r.acc 0),.bool (aI r.acc 1),.bool (aI r.acc 2),.bool (aI r.acc 3),.bool (aI r.acc 4),.bool (aI r.acc 5),.bool (aI r.acc 6),.int .i64 r.fr,.int .i64 r.mn,.int .i64 r.mi,.int .i64 r.ti,.int .i64 r.un] 165));have t:=aC (Sw q.out.1 (pU ht q.out.2.1 o) (Vq o q.out.2.1.size) name J u r K);clear h;unfold aX at t q;have c:=qu 165 UW;have j:=sb 165 UW;have g:=sd 165 UW;have f:=rZ 165 UW;have a:=ph underlying165
 go_in
 go_wp2_with fail
 refine t.out.mono ?_;rintro e O ⟨v,rfl,z⟩;obtain⟨V,at_,P,a1,a2,a3,a4,U,T,S,R,c1,c2,Y,X,rfl,A,y⟩:=z.pW q.out.2;have N:=aC y;clear z y t c j g f a;obtain⟨I,H,G,F,E,D,C,M⟩:=A;simp only[bC]
 go_wp2_with fail
 exact cO results64 ⟨I,H,G,F,E,D,C,M⟩ ⟨_,rfl,N.out⟩
theorem dS.ib{r:Raw}(h:dS w d s r aM)(k:Vj w.heap.size w Z)(y:w.heap.size<=Q){t:Vi}(z:gI Z (Q+1) aM t l)(a b c e f g i:Vi):
  dX w d aM (s,⟨0,0,0,l.map (·.1),[],[],[]⟩) (bC 0 0 0 t (.slice Vd 0 0) (.slice Vd 0 0) (.slice Vd 0 0)) (cK Z Q a b c e f g i):=by
 have q:=lF Z Q a b c e f g i;have A:=h.dk.later k;have nq:∀ b,Q<=b->aM b=Vd:=fun b o=>h.dk.none UU
 have st:Step anyS w.heap.size aM aM Z (cK Z Q a b c e f g i):=⟨⟨_,q,fun x j=>.inr (by have:x=Q:=YD.1 j;subst this;exact⟨nq _ (zq _),y⟩)⟩,fun _ _ h=>h,fun _ _ h=>.inl h⟩
 have rp:kv Z (Q+1) aM (bC 0 0 0 t (.slice Vd 0 0) (.slice Vd 0 0) (.slice Vd 0 0)) ⟨0,0,0,l.map (·.1),[],[],[]⟩ :=
  ⟨_,_,_,_,l,rfl,rfl,z,eD.nil _ _ _,eD.nil _ _ _,eD.nil _ _ _,(fun b o=>by cases o),fun b o=>by cases o⟩
 exact⟨r,aM,A.off q (fun x j=>by have:x=Q:=YD.1 j;subst this;exact nq _ (zq _)),h.of,h.wl,h.hl,(Step.below k).trans st,(rp.off q (fun x j=>by have:x=Q:=YD.1 j;omega)).base UU⟩
theorem TN(h:dS w d s rw_ aM):
  Vk prog 64 #[.pointer (Ve ⟨d,0,Vd⟩),.iface 183 (.agg #[])] w fun e w'=>∃ v,e=.returned v/\dX w d aM (aA.aU s .clock) v w':=by
 have I:Vj w.heap.size w ((w.alloc (.cells #[.int .i64 0,.int .i64 0,.int .i64 0,.slice Vd 0 0,.slice Vd 0 0,.slice Vd 0 0,.slice Vd 0 0] 40)).alloc (.cells #[] 183)):=((zr _ _).alloc (zq _) _).alloc UV _;have J:((w.alloc (.cells #[.int .i64 0,.int .i64 0,.int .i64 0,.slice Vd 0 0,.slice Vd 0 0,.slice Vd 0 0,.slice Vd 0 0] 40)).alloc (.cells #[] 183)).heap[w.heap.size]?=Ve aX:=(Below.heap_alloc _ _ _ UV).trans (cC w aX);have K:=(h.dk.later I).c0;rw[h.of.now] at K;have Y:=aC I;have HH:=aC h;have M:=Q7.of J;have HD:Hid (aA.aU s .clock=(s,⟨0,0,s.now,[],[],[],[]⟩)):=rfl;clear I J h;have z:=qu 183 UW;have H:=sb 183 UW;have F:=sd 183 UW;have A:=rZ 183 UW;have r:=tz 183 UW;have o:=tw 183 UW;have y:=vb 183 UW;have E:=wT 183 UW;have j:=xf 183 UW;have D:=Ab 183 UW;have G:=Ei 183 UW;have t:=Nr 183 UW;have C:=MC 183 UW;have q:=ph underlying183
 go_in
 go_upto_region 43 with fail
 change Za _ _ _ _ ((w.alloc (.cells #[.int .i64 0,.int .i64 0,.int .i64 0,.slice Vd 0 0,.slice Vd 0 0,.slice Vd 0 0,.slice Vd 0 0] 40)).alloc (.cells #[] 183));generalize ((w.alloc (.cells #[.int .i64 0,.int .i64 0,.int .i64 0,.slice Vd 0 0,.slice Vd 0 0,.slice Vd 0 0,.slice Vd 0 0] 40)).alloc (.cells #[] 183))=X at *
 have HF:Hid (∀ a b c e f g i,dX w d aM (aA.aU s .clock) (bC 0 0 s.now (.slice Vd 0 0) (.slice Vd 0 0) (.slice Vd 0 0) (.slice Vd 0 0)) (cK X w.heap.size a b c e f g i)):=fun a b c e f g i=>by
  rw[HD.out];exact HH.out.said Y.out (zq _) 0 s.now a b c e f g i
 clear z H F A r o y E j D G t C q;obtain⟨U,T,S,R,P,O,N,V⟩:=M
 go_wp2_with fail
 exact cO results64 ⟨U,T,S,R,P,O,N,V⟩ ⟨_,rfl,HF.out _ _ _ _ _ _ _⟩
attribute [local go_sem] Zj
theorem T8{F:Fence}(a:F.depth=Vd)(k:U8):F.room k:=fun d h=>by rw[a] at h;cases h
theorem RoundIn.ia{F:Fence}(q:F.depth=Vd){o:U8}{P:Program}{l:U8}{f:FuncId}{g:Array Vi}{a j:Code}{R:Ending->Vh->Prop}
  (h:RoundIn F m P l f g a j w R):RoundIn F o P l f g a j w R:=⟨h.1,fun c cs _=>h.2 c cs (T8 q _)⟩
theorem YieldAt.ia{F:Fence}(q:F.depth=Vd)(j:U8){P:Program}{l:U8}{c:Array Vi}{R:Ending->Vh->Prop}(h:YieldAt F m P l c W R):YieldAt F j P l c W R:=by
 obtain⟨t,f,a,g,o,r⟩:=h;exact⟨t,f,a,g,o,RoundIn.ia q r⟩
theorem gh.fl{x:aE.It}(h:gh w b x)(k:Vj n₀ w w')(a:b<n₀):gh w' b x :=
 ⟨(k.cell (p:=⟨b,0,Vd⟩) a).trans h.c0,(k.cell (p:=⟨b,1,Vd⟩) a).trans h.c1,(k.cell (p:=⟨b,2,Vd⟩) a).trans h.c2,(k.cell (p:=⟨b,3,Vd⟩) a).trans h.c3,h.c4.imp (fun _=>(k.cell (p:=⟨b,4,Vd⟩) a).trans),h.c5.imp (fun _=>(k.cell (p:=⟨b,5,Vd⟩) a).trans),h.c6.imp (fun _=>(k.cell (p:=⟨b,6,Vd⟩) a).trans),h.c7.imp (fun _=>(k.cell (p:=⟨b,7,Vd⟩) a).trans),fun o=>(k.frozen (p:=⟨b,o,Vd⟩) a).trans (h.fz o)⟩
theorem cR.fl{n₀:U8}{w w':Vh}(k:Vj n₀ w w'):∀ {t:aE.S}{p:Vi}{F:U5 U8},cR w t p F->(∀ i∈F,i<n₀)->cR w' t p F
 |.nil,p,F,c,_=>c
 |.node a l r,p,F,c,hd=>by
  obtain⟨b,j,h,E,D,rfl,n,C,A,z,y,q,c,rfl,o⟩:=c;have f:b<n₀:=hd b UV;exact⟨b,j,h,E,D,rfl,n.fl k f,(k.cell (p:=⟨b,4,Vd⟩) f).trans C,(k.cell (p:=⟨b,5,Vd⟩) f).trans A,(k.cell (p:=⟨b,6,Vd⟩) f).trans z,(k.cell (p:=⟨b,7,Vd⟩) f).trans y,cR.fl k q (fun i g=>hd i (by simp[g])),cR.fl k c (fun i g=>hd i (by simp[g])),rfl,o⟩
theorem RZ(F:Fence)(hd:F.depth=Vd)(h6:F.fn 255)(P:F.round=Vd)(l n₀ N:U8)(a b:U9){Q:aE.It->Prop}(J Jx:U5 {x:aE.It // Q x}->Vh->Prop)
  (hY:∀ m pre x W,J pre W->pre.length<N->YieldAt F m prog l #[.pointer (Ve ⟨x.1.v,0,Vd⟩)] W fun e W' =>
   (e=.returned (.bool Vg)/\J (pre++[x]) W'/\Vj n₀ W W')\/(e=.returned (.bool Vf)/\Jx (pre++[x]) W')) (t:aE.S):
  ∀ (n:U8) (p:U6 Addr) (G:U5 U8) (pre ys:U5 {x:aE.It // Q x}) (W:Vh),cR W t (.pointer p) G->(∀ i∈G,i<n₀)->ys.map (·.1)=aE.meet a b t->J pre W->pre.length+ys.length<=N ->
   CallsIn F n prog 255 #[.pointer p,.int .i64 a,.int .i64 b,.func (.yield l) #[] #[]] W fun e W' =>
    (e=.returned (.bool Vg)/\J (pre++ys) W'/\Vj n₀ W W')\/(e=.returned (.bool Vf)/\∃ q,q <+: ys/\Jx (pre++q) W'):=by
 induction t with
 |nil =>
  intro n p G pre ys W ht _ H hJ _;obtain⟨hp,_⟩:=ht
  cases hp
  obtain rfl:ys=[]:=ZD.1 (H.trans rfl);refine callsIn_of_wp func255 rfl h6 ?_ P;simp only[ntmps255,Zk,V6,Wa,Zl,Zm,Zn,Zo,Zp,Zq,Zr,VN]
  gi_wp2
  go_ret;exact .inl ⟨rfl,by simpa using hJ,Below.refl _ _⟩
 |node x tl tr ihl ihr =>
  intro n p G pre ys W ht hG H hJ hN;obtain⟨j,pl,U,Fl,Fr,rfl,rfl,K,c4,_⟩:=ht.half;have D:∀ k:U8,(F.depth.isSome=Vg->1<=k):=fun k h=>by rw[hd] at h;cases h
  have hb:j<n₀:=hG j UV;have ag:∀ i∈Fl,i<n₀:=fun i hi=>hG i (by simp[hi])
  have R:∀ i∈Fr,i<n₀:=fun i hi=>hG i (by simp[hi])
  generalize ai:aE.late (.node x tl tr)=la at c4
  by_cases q1:la<=a
  ·obtain rfl:ys=[]:=by
    have:aE.meet a b (.node x tl tr)=[]:=by rw[aE.meet,ai,Vb q1]
    exact ZD.1 (H.trans this)
   refine callsIn_of_wp func255 rfl h6 ?_ P;simp only[ntmps255,Zk,V6,Wa,Zl,Zm,Zn,Zo,Zp,Zq,Zr,VN]
   gi_wp2
   go_ret;exact .inl ⟨rfl,by simpa using hJ,Below.refl _ _⟩
  ·have em:aE.meet a b (.node x tl tr)=aE.meet a b tl++if b<=x.f then [] else (if a<x.t then [x] else [])++aE.meet a b tr:=by rw[aE.meet,ai,Va q1]
   rw[em] at H;obtain⟨C,y2,rfl,ad,A⟩:=ZE.1 H;clear em H;simp only[V5] at hN;have c0:=K.n.c0;have c1:=K.n.c1;have c3:=K.n.c3;have c6:=K.c6;have c7:=K.c7
   by_cases q2:b<=x.f
   ·rw[Vb q2] at A;obtain rfl:y2=[]:=ZD.1 A
    have y:=(ihl (n-1) pl Fl pre C W K.l ag ad hJ (by simpa using hN)).mono (R':=fun e g =>
      (e=.returned (.bool Vg)/\J (pre++C) g/\Vj n₀ W g/\g.cell? ⟨j,0,Vd⟩=Ve (.int .i64 x.f))\/(e=.returned (.bool Vf)/\∃ q,q <+: C/\Jx (pre++q) g))
     (fun e g h=>h.elim (fun ⟨he,hj,c⟩=>.inl ⟨he,hj,c,(c.cell (p:=⟨j,0,Vd⟩) hb).trans c0⟩) .inr)
    clear ihl ihr K ht;refine callsIn_of_wp func255 rfl h6 ?_ P;simp only[ntmps255,Zk,V6,Wa,Zl,Zm,Zn,Zo,Zp,Zq,Zr,VN]
    gi_wp2_with (first
     |((try refine⟨D _,?_⟩);gi_at_call 255;refine y.mono ?_;clear y;rintro e g (⟨rfl,af,c,aj⟩|⟨rfl,q,T,O⟩)))
    ·go_ret;exact .inl ⟨rfl,by simpa using af,c⟩
    ·go_ret;exact .inr ⟨rfl,q,by simpa using T,O⟩
   ·rw[Va q2] at A;have aw:x.f<b:=UU
    obtain⟨y3,y4,rfl,I,ac⟩:=ZE.1 A;clear A;simp only[V5] at hN
    by_cases q3:a<x.t
    ·rw[Vb q3] at I
     obtain⟨o,rfl,an⟩:∃ o:{x:aE.It // Q x},y3=[o]/\o.1=x:=by
      rcases y3 with _|⟨o,_|⟨z,r⟩⟩
      ·simp at I
      ·exact⟨o,rfl,by simpa using I⟩
      ·simp at I
     subst an;simp only[V6,Wa] at hN
     have A:∀ g,J (pre++C) g->Vj n₀ W g->YieldAt F (n-1) prog l #[.pointer (Ve ⟨o.1.v,0,Vd⟩)] g fun e M =>
       (e=.returned (.bool Vg)/\J (pre++C++[o]) M/\Vj n₀ W M/\M.cell? ⟨j,7,Vd⟩=Ve (.pointer U)/\cR M tr (.pointer U) Fr)\/(e=.returned (.bool Vf)/\Jx (pre++C++[o]) M):=fun g af c =>
      YieldAt.mono (hY (n-1) _ o g af U0) fun e M h=>h.elim
       (fun ⟨he,hj,E⟩=>.inl ⟨he,hj,c.trans E,((c.trans E).cell (p:=⟨j,7,Vd⟩) hb).trans c7,K.r.fl (c.trans E) R⟩) .inr
     have y:=(ihl (n-1) pl Fl pre C W K.l ag ad hJ UU).mono (R':=fun e g =>
       (e=.returned (.bool Vg)/\g.cell? ⟨j,0,Vd⟩=Ve (.int .i64 o.1.f)/\g.cell? ⟨j,1,Vd⟩=Ve (.int .i64 o.1.t)/\g.cell? ⟨j,3,Vd⟩=Ve (.pointer (Ve ⟨o.1.v,0,Vd⟩))/\YieldAt F (n-1) prog l #[.pointer (Ve ⟨o.1.v,0,Vd⟩)] g fun e M =>
        (e=.returned (.bool Vg)/\J (pre++C++[o]) M/\Vj n₀ W M/\M.cell? ⟨j,7,Vd⟩=Ve (.pointer U)/\cR M tr (.pointer U) Fr)\/(e=.returned (.bool Vf)/\Jx (pre++C++[o]) M)) \/
       (e=.returned (.bool Vf)/\∃ q,q <+: C/\Jx (pre++q) g))
      (fun e g h=>h.elim (fun ⟨he,hj,c⟩=>.inl ⟨he,(c.cell (p:=⟨j,0,Vd⟩) hb).trans c0,(c.cell (p:=⟨j,1,Vd⟩) hb).trans c1,(c.cell (p:=⟨j,3,Vd⟩) hb).trans c3,A g hj c⟩) .inr)
     clear A ihl K ht;refine callsIn_of_wp func255 rfl h6 ?_ P;simp only[ntmps255,Zk,V6,Wa,Zl,Zm,Zn,Zo,Zp,Zq,Zr,VN]
     gi_wp2_with (first
      |((try refine⟨D _,?_⟩);gi_at_call 255;refine y.mono ?_;clear y;rintro e g (⟨rfl,aj,aq,ax,fn,ar,ak,au,hy,hR⟩|⟨rfl,q,T,O⟩))
      |((try refine⟨D _,?_⟩);refine hR.mono ?_;clear hR;rintro e M (⟨rfl,ab,E,ao,X⟩|⟨rfl,al⟩))
      |((try refine⟨D _,?_⟩);gi_at_call 255;refine (ihr (n-1) U Fr _ y4 _ X R ac ab U0).mono ?_;rintro e W3 (⟨rfl,aa,Y⟩|⟨rfl,q,T,V⟩)))
     ·go_ret;exact .inl ⟨rfl,by simpa[VZ] using aa,E.trans Y⟩
     ·go_ret;obtain⟨r,ae⟩:=T;exact .inr ⟨rfl,C++o :: q,⟨r,by simp[<- ae]⟩,by simpa[VZ] using V⟩
     ·go_ret;exact .inr ⟨rfl,C++[o],⟨y4,by simp⟩,by simpa[VZ] using al⟩
     ·go_ret;exact .inr ⟨rfl,q,T.trans ⟨_,rfl⟩,O⟩
    ·rw[Va q3] at I;obtain rfl:y3=[]:=ZD.1 I;have av:x.t<=a:=UU
     simp only[Wa] at hN
     have y:=(ihl (n-1) pl Fl pre C W K.l ag ad hJ UU).mono (R':=fun e g =>
       (e=.returned (.bool Vg)/\g.cell? ⟨j,0,Vd⟩=Ve (.int .i64 x.f)/\g.cell? ⟨j,1,Vd⟩=Ve (.int .i64 x.t)/\g.cell? ⟨j,7,Vd⟩=Ve (.pointer U)/\cR g tr (.pointer U) Fr/\J (pre++C) g/\Vj n₀ W g) \/
       (e=.returned (.bool Vf)/\∃ q,q <+: C/\Jx (pre++q) g))
      (fun e g h=>h.elim (fun ⟨he,hj,c⟩=>.inl ⟨he,(c.cell (p:=⟨j,0,Vd⟩) hb).trans c0,(c.cell (p:=⟨j,1,Vd⟩) hb).trans c1,(c.cell (p:=⟨j,7,Vd⟩) hb).trans c7,K.r.fl c R,hj,c⟩) .inr)
     clear ihl K ht;refine callsIn_of_wp func255 rfl h6 ?_ P;simp only[ntmps255,Zk,V6,Wa,Zl,Zm,Zn,Zo,Zp,Zq,Zr,VN]
     gi_wp2_with (first
      |((try refine⟨D _,?_⟩);gi_at_call 255;refine y.mono ?_;clear y;rintro e g (⟨rfl,aj,aq,ao,X,ab,E⟩|⟨rfl,q,T,O⟩))
      |((try refine⟨D _,?_⟩);gi_at_call 255;refine (ihr (n-1) U Fr _ y4 _ X R ac ab U0).mono ?_;rintro e W3 (⟨rfl,aa,Y⟩|⟨rfl,q,T,V⟩)))
     ·refine⟨fun _ h=>(by cases h),?_⟩
      gi_wp2_with (first
       |((try refine⟨D _,?_⟩);gi_at_call 255;refine (ihr (n-1) U Fr _ y4 _ X R ac ab U0).mono ?_;rintro e W3 (⟨rfl,aa,Y⟩|⟨rfl,q,T,V⟩)))
      ·go_ret;exact .inl ⟨rfl,by simpa[VZ] using aa,E.trans Y⟩
      ·go_ret;obtain⟨r,ae⟩:=T;exact .inr ⟨rfl,C++q,⟨r,by simp[<- ae]⟩,by simpa[VZ] using V⟩
     ·go_ret;exact .inr ⟨rfl,q,T.trans ⟨_,rfl⟩,O⟩
theorem TI(W:Vh):W.grownBy W.drew Vd:=⟨rfl,rfl,rfl,Nat.le_refl _,fun _ _ _=>rfl⟩
theorem Tt(l O N M n₀:U8)(C o:U8)(y:U6 Addr)(a b:U9)(t:aE.S)(G:U5 U8){Q:aE.It->Prop}(xs:U5 {x:aE.It // Q x})(f:xs.map (·.1)=aE.meet a b t)(J r:U5 {x:aE.It // Q x}->Vh->Prop)
  (E:∀ m pre x W,J pre W->pre.length<xs.length->YieldAt Zt m prog l #[.pointer (Ve ⟨x.1.v,0,Vd⟩)] W fun e c =>
   (e=.returned (.bool Vg)/\J (pre++[x]) c/\Vj n₀ W c)\/(e=.returned (.bool Vf)/\r (pre++[x]) c))
  (j:∀ pre W,J pre W->J pre W.drew)
  (W:Vh) (X:W.cell? ⟨O,0,Vd⟩=Ve (.pointer (Ve ⟨C,o,Vd⟩))) (V:W.cell? ⟨N,0,Vd⟩=Ve (.int .i64 a)) (U:W.cell? ⟨M,0,Vd⟩=Ve (.int .i64 b)) (Y:W.cell? ⟨C,o,Vd⟩=Ve (.pointer y)) (F:cR W t (.pointer y) G) (H:∀ i∈G,i<n₀) (I:J [] W):
  Vk prog 254 #[.func (.yield l) #[] #[],.pointer (Ve ⟨O,0,Vd⟩),.pointer (Ve ⟨N,0,Vd⟩),.pointer (Ve ⟨M,0,Vd⟩)] W fun e c=>(∃ v,e=.returned v) /\
   ((∃ ys,ys=xs/\J ys c)\/(∃ pre,pre <+: xs/\r pre c)):=by
 have D:=callsIn_wide.1 (RZ Zt rfl trivial rfl l n₀ xs.length a b J r E t 0 y G [] xs W.drew (F.same (aF.refl _ _).drew) H f (j _ _ I) UV)
 have z:=aC (D.mono (R':=fun e c=>(∃ K,e=.returned (.bool K))/\((∃ ys,ys=xs/\J ys c)\/(∃ pre,pre <+: xs/\r pre c)))
  (fun e c h=>h.elim (fun ⟨A,T,_⟩=>⟨⟨_,A⟩,.inl ⟨_,rfl,by simpa using T⟩⟩) (fun ⟨A,q,R,P⟩=>⟨⟨_,A⟩,.inr ⟨q,R,by simpa using P⟩⟩)))
 clear D E j I f F H
 go_in
 go_upto_region 0 with fail
 go_region_with (first
  |(go_at_call 255;refine z.out.mono ?_;rintro e W1 ⟨⟨K,rfl⟩,g⟩))
 all_goals
  go_wp2
  go_end0
  exact⟨⟨_,rfl⟩,g⟩
open aA (aL St dB kept dZ cS cN gD cA bW gJ ec gy nk Inv uniq uc xX)
def QI(r:Raw)(x:aE.It):Prop:=∃ g∈r.eg,x.v=g.eb/\x.n=g.e.id
theorem RV{r:Raw}(f:Of s r)(j:(r.eg.map (·.e.id)).Nodup)(o:i<r.tg.length){a b:U9}{z:aE.It}(c:z∈aE.meet a b r.tg[i].T):QI r z:=by
 obtain⟨_,y,t⟩:=f.th i o;rw[aE.xP a b _ y] at c;obtain⟨e,q,_,sp,_,rfl⟩:=(t z).1 (List.mem_filter.1 c).1;obtain⟨g,h,rfl⟩:=f.get q;exact⟨g,h,Br j h,rfl⟩
def xu(r:Raw):(l:U5 aE.It)->(∀ z∈l,QI r z)->U5 {x:aE.It // QI r x}
 |[],_=>[]
 |z :: l,h=>⟨z,h z UV⟩ :: xu r l (fun y a=>h y (by simp[a]))
theorem Ib(r:Raw):∀ (l:U5 aE.It)(h:∀ z∈l,QI r z),(xu r l h).map (·.1)=l
 |[],_=>rfl
 |z :: l,h=>by simp[xu,Ib r l]
structure jK(s:St)(M:U5 aE.It)(l:U5 (aL × Vi)):Prop where
 len:l.length=(uniq M).length
 at_:∀ (i:U8) (h:i<l.length),l[i].1∈s.es/\l[i].1.id=((uniq M)[i]'UU).n
 nd:(l.map (·.1.id)).Nodup
theorem jK.nil(s:St):jK s [] []:=⟨rfl,fun i h=>by simp at h,by simp⟩
theorem jK.any{M:U5 aE.It}(h:jK s M l)(n:U9):l.any (fun p=>p.1.id==n)=(uniq M).any (fun u=>decide (u.n=n)):=by
 rw[Bool.eq_iff_iff,XI,XI];constructor
 ·rintro ⟨p,g,e⟩;obtain⟨i,a,rfl⟩:=XZ g;have:=h.at_ i a;exact⟨_,ZC (by have:=h.len;omega:i<(uniq M).length),by simpa[<- this.2] using e⟩
 ·rintro ⟨u,f,e⟩;obtain⟨i,a,rfl⟩:=XZ f;have c:i<l.length:=by rw[h.len];exact a
  have:=h.at_ i c;exact⟨_,ZC c,by rw[this.2];simpa using e⟩
theorem jK.JM{M:U5 aE.It}(h:jK s M l){z:aE.It}(c:l.any (fun p=>p.1.id==z.n)=Vg):jK s (M++[z]) l:=by
 have e:uniq (M++[z])=uniq M:=by rw[xX];unfold uc;rw[<- h.any z.n,c];rfl
 exact⟨by rw[e];exact h.len,fun i a=>by have:=h.at_ i a;simp only[e];exact this,h.nd⟩
theorem jK.rD{M:U5 aE.It}(h:jK s M l){z:aE.It}(j:uniq (M++[z])=uniq M++[z]){e:aL}(q:e∈s.es)(o:e.id=z.n){sp:Vi}(g:i<(l++[(e,sp)]).length):(l++[(e,sp)])[i].1∈s.es/\(l++[(e,sp)])[i].1.id=((uniq (M++[z]))[i]'(by rw[j];have:=h.len;simp at g ⊢;omega)).n:=by
 have c:=h.len;simp only[j];rw[V5] at g
 by_cases a:i<l.length
 ·rw[Zh a,Zh UU];exact h.at_ i a
 ·have f:i=l.length:=by simp at g;omega
  subst f;rw[ZF (zq _),ZF UU];simp[c,q,o]
theorem jK.new{M:U5 aE.It}(h:jK s M l){z:aE.It}(g:l.any (fun p=>p.1.id==z.n)=Vf){e:aL}(A:e∈s.es)(f:e.id=z.n)(sp:Vi):jK s (M++[z]) (l++[(e,sp)]):=by
 have j:uniq (M++[z])=uniq M++[z]:=by rw[xX];unfold uc;rw[<- h.any z.n,g];rfl
 have a:=h.len;refine⟨by rw[j];simp[a],fun i t=>?_,?_⟩
 ·exact jK.rD h j A f t
 ·rw[Wr,List.nodup_append];refine⟨h.nd,by simp,fun x q y o=>?_⟩;obtain⟨p,r,rfl⟩:=Wm.1 q;have:y=e.id:=by simpa using o
  subst this;intro c;have:=ZB.1 g p r;simp[c,f] at this
theorem GS:∀ {l m:U5 U9},l.Nodup->(∀ x∈l,x∈m)->l.length<=m.length
 |[],_,_,_=>zN _
 |a :: l,m,hn,h=>by
  rw[List.nodup_cons] at hn;have f:=h a UV;have:=GS (l:=l) (m:=m.erase a) hn.2 (fun x c=>(List.mem_erase_of_ne (show x≠a from fun e=>hn.1 (by rw[<- e];exact c))).2 (h x (by simp[c])));rw[List.length_erase_of_mem f] at this;have:=List.length_pos_of_mem f;simp;omega
theorem jK.small{M:U5 aE.It}(h:jK s M l):l.length<=s.es.length:=by
 have:=GS (m:=s.es.map (·.id)) h.nd (fun x a=>by
  obtain⟨p,c,rfl⟩:=Wm.1 a;obtain⟨i,f,rfl⟩:=XZ c
  exact Wm.2 ⟨_,(h.at_ i f).1,rfl⟩)
 simpa using this
theorem Bg{size:U8}(h:w.ownsRow B e size v n xs)(c:v.ownBlock=Ve b):∃ cs k,w.heap[b]?=Ve (.cells cs e k):=by
 rcases h.2 with ⟨rfl,_⟩|⟨g,cap,f,rfl,_,a,_⟩
 ·cases c
 ·obtain rfl:g=b:=by simpa[WI] using c
  exact⟨_,_,a⟩
theorem gI.uo{j:Vh}(h:gI wx B aM v l){e:aL}{sp:Vi}(y:j.ownsRow wx.heap.size 60 2 sp e.aK.length (e.aK.flatMap fC))(k:Vj wx.heap.size wx j)(E:B<=wx.heap.size)(D:∀ b,B<=b->aM b=Vd)(C:aF v.ownBlock.toList j w3)(f:w3.ownsRow B 58 6 v' (l.length+1) (l.flatMap ef++ef (e,sp))):
  gI w3 B aM v' (l++[(e,sp)]):=by
 have r:∀ b,v.ownBlock=Ve b->b<wx.heap.size:=fun b a=>(h.own.lt b a).2
 have z:∀ p∈l,w3.ownsRow B 60 2 p.2 p.1.aK.length (p.1.aK.flatMap fC):=fun p c=>dO (eu (h.sp p c).1.own k) C (fun b a g=>(h.sp p c).2 b a (WW.1 g))
 have o:w3.ownsRow B 60 2 sp e.aK.length (e.aK.flatMap fC):=dO (YF y E) C (fun b a g=>by have G:=(y.lt b a).1;have F:=r b (WW.1 g);omega)
 have A:∀ {q:Vi}{n:U8}{xs:U5 Vi},w3.ownsRow B 60 2 q n xs->∀ b,q.ownBlock=Ve b->v'.ownBlock≠Ve b:=fun t b a g=>by
  obtain⟨N,K,I⟩:=Bg t a;obtain⟨M,J,H⟩:=Bg f g;have:=I.symm.trans H;simp at this
 refine⟨?_,fun b a=>D b (f.lt b a).1,fun p c=>?_,?_⟩
 ·rw[V5,Wx];have:[(e,sp)].flatMap ef=ef (e,sp):=UV
  rw[this];exact f
 ·rcases VB.1 c with c|c
  ·exact⟨⟨z p c,(h.sp p c).1.no⟩,A (z p c)⟩
  ·have:p=(e,sp):=YD.1 c;subst this;exact⟨⟨o,fun b a=>D b (o.lt b a).1⟩,A o⟩
 ·refine List.pairwise_append.2 ⟨h.pw,List.pairwise_singleton _ _,fun p c q t b a g=>?_⟩;rw[YD.1 t] at g;have G:=(y.lt b g).1;have F:=((h.sp p c).1.own.lt b a).2;omega
theorem Te(p:U6 Addr)(a b:U9)(w:Vh):
  Vk prog 207 #[.pointer p,.int .i64 a,.int .i64 b] w fun e w'=>e=.returned (.func (.func 254) #[] #[.pointer (Ve ⟨w.heap.size,0,Vd⟩),.pointer (Ve ⟨w.heap.size+1,0,Vd⟩),.pointer (Ve ⟨w.heap.size+2,0,Vd⟩)])/\w'=((w.alloc (.cells #[.pointer p] 301)).alloc (.cells #[.int .i64 a] 3)).alloc (.cells #[.int .i64 b] 3):=by
 go_in
 go_wp2
 go_ret;exact⟨rfl,rfl⟩
theorem RY(n:U8)(r:Raw)(A z y n₀ g o:U8)(h:U6 Addr)(a b:U9)(t:aE.S)(G:U5 U8)(xs:U5 {x:aE.It // QI r x})(j:xs.map (·.1)=aE.meet a b t)(w:Vh)(O:w.cell? ⟨A,0,Vd⟩=Ve (.pointer (Ve ⟨g,o,Vd⟩)))(N:w.cell? ⟨z,0,Vd⟩=Ve (.int .i64 a))(M:w.cell? ⟨y,0,Vd⟩=Ve (.int .i64 b))(F:w.cell? ⟨g,o,Vd⟩=Ve (.pointer h))(I:cR w t (.pointer h) G)(C:∀ i∈G,i<n₀)(D:n₀<=w.heap.size):
  SeqStopsK Zt n prog 254 #[.pointer (Ve ⟨A,0,Vd⟩),.pointer (Ve ⟨z,0,Vd⟩),.pointer (Ve ⟨y,0,Vd⟩)] (fun x:{x:aE.It // QI r x}=>#[Value.pointer (Ve ⟨x.1.v,0,Vd⟩)]) (Vj n₀) (fun ys=>ys=xs) (fun pre=>pre <+: xs) xs.length w:=by
 intro l J R W c K _ H P;refine callsIn_wide.2 ?_;exact Tt l A z y n₀ g o h a b t G xs j J R (fun m pre x f q E=>YieldAt.ia rfl m (H pre x f q E)) (fun pre f q=>K pre f _ Vd q (TI f) (fun r e=>by cases e)) W (aN c O) (aN c N) (aN c M) (aN c F) (I.fl (c.mono D) C) C P
end Go.Proofs.YtfigmlfdnickmaaGreatDoor
