import Derived.Test.YtfigmlfdnickmaaGreatDoorL04
import Derived.Test.YtfigmlfdnickmaaGreatDoorProg
import Derived.Test.YtfigmlfdnickmaaGreatDoorShelf
import Derived.WalkKit
import Derived.WalkSpells
import Derived.WalkLawsBesides
import Derived.Deep.QuietTactic
import Derived.BigQuiet
import Derived.Lib.SmallJoins
import Derived.Deep.RegionHeld3
import Derived.Deep.AppendLies
set_option maxRecDepth 100000
set_option maxHeartbeats 8000000
open Go.Proofs.Tryz
open _root_ renaming ByteArray->U4,List->U5,Bool->U7,Nat->U8,Int->U9,if_neg->Va,if_pos->Vb,absurd->Vc
open Option renaming none->Vd,some->Ve,mem_toList->WW,bind_some->YT
open Bool renaming false->Vf,true->Vg,and_false->YP,and_eq_true->W7,false_eq_true->Vx,true_and->YX,and_self->YZ,eq_iff_iff->Xc,beq_comm->Y4
open Go renaming World->Vh,Value->Vi,Calls->Vk
open Go.RowKit renaming Below->Vj
open List renaming mem_singleton->YD,length_take->Yp,all_cons->YV,map_append->Wr,length_append->V5,append_nil->X5,drop_eq_getElem_cons->WQ
open Go.World renaming cell?->VL,block_lt_of_cell?->Vr,cell?_setCell_same->VF,var?->YS
open Nat renaming le_refl->Vn,zero_le->Wh,le_trans->Vq
open Go.Ending renaming returned->Vo
open Int renaming add_zero->YK,sub_zero->YL,natCast_nonneg->Y6
open Go.Exit renaming inBlock->WG
open ByteArray renaming size_extract->Xv,empty->YN
open Go.Calls renaming quiet_of->YM,quiet_of_same->YQ
open Go.Lib renaming TabIs->YR,decFrom->YU,atoi->YW,cut->Xd,countB->Y5
open Go.Value renaming string->Y0,ownBlock->WI
namespace Go.Proofs.YtfigmlfdnickmaaGreatDoor
variable{c wr:U7}{s:U4}{a m y:U9}{ws:U5 U4}{acc:U5 U9}{l:U5 UInt8}{xs:U5 Vi}{A B R b d e hi k lo n nx o:U8}{aM col1:U8->Option aW}{v:Vi}{X w w' w1 w4 wx:Vh}
open Go.RowKit
open aA (aL St dB kept dZ cS cN gD cA bW gJ ec gy nk Inv)
theorem xr{S:aW->Prop}{W p Z:Vh}{x:U8->Option aW}{g size:U8}{u:Vi}(h:w1.ownsRow g e size v n xs)(t:∀ b,v.ownBlock=Ve b->col1 b=Vd)(r:Vj w1.heap.size w1 W)(q:Step S W.heap.size col1 x W w4)(C:aF u.ownBlock.toList w4 p)(z:aF [R] p Z)(F:w1.heap.size<=R)(D:∀ b,v.ownBlock=Ve b->u.ownBlock≠Ve b):
  Z.ownsRow g e size v n xs/\∀ b,v.ownBlock=Ve b->x b=Vd:=by
 have j:∀ b,v.ownBlock=Ve b->b<w1.heap.size:=fun b f=>(h.lt b f).2
 have E:=r.size;refine⟨dO (dO (q.own (eu h r) (fun b f=>⟨t b f,by have:=j b f;omega⟩)) C (fun b f i=>D b f (WW.1 i))) z (fun b f i=>?_),fun b f=>q.cU (t b f) (by have:=j b f;omega)⟩;have:=j b f;have:b=R:=YD.1 i;omega
theorem Sj{s1:St}{r1:Raw}{p:aA.bO}{D at_ n:U9}{z u j t v2:Vi}{l:U5 (aL × Vi)}(hX:Vj w.heap.size w X)(P:w.heap.size<X.heap.size)(h7:Q7 X w.heap.size)(Z:aM w.heap.size=Vd)
  (k1:DK w1 d r1 col1) (k5:Step anyS X.heap.size aM col1 X w1) (hl:l.map (·.1)=p.entries) (M:gI w1 X.heap.size col1 z l) (e4:eD w1 X.heap.size col1 u p.days) (e5:eD w1 X.heap.size col1 j p.granted) (e6:eD w1 X.heap.size col1 t p.ended) (e7:∀ b,j.ownBlock=Ve b->z.ownBlock≠Ve b/\u.ownBlock≠Ve b/\t.ownBlock≠Ve b/\∀ q∈l,q.2.ownBlock≠Ve b) (e8:∀ b,u.ownBlock=Ve b->t.ownBlock≠Ve b) (e1:D=p.err/\at_=p.at_/\n=p.n)
  (g:Cz (w1.alloc (.cells #[.int .i64 D,.int .i64 at_,.int .i64 n,z,u,j,t] 40)).drew d s1 col1 v2 w4) (i:p.granted.length+(aA.ey s1.ts s1.es).2.length<=100000):
  ∃ a m cap w5,(∀ ty,(Builtin.append_ #[38,38] ty #[j,v2]).run prog w4=.ok (.slice a m cap) w5)/\w4.cell? ⟨w1.heap.size,5,Vd⟩=Ve j/\w5.heap[w1.heap.size]?=Ve (.cells #[.int .i64 D,.int .i64 at_,.int .i64 n,z,u,j,t] 40 (0,0))/\Q7 (w5.setCell ⟨w1.heap.size,5,Vd⟩ (.slice a m cap)) w.heap.size /\
   ∀ x1 x2 x3 x4 x5 x6 x7,dX w d aM ({ s1 with es:=(aA.ey s1.ts s1.es).1 },{ p with granted:=p.granted++(aA.ey s1.ts s1.es).2 }) (bC D at_ n z u (.slice a m cap) t) (cK (w5.setCell ⟨w1.heap.size,5,Vd⟩ (.slice a m cap)) w.heap.size x1 x2 x3 x4 x5 x6 x7):=by
 have N:Vj w1.heap.size w1 (w1.alloc (.cells #[.int .i64 D,.int .i64 at_,.int .i64 n,z,u,j,t] 40)).drew:=((zr _ _).alloc (zq _) _).drew;have ae:(w1.alloc (.cells #[.int .i64 D,.int .i64 at_,.int .i64 n,z,u,j,t] 40)).drew.heap[w1.heap.size]?=Ve (.cells #[.int .i64 D,.int .i64 at_,.int .i64 n,z,u,j,t] 40 (0,0)):=cC w1 _;have O:w1.heap.size<(w1.alloc (.cells #[.int .i64 D,.int .i64 at_,.int .i64 n,z,u,j,t] 40)).drew.heap.size:=by show _<(w1.alloc _).heap.size;simp
 generalize (w1.alloc (.cells #[.int .i64 D,.int .i64 at_,.int .i64 n,z,u,j,t] 40)).drew=W at *;obtain⟨r4,C,q1,q2,q3,q4,r,q6⟩:=g;have aa:=hX.size;have ak:=k5.size;have ab:col1 w1.heap.size=Vd:=k1.none (zq _);have g4:=(e5.later N).step r (zq _);obtain⟨v3,w5,a1,a2,a3,a4⟩:=g4.append (q6.base (B':=X.heap.size) UU) (by have:=r.size;omega) (fun b i=>q1.none i) i;obtain⟨F,E,rfl⟩:=a2.slice;have G:aF j.ownBlock.toList w4 w5:=aF.grown (aF.refl _ w4) a3 (fun k hk=>.inl (WW.2 hk));have Y:∀ b,j.ownBlock=Ve b->b<w1.heap.size:=fun b i=>(e5.own.lt b i).2
 have ac:w4.heap[w1.heap.size]?=Ve _:=(r.bV O ab O).trans ae;have af:w5.heap[w1.heap.size]?=Ve _:=(G.block _ (by have:=r.size;omega) (fun f=>by have:=Y _ (WW.1 f);omega)).trans ac;have H:=aF.aY w1.heap.size w5 5 (.slice F (p.granted++(aA.ey s1.ts s1.es).2).length E);have J:C w1.heap.size=Vd:=r.cU ab O;have L:col1 w.heap.size=Vd:=k5.cU Z P;have K:C w.heap.size=Vd:=r.cU L UU
 have U:∀ b,(Value.slice F (p.granted++(aA.ey s1.ts s1.es).2).length E).ownBlock=Ve b->j.ownBlock=Ve b\/b=w4.heap.size:=fun b i=>by
  rcases a4 with e|e
  ·exact .inl (by rw[<- e];exact i)
  ·rw[i] at e;exact .inr (Option.some.inj e)
 have aj:=r.size
 have ai:Q7 (w5.setCell ⟨w1.heap.size,5,Vd⟩ (.slice F (p.granted++(aA.ey s1.ts s1.es).2).length E)) w.heap.size:=by
  refine h7.later ?_;have b1:=k5.bV P Z P;have b2:=N.block w.heap.size UU;have b3:=r.bV (b:=w.heap.size) UU L UU;have b4:=G.block w.heap.size UU (fun f=>by have:=(e5.own.lt _ (WW.1 f)).1;omega);have b5:=H.block w.heap.size (by have:=G.size;omega) U0;rw[b5,b4,b3,b2,b1]
 have Q:=xr M.own M.no N r G H (zq _) (fun b i f=>(e7 b f).1 i);have T:=xr e4.own e4.no N r G H (zq _) (fun b i f=>(e7 b f).2.1 i);have S:=xr e6.own e6.no N r G H (zq _) (fun b i f=>(e7 b f).2.2.1 i)
 have ad:∀ q∈l,qM (w5.setCell ⟨w1.heap.size,5,Vd⟩ (.slice F (p.granted++(aA.ey s1.ts s1.es).2).length E)) X.heap.size C q.2 q.1.aK:=fun q I=>by
  have x:=xr (M.sp q I).1.own (M.sp q I).1.no N r G H (zq _) (fun b i f=>(e7 b f).2.2.2 q I i);exact⟨x.1,x.2⟩
 refine⟨F,_,E,w5,a1,?_,af,ai,fun x1 x2 x3 x4 x5 x6 x7=>?_⟩
 ·simp only[VL,ac];rfl
 ·have kq:=lF (w5.setCell ⟨w1.heap.size,5,Vd⟩ (.slice F (p.granted++(aA.ey s1.ts s1.es).2).length E)) w.heap.size x1 x2 x3 x4 x5 x6 x7;have ag:∀ x∈[w.heap.size],x<X.heap.size:=fun x f=>by have:x=w.heap.size:=YD.1 f;omega
  have V:kv (w5.setCell ⟨w1.heap.size,5,Vd⟩ (.slice F (p.granted++(aA.ey s1.ts s1.es).2).length E)) X.heap.size C (bC D at_ n z u (.slice F (p.granted++(aA.ey s1.ts s1.es).2).length E) t) { p with granted:=p.granted++(aA.ey s1.ts s1.es).2 }:=by
   refine⟨z,u,_,t,l,by rw[e1.1,e1.2.1,e1.2.2],hl,⟨Q.1,Q.2,fun q I=>⟨ad q I,(M.sp q I).2⟩,M.pw⟩,⟨T.1,T.2⟩,⟨dO a2.own H (fun b i f=>?_),a2.no⟩,⟨S.1,S.2⟩,fun b i=>?_,e8⟩
   ·have e:b=w1.heap.size:=YD.1 f;rcases U b i with e2|e2
    ·have:=Y b e2;omega
    ·omega
   ·rcases U b i with e2|e2
    ·exact e7 b e2
    ·refine⟨fun e=>?_,fun e=>?_,fun e=>?_,fun q I e=>?_⟩
     ·have:=(M.own.lt b e).2;omega
     ·have:=(e4.own.lt b e).2;omega
     ·have:=(e6.own.lt b e).2;omega
     ·have:=((M.sp q I).1.own.lt b e).2;omega
  refine⟨r4,C,((q1.off G (fun x f=>g4.no x (WW.1 f))).off H (fun x f=>by have:x=w1.heap.size:=YD.1 f;subst this;exact J)).off kq (fun x f=>by have:x=w.heap.size:=YD.1 f;subst this;exact K),q2,q3,q4,?_,(V.off kq ag).base aa⟩;have t1:Step anyS w.heap.size aM col1 w w1:=(Step.below hX).trans (k5.any aa);have t2:Step anyS w.heap.size aM C w w4:=(t1.trans (Step.below N)).trans (r.any UU);have t3:Step anyS w.heap.size C C w4 w5:=⟨⟨_,G,fun x f=>.inr ⟨g4.no x (WW.1 f),by have:=(e5.own.lt x (WW.1 f)).1;omega⟩⟩,fun _ _ h=>h,fun _ _ h=>.inl h⟩;have t4:Step anyS w.heap.size C C w5 (w5.setCell ⟨w1.heap.size,5,Vd⟩ (.slice F (p.granted++(aA.ey s1.ts s1.es).2).length E)):=⟨⟨_,H,fun x f=>.inr (by have:x=w1.heap.size:=YD.1 f;subst this;exact⟨J,by omega⟩)⟩,fun _ _ h=>h,fun _ _ h=>.inl h⟩;have t5:Step anyS w.heap.size C C _ _:=⟨⟨_,kq,fun x f=>.inr (by have:x=w.heap.size:=YD.1 f;subst this;exact⟨K,Vn _⟩)⟩,fun _ _ h=>h,fun _ _ h=>.inl h⟩;exact ((t2.trans t3).trans t4).trans t5
theorem kv.later{p:aA.bO}(h:kv w B aM v p)(k:Vj w.heap.size w w'):kv w' B aM v p:=by
 obtain⟨g,C,f,i,l,z,x,u,t,r,q,j⟩:=h;exact⟨g,C,f,i,l,z,x,u.later k,t.later k,r.later k,q.later k,j⟩
theorem dX.later{w2:Vh}{q:St × aA.bO}(h:dX X d aM q v w1)(k:Vj w1.heap.size w1 w2):dX X d aM q v w2:=by
 obtain⟨g,f,u,t,r,p,j,i⟩:=h;exact⟨g,f,u.later k,t,r,p,j.trans (Step.below k),i.later k⟩
theorem Rf{s:St}{l:aA.fJ}(h:(aA.aU s l).2.err≠0):aA.ig s l=aA.aU s l:=by unfold aA.ig;rw[Vb h]
theorem P4{s:St}{l:aA.fJ}(h:(aA.aU s l).2.err=0):aA.ig s l=({ (aA.aU s l).1 with es:=(aA.ey (aA.aU s l).1.ts (aA.aU s l).1.es).1 },{ (aA.aU s l).2 with granted:=(aA.aU s l).2.granted++(aA.ey (aA.aU s l).1.ts (aA.aU s l).1.es).2 }):=by unfold aA.ig;rw[Va UU]
theorem NU{a b c d e f g:Vi}(h:w.heap[R]?=Ve (.cells #[a,b,c,d,e,f,g] 40 (0,0))):w.cell? ⟨R,0,Vd⟩=Ve a/\w.cell? ⟨R,1,Vd⟩=Ve b/\w.cell? ⟨R,2,Vd⟩=Ve c/\w.cell? ⟨R,3,Vd⟩=Ve d/\w.cell? ⟨R,4,Vd⟩=Ve e/\w.cell? ⟨R,5,Vd⟩=Ve f/\w.cell? ⟨R,6,Vd⟩=Ve g/\∀ o,w.frozen? ⟨R,o,Vd⟩=Vf:=by
 refine⟨?_,?_,?_,?_,?_,?_,?_,fun o=>frozen_of_row _ R o _ _ h⟩
 all_goals (simp only[VL,h];rfl)
theorem Oy{s:St}{r:Raw}(h:dS w d s r aM)(f:Vi)(l:aA.fJ)(aa:aA.ec (aA.aU s l).1)(x:(aA.aU s l).2.granted.length<=50000)
  (j:∀ X,Vj w.heap.size w X->dS X d s r aM->Vk prog 64 #[.pointer (Ve ⟨d,0,Vd⟩),f] X fun e w'=>∃ v,e=.returned v/\dX X d aM (aA.aU s l) v w'):
  Vk prog 46 #[.pointer (Ve ⟨d,0,Vd⟩),f] w fun e w'=>∃ v,e=.returned v/\dX w d aM (aA.ig s l) v w':=by
 have P:Vj w.heap.size w (w.alloc aX):=(zr _ _).alloc (zq _) _;have hq:=cC w aX;have hs:w.heap.size<(w.alloc aX).heap.size:=UV
 have AN:=aC (j (w.alloc aX) P ⟨h.dk.later P,h.of,h.wl,h.hl,h.inv⟩);have t:=aC (zA P (zA (Q7.of hq) (h.dk.none (zq _))));have W:=aC (zA aa x);have HE:=aC (Rf (s:=s) (l:=l));have HO:=aC (P4 (s:=s) (l:=l));clear h j P hq x;generalize aA.ig s l=SD at *;generalize aA.aU s l=D at *
 go_in
 go_upto_region 1 with fail
 change Code.wp _ _ _ _ (w.alloc aX);generalize w.alloc aX=X at *
 go_wp2_with fail
 refine AN.out.mono ?_;rintro e w1 ⟨v,rfl,ap⟩;have AP:=aC ap;obtain⟨r1,col1,N,k2,k3,k4,M,en,da,gr,ed,u,rfl,q,V,U,T,S,Q⟩:=ap;obtain⟨K,G,rfl⟩:=iy V.own;obtain⟨J,F,rfl⟩:=U.slice;obtain⟨I,E,rfl⟩:=T.slice;obtain⟨H,C,rfl⟩:=S.slice;have ab:=M.size
 by_cases O:D.2.err=0
 ·have L:=aC (HO.out O);have GR:=aC (TF (w:=(w1.alloc (.cells #[.int .i64 D.2.err,.int .i64 D.2.at_,.int .i64 D.2.n,.slice K u.length G,.slice J D.2.days.length F,.slice I D.2.granted.length E,.slice H D.2.ended.length C] 40)).drew) (N.later ((zr _ _).alloc (zq _) _).drew) k2 k3 k4 W.out.1)
  have AG:=aC (fun v2 w4 g=>Sj (w:=w) (w4:=w4) (v2:=v2) (s1:=D.1) t.out.1 hs t.out.2.1 t.out.2.2 N M q V U T S Q.1 Q.2 ⟨rfl,rfl,rfl⟩ g (by
   have h1:=CB D.1.ts (D.1.es.filter aA.fc) (D.1.es,[]);have h2:=List.length_filter_le aA.fc D.1.es;have h3:=mb W.out.1;have e1:=aA.Jv D.1.ts D.1.es W.out.1.ids;have h4:=W.out.2;simp only[List.length_nil] at h1;rw[<- e1] at h1
   omega))
  have yR:(w1.alloc (.cells #[.int .i64 D.2.err,.int .i64 D.2.at_,.int .i64 D.2.n,.slice K u.length G,.slice J D.2.days.length F,.slice I D.2.granted.length E,.slice H D.2.ended.length C] 40)).cell? ⟨w1.heap.size,5,Vd⟩=Ve (.slice I D.2.granted.length E):=UV
  clear N k2 k3 k4 M q V U T S Q AP AN;simp only[bC];rw[O] at GR AG yR L ⊢
  go_upto_region 3 with fail
  go_region_law (first
   |(refine qZ (by rfl) 65 _ _ (by rfl) _ (by simp[Act.eval,Act.put]) (SX _ _) GR.out ?_;rintro e w4 ⟨v2,rfl,p⟩;refine⟨_,rfl,?_⟩;obtain⟨a,m,cap,w5,i,g5,h5,Z,z⟩:=AG.out v2 w4 p;have HR:=aC i;have Y:=aC z;clear i z;obtain⟨y0,y1,y2,y3,y4,y5,y6,fR⟩:=NU h5;obtain⟨q0,q1,q2,q3,q4,q5,q6,fq⟩:=Z)
   |(refine UM (by rfl) _ _ _ _ (by rfl) (HR.out _) ?_))
  all_goals
   have HG:=aC (Y.out (.int .i64 0) (.int .i64 D.2.at_) (.int .i64 D.2.n) (.slice K u.length G) (.slice J D.2.days.length F) (.slice a m cap) (.slice H D.2.ended.length C));clear Y p GR AG HR yR g5 h5
   go_wp2_with fail
   exact cO results46 ⟨q0,q1,q2,q3,q4,q5,q6,fq⟩ ⟨_,rfl,by rw[L.out];exact HG.out⟩
 ·have ac:(D.2.err==0)=Vf:=by simpa using O
  have HD:=aC (HE.out O);have kW:Vj w1.heap.size w1 (w1.alloc (.cells #[.int .i64 D.2.err,.int .i64 D.2.at_,.int .i64 D.2.n,.slice K u.length G,.slice J D.2.days.length F,.slice I D.2.granted.length E,.slice H D.2.ended.length C] 40)):=(zr _ _).alloc (zq _) _;obtain⟨_,_,_,_,_,_,_,_,_,_,_,_,_,_,_,_,Z,z⟩:=(AP.out.later kW).up t.out.1 (zq _) hs t.out.2.2 t.out.2.1;have Y:=aC (z (.int .i64 D.2.err) (.int .i64 D.2.at_) (.int .i64 D.2.n) (.slice K u.length G) (.slice J D.2.days.length F) (.slice I D.2.granted.length E) (.slice H D.2.ended.length C));obtain⟨q0,q1,q2,q3,q4,q5,q6,fq⟩:=Z;clear N k2 k3 k4 M q V U T S Q AP AN z kW;simp only[bC];generalize D.2.err=er at *
  go_wp2_with fail
  exact cO results46 ⟨q0,q1,q2,q3,q4,q5,q6,fq⟩ ⟨_,rfl,by rw[HD.out];exact Y.out⟩
theorem eB{a b:U7}(h:a=b):Vo (.bool a)=.returned (.bool b):=by rw[h]
theorem fL{k:IntKind}{b:U9}(h:a=b):Vo (.int k a)=.returned (.int k b):=by rw[h]
def gA(w:Vh):Prop:=w.cell? ⟨1,0,Vd⟩=Ve (.int .i64 31)/\w.cell? ⟨1,1,Vd⟩=Ve (.int .i64 28)/\w.cell? ⟨1,2,Vd⟩=Ve (.int .i64 31)/\w.cell? ⟨1,3,Vd⟩=Ve (.int .i64 30)/\w.cell? ⟨1,4,Vd⟩=Ve (.int .i64 31)/\w.cell? ⟨1,5,Vd⟩=Ve (.int .i64 30)/\w.cell? ⟨1,6,Vd⟩=Ve (.int .i64 31)/\w.cell? ⟨1,7,Vd⟩=Ve (.int .i64 31)/\w.cell? ⟨1,8,Vd⟩=Ve (.int .i64 30)/\w.cell? ⟨1,9,Vd⟩=Ve (.int .i64 31)/\w.cell? ⟨1,10,Vd⟩=Ve (.int .i64 30)/\w.cell? ⟨1,11,Vd⟩=Ve (.int .i64 31)
theorem RG(y:U9)(w:Vh)(j:0<=y)(i:y<=10000):
  Vk prog 228 #[.int .i64 y] w fun e w'=>e=.returned (.bool (Cal.lS y))/\w'=w:=by
 cases h:(y % 4==0)
 ·go_in
  go_wp2;go_ret;exact⟨eB (by simp[Cal.lS,h]),rfl⟩
 ·cases f:(y % 100 != 0)
  ·cases g:(y % 400==0)
   all_goals
    go_in
    go_wp2;go_ret;exact⟨eB (by simp only[Cal.lS,h,f,g];rfl),rfl⟩
  ·go_in
   go_wp2;go_ret;exact⟨eB (by simp only[Cal.lS,h,f];rfl),rfl⟩
theorem yz(y:U9)(w:Vh)(g:1<=y)(f:y<=10000):
  Vk prog 168 #[.int .i64 y] w fun e w'=>e=.returned (.int .i64 (Cal.ah y))/\w'=w:=by
 go_in
 go_wp2;go_ret;exact⟨fL (by unfold Cal.ah;omega),rfl⟩
theorem yk(y m:U9)(w:Vh)(ht:gA w)(r:0<=y)(q:y<=10000)(i:1<=m)(g:m<=12):
  Vk prog 169 #[.int .i64 y,.int .i64 m] w fun e w'=>e=.returned (.int .i64 (Cal.fP y m))/\w'=w:=by
 obtain⟨H,G,F,E,D,C,z,x,u,t,p,j⟩:=ht;rcases Cal.AR m i g with h|h|h|h|h|h|h|h|h|h|h|h
 ·subst h
  go_in
  go_wp2;go_ret;exact⟨fL (by simp[Cal.fP,Cal.iL]),rfl⟩
 ·subst h
  cases f:Cal.lS y
  all_goals
   go_in
   go_wp2_with (go_at_call 228;refine (RG _ _ UU UU).mono ?_;rintro e w' ⟨rfl,rfl⟩)
   go_ret;exact⟨fL (by simp[Cal.fP,Cal.lp,f]),rfl⟩
 all_goals
  subst h
  go_in
  go_wp2;go_ret;exact⟨fL (by simp[Cal.fP,Cal.iL]),rfl⟩
theorem SN(g:U9)(w:Vh)(r:0<=g)(x:g<3652059):
  Vk prog 171 #[.int .i64 g] w fun e w'=>∃ y:U9,e=.returned (.int .i64 y)/\1<=y/\y<=9999/\Cal.ah y<=g/\g<Cal.ah (y+1)/\w'=w:=by
 have q:=Cal.Gm g r
 go_in
 go_wp2
 go_loop [3] (fun t=>∃ y:U9,1<=y/\y<=9999/\Cal.ah y<=g/\t=.int .i64 y) (fun t=>(9999-intOf t).toNat)
 case atStart=>exact⟨_,by omega,by omega,q,rfl⟩
 case round =>
  obtain⟨y,i,h,f,rfl⟩:=hrel;clear q
  by_cases p:Cal.ah (y+1)<=g
  ·have u:y<9999:=by
    by_cases e:y=9999
    ·subst e;have:=Cal.xw;rw[show (9999:U9)+1=10000 from rfl] at p;omega
    ·omega
   go_wp2_with (go_at_call 168;refine (yz _ _ UU UU).mono ?_;rintro e w' ⟨rfl,rfl⟩)
   go_round
   case rel=>exact⟨y+1,by omega,by omega,p,rfl⟩
   case measure=>simp[intOf];omega
  ·have j:g<Cal.ah (y+1):=UU
   go_wp2_with (go_at_call 168;refine (yz _ _ UU UU).mono ?_;rintro e w' ⟨rfl,rfl⟩)
   go_ret;exact⟨y,rfl,i,h,f,j,rfl⟩
theorem lA{d:U9}(h:¬ (1<=y/\y<=9999/\1<=m/\m<=12/\1<=d/\d<=Cal.fP y m)):Cal.ok y m d=Vf:=by
 unfold Cal.ok;exact decide_eq_false h
theorem vh{d:U9}(h:1<=y/\y<=9999/\1<=m/\m<=12/\1<=d/\d<=Cal.fP y m):Cal.ok y m d=Vg:=by
 unfold Cal.ok;exact decide_eq_true h
theorem IE(y m d:U9)(w:Vh)(ht:gA w):
  Vk prog 167 #[.int .i64 y,.int .i64 m,.int .i64 d] w fun e w'=>e=.returned (.bool (Cal.ok y m d))/\w'=w:=by
 by_cases a:1<=y
 ·by_cases b:y<=9999
  ·by_cases c:1<=m
   ·by_cases f:m<=12
    ·by_cases g:1<=d
     ·by_cases k:d<=Cal.fP y m
      all_goals
       go_in
       go_wp2_with (go_at_call 169;refine (yk _ _ _ ht UU UU UU UU).mono ?_;rintro e w' ⟨rfl,rfl⟩)
       go_ret
      ·exact⟨eB (by rw[vh ⟨a,b,c,f,g,k⟩]),rfl⟩
      ·exact⟨eB (by rw[lA UU];exact decide_eq_false UU),rfl⟩
     ·go_in
      go_wp2;go_ret;exact⟨eB (by rw[lA UU]),rfl⟩
    ·go_in
     go_wp2;go_ret;exact⟨eB (by rw[lA UU]),rfl⟩
   ·go_in
    go_wp2;go_ret;exact⟨eB (by rw[lA UU]),rfl⟩
  ·go_in
   go_wp2;go_ret;exact⟨eB (by rw[lA UU]),rfl⟩
 ·go_in
  go_wp2;go_ret;exact⟨eB (by rw[lA UU]),rfl⟩
theorem B6(y m d:U9)(w:Vh)(ht:gA w)(h:Cal.ok y m d=Vf):
  Vk prog 112 #[.int .i64 y,.int .i64 m,.int .i64 d] w fun e w'=>e=.returned (.tuple #[.int .i64 0,.int .i64 6])/\w'=w:=by
 go_in
 go_wp2_with (go_at_call 167;refine (IE _ _ _ _ ht).mono ?_;rintro e w' ⟨rfl,rfl⟩)
 go_ret2;exact⟨rfl,rfl⟩
theorem FK{k l:IntKind}{b c:U9}(h:a=b):Vo (.tuple #[.int k a,.int l c])=.returned (.tuple #[.int k b,.int l c]):=by rw[h]
theorem Ck(y m d:U9)(w:Vh)(ht:gA w)(h:Cal.ok y m d=Vg):
  Vk prog 112 #[.int .i64 y,.int .i64 m,.int .i64 d] w fun e w'=>e=.returned (.tuple #[.int .i64 (Cal.num y m d),.int .i64 0])/\w'=w:=by
 obtain⟨p,E,D,C,z,x⟩:=(Cal.gO y m d).1 h;have u:=Cal.qy y p UU;have i:=Cal.nU y m;have r:=Cal.qB y
 go_in
 go_wp2_with (first|(go_at_call 167;refine (IE _ _ _ _ ht).mono ?_;rintro e w' ⟨rfl,rfl⟩)|(go_at_call 168;refine (yz _ _ UU UU).mono ?_;rintro e w' ⟨rfl,rfl⟩))
 go_loop [8,9] (fun n k=>∃ j:U9,1<=j/\j<=m/\k=.int .i64 j/\n=.int .i64 (-738885+Cal.ah y+d-1+Cal.cI y j)) (fun _ k=>(m-intOf k).toNat)
 case atStart=>exact⟨1,by omega,by omega,rfl,by rw[Cal.oD,YK]⟩
 case round =>
  obtain⟨j,f,g,rfl,rfl⟩:=hrel;have cb:=Cal.qC y j f UU;have F:=Cal.nU y j;have cs:=Cal.pL y j f UU;have q:Hid (Cal.cI y (j+1)=Cal.cI y j+Cal.fP y j):=cs;clear cs
  by_cases t:j<m
  ·go_wp2_with (go_at_call 169;refine (yk _ _ _ ht UU UU UU UU).mono ?_;rintro e w' ⟨rfl,rfl⟩)
   go_round
   case rel=>exact⟨j+1,by omega,by omega,rfl,by rw[q.out];go_num⟩
   case measure=>simp[intOf];omega
  ·obtain rfl:j=m:=UU
   go_wp2;go_ret2;exact⟨FK (by unfold Cal.num Cal.first;omega),rfl⟩
theorem pD{g:Func}{t u v x:Tmp}(h:g.results=#[.tmp t,.tmp u,.tmp v,.tmp x])(f:Array Vi)(P:Program)(w:Vh):
  (results g f).run P w=.ok (.tuple #[f.getD t undef,f.getD u undef,f.getD v undef,f.getD x undef]) w:=by
 simp[results,h]
theorem Og(n y k:U9):Cal.num y k (n+738885-Cal.ah y-Cal.cI y k+1)=n:=by unfold Cal.num Cal.first;omega
theorem S4(n:U9)(w:Vh)(ht:gA w)(H:-738885<=n)(G:n<=2913173):
  Vk prog 116 #[.int .i64 n] w fun e w'=>∃ y m d:U9,e=.returned (.tuple #[.int .i64 y,.int .i64 m,.int .i64 d,.int .i64 0])/\Cal.ok y m d=Vg/\Cal.num y m d=n/\w'=w:=by
 go_in
 go_wp2_with (first|(go_at_call 171;refine (SN _ _ UU UU).mono ?_;rintro e w' ⟨y,rfl,f,x,u,t,rfl⟩;have F:=Cal.qy y f UU)|(go_at_call 168;refine (yz _ _ UU UU).mono ?_;rintro e w' ⟨rfl,rfl⟩))
 have j:=Cal.sq y f;have D:=Cal.qB y
 go_loop [8,9] (fun r k=>∃ m:U9,1<=m/\m<=12/\k=.int .i64 m/\0<=n+738885-Cal.ah y-Cal.cI y m/\r=.int .i64 (n+738885-Cal.ah y-Cal.cI y m)) (fun _ k=>(12-intOf k).toNat)
 case atStart=>exact⟨1,by omega,by omega,rfl,by rw[Cal.oD];omega,by rw[Cal.oD,YL]⟩
 case round =>
  obtain⟨m,g,i,rfl,z,rfl⟩:=hrel;have cb:=Cal.qC y m g UU;have I:=Cal.nU y m;have cs:=Cal.pL y m g i;have p:=Cal.vk y
  by_cases E:Cal.fP y m<=n+738885-Cal.ah y-Cal.cI y m
  ·have C:m<12:=by
    by_cases e:m=12
    ·subst e;rw[show (12:U9)+1=13 from rfl] at cs;omega
    ·omega
   have q:Hid (Cal.cI y (m+1)=Cal.cI y m+Cal.fP y m):=cs;clear cs p j
   go_wp2_with (go_at_call 169;refine (yk _ _ _ ht UU UU UU UU).mono ?_;rintro e w' ⟨rfl,rfl⟩)
   go_round
   case rel=>exact⟨m+1,by omega,by omega,rfl,by rw[q.out];omega,by rw[q.out];go_num⟩
   case measure=>simp[intOf];omega
  ·have h:Cal.ok y m (n+738885-Cal.ah y-Cal.cI y m+1)=Vg:=vh UU;clear cs p j
   go_wp2_with (go_at_call 169;refine (yk _ _ _ ht UU UU UU UU).mono ?_;rintro e w' ⟨rfl,rfl⟩)
   (try simp only[WG,Exit.then]);refine bodyPost_ret (pD rfl _ _ _) rfl ?_
   exact⟨y,m,_,rfl,h,Og n y m,rfl⟩
theorem EZ(y:U9)(w:Vh)(j:0<=y)(i:y<=10000):
  Vk prog 170 #[.int .i64 y] w fun e w'=>e=.returned (.bool (Cal.lS y))/\w'=w:=by
 cases f:(y % 100==0)
 ·go_in
  go_wp2;go_ret;exact⟨eB (by simp only[Cal.lS,bne,f];simp),rfl⟩
 ·have g:(y % 4==0)=Vg:=by simp only[beq_iff_eq] at f ⊢;omega
  have h:Hid ((y % 4==0)=Vg):=g;clear g
  go_in
  go_wp2;go_ret;exact⟨eB (by simp only[Cal.lS,bne,f,h.out];simp),rfl⟩
theorem qx(y:U9)(w:Vh)(h:0<=y)(g:y<=10000):
  Vk prog 115 #[.int .i64 y] w fun e w'=>e=.returned (.int .i64 (365+Cal.lp y))/\w'=w:=by
 cases f:Cal.lS y
 all_goals
  go_in
  go_wp2_with (go_at_call 170;refine (EZ _ _ UU UU).mono ?_;rintro e w' ⟨rfl,rfl⟩)
  go_ret;exact⟨fL (by simp[Cal.lp,f]),rfl⟩
theorem tA(y m:U9)(w:Vh)(p:0<=y)(j:y<=10000)(i:1<=m)(g:m<=12):
  Vk prog 114 #[.int .i64 y,.int .i64 m] w fun e w'=>e=.returned (.int .i64 (Cal.fP y m))/\w'=w:=by
 rcases Cal.AR m i g with h|h|h|h|h|h|h|h|h|h|h|h
 ·subst h
  go_in
  go_wp2;go_ret;exact⟨fL (by simp[Cal.fP,Cal.iL]),rfl⟩
 ·subst h
  cases f:Cal.lS y
  all_goals
   go_in
   go_wp2_with (go_at_call 170;refine (EZ _ _ UU UU).mono ?_;rintro e w' ⟨rfl,rfl⟩)
   go_ret;exact⟨fL (by simp[Cal.fP,Cal.lp,f]),rfl⟩
 all_goals
  subst h
  go_in
  go_wp2;go_ret;exact⟨fL (by simp[Cal.fP,Cal.iL]),rfl⟩
theorem EM(y m d:U9)(w:Vh):
  Vk prog 113 #[.int .i64 y,.int .i64 m,.int .i64 d] w fun e w'=>e=.returned (.bool (Cal.ok y m d))/\w'=w:=by
 by_cases a:1<=y
 ·by_cases b:y<=9999
  ·by_cases c:1<=m
   ·by_cases f:m<=12
    ·by_cases g:1<=d
     ·by_cases k:d<=Cal.fP y m
      all_goals
       go_in
       go_wp2_with (go_at_call 114;refine (tA _ _ _ UU UU UU UU).mono ?_;rintro e w' ⟨rfl,rfl⟩)
       go_ret
      ·exact⟨eB (by rw[vh ⟨a,b,c,f,g,k⟩]),rfl⟩
      ·exact⟨eB (by rw[lA UU];exact decide_eq_false UU),rfl⟩
     ·go_in
      go_wp2;go_ret;exact⟨eB (by rw[lA UU]),rfl⟩
    ·go_in
     go_wp2;go_ret;exact⟨eB (by rw[lA UU]),rfl⟩
   ·go_in
    go_wp2;go_ret;exact⟨eB (by rw[lA UU]),rfl⟩
  ·go_in
   go_wp2;go_ret;exact⟨eB (by rw[lA UU]),rfl⟩
 ·go_in
  go_wp2;go_ret;exact⟨eB (by rw[lA UU]),rfl⟩
theorem Mz(y m d:U9)(w:Vh)(h:Cal.ok y m d=Vf):
  Vk prog 71 #[.int .i64 y,.int .i64 m,.int .i64 d] w fun e w'=>e=.returned (.tuple #[.int .i64 0,.int .i64 6])/\w'=w:=by
 go_in
 go_wp2_with (go_at_call 113;refine (EM _ _ _ _).mono ?_;rintro e w' ⟨rfl,rfl⟩)
 go_ret2;exact⟨rfl,rfl⟩
theorem uT:Cal.ah 2024=738885:=UW
theorem MR(y m d:U9)(w:Vh)(h:Cal.ok y m d=Vg):
  Vk prog 71 #[.int .i64 y,.int .i64 m,.int .i64 d] w fun e w'=>e=.returned (.tuple #[.int .i64 (Cal.num y m d),.int .i64 0])/\w'=w:=by
 obtain⟨z,h2,I,h4,h5,h6⟩:=(Cal.gO y m d).1 h;have Z:=Cal.qy y z UU;have H:=Cal.nU y m;have V:=Cal.qB y;have K:=Cal.qC y m I UU
 go_in
 go_wp2_with (go_at_call 113;refine (EM _ _ _ _).mono ?_;rintro e w' ⟨rfl,rfl⟩)
 go_loop [9,10,11] (fun n k _=>∃ j:U9,1<=j/\j<=m/\k=.int .i64 j/\n=.int .i64 (d-1+Cal.cI y j)) (fun _ k _=>(m-intOf k).toNat)
 case atStart=>exact⟨1,by omega,by omega,rfl,by rw[Cal.oD,YK]⟩
 case round =>
  obtain⟨j,p,F,rfl,rfl⟩:=hrel;have cb:=Cal.qC y j p UU;have db:=Cal.nU y j;have cs:=Cal.pL y j p UU;have O:Hid (Cal.cI y (j+1)=Cal.cI y j+Cal.fP y j):=cs;clear cs
  by_cases Y:j<m
  ·go_wp2_with (go_at_call 114;refine (tA _ _ _ UU UU UU UU).mono ?_;rintro e w' ⟨rfl,rfl⟩)
   go_round
   case rel=>exact⟨j+1,by omega,by omega,rfl,by rw[O.out];go_num⟩
   case measure=>simp[intOf];omega
  ·obtain rfl:j=m:=UU
   go_wp2
   go_loop [9,12,13] (fun n k _=>∃ f:U9,2024<=f/\(f<=y\/f=2024)/\k=.int .i64 f/\n=.int .i64 (d-1+Cal.cI y j+(Cal.ah f - 738885))) (fun _ k _=>(y-intOf k).toNat)
   case atStart=>exact⟨2024,by omega,by omega,rfl,by rw[uT];go_num⟩
   case round =>
    obtain⟨k,E,D,rfl,rfl⟩:=hrel;have S:=Cal.qy k UU UU;have Q:=Cal.qB k;have u:=Cal.sq k UU;have M:Hid (Cal.ah (k+1)=Cal.ah k+365+Cal.lp k):=u;clear u
    by_cases W:k<y
    ·go_wp2_with (go_at_call 115;refine (qx _ _ UU UU).mono ?_;rintro e w' ⟨rfl,rfl⟩)
     go_round
     case rel=>exact⟨k+1,by omega,by omega,rfl,by rw[M.out];go_num⟩
     case measure=>simp[intOf];omega
    ·have P:Cal.ah y<=Cal.ah k:=Cal.sy y k z UU;have g:(y=k)\/(y<2024/\k=2024):=UU
     have t:Hid ((y=k)\/(y<2024/\k=2024)):=g;clear g;go_wp2
     go_loop [9,14,15] (fun n q _=>∃ i:U9,y<=i/\(i<=2024\/i=y)/\q=.int .i64 i/\n=.int .i64 (d-1+Cal.cI y j+(Cal.ah k-738885)-(Cal.ah i-Cal.ah y))) (fun _ q _=>(2024-intOf q).toNat)
     case atStart=>exact⟨y,by omega,by omega,rfl,by go_num⟩
     case round =>
      obtain⟨i,r,G,rfl,rfl⟩:=hrel;have U:=Cal.qy i UU UU;have T:=Cal.qB i;have x:=Cal.sq i UU;have N:Hid (Cal.ah (i+1)=Cal.ah i+365+Cal.lp i):=x;clear x
      by_cases hi:i<2024
      ·go_wp2_with (go_at_call 115;refine (qx _ _ UU UU).mono ?_;rintro e w' ⟨rfl,rfl⟩)
       go_round
       case rel=>exact⟨i+1,by omega,by omega,rfl,by rw[N.out];go_num⟩
       case measure=>simp[intOf];omega
      ·go_wp2;go_ret2;refine⟨FK ?_,rfl⟩;have L:=uT;rcases t.out with e|⟨e1,J⟩
       ·subst e
        by_cases C:i=y
        ·subst C;unfold Cal.num Cal.first;omega
        ·obtain rfl:i=2024:=UU
         exact Vc r UU
       ·subst J;obtain rfl:i=2024:=UU
        unfold Cal.num Cal.first;omega
theorem early(n z:U9)(h:0<=n+(738885-Cal.ah z)\/z=1)(g:n+(738885-Cal.ah z)<0):n < -738885\/2913173<n:=by
 rcases h with h|h
 ·omega
 ·subst h;have:=Cal.KV;omega
theorem late(n z:U9)(h:z=9999)(e:Cal.ah (z+1)=Cal.ah z+365+Cal.lp z)(g:365+Cal.lp z<=n+(738885-Cal.ah z)):n < -738885\/2913173<n:=by
 subst h;have:=Cal.xw;rw[show (9999:U9)+1=10000 from rfl] at e;omega
theorem zV(n y k:U9):Cal.num y k (n+(738885-Cal.ah y)-Cal.cI y k+1)=n:=by unfold Cal.num Cal.first;omega
theorem inside(n z m:U9)(h:Cal.ok z m (n+(738885-Cal.ah z)-Cal.cI z m+1)=Vg):¬ (n < -738885\/2913173<n):=by
 have b:=Cal.AU _ _ _ h;rw[zV] at b;unfold Cal.first Cal.last at b;omega
theorem Nc(n:U9)(w:Vh)(h1:-9223372036854775808<=n)(h2:n<=9223372036854775807):
  Vk prog 73 #[.int .i64 n] w fun e w'=>((n < -738885\/2913173<n)/\e=.returned (.tuple #[.int .i64 0,.int .i64 0,.int .i64 0,.int .i64 6])\/(¬ (n < -738885\/2913173<n))/\∃ y m d:U9,e=.returned (.tuple #[.int .i64 y,.int .i64 m,.int .i64 d,.int .i64 0])/\Cal.ok y m d=Vg/\Cal.num y m d=n)/\w'=w:=by
 go_in
 go_wp2
 go_loop [0,6,7] (fun t k _=>∃ y:U9,1<=y/\y<=2024/\k=.int .i64 y/\t=.int .i64 (n+(738885-Cal.ah y))/\n+(738885-Cal.ah y)<=9223372036854775807) (fun _ k _=>(intOf k).toNat)
 case atStart=>exact⟨2024,by omega,by omega,rfl,by rw[uT];go_num,by rw[uT];omega⟩
 case round =>
  obtain⟨y,C,J,rfl,rfl,I⟩:=hrel;have O:=Cal.qy y C UU;have L:=Cal.sy y 2024 C J;rw[uT] at L
  by_cases K:n+(738885-Cal.ah y)<0/\1<y
  ·obtain⟨K,T⟩:=K;have ys:=Cal.sq (y-1) UU;rw[show y-1+1=y from by omega] at ys;have yl:=Cal.qB (y-1);have N:Hid (Cal.ah y=Cal.ah (y-1)+365+Cal.lp (y-1)):=ys;clear ys
   go_wp2_with (go_at_call 115;refine (qx _ _ UU UU).mono ?_;rintro e w' ⟨rfl,rfl⟩)
   go_round
   case rel=>exact⟨y-1,by omega,by omega,rfl,by have:=N.out;go_num,by have:=N.out;omega⟩
   case measure=>simp[intOf];omega
  ·have M:0<=n+(738885-Cal.ah y)\/y=1:=UU
   have Z:Hid (0<=n+(738885-Cal.ah y)\/y=1):=M;clear M;have j:(n+(738885-Cal.ah y)<0/\¬ 1<y)\/¬ n+(738885-Cal.ah y)<0:=UU
   clear K;rcases j with ⟨j,T⟩|j
   all_goals
    go_wp2
    go_loop [0,6,8] (fun t k _=>∃ z:U9,1<=z/\z<=9999/\k=.int .i64 z/\t=.int .i64 (n+(738885-Cal.ah z))/\n+(738885-Cal.ah z)<=9223372036854775807/\(0<=n+(738885-Cal.ah z)\/z=1)) (fun _ k _=>(9999-intOf k).toNat)
    case atStart=>exact⟨y,by omega,by omega,rfl,rfl,I,Z.out⟩
    case round =>
     obtain⟨z,x,S,rfl,rfl,P,u⟩:=hrel;have F:Hid (0<=n+(738885-Cal.ah z)\/z=1):=u;clear u O L j;have zb:=Cal.qy z x UU;have zl:=Cal.qB z;have zs:=Cal.sq z x;have H:Hid (Cal.ah (z+1)=Cal.ah z+365+Cal.lp z):=zs;clear zs
     by_cases Q:z<9999
     ·by_cases D:365+Cal.lp z<=n+(738885-Cal.ah z)
      ·go_wp2_with (go_at_call 115;refine (qx _ _ UU UU).mono ?_;rintro e w' ⟨rfl,rfl⟩)
       go_round
       case rel=>exact⟨z+1,by omega,by omega,rfl,by have:=H.out;go_num,by have:=H.out;omega,by have:=H.out;omega⟩
       case measure=>simp[intOf];omega
      ·by_cases g:n+(738885-Cal.ah z)<0
       ·go_wp2_with (go_at_call 115;refine (qx _ _ UU UU).mono ?_;rintro e w' ⟨rfl,rfl⟩)
        (try simp only[WG,Exit.then]);refine bodyPost_ret (pD rfl _ _ _) rfl ?_
        exact⟨Or.inl ⟨early n z F.out g,rfl⟩,rfl⟩
       ·go_wp2_with (go_at_call 115;refine (qx _ _ UU UU).mono ?_;rintro e w' ⟨rfl,rfl⟩)
        go_loop [0,9,10] (fun r k _=>∃ m:U9,1<=m/\m<=12/\k=.int .i64 m/\0<=n+(738885-Cal.ah z)-Cal.cI z m/\r=.int .i64 (n+(738885-Cal.ah z)-Cal.cI z m)) (fun _ k _=>(12-intOf k).toNat)
        case atStart=>exact⟨1,by omega,by omega,rfl,by rw[Cal.oD];omega,by rw[Cal.oD,YL]⟩
        case round =>
         obtain⟨m,h,p,rfl,U,rfl⟩:=hrel;have cb:=Cal.qC z m h UU;have Y:=Cal.nU z m;have cs:=Cal.pL z m h p;have E:=Cal.vk z
         by_cases W:Cal.fP z m<=n+(738885-Cal.ah z)-Cal.cI z m
         ·have V:m<12:=by
           by_cases e:m=12
           ·subst e;rw[show (12:U9)+1=13 from rfl] at cs;omega
           ·omega
          have G:Hid (Cal.cI z (m+1)=Cal.cI z m+Cal.fP z m):=cs;clear cs E
          go_wp2_with (go_at_call 114;refine (tA _ _ _ UU UU UU UU).mono ?_;rintro e w' ⟨rfl,rfl⟩)
          go_round
          case rel=>exact⟨m+1,by omega,by omega,rfl,by rw[G.out];omega,by rw[G.out];go_num⟩
          case measure=>simp[intOf];omega
         ·have f:Cal.ok z m (n+(738885-Cal.ah z)-Cal.cI z m+1)=Vg:=vh UU;have i:¬ (n < -738885\/2913173<n):=inside n z m f;have q:Hid (¬ (n < -738885\/2913173<n)):=i;clear cs E i
          go_wp2_with (go_at_call 114;refine (tA _ _ _ UU UU UU UU).mono ?_;rintro e w' ⟨rfl,rfl⟩)
          (try simp only[WG,Exit.then]);refine bodyPost_ret (pD rfl _ _ _) rfl ?_
          exact⟨Or.inr ⟨q.out,z,m,_,rfl,f,zV n z m⟩,rfl⟩
     ·by_cases g:n+(738885-Cal.ah z)<0
      ·go_wp2
       (try simp only[WG,Exit.then]);refine bodyPost_ret (pD rfl _ _ _) rfl ?_
       exact⟨Or.inl ⟨early n z F.out g,rfl⟩,rfl⟩
      ·by_cases D:365+Cal.lp z<=n+(738885-Cal.ah z)
       ·go_wp2_with (go_at_call 115;refine (qx _ _ UU UU).mono ?_;rintro e w' ⟨rfl,rfl⟩)
        (try simp only[WG,Exit.then]);refine bodyPost_ret (pD rfl _ _ _) rfl ?_
        exact⟨Or.inl ⟨late n z UU H.out D,rfl⟩,rfl⟩
       ·go_wp2_with (go_at_call 115;refine (qx _ _ UU UU).mono ?_;rintro e w' ⟨rfl,rfl⟩)
        go_loop [0,9,10] (fun r k _=>∃ m:U9,1<=m/\m<=12/\k=.int .i64 m/\0<=n+(738885-Cal.ah z)-Cal.cI z m/\r=.int .i64 (n+(738885-Cal.ah z)-Cal.cI z m)) (fun _ k _=>(12-intOf k).toNat)
        case atStart=>exact⟨1,by omega,by omega,rfl,by rw[Cal.oD];omega,by rw[Cal.oD,YL]⟩
        case round =>
         obtain⟨m,h,p,rfl,U,rfl⟩:=hrel;have cb:=Cal.qC z m h UU;have Y:=Cal.nU z m;have cs:=Cal.pL z m h p;have E:=Cal.vk z
         by_cases W:Cal.fP z m<=n+(738885-Cal.ah z)-Cal.cI z m
         ·have V:m<12:=by
           by_cases e:m=12
           ·subst e;rw[show (12:U9)+1=13 from rfl] at cs;omega
           ·omega
          have G:Hid (Cal.cI z (m+1)=Cal.cI z m+Cal.fP z m):=cs;clear cs E
          go_wp2_with (go_at_call 114;refine (tA _ _ _ UU UU UU UU).mono ?_;rintro e w' ⟨rfl,rfl⟩)
          go_round
          case rel=>exact⟨m+1,by omega,by omega,rfl,by rw[G.out];omega,by rw[G.out];go_num⟩
          case measure=>simp[intOf];omega
         ·have f:Cal.ok z m (n+(738885-Cal.ah z)-Cal.cI z m+1)=Vg:=vh UU;have i:¬ (n < -738885\/2913173<n):=inside n z m f;have q:Hid (¬ (n < -738885\/2913173<n)):=i;clear cs E i
          go_wp2_with (go_at_call 114;refine (tA _ _ _ UU UU UU UU).mono ?_;rintro e w' ⟨rfl,rfl⟩)
          (try simp only[WG,Exit.then]);refine bodyPost_ret (pD rfl _ _ _) rfl ?_
          exact⟨Or.inr ⟨q.out,z,m,_,rfl,f,zV n z m⟩,rfl⟩
theorem hide{p:Prop}(h:p):Hid p:=h
theorem aJ{p:Prop}(h:Hid p):p:=h
theorem gA.later(h:gA w)(f:Vj w.heap.size w wx):gA wx:=by
 obtain⟨D,C,z,x,u,t,r,q,p,j,i,g⟩:=h;exact⟨cell_later f D,cell_later f C,cell_later f z,cell_later f x,cell_later f u,cell_later f t,cell_later f r,cell_later f q,cell_later f p,cell_later f j,cell_later f i,cell_later f g⟩
theorem eE{k:IntKind}{b:U9}{d:U7}(h:a=b)(g:c=d):Vo (.tuple #[.int k a,.bool c])=.returned (.tuple #[.int k b,.bool d]):=by rw[h,g]
theorem eS(s:U4)(w:Vh)(z:s.size<=maxLen):
  Vk prog 139 #[.string s] w fun e w'=>e=.returned (.tuple #[.int .i64 (aB.cF s.data.toList),.bool (aB.isNum s.data.toList)])/\w'=w:=by
 unfold maxLen at z
 by_cases F:s.size=0
 ·have H:Hid (aB.isNum s.data.toList=Vf):=aB.xH (by rw[aB.fM];omega);have E:((s.size:U9)==0)=Vg:=beq_iff_eq.2 UU
  go_in
  go_wp2;go_ret2;exact⟨eE (by simp[aB.cF,H.out]) (by rw[H.out]),rfl⟩
 ·have E:((s.size:U9)==0)=Vf:=beq_eq_false_iff_ne.2 UU
  by_cases J:7<s.size
  ·have H:Hid (aB.isNum s.data.toList=Vf):=aB.xH (by rw[aB.fM];omega);clear F
   go_in
   go_wp2;go_ret2;exact⟨eE (by simp[aB.cF,H.out]) (by rw[H.out]),rfl⟩
  ·go_in
   go_wp2
   go_loop [4,5,6] (fun n i _=>∃ k:U8,k<=s.size/\i=.int .i64 k/\n=.int .i64 (aB.mH (s.data.toList.take k))/\aB.gu (s.data.toList.take k)=Vg) (fun _ i _=>s.size-(intOf i).toNat)
   case atStart=>exact⟨0,Wh _,rfl,rfl,rfl⟩
   case round =>
    obtain⟨k,I,rfl,rfl,p⟩:=hrel;have r:=hide p;have G:=aB.FY (s.data.toList.take k) p (by rw[Yp];omega);clear p
    by_cases j:k<s.size
    ·have q:Hid (s.data.toList.take (k+1)=s.data.toList.take k++[s[k]]):=aB.xU s k j
     by_cases g:aB.rU s[k]=Vg
     ·have f:=(aB.sG _).1 g;have h:=hide g;obtain⟨D,C⟩:=f;clear g;go_wp2
      go_round
      case rel=>exact⟨k+1,by omega,by go_num,by rw[q.out,aB.T7],by rw[q.out,aB.ya,r.out,h.out];rfl⟩
      case measure=>simp[intOf];omega
     ·have h:Hid (aB.isNum s.data.toList=Vf):=aB.Bo (aB.I9 _ (k+1) (by rw[q.out,aB.ya,r.out];simpa using g))
      have f:(s[k].toNat:U9)<48\/(¬ (s[k].toNat:U9)<48/\57<(s[k].toNat:U9)):=by
       have:=mt (aB.sG s[k]).2 g;omega
      clear g;rcases f with f |⟨f,t⟩
      all_goals
       go_wp2;go_ret2;exact⟨eE (by simp[aB.cF,h.out]) (by rw[h.out]),rfl⟩
    ·have x:Hid (s.data.toList.take k=s.data.toList):=aB.sH s k UU;have u:Hid (aB.isNum s.data.toList=Vg):=aB.BJ (by rw[aB.fM];omega) (by rw[aB.fM];omega) (by rw[<- x.out];exact r.out);go_wp2;go_ret2;exact⟨eE (by rw[x.out];simp[aB.cF,u.out]) (by rw[u.out]),rfl⟩
theorem nT{b:U9}(h:a≠b):(a != b)=Vg:=by rw[bne_iff_ne];exact h
theorem nS{b:U9}(h:a=b):(a != b)=Vf:=by subst h;simp
theorem gP(s:U4)(a b:U8)(h:s.size<=maxLen):(s.extract a b).size<=maxLen:=by
 have:(s.extract a b).size=min b s.size-a:=Xv ..;omega
theorem wb(s:U4)(w:Vh)(z:s.size<=maxLen):
  Vk prog 137 #[.string s] w fun e w'=>e=.returned (.tuple #[.int .i64 (aB.fo s),.bool (aB.dA s)])/\w'=w:=by
 have h:=hide z;clear z
 by_cases u:s.size=5
 ·have E:((s.size:U9) != 5)=Vf:=nS UU;have H:(2:U9)<(s.size:U9):=UU
  have q:2<s.size:=UU
  have G:(3:U9)<=(s.size:U9):=UU
  by_cases p:aB.dP s 2=58
  ·have D:(((s[2]'q).toNat:U9) != 58)=Vf:=nS (by rw[<- aB.jc];exact p);have J:=aB.lf (aB.part s 0 2);have I:=aB.lf (aB.part s 3 5);have j:=hide u;have F:=hide p;clear u p;have f:=hide (aB.GO j.out F.out)
   cases g:aB.isNum (aB.part s 0 2)
   ·go_in
    go_wp2_with fail
    refine (eS _ _ (gP _ _ _ h.out)).mono ?_;rintro e w' ⟨rfl,rfl⟩;rw[show (s.extract 0 2).data.toList=aB.part s 0 2 from rfl]
    go_wp2_with fail
    refine (eS _ _ (gP _ _ _ h.out)).mono ?_;rintro e w' ⟨rfl,rfl⟩;rw[show (s.extract 3 s.size).data.toList=aB.part s 3 5 from by rw[j.out];rfl];go_wp2;go_ret2;exact⟨eE (by simp[aB.fo,aJ f,g]) (by simp[aJ f,g]),rfl⟩
   ·cases i:aB.isNum (aB.part s 3 5)
    ·go_in
     go_wp2_with fail
     refine (eS _ _ (gP _ _ _ h.out)).mono ?_;rintro e w' ⟨rfl,rfl⟩;rw[show (s.extract 0 2).data.toList=aB.part s 0 2 from rfl]
     go_wp2_with fail
     refine (eS _ _ (gP _ _ _ h.out)).mono ?_;rintro e w' ⟨rfl,rfl⟩;rw[show (s.extract 3 s.size).data.toList=aB.part s 3 5 from by rw[j.out];rfl];go_wp2;go_ret2;exact⟨eE (by simp[aB.fo,aJ f,g,i]) (by simp[aJ f,g,i]),rfl⟩
    ·by_cases x:aB.cF (aB.part s 0 2)<=23
     ·by_cases C:aB.cF (aB.part s 3 5)<=59
      ·go_in
       go_wp2_with fail
       refine (eS _ _ (gP _ _ _ h.out)).mono ?_;rintro e w' ⟨rfl,rfl⟩;rw[show (s.extract 0 2).data.toList=aB.part s 0 2 from rfl]
       go_wp2_with fail
       refine (eS _ _ (gP _ _ _ h.out)).mono ?_;rintro e w' ⟨rfl,rfl⟩;rw[show (s.extract 3 s.size).data.toList=aB.part s 3 5 from by rw[j.out];rfl];go_wp2;go_ret2;exact⟨eE (by simp[aB.fo,aJ f,g,i,x,C]) (by simp[aJ f,g,i,x,C]),rfl⟩
      ·go_in
       go_wp2_with fail
       refine (eS _ _ (gP _ _ _ h.out)).mono ?_;rintro e w' ⟨rfl,rfl⟩;rw[show (s.extract 0 2).data.toList=aB.part s 0 2 from rfl]
       go_wp2_with fail
       refine (eS _ _ (gP _ _ _ h.out)).mono ?_;rintro e w' ⟨rfl,rfl⟩;rw[show (s.extract 3 s.size).data.toList=aB.part s 3 5 from by rw[j.out];rfl];go_wp2;go_ret2;have r:¬ aB.cF (aB.part s 3 5)<=59:=UU
       exact⟨eE (by simp[aB.fo,aJ f,g,i,x,r]) (by simp[aJ f,g,i,x,r]),rfl⟩
     ·go_in
      go_wp2_with fail
      refine (eS _ _ (gP _ _ _ h.out)).mono ?_;rintro e w' ⟨rfl,rfl⟩;rw[show (s.extract 0 2).data.toList=aB.part s 0 2 from rfl]
      go_wp2_with fail
      refine (eS _ _ (gP _ _ _ h.out)).mono ?_;rintro e w' ⟨rfl,rfl⟩;rw[show (s.extract 3 s.size).data.toList=aB.part s 3 5 from by rw[j.out];rfl];go_wp2;go_ret2;have t:¬ aB.cF (aB.part s 0 2)<=23:=UU
      exact⟨eE (by simp[aB.fo,aJ f,g,i,t]) (by simp[aJ f,g,i,t]),rfl⟩
  ·have D:(((s[2]'q).toNat:U9) != 58)=Vg:=nT (by rw[<- aB.jc];exact p);have f:Hid (aB.dA s=Vf):=aB.yn UU;clear u p
   go_in
   go_wp2;go_ret2;exact⟨eE (by simp[aB.fo,f.out]) (by rw[f.out]),rfl⟩
 ·have E:((s.size:U9) != 5)=Vg:=nT UU;have f:Hid (aB.dA s=Vf):=aB.yn UU;clear u
  go_in
  go_wp2;go_ret2;exact⟨eE (by simp[aB.fo,f.out]) (by rw[f.out]),rfl⟩
theorem wk(s:U4)(w:Vh)(ht:gA w)(I:s.size<=maxLen):
  Vk prog 195 #[.string s] w fun e w'=>e=.returned (.tuple #[.int .i64 (aB.eH s),.bool (aB.iI s)])/\w'=w:=by
 have g:=hide I;clear I
 by_cases x:s.size=10
 ·have M:((s.size:U9) != 10)=Vf:=nS UU;have F:4<s.size:=UU
  have E:7<s.size:=UU
  have P:(4:U9)<(s.size:U9):=UU
  have O:(7:U9)<(s.size:U9):=UU
  have N:(8:U9)<=(s.size:U9):=UU
  by_cases C:aB.dP s 4=45
  ·have L:(((s[4]'F).toNat:U9) != 45)=Vf:=nS (by rw[<- aB.jc];exact C)
   by_cases D:aB.dP s 7=45
   ·have K:(((s[7]'E).toNat:U9) != 45)=Vf:=nS (by rw[<- aB.jc];exact D);have T:=aB.lf (aB.part s 0 4);have S:=aB.lf (aB.part s 5 7);have Q:=aB.lf (aB.part s 8 10);have f:=hide (aB.FO x C D);have H:=hide x;clear x C D;have J:∃ r u n3:U7,aB.isNum (aB.part s 0 4)=r/\aB.isNum (aB.part s 5 7)=u/\aB.isNum (aB.part s 8 10)=n3:=⟨_,_,_,rfl,rfl,rfl⟩;obtain⟨r,u,n3,i,j,p⟩:=J;have q:r=Vf\/(r=Vg/\u=Vf)\/(r=Vg/\u=Vg/\n3=Vf)\/(r=Vg/\u=Vg/\n3=Vg):=by cases r <;> cases u <;> cases n3 <;> simp
    rcases q with h|⟨h,G⟩|⟨h,G,t⟩|⟨h,G,t⟩
    ·subst h;clear j p
     go_in
     go_wp2_with fail
     refine (eS _ _ (gP _ _ _ g.out)).mono ?_;rintro e w' ⟨rfl,rfl⟩;rw[show (s.extract 0 4).data.toList=aB.part s 0 4 from rfl]
     go_wp2_with fail
     refine (eS _ _ (gP _ _ _ g.out)).mono ?_;rintro e w' ⟨rfl,rfl⟩;rw[show (s.extract 5 7).data.toList=aB.part s 5 7 from rfl]
     go_wp2_with fail
     refine (eS _ _ (gP _ _ _ g.out)).mono ?_;rintro e w' ⟨rfl,rfl⟩;rw[show (s.extract 8 s.size).data.toList=aB.part s 8 10 from by rw[H.out];rfl];go_wp2;go_ret2;exact⟨eE (by simp[aB.eH,aJ f,i]) (by simp[aJ f,i]),rfl⟩
    ·subst h G;clear p
     go_in
     go_wp2_with fail
     refine (eS _ _ (gP _ _ _ g.out)).mono ?_;rintro e w' ⟨rfl,rfl⟩;rw[show (s.extract 0 4).data.toList=aB.part s 0 4 from rfl]
     go_wp2_with fail
     refine (eS _ _ (gP _ _ _ g.out)).mono ?_;rintro e w' ⟨rfl,rfl⟩;rw[show (s.extract 5 7).data.toList=aB.part s 5 7 from rfl]
     go_wp2_with fail
     refine (eS _ _ (gP _ _ _ g.out)).mono ?_;rintro e w' ⟨rfl,rfl⟩;rw[show (s.extract 8 s.size).data.toList=aB.part s 8 10 from by rw[H.out];rfl];go_wp2;go_ret2;exact⟨eE (by simp[aB.eH,aJ f,i,j]) (by simp[aJ f,i,j]),rfl⟩
    ·subst h G t
     go_in
     go_wp2_with fail
     refine (eS _ _ (gP _ _ _ g.out)).mono ?_;rintro e w' ⟨rfl,rfl⟩;rw[show (s.extract 0 4).data.toList=aB.part s 0 4 from rfl]
     go_wp2_with fail
     refine (eS _ _ (gP _ _ _ g.out)).mono ?_;rintro e w' ⟨rfl,rfl⟩;rw[show (s.extract 5 7).data.toList=aB.part s 5 7 from rfl]
     go_wp2_with fail
     refine (eS _ _ (gP _ _ _ g.out)).mono ?_;rintro e w' ⟨rfl,rfl⟩;rw[show (s.extract 8 s.size).data.toList=aB.part s 8 10 from by rw[H.out];rfl];go_wp2;go_ret2;exact⟨eE (by simp[aB.eH,aJ f,i,j,p]) (by simp[aJ f,i,j,p]),rfl⟩
    ·subst h G t
     cases z:Cal.ok (aB.cF (aB.part s 0 4)) (aB.cF (aB.part s 5 7)) (aB.cF (aB.part s 8 10))
     ·go_in
      go_wp2_with fail
      refine (eS _ _ (gP _ _ _ g.out)).mono ?_;rintro e w' ⟨rfl,rfl⟩;rw[show (s.extract 0 4).data.toList=aB.part s 0 4 from rfl]
      go_wp2_with fail
      refine (eS _ _ (gP _ _ _ g.out)).mono ?_;rintro e w' ⟨rfl,rfl⟩;rw[show (s.extract 5 7).data.toList=aB.part s 5 7 from rfl]
      go_wp2_with fail
      refine (eS _ _ (gP _ _ _ g.out)).mono ?_;rintro e w' ⟨rfl,rfl⟩;rw[show (s.extract 8 s.size).data.toList=aB.part s 8 10 from by rw[H.out];rfl]
      go_wp2_with fail
      refine (B6 _ _ _ _ ht z).mono ?_;rintro e w' ⟨rfl,rfl⟩;go_wp2;go_ret2;exact⟨eE (by simp[aB.eH,aJ f,i,j,p,z]) (by simp[aJ f,i,j,p,z]),rfl⟩
     ·go_in
      go_wp2_with fail
      refine (eS _ _ (gP _ _ _ g.out)).mono ?_;rintro e w' ⟨rfl,rfl⟩;rw[show (s.extract 0 4).data.toList=aB.part s 0 4 from rfl]
      go_wp2_with fail
      refine (eS _ _ (gP _ _ _ g.out)).mono ?_;rintro e w' ⟨rfl,rfl⟩;rw[show (s.extract 5 7).data.toList=aB.part s 5 7 from rfl]
      go_wp2_with fail
      refine (eS _ _ (gP _ _ _ g.out)).mono ?_;rintro e w' ⟨rfl,rfl⟩;rw[show (s.extract 8 s.size).data.toList=aB.part s 8 10 from by rw[H.out];rfl]
      go_wp2_with fail
      refine (Ck _ _ _ _ ht z).mono ?_;rintro e w' ⟨rfl,rfl⟩;go_wp2;go_ret2;exact⟨eE (by simp[aB.eH,aJ f,i,j,p,z]) (by simp[aJ f,i,j,p,z]),rfl⟩
   ·have K:(((s[7]'E).toNat:U9) != 45)=Vg:=nT (by rw[<- aB.jc];exact D);have f:Hid (aB.iI s=Vf):=aB.tZ UU;clear x C D
    go_in
    go_wp2;go_ret2;exact⟨eE (by simp[aB.eH,f.out]) (by rw[f.out]),rfl⟩
  ·have L:(((s[4]'F).toNat:U9) != 45)=Vg:=nT (by rw[<- aB.jc];exact C);have f:Hid (aB.iI s=Vf):=aB.tZ UU;clear x C
   go_in
   go_wp2;go_ret2;exact⟨eE (by simp[aB.eH,f.out]) (by rw[f.out]),rfl⟩
 ·have M:((s.size:U9) != 10)=Vg:=nT UU;have f:Hid (aB.iI s=Vf):=aB.tZ UU;clear x
  go_in
  go_wp2;go_ret2;exact⟨eE (by simp[aB.eH,f.out]) (by rw[f.out]),rfl⟩
structure Kept(R:U8)(w w':Vh):Prop where
 os:w'.os=w.os
 tape:w'.tape=w.tape
 output:w'.output=w.output
 size:w.heap.size<=w'.heap.size
 block:∀ k,k<w.heap.size->k≠R->w'.heap[k]?=w.heap[k]?
theorem Kept.refl(R:U8)(w:Vh):Kept R w w:=⟨rfl,rfl,rfl,Vn _,fun _ _ _=>rfl⟩
theorem Kept.trans{a b c:Vh}(h:Kept R a b)(k:Kept R b c):Kept R a c :=
 ⟨k.os.trans h.os,k.tape.trans h.tape,k.output.trans h.output,Vq h.size k.size,fun i hi f=>(k.block i (zL hi h.size) f).trans (h.block i hi f)⟩
theorem Kept.aD(h:Vj w.heap.size w w'):Kept R w w':=⟨h.os,h.tape,h.output,h.size,fun k f _=>h.block k f⟩
theorem Kept.drewN(h:Kept R w w')(n:U8):Kept R w (w'.drewN n):=⟨h.os,h.tape,h.output,h.size,h.block⟩
theorem Kept.setCell(h:Kept R w w')(o:U8)(v:Vi):Kept R w (w'.setCell ⟨R,o,Vd⟩ v) :=
 h.trans ⟨(Below.setCell (B:=0) (Below.refl 0 w') (zN _) v).os,(Below.setCell (B:=0) (Below.refl 0 w') (zN _) v).tape,(Below.setCell (B:=0) (Below.refl 0 w') (zN _) v).output,(Below.setCell (B:=0) (Below.refl 0 w') (p:=⟨R,o,Vd⟩) (zN _) v).size,fun k _ f=>Below.heap_setCell w' _ v k f⟩
theorem Kept.below(h:Kept R w w')(g:B<=R)(i:B<=w.heap.size):Vj B w w' :=
 ⟨h.os,h.tape,h.output,h.size,fun k f=>h.block k (zL f i) (Nat.ne_of_lt (zL f g))⟩
theorem Kept.cell(h:Kept R w w')(f:b≠R)(g:w.cell? ⟨b,o,Vd⟩=Ve v):w'.cell? ⟨b,o,Vd⟩=Ve v :=
 (zo (w:=w) (h.block b (Vr _ _ g) f)).trans g
structure RS(w:Vh)(R A:U8)(ws:U5 U4)(nx:U8)(wr:U7):Prop where
 c0:w.cell? ⟨R,0,Vd⟩=Ve (.slice (Ve ⟨A,0,Vd⟩) ws.length ws.length)
 c1:w.cell? ⟨R,1,Vd⟩=Ve (.int .i64 nx)
 c2:w.cell? ⟨R,2,Vd⟩=Ve (.bool wr)
 f1:w.frozen? ⟨R,1,Vd⟩=Vf
 f2:w.frozen? ⟨R,2,Vd⟩=Vf
 ne:A≠R
 rows:∀ (i:U8) (h:i<ws.length),w.cell? ⟨A,i,Vd⟩=Ve (.string ws[i])
 len:ws.length<=160
 ve:nx<=ws.length
 short:∀ x∈ws,x.size<=160
theorem RS.aD(h:RS w R A ws nx wr)(f:Vj w.heap.size w w'):RS w' R A ws nx wr :=
 ⟨cell_later f h.c0,cell_later f h.c1,cell_later f h.c2,(f.frozen (Vr _ _ h.c1)).trans h.f1,(f.frozen (Vr _ _ h.c2)).trans h.f2,h.ne,fun i hi=>cell_later f (h.rows i hi),h.len,h.ve,h.short⟩
theorem RS.drewN(h:RS w R A ws nx wr)(n:U8):RS (w.drewN n) R A ws nx wr:=⟨h.c0,h.c1,h.c2,h.f1,h.f2,h.ne,h.rows,h.len,h.ve,h.short⟩
def cB(n nx:U8)(wr:U7):U7:=!wr && decide (nx<n)
theorem im(R A:U8)(ws:U5 U4)(nx:U8)(wr:U7)(w:Vh)(h:RS w R A ws nx wr):
  Vk prog 63 #[.pointer (Ve ⟨R,0,Vd⟩)] w fun e w'=>e=.returned (.bool (cB ws.length nx wr))/\∃ n,w'=w.drewN n:=by
 have i:=h.c0;have g:=h.c1;have f:=h.c2;clear h
 cases wr
 ·go_in
  go_wp2
  go_quiet (fail)
  go_wp2;go_ret;exact⟨eB (by simp[cB]),_,rfl⟩
 ·go_in
  go_wp2
  go_quiet (fail)
  go_wp2;go_ret;exact⟨eB (by simp[cB]),_,rfl⟩
theorem I3(h:¬ (wr=Vf/\nx<n)):cB n nx wr=Vf:=by
 unfold cB
 cases wr
 ·simp;simp at h;exact h
 ·rfl
theorem N9(R A:U8)(ws:U5 U4)(nx:U8)(wr:U7)(f:U4)(w:Vh)(h:RS w R A ws nx wr)(g:cB ws.length nx wr=Vf):
  Vk prog 82 #[.pointer (Ve ⟨R,0,Vd⟩),.string f] w fun e w'=>e=.returned (.bool Vf)/\∃ n,w'=w.drewN n:=by
 go_in
 go_wp2
 go_quiet ((go_at_call 63;exact YM (im R A ws nx wr _ (h.drewN _))))
 go_wp2;go_ret;exact⟨rfl,_,rfl⟩
theorem Qb(R A:U8)(ws:U5 U4)(nx:U8)(wr:U7)(f:U4)(w:Vh)(h:RS w R A ws nx wr)(i:cB ws.length nx wr=Vg)(g:nx<ws.length)(j:(ws[nx].toList==f.toList)=Vf):
  Vk prog 82 #[.pointer (Ve ⟨R,0,Vd⟩),.string f] w fun e w'=>e=.returned (.bool Vf)/\∃ n,w'=w.drewN n:=by
 have t:=h.c0;have r:=h.c1;have q:=h.c2;have p:=h.rows nx g;have hi:(nx:U9)<(ws.length:U9):=UU
 go_in
 go_wp2
 go_quiet ((go_at_call 63;exact YM (im R A ws nx wr _ (h.drewN _))))
 go_wp2;go_ret;exact⟨rfl,_,rfl⟩
theorem RS.step(h:RS w R A ws nx wr)(f:nx<ws.length):RS (w.setCell ⟨R,1,Vd⟩ (.int .i64 ((nx:U9)+1))) R A ws (nx+1) wr :=
 ⟨(zS _ _ _ _ UV).trans h.c0,VF _ _ _ h.c1,(zS _ _ _ _ UV).trans h.c2,(zF ..).trans h.f1,(zF ..).trans h.f2,h.ne,
  fun i hi=>(zS _ _ _ _ (by simp;intro e;exact Vc e.symm h.ne)).trans (h.rows i hi),h.len,f,h.short⟩
theorem RS.bad(h:RS w R A ws nx wr):RS (w.setCell ⟨R,2,Vd⟩ (.bool Vg)) R A ws nx Vg :=
 ⟨(zS _ _ _ _ UV).trans h.c0,(zS _ _ _ _ UV).trans h.c1,VF _ _ _ h.c2,(zF ..).trans h.f1,(zF ..).trans h.f2,h.ne,
  fun i hi=>(zS _ _ _ _ (by simp;intro e;exact Vc e.symm h.ne)).trans (h.rows i hi),h.len,h.ve,h.short⟩
theorem Oa(R A:U8)(ws:U5 U4)(nx:U8)(wr:U7)(f:U4)(w:Vh)(h:RS w R A ws nx wr)(i:cB ws.length nx wr=Vg)(g:nx<ws.length)(p:(ws[nx].toList==f.toList)=Vg):
  Vk prog 82 #[.pointer (Ve ⟨R,0,Vd⟩),.string f] w fun e w'=>e=.returned (.bool Vg)/\RS w' R A ws (nx+1) wr/\Kept R w w':=by
 have x:=h.c0;have u:=h.c1;have t:=h.c2;have q:=h.f1;have r:=h.rows nx g;have j:=h.len;have hi:(nx:U9)<(ws.length:U9):=UU
 go_in
 go_wp2
 go_quiet ((go_at_call 63;exact YM (im R A ws nx wr _ (h.drewN _))))
 go_wp2;go_ret;exact⟨rfl,(h.drewN _).step g,((Kept.refl R w).drewN _).setCell _ _⟩
def bD(ws:U5 U4)(nx:U8)(wr:U7)(f:U4):U7:=cB ws.length nx wr && ((ws.getD nx YN).toList==f.toList)
theorem iJ(R A:U8)(ws:U5 U4)(nx:U8)(wr:U7)(f:U4)(w:Vh)(h:RS w R A ws nx wr):
  Vk prog 82 #[.pointer (Ve ⟨R,0,Vd⟩),.string f] w fun e w'=>e=.returned (.bool (bD ws nx wr f))/\RS w' R A ws (if bD ws nx wr f then nx+1 else nx) wr/\Kept R w w':=by
 cases i:cB ws.length nx wr
 ·have e:bD ws nx wr f=Vf:=by simp[bD,i]
  rw[e];refine (N9 R A ws nx wr f w h i).mono ?_;rintro e w' ⟨rfl,n,rfl⟩;exact⟨rfl,h.drewN n,(Kept.refl R w).drewN n⟩
 ·have g:nx<ws.length:=by
   by_cases g:nx<ws.length
   ·exact g
   ·rw[I3 UU] at i;cases i
  have p:ws.getD nx YN=ws[nx]:=by simp[List.getD,g]
  cases j:(ws[nx].toList==f.toList)
  ·have e:bD ws nx wr f=Vf:=by rw[bD,p,j,YP]
   rw[e];refine (Qb R A ws nx wr f w h i g j).mono ?_;rintro e w' ⟨rfl,n,rfl⟩;exact⟨rfl,h.drewN n,(Kept.refl R w).drewN n⟩
  ·have e:bD ws nx wr f=Vg:=by rw[bD,p,j,i];rfl
   rw[e];exact Oa R A ws nx wr f w h i g j
theorem BE(R A:U8)(ws:U5 U4)(nx:U8)(wr:U7)(f:U4)(w:Vh)(h:RS w R A ws nx wr):
  Vk prog 134 #[.pointer (Ve ⟨R,0,Vd⟩),.string f] w fun e w'=>e=.returned (.tuple #[])/\RS w' R A ws (if bD ws nx wr f then nx+1 else nx) (if bD ws nx wr f then wr else Vg)/\Kept R w w':=by
 cases j:bD ws nx wr f
 ·go_in
  go_wp2_with fail
  refine (iJ R A ws nx wr f w h).mono ?_;rintro e w' ⟨rfl,g,i⟩;rw[j] at g ⊢;have q:=g.c2;have p:=g.f2;go_wp2
  go_end0
  exact⟨rfl,g.bad,i.setCell _ _⟩
 ·go_in
  go_wp2_with fail
  refine (iJ R A ws nx wr f w h).mono ?_;rintro e w' ⟨rfl,g,i⟩;rw[j] at g ⊢;go_wp2
  go_end0
  exact⟨rfl,g,i⟩
def eA(ws:U5 U4)(nx:U8)(wr:U7)(B:U4->U7):U7:=cB ws.length nx wr && B (ws.getD nx YN)
def ek(ws:U5 U4)(nx:U8)(wr:U7)(B:U4->U7):U8:=if eA ws nx wr B then nx+1 else nx
def ei(ws:U5 U4)(nx:U8)(wr:U7)(B:U4->U7):U7:=if eA ws nx wr B then wr else Vg
def fg(ws:U5 U4)(nx:U8)(wr:U7)(B:U4->U7)(V:U4->U9):U9:=if eA ws nx wr B then V (ws.getD nx YN) else 0
theorem pP(h:cB n nx wr=Vg):nx<n:=by
 by_cases f:nx<n
 ·exact f
 ·rw[I3 UU] at h;cases h
theorem pJ(ws:U5 U4)(nx:U8)(h:nx<ws.length):ws.getD nx YN=ws[nx]:=by simp[List.getD,h]
theorem vY(f:Vi)(R A:U8)(ws:U5 U4)(nx:U8)(wr:U7)(w:Vh)(h:RS w R A ws nx wr)(p:cB ws.length nx wr=Vf):
  Vk prog 135 #[.pointer (Ve ⟨R,0,Vd⟩),f] w fun e w'=>e=.returned (.int .i64 0)/\RS w' R A ws nx Vg/\Kept R w w':=by
 go_in
 go_wp2_with fail
 refine (im R A ws nx wr w h).mono ?_;rintro e w1 ⟨rfl,n,g⟩;have i:RS w1 R A ws nx wr:=by rw[g];exact h.drewN n
 have j:Kept R w w1:=by rw[g];exact (Kept.refl R w).drewN n
 have r:=i.c2;have q:=i.f2;clear g;go_wp2;go_ret;exact⟨rfl,i.bad,j.setCell _ _⟩
theorem Sz(R A:U8)(ws:U5 U4)(nx:U8)(wr:U7)(w:Vh)(h:RS w R A ws nx wr)(q:cB ws.length nx wr=Vg)(g:nx<ws.length)(p:ws[nx].size<=maxLen)(t:aB.isNum ws[nx].data.toList=Vg):
  Vk prog 135 #[.pointer (Ve ⟨R,0,Vd⟩),.func (.func 139) #[] #[]] w fun e w'=>e=.returned (.int .i64 (aB.cF ws[nx].data.toList))/\RS w' R A ws (nx+1) wr/\Kept R w w':=by
 have hi:(nx:U9)<(ws.length:U9):=UU
 go_in
 go_wp2_with fail
 refine (im R A ws nx wr w h).mono ?_;rintro e w1 ⟨rfl,n,i⟩;have f:RS w1 R A ws nx wr:=by rw[i];exact h.drewN n
 have j:Kept R w w1:=by rw[i];exact (Kept.refl R w).drewN n
 have C:=f.c0;have z:=f.c1;have u:=f.f1;have x:=f.rows nx g;have r:=f.len;clear i;go_wp2
 go_quiet ((go_at_call 139;exact YQ (eS _ _ p)))
 go_wp2;go_ret;exact⟨rfl,(f.drewN _).step g,(j.drewN _).setCell _ _⟩
theorem Sy(R A:U8)(ws:U5 U4)(nx:U8)(wr:U7)(w:Vh)(h:RS w R A ws nx wr)(q:cB ws.length nx wr=Vg)(i:nx<ws.length)(p:ws[nx].size<=maxLen)(t:aB.isNum ws[nx].data.toList=Vf):
  Vk prog 135 #[.pointer (Ve ⟨R,0,Vd⟩),.func (.func 139) #[] #[]] w fun e w'=>e=.returned (.int .i64 0)/\RS w' R A ws nx Vg/\Kept R w w':=by
 have hi:(nx:U9)<(ws.length:U9):=UU
 go_in
 go_wp2_with fail
 refine (im R A ws nx wr w h).mono ?_;rintro e w1 ⟨rfl,n,g⟩;have f:RS w1 R A ws nx wr:=by rw[g];exact h.drewN n
 have j:Kept R w w1:=by rw[g];exact (Kept.refl R w).drewN n
 have D:=f.c0;have C:=f.c1;have z:=f.c2;have u:=f.f2;have x:=f.rows nx i;have r:=f.len;clear g;go_wp2
 go_quiet ((go_at_call 139;exact YQ (eS _ _ p)))
 go_wp2;go_ret;exact⟨rfl,(f.drewN _).bad,(j.drewN _).setCell _ _⟩
structure Env(w:Vh):Prop where
 iL:gA w
 tD:∃ m,w.cell? ⟨2,0,Vd⟩=Ve (.int .i64 m)
 pow : YR prog w "internal/strconv.uint64pow10" .u64 Lib.pow10Tab
 size:10<=w.heap.size
 mo:w.cell? ⟨3,0,Vd⟩=Ve (.string ⟨#[109,111]⟩)
 tu:w.cell? ⟨3,1,Vd⟩=Ve (.string ⟨#[116,117]⟩)
 we:w.cell? ⟨3,2,Vd⟩=Ve (.string ⟨#[119,101]⟩)
 th:w.cell? ⟨3,3,Vd⟩=Ve (.string ⟨#[116,104]⟩)
 fr:w.cell? ⟨3,4,Vd⟩=Ve (.string ⟨#[102,114]⟩)
 sa:w.cell? ⟨3,5,Vd⟩=Ve (.string ⟨#[115,97]⟩)
 su:w.cell? ⟨3,6,Vd⟩=Ve (.string ⟨#[115,117]⟩)
theorem vd : prog.globalNamed "internal/strconv.uint64pow10" = Ve 0 := by kernel_rfl
theorem Env.later(h:Env w)(f:Vj w.heap.size w wx):Env wx:=by
 obtain⟨m,i⟩:=h.tD;refine⟨h.iL.later f,⟨m,cell_later f i⟩,?_,Vq h.size f.size,cell_later f h.mo,cell_later f h.tu,cell_later f h.we,cell_later f h.th,cell_later f h.fr,cell_later f h.sa,cell_later f h.su⟩;have g:=h.pow;have j:=h.size;unfold YR YS at g ⊢;simp only[vd,YT] at g ⊢;rw[f.block 0 UU];exact g
theorem Env.drewN(h:Env w)(n:U8):Env (w.drewN n):=h.later (w:=w) (wx:=w.drewN n) ⟨rfl,rfl,rfl,Vn _,fun _ _=>rfl⟩
theorem xN{a b:U4}{d:U7}(h:a=b)(g:c=d):Vo (.tuple #[.string a,.bool c])=.returned (.tuple #[.string b,.bool d]):=by rw[h,g]
theorem Hw(s:U4)(w:Vh)(f:s.size<=281474976710656):
  Vk prog 142 #[.string s] w fun e w'=>e=.returned (.string s)/\Vj w.heap.size w w':=by
 go_in
 go_wp2_with fail
 refine (stringslite_Clone s w f).mono ?_;rintro e w' ⟨rfl,g⟩;go_wp2;go_ret;exact⟨rfl,g⟩
def qI(s:U4):U4:=if aB.fa s.data.toList then s else ⟨#[]⟩
theorem Je(s:U4)(w:Vh)(G:s.size<=160):
  Vk prog 131 #[.string s] w fun e w'=>e=.returned (.tuple #[.string (qI s),.bool (aB.fa s.data.toList)])/\Vj w.heap.size w w':=by
 by_cases E:s.size=0
 ·have H:Hid (aB.fa s.data.toList=Vf):=aB.xR (by rw[aB.fM];omega);have D:((s.size:U9)==0)=Vg:=beq_iff_eq.2 UU
  go_in
  go_wp2;go_ret2;exact⟨xN (by simp[qI,H.out]) (by rw[H.out]),Below.refl _ _⟩
 ·have D:((s.size:U9)==0)=Vf:=beq_eq_false_iff_ne.2 UU
  by_cases J:8<s.size
  ·have H:Hid (aB.fa s.data.toList=Vf):=aB.xR (by rw[aB.fM];omega);clear E
   go_in
   go_wp2;go_ret2;exact⟨xN (by simp[qI,H.out]) (by rw[H.out]),Below.refl _ _⟩
  ·go_in
   go_wp2
   go_loop [4] (fun i=>∃ k:U8,k<=s.size/\i=.int .i64 k/\aB.nQ (s.data.toList.take k)=Vg) (fun i=>s.size-(intOf i).toNat)
   case atStart=>exact⟨0,Wh _,rfl,rfl⟩
   case round =>
    obtain⟨k,I,rfl,q⟩:=hrel;have p:=hide q;clear q
    by_cases j:k<s.size
    ·have t:Hid (s.data.toList.take (k+1)=s.data.toList.take k++[s[k]]):=aB.xU s k j
     by_cases g:aB.low s[k]=Vg
     ·have f:=(aB.xv _).1 g;have h:=hide g;obtain⟨z,x⟩:=f;clear g;go_wp2
      go_round
      case rel=>exact⟨k+1,by omega,by go_num,by rw[t.out,aB.xJ,p.out,h.out];rfl⟩
      case measure=>simp[intOf];omega
     ·have h:Hid (aB.fa s.data.toList=Vf):=aB.Gh (aB.Ho _ (k+1) (by rw[t.out,aB.xJ,p.out];simpa using g))
      have f:(s[k].toNat:U9)<97\/(¬ (s[k].toNat:U9)<97/\122<(s[k].toNat:U9)):=by
       have:=mt (aB.xv s[k]).2 g;omega
      clear g;rcases f with f |⟨f,r⟩
      all_goals
       go_wp2;go_ret2;exact⟨xN (by simp[qI,h.out]) (by rw[h.out]),Below.refl _ _⟩
    ·have F:Hid (s.data.toList.take k=s.data.toList):=aB.sH s k UU;have u:Hid (aB.fa s.data.toList=Vg):=aB.GV (by rw[aB.fM];omega) (by rw[aB.fM];omega) (by rw[<- F.out];exact p.out)
     go_wp2_with fail
     refine (Hw s w UU).mono ?_;rintro e w' ⟨rfl,C⟩;go_wp2;go_ret2;exact⟨xN (by simp[qI,u.out]) (by rw[u.out]),C⟩
theorem Mr(s:U4)(w:Vh)(E:s.size<=160):
  Vk prog 186 #[.string s] w fun e w'=>e=.returned (.bool (aB.fa s.data.toList))/\w'=w:=by
 by_cases I:s.size<1
 ·have H:Hid (aB.fa s.data.toList=Vf):=aB.xR (by rw[aB.fM];omega);have z:((s.size:U9)<1):=UU
  go_in
  go_wp2;go_ret;exact⟨eB (by rw[H.out]),rfl⟩
 ·have z:¬ ((s.size:U9)<1):=UU
  by_cases G:8<s.size
  ·have H:Hid (aB.fa s.data.toList=Vf):=aB.xR (by rw[aB.fM];omega)
   go_in
   go_wp2;go_ret;exact⟨eB (by rw[H.out]),rfl⟩
  ·go_in
   go_wp2
   go_loop [3] (fun i=>∃ k:U8,k<=s.size/\i=.int .i64 k/\aB.nQ (s.data.toList.take k)=Vg) (fun i=>s.size-(intOf i).toNat)
   case atStart=>exact⟨0,Wh _,rfl,rfl⟩
   case round =>
    obtain⟨k,F,rfl,q⟩:=hrel;have j:=hide q;clear q
    by_cases h:k<s.size
    ·have t:Hid (s.data.toList.take (k+1)=s.data.toList.take k++[s[k]]):=aB.xU s k h
     by_cases g:aB.low s[k]=Vg
     ·have f:=(aB.xv _).1 g;have p:=hide g;obtain⟨x,u⟩:=f;clear g;go_wp2
      go_round
      case rel=>exact⟨k+1,by omega,by go_num,by rw[t.out,aB.xJ,j.out,p.out];rfl⟩
      case measure=>simp[intOf];omega
     ·have p:Hid (aB.fa s.data.toList=Vf):=aB.Gh (aB.Ho _ (k+1) (by rw[t.out,aB.xJ,j.out];simpa using g))
      have f:(s[k].toNat:U9)<97\/(¬ (s[k].toNat:U9)<97/\122<(s[k].toNat:U9)):=by
       have:=mt (aB.xv s[k]).2 g;omega
      clear g;rcases f with f |⟨f,r⟩
      all_goals
       go_wp2;go_ret;exact⟨eB (by rw[p.out]),rfl⟩
    ·have D:Hid (s.data.toList.take k=s.data.toList):=aB.sH s k UU;have C:Hid (aB.fa s.data.toList=Vg):=aB.GV (by rw[aB.fM];omega) (by rw[aB.fM];omega) (by rw[<- D.out];exact j.out);go_wp2;go_ret;exact⟨eB (by rw[C.out]),rfl⟩
theorem TR(l:U5 UInt8):∀ acc:U8,aB.gu l=Vg->∃ n:U8,YU acc l=Ve n/\(n:U9)=l.foldl (fun n c=>n*10+((c.toNat:U9)-48)) (acc:U9):=by
 induction l with
 |nil=>intro acc _;exact⟨acc,rfl,rfl⟩
 |cons c l ih =>
  intro acc h;simp only[aB.gu,YV,W7] at h;have i:=(aB.sG c).1 h.1;obtain⟨n,g,f⟩:=ih (acc*10+(c.toNat-48)) h.2;refine⟨n,?_,?_⟩
  ·simp only[YU,Lib.digitVal];rw[Vb UU];exact g
  ·rw[f,List.foldl_cons]
   congr 1
   omega
theorem Qt(l:U5 UInt8)(h:aB.gu l=Vg)(j:l≠[]):YW l=Ve (aB.mH l):=by
 obtain⟨n,i,g⟩:=TR l 0 h
 cases l with
 |nil=>exact Vc rfl j
 |cons b r =>
  simp only[aB.gu,YV,W7] at h;have f:=(aB.sG b).1 h.1
  have q:(b==45)=Vf:=by
   rw[beq_eq_false_iff_ne];intro e;subst e;revert f;decide
  have p:(b==43)=Vf:=by
   rw[beq_eq_false_iff_ne];intro e;subst e;revert f;decide
  simp only[YW,q,p,Vx,if_false,Lib.decNat,List.isEmpty_cons,i,Option.map_some];rw[g];rfl
def bF(s:U4)(lo hi:U8):U9:=if lo<=s.size/\s.size<=hi/\aB.gu s.data.toList=Vg then aB.mH s.data.toList else -1
theorem A8(h:¬ (lo<=s.size/\s.size<=hi)):bF s lo hi=-1:=by
 unfold bF;rw[Va (fun g=>h ⟨g.1,g.2.1⟩)]
theorem Ba(h:aB.gu s.data.toList=Vf):bF s lo hi=-1:=by
 unfold bF;rw[Va (fun g=>by rw[h] at g;exact Vc g.2.2 UW)]
theorem A9(g:lo<=s.size)(f:s.size<=hi)(h:aB.gu s.data.toList=Vg):bF s lo hi=aB.mH s.data.toList:=by
 unfold bF;rw[Vb ⟨g,f,h⟩]
theorem eP(s:U4)(lo hi:U8)(w:Vh)(N:s.size<=160)(C:1<=lo)(D:hi<=7):
  Vk prog 126 #[.string s,.int .i64 lo,.int .i64 hi] w fun e w'=>e=.returned (.int .i64 (bF s lo hi))/\Vj w.heap.size w w':=by
 by_cases Q:s.size<lo
 ·have H:Hid (bF s lo hi=-1):=A8 UU;have J:((s.size:U9)<(lo:U9)):=UU
  go_in
  go_wp2;go_ret;exact⟨fL (by rw[H.out]),Below.refl _ _⟩
 ·have J:¬ ((s.size:U9)<(lo:U9)):=UU
  by_cases P:hi<s.size
  ·have H:Hid (bF s lo hi=-1):=A8 UU;have I:((hi:U9)<(s.size:U9)):=UU
   go_in
   go_wp2;go_ret;exact⟨fL (by rw[H.out]),Below.refl _ _⟩
  ·have I:¬ ((hi:U9)<(s.size:U9)):=UU
   go_in
   go_wp2
   go_loop [7] (fun i=>∃ k:U8,k<=s.size/\i=.int .i64 k/\aB.gu (s.data.toList.take k)=Vg) (fun i=>s.size-(intOf i).toNat)
   case atStart=>exact⟨0,Wh _,rfl,rfl⟩
   case round =>
    obtain⟨k,O,rfl,u⟩:=hrel;have p:=hide u;clear u
    by_cases j:k<s.size
    ·have z:Hid (s.data.toList.take (k+1)=s.data.toList.take k++[s[k]]):=aB.xU s k j
     by_cases h:aB.rU s[k]=Vg
     ·have f:=(aB.sG _).1 h;have q:=hide h;obtain⟨F,E⟩:=f;clear h;go_wp2
      go_round
      case rel=>exact⟨k+1,by omega,by go_num,by rw[z.out,aB.ya,p.out,q.out];rfl⟩
      case measure=>simp[intOf];omega
     ·have q:Hid (bF s lo hi=-1):=Ba (aB.I9 _ (k+1) (by rw[z.out,aB.ya,p.out];simpa using h))
      have f:(s[k].toNat:U9)<48\/(¬ (s[k].toNat:U9)<48/\57<(s[k].toNat:U9)):=by
       have:=mt (aB.sG s[k]).2 h;omega
      clear h;rcases f with f |⟨f,x⟩
      all_goals
       go_wp2;go_ret;exact⟨fL (by rw[q.out]),Below.refl _ _⟩
    ·have M:Hid (s.data.toList.take k=s.data.toList):=aB.sH s k UU;have g:aB.gu s.data.toList=Vg:=by rw[<- M.out];exact p.out
     have K:Hid (bF s lo hi=aB.mH s.data.toList):=A9 UU UU g;have L:Hid (YW s.data.toList=Ve (aB.mH s.data.toList)):=Qt _ g (fun e=>by have:=aB.fM s;rw[e] at this;simp at this;omega);clear g
     go_wp2_with fail
     refine (strconv_Atoi s _ UU L.out w).mono ?_;rintro e w' ⟨rfl,t,r⟩;have G:Vj w.heap.size w w':=by rw[r];exact Joins.below_bytesWorld _ _ _ _ (zq _)
     clear r;go_wp2;go_ret;exact⟨fL (by rw[K.out]),G⟩
theorem oB(s:U4)(a b:U8)(h:s.size<=160):(s.extract a b).size<=160:=by
 have:(s.extract a b).size=min b s.size-a:=Xv ..;omega
theorem vu(s:U4)(a b n:U8)(h:min b s.size-a=n):(s.extract a b).size=n:=(Xv ..).trans h
theorem vt(t:U4)(n:U8)(h:t.size=n)(p:1<=n)(j:n<=7):bF t n n=if aB.isNum t.data.toList then aB.cF t.data.toList else -1:=by
 have i:=aB.fM t
 cases f:aB.gu t.data.toList
 ·rw[Ba f,aB.Bo f];rfl
 ·have g:aB.isNum t.data.toList=Vg:=aB.BJ UU UU f;rw[A9 UU UU f,g];simp[aB.cF,g]
theorem uW(t:U4):bF t 1 7=if aB.isNum t.data.toList then aB.cF t.data.toList else -1:=by
 have i:=aB.fM t
 cases f:aB.gu t.data.toList
 ·rw[Ba f,aB.Bo f];rfl
 ·by_cases h:1<=t.size/\t.size<=7
  ·have g:aB.isNum t.data.toList=Vg:=aB.BJ UU UU f;rw[A9 h.1 h.2 f,g];simp[aB.cF,g]
  ·rw[A8 h,aB.xH UU];rfl
def gT(s:U4):U9:=if aB.dA s then aB.fo s else -1
def eU(s:U4):U9:=if aB.iI s=Vg/\0<=aB.eH s/\aB.eH s<=728 then aB.eH s else -1
theorem Bx(h:aB.dA s=Vf):gT s=-1:=by simp[gT,h]
theorem wZ(h:aB.iI s=Vf):eU s=-1:=by simp[eU,h]
theorem AD(s:U4)(w:Vh)(H:s.size<=160):
  Vk prog 188 #[.string s] w fun e w'=>e=.returned (.int .i64 (gT s))/\Vj w.heap.size w w':=by
 by_cases j:s.size=5
 ·have K:((s.size:U9) != 5)=Vf:=nS UU;have r:2<s.size:=UU
  have V:(2:U9)<(s.size:U9):=UU
  have U:(3:U9)<=(s.size:U9):=UU
  by_cases q:aB.dP s 2=58
  ·have J:(((s[2]'r).toNat:U9) != 58)=Vf:=nS (by rw[<- aB.jc];exact q);have O:=aB.lf (aB.part s 0 2);have N:=aB.lf (aB.part s 3 5);have i:=hide (aB.GO j q);have G:bF (s.extract 0 2) 2 2=if aB.isNum (aB.part s 0 2) then aB.cF (aB.part s 0 2) else -1:=vt _ 2 (vu _ _ _ _ UU) UU UU
   have F:bF (s.extract 3 s.size) 2 2=if aB.isNum (aB.part s 3 5) then aB.cF (aB.part s 3 5) else -1:=by
    rw[j];exact vt _ 2 (vu _ _ _ _ UU) UU UU
   have h:∃ x y:U9,bF (s.extract 0 2) 2 2=x/\bF (s.extract 3 s.size) 2 2=y:=⟨_,_,rfl,rfl⟩;obtain⟨x,y,h,u⟩:=h;have W:-1<=x/\x<=9999999:=by rw[<- h,G];split <;> omega
   have M:-1<=y/\y<=9999999:=by rw[<- u,F];split <;> omega
   have S:Hid (gT s=if x<0\/23<x\/y<0\/59<y then -1 else 60*x+y):=by
    show gT s=_;rw[<- h,<- u,G,F,gT,aB.fo,aJ i]
    cases aB.isNum (aB.part s 0 2)
    ·simp
    ·cases aB.isNum (aB.part s 3 5)
     ·simp
     ·simp only[YX,if_true]
      by_cases D:aB.cF (aB.part s 0 2)<=23
      ·by_cases I:aB.cF (aB.part s 3 5)<=59
       ·simp only[D,I,decide_true,YZ,if_true];rw[Va UU];omega
       ·simp only[D,I,decide_true,decide_false,YP,Vx,if_false];rw[Vb UU]
      ·simp only[D,decide_false,Bool.false_and,Vx,if_false];rw[Vb UU]
   have Q:=hide h;have P:=hide u;clear G F h u j q O N i;have f:x<0\/(¬ x<0/\23<x)\/(¬ x<0/\¬ 23<x/\y<0)\/(¬ x<0/\¬ 23<x/\¬ y<0/\59<y)\/(¬ x<0/\¬ 23<x/\¬ y<0/\¬ 59<y):=UU
   rcases f with g|⟨g,E⟩|⟨g,E,t⟩|⟨g,E,t,L⟩|⟨g,E,t,L⟩
   all_goals
    go_in
    go_wp2_with fail
    refine (eP (s.extract 0 2) 2 2 _ (oB _ _ _ H) UU UU).mono ?_;rintro e w1 ⟨rfl,p⟩;rw[aJ Q]
    go_wp2_with fail
    refine (eP (s.extract 3 s.size) 2 2 _ (oB _ _ _ H) UU UU).mono ?_;rintro e T ⟨rfl,C⟩;rw[aJ P];have z:=p.trans (C.mono p.size);go_wp2;go_ret;refine⟨fL ?_,z⟩;rw[S.out]
    first|rw[Vb UU]|rw[Va UU]
  ·have J:(((s[2]'r).toNat:U9) != 58)=Vg:=nT (by rw[<- aB.jc];exact q);have i:=hide (Bx (aB.yn (s:=s) UU));clear j q
   go_in
   go_wp2;go_ret;exact⟨fL (by rw[aJ i]),Below.refl _ _⟩
 ·have K:((s.size:U9) != 5)=Vg:=nT UU;have i:=hide (Bx (aB.yn (s:=s) UU));clear j
  go_in
  go_wp2;go_ret;exact⟨fL (by rw[aJ i]),Below.refl _ _⟩
theorem uX(s:U4)(w:Vh)(t:s.size<=160):
  Vk prog 187 #[.string s] w fun e w'=>e=.returned (.int .i64 (eU s))/\Vj w.heap.size w w':=by
 by_cases r:s.size=10
 ·have U:((s.size:U9) != 10)=Vf:=nS UU;have F:4<s.size:=UU
  have E:7<s.size:=UU
  have Z:(4:U9)<(s.size:U9):=UU
  have Y:(7:U9)<(s.size:U9):=UU
  have W:(8:U9)<=(s.size:U9):=UU
  by_cases u:aB.dP s 4=45
  ·have T:(((s[4]'F).toNat:U9) != 45)=Vf:=nS (by rw[<- aB.jc];exact u)
   by_cases D:aB.dP s 7=45
   ·have S:(((s[7]'E).toNat:U9) != 45)=Vf:=nS (by rw[<- aB.jc];exact D);have i:=hide (aB.FO r u D);have L:bF (s.extract 0 4) 4 4=if aB.isNum (aB.part s 0 4) then aB.cF (aB.part s 0 4) else -1:=vt _ 4 (vu _ _ _ _ UU) UU UU
    have K:bF (s.extract 5 7) 2 2=if aB.isNum (aB.part s 5 7) then aB.cF (aB.part s 5 7) else -1:=vt _ 2 (vu _ _ _ _ UU) UU UU
    have J:bF (s.extract 8 s.size) 2 2=if aB.isNum (aB.part s 8 10) then aB.cF (aB.part s 8 10) else -1:=by
     rw[r];exact vt _ 2 (vu _ _ _ _ UU) UU UU
    have C:∃ x y z:U9,bF (s.extract 0 4) 4 4=x/\bF (s.extract 5 7) 2 2=y/\bF (s.extract 8 s.size) 2 2=z:=⟨_,_,_,rfl,rfl,rfl⟩;obtain⟨x,y,z,C,I,H⟩:=C
    have P:Hid (eU s=if Cal.ok x y z=Vg/\0<=Cal.num x y z/\Cal.num x y z<=728 then Cal.num x y z else -1):=by
     show eU s=_;rw[<- C,<- I,<- H,L,K,J,eU,aB.eH,aJ i]
     cases aB.isNum (aB.part s 0 4)
     ·simp[lA (y:=-1) (m:=_) (d:=_) UU]
     ·cases aB.isNum (aB.part s 5 7)
      ·simp[lA (y:=_) (m:=-1) (d:=_) UU]
      ·cases aB.isNum (aB.part s 8 10)
       ·simp[lA (y:=_) (m:=_) (d:=-1) UU]
       ·simp only[YX,if_true]
        cases Cal.ok (aB.cF (aB.part s 0 4)) (aB.cF (aB.part s 5 7)) (aB.cF (aB.part s 8 10)) <;> simp
    have O:=hide C;have N:=hide I;have M:=hide H;clear L K J C I H r u D i
    cases G:Cal.ok x y z
    ·go_in
     go_wp2_with fail
     refine (eP (s.extract 0 4) 4 4 _ (oB _ _ _ t) UU UU).mono ?_;rintro e w1 ⟨rfl,f⟩;rw[aJ O]
     go_wp2_with fail
     refine (eP (s.extract 5 7) 2 2 _ (oB _ _ _ t) UU UU).mono ?_;rintro e Q ⟨rfl,h⟩;rw[aJ N]
     go_wp2_with fail
     refine (eP (s.extract 8 s.size) 2 2 _ (oB _ _ _ t) UU UU).mono ?_;rintro e w3 ⟨rfl,q⟩;rw[aJ M];have p:=(f.trans (h.mono f.size)).trans (q.mono (Vq f.size h.size))
     go_wp2_with fail
     refine (Mz _ _ _ _ G).mono ?_;rintro e w4 ⟨rfl,rfl⟩;go_wp2;go_ret;exact⟨fL (by rw[P.out,G];simp),p⟩
    ·have j:Cal.num x y z<0\/(¬ Cal.num x y z<0/\728<Cal.num x y z)\/(¬ Cal.num x y z<0/\¬ 728<Cal.num x y z):=UU
     rcases j with g|⟨g,V⟩|⟨g,V⟩
     all_goals
      go_in
      go_wp2_with fail
      refine (eP (s.extract 0 4) 4 4 _ (oB _ _ _ t) UU UU).mono ?_;rintro e w1 ⟨rfl,f⟩;rw[aJ O]
      go_wp2_with fail
      refine (eP (s.extract 5 7) 2 2 _ (oB _ _ _ t) UU UU).mono ?_;rintro e Q ⟨rfl,h⟩;rw[aJ N]
      go_wp2_with fail
      refine (eP (s.extract 8 s.size) 2 2 _ (oB _ _ _ t) UU UU).mono ?_;rintro e w3 ⟨rfl,q⟩;rw[aJ M];have p:=(f.trans (h.mono f.size)).trans (q.mono (Vq f.size h.size))
      go_wp2_with fail
      refine (MR _ _ _ _ G).mono ?_;rintro e w4 ⟨rfl,rfl⟩;go_wp2;go_ret;refine⟨fL ?_,p⟩;rw[P.out]
      first|rw[Va UU]|rw[Vb ⟨G,by omega,by omega⟩]
   ·have S:(((s[7]'E).toNat:U9) != 45)=Vg:=nT (by rw[<- aB.jc];exact D);have i:=hide (wZ (aB.tZ (s:=s) UU));clear r u D
    go_in
    go_wp2;go_ret;exact⟨fL (by rw[aJ i]),Below.refl _ _⟩
  ·have T:(((s[4]'F).toNat:U9) != 45)=Vg:=nT (by rw[<- aB.jc];exact u);have i:=hide (wZ (aB.tZ (s:=s) UU));clear r u
   go_in
   go_wp2;go_ret;exact⟨fL (by rw[aJ i]),Below.refl _ _⟩
 ·have U:((s.size:U9) != 10)=Vg:=nT UU;have i:=hide (wZ (aB.tZ (s:=s) UU));clear r
  go_in
  go_wp2;go_ret;exact⟨fL (by rw[aJ i]),Below.refl _ _⟩
theorem Pk(s:U4):aB.cM s=(aB.iI s && decide (0<=aB.eH s) && decide (aB.eH s<728)):=by
 rw[Xc];simp[aB.cM,and_assoc]
def fT(s:U4):U9:=if aB.cM s then aB.eH s else 0
theorem Jd(s:U4)(w:Vh)(ht:gA w)(t:s.size<=160):
  Vk prog 136 #[.string s] w fun e w'=>e=.returned (.tuple #[.int .i64 (fT s),.bool (aB.cM s)])/\w'=w:=by
 have i:s.size<=maxLen:=by unfold maxLen;omega
 have q:=hide (Pk s)
 cases j:aB.iI s
 ·go_in
  go_wp2_with fail
  refine (wk s w ht i).mono ?_;rintro e w' ⟨rfl,rfl⟩;go_wp2;go_ret2;exact⟨eE (by simp[fT,aJ q,j]) (by simp[aJ q,j]),rfl⟩
 ·have f:aB.eH s<0\/(¬ aB.eH s<0/\728<=aB.eH s)\/(¬ aB.eH s<0/\¬ 728<=aB.eH s):=UU
  rcases f with g|⟨g,r⟩|⟨g,r⟩
  all_goals
   have h:Hid (aB.cM s=(decide (0<=aB.eH s) && decide (aB.eH s<728))):=(aJ q).trans (by rw[j];rfl)
   go_in
   go_wp2_with fail
   refine (wk s w ht i).mono ?_;rintro e w' ⟨rfl,rfl⟩;go_wp2;go_ret2;refine⟨eE ?_ ?_,rfl⟩
  ·rw[fT,h.out,decide_eq_false UU];rfl
  ·rw[h.out,decide_eq_false UU];rfl
  ·rw[fT,h.out,decide_eq_false (p:=aB.eH s<728) UU,YP];rfl
  ·rw[h.out,decide_eq_false (p:=aB.eH s<728) UU,YP]
  ·rw[fT,h.out,decide_eq_true (p:=aB.eH s<728) UU,decide_eq_true (p:=0<=aB.eH s) UU];rfl
  ·rw[h.out,decide_eq_true (p:=aB.eH s<728) UU,decide_eq_true (p:=0<=aB.eH s) UU];rfl
def oF(s:U4):U9:=if aB.isNum s.data.toList then aB.cF s.data.toList else aB.kh s
def bB(s:U4):U7:=(aB.isNum s.data.toList || aB.iQ s) && decide (0<=oF s/\oF s<=1048320)
def dL(s:U4):U9:=if bB s then oF s else 0
def cZ(s:U4):U9:=if bB s then oF s else -1
theorem Qy(s:U4)(h:s.size<=160):(aB.iU s).size<=160:=by
 rw[<- aB.fM];unfold aB.iU Xd;have:=aB.fM s
 split <;> simp <;> omega
theorem Qz(s:U4)(h:s.size<=160):(aB.iV s).size<=160:=by
 rw[<- aB.fM];unfold aB.iV Xd;have:=aB.fM s
 split <;> simp <;> omega
theorem yL(s:U4)(w:Vh)(j:Env w)(x:s.size<=160):
  Vk prog 196 #[.string s] w fun e w'=>e=.returned (.tuple #[.int .i64 (aB.kh s),.bool (aB.iQ s)])/\∃ n,w'=w.drewN n:=by
 obtain⟨m,g⟩:=j.tD;have q:=hide j;have h:=hide (aB.Ow s);have F:=aB.FC (aB.iU s);have E:=aB.xn (aB.iV s);have C:(aB.iU s).size<=maxLen:=by have:=Qy s x;unfold maxLen;omega
 have z:(aB.iV s).size<=maxLen:=by have:=Qz s x;unfold maxLen;omega
 have t:=hide C;have r:=hide z;clear j C z
 cases i:aB.ox s
 ·have f:Hid (aB.iQ s=Vf):=by show aB.iQ s=Vf;rw[<- (aJ h).1,i];rfl
  go_in
  go_wp2_with fail
  refine (strings_Cut s ⟨#[47]⟩ m w UU g).mono ?_;rintro e w1 ⟨rfl,n,rfl⟩;rw[show (Xd s.data.toList (ByteArray.mk #[47]).data.toList).snd.snd=aB.ox s from rfl];go_wp2;go_ret2;exact⟨eE (by simp[aB.kh,f.out]) (by rw[f.out]),_,rfl⟩
 ·cases p:aB.iI (aB.iU s)
  ·have f:Hid (aB.iQ s=Vf):=by show aB.iQ s=Vf;rw[<- (aJ h).1,i,p];rfl
   go_in
   go_wp2_with fail
   refine (strings_Cut s ⟨#[47]⟩ m w UU g).mono ?_;rintro e w1 ⟨rfl,n,rfl⟩;rw[show (Xd s.data.toList (ByteArray.mk #[47]).data.toList).snd.snd=aB.ox s from rfl,show (ByteArray.mk (Xd s.data.toList (ByteArray.mk #[47]).data.toList).fst.toArray)=aB.iU s from rfl,show (ByteArray.mk (Xd s.data.toList (ByteArray.mk #[47]).data.toList).snd.fst.toArray)=aB.iV s from rfl]
   go_wp2_with fail
   refine (wk (aB.iU s) _ ((aJ q).drewN n).iL (aJ t)).mono ?_;rintro e w1 ⟨rfl,rfl⟩
   go_wp2_with fail
   refine (wb (aB.iV s) _ (aJ r)).mono ?_;rintro e w1 ⟨rfl,rfl⟩;go_wp2;go_ret2;exact⟨eE (by simp[aB.kh,f.out]) (by rw[f.out]),_,rfl⟩
  ·cases u:aB.dA (aB.iV s)
   ·have f:Hid (aB.iQ s=Vf):=by show aB.iQ s=Vf;rw[<- (aJ h).1,i,p,u];rfl
    go_in
    go_wp2_with fail
    refine (strings_Cut s ⟨#[47]⟩ m w UU g).mono ?_;rintro e w1 ⟨rfl,n,rfl⟩;rw[show (Xd s.data.toList (ByteArray.mk #[47]).data.toList).snd.snd=aB.ox s from rfl,show (ByteArray.mk (Xd s.data.toList (ByteArray.mk #[47]).data.toList).fst.toArray)=aB.iU s from rfl,show (ByteArray.mk (Xd s.data.toList (ByteArray.mk #[47]).data.toList).snd.fst.toArray)=aB.iV s from rfl]
    go_wp2_with fail
    refine (wk (aB.iU s) _ ((aJ q).drewN n).iL (aJ t)).mono ?_;rintro e w1 ⟨rfl,rfl⟩
    go_wp2_with fail
    refine (wb (aB.iV s) _ (aJ r)).mono ?_;rintro e w1 ⟨rfl,rfl⟩;go_wp2;go_ret2;exact⟨eE (by simp[aB.kh,f.out]) (by rw[f.out]),_,rfl⟩
   ·have f:Hid (aB.iQ s=Vg):=by show aB.iQ s=Vg;rw[<- (aJ h).1,i,p,u];rfl
    have D:=hide ((aJ h).2 f.out)
    go_in
    go_wp2_with fail
    refine (strings_Cut s ⟨#[47]⟩ m w UU g).mono ?_;rintro e w1 ⟨rfl,n,rfl⟩;rw[show (Xd s.data.toList (ByteArray.mk #[47]).data.toList).snd.snd=aB.ox s from rfl,show (ByteArray.mk (Xd s.data.toList (ByteArray.mk #[47]).data.toList).fst.toArray)=aB.iU s from rfl,show (ByteArray.mk (Xd s.data.toList (ByteArray.mk #[47]).data.toList).snd.fst.toArray)=aB.iV s from rfl]
    go_wp2_with fail
    refine (wk (aB.iU s) _ ((aJ q).drewN n).iL (aJ t)).mono ?_;rintro e w1 ⟨rfl,rfl⟩
    go_wp2_with fail
    refine (wb (aB.iV s) _ (aJ r)).mono ?_;rintro e w1 ⟨rfl,rfl⟩;go_wp2;go_ret2;exact⟨eE (aJ D) (by rw[f.out]),_,rfl⟩
theorem F9(h:aB.isNum s.data.toList=Vg):bB s=decide (aB.cF s.data.toList<=1048320)/\oF s=aB.cF s.data.toList:=by
 have b:=aB.lf s.data.toList;have e:oF s=aB.cF s.data.toList:=by simp[oF,h]
 refine⟨?_,e⟩;unfold bB;rw[e,h,Xc];simp;omega
theorem AX(h:aB.isNum s.data.toList=Vf):bB s=(aB.iQ s && decide (0<=aB.kh s/\aB.kh s<=1048320))/\oF s=aB.kh s:=by
 have e:oF s=aB.kh s:=by simp[oF,h]
 exact⟨by unfold bB;rw[e,h];rfl,e⟩
theorem Jk(s:U4)(w:Vh)(x:Env w)(p:s.size<=160):
  Vk prog 140 #[.string s] w fun e w'=>e=.returned (.tuple #[.int .i64 (dL s),.bool (bB s)])/\∃ n,w'=w.drewN n:=by
 have r:=hide x;have h:s.size<=maxLen:=by unfold maxLen;omega
 clear x
 cases u:aB.isNum s.data.toList
 ·have i:=hide (AX u)
  cases q:aB.iQ s
  ·have f:Hid (bB s=Vf):=by show bB s=Vf;rw[(aJ i).1,q];rfl
   go_in
   go_wp2_with fail
   refine (eS s w h).mono ?_;rintro e w' ⟨rfl,rfl⟩
   go_wp2_with fail
   refine (yL s _ (aJ r) p).mono ?_;rintro e w1 ⟨rfl,n,rfl⟩;go_wp2;go_ret2;exact⟨eE (by simp[dL,f.out]) (by rw[f.out]),_,rfl⟩
  ·have j:aB.kh s<0\/(¬ aB.kh s<0/\1048320<aB.kh s)\/(¬ aB.kh s<0/\¬ 1048320<aB.kh s):=UU
   rcases j with g|⟨g,z⟩|⟨g,z⟩
   ·have f:Hid (bB s=Vf):=by show bB s=Vf;rw[(aJ i).1,q,decide_eq_false UU];rfl
    go_in
    go_wp2_with fail
    refine (eS s w h).mono ?_;rintro e w' ⟨rfl,rfl⟩
    go_wp2_with fail
    refine (yL s _ (aJ r) p).mono ?_;rintro e w1 ⟨rfl,n,rfl⟩;go_wp2;go_ret2;exact⟨eE (by simp[dL,f.out]) (by rw[f.out]),_,rfl⟩
   ·have f:Hid (bB s=Vf):=by show bB s=Vf;rw[(aJ i).1,q,decide_eq_false UU];rfl
    go_in
    go_wp2_with fail
    refine (eS s w h).mono ?_;rintro e w' ⟨rfl,rfl⟩
    go_wp2_with fail
    refine (yL s _ (aJ r) p).mono ?_;rintro e w1 ⟨rfl,n,rfl⟩;go_wp2;go_ret2;exact⟨eE (by simp[dL,f.out]) (by rw[f.out]),_,rfl⟩
   ·have f:Hid (bB s=Vg):=by show bB s=Vg;rw[(aJ i).1,q,decide_eq_true UU];rfl
    have t:=hide (aJ i).2
    go_in
    go_wp2_with fail
    refine (eS s w h).mono ?_;rintro e w' ⟨rfl,rfl⟩
    go_wp2_with fail
    refine (yL s _ (aJ r) p).mono ?_;rintro e w1 ⟨rfl,n,rfl⟩;go_wp2;go_ret2;exact⟨eE (by simp[dL,f.out,aJ t]) (by rw[f.out]),_,rfl⟩
 ·have i:=hide (F9 u);have b:=aB.lf s.data.toList
  by_cases g:1048320<aB.cF s.data.toList
  ·have f:Hid (bB s=Vf):=by show bB s=Vf;rw[(aJ i).1,decide_eq_false UU]
   go_in
   go_wp2_with fail
   refine (eS s w h).mono ?_;rintro e w' ⟨rfl,rfl⟩;go_wp2;go_ret2;exact⟨eE (by simp[dL,f.out]) (by rw[f.out]),0,rfl⟩
  ·have f:Hid (bB s=Vg):=by show bB s=Vg;rw[(aJ i).1,decide_eq_true UU]
   have t:=hide (aJ i).2
   go_in
   go_wp2_with fail
   refine (eS s w h).mono ?_;rintro e w' ⟨rfl,rfl⟩;go_wp2;go_ret2;exact⟨eE (by simp[dL,f.out,aJ t]) (by rw[f.out]),0,rfl⟩
theorem KY(h:s.size=16):aB.isNum s.data.toList=Vf:=aB.xH (by rw[aB.fM];omega)
theorem Ld(j:s.size=16)(t:aB.dP s 10=47):cZ s=if eU (s.extract 0 10)<0\/gT (s.extract 11 16)<0\/1048320<1440*eU (s.extract 0 10)+gT (s.extract 11 16) then -1 else 1440*eU (s.extract 0 10)+gT (s.extract 11 16):=by
 have ⟨e1,e2⟩:=AX (KY j);have x:=aB.xn (s.extract 11 16);have z:=aB.FC (s.extract 0 10)
 have f:aB.iQ s=(aB.iI (s.extract 0 10) && aB.dA (s.extract 11 16)):=by
  rw[Xc];simp[aB.iQ,j,t]
 unfold cZ;rw[e1,e2,aB.kh,f]
 cases r:aB.iI (s.extract 0 10)
 ·rw[wZ r];simp
 ·cases p:aB.dA (s.extract 11 16)
  ·rw[Bx p];simp
  ·have u:gT (s.extract 11 16)=aB.fo (s.extract 11 16):=by simp[gT,p]
   simp only[YZ,YX,if_true,u,decide_eq_true_eq]
   by_cases g:0<=aB.eH (s.extract 0 10)/\aB.eH (s.extract 0 10)<=728
   ·have i:eU (s.extract 0 10)=aB.eH (s.extract 0 10):=by simp[eU,r,g]
    rw[i]
    by_cases q:aB.eH (s.extract 0 10)*1440+aB.fo (s.extract 11 16)<=1048320
    ·rw[Vb UU,Va UU];omega
    ·rw[Va UU,Vb UU]
   ·have i:eU (s.extract 0 10)=-1:=by unfold eU;rw[Va (fun h=>g h.2)]
    rw[i,Va UU,Vb UU]
theorem El(h:¬ (s.size=16/\aB.dP s 10=47)):cZ s=if 1048320<bF s 1 7 then -1 else bF s 1 7:=by
 have f:aB.iQ s=Vf:=by
  cases j:aB.iQ s
  ·rfl
  ·have:=of_decide_eq_true j;exact Vc ⟨this.1,this.2.1⟩ h
 rw[uW]
 cases i:aB.isNum s.data.toList
 ·have ⟨e1,e2⟩:=AX i;unfold cZ;rw[e1,f];simp
 ·have ⟨e1,e2⟩:=F9 i;unfold cZ;rw[e1,e2]
  by_cases g:aB.cF s.data.toList<=1048320
  ·rw[decide_eq_true g];simp;omega
  ·rw[decide_eq_false g];simp;omega
theorem qv(s:U4)(w:Vh)(C:s.size<=160):
  Vk prog 127 #[.string s] w fun e w'=>e=.returned (.int .i64 (cZ s))/\Vj w.heap.size w w':=by
 by_cases p:s.size=16
 ·have I:((s.size:U9)==16)=Vg:=beq_iff_eq.2 UU;have r:10<s.size:=UU
  have N:(10:U9)<(s.size:U9):=UU
  have M:(11:U9)<=(s.size:U9):=UU
  by_cases q:aB.dP s 10=47
  ·have H:(((s[10]'r).toNat:U9)==47)=Vg:=beq_iff_eq.2 (by rw[<- aB.jc];exact q);have i:=hide (Ld p q);have f:∃ x y:U9,eU (s.extract 0 10)=x/\gT (s.extract 11 16)=y:=⟨_,_,rfl,rfl⟩;obtain⟨x,y,f,z⟩:=f;have O:-1<=x/\x<=728:=by rw[<- f,eU];split <;> omega
   have J:-1<=y/\y<=1439:=by have:=aB.xn (s.extract 11 16);rw[<- z,gT];split <;> omega
   have t:=hide f;have K:Hid (gT (s.extract 11 s.size)=y):=by show gT (s.extract 11 s.size)=y;rw[p];exact z
   have u:Hid (cZ s=if x<0\/y<0\/1048320<1440*x+y then -1 else 1440*x+y):=by
    show cZ s=_;rw[aJ i,f,z]
   clear f z p q i;have j:x<0\/(¬ x<0/\y<0)\/(¬ x<0/\¬ y<0/\1048320<1440*x+y)\/(¬ x<0/\¬ y<0/\¬ 1048320<1440*x+y):=UU
   rcases j with g|⟨g,G⟩|⟨g,G,F⟩|⟨g,G,F⟩
   all_goals
    go_in
    go_wp2_with fail
    refine (uX (s.extract 0 10) _ (oB _ _ _ C)).mono ?_;rintro e w1 ⟨rfl,h⟩;rw[aJ t]
    go_wp2_with fail
    refine (AD (s.extract 11 s.size) _ (oB _ _ _ C)).mono ?_;rintro e L ⟨rfl,E⟩;rw[K.out];have D:=h.trans (E.mono h.size);go_wp2;go_ret;refine⟨fL ?_,D⟩;rw[u.out]
    first|rw[Vb UU]|rw[Va UU]
  ·have H:(((s[10]'r).toNat:U9)==47)=Vf:=beq_eq_false_iff_ne.2 (by rw[<- aB.jc];exact q);have i:=hide (El (s:=s) UU);clear p q;have f:∃ x:U9,bF s 1 7=x:=⟨_,rfl⟩;obtain⟨x,f⟩:=f;have t:=hide f
   have u:Hid (cZ s=if 1048320<x then -1 else x):=by
    show cZ s=_;rw[aJ i,f]
   clear f i
   by_cases g:1048320<x
   all_goals
    go_in
    go_wp2_with fail
    refine (eP s 1 7 _ C UU UU).mono ?_;rintro e w1 ⟨rfl,h⟩;rw[aJ t];go_wp2;go_ret;refine⟨fL ?_,h⟩;rw[u.out]
    first|rw[Vb UU]|rw[Va UU]
 ·have I:((s.size:U9)==16)=Vf:=beq_eq_false_iff_ne.2 UU;have i:=hide (El (s:=s) UU);clear p;have f:∃ x:U9,bF s 1 7=x:=⟨_,rfl⟩;obtain⟨x,f⟩:=f;have t:=hide f
  have u:Hid (cZ s=if 1048320<x then -1 else x):=by
   show cZ s=_;rw[aJ i,f]
  clear f i
  by_cases g:1048320<x
  all_goals
   go_in
   go_wp2_with fail
   refine (eP s 1 7 _ C UU UU).mono ?_;rintro e w1 ⟨rfl,h⟩;rw[aJ t];go_wp2;go_ret;refine⟨fL ?_,h⟩;rw[u.out]
   first|rw[Vb UU]|rw[Va UU]
theorem Qu(x:U8)(w:Vh):
  Vk prog 81 #[.int .i32 x] w fun e w'=>e=.returned (.bool (x==32))/\∃ q,w'=w.drewN q:=by
 go_in
 go_wp2;go_ret;refine⟨eB ?_,0,rfl⟩;rw[Xc];simp;omega
theorem Tb(f:Array Vi)(w:Vh):Sem.run prog (callFunc 81 f) w=.ok (.enter 81 f) w:=UZ
theorem Re(s:U4)(w:Vh)(j:s.size<=160):
  Vk prog 61 #[.string s] w fun e w'=>∃ A,e=.returned (.slice (Ve ⟨A,0,Vd⟩) (aB.aP s).length (aB.aP s).length)/\w.heap.size<=A /\
   w'.ownsRow w.heap.size 9 1 (.slice (Ve ⟨A,0,Vd⟩) (aB.aP s).length (aB.aP s).length) (aB.aP s).length ((aB.aP s).map Y0)/\Vj w.heap.size w w':=by
 have f:PredAtRunes prog 81 #[] (fun r=>r==32) w:=fun W x _ _=>Qu x W
 have HP:=hide f;clear f
 go_in
 go_wp2_with fail
 refine (strings_FieldsFunc_runes 81 #[] Tb (fun r=>r==32) s w UU (aJ HP)).mono ?_;rintro e w' ⟨A,rfl,i,g,h⟩;rw[aB.TV] at g ⊢;go_wp2;go_ret;exact⟨A,rfl,i,g,h⟩
theorem toList_data(b:U4):b.toList=b.data.toList:=Lib.toList_data b
theorem wX{b:U4}(h:b.toList.isEmpty=Vg):b.size=0:=by
 rw[toList_data,List.isEmpty_iff] at h;rw[<- aB.fM,h];rfl
theorem xh{b:U4}(h:b.toList.isEmpty=Vf):b.size≠0:=by
 intro e;rw[toList_data,List.isEmpty_eq_false_iff] at h;exact h (List.eq_nil_of_length_eq_zero (by rw[aB.fM];exact e))
theorem ou{f size:U8}(h:w.ownsRow f e size v n xs)(i:v.ownBlock=Ve k):f<=k:=by
 rcases h.2 with ⟨rfl,_⟩|⟨g,cap,j,rfl,p,_⟩
 ·simp[WI] at i
 ·simp[WI] at i;omega
theorem wM:(prog.info? 9).map (fun i=>(i.zero,i.size,i.bytes))=Ve (Ve (.string ⟨#[]⟩),1,16):=UZ
theorem Ez(s:U4)(w:Vh)(K:s.size<=160):
  Vk prog 59 #[.string s] w fun e w'=>∃ v,e=.returned v/\w'.ownsRow w.heap.size 9 1 v (aB.aP s).length ((aB.aP s).map Y0)/\Vj w.heap.size w w':=by
 obtain⟨H,hi,z,x,t⟩:=info_parts wM
 go_in
 go_wp2
 go_loopw [3,4,5] (fun v c i wr=>∃ k:U8,k<=s.size/\i=.int .i64 k/\c=.string (aB.eG s k)/\wr.ownsRow w.heap.size 9 1 v (aB.jF s k).length ((aB.jF s k).map Y0)/\Vj w.heap.size w wr) (fun _ _ i _=>s.size-(intOf i).toNat)
 case atStart=>exact⟨0,Wh _,rfl,rfl,World.ownsRow_nil _ _ _ _,Below.refl _ _⟩
 case round =>
  obtain⟨k,D,rfl,rfl,f,g⟩:=hrel;have L:=aB.xz s k
  by_cases J:k<s.size
  ·by_cases r:aB.dP s k=32
   ·have F:((s[k].toNat:U9)==32)=Vg:=beq_iff_eq.2 (by rw[<- aB.jc];exact r);have q:=hide (aB.xK s k D r);clear r
    cases E:(aB.eG s k).toList.isEmpty
    ·have p:Hid ((aB.eG s k).size≠0):=(xh E);have G:=aB.qE s k
     go_wp2_with (first
      |(at_builtin;refine wpList_append_own _ rfl _ _ 26 rfl w.heap.size 9 H (.string ⟨#[]⟩) 1 16 underlying26 hi z x t rfl UW _ _ _ rfl (f.alloc _) ⟨wr.heap.size,0,Vd⟩ 1 1 [.string (aB.eG s k)] rfl rfl ?c1 ?c2 ?c3 ?c4 ?c5 ?_)
      |go_in)
     case c1=>exact cell_one_new _ _ _
     case c2=>intro u C;simp at C;subst C;rfl
     case c3=>unfold maxLen;omega
     case c4=>omega
     case c5=>have:=g.size;simp;omega
     intro v' w1 h j _;go_wp2;refine⟨⟨k+1,by omega,by go_num,by rw[(aJ q).1],?_,?_⟩,by simp[intOf];omega⟩
     ·rw[(aJ q).2,Va p.out,Wr,V5];exact h
     ·refine (g.alloc g.size _).grown j (by have:=g.size;simp;omega) (fun k D=>?_);exact ou f D
    ·have p:Hid ((aB.eG s k).size=0):=(wX E);go_wp2;exact⟨⟨k+1,by omega,by go_num,by rw[(aJ q).1],by rw[(aJ q).2,Vb p.out,X5];exact f,g⟩,by simp[intOf];omega⟩
   ·have F:((s[k].toNat:U9)==32)=Vf:=beq_eq_false_iff_ne.2 (by rw[<- aB.jc];exact r);have q:=hide (aB.xy s k r);clear r;go_wp2;exact⟨⟨k+1,by omega,by go_num,by rw[(aJ q).1],by rw[(aJ q).2];exact f,g⟩,by simp[intOf];omega⟩
  ·obtain rfl:k=s.size:=UU
   have I:=hide (aB.vq s)
   cases E:(aB.eG s s.size).toList.isEmpty
   ·have p:Hid ((aB.eG s s.size).size≠0):=(xh E);have G:=aB.qE s s.size
    go_wp2_with (first
     |(at_builtin;refine wpList_append_own _ rfl _ _ 26 rfl w.heap.size 9 H (.string ⟨#[]⟩) 1 16 underlying26 hi z x t rfl UW _ _ _ rfl (f.alloc _) ⟨wr.heap.size,0,Vd⟩ 1 1 [.string (aB.eG s s.size)] rfl rfl ?c1 ?c2 ?c3 ?c4 ?c5 ?_)
     |go_in)
    case c1=>exact cell_one_new _ _ _
    case c2=>intro u C;simp at C;subst C;rfl
    case c3=>unfold maxLen;omega
    case c4=>omega
    case c5=>have:=g.size;simp;omega
    intro v' w1 h j _;go_wp2;go_ret;refine⟨v',rfl,?_,?_⟩
    ·rw[aJ I,Va p.out,Wr,V5];exact h
    ·refine (g.alloc g.size _).grown j (by have:=g.size;simp;omega) (fun k D=>?_);exact ou f D
   ·have p:Hid ((aB.eG s s.size).size=0):=(wX E);go_wp2;go_ret;exact⟨_,rfl,by rw[aJ I,Vb p.out,X5];exact f,g⟩
def eK(k:U8):U5 UInt8:=match k with|0=>[109,111]|1=>[116,117]|2=>[119,101]|3=>[116,104]|4=>[102,114]|5=>[115,97]|_=>[115,117]
theorem lU(g:k<7)(h:(l==eK k)=Vg)(f:∀ j,j<k->(l==eK j)=Vf):aB.dC l=k:=by
 have e:=beq_iff_eq.1 h;subst e;rcases (show k=0\/k=1\/k=2\/k=3\/k=4\/k=5\/k=6 by omega) with rfl|rfl|rfl|rfl|rfl|rfl|rfl <;> decide
theorem Fp(f:∀ j,j<7->(l==eK j)=Vf):aB.dC l=-1:=by
 have t:=f 0 UU;have r:=f 1 UU;have q:=f 2 UU;have p:=f 3 UU;have i:=f 4 UU;have h:=f 5 UU;have g:=f 6 UU;simp only[eK] at t r q p i h g;simp[aB.dC,t,r,q,p,i,h,g]
theorem lW(f:∀ j,j<k->(l==eK j)=Vf)(h:(l==eK k)=Vf):∀ j,j<k+1->(l==eK j)=Vf:=fun j g=>by
 by_cases e:j=k
 ·subst e;exact h
 ·exact f j UU
def mN(s:U4):U9:=if 0<=aB.dC s.data.toList then aB.dC s.data.toList else 0
def mj(s:U4):U7:=decide (0<=aB.dC s.data.toList)
theorem UC(s:U4)(w:Vh)(q:Env w):
  Vk prog 246 #[.string s] w fun e w'=>e=.returned (.tuple #[.int .i64 (mN s),.bool (mj s)])/\w'=w:=by
 have F:=q.mo;have E:=q.tu;have D:=q.we;have C:=q.th;have z:=q.fr;have x:=q.sa;have u:=q.su;have p:=hide (toList_data s);clear q
 go_in
 go_wp2
 go_loop [4,5] (fun _ i=>∃ k:U8,k<=7/\i=.int .i64 k/\∀ j,j<k->(s.data.toList==eK j)=Vf) (fun _ i=>7-(intOf i).toNat)
 case atStart=>exact⟨0,by omega,rfl,fun j t=>Vc t UU⟩
 case round =>
  obtain⟨k,G,rfl,r⟩:=hrel;have h:=hide r;clear r;rcases (show k=0\/k=1\/k=2\/k=3\/k=4\/k=5\/k=6\/k=7 by omega) with rfl|rfl|rfl|rfl|rfl|rfl|rfl|rfl
  ·cases g:([109,111]==s.toList)
   ·have f:Hid ((s.data.toList==eK 0)=Vf):=by
     show (s.data.toList==eK 0)=Vf;rw[<- aJ p,Y4];exact g
    go_wp2
    go_round
    case rel=>exact⟨1,by omega,by go_num,lW (aJ h) f.out⟩
    case measure=>simp[intOf]
   ·have f:Hid (aB.dC s.data.toList=0):=lU (k:=0) UU (by rw[<- aJ p,Y4];exact g) (aJ h);go_wp2;go_ret2;exact⟨eE (by rw[mN,f.out];rfl) (by rw[mj,f.out];rfl),rfl⟩
  ·cases g:([116,117]==s.toList)
   ·have f:Hid ((s.data.toList==eK 1)=Vf):=by
     show (s.data.toList==eK 1)=Vf;rw[<- aJ p,Y4];exact g
    go_wp2
    go_round
    case rel=>exact⟨2,by omega,by go_num,lW (aJ h) f.out⟩
    case measure=>simp[intOf]
   ·have f:Hid (aB.dC s.data.toList=1):=lU (k:=1) UU (by rw[<- aJ p,Y4];exact g) (aJ h);go_wp2;go_ret2;exact⟨eE (by rw[mN,f.out];rfl) (by rw[mj,f.out];rfl),rfl⟩
  ·cases g:([119,101]==s.toList)
   ·have f:Hid ((s.data.toList==eK 2)=Vf):=by
     show (s.data.toList==eK 2)=Vf;rw[<- aJ p,Y4];exact g
    go_wp2
    go_round
    case rel=>exact⟨3,by omega,by go_num,lW (aJ h) f.out⟩
    case measure=>simp[intOf]
   ·have f:Hid (aB.dC s.data.toList=2):=lU (k:=2) UU (by rw[<- aJ p,Y4];exact g) (aJ h);go_wp2;go_ret2;exact⟨eE (by rw[mN,f.out];rfl) (by rw[mj,f.out];rfl),rfl⟩
  ·cases g:([116,104]==s.toList)
   ·have f:Hid ((s.data.toList==eK 3)=Vf):=by
     show (s.data.toList==eK 3)=Vf;rw[<- aJ p,Y4];exact g
    go_wp2
    go_round
    case rel=>exact⟨4,by omega,by go_num,lW (aJ h) f.out⟩
    case measure=>simp[intOf]
   ·have f:Hid (aB.dC s.data.toList=3):=lU (k:=3) UU (by rw[<- aJ p,Y4];exact g) (aJ h);go_wp2;go_ret2;exact⟨eE (by rw[mN,f.out];rfl) (by rw[mj,f.out];rfl),rfl⟩
  ·cases g:([102,114]==s.toList)
   ·have f:Hid ((s.data.toList==eK 4)=Vf):=by
     show (s.data.toList==eK 4)=Vf;rw[<- aJ p,Y4];exact g
    go_wp2
    go_round
    case rel=>exact⟨5,by omega,by go_num,lW (aJ h) f.out⟩
    case measure=>simp[intOf]
   ·have f:Hid (aB.dC s.data.toList=4):=lU (k:=4) UU (by rw[<- aJ p,Y4];exact g) (aJ h);go_wp2;go_ret2;exact⟨eE (by rw[mN,f.out];rfl) (by rw[mj,f.out];rfl),rfl⟩
  ·cases g:([115,97]==s.toList)
   ·have f:Hid ((s.data.toList==eK 5)=Vf):=by
     show (s.data.toList==eK 5)=Vf;rw[<- aJ p,Y4];exact g
    go_wp2
    go_round
    case rel=>exact⟨6,by omega,by go_num,lW (aJ h) f.out⟩
    case measure=>simp[intOf]
   ·have f:Hid (aB.dC s.data.toList=5):=lU (k:=5) UU (by rw[<- aJ p,Y4];exact g) (aJ h);go_wp2;go_ret2;exact⟨eE (by rw[mN,f.out];rfl) (by rw[mj,f.out];rfl),rfl⟩
  ·cases g:([115,117]==s.toList)
   ·have f:Hid ((s.data.toList==eK 6)=Vf):=by
     show (s.data.toList==eK 6)=Vf;rw[<- aJ p,Y4];exact g
    go_wp2
    go_round
    case rel=>exact⟨7,by omega,by go_num,lW (aJ h) f.out⟩
    case measure=>simp[intOf]
   ·have f:Hid (aB.dC s.data.toList=6):=lU (k:=6) UU (by rw[<- aJ p,Y4];exact g) (aJ h);go_wp2;go_ret2;exact⟨eE (by rw[mN,f.out];rfl) (by rw[mj,f.out];rfl),rfl⟩
  ·have f:Hid (aB.dC s.data.toList=-1):=Fp (aJ h);go_wp2;go_ret2;exact⟨eE (by rw[mN,f.out];rfl) (by rw[mj,f.out];rfl),rfl⟩
theorem Ng(s:U4)(w:Vh):
  Vk prog 190 #[.string s] w fun e w'=>e=.returned (.int .i64 (aB.dC s.data.toList))/\Vj w.heap.size w w':=by
 have p:=hide (toList_data s);have q:Hid (∀ o,Vj w.heap.size w (w.alloc o)):=fun o=>(zr _ _).alloc (zq _) o
 go_in
 go_wp2
 go_loop [4] (fun i=>∃ k:U8,k<=7/\i=.int .i64 k/\∀ j,j<k->(s.data.toList==eK j)=Vf) (fun i=>7-(intOf i).toNat)
 case atStart=>exact⟨0,by omega,rfl,fun j t=>Vc t UU⟩
 case round =>
  obtain⟨k,u,rfl,r⟩:=hrel;have h:=hide r;clear r;rcases (show k=0\/k=1\/k=2\/k=3\/k=4\/k=5\/k=6\/k=7 by omega) with rfl|rfl|rfl|rfl|rfl|rfl|rfl|rfl
  ·cases g:(s.toList==[109,111])
   ·have f:Hid ((s.data.toList==eK 0)=Vf):=by
     show (s.data.toList==eK 0)=Vf;rw[<- aJ p];exact g
    go_wp2
    go_round
    case rel=>exact⟨1,by omega,by go_num,lW (aJ h) f.out⟩
    case measure=>simp[intOf]
   ·have f:Hid (aB.dC s.data.toList=0):=lU (k:=0) UU (by rw[<- aJ p];exact g) (aJ h);go_wp2;go_ret;exact⟨fL (by rw[f.out]),q.out _⟩
  ·cases g:(s.toList==[116,117])
   ·have f:Hid ((s.data.toList==eK 1)=Vf):=by
     show (s.data.toList==eK 1)=Vf;rw[<- aJ p];exact g
    go_wp2
    go_round
    case rel=>exact⟨2,by omega,by go_num,lW (aJ h) f.out⟩
    case measure=>simp[intOf]
   ·have f:Hid (aB.dC s.data.toList=1):=lU (k:=1) UU (by rw[<- aJ p];exact g) (aJ h);go_wp2;go_ret;exact⟨fL (by rw[f.out]),q.out _⟩
  ·cases g:(s.toList==[119,101])
   ·have f:Hid ((s.data.toList==eK 2)=Vf):=by
     show (s.data.toList==eK 2)=Vf;rw[<- aJ p];exact g
    go_wp2
    go_round
    case rel=>exact⟨3,by omega,by go_num,lW (aJ h) f.out⟩
    case measure=>simp[intOf]
   ·have f:Hid (aB.dC s.data.toList=2):=lU (k:=2) UU (by rw[<- aJ p];exact g) (aJ h);go_wp2;go_ret;exact⟨fL (by rw[f.out]),q.out _⟩
  ·cases g:(s.toList==[116,104])
   ·have f:Hid ((s.data.toList==eK 3)=Vf):=by
     show (s.data.toList==eK 3)=Vf;rw[<- aJ p];exact g
    go_wp2
    go_round
    case rel=>exact⟨4,by omega,by go_num,lW (aJ h) f.out⟩
    case measure=>simp[intOf]
   ·have f:Hid (aB.dC s.data.toList=3):=lU (k:=3) UU (by rw[<- aJ p];exact g) (aJ h);go_wp2;go_ret;exact⟨fL (by rw[f.out]),q.out _⟩
  ·cases g:(s.toList==[102,114])
   ·have f:Hid ((s.data.toList==eK 4)=Vf):=by
     show (s.data.toList==eK 4)=Vf;rw[<- aJ p];exact g
    go_wp2
    go_round
    case rel=>exact⟨5,by omega,by go_num,lW (aJ h) f.out⟩
    case measure=>simp[intOf]
   ·have f:Hid (aB.dC s.data.toList=4):=lU (k:=4) UU (by rw[<- aJ p];exact g) (aJ h);go_wp2;go_ret;exact⟨fL (by rw[f.out]),q.out _⟩
  ·cases g:(s.toList==[115,97])
   ·have f:Hid ((s.data.toList==eK 5)=Vf):=by
     show (s.data.toList==eK 5)=Vf;rw[<- aJ p];exact g
    go_wp2
    go_round
    case rel=>exact⟨6,by omega,by go_num,lW (aJ h) f.out⟩
    case measure=>simp[intOf]
   ·have f:Hid (aB.dC s.data.toList=5):=lU (k:=5) UU (by rw[<- aJ p];exact g) (aJ h);go_wp2;go_ret;exact⟨fL (by rw[f.out]),q.out _⟩
  ·cases g:(s.toList==[115,117])
   ·have f:Hid ((s.data.toList==eK 6)=Vf):=by
     show (s.data.toList==eK 6)=Vf;rw[<- aJ p];exact g
    go_wp2
    go_round
    case rel=>exact⟨7,by omega,by go_num,lW (aJ h) f.out⟩
    case measure=>simp[intOf]
   ·have f:Hid (aB.dC s.data.toList=6):=lU (k:=6) UU (by rw[<- aJ p];exact g) (aJ h);go_wp2;go_ret;exact⟨fL (by rw[f.out]),q.out _⟩
  ·have f:Hid (aB.dC s.data.toList=-1):=Fp (aJ h);go_wp2;go_ret;exact⟨fL (by rw[f.out]),q.out _⟩
structure DS(w:Vh)(b:U8)(acc:U5 U9):Prop where
 c0:w.cell? ⟨b,0,Vd⟩=Ve (.bool (aI acc 0))
 c1:w.cell? ⟨b,1,Vd⟩=Ve (.bool (aI acc 1))
 c2:w.cell? ⟨b,2,Vd⟩=Ve (.bool (aI acc 2))
 c3:w.cell? ⟨b,3,Vd⟩=Ve (.bool (aI acc 3))
 c4:w.cell? ⟨b,4,Vd⟩=Ve (.bool (aI acc 4))
 c5:w.cell? ⟨b,5,Vd⟩=Ve (.bool (aI acc 5))
 c6:w.cell? ⟨b,6,Vd⟩=Ve (.bool (aI acc 6))
 f:∀ j:U8,w.frozen? ⟨b,j,Vd⟩=Vf
theorem DS.later(h:DS w b acc)(g:Vj w.heap.size w wx):DS wx b acc :=
 ⟨cell_later g h.c0,cell_later g h.c1,cell_later g h.c2,cell_later g h.c3,cell_later g h.c4,cell_later g h.c5,cell_later g h.c6,fun j=>(g.frozen (p:=⟨b,j,Vd⟩) (show b<w.heap.size from Vr _ ⟨b,0,Vd⟩ h.c0)).trans (h.f j)⟩
theorem DS.at(h:DS w b acc)(d:U9)(g:0<=d)(f:d<7):w.cell? ⟨b,d.toNat,Vd⟩=Ve (.bool (aI acc d)):=by
 rcases (show d=0\/d=1\/d=2\/d=3\/d=4\/d=5\/d=6 by omega) with rfl|rfl|rfl|rfl|rfl|rfl|rfl
 ·exact h.c0
 ·exact h.c1
 ·exact h.c2
 ·exact h.c3
 ·exact h.c4
 ·exact h.c5
 ·exact h.c6
theorem sC(d:U9)(i:0<=d){u:Vi}(f:w.cell? ⟨b,k,Vd⟩=Ve (.bool (aI acc k)))(_hu:u=.bool Vg):(w.setCell ⟨b,d.toNat,Vd⟩ (.bool Vg)).cell? ⟨b,k,Vd⟩=Ve (.bool (aI (d :: acc) k)):=by
 by_cases e:d.toNat=k
 ·have h:d=(k:U9):=UU
  rw[e,VF _ _ _ f];simp[aI,h]
 ·rw[World.cell?_setCell_other _ _ _ _ UV,f];have g:(k:U9)≠d:=UU
  simp[aI,g]
theorem DS.set(h:DS w b acc)(d:U9)(g:0<=d):DS (w.setCell ⟨b,d.toNat,Vd⟩ (.bool Vg)) b (d :: acc) :=
 ⟨sC (k:=0) d g h.c0 rfl,sC (k:=1) d g h.c1 rfl,sC (k:=2) d g h.c2 rfl,sC (k:=3) d g h.c3 rfl,sC (k:=4) d g h.c4 rfl,sC (k:=5) d g h.c5 rfl,sC (k:=6) d g h.c6 rfl,fun j=>(zF ..).trans (h.f j)⟩
theorem AO{i:U8}(h:DS w b acc)(_hne:i≠b):DS (w.setCell ⟨i,o,Vd⟩ v) b acc:=by
 have g:∀ j:U8,(w.setCell ⟨i,o,Vd⟩ v).cell? ⟨b,j,Vd⟩=w.cell? ⟨b,j,Vd⟩:=fun j=>zS _ _ _ _ UV
 exact⟨(g 0).trans h.c0,(g 1).trans h.c1,(g 2).trans h.c2,(g 3).trans h.c3,(g 4).trans h.c4,(g 5).trans h.c5,(g 6).trans h.c6,fun j=>(zF ..).trans (h.f j)⟩
def e9(acc:U5 U9):Vi:=.agg #[.bool (aI acc 0),.bool (aI acc 1),.bool (aI acc 2),.bool (aI acc 3),.bool (aI acc 4),.bool (aI acc 5),.bool (aI acc 6)]
def rJ(s:U4)(k:U8)(acc:U5 U9):Prop :=
 (3*k<s.size/\aB.iq s=aB.iz (s.data.toList.drop (3*k)) acc)\/(3*k=s.size+1/\aB.iq s=Ve acc)
theorem EY(s:U4)(k:U8)(h:s.size % 3=2)(q:3*k<s.size):
  (3*k+2=s.size/\s.data.toList.drop (3*k)=aB.part s (3*k) (3*k+2)/\(aB.part s (3*k) (3*k+2)).length=2) \/
  (3*k+3<s.size/\∃ a b c,s.data.toList.drop (3*k)=a :: b :: c :: s.data.toList.drop (3*(k+1))/\aB.part s (3*k) (3*k+2)=[a,b]/\(c.toNat:U9)=aB.dP s (3*k+2)):=by
 have p:=aB.fM s
 have f:aB.part s (3*k) (3*k+2)=(s.data.toList.drop (3*k)).take 2:=by
  unfold aB.part;rw[aB.oI,List.drop_take];congr 1;omega
 by_cases j:3*k+2=s.size
 ·left;have e:(s.data.toList.drop (3*k)).length=2:=by rw[List.length_drop];omega
  refine⟨j,?_,?_⟩
  ·rw[f,List.take_of_length_le UU]
  ·rw[f,Yp];omega
 ·right;have g:3*k+3<s.size:=UU
  refine⟨g,s.data.toList[3*k]'UU,s.data.toList[3*k+1]'UU,s.data.toList[3*k+2]'UU,?_,?_,?_⟩
  ·rw[WQ UU,WQ (i:=3*k+1) UU,WQ (i:=3*k+1+1) UU,show 3*k+1+1+1=3*(k+1) from by omega]
  ·rw[f,WQ UU,WQ (i:=3*k+1) UU];rfl
  ·unfold aB.dP;rw[List.getD_eq_getElem?_getD,List.getElem?_eq_getElem UU];rfl
theorem MO(s:U4)(h:s.size % 3=2):rJ s 0 []:=.inl ⟨by omega,rfl⟩
theorem LP(h:rJ s k acc)(u:s.size % 3=2)(t:3*k<s.size)(f:aB.dC (aB.part s (3*k) (3*k+2))<0\/aI acc (aB.dC (aB.part s (3*k) (3*k+2)))=Vg\/(3*k+2<s.size/\aB.dP s (3*k+2)≠44)):aB.iq s=Vd:=by
 rcases h with ⟨_,h⟩|⟨h,_⟩
 ·rw[h]
  have g:aB.dC (aB.part s (3*k) (3*k+2))<0\/aI acc (aB.dC (aB.part s (3*k) (3*k+2)))=Vg->aB.jM acc (aB.dC (aB.part s (3*k) (3*k+2)))=Vd:=fun q=>by
   unfold aB.jM;rw[Va];rintro ⟨D,r⟩;rcases q with q|q
   ·omega
   ·unfold aI at q;rw[q] at r;cases r
  rcases EY s k u t with ⟨C,p,i⟩|⟨C,a,b,c,p,i,z⟩
  ·rw[p];rcases f with f|f|f
   all_goals first|omega|skip
   all_goals
    obtain⟨x,y,j⟩:∃ x y,aB.part s (3*k) (3*k+2)=[x,y]:=by
     match hm:aB.part s (3*k) (3*k+2),i with
     |[x,y],_=>exact⟨x,y,rfl⟩
    have:=g (by first|exact .inl f|exact .inr f);rw[j] at this ⊢;exact this
  ·rw[p,aB.iz]
   split
   ·rename_i hc
    rcases f with f|f|f
    ·have:=g (.inl f);rw[i] at this;rw[this];rfl
    ·have:=g (.inr f);rw[i] at this;rw[this];rfl
    ·subst hc;exfalso;apply f.2;rw[<- z];rfl
   ·rfl
 ·omega
theorem Mh(h:rJ s k acc)(t:s.size % 3=2)(q:3*k<s.size)(u:0<=aB.dC (aB.part s (3*k) (3*k+2)))(j:aI acc (aB.dC (aB.part s (3*k) (3*k+2)))=Vf)(p:3*k+2<s.size->aB.dP s (3*k+2)=44):rJ s (k+1) (aB.dC (aB.part s (3*k) (3*k+2)) :: acc):=by
 have st:aB.jM acc (aB.dC (aB.part s (3*k) (3*k+2)))=Ve (aB.dC (aB.part s (3*k) (3*k+2)) :: acc):=by
  unfold aB.jM;rw[Vb ⟨u,j⟩]
 rcases h with ⟨_,h⟩|⟨h,_⟩
 ·rcases EY s k t q with ⟨C,i,g⟩|⟨C,a,b,c,i,g,z⟩
  ·right;refine⟨by omega,?_⟩;rw[h,i]
   obtain⟨x,y,f⟩:∃ x y,aB.part s (3*k) (3*k+2)=[x,y]:=by
    match j:aB.part s (3*k) (3*k+2),g with
    |[x,y],_=>exact⟨x,y,rfl⟩
   rw[f] at st ⊢;exact st
  ·left;refine⟨by omega,?_⟩
   have r:c=44:=by
    have:=p UU;rw[<- z] at this;exact UInt8.toNat_inj.1 (by simpa using (by omega:(c.toNat)=44))
   rw[h,i,aB.iz,Vb r,<- g,st];rfl
 ·omega
theorem zw(s:U4)(w:Vh)(hm:s.size<=160):
  Vk prog 129 #[.string s] w fun e w'=>(∃ acc,e=.returned (.tuple #[e9 acc,.bool (aB.dU s)])/\(aB.dU s=Vg->aB.iq s=Ve acc))/\Vj w.heap.size w w':=by
 by_cases h3:s.size % 3=2
 ·have aa:(((s.size:U9) % 3) != 2)=Vf:=nS UU
  go_in
  go_wp2;obtain⟨W,J⟩:∃ W,W=(w.alloc (.cells #[.bool Vf,.bool Vf,.bool Vf,.bool Vf,.bool Vf,.bool Vf,.bool Vf] 159)).alloc (.cells #[.bool Vf,.bool Vf,.bool Vf,.bool Vf,.bool Vf,.bool Vf,.bool Vf] 159):=⟨_,rfl⟩;rw[<- J];have hB:Vj w.heap.size w W:=by rw[J];exact ((zr _ _).alloc (zq _) _).alloc UV _
  have hZ:w.heap.size+2=W.heap.size:=by rw[J];simp
  have dR:DS W w.heap.size []:=by
   rw[J];refine⟨?_,?_,?_,?_,?_,?_,?_,fun j=>?_⟩ <;> simp[aI]
  have dD:DS W (w.heap.size+1) []:=by
   rw[J];refine⟨?_,?_,?_,?_,?_,?_,?_,fun j=>?_⟩ <;> simp[aI]
  clear J
  go_loopw [5,6] (fun i _ wx=>∃ (k:U8) (acc:U5 U9),3*k<=s.size+1/\i=.int .i64 ((3*k:U8):U9)/\rJ s k acc/\DS wx (w.heap.size+1) acc/\DS wx w.heap.size []/\Vj w.heap.size w wx/\w.heap.size+2<=wx.heap.size) (fun i _ _=>s.size+3-(intOf i).toNat)
  case atStart=>exact⟨0,[],by omega,rfl,MO s h3,dD,dR,hB,by omega⟩
  case round =>
   obtain⟨k,acc,hk,rfl,G,H,E,F,S⟩:=hrel
   by_cases U:3*k<s.size
   ·have hd:=aB.xq (aB.part s (3*k) (3*k+2));have Z:=hide G;clear G
    go_wp2_with fail
    refine (Ng _ _).mono ?_;rintro e w1 ⟨rfl,C⟩;rw[show (s.extract (3*k) (3*k+2)).data.toList=aB.part s (3*k) (3*k+2) from rfl];have D:Vj w.heap.size w w1:=F.trans (C.mono F.size);have ab:w.heap.size+2<=w1.heap.size:=Vq S C.size;have g:=H.later C;have p:=E.later C;have q0:=g.c0;have q1:=g.c1;have q2:=g.c2;have q3:=g.c3;have q4:=g.c4;have q5:=g.c5;have q6:=g.c6;have Q:=p.c0;have P:=p.c1;have O:=p.c2;have N:=p.c3;have M:=p.c4;have L:=p.c5;have K:=p.c6;have fR:=p.f;have fD:=g.f;obtain⟨d,V⟩:∃ d,d=aB.dC (aB.part s (3*k) (3*k+2)):=⟨_,rfl⟩;have u:=hide (fun q=>LP (aJ Z) h3 U q);have t:=hide (fun q1 q2 q3=>Mh (aJ Z) h3 U q1 q2 q3);rw[<- V] at hd u t ⊢;clear V H E F S C hB hZ dR dD
    by_cases T:d<0
    ·have x:Hid (aB.dU s=Vf):=by show aB.dU s=Vf;unfold aB.dU;rw[aJ u (.inl T)];rfl
     go_wp2;refine bodyPost_ret (v:=.tuple #[e9 acc,.bool Vf]) (by simp[results,results129,go_sem,e9,Q,P,O,N,M,L,K]) rfl ⟨⟨acc,?_,?_⟩,?_⟩
     ·rw[x.out]
     ·intro h;rw[x.out] at h;cases h
     ·exact (((((((D.setCell (zq _) _).setCell (zq _) _).setCell (zq _) _).setCell (zq _) _).setCell (zq _) _).setCell (zq _) _).setCell (zq _) _)
    ·have hc:=g.at d UU UU
     cases z:aI acc d
     ·rw[z] at hc
      by_cases Y:3*k+2<s.size
      ·cases I:(((s[3*k+2]'Y).toNat:U9) != 44)
       ·have HX:Hid (rJ s (k+1) (d :: acc)):=aJ t UU z (fun _=>by
         rw[aB.jc s _ Y];simpa using I)
        go_wp2;refine⟨⟨k+1,d :: acc,by omega,by go_num,HX.out,?_,?_,?_,?_⟩,by simp[intOf];omega⟩
        ·exact g.set d UU
        ·exact AO p UU
        ·exact D.setCell UV _
        ·simp;omega
       ·have x:Hid (aB.dU s=Vf):=by
         show aB.dU s=Vf;unfold aB.dU;rw[aJ u (.inr (.inr ⟨Y,by rw[aB.jc s _ Y];simpa using I⟩))];rfl
        go_wp2;refine bodyPost_ret (v:=.tuple #[e9 acc,.bool Vf]) (by simp[results,results129,go_sem,e9,Q,P,O,N,M,L,K]) rfl ⟨⟨acc,?_,?_⟩,?_⟩
        ·rw[x.out]
        ·intro h;rw[x.out] at h;cases h
        ·exact (((((((D.setCell (zq _) _).setCell (zq _) _).setCell (zq _) _).setCell (zq _) _).setCell (zq _) _).setCell (zq _) _).setCell (zq _) _)
      ·have HX:Hid (rJ s (k+1) (d :: acc)):=aJ t UU z (fun h=>Vc h Y);go_wp2;refine⟨⟨k+1,d :: acc,by omega,by go_num,HX.out,?_,?_,?_,?_⟩,by simp[intOf];omega⟩
       ·exact g.set d UU
       ·exact AO p UU
       ·exact D.setCell UV _
       ·simp;omega
     ·rw[z] at hc;have x:Hid (aB.dU s=Vf):=by show aB.dU s=Vf;unfold aB.dU;rw[aJ u (.inr (.inl z))];rfl
      go_wp2;refine bodyPost_ret (v:=.tuple #[e9 acc,.bool Vf]) (by simp[results,results129,go_sem,e9,Q,P,O,N,M,L,K]) rfl ⟨⟨acc,?_,?_⟩,?_⟩
      ·rw[x.out]
      ·intro h;rw[x.out] at h;cases h
      ·exact (((((((D.setCell (zq _) _).setCell (zq _) _).setCell (zq _) _).setCell (zq _) _).setCell (zq _) _).setCell (zq _) _).setCell (zq _) _)
   ·have HF:Hid (aB.iq s=Ve acc):=by
     rcases G with ⟨h,_⟩|⟨_,h⟩
     ·omega
     ·exact h
    have x:Hid (aB.dU s=Vg):=by show aB.dU s=Vg;unfold aB.dU;rw[HF.out];rfl
    clear G;have q0:=H.c0;have q1:=H.c1;have q2:=H.c2;have q3:=H.c3;have q4:=H.c4;have q5:=H.c5;have q6:=H.c6;have Q:=E.c0;have P:=E.c1;have O:=E.c2;have N:=E.c3;have M:=E.c4;have L:=E.c5;have K:=E.c6;have fR:=E.f;go_wp2;refine bodyPost_ret (v:=.tuple #[e9 acc,.bool Vg]) (by simp[results,results129,go_sem,e9,Q,P,O,N,M,L,K]) rfl ⟨⟨acc,?_,?_⟩,?_⟩
    ·rw[x.out]
    ·intro _;exact HF.out
    ·exact (((((((F.setCell (zq _) _).setCell (zq _) _).setCell (zq _) _).setCell (zq _) _).setCell (zq _) _).setCell (zq _) _).setCell (zq _) _)
 ·have aa:(((s.size:U9) % 3) != 2)=Vg:=nT UU
  have x:Hid (aB.dU s=Vf):=by
   show aB.dU s=Vf;unfold aB.dU
   cases ho:aB.iq s with
   |none=>rfl
   |some r=>have:=aB.DB _ _ _ ho;rw[aB.fM] at this;omega
  clear h3
  go_in
  go_wp2;refine bodyPost_ret (v:=.tuple #[e9 [],.bool Vf]) (by simp[results,results129,go_sem,e9,aI]) rfl ⟨⟨[],?_,?_⟩,?_⟩
  ·rw[x.out]
  ·intro h;rw[x.out] at h;cases h
  ·exact ((zr _ _).alloc (zq _) _).alloc UV _
def eT(s:U4):U5 U4:=Lib.splitB ⟨#[44]⟩ 0 (Y5 s ⟨#[44]⟩) s
theorem Gd(s:U4):(eT s).length=Y5 s ⟨#[44]⟩+1:=Lib.splitB_all ⟨#[44]⟩ UW 0 _ s rfl
theorem Oh(s:U4):aB.nz ((eT s).map (·.data.toList)) []=aB.iq s:=aB.Rt s
theorem S7(s:U4)(h:s.size<=160):(eT s).length<=161:=by
 rw[Gd];have:=Lib.countB_le ⟨#[44]⟩ UW s.size s (zq _);omega
theorem Su(w:Vh)(l:U5 U4)(t:TypeId)(j:U8)(x:U4)(h:l[j]?=Ve x):(w.alloc (.cells (l.map Y0).toArray t)).cell? ⟨w.heap.size,j,Vd⟩=Ve (.string x):=by
 rw[World.cell?_alloc_at _ _ _ _ rfl];simp[h]
def qK(s:U4)(k:U8)(acc:U5 U9):Prop:=aB.iq s=aB.nz (((eT s).map (·.data.toList)).drop k) acc
theorem IR(h:qK s k acc)(f:k<(eT s).length):aB.iq s=(aB.jM acc (aB.dC (eT s)[k].data.toList)).bind (aB.nz (((eT s).map (·.data.toList)).drop (k+1))):=by
 rw[h,WQ (by simpa using f)];simp[aB.nz]
theorem Ro(h:qK s k acc)(i:k<(eT s).length)(j:aB.dC (eT s)[k].data.toList<0\/aI acc (aB.dC (eT s)[k].data.toList)=Vg):aB.dU s=Vf:=by
 have e:=IR h i
 have f:aB.jM acc (aB.dC (eT s)[k].data.toList)=Vd:=by
  unfold aB.jM;rw[Va];rintro ⟨p,g⟩;rcases j with q|q
  ·omega
  ·unfold aI at q;rw[q] at g;cases g
 rw[f] at e;unfold aB.dU;rw[e];rfl
theorem R9(h:qK s k acc)(g:k<(eT s).length)(i:0<=aB.dC (eT s)[k].data.toList)(f:aI acc (aB.dC (eT s)[k].data.toList)=Vf):qK s (k+1) (aB.dC (eT s)[k].data.toList :: acc):=by
 have e:=IR h g
 have st:aB.jM acc (aB.dC (eT s)[k].data.toList)=Ve (aB.dC (eT s)[k].data.toList :: acc):=by
  unfold aB.jM;rw[Vb ⟨i,f⟩]
 rw[st] at e;exact e
theorem Rp(h:qK s k acc)(f:(eT s).length<=k):aB.iq s=Ve acc:=by
 unfold qK at h;rw[List.drop_of_length_le (by simpa using f)] at h;exact h
theorem Iw(s:U4)(w:Vh)(he:Env w)(hm:s.size<=160):
  Vk prog 194 #[.string s] w fun e w'=>(∃ acc,e=.returned (.tuple #[e9 acc,.bool (aB.dU s)])/\(aB.dU s=Vg->aB.iq s=Ve acc))/\Vj w.heap.size w w':=by
 obtain⟨mx,M⟩:=he.tD;have HE:=hide he;have hz:=he.size;clear he;have ai:=S7 s hm
 go_in
 go_wp2_with fail
 obtain⟨W,J⟩:∃ W,W=(w.alloc (.cells #[.bool Vf,.bool Vf,.bool Vf,.bool Vf,.bool Vf,.bool Vf,.bool Vf] 160)).alloc (.cells #[.bool Vf,.bool Vf,.bool Vf,.bool Vf,.bool Vf,.bool Vf,.bool Vf] 160):=⟨_,rfl⟩;rw[<- J];have hB:Vj w.heap.size w W:=by rw[J];exact ((zr _ _).alloc (zq _) _).alloc UV _
 have hZ:w.heap.size+2=W.heap.size:=by rw[J];simp
 have dR:DS W w.heap.size []:=by
  rw[J];refine⟨?_,?_,?_,?_,?_,?_,?_,fun j=>?_⟩ <;> simp[aI]
 have dD:DS W (w.heap.size+1) []:=by
  rw[J];refine⟨?_,?_,?_,?_,?_,?_,?_,fun j=>?_⟩ <;> simp[aI]
 have N:=cell_later hB M;clear J;refine (strings_Split s ⟨#[44]⟩ mx W UU N UW).mono ?_;rintro e w1 ⟨rfl,C⟩;have hP:∀ j x,(eT s)[j]?=Ve x->w1.cell? ⟨W.heap.size,j,Vd⟩=Ve (.string x):=fun j x hx=>by rw[C];exact Su W (eT s) _ j x hx
 have F:Vj W.heap.size W w1:=by rw[C];exact (zr _ _).alloc (zq _) _
 have aj:W.heap.size<w1.heap.size:=by rw[C];simp
 clear C;rw[show Y5 s ⟨#[44]⟩+1=(eT s).length from (Gd s).symm];have HP:=hide hP;have af:=hide (((aJ HE).later hB).later F);have ac:=dR.later F;have ad:=dD.later F;have aa:Vj w.heap.size w w1:=hB.trans (F.mono UU);clear hP dR dD hB N M af;go_wp2
 go_loopw [6,7,8,12] (fun _ _ _ i wx=>∃ (k:U8) (acc:U5 U9),k<=(eT s).length/\i=.int .i64 k/\qK s k acc/\DS wx (w.heap.size+1) acc/\DS wx w.heap.size []/\Vj w.heap.size w wx/\w1.heap.size<=wx.heap.size/\(∀ j x,(eT s)[j]?=Ve x->wx.cell? ⟨W.heap.size,j,Vd⟩=Ve (.string x))) (fun _ _ _ i _=>(eT s).length-(intOf i).toNat)
 case atStart=>exact⟨0,[],Wh _,rfl,(Oh s).symm,ad,ac,aa,Vn _,aJ HP⟩
 case round =>
  obtain⟨k,acc,hk,rfl,t,p,g,r,ag,K⟩:=hrel;have P:=hide K;clear K;have ab:=hide ((aJ HE).later r)
  by_cases G:k<(eT s).length
  ·have hc:=aJ P k (eT s)[k] (by simp[G]);have hi:(k:U9)<((eT s).length:U9):=UU
   have q0:=p.c0;have q1:=p.c1;have q2:=p.c2;have q3:=p.c3;have q4:=p.c4;have q5:=p.c5;have q6:=p.c6;have Z:=g.c0;have Y:=g.c1;have V:=g.c2;have U:=g.c3;have T:=g.c4;have S:=g.c5;have Q:=g.c6;have fR:=g.f;have fD:=p.f;have hd:=aB.xq (eT s)[k].data.toList;have z:=hide (fun q=>Ro t G q);have u:=hide (fun q1 q2=>R9 t G q1 q2);clear t
   go_wp2_with fail
   refine (UC _ _ (aJ ab)).mono ?_;rintro e w2 ⟨rfl,rfl⟩;obtain⟨d,E⟩:∃ d,d=aB.dC (eT s)[k].data.toList:=⟨_,rfl⟩;have HV:Hid (mN (eT s)[k]=if 0<=d then d else 0):=by show mN (eT s)[k]=_;rw[E];rfl
   have HW:Hid (mj (eT s)[k]=decide (0<=d)):=by show mj (eT s)[k]=_;rw[E];rfl
   rw[<- E] at hd z u;clear E
   by_cases L:d<0
   ·have I:Hid (aB.dU s=Vf):=aJ z (.inl L);have H:Hid (mj (eT s)[k]=Vf):=HW.out.trans (decide_eq_false UU);rw[H.out];go_wp2;refine bodyPost_ret (v:=.tuple #[e9 [],.bool Vf]) (by simp[results,results194,go_sem,e9,aI,Z,Y,V,U,T,S,Q]) rfl ⟨⟨[],?_,?_⟩,?_⟩
    ·rw[I.out]
    ·intro h;rw[I.out] at h;cases h
    ·exact (((((((r.setCell (zq _) _).setCell (zq _) _).setCell (zq _) _).setCell (zq _) _).setCell (zq _) _).setCell (zq _) _).setCell (zq _) _)
   ·have ae:Hid (mN (eT s)[k]=d):=HV.out.trans (Vb UU);have H:Hid (mj (eT s)[k]=Vg):=HW.out.trans (decide_eq_true UU);rw[ae.out,H.out];have O:=p.at d UU UU
    cases D:aI acc d
    ·rw[D] at O;have HX:Hid (qK s (k+1) (d :: acc)):=aJ u UU D;go_wp2;refine⟨⟨k+1,d :: acc,by omega,by go_num,HX.out,?_,?_,?_,?_,?_⟩,by simp[intOf];omega⟩
     ·exact p.set d UU
     ·exact AO g UU
     ·exact r.setCell UV _
     ·simp;omega
     ·intro j x hx;exact (zS _ _ _ _ UV).trans (aJ P j x hx)
    ·rw[D] at O;have I:Hid (aB.dU s=Vf):=aJ z (.inr D);go_wp2;refine bodyPost_ret (v:=.tuple #[e9 [],.bool Vf]) (by simp[results,results194,go_sem,e9,aI,Z,Y,V,U,T,S,Q]) rfl ⟨⟨[],?_,?_⟩,?_⟩
     ·rw[I.out]
     ·intro h;rw[I.out] at h;cases h
     ·exact (((((((r.setCell (zq _) _).setCell (zq _) _).setCell (zq _) _).setCell (zq _) _).setCell (zq _) _).setCell (zq _) _).setCell (zq _) _)
  ·have HF:Hid (aB.iq s=Ve acc):=Rp t UU;have I:Hid (aB.dU s=Vg):=by show aB.dU s=Vg;unfold aB.dU;rw[HF.out];rfl
   clear t;have q0:=p.c0;have q1:=p.c1;have q2:=p.c2;have q3:=p.c3;have q4:=p.c4;have q5:=p.c5;have q6:=p.c6;have Z:=g.c0;have Y:=g.c1;have V:=g.c2;have U:=g.c3;have T:=g.c4;have S:=g.c5;have Q:=g.c6;have fR:=g.f;go_wp2;refine bodyPost_ret (v:=.tuple #[e9 acc,.bool Vg]) (by simp[results,results194,go_sem,e9,Z,Y,V,U,T,S,Q]) rfl ⟨⟨acc,?_,?_⟩,?_⟩
   ·rw[I.out]
   ·intro _;exact HF.out
   ·exact (((((((r.setCell (zq _) _).setCell (zq _) _).setCell (zq _) _).setCell (zq _) _).setCell (zq _) _).setCell (zq _) _).setCell (zq _) _)
theorem Env.kept(h:Env w)(k:Kept R w w')(u:10<=R):Env w':=by
 have r:Vj 10 w w':=k.below u h.size;have f:∀ (b o:U8) (v:Vi),b<10->w.cell? ⟨b,o,Vd⟩=Ve v->w'.cell? ⟨b,o,Vd⟩=Ve v:=fun b o v i e=>(r.cell (p:=⟨b,o,Vd⟩) i).trans e
 obtain⟨m,t⟩:=h.tD;obtain⟨J,I,H,G,F,E,D,C,z,x,q,j⟩:=h.iL;refine⟨⟨f _ _ _ UU J,f _ _ _ UU I,f _ _ _ UU H,f _ _ _ UU G,f _ _ _ UU F,f _ _ _ UU E,f _ _ _ UU D,f _ _ _ UU C,f _ _ _ UU z,f _ _ _ UU x,f _ _ _ UU q,f _ _ _ UU j⟩,⟨m,f _ _ _ UU t⟩,?_,Vq h.size k.size,f _ _ _ UU h.mo,f _ _ _ UU h.tu,f _ _ _ UU h.we,f _ _ _ UU h.th,f _ _ _ UU h.fr,f _ _ _ UU h.sa,f _ _ _ UU h.su⟩;have g:=h.pow;unfold YR YS at g ⊢;simp only[vd,YT] at g ⊢;rw[r.block 0 UU];exact g
def eL(s:U4)(lo hi:U9):U7:=aB.isNum s.data.toList && decide (lo<=aB.cF s.data.toList) && decide (aB.cF s.data.toList<=hi)
theorem IB(s:U4)(L M:U8)(lo hi:U9)(w:Vh)(q:s.size<=160)(t:w.cell? ⟨L,0,Vd⟩=Ve (.int .i64 lo))(r:w.cell? ⟨M,0,Vd⟩=Ve (.int .i64 hi)):
  Vk prog 191 #[.string s,.pointer (Ve ⟨L,0,Vd⟩),.pointer (Ve ⟨M,0,Vd⟩)] w fun e w'=>e=.returned (.tuple #[.int .i64 (aB.cF s.data.toList),.bool (eL s lo hi)])/\∃ n,w'=w.drewN n:=by
 have g:s.size<=maxLen:=by unfold maxLen;omega
 cases f:aB.isNum s.data.toList
 ·go_in
  go_wp2_with fail
  refine (eS s w g).mono ?_;rintro e w1 ⟨rfl,rfl⟩;rw[f];go_wp2
  go_quiet (fail)
  go_wp2;go_ret2;exact⟨eE rfl (by simp[eL,f]),_,rfl⟩
 ·by_cases j:lo<=aB.cF s.data.toList
  ·by_cases p:aB.cF s.data.toList<=hi
   ·go_in
    go_wp2_with fail
    refine (eS s w g).mono ?_;rintro e w1 ⟨rfl,rfl⟩;rw[f];go_wp2
    go_quiet (fail)
    go_wp2;go_ret2;exact⟨eE rfl (by simp[eL,f,j,p]),_,rfl⟩
   ·have h:decide (aB.cF s.data.toList<=hi)=Vf:=decide_eq_false p
    go_in
    go_wp2_with fail
    refine (eS s w g).mono ?_;rintro e w1 ⟨rfl,rfl⟩;rw[f];go_wp2
    go_quiet (fail)
    go_wp2;go_ret2;exact⟨eE rfl (by simp[eL,f,j,h]),_,rfl⟩
  ·have i:decide (lo<=aB.cF s.data.toList)=Vf:=decide_eq_false j
   go_in
   go_wp2_with fail
   refine (eS s w g).mono ?_;rintro e w1 ⟨rfl,rfl⟩;rw[f];go_wp2
   go_quiet (fail)
   go_wp2;go_ret2;exact⟨eE rfl (by simp[eL,f,i]),_,rfl⟩
theorem Tl(R A:U8)(ws:U5 U4)(nx:U8)(wr:U7)(w:Vh)(h:RS w R A ws nx wr)(r:Env w)(x:cB ws.length nx wr=Vg)(f:nx<ws.length)(C:aB.cM ws[nx]=Vg):
  Vk prog 135 #[.pointer (Ve ⟨R,0,Vd⟩),.func (.func 136) #[] #[]] w fun e w'=>e=.returned (.int .i64 (fT ws[nx]))/\RS w' R A ws (nx+1) wr/\Kept R w w':=by
 have hi:(nx:U9)<(ws.length:U9):=UU
 have i:ws[nx].size<=160:=h.short _ (zg f);have p:=hide i;clear i;have u:=hide r;clear r
 go_in
 go_wp2_with fail
 refine (im R A ws nx wr w h).mono ?_;rintro e w1 ⟨rfl,n,j⟩;have g:RS w1 R A ws nx wr:=by rw[j];exact h.drewN n
 have t:Kept R w w1:=by rw[j];exact (Kept.refl R w).drewN n
 have q:Hid (Env w1):=by show Env w1;rw[j];exact (aJ u).drewN n
 have G:=g.c0;have F:=g.c1;have D:=g.f1;have E:=g.rows nx f;have z:=g.len;clear j;go_wp2
 go_quiet ((go_at_call 136;exact YQ (Jd _ _ ((aJ q).drewN _).iL (aJ p))))
 go_wp2;go_ret;exact⟨rfl,(g.drewN _).step f,(t.drewN _).setCell _ _⟩
theorem Tk(R A:U8)(ws:U5 U4)(nx:U8)(wr:U7)(w:Vh)(h:RS w R A ws nx wr)(r:Env w)(x:cB ws.length nx wr=Vg)(i:nx<ws.length)(C:aB.cM ws[nx]=Vf):
  Vk prog 135 #[.pointer (Ve ⟨R,0,Vd⟩),.func (.func 136) #[] #[]] w fun e w'=>e=.returned (.int .i64 (0))/\RS w' R A ws nx Vg/\Kept R w w':=by
 have hi:(nx:U9)<(ws.length:U9):=UU
 have g:ws[nx].size<=160:=h.short _ (zg i);have p:=hide g;clear g;have u:=hide r;clear r
 go_in
 go_wp2_with fail
 refine (im R A ws nx wr w h).mono ?_;rintro e w1 ⟨rfl,n,j⟩;have f:RS w1 R A ws nx wr:=by rw[j];exact h.drewN n
 have t:Kept R w w1:=by rw[j];exact (Kept.refl R w).drewN n
 have q:Hid (Env w1):=by show Env w1;rw[j];exact (aJ u).drewN n
 have H:=f.c0;have G:=f.c1;have F:=f.c2;have D:=f.f2;have E:=f.rows nx i;have z:=f.len;clear j;go_wp2
 go_quiet ((go_at_call 136;exact YQ (Jd _ _ ((aJ q).drewN _).iL (aJ p))))
 go_wp2;go_ret;exact⟨rfl,(f.drewN _).bad,(t.drewN _).setCell _ _⟩
theorem small(h:n<=160):n<=maxLen:=by unfold maxLen;omega
theorem Uf(R A:U8)(ws:U5 U4)(nx:U8)(wr:U7)(w:Vh)(h:RS w R A ws nx wr)(r:cB ws.length nx wr=Vg)(f:nx<ws.length)(u:aB.dA ws[nx]=Vg):
  Vk prog 135 #[.pointer (Ve ⟨R,0,Vd⟩),.func (.func 137) #[] #[]] w fun e w'=>e=.returned (.int .i64 (aB.fo ws[nx]))/\RS w' R A ws (nx+1) wr/\Kept R w w':=by
 have hi:(nx:U9)<(ws.length:U9):=UU
 have i:ws[nx].size<=160:=h.short _ (zg f);have p:=hide i;clear i
 go_in
 go_wp2_with fail
 refine (im R A ws nx wr w h).mono ?_;rintro e w1 ⟨rfl,n,j⟩;have g:RS w1 R A ws nx wr:=by rw[j];exact h.drewN n
 have q:Kept R w w1:=by rw[j];exact (Kept.refl R w).drewN n
 have D:=g.c0;have C:=g.c1;have x:=g.f1;have z:=g.rows nx f;have t:=g.len;clear j;go_wp2
 go_quiet ((go_at_call 137;exact YQ (wb _ _ (small (aJ p)))))
 go_wp2;go_ret;exact⟨rfl,(g.drewN _).step f,(q.drewN _).setCell _ _⟩
theorem Ue(R A:U8)(ws:U5 U4)(nx:U8)(wr:U7)(w:Vh)(h:RS w R A ws nx wr)(r:cB ws.length nx wr=Vg)(i:nx<ws.length)(u:aB.dA ws[nx]=Vf):
  Vk prog 135 #[.pointer (Ve ⟨R,0,Vd⟩),.func (.func 137) #[] #[]] w fun e w'=>e=.returned (.int .i64 (0))/\RS w' R A ws nx Vg/\Kept R w w':=by
 have hi:(nx:U9)<(ws.length:U9):=UU
 have g:ws[nx].size<=160:=h.short _ (zg i);have p:=hide g;clear g
 go_in
 go_wp2_with fail
 refine (im R A ws nx wr w h).mono ?_;rintro e w1 ⟨rfl,n,j⟩;have f:RS w1 R A ws nx wr:=by rw[j];exact h.drewN n
 have q:Kept R w w1:=by rw[j];exact (Kept.refl R w).drewN n
 have E:=f.c0;have D:=f.c1;have C:=f.c2;have x:=f.f2;have z:=f.rows nx i;have t:=f.len;clear j;go_wp2
 go_quiet ((go_at_call 137;exact YQ (wb _ _ (small (aJ p)))))
 go_wp2;go_ret;exact⟨rfl,(f.drewN _).bad,(q.drewN _).setCell _ _⟩
theorem Ts(R A:U8)(ws:U5 U4)(nx:U8)(wr:U7)(w:Vh)(h:RS w R A ws nx wr)(r:Env w)(x:cB ws.length nx wr=Vg)(f:nx<ws.length)(C:bB ws[nx]=Vg):
  Vk prog 135 #[.pointer (Ve ⟨R,0,Vd⟩),.func (.func 140) #[] #[]] w fun e w'=>e=.returned (.int .i64 (dL ws[nx]))/\RS w' R A ws (nx+1) wr/\Kept R w w':=by
 have hi:(nx:U9)<(ws.length:U9):=UU
 have i:ws[nx].size<=160:=h.short _ (zg f);have p:=hide i;clear i;have u:=hide r;clear r
 go_in
 go_wp2_with fail
 refine (im R A ws nx wr w h).mono ?_;rintro e w1 ⟨rfl,n,j⟩;have g:RS w1 R A ws nx wr:=by rw[j];exact h.drewN n
 have t:Kept R w w1:=by rw[j];exact (Kept.refl R w).drewN n
 have q:Hid (Env w1):=by show Env w1;rw[j];exact (aJ u).drewN n
 have G:=g.c0;have F:=g.c1;have D:=g.f1;have E:=g.rows nx f;have z:=g.len;clear j;go_wp2
 go_quiet ((go_at_call 140;exact YM (Jk _ _ ((aJ q).drewN _) (aJ p))))
 go_wp2;go_ret;exact⟨rfl,(g.drewN _).step f,(t.drewN _).setCell _ _⟩
theorem Tr(R A:U8)(ws:U5 U4)(nx:U8)(wr:U7)(w:Vh)(h:RS w R A ws nx wr)(r:Env w)(x:cB ws.length nx wr=Vg)(i:nx<ws.length)(C:bB ws[nx]=Vf):
  Vk prog 135 #[.pointer (Ve ⟨R,0,Vd⟩),.func (.func 140) #[] #[]] w fun e w'=>e=.returned (.int .i64 (0))/\RS w' R A ws nx Vg/\Kept R w w':=by
 have hi:(nx:U9)<(ws.length:U9):=UU
 have g:ws[nx].size<=160:=h.short _ (zg i);have p:=hide g;clear g;have u:=hide r;clear r
 go_in
 go_wp2_with fail
 refine (im R A ws nx wr w h).mono ?_;rintro e w1 ⟨rfl,n,j⟩;have f:RS w1 R A ws nx wr:=by rw[j];exact h.drewN n
 have t:Kept R w w1:=by rw[j];exact (Kept.refl R w).drewN n
 have q:Hid (Env w1):=by show Env w1;rw[j];exact (aJ u).drewN n
 have H:=f.c0;have G:=f.c1;have F:=f.c2;have D:=f.f2;have E:=f.rows nx i;have z:=f.len;clear j;go_wp2
 go_quiet ((go_at_call 140;exact YM (Jk _ _ ((aJ q).drewN _) (aJ p))))
 go_wp2;go_ret;exact⟨rfl,(f.drewN _).bad,(t.drewN _).setCell _ _⟩
theorem Ui(L M:U8)(lo hi:U9)(R A:U8)(ws:U5 U4)(nx:U8)(wr:U7)(w:Vh)(h:RS w R A ws nx wr)(u:w.cell? ⟨L,0,Vd⟩=Ve (.int .i64 lo))(t:w.cell? ⟨M,0,Vd⟩=Ve (.int .i64 hi))(C:cB ws.length nx wr=Vg)(f:nx<ws.length)(E:eL ws[nx] lo hi=Vg):
  Vk prog 135 #[.pointer (Ve ⟨R,0,Vd⟩),.func (.func 191) #[] #[.pointer (Ve ⟨L,0,Vd⟩),.pointer (Ve ⟨M,0,Vd⟩)]] w fun e w'=>e=.returned (.int .i64 (aB.cF ws[nx].data.toList))/\RS w' R A ws (nx+1) wr/\Kept R w w':=by
 have z:(nx:U9)<(ws.length:U9):=UU
 have j:ws[nx].size<=160:=h.short _ (zg f);have r:=hide j;clear j
 go_in
 go_wp2_with fail
 refine (im R A ws nx wr w h).mono ?_;rintro e w1 ⟨rfl,n,i⟩;have g:RS w1 R A ws nx wr:=by rw[i];exact h.drewN n
 have x:Kept R w w1:=by rw[i];exact (Kept.refl R w).drewN n
 have q:Hid (w1.cell? ⟨L,0,Vd⟩=Ve (.int .i64 lo)):=by show w1.cell? _=_;rw[i];exact u
 have p:Hid (w1.cell? ⟨M,0,Vd⟩=Ve (.int .i64 hi)):=by show w1.cell? _=_;rw[i];exact t
 clear u t;have I:=g.c0;have H:=g.c1;have F:=g.f1;have G:=g.rows nx f;have D:=g.len;clear i;go_wp2
 go_quiet ((go_at_call 191;exact YM (IB _ L M lo hi _ (aJ r) (aJ q) (aJ p))))
 go_wp2;go_ret;exact⟨rfl,(g.drewN _).step f,(x.drewN _).setCell _ _⟩
theorem Uh(L M:U8)(lo hi:U9)(R A:U8)(ws:U5 U4)(nx:U8)(wr:U7)(w:Vh)(h:RS w R A ws nx wr)(u:w.cell? ⟨L,0,Vd⟩=Ve (.int .i64 lo))(t:w.cell? ⟨M,0,Vd⟩=Ve (.int .i64 hi))(C:cB ws.length nx wr=Vg)(j:nx<ws.length)(E:eL ws[nx] lo hi=Vf):
  Vk prog 135 #[.pointer (Ve ⟨R,0,Vd⟩),.func (.func 191) #[] #[.pointer (Ve ⟨L,0,Vd⟩),.pointer (Ve ⟨M,0,Vd⟩)]] w fun e w'=>e=.returned (.int .i64 (0))/\RS w' R A ws nx Vg/\Kept R w w':=by
 have z:(nx:U9)<(ws.length:U9):=UU
 have i:ws[nx].size<=160:=h.short _ (zg j);have r:=hide i;clear i
 go_in
 go_wp2_with fail
 refine (im R A ws nx wr w h).mono ?_;rintro e w1 ⟨rfl,n,g⟩;have f:RS w1 R A ws nx wr:=by rw[g];exact h.drewN n
 have x:Kept R w w1:=by rw[g];exact (Kept.refl R w).drewN n
 have q:Hid (w1.cell? ⟨L,0,Vd⟩=Ve (.int .i64 lo)):=by show w1.cell? _=_;rw[g];exact u
 have p:Hid (w1.cell? ⟨M,0,Vd⟩=Ve (.int .i64 hi)):=by show w1.cell? _=_;rw[g];exact t
 clear u t;have J:=f.c0;have I:=f.c1;have H:=f.c2;have F:=f.f2;have G:=f.rows nx j;have D:=f.len;clear g;go_wp2
 go_quiet ((go_at_call 191;exact YM (IB _ L M lo hi _ (aJ r) (aJ q) (aJ p))))
 go_wp2;go_ret;exact⟨rfl,(f.drewN _).bad,(x.drewN _).setCell _ _⟩
theorem Tq(f:Vi)(R A:U8)(ws:U5 U4)(nx:U8)(wr:U7)(w:Vh)(h:RS w R A ws nx wr)(p:cB ws.length nx wr=Vf):
  Vk prog 130 #[.pointer (Ve ⟨R,0,Vd⟩),f] w fun e w'=>e=.returned (.string ⟨#[]⟩)/\RS w' R A ws nx Vg/\Kept R w w':=by
 go_in
 go_wp2_with fail
 refine (im R A ws nx wr w h).mono ?_;rintro e w1 ⟨rfl,n,g⟩;have i:RS w1 R A ws nx wr:=by rw[g];exact h.drewN n
 have j:Kept R w w1:=by rw[g];exact (Kept.refl R w).drewN n
 have r:=i.c2;have q:=i.f2;clear g;go_wp2;go_ret;exact⟨rfl,i.bad,j.setCell _ _⟩
theorem Tn(R A:U8)(ws:U5 U4)(nx:U8)(wr:U7)(w:Vh)(h:RS w R A ws nx wr)(F:cB ws.length nx wr=Vg)(i:nx<ws.length)(H:aB.fa ws[nx].data.toList=Vg):
  Vk prog 130 #[.pointer (Ve ⟨R,0,Vd⟩),.func (.func 131) #[] #[]] w fun e w'=>e=.returned (.string (qI ws[nx]))/\RS w' R A ws (nx+1) wr/\Kept R w w':=by
 have hi:(nx:U9)<(ws.length:U9):=UU
 have z:(0:U9)<=(nx:U9):=Y6 _;have j:ws[nx].size<=160:=h.short _ (zg i);have t:=hide j;clear j
 go_in
 go_wp2_with fail
 refine (im R A ws nx wr w h).mono ?_;rintro e w1 ⟨rfl,n,r⟩;have q:RS w1 R A ws nx wr:=by rw[r];exact h.drewN n
 have x:Kept R w w1:=by rw[r];exact (Kept.refl R w).drewN n
 have E:=q.c0;have D:=q.c1;have C:=q.rows nx i;have G:=q.len;clear r
 go_wp2_with fail
 go_region_held3 (fun w'=>w'.cell? ⟨R,0,Vd⟩=Ve (.slice (Ve ⟨A,0,Vd⟩) ws.length ws.length)/\w'.cell? ⟨R,1,Vd⟩=Ve (.int .i64 nx)/\w'.cell? ⟨A,nx,Vd⟩=Ve (.string ws[nx]))
  (first
   |go_keep
   |(
    go_split_ands
    refine⟨?_,?_,?_⟩
    ·exact cell_later f UX
    ·exact cell_later f UX
    ·exact cell_later f UX))
  ((go_at_call 131;refine (Je _ _ (aJ t)).mono ?_;rintro e w4 ⟨rfl,f⟩))
 have g:Vj w1.heap.size w1 w4:=⟨f.os,f.tape,f.output,f.size,f.block⟩;have p:=q.aD g;have u:=x.trans (Kept.aD g);have L:=p.c1;have K:=p.c2;have J:=p.f1;have I:=p.f2;clear E D C;go_wp2;go_ret;exact⟨rfl,p.step i,u.setCell _ _⟩
theorem Tm(R A:U8)(ws:U5 U4)(nx:U8)(wr:U7)(w:Vh)(h:RS w R A ws nx wr)(F:cB ws.length nx wr=Vg)(j:nx<ws.length)(H:aB.fa ws[nx].data.toList=Vf):
  Vk prog 130 #[.pointer (Ve ⟨R,0,Vd⟩),.func (.func 131) #[] #[]] w fun e w'=>e=.returned (.string ⟨#[]⟩)/\RS w' R A ws nx Vg/\Kept R w w':=by
 have hi:(nx:U9)<(ws.length:U9):=UU
 have z:(0:U9)<=(nx:U9):=Y6 _;have i:ws[nx].size<=160:=h.short _ (zg j);have t:=hide i;clear i
 go_in
 go_wp2_with fail
 refine (im R A ws nx wr w h).mono ?_;rintro e w1 ⟨rfl,n,r⟩;have q:RS w1 R A ws nx wr:=by rw[r];exact h.drewN n
 have x:Kept R w w1:=by rw[r];exact (Kept.refl R w).drewN n
 have E:=q.c0;have D:=q.c1;have C:=q.rows nx j;have G:=q.len;clear r
 go_wp2_with fail
 go_region_held3 (fun w'=>w'.cell? ⟨R,0,Vd⟩=Ve (.slice (Ve ⟨A,0,Vd⟩) ws.length ws.length)/\w'.cell? ⟨R,1,Vd⟩=Ve (.int .i64 nx)/\w'.cell? ⟨A,nx,Vd⟩=Ve (.string ws[nx]))
  (first
   |go_keep
   |(
    go_split_ands
    refine⟨?_,?_,?_⟩
    ·exact cell_later f UX
    ·exact cell_later f UX
    ·exact cell_later f UX))
  ((go_at_call 131;refine (Je _ _ (aJ t)).mono ?_;rintro e w4 ⟨rfl,f⟩))
 have g:Vj w1.heap.size w1 w4:=⟨f.os,f.tape,f.output,f.size,f.block⟩;have p:=q.aD g;have u:=x.trans (Kept.aD g);have L:=p.c1;have K:=p.c2;have J:=p.f1;have I:=p.f2;clear E D C;go_wp2;go_ret;exact⟨rfl,p.bad,u.setCell _ _⟩
theorem sD{B:U4->U7}(h:cB ws.length nx wr=Vf):eA ws nx wr B=Vf:=by simp[eA,h]
theorem mJ{B:U4->U7}{b:U7}(h:cB ws.length nx wr=Vg)(f:nx<ws.length)(g:B ws[nx]=b):eA ws nx wr B=b:=by
 rw[eA,h,pJ ws nx f,g,YX]
theorem To(R A:U8)(ws:U5 U4)(nx:U8)(wr:U7)(w:Vh)(h:RS w R A ws nx wr):
  Vk prog 135 #[.pointer (Ve ⟨R,0,Vd⟩),.func (.func 139) #[] #[]] w fun e w'=>e=.returned (.int .i64 (fg ws nx wr (fun s=>aB.isNum s.data.toList) (fun s=>aB.cF s.data.toList)))/\RS w' R A ws (ek ws nx wr (fun s=>aB.isNum s.data.toList)) (ei ws nx wr (fun s=>aB.isNum s.data.toList))/\Kept R w w':=by
 cases g:cB ws.length nx wr
 ·have t:=sD (B:=(fun s=>aB.isNum s.data.toList)) g;rw[fg,ek,ei,t];exact vY _ R A ws nx wr w h g
 ·have f:=pP g
  cases i:(fun s=>aB.isNum s.data.toList) ws[nx]
  ·have t:=mJ (B:=(fun s=>aB.isNum s.data.toList)) g f i;rw[fg,ek,ei,t];exact Sy R A ws nx wr w h g f (small (h.short _ (zg f))) i
  ·have t:=mJ (B:=(fun s=>aB.isNum s.data.toList)) g f i;rw[fg,ek,ei,t,pJ ws nx f];exact Sz R A ws nx wr w h g f (small (h.short _ (zg f))) i
theorem Jn(R A:U8)(ws:U5 U4)(nx:U8)(wr:U7)(w:Vh)(h:RS w R A ws nx wr)(j:Env w):
  Vk prog 135 #[.pointer (Ve ⟨R,0,Vd⟩),.func (.func 136) #[] #[]] w fun e w'=>e=.returned (.int .i64 (fg ws nx wr aB.cM fT))/\RS w' R A ws (ek ws nx wr aB.cM) (ei ws nx wr aB.cM)/\Kept R w w':=by
 cases g:cB ws.length nx wr
 ·have t:=sD (B:=aB.cM) g;rw[fg,ek,ei,t];exact vY _ R A ws nx wr w h g
 ·have f:=pP g
  cases i:aB.cM ws[nx]
  ·have t:=mJ (B:=aB.cM) g f i;rw[fg,ek,ei,t];exact Tk R A ws nx wr w h j g f i
  ·have t:=mJ (B:=aB.cM) g f i;rw[fg,ek,ei,t,pJ ws nx f];exact Tl R A ws nx wr w h j g f i
theorem Us(R A:U8)(ws:U5 U4)(nx:U8)(wr:U7)(w:Vh)(h:RS w R A ws nx wr):
  Vk prog 135 #[.pointer (Ve ⟨R,0,Vd⟩),.func (.func 137) #[] #[]] w fun e w'=>e=.returned (.int .i64 (fg ws nx wr aB.dA aB.fo))/\RS w' R A ws (ek ws nx wr aB.dA) (ei ws nx wr aB.dA)/\Kept R w w':=by
 cases g:cB ws.length nx wr
 ·have t:=sD (B:=aB.dA) g;rw[fg,ek,ei,t];exact vY _ R A ws nx wr w h g
 ·have f:=pP g
  cases i:aB.dA ws[nx]
  ·have t:=mJ (B:=aB.dA) g f i;rw[fg,ek,ei,t];exact Ue R A ws nx wr w h g f i
  ·have t:=mJ (B:=aB.dA) g f i;rw[fg,ek,ei,t,pJ ws nx f];exact Uf R A ws nx wr w h g f i
theorem Jo(R A:U8)(ws:U5 U4)(nx:U8)(wr:U7)(w:Vh)(h:RS w R A ws nx wr)(j:Env w):
  Vk prog 135 #[.pointer (Ve ⟨R,0,Vd⟩),.func (.func 140) #[] #[]] w fun e w'=>e=.returned (.int .i64 (fg ws nx wr bB dL))/\RS w' R A ws (ek ws nx wr bB) (ei ws nx wr bB)/\Kept R w w':=by
 cases g:cB ws.length nx wr
 ·have t:=sD (B:=bB) g;rw[fg,ek,ei,t];exact vY _ R A ws nx wr w h g
 ·have f:=pP g
  cases i:bB ws[nx]
  ·have t:=mJ (B:=bB) g f i;rw[fg,ek,ei,t];exact Tr R A ws nx wr w h j g f i
  ·have t:=mJ (B:=bB) g f i;rw[fg,ek,ei,t,pJ ws nx f];exact Ts R A ws nx wr w h j g f i
theorem Ut(L M:U8)(lo hi:U9)(R A:U8)(ws:U5 U4)(nx:U8)(wr:U7)(w:Vh)(h:RS w R A ws nx wr)(p:w.cell? ⟨L,0,Vd⟩=Ve (.int .i64 lo))(j:w.cell? ⟨M,0,Vd⟩=Ve (.int .i64 hi)):
  Vk prog 135 #[.pointer (Ve ⟨R,0,Vd⟩),.func (.func 191) #[] #[.pointer (Ve ⟨L,0,Vd⟩),.pointer (Ve ⟨M,0,Vd⟩)]] w fun e w'=>e=.returned (.int .i64 (fg ws nx wr (fun s=>eL s lo hi) (fun s=>aB.cF s.data.toList)))/\RS w' R A ws (ek ws nx wr (fun s=>eL s lo hi)) (ei ws nx wr (fun s=>eL s lo hi))/\Kept R w w':=by
 cases g:cB ws.length nx wr
 ·have t:=sD (B:=(fun s=>eL s lo hi)) g;rw[fg,ek,ei,t];exact vY _ R A ws nx wr w h g
 ·have f:=pP g
  cases i:(fun s=>eL s lo hi) ws[nx]
  ·have t:=mJ (B:=(fun s=>eL s lo hi)) g f i;rw[fg,ek,ei,t];exact Uh L M lo hi R A ws nx wr w h p j g f i
  ·have t:=mJ (B:=(fun s=>eL s lo hi)) g f i;rw[fg,ek,ei,t,pJ ws nx f];exact Ui L M lo hi R A ws nx wr w h p j g f i
def mq(ws:U5 U4)(nx:U8)(wr:U7):U4:=if eA ws nx wr (fun s=>aB.fa s.data.toList) then qI (ws.getD nx YN) else ⟨#[]⟩
theorem Uc(R A:U8)(ws:U5 U4)(nx:U8)(wr:U7)(w:Vh)(h:RS w R A ws nx wr):
  Vk prog 130 #[.pointer (Ve ⟨R,0,Vd⟩),.func (.func 131) #[] #[]] w fun e w'=>e=.returned (.string (mq ws nx wr))/\RS w' R A ws (ek ws nx wr (fun s=>aB.fa s.data.toList)) (ei ws nx wr (fun s=>aB.fa s.data.toList))/\Kept R w w':=by
 cases g:cB ws.length nx wr
 ·have t:=sD (B:=fun s=>aB.fa s.data.toList) g;rw[mq,ek,ei,t];exact Tq _ R A ws nx wr w h g
 ·have f:=pP g
  cases i:aB.fa ws[nx].data.toList
  ·have t:=mJ (B:=fun s=>aB.fa s.data.toList) g f i;rw[mq,ek,ei,t];exact Tm R A ws nx wr w h g f i
  ·have t:=mJ (B:=fun s=>aB.fa s.data.toList) g f i;rw[mq,ek,ei,t,pJ ws nx f];exact Tn R A ws nx wr w h g f i
end Go.Proofs.YtfigmlfdnickmaaGreatDoor
