import Derived.Test.YtfigmlfdnickmaaGreatDoorL04
import Derived.Test.YtfigmlfdnickmaaGreatDoorProg
import Derived.Test.YtfigmlfdnickmaaGreatDoorShelf
import Derived.WalkKit
import Derived.WalkSpells
import Derived.WalkLawsBesides
import Derived.Deep.QuietTactic
import Derived.BigQuiet
import Derived.Lib.SmallJoins
import Derived.Deep.RegionHeld3
import Derived.Deep.AppendLies
set_option maxRecDepth 100000
set_option maxHeartbeats 8000000
open Go.Proofs.Tryz
open _root_ renaming ByteArray->U3,List->U4,Bool->U6,Nat->U7,Int->U8,if_neg->U9,if_pos->Va,absurd->Vb
open Option renaming none->Vc,some->Vd,mem_toList->WV,bind_some->YS
open Bool renaming false->Ve,true->Vf,and_false->YN,and_eq_true->W6,false_eq_true->Vw,true_and->YW,and_self->YX,eq_iff_iff->Xb,beq_comm->Y0
open Go renaming World->Vg,Value->Vh,Calls->Vj
open Go.RowKit renaming Below->Vi
open List renaming mem_singleton->YC,length_take->Yo,all_cons->YU,map_append->Wq,length_append->V4,append_nil->X4,drop_eq_getElem_cons->WN
open Go.World renaming cell?->VK,block_lt_of_cell?->Vq,cell?_setCell_same->VE,var?->YR
open Nat renaming le_refl->Vm,zero_le->Wg,le_trans->Vp
open Go.Ending renaming returned->Vn
open Int renaming add_zero->YJ,sub_zero->YK,natCast_nonneg->Y5
open Go.Exit renaming inBlock->WE
open ByteArray renaming size_extract->Xu,empty->YM
open Go.Calls renaming quiet_of->YL,quiet_of_same->YP
open Go.Lib renaming TabIs->YQ,decFrom->YT,atoi->YV,cut->Xc,countB->Y4
open Go.Value renaming string->YZ,ownBlock->WH
namespace Go.Proofs.YtfigmlfdnickmaaGreatDoor
variable{c wr:U6}{s:U3}{a m y:U8}{ws:U4 U3}{acc:U4 U8}{l:U4 UInt8}{xs:U4 Vh}{A B R b d e hi k lo n nx o:U7}{aM col1:U7->Option aW}{v:Vh}{X w w' w1 w4 wx:Vg}
open Go.RowKit
open aA (aL St dB kept dZ cS cN gC cA bW gI ec gv nj Inv)
theorem xq{S:aW->Prop}{W p Z:Vg}{x:U7->Option aW}{g size:U7}{u:Vh}(h:w1.ownsRow g e size v n xs)(t:∀ b,v.ownBlock=Vd b->col1 b=Vc)(r:Vi w1.heap.size w1 W)(q:Step S W.heap.size col1 x W w4)(C:aF u.ownBlock.toList w4 p)(z:aF [R] p Z)(F:w1.heap.size<=R)(D:∀ b,v.ownBlock=Vd b->u.ownBlock≠Vd b):
  Z.ownsRow g e size v n xs/\∀ b,v.ownBlock=Vd b->x b=Vc:=by
 have j:∀ b,v.ownBlock=Vd b->b<w1.heap.size:=fun b f=>(h.lt b f).2
 have E:=r.size;refine⟨dO (dO (q.own (eu h r) (fun b f=>⟨t b f,by have:=j b f;omega⟩)) C (fun b f i=>D b f (WV.1 i))) z (fun b f i=>?_),fun b f=>q.cU (t b f) (by have:=j b f;omega)⟩;have:=j b f;have:b=R:=YC.1 i;omega
theorem Si{s1:St}{r1:Raw}{p:aA.bO}{D at_ n:U8}{z u j t v2:Vh}{l:U4 (aL × Vh)}(hX:Vi w.heap.size w X)(P:w.heap.size<X.heap.size)(h7:Q7 X w.heap.size)(Z:aM w.heap.size=Vc)
  (k1:DK w1 d r1 col1) (k5:Step anyS X.heap.size aM col1 X w1) (hl:l.map (·.1)=p.entries) (M:gH w1 X.heap.size col1 z l) (e4:eD w1 X.heap.size col1 u p.days) (e5:eD w1 X.heap.size col1 j p.granted) (e6:eD w1 X.heap.size col1 t p.ended) (e7:∀ b,j.ownBlock=Vd b->z.ownBlock≠Vd b/\u.ownBlock≠Vd b/\t.ownBlock≠Vd b/\∀ q∈l,q.2.ownBlock≠Vd b) (e8:∀ b,u.ownBlock=Vd b->t.ownBlock≠Vd b) (e1:D=p.err/\at_=p.at_/\n=p.n)
  (g:Cy (w1.alloc (.cells #[.int .i64 D,.int .i64 at_,.int .i64 n,z,u,j,t] 40)).drew d s1 col1 v2 w4) (i:p.granted.length+(aA.ey s1.ts s1.es).2.length<=100000):
  ∃ a m cap w5,(∀ ty,(Builtin.append_ #[38,38] ty #[j,v2]).run prog w4=.ok (.slice a m cap) w5)/\w4.cell? ⟨w1.heap.size,5,Vc⟩=Vd j/\w5.heap[w1.heap.size]?=Vd (.cells #[.int .i64 D,.int .i64 at_,.int .i64 n,z,u,j,t] 40 (0,0))/\Q7 (w5.setCell ⟨w1.heap.size,5,Vc⟩ (.slice a m cap)) w.heap.size /\
   ∀ x1 x2 x3 x4 x5 x6 x7,dX w d aM ({ s1 with es:=(aA.ey s1.ts s1.es).1 },{ p with granted:=p.granted++(aA.ey s1.ts s1.es).2 }) (bC D at_ n z u (.slice a m cap) t) (cK (w5.setCell ⟨w1.heap.size,5,Vc⟩ (.slice a m cap)) w.heap.size x1 x2 x3 x4 x5 x6 x7):=by
 have N:Vi w1.heap.size w1 (w1.alloc (.cells #[.int .i64 D,.int .i64 at_,.int .i64 n,z,u,j,t] 40)).drew:=((zr _ _).alloc (zq _) _).drew;have ae:(w1.alloc (.cells #[.int .i64 D,.int .i64 at_,.int .i64 n,z,u,j,t] 40)).drew.heap[w1.heap.size]?=Vd (.cells #[.int .i64 D,.int .i64 at_,.int .i64 n,z,u,j,t] 40 (0,0)):=cC w1 _;have O:w1.heap.size<(w1.alloc (.cells #[.int .i64 D,.int .i64 at_,.int .i64 n,z,u,j,t] 40)).drew.heap.size:=by show _<(w1.alloc _).heap.size;simp
 generalize (w1.alloc (.cells #[.int .i64 D,.int .i64 at_,.int .i64 n,z,u,j,t] 40)).drew=W at *;obtain⟨r4,C,q1,q2,q3,q4,r,q6⟩:=g;have aa:=hX.size;have ak:=k5.size;have ab:col1 w1.heap.size=Vc:=k1.none (zq _);have g4:=(e5.later N).step r (zq _);obtain⟨v3,w5,a1,a2,a3,a4⟩:=g4.append (q6.base (B':=X.heap.size) UT) (by have:=r.size;omega) (fun b i=>q1.none i) i;obtain⟨F,E,rfl⟩:=a2.slice;have G:aF j.ownBlock.toList w4 w5:=aF.grown (aF.refl _ w4) a3 (fun k hk=>.inl (WV.2 hk));have Y:∀ b,j.ownBlock=Vd b->b<w1.heap.size:=fun b i=>(e5.own.lt b i).2
 have ac:w4.heap[w1.heap.size]?=Vd _:=(r.bV O ab O).trans ae;have af:w5.heap[w1.heap.size]?=Vd _:=(G.block _ (by have:=r.size;omega) (fun f=>by have:=Y _ (WV.1 f);omega)).trans ac;have H:=aF.aY w1.heap.size w5 5 (.slice F (p.granted++(aA.ey s1.ts s1.es).2).length E);have J:C w1.heap.size=Vc:=r.cU ab O;have L:col1 w.heap.size=Vc:=k5.cU Z P;have K:C w.heap.size=Vc:=r.cU L UT
 have U:∀ b,(Value.slice F (p.granted++(aA.ey s1.ts s1.es).2).length E).ownBlock=Vd b->j.ownBlock=Vd b\/b=w4.heap.size:=fun b i=>by
  rcases a4 with e|e
  ·exact .inl (by rw[<- e];exact i)
  ·rw[i] at e;exact .inr (Option.some.inj e)
 have aj:=r.size
 have ai:Q7 (w5.setCell ⟨w1.heap.size,5,Vc⟩ (.slice F (p.granted++(aA.ey s1.ts s1.es).2).length E)) w.heap.size:=by
  refine h7.later ?_;have b1:=k5.bV P Z P;have b2:=N.block w.heap.size UT;have b3:=r.bV (b:=w.heap.size) UT L UT;have b4:=G.block w.heap.size UT (fun f=>by have:=(e5.own.lt _ (WV.1 f)).1;omega);have b5:=H.block w.heap.size (by have:=G.size;omega) UZ;rw[b5,b4,b3,b2,b1]
 have Q:=xq M.own M.no N r G H (zq _) (fun b i f=>(e7 b f).1 i);have T:=xq e4.own e4.no N r G H (zq _) (fun b i f=>(e7 b f).2.1 i);have S:=xq e6.own e6.no N r G H (zq _) (fun b i f=>(e7 b f).2.2.1 i)
 have ad:∀ q∈l,qL (w5.setCell ⟨w1.heap.size,5,Vc⟩ (.slice F (p.granted++(aA.ey s1.ts s1.es).2).length E)) X.heap.size C q.2 q.1.aK:=fun q I=>by
  have x:=xq (M.sp q I).1.own (M.sp q I).1.no N r G H (zq _) (fun b i f=>(e7 b f).2.2.2 q I i);exact⟨x.1,x.2⟩
 refine⟨F,_,E,w5,a1,?_,af,ai,fun x1 x2 x3 x4 x5 x6 x7=>?_⟩
 ·simp only[VK,ac];rfl
 ·have kq:=lE (w5.setCell ⟨w1.heap.size,5,Vc⟩ (.slice F (p.granted++(aA.ey s1.ts s1.es).2).length E)) w.heap.size x1 x2 x3 x4 x5 x6 x7;have ag:∀ x∈[w.heap.size],x<X.heap.size:=fun x f=>by have:x=w.heap.size:=YC.1 f;omega
  have V:ku (w5.setCell ⟨w1.heap.size,5,Vc⟩ (.slice F (p.granted++(aA.ey s1.ts s1.es).2).length E)) X.heap.size C (bC D at_ n z u (.slice F (p.granted++(aA.ey s1.ts s1.es).2).length E) t) { p with granted:=p.granted++(aA.ey s1.ts s1.es).2 }:=by
   refine⟨z,u,_,t,l,by rw[e1.1,e1.2.1,e1.2.2],hl,⟨Q.1,Q.2,fun q I=>⟨ad q I,(M.sp q I).2⟩,M.pw⟩,⟨T.1,T.2⟩,⟨dO a2.own H (fun b i f=>?_),a2.no⟩,⟨S.1,S.2⟩,fun b i=>?_,e8⟩
   ·have e:b=w1.heap.size:=YC.1 f;rcases U b i with e2|e2
    ·have:=Y b e2;omega
    ·omega
   ·rcases U b i with e2|e2
    ·exact e7 b e2
    ·refine⟨fun e=>?_,fun e=>?_,fun e=>?_,fun q I e=>?_⟩
     ·have:=(M.own.lt b e).2;omega
     ·have:=(e4.own.lt b e).2;omega
     ·have:=(e6.own.lt b e).2;omega
     ·have:=((M.sp q I).1.own.lt b e).2;omega
  refine⟨r4,C,((q1.off G (fun x f=>g4.no x (WV.1 f))).off H (fun x f=>by have:x=w1.heap.size:=YC.1 f;subst this;exact J)).off kq (fun x f=>by have:x=w.heap.size:=YC.1 f;subst this;exact K),q2,q3,q4,?_,(V.off kq ag).base aa⟩;have t1:Step anyS w.heap.size aM col1 w w1:=(Step.below hX).trans (k5.any aa);have t2:Step anyS w.heap.size aM C w w4:=(t1.trans (Step.below N)).trans (r.any UT);have t3:Step anyS w.heap.size C C w4 w5:=⟨⟨_,G,fun x f=>.inr ⟨g4.no x (WV.1 f),by have:=(e5.own.lt x (WV.1 f)).1;omega⟩⟩,fun _ _ h=>h,fun _ _ h=>.inl h⟩;have t4:Step anyS w.heap.size C C w5 (w5.setCell ⟨w1.heap.size,5,Vc⟩ (.slice F (p.granted++(aA.ey s1.ts s1.es).2).length E)):=⟨⟨_,H,fun x f=>.inr (by have:x=w1.heap.size:=YC.1 f;subst this;exact⟨J,by omega⟩)⟩,fun _ _ h=>h,fun _ _ h=>.inl h⟩;have t5:Step anyS w.heap.size C C _ _:=⟨⟨_,kq,fun x f=>.inr (by have:x=w.heap.size:=YC.1 f;subst this;exact⟨K,Vm _⟩)⟩,fun _ _ h=>h,fun _ _ h=>.inl h⟩;exact ((t2.trans t3).trans t4).trans t5
theorem ku.later{p:aA.bO}(h:ku w B aM v p)(k:Vi w.heap.size w w'):ku w' B aM v p:=by
 obtain⟨g,C,f,i,l,z,x,u,t,r,q,j⟩:=h;exact⟨g,C,f,i,l,z,x,u.later k,t.later k,r.later k,q.later k,j⟩
theorem dX.later{w2:Vg}{q:St × aA.bO}(h:dX X d aM q v w1)(k:Vi w1.heap.size w1 w2):dX X d aM q v w2:=by
 obtain⟨g,f,u,t,r,p,j,i⟩:=h;exact⟨g,f,u.later k,t,r,p,j.trans (Step.below k),i.later k⟩
theorem Re{s:St}{l:aA.fI}(h:(aA.aU s l).2.err≠0):aA.ie s l=aA.aU s l:=by unfold aA.ie;rw[Va h]
theorem P3{s:St}{l:aA.fI}(h:(aA.aU s l).2.err=0):aA.ie s l=({ (aA.aU s l).1 with es:=(aA.ey (aA.aU s l).1.ts (aA.aU s l).1.es).1 },{ (aA.aU s l).2 with granted:=(aA.aU s l).2.granted++(aA.ey (aA.aU s l).1.ts (aA.aU s l).1.es).2 }):=by unfold aA.ie;rw[U9 UT]
theorem NT{a b c d e f g:Vh}(h:w.heap[R]?=Vd (.cells #[a,b,c,d,e,f,g] 40 (0,0))):w.cell? ⟨R,0,Vc⟩=Vd a/\w.cell? ⟨R,1,Vc⟩=Vd b/\w.cell? ⟨R,2,Vc⟩=Vd c/\w.cell? ⟨R,3,Vc⟩=Vd d/\w.cell? ⟨R,4,Vc⟩=Vd e/\w.cell? ⟨R,5,Vc⟩=Vd f/\w.cell? ⟨R,6,Vc⟩=Vd g/\∀ o,w.frozen? ⟨R,o,Vc⟩=Ve:=by
 refine⟨?_,?_,?_,?_,?_,?_,?_,fun o=>frozen_of_row _ R o _ _ h⟩
 all_goals (simp only[VK,h];rfl)
theorem Ox{s:St}{r:Raw}(h:dS w d s r aM)(f:Vh)(l:aA.fI)(aa:aA.ec (aA.aU s l).1)(x:(aA.aU s l).2.granted.length<=50000)
  (j:∀ X,Vi w.heap.size w X->dS X d s r aM->Vj prog 64 #[.pointer (Vd ⟨d,0,Vc⟩),f] X fun e w'=>∃ v,e=.returned v/\dX X d aM (aA.aU s l) v w'):
  Vj prog 46 #[.pointer (Vd ⟨d,0,Vc⟩),f] w fun e w'=>∃ v,e=.returned v/\dX w d aM (aA.ie s l) v w':=by
 have P:Vi w.heap.size w (w.alloc aX):=(zr _ _).alloc (zq _) _;have hq:=cC w aX;have hs:w.heap.size<(w.alloc aX).heap.size:=UU
 have AN:=aC (j (w.alloc aX) P ⟨h.dk.later P,h.of,h.wl,h.hl,h.inv⟩);have t:=aC (zA P (zA (Q7.of hq) (h.dk.none (zq _))));have W:=aC (zA aa x);have HE:=aC (Re (s:=s) (l:=l));have HO:=aC (P3 (s:=s) (l:=l));clear h j P hq x;generalize aA.ie s l=SD at *;generalize aA.aU s l=D at *
 go_in
 go_upto_region 1 with fail
 change Code.wp _ _ _ _ (w.alloc aX);generalize w.alloc aX=X at *
 go_wp2_with fail
 refine AN.out.mono ?_;rintro e w1 ⟨v,rfl,ap⟩;have AP:=aC ap;obtain⟨r1,col1,N,k2,k3,k4,M,en,da,gr,ed,u,rfl,q,V,U,T,S,Q⟩:=ap;obtain⟨K,G,rfl⟩:=ix V.own;obtain⟨J,F,rfl⟩:=U.slice;obtain⟨I,E,rfl⟩:=T.slice;obtain⟨H,C,rfl⟩:=S.slice;have ab:=M.size
 by_cases O:D.2.err=0
 ·have L:=aC (HO.out O);have GR:=aC (TC (w:=(w1.alloc (.cells #[.int .i64 D.2.err,.int .i64 D.2.at_,.int .i64 D.2.n,.slice K u.length G,.slice J D.2.days.length F,.slice I D.2.granted.length E,.slice H D.2.ended.length C] 40)).drew) (N.later ((zr _ _).alloc (zq _) _).drew) k2 k3 k4 W.out.1)
  have AG:=aC (fun v2 w4 g=>Si (w:=w) (w4:=w4) (v2:=v2) (s1:=D.1) t.out.1 hs t.out.2.1 t.out.2.2 N M q V U T S Q.1 Q.2 ⟨rfl,rfl,rfl⟩ g (by
   have h1:=Cz D.1.ts (D.1.es.filter aA.fc) (D.1.es,[]);have h2:=List.length_filter_le aA.fc D.1.es;have h3:=ma W.out.1;have e1:=aA.Ju D.1.ts D.1.es W.out.1.ids;have h4:=W.out.2;simp only[List.length_nil] at h1;rw[<- e1] at h1
   omega))
  have yR:(w1.alloc (.cells #[.int .i64 D.2.err,.int .i64 D.2.at_,.int .i64 D.2.n,.slice K u.length G,.slice J D.2.days.length F,.slice I D.2.granted.length E,.slice H D.2.ended.length C] 40)).cell? ⟨w1.heap.size,5,Vc⟩=Vd (.slice I D.2.granted.length E):=UU
  clear N k2 k3 k4 M q V U T S Q AP AN;simp only[bC];rw[O] at GR AG yR L ⊢
  go_upto_region 3 with fail
  go_region_law (first
   |(refine qY (by rfl) 65 _ _ (by rfl) _ (by simp[Act.eval,Act.put]) (SU _ _) GR.out ?_;rintro e w4 ⟨v2,rfl,p⟩;refine⟨_,rfl,?_⟩;obtain⟨a,m,cap,w5,i,g5,h5,Z,z⟩:=AG.out v2 w4 p;have HR:=aC i;have Y:=aC z;clear i z;obtain⟨y0,y1,y2,y3,y4,y5,y6,fR⟩:=NT h5;obtain⟨q0,q1,q2,q3,q4,q5,q6,fq⟩:=Z)
   |(refine UL (by rfl) _ _ _ _ (by rfl) (HR.out _) ?_))
  all_goals
   have HG:=aC (Y.out (.int .i64 0) (.int .i64 D.2.at_) (.int .i64 D.2.n) (.slice K u.length G) (.slice J D.2.days.length F) (.slice a m cap) (.slice H D.2.ended.length C));clear Y p GR AG HR yR g5 h5
   go_wp2_with fail
   exact cO results46 ⟨q0,q1,q2,q3,q4,q5,q6,fq⟩ ⟨_,rfl,by rw[L.out];exact HG.out⟩
 ·have ac:(D.2.err==0)=Ve:=by simpa using O
  have HD:=aC (HE.out O);have kW:Vi w1.heap.size w1 (w1.alloc (.cells #[.int .i64 D.2.err,.int .i64 D.2.at_,.int .i64 D.2.n,.slice K u.length G,.slice J D.2.days.length F,.slice I D.2.granted.length E,.slice H D.2.ended.length C] 40)):=(zr _ _).alloc (zq _) _;obtain⟨_,_,_,_,_,_,_,_,_,_,_,_,_,_,_,_,Z,z⟩:=(AP.out.later kW).up t.out.1 (zq _) hs t.out.2.2 t.out.2.1;have Y:=aC (z (.int .i64 D.2.err) (.int .i64 D.2.at_) (.int .i64 D.2.n) (.slice K u.length G) (.slice J D.2.days.length F) (.slice I D.2.granted.length E) (.slice H D.2.ended.length C));obtain⟨q0,q1,q2,q3,q4,q5,q6,fq⟩:=Z;clear N k2 k3 k4 M q V U T S Q AP AN z kW;simp only[bC];generalize D.2.err=er at *
  go_wp2_with fail
  exact cO results46 ⟨q0,q1,q2,q3,q4,q5,q6,fq⟩ ⟨_,rfl,by rw[HD.out];exact Y.out⟩
theorem eB{a b:U6}(h:a=b):Vn (.bool a)=.returned (.bool b):=by rw[h]
theorem fK{k:IntKind}{b:U8}(h:a=b):Vn (.int k a)=.returned (.int k b):=by rw[h]
def gy(w:Vg):Prop:=w.cell? ⟨1,0,Vc⟩=Vd (.int .i64 31)/\w.cell? ⟨1,1,Vc⟩=Vd (.int .i64 28)/\w.cell? ⟨1,2,Vc⟩=Vd (.int .i64 31)/\w.cell? ⟨1,3,Vc⟩=Vd (.int .i64 30)/\w.cell? ⟨1,4,Vc⟩=Vd (.int .i64 31)/\w.cell? ⟨1,5,Vc⟩=Vd (.int .i64 30)/\w.cell? ⟨1,6,Vc⟩=Vd (.int .i64 31)/\w.cell? ⟨1,7,Vc⟩=Vd (.int .i64 31)/\w.cell? ⟨1,8,Vc⟩=Vd (.int .i64 30)/\w.cell? ⟨1,9,Vc⟩=Vd (.int .i64 31)/\w.cell? ⟨1,10,Vc⟩=Vd (.int .i64 30)/\w.cell? ⟨1,11,Vc⟩=Vd (.int .i64 31)
theorem RF(y:U8)(w:Vg)(j:0<=y)(i:y<=10000):
  Vj prog 228 #[.int .i64 y] w fun e w'=>e=.returned (.bool (Cal.lR y))/\w'=w:=by
 cases h:(y % 4==0)
 ·go_in
  go_wp2;go_ret;exact⟨eB (by simp[Cal.lR,h]),rfl⟩
 ·cases f:(y % 100 != 0)
  ·cases g:(y % 400==0)
   all_goals
    go_in
    go_wp2;go_ret;exact⟨eB (by simp only[Cal.lR,h,f,g];rfl),rfl⟩
  ·go_in
   go_wp2;go_ret;exact⟨eB (by simp only[Cal.lR,h,f];rfl),rfl⟩
theorem yy(y:U8)(w:Vg)(g:1<=y)(f:y<=10000):
  Vj prog 168 #[.int .i64 y] w fun e w'=>e=.returned (.int .i64 (Cal.ah y))/\w'=w:=by
 go_in
 go_wp2;go_ret;exact⟨fK (by unfold Cal.ah;omega),rfl⟩
theorem yj(y m:U8)(w:Vg)(ht:gy w)(r:0<=y)(q:y<=10000)(i:1<=m)(g:m<=12):
  Vj prog 169 #[.int .i64 y,.int .i64 m] w fun e w'=>e=.returned (.int .i64 (Cal.fO y m))/\w'=w:=by
 obtain⟨H,G,F,E,D,C,z,x,u,t,p,j⟩:=ht;rcases Cal.AO m i g with h|h|h|h|h|h|h|h|h|h|h|h
 ·subst h
  go_in
  go_wp2;go_ret;exact⟨fK (by simp[Cal.fO,Cal.iK]),rfl⟩
 ·subst h
  cases f:Cal.lR y
  all_goals
   go_in
   go_wp2_with (go_at_call 228;refine (RF _ _ UT UT).mono ?_;rintro e w' ⟨rfl,rfl⟩)
   go_ret;exact⟨fK (by simp[Cal.fO,Cal.lp,f]),rfl⟩
 all_goals
  subst h
  go_in
  go_wp2;go_ret;exact⟨fK (by simp[Cal.fO,Cal.iK]),rfl⟩
theorem SM(g:U8)(w:Vg)(r:0<=g)(x:g<3652059):
  Vj prog 171 #[.int .i64 g] w fun e w'=>∃ y:U8,e=.returned (.int .i64 y)/\1<=y/\y<=9999/\Cal.ah y<=g/\g<Cal.ah (y+1)/\w'=w:=by
 have q:=Cal.Gl g r
 go_in
 go_wp2
 go_loop [3] (fun t=>∃ y:U8,1<=y/\y<=9999/\Cal.ah y<=g/\t=.int .i64 y) (fun t=>(9999-intOf t).toNat)
 case atStart=>exact⟨_,by omega,by omega,q,rfl⟩
 case round =>
  obtain⟨y,i,h,f,rfl⟩:=hrel;clear q
  by_cases p:Cal.ah (y+1)<=g
  ·have u:y<9999:=by
    by_cases e:y=9999
    ·subst e;have:=Cal.xv;rw[show (9999:U8)+1=10000 from rfl] at p;omega
    ·omega
   go_wp2_with (go_at_call 168;refine (yy _ _ UT UT).mono ?_;rintro e w' ⟨rfl,rfl⟩)
   go_round
   case rel=>exact⟨y+1,by omega,by omega,p,rfl⟩
   case measure=>simp[intOf];omega
  ·have j:g<Cal.ah (y+1):=UT
   go_wp2_with (go_at_call 168;refine (yy _ _ UT UT).mono ?_;rintro e w' ⟨rfl,rfl⟩)
   go_ret;exact⟨y,rfl,i,h,f,j,rfl⟩
theorem lz{d:U8}(h:¬ (1<=y/\y<=9999/\1<=m/\m<=12/\1<=d/\d<=Cal.fO y m)):Cal.ok y m d=Ve:=by
 unfold Cal.ok;exact decide_eq_false h
theorem ve{d:U8}(h:1<=y/\y<=9999/\1<=m/\m<=12/\1<=d/\d<=Cal.fO y m):Cal.ok y m d=Vf:=by
 unfold Cal.ok;exact decide_eq_true h
theorem ID(y m d:U8)(w:Vg)(ht:gy w):
  Vj prog 167 #[.int .i64 y,.int .i64 m,.int .i64 d] w fun e w'=>e=.returned (.bool (Cal.ok y m d))/\w'=w:=by
 by_cases a:1<=y
 ·by_cases b:y<=9999
  ·by_cases c:1<=m
   ·by_cases f:m<=12
    ·by_cases g:1<=d
     ·by_cases k:d<=Cal.fO y m
      all_goals
       go_in
       go_wp2_with (go_at_call 169;refine (yj _ _ _ ht UT UT UT UT).mono ?_;rintro e w' ⟨rfl,rfl⟩)
       go_ret
      ·exact⟨eB (by rw[ve ⟨a,b,c,f,g,k⟩]),rfl⟩
      ·exact⟨eB (by rw[lz UT];exact decide_eq_false UT),rfl⟩
     ·go_in
      go_wp2;go_ret;exact⟨eB (by rw[lz UT]),rfl⟩
    ·go_in
     go_wp2;go_ret;exact⟨eB (by rw[lz UT]),rfl⟩
   ·go_in
    go_wp2;go_ret;exact⟨eB (by rw[lz UT]),rfl⟩
  ·go_in
   go_wp2;go_ret;exact⟨eB (by rw[lz UT]),rfl⟩
 ·go_in
  go_wp2;go_ret;exact⟨eB (by rw[lz UT]),rfl⟩
theorem B5(y m d:U8)(w:Vg)(ht:gy w)(h:Cal.ok y m d=Ve):
  Vj prog 112 #[.int .i64 y,.int .i64 m,.int .i64 d] w fun e w'=>e=.returned (.tuple #[.int .i64 0,.int .i64 6])/\w'=w:=by
 go_in
 go_wp2_with (go_at_call 167;refine (ID _ _ _ _ ht).mono ?_;rintro e w' ⟨rfl,rfl⟩)
 go_ret2;exact⟨rfl,rfl⟩
theorem FH{k l:IntKind}{b c:U8}(h:a=b):Vn (.tuple #[.int k a,.int l c])=.returned (.tuple #[.int k b,.int l c]):=by rw[h]
theorem Cj(y m d:U8)(w:Vg)(ht:gy w)(h:Cal.ok y m d=Vf):
  Vj prog 112 #[.int .i64 y,.int .i64 m,.int .i64 d] w fun e w'=>e=.returned (.tuple #[.int .i64 (Cal.num y m d),.int .i64 0])/\w'=w:=by
 obtain⟨p,E,D,C,z,x⟩:=(Cal.gN y m d).1 h;have u:=Cal.qx y p UT;have i:=Cal.nT y m;have r:=Cal.qA y
 go_in
 go_wp2_with (first|(go_at_call 167;refine (ID _ _ _ _ ht).mono ?_;rintro e w' ⟨rfl,rfl⟩)|(go_at_call 168;refine (yy _ _ UT UT).mono ?_;rintro e w' ⟨rfl,rfl⟩))
 go_loop [8,9] (fun n k=>∃ j:U8,1<=j/\j<=m/\k=.int .i64 j/\n=.int .i64 (-738885+Cal.ah y+d-1+Cal.cI y j)) (fun _ k=>(m-intOf k).toNat)
 case atStart=>exact⟨1,by omega,by omega,rfl,by rw[Cal.oC,YJ]⟩
 case round =>
  obtain⟨j,f,g,rfl,rfl⟩:=hrel;have cb:=Cal.qB y j f UT;have F:=Cal.nT y j;have cs:=Cal.pK y j f UT;have q:Hid (Cal.cI y (j+1)=Cal.cI y j+Cal.fO y j):=cs;clear cs
  by_cases t:j<m
  ·go_wp2_with (go_at_call 169;refine (yj _ _ _ ht UT UT UT UT).mono ?_;rintro e w' ⟨rfl,rfl⟩)
   go_round
   case rel=>exact⟨j+1,by omega,by omega,rfl,by rw[q.out];go_num⟩
   case measure=>simp[intOf];omega
  ·obtain rfl:j=m:=UT
   go_wp2;go_ret2;exact⟨FH (by unfold Cal.num Cal.first;omega),rfl⟩
theorem pC{g:Func}{t u v x:Tmp}(h:g.results=#[.tmp t,.tmp u,.tmp v,.tmp x])(f:Array Vh)(P:Program)(w:Vg):
  (results g f).run P w=.ok (.tuple #[f.getD t undef,f.getD u undef,f.getD v undef,f.getD x undef]) w:=by
 simp[results,h]
theorem Oe(n y k:U8):Cal.num y k (n+738885-Cal.ah y-Cal.cI y k+1)=n:=by unfold Cal.num Cal.first;omega
theorem S3(n:U8)(w:Vg)(ht:gy w)(H:-738885<=n)(G:n<=2913173):
  Vj prog 116 #[.int .i64 n] w fun e w'=>∃ y m d:U8,e=.returned (.tuple #[.int .i64 y,.int .i64 m,.int .i64 d,.int .i64 0])/\Cal.ok y m d=Vf/\Cal.num y m d=n/\w'=w:=by
 go_in
 go_wp2_with (first|(go_at_call 171;refine (SM _ _ UT UT).mono ?_;rintro e w' ⟨y,rfl,f,x,u,t,rfl⟩;have F:=Cal.qx y f UT)|(go_at_call 168;refine (yy _ _ UT UT).mono ?_;rintro e w' ⟨rfl,rfl⟩))
 have j:=Cal.sn y f;have D:=Cal.qA y
 go_loop [8,9] (fun r k=>∃ m:U8,1<=m/\m<=12/\k=.int .i64 m/\0<=n+738885-Cal.ah y-Cal.cI y m/\r=.int .i64 (n+738885-Cal.ah y-Cal.cI y m)) (fun _ k=>(12-intOf k).toNat)
 case atStart=>exact⟨1,by omega,by omega,rfl,by rw[Cal.oC];omega,by rw[Cal.oC,YK]⟩
 case round =>
  obtain⟨m,g,i,rfl,z,rfl⟩:=hrel;have cb:=Cal.qB y m g UT;have I:=Cal.nT y m;have cs:=Cal.pK y m g i;have p:=Cal.vj y
  by_cases E:Cal.fO y m<=n+738885-Cal.ah y-Cal.cI y m
  ·have C:m<12:=by
    by_cases e:m=12
    ·subst e;rw[show (12:U8)+1=13 from rfl] at cs;omega
    ·omega
   have q:Hid (Cal.cI y (m+1)=Cal.cI y m+Cal.fO y m):=cs;clear cs p j
   go_wp2_with (go_at_call 169;refine (yj _ _ _ ht UT UT UT UT).mono ?_;rintro e w' ⟨rfl,rfl⟩)
   go_round
   case rel=>exact⟨m+1,by omega,by omega,rfl,by rw[q.out];omega,by rw[q.out];go_num⟩
   case measure=>simp[intOf];omega
  ·have h:Cal.ok y m (n+738885-Cal.ah y-Cal.cI y m+1)=Vf:=ve UT;clear cs p j
   go_wp2_with (go_at_call 169;refine (yj _ _ _ ht UT UT UT UT).mono ?_;rintro e w' ⟨rfl,rfl⟩)
   (try simp only[WE,Exit.then]);refine bodyPost_ret (pC rfl _ _ _) rfl ?_
   exact⟨y,m,_,rfl,h,Oe n y m,rfl⟩
theorem EY(y:U8)(w:Vg)(j:0<=y)(i:y<=10000):
  Vj prog 170 #[.int .i64 y] w fun e w'=>e=.returned (.bool (Cal.lR y))/\w'=w:=by
 cases f:(y % 100==0)
 ·go_in
  go_wp2;go_ret;exact⟨eB (by simp only[Cal.lR,bne,f];simp),rfl⟩
 ·have g:(y % 4==0)=Vf:=by simp only[beq_iff_eq] at f ⊢;omega
  have h:Hid ((y % 4==0)=Vf):=g;clear g
  go_in
  go_wp2;go_ret;exact⟨eB (by simp only[Cal.lR,bne,f,h.out];simp),rfl⟩
theorem qw(y:U8)(w:Vg)(h:0<=y)(g:y<=10000):
  Vj prog 115 #[.int .i64 y] w fun e w'=>e=.returned (.int .i64 (365+Cal.lp y))/\w'=w:=by
 cases f:Cal.lR y
 all_goals
  go_in
  go_wp2_with (go_at_call 170;refine (EY _ _ UT UT).mono ?_;rintro e w' ⟨rfl,rfl⟩)
  go_ret;exact⟨fK (by simp[Cal.lp,f]),rfl⟩
theorem tz(y m:U8)(w:Vg)(p:0<=y)(j:y<=10000)(i:1<=m)(g:m<=12):
  Vj prog 114 #[.int .i64 y,.int .i64 m] w fun e w'=>e=.returned (.int .i64 (Cal.fO y m))/\w'=w:=by
 rcases Cal.AO m i g with h|h|h|h|h|h|h|h|h|h|h|h
 ·subst h
  go_in
  go_wp2;go_ret;exact⟨fK (by simp[Cal.fO,Cal.iK]),rfl⟩
 ·subst h
  cases f:Cal.lR y
  all_goals
   go_in
   go_wp2_with (go_at_call 170;refine (EY _ _ UT UT).mono ?_;rintro e w' ⟨rfl,rfl⟩)
   go_ret;exact⟨fK (by simp[Cal.fO,Cal.lp,f]),rfl⟩
 all_goals
  subst h
  go_in
  go_wp2;go_ret;exact⟨fK (by simp[Cal.fO,Cal.iK]),rfl⟩
theorem EL(y m d:U8)(w:Vg):
  Vj prog 113 #[.int .i64 y,.int .i64 m,.int .i64 d] w fun e w'=>e=.returned (.bool (Cal.ok y m d))/\w'=w:=by
 by_cases a:1<=y
 ·by_cases b:y<=9999
  ·by_cases c:1<=m
   ·by_cases f:m<=12
    ·by_cases g:1<=d
     ·by_cases k:d<=Cal.fO y m
      all_goals
       go_in
       go_wp2_with (go_at_call 114;refine (tz _ _ _ UT UT UT UT).mono ?_;rintro e w' ⟨rfl,rfl⟩)
       go_ret
      ·exact⟨eB (by rw[ve ⟨a,b,c,f,g,k⟩]),rfl⟩
      ·exact⟨eB (by rw[lz UT];exact decide_eq_false UT),rfl⟩
     ·go_in
      go_wp2;go_ret;exact⟨eB (by rw[lz UT]),rfl⟩
    ·go_in
     go_wp2;go_ret;exact⟨eB (by rw[lz UT]),rfl⟩
   ·go_in
    go_wp2;go_ret;exact⟨eB (by rw[lz UT]),rfl⟩
  ·go_in
   go_wp2;go_ret;exact⟨eB (by rw[lz UT]),rfl⟩
 ·go_in
  go_wp2;go_ret;exact⟨eB (by rw[lz UT]),rfl⟩
theorem My(y m d:U8)(w:Vg)(h:Cal.ok y m d=Ve):
  Vj prog 71 #[.int .i64 y,.int .i64 m,.int .i64 d] w fun e w'=>e=.returned (.tuple #[.int .i64 0,.int .i64 6])/\w'=w:=by
 go_in
 go_wp2_with (go_at_call 113;refine (EL _ _ _ _).mono ?_;rintro e w' ⟨rfl,rfl⟩)
 go_ret2;exact⟨rfl,rfl⟩
theorem uS:Cal.ah 2024=738885:=UV
theorem MQ(y m d:U8)(w:Vg)(h:Cal.ok y m d=Vf):
  Vj prog 71 #[.int .i64 y,.int .i64 m,.int .i64 d] w fun e w'=>e=.returned (.tuple #[.int .i64 (Cal.num y m d),.int .i64 0])/\w'=w:=by
 obtain⟨z,h2,I,h4,h5,h6⟩:=(Cal.gN y m d).1 h;have Z:=Cal.qx y z UT;have H:=Cal.nT y m;have V:=Cal.qA y;have K:=Cal.qB y m I UT
 go_in
 go_wp2_with (go_at_call 113;refine (EL _ _ _ _).mono ?_;rintro e w' ⟨rfl,rfl⟩)
 go_loop [9,10,11] (fun n k _=>∃ j:U8,1<=j/\j<=m/\k=.int .i64 j/\n=.int .i64 (d-1+Cal.cI y j)) (fun _ k _=>(m-intOf k).toNat)
 case atStart=>exact⟨1,by omega,by omega,rfl,by rw[Cal.oC,YJ]⟩
 case round =>
  obtain⟨j,p,F,rfl,rfl⟩:=hrel;have cb:=Cal.qB y j p UT;have db:=Cal.nT y j;have cs:=Cal.pK y j p UT;have O:Hid (Cal.cI y (j+1)=Cal.cI y j+Cal.fO y j):=cs;clear cs
  by_cases Y:j<m
  ·go_wp2_with (go_at_call 114;refine (tz _ _ _ UT UT UT UT).mono ?_;rintro e w' ⟨rfl,rfl⟩)
   go_round
   case rel=>exact⟨j+1,by omega,by omega,rfl,by rw[O.out];go_num⟩
   case measure=>simp[intOf];omega
  ·obtain rfl:j=m:=UT
   go_wp2
   go_loop [9,12,13] (fun n k _=>∃ f:U8,2024<=f/\(f<=y\/f=2024)/\k=.int .i64 f/\n=.int .i64 (d-1+Cal.cI y j+(Cal.ah f - 738885))) (fun _ k _=>(y-intOf k).toNat)
   case atStart=>exact⟨2024,by omega,by omega,rfl,by rw[uS];go_num⟩
   case round =>
    obtain⟨k,E,D,rfl,rfl⟩:=hrel;have S:=Cal.qx k UT UT;have Q:=Cal.qA k;have u:=Cal.sn k UT;have M:Hid (Cal.ah (k+1)=Cal.ah k+365+Cal.lp k):=u;clear u
    by_cases W:k<y
    ·go_wp2_with (go_at_call 115;refine (qw _ _ UT UT).mono ?_;rintro e w' ⟨rfl,rfl⟩)
     go_round
     case rel=>exact⟨k+1,by omega,by omega,rfl,by rw[M.out];go_num⟩
     case measure=>simp[intOf];omega
    ·have P:Cal.ah y<=Cal.ah k:=Cal.sw y k z UT;have g:(y=k)\/(y<2024/\k=2024):=UT
     have t:Hid ((y=k)\/(y<2024/\k=2024)):=g;clear g;go_wp2
     go_loop [9,14,15] (fun n q _=>∃ i:U8,y<=i/\(i<=2024\/i=y)/\q=.int .i64 i/\n=.int .i64 (d-1+Cal.cI y j+(Cal.ah k-738885)-(Cal.ah i-Cal.ah y))) (fun _ q _=>(2024-intOf q).toNat)
     case atStart=>exact⟨y,by omega,by omega,rfl,by go_num⟩
     case round =>
      obtain⟨i,r,G,rfl,rfl⟩:=hrel;have U:=Cal.qx i UT UT;have T:=Cal.qA i;have x:=Cal.sn i UT;have N:Hid (Cal.ah (i+1)=Cal.ah i+365+Cal.lp i):=x;clear x
      by_cases hi:i<2024
      ·go_wp2_with (go_at_call 115;refine (qw _ _ UT UT).mono ?_;rintro e w' ⟨rfl,rfl⟩)
       go_round
       case rel=>exact⟨i+1,by omega,by omega,rfl,by rw[N.out];go_num⟩
       case measure=>simp[intOf];omega
      ·go_wp2;go_ret2;refine⟨FH ?_,rfl⟩;have L:=uS;rcases t.out with e|⟨e1,J⟩
       ·subst e
        by_cases C:i=y
        ·subst C;unfold Cal.num Cal.first;omega
        ·obtain rfl:i=2024:=UT
         exact Vb r UT
       ·subst J;obtain rfl:i=2024:=UT
        unfold Cal.num Cal.first;omega
theorem early(n z:U8)(h:0<=n+(738885-Cal.ah z)\/z=1)(g:n+(738885-Cal.ah z)<0):n < -738885\/2913173<n:=by
 rcases h with h|h
 ·omega
 ·subst h;have:=Cal.KU;omega
theorem late(n z:U8)(h:z=9999)(e:Cal.ah (z+1)=Cal.ah z+365+Cal.lp z)(g:365+Cal.lp z<=n+(738885-Cal.ah z)):n < -738885\/2913173<n:=by
 subst h;have:=Cal.xv;rw[show (9999:U8)+1=10000 from rfl] at e;omega
theorem zU(n y k:U8):Cal.num y k (n+(738885-Cal.ah y)-Cal.cI y k+1)=n:=by unfold Cal.num Cal.first;omega
theorem inside(n z m:U8)(h:Cal.ok z m (n+(738885-Cal.ah z)-Cal.cI z m+1)=Vf):¬ (n < -738885\/2913173<n):=by
 have b:=Cal.AR _ _ _ h;rw[zU] at b;unfold Cal.first Cal.last at b;omega
theorem Nb(n:U8)(w:Vg)(h1:-9223372036854775808<=n)(h2:n<=9223372036854775807):
  Vj prog 73 #[.int .i64 n] w fun e w'=>((n < -738885\/2913173<n)/\e=.returned (.tuple #[.int .i64 0,.int .i64 0,.int .i64 0,.int .i64 6])\/(¬ (n < -738885\/2913173<n))/\∃ y m d:U8,e=.returned (.tuple #[.int .i64 y,.int .i64 m,.int .i64 d,.int .i64 0])/\Cal.ok y m d=Vf/\Cal.num y m d=n)/\w'=w:=by
 go_in
 go_wp2
 go_loop [0,6,7] (fun t k _=>∃ y:U8,1<=y/\y<=2024/\k=.int .i64 y/\t=.int .i64 (n+(738885-Cal.ah y))/\n+(738885-Cal.ah y)<=9223372036854775807) (fun _ k _=>(intOf k).toNat)
 case atStart=>exact⟨2024,by omega,by omega,rfl,by rw[uS];go_num,by rw[uS];omega⟩
 case round =>
  obtain⟨y,C,J,rfl,rfl,I⟩:=hrel;have O:=Cal.qx y C UT;have L:=Cal.sw y 2024 C J;rw[uS] at L
  by_cases K:n+(738885-Cal.ah y)<0/\1<y
  ·obtain⟨K,T⟩:=K;have ys:=Cal.sn (y-1) UT;rw[show y-1+1=y from by omega] at ys;have yl:=Cal.qA (y-1);have N:Hid (Cal.ah y=Cal.ah (y-1)+365+Cal.lp (y-1)):=ys;clear ys
   go_wp2_with (go_at_call 115;refine (qw _ _ UT UT).mono ?_;rintro e w' ⟨rfl,rfl⟩)
   go_round
   case rel=>exact⟨y-1,by omega,by omega,rfl,by have:=N.out;go_num,by have:=N.out;omega⟩
   case measure=>simp[intOf];omega
  ·have M:0<=n+(738885-Cal.ah y)\/y=1:=UT
   have Z:Hid (0<=n+(738885-Cal.ah y)\/y=1):=M;clear M;have j:(n+(738885-Cal.ah y)<0/\¬ 1<y)\/¬ n+(738885-Cal.ah y)<0:=UT
   clear K;rcases j with ⟨j,T⟩|j
   all_goals
    go_wp2
    go_loop [0,6,8] (fun t k _=>∃ z:U8,1<=z/\z<=9999/\k=.int .i64 z/\t=.int .i64 (n+(738885-Cal.ah z))/\n+(738885-Cal.ah z)<=9223372036854775807/\(0<=n+(738885-Cal.ah z)\/z=1)) (fun _ k _=>(9999-intOf k).toNat)
    case atStart=>exact⟨y,by omega,by omega,rfl,rfl,I,Z.out⟩
    case round =>
     obtain⟨z,x,S,rfl,rfl,P,u⟩:=hrel;have F:Hid (0<=n+(738885-Cal.ah z)\/z=1):=u;clear u O L j;have zb:=Cal.qx z x UT;have zl:=Cal.qA z;have zs:=Cal.sn z x;have H:Hid (Cal.ah (z+1)=Cal.ah z+365+Cal.lp z):=zs;clear zs
     by_cases Q:z<9999
     ·by_cases D:365+Cal.lp z<=n+(738885-Cal.ah z)
      ·go_wp2_with (go_at_call 115;refine (qw _ _ UT UT).mono ?_;rintro e w' ⟨rfl,rfl⟩)
       go_round
       case rel=>exact⟨z+1,by omega,by omega,rfl,by have:=H.out;go_num,by have:=H.out;omega,by have:=H.out;omega⟩
       case measure=>simp[intOf];omega
      ·by_cases g:n+(738885-Cal.ah z)<0
       ·go_wp2_with (go_at_call 115;refine (qw _ _ UT UT).mono ?_;rintro e w' ⟨rfl,rfl⟩)
        (try simp only[WE,Exit.then]);refine bodyPost_ret (pC rfl _ _ _) rfl ?_
        exact⟨Or.inl ⟨early n z F.out g,rfl⟩,rfl⟩
       ·go_wp2_with (go_at_call 115;refine (qw _ _ UT UT).mono ?_;rintro e w' ⟨rfl,rfl⟩)
        go_loop [0,9,10] (fun r k _=>∃ m:U8,1<=m/\m<=12/\k=.int .i64 m/\0<=n+(738885-Cal.ah z)-Cal.cI z m/\r=.int .i64 (n+(738885-Cal.ah z)-Cal.cI z m)) (fun _ k _=>(12-intOf k).toNat)
        case atStart=>exact⟨1,by omega,by omega,rfl,by rw[Cal.oC];omega,by rw[Cal.oC,YK]⟩
        case round =>
         obtain⟨m,h,p,rfl,U,rfl⟩:=hrel;have cb:=Cal.qB z m h UT;have Y:=Cal.nT z m;have cs:=Cal.pK z m h p;have E:=Cal.vj z
         by_cases W:Cal.fO z m<=n+(738885-Cal.ah z)-Cal.cI z m
         ·have V:m<12:=by
           by_cases e:m=12
           ·subst e;rw[show (12:U8)+1=13 from rfl] at cs;omega
           ·omega
          have G:Hid (Cal.cI z (m+1)=Cal.cI z m+Cal.fO z m):=cs;clear cs E
          go_wp2_with (go_at_call 114;refine (tz _ _ _ UT UT UT UT).mono ?_;rintro e w' ⟨rfl,rfl⟩)
          go_round
          case rel=>exact⟨m+1,by omega,by omega,rfl,by rw[G.out];omega,by rw[G.out];go_num⟩
          case measure=>simp[intOf];omega
         ·have f:Cal.ok z m (n+(738885-Cal.ah z)-Cal.cI z m+1)=Vf:=ve UT;have i:¬ (n < -738885\/2913173<n):=inside n z m f;have q:Hid (¬ (n < -738885\/2913173<n)):=i;clear cs E i
          go_wp2_with (go_at_call 114;refine (tz _ _ _ UT UT UT UT).mono ?_;rintro e w' ⟨rfl,rfl⟩)
          (try simp only[WE,Exit.then]);refine bodyPost_ret (pC rfl _ _ _) rfl ?_
          exact⟨Or.inr ⟨q.out,z,m,_,rfl,f,zU n z m⟩,rfl⟩
     ·by_cases g:n+(738885-Cal.ah z)<0
      ·go_wp2
       (try simp only[WE,Exit.then]);refine bodyPost_ret (pC rfl _ _ _) rfl ?_
       exact⟨Or.inl ⟨early n z F.out g,rfl⟩,rfl⟩
      ·by_cases D:365+Cal.lp z<=n+(738885-Cal.ah z)
       ·go_wp2_with (go_at_call 115;refine (qw _ _ UT UT).mono ?_;rintro e w' ⟨rfl,rfl⟩)
        (try simp only[WE,Exit.then]);refine bodyPost_ret (pC rfl _ _ _) rfl ?_
        exact⟨Or.inl ⟨late n z UT H.out D,rfl⟩,rfl⟩
       ·go_wp2_with (go_at_call 115;refine (qw _ _ UT UT).mono ?_;rintro e w' ⟨rfl,rfl⟩)
        go_loop [0,9,10] (fun r k _=>∃ m:U8,1<=m/\m<=12/\k=.int .i64 m/\0<=n+(738885-Cal.ah z)-Cal.cI z m/\r=.int .i64 (n+(738885-Cal.ah z)-Cal.cI z m)) (fun _ k _=>(12-intOf k).toNat)
        case atStart=>exact⟨1,by omega,by omega,rfl,by rw[Cal.oC];omega,by rw[Cal.oC,YK]⟩
        case round =>
         obtain⟨m,h,p,rfl,U,rfl⟩:=hrel;have cb:=Cal.qB z m h UT;have Y:=Cal.nT z m;have cs:=Cal.pK z m h p;have E:=Cal.vj z
         by_cases W:Cal.fO z m<=n+(738885-Cal.ah z)-Cal.cI z m
         ·have V:m<12:=by
           by_cases e:m=12
           ·subst e;rw[show (12:U8)+1=13 from rfl] at cs;omega
           ·omega
          have G:Hid (Cal.cI z (m+1)=Cal.cI z m+Cal.fO z m):=cs;clear cs E
          go_wp2_with (go_at_call 114;refine (tz _ _ _ UT UT UT UT).mono ?_;rintro e w' ⟨rfl,rfl⟩)
          go_round
          case rel=>exact⟨m+1,by omega,by omega,rfl,by rw[G.out];omega,by rw[G.out];go_num⟩
          case measure=>simp[intOf];omega
         ·have f:Cal.ok z m (n+(738885-Cal.ah z)-Cal.cI z m+1)=Vf:=ve UT;have i:¬ (n < -738885\/2913173<n):=inside n z m f;have q:Hid (¬ (n < -738885\/2913173<n)):=i;clear cs E i
          go_wp2_with (go_at_call 114;refine (tz _ _ _ UT UT UT UT).mono ?_;rintro e w' ⟨rfl,rfl⟩)
          (try simp only[WE,Exit.then]);refine bodyPost_ret (pC rfl _ _ _) rfl ?_
          exact⟨Or.inr ⟨q.out,z,m,_,rfl,f,zU n z m⟩,rfl⟩
theorem hide{p:Prop}(h:p):Hid p:=h
theorem aJ{p:Prop}(h:Hid p):p:=h
theorem gy.later(h:gy w)(f:Vi w.heap.size w wx):gy wx:=by
 obtain⟨D,C,z,x,u,t,r,q,p,j,i,g⟩:=h;exact⟨cell_later f D,cell_later f C,cell_later f z,cell_later f x,cell_later f u,cell_later f t,cell_later f r,cell_later f q,cell_later f p,cell_later f j,cell_later f i,cell_later f g⟩
theorem eE{k:IntKind}{b:U8}{d:U6}(h:a=b)(g:c=d):Vn (.tuple #[.int k a,.bool c])=.returned (.tuple #[.int k b,.bool d]):=by rw[h,g]
theorem eS(s:U3)(w:Vg)(z:s.size<=maxLen):
  Vj prog 139 #[.string s] w fun e w'=>e=.returned (.tuple #[.int .i64 (aB.cF s.data.toList),.bool (aB.isNum s.data.toList)])/\w'=w:=by
 unfold maxLen at z
 by_cases F:s.size=0
 ·have H:Hid (aB.isNum s.data.toList=Ve):=aB.xG (by rw[aB.fL];omega);have E:((s.size:U8)==0)=Vf:=beq_iff_eq.2 UT
  go_in
  go_wp2;go_ret2;exact⟨eE (by simp[aB.cF,H.out]) (by rw[H.out]),rfl⟩
 ·have E:((s.size:U8)==0)=Ve:=beq_eq_false_iff_ne.2 UT
  by_cases J:7<s.size
  ·have H:Hid (aB.isNum s.data.toList=Ve):=aB.xG (by rw[aB.fL];omega);clear F
   go_in
   go_wp2;go_ret2;exact⟨eE (by simp[aB.cF,H.out]) (by rw[H.out]),rfl⟩
  ·go_in
   go_wp2
   go_loop [4,5,6] (fun n i _=>∃ k:U7,k<=s.size/\i=.int .i64 k/\n=.int .i64 (aB.mG (s.data.toList.take k))/\aB.gn (s.data.toList.take k)=Vf) (fun _ i _=>s.size-(intOf i).toNat)
   case atStart=>exact⟨0,Wg _,rfl,rfl,rfl⟩
   case round =>
    obtain⟨k,I,rfl,rfl,p⟩:=hrel;have r:=hide p;have G:=aB.FV (s.data.toList.take k) p (by rw[Yo];omega);clear p
    by_cases j:k<s.size
    ·have q:Hid (s.data.toList.take (k+1)=s.data.toList.take k++[s[k]]):=aB.xT s k j
     by_cases g:aB.rT s[k]=Vf
     ·have f:=(aB.sF _).1 g;have h:=hide g;obtain⟨D,C⟩:=f;clear g;go_wp2
      go_round
      case rel=>exact⟨k+1,by omega,by go_num,by rw[q.out,aB.T6],by rw[q.out,aB.xZ,r.out,h.out];rfl⟩
      case measure=>simp[intOf];omega
     ·have h:Hid (aB.isNum s.data.toList=Ve):=aB.Bm (aB.I8 _ (k+1) (by rw[q.out,aB.xZ,r.out];simpa using g))
      have f:(s[k].toNat:U8)<48\/(¬ (s[k].toNat:U8)<48/\57<(s[k].toNat:U8)):=by
       have:=mt (aB.sF s[k]).2 g;omega
      clear g;rcases f with f |⟨f,t⟩
      all_goals
       go_wp2;go_ret2;exact⟨eE (by simp[aB.cF,h.out]) (by rw[h.out]),rfl⟩
    ·have x:Hid (s.data.toList.take k=s.data.toList):=aB.sG s k UT;have u:Hid (aB.isNum s.data.toList=Vf):=aB.BI (by rw[aB.fL];omega) (by rw[aB.fL];omega) (by rw[<- x.out];exact r.out);go_wp2;go_ret2;exact⟨eE (by rw[x.out];simp[aB.cF,u.out]) (by rw[u.out]),rfl⟩
theorem nS{b:U8}(h:a≠b):(a != b)=Vf:=by rw[bne_iff_ne];exact h
theorem nR{b:U8}(h:a=b):(a != b)=Ve:=by subst h;simp
theorem gO(s:U3)(a b:U7)(h:s.size<=maxLen):(s.extract a b).size<=maxLen:=by
 have:(s.extract a b).size=min b s.size-a:=Xu ..;omega
theorem v8(s:U3)(w:Vg)(z:s.size<=maxLen):
  Vj prog 137 #[.string s] w fun e w'=>e=.returned (.tuple #[.int .i64 (aB.fl s),.bool (aB.dA s)])/\w'=w:=by
 have h:=hide z;clear z
 by_cases u:s.size=5
 ·have E:((s.size:U8) != 5)=Ve:=nR UT;have H:(2:U8)<(s.size:U8):=UT
  have q:2<s.size:=UT
  have G:(3:U8)<=(s.size:U8):=UT
  by_cases p:aB.dP s 2=58
  ·have D:(((s[2]'q).toNat:U8) != 58)=Ve:=nR (by rw[<- aB.ja];exact p);have J:=aB.kV (aB.part s 0 2);have I:=aB.kV (aB.part s 3 5);have j:=hide u;have F:=hide p;clear u p;have f:=hide (aB.GM j.out F.out)
   cases g:aB.isNum (aB.part s 0 2)
   ·go_in
    go_wp2_with fail
    refine (eS _ _ (gO _ _ _ h.out)).mono ?_;rintro e w' ⟨rfl,rfl⟩;rw[show (s.extract 0 2).data.toList=aB.part s 0 2 from rfl]
    go_wp2_with fail
    refine (eS _ _ (gO _ _ _ h.out)).mono ?_;rintro e w' ⟨rfl,rfl⟩;rw[show (s.extract 3 s.size).data.toList=aB.part s 3 5 from by rw[j.out];rfl];go_wp2;go_ret2;exact⟨eE (by simp[aB.fl,aJ f,g]) (by simp[aJ f,g]),rfl⟩
   ·cases i:aB.isNum (aB.part s 3 5)
    ·go_in
     go_wp2_with fail
     refine (eS _ _ (gO _ _ _ h.out)).mono ?_;rintro e w' ⟨rfl,rfl⟩;rw[show (s.extract 0 2).data.toList=aB.part s 0 2 from rfl]
     go_wp2_with fail
     refine (eS _ _ (gO _ _ _ h.out)).mono ?_;rintro e w' ⟨rfl,rfl⟩;rw[show (s.extract 3 s.size).data.toList=aB.part s 3 5 from by rw[j.out];rfl];go_wp2;go_ret2;exact⟨eE (by simp[aB.fl,aJ f,g,i]) (by simp[aJ f,g,i]),rfl⟩
    ·by_cases x:aB.cF (aB.part s 0 2)<=23
     ·by_cases C:aB.cF (aB.part s 3 5)<=59
      ·go_in
       go_wp2_with fail
       refine (eS _ _ (gO _ _ _ h.out)).mono ?_;rintro e w' ⟨rfl,rfl⟩;rw[show (s.extract 0 2).data.toList=aB.part s 0 2 from rfl]
       go_wp2_with fail
       refine (eS _ _ (gO _ _ _ h.out)).mono ?_;rintro e w' ⟨rfl,rfl⟩;rw[show (s.extract 3 s.size).data.toList=aB.part s 3 5 from by rw[j.out];rfl];go_wp2;go_ret2;exact⟨eE (by simp[aB.fl,aJ f,g,i,x,C]) (by simp[aJ f,g,i,x,C]),rfl⟩
      ·go_in
       go_wp2_with fail
       refine (eS _ _ (gO _ _ _ h.out)).mono ?_;rintro e w' ⟨rfl,rfl⟩;rw[show (s.extract 0 2).data.toList=aB.part s 0 2 from rfl]
       go_wp2_with fail
       refine (eS _ _ (gO _ _ _ h.out)).mono ?_;rintro e w' ⟨rfl,rfl⟩;rw[show (s.extract 3 s.size).data.toList=aB.part s 3 5 from by rw[j.out];rfl];go_wp2;go_ret2;have r:¬ aB.cF (aB.part s 3 5)<=59:=UT
       exact⟨eE (by simp[aB.fl,aJ f,g,i,x,r]) (by simp[aJ f,g,i,x,r]),rfl⟩
     ·go_in
      go_wp2_with fail
      refine (eS _ _ (gO _ _ _ h.out)).mono ?_;rintro e w' ⟨rfl,rfl⟩;rw[show (s.extract 0 2).data.toList=aB.part s 0 2 from rfl]
      go_wp2_with fail
      refine (eS _ _ (gO _ _ _ h.out)).mono ?_;rintro e w' ⟨rfl,rfl⟩;rw[show (s.extract 3 s.size).data.toList=aB.part s 3 5 from by rw[j.out];rfl];go_wp2;go_ret2;have t:¬ aB.cF (aB.part s 0 2)<=23:=UT
      exact⟨eE (by simp[aB.fl,aJ f,g,i,t]) (by simp[aJ f,g,i,t]),rfl⟩
  ·have D:(((s[2]'q).toNat:U8) != 58)=Vf:=nS (by rw[<- aB.ja];exact p);have f:Hid (aB.dA s=Ve):=aB.ym UT;clear u p
   go_in
   go_wp2;go_ret2;exact⟨eE (by simp[aB.fl,f.out]) (by rw[f.out]),rfl⟩
 ·have E:((s.size:U8) != 5)=Vf:=nS UT;have f:Hid (aB.dA s=Ve):=aB.ym UT;clear u
  go_in
  go_wp2;go_ret2;exact⟨eE (by simp[aB.fl,f.out]) (by rw[f.out]),rfl⟩
theorem wh(s:U3)(w:Vg)(ht:gy w)(I:s.size<=maxLen):
  Vj prog 195 #[.string s] w fun e w'=>e=.returned (.tuple #[.int .i64 (aB.eH s),.bool (aB.iH s)])/\w'=w:=by
 have g:=hide I;clear I
 by_cases x:s.size=10
 ·have M:((s.size:U8) != 10)=Ve:=nR UT;have F:4<s.size:=UT
  have E:7<s.size:=UT
  have P:(4:U8)<(s.size:U8):=UT
  have O:(7:U8)<(s.size:U8):=UT
  have N:(8:U8)<=(s.size:U8):=UT
  by_cases C:aB.dP s 4=45
  ·have L:(((s[4]'F).toNat:U8) != 45)=Ve:=nR (by rw[<- aB.ja];exact C)
   by_cases D:aB.dP s 7=45
   ·have K:(((s[7]'E).toNat:U8) != 45)=Ve:=nR (by rw[<- aB.ja];exact D);have T:=aB.kV (aB.part s 0 4);have S:=aB.kV (aB.part s 5 7);have Q:=aB.kV (aB.part s 8 10);have f:=hide (aB.FM x C D);have H:=hide x;clear x C D;have J:∃ r u n3:U6,aB.isNum (aB.part s 0 4)=r/\aB.isNum (aB.part s 5 7)=u/\aB.isNum (aB.part s 8 10)=n3:=⟨_,_,_,rfl,rfl,rfl⟩;obtain⟨r,u,n3,i,j,p⟩:=J;have q:r=Ve\/(r=Vf/\u=Ve)\/(r=Vf/\u=Vf/\n3=Ve)\/(r=Vf/\u=Vf/\n3=Vf):=by cases r <;> cases u <;> cases n3 <;> simp
    rcases q with h|⟨h,G⟩|⟨h,G,t⟩|⟨h,G,t⟩
    ·subst h;clear j p
     go_in
     go_wp2_with fail
     refine (eS _ _ (gO _ _ _ g.out)).mono ?_;rintro e w' ⟨rfl,rfl⟩;rw[show (s.extract 0 4).data.toList=aB.part s 0 4 from rfl]
     go_wp2_with fail
     refine (eS _ _ (gO _ _ _ g.out)).mono ?_;rintro e w' ⟨rfl,rfl⟩;rw[show (s.extract 5 7).data.toList=aB.part s 5 7 from rfl]
     go_wp2_with fail
     refine (eS _ _ (gO _ _ _ g.out)).mono ?_;rintro e w' ⟨rfl,rfl⟩;rw[show (s.extract 8 s.size).data.toList=aB.part s 8 10 from by rw[H.out];rfl];go_wp2;go_ret2;exact⟨eE (by simp[aB.eH,aJ f,i]) (by simp[aJ f,i]),rfl⟩
    ·subst h G;clear p
     go_in
     go_wp2_with fail
     refine (eS _ _ (gO _ _ _ g.out)).mono ?_;rintro e w' ⟨rfl,rfl⟩;rw[show (s.extract 0 4).data.toList=aB.part s 0 4 from rfl]
     go_wp2_with fail
     refine (eS _ _ (gO _ _ _ g.out)).mono ?_;rintro e w' ⟨rfl,rfl⟩;rw[show (s.extract 5 7).data.toList=aB.part s 5 7 from rfl]
     go_wp2_with fail
     refine (eS _ _ (gO _ _ _ g.out)).mono ?_;rintro e w' ⟨rfl,rfl⟩;rw[show (s.extract 8 s.size).data.toList=aB.part s 8 10 from by rw[H.out];rfl];go_wp2;go_ret2;exact⟨eE (by simp[aB.eH,aJ f,i,j]) (by simp[aJ f,i,j]),rfl⟩
    ·subst h G t
     go_in
     go_wp2_with fail
     refine (eS _ _ (gO _ _ _ g.out)).mono ?_;rintro e w' ⟨rfl,rfl⟩;rw[show (s.extract 0 4).data.toList=aB.part s 0 4 from rfl]
     go_wp2_with fail
     refine (eS _ _ (gO _ _ _ g.out)).mono ?_;rintro e w' ⟨rfl,rfl⟩;rw[show (s.extract 5 7).data.toList=aB.part s 5 7 from rfl]
     go_wp2_with fail
     refine (eS _ _ (gO _ _ _ g.out)).mono ?_;rintro e w' ⟨rfl,rfl⟩;rw[show (s.extract 8 s.size).data.toList=aB.part s 8 10 from by rw[H.out];rfl];go_wp2;go_ret2;exact⟨eE (by simp[aB.eH,aJ f,i,j,p]) (by simp[aJ f,i,j,p]),rfl⟩
    ·subst h G t
     cases z:Cal.ok (aB.cF (aB.part s 0 4)) (aB.cF (aB.part s 5 7)) (aB.cF (aB.part s 8 10))
     ·go_in
      go_wp2_with fail
      refine (eS _ _ (gO _ _ _ g.out)).mono ?_;rintro e w' ⟨rfl,rfl⟩;rw[show (s.extract 0 4).data.toList=aB.part s 0 4 from rfl]
      go_wp2_with fail
      refine (eS _ _ (gO _ _ _ g.out)).mono ?_;rintro e w' ⟨rfl,rfl⟩;rw[show (s.extract 5 7).data.toList=aB.part s 5 7 from rfl]
      go_wp2_with fail
      refine (eS _ _ (gO _ _ _ g.out)).mono ?_;rintro e w' ⟨rfl,rfl⟩;rw[show (s.extract 8 s.size).data.toList=aB.part s 8 10 from by rw[H.out];rfl]
      go_wp2_with fail
      refine (B5 _ _ _ _ ht z).mono ?_;rintro e w' ⟨rfl,rfl⟩;go_wp2;go_ret2;exact⟨eE (by simp[aB.eH,aJ f,i,j,p,z]) (by simp[aJ f,i,j,p,z]),rfl⟩
     ·go_in
      go_wp2_with fail
      refine (eS _ _ (gO _ _ _ g.out)).mono ?_;rintro e w' ⟨rfl,rfl⟩;rw[show (s.extract 0 4).data.toList=aB.part s 0 4 from rfl]
      go_wp2_with fail
      refine (eS _ _ (gO _ _ _ g.out)).mono ?_;rintro e w' ⟨rfl,rfl⟩;rw[show (s.extract 5 7).data.toList=aB.part s 5 7 from rfl]
      go_wp2_with fail
      refine (eS _ _ (gO _ _ _ g.out)).mono ?_;rintro e w' ⟨rfl,rfl⟩;rw[show (s.extract 8 s.size).data.toList=aB.part s 8 10 from by rw[H.out];rfl]
      go_wp2_with fail
      refine (Cj _ _ _ _ ht z).mono ?_;rintro e w' ⟨rfl,rfl⟩;go_wp2;go_ret2;exact⟨eE (by simp[aB.eH,aJ f,i,j,p,z]) (by simp[aJ f,i,j,p,z]),rfl⟩
   ·have K:(((s[7]'E).toNat:U8) != 45)=Vf:=nS (by rw[<- aB.ja];exact D);have f:Hid (aB.iH s=Ve):=aB.tY UT;clear x C D
    go_in
    go_wp2;go_ret2;exact⟨eE (by simp[aB.eH,f.out]) (by rw[f.out]),rfl⟩
  ·have L:(((s[4]'F).toNat:U8) != 45)=Vf:=nS (by rw[<- aB.ja];exact C);have f:Hid (aB.iH s=Ve):=aB.tY UT;clear x C
   go_in
   go_wp2;go_ret2;exact⟨eE (by simp[aB.eH,f.out]) (by rw[f.out]),rfl⟩
 ·have M:((s.size:U8) != 10)=Vf:=nS UT;have f:Hid (aB.iH s=Ve):=aB.tY UT;clear x
  go_in
  go_wp2;go_ret2;exact⟨eE (by simp[aB.eH,f.out]) (by rw[f.out]),rfl⟩
structure Kept(R:U7)(w w':Vg):Prop where
 os:w'.os=w.os
 tape:w'.tape=w.tape
 output:w'.output=w.output
 size:w.heap.size<=w'.heap.size
 block:∀ k,k<w.heap.size->k≠R->w'.heap[k]?=w.heap[k]?
theorem Kept.refl(R:U7)(w:Vg):Kept R w w:=⟨rfl,rfl,rfl,Vm _,fun _ _ _=>rfl⟩
theorem Kept.trans{a b c:Vg}(h:Kept R a b)(k:Kept R b c):Kept R a c :=
 ⟨k.os.trans h.os,k.tape.trans h.tape,k.output.trans h.output,Vp h.size k.size,fun i hi f=>(k.block i (zL hi h.size) f).trans (h.block i hi f)⟩
theorem Kept.aD(h:Vi w.heap.size w w'):Kept R w w':=⟨h.os,h.tape,h.output,h.size,fun k f _=>h.block k f⟩
theorem Kept.drewN(h:Kept R w w')(n:U7):Kept R w (w'.drewN n):=⟨h.os,h.tape,h.output,h.size,h.block⟩
theorem Kept.setCell(h:Kept R w w')(o:U7)(v:Vh):Kept R w (w'.setCell ⟨R,o,Vc⟩ v) :=
 h.trans ⟨(Below.setCell (B:=0) (Below.refl 0 w') (zN _) v).os,(Below.setCell (B:=0) (Below.refl 0 w') (zN _) v).tape,(Below.setCell (B:=0) (Below.refl 0 w') (zN _) v).output,(Below.setCell (B:=0) (Below.refl 0 w') (p:=⟨R,o,Vc⟩) (zN _) v).size,fun k _ f=>Below.heap_setCell w' _ v k f⟩
theorem Kept.below(h:Kept R w w')(g:B<=R)(i:B<=w.heap.size):Vi B w w' :=
 ⟨h.os,h.tape,h.output,h.size,fun k f=>h.block k (zL f i) (Nat.ne_of_lt (zL f g))⟩
theorem Kept.cell(h:Kept R w w')(f:b≠R)(g:w.cell? ⟨b,o,Vc⟩=Vd v):w'.cell? ⟨b,o,Vc⟩=Vd v :=
 (zo (w:=w) (h.block b (Vq _ _ g) f)).trans g
structure RS(w:Vg)(R A:U7)(ws:U4 U3)(nx:U7)(wr:U6):Prop where
 c0:w.cell? ⟨R,0,Vc⟩=Vd (.slice (Vd ⟨A,0,Vc⟩) ws.length ws.length)
 c1:w.cell? ⟨R,1,Vc⟩=Vd (.int .i64 nx)
 c2:w.cell? ⟨R,2,Vc⟩=Vd (.bool wr)
 f1:w.frozen? ⟨R,1,Vc⟩=Ve
 f2:w.frozen? ⟨R,2,Vc⟩=Ve
 ne:A≠R
 rows:∀ (i:U7) (h:i<ws.length),w.cell? ⟨A,i,Vc⟩=Vd (.string ws[i])
 len:ws.length<=160
 vd:nx<=ws.length
 short:∀ x∈ws,x.size<=160
theorem RS.aD(h:RS w R A ws nx wr)(f:Vi w.heap.size w w'):RS w' R A ws nx wr :=
 ⟨cell_later f h.c0,cell_later f h.c1,cell_later f h.c2,(f.frozen (Vq _ _ h.c1)).trans h.f1,(f.frozen (Vq _ _ h.c2)).trans h.f2,h.ne,fun i hi=>cell_later f (h.rows i hi),h.len,h.vd,h.short⟩
theorem RS.drewN(h:RS w R A ws nx wr)(n:U7):RS (w.drewN n) R A ws nx wr:=⟨h.c0,h.c1,h.c2,h.f1,h.f2,h.ne,h.rows,h.len,h.vd,h.short⟩
def cB(n nx:U7)(wr:U6):U6:=!wr && decide (nx<n)
theorem il(R A:U7)(ws:U4 U3)(nx:U7)(wr:U6)(w:Vg)(h:RS w R A ws nx wr):
  Vj prog 63 #[.pointer (Vd ⟨R,0,Vc⟩)] w fun e w'=>e=.returned (.bool (cB ws.length nx wr))/\∃ n,w'=w.drewN n:=by
 have i:=h.c0;have g:=h.c1;have f:=h.c2;clear h
 cases wr
 ·go_in
  go_wp2
  go_quiet (fail)
  go_wp2;go_ret;exact⟨eB (by simp[cB]),_,rfl⟩
 ·go_in
  go_wp2
  go_quiet (fail)
  go_wp2;go_ret;exact⟨eB (by simp[cB]),_,rfl⟩
theorem I0(h:¬ (wr=Ve/\nx<n)):cB n nx wr=Ve:=by
 unfold cB
 cases wr
 ·simp;simp at h;exact h
 ·rfl
theorem N8(R A:U7)(ws:U4 U3)(nx:U7)(wr:U6)(f:U3)(w:Vg)(h:RS w R A ws nx wr)(g:cB ws.length nx wr=Ve):
  Vj prog 82 #[.pointer (Vd ⟨R,0,Vc⟩),.string f] w fun e w'=>e=.returned (.bool Ve)/\∃ n,w'=w.drewN n:=by
 go_in
 go_wp2
 go_quiet ((go_at_call 63;exact YL (il R A ws nx wr _ (h.drewN _))))
 go_wp2;go_ret;exact⟨rfl,_,rfl⟩
theorem Qa(R A:U7)(ws:U4 U3)(nx:U7)(wr:U6)(f:U3)(w:Vg)(h:RS w R A ws nx wr)(i:cB ws.length nx wr=Vf)(g:nx<ws.length)(j:(ws[nx].toList==f.toList)=Ve):
  Vj prog 82 #[.pointer (Vd ⟨R,0,Vc⟩),.string f] w fun e w'=>e=.returned (.bool Ve)/\∃ n,w'=w.drewN n:=by
 have t:=h.c0;have r:=h.c1;have q:=h.c2;have p:=h.rows nx g;have hi:(nx:U8)<(ws.length:U8):=UT
 go_in
 go_wp2
 go_quiet ((go_at_call 63;exact YL (il R A ws nx wr _ (h.drewN _))))
 go_wp2;go_ret;exact⟨rfl,_,rfl⟩
theorem RS.step(h:RS w R A ws nx wr)(f:nx<ws.length):RS (w.setCell ⟨R,1,Vc⟩ (.int .i64 ((nx:U8)+1))) R A ws (nx+1) wr :=
 ⟨(zS _ _ _ _ UU).trans h.c0,VE _ _ _ h.c1,(zS _ _ _ _ UU).trans h.c2,(zF ..).trans h.f1,(zF ..).trans h.f2,h.ne,
  fun i hi=>(zS _ _ _ _ (by simp;intro e;exact Vb e.symm h.ne)).trans (h.rows i hi),h.len,f,h.short⟩
theorem RS.bad(h:RS w R A ws nx wr):RS (w.setCell ⟨R,2,Vc⟩ (.bool Vf)) R A ws nx Vf :=
 ⟨(zS _ _ _ _ UU).trans h.c0,(zS _ _ _ _ UU).trans h.c1,VE _ _ _ h.c2,(zF ..).trans h.f1,(zF ..).trans h.f2,h.ne,
  fun i hi=>(zS _ _ _ _ (by simp;intro e;exact Vb e.symm h.ne)).trans (h.rows i hi),h.len,h.vd,h.short⟩
theorem N9(R A:U7)(ws:U4 U3)(nx:U7)(wr:U6)(f:U3)(w:Vg)(h:RS w R A ws nx wr)(i:cB ws.length nx wr=Vf)(g:nx<ws.length)(p:(ws[nx].toList==f.toList)=Vf):
  Vj prog 82 #[.pointer (Vd ⟨R,0,Vc⟩),.string f] w fun e w'=>e=.returned (.bool Vf)/\RS w' R A ws (nx+1) wr/\Kept R w w':=by
 have x:=h.c0;have u:=h.c1;have t:=h.c2;have q:=h.f1;have r:=h.rows nx g;have j:=h.len;have hi:(nx:U8)<(ws.length:U8):=UT
 go_in
 go_wp2
 go_quiet ((go_at_call 63;exact YL (il R A ws nx wr _ (h.drewN _))))
 go_wp2;go_ret;exact⟨rfl,(h.drewN _).step g,((Kept.refl R w).drewN _).setCell _ _⟩
def bD(ws:U4 U3)(nx:U7)(wr:U6)(f:U3):U6:=cB ws.length nx wr && ((ws.getD nx YM).toList==f.toList)
theorem iI(R A:U7)(ws:U4 U3)(nx:U7)(wr:U6)(f:U3)(w:Vg)(h:RS w R A ws nx wr):
  Vj prog 82 #[.pointer (Vd ⟨R,0,Vc⟩),.string f] w fun e w'=>e=.returned (.bool (bD ws nx wr f))/\RS w' R A ws (if bD ws nx wr f then nx+1 else nx) wr/\Kept R w w':=by
 cases i:cB ws.length nx wr
 ·have e:bD ws nx wr f=Ve:=by simp[bD,i]
  rw[e];refine (N8 R A ws nx wr f w h i).mono ?_;rintro e w' ⟨rfl,n,rfl⟩;exact⟨rfl,h.drewN n,(Kept.refl R w).drewN n⟩
 ·have g:nx<ws.length:=by
   by_cases g:nx<ws.length
   ·exact g
   ·rw[I0 UT] at i;cases i
  have p:ws.getD nx YM=ws[nx]:=by simp[List.getD,g]
  cases j:(ws[nx].toList==f.toList)
  ·have e:bD ws nx wr f=Ve:=by rw[bD,p,j,YN]
   rw[e];refine (Qa R A ws nx wr f w h i g j).mono ?_;rintro e w' ⟨rfl,n,rfl⟩;exact⟨rfl,h.drewN n,(Kept.refl R w).drewN n⟩
  ·have e:bD ws nx wr f=Vf:=by rw[bD,p,j,i];rfl
   rw[e];exact N9 R A ws nx wr f w h i g j
theorem BC(R A:U7)(ws:U4 U3)(nx:U7)(wr:U6)(f:U3)(w:Vg)(h:RS w R A ws nx wr):
  Vj prog 134 #[.pointer (Vd ⟨R,0,Vc⟩),.string f] w fun e w'=>e=.returned (.tuple #[])/\RS w' R A ws (if bD ws nx wr f then nx+1 else nx) (if bD ws nx wr f then wr else Vf)/\Kept R w w':=by
 cases j:bD ws nx wr f
 ·go_in
  go_wp2_with fail
  refine (iI R A ws nx wr f w h).mono ?_;rintro e w' ⟨rfl,g,i⟩;rw[j] at g ⊢;have q:=g.c2;have p:=g.f2;go_wp2
  go_end0
  exact⟨rfl,g.bad,i.setCell _ _⟩
 ·go_in
  go_wp2_with fail
  refine (iI R A ws nx wr f w h).mono ?_;rintro e w' ⟨rfl,g,i⟩;rw[j] at g ⊢;go_wp2
  go_end0
  exact⟨rfl,g,i⟩
def eA(ws:U4 U3)(nx:U7)(wr:U6)(B:U3->U6):U6:=cB ws.length nx wr && B (ws.getD nx YM)
def ek(ws:U4 U3)(nx:U7)(wr:U6)(B:U3->U6):U7:=if eA ws nx wr B then nx+1 else nx
def ei(ws:U4 U3)(nx:U7)(wr:U6)(B:U3->U6):U6:=if eA ws nx wr B then wr else Vf
def fg(ws:U4 U3)(nx:U7)(wr:U6)(B:U3->U6)(V:U3->U8):U8:=if eA ws nx wr B then V (ws.getD nx YM) else 0
theorem pO(h:cB n nx wr=Vf):nx<n:=by
 by_cases f:nx<n
 ·exact f
 ·rw[I0 UT] at h;cases h
theorem pI(ws:U4 U3)(nx:U7)(h:nx<ws.length):ws.getD nx YM=ws[nx]:=by simp[List.getD,h]
theorem vX(f:Vh)(R A:U7)(ws:U4 U3)(nx:U7)(wr:U6)(w:Vg)(h:RS w R A ws nx wr)(p:cB ws.length nx wr=Ve):
  Vj prog 135 #[.pointer (Vd ⟨R,0,Vc⟩),f] w fun e w'=>e=.returned (.int .i64 0)/\RS w' R A ws nx Vf/\Kept R w w':=by
 go_in
 go_wp2_with fail
 refine (il R A ws nx wr w h).mono ?_;rintro e w1 ⟨rfl,n,g⟩;have i:RS w1 R A ws nx wr:=by rw[g];exact h.drewN n
 have j:Kept R w w1:=by rw[g];exact (Kept.refl R w).drewN n
 have r:=i.c2;have q:=i.f2;clear g;go_wp2;go_ret;exact⟨rfl,i.bad,j.setCell _ _⟩
theorem Sy(R A:U7)(ws:U4 U3)(nx:U7)(wr:U6)(w:Vg)(h:RS w R A ws nx wr)(q:cB ws.length nx wr=Vf)(g:nx<ws.length)(p:ws[nx].size<=maxLen)(t:aB.isNum ws[nx].data.toList=Vf):
  Vj prog 135 #[.pointer (Vd ⟨R,0,Vc⟩),.func (.func 139) #[] #[]] w fun e w'=>e=.returned (.int .i64 (aB.cF ws[nx].data.toList))/\RS w' R A ws (nx+1) wr/\Kept R w w':=by
 have hi:(nx:U8)<(ws.length:U8):=UT
 go_in
 go_wp2_with fail
 refine (il R A ws nx wr w h).mono ?_;rintro e w1 ⟨rfl,n,i⟩;have f:RS w1 R A ws nx wr:=by rw[i];exact h.drewN n
 have j:Kept R w w1:=by rw[i];exact (Kept.refl R w).drewN n
 have C:=f.c0;have z:=f.c1;have u:=f.f1;have x:=f.rows nx g;have r:=f.len;clear i;go_wp2
 go_quiet ((go_at_call 139;exact YP (eS _ _ p)))
 go_wp2;go_ret;exact⟨rfl,(f.drewN _).step g,(j.drewN _).setCell _ _⟩
theorem Sx(R A:U7)(ws:U4 U3)(nx:U7)(wr:U6)(w:Vg)(h:RS w R A ws nx wr)(q:cB ws.length nx wr=Vf)(i:nx<ws.length)(p:ws[nx].size<=maxLen)(t:aB.isNum ws[nx].data.toList=Ve):
  Vj prog 135 #[.pointer (Vd ⟨R,0,Vc⟩),.func (.func 139) #[] #[]] w fun e w'=>e=.returned (.int .i64 0)/\RS w' R A ws nx Vf/\Kept R w w':=by
 have hi:(nx:U8)<(ws.length:U8):=UT
 go_in
 go_wp2_with fail
 refine (il R A ws nx wr w h).mono ?_;rintro e w1 ⟨rfl,n,g⟩;have f:RS w1 R A ws nx wr:=by rw[g];exact h.drewN n
 have j:Kept R w w1:=by rw[g];exact (Kept.refl R w).drewN n
 have D:=f.c0;have C:=f.c1;have z:=f.c2;have u:=f.f2;have x:=f.rows nx i;have r:=f.len;clear g;go_wp2
 go_quiet ((go_at_call 139;exact YP (eS _ _ p)))
 go_wp2;go_ret;exact⟨rfl,(f.drewN _).bad,(j.drewN _).setCell _ _⟩
structure Env(w:Vg):Prop where
 iK:gy w
 tC:∃ m,w.cell? ⟨2,0,Vc⟩=Vd (.int .i64 m)
 pow : YQ prog w "internal/strconv.uint64pow10" .u64 Lib.pow10Tab
 size:10<=w.heap.size
 mo:w.cell? ⟨3,0,Vc⟩=Vd (.string ⟨#[109,111]⟩)
 tu:w.cell? ⟨3,1,Vc⟩=Vd (.string ⟨#[116,117]⟩)
 we:w.cell? ⟨3,2,Vc⟩=Vd (.string ⟨#[119,101]⟩)
 th:w.cell? ⟨3,3,Vc⟩=Vd (.string ⟨#[116,104]⟩)
 fr:w.cell? ⟨3,4,Vc⟩=Vd (.string ⟨#[102,114]⟩)
 sa:w.cell? ⟨3,5,Vc⟩=Vd (.string ⟨#[115,97]⟩)
 su:w.cell? ⟨3,6,Vc⟩=Vd (.string ⟨#[115,117]⟩)
theorem vb : prog.globalNamed "internal/strconv.uint64pow10" = Vd 0 := by kernel_rfl
theorem Env.later(h:Env w)(f:Vi w.heap.size w wx):Env wx:=by
 obtain⟨m,i⟩:=h.tC;refine⟨h.iK.later f,⟨m,cell_later f i⟩,?_,Vp h.size f.size,cell_later f h.mo,cell_later f h.tu,cell_later f h.we,cell_later f h.th,cell_later f h.fr,cell_later f h.sa,cell_later f h.su⟩;have g:=h.pow;have j:=h.size;unfold YQ YR at g ⊢;simp only[vb,YS] at g ⊢;rw[f.block 0 UT];exact g
theorem Env.drewN(h:Env w)(n:U7):Env (w.drewN n):=h.later (w:=w) (wx:=w.drewN n) ⟨rfl,rfl,rfl,Vm _,fun _ _=>rfl⟩
theorem xM{a b:U3}{d:U6}(h:a=b)(g:c=d):Vn (.tuple #[.string a,.bool c])=.returned (.tuple #[.string b,.bool d]):=by rw[h,g]
theorem Hv(s:U3)(w:Vg)(f:s.size<=281474976710656):
  Vj prog 142 #[.string s] w fun e w'=>e=.returned (.string s)/\Vi w.heap.size w w':=by
 go_in
 go_wp2_with fail
 refine (stringslite_Clone s w f).mono ?_;rintro e w' ⟨rfl,g⟩;go_wp2;go_ret;exact⟨rfl,g⟩
def qH(s:U3):U3:=if aB.fa s.data.toList then s else ⟨#[]⟩
theorem Jd(s:U3)(w:Vg)(G:s.size<=160):
  Vj prog 131 #[.string s] w fun e w'=>e=.returned (.tuple #[.string (qH s),.bool (aB.fa s.data.toList)])/\Vi w.heap.size w w':=by
 by_cases E:s.size=0
 ·have H:Hid (aB.fa s.data.toList=Ve):=aB.xQ (by rw[aB.fL];omega);have D:((s.size:U8)==0)=Vf:=beq_iff_eq.2 UT
  go_in
  go_wp2;go_ret2;exact⟨xM (by simp[qH,H.out]) (by rw[H.out]),Below.refl _ _⟩
 ·have D:((s.size:U8)==0)=Ve:=beq_eq_false_iff_ne.2 UT
  by_cases J:8<s.size
  ·have H:Hid (aB.fa s.data.toList=Ve):=aB.xQ (by rw[aB.fL];omega);clear E
   go_in
   go_wp2;go_ret2;exact⟨xM (by simp[qH,H.out]) (by rw[H.out]),Below.refl _ _⟩
  ·go_in
   go_wp2
   go_loop [4] (fun i=>∃ k:U7,k<=s.size/\i=.int .i64 k/\aB.nP (s.data.toList.take k)=Vf) (fun i=>s.size-(intOf i).toNat)
   case atStart=>exact⟨0,Wg _,rfl,rfl⟩
   case round =>
    obtain⟨k,I,rfl,q⟩:=hrel;have p:=hide q;clear q
    by_cases j:k<s.size
    ·have t:Hid (s.data.toList.take (k+1)=s.data.toList.take k++[s[k]]):=aB.xT s k j
     by_cases g:aB.low s[k]=Vf
     ·have f:=(aB.xu _).1 g;have h:=hide g;obtain⟨z,x⟩:=f;clear g;go_wp2
      go_round
      case rel=>exact⟨k+1,by omega,by go_num,by rw[t.out,aB.xI,p.out,h.out];rfl⟩
      case measure=>simp[intOf];omega
     ·have h:Hid (aB.fa s.data.toList=Ve):=aB.Gg (aB.Hn _ (k+1) (by rw[t.out,aB.xI,p.out];simpa using g))
      have f:(s[k].toNat:U8)<97\/(¬ (s[k].toNat:U8)<97/\122<(s[k].toNat:U8)):=by
       have:=mt (aB.xu s[k]).2 g;omega
      clear g;rcases f with f |⟨f,r⟩
      all_goals
       go_wp2;go_ret2;exact⟨xM (by simp[qH,h.out]) (by rw[h.out]),Below.refl _ _⟩
    ·have F:Hid (s.data.toList.take k=s.data.toList):=aB.sG s k UT;have u:Hid (aB.fa s.data.toList=Vf):=aB.GU (by rw[aB.fL];omega) (by rw[aB.fL];omega) (by rw[<- F.out];exact p.out)
     go_wp2_with fail
     refine (Hv s w UT).mono ?_;rintro e w' ⟨rfl,C⟩;go_wp2;go_ret2;exact⟨xM (by simp[qH,u.out]) (by rw[u.out]),C⟩
theorem Mq(s:U3)(w:Vg)(E:s.size<=160):
  Vj prog 186 #[.string s] w fun e w'=>e=.returned (.bool (aB.fa s.data.toList))/\w'=w:=by
 by_cases I:s.size<1
 ·have H:Hid (aB.fa s.data.toList=Ve):=aB.xQ (by rw[aB.fL];omega);have z:((s.size:U8)<1):=UT
  go_in
  go_wp2;go_ret;exact⟨eB (by rw[H.out]),rfl⟩
 ·have z:¬ ((s.size:U8)<1):=UT
  by_cases G:8<s.size
  ·have H:Hid (aB.fa s.data.toList=Ve):=aB.xQ (by rw[aB.fL];omega)
   go_in
   go_wp2;go_ret;exact⟨eB (by rw[H.out]),rfl⟩
  ·go_in
   go_wp2
   go_loop [3] (fun i=>∃ k:U7,k<=s.size/\i=.int .i64 k/\aB.nP (s.data.toList.take k)=Vf) (fun i=>s.size-(intOf i).toNat)
   case atStart=>exact⟨0,Wg _,rfl,rfl⟩
   case round =>
    obtain⟨k,F,rfl,q⟩:=hrel;have j:=hide q;clear q
    by_cases h:k<s.size
    ·have t:Hid (s.data.toList.take (k+1)=s.data.toList.take k++[s[k]]):=aB.xT s k h
     by_cases g:aB.low s[k]=Vf
     ·have f:=(aB.xu _).1 g;have p:=hide g;obtain⟨x,u⟩:=f;clear g;go_wp2
      go_round
      case rel=>exact⟨k+1,by omega,by go_num,by rw[t.out,aB.xI,j.out,p.out];rfl⟩
      case measure=>simp[intOf];omega
     ·have p:Hid (aB.fa s.data.toList=Ve):=aB.Gg (aB.Hn _ (k+1) (by rw[t.out,aB.xI,j.out];simpa using g))
      have f:(s[k].toNat:U8)<97\/(¬ (s[k].toNat:U8)<97/\122<(s[k].toNat:U8)):=by
       have:=mt (aB.xu s[k]).2 g;omega
      clear g;rcases f with f |⟨f,r⟩
      all_goals
       go_wp2;go_ret;exact⟨eB (by rw[p.out]),rfl⟩
    ·have D:Hid (s.data.toList.take k=s.data.toList):=aB.sG s k UT;have C:Hid (aB.fa s.data.toList=Vf):=aB.GU (by rw[aB.fL];omega) (by rw[aB.fL];omega) (by rw[<- D.out];exact j.out);go_wp2;go_ret;exact⟨eB (by rw[C.out]),rfl⟩
theorem TQ(l:U4 UInt8):∀ acc:U7,aB.gn l=Vf->∃ n:U7,YT acc l=Vd n/\(n:U8)=l.foldl (fun n c=>n*10+((c.toNat:U8)-48)) (acc:U8):=by
 induction l with
 |nil=>intro acc _;exact⟨acc,rfl,rfl⟩
 |cons c l ih =>
  intro acc h;simp only[aB.gn,YU,W6] at h;have i:=(aB.sF c).1 h.1;obtain⟨n,g,f⟩:=ih (acc*10+(c.toNat-48)) h.2;refine⟨n,?_,?_⟩
  ·simp only[YT,Lib.digitVal];rw[Va UT];exact g
  ·rw[f,List.foldl_cons]
   congr 1
   omega
theorem Qs(l:U4 UInt8)(h:aB.gn l=Vf)(j:l≠[]):YV l=Vd (aB.mG l):=by
 obtain⟨n,i,g⟩:=TQ l 0 h
 cases l with
 |nil=>exact Vb rfl j
 |cons b r =>
  simp only[aB.gn,YU,W6] at h;have f:=(aB.sF b).1 h.1
  have q:(b==45)=Ve:=by
   rw[beq_eq_false_iff_ne];intro e;subst e;revert f;decide
  have p:(b==43)=Ve:=by
   rw[beq_eq_false_iff_ne];intro e;subst e;revert f;decide
  simp only[YV,q,p,Vw,if_false,Lib.decNat,List.isEmpty_cons,i,Option.map_some];rw[g];rfl
def bF(s:U3)(lo hi:U7):U8:=if lo<=s.size/\s.size<=hi/\aB.gn s.data.toList=Vf then aB.mG s.data.toList else -1
theorem A7(h:¬ (lo<=s.size/\s.size<=hi)):bF s lo hi=-1:=by
 unfold bF;rw[U9 (fun g=>h ⟨g.1,g.2.1⟩)]
theorem A9(h:aB.gn s.data.toList=Ve):bF s lo hi=-1:=by
 unfold bF;rw[U9 (fun g=>by rw[h] at g;exact Vb g.2.2 UV)]
theorem A8(g:lo<=s.size)(f:s.size<=hi)(h:aB.gn s.data.toList=Vf):bF s lo hi=aB.mG s.data.toList:=by
 unfold bF;rw[Va ⟨g,f,h⟩]
theorem eP(s:U3)(lo hi:U7)(w:Vg)(N:s.size<=160)(C:1<=lo)(D:hi<=7):
  Vj prog 126 #[.string s,.int .i64 lo,.int .i64 hi] w fun e w'=>e=.returned (.int .i64 (bF s lo hi))/\Vi w.heap.size w w':=by
 by_cases Q:s.size<lo
 ·have H:Hid (bF s lo hi=-1):=A7 UT;have J:((s.size:U8)<(lo:U8)):=UT
  go_in
  go_wp2;go_ret;exact⟨fK (by rw[H.out]),Below.refl _ _⟩
 ·have J:¬ ((s.size:U8)<(lo:U8)):=UT
  by_cases P:hi<s.size
  ·have H:Hid (bF s lo hi=-1):=A7 UT;have I:((hi:U8)<(s.size:U8)):=UT
   go_in
   go_wp2;go_ret;exact⟨fK (by rw[H.out]),Below.refl _ _⟩
  ·have I:¬ ((hi:U8)<(s.size:U8)):=UT
   go_in
   go_wp2
   go_loop [7] (fun i=>∃ k:U7,k<=s.size/\i=.int .i64 k/\aB.gn (s.data.toList.take k)=Vf) (fun i=>s.size-(intOf i).toNat)
   case atStart=>exact⟨0,Wg _,rfl,rfl⟩
   case round =>
    obtain⟨k,O,rfl,u⟩:=hrel;have p:=hide u;clear u
    by_cases j:k<s.size
    ·have z:Hid (s.data.toList.take (k+1)=s.data.toList.take k++[s[k]]):=aB.xT s k j
     by_cases h:aB.rT s[k]=Vf
     ·have f:=(aB.sF _).1 h;have q:=hide h;obtain⟨F,E⟩:=f;clear h;go_wp2
      go_round
      case rel=>exact⟨k+1,by omega,by go_num,by rw[z.out,aB.xZ,p.out,q.out];rfl⟩
      case measure=>simp[intOf];omega
     ·have q:Hid (bF s lo hi=-1):=A9 (aB.I8 _ (k+1) (by rw[z.out,aB.xZ,p.out];simpa using h))
      have f:(s[k].toNat:U8)<48\/(¬ (s[k].toNat:U8)<48/\57<(s[k].toNat:U8)):=by
       have:=mt (aB.sF s[k]).2 h;omega
      clear h;rcases f with f |⟨f,x⟩
      all_goals
       go_wp2;go_ret;exact⟨fK (by rw[q.out]),Below.refl _ _⟩
    ·have M:Hid (s.data.toList.take k=s.data.toList):=aB.sG s k UT;have g:aB.gn s.data.toList=Vf:=by rw[<- M.out];exact p.out
     have K:Hid (bF s lo hi=aB.mG s.data.toList):=A8 UT UT g;have L:Hid (YV s.data.toList=Vd (aB.mG s.data.toList)):=Qs _ g (fun e=>by have:=aB.fL s;rw[e] at this;simp at this;omega);clear g
     go_wp2_with fail
     refine (strconv_Atoi s _ UT L.out w).mono ?_;rintro e w' ⟨rfl,t,r⟩;have G:Vi w.heap.size w w':=by rw[r];exact Joins.below_bytesWorld _ _ _ _ (zq _)
     clear r;go_wp2;go_ret;exact⟨fK (by rw[K.out]),G⟩
theorem oA(s:U3)(a b:U7)(h:s.size<=160):(s.extract a b).size<=160:=by
 have:(s.extract a b).size=min b s.size-a:=Xu ..;omega
theorem vt(s:U3)(a b n:U7)(h:min b s.size-a=n):(s.extract a b).size=n:=(Xu ..).trans h
theorem vq(t:U3)(n:U7)(h:t.size=n)(p:1<=n)(j:n<=7):bF t n n=if aB.isNum t.data.toList then aB.cF t.data.toList else -1:=by
 have i:=aB.fL t
 cases f:aB.gn t.data.toList
 ·rw[A9 f,aB.Bm f];rfl
 ·have g:aB.isNum t.data.toList=Vf:=aB.BI UT UT f;rw[A8 UT UT f,g];simp[aB.cF,g]
theorem uV(t:U3):bF t 1 7=if aB.isNum t.data.toList then aB.cF t.data.toList else -1:=by
 have i:=aB.fL t
 cases f:aB.gn t.data.toList
 ·rw[A9 f,aB.Bm f];rfl
 ·by_cases h:1<=t.size/\t.size<=7
  ·have g:aB.isNum t.data.toList=Vf:=aB.BI UT UT f;rw[A8 h.1 h.2 f,g];simp[aB.cF,g]
  ·rw[A7 h,aB.xG UT];rfl
def gS(s:U3):U8:=if aB.dA s then aB.fl s else -1
def eU(s:U3):U8:=if aB.iH s=Vf/\0<=aB.eH s/\aB.eH s<=728 then aB.eH s else -1
theorem Bw(h:aB.dA s=Ve):gS s=-1:=by simp[gS,h]
theorem wX(h:aB.iH s=Ve):eU s=-1:=by simp[eU,h]
theorem AB(s:U3)(w:Vg)(H:s.size<=160):
  Vj prog 188 #[.string s] w fun e w'=>e=.returned (.int .i64 (gS s))/\Vi w.heap.size w w':=by
 by_cases j:s.size=5
 ·have K:((s.size:U8) != 5)=Ve:=nR UT;have r:2<s.size:=UT
  have V:(2:U8)<(s.size:U8):=UT
  have U:(3:U8)<=(s.size:U8):=UT
  by_cases q:aB.dP s 2=58
  ·have J:(((s[2]'r).toNat:U8) != 58)=Ve:=nR (by rw[<- aB.ja];exact q);have O:=aB.kV (aB.part s 0 2);have N:=aB.kV (aB.part s 3 5);have i:=hide (aB.GM j q);have G:bF (s.extract 0 2) 2 2=if aB.isNum (aB.part s 0 2) then aB.cF (aB.part s 0 2) else -1:=vq _ 2 (vt _ _ _ _ UT) UT UT
   have F:bF (s.extract 3 s.size) 2 2=if aB.isNum (aB.part s 3 5) then aB.cF (aB.part s 3 5) else -1:=by
    rw[j];exact vq _ 2 (vt _ _ _ _ UT) UT UT
   have h:∃ x y:U8,bF (s.extract 0 2) 2 2=x/\bF (s.extract 3 s.size) 2 2=y:=⟨_,_,rfl,rfl⟩;obtain⟨x,y,h,u⟩:=h;have W:-1<=x/\x<=9999999:=by rw[<- h,G];split <;> omega
   have M:-1<=y/\y<=9999999:=by rw[<- u,F];split <;> omega
   have S:Hid (gS s=if x<0\/23<x\/y<0\/59<y then -1 else 60*x+y):=by
    show gS s=_;rw[<- h,<- u,G,F,gS,aB.fl,aJ i]
    cases aB.isNum (aB.part s 0 2)
    ·simp
    ·cases aB.isNum (aB.part s 3 5)
     ·simp
     ·simp only[YW,if_true]
      by_cases D:aB.cF (aB.part s 0 2)<=23
      ·by_cases I:aB.cF (aB.part s 3 5)<=59
       ·simp only[D,I,decide_true,YX,if_true];rw[U9 UT];omega
       ·simp only[D,I,decide_true,decide_false,YN,Vw,if_false];rw[Va UT]
      ·simp only[D,decide_false,Bool.false_and,Vw,if_false];rw[Va UT]
   have Q:=hide h;have P:=hide u;clear G F h u j q O N i;have f:x<0\/(¬ x<0/\23<x)\/(¬ x<0/\¬ 23<x/\y<0)\/(¬ x<0/\¬ 23<x/\¬ y<0/\59<y)\/(¬ x<0/\¬ 23<x/\¬ y<0/\¬ 59<y):=UT
   rcases f with g|⟨g,E⟩|⟨g,E,t⟩|⟨g,E,t,L⟩|⟨g,E,t,L⟩
   all_goals
    go_in
    go_wp2_with fail
    refine (eP (s.extract 0 2) 2 2 _ (oA _ _ _ H) UT UT).mono ?_;rintro e w1 ⟨rfl,p⟩;rw[aJ Q]
    go_wp2_with fail
    refine (eP (s.extract 3 s.size) 2 2 _ (oA _ _ _ H) UT UT).mono ?_;rintro e T ⟨rfl,C⟩;rw[aJ P];have z:=p.trans (C.mono p.size);go_wp2;go_ret;refine⟨fK ?_,z⟩;rw[S.out]
    first|rw[Va UT]|rw[U9 UT]
  ·have J:(((s[2]'r).toNat:U8) != 58)=Vf:=nS (by rw[<- aB.ja];exact q);have i:=hide (Bw (aB.ym (s:=s) UT));clear j q
   go_in
   go_wp2;go_ret;exact⟨fK (by rw[aJ i]),Below.refl _ _⟩
 ·have K:((s.size:U8) != 5)=Vf:=nS UT;have i:=hide (Bw (aB.ym (s:=s) UT));clear j
  go_in
  go_wp2;go_ret;exact⟨fK (by rw[aJ i]),Below.refl _ _⟩
theorem uW(s:U3)(w:Vg)(t:s.size<=160):
  Vj prog 187 #[.string s] w fun e w'=>e=.returned (.int .i64 (eU s))/\Vi w.heap.size w w':=by
 by_cases r:s.size=10
 ·have U:((s.size:U8) != 10)=Ve:=nR UT;have F:4<s.size:=UT
  have E:7<s.size:=UT
  have Z:(4:U8)<(s.size:U8):=UT
  have Y:(7:U8)<(s.size:U8):=UT
  have W:(8:U8)<=(s.size:U8):=UT
  by_cases u:aB.dP s 4=45
  ·have T:(((s[4]'F).toNat:U8) != 45)=Ve:=nR (by rw[<- aB.ja];exact u)
   by_cases D:aB.dP s 7=45
   ·have S:(((s[7]'E).toNat:U8) != 45)=Ve:=nR (by rw[<- aB.ja];exact D);have i:=hide (aB.FM r u D);have L:bF (s.extract 0 4) 4 4=if aB.isNum (aB.part s 0 4) then aB.cF (aB.part s 0 4) else -1:=vq _ 4 (vt _ _ _ _ UT) UT UT
    have K:bF (s.extract 5 7) 2 2=if aB.isNum (aB.part s 5 7) then aB.cF (aB.part s 5 7) else -1:=vq _ 2 (vt _ _ _ _ UT) UT UT
    have J:bF (s.extract 8 s.size) 2 2=if aB.isNum (aB.part s 8 10) then aB.cF (aB.part s 8 10) else -1:=by
     rw[r];exact vq _ 2 (vt _ _ _ _ UT) UT UT
    have C:∃ x y z:U8,bF (s.extract 0 4) 4 4=x/\bF (s.extract 5 7) 2 2=y/\bF (s.extract 8 s.size) 2 2=z:=⟨_,_,_,rfl,rfl,rfl⟩;obtain⟨x,y,z,C,I,H⟩:=C
    have P:Hid (eU s=if Cal.ok x y z=Vf/\0<=Cal.num x y z/\Cal.num x y z<=728 then Cal.num x y z else -1):=by
     show eU s=_;rw[<- C,<- I,<- H,L,K,J,eU,aB.eH,aJ i]
     cases aB.isNum (aB.part s 0 4)
     ·simp[lz (y:=-1) (m:=_) (d:=_) UT]
     ·cases aB.isNum (aB.part s 5 7)
      ·simp[lz (y:=_) (m:=-1) (d:=_) UT]
      ·cases aB.isNum (aB.part s 8 10)
       ·simp[lz (y:=_) (m:=_) (d:=-1) UT]
       ·simp only[YW,if_true]
        cases Cal.ok (aB.cF (aB.part s 0 4)) (aB.cF (aB.part s 5 7)) (aB.cF (aB.part s 8 10)) <;> simp
    have O:=hide C;have N:=hide I;have M:=hide H;clear L K J C I H r u D i
    cases G:Cal.ok x y z
    ·go_in
     go_wp2_with fail
     refine (eP (s.extract 0 4) 4 4 _ (oA _ _ _ t) UT UT).mono ?_;rintro e w1 ⟨rfl,f⟩;rw[aJ O]
     go_wp2_with fail
     refine (eP (s.extract 5 7) 2 2 _ (oA _ _ _ t) UT UT).mono ?_;rintro e Q ⟨rfl,h⟩;rw[aJ N]
     go_wp2_with fail
     refine (eP (s.extract 8 s.size) 2 2 _ (oA _ _ _ t) UT UT).mono ?_;rintro e w3 ⟨rfl,q⟩;rw[aJ M];have p:=(f.trans (h.mono f.size)).trans (q.mono (Vp f.size h.size))
     go_wp2_with fail
     refine (My _ _ _ _ G).mono ?_;rintro e w4 ⟨rfl,rfl⟩;go_wp2;go_ret;exact⟨fK (by rw[P.out,G];simp),p⟩
    ·have j:Cal.num x y z<0\/(¬ Cal.num x y z<0/\728<Cal.num x y z)\/(¬ Cal.num x y z<0/\¬ 728<Cal.num x y z):=UT
     rcases j with g|⟨g,V⟩|⟨g,V⟩
     all_goals
      go_in
      go_wp2_with fail
      refine (eP (s.extract 0 4) 4 4 _ (oA _ _ _ t) UT UT).mono ?_;rintro e w1 ⟨rfl,f⟩;rw[aJ O]
      go_wp2_with fail
      refine (eP (s.extract 5 7) 2 2 _ (oA _ _ _ t) UT UT).mono ?_;rintro e Q ⟨rfl,h⟩;rw[aJ N]
      go_wp2_with fail
      refine (eP (s.extract 8 s.size) 2 2 _ (oA _ _ _ t) UT UT).mono ?_;rintro e w3 ⟨rfl,q⟩;rw[aJ M];have p:=(f.trans (h.mono f.size)).trans (q.mono (Vp f.size h.size))
      go_wp2_with fail
      refine (MQ _ _ _ _ G).mono ?_;rintro e w4 ⟨rfl,rfl⟩;go_wp2;go_ret;refine⟨fK ?_,p⟩;rw[P.out]
      first|rw[U9 UT]|rw[Va ⟨G,by omega,by omega⟩]
   ·have S:(((s[7]'E).toNat:U8) != 45)=Vf:=nS (by rw[<- aB.ja];exact D);have i:=hide (wX (aB.tY (s:=s) UT));clear r u D
    go_in
    go_wp2;go_ret;exact⟨fK (by rw[aJ i]),Below.refl _ _⟩
  ·have T:(((s[4]'F).toNat:U8) != 45)=Vf:=nS (by rw[<- aB.ja];exact u);have i:=hide (wX (aB.tY (s:=s) UT));clear r u
   go_in
   go_wp2;go_ret;exact⟨fK (by rw[aJ i]),Below.refl _ _⟩
 ·have U:((s.size:U8) != 10)=Vf:=nS UT;have i:=hide (wX (aB.tY (s:=s) UT));clear r
  go_in
  go_wp2;go_ret;exact⟨fK (by rw[aJ i]),Below.refl _ _⟩
theorem Pj(s:U3):aB.cM s=(aB.iH s && decide (0<=aB.eH s) && decide (aB.eH s<728)):=by
 rw[Xb];simp[aB.cM,and_assoc]
def fS(s:U3):U8:=if aB.cM s then aB.eH s else 0
theorem Jc(s:U3)(w:Vg)(ht:gy w)(t:s.size<=160):
  Vj prog 136 #[.string s] w fun e w'=>e=.returned (.tuple #[.int .i64 (fS s),.bool (aB.cM s)])/\w'=w:=by
 have i:s.size<=maxLen:=by unfold maxLen;omega
 have q:=hide (Pj s)
 cases j:aB.iH s
 ·go_in
  go_wp2_with fail
  refine (wh s w ht i).mono ?_;rintro e w' ⟨rfl,rfl⟩;go_wp2;go_ret2;exact⟨eE (by simp[fS,aJ q,j]) (by simp[aJ q,j]),rfl⟩
 ·have f:aB.eH s<0\/(¬ aB.eH s<0/\728<=aB.eH s)\/(¬ aB.eH s<0/\¬ 728<=aB.eH s):=UT
  rcases f with g|⟨g,r⟩|⟨g,r⟩
  all_goals
   have h:Hid (aB.cM s=(decide (0<=aB.eH s) && decide (aB.eH s<728))):=(aJ q).trans (by rw[j];rfl)
   go_in
   go_wp2_with fail
   refine (wh s w ht i).mono ?_;rintro e w' ⟨rfl,rfl⟩;go_wp2;go_ret2;refine⟨eE ?_ ?_,rfl⟩
  ·rw[fS,h.out,decide_eq_false UT];rfl
  ·rw[h.out,decide_eq_false UT];rfl
  ·rw[fS,h.out,decide_eq_false (p:=aB.eH s<728) UT,YN];rfl
  ·rw[h.out,decide_eq_false (p:=aB.eH s<728) UT,YN]
  ·rw[fS,h.out,decide_eq_true (p:=aB.eH s<728) UT,decide_eq_true (p:=0<=aB.eH s) UT];rfl
  ·rw[h.out,decide_eq_true (p:=aB.eH s<728) UT,decide_eq_true (p:=0<=aB.eH s) UT];rfl
def oE(s:U3):U8:=if aB.isNum s.data.toList then aB.cF s.data.toList else aB.kg s
def bB(s:U3):U6:=(aB.isNum s.data.toList || aB.iP s) && decide (0<=oE s/\oE s<=1048320)
def dL(s:U3):U8:=if bB s then oE s else 0
def cZ(s:U3):U8:=if bB s then oE s else -1
theorem Qx(s:U3)(h:s.size<=160):(aB.iT s).size<=160:=by
 rw[<- aB.fL];unfold aB.iT Xc;have:=aB.fL s
 split <;> simp <;> omega
theorem Qy(s:U3)(h:s.size<=160):(aB.iU s).size<=160:=by
 rw[<- aB.fL];unfold aB.iU Xc;have:=aB.fL s
 split <;> simp <;> omega
theorem yK(s:U3)(w:Vg)(j:Env w)(x:s.size<=160):
  Vj prog 196 #[.string s] w fun e w'=>e=.returned (.tuple #[.int .i64 (aB.kg s),.bool (aB.iP s)])/\∃ n,w'=w.drewN n:=by
 obtain⟨m,g⟩:=j.tC;have q:=hide j;have h:=hide (aB.Ov s);have F:=aB.FB (aB.iT s);have E:=aB.xl (aB.iU s);have C:(aB.iT s).size<=maxLen:=by have:=Qx s x;unfold maxLen;omega
 have z:(aB.iU s).size<=maxLen:=by have:=Qy s x;unfold maxLen;omega
 have t:=hide C;have r:=hide z;clear j C z
 cases i:aB.ow s
 ·have f:Hid (aB.iP s=Ve):=by show aB.iP s=Ve;rw[<- (aJ h).1,i];rfl
  go_in
  go_wp2_with fail
  refine (strings_Cut s ⟨#[47]⟩ m w UT g).mono ?_;rintro e w1 ⟨rfl,n,rfl⟩;rw[show (Xc s.data.toList (ByteArray.mk #[47]).data.toList).snd.snd=aB.ow s from rfl];go_wp2;go_ret2;exact⟨eE (by simp[aB.kg,f.out]) (by rw[f.out]),_,rfl⟩
 ·cases p:aB.iH (aB.iT s)
  ·have f:Hid (aB.iP s=Ve):=by show aB.iP s=Ve;rw[<- (aJ h).1,i,p];rfl
   go_in
   go_wp2_with fail
   refine (strings_Cut s ⟨#[47]⟩ m w UT g).mono ?_;rintro e w1 ⟨rfl,n,rfl⟩;rw[show (Xc s.data.toList (ByteArray.mk #[47]).data.toList).snd.snd=aB.ow s from rfl,show (ByteArray.mk (Xc s.data.toList (ByteArray.mk #[47]).data.toList).fst.toArray)=aB.iT s from rfl,show (ByteArray.mk (Xc s.data.toList (ByteArray.mk #[47]).data.toList).snd.fst.toArray)=aB.iU s from rfl]
   go_wp2_with fail
   refine (wh (aB.iT s) _ ((aJ q).drewN n).iK (aJ t)).mono ?_;rintro e w1 ⟨rfl,rfl⟩
   go_wp2_with fail
   refine (v8 (aB.iU s) _ (aJ r)).mono ?_;rintro e w1 ⟨rfl,rfl⟩;go_wp2;go_ret2;exact⟨eE (by simp[aB.kg,f.out]) (by rw[f.out]),_,rfl⟩
  ·cases u:aB.dA (aB.iU s)
   ·have f:Hid (aB.iP s=Ve):=by show aB.iP s=Ve;rw[<- (aJ h).1,i,p,u];rfl
    go_in
    go_wp2_with fail
    refine (strings_Cut s ⟨#[47]⟩ m w UT g).mono ?_;rintro e w1 ⟨rfl,n,rfl⟩;rw[show (Xc s.data.toList (ByteArray.mk #[47]).data.toList).snd.snd=aB.ow s from rfl,show (ByteArray.mk (Xc s.data.toList (ByteArray.mk #[47]).data.toList).fst.toArray)=aB.iT s from rfl,show (ByteArray.mk (Xc s.data.toList (ByteArray.mk #[47]).data.toList).snd.fst.toArray)=aB.iU s from rfl]
    go_wp2_with fail
    refine (wh (aB.iT s) _ ((aJ q).drewN n).iK (aJ t)).mono ?_;rintro e w1 ⟨rfl,rfl⟩
    go_wp2_with fail
    refine (v8 (aB.iU s) _ (aJ r)).mono ?_;rintro e w1 ⟨rfl,rfl⟩;go_wp2;go_ret2;exact⟨eE (by simp[aB.kg,f.out]) (by rw[f.out]),_,rfl⟩
   ·have f:Hid (aB.iP s=Vf):=by show aB.iP s=Vf;rw[<- (aJ h).1,i,p,u];rfl
    have D:=hide ((aJ h).2 f.out)
    go_in
    go_wp2_with fail
    refine (strings_Cut s ⟨#[47]⟩ m w UT g).mono ?_;rintro e w1 ⟨rfl,n,rfl⟩;rw[show (Xc s.data.toList (ByteArray.mk #[47]).data.toList).snd.snd=aB.ow s from rfl,show (ByteArray.mk (Xc s.data.toList (ByteArray.mk #[47]).data.toList).fst.toArray)=aB.iT s from rfl,show (ByteArray.mk (Xc s.data.toList (ByteArray.mk #[47]).data.toList).snd.fst.toArray)=aB.iU s from rfl]
    go_wp2_with fail
    refine (wh (aB.iT s) _ ((aJ q).drewN n).iK (aJ t)).mono ?_;rintro e w1 ⟨rfl,rfl⟩
    go_wp2_with fail
    refine (v8 (aB.iU s) _ (aJ r)).mono ?_;rintro e w1 ⟨rfl,rfl⟩;go_wp2;go_ret2;exact⟨eE (aJ D) (by rw[f.out]),_,rfl⟩
theorem F8(h:aB.isNum s.data.toList=Vf):bB s=decide (aB.cF s.data.toList<=1048320)/\oE s=aB.cF s.data.toList:=by
 have b:=aB.kV s.data.toList;have e:oE s=aB.cF s.data.toList:=by simp[oE,h]
 refine⟨?_,e⟩;unfold bB;rw[e,h,Xb];simp;omega
theorem AW(h:aB.isNum s.data.toList=Ve):bB s=(aB.iP s && decide (0<=aB.kg s/\aB.kg s<=1048320))/\oE s=aB.kg s:=by
 have e:oE s=aB.kg s:=by simp[oE,h]
 exact⟨by unfold bB;rw[e,h];rfl,e⟩
theorem Jj(s:U3)(w:Vg)(x:Env w)(p:s.size<=160):
  Vj prog 140 #[.string s] w fun e w'=>e=.returned (.tuple #[.int .i64 (dL s),.bool (bB s)])/\∃ n,w'=w.drewN n:=by
 have r:=hide x;have h:s.size<=maxLen:=by unfold maxLen;omega
 clear x
 cases u:aB.isNum s.data.toList
 ·have i:=hide (AW u)
  cases q:aB.iP s
  ·have f:Hid (bB s=Ve):=by show bB s=Ve;rw[(aJ i).1,q];rfl
   go_in
   go_wp2_with fail
   refine (eS s w h).mono ?_;rintro e w' ⟨rfl,rfl⟩
   go_wp2_with fail
   refine (yK s _ (aJ r) p).mono ?_;rintro e w1 ⟨rfl,n,rfl⟩;go_wp2;go_ret2;exact⟨eE (by simp[dL,f.out]) (by rw[f.out]),_,rfl⟩
  ·have j:aB.kg s<0\/(¬ aB.kg s<0/\1048320<aB.kg s)\/(¬ aB.kg s<0/\¬ 1048320<aB.kg s):=UT
   rcases j with g|⟨g,z⟩|⟨g,z⟩
   ·have f:Hid (bB s=Ve):=by show bB s=Ve;rw[(aJ i).1,q,decide_eq_false UT];rfl
    go_in
    go_wp2_with fail
    refine (eS s w h).mono ?_;rintro e w' ⟨rfl,rfl⟩
    go_wp2_with fail
    refine (yK s _ (aJ r) p).mono ?_;rintro e w1 ⟨rfl,n,rfl⟩;go_wp2;go_ret2;exact⟨eE (by simp[dL,f.out]) (by rw[f.out]),_,rfl⟩
   ·have f:Hid (bB s=Ve):=by show bB s=Ve;rw[(aJ i).1,q,decide_eq_false UT];rfl
    go_in
    go_wp2_with fail
    refine (eS s w h).mono ?_;rintro e w' ⟨rfl,rfl⟩
    go_wp2_with fail
    refine (yK s _ (aJ r) p).mono ?_;rintro e w1 ⟨rfl,n,rfl⟩;go_wp2;go_ret2;exact⟨eE (by simp[dL,f.out]) (by rw[f.out]),_,rfl⟩
   ·have f:Hid (bB s=Vf):=by show bB s=Vf;rw[(aJ i).1,q,decide_eq_true UT];rfl
    have t:=hide (aJ i).2
    go_in
    go_wp2_with fail
    refine (eS s w h).mono ?_;rintro e w' ⟨rfl,rfl⟩
    go_wp2_with fail
    refine (yK s _ (aJ r) p).mono ?_;rintro e w1 ⟨rfl,n,rfl⟩;go_wp2;go_ret2;exact⟨eE (by simp[dL,f.out,aJ t]) (by rw[f.out]),_,rfl⟩
 ·have i:=hide (F8 u);have b:=aB.kV s.data.toList
  by_cases g:1048320<aB.cF s.data.toList
  ·have f:Hid (bB s=Ve):=by show bB s=Ve;rw[(aJ i).1,decide_eq_false UT]
   go_in
   go_wp2_with fail
   refine (eS s w h).mono ?_;rintro e w' ⟨rfl,rfl⟩;go_wp2;go_ret2;exact⟨eE (by simp[dL,f.out]) (by rw[f.out]),0,rfl⟩
  ·have f:Hid (bB s=Vf):=by show bB s=Vf;rw[(aJ i).1,decide_eq_true UT]
   have t:=hide (aJ i).2
   go_in
   go_wp2_with fail
   refine (eS s w h).mono ?_;rintro e w' ⟨rfl,rfl⟩;go_wp2;go_ret2;exact⟨eE (by simp[dL,f.out,aJ t]) (by rw[f.out]),0,rfl⟩
theorem KX(h:s.size=16):aB.isNum s.data.toList=Ve:=aB.xG (by rw[aB.fL];omega)
theorem Lc(j:s.size=16)(t:aB.dP s 10=47):cZ s=if eU (s.extract 0 10)<0\/gS (s.extract 11 16)<0\/1048320<1440*eU (s.extract 0 10)+gS (s.extract 11 16) then -1 else 1440*eU (s.extract 0 10)+gS (s.extract 11 16):=by
 have ⟨e1,e2⟩:=AW (KX j);have x:=aB.xl (s.extract 11 16);have z:=aB.FB (s.extract 0 10)
 have f:aB.iP s=(aB.iH (s.extract 0 10) && aB.dA (s.extract 11 16)):=by
  rw[Xb];simp[aB.iP,j,t]
 unfold cZ;rw[e1,e2,aB.kg,f]
 cases r:aB.iH (s.extract 0 10)
 ·rw[wX r];simp
 ·cases p:aB.dA (s.extract 11 16)
  ·rw[Bw p];simp
  ·have u:gS (s.extract 11 16)=aB.fl (s.extract 11 16):=by simp[gS,p]
   simp only[YX,YW,if_true,u,decide_eq_true_eq]
   by_cases g:0<=aB.eH (s.extract 0 10)/\aB.eH (s.extract 0 10)<=728
   ·have i:eU (s.extract 0 10)=aB.eH (s.extract 0 10):=by simp[eU,r,g]
    rw[i]
    by_cases q:aB.eH (s.extract 0 10)*1440+aB.fl (s.extract 11 16)<=1048320
    ·rw[Va UT,U9 UT];omega
    ·rw[U9 UT,Va UT]
   ·have i:eU (s.extract 0 10)=-1:=by unfold eU;rw[U9 (fun h=>g h.2)]
    rw[i,U9 UT,Va UT]
theorem Ek(h:¬ (s.size=16/\aB.dP s 10=47)):cZ s=if 1048320<bF s 1 7 then -1 else bF s 1 7:=by
 have f:aB.iP s=Ve:=by
  cases j:aB.iP s
  ·rfl
  ·have:=of_decide_eq_true j;exact Vb ⟨this.1,this.2.1⟩ h
 rw[uV]
 cases i:aB.isNum s.data.toList
 ·have ⟨e1,e2⟩:=AW i;unfold cZ;rw[e1,f];simp
 ·have ⟨e1,e2⟩:=F8 i;unfold cZ;rw[e1,e2]
  by_cases g:aB.cF s.data.toList<=1048320
  ·rw[decide_eq_true g];simp;omega
  ·rw[decide_eq_false g];simp;omega
theorem qu(s:U3)(w:Vg)(C:s.size<=160):
  Vj prog 127 #[.string s] w fun e w'=>e=.returned (.int .i64 (cZ s))/\Vi w.heap.size w w':=by
 by_cases p:s.size=16
 ·have I:((s.size:U8)==16)=Vf:=beq_iff_eq.2 UT;have r:10<s.size:=UT
  have N:(10:U8)<(s.size:U8):=UT
  have M:(11:U8)<=(s.size:U8):=UT
  by_cases q:aB.dP s 10=47
  ·have H:(((s[10]'r).toNat:U8)==47)=Vf:=beq_iff_eq.2 (by rw[<- aB.ja];exact q);have i:=hide (Lc p q);have f:∃ x y:U8,eU (s.extract 0 10)=x/\gS (s.extract 11 16)=y:=⟨_,_,rfl,rfl⟩;obtain⟨x,y,f,z⟩:=f;have O:-1<=x/\x<=728:=by rw[<- f,eU];split <;> omega
   have J:-1<=y/\y<=1439:=by have:=aB.xl (s.extract 11 16);rw[<- z,gS];split <;> omega
   have t:=hide f;have K:Hid (gS (s.extract 11 s.size)=y):=by show gS (s.extract 11 s.size)=y;rw[p];exact z
   have u:Hid (cZ s=if x<0\/y<0\/1048320<1440*x+y then -1 else 1440*x+y):=by
    show cZ s=_;rw[aJ i,f,z]
   clear f z p q i;have j:x<0\/(¬ x<0/\y<0)\/(¬ x<0/\¬ y<0/\1048320<1440*x+y)\/(¬ x<0/\¬ y<0/\¬ 1048320<1440*x+y):=UT
   rcases j with g|⟨g,G⟩|⟨g,G,F⟩|⟨g,G,F⟩
   all_goals
    go_in
    go_wp2_with fail
    refine (uW (s.extract 0 10) _ (oA _ _ _ C)).mono ?_;rintro e w1 ⟨rfl,h⟩;rw[aJ t]
    go_wp2_with fail
    refine (AB (s.extract 11 s.size) _ (oA _ _ _ C)).mono ?_;rintro e L ⟨rfl,E⟩;rw[K.out];have D:=h.trans (E.mono h.size);go_wp2;go_ret;refine⟨fK ?_,D⟩;rw[u.out]
    first|rw[Va UT]|rw[U9 UT]
  ·have H:(((s[10]'r).toNat:U8)==47)=Ve:=beq_eq_false_iff_ne.2 (by rw[<- aB.ja];exact q);have i:=hide (Ek (s:=s) UT);clear p q;have f:∃ x:U8,bF s 1 7=x:=⟨_,rfl⟩;obtain⟨x,f⟩:=f;have t:=hide f
   have u:Hid (cZ s=if 1048320<x then -1 else x):=by
    show cZ s=_;rw[aJ i,f]
   clear f i
   by_cases g:1048320<x
   all_goals
    go_in
    go_wp2_with fail
    refine (eP s 1 7 _ C UT UT).mono ?_;rintro e w1 ⟨rfl,h⟩;rw[aJ t];go_wp2;go_ret;refine⟨fK ?_,h⟩;rw[u.out]
    first|rw[Va UT]|rw[U9 UT]
 ·have I:((s.size:U8)==16)=Ve:=beq_eq_false_iff_ne.2 UT;have i:=hide (Ek (s:=s) UT);clear p;have f:∃ x:U8,bF s 1 7=x:=⟨_,rfl⟩;obtain⟨x,f⟩:=f;have t:=hide f
  have u:Hid (cZ s=if 1048320<x then -1 else x):=by
   show cZ s=_;rw[aJ i,f]
  clear f i
  by_cases g:1048320<x
  all_goals
   go_in
   go_wp2_with fail
   refine (eP s 1 7 _ C UT UT).mono ?_;rintro e w1 ⟨rfl,h⟩;rw[aJ t];go_wp2;go_ret;refine⟨fK ?_,h⟩;rw[u.out]
   first|rw[Va UT]|rw[U9 UT]
theorem Qt(x:U7)(w:Vg):
  Vj prog 81 #[.int .i32 x] w fun e w'=>e=.returned (.bool (x==32))/\∃ q,w'=w.drewN q:=by
 go_in
 go_wp2;go_ret;refine⟨eB ?_,0,rfl⟩;rw[Xb];simp;omega
theorem Ta(f:Array Vh)(w:Vg):Sem.run prog (callFunc 81 f) w=.ok (.enter 81 f) w:=UY
theorem Rc(s:U3)(w:Vg)(j:s.size<=160):
  Vj prog 61 #[.string s] w fun e w'=>∃ A,e=.returned (.slice (Vd ⟨A,0,Vc⟩) (aB.aP s).length (aB.aP s).length)/\w.heap.size<=A /\
   w'.ownsRow w.heap.size 9 1 (.slice (Vd ⟨A,0,Vc⟩) (aB.aP s).length (aB.aP s).length) (aB.aP s).length ((aB.aP s).map YZ)/\Vi w.heap.size w w':=by
 have f:PredAtRunes prog 81 #[] (fun r=>r==32) w:=fun W x _ _=>Qt x W
 have HP:=hide f;clear f
 go_in
 go_wp2_with fail
 refine (strings_FieldsFunc_runes 81 #[] Ta (fun r=>r==32) s w UT (aJ HP)).mono ?_;rintro e w' ⟨A,rfl,i,g,h⟩;rw[aB.TU] at g ⊢;go_wp2;go_ret;exact⟨A,rfl,i,g,h⟩
theorem toList_data(b:U3):b.toList=b.data.toList:=Lib.toList_data b
theorem wW{b:U3}(h:b.toList.isEmpty=Vf):b.size=0:=by
 rw[toList_data,List.isEmpty_iff] at h;rw[<- aB.fL,h];rfl
theorem xg{b:U3}(h:b.toList.isEmpty=Ve):b.size≠0:=by
 intro e;rw[toList_data,List.isEmpty_eq_false_iff] at h;exact h (List.eq_nil_of_length_eq_zero (by rw[aB.fL];exact e))
theorem ot{f size:U7}(h:w.ownsRow f e size v n xs)(i:v.ownBlock=Vd k):f<=k:=by
 rcases h.2 with ⟨rfl,_⟩|⟨g,cap,j,rfl,p,_⟩
 ·simp[WH] at i
 ·simp[WH] at i;omega
theorem wL:(prog.info? 9).map (fun i=>(i.zero,i.size,i.bytes))=Vd (Vd (.string ⟨#[]⟩),1,16):=UY
theorem Ey(s:U3)(w:Vg)(K:s.size<=160):
  Vj prog 59 #[.string s] w fun e w'=>∃ v,e=.returned v/\w'.ownsRow w.heap.size 9 1 v (aB.aP s).length ((aB.aP s).map YZ)/\Vi w.heap.size w w':=by
 obtain⟨H,hi,z,x,t⟩:=info_parts wL
 go_in
 go_wp2
 go_loopw [3,4,5] (fun v c i wr=>∃ k:U7,k<=s.size/\i=.int .i64 k/\c=.string (aB.eG s k)/\wr.ownsRow w.heap.size 9 1 v (aB.jE s k).length ((aB.jE s k).map YZ)/\Vi w.heap.size w wr) (fun _ _ i _=>s.size-(intOf i).toNat)
 case atStart=>exact⟨0,Wg _,rfl,rfl,World.ownsRow_nil _ _ _ _,Below.refl _ _⟩
 case round =>
  obtain⟨k,D,rfl,rfl,f,g⟩:=hrel;have L:=aB.xy s k
  by_cases J:k<s.size
  ·by_cases r:aB.dP s k=32
   ·have F:((s[k].toNat:U8)==32)=Vf:=beq_iff_eq.2 (by rw[<- aB.ja];exact r);have q:=hide (aB.xJ s k D r);clear r
    cases E:(aB.eG s k).toList.isEmpty
    ·have p:Hid ((aB.eG s k).size≠0):=(xg E);have G:=aB.qD s k
     go_wp2_with (first
      |(at_builtin;refine wpList_append_own _ rfl _ _ 26 rfl w.heap.size 9 H (.string ⟨#[]⟩) 1 16 underlying26 hi z x t rfl UV _ _ _ rfl (f.alloc _) ⟨wr.heap.size,0,Vc⟩ 1 1 [.string (aB.eG s k)] rfl rfl ?c1 ?c2 ?c3 ?c4 ?c5 ?_)
      |go_in)
     case c1=>exact cell_one_new _ _ _
     case c2=>intro u C;simp at C;subst C;rfl
     case c3=>unfold maxLen;omega
     case c4=>omega
     case c5=>have:=g.size;simp;omega
     intro v' w1 h j _;go_wp2;refine⟨⟨k+1,by omega,by go_num,by rw[(aJ q).1],?_,?_⟩,by simp[intOf];omega⟩
     ·rw[(aJ q).2,U9 p.out,Wq,V4];exact h
     ·refine (g.alloc g.size _).grown j (by have:=g.size;simp;omega) (fun k D=>?_);exact ot f D
    ·have p:Hid ((aB.eG s k).size=0):=(wW E);go_wp2;exact⟨⟨k+1,by omega,by go_num,by rw[(aJ q).1],by rw[(aJ q).2,Va p.out,X4];exact f,g⟩,by simp[intOf];omega⟩
   ·have F:((s[k].toNat:U8)==32)=Ve:=beq_eq_false_iff_ne.2 (by rw[<- aB.ja];exact r);have q:=hide (aB.xx s k r);clear r;go_wp2;exact⟨⟨k+1,by omega,by go_num,by rw[(aJ q).1],by rw[(aJ q).2];exact f,g⟩,by simp[intOf];omega⟩
  ·obtain rfl:k=s.size:=UT
   have I:=hide (aB.vp s)
   cases E:(aB.eG s s.size).toList.isEmpty
   ·have p:Hid ((aB.eG s s.size).size≠0):=(xg E);have G:=aB.qD s s.size
    go_wp2_with (first
     |(at_builtin;refine wpList_append_own _ rfl _ _ 26 rfl w.heap.size 9 H (.string ⟨#[]⟩) 1 16 underlying26 hi z x t rfl UV _ _ _ rfl (f.alloc _) ⟨wr.heap.size,0,Vc⟩ 1 1 [.string (aB.eG s s.size)] rfl rfl ?c1 ?c2 ?c3 ?c4 ?c5 ?_)
     |go_in)
    case c1=>exact cell_one_new _ _ _
    case c2=>intro u C;simp at C;subst C;rfl
    case c3=>unfold maxLen;omega
    case c4=>omega
    case c5=>have:=g.size;simp;omega
    intro v' w1 h j _;go_wp2;go_ret;refine⟨v',rfl,?_,?_⟩
    ·rw[aJ I,U9 p.out,Wq,V4];exact h
    ·refine (g.alloc g.size _).grown j (by have:=g.size;simp;omega) (fun k D=>?_);exact ot f D
   ·have p:Hid ((aB.eG s s.size).size=0):=(wW E);go_wp2;go_ret;exact⟨_,rfl,by rw[aJ I,Va p.out,X4];exact f,g⟩
def eK(k:U7):U4 UInt8:=match k with|0=>[109,111]|1=>[116,117]|2=>[119,101]|3=>[116,104]|4=>[102,114]|5=>[115,97]|_=>[115,117]
theorem lT(g:k<7)(h:(l==eK k)=Vf)(f:∀ j,j<k->(l==eK j)=Ve):aB.dC l=k:=by
 have e:=beq_iff_eq.1 h;subst e;rcases (show k=0\/k=1\/k=2\/k=3\/k=4\/k=5\/k=6 by omega) with rfl|rfl|rfl|rfl|rfl|rfl|rfl <;> decide
theorem Fo(f:∀ j,j<7->(l==eK j)=Ve):aB.dC l=-1:=by
 have t:=f 0 UT;have r:=f 1 UT;have q:=f 2 UT;have p:=f 3 UT;have i:=f 4 UT;have h:=f 5 UT;have g:=f 6 UT;simp only[eK] at t r q p i h g;simp[aB.dC,t,r,q,p,i,h,g]
theorem lV(f:∀ j,j<k->(l==eK j)=Ve)(h:(l==eK k)=Ve):∀ j,j<k+1->(l==eK j)=Ve:=fun j g=>by
 by_cases e:j=k
 ·subst e;exact h
 ·exact f j UT
def mM(s:U3):U8:=if 0<=aB.dC s.data.toList then aB.dC s.data.toList else 0
def mh(s:U3):U6:=decide (0<=aB.dC s.data.toList)
theorem UB(s:U3)(w:Vg)(q:Env w):
  Vj prog 246 #[.string s] w fun e w'=>e=.returned (.tuple #[.int .i64 (mM s),.bool (mh s)])/\w'=w:=by
 have F:=q.mo;have E:=q.tu;have D:=q.we;have C:=q.th;have z:=q.fr;have x:=q.sa;have u:=q.su;have p:=hide (toList_data s);clear q
 go_in
 go_wp2
 go_loop [4,5] (fun _ i=>∃ k:U7,k<=7/\i=.int .i64 k/\∀ j,j<k->(s.data.toList==eK j)=Ve) (fun _ i=>7-(intOf i).toNat)
 case atStart=>exact⟨0,by omega,rfl,fun j t=>Vb t UT⟩
 case round =>
  obtain⟨k,G,rfl,r⟩:=hrel;have h:=hide r;clear r;rcases (show k=0\/k=1\/k=2\/k=3\/k=4\/k=5\/k=6\/k=7 by omega) with rfl|rfl|rfl|rfl|rfl|rfl|rfl|rfl
  ·cases g:([109,111]==s.toList)
   ·have f:Hid ((s.data.toList==eK 0)=Ve):=by
     show (s.data.toList==eK 0)=Ve;rw[<- aJ p,Y0];exact g
    go_wp2
    go_round
    case rel=>exact⟨1,by omega,by go_num,lV (aJ h) f.out⟩
    case measure=>simp[intOf]
   ·have f:Hid (aB.dC s.data.toList=0):=lT (k:=0) UT (by rw[<- aJ p,Y0];exact g) (aJ h);go_wp2;go_ret2;exact⟨eE (by rw[mM,f.out];rfl) (by rw[mh,f.out];rfl),rfl⟩
  ·cases g:([116,117]==s.toList)
   ·have f:Hid ((s.data.toList==eK 1)=Ve):=by
     show (s.data.toList==eK 1)=Ve;rw[<- aJ p,Y0];exact g
    go_wp2
    go_round
    case rel=>exact⟨2,by omega,by go_num,lV (aJ h) f.out⟩
    case measure=>simp[intOf]
   ·have f:Hid (aB.dC s.data.toList=1):=lT (k:=1) UT (by rw[<- aJ p,Y0];exact g) (aJ h);go_wp2;go_ret2;exact⟨eE (by rw[mM,f.out];rfl) (by rw[mh,f.out];rfl),rfl⟩
  ·cases g:([119,101]==s.toList)
   ·have f:Hid ((s.data.toList==eK 2)=Ve):=by
     show (s.data.toList==eK 2)=Ve;rw[<- aJ p,Y0];exact g
    go_wp2
    go_round
    case rel=>exact⟨3,by omega,by go_num,lV (aJ h) f.out⟩
    case measure=>simp[intOf]
   ·have f:Hid (aB.dC s.data.toList=2):=lT (k:=2) UT (by rw[<- aJ p,Y0];exact g) (aJ h);go_wp2;go_ret2;exact⟨eE (by rw[mM,f.out];rfl) (by rw[mh,f.out];rfl),rfl⟩
  ·cases g:([116,104]==s.toList)
   ·have f:Hid ((s.data.toList==eK 3)=Ve):=by
     show (s.data.toList==eK 3)=Ve;rw[<- aJ p,Y0];exact g
    go_wp2
    go_round
    case rel=>exact⟨4,by omega,by go_num,lV (aJ h) f.out⟩
    case measure=>simp[intOf]
   ·have f:Hid (aB.dC s.data.toList=3):=lT (k:=3) UT (by rw[<- aJ p,Y0];exact g) (aJ h);go_wp2;go_ret2;exact⟨eE (by rw[mM,f.out];rfl) (by rw[mh,f.out];rfl),rfl⟩
  ·cases g:([102,114]==s.toList)
   ·have f:Hid ((s.data.toList==eK 4)=Ve):=by
     show (s.data.toList==eK 4)=Ve;rw[<- aJ p,Y0];exact g
    go_wp2
    go_round
    case rel=>exact⟨5,by omega,by go_num,lV (aJ h) f.out⟩
    case measure=>simp[intOf]
   ·have f:Hid (aB.dC s.data.toList=4):=lT (k:=4) UT (by rw[<- aJ p,Y0];exact g) (aJ h);go_wp2;go_ret2;exact⟨eE (by rw[mM,f.out];rfl) (by rw[mh,f.out];rfl),rfl⟩
  ·cases g:([115,97]==s.toList)
   ·have f:Hid ((s.data.toList==eK 5)=Ve):=by
     show (s.data.toList==eK 5)=Ve;rw[<- aJ p,Y0];exact g
    go_wp2
    go_round
    case rel=>exact⟨6,by omega,by go_num,lV (aJ h) f.out⟩
    case measure=>simp[intOf]
   ·have f:Hid (aB.dC s.data.toList=5):=lT (k:=5) UT (by rw[<- aJ p,Y0];exact g) (aJ h);go_wp2;go_ret2;exact⟨eE (by rw[mM,f.out];rfl) (by rw[mh,f.out];rfl),rfl⟩
  ·cases g:([115,117]==s.toList)
   ·have f:Hid ((s.data.toList==eK 6)=Ve):=by
     show (s.data.toList==eK 6)=Ve;rw[<- aJ p,Y0];exact g
    go_wp2
    go_round
    case rel=>exact⟨7,by omega,by go_num,lV (aJ h) f.out⟩
    case measure=>simp[intOf]
   ·have f:Hid (aB.dC s.data.toList=6):=lT (k:=6) UT (by rw[<- aJ p,Y0];exact g) (aJ h);go_wp2;go_ret2;exact⟨eE (by rw[mM,f.out];rfl) (by rw[mh,f.out];rfl),rfl⟩
  ·have f:Hid (aB.dC s.data.toList=-1):=Fo (aJ h);go_wp2;go_ret2;exact⟨eE (by rw[mM,f.out];rfl) (by rw[mh,f.out];rfl),rfl⟩
theorem Nf(s:U3)(w:Vg):
  Vj prog 190 #[.string s] w fun e w'=>e=.returned (.int .i64 (aB.dC s.data.toList))/\Vi w.heap.size w w':=by
 have p:=hide (toList_data s);have q:Hid (∀ o,Vi w.heap.size w (w.alloc o)):=fun o=>(zr _ _).alloc (zq _) o
 go_in
 go_wp2
 go_loop [4] (fun i=>∃ k:U7,k<=7/\i=.int .i64 k/\∀ j,j<k->(s.data.toList==eK j)=Ve) (fun i=>7-(intOf i).toNat)
 case atStart=>exact⟨0,by omega,rfl,fun j t=>Vb t UT⟩
 case round =>
  obtain⟨k,u,rfl,r⟩:=hrel;have h:=hide r;clear r;rcases (show k=0\/k=1\/k=2\/k=3\/k=4\/k=5\/k=6\/k=7 by omega) with rfl|rfl|rfl|rfl|rfl|rfl|rfl|rfl
  ·cases g:(s.toList==[109,111])
   ·have f:Hid ((s.data.toList==eK 0)=Ve):=by
     show (s.data.toList==eK 0)=Ve;rw[<- aJ p];exact g
    go_wp2
    go_round
    case rel=>exact⟨1,by omega,by go_num,lV (aJ h) f.out⟩
    case measure=>simp[intOf]
   ·have f:Hid (aB.dC s.data.toList=0):=lT (k:=0) UT (by rw[<- aJ p];exact g) (aJ h);go_wp2;go_ret;exact⟨fK (by rw[f.out]),q.out _⟩
  ·cases g:(s.toList==[116,117])
   ·have f:Hid ((s.data.toList==eK 1)=Ve):=by
     show (s.data.toList==eK 1)=Ve;rw[<- aJ p];exact g
    go_wp2
    go_round
    case rel=>exact⟨2,by omega,by go_num,lV (aJ h) f.out⟩
    case measure=>simp[intOf]
   ·have f:Hid (aB.dC s.data.toList=1):=lT (k:=1) UT (by rw[<- aJ p];exact g) (aJ h);go_wp2;go_ret;exact⟨fK (by rw[f.out]),q.out _⟩
  ·cases g:(s.toList==[119,101])
   ·have f:Hid ((s.data.toList==eK 2)=Ve):=by
     show (s.data.toList==eK 2)=Ve;rw[<- aJ p];exact g
    go_wp2
    go_round
    case rel=>exact⟨3,by omega,by go_num,lV (aJ h) f.out⟩
    case measure=>simp[intOf]
   ·have f:Hid (aB.dC s.data.toList=2):=lT (k:=2) UT (by rw[<- aJ p];exact g) (aJ h);go_wp2;go_ret;exact⟨fK (by rw[f.out]),q.out _⟩
  ·cases g:(s.toList==[116,104])
   ·have f:Hid ((s.data.toList==eK 3)=Ve):=by
     show (s.data.toList==eK 3)=Ve;rw[<- aJ p];exact g
    go_wp2
    go_round
    case rel=>exact⟨4,by omega,by go_num,lV (aJ h) f.out⟩
    case measure=>simp[intOf]
   ·have f:Hid (aB.dC s.data.toList=3):=lT (k:=3) UT (by rw[<- aJ p];exact g) (aJ h);go_wp2;go_ret;exact⟨fK (by rw[f.out]),q.out _⟩
  ·cases g:(s.toList==[102,114])
   ·have f:Hid ((s.data.toList==eK 4)=Ve):=by
     show (s.data.toList==eK 4)=Ve;rw[<- aJ p];exact g
    go_wp2
    go_round
    case rel=>exact⟨5,by omega,by go_num,lV (aJ h) f.out⟩
    case measure=>simp[intOf]
   ·have f:Hid (aB.dC s.data.toList=4):=lT (k:=4) UT (by rw[<- aJ p];exact g) (aJ h);go_wp2;go_ret;exact⟨fK (by rw[f.out]),q.out _⟩
  ·cases g:(s.toList==[115,97])
   ·have f:Hid ((s.data.toList==eK 5)=Ve):=by
     show (s.data.toList==eK 5)=Ve;rw[<- aJ p];exact g
    go_wp2
    go_round
    case rel=>exact⟨6,by omega,by go_num,lV (aJ h) f.out⟩
    case measure=>simp[intOf]
   ·have f:Hid (aB.dC s.data.toList=5):=lT (k:=5) UT (by rw[<- aJ p];exact g) (aJ h);go_wp2;go_ret;exact⟨fK (by rw[f.out]),q.out _⟩
  ·cases g:(s.toList==[115,117])
   ·have f:Hid ((s.data.toList==eK 6)=Ve):=by
     show (s.data.toList==eK 6)=Ve;rw[<- aJ p];exact g
    go_wp2
    go_round
    case rel=>exact⟨7,by omega,by go_num,lV (aJ h) f.out⟩
    case measure=>simp[intOf]
   ·have f:Hid (aB.dC s.data.toList=6):=lT (k:=6) UT (by rw[<- aJ p];exact g) (aJ h);go_wp2;go_ret;exact⟨fK (by rw[f.out]),q.out _⟩
  ·have f:Hid (aB.dC s.data.toList=-1):=Fo (aJ h);go_wp2;go_ret;exact⟨fK (by rw[f.out]),q.out _⟩
structure DS(w:Vg)(b:U7)(acc:U4 U8):Prop where
 c0:w.cell? ⟨b,0,Vc⟩=Vd (.bool (aI acc 0))
 c1:w.cell? ⟨b,1,Vc⟩=Vd (.bool (aI acc 1))
 c2:w.cell? ⟨b,2,Vc⟩=Vd (.bool (aI acc 2))
 c3:w.cell? ⟨b,3,Vc⟩=Vd (.bool (aI acc 3))
 c4:w.cell? ⟨b,4,Vc⟩=Vd (.bool (aI acc 4))
 c5:w.cell? ⟨b,5,Vc⟩=Vd (.bool (aI acc 5))
 c6:w.cell? ⟨b,6,Vc⟩=Vd (.bool (aI acc 6))
 f:∀ j:U7,w.frozen? ⟨b,j,Vc⟩=Ve
theorem DS.later(h:DS w b acc)(g:Vi w.heap.size w wx):DS wx b acc :=
 ⟨cell_later g h.c0,cell_later g h.c1,cell_later g h.c2,cell_later g h.c3,cell_later g h.c4,cell_later g h.c5,cell_later g h.c6,fun j=>(g.frozen (p:=⟨b,j,Vc⟩) (show b<w.heap.size from Vq _ ⟨b,0,Vc⟩ h.c0)).trans (h.f j)⟩
theorem DS.at(h:DS w b acc)(d:U8)(g:0<=d)(f:d<7):w.cell? ⟨b,d.toNat,Vc⟩=Vd (.bool (aI acc d)):=by
 rcases (show d=0\/d=1\/d=2\/d=3\/d=4\/d=5\/d=6 by omega) with rfl|rfl|rfl|rfl|rfl|rfl|rfl
 ·exact h.c0
 ·exact h.c1
 ·exact h.c2
 ·exact h.c3
 ·exact h.c4
 ·exact h.c5
 ·exact h.c6
theorem sB(d:U8)(i:0<=d){u:Vh}(f:w.cell? ⟨b,k,Vc⟩=Vd (.bool (aI acc k)))(_hu:u=.bool Vf):(w.setCell ⟨b,d.toNat,Vc⟩ (.bool Vf)).cell? ⟨b,k,Vc⟩=Vd (.bool (aI (d :: acc) k)):=by
 by_cases e:d.toNat=k
 ·have h:d=(k:U8):=UT
  rw[e,VE _ _ _ f];simp[aI,h]
 ·rw[World.cell?_setCell_other _ _ _ _ UU,f];have g:(k:U8)≠d:=UT
  simp[aI,g]
theorem DS.set(h:DS w b acc)(d:U8)(g:0<=d):DS (w.setCell ⟨b,d.toNat,Vc⟩ (.bool Vf)) b (d :: acc) :=
 ⟨sB (k:=0) d g h.c0 rfl,sB (k:=1) d g h.c1 rfl,sB (k:=2) d g h.c2 rfl,sB (k:=3) d g h.c3 rfl,sB (k:=4) d g h.c4 rfl,sB (k:=5) d g h.c5 rfl,sB (k:=6) d g h.c6 rfl,fun j=>(zF ..).trans (h.f j)⟩
theorem AM{i:U7}(h:DS w b acc)(_hne:i≠b):DS (w.setCell ⟨i,o,Vc⟩ v) b acc:=by
 have g:∀ j:U7,(w.setCell ⟨i,o,Vc⟩ v).cell? ⟨b,j,Vc⟩=w.cell? ⟨b,j,Vc⟩:=fun j=>zS _ _ _ _ UU
 exact⟨(g 0).trans h.c0,(g 1).trans h.c1,(g 2).trans h.c2,(g 3).trans h.c3,(g 4).trans h.c4,(g 5).trans h.c5,(g 6).trans h.c6,fun j=>(zF ..).trans (h.f j)⟩
def e9(acc:U4 U8):Vh:=.agg #[.bool (aI acc 0),.bool (aI acc 1),.bool (aI acc 2),.bool (aI acc 3),.bool (aI acc 4),.bool (aI acc 5),.bool (aI acc 6)]
def rI(s:U3)(k:U7)(acc:U4 U8):Prop :=
 (3*k<s.size/\aB.im s=aB.iy (s.data.toList.drop (3*k)) acc)\/(3*k=s.size+1/\aB.im s=Vd acc)
theorem EW(s:U3)(k:U7)(h:s.size % 3=2)(q:3*k<s.size):
  (3*k+2=s.size/\s.data.toList.drop (3*k)=aB.part s (3*k) (3*k+2)/\(aB.part s (3*k) (3*k+2)).length=2) \/
  (3*k+3<s.size/\∃ a b c,s.data.toList.drop (3*k)=a :: b :: c :: s.data.toList.drop (3*(k+1))/\aB.part s (3*k) (3*k+2)=[a,b]/\(c.toNat:U8)=aB.dP s (3*k+2)):=by
 have p:=aB.fL s
 have f:aB.part s (3*k) (3*k+2)=(s.data.toList.drop (3*k)).take 2:=by
  unfold aB.part;rw[aB.oH,List.drop_take];congr 1;omega
 by_cases j:3*k+2=s.size
 ·left;have e:(s.data.toList.drop (3*k)).length=2:=by rw[List.length_drop];omega
  refine⟨j,?_,?_⟩
  ·rw[f,List.take_of_length_le UT]
  ·rw[f,Yo];omega
 ·right;have g:3*k+3<s.size:=UT
  refine⟨g,s.data.toList[3*k]'UT,s.data.toList[3*k+1]'UT,s.data.toList[3*k+2]'UT,?_,?_,?_⟩
  ·rw[WN UT,WN (i:=3*k+1) UT,WN (i:=3*k+1+1) UT,show 3*k+1+1+1=3*(k+1) from by omega]
  ·rw[f,WN UT,WN (i:=3*k+1) UT];rfl
  ·unfold aB.dP;rw[List.getD_eq_getElem?_getD,List.getElem?_eq_getElem UT];rfl
theorem MN(s:U3)(h:s.size % 3=2):rI s 0 []:=.inl ⟨by omega,rfl⟩
theorem LO(h:rI s k acc)(u:s.size % 3=2)(t:3*k<s.size)(f:aB.dC (aB.part s (3*k) (3*k+2))<0\/aI acc (aB.dC (aB.part s (3*k) (3*k+2)))=Vf\/(3*k+2<s.size/\aB.dP s (3*k+2)≠44)):aB.im s=Vc:=by
 rcases h with ⟨_,h⟩|⟨h,_⟩
 ·rw[h]
  have g:aB.dC (aB.part s (3*k) (3*k+2))<0\/aI acc (aB.dC (aB.part s (3*k) (3*k+2)))=Vf->aB.jL acc (aB.dC (aB.part s (3*k) (3*k+2)))=Vc:=fun q=>by
   unfold aB.jL;rw[U9];rintro ⟨D,r⟩;rcases q with q|q
   ·omega
   ·unfold aI at q;rw[q] at r;cases r
  rcases EW s k u t with ⟨C,p,i⟩|⟨C,a,b,c,p,i,z⟩
  ·rw[p];rcases f with f|f|f
   all_goals first|omega|skip
   all_goals
    obtain⟨x,y,j⟩:∃ x y,aB.part s (3*k) (3*k+2)=[x,y]:=by
     match hm:aB.part s (3*k) (3*k+2),i with
     |[x,y],_=>exact⟨x,y,rfl⟩
    have:=g (by first|exact .inl f|exact .inr f);rw[j] at this ⊢;exact this
  ·rw[p,aB.iy]
   split
   ·rename_i hc
    rcases f with f|f|f
    ·have:=g (.inl f);rw[i] at this;rw[this];rfl
    ·have:=g (.inr f);rw[i] at this;rw[this];rfl
    ·subst hc;exfalso;apply f.2;rw[<- z];rfl
   ·rfl
 ·omega
theorem Mg(h:rI s k acc)(t:s.size % 3=2)(q:3*k<s.size)(u:0<=aB.dC (aB.part s (3*k) (3*k+2)))(j:aI acc (aB.dC (aB.part s (3*k) (3*k+2)))=Ve)(p:3*k+2<s.size->aB.dP s (3*k+2)=44):rI s (k+1) (aB.dC (aB.part s (3*k) (3*k+2)) :: acc):=by
 have st:aB.jL acc (aB.dC (aB.part s (3*k) (3*k+2)))=Vd (aB.dC (aB.part s (3*k) (3*k+2)) :: acc):=by
  unfold aB.jL;rw[Va ⟨u,j⟩]
 rcases h with ⟨_,h⟩|⟨h,_⟩
 ·rcases EW s k t q with ⟨C,i,g⟩|⟨C,a,b,c,i,g,z⟩
  ·right;refine⟨by omega,?_⟩;rw[h,i]
   obtain⟨x,y,f⟩:∃ x y,aB.part s (3*k) (3*k+2)=[x,y]:=by
    match j:aB.part s (3*k) (3*k+2),g with
    |[x,y],_=>exact⟨x,y,rfl⟩
   rw[f] at st ⊢;exact st
  ·left;refine⟨by omega,?_⟩
   have r:c=44:=by
    have:=p UT;rw[<- z] at this;exact UInt8.toNat_inj.1 (by simpa using (by omega:(c.toNat)=44))
   rw[h,i,aB.iy,Va r,<- g,st];rfl
 ·omega
theorem zv(s:U3)(w:Vg)(hm:s.size<=160):
  Vj prog 129 #[.string s] w fun e w'=>(∃ acc,e=.returned (.tuple #[e9 acc,.bool (aB.dU s)])/\(aB.dU s=Vf->aB.im s=Vd acc))/\Vi w.heap.size w w':=by
 by_cases h3:s.size % 3=2
 ·have aa:(((s.size:U8) % 3) != 2)=Ve:=nR UT
  go_in
  go_wp2;obtain⟨W,J⟩:∃ W,W=(w.alloc (.cells #[.bool Ve,.bool Ve,.bool Ve,.bool Ve,.bool Ve,.bool Ve,.bool Ve] 159)).alloc (.cells #[.bool Ve,.bool Ve,.bool Ve,.bool Ve,.bool Ve,.bool Ve,.bool Ve] 159):=⟨_,rfl⟩;rw[<- J];have hB:Vi w.heap.size w W:=by rw[J];exact ((zr _ _).alloc (zq _) _).alloc UU _
  have hZ:w.heap.size+2=W.heap.size:=by rw[J];simp
  have dR:DS W w.heap.size []:=by
   rw[J];refine⟨?_,?_,?_,?_,?_,?_,?_,fun j=>?_⟩ <;> simp[aI]
  have dD:DS W (w.heap.size+1) []:=by
   rw[J];refine⟨?_,?_,?_,?_,?_,?_,?_,fun j=>?_⟩ <;> simp[aI]
  clear J
  go_loopw [5,6] (fun i _ wx=>∃ (k:U7) (acc:U4 U8),3*k<=s.size+1/\i=.int .i64 ((3*k:U7):U8)/\rI s k acc/\DS wx (w.heap.size+1) acc/\DS wx w.heap.size []/\Vi w.heap.size w wx/\w.heap.size+2<=wx.heap.size) (fun i _ _=>s.size+3-(intOf i).toNat)
  case atStart=>exact⟨0,[],by omega,rfl,MN s h3,dD,dR,hB,by omega⟩
  case round =>
   obtain⟨k,acc,hk,rfl,G,H,E,F,S⟩:=hrel
   by_cases U:3*k<s.size
   ·have hd:=aB.xp (aB.part s (3*k) (3*k+2));have Z:=hide G;clear G
    go_wp2_with fail
    refine (Nf _ _).mono ?_;rintro e w1 ⟨rfl,C⟩;rw[show (s.extract (3*k) (3*k+2)).data.toList=aB.part s (3*k) (3*k+2) from rfl];have D:Vi w.heap.size w w1:=F.trans (C.mono F.size);have ab:w.heap.size+2<=w1.heap.size:=Vp S C.size;have g:=H.later C;have p:=E.later C;have q0:=g.c0;have q1:=g.c1;have q2:=g.c2;have q3:=g.c3;have q4:=g.c4;have q5:=g.c5;have q6:=g.c6;have Q:=p.c0;have P:=p.c1;have O:=p.c2;have N:=p.c3;have M:=p.c4;have L:=p.c5;have K:=p.c6;have fR:=p.f;have fD:=g.f;obtain⟨d,V⟩:∃ d,d=aB.dC (aB.part s (3*k) (3*k+2)):=⟨_,rfl⟩;have u:=hide (fun q=>LO (aJ Z) h3 U q);have t:=hide (fun q1 q2 q3=>Mg (aJ Z) h3 U q1 q2 q3);rw[<- V] at hd u t ⊢;clear V H E F S C hB hZ dR dD
    by_cases T:d<0
    ·have x:Hid (aB.dU s=Ve):=by show aB.dU s=Ve;unfold aB.dU;rw[aJ u (.inl T)];rfl
     go_wp2;refine bodyPost_ret (v:=.tuple #[e9 acc,.bool Ve]) (by simp[results,results129,go_sem,e9,Q,P,O,N,M,L,K]) rfl ⟨⟨acc,?_,?_⟩,?_⟩
     ·rw[x.out]
     ·intro h;rw[x.out] at h;cases h
     ·exact (((((((D.setCell (zq _) _).setCell (zq _) _).setCell (zq _) _).setCell (zq _) _).setCell (zq _) _).setCell (zq _) _).setCell (zq _) _)
    ·have hc:=g.at d UT UT
     cases z:aI acc d
     ·rw[z] at hc
      by_cases Y:3*k+2<s.size
      ·cases I:(((s[3*k+2]'Y).toNat:U8) != 44)
       ·have HX:Hid (rI s (k+1) (d :: acc)):=aJ t UT z (fun _=>by
         rw[aB.ja s _ Y];simpa using I)
        go_wp2;refine⟨⟨k+1,d :: acc,by omega,by go_num,HX.out,?_,?_,?_,?_⟩,by simp[intOf];omega⟩
        ·exact g.set d UT
        ·exact AM p UT
        ·exact D.setCell UU _
        ·simp;omega
       ·have x:Hid (aB.dU s=Ve):=by
         show aB.dU s=Ve;unfold aB.dU;rw[aJ u (.inr (.inr ⟨Y,by rw[aB.ja s _ Y];simpa using I⟩))];rfl
        go_wp2;refine bodyPost_ret (v:=.tuple #[e9 acc,.bool Ve]) (by simp[results,results129,go_sem,e9,Q,P,O,N,M,L,K]) rfl ⟨⟨acc,?_,?_⟩,?_⟩
        ·rw[x.out]
        ·intro h;rw[x.out] at h;cases h
        ·exact (((((((D.setCell (zq _) _).setCell (zq _) _).setCell (zq _) _).setCell (zq _) _).setCell (zq _) _).setCell (zq _) _).setCell (zq _) _)
      ·have HX:Hid (rI s (k+1) (d :: acc)):=aJ t UT z (fun h=>Vb h Y);go_wp2;refine⟨⟨k+1,d :: acc,by omega,by go_num,HX.out,?_,?_,?_,?_⟩,by simp[intOf];omega⟩
       ·exact g.set d UT
       ·exact AM p UT
       ·exact D.setCell UU _
       ·simp;omega
     ·rw[z] at hc;have x:Hid (aB.dU s=Ve):=by show aB.dU s=Ve;unfold aB.dU;rw[aJ u (.inr (.inl z))];rfl
      go_wp2;refine bodyPost_ret (v:=.tuple #[e9 acc,.bool Ve]) (by simp[results,results129,go_sem,e9,Q,P,O,N,M,L,K]) rfl ⟨⟨acc,?_,?_⟩,?_⟩
      ·rw[x.out]
      ·intro h;rw[x.out] at h;cases h
      ·exact (((((((D.setCell (zq _) _).setCell (zq _) _).setCell (zq _) _).setCell (zq _) _).setCell (zq _) _).setCell (zq _) _).setCell (zq _) _)
   ·have HF:Hid (aB.im s=Vd acc):=by
     rcases G with ⟨h,_⟩|⟨_,h⟩
     ·omega
     ·exact h
    have x:Hid (aB.dU s=Vf):=by show aB.dU s=Vf;unfold aB.dU;rw[HF.out];rfl
    clear G;have q0:=H.c0;have q1:=H.c1;have q2:=H.c2;have q3:=H.c3;have q4:=H.c4;have q5:=H.c5;have q6:=H.c6;have Q:=E.c0;have P:=E.c1;have O:=E.c2;have N:=E.c3;have M:=E.c4;have L:=E.c5;have K:=E.c6;have fR:=E.f;go_wp2;refine bodyPost_ret (v:=.tuple #[e9 acc,.bool Vf]) (by simp[results,results129,go_sem,e9,Q,P,O,N,M,L,K]) rfl ⟨⟨acc,?_,?_⟩,?_⟩
    ·rw[x.out]
    ·intro _;exact HF.out
    ·exact (((((((F.setCell (zq _) _).setCell (zq _) _).setCell (zq _) _).setCell (zq _) _).setCell (zq _) _).setCell (zq _) _).setCell (zq _) _)
 ·have aa:(((s.size:U8) % 3) != 2)=Vf:=nS UT
  have x:Hid (aB.dU s=Ve):=by
   show aB.dU s=Ve;unfold aB.dU
   cases ho:aB.im s with
   |none=>rfl
   |some r=>have:=aB.Dz _ _ _ ho;rw[aB.fL] at this;omega
  clear h3
  go_in
  go_wp2;refine bodyPost_ret (v:=.tuple #[e9 [],.bool Ve]) (by simp[results,results129,go_sem,e9,aI]) rfl ⟨⟨[],?_,?_⟩,?_⟩
  ·rw[x.out]
  ·intro h;rw[x.out] at h;cases h
  ·exact ((zr _ _).alloc (zq _) _).alloc UU _
def eT(s:U3):U4 U3:=Lib.splitB ⟨#[44]⟩ 0 (Y4 s ⟨#[44]⟩) s
theorem Gc(s:U3):(eT s).length=Y4 s ⟨#[44]⟩+1:=Lib.splitB_all ⟨#[44]⟩ UV 0 _ s rfl
theorem Og(s:U3):aB.nw ((eT s).map (·.data.toList)) []=aB.im s:=aB.Rs s
theorem S6(s:U3)(h:s.size<=160):(eT s).length<=161:=by
 rw[Gc];have:=Lib.countB_le ⟨#[44]⟩ UV s.size s (zq _);omega
theorem Ss(w:Vg)(l:U4 U3)(t:TypeId)(j:U7)(x:U3)(h:l[j]?=Vd x):(w.alloc (.cells (l.map YZ).toArray t)).cell? ⟨w.heap.size,j,Vc⟩=Vd (.string x):=by
 rw[World.cell?_alloc_at _ _ _ _ rfl];simp[h]
def qJ(s:U3)(k:U7)(acc:U4 U8):Prop:=aB.im s=aB.nw (((eT s).map (·.data.toList)).drop k) acc
theorem IQ(h:qJ s k acc)(f:k<(eT s).length):aB.im s=(aB.jL acc (aB.dC (eT s)[k].data.toList)).bind (aB.nw (((eT s).map (·.data.toList)).drop (k+1))):=by
 rw[h,WN (by simpa using f)];simp[aB.nw]
theorem Rn(h:qJ s k acc)(i:k<(eT s).length)(j:aB.dC (eT s)[k].data.toList<0\/aI acc (aB.dC (eT s)[k].data.toList)=Vf):aB.dU s=Ve:=by
 have e:=IQ h i
 have f:aB.jL acc (aB.dC (eT s)[k].data.toList)=Vc:=by
  unfold aB.jL;rw[U9];rintro ⟨p,g⟩;rcases j with q|q
  ·omega
  ·unfold aI at q;rw[q] at g;cases g
 rw[f] at e;unfold aB.dU;rw[e];rfl
theorem RZ(h:qJ s k acc)(g:k<(eT s).length)(i:0<=aB.dC (eT s)[k].data.toList)(f:aI acc (aB.dC (eT s)[k].data.toList)=Ve):qJ s (k+1) (aB.dC (eT s)[k].data.toList :: acc):=by
 have e:=IQ h g
 have st:aB.jL acc (aB.dC (eT s)[k].data.toList)=Vd (aB.dC (eT s)[k].data.toList :: acc):=by
  unfold aB.jL;rw[Va ⟨i,f⟩]
 rw[st] at e;exact e
theorem Ro(h:qJ s k acc)(f:(eT s).length<=k):aB.im s=Vd acc:=by
 unfold qJ at h;rw[List.drop_of_length_le (by simpa using f)] at h;exact h
theorem Iv(s:U3)(w:Vg)(he:Env w)(hm:s.size<=160):
  Vj prog 194 #[.string s] w fun e w'=>(∃ acc,e=.returned (.tuple #[e9 acc,.bool (aB.dU s)])/\(aB.dU s=Vf->aB.im s=Vd acc))/\Vi w.heap.size w w':=by
 obtain⟨mx,M⟩:=he.tC;have HE:=hide he;have hz:=he.size;clear he;have ai:=S6 s hm
 go_in
 go_wp2_with fail
 obtain⟨W,J⟩:∃ W,W=(w.alloc (.cells #[.bool Ve,.bool Ve,.bool Ve,.bool Ve,.bool Ve,.bool Ve,.bool Ve] 160)).alloc (.cells #[.bool Ve,.bool Ve,.bool Ve,.bool Ve,.bool Ve,.bool Ve,.bool Ve] 160):=⟨_,rfl⟩;rw[<- J];have hB:Vi w.heap.size w W:=by rw[J];exact ((zr _ _).alloc (zq _) _).alloc UU _
 have hZ:w.heap.size+2=W.heap.size:=by rw[J];simp
 have dR:DS W w.heap.size []:=by
  rw[J];refine⟨?_,?_,?_,?_,?_,?_,?_,fun j=>?_⟩ <;> simp[aI]
 have dD:DS W (w.heap.size+1) []:=by
  rw[J];refine⟨?_,?_,?_,?_,?_,?_,?_,fun j=>?_⟩ <;> simp[aI]
 have N:=cell_later hB M;clear J;refine (strings_Split s ⟨#[44]⟩ mx W UT N UV).mono ?_;rintro e w1 ⟨rfl,C⟩;have hP:∀ j x,(eT s)[j]?=Vd x->w1.cell? ⟨W.heap.size,j,Vc⟩=Vd (.string x):=fun j x hx=>by rw[C];exact Ss W (eT s) _ j x hx
 have F:Vi W.heap.size W w1:=by rw[C];exact (zr _ _).alloc (zq _) _
 have aj:W.heap.size<w1.heap.size:=by rw[C];simp
 clear C;rw[show Y4 s ⟨#[44]⟩+1=(eT s).length from (Gc s).symm];have HP:=hide hP;have af:=hide (((aJ HE).later hB).later F);have ac:=dR.later F;have ad:=dD.later F;have aa:Vi w.heap.size w w1:=hB.trans (F.mono UT);clear hP dR dD hB N M af;go_wp2
 go_loopw [6,7,8,12] (fun _ _ _ i wx=>∃ (k:U7) (acc:U4 U8),k<=(eT s).length/\i=.int .i64 k/\qJ s k acc/\DS wx (w.heap.size+1) acc/\DS wx w.heap.size []/\Vi w.heap.size w wx/\w1.heap.size<=wx.heap.size/\(∀ j x,(eT s)[j]?=Vd x->wx.cell? ⟨W.heap.size,j,Vc⟩=Vd (.string x))) (fun _ _ _ i _=>(eT s).length-(intOf i).toNat)
 case atStart=>exact⟨0,[],Wg _,rfl,(Og s).symm,ad,ac,aa,Vm _,aJ HP⟩
 case round =>
  obtain⟨k,acc,hk,rfl,t,p,g,r,ag,K⟩:=hrel;have P:=hide K;clear K;have ab:=hide ((aJ HE).later r)
  by_cases G:k<(eT s).length
  ·have hc:=aJ P k (eT s)[k] (by simp[G]);have hi:(k:U8)<((eT s).length:U8):=UT
   have q0:=p.c0;have q1:=p.c1;have q2:=p.c2;have q3:=p.c3;have q4:=p.c4;have q5:=p.c5;have q6:=p.c6;have Z:=g.c0;have Y:=g.c1;have V:=g.c2;have U:=g.c3;have T:=g.c4;have S:=g.c5;have Q:=g.c6;have fR:=g.f;have fD:=p.f;have hd:=aB.xp (eT s)[k].data.toList;have z:=hide (fun q=>Rn t G q);have u:=hide (fun q1 q2=>RZ t G q1 q2);clear t
   go_wp2_with fail
   refine (UB _ _ (aJ ab)).mono ?_;rintro e w2 ⟨rfl,rfl⟩;obtain⟨d,E⟩:∃ d,d=aB.dC (eT s)[k].data.toList:=⟨_,rfl⟩;have HV:Hid (mM (eT s)[k]=if 0<=d then d else 0):=by show mM (eT s)[k]=_;rw[E];rfl
   have HW:Hid (mh (eT s)[k]=decide (0<=d)):=by show mh (eT s)[k]=_;rw[E];rfl
   rw[<- E] at hd z u;clear E
   by_cases L:d<0
   ·have I:Hid (aB.dU s=Ve):=aJ z (.inl L);have H:Hid (mh (eT s)[k]=Ve):=HW.out.trans (decide_eq_false UT);rw[H.out];go_wp2;refine bodyPost_ret (v:=.tuple #[e9 [],.bool Ve]) (by simp[results,results194,go_sem,e9,aI,Z,Y,V,U,T,S,Q]) rfl ⟨⟨[],?_,?_⟩,?_⟩
    ·rw[I.out]
    ·intro h;rw[I.out] at h;cases h
    ·exact (((((((r.setCell (zq _) _).setCell (zq _) _).setCell (zq _) _).setCell (zq _) _).setCell (zq _) _).setCell (zq _) _).setCell (zq _) _)
   ·have ae:Hid (mM (eT s)[k]=d):=HV.out.trans (Va UT);have H:Hid (mh (eT s)[k]=Vf):=HW.out.trans (decide_eq_true UT);rw[ae.out,H.out];have O:=p.at d UT UT
    cases D:aI acc d
    ·rw[D] at O;have HX:Hid (qJ s (k+1) (d :: acc)):=aJ u UT D;go_wp2;refine⟨⟨k+1,d :: acc,by omega,by go_num,HX.out,?_,?_,?_,?_,?_⟩,by simp[intOf];omega⟩
     ·exact p.set d UT
     ·exact AM g UT
     ·exact r.setCell UU _
     ·simp;omega
     ·intro j x hx;exact (zS _ _ _ _ UU).trans (aJ P j x hx)
    ·rw[D] at O;have I:Hid (aB.dU s=Ve):=aJ z (.inr D);go_wp2;refine bodyPost_ret (v:=.tuple #[e9 [],.bool Ve]) (by simp[results,results194,go_sem,e9,aI,Z,Y,V,U,T,S,Q]) rfl ⟨⟨[],?_,?_⟩,?_⟩
     ·rw[I.out]
     ·intro h;rw[I.out] at h;cases h
     ·exact (((((((r.setCell (zq _) _).setCell (zq _) _).setCell (zq _) _).setCell (zq _) _).setCell (zq _) _).setCell (zq _) _).setCell (zq _) _)
  ·have HF:Hid (aB.im s=Vd acc):=Ro t UT;have I:Hid (aB.dU s=Vf):=by show aB.dU s=Vf;unfold aB.dU;rw[HF.out];rfl
   clear t;have q0:=p.c0;have q1:=p.c1;have q2:=p.c2;have q3:=p.c3;have q4:=p.c4;have q5:=p.c5;have q6:=p.c6;have Z:=g.c0;have Y:=g.c1;have V:=g.c2;have U:=g.c3;have T:=g.c4;have S:=g.c5;have Q:=g.c6;have fR:=g.f;go_wp2;refine bodyPost_ret (v:=.tuple #[e9 acc,.bool Vf]) (by simp[results,results194,go_sem,e9,Z,Y,V,U,T,S,Q]) rfl ⟨⟨acc,?_,?_⟩,?_⟩
   ·rw[I.out]
   ·intro _;exact HF.out
   ·exact (((((((r.setCell (zq _) _).setCell (zq _) _).setCell (zq _) _).setCell (zq _) _).setCell (zq _) _).setCell (zq _) _).setCell (zq _) _)
theorem Env.kept(h:Env w)(k:Kept R w w')(u:10<=R):Env w':=by
 have r:Vi 10 w w':=k.below u h.size;have f:∀ (b o:U7) (v:Vh),b<10->w.cell? ⟨b,o,Vc⟩=Vd v->w'.cell? ⟨b,o,Vc⟩=Vd v:=fun b o v i e=>(r.cell (p:=⟨b,o,Vc⟩) i).trans e
 obtain⟨m,t⟩:=h.tC;obtain⟨J,I,H,G,F,E,D,C,z,x,q,j⟩:=h.iK;refine⟨⟨f _ _ _ UT J,f _ _ _ UT I,f _ _ _ UT H,f _ _ _ UT G,f _ _ _ UT F,f _ _ _ UT E,f _ _ _ UT D,f _ _ _ UT C,f _ _ _ UT z,f _ _ _ UT x,f _ _ _ UT q,f _ _ _ UT j⟩,⟨m,f _ _ _ UT t⟩,?_,Vp h.size k.size,f _ _ _ UT h.mo,f _ _ _ UT h.tu,f _ _ _ UT h.we,f _ _ _ UT h.th,f _ _ _ UT h.fr,f _ _ _ UT h.sa,f _ _ _ UT h.su⟩;have g:=h.pow;unfold YQ YR at g ⊢;simp only[vb,YS] at g ⊢;rw[r.block 0 UT];exact g
def eL(s:U3)(lo hi:U8):U6:=aB.isNum s.data.toList && decide (lo<=aB.cF s.data.toList) && decide (aB.cF s.data.toList<=hi)
theorem IA(s:U3)(L M:U7)(lo hi:U8)(w:Vg)(q:s.size<=160)(t:w.cell? ⟨L,0,Vc⟩=Vd (.int .i64 lo))(r:w.cell? ⟨M,0,Vc⟩=Vd (.int .i64 hi)):
  Vj prog 191 #[.string s,.pointer (Vd ⟨L,0,Vc⟩),.pointer (Vd ⟨M,0,Vc⟩)] w fun e w'=>e=.returned (.tuple #[.int .i64 (aB.cF s.data.toList),.bool (eL s lo hi)])/\∃ n,w'=w.drewN n:=by
 have g:s.size<=maxLen:=by unfold maxLen;omega
 cases f:aB.isNum s.data.toList
 ·go_in
  go_wp2_with fail
  refine (eS s w g).mono ?_;rintro e w1 ⟨rfl,rfl⟩;rw[f];go_wp2
  go_quiet (fail)
  go_wp2;go_ret2;exact⟨eE rfl (by simp[eL,f]),_,rfl⟩
 ·by_cases j:lo<=aB.cF s.data.toList
  ·by_cases p:aB.cF s.data.toList<=hi
   ·go_in
    go_wp2_with fail
    refine (eS s w g).mono ?_;rintro e w1 ⟨rfl,rfl⟩;rw[f];go_wp2
    go_quiet (fail)
    go_wp2;go_ret2;exact⟨eE rfl (by simp[eL,f,j,p]),_,rfl⟩
   ·have h:decide (aB.cF s.data.toList<=hi)=Ve:=decide_eq_false p
    go_in
    go_wp2_with fail
    refine (eS s w g).mono ?_;rintro e w1 ⟨rfl,rfl⟩;rw[f];go_wp2
    go_quiet (fail)
    go_wp2;go_ret2;exact⟨eE rfl (by simp[eL,f,j,h]),_,rfl⟩
  ·have i:decide (lo<=aB.cF s.data.toList)=Ve:=decide_eq_false j
   go_in
   go_wp2_with fail
   refine (eS s w g).mono ?_;rintro e w1 ⟨rfl,rfl⟩;rw[f];go_wp2
   go_quiet (fail)
   go_wp2;go_ret2;exact⟨eE rfl (by simp[eL,f,i]),_,rfl⟩
theorem Tk(R A:U7)(ws:U4 U3)(nx:U7)(wr:U6)(w:Vg)(h:RS w R A ws nx wr)(r:Env w)(x:cB ws.length nx wr=Vf)(f:nx<ws.length)(C:aB.cM ws[nx]=Vf):
  Vj prog 135 #[.pointer (Vd ⟨R,0,Vc⟩),.func (.func 136) #[] #[]] w fun e w'=>e=.returned (.int .i64 (fS ws[nx]))/\RS w' R A ws (nx+1) wr/\Kept R w w':=by
 have hi:(nx:U8)<(ws.length:U8):=UT
 have i:ws[nx].size<=160:=h.short _ (zg f);have p:=hide i;clear i;have u:=hide r;clear r
 go_in
 go_wp2_with fail
 refine (il R A ws nx wr w h).mono ?_;rintro e w1 ⟨rfl,n,j⟩;have g:RS w1 R A ws nx wr:=by rw[j];exact h.drewN n
 have t:Kept R w w1:=by rw[j];exact (Kept.refl R w).drewN n
 have q:Hid (Env w1):=by show Env w1;rw[j];exact (aJ u).drewN n
 have G:=g.c0;have F:=g.c1;have D:=g.f1;have E:=g.rows nx f;have z:=g.len;clear j;go_wp2
 go_quiet ((go_at_call 136;exact YP (Jc _ _ ((aJ q).drewN _).iK (aJ p))))
 go_wp2;go_ret;exact⟨rfl,(g.drewN _).step f,(t.drewN _).setCell _ _⟩
theorem Tj(R A:U7)(ws:U4 U3)(nx:U7)(wr:U6)(w:Vg)(h:RS w R A ws nx wr)(r:Env w)(x:cB ws.length nx wr=Vf)(i:nx<ws.length)(C:aB.cM ws[nx]=Ve):
  Vj prog 135 #[.pointer (Vd ⟨R,0,Vc⟩),.func (.func 136) #[] #[]] w fun e w'=>e=.returned (.int .i64 (0))/\RS w' R A ws nx Vf/\Kept R w w':=by
 have hi:(nx:U8)<(ws.length:U8):=UT
 have g:ws[nx].size<=160:=h.short _ (zg i);have p:=hide g;clear g;have u:=hide r;clear r
 go_in
 go_wp2_with fail
 refine (il R A ws nx wr w h).mono ?_;rintro e w1 ⟨rfl,n,j⟩;have f:RS w1 R A ws nx wr:=by rw[j];exact h.drewN n
 have t:Kept R w w1:=by rw[j];exact (Kept.refl R w).drewN n
 have q:Hid (Env w1):=by show Env w1;rw[j];exact (aJ u).drewN n
 have H:=f.c0;have G:=f.c1;have F:=f.c2;have D:=f.f2;have E:=f.rows nx i;have z:=f.len;clear j;go_wp2
 go_quiet ((go_at_call 136;exact YP (Jc _ _ ((aJ q).drewN _).iK (aJ p))))
 go_wp2;go_ret;exact⟨rfl,(f.drewN _).bad,(t.drewN _).setCell _ _⟩
theorem small(h:n<=160):n<=maxLen:=by unfold maxLen;omega
theorem Ue(R A:U7)(ws:U4 U3)(nx:U7)(wr:U6)(w:Vg)(h:RS w R A ws nx wr)(r:cB ws.length nx wr=Vf)(f:nx<ws.length)(u:aB.dA ws[nx]=Vf):
  Vj prog 135 #[.pointer (Vd ⟨R,0,Vc⟩),.func (.func 137) #[] #[]] w fun e w'=>e=.returned (.int .i64 (aB.fl ws[nx]))/\RS w' R A ws (nx+1) wr/\Kept R w w':=by
 have hi:(nx:U8)<(ws.length:U8):=UT
 have i:ws[nx].size<=160:=h.short _ (zg f);have p:=hide i;clear i
 go_in
 go_wp2_with fail
 refine (il R A ws nx wr w h).mono ?_;rintro e w1 ⟨rfl,n,j⟩;have g:RS w1 R A ws nx wr:=by rw[j];exact h.drewN n
 have q:Kept R w w1:=by rw[j];exact (Kept.refl R w).drewN n
 have D:=g.c0;have C:=g.c1;have x:=g.f1;have z:=g.rows nx f;have t:=g.len;clear j;go_wp2
 go_quiet ((go_at_call 137;exact YP (v8 _ _ (small (aJ p)))))
 go_wp2;go_ret;exact⟨rfl,(g.drewN _).step f,(q.drewN _).setCell _ _⟩
theorem Ud(R A:U7)(ws:U4 U3)(nx:U7)(wr:U6)(w:Vg)(h:RS w R A ws nx wr)(r:cB ws.length nx wr=Vf)(i:nx<ws.length)(u:aB.dA ws[nx]=Ve):
  Vj prog 135 #[.pointer (Vd ⟨R,0,Vc⟩),.func (.func 137) #[] #[]] w fun e w'=>e=.returned (.int .i64 (0))/\RS w' R A ws nx Vf/\Kept R w w':=by
 have hi:(nx:U8)<(ws.length:U8):=UT
 have g:ws[nx].size<=160:=h.short _ (zg i);have p:=hide g;clear g
 go_in
 go_wp2_with fail
 refine (il R A ws nx wr w h).mono ?_;rintro e w1 ⟨rfl,n,j⟩;have f:RS w1 R A ws nx wr:=by rw[j];exact h.drewN n
 have q:Kept R w w1:=by rw[j];exact (Kept.refl R w).drewN n
 have E:=f.c0;have D:=f.c1;have C:=f.c2;have x:=f.f2;have z:=f.rows nx i;have t:=f.len;clear j;go_wp2
 go_quiet ((go_at_call 137;exact YP (v8 _ _ (small (aJ p)))))
 go_wp2;go_ret;exact⟨rfl,(f.drewN _).bad,(q.drewN _).setCell _ _⟩
theorem Tr(R A:U7)(ws:U4 U3)(nx:U7)(wr:U6)(w:Vg)(h:RS w R A ws nx wr)(r:Env w)(x:cB ws.length nx wr=Vf)(f:nx<ws.length)(C:bB ws[nx]=Vf):
  Vj prog 135 #[.pointer (Vd ⟨R,0,Vc⟩),.func (.func 140) #[] #[]] w fun e w'=>e=.returned (.int .i64 (dL ws[nx]))/\RS w' R A ws (nx+1) wr/\Kept R w w':=by
 have hi:(nx:U8)<(ws.length:U8):=UT
 have i:ws[nx].size<=160:=h.short _ (zg f);have p:=hide i;clear i;have u:=hide r;clear r
 go_in
 go_wp2_with fail
 refine (il R A ws nx wr w h).mono ?_;rintro e w1 ⟨rfl,n,j⟩;have g:RS w1 R A ws nx wr:=by rw[j];exact h.drewN n
 have t:Kept R w w1:=by rw[j];exact (Kept.refl R w).drewN n
 have q:Hid (Env w1):=by show Env w1;rw[j];exact (aJ u).drewN n
 have G:=g.c0;have F:=g.c1;have D:=g.f1;have E:=g.rows nx f;have z:=g.len;clear j;go_wp2
 go_quiet ((go_at_call 140;exact YL (Jj _ _ ((aJ q).drewN _) (aJ p))))
 go_wp2;go_ret;exact⟨rfl,(g.drewN _).step f,(t.drewN _).setCell _ _⟩
theorem Tq(R A:U7)(ws:U4 U3)(nx:U7)(wr:U6)(w:Vg)(h:RS w R A ws nx wr)(r:Env w)(x:cB ws.length nx wr=Vf)(i:nx<ws.length)(C:bB ws[nx]=Ve):
  Vj prog 135 #[.pointer (Vd ⟨R,0,Vc⟩),.func (.func 140) #[] #[]] w fun e w'=>e=.returned (.int .i64 (0))/\RS w' R A ws nx Vf/\Kept R w w':=by
 have hi:(nx:U8)<(ws.length:U8):=UT
 have g:ws[nx].size<=160:=h.short _ (zg i);have p:=hide g;clear g;have u:=hide r;clear r
 go_in
 go_wp2_with fail
 refine (il R A ws nx wr w h).mono ?_;rintro e w1 ⟨rfl,n,j⟩;have f:RS w1 R A ws nx wr:=by rw[j];exact h.drewN n
 have t:Kept R w w1:=by rw[j];exact (Kept.refl R w).drewN n
 have q:Hid (Env w1):=by show Env w1;rw[j];exact (aJ u).drewN n
 have H:=f.c0;have G:=f.c1;have F:=f.c2;have D:=f.f2;have E:=f.rows nx i;have z:=f.len;clear j;go_wp2
 go_quiet ((go_at_call 140;exact YL (Jj _ _ ((aJ q).drewN _) (aJ p))))
 go_wp2;go_ret;exact⟨rfl,(f.drewN _).bad,(t.drewN _).setCell _ _⟩
theorem Uh(L M:U7)(lo hi:U8)(R A:U7)(ws:U4 U3)(nx:U7)(wr:U6)(w:Vg)(h:RS w R A ws nx wr)(u:w.cell? ⟨L,0,Vc⟩=Vd (.int .i64 lo))(t:w.cell? ⟨M,0,Vc⟩=Vd (.int .i64 hi))(C:cB ws.length nx wr=Vf)(f:nx<ws.length)(E:eL ws[nx] lo hi=Vf):
  Vj prog 135 #[.pointer (Vd ⟨R,0,Vc⟩),.func (.func 191) #[] #[.pointer (Vd ⟨L,0,Vc⟩),.pointer (Vd ⟨M,0,Vc⟩)]] w fun e w'=>e=.returned (.int .i64 (aB.cF ws[nx].data.toList))/\RS w' R A ws (nx+1) wr/\Kept R w w':=by
 have z:(nx:U8)<(ws.length:U8):=UT
 have j:ws[nx].size<=160:=h.short _ (zg f);have r:=hide j;clear j
 go_in
 go_wp2_with fail
 refine (il R A ws nx wr w h).mono ?_;rintro e w1 ⟨rfl,n,i⟩;have g:RS w1 R A ws nx wr:=by rw[i];exact h.drewN n
 have x:Kept R w w1:=by rw[i];exact (Kept.refl R w).drewN n
 have q:Hid (w1.cell? ⟨L,0,Vc⟩=Vd (.int .i64 lo)):=by show w1.cell? _=_;rw[i];exact u
 have p:Hid (w1.cell? ⟨M,0,Vc⟩=Vd (.int .i64 hi)):=by show w1.cell? _=_;rw[i];exact t
 clear u t;have I:=g.c0;have H:=g.c1;have F:=g.f1;have G:=g.rows nx f;have D:=g.len;clear i;go_wp2
 go_quiet ((go_at_call 191;exact YL (IA _ L M lo hi _ (aJ r) (aJ q) (aJ p))))
 go_wp2;go_ret;exact⟨rfl,(g.drewN _).step f,(x.drewN _).setCell _ _⟩
theorem Ug(L M:U7)(lo hi:U8)(R A:U7)(ws:U4 U3)(nx:U7)(wr:U6)(w:Vg)(h:RS w R A ws nx wr)(u:w.cell? ⟨L,0,Vc⟩=Vd (.int .i64 lo))(t:w.cell? ⟨M,0,Vc⟩=Vd (.int .i64 hi))(C:cB ws.length nx wr=Vf)(j:nx<ws.length)(E:eL ws[nx] lo hi=Ve):
  Vj prog 135 #[.pointer (Vd ⟨R,0,Vc⟩),.func (.func 191) #[] #[.pointer (Vd ⟨L,0,Vc⟩),.pointer (Vd ⟨M,0,Vc⟩)]] w fun e w'=>e=.returned (.int .i64 (0))/\RS w' R A ws nx Vf/\Kept R w w':=by
 have z:(nx:U8)<(ws.length:U8):=UT
 have i:ws[nx].size<=160:=h.short _ (zg j);have r:=hide i;clear i
 go_in
 go_wp2_with fail
 refine (il R A ws nx wr w h).mono ?_;rintro e w1 ⟨rfl,n,g⟩;have f:RS w1 R A ws nx wr:=by rw[g];exact h.drewN n
 have x:Kept R w w1:=by rw[g];exact (Kept.refl R w).drewN n
 have q:Hid (w1.cell? ⟨L,0,Vc⟩=Vd (.int .i64 lo)):=by show w1.cell? _=_;rw[g];exact u
 have p:Hid (w1.cell? ⟨M,0,Vc⟩=Vd (.int .i64 hi)):=by show w1.cell? _=_;rw[g];exact t
 clear u t;have J:=f.c0;have I:=f.c1;have H:=f.c2;have F:=f.f2;have G:=f.rows nx j;have D:=f.len;clear g;go_wp2
 go_quiet ((go_at_call 191;exact YL (IA _ L M lo hi _ (aJ r) (aJ q) (aJ p))))
 go_wp2;go_ret;exact⟨rfl,(f.drewN _).bad,(x.drewN _).setCell _ _⟩
theorem Tp(f:Vh)(R A:U7)(ws:U4 U3)(nx:U7)(wr:U6)(w:Vg)(h:RS w R A ws nx wr)(p:cB ws.length nx wr=Ve):
  Vj prog 130 #[.pointer (Vd ⟨R,0,Vc⟩),f] w fun e w'=>e=.returned (.string ⟨#[]⟩)/\RS w' R A ws nx Vf/\Kept R w w':=by
 go_in
 go_wp2_with fail
 refine (il R A ws nx wr w h).mono ?_;rintro e w1 ⟨rfl,n,g⟩;have i:RS w1 R A ws nx wr:=by rw[g];exact h.drewN n
 have j:Kept R w w1:=by rw[g];exact (Kept.refl R w).drewN n
 have r:=i.c2;have q:=i.f2;clear g;go_wp2;go_ret;exact⟨rfl,i.bad,j.setCell _ _⟩
theorem Tm(R A:U7)(ws:U4 U3)(nx:U7)(wr:U6)(w:Vg)(h:RS w R A ws nx wr)(F:cB ws.length nx wr=Vf)(i:nx<ws.length)(H:aB.fa ws[nx].data.toList=Vf):
  Vj prog 130 #[.pointer (Vd ⟨R,0,Vc⟩),.func (.func 131) #[] #[]] w fun e w'=>e=.returned (.string (qH ws[nx]))/\RS w' R A ws (nx+1) wr/\Kept R w w':=by
 have hi:(nx:U8)<(ws.length:U8):=UT
 have z:(0:U8)<=(nx:U8):=Y5 _;have j:ws[nx].size<=160:=h.short _ (zg i);have t:=hide j;clear j
 go_in
 go_wp2_with fail
 refine (il R A ws nx wr w h).mono ?_;rintro e w1 ⟨rfl,n,r⟩;have q:RS w1 R A ws nx wr:=by rw[r];exact h.drewN n
 have x:Kept R w w1:=by rw[r];exact (Kept.refl R w).drewN n
 have E:=q.c0;have D:=q.c1;have C:=q.rows nx i;have G:=q.len;clear r
 go_wp2_with fail
 go_region_held3 (fun w'=>w'.cell? ⟨R,0,Vc⟩=Vd (.slice (Vd ⟨A,0,Vc⟩) ws.length ws.length)/\w'.cell? ⟨R,1,Vc⟩=Vd (.int .i64 nx)/\w'.cell? ⟨A,nx,Vc⟩=Vd (.string ws[nx]))
  (first
   |go_keep
   |(
    go_split_ands
    refine⟨?_,?_,?_⟩
    ·exact cell_later f UW
    ·exact cell_later f UW
    ·exact cell_later f UW))
  ((go_at_call 131;refine (Jd _ _ (aJ t)).mono ?_;rintro e w4 ⟨rfl,f⟩))
 have g:Vi w1.heap.size w1 w4:=⟨f.os,f.tape,f.output,f.size,f.block⟩;have p:=q.aD g;have u:=x.trans (Kept.aD g);have L:=p.c1;have K:=p.c2;have J:=p.f1;have I:=p.f2;clear E D C;go_wp2;go_ret;exact⟨rfl,p.step i,u.setCell _ _⟩
theorem Tl(R A:U7)(ws:U4 U3)(nx:U7)(wr:U6)(w:Vg)(h:RS w R A ws nx wr)(F:cB ws.length nx wr=Vf)(j:nx<ws.length)(H:aB.fa ws[nx].data.toList=Ve):
  Vj prog 130 #[.pointer (Vd ⟨R,0,Vc⟩),.func (.func 131) #[] #[]] w fun e w'=>e=.returned (.string ⟨#[]⟩)/\RS w' R A ws nx Vf/\Kept R w w':=by
 have hi:(nx:U8)<(ws.length:U8):=UT
 have z:(0:U8)<=(nx:U8):=Y5 _;have i:ws[nx].size<=160:=h.short _ (zg j);have t:=hide i;clear i
 go_in
 go_wp2_with fail
 refine (il R A ws nx wr w h).mono ?_;rintro e w1 ⟨rfl,n,r⟩;have q:RS w1 R A ws nx wr:=by rw[r];exact h.drewN n
 have x:Kept R w w1:=by rw[r];exact (Kept.refl R w).drewN n
 have E:=q.c0;have D:=q.c1;have C:=q.rows nx j;have G:=q.len;clear r
 go_wp2_with fail
 go_region_held3 (fun w'=>w'.cell? ⟨R,0,Vc⟩=Vd (.slice (Vd ⟨A,0,Vc⟩) ws.length ws.length)/\w'.cell? ⟨R,1,Vc⟩=Vd (.int .i64 nx)/\w'.cell? ⟨A,nx,Vc⟩=Vd (.string ws[nx]))
  (first
   |go_keep
   |(
    go_split_ands
    refine⟨?_,?_,?_⟩
    ·exact cell_later f UW
    ·exact cell_later f UW
    ·exact cell_later f UW))
  ((go_at_call 131;refine (Jd _ _ (aJ t)).mono ?_;rintro e w4 ⟨rfl,f⟩))
 have g:Vi w1.heap.size w1 w4:=⟨f.os,f.tape,f.output,f.size,f.block⟩;have p:=q.aD g;have u:=x.trans (Kept.aD g);have L:=p.c1;have K:=p.c2;have J:=p.f1;have I:=p.f2;clear E D C;go_wp2;go_ret;exact⟨rfl,p.bad,u.setCell _ _⟩
theorem sC{B:U3->U6}(h:cB ws.length nx wr=Ve):eA ws nx wr B=Ve:=by simp[eA,h]
theorem mI{B:U3->U6}{b:U6}(h:cB ws.length nx wr=Vf)(f:nx<ws.length)(g:B ws[nx]=b):eA ws nx wr B=b:=by
 rw[eA,h,pI ws nx f,g,YW]
theorem Tn(R A:U7)(ws:U4 U3)(nx:U7)(wr:U6)(w:Vg)(h:RS w R A ws nx wr):
  Vj prog 135 #[.pointer (Vd ⟨R,0,Vc⟩),.func (.func 139) #[] #[]] w fun e w'=>e=.returned (.int .i64 (fg ws nx wr (fun s=>aB.isNum s.data.toList) (fun s=>aB.cF s.data.toList)))/\RS w' R A ws (ek ws nx wr (fun s=>aB.isNum s.data.toList)) (ei ws nx wr (fun s=>aB.isNum s.data.toList))/\Kept R w w':=by
 cases g:cB ws.length nx wr
 ·have t:=sC (B:=(fun s=>aB.isNum s.data.toList)) g;rw[fg,ek,ei,t];exact vX _ R A ws nx wr w h g
 ·have f:=pO g
  cases i:(fun s=>aB.isNum s.data.toList) ws[nx]
  ·have t:=mI (B:=(fun s=>aB.isNum s.data.toList)) g f i;rw[fg,ek,ei,t];exact Sx R A ws nx wr w h g f (small (h.short _ (zg f))) i
  ·have t:=mI (B:=(fun s=>aB.isNum s.data.toList)) g f i;rw[fg,ek,ei,t,pI ws nx f];exact Sy R A ws nx wr w h g f (small (h.short _ (zg f))) i
theorem Jm(R A:U7)(ws:U4 U3)(nx:U7)(wr:U6)(w:Vg)(h:RS w R A ws nx wr)(j:Env w):
  Vj prog 135 #[.pointer (Vd ⟨R,0,Vc⟩),.func (.func 136) #[] #[]] w fun e w'=>e=.returned (.int .i64 (fg ws nx wr aB.cM fS))/\RS w' R A ws (ek ws nx wr aB.cM) (ei ws nx wr aB.cM)/\Kept R w w':=by
 cases g:cB ws.length nx wr
 ·have t:=sC (B:=aB.cM) g;rw[fg,ek,ei,t];exact vX _ R A ws nx wr w h g
 ·have f:=pO g
  cases i:aB.cM ws[nx]
  ·have t:=mI (B:=aB.cM) g f i;rw[fg,ek,ei,t];exact Tj R A ws nx wr w h j g f i
  ·have t:=mI (B:=aB.cM) g f i;rw[fg,ek,ei,t,pI ws nx f];exact Tk R A ws nx wr w h j g f i
theorem Ur(R A:U7)(ws:U4 U3)(nx:U7)(wr:U6)(w:Vg)(h:RS w R A ws nx wr):
  Vj prog 135 #[.pointer (Vd ⟨R,0,Vc⟩),.func (.func 137) #[] #[]] w fun e w'=>e=.returned (.int .i64 (fg ws nx wr aB.dA aB.fl))/\RS w' R A ws (ek ws nx wr aB.dA) (ei ws nx wr aB.dA)/\Kept R w w':=by
 cases g:cB ws.length nx wr
 ·have t:=sC (B:=aB.dA) g;rw[fg,ek,ei,t];exact vX _ R A ws nx wr w h g
 ·have f:=pO g
  cases i:aB.dA ws[nx]
  ·have t:=mI (B:=aB.dA) g f i;rw[fg,ek,ei,t];exact Ud R A ws nx wr w h g f i
  ·have t:=mI (B:=aB.dA) g f i;rw[fg,ek,ei,t,pI ws nx f];exact Ue R A ws nx wr w h g f i
theorem Jn(R A:U7)(ws:U4 U3)(nx:U7)(wr:U6)(w:Vg)(h:RS w R A ws nx wr)(j:Env w):
  Vj prog 135 #[.pointer (Vd ⟨R,0,Vc⟩),.func (.func 140) #[] #[]] w fun e w'=>e=.returned (.int .i64 (fg ws nx wr bB dL))/\RS w' R A ws (ek ws nx wr bB) (ei ws nx wr bB)/\Kept R w w':=by
 cases g:cB ws.length nx wr
 ·have t:=sC (B:=bB) g;rw[fg,ek,ei,t];exact vX _ R A ws nx wr w h g
 ·have f:=pO g
  cases i:bB ws[nx]
  ·have t:=mI (B:=bB) g f i;rw[fg,ek,ei,t];exact Tq R A ws nx wr w h j g f i
  ·have t:=mI (B:=bB) g f i;rw[fg,ek,ei,t,pI ws nx f];exact Tr R A ws nx wr w h j g f i
theorem Us(L M:U7)(lo hi:U8)(R A:U7)(ws:U4 U3)(nx:U7)(wr:U6)(w:Vg)(h:RS w R A ws nx wr)(p:w.cell? ⟨L,0,Vc⟩=Vd (.int .i64 lo))(j:w.cell? ⟨M,0,Vc⟩=Vd (.int .i64 hi)):
  Vj prog 135 #[.pointer (Vd ⟨R,0,Vc⟩),.func (.func 191) #[] #[.pointer (Vd ⟨L,0,Vc⟩),.pointer (Vd ⟨M,0,Vc⟩)]] w fun e w'=>e=.returned (.int .i64 (fg ws nx wr (fun s=>eL s lo hi) (fun s=>aB.cF s.data.toList)))/\RS w' R A ws (ek ws nx wr (fun s=>eL s lo hi)) (ei ws nx wr (fun s=>eL s lo hi))/\Kept R w w':=by
 cases g:cB ws.length nx wr
 ·have t:=sC (B:=(fun s=>eL s lo hi)) g;rw[fg,ek,ei,t];exact vX _ R A ws nx wr w h g
 ·have f:=pO g
  cases i:(fun s=>eL s lo hi) ws[nx]
  ·have t:=mI (B:=(fun s=>eL s lo hi)) g f i;rw[fg,ek,ei,t];exact Ug L M lo hi R A ws nx wr w h p j g f i
  ·have t:=mI (B:=(fun s=>eL s lo hi)) g f i;rw[fg,ek,ei,t,pI ws nx f];exact Uh L M lo hi R A ws nx wr w h p j g f i
def mj(ws:U4 U3)(nx:U7)(wr:U6):U3:=if eA ws nx wr (fun s=>aB.fa s.data.toList) then qH (ws.getD nx YM) else ⟨#[]⟩
theorem Ub(R A:U7)(ws:U4 U3)(nx:U7)(wr:U6)(w:Vg)(h:RS w R A ws nx wr):
  Vj prog 130 #[.pointer (Vd ⟨R,0,Vc⟩),.func (.func 131) #[] #[]] w fun e w'=>e=.returned (.string (mj ws nx wr))/\RS w' R A ws (ek ws nx wr (fun s=>aB.fa s.data.toList)) (ei ws nx wr (fun s=>aB.fa s.data.toList))/\Kept R w w':=by
 cases g:cB ws.length nx wr
 ·have t:=sC (B:=fun s=>aB.fa s.data.toList) g;rw[mj,ek,ei,t];exact Tp _ R A ws nx wr w h g
 ·have f:=pO g
  cases i:aB.fa ws[nx].data.toList
  ·have t:=mI (B:=fun s=>aB.fa s.data.toList) g f i;rw[mj,ek,ei,t];exact Tl R A ws nx wr w h g f i
  ·have t:=mI (B:=fun s=>aB.fa s.data.toList) g f i;rw[mj,ek,ei,t,pI ws nx f];exact Tm R A ws nx wr w h g f i
end Go.Proofs.YtfigmlfdnickmaaGreatDoor
