import Derived.Test.YtfigmlfdnickmaaGreatDoorL07
import Derived.RangeFuncKeeps
import Derived.RangeFuncBound
import Derived.RangeFuncLeaves
import Derived.Shelf.Abstract
import Derived.Shelf.RegionOpen
import Derived.OwnWalkIn
import Derived.TacticsInMore
import Derived.Deep.CutRange
import Derived.Deep.RegionWith
import Derived.Deep.RegionHeld3
import Derived.RangeFuncCalls
import Derived.Lib.ItoaNum
import Derived.Deep.AppendLies
set_option maxRecDepth 100000
set_option maxHeartbeats 8000000
open Go.Proofs.Tryz
open _root_ renaming ByteArray->XK,List->XL,Option->XM,Bool->XN,Nat->XP,Int->XQ,if_neg->XR,if_pos->XS,absurd->XT,Int->N,Nat->M,List->J
open Option renaming none->XU,some->XV,mem_toList->ZL,none->Z,some->U
open Bool renaming false->XW,true->XX,and_eq_true->ZR
open Go renaming World->XY,Value->XZ,Calls->X4
open Go.RowKit renaming Below->X0
open And renaming intro->Yz
open Go.Value renaming ownBlock->ZB,oneCell'->ZG,slice->X9,string->Ya,int->X7,pointer->X8,bool->Yb,agg->Yd,iface->Ye,int->V
open Nat renaming zero_le->Zd,le_trans->Yk,le_refl->Yi
open List renaming getElem?_eq_getElem->ZV,take_succ_eq_append_getElem->Zc,map_append->Zl,flatMap_append->Zr,getElem?_append_right->Zt,length_cons->Y0,length_nil->Y7,cons_append->YH,length_append->YZ,append_assoc->YU,mem_map->Zh,mem_append->Yv,length_map->ZE,drop_eq_getElem_cons->ZH,length_eq_zero_iff->Y6,foldl_cons->ZT
open Go.World renaming news_of_block->ZF,block_lt_of_cell?->Yl,cell?->YF,size_alloc->ZM
open Option.some renaming inj->ZN
open Array renaming getElem?_eq_none->Zw
open Go.Exit renaming inBlock->Zz
open Go.IntKind renaming i64->Yf,i64->Y
open Go.Ending renaming returned->Yg
open Go.Obj renaming cells->Yh
variable{name sym x:XK}{a ev' fr mi mn pc pc' ti ti' til u un un':XQ}{l tl:XL (Go.Proofs.YtfigmlfdnickmaaGreatDoor.aA.aO × Go.Value)}{L:XL (XQ × XQ)}{p ws:XL XK}{acc acc':XL XQ}{xs:XL Go.Value}{B b c1 d e g i k m mm n n₀:XP}{s' st:XP × XN}{aN:XP->XM Go.Proofs.YtfigmlfdnickmaaGreatDoor.bH}{a1:XM Go.Addr}{r rw_:Go.Proofs.YtfigmlfdnickmaaGreatDoor.Raw}{s:Go.Proofs.YtfigmlfdnickmaaGreatDoor.aA.St}{v v':Go.Value}{W W' w w' w1 w2 w3 wx:Go.World}
namespace Go.Proofs.YtfigmlfdnickmaaGreatDoor
open Go.RowKit
structure Cm(w wx:XY)(r:Rd.cA)(days:J N)(k:M)(v:XZ):Prop where
 own:wx.ownsRow w 60 2 v k ((((days.take k).map (kL r))).flatMap gk)
 bl:X0 w w wx
 ru:wx.heap[w.heap.size]?=U (cD r)
 ne:v.ownBlock≠U w.heap.size
theorem TR(r:Rd.cA)(hf:Rd.fY r)(c:J N)(hd:∀ d∈c,0<=d/\d<100000)(hl:c.length<=100)(v:XZ)(B:M)(w:XY)(own:w.ownsRow B 3 1 v c.length (c.map (Value.int Y))):
  X4 prog 148 #[iU r,v] w fun e w'=>∃ v',e=Yg v'/\w'.ownsRow w.heap.size 60 2 v' c.length ((c.map (kL r)).flatMap gk)/\X0 w.heap.size w w':=by
 obtain⟨i0,F,D,C,A⟩:=info_parts wS;obtain⟨a,cap,rfl⟩:=lR own;have hX:X0 w.heap.size w (w.alloc (cD r)):=(zr _ _).alloc (zq _) _;have hr:=cP w (cD r);have hs:(w.alloc (cD r)).heap.size=w.heap.size+1:=XA
 have HX:=aC (Yz hX (Yz hr hs));have OW:=aC own;have HD:=aC (Yz hd hf);clear own hX hr hd hf hs;unfold iU
 go_in
 go_upto_region 1 with fail
 change Code.wp _ _ _ _ (w.alloc (cD r));generalize w.alloc (cD r)=X at *
 go_wp2_with (first
  |(at_make;refine wpList_make_own _ rfl _ _ 56 rfl w.heap.size 60 i0 _ 2 underlying56 F D C .i64 .i64 (c.length:N) c.length rfl rfl rfl (by rw[A];omega) XH (by have:=HX.out.1.size;omega) ?_;intro w1 h f))
 have S0:Hid (Cm w w1 r c 0 (X9 (U ⟨X.heap.size,0,Z⟩) 0 c.length)):=by
  obtain⟨P,T,x3⟩:=HX.out;refine⟨by simpa using h,P.grown f P.size (fun k e=>by cases e),(f.block _ O XA).trans T,fun e=>?_⟩;have:X.heap.size=w.heap.size:=by simpa[ZB] using e
  omega
 clear h f
 go_loopw [5,7,13] (fun vs _ vi wx=>∃ k:M,k<=c.length/\vi=V Y k/\Cm w wx r c k vs) (fun _ _ vi _=>c.length-(intOf vi).toNat)
 case atStart=>exact⟨0,Zd _,rfl,S0.out⟩
 case round =>
  obtain⟨k,hk,rfl,S⟩:=hrel
  by_cases j:k<c.length
  .have E:(k:N)<(c.length:N):=O
   have row:=eQ OW.out S.bl;obtain⟨Hh,ai,H⟩:=Joins.ownsRow_form row O;simp only[Value.slice.injEq,true_and] at H;obtain⟨rfl,rfl⟩:=H;have a0:=row.cellAt k O;rw[List.getElem?_map,ZV j,Option.map_some] at a0;have SO:=aC (KH r HD.out.2 c[k] (HD.out.1 _ (zg j)).1 (HD.out.1 _ (zg j)).2 wr);have x0:=uS S.ru;have P:=qd S.ru;have T:=uT S.ru;have x3:=uU S.ru;have x4:=uV S.ru;have x5:=uW S.ru;have x6:=uX S.ru;have x7:=uY S.ru;have x8:=uZ S.ru;have x9:=rj S.ru;have ad:=xH S.ru;have ac:=xI S.ru;have ab:=xJ S.ru;have aa:=xK S.ru;have R:=aC S;unfold iU at SO;clear S row
   go_wp2_with fail
   refine SO.out.mono ?_;rintro e w2 ⟨rfl,q⟩;have RW:=aC (eQ R.out.own q);have K:=aC q;have aj:w.heap.size<=w2.heap.size:=Yk R.out.bl.size q.size;clear q SO a0 x0 P T x3 x4 x5 x6 x7 x8 x9 ad ac ab aa
   go_wp2_with (first
    |(at_builtin;refine wpList_append_lies _ rfl _ _ 56 rfl w.heap.size 60 i0 _ 2 16 underlying56 F D C A rfl XC _ _ _ rfl (RW.out.alloc _) ⟨w2.heap.size,0,Z⟩ 1 1 (gk (kL r c[k])) rfl rfl (ZF (cs:=(gk (kL r c[k])).toArray) (cP w2 _)) (by simp[gk,ZG]) O XH O XG (w2.heap.size+1) XA ?_;intro Q I w3 h f G ag))
   have y:aH u5.ownBlock.toList w2 w3:=aH.grown ((aH.refl _ w2).alloc _) f (fun k hk=>.inl (ZL.2 hk));have t:u5.ownBlock=U Q\/Q=w2.heap.size+1:=G
   have HN:Hid (Cm w w3 r c (k+1) (X9 (U ⟨Q,0,Z⟩) (k+1) I)):=by
    have S:=R.out;have z:X0 w.heap.size w w2:=S.bl.trans (K.out.mono S.bl.size)
    have ae:w.heap.size<wr.heap.size:=by
     have:=uS S.ru;exact Yl _ _ this
    refine⟨?_,⟨y.os.trans z.os,y.tape.trans z.tape,y.output.trans z.output,Yk z.size y.size,fun b hb=>(y.block b (zL hb z.size) (fun hx=>by have:=(S.own.lt b (ZL.1 hx)).1;omega)).trans (z.block b hb)⟩,?_,fun e=>?_⟩
    .rw[Zc j,Zl,Zr];have:([c[k]].map (kL r)).flatMap gk=gk (kL r c[k]):=XA
     rw[this];exact h
    .exact ((y.block _ (by have:=K.out.size;omega) (fun hx=>S.ne (ZL.1 hx))).trans (K.out.block _ ae)).trans S.ru
    .have:Q=w.heap.size:=by simpa[ZB] using e
     rcases t with H|H
     .exact S.ne (by rw[H,this])
     .have:=K.out.size;omega
   clear h f G y t R RW K
   go_wp2
   go_roundw
   case rel=>exact⟨k+1,by omega,by go_num,HN.out⟩
   case measure=>simp[intOf];omega
  .have af:k=c.length:=O
   have E:¬ ((k:N)<(c.length:N)):=O
   have HF:Hid (wr.ownsRow w.heap.size 60 2 u5 c.length ((c.map (kL r)).flatMap gk)/\X0 w.heap.size w wr):=by
    have o:=S.own;rw[af,List.take_length] at o;exact⟨o,S.bl⟩
   clear S
   go_wp2
   go_ret;exact⟨_,rfl,HF.out⟩
open aA (aO St dL kept eA dI dE im cN cO iu dZ ie bO Inv)
theorem Xi{q:Rd.cA}(h:aA.eB s.ts name u≠0):aA.aV s (.series name u q)=(s,aA.bI.error (aA.eB s.ts name u)):=by
 have e:aA.np s name u q=aA.eB s.ts name u:=by unfold aA.np;rw[XS h]
 simp only[aA.aV];rw[e,XS h]
theorem Xj{q:Rd.cA}(f:Rd.fY q)(h:aA.eB s.ts name u=0)(c:Rd.fT q≠0):aA.aV s (.series name u q)=(s,aA.bI.error (Rd.fT q)):=by
 have j:=(Rd.qY f).1;have e:aA.np s name u q=Rd.fT q:=by unfold aA.np;rw[XR O,<- j,XS c]
 simp only[aA.aV];rw[e,XS c]
theorem VU{q:Rd.cA}(o:Rd.fY q)(h:aA.eB s.ts name u=0)(j:Rd.fT q=0):aA.aV s (.series name u q)=iI s ⟨0,1,name,u,(fw q).map (kL q),0⟩:=by
 let⟨e1,e2⟩:=Rd.qY o;have y:=(e2 (by rw[<- e1];exact j)).1;have t:(fw q).map (kL q)=Rd.gY q (Rd.bY q):=by unfold fw;rw[XS j,y];rfl
 simp only[aA.aV];unfold aA.np iI;rw[XR (c:=aA.eB s.ts name u≠0) O,<- e1,XR (c:=Rd.fT q≠0) O,t]
 by_cases f:s.given=60
 .simp[f]
 .cases aA.eo s.ts s.es name u (Rd.gY q (Rd.bY q)) <;> simp[f]
theorem Kg:∀ (i:M)(h:i<L.length),(L.flatMap gk)[i*2]?=U (V Y L[i].1)/\(L.flatMap gk)[i*2+1]?=U (V Y L[i].2):=by
 induction L with
 |nil=>intro i h;simp at h
 |cons a L ih =>
  intro i h
  cases i with
  |zero=>exact⟨rfl,rfl⟩
  |succ i =>
   let⟨h1,h2⟩:=ih i (by simpa using h);have e:(a :: L).flatMap gk=[V Y a.1,V Y a.2]++L.flatMap gk:=rfl;rw[e,show (i+1)*2=2+i*2 from by omega,show 2+i*2+1=2+(i*2+1) from by omega];constructor
   .rw[Zt XA];simpa using h1
   .rw[Zt XA];simpa using h2
theorem eh.xj(h:eh w d s r aN)(A:X0 w.heap.size w w3){cap z:M}(E:i<r.tg.length)(f:r.tg[i].name=name)(row:w3.ownsRow z 60 2 (X9 (U ⟨g,0,XU⟩) n cap) n (L.flatMap gk))(C:n=L.length)(F:B<=z)(P:w.heap.size<=B)(ok:ie s.now ⟨0,1,name,u,L,0⟩):
  mj (w3.alloc (Yh #[V Y 0,V Y 1,X8 (U ⟨r.tg[i].tb,0,XU⟩),V Y u,X9 (U ⟨g,0,XU⟩) n cap,V Y 0] 200)) B d s r aN ⟨⟨0,1,name,u,L,0⟩,w3.heap.size,g,cap,r.tg[i].tb⟩ i:=by
 have t:X0 w3.heap.size w3 (w3.alloc (Yh #[V Y 0,V Y 1,X8 (U ⟨r.tg[i].tb,0,XU⟩),V Y u,X9 (U ⟨g,0,XU⟩) n cap,V Y 0] 200)):=(zr _ _).alloc (zq _) _;have y:=h.dk.later A;have eb:=cP w3 (Yh #[V Y 0,V Y 1,X8 (U ⟨r.tg[i].tb,0,XU⟩),V Y u,X9 (U ⟨g,0,XU⟩) n cap,V Y 0] 200);have Q:=row.lt g rfl;have K:(w3.alloc (Yh #[V Y 0,V Y 1,X8 (U ⟨r.tg[i].tb,0,XU⟩),V Y u,X9 (U ⟨g,0,XU⟩) n cap,V Y 0] 200)).heap.size=w3.heap.size+1:=XA
 have c:=eQ row t;generalize w3.alloc (Yh #[V Y 0,V Y 1,X8 (U ⟨r.tg[i].tb,0,XU⟩),V Y u,X9 (U ⟨g,0,XU⟩) n cap,V Y 0] 200)=Z at *;refine⟨⟨y.later t,h.of,h.wl,h.hl,h.inv⟩,⟨⟨?_,?_,?_,?_,fun j D=>?_,?_⟩,?_,?_,fun o=>frozen_of_row _ _ _ _ _ eb,⟨_,eb⟩⟩,y.none (zq _),h.dk.none (by show w.heap.size<=g;omega),(by show B<=w3.heap.size;omega),(by show B<=g;omega),(by show w3.heap.size≠g;omega),O,E,f,rfl,ok⟩
 .show Z.cell? ⟨w3.heap.size,0,XU⟩=_;simp only[YF,eb];rfl
 .show Z.cell? ⟨w3.heap.size,2,XU⟩=_;simp only[YF,eb];rfl
 .show Z.cell? ⟨w3.heap.size,3,XU⟩=_;simp only[YF,eb];rfl
 .show Z.cell? ⟨w3.heap.size,4,XU⟩=U (X9 (U ⟨g,0,XU⟩) L.length cap);rw[<- C];simp only[YF,eb];rfl
 .have q:j<L.length:=D;obtain⟨H,G⟩:=Kg j q;have I:=c.cellAt (j*2) O;have c1:=c.cellAt (j*2+1) O;exact⟨I.trans H,c1.trans G⟩
 .show g<_;omega
 .show Z.cell? ⟨w3.heap.size,1,XU⟩=_;simp only[YF,eb];rfl
 .show Z.cell? ⟨w3.heap.size,5,XU⟩=_;simp only[YF,eb];rfl
theorem Un(w:XY)(name:XK)(u:N)(q:Rd.cA):let X:=((w.alloc (Yh #[name,u,V Y q.pc,V Y q.ev,aL q.acc 0,aL q.acc 1,aL q.acc 2,aL q.acc 3,aL q.acc 4,aL q.acc 5,aL q.acc 6,V Y q.fr,q.mn,q.mi,q.ti,q.un] 165)).alloc bB);X0 w w X/\X.heap[w.heap.size+1]?=U bB/\X=w.heap.size+2/\X.heap[w.heap.size]?=U (Yh #[name,u,V Y q.pc,V Y q.ev,aL q.acc 0,aL q.acc 1,aL q.acc 2,aL q.acc 3,aL q.acc 4,aL q.acc 5,aL q.acc 6,V Y q.fr,q.mn,q.mi,q.ti,q.un] 165 (0,0)):=by
 let⟨h1,h2⟩:=AM (w:=w) (Yh #[name,u,V Y q.pc,V Y q.ev,aL q.acc 0,aL q.acc 1,aL q.acc 2,aL q.acc 3,aL q.acc 4,aL q.acc 5,aL q.acc 6,V Y q.fr,q.mn,q.mi,q.ti,q.un] 165);exact⟨h1,h2,by simp,(Below.heap_alloc _ _ _ XA).trans (cP w _)⟩
theorem Sh(c:Array XZ)(w:XY):(callFunc 148 c).run prog w=.ok (.enter 148 c) w:=XF
theorem Sg(c:Array XZ)(w:XY):(callFunc 144 c).run prog w=.ok (.enter 144 c) w:=XF
theorem Vs(h:eh w d s r aN)(ht:ig w)(ak:10<=w.heap.size)(name:XK)(hn:name.size<=1000)(u:N)(q:Rd.cA)(hl:aA.iV (.series name u q)):
  X4 prog 95 #[d,Yd #[name,u,V Y q.pc,V Y q.ev,aL q.acc 0,aL q.acc 1,aL q.acc 2,aL q.acc 3,aL q.acc 4,aL q.acc 5,aL q.acc 6,V Y q.fr,q.mn,q.mi,q.ti,q.un]] w fun e w'=>∃ v,e=Yg v/\dS w d aN (aA.aV s (.series name u q)) v w':=by
 obtain⟨hX,ae,S,f⟩:=Un w name u q;obtain⟨aj,ai,P⟩:=hl;have HV:=aC (K5 (h.dk.later hX) h.of h.aY name hn u);have DY:=aC (I3 q P ((w.alloc (Yh #[name,u,V Y q.pc,V Y q.ev,aL q.acc 0,aL q.acc 1,aL q.acc 2,aL q.acc 3,aL q.acc 4,aL q.acc 5,aL q.acc 6,V Y q.fr,q.mn,q.mi,q.ti,q.un] 165)).alloc bB) (rA ht hX ak) (by rw[S];omega));have HH:=aC h;have HX:=aC (Yz hX (Yz ae S));have HA:=aC (Xi (s:=s) (name:=name) (u:=u) (q:=q));have HE:=aC (Xj (s:=s) (name:=name) (u:=u) P);have HO:=aC (VU (s:=s) (name:=name) (u:=u) P);have y:=aC P;have x0:=bG f 0 rfl;have x1:=bG f 1 rfl;have x2:=bG f 2 rfl;have x3:=bG f 3 rfl;have x4:=bG f 4 rfl;have x5:=bG f 5 rfl;have x6:=bG f 6 rfl;have x7:=bG f 7 rfl;have x8:=bG f 8 rfl;have x9:=bG f 9 rfl;have F:=bG f 10 rfl;have E:=bG f 11 rfl;have D:=bG f 12 rfl;have C:=bG f 13 rfl;have A:=bG f 14 rfl;have z:=bG f 15 rfl;unfold iU at DY;clear h hX ae S f P ht
 go_in
 go_upto_region 1 with fail
 change Code.wp _ _ _ _ ((w.alloc (Yh #[name,u,V Y q.pc,V Y q.ev,aL q.acc 0,aL q.acc 1,aL q.acc 2,aL q.acc 3,aL q.acc 4,aL q.acc 5,aL q.acc 6,V Y q.fr,q.mn,q.mi,q.ti,q.un] 165)).alloc bB);generalize ((w.alloc (Yh #[name,u,V Y q.pc,V Y q.ev,aL q.acc 0,aL q.acc 1,aL q.acc 2,aL q.acc 3,aL q.acc 4,aL q.acc 5,aL q.acc 6,V Y q.fr,q.mn,q.mi,q.ti,q.un] 165)).alloc bB)=X at *;have BX:Hid (X0 w w X):=HX.1;have QX:Hid (Q7 X (w.heap.size+1)):=Q7.of HX.2.1
 go_wp21
 refine HV.mono ?_;rintro e w1 ⟨hp,rfl⟩;rcases hp with ⟨R,rfl⟩|⟨R,i,hi,e1,e2,rfl⟩
 .have HD:=aC (HA R);generalize aA.eB s.ts name u=H at *;have ad:(H != 0)=XX:=by simpa using R
  clear R HV HX DY HE HO HA x0 x1 x2 x3 x4 x5 x6 x7 x8 x9 F E D C A z
  go_wp21
  refine aK (jN H w1) fun w9 T=>?_;have HF:=aC (HH.refuse BX QX T HD);obtain⟨q0,q1,q2,q3,q4,q5,q6,fq⟩:=HF.1;simp only[bJ]
  go_wp21
  exact cL results95 ⟨q0,q1,q2,q3,q4,q5,q6,fq⟩ ⟨_,rfl,HF.2⟩
 .go_wp21
  refine DY.mono ?_;rintro e w2 ⟨da,rfl,own,c⟩;have o:Hid (X0 w w w2):=BX.trans (c.mono BX.size);have K:Hid (Q7 w2 (w.heap.size+1)):=QX.later (c.block _ (Yl _ _ QX.q0));obtain⟨a1,ag,rfl⟩:=qQ own
  by_cases G:Rd.fT q=0
  .have HD:=aC (HO R G);have ad:(Rd.fT q != 0)=XW:=by simpa using G
   obtain⟨aa,af⟩:=Rd.qY y;have I:=af (by rw[<- aa];exact G);have t:fw q=Rd.bY q:=by unfold fw;rw[XS G,I.1]
   have OK:Hid (ie s.now ⟨0,1,name,u,(fw q).map (kL q),0⟩):=by
    obtain⟨p1,p2,p3,p4⟩:=aA.Rd.lf y (by rw[<- aa];exact G);have e4:(fw q).map (kL q)=Rd.gY q (Rd.bY q):=by rw[t];rfl
    show ie _ _;rw[e4];exact⟨aj,ai,p4,p3,p1,p2,.inl ⟨rfl,rfl⟩⟩
   have ac:0<(fw q).length:=List.length_pos_iff.2 (by rw[t];exact I.2.1);have av:(fw q).length<=40:=by rw[t];exact I.2.2.1
   have SP:=aC (TR q y (fw q) (fun d hd=>by rw[t] at hd;have:=Rd.ui y hd;have:=y.f0;omega) O (X9 a1 (fw q).length ag) w1 w2.drew (CS own));have ab:w+2<=w2.drew.heap.size:=by have:=c.size;have:=HX.2.2;show w+2<=w2.heap.size;omega
   have AS:=aC (fun (w3:XY) (g cap:M) (j:X0 w2.drew.heap.size w2.drew w3) (row:w3.ownsRow w2.drew.heap.size 60 2 (X9 g (fw q).length cap) (fw q).length (((fw q).map (kL q)).flatMap gk)) =>
    Eg (HH.xj (o.drew.trans (j.mono o.size)) (B:=w.heap.size+2) hi e1 row XA ab O OK))
   have AP:=aC (fun (w3 w4:XY) (g cap:M) (v:XZ) (j:X0 w2.drew.heap.size w2.drew w3) (ep:mP (w3.alloc (Yh #[V Y 0,V Y 1,X8 (U ⟨r.tg[i].tb,0,Z⟩),u,X9 g (fw q).length cap,V Y 0] 200)) (w.heap.size+2) d aN (iI s ⟨0,1,name,u,(fw q).map (kL q),0⟩) v w4) =>
    ep.tU (w:=w) (Q:=w.heap.size+1) (Step.below ((o.drew.trans (j.mono o.size)).trans (((zr w3 w3).alloc aI _).mono (o.drew.trans (j.mono o.size)).size))) O O O (HH.dk.none O) ((K.later (w':=w2.drew) rfl).later (((Below.heap_alloc w3 _ _ (zL (Yl _ _ K.q0) j.size))).trans (j.block _ (Yl _ _ K.q0)))))
   have y1:=aR c x1;have y2:=aR c x2;have y3:=aR c x3;have y4:=aR c x4;have y5:=aR c x5;have y6:=aR c x6;have y7:=aR c x7;have y8:=aR c x8;have y9:=aR c x9;have au:=aR c F;have ar:=aR c E;have aq:=aR c D;have ao:=aR c C;have an:=aR c A;have al:=aR c z;unfold iU at SP;clear HV DY HE HO HA HX own c I t aa af OK R x0 x1 x2 x3 x4 x5 x6 x7 x8 x9 F E D C A z BX QX;generalize Rd.fT q=H at *;subst G
   go_upto_region 7 with fail
   go_region_law (first
    |(refine qe (by rfl) 148 _ _ (by rfl) _ (by simp[Act.eval]) (Sh _ _) SP ?_;rintro e w3 ⟨v',rfl,row,j⟩;refine⟨_,rfl,?_⟩;obtain⟨g,cap,rfl⟩:=Joins.ownsRow_form row ac;have z1:=aR j y1;have EN:=aC (AS w3 g cap j row);have AQ:=aC (fun w4 v ep=>AP w3 w4 g cap v j ep);clear SP AS AP row)
    |(refine qe (by rfl) 144 _ _ (by rfl) _ (by simp[Act.eval]) (Sg _ _) EN ?_;rintro e w4 ⟨v,rfl,ep⟩;refine⟨_,rfl,?_⟩;obtain⟨H,nn,rfl,q7,P⟩:=AQ w4 v ep;have HF:Hid (dS w d aN (aA.aV s (.series name u q)) (bJ H 0 nn () () () ()) (cR w4 (w.heap.size+1) (V Y H) (V Y 0) (V Y nn) () () () ())):=(by rw[HD];exact P _ _ _ _ _ _ _);obtain⟨q0,q1,q2,q3,q4,q5,q6,fq⟩:=q7;clear ep P EN AQ;simp only[bJ]))
   all_goals
    go_wp21
    exact cL results95 ⟨q0,q1,q2,q3,q4,q5,q6,fq⟩ ⟨_,rfl,HF⟩
  .have HD:=aC (HE R G);generalize Rd.fT q=H at *;have ad:(H != 0)=XX:=by simpa using G
   clear R HV HX DY HE HO HA x0 x1 x2 x3 x4 x5 x6 x7 x8 x9 F E D C A z own c G
   go_wp21
   refine aK (jN H w2) fun w9 T=>?_;have HF:=aC (HH.refuse o K T HD);obtain⟨q0,q1,q2,q3,q4,q5,q6,fq⟩:=HF.1;simp only[bJ]
   go_wp21
   exact cL results95 ⟨q0,q1,q2,q3,q4,q5,q6,fq⟩ ⟨_,rfl,HF.2⟩
theorem WI(h:eh w d s rw_ aN)(ht:ig w)(t:10<=w.heap.size)(name:XK)(E:name.size<=1000)(u:N)(r:Rd.cA)(F:aA.iV (.series name u r)):
  X4 prog 64 #[d,Ye 165 (Yd #[name,u,V Y r.pc,V Y r.ev,aL r.acc 0,aL r.acc 1,aL r.acc 2,aL r.acc 3,aL r.acc 4,aL r.acc 5,aL r.acc 6,V Y r.fr,r.mn,r.mi,r.ti,r.un])] w fun e w'=>∃ v,e=Yg v/\dS w d aN (aA.aV s (.series name u r)) v w':=by
 have y:=aC (h.oF (Yh #[name,u,V Y r.pc,V Y r.ev,aL r.acc 0,aL r.acc 1,aL r.acc 2,aL r.acc 3,aL r.acc 4,aL r.acc 5,aL r.acc 6,V Y r.fr,r.mn,r.mi,r.ti,r.un] 165));have z:=aC (Vs y.1 (rA ht y.2.1 t) (Yk t y.2.1.size) name E u r F);clear h;unfold bB at z y;have f:=oS 165 XC;have q:=pI 165 XC;have o:=qH 165 XC;have j:=qG 165 XC;have c:=nY underlying165
 go_in
 go_wp21
 refine z.mono ?_;rintro e w2 ⟨v,rfl,C⟩;obtain⟨R,at_,H,a1,a2,a3,a4,Q,P,K,I,c1,X,T,S,rfl,D,A⟩:=C.ow y.2;have G:=aC A;clear C A z f q o j c;let⟨q0,q1,q2,q3,q4,q5,q6,fq⟩:=D;simp only[bJ]
 go_wp21
 exact cL results64 ⟨q0,q1,q2,q3,q4,q5,q6,fq⟩ ⟨_,rfl,G⟩
theorem eh.iQ{j:XY}(h:eh w d s r aN)(k:X0 w w j){Q:M}(z:w<=Q){y:XZ}(A:ik j (Q+1) aN y l)(a b c e f g i:XZ):
  dS w d aN (s,⟨0,0,0,l.map (·.1),[],[],[]⟩) (bJ 0 0 0 y () () ()) (cR j Q a b c e f g i):=by
 have t:=lQ j Q a b c e f g i;have C:=h.dk.later k;have nq:∀ b,Q<=b->aN b=Z:=fun b q=>h.dk.none O
 have st:Step anyS w aN aN j (cR j Q a b c e f g i):=⟨⟨_,t,fun x o=>.inr (by have:x=Q:=List.mem_singleton.1 o;subst this;exact⟨nq _ aI,z⟩)⟩,fun _ _ h=>h,fun _ _ h=>.inl h⟩
 have rp:lK j (Q+1) aN (bJ 0 0 0 y () () ()) ⟨0,0,0,l.map (·.1),[],[],[]⟩ :=
  ⟨_,_,_,_,l,rfl,rfl,A,dY.nil _ _ _,dY.nil _ _ _,dY.nil _ _ _,(fun b q=>by cases q),fun b q=>by cases q⟩
 exact⟨r,aN,C.off t (fun x o=>by have:x=Q:=List.mem_singleton.1 o;subst this;exact nq _ aI),h.of,h.wl,h.hl,(Step.below k).trans st,(rp.off t (fun x o=>by have:x=Q:=List.mem_singleton.1 o;omega)).base O⟩
theorem Wv(h:eh w d s rw_ aN):
  X4 prog 64 #[d,Ye 183 (Yd #[])] w fun e w'=>∃ v,e=Yg v/\dS w d aN (aA.aV s .clock) v w':=by
 have K:X0 w.heap.size w ((w.alloc (Yh #[V Y 0,V Y 0,V Y 0,(),(),(),()] 40)).alloc (Yh #[] 183)):=bC.alloc XA _;have P:((w.alloc (Yh #[V Y 0,V Y 0,V Y 0,(),(),(),()] 40)).alloc (Yh #[] 183)).heap[w.heap.size]?=U bB:=(Below.heap_alloc _ _ _ XA).trans (cP w bB);have Q:=(h.dk.later K).c0;rw[h.of.now] at Q;have S:=aC K;have T:=aC h;have R:=Q7.of P;have HD:Hid (aA.aV s .clock=(s,⟨0,0,s.now,[],[],[],[]⟩)):=rfl;clear K P h;have A:=oS 183 XC;have I:=pI 183 XC;have G:=qH 183 XC;have C:=qG 183 XC;have t:=sk 183 XC;have o:=tK 183 XC;have z:=uI 183 XC;have F:=wI 183 XC;have j:=wN 183 XC;have E:=yI 183 XC;have H:=BB 183 XC;have y:=Hj 183 XC;have D:=Pk 183 XC;have q:=nY underlying183
 go_in
 go_upto_region 43 with fail
 change Code.wp _ _ _ _ ((w.alloc (Yh #[V Y 0,V Y 0,V Y 0,(),(),(),()] 40)).alloc (Yh #[] 183));generalize ((w.alloc (Yh #[V Y 0,V Y 0,V Y 0,(),(),(),()] 40)).alloc (Yh #[] 183))=X at *
 have HF:Hid (∀ a b c e f g i,dS w d aN (aA.aV s .clock) (bJ 0 0 s.now () () () ()) (cR X w a b c e f g i)):=fun a b c e f g i=>by
  rw[HD];exact T.said S aI 0 s.now a b c e f g i
 clear A I G C t o z F j E H y D q;let⟨q0,q1,q2,q3,q4,q5,q6,fq⟩:=R
 go_wp21
 exact cL results64 ⟨q0,q1,q2,q3,q4,q5,q6,fq⟩ ⟨_,rfl,HF _ _ _ _ _ _ _⟩
open Go.RowKit Go.Shelf
attribute [local go_sem] Oper.semAt_some
theorem WQ{F:Fence}(c:F.depth=Z)(k:M):F.room k:=fun d h=>by rw[c] at h;cases h
theorem RoundIn.iP{F:Fence}(y:F.depth=Z){t:M}{P:Program}{l:M}{f:FuncId}{o:Array XZ}{j q:Code}{R:Ending->XY->Prop}
  (h:RoundIn F m P l f o j q w R):RoundIn F t P l f o j q w R:=⟨h.1,fun c cs _=>h.2 c cs (WQ y _)⟩
theorem YieldAt.iP{F:Fence}(j:F.depth=Z)(f:M){P:Program}{l:M}{c:Array XZ}{R:Ending->XY->Prop}(h:YieldAt F m P l c W R):YieldAt F f P l c W R:=by
 let⟨fn,tmps,assign,body,hy,hR⟩:=h;exact⟨fn,tmps,assign,body,hy,RoundIn.iP j hR⟩
theorem gZ.fW{x:aF.It}(h:gZ w b x)(k:X0 n₀ w w')(c:b<n₀):gZ w' b x :=
 ⟨(k.cell (p:=(b,0)) c).trans h.c0,(k.cell (p:=(b,1)) c).trans h.c1,(k.cell (p:=(b,2)) c).trans h.c2,(k.cell (p:=(b,3)) c).trans h.c3,h.c4.imp (fun _=>(k.cell (p:=(b,4)) c).trans),h.c5.imp (fun _=>(k.cell (p:=(b,5)) c).trans),h.c6.imp (fun _=>(k.cell (p:=(b,6)) c).trans),h.c7.imp (fun _=>(k.cell (p:=(b,7)) c).trans),fun o=>(k.frozen (p:=(b,o)) c).trans (h.fz o)⟩
theorem dK.fW{n₀:M}{w w':XY}(k:X0 n₀ w w'):∀ {t:aF.S}{p:XZ}{F:J M},dK w t p F->(∀ i∈F,i<n₀)->dK w' t p F
 |.nil,p,F,c,_=>c
 |.node a l r,p,F,c,hd=>by
  obtain⟨b,o,j,G,E,rfl,n,D,C,A,z,y,c,rfl,q⟩:=c;have f:b<n₀:=hd b XA;exact⟨b,o,j,G,E,rfl,n.fW k f,(k.cell (p:=(b,4)) f).trans D,(k.cell (p:=(b,5)) f).trans C,(k.cell (p:=(b,6)) f).trans A,(k.cell (p:=(b,7)) f).trans z,dK.fW k y (fun i h=>hd i (by simp[h])),dK.fW k c (fun i h=>hd i (by simp[h])),rfl,q⟩
theorem U5(F:Fence)(hd:F.depth=Z)(h6:F.fn 255)(X:F.round=Z)(l n₀ a3:M)(a b:N){Q:aF.It->Prop}(ag Jx:J {x:aF.It // Q x}->XY->Prop)
  (hY:∀ m pre x W,ag pre W->pre.length<a3->YieldAt F m prog l #[x.1.v] W fun e W' =>
   (e=Yg XX/\ag (pre++[x]) W'/\X0 n₀ W W')\/(e=Yg XW/\Jx (pre++[x]) W')) (t:aF.S):
  ∀ (n:M) (p:XM Addr) (G:J M) (pre ys:J {x:aF.It // Q x}) (W:XY),dK W t p G->(∀ i∈G,i<n₀)->ys.map (·.1)=aF.meet a b t->ag pre W->pre.length+ys.length<=a3 ->
   CallsIn F n prog 255 #[p,a,b,.func (.yield l) #[] #[]] W fun e W' =>
    (e=Yg XX/\ag (pre++ys) W'/\X0 n₀ W W')\/(e=Yg XW/\∃ q,q <+: ys/\Jx (pre++q) W'):=by
 induction t with
 |nil =>
  intro n p G pre ys W ht _ I hJ _;obtain⟨hp,_⟩:=ht
  cases hp
  obtain rfl:ys=[]:=List.map_eq_nil_iff.1 (I.trans rfl);refine callsIn_of_wp func255 rfl h6 ?_ X;simp only[ntmps255,List.size_toArray,Y0,Y7,Nat.reduceAdd,Nat.reduceSub,Array.replicate_succ,Array.replicate_zero,List.push_toArray,List.append_toArray,List.nil_append,YH]
  gi_wp2
  go_ret;exact .inl ⟨rfl,by simpa using hJ,Below.refl _ _⟩
 |node x tl tr ihl ihr =>
  intro n p G pre ys W ht hG I hJ hN;obtain⟨o,pl,pr,Fl,Fr,rfl,rfl,P,c4,_⟩:=ht.half;have E:∀ k:M,(F.depth.isSome=XX->1<=k):=fun k h=>by rw[hd] at h;cases h
  have hb:o<n₀:=hG o XA;have an:∀ i∈Fl,i<n₀:=fun i hi=>hG i (by simp[hi])
  have aa:∀ i∈Fr,i<n₀:=fun i hi=>hG i (by simp[hi])
  generalize ao:aF.late (.node x tl tr)=la at c4
  by_cases q1:la<=a
  .obtain rfl:ys=[]:=by
    have:aF.meet a b (.node x tl tr)=[]:=by rw[aF.meet,ao,XS q1]
    exact List.map_eq_nil_iff.1 (I.trans this)
   refine callsIn_of_wp func255 rfl h6 ?_ X;simp only[ntmps255,List.size_toArray,Y0,Y7,Nat.reduceAdd,Nat.reduceSub,Array.replicate_succ,Array.replicate_zero,List.push_toArray,List.append_toArray,List.nil_append,YH]
   gi_wp2
   go_ret;exact .inl ⟨rfl,by simpa using hJ,Below.refl _ _⟩
  .have em:aF.meet a b (.node x tl tr)=aF.meet a b tl++if b<=x.f then [] else (if a<x.t then [x] else [])++aF.meet a b tr:=by rw[aF.meet,ao,XR q1]
   rw[em] at I;obtain⟨D,y2,rfl,aj,C⟩:=List.map_eq_append_iff.1 I;clear em I;simp only[YZ] at hN;have c0:=P.n.c0;have c1:=P.n.c1;have c3:=P.n.c3;have c6:=P.c6;have c7:=P.c7
   by_cases q2:b<=x.f
   .rw[XS q2] at C;obtain rfl:y2=[]:=List.map_eq_nil_iff.1 C
    have A:=(ihl (n-1) pl Fl pre D W P.l an aj hJ (by simpa using hN)).mono (R':=fun e j =>
      (e=Yg XX/\ag (pre++D) j/\X0 n₀ W j/\j.cell? (o,0)=U (V Y x.f))\/(e=Yg XW/\∃ q,q <+: D/\Jx (pre++q) j))
     (fun e j h=>h.elim (fun ⟨he,hj,c⟩=>.inl ⟨he,hj,c,(c.cell (p:=(o,0)) hb).trans c0⟩) .inr)
    clear ihl ihr P ht;refine callsIn_of_wp func255 rfl h6 ?_ X;simp only[ntmps255,List.size_toArray,Y0,Y7,Nat.reduceAdd,Nat.reduceSub,Array.replicate_succ,Array.replicate_zero,List.push_toArray,List.append_toArray,List.nil_append,YH]
    gi_wp2_with (first
     |((try refine⟨E _,?_⟩);gi_at_call 255;refine A.mono ?_;clear A;rintro e j (⟨rfl,al,c,aq⟩|⟨rfl,q,hq,T⟩)))
    .go_ret;exact .inl ⟨rfl,by simpa using al,c⟩
    .go_ret;exact .inr ⟨rfl,q,by simpa using hq,T⟩
   .rw[XR q2] at C;have a7:x.f<b:=O
    obtain⟨y3,y4,rfl,K,ai⟩:=List.map_eq_append_iff.1 C;clear C;simp only[YZ] at hN
    by_cases q3:a<x.t
    .rw[XS q3] at K
     obtain⟨y,rfl,av⟩:∃ y:{x:aF.It // Q x},y3=[y]/\y.1=x:=by
      rcases y3 with _|⟨y,_|⟨z,r⟩⟩
      .simp at K
      .exact⟨y,rfl,by simpa using K⟩
      .simp at K
     subst av;simp only[Y0,Y7] at hN
     have C:∀ j,ag (pre++D) j->X0 n₀ W j->YieldAt F (n-1) prog l #[y.1.v] j fun e R =>
       (e=Yg XX/\ag (pre++D++[y]) R/\X0 n₀ W R/\R.cell? (o,7)=U ↑pr/\dK R tr pr Fr)\/(e=Yg XW/\Jx (pre++D++[y]) R):=fun j al c =>
      YieldAt.mono (hY (n-1) _ y j al XG) fun e R h=>h.elim
       (fun ⟨he,hj,H⟩=>.inl ⟨he,hj,c.trans H,((c.trans H).cell (p:=(o,7)) hb).trans c7,P.r.fW (c.trans H) aa⟩) .inr
     have A:=(ihl (n-1) pl Fl pre D W P.l an aj hJ O).mono (R':=fun e j =>
       (e=Yg XX/\j.cell? (o,0)=U (V Y y.1.f)/\j.cell? (o,1)=U ↑y.1.t/\j.cell? (o,3)=U ↑y.1.v/\YieldAt F (n-1) prog l #[y.1.v] j fun e R =>
        (e=Yg XX/\ag (pre++D++[y]) R/\X0 n₀ W R/\R.cell? (o,7)=U ↑pr/\dK R tr pr Fr)\/(e=Yg XW/\Jx (pre++D++[y]) R)) \/
       (e=Yg XW/\∃ q,q <+: D/\Jx (pre++q) j))
      (fun e j h=>h.elim (fun ⟨he,hj,c⟩=>.inl ⟨he,(c.cell (p:=(o,0)) hb).trans c0,(c.cell (p:=(o,1)) hb).trans c1,(c.cell (p:=(o,3)) hb).trans c3,C j hj c⟩) .inr)
     clear C ihl P ht;refine callsIn_of_wp func255 rfl h6 ?_ X;simp only[ntmps255,List.size_toArray,Y0,Y7,Nat.reduceAdd,Nat.reduceSub,Array.replicate_succ,Array.replicate_zero,List.push_toArray,List.append_toArray,List.nil_append,YH]
     gi_wp2_with (first
      |((try refine⟨E _,?_⟩);gi_at_call 255;refine A.mono ?_;clear A;rintro e j (⟨rfl,aq,ax,a8,fn,ay,ar,az,hy,hR⟩|⟨rfl,q,hq,T⟩))
      |((try refine⟨E _,?_⟩);refine hR.mono ?_;clear hR;rintro e R (⟨rfl,af,H,aw,ac⟩|⟨rfl,au⟩))
      |((try refine⟨E _,?_⟩);gi_at_call 255;refine (ihr (n-1) pr Fr _ y4 _ ac aa ai af XG).mono ?_;rintro e W3 (⟨rfl,ae,ad⟩|⟨rfl,q,hq,ab⟩)))
     .go_ret;exact .inl ⟨rfl,by simpa[YU] using ae,H.trans ad⟩
     .go_ret;obtain⟨r,ak⟩:=hq;exact .inr ⟨rfl,D++y :: q,⟨r,by simp[<- ak]⟩,by simpa[YU] using ab⟩
     .go_ret;exact .inr ⟨rfl,D++[y],⟨y4,by simp⟩,by simpa[YU] using au⟩
     .go_ret;exact .inr ⟨rfl,q,hq.trans ⟨_,rfl⟩,T⟩
    .rw[XR q3] at K;obtain rfl:y3=[]:=List.map_eq_nil_iff.1 K;have a4:x.t<=a:=O
     simp only[Y7] at hN
     have A:=(ihl (n-1) pl Fl pre D W P.l an aj hJ O).mono (R':=fun e j =>
       (e=Yg XX/\j.cell? (o,0)=U (V Y x.f)/\j.cell? (o,1)=U ↑x.t/\j.cell? (o,7)=U ↑pr/\dK j tr pr Fr/\ag (pre++D) j/\X0 n₀ W j) \/
       (e=Yg XW/\∃ q,q <+: D/\Jx (pre++q) j))
      (fun e j h=>h.elim (fun ⟨he,hj,c⟩=>.inl ⟨he,(c.cell (p:=(o,0)) hb).trans c0,(c.cell (p:=(o,1)) hb).trans c1,(c.cell (p:=(o,7)) hb).trans c7,P.r.fW c aa,hj,c⟩) .inr)
     clear ihl P ht;refine callsIn_of_wp func255 rfl h6 ?_ X;simp only[ntmps255,List.size_toArray,Y0,Y7,Nat.reduceAdd,Nat.reduceSub,Array.replicate_succ,Array.replicate_zero,List.push_toArray,List.append_toArray,List.nil_append,YH]
     gi_wp2_with (first
      |((try refine⟨E _,?_⟩);gi_at_call 255;refine A.mono ?_;clear A;rintro e j (⟨rfl,aq,ax,aw,ac,af,H⟩|⟨rfl,q,hq,T⟩))
      |((try refine⟨E _,?_⟩);gi_at_call 255;refine (ihr (n-1) pr Fr _ y4 _ ac aa ai af XG).mono ?_;rintro e W3 (⟨rfl,ae,ad⟩|⟨rfl,q,hq,ab⟩)))
     .refine⟨fun _ h=>(by cases h),?_⟩
      gi_wp2_with (first
       |((try refine⟨E _,?_⟩);gi_at_call 255;refine (ihr (n-1) pr Fr _ y4 _ ac aa ai af XG).mono ?_;rintro e W3 (⟨rfl,ae,ad⟩|⟨rfl,q,hq,ab⟩)))
      .go_ret;exact .inl ⟨rfl,by simpa[YU] using ae,H.trans ad⟩
      .go_ret;obtain⟨r,ak⟩:=hq;exact .inr ⟨rfl,D++q,⟨r,by simp[<- ak]⟩,by simpa[YU] using ab⟩
     .go_ret;exact .inr ⟨rfl,q,hq.trans ⟨_,rfl⟩,T⟩
theorem Wt(W:XY):W.grownBy W.drew Z:=⟨rfl,rfl,rfl,Yi _,fun _ _ _=>rfl⟩
theorem Wi(l B1 X T n₀:M)(E o:M)(A:XM Addr)(a b:N)(t:aF.S)(G:J M){Q:aF.It->Prop}(xs:J {x:aF.It // Q x})(f:xs.map (·.1)=aF.meet a b t)(c z:J {x:aF.It // Q x}->XY->Prop)
  (H:∀ m pre x W,c pre W->pre.length<xs.length->YieldAt Fence.wide m prog l #[x.1.v] W fun e W' =>
   (e=Yg XX/\c (pre++[x]) W'/\X0 n₀ W W')\/(e=Yg XW/\z (pre++[x]) W'))
  (y:∀ pre W,c pre W->c pre W.drew)
  (W:XY) (ac:W.cell? (B1,0)=U (X8 (U ⟨E,o,Z⟩))) (ab:W.cell? (X,0)=U ↑a) (aa:W.cell? (T,0)=U ↑b) (hc:W.cell? (E,o)=U ↑A) (I:dK W t A G) (K:∀ i∈G,i<n₀) (P:c [] W):
  X4 prog 254 #[.func (.yield l) #[] #[],B1,X,T] W fun e W'=>(∃ v,e=Yg v) /\
   ((∃ ys,ys=xs/\c ys W')\/(∃ pre,pre <+: xs/\z pre W')):=by
 have F:=callsIn_wide.1 (U5 Fence.wide rfl trivial rfl l n₀ xs.length a b c z H t 0 A G [] xs W.drew (I.same (aH.refl _ _).drew) K f (y _ _ P) XA)
 have C:=aC (F.mono (R':=fun e W'=>(∃ R,e=Yg R)/\((∃ ys,ys=xs/\c ys W')\/(∃ pre,pre <+: xs/\z pre W')))
  (fun e W' h=>h.elim (fun ⟨D,hj,_⟩=>⟨⟨_,D⟩,.inl ⟨_,rfl,by simpa using hj⟩⟩) (fun ⟨D,q,hq,hx⟩=>⟨⟨_,D⟩,.inr ⟨q,hq,by simpa using hx⟩⟩)))
 clear F H y P f I K
 go_in
 go_upto_region 0 with fail
 go_region_with (first
  |(go_at_call 255;refine C.out.mono ?_;rintro e W1 ⟨⟨R,rfl⟩,j⟩))
 all_goals
  go_wp21
  go_end0
  exact⟨⟨_,rfl⟩,j⟩
open aA (aO St dL kept eA dI dE im cN cO iu dZ ie bO Inv uniq vu Af)
def QI(r:Raw)(x:aF.It):Prop:=∃ g∈r.eg,x.v=g.eb/\x.n=g.e.id
theorem U3(f:Of s r)(j:(r.eg.map (·.e.id)).Nodup)(o:i<r.tg.length){b:N}{z:aF.It}(c:z∈aF.meet a b r.tg[i].T):QI r z:=by
 let⟨_,h1,h2⟩:=f.th i o;rw[aF.zX a b _ h1] at c;obtain⟨e,q,_,sp,_,rfl⟩:=(h2 z).1 (List.mem_filter.1 c).1;obtain⟨g,h,rfl⟩:=f.get q;exact⟨g,h,Dj j h,rfl⟩
def zw(r:Raw):(l:J aF.It)->(∀ z∈l,QI r z)->J {x:aF.It // QI r x}
 |[],_=>[]
 |z :: l,h=>⟨z,h z XA⟩ :: zw r l (fun y c=>h y (by simp[c]))
theorem Kj(r:Raw):∀ (l:J aF.It)(h:∀ z∈l,QI r z),(zw r l h).map (·.1)=l
 |[],_=>rfl
 |z :: l,h=>by simp[zw,Kj r l]
structure kK(s:St)(M:J aF.It)(l:J (aO × XZ)):Prop where
 len:l.length=(uniq M).length
 at_:∀ (i:XP) (h:i<l.length),l[i].1∈s.es/\l[i].1.id=((uniq M)[i]'Xz).n
 nd:(l.map (·.1.id)).Nodup
theorem kK.nil(s:St):kK s [] []:=⟨rfl,fun i h=>by simp at h,by simp⟩
theorem kK.any{f:J aF.It}(h:kK s f l)(n:N):l.any (fun p=>p.1.id==n)=(uniq f).any (fun u=>decide (u.n=n)):=by
 rw[Bool.eq_iff_iff,List.any_eq_true,List.any_eq_true];constructor
 .rintro ⟨p,q,e⟩;obtain⟨i,c,rfl⟩:=List.getElem_of_mem q;have:=h.at_ i c;exact⟨_,List.getElem_mem (by have:=h.len;omega:i<(uniq f).length),by simpa[<- this.2] using e⟩
 .rintro ⟨u,o,e⟩;obtain⟨i,c,rfl⟩:=List.getElem_of_mem o;have j:i<l.length:=by rw[h.len];exact c
  have:=h.at_ i j;exact⟨_,List.getElem_mem j,by rw[this.2];simpa using e⟩
theorem kK.Mb{M:J aF.It}(h:kK s M l){z:aF.It}(f:l.any (fun p=>p.1.id==z.n)=XX):kK s (M++[z]) l:=by
 have e:uniq (M++[z])=uniq M:=by rw[Af];unfold vu;rw[<- h.any z.n,f];rfl
 exact⟨by rw[e];exact h.len,fun i c=>by have:=h.at_ i c;simp only[e];exact this,h.nd⟩
theorem kK.ta{j:J aF.It}(h:kK s j l){z:aF.It}(t:uniq (j++[z])=uniq j++[z]){e:aO}(A:e∈s.es)(y:e.id=z.n){sp:XZ}(q:i<(l++[(e,sp)]).length):(l++[(e,sp)])[i].1∈s.es/\(l++[(e,sp)])[i].1.id=((uniq (j++[z]))[i]'(by rw[t];have:=h.len;simp at q ⊢;omega)).n:=by
 have f:=h.len;simp only[t];rw[YZ] at q
 by_cases c:i<l.length
 .rw[List.getElem_append_left c,List.getElem_append_left O];exact h.at_ i c
 .have o:i=l.length:=by simp at q;omega
  subst o;rw[List.getElem_append_right aI,List.getElem_append_right O];simp[f,A,y]
theorem kK.new{j:J aF.It}(h:kK s j l){z:aF.It}(q:l.any (fun p=>p.1.id==z.n)=XW){e:aO}(F:e∈s.es)(o:e.id=z.n)(sp:XZ):kK s (j++[z]) (l++[(e,sp)]):=by
 have t:uniq (j++[z])=uniq j++[z]:=by rw[Af];unfold vu;rw[<- h.any z.n,q];rfl
 have f:=h.len;refine⟨by rw[t];simp[f],fun i E=>?_,?_⟩
 .exact kK.ta h t F o E
 .rw[Zl,List.nodup_append];refine⟨h.nd,by simp,fun x C y A=>?_⟩;obtain⟨p,D,rfl⟩:=Zh.1 C;have:y=e.id:=by simpa using A
  subst this;intro c;have:=List.any_eq_false.1 q p D;simp[c,o] at this
theorem JB:∀ {l m:J N},l.Nodup->(∀ x∈l,x∈m)->l.length<=m.length
 |[],_,_,_=>zN _
 |a :: l,m,hn,h=>by
  rw[List.nodup_cons] at hn;have f:=h a XA;have:=JB (l:=l) (m:=m.erase a) hn.2 (fun x c=>(List.mem_erase_of_ne (show x≠a from fun e=>hn.1 (by rw[<- e];exact c))).2 (h x (by simp[c])));rw[List.length_erase_of_mem f] at this;have:=List.length_pos_of_mem f;simp;omega
theorem kK.small{o:J aF.It}(h:kK s o l):l.length<=s.es.length:=by
 have:=JB (m:=s.es.map (·.id)) h.nd (fun x c=>by
  obtain⟨p,f,rfl⟩:=Zh.1 c;obtain⟨i,j,rfl⟩:=List.getElem_of_mem f
  exact Zh.2 ⟨_,(h.at_ i j).1,rfl⟩)
 simpa using this
theorem C9{size:M}(h:w.ownsRow B e size v n xs)(f:v.ownBlock=U b):∃ cs k,w.heap[b]?=U (Yh cs e k):=by
 rcases h.2 with ⟨rfl,_⟩|⟨g,cap,j,rfl,_,c,_⟩
 .cases f
 .obtain rfl:g=b:=by simpa[ZB] using f
  exact⟨_,_,c⟩
theorem ik.vK(h:ik wx B aN v l){e:aO}{sp:XZ}(A:w2.ownsRow wx 60 2 sp e.aQ.length (e.aQ.flatMap gk))(k:X0 wx wx w2)(G:B<=wx)(F:∀ b,B<=b->aN b=Z)(E:aH v.ownBlock.toList w2 w3)(j:w3.ownsRow B 58 6 v' (l.length+1) (l.flatMap gA++gA (e,sp))):
  ik w3 B aN v' (l++[(e,sp)]):=by
 have y:∀ b,v.ownBlock=U b->b<wx:=fun b c=>(h.own.lt b c).2
 have C:∀ p∈l,w3.ownsRow B 60 2 p.2 p.1.aQ.length (p.1.aQ.flatMap gk):=fun p f=>cV (eQ (h.sp p f).1.own k) E (fun b c o=>(h.sp p f).2 b c (ZL.1 o))
 have t:w3.ownsRow B 60 2 sp e.aQ.length (e.aQ.flatMap gk):=cV (Joins.ownsRow_le A G) E (fun b c o=>by have I:=(A.lt b c).1;have H:=y b (ZL.1 o);omega)
 have D:∀ {q:XZ}{n:M}{xs:J XZ},w3.ownsRow B 60 2 q n xs->∀ b,q.ownBlock=U b->v'.ownBlock≠U b:=fun z b c o=>by
  let⟨c1,k1,e1⟩:=C9 z c;let⟨c2,k2,e2⟩:=C9 j o;have:=e1.symm.trans e2;simp at this
 refine⟨?_,fun b c=>F b (j.lt b c).1,fun p f=>?_,?_⟩
 .rw[YZ,Zr];have:[(e,sp)].flatMap gA=gA (e,sp):=XA
  rw[this];exact j
 .rcases Yv.1 f with f|f
  .exact⟨⟨C p f,(h.sp p f).1.no⟩,D (C p f)⟩
  .have:p=(e,sp):=List.mem_singleton.1 f;subst this;exact⟨⟨t,fun b c=>F b (t.lt b c).1⟩,D t⟩
 .refine List.pairwise_append.2 ⟨h.pw,List.pairwise_singleton _ _,fun p f q z b c o=>?_⟩;rw[List.mem_singleton.1 z] at o;have I:=(A.lt b o).1;have H:=((h.sp p f).1.own.lt b c).2;omega
theorem VY(p:XM Addr)(a b:N)(w:XY):
  X4 prog 207 #[p,a,b] w fun e w'=>e=Yg (.func (.func 254) #[] #[w,X8 (U ⟨w.heap.size+1,0,Z⟩),X8 (U ⟨w.heap.size+2,0,Z⟩)])/\w'=((w.alloc (Yh #[p] 301)).alloc (Yh #[a] 3)).alloc (Yh #[b] 3):=by
 go_in
 go_wp21
 go_ret;exact⟨rfl,rfl⟩
theorem U4(n:M)(r:Raw)(A z y n₀ f o:M)(h:XM Addr)(a b:N)(t:aF.S)(G:J M)(xs:J {x:aF.It // QI r x})(j:xs.map (·.1)=aF.meet a b t)(w:XY)(R:w.cell? (A,0)=U (X8 (U ⟨f,o,Z⟩)))(Q:w.cell? (z,0)=U ↑a)(P:w.cell? (y,0)=U ↑b)(F:w.cell? (f,o)=U ↑h)(I:dK w t h G)(C:∀ i∈G,i<n₀)(D:n₀<=w):
  SeqStopsK Fence.wide n prog 254 #[A,z,y] (fun x:{x:aF.It // QI r x}=>#[Value.pointer (U ⟨x.1.v,0,Z⟩)]) (X0 n₀) (fun ys=>ys=xs) (fun pre=>pre <+: xs) xs.length w:=by
 intro l aa X W c K _ H T;refine callsIn_wide.2 ?_;exact Wi l A z y n₀ f o h a b t G xs j aa X (fun m pre x W' q E=>YieldAt.iP rfl m (H pre x W' q E)) (fun pre W' q=>K pre W' _ Z q (Wt W') (fun r e=>by cases e)) W (aR c R) (aR c Q) (aR c P) (aR c F) (I.fW (c.mono D) C) C T
open aA (aO St dL kept eA dI dE im cN cO iu dZ ie bO Inv uniq)
attribute [local go_sem] Oper.semAt_some
structure LI(w W:XY)(s:St)(aN:XP->XM bH)(M:J aF.It):Prop where
 bx:∃ v l,Boxed W (w.heap.size+1) 34 v/\ik W (w.heap.size+5) aN v l/\kK s M l
 bl:X0 w w W
 sz:w+5<=W.heap.size
theorem Jf{row:XM M}{size:M}(h:W.ownsRow B e size v n xs)(j:W.grownBy W' row)(f:∀ r,row=U r->∃ o:Obj,W.heap[r]?=U o/\o.isCells=XW):W'.ownsRow B e size v n xs:=by
 refine h.kept j ?_;rcases h.2 with ⟨rfl,_⟩|⟨g,cap,t,rfl,_,c,_⟩
 .exact .inl rfl
 .refine .inr fun q=>?_
  let⟨o,ho,hc⟩:=f g (by simpa[ZB] using q.symm);rw[c] at ho;cases ho;cases hc
theorem QM(w:XY)(s:St)(r:Raw)(aN:M->XM bH)(t:w<=B):OwnFrom B (fun (pre:J {x:aF.It // QI r x}) W=>LI w W s aN (pre.map (·.1))):=by
 intro pre W W' row h f c;have j:∀ r,row=U r->∃ o:Obj,W.heap[r]?=U o/\o.isCells=XW:=fun r e=>(c r e).2
 let⟨v,l,hv,er,tl⟩:=h.bx;exact⟨⟨v,l,Ag hv f j,⟨Jf er.own f j,er.no,fun p q=>⟨⟨Jf (er.sp p q).1.own f j,(er.sp p q).1.no⟩,(er.sp p q).2⟩,er.pw⟩,tl⟩,h.bl.grown f h.bl.size (fun k e=>Yk t (c k e).1),Yk h.sz f.size⟩
theorem UY(h:X0 W W W'):KeepsFrom B W W':=⟨h.size,fun k _ _ c _=>(h.block k (Array.getElem?_eq_some_iff.1 c).1).trans c⟩
theorem VA(X:XY)(p x y:XZ)(c f h:TypeId):X0 X X (((X.alloc (Yh #[p] c)).alloc (Yh #[x] f)).alloc (Yh #[y] h)).drew/\(((X.alloc (Yh #[p] c)).alloc (Yh #[x] f)).alloc (Yh #[y] h)).drew.cell? (X,0)=U p/\(((X.alloc (Yh #[p] c)).alloc (Yh #[x] f)).alloc (Yh #[y] h)).drew.cell? (X.heap.size+1,0)=U x/\(((X.alloc (Yh #[p] c)).alloc (Yh #[x] f)).alloc (Yh #[y] h)).drew.cell? (X.heap.size+2,0)=U y/\(((X.alloc (Yh #[p] c)).alloc (Yh #[x] f)).alloc (Yh #[y] h)).drew.heap.size=X.heap.size+3:=by
 have q:=Boxed.new X c p;have o:=Boxed.new (X.alloc (Yh #[p] c)) f x;have j:=Boxed.new ((X.alloc (Yh #[p] c)).alloc (Yh #[x] f)) h y;simp only[ZM] at o j;exact⟨((((zr _ X).alloc aI _).alloc XA _).alloc XG _).drew,((q.alloc _).alloc _).cell,(o.alloc _).cell,j.cell,by rw[heap_drew];simp⟩
theorem Xt{F:Fence}{P:Program}(w:XY){A:Array Oper}{o:Oper}{a:Act}{K:Act->XY->Prop}{Q:Exit->Act->XY->Prop}{E:Prop}
  (X:o.guard=Z) (s x:Operand) (t:TypeId) (y:o.op=Op.call { callee:=Callee.builtin Builtin.append,args:=#[s,x],argTypes:=#[t,t] })
  (q:M) (e:TypeId) (i:TypeInfo) (z:XZ) (size h:M) (h1:P.underlying t=U (.slice e)) (h2:P.info? e=U i) (h3:i.zero=U z) (h4:i.size=size) (h5:i.bytes=h) (h6:z.cells.size=size) (h7:0<size)
  (v:XZ) (k:M) (xs:J XZ) (S:a.eval s=v) (C:w.ownsRow q e size v k xs) (H:Addr) (m c:M) (f:J XZ) (I:a.eval x=X9 (U H) m c) (T:f.length=m*size)
  (hc:∀ j u,f[j]?=U u->w.cell? (H.add j)=U u) (G:∀ u∈f,u.oneCell'=XX) (b1:k+m<=maxLen) (b2:(k+m)*h<=140737488355328) (b3:q<=w)
  (hK:∀ v' w',w'.ownsRow q e size v' (k+m) (xs++f)->w.grownBy w' v.ownBlock->K (a.put o.dst v') w'):
  if Region.wanted o (yielded A a.tmps)=XX then Oper.wpIn F n P o a w K Q else E:=by
 have R:Region.wanted o (yielded A a.tmps)=XX:=by simp[Region.wanted,X]
 rw[XS R];let⟨v',w',hrun,r1,r2,r3⟩:=run_append_own (P:=P) w q t o.type e i z size h h1 h2 h3 h4 h5 h6 h7 v k xs C H m c f T hc G b1 b2 b3;unfold Oper.wpIn;refine⟨?_,?_⟩
 .simp[Oper.about,y,resolve,Target.leads,Sem.run_pure]
 .rw[Oper.semAt_plain F _ _ (by rw[y];intro c D;cases D)];simp[execOp,y,resolve,invoke,builtin,S,I,hrun,Result.andThen];exact hK v' w' r1 r2
theorem Xq(h:W.cell? (b,i)=U v)(o:Obj):(W.alloc o).cell? (b,i)=U v:=(zo (w:=W) (Below.heap_alloc _ o _ (Yl _ _ h))).trans h
theorem VK{C:J aF.It}(h:LI w W s aN C)(y:Boxed W (w.heap.size+1) 34 (X9 a1 tl.length c1))(A:ik W (w.heap.size+5) aN (X9 a1 tl.length c1) tl)(q:X0 W W w1)(j:X0 w1.drew.heap.size w1.drew w2)(o:Obj)
  (c:(w2.alloc o).grownBy w3 (X9 a1 tl.length c1).ownBlock):Boxed w3 (w.heap.size+1) 34 (X9 a1 tl.length c1):=by
 have D:=h.sz;have t:X0 W W w1.drew:=q.drew;have f:X0 W W w2:=t.trans (j.mono t.size);have z:Boxed w2 (w.heap.size+1) 34 (X9 a1 tl.length c1):=(f.block _ O).trans y;exact (z.alloc o).kept c (fun e=>by have:=(A.own.lt _ e.symm).1;omega)
theorem VL{X:J aF.It}(h:LI w W s aN X)(hv:Boxed W (w.heap.size+1) 34 (X9 a1 tl.length c1))(S:ik W (w.heap.size+5) aN (X9 a1 tl.length c1) tl)(I:kK s X tl)(R:X0 W W w1){e:aO}{sp:XZ}(ho:w2.ownsRow w1.drew.heap.size 60 2 sp e.aQ.length (e.aQ.flatMap gk))(Q:X0 w1.drew.heap.size w1.drew w2)(o:Obj)
  (C:(w2.alloc o).grownBy w3 (X9 a1 tl.length c1).ownBlock) (F:w3.ownsRow (w.heap.size+5) 58 6 v' (tl.length+1) (tl.flatMap gA++gA (e,sp))) (hc:∀ b,w.heap.size<=b->aN b=Z) {z:aF.It}(ha:tl.any (fun p=>p.1.id==z.n)=XW) (he:e∈s.es) (hn:e.id=z.n):
  KeepsFrom B W (w3.setCell (w.heap.size+1,0) v')/\X0 w W (w3.setCell (w.heap.size+1,0) v')/\LI w (w3.setCell (w.heap.size+1,0) v') s aN (X++[z]):=by
 have sz:=h.sz;have K:X0 W W w1.drew:=R.drew;have c:X0 W W w2:=K.trans (Q.mono K.size);have t:aH (X9 a1 tl.length c1).ownBlock.toList w2 w3:=aH.grown ((aH.refl _ w2).alloc _) C (fun k y=>.inl (ZL.2 y));have E3:=S.vK (Joins.ownsRow_le ho K.size) c sz (fun b D=>hc b O) t F;have j:∀ b,(X9 a1 tl.length c1).ownBlock=U b->w+5<=b:=fun b D=>(S.own.lt b D).1
 have E:=aH.bD (w.heap.size+1) w3 0 v'
 have bk:∀ b,b<W.heap.size->b≠w.heap.size+1->(X9 a1 tl.length c1).ownBlock≠U b->(w3.setCell ⟨w.heap.size+1,0,Z⟩ v').heap[b]?=W.heap[b]?:=fun b D h1 h2=>by
  rw[E.block b (zL (zL D c.size) t.size) (fun f=>h1 (List.mem_singleton.1 f)),t.block b (zL D c.size) (fun f=>h2 (ZL.1 f)),c.block b D]
 have P:Boxed w3 (w.heap.size+1) 34 (X9 a1 tl.length c1):=(t.block _ (by have:=c.size;omega) (fun f=>by have:=j _ (ZL.1 f);omega)).trans ((c.block _ O).trans hv);have A:W<=(w3.setCell (w.heap.size+1,0) v').heap.size:=Yk c.size (Yk t.size E.size);have H:X0 w W (w3.setCell (w.heap.size+1,0) v'):=⟨E.os.trans (t.os.trans c.os),E.tape.trans (t.tape.trans c.tape),E.output.trans (t.output.trans c.output),A,fun b D=>bk b O O (fun f=>by have:=j _ f;omega)⟩;refine⟨⟨A,fun k o' _ y G=>(bk k (Array.getElem?_eq_some_iff.1 y).1 (fun T=>?_) (fun T=>?_)).trans y⟩,H,⟨⟨v',tl++[(e,sp)],P.set v',E3.off E (fun x f=>by have:=List.mem_singleton.1 f;omega),I.new ha he hn sp⟩,h.bl.trans H,Yk sz A⟩⟩
 .subst T;rw[show W.heap[w.heap.size+1]?=_ from hv] at y
  cases y;cases G
 .obtain⟨cs,q,e2⟩:=C9 S.own T;rw[e2] at y
  cases y;cases G
def Ih(Q:Exit->Act->XY->Prop):Exit->Act->XY->Prop
 |.panic _,_,_=>False
 |.normal,a,w=>Q .normal a w
 |.ret,a,w=>Q .ret a w
 |.exit i,a,w=>Q (.exit i) a w
 |.goto t,a,w=>Q (.goto t) a w
 |.outgrown,a,w=>Q .outgrown a w
theorem Tl{Q:Exit->Act->XY->Prop}:∀ e a w,Ih Q e a w->Q e a w
 |.panic _,_,_,h=>h.elim
 |.normal,_,_,h=>h
 |.ret,_,_,h=>h
 |.exit _,_,_,h=>h
 |.goto _,_,_,h=>h
 |.outgrown,_,_,h=>h
theorem T9{Q:Exit->Act->XY->Prop}{a:Act}(h:Q .ret a w):Ih Q .ret a w:=h
theorem Ki(h:eh w d s r aN)(hi:i<r.tg.length)(a b:N):
  X4 prog 151 #[X8 (U ⟨r.tg[i].tb,0,XU⟩),Yd #[V Y a,V Y b]] w fun e w'=>∃ v l,e=Yg v/\l.map (·.1)=aA.lO r.tg[i].name a b s.es/\ik w' w.heap.size aN v l/\X0 w.heap.size w w':=by
 obtain⟨i0,al,aj,ai,ag⟩:=info_parts VJ;obtain⟨ul,us,Fl,Fs,th,av⟩:=h.dk.th i hi;have R:=aC h;have az:r.tg[i].tb<w.heap.size:=Yl _ _ th.c0;have xa:((w.alloc (Yh #[V Y a,V Y b] 60)).alloc (Yh #[X9 XU 0 0] 34)).cell? ⟨w.heap.size,0,XU⟩=U (V Y a):=XA
 have xb:((w.alloc (Yh #[V Y a,V Y b] 60)).alloc (Yh #[X9 XU 0 0] 34)).cell? ⟨w.heap.size,1,XU⟩=U (V Y b):=XA
 have bt:=Boxed.new (w.alloc (Yh #[V Y a,V Y b] 60)) 34 (X9 XU 0 0);have hX:X0 w.heap.size w ((w.alloc (Yh #[V Y a,V Y b] 60)).alloc (Yh #[X9 XU 0 0] 34)):=((zr _ _).alloc (zq _) _).alloc XA _;have ab:((w.alloc (Yh #[V Y a,V Y b] 60)).alloc (Yh #[X9 XU 0 0] 34)).heap.size=w.heap.size+2:=XA
 rw[ZM] at bt;have HX:=aC (Yz hX (Yz ab bt));have HT:=aC th;clear h th hX bt;refine (callsIn_wide (n:=3)).1 ?_;refine callsIn_of_wp_marks func151 rfl trivial ?_ rfl;simp only[ntmps151,List.size_toArray,Y0,Y7,Nat.reduceAdd,Nat.reduceSub,Array.replicate_succ,Array.replicate_zero,List.push_toArray,List.append_toArray,List.nil_append,YH];refine wpIn_wide.2 (Code.wp_mono Tl ?_);generalize r.tg[i].tb=tb at *
 go_upto_region 2 with fail
 change Code.wp _ _ _ _ ((w.alloc (Yh #[V Y a,V Y b] 60)).alloc (Yh #[X9 XU 0 0] 34));generalize (w.alloc (Yh #[V Y a,V Y b] 60)).alloc (Yh #[X9 XU 0 0] 34)=X at *;have ME:=aC (VY (U ⟨tb,3,XU⟩) a b X.drew);have ao:X.drew.heap.size=w.heap.size+2:=ab;rw[ao] at ME
 go_region_with (first
  |(go_at_call 207;refine ME.out.mono ?_;rintro e w1 ⟨rfl,rfl⟩))
 all_goals
  obtain⟨k0,z1,z2,z3,z4⟩:=VA X (X8 (U ⟨tb,3,XU⟩)) (V Y a) (V Y b) 301 3 3;rw[ab] at z1 z2 z3 z4
  go_wp2_with fail
  generalize (((X.alloc (Yh #[X8 (U ⟨tb,3,XU⟩)] 301)).alloc (Yh #[V Y a] 3)).alloc (Yh #[V Y b] 3)).drew=Z at *;have BZ:X0 w.heap.size w Z:=HX.out.1.trans (k0.mono HX.out.1.size);have L0:Hid (LI w Z s aN ([]:J aF.It)):=⟨⟨_,[],(k0.block _ O).trans HX.out.2.2,ik.nil _ _ _,kK.nil s⟩,BZ,by omega⟩;have H:=Kj r (aF.meet a b r.tg[i].T) (fun z hz=>U3 R.out.of R.out.dk.ni hi hz);generalize zw r (aF.meet a b r.tg[i].T) _=xs at H;have MS:=aC (U4 2 r (w.heap.size+2) (w.heap.size+2+1) (w.heap.size+2+2) w.heap.size tb 3 us a b r.tg[i].T Fs xs H Z z1 z2 z3 (aR BZ HT.out.c3) (HT.out.sp.fW BZ (fun k hk=>HT.out.lt k (by simp[hk]))) (fun k hk=>HT.out.lt k (by simp[hk])) O);have ar:=aC H;have h5:w.heap.size<=Z.heap.size:=O
  clear k0 z1 z2 z3 H xa xb ME;refine (wpIn_wide (n:=3)).1 ?_
  refine wpIn_rangeFunc_ownG rfl O (gf:=254) (lb:=#[X8 (U ⟨w.heap.size+2,0,XU⟩),X8 (U ⟨w.heap.size+2+1,0,XU⟩),X8 (U ⟨w.heap.size+2+2,0,XU⟩)]) rfl trivial (enters_of func254 XF rfl) MS.out belowK_t (belowK_b h5) (zr _ _) (fun _=>rfl)
   (fun pre W=>LI w W s aN (pre.map (·.1))) (fun _ _ _=>False) (QM w s r aN h5) (fun _ _ _ _ _ hs _ _=>hs) L0.out
   (fun x=>{ tmps:=#[X8 (U ⟨tb,0,XU⟩),Yd #[V Y a,V Y b],undef,X8 (U ⟨w.heap.size,0,XU⟩),X9 XU 0 0,X8 (U ⟨w.heap.size+1,0,XU⟩),X8 (U ⟨x.1.v,0,XU⟩),X8 (U ⟨tb,0,XU⟩),X8 (U ⟨tb,0,XU⟩),X8 (U ⟨tb,3,XU⟩),X8 (U ⟨w.heap.size,0,XU⟩),V Y a,X8 (U ⟨w.heap.size,1,XU⟩),V Y b,.func (.func 254) #[] #[X8 (U ⟨w.heap.size+2,0,XU⟩),X8 (U ⟨w.heap.size+2+1,0,XU⟩),X8 (U ⟨w.heap.size+2+2,0,XU⟩)],X8 (U ⟨x.1.v,0,XU⟩),undef,undef,undef,undef,undef,undef,undef,undef,undef,undef,undef],defers:=[] }) ?assign ?body ?done ?stop
  case assign =>
   intro l x W K f
   gi_wp2
   exact f
  case body =>
   rintro l pre x W h a9;obtain⟨g,hg,ev,en⟩:=x.2;obtain⟨v,tl,hv,P,t⟩:=h.bx;obtain⟨a1,c1,rfl⟩:=lR P.own;have an:=hv.cell;have a7:=Yk t.small (jM R.out.aY);have dW:=R.out.dk.later h.bl;have CT:=aC (Xk tl _ (w.heap.size+5) g.eb g.e.id W P.own (fun p hp=>by obtain⟨x1,x2,x3⟩:=lR (P.sp p hp).1.own;exact⟨x1,_,x2,x3⟩) (dW.en g hg).1.en.c0 O);have Q:=aC (Yz h (Yz hv (Yz P t)));have a4:=h.sz;have TE:=aC (fun W' (k:X0 w.heap.size w W')=>R.out.mU k hg);clear h hv P t dW;rw[<- ev] at CT;simp only[<- ev] at TE;have ac:=aC (Yz ev en);clear ev en
   cases A:tl.any (fun p=>p.1.id==g.e.id)
   .rw[A] at CT
    gi_wp2
    refine⟨trivial,?_⟩;refine (CallsIn.inRound l (callsIn_wide.2 CT.out)).mono ?_;rintro e w1 ⟨rfl,q⟩
    gi_wp2
    have ad:prog.follows .mixedOrders=XX:=XF
    have F:Hid (X0 w.heap.size w w1/\X0 W.heap.size W w1):=⟨Q.out.1.bl.trans (q.mono Q.out.1.bl.size),q⟩;have af:=aR q an;have aq:=aC (TE.out w1.drew F.out.1.drew);clear TE CT q;refine wpIn_region_any ad ?_;change wpAnyIn _ _ _ _ _ _ _ _ _ (World.drew _);refine wpAnyIn_ready (rs:=[0,1]) XF XA ?_;refine AllReadyIn.cons rfl (fun K f=>?_) (AllReadyIn.cons rfl (fun K f=>?_) AllReadyIn.nil)
    go_simp
    refine f _ _ ?_;clear f K;refine wpAnyIn_ready (rs:=[1]) XF XA ?_;refine AllReadyIn.cons rfl (fun K f=>?_) AllReadyIn.nil
    go_simp
    refine f _ _ ?_;clear f K;refine wpAnyIn_ready (rs:=[2]) XF XA ?_;refine AllReadyIn.cons rfl (fun K f=>?_) AllReadyIn.nil
    rotate_left
    go_simp
    refine f _ _ ?_;clear f K;refine wpAnyIn_ready (rs:=[0,2]) XF XA ?_;refine AllReadyIn.cons rfl (fun K f=>?_) (AllReadyIn.cons rfl (fun K f=>?_) AllReadyIn.nil)
    go_simp
    refine f _ _ ?_;clear f K;refine wpAnyIn_ready (rs:=[2]) XF XA ?_;refine AllReadyIn.cons rfl (fun K f=>?_) AllReadyIn.nil
    all_goals
     go_simp
     refine⟨trivial,(CallsIn.inRound l (callsIn_wide.2 aq.out)).mono ?_⟩;rintro e w2 ⟨v2,rfl,a3,rfl,aa,E⟩;refine f _ _ ?_;clear f K;obtain⟨sa,sc,rfl⟩:=lR aa;simp only[qS];have ae:w2.cell? ⟨w.heap.size+1,0,XU⟩=U (X9 a1 tl.length c1):=aR E af;have a8:w.heap.size+5<=w2.heap.size:=Yk (Yk Q.out.1.sz F.out.2.size) E.size;have OW:=aC (eQ (eQ Q.out.2.2.1.own F.out.2.drew) E);have S2:=aC (Yz aa E);clear aa E
    rotate_left
    refine wpAnyIn_ready (rs:=[0,3]) XF XA ?_;refine AllReadyIn.cons rfl (fun K f=>?_) (AllReadyIn.cons rfl (fun K f=>?_) AllReadyIn.nil)
    go_simp
    refine f _ _ ?_;clear f K;refine wpAnyIn_ready (rs:=[3]) XF XA ?_;refine AllReadyIn.cons rfl (fun K f=>?_) AllReadyIn.nil
    rotate_left 2
    refine wpAnyIn_ready (rs:=[3]) XF XA ?_;refine AllReadyIn.cons rfl (fun K f=>?_) AllReadyIn.nil
    rotate_left
    refine wpAnyIn_ready (rs:=[3]) XF XA ?_;refine AllReadyIn.cons rfl (fun K f=>?_) AllReadyIn.nil
    rotate_left
    all_goals
     go_simp
     refine f _ _ ?_;clear f K;have S:=Xq ae (Yh #[V Y g.e.id,V Y g.e.kind,Ya g.e.bA,V Y g.e.aM,X9 sa g.e.aQ.length sc,V Y g.e.bP] 58);obtain⟨V3,I⟩:∃ V3,V3=w2.alloc (Yh #[V Y g.e.id,V Y g.e.kind,Ya g.e.bA,V Y g.e.aM,X9 sa g.e.aQ.length sc,V Y g.e.bP] 58):=⟨_,rfl⟩;rw[<- I] at S;rw[<- I];have AV:Hid (V3=w2.alloc (Yh (gA (g.e,X9 sa g.e.aQ.length sc)).toArray 58)):=aC I;clear I
    rotate_left
    refine wpAnyIn_ready (rs:=[0]) XF XA ?_;refine AllReadyIn.cons rfl (fun K f=>?_) AllReadyIn.nil
    go_simp
    refine f _ _ ?_;clear f K
    all_goals
     refine wpAnyIn_ready (rs:=[4]) XF XA ?_;refine AllReadyIn.cons rfl (fun K f=>?_) AllReadyIn.nil;refine Xt V3 rfl (.tmp 21) (.tmp 24) 34 rfl (w.heap.size+5) 58 i0 _ 6 72 underlying34 al aj ai ag rfl XC (X9 a1 tl.length c1) tl.length (tl.flatMap gA) rfl (by rw[AV.out];exact OW.out.alloc _) ⟨w2.heap.size,0,XU⟩ 1 1 (gA (g.e,X9 sa g.e.aQ.length sc)) rfl rfl (by rw[AV.out];exact ZF (cs:=(gA (g.e,X9 sa g.e.aQ.length sc)).toArray) (cP w2 _)) (by simp[gA,ZG]) XH O (by rw[AV.out];simp;omega) ?_;intro v3 w3 y o;obtain⟨ay,ax,rfl⟩:=lR y;refine f _ _ ?_;clear f K;rw[AV.out] at o;have BX:=VK Q.out.1 Q.out.2.1 Q.out.2.2.1 F.out.2 S2.out.2 _ o;have aw:=BX.cell;have au:=BX.frozen;have G3:=aC (Yz y o);clear y o BX AV S;refine wpAnyIn_ready (rs:=[5]) XF XA ?_;refine AllReadyIn.cons rfl (fun K f=>?_) AllReadyIn.nil
     go_simp
     refine f _ _ ?_;clear f K;refine wpAnyIn_done XF ?_ _;have C:=Q.out;have hL:=VL (B:=Z.heap.size) C.1 C.2.1 C.2.2.1 C.2.2.2 F.out.2 S2.out.1 S2.out.2 _ G3.out.2 G3.out.1 (fun b hb=>R.out.dk.none hb) (z:=x.1) (by rw[ac.out.2];exact A) (R.out.of.mem hg) ac.out.2.symm;refine⟨hL.1,hL.2.1,?_⟩;show LI w _ s aN (List.map (fun x=>x.val) (pre++[x]));rw[Zl];exact hL.2.2
   .rw[A] at CT
    gi_wp2
    refine⟨trivial,?_⟩;refine (CallsIn.inRound l (callsIn_wide.2 CT.out)).mono ?_;rintro e w1 ⟨rfl,q⟩
    gi_wp2
    have C:=Q.out
    exact⟨UY q,q.mono C.1.bl.size,⟨⟨_,tl,(q.block _ C.2.1.lt).trans C.2.1,C.2.2.1.later q,by
     have:=C.2.2.2.Mb (z:=x.1) (by rw[ac.out.2];exact A)
     simpa using this⟩,C.1.bl.trans (q.mono C.1.bl.size),Yk C.1.sz q.size⟩⟩
  case done =>
   rintro D ys W hD rfl h f;obtain⟨v,tl,hv,P,t⟩:=h.bx;have hc:=hv.cell;obtain⟨a1,c1,rfl⟩:=lR P.own
   have HF:Hid (tl.map (·.1)=aA.lO r.tg[i].name a b s.es):=by
    rw[ar.out] at t;have it:=(R.out.of.th i hi).2;have G:=R.out.inv
    obtain⟨p1,p2⟩:=aA.Rx (ys:=tl.map (·.1)) (a:=a) (b:=b) it G.ids (fun e he=>(G.en e he).ri) (fun e he sp hs=>((G.en e he).sp sp hs).1) (by rw[ZE];exact t.len) (fun j hj=>by
     have ak:j<tl.length:=by simpa using hj
     have:=t.at_ j ak
     simpa using this)
    exact aA.J1 G.ids p1 p2
   have HE:Hid (ik W w.heap.size aN (X9 a1 tl.length c1) tl/\X0 w.heap.size w W):=⟨P.base O,h.bl⟩;clear h P t hv
   go_wp2_with fail
   refine T9 ?_;refine⟨by simp,.inl ⟨_,_,rfl,run_takeDeferred f,?_⟩⟩;have kp:X0 W.heap.size W (W.putObj D (.deferred XU))->True:=fun _=>trivial
   refine⟨_,results_tmp rfl _ _ _,_,tl,rfl,HF.out,?_,HE.out.2.trans (belowK_b (w:=w) (zq _) W D _ _ O f rfl rfl)⟩;exact⟨ownsRow_putObj HE.out.1.own _ f rfl,HE.out.1.no,fun p hp=>⟨⟨ownsRow_putObj (HE.out.1.sp p hp).1.own _ f rfl,(HE.out.1.sp p hp).1.no⟩,(HE.out.1.sp p hp).2⟩,HE.out.1.pw⟩
  case stop =>
   rintro D c pre W _ _ h _;exact h.elim
theorem LM(j:dZ s)(h:fS s name 0 fr til≠0):aA.aV s (.list name fr til)=(s,aA.bI.error (fS s name 0 fr til)):=by
 have q:=aA.Ff j.tu name;simp only[aA.aV];unfold fS aA.eB at *
 by_cases c:aA.bW name s.ts=0
 .rw[XS c];simp[c]
 .have o:¬ (aA.bW name s.ts<0):=O
  simp only[c,o] at h ⊢
  by_cases f:til<=fr
  .simp[f]
  .simp[f] at h
theorem Kd(h:fS s name 0 fr til=0):aA.aV s (.list name fr til)=(s,⟨0,0,0,aA.lO name fr til s.es,[],[],[]⟩):=by
 let⟨h1,h2⟩:=rC h;have c:aA.bW name s.ts≠0:=fun e=>by unfold aA.eB at h1;rw[XS e] at h1;omega
 simp only[aA.aV];rw[XR c,XR O];rfl
theorem J2(name:XK)(c:XN)(fr til a b:N):X0 w w (((w.alloc (Yh #[name,c,fr,til] 170)).alloc bB).alloc (Yh #[a,b] 60))/\(((w.alloc (Yh #[name,c,fr,til] 170)).alloc bB).alloc (Yh #[a,b] 60)).heap[w.heap.size+1]?=U bB/\(((w.alloc (Yh #[name,c,fr,til] 170)).alloc bB).alloc (Yh #[a,b] 60)).cell? (w.heap.size+1+1,0)=U ↑a/\(((w.alloc (Yh #[name,c,fr,til] 170)).alloc bB).alloc (Yh #[a,b] 60)).cell? (w.heap.size+1+1,1)=U ↑b/\(((w.alloc (Yh #[name,c,fr,til] 170)).alloc bB).alloc (Yh #[a,b] 60)).heap.size=w.heap.size+3:=by
 have h:=cP (w.alloc (Yh #[name,c,fr,til] 170)) bB;have f:=cP ((w.alloc (Yh #[name,c,fr,til] 170)).alloc bB) (Yh #[a,b] 60);rw[ZM] at h;rw[ZM,ZM] at f;refine⟨(bC.alloc XA _).alloc (by rw[ZM,ZM];omega) _,(Below.heap_alloc _ _ _ (by rw[ZM,ZM];omega)).trans h,?_,?_,by rw[ZM,ZM,ZM]⟩
 .simp only[YF,f];rfl
 .simp only[YF,f];rfl
theorem Td(h:eh w d s r aN)(name:XK)(hn:name.size<=1000)(wi:XN)(fr til:N):
  X4 prog 98 #[d,Yd #[name,wi,fr,til]] w fun e w'=>∃ v,e=Yg v/\dS w d aN (aA.aV s (.list name (if wi then fr else 0) (if wi then til else 1048320))) v w':=by
 have o:=aC h;clear h
 cases wi
 .simp only[reduceIte,Bool.false_eq_true];obtain⟨T,A,D,C,aa⟩:=J2 (w:=w) name XW fr til 0 1048320;have G:=aC (vz (o.dk.later T) o.of o.aY name hn 0 0 1048320);have z:=aC (Yz T A);clear T A
  go_in
  unfold bB at G z D C aa
  go_upto_region 9 with fail
  generalize (((w.alloc (Yh #[name,XW,fr,til] 170)).alloc (Yh #[V Y 0,V Y 0,V Y 0,(),(),(),()] 40)).alloc (Yh #[V Y 0,V Y 1048320] 60))=X at *;refine G.mono ?_;rintro e w1 ⟨hp,q⟩;have F:Hid (X0 w w w1):=z.1.trans (q.mono z.1.size);have QX:Hid (Q7 w1 (w.heap.size+1)):=(Q7.of z.2).later (q.block _ O);rcases hp with ⟨t,rfl⟩|⟨t,i,hi,e1,e2,rfl⟩
  .have HD:=aC (LM o.aY t);generalize fS s name 0 0 1048320=y at *;have ac:(y != 0)=XX:=by simpa using t
   clear t G z q D C
   go_wp21
   refine aK (jN y w1) fun w2 j=>?_;have E:=aC (o.refuse F QX j HD);obtain⟨S,R,Q,P,K,I,H,fq⟩:=E.1;simp only[bJ]
   go_wp21
   exact cL results98 ⟨S,R,Q,P,K,I,H,fq⟩ ⟨_,rfl,E.2⟩
  .have HD:=aC (Kd t);have y1:=aR q D;have y2:=aR q C;have ab:w+3<=w1.heap.size:=by have:=q.size;omega
   have TL:=aC (Ki (w:=w1) (s:=s) ⟨o.dk.later F,o.of,o.wl,o.hl,o.inv⟩ hi 0 1048320);rw[e1] at TL;clear t G z q D C e1 e2
   go_wp21
   refine TL.mono ?_;rintro e w2 ⟨v,l,rfl,hl,y,j⟩;obtain⟨a1,c1,rfl⟩:=lR y.own;have hq:=j.block (w.heap.size+1) (Yl _ _ QX.q0)
   have E:Hid (∀ a b c e f g i,dS w d aN (aA.aV s (.list name 0 1048320)) (bJ 0 0 0 (X9 a1 l.length c1) () () ()) (cR w2 (w.heap.size+1) a b c e f g i)):=fun a b c e f g i=>by
    rw[HD,<- hl];exact o.iQ (F.trans (j.mono F.size)) O (y.base O) a b c e f g i
   obtain⟨S,R,Q,P,K,I,H,fq⟩:=QX.later hq;clear TL y hl j hq
   go_wp21
   exact cL results98 ⟨S,R,Q,P,K,I,H,fq⟩ ⟨_,rfl,E _ _ _ _ _ _ _⟩
 .simp only[if_true];obtain⟨T,A,D,C,aa⟩:=J2 (w:=w) name XX fr til fr til;have G:=aC (vz (o.dk.later T) o.of o.aY name hn 0 fr til);have z:=aC (Yz T A);clear T A
  go_in
  unfold bB at G z D C aa
  go_upto_region 9 with fail
  generalize (((w.alloc (Yh #[name,XX,fr,til] 170)).alloc (Yh #[V Y 0,V Y 0,V Y 0,(),(),(),()] 40)).alloc (Yh #[fr,til] 60))=X at *;refine G.mono ?_;rintro e w1 ⟨hp,q⟩;have F:Hid (X0 w w w1):=z.1.trans (q.mono z.1.size);have QX:Hid (Q7 w1 (w.heap.size+1)):=(Q7.of z.2).later (q.block _ O);rcases hp with ⟨t,rfl⟩|⟨t,i,hi,e1,e2,rfl⟩
  .have HD:=aC (LM o.aY t);generalize fS s name 0 fr til=y at *;have ac:(y != 0)=XX:=by simpa using t
   clear t G z q D C
   go_wp21
   refine aK (jN y w1) fun w2 j=>?_;have E:=aC (o.refuse F QX j HD);obtain⟨S,R,Q,P,K,I,H,fq⟩:=E.1;simp only[bJ]
   go_wp21
   exact cL results98 ⟨S,R,Q,P,K,I,H,fq⟩ ⟨_,rfl,E.2⟩
  .have HD:=aC (Kd t);have y1:=aR q D;have y2:=aR q C;have ab:w+3<=w1.heap.size:=by have:=q.size;omega
   have TL:=aC (Ki (w:=w1) (s:=s) ⟨o.dk.later F,o.of,o.wl,o.hl,o.inv⟩ hi fr til);rw[e1] at TL;clear t G z q D C e1 e2
   go_wp21
   refine TL.mono ?_;rintro e w2 ⟨v,l,rfl,hl,y,j⟩;obtain⟨a1,c1,rfl⟩:=lR y.own;have hq:=j.block (w.heap.size+1) (Yl _ _ QX.q0)
   have E:Hid (∀ a b c e f g i,dS w d aN (aA.aV s (.list name fr til)) (bJ 0 0 0 (X9 a1 l.length c1) () () ()) (cR w2 (w.heap.size+1) a b c e f g i)):=fun a b c e f g i=>by
    rw[HD,<- hl];exact o.iQ (F.trans (j.mono F.size)) O (y.base O) a b c e f g i
   obtain⟨S,R,Q,P,K,I,H,fq⟩:=QX.later hq;clear TL y hl j hq
   go_wp21
   exact cL results98 ⟨S,R,Q,P,K,I,H,fq⟩ ⟨_,rfl,E _ _ _ _ _ _ _⟩
theorem V4(h:eh w d s rw_ aN)(name:XK)(K:name.size<=1000)(A:XN)(fr til a b:N)(G:(if A then fr else 0)=a)(F:(if A then til else 1048320)=b):
  X4 prog 64 #[d,Ye 170 (Yd #[name,A,fr,til])] w fun e w'=>∃ v,e=Yg v/\dS w d aN (aA.aV s (.list name a b)) v w':=by
 have D:=aC (h.oF (Yh #[name,A,fr,til] 170));have C:=aC (Td D.1 name K A fr til);rw[G,F] at C;clear h G F;unfold bB at C D;have q:=oS 170 XC;have z:=pI 170 XC;have y:=qH 170 XC;have t:=qG 170 XC;have f:=sk 170 XC;have c:=tK 170 XC;have j:=uI 170 XC;have o:=nY underlying170
 go_in
 go_wp21
 refine C.mono ?_;rintro e w2 ⟨v,rfl,H⟩;obtain⟨er,at_,Q,a1,a2,a3,a4,X,T,S,R,c1,c2,c3,c4,rfl,I,E⟩:=H.ow D.2;have P:=aC E;clear H E C q z y t f c j o;let⟨q0,q1,q2,q3,q4,q5,q6,fq⟩:=I;simp only[bJ]
 go_wp21
 exact cL results64 ⟨q0,q1,q2,q3,q4,q5,q6,fq⟩ ⟨_,rfl,P⟩
namespace aA
theorem EJ(ts:J (XK × N)):∀ (r c:J aO),(ey ts c r).2.length<=r.length
 |[],c=>by simp[ey]
 |e :: r,c=>by
  simp only[ey]
  split
  .show ((ey ts (c++[dI e]) r).2.length+1)<=_;have:=EJ ts r (c++[dI e]);simp;omega
  .have:=EJ ts r (c++[e]);simp;omega
theorem zy(ts:J (XK × N))(es:J aO):(dB ts es).2.length<=es.length:=EJ ts es []
theorem KJ(ts:J (XK × XQ))(tq:XQ)(N:M):∀ (k:M)(es:J aO)(now:XQ),es.length<=N->(fg ts k es now tq).2.2.length<=k*N
 |0,es,now,_=>by simp[fg]
 |k+1,es,now,h=>by
  simp only[fg]
  split
  .have c:(es.filter fun e=>!bO (dP tq es) e).length<=N:=Yk (List.length_filter_le _ _) h;have j:=zy ts (es.filter fun e=>!bO (dP tq es) e);have f:=KJ ts tq N k (dB ts (es.filter fun e=>!bO (dP tq es) e)).1 (dP tq es) (by rw[xz];exact c);rw[YZ,Nat.succ_mul];omega
  .simp
theorem Cv(h:dZ s)(l:gn):(aV s l).2.granted.length<=50000:=by
 have c:=jM h
 cases l with
 |tick n =>
  simp only[aV]
  split
  .simp[bI.error]
  .have f:=KJ s.ts (s.now+n) 60 (s.es.length+1) s.es s.now c;show (fg s.ts (s.es.length+1) s.es s.now (s.now+n)).2.2.length<=50000;have:(s.es.length+1)*60<=61*60:=Nat.mul_le_mul_right _ O;omega
 |bF id=>simp only[aV];split <;> (try split) <;> simp[bI.error,bI.num]
 |cancel id=>simp only[aV];split <;> simp[bI.error,bI.num]
 |waiting=>simp[aV,bI.num]
 |clock=>simp[aV,bI.num]
 |bA=>simp only[aV];split <;> (try split) <;> simp[bI.error,bI.num]
 |enter=>simp only[aV,kB];split <;> simp[bI.error,bI.num]
 |series=>simp only[aV,kB];split <;> simp[bI.error,bI.num]
 |list=>simp only[aV];split <;> (try split) <;> simp[bI.error,bI.num]
 |dN=>simp only[aV];split <;> (try split) <;> simp[bI.error,bI.num]
 |find=>simp only[aV];split <;> (try split) <;> simp[bI.error,bI.num]
 |expand=>simp only[aV];split <;> simp[bI.error,bI.num]
end aA
inductive LV:XZ->aA.gn->Prop where
 |bA (name:XK) (hn:name.size<=1000) (u:XQ):LV (Ye 149 (Yd #[Ya name,X7 Yf u])) (.bA name u)
 |book (name:XK) (hn:name.size<=1000) (u fr til:XQ):LV (Ye 154 (Yd #[Ya name,X7 Yf u,X7 Yf fr,X7 Yf til])) (.enter 1 name u fr til 0)
 |hold (name:XK) (hn:name.size<=1000) (u fr til long:XQ):LV (Ye 156 (Yd #[Ya name,X7 Yf u,X7 Yf fr,X7 Yf til,X7 Yf long])) (.enter 2 name u fr til long)
 |wait (name:XK) (hn:name.size<=1000) (u fr til long:XQ):LV (Ye 157 (Yd #[Ya name,X7 Yf u,X7 Yf fr,X7 Yf til,X7 Yf long])) (.enter 3 name u fr til long)
 |series (name:XK) (hn:name.size<=1000) (u:XQ) (r:Rd.cA):LV (Ye 165 (Yd #[Ya name,X7 Yf u,X7 Yf r.pc,X7 Yf r.ev,Yb (aL r.acc 0),Yb (aL r.acc 1),Yb (aL r.acc 2),Yb (aL r.acc 3),Yb (aL r.acc 4),Yb (aL r.acc 5),Yb (aL r.acc 6),X7 Yf r.fr,X7 Yf r.mn,X7 Yf r.mi,X7 Yf r.ti,X7 Yf r.un])) (.series name u r)
 |bF (id:XQ):LV (Ye 167 (Yd #[X7 Yf id])) (.bF id)
 |cancel (id:XQ):LV (Ye 168 (Yd #[X7 Yf id])) (.cancel id)
 |list (name:XK) (hn:name.size<=1000) (wi:XN) (fr til a b:XQ) (ha:(if wi then fr else 0)=a) (hb:(if wi then til else 1048320)=b):LV (Ye 170 (Yd #[Ya name,Yb wi,X7 Yf fr,X7 Yf til])) (.list name a b)
 |waiting:LV (Ye 173 (Yd #[])) (.waiting)
 |dN (name:XK) (hn:name.size<=1000) (fr til:XQ):LV (Ye 176 (Yd #[Ya name,X7 Yf fr,X7 Yf til])) (.dN name fr til)
 |find (name:XK) (hn:name.size<=1000) (u long fr til:XQ):LV (Ye 178 (Yd #[Ya name,X7 Yf u,X7 Yf long,X7 Yf fr,X7 Yf til])) (.find name u long fr til)
 |expand (r:Rd.cA):LV (Ye 180 (Yd #[X7 Yf r.pc,X7 Yf r.ev,Yb (aL r.acc 0),Yb (aL r.acc 1),Yb (aL r.acc 2),Yb (aL r.acc 3),Yb (aL r.acc 4),Yb (aL r.acc 5),Yb (aL r.acc 6),X7 Yf r.fr,X7 Yf r.mn,X7 Yf r.mi,X7 Yf r.ti,X7 Yf r.un])) (.expand r)
 |tick (n:XQ):LV (Ye 182 (Yd #[X7 Yf n])) (.tick n)
 |clock:LV (Ye 183 (Yd #[])) (.clock)
theorem pF{s:XK}(h:bU x s=XX):s=x:=by
 have e:s.toList=x.toList:=eq_of_beq h;rw[ByteArray.toList_eq,ByteArray.toList_eq] at e;exact aB.qT e
theorem Iq{B:XK->XN}(h:n<ws.length)(c:B (ws.getD n ByteArray.empty)=XX):eC ws B (n,XW)=(n+1,XW):=by
 simp only[eC,eS,eO,eU,cU,c,h,decide_true,Bool.not_false,Bool.and_self,if_true]
theorem EF(ws:J XK)(st:M × XN):aW ws [] st=st:=rfl
theorem JQ{B:XK->XN}{wr:XN}(h:eU ws n wr B=XX):wr=XW/\n<ws.length/\B (ws.getD n ByteArray.empty)=XX:=by
 unfold eU cU at h;simp only[ZR,Bool.not_eq_true',decide_eq_true_eq] at h;exact⟨h.1.1,h.1.2,h.2⟩
theorem Ei{B:XK->XN}(h:(eC ws B st).2=XW):eU ws st.1 st.2 B=XX:=by
 unfold eC eO at h
 cases e:eU ws st.1 st.2 B
 .rw[e] at h;simp at h
 .rfl
theorem kS{B:XK->XN}(h:(eC ws B st).2=XW):st.2=XW:=(JQ (Ei h)).1
theorem sZ{B:XK->XN}(h:(eC ws B st).2=XW):∃ x,B x=XX/\∀ c,cB ws st B c=c x:=by
 have t:=Ei h;exact⟨_,(JQ t).2.2,fun c=>by unfold cB fU;rw[t];rfl⟩
theorem qO(h:dM x=XX):1<=cQ x/\cQ x<=9:=by
 unfold dM fF at h;simp only[ZR,decide_eq_true_eq] at h;exact⟨h.1.2,h.2⟩
theorem wQ(h:fc x=XX):1<=cQ x/\cQ x<=1048320:=by
 unfold fc fF at h;simp only[ZR,decide_eq_true_eq] at h;exact⟨h.1.2,h.2⟩
theorem zj(h:eT x=XX):1<=cQ x/\cQ x<=99:=by
 unfold eT fF at h;simp only[ZR,decide_eq_true_eq] at h;exact⟨h.1.2,h.2⟩
theorem Ie(x:XK):0<=cQ x/\cQ x<=9999999:=aB.mB _
theorem jK(h:bL x=XX):0<=eu x/\eu x<=1048320:=by
 unfold eu;rw[XS h];unfold bL at h;simp only[ZR,decide_eq_true_eq] at h;exact h.2
theorem IC(h:aB.dC x=XX):0<=gN x/\gN x<728:=by
 unfold gN;rw[XS h];unfold aB.dC at h;exact (of_decide_eq_true h).2
theorem QN(h:aB.ef x=XX):0<=aB.fZ x/\aB.fZ x<1440:=by
 unfold aB.fZ;rw[XS h];unfold aB.ef at h;let⟨_,_,_,_,h1,h2⟩:=of_decide_eq_true h;have:=aB.mB (aB.part x 0 2);have:=aB.mB (aB.part x 3 5);omega
theorem Xs(h:bV x=XX):x.size<=1000:=by
 unfold bV aB.fQ at h;rw[ZR] at h;have:=of_decide_eq_true h.1;have e:x.size=x.data.toList.length:=by rw[Array.length_toList];rfl
 omega
theorem Je{s:M × XN}(h:oU ws st ti un s)(j:s.2=XW):st.2=XW/\0<=ti/\ti<=99/\0<=un/\un<728:=by
 cases h with
 |times h =>
  have c:(eC ws eT (eK st)).2=XW:=j;let⟨x,hx,hv⟩:=sZ c;have:=zj hx;have f:(eK st).2=XW:=kS c;rw[hv cQ];exact⟨f,O,O,O,O⟩
 |til h1 h =>
  have c:(eC ws aB.dC (eK st)).2=XW:=j;let⟨x,hx,hv⟩:=sZ c;have:=IC hx;have f:(eK st).2=XW:=kS c;rw[hv gN];exact⟨f,O,O,O,O⟩
 |none h1 h=>cases j
theorem UH{ev:N}{s:M × XN}(h:ph ws st pc ev acc s)(j:s.2=XW):st.2=XW/\1<=pc/\pc<=3/\1<=ev/\ev<=99:=by
 cases h with
 |daily h =>
  have c:(eC ws eT (eK st)).2=XW:=j;let⟨x,hx,hv⟩:=sZ c;have:=zj hx;have f:(eK st).2=XW:=kS c;rw[hv cQ];exact⟨f,O,O,O,O⟩
 |weekly h1 h acc ha =>
  have c:(eC ws aB.eJ (eC ws eT (eK st))).2=XW:=j;have o:=kS c;let⟨x,hx,hv⟩:=sZ o;have:=zj hx;have f:(eK st).2=XW:=kS o;rw[hv cQ];exact⟨f,O,O,O,O⟩
 |monthly g1 g2 g =>
  have c:(eC ws eT (eK st)).2=XW:=j;let⟨x,hx,hv⟩:=sZ c;have:=zj hx;have f:(eK st).2=XW:=kS c;rw[hv cQ];exact⟨f,O,O,O,O⟩
 |none g1 g2 g=>cases j
theorem Eo{ev:N}{s:M × XN}(h:lG ws st pc ev acc fr mn mi ti un s):∃ c,ph ws st pc ev acc c/\oU ws (nL ws c) ti un s/\fr=cB ws (aW ws [bU dQ] c) aB.dC gN/\mn=cB ws (aW ws [bU dQ,aB.dC,bU eP] c) aB.ef aB.fZ/\mi=cB ws (aW ws [bU dQ,aB.dC,bU eP,aB.ef,bU gM] c) fc cQ:=by
 cases h
 exact⟨_,by assumption,by assumption,rfl,rfl,rfl⟩
theorem Kn{ev:N}{s:M × XN}(h:lG ws st pc ev acc fr mn mi ti un s)(F:s.2=XW):st.2=XW/\Rd.fY ⟨pc,ev,acc,fr,mn,mi,ti,un⟩:=by
 obtain⟨c,D,E,rfl,rfl,rfl⟩:=Eo h;let⟨hm,t0,t1,u0,u1⟩:=Je E F;have f:(eC ws fc (eC ws (bU gM) (eC ws aB.ef (eC ws (bU eP) (eC ws aB.dC (eC ws (bU dQ) c)))))).2=XW:=hm;have z:=kS f;have j:=kS z;have A:=kS j;have o:=kS A;have C:=kS o;let⟨hs,p1,p3,e1,e2⟩:=UH D (kS C);let⟨xi,hi,vi⟩:=sZ f;let⟨xm,hx,vm⟩:=sZ j;let⟨xd,hd,vd⟩:=sZ o;have y:=wQ hi;have t:=QN hx;have q:=IC hd;refine⟨hs,⟨p1,p3,e1,e2,?_,?_,?_,?_,?_,?_,t0,t1,u0,u1⟩⟩
 .show 0<=cB ws (eC ws (bU dQ) c) aB.dC gN;rw[vd];exact q.1
 .show cB ws (eC ws (bU dQ) c) aB.dC gN<728;rw[vd];exact q.2
 .show 0<=cB ws (eC ws (bU eP) (eC ws aB.dC (eC ws (bU dQ) c))) aB.ef aB.fZ;rw[vm];exact t.1
 .show cB ws (eC ws (bU eP) (eC ws aB.dC (eC ws (bU dQ) c))) aB.ef aB.fZ<1440;rw[vm];exact t.2
 .show 1<=cB ws (eC ws (bU gM) (eC ws aB.ef (eC ws (bU eP) (eC ws aB.dC (eC ws (bU dQ) c))))) fc cQ;rw[vi];exact y.1
 .show cB ws (eC ws (bU gM) (eC ws aB.ef (eC ws (bU eP) (eC ws aB.dC (eC ws (bU dQ) c))))) fc cQ<=1048320;rw[vi];exact y.2
theorem QH(h:bS ws 0 XW x=XX)(y:XK):bS ws 0 XW y=(x.toList==y.toList):=by
 unfold bS at h ⊢;rw[ZR] at h;have e:=eq_of_beq h.2;rw[h.1,e,Bool.true_and]
def qK:XZ->M
 |.iface t _=>t
 |_=>0
def Fw:J (XK × M):=[(lN,149),(lI,154),(lF,156),(sE,157),(iS,165),(lM,167),(lJ,168),(eL,170),(sN,173),(lH,176),(lD,178),(jI,180),(mh,182),(mq,183)]
def jO(f:XK->XN):M:=((Fw.find? fun p=>f p.1).map (·.2)).getD 0
theorem mN(h:bS ws 0 XW x=XX):jO (bS ws 0 XW)=jO (fun y=>x.toList==y.toList):=by
 rw[show bS ws 0 XW=fun y=>x.toList==y.toList from funext (QH h)]
theorem iw.tag{s:M × XN}(h:iw ws v s):qK v=jO (bS ws 0 XW):=by
 cases h with
 |none h0 h1 h2 h3 h4 h5 h6 h7 h8 h9 h10 h11 h12 h13=>simp[qK,jO,Fw,h0,h1,h2,h3,h4,h5,h6,h7,h8,h9,h10,h11,h12,h13]
 |bA h=>rw[mN h];exact (by decide +kernel:149=jO (fun y=>lN.toList==y.toList))
 |book h=>rw[mN h];exact (by decide +kernel:154=jO (fun y=>lI.toList==y.toList))
 |hold h=>rw[mN h];exact (by decide +kernel:156=jO (fun y=>lF.toList==y.toList))
 |wait h=>rw[mN h];exact (by decide +kernel:157=jO (fun y=>sE.toList==y.toList))
 |series h=>rw[mN h];exact (by decide +kernel:165=jO (fun y=>iS.toList==y.toList))
 |bF h=>rw[mN h];exact (by decide +kernel:167=jO (fun y=>lM.toList==y.toList))
 |cancel h=>rw[mN h];exact (by decide +kernel:168=jO (fun y=>lJ.toList==y.toList))
 |list0 h=>rw[mN h];exact (by decide +kernel:170=jO (fun y=>eL.toList==y.toList))
 |list1 h=>rw[mN h];exact (by decide +kernel:170=jO (fun y=>eL.toList==y.toList))
 |waiting h=>rw[mN h];exact (by decide +kernel:173=jO (fun y=>sN.toList==y.toList))
 |dN h=>rw[mN h];exact (by decide +kernel:176=jO (fun y=>lH.toList==y.toList))
 |find h=>rw[mN h];exact (by decide +kernel:178=jO (fun y=>lD.toList==y.toList))
 |expand h=>rw[mN h];exact (by decide +kernel:180=jO (fun y=>jI.toList==y.toList))
 |tick h=>rw[mN h];exact (by decide +kernel:182=jO (fun y=>mh.toList==y.toList))
 |clock h=>rw[mN h];exact (by decide +kernel:183=jO (fun y=>mq.toList==y.toList))
theorem Re{s:M × XN}(h:oU ws st ti un s)(c:oU ws st ti' un' s'):s=s'/\ti=ti'/\un=un':=by
 cases h <;> cases c <;> first|exact⟨rfl,rfl,rfl⟩|(simp_all;done)
theorem Tn{ev:N}{s:M × XN}(h:ph ws st pc ev acc s)(c:ph ws st pc' ev' acc' s'):s=s'/\pc=pc'/\ev=ev'/\(s.2=XW->acc=acc'):=by
 cases h with
 |daily h=>cases c <;> first|exact⟨rfl,rfl,rfl,fun _=>rfl⟩|(simp_all;done)
 |monthly h1 f h=>cases c <;> first|exact⟨rfl,rfl,rfl,fun _=>rfl⟩|(simp_all;done)
 |none h1 f h=>cases c <;> first|exact⟨rfl,rfl,rfl,fun _=>rfl⟩|(simp_all;done)
 |weekly h1 h acc ha =>
  cases c with
  |daily g=>rw[g] at h1;cases h1
  |weekly g1 g acc' ga =>
   refine⟨rfl,rfl,rfl,fun f=>?_⟩;have t:eU ws (aW ws [eT] (eK st)).1 (aW ws [eT] (eK st)).2 aB.eJ=XX:=Ei (B:=aB.eJ) (st:=aW ws [eT] (eK st)) f;exact ZN ((ha t).symm.trans (ga t))
  |monthly g1 g2 g=>rw[h] at g2;cases g2
  |none g1 g2 g=>rw[h] at g2;cases g2
theorem Ji{ev:N}{s:M × XN}{j c f:N}(h:lG ws st pc ev acc fr mn mi ti un s)(G:lG ws st pc' ev' acc' j c f ti' un' s'):
  s=s'/\pc=pc'/\ev=ev'/\(s.2=XW->acc=acc')/\fr=j/\mn=c/\mi=f/\ti=ti'/\un=un':=by
 obtain⟨z,C,t,rfl,rfl,rfl⟩:=Eo h;obtain⟨y,o,q,rfl,rfl,rfl⟩:=Eo G;obtain⟨rfl,rfl,rfl,E⟩:=Tn C o;obtain⟨rfl,rfl,rfl⟩:=Re t q;refine⟨rfl,rfl,rfl,fun F=>E ?_,rfl,rfl,rfl,rfl,rfl⟩;have D:=(Je t F).1;have A:(eC ws fc (eC ws (bU gM) (eC ws aB.ef (eC ws (bU eP) (eC ws aB.dC (eC ws (bU dQ) z)))))).2=XW:=D;exact kS (kS (kS (kS (kS (kS A)))))
theorem Aa{s:M × XN}(j:iw ws v s)(c:iw ws v' s'):s=s'/\(s.2=XW->v=v'):=by
 have e:qK v=qK v':=j.tag.trans c.tag.symm
 cases j with
 |series h pc ev acc fr mn mi ti un s hr =>
  cases c with
  |series h' pc' ev' acc' fr' mn' mi' ti' un' s' hr' =>
   obtain⟨rfl,rfl,rfl,f,rfl,rfl,rfl,rfl,rfl⟩:=Ji hr hr';exact⟨rfl,fun c=>by rw[f c]⟩
  |_=>exact XT e (by simp[qK])
 |expand h pc ev acc fr mn mi ti un s hr =>
  cases c with
  |expand h' pc' ev' acc' fr' mn' mi' ti' un' s' hr' =>
   obtain⟨rfl,rfl,rfl,f,rfl,rfl,rfl,rfl,rfl⟩:=Ji hr hr';exact⟨rfl,fun c=>by rw[f c]⟩
  |_=>exact XT e (by simp[qK])
 |list0 h hm =>
  cases c with
  |list0 h' hm'=>exact⟨rfl,fun _=>rfl⟩
  |list1 h' hm'=>rw[hm] at hm';cases hm'
  |_=>exact XT e (by simp[qK])
 |list1 h hm =>
  cases c with
  |list0 h' hm'=>rw[hm] at hm';cases hm'
  |list1 h' hm'=>exact⟨rfl,fun _=>rfl⟩
  |_=>exact XT e (by simp[qK])
 |_=>cases c <;> first|exact⟨rfl,fun _=>rfl⟩|exact XT e (by simp[qK])
theorem Eh{t:XK}{e e':Ending}(h:oj t e)(f:oj t e'):e=e':=by
 cases h with
 |long h =>
  cases f with
  |long f=>rfl
  |bad f=>omega
  |rW f=>omega
 |bad h v st hl j =>
  cases f with
  |long f=>omega
  |bad f v' st' hl' c=>obtain⟨rfl,_⟩:=Aa hl hl';rfl
  |rW f v' st' hl' h2 c =>
   obtain⟨rfl,_⟩:=Aa hl hl';rcases j with j|j
   .rw[h2] at j;cases j
   .rw[c] at j;cases j
 |rW h v st hl h2 j =>
  cases f with
  |long f=>omega
  |bad f v' st' hl' c =>
   obtain⟨rfl,_⟩:=Aa hl hl';rcases c with c |c
   .rw[h2] at c;cases c
   .rw[j] at c;cases c
  |rW f v' st' hl' h2' c=>obtain⟨rfl,o⟩:=Aa hl hl';rw[o h2]
def Ct(t:XK):(N × N) ⊕ aA.gn->Prop
 |.inl (er,at_)=>er≠0/\(er=1/\at_=0\/er=2/\0<=at_)/\∀ e,oj t e->e=Yg (.tuple #[.nilIface,V Y er,V Y at_])
 |.inr l=>∃ c,(∀ e,oj t e->e=Yg (.tuple #[c,V Y 0,V Y 0]))/\LV c l/\aA.iV l
end Go.Proofs.YtfigmlfdnickmaaGreatDoor
namespace Go.Proofs.YtfigmlfdnickmaaGreatDoor.aB
open Go
theorem JD:∀ (k u:M),u<10 ^ (k+1)->(Lib.decDigits u).length<=k+1
 |0,u,h=>by rw[Lib.decDigits];simp at h;rw[dif_pos h];simp
 |k+1,u,h=>by
  rw[Lib.decDigits]
  split
  .simp
  .have:=JD k (u / 10) (by rw[Nat.pow_succ] at h;omega);simp;omega
def hH(n:N):XK:=⟨(Lib.itoa n).toArray⟩
theorem Fq(n:N)(c:0<=n)(h:n<=9999999):(hH n).size<=7:=by
 rw[<- gI];unfold hH Lib.itoa;rw[XR O];have:=JD 6 n.toNat O
 simpa using this
def pz:M->XK->XK
 |0,t=>t
 |k+1,t=>pz k (⟨#[48]⟩++t)
def mg(n:N)(size:M):XK:=pz (size-(hH n).size) (hH n)
theorem BO:∀ (k:M)(t:XK),(pz k t).size=k+t.size
 |0,t=>by simp[pz]
 |k+1,t=>by
  rw[pz,BO k];have:(⟨#[48]⟩++t:XK).size=1+t.size:=ByteArray.size_append;omega
theorem pJ(n:N)(size:M)(c:0<=n)(h:n<=9999999):(mg n size).size<=size+7:=by
 unfold mg;rw[BO];have:=Fq n c h;omega
theorem BN:∀ (k:M)(t:XK),(pz k t).data.toList=List.replicate k 48++t.data.toList
 |0,t=>rfl
 |k+1,t=>by
  rw[pz,BN k,sY];rw[show (ByteArray.mk #[48]).data.toList=[48] from rfl,<- YU]
  congr 1
  rw[List.replicate_succ']
end Go.Proofs.YtfigmlfdnickmaaGreatDoor.aB
namespace Go.Proofs.YtfigmlfdnickmaaGreatDoor
open Go.RowKit
theorem UM(w:XY)(k:M)(c:Array Obj):X0 w w (Sort.grow (w.drewN k) c) :=
 ⟨rfl,rfl,rfl,by simp[Sort.grow],fun j f=>by simp only[Sort.grow,World.heap_drewN];rw[Array.getElem?_append_left f]⟩
theorem Iz(n:N)(w:XY)(f:Env w)(j:-9223372036854775808<=n)(h:n<=9223372036854775807):
  X4 prog 47 #[n] w fun e w'=>e=Yg (aB.hH n)/\X0 w w w':=by
 refine aK (strconv_Itoa n j h w f.pow) ?_;rintro w' ⟨k,c,rfl⟩;exact⟨rfl,UM w k c⟩
end Go.Proofs.YtfigmlfdnickmaaGreatDoor
namespace Go.Proofs.YtfigmlfdnickmaaGreatDoor.aB
open Go
def pf(x:J (J UInt8) × J UInt8)(c:UInt8):J (J UInt8) × J UInt8:=if c=32 then ((if x.2=[] then x.1 else x.1++[x.2]),[]) else (x.1,x.2++[c])
def Cs(l:J UInt8):J (J UInt8) × J UInt8:=l.foldl pf ([],[])
def qM(x:J (J UInt8) × J UInt8):J (J UInt8):=if x.2=[] then x.1 else x.1++[x.2]
def zQ(l:J UInt8):J (J UInt8):=qM (Cs l)
theorem Tv{a b:XK}(h:a.data.toList=b.data.toList):a=b:=by
 cases a;cases b
 simp only[ByteArray.mk.injEq];exact Array.toList_inj.1 h
theorem sX(s:XK):s.data.toList.length=s.size:=by rw[Array.length_toList];rfl
theorem Il(s:XK)(k:M)(h:k<s.size):eI s k=32↔s.data.toList[k]'(by rw[sX];exact h)=32:=by
 have c:k<s.data.toList.length:=by rw[sX];exact h
 have e:eI s k=((s.data.toList[k]).toNat:N):=by
  unfold eI;rw[List.getD_eq_getElem?_getD,ZV c];rfl
 rw[e];constructor
 .intro f;apply UInt8.toNat_inj.1;show (s.data.toList[k]).toNat=32;omega
 .intro k;rw[k];rfl
theorem Tm(s:XK)(k:M)(h:k<s.size):(s.extract k (k+1)).data.toList=[s.data.toList[k]'(by rw[sX];exact h)]:=by
 have c:k<s.data.toList.length:=by rw[sX];exact h
 rw[ByteArray.data_extract,Array.toList_extract,List.extract_eq_take_drop];rw[Nat.add_sub_cancel_left,ZH c];simp
theorem xU(b:XK):b.size=0↔b.data.toList=[]:=by
 rw[<- sX];exact Y6
theorem IM(s:XK):∀ k:M,k<=s.size->(s.data.toList.take k).foldl pf ([],[])=((kF s k).map (·.data.toList),(fl s k).data.toList)
 |0,_=>by
  have j:=sD s 0;have f:=zG s 0;have t:kF s 0=[]:=Y6.1 O;have q:(fl s 0).data.toList=[]:=(xU _).1 O;simp[t,q]
 |k+1,h=>by
  have ih:=IM s k O;have o:k<s.data.toList.length:=by rw[sX];omega
  rw[Zc o,List.foldl_append,ih];simp only[ZT,List.foldl_nil];unfold pf
  by_cases c:eI s k=32
  .rw[XS ((Il s k O).1 c)];let⟨j,f⟩:=zP s k O c;rw[j,f];refine Prod.ext ?_ rfl;show (if (fl s k).data.toList=[] then _ else _)=_
   by_cases d:(fl s k).size=0
   .rw[XS ((xU _).1 d),XS d,List.append_nil]
   .rw[XR (fun e=>d ((xU _).2 e)),XR d,Zl];rfl
  .rw[XR (fun e=>c ((Il s k O).2 e))];let⟨j,f⟩:=zE s k c;rw[f,<- j,sY,Tm s k O]
theorem VF(s:XK):(aU s).map (·.data.toList)=zQ s.data.toList:=by
 have h:=IM s s.size aI;rw[List.take_of_length_le (by rw[sX];exact zq _)] at h;unfold zQ Cs qM;rw[h,xe,Zl]
 by_cases d:(fl s s.size).size=0
 .rw[XS d,XS ((xU _).1 d)];simp
 .rw[XR d,XR (fun e=>d ((xU _).2 e))];simp
def AD(w:J UInt8):XN:=!w.isEmpty && w.all fun c=>decide (c≠32)
theorem Xo{w:J UInt8}:AD w=XX↔w≠[]/\∀ c∈w,c≠32:=by
 unfold AD;rw[ZR,List.all_eq_true];constructor
 .rintro ⟨j,h⟩;exact⟨fun e=>by simp[e] at j,fun c f=>by simpa using h c f⟩
 .rintro ⟨j,h⟩;exact⟨by cases w <;> simp at j ⊢,fun c f=>by simpa using h c f⟩
theorem Kh{w:J UInt8}(h:∀ c∈w,c≠32):∀ x:J (J UInt8) × J UInt8,w.foldl pf x=(x.1,x.2++w):=by
 induction w with
 |nil=>intro x;simp
 |cons c w ih =>
  intro x;rw[ZT];have:pf x c=(x.1,x.2++[c]):=by unfold pf;rw[XR (h c XA)]
  rw[this,ih (fun d f=>h d (by simp[f]))];simp
theorem Vt(x:J (J UInt8) × J UInt8):pf x 32=(qM x,[]):=by
 unfold pf qM;rw[XS rfl]
end Go.Proofs.YtfigmlfdnickmaaGreatDoor.aB
namespace Go.Proofs.YtfigmlfdnickmaaGreatDoor.aB
open Go
end Go.Proofs.YtfigmlfdnickmaaGreatDoor.aB
namespace Go.Proofs.YtfigmlfdnickmaaGreatDoor
open Go.RowKit
theorem yg{x:N}(f:-9223372036854775808<=x)(c:x<=9223372036854775807):IntKind.i64.wrap x=x:=by
 rw[IntKind.wrap_i64];omega
def mO(c n:N):N:=(if c<0 then -(c+1) else c) % n
theorem LN{c n:N}(f:1<=n):0<=mO c n/\mO c n<n:=⟨Int.emod_nonneg _ O,Int.emod_lt_of_pos _ O⟩
open aA (aO St dL kept eA dI dE im cN cO iu dZ ie bO Inv)
def lr(w:XK)(c f:N):XN:=decide (c<=bT w 1 7/\bT w 1 7<=f)
def bE(sym w:XK):XN :=
 if sym.toList==[78,65,77,69] then aB.fQ w.data.toList else
 if sym.toList==[85,78,73,84,83] then lr w 1 9 else
 if sym.toList==[77,73,78,85,84,69,83] then lr w 1 1048320 else
 if sym.toList==[69,86,69,82,89] then lr w 1 99 else
 if sym.toList==[73,68] then decide (0<=bT w 1 7) else
 if sym.toList==[84,73,77,69] then decide (0<=dX w) else
 if sym.toList==[68,65,84,69] then decide (0<=fM w/\fM w<728) else
 if sym.toList==[77,73,78,85,84,69] then decide (0<=iG w) else
 if sym.toList==[79,78] then aB.eJ w else
 sym.toList==w.toList
theorem Oa(sym w:XK)(W:XY)(f:w.size<=160):
  X4 prog 125 #[Ya sym,Ya w] W fun e w'=>e=Yg (Yb (bE sym w))/\X0 W.heap.size W w':=by
 cases q:(sym.toList==[78,65,77,69])
 case true =>
  go_in
  go_wp2_with fail
  refine (fH w 1 7 W f O O).mono ?_;rintro e w1 ⟨rfl,c⟩
  go_wp2_with fail
  refine (O9 w _ f).mono ?_;rintro e w2 ⟨rfl,rfl⟩;go_wp2;go_ret;exact⟨eV (by simp[bE,q]),c⟩
 cases c1:(sym.toList==[85,78,73,84,83])
 case true =>
  have o:Hid (bE sym w=lr w 1 9):=by show bE sym w=_;simp[bE,q,c1]
  by_cases z:1<=bT w 1 7
  .by_cases y:bT w 1 7<=9
   .go_in
    go_wp2_with fail
    refine (fH w 1 7 W f O O).mono ?_;rintro e w1 ⟨rfl,c⟩;go_wp2;go_ret;exact⟨eV (by rw[o.out,lr,decide_eq_true ⟨z,y⟩]),c⟩
   .go_in
    go_wp2_with fail
    refine (fH w 1 7 W f O O).mono ?_;rintro e w1 ⟨rfl,c⟩;go_wp2;go_ret;exact⟨eV (by rw[o.out,lr,decide_eq_false O];simp;omega),c⟩
  .go_in
   go_wp2_with fail
   refine (fH w 1 7 W f O O).mono ?_;rintro e w1 ⟨rfl,c⟩;go_wp2;go_ret;exact⟨eV (by rw[o.out,lr,decide_eq_false O]),c⟩
 cases t:(sym.toList==[77,73,78,85,84,69,83])
 case true =>
  have o:Hid (bE sym w=lr w 1 1048320):=by show bE sym w=_;simp[bE,q,c1,t]
  by_cases z:1<=bT w 1 7
  .by_cases y:bT w 1 7<=1048320
   .go_in
    go_wp2_with fail
    refine (fH w 1 7 W f O O).mono ?_;rintro e w1 ⟨rfl,c⟩;go_wp2;go_ret;exact⟨eV (by rw[o.out,lr,decide_eq_true ⟨z,y⟩]),c⟩
   .go_in
    go_wp2_with fail
    refine (fH w 1 7 W f O O).mono ?_;rintro e w1 ⟨rfl,c⟩;go_wp2;go_ret;exact⟨eV (by rw[o.out,lr,decide_eq_false O];simp;omega),c⟩
  .go_in
   go_wp2_with fail
   refine (fH w 1 7 W f O O).mono ?_;rintro e w1 ⟨rfl,c⟩;go_wp2;go_ret;exact⟨eV (by rw[o.out,lr,decide_eq_false O]),c⟩
 cases A:(sym.toList==[69,86,69,82,89])
 case true =>
  have o:Hid (bE sym w=lr w 1 99):=by show bE sym w=_;simp[bE,q,c1,t,A]
  by_cases z:1<=bT w 1 7
  .by_cases y:bT w 1 7<=99
   .go_in
    go_wp2_with fail
    refine (fH w 1 7 W f O O).mono ?_;rintro e w1 ⟨rfl,c⟩;go_wp2;go_ret;exact⟨eV (by rw[o.out,lr,decide_eq_true ⟨z,y⟩]),c⟩
   .go_in
    go_wp2_with fail
    refine (fH w 1 7 W f O O).mono ?_;rintro e w1 ⟨rfl,c⟩;go_wp2;go_ret;exact⟨eV (by rw[o.out,lr,decide_eq_false O];simp;omega),c⟩
  .go_in
   go_wp2_with fail
   refine (fH w 1 7 W f O O).mono ?_;rintro e w1 ⟨rfl,c⟩;go_wp2;go_ret;exact⟨eV (by rw[o.out,lr,decide_eq_false O]),c⟩
 cases C:(sym.toList==[73,68])
 case true =>
  go_in
  go_wp2_with fail
  refine (fH w 1 7 W f O O).mono ?_;rintro e w1 ⟨rfl,c⟩;go_wp2;go_ret;exact⟨eV (by simp[bE,q,c1,t,A,C]),c⟩
 cases D:(sym.toList==[84,73,77,69])
 case true =>
  go_in
  go_wp2_with fail
  refine (fH w 1 7 W f O O).mono ?_;rintro e w1 ⟨rfl,c⟩
  go_wp2_with fail
  refine (sj w _ f).mono ?_;rintro e w2 ⟨rfl,h⟩;have j:=c.trans (h.mono c.size);go_wp2;go_ret;exact⟨eV (by simp[bE,q,c1,t,A,C,D]),j⟩
 cases E:(sym.toList==[68,65,84,69])
 case true =>
  have o:Hid (bE sym w=decide (0<=fM w/\fM w<728)):=by show bE sym w=_;simp[bE,q,c1,t,A,C,D,E]
  by_cases z:0<=fM w
  .by_cases y:fM w<728
   .go_in
    go_wp2_with fail
    refine (fH w 1 7 W f O O).mono ?_;rintro e w1 ⟨rfl,c⟩
    go_wp2_with fail
    refine (wK w _ f).mono ?_;rintro e w2 ⟨rfl,h⟩;have j:=c.trans (h.mono c.size);go_wp2;go_ret;exact⟨eV (by rw[o.out,decide_eq_true ⟨z,y⟩]),j⟩
   .go_in
    go_wp2_with fail
    refine (fH w 1 7 W f O O).mono ?_;rintro e w1 ⟨rfl,c⟩
    go_wp2_with fail
    refine (wK w _ f).mono ?_;rintro e w2 ⟨rfl,h⟩;have j:=c.trans (h.mono c.size);go_wp2;go_ret;exact⟨eV (by rw[o.out,decide_eq_false O];simp;omega),j⟩
  .go_in
   go_wp2_with fail
   refine (fH w 1 7 W f O O).mono ?_;rintro e w1 ⟨rfl,c⟩
   go_wp2_with fail
   refine (wK w _ f).mono ?_;rintro e w2 ⟨rfl,h⟩;have j:=c.trans (h.mono c.size);go_wp2;go_ret;exact⟨eV (by rw[o.out,decide_eq_false O]),j⟩
 cases F:(sym.toList==[77,73,78,85,84,69])
 case true =>
  go_in
  go_wp2_with fail
  refine (fH w 1 7 W f O O).mono ?_;rintro e w1 ⟨rfl,c⟩
  go_wp2_with fail
  refine (Cq w _ f).mono ?_;rintro e w2 ⟨rfl,h⟩;have j:=c.trans (h.mono c.size);go_wp2;go_ret;exact⟨eV (by simp[bE,q,c1,t,A,C,D,E,F]),j⟩
 cases G:(sym.toList==[79,78])
 case true =>
  go_in
  go_wp2_with fail
  refine (fH w 1 7 W f O O).mono ?_;rintro e w1 ⟨rfl,c⟩
  go_wp2_with fail
  refine (Bh w _ f).mono ?_;rintro e w2 ⟨⟨acc,rfl,_⟩,h⟩;have j:=c.trans (h.mono c.size);unfold fP;go_wp2;go_ret;exact⟨eV (by simp[bE,q,c1,t,A,C,D,E,F,G]),j.alloc (Yk c.size h.size) _⟩
 go_in
 go_wp2_with fail
 refine (fH w 1 7 W f O O).mono ?_;rintro e w1 ⟨rfl,c⟩;go_wp2;go_ret;exact⟨eV (by simp[bE,q,c1,t,A,C,D,E,F,G]),c⟩
def jZ(i:M):XK:=match i with|0=>⟨#[100,97,105,108,121,32,69,86,69,82,89]⟩|1=>⟨#[119,101,101,107,108,121,32,69,86,69,82,89,32,79,78]⟩|_=>⟨#[109,111,110,116,104,108,121,32,69,86,69,82,89]⟩
def mZ(i:M):XK:=match i with|0=>⟨#[116,105,109,101,115,32,69,86,69,82,89]⟩|_=>⟨#[117,110,116,105,108,32,68,65,84,69]⟩
def FZ:XK:=⟨#[32,102,114,111,109,32,68,65,84,69,32,97,116,32,77,73,78,85,84,69,32,102,111,114,32,77,73,78,85,84,69,83,32]⟩
def wm(ahead:XK)(i k:M):XK:=ahead++⟨#[32]⟩++jZ i++FZ++mZ k
def mb(ahead:XK)(n:M):J XK:=(List.range n).map fun j=>wm ahead (j / 2) (j % 2)
theorem PV(ahead:XK)(n:M):mb ahead (n+1)=mb ahead n++[wm ahead (n / 2) (n % 2)]:=by
 simp[mb,List.range_succ]
theorem GY(i:M):(jZ i).size<=15:=by unfold jZ;split <;> decide
theorem GD(i:M):(mZ i).size<=11:=by unfold mZ;split <;> decide
theorem uH(a b:XK)(m n:M)(f:a.size<=m)(c:b.size<=n):(a++b).size<=m+n:=by
 have:(a++b).size=a.size+b.size:=ByteArray.size_append;omega
theorem yL(a b:XK)(m n:M)(f:a.size<=m)(c:b.size<=n)(h:m+n<=1000):∀ wx,(Op.stringOp .add a b).run prog wx=.ok (a++b) wx:=by
 intro wx;apply run_string_add_sum;omega
theorem Qo{f c size:M}(h:w.ownsRow f e size v n xs)(t:c<=f):w.ownsRow c e size v n xs:=by
 refine⟨h.1,?_⟩;rcases h.2 with y|⟨g,cap,j,o,q,rest⟩
 .exact .inl y
 .exact .inr ⟨g,cap,j,o,Yk t q,rest⟩
theorem Hd(ahead:XK)(w:XY)(C:ahead.size<=20):
  X4 prog 185 #[ahead] w fun e w'=>∃ v,e=Yg v/\w'.ownsRow w 9 1 v 6 ((mb ahead 6).map Ya)/\X0 w w w':=by
 obtain⟨i0,S,K,I,H⟩:=info_parts yH
 go_in
 go_wp2;obtain⟨W,y⟩:∃ W,W=(w.alloc (Yh #[jZ 0,jZ 1,jZ 2] 9)).alloc (Yh #[mZ 0,mZ 1] 9):=⟨_,rfl⟩;simp only[jZ,mZ] at y;rw[<- y];have hB:X0 w w W:=by rw[y];exact bC.alloc XA _
 have hZ:w+2=W.heap.size:=by rw[y];simp
 have cK:∀ i,i<3->W.cell? (w,i)=U (Ya (jZ i)):=fun i hi=>by
  rw[y];rcases (show i=0\/i=1\/i=2 by omega) with rfl|rfl|rfl <;> simp[jZ]
 have cE:∀ i,i<2->W.cell? (w.heap.size+1,i)=U (Ya (mZ i)):=fun i hi=>by
  rw[y];rcases (show i=0\/i=1 by omega) with rfl|rfl <;> simp[mZ]
 have CK:=hide cK;have CE:=hide cE;clear y cK cE
 go_loopw [3,6,7] (fun v i _ wx=>∃ a:M,a<=3/\i=V Y a/\wx.ownsRow (w.heap.size+2) 9 1 v (2*a) ((mb ahead (2*a)).map Ya)/\X0 (w.heap.size+2) W wx) (fun _ i _ _=>3-(intOf i).toNat)
 .exact⟨0,O,rfl,World.ownsRow_nil _ _ _ _,Below.refl _ _⟩
 .obtain⟨a,ac,rfl,o,q⟩:=hrel
  by_cases P:a<3
  .have i1:(0:N)<=(a:N):=Int.natCast_nonneg _;have i2:(a:N)<3:=O
   go_wp2;obtain⟨T,z⟩:∃ T:XY,T=wr:=⟨_,rfl⟩;rw[<- z] at o q ⊢;clear z
   go_loopw [3,7] (fun v k wx=>∃ b:M,b<=2/\k=V Y b/\wx.ownsRow (w.heap.size+2) 9 1 v (2*a+b) ((mb ahead (2*a+b)).map Ya)/\X0 (w.heap.size+2) W wx) (fun _ k _=>2-(intOf k).toNat)
   .exact⟨0,O,rfl,o,q⟩
   .obtain⟨b,ab,rfl,c,f⟩:=hrel
    by_cases Q:b<2
    .have G:=GY a;have ez:=GD b;have c1:wr.cell? (w,a)=U (Ya (jZ a)):=(f.cell (p:=(w,a)) XA).trans (aP CK a P);have c2:wr.cell? (w.heap.size+1,b)=U (Ya (mZ b)):=(f.cell (p:=(w.heap.size+1,b)) XA).trans (aP CE b Q);have i3:(0:N)<=(b:N):=Int.natCast_nonneg _;have i4:(b:N)<2:=O
     have F:u3.ownBlock≠U w.heap.size:=fun e=>by have:=pK c e;omega
     have E:u3.ownBlock≠U (w.heap.size+1):=fun e=>by have:=pK c e;omega
     have aa:=f.size;have s1:∀ wx,(Op.stringOp .add ahead ⟨#[32]⟩).run prog wx=.ok (Ya (ahead++⟨#[32]⟩)) wx:=yL ahead _ 20 1 C XC XC;have s2:∀ wx,(Op.stringOp .add (ahead++⟨#[32]⟩) (jZ a)).run prog wx=.ok (Ya (ahead++⟨#[32]⟩++jZ a)) wx:=yL _ _ 21 15 (uH _ _ 20 1 C XC) G XC;have s3:∀ wx,(Op.stringOp .add (ahead++⟨#[32]⟩++jZ a) ⟨#[32,102,114,111,109,32,68,65,84,69,32,97,116,32,77,73,78,85,84,69,32,102,111,114,32,77,73,78,85,84,69,83,32]⟩).run prog wx=.ok (Ya (ahead++⟨#[32]⟩++jZ a++⟨#[32,102,114,111,109,32,68,65,84,69,32,97,116,32,77,73,78,85,84,69,32,102,111,114,32,77,73,78,85,84,69,83,32]⟩)) wx:=yL _ _ 36 33 (uH _ _ 21 15 (uH _ _ 20 1 C XC) G) XC XC;have s4:∀ wx,(Op.stringOp .add (ahead++⟨#[32]⟩++jZ a++⟨#[32,102,114,111,109,32,68,65,84,69,32,97,116,32,77,73,78,85,84,69,32,102,111,114,32,77,73,78,85,84,69,83,32]⟩) (mZ b)).run prog wx=.ok (Ya (ahead++⟨#[32]⟩++jZ a++⟨#[32,102,114,111,109,32,68,65,84,69,32,97,116,32,77,73,78,85,84,69,32,102,111,114,32,77,73,78,85,84,69,83,32]⟩++mZ b)) wx:=yL _ _ 69 11 (uH _ _ 36 33 (uH _ _ 21 15 (uH _ _ 20 1 C XC) G) XC) ez XC
     go_wp21
     go_region_held3 (fun w'=>w'.cell? (w,a)=U (Ya (jZ a))/\w'.cell? (w.heap.size+1,b)=U (Ya (mZ b)))
      (first
       |go_keep
       |(
        go_split_ands
        refine⟨?_,?_⟩
        ·(rw[h.cell_far _ XG (Ne.symm F)];assumption)
        ·(rw[h.cell_far _ XG (Ne.symm E)];assumption)))
      ((refine step_append_lies _ (by rfl) _ _ _ (by rfl) (w.heap.size+2) 9 i0 _ 1 16 underlying26 S K I H rfl O u3 (2*a+b) ((mb ahead (2*a+b)).map Ya) (by rfl) ((c.alloc _).drew) (wr,0) 1 1 [ahead++⟨#[32]⟩++jZ a++⟨#[32,102,114,111,109,32,68,65,84,69,32,97,116,32,77,73,78,85,84,69,32,102,111,114,32,77,73,78,85,84,69,83,32]⟩++mZ b] (by rfl) (by rfl) (ZF (cs:=#[ahead++⟨#[32]⟩++jZ a++⟨#[32,102,114,111,109,32,68,65,84,69,32,97,116,32,77,73,78,85,84,69,32,102,111,114,32,77,73,78,85,84,69,83,32]⟩++mZ b]) (t:=9) (fr:=(0,0)) (heap_alloc_new wr _)) XI O XH O XG (wr.heap.size+1) XA ?_;intro g cap w1 j h ad X))
     have A:X0 (w.heap.size+2) W w1:=by
      first
       |exact ((f.alloc O _).drew).grown h XG (fun k R=>pK c R)
       |exact (f.alloc O _).grown h XG (fun k R=>pK c R)
     have D:Hid (w1.ownsRow (w.heap.size+2) 9 1 (X9 g (2*a+b+1) cap) (2*a+(b+1)) ((mb ahead (2*a+(b+1))).map Ya)):=by
      show w1.ownsRow _ _ _ _ _ _;rw[show 2*a+(b+1)=2*a+b+1 from by omega,PV,show (2*a+b) / 2=a from by omega,show (2*a+b) % 2=b from by omega,Zl];exact j
     clear j;go_wp2;refine⟨?_,?_⟩
     .first|exact⟨b+1,O,by go_num,D,A⟩|((repeat apply Exists.intro);exact⟨⟨b+1,O,by go_num,D,A⟩,rfl⟩)
     .simp[intOf];omega
    .obtain rfl:b=2:=O
     have D:Hid (wr.ownsRow (w.heap.size+2) 9 1 u3 (2*(a+1)) ((mb ahead (2*(a+1))).map Ya)):=by
      show wr.ownsRow _ _ _ _ _ _;rw[show 2*(a+1)=2*a+2 from by omega];exact c
     clear c;go_wp2;exact⟨⟨a+1,O,by go_num,D,f⟩,by simp[intOf];omega⟩
  .obtain rfl:a=3:=O
   go_wp2;go_ret;exact⟨_,rfl,Qo o O,hB.trans (q.mono O)⟩
def wh:J XK:=[⟨#[116,104,105,110,103,32,78,65,77,69,32,85,78,73,84,83]⟩,⟨#[98,111,111,107,32,78,65,77,69,32,85,78,73,84,83,32,84,73,77,69,32,84,73,77,69]⟩,⟨#[104,111,108,100,32,78,65,77,69,32,85,78,73,84,83,32,84,73,77,69,32,84,73,77,69,32,77,73,78,85,84,69,83]⟩,⟨#[119,97,105,116,32,78,65,77,69,32,85,78,73,84,83,32,84,73,77,69,32,84,73,77,69,32,77,73,78,85,84,69,83]⟩,⟨#[99,111,110,102,105,114,109,32,73,68]⟩,⟨#[99,97,110,99,101,108,32,73,68]⟩,⟨#[108,105,115,116,32,78,65,77,69]⟩,⟨#[108,105,115,116,32,78,65,77,69,32,84,73,77,69,32,84,73,77,69]⟩,⟨#[119,97,105,116,105,110,103]⟩,⟨#[112,101,97,107,32,78,65,77,69,32,84,73,77,69,32,84,73,77,69]⟩,⟨#[102,105,110,100,32,78,65,77,69,32,85,78,73,84,83,32,77,73,78,85,84,69,83,32,84,73,77,69,32,84,73,77,69]⟩,⟨#[116,105,99,107,32,77,73,78,85,84,69,83]⟩,⟨#[99,108,111,99,107]⟩]
def v7:XK:=⟨#[115,101,114,105,101,115,32,78,65,77,69,32,85,78,73,84,83]⟩
def yr:XK:=⟨#[101,120,112,97,110,100]⟩
def lZ:J XK:=wh++mb v7 6++mb yr 6
theorem H9{c size:M}(h:w.ownsRow c e size v n xs)(y:X0 w w w'):w'.ownsRow c e size v n xs:=by
 refine⟨h.1,?_⟩;rcases h.2 with z|⟨g,cap,j,o,t,f,rest⟩
 .exact .inl z
 .refine .inr ⟨g,cap,j,o,t,?_,rest⟩
  have:g<w:=by
   by_cases q:g<w
   .exact q
   .rw[Zw O] at f;cases f
  rw[y.block g this];exact f
theorem Cb{c:M}(h:w.ownsRow c e 1 v n xs)(F:0<n):∃ g cap,v=X9 (U ⟨g,0,Z⟩) n cap/\c<=g/\g<w/\∀ j u,xs[j]?=U u->w.cell? (Addr.add (g,0) j)=U u:=by
 rcases h.2 with ⟨_,I⟩|⟨g,cap,y,z,C,t,G,_,E,ht⟩
 .omega
 .have o:g<w:=by
   by_cases o:g<w
   .exact o
   .rw[Zw O] at t;cases t
  refine⟨g,cap,z,C,o,fun j u q=>?_⟩
  have D:Addr.add (g,0) j=(g,j):=by
   unfold Addr.add;split
   .subst_vars;rfl
   .simp
  have A:j<n:=by
   have H:=h.1;have:=(List.getElem?_eq_some_iff.1 q).1;omega
  have f:y[j]?=U u:=by
   rw[<- ht,List.getElem?_take,XS O] at q
   simpa using q
  rw[D];simp[YF,t,f]
theorem Qa(w:XY):
  X4 prog 124 #[] w fun e w'=>∃ v,e=Yg v/\w'.ownsRow w 9 1 v 25 (lZ.map Ya)/\X0 w w w':=by
 obtain⟨i0,hi,A,z,y⟩:=info_parts yH
 go_in
 go_wp2_with fail
 obtain⟨W,P⟩:∃ W,W=w.alloc (Yh #[Ya ⟨#[116,104,105,110,103,32,78,65,77,69,32,85,78,73,84,83]⟩,Ya ⟨#[98,111,111,107,32,78,65,77,69,32,85,78,73,84,83,32,84,73,77,69,32,84,73,77,69]⟩,Ya ⟨#[104,111,108,100,32,78,65,77,69,32,85,78,73,84,83,32,84,73,77,69,32,84,73,77,69,32,77,73,78,85,84,69,83]⟩,Ya ⟨#[119,97,105,116,32,78,65,77,69,32,85,78,73,84,83,32,84,73,77,69,32,84,73,77,69,32,77,73,78,85,84,69,83]⟩,Ya ⟨#[99,111,110,102,105,114,109,32,73,68]⟩,Ya ⟨#[99,97,110,99,101,108,32,73,68]⟩,Ya ⟨#[108,105,115,116,32,78,65,77,69]⟩,Ya ⟨#[108,105,115,116,32,78,65,77,69,32,84,73,77,69,32,84,73,77,69]⟩,Ya ⟨#[119,97,105,116,105,110,103]⟩,Ya ⟨#[112,101,97,107,32,78,65,77,69,32,84,73,77,69,32,84,73,77,69]⟩,Ya ⟨#[102,105,110,100,32,78,65,77,69,32,85,78,73,84,83,32,77,73,78,85,84,69,83,32,84,73,77,69,32,84,73,77,69]⟩,Ya ⟨#[116,105,99,107,32,77,73,78,85,84,69,83]⟩,Ya ⟨#[99,108,111,99,107]⟩] 9):=⟨_,rfl⟩;rw[<- P];have hB:X0 w w W:=by rw[P];exact (zr _ _).alloc (zq _) _
 have t:W.ownsRow w 9 1 (X9 w 13 13) 13 (wh.map Ya):=by
  refine⟨rfl,.inr ⟨w,13,#[Ya ⟨#[116,104,105,110,103,32,78,65,77,69,32,85,78,73,84,83]⟩,Ya ⟨#[98,111,111,107,32,78,65,77,69,32,85,78,73,84,83,32,84,73,77,69,32,84,73,77,69]⟩,Ya ⟨#[104,111,108,100,32,78,65,77,69,32,85,78,73,84,83,32,84,73,77,69,32,84,73,77,69,32,77,73,78,85,84,69,83]⟩,Ya ⟨#[119,97,105,116,32,78,65,77,69,32,85,78,73,84,83,32,84,73,77,69,32,84,73,77,69,32,77,73,78,85,84,69,83]⟩,Ya ⟨#[99,111,110,102,105,114,109,32,73,68]⟩,Ya ⟨#[99,97,110,99,101,108,32,73,68]⟩,Ya ⟨#[108,105,115,116,32,78,65,77,69]⟩,Ya ⟨#[108,105,115,116,32,78,65,77,69,32,84,73,77,69,32,84,73,77,69]⟩,Ya ⟨#[119,97,105,116,105,110,103]⟩,Ya ⟨#[112,101,97,107,32,78,65,77,69,32,84,73,77,69,32,84,73,77,69]⟩,Ya ⟨#[102,105,110,100,32,78,65,77,69,32,85,78,73,84,83,32,77,73,78,85,84,69,83,32,84,73,77,69,32,84,73,77,69]⟩,Ya ⟨#[116,105,99,107,32,77,73,78,85,84,69,83]⟩,Ya ⟨#[99,108,111,99,107]⟩],rfl,Yi _,?_,Yi _,by decide,rfl,rfl⟩⟩;rw[P];exact heap_alloc_new w _
 clear P;refine (Hd _ W XC).mono ?_;rintro e w1 ⟨v1,rfl,o1,b1⟩;obtain⟨g1,K,rfl,ad,ab,S⟩:=Cb o1 O;have c:=H9 t b1;have H:=hB.trans (b1.mono hB.size);have E:=H.size;clear o1 t hB
 go_wp2_with (first
  |(at_builtin;refine wpList_append_own _ rfl _ _ 26 rfl w 9 i0 (Ya ⟨#[]⟩) 1 16 underlying26 hi A z y rfl XC _ 13 (wh.map Ya) rfl c (g1,0) 6 K ((mb v7 6).map Ya) rfl rfl ?c1 ?c2 ?c3 ?c4 ?c5 ?_))
 case c1=>exact S
 case c2=>intro u C;simp only[Zh] at C;obtain⟨x,_,rfl⟩:=C;rfl
 case c3=>decide
 case c4=>decide
 case c5=>exact E
 intro v2 w2 q h _;have G:X0 w w w2:=H.grown h E (fun k Q=>pK c Q);have T:=G.size;clear h c
 go_wp2_with fail
 refine (Hd _ w2 XC).mono ?_;rintro e w3 ⟨v3,rfl,o3,b3⟩;obtain⟨g3,I,rfl,ac,aa,R⟩:=Cb o3 O;have o:=H9 q b3;have F:=G.trans (b3.mono T);have D:=F.size;clear o3 q
 go_wp2_with (first
  |(at_builtin;refine wpList_append_own _ rfl _ _ 26 rfl w 9 i0 (Ya ⟨#[]⟩) 1 16 underlying26 hi A z y rfl XC v2 (13+6) (wh.map Ya++(mb v7 6).map Ya) rfl o (g3,0) 6 I ((mb yr 6).map Ya) rfl rfl ?c1 ?c2 ?c3 ?c4 ?c5 ?_))
 case c1=>exact R
 case c2=>intro u C;simp only[Zh] at C;obtain⟨x,_,rfl⟩:=C;rfl
 case c3=>decide
 case c4=>decide
 case c5=>exact D
 intro v4 w4 j f _;have X:X0 w.heap.size w w4:=F.grown f D (fun k Q=>pK o Q)
 have HO:Hid (w4.ownsRow w 9 1 v4 25 (lZ.map Ya)):=by
  show w4.ownsRow _ _ _ _ _ _;rw[lZ,Zl,Zl];exact j
 clear j f;go_wp2;go_ret;exact⟨v4,rfl,HO,X⟩
def pre:J XK->J XK->M
 |s :: p,w :: ws=>if bE s w then pre p ws+1 else 0
 |_,_=>0
theorem tH:∀ (p ws:J XK),pre p ws<=p.length/\pre p ws<=ws.length
 |[],_=>by simp[pre]
 |_ :: _,[]=>by simp[pre]
 |s :: p,w :: ws=>by
  unfold pre;have:=tH p ws
  split <;> simp <;> omega
theorem yM:∀ (p ws:J XK)(n:M)(f:n<p.length)(c:n<ws.length),n<pre p ws->bE p[n] ws[n]=XX
 |[],_,_,f,_,_=>by simp at f
 |_ :: _,[],_,_,c,_=>by simp at c
 |s :: p,w :: ws,0,_,_,h=>by
  unfold pre at h
  split at h
  .assumption
  .omega
 |s :: p,w :: ws,n+1,f,c,h=>by
  unfold pre at h
  split at h
  .exact yM p ws n (by simpa using f) (by simpa using c) O
  .omega
theorem GM:∀ (p ws:J XK)(n:M)(f:n<p.length)(c:n<ws.length),n=pre p ws->bE p[n] ws[n]=XW
 |[],_,_,f,_,_=>by simp at f
 |_ :: _,[],_,_,c,_=>by simp at c
 |s :: p,w :: ws,0,_,_,h=>by
  unfold pre at h
  cases j:bE s w
  .exact j
  .rw[XS j] at h;omega
 |s :: p,w :: ws,n+1,f,c,h=>by
  unfold pre at h
  split at h
  .exact GM p ws n (by simpa using f) (by simpa using c) O
  .omega
theorem Ol(h:n<p.length)(f:n<ws.length)(j:n<=pre p ws)(c:bE p[n] ws[n]=XX):n+1<=pre p ws:=by
 by_cases e:n=pre p ws
 .have:=GM p ws n h f e;rw[c] at this;cases this
 .omega
theorem Ok(h:n<p.length)(f:n<ws.length)(j:n<=pre p ws)(c:bE p[n] ws[n]=XW):n=pre p ws:=by
 by_cases e:n=pre p ws
 .exact e
 .have:=yM p ws n h f O;rw[c] at this;cases this
def scan:J (J XK)->J XK->M->XM (J XK) × M
 |[],_,m=>(Z,m)
 |p :: ps,ws,m=>if pre p ws=p.length/\pre p ws=ws.length then (U p,0) else scan ps ws (if m<pre p ws then pre p ws else m)
def nX:J (J XK):=lZ.map aB.aU
theorem OV:nX.length=25:=by simp[nX,lZ,wh,mb]
def jW(s:XK):XM (J XK) × M:=scan nX (aB.aU s) 0
theorem Hn:∀ x∈lZ,x.size<=160:=by
 intro x f
 have c:∀ a k,(wm v7 a k).size<=160/\(wm yr a k).size<=160:=fun a k=>by
  have q:=GY a;have o:=GD k;have h:FZ.size=33:=XC
  have z:v7.size=17:=XC
  have y:yr.size=6:=XC
  have t:(⟨#[32]⟩:XK).size=1:=XC
  unfold wm;simp only[ByteArray.size_append];omega
 unfold lZ mb at f;simp only[Yv,Zh] at f;rcases f with (f|⟨j,_,rfl⟩)|⟨j,_,rfl⟩
 .revert x;decide
 .exact (c _ _).1
 .exact (c _ _).2
theorem Cf(s:XK):(aB.aU s).length<=s.size+1:=by
 rw[aB.xe,YZ];have:=aB.sD s s.size
 split <;> simp <;> omega
structure Row(w:XY)(a:XM Addr)(g:M)(xs:J XK):Prop where
 at_:0<xs.length->a=U ⟨g,0,Z⟩
 cells:∀ (j:M) (h:j<xs.length),w.cell? (g,j)=U (Ya xs[j])
theorem Row.later{a:XM Addr}{xs:J XK}(h:Row w a g xs)(f:X0 w w wx):Row wx a g xs :=
 ⟨h.at_,fun j c=>cell_later f (h.cells j c)⟩
theorem B7{o:M}{xs:J XK}(h:w.ownsRow o 9 1 v n (xs.map Ya))(t:n=xs.length):∃ a cap g,v=X9 a xs.length cap/\Row w a g xs:=by
 subst t
 by_cases q:0<xs.length
 .let⟨g,cap,c,_,_,hc⟩:=Cb h q;refine⟨U ⟨g,0,Z⟩,cap,g,c,fun _=>rfl,fun j f=>?_⟩;have:=hc j (Ya xs[j]) (by simp[f])
  have y:Addr.add (g,0) j=(g,j):=by
   unfold Addr.add;split
   .subst_vars;rfl
   .simp
  rwa [y] at this
 .rcases h.2 with ⟨c,z⟩|⟨g,cap,A,c,_⟩
  .exact⟨Z,0,0,by rw[c,z],fun h=>XT h q,fun j f=>XT f O⟩
  .exact⟨_,cap,g,c,fun h=>XT h q,fun j f=>XT f O⟩
def CO:XZ->M
 |.bool XX=>1
 |_=>0
theorem Pj{s:XK}{q:J XK}(j:k<lZ.length)(c:q=aB.aU lZ[k])(h:jW s=scan (nX.drop k) (aB.aU s) mm):
  jW s=if pre q (aB.aU s)=q.length/\pre q (aB.aU s)=(aB.aU s).length then (U q,0) else scan (nX.drop (k+1)) (aB.aU s) (if mm<pre q (aB.aU s) then pre q (aB.aU s) else mm):=by
 have f:k<nX.length:=by unfold nX;simpa using j
 rw[h,ZH f];have e:nX[k]=q:=by rw[c];exact List.getElem_map ..
 rw[e,scan]
theorem Oo{s:XK}(c:25<=k)(h:jW s=scan (nX.drop k) (aB.aU s) mm):jW s=(Z,mm):=by
 rw[h,List.drop_of_length_le (by rw[OV];exact c)];rfl
def RR(s:XK)(w':XY)(e:Ending):Prop :=
 (∃ (p:J XK) (a b:XM Addr) (c d g h:M),jW s=(U p,0)/\e=Yg (.tuple #[X9 a (aB.aU s).length c,X9 b p.length d,V Y 0,V Y 0])/\Row w' a g (aB.aU s)/\Row w' b h p) \/
 (∃ m:M,jW s=(Z,m)/\e=Yg (.tuple #[(),(),V Y 2,V Y m]))
theorem Ci(s:XK)(w:XY)(hs:s.size<=160):
  X4 prog 78 #[s] w fun e w'=>RR s w' e/\X0 w w w':=by
 have ao:=Cf s;have aq:(s.size:N)<=160:=O
 go_in
 go_wp21
 refine (Hb s w hs).mono ?_;rintro e w1 ⟨v1,rfl,o1,b1⟩;obtain⟨aw,cw,gw,rfl,T⟩:=B7 o1 rfl
 go_wp21
 refine (Qa w1).mono ?_;rintro e w2 ⟨v2,rfl,o2,b2⟩;obtain⟨ap,cp,gp,rfl,G⟩:=B7 o2 XC;have S:=T.later b2;have af:=b1.trans (b2.mono b1.size);clear o1 o2 T b1 b2;obtain rfl:=G.at_ XC;rw[show lZ.length=25 from by decide];go_wp2
 go_loopw [8,9,10,11,12] (fun m i _ _ _ wx=>∃ k mm:M,k<=25/\mm<=161/\i=V Y k/\m=V Y mm/\jW s=scan (nX.drop k) (aB.aU s) mm/\Row wx aw gw (aB.aU s)/\Row wx gp gp lZ/\X0 w w wx) (fun _ i _ _ _ _=>25-(intOf i).toNat)
 .exact⟨0,0,O,O,rfl,rfl,rfl,S,G,af⟩
 .obtain⟨k,mm,hk,au,rfl,rfl,ac,rw,rp,C⟩:=hrel;have ag:=hide ac;clear ac S G af
  by_cases aj:k<25
  .have hi:(k:N)<25:=O
   have A:k<lZ.length:=by rw[show lZ.length=25 from by decide];exact aj
   have hc:=rp.cells k A
   go_wp21
   refine (Hb _ _ (Hn _ (zg A))).mono ?_;rintro e w3 ⟨v3,rfl,o3,b3⟩;obtain⟨ax,cx,gx,rfl,rx⟩:=B7 o3 rfl;have R:=rw.later b3;have aa:=rp.later b3;have D:=C.trans (b3.mono C.size);obtain⟨q,hq⟩:∃ q,q=aB.aU lZ[k]:=⟨_,rfl⟩;rw[<- hq] at rx ⊢;have HQ:=hide hq;have ar:q.length<=161:=by rw[hq];have:=Cf lZ[k];have:=Hn _ (zg A);omega
   clear hq o3 rw rp C b3 hc;go_wp2
   go_loopw [11,12] (fun n mo wx=>∃ (n':M) (c:XN),n=V Y n'/\mo=Yb c/\n'<=pre q (aB.aU s)/\(c=XW->n'=pre q (aB.aU s))/\Row wx aw gw (aB.aU s)/\Row wx gp gp lZ/\Row wx ax gx q/\X0 w w wx) (fun n mo _=>CO mo+(q.length-(intOf n).toNat))
   .exact⟨0,XX,rfl,rfl,Zd _,fun h=>XT h XC,R,aa,rx,D⟩
   .obtain⟨n',c,rfl,rfl,hn,ae,t,F,z,y⟩:=hrel;have an:=tH q (aB.aU s)
    have I:(c=XX/\n'<q.length/\n'<(aB.aU s).length)\/c=XW\/(c=XX/\¬ n'<q.length)\/(c=XX/\n'<q.length/\¬ n'<(aB.aU s).length):=by
     cases c
     .simp
     .simp;omega
    have al:=hide ae;clear ae R aa rx D;rcases I with ⟨rfl,h1,h2⟩|H
    .obtain rfl:=z.at_ O;obtain rfl:=t.at_ O;have c1:=z.cells n' h1;have c2:=t.cells n' h2;have j1:(n':N)<(q.length:N):=O
     have j2:(n':N)<((aB.aU s).length:N):=O
     have j0:(0:N)<=(n':N):=Int.natCast_nonneg _;have ab:(aB.aU s)[n'].size<=160:=Yk (zK s _ (zg h2)) hs;have ak:=hide ab;clear ab
     go_wp21
     go_region_held3 (fun w'=>w'.cell? (gx,n')=U (Ya q[n'])/\w'.cell? (gw,n')=U (Ya (aB.aU s)[n']))
      (first
       |go_keep
       |(
        go_split_ands
        refine⟨?_,?_⟩
        .exact cell_later j XD
        .exact cell_later j XD))
      ((go_at_call 125;refine aK (Oa _ _ _ (aP ak)) fun w4 j=>?_))
     have o:X0 wr wr w4:=⟨j.os,j.tape,j.output,j.size,j.block⟩;have E:=y.trans (o.mono y.size);have Q:=t.later o;have X:=F.later o;have P:=z.later o
     cases hf:bE q[n'] (aB.aU s)[n']
     .have HP:=hide (Ok h1 h2 hn hf);go_wp2;exact⟨⟨n',XW,rfl,rfl,hn,fun _=>aP HP,Q,X,P,E⟩,by simp[CO,intOf]⟩
     .have HP:=hide (Ol h1 h2 hn hf);go_wp2;exact⟨⟨n'+1,XX,by go_num,rfl,aP HP,fun h=>XT h XC,Q,X,P,E⟩,by simp[CO,intOf];omega⟩
    .have ad:n'=pre q (aB.aU s):=by
      rcases H with h|⟨_,h⟩|⟨_,_,h⟩
      .exact aP al h
      .omega
      .omega
     have K:=hide (Pj A (aP HQ) (aP ag));rw[<- ad] at K;clear ad
     by_cases f:n'=q.length/\n'=(aB.aU s).length
     .obtain⟨f1,f2⟩:=f;have HR:Hid (jW s=(U q,0)):=(aP K).trans (XS ⟨f1,f2⟩);have g1:((n':N)==(q.length:N))=XX:=beq_iff_eq.2 O;have g2:((n':N)==((aB.aU s).length:N))=XX:=beq_iff_eq.2 O;have F1:=hide f1;have F2:=hide f2;clear f1 f2;rcases H with rfl|⟨rfl,hx⟩|⟨rfl,hx,hy⟩
      all_goals
       go_wp2
       (try simp only[Zz,Exit.then]);refine bodyPost_ret (qP rfl _ _ _) rfl ?_
       exact⟨.inl ⟨q,aw,ax,cw,cx,gw,gx,HR,rfl,t,z⟩,y⟩
     .have HR:Hid (jW s=scan (nX.drop (k+1)) (aB.aU s) (if mm<n' then n' else mm)):=(aP K).trans (XR f)
      have hg:((n':N)==(q.length:N))=XW\/(((n':N)==(q.length:N))=XX/\((n':N)==((aB.aU s).length:N))=XW):=by
       by_cases e:n'=q.length
       .right;exact⟨beq_iff_eq.2 O,beq_eq_false_iff_ne.2 O⟩
       .left;exact beq_eq_false_iff_ne.2 O
      clear f;have ai:mm<n'\/¬ mm<n':=O
      rcases H with rfl|⟨rfl,hx⟩|⟨rfl,hx,hy⟩
      all_goals rcases hg with g1|⟨g1,g2⟩
      all_goals rcases ai with hm|hm
      all_goals
       go_wp2
       first
        |exact⟨⟨k+1,n',O,O,by go_num,rfl,HR.trans (by rw[XS hm]),t,F,y⟩,by simp[intOf];omega⟩
        |exact⟨⟨k+1,mm,O,O,by go_num,rfl,HR.trans (by rw[XR hm]),t,F,y⟩,by simp[intOf];omega⟩
  .have HE:=hide (Oo O (aP ag));go_wp2
   (try simp only[Zz,Exit.then]);refine bodyPost_ret (qP rfl _ _ _) rfl ?_
   exact⟨.inr ⟨mm,aP HE,rfl⟩,C⟩
theorem Bt{a b:XK}(h:a=b):Ending.returned a=Yg b:=by rw[h]
def NG:XZ->M
 |.string s=>s.size
 |_=>0
theorem Pr(j:M)(t:XK):(⟨#[48]⟩:XK)++aB.pz j t=aB.pz (j+1) t:=by
 apply aB.qT;rw[aB.sY,aB.BN,aB.BN,List.replicate_succ];rfl
theorem vZ(n:N)(size:M)(w:XY)(y:Env w)(D:0<=n)(C:n<=9999999)(K:size<=9):
  X4 prog 128 #[n,V Y size] w fun e w'=>e=Yg (aB.mg n size)/\X0 w w w':=by
 have I:=aB.Fq n D C;have G:=hide y;clear y
 go_in
 go_wp21
 refine aK (Iz n w (aP G) O O) fun w1 h=>?_;go_wp2
 go_loop [5] (fun t=>∃ j:M,j<=size-(aB.hH n).size/\t=Ya (aB.pz j (aB.hH n))) (fun t=>size-NG t)
 .exact⟨0,Zd _,rfl⟩
 .obtain⟨j,P,rfl⟩:=hrel;have c:=aB.BO j (aB.hH n);have z:=hide c;have H:(aB.pz j (aB.hH n)).size<=20:=O
  clear c
  by_cases A:(aB.pz j (aB.hH n)).size<size
  .have f:((aB.pz j (aB.hH n)).size:N)<(size:N):=O
   have E:=hide (Pr j (aB.hH n));have o:Hid (((⟨#[48]⟩:XK)++aB.pz j (aB.hH n)).size=1+(aB.pz j (aB.hH n)).size):=ByteArray.size_append;go_wp2
   go_round
   .exact⟨j+1,by have:=aP z;omega,by rw[aP E]⟩
   .have q:=aP o;show size-((⟨#[48]⟩:XK)++aB.pz j (aB.hH n)).size<size-(aB.pz j (aB.hH n)).size;omega
  .have f:¬ ((aB.pz j (aB.hH n)).size:N)<(size:N):=O
   have F:Hid (aB.mg n size=aB.pz j (aB.hH n)):=by
    show aB.mg n size=_;unfold aB.mg;rw[show size-(aB.hH n).size=j from by have:=aP z;omega]
   go_wp2;go_ret;exact⟨Bt (by rw[F]),h⟩
def yD(y m d:N):XK:=aB.mg y 4++⟨#[45]⟩++aB.mg m 2++⟨#[45]⟩++aB.mg d 2
def yP(n:N):XK:=aB.mg (n / 60) 2++⟨#[58]⟩++aB.mg (n % 60) 2
def Ck(n:N):XK:=yD (Cal.yT n) (Cal.mT n) (Cal.dT n)
def tN(t:N):XK:=Ck (t / 1440)++⟨#[47]⟩++yP (t % 1440)
theorem OG(a b c:XK):a++b++c=a++(b++c):=by
 apply aB.qT;simp only[aB.sY,YU]
theorem PG(y m d:N)(h:Cal.ok y m d=XX):(yD y m d).size<=40:=by
 let⟨y1,y2,m1,m2,d1,d2⟩:=(Cal.iB y m d).1 h;have q:=Cal.pe y m;have j:=aB.pJ y 4 O O;have f:=aB.pJ m 2 O O;have c:=aB.pJ d 2 O O;have o:(⟨#[45]⟩:XK).size=1:=XC
 unfold yD;simp only[ByteArray.size_append];omega
theorem Pa(n:N)(j:0<=n)(h:n<1440):(yP n).size<=19:=by
 have f:=aB.pJ (n / 60) 2 O O;have c:=aB.pJ (n % 60) 2 O O;have o:(⟨#[58]⟩:XK).size=1:=XC
 unfold yP;simp only[ByteArray.size_append];omega
theorem PH(n:N)(f:-738885<=n)(c:n<=2913173):(Ck n).size<=40:=PG _ _ _ (Cal.uK n f c).1
def se(k:M):XK:=⟨(fC k).toArray⟩
def jC(acc:J N):M->XK
 |0=>⟨#[]⟩
 |k+1=>if aL acc k then jC acc k++⟨#[44]⟩++se k else jC acc k
def A5(acc:J N):XK:=(jC acc 7).extract 1 (jC acc 7).size
theorem BL(k:M):(se k).size=2:=by
 unfold se fC;split <;> rfl
theorem B6(acc:J N):∀ k:M,(jC acc k).size<=3*k
 |0=>zq _
 |k+1=>by
  have ih:=B6 acc k;have n:=BL k;have c:(⟨#[44]⟩:XK).size=1:=XC
  unfold jC
  split
  .simp only[ByteArray.size_append];omega
  .omega
theorem Hs(acc:J N)(d:M)(h:aL acc d=XX):∀ k:M,d<k->1<=(jC acc k).size
 |0,hk=>by omega
 |k+1,hk=>by
  have n:=BL k;unfold jC
  by_cases e:d=k
  .subst e;rw[XS h];simp only[ByteArray.size_append];omega
  .have:=Hs acc d h k O
   split
   .simp only[ByteArray.size_append];omega
   .exact this
theorem PI{d:N}{r:J N}(h:aB.kM acc d=U r)(c:d<=6):∃ x:M,x<7/\aL r x=XX:=by
 unfold aB.kM at h
 split at h
 .rename_i hc
  cases h
  exact⟨d.toNat,O,by simp[aL,show ((d.toNat:M):N)=d from by omega]⟩
 .cases h
theorem GL:∀ (l:J UInt8)(acc r:J N),aB.je l acc=U r->∃ x:M,x<7/\aL r x=XX
 |[],_,_,h=>by simp[aB.je] at h
 |[_],_,_,h=>by simp[aB.je] at h
 |[a,b],acc,r,h=>PI (acc:=acc) (d:=aB.ek [a,b]) h (aB.zk [a,b]).2
 |a :: b :: c :: l,acc,r,h=>by
  unfold aB.je at h
  split at h
  .simp only[Option.bind_eq_some_iff] at h;let⟨x,_,h⟩:=h;exact GL l x r h
  .cases h
theorem NN{s:XK}(h:aB.iX s=U acc):1<=(jC acc 7).size:=by
 let⟨x,hx,hi⟩:=GL _ _ _ h;exact Hs acc x hi 7 hx
def rN(w:XK):XK:=match aB.iX w with|some acc=>A5 acc|none=>⟨#[]⟩
def iq(sym w:XK):XK :=
 if sym.toList==[85,78,73,84,83] then aB.hH (bT w 1 7) else
 if sym.toList==[77,73,78,85,84,69,83] then aB.hH (bT w 1 7) else
 if sym.toList==[69,86,69,82,89] then aB.hH (bT w 1 7) else
 if sym.toList==[73,68] then aB.hH (bT w 1 7) else
 if sym.toList==[84,73,77,69] then tN (dX w) else
 if sym.toList==[79,78] then rN w else w
theorem Gl(w:XK):-1<=bT w 1 7/\bT w 1 7<=9999999:=by
 rw[wJ];have:=aB.mB w.data.toList
 split <;> omega
theorem Gn(w:XK):-1<=dX w/\dX w<=1048320:=by
 unfold dX
 split
 .rename_i h
  unfold bL at h;simp only[ZR,decide_eq_true_eq] at h;omega
 .omega
theorem Bu(n:N)(w:XY)(o:-738885<=n)(j:n<=2913173):
  X4 prog 73 #[n] w fun e w'=>e=Yg (.tuple #[V Y (Cal.yT n),V Y (Cal.mT n),V Y (Cal.dT n),V Y 0])/\w'=w:=by
 refine (PZ n w O O).mono ?_;rintro e w' ⟨⟨h,_⟩|⟨_,y,m,d,rfl,f,c⟩,rfl⟩
 .omega
 .obtain⟨rfl,rfl,rfl⟩:=Cal.Cu y m d n f c;exact⟨rfl,rfl⟩
theorem Pe(t:N):aB.mg (Cal.yT (t / 1440)) 4++⟨#[45]⟩++aB.mg (Cal.mT (t / 1440)) 2++⟨#[45]⟩++aB.mg (Cal.dT (t / 1440)) 2++⟨#[47]⟩++aB.mg (t % 1440 / 60) 2++⟨#[58]⟩++aB.mg (t % 60) 2=tN t:=by
 unfold tN Ck yD yP;rw[show t % 1440 % 60=t % 60 from by omega];simp only[OG]
theorem yX(sym w:XK)(W:XY)(o:Env W)(q:w.size<=160)
  (t:(sym.toList==[85,78,73,84,83])=XX\/((sym.toList==[85,78,73,84,83])=XW/\(sym.toList==[77,73,78,85,84,69,83])=XX)\/((sym.toList==[85,78,73,84,83])=XW/\(sym.toList==[77,73,78,85,84,69,83])=XW/\(sym.toList==[69,86,69,82,89])=XX)\/((sym.toList==[85,78,73,84,83])=XW/\(sym.toList==[77,73,78,85,84,69,83])=XW/\(sym.toList==[69,86,69,82,89])=XW/\(sym.toList==[73,68])=XX)):
  X4 prog 79 #[sym,w] W fun e w'=>e=Yg (aB.hH (bT w 1 7))/\X0 W W w':=by
 have z:=hide o;have A:=Gl w;clear o;rcases t with j|⟨j,c1⟩|⟨j,c1,y⟩|⟨j,c1,y,C⟩
 all_goals
  go_in
  go_wp21
  refine aK (fH w 1 7 W q O O) fun w1 c=>?_
  go_wp21
  refine aK (Iz _ w1 ((aP z).later c) O O) fun w2 h=>?_;have f:=c.trans (h.mono c.size);go_wp2;go_ret;exact⟨rfl,f⟩
theorem Qi(sym w:XK)(W:XY)
  (o:(sym.toList==[85,78,73,84,83])=XW) (c1:(sym.toList==[77,73,78,85,84,69,83])=XW) (j:(sym.toList==[69,86,69,82,89])=XW) (h:(sym.toList==[73,68])=XW) (f:(sym.toList==[84,73,77,69])=XW) (c:(sym.toList==[79,78])=XW):
  X4 prog 79 #[sym,w] W fun e w'=>e=Yg w/\w'=W:=by
 go_in
 go_wp2;go_ret;exact⟨rfl,rfl⟩
theorem Qg(sym w:XK)(W:XY)(F:Env W)(S:w.size<=160)(ht:0<=dX w)
  (c0:(sym.toList==[85,78,73,84,83])=XW) (c1:(sym.toList==[77,73,78,85,84,69,83])=XW) (c2:(sym.toList==[69,86,69,82,89])=XW) (c3:(sym.toList==[73,68])=XW) (c4:(sym.toList==[84,73,77,69])=XX):
  X4 prog 79 #[Ya sym,Ya w] W fun e w'=>e=Yg (Ya (tN (dX w)))/\X0 W.heap.size W w':=by
 have X:=hide F;have Q:=Gn w;have P:=hide (Pe (dX w));obtain⟨t,c⟩:∃ t,t=dX w:=⟨_,rfl⟩;rw[<- c] at ht Q P ⊢;have z:=hide c;clear F c;have ⟨hok,_⟩:=Cal.uK (t / 1440) O O;obtain⟨y1,y2,m1,m2,d1,d2⟩:=(Cal.iB _ _ _).1 hok;have db:=Cal.pe (Cal.yT (t / 1440)) (Cal.mT (t / 1440));have z1:=aB.pJ (Cal.yT (t / 1440)) 4 O O;have z2:=aB.pJ (Cal.mT (t / 1440)) 2 O O;have z3:=aB.pJ (Cal.dT (t / 1440)) 2 O O;have z4:=aB.pJ (t % 1440 / 60) 2 O O;have z5:=aB.pJ (t % 60) 2 O O;clear hok
 go_in
 go_wp2_with fail
 refine (sj w W S).mono ?_;rintro e w1 ⟨rfl,f⟩;rw[<- aP z]
 go_wp2_with fail
 refine (Bu (t / 1440) w1 O O).mono ?_;rintro e w2 ⟨rfl,rfl⟩;have K:=hide ((aP X).later f)
 go_wp2_with fail
 refine (vZ _ 4 _ (aP K) O O O).mono ?_;rintro e w3 ⟨rfl,q⟩;have I:=hide ((aP K).later q)
 go_wp2_with fail
 refine (vZ _ 2 _ (aP I) O O O).mono ?_;rintro e w4 ⟨rfl,o⟩;have H:=hide ((aP I).later o)
 go_wp2_with fail
 refine (vZ _ 2 _ (aP H) O O O).mono ?_;rintro e w5 ⟨rfl,j⟩;have G:=hide ((aP H).later j)
 go_wp2_with fail
 refine (vZ _ 2 _ (aP G) O O O).mono ?_;rintro e w6 ⟨rfl,h⟩;have T:=hide ((aP G).later h)
 go_wp2_with fail
 refine (vZ _ 2 _ (aP T) O O O).mono ?_;rintro e w7 ⟨rfl,y⟩;have E:=f.trans (q.mono f.size);have D:=E.trans (o.mono E.size);have C:=D.trans (j.mono D.size);have A:=C.trans (h.mono C.size);have R:=A.trans (y.mono A.size);go_wp2;go_ret;exact⟨Bt (aP P),R⟩
theorem Ow(k:M)(h:k<7):[Ya ⟨#[109,111]⟩,Ya ⟨#[116,117]⟩,Ya ⟨#[119,101]⟩,Ya ⟨#[116,104]⟩,Ya ⟨#[102,114]⟩,Ya ⟨#[115,97]⟩,Ya ⟨#[115,117]⟩][k]?=U (Ya (se k)):=by
 rcases (show k=0\/k=1\/k=2\/k=3\/k=4\/k=5\/k=6 by omega) with rfl|rfl|rfl|rfl|rfl|rfl|rfl <;> rfl
theorem DS.nat(h:DS w b acc)(k:M)(c:k<7):w.cell? (b,k)=U (Yb (aL acc k)):=by
 have:=h.at k O O
 simpa using this
theorem PM(sym w:XK)(W:XY)(P:w.size<=160)(Q:aB.eJ w=XX)
  (c0:(sym.toList==[85,78,73,84,83])=XW) (c1:(sym.toList==[77,73,78,85,84,69,83])=XW) (c2:(sym.toList==[69,86,69,82,89])=XW) (c3:(sym.toList==[73,68])=XW) (c4:(sym.toList==[84,73,77,69])=XW) (c5:(sym.toList==[79,78])=XX):
  X4 prog 79 #[sym,w] W fun e w'=>e=Yg (rN w)/\X0 W W w':=by
 go_in
 go_wp21
 refine (Bh w W P).mono ?_;rintro e w1 ⟨⟨acc,rfl,q⟩,y⟩;have G:=hide (q Q);have HS:=hide (NN (aP G));have T:Hid (rN w=A5 acc):=by show rN w=_;unfold rN;rw[aP G]
 clear q;unfold fP;go_wp2;obtain⟨X,z⟩:∃ X,X=w1.alloc (Yh #[aL acc 0,aL acc 1,aL acc 2,aL acc 3,aL acc 4,aL acc 5,aL acc 6] 159):=⟨_,rfl⟩;rw[<- z];have D:X0 W W X:=by rw[z];exact y.alloc y.size _
 have S:DS X w1 acc:=by
  rw[z];refine⟨?_,?_,?_,?_,?_,?_,?_,fun j=>?_⟩ <;> simp
 have K:w1+1=X.heap.size:=by rw[z];simp
 clear z
 go_loopw [12,13] (fun o i wx=>∃ k:M,k<=7/\i=V Y k/\o=Ya (jC acc k)/\DS wx w1 acc/\X0 W W wx) (fun _ i _=>7-(intOf i).toNat)
 .exact⟨0,O,rfl,rfl,S,D⟩
 .obtain⟨k,hk,rfl,rfl,E,h⟩:=hrel;have oz:=B6 acc k
  by_cases f:k<7
  .have hi:(k:N)<7:=O
   have R:(0:N)<=(k:N):=Int.natCast_nonneg _;have F:=E.nat k f;have hl:([Ya ⟨#[109,111]⟩,Ya ⟨#[116,117]⟩,Ya ⟨#[119,101]⟩,Ya ⟨#[116,104]⟩,Ya ⟨#[102,114]⟩,Ya ⟨#[115,97]⟩,Ya ⟨#[115,117]⟩][k]'f)=Ya (se k):=ZN ((ZV f).symm.trans (Ow k f));have I:=BL k;have H:(se k).size<=2:=O
   clear I;have c:jC acc (k+1)=if aL acc k then jC acc k++⟨#[44]⟩++se k else jC acc k:=rfl
   have A:=hide c;clear c
   cases C:aL acc k
   .rw[C] at F;have t:Hid (jC acc (k+1)=jC acc k):=(aP A).trans (by rw[C];rfl);go_wp2;exact⟨⟨k+1,O,by go_num,by rw[t],E,h⟩,by simp[intOf];omega⟩
   .rw[C] at F;have t:Hid (jC acc (k+1)=jC acc k++⟨#[44]⟩++se k):=(aP A).trans (by rw[C];rfl);go_wp2;exact⟨⟨k+1,O,by go_num,by rw[t],E.later bC,h.alloc h.size _⟩,by simp[intOf];omega⟩
  .obtain rfl:k=7:=O
   have h1:(1:N)<=((jC acc 7).size:N):=by have:=aP HS;omega
   go_wp2;go_ret;exact⟨Bt (by rw[T];rfl),h⟩
theorem NY{w:XK}(o:(sym.toList==[85,78,73,84,83])=XW)(c1:(sym.toList==[77,73,78,85,84,69,83])=XW)(j:(sym.toList==[69,86,69,82,89])=XW)(h:(sym.toList==[73,68])=XW)(f:(sym.toList==[84,73,77,69])=XW)(c:(sym.toList==[79,78])=XW):iq sym w=w:=by
 simp[iq,o,c1,j,h,f,c]
theorem GG{w:XK}(h:(sym.toList==[84,73,77,69])=XX)(c:bE sym w=XX):0<=dX w:=by
 have e:=beq_iff_eq.1 h;unfold bE at c;rw[e] at c
 simpa using c
theorem Nl{w:XK}(h:(sym.toList==[79,78])=XX)(c:bE sym w=XX):aB.eJ w=XX:=by
 have e:=beq_iff_eq.1 h;unfold bE at c;rw[e] at c
 simpa using c
theorem Hy(sym w:XK)(W:XY)(q:Env W)(o:w.size<=160)(y:bE sym w=XX):
  X4 prog 79 #[sym,w] W fun e w'=>e=Yg (iq sym w)/\X0 W W w':=by
 cases c:(sym.toList==[85,78,73,84,83])
 case true =>
  rw[show iq sym w=aB.hH (bT w 1 7) from by simp[iq,c]];exact yX sym w W q o (.inl c)
 cases c1:(sym.toList==[77,73,78,85,84,69,83])
 case true =>
  rw[show iq sym w=aB.hH (bT w 1 7) from by simp[iq,c,c1]];exact yX sym w W q o (.inr (.inl ⟨c,c1⟩))
 cases f:(sym.toList==[69,86,69,82,89])
 case true =>
  rw[show iq sym w=aB.hH (bT w 1 7) from by simp[iq,c,c1,f]];exact yX sym w W q o (.inr (.inr (.inl ⟨c,c1,f⟩)))
 cases h:(sym.toList==[73,68])
 case true =>
  rw[show iq sym w=aB.hH (bT w 1 7) from by simp[iq,c,c1,f,h]];exact yX sym w W q o (.inr (.inr (.inr ⟨c,c1,f,h⟩)))
 cases j:(sym.toList==[84,73,77,69])
 case true =>
  rw[show iq sym w=tN (dX w) from by simp[iq,c,c1,f,h,j]];exact Qg sym w W q o (GG j y) c c1 f h j
 cases t:(sym.toList==[79,78])
 case true =>
  rw[show iq sym w=rN w from by simp[iq,c,c1,f,h,j,t]];exact PM sym w W o (Nl t y) c c1 f h j t
 rw[NY c c1 f h j t];refine (Qi sym w W c c1 f h j t).mono ?_;rintro e w' ⟨rfl,rfl⟩;exact⟨rfl,Below.refl _ _⟩
open aA (aO)
structure NV(w:XY)(v:XZ)(l:J N):Prop where
 form:∃ a cap,v=X9 a l.length cap
 cell:∀ (k:M) (hk:k<l.length),∃ g cap,v=X9 (U ⟨g,0,Z⟩) l.length cap/\w.cell? (g,k)=U (V Y l[k])
theorem NV.later{l:J N}(h:NV w v l)(k:X0 w w w'):NV w' v l :=
 ⟨h.form,fun i c=>by
  let⟨g,cap,e,a⟩:=h.cell i c
  exact⟨g,cap,e,aR k a⟩⟩
structure SV(w:XY)(v:XZ)(L:J (N × N)):Prop where
 form:∃ a cap,v=X9 a L.length cap
 cell:∀ (k:M) (hk:k<L.length),∃ g cap,v=X9 (U ⟨g,0,Z⟩) L.length cap/\w.cell? (g,k*2)=U (V Y L[k].1)/\w.cell? (g,k*2+1)=U (V Y L[k].2)
theorem SV.later(h:SV w v L)(k:X0 w w w'):SV w' v L :=
 ⟨h.form,fun i c=>by
  let⟨g,cap,e,a,b⟩:=h.cell i c
  exact⟨g,cap,e,aR k a,aR k b⟩⟩
structure EV(w:XY)(v:XZ)(l:J (aO × XZ)):Prop where
 form:∃ a cap,v=X9 a l.length cap
 cell:∀ (k:M) (hk:k<l.length),∃ g cap,v=X9 (U ⟨g,0,Z⟩) l.length cap/\w.cell? (g,k*6)=U (V Y l[k].1.id)/\w.cell? (g,k*6+1)=U (V Y l[k].1.kind)/\w.cell? (g,k*6+2)=U (Ya l[k].1.bA)/\w.cell? (g,k*6+3)=U (V Y l[k].1.aM)/\w.cell? (g,k*6+4)=U l[k].2/\w.cell? (g,k*6+5)=U (V Y l[k].1.bP)
 sp:∀ p∈l,SV w p.2 p.1.aQ
theorem EV.later(h:EV w v l)(k:X0 w w w'):EV w' v l :=
 ⟨h.form,fun i f=>by
  let⟨g,cap,e,a0,a1,a2,a3,a4,a5⟩:=h.cell i f
  exact⟨g,cap,e,aR k a0,aR k a1,aR k a2,aR k a3,aR k a4,aR k a5⟩,fun p c=>(h.sp p c).later k⟩
namespace aA
theorem JV{a b:N}{x:aO}:∀ l:J aO,(oW a b x l).Perm (x :: l)
 |[]=>by simp[oW]
 |y :: r=>by
  simp only[oW]
  split
  .exact List.Perm.refl _
  .exact ((JV r).cons y).trans (List.Perm.swap x y r)
theorem LZ{a b:N}:∀ l:J aO,(sJ a b l).Perm l
 |[]=>List.Perm.refl _
 |x :: r=>(JV _).trans ((LZ r).cons x)
end aA
open aA (aO dH hasB)
theorem SV.own(h:w.ownsRow B 60 2 v L.length (L.flatMap gk)):SV w v L:=by
 refine⟨lR h,fun k f=>?_⟩;let⟨g,cap,e⟩:=Joins.ownsRow_form h O;subst e;let⟨f1,f2⟩:=Kg k f;have j:=KW L;have c:=h.cellAt (k*2) O;have a1:=h.cellAt (k*2+1) O;rw[f1] at c;rw[f2] at a1;exact⟨g,cap,rfl,c,a1⟩
theorem EV.own(h:w.ownsRow B 58 6 v l.length (l.flatMap gA))(sp:∀ p∈l,SV w p.2 p.1.aQ):EV w v l:=by
 refine⟨lR h,fun k f=>?_,sp⟩;let⟨g,cap,e⟩:=Joins.ownsRow_form h O;subst e
 have at_:∀ j,j<6->w.cell? (g,k*6+j)=(gA l[k])[j]?:=fun j o=>by
  have c:=h.cellAt (k*6+j) O;rw[sS f o] at c;exact c
 exact⟨g,cap,rfl,at_ 0 O,at_ 1 O,at_ 2 O,at_ 3 O,at_ 4 O,at_ 5 O⟩
namespace aA
end aA
namespace aA
theorem Vi{l:gn}(h:(aV s l).2.err≠0):(aV s l).2=bI.error (aV s l).2.err:=by
 cases l with
 |bA name u =>
  simp only[aV] at h ⊢
  by_cases c1:bW name s.ts≠0
  .rw[XS c1];rfl
  .rw[XR c1] at h ⊢
   by_cases f:s.ts.length=4
   .rw[XS f];rfl
   .rw[XR f] at h;exact XT rfl h
 |enter k name u fr til long =>
  simp only[aV] at h ⊢
  by_cases c:py s k name u fr til long≠0
  .rw[XS c];rfl
  .rw[XR c] at h;exact XT rfl h
 |series name u r =>
  simp only[aV] at h ⊢
  by_cases c:np s name u r≠0
  .rw[XS c];rfl
  .rw[XR c] at h;exact XT rfl h
 |bF id =>
  simp only[aV] at h ⊢
  cases j:lL id s.es with
  |none=>rfl
  |some e =>
   rw[j] at h;simp only at h ⊢
   by_cases c:e.kind≠2
   .rw[XS c];rfl
   .rw[XR c] at h;exact XT rfl h
 |cancel id =>
  simp only[aV] at h ⊢
  cases j:lL id s.es with
  |none=>rfl
  |some e=>rw[j] at h;exact XT rfl h
 |list name fr til =>
  simp only[aV] at h ⊢
  by_cases c1:bW name s.ts=0
  .rw[XS c1];rfl
  .rw[XR c1] at h ⊢
   by_cases f:til<=fr
   .rw[XS f];rfl
   .rw[XR f] at h;exact XT rfl h
 |waiting=>exact XT rfl h
 |dN name fr til =>
  simp only[aV] at h ⊢
  by_cases c1:bW name s.ts=0
  .rw[XS c1];rfl
  .rw[XR c1] at h ⊢
   by_cases f:til<=fr
   .rw[XS f];rfl
   .rw[XR f] at h;exact XT rfl h
 |find name u long fr til =>
  simp only[aV] at h ⊢
  by_cases c1:eB s.ts name u≠0
  .rw[XS c1];rfl
  .rw[XR c1] at h ⊢
   by_cases f:til<=fr
   .rw[XS f];rfl
   .rw[XR f] at h;exact XT rfl h
 |expand r =>
  simp only[aV] at h ⊢
  by_cases c:Rd.gQ r≠0
  .rw[XS c];rfl
  .rw[XR c] at h;exact XT rfl h
 |tick n =>
  simp only[aV] at h ⊢
  by_cases c:1048320<s.now+n
  .rw[XS c];rfl
  .rw[XR c] at h;exact XT rfl h
 |clock=>exact XT rfl h
end aA
namespace aA
theorem Iw:∀ (l:J N)(a b:N),l.Pairwise (· < ·)->(∀ x∈l,a<=x/\x<=b)->(l.length:N)<=max 0 (b-a+1)
 |[],_,_,_,_=>by simp;omega
 |x :: r,a,b,hp,hb=>by
  let⟨h1,h2⟩:=List.pairwise_cons.1 hp;have f:=hb x (List.mem_cons_self ..);have:=Iw r (x+1) b h2 (fun y c=>⟨by have:=h1 y c;omega,(hb y (List.mem_cons_of_mem _ c)).2⟩);simp only[Y0];omega
theorem Cp(h:Inv s):s.es.length<=60:=by
 have f:(s.es.map (·.id)).Pairwise (· < ·):=h.ids;have o:=h.g1
 have:=Iw _ 1 60 f (fun x c=>by
  obtain⟨e,j,rfl⟩:=Zh.1 c;have:=h.lS e j
  omega)
 rw[ZE] at this;omega
end aA
open aA (aO St dL kept eA dI dE im cN cO iu dZ ie bO Inv bW lO ix bI)
end Go.Proofs.YtfigmlfdnickmaaGreatDoor
