import Derived.Test.YtfigmlfdnickmaaGreatDoorL10
set_option maxRecDepth 100000
set_option maxHeartbeats 8000000
open Go.Proofs.Tryz
open _root_ renaming ByteArray->U3,List->U4,Nat->U7,Int->U8,if_neg->U9,if_pos->Va
open Option renaming none->Vc,some->Vd,mem_toList->WV
open Bool renaming false->Ve,true->Vf,false_eq_true->Vw
open Go renaming World->Vg,Value->Vh,Calls->Vj
open Go.RowKit renaming Below->Vi
open List renaming mem_append->VA,mem_singleton->YC,mem_map->Wk,length_pos_iff->Zz,getElem?_map->Yr,getElem?_eq_getElem->Xa,take_succ_eq_append_getElem->Wf,map_append->Wq,map_cons->XR,mem_cons->Vz,not_mem_nil->ZZ,find?_cons->Ym,mem_or_eq_of_mem_set->Z8,getElem_mem->ZB,mem_filter->XE,filter_append->VO,length_map->WK,getD->Wr,length_cons->V5,length_nil->V9,cons_append->VM,foldl_cons->W8
open Go.Code renaming wp->Y9
open Nat renaming zero_le->Wg,le_trans->Vp,lt_of_lt_of_le->Wj
open Go.World renaming ownsRow_nil->WJ,block_lt_of_cell?->Vq,setCell->VG,cell?->VK
open Go.Value.slice renaming injEq->Yq
open Go.IntKind renaming i64->Vo
open Go.Value renaming ownBlock->WH,int->V3,slice->Zd
open Option.some renaming injEq->Z5
open Int renaming le_refl->Xx,tmod_eq_emod_of_nonneg->Zh
open Array renaming getElem?_eq_some_iff->Y8
open Go.Addr.mk renaming injEq->Z6
open ByteArray renaming empty->YM
open List.cons renaming injEq->Xv
namespace Go.Proofs.YtfigmlfdnickmaaGreatDoor
variable{tm:Bool}{kw t:U3}{pc:U8}{xs:U4 (aA.aL × U7 × U7)}{L:U4 (U7 × Obj)}{es:U4 aA.aL}{acc:U4 U8}{F:U4 U7}{O Q R c cap d g k n:U7}{ws:U7->U3}{aM:U7->Option aW}{a0:Option Addr}{r:Raw}{s:aA.St}{u1 u2 u3 u4 v z1 z2 z3 z4:Vh}{W X Z w w' w1 w2 wx:Vg}
open Go.RowKit
open aA (aL St bO aU)
theorem KP.off{b:Vg}{G:U4 U7}(h:KP w wx L)(k:aF G wx b)(j:∀ x∈G,w.heap.size<=x)(f:∀ q∈L,q.1 ∉ G):KP w b L :=
 ⟨h.bl.trans (zf k h.bl.size j),fun q a=>(k.block _ (h.lt a) (f q a)).trans (h.kb q a),h.lo,h.nd⟩
theorem KP.tail{q:U7 × Obj}(h:KP w wx (q :: L)):KP w wx L:=h.less (List.sublist_cons_self ..)
theorem DD.oV{wc o:Vg}(H:DD w d s xs F){e:aL}{p cs:U7}(q:Vi w.heap.size w wc)(A:w.heap.size<p)(C:w.heap.size<wc.heap.size)(h:EB e)(y:s.es.length<60)(z:sY wc d s.ts (xs++[({ e with id:=s.given+1 },p,cs)]) (s.given+1) s.now F o)(a b c f g i j:Vh):
  dK w d F xs (aA.jy s e) (.returned (bC 0 0 (s.given+1) aR aR aR aR)) (cK o w.heap.size a b c f g i j)/\o.heap[w.heap.size]?=wc.heap[w.heap.size]?:=by
 obtain⟨G,E,m,u⟩:=(H.later q).kP (x:=(e,p,cs)) h y z;have l:w.heap.size ∉ F:=fun e=>by have:=H.lt _ e;omega
 refine⟨E.mq (fun x h=>(m x h).imp id (fun e=>by omega)) ((aF.aD q).trans u) (zq _) (fun e=>?_) (fun x h e=>?_) (fun x h=>?_) 0 (s.given+1) _ _ _ _ _ _ _,u.block _ C l⟩
 ·rcases m _ e with e|e
  ·exact l e
  ·omega
 ·rcases VA.1 h with h|h
  ·have:=(H.rd.sp x h).2.2;omega
  ·rw[YC.1 h] at e;simp only at e;omega
 ·rcases VA.1 h with h|h
  ·exact .inl ⟨x,h,rfl⟩
  ·rw[YC.1 h];exact .inr (by simp only;omega)
theorem Ls(h:DD w d s xs F)(hg:0<=s.given/\s.given<=60)(bj:(s.es.length:U8)<=s.given)(hc:∀ j,j<n->w.cell? ⟨g,j,Vc⟩=Vd (.string (ws j)))(f:∀ j,(ws j).size<=160)(hr:rG ws 3 k pc acc tm)(hn:k+7<n)(hu:1<=bF (ws 2) 1 7/\bF (ws 2) 1 7<=9)(hf:Rd.fu (jW ws 3 k pc acc tm)):
  Vj prog 174 #[.pointer (Vd ⟨d,0,Vc⟩),.slice (Vd ⟨g,0,Vc⟩) n c] w (dK w d F xs (aU s (.series (ws 1) (bF (ws 2) 1 7) (jW ws 3 k pc acc tm)))):=by
 have P0:=aC ((KP.nil w).alloc aX);have H:=aC h;have RL:Hid (∀ W,Vi w.heap.size w W->Vj prog 180 #[.slice (Vd ⟨g,0,Vc⟩) n c,.int .i64 3] W fun e w'=>e=.returned (mN (jW ws 3 k pc acc tm))/\Vi W.heap.size W w'):=fun W kW=>Ei (i:=3) (fun j hj=>aN kW (hc j hj)) f UT hr hn
 have DY:=aC (fun W=>Dw _ hf W);have hk:3+2<=k:=by rcases hr.hk with e|e <;> omega
 have i1:(1:U8)<(n:U8):=UT
 have i2:(2:U8)<(n:U8):=UT
 have y1:=aN P0.out.bl (hc 1 UT);have y2:=aN P0.out.bl (hc 2 UT);have NM:=aC (fun wx=>eP (ws 2) 1 7 wx (f 2) UT UT);generalize bF (ws 2) 1 7=u at *;generalize ws 1=name at *;generalize ws 2=ut at *;generalize jW ws 3 k pc acc tm=q at *;simp only[mN,pX] at RL DY;have C:=aC (zA hf (Rd.pL hf).2);clear h hc f hr hf hk hn
 go_in
 go_upto_region 1 with fail
 change Y9 _ _ _ _ (w.alloc aX);generalize w.alloc aX=X at *
 go_cut [5] from 12 to 19 (fun v5 wx=>∃ b,v5=.pointer (Vd ⟨b,0,Vc⟩)/\KP w wx [(b,nC 1 name u aR 0),(w.heap.size,aX)])
 case first =>
  have bh:∀ o,(X.alloc o).cell? ⟨g,1,Vc⟩=Vd (.string name):=fun o=>aN ((zr _ _).alloc (zq _) _) y1
  have bg:∀ o,(X.alloc o).cell? ⟨g,2,Vc⟩=Vd (.string ut):=fun o=>aN ((zr _ _).alloc (zq _) _) y2
  go_region_with (first
   |(go_at_call 126;refine (NM.out _).mono ?_;rintro e w4 ⟨rfl,A⟩;have PB:=aC (((P0.out.alloc _).later (dM _)).later A);have bz:=zz A;have b0:=rP bz;have b1:=ta bz;have b2:=rQ bz;have b3:=rR bz;have b4:=rS bz;have b5:=tc bz;have bf:=uH bz;have kX:Vi X.heap.size X w4:=bA ((zr _ _).alloc (zq _) _).drew A (zq _);have ae:=aN kX y1;clear A)
   |(go_at_call 126;refine (NM.out _).mono ?_;rintro e w4 ⟨rfl,A⟩;have kX:Vi X.heap.size X w4:=bA (dM X) A (zq _);have ae:=aN kX y1;have yB:∀ o,(w4.alloc o).cell? ⟨g,1,Vc⟩=Vd (.string name):=fun o=>aN ((zr _ _).alloc (zq _) _) ae))
  all_goals
   go_wp2
   go_meet
   first
    |(
     have PB:=PB.out.pd (.int .i64 0) (.int .i64 1) (.string name) (.int .i64 u) aR (.int .i64 0)
     exact⟨_,rfl,PB⟩)
    |exact⟨_,rfl,(P0.out.later kX).alloc _⟩
 case rest =>
  obtain⟨b,rfl,hP⟩:=hcut;have HP:=aC hP;clear hP y1 y2 P0 NM;obtain⟨_,_,b2,b3,_,_⟩:=HP.out.oe;have AK:=aC ((H.out.later HP.out.bl).asked name u);have SD:Hid (∀ er Z,KP w Z [(w.heap.size,aX)]->aU s (.series name u q)=(s,bO.error er)->dK w d F xs (aU s (.series name u q)) (.returned (bC er 0 0 aR aR aR aR)) (cK Z w.heap.size (.int .i64 er) (.int .i64 0) (.int .i64 0) aR aR aR aR)/\Q7 Z w.heap.size):=fun er Z k e=>⟨by rw[e];exact H.out.said k.bl (zq _) er 0 _ _ _ _ _ _ _,Q7.of k.mH⟩
  have D1:Hid (aA.dH s.ts name u≠0->aU s (.series name u q)=(s,bO.error (aA.dH s.ts name u))):=fun e=>by simp only[aU,aA.mJ,Va e]
  have D2:Hid (aA.dH s.ts name u=0->Rd.gb q≠0->aU s (.series name u q)=(s,bO.error (Rd.gb q))):=fun e e2=>by simp only[aU,aA.mJ,e,ne_eq,not_true_eq_false,if_false,e2,not_false_eq_true,if_true]
  have D3:Hid (aA.dH s.ts name u=0->Rd.gb q=0->s.given=60->aU s (.series name u q)=(s,bO.error 5)):=fun e e2 e3=>by simp[aU,aA.mJ,e,e2,e3]
  have D4:Hid (aA.dH s.ts name u=0->Rd.gb q=0->s.given≠60->aU s (.series name u q)=if aA.dG s.ts s.es name u (Rd.gd q (Rd.bH q)) then aA.jy s ⟨0,1,name,u,Rd.gd q (Rd.bH q),0⟩ else (s,bO.error 8)):=fun e e2 e3=>by
   simp only[aU,aA.mJ,e,e2,e3,ne_eq,not_true_eq_false,if_false]
   cases aA.dG s.ts s.es name u (Rd.gd q (Rd.bH q)) <;> simp
  go_wp2_with fail
  refine AK.out.mono ?_;rintro e w7 ⟨rfl,rfl⟩;clear AK;generalize aA.dH s.ts name u=an at *
  by_cases p:an=0
  case neg =>
   have bi:(an != 0)=Vf:=by simpa using p
   have E:=aC (SD.out an _ HP.out.tail (D1.out p));clear p;obtain⟨N,p,M,J,m,I,G,T⟩:=E.out.2
   go_wp2_with fail
   exact cO results174 ⟨N,p,M,J,m,I,G,T⟩ E.out.1
  subst p;clear D1 b2 b3
  go_wp2_with fail
  refine (RL.out _ HP.out.bl).mono ?_;rintro e w2 ⟨rfl,hb⟩;replace HP:=aC ((HP.out.later hb).alloc (gV q));clear hb RL
  go_upto_region 6 with fail
  change Y9 _ _ _ _ (w2.alloc (gV q));obtain⟨rb,af⟩:∃ rb,rb=w2.heap.size:=⟨_,rfl⟩;rw[<- af] at HP ⊢;generalize w2.alloc (gV q)=W at *;obtain⟨⟨c0,c1,c9,ac,U,a6,a5⟩,cJ⟩:=nu HP.out.mH;have j0:=cJ 0 UT;have j1:=cJ 1 UT;have j2:=cJ 2 UT;have j3:=cJ 3 UT;have j4:=cJ 4 UT;have j5:=cJ 5 UT;have j6:=cJ 6 UT;have bo:b<W.heap.size:=HP.out.lt (q:=(b,nC 1 name u aR 0)) UU;clear cJ af
  go_wp2_with fail
  refine (DY.out _).mono ?_;rintro e w3 ⟨aq,hd⟩;replace HP:=aC (HP.out.later aq);clear c0 c1 c9 ac U a6 a5 j0 j1 j2 j3 j4 j5 j6 DY;rcases hd with ⟨he,v,rfl,ho⟩|⟨he,rfl⟩
  case inr =>
   have E:=aC (SD.out (Rd.gb q) _ HP.out.tail.tail (D2.out UU he));generalize Rd.gb q=er at *;have bn:(er != 0)=Vf:=by simpa using he
   obtain⟨N,p,M,J,m,I,G,T⟩:=E.out.2;clear he
   go_wp2_with fail
   exact cO results174 ⟨N,p,M,J,m,I,G,T⟩ E.out.1
  obtain⟨_,av,ba,l⟩:=C.out.2 he;have HO:=aC ho;have LT:=aC l;have HD:=aC he;have MM:=aC (fun i (hi:i<(Rd.bH q).length)=>zA (Rd.sH C.out.1 (zg hi)) (zA C.out.1.m0 (zA C.out.1.m1 (zA C.out.1.i1 C.out.1.i2))));obtain⟨va,vc,rfl⟩:=gB ho;have LB:=aC (zA (HP.out.lo (b,nC 1 name u aR 0) UU) (zA (HP.out.lt (q:=(b,nC 1 name u aR 0)) UU) (zA (HP.out.lt (q:=(rb,gV q)) UU) (zA (HP.out.lt (q:=(w.heap.size,aX)) UU) HP.out.bl.size))))
  have a8:Hid (∀ x∈Rd.gd q (Rd.bH q),0<=x.2/\x.2<=2000000):=fun x hx=>by
   obtain⟨y,hy,rfl⟩:=Wk.1 hx;have:=Rd.sH C.out.1 hy;have:=l y hy;have:=C.out.1.f0;have:=C.out.1.m0;have:=C.out.1.i1;simp only;omega
  clear ho l he aq;have aw:0<(Rd.bH q).length:=Zz.2 av
  go_wp2_with fail
  generalize w3=V at *;obtain⟨V0,a4⟩:∃ V0,V0=V:=⟨_,rfl⟩;subst a4
  go_loopw [9,10] (fun vi _ wr=>∃ (i:U7) (vs:Vh),i<=(Rd.bH q).length/\vi=.int .i64 i/\KP w wr [(b,nC 1 name u vs 0),(rb,gV q),(w.heap.size,aX)]/\wr.ownsRow V0.heap.size 60 2 vs (Rd.gd q ((Rd.bH q).take i)).length ((Rd.gd q ((Rd.bH q).take i)).flatMap iE)/\aF [b] V0 wr) (fun vi _ _=>(Rd.bH q).length-(intOf vi).toNat)
  case atStart=>exact⟨0,aR,Wg _,rfl,HP.out.swap,WJ _ _ _ _,aF.refl _ _⟩
  case round =>
   obtain⟨i,vs,hi,rfl,hP,Y,aa⟩:=hrel;have a:=aC (zA hP (zA Y aa));clear hP Y aa
   by_cases ab:i<(Rd.bH q).length
   ·have ai:(i:U8)<((Rd.bH q).length:U8):=UT
    obtain⟨g2,cap,e,y⟩:=rN HO.out (k:=i) (u:=.int .i64 (Rd.bH q)[i]) (by rw[Yr,Xa ab];rfl);simp only[Yq,true_and] at e;obtain⟨rfl,rfl⟩:=e;have az:g2 ∉ [b]:=by have:=jD HO.out (k:=g2) rfl;simp;omega
    have y':=a.out.2.2.cell az y;obtain⟨_,_,_,_,b4,_⟩:=a.out.1.oe;obtain⟨⟨_,_,_,ac,U,_⟩,_⟩:=nu (a.out.1.kb (rb,gV q) UU);obtain⟨⟨m1,m2⟩,m3,m4,m5,m6⟩:=MM.out i ab;have bm:=C.out.1.f0
    have HT:Hid (Rd.gd q ((Rd.bH q).take (i+1))=Rd.gd q ((Rd.bH q).take i)++[(1440*(Rd.bH q)[i]+q.mn,1440*(Rd.bH q)[i]+q.mn+q.mi)]):=by
     show _=_;simp only[Rd.gd];rw[Wf ab,Wq];simp only[XR,List.map_nil,Int.mul_comm 1440]
    have ax:(Rd.gd q ((Rd.bH q).take i)).length<=1000000:=by simp[Rd.gd];omega
    clear y;generalize (Rd.bH q)[i]=x at *;have w1:Vo.wrap (1440*x)=1440*x:=cG UT UT;have w2:Vo.wrap (1440*x+q.mn)=1440*x+q.mn:=cG UT UT;have w3:Vo.wrap (1440*x+q.mn+q.mi)=1440*x+q.mn+q.mi:=cG UT UT
    go_upto_region 12 with fail
    go_quiet (fail)
    go_upto_region 13 with fail
    generalize ar:World.drewN wr _=Wd at *
    have kd:Hid (Vi wr.heap.size wr Wd):=by
     rw[<- ar];exact rV (zr _ _) _
    clear ar;have a7:=aN kd.out b4;have bc:=aN kd.out U;have NB:Hid (∀ z∈vs.ownBlock.toList,V0.heap.size<=z):=fun z f=>jD a.out.2.1 (WV.1 f)
    have ao:b ∉ vs.ownBlock.toList:=fun e=>by have:=NB.out b e;have:=LB.out.2.1;omega
    have PD:=aC (a.out.1.later kd.out);have OD:=aC (eu a.out.2.1 kd.out);have a3:V0.heap.size<=Wd.heap.size:=Vp a.out.2.2.size kd.out.size;clear b4 ac U
    go_wp2_with (first|(at_builtin;refine Dp rfl _ _ rfl OD.out (1440*x+q.mn) (1440*x+q.mn+q.mi) rfl rfl ax a3 ?_;intro gs cs w6 ag P;have b4:=P.cell ao a7;have bf:=(P.frozen (o:=4) ao (PD.out.lt (q:=(b,nC 1 name u vs 0)) UU)).trans (PD.out.hf 4)))
    have P6:=aC (PD.out.off P (fun z f=>Vp LB.out.2.2.2.2 (NB.out z f)) (fun z f e=>by
     have:=NB.out _ e;have:=LB.out;simp only[Vz,ZZ,or_false] at f
     rcases f with rfl|rfl|rfl <;> simp only at this <;> omega))
    have ak:V0.heap.size<=gs:=jD ag rfl;refine⟨⟨i+1,_,by omega,by go_num,P6.out.put 4 _,?_,?_⟩,by simp[intOf];omega⟩
    ·rw[HT.out,List.length_append]
     exact dO ag (aF.aY ..) (fun z f e=>by
      simp only[WH,Z5] at f;simp only[YC] at e;have:=LB.out.2.1
      omega)
    ·exact ((a.out.2.2.trans' (aF.aD kd.out) (fun z f=>.inl f)).trans' P (fun z f=>.inr (NB.out z f))).setCell (.inl UU) _ _
   ·have ay:i=(Rd.bH q).length:=UT
    subst ay;have ai:¬ (((Rd.bH q).length:U7):U8)<((Rd.bH q).length:U8):=UT
    have hL:(Rd.gd q (Rd.bH q)).length=(Rd.bH q).length:=by simp[Rd.gd]
    rw[List.take_length] at a;have a9:=aC (D4.out UU HD.out);have ad:Hid ((Rd.gd q (Rd.bH q)).length<=40/\Rd.gd q (Rd.bH q)≠[]):=⟨by omega,fun e=>by rw[e] at hL;simp at hL;omega⟩;generalize Rd.gd q (Rd.bH q)=L at *;rcases a.out.2.1.2 with ⟨_,h0⟩|⟨gs,cs,_,rfl,_⟩
    ·omega
    clear hL;obtain⟨b0,b1,b2,b3,b4,b5⟩:=a.out.1.oe;have DW:=aC (H.out.later a.out.1.bl);have n2:=DW.out.rd.c2;have RS:=aC (zO a.out.2.1).2;have ak:V0.heap.size<=gs:=jD a.out.2.1 rfl;have aj:gs<wr.heap.size:=eV a.out.2.1 rfl
    by_cases m:s.given=60
    ·have au:(s.given==60)=Vf:=by simpa using m
     have E:=aC (SD.out 5 _ a.out.1.tail.tail (D3.out UU HD.out m));obtain⟨N,p,M,J,m,I,G,T⟩:=E.out.2
     go_wp2_with fail
     exact cO results174 ⟨N,p,M,J,m,I,G,T⟩ E.out.1
    ·have au:(s.given==60)=Ve:=by simpa using m
     have FT:=aC (DW.out.fits (u:=u) (cb:=cs) name RS.out (by have:=ad.out.1;omega) UT hu.2);have DF:=aC (a9.out m);generalize aA.dG s.ts s.es name u L=fb at *
     go_wp2_with fail
     refine FT.out.mono ?_;rintro e w8 ⟨rfl,S⟩;have K8:=aC (a.out.1.later S);have R8:=aC (zA (RS.out.later S) (zA (zL aj S.size) ak));clear S
     cases fb
     ·have E:=aC (SD.out 8 _ K8.out.tail.tail (DF.out.trans UU));obtain⟨N,p,M,J,m,I,G,T⟩:=E.out.2
      go_wp2_with fail
      exact cO results174 ⟨N,p,M,J,m,I,G,T⟩ E.out.1
     ·have al:Hid (s.es.length<60):=by
       show _<_;omega
      have DC:=aC (H.out.later K8.out.bl);have JN:Hid (Vj prog 232 #[.pointer (Vd ⟨d,0,Vc⟩),.agg #[.int .i64 0,.int .i64 1,.string name,.int .i64 u,.slice (Vd ⟨gs,0,Vc⟩) L.length cs,.int .i64 0]] w8 fun e w'=>e=.returned (rO 0 (s.given+1))/\sY w8 d s.ts (xs++[(⟨s.given+1,1,name,u,L,0⟩,gs,cs)]) (s.given+1) s.now F w'):=(Dx d s.ts xs s.given s.now F (⟨0,1,name,u,L,0⟩,gs,cs) w8 DC.out.rd R8.out.1 (fun e=>by have:=H.out.lt gs e;have:=LB.out.2.2.2.2;omega) R8.out.2.1 DC.out.lt (by have:=H.out.len;have:=H.out.el;omega) hg.1 UT);obtain⟨x0,x1,x2,x3,x4,x5⟩:=K8.out.oe;have Q1:=aC (Q7.of (K8.out.kb (w.heap.size,aX) UU));clear b0 b1 b2 b3 b4 b5 n2
      go_wp2_with fail
      refine JN.out.mono ?_;rintro e w9 ⟨rfl,hj⟩;have JA:=aC (H.out.oV (e:=⟨0,1,name,u,L,0⟩) K8.out.bl (by have:=LB.out.2.2.2.1;omega) (K8.out.lt (q:=(w.heap.size,aX)) UU) ⟨hu.1,hu.2,ad.out.1,ad.out.2,a8.out⟩ al.out hj (.int .i64 0) (.int .i64 0) (.int .i64 (s.given+1)) aR aR aR aR);obtain⟨N,p,M,J,m,I,G,T⟩:=Q1.out.later JA.out.2;simp only[rO];clear hj JN x0 x1 x2 x3 x4 x5
      go_wp2_with fail
      exact cO results174 ⟨N,p,M,J,m,I,G,T⟩ (by rw[DF.out];exact JA.out.1)
theorem DD.days(h:DD w d s xs F)(p:Vi w.heap.size w Z){B:U7}{l:U4 U8}(o:Z.ownsRow B 3 1 v l.length (l.map (V3 .i64)))(H:w.heap.size<=Q)(I:Q<B)(n:U8)(a b c e f g i:Vh):
  dK w d F xs (s,{ bO.num n with days:=l }) (.returned (bC 0 0 n aR v aR aR)) (cK Z Q a b c e f g i):=by
 have m:=lE Z Q a b c e f g i;have z:∀ x,x<w.heap.size->x ∉ [Q]:=fun x j e=>by simp at e;omega
 have u:∀ x∈v.ownBlock.toList,B<=x/\x<Z.heap.size:=fun x j=>⟨jD o (WV.1 j),eV o (WV.1 j)⟩
 refine⟨aR,v,aR,aR,xs,F,v.ownBlock.toList,rfl,fun w2 E=>⟨⟨[],EV.nil _,rfl⟩,⟨(NV.own o).form,fun k C=>?_⟩,NV.nil _⟩,WJ _ _ _ _,(h.later p).off m (fun x j=>z x (h.lt x j)) (fun x j=>z _ (h.rd.sp x j).2.2),fun _ j=>.inl j,(aF.aD p).trans' m (fun x j=>.inr (by simp at j;omega)),fun x j=>?_,fun x j=>by simp[WH] at j,fun x j=>.inl ⟨x,j,rfl⟩⟩
 ·obtain⟨y,cap,A,G⟩:=(NV.own o).cell k C;have q:y∈v.ownBlock.toList:=by rw[A];simp[WH]
  have:=u y q;exact⟨y,cap,A,(zo ((E y q).trans (m.block y this.2 UZ))).trans G⟩
 ·have:=u x j;exact⟨by omega,Wj this.2 m.size,fun e=>by have:=h.lt x e;omega,by simp[WH]⟩
theorem LY(h:DD w d s xs F)(x:∀ j,j<n->w.cell? ⟨g,j,Vc⟩=Vd (.string (ws j)))(Y:∀ j,(ws j).size<=160)(hr:rG ws 1 k pc acc tm)(hn:k+7<n)(h0:ws 0=⟨#[101,120,112,97,110,100]⟩)(u:Rd.fu (jW ws 1 k pc acc tm)):
  Vj prog 117 #[.pointer (Vd ⟨d,0,Vc⟩),.slice (Vd ⟨g,0,Vc⟩) n c] w (dK w d F xs (aU s (.expand (jW ws 1 k pc acc tm)))):=by
 have o:=aC ((KP.nil w).alloc aX);have H:=aC h;have RL:Hid (∀ W,Vi w.heap.size w W->Vj prog 180 #[.slice (Vd ⟨g,0,Vc⟩) n c,.int .i64 1] W fun e w'=>e=.returned (mN (jW ws 1 k pc acc tm))/\Vi W.heap.size W w'):=fun W kW=>Ei (i:=1) (fun j hj=>aN kW (x j hj)) Y UT hr hn
 have G:=aC (fun W=>Dw _ u W);have i0:(0:U8)<(n:U8):=UT
 have I:=aN o.out.bl (x 0 UT);rw[h0] at I;generalize jW ws 1 k pc acc tm=q at *;simp only[mN,pX] at RL G;have ES:=aC (Rd.pL u).2;clear h x Y hr u hn h0
 go_in
 go_upto_region 1 with fail
 change Y9 _ _ _ _ (w.alloc aX);generalize w.alloc aX=X at *
 go_wp2_with fail
 refine (RL.out _ o.out.bl).mono ?_;rintro e w2 ⟨rfl,hb⟩;have HP:=aC ((o.out.later hb).alloc (gV q));clear hb RL o I
 go_upto_region 24 with fail
 change Y9 _ _ _ _ (w2.alloc (gV q));obtain⟨J,l⟩:∃ J,J=w2.heap.size:=⟨_,rfl⟩;rw[<- l] at HP ⊢;generalize w2.alloc (gV q)=W at *;obtain⟨⟨c0,c1,c9,C,A,z,y⟩,a⟩:=nu HP.out.mH;have j0:=a 0 UT;have j1:=a 1 UT;have j2:=a 2 UT;have j3:=a 3 UT;have j4:=a 4 UT;have j5:=a 5 UT;have j6:=a 6 UT;have hQ:w.heap.size<W.heap.size:=HP.out.lt (q:=(w.heap.size,aX)) UU;clear a l
 go_wp2_with fail
 refine (G.out _).mono ?_;rintro e w3 ⟨b,hd⟩;replace HP:=aC (HP.out.later b);clear c0 c1 c9 C A z y j0 j1 j2 j3 j4 j5 j6 G;obtain⟨V,U,T,S,P,N,M,fq⟩:=Q7.of (HP.out.kb (w.heap.size,aX) UU);rcases hd with ⟨f,v,rfl,p⟩|⟨f,rfl⟩
 ·have aa:(Rd.bH q).length<=40:=(ES.out f).2.2.1
  have E:Hid (dK w d F xs (aU s (.expand q)) (.returned (bC 0 0 (Rd.bH q).length aR v aR aR)) (cK w3 w.heap.size (.int .i64 0) (.int .i64 0) (.int .i64 (Rd.bH q).length) aR v aR aR)):=by
   have e:aU s (.expand q)=(s,{ bO.num (Rd.bH q).length with days:=Rd.bH q }):=by simp[aU,f]
   rw[e];exact H.out.days HP.out.bl p (zq _) hQ _ _ _ _ _ _ _ _
  obtain⟨va,vc,rfl⟩:=gB p;clear p f b;generalize (Rd.bH q).length=m at *
  go_wp2_with fail
  exact cO results117 ⟨V,U,T,S,P,N,M,fq⟩ E.out
 ·have E:Hid (dK w d F xs (aU s (.expand q)) (.returned (bC (Rd.gb q) 0 0 aR aR aR aR)) (cK w3 w.heap.size (.int .i64 (Rd.gb q)) (.int .i64 0) (.int .i64 0) aR aR aR aR)):=by
   have e:aU s (.expand q)=(s,bO.error (Rd.gb q)):=by simp[aU,f]
   rw[e];exact H.out.said HP.out.bl (zq _) _ 0 _ _ _ _ _ _ _
  clear f b;generalize Rd.gb q=er at *
  go_wp2_with fail
  exact cO results117 ⟨V,U,T,S,P,N,M,fq⟩ E.out
theorem EO:∀ (es:U4 aL)(id i:U8),0<=i->(aA.jm id es i=-1/\aA.nc id es=Vc)\/∃ k:U7,∃ h:k<es.length,aA.jm id es i=i+k/\aA.nc id es=Vd es[k]/\es[k].id=id
 |[],id,i,_=>.inl ⟨rfl,rfl⟩
 |e :: r,id,i,h0=>by
  unfold aA.jm aA.nc
  by_cases h:e.id=id
  ·refine .inr ⟨0,by simp,?_⟩;simp[h]
  ·rcases EO r id (i+1) UT with ⟨b,a⟩|⟨k,f,b,a,j⟩
   ·refine .inl ?_;rw[U9 h];simp only[Ym,h,decide_false];exact⟨b,a⟩
   ·refine .inr ⟨k+1,by simpa using f,?_⟩;rw[U9 h];simp only[Ym,h,decide_false];exact⟨by rw[b];push_cast;omega,a,j⟩
theorem ML(h:aA.dB es)(f:k<es.length):es.set k (aA.cS es[k])=aA.dZ es[k].id es:=by
 unfold aA.dZ;apply List.ext_getElem UU;intro i a j;rw[List.getElem_set,List.getElem_map];simp only[List.length_set] at a
 split
 ·rename_i e;subst e;simp
 ·rename_i e
  rw[U9];intro l;have:=(List.pairwise_iff_getElem.1 h);rcases Nat.lt_or_gt_of_ne e with b|b
  ·have:=this k i (by simpa using f) (by simpa using a) b;simp only[List.getElem_map] at this;omega
  ·have:=this i k (by simpa using a) (by simpa using f) b;simp only[List.getElem_map] at this;omega
theorem Le{id:U8}:(iR id xs).map (·.1)=aA.kept id (xs.map (·.1)):=by
 unfold iR aA.kept;rw[List.filter_map]
 congr 1
def nG(b:Bool)(id:U8):aA.fI:=if b then .cancel id else .confirm id
theorem LP(h:DD w d s xs F)(ad:aA.dB s.es)(b:Bool)(hk:(kw.toList==[99,97,110,99,101,108])=b)(ht:t.size<=160)(hn:1<n)(c0:w.cell? ⟨g,0,Vc⟩=Vd (.string kw))(c1:w.cell? ⟨g,1,Vc⟩=Vd (.string t)):
  Vj prog 175 #[.pointer (Vd ⟨d,0,Vc⟩),.slice (Vd ⟨g,0,Vc⟩) n c] w (dK w d F xs (aU s (nG b (bF t 1 7)))):=by
 have hX:Vi w.heap.size w (w.alloc aX):=(zr _ _).alloc (zq _) _;have hQ:=cC w aX;have H:=aC h;have HX:=aC (zA hX hQ);have x0:=aN hX c0;have x1:=aN hX c1;have ai:(1:U8)<(n:U8):=UT
 have ag:(0:U8)<(n:U8):=UT
 clear hX hQ c0 c1 h
 go_in
 go_upto_region 1 with fail
 change Y9 _ _ _ _ (w.alloc aX);generalize w.alloc aX=X at *
 go_wp2_with fail
 refine (eP t 1 7 X ht UT UT).mono ?_;rintro e w1 ⟨rfl,u⟩;have V:=aC (bA HX.out.1 u (zq _));have U:=aC (H.out.later V.out);have PL:=aC (U.out.place (bF t 1 7));have PF:=aC (EO s.es (bF t 1 7) 0 (Xx _));have x0:=aN u x0;have Q1:=aC ((Q7.of HX.out.2).later (u.block _ (Y8.1 HX.out.2).1));clear u HX x1;generalize bF t 1 7=id at *
 go_wp2_with fail
 refine PL.out.mono ?_;rintro e w2 ⟨rfl,rfl⟩;clear PL;obtain⟨q,M,J,I,G,C,A,N⟩:=Q1.out;rcases PF.out with ⟨e1,e2⟩|⟨k,ab,e1,e2,e3⟩
 ·have hp:aA.jm id s.es 0<0:=UT
  have T:Hid (dK w d F xs (aU s (nG b id)) (.returned (bC 9 0 0 aR aR aR aR)) (cK w2 w.heap.size (.int .i64 9) (.int .i64 0) (.int .i64 0) aR aR aR aR)):=by
   have:=H.out.said V.out (zq _) 9 0 (.int .i64 9) (.int .i64 0) (.int .i64 0) aR aR aR aR;show dK w d F xs _ _ _
   cases b <;> (simp only[nG,aU,e2,Vw,if_true,if_false];exact this)
  clear e1 e2 PF;generalize aA.jm id s.es 0=pl at *
  go_wp2_with fail
  exact cO results175 ⟨q,M,J,I,G,C,A,N⟩ T.out
 ·rw[Int.zero_add] at e1;rw[e1];have hp:¬ ((k:U8)<0):=UT
  have l:k<xs.length:=by have:=H.out.len;omega
  have aj:(k:U8)<(s.es.length:U8):=UT
  have af:(0:U8)<=(k:U8):=UT
  clear e1 PF;obtain⟨a,cap,E,P⟩:=U.out.er;obtain rfl:=P.a k l;have cc:=P.c;rw[H.out.len] at cc;have r1:=(P.r k l).c1;have r5:=(P.r k l).c5
  have j:xs[k].1=s.es[k]:=by
   have e:(xs.map (·.1))[k]?=Vd s.es[k]:=by rw[H.out.es];simp[ab]
   rw[Xa (by simpa using l),Z5,List.getElem_map] at e;exact e
  have fE:=fun o=>P.f o UT
  have HR:=aC P;have z:=aC (zA e2 (zA e3 j));clear e2 e3 P
  cases b
  ·rw[j] at r1 r5
   by_cases m:s.es[k].kind=2
   ·have hq:(s.es[k].kind != 2)=Ve:=by simp[m]
    have bk:=U.out.dZ HR.out l (es':=aA.dZ id s.es) (by rw[j,ML ad ab,z.out.2.1]);have S:=bk.2.1;have ak:=bk.2.2;have kE:aF F w2 ((w2.setCell ⟨E,k*6+1,Vc⟩ (.int .i64 1)).setCell ⟨E,k*6+5,Vc⟩ (.int .i64 0)):=((aF.refl F w2).setCell (.inl S) _ _).setCell (.inl S) _ _;have al:E≠w.heap.size:=by have:=H.out.lt E S;omega
    have hw:aF F w ((w2.setCell ⟨E,k*6+1,Vc⟩ (.int .i64 1)).setCell ⟨E,k*6+5,Vc⟩ (.int .i64 0)):=(aF.aD V.out).trans kE
    have HD:Hid (aU s (nG Ve id)=({ s with es:=aA.dZ id s.es },⟨0,0,0,[],[],[],[]⟩)):=by
     show _=_;simp[nG,aU,z.out.1,m,bO.num]
    have ac:w.heap.size ∉ F:=fun e=>by have:=H.out.lt _ e;omega
    have Q2:=aC (Q1.out.later (kE.block _ (Vq _ _ q) ac));have HB:=aC (zA bk.1 hw);clear bk kE hw m q M J I G C A N
    go_upto_region 12 with fail
    generalize (VG (VG w2 _ _) _ _)=Z at *
    have T:Hid (dK w d F xs (aU s (nG Ve id)) (.returned (bC 0 0 0 aR aR aR aR)) (cK Z w.heap.size (.int .i64 0) (.int .i64 0) (.int .i64 0) aR aR aR aR)):=by
     show dK w d F xs _ _ _;rw[HD.out];refine HB.out.1.mq (fun _ j=>.inl j) HB.out.2 (zq _) ac (fun x j e=>?_) (fun x j=>.inl ?_) 0 0 _ _ _ _ _ _ _
     rotate_left
     ·rcases Z8 j with j|rfl
      ·exact⟨x,j,rfl⟩
      ·exact⟨xs[k],ZB l,rfl⟩
     have:x.2.1<w.heap.size:=by
      rcases Z8 j with j|rfl
      ·exact (H.out.rd.sp x j).2.2
      ·exact (H.out.rd.sp xs[k] (zg l)).2.2
     omega
    obtain⟨q,M,J,I,G,C,A,N⟩:=Q2.out;clear HB Q2
    go_wp2_with fail
    exact cO results175 ⟨q,M,J,I,G,C,A,N⟩ T.out
   ·have hq:(s.es[k].kind != 2)=Vf:=by simp[m]
    have T:Hid (dK w d F xs (aU s (nG Ve id)) (.returned (bC 10 0 0 aR aR aR aR)) (cK w2 w.heap.size (.int .i64 10) (.int .i64 0) (.int .i64 0) aR aR aR aR)):=by
     have:=H.out.said V.out (zq _) 10 0 (.int .i64 10) (.int .i64 0) (.int .i64 0) aR aR aR aR;show dK w d F xs _ _ _;simp only[nG,aU,z.out.1,Vw,if_false,m,ne_eq,not_false_eq_true,if_true];exact this
    clear m
    go_wp2_with fail
    exact cO results175 ⟨q,M,J,I,G,C,A,N⟩ T.out
  ·have WO:=aC (U.out.oO id)
   have HD:Hid (aU s (nG Vf id)=({ s with es:=aA.kept id s.es },⟨0,0,0,[],[],[],[]⟩)):=by
    show _=_;simp[nG,aU,z.out.1,bO.num]
   clear r1 r5 cc fE
   go_wp2_with fail
   refine WO.out.mono ?_;rintro e w3 ⟨vr,rfl,ho,p⟩;obtain⟨av,cv,Y⟩:=gB ho;have FR:=aC (U.out.fresh ho (zq _) p (fun y hy=>(XE.1 hy).1) (List.length_filter_le ..) (Le.trans (by rw[H.out.es])));have D3:=U.out.later p;obtain⟨v2,y1,_⟩:=D3.rd.ev;have fy:=D3.rd.fz 1;have ae:d≠w.heap.size:=by have:=H.out.lt d H.out.rd.dF;omega
   have kd:aF [d] w3 (w3.setCell ⟨d,1,Vc⟩ vr):=aF.aY ..;have Q3:=aC ((Q1.out.later (p.block _ (Vq _ _ q))).later (kd.block _ (zL (Vq _ _ q) p.size) (by simp;exact fun e=>ae e.symm)));have HO:=aC (zA (((aF.aD (F:=F) V.out).trans (aF.aD p)).setCell (.inl H.out.rd.dF) 1 vr) ho);have hz:=V.out.size;have aa:=Vq _ _ q;have aa:w.heap.size<w2.heap.size:=aa;clear ho p D3 kd;rw[Y] at FR Q3 HO ⊢;clear Y q M J I G C A N
   go_upto_region 12 with fail
   generalize (VG w3 ⟨d,1,Vc⟩ _)=Z at *
   have T:Hid (dK w d F xs (aU s (nG Vf id)) (.returned (bC 0 0 0 aR aR aR aR)) (cK Z w.heap.size (.int .i64 0) (.int .i64 0) (.int .i64 0) aR aR aR aR)):=by
    show dK w d F xs _ _ _;rw[HD.out];have hv:∀ b,(Zd av (iR id xs).length cv).ownBlock=Vd b->w2.heap.size<=b:=fun b hb=>jD HO.out.2 hb
    refine FR.out.mq (fun x j=>?_) HO.out.1 (zq _) (fun j=>?_) (fun x j e=>?_) (fun x j=>.inl ⟨x,(XE.1 j).1,rfl⟩) 0 0 _ _ _ _ _ _ _
    ·rcases VA.1 j with e|e
     ·have:=hv x (by simpa using e);exact .inr UT
     ·exact .inl e
    ·rcases VA.1 j with e|e
     ·have:=hv _ (by simpa using e);omega
     ·have:=H.out.lt _ e;omega
    ·have:=(H.out.rd.sp x ((XE.1 j).1)).2.2;omega
   obtain⟨q,M,J,I,G,C,A,N⟩:=Q3.out;clear FR Q3 HO
   go_wp2_with fail
   exact cO results175 ⟨q,M,J,I,G,C,A,N⟩ T.out
open aA (aL St bO aU kh fo)
theorem Mp{α:Type}(fs:U4 U8)(ys:U4 α)(f:fs.length=ys.length):∃ zs:U4 α,zs.length=ys.length/\∀ (i:U7)(j:i<ys.length),zs[cH.kf fs i]?=Vd ys[i]:=by
 have b:∀ p:Fin ys.length,∃ i,i<ys.length/\cH.kf fs i=p.1:=fun p=>by
  obtain⟨i,l,a⟩:=cH.wV fs (k:=p.1) (by rw[f];exact p.2);exact⟨i,by omega,a⟩
 refine⟨List.ofFn fun p:Fin ys.length=>ys[Classical.choose (b p)]'(Classical.choose_spec (b p)).1,by simp,fun i j=>?_⟩;have h:cH.kf fs i<ys.length:=by rw[<- f];exact cH.zV fs UT
 rw[List.getElem?_ofFn,dif_pos h,Z5];have a:=Classical.choose_spec (b ⟨cH.kf fs i,h⟩);have e:=cH.Af (fs:=fs) (by rw[f];exact a.1) UT a.2;simp only[e]
def pd(cs:Array Vh)(p:U7)(a b c d e f:Vh):Array Vh:=(((((cs.setIfInBounds (p*6) a).setIfInBounds (p*6+1) b).setIfInBounds (p*6+2) c).setIfInBounds (p*6+3) d).setIfInBounds (p*6+4) e).setIfInBounds (p*6+5) f
theorem LF(cs:Array Vh)(p:U7)(a b c d e f:Vh)(l:p*6+5<cs.size)(q j:U7)(m:j<6):(pd cs p a b c d e f)[q*6+j]?=if q=p then [a,b,c,d,e,f][j]? else cs[q*6+j]?:=by
 unfold pd
 by_cases h:q=p
 ·subst h;rw[Va rfl];rcases (show j=0\/j=1\/j=2\/j=3\/j=4\/j=5 by omega) with rfl|rfl|rfl|rfl|rfl|rfl
  all_goals
   simp only[Array.getElem?_setIfInBounds,Array.size_setIfInBounds];simp
   try omega
 ·rw[U9 h];simp only[Array.getElem?_setIfInBounds,Array.size_setIfInBounds];rw[U9 UT,U9 UT,U9 UT,U9 UT,U9 UT,U9 UT]
theorem Mo(cs:Array Vh)(p:U7)(a b c d e f:Vh):(pd cs p a b c d e f).size=cs.size:=by simp[pd]
theorem Mn{cs:Array Vh}{t:TypeId}{m:U7 × U7}(h:W.heap[O]?=Vd (.cells cs t m))(p:U7)(a b c d e f:Vh):((((((W.setCell ⟨O,p*6,Vc⟩ a).setCell ⟨O,p*6+1,Vc⟩ b).setCell ⟨O,p*6+2,Vc⟩ c).setCell ⟨O,p*6+3,Vc⟩ d).setCell ⟨O,p*6+4,Vc⟩ e).setCell ⟨O,p*6+5,Vc⟩ f).heap[O]?=Vd (.cells (pd cs p a b c d e f) t m) :=
 lQ (lQ (lQ (lQ (lQ (lQ h a) b) c) d) e) f
theorem nJ.off{wr:Vg}{ys:U4 (aL × U7 × U7)}(h:nJ w wr v ys)(k:aF [O] wr wx)(p:wr.heap.size<=O):nJ w wx v ys:=by
 refine⟨dO h.own k (fun b a e=>by have:=eV h.own a;simp at e;omega),fun y o=>?_,⟨k.os.trans h.bw.os,k.tape.trans h.bw.tape,k.output.trans h.bw.output,Vp h.bw.size k.size,fun b a=>(k.block b (zL a h.bw.size) (fun e=>by have:=h.bw.size;simp at e;omega)).trans (h.bw.block b a)⟩⟩;obtain⟨m,l,j,f⟩:=h.sl y o;exact⟨m.off k UZ,l,Wj j k.size,f⟩
theorem Ep(h:DD w d s xs F)(a9:aA.dB s.es)(name:U3)(fr til:U8):
  Vj prog 235 #[.pointer (Vd ⟨d,0,Vc⟩),.string name,.int .i64 fr,.int .i64 til] w fun e w'=>∃ v,e=.returned v/\pj w v (aA.kS name fr til s.es) w':=by
 obtain⟨i0,bm,bf,bc,ba⟩:=info_parts wN;have H:=aC h;have ca:=h.len;have cn:=h.el;clear h
 go_in
 go_wp2_with fail
 go_loopw [9,10,11,12] (fun v i _ _ wx=>∃ k:U7,k<=xs.length/\i=.int .i64 k/\∃ ys,nJ w wx v ys/\ys.length<=k/\(∀ y∈ys,EB y.1)/\ys.map (·.1)=((xs.take k).map (·.1)).filter (kh name fr til)) (fun _ i _ _ _=>xs.length-(intOf i).toNat)
 case atStart=>exact⟨0,Wg _,rfl,[],⟨WJ _ _ _ _,by simp,Below.refl _ _⟩,by simp,by simp,by simp⟩
 case round =>
  obtain⟨k,hk,rfl,ys,hR,ch,ab,S⟩:=hrel;have hD:=H.out.later hR.bw;obtain⟨a,cap,E,hr⟩:=hD.er;have cc:=hr.c;have HR:=aC (zA hR (zA S ab))
  by_cases ac:k<xs.length
  ·obtain rfl:=hr.a k ac;have f:=hr.r k ac;have c0:=f.c0;have c1:=f.c1;have c2:=f.c2;have c3:=f.c3;have c4:=f.c4;have c5:=f.c5;have I:(k:U8)<(xs.length:U8):=UT
   have ae:=H.out.en xs[k].1 (H.out.es ▸ Wk.2 ⟨_,ZB ac,rfl⟩);have hX:Vi wr.heap.size wr (wr.alloc (nF xs[k])):=(zr _ _).alloc (zq _) _;have hE:(wr.alloc (nF xs[k])).heap[wr.heap.size]?=Vd (nF xs[k]):=cC _ _
   have ht:(xs.take (k+1)).map (·.1)=(xs.take k).map (·.1)++[xs[k].1]:=by rw[Wf ac,Wq];rfl
   have HT:=aC ht;have RX:=aC (zA (hR.later hX) (zA (f.sl.later hX) (zA ae hX)));have az:0<xs[k].1.aK.length/\xs[k].1.aK.length<=1000:=⟨Zz.2 ae.s0,by have:=ae.sl;omega⟩;have FA:=aC (Ap xs[k] fr til _ RX.out.2.1 UT)
   have ax:kh name fr til xs[k].1=Ve->ys.map (·.1)=((xs.take (k+1)).map (·.1)).filter (kh name fr til):=fun h=>by rw[ht,VO,S];simp[h]
   have ST:=aC ax
   go_upto_region 6 with fail
   change Y9 _ _ _ _ (wr.alloc (nF xs[k]));have f0:=rP hE;have f1:=ta hE;have f2:=rQ hE;have f3:=rR hE;have f4:=rS hE;have f5:=tc hE;have hN:wr.heap.size<(wr.alloc (nF xs[k])).heap.size:=UU
   clear hR S ab hD hr f ht ae hX c0 c1 c2 c3 c4 c5 cc ax;generalize wr.alloc (nF xs[k])=X at *
   go_wp2_with fail
   refine FA.out.mono ?_;rintro e w4 ⟨rfl,A⟩;have bb:=(A.block wr.heap.size hN).trans hE;have R4:=aC (zA (RX.out.1.later A) (RX.out.2.1.later A));have f0:=rP bb;have f1:=ta bb;have f2:=rQ bb;have f3:=rR bb;have f4:=rS bb;have f5:=tc bb;have af:Hid (kh name fr til xs[k].1=((xs[k].1.aT.toList==name.toList) && (xs[k].1.kind != 3) && decide (0<=fo fr til xs[k].1.aK))):=rfl;generalize fo fr til xs[k].1.aK=ff at *;clear A FA hE
   have a6:kh name fr til xs[k].1=Ve->∃ aa:U7,aa<=xs.length/\(V3 .i64 ((k:U8)+1))=.int .i64 aa/\∃ ys,nJ w w4 u9 ys/\ys.length<=aa/\(∀ y∈ys,EB y.1)/\ys.map (·.1)=((xs.take aa).map (·.1)).filter (kh name fr til) :=
    fun h=>⟨k+1,by omega,rfl,ys,R4.out.1,by omega,HR.out.2.2,ST.out h⟩
   have NO:=aC a6;clear a6
   cases q1:(xs[k].1.aT.toList==name.toList)
   ·have N1:=aC (NO.out (by rw[af.out,q1];rfl))
    go_wp2
    go_roundw
    case rel=>exact N1.out
    case measure=>simp[intOf];omega
   ·cases q2:(xs[k].1.kind != 3)
    ·have N1:=aC (NO.out (by rw[af.out,q2];simp))
     go_wp2
     go_roundw
     case rel=>exact N1.out
     case measure=>simp[intOf];omega
    ·by_cases q3:0<=ff
     ·have S1:Hid (kh name fr til xs[k].1=Vf):=by show _=_;rw[af.out,q1,q2];simpa using q3
      have CP:=aC (MD xs[k] w4 R4.out.2 az.1 az.2)
      go_wp2_with fail
      refine CP.out.mono ?_;rintro e w5 ⟨gq,cq,rfl,a1,a2,a3,M⟩;simp only[dN];have R5:=aC (R4.out.1.later M);have a7:u9.ownBlock≠Vd gq:=fun e=>by have:=eV R4.out.1.own e;omega
      have Q5:=aC (zA a1 (zA (Vp R4.out.1.bw.size a2) (zA a3 a7)));have bs:=R5.out.bw.size;clear M a1 a2 a3 a7 f0 f1 f2 f3 f4 f5 CP q1 q2 bb
      go_wp2_with (first|(at_builtin;refine KV rfl _ _ rfl R5.out.own (xs[k].1,gq,cq) rfl rfl UT bs ?_;intro g6 c6 w6 a5 k6 ak))
      have R6:=aC (R5.out.snoc Q5.out a5 k6 ak);clear a5 k6 ak;go_roundw
      case rel =>
       refine⟨k+1,by omega,by go_num,_,R6.out,by simp;omega,fun y hy=>?_,by rw[Wq,HR.out.2.1,HT.out,VO];simp[S1.out]⟩;rcases VA.1 hy with hy|hy
       ·exact HR.out.2.2 y hy
       ·have:y=(xs[k].1,gq,cq):=by simpa using hy
        subst this;exact RX.out.2.2.1
      case measure=>simp[intOf];omega
     ·have N1:=aC (NO.out (by rw[af.out];simp;omega))
      go_wp2
      go_roundw
      case rel=>exact N1.out
      case measure=>simp[intOf];omega
  ·have e:xs.take k=xs:=List.take_of_length_le UT;have I:¬ (k:U8)<(xs.length:U8):=UT
   have bo:ys.map (·.1)=s.es.filter (kh name fr til):=by rw[S,e,H.out.es]
   have cg:ys.length<=60:=UT
   obtain⟨ay,cy,rfl⟩:=gB hR.own;have u:=aC (zA hR (zA bo ab));clear hR S ab hD hr e HR
   by_cases N:ys.length=0
   ·have h0:ys=[]:=List.length_eq_zero_iff.1 N
    have HF:Hid (pj w aR (aA.kS name fr til s.es) wr):=by
     refine⟨[],[],?_,fun w2 _=>EV.nil w2,by simp,u.out.1.bw⟩;have:=u.out.2.1;rw[h0] at this;unfold aA.kS;rw[<- this];rfl
    have bg:((ys.length:U8)==0)=Vf:=by simp[N]
    go_wp2
    go_ret;exact⟨_,rfl,HF.out⟩
   ·have bg:((ys.length:U8)==0)=Ve:=by simp[N]
    have a8:0<ys.length:=UT
    have ao:=run_make (P:=prog) wr 34 58 i0 _ underlying34 bm bf .i64 .i64 ys.length ys.length UT (Xx _) (by rw[ba];omega) UT;simp only[Int.toNat_natCast] at ao;obtain⟨G,Y⟩:∃ G,G=madeCells (Value.agg #[.int .i64 0,.int .i64 0,.string ⟨#[]⟩,.int .i64 0,.slice Vc 0 0,.int .i64 0]).cells (ys.length*i0.size):=⟨_,rfl⟩;rw[<- Y] at ao;have bq:G.size=ys.length*6:=by rw[Y,size_madeCells,bc]
    clear Y;obtain⟨a',cf,gl,he,_,ha,_⟩:=wQ u.out.1.own (fun y hy=>(u.out.1.sl y hy).1);simp only[Yq,true_and] at he;obtain⟨rfl,rfl⟩:=he;obtain rfl:=ha (by intro e;simp[e] at a8)
    have ag:Hid (∀ wx,aF [wr.heap.size] wr wx->∀ (i:U7) (I:i<ys.length),RE wx gl i ys[i].1 ys[i].2.1 ys[i].2.2):=fun wx k=>by
     have R:=u.out.1.off k (zq _);obtain⟨a2,c2,g2,he,_,bu,bh⟩:=wQ R.own (fun y hy=>(R.sl y hy).1);have:=bu (by intro e;simp[e] at a8);simp only[Yq,this,Z5,Z6] at he;obtain⟨⟨rfl,_⟩,_⟩:=he;exact bh
    obtain⟨fs,aq⟩:∃ fs,fs=aA.nK fr til (ys.map (·.1)):=⟨_,rfl⟩
    have FS:Hid (fs.length=ys.length/\∀ (i:U7) (I:i<ys.length),fs.getD i 0=fo fr til ys[i].1.aK):=by
     rw[aq];refine⟨by simp[aA.nK],fun i I=>?_⟩;rw[aA.As (by simpa using I)];simp
    have b8:=aC aq;have YE:Hid (∀ (i:U7) (I:i<ys.length),ys[i].1.aK.length<=1000):=fun i I=>by have:=(u.out.2.2 ys[i] (zg I)).sl;omega
    clear aq ha
    go_upto_region 12 with fail
    have hO:=cC wr (.cells G 58);have kO:aF [wr.heap.size] wr (wr.alloc (.cells G 58)):=(aF.refl _ _).alloc _;have OO:=aC (zA kO hO);clear ao kO hO cc;generalize wr.alloc (.cells G 58)=Wo at *;have bn:gl<wr.heap.size:=eV u.out.1.own rfl;obtain⟨O,au⟩:∃ O,O=wr.heap.size:=⟨_,rfl⟩;rw[<- au] at OO ag bn ⊢;have av:=aC au;clear au;obtain⟨W1,bv⟩:∃ W1,W1=wr:=⟨_,rfl⟩;subst bv
    go_wp2_with fail
    go_loopw [14,15,16,17,18] (fun i _ _ _ _ wx=>∃ j:U7,j<=ys.length/\i=.int .i64 j/\∃ cs,aF [O] W1 wx/\wx.heap[O]?=Vd (.cells cs 58)/\cs.size=ys.length*6/\∀ (j':U7) (_:j'<j) (hl:j'<ys.length) (c:U7),c<6->cs[cH.kf fs j'*6+c]?=(dN ys[j'])[c]?) (fun i _ _ _ _ _=>ys.length-(intOf i).toNat)
    case atStart=>exact⟨0,Wg _,rfl,G,OO.out.1,OO.out.2,bq,fun j' h=>by omega⟩
    case round =>
     obtain⟨j,hj,rfl,cs,m,o,U,x⟩:=hrel;have HC:=aC (zA m (zA o (zA U x)))
     by_cases J:j<ys.length
     ·have f:=ag.out _ m j J;have c0:=f.c0;have c1:=f.c1;have c2:=f.c2;have c3:=f.c3;have c4:=f.c4;have c5:=f.c5;have bj:(j:U8)<(ys.length:U8):=UT
      have FA:=aC (Ap ys[j] fr til _ f.sl (by have:=YE.out j J;omega));have FJ:=FS.out.2 j J;rw[<- FJ] at FA;clear m o U x f FJ
      go_wp2_with fail
      refine FA.out.mono ?_;rintro e w4 ⟨rfl,A⟩;have H4:Hid (aF [O] W1 w4/\w4.heap[O]?=Vd (.cells cs 58)):=⟨HC.out.1.trans (aF.aD A),(A.block _ (Y8.1 HC.out.2.1).1).trans HC.out.2.1⟩;obtain⟨fj,ar⟩:∃ fj,fj=fs.getD j 0:=⟨_,rfl⟩;rw[<- ar];have b9:=aC ar;clear A FA c0 c1 c2 c3 c4 c5 ar
      go_wp2_with fail
      go_loopw [15,17,18] (fun at_ i _ wx=>∃ q:U7,q<=ys.length/\i=.int .i64 q/\at_=.int .i64 (cH.upto fs j q:U7)/\aF [O] W1 wx/\wx.heap[O]?=Vd (.cells cs 58)) (fun _ i _ _=>ys.length-(intOf i).toNat)
      case atStart=>exact⟨0,Wg _,rfl,rfl,H4.out⟩
      case round =>
       obtain⟨q,hq,rfl,rfl,m,o⟩:=hrel;have cj:=cH.zX fs j q
       by_cases an:q<ys.length
       ·have f:=ag.out _ m q an;have c0:=f.c0;have c1:=f.c1;have c2:=f.c2;have c3:=f.c3;have c4:=f.c4;have c5:=f.c5;have bi:(q:U8)<(ys.length:U8):=UT
        have FA:=aC (Ap ys[q] fr til _ f.sl (by have:=YE.out q an;omega));have FJ:=FS.out.2 q an;rw[<- FJ] at FA;have UP:Hid (cH.upto fs j (q+1)=cH.upto fs j q+if cH.before fs q j then 1 else 0):=cH.uX fs j q;have BF:Hid (cH.before fs q j=(decide (fs.getD q 0<fj) || (decide (fs.getD q 0=fj) && decide (q<j)))):=by show _=_;rw[b9.out];rfl
        have HO:=aC (zA m o);clear m o f FJ
        go_wp2_with fail
        refine FA.out.mono ?_;rintro e w5 ⟨rfl,M⟩;have H5:Hid (aF [O] W1 w5/\w5.heap[O]?=Vd (.cells cs 58)):=⟨HO.out.1.trans (aF.aD M),(M.block _ (Y8.1 HO.out.2).1).trans HO.out.2⟩;generalize fs.getD q 0=fq at *;generalize cH.upto fs j q=uq at *;clear M FA c0 c1 c2 c3 c4 c5;have ai:cH.before fs q j=Vf->∃ C:U7,C<=ys.length/\(V3 .i64 ((q:U8)+1))=.int .i64 C/\(V3 .i64 ((uq:U8)+1))=.int .i64 (cH.upto fs j C:U7)/\aF [O] W1 w5/\w5.heap[O]?=Vd (.cells cs 58):=fun h=>⟨q+1,by omega,rfl,by rw[UP.out,h];rfl,H5.out⟩
        have aj:cH.before fs q j=Ve->∃ C:U7,C<=ys.length/\(V3 .i64 ((q:U8)+1))=.int .i64 C/\(V3 .i64 (uq:U8))=.int .i64 (cH.upto fs j C:U7)/\aF [O] W1 w5/\w5.heap[O]?=Vd (.cells cs 58):=fun h=>⟨q+1,by omega,rfl,by rw[UP.out,h];rfl,H5.out⟩
        have HY:=aC ai;have HN:=aC aj;clear ai aj
        by_cases a1:fq<fj
        ·have Y1:=aC (HY.out (by rw[BF.out];simp[a1]))
         go_wp2
         go_roundw
         case rel=>exact Y1.out
         case measure=>simp[intOf];omega
        ·by_cases a2:fq=fj
         ·have b6:(fq==fj)=Vf:=by simpa using a2
          by_cases a3:q<j
          ·have Y1:=aC (HY.out (by rw[BF.out];simp[a2,a3]));have b4:(q:U8)<(j:U8):=UT
           clear a2
           go_wp2
           go_roundw
           case rel=>exact Y1.out
           case measure=>simp[intOf];omega
          ·have Y1:=aC (HN.out (by rw[BF.out];simp[a1,a3]));have b4:¬ (q:U8)<(j:U8):=UT
           clear a2
           go_wp2
           go_roundw
           case rel=>exact Y1.out
           case measure=>simp[intOf];omega
         ·have b6:(fq==fj)=Ve:=by simpa using a2
          have Y1:=aC (HN.out (by rw[BF.out];simp[a1,a2]));clear a2
          go_wp2
          go_roundw
          case rel=>exact Y1.out
          case measure=>simp[intOf];omega
       ·have e:cH.upto fs j q=cH.kf fs j:=by unfold cH.kf;rw[FS.out.1,show q=ys.length by omega]
        have bi:¬ (q:U8)<(ys.length:U8):=UT
        have a4:=cH.zV fs (i:=j) (by rw[FS.out.1];exact J);rw[FS.out.1] at a4;rw[e];have f:=ag.out _ m j J;have c0:=f.c0;have c1:=f.c1;have c2:=f.c2;have c3:=f.c3;have c4:=f.c4;have c5:=f.c5;have U:=HC.out.2.2.1;have cm:(j:U8)<(ys.length:U8):=UT
        obtain⟨p,hp⟩:∃ p,p=cH.kf fs j:=⟨_,rfl⟩;rw[<- hp] at a4 ⊢;have HP:=aC hp;have ck:(p:U8)<(ys.length:U8):=UT
        have oc:∀ c,c<6->∃ v,wr.cell? ⟨O,p*6+c,Vc⟩=Vd v:=fun c hc=>by
         have h9:p*6+c<cs.size:=UT
         exact⟨cs[p*6+c],by simp[VK,o,h9]⟩
        obtain⟨v0,o0⟩:=oc 0 UT;obtain⟨v1,o1⟩:=oc 1 UT;obtain⟨v2,o2⟩:=oc 2 UT;obtain⟨v3,o3⟩:=oc 3 UT;obtain⟨v4,o4⟩:=oc 4 UT;obtain⟨v5,o5⟩:=oc 5 UT;rw[Nat.add_zero] at o0;have of:=uH o;have cd:gl≠O:=by have:=av.out;omega
        have HO:=aC (zA m o);clear m o f hp oc e U
        go_wp2
        go_roundw
        case rel =>
         refine⟨j+1,by omega,by go_num,pd cs p (.int .i64 ys[j].1.id) (.int .i64 ys[j].1.kind) (.string ys[j].1.aT) (.int .i64 ys[j].1.aH) (.slice (Vd ⟨ys[j].2.1,0,Vc⟩) ys[j].1.aK.length ys[j].2.2) (.int .i64 ys[j].1.bY),((((((HO.out.1.setCell (.inl UU) _ _).setCell (.inl UU) _ _).setCell (.inl UU) _ _).setCell (.inl UU) _ _).setCell (.inl UU) _ _).setCell (.inl UU) _ _),Mn HO.out.2 p _ _ _ _ _ _,by rw[Mo];exact HC.out.2.2.1,fun j' h1 h2 c h3=>?_⟩;rw[LF _ _ _ _ _ _ _ _ (by have:=HC.out.2.2.1;omega) _ _ h3]
         by_cases e1:j'=j
         ·subst e1;rw[HP.out,Va rfl];rfl
         ·rw[U9,HC.out.2.2.2 j' UT h2 c h3];intro e2;rw[HP.out] at e2;exact e1 (cH.Af (fs:=fs) (by rw[FS.out.1];exact h2) (by rw[FS.out.1];exact J) e2)
        case measure=>simp[intOf];omega
     ·have bj:¬ (j:U8)<(ys.length:U8):=UT
      have HF:Hid (pj w (.slice (Vd ⟨O,0,Vc⟩) ys.length ys.length) (aA.kS name fr til s.es) wr):=by
       obtain⟨zs,aw,al⟩:=Mp fs ys FS.out.1;have R:=u.out.1.off m (by rw[av.out];exact zq _)
       have V:∀ z∈zs,z∈ys:=fun z N=>by
        obtain⟨p,hp,rfl⟩:=List.getElem_of_mem N;obtain⟨i,I,e⟩:=cH.wV fs (k:=p) (by rw[FS.out.1];omega);have:=al i (by rw[<- FS.out.1];exact I);rw[e,Xa hp,Z5] at this;rw[this];exact zg _
       have bz:O<wr.heap.size:=(Y8.1 o).1;have T:=Lj (w:=w) (w':=wr) (g:=O) (cap:=ys.length) (a:=Vd ⟨O,0,Vc⟩) (zs:=zs) (fun _=>rfl) (fun p hp=>?_) (fun _=>⟨by have:=u.out.1.bw.size;have:=av.out;omega,bz⟩) (fun z N=>⟨(R.sl z (V z N)).2.1,(R.sl z (V z N)).2.2.1⟩) R.bw
       ·rw[aw] at T;have e1:=aA.Hk (name:=name) (a:=fr) (b:=til) (es:=s.es) (out:=zs.map (·.1)) a9
        obtain⟨p1,p2⟩:=aA.Mw (a:=fr) (b:=til) (l:=ys.map (·.1)) (out:=zs.map (·.1)) (by rw[u.out.2.1];exact aA.yk _ a9) (by simp[aw]) (fun i I=>by
         have ad:i<ys.length:=by simpa using I
         rw[<- b8.out,Yr,al i ad];simp)
        rw[e1 p1 (fun e=>by rw[p2 e,u.out.2.1])] at T;exact T
       ·obtain⟨i,I,e⟩:=cH.wV fs (k:=p) (by rw[FS.out.1];omega);have ad:i<ys.length:=by rw[<- FS.out.1];exact I
        have N:=al i ad;rw[e,Xa hp,Z5] at N
        have cl:∀ c,c<6->wr.cell? ⟨O,p*6+c,Vc⟩=(dN zs[p])[c]?:=fun c hc=>by
         have:=x i UT ad c hc;rw[e] at this;rw[N,<- this];simp[VK,o]
        exact⟨cl 0 UT,cl 1 UT,cl 2 UT,cl 3 UT,cl 4 UT,cl 5 UT,(R.sl zs[p] (V _ (zg hp))).1⟩
      clear m o U x
      go_wp2
      go_ret;exact⟨_,rfl,HF.out⟩
theorem DD.lJ(h:DD w d s xs F)(q:Vi w.heap.size w X)(T:pj X v es Z)(I:w.heap.size<=Q)(C:Q<X.heap.size)(a b c e f g i:Vh):dK w d F xs (s,{ bO.num 0 with entries:=es }) (.returned (bC 0 0 0 v aR aR aR)) (cK Z Q a b c e f g i):=by
 obtain⟨l,G,A,E,p,z⟩:=T;have m:=lE Z Q a b c e f g i;have kw:Vi w.heap.size w Z:=bA q z (zq _);have u:∀ x,x<w.heap.size->x ∉ [Q]:=fun x j e=>by simp at e;omega
 have o:∀ x∈G,x ∉ [Q]:=fun x j e=>by have:=(p x j).1;simp at e;omega
 refine⟨v,aR,aR,aR,xs,F,G,rfl,fun w2 y=>⟨⟨l,E w2 (fun x j=>(y x j).trans (m.block x (p x j).2 (o x j))),A⟩,NV.nil _,NV.nil _⟩,WJ _ _ _ _,(h.later kw).off m (fun x j=>u x (h.lt x j)) (fun x j=>u _ (h.rd.sp x j).2.2),fun _ j=>.inl j,(aF.aD kw).trans' m (fun x j=>.inr (by simp at j;omega)),fun x j=>?_,fun x j=>by simp[WH] at j,fun x j=>.inl ⟨x,j,rfl⟩⟩;have H:=p x j;have y:=q.size;exact⟨by omega,Wj H.2 m.size,fun e=>by have:=h.lt x e;omega,by simp[WH]⟩
theorem pj.bw(h:pj w v es w'):Vi w.heap.size w w':=by obtain⟨_,_,_,_,_,k⟩:=h;exact k
theorem pj.form(h:pj w v es w'):∃ a cap,v=.slice a es.length cap:=by
 obtain⟨l,G,b,f,_⟩:=h;obtain⟨a,c,e⟩:=(f w' (fun _ _=>rfl)).form;exact⟨a,c,by rw[<- b,WK];exact e⟩
def zh(b:Bool)(name:U3)(fr til:U8):aA.fI:=if b then .list name fr til else .cY name fr til
def Ky(w:Vg)(g n:U7)(b:Bool)(fr til:U8):Prop:=(n=2/\b=Vf/\fr=0/\til=1048320)\/(3<n/\∃ t u:U3,t.size<=160/\u.size<=160/\w.cell? ⟨g,2,Vc⟩=Vd (.string t)/\w.cell? ⟨g,3,Vc⟩=Vd (.string u)/\cZ t=fr/\cZ u=til)
theorem Al(h:DD w d s xs F)(P:aA.dB s.es){b:Bool}{name:U3}{fr til:U8}(hb:(kw.toList==[108,105,115,116])=b)(hn:1<n)(ht:Ky w g n b fr til)(h0:w.cell? ⟨g,0,Vc⟩=Vd (.string kw))(h1:w.cell? ⟨g,1,Vc⟩=Vd (.string name)):
  Vj prog 177 #[.pointer (Vd ⟨d,0,Vc⟩),.slice (Vd ⟨g,0,Vc⟩) n c] w (dK w d F xs (aU s (zh b name fr til))):=by
 have a:=aC ((KP.nil w).alloc aX);have H:=aC h;have i0:(0:U8)<(n:U8):=UT
 have i1:(1:U8)<(n:U8):=UT
 have y0:=aN a.out.bl h0;have y1:=aN a.out.bl h1;have G:w.heap.size<(w.alloc aX).heap.size:=UU
 have M:Hid (aU s (zh b name fr til)=if aA.bJ name s.ts=0 then (s,.error 3) else if til<=fr then (s,.error 6) else if b then (s,{ bO.num 0 with entries:=aA.kS name fr til s.es }) else (s,.num (aA.lG name s.es fr til))):=by
  show _=_
  cases b <;> rfl
 clear h
 go_in
 go_upto_region 1 with fail
 change Y9 _ _ _ _ (w.alloc aX);generalize w.alloc aX=X at *;generalize aU s (zh b name fr til)=D at *;rcases ht with ⟨rfl,rfl,rfl,rfl⟩|⟨h3,t,u,zt,zu,ct,cu,rfl,rfl⟩
 ·have N:=aC (H.out.later a.out.bl);have UN:=aC (N.out.aH name);have LS:=aC (Ep N.out P name 0 1048320);have J:=aC (Q7.of (a.out.kb (w.heap.size,aX) UU));generalize aA.bJ name s.ts=un at *
  go_wp2_with fail
  refine UN.out.mono ?_;rintro e w3 ⟨rfl,rfl⟩
  by_cases f:un=0
  ·have A:Hid (dK w d F xs D (.returned (bC 3 0 0 aR aR aR aR)) (cK w3 w.heap.size (.int .i64 3) (.int .i64 0) (.int .i64 0) aR aR aR aR)):=by
    show dK w d F xs _ _ _;rw[M.out,Va f];exact H.out.said a.out.bl (zq _) 3 0 _ _ _ _ _ _ _
   have I:(un==0)=Vf:=by simpa using f
   obtain⟨y,x,p,o,m,l,j,z⟩:=J.out;clear f
   go_wp2_with fail
   exact cO results177 ⟨y,x,p,o,m,l,j,z⟩ A.out
  ·have I:(un==0)=Ve:=by simpa using f
   have U:Hid (D=(s,{ bO.num 0 with entries:=aA.kS name 0 1048320 s.es })):=by show _=_;rw[M.out,U9 f];rfl
   clear f
   go_wp2_with fail
   refine LS.out.mono ?_;rintro e w4 ⟨v,rfl,C⟩;obtain⟨al,cl,V⟩:=C.form
   have A:Hid (dK w d F xs D (.returned (bC 0 0 0 v aR aR aR)) (cK w4 w.heap.size (.int .i64 0) (.int .i64 0) (.int .i64 0) v aR aR aR)):=by
    show dK w d F xs _ _ _;rw[U.out];exact H.out.lJ a.out.bl C (zq _) G _ _ _ _ _ _ _
   obtain⟨y,x,p,o,m,l,j,z⟩:=J.out.later (C.bw.block _ G);clear C;subst V
   go_wp2_with fail
   exact cO results177 ⟨y,x,p,o,m,l,j,z⟩ A.out
 ·have i2:(2:U8)<(n:U8):=UT
  have i3:(3:U8)<(n:U8):=UT
  have c2:=aN a.out.bl ct;have T1:=aC (fun wx=>qu t wx zt);have T2:=aC (fun wx=>qu u wx zu);generalize cZ t=fr at *;generalize cZ u=til at *
  go_wp2_with fail
  refine (T1.out _).mono ?_;rintro e w1 ⟨rfl,T⟩;replace a:=aC (a.out.later T);have c3:=aN a.out.bl cu;clear T y0 y1 c2 G
  go_wp2_with fail
  refine (T2.out _).mono ?_;rintro e w2 ⟨rfl,S⟩;replace a:=aC (a.out.later S);have y0:=aN a.out.bl h0;have y1:=aN a.out.bl h1;have G:w.heap.size<w2.heap.size:=a.out.lt (q:=(w.heap.size,aX)) UU;clear S c3 T1 T2 X;have N:=aC (H.out.later a.out.bl);have UN:=aC (N.out.aH name);have LS:=aC (Ep N.out P name fr til);have PK:=aC (N.out.cY name fr til);have J:=aC (Q7.of (a.out.kb (w.heap.size,aX) UU));generalize aA.bJ name s.ts=un at *;generalize aA.lG name s.es fr til=pk at *
  go_wp2_with fail
  refine UN.out.mono ?_;rintro e w3 ⟨rfl,rfl⟩
  by_cases f:un=0
  ·have A:Hid (dK w d F xs D (.returned (bC 3 0 0 aR aR aR aR)) (cK w3 w.heap.size (.int .i64 3) (.int .i64 0) (.int .i64 0) aR aR aR aR)):=by
    show dK w d F xs _ _ _;rw[M.out,Va f];exact H.out.said a.out.bl (zq _) 3 0 _ _ _ _ _ _ _
   have I:(un==0)=Vf:=by simpa using f
   obtain⟨y,x,p,o,m,l,j,z⟩:=J.out;clear f
   go_wp2_with fail
   exact cO results177 ⟨y,x,p,o,m,l,j,z⟩ A.out
  ·have I:(un==0)=Ve:=by simpa using f
   by_cases Y:til<=fr
   ·have A:Hid (dK w d F xs D (.returned (bC 6 0 0 aR aR aR aR)) (cK w3 w.heap.size (.int .i64 6) (.int .i64 0) (.int .i64 0) aR aR aR aR)):=by
     show dK w d F xs _ _ _;rw[M.out,U9 f,Va Y];exact H.out.said a.out.bl (zq _) 6 0 _ _ _ _ _ _ _
    obtain⟨y,x,p,o,m,l,j,z⟩:=J.out;clear f
    go_wp2_with fail
    exact cO results177 ⟨y,x,p,o,m,l,j,z⟩ A.out
   ·cases b
    ·have U:Hid (D=(s,.num pk)):=by show _=_;rw[M.out,U9 f,U9 Y];rfl
     clear f
     go_wp2_with fail
     refine PK.out.mono ?_;rintro e w4 ⟨rfl,E⟩;have B4:=aC (bA a.out.bl E (zq _))
     have A:Hid (dK w d F xs D (.returned (bC 0 0 pk aR aR aR aR)) (cK w4 w.heap.size (.int .i64 0) (.int .i64 0) (.int .i64 pk) aR aR aR aR)):=by
      show dK w d F xs _ _ _;rw[U.out];exact H.out.said B4.out (zq _) 0 pk _ _ _ _ _ _ _
     obtain⟨y,x,p,o,m,l,j,z⟩:=J.out.later (E.block _ G);clear E
     go_wp2_with fail
     exact cO results177 ⟨y,x,p,o,m,l,j,z⟩ A.out
    ·have U:Hid (D=(s,{ bO.num 0 with entries:=aA.kS name fr til s.es })):=by show _=_;rw[M.out,U9 f,U9 Y];rfl
     clear f
     go_wp2_with fail
     refine LS.out.mono ?_;rintro e w4 ⟨v,rfl,C⟩;obtain⟨al,cl,V⟩:=C.form
     have A:Hid (dK w d F xs D (.returned (bC 0 0 0 v aR aR aR)) (cK w4 w.heap.size (.int .i64 0) (.int .i64 0) (.int .i64 0) v aR aR aR)):=by
      show dK w d F xs _ _ _;rw[U.out];exact H.out.lJ a.out.bl C (zq _) G _ _ _ _ _ _ _
     obtain⟨y,x,p,o,m,l,j,z⟩:=J.out.later (C.bw.block _ G);clear C;subst V
     go_wp2_with fail
     exact cO results177 ⟨y,x,p,o,m,l,j,z⟩ A.out
open aA (aL St bO Inv aU ie)
def kC:U4 U3:=[kv,kn,kr,dY,km,ki,kL,ib,iY]
def qh(t:U3):Prop:=∃ k∈kC,bD (aB.aP t) 0 Ve k=Vf
def Dj(t:U3):(U8 × U8) ⊕ aA.fI->Prop
 |.inl (er,at_)=>(160<t.size/\er=1/\at_=0)\/(t.size<=160/\∃ m:U7,jj t=(Vc,m)/\er=2/\at_=m)
 |.inr l=>t.size<=160/\∃ q,Full t q/\iC (aB.aP t) q l/\aA.jz l
def kH(s:St):(U8 × U8) ⊕ aA.fI->St × bO
 |.inl (er,at_)=>(s,⟨er,at_,0,[],[],[],[]⟩)
 |.inr l=>ie s l
def wv:(U8 × U8) ⊕ aA.fI->Prop
 |.inl _=>True
 |.inr l=>lL l=Vf
theorem Da{b:TypeId}{a:Array Vh}{l:aA.fI}(ht:b=165\/b=180)(h:LV (.iface b (.agg a)) l):lL l=Vf:=by
 generalize f:Value.iface b (.agg a)=v at h;rcases ht with rfl|rfl <;> cases h <;> first|rfl|simp at f
theorem D9(h:qh t):∃ v st,gJ (aB.aP t) v st/\qk t st/\(st.2=Ve->cB (aB.aP t).length st.1 st.2=Ve->∃ q l,Full t q/\iC (aB.aP t) q l/\LV v l/\aA.jz l/\lL l=Vf):=by
 obtain⟨k,u,h⟩:=h
 have f:∀ {v st},gJ (aB.aP t) v st->nD t v st->(∀ l,LV v l->lL l=Vf)->∃ v st,gJ (aB.aP t) v st/\qk t st/\(st.2=Ve->cB (aB.aP t).length st.1 st.2=Ve->∃ q l,Full t q/\iC (aB.aP t) q l/\LV v l/\aA.jz l/\lL l=Vf):=fun {v st} E x C=>⟨v,st,E,x.1,fun a b=>by
  obtain⟨q,l,A,z,p,y⟩:=x.2 a b
  exact⟨q,l,A,z,p,y,C l p⟩⟩
 simp only[kC,Vz,ZZ,or_false] at u;rcases u with rfl|rfl|rfl|rfl|rfl|rfl|rfl|rfl|rfl
 ·exact f (.aT h) (Mu h) (fun l j=>by cases j;rfl)
 ·exact f (.book h) (Lx h) (fun l j=>by cases j;rfl)
 ·exact f (.cancel h) (MC h) (fun l j=>by cases j;rfl)
 ·cases o:cB (aB.aP t).length (aQ (aB.aP t) [bI] (1,Ve)).1 (aQ (aB.aP t) [bI] (1,Ve)).2
  ·exact f (.list0 h o) (L7 h o) (fun l j=>by cases j;rfl)
  ·exact f (.list1 h o) (L9 h o) (fun l j=>by cases j;rfl)
 ·exact f (.cY h) (Lz h) (fun l j=>by cases j;rfl)
 ·exact f (.find h) (Lq h) (fun l j=>by cases j;rfl)
 ·exact f (.clock h) (LZ h) (fun l j=>by cases j;rfl)
 ·obtain⟨pc,ev,acc,fr,mn,mi,ti,un,st,m⟩:=Do (aB.aP t) (aQ (aB.aP t) [bI,dE] (1,Ve));exact f (.series h pc ev acc fr mn mi ti un st m) (Kw h m) (fun l j=>Da (.inl rfl) j)
 ·obtain⟨pc,ev,acc,fr,mn,mi,ti,un,st,m⟩:=Do (aB.aP t) (1,Ve);exact f (.expand h pc ev acc fr mn mi ti un st m) (Kv h m) (fun l j=>Da (.inr rfl) j)
theorem LU(h:qh t):∃ o,AH t o/\Dj t o/\wv o:=by
 by_cases f:160<t.size
 ·exact⟨.inl (1,0),⟨by decide,.inl ⟨rfl,rfl⟩,fun e a=>B8 a (.long f)⟩,.inl ⟨f,rfl,rfl⟩,trivial⟩
 ·obtain⟨v,st,j,C,E⟩:=D9 h
  by_cases m:st.2=Vf\/cB (aB.aP t).length st.1 st.2=Vf
  ·exact⟨.inl (2,st.1),⟨by decide,.inr ⟨rfl,by omega⟩,fun e a=>B8 a (.bad UT v st j m)⟩,.inr ⟨by omega,st.1,C m,rfl,rfl⟩,trivial⟩
  ·have u:st.2=Ve:=by cases e:st.2 <;> simp_all
   have p:cB (aB.aP t).length st.1 st.2=Ve:=by cases e:cB (aB.aP t).length st.1 st.2 <;> simp_all
   obtain⟨q,l,A,z,y,b,x⟩:=E u p;exact⟨.inr l,⟨v,fun e a=>B8 a (.qm UT v st j u p),y,b⟩,⟨by omega,q,A,z,b⟩,x⟩
theorem Lo(t:U3):wE t:=fun X a=>SQ t X a
theorem L4{o:Raw}(h:dS w d s o aM)(ht:gy w)(m:10<=w.heap.size){f:Vh}{l:aA.fI}(p:LV f l)(j:aA.jz l)(q:lL l=Vf):
  Vj prog 64 #[.pointer (Vd ⟨d,0,Vc⟩),f] w fun e w'=>∃ v,e=.returned v/\dX w d aM (aA.aU s l) v w':=by
 cases p with
 |aT name hn u=>exact TN h name hn u
 |book name hn u fr til=>exact Te h name hn u fr til j
 |cancel id=>exact TW h id j
 |list name hn wi fr til a b ha hb=>exact Th h name hn wi fr til a b ha hb
 |cY name hn fr til=>exact Ti h name hn fr til j
 |find name hn u long fr til=>exact Tf h name hn u long fr til j
 |clock=>exact TJ h
 |series name hn u r=>exact TY h ht m name hn u r j
 |expand r=>exact TX h ht m r j
 |_=>cases q
theorem KW{p:U7}(h:BD w p d s r aM)(u:wE t){o:(U8 × U8) ⊕ aA.fI}(ht:AH t o)(b:wv o):
  Vj prog 21 #[.pointer (Vd ⟨p,0,Vc⟩),.string t] w fun e w'=>∃ v,e=.returned v/\lS w p d aM (kH s o) v w':=by
 cases o with
 |inl q =>
  obtain⟨z,at_⟩:=q;exact Lw h t z at_ u ht.1 ht.2.2
 |inr l =>
  obtain⟨a,y,x,j⟩:=ht;exact L6 h t a l u y (aA.zG h.ds.inv j b) (aA.Kp h.ds.inv j b) (by rw[aA.zZ s b];simp) (fun _ ht m f=>L4 f ht m x j b)
theorem DP(b:∀ (j:U7)(a:j<(aB.aP t).length),X.cell? ⟨g,j,Vc⟩=Vd (.string (aB.aP t)[j])){j:U7}(a:j<(aB.aP t).length):X.cell? ⟨g,j,Vc⟩=Vd (.string ((aB.aP t).getD j YM)):=by
 rw[b j a];simp[Wr,a]
theorem Full.head{k:U3}{R:U4 U3}(h:Full t (k :: R))(a:jC k=Vf):(aB.aP t).getD 0 YM=k :=
 KM (by rw[nE,<- gY k a];exact uJ (Q:=[]) h.all)
theorem KY(s:St)(l:aA.fI):(aU s l).2.at_=0:=by
 cases l <;> simp only[aU] <;> (repeat' split) <;> rfl
theorem Dy(h:Inv s):(s.es.length:U8)<=s.given:=by
 have b:(s.es.map fun e:aL=>e.id).Pairwise (· < ·):=h.ids
 have:=BH _ 1 s.given b (fun x a=>by
  obtain⟨e,f,rfl⟩:=Wk.1 a;have j:=h.mO e f
  omega)
 have:=h.g0;rw[WK] at *;omega
theorem Ln(h:DD w d s xs F)(u:Inv s)(P:t.size<=160){q:U4 U3}{l:aA.fI}(A:Full t q)(S:iC (aB.aP t) q l)(C:aA.jz l)(U:lL l=Vf)(X:Vg)(g c:U7)(k:Vi w.heap.size w X)(I:∀ (j:U7)(x:j<(aB.aP t).length),X.cell? ⟨g,j,Vc⟩=Vd (.string (aB.aP t)[j])):
  Vj prog 117 #[.pointer (Vd ⟨d,0,Vc⟩),.slice (Vd ⟨g,0,Vc⟩) (aB.aP t).length c] X (dK X d F xs (aU s l)):=by
 have m:=A.len;have p:=h.later k
 have z:∀ j,((aB.aP t).getD j YM).size<=160:=fun j=>by
  by_cases x:j<(aB.aP t).length
  ·simp only[Wr,x,Xa,Option.getD_some];exact Vp (xF t _ (zg x)) P
  ·simp[Wr,x]
 have at_:∀ Y,Vi X.heap.size X Y->∀ j,j<(aB.aP t).length->Y.cell? ⟨g,j,Vc⟩=Vd (.string ((aB.aP t).getD j YM)):=fun Y a j x=>aN a (DP I x)
 have a0:=fun (x:0<(aB.aP t).length)=>DP I x
 have un:=fun name=>(aA.CG u.tu name).1
 cases S with
 |aT =>
  have o:=A.head UX;simp only[V5,V9] at m;refine qv p (f:=172) UT (a0 UT) (by rw[o];simp[oj,kv]) (fun Y a=>?_);exact M4 (p.later a) UT (z 2) (un _) (at_ Y a 1 UT) (at_ Y a 2 UT)
 |book =>
  have o:=A.head UX;simp only[V5,V9] at m;obtain⟨_,u1,u2,M,J,H,G⟩:=C;refine qv p (f:=173) UT (a0 UT) (by rw[o];simp[oj,kn]) (fun Y a=>?_);have T:Dl Y g (aB.aP t).length ((aB.aP t).getD 0 YM) 1 0:=⟨by rw[o];decide +kernel,by rw[o];decide +kernel,.inl ⟨rfl,rfl⟩,by omega⟩;exact MH (p.later a) ⟨u.g0,u.g1⟩ (Dy u) ⟨u.n0,u.n1⟩ T UT (z 2) (z 3) (z 4) ⟨u1,u2⟩ ⟨H,G⟩ (at_ Y a 0 UT) (at_ Y a 1 UT) (at_ Y a 2 UT) (at_ Y a 3 UT) (at_ Y a 4 UT)
 |cancel =>
  have o:=A.head UX;simp only[V5,V9] at m;refine qv p (f:=175) UT (a0 UT) (by rw[o];simp[oj,kr]) (fun Y a=>?_);exact LP (p.later a) u.ids Vf (by rw[o];decide +kernel) (z 1) UT (at_ Y a 0 UT) (at_ Y a 1 UT)
 |list0 =>
  have o:=A.head UX;simp only[V5,V9] at m;refine qv p (f:=177) UT (a0 UT) (by rw[o];simp[oj,dY]) (fun Y a=>?_);exact Al (p.later a) u.ids (b:=Vf) (by rw[o];decide +kernel) UT (.inl ⟨by omega,rfl,rfl,rfl⟩) (at_ Y a 0 UT) (at_ Y a 1 UT)
 |list1 =>
  have o:=A.head UX;simp only[V5,V9] at m;refine qv p (f:=177) UT (a0 UT) (by rw[o];simp[oj,dY]) (fun Y a=>?_);exact Al (p.later a) u.ids (b:=Vf) (by rw[o];decide +kernel) UT (.inr ⟨by omega,_,_,z 2,z 3,at_ Y a 2 UT,at_ Y a 3 UT,rfl,rfl⟩) (at_ Y a 0 UT) (at_ Y a 1 UT)
 |cY =>
  have o:=A.head UX;simp only[V5,V9] at m;refine qv p (f:=177) UT (a0 UT) (by rw[o];simp[oj,km]) (fun Y a=>?_);exact Al (p.later a) u.ids (b:=Ve) (by rw[o];decide +kernel) UT (.inr ⟨by omega,_,_,z 2,z 3,at_ Y a 2 UT,at_ Y a 3 UT,rfl,rfl⟩) (at_ Y a 0 UT) (at_ Y a 1 UT)
 |find =>
  have o:=A.head UX;simp only[V5,V9] at m;obtain⟨u1,u2,V,N,M,J,H,G⟩:=C;refine qv p (f:=178) UT (a0 UT) (by rw[o];simp[oj,ki]) (fun Y a=>?_);exact MI (p.later a) UT (z 2) (z 3) (z 4) (z 5) ⟨by omega,u2⟩ ⟨by omega,N⟩ ⟨M,J⟩ (at_ Y a 1 UT) (at_ Y a 2 UT) (at_ Y a 3 UT) (at_ Y a 4 UT) (at_ Y a 5 UT)
 |clock =>
  have o:=A.head UX;simp only[V5,V9] at m;exact M8 p UT (by rw[a0 UT,o];rfl)
 |series hr hn =>
  have y:=A;simp only[mw,VM] at y;have o:=y.head UX;obtain⟨u1,u2,E⟩:=C;refine qv p (f:=174) UT (a0 UT) (by rw[o];simp[oj,ib]) (fun Y a=>?_);exact Ls (p.later a) ⟨u.g0,u.g1⟩ (Dy u) (ws:=fun j=>(aB.aP t).getD j YM) (fun j x=>at_ Y a j x) z hr UT ⟨u1,u2⟩ E
 |expand hr hn =>
  have y:=A;simp only[nB,VM,List.nil_append] at y;have o:=y.head UX;exact LY p (ws:=fun j=>(aB.aP t).getD j YM) (fun j x=>at_ X (zr _ _) j x) z hr UT o C
 |_=>cases U
theorem LG(h:DD w d s xs F)(E:Inv s){o:(U8 × U8) ⊕ aA.fI}(ht:Dj t o)(z:wv o):
  Vj prog 75 #[.pointer (Vd ⟨d,0,Vc⟩),.string t] w (oN w d F xs (kH s o)):=by
 cases o with
 |inl q =>
  obtain⟨M,at_⟩:=q;rcases ht with ⟨j,rfl,rfl⟩|⟨j,m,y,rfl,rfl⟩
  ·exact Ez h t UV (fun X=>(Ff t X j).mono (by rintro e w1 ⟨rfl,rfl⟩;exact⟨rfl,Below.refl _ _⟩))
  ·exact Ez h t UV (fun X=>(Au t X j).mono (by
    rintro e w1 ⟨C,H⟩;rcases C with ⟨p,a,b,c,d,g,h,f,_⟩|⟨J,f,rfl⟩
    ·rw[y] at f;cases f
    ·rw[y] at f;simp only[Prod.mk.injEq,true_and] at f;subst f
     exact⟨rfl,H⟩))
 |inr l =>
  obtain⟨j,q,x,A,I⟩:=ht;have u:0<(aB.aP t).length:=by rw[x.len];cases A <;> simp[mw,nB]
  exact MR h t j x.sc u (q:=aU s l) (KY s l) (by rw[aA.zZ s z];simp) (fun X g c k G=>Ln h E j x A I z X g c k G)
open aA (aL bO)
structure qg(w:Vg)(p:bO)(v1 v2 v3 v4:Vh):Prop where
 en:∃ l,EV w v1 l/\l.map (·.1)=p.entries
 da:NV w v2 p.days
 gr:NV w v3 p.granted
 ed:NV w v4 p.ended
theorem qg.later{p:bO}{v1 v2 a v4:Vh}(h:qg w p v1 v2 a v4)(k:Vi w.heap.size w w'):qg w' p v1 v2 a v4:=by
 obtain⟨l,f,b⟩:=h.en;exact⟨⟨l,f.later k,b⟩,h.da.later k,h.gr.later k,h.ed.later k⟩
structure wD(p:bO):Prop where
 en:p.entries.length<=1000
 sp:∀ e∈p.entries,e.aK.length<=1000
 da:p.days.length<=1000000
 gr:p.granted.length<=1000000
 ed:p.ended.length<=1000000
 er:p.err≠0->p.entries=[]/\p.days=[]/\p.granted=[]/\p.ended=[]
def s8(p:bO)(v1 v2 b a:Vh):Obj:=.cells #[.int .i64 p.err,.int .i64 p.at_,.int .i64 p.n,v1,v2,b,a] 40 (0,0)
theorem Nt(w:Vg)(p:bO)(o:wD p)(u1 u2 u3 u4 v1 v2 N M:Vh)(a:qg w p u1 u2 u3 u4)(f:qg w p v1 v2 N M):
  Vj prog 76 #[bC p.err p.at_ p.n u1 u2 u3 u4,bC p.err p.at_ p.n v1 v2 N M] w fun e w'=>e=.returned (.bool Vf)/\Vi w.heap.size w w':=by
 have I:=aC (((KP.nil w).alloc (s8 p u1 u2 u3 u4)).alloc (s8 p v1 v2 N M));obtain⟨l,V,H⟩:=a.en;obtain⟨m,U,P⟩:=f.en;obtain⟨a1,c1,e1⟩:=V.form;obtain⟨a2,c2,e2⟩:=a.da.form;obtain⟨a3,c3,e3⟩:=a.gr.form;obtain⟨a4,c4,e4⟩:=a.ed.form;obtain⟨b1,d1,f1⟩:=U.form;obtain⟨b2,d2,f2⟩:=f.da.form;obtain⟨b3,d3,f3⟩:=f.gr.form;obtain⟨b4,Y,f4⟩:=f.ed.form;subst e1 e2 e3 e4 f1 f2 f3 f4;have A:l.length=p.entries.length:=by rw[<- H,WK]
 have S:m.length=p.entries.length:=by rw[<- P,WK]
 have E1:=aC (fun W (k:Vi w.heap.size w W)=>Nw l m _ _ W (V.later k) (U.later k) (by rw[H,P]) (by have:=o.en;omega) (fun q hq=>o.sp q.1 (H ▸ Wk.2 ⟨q,hq,rfl⟩)));have E2:=aC (fun W (k:Vi w.heap.size w W)=>At p.days _ _ W (a.da.later k) (f.da.later k) o.da);have E3:=aC (fun W (k:Vi w.heap.size w W)=>At p.granted _ _ W (a.gr.later k) (f.gr.later k) o.gr);have E4:=aC (fun W (k:Vi w.heap.size w W)=>At p.ended _ _ W (a.ed.later k) (f.ed.later k) o.ed)
 have ER:Hid (p.err≠0->l.length=0/\p.days.length=0/\p.granted.length=0/\p.ended.length=0):=fun h=>by
  obtain⟨h1,h2,h3,h4⟩:=o.er h;rw[A,h1,h2,h3,h4];simp
 clear a f V U H P A S o;simp only[bC]
 go_in
 go_upto_region 1 with fail
 rw[World.size_alloc] at I;change Y9 _ _ _ _ ((w.alloc (s8 p (.slice a1 l.length c1) (.slice a2 p.days.length c2) (.slice a3 p.granted.length c3) (.slice a4 p.ended.length c4))).alloc (s8 p (.slice b1 m.length d1) (.slice b2 p.days.length d2) (.slice b3 p.granted.length d3) (.slice b4 p.ended.length Y)));generalize (w.alloc (s8 p (.slice a1 l.length c1) (.slice a2 p.days.length c2) (.slice a3 p.granted.length c3) (.slice a4 p.ended.length c4))).alloc (s8 p (.slice b1 m.length d1) (.slice b2 p.days.length d2) (.slice b3 p.granted.length d3) (.slice b4 p.ended.length Y))=X at *
 have z:Hid (∀ W,Vi X.heap.size X W->(W.cell? ⟨w.heap.size,3,Vc⟩=Vd (.slice a1 l.length c1)/\W.cell? ⟨w.heap.size,4,Vc⟩=Vd (.slice a2 p.days.length c2)/\W.cell? ⟨w.heap.size,5,Vc⟩=Vd (.slice a3 p.granted.length c3)/\W.cell? ⟨w.heap.size,6,Vc⟩=Vd (.slice a4 p.ended.length c4))/\(W.cell? ⟨w.heap.size+1,3,Vc⟩=Vd (.slice b1 m.length d1)/\W.cell? ⟨w.heap.size+1,4,Vc⟩=Vd (.slice b2 p.days.length d2)/\W.cell? ⟨w.heap.size+1,5,Vc⟩=Vd (.slice b3 p.granted.length d3)/\W.cell? ⟨w.heap.size+1,6,Vc⟩=Vd (.slice b4 p.ended.length Y))/\(W.cell? ⟨w.heap.size,0,Vc⟩=Vd (.int .i64 p.err)/\W.cell? ⟨w.heap.size,1,Vc⟩=Vd (.int .i64 p.at_)/\W.cell? ⟨w.heap.size,2,Vc⟩=Vd (.int .i64 p.n))/\W.cell? ⟨w.heap.size+1,0,Vc⟩=Vd (.int .i64 p.err)/\W.cell? ⟨w.heap.size+1,1,Vc⟩=Vd (.int .i64 p.at_)/\W.cell? ⟨w.heap.size+1,2,Vc⟩=Vd (.int .i64 p.n)):=fun W k=>by
  have j:=I.out.later k;have a:=(j.swap);exact⟨⟨a.hc 3 rfl,a.hc 4 rfl,a.hc 5 rfl,a.hc 6 rfl⟩,⟨j.hc 3 rfl,j.hc 4 rfl,j.hc 5 rfl,j.hc 6 rfl⟩,⟨a.hc 0 rfl,a.hc 1 rfl,a.hc 2 rfl⟩,j.hc 0 rfl,j.hc 1 rfl,j.hc 2 rfl⟩
 have BX:=aC I.out.bl;clear I;obtain⟨⟨x3,_,_,_⟩,⟨y3,_,_,_⟩,_⟩:=z.out X (zr _ _)
 go_wp2_with fail
 refine (E1.out _ BX.out).mono ?_;rintro e w1 ⟨rfl,b⟩;obtain⟨⟨_,x4,_,_⟩,⟨_,y4,_,_⟩,_⟩:=z.out w1 b;have J:=aC (zA (bA BX.out b (zq _)) b);clear b x3 y3
 go_wp2_with fail
 refine (E2.out _ J.out.1).mono ?_;rintro e w2 ⟨rfl,y⟩;have G:=aC (zA (bA J.out.1 y (zq _)) (bA J.out.2 y (zq _)));obtain⟨⟨_,_,x5,_⟩,⟨_,_,y5,_⟩,_⟩:=z.out w2 G.out.2;clear y x4 y4 J
 go_wp2_with fail
 refine (E3.out _ G.out.1).mono ?_;rintro e w3 ⟨rfl,x⟩;have E:=aC (zA (bA G.out.1 x (zq _)) (bA G.out.2 x (zq _)));obtain⟨⟨_,_,_,x6⟩,⟨_,_,_,y6⟩,_⟩:=z.out w3 E.out.2;clear x x5 y5 G
 go_wp2_with fail
 refine (E4.out _ E.out.1).mono ?_;rintro e w4 ⟨rfl,u⟩;have B4:=aC (bA E.out.1 u (zq _));clear x6 y6;obtain⟨⟨x3,x4,x5,x6⟩,_,⟨x0,x1,x2⟩,y0,y1,y2⟩:=z.out w4 (bA E.out.2 u (zq _));clear u E z E1 E2 E3 E4
 by_cases C:p.err=0
 ·have T:(p.err==0)=Vf:=by simp[C]
  clear C
  go_wp2_with fail
  all_goals
   go_ret;exact⟨by simp,B4.out⟩
 ·have T:(p.err==0)=Ve:=by simp[C]
  obtain⟨h1,h2,h3,h4⟩:=ER.out C;clear C
  go_wp2_with fail
  all_goals
   go_ret;exact⟨by simp,B4.out⟩
open aA (aL St bO Inv)
theorem Mj(c n:U8)(w:Vg)(q:-9223372036854775808<=c)(p:c<=9223372036854775807)(f:1<=n)(b:n<=1000000):
  Vj prog 74 #[.int .i64 c,.int .i64 n] w fun e w'=>e=.returned (.int .i64 (lC c n))/\w'=w:=by
 have m:(n==0)=Ve:=by simp;omega
 have o:=Jr (c:=c) f
 by_cases h:c<0
 ·have l:Vo.wrap (c+1)=c+1:=wk UT UT;have j:Vo.wrap (-(c+1))=-(c+1):=wk UT UT;have e:(-(c+1)).tmod n=lC c n:=by unfold lC;rw[Va h];exact Zh UT
  have a:Vo.wrap (lC c n)=lC c n:=cG UT UT;generalize lC c n=v at *
  go_in
  go_wp2
  go_ret
  simp_all
 ·have e:c.tmod n=lC c n:=by unfold lC;rw[U9 h];exact Zh UT
  have a:Vo.wrap (lC c n)=lC c n:=cG UT UT;generalize lC c n=v at *
  go_in
  go_wp2
  go_ret
  simp_all
theorem LQ(h:Inv s){o:(U8 × U8) ⊕ aA.fI}(ht:AH t o)(j:wv o):wD (kH s o).2/\(kH s o).2.entries.length<=60/\(kH s o).2.days.length<=900000/\(kH s o).2.granted.length<=900000/\(kH s o).2.ended.length<=900000:=by
 cases o with
 |inl q=>exact⟨⟨by simp[kH],by simp[kH],by simp[kH],by simp[kH],by simp[kH],fun _=>by simp[kH]⟩,by simp[kH]⟩
 |inr l =>
  obtain⟨b,_,_,f⟩:=ht;have k:=aA.K9 h f j;have:=k.en;have:=k.gr;have:=k.da;have m:(aA.ie s l).2.ended.length=0:=by rw[k.ed];rfl
  show wD (aA.ie s l).2/\(aA.ie s l).2.entries.length<=60/\(aA.ie s l).2.days.length<=900000/\(aA.ie s l).2.granted.length<=900000/\(aA.ie s l).2.ended.length<=900000;refine⟨⟨by omega,fun e a=>?_,by omega,by omega,by omega,fun a=>⟨(k.er a).1.1,(k.er a).1.2,(k.er a).2,k.ed⟩⟩,by omega,by omega,by omega,by omega⟩;have:=(h.en e (k.es e a)).sl;omega
theorem BD.more{p:U7}(h:BD w p d s r aM)(k:Vi w.heap.size w w'):BD w' p d s r aM :=
 h.off (G:=[]) (aF.aD k) UU (h.env.later k)
theorem lS.later{p:U7}{q:St × bO}(h:lS w p d aM q v w1)(k:Vi w1.heap.size w1 w'):lS w p d aM q v w':=by
 obtain⟨b,a,f,st,rp⟩:=h;exact⟨b,a,f.more k,st.trans (Step.below k),rp.later k⟩
theorem hI.bC{K N:U4 U7}{l:U4 (aL × Vh)}{p:bO}(h:hI w K N u1 u2 u3 u4 l p.days p.granted p.ended)(b:l.map (·.1)=p.entries):qg w p u1 u2 u3 u4 :=
 ⟨⟨l,EV.own h.en (fun p a=>SV.own (h.sp p a)),b⟩,NV.own h.da,NV.own h.gr,NV.own h.ed⟩
theorem K0(a:Array Vh)(w:Vg):(callFunc 77 a).run prog w=.ok (.enter 77 a) w:=UY
section
variable {w0 w w1 w':Vg}{B n:U7}{tg:U7->Tg}{i:U7}{k:Dk}{D:U4 Dk}{K:U4 U7}{v0 v1 r1 r2 r3:Vh}{X1 X2 X3:U4 KL}
theorem LX.still(h:LX w0 w B n tg D K v0 v1 r1 r2 r3 X1 X2 X3)(l:D[i]?=Vd k){q:St × bO}(P:lS w k.p k.d k.aM q v w1){b:U7}(o:tg b≠.no)(j:tg b≠.pr i):w1.heap[b]?=w.heap[b]?:=by
 obtain⟨u,f,_,st,_⟩:=P;have a:=h.ds.lt b o;refine st.bV a ?_ a
 cases m:k.aM b with
 |none=>rfl
 |some c=>exact (j ((h.ds.at_ i k l).pc b c m)).elim
theorem LX.more{m:U7}(h:LX w0 w B n tg D K v0 v1 r1 r2 r3 X1 X2 X3)(k:n<=m):LX w0 w B m tg D K v0 v1 r1 r2 r3 X1 X2 X3 :=
 ⟨h.ds,h.bk,Vp h.len k,h.xo,h.yo,h.tb,h.tk,h.tx,h.ty,h.d3,h.bl,h.lo,h.oP⟩
theorem r7{a at_ n:U8}(h:w.heap[Q]?=Vd (iq a at_ n u1 u2 u3 u4)):w.cell? ⟨Q,0,Vc⟩=Vd (.int .i64 a)/\w.cell? ⟨Q,1,Vc⟩=Vd (.int .i64 at_)/\w.cell? ⟨Q,2,Vc⟩=Vd (.int .i64 n)/\w.cell? ⟨Q,3,Vc⟩=Vd u1/\w.cell? ⟨Q,4,Vc⟩=Vd u2/\w.cell? ⟨Q,5,Vc⟩=Vd u3/\w.cell? ⟨Q,6,Vc⟩=Vd u4 :=
 ⟨aZ h 0 rfl,aZ h 1 rfl,aZ h 2 rfl,aZ h 3 rfl,aZ h 4 rfl,aZ h 5 rfl,aZ h 6 rfl⟩
structure zi(w0 w:Vg)(B n:U7)(tg:U7->Tg)(D:U4 Dk)(K:U4 U7)(v0 v1 r1 r2 r3:Vh)(X1 X2 X3:U4 KL)(i:U7)(k:Dk)(q:St × bO)(Q:U7)(u1 u2 u3 u4:Vh)(W:Vg):Prop where
 lx:LX w0 w B n tg D K v0 v1 r1 r2 r3 X1 X2 X3
 hi:D[i]?=Vd k
 bp:lS w k.p k.d k.aM q (bC q.2.err q.2.at_ q.2.n u1 u2 u3 u4) W
 hQ:W.heap[Q]?=Vd (iq q.2.err q.2.at_ q.2.n u1 u2 u3 u4)
 lo:w.heap.size<=Q
theorem LX.ze(h:LX w0 w B n tg D K v0 v1 r1 r2 r3 X1 X2 X3)(a:D[i]?=Vd k){q:St × bO}(P:lS w k.p k.d k.aM q (bC q.2.err q.2.at_ q.2.n u1 u2 u3 u4) w1):zi w0 w B n tg D K v0 v1 r1 r2 r3 X1 X2 X3 i k q w1.heap.size u1 u2 u3 u4 (w1.alloc (iq q.2.err q.2.at_ q.2.n u1 u2 u3 u4)) :=
 ⟨h,a,P.later ((zr _ _).alloc (zq _) _),cC _ _,by obtain⟨_,_,_,st,_⟩:=P;exact st.size⟩
structure s7(w0:Vg)(B n:U7)(tg:U7->Tg)(D:U4 Dk)(K:U4 U7)(v0 v1 r1 r2 r3:Vh)(X1 X2 X3:U4 KL)(p:bO)(Q R:U7)(u1 u2 u3 u4 z1 z2 z3 z4:Vh)(l:U4 (aL × Vh))(W:Vg):Prop where
 lx:LX w0 W B n tg D K v0 v1 r1 r2 r3 X1 X2 X3
 rl:hI W K (bM B r1 r2 r3) u1 u2 u3 u4 l p.days p.granted p.ended
 hl:l.map (·.1)=p.entries
 no:∀ b∈jA u1 u2 u3 u4 l,tg b=.no/\w0.heap.size<=b
 rv:qg W p z1 z2 z3 z4
 hQ:W.heap[Q]?=Vd (iq p.err p.at_ p.n u1 u2 u3 u4)
 hR:W.heap[R]?=Vd (iq p.err p.at_ p.n z1 z2 z3 z4)
theorem s7.later{p:bO}{l:U4 (aL × Vh)}(h:s7 w0 B n tg D K v0 v1 r1 r2 r3 X1 X2 X3 p Q R u1 u2 u3 u4 z1 z2 z3 z4 l w)(k:Vi w.heap.size w w'):s7 w0 B n tg D K v0 v1 r1 r2 r3 X1 X2 X3 p Q R u1 u2 u3 u4 z1 z2 z3 z4 l w' :=
 ⟨h.lx.later k,h.rl.later k,h.hl,h.no,h.rv.later k,(k.block _ (Y8.1 h.hQ).1).trans h.hQ,(k.block _ (Y8.1 h.hR).1).trans h.hR⟩
theorem zi.za{q:St × bO}(h:zi w0 w B n tg D K v0 v1 r1 r2 r3 X1 X2 X3 i k q Q u1 u2 u3 u4 W)(P:oN W k.dd k.F k.xs q (.returned (bC q.2.err q.2.at_ q.2.n z1 z2 z3 z4)) w2):
  ∃ a H l,s7 w0 B n a H K v0 v1 r1 r2 r3 X1 X2 X3 q.2 Q w2.heap.size u1 u2 u3 u4 z1 z2 z3 z4 l (w2.alloc (iq q.2.err q.2.at_ q.2.n z1 z2 z3 z4)):=by
 obtain⟨S,a,z,Y,V,U,T,l,p,G,C,E⟩:=h.lx.both h.hi h.bp P;simp only[bC,Value.agg.injEq,Array.mk.injEq,Xv,true_and,and_true] at p;obtain⟨rfl,rfl,rfl,rfl⟩:=p;have b:Vi w2.heap.size w2 (w2.alloc (iq q.2.err q.2.at_ q.2.n z1 z2 z3 z4)):=(zr _ _).alloc (zq _) _;obtain⟨N,M,J,I,x,F',u,f,y,_,_,o,_⟩:=P;simp only[Ending.returned.injEq,bC,Value.agg.injEq,Array.mk.injEq,Xv,true_and,and_true] at u;obtain⟨rfl,rfl,rfl,rfl⟩:=u;have j:=(Y8.1 h.hQ).1
 have m:w2.heap[Q]?=Vd (iq q.2.err q.2.at_ q.2.n u1 u2 u3 u4):=(o.block Q j (fun A=>by
  have:=h.lx.ds.lt Q (by rw[(h.lx.ds.at_ i k h.hi).df Q A];simp);have:=h.lo
  omega)).trans h.hQ
 exact⟨a,_,l,z.later b,C.later b,G,E,(qg.mk f.en f.da y f.ed).later b,(b.block _ (by have:=o.size;omega)).trans m,cC _ _⟩
theorem s7.gj{p:bO}{l:U4 (aL × Vh)}(h:s7 w0 B n tg D K v0 v1 r1 r2 r3 X1 X2 X3 p Q R u1 u2 u3 u4 z1 z2 z3 z4 l w)(o:n+64<=900000000)(ok:wD p)(a:p.entries.length<=60/\p.days.length<=900000/\p.granted.length<=900000/\p.ended.length<=900000):
  Vj prog 77 #[.pointer (Vd ⟨B,2,Vc⟩),.agg #[.int .i64 p.err,.int .i64 p.at_,.int .i64 p.n,u1,u2,u3,u4]] w fun x w'=>x=.returned (.tuple #[])/\LW w0 w' B (n+64):=by
 have j:l.length=p.entries.length:=by rw[<- h.hl,WK]
 have b:=h.lx.len;refine (LM h.lx.bk UT h.rl UT (fun x f=>?_) a.2.1 a.2.2.1 a.2.2.2 p.err p.at_ p.n).mono ?_
 ·have:x.1∈p.entries:=by rw[<- h.hl];exact Wk.2 ⟨x,f,rfl⟩
  have:=ok.sp x.1 this;omega
 ·rintro e w4 ⟨rfl,m⟩;exact⟨rfl,(h.lx.more (Nat.le_add_right n 64)).kept UT h.no m⟩
theorem Ab(h:LW w0 w B n){a:U8}(h1:-9223372036854775808<=a)(h2:a<=9223372036854775807)(ht:qh t)(hn:n+64<=900000000):
  Vj prog 54 #[.pointer (Vd ⟨B,0,Vc⟩),.int .i64 a,.string t] w fun e w'=>e=.returned (.bool Vf)/\LW w0 w' B (n+64):=by
 obtain⟨tg,D,K,v0,v1,r1,r2,r3,X1,X2,X3,f⟩:=h;obtain⟨a0,c0,rfl⟩:=gB f.xo;obtain⟨a1,c1,rfl⟩:=gB f.yo;obtain⟨x0,x1,_,_,_,_⟩:=f.bk.cells;have y:=aC f
 by_cases hD:D.length=0
 ·have ac:((D.length:U8)==0)=Vf:=by simp[hD]
  clear f ht hD
  go_in
  go_wp2
  go_ret;exact⟨rfl,_,_,_,_,_,_,_,_,_,_,_,y.out.more (Nat.le_add_right n 64)⟩
 ·have ac:((D.length:U8)==0)=Ve:=by rw[beq_eq_false_iff_ne];omega
  have ai:=f.d3;have hb:=Jr (c:=a) (n:=D.length) UT;obtain⟨j,hj⟩:∃ j:U7,lC a D.length=j:=⟨(lC a D.length).toNat,by omega⟩;have ab:j<D.length:=UT
  have PK:=aC (Mj a D.length w h1 h2 UT UT);rw[hj] at PK;clear hb hj hD h1 h2;have m:D[j]?=Vd D[j]:=Xa ab;generalize D[j]=k at m;obtain⟨g0,q0,e0,y0⟩:=rN f.xo (k:=j) (u:=.pointer (Vd ⟨k.p,0,Vc⟩)) (by rw[Yr,m];rfl);obtain⟨g1,q1,C,y1⟩:=rN f.yo (k:=j) (u:=.pointer (Vd ⟨k.dd,0,Vc⟩)) (by rw[Yr,m];rfl);simp only[Yq,true_and] at e0 C;obtain⟨rfl,rfl⟩:=e0;obtain⟨rfl,rfl⟩:=C;obtain⟨o,hT,A,N⟩:=LU ht;have DO:=aC (KW (f.ds.at_ j k m).bd (Lo _) hT N);have OK:=aC (LQ (f.ds.at_ j k m).bd.ds.inv hT N);have RD:Hid (∀ W,DD W k.dd k.s k.xs k.F->Vj prog 75 #[.pointer (Vd ⟨k.dd,0,Vc⟩),.string t] W (oN W k.dd k.F k.xs (kH k.s o))):=fun W hW=>LG hW (f.ds.at_ j k m).bd.ds.inv A N
  have I:=aC (zA (y.out.tb B (by simp[bM])) (y.out.ty g1 rfl));have HK:=aC m;generalize kH k.s o=q at *;clear f ht hT A N m;have ad:(j:U8)<(D.length:U8):=UT
  go_in
  go_upto_region 4 with (first|(go_at_call 74;refine PK.out.mono ?_;rintro e w1 ⟨rfl,hw⟩;rw[hw];clear hw w1))
  go_upto_region 5 with (first|(go_at_call 21;refine DO.out.mono ?_;rintro e w1 ⟨v,rfl,bp⟩;have BP:=aC bp;obtain⟨r',ae,_,_,u1,u2,u3,u4,M,rfl,aa,C,e2,e3,e4,_,_⟩:=bp;obtain⟨b1,U,rfl⟩:=ix C.own;obtain⟨b2,T,rfl⟩:=e2.slice;obtain⟨Y,S,rfl⟩:=e3.slice;obtain⟨V,P,rfl⟩:=e4.slice;have z1:=(zo (y.out.still HK.out BP.out (b:=B) (by rw[I.out.1];simp) (by rw[I.out.1];simp))).trans x1;have z2:=(zo (y.out.still HK.out BP.out (b:=g1) (by rw[I.out.2];simp) (by rw[I.out.2];simp))).trans y1;clear aa C e2 e3 e4 x0 x1 y0 y1 DO PK;simp only[bC]))
  have G:=aC (y.out.ze HK.out BP.out);change Y9 _ _ _ _ (w1.alloc (iq q.2.err q.2.at_ q.2.n (.slice b1 M.length U) (.slice b2 q.2.days.length T) (.slice Y q.2.granted.length S) (.slice V q.2.ended.length P)));have E:=aC (RD.out _ (G.out.lx.ds.doc G.out.hi G.out.bp));have z3:=aN ((zr _ w1).alloc (zq _) (iq q.2.err q.2.at_ q.2.n (.slice b1 M.length U) (.slice b2 q.2.days.length T) (.slice Y q.2.granted.length S) (.slice V q.2.ended.length P))) z1;have z4:=aN ((zr _ w1).alloc (zq _) (iq q.2.err q.2.at_ q.2.n (.slice b1 M.length U) (.slice b2 q.2.days.length T) (.slice Y q.2.granted.length S) (.slice V q.2.ended.length P))) z2;clear z1 z2 RD BP I y HK;generalize w1.alloc (iq q.2.err q.2.at_ q.2.n (.slice b1 M.length U) (.slice b2 q.2.days.length T) (.slice Y q.2.granted.length S) (.slice V q.2.ended.length P))=W1 at *;generalize w1.heap.size=Q at *
  go_upto_region 6 with (first|(go_at_call 75;refine E.out.mono ?_;rintro e w2 dd;have H:=aC dd;obtain⟨y1,y2,y3,y4,af,F',rfl,J,nv,_⟩:=dd;obtain⟨le,ev,_⟩:=J.en;obtain⟨f1,g2,rfl⟩:=ev.form;obtain⟨f2,g3,rfl⟩:=J.da.form;obtain⟨f3,g4,rfl⟩:=nv.form;obtain⟨f4,g5,rfl⟩:=J.ed.form;clear J nv ev z3 z4 E;simp only[bC]))
  change Y9 _ _ _ _ (w2.alloc (iq q.2.err q.2.at_ q.2.n (.slice f1 le.length g2) (.slice f2 q.2.days.length g3) (.slice f3 q.2.granted.length g4) (.slice f4 q.2.ended.length g5)));obtain⟨ag,D',l,x⟩:=G.out.za H.out;have M2:=aC x;obtain⟨a0,a1,a2,a3,a4,a5,a6⟩:=r7 x.hQ;obtain⟨s0,s1,s2,s3,s4,s5,s6⟩:=r7 x.hR;have SR:=aC (Nt _ q.2 OK.out.1 _ _ _ _ _ _ _ _ (x.rl.bC x.hl) x.rv);simp only[bC] at SR;clear x G H;generalize w2.alloc (iq q.2.err q.2.at_ q.2.n (.slice f1 le.length g2) (.slice f2 q.2.days.length g3) (.slice f3 q.2.granted.length g4) (.slice f4 q.2.ended.length g5))=W2 at *;generalize w2.heap.size=R at *
  go_upto_region 7 with (first|(go_at_call 76;refine SR.out.mono ?_;rintro e w3 ⟨rfl,z⟩;have M3:=aC (M2.out.later z);clear z a0 a1 a2 a3 a4 a5 a6 s0 s1 s2 s3 s4 s5 s6 SR))
  obtain⟨a0,a1,a2,a3,a4,a5,a6⟩:=r7 M3.out.hQ;have KP:=aC ((M3.out.later (dM w3)).gj hn OK.out.1 OK.out.2);clear M2 M3 OK
  go_region_law (first
   |(refine qY (by rfl) 77 _ _ (by rfl) _ (by simp[Act.eval]) (K0 _ _) KP.out ?_;rintro e w4 ⟨rfl,h4⟩;refine⟨_,rfl,?_⟩;have H4:=aC h4;clear h4))
  all_goals
   go_wp2
   go_ret;exact⟨rfl,H4.out⟩
end
namespace aB
theorem Ed:∀ (l:U4 a)(x:U4 (U4 a) × U4 a),∃ t,pA (l.foldl nU x)=x.1++t
 |[],x=>by
  unfold pA
  by_cases h:x.2=[]
  ·exact⟨[],by simp[h]⟩
  ·exact⟨[x.2],by simp[h]⟩
 |c :: l,x=>by
  obtain⟨t,ht⟩:=Ed l (nU x c);rw[W8,ht];unfold nU
  by_cases h:c=32
  ·rw[Va h]
   by_cases b:x.2=[]
   ·exact⟨t,by simp[b]⟩
   ·exact⟨[x.2]++t,by simp[b]⟩
  ·exact⟨t,by rw[U9 h]⟩
theorem Me{s k:U3}(m:yD k.data.toList=Vf)(h:s.data.toList=k.data.toList\/∃ r,s.data.toList=k.data.toList++32 :: r):∃ R,aP s=k :: R:=by
 obtain⟨l,j⟩:=UD.1 m
 have b:∃ t,xK s.data.toList=k.data.toList :: t:=by
  unfold xK AE;rcases h with e|⟨r,e⟩
  ·rw[e,H8 j];exact⟨[],by simp[pA,l]⟩
  ·rw[e,List.foldl_append,H8 j,W8,Sw];obtain⟨t,ht⟩:=Ed r (pA ([],[]++k.data.toList),[]);rw[ht];exact⟨t,by simp[pA,l]⟩
 obtain⟨t,ht⟩:=b;rw[<- SJ] at ht
 cases f:aP s with
 |nil=>rw[f] at ht;simp at ht
 |cons a R =>
  rw[f] at ht;simp only[XR,Xv] at ht;exact⟨R,by rw[Qw ht.1]⟩
end aB
theorem D7(p ws:U4 U3):∀ n:U7,(iN p ws (n+1)).data.toList=(gD (p.getD 0 ⟨#[]⟩) (ws.getD 0 ⟨#[]⟩)).data.toList\/∃ r,(iN p ws (n+1)).data.toList=(gD (p.getD 0 ⟨#[]⟩) (ws.getD 0 ⟨#[]⟩)).data.toList++32 :: r
 |0=>by
  left;simp[iN]
 |n+1=>by
  right;rw[iN,Va UT,aB.rh,aB.rh];rcases D7 p ws n with e|⟨r,e⟩
  ·rw[e];exact⟨_,by rw[List.append_assoc];rfl⟩
  ·rw[e];exact⟨r++(32 :: (gD (p.getD (n+1) ⟨#[]⟩) (ws.getD (n+1) ⟨#[]⟩)).data.toList),by simp⟩
theorem Lp{k:U3}(a:k∈kC):aB.yD k.data.toList=Vf/\gD k k=k:=by
 simp only[kC,Vz,ZZ,or_false] at a;rcases a with rfl|rfl|rfl|rfl|rfl|rfl|rfl|rfl|rfl <;> exact⟨by decide +kernel,by decide +kernel⟩
theorem Lm{q:U4 U3}{l:aA.fI}(a:Full t q)(b:iC (aB.aP t) q l)(f:lL l=Vf):∃ k∈kC,(aB.aP t).getD 0 YM=k/\∃ R,q=k :: R:=by
 cases b with
 |aT=>exact⟨kv,by simp[kC],a.head UX,_,rfl⟩
 |book=>exact⟨kn,by simp[kC],a.head UX,_,rfl⟩
 |cancel=>exact⟨kr,by simp[kC],a.head UX,_,rfl⟩
 |list0=>exact⟨dY,by simp[kC],a.head UX,_,rfl⟩
 |list1=>exact⟨dY,by simp[kC],a.head UX,_,rfl⟩
 |cY=>exact⟨km,by simp[kC],a.head UX,_,rfl⟩
 |find=>exact⟨ki,by simp[kC],a.head UX,_,rfl⟩
 |clock=>exact⟨kL,by simp[kC],a.head UX,_,rfl⟩
 |series hr hn=>exact⟨ib,by simp[kC],Full.head (R:=cD :: eN :: _) a UX,_,rfl⟩
 |expand hr hn=>exact⟨iY,by simp[kC],Full.head (R:=_) a UX,_,rfl⟩
 |_=>cases f
theorem Mb(h:qh t){p:U4 U3}(b:jj t=(Vd p,0)):qh (iN p (aB.aP t) (aB.aP t).length):=by
 obtain⟨v,st,_,y,z⟩:=D9 h
 by_cases A:st.2=Vf\/cB (aB.aP t).length st.1 st.2=Vf
 ·have:=y A;rw[b] at this
  cases this
 ·have G:st.2=Ve:=by cases e:st.2 <;> simp_all
  have E:cB (aB.aP t).length st.1 st.2=Ve:=by cases e:cB (aB.aP t).length st.1 st.2 <;> simp_all
  obtain⟨q,l,a,u,_,_,o⟩:=z G E;have e:=a.sc;rw[b] at e;simp only[Prod.mk.injEq,Z5,and_true] at e;subst e;obtain⟨k,m,x,R,rfl⟩:=Lm a u o;obtain⟨w1,w2⟩:=Lp m;have j:=a.len;simp only[V5] at j;rw[j];have f:=D7 (k :: R) (aB.aP t) R.length
  have H:gD ((k :: R).getD 0 ⟨#[]⟩) ((aB.aP t).getD 0 ⟨#[]⟩)=k:=by
   have:(aB.aP t).getD 0 ⟨#[]⟩=k:=x;rw[this];exact w2
  rw[H] at f;obtain⟨T,C⟩:=aB.Me w1 f;exact⟨k,m,by rw[C];simp[bD,cB]⟩
def pf(x:mg):Prop:=Dg x/\(x.k=4\/(5<=x.k/\qh x.s))
section
variable {w0 w w':Vg}{B n:U7}
theorem LR(h:LW w0 w B n)(x:mg)(o:pf x)(hk:x.k<=6)(I:n+64<=900000000):
  Vj prog 41 #[.pointer (Vd ⟨B,0,Vc⟩),.agg #[.int .i64 x.k,.int .i64 x.a,.int .i64 x.y,.int .i64 x.m,.int .i64 x.d,.string x.s]] w fun e w'=>e=.returned (.bool Vf)/\LW w0 w' B (n+64):=by
 obtain⟨H,o⟩:=o;have T:Vi w.heap.size w (w.alloc (og x)):=(zr _ _).alloc (zq _) _;have C:=aC (h.later T);have G:=cC w (og x)
 have CL:Hid (∀ W,Vi (w.alloc (og x)).heap.size (w.alloc (og x)) W->W.cell? ⟨w.heap.size,0,Vc⟩=Vd (.int .i64 x.k)/\W.cell? ⟨w.heap.size,1,Vc⟩=Vd (.int .i64 x.a)/\W.cell? ⟨w.heap.size,5,Vc⟩=Vd (.string x.s)):=fun W k=>by
  have b:=(k.block _ (Y8.1 G).1).trans G;exact⟨aZ b 0 rfl,aZ b 1 rfl,aZ b 5 rfl⟩
 obtain⟨c0,c1,Y⟩:=CL.out _ (zr _ _)
 have J:x.k=4\/x.k=5\/x.k=6:=by
  rcases o with e|⟨e,_⟩
  ·exact .inl e
  ·omega
 have N:x.k≠4->qh x.s:=fun e=>by
  rcases o with P|⟨_,P⟩
  ·exact (e P).elim
  ·exact P
 clear T G o h hk;obtain⟨k,a,y,m,d,s⟩:=x;obtain⟨j,f,aa⟩:=H;dsimp only at *;rcases J with rfl|rfl|rfl
 ·go_in
  go_upto_region 1 with fail
  change Y9 _ _ _ _ (w.alloc (og ⟨4,a,y,m,d,s⟩));generalize w.alloc (og ⟨4,a,y,m,d,s⟩)=W at *
  go_wp2_with (first|(go_at_call 40;refine (ET C.out).mono ?_;rintro e w1 ⟨rfl,u⟩;have l:=aC u;clear u))
  go_ret;exact⟨rfl,l.out.more (Nat.le_add_right n 64)⟩
 ·go_in
  go_upto_region 1 with fail
  change Y9 _ _ _ _ (w.alloc (og ⟨5,a,y,m,d,s⟩));generalize w.alloc (og ⟨5,a,y,m,d,s⟩)=W at *
  go_wp2_with (first|(go_at_call 54;refine (Ab C.out j f (N UV) I).mono ?_;rintro e w1 ⟨rfl,u⟩;have l:=aC u;clear u))
  go_ret;exact⟨rfl,l.out⟩
 ·have M:=N UV;have PL:=aC (Np s _ C.out.env)
  have E:Hid (∀ e,PR s e->∃ t A at_,e=.returned (.tuple #[.string t,.int .i64 A,.int .i64 at_])/\((A=0/\qh t)\/(A != 0)=Vf)):=fun e U=>by
   rcases U with ⟨_,rfl⟩|⟨_,⟨p,z,rfl⟩|⟨m,_,rfl⟩⟩
   ·exact⟨_,_,_,rfl,.inr rfl⟩
   ·exact⟨_,_,_,rfl,.inl ⟨rfl,Mb M z⟩⟩
   ·exact⟨_,_,_,rfl,.inr rfl⟩
  have HF:=aC M;clear N M
  go_in
  go_upto_region 1 with fail
  change Y9 _ _ _ _ (w.alloc (og ⟨6,a,y,m,d,s⟩));generalize w.alloc (og ⟨6,a,y,m,d,s⟩)=W at *
  go_upto_region 14 with (first|(go_at_call 55;refine PL.out.mono ?_;rintro e w1 ⟨z,b⟩;obtain⟨t,A,at_,rfl,V⟩:=E.out e z;have l:=aC (C.out.later b);have C1:=aC (CL.out _ b);have HC:=aC V;clear z b V c0 c1 Y))
  obtain⟨c0,c1,Y⟩:=C1.out;rcases HC.out with ⟨rfl,ht⟩|U
  ·have HT:=aC ht;clear ht
   go_wp2_with (first|(go_at_call 54;refine (Ab l.out j f HT.out I).mono ?_;rintro e w2 ⟨rfl,q⟩;have S:=aC q;clear q))
   go_ret;exact⟨rfl,S.out⟩
  ·go_wp2_with (first|(go_at_call 54;refine (Ab l.out j f HF.out I).mono ?_;rintro e w2 ⟨rfl,q⟩;have S:=aC q;clear q))
   go_ret;exact⟨rfl,S.out⟩
theorem Mm(G:Env w){V:U7}{a:U4 mg}(q:w.ownsRow V 89 6 v a.length (a.flatMap lh))(E:∀ x∈a,pf x)(hl:a.length<=2000000):
  Vj prog 15 #[v,.int .i64 4,.int .i64 6] w fun e w'=>e=.returned (.bool Vf)/\Vi w.heap.size w w':=by
 have HS:=aC (LW.start G);obtain⟨C,N,rfl⟩:=gB q
 have HO:Hid (∀ W m k (y:k<a.length),LW w W w.heap.size m->∃ b,C=Vd ⟨b,0,Vc⟩/\rH W b (k*6) a[k]):=fun W m k y S=>by
  have P:=S.bl;have at_:∀ o u,(lh a[k])[o]?=Vd u->∃ g cap,Zd C a.length N=.slice (Vd ⟨g,0,Vc⟩) a.length cap/\w.cell? ⟨g,k*6+o,Vc⟩=Vd u:=fun o u l=>rN q ((KH y o (by have:=(List.getElem?_eq_some_iff.1 l).1;simpa[lh] using this)).trans l)
  obtain⟨g,cap,e,U⟩:=at_ 0 _ rfl;simp only[Yq,true_and] at e;obtain⟨rfl,rfl⟩:=e
  have at':∀ o u,(lh a[k])[o]?=Vd u->w.cell? ⟨g,k*6+o,Vc⟩=Vd u:=fun o u l=>by
   obtain⟨g',M,e,c⟩:=at_ o u l;simp only[Yq,Z5,Z6,and_true,true_and] at e;obtain⟨rfl,rfl⟩:=e;exact c
  exact⟨g,rfl,rH.later ⟨U,at' 1 _ rfl,at' 2 _ rfl,at' 3 _ rfl,at' 4 _ rfl,at' 5 _ rfl⟩ P⟩
 have HF:=aC E;clear q E G
 go_in
 go_upto_region 2 with fail
 change Y9 _ _ _ _ (w.alloc zW);generalize w.alloc zW=W at *
 go_wp2_with (first|(go_at_call 40;refine (ET HS.out).mono ?_;rintro e w1 ⟨rfl,J⟩;have H1:=aC J;clear J))
 generalize w.heap.size=B at *
 go_loopw [9,10,11] (fun v _ _ wr=>∃ k:U7,k<=a.length/\v=.int .i64 k/\LW w wr B (k*64)) (fun v _ _ _=>a.length-(intOf v).toNat)
 case atStart=>exact⟨0,Wg _,rfl,by simpa using H1.out⟩
 case round =>
  obtain⟨k,y,rfl,f⟩:=hrel;have A:=aC f
  by_cases j:k<a.length
  ·have h:(k:U8)<(a.length:U8):=UT
   obtain⟨b,rfl,o0,o1,o2,o3,o4,o5⟩:=HO.out wr _ k j f;have p:=HF.out a[k] (zg j);generalize a[k]=x at *;have Y:=aC p
   have h4:¬ x.k<4:=by
    rcases p.2 with e|e
    ·omega
    ·have:=e.1;omega
   clear p f
   by_cases T:x.k<=6
   ·have z:¬ 6<x.k:=UT
    go_wp2_with (first
     |(go_at_call 41;refine (LR A.out x Y.out T UT).mono ?_;rintro e w2 ⟨rfl,I⟩;have H2:=aC I;clear I)
     |(go_at_call 42;refine (H2.out.looks UT).mono ?_;rintro e w3 ⟨rfl,H⟩;have H3:=aC H;clear H))
    exact⟨⟨k+1,by omega,by go_num,by rw[Nat.add_mul,Nat.one_mul];exact H3.out⟩,by simp[intOf];omega⟩
   ·have z:6<x.k:=UT
    go_wp2_with fail
    exact⟨⟨k+1,by omega,by go_num,A.out.more UT⟩,by simp[intOf];omega⟩
  ·have h:¬ (k:U8)<(a.length:U8):=UT
   clear f
   go_wp2
   go_ret;exact⟨rfl,A.out.bl⟩
def Dn(w:Vg)(b:U7)(e:Ending)(w':Vg):Prop:=∃ (v:Vh)(a:U4 mg),e=.returned v/\w'.ownsRow w.heap.size 89 6 v a.length (a.flatMap lh)/\a.length<=b/\(∀ x∈a,pf x)/\Vi w.heap.size w w'
theorem EK{v':Vh}{a:U4 mg}{x:mg}(p:w1.ownsRow w.heap.size 89 6 v a.length (a.flatMap lh))(m:Vi w.heap.size w w1)(k:aF v.ownBlock.toList w1 w2)(j:w2.ownsRow w.heap.size 89 6 v' (a.length+1) (a.flatMap lh++lh x))(h:∀ y∈a,pf y)(o:pf x):
  w2.ownsRow w.heap.size 89 6 v' (a++[x]).length ((a++[x]).flatMap lh)/\(∀ y∈a++[x],pf y)/\Vi w.heap.size w w2:=by
 refine⟨by simpa using j,fun y f=>?_,m.trans (Below.jh k m.size fun b l=>(p.lt b (WV.1 l)).1)⟩;rcases VA.1 f with f|f
 ·exact h y f
 ·rw[YC.1 f];exact o
theorem LJ{f:U7}(hs:Ae w a0 f)(hl:f<=1900000)(hw:uR w g kC):
  Vj prog 16 #[.slice a0 f cap,.slice (Vd ⟨g,0,Vc⟩) 9 c] w (Dn w f):=by
 obtain⟨i0,H,C,A,z⟩:=info_parts KN;have HS:=aC hs;have HW:=aC hw;clear hs hw
 go_in
 go_wp2_with fail
 go_loopw [5,6,7] (fun v i _ wr=>∃ (k:U7) (j:U4 mg),k<=f/\i=.int .i64 k/\wr.ownsRow w.heap.size 89 6 v j.length (j.flatMap lh)/\j.length<=k/\(∀ x∈j,pf x)/\Vi w.heap.size w wr) (fun _ i _ _=>f-(intOf i).toNat)
 case atStart=>exact⟨0,[],Wg _,rfl,WJ _ _ _ _,by simp,by simp,Below.refl _ _⟩
 case round =>
  obtain⟨k,j,hk,rfl,V,ac,E,I⟩:=hrel;obtain⟨va,vc,rfl⟩:=gB V;have h:=aC (zA V (zA E I));clear V E I
  by_cases Y:k<f
  ·have G:(k:U8)<(f:U8):=UT
   obtain⟨b,ab,x,rfl,l,o⟩:=HS.out k Y;have HP:=aC (zA l o);have WA:=aC (fun W (kW:Vi w.heap.size w W)=>Ni x.s W o.sz (c:=c) (HW.out.later kW) UV);obtain⟨o0,o1,q,o3,o4,o5⟩:=l.later h.out.2.2;clear l o
   go_upto_region 6 with (first|(go_at_call 43;refine (WA.out _ h.out.2.2).mono ?_;rintro e w1 ⟨bb,rfl,J,M⟩;have H1:=aC (zA J M);clear J M o0 o1 q o3 o4 o5))
   have p:=aC (bA h.out.2.2 H1.out.2 (zq _));obtain⟨o0,o1,q,o3,o4,o5⟩:=HP.out.1.later p.out;have u:=aC (eu h.out.1 H1.out.2)
   by_cases N:x.k=4
   ·have aa:(x.k==4)=Vf:=by simp[N]
    have FX:Hid (pf x):=⟨HP.out.2,.inl N⟩;clear N
    go_wp2_with (first|(at_builtin;go_loud (refine wK rfl _ _ 22 rfl 6 56 underlying22 H C A z UV rfl UV u.out (cs:=#[.int .i64 x.k,.int .i64 x.a,.int .i64 x.y,.int .i64 x.m,.int .i64 x.d,.string x.s]) rfl U1 rfl rfl UT p.out.size ?_);intro g2 c2 w2 q U _))
    obtain⟨T,S,P⟩:=EK u.out p.out U q h.out.2.1 FX.out;exact⟨⟨k+1,j++[x],by omega,by go_num,T,by simp;omega,S,P⟩,by simp[intOf];omega⟩
   ·have aa:(x.k==4)=Ve:=by simp[N]
    by_cases h5:5<=x.k
    ·cases bb
     ·go_wp2_with fail
      exact⟨⟨k+1,j,by omega,by go_num,u.out,by omega,h.out.2.1,p.out⟩,by simp[intOf];omega⟩
     ·have FX:Hid (pf x):=⟨HP.out.2,.inr ⟨h5,H1.out.1 rfl⟩⟩
      go_wp2_with (first|(at_builtin;go_loud (refine wK rfl _ _ 22 rfl 6 56 underlying22 H C A z UV rfl UV u.out (cs:=#[.int .i64 x.k,.int .i64 x.a,.int .i64 x.y,.int .i64 x.m,.int .i64 x.d,.string x.s]) rfl U1 rfl rfl UT p.out.size ?_);intro g2 c2 w2 q U _))
      obtain⟨T,S,P⟩:=EK u.out p.out U q h.out.2.1 FX.out;exact⟨⟨k+1,j++[x],by omega,by go_num,T,by simp;omega,S,P⟩,by simp[intOf];omega⟩
    ·have ad:¬ (5:U8)<=x.k:=h5
     go_wp2_with fail
     exact⟨⟨k+1,j,by omega,by go_num,u.out,by omega,h.out.2.1,p.out⟩,by simp[intOf];omega⟩
  ·have G:¬ (k:U8)<(f:U8):=UT
   go_wp2
   go_ret;exact⟨_,j,rfl,h.out.1,by omega,h.out.2.1,h.out.2.2⟩
theorem M7{a:U7}(A:Env w)(y:Ae w a0 a)(G:a<=1900000):
  Vj prog 6 #[.slice a0 a cap] w fun e w'=>e=.returned (.bool Vf)/\Vi w.heap.size w w':=by
 have U:=aC A;have T:=aC y;clear A y
 go_in
 have q:∀ o,Vi w.heap.size w (w.alloc o):=fun o=>(zr _ _).alloc (zq _) o
 have S:Hid (∀ (l:TypeId) c,Vj prog 16 #[.slice a0 a cap,.slice (Vd ⟨w.heap.size,0,Vc⟩) 9 c] (w.alloc (.cells #[.string kv,.string kn,.string kr,.string dY,.string km,.string ki,.string kL,.string ib,.string iY] l)) (Dn (w.alloc (.cells #[.string kv,.string kn,.string kr,.string dY,.string km,.string ki,.string kL,.string ib,.string iY] l)) a)):=fun l c =>
  LJ (fun i J=>by
   obtain⟨b,p,x,e,P,N⟩:=T.out i J
   exact⟨b,p,x,e,P.later (q _),N⟩) G (fun j I=>by
   have M:=cC w (.cells #[.string kv,.string kn,.string kr,.string dY,.string km,.string ki,.string kL,.string ib,.string iY] l);have H:j<9:=I;rcases (show j=0\/j=1\/j=2\/j=3\/j=4\/j=5\/j=6\/j=7\/j=8 by omega) with rfl|rfl|rfl|rfl|rfl|rfl|rfl|rfl|rfl
   all_goals exact aZ M _ rfl)
 have C:=aC q;clear q
 go_wp2_with fail
 refine (S.out _ _).mono ?_;rintro e w1 ⟨v,Y,rfl,z,E,f,u⟩;have m:=aC (zA z (zA f (zA u ((U.out.later (C.out _)).later u))));clear z f u
 go_wp2_with fail
 refine (Mm m.out.2.2.2 m.out.1 m.out.2.1 UT).mono ?_;rintro e w2 ⟨rfl,h⟩;have V:=aC (bA (bA (C.out _) m.out.2.2.1 (zq _)) h (zq _));clear h
 go_wp2
 go_ret;exact⟨rfl,V.out⟩
end
end Go.Proofs.YtfigmlfdnickmaaGreatDoor
