import Derived.Test.YtfigmlfdnickmaaGreatDoorL10
set_option maxRecDepth 100000
set_option maxHeartbeats 8000000
open Go.Proofs.Tryz
open _root_ renaming ByteArray->U4,List->U5,Nat->U8,Int->U9,if_neg->Va,if_pos->Vb
open Option renaming none->Vd,some->Ve,mem_toList->WW
open Bool renaming false->Vf,true->Vg,false_eq_true->Vx
open Go renaming World->Vh,Value->Vi,Calls->Vk
open Go.RowKit renaming Below->Vj
open List renaming mem_append->VB,mem_singleton->YD,mem_map->Wm,length_pos_iff->ZA,getElem?_map->Ys,getElem?_eq_getElem->Xb,take_succ_eq_append_getElem->Wg,map_append->Wr,map_cons->XS,mem_cons->VA,not_mem_nil->Z4,find?_cons->Yn,getElem_mem->ZC,mem_filter->XF,filter_append->VP,length_map->WL,getD->Ws,length_cons->V6,length_nil->Wa,cons_append->VN,foldl_cons->W9
open Go.Code renaming wp->Za
open Nat renaming zero_le->Wh,le_trans->Vq,lt_of_lt_of_le->Wk
open Go.World renaming ownsRow_nil->WK,block_lt_of_cell?->Vr,setCell->VH,cell?->VL
open Go.Value.slice renaming injEq->Yr
open Go.IntKind renaming i64->Vp
open Go.Value renaming ownBlock->WI,int->V4,slice->Ze
open Option.some renaming injEq->Z6
open Int renaming le_refl->Xy,tmod_eq_emod_of_nonneg->Zi
open Array renaming getElem?_eq_some_iff->Y9
open Go.Addr.mk renaming injEq->Z7
open ByteArray renaming empty->YN
open List.cons renaming injEq->Xw
namespace Go.Proofs.YtfigmlfdnickmaaGreatDoor
variable{tm:Bool}{kw t:U4}{pc:U9}{xs:U5 (aA.aL × U8 × U8)}{L:U5 (U8 × Obj)}{es:U5 aA.aL}{acc:U5 U9}{F:U5 U8}{O Q R c cap d g n:U8}{ws:U8->U4}{aM:U8->Option aW}{a0:Option Addr}{r:Raw}{s:aA.St}{u1 u2 u3 u4 v z1 z2 z3 z4:Vi}{W X Z w w' w1 w2 wx:Vh}
open Go.RowKit
open aA (aL St bO aU)
theorem KP.off{b:Vh}{G:U5 U8}(h:KP w wx L)(k:aF G wx b)(j:∀ x∈G,w.heap.size<=x)(f:∀ q∈L,q.1 ∉ G):KP w b L :=
 ⟨h.bl.trans (zh k h.bl.size j),fun q a=>(k.block _ (h.lt a) (f q a)).trans (h.kb q a),h.lo,h.nd⟩
theorem KP.tail{q:U8 × Obj}(h:KP w wx (q :: L)):KP w wx L:=h.less (List.sublist_cons_self ..)
theorem DD.oW{wc o:Vh}(H:DD w d s xs F){e:aL}{p cs:U8}(q:Vj w.heap.size w wc)(A:w.heap.size<p)(C:w.heap.size<wc.heap.size)(h:EB e)(y:s.es.length<60)(z:sZ wc d s.ts (xs++[({ e with id:=s.given+1 },p,cs)]) (s.given+1) s.now F o)(a b c f g i j:Vi):
  dK w d F xs (aA.jz s e) (.returned (bC 0 0 (s.given+1) aR aR aR aR)) (cK o w.heap.size a b c f g i j)/\o.heap[w.heap.size]?=wc.heap[w.heap.size]?:=by
 obtain⟨G,E,m,u⟩:=(H.later q).kQ (x:=(e,p,cs)) h y z;have l:w.heap.size ∉ F:=fun e=>by have:=H.lt _ e;omega
 refine⟨E.mu (fun x h=>(m x h).imp id (fun e=>by omega)) ((aF.aD q).trans u) (zq _) (fun e=>?_) (fun x h e=>?_) (fun x h=>?_) 0 (s.given+1) _ _ _ _ _ _ _,u.block _ C l⟩
 ·rcases m _ e with e|e
  ·exact l e
  ·omega
 ·rcases VB.1 h with h|h
  ·have:=(H.rd.sp x h).2.2;omega
  ·rw[YD.1 h] at e;simp only at e;omega
 ·rcases VB.1 h with h|h
  ·exact .inl ⟨x,h,rfl⟩
  ·rw[YD.1 h];exact .inr (by simp only;omega)
theorem Lt(h:DD w d s xs F)(hg:0<=s.given/\s.given<=60)(bj:(s.es.length:U9)<=s.given){k:U8}(hc:∀ j,j<n->w.cell? ⟨g,j,Vd⟩=Ve (.string (ws j)))(f:∀ j,(ws j).size<=160)(hr:rH ws 3 k pc acc tm)(hn:k+7<n)(hu:1<=bF (ws 2) 1 7/\bF (ws 2) 1 7<=9)(hf:Rd.fw (jX ws 3 k pc acc tm)):
  Vk prog 174 #[.pointer (Ve ⟨d,0,Vd⟩),.slice (Ve ⟨g,0,Vd⟩) n c] w (dK w d F xs (aU s (.series (ws 1) (bF (ws 2) 1 7) (jX ws 3 k pc acc tm)))):=by
 have P0:=aC ((KP.nil w).alloc aX);have H:=aC h;have RL:Hid (∀ W,Vj w.heap.size w W->Vk prog 180 #[.slice (Ve ⟨g,0,Vd⟩) n c,.int .i64 3] W fun e w'=>e=.returned (mO (jX ws 3 k pc acc tm))/\Vj W.heap.size W w'):=fun W kW=>Ej (i:=3) (fun j hj=>aN kW (hc j hj)) f UU hr hn
 have DY:=aC (fun W=>Dx _ hf W);have hk:3+2<=k:=by rcases hr.hk with e|e <;> omega
 have i1:(1:U9)<(n:U9):=UU
 have i2:(2:U9)<(n:U9):=UU
 have y1:=aN P0.out.bl (hc 1 UU);have y2:=aN P0.out.bl (hc 2 UU);have NM:=aC (fun wx=>eP (ws 2) 1 7 wx (f 2) UU UU);generalize bF (ws 2) 1 7=u at *;generalize ws 1=name at *;generalize ws 2=ut at *;generalize jX ws 3 k pc acc tm=q at *;simp only[mO,pY] at RL DY;have C:=aC (zA hf (Rd.pM hf).2);clear h hc f hr hf hk hn
 go_in
 go_upto_region 1 with fail
 change Za _ _ _ _ (w.alloc aX);generalize w.alloc aX=X at *
 go_cut [5] from 12 to 19 (fun v5 wx=>∃ b,v5=.pointer (Ve ⟨b,0,Vd⟩)/\KP w wx [(b,nD 1 name u aR 0),(w.heap.size,aX)])
 case first =>
  have bh:∀ o,(X.alloc o).cell? ⟨g,1,Vd⟩=Ve (.string name):=fun o=>aN ((zr _ _).alloc (zq _) _) y1
  have bg:∀ o,(X.alloc o).cell? ⟨g,2,Vd⟩=Ve (.string ut):=fun o=>aN ((zr _ _).alloc (zq _) _) y2
  go_region_with (first
   |(go_at_call 126;refine (NM.out _).mono ?_;rintro e w4 ⟨rfl,A⟩;have PB:=aC (((P0.out.alloc _).later (dM _)).later A);have bz:=zB A;have b0:=rQ bz;have b1:=tc bz;have b2:=rR bz;have b3:=rS bz;have b4:=rT bz;have b5:=td bz;have bf:=uI bz;have kX:Vj X.heap.size X w4:=bA ((zr _ _).alloc (zq _) _).drew A (zq _);have ae:=aN kX y1;clear A)
   |(go_at_call 126;refine (NM.out _).mono ?_;rintro e w4 ⟨rfl,A⟩;have kX:Vj X.heap.size X w4:=bA (dM X) A (zq _);have ae:=aN kX y1;have yB:∀ o,(w4.alloc o).cell? ⟨g,1,Vd⟩=Ve (.string name):=fun o=>aN ((zr _ _).alloc (zq _) _) ae))
  all_goals
   go_wp2
   go_meet
   first
    |(
     have PB:=PB.out.pe (.int .i64 0) (.int .i64 1) (.string name) (.int .i64 u) aR (.int .i64 0)
     exact⟨_,rfl,PB⟩)
    |exact⟨_,rfl,(P0.out.later kX).alloc _⟩
 case rest =>
  obtain⟨b,rfl,hP⟩:=hcut;have HP:=aC hP;clear hP y1 y2 P0 NM;obtain⟨_,_,b2,b3,_,_⟩:=HP.out.og;have AK:=aC ((H.out.later HP.out.bl).asked name u);have SD:Hid (∀ er Z,KP w Z [(w.heap.size,aX)]->aU s (.series name u q)=(s,bO.error er)->dK w d F xs (aU s (.series name u q)) (.returned (bC er 0 0 aR aR aR aR)) (cK Z w.heap.size (.int .i64 er) (.int .i64 0) (.int .i64 0) aR aR aR aR)/\Q7 Z w.heap.size):=fun er Z k e=>⟨by rw[e];exact H.out.said k.bl (zq _) er 0 _ _ _ _ _ _ _,Q7.of k.mI⟩
  have D1:Hid (aA.dH s.ts name u≠0->aU s (.series name u q)=(s,bO.error (aA.dH s.ts name u))):=fun e=>by simp only[aU,aA.mK,Vb e]
  have D2:Hid (aA.dH s.ts name u=0->Rd.gd q≠0->aU s (.series name u q)=(s,bO.error (Rd.gd q))):=fun e e2=>by simp only[aU,aA.mK,e,ne_eq,not_true_eq_false,if_false,e2,not_false_eq_true,if_true]
  have D3:Hid (aA.dH s.ts name u=0->Rd.gd q=0->s.given=60->aU s (.series name u q)=(s,bO.error 5)):=fun e e2 e3=>by simp[aU,aA.mK,e,e2,e3]
  have D4:Hid (aA.dH s.ts name u=0->Rd.gd q=0->s.given≠60->aU s (.series name u q)=if aA.dG s.ts s.es name u (Rd.gg q (Rd.bH q)) then aA.jz s ⟨0,1,name,u,Rd.gg q (Rd.bH q),0⟩ else (s,bO.error 8)):=fun e e2 e3=>by
   simp only[aU,aA.mK,e,e2,e3,ne_eq,not_true_eq_false,if_false]
   cases aA.dG s.ts s.es name u (Rd.gg q (Rd.bH q)) <;> simp
  go_wp2_with fail
  refine AK.out.mono ?_;rintro e w7 ⟨rfl,rfl⟩;clear AK;generalize aA.dH s.ts name u=an at *
  by_cases p:an=0
  case neg =>
   have bi:(an != 0)=Vg:=by simpa using p
   have E:=aC (SD.out an _ HP.out.tail (D1.out p));clear p;obtain⟨N,p,M,J,m,I,G,T⟩:=E.out.2
   go_wp2_with fail
   exact cO results174 ⟨N,p,M,J,m,I,G,T⟩ E.out.1
  subst p;clear D1 b2 b3
  go_wp2_with fail
  refine (RL.out _ HP.out.bl).mono ?_;rintro e w2 ⟨rfl,hb⟩;replace HP:=aC ((HP.out.later hb).alloc (gW q));clear hb RL
  go_upto_region 6 with fail
  change Za _ _ _ _ (w2.alloc (gW q));obtain⟨rb,af⟩:∃ rb,rb=w2.heap.size:=⟨_,rfl⟩;rw[<- af] at HP ⊢;generalize w2.alloc (gW q)=W at *;obtain⟨⟨c0,c1,c9,ac,U,a6,a5⟩,cJ⟩:=nw HP.out.mI;have j0:=cJ 0 UU;have j1:=cJ 1 UU;have j2:=cJ 2 UU;have j3:=cJ 3 UU;have j4:=cJ 4 UU;have j5:=cJ 5 UU;have j6:=cJ 6 UU;have bo:b<W.heap.size:=HP.out.lt (q:=(b,nD 1 name u aR 0)) UV;clear cJ af
  go_wp2_with fail
  refine (DY.out _).mono ?_;rintro e w3 ⟨aq,hd⟩;replace HP:=aC (HP.out.later aq);clear c0 c1 c9 ac U a6 a5 j0 j1 j2 j3 j4 j5 j6 DY;rcases hd with ⟨he,v,rfl,ho⟩|⟨he,rfl⟩
  case inr =>
   have E:=aC (SD.out (Rd.gd q) _ HP.out.tail.tail (D2.out UV he));generalize Rd.gd q=er at *;have bn:(er != 0)=Vg:=by simpa using he
   obtain⟨N,p,M,J,m,I,G,T⟩:=E.out.2;clear he
   go_wp2_with fail
   exact cO results174 ⟨N,p,M,J,m,I,G,T⟩ E.out.1
  obtain⟨_,av,ba,l⟩:=C.out.2 he;have HO:=aC ho;have LT:=aC l;have HD:=aC he;have MM:=aC (fun i (hi:i<(Rd.bH q).length)=>zA (Rd.sI C.out.1 (zg hi)) (zA C.out.1.m0 (zA C.out.1.m1 (zA C.out.1.i1 C.out.1.i2))));obtain⟨va,vc,rfl⟩:=gC ho;have LB:=aC (zA (HP.out.lo (b,nD 1 name u aR 0) UV) (zA (HP.out.lt (q:=(b,nD 1 name u aR 0)) UV) (zA (HP.out.lt (q:=(rb,gW q)) UV) (zA (HP.out.lt (q:=(w.heap.size,aX)) UV) HP.out.bl.size))))
  have a8:Hid (∀ x∈Rd.gg q (Rd.bH q),0<=x.2/\x.2<=2000000):=fun x hx=>by
   obtain⟨y,hy,rfl⟩:=Wm.1 hx;have:=Rd.sI C.out.1 hy;have:=l y hy;have:=C.out.1.f0;have:=C.out.1.m0;have:=C.out.1.i1;simp only;omega
  clear ho l he aq;have aw:0<(Rd.bH q).length:=ZA.2 av
  go_wp2_with fail
  generalize w3=V at *;obtain⟨V0,a4⟩:∃ V0,V0=V:=⟨_,rfl⟩;subst a4
  go_loopw [9,10] (fun vi _ wr=>∃ (i:U8) (vs:Vi),i<=(Rd.bH q).length/\vi=.int .i64 i/\KP w wr [(b,nD 1 name u vs 0),(rb,gW q),(w.heap.size,aX)]/\wr.ownsRow V0.heap.size 60 2 vs (Rd.gg q ((Rd.bH q).take i)).length ((Rd.gg q ((Rd.bH q).take i)).flatMap iF)/\aF [b] V0 wr) (fun vi _ _=>(Rd.bH q).length-(intOf vi).toNat)
  case atStart=>exact⟨0,aR,Wh _,rfl,HP.out.swap,WK _ _ _ _,aF.refl _ _⟩
  case round =>
   obtain⟨i,vs,hi,rfl,hP,Y,aa⟩:=hrel;have a:=aC (zA hP (zA Y aa));clear hP Y aa
   by_cases ab:i<(Rd.bH q).length
   ·have ai:(i:U9)<((Rd.bH q).length:U9):=UU
    obtain⟨g2,cap,e,y⟩:=rO HO.out (k:=i) (u:=.int .i64 (Rd.bH q)[i]) (by rw[Ys,Xb ab];rfl);simp only[Yr,true_and] at e;obtain⟨rfl,rfl⟩:=e;have az:g2 ∉ [b]:=by have:=jE HO.out (k:=g2) rfl;simp;omega
    have y':=a.out.2.2.cell az y;obtain⟨_,_,_,_,b4,_⟩:=a.out.1.og;obtain⟨⟨_,_,_,ac,U,_⟩,_⟩:=nw (a.out.1.kb (rb,gW q) UV);obtain⟨⟨m1,m2⟩,m3,m4,m5,m6⟩:=MM.out i ab;have bm:=C.out.1.f0
    have HT:Hid (Rd.gg q ((Rd.bH q).take (i+1))=Rd.gg q ((Rd.bH q).take i)++[(1440*(Rd.bH q)[i]+q.mn,1440*(Rd.bH q)[i]+q.mn+q.mi)]):=by
     show _=_;simp only[Rd.gg];rw[Wg ab,Wr];simp only[XS,List.map_nil,Int.mul_comm 1440]
    have ax:(Rd.gg q ((Rd.bH q).take i)).length<=1000000:=by simp[Rd.gg];omega
    clear y;generalize (Rd.bH q)[i]=x at *;have w1:Vp.wrap (1440*x)=1440*x:=cG UU UU;have w2:Vp.wrap (1440*x+q.mn)=1440*x+q.mn:=cG UU UU;have w3:Vp.wrap (1440*x+q.mn+q.mi)=1440*x+q.mn+q.mi:=cG UU UU
    go_upto_region 12 with fail
    go_quiet (fail)
    go_upto_region 13 with fail
    generalize ar:World.drewN wr _=Wd at *
    have kd:Hid (Vj wr.heap.size wr Wd):=by
     rw[<- ar];exact rW (zr _ _) _
    clear ar;have a7:=aN kd.out b4;have bc:=aN kd.out U;have NB:Hid (∀ z∈vs.ownBlock.toList,V0.heap.size<=z):=fun z f=>jE a.out.2.1 (WW.1 f)
    have ao:b ∉ vs.ownBlock.toList:=fun e=>by have:=NB.out b e;have:=LB.out.2.1;omega
    have PD:=aC (a.out.1.later kd.out);have OD:=aC (eu a.out.2.1 kd.out);have a3:V0.heap.size<=Wd.heap.size:=Vq a.out.2.2.size kd.out.size;clear b4 ac U
    go_wp2_with (first|(at_builtin;refine Dq rfl _ _ rfl OD.out (1440*x+q.mn) (1440*x+q.mn+q.mi) rfl rfl ax a3 ?_;intro gs cs w6 ag P;have b4:=P.cell ao a7;have bf:=(P.frozen (o:=4) ao (PD.out.lt (q:=(b,nD 1 name u vs 0)) UV)).trans (PD.out.hf 4)))
    have P6:=aC (PD.out.off P (fun z f=>Vq LB.out.2.2.2.2 (NB.out z f)) (fun z f e=>by
     have:=NB.out _ e;have:=LB.out;simp only[VA,Z4,or_false] at f
     rcases f with rfl|rfl|rfl <;> simp only at this <;> omega))
    have ak:V0.heap.size<=gs:=jE ag rfl;refine⟨⟨i+1,_,by omega,by go_num,P6.out.put 4 _,?_,?_⟩,by simp[intOf];omega⟩
    ·rw[HT.out,List.length_append]
     exact dO ag (aF.aY ..) (fun z f e=>by
      simp only[WI,Z6] at f;simp only[YD] at e;have:=LB.out.2.1
      omega)
    ·exact ((a.out.2.2.trans' (aF.aD kd.out) (fun z f=>.inl f)).trans' P (fun z f=>.inr (NB.out z f))).setCell (.inl UV) _ _
   ·have ay:i=(Rd.bH q).length:=UU
    subst ay;have ai:¬ (((Rd.bH q).length:U8):U9)<((Rd.bH q).length:U9):=UU
    have hL:(Rd.gg q (Rd.bH q)).length=(Rd.bH q).length:=by simp[Rd.gg]
    rw[List.take_length] at a;have a9:=aC (D4.out UV HD.out);have ad:Hid ((Rd.gg q (Rd.bH q)).length<=40/\Rd.gg q (Rd.bH q)≠[]):=⟨by omega,fun e=>by rw[e] at hL;simp at hL;omega⟩;generalize Rd.gg q (Rd.bH q)=L at *;rcases a.out.2.1.2 with ⟨_,h0⟩|⟨gs,cs,_,rfl,_⟩
    ·omega
    clear hL;obtain⟨b0,b1,b2,b3,b4,b5⟩:=a.out.1.og;have DW:=aC (H.out.later a.out.1.bl);have n2:=DW.out.rd.c2;have RS:=aC (zP a.out.2.1).2;have ak:V0.heap.size<=gs:=jE a.out.2.1 rfl;have aj:gs<wr.heap.size:=eV a.out.2.1 rfl
    by_cases m:s.given=60
    ·have au:(s.given==60)=Vg:=by simpa using m
     have E:=aC (SD.out 5 _ a.out.1.tail.tail (D3.out UV HD.out m));obtain⟨N,p,M,J,m,I,G,T⟩:=E.out.2
     go_wp2_with fail
     exact cO results174 ⟨N,p,M,J,m,I,G,T⟩ E.out.1
    ·have au:(s.given==60)=Vf:=by simpa using m
     have FT:=aC (DW.out.fits (u:=u) (cb:=cs) name RS.out (by have:=ad.out.1;omega) UU hu.2);have DF:=aC (a9.out m);generalize aA.dG s.ts s.es name u L=fb at *
     go_wp2_with fail
     refine FT.out.mono ?_;rintro e w8 ⟨rfl,S⟩;have K8:=aC (a.out.1.later S);have R8:=aC (zA (RS.out.later S) (zA (zL aj S.size) ak));clear S
     cases fb
     ·have E:=aC (SD.out 8 _ K8.out.tail.tail (DF.out.trans UV));obtain⟨N,p,M,J,m,I,G,T⟩:=E.out.2
      go_wp2_with fail
      exact cO results174 ⟨N,p,M,J,m,I,G,T⟩ E.out.1
     ·have al:Hid (s.es.length<60):=by
       show _<_;omega
      have DC:=aC (H.out.later K8.out.bl);have JN:Hid (Vk prog 232 #[.pointer (Ve ⟨d,0,Vd⟩),.agg #[.int .i64 0,.int .i64 1,.string name,.int .i64 u,.slice (Ve ⟨gs,0,Vd⟩) L.length cs,.int .i64 0]] w8 fun e w'=>e=.returned (rP 0 (s.given+1))/\sZ w8 d s.ts (xs++[(⟨s.given+1,1,name,u,L,0⟩,gs,cs)]) (s.given+1) s.now F w'):=(Dy d s.ts xs s.given s.now F (⟨0,1,name,u,L,0⟩,gs,cs) w8 DC.out.rd R8.out.1 (fun e=>by have:=H.out.lt gs e;have:=LB.out.2.2.2.2;omega) R8.out.2.1 DC.out.lt (by have:=H.out.len;have:=H.out.el;omega) hg.1 UU);obtain⟨x0,x1,x2,x3,x4,x5⟩:=K8.out.og;have Q1:=aC (Q7.of (K8.out.kb (w.heap.size,aX) UV));clear b0 b1 b2 b3 b4 b5 n2
      go_wp2_with fail
      refine JN.out.mono ?_;rintro e w9 ⟨rfl,hj⟩;have JA:=aC (H.out.oW (e:=⟨0,1,name,u,L,0⟩) K8.out.bl (by have:=LB.out.2.2.2.1;omega) (K8.out.lt (q:=(w.heap.size,aX)) UV) ⟨hu.1,hu.2,ad.out.1,ad.out.2,a8.out⟩ al.out hj (.int .i64 0) (.int .i64 0) (.int .i64 (s.given+1)) aR aR aR aR);obtain⟨N,p,M,J,m,I,G,T⟩:=Q1.out.later JA.out.2;simp only[rP];clear hj JN x0 x1 x2 x3 x4 x5
      go_wp2_with fail
      exact cO results174 ⟨N,p,M,J,m,I,G,T⟩ (by rw[DF.out];exact JA.out.1)
theorem DD.days(h:DD w d s xs F)(p:Vj w.heap.size w Z){B:U8}{l:U5 U9}(o:Z.ownsRow B 3 1 v l.length (l.map (V4 .i64)))(H:w.heap.size<=Q)(I:Q<B)(n:U9)(a b c e f g i:Vi):
  dK w d F xs (s,{ bO.num n with days:=l }) (.returned (bC 0 0 n aR v aR aR)) (cK Z Q a b c e f g i):=by
 have m:=lF Z Q a b c e f g i;have z:∀ x,x<w.heap.size->x ∉ [Q]:=fun x j e=>by simp at e;omega
 have u:∀ x∈v.ownBlock.toList,B<=x/\x<Z.heap.size:=fun x j=>⟨jE o (WW.1 j),eV o (WW.1 j)⟩
 refine⟨aR,v,aR,aR,xs,F,v.ownBlock.toList,rfl,fun w2 E=>⟨⟨[],EV.nil _,rfl⟩,⟨(NV.own o).form,fun k C=>?_⟩,NV.nil _⟩,WK _ _ _ _,(h.later p).off m (fun x j=>z x (h.lt x j)) (fun x j=>z _ (h.rd.sp x j).2.2),fun _ j=>.inl j,(aF.aD p).trans' m (fun x j=>.inr (by simp at j;omega)),fun x j=>?_,fun x j=>by simp[WI] at j,fun x j=>.inl ⟨x,j,rfl⟩⟩
 ·obtain⟨y,cap,A,G⟩:=(NV.own o).cell k C;have q:y∈v.ownBlock.toList:=by rw[A];simp[WI]
  have:=u y q;exact⟨y,cap,A,(zo ((E y q).trans (m.block y this.2 U0))).trans G⟩
 ·have:=u x j;exact⟨by omega,Wk this.2 m.size,fun e=>by have:=h.lt x e;omega,by simp[WI]⟩
theorem LZ(h:DD w d s xs F){k:U8}(x:∀ j,j<n->w.cell? ⟨g,j,Vd⟩=Ve (.string (ws j)))(Y:∀ j,(ws j).size<=160)(hr:rH ws 1 k pc acc tm)(hn:k+7<n)(h0:ws 0=⟨#[101,120,112,97,110,100]⟩)(u:Rd.fw (jX ws 1 k pc acc tm)):
  Vk prog 117 #[.pointer (Ve ⟨d,0,Vd⟩),.slice (Ve ⟨g,0,Vd⟩) n c] w (dK w d F xs (aU s (.expand (jX ws 1 k pc acc tm)))):=by
 have o:=aC ((KP.nil w).alloc aX);have H:=aC h;have RL:Hid (∀ W,Vj w.heap.size w W->Vk prog 180 #[.slice (Ve ⟨g,0,Vd⟩) n c,.int .i64 1] W fun e w'=>e=.returned (mO (jX ws 1 k pc acc tm))/\Vj W.heap.size W w'):=fun W kW=>Ej (i:=1) (fun j hj=>aN kW (x j hj)) Y UU hr hn
 have G:=aC (fun W=>Dx _ u W);have i0:(0:U9)<(n:U9):=UU
 have I:=aN o.out.bl (x 0 UU);rw[h0] at I;generalize jX ws 1 k pc acc tm=q at *;simp only[mO,pY] at RL G;have ES:=aC (Rd.pM u).2;clear h x Y hr u hn h0
 go_in
 go_upto_region 1 with fail
 change Za _ _ _ _ (w.alloc aX);generalize w.alloc aX=X at *
 go_wp2_with fail
 refine (RL.out _ o.out.bl).mono ?_;rintro e w2 ⟨rfl,hb⟩;have HP:=aC ((o.out.later hb).alloc (gW q));clear hb RL o I
 go_upto_region 24 with fail
 change Za _ _ _ _ (w2.alloc (gW q));obtain⟨J,l⟩:∃ J,J=w2.heap.size:=⟨_,rfl⟩;rw[<- l] at HP ⊢;generalize w2.alloc (gW q)=W at *;obtain⟨⟨c0,c1,c9,C,A,z,y⟩,a⟩:=nw HP.out.mI;have j0:=a 0 UU;have j1:=a 1 UU;have j2:=a 2 UU;have j3:=a 3 UU;have j4:=a 4 UU;have j5:=a 5 UU;have j6:=a 6 UU;have hQ:w.heap.size<W.heap.size:=HP.out.lt (q:=(w.heap.size,aX)) UV;clear a l
 go_wp2_with fail
 refine (G.out _).mono ?_;rintro e w3 ⟨b,hd⟩;replace HP:=aC (HP.out.later b);clear c0 c1 c9 C A z y j0 j1 j2 j3 j4 j5 j6 G;obtain⟨V,U,T,S,P,N,M,fq⟩:=Q7.of (HP.out.kb (w.heap.size,aX) UV);rcases hd with ⟨f,v,rfl,p⟩|⟨f,rfl⟩
 ·have aa:(Rd.bH q).length<=40:=(ES.out f).2.2.1
  have E:Hid (dK w d F xs (aU s (.expand q)) (.returned (bC 0 0 (Rd.bH q).length aR v aR aR)) (cK w3 w.heap.size (.int .i64 0) (.int .i64 0) (.int .i64 (Rd.bH q).length) aR v aR aR)):=by
   have e:aU s (.expand q)=(s,{ bO.num (Rd.bH q).length with days:=Rd.bH q }):=by simp[aU,f]
   rw[e];exact H.out.days HP.out.bl p (zq _) hQ _ _ _ _ _ _ _ _
  obtain⟨va,vc,rfl⟩:=gC p;clear p f b;generalize (Rd.bH q).length=m at *
  go_wp2_with fail
  exact cO results117 ⟨V,U,T,S,P,N,M,fq⟩ E.out
 ·have E:Hid (dK w d F xs (aU s (.expand q)) (.returned (bC (Rd.gd q) 0 0 aR aR aR aR)) (cK w3 w.heap.size (.int .i64 (Rd.gd q)) (.int .i64 0) (.int .i64 0) aR aR aR aR)):=by
   have e:aU s (.expand q)=(s,bO.error (Rd.gd q)):=by simp[aU,f]
   rw[e];exact H.out.said HP.out.bl (zq _) _ 0 _ _ _ _ _ _ _
  clear f b;generalize Rd.gd q=er at *
  go_wp2_with fail
  exact cO results117 ⟨V,U,T,S,P,N,M,fq⟩ E.out
theorem EP:∀ (es:U5 aL)(id i:U9),0<=i->(aA.jo id es i=-1/\aA.nf id es=Vd)\/∃ k:U8,∃ h:k<es.length,aA.jo id es i=i+k/\aA.nf id es=Ve es[k]/\es[k].id=id
 |[],id,i,_=>.inl ⟨rfl,rfl⟩
 |e :: r,id,i,h0=>by
  unfold aA.jo aA.nf
  by_cases h:e.id=id
  ·refine .inr ⟨0,by simp,?_⟩;simp[h]
  ·rcases EP r id (i+1) UU with ⟨b,a⟩|⟨k,f,b,a,j⟩
   ·refine .inl ?_;rw[Va h];simp only[Yn,h,decide_false];exact⟨b,a⟩
   ·refine .inr ⟨k+1,by simpa using f,?_⟩;rw[Va h];simp only[Yn,h,decide_false];exact⟨by rw[b];push_cast;omega,a,j⟩
theorem MN(h:aA.dB es){k:U8}(f:k<es.length):es.set k (aA.cS es[k])=aA.dZ es[k].id es:=by
 unfold aA.dZ;apply List.ext_getElem UV;intro i a j;rw[List.getElem_set,List.getElem_map];simp only[List.length_set] at a
 split
 ·rename_i e;subst e;simp
 ·rename_i e
  rw[Va];intro l;have:=(List.pairwise_iff_getElem.1 h);rcases Nat.lt_or_gt_of_ne e with b|b
  ·have:=this k i (by simpa using f) (by simpa using a) b;simp only[List.getElem_map] at this;omega
  ·have:=this i k (by simpa using a) (by simpa using f) b;simp only[List.getElem_map] at this;omega
theorem Lf{id:U9}:(iS id xs).map (·.1)=aA.kept id (xs.map (·.1)):=by
 unfold iS aA.kept;rw[List.filter_map]
 congr 1
def nH(b:Bool)(id:U9):aA.fJ:=if b then .cancel id else .confirm id
theorem LQ(h:DD w d s xs F)(ad:aA.dB s.es)(b:Bool)(hk:(kw.toList==[99,97,110,99,101,108])=b)(ht:t.size<=160)(hn:1<n)(c0:w.cell? ⟨g,0,Vd⟩=Ve (.string kw))(c1:w.cell? ⟨g,1,Vd⟩=Ve (.string t)):
  Vk prog 175 #[.pointer (Ve ⟨d,0,Vd⟩),.slice (Ve ⟨g,0,Vd⟩) n c] w (dK w d F xs (aU s (nH b (bF t 1 7)))):=by
 have hX:Vj w.heap.size w (w.alloc aX):=(zr _ _).alloc (zq _) _;have hQ:=cC w aX;have H:=aC h;have HX:=aC (zA hX hQ);have x0:=aN hX c0;have x1:=aN hX c1;have ai:(1:U9)<(n:U9):=UU
 have ag:(0:U9)<(n:U9):=UU
 clear hX hQ c0 c1 h
 go_in
 go_upto_region 1 with fail
 change Za _ _ _ _ (w.alloc aX);generalize w.alloc aX=X at *
 go_wp2_with fail
 refine (eP t 1 7 X ht UU UU).mono ?_;rintro e w1 ⟨rfl,u⟩;have V:=aC (bA HX.out.1 u (zq _));have U:=aC (H.out.later V.out);have PL:=aC (U.out.place (bF t 1 7));have PF:=aC (EP s.es (bF t 1 7) 0 (Xy _));have x0:=aN u x0;have Q1:=aC ((Q7.of HX.out.2).later (u.block _ (Y9.1 HX.out.2).1));clear u HX x1;generalize bF t 1 7=id at *
 go_wp2_with fail
 refine PL.out.mono ?_;rintro e w2 ⟨rfl,rfl⟩;clear PL;obtain⟨q,M,J,I,G,C,A,N⟩:=Q1.out;rcases PF.out with ⟨e1,e2⟩|⟨k,ab,e1,e2,e3⟩
 ·have hp:aA.jo id s.es 0<0:=UU
  have T:Hid (dK w d F xs (aU s (nH b id)) (.returned (bC 9 0 0 aR aR aR aR)) (cK w2 w.heap.size (.int .i64 9) (.int .i64 0) (.int .i64 0) aR aR aR aR)):=by
   have:=H.out.said V.out (zq _) 9 0 (.int .i64 9) (.int .i64 0) (.int .i64 0) aR aR aR aR;show dK w d F xs _ _ _
   cases b <;> (simp only[nH,aU,e2,Vx,if_true,if_false];exact this)
  clear e1 e2 PF;generalize aA.jo id s.es 0=pl at *
  go_wp2_with fail
  exact cO results175 ⟨q,M,J,I,G,C,A,N⟩ T.out
 ·rw[Int.zero_add] at e1;rw[e1];have hp:¬ ((k:U9)<0):=UU
  have l:k<xs.length:=by have:=H.out.len;omega
  have aj:(k:U9)<(s.es.length:U9):=UU
  have af:(0:U9)<=(k:U9):=UU
  clear e1 PF;obtain⟨a,cap,E,P⟩:=U.out.er;obtain rfl:=P.a k l;have cc:=P.c;rw[H.out.len] at cc;have r1:=(P.r k l).c1;have r5:=(P.r k l).c5
  have j:xs[k].1=s.es[k]:=by
   have e:(xs.map (·.1))[k]?=Ve s.es[k]:=by rw[H.out.es];simp[ab]
   rw[Xb (by simpa using l),Z6,List.getElem_map] at e;exact e
  have fE:=fun o=>P.f o UU
  have HR:=aC P;have z:=aC (zA e2 (zA e3 j));clear e2 e3 P
  cases b
  ·rw[j] at r1 r5
   by_cases m:s.es[k].kind=2
   ·have hq:(s.es[k].kind != 2)=Vf:=by simp[m]
    have bk:=U.out.dZ HR.out l (es':=aA.dZ id s.es) (by rw[j,MN ad ab,z.out.2.1]);have S:=bk.2.1;have ak:=bk.2.2;have kE:aF F w2 ((w2.setCell ⟨E,k*6+1,Vd⟩ (.int .i64 1)).setCell ⟨E,k*6+5,Vd⟩ (.int .i64 0)):=((aF.refl F w2).setCell (.inl S) _ _).setCell (.inl S) _ _;have al:E≠w.heap.size:=by have:=H.out.lt E S;omega
    have hw:aF F w ((w2.setCell ⟨E,k*6+1,Vd⟩ (.int .i64 1)).setCell ⟨E,k*6+5,Vd⟩ (.int .i64 0)):=(aF.aD V.out).trans kE
    have HD:Hid (aU s (nH Vf id)=({ s with es:=aA.dZ id s.es },⟨0,0,0,[],[],[],[]⟩)):=by
     show _=_;simp[nH,aU,z.out.1,m,bO.num]
    have ac:w.heap.size ∉ F:=fun e=>by have:=H.out.lt _ e;omega
    have Q2:=aC (Q1.out.later (kE.block _ (Vr _ _ q) ac));have HB:=aC (zA bk.1 hw);clear bk kE hw m q M J I G C A N
    go_upto_region 12 with fail
    generalize (VH (VH w2 _ _) _ _)=Z at *
    have T:Hid (dK w d F xs (aU s (nH Vf id)) (.returned (bC 0 0 0 aR aR aR aR)) (cK Z w.heap.size (.int .i64 0) (.int .i64 0) (.int .i64 0) aR aR aR aR)):=by
     show dK w d F xs _ _ _;rw[HD.out];refine HB.out.1.mu (fun _ j=>.inl j) HB.out.2 (zq _) ac (fun x j e=>?_) (fun x j=>.inl ?_) 0 0 _ _ _ _ _ _ _
     rotate_left
     ·rcases List.mem_or_eq_of_mem_set j with j|rfl
      ·exact⟨x,j,rfl⟩
      ·exact⟨xs[k],ZC l,rfl⟩
     have:x.2.1<w.heap.size:=by
      rcases List.mem_or_eq_of_mem_set j with j|rfl
      ·exact (H.out.rd.sp x j).2.2
      ·exact (H.out.rd.sp xs[k] (zg l)).2.2
     omega
    obtain⟨q,M,J,I,G,C,A,N⟩:=Q2.out;clear HB Q2
    go_wp2_with fail
    exact cO results175 ⟨q,M,J,I,G,C,A,N⟩ T.out
   ·have hq:(s.es[k].kind != 2)=Vg:=by simp[m]
    have T:Hid (dK w d F xs (aU s (nH Vf id)) (.returned (bC 10 0 0 aR aR aR aR)) (cK w2 w.heap.size (.int .i64 10) (.int .i64 0) (.int .i64 0) aR aR aR aR)):=by
     have:=H.out.said V.out (zq _) 10 0 (.int .i64 10) (.int .i64 0) (.int .i64 0) aR aR aR aR;show dK w d F xs _ _ _;simp only[nH,aU,z.out.1,Vx,if_false,m,ne_eq,not_false_eq_true,if_true];exact this
    clear m
    go_wp2_with fail
    exact cO results175 ⟨q,M,J,I,G,C,A,N⟩ T.out
  ·have WO:=aC (U.out.oP id)
   have HD:Hid (aU s (nH Vg id)=({ s with es:=aA.kept id s.es },⟨0,0,0,[],[],[],[]⟩)):=by
    show _=_;simp[nH,aU,z.out.1,bO.num]
   clear r1 r5 cc fE
   go_wp2_with fail
   refine WO.out.mono ?_;rintro e w3 ⟨vr,rfl,ho,p⟩;obtain⟨av,cv,Y⟩:=gC ho;have FR:=aC (U.out.fresh ho (zq _) p (fun y hy=>(XF.1 hy).1) (List.length_filter_le ..) (Lf.trans (by rw[H.out.es])));have D3:=U.out.later p;obtain⟨v2,y1,_⟩:=D3.rd.ev;have fy:=D3.rd.fz 1;have ae:d≠w.heap.size:=by have:=H.out.lt d H.out.rd.dF;omega
   have kd:aF [d] w3 (w3.setCell ⟨d,1,Vd⟩ vr):=aF.aY ..;have Q3:=aC ((Q1.out.later (p.block _ (Vr _ _ q))).later (kd.block _ (zL (Vr _ _ q) p.size) (by simp;exact fun e=>ae e.symm)));have HO:=aC (zA (((aF.aD (F:=F) V.out).trans (aF.aD p)).setCell (.inl H.out.rd.dF) 1 vr) ho);have hz:=V.out.size;have aa:=Vr _ _ q;have aa:w.heap.size<w2.heap.size:=aa;clear ho p D3 kd;rw[Y] at FR Q3 HO ⊢;clear Y q M J I G C A N
   go_upto_region 12 with fail
   generalize (VH w3 ⟨d,1,Vd⟩ _)=Z at *
   have T:Hid (dK w d F xs (aU s (nH Vg id)) (.returned (bC 0 0 0 aR aR aR aR)) (cK Z w.heap.size (.int .i64 0) (.int .i64 0) (.int .i64 0) aR aR aR aR)):=by
    show dK w d F xs _ _ _;rw[HD.out];have hv:∀ b,(Ze av (iS id xs).length cv).ownBlock=Ve b->w2.heap.size<=b:=fun b hb=>jE HO.out.2 hb
    refine FR.out.mu (fun x j=>?_) HO.out.1 (zq _) (fun j=>?_) (fun x j e=>?_) (fun x j=>.inl ⟨x,(XF.1 j).1,rfl⟩) 0 0 _ _ _ _ _ _ _
    ·rcases VB.1 j with e|e
     ·have:=hv x (by simpa using e);exact .inr UU
     ·exact .inl e
    ·rcases VB.1 j with e|e
     ·have:=hv _ (by simpa using e);omega
     ·have:=H.out.lt _ e;omega
    ·have:=(H.out.rd.sp x ((XF.1 j).1)).2.2;omega
   obtain⟨q,M,J,I,G,C,A,N⟩:=Q3.out;clear FR Q3 HO
   go_wp2_with fail
   exact cO results175 ⟨q,M,J,I,G,C,A,N⟩ T.out
open aA (aL St bO aU ki fp)
theorem Mq{α:Type}(fs:U5 U9)(ys:U5 α)(f:fs.length=ys.length):∃ zs:U5 α,zs.length=ys.length/\∀ (i:U8)(j:i<ys.length),zs[cH.kg fs i]?=Ve ys[i]:=by
 have b:∀ p:Fin ys.length,∃ i,i<ys.length/\cH.kg fs i=p.1:=fun p=>by
  obtain⟨i,l,a⟩:=cH.wW fs (k:=p.1) (by rw[f];exact p.2);exact⟨i,by omega,a⟩
 refine⟨List.ofFn fun p:Fin ys.length=>ys[Classical.choose (b p)]'(Classical.choose_spec (b p)).1,by simp,fun i j=>?_⟩;have h:cH.kg fs i<ys.length:=by rw[<- f];exact cH.zX fs UU
 rw[List.getElem?_ofFn,dif_pos h,Z6];have a:=Classical.choose_spec (b ⟨cH.kg fs i,h⟩);have e:=cH.Ag (fs:=fs) (by rw[f];exact a.1) UU a.2;simp only[e]
def pe(cs:Array Vi)(p:U8)(a b c d e f:Vi):Array Vi:=(((((cs.setIfInBounds (p*6) a).setIfInBounds (p*6+1) b).setIfInBounds (p*6+2) c).setIfInBounds (p*6+3) d).setIfInBounds (p*6+4) e).setIfInBounds (p*6+5) f
theorem LG(cs:Array Vi)(p:U8)(a b c d e f:Vi)(l:p*6+5<cs.size)(q j:U8)(m:j<6):(pe cs p a b c d e f)[q*6+j]?=if q=p then [a,b,c,d,e,f][j]? else cs[q*6+j]?:=by
 unfold pe
 by_cases h:q=p
 ·subst h;rw[Vb rfl];rcases (show j=0\/j=1\/j=2\/j=3\/j=4\/j=5 by omega) with rfl|rfl|rfl|rfl|rfl|rfl
  all_goals
   simp only[Array.getElem?_setIfInBounds,Array.size_setIfInBounds];simp
   try omega
 ·rw[Va h];simp only[Array.getElem?_setIfInBounds,Array.size_setIfInBounds];rw[Va UU,Va UU,Va UU,Va UU,Va UU,Va UU]
theorem Mp(cs:Array Vi)(p:U8)(a b c d e f:Vi):(pe cs p a b c d e f).size=cs.size:=by simp[pe]
theorem Mo{cs:Array Vi}{t:TypeId}{m:U8 × U8}(h:W.heap[O]?=Ve (.cells cs t m))(p:U8)(a b c d e f:Vi):((((((W.setCell ⟨O,p*6,Vd⟩ a).setCell ⟨O,p*6+1,Vd⟩ b).setCell ⟨O,p*6+2,Vd⟩ c).setCell ⟨O,p*6+3,Vd⟩ d).setCell ⟨O,p*6+4,Vd⟩ e).setCell ⟨O,p*6+5,Vd⟩ f).heap[O]?=Ve (.cells (pe cs p a b c d e f) t m) :=
 lR (lR (lR (lR (lR (lR h a) b) c) d) e) f
theorem nK.off{wr:Vh}{ys:U5 (aL × U8 × U8)}(h:nK w wr v ys)(k:aF [O] wr wx)(p:wr.heap.size<=O):nK w wx v ys:=by
 refine⟨dO h.own k (fun b a e=>by have:=eV h.own a;simp at e;omega),fun y o=>?_,⟨k.os.trans h.bw.os,k.tape.trans h.bw.tape,k.output.trans h.bw.output,Vq h.bw.size k.size,fun b a=>(k.block b (zL a h.bw.size) (fun e=>by have:=h.bw.size;simp at e;omega)).trans (h.bw.block b a)⟩⟩;obtain⟨m,l,j,f⟩:=h.sl y o;exact⟨m.off k U0,l,Wk j k.size,f⟩
theorem Er(h:DD w d s xs F)(a9:aA.dB s.es)(name:U4)(fr til:U9):
  Vk prog 235 #[.pointer (Ve ⟨d,0,Vd⟩),.string name,.int .i64 fr,.int .i64 til] w fun e w'=>∃ v,e=.returned v/\po w v (aA.kT name fr til s.es) w':=by
 obtain⟨i0,bm,bf,bc,ba⟩:=info_parts wO;have H:=aC h;have ca:=h.len;have cn:=h.el;clear h
 go_in
 go_wp2_with fail
 go_loopw [9,10,11,12] (fun v i _ _ wx=>∃ k:U8,k<=xs.length/\i=.int .i64 k/\∃ ys,nK w wx v ys/\ys.length<=k/\(∀ y∈ys,EB y.1)/\ys.map (·.1)=((xs.take k).map (·.1)).filter (ki name fr til)) (fun _ i _ _ _=>xs.length-(intOf i).toNat)
 case atStart=>exact⟨0,Wh _,rfl,[],⟨WK _ _ _ _,by simp,Below.refl _ _⟩,by simp,by simp,by simp⟩
 case round =>
  obtain⟨k,hk,rfl,ys,hR,ch,ab,S⟩:=hrel;have hD:=H.out.later hR.bw;obtain⟨a,cap,E,hr⟩:=hD.er;have cc:=hr.c;have HR:=aC (zA hR (zA S ab))
  by_cases ac:k<xs.length
  ·obtain rfl:=hr.a k ac;have f:=hr.r k ac;have c0:=f.c0;have c1:=f.c1;have c2:=f.c2;have c3:=f.c3;have c4:=f.c4;have c5:=f.c5;have I:(k:U9)<(xs.length:U9):=UU
   have ae:=H.out.en xs[k].1 (H.out.es ▸ Wm.2 ⟨_,ZC ac,rfl⟩);have hX:Vj wr.heap.size wr (wr.alloc (nG xs[k])):=(zr _ _).alloc (zq _) _;have hE:(wr.alloc (nG xs[k])).heap[wr.heap.size]?=Ve (nG xs[k]):=cC _ _
   have ht:(xs.take (k+1)).map (·.1)=(xs.take k).map (·.1)++[xs[k].1]:=by rw[Wg ac,Wr];rfl
   have HT:=aC ht;have RX:=aC (zA (hR.later hX) (zA (f.sl.later hX) (zA ae hX)));have az:0<xs[k].1.aK.length/\xs[k].1.aK.length<=1000:=⟨ZA.2 ae.s0,by have:=ae.sl;omega⟩;have FA:=aC (Aq xs[k] fr til _ RX.out.2.1 UU)
   have ax:ki name fr til xs[k].1=Vf->ys.map (·.1)=((xs.take (k+1)).map (·.1)).filter (ki name fr til):=fun h=>by rw[ht,VP,S];simp[h]
   have ST:=aC ax
   go_upto_region 6 with fail
   change Za _ _ _ _ (wr.alloc (nG xs[k]));have f0:=rQ hE;have f1:=tc hE;have f2:=rR hE;have f3:=rS hE;have f4:=rT hE;have f5:=td hE;have hN:wr.heap.size<(wr.alloc (nG xs[k])).heap.size:=UV
   clear hR S ab hD hr f ht ae hX c0 c1 c2 c3 c4 c5 cc ax;generalize wr.alloc (nG xs[k])=X at *
   go_wp2_with fail
   refine FA.out.mono ?_;rintro e w4 ⟨rfl,A⟩;have bb:=(A.block wr.heap.size hN).trans hE;have R4:=aC (zA (RX.out.1.later A) (RX.out.2.1.later A));have f0:=rQ bb;have f1:=tc bb;have f2:=rR bb;have f3:=rS bb;have f4:=rT bb;have f5:=td bb;have af:Hid (ki name fr til xs[k].1=((xs[k].1.aT.toList==name.toList) && (xs[k].1.kind != 3) && decide (0<=fp fr til xs[k].1.aK))):=rfl;generalize fp fr til xs[k].1.aK=ff at *;clear A FA hE
   have a6:ki name fr til xs[k].1=Vf->∃ aa:U8,aa<=xs.length/\(V4 .i64 ((k:U9)+1))=.int .i64 aa/\∃ ys,nK w w4 u9 ys/\ys.length<=aa/\(∀ y∈ys,EB y.1)/\ys.map (·.1)=((xs.take aa).map (·.1)).filter (ki name fr til) :=
    fun h=>⟨k+1,by omega,rfl,ys,R4.out.1,by omega,HR.out.2.2,ST.out h⟩
   have NO:=aC a6;clear a6
   cases q1:(xs[k].1.aT.toList==name.toList)
   ·have N1:=aC (NO.out (by rw[af.out,q1];rfl))
    go_wp2
    go_roundw
    case rel=>exact N1.out
    case measure=>simp[intOf];omega
   ·cases q2:(xs[k].1.kind != 3)
    ·have N1:=aC (NO.out (by rw[af.out,q2];simp))
     go_wp2
     go_roundw
     case rel=>exact N1.out
     case measure=>simp[intOf];omega
    ·by_cases q3:0<=ff
     ·have S1:Hid (ki name fr til xs[k].1=Vg):=by show _=_;rw[af.out,q1,q2];simpa using q3
      have CP:=aC (MF xs[k] w4 R4.out.2 az.1 az.2)
      go_wp2_with fail
      refine CP.out.mono ?_;rintro e w5 ⟨gq,cq,rfl,a1,a2,a3,M⟩;simp only[dN];have R5:=aC (R4.out.1.later M);have a7:u9.ownBlock≠Ve gq:=fun e=>by have:=eV R4.out.1.own e;omega
      have Q5:=aC (zA a1 (zA (Vq R4.out.1.bw.size a2) (zA a3 a7)));have bs:=R5.out.bw.size;clear M a1 a2 a3 a7 f0 f1 f2 f3 f4 f5 CP q1 q2 bb
      go_wp2_with (first|(at_builtin;refine KW rfl _ _ rfl R5.out.own (xs[k].1,gq,cq) rfl rfl UU bs ?_;intro g6 c6 w6 a5 k6 ak))
      have R6:=aC (R5.out.snoc Q5.out a5 k6 ak);clear a5 k6 ak;go_roundw
      case rel =>
       refine⟨k+1,by omega,by go_num,_,R6.out,by simp;omega,fun y hy=>?_,by rw[Wr,HR.out.2.1,HT.out,VP];simp[S1.out]⟩;rcases VB.1 hy with hy|hy
       ·exact HR.out.2.2 y hy
       ·have:y=(xs[k].1,gq,cq):=by simpa using hy
        subst this;exact RX.out.2.2.1
      case measure=>simp[intOf];omega
     ·have N1:=aC (NO.out (by rw[af.out];simp;omega))
      go_wp2
      go_roundw
      case rel=>exact N1.out
      case measure=>simp[intOf];omega
  ·have e:xs.take k=xs:=List.take_of_length_le UU;have I:¬ (k:U9)<(xs.length:U9):=UU
   have bo:ys.map (·.1)=s.es.filter (ki name fr til):=by rw[S,e,H.out.es]
   have cg:ys.length<=60:=UU
   obtain⟨ay,cy,rfl⟩:=gC hR.own;have u:=aC (zA hR (zA bo ab));clear hR S ab hD hr e HR
   by_cases N:ys.length=0
   ·have h0:ys=[]:=List.length_eq_zero_iff.1 N
    have HF:Hid (po w aR (aA.kT name fr til s.es) wr):=by
     refine⟨[],[],?_,fun w2 _=>EV.nil w2,by simp,u.out.1.bw⟩;have:=u.out.2.1;rw[h0] at this;unfold aA.kT;rw[<- this];rfl
    have bg:((ys.length:U9)==0)=Vg:=by simp[N]
    go_wp2
    go_ret;exact⟨_,rfl,HF.out⟩
   ·have bg:((ys.length:U9)==0)=Vf:=by simp[N]
    have a8:0<ys.length:=UU
    have ao:=run_make (P:=prog) wr 34 58 i0 _ underlying34 bm bf .i64 .i64 ys.length ys.length UU (Xy _) (by rw[ba];omega) UU;simp only[Int.toNat_natCast] at ao;obtain⟨G,Y⟩:∃ G,G=madeCells (Value.agg #[.int .i64 0,.int .i64 0,.string ⟨#[]⟩,.int .i64 0,.slice Vd 0 0,.int .i64 0]).cells (ys.length*i0.size):=⟨_,rfl⟩;rw[<- Y] at ao;have bq:G.size=ys.length*6:=by rw[Y,size_madeCells,bc]
    clear Y;obtain⟨a',cf,gl,he,_,ha,_⟩:=wR u.out.1.own (fun y hy=>(u.out.1.sl y hy).1);simp only[Yr,true_and] at he;obtain⟨rfl,rfl⟩:=he;obtain rfl:=ha (by intro e;simp[e] at a8)
    have ag:Hid (∀ wx,aF [wr.heap.size] wr wx->∀ (i:U8) (I:i<ys.length),RE wx gl i ys[i].1 ys[i].2.1 ys[i].2.2):=fun wx k=>by
     have R:=u.out.1.off k (zq _);obtain⟨a2,c2,g2,he,_,bu,bh⟩:=wR R.own (fun y hy=>(R.sl y hy).1);have:=bu (by intro e;simp[e] at a8);simp only[Yr,this,Z6,Z7] at he;obtain⟨⟨rfl,_⟩,_⟩:=he;exact bh
    obtain⟨fs,aq⟩:∃ fs,fs=aA.nL fr til (ys.map (·.1)):=⟨_,rfl⟩
    have FS:Hid (fs.length=ys.length/\∀ (i:U8) (I:i<ys.length),fs.getD i 0=fp fr til ys[i].1.aK):=by
     rw[aq];refine⟨by simp[aA.nL],fun i I=>?_⟩;rw[aA.At (by simpa using I)];simp
    have b8:=aC aq;have YE:Hid (∀ (i:U8) (I:i<ys.length),ys[i].1.aK.length<=1000):=fun i I=>by have:=(u.out.2.2 ys[i] (zg I)).sl;omega
    clear aq ha
    go_upto_region 12 with fail
    have hO:=cC wr (.cells G 58);have kO:aF [wr.heap.size] wr (wr.alloc (.cells G 58)):=(aF.refl _ _).alloc _;have OO:=aC (zA kO hO);clear ao kO hO cc;generalize wr.alloc (.cells G 58)=Wo at *;have bn:gl<wr.heap.size:=eV u.out.1.own rfl;obtain⟨O,au⟩:∃ O,O=wr.heap.size:=⟨_,rfl⟩;rw[<- au] at OO ag bn ⊢;have av:=aC au;clear au;obtain⟨W1,bv⟩:∃ W1,W1=wr:=⟨_,rfl⟩;subst bv
    go_wp2_with fail
    go_loopw [14,15,16,17,18] (fun i _ _ _ _ wx=>∃ j:U8,j<=ys.length/\i=.int .i64 j/\∃ cs,aF [O] W1 wx/\wx.heap[O]?=Ve (.cells cs 58)/\cs.size=ys.length*6/\∀ (j':U8) (_:j'<j) (hl:j'<ys.length) (c:U8),c<6->cs[cH.kg fs j'*6+c]?=(dN ys[j'])[c]?) (fun i _ _ _ _ _=>ys.length-(intOf i).toNat)
    case atStart=>exact⟨0,Wh _,rfl,G,OO.out.1,OO.out.2,bq,fun j' h=>by omega⟩
    case round =>
     obtain⟨j,hj,rfl,cs,m,o,U,x⟩:=hrel;have HC:=aC (zA m (zA o (zA U x)))
     by_cases J:j<ys.length
     ·have f:=ag.out _ m j J;have c0:=f.c0;have c1:=f.c1;have c2:=f.c2;have c3:=f.c3;have c4:=f.c4;have c5:=f.c5;have bj:(j:U9)<(ys.length:U9):=UU
      have FA:=aC (Aq ys[j] fr til _ f.sl (by have:=YE.out j J;omega));have FJ:=FS.out.2 j J;rw[<- FJ] at FA;clear m o U x f FJ
      go_wp2_with fail
      refine FA.out.mono ?_;rintro e w4 ⟨rfl,A⟩;have H4:Hid (aF [O] W1 w4/\w4.heap[O]?=Ve (.cells cs 58)):=⟨HC.out.1.trans (aF.aD A),(A.block _ (Y9.1 HC.out.2.1).1).trans HC.out.2.1⟩;obtain⟨fj,ar⟩:∃ fj,fj=fs.getD j 0:=⟨_,rfl⟩;rw[<- ar];have b9:=aC ar;clear A FA c0 c1 c2 c3 c4 c5 ar
      go_wp2_with fail
      go_loopw [15,17,18] (fun at_ i _ wx=>∃ q:U8,q<=ys.length/\i=.int .i64 q/\at_=.int .i64 (cH.upto fs j q:U8)/\aF [O] W1 wx/\wx.heap[O]?=Ve (.cells cs 58)) (fun _ i _ _=>ys.length-(intOf i).toNat)
      case atStart=>exact⟨0,Wh _,rfl,rfl,H4.out⟩
      case round =>
       obtain⟨q,hq,rfl,rfl,m,o⟩:=hrel;have cj:=cH.zY fs j q
       by_cases an:q<ys.length
       ·have f:=ag.out _ m q an;have c0:=f.c0;have c1:=f.c1;have c2:=f.c2;have c3:=f.c3;have c4:=f.c4;have c5:=f.c5;have bi:(q:U9)<(ys.length:U9):=UU
        have FA:=aC (Aq ys[q] fr til _ f.sl (by have:=YE.out q an;omega));have FJ:=FS.out.2 q an;rw[<- FJ] at FA;have UP:Hid (cH.upto fs j (q+1)=cH.upto fs j q+if cH.before fs q j then 1 else 0):=cH.uY fs j q;have BF:Hid (cH.before fs q j=(decide (fs.getD q 0<fj) || (decide (fs.getD q 0=fj) && decide (q<j)))):=by show _=_;rw[b9.out];rfl
        have HO:=aC (zA m o);clear m o f FJ
        go_wp2_with fail
        refine FA.out.mono ?_;rintro e w5 ⟨rfl,M⟩;have H5:Hid (aF [O] W1 w5/\w5.heap[O]?=Ve (.cells cs 58)):=⟨HO.out.1.trans (aF.aD M),(M.block _ (Y9.1 HO.out.2).1).trans HO.out.2⟩;generalize fs.getD q 0=fq at *;generalize cH.upto fs j q=uq at *;clear M FA c0 c1 c2 c3 c4 c5;have ai:cH.before fs q j=Vg->∃ C:U8,C<=ys.length/\(V4 .i64 ((q:U9)+1))=.int .i64 C/\(V4 .i64 ((uq:U9)+1))=.int .i64 (cH.upto fs j C:U8)/\aF [O] W1 w5/\w5.heap[O]?=Ve (.cells cs 58):=fun h=>⟨q+1,by omega,rfl,by rw[UP.out,h];rfl,H5.out⟩
        have aj:cH.before fs q j=Vf->∃ C:U8,C<=ys.length/\(V4 .i64 ((q:U9)+1))=.int .i64 C/\(V4 .i64 (uq:U9))=.int .i64 (cH.upto fs j C:U8)/\aF [O] W1 w5/\w5.heap[O]?=Ve (.cells cs 58):=fun h=>⟨q+1,by omega,rfl,by rw[UP.out,h];rfl,H5.out⟩
        have HY:=aC ai;have HN:=aC aj;clear ai aj
        by_cases a1:fq<fj
        ·have Y1:=aC (HY.out (by rw[BF.out];simp[a1]))
         go_wp2
         go_roundw
         case rel=>exact Y1.out
         case measure=>simp[intOf];omega
        ·by_cases a2:fq=fj
         ·have b6:(fq==fj)=Vg:=by simpa using a2
          by_cases a3:q<j
          ·have Y1:=aC (HY.out (by rw[BF.out];simp[a2,a3]));have b4:(q:U9)<(j:U9):=UU
           clear a2
           go_wp2
           go_roundw
           case rel=>exact Y1.out
           case measure=>simp[intOf];omega
          ·have Y1:=aC (HN.out (by rw[BF.out];simp[a1,a3]));have b4:¬ (q:U9)<(j:U9):=UU
           clear a2
           go_wp2
           go_roundw
           case rel=>exact Y1.out
           case measure=>simp[intOf];omega
         ·have b6:(fq==fj)=Vf:=by simpa using a2
          have Y1:=aC (HN.out (by rw[BF.out];simp[a1,a2]));clear a2
          go_wp2
          go_roundw
          case rel=>exact Y1.out
          case measure=>simp[intOf];omega
       ·have e:cH.upto fs j q=cH.kg fs j:=by unfold cH.kg;rw[FS.out.1,show q=ys.length by omega]
        have bi:¬ (q:U9)<(ys.length:U9):=UU
        have a4:=cH.zX fs (i:=j) (by rw[FS.out.1];exact J);rw[FS.out.1] at a4;rw[e];have f:=ag.out _ m j J;have c0:=f.c0;have c1:=f.c1;have c2:=f.c2;have c3:=f.c3;have c4:=f.c4;have c5:=f.c5;have U:=HC.out.2.2.1;have cm:(j:U9)<(ys.length:U9):=UU
        obtain⟨p,hp⟩:∃ p,p=cH.kg fs j:=⟨_,rfl⟩;rw[<- hp] at a4 ⊢;have HP:=aC hp;have ck:(p:U9)<(ys.length:U9):=UU
        have oc:∀ c,c<6->∃ v,wr.cell? ⟨O,p*6+c,Vd⟩=Ve v:=fun c hc=>by
         have h9:p*6+c<cs.size:=UU
         exact⟨cs[p*6+c],by simp[VL,o,h9]⟩
        obtain⟨v0,o0⟩:=oc 0 UU;obtain⟨v1,o1⟩:=oc 1 UU;obtain⟨v2,o2⟩:=oc 2 UU;obtain⟨v3,o3⟩:=oc 3 UU;obtain⟨v4,o4⟩:=oc 4 UU;obtain⟨v5,o5⟩:=oc 5 UU;rw[Nat.add_zero] at o0;have of:=uI o;have cd:gl≠O:=by have:=av.out;omega
        have HO:=aC (zA m o);clear m o f hp oc e U
        go_wp2
        go_roundw
        case rel =>
         refine⟨j+1,by omega,by go_num,pe cs p (.int .i64 ys[j].1.id) (.int .i64 ys[j].1.kind) (.string ys[j].1.aT) (.int .i64 ys[j].1.aH) (.slice (Ve ⟨ys[j].2.1,0,Vd⟩) ys[j].1.aK.length ys[j].2.2) (.int .i64 ys[j].1.bY),((((((HO.out.1.setCell (.inl UV) _ _).setCell (.inl UV) _ _).setCell (.inl UV) _ _).setCell (.inl UV) _ _).setCell (.inl UV) _ _).setCell (.inl UV) _ _),Mo HO.out.2 p _ _ _ _ _ _,by rw[Mp];exact HC.out.2.2.1,fun j' h1 h2 c h3=>?_⟩;rw[LG _ _ _ _ _ _ _ _ (by have:=HC.out.2.2.1;omega) _ _ h3]
         by_cases e1:j'=j
         ·subst e1;rw[HP.out,Vb rfl];rfl
         ·rw[Va,HC.out.2.2.2 j' UU h2 c h3];intro e2;rw[HP.out] at e2;exact e1 (cH.Ag (fs:=fs) (by rw[FS.out.1];exact h2) (by rw[FS.out.1];exact J) e2)
        case measure=>simp[intOf];omega
     ·have bj:¬ (j:U9)<(ys.length:U9):=UU
      have HF:Hid (po w (.slice (Ve ⟨O,0,Vd⟩) ys.length ys.length) (aA.kT name fr til s.es) wr):=by
       obtain⟨zs,aw,al⟩:=Mq fs ys FS.out.1;have R:=u.out.1.off m (by rw[av.out];exact zq _)
       have V:∀ z∈zs,z∈ys:=fun z N=>by
        obtain⟨p,hp,rfl⟩:=List.getElem_of_mem N;obtain⟨i,I,e⟩:=cH.wW fs (k:=p) (by rw[FS.out.1];omega);have:=al i (by rw[<- FS.out.1];exact I);rw[e,Xb hp,Z6] at this;rw[this];exact zg _
       have bz:O<wr.heap.size:=(Y9.1 o).1;have T:=Lk (w:=w) (w':=wr) (g:=O) (cap:=ys.length) (a:=Ve ⟨O,0,Vd⟩) (zs:=zs) (fun _=>rfl) (fun p hp=>?_) (fun _=>⟨by have:=u.out.1.bw.size;have:=av.out;omega,bz⟩) (fun z N=>⟨(R.sl z (V z N)).2.1,(R.sl z (V z N)).2.2.1⟩) R.bw
       ·rw[aw] at T;have e1:=aA.Hm (name:=name) (a:=fr) (b:=til) (es:=s.es) (out:=zs.map (·.1)) a9
        obtain⟨p1,p2⟩:=aA.Mx (a:=fr) (b:=til) (l:=ys.map (·.1)) (out:=zs.map (·.1)) (by rw[u.out.2.1];exact aA.ym _ a9) (by simp[aw]) (fun i I=>by
         have ad:i<ys.length:=by simpa using I
         rw[<- b8.out,Ys,al i ad];simp)
        rw[e1 p1 (fun e=>by rw[p2 e,u.out.2.1])] at T;exact T
       ·obtain⟨i,I,e⟩:=cH.wW fs (k:=p) (by rw[FS.out.1];omega);have ad:i<ys.length:=by rw[<- FS.out.1];exact I
        have N:=al i ad;rw[e,Xb hp,Z6] at N
        have cl:∀ c,c<6->wr.cell? ⟨O,p*6+c,Vd⟩=(dN zs[p])[c]?:=fun c hc=>by
         have:=x i UU ad c hc;rw[e] at this;rw[N,<- this];simp[VL,o]
        exact⟨cl 0 UU,cl 1 UU,cl 2 UU,cl 3 UU,cl 4 UU,cl 5 UU,(R.sl zs[p] (V _ (zg hp))).1⟩
      clear m o U x
      go_wp2
      go_ret;exact⟨_,rfl,HF.out⟩
theorem DD.lK(h:DD w d s xs F)(q:Vj w.heap.size w X)(T:po X v es Z)(I:w.heap.size<=Q)(C:Q<X.heap.size)(a b c e f g i:Vi):dK w d F xs (s,{ bO.num 0 with entries:=es }) (.returned (bC 0 0 0 v aR aR aR)) (cK Z Q a b c e f g i):=by
 obtain⟨l,G,A,E,p,z⟩:=T;have m:=lF Z Q a b c e f g i;have kw:Vj w.heap.size w Z:=bA q z (zq _);have u:∀ x,x<w.heap.size->x ∉ [Q]:=fun x j e=>by simp at e;omega
 have o:∀ x∈G,x ∉ [Q]:=fun x j e=>by have:=(p x j).1;simp at e;omega
 refine⟨v,aR,aR,aR,xs,F,G,rfl,fun w2 y=>⟨⟨l,E w2 (fun x j=>(y x j).trans (m.block x (p x j).2 (o x j))),A⟩,NV.nil _,NV.nil _⟩,WK _ _ _ _,(h.later kw).off m (fun x j=>u x (h.lt x j)) (fun x j=>u _ (h.rd.sp x j).2.2),fun _ j=>.inl j,(aF.aD kw).trans' m (fun x j=>.inr (by simp at j;omega)),fun x j=>?_,fun x j=>by simp[WI] at j,fun x j=>.inl ⟨x,j,rfl⟩⟩;have H:=p x j;have y:=q.size;exact⟨by omega,Wk H.2 m.size,fun e=>by have:=h.lt x e;omega,by simp[WI]⟩
theorem po.bw(h:po w v es w'):Vj w.heap.size w w':=by obtain⟨_,_,_,_,_,k⟩:=h;exact k
theorem po.form(h:po w v es w'):∃ a cap,v=.slice a es.length cap:=by
 obtain⟨l,G,b,f,_⟩:=h;obtain⟨a,c,e⟩:=(f w' (fun _ _=>rfl)).form;exact⟨a,c,by rw[<- b,WL];exact e⟩
def zi(b:Bool)(name:U4)(fr til:U9):aA.fJ:=if b then .list name fr til else .cY name fr til
def Kz(w:Vh)(g n:U8)(b:Bool)(fr til:U9):Prop:=(n=2/\b=Vg/\fr=0/\til=1048320)\/(3<n/\∃ t u:U4,t.size<=160/\u.size<=160/\w.cell? ⟨g,2,Vd⟩=Ve (.string t)/\w.cell? ⟨g,3,Vd⟩=Ve (.string u)/\cZ t=fr/\cZ u=til)
theorem Am(h:DD w d s xs F)(P:aA.dB s.es){b:Bool}{name:U4}{fr til:U9}(hb:(kw.toList==[108,105,115,116])=b)(hn:1<n)(ht:Kz w g n b fr til)(h0:w.cell? ⟨g,0,Vd⟩=Ve (.string kw))(h1:w.cell? ⟨g,1,Vd⟩=Ve (.string name)):
  Vk prog 177 #[.pointer (Ve ⟨d,0,Vd⟩),.slice (Ve ⟨g,0,Vd⟩) n c] w (dK w d F xs (aU s (zi b name fr til))):=by
 have a:=aC ((KP.nil w).alloc aX);have H:=aC h;have i0:(0:U9)<(n:U9):=UU
 have i1:(1:U9)<(n:U9):=UU
 have y0:=aN a.out.bl h0;have y1:=aN a.out.bl h1;have G:w.heap.size<(w.alloc aX).heap.size:=UV
 have M:Hid (aU s (zi b name fr til)=if aA.bJ name s.ts=0 then (s,.error 3) else if til<=fr then (s,.error 6) else if b then (s,{ bO.num 0 with entries:=aA.kT name fr til s.es }) else (s,.num (aA.lH name s.es fr til))):=by
  show _=_
  cases b <;> rfl
 clear h
 go_in
 go_upto_region 1 with fail
 change Za _ _ _ _ (w.alloc aX);generalize w.alloc aX=X at *;generalize aU s (zi b name fr til)=D at *;rcases ht with ⟨rfl,rfl,rfl,rfl⟩|⟨h3,t,u,zt,zu,ct,cu,rfl,rfl⟩
 ·have N:=aC (H.out.later a.out.bl);have UN:=aC (N.out.aH name);have LS:=aC (Er N.out P name 0 1048320);have J:=aC (Q7.of (a.out.kb (w.heap.size,aX) UV));generalize aA.bJ name s.ts=un at *
  go_wp2_with fail
  refine UN.out.mono ?_;rintro e w3 ⟨rfl,rfl⟩
  by_cases f:un=0
  ·have A:Hid (dK w d F xs D (.returned (bC 3 0 0 aR aR aR aR)) (cK w3 w.heap.size (.int .i64 3) (.int .i64 0) (.int .i64 0) aR aR aR aR)):=by
    show dK w d F xs _ _ _;rw[M.out,Vb f];exact H.out.said a.out.bl (zq _) 3 0 _ _ _ _ _ _ _
   have I:(un==0)=Vg:=by simpa using f
   obtain⟨y,x,p,o,m,l,j,z⟩:=J.out;clear f
   go_wp2_with fail
   exact cO results177 ⟨y,x,p,o,m,l,j,z⟩ A.out
  ·have I:(un==0)=Vf:=by simpa using f
   have U:Hid (D=(s,{ bO.num 0 with entries:=aA.kT name 0 1048320 s.es })):=by show _=_;rw[M.out,Va f];rfl
   clear f
   go_wp2_with fail
   refine LS.out.mono ?_;rintro e w4 ⟨v,rfl,C⟩;obtain⟨al,cl,V⟩:=C.form
   have A:Hid (dK w d F xs D (.returned (bC 0 0 0 v aR aR aR)) (cK w4 w.heap.size (.int .i64 0) (.int .i64 0) (.int .i64 0) v aR aR aR)):=by
    show dK w d F xs _ _ _;rw[U.out];exact H.out.lK a.out.bl C (zq _) G _ _ _ _ _ _ _
   obtain⟨y,x,p,o,m,l,j,z⟩:=J.out.later (C.bw.block _ G);clear C;subst V
   go_wp2_with fail
   exact cO results177 ⟨y,x,p,o,m,l,j,z⟩ A.out
 ·have i2:(2:U9)<(n:U9):=UU
  have i3:(3:U9)<(n:U9):=UU
  have c2:=aN a.out.bl ct;have T1:=aC (fun wx=>qv t wx zt);have T2:=aC (fun wx=>qv u wx zu);generalize cZ t=fr at *;generalize cZ u=til at *
  go_wp2_with fail
  refine (T1.out _).mono ?_;rintro e w1 ⟨rfl,T⟩;replace a:=aC (a.out.later T);have c3:=aN a.out.bl cu;clear T y0 y1 c2 G
  go_wp2_with fail
  refine (T2.out _).mono ?_;rintro e w2 ⟨rfl,S⟩;replace a:=aC (a.out.later S);have y0:=aN a.out.bl h0;have y1:=aN a.out.bl h1;have G:w.heap.size<w2.heap.size:=a.out.lt (q:=(w.heap.size,aX)) UV;clear S c3 T1 T2 X;have N:=aC (H.out.later a.out.bl);have UN:=aC (N.out.aH name);have LS:=aC (Er N.out P name fr til);have PK:=aC (N.out.cY name fr til);have J:=aC (Q7.of (a.out.kb (w.heap.size,aX) UV));generalize aA.bJ name s.ts=un at *;generalize aA.lH name s.es fr til=pk at *
  go_wp2_with fail
  refine UN.out.mono ?_;rintro e w3 ⟨rfl,rfl⟩
  by_cases f:un=0
  ·have A:Hid (dK w d F xs D (.returned (bC 3 0 0 aR aR aR aR)) (cK w3 w.heap.size (.int .i64 3) (.int .i64 0) (.int .i64 0) aR aR aR aR)):=by
    show dK w d F xs _ _ _;rw[M.out,Vb f];exact H.out.said a.out.bl (zq _) 3 0 _ _ _ _ _ _ _
   have I:(un==0)=Vg:=by simpa using f
   obtain⟨y,x,p,o,m,l,j,z⟩:=J.out;clear f
   go_wp2_with fail
   exact cO results177 ⟨y,x,p,o,m,l,j,z⟩ A.out
  ·have I:(un==0)=Vf:=by simpa using f
   by_cases Y:til<=fr
   ·have A:Hid (dK w d F xs D (.returned (bC 6 0 0 aR aR aR aR)) (cK w3 w.heap.size (.int .i64 6) (.int .i64 0) (.int .i64 0) aR aR aR aR)):=by
     show dK w d F xs _ _ _;rw[M.out,Va f,Vb Y];exact H.out.said a.out.bl (zq _) 6 0 _ _ _ _ _ _ _
    obtain⟨y,x,p,o,m,l,j,z⟩:=J.out;clear f
    go_wp2_with fail
    exact cO results177 ⟨y,x,p,o,m,l,j,z⟩ A.out
   ·cases b
    ·have U:Hid (D=(s,.num pk)):=by show _=_;rw[M.out,Va f,Va Y];rfl
     clear f
     go_wp2_with fail
     refine PK.out.mono ?_;rintro e w4 ⟨rfl,E⟩;have B4:=aC (bA a.out.bl E (zq _))
     have A:Hid (dK w d F xs D (.returned (bC 0 0 pk aR aR aR aR)) (cK w4 w.heap.size (.int .i64 0) (.int .i64 0) (.int .i64 pk) aR aR aR aR)):=by
      show dK w d F xs _ _ _;rw[U.out];exact H.out.said B4.out (zq _) 0 pk _ _ _ _ _ _ _
     obtain⟨y,x,p,o,m,l,j,z⟩:=J.out.later (E.block _ G);clear E
     go_wp2_with fail
     exact cO results177 ⟨y,x,p,o,m,l,j,z⟩ A.out
    ·have U:Hid (D=(s,{ bO.num 0 with entries:=aA.kT name fr til s.es })):=by show _=_;rw[M.out,Va f,Va Y];rfl
     clear f
     go_wp2_with fail
     refine LS.out.mono ?_;rintro e w4 ⟨v,rfl,C⟩;obtain⟨al,cl,V⟩:=C.form
     have A:Hid (dK w d F xs D (.returned (bC 0 0 0 v aR aR aR)) (cK w4 w.heap.size (.int .i64 0) (.int .i64 0) (.int .i64 0) v aR aR aR)):=by
      show dK w d F xs _ _ _;rw[U.out];exact H.out.lK a.out.bl C (zq _) G _ _ _ _ _ _ _
     obtain⟨y,x,p,o,m,l,j,z⟩:=J.out.later (C.bw.block _ G);clear C;subst V
     go_wp2_with fail
     exact cO results177 ⟨y,x,p,o,m,l,j,z⟩ A.out
open aA (aL St bO Inv aU ig)
def kD:U5 U4:=[ky,kr,ku,dY,kn,kl,kM,ic,iZ]
def qi(t:U4):Prop:=∃ k∈kD,bD (aB.aP t) 0 Vf k=Vg
def Dl(t:U4):(U9 × U9) ⊕ aA.fJ->Prop
 |.inl (er,at_)=>(160<t.size/\er=1/\at_=0)\/(t.size<=160/\∃ m:U8,jk t=(Vd,m)/\er=2/\at_=m)
 |.inr l=>t.size<=160/\∃ q,Full t q/\iD (aB.aP t) q l/\aA.jA l
def kI(s:St):(U9 × U9) ⊕ aA.fJ->St × bO
 |.inl (er,at_)=>(s,⟨er,at_,0,[],[],[],[]⟩)
 |.inr l=>ig s l
def wA:(U9 × U9) ⊕ aA.fJ->Prop
 |.inl _=>True
 |.inr l=>lM l=Vg
theorem Db{b:TypeId}{a:Array Vi}{l:aA.fJ}(ht:b=165\/b=180)(h:LV (.iface b (.agg a)) l):lM l=Vg:=by
 generalize f:Value.iface b (.agg a)=v at h;rcases ht with rfl|rfl <;> cases h <;> first|rfl|simp at f
theorem Ea(h:qi t):∃ v st,gK (aB.aP t) v st/\qm t st/\(st.2=Vf->cB (aB.aP t).length st.1 st.2=Vf->∃ q l,Full t q/\iD (aB.aP t) q l/\LV v l/\aA.jA l/\lM l=Vg):=by
 obtain⟨k,u,h⟩:=h
 have f:∀ {v st},gK (aB.aP t) v st->nE t v st->(∀ l,LV v l->lM l=Vg)->∃ v st,gK (aB.aP t) v st/\qm t st/\(st.2=Vf->cB (aB.aP t).length st.1 st.2=Vf->∃ q l,Full t q/\iD (aB.aP t) q l/\LV v l/\aA.jA l/\lM l=Vg):=fun {v st} E x C=>⟨v,st,E,x.1,fun a b=>by
  obtain⟨q,l,A,z,p,y⟩:=x.2 a b
  exact⟨q,l,A,z,p,y,C l p⟩⟩
 simp only[kD,VA,Z4,or_false] at u;rcases u with rfl|rfl|rfl|rfl|rfl|rfl|rfl|rfl|rfl
 ·exact f (.aT h) (Mv h) (fun l j=>by cases j;rfl)
 ·exact f (.book h) (Ly h) (fun l j=>by cases j;rfl)
 ·exact f (.cancel h) (MD h) (fun l j=>by cases j;rfl)
 ·cases o:cB (aB.aP t).length (aQ (aB.aP t) [bI] (1,Vf)).1 (aQ (aB.aP t) [bI] (1,Vf)).2
  ·exact f (.list0 h o) (L9 h o) (fun l j=>by cases j;rfl)
  ·exact f (.list1 h o) (Ma h o) (fun l j=>by cases j;rfl)
 ·exact f (.cY h) (LC h) (fun l j=>by cases j;rfl)
 ·exact f (.find h) (Lr h) (fun l j=>by cases j;rfl)
 ·exact f (.clock h) (L3 h) (fun l j=>by cases j;rfl)
 ·obtain⟨pc,ev,acc,fr,mn,mi,ti,un,st,m⟩:=Dp (aB.aP t) (aQ (aB.aP t) [bI,dE] (1,Vf));exact f (.series h pc ev acc fr mn mi ti un st m) (Kx h m) (fun l j=>Db (.inl rfl) j)
 ·obtain⟨pc,ev,acc,fr,mn,mi,ti,un,st,m⟩:=Dp (aB.aP t) (1,Vf);exact f (.expand h pc ev acc fr mn mi ti un st m) (Kw h m) (fun l j=>Db (.inr rfl) j)
theorem LY(h:qi t):∃ o,AJ t o/\Dl t o/\wA o:=by
 by_cases f:160<t.size
 ·exact⟨.inl (1,0),⟨by decide,.inl ⟨rfl,rfl⟩,fun e a=>B9 a (.long f)⟩,.inl ⟨f,rfl,rfl⟩,trivial⟩
 ·obtain⟨v,st,j,C,E⟩:=Ea h
  by_cases m:st.2=Vg\/cB (aB.aP t).length st.1 st.2=Vg
  ·exact⟨.inl (2,st.1),⟨by decide,.inr ⟨rfl,by omega⟩,fun e a=>B9 a (.bad UU v st j m)⟩,.inr ⟨by omega,st.1,C m,rfl,rfl⟩,trivial⟩
  ·have u:st.2=Vf:=by cases e:st.2 <;> simp_all
   have p:cB (aB.aP t).length st.1 st.2=Vf:=by cases e:cB (aB.aP t).length st.1 st.2 <;> simp_all
   obtain⟨q,l,A,z,y,b,x⟩:=E u p;exact⟨.inr l,⟨v,fun e a=>B9 a (.qn UU v st j u p),y,b⟩,⟨by omega,q,A,z,b⟩,x⟩
theorem Lp(t:U4):wF t:=fun X a=>SU t X a
theorem L5{o:Raw}(h:dS w d s o aM)(ht:gA w)(m:10<=w.heap.size){f:Vi}{l:aA.fJ}(p:LV f l)(j:aA.jA l)(q:lM l=Vg):
  Vk prog 64 #[.pointer (Ve ⟨d,0,Vd⟩),f] w fun e w'=>∃ v,e=.returned v/\dX w d aM (aA.aU s l) v w':=by
 cases p with
 |aT name hn u=>exact TO h name hn u
 |book name hn u fr til=>exact Tf h name hn u fr til j
 |cancel id=>exact TX h id j
 |list name hn wi fr til a b ha hb=>exact Ti h name hn wi fr til a b ha hb
 |cY name hn fr til=>exact Tj h name hn fr til j
 |find name hn u long fr til=>exact Th h name hn u long fr til j
 |clock=>exact TN h
 |series name hn u r=>exact T3 h ht m name hn u r j
 |expand r=>exact TY h ht m r j
 |_=>cases q
theorem KX{p:U8}(h:BD w p d s r aM)(u:wF t){o:(U9 × U9) ⊕ aA.fJ}(ht:AJ t o)(b:wA o):
  Vk prog 21 #[.pointer (Ve ⟨p,0,Vd⟩),.string t] w fun e w'=>∃ v,e=.returned v/\lT w p d aM (kI s o) v w':=by
 cases o with
 |inl q =>
  obtain⟨z,at_⟩:=q;exact Lx h t z at_ u ht.1 ht.2.2
 |inr l =>
  obtain⟨a,y,x,j⟩:=ht;exact L7 h t a l u y (aA.zH h.ds.inv j b) (aA.Kq h.ds.inv j b) (by rw[aA.Aa s b];simp) (fun _ ht m f=>L5 f ht m x j b)
theorem DQ(b:∀ (j:U8)(a:j<(aB.aP t).length),X.cell? ⟨g,j,Vd⟩=Ve (.string (aB.aP t)[j])){j:U8}(a:j<(aB.aP t).length):X.cell? ⟨g,j,Vd⟩=Ve (.string ((aB.aP t).getD j YN)):=by
 rw[b j a];simp[Ws,a]
theorem Full.head{k:U4}{R:U5 U4}(h:Full t (k :: R))(a:jD k=Vg):(aB.aP t).getD 0 YN=k :=
 KN (by rw[nF,<- gZ k a];exact uK (Q:=[]) h.all)
theorem KZ(s:St)(l:aA.fJ):(aU s l).2.at_=0:=by
 cases l <;> simp only[aU] <;> (repeat' split) <;> rfl
theorem Dz(h:Inv s):(s.es.length:U9)<=s.given:=by
 have b:(s.es.map fun e:aL=>e.id).Pairwise (· < ·):=h.ids
 have:=BI _ 1 s.given b (fun x a=>by
  obtain⟨e,f,rfl⟩:=Wm.1 a;have j:=h.mP e f
  omega)
 have:=h.g0;rw[WL] at *;omega
theorem Lo(h:DD w d s xs F)(u:Inv s)(P:t.size<=160){q:U5 U4}{l:aA.fJ}(A:Full t q)(S:iD (aB.aP t) q l)(C:aA.jA l)(U:lM l=Vg)(X:Vh)(g c:U8)(k:Vj w.heap.size w X)(I:∀ (j:U8)(x:j<(aB.aP t).length),X.cell? ⟨g,j,Vd⟩=Ve (.string (aB.aP t)[j])):
  Vk prog 117 #[.pointer (Ve ⟨d,0,Vd⟩),.slice (Ve ⟨g,0,Vd⟩) (aB.aP t).length c] X (dK X d F xs (aU s l)):=by
 have m:=A.len;have p:=h.later k
 have z:∀ j,((aB.aP t).getD j YN).size<=160:=fun j=>by
  by_cases x:j<(aB.aP t).length
  ·simp only[Ws,x,Xb,Option.getD_some];exact Vq (xG t _ (zg x)) P
  ·simp[Ws,x]
 have at_:∀ Y,Vj X.heap.size X Y->∀ j,j<(aB.aP t).length->Y.cell? ⟨g,j,Vd⟩=Ve (.string ((aB.aP t).getD j YN)):=fun Y a j x=>aN a (DQ I x)
 have a0:=fun (x:0<(aB.aP t).length)=>DQ I x
 have un:=fun name=>(aA.CI u.tu name).1
 cases S with
 |aT =>
  have o:=A.head UY;simp only[V6,Wa] at m;refine qw p (f:=172) UU (a0 UU) (by rw[o];simp[om,ky]) (fun Y a=>?_);exact M5 (p.later a) UU (z 2) (un _) (at_ Y a 1 UU) (at_ Y a 2 UU)
 |book =>
  have o:=A.head UY;simp only[V6,Wa] at m;obtain⟨_,u1,u2,M,J,H,G⟩:=C;refine qw p (f:=173) UU (a0 UU) (by rw[o];simp[om,kr]) (fun Y a=>?_);have T:Dm Y g (aB.aP t).length ((aB.aP t).getD 0 YN) 1 0:=⟨by rw[o];decide +kernel,by rw[o];decide +kernel,.inl ⟨rfl,rfl⟩,by omega⟩;exact MI (p.later a) ⟨u.g0,u.g1⟩ (Dz u) ⟨u.n0,u.n1⟩ T UU (z 2) (z 3) (z 4) ⟨u1,u2⟩ ⟨H,G⟩ (at_ Y a 0 UU) (at_ Y a 1 UU) (at_ Y a 2 UU) (at_ Y a 3 UU) (at_ Y a 4 UU)
 |cancel =>
  have o:=A.head UY;simp only[V6,Wa] at m;refine qw p (f:=175) UU (a0 UU) (by rw[o];simp[om,ku]) (fun Y a=>?_);exact LQ (p.later a) u.ids Vg (by rw[o];decide +kernel) (z 1) UU (at_ Y a 0 UU) (at_ Y a 1 UU)
 |list0 =>
  have o:=A.head UY;simp only[V6,Wa] at m;refine qw p (f:=177) UU (a0 UU) (by rw[o];simp[om,dY]) (fun Y a=>?_);exact Am (p.later a) u.ids (b:=Vg) (by rw[o];decide +kernel) UU (.inl ⟨by omega,rfl,rfl,rfl⟩) (at_ Y a 0 UU) (at_ Y a 1 UU)
 |list1 =>
  have o:=A.head UY;simp only[V6,Wa] at m;refine qw p (f:=177) UU (a0 UU) (by rw[o];simp[om,dY]) (fun Y a=>?_);exact Am (p.later a) u.ids (b:=Vg) (by rw[o];decide +kernel) UU (.inr ⟨by omega,_,_,z 2,z 3,at_ Y a 2 UU,at_ Y a 3 UU,rfl,rfl⟩) (at_ Y a 0 UU) (at_ Y a 1 UU)
 |cY =>
  have o:=A.head UY;simp only[V6,Wa] at m;refine qw p (f:=177) UU (a0 UU) (by rw[o];simp[om,kn]) (fun Y a=>?_);exact Am (p.later a) u.ids (b:=Vf) (by rw[o];decide +kernel) UU (.inr ⟨by omega,_,_,z 2,z 3,at_ Y a 2 UU,at_ Y a 3 UU,rfl,rfl⟩) (at_ Y a 0 UU) (at_ Y a 1 UU)
 |find =>
  have o:=A.head UY;simp only[V6,Wa] at m;obtain⟨u1,u2,V,N,M,J,H,G⟩:=C;refine qw p (f:=178) UU (a0 UU) (by rw[o];simp[om,kl]) (fun Y a=>?_);exact MJ (p.later a) UU (z 2) (z 3) (z 4) (z 5) ⟨by omega,u2⟩ ⟨by omega,N⟩ ⟨M,J⟩ (at_ Y a 1 UU) (at_ Y a 2 UU) (at_ Y a 3 UU) (at_ Y a 4 UU) (at_ Y a 5 UU)
 |clock =>
  have o:=A.head UY;simp only[V6,Wa] at m;exact M9 p UU (by rw[a0 UU,o];rfl)
 |series hr hn =>
  have y:=A;simp only[mz,VN] at y;have o:=y.head UY;obtain⟨u1,u2,E⟩:=C;refine qw p (f:=174) UU (a0 UU) (by rw[o];simp[om,ic]) (fun Y a=>?_);exact Lt (p.later a) ⟨u.g0,u.g1⟩ (Dz u) (ws:=fun j=>(aB.aP t).getD j YN) (fun j x=>at_ Y a j x) z hr UU ⟨u1,u2⟩ E
 |expand hr hn =>
  have y:=A;simp only[nC,VN,List.nil_append] at y;have o:=y.head UY;exact LZ p (ws:=fun j=>(aB.aP t).getD j YN) (fun j x=>at_ X (zr _ _) j x) z hr UU o C
 |_=>cases U
theorem LH(h:DD w d s xs F)(E:Inv s){o:(U9 × U9) ⊕ aA.fJ}(ht:Dl t o)(z:wA o):
  Vk prog 75 #[.pointer (Ve ⟨d,0,Vd⟩),.string t] w (oO w d F xs (kI s o)):=by
 cases o with
 |inl q =>
  obtain⟨M,at_⟩:=q;rcases ht with ⟨j,rfl,rfl⟩|⟨j,m,y,rfl,rfl⟩
  ·exact EA h t UW (fun X=>(Fg t X j).mono (by rintro e w1 ⟨rfl,rfl⟩;exact⟨rfl,Below.refl _ _⟩))
  ·exact EA h t UW (fun X=>(Av t X j).mono (by
    rintro e w1 ⟨C,H⟩;rcases C with ⟨p,a,b,c,d,g,h,f,_⟩|⟨J,f,rfl⟩
    ·rw[y] at f;cases f
    ·rw[y] at f;simp only[Prod.mk.injEq,true_and] at f;subst f
     exact⟨rfl,H⟩))
 |inr l =>
  obtain⟨j,q,x,A,I⟩:=ht;have u:0<(aB.aP t).length:=by rw[x.len];cases A <;> simp[mz,nC]
  exact MT h t j x.sc u (q:=aU s l) (KZ s l) (by rw[aA.Aa s z];simp) (fun X g c k G=>Lo h E j x A I z X g c k G)
open aA (aL bO)
structure qh(w:Vh)(p:bO)(v1 v2 v3 v4:Vi):Prop where
 en:∃ l,EV w v1 l/\l.map (·.1)=p.entries
 da:NV w v2 p.days
 gr:NV w v3 p.granted
 ed:NV w v4 p.ended
theorem qh.later{p:bO}{v1 v2 a v4:Vi}(h:qh w p v1 v2 a v4)(k:Vj w.heap.size w w'):qh w' p v1 v2 a v4:=by
 obtain⟨l,f,b⟩:=h.en;exact⟨⟨l,f.later k,b⟩,h.da.later k,h.gr.later k,h.ed.later k⟩
structure wE(p:bO):Prop where
 en:p.entries.length<=1000
 sp:∀ e∈p.entries,e.aK.length<=1000
 da:p.days.length<=1000000
 gr:p.granted.length<=1000000
 ed:p.ended.length<=1000000
 er:p.err≠0->p.entries=[]/\p.days=[]/\p.granted=[]/\p.ended=[]
def s9(p:bO)(v1 v2 b a:Vi):Obj:=.cells #[.int .i64 p.err,.int .i64 p.at_,.int .i64 p.n,v1,v2,b,a] 40 (0,0)
theorem Nu(w:Vh)(p:bO)(o:wE p)(u1 u2 u3 u4 v1 v2 N M:Vi)(a:qh w p u1 u2 u3 u4)(f:qh w p v1 v2 N M):
  Vk prog 76 #[bC p.err p.at_ p.n u1 u2 u3 u4,bC p.err p.at_ p.n v1 v2 N M] w fun e w'=>e=.returned (.bool Vg)/\Vj w.heap.size w w':=by
 have I:=aC (((KP.nil w).alloc (s9 p u1 u2 u3 u4)).alloc (s9 p v1 v2 N M));obtain⟨l,V,H⟩:=a.en;obtain⟨m,U,P⟩:=f.en;obtain⟨a1,c1,e1⟩:=V.form;obtain⟨a2,c2,e2⟩:=a.da.form;obtain⟨a3,c3,e3⟩:=a.gr.form;obtain⟨a4,c4,e4⟩:=a.ed.form;obtain⟨b1,d1,f1⟩:=U.form;obtain⟨b2,d2,f2⟩:=f.da.form;obtain⟨b3,d3,f3⟩:=f.gr.form;obtain⟨b4,Y,f4⟩:=f.ed.form;subst e1 e2 e3 e4 f1 f2 f3 f4;have A:l.length=p.entries.length:=by rw[<- H,WL]
 have S:m.length=p.entries.length:=by rw[<- P,WL]
 have E1:=aC (fun W (k:Vj w.heap.size w W)=>Nx l m _ _ W (V.later k) (U.later k) (by rw[H,P]) (by have:=o.en;omega) (fun q hq=>o.sp q.1 (H ▸ Wm.2 ⟨q,hq,rfl⟩)));have E2:=aC (fun W (k:Vj w.heap.size w W)=>Au p.days _ _ W (a.da.later k) (f.da.later k) o.da);have E3:=aC (fun W (k:Vj w.heap.size w W)=>Au p.granted _ _ W (a.gr.later k) (f.gr.later k) o.gr);have E4:=aC (fun W (k:Vj w.heap.size w W)=>Au p.ended _ _ W (a.ed.later k) (f.ed.later k) o.ed)
 have ER:Hid (p.err≠0->l.length=0/\p.days.length=0/\p.granted.length=0/\p.ended.length=0):=fun h=>by
  obtain⟨h1,h2,h3,h4⟩:=o.er h;rw[A,h1,h2,h3,h4];simp
 clear a f V U H P A S o;simp only[bC]
 go_in
 go_upto_region 1 with fail
 rw[World.size_alloc] at I;change Za _ _ _ _ ((w.alloc (s9 p (.slice a1 l.length c1) (.slice a2 p.days.length c2) (.slice a3 p.granted.length c3) (.slice a4 p.ended.length c4))).alloc (s9 p (.slice b1 m.length d1) (.slice b2 p.days.length d2) (.slice b3 p.granted.length d3) (.slice b4 p.ended.length Y)));generalize (w.alloc (s9 p (.slice a1 l.length c1) (.slice a2 p.days.length c2) (.slice a3 p.granted.length c3) (.slice a4 p.ended.length c4))).alloc (s9 p (.slice b1 m.length d1) (.slice b2 p.days.length d2) (.slice b3 p.granted.length d3) (.slice b4 p.ended.length Y))=X at *
 have z:Hid (∀ W,Vj X.heap.size X W->(W.cell? ⟨w.heap.size,3,Vd⟩=Ve (.slice a1 l.length c1)/\W.cell? ⟨w.heap.size,4,Vd⟩=Ve (.slice a2 p.days.length c2)/\W.cell? ⟨w.heap.size,5,Vd⟩=Ve (.slice a3 p.granted.length c3)/\W.cell? ⟨w.heap.size,6,Vd⟩=Ve (.slice a4 p.ended.length c4))/\(W.cell? ⟨w.heap.size+1,3,Vd⟩=Ve (.slice b1 m.length d1)/\W.cell? ⟨w.heap.size+1,4,Vd⟩=Ve (.slice b2 p.days.length d2)/\W.cell? ⟨w.heap.size+1,5,Vd⟩=Ve (.slice b3 p.granted.length d3)/\W.cell? ⟨w.heap.size+1,6,Vd⟩=Ve (.slice b4 p.ended.length Y))/\(W.cell? ⟨w.heap.size,0,Vd⟩=Ve (.int .i64 p.err)/\W.cell? ⟨w.heap.size,1,Vd⟩=Ve (.int .i64 p.at_)/\W.cell? ⟨w.heap.size,2,Vd⟩=Ve (.int .i64 p.n))/\W.cell? ⟨w.heap.size+1,0,Vd⟩=Ve (.int .i64 p.err)/\W.cell? ⟨w.heap.size+1,1,Vd⟩=Ve (.int .i64 p.at_)/\W.cell? ⟨w.heap.size+1,2,Vd⟩=Ve (.int .i64 p.n)):=fun W k=>by
  have j:=I.out.later k;have a:=(j.swap);exact⟨⟨a.hc 3 rfl,a.hc 4 rfl,a.hc 5 rfl,a.hc 6 rfl⟩,⟨j.hc 3 rfl,j.hc 4 rfl,j.hc 5 rfl,j.hc 6 rfl⟩,⟨a.hc 0 rfl,a.hc 1 rfl,a.hc 2 rfl⟩,j.hc 0 rfl,j.hc 1 rfl,j.hc 2 rfl⟩
 have BX:=aC I.out.bl;clear I;obtain⟨⟨x3,_,_,_⟩,⟨y3,_,_,_⟩,_⟩:=z.out X (zr _ _)
 go_wp2_with fail
 refine (E1.out _ BX.out).mono ?_;rintro e w1 ⟨rfl,b⟩;obtain⟨⟨_,x4,_,_⟩,⟨_,y4,_,_⟩,_⟩:=z.out w1 b;have J:=aC (zA (bA BX.out b (zq _)) b);clear b x3 y3
 go_wp2_with fail
 refine (E2.out _ J.out.1).mono ?_;rintro e w2 ⟨rfl,y⟩;have G:=aC (zA (bA J.out.1 y (zq _)) (bA J.out.2 y (zq _)));obtain⟨⟨_,_,x5,_⟩,⟨_,_,y5,_⟩,_⟩:=z.out w2 G.out.2;clear y x4 y4 J
 go_wp2_with fail
 refine (E3.out _ G.out.1).mono ?_;rintro e w3 ⟨rfl,x⟩;have E:=aC (zA (bA G.out.1 x (zq _)) (bA G.out.2 x (zq _)));obtain⟨⟨_,_,_,x6⟩,⟨_,_,_,y6⟩,_⟩:=z.out w3 E.out.2;clear x x5 y5 G
 go_wp2_with fail
 refine (E4.out _ E.out.1).mono ?_;rintro e w4 ⟨rfl,u⟩;have B4:=aC (bA E.out.1 u (zq _));clear x6 y6;obtain⟨⟨x3,x4,x5,x6⟩,_,⟨x0,x1,x2⟩,y0,y1,y2⟩:=z.out w4 (bA E.out.2 u (zq _));clear u E z E1 E2 E3 E4
 by_cases C:p.err=0
 ·have T:(p.err==0)=Vg:=by simp[C]
  clear C
  go_wp2_with fail
  all_goals
   go_ret;exact⟨by simp,B4.out⟩
 ·have T:(p.err==0)=Vf:=by simp[C]
  obtain⟨h1,h2,h3,h4⟩:=ER.out C;clear C
  go_wp2_with fail
  all_goals
   go_ret;exact⟨by simp,B4.out⟩
open aA (aL St bO Inv)
theorem Mk(c n:U9)(w:Vh)(q:-9223372036854775808<=c)(p:c<=9223372036854775807)(f:1<=n)(b:n<=1000000):
  Vk prog 74 #[.int .i64 c,.int .i64 n] w fun e w'=>e=.returned (.int .i64 (lD c n))/\w'=w:=by
 have m:(n==0)=Vf:=by simp;omega
 have o:=Js (c:=c) f
 by_cases h:c<0
 ·have l:Vp.wrap (c+1)=c+1:=wm UU UU;have j:Vp.wrap (-(c+1))=-(c+1):=wm UU UU;have e:(-(c+1)).tmod n=lD c n:=by unfold lD;rw[Vb h];exact Zi UU
  have a:Vp.wrap (lD c n)=lD c n:=cG UU UU;generalize lD c n=v at *
  go_in
  go_wp2
  go_ret
  simp_all
 ·have e:c.tmod n=lD c n:=by unfold lD;rw[Va h];exact Zi UU
  have a:Vp.wrap (lD c n)=lD c n:=cG UU UU;generalize lD c n=v at *
  go_in
  go_wp2
  go_ret
  simp_all
theorem LR(h:Inv s){o:(U9 × U9) ⊕ aA.fJ}(ht:AJ t o)(j:wA o):wE (kI s o).2/\(kI s o).2.entries.length<=60/\(kI s o).2.days.length<=900000/\(kI s o).2.granted.length<=900000/\(kI s o).2.ended.length<=900000:=by
 cases o with
 |inl q=>exact⟨⟨by simp[kI],by simp[kI],by simp[kI],by simp[kI],by simp[kI],fun _=>by simp[kI]⟩,by simp[kI]⟩
 |inr l =>
  obtain⟨b,_,_,f⟩:=ht;have k:=aA.La h f j;have:=k.en;have:=k.gr;have:=k.da;have m:(aA.ig s l).2.ended.length=0:=by rw[k.ed];rfl
  show wE (aA.ig s l).2/\(aA.ig s l).2.entries.length<=60/\(aA.ig s l).2.days.length<=900000/\(aA.ig s l).2.granted.length<=900000/\(aA.ig s l).2.ended.length<=900000;refine⟨⟨by omega,fun e a=>?_,by omega,by omega,by omega,fun a=>⟨(k.er a).1.1,(k.er a).1.2,(k.er a).2,k.ed⟩⟩,by omega,by omega,by omega,by omega⟩;have:=(h.en e (k.es e a)).sl;omega
theorem BD.more{p:U8}(h:BD w p d s r aM)(k:Vj w.heap.size w w'):BD w' p d s r aM :=
 h.off (G:=[]) (aF.aD k) UV (h.env.later k)
theorem lT.later{p:U8}{q:St × bO}(h:lT w p d aM q v w1)(k:Vj w1.heap.size w1 w'):lT w p d aM q v w':=by
 obtain⟨b,a,f,st,rp⟩:=h;exact⟨b,a,f.more k,st.trans (Step.below k),rp.later k⟩
theorem hU.bC{K N:U5 U8}{l:U5 (aL × Vi)}{p:bO}(h:hU w K N u1 u2 u3 u4 l p.days p.granted p.ended)(b:l.map (·.1)=p.entries):qh w p u1 u2 u3 u4 :=
 ⟨⟨l,EV.own h.en (fun p a=>SV.own (h.sp p a)),b⟩,NV.own h.da,NV.own h.gr,NV.own h.ed⟩
theorem K5(a:Array Vi)(w:Vh):(callFunc 77 a).run prog w=.ok (.enter 77 a) w:=UZ
section
variable {w0 w w1 w':Vh}{B n:U8}{tg:U8->Tg}{i:U8}{k:Dk}{D:U5 Dk}{K:U5 U8}{v0 v1 r1 r2 r3:Vi}{X1 X2 X3:U5 KL}
theorem LX.still(h:LX w0 w B n tg D K v0 v1 r1 r2 r3 X1 X2 X3)(l:D[i]?=Ve k){q:St × bO}(P:lT w k.p k.d k.aM q v w1){b:U8}(o:tg b≠.no)(j:tg b≠.pr i):w1.heap[b]?=w.heap[b]?:=by
 obtain⟨u,f,_,st,_⟩:=P;have a:=h.ds.lt b o;refine st.bV a ?_ a
 cases m:k.aM b with
 |none=>rfl
 |some c=>exact (j ((h.ds.at_ i k l).pc b c m)).elim
theorem LX.more{m:U8}(h:LX w0 w B n tg D K v0 v1 r1 r2 r3 X1 X2 X3)(k:n<=m):LX w0 w B m tg D K v0 v1 r1 r2 r3 X1 X2 X3 :=
 ⟨h.ds,h.bk,Vq h.len k,h.xo,h.yo,h.tb,h.tk,h.tx,h.ty,h.d3,h.bl,h.lo,h.oQ⟩
theorem r7{a at_ n:U9}(h:w.heap[Q]?=Ve (ir a at_ n u1 u2 u3 u4)):w.cell? ⟨Q,0,Vd⟩=Ve (.int .i64 a)/\w.cell? ⟨Q,1,Vd⟩=Ve (.int .i64 at_)/\w.cell? ⟨Q,2,Vd⟩=Ve (.int .i64 n)/\w.cell? ⟨Q,3,Vd⟩=Ve u1/\w.cell? ⟨Q,4,Vd⟩=Ve u2/\w.cell? ⟨Q,5,Vd⟩=Ve u3/\w.cell? ⟨Q,6,Vd⟩=Ve u4 :=
 ⟨aZ h 0 rfl,aZ h 1 rfl,aZ h 2 rfl,aZ h 3 rfl,aZ h 4 rfl,aZ h 5 rfl,aZ h 6 rfl⟩
structure zj(w0 w:Vh)(B n:U8)(tg:U8->Tg)(D:U5 Dk)(K:U5 U8)(v0 v1 r1 r2 r3:Vi)(X1 X2 X3:U5 KL)(i:U8)(k:Dk)(q:St × bO)(Q:U8)(u1 u2 u3 u4:Vi)(W:Vh):Prop where
 lx:LX w0 w B n tg D K v0 v1 r1 r2 r3 X1 X2 X3
 hi:D[i]?=Ve k
 bp:lT w k.p k.d k.aM q (bC q.2.err q.2.at_ q.2.n u1 u2 u3 u4) W
 hQ:W.heap[Q]?=Ve (ir q.2.err q.2.at_ q.2.n u1 u2 u3 u4)
 lo:w.heap.size<=Q
theorem LX.zf(h:LX w0 w B n tg D K v0 v1 r1 r2 r3 X1 X2 X3)(a:D[i]?=Ve k){q:St × bO}(P:lT w k.p k.d k.aM q (bC q.2.err q.2.at_ q.2.n u1 u2 u3 u4) w1):zj w0 w B n tg D K v0 v1 r1 r2 r3 X1 X2 X3 i k q w1.heap.size u1 u2 u3 u4 (w1.alloc (ir q.2.err q.2.at_ q.2.n u1 u2 u3 u4)) :=
 ⟨h,a,P.later ((zr _ _).alloc (zq _) _),cC _ _,by obtain⟨_,_,_,st,_⟩:=P;exact st.size⟩
structure s8(w0:Vh)(B n:U8)(tg:U8->Tg)(D:U5 Dk)(K:U5 U8)(v0 v1 r1 r2 r3:Vi)(X1 X2 X3:U5 KL)(p:bO)(Q R:U8)(u1 u2 u3 u4 z1 z2 z3 z4:Vi)(l:U5 (aL × Vi))(W:Vh):Prop where
 lx:LX w0 W B n tg D K v0 v1 r1 r2 r3 X1 X2 X3
 rl:hU W K (bM B r1 r2 r3) u1 u2 u3 u4 l p.days p.granted p.ended
 hl:l.map (·.1)=p.entries
 no:∀ b∈jB u1 u2 u3 u4 l,tg b=.no/\w0.heap.size<=b
 rv:qh W p z1 z2 z3 z4
 hQ:W.heap[Q]?=Ve (ir p.err p.at_ p.n u1 u2 u3 u4)
 hR:W.heap[R]?=Ve (ir p.err p.at_ p.n z1 z2 z3 z4)
theorem s8.later{p:bO}{l:U5 (aL × Vi)}(h:s8 w0 B n tg D K v0 v1 r1 r2 r3 X1 X2 X3 p Q R u1 u2 u3 u4 z1 z2 z3 z4 l w)(k:Vj w.heap.size w w'):s8 w0 B n tg D K v0 v1 r1 r2 r3 X1 X2 X3 p Q R u1 u2 u3 u4 z1 z2 z3 z4 l w' :=
 ⟨h.lx.later k,h.rl.later k,h.hl,h.no,h.rv.later k,(k.block _ (Y9.1 h.hQ).1).trans h.hQ,(k.block _ (Y9.1 h.hR).1).trans h.hR⟩
theorem zj.ze{q:St × bO}(h:zj w0 w B n tg D K v0 v1 r1 r2 r3 X1 X2 X3 i k q Q u1 u2 u3 u4 W)(P:oO W k.dd k.F k.xs q (.returned (bC q.2.err q.2.at_ q.2.n z1 z2 z3 z4)) w2):
  ∃ a H l,s8 w0 B n a H K v0 v1 r1 r2 r3 X1 X2 X3 q.2 Q w2.heap.size u1 u2 u3 u4 z1 z2 z3 z4 l (w2.alloc (ir q.2.err q.2.at_ q.2.n z1 z2 z3 z4)):=by
 obtain⟨S,a,z,Y,V,U,T,l,p,G,C,E⟩:=h.lx.both h.hi h.bp P;simp only[bC,Value.agg.injEq,Array.mk.injEq,Xw,true_and,and_true] at p;obtain⟨rfl,rfl,rfl,rfl⟩:=p;have b:Vj w2.heap.size w2 (w2.alloc (ir q.2.err q.2.at_ q.2.n z1 z2 z3 z4)):=(zr _ _).alloc (zq _) _;obtain⟨N,M,J,I,x,F',u,f,y,_,_,o,_⟩:=P;simp only[Ending.returned.injEq,bC,Value.agg.injEq,Array.mk.injEq,Xw,true_and,and_true] at u;obtain⟨rfl,rfl,rfl,rfl⟩:=u;have j:=(Y9.1 h.hQ).1
 have m:w2.heap[Q]?=Ve (ir q.2.err q.2.at_ q.2.n u1 u2 u3 u4):=(o.block Q j (fun A=>by
  have:=h.lx.ds.lt Q (by rw[(h.lx.ds.at_ i k h.hi).df Q A];simp);have:=h.lo
  omega)).trans h.hQ
 exact⟨a,_,l,z.later b,C.later b,G,E,(qh.mk f.en f.da y f.ed).later b,(b.block _ (by have:=o.size;omega)).trans m,cC _ _⟩
theorem s8.gk{p:bO}{l:U5 (aL × Vi)}(h:s8 w0 B n tg D K v0 v1 r1 r2 r3 X1 X2 X3 p Q R u1 u2 u3 u4 z1 z2 z3 z4 l w)(o:n+64<=900000000)(ok:wE p)(a:p.entries.length<=60/\p.days.length<=900000/\p.granted.length<=900000/\p.ended.length<=900000):
  Vk prog 77 #[.pointer (Ve ⟨B,2,Vd⟩),.agg #[.int .i64 p.err,.int .i64 p.at_,.int .i64 p.n,u1,u2,u3,u4]] w fun x w'=>x=.returned (.tuple #[])/\LW w0 w' B (n+64):=by
 have j:l.length=p.entries.length:=by rw[<- h.hl,WL]
 have b:=h.lx.len;refine (LN h.lx.bk UU h.rl UU (fun x f=>?_) a.2.1 a.2.2.1 a.2.2.2 p.err p.at_ p.n).mono ?_
 ·have:x.1∈p.entries:=by rw[<- h.hl];exact Wm.2 ⟨x,f,rfl⟩
  have:=ok.sp x.1 this;omega
 ·rintro e w4 ⟨rfl,m⟩;exact⟨rfl,(h.lx.more (Nat.le_add_right n 64)).kept UU h.no m⟩
theorem Ac(h:LW w0 w B n){a:U9}(h1:-9223372036854775808<=a)(h2:a<=9223372036854775807)(ht:qi t)(hn:n+64<=900000000):
  Vk prog 54 #[.pointer (Ve ⟨B,0,Vd⟩),.int .i64 a,.string t] w fun e w'=>e=.returned (.bool Vg)/\LW w0 w' B (n+64):=by
 obtain⟨tg,D,K,v0,v1,r1,r2,r3,X1,X2,X3,f⟩:=h;obtain⟨a0,c0,rfl⟩:=gC f.xo;obtain⟨a1,c1,rfl⟩:=gC f.yo;obtain⟨x0,x1,_,_,_,_⟩:=f.bk.cells;have y:=aC f
 by_cases hD:D.length=0
 ·have ac:((D.length:U9)==0)=Vg:=by simp[hD]
  clear f ht hD
  go_in
  go_wp2
  go_ret;exact⟨rfl,_,_,_,_,_,_,_,_,_,_,_,y.out.more (Nat.le_add_right n 64)⟩
 ·have ac:((D.length:U9)==0)=Vf:=by rw[beq_eq_false_iff_ne];omega
  have ai:=f.d3;have hb:=Js (c:=a) (n:=D.length) UU;obtain⟨j,hj⟩:∃ j:U8,lD a D.length=j:=⟨(lD a D.length).toNat,by omega⟩;have ab:j<D.length:=UU
  have PK:=aC (Mk a D.length w h1 h2 UU UU);rw[hj] at PK;clear hb hj hD h1 h2;have m:D[j]?=Ve D[j]:=Xb ab;generalize D[j]=k at m;obtain⟨g0,q0,e0,y0⟩:=rO f.xo (k:=j) (u:=.pointer (Ve ⟨k.p,0,Vd⟩)) (by rw[Ys,m];rfl);obtain⟨g1,q1,C,y1⟩:=rO f.yo (k:=j) (u:=.pointer (Ve ⟨k.dd,0,Vd⟩)) (by rw[Ys,m];rfl);simp only[Yr,true_and] at e0 C;obtain⟨rfl,rfl⟩:=e0;obtain⟨rfl,rfl⟩:=C;obtain⟨o,hT,A,N⟩:=LY ht;have DO:=aC (KX (f.ds.at_ j k m).bd (Lp _) hT N);have OK:=aC (LR (f.ds.at_ j k m).bd.ds.inv hT N);have RD:Hid (∀ W,DD W k.dd k.s k.xs k.F->Vk prog 75 #[.pointer (Ve ⟨k.dd,0,Vd⟩),.string t] W (oO W k.dd k.F k.xs (kI k.s o))):=fun W hW=>LH hW (f.ds.at_ j k m).bd.ds.inv A N
  have I:=aC (zA (y.out.tb B (by simp[bM])) (y.out.ty g1 rfl));have HK:=aC m;generalize kI k.s o=q at *;clear f ht hT A N m;have ad:(j:U9)<(D.length:U9):=UU
  go_in
  go_upto_region 4 with (first|(go_at_call 74;refine PK.out.mono ?_;rintro e w1 ⟨rfl,hw⟩;rw[hw];clear hw w1))
  go_upto_region 5 with (first|(go_at_call 21;refine DO.out.mono ?_;rintro e w1 ⟨v,rfl,bp⟩;have BP:=aC bp;obtain⟨r',ae,_,_,u1,u2,u3,u4,M,rfl,aa,C,e2,e3,e4,_,_⟩:=bp;obtain⟨b1,U,rfl⟩:=iy C.own;obtain⟨b2,T,rfl⟩:=e2.slice;obtain⟨Y,S,rfl⟩:=e3.slice;obtain⟨V,P,rfl⟩:=e4.slice;have z1:=(zo (y.out.still HK.out BP.out (b:=B) (by rw[I.out.1];simp) (by rw[I.out.1];simp))).trans x1;have z2:=(zo (y.out.still HK.out BP.out (b:=g1) (by rw[I.out.2];simp) (by rw[I.out.2];simp))).trans y1;clear aa C e2 e3 e4 x0 x1 y0 y1 DO PK;simp only[bC]))
  have G:=aC (y.out.zf HK.out BP.out);change Za _ _ _ _ (w1.alloc (ir q.2.err q.2.at_ q.2.n (.slice b1 M.length U) (.slice b2 q.2.days.length T) (.slice Y q.2.granted.length S) (.slice V q.2.ended.length P)));have E:=aC (RD.out _ (G.out.lx.ds.doc G.out.hi G.out.bp));have z3:=aN ((zr _ w1).alloc (zq _) (ir q.2.err q.2.at_ q.2.n (.slice b1 M.length U) (.slice b2 q.2.days.length T) (.slice Y q.2.granted.length S) (.slice V q.2.ended.length P))) z1;have z4:=aN ((zr _ w1).alloc (zq _) (ir q.2.err q.2.at_ q.2.n (.slice b1 M.length U) (.slice b2 q.2.days.length T) (.slice Y q.2.granted.length S) (.slice V q.2.ended.length P))) z2;clear z1 z2 RD BP I y HK;generalize w1.alloc (ir q.2.err q.2.at_ q.2.n (.slice b1 M.length U) (.slice b2 q.2.days.length T) (.slice Y q.2.granted.length S) (.slice V q.2.ended.length P))=W1 at *;generalize w1.heap.size=Q at *
  go_upto_region 6 with (first|(go_at_call 75;refine E.out.mono ?_;rintro e w2 dd;have H:=aC dd;obtain⟨y1,y2,y3,y4,af,F',rfl,J,nv,_⟩:=dd;obtain⟨le,ev,_⟩:=J.en;obtain⟨f1,g2,rfl⟩:=ev.form;obtain⟨f2,g3,rfl⟩:=J.da.form;obtain⟨f3,g4,rfl⟩:=nv.form;obtain⟨f4,g5,rfl⟩:=J.ed.form;clear J nv ev z3 z4 E;simp only[bC]))
  change Za _ _ _ _ (w2.alloc (ir q.2.err q.2.at_ q.2.n (.slice f1 le.length g2) (.slice f2 q.2.days.length g3) (.slice f3 q.2.granted.length g4) (.slice f4 q.2.ended.length g5)));obtain⟨ag,D',l,x⟩:=G.out.ze H.out;have M2:=aC x;obtain⟨a0,a1,a2,a3,a4,a5,a6⟩:=r7 x.hQ;obtain⟨s0,s1,s2,s3,s4,s5,s6⟩:=r7 x.hR;have SR:=aC (Nu _ q.2 OK.out.1 _ _ _ _ _ _ _ _ (x.rl.bC x.hl) x.rv);simp only[bC] at SR;clear x G H;generalize w2.alloc (ir q.2.err q.2.at_ q.2.n (.slice f1 le.length g2) (.slice f2 q.2.days.length g3) (.slice f3 q.2.granted.length g4) (.slice f4 q.2.ended.length g5))=W2 at *;generalize w2.heap.size=R at *
  go_upto_region 7 with (first|(go_at_call 76;refine SR.out.mono ?_;rintro e w3 ⟨rfl,z⟩;have M3:=aC (M2.out.later z);clear z a0 a1 a2 a3 a4 a5 a6 s0 s1 s2 s3 s4 s5 s6 SR))
  obtain⟨a0,a1,a2,a3,a4,a5,a6⟩:=r7 M3.out.hQ;have KP:=aC ((M3.out.later (dM w3)).gk hn OK.out.1 OK.out.2);clear M2 M3 OK
  go_region_law (first
   |(refine qZ (by rfl) 77 _ _ (by rfl) _ (by simp[Act.eval]) (K5 _ _) KP.out ?_;rintro e w4 ⟨rfl,h4⟩;refine⟨_,rfl,?_⟩;have H4:=aC h4;clear h4))
  all_goals
   go_wp2
   go_ret;exact⟨rfl,H4.out⟩
end
namespace aB
theorem Ee:∀ (l:U5 UInt8)(x:U5 (U5 UInt8) × U5 UInt8),∃ t,pB (l.foldl nV x)=x.1++t
 |[],x=>by
  unfold pB
  by_cases h:x.2=[]
  ·exact⟨[],by simp[h]⟩
  ·exact⟨[x.2],by simp[h]⟩
 |c :: l,x=>by
  obtain⟨t,ht⟩:=Ee l (nV x c);rw[W9,ht];unfold nV
  by_cases h:c=32
  ·rw[Vb h]
   by_cases a:x.2=[]
   ·exact⟨t,by simp[a]⟩
   ·exact⟨[x.2]++t,by simp[a]⟩
  ·exact⟨t,by rw[Va h]⟩
theorem Mf{s k:U4}(m:yE k.data.toList=Vg)(h:s.data.toList=k.data.toList\/∃ r,s.data.toList=k.data.toList++32 :: r):∃ R,aP s=k :: R:=by
 obtain⟨l,j⟩:=UE.1 m
 have b:∃ t,xL s.data.toList=k.data.toList :: t:=by
  unfold xL AH;rcases h with e|⟨r,e⟩
  ·rw[e,H9 j];exact⟨[],by simp[pB,l]⟩
  ·rw[e,List.foldl_append,H9 j,W9,Sx];obtain⟨t,ht⟩:=Ee r (pB ([],[]++k.data.toList),[]);rw[ht];exact⟨t,by simp[pB,l]⟩
 obtain⟨t,ht⟩:=b;rw[<- SM] at ht
 cases f:aP s with
 |nil=>rw[f] at ht;simp at ht
 |cons a R =>
  rw[f] at ht;simp only[XS,Xw] at ht;exact⟨R,by rw[Qx ht.1]⟩
end aB
theorem D8(p ws:U5 U4):∀ n:U8,(iO p ws (n+1)).data.toList=(gF (p.getD 0 ⟨#[]⟩) (ws.getD 0 ⟨#[]⟩)).data.toList\/∃ r,(iO p ws (n+1)).data.toList=(gF (p.getD 0 ⟨#[]⟩) (ws.getD 0 ⟨#[]⟩)).data.toList++32 :: r
 |0=>by
  left;simp[iO]
 |n+1=>by
  right;rw[iO,Vb UU,aB.rj,aB.rj];rcases D8 p ws n with e|⟨r,e⟩
  ·rw[e];exact⟨_,by rw[List.append_assoc];rfl⟩
  ·rw[e];exact⟨r++(32 :: (gF (p.getD (n+1) ⟨#[]⟩) (ws.getD (n+1) ⟨#[]⟩)).data.toList),by simp⟩
theorem Lq{k:U4}(a:k∈kD):aB.yE k.data.toList=Vg/\gF k k=k:=by
 simp only[kD,VA,Z4,or_false] at a;rcases a with rfl|rfl|rfl|rfl|rfl|rfl|rfl|rfl|rfl <;> exact⟨by decide +kernel,by decide +kernel⟩
theorem Ln{q:U5 U4}{l:aA.fJ}(a:Full t q)(b:iD (aB.aP t) q l)(f:lM l=Vg):∃ k∈kD,(aB.aP t).getD 0 YN=k/\∃ R,q=k :: R:=by
 cases b with
 |aT=>exact⟨ky,by simp[kD],a.head UY,_,rfl⟩
 |book=>exact⟨kr,by simp[kD],a.head UY,_,rfl⟩
 |cancel=>exact⟨ku,by simp[kD],a.head UY,_,rfl⟩
 |list0=>exact⟨dY,by simp[kD],a.head UY,_,rfl⟩
 |list1=>exact⟨dY,by simp[kD],a.head UY,_,rfl⟩
 |cY=>exact⟨kn,by simp[kD],a.head UY,_,rfl⟩
 |find=>exact⟨kl,by simp[kD],a.head UY,_,rfl⟩
 |clock=>exact⟨kM,by simp[kD],a.head UY,_,rfl⟩
 |series hr hn=>exact⟨ic,by simp[kD],Full.head (R:=cD :: eN :: _) a UY,_,rfl⟩
 |expand hr hn=>exact⟨iZ,by simp[kD],Full.head (R:=_) a UY,_,rfl⟩
 |_=>cases f
theorem Mc(h:qi t){p:U5 U4}(b:jk t=(Ve p,0)):qi (iO p (aB.aP t) (aB.aP t).length):=by
 obtain⟨v,st,_,y,z⟩:=Ea h
 by_cases A:st.2=Vg\/cB (aB.aP t).length st.1 st.2=Vg
 ·have:=y A;rw[b] at this
  cases this
 ·have G:st.2=Vf:=by cases e:st.2 <;> simp_all
  have E:cB (aB.aP t).length st.1 st.2=Vf:=by cases e:cB (aB.aP t).length st.1 st.2 <;> simp_all
  obtain⟨q,l,a,u,_,_,o⟩:=z G E;have e:=a.sc;rw[b] at e;simp only[Prod.mk.injEq,Z6,and_true] at e;subst e;obtain⟨k,m,x,R,rfl⟩:=Ln a u o;obtain⟨w1,w2⟩:=Lq m;have j:=a.len;simp only[V6] at j;rw[j];have f:=D8 (k :: R) (aB.aP t) R.length
  have H:gF ((k :: R).getD 0 ⟨#[]⟩) ((aB.aP t).getD 0 ⟨#[]⟩)=k:=by
   have:(aB.aP t).getD 0 ⟨#[]⟩=k:=x;rw[this];exact w2
  rw[H] at f;obtain⟨T,C⟩:=aB.Mf w1 f;exact⟨k,m,by rw[C];simp[bD,cB]⟩
def pg(x:mh):Prop:=Dh x/\(x.k=4\/(5<=x.k/\qi x.s))
section
variable {w0 w w':Vh}{B n:U8}
theorem LU(h:LW w0 w B n)(x:mh)(o:pg x)(hk:x.k<=6)(I:n+64<=900000000):
  Vk prog 41 #[.pointer (Ve ⟨B,0,Vd⟩),.agg #[.int .i64 x.k,.int .i64 x.a,.int .i64 x.y,.int .i64 x.m,.int .i64 x.d,.string x.s]] w fun e w'=>e=.returned (.bool Vg)/\LW w0 w' B (n+64):=by
 obtain⟨H,o⟩:=o;have T:Vj w.heap.size w (w.alloc (oh x)):=(zr _ _).alloc (zq _) _;have C:=aC (h.later T);have G:=cC w (oh x)
 have CL:Hid (∀ W,Vj (w.alloc (oh x)).heap.size (w.alloc (oh x)) W->W.cell? ⟨w.heap.size,0,Vd⟩=Ve (.int .i64 x.k)/\W.cell? ⟨w.heap.size,1,Vd⟩=Ve (.int .i64 x.a)/\W.cell? ⟨w.heap.size,5,Vd⟩=Ve (.string x.s)):=fun W k=>by
  have b:=(k.block _ (Y9.1 G).1).trans G;exact⟨aZ b 0 rfl,aZ b 1 rfl,aZ b 5 rfl⟩
 obtain⟨c0,c1,Y⟩:=CL.out _ (zr _ _)
 have J:x.k=4\/x.k=5\/x.k=6:=by
  rcases o with e|⟨e,_⟩
  ·exact .inl e
  ·omega
 have N:x.k≠4->qi x.s:=fun e=>by
  rcases o with P|⟨_,P⟩
  ·exact (e P).elim
  ·exact P
 clear T G o h hk;obtain⟨k,a,y,m,d,s⟩:=x;obtain⟨j,f,aa⟩:=H;dsimp only at *;rcases J with rfl|rfl|rfl
 ·go_in
  go_upto_region 1 with fail
  change Za _ _ _ _ (w.alloc (oh ⟨4,a,y,m,d,s⟩));generalize w.alloc (oh ⟨4,a,y,m,d,s⟩)=W at *
  go_wp2_with (first|(go_at_call 40;refine (EU C.out).mono ?_;rintro e w1 ⟨rfl,u⟩;have l:=aC u;clear u))
  go_ret;exact⟨rfl,l.out.more (Nat.le_add_right n 64)⟩
 ·go_in
  go_upto_region 1 with fail
  change Za _ _ _ _ (w.alloc (oh ⟨5,a,y,m,d,s⟩));generalize w.alloc (oh ⟨5,a,y,m,d,s⟩)=W at *
  go_wp2_with (first|(go_at_call 54;refine (Ac C.out j f (N UW) I).mono ?_;rintro e w1 ⟨rfl,u⟩;have l:=aC u;clear u))
  go_ret;exact⟨rfl,l.out⟩
 ·have M:=N UW;have PL:=aC (Nq s _ C.out.env)
  have E:Hid (∀ e,PR s e->∃ t A at_,e=.returned (.tuple #[.string t,.int .i64 A,.int .i64 at_])/\((A=0/\qi t)\/(A != 0)=Vg)):=fun e U=>by
   rcases U with ⟨_,rfl⟩|⟨_,⟨p,z,rfl⟩|⟨m,_,rfl⟩⟩
   ·exact⟨_,_,_,rfl,.inr rfl⟩
   ·exact⟨_,_,_,rfl,.inl ⟨rfl,Mc M z⟩⟩
   ·exact⟨_,_,_,rfl,.inr rfl⟩
  have HF:=aC M;clear N M
  go_in
  go_upto_region 1 with fail
  change Za _ _ _ _ (w.alloc (oh ⟨6,a,y,m,d,s⟩));generalize w.alloc (oh ⟨6,a,y,m,d,s⟩)=W at *
  go_upto_region 14 with (first|(go_at_call 55;refine PL.out.mono ?_;rintro e w1 ⟨z,b⟩;obtain⟨t,A,at_,rfl,V⟩:=E.out e z;have l:=aC (C.out.later b);have C1:=aC (CL.out _ b);have HC:=aC V;clear z b V c0 c1 Y))
  obtain⟨c0,c1,Y⟩:=C1.out;rcases HC.out with ⟨rfl,ht⟩|U
  ·have HT:=aC ht;clear ht
   go_wp2_with (first|(go_at_call 54;refine (Ac l.out j f HT.out I).mono ?_;rintro e w2 ⟨rfl,q⟩;have S:=aC q;clear q))
   go_ret;exact⟨rfl,S.out⟩
  ·go_wp2_with (first|(go_at_call 54;refine (Ac l.out j f HF.out I).mono ?_;rintro e w2 ⟨rfl,q⟩;have S:=aC q;clear q))
   go_ret;exact⟨rfl,S.out⟩
theorem Mn(G:Env w){V:U8}{a:U5 mh}(q:w.ownsRow V 89 6 v a.length (a.flatMap lj))(E:∀ x∈a,pg x)(hl:a.length<=2000000):
  Vk prog 15 #[v,.int .i64 4,.int .i64 6] w fun e w'=>e=.returned (.bool Vg)/\Vj w.heap.size w w':=by
 have HS:=aC (LW.start G);obtain⟨C,N,rfl⟩:=gC q
 have HO:Hid (∀ W m k (y:k<a.length),LW w W w.heap.size m->∃ b,C=Ve ⟨b,0,Vd⟩/\rI W b (k*6) a[k]):=fun W m k y S=>by
  have P:=S.bl;have at_:∀ o u,(lj a[k])[o]?=Ve u->∃ g cap,Ze C a.length N=.slice (Ve ⟨g,0,Vd⟩) a.length cap/\w.cell? ⟨g,k*6+o,Vd⟩=Ve u:=fun o u l=>rO q ((KI y o (by have:=(List.getElem?_eq_some_iff.1 l).1;simpa[lj] using this)).trans l)
  obtain⟨g,cap,e,U⟩:=at_ 0 _ rfl;simp only[Yr,true_and] at e;obtain⟨rfl,rfl⟩:=e
  have at':∀ o u,(lj a[k])[o]?=Ve u->w.cell? ⟨g,k*6+o,Vd⟩=Ve u:=fun o u l=>by
   obtain⟨g',M,e,c⟩:=at_ o u l;simp only[Yr,Z6,Z7,and_true,true_and] at e;obtain⟨rfl,rfl⟩:=e;exact c
  exact⟨g,rfl,rI.later ⟨U,at' 1 _ rfl,at' 2 _ rfl,at' 3 _ rfl,at' 4 _ rfl,at' 5 _ rfl⟩ P⟩
 have HF:=aC E;clear q E G
 go_in
 go_upto_region 2 with fail
 change Za _ _ _ _ (w.alloc zW);generalize w.alloc zW=W at *
 go_wp2_with (first|(go_at_call 40;refine (EU HS.out).mono ?_;rintro e w1 ⟨rfl,J⟩;have H1:=aC J;clear J))
 generalize w.heap.size=B at *
 go_loopw [9,10,11] (fun v _ _ wr=>∃ k:U8,k<=a.length/\v=.int .i64 k/\LW w wr B (k*64)) (fun v _ _ _=>a.length-(intOf v).toNat)
 case atStart=>exact⟨0,Wh _,rfl,by simpa using H1.out⟩
 case round =>
  obtain⟨k,y,rfl,f⟩:=hrel;have A:=aC f
  by_cases j:k<a.length
  ·have h:(k:U9)<(a.length:U9):=UU
   obtain⟨b,rfl,o0,o1,o2,o3,o4,o5⟩:=HO.out wr _ k j f;have p:=HF.out a[k] (zg j);generalize a[k]=x at *;have Y:=aC p
   have h4:¬ x.k<4:=by
    rcases p.2 with e|e
    ·omega
    ·have:=e.1;omega
   clear p f
   by_cases T:x.k<=6
   ·have z:¬ 6<x.k:=UU
    go_wp2_with (first
     |(go_at_call 41;refine (LU A.out x Y.out T UU).mono ?_;rintro e w2 ⟨rfl,I⟩;have H2:=aC I;clear I)
     |(go_at_call 42;refine (H2.out.looks UU).mono ?_;rintro e w3 ⟨rfl,H⟩;have H3:=aC H;clear H))
    exact⟨⟨k+1,by omega,by go_num,by rw[Nat.add_mul,Nat.one_mul];exact H3.out⟩,by simp[intOf];omega⟩
   ·have z:6<x.k:=UU
    go_wp2_with fail
    exact⟨⟨k+1,by omega,by go_num,A.out.more UU⟩,by simp[intOf];omega⟩
  ·have h:¬ (k:U9)<(a.length:U9):=UU
   clear f
   go_wp2
   go_ret;exact⟨rfl,A.out.bl⟩
def Do(w:Vh)(b:U8)(e:Ending)(w':Vh):Prop:=∃ (v:Vi)(a:U5 mh),e=.returned v/\w'.ownsRow w.heap.size 89 6 v a.length (a.flatMap lj)/\a.length<=b/\(∀ x∈a,pg x)/\Vj w.heap.size w w'
theorem EL{v':Vi}{a:U5 mh}{x:mh}(p:w1.ownsRow w.heap.size 89 6 v a.length (a.flatMap lj))(m:Vj w.heap.size w w1)(k:aF v.ownBlock.toList w1 w2)(j:w2.ownsRow w.heap.size 89 6 v' (a.length+1) (a.flatMap lj++lj x))(h:∀ y∈a,pg y)(o:pg x):
  w2.ownsRow w.heap.size 89 6 v' (a++[x]).length ((a++[x]).flatMap lj)/\(∀ y∈a++[x],pg y)/\Vj w.heap.size w w2:=by
 refine⟨by simpa using j,fun y f=>?_,m.trans (Below.ji k m.size fun b l=>(p.lt b (WW.1 l)).1)⟩;rcases VB.1 f with f|f
 ·exact h y f
 ·rw[YD.1 f];exact o
theorem LK{f:U8}(hs:Af w a0 f)(hl:f<=1900000)(hw:uS w g kD):
  Vk prog 16 #[.slice a0 f cap,.slice (Ve ⟨g,0,Vd⟩) 9 c] w (Do w f):=by
 obtain⟨i0,H,C,A,z⟩:=info_parts KO;have HS:=aC hs;have HW:=aC hw;clear hs hw
 go_in
 go_wp2_with fail
 go_loopw [5,6,7] (fun v i _ wr=>∃ (k:U8) (j:U5 mh),k<=f/\i=.int .i64 k/\wr.ownsRow w.heap.size 89 6 v j.length (j.flatMap lj)/\j.length<=k/\(∀ x∈j,pg x)/\Vj w.heap.size w wr) (fun _ i _ _=>f-(intOf i).toNat)
 case atStart=>exact⟨0,[],Wh _,rfl,WK _ _ _ _,by simp,by simp,Below.refl _ _⟩
 case round =>
  obtain⟨k,j,hk,rfl,V,ac,E,I⟩:=hrel;obtain⟨va,vc,rfl⟩:=gC V;have h:=aC (zA V (zA E I));clear V E I
  by_cases Y:k<f
  ·have G:(k:U9)<(f:U9):=UU
   obtain⟨b,ab,x,rfl,l,o⟩:=HS.out k Y;have HP:=aC (zA l o);have WA:=aC (fun W (kW:Vj w.heap.size w W)=>Nj x.s W o.sz (c:=c) (HW.out.later kW) UW);obtain⟨o0,o1,q,o3,o4,o5⟩:=l.later h.out.2.2;clear l o
   go_upto_region 6 with (first|(go_at_call 43;refine (WA.out _ h.out.2.2).mono ?_;rintro e w1 ⟨bb,rfl,J,M⟩;have H1:=aC (zA J M);clear J M o0 o1 q o3 o4 o5))
   have p:=aC (bA h.out.2.2 H1.out.2 (zq _));obtain⟨o0,o1,q,o3,o4,o5⟩:=HP.out.1.later p.out;have u:=aC (eu h.out.1 H1.out.2)
   by_cases N:x.k=4
   ·have aa:(x.k==4)=Vg:=by simp[N]
    have FX:Hid (pg x):=⟨HP.out.2,.inl N⟩;clear N
    go_wp2_with (first|(at_builtin;go_loud (refine wL rfl _ _ 22 rfl 6 56 underlying22 H C A z UW rfl UW u.out (cs:=#[.int .i64 x.k,.int .i64 x.a,.int .i64 x.y,.int .i64 x.m,.int .i64 x.d,.string x.s]) rfl U2 rfl rfl UU p.out.size ?_);intro g2 c2 w2 q U _))
    obtain⟨T,S,P⟩:=EL u.out p.out U q h.out.2.1 FX.out;exact⟨⟨k+1,j++[x],by omega,by go_num,T,by simp;omega,S,P⟩,by simp[intOf];omega⟩
   ·have aa:(x.k==4)=Vf:=by simp[N]
    by_cases h5:5<=x.k
    ·cases bb
     ·go_wp2_with fail
      exact⟨⟨k+1,j,by omega,by go_num,u.out,by omega,h.out.2.1,p.out⟩,by simp[intOf];omega⟩
     ·have FX:Hid (pg x):=⟨HP.out.2,.inr ⟨h5,H1.out.1 rfl⟩⟩
      go_wp2_with (first|(at_builtin;go_loud (refine wL rfl _ _ 22 rfl 6 56 underlying22 H C A z UW rfl UW u.out (cs:=#[.int .i64 x.k,.int .i64 x.a,.int .i64 x.y,.int .i64 x.m,.int .i64 x.d,.string x.s]) rfl U2 rfl rfl UU p.out.size ?_);intro g2 c2 w2 q U _))
      obtain⟨T,S,P⟩:=EL u.out p.out U q h.out.2.1 FX.out;exact⟨⟨k+1,j++[x],by omega,by go_num,T,by simp;omega,S,P⟩,by simp[intOf];omega⟩
    ·have ad:¬ (5:U9)<=x.k:=h5
     go_wp2_with fail
     exact⟨⟨k+1,j,by omega,by go_num,u.out,by omega,h.out.2.1,p.out⟩,by simp[intOf];omega⟩
  ·have G:¬ (k:U9)<(f:U9):=UU
   go_wp2
   go_ret;exact⟨_,j,rfl,h.out.1,by omega,h.out.2.1,h.out.2.2⟩
theorem M8{a:U8}(A:Env w)(y:Af w a0 a)(G:a<=1900000):
  Vk prog 6 #[.slice a0 a cap] w fun e w'=>e=.returned (.bool Vg)/\Vj w.heap.size w w':=by
 have U:=aC A;have T:=aC y;clear A y
 go_in
 have q:∀ o,Vj w.heap.size w (w.alloc o):=fun o=>(zr _ _).alloc (zq _) o
 have S:Hid (∀ (l:TypeId) c,Vk prog 16 #[.slice a0 a cap,.slice (Ve ⟨w.heap.size,0,Vd⟩) 9 c] (w.alloc (.cells #[.string ky,.string kr,.string ku,.string dY,.string kn,.string kl,.string kM,.string ic,.string iZ] l)) (Do (w.alloc (.cells #[.string ky,.string kr,.string ku,.string dY,.string kn,.string kl,.string kM,.string ic,.string iZ] l)) a)):=fun l c =>
  LK (fun i J=>by
   obtain⟨b,p,x,e,P,N⟩:=T.out i J
   exact⟨b,p,x,e,P.later (q _),N⟩) G (fun j I=>by
   have M:=cC w (.cells #[.string ky,.string kr,.string ku,.string dY,.string kn,.string kl,.string kM,.string ic,.string iZ] l);have H:j<9:=I;rcases (show j=0\/j=1\/j=2\/j=3\/j=4\/j=5\/j=6\/j=7\/j=8 by omega) with rfl|rfl|rfl|rfl|rfl|rfl|rfl|rfl|rfl
   all_goals exact aZ M _ rfl)
 have C:=aC q;clear q
 go_wp2_with fail
 refine (S.out _ _).mono ?_;rintro e w1 ⟨v,Y,rfl,z,E,f,u⟩;have m:=aC (zA z (zA f (zA u ((U.out.later (C.out _)).later u))));clear z f u
 go_wp2_with fail
 refine (Mn m.out.2.2.2 m.out.1 m.out.2.1 UU).mono ?_;rintro e w2 ⟨rfl,h⟩;have V:=aC (bA (bA (C.out _) m.out.2.2.1 (zq _)) h (zq _));clear h
 go_wp2
 go_ret;exact⟨rfl,V.out⟩
end
end Go.Proofs.YtfigmlfdnickmaaGreatDoor
