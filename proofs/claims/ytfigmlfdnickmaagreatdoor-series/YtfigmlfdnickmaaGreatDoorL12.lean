import Derived.Test.YtfigmlfdnickmaaGreatDoorL11
import Derived.Deep.CutBlock
set_option maxRecDepth 100000
set_option maxHeartbeats 8000000
open Go.Proofs.Tryz
open _root_ renaming ByteArray->UU,List->UV,Nat->UY,Int->UZ,if_neg->U0,if_pos->U1
open Option renaming none->U3,some->U4,mem_toList->WI
open Bool renaming false->U5,true->U6,false_eq_true->Vn
open Go renaming World->U7,Value->U8,Calls->Va
open Go.RowKit renaming Below->U9
open Go.Code renaming wp->YS
open Go.World renaming ownsRow_nil->Yl,block_lt_of_cell?->Vh,setCell->Vw,cell?->VA
open Int renaming add_zero->Yv,le_refl->Xk,tmod_eq_emod_of_nonneg->Y4
open List renaming mem_append->Vr,mem_singleton->Yo,mem_map->V9,length_pos_iff->Zo,getElem?_map->Yd,getElem?_eq_getElem->WS,take_succ_eq_append_getElem->V5,map_append->We,map_cons->XD,mem_cons->Vq,not_mem_nil->ZQ,find?_cons->X9,getElem_map->ZW,mem_or_eq_of_mem_set->ZU,getElem_mem->Zr,mem_filter->Xq,filter_append->VF,length_map->Wu,getD->Wf,length_cons->VV,length_nil->VZ,cons_append->VD,foldl_cons->Xz
open Nat renaming zero_le->V6,le_trans->Vg,lt_of_lt_of_le->WE
open Go.Value.slice renaming injEq->Zp
open Go.IntKind renaming i64->Vf
open Go.Value renaming ownBlock->Wr,int->VT,slice->YZ
open Option.some renaming injEq->ZR
open Array renaming getElem?_eq_some_iff->YR
open Go.Addr.mk renaming injEq->ZS
open ByteArray renaming empty->Yy
open List.cons renaming injEq->Xi
namespace Go.Proofs.YtfigmlfdnickmaaGreatDoor
variable{tm:Bool}{kw name t:UU}{pc:UZ}{xs:UV (aA.aM × UY × UY)}{L:UV (UY × Obj)}{es:UV aA.aM}{acc:UV UZ}{F:UV UY}{O Q R c cap d g k n:UY}{ws:UY->UU}{aJ:UY->Option bB}{a0:Option Addr}{r:Raw}{s:aA.St}{u1 u2 u3 u4 v z1 z2 z3 z4:U8}{W X Z w w' w1 w2 wx:U7}
open Go.RowKit
open aA (aM St bO aU)
def nz(k:UZ)(name:UU)(u:UZ)(v:U8)(t:UZ):Obj:=.cells #[.int .i64 0,.int .i64 k,.string name,.int .i64 u,v,.int .i64 t] 58 (0,0)
structure Df(w:U7)(g n:UY)(kw:UU)(k long:UZ):Prop where
 ho:(kw.toList==[104,111,108,100])=decide (k=2)
 wa:(kw.toList==[119,97,105,116])=decide (k=3)
 lo:(k=1/\long=0)\/((k=2\/k=3)/\5<n/\∃ t:UU,t.size<=160/\w.cell? ⟨g,5,U3⟩=U4 (.string t)/\bF t 1 7=long)
 l0:0<=long/\long<=1048320
theorem My(h:DD w d s xs F)(hg:0<=s.given/\s.given<=60)(ba:(s.es.length:UZ)<=s.given)(hn:0<=s.now/\s.now<=1048320){I ft U:UU}{k long:UZ}(hk:Df w g n kw k long)(hl:4<n)(z2:I.size<=160)(z3:ft.size<=160)(z4:U.size<=160)(hu:1<=bF I 1 7/\bF I 1 7<=9)(ay:0<=cZ U/\cZ U<=1048320)(h0:w.cell? ⟨g,0,U3⟩=U4 (.string kw))(h1:w.cell? ⟨g,1,U3⟩=U4 (.string name))(h2:w.cell? ⟨g,2,U3⟩=U4 (.string I))(h3:w.cell? ⟨g,3,U3⟩=U4 (.string ft))(h4:w.cell? ⟨g,4,U3⟩=U4 (.string U)):
  Va prog 173 #[.pointer (U4 ⟨d,0,U3⟩),.slice (U4 ⟨g,0,U3⟩) n c] w (dK w d F xs (aU s (.enter k name (bF I 1 7) (cZ ft) (cZ U) long))):=by
 have S:=aC ((KP.nil w).alloc aW);have H:=aC h;have HK:=aC hk;have i0:(0:UZ)<(n:UZ):=UI
 have i1:(1:UZ)<(n:UZ):=UI
 have i2:(2:UZ)<(n:UZ):=UI
 have i3:(3:UZ)<(n:UZ):=UI
 have i4:(4:UZ)<(n:UZ):=UI
 have y0:=aN S.y.bl h0;have y1:=aN S.y.bl h1;have y2:=aN S.y.bl h2;have y3:=aN S.y.bl h3;have y4:=aN S.y.bl h4;clear h hk
 go_in
 go_upto_region 1 with fail
 change YS _ _ _ _ (w.alloc aW);generalize w.alloc aW=X at *;have NM:=aC (fun wx=>eQ I 1 7 wx z2 UI UI);generalize bF I 1 7=u at *
 go_cut [5] from 12 to 19 (fun v5 wx=>∃ b,v5=.pointer (U4 ⟨b,0,U3⟩)/\KP w wx [(b,nz 1 name u aR 0),(w.heap.size,aW)])
 case first =>
  have a7:∀ o,(X.alloc o).cell? ⟨g,1,U3⟩=U4 (.string name):=fun o=>aN ((zr _ _).alloc (zq _) _) y1
  have a6:∀ o,(X.alloc o).cell? ⟨g,2,U3⟩=U4 (.string I):=fun o=>aN ((zr _ _).alloc (zq _) _) y2
  go_region_with (first
   |(go_at_call 126;refine (NM.y _).mono ?_;rintro e w4 ⟨rfl,z⟩;have PB:=aC (((S.y.alloc _).later (dM _)).later z);have bz:=zn z;have b0:=rN bz;have b1:=s8 bz;have b2:=rO bz;have b3:=rP bz;have b4:=rQ bz;have b5:=s9 bz;have bf:=uD bz;have kX:U9 X.heap.size X w4:=aZ ((zr _ _).alloc (zq _) _).drew z (zq _);have af:=aN kX y1;clear z)
   |(go_at_call 126;refine (NM.y _).mono ?_;rintro e w4 ⟨rfl,z⟩;have kX:U9 X.heap.size X w4:=aZ (dM X) z (zq _);have af:=aN kX y1;have yB:∀ o,(w4.alloc o).cell? ⟨g,1,U3⟩=U4 (.string name):=fun o=>aN ((zr _ _).alloc (zq _) _) af))
  all_goals
   go_wp2
   go_meet
   first
    |(
     have PB:=PB.y.oW (.int .i64 0) (.int .i64 1) (.string name) (.int .i64 u) aR (.int .i64 0)
     exact⟨_,rfl,PB⟩)
    |exact⟨_,rfl,(S.y.later kX).alloc _⟩
 case rest =>
  obtain⟨b,rfl,G⟩:=hcut;have HP:=aC G;have y3:=aN G.bl h3;clear G y0 y1 y2 y4 S NM
  go_wp2_with fail
  refine (qs ft _ z3).mono ?_;rintro e w2 ⟨rfl,P⟩;replace HP:=aC (HP.y.later P);have y4:=aN HP.y.bl h4;clear P y3
  go_wp2_with fail
  refine (qs U _ z4).mono ?_;rintro e w3 ⟨rfl,P⟩;replace HP:=aC (HP.y.later P);clear P y4;generalize cZ ft=fr at *;generalize cZ U=til at *;obtain⟨T,hT⟩:∃ T,T=if k=1 then 0 else s.now+long:=⟨_,rfl⟩
  have HT:=aC hT;clear hT;have hD:=H.y.later HP.y.bl;have n3:=hD.rd.c3;have HD:=aC hD;clear hD;have y0:=aN HP.y.bl h0;have b1:=HP.y.hc 1 rfl;have b5:=HP.y.hc 5 rfl;have bf:=HP.y.hf;have bc:=HK.y.l0;have k2:=HK.y.ho;have k3:=HK.y.wa;have c0:Hid (0<=til/\til<=1048320):=ay;have HE:Hid (∃ j,j=aA.re s k name u fr til long):=⟨_,rfl⟩;obtain⟨j,al⟩:=HE.y;have ae:=aC al;clear al HE;obtain⟨NL,ac⟩:∃ NL,NL=s.now+long:=⟨_,rfl⟩;have aq:=aC ac;have gQ:Hid (j=if aA.dH s.ts name u≠0 then aA.dH s.ts name u else if til<=fr\/1048320<NL then 6 else if s.given=60 then 5 else if k=3 then (if aA.eh s.es=6 then 5 else 0) else if aA.dG s.ts s.es name u [(fr,til)] then 0 else 8):=by rw[ac];exact ae.y
  have ar:Hid ((j≠0->aU s (.enter k name u fr til long)=(s,⟨j,0,0,[],[],[],[]⟩))/\(j=0->aU s (.enter k name u fr til long)=aA.jz s ⟨0,k,name,u,[(fr,til)],T⟩)):=by
   have e2:=ae.y;have e3:=HT.y;refine⟨fun h=>?_,fun h=>?_⟩
   ·simp only[aU,<- e2,h,ne_eq,not_false_eq_true,if_true];rfl
   ·simp only[aU,<- e2,h,ne_eq,not_true_eq_false,if_false];rw[e3];rfl
  have au:Hid (j=0->s.given≠60):=by
   intro m e2;have:=gQ.y;rw[m,e2] at this
   split at this
   ·omega
   ·split at this <;> simp at this
  clear ac ae;rcases HK.y.lo with ⟨l,rfl⟩|⟨l,h5,t,ht,c5,ai⟩
  case' inl =>
   have a:Hid (KP w w3 [(b,nz k name u aR T),(w.heap.size,aW)]):=by rw[HT.y,U1 l,l];exact HP.y
   rw[l] at k2 k3;simp only[show ((1:UZ)=2)=False from by simp,show ((1:UZ)=3)=False from by simp,decide_false] at k2 k3;clear HP b5 n3 HD
   go_upto_region 13 with fail
   generalize w3=Z at *;clear b1 bf
  case' inr =>
   have az:k≠1:=UI
   have i5:(5:UZ)<(n:UZ):=UI
   have a3:Hid (T=s.now+long):=by show _=_;rw[HT.y,U0 az]
   have NM:=aC (fun wx=>eQ t 1 7 wx ht UI UI);rw[ai] at NM;have a:=aC (HP.y.put 1 (.int .i64 k));have a5:=aN a.y.bl c5;clear c5 HP HD n3 b5 ai;rcases l with l|l
   all_goals
    rw[l] at k2 k3 a a5;simp only[show ((3:UZ)=2)=False from by simp,show ((2:UZ)=3)=False from by simp,decide_false,decide_true] at k2 k3
    go_upto_region 11 with fail
    generalize w3.setCell _ _=Z0 at *
    go_wp2_with fail
    refine (NM.y _).mono ?_;rintro e w5 ⟨rfl,P⟩;replace a:=aC (a.y.later P);have n3:=(H.y.later a.y.bl).rd.c3;have b5:=a.y.hc 5 rfl;have bf:=a.y.hf;clear P
    go_upto_region 13 with fail
    replace a:Hid (KP w (w5.setCell ⟨b,5,U3⟩ (.int .i64 (s.now+long))) [(b,nz k name u aR T),(w.heap.size,aW)]):=by rw[l,a3.y];exact a.y.put 5 _
    clear b5 bf n3 b1;generalize w5.setCell _ _=Z at *
  all_goals
   clear l;obtain⟨vN,ab⟩:∃ v,v=aR:=⟨_,rfl⟩;have ON:Hid (Z.ownsRow Z.heap.size 60 2 vN ([]:UV (UZ × UZ)).length (([]:UV (UZ × UZ)).flatMap iF)/\vN.ownBlock=U3):=by rw[ab];exact⟨Yl Z Z.heap.size _ _,rfl⟩
   rw[<- ab] at a;clear ab;have b4:=a.y.hc 4 rfl;have bf:=a.y.hf 4;have hZ:=a.y.bl.size;have bi:b<Z.heap.size:=a.y.lt (List.mem_cons_self ..);have bm:w.heap.size<Z.heap.size:=a.y.lt (q:=(w.heap.size,aW)) UJ
   go_wp2_with (first|(at_builtin;refine Dj rfl _ _ rfl ON.y.1 fr til rfl rfl UJ (zq _) ?_;intro gs cs w6 C aa;have y:U9 Z.heap.size Z w6:=(by rw[ON.y.2] at aa;exact aF.QV aa);have b4:=aN y b4;have bf:=(aC ((a.y.later y).hf 4)).y;have b2:=(a.y.later y).hc 2 rfl;have b3:=(a.y.later y).hc 3 rfl))
   replace a:Hid (KP w (w6.setCell ⟨b,4,U3⟩ (.slice (U4 ⟨gs,0,U3⟩) 1 cs)) [(b,nz k name u (.slice (U4 ⟨gs,0,U3⟩) 1 cs) T),(w.heap.size,aW)]):=(a.y.later y).put 4 _;have bg:Z.heap.size<=gs:=jE C rfl;have f:gs<w6.heap.size:=eW C rfl;have RS:Hid (fY (w6.setCell ⟨b,4,U3⟩ (.slice (U4 ⟨gs,0,U3⟩) 1 cs)) gs [(fr,til)]):=(zH C).2.off (aF.aX ..) UQ;have ag:(w6.setCell ⟨b,4,U3⟩ (.slice (U4 ⟨gs,0,U3⟩) 1 cs)).heap.size=w6.heap.size:=UJ
   clear b4 bf C aa y b2 b3;rw[<- ag] at f;clear ag;generalize w6.setCell ⟨b,4,U3⟩ _=Y at *;have DY:=aC (H.y.later a.y.bl);obtain⟨_,b1,b2,b3,b4,_⟩:=a.y.oa;have n2:=DY.y.rd.c2;have n3:=DY.y.rd.c3;have AK:=aC (DY.y.asked name u);have WA:=aC DY.y.waiting;have FT:=aC (DY.y.fits (u:=u) (cb:=cs) name RS.y UJ UI hu.2);refine AK.y.mono ?_;rintro e w7 ⟨rfl,rfl⟩;clear AK;generalize aA.dH s.ts name u=an at *;generalize aA.eh s.es=wn at *;generalize aA.dG s.ts s.es name u [(fr,til)]=fb at *
   go_upto_block 1 with fail
   go_cut [9,10,11] from 65 to 104 (fun v9 _ _ wx=>v9=.int .i64 j/\KP w wx [(b,nz k name u (.slice (U4 ⟨gs,0,U3⟩) 1 cs) T),(w.heap.size,aW)]/\fY wx gs [(fr,til)]/\gs<wx.heap.size)
   case first =>
    by_cases V:an=0
    ·subst V
     by_cases q2:til<=fr
     ·have m:j=6:=by rw[gQ.y];simp[q2]
      go_wp2
      go_meet
      exact⟨by rw[m],a.y,RS.y,f⟩
     ·by_cases A:1048320<NL
      ·have m:j=6:=by rw[gQ.y];simp[A]
       rw[aq.y] at A
       try simp only[Yv] at A
       try (exfalso;omega)
       all_goals
        go_wp2
        go_meet
        exact⟨by rw[m],a.y,RS.y,f⟩
      ·rw[U0 UJ,U0 (by simp only[not_or];exact⟨q2,A⟩)] at gQ;rw[aq.y] at A
       try simp only[Yv] at A
       by_cases N:s.given=60
       ·have m:j=5:=by rw[gQ.y,U1 N]
        have ax:(s.given==60)=U6:=by simpa using N
        go_wp2
        go_meet
        exact⟨by rw[m],a.y,RS.y,f⟩
       ·rw[U0 N] at gQ;have ax:(s.given==60)=U5:=by simpa using N
        by_cases M:k=3
        ·skip
         all_goals
          rw[U1 M] at gQ;have aw:(k==3)=U6:=by simpa using M
          by_cases J:wn=6
          ·have m:j=5:=by rw[gQ.y,U1 J]
           have av:(wn==6)=U6:=by simpa using J
           go_wp2_with fail
           refine WA.y.mono ?_;rintro e w8 ⟨rfl,rfl⟩
           go_wp2
           go_meet
           exact⟨by rw[m],a.y,RS.y,f⟩
          ·have m:j=0:=by rw[gQ.y,U0 J]
           have av:(wn==6)=U5:=by simpa using J
           go_wp2_with fail
           refine WA.y.mono ?_;rintro e w8 ⟨rfl,rfl⟩
           go_wp2
           go_meet
           exact⟨by rw[m],a.y,RS.y,f⟩
        ·skip
         all_goals
          rw[U0 M] at gQ;have aw:(k==3)=U5:=by simpa using M
          go_wp2_with fail
          refine FT.y.mono ?_;rintro e w8 ⟨rfl,E⟩;have L8:=aC (zA (a.y.later E) (zA (RS.y.later E) (zL f E.size)));clear E
          cases fb
          ·have m:j=8:=by rw[gQ.y];rfl
           go_wp2
           go_meet
           exact⟨by rw[m],L8.y⟩
          ·have m:j=0:=by rw[gQ.y];rfl
           go_wp2
           go_meet
           exact⟨by rw[m],L8.y⟩
    ·have m:j=an:=by rw[gQ.y,U1 V]
     have a8:(an != 0)=U6:=by simpa using V
     go_wp2
     go_meet
     exact⟨by rw[m],a.y,RS.y,f⟩
   case rest =>
    obtain⟨rfl,G,hR,ak⟩:=hcut;have DC:=aC (H.y.later G.bl);have Q1:=aC (Q7.of (G.kb (w.heap.size,aW) UJ));have HP:=aC (zA G (zA hR ak));obtain⟨x0,x1,x2,x3,x4,x5⟩:=G.oa;clear G hR ak b1 b2 b3 b4 n2 n3 WA FT gQ
    by_cases he:j=0
    ·subst he;have E9:=aC (ar.y.2 rfl)
     have aj:Hid (s.es.length<60):=by
      show _<_;have:=au.y rfl;omega
     have JN:Hid (Va prog 232 #[.pointer (U4 ⟨d,0,U3⟩),.agg #[.int .i64 0,.int .i64 k,.string name,.int .i64 u,.slice (U4 ⟨gs,0,U3⟩) 1 cs,.int .i64 T]] wc fun e w'=>e=.returned (rM 0 (s.given+1))/\sW wc d s.ts (xs++[(⟨s.given+1,k,name,u,[(fr,til)],T⟩,gs,cs)]) (s.given+1) s.now F w'):=(Ds d s.ts xs s.given s.now F (⟨0,k,name,u,[(fr,til)],T⟩,gs,cs) wc DC.y.rd HP.y.2.1 (fun e=>by have:=H.y.lt gs e;omega) HP.y.2.2 DC.y.lt (by have:=H.y.len;have:=H.y.el;omega) hg.1 UI)
     go_wp2_with fail
     refine JN.y.mono ?_;rintro e w8 ⟨rfl,hj⟩;obtain⟨F',hJ,ad,hO⟩:=DC.y.kP (x:=(⟨0,k,name,u,[(fr,til)],T⟩,gs,cs)) ⟨hu.1,hu.2,by simp,by simp,by simp;omega⟩ aj.y hj;have ao:w.heap.size ∉ F:=fun e=>by have:=H.y.lt _ e;omega
     have a4:=hO.block w.heap.size (Vh _ _ Q1.y.q0) ao;have a9:=HP.y.1.bl.size;have bj:w.heap.size<wc.heap.size:=Vh _ _ Q1.y.q0
     have HF:Hid (dK w d F xs (aA.jz s ⟨0,k,name,u,[(fr,til)],T⟩) (.returned (bC 0 0 (s.given+1) aR aR aR aR)) (cK w8 w.heap.size (.int .i64 0) (.int .i64 0) (.int .i64 (s.given+1)) aR aR aR aR)):=by
      refine hJ.mh (fun x p=>(ad x p).imp id (fun e=>by omega)) ((aF.aD HP.y.1.bl).trans hO) (zq _) (fun e=>?_) (fun x p e=>?_) (fun x p=>?_) 0 (s.given+1) _ _ _ _ _ _ _
      ·rcases ad _ e with e|e
       ·exact ao e
       ·omega
      ·rcases Vr.1 p with p|p
       ·have:=(H.y.rd.sp x p).2.2;omega
       ·simp only[Yo] at p;subst p;simp only at e;omega
      ·rcases Vr.1 p with p|p
       ·exact .inl ⟨x,p,rfl⟩
       ·simp only[Yo] at p;subst p;exact .inr (by simp only;omega)
     obtain⟨q0,V,q2,A,N,M,J,fq⟩:=Q1.y.later a4;simp only[rM];clear hJ ad hO hj JN
     go_wp2_with fail
     exact cO results173 ⟨q0,V,q2,A,N,M,J,fq⟩ (by rw[E9.y];exact HF.y)
    ·have bh:(j != 0)=U6:=by simpa using he
     have HF:Hid (dK w d F xs (s,⟨j,0,0,[],[],[],[]⟩) (.returned (bC j 0 0 aR aR aR aR)) (cK wc w.heap.size (.int .i64 j) (.int .i64 0) (.int .i64 0) aR aR aR aR)):=H.y.said HP.y.1.bl (zq _) j 0 (.int .i64 j) (.int .i64 0) (.int .i64 0) aR aR aR aR;have E9:=aC (ar.y.1 he);obtain⟨q0,V,q2,A,N,M,J,fq⟩:=Q1.y;clear he
     go_wp2_with fail
     exact cO results173 ⟨q0,V,q2,A,N,M,J,fq⟩ (by rw[E9.y];exact HF.y)
theorem KP.off{b:U7}{G:UV UY}(h:KP w wx L)(k:aF G wx b)(j:∀ x∈G,w.heap.size<=x)(f:∀ q∈L,q.1 ∉ G):KP w b L :=
 ⟨h.bl.trans (yX k h.bl.size j),fun q a=>(k.block _ (h.lt a) (f q a)).trans (h.kb q a),h.lo,h.nd⟩
theorem KP.tail{q:UY × Obj}(h:KP w wx (q :: L)):KP w wx L:=h.less (List.sublist_cons_self ..)
theorem DD.oT{wc o:U7}(H:DD w d s xs F){e:aM}{p cs:UY}(q:U9 w.heap.size w wc)(A:w.heap.size<p)(C:w.heap.size<wc.heap.size)(h:EB e)(y:s.es.length<60)(z:sW wc d s.ts (xs++[({ e with id:=s.given+1 },p,cs)]) (s.given+1) s.now F o)(a b c f g i j:U8):
  dK w d F xs (aA.jz s e) (.returned (bC 0 0 (s.given+1) aR aR aR aR)) (cK o w.heap.size a b c f g i j)/\o.heap[w.heap.size]?=wc.heap[w.heap.size]?:=by
 obtain⟨G,E,m,u⟩:=(H.later q).kP (x:=(e,p,cs)) h y z;have l:w.heap.size ∉ F:=fun e=>by have:=H.lt _ e;omega
 refine⟨E.mh (fun x h=>(m x h).imp id (fun e=>by omega)) ((aF.aD q).trans u) (zq _) (fun e=>?_) (fun x h e=>?_) (fun x h=>?_) 0 (s.given+1) _ _ _ _ _ _ _,u.block _ C l⟩
 ·rcases m _ e with e|e
  ·exact l e
  ·omega
 ·rcases Vr.1 h with h|h
  ·have:=(H.rd.sp x h).2.2;omega
  ·rw[Yo.1 h] at e;simp only at e;omega
 ·rcases Vr.1 h with h|h
  ·exact .inl ⟨x,h,rfl⟩
  ·rw[Yo.1 h];exact .inr (by simp only;omega)
theorem Lm(h:DD w d s xs F)(hg:0<=s.given/\s.given<=60)(bj:(s.es.length:UZ)<=s.given)(hc:∀ j,j<n->w.cell? ⟨g,j,U3⟩=U4 (.string (ws j)))(f:∀ j,(ws j).size<=160)(hr:rE ws 3 k pc acc tm)(hn:k+7<n)(hu:1<=bF (ws 2) 1 7/\bF (ws 2) 1 7<=9)(hf:Rd.fw (jX ws 3 k pc acc tm)):
  Va prog 174 #[.pointer (U4 ⟨d,0,U3⟩),.slice (U4 ⟨g,0,U3⟩) n c] w (dK w d F xs (aU s (.series (ws 1) (bF (ws 2) 1 7) (jX ws 3 k pc acc tm)))):=by
 have P0:=aC ((KP.nil w).alloc aW);have H:=aC h;have RL:Hid (∀ W,U9 w.heap.size w W->Va prog 180 #[.slice (U4 ⟨g,0,U3⟩) n c,.int .i64 3] W fun e w'=>e=.returned (mL (jX ws 3 k pc acc tm))/\U9 W.heap.size W w'):=fun W kW=>Ed (i:=3) (fun j hj=>aN kW (hc j hj)) f UI hr hn
 have DY:=aC (fun W=>Dr _ hf W);have hk:3+2<=k:=by rcases hr.hk with e|e <;> omega
 have i1:(1:UZ)<(n:UZ):=UI
 have i2:(2:UZ)<(n:UZ):=UI
 have y1:=aN P0.y.bl (hc 1 UI);have y2:=aN P0.y.bl (hc 2 UI);have NM:=aC (fun wx=>eQ (ws 2) 1 7 wx (f 2) UI UI);generalize bF (ws 2) 1 7=u at *;generalize ws 1=name at *;generalize ws 2=ut at *;generalize jX ws 3 k pc acc tm=q at *;simp only[mL,pV] at RL DY;have C:=aC (zA hf (Rd.pJ hf).2);clear h hc f hr hf hk hn
 go_in
 go_upto_region 1 with fail
 change YS _ _ _ _ (w.alloc aW);generalize w.alloc aW=X at *
 go_cut [5] from 12 to 19 (fun v5 wx=>∃ b,v5=.pointer (U4 ⟨b,0,U3⟩)/\KP w wx [(b,nz 1 name u aR 0),(w.heap.size,aW)])
 case first =>
  have bh:∀ o,(X.alloc o).cell? ⟨g,1,U3⟩=U4 (.string name):=fun o=>aN ((zr _ _).alloc (zq _) _) y1
  have bg:∀ o,(X.alloc o).cell? ⟨g,2,U3⟩=U4 (.string ut):=fun o=>aN ((zr _ _).alloc (zq _) _) y2
  go_region_with (first
   |(go_at_call 126;refine (NM.y _).mono ?_;rintro e w4 ⟨rfl,A⟩;have PB:=aC (((P0.y.alloc _).later (dM _)).later A);have bz:=zn A;have b0:=rN bz;have b1:=s8 bz;have b2:=rO bz;have b3:=rP bz;have b4:=rQ bz;have b5:=s9 bz;have bf:=uD bz;have kX:U9 X.heap.size X w4:=aZ ((zr _ _).alloc (zq _) _).drew A (zq _);have ae:=aN kX y1;clear A)
   |(go_at_call 126;refine (NM.y _).mono ?_;rintro e w4 ⟨rfl,A⟩;have kX:U9 X.heap.size X w4:=aZ (dM X) A (zq _);have ae:=aN kX y1;have yB:∀ o,(w4.alloc o).cell? ⟨g,1,U3⟩=U4 (.string name):=fun o=>aN ((zr _ _).alloc (zq _) _) ae))
  all_goals
   go_wp2
   go_meet
   first
    |(
     have PB:=PB.y.oW (.int .i64 0) (.int .i64 1) (.string name) (.int .i64 u) aR (.int .i64 0)
     exact⟨_,rfl,PB⟩)
    |exact⟨_,rfl,(P0.y.later kX).alloc _⟩
 case rest =>
  obtain⟨b,rfl,hP⟩:=hcut;have HP:=aC hP;clear hP y1 y2 P0 NM;obtain⟨_,_,b2,b3,_,_⟩:=HP.y.oa;have AK:=aC ((H.y.later HP.y.bl).asked name u);have SD:Hid (∀ er Z,KP w Z [(w.heap.size,aW)]->aU s (.series name u q)=(s,bO.error er)->dK w d F xs (aU s (.series name u q)) (.returned (bC er 0 0 aR aR aR aR)) (cK Z w.heap.size (.int .i64 er) (.int .i64 0) (.int .i64 0) aR aR aR aR)/\Q7 Z w.heap.size):=fun er Z k e=>⟨by rw[e];exact H.y.said k.bl (zq _) er 0 _ _ _ _ _ _ _,Q7.of k.mE⟩
  have D1:Hid (aA.dH s.ts name u≠0->aU s (.series name u q)=(s,bO.error (aA.dH s.ts name u))):=fun e=>by simp only[aU,aA.mH,U1 e]
  have D2:Hid (aA.dH s.ts name u=0->Rd.gd q≠0->aU s (.series name u q)=(s,bO.error (Rd.gd q))):=fun e e2=>by simp only[aU,aA.mH,e,ne_eq,not_true_eq_false,if_false,e2,not_false_eq_true,if_true]
  have D3:Hid (aA.dH s.ts name u=0->Rd.gd q=0->s.given=60->aU s (.series name u q)=(s,bO.error 5)):=fun e e2 e3=>by simp[aU,aA.mH,e,e2,e3]
  have D4:Hid (aA.dH s.ts name u=0->Rd.gd q=0->s.given≠60->aU s (.series name u q)=if aA.dG s.ts s.es name u (Rd.gg q (Rd.bH q)) then aA.jz s ⟨0,1,name,u,Rd.gg q (Rd.bH q),0⟩ else (s,bO.error 8)):=fun e e2 e3=>by
   simp only[aU,aA.mH,e,e2,e3,ne_eq,not_true_eq_false,if_false]
   cases aA.dG s.ts s.es name u (Rd.gg q (Rd.bH q)) <;> simp
  go_wp2_with fail
  refine AK.y.mono ?_;rintro e w7 ⟨rfl,rfl⟩;clear AK;generalize aA.dH s.ts name u=an at *
  by_cases p:an=0
  case neg =>
   have bi:(an != 0)=U6:=by simpa using p
   have E:=aC (SD.y an _ HP.y.tail (D1.y p));clear p;obtain⟨N,p,M,J,m,I,G,T⟩:=E.y.2
   go_wp2_with fail
   exact cO results174 ⟨N,p,M,J,m,I,G,T⟩ E.y.1
  subst p;clear D1 b2 b3
  go_wp2_with fail
  refine (RL.y _ HP.y.bl).mono ?_;rintro e w2 ⟨rfl,hb⟩;replace HP:=aC ((HP.y.later hb).alloc (gW q));clear hb RL
  go_upto_region 6 with fail
  change YS _ _ _ _ (w2.alloc (gW q));obtain⟨rb,af⟩:∃ rb,rb=w2.heap.size:=⟨_,rfl⟩;rw[<- af] at HP ⊢;generalize w2.alloc (gW q)=W at *;obtain⟨⟨c0,c1,c9,ac,U,a6,a5⟩,cJ⟩:=nm HP.y.mE;have j0:=cJ 0 UI;have j1:=cJ 1 UI;have j2:=cJ 2 UI;have j3:=cJ 3 UI;have j4:=cJ 4 UI;have j5:=cJ 5 UI;have j6:=cJ 6 UI;have bo:b<W.heap.size:=HP.y.lt (q:=(b,nz 1 name u aR 0)) UJ;clear cJ af
  go_wp2_with fail
  refine (DY.y _).mono ?_;rintro e w3 ⟨aq,hd⟩;replace HP:=aC (HP.y.later aq);clear c0 c1 c9 ac U a6 a5 j0 j1 j2 j3 j4 j5 j6 DY;rcases hd with ⟨he,v,rfl,ho⟩|⟨he,rfl⟩
  case inr =>
   have E:=aC (SD.y (Rd.gd q) _ HP.y.tail.tail (D2.y UJ he));generalize Rd.gd q=er at *;have bn:(er != 0)=U6:=by simpa using he
   obtain⟨N,p,M,J,m,I,G,T⟩:=E.y.2;clear he
   go_wp2_with fail
   exact cO results174 ⟨N,p,M,J,m,I,G,T⟩ E.y.1
  obtain⟨_,av,ba,l⟩:=C.y.2 he;have HO:=aC ho;have LT:=aC l;have HD:=aC he;have MM:=aC (fun i (hi:i<(Rd.bH q).length)=>zA (Rd.sF C.y.1 (zg hi)) (zA C.y.1.m0 (zA C.y.1.m1 (zA C.y.1.i1 C.y.1.i2))));obtain⟨va,vc,rfl⟩:=gB ho;have LB:=aC (zA (HP.y.lo (b,nz 1 name u aR 0) UJ) (zA (HP.y.lt (q:=(b,nz 1 name u aR 0)) UJ) (zA (HP.y.lt (q:=(rb,gW q)) UJ) (zA (HP.y.lt (q:=(w.heap.size,aW)) UJ) HP.y.bl.size))))
  have a8:Hid (∀ x∈Rd.gg q (Rd.bH q),0<=x.2/\x.2<=2000000):=fun x hx=>by
   obtain⟨y,hy,rfl⟩:=V9.1 hx;have:=Rd.sF C.y.1 hy;have:=l y hy;have:=C.y.1.f0;have:=C.y.1.m0;have:=C.y.1.i1;simp only;omega
  clear ho l he aq;have aw:0<(Rd.bH q).length:=Zo.2 av
  go_wp2_with fail
  generalize w3=V at *;obtain⟨V0,a4⟩:∃ V0,V0=V:=⟨_,rfl⟩;subst a4
  go_loopw [9,10] (fun vi _ wr=>∃ (i:UY) (vs:U8),i<=(Rd.bH q).length/\vi=.int .i64 i/\KP w wr [(b,nz 1 name u vs 0),(rb,gW q),(w.heap.size,aW)]/\wr.ownsRow V0.heap.size 60 2 vs (Rd.gg q ((Rd.bH q).take i)).length ((Rd.gg q ((Rd.bH q).take i)).flatMap iF)/\aF [b] V0 wr) (fun vi _ _=>(Rd.bH q).length-(intOf vi).toNat)
  case atStart=>exact⟨0,aR,V6 _,rfl,HP.y.swap,Yl _ _ _ _,aF.refl _ _⟩
  case round =>
   obtain⟨i,vs,hi,rfl,hP,Y,aa⟩:=hrel;have a:=aC (zA hP (zA Y aa));clear hP Y aa
   by_cases ab:i<(Rd.bH q).length
   ·have ai:(i:UZ)<((Rd.bH q).length:UZ):=UI
    obtain⟨g2,cap,e,y⟩:=rL HO.y (k:=i) (u:=.int .i64 (Rd.bH q)[i]) (by rw[Yd,WS ab];rfl);simp only[Zp,true_and] at e;obtain⟨rfl,rfl⟩:=e;have az:g2 ∉ [b]:=by have:=jE HO.y (k:=g2) rfl;simp;omega
    have y':=a.y.2.2.cell az y;obtain⟨_,_,_,_,b4,_⟩:=a.y.1.oa;obtain⟨⟨_,_,_,ac,U,_⟩,_⟩:=nm (a.y.1.kb (rb,gW q) UJ);obtain⟨⟨m1,m2⟩,m3,m4,m5,m6⟩:=MM.y i ab;have bm:=C.y.1.f0
    have HT:Hid (Rd.gg q ((Rd.bH q).take (i+1))=Rd.gg q ((Rd.bH q).take i)++[(1440*(Rd.bH q)[i]+q.mn,1440*(Rd.bH q)[i]+q.mn+q.mi)]):=by
     show _=_;simp only[Rd.gg];rw[V5 ab,We];simp only[XD,List.map_nil,Int.mul_comm 1440]
    have ax:(Rd.gg q ((Rd.bH q).take i)).length<=1000000:=by simp[Rd.gg];omega
    clear y;generalize (Rd.bH q)[i]=x at *;have w1:Vf.wrap (1440*x)=1440*x:=cG UI UI;have w2:Vf.wrap (1440*x+q.mn)=1440*x+q.mn:=cG UI UI;have w3:Vf.wrap (1440*x+q.mn+q.mi)=1440*x+q.mn+q.mi:=cG UI UI
    go_upto_region 12 with fail
    go_quiet (fail)
    go_upto_region 13 with fail
    generalize ar:World.drewN wr _=Wd at *
    have kd:Hid (U9 wr.heap.size wr Wd):=by
     rw[<- ar];exact rT (zr _ _) _
    clear ar;have a7:=aN kd.y b4;have bc:=aN kd.y U;have NB:Hid (∀ z∈vs.ownBlock.toList,V0.heap.size<=z):=fun z f=>jE a.y.2.1 (WI.1 f)
    have ao:b ∉ vs.ownBlock.toList:=fun e=>by have:=NB.y b e;have:=LB.y.2.1;omega
    have PD:=aC (a.y.1.later kd.y);have OD:=aC (ey a.y.2.1 kd.y);have a3:V0.heap.size<=Wd.heap.size:=Vg a.y.2.2.size kd.y.size;clear b4 ac U
    go_wp2_with (first|(at_builtin;refine Dj rfl _ _ rfl OD.y (1440*x+q.mn) (1440*x+q.mn+q.mi) rfl rfl ax a3 ?_;intro gs cs w6 ag P;have b4:=P.cell ao a7;have bf:=(P.frozen (o:=4) ao (PD.y.lt (q:=(b,nz 1 name u vs 0)) UJ)).trans (PD.y.hf 4)))
    have P6:=aC (PD.y.off P (fun z f=>Vg LB.y.2.2.2.2 (NB.y z f)) (fun z f e=>by
     have:=NB.y _ e;have:=LB.y;simp only[Vq,ZQ,or_false] at f
     rcases f with rfl|rfl|rfl <;> simp only at this <;> omega))
    have ak:V0.heap.size<=gs:=jE ag rfl;refine⟨⟨i+1,_,by omega,by go_num,P6.y.put 4 _,?_,?_⟩,by simp[intOf];omega⟩
    ·rw[HT.y,List.length_append]
     exact dO ag (aF.aX ..) (fun z f e=>by
      simp only[Wr,ZR] at f;simp only[Yo] at e;have:=LB.y.2.1
      omega)
    ·exact ((a.y.2.2.trans' (aF.aD kd.y) (fun z f=>.inl f)).trans' P (fun z f=>.inr (NB.y z f))).setCell (.inl UJ) _ _
   ·have ay:i=(Rd.bH q).length:=UI
    subst ay;have ai:¬ (((Rd.bH q).length:UY):UZ)<((Rd.bH q).length:UZ):=UI
    have hL:(Rd.gg q (Rd.bH q)).length=(Rd.bH q).length:=by simp[Rd.gg]
    rw[List.take_length] at a;have a9:=aC (D4.y UJ HD.y);have ad:Hid ((Rd.gg q (Rd.bH q)).length<=40/\Rd.gg q (Rd.bH q)≠[]):=⟨by omega,fun e=>by rw[e] at hL;simp at hL;omega⟩;generalize Rd.gg q (Rd.bH q)=L at *;rcases a.y.2.1.2 with ⟨_,h0⟩|⟨gs,cs,_,rfl,_⟩
    ·omega
    clear hL;obtain⟨b0,b1,b2,b3,b4,b5⟩:=a.y.1.oa;have DW:=aC (H.y.later a.y.1.bl);have n2:=DW.y.rd.c2;have RS:=aC (zH a.y.2.1).2;have ak:V0.heap.size<=gs:=jE a.y.2.1 rfl;have aj:gs<wr.heap.size:=eW a.y.2.1 rfl
    by_cases m:s.given=60
    ·have au:(s.given==60)=U6:=by simpa using m
     have E:=aC (SD.y 5 _ a.y.1.tail.tail (D3.y UJ HD.y m));obtain⟨N,p,M,J,m,I,G,T⟩:=E.y.2
     go_wp2_with fail
     exact cO results174 ⟨N,p,M,J,m,I,G,T⟩ E.y.1
    ·have au:(s.given==60)=U5:=by simpa using m
     have FT:=aC (DW.y.fits (u:=u) (cb:=cs) name RS.y (by have:=ad.y.1;omega) UI hu.2);have DF:=aC (a9.y m);generalize aA.dG s.ts s.es name u L=fb at *
     go_wp2_with fail
     refine FT.y.mono ?_;rintro e w8 ⟨rfl,S⟩;have K8:=aC (a.y.1.later S);have R8:=aC (zA (RS.y.later S) (zA (zL aj S.size) ak));clear S
     cases fb
     ·have E:=aC (SD.y 8 _ K8.y.tail.tail (DF.y.trans UJ));obtain⟨N,p,M,J,m,I,G,T⟩:=E.y.2
      go_wp2_with fail
      exact cO results174 ⟨N,p,M,J,m,I,G,T⟩ E.y.1
     ·have al:Hid (s.es.length<60):=by
       show _<_;omega
      have DC:=aC (H.y.later K8.y.bl);have JN:Hid (Va prog 232 #[.pointer (U4 ⟨d,0,U3⟩),.agg #[.int .i64 0,.int .i64 1,.string name,.int .i64 u,.slice (U4 ⟨gs,0,U3⟩) L.length cs,.int .i64 0]] w8 fun e w'=>e=.returned (rM 0 (s.given+1))/\sW w8 d s.ts (xs++[(⟨s.given+1,1,name,u,L,0⟩,gs,cs)]) (s.given+1) s.now F w'):=(Ds d s.ts xs s.given s.now F (⟨0,1,name,u,L,0⟩,gs,cs) w8 DC.y.rd R8.y.1 (fun e=>by have:=H.y.lt gs e;have:=LB.y.2.2.2.2;omega) R8.y.2.1 DC.y.lt (by have:=H.y.len;have:=H.y.el;omega) hg.1 UI);obtain⟨x0,x1,x2,x3,x4,x5⟩:=K8.y.oa;have Q1:=aC (Q7.of (K8.y.kb (w.heap.size,aW) UJ));clear b0 b1 b2 b3 b4 b5 n2
      go_wp2_with fail
      refine JN.y.mono ?_;rintro e w9 ⟨rfl,hj⟩;have JA:=aC (H.y.oT (e:=⟨0,1,name,u,L,0⟩) K8.y.bl (by have:=LB.y.2.2.2.1;omega) (K8.y.lt (q:=(w.heap.size,aW)) UJ) ⟨hu.1,hu.2,ad.y.1,ad.y.2,a8.y⟩ al.y hj (.int .i64 0) (.int .i64 0) (.int .i64 (s.given+1)) aR aR aR aR);obtain⟨N,p,M,J,m,I,G,T⟩:=Q1.y.later JA.y.2;simp only[rM];clear hj JN x0 x1 x2 x3 x4 x5
      go_wp2_with fail
      exact cO results174 ⟨N,p,M,J,m,I,G,T⟩ (by rw[DF.y];exact JA.y.1)
theorem DD.days(h:DD w d s xs F)(p:U9 w.heap.size w Z){B:UY}{l:UV UZ}(o:Z.ownsRow B 3 1 v l.length (l.map (VT .i64)))(H:w.heap.size<=Q)(I:Q<B)(n:UZ)(a b c e f g i:U8):
  dK w d F xs (s,{ bO.num n with days:=l }) (.returned (bC 0 0 n aR v aR aR)) (cK Z Q a b c e f g i):=by
 have m:=lC Z Q a b c e f g i;have z:∀ x,x<w.heap.size->x ∉ [Q]:=fun x j e=>by simp at e;omega
 have u:∀ x∈v.ownBlock.toList,B<=x/\x<Z.heap.size:=fun x j=>⟨jE o (WI.1 j),eW o (WI.1 j)⟩
 refine⟨aR,v,aR,aR,xs,F,v.ownBlock.toList,rfl,fun w2 E=>⟨⟨[],EV.nil _,rfl⟩,⟨(NV.own o).form,fun k C=>?_⟩,NV.nil _⟩,Yl _ _ _ _,(h.later p).off m (fun x j=>z x (h.lt x j)) (fun x j=>z _ (h.rd.sp x j).2.2),fun _ j=>.inl j,(aF.aD p).trans' m (fun x j=>.inr (by simp at j;omega)),fun x j=>?_,fun x j=>by simp[Wr] at j,fun x j=>.inl ⟨x,j,rfl⟩⟩
 ·obtain⟨y,cap,A,G⟩:=(NV.own o).cell k C;have q:y∈v.ownBlock.toList:=by rw[A];simp[Wr]
  have:=u y q;exact⟨y,cap,A,(zo ((E y q).trans (m.block y this.2 UQ))).trans G⟩
 ·have:=u x j;exact⟨by omega,WE this.2 m.size,fun e=>by have:=h.lt x e;omega,by simp[Wr]⟩
theorem LM(h:DD w d s xs F)(x:∀ j,j<n->w.cell? ⟨g,j,U3⟩=U4 (.string (ws j)))(Y:∀ j,(ws j).size<=160)(hr:rE ws 1 k pc acc tm)(hn:k+7<n)(h0:ws 0=⟨#[101,120,112,97,110,100]⟩)(u:Rd.fw (jX ws 1 k pc acc tm)):
  Va prog 117 #[.pointer (U4 ⟨d,0,U3⟩),.slice (U4 ⟨g,0,U3⟩) n c] w (dK w d F xs (aU s (.expand (jX ws 1 k pc acc tm)))):=by
 have o:=aC ((KP.nil w).alloc aW);have H:=aC h;have RL:Hid (∀ W,U9 w.heap.size w W->Va prog 180 #[.slice (U4 ⟨g,0,U3⟩) n c,.int .i64 1] W fun e w'=>e=.returned (mL (jX ws 1 k pc acc tm))/\U9 W.heap.size W w'):=fun W kW=>Ed (i:=1) (fun j hj=>aN kW (x j hj)) Y UI hr hn
 have G:=aC (fun W=>Dr _ u W);have i0:(0:UZ)<(n:UZ):=UI
 have I:=aN o.y.bl (x 0 UI);rw[h0] at I;generalize jX ws 1 k pc acc tm=q at *;simp only[mL,pV] at RL G;have ES:=aC (Rd.pJ u).2;clear h x Y hr u hn h0
 go_in
 go_upto_region 1 with fail
 change YS _ _ _ _ (w.alloc aW);generalize w.alloc aW=X at *
 go_wp2_with fail
 refine (RL.y _ o.y.bl).mono ?_;rintro e w2 ⟨rfl,hb⟩;have HP:=aC ((o.y.later hb).alloc (gW q));clear hb RL o I
 go_upto_region 24 with fail
 change YS _ _ _ _ (w2.alloc (gW q));obtain⟨J,l⟩:∃ J,J=w2.heap.size:=⟨_,rfl⟩;rw[<- l] at HP ⊢;generalize w2.alloc (gW q)=W at *;obtain⟨⟨c0,c1,c9,C,A,z,y⟩,a⟩:=nm HP.y.mE;have j0:=a 0 UI;have j1:=a 1 UI;have j2:=a 2 UI;have j3:=a 3 UI;have j4:=a 4 UI;have j5:=a 5 UI;have j6:=a 6 UI;have hQ:w.heap.size<W.heap.size:=HP.y.lt (q:=(w.heap.size,aW)) UJ;clear a l
 go_wp2_with fail
 refine (G.y _).mono ?_;rintro e w3 ⟨b,hd⟩;replace HP:=aC (HP.y.later b);clear c0 c1 c9 C A z y j0 j1 j2 j3 j4 j5 j6 G;obtain⟨V,U,T,S,P,N,M,fq⟩:=Q7.of (HP.y.kb (w.heap.size,aW) UJ);rcases hd with ⟨f,v,rfl,p⟩|⟨f,rfl⟩
 ·have aa:(Rd.bH q).length<=40:=(ES.y f).2.2.1
  have E:Hid (dK w d F xs (aU s (.expand q)) (.returned (bC 0 0 (Rd.bH q).length aR v aR aR)) (cK w3 w.heap.size (.int .i64 0) (.int .i64 0) (.int .i64 (Rd.bH q).length) aR v aR aR)):=by
   have e:aU s (.expand q)=(s,{ bO.num (Rd.bH q).length with days:=Rd.bH q }):=by simp[aU,f]
   rw[e];exact H.y.days HP.y.bl p (zq _) hQ _ _ _ _ _ _ _ _
  obtain⟨va,vc,rfl⟩:=gB p;clear p f b;generalize (Rd.bH q).length=m at *
  go_wp2_with fail
  exact cO results117 ⟨V,U,T,S,P,N,M,fq⟩ E.y
 ·have E:Hid (dK w d F xs (aU s (.expand q)) (.returned (bC (Rd.gd q) 0 0 aR aR aR aR)) (cK w3 w.heap.size (.int .i64 (Rd.gd q)) (.int .i64 0) (.int .i64 0) aR aR aR aR)):=by
   have e:aU s (.expand q)=(s,bO.error (Rd.gd q)):=by simp[aU,f]
   rw[e];exact H.y.said HP.y.bl (zq _) _ 0 _ _ _ _ _ _ _
  clear f b;generalize Rd.gd q=er at *
  go_wp2_with fail
  exact cO results117 ⟨V,U,T,S,P,N,M,fq⟩ E.y
theorem EH:∀ (es:UV aM)(id i:UZ),0<=i->(aA.jo id es i=-1/\aA.mZ id es=U3)\/∃ k:UY,∃ h:k<es.length,aA.jo id es i=i+k/\aA.mZ id es=U4 es[k]/\es[k].id=id
 |[],id,i,_=>.inl ⟨rfl,rfl⟩
 |e :: r,id,i,h0=>by
  unfold aA.jo aA.mZ
  by_cases h:e.id=id
  ·refine .inr ⟨0,by simp,?_⟩;simp[h]
  ·rcases EH r id (i+1) UI with ⟨b,a⟩|⟨k,f,b,a,j⟩
   ·refine .inl ?_;rw[U0 h];simp only[X9,h,decide_false];exact⟨b,a⟩
   ·refine .inr ⟨k+1,by simpa using f,?_⟩;rw[U0 h];simp only[X9,h,decide_false];exact⟨by rw[b];push_cast;omega,a,j⟩
theorem MD(h:aA.dB es)(f:k<es.length):es.set k (aA.cS es[k])=aA.dZ es[k].id es:=by
 unfold aA.dZ;apply List.ext_getElem UJ;intro i a j;rw[List.getElem_set,ZW];simp only[List.length_set] at a
 split
 ·rename_i e;subst e;simp
 ·rename_i e
  rw[U0];intro l;have:=(List.pairwise_iff_getElem.1 h);rcases Nat.lt_or_gt_of_ne e with b|b
  ·have:=this k i (by simpa using f) (by simpa using a) b;simp only[ZW] at this;omega
  ·have:=this i k (by simpa using a) (by simpa using f) b;simp only[ZW] at this;omega
theorem K7{id:UZ}:(iS id xs).map (·.1)=aA.kept id (xs.map (·.1)):=by
 unfold iS aA.kept;rw[List.filter_map]
 congr 1
def nD(b:Bool)(id:UZ):aA.fJ:=if b then .cancel id else .confirm id
theorem LH(h:DD w d s xs F)(ad:aA.dB s.es)(b:Bool)(hk:(kw.toList==[99,97,110,99,101,108])=b)(ht:t.size<=160)(hn:1<n)(c0:w.cell? ⟨g,0,U3⟩=U4 (.string kw))(c1:w.cell? ⟨g,1,U3⟩=U4 (.string t)):
  Va prog 175 #[.pointer (U4 ⟨d,0,U3⟩),.slice (U4 ⟨g,0,U3⟩) n c] w (dK w d F xs (aU s (nD b (bF t 1 7)))):=by
 have hX:U9 w.heap.size w (w.alloc aW):=(zr _ _).alloc (zq _) _;have hQ:=cC w aW;have H:=aC h;have HX:=aC (zA hX hQ);have x0:=aN hX c0;have x1:=aN hX c1;have ai:(1:UZ)<(n:UZ):=UI
 have ag:(0:UZ)<(n:UZ):=UI
 clear hX hQ c0 c1 h
 go_in
 go_upto_region 1 with fail
 change YS _ _ _ _ (w.alloc aW);generalize w.alloc aW=X at *
 go_wp2_with fail
 refine (eQ t 1 7 X ht UI UI).mono ?_;rintro e w1 ⟨rfl,u⟩;have V:=aC (aZ HX.y.1 u (zq _));have U:=aC (H.y.later V.y);have PL:=aC (U.y.place (bF t 1 7));have PF:=aC (EH s.es (bF t 1 7) 0 (Xk _));have x0:=aN u x0;have Q1:=aC ((Q7.of HX.y.2).later (u.block _ (YR.1 HX.y.2).1));clear u HX x1;generalize bF t 1 7=id at *
 go_wp2_with fail
 refine PL.y.mono ?_;rintro e w2 ⟨rfl,rfl⟩;clear PL;obtain⟨q,M,J,I,G,C,A,N⟩:=Q1.y;rcases PF.y with ⟨e1,e2⟩|⟨k,ab,e1,e2,e3⟩
 ·have hp:aA.jo id s.es 0<0:=UI
  have T:Hid (dK w d F xs (aU s (nD b id)) (.returned (bC 9 0 0 aR aR aR aR)) (cK w2 w.heap.size (.int .i64 9) (.int .i64 0) (.int .i64 0) aR aR aR aR)):=by
   have:=H.y.said V.y (zq _) 9 0 (.int .i64 9) (.int .i64 0) (.int .i64 0) aR aR aR aR;show dK w d F xs _ _ _
   cases b <;> (simp only[nD,aU,e2,Vn,if_true,if_false];exact this)
  clear e1 e2 PF;generalize aA.jo id s.es 0=pl at *
  go_wp2_with fail
  exact cO results175 ⟨q,M,J,I,G,C,A,N⟩ T.y
 ·rw[Int.zero_add] at e1;rw[e1];have hp:¬ ((k:UZ)<0):=UI
  have l:k<xs.length:=by have:=H.y.len;omega
  have aj:(k:UZ)<(s.es.length:UZ):=UI
  have af:(0:UZ)<=(k:UZ):=UI
  clear e1 PF;obtain⟨a,cap,E,P⟩:=U.y.er;obtain rfl:=P.a k l;have cc:=P.c;rw[H.y.len] at cc;have r1:=(P.r k l).c1;have r5:=(P.r k l).c5
  have j:xs[k].1=s.es[k]:=by
   have e:(xs.map (·.1))[k]?=U4 s.es[k]:=by rw[H.y.es];simp[ab]
   rw[WS (by simpa using l),ZR,ZW] at e;exact e
  have fE:=fun o=>P.f o UI
  have HR:=aC P;have z:=aC (zA e2 (zA e3 j));clear e2 e3 P
  cases b
  ·rw[j] at r1 r5
   by_cases m:s.es[k].kind=2
   ·have hq:(s.es[k].kind != 2)=U5:=by simp[m]
    have bk:=U.y.dZ HR.y l (es':=aA.dZ id s.es) (by rw[j,MD ad ab,z.y.2.1]);have S:=bk.2.1;have ak:=bk.2.2;have kE:aF F w2 ((w2.setCell ⟨E,k*6+1,U3⟩ (.int .i64 1)).setCell ⟨E,k*6+5,U3⟩ (.int .i64 0)):=((aF.refl F w2).setCell (.inl S) _ _).setCell (.inl S) _ _;have al:E≠w.heap.size:=by have:=H.y.lt E S;omega
    have hw:aF F w ((w2.setCell ⟨E,k*6+1,U3⟩ (.int .i64 1)).setCell ⟨E,k*6+5,U3⟩ (.int .i64 0)):=(aF.aD V.y).trans kE
    have HD:Hid (aU s (nD U5 id)=({ s with es:=aA.dZ id s.es },⟨0,0,0,[],[],[],[]⟩)):=by
     show _=_;simp[nD,aU,z.y.1,m,bO.num]
    have ac:w.heap.size ∉ F:=fun e=>by have:=H.y.lt _ e;omega
    have Q2:=aC (Q1.y.later (kE.block _ (Vh _ _ q) ac));have HB:=aC (zA bk.1 hw);clear bk kE hw m q M J I G C A N
    go_upto_region 12 with fail
    generalize (Vw (Vw w2 _ _) _ _)=Z at *
    have T:Hid (dK w d F xs (aU s (nD U5 id)) (.returned (bC 0 0 0 aR aR aR aR)) (cK Z w.heap.size (.int .i64 0) (.int .i64 0) (.int .i64 0) aR aR aR aR)):=by
     show dK w d F xs _ _ _;rw[HD.y];refine HB.y.1.mh (fun _ j=>.inl j) HB.y.2 (zq _) ac (fun x j e=>?_) (fun x j=>.inl ?_) 0 0 _ _ _ _ _ _ _
     rotate_left
     ·rcases ZU j with j|rfl
      ·exact⟨x,j,rfl⟩
      ·exact⟨xs[k],Zr l,rfl⟩
     have:x.2.1<w.heap.size:=by
      rcases ZU j with j|rfl
      ·exact (H.y.rd.sp x j).2.2
      ·exact (H.y.rd.sp xs[k] (zg l)).2.2
     omega
    obtain⟨q,M,J,I,G,C,A,N⟩:=Q2.y;clear HB Q2
    go_wp2_with fail
    exact cO results175 ⟨q,M,J,I,G,C,A,N⟩ T.y
   ·have hq:(s.es[k].kind != 2)=U6:=by simp[m]
    have T:Hid (dK w d F xs (aU s (nD U5 id)) (.returned (bC 10 0 0 aR aR aR aR)) (cK w2 w.heap.size (.int .i64 10) (.int .i64 0) (.int .i64 0) aR aR aR aR)):=by
     have:=H.y.said V.y (zq _) 10 0 (.int .i64 10) (.int .i64 0) (.int .i64 0) aR aR aR aR;show dK w d F xs _ _ _;simp only[nD,aU,z.y.1,Vn,if_false,m,ne_eq,not_false_eq_true,if_true];exact this
    clear m
    go_wp2_with fail
    exact cO results175 ⟨q,M,J,I,G,C,A,N⟩ T.y
  ·have WO:=aC (U.y.oM id)
   have HD:Hid (aU s (nD U6 id)=({ s with es:=aA.kept id s.es },⟨0,0,0,[],[],[],[]⟩)):=by
    show _=_;simp[nD,aU,z.y.1,bO.num]
   clear r1 r5 cc fE
   go_wp2_with fail
   refine WO.y.mono ?_;rintro e w3 ⟨vr,rfl,ho,p⟩;obtain⟨av,cv,Y⟩:=gB ho;have FR:=aC (U.y.fresh ho (zq _) p (fun y hy=>(Xq.1 hy).1) (List.length_filter_le ..) (K7.trans (by rw[H.y.es])));have D3:=U.y.later p;obtain⟨v2,y1,_⟩:=D3.rd.ev;have fy:=D3.rd.fz 1;have ae:d≠w.heap.size:=by have:=H.y.lt d H.y.rd.dF;omega
   have kd:aF [d] w3 (w3.setCell ⟨d,1,U3⟩ vr):=aF.aX ..;have Q3:=aC ((Q1.y.later (p.block _ (Vh _ _ q))).later (kd.block _ (zL (Vh _ _ q) p.size) (by simp;exact fun e=>ae e.symm)));have HO:=aC (zA (((aF.aD (F:=F) V.y).trans (aF.aD p)).setCell (.inl H.y.rd.dF) 1 vr) ho);have hz:=V.y.size;have aa:=Vh _ _ q;have aa:w.heap.size<w2.heap.size:=aa;clear ho p D3 kd;rw[Y] at FR Q3 HO ⊢;clear Y q M J I G C A N
   go_upto_region 12 with fail
   generalize (Vw w3 ⟨d,1,U3⟩ _)=Z at *
   have T:Hid (dK w d F xs (aU s (nD U6 id)) (.returned (bC 0 0 0 aR aR aR aR)) (cK Z w.heap.size (.int .i64 0) (.int .i64 0) (.int .i64 0) aR aR aR aR)):=by
    show dK w d F xs _ _ _;rw[HD.y];have hv:∀ b,(YZ av (iS id xs).length cv).ownBlock=U4 b->w2.heap.size<=b:=fun b hb=>jE HO.y.2 hb
    refine FR.y.mh (fun x j=>?_) HO.y.1 (zq _) (fun j=>?_) (fun x j e=>?_) (fun x j=>.inl ⟨x,(Xq.1 j).1,rfl⟩) 0 0 _ _ _ _ _ _ _
    ·rcases Vr.1 j with e|e
     ·have:=hv x (by simpa using e);exact .inr UI
     ·exact .inl e
    ·rcases Vr.1 j with e|e
     ·have:=hv _ (by simpa using e);omega
     ·have:=H.y.lt _ e;omega
    ·have:=(H.y.rd.sp x ((Xq.1 j).1)).2.2;omega
   obtain⟨q,M,J,I,G,C,A,N⟩:=Q3.y;clear FR Q3 HO
   go_wp2_with fail
   exact cO results175 ⟨q,M,J,I,G,C,A,N⟩ T.y
open aA (aM St bO aU kh fp)
theorem Mi{α:Type}(fs:UV UZ)(ys:UV α)(f:fs.length=ys.length):∃ zs:UV α,zs.length=ys.length/\∀ (i:UY)(j:i<ys.length),zs[cH.kf fs i]?=U4 ys[i]:=by
 have b:∀ p:Fin ys.length,∃ i,i<ys.length/\cH.kf fs i=p.1:=fun p=>by
  obtain⟨i,l,a⟩:=cH.wR fs (k:=p.1) (by rw[f];exact p.2);exact⟨i,by omega,a⟩
 refine⟨List.ofFn fun p:Fin ys.length=>ys[Classical.choose (b p)]'(Classical.choose_spec (b p)).1,by simp,fun i j=>?_⟩;have h:cH.kf fs i<ys.length:=by rw[<- f];exact cH.zP fs UI
 rw[List.getElem?_ofFn,dif_pos h,ZR];have a:=Classical.choose_spec (b ⟨cH.kf fs i,h⟩);have e:=cH.Aa (fs:=fs) (by rw[f];exact a.1) UI a.2;simp only[e]
def oW(cs:Array U8)(p:UY)(a b c d e f:U8):Array U8:=(((((cs.setIfInBounds (p*6) a).setIfInBounds (p*6+1) b).setIfInBounds (p*6+2) c).setIfInBounds (p*6+3) d).setIfInBounds (p*6+4) e).setIfInBounds (p*6+5) f
theorem Lw(cs:Array U8)(p:UY)(a b c d e f:U8)(l:p*6+5<cs.size)(q j:UY)(m:j<6):(oW cs p a b c d e f)[q*6+j]?=if q=p then [a,b,c,d,e,f][j]? else cs[q*6+j]?:=by
 unfold oW
 by_cases h:q=p
 ·subst h;rw[U1 rfl];rcases (show j=0\/j=1\/j=2\/j=3\/j=4\/j=5 by omega) with rfl|rfl|rfl|rfl|rfl|rfl
  all_goals
   simp only[Array.getElem?_setIfInBounds,Array.size_setIfInBounds];simp
   try omega
 ·rw[U0 h];simp only[Array.getElem?_setIfInBounds,Array.size_setIfInBounds];rw[U0 UI,U0 UI,U0 UI,U0 UI,U0 UI,U0 UI]
theorem Mh(cs:Array U8)(p:UY)(a b c d e f:U8):(oW cs p a b c d e f).size=cs.size:=by simp[oW]
theorem Mg{cs:Array U8}{t:TypeId}{m:UY × UY}(h:W.heap[O]?=U4 (.cells cs t m))(p:UY)(a b c d e f:U8):((((((W.setCell ⟨O,p*6,U3⟩ a).setCell ⟨O,p*6+1,U3⟩ b).setCell ⟨O,p*6+2,U3⟩ c).setCell ⟨O,p*6+3,U3⟩ d).setCell ⟨O,p*6+4,U3⟩ e).setCell ⟨O,p*6+5,U3⟩ f).heap[O]?=U4 (.cells (oW cs p a b c d e f) t m) :=
 lO (lO (lO (lO (lO (lO h a) b) c) d) e) f
theorem nG.off{wr:U7}{ys:UV (aM × UY × UY)}(h:nG w wr v ys)(k:aF [O] wr wx)(p:wr.heap.size<=O):nG w wx v ys:=by
 refine⟨dO h.own k (fun b a e=>by have:=eW h.own a;simp at e;omega),fun y o=>?_,⟨k.os.trans h.bw.os,k.tape.trans h.bw.tape,k.output.trans h.bw.output,Vg h.bw.size k.size,fun b a=>(k.block b (zL a h.bw.size) (fun e=>by have:=h.bw.size;simp at e;omega)).trans (h.bw.block b a)⟩⟩;obtain⟨m,l,j,f⟩:=h.sl y o;exact⟨m.off k UQ,l,WE j k.size,f⟩
theorem Ek(h:DD w d s xs F)(a9:aA.dB s.es)(name:UU)(fr til:UZ):
  Va prog 235 #[.pointer (U4 ⟨d,0,U3⟩),.string name,.int .i64 fr,.int .i64 til] w fun e w'=>∃ v,e=.returned v/\pg w v (aA.kS name fr til s.es) w':=by
 obtain⟨i0,bm,bf,bc,ba⟩:=info_parts wJ;have H:=aC h;have ca:=h.len;have cn:=h.el;clear h
 go_in
 go_wp2_with fail
 go_loopw [9,10,11,12] (fun v i _ _ wx=>∃ k:UY,k<=xs.length/\i=.int .i64 k/\∃ ys,nG w wx v ys/\ys.length<=k/\(∀ y∈ys,EB y.1)/\ys.map (·.1)=((xs.take k).map (·.1)).filter (kh name fr til)) (fun _ i _ _ _=>xs.length-(intOf i).toNat)
 case atStart=>exact⟨0,V6 _,rfl,[],⟨Yl _ _ _ _,by simp,Below.refl _ _⟩,by simp,by simp,by simp⟩
 case round =>
  obtain⟨k,hk,rfl,ys,hR,ch,ab,S⟩:=hrel;have hD:=H.y.later hR.bw;obtain⟨a,cap,E,hr⟩:=hD.er;have cc:=hr.c;have HR:=aC (zA hR (zA S ab))
  by_cases ac:k<xs.length
  ·obtain rfl:=hr.a k ac;have f:=hr.r k ac;have c0:=f.c0;have c1:=f.c1;have c2:=f.c2;have c3:=f.c3;have c4:=f.c4;have c5:=f.c5;have I:(k:UZ)<(xs.length:UZ):=UI
   have ae:=H.y.en xs[k].1 (H.y.es ▸ V9.2 ⟨_,Zr ac,rfl⟩);have hX:U9 wr.heap.size wr (wr.alloc (nC xs[k])):=(zr _ _).alloc (zq _) _;have hE:(wr.alloc (nC xs[k])).heap[wr.heap.size]?=U4 (nC xs[k]):=cC _ _
   have ht:(xs.take (k+1)).map (·.1)=(xs.take k).map (·.1)++[xs[k].1]:=by rw[V5 ac,We];rfl
   have HT:=aC ht;have RX:=aC (zA (hR.later hX) (zA (f.sl.later hX) (zA ae hX)));have az:0<xs[k].1.aL.length/\xs[k].1.aL.length<=1000:=⟨Zo.2 ae.s0,by have:=ae.sl;omega⟩;have FA:=aC (Ak xs[k] fr til _ RX.y.2.1 UI)
   have ax:kh name fr til xs[k].1=U5->ys.map (·.1)=((xs.take (k+1)).map (·.1)).filter (kh name fr til):=fun h=>by rw[ht,VF,S];simp[h]
   have ST:=aC ax
   go_upto_region 6 with fail
   change YS _ _ _ _ (wr.alloc (nC xs[k]));have f0:=rN hE;have f1:=s8 hE;have f2:=rO hE;have f3:=rP hE;have f4:=rQ hE;have f5:=s9 hE;have hN:wr.heap.size<(wr.alloc (nC xs[k])).heap.size:=UJ
   clear hR S ab hD hr f ht ae hX c0 c1 c2 c3 c4 c5 cc ax;generalize wr.alloc (nC xs[k])=X at *
   go_wp2_with fail
   refine FA.y.mono ?_;rintro e w4 ⟨rfl,A⟩;have bb:=(A.block wr.heap.size hN).trans hE;have R4:=aC (zA (RX.y.1.later A) (RX.y.2.1.later A));have f0:=rN bb;have f1:=s8 bb;have f2:=rO bb;have f3:=rP bb;have f4:=rQ bb;have f5:=s9 bb;have af:Hid (kh name fr til xs[k].1=((xs[k].1.aT.toList==name.toList) && (xs[k].1.kind != 3) && decide (0<=fp fr til xs[k].1.aL))):=rfl;generalize fp fr til xs[k].1.aL=ff at *;clear A FA hE
   have a6:kh name fr til xs[k].1=U5->∃ aa:UY,aa<=xs.length/\(VT .i64 ((k:UZ)+1))=.int .i64 aa/\∃ ys,nG w w4 u9 ys/\ys.length<=aa/\(∀ y∈ys,EB y.1)/\ys.map (·.1)=((xs.take aa).map (·.1)).filter (kh name fr til) :=
    fun h=>⟨k+1,by omega,rfl,ys,R4.y.1,by omega,HR.y.2.2,ST.y h⟩
   have NO:=aC a6;clear a6
   cases q1:(xs[k].1.aT.toList==name.toList)
   ·have N1:=aC (NO.y (by rw[af.y,q1];rfl))
    go_wp2
    go_roundw
    case rel=>exact N1.y
    case measure=>simp[intOf];omega
   ·cases q2:(xs[k].1.kind != 3)
    ·have N1:=aC (NO.y (by rw[af.y,q2];simp))
     go_wp2
     go_roundw
     case rel=>exact N1.y
     case measure=>simp[intOf];omega
    ·by_cases q3:0<=ff
     ·have S1:Hid (kh name fr til xs[k].1=U6):=by show _=_;rw[af.y,q1,q2];simpa using q3
      have CP:=aC (Mv xs[k] w4 R4.y.2 az.1 az.2)
      go_wp2_with fail
      refine CP.y.mono ?_;rintro e w5 ⟨gq,cq,rfl,a1,a2,a3,M⟩;simp only[dN];have R5:=aC (R4.y.1.later M);have a7:u9.ownBlock≠U4 gq:=fun e=>by have:=eW R4.y.1.own e;omega
      have Q5:=aC (zA a1 (zA (Vg R4.y.1.bw.size a2) (zA a3 a7)));have bs:=R5.y.bw.size;clear M a1 a2 a3 a7 f0 f1 f2 f3 f4 f5 CP q1 q2 bb
      go_wp2_with (first|(at_builtin;refine KN rfl _ _ rfl R5.y.own (xs[k].1,gq,cq) rfl rfl UI bs ?_;intro g6 c6 w6 a5 k6 ak))
      have R6:=aC (R5.y.snoc Q5.y a5 k6 ak);clear a5 k6 ak;go_roundw
      case rel =>
       refine⟨k+1,by omega,by go_num,_,R6.y,by simp;omega,fun y hy=>?_,by rw[We,HR.y.2.1,HT.y,VF];simp[S1.y]⟩;rcases Vr.1 hy with hy|hy
       ·exact HR.y.2.2 y hy
       ·have:y=(xs[k].1,gq,cq):=by simpa using hy
        subst this;exact RX.y.2.2.1
      case measure=>simp[intOf];omega
     ·have N1:=aC (NO.y (by rw[af.y];simp;omega))
      go_wp2
      go_roundw
      case rel=>exact N1.y
      case measure=>simp[intOf];omega
  ·have e:xs.take k=xs:=List.take_of_length_le UI;have I:¬ (k:UZ)<(xs.length:UZ):=UI
   have bo:ys.map (·.1)=s.es.filter (kh name fr til):=by rw[S,e,H.y.es]
   have cg:ys.length<=60:=UI
   obtain⟨ay,cy,rfl⟩:=gB hR.own;have u:=aC (zA hR (zA bo ab));clear hR S ab hD hr e HR
   by_cases N:ys.length=0
   ·have h0:ys=[]:=List.length_eq_zero_iff.1 N
    have HF:Hid (pg w aR (aA.kS name fr til s.es) wr):=by
     refine⟨[],[],?_,fun w2 _=>EV.nil w2,by simp,u.y.1.bw⟩;have:=u.y.2.1;rw[h0] at this;unfold aA.kS;rw[<- this];rfl
    have bg:((ys.length:UZ)==0)=U6:=by simp[N]
    go_wp2
    go_ret;exact⟨_,rfl,HF.y⟩
   ·have bg:((ys.length:UZ)==0)=U5:=by simp[N]
    have a8:0<ys.length:=UI
    have ao:=run_make (P:=prog) wr 34 58 i0 _ underlying34 bm bf .i64 .i64 ys.length ys.length UI (Xk _) (by rw[ba];omega) UI;simp only[Int.toNat_natCast] at ao;obtain⟨G,Y⟩:∃ G,G=madeCells (Value.agg #[.int .i64 0,.int .i64 0,.string ⟨#[]⟩,.int .i64 0,.slice U3 0 0,.int .i64 0]).cells (ys.length*i0.size):=⟨_,rfl⟩;rw[<- Y] at ao;have bq:G.size=ys.length*6:=by rw[Y,size_madeCells,bc]
    clear Y;obtain⟨a',cf,gl,he,_,ha,_⟩:=wM u.y.1.own (fun y hy=>(u.y.1.sl y hy).1);simp only[Zp,true_and] at he;obtain⟨rfl,rfl⟩:=he;obtain rfl:=ha (by intro e;simp[e] at a8)
    have ag:Hid (∀ wx,aF [wr.heap.size] wr wx->∀ (i:UY) (I:i<ys.length),RE wx gl i ys[i].1 ys[i].2.1 ys[i].2.2):=fun wx k=>by
     have R:=u.y.1.off k (zq _);obtain⟨a2,c2,g2,he,_,bu,bh⟩:=wM R.own (fun y hy=>(R.sl y hy).1);have:=bu (by intro e;simp[e] at a8);simp only[Zp,this,ZR,ZS] at he;obtain⟨⟨rfl,_⟩,_⟩:=he;exact bh
    obtain⟨fs,aq⟩:∃ fs,fs=aA.nH fr til (ys.map (·.1)):=⟨_,rfl⟩
    have FS:Hid (fs.length=ys.length/\∀ (i:UY) (I:i<ys.length),fs.getD i 0=fp fr til ys[i].1.aL):=by
     rw[aq];refine⟨by simp[aA.nH],fun i I=>?_⟩;rw[aA.An (by simpa using I)];simp
    have b8:=aC aq;have YE:Hid (∀ (i:UY) (I:i<ys.length),ys[i].1.aL.length<=1000):=fun i I=>by have:=(u.y.2.2 ys[i] (zg I)).sl;omega
    clear aq ha
    go_upto_region 12 with fail
    have hO:=cC wr (.cells G 58);have kO:aF [wr.heap.size] wr (wr.alloc (.cells G 58)):=(aF.refl _ _).alloc _;have OO:=aC (zA kO hO);clear ao kO hO cc;generalize wr.alloc (.cells G 58)=Wo at *;have bn:gl<wr.heap.size:=eW u.y.1.own rfl;obtain⟨O,au⟩:∃ O,O=wr.heap.size:=⟨_,rfl⟩;rw[<- au] at OO ag bn ⊢;have av:=aC au;clear au;obtain⟨W1,bv⟩:∃ W1,W1=wr:=⟨_,rfl⟩;subst bv
    go_wp2_with fail
    go_loopw [14,15,16,17,18] (fun i _ _ _ _ wx=>∃ j:UY,j<=ys.length/\i=.int .i64 j/\∃ cs,aF [O] W1 wx/\wx.heap[O]?=U4 (.cells cs 58)/\cs.size=ys.length*6/\∀ (j':UY) (_:j'<j) (hl:j'<ys.length) (c:UY),c<6->cs[cH.kf fs j'*6+c]?=(dN ys[j'])[c]?) (fun i _ _ _ _ _=>ys.length-(intOf i).toNat)
    case atStart=>exact⟨0,V6 _,rfl,G,OO.y.1,OO.y.2,bq,fun j' h=>by omega⟩
    case round =>
     obtain⟨j,hj,rfl,cs,m,o,U,x⟩:=hrel;have HC:=aC (zA m (zA o (zA U x)))
     by_cases J:j<ys.length
     ·have f:=ag.y _ m j J;have c0:=f.c0;have c1:=f.c1;have c2:=f.c2;have c3:=f.c3;have c4:=f.c4;have c5:=f.c5;have bj:(j:UZ)<(ys.length:UZ):=UI
      have FA:=aC (Ak ys[j] fr til _ f.sl (by have:=YE.y j J;omega));have FJ:=FS.y.2 j J;rw[<- FJ] at FA;clear m o U x f FJ
      go_wp2_with fail
      refine FA.y.mono ?_;rintro e w4 ⟨rfl,A⟩;have H4:Hid (aF [O] W1 w4/\w4.heap[O]?=U4 (.cells cs 58)):=⟨HC.y.1.trans (aF.aD A),(A.block _ (YR.1 HC.y.2.1).1).trans HC.y.2.1⟩;obtain⟨fj,ar⟩:∃ fj,fj=fs.getD j 0:=⟨_,rfl⟩;rw[<- ar];have b9:=aC ar;clear A FA c0 c1 c2 c3 c4 c5 ar
      go_wp2_with fail
      go_loopw [15,17,18] (fun at_ i _ wx=>∃ q:UY,q<=ys.length/\i=.int .i64 q/\at_=.int .i64 (cH.upto fs j q:UY)/\aF [O] W1 wx/\wx.heap[O]?=U4 (.cells cs 58)) (fun _ i _ _=>ys.length-(intOf i).toNat)
      case atStart=>exact⟨0,V6 _,rfl,rfl,H4.y⟩
      case round =>
       obtain⟨q,hq,rfl,rfl,m,o⟩:=hrel;have cj:=cH.zQ fs j q
       by_cases an:q<ys.length
       ·have f:=ag.y _ m q an;have c0:=f.c0;have c1:=f.c1;have c2:=f.c2;have c3:=f.c3;have c4:=f.c4;have c5:=f.c5;have bi:(q:UZ)<(ys.length:UZ):=UI
        have FA:=aC (Ak ys[q] fr til _ f.sl (by have:=YE.y q an;omega));have FJ:=FS.y.2 q an;rw[<- FJ] at FA;have UP:Hid (cH.upto fs j (q+1)=cH.upto fs j q+if cH.before fs q j then 1 else 0):=cH.uT fs j q;have BF:Hid (cH.before fs q j=(decide (fs.getD q 0<fj) || (decide (fs.getD q 0=fj) && decide (q<j)))):=by show _=_;rw[b9.y];rfl
        have HO:=aC (zA m o);clear m o f FJ
        go_wp2_with fail
        refine FA.y.mono ?_;rintro e w5 ⟨rfl,M⟩;have H5:Hid (aF [O] W1 w5/\w5.heap[O]?=U4 (.cells cs 58)):=⟨HO.y.1.trans (aF.aD M),(M.block _ (YR.1 HO.y.2).1).trans HO.y.2⟩;generalize fs.getD q 0=fq at *;generalize cH.upto fs j q=uq at *;clear M FA c0 c1 c2 c3 c4 c5;have ai:cH.before fs q j=U6->∃ C:UY,C<=ys.length/\(VT .i64 ((q:UZ)+1))=.int .i64 C/\(VT .i64 ((uq:UZ)+1))=.int .i64 (cH.upto fs j C:UY)/\aF [O] W1 w5/\w5.heap[O]?=U4 (.cells cs 58):=fun h=>⟨q+1,by omega,rfl,by rw[UP.y,h];rfl,H5.y⟩
        have aj:cH.before fs q j=U5->∃ C:UY,C<=ys.length/\(VT .i64 ((q:UZ)+1))=.int .i64 C/\(VT .i64 (uq:UZ))=.int .i64 (cH.upto fs j C:UY)/\aF [O] W1 w5/\w5.heap[O]?=U4 (.cells cs 58):=fun h=>⟨q+1,by omega,rfl,by rw[UP.y,h];rfl,H5.y⟩
        have HY:=aC ai;have HN:=aC aj;clear ai aj
        by_cases a1:fq<fj
        ·have Y1:=aC (HY.y (by rw[BF.y];simp[a1]))
         go_wp2
         go_roundw
         case rel=>exact Y1.y
         case measure=>simp[intOf];omega
        ·by_cases a2:fq=fj
         ·have b6:(fq==fj)=U6:=by simpa using a2
          by_cases a3:q<j
          ·have Y1:=aC (HY.y (by rw[BF.y];simp[a2,a3]));have b4:(q:UZ)<(j:UZ):=UI
           clear a2
           go_wp2
           go_roundw
           case rel=>exact Y1.y
           case measure=>simp[intOf];omega
          ·have Y1:=aC (HN.y (by rw[BF.y];simp[a1,a3]));have b4:¬ (q:UZ)<(j:UZ):=UI
           clear a2
           go_wp2
           go_roundw
           case rel=>exact Y1.y
           case measure=>simp[intOf];omega
         ·have b6:(fq==fj)=U5:=by simpa using a2
          have Y1:=aC (HN.y (by rw[BF.y];simp[a1,a2]));clear a2
          go_wp2
          go_roundw
          case rel=>exact Y1.y
          case measure=>simp[intOf];omega
       ·have e:cH.upto fs j q=cH.kf fs j:=by unfold cH.kf;rw[FS.y.1,show q=ys.length by omega]
        have bi:¬ (q:UZ)<(ys.length:UZ):=UI
        have a4:=cH.zP fs (i:=j) (by rw[FS.y.1];exact J);rw[FS.y.1] at a4;rw[e];have f:=ag.y _ m j J;have c0:=f.c0;have c1:=f.c1;have c2:=f.c2;have c3:=f.c3;have c4:=f.c4;have c5:=f.c5;have U:=HC.y.2.2.1;have cm:(j:UZ)<(ys.length:UZ):=UI
        obtain⟨p,hp⟩:∃ p,p=cH.kf fs j:=⟨_,rfl⟩;rw[<- hp] at a4 ⊢;have HP:=aC hp;have ck:(p:UZ)<(ys.length:UZ):=UI
        have oc:∀ c,c<6->∃ v,wr.cell? ⟨O,p*6+c,U3⟩=U4 v:=fun c hc=>by
         have h9:p*6+c<cs.size:=UI
         exact⟨cs[p*6+c],by simp[VA,o,h9]⟩
        obtain⟨v0,o0⟩:=oc 0 UI;obtain⟨v1,o1⟩:=oc 1 UI;obtain⟨v2,o2⟩:=oc 2 UI;obtain⟨v3,o3⟩:=oc 3 UI;obtain⟨v4,o4⟩:=oc 4 UI;obtain⟨v5,o5⟩:=oc 5 UI;rw[Nat.add_zero] at o0;have of:=uD o;have cd:gl≠O:=by have:=av.y;omega
        have HO:=aC (zA m o);clear m o f hp oc e U
        go_wp2
        go_roundw
        case rel =>
         refine⟨j+1,by omega,by go_num,oW cs p (.int .i64 ys[j].1.id) (.int .i64 ys[j].1.kind) (.string ys[j].1.aT) (.int .i64 ys[j].1.aH) (.slice (U4 ⟨ys[j].2.1,0,U3⟩) ys[j].1.aL.length ys[j].2.2) (.int .i64 ys[j].1.bY),((((((HO.y.1.setCell (.inl UJ) _ _).setCell (.inl UJ) _ _).setCell (.inl UJ) _ _).setCell (.inl UJ) _ _).setCell (.inl UJ) _ _).setCell (.inl UJ) _ _),Mg HO.y.2 p _ _ _ _ _ _,by rw[Mh];exact HC.y.2.2.1,fun j' h1 h2 c h3=>?_⟩;rw[Lw _ _ _ _ _ _ _ _ (by have:=HC.y.2.2.1;omega) _ _ h3]
         by_cases e1:j'=j
         ·subst e1;rw[HP.y,U1 rfl];rfl
         ·rw[U0,HC.y.2.2.2 j' UI h2 c h3];intro e2;rw[HP.y] at e2;exact e1 (cH.Aa (fs:=fs) (by rw[FS.y.1];exact h2) (by rw[FS.y.1];exact J) e2)
        case measure=>simp[intOf];omega
     ·have bj:¬ (j:UZ)<(ys.length:UZ):=UI
      have HF:Hid (pg w (.slice (U4 ⟨O,0,U3⟩) ys.length ys.length) (aA.kS name fr til s.es) wr):=by
       obtain⟨zs,aw,al⟩:=Mi fs ys FS.y.1;have R:=u.y.1.off m (by rw[av.y];exact zq _)
       have V:∀ z∈zs,z∈ys:=fun z N=>by
        obtain⟨p,hp,rfl⟩:=List.getElem_of_mem N;obtain⟨i,I,e⟩:=cH.wR fs (k:=p) (by rw[FS.y.1];omega);have:=al i (by rw[<- FS.y.1];exact I);rw[e,WS hp,ZR] at this;rw[this];exact zg _
       have bz:O<wr.heap.size:=(YR.1 o).1;have T:=Ld (w:=w) (w':=wr) (g:=O) (cap:=ys.length) (a:=U4 ⟨O,0,U3⟩) (zs:=zs) (fun _=>rfl) (fun p hp=>?_) (fun _=>⟨by have:=u.y.1.bw.size;have:=av.y;omega,bz⟩) (fun z N=>⟨(R.sl z (V z N)).2.1,(R.sl z (V z N)).2.2.1⟩) R.bw
       ·rw[aw] at T;have e1:=aA.Hd (name:=name) (a:=fr) (b:=til) (es:=s.es) (y:=zs.map (·.1)) a9
        obtain⟨p1,p2⟩:=aA.Mp (a:=fr) (b:=til) (l:=ys.map (·.1)) (y:=zs.map (·.1)) (by rw[u.y.2.1];exact aA.ye _ a9) (by simp[aw]) (fun i I=>by
         have ad:i<ys.length:=by simpa using I
         rw[<- b8.y,Yd,al i ad];simp)
        rw[e1 p1 (fun e=>by rw[p2 e,u.y.2.1])] at T;exact T
       ·obtain⟨i,I,e⟩:=cH.wR fs (k:=p) (by rw[FS.y.1];omega);have ad:i<ys.length:=by rw[<- FS.y.1];exact I
        have N:=al i ad;rw[e,WS hp,ZR] at N
        have cl:∀ c,c<6->wr.cell? ⟨O,p*6+c,U3⟩=(dN zs[p])[c]?:=fun c hc=>by
         have:=x i UI ad c hc;rw[e] at this;rw[N,<- this];simp[VA,o]
        exact⟨cl 0 UI,cl 1 UI,cl 2 UI,cl 3 UI,cl 4 UI,cl 5 UI,(R.sl zs[p] (V _ (zg hp))).1⟩
      clear m o U x
      go_wp2
      go_ret;exact⟨_,rfl,HF.y⟩
theorem DD.lH(h:DD w d s xs F)(q:U9 w.heap.size w X)(T:pg X v es Z)(I:w.heap.size<=Q)(C:Q<X.heap.size)(a b c e f g i:U8):dK w d F xs (s,{ bO.num 0 with entries:=es }) (.returned (bC 0 0 0 v aR aR aR)) (cK Z Q a b c e f g i):=by
 obtain⟨l,G,A,E,p,z⟩:=T;have m:=lC Z Q a b c e f g i;have kw:U9 w.heap.size w Z:=aZ q z (zq _);have u:∀ x,x<w.heap.size->x ∉ [Q]:=fun x j e=>by simp at e;omega
 have o:∀ x∈G,x ∉ [Q]:=fun x j e=>by have:=(p x j).1;simp at e;omega
 refine⟨v,aR,aR,aR,xs,F,G,rfl,fun w2 y=>⟨⟨l,E w2 (fun x j=>(y x j).trans (m.block x (p x j).2 (o x j))),A⟩,NV.nil _,NV.nil _⟩,Yl _ _ _ _,(h.later kw).off m (fun x j=>u x (h.lt x j)) (fun x j=>u _ (h.rd.sp x j).2.2),fun _ j=>.inl j,(aF.aD kw).trans' m (fun x j=>.inr (by simp at j;omega)),fun x j=>?_,fun x j=>by simp[Wr] at j,fun x j=>.inl ⟨x,j,rfl⟩⟩;have H:=p x j;have y:=q.size;exact⟨by omega,WE H.2 m.size,fun e=>by have:=h.lt x e;omega,by simp[Wr]⟩
theorem pg.bw(h:pg w v es w'):U9 w.heap.size w w':=by obtain⟨_,_,_,_,_,k⟩:=h;exact k
theorem pg.form(h:pg w v es w'):∃ a cap,v=.slice a es.length cap:=by
 obtain⟨l,G,b,f,_⟩:=h;obtain⟨a,c,e⟩:=(f w' (fun _ _=>rfl)).form;exact⟨a,c,by rw[<- b,Wu];exact e⟩
def yY(b:Bool)(name:UU)(fr til:UZ):aA.fJ:=if b then .list name fr til else .cY name fr til
def Kt(w:U7)(g n:UY)(b:Bool)(fr til:UZ):Prop:=(n=2/\b=U6/\fr=0/\til=1048320)\/(3<n/\∃ t u:UU,t.size<=160/\u.size<=160/\w.cell? ⟨g,2,U3⟩=U4 (.string t)/\w.cell? ⟨g,3,U3⟩=U4 (.string u)/\cZ t=fr/\cZ u=til)
theorem Ag(h:DD w d s xs F)(P:aA.dB s.es){b:Bool}{fr til:UZ}(hb:(kw.toList==[108,105,115,116])=b)(hn:1<n)(ht:Kt w g n b fr til)(h0:w.cell? ⟨g,0,U3⟩=U4 (.string kw))(h1:w.cell? ⟨g,1,U3⟩=U4 (.string name)):
  Va prog 177 #[.pointer (U4 ⟨d,0,U3⟩),.slice (U4 ⟨g,0,U3⟩) n c] w (dK w d F xs (aU s (yY b name fr til))):=by
 have a:=aC ((KP.nil w).alloc aW);have H:=aC h;have i0:(0:UZ)<(n:UZ):=UI
 have i1:(1:UZ)<(n:UZ):=UI
 have y0:=aN a.y.bl h0;have y1:=aN a.y.bl h1;have G:w.heap.size<(w.alloc aW).heap.size:=UJ
 have M:Hid (aU s (yY b name fr til)=if aA.bJ name s.ts=0 then (s,.error 3) else if til<=fr then (s,.error 6) else if b then (s,{ bO.num 0 with entries:=aA.kS name fr til s.es }) else (s,.num (aA.lE name s.es fr til))):=by
  show _=_
  cases b <;> rfl
 clear h
 go_in
 go_upto_region 1 with fail
 change YS _ _ _ _ (w.alloc aW);generalize w.alloc aW=X at *;generalize aU s (yY b name fr til)=D at *;rcases ht with ⟨rfl,rfl,rfl,rfl⟩|⟨h3,t,u,zt,zu,ct,cu,rfl,rfl⟩
 ·have N:=aC (H.y.later a.y.bl);have UN:=aC (N.y.aH name);have LS:=aC (Ek N.y P name 0 1048320);have J:=aC (Q7.of (a.y.kb (w.heap.size,aW) UJ));generalize aA.bJ name s.ts=un at *
  go_wp2_with fail
  refine UN.y.mono ?_;rintro e w3 ⟨rfl,rfl⟩
  by_cases f:un=0
  ·have A:Hid (dK w d F xs D (.returned (bC 3 0 0 aR aR aR aR)) (cK w3 w.heap.size (.int .i64 3) (.int .i64 0) (.int .i64 0) aR aR aR aR)):=by
    show dK w d F xs _ _ _;rw[M.y,U1 f];exact H.y.said a.y.bl (zq _) 3 0 _ _ _ _ _ _ _
   have I:(un==0)=U6:=by simpa using f
   obtain⟨y,x,p,o,m,l,j,z⟩:=J.y;clear f
   go_wp2_with fail
   exact cO results177 ⟨y,x,p,o,m,l,j,z⟩ A.y
  ·have I:(un==0)=U5:=by simpa using f
   have U:Hid (D=(s,{ bO.num 0 with entries:=aA.kS name 0 1048320 s.es })):=by show _=_;rw[M.y,U0 f];rfl
   clear f
   go_wp2_with fail
   refine LS.y.mono ?_;rintro e w4 ⟨v,rfl,C⟩;obtain⟨al,cl,V⟩:=C.form
   have A:Hid (dK w d F xs D (.returned (bC 0 0 0 v aR aR aR)) (cK w4 w.heap.size (.int .i64 0) (.int .i64 0) (.int .i64 0) v aR aR aR)):=by
    show dK w d F xs _ _ _;rw[U.y];exact H.y.lH a.y.bl C (zq _) G _ _ _ _ _ _ _
   obtain⟨y,x,p,o,m,l,j,z⟩:=J.y.later (C.bw.block _ G);clear C;subst V
   go_wp2_with fail
   exact cO results177 ⟨y,x,p,o,m,l,j,z⟩ A.y
 ·have i2:(2:UZ)<(n:UZ):=UI
  have i3:(3:UZ)<(n:UZ):=UI
  have c2:=aN a.y.bl ct;have T1:=aC (fun wx=>qs t wx zt);have T2:=aC (fun wx=>qs u wx zu);generalize cZ t=fr at *;generalize cZ u=til at *
  go_wp2_with fail
  refine (T1.y _).mono ?_;rintro e w1 ⟨rfl,T⟩;replace a:=aC (a.y.later T);have c3:=aN a.y.bl cu;clear T y0 y1 c2 G
  go_wp2_with fail
  refine (T2.y _).mono ?_;rintro e w2 ⟨rfl,S⟩;replace a:=aC (a.y.later S);have y0:=aN a.y.bl h0;have y1:=aN a.y.bl h1;have G:w.heap.size<w2.heap.size:=a.y.lt (q:=(w.heap.size,aW)) UJ;clear S c3 T1 T2 X;have N:=aC (H.y.later a.y.bl);have UN:=aC (N.y.aH name);have LS:=aC (Ek N.y P name fr til);have PK:=aC (N.y.cY name fr til);have J:=aC (Q7.of (a.y.kb (w.heap.size,aW) UJ));generalize aA.bJ name s.ts=un at *;generalize aA.lE name s.es fr til=pk at *
  go_wp2_with fail
  refine UN.y.mono ?_;rintro e w3 ⟨rfl,rfl⟩
  by_cases f:un=0
  ·have A:Hid (dK w d F xs D (.returned (bC 3 0 0 aR aR aR aR)) (cK w3 w.heap.size (.int .i64 3) (.int .i64 0) (.int .i64 0) aR aR aR aR)):=by
    show dK w d F xs _ _ _;rw[M.y,U1 f];exact H.y.said a.y.bl (zq _) 3 0 _ _ _ _ _ _ _
   have I:(un==0)=U6:=by simpa using f
   obtain⟨y,x,p,o,m,l,j,z⟩:=J.y;clear f
   go_wp2_with fail
   exact cO results177 ⟨y,x,p,o,m,l,j,z⟩ A.y
  ·have I:(un==0)=U5:=by simpa using f
   by_cases Y:til<=fr
   ·have A:Hid (dK w d F xs D (.returned (bC 6 0 0 aR aR aR aR)) (cK w3 w.heap.size (.int .i64 6) (.int .i64 0) (.int .i64 0) aR aR aR aR)):=by
     show dK w d F xs _ _ _;rw[M.y,U0 f,U1 Y];exact H.y.said a.y.bl (zq _) 6 0 _ _ _ _ _ _ _
    obtain⟨y,x,p,o,m,l,j,z⟩:=J.y;clear f
    go_wp2_with fail
    exact cO results177 ⟨y,x,p,o,m,l,j,z⟩ A.y
   ·cases b
    ·have U:Hid (D=(s,.num pk)):=by show _=_;rw[M.y,U0 f,U0 Y];rfl
     clear f
     go_wp2_with fail
     refine PK.y.mono ?_;rintro e w4 ⟨rfl,E⟩;have B4:=aC (aZ a.y.bl E (zq _))
     have A:Hid (dK w d F xs D (.returned (bC 0 0 pk aR aR aR aR)) (cK w4 w.heap.size (.int .i64 0) (.int .i64 0) (.int .i64 pk) aR aR aR aR)):=by
      show dK w d F xs _ _ _;rw[U.y];exact H.y.said B4.y (zq _) 0 pk _ _ _ _ _ _ _
     obtain⟨y,x,p,o,m,l,j,z⟩:=J.y.later (E.block _ G);clear E
     go_wp2_with fail
     exact cO results177 ⟨y,x,p,o,m,l,j,z⟩ A.y
    ·have U:Hid (D=(s,{ bO.num 0 with entries:=aA.kS name fr til s.es })):=by show _=_;rw[M.y,U0 f,U0 Y];rfl
     clear f
     go_wp2_with fail
     refine LS.y.mono ?_;rintro e w4 ⟨v,rfl,C⟩;obtain⟨al,cl,V⟩:=C.form
     have A:Hid (dK w d F xs D (.returned (bC 0 0 0 v aR aR aR)) (cK w4 w.heap.size (.int .i64 0) (.int .i64 0) (.int .i64 0) v aR aR aR)):=by
      show dK w d F xs _ _ _;rw[U.y];exact H.y.lH a.y.bl C (zq _) G _ _ _ _ _ _ _
     obtain⟨y,x,p,o,m,l,j,z⟩:=J.y.later (C.bw.block _ G);clear C;subst V
     go_wp2_with fail
     exact cO results177 ⟨y,x,p,o,m,l,j,z⟩ A.y
open aA (aM St bO Inv aU ig)
def kC:UV UU:=[kv,kn,kr,dY,km,ki,kL,ic,iZ]
def qe(t:UU):Prop:=∃ k∈kC,bD (aB.aP t) 0 U5 k=U6
def De(t:UU):(UZ × UZ) ⊕ aA.fJ->Prop
 |.inl (er,at_)=>(160<t.size/\er=1/\at_=0)\/(t.size<=160/\∃ m:UY,jk t=(U3,m)/\er=2/\at_=m)
 |.inr l=>t.size<=160/\∃ q,Full t q/\iD (aB.aP t) q l/\aA.jA l
def kH(s:St):(UZ × UZ) ⊕ aA.fJ->St × bO
 |.inl (er,at_)=>(s,⟨er,at_,0,[],[],[],[]⟩)
 |.inr l=>ig s l
def wo:(UZ × UZ) ⊕ aA.fJ->Prop
 |.inl _=>True
 |.inr l=>lJ l=U6
theorem C5{b:TypeId}{a:Array U8}{l:aA.fJ}(ht:b=165\/b=180)(h:LV (.iface b (.agg a)) l):lJ l=U6:=by
 generalize f:Value.iface b (.agg a)=v at h;rcases ht with rfl|rfl <;> cases h <;> first|rfl|simp at f
theorem DV(h:qe t):∃ v st,gK (aB.aP t) v st/\qi t st/\(st.2=U5->cB (aB.aP t).length st.1 st.2=U5->∃ q l,Full t q/\iD (aB.aP t) q l/\LV v l/\aA.jA l/\lJ l=U6):=by
 obtain⟨k,u,h⟩:=h
 have f:∀ {v st},gK (aB.aP t) v st->nA t v st->(∀ l,LV v l->lJ l=U6)->∃ v st,gK (aB.aP t) v st/\qi t st/\(st.2=U5->cB (aB.aP t).length st.1 st.2=U5->∃ q l,Full t q/\iD (aB.aP t) q l/\LV v l/\aA.jA l/\lJ l=U6):=fun {v st} E x C=>⟨v,st,E,x.1,fun a b=>by
  obtain⟨q,l,A,z,p,y⟩:=x.2 a b
  exact⟨q,l,A,z,p,y,C l p⟩⟩
 simp only[kC,Vq,ZQ,or_false] at u;rcases u with rfl|rfl|rfl|rfl|rfl|rfl|rfl|rfl|rfl
 ·exact f (.aT h) (Mn h) (fun l j=>by cases j;rfl)
 ·exact f (.book h) (Lr h) (fun l j=>by cases j;rfl)
 ·exact f (.cancel h) (Mu h) (fun l j=>by cases j;rfl)
 ·cases o:cB (aB.aP t).length (aQ (aB.aP t) [bI] (1,U5)).1 (aQ (aB.aP t) [bI] (1,U5)).2
  ·exact f (.list0 h o) (LU h o) (fun l j=>by cases j;rfl)
  ·exact f (.list1 h o) (LY h o) (fun l j=>by cases j;rfl)
 ·exact f (.cY h) (Lt h) (fun l j=>by cases j;rfl)
 ·exact f (.find h) (Lk h) (fun l j=>by cases j;rfl)
 ·exact f (.clock h) (LN h) (fun l j=>by cases j;rfl)
 ·obtain⟨pc,ev,acc,fr,mn,mi,ti,un,st,m⟩:=Di (aB.aP t) (aQ (aB.aP t) [bI,dE] (1,U5));exact f (.series h pc ev acc fr mn mi ti un st m) (Kr h m) (fun l j=>C5 (.inl rfl) j)
 ·obtain⟨pc,ev,acc,fr,mn,mi,ti,un,st,m⟩:=Di (aB.aP t) (1,U5);exact f (.expand h pc ev acc fr mn mi ti un st m) (Kq h m) (fun l j=>C5 (.inr rfl) j)
theorem LL(h:qe t):∃ o,Az t o/\De t o/\wo o:=by
 by_cases f:160<t.size
 ·exact⟨.inl (1,0),⟨by decide,.inl ⟨rfl,rfl⟩,fun e a=>BW a (.long f)⟩,.inl ⟨f,rfl,rfl⟩,trivial⟩
 ·obtain⟨v,st,j,C,E⟩:=DV h
  by_cases m:st.2=U6\/cB (aB.aP t).length st.1 st.2=U6
  ·exact⟨.inl (2,st.1),⟨by decide,.inr ⟨rfl,by omega⟩,fun e a=>BW a (.bad UI v st j m)⟩,.inr ⟨by omega,st.1,C m,rfl,rfl⟩,trivial⟩
  ·have u:st.2=U5:=by cases e:st.2 <;> simp_all
   have p:cB (aB.aP t).length st.1 st.2=U5:=by cases e:cB (aB.aP t).length st.1 st.2 <;> simp_all
   obtain⟨q,l,A,z,y,b,x⟩:=E u p;exact⟨.inr l,⟨v,fun e a=>BW a (.qj UI v st j u p),y,b⟩,⟨by omega,q,A,z,b⟩,x⟩
theorem Li(t:UU):wA t:=fun X a=>SE t X a
theorem LP{o:Raw}(h:dS w d s o aJ)(ht:gy w)(m:10<=w.heap.size){f:U8}{l:aA.fJ}(p:LV f l)(j:aA.jA l)(q:lJ l=U6):
  Va prog 64 #[.pointer (U4 ⟨d,0,U3⟩),f] w fun e w'=>∃ v,e=.returned v/\dX w d aJ (aA.aU s l) v w':=by
 cases p with
 |aT name hn u=>exact Tx h name hn u
 |book name hn u fr til=>exact S6 h name hn u fr til j
 |cancel id=>exact TJ h id j
 |list name hn wi fr til a b ha hb=>exact S8 h name hn wi fr til a b ha hb
 |cY name hn fr til=>exact S9 h name hn fr til j
 |find name hn u long fr til=>exact S7 h name hn u long fr til j
 |clock=>exact Tw h
 |series name hn u r=>exact TO h ht m name hn u r j
 |expand r=>exact TN h ht m r j
 |_=>cases q
theorem KO{p:UY}(h:BD w p d s r aJ)(u:wA t){o:(UZ × UZ) ⊕ aA.fJ}(ht:Az t o)(b:wo o):
  Va prog 21 #[.pointer (U4 ⟨p,0,U3⟩),.string t] w fun e w'=>∃ v,e=.returned v/\lQ w p d aJ (kH s o) v w':=by
 cases o with
 |inl q =>
  obtain⟨z,at_⟩:=q;exact Lq h t z at_ u ht.1 ht.2.2
 |inr l =>
  obtain⟨a,y,x,j⟩:=ht;exact LR h t a l u y (aA.zy h.ds.inv j b) (aA.Kk h.ds.inv j b) (by rw[aA.zT s b];simp) (fun _ ht m f=>LP f ht m x j b)
theorem DE(b:∀ (j:UY)(a:j<(aB.aP t).length),X.cell? ⟨g,j,U3⟩=U4 (.string (aB.aP t)[j])){j:UY}(a:j<(aB.aP t).length):X.cell? ⟨g,j,U3⟩=U4 (.string ((aB.aP t).getD j Yy)):=by
 rw[b j a];simp[Wf,a]
theorem Full.head{k:UU}{R:UV UU}(h:Full t (k :: R))(a:jD k=U6):(aB.aP t).getD 0 Yy=k :=
 KE (by rw[nB,<- gZ k a];exact uF (Q:=[]) h.all)
theorem KT(s:St)(l:aA.fJ):(aU s l).2.at_=0:=by
 cases l <;> simp only[aU] <;> (repeat' split) <;> rfl
theorem Dt(h:Inv s):(s.es.length:UZ)<=s.given:=by
 have b:(s.es.map fun e:aM=>e.id).Pairwise (· < ·):=h.ids
 have:=BB _ 1 s.given b (fun x a=>by
  obtain⟨e,f,rfl⟩:=V9.1 a;have j:=h.mM e f
  omega)
 have:=h.g0;rw[Wu] at *;omega
theorem Lh(h:DD w d s xs F)(u:Inv s)(P:t.size<=160){q:UV UU}{l:aA.fJ}(A:Full t q)(S:iD (aB.aP t) q l)(C:aA.jA l)(U:lJ l=U6)(X:U7)(g c:UY)(k:U9 w.heap.size w X)(I:∀ (j:UY)(x:j<(aB.aP t).length),X.cell? ⟨g,j,U3⟩=U4 (.string (aB.aP t)[j])):
  Va prog 117 #[.pointer (U4 ⟨d,0,U3⟩),.slice (U4 ⟨g,0,U3⟩) (aB.aP t).length c] X (dK X d F xs (aU s l)):=by
 have m:=A.len;have p:=h.later k
 have z:∀ j,((aB.aP t).getD j Yy).size<=160:=fun j=>by
  by_cases x:j<(aB.aP t).length
  ·simp only[Wf,x,WS,Option.getD_some];exact Vg (xz t _ (zg x)) P
  ·simp[Wf,x]
 have at_:∀ Y,U9 X.heap.size X Y->∀ j,j<(aB.aP t).length->Y.cell? ⟨g,j,U3⟩=U4 (.string ((aB.aP t).getD j Yy)):=fun Y a j x=>aN a (DE I x)
 have a0:=fun (x:0<(aB.aP t).length)=>DE I x
 have un:=fun name=>(aA.Cy u.tu name).1
 cases S with
 |aT =>
  have o:=A.head UM;simp only[VV,VZ] at m;refine qt p (f:=172) UI (a0 UI) (by rw[o];simp[oh,kv]) (fun Y a=>?_);exact MV (p.later a) UI (z 2) (un _) (at_ Y a 1 UI) (at_ Y a 2 UI)
 |book =>
  have o:=A.head UM;simp only[VV,VZ] at m;obtain⟨_,u1,u2,M,J,H,G⟩:=C;refine qt p (f:=173) UI (a0 UI) (by rw[o];simp[oh,kn]) (fun Y a=>?_);have T:Df Y g (aB.aP t).length ((aB.aP t).getD 0 Yy) 1 0:=⟨by rw[o];decide +kernel,by rw[o];decide +kernel,.inl ⟨rfl,rfl⟩,by omega⟩;exact My (p.later a) ⟨u.g0,u.g1⟩ (Dt u) ⟨u.n0,u.n1⟩ T UI (z 2) (z 3) (z 4) ⟨u1,u2⟩ ⟨H,G⟩ (at_ Y a 0 UI) (at_ Y a 1 UI) (at_ Y a 2 UI) (at_ Y a 3 UI) (at_ Y a 4 UI)
 |cancel =>
  have o:=A.head UM;simp only[VV,VZ] at m;refine qt p (f:=175) UI (a0 UI) (by rw[o];simp[oh,kr]) (fun Y a=>?_);exact LH (p.later a) u.ids U6 (by rw[o];decide +kernel) (z 1) UI (at_ Y a 0 UI) (at_ Y a 1 UI)
 |list0 =>
  have o:=A.head UM;simp only[VV,VZ] at m;refine qt p (f:=177) UI (a0 UI) (by rw[o];simp[oh,dY]) (fun Y a=>?_);exact Ag (p.later a) u.ids (b:=U6) (by rw[o];decide +kernel) UI (.inl ⟨by omega,rfl,rfl,rfl⟩) (at_ Y a 0 UI) (at_ Y a 1 UI)
 |list1 =>
  have o:=A.head UM;simp only[VV,VZ] at m;refine qt p (f:=177) UI (a0 UI) (by rw[o];simp[oh,dY]) (fun Y a=>?_);exact Ag (p.later a) u.ids (b:=U6) (by rw[o];decide +kernel) UI (.inr ⟨by omega,_,_,z 2,z 3,at_ Y a 2 UI,at_ Y a 3 UI,rfl,rfl⟩) (at_ Y a 0 UI) (at_ Y a 1 UI)
 |cY =>
  have o:=A.head UM;simp only[VV,VZ] at m;refine qt p (f:=177) UI (a0 UI) (by rw[o];simp[oh,km]) (fun Y a=>?_);exact Ag (p.later a) u.ids (b:=U5) (by rw[o];decide +kernel) UI (.inr ⟨by omega,_,_,z 2,z 3,at_ Y a 2 UI,at_ Y a 3 UI,rfl,rfl⟩) (at_ Y a 0 UI) (at_ Y a 1 UI)
 |find =>
  have o:=A.head UM;simp only[VV,VZ] at m;obtain⟨u1,u2,V,N,M,J,H,G⟩:=C;refine qt p (f:=178) UI (a0 UI) (by rw[o];simp[oh,ki]) (fun Y a=>?_);exact Mz (p.later a) UI (z 2) (z 3) (z 4) (z 5) ⟨by omega,u2⟩ ⟨by omega,N⟩ ⟨M,J⟩ (at_ Y a 1 UI) (at_ Y a 2 UI) (at_ Y a 3 UI) (at_ Y a 4 UI) (at_ Y a 5 UI)
 |clock =>
  have o:=A.head UM;simp only[VV,VZ] at m;exact MZ p UI (by rw[a0 UI,o];rfl)
 |series hr hn =>
  have y:=A;simp only[mu,VD] at y;have o:=y.head UM;obtain⟨u1,u2,E⟩:=C;refine qt p (f:=174) UI (a0 UI) (by rw[o];simp[oh,ic]) (fun Y a=>?_);exact Lm (p.later a) ⟨u.g0,u.g1⟩ (Dt u) (ws:=fun j=>(aB.aP t).getD j Yy) (fun j x=>at_ Y a j x) z hr UI ⟨u1,u2⟩ E
 |expand hr hn =>
  have y:=A;simp only[nw,VD,List.nil_append] at y;have o:=y.head UM;exact LM p (ws:=fun j=>(aB.aP t).getD j Yy) (fun j x=>at_ X (zr _ _) j x) z hr UI o C
 |_=>cases U
theorem Lx(h:DD w d s xs F)(E:Inv s){o:(UZ × UZ) ⊕ aA.fJ}(ht:De t o)(z:wo o):
  Va prog 75 #[.pointer (U4 ⟨d,0,U3⟩),.string t] w (oL w d F xs (kH s o)):=by
 cases o with
 |inl q =>
  obtain⟨M,at_⟩:=q;rcases ht with ⟨j,rfl,rfl⟩|⟨j,m,y,rfl,rfl⟩
  ·exact Eu h t UK (fun X=>(EY t X j).mono (by rintro e w1 ⟨rfl,rfl⟩;exact⟨rfl,Below.refl _ _⟩))
  ·exact Eu h t UK (fun X=>(Ap t X j).mono (by
    rintro e w1 ⟨C,H⟩;rcases C with ⟨p,a,b,c,d,g,h,f,_⟩|⟨J,f,rfl⟩
    ·rw[y] at f;cases f
    ·rw[y] at f;simp only[Prod.mk.injEq,true_and] at f;subst f
     exact⟨rfl,H⟩))
 |inr l =>
  obtain⟨j,q,x,A,I⟩:=ht;have u:0<(aB.aP t).length:=by rw[x.len];cases A <;> simp[mu,nw]
  exact MJ h t j x.sc u (q:=aU s l) (KT s l) (by rw[aA.zT s z];simp) (fun X g c k G=>Lh h E j x A I z X g c k G)
open aA (aM bO)
structure qd(w:U7)(p:bO)(v1 v2 v3 v4:U8):Prop where
 en:∃ l,EV w v1 l/\l.map (·.1)=p.entries
 da:NV w v2 p.days
 gr:NV w v3 p.granted
 ed:NV w v4 p.ended
theorem qd.later{p:bO}{v1 v2 a v4:U8}(h:qd w p v1 v2 a v4)(k:U9 w.heap.size w w'):qd w' p v1 v2 a v4:=by
 obtain⟨l,f,b⟩:=h.en;exact⟨⟨l,f.later k,b⟩,h.da.later k,h.gr.later k,h.ed.later k⟩
structure wv(p:bO):Prop where
 en:p.entries.length<=1000
 sp:∀ e∈p.entries,e.aL.length<=1000
 da:p.days.length<=1000000
 gr:p.granted.length<=1000000
 ed:p.ended.length<=1000000
 er:p.err≠0->p.entries=[]/\p.days=[]/\p.granted=[]/\p.ended=[]
def sZ(p:bO)(v1 v2 b a:U8):Obj:=.cells #[.int .i64 p.err,.int .i64 p.at_,.int .i64 p.n,v1,v2,b,a] 40 (0,0)
theorem Nk(w:U7)(p:bO)(o:wv p)(u1 u2 u3 u4 v1 v2 N M:U8)(a:qd w p u1 u2 u3 u4)(f:qd w p v1 v2 N M):
  Va prog 76 #[bC p.err p.at_ p.n u1 u2 u3 u4,bC p.err p.at_ p.n v1 v2 N M] w fun e w'=>e=.returned (.bool U6)/\U9 w.heap.size w w':=by
 have I:=aC (((KP.nil w).alloc (sZ p u1 u2 u3 u4)).alloc (sZ p v1 v2 N M));obtain⟨l,V,H⟩:=a.en;obtain⟨m,U,P⟩:=f.en;obtain⟨a1,c1,e1⟩:=V.form;obtain⟨a2,c2,e2⟩:=a.da.form;obtain⟨a3,c3,e3⟩:=a.gr.form;obtain⟨a4,c4,e4⟩:=a.ed.form;obtain⟨b1,d1,f1⟩:=U.form;obtain⟨b2,d2,f2⟩:=f.da.form;obtain⟨b3,d3,f3⟩:=f.gr.form;obtain⟨b4,Y,f4⟩:=f.ed.form;subst e1 e2 e3 e4 f1 f2 f3 f4;have A:l.length=p.entries.length:=by rw[<- H,Wu]
 have S:m.length=p.entries.length:=by rw[<- P,Wu]
 have E1:=aC (fun W (k:U9 w.heap.size w W)=>Np l m _ _ W (V.later k) (U.later k) (by rw[H,P]) (by have:=o.en;omega) (fun q hq=>o.sp q.1 (H ▸ V9.2 ⟨q,hq,rfl⟩)));have E2:=aC (fun W (k:U9 w.heap.size w W)=>Ao p.days _ _ W (a.da.later k) (f.da.later k) o.da);have E3:=aC (fun W (k:U9 w.heap.size w W)=>Ao p.granted _ _ W (a.gr.later k) (f.gr.later k) o.gr);have E4:=aC (fun W (k:U9 w.heap.size w W)=>Ao p.ended _ _ W (a.ed.later k) (f.ed.later k) o.ed)
 have ER:Hid (p.err≠0->l.length=0/\p.days.length=0/\p.granted.length=0/\p.ended.length=0):=fun h=>by
  obtain⟨h1,h2,h3,h4⟩:=o.er h;rw[A,h1,h2,h3,h4];simp
 clear a f V U H P A S o;simp only[bC]
 go_in
 go_upto_region 1 with fail
 rw[World.size_alloc] at I;change YS _ _ _ _ ((w.alloc (sZ p (.slice a1 l.length c1) (.slice a2 p.days.length c2) (.slice a3 p.granted.length c3) (.slice a4 p.ended.length c4))).alloc (sZ p (.slice b1 m.length d1) (.slice b2 p.days.length d2) (.slice b3 p.granted.length d3) (.slice b4 p.ended.length Y)));generalize (w.alloc (sZ p (.slice a1 l.length c1) (.slice a2 p.days.length c2) (.slice a3 p.granted.length c3) (.slice a4 p.ended.length c4))).alloc (sZ p (.slice b1 m.length d1) (.slice b2 p.days.length d2) (.slice b3 p.granted.length d3) (.slice b4 p.ended.length Y))=X at *
 have z:Hid (∀ W,U9 X.heap.size X W->(W.cell? ⟨w.heap.size,3,U3⟩=U4 (.slice a1 l.length c1)/\W.cell? ⟨w.heap.size,4,U3⟩=U4 (.slice a2 p.days.length c2)/\W.cell? ⟨w.heap.size,5,U3⟩=U4 (.slice a3 p.granted.length c3)/\W.cell? ⟨w.heap.size,6,U3⟩=U4 (.slice a4 p.ended.length c4))/\(W.cell? ⟨w.heap.size+1,3,U3⟩=U4 (.slice b1 m.length d1)/\W.cell? ⟨w.heap.size+1,4,U3⟩=U4 (.slice b2 p.days.length d2)/\W.cell? ⟨w.heap.size+1,5,U3⟩=U4 (.slice b3 p.granted.length d3)/\W.cell? ⟨w.heap.size+1,6,U3⟩=U4 (.slice b4 p.ended.length Y))/\(W.cell? ⟨w.heap.size,0,U3⟩=U4 (.int .i64 p.err)/\W.cell? ⟨w.heap.size,1,U3⟩=U4 (.int .i64 p.at_)/\W.cell? ⟨w.heap.size,2,U3⟩=U4 (.int .i64 p.n))/\W.cell? ⟨w.heap.size+1,0,U3⟩=U4 (.int .i64 p.err)/\W.cell? ⟨w.heap.size+1,1,U3⟩=U4 (.int .i64 p.at_)/\W.cell? ⟨w.heap.size+1,2,U3⟩=U4 (.int .i64 p.n)):=fun W k=>by
  have j:=I.y.later k;have a:=(j.swap);exact⟨⟨a.hc 3 rfl,a.hc 4 rfl,a.hc 5 rfl,a.hc 6 rfl⟩,⟨j.hc 3 rfl,j.hc 4 rfl,j.hc 5 rfl,j.hc 6 rfl⟩,⟨a.hc 0 rfl,a.hc 1 rfl,a.hc 2 rfl⟩,j.hc 0 rfl,j.hc 1 rfl,j.hc 2 rfl⟩
 have BX:=aC I.y.bl;clear I;obtain⟨⟨x3,_,_,_⟩,⟨y3,_,_,_⟩,_⟩:=z.y X (zr _ _)
 go_wp2_with fail
 refine (E1.y _ BX.y).mono ?_;rintro e w1 ⟨rfl,b⟩;obtain⟨⟨_,x4,_,_⟩,⟨_,y4,_,_⟩,_⟩:=z.y w1 b;have J:=aC (zA (aZ BX.y b (zq _)) b);clear b x3 y3
 go_wp2_with fail
 refine (E2.y _ J.y.1).mono ?_;rintro e w2 ⟨rfl,y⟩;have G:=aC (zA (aZ J.y.1 y (zq _)) (aZ J.y.2 y (zq _)));obtain⟨⟨_,_,x5,_⟩,⟨_,_,y5,_⟩,_⟩:=z.y w2 G.y.2;clear y x4 y4 J
 go_wp2_with fail
 refine (E3.y _ G.y.1).mono ?_;rintro e w3 ⟨rfl,x⟩;have E:=aC (zA (aZ G.y.1 x (zq _)) (aZ G.y.2 x (zq _)));obtain⟨⟨_,_,_,x6⟩,⟨_,_,_,y6⟩,_⟩:=z.y w3 E.y.2;clear x x5 y5 G
 go_wp2_with fail
 refine (E4.y _ E.y.1).mono ?_;rintro e w4 ⟨rfl,u⟩;have B4:=aC (aZ E.y.1 u (zq _));clear x6 y6;obtain⟨⟨x3,x4,x5,x6⟩,_,⟨x0,x1,x2⟩,y0,y1,y2⟩:=z.y w4 (aZ E.y.2 u (zq _));clear u E z E1 E2 E3 E4
 by_cases C:p.err=0
 ·have T:(p.err==0)=U6:=by simp[C]
  clear C
  go_wp2_with fail
  all_goals
   go_ret;exact⟨by simp,B4.y⟩
 ·have T:(p.err==0)=U5:=by simp[C]
  obtain⟨h1,h2,h3,h4⟩:=ER.y C;clear C
  go_wp2_with fail
  all_goals
   go_ret;exact⟨by simp,B4.y⟩
open aA (aM St bO Inv)
theorem Mc(c n:UZ)(w:U7)(q:-9223372036854775808<=c)(p:c<=9223372036854775807)(f:1<=n)(b:n<=1000000):
  Va prog 74 #[.int .i64 c,.int .i64 n] w fun e w'=>e=.returned (.int .i64 (lz c n))/\w'=w:=by
 have m:(n==0)=U5:=by simp;omega
 have o:=Jm (c:=c) f
 by_cases h:c<0
 ·have l:Vf.wrap (c+1)=c+1:=v8 UI UI;have j:Vf.wrap (-(c+1))=-(c+1):=v8 UI UI;have e:(-(c+1)).tmod n=lz c n:=by unfold lz;rw[U1 h];exact Y4 UI
  have a:Vf.wrap (lz c n)=lz c n:=cG UI UI;generalize lz c n=v at *
  go_in
  go_wp2
  go_ret
  simp_all
 ·have e:c.tmod n=lz c n:=by unfold lz;rw[U0 h];exact Y4 UI
  have a:Vf.wrap (lz c n)=lz c n:=cG UI UI;generalize lz c n=v at *
  go_in
  go_wp2
  go_ret
  simp_all
theorem LJ(h:Inv s){o:(UZ × UZ) ⊕ aA.fJ}(ht:Az t o)(j:wo o):wv (kH s o).2/\(kH s o).2.entries.length<=60/\(kH s o).2.days.length<=900000/\(kH s o).2.granted.length<=900000/\(kH s o).2.ended.length<=900000:=by
 cases o with
 |inl q=>exact⟨⟨by simp[kH],by simp[kH],by simp[kH],by simp[kH],by simp[kH],fun _=>by simp[kH]⟩,by simp[kH]⟩
 |inr l =>
  obtain⟨b,_,_,f⟩:=ht;have k:=aA.KZ h f j;have:=k.en;have:=k.gr;have:=k.da;have m:(aA.ig s l).2.ended.length=0:=by rw[k.ed];rfl
  show wv (aA.ig s l).2/\(aA.ig s l).2.entries.length<=60/\(aA.ig s l).2.days.length<=900000/\(aA.ig s l).2.granted.length<=900000/\(aA.ig s l).2.ended.length<=900000;refine⟨⟨by omega,fun e a=>?_,by omega,by omega,by omega,fun a=>⟨(k.er a).1.1,(k.er a).1.2,(k.er a).2,k.ed⟩⟩,by omega,by omega,by omega,by omega⟩;have:=(h.en e (k.es e a)).sl;omega
theorem BD.more{p:UY}(h:BD w p d s r aJ)(k:U9 w.heap.size w w'):BD w' p d s r aJ :=
 h.off (G:=[]) (aF.aD k) UJ (h.env.later k)
theorem lQ.later{p:UY}{q:St × bO}(h:lQ w p d aJ q v w1)(k:U9 w1.heap.size w1 w'):lQ w p d aJ q v w':=by
 obtain⟨b,a,f,st,rp⟩:=h;exact⟨b,a,f.more k,st.trans (Step.below k),rp.later k⟩
theorem hU.bC{K N:UV UY}{l:UV (aM × U8)}{p:bO}(h:hU w K N u1 u2 u3 u4 l p.days p.granted p.ended)(b:l.map (·.1)=p.entries):qd w p u1 u2 u3 u4 :=
 ⟨⟨l,EV.own h.en (fun p a=>SV.own (h.sp p a)),b⟩,NV.own h.da,NV.own h.gr,NV.own h.ed⟩
theorem KV(a:Array U8)(w:U7):(callFunc 77 a).run prog w=.ok (.enter 77 a) w:=UO
section
variable {w0 w w1 w':U7}{B n:UY}{tg:UY->Tg}{i:UY}{k:Dk}{D:UV Dk}{K:UV UY}{v0 v1 r1 r2 r3:U8}{X1 X2 X3:UV KL}
theorem LX.still(h:LX w0 w B n tg D K v0 v1 r1 r2 r3 X1 X2 X3)(l:D[i]?=U4 k){q:St × bO}(P:lQ w k.p k.d k.aJ q v w1){b:UY}(o:tg b≠.no)(j:tg b≠.pr i):w1.heap[b]?=w.heap[b]?:=by
 obtain⟨u,f,_,st,_⟩:=P;have a:=h.ds.lt b o;refine st.bV a ?_ a
 cases m:k.aJ b with
 |none=>rfl
 |some c=>exact (j ((h.ds.at_ i k l).pc b c m)).elim
theorem LX.more{m:UY}(h:LX w0 w B n tg D K v0 v1 r1 r2 r3 X1 X2 X3)(k:n<=m):LX w0 w B m tg D K v0 v1 r1 r2 r3 X1 X2 X3 :=
 ⟨h.ds,h.bk,Vg h.len k,h.xo,h.yo,h.tb,h.tk,h.tx,h.ty,h.d3,h.bl,h.lo,h.oN⟩
theorem r7{a at_ n:UZ}(h:w.heap[Q]?=U4 (ir a at_ n u1 u2 u3 u4)):w.cell? ⟨Q,0,U3⟩=U4 (.int .i64 a)/\w.cell? ⟨Q,1,U3⟩=U4 (.int .i64 at_)/\w.cell? ⟨Q,2,U3⟩=U4 (.int .i64 n)/\w.cell? ⟨Q,3,U3⟩=U4 u1/\w.cell? ⟨Q,4,U3⟩=U4 u2/\w.cell? ⟨Q,5,U3⟩=U4 u3/\w.cell? ⟨Q,6,U3⟩=U4 u4 :=
 ⟨aY h 0 rfl,aY h 1 rfl,aY h 2 rfl,aY h 3 rfl,aY h 4 rfl,aY h 5 rfl,aY h 6 rfl⟩
structure yZ(w0 w:U7)(B n:UY)(tg:UY->Tg)(D:UV Dk)(K:UV UY)(v0 v1 r1 r2 r3:U8)(X1 X2 X3:UV KL)(i:UY)(k:Dk)(q:St × bO)(Q:UY)(u1 u2 u3 u4:U8)(W:U7):Prop where
 lx:LX w0 w B n tg D K v0 v1 r1 r2 r3 X1 X2 X3
 hi:D[i]?=U4 k
 bp:lQ w k.p k.d k.aJ q (bC q.2.err q.2.at_ q.2.n u1 u2 u3 u4) W
 hQ:W.heap[Q]?=U4 (ir q.2.err q.2.at_ q.2.n u1 u2 u3 u4)
 lo:w.heap.size<=Q
theorem LX.yW(h:LX w0 w B n tg D K v0 v1 r1 r2 r3 X1 X2 X3)(a:D[i]?=U4 k){q:St × bO}(P:lQ w k.p k.d k.aJ q (bC q.2.err q.2.at_ q.2.n u1 u2 u3 u4) w1):yZ w0 w B n tg D K v0 v1 r1 r2 r3 X1 X2 X3 i k q w1.heap.size u1 u2 u3 u4 (w1.alloc (ir q.2.err q.2.at_ q.2.n u1 u2 u3 u4)) :=
 ⟨h,a,P.later ((zr _ _).alloc (zq _) _),cC _ _,by obtain⟨_,_,_,st,_⟩:=P;exact st.size⟩
structure sY(w0:U7)(B n:UY)(tg:UY->Tg)(D:UV Dk)(K:UV UY)(v0 v1 r1 r2 r3:U8)(X1 X2 X3:UV KL)(p:bO)(Q R:UY)(u1 u2 u3 u4 z1 z2 z3 z4:U8)(l:UV (aM × U8))(W:U7):Prop where
 lx:LX w0 W B n tg D K v0 v1 r1 r2 r3 X1 X2 X3
 rl:hU W K (bM B r1 r2 r3) u1 u2 u3 u4 l p.days p.granted p.ended
 hl:l.map (·.1)=p.entries
 no:∀ b∈jB u1 u2 u3 u4 l,tg b=.no/\w0.heap.size<=b
 rv:qd W p z1 z2 z3 z4
 hQ:W.heap[Q]?=U4 (ir p.err p.at_ p.n u1 u2 u3 u4)
 hR:W.heap[R]?=U4 (ir p.err p.at_ p.n z1 z2 z3 z4)
theorem sY.later{p:bO}{l:UV (aM × U8)}(h:sY w0 B n tg D K v0 v1 r1 r2 r3 X1 X2 X3 p Q R u1 u2 u3 u4 z1 z2 z3 z4 l w)(k:U9 w.heap.size w w'):sY w0 B n tg D K v0 v1 r1 r2 r3 X1 X2 X3 p Q R u1 u2 u3 u4 z1 z2 z3 z4 l w' :=
 ⟨h.lx.later k,h.rl.later k,h.hl,h.no,h.rv.later k,(k.block _ (YR.1 h.hQ).1).trans h.hQ,(k.block _ (YR.1 h.hR).1).trans h.hR⟩
theorem yZ.yV{q:St × bO}(h:yZ w0 w B n tg D K v0 v1 r1 r2 r3 X1 X2 X3 i k q Q u1 u2 u3 u4 W)(P:oL W k.dd k.F k.xs q (.returned (bC q.2.err q.2.at_ q.2.n z1 z2 z3 z4)) w2):
  ∃ a H l,sY w0 B n a H K v0 v1 r1 r2 r3 X1 X2 X3 q.2 Q w2.heap.size u1 u2 u3 u4 z1 z2 z3 z4 l (w2.alloc (ir q.2.err q.2.at_ q.2.n z1 z2 z3 z4)):=by
 obtain⟨S,a,z,Y,V,U,T,l,p,G,C,E⟩:=h.lx.both h.hi h.bp P;simp only[bC,Value.agg.injEq,Array.mk.injEq,Xi,true_and,and_true] at p;obtain⟨rfl,rfl,rfl,rfl⟩:=p;have b:U9 w2.heap.size w2 (w2.alloc (ir q.2.err q.2.at_ q.2.n z1 z2 z3 z4)):=(zr _ _).alloc (zq _) _;obtain⟨N,M,J,I,x,F',u,f,y,_,_,o,_⟩:=P;simp only[Ending.returned.injEq,bC,Value.agg.injEq,Array.mk.injEq,Xi,true_and,and_true] at u;obtain⟨rfl,rfl,rfl,rfl⟩:=u;have j:=(YR.1 h.hQ).1
 have m:w2.heap[Q]?=U4 (ir q.2.err q.2.at_ q.2.n u1 u2 u3 u4):=(o.block Q j (fun A=>by
  have:=h.lx.ds.lt Q (by rw[(h.lx.ds.at_ i k h.hi).df Q A];simp);have:=h.lo
  omega)).trans h.hQ
 exact⟨a,_,l,z.later b,C.later b,G,E,(qd.mk f.en f.da y f.ed).later b,(b.block _ (by have:=o.size;omega)).trans m,cC _ _⟩
theorem sY.gk{p:bO}{l:UV (aM × U8)}(h:sY w0 B n tg D K v0 v1 r1 r2 r3 X1 X2 X3 p Q R u1 u2 u3 u4 z1 z2 z3 z4 l w)(o:n+64<=900000000)(ok:wv p)(a:p.entries.length<=60/\p.days.length<=900000/\p.granted.length<=900000/\p.ended.length<=900000):
  Va prog 77 #[.pointer (U4 ⟨B,2,U3⟩),.agg #[.int .i64 p.err,.int .i64 p.at_,.int .i64 p.n,u1,u2,u3,u4]] w fun x w'=>x=.returned (.tuple #[])/\LW w0 w' B (n+64):=by
 have j:l.length=p.entries.length:=by rw[<- h.hl,Wu]
 have b:=h.lx.len;refine (LD h.lx.bk UI h.rl UI (fun x f=>?_) a.2.1 a.2.2.1 a.2.2.2 p.err p.at_ p.n).mono ?_
 ·have:x.1∈p.entries:=by rw[<- h.hl];exact V9.2 ⟨x,f,rfl⟩
  have:=ok.sp x.1 this;omega
 ·rintro e w4 ⟨rfl,m⟩;exact⟨rfl,(h.lx.more (Nat.le_add_right n 64)).kept UI h.no m⟩
theorem zV(h:LW w0 w B n){a:UZ}(h1:-9223372036854775808<=a)(h2:a<=9223372036854775807)(ht:qe t)(hn:n+64<=900000000):
  Va prog 54 #[.pointer (U4 ⟨B,0,U3⟩),.int .i64 a,.string t] w fun e w'=>e=.returned (.bool U6)/\LW w0 w' B (n+64):=by
 obtain⟨tg,D,K,v0,v1,r1,r2,r3,X1,X2,X3,f⟩:=h;obtain⟨a0,c0,rfl⟩:=gB f.xo;obtain⟨a1,c1,rfl⟩:=gB f.yo;obtain⟨x0,x1,_,_,_,_⟩:=f.bk.cells;have y:=aC f
 by_cases hD:D.length=0
 ·have ac:((D.length:UZ)==0)=U6:=by simp[hD]
  clear f ht hD
  go_in
  go_wp2
  go_ret;exact⟨rfl,_,_,_,_,_,_,_,_,_,_,_,y.y.more (Nat.le_add_right n 64)⟩
 ·have ac:((D.length:UZ)==0)=U5:=by rw[beq_eq_false_iff_ne];omega
  have ai:=f.d3;have hb:=Jm (c:=a) (n:=D.length) UI;obtain⟨j,hj⟩:∃ j:UY,lz a D.length=j:=⟨(lz a D.length).toNat,by omega⟩;have ab:j<D.length:=UI
  have PK:=aC (Mc a D.length w h1 h2 UI UI);rw[hj] at PK;clear hb hj hD h1 h2;have m:D[j]?=U4 D[j]:=WS ab;generalize D[j]=k at m;obtain⟨g0,q0,e0,y0⟩:=rL f.xo (k:=j) (u:=.pointer (U4 ⟨k.p,0,U3⟩)) (by rw[Yd,m];rfl);obtain⟨g1,q1,C,y1⟩:=rL f.yo (k:=j) (u:=.pointer (U4 ⟨k.dd,0,U3⟩)) (by rw[Yd,m];rfl);simp only[Zp,true_and] at e0 C;obtain⟨rfl,rfl⟩:=e0;obtain⟨rfl,rfl⟩:=C;obtain⟨o,hT,A,N⟩:=LL ht;have DO:=aC (KO (f.ds.at_ j k m).bd (Li _) hT N);have OK:=aC (LJ (f.ds.at_ j k m).bd.ds.inv hT N);have RD:Hid (∀ W,DD W k.dd k.s k.xs k.F->Va prog 75 #[.pointer (U4 ⟨k.dd,0,U3⟩),.string t] W (oL W k.dd k.F k.xs (kH k.s o))):=fun W hW=>Lx hW (f.ds.at_ j k m).bd.ds.inv A N
  have I:=aC (zA (y.y.tb B (by simp[bM])) (y.y.ty g1 rfl));have HK:=aC m;generalize kH k.s o=q at *;clear f ht hT A N m;have ad:(j:UZ)<(D.length:UZ):=UI
  go_in
  go_upto_region 4 with (first|(go_at_call 74;refine PK.y.mono ?_;rintro e w1 ⟨rfl,hw⟩;rw[hw];clear hw w1))
  go_upto_region 5 with (first|(go_at_call 21;refine DO.y.mono ?_;rintro e w1 ⟨v,rfl,bp⟩;have BP:=aC bp;obtain⟨r',ae,_,_,u1,u2,u3,u4,M,rfl,aa,C,e2,e3,e4,_,_⟩:=bp;obtain⟨b1,U,rfl⟩:=iy C.own;obtain⟨b2,T,rfl⟩:=e2.slice;obtain⟨Y,S,rfl⟩:=e3.slice;obtain⟨V,P,rfl⟩:=e4.slice;have z1:=(zo (y.y.still HK.y BP.y (b:=B) (by rw[I.y.1];simp) (by rw[I.y.1];simp))).trans x1;have z2:=(zo (y.y.still HK.y BP.y (b:=g1) (by rw[I.y.2];simp) (by rw[I.y.2];simp))).trans y1;clear aa C e2 e3 e4 x0 x1 y0 y1 DO PK;simp only[bC]))
  have G:=aC (y.y.yW HK.y BP.y);change YS _ _ _ _ (w1.alloc (ir q.2.err q.2.at_ q.2.n (.slice b1 M.length U) (.slice b2 q.2.days.length T) (.slice Y q.2.granted.length S) (.slice V q.2.ended.length P)));have E:=aC (RD.y _ (G.y.lx.ds.doc G.y.hi G.y.bp));have z3:=aN ((zr _ w1).alloc (zq _) (ir q.2.err q.2.at_ q.2.n (.slice b1 M.length U) (.slice b2 q.2.days.length T) (.slice Y q.2.granted.length S) (.slice V q.2.ended.length P))) z1;have z4:=aN ((zr _ w1).alloc (zq _) (ir q.2.err q.2.at_ q.2.n (.slice b1 M.length U) (.slice b2 q.2.days.length T) (.slice Y q.2.granted.length S) (.slice V q.2.ended.length P))) z2;clear z1 z2 RD BP I y HK;generalize w1.alloc (ir q.2.err q.2.at_ q.2.n (.slice b1 M.length U) (.slice b2 q.2.days.length T) (.slice Y q.2.granted.length S) (.slice V q.2.ended.length P))=W1 at *;generalize w1.heap.size=Q at *
  go_upto_region 6 with (first|(go_at_call 75;refine E.y.mono ?_;rintro e w2 dd;have H:=aC dd;obtain⟨y1,y2,y3,y4,af,F',rfl,J,nv,_⟩:=dd;obtain⟨le,ev,_⟩:=J.en;obtain⟨f1,g2,rfl⟩:=ev.form;obtain⟨f2,g3,rfl⟩:=J.da.form;obtain⟨f3,g4,rfl⟩:=nv.form;obtain⟨f4,g5,rfl⟩:=J.ed.form;clear J nv ev z3 z4 E;simp only[bC]))
  change YS _ _ _ _ (w2.alloc (ir q.2.err q.2.at_ q.2.n (.slice f1 le.length g2) (.slice f2 q.2.days.length g3) (.slice f3 q.2.granted.length g4) (.slice f4 q.2.ended.length g5)));obtain⟨ag,D',l,x⟩:=G.y.yV H.y;have M2:=aC x;obtain⟨a0,a1,a2,a3,a4,a5,a6⟩:=r7 x.hQ;obtain⟨s0,s1,s2,s3,s4,s5,s6⟩:=r7 x.hR;have SR:=aC (Nk _ q.2 OK.y.1 _ _ _ _ _ _ _ _ (x.rl.bC x.hl) x.rv);simp only[bC] at SR;clear x G H;generalize w2.alloc (ir q.2.err q.2.at_ q.2.n (.slice f1 le.length g2) (.slice f2 q.2.days.length g3) (.slice f3 q.2.granted.length g4) (.slice f4 q.2.ended.length g5))=W2 at *;generalize w2.heap.size=R at *
  go_upto_region 7 with (first|(go_at_call 76;refine SR.y.mono ?_;rintro e w3 ⟨rfl,z⟩;have M3:=aC (M2.y.later z);clear z a0 a1 a2 a3 a4 a5 a6 s0 s1 s2 s3 s4 s5 s6 SR))
  obtain⟨a0,a1,a2,a3,a4,a5,a6⟩:=r7 M3.y.hQ;have KP:=aC ((M3.y.later (dM w3)).gk hn OK.y.1 OK.y.2);clear M2 M3 OK
  go_region_law (first
   |(refine qW (by rfl) 77 _ _ (by rfl) _ (by simp[Act.eval]) (KV _ _) KP.y ?_;rintro e w4 ⟨rfl,h4⟩;refine⟨_,rfl,?_⟩;have H4:=aC h4;clear h4))
  all_goals
   go_wp2
   go_ret;exact⟨rfl,H4.y⟩
end
namespace aB
theorem D8:∀ (l:UV a)(x:UV (UV a) × UV a),∃ t,px (l.foldl nR x)=x.1++t
 |[],x=>by
  unfold px
  by_cases h:x.2=[]
  ·exact⟨[],by simp[h]⟩
  ·exact⟨[x.2],by simp[h]⟩
 |c :: l,x=>by
  obtain⟨t,ht⟩:=D8 l (nR x c);rw[Xz,ht];unfold nR
  by_cases h:c=32
  ·rw[U1 h]
   by_cases b:x.2=[]
   ·exact⟨t,by simp[b]⟩
   ·exact⟨[x.2]++t,by simp[b]⟩
  ·exact⟨t,by rw[U0 h]⟩
theorem L6{s k:UU}(m:yv k.data.toList=U6)(h:s.data.toList=k.data.toList\/∃ r,s.data.toList=k.data.toList++32 :: r):∃ R,aP s=k :: R:=by
 obtain⟨l,j⟩:=Uu.1 m
 have b:∃ t,xF s.data.toList=k.data.toList :: t:=by
  unfold xF Ay;rcases h with e|⟨r,e⟩
  ·rw[e,Hx j];exact⟨[],by simp[px,l]⟩
  ·rw[e,List.foldl_append,Hx j,Xz,Sn];obtain⟨t,ht⟩:=D8 r (px ([],[]++k.data.toList),[]);rw[ht];exact⟨t,by simp[px,l]⟩
 obtain⟨t,ht⟩:=b;rw[<- Sz] at ht
 cases f:aP s with
 |nil=>rw[f] at ht;simp at ht
 |cons a R =>
  rw[f] at ht;simp only[XD,Xi] at ht;exact⟨R,by rw[Qp ht.1]⟩
end aB
theorem DQ(p ws:UV UU):∀ n:UY,(iO p ws (n+1)).data.toList=(gF (p.getD 0 ⟨#[]⟩) (ws.getD 0 ⟨#[]⟩)).data.toList\/∃ r,(iO p ws (n+1)).data.toList=(gF (p.getD 0 ⟨#[]⟩) (ws.getD 0 ⟨#[]⟩)).data.toList++32 :: r
 |0=>by
  left;simp[iO]
 |n+1=>by
  right;rw[iO,U1 UI,aB.qZ,aB.qZ];rcases DQ p ws n with e|⟨r,e⟩
  ·rw[e];exact⟨_,by rw[List.append_assoc];rfl⟩
  ·rw[e];exact⟨r++(32 :: (gF (p.getD (n+1) ⟨#[]⟩) (ws.getD (n+1) ⟨#[]⟩)).data.toList),by simp⟩
theorem Lj{k:UU}(a:k∈kC):aB.yv k.data.toList=U6/\gF k k=k:=by
 simp only[kC,Vq,ZQ,or_false] at a;rcases a with rfl|rfl|rfl|rfl|rfl|rfl|rfl|rfl|rfl <;> exact⟨by decide +kernel,by decide +kernel⟩
theorem Lg{q:UV UU}{l:aA.fJ}(a:Full t q)(b:iD (aB.aP t) q l)(f:lJ l=U6):∃ k∈kC,(aB.aP t).getD 0 Yy=k/\∃ R,q=k :: R:=by
 cases b with
 |aT=>exact⟨kv,by simp[kC],a.head UM,_,rfl⟩
 |book=>exact⟨kn,by simp[kC],a.head UM,_,rfl⟩
 |cancel=>exact⟨kr,by simp[kC],a.head UM,_,rfl⟩
 |list0=>exact⟨dY,by simp[kC],a.head UM,_,rfl⟩
 |list1=>exact⟨dY,by simp[kC],a.head UM,_,rfl⟩
 |cY=>exact⟨km,by simp[kC],a.head UM,_,rfl⟩
 |find=>exact⟨ki,by simp[kC],a.head UM,_,rfl⟩
 |clock=>exact⟨kL,by simp[kC],a.head UM,_,rfl⟩
 |series hr hn=>exact⟨ic,by simp[kC],Full.head (R:=cD :: eO :: _) a UM,_,rfl⟩
 |expand hr hn=>exact⟨iZ,by simp[kC],Full.head (R:=_) a UM,_,rfl⟩
 |_=>cases f
theorem L3(h:qe t){p:UV UU}(b:jk t=(U4 p,0)):qe (iO p (aB.aP t) (aB.aP t).length):=by
 obtain⟨v,st,_,y,z⟩:=DV h
 by_cases A:st.2=U6\/cB (aB.aP t).length st.1 st.2=U6
 ·have:=y A;rw[b] at this
  cases this
 ·have G:st.2=U5:=by cases e:st.2 <;> simp_all
  have E:cB (aB.aP t).length st.1 st.2=U5:=by cases e:cB (aB.aP t).length st.1 st.2 <;> simp_all
  obtain⟨q,l,a,u,_,_,o⟩:=z G E;have e:=a.sc;rw[b] at e;simp only[Prod.mk.injEq,ZR,and_true] at e;subst e;obtain⟨k,m,x,R,rfl⟩:=Lg a u o;obtain⟨w1,w2⟩:=Lj m;have j:=a.len;simp only[VV] at j;rw[j];have f:=DQ (k :: R) (aB.aP t) R.length
  have H:gF ((k :: R).getD 0 ⟨#[]⟩) ((aB.aP t).getD 0 ⟨#[]⟩)=k:=by
   have:(aB.aP t).getD 0 ⟨#[]⟩=k:=x;rw[this];exact w2
  rw[H] at f;obtain⟨T,C⟩:=aB.L6 w1 f;exact⟨k,m,by rw[C];simp[bD,cB]⟩
def pd(x:mb):Prop:=Db x/\(x.k=4\/(5<=x.k/\qe x.s))
section
variable {w0 w w':U7}{B n:UY}
theorem LK(h:LW w0 w B n)(x:mb)(o:pd x)(hk:x.k<=6)(I:n+64<=900000000):
  Va prog 41 #[.pointer (U4 ⟨B,0,U3⟩),.agg #[.int .i64 x.k,.int .i64 x.a,.int .i64 x.y,.int .i64 x.m,.int .i64 x.d,.string x.s]] w fun e w'=>e=.returned (.bool U6)/\LW w0 w' B (n+64):=by
 obtain⟨H,o⟩:=o;have T:U9 w.heap.size w (w.alloc (ob x)):=(zr _ _).alloc (zq _) _;have C:=aC (h.later T);have G:=cC w (ob x)
 have CL:Hid (∀ W,U9 (w.alloc (ob x)).heap.size (w.alloc (ob x)) W->W.cell? ⟨w.heap.size,0,U3⟩=U4 (.int .i64 x.k)/\W.cell? ⟨w.heap.size,1,U3⟩=U4 (.int .i64 x.a)/\W.cell? ⟨w.heap.size,5,U3⟩=U4 (.string x.s)):=fun W k=>by
  have b:=(k.block _ (YR.1 G).1).trans G;exact⟨aY b 0 rfl,aY b 1 rfl,aY b 5 rfl⟩
 obtain⟨c0,c1,Y⟩:=CL.y _ (zr _ _)
 have J:x.k=4\/x.k=5\/x.k=6:=by
  rcases o with e|⟨e,_⟩
  ·exact .inl e
  ·omega
 have N:x.k≠4->qe x.s:=fun e=>by
  rcases o with P|⟨_,P⟩
  ·exact (e P).elim
  ·exact P
 clear T G o h hk;obtain⟨k,a,y,m,d,s⟩:=x;obtain⟨j,f,aa⟩:=H;dsimp only at *;rcases J with rfl|rfl|rfl
 ·go_in
  go_upto_region 1 with fail
  change YS _ _ _ _ (w.alloc (ob ⟨4,a,y,m,d,s⟩));generalize w.alloc (ob ⟨4,a,y,m,d,s⟩)=W at *
  go_wp2_with (first|(go_at_call 40;refine (EK C.y).mono ?_;rintro e w1 ⟨rfl,u⟩;have l:=aC u;clear u))
  go_ret;exact⟨rfl,l.y.more (Nat.le_add_right n 64)⟩
 ·go_in
  go_upto_region 1 with fail
  change YS _ _ _ _ (w.alloc (ob ⟨5,a,y,m,d,s⟩));generalize w.alloc (ob ⟨5,a,y,m,d,s⟩)=W at *
  go_wp2_with (first|(go_at_call 54;refine (zV C.y j f (N UK) I).mono ?_;rintro e w1 ⟨rfl,u⟩;have l:=aC u;clear u))
  go_ret;exact⟨rfl,l.y⟩
 ·have M:=N UK;have PL:=aC (Ng s _ C.y.env)
  have E:Hid (∀ e,PR s e->∃ t A at_,e=.returned (.tuple #[.string t,.int .i64 A,.int .i64 at_])/\((A=0/\qe t)\/(A != 0)=U6)):=fun e U=>by
   rcases U with ⟨_,rfl⟩|⟨_,⟨p,z,rfl⟩|⟨m,_,rfl⟩⟩
   ·exact⟨_,_,_,rfl,.inr rfl⟩
   ·exact⟨_,_,_,rfl,.inl ⟨rfl,L3 M z⟩⟩
   ·exact⟨_,_,_,rfl,.inr rfl⟩
  have HF:=aC M;clear N M
  go_in
  go_upto_region 1 with fail
  change YS _ _ _ _ (w.alloc (ob ⟨6,a,y,m,d,s⟩));generalize w.alloc (ob ⟨6,a,y,m,d,s⟩)=W at *
  go_upto_region 14 with (first|(go_at_call 55;refine PL.y.mono ?_;rintro e w1 ⟨z,b⟩;obtain⟨t,A,at_,rfl,V⟩:=E.y e z;have l:=aC (C.y.later b);have C1:=aC (CL.y _ b);have HC:=aC V;clear z b V c0 c1 Y))
  obtain⟨c0,c1,Y⟩:=C1.y;rcases HC.y with ⟨rfl,ht⟩|U
  ·have HT:=aC ht;clear ht
   go_wp2_with (first|(go_at_call 54;refine (zV l.y j f HT.y I).mono ?_;rintro e w2 ⟨rfl,q⟩;have S:=aC q;clear q))
   go_ret;exact⟨rfl,S.y⟩
  ·go_wp2_with (first|(go_at_call 54;refine (zV l.y j f HF.y I).mono ?_;rintro e w2 ⟨rfl,q⟩;have S:=aC q;clear q))
   go_ret;exact⟨rfl,S.y⟩
theorem Mf(G:Env w){V:UY}{a:UV mb}(q:w.ownsRow V 89 6 v a.length (a.flatMap lf))(E:∀ x∈a,pd x)(hl:a.length<=2000000):
  Va prog 15 #[v,.int .i64 4,.int .i64 6] w fun e w'=>e=.returned (.bool U6)/\U9 w.heap.size w w':=by
 have HS:=aC (LW.start G);obtain⟨C,N,rfl⟩:=gB q
 have HO:Hid (∀ W m k (y:k<a.length),LW w W w.heap.size m->∃ b,C=U4 ⟨b,0,U3⟩/\rF W b (k*6) a[k]):=fun W m k y S=>by
  have P:=S.bl;have at_:∀ o u,(lf a[k])[o]?=U4 u->∃ g cap,YZ C a.length N=.slice (U4 ⟨g,0,U3⟩) a.length cap/\w.cell? ⟨g,k*6+o,U3⟩=U4 u:=fun o u l=>rL q ((KB y o (by have:=(List.getElem?_eq_some_iff.1 l).1;simpa[lf] using this)).trans l)
  obtain⟨g,cap,e,U⟩:=at_ 0 _ rfl;simp only[Zp,true_and] at e;obtain⟨rfl,rfl⟩:=e
  have at':∀ o u,(lf a[k])[o]?=U4 u->w.cell? ⟨g,k*6+o,U3⟩=U4 u:=fun o u l=>by
   obtain⟨g',M,e,c⟩:=at_ o u l;simp only[Zp,ZR,ZS,and_true,true_and] at e;obtain⟨rfl,rfl⟩:=e;exact c
  exact⟨g,rfl,rF.later ⟨U,at' 1 _ rfl,at' 2 _ rfl,at' 3 _ rfl,at' 4 _ rfl,at' 5 _ rfl⟩ P⟩
 have HF:=aC E;clear q E G
 go_in
 go_upto_region 2 with fail
 change YS _ _ _ _ (w.alloc zW);generalize w.alloc zW=W at *
 go_wp2_with (first|(go_at_call 40;refine (EK HS.y).mono ?_;rintro e w1 ⟨rfl,J⟩;have H1:=aC J;clear J))
 generalize w.heap.size=B at *
 go_loopw [9,10,11] (fun v _ _ wr=>∃ k:UY,k<=a.length/\v=.int .i64 k/\LW w wr B (k*64)) (fun v _ _ _=>a.length-(intOf v).toNat)
 case atStart=>exact⟨0,V6 _,rfl,by simpa using H1.y⟩
 case round =>
  obtain⟨k,y,rfl,f⟩:=hrel;have A:=aC f
  by_cases j:k<a.length
  ·have h:(k:UZ)<(a.length:UZ):=UI
   obtain⟨b,rfl,o0,o1,o2,o3,o4,o5⟩:=HO.y wr _ k j f;have p:=HF.y a[k] (zg j);generalize a[k]=x at *;have Y:=aC p
   have h4:¬ x.k<4:=by
    rcases p.2 with e|e
    ·omega
    ·have:=e.1;omega
   clear p f
   by_cases T:x.k<=6
   ·have z:¬ 6<x.k:=UI
    go_wp2_with (first
     |(go_at_call 41;refine (LK A.y x Y.y T UI).mono ?_;rintro e w2 ⟨rfl,I⟩;have H2:=aC I;clear I)
     |(go_at_call 42;refine (H2.y.looks UI).mono ?_;rintro e w3 ⟨rfl,H⟩;have H3:=aC H;clear H))
    exact⟨⟨k+1,by omega,by go_num,by rw[Nat.add_mul,Nat.one_mul];exact H3.y⟩,by simp[intOf];omega⟩
   ·have z:6<x.k:=UI
    go_wp2_with fail
    exact⟨⟨k+1,by omega,by go_num,A.y.more UI⟩,by simp[intOf];omega⟩
  ·have h:¬ (k:UZ)<(a.length:UZ):=UI
   clear f
   go_wp2
   go_ret;exact⟨rfl,A.y.bl⟩
def Dh(w:U7)(b:UY)(e:Ending)(w':U7):Prop:=∃ (v:U8)(a:UV mb),e=.returned v/\w'.ownsRow w.heap.size 89 6 v a.length (a.flatMap lf)/\a.length<=b/\(∀ x∈a,pd x)/\U9 w.heap.size w w'
theorem Ez{v':U8}{a:UV mb}{x:mb}(p:w1.ownsRow w.heap.size 89 6 v a.length (a.flatMap lf))(m:U9 w.heap.size w w1)(k:aF v.ownBlock.toList w1 w2)(j:w2.ownsRow w.heap.size 89 6 v' (a.length+1) (a.flatMap lf++lf x))(h:∀ y∈a,pd y)(o:pd x):
  w2.ownsRow w.heap.size 89 6 v' (a++[x]).length ((a++[x]).flatMap lf)/\(∀ y∈a++[x],pd y)/\U9 w.heap.size w w2:=by
 refine⟨by simpa using j,fun y f=>?_,m.trans (Below.ji k m.size fun b l=>(p.lt b (WI.1 l)).1)⟩;rcases Vr.1 f with f|f
 ·exact h y f
 ·rw[Yo.1 f];exact o
theorem Lz{f:UY}(hs:zZ w a0 f)(hl:f<=1900000)(hw:uN w g kC):
  Va prog 16 #[.slice a0 f cap,.slice (U4 ⟨g,0,U3⟩) 9 c] w (Dh w f):=by
 obtain⟨i0,H,C,A,z⟩:=info_parts KG;have HS:=aC hs;have HW:=aC hw;clear hs hw
 go_in
 go_wp2_with fail
 go_loopw [5,6,7] (fun v i _ wr=>∃ (k:UY) (j:UV mb),k<=f/\i=.int .i64 k/\wr.ownsRow w.heap.size 89 6 v j.length (j.flatMap lf)/\j.length<=k/\(∀ x∈j,pd x)/\U9 w.heap.size w wr) (fun _ i _ _=>f-(intOf i).toNat)
 case atStart=>exact⟨0,[],V6 _,rfl,Yl _ _ _ _,by simp,by simp,Below.refl _ _⟩
 case round =>
  obtain⟨k,j,hk,rfl,V,ac,E,I⟩:=hrel;obtain⟨va,vc,rfl⟩:=gB V;have h:=aC (zA V (zA E I));clear V E I
  by_cases Y:k<f
  ·have G:(k:UZ)<(f:UZ):=UI
   obtain⟨b,ab,x,rfl,l,o⟩:=HS.y k Y;have HP:=aC (zA l o);have WA:=aC (fun W (kW:U9 w.heap.size w W)=>Na x.s W o.sz (c:=c) (HW.y.later kW) UK);obtain⟨o0,o1,q,o3,o4,o5⟩:=l.later h.y.2.2;clear l o
   go_upto_region 6 with (first|(go_at_call 43;refine (WA.y _ h.y.2.2).mono ?_;rintro e w1 ⟨bb,rfl,J,M⟩;have H1:=aC (zA J M);clear J M o0 o1 q o3 o4 o5))
   have p:=aC (aZ h.y.2.2 H1.y.2 (zq _));obtain⟨o0,o1,q,o3,o4,o5⟩:=HP.y.1.later p.y;have u:=aC (ey h.y.1 H1.y.2)
   by_cases N:x.k=4
   ·have aa:(x.k==4)=U6:=by simp[N]
    have FX:Hid (pd x):=⟨HP.y.2,.inl N⟩;clear N
    go_wp2_with (first|(at_builtin;go_loud (refine wG rfl _ _ 22 rfl 6 56 underlying22 H C A z UK rfl UK u.y (cs:=#[.int .i64 x.k,.int .i64 x.a,.int .i64 x.y,.int .i64 x.m,.int .i64 x.d,.string x.s]) rfl US rfl rfl UI p.y.size ?_);intro g2 c2 w2 q U _))
    obtain⟨T,S,P⟩:=Ez u.y p.y U q h.y.2.1 FX.y;exact⟨⟨k+1,j++[x],by omega,by go_num,T,by simp;omega,S,P⟩,by simp[intOf];omega⟩
   ·have aa:(x.k==4)=U5:=by simp[N]
    by_cases h5:5<=x.k
    ·cases bb
     ·go_wp2_with fail
      exact⟨⟨k+1,j,by omega,by go_num,u.y,by omega,h.y.2.1,p.y⟩,by simp[intOf];omega⟩
     ·have FX:Hid (pd x):=⟨HP.y.2,.inr ⟨h5,H1.y.1 rfl⟩⟩
      go_wp2_with (first|(at_builtin;go_loud (refine wG rfl _ _ 22 rfl 6 56 underlying22 H C A z UK rfl UK u.y (cs:=#[.int .i64 x.k,.int .i64 x.a,.int .i64 x.y,.int .i64 x.m,.int .i64 x.d,.string x.s]) rfl US rfl rfl UI p.y.size ?_);intro g2 c2 w2 q U _))
      obtain⟨T,S,P⟩:=Ez u.y p.y U q h.y.2.1 FX.y;exact⟨⟨k+1,j++[x],by omega,by go_num,T,by simp;omega,S,P⟩,by simp[intOf];omega⟩
    ·have ad:¬ (5:UZ)<=x.k:=h5
     go_wp2_with fail
     exact⟨⟨k+1,j,by omega,by go_num,u.y,by omega,h.y.2.1,p.y⟩,by simp[intOf];omega⟩
  ·have G:¬ (k:UZ)<(f:UZ):=UI
   go_wp2
   go_ret;exact⟨_,j,rfl,h.y.1,by omega,h.y.2.1,h.y.2.2⟩
theorem MY{a:UY}(A:Env w)(y:zZ w a0 a)(G:a<=1900000):
  Va prog 6 #[.slice a0 a cap] w fun e w'=>e=.returned (.bool U6)/\U9 w.heap.size w w':=by
 have U:=aC A;have T:=aC y;clear A y
 go_in
 have q:∀ o,U9 w.heap.size w (w.alloc o):=fun o=>(zr _ _).alloc (zq _) o
 have S:Hid (∀ (l:TypeId) c,Va prog 16 #[.slice a0 a cap,.slice (U4 ⟨w.heap.size,0,U3⟩) 9 c] (w.alloc (.cells #[.string kv,.string kn,.string kr,.string dY,.string km,.string ki,.string kL,.string ic,.string iZ] l)) (Dh (w.alloc (.cells #[.string kv,.string kn,.string kr,.string dY,.string km,.string ki,.string kL,.string ic,.string iZ] l)) a)):=fun l c =>
  Lz (fun i J=>by
   obtain⟨b,p,x,e,P,N⟩:=T.y i J
   exact⟨b,p,x,e,P.later (q _),N⟩) G (fun j I=>by
   have M:=cC w (.cells #[.string kv,.string kn,.string kr,.string dY,.string km,.string ki,.string kL,.string ic,.string iZ] l);have H:j<9:=I;rcases (show j=0\/j=1\/j=2\/j=3\/j=4\/j=5\/j=6\/j=7\/j=8 by omega) with rfl|rfl|rfl|rfl|rfl|rfl|rfl|rfl|rfl
   all_goals exact aY M _ rfl)
 have C:=aC q;clear q
 go_wp2_with fail
 refine (S.y _ _).mono ?_;rintro e w1 ⟨v,Y,rfl,z,E,f,u⟩;have m:=aC (zA z (zA f (zA u ((U.y.later (C.y _)).later u))));clear z f u
 go_wp2_with fail
 refine (Mf m.y.2.2.2 m.y.1 m.y.2.1 UI).mono ?_;rintro e w2 ⟨rfl,h⟩;have V:=aC (aZ (aZ (C.y _) m.y.2.2.1 (zq _)) h (zq _));clear h
 go_wp2
 go_ret;exact⟨rfl,V.y⟩
end
end Go.Proofs.YtfigmlfdnickmaaGreatDoor
