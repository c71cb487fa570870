import Derived.Test.YtfigmlfdnickmaaGreatDoorL09
import Derived.BigQuiet
set_option maxRecDepth 100000
set_option maxHeartbeats 8000000
open Go.Proofs.Tryz
open _root_ renaming ByteArray->UU,List->UV,Option->UW,Nat->UY,Int->UZ,if_neg->U0,if_pos->U1
open Option renaming none->U3,some->U4,mem_toList->WI
open Bool renaming false->U5,true->U6,eq_iff_iff->WU,false_and->Z6,true_and->YH
open Go renaming World->U7,Value->U8,Calls->Va,TypeId->Vc,Value->Zf
open Go.RowKit renaming Below->U9
open Go.World renaming size_alloc->Zj,setCell->Vw,block_lt_of_cell?->Vh,news_of_block->Wv,cell?->VA,frozen?->Vi,ownsRow_nil->Yl
open Array renaming getElem?_eq_none->Wn,getElem?_eq_some_iff->YR
open Go.Value renaming oneCell'->WD,int->VT,ownBlock->Wr,slice->YZ
open List renaming mem_cons->Vq,mem_cons_self->Yp,mem_append->Vr,length_map->Wu,length_set->Wp,set_append->ZT,getElem_of_mem->XN,mem_or_eq_of_mem_set->ZU,mem_map->V9,length_append->VU,length_cons->VV,length_drop->ZV,drop_eq_getElem_cons->Ws,getElem_map->ZW,getElem?_append_right->Wz,getElem?_eq_getElem->WS,mem_append_right->Yn,append_assoc->VP,drop_eq_nil_of_le->Wt,append_nil->XT,mem_filter->Xq,mem_singleton->Yo,map_cons->XD,nodup_cons->Vt,mem_cons_of_mem->WH,replicate->Yf,getElem_replicate->ZX,length_replicate->ZY,getElem?_append_left->Wg,getElem?_eq_some_iff->ZI,eq_of_mem_replicate->Z4,mem_append_left->Ym,length->VW,map->Zx
open Go.Value.slice renaming injEq->Zp
open Option.some renaming injEq->ZR,inj->WJ
open Go.Addr.mk renaming injEq->ZS
open Nat renaming add_sub_cancel_left->WB,lt_of_lt_of_le->WE,le_trans->Vg,zero_le->V6,sub_self->Ze,mul_le_mul_right->ZZ
open Go.Code renaming wp->YS
open Go.IntKind renaming i64->Vf
open Int renaming tdiv_eq_ediv_of_nonneg->Z5
open ByteArray renaming empty->Yy
namespace Go.Proofs.YtfigmlfdnickmaaGreatDoor
variable{s x:UU}{fr given m mi mn now pc ti un:UZ}{P:UZ->UV Zf}{ts:UV (UU × UZ)}{xs' ys:UV (aA.aM × UY × UY)}{L:UV (UZ × UZ)}{acc:UV UZ}{F G K:UV UY}{pat xs:UV Zf}{B E Q cap d g i j k n z:UY}{st:UY × Bool}{o:Obj}{a a0 a1 a2 a3 a4 a5 b c l r r' u v:Zf}{W Z Z' Z3 w w' w0 w9 wr:U7}
open Go.RowKit
structure uw(w:U7)(b:UY)(x:aA.aM × UY × UY):Prop where
 c0:w.cell? ⟨b,0,U3⟩=U4 (.int .i64 x.1.id)
 c1:w.cell? ⟨b,1,U3⟩=U4 (.int .i64 x.1.kind)
 c2:w.cell? ⟨b,2,U3⟩=U4 (.string x.1.aT)
 c3:w.cell? ⟨b,3,U3⟩=U4 (.int .i64 x.1.aH)
 c4:w.cell? ⟨b,4,U3⟩=U4 (.slice (U4 ⟨x.2.1,0,U3⟩) x.1.aL.length x.2.2)
 c5:w.cell? ⟨b,5,U3⟩=U4 (.int .i64 x.1.bY)
theorem uw.off{b:UY}{x:aA.aM × UY × UY}(h:uw w b x)(k:aF G w w')(f:b ∉ G):uw w' b x :=
 ⟨k.cell f h.c0,k.cell f h.c1,k.cell f h.c2,k.cell f h.c3,k.cell f h.c4,k.cell f h.c5⟩
theorem Ds(d:UY)(ts:UV (UU × UZ))(xs:UV (aA.aM × UY × UY))(given now:UZ)(F:UV UY)(x:aA.aM × UY × UY)(w:U7)(h:RD w d ts xs given now F)(hx:fY w x.2.1 x.1.aL)(ad:x.2.1 ∉ F)(D:x.2.1<w.heap.size)(V:∀ k∈F,k<w.heap.size)(hl:xs.length<=1000)(a8:0<=given)(a7:given<=1000):
  Va prog 232 #[.pointer (U4 ⟨d,0,U3⟩),.agg (dN x).toArray] w fun e w'=>e=.returned (rM 0 (given+1))/\sW w d ts (xs++[({ x.1 with id:=given+1 },x.2)]) (given+1) now F w':=by
 obtain⟨i0,aw,au,ar,aq⟩:=info_parts wJ;have hd:d<w.heap.size:=V d h.dF;have H:=aC h;have HX:=aC (zA hx (zA ad D));simp only[dN];clear h hx ad D
 go_in
 go_upto_region 1 with fail
 have oX:aF [] w ((w.alloc (.cells #[.int .i64 x.1.id,.int .i64 x.1.kind,.string x.1.aT,.int .i64 x.1.aH,.slice (U4 ⟨x.2.1,0,U3⟩) x.1.aL.length x.2.2,.int .i64 x.1.bY] 58)).alloc (.cells #[.int .i64 0,.int .i64 0,.int .i64 0,.slice U3 0 0,.slice U3 0 0,.slice U3 0 0,.slice U3 0 0] 40)):=((aF.refl _ _).alloc _).alloc _;have bX:uw ((w.alloc (.cells #[.int .i64 x.1.id,.int .i64 x.1.kind,.string x.1.aT,.int .i64 x.1.aH,.slice (U4 ⟨x.2.1,0,U3⟩) x.1.aL.length x.2.2,.int .i64 x.1.bY] 58)).alloc (.cells #[.int .i64 0,.int .i64 0,.int .i64 0,.slice U3 0 0,.slice U3 0 0,.slice U3 0 0,.slice U3 0 0] 40)) w.heap.size x:=⟨by simp,by simp,by simp,by simp,by simp,by simp⟩
 have rX:((w.alloc (.cells #[.int .i64 x.1.id,.int .i64 x.1.kind,.string x.1.aT,.int .i64 x.1.aH,.slice (U4 ⟨x.2.1,0,U3⟩) x.1.aL.length x.2.2,.int .i64 x.1.bY] 58)).alloc (.cells #[.int .i64 0,.int .i64 0,.int .i64 0,.slice U3 0 0,.slice U3 0 0,.slice U3 0 0,.slice U3 0 0] 40)).heap[w.heap.size+1]?=U4 (.cells #[.int .i64 0,.int .i64 0,.int .i64 0,.slice U3 0 0,.slice U3 0 0,.slice U3 0 0,.slice U3 0 0] 40):=by
  have:=cC (w.alloc (.cells #[.int .i64 x.1.id,.int .i64 x.1.kind,.string x.1.aT,.int .i64 x.1.aH,.slice (U4 ⟨x.2.1,0,U3⟩) x.1.aL.length x.2.2,.int .i64 x.1.bY] 58)) (.cells #[.int .i64 0,.int .i64 0,.int .i64 0,.slice U3 0 0,.slice U3 0 0,.slice U3 0 0,.slice U3 0 0] 40)
  rwa [Zj] at this
 have fX:((w.alloc (.cells #[.int .i64 x.1.id,.int .i64 x.1.kind,.string x.1.aT,.int .i64 x.1.aH,.slice (U4 ⟨x.2.1,0,U3⟩) x.1.aL.length x.2.2,.int .i64 x.1.bY] 58)).alloc (.cells #[.int .i64 0,.int .i64 0,.int .i64 0,.slice U3 0 0,.slice U3 0 0,.slice U3 0 0,.slice U3 0 0] 40)).frozen? ⟨w.heap.size,0,U3⟩=U5:=by
  have a:=World.frozen?_alloc_new w #[.int .i64 x.1.id,.int .i64 x.1.kind,.string x.1.aT,.int .i64 x.1.aH,.slice (U4 ⟨x.2.1,0,U3⟩) x.1.aL.length x.2.2,.int .i64 x.1.bY] 58 0;exact (((aF.refl [] (w.alloc (.cells #[.int .i64 x.1.id,.int .i64 x.1.kind,.string x.1.aT,.int .i64 x.1.aH,.slice (U4 ⟨x.2.1,0,U3⟩) x.1.aL.length x.2.2,.int .i64 x.1.bY] 58))).alloc (.cells #[.int .i64 0,.int .i64 0,.int .i64 0,.slice U3 0 0,.slice U3 0 0,.slice U3 0 0,.slice U3 0 0] 40)).frozen UJ UJ).trans a
 have R:=aC (zA oX (zA bX (zA rX fX)));clear oX bX rX fX;generalize (World.alloc _ (.cells #[.int .i64 0,.int .i64 0,.int .i64 0,.slice U3 0 0,.slice U3 0 0,.slice U3 0 0,.slice U3 0 0] 40))=X at R ⊢;obtain⟨N,hN⟩:∃ N,N=w.heap.size:=⟨_,rfl⟩;rw[<- hN] at R ⊢;have ak:d≠N:=UI
 have HN:=aC hN;clear hN hd;have rd:=H.y.off R.y.1 UJ UJ;have c2:=rd.c2;have f2:=rd.fz 2;have fN:=R.y.2.2.2;have n0:=R.y.2.1.c0;have S:=aC rd;clear rd
 go_upto_region 3 with fail
 have al:N ∉ F:=fun e=>by have:=V N e;have:=HN.y;omega
 have oY:aF F X ((X.setCell ⟨d,2,U3⟩ (.int .i64 (given+1))).setCell ⟨N,0,U3⟩ (.int .i64 (given+1)))\/True:=.inr trivial;have kN:aF [N] (X.setCell ⟨d,2,U3⟩ (.int .i64 (given+1))) ((X.setCell ⟨d,2,U3⟩ (.int .i64 (given+1))).setCell ⟨N,0,U3⟩ (.int .i64 (given+1))):=aF.aX ..;have kd:aF [d] X (X.setCell ⟨d,2,U3⟩ (.int .i64 (given+1))):=aF.aX ..
 have ab:RD ((X.setCell ⟨d,2,U3⟩ (.int .i64 (given+1))).setCell ⟨N,0,U3⟩ (.int .i64 (given+1))) d ts xs (given+1) now F :=
  (S.y.nj (given+1)).off kN (fun y C=>by simp;rintro rfl;exact al C) (fun y C=>by
   have h1:=(H.y.sp y C).2.2;have h2:=HN.y
   simp;omega)
 have wY:aF F w ((X.setCell ⟨d,2,U3⟩ (.int .i64 (given+1))).setCell ⟨N,0,U3⟩ (.int .i64 (given+1))) :=
  ((R.y.1.mono UJ).setCell (.inl H.y.dF) _ _).setCell (.inr (by have:=HN.y;omega)) _ _
 have q:=R.y.2.1.off kd (by simp;exact fun e=>ak e.symm)
 have ao:uw ((X.setCell ⟨d,2,U3⟩ (.int .i64 (given+1))).setCell ⟨N,0,U3⟩ (.int .i64 (given+1))) N ({ x.1 with id:=given+1 },x.2) :=
  ⟨zm _ _ _ q.c0,(zS _ _ _ _ UJ).trans q.c1,(zS _ _ _ _ UJ).trans q.c2,(zS _ _ _ _ UJ).trans q.c3,(zS _ _ _ _ UJ).trans q.c4,(zS _ _ _ _ UJ).trans q.c5⟩
 have O:N+1<X.heap.size:=by
  by_cases hx:N+1<X.heap.size
  ·exact hx
  ·have:=R.y.2.2.1;rw[Wn UI] at this;cases this
 have rY:((X.setCell ⟨d,2,U3⟩ (.int .i64 (given+1))).setCell ⟨N,0,U3⟩ (.int .i64 (given+1))).heap[N+1]?=U4 (.cells #[.int .i64 0,.int .i64 0,.int .i64 0,.slice U3 0 0,.slice U3 0 0,.slice U3 0 0,.slice U3 0 0] 40):=by
  rw[kN.block (N+1) (zL O kd.size) UJ,kd.block (N+1) O (by simp;have:=V d H.y.dF;have:=HN.y;omega)];exact R.y.2.2.1
 have p:=aC (zA ab (zA wY (zA ao rY)));clear oY kN kd ab wY q ao rY O c2 f2 fN n0 R S;generalize (Vw _ ⟨N,0,U3⟩ (.int .i64 (given+1)))=Y at p ⊢;obtain⟨v,cv,ho,T⟩:=p.y.1.ev;have b0:=p.y.2.2.1.c0;have b1:=p.y.2.2.1.c1;have b2:=p.y.2.2.1.c2;have b3:=p.y.2.2.1.c3;have b4:=p.y.2.2.1.c4;have b5:=p.y.2.2.1.c5;have f1:=p.y.1.fz 1;have ax:d<Y.heap.size:=Vh _ _ cv;have az:N<Y.heap.size:=Vh _ _ b0;have f:=aC (zA ho T)
 have aj:d ∉ v.ownBlock.toList:=by
  intro e;have:v.ownBlock=U4 d:=by simpa using e
  exact (T d this).2 rfl
 have aa:=aC aj;clear ho T aj;simp only at b0 b1 b2 b3 b4 b5
 go_cut [24] from 17 to 26 (fun _ wx=>∃ g cap w5,aF (v.ownBlock.toList) Y w5/\w5.ownsRow 0 58 6 (.slice (U4 ⟨g,0,U3⟩) (xs.length+1) cap) (xs.length+1) (xs.flatMap dN++dN ({ x.1 with id:=given+1 },x.2))/\(v.ownBlock=U4 g\/Y.heap.size<=g)/\wx=w5.setCell ⟨d,1,U3⟩ (.slice (U4 ⟨g,0,U3⟩) (xs.length+1) cap))
 case first =>
  go_region_law (first
   |(refine step_append_lies _ rfl _ _ 34 rfl 0 58 i0 _ 6 72 underlying34 aw au ar aq rfl UK v xs.length (xs.flatMap dN) rfl (ey f.y.1 (((zr _ _).alloc (zq _) _).drew)) ⟨Y.heap.size,0,U3⟩ 1 1 (dN ({ x.1 with id:=given+1 },x.2)) rfl rfl (Wv (cs:=(dN ({ x.1 with id:=given+1 },x.2)).toArray) (cC Y _)) (by simp[dN,WD]) UI UR UI (zN _) (Y.heap.size+1) UJ ?_;intro g cap w1 av U M a6;have kk:aF (v.ownBlock.toList) Y w1:=aF.grown (((aF.refl _ Y).alloc _).drew) U (fun k I=>.inl (by simp[I]));have z1:=kk.cell aa.y cv;have z2:=(kk.frozen (o:=1) aa.y (Vh _ _ cv)).trans f1))
  all_goals
   go_wp2
   go_meet
   exact⟨g,cap,w1,kk,av,M.imp id (fun e=>by omega),rfl⟩
 case rest =>
  obtain⟨g,cap,w5,kk,af,M,rfl⟩:=hcut;have ac:fY Y x.2.1 x.1.aL:=HX.y.1.off p.y.2.1 HX.y.2.1;have D:x.2.1<Y.heap.size:=zL HX.y.2.2 p.y.2.1.size;obtain⟨rz,oz⟩:=RD.kP (x:=({ x.1 with id:=given+1 },x.2)) p.y.1 cv f.y.1 f.y.2 kk af M ac HX.y.2.1 D
  have ay:N ∉ d :: v.ownBlock.toList:=by
   intro e;rcases Vq.1 e with e|e
   ·exact ak e.symm
   ·exact al (f.y.2 N (by simpa using e)).1
  have O:N+1 ∉ d :: v.ownBlock.toList:=by
   intro e;have h2:=HN.y;rcases Vq.1 e with e|e
   ·have:=V d H.y.dF;omega
   ·have:=V (N+1) (f.y.2 (N+1) (by simpa using e)).1;omega
  have n0:=oz.cell ay b0
  have ag:N+1<Y.heap.size:=by
   by_cases hx:N+1<Y.heap.size
   ·exact hx
   ·have:=p.y.2.2.2;rw[Wn UI] at this;cases this
  have ae:=(oz.block (N+1) ag O).trans p.y.2.2.2;have A:=aC (zA rz (zA oz ae));clear rz oz ae kk af ac D b0 b1 b2 b3 b4 b5 f1 cv ax az aa;have HG:Hid (g∈g :: F):=Yp ..;generalize (Vw w5 ⟨d,1,U3⟩ (.slice (U4 ⟨g,0,U3⟩) (xs.length+1) cap))=Z at A n0 ⊢;have q0:Z.cell? ⟨N+1,0,U3⟩=U4 (.int .i64 0):=by simp[VA,A.y.2.2]
  have q1:Z.cell? ⟨N+1,1,U3⟩=U4 (.int .i64 0):=by simp[VA,A.y.2.2]
  have q2:Z.cell? ⟨N+1,2,U3⟩=U4 (.int .i64 0):=by simp[VA,A.y.2.2]
  have q3:Z.cell? ⟨N+1,3,U3⟩=U4 (.slice U3 0 0):=by simp[VA,A.y.2.2]
  have q4:Z.cell? ⟨N+1,4,U3⟩=U4 (.slice U3 0 0):=by simp[VA,A.y.2.2]
  have q5:Z.cell? ⟨N+1,5,U3⟩=U4 (.slice U3 0 0):=by simp[VA,A.y.2.2]
  have q6:Z.cell? ⟨N+1,6,U3⟩=U4 (.slice U3 0 0):=by simp[VA,A.y.2.2]
  have fq:∀ o,Z.frozen? ⟨N+1,o,U3⟩=U5:=fun o=>by simp[Vi,A.y.2.2]
  have J:aF [N+1] Z (((((((Z.setCell ⟨N+1,0,U3⟩ (.int .i64 0)).setCell ⟨N+1,1,U3⟩ (.int .i64 0)).setCell ⟨N+1,2,U3⟩ (.int .i64 (given+1))).setCell ⟨N+1,3,U3⟩ (.slice U3 0 0)).setCell ⟨N+1,4,U3⟩ (.slice U3 0 0)).setCell ⟨N+1,5,U3⟩ (.slice U3 0 0)).setCell ⟨N+1,6,U3⟩ (.slice U3 0 0)) :=
   (((((((aF.refl [N+1] Z).setCell (.inl UJ) _ _).setCell (.inl UJ) _ _).setCell (.inl UJ) _ _).setCell (.inl UJ) _ _).setCell (.inl UJ) _ _).setCell (.inl UJ) _ _).setCell (.inl UJ) _ _
  have ai:∀ k∈g :: F,k∈F\/w.heap.size<=k:=by
   intro k I;rcases Vq.1 I with rfl|I
   ·rcases M with e|e
    ·exact .inl (f.y.2 k e).1
    ·have:=p.y.2.1.size;exact .inr UI
   ·exact .inl I
  have an:Hid (sW w d ts (xs++[({ x.1 with id:=given+1 },x.2)]) (given+1) now F (((((((Z.setCell ⟨N+1,0,U3⟩ (.int .i64 0)).setCell ⟨N+1,1,U3⟩ (.int .i64 0)).setCell ⟨N+1,2,U3⟩ (.int .i64 (given+1))).setCell ⟨N+1,3,U3⟩ (.slice U3 0 0)).setCell ⟨N+1,4,U3⟩ (.slice U3 0 0)).setCell ⟨N+1,5,U3⟩ (.slice U3 0 0)).setCell ⟨N+1,6,U3⟩ (.slice U3 0 0))):=by
   have a9:=HN.y;refine⟨g :: F,A.y.1.off J (fun y C=>?_) (fun y C=>?_),ai,?_⟩
   ·simp;rintro rfl;rcases Vq.1 C with e|e
    ·rcases M with e2|e2
     ·have:=V g (f.y.2 g e2).1;omega
     ·omega
    ·have:=V _ e;omega
   ·simp;intro e;rcases Vr.1 C with C|C
    ·have:=(H.y.sp y C).2.2;omega
    ·have:y=({ x.1 with id:=given+1 },x.2):=by simpa using C
     subst this;have:=HX.y.2.2;have e':x.2.1=N+1:=e;omega
   ·refine (p.y.2.1.trans' A.y.2.1 (fun k I=>?_)).trans' J (fun k I=>by simp at I;exact .inr UI);rcases Vq.1 I with rfl|I
    ·exact .inl H.y.dF
    ·exact .inl (f.y.2 k (by simpa using I)).1
  clear J ai HG A f p H HX
  go_wp2_with fail
  exact bodyPost_ret (v:=rM 0 (given+1)) (by simp[results,results232,go_sem,rM,q0,q1,q2,q3,q4,q5,q6]) rfl ⟨rfl,an.y⟩
open aA (aM St ec bJ dG dH)
structure EB(e:aM):Prop where
 u0:1<=e.aH
 u1:e.aH<=9
 sl:e.aL.length<=40
 s0:e.aL≠[]
 so:∀ s∈e.aL,0<=s.2/\s.2<=2000000
theorem EB.small{e:aM}(h:EB e):aA.Small e:=⟨by have:=h.u0;omega,h.u1,by have:=h.sl;omega⟩
theorem EB.book{e:aM}(h:EB e):EB (aA.cS e):=⟨h.u0,h.u1,h.sl,h.s0,h.so⟩
structure DD(w:U7)(d:UY)(s:St)(xs:UV (aM × UY × UY))(F:UV UY):Prop where
 rd:RD w d s.ts xs s.given s.now F
 es:xs.map (·.1)=s.es
 lt:∀ k∈F,k<w.heap.size
 tl:s.ts.length<=4
 el:s.es.length<=60
 en:∀ e∈s.es,EB e
variable {w w':U7}{d:UY}{s:St}{xs:UV (aM × UY × UY)}{F:UV UY}
theorem DD.len(h:DD w d s xs F):xs.length=s.es.length:=by rw[<- h.es,Wu]
theorem DD.off(h:DD w d s xs F)(k:aF G w w')(q:∀ x∈F,x ∉ G)(p:∀ x∈xs,x.2.1 ∉ G):DD w' d s xs F :=
 ⟨h.rd.off k q p,h.es,fun x f=>zL (h.lt x f) k.size,h.tl,h.el,h.en⟩
theorem DD.later(h:DD w d s xs F)(k:U9 w.heap.size w w'):DD w' d s xs F:=h.off (G:=[]) (aF.aD k) UJ UJ
theorem DD.de(h:DD w d s xs F):∃ a cap E,ma w d a cap E s.es:=by
 obtain⟨a,cap,E,k⟩:=h.rd.dx;exact⟨a,cap,E,h.es ▸ k.de⟩
theorem DD.small(h:DD w d s xs F):∀ e∈s.es,aA.Small e:=fun e f=>(h.en e f).small
theorem DD.aH(h:DD w d s xs F)(name:UU):
  Va prog 229 #[.pointer (U4 ⟨d,0,U3⟩),.string name] w fun e w'=>e=.returned (.int .i64 (bJ name s.ts))/\w'=w:=by
 obtain⟨a,c,G,ht⟩:=h.rd.dt;exact Al d a c G s.ts name w ht (by have:=h.tl;omega)
theorem DD.asked(h:DD w d s xs F)(name:UU)(u:UZ):
  Va prog 230 #[.pointer (U4 ⟨d,0,U3⟩),.string name,.int .i64 u] w fun e w'=>e=.returned (.int .i64 (dH s.ts name u))/\w'=w:=by
 obtain⟨a,c,G,ht⟩:=h.rd.dt;exact MH d a c G s.ts name u w ht (by have:=h.tl;omega)
theorem DD.fits(h:DD w d s xs F)(name:UU){u:UZ}{cb:UY}(y:fY w B L)(f:L.length<=100)(C:0<=u)(A:u<=9):
  Va prog 182 #[.pointer (U4 ⟨d,0,U3⟩),.string name,.int .i64 u,.slice (U4 ⟨B,0,U3⟩) L.length cb] w fun e w'=>e=.returned (.bool (dG s.ts s.es name u L))/\U9 w.heap.size w w':=by
 obtain⟨a,c,G,ht⟩:=h.rd.dt;obtain⟨b,q,E,p⟩:=h.de;exact DI d b q E s.es a c G s.ts name u B cb L w p ht y (by have:=h.el;omega) (by have:=h.tl;omega) h.small f C A
theorem DD.cY(h:DD w d s xs F)(name:UU)(fr til:UZ):
  Va prog 236 #[.pointer (U4 ⟨d,0,U3⟩),.string name,.int .i64 fr,.int .i64 til] w fun e w'=>e=.returned (.int .i64 (aA.lE name s.es fr til))/\U9 w.heap.size w w':=by
 obtain⟨b,q,E,f⟩:=h.de;exact Lp d b q E s.es name fr til w f (by have:=h.el;omega) h.small
theorem DD.find(h:DD w d s xs F)(name:UU)(u long fr til:UZ)(p:0<=u)(f:u<=9)(A:0<=long)(y:long<=2000000)(D:0<=fr)(C:fr<=2000000):
  Va prog 237 #[.pointer (U4 ⟨d,0,U3⟩),.string name,.int .i64 u,.int .i64 long,.int .i64 fr,.int .i64 til] w fun e w'=>e=.returned (.int .i64 (aA.iY s.ts s.es name u long fr til))/\U9 w.heap.size w w':=by
 obtain⟨a,c,G,ht⟩:=h.rd.dt;obtain⟨b,q,E,H⟩:=h.de;exact Lo d b q E s.es a c G s.ts name u long fr til w H ht (by have:=h.el;omega) (by have:=h.tl;omega) h.small (fun e I=>(h.en e I).so) p f A y D C
theorem DD.place(h:DD w d s xs F)(id:UZ):
  Va prog 233 #[.pointer (U4 ⟨d,0,U3⟩),.int .i64 id] w fun e w'=>e=.returned (.int .i64 (aA.jo id s.es 0))/\w'=w:=by
 obtain⟨b,q,E,f⟩:=h.de;exact Md d b q E s.es id w f (by have:=h.el;omega)
theorem DD.waiting(h:DD w d s xs F):
  Va prog 231 #[.pointer (U4 ⟨d,0,U3⟩)] w fun e w'=>e=.returned (.int .i64 (aA.eh s.es))/\w'=w:=by
 obtain⟨b,q,E,f⟩:=h.de;exact M6 d b q E s.es w f (by have:=h.el;omega)
theorem DD.oM(h:DD w d s xs F)(id:UZ):
  Va prog 234 #[.pointer (U4 ⟨d,0,U3⟩),.int .i64 id] w fun e w'=>∃ v,e=.returned v/\w'.ownsRow w.heap.size 58 6 v (iS id xs).length ((iS id xs).flatMap dN)/\U9 w.heap.size w w':=by
 obtain⟨a,c,E,k⟩:=h.rd.dx;exact M8 d a c E xs id w k (by have:=h.el;have:=h.len;omega)
structure ER(w:U7)(d E cap:UY)(a:UW Addr)(xs:UV (aM × UY × UY)):Prop where
 c:w.cell? ⟨d,1,U3⟩=U4 (.slice a xs.length cap)
 a:∀ i,i<xs.length->a=U4 ⟨E,0,U3⟩
 r:∀ (i:UY) (h:i<xs.length),RE w E i xs[i].1 xs[i].2.1 xs[i].2.2
 f:∀ o,0<xs.length->w.frozen? ⟨E,o,U3⟩=U5
theorem DD.er(h:DD w d s xs F):∃ a cap E,ER w d E cap a xs:=by
 obtain⟨v,c,p,_⟩:=h.rd.ev;obtain⟨a,cap,g,rfl,J,q,A⟩:=wM p (fun x y=>(h.rd.sp x y).1);refine⟨a,cap,g,c,fun i D=>q (by intro e;simp[e] at D),A,fun o C=>?_⟩;obtain rfl:=q (by intro e;simp[e] at C);rcases p.2 with ⟨f,_⟩|⟨M,N,I,f,_,H,_⟩
 ·cases f
 ·simp only[Zp,ZR,ZS] at f;obtain⟨⟨rfl,_⟩,_⟩:=f;simp[Vi,H]
theorem ER.later{a:UW Addr}(h:ER w d E cap a xs)(k:U9 w.heap.size w w'):ER w' d E cap a xs :=
 ⟨aN k h.c,h.a,fun i q=>(h.r i q).later k,fun o p=>((aF.aD (F:=[]) k).frozen UJ (Vh _ _ (h.r 0 p).c0)).trans (h.f o p)⟩
theorem gB{e size:UY}{l:UV U8}(h:w.ownsRow B e size v n l):∃ a cap,v=.slice a n cap:=by
 rcases h.2 with ⟨rfl,rfl⟩|⟨g,cap,_,rfl,_⟩
 ·exact⟨U3,0,rfl⟩
 ·exact⟨_,cap,rfl⟩
theorem za{f:Array Oper}{rest:UV Oper}{o:Oper}{a:Act}{Q:Exit->Act->U7->Prop}(H:o.guard=U3)(x y:Operand)(O:o.op=.call { callee:=.builtin .append,args:=#[x,y],argTypes:=#[38,38] }){l:UV UZ}(p:W.ownsRow B 3 1 v l.length (l.map (VT .i64)))(z:UZ){I:Vc}{mk:UY × UY}(N:a.eval x=v)(M:a.eval y=.slice (U4 ⟨W.heap.size,0,U3⟩) 1 1)(U:l.length<=1000000)(V:B<=W.heap.size)
  (h:∀ v' w',w'.ownsRow B 3 1 v' (l++[z]).length ((l++[z]).map (VT .i64))->aF v.ownBlock.toList W w'->wpList prog f Q rest (a.put o.dst v') w'):
  wpList prog f Q (o :: rest) a (W.alloc (.cells #[.int .i64 z] I mk)):=by
 obtain⟨J,D,C,A,q⟩:=info_parts pB;refine wpList_append_own _ H x y 38 O B 3 J (.int .i64 0) 1 8 underlying38 D C A q rfl UK v l.length (l.map (VT .i64)) N (p.alloc _) ⟨W.heap.size,0,U3⟩ 1 1 [.int .i64 z] M rfl (Wv (cs:=#[.int .i64 z]) (cC W _)) US UR UI UQ ?_;intro v' w' T S _;refine h v' w' (by simpa using T) (((aF.refl _ W).alloc _).grown S (fun k R=>.inl (by simp[R])))
theorem lO{b:UY}{cs:Array U8}{t:Vc}{q:UY × UY}(h:W.heap[b]?=U4 (.cells cs t q))(v:U8):(W.setCell ⟨b,i,U3⟩ v).heap[b]?=U4 (.cells (cs.setIfInBounds i v) t q):=by
 obtain⟨f,p⟩:=YR.1 h;show (W.heap.modify b _)[b]?=_;rw[Array.getElem?_eq_getElem (by rw[Array.size_modify];exact f),Array.getElem_modify_self,p];rfl
theorem nJ{e:UY}(h:W.ownsRow B e z v n xs){b:UY}(D:v.ownBlock=U4 b)(o:UY)(x:U8):(W.setCell ⟨b,o,U3⟩ x).ownsRow B e z v n (xs.set o x):=by
 obtain⟨f,J⟩:=h;rcases J with ⟨rfl,rfl⟩|⟨g,cap,C,rfl,I,H,q,A,y,p⟩
 ·cases D
 ·have M:g=b:=by simpa[Wr] using D
  subst M;refine⟨by rw[Wp];exact f,.inr ⟨g,cap,C.setIfInBounds o x,rfl,I,lO H x,q,A,by rw[Array.size_setIfInBounds];exact y,?_⟩⟩;rw[Array.toList_setIfInBounds,List.take_set,p]
theorem D7:∀ (xs:UV (aA.aM × UY × UY))(k:UY)(f:k<xs.length),((xs.flatMap dN).set (k*6+1) (.int .i64 1)).set (k*6+5) (.int .i64 0)=(xs.set k (aA.cS xs[k].1,xs[k].2)).flatMap dN
 |[],k,f=>absurd f UJ
 |x :: r,0,_=>by simp[dN,aA.cS]
 |x :: r,k+1,f=>by
  have ih:=D7 r k (by simpa using f);have p:(k+1)*6+1=(dN x).length+(k*6+1):=by rw[wQ];omega
  have h:(k+1)*6+5=(dN x).length+(k*6+5):=by rw[wQ];omega
  rw[List.flatMap_cons,p,h,ZT,U0 UI,WB,ZT,U0 UI,WB,ih];rfl
theorem RD.dZ{xs:UV (aA.aM × UY × UY)}(h:RD w d ts xs given now F)(O:w.cell? ⟨d,1,U3⟩=U4 (.slice (U4 ⟨E,0,U3⟩) xs.length cap))(k:UY)(M:k<xs.length):
  RD ((w.setCell ⟨E,k*6+1,U3⟩ (.int .i64 1)).setCell ⟨E,k*6+5,U3⟩ (.int .i64 0)) d ts (xs.set k (aA.cS xs[k].1,xs[k].2)) given now F/\E∈F/\E≠d:=by
 obtain⟨v1,a1,a2,a3⟩:=h.tv;obtain⟨v2,b1,T,S⟩:=h.ev;obtain rfl:v2=.slice (U4 ⟨E,0,U3⟩) xs.length cap:=WJ (b1.symm.trans O);obtain⟨R,A⟩:=S E rfl;have X:aF [E] w (w.setCell ⟨E,k*6+1,U3⟩ (.int .i64 1)):=aF.aX ..;have V:aF [E] (w.setCell ⟨E,k*6+1,U3⟩ (.int .i64 1)) ((w.setCell ⟨E,k*6+1,U3⟩ (.int .i64 1)).setCell ⟨E,k*6+5,U3⟩ (.int .i64 0)):=aF.aX ..;have f:=X.trans V;have q:d ∉ [E]:=by simp;exact fun e=>A e.symm
 have U:=nJ T (b:=E) rfl (k*6+1) (.int .i64 1);have J:=nJ U (b:=E) rfl (k*6+5) (.int .i64 0);rw[D7 xs k M] at J
 have H:v1.ownBlock≠U4 E:=by
  intro e;rcases T.2 with ⟨D,_⟩|⟨g,cp,aa,D,_,hh,_⟩
  ·cases D
  ·simp only[Zp,ZR,ZS] at D;obtain⟨⟨rfl,_⟩,_⟩:=D;exact iu a2 hh UK e
 refine⟨⟨⟨v1,f.cell q a1,dO a2 f (fun b I=>by simp;intro e;subst e;exact H I),a3⟩,⟨_,f.cell q O,by rw[Wp];exact J,fun b I=>S b I⟩,f.cell q h.c2,f.cell q h.c3,fun o=>(f.frozen q (Vh _ _ h.c2)).trans (h.fz o),h.dF,fun x Y=>?_⟩,R,A⟩;obtain⟨j,N,rfl⟩:=XN Y;rw[Wp] at N;have p:∀ y∈xs,fY ((w.setCell ⟨E,k*6+1,U3⟩ (.int .i64 1)).setCell ⟨E,k*6+5,U3⟩ (.int .i64 0)) y.2.1 y.1.aL/\y.2.1 ∉ F/\y.2.1<((w.setCell ⟨E,k*6+1,U3⟩ (.int .i64 1)).setCell ⟨E,k*6+5,U3⟩ (.int .i64 0)).heap.size:=fun y C=>⟨(h.sp y C).1.off f (by simp;intro e;exact (h.sp y C).2.1 (e ▸ R)),(h.sp y C).2.1,WE (h.sp y C).2.2 f.size⟩
 rw[List.getElem_set]
 split
 ·exact p xs[k] (zg M)
 ·exact p xs[j] (zg N)
theorem DD.dZ{s:aA.St}{xs:UV (aA.aM × UY × UY)}(h:DD w d s xs F){a:UW Addr}(y:ER w d E cap a xs)(p:k<xs.length){es':UV aA.aM}(q:s.es.set k (aA.cS xs[k].1)=es'):
  DD ((w.setCell ⟨E,k*6+1,U3⟩ (.int .i64 1)).setCell ⟨E,k*6+5,U3⟩ (.int .i64 0)) d { s with es:=es' } (xs.set k (aA.cS xs[k].1,xs[k].2)) F/\E∈F/\E≠d:=by
 obtain rfl:=y.a k p;obtain⟨C,A⟩:=h.rd.dZ y.c k p;refine⟨⟨C,?_,fun x f=>zL (h.lt x f) (Vg (aF.aX E w _ _).size (aF.aX E _ _ _).size),h.tl,?_,?_⟩,A⟩
 ·show _=es';rw[List.map_set,h.es,q]
 ·show es'.length<=60;rw[<- q,Wp];exact h.el
 ·intro e f;rw[<- q] at f;rcases ZU f with f|rfl
  ·exact h.en e f
  ·exact (h.en _ (h.es ▸ V9.2 ⟨_,List.getElem_mem p,rfl⟩)).book
def nC(x:aA.aM × UY × UY):Obj:=.cells #[.int .i64 x.1.id,.int .i64 x.1.kind,.string x.1.aT,.int .i64 x.1.aH,.slice (U4 ⟨x.2.1,0,U3⟩) x.1.aL.length x.2.2,.int .i64 x.1.bY] 58
def Lb(ys xs:UV (aA.aM × UY × UY)):Prop:=∀ x∈ys,∃ z∈xs,x.2.1=z.2.1
theorem Cn(ts:UV (UU × UZ)):∀ (r d:UV aA.aM),(aA.dQ ts d r).1.length=d.length+r.length/\(aA.dQ ts d r).2.length<=r.length
 |[],d=>by simp[aA.dQ]
 |e :: r,d=>by
  have a:=Cn ts r (d++[aA.cS e]);have b:=Cn ts r (d++[e]);rw[aA.dQ];simp only[VU,VV,List.length_nil] at a b ⊢
  split
  ·simp only[VV];omega
  ·omega
theorem MA{s:aA.St}{xs:UV (aA.aM × UY × UY)}(h:DD w d s xs F):
  Va prog 118 #[.pointer (U4 ⟨d,0,U3⟩)] w fun e w'=>∃ v,e=.returned v/\w'.ownsRow w.heap.size 3 1 v (aA.eA s.ts s.es).2.length ((aA.eA s.ts s.es).2.map (VT .i64))/\(∃ xs',DD w' d { s with es:=(aA.eA s.ts s.es).1 } xs' F/\Lb xs' xs)/\aF F w w':=by
 obtain⟨i0,an,ak,aj,ai⟩:=info_parts pB;have H:=aC h;have aq:=h.el;clear h
 go_in
 go_wp2_with fail
 go_loopw [3,4,5,6] (fun v i _ _ wx=>∃ k:UY,k<=s.es.length/\i=.int .i64 k/\∃ (p:UV aA.aM) (q:UV UZ) (ys:UV (aA.aM × UY × UY)),p.length=k/\(∀ y∈ys,∃ z∈xs,y.2.1=z.2.1)/\DD wx d { s with es:=p++s.es.drop k } ys F/\wx.ownsRow w.heap.size 3 1 v q.length (q.map (VT .i64))/\q.length<=k/\aA.eA s.ts s.es=((aA.dQ s.ts p (s.es.drop k)).1,q++(aA.dQ s.ts p (s.es.drop k)).2)/\aF F w wx) (fun _ i _ _ _=>s.es.length-(intOf i).toNat)
 case atStart=>exact⟨0,V6 _,rfl,[],[],xs,rfl,fun y T=>⟨y,T,rfl⟩,H.y,Yl _ _ _ _,V6 _,by simp[aA.eA],aF.refl _ _⟩
 case round =>
  obtain⟨k,hk,rfl,p,q,ys,Y,M,hd,R,ao,aa,U⟩:=hrel;obtain⟨a,cap,E,hr⟩:=hd.er;have cc:=hr.c;have ae:ys.length=s.es.length:=by have:=hd.len;simp only[VU,ZV] at this;omega
  rw[ae] at cc;have D:=aC (zA hd (zA hr (zA R (zA aa U))));have al:=U.size
  by_cases ag:k<s.es.length
  ·have A:k<ys.length:=UI
   obtain rfl:=hr.a k A;have r0:=hr.r k A;have c0:=r0.c0;have c1:=r0.c1;have c2:=r0.c2;have c3:=r0.c3;have c4:=r0.c4;have c5:=r0.c5;have hi:(k:UZ)<(s.es.length:UZ):=UI
   have V:=Ws ag
   have ab:ys[k].1=s.es[k]:=by
    have e1:(ys.map (·.1))[k]'(by simpa using A)=ys[k].1:=ZW ..
    have e2:(ys.map (·.1))[k]?=U4 s.es[k]:=by rw[hd.es];show (p++s.es.drop k)[k]?=_;rw[Wz UI,Y,Ze,V];rfl
    rw[WS (by simpa using A),ZR] at e2;exact e1.symm.trans e2
   have ad:=hd.en s.es[k] (by show _∈p++s.es.drop k;rw[V];exact Yn _ (Yp ..));have J:=aC (zA ab (zA V ad));have fE:=fun o=>hr.f o UI
   clear hd hr R aa U r0 ab V ad
   have S:∀ (e:aA.aM) (g2:UV UZ),aA.dQ s.ts p (s.es[k] :: s.es.drop (k+1))=((aA.dQ s.ts (p++[e]) (s.es.drop (k+1))).1,g2++(aA.dQ s.ts (p++[e]) (s.es.drop (k+1))).2)->aA.eA s.ts s.es=((aA.dQ s.ts (p++[e]) (s.es.drop (k+1))).1,(q++g2)++(aA.dQ s.ts (p++[e]) (s.es.drop (k+1))).2):=by
    intro e g2 h1;have h2:=D.y.2.2.2.1;rw[J.y.2.1,h1] at h2;rw[h2];simp
   have NX:=aC S;clear S
   have O:aA.dQ s.ts p (s.es[k] :: s.es.drop (k+1))=aA.dQ s.ts (p++[s.es[k]]) (s.es.drop (k+1))->∀ wx,U9 wr.heap.size wr wx->∃ I:UY,I<=s.es.length/\(VT .i64 ((k:UZ)+1))=.int .i64 I/\∃ (p:UV aA.aM) (q:UV UZ) (ys:UV (aA.aM × UY × UY)),p.length=I/\(∀ y∈ys,∃ z∈xs,y.2.1=z.2.1)/\DD wx d { s with es:=p++s.es.drop I } ys F/\wx.ownsRow w.heap.size 3 1 u3 q.length (q.map (VT .i64))/\q.length<=I/\aA.eA s.ts s.es=((aA.dQ s.ts p (s.es.drop I)).1,q++(aA.dQ s.ts p (s.es.drop I)).2)/\aF F w wx:=by
    intro h1 wx hb;refine⟨k+1,by omega,rfl,p++[s.es[k]],q,ys,by simp[Y],M,?_,ey D.y.2.2.1 hb,by omega,by have:=NX.y s.es[k] [] (by rw[h1];simp);simpa using this,D.y.2.2.2.2.trans (aF.aD hb)⟩;have:=D.y.1.later hb;rw[J.y.2.1] at this
    simpa using this
   have ST:=aC O;clear O
   by_cases N:s.es[k].kind=3
   ·have hq:(ys[k].1.kind != 3)=U5:=by rw[J.y.1];simp[N]
    have hX:U9 wr.heap.size wr (wr.alloc (nC ys[k])):=(zr _ _).alloc (zq _) _;have hE:(wr.alloc (nC ys[k])).heap[wr.heap.size]?=U4 (nC ys[k]):=cC _ _;have RS:=aC (D.y.2.1.r k A).sl;have K3:=aC N;clear N
    go_upto_region 7 with fail
    change YS _ _ _ _ (wr.alloc (nC ys[k]));have HX:=aC (zA hX hE);have f0:=rN hE;have f2:=rO hE;have f3:=rP hE;have f4:=rQ hE;have cX:=aN hX cc;have x1:=aN hX c1;have x5:=aN hX c5;clear hX hE c0 c2 c3 c4 c5 cc;generalize wr.alloc (nC ys[k])=X at *;have DX:=aC (D.y.1.later HX.y.1);have FT:=aC (DX.y.fits (u:=ys[k].1.aH) (cb:=ys[k].2.2) ys[k].1.aT (RS.y.later HX.y.1) (by rw[J.y.1];have:=J.y.2.2.sl;omega) (by rw[J.y.1];have:=J.y.2.2.u0;omega) (by rw[J.y.1];exact J.y.2.2.u1))
    go_wp2_with fail
    refine FT.y.mono ?_;rintro e w4 ⟨rfl,C⟩;have HB:=aC C;have B4:=aC (aZ HX.y.1 C (zq _));have e4:Hid (s.ts=s.ts/\p++s.es.drop k=p++s.es[k] :: s.es.drop (k+1)):=⟨rfl,by rw[J.y.2.1]⟩
    cases hf:aA.dG s.ts (p++s.es.drop k) ys[k].1.aT ys[k].1.aH ys[k].1.aL
    ·have hg:Hid (aA.dQ s.ts p (s.es[k] :: s.es.drop (k+1))=aA.dQ s.ts (p++[s.es[k]]) (s.es.drop (k+1))):=by
      show _=_;rw[aA.dQ,U0];rintro ⟨_,h2⟩;rw[J.y.1,e4.y.2,h2] at hf
      cases hf
     clear hf C
     go_wp2
     go_roundw
     case rel=>exact ST.y hg.y _ B4.y
     case measure=>simp[intOf];omega
    ·have hg:Hid (aA.dQ s.ts p (s.es[k] :: s.es.drop (k+1))=((aA.dQ s.ts (p++[aA.cS s.es[k]]) (s.es.drop (k+1))).1,[s.es[k].id]++(aA.dQ s.ts (p++[aA.cS s.es[k]]) (s.es.drop (k+1))).2)):=by
      show _=_;rw[aA.dQ,U1 ⟨K3.y,by rw[J.y.1,e4.y.2] at hf;exact hf⟩];rfl
     have f0:=aN C f0;have cX:=aN C cX;have x1:=aN C x1;have x5:=aN C x5;have hN:wr.heap.size<w4.heap.size:=Vh _ _ f0;have R4:=aC (D.y.2.1.later B4.y);have gE:=fun o=>R4.y.f o UI
     have ar:E<wr.heap.size:=Vh _ _ c1;have av:E≠wr.heap.size:=UI
     clear hf C fE
     have bk:=(D.y.1.later B4.y).dZ R4.y A (es':=(p++[aA.cS s.es[k]])++s.es.drop (k+1)) (by
      show (p++s.es.drop k).set k _=_
      rw[e4.y.2,J.y.1,ZT,U0 UI,Y,Ze,VP];rfl)
     have BK:=aC bk;clear bk;have au:=BK.y.2.2;have kE:aF F w4 ((w4.setCell ⟨E,k*6+1,U3⟩ (.int .i64 1)).setCell ⟨E,k*6+5,U3⟩ (.int .i64 0)):=((aF.refl F w4).setCell (.inl BK.y.2.1) _ _).setCell (.inl BK.y.2.1) _ _;have g0:=(zS _ ⟨E,k*6+5,U3⟩ ⟨wr.heap.size,0,U3⟩ (.int .i64 0) UJ).trans ((zS w4 ⟨E,k*6+1,U3⟩ ⟨wr.heap.size,0,U3⟩ (.int .i64 1) UJ).trans f0);have oz:=dO (ey D.y.2.2.1 B4.y) kE (fun b hb hF=>by have:=H.y.lt b hF;have:=jE D.y.2.2.1 hb;omega);have fz:=(D.y.2.2.2.2.trans (aF.aD B4.y)).trans kE;have HZ:=aC (zA BK.y.1 (zA oz fz));have hZ:=fz.size;clear kE oz fz BK
     go_upto_region 11 with fail
     generalize (Vw (Vw w4 _ _) _ _)=Z at *
     go_wp2_with (first|(at_builtin;refine za rfl _ _ rfl HZ.y.2.1 ys[k].1.id rfl rfl UI hZ ?_;intro v' w' af ac))
     go_roundw
     case rel =>
      have h1:∀ b,u3.ownBlock=U4 b->w.heap.size<=b:=fun b hb=>jE D.y.2.2.1 hb
      refine⟨k+1,by omega,by go_num,p++[aA.cS s.es[k]],q++[ys[k].1.id],_,by simp[Y],fun y T=>?_,HZ.y.1.off ac (fun x hx e=>?_) (fun y T e=>?_),af,by simp;omega,by rw[J.y.1];exact NX.y _ _ hg.y,HZ.y.2.2.trans' ac (fun x hx=>.inr (h1 x (by simpa using hx)))⟩
      ·rcases ZU T with T|rfl
       ·exact M y T
       ·exact M ys[k] (zg A)
      ·have:=h1 x (by simpa using e);have:=H.y.lt x hx;omega
      ·have:=h1 y.2.1 (by simpa using e)
       have:∃ z∈xs,y.2.1=z.2.1:=by
        rcases ZU T with T|rfl
        ·exact M y T
        ·exact M ys[k] (zg A)
       obtain⟨z,hz,e⟩:=this;have:=(H.y.rd.sp z hz).2.2;omega
     case measure=>simp[intOf];omega
   ·have hq:(ys[k].1.kind != 3)=U6:=by rw[J.y.1];simp[N]
    have hg:Hid (aA.dQ s.ts p (s.es[k] :: s.es.drop (k+1))=aA.dQ s.ts (p++[s.es[k]]) (s.es.drop (k+1))):=by
     show _=_;rw[aA.dQ,U0 (fun h=>N h.1)]
    clear N
    go_wp2
    go_roundw
    case rel=>exact ST.y hg.y _ ((zr _ _).alloc (zq _) _)
    case measure=>simp[intOf];omega
  ·have hi:¬ (k:UZ)<(s.es.length:UZ):=UI
   have e:s.es.drop k=[]:=Wt UI
   have HG:Hid (aA.eA s.ts s.es=(p,q)):=by
    have:=D.y.2.2.2.1;rw[e] at this;exact this.trans (by simp[aA.dQ])
   have HF:Hid (DD wr d { s with es:=p } ys F):=by
    have:=D.y.1;rw[e,XT] at this;exact this
   clear hd hr R aa U
   go_wp2
   go_ret;rw[HG.y];exact⟨u3,rfl,D.y.2.2.1,⟨ys,HF.y,M⟩,D.y.2.2.2.2⟩
open aA (aM St bO aU)
structure pf(w:U7)(v1 v2 v4:U8)(p:bO):Prop where
 en:∃ l,EV w v1 l/\l.map (·.1)=p.entries
 da:NV w v2 p.days
 ed:NV w v4 p.ended
def dK(w:U7)(d:UY)(F:UV UY)(xs:UV (aM × UY × UY))(q:St × bO)(e:Ending)(w':U7):Prop :=
 ∃ (v1 v2 f p:U8) (xs':UV (aM × UY × UY)) (F' G:UV UY),e=.returned (bC q.2.err 0 q.2.n v1 v2 f p)/\(∀ h,(∀ b∈G,h.heap[b]?=w'.heap[b]?)->pf h v1 v2 p q.2) /\
  w'.ownsRow w.heap.size 3 1 f q.2.granted.length (q.2.granted.map (VT .i64))/\DD w' d q.1 xs' F'/\(∀ k∈F',k∈F\/w.heap.size<=k)/\aF F w w' /\
  (∀ b∈G,w.heap.size<=b/\b<w'.heap.size/\b ∉ F'/\f.ownBlock≠U4 b)/\(∀ b,f.ownBlock=U4 b->b ∉ F'/\∀ x∈xs',x.2.1≠b)/\∀ x∈xs',(∃ y∈xs,x.2.1=y.2.1)\/w.heap.size<=x.2.1
abbrev aR:U8:=.slice U3 0 0
theorem NV.nil(w:U7):NV w aR []:=⟨⟨_,_,rfl⟩,fun k f=>by simp at f⟩
theorem EV.nil(w:U7):EV w aR []:=⟨⟨_,_,rfl⟩,fun k f=>by simp at f,by simp⟩
theorem pf.nil(w:U7){e a n:UZ}{g:UV UZ}:pf w aR aR aR ⟨e,a,n,[],[],g,[]⟩:=⟨⟨[],EV.nil w,rfl⟩,NV.nil w,NV.nil w⟩
variable {w Z:U7}{d:UY}{s s':St}{xs:UV (aM × UY × UY)}{F F':UV UY}
theorem DD.plain(h:DD Z d s' xs' F')(C:∀ k∈F',k∈F\/w.heap.size<=k)(k:aF F w Z)(q:∀ x∈xs',(∃ y∈xs,x.2.1=y.2.1)\/w.heap.size<=x.2.1)(f n:UZ):dK w d F xs (s',⟨f,0,n,[],[],[],[]⟩) (.returned (bC f 0 n aR aR aR aR)) Z :=
 ⟨aR,aR,aR,aR,xs',F',[],rfl,fun p _=>pf.nil p,Yl _ _ _ _,h,C,k,by simp,fun b A=>by simp[Wr] at A,q⟩
theorem DD.mh(h:DD Z d s' xs' F')(I:∀ k∈F',k∈F\/w.heap.size<=k)(k:aF F w Z)(H:w.heap.size<=Q)(A:Q ∉ F')(q:∀ x∈xs',x.2.1≠Q)(D:∀ x∈xs',(∃ y∈xs,x.2.1=y.2.1)\/w.heap.size<=x.2.1)(C n:UZ)(a b c e f g i:U8):dK w d F xs (s',⟨C,0,n,[],[],[],[]⟩) (.returned (bC C 0 n aR aR aR aR)) (cK Z Q a b c e f g i) :=
 (h.off (lC Z Q a b c e f g i) (fun x p e=>A (by simp at e;exact e ▸ p)) (fun x p e=>q x p (by simpa using e))).plain I (k.trans' (lC ..) (fun x p=>by simp at p;exact .inr (p ▸ H))) D C n
theorem DD.said(h:DD w d s xs F)(k:U9 w.heap.size w Z)(y:w.heap.size<=Q)(q n:UZ)(a b c e f g i:U8):dK w d F xs (s,⟨q,0,n,[],[],[],[]⟩) (.returned (bC q 0 n aR aR aR aR)) (cK Z Q a b c e f g i) :=
 (h.later k).mh (fun _ p=>.inl p) (aF.aD k) y (fun p=>by have:=h.lt Q p;omega) (fun x p e=>by have:=(h.rd.sp x p).2.2;omega) (fun x p=>.inl ⟨x,p,rfl⟩) q n a b c e f g i
theorem DD.fresh(h:DD w d s xs F){es':UV aM}(D:Z.ownsRow B 58 6 v ys.length (ys.flatMap dN))(R:w.heap.size<=B)(k:U9 w.heap.size w Z)(J:∀ y∈ys,y∈xs)(T:ys.length<=xs.length)(H:ys.map (·.1)=es'):
  DD (Z.setCell ⟨d,1,U3⟩ v) d { s with es:=es' } ys (v.ownBlock.toList++F):=by
 have q:=h.later k;have f:∀ b,v.ownBlock=U4 b->w.heap.size<=b/\b<Z.heap.size:=fun b f=>⟨Vg R (jE D f),eW D f⟩
 have U:d<w.heap.size:=h.lt d h.rd.dF;have A:aF [d] Z (Z.setCell ⟨d,1,U3⟩ v):=aF.aX ..;obtain⟨v1,a1,a2,a3⟩:=q.rd.tv;obtain⟨v2,S,X,V⟩:=q.rd.ev
 refine⟨⟨⟨v1,(zS _ _ _ _ UJ).trans a1,dO a2 A (fun b f e=>(a3 b f).2 (by simpa using e)),fun b f=>⟨Yn _ (a3 b f).1,(a3 b f).2⟩⟩,⟨v,World.cell?_setCell_same _ _ _ S,uQ (dO D A (fun b C e=>by have:=(f b C).1;simp at e;omega)) (zN _),fun b C=>⟨by simp[C],fun e=>by have:=(f b C).1;omega⟩⟩,
  (zS _ _ _ _ UJ).trans q.rd.c2,(zS _ _ _ _ UJ).trans q.rd.c3,fun o=>(zF ..).trans (q.rd.fz o),Yn _ h.rd.dF,fun x p=>?_⟩,H,fun x p=>?_,h.tl,?_,fun e p=>?_⟩
 ·obtain⟨N,I,M⟩:=h.rd.sp x (J x p);refine⟨((N.later k).off A (by simp;rintro rfl;exact I h.rd.dF)),fun e=>?_,WE (zL M k.size) A.size⟩;rcases Vr.1 e with e|e
  ·have:=(f _ (by simpa using e)).1;omega
  ·exact I e
 ·refine WE ?_ A.size;rcases Vr.1 p with e|e
  ·exact (f x (by simpa using e)).2
  ·exact q.lt x e
 ·show es'.length<=60;have:=h.len;have:=h.el;rw[<- H,Wu];omega
 ·rw[<- H] at p;obtain⟨y,O,rfl⟩:=V9.1 p;exact h.en _ (h.es ▸ V9.2 ⟨y,J y O,rfl⟩)
theorem aF.QV(h:aF [] w w'):U9 w.heap.size w w':=⟨h.os,h.tape,h.output,h.size,fun k f=>h.block k f UJ⟩
theorem Dj{f:Array Oper}{rest:UV Oper}{o:Oper}{a:Act}{Q:Exit->Act->U7->Prop}(J:o.guard=U3)(x y:Operand)(T:o.op=.call { callee:=.builtin .append,args:=#[x,y],argTypes:=#[56,56] }){l:UV (UZ × UZ)}(p:W.ownsRow B 60 2 v l.length (l.flatMap iF))(A q:UZ){N:Vc}{mk:UY × UY}(S:a.eval x=v)(R:a.eval y=.slice (U4 ⟨W.heap.size,0,U3⟩) 1 1)(X:l.length<=1000000)(Y:B<=W.heap.size)
  (h:∀ g cap w',w'.ownsRow B 60 2 (.slice (U4 ⟨g,0,U3⟩) (l.length+1) cap) (l.length+1) ((l++[(A,q)]).flatMap iF)->aF v.ownBlock.toList W w'->wpList prog f Q rest (a.put o.dst (.slice (U4 ⟨g,0,U3⟩) (l.length+1) cap)) w'):
  wpList prog f Q (o :: rest) a (W.alloc (.cells #[.int .i64 A,.int .i64 q] N mk)):=by
 obtain⟨O,I,H,D,C⟩:=info_parts uZ;refine wpList_append_own _ J x y 56 T B 60 O _ 2 16 underlying56 I H D C rfl UK v l.length (l.flatMap iF) S (p.alloc _) ⟨W.heap.size,0,U3⟩ 1 1 [.int .i64 A,.int .i64 q] R rfl (Wv (cs:=#[.int .i64 A,.int .i64 q]) (cC W _)) US UR UI UQ ?_;intro v' w' M V _;rcases M.2 with ⟨_,h0⟩|⟨g,cap,_,rfl,_⟩
 ·omega
 ·refine h g cap w' (by rw[List.flatMap_append];exact M) (((aF.refl _ W).alloc _).grown V (fun k U=>.inl (by simp[U])))
theorem RD.trim(h:RD w d ts xs given now F):RD w d ts xs given now (F.filter fun k=>decide (k<w.heap.size)):=by
 obtain⟨v1,a1,a2,a3⟩:=h.tv;obtain⟨v2,A,y,q⟩:=h.ev;refine⟨⟨v1,a1,a2,fun k f=>⟨Xq.2 ⟨(a3 k f).1,by simpa using eW a2 f⟩,(a3 k f).2⟩⟩,⟨v2,A,y,fun k f=>⟨Xq.2 ⟨(q k f).1,by simpa using eW y f⟩,(q k f).2⟩⟩,h.c2,h.c3,h.fz,Xq.2 ⟨h.dF,?_⟩,fun x p=>⟨(h.sp x p).1,fun e=>(h.sp x p).2.1 (Xq.1 e).1,(h.sp x p).2.2⟩⟩;have:=Vh _ _ h.c2
 simpa using this
theorem DD.kP{Y:U7}(h:DD Y d s xs F){x:aM × UY × UY}(f:EB x.1)(D:s.es.length<60)(k:sW Y d s.ts (xs++[({ x.1 with id:=s.given+1 },x.2)]) (s.given+1) s.now F Z):
  ∃ F',DD Z d (aA.jz s x.1).1 (xs++[({ x.1 with id:=s.given+1 },x.2)]) F'/\(∀ k∈F',k∈F\/Y.heap.size<=k)/\aF F Y Z:=by
 obtain⟨F',C,A,y⟩:=k;refine⟨_,⟨C.trim,?_,fun k q=>by simpa using (Xq.1 q).2,h.tl,?_,fun e p=>?_⟩,fun k q=>A k (Xq.1 q).1,y⟩
 ·simp[aA.jz,h.es]
 ·simp[aA.jz];omega
 ·simp only[aA.jz,Vr,Yo] at p;rcases p with p|rfl
  ·exact h.en e p
  ·exact⟨f.u0,f.u1,f.sl,f.s0,f.so⟩
structure KP(w wx:U7)(L:UV (UY × Obj)):Prop where
 bl:U9 w.heap.size w wx
 kb:∀ q∈L,wx.heap[q.1]?=U4 q.2
 lo:∀ q∈L,w.heap.size<=q.1
 nd:(L.map (·.1)).Nodup
variable {w wx wy:U7}{L L':UV (UY × Obj)}{b:UY}{o:Obj}{cs:Array U8}{t:Vc}{m:UY × UY}
theorem KP.nil(w:U7):KP w w []:=⟨zr _ _,by simp,by simp,by simp⟩
theorem KP.lt(h:KP w wx L){q:UY × Obj}(f:q∈L):q.1<wx.heap.size:=(YR.1 (h.kb q f)).1
theorem KP.later(h:KP w wx L)(k:U9 wx.heap.size wx wy):KP w wy L:=⟨aZ h.bl k (zq _),fun q f=>(k.block _ (h.lt f)).trans (h.kb q f),h.lo,h.nd⟩
theorem KP.alloc(h:KP w wx L)(o:Obj):KP w (wx.alloc o) ((wx.heap.size,o) :: L):=by
 have k:=h.later ((zr _ _).alloc (zq _) o);refine⟨k.bl,fun q f=>?_,fun q f=>?_,?_⟩
 ·rcases Vq.1 f with rfl|f
  ·exact cC _ _
  ·exact k.kb q f
 ·rcases Vq.1 f with rfl|f
  ·exact h.bl.size
  ·exact h.lo q f
 ·rw[XD,Vt];refine⟨fun e=>?_,h.nd⟩;obtain⟨q,f,e⟩:=V9.1 e;have:=h.lt f;omega
theorem KP.put(h:KP w wx ((b,.cells cs t m) :: L))(i:UY)(v:U8):KP w (wx.setCell ⟨b,i,U3⟩ v) ((b,.cells (cs.setIfInBounds i v) t m) :: L):=by
 have k:aF [b] wx (wx.setCell ⟨b,i,U3⟩ v):=aF.aX ..;have y:=h.lo _ (Yp ..);have p:=h.nd;rw[XD,Vt] at p;refine⟨h.bl.setCell y v,fun q f=>?_,fun q f=>?_,h.nd⟩
 ·rcases Vq.1 f with rfl|f
  ·exact lO (h.kb _ (Yp ..)) v
  ·refine (k.block _ (h.lt (WH _ f)) (fun e=>p.1 (V9.2 ⟨q,f,?_⟩))).trans (h.kb q (WH _ f))
   simpa using e
 ·rcases Vq.1 f with rfl|f
  ·exact y
  ·exact h.lo q (WH _ f)
theorem KP.perm(h:KP w wx L)(p:L.Perm L'):KP w wx L':=⟨h.bl,fun q f=>h.kb q (p.mem_iff.2 f),fun q f=>h.lo q (p.mem_iff.2 f),(p.map _).nodup_iff.1 h.nd⟩
theorem KP.less(h:KP w wx L)(p:L'.Sublist L):KP w wx L':=⟨h.bl,fun q f=>h.kb q (p.subset f),fun q f=>h.lo q (p.subset f),h.nd.sublist (p.map _)⟩
theorem KP.swap{q r:UY × Obj}(h:KP w wx (q :: r :: L)):KP w wx (r :: q :: L):=h.perm (List.Perm.swap ..)
theorem KP.cell(h:KP w wx L)(p:(b,Obj.cells cs t m)∈L)(i:UY)(f:cs[i]?=U4 v):wx.cell? ⟨b,i,U3⟩=U4 v:=by
 have:=h.kb _ p;simp only at this;simp[VA,this,f]
theorem KP.frozen(h:KP w wx L)(f:(b,Obj.cells cs t)∈L)(i:UY):wx.frozen? ⟨b,i,U3⟩=U5:=by
 have:=h.kb _ f;simp only at this;simp[Vi,this]
theorem KP.oW(h:KP w wx ((b,.cells #[a0,a1,a2,a3,a4,a5] t m) :: L))(v0 v1 v2 q p f:U8):KP w ((((((wx.setCell ⟨b,0,U3⟩ v0).setCell ⟨b,1,U3⟩ v1).setCell ⟨b,2,U3⟩ v2).setCell ⟨b,3,U3⟩ q).setCell ⟨b,4,U3⟩ p).setCell ⟨b,5,U3⟩ f) ((b,.cells #[v0,v1,v2,q,p,f] t m) :: L):=by
 have:=(((((h.put 0 v0).put 1 v1).put 2 v2).put 3 q).put 4 p).put 5 f
 simpa using this
theorem KP.hc(h:KP w wx ((b,.cells cs t m) :: L))(i:UY)(f:cs[i]?=U4 v):wx.cell? ⟨b,i,U3⟩=U4 v:=h.cell (Yp ..) i f
theorem KP.hf(h:KP w wx ((b,.cells cs t) :: L))(i:UY):wx.frozen? ⟨b,i,U3⟩=U5:=h.frozen (Yp ..) i
theorem KP.oa(h:KP w wx ((b,.cells #[a0,a1,a2,a3,a4,a5] t m) :: L)):wx.cell? ⟨b,0,U3⟩=U4 a0/\wx.cell? ⟨b,1,U3⟩=U4 a1/\wx.cell? ⟨b,2,U3⟩=U4 a2/\wx.cell? ⟨b,3,U3⟩=U4 a3/\wx.cell? ⟨b,4,U3⟩=U4 a4/\wx.cell? ⟨b,5,U3⟩=U4 a5 :=
 ⟨h.hc 0 rfl,h.hc 1 rfl,h.hc 2 rfl,h.hc 3 rfl,h.hc 4 rfl,h.hc 5 rfl⟩
theorem zn{w4:U7}(h:U9 (W.alloc o).drew.heap.size (W.alloc o).drew w4):w4.heap[W.heap.size]?=U4 o:=(h.block _ UJ).trans (cC _ _)
open aA (aM)
theorem NV.at_(h:NV w u (Yf n m))(f:k<n):∃ g cap,u=.slice (U4 ⟨g,0,U3⟩) n cap/\w.cell? ⟨g,k,U3⟩=U4 (.int .i64 m):=by
 obtain⟨g,cap,e,a⟩:=h.cell k (by simpa using f);rw[ZX] at a;rw[ZY] at e;exact⟨g,cap,e,a⟩
theorem SV.at_(h:SV w u (Yf n (m,m)))(f:k<n):∃ g cap,u=.slice (U4 ⟨g,0,U3⟩) n cap/\w.cell? ⟨g,k*2,U3⟩=U4 (.int .i64 m)/\w.cell? ⟨g,k*2+1,U3⟩=U4 (.int .i64 m):=by
 obtain⟨g,cap,e,a,b⟩:=h.cell k (by simpa using f);rw[ZX] at a b;rw[ZY] at e;exact⟨g,cap,e,a,b⟩
def wb(m:UZ):aM:={ id:=m,kind:=0,aT:=⟨#[]⟩,aH:=m,aL:=[],bY:=0 }
theorem EV.at_(h:EV w u (Yf n (wb m,.slice U3 0 0)))(f:k<n):∃ g cap,u=.slice (U4 ⟨g,0,U3⟩) n cap/\w.cell? ⟨g,k*6,U3⟩=U4 (.int .i64 m)/\w.cell? ⟨g,k*6+1,U3⟩=U4 (.int .i64 0)/\w.cell? ⟨g,k*6+2,U3⟩=U4 (.string ⟨#[]⟩)/\w.cell? ⟨g,k*6+3,U3⟩=U4 (.int .i64 m)/\w.cell? ⟨g,k*6+4,U3⟩=U4 (.slice U3 0 0)/\w.cell? ⟨g,k*6+5,U3⟩=U4 (.int .i64 0):=by
 obtain⟨g,cap,e,a⟩:=h.cell k (by simpa using f);rw[ZX] at a;rw[ZY] at e;exact⟨g,cap,e,a⟩
theorem wU(n:UY)(m:UZ)(u:U8)(w:U7)(p:NV w u (Yf n m))(D:n<=1000000):
  Va prog 56 #[u,.int .i64 m] w fun e w'=>e=.returned (.bool U6)/\U9 w.heap.size w w':=by
 obtain⟨a,I,rfl⟩:=p.form;have A:=aC p;clear p;rw[ZY];rw[ZY] at A
 go_in
 go_wp2_with fail
 go_loopw [5] (fun v wr=>∃ k:UY,k<=n/\v=.int .i64 k/\U9 w.heap.size w wr) (fun v _=>n-(intOf v).toNat)
 case atStart=>exact⟨0,V6 _,rfl,Below.refl _ _⟩
 case round =>
  obtain⟨k,H,rfl,h⟩:=hrel;have y:=aC h;clear h
  by_cases q:k<n
  ·have f:(k:UZ)<(n:UZ):=UI
   obtain⟨g,cap,e,a0⟩:=(A.y.later y.y).at_ q;simp only[Zp,true_and] at e;obtain⟨rfl,rfl⟩:=e;have C:(m != m)=U5:=UJ
   go_wp2
   go_roundw
   case rel=>exact⟨k+1,by omega,by go_num,y.y⟩
   case measure=>simp[intOf];omega
  ·have f:¬ (k:UZ)<(n:UZ):=UI
   go_wp2
   go_ret;exact⟨rfl,y.y⟩
theorem wX(n:UY)(m:UZ)(u:U8)(w:U7)(p:SV w u (Yf n (m,m)))(D:n<=1000000):
  Va prog 57 #[u,.int .i64 m] w fun e w'=>e=.returned (.bool U6)/\U9 w.heap.size w w':=by
 obtain⟨a,I,rfl⟩:=p.form;have A:=aC p;clear p;rw[ZY];rw[ZY] at A
 go_in
 go_wp2_with fail
 go_loopw [5] (fun v wr=>∃ k:UY,k<=n/\v=.int .i64 k/\U9 w.heap.size w wr) (fun v _=>n-(intOf v).toNat)
 case atStart=>exact⟨0,V6 _,rfl,Below.refl _ _⟩
 case round =>
  obtain⟨k,H,rfl,h⟩:=hrel;have y:=aC h;clear h
  by_cases q:k<n
  ·have f:(k:UZ)<(n:UZ):=UI
   obtain⟨g,cap,e,a0,a1⟩:=(A.y.later y.y).at_ q;simp only[Zp,true_and] at e;obtain⟨rfl,rfl⟩:=e;have C:(m != m)=U5:=UJ
   go_wp2
   go_roundw
   case rel=>exact⟨k+1,by omega,by go_num,y.y⟩
   case measure=>simp[intOf];omega
  ·have f:¬ (k:UZ)<(n:UZ):=UI
   go_wp2
   go_ret;exact⟨rfl,y.y⟩
theorem xc(n:UY)(m:UZ)(u:U8)(w:U7)(p:EV w u (Yf n (wb m,.slice U3 0 0)))(D:n<=1000000):
  Va prog 58 #[u,.int .i64 m] w fun e w'=>e=.returned (.bool U6)/\U9 w.heap.size w w':=by
 obtain⟨a,I,rfl⟩:=p.form;have A:=aC p;clear p;rw[ZY];rw[ZY] at A
 go_in
 go_wp2_with fail
 go_loopw [5] (fun v wr=>∃ k:UY,k<=n/\v=.int .i64 k/\U9 w.heap.size w wr) (fun v _=>n-(intOf v).toNat)
 case atStart=>exact⟨0,V6 _,rfl,Below.refl _ _⟩
 case round =>
  obtain⟨k,H,rfl,h⟩:=hrel;have y:=aC h;clear h
  by_cases q:k<n
  ·have f:(k:UZ)<(n:UZ):=UI
   obtain⟨g,cap,e,a0,a1,a2,a3,a4,a5⟩:=(A.y.later y.y).at_ q;simp only[Zp,true_and] at e;obtain⟨rfl,rfl⟩:=e;have C:(m != m)=U5:=UJ
   go_wp2
   go_roundw
   case rel=>exact⟨k+1,by omega,by go_num,y.y⟩
   case measure=>simp[intOf];omega
  ·have f:¬ (k:UZ)<(n:UZ):=UI
   go_wp2
   go_ret;exact⟨rfl,y.y⟩
theorem Ns{P:Program}(w:U7)(t V:Vc)(A:UY)(e:Vc)(i:TypeInfo)(z:U8)(size C:UY)(ht:P.underlying t=U4 (.slice e))(hi:P.info? e=U4 i)(hz:i.zero=U4 z)
  (D:i.size=size) (ae:i.bytes=C) (ak:z.cells.size=size) (an:0<size)
  (v:U8) (n:UY) (xs:UV U8) (h:w.ownsRow A e size v n xs)
  (U:Addr) (m c:UY) (f:UV U8) (hl:f.length=m*size) (p:∀ j u,f[j]?=U4 u->w.cell? (U.add j)=U4 u) (h1:∀ u∈f,u.oneCell'=U6)
  (hm:0<m) (ag:n+m<=maxLen) (q:(n+m)*C<=140737488355328) (R:A<=w.heap.size):
  ∃ g cap w',(Builtin.append_ #[t,t] V #[v,.slice (U4 U) m c]).run P w=.ok (.slice (U4 ⟨g,0,U3⟩) (n+m) cap) w' /\
   w'.ownsRow A e size (.slice (U4 ⟨g,0,U3⟩) (n+m) cap) (n+m) (xs++f)/\w.grownBy w' v.ownBlock/\(v.ownBlock=U4 g\/(g=w.heap.size/\w.grownBy w' U3))/\g<w'.heap.size/\w'.ownsRow A e size v n xs:=by
 obtain⟨g,cap,w',M,h2,h3,_,O⟩:=run_append_lies (P:=P) w t V A e i z size C ht hi hz D ae ak an v n xs h U m c f hl p h1 hm ag q R _ rfl;refine⟨g,cap,w',M,h2,h3,?_⟩;subst D;subst ae;have aj:n+m<=9223372036854775807:=by simp only[maxLen] at ag;omega
 rcases h.2 with ⟨rfl,rfl⟩|⟨S,y,T,rfl,af,hg,Y,ac,ab,J⟩
 ·have I:=run_append_nil (P:=P) w t V e i z ht hi hz U m c f hl p UI UI (by have hb:=q;simp only[Nat.zero_add] at hb;omega);rw[I] at M
  injection M with e1 e2
  subst e2
  injection e1 with e3 e4 e5
  injection e3 with e6
  injection e6 with e7
  exact⟨.inr ⟨e7.symm,⟨rfl,rfl,rfl,by simp,fun k hk _=>((zr w.drew.heap.size w.drew).alloc (zq _) _).block k hk⟩⟩,O,⟨h.1,.inl ⟨rfl,rfl⟩⟩⟩
 ·by_cases H:n+m<=y
  ·have aa:n*i.size+f.length<=T.size:=by rw[hl,ab,<- Nat.add_mul];exact ZZ _ H
   have I:=run_append_room (P:=P) w t V e i ht hi S n y T hg U m c f hl p h1 H aa;rw[I] at M
   injection M with e1 e2
   injection e1 with e3 e4 e5
   injection e3 with e6
   injection e6 with e7
   subst e7 e5;refine⟨.inl rfl,O,⟨h.1,?_⟩⟩;rcases h2.2 with ⟨h0,_⟩|⟨g1,ar,ai,X,aw,aq,au,av,ao,al⟩
   ·cases h0
   ·simp only[Zp,ZR,ZS,and_true,true_and] at X;obtain⟨rfl,rfl⟩:=X;refine .inr ⟨S,y,ai,rfl,af,aq,Y,ac,ao,?_⟩;have:=congrArg (List.take (n*i.size)) al;rw[List.take_take,Nat.min_eq_left (ZZ _ UI),<- h.1,List.take_left] at this;rw[<- h.1];exact this
  ·have N:∀ j u,xs[j]?=U4 u->w.cell? ((⟨S,0,U3⟩:Addr).add j)=U4 u:=h.cells (g:=S) rfl;have I:=run_append_grow (P:=P) w t V e i z ht hi hz ⟨S,0,U3⟩ n y xs h.1 N U m c f hl p UI UI (growslice_fits UI q);rw[I] at M
   injection M with e1 e2
   subst e2
   injection e1 with e3 e4 e5
   injection e3 with e6
   injection e6 with e7
   refine⟨.inr ⟨e7.symm,⟨rfl,rfl,rfl,by simp,fun k hk _=>((zr w.drew.heap.size w.drew).alloc (zq _) _).block k hk⟩⟩,O,⟨h.1,.inr ⟨S,y,T,rfl,af,?_,Y,ac,ab,J⟩⟩⟩;exact (((zr w.drew.heap.size w.drew).alloc (zq _) _).block S (YR.1 hg).1).trans hg
theorem uz(g j:UY):(⟨g,0,U3⟩:Addr).add j=⟨g,j,U3⟩:=by unfold Addr.add;split <;> simp_all
def rp(pat:UV U8)(j:UY):UV U8:=(Yf j pat).flatten
theorem zM(pat:UV U8):rp pat 0=[]:=rfl
theorem oi(pat:UV U8)(j:UY):(rp pat j).length=j*pat.length:=by simp[rp]
theorem uK(pat:UV U8)(j k:UY):rp pat (j+k)=rp pat j++rp pat k:=by
 unfold rp;rw[<- List.replicate_append_replicate,List.flatten_append]
theorem Dn(pat:UV U8):rp pat 1=pat:=by simp[rp]
theorem zK(pat:UV U8)(j:UY):rp pat (j+1)=rp pat j++pat:=by rw[uK,Dn]
theorem wB(pat:UV U8){o:UY}(h:k<j)(f:o<pat.length):(rp pat j)[k*pat.length+o]?=pat[o]?:=by
 have e:j=k+(1+(j-k-1)):=UI
 rw[e,uK,uK,Dn,Wz (by rw[oi];omega),oi,WB,Wg f]
theorem KX(h:(rp pat j)[i]?=U4 v)(f:j<=n):(rp pat n)[i]?=U4 v:=by
 have e:n=j+(n-j):=UI
 rw[e,uK,Wg (ZI.1 h).1];exact h
structure Fu(pat:UV U8)(w:U7)(u:U8)(j:UY):Prop where
 form:∃ a cap,u=.slice a j cap
 cell:∀ i v,(rp pat j)[i]?=U4 v->∃ g cap,u=.slice (U4 ⟨g,0,U3⟩) j cap/\w.cell? ⟨g,i,U3⟩=U4 v
variable {w w':U7}{pat:UV U8}{u:U8}{j:UY}
theorem Fu.jh{e:UY}(h:w.ownsRow B e pat.length u j (rp pat j)):Fu pat w u j:=by
 rcases h.2 with ⟨rfl,rfl⟩|⟨g,cap,p,rfl,_⟩
 ·exact⟨⟨_,_,rfl⟩,fun i v f=>by simp[rp] at f⟩
 ·exact⟨⟨_,_,rfl⟩,fun i v f=>⟨g,cap,rfl,(uz g i) ▸ h.cells (g:=g) rfl i v f⟩⟩
theorem Fu.gk(h:Fu pat w u j)(k:∀ b,u.ownBlock=U4 b->b<w.heap.size->w'.heap[b]?=w.heap[b]?):Fu pat w' u j :=
 ⟨h.form,fun i v f=>by
  obtain⟨g,cap,rfl,c⟩:=h.cell i v f
  exact⟨g,cap,rfl,(zo (k g UT (Vh _ _ c))).trans c⟩⟩
theorem Fu.off(h:Fu pat w u j)(k:aF G w w')(q:∀ b,u.ownBlock=U4 b->b ∉ G):Fu pat w' u j:=h.gk fun b p f=>k.block b f (q b p)
theorem Fu.later(h:Fu pat w u j)(k:U9 w.heap.size w w'):Fu pat w' u j:=h.gk fun b _ f=>k.block b f
abbrev kD(m:UZ):UV U8:=[.int .i64 m]
abbrev ke(m:UZ):UV U8:=[.int .i64 m,.int .i64 m]
abbrev iP(m:UZ):UV U8:=[.int .i64 m,.int .i64 0,.string ⟨#[]⟩,.int .i64 m,.slice U3 0 0,.int .i64 0]
theorem Fu.nv(h:Fu (kD m) w u j):NV w u (Yf j m):=by
 refine⟨by simpa using h.form,fun k f=>?_⟩;rw[ZY] at f;obtain⟨g,cap,rfl,c⟩:=h.cell _ _ (wB (kD m) f (o:=0) UJ);exact⟨g,cap,by simp,by simpa using c⟩
theorem Fu.sv(h:Fu (ke m) w u j):SV w u (Yf j (m,m)):=by
 refine⟨by simpa using h.form,fun k f=>?_⟩;rw[ZY] at f;obtain⟨g,cap,rfl,c⟩:=h.cell _ _ (wB (ke m) f (o:=0) UJ);obtain⟨y,p,e,q⟩:=h.cell _ _ (wB (ke m) f (o:=1) UJ);simp only[Zp,ZR,ZS,and_true,true_and] at e;obtain⟨rfl,rfl⟩:=e;exact⟨g,cap,by simp,by simpa using c,by simpa using q⟩
theorem Fu.ev(h:Fu (iP m) w u j):EV w u (Yf j (wb m,.slice U3 0 0)):=by
 refine⟨by simpa using h.form,fun k q=>?_,fun p A=>?_⟩
 ·rw[ZY] at q;have at_:∀ (o:UY) (v:U8),(iP m)[o]?=U4 v->∃ g cap,u=.slice (U4 ⟨g,0,U3⟩) j cap/\w.cell? ⟨g,k*6+o,U3⟩=U4 v:=fun o v f=>h.cell _ _ ((wB (iP m) q (o:=o) (ZI.1 f).1).trans f)
  obtain⟨g,cap,rfl,C⟩:=at_ 0 _ rfl
  have at':∀ (o:UY) (v:U8),(iP m)[o]?=U4 v->w.cell? ⟨g,k*6+o,U3⟩=U4 v:=fun o v f=>by
   obtain⟨H,y,e,D⟩:=at_ o v f;simp only[Zp,ZR,ZS,and_true,true_and] at e;obtain⟨rfl,rfl⟩:=e;exact D
  refine⟨g,cap,by simp,?_⟩;rw[ZX];exact⟨C,at' 1 _ rfl,at' 2 _ rfl,at' 3 _ rfl,at' 4 _ rfl,at' 5 _ rfl⟩
 ·rw[Z4 A];exact⟨⟨_,_,rfl⟩,fun k q=>by simp[wb] at q⟩
theorem pj{H:Array Oper}{rest:UV Oper}{o:Oper}{a:Act}{Q:Exit->Act->U7->Prop}(Y:o.guard=U3)(x y:Operand)(t:Vc)(ho:o.op=.call { callee:=.builtin .append,args:=#[x,y],argTypes:=#[t,t] })
  (pat:UV U8) {B e:UY}{i:TypeInfo}{z:U8}(f:UY) (ht:prog.underlying t=U4 (.slice e)) (hi:prog.info? e=U4 i) (hz:i.zero=U4 z) (C:i.size=pat.length) (ab:i.bytes=f) (M:f<=72) (S:z.cells.size=pat.length) (V:0<pat.length) (U:∀ u∈pat,u.oneCell'=U6)
  {v:U8}{n:UY}(J:W.ownsRow B e pat.length v n (rp pat n)) {m c:UY}{cs:Array U8}{O:Vc}{mk:UY × UY}(aa:cs.toList=rp pat m) (hm:0<m) (ac:m<=3) (hs:a.eval x=v) (hx:a.eval y=.slice (U4 ⟨W.heap.size,0,U3⟩) m c) (hl:n<=1000000) (hB:B<=W.heap.size)
  (h:∀ g cap w',w'.ownsRow B e pat.length (.slice (U4 ⟨g,0,U3⟩) (n+m) cap) (n+m) (rp pat (n+m))->w'.ownsRow B e pat.length v n (rp pat n)->(∀ u j,j<=n+m->Fu pat W u j->Fu pat w' u j)->aF v.ownBlock.toList W w'->(v.ownBlock=U4 g\/W.heap.size<=g)->wpList prog H Q rest (a.put o.dst (.slice (U4 ⟨g,0,U3⟩) (n+m) cap)) w'):
  wpList prog H Q (o :: rest) a (W.alloc (.cells cs O mk)):=by
 refine wpList_plain Y fun K hK=>?_
 have p:=Wv (cs:=cs) (cC W (.cells cs O mk));rw[aa] at p
 obtain⟨g,cap,w',hr,h2,h3,A,_,h6⟩:=Ns (P:=prog) (W.alloc (.cells cs O mk)) t o.type B e i z pat.length f ht hi hz C ab S V v n (rp pat n) (J.alloc _) ⟨W.heap.size,0,U3⟩ m c (rp pat m) (oi ..) p (fun q hq=>by
  unfold rp at hq;obtain⟨q',h7,h8⟩:=List.mem_flatten.1 hq;rw[Z4 h7] at h8
  exact U q h8) hm UR (Vg (Nat.mul_le_mul (show n+m<=1000003 by omega) M) UK) UQ
 rw[<- uK] at h2;unfold Oper.wp execOp;simp only[ho,resolve,invoke,builtin,Sem.run_bind,Sem.run_pure,Result.andThen_ok,List.map_toArray,XD,List.map_nil,hs,hx,hr];refine hK _ _ (h g cap w' h2 h6 (fun u j hj T=>?_) (((aF.refl _ W).alloc _).grown h3 (fun k hk=>.inl (by simp[hk]))) ?_)
 ·rcases A with A|⟨_,A⟩
  ·refine⟨T.form,fun R v' I=>?_⟩;obtain⟨D,N,rfl,cc⟩:=T.cell R v' I;refine⟨D,N,rfl,?_⟩
   by_cases e1:D=g
   ·subst e1;exact (uz D R) ▸ h2.cells (g:=D) rfl R v' (KX I hj)
   ·have X:D<W.heap.size:=Vh _ _ cc;refine (zo (w:=W) ?_).trans cc;exact (h3.block D (by rw[Zj];omega) (by rw[A];simpa using e1)).trans (((zr W.heap.size W).alloc (zq _) _).block D X)
  ·exact T.gk fun b _ hl=>(A.block b (by rw[Zj];omega) UJ).trans (((zr W.heap.size W).alloc (zq _) _).block b hl)
 ·rcases A with A|⟨A,_⟩
  ·exact .inl A
  ·exact .inr (by rw[A];simp)
abbrev KL:=U8 × U8 × U8 × U8 × UZ
def fu(x:KL):UV U8:=[x.1,x.2.1,x.2.2.1,x.2.2.2.1,.int .i64 x.2.2.2.2]
def fO(x:KL):UV UY:=x.1.ownBlock.toList++(x.2.1.ownBlock.toList++(x.2.2.1.ownBlock.toList++x.2.2.2.1.ownBlock.toList))
def K4(P:UZ->UV U8)(w:U7)(x:KL):Prop :=
 ∃ j,j<=900000/\Fu (P x.2.2.2.2) w x.1 j/\Fu (P x.2.2.2.2) w x.2.1 (j+1)/\Fu (P x.2.2.2.2) w x.2.2.1 (j+2)/\Fu (P x.2.2.2.2) w x.2.2.2.1 (j+3)
theorem K4.off{x:KL}(h:K4 P w x)(k:aF G w w')(p:∀ b∈fO x,b ∉ G):K4 P w' x:=by
 obtain⟨j,q,D,C,A,y⟩:=h;exact⟨j,q,D.off k fun b f=>p b (by simp[fO,f]),C.off k fun b f=>p b (by simp[fO,f]),A.off k fun b f=>p b (by simp[fO,f]),y.off k fun b f=>p b (by simp[fO,f])⟩
structure lk(P:UZ->UV U8)(t:Vc)(K:UV UY)(w:U7)(r:U8)(X:UV KL):Prop where
 own:w.ownsRow 0 t 5 r X.length (X.flatMap fu)
 four:∀ x∈X,K4 P w x
 bl:∀ x∈X,∀ b∈fO x,b∈K
theorem lk.off{t:Vc}{X:UV KL}(h:lk P t K w r X)(k:aF G w w')(p:∀ b,r.ownBlock=U4 b->b ∉ G)(y:∀ b∈K,b ∉ G):lk P t K w' r X :=
 ⟨dO h.own k p,fun x f=>(h.four x f).off k fun b q=>y b (h.bl x f b q),h.bl⟩
theorem lk.wide{t:Vc}{K':UV UY}{X:UV KL}(h:lk P t K w r X)(q:∀ b∈K,b∈K'):lk P t K' w r X :=
 ⟨h.own,h.four,fun x f b p=>q b (h.bl x f b p)⟩
theorem lk.snoc{t:Vc}{X:UV KL}{x:KL}(h:lk P t K w r X)(A:K4 P w x)(k:aF r.ownBlock.toList w w')(D:∀ b∈K,r.ownBlock≠U4 b)(q:∀ b∈fO x,r.ownBlock≠U4 b)
  (C:w'.ownsRow 0 t 5 r' (X.length+1) (X.flatMap fu++fu x)):lk P t (fO x++K) w' r' (X++[x]):=by
 refine⟨by simpa using C,fun y f=>?_,fun y f b p=>?_⟩
 ·rcases Vr.1 f with f|f
  ·exact (h.four y f).off k fun b p e=>D b (h.bl y f b p) (by simpa using e)
  ·rw[Yo.1 f];exact A.off k fun b p e=>q b p (by simpa using e)
 ·rcases Vr.1 f with f|f
  ·exact Yn _ (h.bl y f b p)
  ·rw[Yo.1 f] at p;exact Ym _ p
abbrev tI:Vc:=111
abbrev tS:Vc:=114
abbrev tE:Vc:=117
structure BR(w:U7)(K:UV UY)(r1 r2 r3:U8)(X1 X2 X3:UV KL):Prop where
 b1:lk kD tI K w r1 X1
 b2:lk ke tS K w r2 X2
 b3:lk iP tE K w r3 X3
 kb:∀ b∈K,b<w.heap.size/\r1.ownBlock≠U4 b/\r2.ownBlock≠U4 b/\r3.ownBlock≠U4 b
structure BK(w:U7)(B:UY)(v0 v1:U8)(K:UV UY)(r1 r2 r3:U8)(X1 X2 X3:UV KL):Prop where
 hb:w.heap[B]?=U4 (.cells #[v0,v1,r1,r2,r3] 86)
 br:BR w K r1 r2 r3 X1 X2 X3
 bK:B ∉ K
variable {w w':U7}{B:UY}{v0 v1 r1 r2 r3 r':U8}{K G:UV UY}{X1 X2 X3:UV KL}{x:KL}
theorem ph{q p s1 y C A R O:UY}{u1 u2:U8}{l1 D:UV U8}(M:w.ownsRow R q s1 u1 C l1)(J:w.ownsRow O p y u2 A D)(f:p≠q){b:UY}(I:u1.ownBlock=U4 b):u2.ownBlock≠U4 b:=by
 intro h;rcases J.2 with ⟨rfl,_⟩|⟨g,cap,N,rfl,_,H,_⟩
 ·simp[Wr] at h
 ·simp[Wr] at h;subst h;exact iu M H f I
theorem BR.off(h:BR w K r1 r2 r3 X1 X2 X3)(k:aF G w w')(A:∀ b,r1.ownBlock=U4 b->b ∉ G)(y:∀ b,r2.ownBlock=U4 b->b ∉ G)(q:∀ b,r3.ownBlock=U4 b->b ∉ G)(f:∀ b∈K,b ∉ G):BR w' K r1 r2 r3 X1 X2 X3 :=
 ⟨h.b1.off k A f,h.b2.off k y f,h.b3.off k q f,fun b p=>⟨zL (h.kb b p).1 k.size,(h.kb b p).2⟩⟩
def bM(B:UY)(r1 r2 r3:U8):UV UY:=B :: (r1.ownBlock.toList++(r2.ownBlock.toList++r3.ownBlock.toList))
theorem BK.off(h:BK w B v0 v1 K r1 r2 r3 X1 X2 X3)(k:aF G w w')(p:∀ b∈bM B r1 r2 r3,b ∉ G)(q:∀ b∈K,b ∉ G):BK w' B v0 v1 K r1 r2 r3 X1 X2 X3 :=
 ⟨(k.block B (YR.1 h.hb).1 (p B (by simp[bM]))).trans h.hb,h.br.off k (fun b f=>p b (by simp[bM,f])) (fun b f=>p b (by simp[bM,f])) (fun b f=>p b (by simp[bM,f])) q,h.bK⟩
theorem BK.later(h:BK w B v0 v1 K r1 r2 r3 X1 X2 X3)(k:U9 w.heap.size w w'):BK w' B v0 v1 K r1 r2 r3 X1 X2 X3:=h.off (G:=[]) (aF.aD k) UJ UJ
theorem BK.cells(h:BK w B v0 v1 K r1 r2 r3 X1 X2 X3):w.cell? ⟨B,0,U3⟩=U4 v0/\w.cell? ⟨B,1,U3⟩=U4 v1/\w.cell? ⟨B,2,U3⟩=U4 r1/\w.cell? ⟨B,3,U3⟩=U4 r2/\w.cell? ⟨B,4,U3⟩=U4 r3/\∀ o,w.frozen? ⟨B,o,U3⟩=U5:=by
 have:=h.hb;refine⟨?_,?_,?_,?_,?_,fun o=>?_⟩ <;> simp[VA,Vi,this]
theorem BK.kc(h:BK w B v0 v1 K r1 r2 r3 X1 X2 X3):(∃ a c,r1=.slice a X1.length c)/\(∃ a c,r2=.slice a X2.length c)/\∃ a c,r3=.slice a X3.length c:=⟨gB h.br.b1.own,gB h.br.b2.own,gB h.br.b3.own⟩
def sX(w:U7)(r r':U8):Prop:=∀ b,r'.ownBlock=U4 b->r.ownBlock=U4 b\/w.heap.size<=b
theorem BK.BH(h:BK w B v0 v1 K r1 r2 r3 X1 X2 X3)(hx:K4 kD w x)(p:∀ b∈fO x,b<w.heap.size/\b ∉ bM B r1 r2 r3)(k:aF r1.ownBlock.toList w w')(R:w'.ownsRow 0 tI 5 r' (X1.length+1) (X1.flatMap fu++fu x))(A:sX w r1 r'):
  BK (w'.setCell ⟨B,2,U3⟩ r') B v0 v1 (fO x++K) r' r2 r3 (X1++[x]) X2 X3/\aF (bM B r1 r2 r3) w (w'.setCell ⟨B,2,U3⟩ r'):=by
 have C:=(YR.1 h.hb).1;have I:r1.ownBlock≠U4 B:=iu h.br.b1.own h.hb UK;have H:r2.ownBlock≠U4 B:=iu h.br.b2.own h.hb UK;have D:r3.ownBlock≠U4 B:=iu h.br.b3.own h.hb UK;have q:w'.heap[B]?=U4 (.cells #[v0,v1,r1,r2,r3] 86):=(k.block B C (by simpa using I)).trans h.hb;have J:r'.ownBlock≠U4 B:=iu R q UK;have n2:∀ b,r2.ownBlock=U4 b->b ∉ r1.ownBlock.toList:=fun b f e=>ph h.br.b2.own h.br.b1.own UK f (by simpa using e)
 have n3:∀ b,r3.ownBlock=U4 b->b ∉ r1.ownBlock.toList:=fun b f e=>ph h.br.b3.own h.br.b1.own UK f (by simpa using e)
 have N:∀ b∈K,b ∉ r1.ownBlock.toList:=fun b f e=>(h.br.kb b f).2.1 (by simpa using e)
 have s1:=h.br.b1.snoc hx k (fun b f=>(h.br.kb b f).2.1) (fun b f e=>(p b f).2 (by simp[bM,e])) R;have T:=(h.br.b2.off k n2 N).wide (K':=fO x++K) (fun b f=>Yn _ f);have S:=(h.br.b3.off k n3 N).wide (K':=fO x++K) (fun b f=>Yn _ f);have kd:aF [B] w' (w'.setCell ⟨B,2,U3⟩ r'):=aF.aX ..
 have M:∀ b∈fO x++K,b≠B:=fun b f e=>by
  rcases Vr.1 f with f|f
  ·exact (p b f).2 (by simp[bM,e])
  ·exact h.bK (e ▸ f)
 have br:BR w' (fO x++K) r' r2 r3 (X1++[x]) X2 X3:=by
  refine⟨s1,T,S,fun b f=>?_⟩;rcases Vr.1 f with f|f
  ·refine⟨zL (p b f).1 k.size,fun e=>?_,fun e=>(p b f).2 (by simp[bM,e]),fun e=>(p b f).2 (by simp[bM,e])⟩;rcases A b e with e|e
   ·exact (p b f).2 (by simp[bM,e])
   ·have:=(p b f).1;omega
  ·obtain⟨Y,X,V,U⟩:=h.br.kb b f;refine⟨zL Y k.size,fun e=>?_,V,U⟩;rcases A b e with e|e
   ·exact X e
   ·omega
 refine⟨⟨by rw[lO q];rfl,br.off kd (fun b f e=>J (by simp at e;exact e ▸ f)) (fun b f e=>H (by simp at e;exact e ▸ f)) (fun b f e=>D (by simp at e;exact e ▸ f)) (fun b f e=>M b f (by simpa using e)),fun e=>M B e rfl⟩,?_⟩;exact (k.mono fun y O=>by simp at O;simp[bM,O]).setCell (.inl (by simp[bM])) _ _
theorem BK.BG(h:BK w B v0 v1 K r1 r2 r3 X1 X2 X3)(hx:K4 ke w x)(p:∀ b∈fO x,b<w.heap.size/\b ∉ bM B r1 r2 r3)(k:aF r2.ownBlock.toList w w')(R:w'.ownsRow 0 tS 5 r' (X2.length+1) (X2.flatMap fu++fu x))(A:sX w r2 r'):
  BK (w'.setCell ⟨B,3,U3⟩ r') B v0 v1 (fO x++K) r1 r' r3 X1 (X2++[x]) X3/\aF (bM B r1 r2 r3) w (w'.setCell ⟨B,3,U3⟩ r'):=by
 have C:=(YR.1 h.hb).1;have I:r1.ownBlock≠U4 B:=iu h.br.b1.own h.hb UK;have H:r2.ownBlock≠U4 B:=iu h.br.b2.own h.hb UK;have D:r3.ownBlock≠U4 B:=iu h.br.b3.own h.hb UK;have q:w'.heap[B]?=U4 (.cells #[v0,v1,r1,r2,r3] 86):=(k.block B C (by simpa using H)).trans h.hb;have J:r'.ownBlock≠U4 B:=iu R q UK;have n1:∀ b,r1.ownBlock=U4 b->b ∉ r2.ownBlock.toList:=fun b f e=>ph h.br.b1.own h.br.b2.own UK f (by simpa using e)
 have n3:∀ b,r3.ownBlock=U4 b->b ∉ r2.ownBlock.toList:=fun b f e=>ph h.br.b3.own h.br.b2.own UK f (by simpa using e)
 have N:∀ b∈K,b ∉ r2.ownBlock.toList:=fun b f e=>(h.br.kb b f).2.2.1 (by simpa using e)
 have T:=h.br.b2.snoc hx k (fun b f=>(h.br.kb b f).2.2.1) (fun b f e=>(p b f).2 (by simp[bM,e])) R;have s1:=(h.br.b1.off k n1 N).wide (K':=fO x++K) (fun b f=>Yn _ f);have S:=(h.br.b3.off k n3 N).wide (K':=fO x++K) (fun b f=>Yn _ f);have kd:aF [B] w' (w'.setCell ⟨B,3,U3⟩ r'):=aF.aX ..
 have M:∀ b∈fO x++K,b≠B:=fun b f e=>by
  rcases Vr.1 f with f|f
  ·exact (p b f).2 (by simp[bM,e])
  ·exact h.bK (e ▸ f)
 have br:BR w' (fO x++K) r1 r' r3 X1 (X2++[x]) X3:=by
  refine⟨s1,T,S,fun b f=>?_⟩;rcases Vr.1 f with f|f
  ·refine⟨zL (p b f).1 k.size,fun e=>(p b f).2 (by simp[bM,e]),fun e=>?_,fun e=>(p b f).2 (by simp[bM,e])⟩;rcases A b e with e|e
   ·exact (p b f).2 (by simp[bM,e])
   ·have:=(p b f).1;omega
  ·obtain⟨Y,X,V,U⟩:=h.br.kb b f;refine⟨zL Y k.size,X,fun e=>?_,U⟩;rcases A b e with e|e
   ·exact V e
   ·omega
 refine⟨⟨by rw[lO q];rfl,br.off kd (fun b f e=>I (by simp at e;exact e ▸ f)) (fun b f e=>J (by simp at e;exact e ▸ f)) (fun b f e=>D (by simp at e;exact e ▸ f)) (fun b f e=>M b f (by simpa using e)),fun e=>M B e rfl⟩,?_⟩;exact (k.mono fun y O=>by simp at O;simp[bM,O]).setCell (.inl (by simp[bM])) _ _
theorem BK.BE(h:BK w B v0 v1 K r1 r2 r3 X1 X2 X3)(hx:K4 iP w x)(p:∀ b∈fO x,b<w.heap.size/\b ∉ bM B r1 r2 r3)(k:aF r3.ownBlock.toList w w')(R:w'.ownsRow 0 tE 5 r' (X3.length+1) (X3.flatMap fu++fu x))(A:sX w r3 r'):
  BK (w'.setCell ⟨B,4,U3⟩ r') B v0 v1 (fO x++K) r1 r2 r' X1 X2 (X3++[x])/\aF (bM B r1 r2 r3) w (w'.setCell ⟨B,4,U3⟩ r'):=by
 have C:=(YR.1 h.hb).1;have I:r1.ownBlock≠U4 B:=iu h.br.b1.own h.hb UK;have H:r2.ownBlock≠U4 B:=iu h.br.b2.own h.hb UK;have D:r3.ownBlock≠U4 B:=iu h.br.b3.own h.hb UK;have q:w'.heap[B]?=U4 (.cells #[v0,v1,r1,r2,r3] 86):=(k.block B C (by simpa using D)).trans h.hb;have J:r'.ownBlock≠U4 B:=iu R q UK;have n1:∀ b,r1.ownBlock=U4 b->b ∉ r3.ownBlock.toList:=fun b f e=>ph h.br.b1.own h.br.b3.own UK f (by simpa using e)
 have n2:∀ b,r2.ownBlock=U4 b->b ∉ r3.ownBlock.toList:=fun b f e=>ph h.br.b2.own h.br.b3.own UK f (by simpa using e)
 have N:∀ b∈K,b ∉ r3.ownBlock.toList:=fun b f e=>(h.br.kb b f).2.2.2 (by simpa using e)
 have S:=h.br.b3.snoc hx k (fun b f=>(h.br.kb b f).2.2.2) (fun b f e=>(p b f).2 (by simp[bM,e])) R;have s1:=(h.br.b1.off k n1 N).wide (K':=fO x++K) (fun b f=>Yn _ f);have T:=(h.br.b2.off k n2 N).wide (K':=fO x++K) (fun b f=>Yn _ f);have kd:aF [B] w' (w'.setCell ⟨B,4,U3⟩ r'):=aF.aX ..
 have M:∀ b∈fO x++K,b≠B:=fun b f e=>by
  rcases Vr.1 f with f|f
  ·exact (p b f).2 (by simp[bM,e])
  ·exact h.bK (e ▸ f)
 have br:BR w' (fO x++K) r1 r2 r' X1 X2 (X3++[x]):=by
  refine⟨s1,T,S,fun b f=>?_⟩;rcases Vr.1 f with f|f
  ·refine⟨zL (p b f).1 k.size,fun e=>(p b f).2 (by simp[bM,e]),fun e=>(p b f).2 (by simp[bM,e]),fun e=>?_⟩;rcases A b e with e|e
   ·exact (p b f).2 (by simp[bM,e])
   ·have:=(p b f).1;omega
  ·obtain⟨Y,X,V,U⟩:=h.br.kb b f;refine⟨zL Y k.size,X,V,fun e=>?_⟩;rcases A b e with e|e
   ·exact U e
   ·omega
 refine⟨⟨by rw[lO q];rfl,br.off kd (fun b f e=>I (by simp at e;exact e ▸ f)) (fun b f e=>H (by simp at e;exact e ▸ f)) (fun b f e=>J (by simp at e;exact e ▸ f)) (fun b f e=>M b f (by simpa using e)),fun e=>M B e rfl⟩,?_⟩;exact (k.mono fun y O=>by simp at O;simp[bM,O]).setCell (.inl (by simp[bM])) _ _
theorem Ao(l:UV UZ)(u v:U8)(w:U7)(A:NV w u l)(y:NV w v l)(J:l.length<=1000000):
  Va prog 120 #[u,v] w fun e w'=>e=.returned (.bool U6)/\U9 w.heap.size w w':=by
 obtain⟨a,R,rfl⟩:=A.form;obtain⟨b,cb,rfl⟩:=y.form;have I:=aC A;have H:=aC y;clear A y;have N:((l.length:UZ) != (l.length:UZ))=U5:=UJ
 go_in
 go_wp2_with fail
 go_loopw [5] (fun v wr=>∃ k:UY,k<=l.length/\v=.int .i64 k/\U9 w.heap.size w wr) (fun v _=>l.length-(intOf v).toNat)
 case atStart=>exact⟨0,V6 _,rfl,Below.refl _ _⟩
 case round =>
  obtain⟨k,M,rfl,p⟩:=hrel;have q:=aC p;clear p
  by_cases h:k<l.length
  ·have f:(k:UZ)<(l.length:UZ):=UI
   obtain⟨g,cap,e,a0⟩:=(I.y.later q.y).cell k h;simp only[Zp,true_and] at e;obtain⟨rfl,rfl⟩:=e;obtain⟨O,D,e,S⟩:=(H.y.later q.y).cell k h;simp only[Zp,true_and] at e;obtain⟨rfl,rfl⟩:=e;generalize l[k]=x at *
   go_upto_region 6 with fail
   go_big_region
   have C:=aC (q.y.drew);clear q
   go_wp2
   go_roundw
   case rel=>exact⟨k+1,by omega,by go_num,C.y⟩
   case measure=>simp[intOf];omega
  ·have f:¬ (k:UZ)<(l.length:UZ):=UI
   go_wp2
   go_ret;exact⟨rfl,q.y⟩
theorem M9(L:UV (UZ × UZ))(u v:U8)(w:U7)(C:SV w u L)(A:SV w v L)(M:L.length<=1000000):
  Va prog 183 #[u,v] w fun e w'=>e=.returned (.bool U6)/\U9 w.heap.size w w':=by
 obtain⟨a,S,rfl⟩:=C.form;obtain⟨b,cb,rfl⟩:=A.form;have J:=aC C;have I:=aC A;clear C A;have O:((L.length:UZ) != (L.length:UZ))=U5:=UJ
 go_in
 go_wp2_with fail
 go_loopw [5] (fun v wr=>∃ k:UY,k<=L.length/\v=.int .i64 k/\U9 w.heap.size w wr) (fun v _=>L.length-(intOf v).toNat)
 case atStart=>exact⟨0,V6 _,rfl,Below.refl _ _⟩
 case round =>
  obtain⟨k,N,rfl,p⟩:=hrel;have q:=aC p;clear p
  by_cases h:k<L.length
  ·have f:(k:UZ)<(L.length:UZ):=UI
   obtain⟨g,cap,e,a0,a1⟩:=(J.y.later q.y).cell k h;simp only[Zp,true_and] at e;obtain⟨rfl,rfl⟩:=e;obtain⟨R,H,e,U,T⟩:=(I.y.later q.y).cell k h;simp only[Zp,true_and] at e;obtain⟨rfl,rfl⟩:=e;generalize L[k].1=x at *;generalize L[k].2=y at *
   go_upto_region 6 with fail
   go_big_region
   have D:=aC (q.y.drew);clear q
   go_wp2
   go_roundw
   case rel=>exact⟨k+1,by omega,by go_num,D.y⟩
   case measure=>simp[intOf];omega
  ·have f:¬ (k:UZ)<(L.length:UZ):=UI
   go_wp2
   go_ret;exact⟨rfl,q.y⟩
theorem rT(h:U9 B w w')(n:UY):U9 B w (w'.drewN n):=⟨h.os,h.tape,h.output,h.size,h.block⟩
theorem Np(l m:UV (aM × U8))(u v:U8)(w:U7)(hu:EV w u l)(hv:EV w v m)(he:l.map (·.1)=m.map (·.1))(hl:l.length<=1000)(hs:∀ p∈l,p.1.aL.length<=1000):
  Va prog 119 #[u,v] w fun e w'=>e=.returned (.bool U6)/\U9 w.heap.size w w':=by
 obtain⟨a,ca,rfl⟩:=hu.form;obtain⟨b,cb,rfl⟩:=hv.form;have J:m.length=l.length:=by have:=congrArg VW he;simpa using this.symm
 have AT:Hid (∀ (k:UY) (h:k<l.length) (h':k<m.length),m[k].1=l[k].1):=fun k h h'=>by
  have:=congrArg (fun x=>x[k]?) he;simp only[List.getElem?_map,WS h,WS h',Option.map_some] at this;exact (WJ this).symm
 have HU:=aC hu;have HV:=aC hv;have HS:=aC hs;rw[J];clear hu hv he hs;have hb:((l.length:UZ) != (l.length:UZ))=U5:=UJ
 go_in
 go_wp2_with fail
 go_loopw [5,6] (fun v _ wr=>∃ k:UY,k<=l.length/\v=.int .i64 k/\U9 w.heap.size w wr) (fun v _ _=>l.length-(intOf v).toNat)
 case atStart=>exact⟨0,V6 _,rfl,Below.refl _ _⟩
 case round =>
  obtain⟨k,hk,rfl,M⟩:=hrel;have H:=aC M;clear M
  by_cases A:k<l.length
  ·have I:(k:UZ)<(l.length:UZ):=UI
   have D:k<m.length:=UI
   obtain⟨g,cap,e,a0,a1,a2,a3,a4,a5⟩:=(HU.y.later H.y).cell k A;simp only[Zp,true_and] at e;obtain⟨rfl,rfl⟩:=e;obtain⟨y,aa,e,Y,X,V,U,T,S⟩:=(HV.y.later H.y).cell k D;simp only[Zp,true_and] at e;obtain⟨rfl,rfl⟩:=e;have s1:=(HU.y.later H.y).sp l[k] (zg A);have R:=(HV.y.later H.y).sp m[k] (zg D);rw[AT.y k A D] at Y X V U S R;have SP:=aC (fun f (q:U9 wr.heap.size wr f)=>M9 l[k].1.aL l[k].2 m[k].2 f (s1.later q) (R.later q) (by have:=HS.y l[k] (zg A);omega));obtain⟨f1,f2,e1⟩:=s1.form;obtain⟨f3,f4,e2⟩:=R.form;rw[e1] at a4 SP;rw[e2] at T SP;clear s1 R e1 e2;generalize l[k].1=x at *;have n0:(x.id != x.id)=U5:=UJ
   have n1:(x.kind != x.kind)=U5:=UJ
   have n3:(x.aH != x.aH)=U5:=UJ
   have n5:(x.bY != x.bY)=U5:=UJ
   have O:=aC (H.y.drew);have SS:Hid (∀ f,U9 wr.drew.heap.size wr.drew f->f.cell? ⟨g,k*6,U3⟩=U4 (.int .i64 x.id)/\f.cell? ⟨g,k*6+1,U3⟩=U4 (.int .i64 x.kind)/\f.cell? ⟨g,k*6+2,U3⟩=U4 (.string x.aT)/\f.cell? ⟨g,k*6+3,U3⟩=U4 (.int .i64 x.aH)/\f.cell? ⟨g,k*6+4,U3⟩=U4 (.slice f1 x.aL.length f2)/\f.cell? ⟨g,k*6+5,U3⟩=U4 (.int .i64 x.bY)/\f.cell? ⟨y,k*6,U3⟩=U4 (.int .i64 x.id)/\f.cell? ⟨y,k*6+1,U3⟩=U4 (.int .i64 x.kind)/\f.cell? ⟨y,k*6+2,U3⟩=U4 (.string x.aT)/\f.cell? ⟨y,k*6+3,U3⟩=U4 (.int .i64 x.aH)/\f.cell? ⟨y,k*6+4,U3⟩=U4 (.slice f3 x.aL.length f4)/\f.cell? ⟨y,k*6+5,U3⟩=U4 (.int .i64 x.bY)):=fun f q=>⟨aN q a0,aN q a1,aN q a2,aN q a3,aN q a4,aN q a5,aN q Y,aN q X,aN q V,aN q U,aN q T,aN q S⟩
   clear H
   go_upto_region 6 with fail
   go_region_held3 (fun f=>f.cell? ⟨g,k*6,U3⟩=U4 (.int .i64 x.id)/\f.cell? ⟨g,k*6+1,U3⟩=U4 (.int .i64 x.kind)/\f.cell? ⟨g,k*6+2,U3⟩=U4 (.string x.aT)/\f.cell? ⟨g,k*6+3,U3⟩=U4 (.int .i64 x.aH)/\f.cell? ⟨g,k*6+4,U3⟩=U4 (.slice f1 x.aL.length f2)/\f.cell? ⟨g,k*6+5,U3⟩=U4 (.int .i64 x.bY)/\f.cell? ⟨y,k*6,U3⟩=U4 (.int .i64 x.id)/\f.cell? ⟨y,k*6+1,U3⟩=U4 (.int .i64 x.kind)/\f.cell? ⟨y,k*6+2,U3⟩=U4 (.string x.aT)/\f.cell? ⟨y,k*6+3,U3⟩=U4 (.int .i64 x.aH)/\f.cell? ⟨y,k*6+4,U3⟩=U4 (.slice f3 x.aL.length f4)/\f.cell? ⟨y,k*6+5,U3⟩=U4 (.int .i64 x.bY))
    (first
     |with_reducible exact SS.y _ C.y
     |exact⟨a0,a1,a2,a3,a4,a5,Y,X,V,U,T,S⟩)
    (first
     |(go_at_call 183;refine (SP.y _ (dM _)).mono ?_;rintro e w6 ⟨rfl,N⟩;have C:=aC N;clear N))
   have HF:Hid (U9 w.heap.size w w6):=aZ O.y C.y (zq _);obtain⟨c0,c1,c2,c3,c4,c5,d0,d1,d2,d3,d4,d5⟩:=SS.y _ C.y;clear C O SS SP a0 a1 a2 a3 a4 a5 Y X V U T S;have n2:(x.aT.toList != x.aT.toList)=U5:=UJ
   have ab:(x.aT.toList==x.aT.toList)=U6:=UJ
   go_upto_region 7 with fail
   go_quiet (fail)
   go_wp2
   go_roundw
   case rel=>exact⟨k+1,by omega,by go_num,rT HF.y _⟩
   case measure=>simp[intOf];omega
  ·have I:¬ (k:UZ)<(l.length:UZ):=UI
   go_wp2
   go_ret;exact⟨rfl,H.y⟩
variable {w:U7}{B:UY}{v0 v1 r1 r2 r3:U8}{K:UV UY}{X1 X2 X3:UV KL}
abbrev wC(X1 X2 X3:UV KL):UZ:=-1000-(X1.length:UZ)-X2.length-X3.length
theorem Ac(h:BK w B v0 v1 K r1 r2 r3 X1 X2 X3)(I:X1.length<=1000000000)(H:X2.length<=1000000000)(D:X3.length<=1000000000):
  Va prog 184 #[.pointer (U4 ⟨B,2,U3⟩)] w fun e w'=>e=.returned (.int .i64 (wC X1 X2 X3))/\U9 w.heap.size w w':=by
 obtain⟨_,_,N,M,J,_⟩:=h.cells;obtain⟨⟨a1,q,rfl⟩,⟨a2,p,rfl⟩,a3,f,rfl⟩:=h.kc;have O:=aC h;clear h;have C:Vf.wrap (-1000-(X1.length:UZ))=-1000-(X1.length:UZ):=v8 UI UI;have A:Vf.wrap (-1000-(X1.length:UZ)-X2.length)=-1000-(X1.length:UZ)-X2.length:=v8 UI UI;have y:Vf.wrap (-1000-(X1.length:UZ)-X2.length-X3.length)=-1000-(X1.length:UZ)-X2.length-X3.length:=v8 UI UI
 go_in
 go_upto_region 1 with fail
 go_quiet (fail)
 go_wp2
 go_ret;exact⟨rfl,rT (zr _ _) _⟩
variable {w:U7}{B:UY}{v0 v1 r1 r2 r3:U8}{K:UV UY}{X1 X2 X3:UV KL}
theorem LC:(prog.info? tI).map (fun i=>(i.zero,i.size,i.bytes))=U4 (U4 (.agg #[.slice U3 0 0,.slice U3 0 0,.slice U3 0 0,.slice U3 0 0,.int .i64 0]),5,104):=UO
theorem po{y e:UY}(h:W.ownsRow y e z v n xs)(f:k<xs.length):∃ g cap u,v=.slice (U4 ⟨g,0,U3⟩) n cap/\W.cell? ⟨g,k,U3⟩=U4 u/\∀ o,W.frozen? ⟨g,o,U3⟩=U5:=by
 rcases h.2 with ⟨rfl,rfl⟩|⟨g,cap,q,rfl,_,p,_⟩
 ·have:=h.1;rw[Nat.zero_mul] at this;omega
 ·exact⟨g,cap,xs[k],rfl,(uz g k) ▸ h.cells (g:=g) rfl k xs[k] (WS f),fun o=>by simp[Vi,p]⟩
theorem Kv(h:k<xs.length):(rp (kD m) k++xs.drop k).set k (.int .i64 m)=rp (kD m) (k+1)++xs.drop (k+1):=by
 have f:(rp (kD m) k).length=k:=by rw[oi];simp
 rw[ZT,U0 UI,f,Ze,Ws h,zK,VP];rfl
def qk(w:U7)(B:UY)(v0 v1:U8)(K:UV UY)(r1 r2 r3:U8)(l:U8)(n:UY)(w':U7):Prop :=
 ∃ K' p h f A y q,BK w' B v0 v1 K' p h f A y q/\A.length+y.length+q.length=n+1/\aF (l.ownBlock.toList++bM B r1 r2 r3) w w'/\(∀ b∈K',b∈K\/l.ownBlock=U4 b\/w.heap.size<=b)/\(∀ b∈bM B p h f,b∈bM B r1 r2 r3\/w.heap.size<=b)
structure KS(pat:UV U8)(e:Vc)(w0 Z:U7)(l:U8)(n Q:UY)(o:Obj):Prop where
 own:Z.ownsRow 0 e pat.length l n (rp pat n)
 hq:Z.heap[Q]?=U4 o
 lo:w0.heap.size<=Q
 off:aF l.ownBlock.toList w0 Z
 lt:∀ b,l.ownBlock=U4 b->b<w0.heap.size
theorem KS.put{e:Vc}{cs:Array U8}{t:Vc}(h:KS pat e w0 Z l n Q (.cells cs t))(k:aF l.ownBlock.toList Z Z')(q:Z'.ownsRow 0 e pat.length l n (rp pat n))(i:UY)(v:U8):KS pat e w0 (Z'.setCell ⟨Q,i,U3⟩ v) l n Q (.cells (cs.setIfInBounds i v) t):=by
 have f:Q ∉ l.ownBlock.toList:=fun e=>by have:=h.lt Q (by simpa using e);have:=h.lo;omega
 have p:aF [Q] Z' (Z'.setCell ⟨Q,i,U3⟩ v):=aF.aX ..;refine⟨dO q p (fun b y e=>f (by simp at e;subst e;simpa using y)),lO ((k.block Q (YR.1 h.hq).1 f).trans h.hq) v,h.lo,(h.off.trans k).setCell (.inr h.lo) _ _,h.lt⟩
theorem KS.at_{e:Vc}{cs:Array U8}{t:Vc}(h:KS pat e w0 Z l n Q (.cells cs t))(k:aF l.ownBlock.toList Z Z'):Z'.heap[Q]?=U4 (.cells cs t)/\∀ o,Z'.frozen? ⟨Q,o,U3⟩=U5:=by
 have f:Q ∉ l.ownBlock.toList:=fun e=>by have:=h.lt Q (by simpa using e);have:=h.lo;omega
 have e:=(k.block Q (YR.1 h.hq).1 f).trans h.hq;exact⟨e,fun o=>by simp[Vi,e]⟩
structure KF(pat:UV U8)(e:Vc)(w0 Z:U7)(l:U8)(n Q:UY)(o:Obj)(us:UV (U8 × UY)):Prop where
 ks:KS pat e w0 Z l n Q o
 fs:∀ p∈us,Fu pat Z p.1 p.2/\∀ b,p.1.ownBlock=U4 b->b≠Q/\b<Z.heap.size/\(l.ownBlock=U4 b\/w0.heap.size<=b)
theorem KF.put{e:Vc}{m:UY}{cs:Array U8}{t:Vc}{H:UV (U8 × UY)}(h:KF pat e w0 Z l n Q (.cells cs t) H)(J:Z'.ownsRow 0 e pat.length (.slice (U4 ⟨g,0,U3⟩) (n+m) cap) (n+m) (rp pat (n+m)))(I:Z'.ownsRow 0 e pat.length l n (rp pat n))(R:∀ u j,j<=n+m->Fu pat Z u j->Fu pat Z' u j)(M:aF l.ownBlock.toList Z Z')(q:l.ownBlock=U4 g\/Z.heap.size<=g)(O:∀ p∈H,p.2<=n+m)(i:UY):
  KF pat e w0 (Z'.setCell ⟨Q,i,U3⟩ (.slice (U4 ⟨g,0,U3⟩) (n+m) cap)) l n Q (.cells (cs.setIfInBounds i (.slice (U4 ⟨g,0,U3⟩) (n+m) cap)) t) ((.slice (U4 ⟨g,0,U3⟩) (n+m) cap,n+m) :: H):=by
 have A:aF [Q] Z' (Z'.setCell ⟨Q,i,U3⟩ (.slice (U4 ⟨g,0,U3⟩) (n+m) cap)):=aF.aX ..;have T:Q<Z.heap.size:=(YR.1 h.ks.hq).1;have S:=h.ks.off.size
 have D:g≠Q/\g<Z'.heap.size/\(l.ownBlock=U4 g\/w0.heap.size<=g):=by
  refine⟨?_,eW J UT,q.imp id fun e=>by omega⟩;rcases q with e|e
  ·have:=h.ks.lt g e;have:=h.ks.lo;omega
  ·omega
 refine⟨h.ks.put M I i _,fun p C=>?_⟩;rcases Vq.1 C with rfl|C
 ·refine⟨(Fu.jh J).off A (fun b f e=>?_),fun b f=>?_⟩
  ·simp[Wr] at f e;exact D.1 (f.trans e)
  ·simp[Wr] at f;subst f;exact⟨D.1,WE D.2.1 A.size,D.2.2⟩
 ·obtain⟨N,y⟩:=h.fs p C;exact⟨(R _ _ (O p C) N).off A (fun b f e=>(y b f).1 (by simpa using e)),fun b f=>⟨(y b f).1,WE (zL (y b f).2.1 M.size) A.size,(y b f).2.2⟩⟩
theorem BK.lt(h:BK w B v0 v1 K r1 r2 r3 X1 X2 X3):∀ b∈bM B r1 r2 r3,b<w.heap.size:=fun b f=>by
 simp only[bM,Vq,Vr,WI] at f;rcases f with rfl|f|f|f
 ·exact (YR.1 h.hb).1
 ·exact eW h.br.b1.own f
 ·exact eW h.br.b2.own f
 ·exact eW h.br.b3.own f
theorem KF.blocks{e:Vc}(h:KF pat e wr Z3 l n Q o [(c,n+3),(b,n+2),(a,n+1),(l,n)]):∀ q∈fO (l,a,b,c,m),q<Z3.heap.size/\(l.ownBlock=U4 q\/wr.heap.size<=q):=fun q f=>by
 simp only[fO,Vr,WI] at f;rcases f with f|f|f|f
 ·exact ((h.fs (l,n) UJ).2 q f).2
 ·exact ((h.fs (a,n+1) UJ).2 q f).2
 ·exact ((h.fs (b,n+2) UJ).2 q f).2
 ·exact ((h.fs (c,n+3) UJ).2 q f).2
theorem KF.k4{e:Vc}(f:KF (P m) e wr Z3 l n Q o [(c,n+3),(b,n+2),(a,n+1),(l,n)])(h:n<=900000):K4 P Z3 (l,a,b,c,m) :=
 ⟨n,h,(f.fs (l,n) UJ).1,(f.fs (a,n+1) UJ).1,(f.fs (b,n+2) UJ).1,(f.fs (c,n+3) UJ).1⟩
theorem BK.kept{p h f:U8}{e:Vc}{I H D:UV KL}(R:KF pat e wr Z3 l n Q o [(c,n+3),(b,n+2),(a,n+1),(l,n)])(M:aF l.ownBlock.toList w Z3)(S:w.heap.size<=wr.heap.size)(O:I.length+H.length+D.length=X1.length+X2.length+X3.length+1)
  (N:∀ q∈bM B p h f,q∈bM B r1 r2 r3\/Z3.heap.size<=q) (J:BK w9 B v0 v1 (fO (l,a,b,c,m)++K) p h f I H D/\aF (bM B r1 r2 r3) Z3 w9):qk w B v0 v1 K r1 r2 r3 l (X1.length+X2.length+X3.length) w9:=by
 refine⟨_,p,h,f,I,H,D,J.1,O,(M.mono fun y C=>Ym _ C).trans (J.2.mono fun y C=>Yn _ C),fun q A=>?_,fun q A=>(N q A).imp id fun e=>by have:=M.size;omega⟩;rcases Vr.1 A with A|A
 ·rcases (R.blocks q A).2 with e|e
  ·exact .inr (.inl e)
  ·exact .inr (.inr UI)
 ·exact .inl A
theorem BK.apart{e:Vc}(h:BK w B v0 v1 K r1 r2 r3 X1 X2 X3)(y:KF pat e wr Z3 l n Q o [(c,n+3),(b,n+2),(a,n+1),(l,n)])(C:w.heap.size<=wr.heap.size)(f:∀ b,l.ownBlock=U4 b->b ∉ K/\b ∉ bM B r1 r2 r3):∀ q∈fO (l,a,b,c,m),q<Z3.heap.size/\q ∉ bM B r1 r2 r3:=fun q p=>by
 refine⟨(y.blocks q p).1,fun e=>?_⟩;rcases (y.blocks q p).2 with A|A
 ·exact (f q A).2 e
 ·have:=h.lt q e;omega
theorem BK.um{e:Vc}(h:BK w B v0 v1 K r1 r2 r3 X1 X2 X3)(J:BK Z3 B v0 v1 K r1 r2 r3 X1 X2 X3)(A:KF (kD m) e wr Z3 l n Q o [(c,n+3),(b,n+2),(a,n+1),(l,n)])(I:n<=900000)(M:aF l.ownBlock.toList w Z3)(C:w.heap.size<=wr.heap.size)(y:∀ b,l.ownBlock=U4 b->b ∉ K/\b ∉ bM B r1 r2 r3)
  (H:aF r1.ownBlock.toList Z3 w9) (D:w9.ownsRow 0 tI 5 r' (X1.length+1) (X1.flatMap fu++fu (l,a,b,c,m))) (p:sX Z3 r1 r'):qk w B v0 v1 K r1 r2 r3 l (X1.length+X2.length+X3.length) (w9.setCell ⟨B,2,U3⟩ r') :=
 BK.kept A M C UQ (fun q f=>by
  simp only[bM,Vq,Vr,WI] at f ⊢;rcases f with rfl|f|f|f
  ·exact .inl (.inl rfl)
  ·exact (p q f).imp (fun e=>.inr (.inl e)) id
  ·exact .inl (.inr (.inr (.inl f)))
  ·exact .inl (.inr (.inr (.inr f)))) (J.BH (A.k4 (P:=kD) I) (h.apart A C y) H D p)
theorem Nf(h:BK w B v0 v1 K r1 r2 r3 X1 X2 X3)(h1:X1.length<=1000000000)(h2:X2.length<=1000000000)(h3:X3.length<=1000000000)(hl:w.ownsRow 0 3 1 l n xs)(hn:n<=900000)(Y:∀ b,l.ownBlock=U4 b->b ∉ K/\b ∉ bM B r1 r2 r3):
  Va prog 123 #[.pointer (U4 ⟨B,2,U3⟩),l] w fun e w'=>e=.returned (.tuple #[])/\qk w B v0 v1 K r1 r2 r3 l (X1.length+X2.length+X3.length) w':=by
 obtain⟨i0,J,H,D,C⟩:=info_parts pB;obtain⟨j0,al,aj,ai,ag⟩:=info_parts LC;obtain⟨a,q,rfl⟩:=gB hl;have HB:=aC h;have HL:=aC hl;have HK:=aC Y;have ay:=aC (fun b (f:(YZ a n q).ownBlock=U4 b)=>eW hl f);have au:xs.length=n:=by have:=hl.1;omega
 clear h hl Y
 go_in
 go_upto_region 2 with (first|(go_at_call 184;refine (Ac HB.y h1 h2 h3).mono ?_;rintro e w1 ⟨rfl,f⟩;have H1:=aC f;clear f))
 generalize av:wC X1 X2 X3=m;have aq:=aC (ey HL.y H1.y)
 go_loopw [5] (fun v wr=>∃ k:UY,k<=n/\v=.int .i64 k/\wr.ownsRow 0 3 1 (.slice a n q) n (rp (kD m) k++xs.drop k)/\aF (YZ a n q).ownBlock.toList w1 wr) (fun v _=>n-(intOf v).toNat)
 case atStart=>exact⟨0,V6 _,rfl,by simpa[zM] using aq.y,aF.refl _ _⟩
 case round =>
  obtain⟨k,hk,rfl,y,I⟩:=hrel;have HO:=aC (zA y I)
  by_cases aw:k<n
  ·have X:(k:UZ)<(n:UZ):=UI
   obtain⟨g,cap,u,e,c0,fz⟩:=po y (k:=k) (by rw[VU,oi,ZV];simp;omega);simp only[Zp,true_and] at e;obtain⟨rfl,rfl⟩:=e;have f0:=fz k;clear y I
   go_wp2
   go_roundw
   case rel =>
    refine⟨k+1,by omega,by go_num,?_,HO.y.2.setCell (.inl UT) _ _⟩;have:=nJ HO.y.1 (b:=g) rfl k (.int .i64 m);rw[Kv UI] at this;exact this
   case measure=>simp[intOf];omega
  ·have X:¬ (k:UZ)<(n:UZ):=UI
   have ak:k=n:=UI
   subst ak
   have HR:Hid (wr.ownsRow 0 3 1 (.slice a k q) k (rp (kD m) k)):=by
    have:=HO.y.1;rw[Wt UI,XT] at this;exact this
   clear y I
   go_upto_region 6 with fail
   change YS _ _ _ _ (wr.alloc (.cells #[.slice a k q,.slice U3 0 0,.slice U3 0 0,.slice U3 0 0,.int .i64 m] tI))
   have S0:Hid (KS (kD m) 3 wr (wr.alloc (.cells #[.slice a k q,.slice U3 0 0,.slice U3 0 0,.slice U3 0 0,.int .i64 m] tI)) (.slice a k q) k wr.heap.size (.cells #[.slice a k q,.slice U3 0 0,.slice U3 0 0,.slice U3 0 0,.int .i64 m] tI)) :=
    ⟨HR.y.alloc _,cC _ _,Nat.le_refl _,(aF.refl _ _).alloc _,fun b f=>eW HR.y f⟩
   have R:Hid (KF (kD m) 3 wr (wr.alloc (.cells #[.slice a k q,.slice U3 0 0,.slice U3 0 0,.slice U3 0 0,.int .i64 m] tI)) (.slice a k q) k wr.heap.size (.cells #[.slice a k q,.slice U3 0 0,.slice U3 0 0,.slice U3 0 0,.int .i64 m] tI) [(.slice a k q,k)]) :=
    ⟨S0.y,fun p hp=>by
     rw[Yo.1 hp]
     exact⟨Fu.jh S0.y.own,fun b f=>⟨by have:=S0.y.lt b f;omega,eW S0.y.own f,.inl f⟩⟩⟩
   clear S0;generalize wr.alloc (.cells #[.slice a k q,.slice U3 0 0,.slice U3 0 0,.slice U3 0 0,.int .i64 m] tI)=Z0 at R ⊢
   go_upto_region 7 with (first|(at_builtin;go_loud (refine pj rfl _ _ 38 rfl (kD m) 8 underlying38 J H D C UK rfl UJ US R.y.ks.own (m:=1) (cs:=#[.int .i64 m]) (by simp[rp]) UK UK rfl rfl UI (zN _) ?_);intro g6 c6 w6 o6 V f6 k6 ae;have q6:=aY (R.y.ks.at_ k6).1 1 rfl;have z6:=(R.y.ks.at_ k6).2 1))
   have O:=aC (R.y.put o6 V f6 k6 ae UJ 1);generalize w6.setCell ⟨wr.heap.size,1,U3⟩ (.slice (U4 ⟨g6,0,U3⟩) (k+1) c6)=Z1 at O ⊢;clear o6 V f6 k6 ae q6 z6 R
   go_upto_region 8 with (first|(at_builtin;go_loud (refine pj rfl _ _ 38 rfl (kD m) 8 underlying38 J H D C UK rfl UJ US O.y.ks.own (m:=2) (cs:=#[.int .i64 m,.int .i64 m]) (by simp[rp]) UK UK rfl rfl UI (zN _) ?_);intro g7 c7 w7 o7 U f7 k7 ad;have q7:=aY (O.y.ks.at_ k7).1 2 rfl;have z7:=(O.y.ks.at_ k7).2 2))
   have N:=aC (O.y.put o7 U f7 k7 ad UJ 2);generalize w7.setCell ⟨wr.heap.size,2,U3⟩ (.slice (U4 ⟨g7,0,U3⟩) (k+2) c7)=Z2 at N ⊢;clear o7 U f7 k7 ad q7 z7 O
   go_upto_region 9 with (first|(at_builtin;go_loud (refine pj rfl _ _ 38 rfl (kD m) 8 underlying38 J H D C UK rfl UJ US N.y.ks.own (m:=3) (cs:=#[.int .i64 m,.int .i64 m,.int .i64 m]) (by simp[rp]) UK UK rfl rfl UI (zN _) ?_);intro g8 c8 w8 o8 T f8 k8 ac;have q8:=aY (N.y.ks.at_ k8).1 3 rfl;have z8:=(N.y.ks.at_ k8).2 3))
   have A:=aC (N.y.put o8 T f8 k8 ac UJ 3);generalize w8.setCell ⟨wr.heap.size,3,U3⟩ (.slice (U4 ⟨g8,0,U3⟩) (k+3) c8)=Z3 at A ⊢;clear o8 T f8 k8 ac q8 z8 N;have R3:aF (YZ a k q).ownBlock.toList w Z3:=(aF.aD H1.y).trans (HO.y.2.trans A.y.ks.off);have af:=aC (fun b (f:b∈(YZ a k q).ownBlock.toList)=>HK.y b (by simpa using f));have S:=aC (HB.y.off R3 (fun b f e=>(af.y b e).2 f) (fun b f e=>(af.y b e).1 f));have ao:=aC R3;obtain⟨_,_,d2,_,_,ab⟩:=S.y.cells;obtain⟨⟨ra,rc,er⟩,_,_⟩:=S.y.kc;subst er;have fB:=ab 2;have s0:=aY A.y.ks.hq 0 rfl;have s1:=aY A.y.ks.hq 1 rfl;have s2:=aY A.y.ks.hq 2 rfl;have s3:=aY A.y.ks.hq 3 rfl;have s4:=aY A.y.ks.hq 4 rfl;have ax:∀ o,(Z3.alloc o).cell? ⟨B,2,U3⟩=U4 (.slice ra X1.length rc):=fun o=>aN ((zr _ Z3).alloc (zq _) o) d2
   have DD:=aC (fun o=>ey S.y.br.b1.own (((zr _ Z3).alloc (zq _) o).drew));have aa:(YZ ra X1.length rc).ownBlock≠U4 B:=iu S.y.br.b1.own S.y.hb UK;clear R3 ab
   go_region_law (first
    |(refine step_append_lies _ rfl _ _ 80 rfl 0 tI j0 _ 5 104 underlying80 al aj ai ag rfl UK (.slice ra X1.length rc) X1.length (X1.flatMap fu) rfl (DD.y _) ⟨Z3.heap.size,0,U3⟩ 1 1 (fu (.slice a k q,.slice (U4 ⟨g6,0,U3⟩) (k+1) c6,.slice (U4 ⟨g7,0,U3⟩) (k+2) c7,.slice (U4 ⟨g8,0,U3⟩) (k+3) c8,m)) rfl rfl (Wv (cs:=(fu (.slice a k q,.slice (U4 ⟨g6,0,U3⟩) (k+1) c6,.slice (U4 ⟨g7,0,U3⟩) (k+2) c7,.slice (U4 ⟨g8,0,U3⟩) (k+3) c8,m)).toArray) (cC Z3 _)) (by simp[fu,WD]) UI UR UI (zN _) (Z3.heap.size+1) UJ ?_;intro g9 c9 w9 o9 M an ar;have k9:aF ((YZ ra X1.length rc).ownBlock.toList) Z3 w9:=aF.grown (((aF.refl _ Z3).alloc _).drew) M (fun k hk=>.inl (by simp[hk]));have d9:=k9.cell (fun e=>aa (by simpa using e)) d2;have f9:=(k9.frozen (fun e=>aa (by simpa using e)) (Vh _ _ d2)).trans fB))
   all_goals
    go_wp2_with fail
    (try simp only[Exit.inBlock,Exit.then]);refine bodyPost_end (results_none rfl _ _ _) rfl ?_
    refine⟨rfl,HB.y.um S.y A.y hn ao.y (Vg H1.y.size HO.y.2.size) HK.y k9 o9 (fun b f=>by
     simp[Wr] at f;subst f
     exact an.imp id (fun e=>by omega))⟩
def rH(n:UZ):UU:=if n=1 then ⟨#[100,97,105,108,121]⟩ else if n=2 then ⟨#[119,101,101,107,108,121]⟩ else ⟨#[109,111,110,116,104,108,121]⟩
def pV(r:Rd.bL):Array U8:=#[.string (rH r.pc),.int .i64 r.ev,.bool (aI r.acc 0),.bool (aI r.acc 1),.bool (aI r.acc 2),.bool (aI r.acc 3),.bool (aI r.acc 4),.bool (aI r.acc 5),.bool (aI r.acc 6),.int .i64 r.fr,.int .i64 r.mn,.int .i64 r.mi,.int .i64 r.ti,.int .i64 r.un]
def mL(r:Rd.bL):U8:=.agg (pV r)
theorem J5(x n:UZ):(x.tmod n==0)=decide (x % n=0):=by
 rw[WU,beq_iff_eq,decide_eq_true_eq,<- Int.dvd_iff_tmod_eq_zero,Int.dvd_iff_emod_eq_zero]
def gW(r:Rd.bL):Obj:=.cells (pV r) 273
theorem nm{r:Rd.bL}(h:W.heap[Q]?=U4 (gW r)):(W.cell? ⟨Q,0,U3⟩=U4 (.string (rH r.pc))/\W.cell? ⟨Q,1,U3⟩=U4 (.int .i64 r.ev)/\W.cell? ⟨Q,9,U3⟩=U4 (.int .i64 r.fr)/\W.cell? ⟨Q,10,U3⟩=U4 (.int .i64 r.mn)/\W.cell? ⟨Q,11,U3⟩=U4 (.int .i64 r.mi)/\W.cell? ⟨Q,12,U3⟩=U4 (.int .i64 r.ti)/\W.cell? ⟨Q,13,U3⟩=U4 (.int .i64 r.un))/\∀ j,j<7->W.cell? ⟨Q,2+j,U3⟩=U4 (.bool (aI r.acc j)):=by
 refine⟨⟨aY h 0 rfl,aY h 1 rfl,aY h 9 rfl,aY h 10 rfl,aY h 11 rfl,aY h 12 rfl,aY h 13 rfl⟩,fun j f=>?_⟩;rcases (show j=0\/j=1\/j=2\/j=3\/j=4\/j=5\/j=6 by omega) with rfl|rfl|rfl|rfl|rfl|rfl|rfl
 all_goals exact aY h _ rfl
theorem Kd(r:Rd.bL)(q:Rd.fw r)(d:UZ)(h0:r.fr<=d)(N:d<728)(w:U7):
  Va prog 239 #[mL r,.int .i64 d] w fun e w'=>e=.returned (.bool (Rd.has r d))/\U9 w.heap.size w w':=by
 have O:=q.f0;have e1:=q.e1;have e2:=q.e2;have Y:=q.f1;have hz:(r.ev==0)=U5:=by rw[beq_eq_false_iff_ne];omega
 have y:=aC (zA ((zr _ w).alloc (zq _) (gW r)) (cC w (gW r)));have H:r.pc=1\/r.pc=2\/r.pc=3:=by have:=q.CS;have:=q.CR;omega
 have h:∀ x:UZ,0<=x->0<=x % r.ev/\x % r.ev<100:=fun x _=>⟨Int.emod_nonneg _ UI,Int.lt_of_lt_of_le (Int.emod_lt_of_pos _ UI) UI⟩
 rcases H with f|f|f
 ·have e:Rd.has r d=((d-r.fr) % r.ev==0):=by unfold Rd.has;rw[U1 f];rfl
  have C:Vf.wrap (d-r.fr)=d-r.fr:=cG UI UI;have D:=h (d-r.fr) UI;have M:Vf.wrap ((d-r.fr) % r.ev)=(d-r.fr) % r.ev:=cG UI UI;rw[e];have HP:Hid (rH r.pc=⟨#[100,97,105,108,121]⟩):=by rw[Hid,f];rfl
  clear f;simp only[mL,pV]
  go_in
  go_upto_region 1 with fail
  change YS _ _ _ _ (w.alloc (gW r));obtain⟨⟨A,T,S,_⟩,_⟩:=nm y.y.2;rw[HP.y] at A;generalize w.alloc (gW r)=W at *;clear D e h
  go_wp2
  go_ret;exact⟨rfl,y.y.1⟩
 ·obtain⟨j,J⟩:∃ j:UY,d % 7=j:=⟨(d % 7).toNat,by omega⟩;have I:j<7:=UI
  obtain⟨U,p⟩:∃ b,aI r.acc j=b:=⟨_,rfl⟩;have e:Rd.has r d=(U && ((d / 7-r.fr / 7) % r.ev==0)):=by unfold Rd.has;rw[U0 UI,U1 f,J,p];rfl
  have q1:d.tmod 7=j:=by rw[Int.tmod_eq_emod_of_nonneg UI];exact J
  have q2:d.tdiv 7=d / 7:=Z5 UI;have q3:r.fr.tdiv 7=r.fr / 7:=Z5 O;have w0:Vf.wrap (j:UZ)=j:=cG UI UI;have C:Vf.wrap (d / 7)=d / 7:=cG UI UI;have M:Vf.wrap (r.fr / 7)=r.fr / 7:=cG UI UI;have w3:Vf.wrap (d / 7-r.fr / 7)=d / 7-r.fr / 7:=cG UI UI;have D:=h (d / 7-r.fr / 7) UI;have w4:Vf.wrap ((d / 7-r.fr / 7) % r.ev)=(d / 7-r.fr / 7) % r.ev:=cG UI UI;have X:¬ (j:UZ)<0:=UI
  have V:(j:UZ)<7:=UI
  have HP:Hid (rH r.pc=⟨#[119,101,101,107,108,121]⟩):=by rw[Hid,f];rfl
  clear f D h J;simp only[mL,pV]
  cases U
  all_goals
   simp only[Z6,YH] at e;rw[e]
   go_in
   go_upto_region 1 with fail
   change YS _ _ _ _ (w.alloc (gW r));obtain⟨⟨A,T,S,_⟩,R⟩:=nm y.y.2;rw[HP.y] at A;have cj:=R j I;clear R;rw[p] at cj;generalize w.alloc (gW r)=W at *;clear e p
   go_wp2
   go_ret;exact⟨rfl,y.y.1⟩
 ·obtain⟨_,_,y1,y2⟩:=Rd.pF (x:=d) UI N;obtain⟨_,_,z1,z2⟩:=Rd.pF O Y
  have e:Rd.has r d=((Cal.dT r.fr==Cal.dT d) && ((12*Cal.yT d+Cal.mT d-12*Cal.yT r.fr-Cal.mT r.fr).tmod r.ev==0)):=by
   rw[J5];unfold Rd.has;rw[U0 UI,U0 UI]
   congr 1
   rw[WU,decide_eq_true_eq,beq_iff_eq];exact eq_comm
  have D1:=aC (fun W=>zB r.fr W UI UI);have D2:=aC (fun W=>zB d W UI UI);rw[e];clear e;obtain⟨m1,m2⟩:1<=Cal.mT d/\Cal.mT d<=12:=by have:=(Cal.tt d UI UI).1;exact⟨((Cal.gO _ _ _).1 this).2.2.1,((Cal.gO _ _ _).1 this).2.2.2.1⟩
  obtain⟨m3,m4⟩:1<=Cal.mT r.fr/\Cal.mT r.fr<=12:=by have:=(Cal.tt r.fr UI UI).1;exact⟨((Cal.gO _ _ _).1 this).2.2.1,((Cal.gO _ _ _).1 this).2.2.2.1⟩
  generalize Cal.yT d=yd at *;generalize Cal.mT d=md at *;generalize Cal.dT d=dd at *;generalize Cal.yT r.fr=yf at *;generalize Cal.mT r.fr=mf at *;generalize Cal.dT r.fr=df at *;have C:Vf.wrap (12*yd)=12*yd:=cG UI UI;have M:Vf.wrap (12*yd+md)=12*yd+md:=cG UI UI;have w3:Vf.wrap (12*yf)=12*yf:=cG UI UI;have w4:Vf.wrap (12*yd+md-12*yf)=12*yd+md-12*yf:=cG UI UI;have w5:Vf.wrap (12*yd+md-12*yf-mf)=12*yd+md-12*yf-mf:=cG UI UI
  have w6:Vf.wrap ((12*yd+md-12*yf-mf).tmod r.ev)=(12*yd+md-12*yf-mf).tmod r.ev:=by
   have N:=Int.tmod_lt_of_pos (12*yd+md-12*yf-mf) (show 0<r.ev by omega);have h2:=Int.lt_tmod_of_pos (12*yd+md-12*yf-mf) (show 0<r.ev by omega);exact cG UI UI
  generalize hx:12*yd+md-12*yf-mf=x at *;have HP:Hid (rH r.pc=⟨#[109,111,110,116,104,108,121]⟩):=by rw[Hid,f];rfl
  clear f;simp only[mL,pV]
  cases hd:df==dd
  all_goals
   simp only[Z6,YH]
   go_in
   go_upto_region 1 with fail
   change YS _ _ _ _ (w.alloc (gW r));obtain⟨⟨A,T,S,_⟩,_⟩:=nm y.y.2;rw[HP.y] at A;generalize w.alloc (gW r)=W at *
   go_upto_region 7 with (first|(go_at_call 73;refine (D1.y _).mono ?_;rintro e C ⟨rfl,rfl⟩))
   go_upto_region 8 with (first|(go_at_call 73;refine (D2.y _).mono ?_;rintro e C ⟨rfl,rfl⟩))
   go_wp2
   go_ret;exact⟨rfl,y.y.1⟩
def jX(ws:UY->UU)(i k:UY)(pc:UZ)(acc:UV UZ)(tm:Bool):Rd.bL:=⟨pc,bF (ws (i+1)) 1 7,acc,eV (ws (k+1)),gT (ws (k+3)),bF (ws (k+5)) 1 7,if tm then bF (ws (k+7)) 1 7 else 0,if tm then 0 else eV (ws (k+7))⟩
structure rE(ws:UY->UU)(i k:UY)(pc:UZ)(acc:UV UZ)(tm:Bool):Prop where
 hp:ws i=rH pc
 h3:pc=1\/pc=2\/pc=3
 hk:(pc=2/\k=i+2+1/\aB.dU (ws (i+2))=U6/\aB.iq (ws (i+2))=U4 acc)\/(pc≠2/\k=i+2/\acc=[])
 ht:((ws (k+6)).toList==[116,105,109,101,115])=tm
inductive iD (ws:UV UU):UV UU->aA.fJ->Prop where
 |aT:iD ws [kv,cD,eO] (.aT (ws.getD 1 Yy) (bF (ws.getD 2 Yy) 1 7))
 |book:iD ws [kn,cD,eO,bG,bG] (.enter 1 (ws.getD 1 Yy) (bF (ws.getD 2 Yy) 1 7) (cZ (ws.getD 3 Yy)) (cZ (ws.getD 4 Yy)) 0)
 |hold:iD ws [qA,cD,eO,bG,bG,gj] (.enter 2 (ws.getD 1 Yy) (bF (ws.getD 2 Yy) 1 7) (cZ (ws.getD 3 Yy)) (cZ (ws.getD 4 Yy)) (bF (ws.getD 5 Yy) 1 7))
 |wait:iD ws [qD,cD,eO,bG,bG,gj] (.enter 3 (ws.getD 1 Yy) (bF (ws.getD 2 Yy) 1 7) (cZ (ws.getD 3 Yy)) (cZ (ws.getD 4 Yy)) (bF (ws.getD 5 Yy) 1 7))
 |confirm:iD ws [qR,mj] (.confirm (bF (ws.getD 1 Yy) 1 7))
 |cancel:iD ws [kr,mj] (.cancel (bF (ws.getD 1 Yy) 1 7))
 |list0:iD ws [dY,cD] (.list (ws.getD 1 Yy) 0 1048320)
 |list1:iD ws [dY,cD,bG,bG] (.list (ws.getD 1 Yy) (cZ (ws.getD 2 Yy)) (cZ (ws.getD 3 Yy)))
 |cY:iD ws [km,cD,bG,bG] (.cY (ws.getD 1 Yy) (cZ (ws.getD 2 Yy)) (cZ (ws.getD 3 Yy)))
 |find:iD ws [ki,cD,eO,gj,bG,bG] (.find (ws.getD 1 Yy) (bF (ws.getD 2 Yy) 1 7) (bF (ws.getD 3 Yy) 1 7) (cZ (ws.getD 4 Yy)) (cZ (ws.getD 5 Yy)))
 |tick:iD ws [qC,gj] (.tick (bF (ws.getD 1 Yy) 1 7))
 |waiting:iD ws [qM] .waiting
 |clock:iD ws [kL] .clock
 |series {K E:UV UU}{k:UY}{pc:UZ}{acc:UV UZ}{tm:Bool}(hr:rE (ws.getD · Yy) 3 k pc acc tm) (hn:k+7<(mu++K++bU++E).length):iD ws (mu++K++bU++E) (.series (ws.getD 1 Yy) (bF (ws.getD 2 Yy) 1 7) (jX (ws.getD · Yy) 3 k pc acc tm))
 |expand {K E:UV UU}{k:UY}{pc:UZ}{acc:UV UZ}{tm:Bool}(hr:rE (ws.getD · Yy) 1 k pc acc tm) (hn:k+7<(nw++K++bU++E).length):iD ws (nw++K++bU++E) (.expand (jX (ws.getD · Yy) 1 k pc acc tm))
def nA(s:UU)(v:U8)(st:UY × Bool):Prop:=qi s st/\(st.2=U5->cB (aB.aP s).length st.1 st.2=U5->∃ q l,Full s q/\iD (aB.aP s) q l/\LV v l/\aA.jA l)
theorem qn(h:bA x=U6):cZ x=dL x:=by unfold cZ dL;rw[U1 h,U1 h]
theorem wq(h:dE x=U6):bF x 1 7=cL x:=wE (Ah h).1
theorem Da(h:eK x=U6):bF x 1 7=cL x:=wE (Ah h).1
theorem ta{k:UU}{q:UV UU}(h:bD (aB.aP s) 0 U5 k=U6)(p:mw.filter (nE k)=[q])(f:aQ (aB.aP s) (q.map aV) (0,U5)=st):qi s st/\(st.2=U5->cB (aB.aP s).length st.1 st.2=U5->Full s q) :=
 ⟨uI h p (Dw f),uH h p (Dw f) f⟩
theorem rJ{f:UU}{R:UV UU}(p:Full s (f :: cD :: R)):((aB.aP s).getD 1 Yy).size<=1000:=by
 have h:=lj [] p.all;rw[gS] at h;exact UB h
theorem Mn(h:bD (aB.aP s) 0 U5 kv=U6):nA s (.iface 149 (.agg #[.string (gV (aB.aP s) (1,U5)),.int .i64 (bT (aB.aP s) (aQ (aB.aP s) [bI] (1,U5)) dE cL)])) (aQ (aB.aP s) [bI,dE] (1,U5)):=by
 have A:jD kv=U6:=UM
 have K:=ta (q:=[kv,cD,eO]) h UM (by rw[<- kB h A]);simp only[Zx,gS,lK] at K;refine⟨K.1,fun C y=>⟨_,_,K.2 C y,.aT,?_⟩⟩;have f:=K.2 C y;have v1:=lL (Q:=[cD]) (s:=eO) (R:=[]) h A f.all cL;have p:=lj [cD] (s:=eO) (R:=[]) f.all;simp only[Zx,VW,gS,lK] at v1 p;rw[rI f.all,v1,wq p];exact⟨.aT _ (rJ f) _,sg p⟩
theorem Lr(h:bD (aB.aP s) 0 U5 kn=U6):nA s (.iface 154 (.agg #[.string (gV (aB.aP s) (1,U5)),.int .i64 (bT (aB.aP s) (aQ (aB.aP s) [bI] (1,U5)) dE cL),.int .i64 (bT (aB.aP s) (aQ (aB.aP s) [bI,dE] (1,U5)) bA dL),.int .i64 (bT (aB.aP s) (aQ (aB.aP s) [bI,dE,bA] (1,U5)) bA dL)])) (aQ (aB.aP s) [bI,dE,bA,bA] (1,U5)):=by
 have p:jD kn=U6:=UM
 have K:=ta (q:=[kn,cD,eO,bG,bG]) h UM (by rw[<- kB h p]);simp only[Zx,gS,lK,mP] at K;refine⟨K.1,fun I H=>⟨_,_,K.2 I H,.book,?_⟩⟩;have f:=K.2 I H;have v1:=lL (Q:=[cD]) (s:=eO) (R:=[bG,bG]) h p f.all cL;have C:=lj [cD] (s:=eO) (R:=[bG,bG]) f.all;simp only[Zx,VW,gS,lK] at v1 C;have v2:=lL (Q:=[cD,eO]) (s:=bG) (R:=[bG]) h p f.all dL;have A:=lj [cD,eO] (s:=bG) (R:=[bG]) f.all;simp only[Zx,VW,gS,lK,mP] at v2 A;have D:=lL (Q:=[cD,eO,bG]) (s:=bG) (R:=[]) h p f.all dL;have y:=lj [cD,eO,bG] (s:=bG) (R:=[]) f.all;simp only[Zx,VW,gS,lK,mP] at D y;rw[rI f.all,v1,v2,D,wq C,qn A,qn y];exact⟨.book _ (rJ f) _ _ _,⟨.inl ⟨rfl,rfl⟩,(sg C).1,(sg C).2,(kU A).1,(kU A).2,(kU y).1,(kU y).2⟩⟩
theorem Mu(h:bD (aB.aP s) 0 U5 kr=U6):nA s (.iface 168 (.agg #[.int .i64 (bT (aB.aP s) (1,U5) oe cL)])) (aQ (aB.aP s) [oe] (1,U5)):=by
 have p:jD kr=U6:=UM
 have K:=ta (q:=[kr,mj]) h UM (by rw[<- kB h p]);simp only[Zx,Dc] at K;refine⟨K.1,fun A f=>⟨_,_,K.2 A f,.cancel,?_⟩⟩;have y:=K.2 A f;have v0:=lL (Q:=[]) (s:=mj) (R:=[]) h p y.all cL;have C:=lj [] (s:=mj) (R:=[]) y.all;simp only[Zx,VW,Uw,Dc] at v0 C;rw[v0,wE C];exact⟨.cancel _,NS _⟩
theorem Lt(h:bD (aB.aP s) 0 U5 km=U6):nA s (.iface 176 (.agg #[.string (gV (aB.aP s) (1,U5)),.int .i64 (bT (aB.aP s) (aQ (aB.aP s) [bI] (1,U5)) bA dL),.int .i64 (bT (aB.aP s) (aQ (aB.aP s) [bI,bA] (1,U5)) bA dL)])) (aQ (aB.aP s) [bI,bA,bA] (1,U5)):=by
 have A:jD km=U6:=UM
 have K:=ta (q:=[km,cD,bG,bG]) h UM (by rw[<- kB h A]);simp only[Zx,gS,mP] at K;refine⟨K.1,fun D C=>⟨_,_,K.2 D C,.cY,?_⟩⟩;have f:=K.2 D C;have v1:=lL (Q:=[cD]) (s:=bG) (R:=[bG]) h A f.all dL;have y:=lj [cD] (s:=bG) (R:=[bG]) f.all;simp only[Zx,VW,gS,mP] at v1 y;have v2:=lL (Q:=[cD,bG]) (s:=bG) (R:=[]) h A f.all dL;have p:=lj [cD,bG] (s:=bG) (R:=[]) f.all;simp only[Zx,VW,gS,mP] at v2 p;rw[rI f.all,v1,v2,qn y,qn p];exact⟨.cY _ (rJ f) _ _,⟨(kU y).1,(kU y).2,(kU p).1,(kU p).2⟩⟩
theorem Lk(h:bD (aB.aP s) 0 U5 ki=U6):nA s (.iface 178 (.agg #[.string (gV (aB.aP s) (1,U5)),.int .i64 (bT (aB.aP s) (aQ (aB.aP s) [bI] (1,U5)) dE cL),.int .i64 (bT (aB.aP s) (aQ (aB.aP s) [bI,dE] (1,U5)) eK cL),.int .i64 (bT (aB.aP s) (aQ (aB.aP s) [bI,dE,eK] (1,U5)) bA dL),.int .i64 (bT (aB.aP s) (aQ (aB.aP s) [bI,dE,eK,bA] (1,U5)) bA dL)])) (aQ (aB.aP s) [bI,dE,eK,bA,bA] (1,U5)):=by
 have p:jD ki=U6:=UM
 have K:=ta (q:=[ki,cD,eO,gj,bG,bG]) h UM (by rw[<- kB h p]);simp only[Zx,gS,lK,s7,mP] at K;refine⟨K.1,fun M J=>⟨_,_,K.2 M J,.find,?_⟩⟩;have f:=K.2 M J;have v1:=lL (Q:=[cD]) (s:=eO) (R:=[gj,bG,bG]) h p f.all cL;have D:=lj [cD] (s:=eO) (R:=[gj,bG,bG]) f.all;simp only[Zx,VW,gS,lK] at v1 D;have v2:=lL (Q:=[cD,eO]) (s:=gj) (R:=[bG,bG]) h p f.all cL;have C:=lj [cD,eO] (s:=gj) (R:=[bG,bG]) f.all;simp only[Zx,VW,gS,lK,s7] at v2 C;have I:=lL (Q:=[cD,eO,gj]) (s:=bG) (R:=[bG]) h p f.all dL;have A:=lj [cD,eO,gj] (s:=bG) (R:=[bG]) f.all;simp only[Zx,VW,gS,lK,s7,mP] at I A;have H:=lL (Q:=[cD,eO,gj,bG]) (s:=bG) (R:=[]) h p f.all dL;have y:=lj [cD,eO,gj,bG] (s:=bG) (R:=[]) f.all;simp only[Zx,VW,gS,lK,s7,mP] at H y;rw[rI f.all,v1,v2,I,H,wq D,Da C,qn A,qn y];exact⟨.find _ (rJ f) _ _ _ _,⟨(sg D).1,(sg D).2,(AW C).1,(AW C).2,(kU A).1,(kU A).2,(kU y).1,(kU y).2⟩⟩
theorem LN(h:bD (aB.aP s) 0 U5 kL=U6):nA s (.iface 183 (.agg #[])) (1,U5):=by
 have p:jD kL=U6:=UM
 have K:=ta (q:=[kL]) h UM (by rw[<- kB h p]);refine⟨K.1,fun y f=>⟨_,_,K.2 y f,.clock,?_⟩⟩;exact⟨.clock,trivial⟩
theorem LU(h:bD (aB.aP s) 0 U5 dY=U6)(H:cB (aB.aP s).length (aQ (aB.aP s) [bI] (1,U5)).1 (aQ (aB.aP s) [bI] (1,U5)).2=U5):nA s (.iface 170 (.agg #[.string (gV (aB.aP s) (1,U5)),.bool U5,.int .i64 0,.int .i64 0])) (aQ (aB.aP s) [bI] (1,U5)):=by
 have I:jD dY=U6:=UM
 have q:mw.filter (nE dY)=[[dY,cD],[dY,cD,bG,bG]]:=UM
 have f:aQ (aB.aP s) ([dY,cD].map aV) (0,U5)=aQ (aB.aP s) [bI] (1,U5):=by rw[<- kB h I];simp only[Zx,gS]
 have y:=Ml f H;have D:=f;have K:qi s _/\(_->_->Full s _):=⟨uI h q y,uH h q y D⟩;refine⟨K.1,fun C p=>⟨_,_,K.2 C p,.list0,?_⟩⟩;have A:=K.2 C p;rw[rI A.all];exact⟨.list _ (rJ A) U5 0 0 0 1048320 rfl rfl,⟨by omega,by omega,by omega,by omega⟩⟩
theorem LY(h:bD (aB.aP s) 0 U5 dY=U6)(M:cB (aB.aP s).length (aQ (aB.aP s) [bI] (1,U5)).1 (aQ (aB.aP s) [bI] (1,U5)).2=U6):nA s (.iface 170 (.agg #[.string (gV (aB.aP s) (1,U5)),.bool U6,.int .i64 (bT (aB.aP s) (aQ (aB.aP s) [bI] (1,U5)) bA dL),.int .i64 (bT (aB.aP s) (aQ (aB.aP s) [bI,bA] (1,U5)) bA dL)])) (aQ (aB.aP s) [bI,bA,bA] (1,U5)):=by
 have p:jD dY=U6:=UM
 have H:mw.filter (nE dY)=[[dY,cD],[dY,cD,bG,bG]]:=UM
 have A:aQ (aB.aP s) ([dY,cD].map aV) (0,U5)=aQ (aB.aP s) [bI] (1,U5):=by rw[<- kB h p];simp only[Zx,gS]
 have C:aQ (aB.aP s) ([dY,cD,bG,bG].map aV) (0,U5)=aQ (aB.aP s) [bI,bA,bA] (1,U5):=by rw[<- kB h p];simp only[Zx,gS,mP]
 have I:=Mm A M C;have K:qi s _/\(_->_->Full s _):=⟨uI h H I,uH h H I C⟩;refine⟨K.1,fun J D=>⟨_,_,K.2 J D,.list1,?_⟩⟩;have f:=K.2 J D;have v1:=lL (Q:=[cD]) (s:=bG) (R:=[bG]) h p f.all dL;have y:=lj [cD] (s:=bG) (R:=[bG]) f.all;simp only[Zx,VW,gS,mP] at v1 y;have v2:=lL (Q:=[cD,bG]) (s:=bG) (R:=[]) h p f.all dL;have q:=lj [cD,bG] (s:=bG) (R:=[]) f.all;simp only[Zx,VW,gS,mP] at v2 q;rw[rI f.all,v1,v2,qn y,qn q];exact⟨.list _ (rJ f) U6 _ _ _ _ rfl rfl,⟨(kU y).1,(kU y).2,(kU q).1,(kU q).2⟩⟩
theorem oU(h:eu x=U6):bF x 1 7=cL x:=wE (Ah h).1
theorem wh(h:aB.cM x=U6):eV x=fT x:=by
 unfold fT eV;rw[U1 h];simp only[aB.cM,decide_eq_true_eq] at h;rw[U1 ⟨h.1,h.2.1,by omega⟩]
theorem CQ{H ws K E:UV UU}{ev:UZ}(h:CY H ws pc ev acc fr mn mi ti un K E):∃ k tm,rE (ws.getD · Yy) H.length k pc acc tm/\jX (ws.getD · Yy) H.length k pc acc tm=⟨pc,ev,acc,fr,mn,mi,ti,un⟩/\k+7<(H++K++bU++E).length:=by
 obtain⟨D,⟨X,C,V,A,U,y,rfl,rfl,rfl⟩,p⟩:=h
 have f:∀ {k:UY}{tm:Bool},k=H.length+K.length->pc=1\/pc=2\/pc=3->ws.getD H.length Yy=rH pc->bF (ws.getD (H.length+1) Yy) 1 7=ev->((pc=2/\k=H.length+2+1/\aB.dU (ws.getD (H.length+2) Yy)=U6/\aB.iq (ws.getD (H.length+2) Yy)=U4 acc)\/(pc≠2/\k=H.length+2/\acc=[]))->E.length=2->((ws.getD (k+6) Yy).toList==[116,105,109,101,115])=tm->(if tm then bF (ws.getD (k+7) Yy) 1 7 else 0)=ti->(if tm then 0 else eV (ws.getD (k+7) Yy))=un->_:=fun {k tm} q O T S R N M J I=>(⟨k,tm,⟨T,O,R,M⟩,by
  subst q J I S
  simp only[jX,wh C,Da y,gT,A,if_true],by subst q;simp[bU,N];omega⟩:∃ k tm,rE (ws.getD · Yy) H.length k pc acc tm/\jX (ws.getD · Yy) H.length k pc acc tm=⟨pc,ev,acc,fT (ws.getD (H.length+K.length+1) Yy),aB.fo (ws.getD (H.length+K.length+3) Yy),cL (ws.getD (H.length+K.length+5) Yy),ti,un⟩/\k+7<(H++K++bU++E).length)
 cases D with
 |daily p0 p1=>cases p with
  |times q0 q1=>exact f (tm:=U6) rfl UI (p0.trans UM) (oU p1) (.inr ⟨by omega,rfl,rfl⟩) rfl (by rw[q0];decide +kernel) (oU q1) rfl
  |til q0 q1=>exact f (tm:=U5) rfl UI (p0.trans UM) (oU p1) (.inr ⟨by omega,rfl,rfl⟩) rfl (by rw[q0];decide +kernel) rfl (wh q1)
 |weekly acc p0 p1 p2=>cases p with
  |times q0 q1=>exact f (tm:=U6) rfl UI (p0.trans UM) (oU p1) (.inl ⟨rfl,rfl,by rw[aB.dU,p2];rfl,p2⟩) rfl (by rw[q0];decide +kernel) (oU q1) rfl
  |til q0 q1=>exact f (tm:=U5) rfl UI (p0.trans UM) (oU p1) (.inl ⟨rfl,rfl,by rw[aB.dU,p2];rfl,p2⟩) rfl (by rw[q0];decide +kernel) rfl (wh q1)
 |monthly p0 p1=>cases p with
  |times q0 q1=>exact f (tm:=U6) rfl UI (p0.trans UM) (oU p1) (.inr ⟨by omega,rfl,rfl⟩) rfl (by rw[q0];decide +kernel) (oU q1) rfl
  |til q0 q1=>exact f (tm:=U5) rfl UI (p0.trans UM) (oU p1) (.inr ⟨by omega,rfl,rfl⟩) rfl (by rw[q0];decide +kernel) rfl (wh q1)
theorem Kr(h:bD (aB.aP s) 0 U5 ic=U6){ev:UZ}(p:kl (aB.aP s) (aQ (aB.aP s) [bI,dE] (1,U5)) pc ev acc fr mn mi ti un st):nA s (.iface 165 (.agg #[.string (gV (aB.aP s) (1,U5)),.int .i64 (bT (aB.aP s) (aQ (aB.aP s) [bI] (1,U5)) dE cL),.int .i64 pc,.int .i64 ev,.bool (aI acc 0),.bool (aI acc 1),.bool (aI acc 2),.bool (aI acc 3),.bool (aI acc 4),.bool (aI acc 5),.bool (aI acc 6),.int .i64 fr,.int .i64 mn,.int .i64 mi,.int .i64 ti,.int .i64 un])) st:=by
 refine⟨Ln h p,fun D M=>?_⟩;have H:jD ic=U6:=UM
 have O:mw.filter (nE ic)=jj mu:=UM
 have C:aQ (aB.aP s) (mu.map aV) (0,U5)=(aQ (aB.aP s) [bI,dE] (1,U5)):=by
  unfold mu;rw[<- kB h H];simp only[Zx,gS,lK]
 have V:=(Ia p D).2;rw[<- C] at p;obtain⟨q,S,N⟩:=wI p;obtain⟨K,E,rfl,J,T⟩:=N D;have I:=uH h O S J D M;have U:mu++K++bU++E=ic :: ([cD]++eO :: (K++bU++E)):=by simp[mu]
 have f:=I;rw[U] at f;have v1:=lL (Q:=[cD]) (s:=eO) (R:=K++bU++E) h H f.all cL;have y:=lj (ws:=aB.aP s) [cD] (k:=ic) (s:=eO) (R:=K++bU++E) f.all;simp only[Zx,VW,gS,lK] at v1 y;obtain⟨k,tm,r1,r2,r3⟩:=CQ T;refine⟨_,_,I,.series r1 r3,?_⟩;rw[rI (R:=eO :: (K++bU++E)) f.all,v1,wq y];have A:jX (fun j=>(aB.aP s).getD j Yy) 3 k pc acc tm=_:=r2;rw[A];exact⟨.series _ (rJ f) _ ⟨pc,ev,acc,fr,mn,mi,ti,un⟩,(sg y).1,(sg y).2,V⟩
theorem Kq(h:bD (aB.aP s) 0 U5 iZ=U6){ev:UZ}(f:kl (aB.aP s) (1,U5) pc ev acc fr mn mi ti un st):nA s (.iface 180 (.agg #[.int .i64 pc,.int .i64 ev,.bool (aI acc 0),.bool (aI acc 1),.bool (aI acc 2),.bool (aI acc 3),.bool (aI acc 4),.bool (aI acc 5),.bool (aI acc 6),.int .i64 fr,.int .i64 mn,.int .i64 mi,.int .i64 ti,.int .i64 un])) st:=by
 refine⟨Lf h f,fun A D=>?_⟩;have H:jD iZ=U6:=UM
 have J:mw.filter (nE iZ)=jj nw:=UM
 have y:aQ (aB.aP s) (nw.map aV) (0,U5)=(1,U5):=by
  unfold nw;rw[<- kB h H];rfl
 have R:=(Ia f A).2;rw[<- y] at f;obtain⟨q,M,I⟩:=wI f;obtain⟨K,E,rfl,C,N⟩:=I A;have O:=uH h J M C A D;obtain⟨k,tm,r1,r2,r3⟩:=CQ N;refine⟨_,_,O,.expand r1 r3,?_⟩;have p:jX (fun j=>(aB.aP s).getD j Yy) 1 k pc acc tm=_:=r2;rw[p];exact⟨.expand ⟨pc,ev,acc,fr,mn,mi,ti,un⟩,R⟩
theorem Di(ws:UV UU)(st:UY × Bool):∃ pc ev acc fr mn mi ti un s,kl ws st pc ev acc fr mn mi ti un s:=by
 have q:∃ pc ev acc s,nS ws st pc ev acc s:=by
  cases f:bD ws st.1 st.2 iW
  ·cases p:bD ws st.1 st.2 ix
   ·cases C:bD ws st.1 st.2 jI
    ·exact⟨_,_,_,_,.none f p C⟩
    ·exact⟨_,_,_,_,.monthly f p C⟩
   ·refine⟨_,_,(aB.iq (ws.getD (aQ ws [eu] (dV st)).1 Yy)).getD [],_,.weekly f p _ fun h=>?_⟩;have A:=(mz h).2.2;rw[aB.dU,Option.isSome_iff_exists] at A;obtain⟨a,D⟩:=A;rw[D];rfl
  ·exact⟨_,_,_,_,.daily f⟩
 obtain⟨pc,ev,acc,s,q⟩:=q
 have y:∃ ti un s',nL ws (mA ws s) ti un s':=by
  cases f:bD ws (mA ws s).1 (mA ws s).2 iT
  ·cases p:bD ws (mA ws s).1 (mA ws s).2 js
   ·exact⟨_,_,_,.none f p⟩
   ·exact⟨_,_,_,.til f p⟩
  ·exact⟨_,_,_,.times f⟩
 obtain⟨ti,un,s',y⟩:=y;exact⟨_,_,_,_,_,_,_,_,_,.mk pc ev acc s ti un s' q y⟩
theorem KN{f:Array Oper}{rest:UV Oper}{o:Oper}{a:Act}{Q:Exit->Act->U7->Prop}(H:o.guard=U3)(x y:Operand)(O:o.op=.call { callee:=.builtin .append,args:=#[x,y],argTypes:=#[34,34] }){l:UV (aM × UY × UY)}(p:W.ownsRow B 58 6 v l.length (l.flatMap dN))(z:aM × UY × UY){I:Vc}{mk:UY × UY}(N:a.eval x=v)(M:a.eval y=.slice (U4 ⟨W.heap.size,0,U3⟩) 1 1)(X:l.length<=1000000)(Y:B<=W.heap.size)
  (h:∀ g cap w',w'.ownsRow B 58 6 (.slice (U4 ⟨g,0,U3⟩) (l.length+1) cap) (l.length+1) ((l++[z]).flatMap dN)->aF v.ownBlock.toList W w'->(v.ownBlock=U4 g\/W.heap.size<=g)->wpList prog f Q rest (a.put o.dst (.slice (U4 ⟨g,0,U3⟩) (l.length+1) cap)) w'):
  wpList prog f Q (o :: rest) a (W.alloc (.cells #[.int .i64 z.1.id,.int .i64 z.1.kind,.string z.1.aT,.int .i64 z.1.aH,.slice (U4 ⟨z.2.1,0,U3⟩) z.1.aL.length z.2.2,.int .i64 z.1.bY] I mk)):=by
 obtain⟨J,D,C,A,q⟩:=info_parts wJ;refine wpList_append_lies _ H x y 34 O B 58 J _ 6 72 underlying34 D C A q rfl UK v l.length (l.flatMap dN) N (p.alloc _) ⟨W.heap.size,0,U3⟩ 1 1 (dN z) M rfl (Wv (cs:=(dN z).toArray) (cC W _)) (by simp[dN,WD]) UI UR UI UQ (W.heap.size+1) UJ ?_;intro g cap w' U T S _;have V:(l++[z]).flatMap dN=l.flatMap dN++dN z:=UJ
 have:=h g cap w';rw[V] at this;exact this U (((aF.refl _ W).alloc _).grown T (fun k R=>.inl (by simp[R]))) (S.imp id (fun e=>by omega))
theorem nG.snoc{X:U7}{y:aM × UY × UY}(h:nG w X v ys)(J:fY X y.2.1 y.1.aL/\w.heap.size<=y.2.1/\y.2.1<X.heap.size/\v.ownBlock≠U4 y.2.1)(M:w'.ownsRow w.heap.size 58 6 (.slice (U4 ⟨g,0,U3⟩) (ys.length+1) cap) (ys.length+1) ((ys++[y]).flatMap dN))(k:aF v.ownBlock.toList X w')(q:v.ownBlock=U4 g\/X.heap.size<=g):nG w w' (.slice (U4 ⟨g,0,U3⟩) (ys.length+1) cap) (ys++[y]):=by
 refine⟨by rw[VU];exact M,fun z f=>?_,⟨k.os.trans h.bw.os,k.tape.trans h.bw.tape,k.output.trans h.bw.output,Vg h.bw.size k.size,fun b C=>(k.block b (zL C h.bw.size) (fun e=>?_)).trans (h.bw.block b C)⟩⟩
 ·have p:fY X z.2.1 z.1.aL/\w.heap.size<=z.2.1/\z.2.1<X.heap.size/\v.ownBlock≠U4 z.2.1:=by
   rcases Vr.1 f with f|f
   ·exact h.sl z f
   ·have:z=y:=by simpa using f
    subst this;exact J
  obtain⟨I,H,D,A⟩:=p;refine⟨I.off k (by simpa using fun e=>A e),H,WE D k.size,?_⟩;simp only[Wr,ne_eq,ZR];rintro rfl;rcases q with e|e
  ·exact A e
  ·omega
 ·have:=jE h.own (k:=b) (by simpa using e);omega
def pg(w:U7)(v:U8)(es:UV aM)(w':U7):Prop :=
 ∃ (l:UV (aM × U8)) (G:UV UY),l.map (·.1)=es/\(∀ f,(∀ b∈G,f.heap[b]?=w'.heap[b]?)->EV f v l)/\(∀ b∈G,w.heap.size<=b/\b<w'.heap.size)/\U9 w.heap.size w w'
def zj(y:aM × UY × UY):aM × U8:=(y.1,.slice (U4 ⟨y.2.1,0,U3⟩) y.1.aL.length y.2.2)
theorem fY.sv(h:fY w B L):SV w (.slice (U4 ⟨B,0,U3⟩) L.length cap) L:=⟨⟨_,_,rfl⟩,fun k f=>⟨B,cap,rfl,h k f⟩⟩
theorem Ld{a:UW Addr}{zs:UV (aM × UY × UY)}(U:zs≠[]->a=U4 ⟨g,0,U3⟩)(I:∀ (i:UY)(H:i<zs.length),RE w' g i zs[i].1 zs[i].2.1 zs[i].2.2)(S:zs≠[]->w.heap.size<=g/\g<w'.heap.size)(T:∀ z∈zs,w.heap.size<=z.2.1/\z.2.1<w'.heap.size)(k:U9 w.heap.size w w'):pg w (.slice a zs.length cap) (zs.map (·.1)) w':=by
 refine⟨zs.map zj,(if zs=[] then [] else [g])++zs.map (·.2.1),by simp[zj,Function.comp_def],fun M V=>?_,fun b A=>?_,k⟩
 ·have y:∀ b o u,b∈(if zs=[] then [] else [g])++zs.map (·.2.1)->w'.cell? ⟨b,o,U3⟩=U4 u->M.cell? ⟨b,o,U3⟩=U4 u:=fun b o u A N=>(zo (V b A)).trans N
  refine⟨⟨a,cap,by simp⟩,fun i H=>?_,fun p O=>?_⟩
  ·have D:i<zs.length:=by simpa using H
   have C:zs≠[]:=by rintro rfl;simp at D
   have q:=I i D
   have f:g∈(if zs=[] then [] else [g])++zs.map (·.2.1):=by simp[C]
   refine⟨g,cap,by rw[U C];simp,?_⟩;simp only[ZW,zj];exact⟨y _ _ _ f q.c0,y _ _ _ f q.c1,y _ _ _ f q.c2,y _ _ _ f q.c3,y _ _ _ f q.c4,y _ _ _ f q.c5⟩
  ·obtain⟨z,h,rfl⟩:=V9.1 O;obtain⟨i,H,rfl⟩:=XN h;refine fY.sv (fun j R=>?_);have q:=(I i H).sl j R;have J:zs[i].2.1∈(if zs=[] then [] else [g])++zs.map (·.2.1):=Yn _ (V9.2 ⟨_,h,rfl⟩);exact⟨y _ _ _ J q.1,y _ _ _ J q.2⟩
 ·rcases Vr.1 A with e|e
  ·by_cases h:zs=[]
   ·simp[h] at e
   ·simp[h] at e;subst e;exact S h
  ·obtain⟨z,h,rfl⟩:=V9.1 e;exact T z h
theorem dK.up{X:U7}{q:St × bO}{e:Ending}(h:dK X d F ys q e Z)(kX:U9 w.heap.size w X)(hQ:w.heap.size<=Q)(S:Q<X.heap.size)(hF:∀ k∈F,k<w.heap.size)(hY:∀ y∈ys,y.2.1<w.heap.size)(h7:Q7 X Q):
  ∃ (a1 a2 a3 a4:UW Addr) (n1 n2 n3 n4 N M J I:UY),e=.returned (bC q.2.err 0 q.2.n (.slice a1 n1 N) (.slice a2 n2 M) (.slice a3 n3 J) (.slice a4 n4 I))/\Q7 Z Q/\dK w d F ys q e (cK Z Q (.int .i64 q.2.err) (.int .i64 0) (.int .i64 q.2.n) (.slice a1 n1 N) (.slice a2 n2 M) (.slice a3 n3 J) (.slice a4 n4 I)):=by
 obtain⟨v1,v2,v3,v4,xs,F',G,he,hT,h3,hD,D,hO,U,Y,hS⟩:=h;have T:=hT Z (fun _ _=>rfl);obtain⟨l,hl,_⟩:=T.en;obtain⟨a1,N,e1⟩:=hl.form;obtain⟨a2,M,H⟩:=T.da.form;obtain⟨a3,J,e3⟩:=gB h3;obtain⟨a4,I,e4⟩:=T.ed.form;subst e1 H e3 e4;have C:Q ∉ F:=fun e=>by have:=hF Q e;omega
 have R:=kX.size;refine⟨a1,a2,a3,a4,_,_,_,_,N,M,J,I,he,h7.later (hO.block Q S C),?_⟩;have A:=lC Z Q (.int .i64 q.2.err) (.int .i64 0) (.int .i64 q.2.n) (.slice a1 l.length N) (.slice a2 q.2.days.length M) (.slice a3 q.2.granted.length J) (.slice a4 q.2.ended.length I);have O:∀ x,X.heap.size<=x->x ∉ [Q]:=fun x O e=>by simp at e;omega
 have V:∀ x∈F',x ∉ [Q]:=fun x f=>by
  rcases D x f with e|e
  ·intro H;simp at H;exact C (H ▸ e)
  ·exact O x e
 have hd:=hD.rd;refine⟨_,_,_,_,xs,F',G,he,fun w2 h2=>hT w2 (fun b p=>(h2 b p).trans (A.block b (U b p).2.1 (O b (U b p).1))),uQ (dO h3 A (fun b p=>O b (jE h3 p))) R,hD.off A V (fun x f e=>?_),fun k hk=>(D k hk).imp id (fun e=>by omega),((aF.aD kX).trans hO).trans' A (fun x f=>.inr (by simp at f;omega)),fun b p=>?_,Y,fun x f=>(hS x f).imp id (fun e=>by omega)⟩
 ·have H:x.2.1=Q:=by simpa using e
  rcases hS x f with ⟨y,hy,e3⟩|e3
  ·have:=hY y hy;omega
  ·omega
 ·obtain⟨g1,g2,g3,g4⟩:=U b p;exact⟨by omega,WE g2 A.size,g3,g4⟩
def oh:UV (UU × UY):=[(⟨#[116,104,105,110,103]⟩,172),(⟨#[98,111,111,107]⟩,173),(⟨#[104,111,108,100]⟩,173),(⟨#[119,97,105,116]⟩,173),(⟨#[115,101,114,105,101,115]⟩,174),(⟨#[99,111,110,102,105,114,109]⟩,175),(⟨#[99,97,110,99,101,108]⟩,175),(⟨#[108,105,115,116]⟩,177),(⟨#[112,101,97,107]⟩,177),(⟨#[102,105,110,100]⟩,178)]
theorem qt{s:St}{xs:UV (aM × UY × UY)}(h:DD w d s xs F){f:UY}{kw:UU}{c:UY}{q:St × bO}(hn:0<n)(H:w.cell? ⟨g,0,U3⟩=U4 (.string kw))(D:(kw,f)∈oh)(C:∀ X,U9 w.heap.size w X->Va prog f #[.pointer (U4 ⟨d,0,U3⟩),.slice (U4 ⟨g,0,U3⟩) n c] X (dK X d F xs q)):
  Va prog 117 #[.pointer (U4 ⟨d,0,U3⟩),.slice (U4 ⟨g,0,U3⟩) n c] w (dK w d F xs q):=by
 have A:=aC ((KP.nil w).alloc aW);have I:=aC (zA h.lt (fun y Y=>(h.rd.sp y Y).2.2));have i0:(0:UZ)<(n:UZ):=UI
 have M:=aN A.y.bl H;have hQ:w.heap.size<(w.alloc aW).heap.size:=UJ
 have J:=aC (C _ A.y.bl);clear h C H;simp only[oh,Vq,Prod.mk.injEq,List.not_mem_nil,or_false] at D;rcases D with ⟨rfl,rfl⟩|⟨rfl,rfl⟩|⟨rfl,rfl⟩|⟨rfl,rfl⟩|⟨rfl,rfl⟩|⟨rfl,rfl⟩|⟨rfl,rfl⟩|⟨rfl,rfl⟩|⟨rfl,rfl⟩|⟨rfl,rfl⟩
 all_goals
  go_in
  go_upto_region 1 with fail
  change YS _ _ _ _ (w.alloc aW);generalize w.alloc aW=X at *
  go_wp2_with fail
  refine J.y.mono ?_;intro e w2 p;obtain⟨a1,a2,a3,a4,n1,n2,n3,n4,c1,c2,c3,c4,rfl,h7,p⟩:=p.up A.y.bl (zq _) hQ I.y.1 I.y.2 (Q7.of (A.y.kb (w.heap.size,aW) UJ));have HA:=aC p;obtain⟨V,U,T,S,R,O,N,fq⟩:=h7;clear p M J;simp only[bC]
  go_wp2_with fail
  exact cO results117 ⟨V,U,T,S,R,O,N,fq⟩ HA.y
theorem MZ{s:St}{xs:UV (aM × UY × UY)}(h:DD w d s xs F){c:UY}(T:0<n)(p:w.cell? ⟨g,0,U3⟩=U4 (.string ⟨#[99,108,111,99,107]⟩)):
  Va prog 117 #[.pointer (U4 ⟨d,0,U3⟩),.slice (U4 ⟨g,0,U3⟩) n c] w (dK w d F xs (aU s .clock)):=by
 have f:=aC ((KP.nil w).alloc aW);have H:=aC h;have S:(0:UZ)<(n:UZ):=UI
 have O:=aN f.y.bl p;have R:=(h.later f.y.bl).rd.c3;have N:Hid (dK w d F xs (aU s .clock) (.returned (bC 0 0 s.now aR aR aR aR)) (cK (w.alloc aW) w.heap.size (.int .i64 0) (.int .i64 0) (.int .i64 s.now) aR aR aR aR)):=h.said f.y.bl (zq _) 0 s.now _ _ _ _ _ _ _;clear h p
 go_in
 go_upto_region 1 with fail
 change YS _ _ _ _ (w.alloc aW);generalize w.alloc aW=X at *;obtain⟨J,I,D,C,A,y,q,M⟩:=Q7.of (f.y.kb (w.heap.size,aW) UJ)
 go_wp2_with fail
 exact cO results117 ⟨J,I,D,C,A,y,q,M⟩ N.y
open aA (aM St bO aU eA)
def oL(w:U7)(d:UY)(F:UV UY)(xs:UV (aM × UY × UY))(q:St × bO)(e:Ending)(w':U7):Prop :=
 ∃ (v1 v2 h f:U8) (xs':UV (aM × UY × UY)) (F':UV UY),e=.returned (bC q.2.err q.2.at_ q.2.n v1 v2 h f)/\pf w' v1 v2 f q.2/\NV w' h q.2.granted/\DD w' d q.1 xs' F'/\(∀ k∈F',k∈F\/w.heap.size<=k)/\aF F w w'/\∀ x∈xs',(∃ y∈xs,x.2.1=y.2.1)\/w.heap.size<=x.2.1
theorem NV.own{l:UV UZ}(h:w.ownsRow B 3 1 v n (l.map (VT .i64))):NV w v l:=by
 obtain⟨a,cap,g,rfl,rfl,q,p⟩:=wN h;exact⟨⟨_,_,rfl⟩,fun k f=>⟨g,cap,by rw[q (by intro e;simp[e] at f)],p k f⟩⟩
theorem pf.gr{v1 v2 f:U8}{p:bO}(h:pf w v1 v2 f p)(g:UV UZ):pf w v1 v2 f { p with granted:=g }:=⟨h.en,h.da,h.ed⟩
def fin(q:St × bO):St × bO:=if q.2.err≠0 then q else ({ q.1 with es:=(eA q.1.ts q.1.es).1 },{ q.2 with granted:=q.2.granted++(eA q.1.ts q.1.es).2 })
theorem Eu{s:St}{xs:UV (aM × UY × UY)}(h:DD w d s xs F)(t:UU){p at_:UZ}(I:p≠0)(J:∀ X,Va prog 78 #[.string t] X fun e w'=>e=.returned (.tuple #[.slice U3 0 0,.slice U3 0 0,.int .i64 p,.int .i64 at_])/\U9 X.heap.size X w'):
  Va prog 75 #[.pointer (U4 ⟨d,0,U3⟩),.string t] w (oL w d F xs (s,⟨p,at_,0,[],[],[],[]⟩)):=by
 have y:=aC ((KP.nil w).alloc aW);have H:=aC h;have RD:=aC J;have V:(p != 0)=U6:=by simpa using I
 clear h J I
 go_in
 go_upto_region 1 with fail
 change YS _ _ _ _ (w.alloc aW);generalize w.alloc aW=X at *
 go_wp2_with fail
 refine (RD.y _).mono ?_;rintro e C ⟨rfl,q⟩;replace y:=aC (y.y.later q)
 have HF:Hid (oL w d F xs (s,⟨p,at_,0,[],[],[],[]⟩) (.returned (bC p at_ 0 aR aR aR aR)) (cK C w.heap.size (.int .i64 p) (.int .i64 at_) (.int .i64 0) aR aR aR aR)):=by
  have D:=lC C w.heap.size (.int .i64 p) (.int .i64 at_) (.int .i64 0) aR aR aR aR;have A:∀ x,x<w.heap.size->x ∉ [w.heap.size]:=fun x A e=>by simp at e;omega
  exact⟨aR,aR,aR,aR,xs,F,rfl,pf.nil _,NV.nil _,(H.y.later y.y.bl).off D (fun x f=>A x (H.y.lt x f)) (fun x f=>A _ (H.y.rd.sp x f).2.2),fun _ f=>.inl f,(aF.aD y.y.bl).trans' D (fun x f=>.inr (by simp at f;omega)),fun x f=>.inl ⟨x,f,rfl⟩⟩
 obtain⟨U,T,S,R,O,N,M,Y⟩:=Q7.of (y.y.kb (w.heap.size,aW) UJ);clear q
 go_wp2_with fail
 exact cO results75 ⟨U,T,S,R,O,N,M,Y⟩ HF.y
theorem MJ{s:St}{xs:UV (aM × UY × UY)}(h:DD w d s xs F)(t:UU)(ht:t.size<=160){p:UV UU}(hp:jk t=(U4 p,0))(av:0<(aB.aP t).length){q:St × bO}(h0:q.2.at_=0)(hg:q.2.granted.length<=50000)
  (C:∀ X g c,U9 w.heap.size w X->(∀ (j:UY) (hj:j<(aB.aP t).length),X.cell? ⟨g,j,U3⟩=U4 (.string (aB.aP t)[j]))->Va prog 117 #[.pointer (U4 ⟨d,0,U3⟩),.slice (U4 ⟨g,0,U3⟩) (aB.aP t).length c] X (dK X d F xs q)):
  Va prog 75 #[.pointer (U4 ⟨d,0,U3⟩),.string t] w (oL w d F xs (fin q)):=by
 have P0:=aC ((KP.nil w).alloc aW);have H:=aC h;have HC:=aC C;have HP:=aC hp;clear h C hp
 go_in
 go_upto_region 1 with fail
 change YS _ _ _ _ (w.alloc aW);generalize w.alloc aW=X at *
 go_wp2_with fail
 refine (Ap t X ht).mono ?_;rintro e w1 ⟨hr,al⟩;rcases hr with ⟨p',a,b,c,d',g,h',af,rfl,ra,rb⟩|⟨m,af,rfl⟩
 case' inr=>rw[HP.y] at af;cases af
 obtain rfl:=ra.at_ av;replace P0:=aC (P0.y.later al);have DC:=aC (HC.y w1 g c P0.y.bl ra.cells);clear al ra rb af
 go_wp2_with fail
 refine DC.y.mono ?_;intro e w2 hA;have ay:w.heap.size<w1.heap.size:=P0.y.lt (q:=(w.heap.size,aW)) UJ;have h7:=Q7.of (P0.y.kb (w.heap.size,aW) UJ);obtain⟨v1,v2,v3,v4,xs',F',G,rfl,hT,h3,hD,D,hO,hG,M,hS⟩:=hA;have T:=hT w2 (fun _ _=>rfl);obtain⟨l,hl,_⟩:=T.en;obtain⟨a1,c1,rfl⟩:=hl.form;obtain⟨a2,c2,rfl⟩:=T.da.form;obtain⟨a3,c3,rfl⟩:=gB h3;obtain⟨a4,c4,rfl⟩:=T.ed.form;have ao:w.heap.size ∉ F:=fun e=>by have:=H.y.lt _ e;omega
 have a7:=hO.size;have ac:w.heap.size ∉ F':=fun e=>by rcases D _ e with e|e;exact ao e;omega
 have ad:=h7.later (hO.block _ ay ao)
 have N:∀ x∈xs',x.2.1≠w.heap.size/\x.2.1<w2.heap.size:=fun x f=>⟨fun e=>by
  rcases hS x f with ⟨y,hy,e2⟩|e2
  ·have:=(H.y.rd.sp y hy).2.2;omega
  ·omega,(hD.rd.sp x f).2.2⟩
 have O:∀ x∈xs',(∃ y∈xs,x.2.1=y.2.1)\/w.heap.size<=x.2.1:=fun x f=>(hS x f).imp id (fun e=>by omega)
 have V:aF F w w2:=(aF.aD P0.y.bl).trans hO;have KR:=(KP.nil w2).alloc (.cells #[.int .i64 q.2.err,.int .i64 0,.int .i64 q.2.n,.slice a1 l.length c1,.slice a2 q.2.days.length c2,.slice a3 q.2.granted.length c3,.slice a4 q.2.ended.length c4] 40);have ba:w2.heap.size<(w2.alloc (.cells #[.int .i64 q.2.err,.int .i64 0,.int .i64 q.2.n,.slice a1 l.length c1,.slice a2 q.2.days.length c2,.slice a3 q.2.granted.length c3,.slice a4 q.2.ended.length c4] 40)).heap.size:=UJ
 have A:=aC (zA hT (zA h3 (zA hD (zA D (zA hO (zA hG (zA M (zA N (zA O (zA V ad))))))))));clear T hl hT h3 hD D hO hG M hS N O V ad h7 DC HC;simp only[bC]
 go_upto_region 5 with fail
 have HK:=aC KR;have r0:=KR.hc 0 rfl;have r1:=KR.hc 1 rfl;have r2:=KR.hc 2 rfl;have r3:=KR.hc 3 rfl;have r4:=KR.hc 4 rfl;have r5:=KR.hc 5 rfl;have r6:=KR.hc 6 rfl;have rf:=KR.hf;clear KR;generalize w2.alloc _=Z at *;have U:=HK.y.bl;have Q2:=aC (A.y.2.2.2.2.2.2.2.2.2.2.later (U.block _ UI));have DZ:=aC (A.y.2.2.1.later U);have WZ:=aC (A.y.2.2.2.2.2.2.2.2.2.1.trans (aF.aD U))
 by_cases he:q.2.err=0
 ·have ax:(q.2.err != 0)=U5:=by simp[he]
  have GR:=aC (MA DZ.y);have E9:Hid (fin q=({ q.1 with es:=(eA q.1.ts q.1.es).1 },{ q.2 with granted:=q.2.granted++(eA q.1.ts q.1.es).2 })):=by show _=_;unfold fin;rw[U0 (by simp[he])]
  have aw:Hid ((eA q.1.ts q.1.es).2.length<=60):=by
   have:=(Cn q.1.ts q.1.es []).2;have:=DZ.y.el;show (aA.dQ _ _ _).2.length<=60;omega
  have HE:=aC he;clear he U
  go_wp2_with fail
  refine GR.y.mono ?_;rintro e w3 ⟨v5,rfl,h5,⟨ak,aq,ar⟩,J⟩;obtain⟨a5,c5,rfl⟩:=gB h5;obtain⟨hT,h3,hD,D,hO,hG,M,N,O,V,ad⟩:=A.y;have U:=HK.y.bl;have ai:w2.heap.size ∉ F':=fun e=>by have:=hD.lt _ e;omega
  have au:=dO (ey h3 U) J (fun b I=>(M b I).1);have a9:=J.size;have n3:eE w3 w1.heap.size (fun _=>U3) (.slice a3 q.2.granted.length c3) q.2.granted:=⟨au,fun _ _=>rfl⟩;have n5:eE w3 w1.heap.size (fun _=>U3) (.slice a5 (eA q.1.ts q.1.es).2.length c5) (eA q.1.ts q.1.es).2:=⟨uQ h5 UI,fun _ _=>rfl⟩;obtain⟨v6,w4,aa,n6,ab,an⟩:=n3.append n5 UI (fun _ _=>rfl) (by have:=aw.y;omega);obtain⟨a6,c6,rfl⟩:=gB n6.own;have S:∀ b,(YZ a3 q.2.granted.length c3).ownBlock=U4 b->w1.heap.size<=b/\b<w2.heap.size:=fun b I=>⟨jE h3 I,eW h3 I⟩
  have k4:aF (YZ a3 q.2.granted.length c3).ownBlock.toList w3 w4:=(aF.refl _ w3).grown ab (fun k hk=>.inl (by simp[hk]));have R:∀ x∈(YZ a3 q.2.granted.length c3).ownBlock.toList,(YZ a3 q.2.granted.length c3).ownBlock=U4 x:=fun x f=>by simpa using f
  have bR:w4.heap[w2.heap.size]?=Z.heap[w2.heap.size]?:=(k4.block _ UI (fun e=>by have:=(S _ (R _ e)).2;omega)).trans (J.block _ UI ai);have bQ:w4.heap[w.heap.size]?=Z.heap[w.heap.size]?:=(k4.block _ UI (fun e=>by have:=(S _ (R _ e)).1;omega)).trans (J.block _ UI ac);have s0:=(zo (a:=⟨w2.heap.size,0,U3⟩) bR).trans r0;have s1:=(zo (a:=⟨w2.heap.size,1,U3⟩) bR).trans r1;have s2:=(zo (a:=⟨w2.heap.size,2,U3⟩) bR).trans r2;have s3:=(zo (a:=⟨w2.heap.size,3,U3⟩) bR).trans r3;have s4:=(zo (a:=⟨w2.heap.size,4,U3⟩) bR).trans r4;have s5:=(zo (a:=⟨w2.heap.size,5,U3⟩) bR).trans r5;have s6:=(zo (a:=⟨w2.heap.size,6,U3⟩) bR).trans r6;have t5:=(zo (a:=⟨w2.heap.size,5,U3⟩) (J.block _ UI ai)).trans r5;have sf:w4.frozen? ⟨w2.heap.size,5,U3⟩=U5:=by have:=rf 5;simp only[Vi,bR];exact this
  have bc:w2.heap.size≠w.heap.size:=UI
  obtain⟨q0,q1,q2,q3,q4,q5,q6,fq⟩:=Q2.y.later bQ;obtain⟨N6,aj⟩:∃ N6,N6=(q.2.granted++(eA q.1.ts q.1.es).2).length:=⟨_,rfl⟩
  have HF:Hid (∀ Y,Y=w4.setCell ⟨w2.heap.size,5,U3⟩ (.slice a6 N6 c6)->oL w d F xs ({ q.1 with es:=(eA q.1.ts q.1.es).1 },{ q.2 with granted:=q.2.granted++(eA q.1.ts q.1.es).2 }) (.returned (bC q.2.err 0 q.2.n (.slice a1 l.length c1) (.slice a2 q.2.days.length c2) (.slice a6 N6 c6) (.slice a4 q.2.ended.length c4))) (cK Y w.heap.size (.int .i64 q.2.err) (.int .i64 0) (.int .i64 q.2.n) (.slice a1 l.length c1) (.slice a2 q.2.days.length c2) (.slice a6 N6 c6) (.slice a4 q.2.ended.length c4))):=by
   rw[aj];rintro Y rfl;have k5:aF [w2.heap.size] w4 (w4.setCell ⟨w2.heap.size,5,U3⟩ (.slice a6 (q.2.granted++(eA q.1.ts q.1.es).2).length c6)):=aF.aX ..;have k7:=lC (w4.setCell ⟨w2.heap.size,5,U3⟩ (.slice a6 (q.2.granted++(eA q.1.ts q.1.es).2).length c6)) w.heap.size (.int .i64 q.2.err) (.int .i64 0) (.int .i64 q.2.n) (.slice a1 l.length c1) (.slice a2 q.2.days.length c2) (.slice a6 (q.2.granted++(eA q.1.ts q.1.es).2).length c6) (.slice a4 q.2.ended.length c4);have ae:=(k5.mono (G:=[w2.heap.size,w.heap.size]) UJ).trans (k7.mono UJ);have a8:=k4.size;have n7:∀ x,x∈[w2.heap.size,w.heap.size]->x=w2.heap.size\/x=w.heap.size:=fun x f=>by simpa using f
   have ag:∀ x∈ak,∃ z∈xs',x.2.1=z.2.1:=ar
   have az:=(aq.off k4 (fun x f e=>(M x (R x e)).1 f) (fun x f e=>by
    obtain⟨z,hz,e2⟩:=ag x f
    exact (M _ (R _ e)).2 z hz e2.symm)).off ae (fun x f e=>by
     rcases n7 x e with rfl|rfl
     ·exact ai f
     ·exact ac f) (fun x f e=>by
     obtain⟨z,hz,e2⟩:=ag x f;have:=N z hz
     rcases n7 _ e with e3|e3 <;> omega)
   refine⟨_,_,_,_,ak,F',by rw[h0],(hT _ (fun b I=>?_)).gr _,NV.own (dO n6.own ae (fun b I e=>?_)),az,fun k hk=>(D k hk).imp id (fun e=>by omega),(((WZ.y.trans' J (fun x f=>(D x f).imp id (fun e=>by omega))).trans' k4 (fun x f=>.inr (by have:=(S x (R x f)).1;omega))).trans' ae (fun x f=>.inr (by rcases n7 x f with e|e <;> omega))),fun x f=>?_⟩
   ·obtain⟨g1,g2,g3,g4⟩:=hG b I;refine (ae.block b UI (fun e=>by rcases n7 b e with e|e <;> omega)).trans ((k4.block b UI (fun e=>g4 (R b e))).trans ((J.block b UI g3).trans (U.block b g2)))
   ·have h8:b<w2.heap.size/\w1.heap.size<=b\/w3.heap.size<=b:=by
     rcases an with e2|e2
     ·rw[e2] at I;exact .inl ⟨(S b I).2,(S b I).1⟩
     ·rw[e2] at I;simp only[ZR] at I;exact .inr UI
    rcases n7 b e with e|e <;> omega
   ·obtain⟨z,hz,e2⟩:=ag x f;rw[e2];exact O z hz
  rw[<- aj] at aa;have HR:=aC aa;clear hT h3 hD D hO hG M N O V ad au n3 n5 n6 ab an S k4 R bR bQ aa h5 aq ar J A r0 r1 r2 r3 r4 r5 r6 rf U aj
  go_wp2_with (first|(at_builtin;refine Nt rfl _ _ 38 _ rfl (HR.y _) ?_))
  exact bodyPost_ret (v:=bC q.2.err 0 q.2.n (.slice a1 l.length c1) (.slice a2 q.2.days.length c2) (.slice a6 N6 c6) (.slice a4 q.2.ended.length c4)) (by simp[results,results75,go_sem,bC,q0,q1,q2,q3,q4,q5,q6]) rfl (by rw[E9.y];exact HF.y _ rfl)
 ·have ax:(q.2.err != 0)=U6:=by simpa using he
  have E9:Hid (fin q=q):=by show _=_;unfold fin;rw[U1 he]
  have HF:Hid (oL w d F xs q (.returned (bC q.2.err 0 q.2.n (.slice a1 l.length c1) (.slice a2 q.2.days.length c2) (.slice a3 q.2.granted.length c3) (.slice a4 q.2.ended.length c4))) (cK Z w.heap.size (.int .i64 q.2.err) (.int .i64 0) (.int .i64 q.2.n) (.slice a1 l.length c1) (.slice a2 q.2.days.length c2) (.slice a3 q.2.granted.length c3) (.slice a4 q.2.ended.length c4))):=by
   have k7:=lC Z w.heap.size (.int .i64 q.2.err) (.int .i64 0) (.int .i64 q.2.n) (.slice a1 l.length c1) (.slice a2 q.2.days.length c2) (.slice a3 q.2.granted.length c3) (.slice a4 q.2.ended.length c4);obtain⟨hT,h3,hD,D,hO,hG,M,N,O,V,ad⟩:=A.y;refine⟨_,_,_,_,xs',F',by rw[h0],hT _ (fun b I=>(k7.block b (zL (hG b I).2.1 U.size) (fun e=>by have:=(hG b I).1;simp at e;omega)).trans (U.block b (hG b I).2.1)),NV.own (dO (ey h3 U) k7 (fun b I e=>by have:=jE h3 I;simp at e;omega)),DZ.y.off k7 (fun x f e=>ac (by simp at e;exact e ▸ f)) (fun x f e=>(N x f).1 (by simpa using e)),fun k hk=>(D k hk).imp id (fun e=>by omega),WZ.y.trans' k7 (fun x f=>.inr (by simp at f;omega)),O⟩
  obtain⟨q0,q1,q2,q3,q4,q5,q6,fq⟩:=Q2.y;clear he A
  go_wp2_with fail
  exact cO results75 ⟨q0,q1,q2,q3,q4,q5,q6,fq⟩ (by rw[E9.y];exact HF.y)
end Go.Proofs.YtfigmlfdnickmaaGreatDoor
