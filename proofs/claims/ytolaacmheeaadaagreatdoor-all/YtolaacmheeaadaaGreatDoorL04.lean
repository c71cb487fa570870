import Derived.Test.YtolaacmheeaadaaGreatDoorL03
set_option maxRecDepth 100000
set_option maxHeartbeats 8000000
open Go.Proofs.Tryz
open _root_ renaming ByteArray->Us,List->Ut,Option->Uu,Bool->Uv,Nat->Uw,Int->Ux,if_neg->Uy,if_pos->Uz,absurd->UA,Int->N,List->J
open Option renaming none->UB,some->UC,mem_toList->Wn,map_some->XU,some->U
open Bool renaming false->UD,true->UE,false_eq_true->U7,not_true->U6,and_comm->X5,and_eq_true->Wu
open Go renaming World->UF,Value->UG,Calls->UI
open Go.RowKit renaming Below->UH
open Int renaming mul_nonneg->VI,le_refl->W5
open List renaming filter_cons->Vp,append_nil->Xu,mem_append->Vb,mem_cons->Va,filter_sublist->Xv,mem_filter->Xb,any_eq_true->Xd,pairwise_append->W8,map_append->VU,mem_map->VQ,append_of_mem->Xw,map_cons->Xl,pairwise_cons->Vn,filter_append->Vo,pairwise_map->Xo,drop_eq_nil_of_le->Wi,drop_eq_getElem_cons->Wh,map_set->XD,set_getElem_self->XE,mem_cons_self->XF,map_map->XH,map_congr_left->XI,nodup_cons->Vd,find?_map->XK,find?_eq_none->XL,mem_of_find?_eq_some->XM,find?_some->XN,filter_eq_self->Xc,find?_cons->XP,length_cons->VB,find?_append->XQ,take_succ_eq_append_getElem->VL,getElem_of_mem->Xs,getElem?_map->XT,getElem?_eq_getElem->Wx,replicate->XV,take_of_length_le->VN,length_take->XW,pairwise_iff_getElem->Xr,all_eq_true->WB,filter_map->XX,map_id->XY,filter_filter->XZ,filter_congr->X0,length_map->We,length_filter_le->Wj,foldl_cons->Wv,length_append->VA,mem_append_left->X6,mem_append_right->X7,foldl_append->Xe,getElem_take->X8,mem_singleton->X9,length_take_le->VT
open List.Pairwise renaming imp->Xx
open Decidable renaming not_not->Xy
open ByteArray.toList renaming loop->Xz
open Go.Maps renaming Keyed->XA
open Go.IntKind renaming i64->UV,i64->Y
open Go.World renaming block_lt_of_cell?->U1,frozen?_of_block->Wk,cell?_setCell_same->Ve,news_of_block->Wf,cell?->Vk
open Classical renaming propDecidable->XC
open Ne renaming symm->XG
open Function renaming comp->XJ
open Nat renaming lt_of_lt_of_le->VP,zero_le->VM,le_trans->U0
open List.Sublist renaming nodup->Vs
open And renaming intro->Vf
open Go.Joins renaming ownsRow_form->XR
open Go.Value.slice renaming injEq->XS
open List.Perm renaming cons_inv->X4
open Go.Value renaming ownBlock->V9,int->UL,pointer->UM,slice->UO,tuple->US,int->V
open Go.Ending renaming returned->UW
open Go.Obj renaming cells->UX
namespace Go.Proofs.YtolaacmheeaadaaGreatDoor
variable{a b name:Us}{e:aA.aQ}{given id now' t tq u:Ux}{at':Ux->Uw}{ts:Ut (Us × Ux)}{L:Ut (Ux × Ux)}{es es':Ut aA.aQ}{Gr l:Ut Ux}{F G M:Ut Uw}{cs xs:Ut UG}{B B' B0 Q cap d fn i j k n:Uw}{p:Uw->Uv}{s:aA.St}{v v' v4:UG}{Z w w' w1 w2 w3 wx:UF}
namespace aA
theorem jr.small{now:N}(h:jr now e):Small e:=⟨by have:=h.u1;omega,h.u9,by have:=h.sl;omega⟩
structure eS(s:St):Prop where
 tl:s.ts.length<=4
 tu:∀ t∈s.ts,1<=t.2/\t.2<=9
 tn:s.ts.Pairwise fun t u=>dI t.1 u.1=UD
 ids:eD s.es
 mZ:∀ e∈s.es,1<=e.id/\e.id<=s.given
 g0:0<=s.given
 g1:s.given<=60
 n0:0<=s.now
 n1:s.now<=1048320
 en:∀ e∈s.es,jr s.now e
 th:∀ e∈s.es,e.aN<=cI e.bH s.ts
 wa:fH s.es<=6
 wi:∀ name x,cM name x s.es<=cI name s.ts
theorem Inv.bA(h:Inv s):eS s:=⟨h.tl,h.tu,h.tn,h.ids,h.mZ,h.g0,h.g1,h.n0,h.n1,h.en,h.th,h.wa,h.wi⟩
theorem eS.inv(h:eS s)(c:∀ e∈s.es,e.kind=3->eT s.ts s.es e.bH e.aN e.aR=UD):Inv s:=⟨h.tl,h.tu,h.tn,h.ids,h.mZ,h.g0,h.g1,h.n0,h.n1,h.en,h.th,h.wa,c,h.wi⟩
theorem eS.small(h:eS s):∀ e∈s.es,Small e:=fun e c=>(h.en e c).small
theorem eS.pos(h:eS s):Pos s.es:=Small.pos h.small
theorem Gh{a b:Us}(h:dI a b=UE):∀ ts:J (Us × N),cI a ts=cI b ts
 |[]=>rfl
 |t :: r=>by simp only[cI,MN (c:=t.1) h,Gh h r]
theorem c0a(h:dI a b=UE)(e:aQ):dB a e=dB b e:=by unfold dB;rw[MN h]
theorem Gg{a b:Us}(h:dI a b=UE)(x:N):∀ es:J aQ,cM a x es=cM b x es
 |[]=>rfl
 |e :: r=>by simp only[cM,c0a h,Gg h x r]
theorem Ge(h:∀ t∈ts,1<=t.2/\t.2<=9)(name:Us):0<=cI name ts/\cI name ts<=9:=by
 induction ts with
 |nil=>simp[cI]
 |cons t r ih =>have i:=ih (fun u c=>h u (by simp[c]));have j:=h t Ui;simp only[cI];split <;> omega
theorem a6v{x:N}(h:Pos es):0<=cM name x es:=by
 induction es with
 |nil=>simp[cM]
 |cons e r ih =>have i:=ih (fun z f=>h z (by simp[f]));have c:=VI (sJ e.aR x).1 (h e Ui);simp only[cM];split <;> omega
theorem MY{name:Us}{x:N}(p:aQ->Uv):∀ {es:J aQ},Pos es->cM name x (es.filter p)<=cM name x es
 |[],_=>W5 _
 |e :: r,h=>by
  have i:=MY (name:=name) (x:=x) p (es:=r) (fun z f=>h z (by simp[f]));have c:=VI (sJ e.aR x).1 (h e Ui);rw[Vp];split
  .simp only[cM];omega
  .simp only[cM];split <;> omega
theorem Mt(o:Pos es)(f:Pos es')(g:0<=u)(h:∀ x,cM name x es<=cM name x es')(k:eT ts es name u L=UD):eT ts es' name u L=UD:=by
 cases c:eT ts es' name u L
 .rfl
 .have:eT ts es name u L=UE:=(wN o g).2 (fun x m=>by have:=(wN f g).1 c x m;have:=h x;omega)
  rw[this] at k;cases k
theorem L5(name:Us)(x:N)(l r:J aQ)(e:aQ)(c:e.kind=3):cM name x (l++ek e :: r)=cM name x (l++e :: r)+if dI e.bH name then eM e.aR x*e.aN else 0:=by
 have o:dB name e=UD:=by simp[dB,c]
 rw[wR,wR];simp only[cM,o,tX,U7,if_false];show _+((if dI e.bH name=UE then eM e.aR x*e.aN else 0)+_)=_;omega
theorem TQ{l r:J aQ}{c:aQ}(h:eD (l++e :: r))(k:c.id=e.id):eD (l++c :: r):=by unfold eD at *;simpa[k] using h
theorem Gi(l r:J aQ):fH (l++r)=fH l+fH r:=by grind[fH]
theorem FM(e:aQ)(r:J aQ):fH (e :: r)=(if e.kind=3 then 1 else 0)+fH r:=by grind[fH]
theorem jr.book{now:N}(h:jr now e):jr now (ek e):=⟨h.u1,h.u9,h.sl,h.s0,h.sp,h.ri,.inl ⟨rfl,rfl⟩⟩
theorem eS.sV{l r:J aQ}{now:N}(h:eS ⟨ts,l++e :: r,given,now⟩)(o:e.kind=3)(q:eT ts (l++e :: r) e.bH e.aN e.aR=UE):eS ⟨ts,l++ek e :: r,given,now⟩:=by
 have m:e∈l++e :: r:=Ui;have g:∀ z∈l++ek e :: r,z=ek e\/z∈l++e :: r:=Uo;have u1:=(h.en e m).u1;refine⟨h.tl,h.tu,h.tn,TQ h.ids rfl,fun z f=>?_,h.g0,h.g1,h.n0,h.n1,fun z f=>?_,fun z f=>?_,?_,fun name x=>?_⟩
 .rcases g z f with rfl|f
  .exact h.mZ e m
  .exact h.mZ z f
 .rcases g z f with rfl|f
  .exact (h.en e m).book
  .exact h.en z f
 .rcases g z f with rfl|f
  .exact h.th e m
  .exact h.th z f
 .have:=h.wa;show fH (l++ek e :: r)<=6;have this:fH (l++e :: r)<=6:=this;rw[Gi,FM] at this ⊢;have y:(ek e).kind=1:=rfl;rw[Uy Uo];rw[Uz o] at this;omega
 .show cM name x (l++ek e :: r)<=cI name ts;rw[L5 name x l r e o];have w:cM name x (l++e :: r)<=cI name ts:=h.wi name x
  split
  .rename_i c
   by_cases t:0<eM e.aR x
   .have:=(wN h.pos O).1 q x t;rw[Gg c x,Gh c ts] at this;exact this
   .have b:=(sJ e.aR x).1;have:eM e.aR x=0:=O
    rw[this];simpa using w
  .omega
theorem FV(ts:J (Us × N))(given now:N):∀ (r f:J aQ),eS ⟨ts,f++r,given,now⟩->(∀ e∈f,e.kind=3->eT ts (f++r) e.bH e.aN e.aR=UD) ->Inv ⟨ts,(eU ts f r).1,given,now⟩
 |[],f,h,no=>by simp only[eU];rw[Xu] at h no;exact h.inv no
 |e :: r,f,h,no=>by
  simp only[eU];by_cases c:e.kind=3/\eT ts (f++e :: r) e.bH e.aN e.aR=UE
  .rw[Uz c];have y:=h.sV c.1 c.2;refine FV ts given now r (f++[ek e]) Uo (fun z g m=>?_);rcases Vb.1 g with g|g
   .have o:z∈f++e :: r:=by simp[g]
    refine Mt (es:=f++e :: r) h.pos (bZ y.pos) (by have:=(h.en z o).u1;omega) (fun x=>?_) (no z g m);rw[show f++[ek e]++r=f++ek e :: r from by simp,L5 _ x f r e c.1];have:=VI (sJ e.aR x).1 (show 0<=e.aN by have:=(h.en e Ui).u1;omega);split <;> omega
   .have:z=ek e:=Uo
    rw[this] at m;exact UA m (by show ¬ (1:N)=3;omega)
  .rw[Uy c];refine FV ts given now r (f++[e]) Uo (fun z g m=>?_);rw[show f++[e]++r=f++e :: r from by simp];rcases Vb.1 g with g|g
   .exact no z g m
   .have:z=e:=Uo
    subst this
    cases q:eT ts (f++z :: r) z.bH z.aN z.aR
    .rfl
    .exact UA ⟨m,q⟩ c
theorem Fh{now:N}(h:eS ⟨ts,es,given,now⟩):Inv ⟨ts,(dS ts es).1,given,now⟩ :=FV ts given now es [] Uo Ui
theorem Mg(ts:J (Us × N)):∀ (r c:J aQ),(∀ e∈r,e.kind=3->eT ts (c++r) e.bH e.aN e.aR=UD)->eU ts c r=(c++r,[])
 |[],c,_=>by simp[eU]
 |e :: r,c,h=>by simp only[eU];rw[Uy];rw[Mg ts r (c++[e]) (fun z m o=>by grind)];simp;rintro ⟨g,f⟩;rw[h e Ui g] at f;cases f
theorem a9s(h:Inv s):dS s.ts s.es=(s.es,[]):=by unfold dS;rw[Mg s.ts s.es [] (bZ h.no)];simp
theorem wK(tq:N):∀ es:J aQ,eL tq es<=tq/\(∀ e∈es,e.kind≠1->eL tq es<=e.bY)/\(eL tq es=tq\/∃ e∈es,e.kind≠1/\e.bY=eL tq es)
 |[]=>⟨W5 _,by simp,.inl rfl⟩
 |e :: r=>by
  let⟨h1,h2,h⟩:=wK tq r;simp only[eL];split
  .rename_i c
   refine⟨O,fun z f g=>?_,.inr ⟨e,by simp,c.1,rfl⟩⟩;rcases Va.1 f with rfl|f
   .omega
   .have:=h2 z f g;omega
  .rename_i c
   refine⟨h1,fun z f g=>?_,?_⟩
   .rcases Va.1 f with rfl|f
    .apply Classical.byContradiction;intro d;exact c ⟨g,O⟩
    .exact h2 z f g
   .rcases h with h|⟨z,f,k⟩
    .exact .inl h
    .exact .inr ⟨z,by simp[f],k⟩
theorem b2w(p:aQ->Uv)(l:J aQ):fH (l.filter p)<=fH l:=by unfold fH;have:=((Xv (p:=p) (l:=l)).filter (fun e=>e.kind==3)).length_le;omega
theorem eS.filter{now:N}(h:eS ⟨ts,es,given,now⟩)(p:aQ->Uv)(C:now<=now')(m:now'<=1048320)(r:∀ e∈es,p e=UE->e.kind≠1->now'<e.bY):eS ⟨ts,es.filter p,given,now'⟩:=by
 have y:=h.n0;have c:∀ z∈es.filter p,z∈es:=fun z f=>(Xb.1 f).1;refine⟨h.tl,h.tu,h.tn,Bh p h.ids,fun z f=>h.mZ z (c z f),h.g0,h.g1,by grind,m,fun z f=>?_,fun z f=>h.th z (c z f),?_,fun name x=>?_⟩
 .have k:=h.en z (c z f);refine⟨k.u1,k.u9,k.sl,k.s0,k.sp,k.ri,?_⟩;rcases k.kd with g|⟨g,A,q,o⟩
  .exact .inl g
  .exact .inr ⟨g,r z (c z f) (Xb.1 f).2 O,q,o⟩
 .have:=h.wa;have this:fH es<=6:=this;have:=b2w p es;show fH (es.filter p)<=6;omega
 .have a:=MY (name:=name) (x:=x) p h.pos;have b:=h.wi name x;show cM name x (es.filter p)<=cI name ts;have a:cM name x (es.filter p)<=cM name x es:=a;have b:cM name x es<=cI name ts:=b;omega
theorem uV(ts:J (Us × N)):∀ (r c:J aQ),(eU ts c r).1.length=c.length+r.length
 |[],c=>by simp[eU]
 |e :: r,c=>by simp only[eU];split;show (eU ts (c++[ek e]) r).1.length=_;rw[uV ts r];simp;omega;rw[uV ts r];simp;omega
theorem yD(ts:J (Us × N))(es:J aQ):(dS ts es).1.length=es.length:=by unfold dS;rw[uV];simp
theorem LL(ts:J (Us × N))(given tq:N)(ht:tq<=1048320):∀ (k:Uw)(es:J aQ)(now:N),es.length<k\/now=tq->now<=tq->Inv ⟨ts,es,given,now⟩->Inv ⟨ts,(gd ts k es now tq).1,given,tq⟩
 |0,es,now,hk,hle,h=>by have:now=tq:=O;subst this;simpa[gd] using h
 |k+1,es,now,hk,hle,h=>by
  simp only[gd];by_cases c:now<tq
  .rw[Uz c];let⟨n1,n2,n3⟩:=wK tq es
   have I:now<eL tq es:=by
    rcases n3 with e|⟨z,q,o,e⟩
    .omega
    .rcases (h.en z q).kd with C|⟨_,x,_⟩
     .exact UA C.1 o
     .have x:now<z.bY:=x;omega
   have D:=h.bA.filter (now':=eL tq es) (fun e=>!cA (eL tq es) e) O O (fun e H m f=>by
    have:=n2 e H f;have m:=m;simp[cA] at m;rcases m with A|A
    .exact UA A f
    .omega)
   have E:=Fh D;refine LL ts given tq ht k _ _ ?_ n1 E;by_cases e:eL tq es=tq
   .exact .inr e
   .left;rcases n3 with r |⟨z,q,o,r⟩
    .exact UA r e
    .rw[yD]
     have:(es.filter fun e=>!cA (eL tq es) e).length<es.length:=by
      rw[<- List.countP_eq_length_filter];have y:¬ List.countP (fun e=>!cA (eL tq es) e) es=es.length:=by rw[List.countP_eq_length];intro g;have:=g z q;simp[cA,r] at this;exact o this
      have:=List.countP_le_length (p:=fun e=>!cA (eL tq es) e) (l:=es);omega
     omega
  .rw[Uy c];have:now=tq:=O
   subst this;exact h
theorem Gc(name:Us)(t:Us × N):∀ ts:J (Us × N),cI name (ts++[t])=if (ts.any fun u=>dI u.1 name)=UE then cI name ts else if dI t.1 name then t.2 else 0
 |[]=>by simp[cI]
 |u :: r=>by
  have ih:=Gc name t r;have o:cI name (u :: r++[t])=if dI u.1 name then u.2 else cI name (r++[t]):=rfl;have m:cI name (u :: r)=if dI u.1 name then u.2 else cI name r:=rfl;rw[o,m];by_cases h:dI u.1 name=UE
  .have:((u :: r).any fun u=>dI u.1 name)=UE:=Xd.2 ⟨u,by simp,h⟩;rw[Uz h,Uz h,Uz this]
  .rw[Uy h,Uy h,ih]
   by_cases c:(r.any fun u=>dI u.1 name)=UE
   .have:((u :: r).any fun u=>dI u.1 name)=UE:=by let⟨z,f,k⟩:=Xd.1 c;exact Xd.2 ⟨z,by simp[f],k⟩
    rw[Uz c,Uz this]
   .have:¬ ((u :: r).any fun u=>dI u.1 name)=UE:=by
     intro g;let⟨z,f,k⟩:=Xd.1 g;rcases Va.1 f with e|f
     .rw[e] at k;exact h k
     .exact c (Xd.2 ⟨z,f,k⟩)
    rw[Uy c,Uy this]
theorem ze{name:Us}:∀ {ts:J (Us × N)},(∀ t∈ts,1<=t.2/\t.2<=9)->(cI name ts=0↔∀ t∈ts,dI t.1 name=UD)
 |[],_=>by simp[cI]
 |u :: r,h=>by
  have i:=ze (name:=name) (ts:=r) (fun t ht=>h t (by simp[ht]));have j:=h u Ui;simp only[cI,List.forall_mem_cons]
  cases c:dI u.1 name
  .simp only[U7,if_false,true_and];exact i
  .simp only[if_true];constructor
   .intro e;omega
   .rintro ⟨e,_⟩;cases e
theorem a8F{t:Us × N}(h:∀ t∈ts,1<=t.2/\t.2<=9)(g:cI name ts≠0):cI name (ts++[t])=cI name ts:=by
 rw[Gc,Uz]
 cases c:ts.any fun u=>dI u.1 name
 .exfalso;apply g;rw[ze h];intro u f
  cases d:dI u.1 name
  .rfl
  .have:ts.any (fun u=>dI u.1 name)=UE:=Xd.2 ⟨u,f,d⟩;rw[this] at c;cases c
 .rfl
theorem Inv.bH(h:Inv s)(o:1<=u/\u<=9)(q:cI name s.ts=0)(C:s.ts.length≠4):Inv { s with ts:=s.ts++[(name,u)] }:=by
 have g:=(ze h.tu).1 q;have un:∀ m,cI m s.ts≠0->cI m (s.ts++[(name,u)])=cI m s.ts:=fun m r=>a8F h.tu r;have pos:∀ e∈s.es,cI e.bH s.ts≠0:=fun e f=>by have:=h.th e f;have:=(h.en e f).u1;omega
 have A:=h.tl;refine⟨?_,fun t ht=>?_,?_,h.ids,h.mZ,h.g0,h.g1,h.n0,h.n1,h.en,fun e f=>?_,h.wa,fun e f y=>?_,fun m x=>?_⟩
 .show (s.ts++[(name,u)]).length<=4;simp;omega
 .rcases Vb.1 ht with ht|ht
  .exact h.tu t ht
  .have:t=(name,u):=Uo
   subst this;exact o
 .show (s.ts++[(name,u)]).Pairwise _;rw[W8];refine⟨h.tn,by simp,fun a z b D=>?_⟩;have:b=(name,u):=Uo
  subst this;exact g a z
 .show e.aN<=cI e.bH (s.ts++[(name,u)]);rw[un _ (pos e f)];exact h.th e f
 .have:=h.no e f y;show eT (s.ts++[(name,u)]) s.es e.bH e.aN e.aR=UD;unfold eT at this ⊢;rw[un _ (pos e f)];exact this
 .show cM m x s.es<=cI m (s.ts++[(name,u)])
  by_cases c:cI m s.ts=0
  .have w:=h.wi m x;have b:=a6v (name:=m) (x:=x) h.bA.pos
   have:0<=cI m (s.ts++[(name,u)]):=by
    rw[Gc];split
    .omega
    .split <;> simp <;> omega
   omega
  .rw[un m c];exact h.wi m x
theorem Inv.join(h:Inv s)(H:s.given≠60)(g:jr s.now e)(ht:e.aN<=cI e.bH s.ts)(r:e.kind=3->fH s.es≠6)(y:e.kind≠3->eT s.ts s.es e.bH e.aN e.aR=UE):eS (lS s e).1:=by
 have P:=h.g0;have K:=h.g1;have o:=h.mZ;have E:=h.wa;have q:jr s.now { e with id:=s.given+1 }:=⟨g.u1,g.u9,g.sl,g.s0,g.sp,g.ri,g.kd⟩;have m:∀ z∈s.es++[{ e with id:=s.given+1 }],z∈s.es\/z={ e with id:=s.given+1 }:=Uo;unfold lS;refine⟨h.tl,h.tu,h.tn,?_,fun z f=>?_,by grind,by grind,h.n0,h.n1,fun z f=>?_,fun z f=>?_,?_,fun name x=>?_⟩
 .show eD (s.es++[{ e with id:=s.given+1 }]);unfold eD;rw[VU,W8];refine⟨h.ids,by simp,fun a A b I=>?_⟩;obtain⟨z,f,rfl⟩:=VQ.1 A;have:b=s.given+1:=Uo
  have:=o z f;omega
 .rcases m z f with f|rfl
  .have:=o z f;show 1<=z.id/\z.id<=s.given+1;omega
  .show 1<=s.given+1/\s.given+1<=s.given+1;omega
 .rcases m z f with f|rfl
  .exact h.en z f
  .exact q
 .rcases m z f with f|rfl
  .exact h.th z f
  .exact ht
 .show fH (s.es++[{ e with id:=s.given+1 }])<=6;rw[Gi,FM];have D:fH ([]:J aQ)=0:=by simp[fH]
  rw[D];show fH s.es+((if e.kind=3 then 1 else 0)+0)<=6;by_cases c:e.kind=3
  .rw[Uz c];have:=r c;omega
  .rw[Uy c];omega
 .show cM name x (s.es++[{ e with id:=s.given+1 }])<=cI name s.ts;rw[wR];have w:=h.wi name x;have C:cM name x [{ e with id:=s.given+1 }]=(if dB name e then eM e.aR x*e.aN else 0):=by simp[cM,dB]
  rw[C];by_cases c:dB name e=UE
  .rw[Uz c];simp[dB] at c
   by_cases t:0<eM e.aR x
   .have:=(wN h.bA.pos (by have:=g.u1;omega)).1 (y c.2) x t;rw[Gg c.1 x,Gh c.1 s.ts] at this;exact this
   .have b:=(sJ e.aR x).1;have:eM e.aR x=0:=O
    rw[this];simpa using w
  .rw[Uy c];omega
theorem MA(g:eD es)(q:e∈es)(o:e.id=id):∃ l r,es=l++e :: r/\fc id es=l++ek e :: r/\kept id es=l++r:=by
 obtain⟨l,r,rfl⟩:=Xw q;refine⟨l,r,rfl,?_,?_⟩
 .have f:∀ z∈l++r,z.id≠id:=by
   intro z c x;unfold eD at g;rw[VU,Xl,W8,Vn] at g;rcases Vb.1 c with c|c
   .have:=g.2.2 z.id (VQ.2 ⟨z,c,rfl⟩) e.id Ui;omega
   .have:=g.2.1.1 z.id (VQ.2 ⟨z,c,rfl⟩);omega
  have m:=Bu (id:=id) (es:=l) (fun z c=>f z (by simp[c]));have h:=Bu (id:=id) (es:=r) (fun z c=>f z (by simp[c]));unfold fc at m h ⊢;rw[VU,Xl,m,h,Uz o]
 .have f:∀ z∈l++r,z.id≠id:=by
   intro z c x;unfold eD at g;rw[VU,Xl,W8,Vn] at g;rcases Vb.1 c with c|c
   .have:=g.2.2 z.id (VQ.2 ⟨z,c,rfl⟩) e.id Ui;omega
   .have:=g.2.1.1 z.id (VQ.2 ⟨z,c,rfl⟩);omega
  have m:=Fm (id:=id) (es:=l) (fun z c=>f z (by simp[c]));have h:=Fm (id:=id) (es:=r) (fun z c=>f z (by simp[c]));unfold kept at m h ⊢;rw[Vo,Vp,m,h,Uy Uo]
theorem b4o(name:Us)(x:N)(l r:J aQ)(e:aQ)(c:e.kind≠3):cM name x (l++ek e :: r)=cM name x (l++e :: r):=by
 have o:dB name e=dI e.bH name:=by
  unfold dB;have:(e.kind != 3)=UE:=by simp[c]
  rw[this,Bool.and_true]
 rw[wR,wR];simp only[cM,o,tX];rfl
theorem Inv.bL(h:Inv s)(m:e∈s.es)(q:e.id=id)(A:e.kind=2):Inv { s with es:=fc id s.es }:=by
 let⟨l,r,h1,h2,_⟩:=MA h.ids m q;have y:∀ name x,cM name x (fc id s.es)=cM name x s.es:=fun name x=>by rw[h2,h1];exact b4o name x l r e O
 have f:∀ z∈fc id s.es,z=ek e\/z∈s.es:=Uo;have o:Pos (fc id s.es):=by
  intro z c;rcases f z c with rfl|c
  .exact h.bA.pos e m
  .exact h.bA.pos z c
 refine⟨h.tl,h.tu,h.tn,LQ h.ids,fun z c=>?_,h.g0,h.g1,h.n0,h.n1,fun z c=>?_,fun z c=>?_,?_,fun z c g=>?_,fun name x=>?_⟩
 .rcases f z c with rfl|c
  .exact h.mZ e m
  .exact h.mZ z c
 .rcases f z c with rfl|c
  .exact (h.en e m).book
  .exact h.en z c
 .rcases f z c with rfl|c
  .exact h.th e m
  .exact h.th z c
 .have:=h.wa;show fH (fc id s.es)<=6;rw[h1] at this;rw[h2];rw[Gi,FM] at this ⊢;have C:(ek e).kind=1:=rfl;rw[Uy Uo];rw[Uy O] at this;exact this
 .rcases f z c with rfl|c
  .exact UA g (by show ¬ (1:N)=3;omega)
  .exact Mt h.bA.pos o (by have:=(h.en z c).u1;omega) (fun x=>by grind) (h.no z c g)
 .show cM name x (fc id s.es)<=cI name s.ts;rw[y];exact h.wi name x
theorem Bi(h:mW id es=U e):e∈es/\e.id=id:=by grind[mW]
theorem Rd.mH{r:Rd.cP}(h:Rd.hH r)(g:Rd.iS r=0):qV (Rd.jd r (Rd.cN r))/\jC (Rd.jd r (Rd.cN r))/\Rd.jd r (Rd.cN r)≠[]/\(Rd.jd r (Rd.cN r)).length<=40:=by
 let⟨_,k1,k2,k3⟩:=(Rd.sF h).2 g;have x:=h.f0;have o:=h.m0;have q:=h.i1;refine⟨fun s f=>?_,?_,by simpa[Rd.jd] using k1,by simpa[Rd.jd] using k2⟩
 .obtain⟨d,c,rfl⟩:=VQ.1 f;have a:=Rd.uZ h c;have b:=k3 d c;show 0<=d*1440+r.mn/\d*1440+r.mn<d*1440+r.mn+r.mi/\d*1440+r.mn+r.mi<=1048320;omega
 .unfold jC Rd.jd;rw[Xo];refine Xx ?_ (Rd.Ma h);intro a b m;show a*1440+r.mn<b*1440+r.mn;omega
theorem Lk(h:eW ts name u=0):cI name ts≠0/\u<=cI name ts:=by
 unfold eW at h;split at h
 .omega
 .split at h
  .omega
  .constructor <;> omega
theorem DV(h:Inv s){l:jb}(m:ke l):eS (aX s l).1:=by
 cases l with
 |bH name u =>
  simp only[aX];split
  .exact h.bA
  .split
   .exact h.bA
   .rename_i c1 c2
    exact (h.bH m Uo c2).bA
 |enter k name u fr til long =>
  simp only[aX];split
  .exact h.bA
  .rename_i c
   simp only[ne_eq,Xy] at c;unfold qK at c;split at c
   .omega
   .rename_i c1
    simp only[ne_eq,Xy] at c1;split at c
    .omega
    .rename_i c2
     split at c
     .omega
     .rename_i c3
      let⟨g,l1,l2,l3,l4,l5,l6⟩:=m;let⟨a1,a2⟩:=Lk c1;have C:=h.n0;refine h.join c3 ⟨l1,l2,by simp[qE],by simp[qE],fun s A=>?_,by simp[qE,jC],?_⟩ a2 (fun f=>?_) (fun f=>?_)
      .have:s=(fr,til):=by simpa[qE] using A
       subst this;show 0<=fr/\fr<til/\til<=1048320;omega
      .show (k=1/\(if k=1 then 0 else s.now+long)=0)\/((k=2\/k=3)/\s.now<(if k=1 then 0 else s.now+long)/\(if k=1 then 0 else s.now+long)<=1048320/\[(fr,til)].length=1);rcases g with ⟨g,_⟩|⟨g,E,D⟩
       .exact .inl ⟨g,by grind⟩
       .rw[Uy O];exact .inr ⟨g,O,O,rfl⟩
      .have f:k=3:=f;rw[Uz f] at c
       split at c
       .omega
       .assumption
      .have f:k≠3:=f;rw[Uy f] at c;show eT s.ts s.es name u [(fr,til)]=UE
       split at c
       .assumption
       .omega
 |series name u r =>
  simp only[aX];split
  .exact h.bA
  .rename_i c
   simp only[ne_eq,Xy] at c;unfold oG at c;split at c
   .omega
   .rename_i c1
    simp only[ne_eq,Xy] at c1;split at c
    .omega
    .rename_i c2
     simp only[ne_eq,Xy] at c2;split at c
     .omega
     .rename_i c3
      let⟨l1,l2,l3⟩:=m;let⟨a1,a2⟩:=Lk c1;let⟨p1,p2,p3,p4⟩:=Rd.mH l3 c2;refine h.join c3 ⟨l1,l2,p4,p3,p1,p2,.inl ⟨rfl,rfl⟩⟩ a2 (fun f=>?_) (fun _=>?_)
      .exact UA f Uo
      .show eT s.ts s.es name u (Rd.jd r (Rd.cN r))=UE
       split at c
       .assumption
       .omega
 |bL id =>
  simp only[aX]
  cases o:mW id s.es with
  |none=>exact h.bA
  |some e =>
   simp only;split
   .exact h.bA
   .rename_i c
    let⟨f1,f2⟩:=Bi o;exact (h.bL f1 f2 Uo).bA
 |cancel id =>
  simp only[aX]
  cases o:mW id s.es with
  |none=>exact h.bA
  |some e =>
   exact h.bA.filter (now':=s.now) (fun e=>e.id != id) (W5 _) h.n1 (fun z y _ f=>by
    rcases (h.en z y).kd with q|⟨_,x,_⟩
    .exact UA q.1 f
    .exact x)
 |list name fr til =>
  simp only[aX];split
  .exact h.bA
  .split <;> exact h.bA
 |waiting=>exact h.bA
 |ef name fr til =>
  simp only[aX];split
  .exact h.bA
  .split <;> exact h.bA
 |find name u long fr til =>
  simp only[aX];split
  .exact h.bA
  .split <;> exact h.bA
 |expand r =>simp only[aX];split <;> exact h.bA
 |tick n =>
  simp only[aX];split
  .exact h.bA
  .rename_i c
   have m:1<=n/\n<=1048320:=m;exact (LL s.ts s.given (s.now+n) O (s.es.length+1) s.es s.now (.inl O) O h).bA
 |clock=>exact h.bA
theorem b7g{l:jb}(h:(aX s l).2.err≠0):(aX s l).1=s:=by
 cases l with
 |bH name u =>
  simp only[aX] at h ⊢;by_cases m:cI name s.ts≠0
  .rw[Uz m]
  .rw[Uy m] at h ⊢
   by_cases g:s.ts.length=4
   .rw[Uz g]
   .rw[Uy g] at h;exact UA rfl h
 |enter k name u fr til long =>simp only[aX] at h ⊢;by_cases c:qK s k name u fr til long≠0;rw[Uz c];rw[Uy c] at h;exact UA rfl h
 |series name u r =>simp only[aX] at h ⊢;by_cases c:oG s name u r≠0;rw[Uz c];rw[Uy c] at h;exact UA rfl h
 |bL id =>
  simp only[aX] at h ⊢
  cases f:mW id s.es with
  |none=>rfl
  |some e =>rw[f] at h;simp only at h ⊢;by_cases c:e.kind≠2;rw[Uz c];rw[Uy c] at h;exact UA rfl h
 |cancel id =>
  simp only[aX] at h ⊢
  cases f:mW id s.es with
  |none=>rfl
  |some e=>rw[f] at h;exact UA rfl h
 |list name fr til =>
  simp only[aX];split
  .rfl
  .split <;> rfl
 |waiting=>rfl
 |ef name fr til =>
  simp only[aX];split
  .rfl
  .split <;> rfl
 |find name u long fr til =>
  simp only[aX];split
  .rfl
  .split <;> rfl
 |expand r =>simp only[aX];split <;> rfl
 |tick n =>simp only[aX] at h ⊢;by_cases c:1048320<s.now+n;rw[Uz c];rw[Uy c] at h;exact UA rfl h
 |clock=>rfl
theorem c2j(h:Inv s){l:jb}(f:ke l):Inv (jE s l).1:=by
 unfold jE;split
 .rename_i c
  rw[b7g c];exact h
 .exact Fh (DV h f)
end aA
open Go.RowKit
theorem Tq(b:Us):∀ (n i:Uw)(r:J UInt8),b.size-i=n->Xz b i r=r.reverse++b.data.toList.drop i:=by
 intro n;induction n with
 |zero =>intro i r h;rw[Xz,Uy O,Wi Un];simp
 |succ n ih =>intro i r h;have c:i<b.size:=O;rw[Xz,Uz c,ih (i+1) _ O];have f:i<b.data.toList.length:=bZ c;rw[Wh f];simp[ByteArray.get!,c]
theorem Jn(b:Us):b.toList=b.data.toList:=by unfold ByteArray.toList;rw[Tq b b.size 0 [] O];simp
theorem vk:aA.dI a b=UE↔a=b:=by
 constructor
 .intro h;have h:=aA.FB.1 h;rw[Jn,Jn] at h
  cases a;cases b;simp at h;rw[h]
 .rintro rfl;exact aA.tZ _
theorem sL:aA.dI a b=UD↔a≠b:=by
 cases h:aA.dI a b
 .simp;rintro rfl;rw[aA.tZ] at h;cases h
 .simp;exact vk.1 h
def oV(a:Us):Lit:=.string a.data.toList
def lM(n:N):Lit:=.int Y n
theorem c2N(h:oV a=oV b):a=b:=by
 cases a;cases b;simp[oV] at h;rw[h]
theorem Kt{a b:N}(h:lM a=lM b):a=b:=by simpa[lM] using h
theorem DE:XA prog 9:=Maps.string_keyed underlying9
theorem yh:XA prog 3:=Maps.int_keyed underlying3
theorem Ea{s:Us}(h:s.size<=1000):keyOf prog 9 s=U (oV s):=by unfold keyOf mapKey;rw[underlying9];simp only;rw[Uz Up];rfl
theorem yq{n:N}(m:-1000000000000<=n)(h:n<=1000000000000):keyOf prog 3 n=U (lM n):=by
 unfold keyOf mapKey;rw[underlying3];simp only;have f:Y.min=-9223372036854775808:=rfl;have c:Y.max=9223372036854775807:=rfl;have g:(Lit.int Y n).wf=UE:=by simp[Lit.wf,f,c];omega
 rw[Uz ⟨trivial,g⟩];rfl
inductive bO where
 |desk|mt|me|wa|he|ent|span
 |bH (i:Uw)
structure TG where
 name:Us
 aN:N
 tb:Uw
 A:J Uv->N
 T:aF.S
structure EG where
 e:aA.aQ
 eb:Uw
 B:Uw
 cap:Uw
 tb:Uw
def mh(c:J TG)(name:Us):Uu Uw:=((c.map fun t=>(t.name,t.tb)).find? fun p=>aA.dI p.1 name).map (·.2)
def jc(c:J EG)(id:N):Uu Uw:=((c.map fun g=>(g.e.id,g.eb)).find? fun p=>decide (p.1=id)).map (·.2)
structure kv(w:UF)(g:EG):Prop where
 en:jG w g.eb g.e.id g.tb g.e.aN g.B g.cap g.e.aR
 k:w.cell? (g.eb,1)=U ↑g.e.kind
 u:w.cell? (g.eb,5)=U ↑g.e.bY
 fz:∀ o,w.frozen? ⟨g.eb,o,UB⟩=UD
 bl:∃ cs,w.heap[g.eb]?=U (UX cs 197 (0,0))
theorem kv.lt{g:EG}(h:kv w g):g.eb<w:=U1 _ _ h.k
theorem kv.off{g:EG}(h:kv w g)(k:aH G w w')(c:g.eb ∉ G)(f:g.B ∉ G):kv w' g :=⟨h.en.off k c f,k.cell c h.k,k.cell c h.u,fun o=>(k.frozen c h.lt).trans (h.fz o),by let⟨cs,e⟩:=h.bl;exact⟨cs,(k.block _ h.lt c).trans e⟩⟩
def jX(b:Uw):UG:=b
structure Raw where
 now:N
 given:N
 tg:J TG
 eg:J EG
 wl:J Uw
 hl:J Hp.Hi
structure DK(w:UF)(d:Uw)(r:Raw)(aM:Uw->Uu bO):Prop where
 c0:w.cell? (d,0)=U (V Y r.now)
 c1:w.cell? (d,1)=U (V Y r.given)
 mt:∃ m f,w.cell? (d,2)=U (.map (U m))/\aM m=U .mt/\gO prog 9 w m r.tg.length f r.tg.length/\∀ name,f (oV name)=mh r.tg name
 me:∃ m f,w.cell? (d,3)=U (.map (U m))/\aM m=U .me/\gO prog 3 w m r.eg.length f r.eg.length/\∀ id,f (lM id)=jc r.eg id
 wa:∃ v,w.cell? (d,4)=U v/\w.ownsRow 0 194 1 v r.wl.length (r.wl.map jX)/\∀ b,v.ownBlock=U b->aM b=U .wa
 he:∃ v,HP w d 5 v r.hl/\∀ b,v.ownBlock=U b->aM b=U .he
 th:∀ (i:Uw) (h:i<r.tg.length),∃ ul us Fl Fs,TH w r.tg[i].tb r.tg[i].name r.tg[i].aN r.tg[i].A r.tg[i].T ul us Fl Fs/\∀ k∈r.tg[i].tb :: (Fl++Fs),aM k=U (.bH i)
 en:∀ g∈r.eg,kv w g/\aM g.eb=U .ent/\aM g.B=U .span
 nd:(r.eg.map (·.eb)).Nodup
 ni:(r.eg.map (·.e.id)).Nodup
 fz:∀ o,w.frozen? ⟨d,o,UB⟩=UD
 dc:aM d=U .desk
 lt:∀ k c,aM k=U c->k<w
theorem DK.off{r:Raw}{aM:Uw->Uu bO}(h:DK w d r aM)(k:aH G w w')(E:∀ x∈G,aM x=UB):DK w' d r aM:=by
 have q:∀ {x:Uw}{c:bO},aM x=U c->x ∉ G:=fun z C=>by grind
 have y:=q h.dc;refine⟨k.cell y h.c0,k.cell y h.c1,?_,?_,?_,?_,?_,?_,h.nd,h.ni,fun o=>(k.frozen y (h.lt d _ h.dc)).trans (h.fz o),h.dc,fun x c z=>zL (h.lt x c z) k.size⟩;let⟨m,f,a1,a2,a3,a4⟩:=h.mt;exact⟨m,f,k.cell y a1,a2,a3.block (k.block m (h.lt m _ a2) (q a2)),a4⟩;let⟨m,f,a1,a2,a3,a4⟩:=h.me;exact⟨m,f,k.cell y a1,a2,a3.block (k.block m (h.lt m _ a2) (q a2)),a4⟩;let⟨v,a1,a2,a3⟩:=h.wa;exact⟨v,k.cell y a1,dL a2 k (fun b A=>q (a3 b A)),a3⟩;let⟨v,a1,a2⟩:=h.he;exact⟨v,a1.off k y (fun b A=>q (a2 b A)),a2⟩;intro i D;let⟨ul,us,Fl,Fs,a1,a2⟩:=h.th i D;exact⟨ul,us,Fl,Fs,a1.off k (fun x z=>q (a2 x z)),a2⟩;intro g C;let⟨a1,a2,a3⟩:=h.en g C;exact⟨a1.off k (q a2) (q a3),a2,a3⟩
theorem DK.later{r:Raw}{aM:Uw->Uu bO}(h:DK w d r aM)(k:UH w w w'):DK w' d r aM:=h.off (G:=[]) (aH.aD k) Ui
structure Step(S:bO->Prop)(B:Uw)(aM col':Uw->Uu bO)(w w':UF):Prop where
 off:∃ G,aH G w w'/\∀ x∈G,(∃ c,aM x=U c/\S c)\/(aM x=UB/\B<=x)
 ji:∀ k c,aM k=U c->col' k=U c
 new:∀ k c,col' k=U c->aM k=U c\/B<=k
theorem Step.refl(S:bO->Prop)(B:Uw)(c:Uw->Uu bO)(w:UF):Step S B c c w w:=⟨⟨[],aH.refl _ _,by simp⟩,fun _ _ h=>h,fun _ _ h=>.inl h⟩
theorem Step.below{S:bO->Prop}{c:Uw->Uu bO}(h:UH w w w'):Step S B c c w w':=⟨⟨[],aH.aD h,by simp⟩,fun _ _ h=>h,fun _ _ h=>.inl h⟩
theorem Step.size{S:bO->Prop}{f c:Uw->Uu bO}(h:Step S B f c w w'):w<=w'.heap.size:=by let⟨G,h1,_⟩:=h.off;exact h1.size
theorem Step.mono{S m:bO->Prop}{g f:Uw->Uu bO}(h:Step S B g f w w')(q:∀ c,S c->m c)(y:B'<=B):Step m B' g f w w':=by
 let⟨G,h1,h2⟩:=h.off;refine⟨⟨G,h1,fun x o=>?_⟩,h.ji,fun k c r=>(h.new k c r).imp id (fun e=>by omega)⟩;rcases h2 x o with ⟨c,a,b⟩|⟨a,b⟩
 .exact .inl ⟨c,a,q c b⟩
 .exact .inr ⟨a,O⟩
theorem Step.trans{S:bO->Prop}{o y r:Uw->Uu bO}{a b c:UF}(h:Step S B o y a b)(k:Step S B y r b c):Step S B o r a c:=by
 let⟨G,h1,h2⟩:=h.off;let⟨K,k1,k2⟩:=k.off;refine⟨⟨G++K,?_,fun x f=>?_⟩,fun x c f=>k.ji x c (h.ji x c f),fun x c f=>?_⟩
 .exact (h1.mono (fun x f=>by simp[f])).trans' k1 (fun x f=>.inl (by simp[f]))
 .rcases Vb.1 f with f|f
  .exact h2 x f
  .rcases k2 x f with ⟨c,g,m⟩|⟨g,m⟩
   .rcases h.new x c g with e|e
    .exact .inl ⟨c,e,m⟩
    .cases q:o x with
     |none=>exact .inr ⟨rfl,e⟩
     |some c' =>
      have:=h.ji x c' q;rw[g] at this
      cases this;exact .inl ⟨c,rfl,m⟩
   .cases q:o x with
    |none=>exact .inr ⟨rfl,m⟩
    |some c'=>rw[h.ji x c' q] at g;cases g
 .rcases k.new x c f with e|e
  .exact h.new x c e
  .exact .inr e
theorem Step.lJ{S:bO->Prop}{m g:Uw->Uu bO}(h:Step S B m g w w'){b:Uw}{c:bO}(x:b<w)(o:m b=U c)(r:¬ S c):w'.heap[b]?=w.heap[b]?:=by
 let⟨G,h1,h2⟩:=h.off;refine h1.block b x (fun q=>?_);rcases h2 b q with ⟨z,f,y⟩|⟨f,_⟩
 .rw[o] at f;cases f;exact r y
 .rw[o] at f;cases f
theorem Step.cS{S:bO->Prop}{f c:Uw->Uu bO}(h:Step S B f c w w'){b:Uw}(q:b<w)(o:f b=UB)(r:b<B):w'.heap[b]?=w.heap[b]?:=by
 let⟨G,h1,h2⟩:=h.off;refine h1.block b q (fun m=>?_);rcases h2 b m with ⟨y,g,x⟩|⟨_,e⟩
 .rw[o] at g;cases g
 .omega
theorem Step.qv{S:bO->Prop}{g f:Uw->Uu bO}(h:Step S B g f w w'){b o:Uw}{c:bO}(r:g b=U c)(q:¬ S c)(m:w.cell? (b,o)=U v):w'.cell? (b,o)=U v :=(zo (w:=w) (h.lJ (U1 _ _ m) r q)).trans m
def Left(S:bO->Prop)(B:Uw)(f:Uw->Uu bO)(b:Uw):Prop:=(∃ c,f b=U c/\¬ S c)\/(f b=UB/\b<B)
theorem Step.left{S:bO->Prop}{m g:Uw->Uu bO}(h:Step S B m g w w'):∃ G,aH G w w'/\∀ b,Left S B m b->b ∉ G:=by
 let⟨G,h1,h2⟩:=h.off;refine⟨G,h1,fun b y x=>?_⟩;rcases h2 b x with ⟨z,o,r⟩|⟨o,r⟩ <;> rcases y with ⟨c,f,q⟩|⟨f,q⟩
 .rw[o] at f;cases f;exact q r
 .rw[o] at f;cases f
 .rw[o] at f;cases f
 .omega
theorem Step.vI{S:bO->Prop}{c f:Uw->Uu bO}{g:EG}(h:Step S B c f w w')(m:kv w g)(q:Left S B c g.eb)(o:Left S B c g.B):kv w' g:=by let⟨G,a1,a2⟩:=h.left;exact m.off a1 (a2 _ q) (a2 _ o)
noncomputable def jD(f:Uw->Uu bO)(F:J Uw)(c:bO)(k:Uw):Uu bO :=
 match f k with
 |some c'=>U c'
 |none=>@ite _ (k∈F) (XC _) (U c) UB
theorem Fp{f:Uw->Uu bO}{c c':bO}(h:f k=U c'):jD f F c k=U c':=by unfold jD;rw[h]
theorem wE{f:Uw->Uu bO}{c:bO}(h:k∈F)(m:∀ g,f k=U g->g=c):jD f F c k=U c:=by grind[jD]
theorem rI{f:Uw->Uu bO}{c g:bO}(h:jD f F c k=U g):f k=U g\/(f k=UB/\k∈F/\c=g):=by grind[jD]
theorem wO{S:bO->Prop}{f:Uw->Uu bO}{c:bO}(k:aH G w w')(m:∀ x∈G,(∃ c,f x=U c/\S c)\/(f x=UB/\B<=x))(o:∀ x∈F,f x=UB->B<=x):Step S B f (jD f F c) w w' :=⟨⟨G,k,m⟩,fun _ _ h=>Fp h,fun k c g=>by rcases rI g with e|⟨r,q,y⟩;exact .inl e;exact .inr (o k q r)⟩
def TG.with(t:TG)(A:J Uv->N)(T:aF.S):TG:={ t with A:=A,T:=T }
def Raw.eI(r:Raw)(i:Uw)(t:TG):Raw:={ r with tg:=r.tg.set i t }
theorem c2c{c:J TG}(f:i<c.length)(A:J Uv->N)(T:aF.S)(name:Us):mh (c.set i (c[i].with A T)) name=mh c name:=by
 unfold mh;have e:(c.set i (c[i].with A T)).map (fun t=>(t.name,t.tb))=c.map fun t=>(t.name,t.tb):=by
  rw[XD];have:((c[i].with A T).name,(c[i].with A T).tb)=(c.map fun t=>(t.name,t.tb))[i]'Uo:=by simp[TG.with]
  rw[this,XE]
 rw[e]
theorem DK.base{S:bO->Prop}{r:Raw}{f c:Uw->Uu bO}(h:DK w d r f)(st:Step S B f c w w')(g:¬ S .desk):w'.cell? ⟨d,0,UB⟩=U (V Y r.now)/\w'.cell? ⟨d,1,UB⟩=U (V Y r.given)/\(∀ o,w'.frozen? ⟨d,o,UB⟩=UD)/\c d=U .desk/\∀ o,w'.cell? ⟨d,o,UB⟩=w.cell? ⟨d,o,UB⟩:=by
 have m:=st.lJ (h.lt d _ h.dc) h.dc g;exact⟨st.qv h.dc g h.c0,st.qv h.dc g h.c1,fun o=>(Wk (w:=w) m).trans (h.fz o),st.ji d _ h.dc,fun o=>zo m⟩
theorem DK.sS{S:bO->Prop}{r:Raw}{g c:Uw->Uu bO}(h:DK w d r g)(st:Step S B g c w w')(q:w'.cell? (d,2)=w.cell? (d,2))(o:¬ S .mt):∃ m f,w'.cell? (d,2)=U (.map (U m))/\c m=U .mt/\gO prog 9 w' m r.tg.length f r.tg.length/\∀ name,f (oV name)=mh r.tg name:=by
 let⟨m,f,a1,a2,a3,a4⟩:=h.mt;exact⟨m,f,q.trans a1,st.ji m _ a2,a3.block (st.lJ (h.lt m _ a2) a2 o),a4⟩
theorem DK.uk{S:bO->Prop}{r:Raw}{g c:Uw->Uu bO}(h:DK w d r g)(st:Step S B g c w w')(q:w'.cell? (d,3)=w.cell? (d,3))(o:¬ S .me):∃ m f,w'.cell? (d,3)=U (.map (U m))/\c m=U .me/\gO prog 3 w' m r.eg.length f r.eg.length/\∀ id,f (lM id)=jc r.eg id:=by
 let⟨m,f,a1,a2,a3,a4⟩:=h.me;exact⟨m,f,q.trans a1,st.ji m _ a2,a3.block (st.lJ (h.lt m _ a2) a2 o),a4⟩
theorem DK.sO{S:bO->Prop}{r:Raw}{f c:Uw->Uu bO}(h:DK w d r f)(st:Step S B f c w w')(o:w'.cell? (d,4)=w.cell? (d,4))(m:¬ S .wa):∃ v,w'.cell? (d,4)=U v/\w'.ownsRow 0 194 1 v r.wl.length (r.wl.map jX)/\∀ b,v.ownBlock=U b->c b=U .wa:=by
 let⟨v,a1,a2,a3⟩:=h.wa;let⟨G,k,hG⟩:=st.left;exact⟨v,o.trans a1,dL a2 k (fun b g=>hG b (.inl ⟨_,a3 b g,m⟩)),fun b g=>st.ji b _ (a3 b g)⟩
theorem DK.sT{S:bO->Prop}{r:Raw}{g f:Uw->Uu bO}(h:DK w d r g)(st:Step S B g f w w')(x:w'.cell? (d,5)=w.cell? (d,5))(q:w'.frozen? (d,5)=UD)(o:¬ S .he):∃ v,HP w' d 5 v r.hl/\∀ b,v.ownBlock=U b->f b=U .he:=by
 let⟨v,a1,a2⟩:=h.he;let⟨G,k,hG⟩:=st.left;exact⟨v,⟨x.trans a1.c,dL a1.own k (fun b m=>hG b (.inl ⟨_,a2 b m,o⟩)),a1.ne,q⟩,fun b m=>st.ji b _ (a2 b m)⟩
theorem DK.rN{S:bO->Prop}{r:Raw}{f c:Uw->Uu bO}(h:DK w d r f)(st:Step S B f c w w')(i:Uw)(z:i<r.tg.length)(y:¬ S (.bH i)):∃ q o m g,TH w' r.tg[i].tb r.tg[i].name r.tg[i].aN r.tg[i].A r.tg[i].T q o m g/\∀ k∈r.tg[i].tb :: (m++g),c k=U (.bH i):=by
 let⟨q,o,m,g,a1,a2⟩:=h.th i z;let⟨G,k,hG⟩:=st.left;exact⟨q,o,m,g,a1.off k (fun b x=>hG b (.inl ⟨_,a2 b x,y⟩)),fun b x=>st.ji b _ (a2 b x)⟩
theorem DK.sZ{S:bO->Prop}{r:Raw}{f c:Uw->Uu bO}(h:DK w d r f)(st:Step S B f c w w')(q:¬ S .ent)(m:¬ S .span):∀ g∈r.eg,kv w' g/\c g.eb=U .ent/\c g.B=U .span:=by
 intro g o;let⟨a1,a2,a3⟩:=h.en g o;exact⟨st.vI a1 (.inl ⟨_,a2,q⟩) (.inl ⟨_,a3,m⟩),st.ji _ _ a2,st.ji _ _ a3⟩
theorem DK.bH{r:Raw}{g:Uw->Uu bO}(h:DK w d r g)(i:Uw)(hi:i<r.tg.length)(R:∀ k∈r.tg[i].tb :: F,g k=U (.bH i)){A:J Uv->N}{T:aF.S}(n:iy w w' r.tg[i].tb r.tg[i].name r.tg[i].aN A T F):∃ q,DK w' d (r.eI i (r.tg[i].with A T)) q/\Step (·=.bH i) w g q w w':=by
 obtain⟨ul,X,E,D,H,t2⟩:=n.th;have K:∀ k,w.heap.size<=k->g k=UB:=fun k o=>by
  cases e:g k with
  |none=>rfl
  |some c=>have:=h.lt k c e;omega
 have z:∀ k∈E++D,g k=U (.bH i)\/(g k=UB/\w<=k):=fun k o=>by grind
 have st:Step (·=.bH i) w g (jD g (E++D) (.bH i)) w w':=wO n.off (fun x I=>.inl ⟨_,R x I,rfl⟩) (fun x I e=>by grind);refine⟨_,?_,st⟩;let⟨b1,b2,b3,b4,b5⟩:=h.base st Ui;refine⟨b1,b2,?_,h.uk st (b5 3) Ui,h.sO st (b5 4) Ui,h.sT st (b5 5) (b3 5) Ui,?_,h.sZ st Ui Ui,h.nd,h.ni,b3,b4,?_⟩
 .let⟨m,f,a1,a2,a3,a4⟩:=h.sS st (b5 2) Ui;have e:(r.eI i (r.tg[i].with A T)).tg.length=r.tg.length:=by simp[Raw.eI]
  exact⟨m,f,a1,a2,by rw[e];exact a3,fun name=>by rw[a4];exact (c2c hi A T name).symm⟩
 .intro j hj;have y:j<r.tg.length:=by simpa[Raw.eI] using hj
  by_cases e:j=i
  .subst e;have C:(r.eI j (r.tg[j].with A T)).tg[j]=r.tg[j].with A T:=by simp[Raw.eI]
   rw[C];refine⟨ul,X,E,D,H,fun k o=>?_⟩;rcases Va.1 o with rfl|o
   .exact Fp (R r.tg[j].tb XF)
   .refine wE o (fun c' P=>?_);rcases z k o with e|e
    .rw[P] at e;cases e;rfl
    .rw[P] at e;cases e.1
  .have C:(r.eI i (r.tg[i].with A T)).tg[j]=r.tg[j]:=by simp[Raw.eI,XG e]
   rw[C];exact h.rN st j y (by simpa using e)
 .intro k c o;rcases rI o with W|⟨W,h2,h3⟩
  .exact zL (h.lt k c W) st.size
  .exact H.lt k Uo
structure Fit(t:TG)(e:aA.aQ):Prop where
 ok:qV e.aR
 bd:∀ p,0<=t.A p/\t.A p<=400000
 u1:1<=e.aN
 u2:e.aN<=9
 ll:e.aR.length<=100
theorem DK.pair{r:Raw}{c:Uw->Uu bO}(h:DK w d r c)(i:Uw)(q:i<r.tg.length){g:EG}(x:kv w g)(ht:g.tb=r.tg[i].tb)(z:c g.eb≠U (.bH i))(y:c g.B≠U (.bH i))(f:Fit r.tg[i] g.e):∃ F,Ap w r.tg[i].tb g.eb g.B g.cap r.tg[i].name r.tg[i].aN r.tg[i].A r.tg[i].T F g.e.id g.e.aN g.e.aR/\∀ k∈r.tg[i].tb :: F,c k=U (.bH i):=by
 let⟨ul,us,Fl,Fs,a1,a2⟩:=h.th i q;refine⟨Fl++Fs,⟨⟨ul,us,Fl,Fs,a1,fun k o=>o⟩,by rw[<- ht];exact x.en,fun m=>z (a2 _ m),fun m=>y (a2 _ m),f.ok,f.bd,f.u1,f.u2,f.ll⟩,a2⟩
theorem J6{r:Raw}{f:Uw->Uu bO}(h:DK w d r f)(i:Uw)(o:i<r.tg.length){g:EG}(q:kv w g)(ht:g.tb=r.tg[i].tb)(z:f g.eb≠U (.bH i))(y:f g.B≠U (.bH i))(x:Fit r.tg[i] g.e)(m:mX (dK r.tg[i].A g.e.aR g.e.aN) r.tg[i].aN g.e.aR=UD):UI prog 112 #[g.tb,g.eb] w fun e w'=>e=UW UD/\∃ c,DK w' d r c/\Step (·=.bH i) w f c w w':=by
 let⟨F,p,hF⟩:=h.pair i o q ht z y x;rw[ht];refine aK (Ub w _ _ _ _ _ _ _ _ F _ _ _ p m) fun w' n=>?_;let⟨c,k1,k2⟩:=h.bH i o hF n;refine⟨rfl,c,?_,k2⟩;have e:r.eI i (r.tg[i].with r.tg[i].A r.tg[i].T)=r:=by have C:r.tg[i].with r.tg[i].A r.tg[i].T=r.tg[i]:=rfl;unfold Raw.eI;rw[C,XE]
 rw[e] at k1;exact k1
theorem Lq{r:Raw}{c:Uw->Uu bO}(h:DK w d r c)(i:Uw)(o:i<r.tg.length){g:EG}(x:kv w g)(ht:g.tb=r.tg[i].tb)(C:c g.eb≠U (.bH i))(z:c g.B≠U (.bH i))(y:Fit r.tg[i] g.e)(q:Av r.tg[i].T g.e.id g.e.aR)(m:mX (dK r.tg[i].A g.e.aR g.e.aN) r.tg[i].aN g.e.aR=UE):UI prog 112 #[g.tb,g.eb] w fun e w'=>e=UW UE/\∃ f,DK w' d (r.eI i (r.tg[i].with (dK r.tg[i].A g.e.aR g.e.aN) (jj g.e.id g.eb r.tg[i].T g.e.aR))) f/\Step (·=.bH i) w c f w w':=by
 let⟨F,p,hF⟩:=h.pair i o x ht C z y;rw[ht];refine aK (c2f w _ _ _ _ _ _ _ _ F _ _ _ p q m) fun w' n=>?_;exact⟨rfl,h.bH i o hF n⟩
theorem b3G{r:Raw}{c:Uw->Uu bO}(h:DK w d r c)(i:Uw)(m:i<r.tg.length){g:EG}(x:kv w g)(ht:g.tb=r.tg[i].tb)(D:c g.eb≠U (.bH i))(C:c g.B≠U (.bH i))(y:Fit r.tg[i] g.e)(q:aF.Ord (aF.cT r.tg[i].T))(o:aF.size r.tg[i].T<=9000)(z:∀ p,0<=dK r.tg[i].A g.e.aR (-g.e.aN) p):UI prog 192 #[g.tb,g.eb] w fun e w'=>e=UW (US #[])/\∃ f,DK w' d (r.eI i (r.tg[i].with (dK r.tg[i].A g.e.aR (-g.e.aN)) (lQ g.e.id r.tg[i].T g.e.aR))) f/\Step (·=.bH i) w c f w w':=by
 let⟨F,p,hF⟩:=h.pair i m x ht D C y;rw[ht];refine aK (b4K w _ _ _ _ _ _ _ _ F _ _ _ p q o z) fun w' n=>?_;exact⟨rfl,h.bH i m hF n⟩
theorem DK.heap{r:Raw}{f:Uw->Uu bO}(h:DK w d r f)(q:∀ b,v.ownBlock=U b->f b=U .he){A:J Hp.Hi}(p:nG w d 5 v A w'):∃ g,DK w' d { r with hl:=A } g/\Step (fun c=>c=.he\/c=.desk) w f g w w':=by
 let⟨v',p1,p2,p3,p4,p5⟩:=p;have st:Step (fun c=>c=.he\/c=.desk) w f (jD f v'.ownBlock.toList .he) w w':=by
  refine wO p3 (fun x m=>?_) (fun x m e=>?_)
  .rcases Va.1 m with rfl|m
   .exact .inl ⟨_,h.dc,.inr rfl⟩
   .exact .inl ⟨_,q x (Wn.1 m),.inl rfl⟩
  .rcases p2 x (Wn.1 m) with z|z
   .rw[q x z] at e;cases e
   .exact z
 refine⟨_,?_,st⟩;refine⟨(p4 0 O).trans h.c0,(p4 1 O).trans h.c1,h.sS st (p4 2 O) Ui,h.uk st (p4 3 O) Ui,h.sO st (p4 4 O) Ui,⟨v',p1,fun b C=>?_⟩,fun i H=>h.rN st i H Ui,h.sZ st Ui Ui,h.nd,h.ni,fun o=>(p5 o).trans (h.fz o),st.ji d _ h.dc,fun k c E=>?_⟩
 .refine wE (Wn.2 C) (fun P y=>?_);rcases p2 b C with e|e
  .rw[q b e] at y;cases y;rfl
  .have:=h.lt b _ y;omega
 .rcases rI E with D|⟨D,I,K⟩
  .exact zL (h.lt k c D) st.size
  .have:=p1.own.lt k (Wn.1 I);exact this.2
theorem DK.pV{r:Raw}{f:Uw->Uu bO}(h:DK w d r f)(n:N):DK (w.setCell (d,0) n) d { r with now:=n } f/\Step (·=.desk) w f f w (w.setCell (d,0) n):=by have st:Step (·=.desk) w f f w (w.setCell (d,0) n):=⟨⟨[d],aH.bM ..,fun x m=>.inl ⟨_,by simp at m;subst m;exact h.dc,rfl⟩⟩,fun _ _ h=>h,fun _ _ h=>.inl h⟩;have g:∀ o,o≠0->(w.setCell (d,0) n).cell? (d,o)=w.cell? (d,o):=fun o g=>bC Uo;exact⟨⟨zm _ _ _ h.c0,(g 1 O).trans h.c1,h.sS st (g 2 O) Ui,h.uk st (g 3 O) Ui,h.sO st (g 4 O) Ui,h.sT st (g 5 O) ((zF ..).trans (h.fz 5)) Ui,fun i y=>h.rN st i y Ui,h.sZ st Ui Ui,h.nd,h.ni,fun o=>(zF ..).trans (h.fz o),h.dc,fun k c q=>zL (h.lt k c q) st.size⟩,st⟩
theorem DK.pW{r:Raw}{f:Uw->Uu bO}(h:DK w d r f)(n:N):DK (w.setCell (d,1) n) d { r with given:=n } f/\Step (·=.desk) w f f w (w.setCell (d,1) n):=by have st:Step (·=.desk) w f f w (w.setCell (d,1) n):=⟨⟨[d],aH.bM ..,fun x m=>.inl ⟨_,by simp at m;subst m;exact h.dc,rfl⟩⟩,fun _ _ h=>h,fun _ _ h=>.inl h⟩;have g:∀ o,o≠1->(w.setCell (d,1) n).cell? (d,o)=w.cell? (d,o):=fun o g=>bC Uo;exact⟨⟨(g 0 O).trans h.c0,Ve _ _ _ h.c1,h.sS st (g 2 O) Ui,h.uk st (g 3 O) Ui,h.sO st (g 4 O) Ui,h.sT st (g 5 O) ((zF ..).trans (h.fz 5)) Ui,fun i y=>h.rN st i y Ui,h.sZ st Ui Ui,h.nd,h.ni,fun o=>(zF ..).trans (h.fz o),h.dc,fun k c q=>zL (h.lt k c q) st.size⟩,st⟩
theorem DK.lC{r:Raw}{g:Uw->Uu bO}(h:DK w d r g)(C:∀ b,v.ownBlock=U b->g b=U .wa){wl':J Uw}(k:aH v.ownBlock.toList w w1)(D:w1.ownsRow 0 194 1 v' wl'.length (wl'.map jX))(A:∀ b,v'.ownBlock=U b->v.ownBlock=U b\/w<=b):∃ m,DK (w1.setCell (d,4) v') d { r with wl:=wl' } m/\Step (fun c=>c=.wa\/c=.desk) w g m w (w1.setCell (d,4) v'):=by
 have H:d ∉ v.ownBlock.toList:=fun e=>by have:=C d (Wn.1 e);rw[h.dc] at this;cases this
 have I:=h.lt d _ h.dc;have q:w1.heap[d]?=w.heap[d]?:=k.block d I H;have S:aH (d :: v.ownBlock.toList) w (w1.setCell (d,4) v'):=(k.mono Uo).setCell (.inl Ui) _ _;have st:Step (fun c=>c=.wa\/c=.desk) w g (jD g v'.ownBlock.toList .wa) w (w1.setCell (d,4) v'):=by
  refine wO S (fun x y=>?_) (fun x y e=>?_)
  .rcases Va.1 y with rfl|y
   .exact .inl ⟨_,h.dc,.inr rfl⟩
   .exact .inl ⟨_,C x (Wn.1 y),.inl rfl⟩
  .rcases A x (Wn.1 y) with P|P
   .rw[C x P] at e;cases e
   .exact P
 have f:∀ o,o≠4->(w1.setCell (d,4) v').cell? (d,o)=w.cell? (d,o):=fun o D=>(bC (by have:=D;simp)).trans (zo q);have z:∀ o,(w1.setCell ⟨d,4,UB⟩ v').frozen? ⟨d,o,UB⟩=w.frozen? ⟨d,o,UB⟩:=fun o=>(zF ..).trans (Wk q);let⟨v0,c4,_⟩:=h.wa;have T:∀ b,v'.ownBlock=U b->b≠d:=fun b E e=>by grind
 refine⟨_,⟨(f 0 O).trans h.c0,(f 1 O).trans h.c1,h.sS st (f 2 O) Ui,h.uk st (f 3 O) Ui,⟨v',Ve _ _ _ ((zo (w:=w) q).trans c4),dL D (aH.bM d _ 4 _) (fun b E=>by grind),fun b E=>?_⟩,h.sT st (f 5 O) ((z 5).trans (h.fz 5)) Ui,fun i X=>h.rN st i X Ui,h.sZ st Ui Ui,h.nd,h.ni,fun o=>(z o).trans (h.fz o),st.ji d _ h.dc,fun x c W=>?_⟩,st⟩
 .refine wE (Wn.2 E) (fun c' K=>?_);rcases A b E with e|e
  .rw[C b e] at K;cases K;rfl
  .have:=h.lt b _ K;omega
 .rcases rI W with R|⟨R,h2,h3⟩
  .exact zL (h.lt x c R) st.size
  .have:=D.lt x (Wn.1 h2)
   simpa using this.2
def gQ(id kind bY:N)(c:J EG):J EG:=c.map fun g=>if g.e.id=id then { g with e:={ g.e with kind:=kind,bY:=bY } } else g
theorem c2o(id c f:N)(h:J EG):(gQ id c f h).map (·.eb)=h.map (·.eb):=by unfold gQ;rw[XH];apply XI;intro g _;simp only[XJ];split <;> rfl
theorem c2n(id c f:N)(h:J EG):(gQ id c f h).map (·.e.id)=h.map (·.e.id):=by unfold gQ;rw[XH];apply XI;intro g _;simp only[XJ];split <;> rfl
theorem KC(id c f:N)(h:J EG)(x:N):jc (gQ id c f h) x=jc h x:=by
 have e:(gQ id c f h).map (fun g=>(g.e.id,g.eb))=h.map fun g=>(g.e.id,g.eb):=by unfold gQ;rw[XH];apply XI;intro g _;simp only[XJ];split <;> rfl
 unfold jc;rw[e]
theorem b9y(id c f:N)(g:J EG):(gQ id c f g).length=g.length:=by unfold gQ;simp
theorem qL{α β:Type}(f:α->β):∀ {l:J α},(l.map f).Nodup->∀ {x y:α},x∈l->y∈l->f x=f y->x=y
 |[],_,_,_,hx,_,_=>by grind
 |a :: l,h,x,y,hx,hy,e=>by
  rw[Xl,Vd] at h;rcases Va.1 hx with o|g <;> rcases Va.1 hy with m|c
  .rw[o,m]
  .exact UA (VQ.2 ⟨y,c,by grind⟩) h.1
  .exact UA (VQ.2 ⟨x,g,by rw[e,m]⟩) h.1
  .exact qL f h.2 g c e
theorem DK.ue{r:Raw}{z:Uw->Uu bO}(h:DK w d r z){g:EG}(E:g∈r.eg)(q A:N):DK ((w.setCell (g.eb,1) q).setCell (g.eb,5) A) d { r with eg:=gQ g.e.id q A r.eg } z/\Step (·=.ent) w z z w ((w.setCell (g.eb,1) q).setCell (g.eb,5) A):=by
 let⟨g1,g2,g3⟩:=h.en g E;have k:aH [g.eb] w ((w.setCell (g.eb,1) q).setCell (g.eb,5) A):=((aH.refl [g.eb] w).setCell (.inl Ui) _ _).setCell (.inl Ui) _ _;have st:Step (·=.ent) w z z w ((w.setCell (g.eb,1) q).setCell (g.eb,5) A):=⟨⟨_,k,fun x C=>.inl ⟨_,by grind,rfl⟩⟩,fun _ _ h=>h,fun _ _ h=>.inl h⟩;let⟨b1,b2,b3,b4,b5⟩:=h.base st Ui;refine⟨⟨b1,b2,h.sS st (b5 2) Ui,?_,h.sO st (b5 4) Ui,h.sT st (b5 5) (b3 5) Ui,fun i I=>h.rN st i I Ui,?_,by rw[c2o];exact h.nd,by rw[c2n];exact h.ni,b3,b4,fun x c C=>zL (h.lt x c C) st.size⟩,st⟩
 .let⟨m,f,a1,a2,a3,a4⟩:=h.uk st (b5 3) Ui;exact⟨m,f,a1,a2,by rw[b9y];exact a3,fun id=>by rw[a4,KC]⟩
 .intro x C;obtain⟨y,D,rfl⟩:=VQ.1 C;let⟨y1,y2,y3⟩:=h.en y D
  by_cases e:y.e.id=g.e.id
  .have:y=g:=qL _ h.ni D E e;subst this;rw[Uz rfl];have K:y.B≠y.eb:=fun e=>by grind
   refine⟨⟨⟨?_,?_,?_,?_,y1.en.sl.off k Uo,VP y1.en.lt k.size⟩,?_,?_,fun o=>?_,?_⟩,y2,y3⟩
   .exact (bC Ui).trans ((bC Ui).trans y1.en.c0)
   .exact (bC Ui).trans ((bC Ui).trans y1.en.c1)
   .exact (bC Ui).trans ((bC Ui).trans y1.en.c2)
   .exact (bC Ui).trans ((bC Ui).trans y1.en.c3)
   .exact (bC Ui).trans (zm _ _ _ y1.k)
   .exact zm _ _ _ ((bC Ui).trans y1.u)
   .exact (zF ..).trans ((zF ..).trans (y1.fz o))
   .let⟨cs,e⟩:=y1.bl;exact⟨_,heap_setCell_same _ _ _ _ _ _ (heap_setCell_same _ _ _ _ _ _ e)⟩
  .rw[Uy e];have H:y.eb≠g.eb:=fun P=>e (by rw[qL _ h.nd D E P])
   have K:y.B≠g.eb:=fun e=>by grind
   exact⟨y1.off k Uo Uo,y2,y3⟩
def gF(id:N)(c:J EG):J EG:=c.filter fun g=>g.e.id != id
theorem qJ{c:J EG}:jc c id=((c.find? fun g=>decide (g.e.id=id)).map (·.eb)):=by
 unfold jc;rw[XK]
 cases h:c.find? ((fun p=>decide (p.1=id)) ∘ fun g=>(g.e.id,g.eb)) with
 |none=>have f:c.find? (fun g=>decide (g.e.id=id))=UB:=h;rw[f];rfl
 |some g=>have f:c.find? (fun g=>decide (g.e.id=id))=U g:=h;rw[f];rfl
theorem Lr{c:J EG}(m:(c.map (·.e.id)).Nodup){g:EG}(f:g∈c):jc c g.e.id=U g.eb:=by
 rw[qJ]
 cases h:c.find? fun x=>decide (x.e.id=g.e.id) with
 |none =>have:=XL.1 h g f;simp at this
 |some x =>have o:=XM h;have q:=XN h;have:x=g:=qL _ m o f Uo;rw[this];rfl
theorem Fw{c:J EG}(h:∀ g∈c,g.e.id≠id):jc c id=UB:=by rw[qJ];have:c.find? (fun g=>decide (g.e.id=id))=UB:=XL.2 (fun g f=>by grind);rw[this];rfl
theorem Et{c:J EG}{b:Uw}(h:jc c id=U b):∃ g∈c,g.e.id=id/\g.eb=b:=by
 rw[qJ] at h
 cases e:c.find? fun x=>decide (x.e.id=id) with
 |none=>rw[e] at h;cases h
 |some x =>rw[e] at h;refine⟨x,XM e,by simpa using XN e,by grind⟩
theorem J7{c:J EG}(h:jc c id=UB):∀ g∈c,g.e.id≠id:=by
 rw[qJ] at h;intro g m e
 cases f:c.find? fun x=>decide (x.e.id=id) with
 |none =>have:=XL.1 f g m;simp[e] at this
 |some x=>rw[f] at h;cases h
theorem Kr{eg:J EG}(m:(eg.map (·.e.id)).Nodup)(id x:N):jc (gF id eg) x=if x=id then UB else jc eg x:=by
 by_cases e:x=id
 .subst e;rw[Uz rfl];exact Fw (fun g c=>by simpa using (Xb.1 c).2)
 .rw[Uy e]
  cases h:jc eg x with
  |none=>exact Fw (fun g c=>J7 h g ((Xb.1 c).1))
  |some b =>let⟨g,c,e1,e2⟩:=Et h;have f:((gF id eg).map (·.e.id)).Nodup:=Vs (Xv.map _) m;have o:g∈gF id eg:=Xb.2 ⟨c,by grind⟩;rw[<- e1,Lr f o,e2]
theorem c0A{eg:J EG}(f:(eg.map (·.e.id)).Nodup)(id:N):(gF id eg).length=eg.length-if (jc eg id).isSome then 1 else 0:=by
 induction eg with
 |nil=>simp[gF]
 |cons g eg ih =>
  rw[Xl,Vd] at f;have ih:=ih f.2;by_cases e:g.e.id=id
  .have q:∀ x∈eg,x.e.id≠id:=fun x o c=>f.1 (VQ.2 ⟨x,o,by rw[e,c]⟩)
   have m:gF id (g :: eg)=eg:=by unfold gF;rw[Vp,Uy (by simp[e])];exact Xc.2 (fun x o=>by grind)
   have c:(jc (g :: eg) id).isSome=UE:=by rw[qJ,XP];simp[e]
   rw[m,c];simp
  .have m:gF id (g :: eg)=g :: gF id eg:=by unfold gF;rw[Vp,Uz Uo]
   have c:jc (g :: eg) id=jc eg id:=by rw[qJ,qJ,XP];simp[e]
   rw[m,c,VB,VB,ih];have:(if (jc eg id).isSome then 1 else 0)<=eg.length:=by
    split
    .rename_i h
     cases eg with
     |nil=>rw[qJ] at h;simp at h
     |cons _ _=>simp
    .omega
   omega
theorem DK.xL{r:Raw}{o:Uw->Uu bO}(h:DK w d r o){m:Uw}{f:Lit->Uu Uw}(E:w.cell? ⟨d,3,UB⟩=U (.map (U m)))(A:o m=U .me)(C:∀ id,f (lM id)=jc r.eg id)(id:N)(p:gO prog 3 w' m r.eg.length (Go.Proofs.YtolaacmheeaadaaGreatDoor.nI f (lM id) UB) (r.eg.length-if (f (lM id)).isSome then 1 else 0))(q:w.grownBy w' (U m)):DK w' d { r with eg:=gF id r.eg } o/\Step (·=.me) w.heap.size o o w w':=by
 have k:aH [m] w w':=⟨q.os,q.tape,q.output,q.size,fun i z D=>q.block i z (bZ D)⟩;have st:Step (·=.me) w o o w w':=⟨⟨_,k,fun x y=>.inl ⟨_,by simp at y;subst y;exact A,rfl⟩⟩,fun _ _ h=>h,fun _ _ h=>.inl h⟩;let⟨b1,b2,b3,b4,b5⟩:=h.base st Ui;refine⟨⟨b1,b2,h.sS st (b5 2) Ui,⟨m,nI f (lM id) UB,(b5 3).trans E,A,?_,fun x=>?_⟩,h.sO st (b5 4) Ui,h.sT st (b5 5) (b3 5) Ui,fun i z=>h.rN st i z Ui,fun g q=>h.sZ st Ui Ui g ((Xb.1 q).1),Vs (Xv.map _) h.nd,Vs (Xv.map _) h.ni,b3,b4,fun x c y=>zL (h.lt x c y) st.size⟩,st⟩
 .have e:=c0A h.ni id;rw[C] at p;show gO _ _ _ _ (gF id r.eg).length _ (gF id r.eg).length;rw[e];exact p.tight
 .show nI f (lM id) UB (lM x)=jc (gF id r.eg) x;rw[Kr h.ni]
  by_cases e:x=id
  .rw[e,vo,Uz rfl]
  .rw[vt f _ (fun H=>e (Kt H)),Uy e,C]
theorem KG{c:J EG}{g:EG}(f:∀ x∈c,x.e.id≠g.e.id)(x:N):jc (c++[g]) x=if x=g.e.id then U g.eb else jc c x:=by
 by_cases e:x=g.e.id
 .rw[Uz e,qJ,XQ];have:c.find? (fun y=>decide (y.e.id=x))=UB:=XL.2 (fun y m=>by grind);rw[this];simp[e]
 .rw[Uy e,qJ,qJ,XQ]
  cases h:c.find? fun y=>decide (y.e.id=x) with
  |none=>simp[XG e]
  |some y=>simp
theorem vq{c:J TG}:mh c name=((c.find? fun t=>aA.dI t.name name).map (·.tb)):=by
 unfold mh;rw[XK]
 cases h:c.find? ((fun p=>aA.dI p.1 name) ∘ fun t=>(t.name,t.tb)) with
 |none=>have f:c.find? (fun t=>aA.dI t.name name)=UB:=h;rw[f];rfl
 |some g=>have f:c.find? (fun t=>aA.dI t.name name)=U g:=h;rw[f];rfl
theorem b9k{c:J TG}{t:TG}(f:∀ x∈c,x.name≠t.name)(name:Us):mh (c++[t]) name=@ite _ (name=t.name) (XC _) (U t.tb) (mh c name):=by
 by_cases e:name=t.name
 .rw[Uz e,vq,XQ];have:c.find? (fun y=>aA.dI y.name name)=UB:=XL.2 (fun y g=>by rw[Bool.not_eq_true,sL,e];exact f y g);rw[this];have:aA.dI t.name name=UE:=vk.2 e.symm;simp[this]
 .rw[Uy e,vq,vq,XQ]
  cases h:c.find? fun y=>aA.dI y.name name with
  |none =>have:aA.dI t.name name=UD:=sL.2 (XG e);simp[this]
  |some y=>simp
theorem Lo{r:Raw}{m:Uw->Uu bO}(h:DK w d r m)(y:Hp.iP r.hl)(hl:r.hl.length<=1000)(t n:N)(q:∃ x∈r.hl,x.t=t/\x.n=n):UI prog 154 #[UM (U ⟨d,5,UB⟩),t,n] w fun e w'=>e=UW (US #[])/\∃ (x:Hp.Hi) (g:J Hp.Hi) (f:Uw->Uu bO),x.t=t/\x.n=n/\Hp.iP g/\r.hl.Perm (x :: g)/\DK w' d { r with hl:=g } f/\Step (fun c=>c=.he\/c=.desk) w m f w w':=by
 let⟨v,a1,a2⟩:=h.he;refine aK (c0G d 5 v r.hl t n w a1 y hl) fun w' o=>?_;refine⟨rfl,?_⟩;rcases o with ⟨o,_⟩|⟨x,g,D,C,p,A,z⟩
 .let⟨x,hx1,hx2⟩:=q;exact UA hx2 (o x hx1)
 .let⟨f,k1,k2⟩:=h.heap a2 p;exact⟨x,g,f,D,C,A,z,k1,k2⟩
def AU(c:bO):Prop:=c=.he\/c=.desk\/c=.ent
def FO(w:UF)(d:Uw)(r:Raw)(h:Uw->Uu bO)(g:EG)(w':UF):Prop :=∃ (x:Hp.Hi) (f:J Hp.Hi) (c:Uw->Uu bO),x.t=g.e.bY/\x.n=g.e.id/\Hp.iP f/\r.hl.Perm (x :: f)/\DK w' d { r with eg:=gQ g.e.id 1 0 r.eg,hl:=f } c/\Step AU w h c w w'
theorem LZ{r:Raw}{m:Uw->Uu bO}(h:DK w d r m)(X:Hp.iP r.hl)(W:r.hl.length<=1000){g:EG}(I:g∈r.eg)(T:∃ x∈r.hl,x.t=g.e.bY/\x.n=g.e.id):UI prog 113 #[d,g.eb] w fun e w'=>e=UW (US #[])/\FO w d r m g w':=by
 let⟨g1,g2,g3⟩:=h.en g I;have P:=g1.en.c0;have K:=g1.u;have R:=aB (fun wx (k:UH w w wx)=>Lo (h.later k) X W g.e.bY g.e.id T);have D:=aB (Vf I g2);clear h g3;go_in;go_upto_region 0 with fail;go_region_held3 (fun w'=>w'.cell? (g.eb,0)=U ↑g.e.id/\w'.cell? (g.eb,5)=U ↑g.e.bY)
  (first
   |exact⟨P,K⟩
   |exact⟨((o.en g D.1).1).en.c0,((o.en g D.1).1).u⟩)
  (first
   |(go_at_call 154;refine aK (R _ (eN w)) ?_;rintro w4 ⟨x,S,f,C,A,z,y,o,q⟩))
 let⟨q1,q2,q3⟩:=o.en g D.1;have d1:=q1.k;have d5:=q1.u;have f1:=q1.fz 1;have f5:=q1.fz 5;have SE:=aB (o.ue (g:=g) D.1 1 0);have KK:=aB (Vf C (Vf A (Vf z (Vf y q))));clear q1 q2 q3 C A z y o q R P K;go_wp21;go_end0;let⟨C,A,z,y,q⟩:=KK;let⟨s1,s2⟩:=SE;refine⟨rfl,(⟨x,S,f,C,A,z,y,s1,?_⟩:FO _ _ _ _ _ _)⟩;have H:Step AU w m f w w4:=(Step.below (eN w)).trans (q.mono (fun c E=>by unfold AU;rcases E with e|e;exact .inl e;exact .inr (.inl e)) aJ);exact H.trans (s2.mono (fun c E=>.inr (.inr E)) H.size)
theorem b3r(eb:Uw)(f:N)(w:UF)(c:w.cell? (eb,1)=U ↑f):UI prog 115 #[eb] w fun e w'=>e=UW (f==1)/\w'=w:=by
 go_in;go_wp21;go_ret;exact⟨rfl,rfl⟩
theorem Jj:(prog.info? 197).map (fun i=>i.size)=U 6:=Um
theorem SG(w:UF)(a b:Uw)(g:∃ cs,w.heap[a]?=U (UX cs 197 (0,0)))(f:∃ cs,w.heap[b]?=U (UX cs 197 (0,0))):(binOp .eql 194 b a).run prog w=.ok (b==a) w:=by
 obtain⟨j,c⟩:∃ j,prog.info? 197=U j:=by
  cases h:prog.info? 197 with
  |none=>have:=Jj;rw[h] at this;cases this
  |some j=>exact⟨j,rfl⟩
 have m:j.size≠0:=by have:=Jj;rw[c] at this;simp at this;omega
 by_cases e:b=a;subst e;rw[run_eql_ptr_same w _ underlying194 c];simp;obtain⟨o,g⟩:=g;obtain⟨cb,f⟩:=f;rw[run_eql_ptr_other w (a:=⟨b,0,UB⟩) (b:=⟨a,0,UB⟩) underlying194 c m (by have:=e;simp) f g];simp[e]
theorem b8j(A a b:Uw)(w:UF)(c:w.cell? (A,0)=U ↑a)(g:∃ cs,w.heap[a]?=U (UX cs 197 (0,0)))(f:∃ cs,w.heap[b]?=U (UX cs 197 (0,0))):UI prog 193 #[b,A] w fun e w'=>e=UW (b==a)/\w'=w:=by
 have h:=SG w a b g f;clear g f;go_in;go_wp21;go_ret;exact⟨rfl,rfl⟩
theorem b6j{c:Uw}{e:TypeId}{g:Uw}(h:w.ownsRow c e 1 (UO g n cap) n xs)(D:i<=n):w.ownsRow c e 1 (UO g i cap) i (xs.take i):=by
 let⟨h1,h2⟩:=h;refine⟨by grind,?_⟩;rcases h2 with ⟨A,_⟩|⟨E,r,q,x,z,y,C,m,o,f⟩
 .cases A
 .cases x
  refine .inr ⟨g,cap,q,rfl,z,y,O,m,o,?_⟩;rw[<- f,List.take_take];congr 1;omega
theorem M8{c:Uw}{e:TypeId}{g n cap:Uw}{xs:J UG}:∀ (f:J UG)(o:Uw)(w:UF),n<=o->w.ownsRow c e 1 (UO g n cap) n xs->(w.setCells g o f).ownsRow c e 1 (UO g n cap) n xs
 |[],_,_,_,h=>h
 |v :: r,o,w,ho,h=>by refine M8 r (o+1) _ O ?_;have:=(h.stored o v).1;rwa [List.set_eq_of_length_le (by have:=h.1;omega)] at this
theorem M1{g:Uw}:∀ (c:J UG)(o:Uw)(w:UF),aH [g] w (w.setCells g o c)
 |[],_,_=>aH.refl _ _
 |v :: r,o,w=>(aH.bM g w o v).trans (M1 r (o+1) _)
structure rm(L:J Uw)(p:Uw->Uv)(i j:Uw)(M:J Uw):Prop where
 len:M.length=L.length
 ij:i<j
 jl:j<=L.length
 lo:M.take i=(L.take j).filter fun b=>!p b
 hi:∀ k,j<=k->M[k]?=L[k]?
theorem rm.skip{L:J Uw}(h:rm L p i j M)(f:j<L.length)(c:p L[j]=UE):rm L p i (j+1) M:=by refine⟨h.len,by have:=h.ij;omega,O,?_,fun k g=>h.hi k O⟩;rw[h.lo,VL f,Vo];simp[c]
theorem rm.ji{L:J Uw}(h:rm L p i j M)(f:j<L.length)(c:p L[j]=UD):rm L p (i+1) (j+1) (M.set i L[j]):=by
 have g:=h.ij;have m:=h.len;refine⟨by grind,O,O,?_,fun k o=>?_⟩
 .rw[VL f,Vo,<- h.lo,VL Uo,List.take_set_of_le aJ];simp[c]
 .rw[List.getElem?_set_ne O];exact h.hi k O
theorem rm.new{L:J Uw}(g:k<L.length)(f:p L[k]=UE)(o:∀ (j:Uw)(h:j<k),p (L[j]'Uh)=UD):rm L p k (k+1) L:=by refine⟨rfl,O,O,?_,fun _ _=>rfl⟩;rw[VL g,Vo];simp only[f,Vp,U6,U7,if_false,List.filter_nil,Xu];refine (Xc.2 (fun b m=>?_)).symm;obtain⟨j,h,rfl⟩:=Xs m;have c:j<k:=Uo;simp[o j c]
def Gw(fn:Uw)(cs:J UG):Prop:=(fn=115/\cs=[])\/(fn=193/\∃ A:Uw,cs=[UM (U ⟨A,0,UB⟩)])
def GD(fn:Uw)(cs:J UG)(w:UF)(L:J Uw)(p:Uw->Uv):Prop :=∀ b∈L,UI prog fn (UM (U ⟨b,0,UB⟩) :: cs).toArray w fun e w'=>e=UW (p b)/\w'=w
theorem OU(K:Gw fn cs)(L:J Uw)(p:Uw->Uv)(v:UG)(w:UF)(ht:GD fn cs w L p)(own:w.ownsRow 0 194 1 v L.length (L.map jX))(R:L.length<=1000):UI prog 165 #[v,.func (.func fn) #[] cs.toArray] w fun e w'=>e=UW (V Y (gn p L 0))/\w'=w:=by
 have E:∃ a cap,v=UO a L.length cap:=by
  rcases own.2 with ⟨rfl,h⟩|⟨g,cap,_,rfl,_⟩
  .rw[h];exact⟨_,_,rfl⟩
  .exact⟨_,_,rfl⟩
 obtain⟨a,cap,rfl⟩:=E;have q:=aB own;have P:=aB ht;clear own ht;rcases K with ⟨rfl,rfl⟩|⟨rfl,A,rfl⟩;all_goals
  go_in;go_wp21;go_loop [8] (fun i=>∃ k:Uw,k<=L.length/\i=V Y k/\gn p L 0=gn p (L.drop k) k) (fun i=>L.length-(intOf i).toNat)
  .exact⟨0,VM _,rfl,rfl⟩
  .obtain⟨j,S,rfl,z⟩:=hrel;have y:=aB z;clear z
   by_cases c:j<L.length
   .have I:(j:N)<(L.length:N):=O
    let⟨H,cap',e1⟩:=XR q O;simp only[XS,true_and] at e1;obtain⟨rfl,rfl⟩:=e1;have x:=q.cellAt j O;rw[XT,Wx c,XU] at x;unfold jX at x;have m:=aB (P L[j] (zg c));have C:gn p (L.drop j) j=if p L[j] then (j:N) else gn p (L.drop (j+1)) ((j+1:Uw):N):=by rw[Wh c];rfl
    have D:=aB C;clear C
    cases f:p L[j]
    .have r:Hid (gn p L 0=gn p (L.drop (j+1)) ((j+1:Uw):N)):=by show _=_;rw[y,D,f];rfl
     rw[f] at m;clear f;go_wp21;refine m.mono ?_;rintro e w1 ⟨rfl,o⟩;rw[o];clear x m o;go_wp21;go_round
     .exact⟨j+1,O,by go_num,r⟩
     .simp[intOf];omega
    .have r:Hid (gn p L 0=j):=by show _=_;rw[y,D,f];rfl
     rw[f] at m;clear f;go_wp21;refine m.mono ?_;rintro e w1 ⟨rfl,o⟩;rw[o];clear x m o;go_wp21;go_ret;exact⟨jy r.symm,rfl⟩
   .have I:¬ (j:N)<(L.length:N):=O
    have e:L.drop j=[]:=Wi O;have r:Hid (gn p L 0=-1):=by show _=_;rw[y,e];rfl
    clear e;go_wp21;go_ret;exact⟨jy r.symm,rfl⟩
theorem GG(T:Gw fn cs)(L:J Uw)(p:Uw->Uv)(v:UG)(w:UF)(ht:∀ wx,aH v.ownBlock.toList w wx->GD fn cs wx L p)(own:w.ownsRow 0 194 1 v L.length (L.map jX))(hl:L.length<=1000):UI prog 114 #[v,.func (.func fn) #[] cs.toArray] w fun e w'=>∃ v',e=UW v'/\aH v.ownBlock.toList w w'/\w'.ownsRow 0 194 1 v' (L.filter fun b=>!p b).length ((L.filter fun b=>!p b).map jX)/\v'.ownBlock=v.ownBlock:=by
 have P:=aB (OU T L p v w (ht w (aH.refl _ _)) own hl);have g:=yG p L 0;rcases T with ⟨rfl,rfl⟩|⟨rfl,A,rfl⟩;all_goals
  go_in;go_wp21;refine P.mono ?_;rintro e w1 ⟨rfl,rfl⟩;rcases g with ⟨o,m⟩|⟨k,hk,o,m,X⟩
  .rw[o];have W:(L.filter fun b=>!p b)=L:=Xc.2 (fun b hb=>by simp[m b hb]);have D:Hid (w1.ownsRow 0 194 1 v (L.filter fun b=>!p b).length ((L.filter fun b=>!p b).map jX)):=by show w1.ownsRow _ _ _ _ _ _;rw[W];exact own
   clear o m W P ht own;go_wp21;go_ret;exact⟨v,rfl,aH.refl _ _,D,rfl⟩
  .have x:0<L.length:=O
   obtain⟨H,cap,K⟩:=XR own x;subst K;rw[o,Int.zero_add];have D0:=aB (rm.new hk m X);have C:=aB own;have HT:=aB ht;have w3:Y.wrap ((k:N)+1)=((k+1:Uw):N):=by rw[dJ O O];omega
   have ab:((k:N)==-1)=UD:=Ui;clear o m X P ht own;go_wp21;go_loopw [5,6,7] (fun vi E _ wx=>∃ (i j:Uw) (M:J Uw),vi=V Y i/\E=V Y j/\rm L p i j M/\aH [H] w1 wx/\wx.ownsRow 0 194 1 (UO H L.length cap) L.length (M.map jX)) (fun _ E _ _=>L.length-(intOf E).toNat)
   .exact⟨k,k+1,L,rfl,rfl,D0,aH.refl _ _,C⟩
   .obtain⟨i,j,M,rfl,rfl,h,y,c⟩:=hrel;have ae:=h.ij;have ad:=h.jl;have ac:=h.len;have q:=aB (Vf h (Vf y c))
    by_cases f:j<L.length
    .have hj:(j:N)<(L.length:N):=O
     have hi:(i:N)<(L.length:N):=O;have a0:=c.cellAt j O;rw[XT,h.hi j aJ,Wx f,XU] at a0;have b0:=c.cellAt i O;rw[XT,Wx O,XU] at b0;have f0:=c.frozenAt i;unfold jX at a0 b0;have r:=aB (HT wr y L[j] (zg f));have wi:Y.wrap ((i:N)+1)=((i+1:Uw):N):=by rw[dJ O O];omega
     have wj:Y.wrap ((j:N)+1)=((j+1:Uw):N):=by rw[dJ O O];omega
     clear y h
     cases g:p L[j]
     .have R:=aB (q.1.ji f g);have WN:=aB ((c.stored i (jX L[j])).1);have ON:=aB (q.2.1.trans (aH.bM H wr i (jX L[j])));rw[g] at r;unfold jX at WN ON;clear g c
      go_wp21;refine r.mono ?_;rintro e w2 ⟨rfl,c⟩;rw[c];clear r c;go_wp21;go_roundw
      .exact⟨i+1,j+1,M.set i L[j],rfl,rfl,R,ON,by rw[XD];exact WN⟩
      .simp[intOf];omega
     .have R:=aB (q.1.skip f g);rw[g] at r;clear g c
      go_wp21;refine r.mono ?_;rintro e w2 ⟨rfl,c⟩;rw[c];clear r c;go_wp21;go_roundw
      .exact⟨i,j+1,M,rfl,rfl,R,q.2.1,q.2.2⟩
      .simp[intOf];omega
    .have hj:¬ ((j:N)<(L.length:N)):=O
     have z:j=L.length:=O;have S:L.length<=cap:=by
      rcases c.2 with ⟨h0,_⟩|⟨g',aa,aj,K,_,_,h1,_⟩
      .cases h0
      .cases K;exact h1
     have ai:∀ I,(Builtin.clear_ #[88] I #[UO (U ⟨H,i,UB⟩) (L.length-i) (cap-i)]).run prog wr=.ok (US #[]) (wr.setCells H i (XV (L.length-i) (UM UB))) :=fun I=>Lib.run_clear_slice wr _ _ I (UM UB) underlying88 (fun w=>by simp[go_sem]) rfl rfl H i _ _ O (fun t ht=>by rw[c.cellAt (i+t) O];simp;omega) (fun t ht=>c.frozenAt (i+t))
     have af:(i:N)<=(L.length:N):=O;have ag:(i:N)<=(cap:N):=O;have D:Hid (aH [H] w1 (wr.setCells H i (XV (L.length-i) (UM UB)))/\(wr.setCells H i (XV (L.length-i) (UM UB))).ownsRow 0 194 1 (UO H i cap) (L.filter fun b=>!p b).length ((L.filter fun b=>!p b).map jX)):=by
      have o:(L.filter fun b=>!p b)=M.take i:=by rw[h.lo,z,VN aJ]
      have m:(M.take i).length=i:=by rw[XW];omega
      refine⟨y.trans (M1 _ _ _),?_⟩;rw[o,m,List.map_take];exact M8 _ i wr aJ (b6j c O)
     clear h y c q HT C D0 z;go_wp21;go_ret;exact⟨_,rfl,D.1,D.2,rfl⟩
def uY(c:bO):Prop:=c=.me\/c=.wa\/c=.desk\/∃ i,c=.bH i
def KU(w:UF)(d:Uw)(r:Raw)(f:Uw->Uu bO)(g:EG)(i:Uw)(h:i<r.tg.length)(w':UF):Prop :=∃ c,DK w' d ({ r with eg:=gF g.e.id r.eg }.eI i (r.tg[i].with (dK r.tg[i].A g.e.aR (-g.e.aN)) (lQ g.e.id r.tg[i].T g.e.aR))) c/\Step uY w f c w w'
theorem Jy(w:UF):(zeroValue 194).run prog w=.ok (UM UB) w:=by simp[go_sem]
theorem b8i{r:Raw}{o:Uw->Uu bO}(h:DK w d r o){g:EG}(hg:g∈r.eg)(hk:g.e.kind≠3)(i:Uw)(hi:i<r.tg.length)(ht:g.tb=r.tg[i].tb)(hf:Fit r.tg[i] g.e)(ho:aF.Ord (aF.cT r.tg[i].T))(hz:aF.size r.tg[i].T<=9000)(hA:∀ p,0<=dK r.tg[i].A g.e.aR (-g.e.aN) p)(ad:0<=g.e.id/\g.e.id<=1000):UI prog 155 #[d,g.eb] w fun e w'=>e=UW (US #[])/\KU w d r o g i hi w':=by
 have hX:UH w w (w.alloc (UX #[g.eb] 194)):=aS;have H:=h.later hX;have xb:(w.alloc (UX #[g.eb] 194)).cell? (w,0)=U ↑g.eb:=Ui;have E:w<(w.alloc (UX #[g.eb] 194)).heap.size:=Ui;have K:o w=UB:=by
  cases e:o w with
  |none=>rfl
  |some c=>have:=h.lt _ _ e;omega
 have C:=aB (Vf hX (Vf E K));clear h hX E K;go_in;go_upto_region 1 with fail;generalize (w.alloc (UX #[g.eb] 194))=X at H xb C ⊢;obtain⟨g1,S,R⟩:=H.en g hg;obtain⟨m,f,a1,a2,a3,a4⟩:=H.me;have c0:=g1.en.c0;have ac:(g.e.kind != 3)=UE:=bZ hk;have kk:=yq (n:=g.e.id) O O;obtain⟨w1,I,p1,p2⟩:=(a3.block (w':=X.drew) rfl).oq yh underlying87 kk 0;have z:=H.later (eN X);have DD:=aB (z.xL a1 a2 a4 g.e.id p1 p2);have W:=aB (DD.2.vI (z.en g hg).1 (.inl ⟨_,S,by simp⟩) (.inl ⟨_,R,by simp⟩));have ae:=W.k;have P:=W.en.c1;have y:=(zo (w:=X) (DD.2.cS C.2.1 C.2.2 C.2.1)).trans xb;clear H z a3 p1 p2 a4;go_big_region;clear I xb a1 c0;have aa:=U1 _ _ y;have x:=aB (Vf C.2.2 aa);have XB:=aB C.1;have ab:=aB (Vf S R);have RL:=aB (fun wx (k:UH w1 w1 wx)=>b3G (DD.1.later k) i hi (W.off (G:=[]) (aH.aD k) Ui Ui) ht (by rw[S];simp) (by rw[R];simp) hf ho hz hA);clear g1 S R hf ho hz hA C kk a2 ht;generalize w=N at y x ⊢;have AF:Hid (∀ w2 q,Step (·=.bH i) w1.drew.heap.size o q w1.drew w2->w2.cell? (N,0)=U ↑g.eb/\w2.cell? (g.eb,2)=U ↑g.tb):=fun w2 q D =>⟨(zo (w:=w1) (D.cS x.2 x.1 x.2)).trans y,D.qv ab.1 Ui P⟩
 go_upto_region 3 with fail;go_region_held3 (fun w'=>w'.cell? (N,0)=U ↑g.eb/\w'.cell? (g.eb,2)=U ↑g.tb)
  (first
   |exact⟨y,P⟩
   |exact AF _ _ D)
  (first
   |(go_at_call 192;refine aK (RL _ (eN w1)) ?_;rintro w2 ⟨q,q1,D⟩))
 have HF:Hid (KU w d r o g i hi w2):=by have t0:Step uY w o o w X:=Step.below XB;have t1:=t0.trans ((Step.below (eN X)).trans (DD.2.mono (fun c hc=>.inl hc) t0.size));have t2:=t1.trans (Step.below (eN w1));exact⟨q,q1,t2.trans (D.mono (fun c hc=>.inr (.inr (.inr ⟨i,hc⟩))) t2.size)⟩
 clear q1 D RL DD W;go_wp21;(try simp only[Exit.inBlock,Exit.then]);refine bodyPost_ret (results_none rfl _ _ _) rfl ?_;exact⟨rfl,HF⟩
def LN(w:UF)(d:Uw)(r:Raw)(f:Uw->Uu bO)(g:EG)(w':UF):Prop :=∃ c,DK w' d { r with eg:=gF g.e.id r.eg,wl:=r.wl.filter fun b=>!(b==g.eb) } c/\Step uY w f c w w'
theorem b8h{r:Raw}{y:Uw->Uu bO}(h:DK w d r y){g:EG}(W:g∈r.eg)(hk:g.e.kind=3)(af:0<=g.e.id/\g.e.id<=1000)(R:∀ b∈r.wl,∃ x∈r.eg,x.eb=b)(ac:r.wl.length<=1000):UI prog 155 #[d,g.eb] w fun e w'=>e=UW (US #[])/\LN w d r y g w':=by
 have hX:UH w w (w.alloc (UX #[g.eb] 194)):=aS;have q:=h.later hX;have xb:(w.alloc (UX #[g.eb] 194)).cell? (w,0)=U ↑g.eb:=Ui;have P:w<(w.alloc (UX #[g.eb] 194)).heap.size:=Ui;have aa:y w=UB:=by
  cases e:y w with
  |none=>rfl
  |some c=>have:=h.lt _ _ e;omega
 have H:=aB (Vf hX (Vf P aa));clear h hX P aa;go_in;go_upto_region 1 with fail;generalize (w.alloc (UX #[g.eb] 194))=X at q xb H ⊢;obtain⟨g1,g2,g3⟩:=q.en g W;obtain⟨m,f,a1,a2,a3,a4⟩:=q.me;have c0:=g1.en.c0;have ae:(g.e.kind != 3)=UD:=bZ hk;have kk:=yq (n:=g.e.id) O O;obtain⟨w1,T,p1,p2⟩:=(a3.block (w':=X.drew) rfl).oq yh underlying87 kk 0;have z:=q.later (eN X);have DD:=aB (z.xL a1 a2 a4 g.e.id p1 p2);have EC:Hid (∀ x∈r.eg,y x.eb=U .ent):=fun x q=>(z.en x q).2.1;have I:=(fun x q=>DD.2.vI (z.en x q).1 (.inl ⟨_,(z.en x q).2.1,by simp⟩) (.inl ⟨_,(z.en x q).2.2,by simp⟩));have ai:=(I g W).k;have K:=(zo (w:=X) (DD.2.cS H.2.1 H.2.2 H.2.1)).trans xb;clear q z a3 p1 p2 a4;go_big_region;clear T xb a1 c0;have ad:=U1 _ _ K;have C:=aB (Vf H.2.2 ad);have XB:=aB H.1;clear g1 g2 g3 H kk a2;obtain⟨v,c4,own,A⟩:=DD.1.wa;have f4:=DD.1.fz 4;have E:w.heap.size ∉ v.ownBlock.toList:=fun e=>by have:=A _ (Wn.1 e);rw[C.1] at this;cases this
 have S:d ∉ v.ownBlock.toList:=fun e=>by have:=A _ (Wn.1 e);rw[DD.1.dc] at this;cases this
 have D:∀ x∈r.eg,x.eb ∉ v.ownBlock.toList:=fun x q e=>by have h1:=A _ (Wn.1 e);have h2:=EC x q;rw[h2] at h1;cases h1
 have DL:=aB (GG (.inr ⟨rfl,w,rfl⟩) r.wl (fun b=>b==g.eb) v w1 (fun wx k b hb=>by
  obtain⟨x,q,rfl⟩:=R b hb;have b1:∃ cs,wx.heap[g.eb]?=U (UX cs 197 (0,0)):=by obtain⟨cs,e⟩:=(I g W).bl;exact⟨cs,(k.block _ (I g W).lt (D g W)).trans e⟩
  have b2:∃ cs,wx.heap[x.eb]?=U (UX cs 197 (0,0)):=by obtain⟨cs,e⟩:=(I x q).bl;exact⟨cs,(k.block _ (I x q).lt (D x q)).trans e⟩
  exact b8j w g.eb x.eb wx (k.cell E K) b1 b2) own ac)
 have VC:=aB (Vf A (Vf E S));clear own A E S D R;go_wp21;refine DL.mono ?_;rintro e w2 ⟨v',rfl,k1,k2,k3⟩;obtain⟨va,vn,vc,rfl⟩:∃ a n cap,v'=UO a n cap:=by
  rcases k2.2 with ⟨e,_⟩|⟨_,_,_,e,_⟩
  .exact⟨_,_,_,e⟩
  .exact⟨_,_,_,e⟩
 have aj:=k1.cell VC.2.2 c4;have ag:=(k1.frozen (o:=4) VC.2.2 (U1 _ _ c4)).trans f4;have SW:=aB (DD.1.lC VC.1 k1 k2 (fun b hb=>.inl (by rw[<- k3];exact hb)));clear k1 k2 k3 DL c4 f4 I;have HF:Hid (LN w d r y g (w2.setCell (d,4) (UO va vn vc))):=by have t0:Step uY w y y w X:=Step.below XB;have t1:=t0.trans ((Step.below (eN X)).trans (DD.2.mono (fun c hc=>.inl hc) t0.size));obtain⟨ab,q1,q2⟩:=SW;exact⟨ab,q1,t1.trans (q2.mono (fun c hc=>by rcases hc with e|e;exact .inr (.inl e);exact .inr (.inr (.inl e))) t1.size)⟩
 clear DD SW VC C XB;go_wp21;go_end0;exact⟨rfl,HF⟩
open aA (aQ St eD kept fc ek ec jw dB dI jC Inv)
def kM(c:J EG)(id:N):Uw:=(jc c id).getD 0
theorem Eo{c:J EG}(f:(c.map (·.e.id)).Nodup){g:EG}(h:g∈c):kM c g.e.id=g.eb:=by unfold kM;rw[Lr f h];rfl
structure Of(s:St)(r:Raw):Prop where
 now:r.now=s.now
 given:r.given=s.given
 ts:r.tg.map (fun t=>(t.name,t.aN))=s.ts
 es:r.eg.map (·.e)=s.es
 th:∀ (i:Uw) (h:i<r.tg.length),r.tg[i].A=ec r.tg[i].name s.es/\jw r.tg[i].name s.es (kM r.eg) r.tg[i].T
 tb:∀ g∈r.eg,∃ (i:Uw) (h:i<r.tg.length),r.tg[i].name=g.e.bH/\g.tb=r.tg[i].tb
def Wl(r:Raw):Prop:=r.wl=(r.eg.filter fun g=>g.e.kind==3).map (·.eb)
def jW(g:EG):Hp.Hi:=⟨g.e.bY,g.e.id,g.eb⟩
def Hl(r:Raw):Prop:=Hp.iP r.hl/\r.hl.Perm ((r.eg.filter fun g=>g.e.kind != 1).map jW)
theorem Of.mem{r:Raw}(h:Of s r){g:EG}(c:g∈r.eg):g.e∈s.es:=by rw[<- h.es];exact VQ.2 ⟨g,c,rfl⟩
theorem Of.get{r:Raw}(h:Of s r)(c:e∈s.es):∃ g∈r.eg,g.e=e:=by rw[<- h.es] at c;exact VQ.1 c
theorem Of.len{r:Raw}(h:Of s r):r.tg.length=s.ts.length:=by rw[<- h.ts];simp
theorem Of.mE{r:Raw}(h:Of s r)(c:i<r.tg.length):s.ts[i]'(by rw[<- h.len];exact c)=(r.tg[i].name,r.tg[i].aN):=by have e:(r.tg.map fun t=>(t.name,t.aN))[i]'Uo=(r.tg[i].name,r.tg[i].aN):=Ui;rw[<- e];congr 1;exact h.ts.symm
theorem FE(f:ts.Pairwise fun t u=>dI t.1 u.1=UD):∀ {i:Uw}(g:i<ts.length),aA.cI ts[i].1 ts=ts[i].2:=by
 induction ts with
 |nil=>intro i g;simp at g
 |cons t ts ih =>
  intro i g;rw[Vn] at f
  cases i with
  |zero=>simp[aA.cI,aA.tZ]
  |succ i =>have c:i<ts.length:=Uo;have:=f.1 ts[i] (zg c);simp only[List.getElem_cons_succ,aA.cI,this];exact ih f.2 c
theorem ze(h:∀ t∈ts,t.1≠name):aA.cI name ts=0:=by
 induction ts with
 |nil=>rfl
 |cons t ts ih =>have c:=sL.2 (h t Ui);simp only[aA.cI,c];exact ih (fun t ht=>h t (by simp[ht]))
theorem Of.names{r:Raw}(h:Of s r)(x:s.ts.Pairwise fun t u=>dI t.1 u.1=UD)(q:i<r.tg.length)(o:j<r.tg.length)(e:r.tg[i].name=r.tg[j].name):i=j:=by
 have c:∀ {a b:Uw}(m:a<r.tg.length) (f:b<r.tg.length),a<b->r.tg[a].name≠r.tg[b].name:=by intro a b m f g;have:=Xr.1 x a b (by rw[<- h.len];exact m) (by rw[<- h.len];exact f) g;rw[h.mE m,h.mE f] at this;exact sL.1 this
 by_cases z:i<j
 .exact UA e (c q o z)
 .by_cases y:j<i
  .exact UA e.symm (c o q y)
  .omega
theorem F8(h:jC L):(L.map (·.1)).Nodup:=by grind[jC]
theorem La{at_:N->Uw}{T:aF.S}{eb:Uw}(h:jw name es at_ T)(r:jC L)(g:∀ e∈es,dB name e=UE->e.id≠id)
  (q:∀ z:aF.It,(∃ e∈es',dB name e=UE/\∃ s∈e.aR,z=⟨s.1,s.2,e.id,at' e.id⟩)↔(∃ e∈es,dB name e=UE/\∃ s∈e.aR,z=⟨s.1,s.2,e.id,at_ e.id⟩)\/∃ s∈L,z=mg id eb s):
  jw name es' at' (jj id eb T L)/\(∀ z∈aF.cT T,z.n=id->∀ s∈L,z.f≠s.1):=by
 have c:∀ z∈aF.cT T,z.n=id->∀ s∈L,z.f≠s.1:=by intro z m e;obtain⟨x,o,y,s,_,rfl⟩:=(h.2 z).1 m;exact UA e (g x o y)
 let⟨k1,_,k3,_⟩:=Ef id eb L T h.1 c (F8 r);exact⟨⟨k1,fun z=>by rw[k3,h.2];exact (q z).symm⟩,c⟩
theorem b8p{at_:N->Uw}{T:aF.S}{e0:aQ}(h:jw name es at_ T)(m:eD es)(x:e0∈es)(q:∀ e∈es,e.id≠e0.id->at' e.id=at_ e.id):jw name (kept e0.id es) at' (lQ e0.id T e0.aR):=by
 let⟨k1,k2,_⟩:=Es e0.id e0.aR T h.1;refine⟨k1,fun z=>?_⟩;rw[k2,Xb,h.2];constructor
 .rintro ⟨⟨e,f,o,s,g,rfl⟩,r⟩
  have c:e.id≠e0.id:=by intro y;have:e=e0:=m.one f x y;subst this;have:=WB.1 r s g;simp[aF.pN] at this
  exact⟨e,aA.vh.2 ⟨f,c⟩,o,s,g,by grind⟩
 .rintro ⟨e,f,o,s,g,rfl⟩;let⟨f,c⟩:=aA.vh.1 f;refine⟨⟨e,f,o,s,g,by grind⟩,?_⟩;rw[WB];intro t _;simp[aF.pN,c]
theorem yW{at_:N->Uw}{T:aF.S}(h:jw name es at_ T)(o:∀ e,dB name e=UE->(e∈es'↔e∈es))(q:∀ e∈es,dB name e=UE->at' e.id=at_ e.id):jw name es' at' T:=by refine⟨h.1,fun z=>?_⟩;rw[h.2];constructor;rintro ⟨e,m,c,s,f,rfl⟩;exact⟨e,(o e c).2 m,c,s,f,by grind⟩;rintro ⟨e,m,c,s,f,rfl⟩;have g:=(o e c).1 m;exact⟨e,g,c,s,f,by grind⟩
theorem Of.turn{r:Raw}(h:Of s r)(z:s.ts.Pairwise fun t u=>dI t.1 u.1=UD)(A:i<r.tg.length){c:J EG}{m:J Uv->N}{T':aF.S}(D:c.map (·.e)=es')(K:m=ec r.tg[i].name es')(I:jw r.tg[i].name es' (kM c) T')
  (H:∀ (name:Us) (T:aF.S),name≠r.tg[i].name->ec name es'=ec name s.es/\(jw name s.es (kM r.eg) T->jw name es' (kM c) T)) (E:∀ g∈c,∃ (i:Uw) (h:i<r.tg.length),r.tg[i].name=g.e.bH/\g.tb=r.tg[i].tb):
  Of { s with es:=es' } ({ r with eg:=c }.eI i (r.tg[i].with m T')):=by
 have y:({ r with eg:=c }.eI i (r.tg[i].with m T')).tg.length=r.tg.length:=by simp[Raw.eI]
 have f:∀ (j:Uw) (q:j<r.tg.length),(({ r with eg:=c }.eI i (r.tg[i].with m T')).tg[j]'Uo).name=r.tg[j].name/\(({ r with eg:=c }.eI i (r.tg[i].with m T')).tg[j]'Uo).tb=r.tg[j].tb:=by intro j q;by_cases e:i=j;subst e;simp[Raw.eI,TG.with];simp[Raw.eI,e]
 refine⟨h.now,h.given,?_,D,fun j q=>?_,fun g C=>?_⟩
 .rw[<- h.ts];show (r.tg.set i (r.tg[i].with m T')).map _=_;rw[XD];have:((r.tg[i].with m T').name,(r.tg[i].with m T').aN)=(r.tg.map fun t=>(t.name,t.aN))[i]'Uo:=by simp[TG.with]
  rw[this,XE]
 .have o:j<r.tg.length:=Uo
  by_cases e:i=j
  .subst e;have x:({ r with eg:=c }.eI i (r.tg[i].with m T')).tg[i]=r.tg[i].with m T':=by simp[Raw.eI]
   rw[x];exact⟨K,I⟩
  .have x:({ r with eg:=c }.eI i (r.tg[i].with m T')).tg[j]=r.tg[j]:=by simp[Raw.eI,e]
   rw[x];let⟨k1,k2⟩:=H r.tg[j].name r.tg[j].T (fun P=>e (h.names z A o P.symm));let⟨q1,q2⟩:=h.th j o;exact⟨q1.trans k1.symm,k2 q2⟩
 .let⟨j,q,e1,x⟩:=E g C;exact⟨j,by grind,(f j q).1.trans e1,x.trans (f j q).2.symm⟩
theorem KD(id:N)(c:J EG):(gQ id 1 0 c).map (·.e)=fc id (c.map (·.e)):=by unfold gQ fc;rw[XH,XH];apply XI;intro g _;simp only[XJ];split <;> rfl
theorem Ks(id:N)(c:J EG):(gF id c).map (·.e)=kept id (c.map (·.e)):=by unfold gF kept;rw[XX];rfl
theorem LC{c f:N}{g:J EG}{x:EG}(h:x∈gQ id c f g):∃ y∈g,x.eb=y.eb/\x.tb=y.tb/\x.e.bH=y.e.bH/\x.e.id=y.e.id:=by grind[gQ]
theorem Fq(id c f:N)(eg:J EG):kM (gQ id c f eg)=kM eg:=by funext x;unfold kM;rw[KC]
theorem Of.book{r:Raw}(h:Of s r)(hp:s.ts.Pairwise fun t u=>dI t.1 u.1=UD)(D:eD s.es)(X:(r.eg.map (·.e.id)).Nodup){g:EG}(S:g∈r.eg)(hk:g.e.kind=3)(hr:jC g.e.aR)(hi:i<r.tg.length)(C:r.tg[i].name=g.e.bH):Of { s with es:=fc g.e.id s.es } ({ r with eg:=gQ g.e.id 1 0 r.eg }.eI i (r.tg[i].with (dK r.tg[i].A g.e.aR g.e.aN) (jj g.e.id g.eb r.tg[i].T g.e.aR)))/\(∀ z∈aF.cT r.tg[i].T,z.n=g.e.id->∀ s∈g.e.aR,z.f≠s.1):=by
 let⟨t1,t2⟩:=h.th i hi;have I:=h.mem S;have o:∀ (name:Us) (e:aQ),e∈s.es->dB name e=UE->e.id≠g.e.id:=by intro name e c m R;have:e=g.e:=D.one c I R;subst this;simp[dB,hk] at m
 have W:dB r.tg[i].name (ek g.e)=UE:=by rw[aA.tX,C];exact aA.tZ _
 have hP:=La (id:=g.e.id) (eb:=g.eb) (L:=g.e.aR) (es':=fc g.e.id s.es) (at':=kM (gQ g.e.id 1 0 r.eg)) t2 hr (fun e c m=>o _ e c m) (fun z=>by
  rw[Fq];constructor
  .rintro ⟨e,c,m,q,H,rfl⟩;rcases aA.ua.1 c with ⟨c,_⟩|⟨y,K,E,rfl⟩
   .exact .inl ⟨e,c,m,q,H,rfl⟩
   .have:y=g.e:=D.one K I E;subst this;exact .inr ⟨q,H,by unfold mg;rw[show (ek g.e).id=g.e.id from rfl,Eo X S]⟩
  .rintro (⟨e,c,m,q,H,rfl⟩|⟨q,H,rfl⟩)
   .exact⟨e,aA.ua.2 (.inl ⟨c,o _ e c m⟩),m,q,H,rfl⟩
   .exact⟨ek g.e,aA.ua.2 (.inr ⟨g.e,I,rfl,rfl⟩),W,q,H,by unfold mg;rw[show (ek g.e).id=g.e.id from rfl,Eo X S]⟩)
 refine⟨h.turn hp hi (by rw[KD,h.es]) ?_ hP.1 (fun name T P=>⟨?_,fun hT=>?_⟩) (fun x hx=>?_),hP.2⟩
 .rw[t1];exact aA.MP (by rw[C];exact aA.tZ _) hk D I
 .refine aA.Gl (fun e c R m=>?_);have:e=g.e:=D.one c I R;subst this;exact UA (vk.1 m) (fun e2=>P Uo)
 .refine yW hT (fun e m=>?_) (fun e _ _=>by rw[Fq]);constructor
  .intro c;rcases aA.ua.1 c with ⟨c,_⟩|⟨y,K,E,rfl⟩
   .exact c
   .have:y=g.e:=D.one K I E;subst this;rw[aA.tX] at m;exact UA (vk.1 m) (fun e2=>P Uo)
  .intro c;exact aA.ua.2 (.inl ⟨c,o name e c m⟩)
 .let⟨y,K,R,e2,e3,_⟩:=LC hx;let⟨j,hj,q1,q2⟩:=h.tb y K;exact⟨j,hj,by grind,by grind⟩
theorem Of.uE{r:Raw}(h:Of s r)(f:eD s.es){g:EG}(P:g∈r.eg)(I:g.e.kind≠3):Of { s with es:=fc g.e.id s.es } { r with eg:=gQ g.e.id 1 0 r.eg }:=by
 have A:=h.mem P;refine⟨h.now,h.given,h.ts,by rw[<- h.es];exact KD _ _,fun j H=>?_,fun x K=>?_⟩
 .let⟨t1,t2⟩:=h.th j H;refine⟨t1.trans (aA.Gl (fun e c C _=>?_)).symm,⟨t2.1,fun z=>?_⟩⟩
  .have:e=g.e:=f.one c A C;rw[this];exact I
  .show z∈aF.cT r.tg[j].T↔∃ e∈fc g.e.id s.es,dB r.tg[j].name e=UE/\∃ q∈e.aR,z=⟨q.1,q.2,e.id,kM (gQ g.e.id 1 0 r.eg) e.id⟩;rw[t2.2,Fq];constructor
   .rintro ⟨e,c,m,q,o,rfl⟩
    by_cases C:e.id=g.e.id
    .have:e=g.e:=f.one c A C;subst this;refine⟨ek g.e,aA.ua.2 (.inr ⟨g.e,A,rfl,rfl⟩),?_,q,o,rfl⟩;rw[aA.tX];simp[dB] at m;exact m.1
    .exact⟨e,aA.ua.2 (.inl ⟨c,C⟩),m,q,o,rfl⟩
   .rintro ⟨e,c,m,q,o,rfl⟩;rcases aA.ua.1 c with ⟨c,_⟩|⟨y,E,D,rfl⟩
    .exact⟨e,c,m,q,o,rfl⟩
    .have:y=g.e:=f.one E A D;subst this;rw[aA.tX] at m;exact⟨g.e,A,by simp[dB,m,I],q,o,rfl⟩
 .let⟨y,E,C,e2,e3,_⟩:=LC K;let⟨j,H,q1,q2⟩:=h.tb y E;exact⟨j,H,by grind,by grind⟩
theorem En{c:J EG}(g:(c.map (·.e.id)).Nodup)(id x:N)(f:x≠id):kM (gF id c) x=kM c x:=by unfold kM;rw[Kr g,Uy f]
theorem Of.goes{r:Raw}(h:Of s r)(K:s.ts.Pairwise fun t u=>dI t.1 u.1=UD)(m:eD s.es)(E:(r.eg.map (·.e.id)).Nodup){g:EG}(R:g∈r.eg)(P:g.e.kind≠3)(H:i<r.tg.length)(q:r.tg[i].name=g.e.bH):Of { s with es:=kept g.e.id s.es } ({ r with eg:=gF g.e.id r.eg }.eI i (r.tg[i].with (dK r.tg[i].A g.e.aR (-g.e.aN)) (lQ g.e.id r.tg[i].T g.e.aR))):=by
 let⟨t1,t2⟩:=h.th i H;have z:=h.mem R;have C:dB r.tg[i].name g.e=UE:=by simp[dB,q,aA.tZ,P]
 refine h.turn K H (by rw[Ks,h.es]) ?_ (b8p t2 m z (fun e _ f=>En E _ _ f)) (fun name T f=>⟨?_,fun S=>?_⟩) (fun x I=>h.tb x (Xb.1 I).1)
 .rw[t1];exact aA.FC C m z
 .refine aA.Gf (fun e c D=>?_);have:e=g.e:=m.one c z D;subst this;have:dI g.e.bH name=UD:=sL.2 (fun W=>f Uo);simp[dB,this]
 .have o:∀ e∈s.es,dB name e=UE->e.id≠g.e.id:=fun e c y D=>by have:e=g.e:=m.one c z D;subst this;have:dI g.e.bH name=UD:=sL.2 (fun W=>f Uo);simp[dB,this] at y
  exact yW S (fun e y=>⟨fun c=>(aA.vh.1 c).1,fun c=>aA.vh.2 ⟨c,o e c y⟩⟩) (fun e c y=>En E _ _ (o e c y))
theorem Of.xt{r:Raw}(h:Of s r)(m:eD s.es)(C:(r.eg.map (·.e.id)).Nodup){g:EG}(E:g∈r.eg)(z:g.e.kind=3):Of { s with es:=kept g.e.id s.es } { r with eg:=gF g.e.id r.eg }:=by
 have y:=h.mem E;have f:∀ (name:Us),∀ e∈s.es,dB name e=UE->e.id≠g.e.id:=fun name e c o q=>by have:e=g.e:=m.one c y q;subst this;simp[dB,z] at o
 refine⟨h.now,h.given,h.ts,by rw[<- h.es];exact Ks _ _,fun j D=>?_,fun x A=>h.tb x (Xb.1 A).1⟩;let⟨t1,t2⟩:=h.th j D;refine⟨t1.trans (aA.Gf (fun e c q=>?_)).symm,yW t2 (fun e o=>⟨fun c=>(aA.vh.1 c).1,fun c=>aA.vh.2 ⟨c,f _ e c o⟩⟩) (fun e c o=>En C _ _ (f _ e c o))⟩;have:e=g.e:=m.one c y q;subst this;simp[dB,z]
theorem wI{f:J EG}{g:EG}(c:∀ x∈f,x.e.id≠g.e.id)(x:N):kM (f++[g]) x=if x=g.e.id then g.eb else kM f x:=by unfold kM;rw[KG c];split <;> rfl
theorem Of.comes{r:Raw}(h:Of s r)(hp:s.ts.Pairwise fun t u=>dI t.1 u.1=UD){g:EG}(o:∀ x∈r.eg,x.e.id≠g.e.id)(hk:g.e.kind≠3)(X:jC g.e.aR)(S:i<r.tg.length)(y:r.tg[i].name=g.e.bH)(P:g.tb=r.tg[i].tb)(n:N):Of { s with es:=s.es++[g.e],given:=n } ({ r with eg:=r.eg++[g],given:=n }.eI i (r.tg[i].with (dK r.tg[i].A g.e.aR g.e.aN) (jj g.e.id g.eb r.tg[i].T g.e.aR)))/\(∀ z∈aF.cT r.tg[i].T,z.n=g.e.id->∀ s∈g.e.aR,z.f≠s.1):=by
 let⟨t1,t2⟩:=h.th i S;have I:dB r.tg[i].name g.e=UE:=by simp[dB,y,aA.tZ,hk]
 have m:∀ e∈s.es,e.id≠g.e.id:=fun e c=>by obtain⟨x,C,rfl⟩:=h.get c;exact o x C
 have W:=La (id:=g.e.id) (eb:=g.eb) (L:=g.e.aR) (es':=s.es++[g.e]) (at':=kM (r.eg++[g])) t2 X (fun e c _=>m e c) (fun z=>by
  constructor
  .rintro ⟨e,c,E,q,D,rfl⟩;rcases Vb.1 c with c|c
   .exact .inl ⟨e,c,E,q,D,by rw[wI o,Uy (m e c)]⟩
   .have:e=g.e:=Uo
    subst this;exact .inr ⟨q,D,by unfold mg;rw[wI o,Uz rfl]⟩
  .rintro (⟨e,c,E,q,D,rfl⟩|⟨q,D,rfl⟩)
   .exact⟨e,by simp[c],E,q,D,by rw[wI o,Uy (m e c)]⟩
   .exact⟨g.e,by simp,I,q,D,by unfold mg;rw[wI o,Uz rfl]⟩)
 have K:Of { s with es:=s.es++[g.e] } ({ r with eg:=r.eg++[g] }.eI i (r.tg[i].with (dK r.tg[i].A g.e.aR g.e.aN) (jj g.e.id g.eb r.tg[i].T g.e.aR))):=by
  refine h.turn hp S (by rw[VU,h.es];rfl) ?_ W.1 (fun name T R=>?_) (fun x C=>?_)
  .rw[t1];exact aA.b9s I
  .have hf:dI g.e.bH name=UD:=sL.2 (fun e2=>R Uo);have H:dB name g.e=UD:=by simp[dB,hf]
   refine⟨aA.MT H,fun hT=>yW hT (fun e E=>?_) (fun e c _=>by rw[wI o,Uy (m e c)])⟩;rw[Vb];constructor
   .rintro (c|c)
    .exact c
    .have:e=g.e:=Uo
     subst this;rw[H] at E;cases E
   .exact .inl
  .rcases Vb.1 C with C|C
   .exact h.tb x C
   .have:x=g:=Uo
    subst this;exact⟨i,S,y,P⟩
 exact⟨⟨K.now,rfl,K.ts,K.es,K.th,K.tb⟩,W.2⟩
theorem Of.nP{r:Raw}(h:Of s r){g:EG}(y:∀ x∈r.eg,x.e.id≠g.e.id)(C:g.e.kind=3)(E:i<r.tg.length)(c:r.tg[i].name=g.e.bH)(z:g.tb=r.tg[i].tb)(n:N):Of { s with es:=s.es++[g.e],given:=n } { r with eg:=r.eg++[g],given:=n }:=by
 have q:∀ e∈s.es,e.id≠g.e.id:=fun e m=>by obtain⟨x,f,rfl⟩:=h.get m;exact y x f
 refine⟨h.now,rfl,h.ts,by show (r.eg++[g]).map _=_;rw[VU,h.es];rfl,fun j D=>?_,fun x f=>?_⟩
 .let⟨t1,t2⟩:=h.th j D;have o:∀ name,dB name g.e=UD:=fun name=>by simp[dB,C]
  refine⟨t1.trans (aA.MT (o _)).symm,yW t2 (fun e A=>?_) (fun e m _=>by show kM (r.eg++[g]) e.id=_;rw[wI y,Uy (q e m)])⟩;show e∈s.es++[g.e]↔_;rw[Vb];constructor
  .rintro (m|m)
   .exact m
   .have:e=g.e:=Uo
    subst this;rw[o] at A;cases A
  .exact .inl
 .rcases Vb.1 f with f|f
  .exact h.tb x f
  .have:x=g:=Uo
   subst this;exact⟨i,E,c,z⟩
theorem c0P{eg:J EG}(f:(eg.map (·.e.id)).Nodup){g:EG}(q:g∈eg)(A:g.e.kind≠1):(eg.filter fun x=>x.e.kind != 1).Perm (g :: (gQ g.e.id 1 0 eg).filter fun x=>x.e.kind != 1):=by
 induction eg with
 |nil=>simp at q
 |cons y eg ih =>
  rw[Xl,Vd] at f;rcases Va.1 q with rfl|c
  .have z:gQ g.e.id 1 0 eg=eg:=by
    unfold gQ;have:eg.map (fun x=>if x.e.id=g.e.id then { x with e:={ x.e with kind:=1,bY:=0 } } else x)=eg.map id:=by apply XI;intro x r;rw[Uy (fun e=>f.1 (VQ.2 ⟨x,r,e⟩))];rfl
    rw[this,XY]
   have o:gQ g.e.id 1 0 (g :: eg)={ g with e:={ g.e with kind:=1,bY:=0 } } :: eg:=by
    conv=>lhs;unfold gQ;rw[Xl,Uz rfl]
    conv=>rhs;rw[<- z]
    rfl
   rw[o,Vp,Uz Uo,Vp,Uy Ui]
  .have m:y.e.id≠g.e.id:=fun e=>f.1 (VQ.2 ⟨g,c,e.symm⟩)
   have o:gQ g.e.id 1 0 (y :: eg)=y :: gQ g.e.id 1 0 eg:=by
    conv=>lhs;unfold gQ;rw[Xl,Uy m]
    rfl
   rw[o];have ih:=ih f.2 c;by_cases h:(y.e.kind != 1)=UE
   .rw[Vp,Uz h,Vp,Uz h];exact (ih.cons y).trans (.swap ..)
   .rw[Vp,Uy h,Vp,Uy h];exact ih
theorem c0O{eg:J EG}(h:(eg.map (·.e.id)).Nodup){g:EG}(o:g∈eg)(p:EG->Uv)(q:p g=UE):(eg.filter p).Perm (g :: (gF g.e.id eg).filter p):=by
 induction eg with
 |nil=>simp at o
 |cons y eg ih =>
  rw[Xl,Vd] at h;rcases Va.1 o with rfl|c
  .have m:gF g.e.id (g :: eg)=eg:=by unfold gF;rw[Vp,Uy Ui];exact Xc.2 (fun x z=>by grind)
   rw[m,Vp,Uz q]
  .have r:y.e.id≠g.e.id:=fun e=>h.1 (VQ.2 ⟨g,c,e.symm⟩)
   have m:gF g.e.id (y :: eg)=y :: gF g.e.id eg:=by unfold gF;rw[Vp,Uz Uo]
   rw[m];have ih:=ih h.2 c;by_cases f:p y=UE
   .rw[Vp,Uz f,Vp,Uz f];exact (ih.cons y).trans (.swap ..)
   .rw[Vp,Uy f,Vp,Uy f];exact ih
theorem MG{c:J EG}(m:(c.map (·.e.id)).Nodup){g:EG}(o:g∈c)(p:EG->Uv)(h:p g=UD):(gF g.e.id c).filter p=c.filter p:=by
 unfold gF;rw[XZ];apply X0;intro x f;by_cases e:x.e.id=g.e.id
 .have:x=g:=qL _ m f o e;subst this;simp[h]
 .have:(x.e.id != g.e.id)=UE:=Uo
  simp[this]
theorem Hl.at{r:Raw}(h:Hl r){x:Hp.Hi}(c:x∈r.hl):∃ g∈r.eg,g.e.kind≠1/\x=jW g:=by have:=h.2.mem_iff.1 c;obtain⟨g,f,rfl⟩:=VQ.1 this;exact⟨g,(Xb.1 f).1,by grind,rfl⟩
theorem Hl.has{r:Raw}(h:Hl r){g:EG}(c:g∈r.eg)(f:g.e.kind≠1):jW g∈r.hl:=h.2.mem_iff.2 (VQ.2 ⟨g,Xb.2 ⟨c,by grind⟩,rfl⟩)
theorem Hl.len{r:Raw}(h:Hl r):r.hl.length<=r.eg.length:=by rw[h.2.length_eq,We];exact Wj _ _
theorem Hl.one{r:Raw}(h:Hl r)(o:(r.eg.map (·.e.id)).Nodup){g:EG}(q:g∈r.eg){x:Hp.Hi}{c:J Hp.Hi}(f:x.n=g.e.id)(m:r.hl.Perm (x :: c)):x=jW g:=by let⟨y,hy,_,e⟩:=h.at (x:=x) (m.mem_iff.2 Ui);subst e;have:y=g:=qL _ o hy q f;rw[this]
theorem Hl.book{r:Raw}(h:Hl r)(m:(r.eg.map (·.e.id)).Nodup){g:EG}(o:g∈r.eg)(y:g.e.kind≠1){x:Hp.Hi}{c:J Hp.Hi}(q:x.n=g.e.id)(z:Hp.iP c)(f:r.hl.Perm (x :: c)):Hl { r with eg:=gQ g.e.id 1 0 r.eg,hl:=c }:=by have e:=h.one m o q f;subst e;refine⟨z,X4 (a:=jW g) ?_⟩;exact f.symm.trans (h.2.trans ((c0P m o y).map jW))
theorem Hl.goes{r:Raw}(h:Hl r)(m:(r.eg.map (·.e.id)).Nodup){g:EG}(o:g∈r.eg)(z:g.e.kind≠1){x:Hp.Hi}{c:J Hp.Hi}(q:x.n=g.e.id)(y:Hp.iP c)(f:r.hl.Perm (x :: c)):Hl { r with eg:=gF g.e.id r.eg,hl:=c }:=by have e:=h.one m o q f;subst e;refine⟨y,X4 (a:=jW g) ?_⟩;exact f.symm.trans (h.2.trans ((c0O m o (fun g=>g.e.kind != 1) Uo).map jW))
theorem Hl.qd{r:Raw}(h:Hl r)(c:(r.eg.map (·.e.id)).Nodup){g:EG}(m:g∈r.eg)(f:g.e.kind=1):Hl { r with eg:=gF g.e.id r.eg }:=by refine⟨h.1,?_⟩;show r.hl.Perm (((gF g.e.id r.eg).filter fun g=>g.e.kind != 1).map jW);rw[MG c m _ (by simp[f])];exact h.2
theorem Hl.comes{r:Raw}(h:Hl r){g:EG}(m:g.e.kind≠1){c:J Hp.Hi}(o:Hp.iP c)(f:c.Perm (r.hl++[jW g])):Hl { r with eg:=r.eg++[g],hl:=c }:=by
 refine⟨o,f.trans ?_⟩;show (r.hl++[jW g]).Perm (((r.eg++[g]).filter fun g=>g.e.kind != 1).map jW);rw[Vo,VU];have:[g].filter (fun g=>g.e.kind != 1)=[g]:=by simp[m]
 rw[this];exact h.2.append_right _
theorem Hl.uF{r:Raw}(h:Hl r){g:EG}(c:g.e.kind=1):Hl { r with eg:=r.eg++[g] }:=by
 refine⟨h.1,?_⟩;show r.hl.Perm (((r.eg++[g]).filter fun g=>g.e.kind != 1).map jW);rw[Vo];have:[g].filter (fun g=>g.e.kind != 1)=[]:=by simp[c]
 rw[this,Xu];exact h.2
theorem Wl.goes{r:Raw}(h:Wl r)(o:(r.eg.map (·.e.id)).Nodup)(q:(r.eg.map (·.eb)).Nodup){g:EG}(m:g∈r.eg):(r.wl.filter fun b=>!(b==g.eb))=((gF g.e.id r.eg).filter fun g=>g.e.kind==3).map (·.eb):=by
 rw[h,XX];unfold gF;rw[XZ,XZ];congr 1;apply X0;intro x f;have:(x.eb==g.eb)=(x.e.id==g.e.id):=by
  by_cases e:x=g
  .subst e;simp
  .have z:x.eb≠g.eb:=fun c=>e (qL _ q f m c)
   have y:x.e.id≠g.e.id:=fun c=>e (qL _ o f m c);rw[beq_eq_false_iff_ne.2 z,beq_eq_false_iff_ne.2 y]
 simp only[XJ,this];rw[X5];rfl
theorem Wl.qd{r:Raw}(h:Wl r)(c:(r.eg.map (·.e.id)).Nodup){g:EG}(f:g∈r.eg)(m:g.e.kind≠3):Wl { r with eg:=gF g.e.id r.eg }:=by unfold Wl at *;show r.wl=((gF g.e.id r.eg).filter fun g=>g.e.kind==3).map (·.eb);rw[MG c f _ Uo];exact h
theorem Wl.comes{r:Raw}(h:Wl r){g:EG}(c:g.e.kind≠3):Wl { r with eg:=r.eg++[g] }:=by
 unfold Wl at *;show r.wl=((r.eg++[g]).filter fun g=>g.e.kind==3).map (·.eb);rw[Vo];have:[g].filter (fun g=>g.e.kind==3)=[]:=by simp[c]
 rw[this,Xu];exact h
theorem Wl.nP{r:Raw}(h:Wl r){g:EG}(c:g.e.kind=3):Wl { r with eg:=r.eg++[g],wl:=r.wl++[g.eb] }:=by
 unfold Wl at *;show r.wl++[g.eb]=((r.eg++[g]).filter fun g=>g.e.kind==3).map (·.eb);rw[Vo,VU];have:[g].filter (fun g=>g.e.kind==3)=[g]:=by simp[c]
 rw[this,h];rfl
theorem Wl.uE{r:Raw}(h:Wl r)(f:(r.eg.map (·.e.id)).Nodup){g:EG}(o:g∈r.eg)(m:g.e.kind≠3):Wl { r with eg:=gQ g.e.id 1 0 r.eg }:=by
 unfold Wl at *;show r.wl=((gQ g.e.id 1 0 r.eg).filter fun g=>g.e.kind==3).map (·.eb);rw[h];unfold gQ;rw[XX,XH];have q:(r.eg.filter ((fun g=>g.e.kind==3) ∘ fun x=>if x.e.id=g.e.id then { x with e:={ x.e with kind:=1,bY:=0 } } else x))=r.eg.filter fun g=>g.e.kind==3:=by apply X0;intro x c;simp only[XJ];by_cases e:x.e.id=g.e.id;have:x=g:=qL _ f c o e;subst this;rw[Uz rfl];simp[m];rw[Uy e]
 rw[q];apply XI;intro x _;simp only[XJ];split <;> rfl
namespace aA
def nU(ts:J (Us × N))(p:J aQ × J N)(e:aQ):J aQ × J N :=if eT ts p.1 e.bH e.aN e.aR=UE then (fc e.id p.1,p.2++[e.id]) else p
def gj(e:aQ):Uv:=e.kind==3
theorem b5x{d r:J aQ}(h:eD (d++e :: r)):fc e.id (d++e :: r)=d++ek e :: r:=by
 unfold eD at h;rw[VU,Xl,W8,Vn] at h;let⟨_,⟨h2,_⟩,h3⟩:=h;unfold fc;rw[VU,Xl,Uz rfl];have g:d.map (fun x=>if x.id=e.id then ek x else x)=d:=by rw[show d=d.map id from (XY d).symm,XH];apply XI;intro x c;have:=h3 x.id (VQ.2 ⟨x,c,rfl⟩) e.id Ui;simp only[XJ,id];rw[Uy O]
 have f:r.map (fun x=>if x.id=e.id then ek x else x)=r:=by rw[show r=r.map id from (XY r).symm,XH];apply XI;intro x c;have:=h2 x.id (VQ.2 ⟨x,c,rfl⟩);simp only[XJ,id];rw[Uy O]
 rw[g,f]
theorem Bz(ts:J (Us × N)):∀ (r d:J aQ)(acc:J N),eD (d++r)->(r.filter gj).foldl (nU ts) (d++r,acc)=((eU ts d r).1,acc++(eU ts d r).2)
 |[],d,acc,_=>by simp[eU]
 |e :: r,d,acc,h=>by
  have x:eD ((d++[e])++r):=Uo;by_cases f:e.kind=3
  .have m:gj e=UE:=by simp[gj,f]
   rw[Vp,Uz m,Wv];by_cases g:eT ts (d++e :: r) e.bH e.aN e.aR=UE
   .have q:=b5x h
    have y:eD ((d++[ek e])++r):=by have:=LQ (id:=e.id) h;rw[q] at this;simpa using this
    have o:nU ts (d++e :: r,acc) e=((d++[ek e])++r,acc++[e.id]):=by unfold nU;simp only;rw[Uz g,q];simp
    rw[o,Bz ts r _ _ y];have c:eU ts d (e :: r)=((eU ts (d++[ek e]) r).1,e.id :: (eU ts (d++[ek e]) r).2):=by rw[eU,Uz ⟨f,g⟩]
    rw[c];simp
   .have o:nU ts (d++e :: r,acc) e=((d++[e])++r,acc):=by unfold nU;simp only;rw[Uy g];simp
    rw[o,Bz ts r _ _ x];have c:eU ts d (e :: r)=eU ts (d++[e]) r:=by rw[eU,Uy (fun h=>g h.2)]
    rw[c]
  .have m:¬ (gj e=UE):=by simp[gj,f]
   rw[Vp,Uy m];have c:eU ts d (e :: r)=eU ts (d++[e]) r:=by rw[eU,Uy (fun h=>f h.1)]
   rw[c,<- Bz ts r _ _ x];simp
theorem Bj(ts:J (Us × N))(es:J aQ)(h:eD es):dS ts es=(es.filter gj).foldl (nU ts) (es,[]):=by have:=Bz ts es [] [] Uo;simp only[List.nil_append] at this;rw[this];rfl
end aA
theorem Step.dY{S:bO->Prop}{g f:Uw->Uu bO}(h:Step S B g f w w'){b:Uw}(o:g b=UB)(q:b<B):f b=UB:=by
 cases e:f b with
 |none=>rfl
 |some c =>
  rcases h.new b c e with m|m
  .rw[o] at m;cases m
  .omega
theorem Step.own{S:bO->Prop}{g f:Uw->Uu bO}{c e size:Uw}(h:Step S B g f w w')(o:w.ownsRow c e size v n xs)(m:∀ b,v.ownBlock=U b->g b=UB/\b<B):w'.ownsRow c e size v n xs:=by let⟨G,a1,a2⟩:=h.left;exact dL o a1 (fun b q=>a2 b (.inr (m b q)))
theorem DK.none{r:Raw}{f:Uw->Uu bO}(h:DK w d r f){b:Uw}(g:w.heap.size<=b):f b=UB:=by
 cases e:f b with
 |none=>rfl
 |some c=>have:=h.lt _ _ e;omega
structure eO(w:UF)(B:Uw)(aM:Uw->Uu bO)(v:UG)(l:J N):Prop where
 own:w.ownsRow B 3 1 v l.length (l.map (Value.int Y))
 no:∀ b,v.ownBlock=U b->aM b=UB
theorem eO.nil(w:UF)(B:Uw)(c:Uw->Uu bO):eO w B c () []:=⟨World.ownsRow_nil _ _ _ _,fun b f=>by cases f⟩
theorem eO.step{S:bO->Prop}{f c:Uw->Uu bO}(h:eO w B0 f v l)(st:Step S B f c w w')(o:w<=B):eO w' B0 c v l:=by have m:∀ b,v.ownBlock=U b->f b=UB/\b<B:=fun b g=>⟨h.no b g,VP (h.own.lt b g).2 o⟩;exact⟨st.own h.own m,fun b g=>st.dY (m b g).1 (m b g).2⟩
theorem eO.later{c:Uw->Uu bO}(h:eO w B0 c v l)(k:UH w w w'):eO w' B0 c v l:=⟨fG h.own k,h.no⟩
theorem eO.slice{c:Uw->Uu bO}(h:eO w B c v l):∃ a cap,v=UO a l.length cap:=by
 rcases h.own.2 with ⟨rfl,f⟩|⟨g,cap,_,rfl,_⟩
 .rw[f];exact⟨_,_,rfl⟩
 .exact⟨_,_,rfl⟩
def anyS(_:bO):Prop:=True
theorem Step.any{S:bO->Prop}{f c:Uw->Uu bO}(h:Step S B f c w w')(g:B'<=B):Step anyS B' f c w w':=h.mono (fun _ _=>trivial) g
open aA (aQ St eD kept fc ek ec jw dB dI jC eS jr)
theorem EP:∀ (l:J N)(a b:N),l.Pairwise (· < ·)->(∀ x∈l,a<=x/\x<=b)->(l.length:N)<=max 0 (b-a+1)
 |[],a,b,_,_=>by grind
 |x :: l,a,b,h,hb=>by rw[Vn] at h;have f:=hb x Ui;have ih:=EP l (x+1) b h.2 (fun y c=>⟨by grind,(hb y (by simp[c])).2⟩);simp only[VB];omega
theorem kS(h:eS s):s.es.length<=60:=by
 have f:=h.ids;have:=EP _ 1 60 f (fun x c=>by obtain⟨e,g,rfl⟩:=VQ.1 c;have o:=h.mZ e g;have m:=h.g1;omega)
 rw[We] at this;omega
theorem Lv{α:Type}:∀ (l m:J α),l.Nodup->(∀ x∈l,x∈m)->l.length<=m.length
 |[],m,_,_=>by simp
 |a :: l,m,h,hs=>by rw[Vd] at h;obtain⟨f,c,rfl⟩:=Xw (hs a Ui);have:=Lv l (f++c) h.2 (fun x g=>by grind);simp only[VA,VB] at this ⊢;omega
theorem LD(at_:N->Uw):∀ (es:J aQ),(∀ e∈es,e.aR.length<=40)->(es.flatMap fun e=>e.aR.map fun s=>(⟨s.1,s.2,e.id,at_ e.id⟩:aF.It)).length<=40*es.length
 |[],_=>by simp
 |e :: es,h=>by have ih:=LD at_ es (fun x c=>h x (by simp[c]));have:=h e Ui;simp only[List.flatMap_cons,VA,We,VB];omega
theorem b9S{l:J aF.It}(h:aF.Ord l):l.Nodup:=by rw[List.nodup_iff_pairwise_ne];refine Xx ?_ h;intro a b c e;subst e;unfold aF.lt at c;omega
theorem b8o{at_:N->Uw}{T:aF.S}(h:jw name es at_ T)(o:es.length<=60)(c:∀ e∈es,e.aR.length<=40):aF.size T<=9000:=by
 have m:=Lv _ (es.flatMap fun e=>e.aR.map fun s=>(⟨s.1,s.2,e.id,at_ e.id⟩:aF.It)) (b9S h.1) (fun z f=>by obtain⟨e,g,_,s,c,rfl⟩:=(h.2 z).1 f;exact List.mem_flatMap.2 ⟨e,g,VQ.2 ⟨s,c,rfl⟩⟩)
 have q:=LD at_ es c;rw[aF.pg] at m;omega
theorem Ec{r:Raw}(h:eS s)(f:Of s r){now:N}(c:jr now e)(g:i<r.tg.length):Fit r.tg[i] e:=by let⟨t1,t2⟩:=f.th i g;refine⟨c.sp,fun p=>?_,c.u1,c.u9,by have:=c.sl;omega⟩;have:=aA.wu r.tg[i].name p s.es h.small;have:=kS h;rw[t1];omega
theorem F7(h:eS s):aA.yu s.es:=fun e f q c=>((h.en e f).sp q c).2.1
theorem Lg{r:Raw}(h:eS s)(f:Of s r)(c:qV e.aR)(q:1<=e.aN)(g:i<r.tg.length)(o:r.tg[i].name=e.bH):mX (dK r.tg[i].A e.aR e.aN) r.tg[i].aN e.aR=aA.eT s.ts s.es e.bH e.aN e.aR:=by
 have m:=FE h.tn (i:=i) (by rw[<- f.len];exact g);rw[f.mE g] at m;rw[(f.th i g).1,o] at *;exact aA.b8v h.small (F7 h) c O m
theorem EF{r:Raw}(h:eS s)(c:Of s r)(f:i<r.tg.length):aF.Ord (aF.cT r.tg[i].T)/\aF.size r.tg[i].T<=9000:=by let⟨_,t2⟩:=c.th i f;exact⟨t2.1,b8o t2 (kS h) (fun e g=>(h.en e g).sl)⟩
theorem c2L{r:Raw}(h:eS s)(c:Of s r){g:EG}(q:g∈r.eg)(m:g.e.kind≠3)(o:i<r.tg.length)(f:r.tg[i].name=g.e.bH):∀ p,0<=dK r.tg[i].A g.e.aR (-g.e.aN) p:=by
 intro p;have y:dB r.tg[i].name g.e=UE:=by simp[dB,f,aA.tZ,m]
 rw[(c.th i o).1,aA.FC y h.ids (c.mem q)];exact (aA.wu _ p _ (fun e x=>h.small e (aA.vh.1 x).1)).1
open aA (aQ St eD kept fc ek ec jw dB dI jC eS jr nU)
noncomputable def qZ(Gr:J N)(g:EG):EG:=@ite _ (g.e.id∈Gr) (XC _) { g with e:=ek g.e } g
theorem uQ{g:EG}(h:g.e.id∈Gr):qZ Gr g={ g with e:=ek g.e }:=Uz h
theorem tT{g:EG}(h:g.e.id ∉ Gr):qZ Gr g=g:=Uy h
noncomputable def pM(Gr:J N)(c:J EG):J EG:=c.map (qZ Gr)
theorem c1v(eg:J EG):pM [] eg=eg:=by
 unfold pM;conv=>rhs;rw[<- XY eg]
 apply XI;intro g _;rw[tT Ui];rfl
theorem b8O(Gr:J N)(id:N)(eg:J EG):gQ id 1 0 (pM Gr eg)=pM (Gr++[id]) eg:=by
 unfold gQ pM;rw[XH];apply XI;intro g _;simp only[XJ];by_cases c:g.e.id∈Gr
 .rw[uQ c,uQ (X6 _ c)]
  split <;> rfl
 .rw[tT c]
  by_cases f:g.e.id=id
  .rw[Uz f,uQ (X7 _ Uo)];rfl
  .rw[Uy f,tT (fun h=>by grind)]
theorem c1w{eg:J EG}{g:EG}(c:g∈eg)(h:g.e.id ∉ Gr):g∈pM Gr eg:=by unfold pM;exact VQ.2 ⟨g,c,tT h⟩
theorem c3G(Gr:J N)(eg:J EG)(p:Uw->Uv)(m:∀ g∈eg,g.e.kind=3->(p g.eb=UE↔g.e.id∈Gr)):(((eg.filter fun g=>g.e.kind==3).map (·.eb)).filter fun b=>!p b)=((pM Gr eg).filter fun g=>g.e.kind==3).map (·.eb):=by
 induction eg with
 |nil=>rfl
 |cons g eg ih =>
  have ih:=ih (fun x q=>m x (List.mem_cons_of_mem _ q));have y:pM Gr (g :: eg)=qZ Gr g :: pM Gr eg:=rfl;rw[y];by_cases o:g.e.kind=3
  .have c:(g.e.kind==3)=UE:=Uo
   rw[Vp,Uz c,Xl,Vp];by_cases f:g.e.id∈Gr
   .have r:=(m g XF o).2 f;rw[Uy Uo,uQ f,Vp,Uy (by simp[ek])];exact ih
   .have r:p g.eb=UD:=by
     cases h:p g.eb
     .rfl
     .exact UA ((m g XF o).1 h) f
    rw[Uz Uo,tT f,Vp,Uz c,Xl,ih]
  .have c:¬ ((g.e.kind==3)=UE):=Uo
   rw[Vp,Uy c,Vp];by_cases f:g.e.id∈Gr
   .rw[uQ f,Uy (by simp[ek])];exact ih
   .rw[tT f,Uy c];exact ih
def im(s:St)(k:Uw):J aQ × J N:=((s.es.filter aA.gj).take k).foldl (nU s.ts) (s.es,[])
theorem Kn(s:St):im s 0=(s.es,[]):=rfl
theorem Km(s:St)(c:k<(s.es.filter aA.gj).length):im s (k+1)=nU s.ts (im s k) (s.es.filter aA.gj)[k]:=by unfold im;rw[VL c,Xe];rfl
theorem TJ(s:St)(h:eD s.es)(c:(s.es.filter aA.gj).length<=k):im s k=aA.dS s.ts s.es:=by unfold im;rw[VN c,aA.Bj s.ts s.es h]
structure GX(w wx:UF)(d:Uw)(s:St)(r:Raw)(aM:Uw->Uu bO)(v4:UG)(k:Uw)(v:UG)(rk:Raw)(ck:Uw->Uu bO):Prop where
 dk:DK wx d rk ck
 of:Of { s with es:=(im s k).1 } rk
 hl:Hl rk
 wl:rk.wl=r.wl
 eg:rk.eg=pM (im s k).2 r.eg
 st:Step anyS w aM ck w wx
 nr:eO wx w ck v (im s k).2
 bA:eS { s with es:=(im s k).1 }
 gm:∀ x∈(im s k).2,∃ e∈(s.es.filter aA.gj).take k,e.id=x
 row:wx.ownsRow 0 194 1 v4 r.wl.length (r.wl.map jX)
 rc:∀ b,v4.ownBlock=U b->ck b=U .wa
def GI(w wx:UF)(d:Uw)(s:St)(r:Raw)(c:Uw->Uu bO)(v4:UG)(k:Uw)(v:UG):Prop:=∃ f g,GX w wx d s r c v4 k v f g
def yQ(w:UF)(d:Uw)(s:St)(g:Uw->Uu bO)(v:UG)(w':UF):Prop :=∃ (f:Raw) (c:Uw->Uu bO),DK w' d f c/\Of { s with es:=(aA.dS s.ts s.es).1 } f/\Wl f/\Hl f/\Step anyS w g c w w'/\eO w' w c v (aA.dS s.ts s.es).2
theorem GX.next{r:Raw}{q:Uw->Uu bO}{x:Raw}{P:Uw->Uu bO}(h:GX w wx d s r q v4 k v x P)(I:Of s r)(y:Wl r)(o:eD s.es)(C:k<r.wl.length):∃ (g:EG) (c:k<(s.es.filter aA.gj).length),g∈r.eg/\g∈x.eg/\g.eb=r.wl[k]/\g.e=(s.es.filter aA.gj)[k]/\g.e.kind=3/\g.e.id ∉ (im s k).2:=by
 have R:s.es.filter aA.gj=(r.eg.filter fun g=>g.e.kind==3).map (·.e):=by rw[<- I.es,XX];rfl
 have A:k<(r.eg.filter fun g=>g.e.kind==3).length:=by have:=C;rw[y,We] at this;exact this
 have c:k<(s.es.filter aA.gj).length:=Uo;have m:((r.eg.filter fun g=>g.e.kind==3)[k]).e=(s.es.filter aA.gj)[k]:=Uo;have z:=Xb.1 (zg A);have f:((r.eg.filter fun g=>g.e.kind==3)[k]).e.id ∉ (im s k).2:=by
  intro E;let⟨e,he,e2⟩:=h.gm _ E;obtain⟨j,K,rfl⟩:=Xs he;rw[XW] at K;rw[X8,m] at e2;have H:(s.es.filter aA.gj).Pairwise fun a b=>a.id<b.id:=by have:=aA.Bh aA.gj o;unfold eD at this;rw[Xo] at this;exact this
  have:=Xr.1 H j k O c O;omega
 refine⟨_,c,z.1,?_,?_,m,by grind,f⟩
 .rw[h.eg];exact c1w z.1 f
 .have D:r.wl[k]?=U ((r.eg.filter fun g=>g.e.kind==3)[k]).eb:=by rw[y,XT,Wx A];rfl
  rw[Wx C] at D;exact (Option.some.inj D).symm
theorem GX.no{r:Raw}{f:Uw->Uu bO}{m:Raw}{z c1:Uw->Uu bO}(h:GX w wx d s r f v4 k v m z)(c:k<(s.es.filter aA.gj).length)(A:DK w1 d m c1)(g:Step (·=.bH i) wx z c1 wx w1)(C:aA.eT s.ts (im s k).1 (s.es.filter aA.gj)[k].bH (s.es.filter aA.gj)[k].aN (s.es.filter aA.gj)[k].aR=UD):GX w w1 d s r f v4 (k+1) v m c1:=by
 have e:im s (k+1)=im s k:=by rw[Km s c];unfold nU;rw[Uy Uo]
 let⟨G,a1,a2⟩:=g.left;refine⟨A,by rw[e];exact h.of,h.hl,h.wl,by rw[e];exact h.eg,h.st.trans (g.any h.st.size),by rw[e];exact h.nr.step g aJ,by rw[e];exact h.bA,fun x q=>?_,dL h.row a1 (fun b o=>a2 b (.inl ⟨_,h.rc b o,by simp⟩)),fun b o=>g.ji _ _ (h.rc b o)⟩;rw[e] at q;let⟨y,hy,e2⟩:=h.gm x q;rw[VL c];exact⟨y,X6 _ hy,e2⟩
theorem c2K(h:eS s)(f:e∈s.es)(c:e.kind=3)(m:aA.eT s.ts s.es e.bH e.aN e.aR=UE):eS { s with es:=fc e.id s.es }:=by
 let⟨l,r,e1,e2,_⟩:=aA.MA h.ids f rfl;have g:eS ⟨s.ts,l++e :: r,s.given,s.now⟩:=by rw[<- e1];exact h
 have:=g.sV c Uo;rw[e2];exact this
theorem GX.yes{r:Raw}{S:Uw->Uu bO}{m:Raw}{ck c1:Uw->Uu bO}(h:GX w wx d s r S v4 k v m ck)(R:k<(s.es.filter aA.gj).length){g:EG}(X:g∈m.eg)(ac:g.e=(s.es.filter aA.gj)[k])(P:g.e.kind=3)(hi:i<m.tg.length)(I:m.tg[i].name=g.e.bH)
  (W:Step (·=.bH i) wx ck c1 wx w1) (sp:FO w1 d (m.eI i (m.tg[i].with (dK m.tg[i].A g.e.aR g.e.aN) (jj g.e.id g.eb m.tg[i].T g.e.aR))) c1 g w2) (hf:aA.eT s.ts (im s k).1 g.e.bH g.e.aN g.e.aR=UE)
  (ho:aH v.ownBlock.toList w2 w3) (ab:∀ q,(∀ b,v.ownBlock=U b->q b=UB)->(∀ b,w2.heap.size<=b->q b=UB)->eO w3 w q v' ((im s k).2++[g.e.id])):
  GI w w3 d s r S v4 (k+1) v':=by
 let⟨x,l',q,e1,e2,p1,p2,p3,p4⟩:=sp;have ad:aA.eT s.ts (im s k).1 (s.es.filter aA.gj)[k].bH (s.es.filter aA.gj)[k].aN (s.es.filter aA.gj)[k].aR=UE:=Uo;have e:im s (k+1)=(fc g.e.id (im s k).1,(im s k).2++[g.e.id]):=by rw[Km s R];unfold nU;rw[Uz ad,ac]
 have hn:=h.dk.ni;have K:=(h.of.book h.bA.tn h.bA.ids hn X P ((h.bA.en _ (h.of.mem X)).ri) hi I).1;have E:=(h.nr.step W aJ).step p4 aJ;have o:=E.no;have hD:=p3.off ho (fun y c=>o y (Wn.1 c));have aa:Step anyS w q q w2 w3:=⟨⟨_,ho,fun y c=>.inr ⟨o y (Wn.1 c),(E.own.lt y (Wn.1 c)).1⟩⟩,fun _ _ h=>h,fun _ _ h=>.inl h⟩;have t1:=h.st.trans (W.any h.st.size);have t2:=t1.trans (p4.any t1.size);let⟨G1,a1,a2⟩:=W.left;let⟨G2,b1,b2⟩:=p4.left;have D:∀ b,v4.ownBlock=U b->c1 b=U .wa:=fun b f=>W.ji _ _ (h.rc b f);have C:∀ b,v4.ownBlock=U b->q b=U .wa:=fun b f=>p4.ji _ _ (D b f);have H:=dL (dL h.row a1 (fun b f=>a2 b (.inl ⟨_,h.rc b f,by simp⟩))) b1 (fun b f=>b2 b (.inl ⟨_,D b f,by unfold AU;simp⟩));refine⟨_,q,hD,⟨K.now,K.given,K.ts,by rw[e];exact K.es,by rw[e];exact K.th,K.tb⟩,h.hl.book (r:=m) hn X O e2 p1 p2,h.wl,?_,t2.trans aa,by rw[e];exact ab q o (fun b f=>p3.none f),?_,fun y c=>?_,dL H ho (fun b f hx=>?_),C⟩
 .rw[e];show gQ g.e.id 1 0 m.eg=pM ((im s k).2++[g.e.id]) r.eg;rw[h.eg,b8O]
 .rw[e];exact c2K h.bA (h.of.mem X) P hf
 .rw[e] at c;rw[VL R];rcases Vb.1 c with c|c
  .let⟨z,hz,e3⟩:=h.gm y c;exact⟨z,X6 _ hz,e3⟩
  .have:y=g.e.id:=X9.1 c;exact⟨_,X7 _ (X9.2 rfl),by grind⟩
 .have:=o b (Wn.1 hx);rw[C b f] at this;cases this
theorem J1{g:EG}(c:g.e.kind=3):((qZ Gr g).e.kind==1)=UE↔g.e.id∈Gr:=by by_cases h:g.e.id∈Gr;rw[uQ h];simp[h,ek];rw[tT h];simp[h,c]
theorem Tr(Gr:J N)(g:EG):(qZ Gr g).eb=g.eb:=by by_cases h:g.e.id∈Gr;rw[uQ h];rw[tT h]
def yi(c:J EG)(Gr:J N)(b:Uw):Uv:=c.any fun g=>decide (g.eb=b) && Gr.any fun x=>decide (x=g.e.id)
theorem S7(c:J EG)(Gr:J N)(z:(c.map (·.eb)).Nodup):∀ g∈c,g.e.kind=3->(qZ Gr g).eb=g.eb/\((qZ Gr g).e.kind==1)=yi c Gr g.eb:=by
 intro g m A;refine⟨Tr Gr g,?_⟩;have q:=J1 (Gr:=Gr) A;have o:yi c Gr g.eb=UE↔g.e.id∈Gr:=by
  unfold yi;rw[Xd];constructor
  .rintro ⟨x,r,f⟩;rw[Wu,decide_eq_true_iff,Xd] at f;let⟨f,y,hy,e2⟩:=f;have:x=g:=qL _ z r m f;have E:=of_decide_eq_true e2;rw[<- this,<- E];exact hy
  .intro h;refine⟨g,m,?_⟩;rw[Wu,decide_eq_true_iff,Xd];exact⟨rfl,g.e.id,h,decide_eq_true rfl⟩
 cases D:((qZ Gr g).e.kind==1) <;> cases C:yi c Gr g.eb
 .rfl
 .exact UA (q.2 (o.1 C)) Uo
 .exact UA (o.2 (q.1 D)) Uo
 .rfl
theorem yS(ts:J (Us × N)):∀ (l:J aQ)(p:J aQ × J N),(l.foldl (nU ts) p).2.length<=p.2.length+l.length
 |[],p=>by simp
 |e :: l,p=>by
  have ih:=yS ts l (nU ts p e);have:(nU ts p e).2.length<=p.2.length+1:=by unfold nU;split <;> simp
  simp only[Wv,VB];omega
theorem TO(s:St)(k:Uw):(im s k).2.length<=k:=by have:=yS s.ts ((s.es.filter aA.gj).take k) (s.es,[]);have c:=VT k (s.es.filter aA.gj);unfold im;simp only[List.length_nil] at this;omega
theorem KV{r:Raw}{y:Uw->Uu bO}(h:DK w d r y)(ho:Of s r)(hw:Wl r)(hh:Hl r)(hm:eS s):UI prog 63 #[d] w fun e w'=>∃ v,e=UW v/\yQ w d s y v w':=by
 obtain⟨i0,bf,ba,a9,a8⟩:=info_parts qC;obtain⟨v4,c4,C,ax⟩:=h.wa;have bs:r.wl.length<=60:=by
  rw[hw,We];have h1:=Wj (fun g:EG=>g.e.kind==3) r.eg;have h2:=kS hm;have h3:r.eg.length=s.es.length:=by rw[<- ho.es];simp
  omega
 have G0:Hid (GI w w d s r y v4 0 ()):=⟨r,y,h,ho,hh,rfl,by rw[Kn,c1v],Step.refl _ _ _ _,eO.nil _ _ _,hm,fun x hx=>by rw[Kn] at hx;simp at hx,C,ax⟩;have K:=aB (Vf h (Vf ho (Vf hw (Vf hh hm))));have hv:∃ a cap,v4=UO a r.wl.length cap:=by
  rcases C.2 with ⟨rfl,h⟩|⟨g,cap,_,rfl,_⟩
  .rw[h];exact⟨_,_,rfl⟩
  .exact⟨_,_,rfl⟩
 obtain⟨a,cap,rfl⟩:=hv;clear h ho hw hh hm C ax;go_in;go_wp21;go_loopw [3,5,11] (fun vg _ vi wx=>∃ k:Uw,k<=r.wl.length/\vi=V Y k/\GI w wx d s r y (UO a r.wl.length cap) k vg) (fun _ _ vi _=>r.wl.length-(intOf vi).toNat)
 .exact⟨0,VM _,rfl,G0⟩
 .obtain⟨k,hk,rfl,P,ck,X⟩:=hrel
  by_cases ak:k<r.wl.length
  .have bj:(k:N)<(r.wl.length:N):=O
   obtain⟨g,ar,au,m,E,aa,W,ao⟩:=X.next K.2.1 K.2.2.1 K.2.2.2.2.ids ak;obtain⟨Hh,bn,e1⟩:=XR X.row O;simp only[XS,true_and] at e1;obtain⟨rfl,rfl⟩:=e1;have a0:=X.row.cellAt k O;rw[XT,Wx ak,XU,<- E] at a0;unfold jX at a0;obtain⟨R,H,q3⟩:=X.dk.en g m;have co:=R.en.c1;obtain⟨i,hi,c,S⟩:=X.of.tb g m;have q:=X.bA.en _ (X.of.mem m);have A:=Ec X.bA X.of q hi;have ad:=Lg X.bA X.of q.sp q.u1 hi c;have ac:=EF X.bA X.of hi;have I:=aB X;have HG:=aB (Vf m (Vf aa (Vf W (Vf c H))))
   cases hf:aA.eT s.ts (im s k).1 g.e.bH g.e.aN g.e.aR
   .have TK:=aB (J6 X.dk i hi R S (by rw[H];simp) (by rw[q3];simp) A (ad.trans hf))
    have FN:Hid (aA.eT s.ts (im s k).1 (s.es.filter aA.gj)[k].bH (s.es.filter aA.gj)[k].aN (s.es.filter aA.gj)[k].aR=UD):=by show _=_;rw[<- aa];exact hf
    have HK:=aB ar;clear hf ad A ac q R H q3 X m aa W c ao au E S;go_wp21;refine TK.mono ?_;rintro e w1 ⟨rfl,c1,p1,p2⟩;have HN:Hid (GI w w1 d s r y (UO Hh r.wl.length cap) (k+1) u3):=⟨P,c1,I.no HK p1 p2 FN⟩;clear p1 p2 TK I HG a0 co FN;go_wp21;go_roundw
    .exact⟨k+1,O,by go_num,HN⟩
    .simp[intOf];omega
   .have a3:Av P.tg[i].T g.e.id g.e.aR:=⟨ac.1,ac.2,(X.of.book X.bA.tn X.bA.ids X.dk.ni m W q.ri hi c).2,F8 q.ri⟩;have TK:=aB (Lq X.dk i hi R S (by rw[H];simp) (by rw[q3];simp) A a3 (ad.trans hf));have HF:=aB hf;have bu:(im s k).2.length<=60:=by have:=TO s k;omega
    have ai:P.hl.length<=1000:=by
     have h1:=X.hl.len;have h2:P.eg.length=(im s k).1.length:=by have:=X.of.es;rw[<- We (f:=(·.e)),this]
     have h3:=kS X.bA;simp only at h3;omega
    have ae:=aB (Vf X.hl.1 (Vf ai (X.hl.has m O)));have HK:=aB ar;clear hf ad A ac q R H q3 X m aa W ao au E S a3 ai;have a7:=aB c;clear c;go_wp21;refine TK.mono ?_;rintro e w1 ⟨rfl,c1,p1,p2⟩;have ST:=aB (LZ p1 ae.1 ae.2.1 (g:=g) HG.1 ⟨jW g,ae.2.2,rfl,rfl⟩);have P2:=aB p2;clear p1 p2 TK a0 co;go_wp21;refine ST.mono ?_;rintro e w2 ⟨rfl,sp⟩;have SP:=aB sp;obtain⟨x,l',c2,e1,e2,s1,s2,s3,s4⟩:=sp;have z:({ g with e:={ g.e with kind:=1,bY:=0 } }:EG)∈gQ g.e.id 1 0 P.eg:=VQ.2 ⟨g,HG.1,Uz rfl⟩;have b5:w2.cell? (g.eb,0)=U ↑g.e.id:=(s3.en _ z).1.en.c0;have NR:=aB ((I.nr.step P2 aJ).step s4 aJ);have bq:w<=w2.heap.size:=U0 (U0 I.st.size P2.size) s4.size;clear s1 s2 s3 s4 e1 e2 z ST;go_wp2_with (first
     |(at_builtin;refine wpList_append_lies _ rfl _ _ 53 rfl w 3 i0 _ 1 8 underlying53 bf ba a9 a8 rfl Uj _ _ _ rfl (NR.own.alloc _) (w2,0) 1 1 [g.e.id] rfl rfl (Wf (cs:=#[g.e.id]) (dH w2 _)) Uq O Up O Un (w2.heap.size+1) Ui ?_;intro g2 bm w3 ag D az bi))
    have ko:=aH.grown ((aH.refl _ w2).alloc _) D (fun k hk=>.inl (Wn.2 hk));have aj:=az;have HN:=
     I.yes HK HG.1 HG.2.1 HG.2.2.1 hi a7 P2 SP HF ko (fun c2 n1 n2=>⟨by rw[VA,VU];exact ag,fun b hb=>by
      have:g2=b:=by simpa[V9] using hb
      subst this;rcases aj with e|e
      .exact n1 g2 e
      .exact n2 g2 O⟩)
    clear ag D az ko aj I HG HK SP NR P2 a7 HF ae;go_roundw
    .exact⟨k+1,O,by go_num,HN⟩
    .simp[intOf];omega
  .have bv:¬ ((k:N)<(r.wl.length:N)):=O
   obtain⟨v,al,af,ab⟩:=X.dk.wa;have f4:=X.dk.fz 4;have hd:=X.dk.dc;have an:d ∉ v.ownBlock.toList:=fun e=>by have:=ab _ (Wn.1 e);rw[hd] at this;cases this
   have bc:(s.es.filter aA.gj).length<=k:=by
    have h1:=K.2.2.1;have h2:s.es.filter aA.gj=(r.eg.filter fun g=>g.e.kind==3).map (·.e):=by rw[<- K.2.1.es,XX];rfl
    rw[h2,We];rw[h1,We] at ak;omega
   have av:=TJ s K.2.2.2.2.ids bc;have PB:=aB (S7 r.eg (im s k).2 K.1.nd);generalize yi r.eg (im s k).2=p at PB;have DL:=aB (GG (.inl ⟨rfl,rfl⟩) P.wl p v wr (fun wx ko b hb=>by
    have ay:b∈r.wl:=by rw[<- X.wl];exact hb
    rw[K.2.2.1] at ay;obtain⟨g,hg,rfl⟩:=VQ.1 ay;obtain⟨aw,bh⟩:=Xb.1 hg;have bg:g.e.kind=3:=bZ bh;have z:qZ (im s k).2 g∈P.eg:=by rw[X.eg];exact VQ.2 ⟨g,aw,rfl⟩
    obtain⟨R,H,q3⟩:=X.dk.en _ z;have aq:=ko.cell (fun e=>by have:=ab _ (Wn.1 e);rw[H] at this;cases this) R.k;obtain⟨e1,e2⟩:=PB g aw bg;rw[e1] at aq;rw[<- e2];exact b3r g.eb _ wx aq) af (by rw[X.wl];omega))
   have VC:=aB (Vf ab an);have I:=aB X;clear X af ab an hd;go_wp21;refine DL.mono ?_;rintro e w2 ⟨v',rfl,k1,k2,k3⟩;obtain⟨va,vn,vc,rfl⟩:∃ a n cap,v'=UO a n cap:=by
    rcases k2.2 with ⟨e,_⟩|⟨_,_,_,e,_⟩
    .exact⟨_,_,_,e⟩
    .exact⟨_,_,_,e⟩
   have b4:=k1.cell VC.2 al;have bz:=(k1.frozen (o:=4) VC.2 (U1 _ _ al)).trans f4;have SW:=aB (I.dk.lC VC.1 k1 k2 (fun b hb=>.inl (by rw[<- k3];exact hb)));have HF:Hid (yQ w d s y u3 (w2.setCell (d,4) (UO va vn vc))):=by
    obtain⟨a4,R,H⟩:=SW;have X:=I.out;refine⟨_,a4,R,?_,?_,X.hl,X.st.trans (H.any X.st.size),?_⟩
    .have o:=X.of;rw[av] at o;exact⟨o.now,o.given,o.ts,o.es,o.th,o.tb⟩
    .show (P.wl.filter fun b=>!p b)=(P.eg.filter fun g=>g.e.kind==3).map (·.eb);rw[X.wl,K.2.2.1,X.eg];exact c3G _ _ p (fun g hg hk=>by rw[<- (PB g hg hk).2];exact J1 hk)
    .rw[<- av];exact X.nr.step H aJ
   clear k1 k2 k3 DL al f4 SW I VC PB K;go_wp21;go_ret;exact⟨_,rfl,HF⟩
open aA (aQ St eD kept fc ek ec jw dB dI jC eS jr cA)
def gN(s:St)(t:N):J aQ:=s.es.filter (cA t)
def oi(s:St)(t:N)(k:Uw):J aQ:=((gN s t).take k).foldl (fun es e=>kept e.id es) s.es
theorem c3p(s:St)(t:N)(c:k<(gN s t).length):oi s t (k+1)=kept (gN s t)[k].id (oi s t k):=by unfold oi;rw[VL c,Xe];rfl
theorem c3h(l:J aQ):∀ es:J aQ,l.foldl (fun es e=>kept e.id es) es=es.filter fun x=>l.all fun e=>x.id != e.id:=by
 induction l with
 |nil=>intro es;exact (Xc.2 (fun _ _=>rfl)).symm
 |cons e l ih =>intro es;rw[Wv,ih];unfold kept;rw[XZ];apply X0;intro x _;rw[List.all_cons,X5]
theorem DI(s:St)(t:N)(k:Uw):oi s t k=s.es.filter fun x=>((gN s t).take k).all fun e=>x.id != e.id:=c3h _ _
theorem Ty(s:St)(t:N)(c:eD s.es)(m:(gN s t).length<=k):oi s t k=s.es.filter fun e=>!cA t e:=by
 rw[DI,VN m];apply X0;intro x f
 cases h:cA t x
 .rw[Bool.not_false,WB];intro e o;let⟨he1,he2⟩:=Xb.1 o
  have:x.id≠e.id:=fun q=>by have:=c.one f he1 q;subst this;rw[h] at he2;cases he2
  simpa using this
 .rw[U6]
  cases g:(gN s t).all fun e=>x.id != e.id
  .rfl
  .rw[WB] at g;have:=g x (Xb.2 ⟨f,h⟩);simp at this
theorem AO:e∈oi s t k↔e∈s.es/\∀ x∈(gN s t).take k,e.id≠x.id:=by rw[DI,Xb,WB];constructor;rintro ⟨c,g⟩;exact⟨c,fun x f=>by grind⟩;rintro ⟨c,g⟩;exact⟨c,fun x f=>by grind⟩
theorem JJ(c:eD s.es)(t:N):(gN s t).Pairwise fun a b=>a.id<b.id:=by grind[eD,gN]
theorem c3q(o:eD s.es)(C:e∈oi s t k)(D:cA t e=UE)(h:∀ x∈oi s t k,cA t x=UE->e.id<=x.id):∃ f:k<(gN s t).length,e=(gN s t)[k]:=by
 let⟨h1,h2⟩:=AO.1 C;have r:e∈gN s t:=Xb.2 ⟨h1,D⟩;obtain⟨j,z,rfl⟩:=Xs r;have g:=Xr.1 (JJ o t);have y:k<=j:=by
  by_cases c:j<k
  .exact UA rfl (h2 (gN s t)[j] (by
    have:j<((gN s t).take k).length:=by rw[XW];omega
    have E:=zg this;rwa [X8] at E))
  .omega
 have f:k<(gN s t).length:=O;refine⟨f,?_⟩;by_cases c:j=k
 .subst c;rfl
 .have m:(gN s t)[k]∈oi s t k:=by refine AO.2 ⟨(Xb.1 (zg f)).1,fun x q H=>?_⟩;obtain⟨i,A,rfl⟩:=Xs q;rw[X8] at H;rw[XW] at A;have:=g i k O f O;omega
  have K:=h _ m (Xb.1 (zg f)).2;have I:=g k j f z O;omega
theorem c4X(h:eS s)(t:N)(k:Uw):eS { s with es:=oi s t k }:=by
 rw[DI];exact h.filter (given:=s.given) (now:=s.now) (ts:=s.ts) (es:=s.es) _ (W5 _) h.n1 (fun e g _ f=>by
  rcases (h.en e g).kd with c|c
  .exact UA c.1 f
  .exact c.2.1)
structure EX(w wx:UF)(d:Uw)(s:St)(aM:Uw->Uu bO)(t:N)(k:Uw)(v:UG)(rk:Raw)(ck:Uw->Uu bO):Prop where
 dk:DK wx d rk ck
 of:Of { s with es:=oi s t k } rk
 hl:Hl rk
 wl:Wl rk
 st:Step anyS w aM ck w wx
 nr:eO wx w ck v (((gN s t).take k).map fun e=>e.id)
def EI(w wx:UF)(d:Uw)(s:St)(c:Uw->Uu bO)(t:N)(k:Uw)(v:UG):Prop:=∃ f g,EX w wx d s c t k v f g
def A4(w:UF)(d:Uw)(s:St)(g:Uw->Uu bO)(t:N)(v:UG)(w':UF):Prop :=∃ (f:Raw) (c:Uw->Uu bO),DK w' d f c/\Of { s with es:=s.es.filter fun e=>!cA t e } f/\Wl f/\Hl f/\Step anyS w g c w w'/\eO w' w c v ((s.es.filter (cA t)).map fun e=>e.id)
theorem b5l{r:Raw}{y:Uw->Uu bO}(h:DK w d r y)(m:Hl r)(R:r.eg.length<=1000)(t:N):
  UI prog 205 #[UM (U ⟨d,5,UB⟩),t] w fun e w' =>
   ((∀ g∈r.eg,g.e.kind≠1->t<g.e.bY)/\e=UW (US #[UM UB,UD])/\w'=w) \/
   (∃ g∈r.eg,g.e.kind≠1/\g.e.bY<=t/\(∀ x∈r.eg,x.e.kind≠1->¬ Hp.ahead (jW x) (jW g))/\e=UW (US #[g.eb,UE])/\∃ q f,Hp.iP q/\r.hl.Perm (jW g :: q)/\DK w' d { r with hl:=q } f/\Step (fun c=>c=.he\/c=.desk) w y f w w'):=by
 let⟨v,a1,a2⟩:=h.he;have H:=m.len;refine (b7P d 5 v r.hl t w a1 m.1 O).mono ?_;rintro e w' (⟨o,rfl,rfl⟩|⟨⟨o,I⟩,rfl,q,p,K,E⟩)
 .refine .inl ⟨fun g D C=>?_,rfl,rfl⟩;have z:=m.has D C;rcases o with o|o
  .rw[List.length_eq_zero_iff.1 o] at z;simp at z
  .let⟨i,hi,e⟩:=Xs z;have:=Hp.D9 m.1 i hi;rw[Hp.pQ hi,e] at this;unfold Hp.ahead jW at this;simp only at this;omega
 .let⟨g,D,C,e⟩:=m.at (x:=Hp.at_ r.hl 0) (by rw[Hp.pQ o];exact zg o);rw[e] at I E ⊢;refine .inr ⟨g,D,C,I,fun x P A=>?_,rfl,q,?_⟩
  .let⟨i,hi,e2⟩:=Xs (m.has P A);have:=Hp.D9 m.1 i hi;rw[Hp.pQ hi,e2,e] at this;exact this
  .let⟨f,k1,k2⟩:=h.heap a2 p;exact⟨f,K,E,k1,k2⟩
def JX(w:UF)(d:Uw)(s:St)(h:Uw->Uu bO)(g:EG)(w':UF):Prop :=∃ (f:Raw) (c:Uw->Uu bO),DK w' d f c/\Of { s with es:=kept g.e.id s.es } f/\Wl f/\Hl f/\Step uY w h c w w'
theorem Fo{r:Raw}{A:Uw->Uu bO}(h:DK w d r A)(q:Of s r)(C:Wl r)(f:eS s){g:EG}(m:g∈r.eg)(H:Hl { r with eg:=gF g.e.id r.eg }):UI prog 155 #[d,g.eb] w fun e w'=>e=UW (US #[])/\JX w d s A g w':=by
 have P:=f.mZ _ (q.mem m);have R:=f.g1;by_cases y:g.e.kind=3
 .refine (b8h h m y O (fun b I=>?_) ?_).mono ?_
  .rw[C] at I;obtain⟨x,K,rfl⟩:=VQ.1 I;exact⟨x,(Xb.1 K).1,rfl⟩
  .rw[C,We];have W:=Wj (fun g:EG=>g.e.kind==3) r.eg;have T:=kS f;have S:r.eg.length=s.es.length:=by rw[<- q.es];simp
   omega
  .rintro e w' ⟨rfl,c,E,D⟩;refine⟨rfl,_,c,E,?_,C.goes h.ni h.nd m,H,D⟩;have o:=q.xt f.ids h.ni m y;exact⟨o.now,o.given,o.ts,o.es,o.th,o.tb⟩
 .let⟨i,hi,hname,htb⟩:=q.tb g m;have z:=EF f q hi;refine aK (b8i h m y i hi htb (Ec f q (f.en _ (q.mem m)) hi) z.1 z.2 (c2L f q m y hi hname) O) ?_;rintro w' ⟨c,E,D⟩;exact⟨rfl,_,c,E,q.goes f.tn f.ids h.ni m y hi hname,C.qd h.ni m y,H,D⟩
def lenOf:UG->Uw
 |.slice _ n _=>n
 |_=>0
theorem eO.len{c:Uw->Uu bO}(h:eO w B c v l):lenOf v=l.length:=by obtain⟨a,cap,rfl⟩:=h.slice;rfl
theorem EX.gone{q:Uw->Uu bO}{R:Raw}{I K:Uw->Uu bO}(h:EX w wx d s q t k v R I)(H:k<(gN s t).length){g:EG}(A:g.e=(gN s t)[k])(D:Step (fun c=>c=.he\/c=.desk) wx I K wx w1)(sp:JX w1 d { s with es:=oi s t k } K g w2)(E:aH v.ownBlock.toList w2 w3)(z:∀ f,(∀ b,v.ownBlock=U b->f b=UB)->(∀ b,w2.heap.size<=b->f b=UB)->eO w3 w f v' ((((gN s t).take k).map fun e=>e.id)++[g.e.id])):EI w w3 d s q t (k+1) v':=by
 let⟨r2,f,q1,q2,q3,q4,q5⟩:=sp;have o:=(h.nr.step D aJ).step q5 aJ;have m:=o.no;have x:Step anyS w f f w2 w3:=⟨⟨_,E,fun y r=>.inr ⟨m y (Wn.1 r),(o.own.lt y (Wn.1 r)).1⟩⟩,fun _ _ h=>h,fun _ _ h=>.inl h⟩;have C:=h.st.trans (D.any h.st.size);have P:=C.trans (q5.any C.size);refine⟨r2,f,q1.off E (fun y r=>m y (Wn.1 r)),?_,q4,q3,P.trans x,?_⟩
 .rw[c3p s t H,<- A];exact q2
 .rw[VL H,VU];have:[(gN s t)[k]].map (fun e=>e.id)=[g.e.id]:=Uo
  rw[this];exact z f m (fun b S=>q1.none S)
theorem c0U{r:Raw}{m:Uw->Uu bO}(h:DK w d r m)(ho:Of s r)(hw:Wl r)(hh:Hl r)(hm:eS s)(t:N)(ht:∀ e∈s.es,e.kind≠1->t<=e.bY):UI prog 161 #[UM (U ⟨d,0,UB⟩),V Y t] w fun e w'=>∃ v,e=UW v/\A4 w d s m t v w':=by
 obtain⟨i0,av,ao,an,al⟩:=info_parts qC;have E0:Hid (EI w w d s m t 0 (UO UB 0 0)):=⟨r,m,h,ho,hh,hw,Step.refl _ _ _ _,eO.nil _ _ _⟩;have HM:=aB (Vf hm ht);clear h ho hw hh hm ht;go_in;go_wp2_with fail;go_loopw [5,6,7] (fun vg _ _ wx=>∃ k:Uw,k<=(gN s t).length/\EI w wx d s m t k vg) (fun vg _ _ _=>(gN s t).length-lenOf vg)
 case atStart=>exact⟨0,VM _,E0.out⟩
 case round =>
  obtain⟨k,hk,T,ck,X⟩:=hrel;have P:=c4X HM.out.1 t k;have H:T.eg.length<=1000:=by
   have h2:T.eg.length=(oi s t k).length:=by have:=X.of.es;rw[<- We (f:=(·.e)),this]
   have h3:=kS P;simp only at h3;omega
  have TB:=aB (b5l X.dk X.hl H t);have aa:lenOf u5=k:=by rw[X.nr.len,We,XW];omega
  have S:=aB X;have ai:=aB P;have ay:=aB aa;clear X P H aa;go_wp2_with fail;refine TB.out.mono ?_;rintro e w1 (⟨h1,rfl,rfl⟩|⟨g,K,z,aq,E,rfl,l',c1,s1,s2,s3,s4⟩)
  .have HF:Hid (A4 w d s m t u5 w1):=by
    have X:=S.out;have ad:(gN s t).length<=k:=by
     by_cases c:k<(gN s t).length
     .exfalso;obtain⟨m1,m2⟩:=Xb.1 (zg c)
      have A:(gN s t)[k]∈oi s t k:=by refine AO.2 ⟨m1,fun x hx e1=>?_⟩;obtain⟨j,hj,rfl⟩:=Xs hx;rw[X8] at e1;rw[XW] at hj;have:=Xr.1 (JJ HM.out.1.ids t) j k O c O;omega
      obtain⟨g,K,e1⟩:=X.of.get A;unfold cA at m2;rw[<- e1,Wu,decide_eq_true_iff] at m2;have:=h1 g K (by simpa using m2.1);omega
     .omega
    have e1:=Ty s t HM.out.1.ids ad;have o:=X.of;rw[e1] at o;have n:=X.nr;rw[VN ad] at n;exact⟨T,ck,X.dk,o,X.wl,X.hl,X.st,n⟩
   clear h1 TB S;go_wp2;go_ret;exact⟨_,rfl,HF.out⟩
  .have X:=S.out
   have C:∃ ae:k<(gN s t).length,g.e=(gN s t)[k]:=by have A:=X.of.mem K;have aw:=(AO.1 A).1;have a4:=HM.out.2 _ aw z;refine c3q HM.out.1.ids A (by unfold cA;rw[Wu,decide_eq_true_iff];exact⟨by simpa using z,by omega⟩) (fun x hx hb=>?_);obtain⟨y,hy,rfl⟩:=X.of.get hx;unfold cA at hb;rw[Wu,decide_eq_true_iff] at hb;have:=E y hy (by simpa using hb.1);unfold Hp.ahead jW at this;simp only at this;omega
   obtain⟨ae,C⟩:=C;have aj:Hl { T with hl:=l',eg:=gF g.e.id T.eg }:=X.hl.goes X.dk.ni K z (x:=jW g) rfl s1 s2;have LV:=aB (Fo (r:={ T with hl:=l' }) s3 ⟨X.of.now,X.of.given,X.of.ts,X.of.es,X.of.th,X.of.tb⟩ X.wl ai.out K aj);have R:=aB (Vf s4 (Vf C ae));have EN:=aB (s3.en g K);clear s1 s2 s3 s4 E aq C aj X TB z K;go_wp2_with fail;refine LV.out.mono ?_;rintro e w2 ⟨rfl,sp⟩;have SP:=aB sp;obtain⟨r2,c2,q1,q2,q3,q4,q5⟩:=sp;have a7:=(q5.vI EN.out.1 (.inl ⟨_,EN.out.2.1,by unfold uY;simp⟩) (.inl ⟨_,EN.out.2.2,by unfold uY;simp⟩)).en.c0;have NR:=aB ((S.out.nr.step R.out.1 (zq _)).step q5 (zq _));have a3:w.heap.size<=w2.heap.size:=U0 (U0 S.out.st.size R.out.1.size) q5.size;have ac:((gN s t).take k).length<=60:=by
    have h1:=VT k (gN s t);have h2:=Wj (cA t) s.es;have h3:=kS HM.out.1;have h4:(gN s t).length<=60:=by unfold gN;omega
    rw[XW];omega
   have ar:(((gN s t).take k).map fun e=>e.id).length<=60:=by rw[We];exact ac
   clear q1 q2 q3 q4 q5 LV EN ac;go_wp2_with (first
    |(at_builtin;refine wpList_append_lies _ rfl _ _ 53 rfl w.heap.size 3 i0 _ 1 8 underlying53 av ao an al rfl Uj _ _ _ rfl (NR.out.own.alloc _) ⟨w2.heap.size,0,UB⟩ 1 1 [V Y g.e.id] rfl rfl (Wf (cs:=#[V Y g.e.id]) (dH w2 _)) Uq O Up O Un (w2.heap.size+1) Ui ?_;intro W ag w3 D q af az))
   have ko:aH u5.ownBlock.toList w2 w3:=aH.grown ((aH.refl _ w2).alloc _) q (fun k hk=>.inl (Wn.2 hk));have I:u5.ownBlock=U W\/W=w2.heap.size+1:=af;have HN:Hid (EI w w3 d s m t (k+1) (UO (U ⟨W,0,UB⟩) ((((gN s t).take k).map fun e=>e.id).length+1) ag)) :=
    S.out.gone R.out.2.2 R.out.2.1 R.out.1 SP.out ko (fun c2 n1 n2=>⟨by rw[VA,VU];exact D,fun b hb=>by
     have:W=b:=by simpa[V9] using hb
     subst this;rcases I with e|e
     .exact n1 W e
     .exact n2 W O⟩)
   have au:k+1<=(gN s t).length:=R.out.2.2;have ab:(((gN s t).take k).map fun e=>e.id).length=k:=by rw[We,XW];omega
   have ak:=aB ab;have ax:=aB ay.out;clear D q af ko I S SP NR R ai ab ar;go_roundw
   case rel=>exact⟨k+1,au,by have h:=HN.out;rw[ak.out] at h;exact h⟩
   case measure =>have:=ak.out;have:=ax.out;simp[lenOf] at *;omega
namespace aA
theorem b9g{now:N}(h:Inv ⟨ts,es,given,now⟩)(f:∀ e∈es,e.kind≠1->tq<e.bY)(k:Uw):gd ts (k+1) es now tq=(es,[],[]):=by
 by_cases c:now<tq
 .have q:eL tq es=tq:=by
   rcases (wK tq es).2.2 with e|⟨e,m,r,q⟩
   .exact e
   .have:=f e m r;have:=(wK tq es).1;omega
  have y:es.filter (fun e=>!cA tq e)=es:=Xc.2 (fun e m=>by
   cases g:cA tq e
   .rfl
   .unfold cA at g;rw[Wu,decide_eq_true_iff] at g;have:=f e m (by simpa using g.1)
    omega)
  have x:es.filter (cA tq)=[]:=by rw[List.filter_eq_nil_iff];intro e m g;unfold cA at g;rw[Wu,decide_eq_true_iff] at g;have:=f e m (by simpa using g.1);omega
  have o:=a9s h;simp only at o;rw[gd,Uz c];simp only[q,y,x,o]
  cases k with
  |zero=>rfl
  |succ k=>rw[gd,Uy O];rfl
 .rw[gd,Uy c]
theorem b9h{now:N}(y:now<t)(ht:t<=tq)(o:∃ e∈es,e.kind≠1/\e.bY=t)(m:∀ e∈es,e.kind≠1->t<=e.bY)(k:Uw):gd ts (k+1) es now tq=((gd ts k (dS ts (es.filter fun e=>!cA t e)).1 t tq).1,(es.filter (cA t)).map (·.id)++(gd ts k (dS ts (es.filter fun e=>!cA t e)).1 t tq).2.1,(dS ts (es.filter fun e=>!cA t e)).2++(gd ts k (dS ts (es.filter fun e=>!cA t e)).1 t tq).2.2):=by
 have r:eL tq es=t:=by
  obtain⟨e,h,g,rfl⟩:=o;have:=(wK tq es).2.1 e h g;rcases (wK tq es).2.2 with q|⟨x,f,c,q⟩
  .omega
  .have:=m x f c;omega
 rw[gd,Uz O];simp only[r]
theorem JE{now:N}(h:Inv ⟨ts,es,given,now⟩)(r:now<t)(ht:t<=1048320)(q:∀ e∈es,e.kind≠1->t<=e.bY):Inv ⟨ts,(dS ts (es.filter fun e=>!cA t e)).1,given,t⟩/\eS ⟨ts,es.filter (fun e=>!cA t e),given,t⟩:=by
 have g:eS ⟨ts,es.filter (fun e=>!cA t e),given,t⟩:=h.bA.filter _ O ht (fun e o f m=>by
  have:=q e o m;by_cases c:e.bY=t
  .have:cA t e=UE:=by unfold cA;rw[Wu,decide_eq_true_iff];exact⟨by simpa using m,c⟩
   rw[this] at f;cases f
  .omega)
 exact⟨Fh g,g⟩
theorem eS.oh{now:N}(h:eS ⟨ts,es,given,now⟩)(g:0<=now')(q:now'<=now):eS ⟨ts,es,given,now'⟩:=by
 refine⟨h.tl,h.tu,h.tn,h.ids,h.mZ,h.g0,h.g1,g,?_,fun e f=>?_,h.th,h.wa,h.wi⟩
 .have:=h.n1;simp only at *;omega
 .have k:=h.en e f;refine⟨k.u1,k.u9,k.sl,k.s0,k.sp,k.ri,?_⟩;rcases k.kd with c|⟨c,r,o,m⟩
  .exact .inl c
  .exact .inr ⟨c,by grind,o,m⟩
end aA
def bT(c at_ n:N)(g m f h:UG):UG:=.agg #[c,at_,n,g,m,f,h]
structure Q7(Z:UF)(Q:Uw):Prop where
 q0:Z.cell? (Q,0)=U (V Y 0)
 q1:Z.cell? (Q,1)=U (V Y 0)
 q2:Z.cell? (Q,2)=U (V Y 0)
 q3:Z.cell? (Q,3)=U ↑()
 q4:Z.cell? (Q,4)=U ↑()
 q5:Z.cell? (Q,5)=U ↑()
 q6:Z.cell? (Q,6)=U ↑()
 fq:∀ o,Z.frozen? ⟨Q,o,UB⟩=UD
def bI:Obj:=UX #[V Y 0,V Y 0,V Y 0,(),(),(),()] 74 (0,0)
theorem Q7.of(h:w.heap[Q]?=U bI):Q7 w Q:=by unfold bI at h;refine⟨?_,?_,?_,?_,?_,?_,?_,fun o=>frozen_of_row _ Q o _ _ h⟩;all_goals (simp only[Vk,h];rfl)
theorem Q7.later(h:Q7 w Q)(c:w'.heap[Q]?=w.heap[Q]?):Q7 w' Q :=⟨(zo c).trans h.q0,(zo c).trans h.q1,(zo c).trans h.q2,(zo c).trans h.q3,(zo c).trans h.q4,(zo c).trans h.q5,(zo c).trans h.q6,fun o=>(Wk c).trans (h.fq o)⟩
def dE(Z:UF)(Q:Uw)(a b c d e f g:UG):UF:=((((((Z.setCell (Q,0) a).setCell (Q,1) b).setCell (Q,2) c).setCell (Q,3) d).setCell (Q,4) e).setCell (Q,5) f).setCell (Q,6) g
theorem mY(Z:UF)(Q:Uw)(a b c d e f g:UG):aH [Q] Z (dE Z Q a b c d e f g) :=(((((((aH.refl [Q] Z).setCell (.inl Ui) _ _).setCell (.inl Ui) _ _).setCell (.inl Ui) _ _).setCell (.inl Ui) _ _).setCell (.inl Ui) _ _).setCell (.inl Ui) _ _).setCell (.inl Ui) _ _
theorem BA(a:Obj):UH w w ((w.alloc a).alloc bI)/\((w.alloc a).alloc bI).heap[w.heap.size+1]?=U bI:=by refine⟨aS.alloc Ui _,?_⟩;have:=dH (w.alloc a) bI;rwa [World.size_alloc] at this
theorem bN{cs:Array UG}{t:TypeId}(h:Z.heap[Q]?=U (UX cs t))(i:Uw)(c:cs[i]?=U v):Z.cell? (Q,i)=U v:=by simp[Vk,h,c]
theorem qR(w:UF)(o:Obj):UH w w ((w.alloc o).alloc bI)/\((w.alloc o).alloc bI).heap[w.heap.size+1]?=U bI/\((w.alloc o).alloc bI).heap[w.heap.size]?=U o/\w+1<((w.alloc o).alloc bI).heap.size :=⟨(BA o).1,(BA o).2,(Below.heap_alloc _ _ _ Ui).trans (dH w o),by simp⟩
theorem cV{fn:Func}{R:Ending->UF->Prop}{tm:Array UG}{a b c e f g i:UG}(o:fn.results=#[.cell k 74])(h:Q7 Z Q)(m:R (UW (.agg #[a,b,c,e,f,g,i])) (dE Z Q a b c e f g i))(ht:tm[k]?=U ↑Q:=by rfl):bodyPost prog fn R .ret ⟨tm,[]⟩ (dE Z Q a b c e f g i):=by let⟨q0,q1,q2,q3,q4,q5,q6,_⟩:=h;refine bodyPost_ret ?_ rfl m;simp only[results,o];simp[ht,go_sem,dE,q0,q1,q2,q3,q4,q5,q6]
end Go.Proofs.YtolaacmheeaadaaGreatDoor
