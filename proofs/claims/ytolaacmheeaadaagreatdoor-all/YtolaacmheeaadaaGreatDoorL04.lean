import Derived.Test.YtolaacmheeaadaaGreatDoorL03
set_option maxRecDepth 100000
set_option maxHeartbeats 8000000
open Go.Proofs.Tryz
open _root_ renaming ByteArray->Xm,List->Xn,Option->Xo,Bool->Xp,Nat->Xq,Int->Xr,if_neg->Xs,if_pos->Xt,absurd->Xu,Int->N,List->J
open Option renaming none->Xv,some->Xw,mem_toList->Zl,some->U
open Bool renaming false->Xx,true->Xy,false_eq_true->X4,not_true->X0,and_eq_true->Zr
open Go renaming World->Xz,Value->XA,Calls->XD
open Go.RowKit renaming Below->XC
open Int renaming mul_nonneg->YF,le_refl->ZQ
open List renaming filter_cons->Ym,mem_append->X8,mem_cons->X7,mem_filter->ZW,any_eq_true->ZY,pairwise_append->ZT,map_append->YS,mem_map->YN,pairwise_cons->Yk,filter_append->Yl,drop_eq_nil_of_le->Zh,drop_eq_getElem_cons->Zg,nodup_cons->Ya,filter_eq_self->ZX,length_cons->Yy,take_succ_eq_append_getElem->YI,getElem?_eq_getElem->Zu,take_of_length_le->YK,all_eq_true->Zx,length_map->Zd,length_filter_le->Zi,foldl_cons->Zs,length_append->Yx,foldl_append->ZZ,length_take_le->YR
open Go.IntKind renaming i64->XP,i64->Y
open Go.World renaming block_lt_of_cell?->XV,frozen?_of_block->Zj,cell?_setCell_same->Yb,news_of_block->Ze,cell?->Yh
open Nat renaming lt_of_lt_of_le->YM,zero_le->YJ,le_trans->XU
open List.Sublist renaming nodup->Yp
open And renaming intro->Yc
open Go.Value renaming ownBlock->Y9,int->XG,pointer->XH,slice->XI,tuple->XL,int->V
open Go.Ending renaming returned->XQ
open Go.Obj renaming cells->XR
namespace Go.Proofs.YtolaacmheeaadaaGreatDoor
variable{a b name:Xm}{e:aA.aQ}{given id now' t tq u:Xr}{at':Xr->Xq}{ts:Xn (Xm × Xr)}{L:Xn (Xr × Xr)}{es es':Xn aA.aQ}{Gr l:Xn Xr}{F G M:Xn Xq}{cs xs:Xn XA}{B B' B0 Q cap d fn i j k n:Xq}{p:Xq->Xp}{s:aA.St}{v v' v4:XA}{Z w w' w1 w2 w3 wx:Xz}
namespace aA
theorem jr.small{now:N}(h:jr now e):Small e:=⟨by have:=h.u1;omega,h.u9,by have:=h.sl;omega⟩
structure eS(s:St):Prop where
 tl:s.ts.length<=4
 tu:∀ t∈s.ts,1<=t.2/\t.2<=9
 tn:s.ts.Pairwise fun t u=>dI t.1 u.1=Xx
 ids:eD s.es
 nK:∀ e∈s.es,1<=e.id/\e.id<=s.given
 g0:0<=s.given
 g1:s.given<=60
 n0:0<=s.now
 n1:s.now<=1048320
 en:∀ e∈s.es,jr s.now e
 th:∀ e∈s.es,e.aN<=cI e.bH s.ts
 wa:fC s.es<=6
 wi:∀ name x,cM name x s.es<=cI name s.ts
theorem Inv.bA(h:Inv s):eS s:=by grind[Inv.bA]
theorem eS.inv(h:eS s)(c:∀ e∈s.es,e.kind=3->eT s.ts s.es e.bH e.aN e.aR=Xx):Inv s:=⟨h.tl,h.tu,h.tn,h.ids,h.nK,h.g0,h.g1,h.n0,h.n1,h.en,h.th,h.wa,c,h.wi⟩
theorem eS.small(h:eS s):∀ e∈s.es,Small e:=fun e c=>(h.en e c).small
theorem eS.pos(h:eS s):Pos s.es:=Small.pos h.small
theorem Gf{a b:Xm}(h:dI a b=Xy):∀ ts:J (Xm × N),cI a ts=cI b ts
 |[]=>rfl
 |t :: r=>by simp only[cI,MK (c:=t.1) h,Gf h r]
theorem VT(h:dI a b=Xy)(e:aQ):dB a e=dB b e:=by unfold dB;rw[MK h]
theorem Ge{a b:Xm}(h:dI a b=Xy)(x:N):∀ es:J aQ,cM a x es=cM b x es
 |[]=>rfl
 |e :: r=>by simp only[cM,VT h,Ge h x r]
theorem Gc(h:∀ t∈ts,1<=t.2/\t.2<=9)(name:Xm):0<=cI name ts/\cI name ts<=9:=by
 induction ts with
 |nil=>simp[cI]
 |cons t r ih =>have i:=ih (fun u c=>h u (by simp[c]));have j:=h t Xc;simp only[cI];split <;> omega
theorem a6v{x:N}(h:Pos es):0<=cM name x es:=by
 induction es with
 |nil=>simp[cM]
 |cons e r ih =>have i:=ih (fun z f=>h z (by simp[f]));have c:=YF (sK e.aR x).1 (h e Xc);simp only[cM];split <;> omega
theorem MW{name:Xm}{x:N}(p:aQ->Xp):∀ {es:J aQ},Pos es->cM name x (es.filter p)<=cM name x es
 |[],_=>ZQ _
 |e :: r,h=>by
  have i:=MW (name:=name) (x:=x) p (es:=r) (fun z f=>h z (by simp[f]));have c:=YF (sK e.aR x).1 (h e Xc);rw[Ym];split
  .simp only[cM];omega
  .simp only[cM];split <;> omega
theorem Mr(o:Pos es)(f:Pos es')(g:0<=u)(h:∀ x,cM name x es<=cM name x es')(k:eT ts es name u L=Xx):eT ts es' name u L=Xx:=by
 cases c:eT ts es' name u L
 .rfl
 .have:eT ts es name u L=Xy:=(wL o g).2 (fun x m=>by have:=(wL f g).1 c x m;have:=h x;omega)
  rw[this] at k;cases k
theorem L3(name:Xm)(x:N)(l r:J aQ)(e:aQ)(c:e.kind=3):cM name x (l++ek e :: r)=cM name x (l++e :: r)+if dI e.bH name then eM e.aR x*e.aN else 0:=by
 have o:dB name e=Xx:=by simp[dB,c]
 rw[wQ,wQ];simp only[cM,o,tW,X4,if_false];show _+((if dI e.bH name=Xy then eM e.aR x*e.aN else 0)+_)=_;omega
theorem TO{l r:J aQ}{c:aQ}(h:eD (l++e :: r))(k:c.id=e.id):eD (l++c :: r):=by unfold eD at *;simpa[k] using h
theorem Gg(l r:J aQ):fC (l++r)=fC l+fC r:=by grind[fC]
theorem FK(e:aQ)(r:J aQ):fC (e :: r)=(if e.kind=3 then 1 else 0)+fC r:=by grind[fC]
theorem jr.book{now:N}(h:jr now e):jr now (ek e):=⟨h.u1,h.u9,h.sl,h.s0,h.sp,h.ri,.inl ⟨rfl,rfl⟩⟩
theorem eS.sW{l r:J aQ}{now:N}(h:eS ⟨ts,l++e :: r,given,now⟩)(o:e.kind=3)(q:eT ts (l++e :: r) e.bH e.aN e.aR=Xy):eS ⟨ts,l++ek e :: r,given,now⟩:=by
 have m:e∈l++e :: r:=Xc;have g:∀ z∈l++ek e :: r,z=ek e\/z∈l++e :: r:=Xi;have u1:=(h.en e m).u1;refine⟨h.tl,h.tu,h.tn,TO h.ids rfl,fun z f=>?_,h.g0,h.g1,h.n0,h.n1,fun z f=>?_,fun z f=>?_,?_,fun name x=>?_⟩
 .rcases g z f with rfl|f
  .exact h.nK e m
  .exact h.nK z f
 .rcases g z f with rfl|f
  .exact (h.en e m).book
  .exact h.en z f
 .rcases g z f with rfl|f
  .exact h.th e m
  .exact h.th z f
 .have:=h.wa;show fC (l++ek e :: r)<=6;have this:fC (l++e :: r)<=6:=this;rw[Gg,FK] at this ⊢;have y:(ek e).kind=1:=rfl;rw[Xs Xi];rw[Xt o] at this;omega
 .show cM name x (l++ek e :: r)<=cI name ts;rw[L3 name x l r e o];have w:cM name x (l++e :: r)<=cI name ts:=h.wi name x
  split
  .rename_i c
   by_cases t:0<eM e.aR x
   .have:=(wL h.pos O).1 q x t;rw[Ge c x,Gf c ts] at this;exact this
   .have b:=(sK e.aR x).1;have:eM e.aR x=0:=O
    rw[this];simpa using w
  .omega
theorem FQ(ts:J (Xm × N))(given now:N):∀ (r f:J aQ),eS ⟨ts,f++r,given,now⟩->(∀ e∈f,e.kind=3->eT ts (f++r) e.bH e.aN e.aR=Xx) ->Inv ⟨ts,(eU ts f r).1,given,now⟩
 |[],f,h,no=>by simp only[eU];rw[List.append_nil] at h no;exact h.inv no
 |e :: r,f,h,no=>by
  simp only[eU];by_cases c:e.kind=3/\eT ts (f++e :: r) e.bH e.aN e.aR=Xy
  .rw[Xt c];have y:=h.sW c.1 c.2;refine FQ ts given now r (f++[ek e]) Xi (fun z g m=>?_);rcases X8.1 g with g|g
   .have o:z∈f++e :: r:=by simp[g]
    refine Mr (es:=f++e :: r) h.pos (bV y.pos) (by have:=(h.en z o).u1;omega) (fun x=>?_) (no z g m);rw[show f++[ek e]++r=f++ek e :: r from by simp,L3 _ x f r e c.1];have:=YF (sK e.aR x).1 (show 0<=e.aN by have:=(h.en e Xc).u1;omega);split <;> omega
   .have:z=ek e:=Xi
    rw[this] at m;exact Xu m (by show ¬ (1:N)=3;omega)
  .rw[Xs c];refine FQ ts given now r (f++[e]) Xi (fun z g m=>?_);rw[show f++[e]++r=f++e :: r from by simp];rcases X8.1 g with g|g
   .exact no z g m
   .have:z=e:=Xi
    subst this
    cases q:eT ts (f++z :: r) z.bH z.aN z.aR
    .rfl
    .exact Xu ⟨m,q⟩ c
theorem Ff{now:N}(h:eS ⟨ts,es,given,now⟩):Inv ⟨ts,(dS ts es).1,given,now⟩ :=FQ ts given now es [] Xi Xc
theorem Me(ts:J (Xm × N)):∀ (r c:J aQ),(∀ e∈r,e.kind=3->eT ts (c++r) e.bH e.aN e.aR=Xx)->eU ts c r=(c++r,[])
 |[],c,_=>by simp[eU]
 |e :: r,c,h=>by simp only[eU];rw[Xs];rw[Me ts r (c++[e]) (fun z m o=>by grind)];simp;rintro ⟨g,f⟩;rw[h e Xc g] at f;cases f
theorem a9s(h:Inv s):dS s.ts s.es=(s.es,[]):=by unfold dS;rw[Me s.ts s.es [] (bV h.no)];simp
theorem wI(tq:N):∀ es:J aQ,eL tq es<=tq/\(∀ e∈es,e.kind≠1->eL tq es<=e.bZ)/\(eL tq es=tq\/∃ e∈es,e.kind≠1/\e.bZ=eL tq es)
 |[]=>⟨ZQ _,by simp,.inl rfl⟩
 |e :: r=>by
  let⟨h1,h2,h⟩:=wI tq r;simp only[eL];split
  .rename_i c
   refine⟨O,fun z f g=>?_,.inr ⟨e,by simp,c.1,rfl⟩⟩;rcases X7.1 f with rfl|f
   .omega
   .have:=h2 z f g;omega
  .rename_i c
   refine⟨h1,fun z f g=>?_,?_⟩
   .rcases X7.1 f with rfl|f
    .apply Classical.byContradiction;intro d;exact c ⟨g,O⟩
    .exact h2 z f g
   .rcases h with h|⟨z,f,k⟩
    .exact .inl h
    .exact .inr ⟨z,by simp[f],k⟩
theorem b2w(p:aQ->Xp)(l:J aQ):fC (l.filter p)<=fC l:=by unfold fC;have:=((List.filter_sublist (p:=p) (l:=l)).filter (fun e=>e.kind==3)).length_le;omega
theorem eS.filter{now:N}(h:eS ⟨ts,es,given,now⟩)(p:aQ->Xp)(C:now<=now')(m:now'<=1048320)(r:∀ e∈es,p e=Xy->e.kind≠1->now'<e.bZ):eS ⟨ts,es.filter p,given,now'⟩:=by
 have y:=h.n0;have c:∀ z∈es.filter p,z∈es:=fun z f=>(ZW.1 f).1;refine⟨h.tl,h.tu,h.tn,Bg p h.ids,fun z f=>h.nK z (c z f),h.g0,h.g1,by grind,m,fun z f=>?_,fun z f=>h.th z (c z f),?_,fun name x=>?_⟩
 .have k:=h.en z (c z f);refine⟨k.u1,k.u9,k.sl,k.s0,k.sp,k.ri,?_⟩;rcases k.kd with g|⟨g,A,q,o⟩
  .exact .inl g
  .exact .inr ⟨g,r z (c z f) (ZW.1 f).2 O,q,o⟩
 .have:=h.wa;have this:fC es<=6:=this;have:=b2w p es;show fC (es.filter p)<=6;omega
 .have a:=MW (name:=name) (x:=x) p h.pos;have b:=h.wi name x;show cM name x (es.filter p)<=cI name ts;have a:cM name x (es.filter p)<=cM name x es:=a;have b:cM name x es<=cI name ts:=b;omega
theorem uT(ts:J (Xm × N)):∀ (r c:J aQ),(eU ts c r).1.length=c.length+r.length
 |[],c=>by simp[eU]
 |e :: r,c=>by simp only[eU];split;show (eU ts (c++[ek e]) r).1.length=_;rw[uT ts r];simp;omega;rw[uT ts r];simp;omega
theorem yz(ts:J (Xm × N))(es:J aQ):(dS ts es).1.length=es.length:=by unfold dS;rw[uT];simp
theorem LJ(ts:J (Xm × N))(given tq:N)(ht:tq<=1048320):∀ (k:Xq)(es:J aQ)(now:N),es.length<k\/now=tq->now<=tq->Inv ⟨ts,es,given,now⟩->Inv ⟨ts,(gd ts k es now tq).1,given,tq⟩
 |0,es,now,hk,hle,h=>by have:now=tq:=O;subst this;simpa[gd] using h
 |k+1,es,now,hk,hle,h=>by
  simp only[gd];by_cases c:now<tq
  .rw[Xt c];let⟨n1,n2,n3⟩:=wI tq es
   have I:now<eL tq es:=by
    rcases n3 with e|⟨z,q,o,e⟩
    .omega
    .rcases (h.en z q).kd with C|⟨_,x,_⟩
     .exact Xu C.1 o
     .have x:now<z.bZ:=x;omega
   have D:=h.bA.filter (now':=eL tq es) (fun e=>!cA (eL tq es) e) O O (fun e H m f=>by
    have:=n2 e H f;have m:=m;simp[cA] at m;rcases m with A|A
    .exact Xu A f
    .omega)
   have E:=Ff D;refine LJ ts given tq ht k _ _ ?_ n1 E;by_cases e:eL tq es=tq
   .exact .inr e
   .left;rcases n3 with r |⟨z,q,o,r⟩
    .exact Xu r e
    .rw[yz]
     have:(es.filter fun e=>!cA (eL tq es) e).length<es.length:=by
      rw[<- List.countP_eq_length_filter];have y:¬ List.countP (fun e=>!cA (eL tq es) e) es=es.length:=by rw[List.countP_eq_length];intro g;have:=g z q;simp[cA,r] at this;exact o this
      have:=List.countP_le_length (p:=fun e=>!cA (eL tq es) e) (l:=es);omega
     omega
  .rw[Xs c];have:now=tq:=O
   subst this;exact h
theorem Ga(name:Xm)(t:Xm × N):∀ ts:J (Xm × N),cI name (ts++[t])=if (ts.any fun u=>dI u.1 name)=Xy then cI name ts else if dI t.1 name then t.2 else 0
 |[]=>by simp[cI]
 |u :: r=>by
  have ih:=Ga name t r;have o:cI name (u :: r++[t])=if dI u.1 name then u.2 else cI name (r++[t]):=rfl;have m:cI name (u :: r)=if dI u.1 name then u.2 else cI name r:=rfl;rw[o,m];by_cases h:dI u.1 name=Xy
  .have:((u :: r).any fun u=>dI u.1 name)=Xy:=ZY.2 ⟨u,by simp,h⟩;rw[Xt h,Xt h,Xt this]
  .rw[Xs h,Xs h,ih]
   by_cases c:(r.any fun u=>dI u.1 name)=Xy
   .have:((u :: r).any fun u=>dI u.1 name)=Xy:=by let⟨z,f,k⟩:=ZY.1 c;exact ZY.2 ⟨z,by simp[f],k⟩
    rw[Xt c,Xt this]
   .have:¬ ((u :: r).any fun u=>dI u.1 name)=Xy:=by
     intro g;let⟨z,f,k⟩:=ZY.1 g;rcases X7.1 f with e|f
     .rw[e] at k;exact h k
     .exact c (ZY.2 ⟨z,f,k⟩)
    rw[Xs c,Xs this]
theorem za{name:Xm}:∀ {ts:J (Xm × N)},(∀ t∈ts,1<=t.2/\t.2<=9)->(cI name ts=0↔∀ t∈ts,dI t.1 name=Xx)
 |[],_=>by simp[cI]
 |u :: r,h=>by
  have i:=za (name:=name) (ts:=r) (fun t ht=>h t (by simp[ht]));have j:=h u Xc;simp only[cI,List.forall_mem_cons]
  cases c:dI u.1 name
  .simp only[X4,if_false,true_and];exact i
  .simp only[if_true];constructor
   .intro e;omega
   .rintro ⟨e,_⟩;cases e
theorem a8F{t:Xm × N}(h:∀ t∈ts,1<=t.2/\t.2<=9)(g:cI name ts≠0):cI name (ts++[t])=cI name ts:=by
 rw[Ga,Xt]
 cases c:ts.any fun u=>dI u.1 name
 .exfalso;apply g;rw[za h];intro u f
  cases d:dI u.1 name
  .rfl
  .have:ts.any (fun u=>dI u.1 name)=Xy:=ZY.2 ⟨u,f,d⟩;rw[this] at c;cases c
 .rfl
theorem Inv.bH(h:Inv s)(o:1<=u/\u<=9)(q:cI name s.ts=0)(C:s.ts.length≠4):Inv { s with ts:=s.ts++[(name,u)] }:=by
 have g:=(za h.tu).1 q;have un:∀ m,cI m s.ts≠0->cI m (s.ts++[(name,u)])=cI m s.ts:=fun m r=>a8F h.tu r;have pos:∀ e∈s.es,cI e.bH s.ts≠0:=fun e f=>by have:=h.th e f;have:=(h.en e f).u1;omega
 have A:=h.tl;refine⟨?_,fun t ht=>?_,?_,h.ids,h.nK,h.g0,h.g1,h.n0,h.n1,h.en,fun e f=>?_,h.wa,fun e f y=>?_,fun m x=>?_⟩
 .show (s.ts++[(name,u)]).length<=4;simp;omega
 .rcases X8.1 ht with ht|ht
  .exact h.tu t ht
  .have:t=(name,u):=Xi
   subst this;exact o
 .show (s.ts++[(name,u)]).Pairwise _;rw[ZT];refine⟨h.tn,by simp,fun a z b D=>?_⟩;have:b=(name,u):=Xi
  subst this;exact g a z
 .show e.aN<=cI e.bH (s.ts++[(name,u)]);rw[un _ (pos e f)];exact h.th e f
 .have:=h.no e f y;show eT (s.ts++[(name,u)]) s.es e.bH e.aN e.aR=Xx;unfold eT at this ⊢;rw[un _ (pos e f)];exact this
 .show cM m x s.es<=cI m (s.ts++[(name,u)])
  by_cases c:cI m s.ts=0
  .have w:=h.wi m x;have b:=a6v (name:=m) (x:=x) h.bA.pos
   have:0<=cI m (s.ts++[(name,u)]):=by
    rw[Ga];split
    .omega
    .split <;> simp <;> omega
   omega
  .rw[un m c];exact h.wi m x
theorem Inv.join(h:Inv s)(H:s.given≠60)(g:jr s.now e)(ht:e.aN<=cI e.bH s.ts)(r:e.kind=3->fC s.es≠6)(y:e.kind≠3->eT s.ts s.es e.bH e.aN e.aR=Xy):eS (lS s e).1:=by
 have P:=h.g0;have K:=h.g1;have o:=h.nK;have E:=h.wa;have q:jr s.now { e with id:=s.given+1 }:=⟨g.u1,g.u9,g.sl,g.s0,g.sp,g.ri,g.kd⟩;have m:∀ z∈s.es++[{ e with id:=s.given+1 }],z∈s.es\/z={ e with id:=s.given+1 }:=Xi;unfold lS;refine⟨h.tl,h.tu,h.tn,?_,fun z f=>?_,by grind,by grind,h.n0,h.n1,fun z f=>?_,fun z f=>?_,?_,fun name x=>?_⟩
 .show eD (s.es++[{ e with id:=s.given+1 }]);unfold eD;rw[YS,ZT];refine⟨h.ids,by simp,fun a A b I=>?_⟩;obtain⟨z,f,rfl⟩:=YN.1 A;have:b=s.given+1:=Xi
  have:=o z f;omega
 .rcases m z f with f|rfl
  .have:=o z f;show 1<=z.id/\z.id<=s.given+1;omega
  .show 1<=s.given+1/\s.given+1<=s.given+1;omega
 .rcases m z f with f|rfl
  .exact h.en z f
  .exact q
 .rcases m z f with f|rfl
  .exact h.th z f
  .exact ht
 .show fC (s.es++[{ e with id:=s.given+1 }])<=6;rw[Gg,FK];have D:fC ([]:J aQ)=0:=by simp[fC]
  rw[D];show fC s.es+((if e.kind=3 then 1 else 0)+0)<=6;by_cases c:e.kind=3
  .rw[Xt c];have:=r c;omega
  .rw[Xs c];omega
 .show cM name x (s.es++[{ e with id:=s.given+1 }])<=cI name s.ts;rw[wQ];have w:=h.wi name x;have C:cM name x [{ e with id:=s.given+1 }]=(if dB name e then eM e.aR x*e.aN else 0):=by simp[cM,dB]
  rw[C];by_cases c:dB name e=Xy
  .rw[Xt c];simp[dB] at c
   by_cases t:0<eM e.aR x
   .have:=(wL h.bA.pos (by have:=g.u1;omega)).1 (y c.2) x t;rw[Ge c.1 x,Gf c.1 s.ts] at this;exact this
   .have b:=(sK e.aR x).1;have:eM e.aR x=0:=O
    rw[this];simpa using w
  .rw[Xs c];omega
theorem My(g:eD es)(q:e∈es)(o:e.id=id):∃ l r,es=l++e :: r/\fc id es=l++ek e :: r/\kept id es=l++r:=by
 obtain⟨l,r,rfl⟩:=List.append_of_mem q;refine⟨l,r,rfl,?_,?_⟩
 .have f:∀ z∈l++r,z.id≠id:=by
   intro z c x;unfold eD at g;rw[YS,List.map_cons,ZT,Yk] at g;rcases X8.1 c with c|c
   .have:=g.2.2 z.id (YN.2 ⟨z,c,rfl⟩) e.id Xc;omega
   .have:=g.2.1.1 z.id (YN.2 ⟨z,c,rfl⟩);omega
  have m:=Bt (id:=id) (es:=l) (fun z c=>f z (by simp[c]));have h:=Bt (id:=id) (es:=r) (fun z c=>f z (by simp[c]));unfold fc at m h ⊢;rw[YS,List.map_cons,m,h,Xt o]
 .have f:∀ z∈l++r,z.id≠id:=by
   intro z c x;unfold eD at g;rw[YS,List.map_cons,ZT,Yk] at g;rcases X8.1 c with c|c
   .have:=g.2.2 z.id (YN.2 ⟨z,c,rfl⟩) e.id Xc;omega
   .have:=g.2.1.1 z.id (YN.2 ⟨z,c,rfl⟩);omega
  have m:=Fj (id:=id) (es:=l) (fun z c=>f z (by simp[c]));have h:=Fj (id:=id) (es:=r) (fun z c=>f z (by simp[c]));unfold kept at m h ⊢;rw[Yl,Ym,m,h,Xs Xi]
theorem b4o(name:Xm)(x:N)(l r:J aQ)(e:aQ)(c:e.kind≠3):cM name x (l++ek e :: r)=cM name x (l++e :: r):=by
 have o:dB name e=dI e.bH name:=by
  unfold dB;have:(e.kind != 3)=Xy:=by simp[c]
  rw[this,Bool.and_true]
 rw[wQ,wQ];simp only[cM,o,tW];rfl
theorem Inv.bL(h:Inv s)(m:e∈s.es)(q:e.id=id)(A:e.kind=2):Inv { s with es:=fc id s.es }:=by
 let⟨l,r,h1,h2,_⟩:=My h.ids m q;have y:∀ name x,cM name x (fc id s.es)=cM name x s.es:=fun name x=>by rw[h2,h1];exact b4o name x l r e O
 have f:∀ z∈fc id s.es,z=ek e\/z∈s.es:=Xi;have o:Pos (fc id s.es):=by
  intro z c;rcases f z c with rfl|c
  .exact h.bA.pos e m
  .exact h.bA.pos z c
 refine⟨h.tl,h.tu,h.tn,LO h.ids,fun z c=>?_,h.g0,h.g1,h.n0,h.n1,fun z c=>?_,fun z c=>?_,?_,fun z c g=>?_,fun name x=>?_⟩
 .rcases f z c with rfl|c
  .exact h.nK e m
  .exact h.nK z c
 .rcases f z c with rfl|c
  .exact (h.en e m).book
  .exact h.en z c
 .rcases f z c with rfl|c
  .exact h.th e m
  .exact h.th z c
 .have:=h.wa;show fC (fc id s.es)<=6;rw[h1] at this;rw[h2];rw[Gg,FK] at this ⊢;have C:(ek e).kind=1:=rfl;rw[Xs Xi];rw[Xs O] at this;exact this
 .rcases f z c with rfl|c
  .exact Xu g (by show ¬ (1:N)=3;omega)
  .exact Mr h.bA.pos o (by have:=(h.en z c).u1;omega) (fun x=>by grind) (h.no z c g)
 .show cM name x (fc id s.es)<=cI name s.ts;rw[y];exact h.wi name x
theorem Bh(h:mW id es=U e):e∈es/\e.id=id:=by grind[mW]
theorem Rd.mH{r:Rd.cP}(h:Rd.hH r)(g:Rd.iS r=0):qW (Rd.jd r (Rd.cN r))/\jC (Rd.jd r (Rd.cN r))/\Rd.jd r (Rd.cN r)≠[]/\(Rd.jd r (Rd.cN r)).length<=40:=by
 let⟨_,k1,k2,k3⟩:=(Rd.sG h).2 g;have x:=h.f0;have o:=h.m0;have q:=h.i1;refine⟨fun s f=>?_,?_,by simpa[Rd.jd] using k1,by simpa[Rd.jd] using k2⟩
 .obtain⟨d,c,rfl⟩:=YN.1 f;have a:=Rd.uX h c;have b:=k3 d c;show 0<=d*1440+r.mn/\d*1440+r.mn<d*1440+r.mn+r.mi/\d*1440+r.mn+r.mi<=1048320;omega
 .unfold jC Rd.jd;rw[List.pairwise_map];refine List.Pairwise.imp ?_ (Rd.L7 h);intro a b m;show a*1440+r.mn<b*1440+r.mn;omega
theorem Li(h:eW ts name u=0):cI name ts≠0/\u<=cI name ts:=by
 unfold eW at h;split at h
 .omega
 .split at h
  .omega
  .constructor <;> omega
theorem DU(h:Inv s){l:jb}(m:ke l):eS (aX s l).1:=by
 cases l with
 |bH name u =>
  simp only[aX];split
  .exact h.bA
  .split
   .exact h.bA
   .rename_i c1 c2
    exact (h.bH m Xi c2).bA
 |enter k name u fr til long =>
  simp only[aX];split
  .exact h.bA
  .rename_i c
   simp only[ne_eq,Decidable.not_not] at c;unfold qK at c;split at c
   .omega
   .rename_i c1
    simp only[ne_eq,Decidable.not_not] at c1;split at c
    .omega
    .rename_i c2
     split at c
     .omega
     .rename_i c3
      let⟨g,l1,l2,l3,l4,l5,l6⟩:=m;let⟨a1,a2⟩:=Li c1;have C:=h.n0;refine h.join c3 ⟨l1,l2,by simp[qE],by simp[qE],fun s A=>?_,by simp[qE,jC],?_⟩ a2 (fun f=>?_) (fun f=>?_)
      .have:s=(fr,til):=by simpa[qE] using A
       subst this;show 0<=fr/\fr<til/\til<=1048320;omega
      .show (k=1/\(if k=1 then 0 else s.now+long)=0)\/((k=2\/k=3)/\s.now<(if k=1 then 0 else s.now+long)/\(if k=1 then 0 else s.now+long)<=1048320/\[(fr,til)].length=1);rcases g with ⟨g,_⟩|⟨g,E,D⟩
       .exact .inl ⟨g,by grind⟩
       .rw[Xs O];exact .inr ⟨g,O,O,rfl⟩
      .have f:k=3:=f;rw[Xt f] at c
       split at c
       .omega
       .assumption
      .have f:k≠3:=f;rw[Xs f] at c;show eT s.ts s.es name u [(fr,til)]=Xy
       split at c
       .assumption
       .omega
 |series name u r =>
  simp only[aX];split
  .exact h.bA
  .rename_i c
   simp only[ne_eq,Decidable.not_not] at c;unfold oG at c;split at c
   .omega
   .rename_i c1
    simp only[ne_eq,Decidable.not_not] at c1;split at c
    .omega
    .rename_i c2
     simp only[ne_eq,Decidable.not_not] at c2;split at c
     .omega
     .rename_i c3
      let⟨l1,l2,l3⟩:=m;let⟨a1,a2⟩:=Li c1;let⟨p1,p2,p3,p4⟩:=Rd.mH l3 c2;refine h.join c3 ⟨l1,l2,p4,p3,p1,p2,.inl ⟨rfl,rfl⟩⟩ a2 (fun f=>?_) (fun _=>?_)
      .exact Xu f Xi
      .show eT s.ts s.es name u (Rd.jd r (Rd.cN r))=Xy
       split at c
       .assumption
       .omega
 |bL id =>
  simp only[aX]
  cases o:mW id s.es with
  |none=>exact h.bA
  |some e =>
   simp only;split
   .exact h.bA
   .rename_i c
    let⟨f1,f2⟩:=Bh o;exact (h.bL f1 f2 Xi).bA
 |cancel id =>
  simp only[aX]
  cases o:mW id s.es with
  |none=>exact h.bA
  |some e =>
   exact h.bA.filter (now':=s.now) (fun e=>e.id != id) (ZQ _) h.n1 (fun z y _ f=>by
    rcases (h.en z y).kd with q|⟨_,x,_⟩
    .exact Xu q.1 f
    .exact x)
 |list name fr til =>
  simp only[aX];split
  .exact h.bA
  .split <;> exact h.bA
 |waiting=>exact h.bA
 |ef name fr til =>
  simp only[aX];split
  .exact h.bA
  .split <;> exact h.bA
 |find name u long fr til =>
  simp only[aX];split
  .exact h.bA
  .split <;> exact h.bA
 |expand r =>simp only[aX];split <;> exact h.bA
 |tick n =>
  simp only[aX];split
  .exact h.bA
  .rename_i c
   have m:1<=n/\n<=1048320:=m;exact (LJ s.ts s.given (s.now+n) O (s.es.length+1) s.es s.now (.inl O) O h).bA
 |clock=>exact h.bA
theorem b7g{l:jb}(h:(aX s l).2.err≠0):(aX s l).1=s:=by
 cases l with
 |bH name u =>
  simp only[aX] at h ⊢;by_cases m:cI name s.ts≠0
  .rw[Xt m]
  .rw[Xs m] at h ⊢
   by_cases g:s.ts.length=4
   .rw[Xt g]
   .rw[Xs g] at h;exact Xu rfl h
 |enter k name u fr til long =>simp only[aX] at h ⊢;by_cases c:qK s k name u fr til long≠0;rw[Xt c];rw[Xs c] at h;exact Xu rfl h
 |series name u r =>simp only[aX] at h ⊢;by_cases c:oG s name u r≠0;rw[Xt c];rw[Xs c] at h;exact Xu rfl h
 |bL id =>
  simp only[aX] at h ⊢
  cases f:mW id s.es with
  |none=>rfl
  |some e =>rw[f] at h;simp only at h ⊢;by_cases c:e.kind≠2;rw[Xt c];rw[Xs c] at h;exact Xu rfl h
 |cancel id =>
  simp only[aX] at h ⊢
  cases f:mW id s.es with
  |none=>rfl
  |some e=>rw[f] at h;exact Xu rfl h
 |list name fr til =>
  simp only[aX];split
  .rfl
  .split <;> rfl
 |waiting=>rfl
 |ef name fr til =>
  simp only[aX];split
  .rfl
  .split <;> rfl
 |find name u long fr til =>
  simp only[aX];split
  .rfl
  .split <;> rfl
 |expand r =>simp only[aX];split <;> rfl
 |tick n =>simp only[aX] at h ⊢;by_cases c:1048320<s.now+n;rw[Xt c];rw[Xs c] at h;exact Xu rfl h
 |clock=>rfl
theorem U6(h:Inv s){l:jb}(f:ke l):Inv (jE s l).1:=by
 unfold jE;split
 .rename_i c
  rw[b7g c];exact h
 .exact Ff (DU h f)
end aA
open Go.RowKit
theorem To(b:Xm):∀ (n i:Xq)(r:J UInt8),b.size-i=n->ByteArray.toList.loop b i r=r.reverse++b.data.toList.drop i:=by
 intro n;induction n with
 |zero =>intro i r h;rw[ByteArray.toList.loop,Xs O,Zh Xh];simp
 |succ n ih =>intro i r h;have c:i<b.size:=O;rw[ByteArray.toList.loop,Xt c,ih (i+1) _ O];have f:i<b.data.toList.length:=bV c;rw[Zg f];simp[ByteArray.get!,c]
theorem Jl(b:Xm):b.toList=b.data.toList:=by unfold ByteArray.toList;rw[To b b.size 0 [] O];simp
theorem ve:aA.dI a b=Xy↔a=b:=by
 constructor
 .intro h;have h:=aA.Fy.1 h;rw[Jl,Jl] at h
  cases a;cases b;simp at h;rw[h]
 .rintro rfl;exact aA.tY _
theorem sM:aA.dI a b=Xx↔a≠b:=by
 cases h:aA.dI a b
 .simp;rintro rfl;rw[aA.tY] at h;cases h
 .simp;exact ve.1 h
def oV(a:Xm):Lit:=.string a.data.toList
def lM(n:N):Lit:=.int Y n
theorem Vj(h:oV a=oV b):a=b:=by
 cases a;cases b;simp[oV] at h;rw[h]
theorem Kr{a b:N}(h:lM a=lM b):a=b:=by simpa[lM] using h
theorem DB:Maps.Keyed prog 9:=Maps.string_keyed underlying9
theorem yg:Maps.Keyed prog 3:=Maps.int_keyed underlying3
theorem D9{s:Xm}(h:s.size<=1000):keyOf prog 9 s=U (oV s):=by unfold keyOf mapKey;rw[underlying9];simp only;rw[Xt Xj];rfl
theorem yp{n:N}(m:-1000000000000<=n)(h:n<=1000000000000):keyOf prog 3 n=U (lM n):=by
 unfold keyOf mapKey;rw[underlying3];simp only;have f:Y.min=-9223372036854775808:=rfl;have c:Y.max=9223372036854775807:=rfl;have g:(Lit.int Y n).wf=Xy:=by simp[Lit.wf,f,c];omega
 rw[Xt ⟨trivial,g⟩];rfl
inductive bO where
 |desk|mt|me|wa|he|ent|span
 |bH (i:Xq)
structure TG where
 name:Xm
 aN:N
 tb:Xq
 A:J Xp->N
 T:aF.S
structure EG where
 e:aA.aQ
 eb:Xq
 B:Xq
 cap:Xq
 tb:Xq
def mh(c:J TG)(name:Xm):Xo Xq:=((c.map fun t=>(t.name,t.tb)).find? fun p=>aA.dI p.1 name).map (·.2)
def jc(c:J EG)(id:N):Xo Xq:=((c.map fun g=>(g.e.id,g.eb)).find? fun p=>decide (p.1=id)).map (·.2)
structure kv(w:Xz)(g:EG):Prop where
 en:jG w g.eb g.e.id g.tb g.e.aN g.B g.cap g.e.aR
 k:w.cell? (g.eb,1)=U ↑g.e.kind
 u:w.cell? (g.eb,5)=U ↑g.e.bZ
 fz:∀ o,w.frozen? ⟨g.eb,o,Xv⟩=Xx
 bl:∃ cs,w.heap[g.eb]?=U (XR cs 197 (0,0))
theorem kv.lt{g:EG}(h:kv w g):g.eb<w:=XV _ _ h.k
theorem kv.off{g:EG}(h:kv w g)(k:aH G w w')(c:g.eb ∉ G)(f:g.B ∉ G):kv w' g :=⟨h.en.off k c f,k.cell c h.k,k.cell c h.u,fun o=>(k.frozen c h.lt).trans (h.fz o),by let⟨cs,e⟩:=h.bl;exact⟨cs,(k.block _ h.lt c).trans e⟩⟩
def jX(b:Xq):XA:=b
structure Raw where
 now:N
 given:N
 tg:J TG
 eg:J EG
 wl:J Xq
 hl:J Hp.Hi
structure DK(w:Xz)(d:Xq)(r:Raw)(aM:Xq->Xo bO):Prop where
 c0:w.cell? (d,0)=U (V Y r.now)
 c1:w.cell? (d,1)=U (V Y r.given)
 mt:∃ m f,w.cell? (d,2)=U (.map (U m))/\aM m=U .mt/\gO prog 9 w m r.tg.length f r.tg.length/\∀ name,f (oV name)=mh r.tg name
 me:∃ m f,w.cell? (d,3)=U (.map (U m))/\aM m=U .me/\gO prog 3 w m r.eg.length f r.eg.length/\∀ id,f (lM id)=jc r.eg id
 wa:∃ v,w.cell? (d,4)=U v/\w.ownsRow 0 194 1 v r.wl.length (r.wl.map jX)/\∀ b,v.ownBlock=U b->aM b=U .wa
 he:∃ v,HP w d 5 v r.hl/\∀ b,v.ownBlock=U b->aM b=U .he
 th:∀ (i:Xq) (h:i<r.tg.length),∃ ul us Fl Fs,TH w r.tg[i].tb r.tg[i].name r.tg[i].aN r.tg[i].A r.tg[i].T ul us Fl Fs/\∀ k∈r.tg[i].tb :: (Fl++Fs),aM k=U (.bH i)
 en:∀ g∈r.eg,kv w g/\aM g.eb=U .ent/\aM g.B=U .span
 nd:(r.eg.map (·.eb)).Nodup
 ni:(r.eg.map (·.e.id)).Nodup
 fz:∀ o,w.frozen? ⟨d,o,Xv⟩=Xx
 dc:aM d=U .desk
 lt:∀ k c,aM k=U c->k<w
theorem DK.off{r:Raw}{aM:Xq->Xo bO}(h:DK w d r aM)(k:aH G w w')(E:∀ x∈G,aM x=Xv):DK w' d r aM:=by
 have q:∀ {x:Xq}{c:bO},aM x=U c->x ∉ G:=fun z C=>by grind
 have y:=q h.dc;refine⟨k.cell y h.c0,k.cell y h.c1,?_,?_,?_,?_,?_,?_,h.nd,h.ni,fun o=>(k.frozen y (h.lt d _ h.dc)).trans (h.fz o),h.dc,fun x c z=>zL (h.lt x c z) k.size⟩;let⟨m,f,a1,a2,a3,a4⟩:=h.mt;exact⟨m,f,k.cell y a1,a2,a3.block (k.block m (h.lt m _ a2) (q a2)),a4⟩;let⟨m,f,a1,a2,a3,a4⟩:=h.me;exact⟨m,f,k.cell y a1,a2,a3.block (k.block m (h.lt m _ a2) (q a2)),a4⟩;let⟨v,a1,a2,a3⟩:=h.wa;exact⟨v,k.cell y a1,dL a2 k (fun b A=>q (a3 b A)),a3⟩;let⟨v,a1,a2⟩:=h.he;exact⟨v,a1.off k y (fun b A=>q (a2 b A)),a2⟩;intro i D;let⟨ul,us,Fl,Fs,a1,a2⟩:=h.th i D;exact⟨ul,us,Fl,Fs,a1.off k (fun x z=>q (a2 x z)),a2⟩;intro g C;let⟨a1,a2,a3⟩:=h.en g C;exact⟨a1.off k (q a2) (q a3),a2,a3⟩
theorem DK.later{r:Raw}{aM:Xq->Xo bO}(h:DK w d r aM)(k:XC w w w'):DK w' d r aM:=h.off (G:=[]) (aH.aD k) Xc
structure Step(S:bO->Prop)(B:Xq)(aM col':Xq->Xo bO)(w w':Xz):Prop where
 off:∃ G,aH G w w'/\∀ x∈G,(∃ c,aM x=U c/\S c)\/(aM x=Xv/\B<=x)
 ji:∀ k c,aM k=U c->col' k=U c
 new:∀ k c,col' k=U c->aM k=U c\/B<=k
theorem Step.refl(S:bO->Prop)(B:Xq)(c:Xq->Xo bO)(w:Xz):Step S B c c w w:=⟨⟨[],aH.refl _ _,by simp⟩,fun _ _ h=>h,fun _ _ h=>.inl h⟩
theorem Step.below{S:bO->Prop}{c:Xq->Xo bO}(h:XC w w w'):Step S B c c w w':=⟨⟨[],aH.aD h,by simp⟩,fun _ _ h=>h,fun _ _ h=>.inl h⟩
theorem Step.size{S:bO->Prop}{f c:Xq->Xo bO}(h:Step S B f c w w'):w<=w'.heap.size:=by let⟨G,h1,_⟩:=h.off;exact h1.size
theorem Step.mono{S m:bO->Prop}{g f:Xq->Xo bO}(h:Step S B g f w w')(q:∀ c,S c->m c)(y:B'<=B):Step m B' g f w w':=by
 let⟨G,h1,h2⟩:=h.off;refine⟨⟨G,h1,fun x o=>?_⟩,h.ji,fun k c r=>(h.new k c r).imp id (fun e=>by omega)⟩;rcases h2 x o with ⟨c,a,b⟩|⟨a,b⟩
 .exact .inl ⟨c,a,q c b⟩
 .exact .inr ⟨a,O⟩
theorem Step.trans{S:bO->Prop}{o y r:Xq->Xo bO}{a b c:Xz}(h:Step S B o y a b)(k:Step S B y r b c):Step S B o r a c:=by
 let⟨G,h1,h2⟩:=h.off;let⟨K,k1,k2⟩:=k.off;refine⟨⟨G++K,?_,fun x f=>?_⟩,fun x c f=>k.ji x c (h.ji x c f),fun x c f=>?_⟩
 .exact (h1.mono (fun x f=>by simp[f])).trans' k1 (fun x f=>.inl (by simp[f]))
 .rcases X8.1 f with f|f
  .exact h2 x f
  .rcases k2 x f with ⟨c,g,m⟩|⟨g,m⟩
   .rcases h.new x c g with e|e
    .exact .inl ⟨c,e,m⟩
    .cases q:o x with
     |none=>exact .inr ⟨rfl,e⟩
     |some c' =>
      have:=h.ji x c' q;rw[g] at this
      cases this;exact .inl ⟨c,rfl,m⟩
   .cases q:o x with
    |none=>exact .inr ⟨rfl,m⟩
    |some c'=>rw[h.ji x c' q] at g;cases g
 .rcases k.new x c f with e|e
  .exact h.new x c e
  .exact .inr e
theorem Step.lJ{S:bO->Prop}{m g:Xq->Xo bO}(h:Step S B m g w w'){b:Xq}{c:bO}(x:b<w)(o:m b=U c)(r:¬ S c):w'.heap[b]?=w.heap[b]?:=by
 let⟨G,h1,h2⟩:=h.off;refine h1.block b x (fun q=>?_);rcases h2 b q with ⟨z,f,y⟩|⟨f,_⟩
 .rw[o] at f;cases f;exact r y
 .rw[o] at f;cases f
theorem Step.cS{S:bO->Prop}{f c:Xq->Xo bO}(h:Step S B f c w w'){b:Xq}(q:b<w)(o:f b=Xv)(r:b<B):w'.heap[b]?=w.heap[b]?:=by
 let⟨G,h1,h2⟩:=h.off;refine h1.block b q (fun m=>?_);rcases h2 b m with ⟨y,g,x⟩|⟨_,e⟩
 .rw[o] at g;cases g
 .omega
theorem Step.qv{S:bO->Prop}{g f:Xq->Xo bO}(h:Step S B g f w w'){b o:Xq}{c:bO}(r:g b=U c)(q:¬ S c)(m:w.cell? (b,o)=U v):w'.cell? (b,o)=U v :=(zo (w:=w) (h.lJ (XV _ _ m) r q)).trans m
def Left(S:bO->Prop)(B:Xq)(f:Xq->Xo bO)(b:Xq):Prop:=(∃ c,f b=U c/\¬ S c)\/(f b=Xv/\b<B)
theorem Step.left{S:bO->Prop}{f c:Xq->Xo bO}(h:Step S B f c w w'):∃ G,aH G w w'/\∀ b,Left S B f b->b ∉ G:=by grind[Step.left,Left]
theorem Step.vF{S:bO->Prop}{c f:Xq->Xo bO}{g:EG}(h:Step S B c f w w')(m:kv w g)(q:Left S B c g.eb)(o:Left S B c g.B):kv w' g:=by let⟨G,a1,a2⟩:=h.left;exact m.off a1 (a2 _ q) (a2 _ o)
noncomputable def jD(f:Xq->Xo bO)(F:J Xq)(c:bO)(k:Xq):Xo bO :=
 match f k with
 |some c'=>U c'
 |none=>@ite _ (k∈F) (Classical.propDecidable _) (U c) Xv
theorem Fm{f:Xq->Xo bO}{c c':bO}(h:f k=U c'):jD f F c k=U c':=by unfold jD;rw[h]
theorem wC{f:Xq->Xo bO}{c:bO}(h:k∈F)(m:∀ g,f k=U g->g=c):jD f F c k=U c:=by grind[jD]
theorem rJ{f:Xq->Xo bO}{c g:bO}(h:jD f F c k=U g):f k=U g\/(f k=Xv/\k∈F/\c=g):=by grind[jD]
theorem wM{S:bO->Prop}{f:Xq->Xo bO}{c:bO}(k:aH G w w')(m:∀ x∈G,(∃ c,f x=U c/\S c)\/(f x=Xv/\B<=x))(o:∀ x∈F,f x=Xv->B<=x):Step S B f (jD f F c) w w' :=⟨⟨G,k,m⟩,fun _ _ h=>Fm h,fun k c g=>by rcases rJ g with e|⟨r,q,y⟩;exact .inl e;exact .inr (o k q r)⟩
def TG.with(t:TG)(A:J Xp->N)(T:aF.S):TG:={ t with A:=A,T:=T }
def Raw.eI(r:Raw)(i:Xq)(t:TG):Raw:={ r with tg:=r.tg.set i t }
theorem Vb{c:J TG}(f:i<c.length)(A:J Xp->N)(T:aF.S)(name:Xm):mh (c.set i (c[i].with A T)) name=mh c name:=by
 unfold mh;have e:(c.set i (c[i].with A T)).map (fun t=>(t.name,t.tb))=c.map fun t=>(t.name,t.tb):=by
  rw[List.map_set];have:((c[i].with A T).name,(c[i].with A T).tb)=(c.map fun t=>(t.name,t.tb))[i]'Xi:=by simp[TG.with]
  rw[this,List.set_getElem_self]
 rw[e]
theorem DK.base{S:bO->Prop}{r:Raw}{f c:Xq->Xo bO}(h:DK w d r f)(st:Step S B f c w w')(g:¬ S .desk):w'.cell? ⟨d,0,Xv⟩=U (V Y r.now)/\w'.cell? ⟨d,1,Xv⟩=U (V Y r.given)/\(∀ o,w'.frozen? ⟨d,o,Xv⟩=Xx)/\c d=U .desk/\∀ o,w'.cell? ⟨d,o,Xv⟩=w.cell? ⟨d,o,Xv⟩:=by
 have m:=st.lJ (h.lt d _ h.dc) h.dc g;exact⟨st.qv h.dc g h.c0,st.qv h.dc g h.c1,fun o=>(Zj (w:=w) m).trans (h.fz o),st.ji d _ h.dc,fun o=>zo m⟩
theorem DK.sT{S:bO->Prop}{r:Raw}{g c:Xq->Xo bO}(h:DK w d r g)(st:Step S B g c w w')(q:w'.cell? (d,2)=w.cell? (d,2))(o:¬ S .mt):∃ m f,w'.cell? (d,2)=U (.map (U m))/\c m=U .mt/\gO prog 9 w' m r.tg.length f r.tg.length/\∀ name,f (oV name)=mh r.tg name:=by
 let⟨m,f,a1,a2,a3,a4⟩:=h.mt;exact⟨m,f,q.trans a1,st.ji m _ a2,a3.block (st.lJ (h.lt m _ a2) a2 o),a4⟩
theorem DK.uj{S:bO->Prop}{r:Raw}{g c:Xq->Xo bO}(h:DK w d r g)(st:Step S B g c w w')(q:w'.cell? (d,3)=w.cell? (d,3))(o:¬ S .me):∃ m f,w'.cell? (d,3)=U (.map (U m))/\c m=U .me/\gO prog 3 w' m r.eg.length f r.eg.length/\∀ id,f (lM id)=jc r.eg id:=by
 let⟨m,f,a1,a2,a3,a4⟩:=h.me;exact⟨m,f,q.trans a1,st.ji m _ a2,a3.block (st.lJ (h.lt m _ a2) a2 o),a4⟩
theorem DK.sP{S:bO->Prop}{r:Raw}{f c:Xq->Xo bO}(h:DK w d r f)(st:Step S B f c w w')(o:w'.cell? (d,4)=w.cell? (d,4))(m:¬ S .wa):∃ v,w'.cell? (d,4)=U v/\w'.ownsRow 0 194 1 v r.wl.length (r.wl.map jX)/\∀ b,v.ownBlock=U b->c b=U .wa:=by
 let⟨v,a1,a2,a3⟩:=h.wa;let⟨G,k,hG⟩:=st.left;exact⟨v,o.trans a1,dL a2 k (fun b g=>hG b (.inl ⟨_,a3 b g,m⟩)),fun b g=>st.ji b _ (a3 b g)⟩
theorem DK.sU{S:bO->Prop}{r:Raw}{g f:Xq->Xo bO}(h:DK w d r g)(st:Step S B g f w w')(x:w'.cell? (d,5)=w.cell? (d,5))(q:w'.frozen? (d,5)=Xx)(o:¬ S .he):∃ v,HP w' d 5 v r.hl/\∀ b,v.ownBlock=U b->f b=U .he:=by
 let⟨v,a1,a2⟩:=h.he;let⟨G,k,hG⟩:=st.left;exact⟨v,⟨x.trans a1.c,dL a1.own k (fun b m=>hG b (.inl ⟨_,a2 b m,o⟩)),a1.ne,q⟩,fun b m=>st.ji b _ (a2 b m)⟩
theorem DK.rO{S:bO->Prop}{r:Raw}{f c:Xq->Xo bO}(h:DK w d r f)(st:Step S B f c w w')(i:Xq)(z:i<r.tg.length)(y:¬ S (.bH i)):∃ q o m g,TH w' r.tg[i].tb r.tg[i].name r.tg[i].aN r.tg[i].A r.tg[i].T q o m g/\∀ k∈r.tg[i].tb :: (m++g),c k=U (.bH i):=by
 let⟨q,o,m,g,a1,a2⟩:=h.th i z;let⟨G,k,hG⟩:=st.left;exact⟨q,o,m,g,a1.off k (fun b x=>hG b (.inl ⟨_,a2 b x,y⟩)),fun b x=>st.ji b _ (a2 b x)⟩
theorem DK.s7{S:bO->Prop}{r:Raw}{f c:Xq->Xo bO}(h:DK w d r f)(st:Step S B f c w w')(q:¬ S .ent)(m:¬ S .span):∀ g∈r.eg,kv w' g/\c g.eb=U .ent/\c g.B=U .span:=by
 intro g o;let⟨a1,a2,a3⟩:=h.en g o;exact⟨st.vF a1 (.inl ⟨_,a2,q⟩) (.inl ⟨_,a3,m⟩),st.ji _ _ a2,st.ji _ _ a3⟩
theorem DK.bH{r:Raw}{g:Xq->Xo bO}(h:DK w d r g)(i:Xq)(hi:i<r.tg.length)(R:∀ k∈r.tg[i].tb :: F,g k=U (.bH i)){A:J Xp->N}{T:aF.S}(n:iy w w' r.tg[i].tb r.tg[i].name r.tg[i].aN A T F):∃ q,DK w' d (r.eI i (r.tg[i].with A T)) q/\Step (·=.bH i) w g q w w':=by
 obtain⟨ul,X,E,D,H,t2⟩:=n.th;have K:∀ k,w.heap.size<=k->g k=Xv:=fun k o=>by
  cases e:g k with
  |none=>rfl
  |some c=>have:=h.lt k c e;omega
 have z:∀ k∈E++D,g k=U (.bH i)\/(g k=Xv/\w<=k):=fun k o=>by grind
 have st:Step (·=.bH i) w g (jD g (E++D) (.bH i)) w w':=wM n.off (fun x I=>.inl ⟨_,R x I,rfl⟩) (fun x I e=>by grind);refine⟨_,?_,st⟩;let⟨b1,b2,b3,b4,b5⟩:=h.base st Xc;refine⟨b1,b2,?_,h.uj st (b5 3) Xc,h.sP st (b5 4) Xc,h.sU st (b5 5) (b3 5) Xc,?_,h.s7 st Xc Xc,h.nd,h.ni,b3,b4,?_⟩
 .let⟨m,f,a1,a2,a3,a4⟩:=h.sT st (b5 2) Xc;have e:(r.eI i (r.tg[i].with A T)).tg.length=r.tg.length:=by simp[Raw.eI]
  exact⟨m,f,a1,a2,by rw[e];exact a3,fun name=>by rw[a4];exact (Vb hi A T name).symm⟩
 .intro j hj;have y:j<r.tg.length:=by simpa[Raw.eI] using hj
  by_cases e:j=i
  .subst e;have C:(r.eI j (r.tg[j].with A T)).tg[j]=r.tg[j].with A T:=by simp[Raw.eI]
   rw[C];refine⟨ul,X,E,D,H,fun k o=>?_⟩;rcases X7.1 o with rfl|o
   .exact Fm (R r.tg[j].tb List.mem_cons_self)
   .refine wC o (fun c' P=>?_);rcases z k o with e|e
    .rw[P] at e;cases e;rfl
    .rw[P] at e;cases e.1
  .have C:(r.eI i (r.tg[i].with A T)).tg[j]=r.tg[j]:=by simp[Raw.eI,Ne.symm e]
   rw[C];exact h.rO st j y (by simpa using e)
 .intro k c o;rcases rJ o with W|⟨W,h2,h3⟩
  .exact zL (h.lt k c W) st.size
  .exact H.lt k Xi
structure Fit(t:TG)(e:aA.aQ):Prop where
 ok:qW e.aR
 bd:∀ p,0<=t.A p/\t.A p<=400000
 u1:1<=e.aN
 u2:e.aN<=9
 ll:e.aR.length<=100
theorem DK.pair{r:Raw}{c:Xq->Xo bO}(h:DK w d r c)(i:Xq)(q:i<r.tg.length){g:EG}(x:kv w g)(ht:g.tb=r.tg[i].tb)(z:c g.eb≠U (.bH i))(y:c g.B≠U (.bH i))(f:Fit r.tg[i] g.e):∃ F,Ao w r.tg[i].tb g.eb g.B g.cap r.tg[i].name r.tg[i].aN r.tg[i].A r.tg[i].T F g.e.id g.e.aN g.e.aR/\∀ k∈r.tg[i].tb :: F,c k=U (.bH i):=by
 let⟨ul,us,Fl,Fs,a1,a2⟩:=h.th i q;refine⟨Fl++Fs,⟨⟨ul,us,Fl,Fs,a1,fun k o=>o⟩,by rw[<- ht];exact x.en,fun m=>z (a2 _ m),fun m=>y (a2 _ m),f.ok,f.bd,f.u1,f.u2,f.ll⟩,a2⟩
theorem J4{r:Raw}{f:Xq->Xo bO}(h:DK w d r f)(i:Xq)(o:i<r.tg.length){g:EG}(q:kv w g)(ht:g.tb=r.tg[i].tb)(z:f g.eb≠U (.bH i))(y:f g.B≠U (.bH i))(x:Fit r.tg[i] g.e)(m:mX (dK r.tg[i].A g.e.aR g.e.aN) r.tg[i].aN g.e.aR=Xx):XD prog 112 #[g.tb,g.eb] w fun e w'=>e=XQ Xx/\∃ c,DK w' d r c/\Step (·=.bH i) w f c w w':=by
 let⟨F,p,hF⟩:=h.pair i o q ht z y x;rw[ht];refine aK (T9 w _ _ _ _ _ _ _ _ F _ _ _ p m) fun w' n=>?_;let⟨c,k1,k2⟩:=h.bH i o hF n;refine⟨rfl,c,?_,k2⟩;have e:r.eI i (r.tg[i].with r.tg[i].A r.tg[i].T)=r:=by have C:r.tg[i].with r.tg[i].A r.tg[i].T=r.tg[i]:=rfl;unfold Raw.eI;rw[C,List.set_getElem_self]
 rw[e] at k1;exact k1
theorem Lo{r:Raw}{c:Xq->Xo bO}(h:DK w d r c)(i:Xq)(o:i<r.tg.length){g:EG}(x:kv w g)(ht:g.tb=r.tg[i].tb)(C:c g.eb≠U (.bH i))(z:c g.B≠U (.bH i))(y:Fit r.tg[i] g.e)(q:Au r.tg[i].T g.e.id g.e.aR)(m:mX (dK r.tg[i].A g.e.aR g.e.aN) r.tg[i].aN g.e.aR=Xy):XD prog 112 #[g.tb,g.eb] w fun e w'=>e=XQ Xy/\∃ f,DK w' d (r.eI i (r.tg[i].with (dK r.tg[i].A g.e.aR g.e.aN) (jj g.e.id g.eb r.tg[i].T g.e.aR))) f/\Step (·=.bH i) w c f w w':=by
 let⟨F,p,hF⟩:=h.pair i o x ht C z y;rw[ht];refine aK (U8 w _ _ _ _ _ _ _ _ F _ _ _ p q m) fun w' n=>?_;exact⟨rfl,h.bH i o hF n⟩
theorem b3G{r:Raw}{c:Xq->Xo bO}(h:DK w d r c)(i:Xq)(m:i<r.tg.length){g:EG}(x:kv w g)(ht:g.tb=r.tg[i].tb)(D:c g.eb≠U (.bH i))(C:c g.B≠U (.bH i))(y:Fit r.tg[i] g.e)(q:aF.Ord (aF.cT r.tg[i].T))(o:aF.size r.tg[i].T<=9000)(z:∀ p,0<=dK r.tg[i].A g.e.aR (-g.e.aN) p):XD prog 192 #[g.tb,g.eb] w fun e w'=>e=XQ (XL #[])/\∃ f,DK w' d (r.eI i (r.tg[i].with (dK r.tg[i].A g.e.aR (-g.e.aN)) (lQ g.e.id r.tg[i].T g.e.aR))) f/\Step (·=.bH i) w c f w w':=by
 let⟨F,p,hF⟩:=h.pair i m x ht D C y;rw[ht];refine aK (b4K w _ _ _ _ _ _ _ _ F _ _ _ p q o z) fun w' n=>?_;exact⟨rfl,h.bH i m hF n⟩
theorem DK.heap{r:Raw}{f:Xq->Xo bO}(h:DK w d r f)(q:∀ b,v.ownBlock=U b->f b=U .he){A:J Hp.Hi}(p:nD w d 5 v A w'):∃ g,DK w' d { r with hl:=A } g/\Step (fun c=>c=.he\/c=.desk) w f g w w':=by
 let⟨v',p1,p2,p3,p4,p5⟩:=p;have st:Step (fun c=>c=.he\/c=.desk) w f (jD f v'.ownBlock.toList .he) w w':=by
  refine wM p3 (fun x m=>?_) (fun x m e=>?_)
  .rcases X7.1 m with rfl|m
   .exact .inl ⟨_,h.dc,.inr rfl⟩
   .exact .inl ⟨_,q x (Zl.1 m),.inl rfl⟩
  .rcases p2 x (Zl.1 m) with z|z
   .rw[q x z] at e;cases e
   .exact z
 refine⟨_,?_,st⟩;refine⟨(p4 0 O).trans h.c0,(p4 1 O).trans h.c1,h.sT st (p4 2 O) Xc,h.uj st (p4 3 O) Xc,h.sP st (p4 4 O) Xc,⟨v',p1,fun b C=>?_⟩,fun i H=>h.rO st i H Xc,h.s7 st Xc Xc,h.nd,h.ni,fun o=>(p5 o).trans (h.fz o),st.ji d _ h.dc,fun k c E=>?_⟩
 .refine wC (Zl.2 C) (fun P y=>?_);rcases p2 b C with e|e
  .rw[q b e] at y;cases y;rfl
  .have:=h.lt b _ y;omega
 .rcases rJ E with D|⟨D,I,K⟩
  .exact zL (h.lt k c D) st.size
  .have:=p1.own.lt k (Zl.1 I);exact this.2
theorem DK.pV{r:Raw}{f:Xq->Xo bO}(h:DK w d r f)(n:N):DK (w.setCell (d,0) n) d { r with now:=n } f/\Step (·=.desk) w f f w (w.setCell (d,0) n):=by have st:Step (·=.desk) w f f w (w.setCell (d,0) n):=⟨⟨[d],aH.bM ..,fun x m=>.inl ⟨_,by simp at m;subst m;exact h.dc,rfl⟩⟩,fun _ _ h=>h,fun _ _ h=>.inl h⟩;have g:∀ o,o≠0->(w.setCell (d,0) n).cell? (d,o)=w.cell? (d,o):=fun o g=>bC Xi;exact⟨⟨zm _ _ _ h.c0,(g 1 O).trans h.c1,h.sT st (g 2 O) Xc,h.uj st (g 3 O) Xc,h.sP st (g 4 O) Xc,h.sU st (g 5 O) ((zF ..).trans (h.fz 5)) Xc,fun i y=>h.rO st i y Xc,h.s7 st Xc Xc,h.nd,h.ni,fun o=>(zF ..).trans (h.fz o),h.dc,fun k c q=>zL (h.lt k c q) st.size⟩,st⟩
theorem DK.pW{r:Raw}{f:Xq->Xo bO}(h:DK w d r f)(n:N):DK (w.setCell (d,1) n) d { r with given:=n } f/\Step (·=.desk) w f f w (w.setCell (d,1) n):=by have st:Step (·=.desk) w f f w (w.setCell (d,1) n):=⟨⟨[d],aH.bM ..,fun x m=>.inl ⟨_,by simp at m;subst m;exact h.dc,rfl⟩⟩,fun _ _ h=>h,fun _ _ h=>.inl h⟩;have g:∀ o,o≠1->(w.setCell (d,1) n).cell? (d,o)=w.cell? (d,o):=fun o g=>bC Xi;exact⟨⟨(g 0 O).trans h.c0,Yb _ _ _ h.c1,h.sT st (g 2 O) Xc,h.uj st (g 3 O) Xc,h.sP st (g 4 O) Xc,h.sU st (g 5 O) ((zF ..).trans (h.fz 5)) Xc,fun i y=>h.rO st i y Xc,h.s7 st Xc Xc,h.nd,h.ni,fun o=>(zF ..).trans (h.fz o),h.dc,fun k c q=>zL (h.lt k c q) st.size⟩,st⟩
theorem DK.lC{r:Raw}{g:Xq->Xo bO}(h:DK w d r g)(C:∀ b,v.ownBlock=U b->g b=U .wa){wl':J Xq}(k:aH v.ownBlock.toList w w1)(D:w1.ownsRow 0 194 1 v' wl'.length (wl'.map jX))(A:∀ b,v'.ownBlock=U b->v.ownBlock=U b\/w<=b):∃ m,DK (w1.setCell (d,4) v') d { r with wl:=wl' } m/\Step (fun c=>c=.wa\/c=.desk) w g m w (w1.setCell (d,4) v'):=by
 have H:d ∉ v.ownBlock.toList:=fun e=>by have:=C d (Zl.1 e);rw[h.dc] at this;cases this
 have I:=h.lt d _ h.dc;have q:w1.heap[d]?=w.heap[d]?:=k.block d I H;have S:aH (d :: v.ownBlock.toList) w (w1.setCell (d,4) v'):=(k.mono Xi).setCell (.inl Xc) _ _;have st:Step (fun c=>c=.wa\/c=.desk) w g (jD g v'.ownBlock.toList .wa) w (w1.setCell (d,4) v'):=by
  refine wM S (fun x y=>?_) (fun x y e=>?_)
  .rcases X7.1 y with rfl|y
   .exact .inl ⟨_,h.dc,.inr rfl⟩
   .exact .inl ⟨_,C x (Zl.1 y),.inl rfl⟩
  .rcases A x (Zl.1 y) with P|P
   .rw[C x P] at e;cases e
   .exact P
 have f:∀ o,o≠4->(w1.setCell (d,4) v').cell? (d,o)=w.cell? (d,o):=fun o D=>(bC (by have:=D;simp)).trans (zo q);have z:∀ o,(w1.setCell ⟨d,4,Xv⟩ v').frozen? ⟨d,o,Xv⟩=w.frozen? ⟨d,o,Xv⟩:=fun o=>(zF ..).trans (Zj q);let⟨v0,c4,_⟩:=h.wa;have T:∀ b,v'.ownBlock=U b->b≠d:=fun b E e=>by grind
 refine⟨_,⟨(f 0 O).trans h.c0,(f 1 O).trans h.c1,h.sT st (f 2 O) Xc,h.uj st (f 3 O) Xc,⟨v',Yb _ _ _ ((zo (w:=w) q).trans c4),dL D (aH.bM d _ 4 _) (fun b E=>by grind),fun b E=>?_⟩,h.sU st (f 5 O) ((z 5).trans (h.fz 5)) Xc,fun i X=>h.rO st i X Xc,h.s7 st Xc Xc,h.nd,h.ni,fun o=>(z o).trans (h.fz o),st.ji d _ h.dc,fun x c W=>?_⟩,st⟩
 .refine wC (Zl.2 E) (fun c' K=>?_);rcases A b E with e|e
  .rw[C b e] at K;cases K;rfl
  .have:=h.lt b _ K;omega
 .rcases rJ W with R|⟨R,h2,h3⟩
  .exact zL (h.lt x c R) st.size
  .have:=D.lt x (Zl.1 h2)
   simpa using this.2
def gQ(id kind bZ:N)(c:J EG):J EG:=c.map fun g=>if g.e.id=id then { g with e:={ g.e with kind:=kind,bZ:=bZ } } else g
theorem U1(id c f:N)(h:J EG):(gQ id c f h).map (·.eb)=h.map (·.eb):=by unfold gQ;rw[List.map_map];apply List.map_congr_left;intro g _;simp only[Function.comp];split <;> rfl
theorem U2(id c f:N)(h:J EG):(gQ id c f h).map (·.e.id)=h.map (·.e.id):=by unfold gQ;rw[List.map_map];apply List.map_congr_left;intro g _;simp only[Function.comp];split <;> rfl
theorem KA(id c f:N)(h:J EG)(x:N):jc (gQ id c f h) x=jc h x:=by
 have e:(gQ id c f h).map (fun g=>(g.e.id,g.eb))=h.map fun g=>(g.e.id,g.eb):=by unfold gQ;rw[List.map_map];apply List.map_congr_left;intro g _;simp only[Function.comp];split <;> rfl
 unfold jc;rw[e]
theorem V9(id c f:N)(g:J EG):(gQ id c f g).length=g.length:=by unfold gQ;simp
theorem qL{α β:Type}(f:α->β):∀ {l:J α},(l.map f).Nodup->∀ {x y:α},x∈l->y∈l->f x=f y->x=y
 |[],_,_,_,hx,_,_=>by grind
 |a :: l,h,x,y,hx,hy,e=>by
  rw[List.map_cons,Ya] at h;rcases X7.1 hx with o|g <;> rcases X7.1 hy with m|c
  .rw[o,m]
  .exact Xu (YN.2 ⟨y,c,by grind⟩) h.1
  .exact Xu (YN.2 ⟨x,g,by rw[e,m]⟩) h.1
  .exact qL f h.2 g c e
theorem DK.ud{r:Raw}{z:Xq->Xo bO}(h:DK w d r z){g:EG}(E:g∈r.eg)(q A:N):DK ((w.setCell (g.eb,1) q).setCell (g.eb,5) A) d { r with eg:=gQ g.e.id q A r.eg } z/\Step (·=.ent) w z z w ((w.setCell (g.eb,1) q).setCell (g.eb,5) A):=by
 let⟨g1,g2,g3⟩:=h.en g E;have k:aH [g.eb] w ((w.setCell (g.eb,1) q).setCell (g.eb,5) A):=((aH.refl [g.eb] w).setCell (.inl Xc) _ _).setCell (.inl Xc) _ _;have st:Step (·=.ent) w z z w ((w.setCell (g.eb,1) q).setCell (g.eb,5) A):=⟨⟨_,k,fun x C=>.inl ⟨_,by grind,rfl⟩⟩,fun _ _ h=>h,fun _ _ h=>.inl h⟩;let⟨b1,b2,b3,b4,b5⟩:=h.base st Xc;refine⟨⟨b1,b2,h.sT st (b5 2) Xc,?_,h.sP st (b5 4) Xc,h.sU st (b5 5) (b3 5) Xc,fun i I=>h.rO st i I Xc,?_,by rw[U1];exact h.nd,by rw[U2];exact h.ni,b3,b4,fun x c C=>zL (h.lt x c C) st.size⟩,st⟩
 .let⟨m,f,a1,a2,a3,a4⟩:=h.uj st (b5 3) Xc;exact⟨m,f,a1,a2,by rw[V9];exact a3,fun id=>by rw[a4,KA]⟩
 .intro x C;obtain⟨y,D,rfl⟩:=YN.1 C;let⟨y1,y2,y3⟩:=h.en y D
  by_cases e:y.e.id=g.e.id
  .have:y=g:=qL _ h.ni D E e;subst this;rw[Xt rfl];have K:y.B≠y.eb:=fun e=>by grind
   refine⟨⟨⟨?_,?_,?_,?_,y1.en.sl.off k Xi,YM y1.en.lt k.size⟩,?_,?_,fun o=>?_,?_⟩,y2,y3⟩
   .exact (bC Xc).trans ((bC Xc).trans y1.en.c0)
   .exact (bC Xc).trans ((bC Xc).trans y1.en.c1)
   .exact (bC Xc).trans ((bC Xc).trans y1.en.c2)
   .exact (bC Xc).trans ((bC Xc).trans y1.en.c3)
   .exact (bC Xc).trans (zm _ _ _ y1.k)
   .exact zm _ _ _ ((bC Xc).trans y1.u)
   .exact (zF ..).trans ((zF ..).trans (y1.fz o))
   .let⟨cs,e⟩:=y1.bl;exact⟨_,heap_setCell_same _ _ _ _ _ _ (heap_setCell_same _ _ _ _ _ _ e)⟩
  .rw[Xs e];have H:y.eb≠g.eb:=fun P=>e (by rw[qL _ h.nd D E P])
   have K:y.B≠g.eb:=fun e=>by grind
   exact⟨y1.off k Xi Xi,y2,y3⟩
def gF(id:N)(c:J EG):J EG:=c.filter fun g=>g.e.id != id
theorem qJ{c:J EG}:jc c id=((c.find? fun g=>decide (g.e.id=id)).map (·.eb)):=by
 unfold jc;rw[List.find?_map]
 cases h:c.find? ((fun p=>decide (p.1=id)) ∘ fun g=>(g.e.id,g.eb)) with
 |none=>have f:c.find? (fun g=>decide (g.e.id=id))=Xv:=h;rw[f];rfl
 |some g=>have f:c.find? (fun g=>decide (g.e.id=id))=U g:=h;rw[f];rfl
theorem Lp{c:J EG}(m:(c.map (·.e.id)).Nodup){g:EG}(f:g∈c):jc c g.e.id=U g.eb:=by
 rw[qJ]
 cases h:c.find? fun x=>decide (x.e.id=g.e.id) with
 |none =>have:=List.find?_eq_none.1 h g f;simp at this
 |some x =>have o:=List.mem_of_find?_eq_some h;have q:=List.find?_some h;have:x=g:=qL _ m o f Xi;rw[this];rfl
theorem Fq{c:J EG}(h:∀ g∈c,g.e.id≠id):jc c id=Xv:=by rw[qJ];have:c.find? (fun g=>decide (g.e.id=id))=Xv:=List.find?_eq_none.2 (fun g f=>by grind);rw[this];rfl
theorem Es{c:J EG}{b:Xq}(h:jc c id=U b):∃ g∈c,g.e.id=id/\g.eb=b:=by
 rw[qJ] at h
 cases e:c.find? fun x=>decide (x.e.id=id) with
 |none=>rw[e] at h;cases h
 |some x =>rw[e] at h;refine⟨x,List.mem_of_find?_eq_some e,by simpa using List.find?_some e,by grind⟩
theorem J5{c:J EG}(h:jc c id=Xv):∀ g∈c,g.e.id≠id:=by
 rw[qJ] at h;intro g m e
 cases f:c.find? fun x=>decide (x.e.id=id) with
 |none =>have:=List.find?_eq_none.1 f g m;simp[e] at this
 |some x=>rw[f] at h;cases h
theorem Kp{eg:J EG}(m:(eg.map (·.e.id)).Nodup)(id x:N):jc (gF id eg) x=if x=id then Xv else jc eg x:=by
 by_cases e:x=id
 .subst e;rw[Xt rfl];exact Fq (fun g c=>by simpa using (ZW.1 c).2)
 .rw[Xs e]
  cases h:jc eg x with
  |none=>exact Fq (fun g c=>J5 h g ((ZW.1 c).1))
  |some b =>let⟨g,c,e1,e2⟩:=Es h;have f:((gF id eg).map (·.e.id)).Nodup:=Yp (List.filter_sublist.map _) m;have o:g∈gF id eg:=ZW.2 ⟨c,by grind⟩;rw[<- e1,Lp f o,e2]
theorem V6{eg:J EG}(f:(eg.map (·.e.id)).Nodup)(id:N):(gF id eg).length=eg.length-if (jc eg id).isSome then 1 else 0:=by
 induction eg with
 |nil=>simp[gF]
 |cons g eg ih =>
  rw[List.map_cons,Ya] at f;have ih:=ih f.2;by_cases e:g.e.id=id
  .have q:∀ x∈eg,x.e.id≠id:=fun x o c=>f.1 (YN.2 ⟨x,o,by rw[e,c]⟩)
   have m:gF id (g :: eg)=eg:=by unfold gF;rw[Ym,Xs (by simp[e])];exact ZX.2 (fun x o=>by grind)
   have c:(jc (g :: eg) id).isSome=Xy:=by rw[qJ,List.find?_cons];simp[e]
   rw[m,c];simp
  .have m:gF id (g :: eg)=g :: gF id eg:=by unfold gF;rw[Ym,Xt Xi]
   have c:jc (g :: eg) id=jc eg id:=by rw[qJ,qJ,List.find?_cons];simp[e]
   rw[m,c,Yy,Yy,ih];have:(if (jc eg id).isSome then 1 else 0)<=eg.length:=by
    split
    .rename_i h
     cases eg with
     |nil=>rw[qJ] at h;simp at h
     |cons _ _=>simp
    .omega
   omega
theorem DK.xJ{r:Raw}{o:Xq->Xo bO}(h:DK w d r o){m:Xq}{f:Lit->Xo Xq}(E:w.cell? ⟨d,3,Xv⟩=U (.map (U m)))(A:o m=U .me)(C:∀ id,f (lM id)=jc r.eg id)(id:N)(p:gO prog 3 w' m r.eg.length (Go.Proofs.YtolaacmheeaadaaGreatDoor.nG f (lM id) Xv) (r.eg.length-if (f (lM id)).isSome then 1 else 0))(q:w.grownBy w' (U m)):DK w' d { r with eg:=gF id r.eg } o/\Step (·=.me) w.heap.size o o w w':=by
 have k:aH [m] w w':=⟨q.os,q.tape,q.output,q.size,fun i z D=>q.block i z (bV D)⟩;have st:Step (·=.me) w o o w w':=⟨⟨_,k,fun x y=>.inl ⟨_,by simp at y;subst y;exact A,rfl⟩⟩,fun _ _ h=>h,fun _ _ h=>.inl h⟩;let⟨b1,b2,b3,b4,b5⟩:=h.base st Xc;refine⟨⟨b1,b2,h.sT st (b5 2) Xc,⟨m,nG f (lM id) Xv,(b5 3).trans E,A,?_,fun x=>?_⟩,h.sP st (b5 4) Xc,h.sU st (b5 5) (b3 5) Xc,fun i z=>h.rO st i z Xc,fun g q=>h.s7 st Xc Xc g ((ZW.1 q).1),Yp (List.filter_sublist.map _) h.nd,Yp (List.filter_sublist.map _) h.ni,b3,b4,fun x c y=>zL (h.lt x c y) st.size⟩,st⟩
 .have e:=V6 h.ni id;rw[C] at p;show gO _ _ _ _ (gF id r.eg).length _ (gF id r.eg).length;rw[e];exact p.tight
 .show nG f (lM id) Xv (lM x)=jc (gF id r.eg) x;rw[Kp h.ni]
  by_cases e:x=id
  .rw[e,vk,Xt rfl]
  .rw[vp f _ (fun H=>e (Kr H)),Xs e,C]
theorem KD{c:J EG}{g:EG}(f:∀ x∈c,x.e.id≠g.e.id)(x:N):jc (c++[g]) x=if x=g.e.id then U g.eb else jc c x:=by
 by_cases e:x=g.e.id
 .rw[Xt e,qJ,List.find?_append];have:c.find? (fun y=>decide (y.e.id=x))=Xv:=List.find?_eq_none.2 (fun y m=>by grind);rw[this];simp[e]
 .rw[Xs e,qJ,qJ,List.find?_append]
  cases h:c.find? fun y=>decide (y.e.id=x) with
  |none=>simp[Ne.symm e]
  |some y=>simp
theorem vo{c:J TG}:mh c name=((c.find? fun t=>aA.dI t.name name).map (·.tb)):=by
 unfold mh;rw[List.find?_map]
 cases h:c.find? ((fun p=>aA.dI p.1 name) ∘ fun t=>(t.name,t.tb)) with
 |none=>have f:c.find? (fun t=>aA.dI t.name name)=Xv:=h;rw[f];rfl
 |some g=>have f:c.find? (fun t=>aA.dI t.name name)=U g:=h;rw[f];rfl
theorem Wi{c:J TG}{t:TG}(f:∀ x∈c,x.name≠t.name)(name:Xm):mh (c++[t]) name=@ite _ (name=t.name) (Classical.propDecidable _) (U t.tb) (mh c name):=by
 by_cases e:name=t.name
 .rw[Xt e,vo,List.find?_append];have:c.find? (fun y=>aA.dI y.name name)=Xv:=List.find?_eq_none.2 (fun y g=>by rw[Bool.not_eq_true,sM,e];exact f y g);rw[this];have:aA.dI t.name name=Xy:=ve.2 e.symm;simp[this]
 .rw[Xs e,vo,vo,List.find?_append]
  cases h:c.find? fun y=>aA.dI y.name name with
  |none =>have:aA.dI t.name name=Xx:=sM.2 (Ne.symm e);simp[this]
  |some y=>simp
theorem Lm{r:Raw}{m:Xq->Xo bO}(h:DK w d r m)(y:Hp.iP r.hl)(hl:r.hl.length<=1000)(t n:N)(q:∃ x∈r.hl,x.t=t/\x.n=n):XD prog 154 #[XH (U ⟨d,5,Xv⟩),t,n] w fun e w'=>e=XQ (XL #[])/\∃ (x:Hp.Hi) (g:J Hp.Hi) (f:Xq->Xo bO),x.t=t/\x.n=n/\Hp.iP g/\r.hl.Perm (x :: g)/\DK w' d { r with hl:=g } f/\Step (fun c=>c=.he\/c=.desk) w m f w w':=by
 let⟨v,a1,a2⟩:=h.he;refine aK (V5 d 5 v r.hl t n w a1 y hl) fun w' o=>?_;refine⟨rfl,?_⟩;rcases o with ⟨o,_⟩|⟨x,g,D,C,p,A,z⟩
 .let⟨x,hx1,hx2⟩:=q;exact Xu hx2 (o x hx1)
 .let⟨f,k1,k2⟩:=h.heap a2 p;exact⟨x,g,f,D,C,A,z,k1,k2⟩
def AR(c:bO):Prop:=c=.he\/c=.desk\/c=.ent
def FL(w:Xz)(d:Xq)(r:Raw)(h:Xq->Xo bO)(g:EG)(w':Xz):Prop :=∃ (x:Hp.Hi) (f:J Hp.Hi) (c:Xq->Xo bO),x.t=g.e.bZ/\x.n=g.e.id/\Hp.iP f/\r.hl.Perm (x :: f)/\DK w' d { r with eg:=gQ g.e.id 1 0 r.eg,hl:=f } c/\Step AR w h c w w'
theorem LU{r:Raw}{m:Xq->Xo bO}(h:DK w d r m)(S:Hp.iP r.hl)(R:r.hl.length<=1000){g:EG}(I:g∈r.eg)(P:∃ x∈r.hl,x.t=g.e.bZ/\x.n=g.e.id):XD prog 113 #[d,g.eb] w fun e w'=>e=XQ (XL #[])/\FL w d r m g w':=by
 let⟨g1,g2,g3⟩:=h.en g I;have W:=g1.en.c0;have T:=g1.u;have DR:=aB (fun wx (k:XC w w wx)=>Lm (h.later k) S R g.e.bZ g.e.id P);have q:=aB (Yc I g2);go_in;go_upto_region 0 with fail;go_region_held3 (fun w'=>w'.cell? (g.eb,0)=U ↑g.e.id/\w'.cell? (g.eb,5)=U ↑g.e.bZ)
  (first
   |exact⟨W,T⟩
   |exact⟨((o.en g q.1).1).en.c0,((o.en g q.1).1).u⟩)
  (first
   |(go_at_call 154;refine aK (DR _ (eN w)) ?_;rintro w4 ⟨x,K,f,D,C,A,z,o,y⟩))
 let⟨q1,q2,q3⟩:=o.en g q.1;have d1:=q1.k;have d5:=q1.u;have f1:=q1.fz 1;have f5:=q1.fz 5;have X:=aB (o.ud (g:=g) q.1 1 0);have KK:=aB (Yc D (Yc C (Yc A (Yc z y))));go_wp21;go_end0;let⟨D,C,A,z,y⟩:=KK;let⟨s1,s2⟩:=X;refine⟨rfl,(⟨x,K,f,D,C,A,z,s1,?_⟩:FL _ _ _ _ _ _)⟩;have H:Step AR w m f w w4:=(Step.below (eN w)).trans (y.mono (fun c E=>by unfold AR;rcases E with e|e;exact .inl e;exact .inr (.inl e)) aJ);exact H.trans (s2.mono (fun c E=>.inr (.inr E)) H.size)
theorem b3r(eb:Xq)(f:N)(w:Xz)(c:w.cell? (eb,1)=U ↑f):XD prog 115 #[eb] w fun e w'=>e=XQ (f==1)/\w'=w:=by
 go_in;go_wp21;go_ret;exact⟨rfl,rfl⟩
theorem Jh:(prog.info? 197).map (fun i=>i.size)=U 6:=Xg
theorem SC(w:Xz)(a b:Xq)(g:∃ cs,w.heap[a]?=U (XR cs 197 (0,0)))(f:∃ cs,w.heap[b]?=U (XR cs 197 (0,0))):(binOp .eql 194 b a).run prog w=.ok (b==a) w:=by
 obtain⟨j,c⟩:∃ j,prog.info? 197=U j:=by
  cases h:prog.info? 197 with
  |none=>have:=Jh;rw[h] at this;cases this
  |some j=>exact⟨j,rfl⟩
 have m:j.size≠0:=by have:=Jh;rw[c] at this;simp at this;omega
 by_cases e:b=a;subst e;rw[run_eql_ptr_same w _ underlying194 c];simp;obtain⟨o,g⟩:=g;obtain⟨cb,f⟩:=f;rw[run_eql_ptr_other w (a:=⟨b,0,Xv⟩) (b:=⟨a,0,Xv⟩) underlying194 c m (by have:=e;simp) f g];simp[e]
theorem WQ(A a b:Xq)(w:Xz)(c:w.cell? (A,0)=U ↑a)(g:∃ cs,w.heap[a]?=U (XR cs 197 (0,0)))(f:∃ cs,w.heap[b]?=U (XR cs 197 (0,0))):XD prog 193 #[b,A] w fun e w'=>e=XQ (b==a)/\w'=w:=by
 have h:=SC w a b g f;go_in;go_wp21;go_ret;exact⟨rfl,rfl⟩
theorem b6j{c:Xq}{e:TypeId}{g:Xq}(h:w.ownsRow c e 1 (XI g n cap) n xs)(D:i<=n):w.ownsRow c e 1 (XI g i cap) i (xs.take i):=by
 let⟨h1,h2⟩:=h;refine⟨by grind,?_⟩;rcases h2 with ⟨A,_⟩|⟨E,r,q,x,z,y,C,m,o,f⟩
 .cases A
 .cases x
  refine .inr ⟨g,cap,q,rfl,z,y,O,m,o,?_⟩;rw[<- f,List.take_take];congr 1;omega
theorem M6{c:Xq}{e:TypeId}{g n cap:Xq}{xs:J XA}:∀ (f:J XA)(o:Xq)(w:Xz),n<=o->w.ownsRow c e 1 (XI g n cap) n xs->(w.setCells g o f).ownsRow c e 1 (XI g n cap) n xs
 |[],_,_,_,h=>h
 |v :: r,o,w,ho,h=>by refine M6 r (o+1) _ O ?_;have:=(h.stored o v).1;rwa [List.set_eq_of_length_le (by have:=h.1;omega)] at this
theorem MZ{g:Xq}:∀ (c:J XA)(o:Xq)(w:Xz),aH [g] w (w.setCells g o c)
 |[],_,_=>aH.refl _ _
 |v :: r,o,w=>(aH.bM g w o v).trans (MZ r (o+1) _)
structure rn(L:J Xq)(p:Xq->Xp)(i j:Xq)(M:J Xq):Prop where
 len:M.length=L.length
 ij:i<j
 jl:j<=L.length
 lo:M.take i=(L.take j).filter fun b=>!p b
 hi:∀ k,j<=k->M[k]?=L[k]?
theorem rn.skip{L:J Xq}(h:rn L p i j M)(f:j<L.length)(c:p L[j]=Xy):rn L p i (j+1) M:=by refine⟨h.len,by have:=h.ij;omega,O,?_,fun k g=>h.hi k O⟩;rw[h.lo,YI f,Yl];simp[c]
theorem rn.ji{L:J Xq}(h:rn L p i j M)(f:j<L.length)(c:p L[j]=Xx):rn L p (i+1) (j+1) (M.set i L[j]):=by
 have g:=h.ij;have m:=h.len;refine⟨by grind,O,O,?_,fun k o=>?_⟩
 .rw[YI f,Yl,<- h.lo,YI Xi,List.take_set_of_le aJ];simp[c]
 .rw[List.getElem?_set_ne O];exact h.hi k O
theorem rn.new{L:J Xq}(g:k<L.length)(f:p L[k]=Xy)(o:∀ (j:Xq)(h:j<k),p (L[j]'Xb)=Xx):rn L p k (k+1) L:=by refine⟨rfl,O,O,?_,fun _ _=>rfl⟩;rw[YI g,Yl];simp only[f,Ym,X0,X4,if_false,List.filter_nil,List.append_nil];refine (ZX.2 (fun b m=>?_)).symm;obtain⟨j,h,rfl⟩:=List.getElem_of_mem m;have c:j<k:=Xi;simp[o j c]
def Gu(fn:Xq)(cs:J XA):Prop:=(fn=115/\cs=[])\/(fn=193/\∃ A:Xq,cs=[XH (U ⟨A,0,Xv⟩)])
def GB(fn:Xq)(cs:J XA)(w:Xz)(L:J Xq)(p:Xq->Xp):Prop :=∀ b∈L,XD prog fn (XH (U ⟨b,0,Xv⟩) :: cs).toArray w fun e w'=>e=XQ (p b)/\w'=w
theorem OS(K:Gu fn cs)(L:J Xq)(p:Xq->Xp)(v:XA)(w:Xz)(ht:GB fn cs w L p)(own:w.ownsRow 0 194 1 v L.length (L.map jX))(R:L.length<=1000):XD prog 165 #[v,.func (.func fn) #[] cs.toArray] w fun e w'=>e=XQ (V Y (gn p L 0))/\w'=w:=by
 have E:∃ a cap,v=XI a L.length cap:=by
  rcases own.2 with ⟨rfl,h⟩|⟨g,cap,_,rfl,_⟩
  .rw[h];exact⟨_,_,rfl⟩
  .exact⟨_,_,rfl⟩
 obtain⟨a,cap,rfl⟩:=E;have q:=aB own;have P:=aB ht;clear own ht;rcases K with ⟨rfl,rfl⟩|⟨rfl,A,rfl⟩;all_goals
  go_in;go_wp21;go_loop [8] (fun i=>∃ k:Xq,k<=L.length/\i=V Y k/\gn p L 0=gn p (L.drop k) k) (fun i=>L.length-(intOf i).toNat)
  .exact⟨0,YJ _,rfl,rfl⟩
  .obtain⟨j,S,rfl,z⟩:=hrel;have y:=aB z;clear z
   by_cases c:j<L.length
   .have I:(j:N)<(L.length:N):=O
    let⟨H,cap',e1⟩:=Joins.ownsRow_form q O;simp only[Value.slice.injEq,true_and] at e1;obtain⟨rfl,rfl⟩:=e1;have x:=q.cellAt j O;rw[List.getElem?_map,Zu c,Option.map_some] at x;unfold jX at x;have m:=aB (P L[j] (zg c));have C:gn p (L.drop j) j=if p L[j] then (j:N) else gn p (L.drop (j+1)) ((j+1:Xq):N):=by rw[Zg c];rfl
    have D:=aB C;clear C
    cases f:p L[j]
    .have r:Hid (gn p L 0=gn p (L.drop (j+1)) ((j+1:Xq):N)):=by show _=_;rw[y,D,f];rfl
     rw[f] at m;clear f;go_wp21;refine m.mono ?_;rintro e w1 ⟨rfl,o⟩;rw[o];clear x m o;go_wp21;go_round
     .exact⟨j+1,O,by go_num,r⟩
     .simp[intOf];omega
    .have r:Hid (gn p L 0=j):=by show _=_;rw[y,D,f];rfl
     rw[f] at m;clear f;go_wp21;refine m.mono ?_;rintro e w1 ⟨rfl,o⟩;rw[o];clear x m o;go_wp21;go_ret;exact⟨jy r.symm,rfl⟩
   .have I:¬ (j:N)<(L.length:N):=O
    have e:L.drop j=[]:=Zh O;have r:Hid (gn p L 0=-1):=by show _=_;rw[y,e];rfl
    clear e;go_wp21;go_ret;exact⟨jy r.symm,rfl⟩
theorem GD(T:Gu fn cs)(L:J Xq)(p:Xq->Xp)(v:XA)(w:Xz)(ht:∀ wx,aH v.ownBlock.toList w wx->GB fn cs wx L p)(own:w.ownsRow 0 194 1 v L.length (L.map jX))(hl:L.length<=1000):XD prog 114 #[v,.func (.func fn) #[] cs.toArray] w fun e w'=>∃ v',e=XQ v'/\aH v.ownBlock.toList w w'/\w'.ownsRow 0 194 1 v' (L.filter fun b=>!p b).length ((L.filter fun b=>!p b).map jX)/\v'.ownBlock=v.ownBlock:=by
 have P:=aB (OS T L p v w (ht w (aH.refl _ _)) own hl);have g:=yE p L 0;rcases T with ⟨rfl,rfl⟩|⟨rfl,A,rfl⟩;all_goals
  go_in;go_wp21;refine P.mono ?_;rintro e w1 ⟨rfl,rfl⟩;rcases g with ⟨o,m⟩|⟨k,hk,o,m,X⟩
  .rw[o];have W:(L.filter fun b=>!p b)=L:=ZX.2 (fun b hb=>by simp[m b hb]);have D:Hid (w1.ownsRow 0 194 1 v (L.filter fun b=>!p b).length ((L.filter fun b=>!p b).map jX)):=by show w1.ownsRow _ _ _ _ _ _;rw[W];exact own
   clear o m W P ht own;go_wp21;go_ret;exact⟨v,rfl,aH.refl _ _,D,rfl⟩
  .have x:0<L.length:=O
   obtain⟨H,cap,K⟩:=Joins.ownsRow_form own x;subst K;rw[o,Int.zero_add];have D0:=aB (rn.new hk m X);have C:=aB own;have HT:=aB ht;have w3:Y.wrap ((k:N)+1)=((k+1:Xq):N):=by rw[dJ O O];omega
   have ab:((k:N)==-1)=Xx:=Xc;clear o m X P ht own;go_wp21;go_loopw [5,6,7] (fun vi E _ wx=>∃ (i j:Xq) (M:J Xq),vi=V Y i/\E=V Y j/\rn L p i j M/\aH [H] w1 wx/\wx.ownsRow 0 194 1 (XI H L.length cap) L.length (M.map jX)) (fun _ E _ _=>L.length-(intOf E).toNat)
   .exact⟨k,k+1,L,rfl,rfl,D0,aH.refl _ _,C⟩
   .obtain⟨i,j,M,rfl,rfl,h,y,c⟩:=hrel;have ae:=h.ij;have ad:=h.jl;have ac:=h.len;have q:=aB (Yc h (Yc y c))
    by_cases f:j<L.length
    .have hj:(j:N)<(L.length:N):=O
     have hi:(i:N)<(L.length:N):=O;have a0:=c.cellAt j O;rw[List.getElem?_map,h.hi j aJ,Zu f,Option.map_some] at a0;have b0:=c.cellAt i O;rw[List.getElem?_map,Zu O,Option.map_some] at b0;have f0:=c.frozenAt i;unfold jX at a0 b0;have r:=aB (HT wr y L[j] (zg f));have wi:Y.wrap ((i:N)+1)=((i+1:Xq):N):=by rw[dJ O O];omega
     have wj:Y.wrap ((j:N)+1)=((j+1:Xq):N):=by rw[dJ O O];omega
     clear y h
     cases g:p L[j]
     .have R:=aB (q.1.ji f g);have WN:=aB ((c.stored i (jX L[j])).1);have ON:=aB (q.2.1.trans (aH.bM H wr i (jX L[j])));rw[g] at r;unfold jX at WN ON;clear g c
      go_wp21;refine r.mono ?_;rintro e w2 ⟨rfl,c⟩;rw[c];clear r c;go_wp21;go_roundw
      .exact⟨i+1,j+1,M.set i L[j],rfl,rfl,R,ON,by rw[List.map_set];exact WN⟩
      .simp[intOf];omega
     .have R:=aB (q.1.skip f g);rw[g] at r;clear g c
      go_wp21;refine r.mono ?_;rintro e w2 ⟨rfl,c⟩;rw[c];clear r c;go_wp21;go_roundw
      .exact⟨i,j+1,M,rfl,rfl,R,q.2.1,q.2.2⟩
      .simp[intOf];omega
    .have hj:¬ ((j:N)<(L.length:N)):=O
     have z:j=L.length:=O;have S:L.length<=cap:=by
      rcases c.2 with ⟨h0,_⟩|⟨g',aa,aj,K,_,_,h1,_⟩
      .cases h0
      .cases K;exact h1
     have ai:∀ I,(Builtin.clear_ #[88] I #[XI (U ⟨H,i,Xv⟩) (L.length-i) (cap-i)]).run prog wr=.ok (XL #[]) (wr.setCells H i (List.replicate (L.length-i) (XH Xv))) :=fun I=>Lib.run_clear_slice wr _ _ I (XH Xv) underlying88 (fun w=>by simp[go_sem]) rfl rfl H i _ _ O (fun t ht=>by rw[c.cellAt (i+t) O];simp;omega) (fun t ht=>c.frozenAt (i+t))
     have af:(i:N)<=(L.length:N):=O;have ag:(i:N)<=(cap:N):=O;have D:Hid (aH [H] w1 (wr.setCells H i (List.replicate (L.length-i) (XH Xv)))/\(wr.setCells H i (List.replicate (L.length-i) (XH Xv))).ownsRow 0 194 1 (XI H i cap) (L.filter fun b=>!p b).length ((L.filter fun b=>!p b).map jX)):=by
      have o:(L.filter fun b=>!p b)=M.take i:=by rw[h.lo,z,YK aJ]
      have m:(M.take i).length=i:=by rw[List.length_take];omega
      refine⟨y.trans (MZ _ _ _),?_⟩;rw[o,m,List.map_take];exact M6 _ i wr aJ (b6j c O)
     clear h y c q HT C D0 z;go_wp21;go_ret;exact⟨_,rfl,D.1,D.2,rfl⟩
def uW(c:bO):Prop:=c=.me\/c=.wa\/c=.desk\/∃ i,c=.bH i
def KQ(w:Xz)(d:Xq)(r:Raw)(f:Xq->Xo bO)(g:EG)(i:Xq)(h:i<r.tg.length)(w':Xz):Prop :=∃ c,DK w' d ({ r with eg:=gF g.e.id r.eg }.eI i (r.tg[i].with (dK r.tg[i].A g.e.aR (-g.e.aN)) (lQ g.e.id r.tg[i].T g.e.aR))) c/\Step uW w f c w w'
theorem Jv(w:Xz):(zeroValue 194).run prog w=.ok (XH Xv) w:=by simp[go_sem]
theorem WS{r:Raw}{o:Xq->Xo bO}(h:DK w d r o){g:EG}(hg:g∈r.eg)(hk:g.e.kind≠3)(i:Xq)(hi:i<r.tg.length)(ht:g.tb=r.tg[i].tb)(hf:Fit r.tg[i] g.e)(ho:aF.Ord (aF.cT r.tg[i].T))(hz:aF.size r.tg[i].T<=9000)(hA:∀ p,0<=dK r.tg[i].A g.e.aR (-g.e.aN) p)(ad:0<=g.e.id/\g.e.id<=1000):XD prog 155 #[d,g.eb] w fun e w'=>e=XQ (XL #[])/\KQ w d r o g i hi w':=by
 have hX:XC w w (w.alloc (XR #[g.eb] 194)):=aS;have H:=h.later hX;have xb:(w.alloc (XR #[g.eb] 194)).cell? (w,0)=U ↑g.eb:=Xc;have E:w<(w.alloc (XR #[g.eb] 194)).heap.size:=Xc;have K:o w=Xv:=by
  cases e:o w with
  |none=>rfl
  |some c=>have:=h.lt _ _ e;omega
 have C:=aB (Yc hX (Yc E K));clear h hX E K;go_in;go_upto_region 1 with fail;generalize (w.alloc (XR #[g.eb] 194))=X at H xb C ⊢;obtain⟨g1,S,R⟩:=H.en g hg;obtain⟨m,f,a1,a2,a3,a4⟩:=H.me;have c0:=g1.en.c0;have ac:(g.e.kind != 3)=Xy:=bV hk;have kk:=yp (n:=g.e.id) O O;obtain⟨w1,I,p1,p2⟩:=(a3.block (w':=X.drew) rfl).om yg underlying87 kk 0;have z:=H.later (eN X);have DD:=aB (z.xJ a1 a2 a4 g.e.id p1 p2);have W:=aB (DD.2.vF (z.en g hg).1 (.inl ⟨_,S,by simp⟩) (.inl ⟨_,R,by simp⟩));have ae:=W.k;have P:=W.en.c1;have y:=(zo (w:=X) (DD.2.cS C.2.1 C.2.2 C.2.1)).trans xb;clear H z a3 p1 p2 a4;go_big_region;clear I xb a1 c0;have aa:=XV _ _ y;have x:=aB (Yc C.2.2 aa);have XB:=aB C.1;have ab:=aB (Yc S R);have RL:=aB (fun wx (k:XC w1 w1 wx)=>b3G (DD.1.later k) i hi (W.off (G:=[]) (aH.aD k) Xc Xc) ht (by rw[S];simp) (by rw[R];simp) hf ho hz hA);clear g1 S R hf ho hz hA C kk a2 ht;generalize w=N at y x ⊢;have AF:Hid (∀ w2 q,Step (·=.bH i) w1.drew.heap.size o q w1.drew w2->w2.cell? (N,0)=U ↑g.eb/\w2.cell? (g.eb,2)=U ↑g.tb):=fun w2 q D =>⟨(zo (w:=w1) (D.cS x.2 x.1 x.2)).trans y,D.qv ab.1 Xc P⟩
 go_upto_region 3 with fail;go_region_held3 (fun w'=>w'.cell? (N,0)=U ↑g.eb/\w'.cell? (g.eb,2)=U ↑g.tb)
  (first
   |exact⟨y,P⟩
   |exact AF _ _ D)
  (first
   |(go_at_call 192;refine aK (RL _ (eN w1)) ?_;rintro w2 ⟨q,q1,D⟩))
 have HF:Hid (KQ w d r o g i hi w2):=by have t0:Step uW w o o w X:=Step.below XB;have t1:=t0.trans ((Step.below (eN X)).trans (DD.2.mono (fun c hc=>.inl hc) t0.size));have t2:=t1.trans (Step.below (eN w1));exact⟨q,q1,t2.trans (D.mono (fun c hc=>.inr (.inr (.inr ⟨i,hc⟩))) t2.size)⟩
 clear q1 D RL DD W;go_wp21;(try simp only[Exit.inBlock,Exit.then]);refine bodyPost_ret (results_none rfl _ _ _) rfl ?_;exact⟨rfl,HF⟩
def LL(w:Xz)(d:Xq)(r:Raw)(f:Xq->Xo bO)(g:EG)(w':Xz):Prop :=∃ c,DK w' d { r with eg:=gF g.e.id r.eg,wl:=r.wl.filter fun b=>!(b==g.eb) } c/\Step uW w f c w w'
theorem WU{r:Raw}{y:Xq->Xo bO}(h:DK w d r y){g:EG}(W:g∈r.eg)(hk:g.e.kind=3)(af:0<=g.e.id/\g.e.id<=1000)(R:∀ b∈r.wl,∃ x∈r.eg,x.eb=b)(ac:r.wl.length<=1000):XD prog 155 #[d,g.eb] w fun e w'=>e=XQ (XL #[])/\LL w d r y g w':=by
 have hX:XC w w (w.alloc (XR #[g.eb] 194)):=aS;have q:=h.later hX;have xb:(w.alloc (XR #[g.eb] 194)).cell? (w,0)=U ↑g.eb:=Xc;have P:w<(w.alloc (XR #[g.eb] 194)).heap.size:=Xc;have aa:y w=Xv:=by
  cases e:y w with
  |none=>rfl
  |some c=>have:=h.lt _ _ e;omega
 have H:=aB (Yc hX (Yc P aa));clear h hX P aa;go_in;go_upto_region 1 with fail;generalize (w.alloc (XR #[g.eb] 194))=X at q xb H ⊢;obtain⟨g1,g2,g3⟩:=q.en g W;obtain⟨m,f,a1,a2,a3,a4⟩:=q.me;have c0:=g1.en.c0;have ae:(g.e.kind != 3)=Xx:=bV hk;have kk:=yp (n:=g.e.id) O O;obtain⟨w1,T,p1,p2⟩:=(a3.block (w':=X.drew) rfl).om yg underlying87 kk 0;have z:=q.later (eN X);have DD:=aB (z.xJ a1 a2 a4 g.e.id p1 p2);have EC:Hid (∀ x∈r.eg,y x.eb=U .ent):=fun x q=>(z.en x q).2.1;have I:=(fun x q=>DD.2.vF (z.en x q).1 (.inl ⟨_,(z.en x q).2.1,by simp⟩) (.inl ⟨_,(z.en x q).2.2,by simp⟩));have ai:=(I g W).k;have K:=(zo (w:=X) (DD.2.cS H.2.1 H.2.2 H.2.1)).trans xb;clear q z a3 p1 p2 a4;go_big_region;clear T xb a1 c0;have ad:=XV _ _ K;have C:=aB (Yc H.2.2 ad);have XB:=aB H.1;clear g1 g2 g3 H kk a2;obtain⟨v,c4,own,A⟩:=DD.1.wa;have f4:=DD.1.fz 4;have E:w.heap.size ∉ v.ownBlock.toList:=fun e=>by have:=A _ (Zl.1 e);rw[C.1] at this;cases this
 have S:d ∉ v.ownBlock.toList:=fun e=>by have:=A _ (Zl.1 e);rw[DD.1.dc] at this;cases this
 have D:∀ x∈r.eg,x.eb ∉ v.ownBlock.toList:=fun x q e=>by have h1:=A _ (Zl.1 e);have h2:=EC x q;rw[h2] at h1;cases h1
 have DL:=aB (GD (.inr ⟨rfl,w,rfl⟩) r.wl (fun b=>b==g.eb) v w1 (fun wx k b hb=>by
  obtain⟨x,q,rfl⟩:=R b hb;have b1:∃ cs,wx.heap[g.eb]?=U (XR cs 197 (0,0)):=by obtain⟨cs,e⟩:=(I g W).bl;exact⟨cs,(k.block _ (I g W).lt (D g W)).trans e⟩
  have b2:∃ cs,wx.heap[x.eb]?=U (XR cs 197 (0,0)):=by obtain⟨cs,e⟩:=(I x q).bl;exact⟨cs,(k.block _ (I x q).lt (D x q)).trans e⟩
  exact WQ w g.eb x.eb wx (k.cell E K) b1 b2) own ac)
 have VC:=aB (Yc A (Yc E S));clear own A E S D R;go_wp21;refine DL.mono ?_;rintro e w2 ⟨v',rfl,k1,k2,k3⟩;obtain⟨va,vn,vc,rfl⟩:∃ a n cap,v'=XI a n cap:=by
  rcases k2.2 with ⟨e,_⟩|⟨_,_,_,e,_⟩
  .exact⟨_,_,_,e⟩
  .exact⟨_,_,_,e⟩
 have aj:=k1.cell VC.2.2 c4;have ag:=(k1.frozen (o:=4) VC.2.2 (XV _ _ c4)).trans f4;have SW:=aB (DD.1.lC VC.1 k1 k2 (fun b hb=>.inl (by rw[<- k3];exact hb)));clear k1 k2 k3 DL c4 f4 I;have HF:Hid (LL w d r y g (w2.setCell (d,4) (XI va vn vc))):=by have t0:Step uW w y y w X:=Step.below XB;have t1:=t0.trans ((Step.below (eN X)).trans (DD.2.mono (fun c hc=>.inl hc) t0.size));obtain⟨ab,q1,q2⟩:=SW;exact⟨ab,q1,t1.trans (q2.mono (fun c hc=>by rcases hc with e|e;exact .inr (.inl e);exact .inr (.inr (.inl e))) t1.size)⟩
 clear DD SW VC C XB;go_wp21;go_end0;exact⟨rfl,HF⟩
open aA (aQ St eD kept fc ek ec jw dB dI jC Inv)
def kM(c:J EG)(id:N):Xq:=(jc c id).getD 0
theorem En{c:J EG}(f:(c.map (·.e.id)).Nodup){g:EG}(h:g∈c):kM c g.e.id=g.eb:=by unfold kM;rw[Lp f h];rfl
structure Of(s:St)(r:Raw):Prop where
 now:r.now=s.now
 given:r.given=s.given
 ts:r.tg.map (fun t=>(t.name,t.aN))=s.ts
 es:r.eg.map (·.e)=s.es
 th:∀ (i:Xq) (h:i<r.tg.length),r.tg[i].A=ec r.tg[i].name s.es/\jw r.tg[i].name s.es (kM r.eg) r.tg[i].T
 tb:∀ g∈r.eg,∃ (i:Xq) (h:i<r.tg.length),r.tg[i].name=g.e.bH/\g.tb=r.tg[i].tb
def Wl(r:Raw):Prop:=r.wl=(r.eg.filter fun g=>g.e.kind==3).map (·.eb)
def jW(g:EG):Hp.Hi:=⟨g.e.bZ,g.e.id,g.eb⟩
def Hl(r:Raw):Prop:=Hp.iP r.hl/\r.hl.Perm ((r.eg.filter fun g=>g.e.kind != 1).map jW)
theorem Of.mem{r:Raw}(h:Of s r){g:EG}(c:g∈r.eg):g.e∈s.es:=by rw[<- h.es];exact YN.2 ⟨g,c,rfl⟩
theorem Of.get{r:Raw}(h:Of s r)(c:e∈s.es):∃ g∈r.eg,g.e=e:=by rw[<- h.es] at c;exact YN.1 c
theorem Of.len{r:Raw}(h:Of s r):r.tg.length=s.ts.length:=by rw[<- h.ts];simp
theorem Of.mE{r:Raw}(h:Of s r)(c:i<r.tg.length):s.ts[i]'(by rw[<- h.len];exact c)=(r.tg[i].name,r.tg[i].aN):=by have e:(r.tg.map fun t=>(t.name,t.aN))[i]'Xi=(r.tg[i].name,r.tg[i].aN):=Xc;rw[<- e];congr 1;exact h.ts.symm
theorem FB(f:ts.Pairwise fun t u=>dI t.1 u.1=Xx):∀ {i:Xq}(g:i<ts.length),aA.cI ts[i].1 ts=ts[i].2:=by
 induction ts with
 |nil=>intro i g;simp at g
 |cons t ts ih =>
  intro i g;rw[Yk] at f
  cases i with
  |zero=>simp[aA.cI,aA.tY]
  |succ i =>have c:i<ts.length:=Xi;have:=f.1 ts[i] (zg c);simp only[List.getElem_cons_succ,aA.cI,this];exact ih f.2 c
theorem za(h:∀ t∈ts,t.1≠name):aA.cI name ts=0:=by
 induction ts with
 |nil=>rfl
 |cons t ts ih =>have c:=sM.2 (h t Xc);simp only[aA.cI,c];exact ih (fun t ht=>h t (by simp[ht]))
theorem Of.names{r:Raw}(h:Of s r)(x:s.ts.Pairwise fun t u=>dI t.1 u.1=Xx)(q:i<r.tg.length)(o:j<r.tg.length)(e:r.tg[i].name=r.tg[j].name):i=j:=by
 have c:∀ {a b:Xq}(m:a<r.tg.length) (f:b<r.tg.length),a<b->r.tg[a].name≠r.tg[b].name:=by intro a b m f g;have:=List.pairwise_iff_getElem.1 x a b (by rw[<- h.len];exact m) (by rw[<- h.len];exact f) g;rw[h.mE m,h.mE f] at this;exact sM.1 this
 by_cases z:i<j
 .exact Xu e (c q o z)
 .by_cases y:j<i
  .exact Xu e.symm (c o q y)
  .omega
theorem F0(h:jC L):(L.map (·.1)).Nodup:=by grind[jC]
theorem K7{at_:N->Xq}{T:aF.S}{eb:Xq}(h:jw name es at_ T)(r:jC L)(g:∀ e∈es,dB name e=Xy->e.id≠id)
  (q:∀ z:aF.It,(∃ e∈es',dB name e=Xy/\∃ s∈e.aR,z=⟨s.1,s.2,e.id,at' e.id⟩)↔(∃ e∈es,dB name e=Xy/\∃ s∈e.aR,z=⟨s.1,s.2,e.id,at_ e.id⟩)\/∃ s∈L,z=mg id eb s):
  jw name es' at' (jj id eb T L)/\(∀ z∈aF.cT T,z.n=id->∀ s∈L,z.f≠s.1):=by
 have c:∀ z∈aF.cT T,z.n=id->∀ s∈L,z.f≠s.1:=by intro z m e;obtain⟨x,o,y,s,_,rfl⟩:=(h.2 z).1 m;exact Xu e (g x o y)
 let⟨k1,_,k3,_⟩:=Ee id eb L T h.1 c (F0 r);exact⟨⟨k1,fun z=>by rw[k3,h.2];exact (q z).symm⟩,c⟩
theorem WI{at_:N->Xq}{T:aF.S}{e0:aQ}(h:jw name es at_ T)(m:eD es)(x:e0∈es)(q:∀ e∈es,e.id≠e0.id->at' e.id=at_ e.id):jw name (kept e0.id es) at' (lQ e0.id T e0.aR):=by
 let⟨k1,k2,_⟩:=Er e0.id e0.aR T h.1;refine⟨k1,fun z=>?_⟩;rw[k2,ZW,h.2];constructor
 .rintro ⟨⟨e,f,o,s,g,rfl⟩,r⟩
  have c:e.id≠e0.id:=by intro y;have:e=e0:=m.one f x y;subst this;have:=Zx.1 r s g;simp[aF.pM] at this
  exact⟨e,aA.uZ.2 ⟨f,c⟩,o,s,g,by grind⟩
 .rintro ⟨e,f,o,s,g,rfl⟩;let⟨f,c⟩:=aA.uZ.1 f;refine⟨⟨e,f,o,s,g,by grind⟩,?_⟩;rw[Zx];intro t _;simp[aF.pM,c]
theorem yV{at_:N->Xq}{T:aF.S}(h:jw name es at_ T)(o:∀ e,dB name e=Xy->(e∈es'↔e∈es))(q:∀ e∈es,dB name e=Xy->at' e.id=at_ e.id):jw name es' at' T:=by refine⟨h.1,fun z=>?_⟩;rw[h.2];constructor;rintro ⟨e,m,c,s,f,rfl⟩;exact⟨e,(o e c).2 m,c,s,f,by grind⟩;rintro ⟨e,m,c,s,f,rfl⟩;have g:=(o e c).1 m;exact⟨e,g,c,s,f,by grind⟩
theorem Of.turn{r:Raw}(h:Of s r)(z:s.ts.Pairwise fun t u=>dI t.1 u.1=Xx)(A:i<r.tg.length){c:J EG}{m:J Xp->N}{T':aF.S}(D:c.map (·.e)=es')(K:m=ec r.tg[i].name es')(I:jw r.tg[i].name es' (kM c) T')
  (H:∀ (name:Xm) (T:aF.S),name≠r.tg[i].name->ec name es'=ec name s.es/\(jw name s.es (kM r.eg) T->jw name es' (kM c) T)) (E:∀ g∈c,∃ (i:Xq) (h:i<r.tg.length),r.tg[i].name=g.e.bH/\g.tb=r.tg[i].tb):
  Of { s with es:=es' } ({ r with eg:=c }.eI i (r.tg[i].with m T')):=by
 have y:({ r with eg:=c }.eI i (r.tg[i].with m T')).tg.length=r.tg.length:=by simp[Raw.eI]
 have f:∀ (j:Xq) (q:j<r.tg.length),(({ r with eg:=c }.eI i (r.tg[i].with m T')).tg[j]'Xi).name=r.tg[j].name/\(({ r with eg:=c }.eI i (r.tg[i].with m T')).tg[j]'Xi).tb=r.tg[j].tb:=by intro j q;by_cases e:i=j;subst e;simp[Raw.eI,TG.with];simp[Raw.eI,e]
 refine⟨h.now,h.given,?_,D,fun j q=>?_,fun g C=>?_⟩
 .rw[<- h.ts];show (r.tg.set i (r.tg[i].with m T')).map _=_;rw[List.map_set];have:((r.tg[i].with m T').name,(r.tg[i].with m T').aN)=(r.tg.map fun t=>(t.name,t.aN))[i]'Xi:=by simp[TG.with]
  rw[this,List.set_getElem_self]
 .have o:j<r.tg.length:=Xi
  by_cases e:i=j
  .subst e;have x:({ r with eg:=c }.eI i (r.tg[i].with m T')).tg[i]=r.tg[i].with m T':=by simp[Raw.eI]
   rw[x];exact⟨K,I⟩
  .have x:({ r with eg:=c }.eI i (r.tg[i].with m T')).tg[j]=r.tg[j]:=by simp[Raw.eI,e]
   rw[x];let⟨k1,k2⟩:=H r.tg[j].name r.tg[j].T (fun P=>e (h.names z A o P.symm));let⟨q1,q2⟩:=h.th j o;exact⟨q1.trans k1.symm,k2 q2⟩
 .let⟨j,q,e1,x⟩:=E g C;exact⟨j,by grind,(f j q).1.trans e1,x.trans (f j q).2.symm⟩
theorem KB(id:N)(c:J EG):(gQ id 1 0 c).map (·.e)=fc id (c.map (·.e)):=by unfold gQ fc;rw[List.map_map,List.map_map];apply List.map_congr_left;intro g _;simp only[Function.comp];split <;> rfl
theorem Kq(id:N)(c:J EG):(gF id c).map (·.e)=kept id (c.map (·.e)):=by unfold gF kept;rw[List.filter_map];rfl
theorem Ly{c f:N}{g:J EG}{x:EG}(h:x∈gQ id c f g):∃ y∈g,x.eb=y.eb/\x.tb=y.tb/\x.e.bH=y.e.bH/\x.e.id=y.e.id:=by grind[gQ]
theorem Fo(id c f:N)(eg:J EG):kM (gQ id c f eg)=kM eg:=by funext x;unfold kM;rw[KA]
theorem Of.book{r:Raw}(h:Of s r)(hp:s.ts.Pairwise fun t u=>dI t.1 u.1=Xx)(D:eD s.es)(X:(r.eg.map (·.e.id)).Nodup){g:EG}(S:g∈r.eg)(hk:g.e.kind=3)(hr:jC g.e.aR)(hi:i<r.tg.length)(C:r.tg[i].name=g.e.bH):Of { s with es:=fc g.e.id s.es } ({ r with eg:=gQ g.e.id 1 0 r.eg }.eI i (r.tg[i].with (dK r.tg[i].A g.e.aR g.e.aN) (jj g.e.id g.eb r.tg[i].T g.e.aR)))/\(∀ z∈aF.cT r.tg[i].T,z.n=g.e.id->∀ s∈g.e.aR,z.f≠s.1):=by
 let⟨t1,t2⟩:=h.th i hi;have I:=h.mem S;have o:∀ (name:Xm) (e:aQ),e∈s.es->dB name e=Xy->e.id≠g.e.id:=by intro name e c m R;have:e=g.e:=D.one c I R;subst this;simp[dB,hk] at m
 have W:dB r.tg[i].name (ek g.e)=Xy:=by rw[aA.tW,C];exact aA.tY _
 have hP:=K7 (id:=g.e.id) (eb:=g.eb) (L:=g.e.aR) (es':=fc g.e.id s.es) (at':=kM (gQ g.e.id 1 0 r.eg)) t2 hr (fun e c m=>o _ e c m) (fun z=>by
  rw[Fo];constructor
  .rintro ⟨e,c,m,q,H,rfl⟩;rcases aA.tZ.1 c with ⟨c,_⟩|⟨y,K,E,rfl⟩
   .exact .inl ⟨e,c,m,q,H,rfl⟩
   .have:y=g.e:=D.one K I E;subst this;exact .inr ⟨q,H,by unfold mg;rw[show (ek g.e).id=g.e.id from rfl,En X S]⟩
  .rintro (⟨e,c,m,q,H,rfl⟩|⟨q,H,rfl⟩)
   .exact⟨e,aA.tZ.2 (.inl ⟨c,o _ e c m⟩),m,q,H,rfl⟩
   .exact⟨ek g.e,aA.tZ.2 (.inr ⟨g.e,I,rfl,rfl⟩),W,q,H,by unfold mg;rw[show (ek g.e).id=g.e.id from rfl,En X S]⟩)
 refine⟨h.turn hp hi (by rw[KB,h.es]) ?_ hP.1 (fun name T P=>⟨?_,fun hT=>?_⟩) (fun x hx=>?_),hP.2⟩
 .rw[t1];exact aA.MN (by rw[C];exact aA.tY _) hk D I
 .refine aA.Gj (fun e c R m=>?_);have:e=g.e:=D.one c I R;subst this;exact Xu (ve.1 m) (fun e2=>P Xi)
 .refine yV hT (fun e m=>?_) (fun e _ _=>by rw[Fo]);constructor
  .intro c;rcases aA.tZ.1 c with ⟨c,_⟩|⟨y,K,E,rfl⟩
   .exact c
   .have:y=g.e:=D.one K I E;subst this;rw[aA.tW] at m;exact Xu (ve.1 m) (fun e2=>P Xi)
  .intro c;exact aA.tZ.2 (.inl ⟨c,o name e c m⟩)
 .let⟨y,K,R,e2,e3,_⟩:=Ly hx;let⟨j,hj,q1,q2⟩:=h.tb y K;exact⟨j,hj,by grind,by grind⟩
theorem Of.uD{r:Raw}(h:Of s r)(f:eD s.es){g:EG}(P:g∈r.eg)(I:g.e.kind≠3):Of { s with es:=fc g.e.id s.es } { r with eg:=gQ g.e.id 1 0 r.eg }:=by
 have A:=h.mem P;refine⟨h.now,h.given,h.ts,by rw[<- h.es];exact KB _ _,fun j H=>?_,fun x K=>?_⟩
 .let⟨t1,t2⟩:=h.th j H;refine⟨t1.trans (aA.Gj (fun e c C _=>?_)).symm,⟨t2.1,fun z=>?_⟩⟩
  .have:e=g.e:=f.one c A C;rw[this];exact I
  .show z∈aF.cT r.tg[j].T↔∃ e∈fc g.e.id s.es,dB r.tg[j].name e=Xy/\∃ q∈e.aR,z=⟨q.1,q.2,e.id,kM (gQ g.e.id 1 0 r.eg) e.id⟩;rw[t2.2,Fo];constructor
   .rintro ⟨e,c,m,q,o,rfl⟩
    by_cases C:e.id=g.e.id
    .have:e=g.e:=f.one c A C;subst this;refine⟨ek g.e,aA.tZ.2 (.inr ⟨g.e,A,rfl,rfl⟩),?_,q,o,rfl⟩;rw[aA.tW];simp[dB] at m;exact m.1
    .exact⟨e,aA.tZ.2 (.inl ⟨c,C⟩),m,q,o,rfl⟩
   .rintro ⟨e,c,m,q,o,rfl⟩;rcases aA.tZ.1 c with ⟨c,_⟩|⟨y,E,D,rfl⟩
    .exact⟨e,c,m,q,o,rfl⟩
    .have:y=g.e:=f.one E A D;subst this;rw[aA.tW] at m;exact⟨g.e,A,by simp[dB,m,I],q,o,rfl⟩
 .let⟨y,E,C,e2,e3,_⟩:=Ly K;let⟨j,H,q1,q2⟩:=h.tb y E;exact⟨j,H,by grind,by grind⟩
theorem Em{c:J EG}(g:(c.map (·.e.id)).Nodup)(id x:N)(f:x≠id):kM (gF id c) x=kM c x:=by unfold kM;rw[Kp g,Xs f]
theorem Of.goes{r:Raw}(h:Of s r)(K:s.ts.Pairwise fun t u=>dI t.1 u.1=Xx)(m:eD s.es)(E:(r.eg.map (·.e.id)).Nodup){g:EG}(R:g∈r.eg)(P:g.e.kind≠3)(H:i<r.tg.length)(q:r.tg[i].name=g.e.bH):Of { s with es:=kept g.e.id s.es } ({ r with eg:=gF g.e.id r.eg }.eI i (r.tg[i].with (dK r.tg[i].A g.e.aR (-g.e.aN)) (lQ g.e.id r.tg[i].T g.e.aR))):=by
 let⟨t1,t2⟩:=h.th i H;have z:=h.mem R;have C:dB r.tg[i].name g.e=Xy:=by simp[dB,q,aA.tY,P]
 refine h.turn K H (by rw[Kq,h.es]) ?_ (WI t2 m z (fun e _ f=>Em E _ _ f)) (fun name T f=>⟨?_,fun S=>?_⟩) (fun x I=>h.tb x (ZW.1 I).1)
 .rw[t1];exact aA.Fz C m z
 .refine aA.Gd (fun e c D=>?_);have:e=g.e:=m.one c z D;subst this;have:dI g.e.bH name=Xx:=sM.2 (fun W=>f Xi);simp[dB,this]
 .have o:∀ e∈s.es,dB name e=Xy->e.id≠g.e.id:=fun e c y D=>by have:e=g.e:=m.one c z D;subst this;have:dI g.e.bH name=Xx:=sM.2 (fun W=>f Xi);simp[dB,this] at y
  exact yV S (fun e y=>⟨fun c=>(aA.uZ.1 c).1,fun c=>aA.uZ.2 ⟨c,o e c y⟩⟩) (fun e c y=>Em E _ _ (o e c y))
theorem Of.xp{r:Raw}(h:Of s r)(m:eD s.es)(C:(r.eg.map (·.e.id)).Nodup){g:EG}(E:g∈r.eg)(z:g.e.kind=3):Of { s with es:=kept g.e.id s.es } { r with eg:=gF g.e.id r.eg }:=by
 have y:=h.mem E;have f:∀ (name:Xm),∀ e∈s.es,dB name e=Xy->e.id≠g.e.id:=fun name e c o q=>by have:e=g.e:=m.one c y q;subst this;simp[dB,z] at o
 refine⟨h.now,h.given,h.ts,by rw[<- h.es];exact Kq _ _,fun j D=>?_,fun x A=>h.tb x (ZW.1 A).1⟩;let⟨t1,t2⟩:=h.th j D;refine⟨t1.trans (aA.Gd (fun e c q=>?_)).symm,yV t2 (fun e o=>⟨fun c=>(aA.uZ.1 c).1,fun c=>aA.uZ.2 ⟨c,f _ e c o⟩⟩) (fun e c o=>Em C _ _ (f _ e c o))⟩;have:e=g.e:=m.one c y q;subst this;simp[dB,z]
theorem wG{f:J EG}{g:EG}(c:∀ x∈f,x.e.id≠g.e.id)(x:N):kM (f++[g]) x=if x=g.e.id then g.eb else kM f x:=by unfold kM;rw[KD c];split <;> rfl
theorem Of.comes{r:Raw}(h:Of s r)(hp:s.ts.Pairwise fun t u=>dI t.1 u.1=Xx){g:EG}(o:∀ x∈r.eg,x.e.id≠g.e.id)(hk:g.e.kind≠3)(X:jC g.e.aR)(S:i<r.tg.length)(y:r.tg[i].name=g.e.bH)(P:g.tb=r.tg[i].tb)(n:N):Of { s with es:=s.es++[g.e],given:=n } ({ r with eg:=r.eg++[g],given:=n }.eI i (r.tg[i].with (dK r.tg[i].A g.e.aR g.e.aN) (jj g.e.id g.eb r.tg[i].T g.e.aR)))/\(∀ z∈aF.cT r.tg[i].T,z.n=g.e.id->∀ s∈g.e.aR,z.f≠s.1):=by
 let⟨t1,t2⟩:=h.th i S;have I:dB r.tg[i].name g.e=Xy:=by simp[dB,y,aA.tY,hk]
 have m:∀ e∈s.es,e.id≠g.e.id:=fun e c=>by obtain⟨x,C,rfl⟩:=h.get c;exact o x C
 have W:=K7 (id:=g.e.id) (eb:=g.eb) (L:=g.e.aR) (es':=s.es++[g.e]) (at':=kM (r.eg++[g])) t2 X (fun e c _=>m e c) (fun z=>by
  constructor
  .rintro ⟨e,c,E,q,D,rfl⟩;rcases X8.1 c with c|c
   .exact .inl ⟨e,c,E,q,D,by rw[wG o,Xs (m e c)]⟩
   .have:e=g.e:=Xi
    subst this;exact .inr ⟨q,D,by unfold mg;rw[wG o,Xt rfl]⟩
  .rintro (⟨e,c,E,q,D,rfl⟩|⟨q,D,rfl⟩)
   .exact⟨e,by simp[c],E,q,D,by rw[wG o,Xs (m e c)]⟩
   .exact⟨g.e,by simp,I,q,D,by unfold mg;rw[wG o,Xt rfl]⟩)
 have K:Of { s with es:=s.es++[g.e] } ({ r with eg:=r.eg++[g] }.eI i (r.tg[i].with (dK r.tg[i].A g.e.aR g.e.aN) (jj g.e.id g.eb r.tg[i].T g.e.aR))):=by
  refine h.turn hp S (by rw[YS,h.es];rfl) ?_ W.1 (fun name T R=>?_) (fun x C=>?_)
  .rw[t1];exact aA.Wf I
  .have hf:dI g.e.bH name=Xx:=sM.2 (fun e2=>R Xi);have H:dB name g.e=Xx:=by simp[dB,hf]
   refine⟨aA.MQ H,fun hT=>yV hT (fun e E=>?_) (fun e c _=>by rw[wG o,Xs (m e c)])⟩;rw[X8];constructor
   .rintro (c|c)
    .exact c
    .have:e=g.e:=Xi
     subst this;rw[H] at E;cases E
   .exact .inl
  .rcases X8.1 C with C|C
   .exact h.tb x C
   .have:x=g:=Xi
    subst this;exact⟨i,S,y,P⟩
 exact⟨⟨K.now,rfl,K.ts,K.es,K.th,K.tb⟩,W.2⟩
theorem Of.nO{r:Raw}(h:Of s r){g:EG}(y:∀ x∈r.eg,x.e.id≠g.e.id)(C:g.e.kind=3)(E:i<r.tg.length)(c:r.tg[i].name=g.e.bH)(z:g.tb=r.tg[i].tb)(n:N):Of { s with es:=s.es++[g.e],given:=n } { r with eg:=r.eg++[g],given:=n }:=by
 have q:∀ e∈s.es,e.id≠g.e.id:=fun e m=>by obtain⟨x,f,rfl⟩:=h.get m;exact y x f
 refine⟨h.now,rfl,h.ts,by show (r.eg++[g]).map _=_;rw[YS,h.es];rfl,fun j D=>?_,fun x f=>?_⟩
 .let⟨t1,t2⟩:=h.th j D;have o:∀ name,dB name g.e=Xx:=fun name=>by simp[dB,C]
  refine⟨t1.trans (aA.MQ (o _)).symm,yV t2 (fun e A=>?_) (fun e m _=>by show kM (r.eg++[g]) e.id=_;rw[wG y,Xs (q e m)])⟩;show e∈s.es++[g.e]↔_;rw[X8];constructor
  .rintro (m|m)
   .exact m
   .have:e=g.e:=Xi
    subst this;rw[o] at A;cases A
  .exact .inl
 .rcases X8.1 f with f|f
  .exact h.tb x f
  .have:x=g:=Xi
   subst this;exact⟨i,E,c,z⟩
theorem VZ{eg:J EG}(f:(eg.map (·.e.id)).Nodup){g:EG}(q:g∈eg)(A:g.e.kind≠1):(eg.filter fun x=>x.e.kind != 1).Perm (g :: (gQ g.e.id 1 0 eg).filter fun x=>x.e.kind != 1):=by
 induction eg with
 |nil=>simp at q
 |cons y eg ih =>
  rw[List.map_cons,Ya] at f;rcases X7.1 q with rfl|c
  .have z:gQ g.e.id 1 0 eg=eg:=by
    unfold gQ;have:eg.map (fun x=>if x.e.id=g.e.id then { x with e:={ x.e with kind:=1,bZ:=0 } } else x)=eg.map id:=by apply List.map_congr_left;intro x r;rw[Xs (fun e=>f.1 (YN.2 ⟨x,r,e⟩))];rfl
    rw[this,List.map_id]
   have o:gQ g.e.id 1 0 (g :: eg)={ g with e:={ g.e with kind:=1,bZ:=0 } } :: eg:=by
    conv=>lhs;unfold gQ;rw[List.map_cons,Xt rfl]
    conv=>rhs;rw[<- z]
    rfl
   rw[o,Ym,Xt Xi,Ym,Xs Xc]
  .have m:y.e.id≠g.e.id:=fun e=>f.1 (YN.2 ⟨g,c,e.symm⟩)
   have o:gQ g.e.id 1 0 (y :: eg)=y :: gQ g.e.id 1 0 eg:=by
    conv=>lhs;unfold gQ;rw[List.map_cons,Xs m]
    rfl
   rw[o];have ih:=ih f.2 c;by_cases h:(y.e.kind != 1)=Xy
   .rw[Ym,Xt h,Ym,Xt h];exact (ih.cons y).trans (.swap ..)
   .rw[Ym,Xs h,Ym,Xs h];exact ih
theorem V1{eg:J EG}(h:(eg.map (·.e.id)).Nodup){g:EG}(o:g∈eg)(p:EG->Xp)(q:p g=Xy):(eg.filter p).Perm (g :: (gF g.e.id eg).filter p):=by
 induction eg with
 |nil=>simp at o
 |cons y eg ih =>
  rw[List.map_cons,Ya] at h;rcases X7.1 o with rfl|c
  .have m:gF g.e.id (g :: eg)=eg:=by unfold gF;rw[Ym,Xs Xc];exact ZX.2 (fun x z=>by grind)
   rw[m,Ym,Xt q]
  .have r:y.e.id≠g.e.id:=fun e=>h.1 (YN.2 ⟨g,c,e.symm⟩)
   have m:gF g.e.id (y :: eg)=y :: gF g.e.id eg:=by unfold gF;rw[Ym,Xt Xi]
   rw[m];have ih:=ih h.2 c;by_cases f:p y=Xy
   .rw[Ym,Xt f,Ym,Xt f];exact (ih.cons y).trans (.swap ..)
   .rw[Ym,Xs f,Ym,Xs f];exact ih
theorem MD{c:J EG}(m:(c.map (·.e.id)).Nodup){g:EG}(o:g∈c)(p:EG->Xp)(h:p g=Xx):(gF g.e.id c).filter p=c.filter p:=by
 unfold gF;rw[List.filter_filter];apply List.filter_congr;intro x f;by_cases e:x.e.id=g.e.id
 .have:x=g:=qL _ m f o e;subst this;simp[h]
 .have:(x.e.id != g.e.id)=Xy:=Xi
  simp[this]
theorem Hl.at{r:Raw}(h:Hl r){x:Hp.Hi}(c:x∈r.hl):∃ g∈r.eg,g.e.kind≠1/\x=jW g:=by have:=h.2.mem_iff.1 c;obtain⟨g,f,rfl⟩:=YN.1 this;exact⟨g,(ZW.1 f).1,by grind,rfl⟩
theorem Hl.has{r:Raw}(h:Hl r){g:EG}(c:g∈r.eg)(f:g.e.kind≠1):jW g∈r.hl:=h.2.mem_iff.2 (YN.2 ⟨g,ZW.2 ⟨c,by grind⟩,rfl⟩)
theorem Hl.len{r:Raw}(h:Hl r):r.hl.length<=r.eg.length:=by rw[h.2.length_eq,Zd];exact Zi _ _
theorem Hl.one{r:Raw}(h:Hl r)(o:(r.eg.map (·.e.id)).Nodup){g:EG}(q:g∈r.eg){x:Hp.Hi}{c:J Hp.Hi}(f:x.n=g.e.id)(m:r.hl.Perm (x :: c)):x=jW g:=by let⟨y,hy,_,e⟩:=h.at (x:=x) (m.mem_iff.2 Xc);subst e;have:y=g:=qL _ o hy q f;rw[this]
theorem Hl.book{r:Raw}(h:Hl r)(m:(r.eg.map (·.e.id)).Nodup){g:EG}(o:g∈r.eg)(y:g.e.kind≠1){x:Hp.Hi}{c:J Hp.Hi}(q:x.n=g.e.id)(z:Hp.iP c)(f:r.hl.Perm (x :: c)):Hl { r with eg:=gQ g.e.id 1 0 r.eg,hl:=c }:=by have e:=h.one m o q f;subst e;refine⟨z,List.Perm.cons_inv (a:=jW g) ?_⟩;exact f.symm.trans (h.2.trans ((VZ m o y).map jW))
theorem Hl.goes{r:Raw}(h:Hl r)(m:(r.eg.map (·.e.id)).Nodup){g:EG}(o:g∈r.eg)(z:g.e.kind≠1){x:Hp.Hi}{c:J Hp.Hi}(q:x.n=g.e.id)(y:Hp.iP c)(f:r.hl.Perm (x :: c)):Hl { r with eg:=gF g.e.id r.eg,hl:=c }:=by have e:=h.one m o q f;subst e;refine⟨y,List.Perm.cons_inv (a:=jW g) ?_⟩;exact f.symm.trans (h.2.trans ((V1 m o (fun g=>g.e.kind != 1) Xi).map jW))
theorem Hl.qd{r:Raw}(h:Hl r)(c:(r.eg.map (·.e.id)).Nodup){g:EG}(m:g∈r.eg)(f:g.e.kind=1):Hl { r with eg:=gF g.e.id r.eg }:=by refine⟨h.1,?_⟩;show r.hl.Perm (((gF g.e.id r.eg).filter fun g=>g.e.kind != 1).map jW);rw[MD c m _ (by simp[f])];exact h.2
theorem Hl.comes{r:Raw}(h:Hl r){g:EG}(m:g.e.kind≠1){c:J Hp.Hi}(o:Hp.iP c)(f:c.Perm (r.hl++[jW g])):Hl { r with eg:=r.eg++[g],hl:=c }:=by
 refine⟨o,f.trans ?_⟩;show (r.hl++[jW g]).Perm (((r.eg++[g]).filter fun g=>g.e.kind != 1).map jW);rw[Yl,YS];have:[g].filter (fun g=>g.e.kind != 1)=[g]:=by simp[m]
 rw[this];exact h.2.append_right _
theorem Hl.uE{r:Raw}(h:Hl r){g:EG}(c:g.e.kind=1):Hl { r with eg:=r.eg++[g] }:=by
 refine⟨h.1,?_⟩;show r.hl.Perm (((r.eg++[g]).filter fun g=>g.e.kind != 1).map jW);rw[Yl];have:[g].filter (fun g=>g.e.kind != 1)=[]:=by simp[c]
 rw[this,List.append_nil];exact h.2
theorem Wl.goes{r:Raw}(h:Wl r)(o:(r.eg.map (·.e.id)).Nodup)(q:(r.eg.map (·.eb)).Nodup){g:EG}(m:g∈r.eg):(r.wl.filter fun b=>!(b==g.eb))=((gF g.e.id r.eg).filter fun g=>g.e.kind==3).map (·.eb):=by
 rw[h,List.filter_map];unfold gF;rw[List.filter_filter,List.filter_filter];congr 1;apply List.filter_congr;intro x f;have:(x.eb==g.eb)=(x.e.id==g.e.id):=by
  by_cases e:x=g
  .subst e;simp
  .have z:x.eb≠g.eb:=fun c=>e (qL _ q f m c)
   have y:x.e.id≠g.e.id:=fun c=>e (qL _ o f m c);rw[beq_eq_false_iff_ne.2 z,beq_eq_false_iff_ne.2 y]
 simp only[Function.comp,this];rw[Bool.and_comm];rfl
theorem Wl.qd{r:Raw}(h:Wl r)(c:(r.eg.map (·.e.id)).Nodup){g:EG}(f:g∈r.eg)(m:g.e.kind≠3):Wl { r with eg:=gF g.e.id r.eg }:=by unfold Wl at *;show r.wl=((gF g.e.id r.eg).filter fun g=>g.e.kind==3).map (·.eb);rw[MD c f _ Xi];exact h
theorem Wl.comes{r:Raw}(h:Wl r){g:EG}(c:g.e.kind≠3):Wl { r with eg:=r.eg++[g] }:=by
 unfold Wl at *;show r.wl=((r.eg++[g]).filter fun g=>g.e.kind==3).map (·.eb);rw[Yl];have:[g].filter (fun g=>g.e.kind==3)=[]:=by simp[c]
 rw[this,List.append_nil];exact h
theorem Wl.nO{r:Raw}(h:Wl r){g:EG}(c:g.e.kind=3):Wl { r with eg:=r.eg++[g],wl:=r.wl++[g.eb] }:=by
 unfold Wl at *;show r.wl++[g.eb]=((r.eg++[g]).filter fun g=>g.e.kind==3).map (·.eb);rw[Yl,YS];have:[g].filter (fun g=>g.e.kind==3)=[g]:=by simp[c]
 rw[this,h];rfl
theorem Wl.uD{r:Raw}(h:Wl r)(f:(r.eg.map (·.e.id)).Nodup){g:EG}(o:g∈r.eg)(m:g.e.kind≠3):Wl { r with eg:=gQ g.e.id 1 0 r.eg }:=by
 unfold Wl at *;show r.wl=((gQ g.e.id 1 0 r.eg).filter fun g=>g.e.kind==3).map (·.eb);rw[h];unfold gQ;rw[List.filter_map,List.map_map];have q:(r.eg.filter ((fun g=>g.e.kind==3) ∘ fun x=>if x.e.id=g.e.id then { x with e:={ x.e with kind:=1,bZ:=0 } } else x))=r.eg.filter fun g=>g.e.kind==3:=by apply List.filter_congr;intro x c;simp only[Function.comp];by_cases e:x.e.id=g.e.id;have:x=g:=qL _ f c o e;subst this;rw[Xt rfl];simp[m];rw[Xs e]
 rw[q];apply List.map_congr_left;intro x _;simp only[Function.comp];split <;> rfl
namespace aA
def nT(ts:J (Xm × N))(p:J aQ × J N)(e:aQ):J aQ × J N :=if eT ts p.1 e.bH e.aN e.aR=Xy then (fc e.id p.1,p.2++[e.id]) else p
def gj(e:aQ):Xp:=e.kind==3
theorem b5x{d r:J aQ}(h:eD (d++e :: r)):fc e.id (d++e :: r)=d++ek e :: r:=by
 unfold eD at h;rw[YS,List.map_cons,ZT,Yk] at h;let⟨_,⟨h2,_⟩,h3⟩:=h;unfold fc;rw[YS,List.map_cons,Xt rfl];have g:d.map (fun x=>if x.id=e.id then ek x else x)=d:=by rw[show d=d.map id from (List.map_id d).symm,List.map_map];apply List.map_congr_left;intro x c;have:=h3 x.id (YN.2 ⟨x,c,rfl⟩) e.id Xc;simp only[Function.comp,id];rw[Xs O]
 have f:r.map (fun x=>if x.id=e.id then ek x else x)=r:=by rw[show r=r.map id from (List.map_id r).symm,List.map_map];apply List.map_congr_left;intro x c;have:=h2 x.id (YN.2 ⟨x,c,rfl⟩);simp only[Function.comp,id];rw[Xs O]
 rw[g,f]
theorem Bx(ts:J (Xm × N)):∀ (r d:J aQ)(acc:J N),eD (d++r)->(r.filter gj).foldl (nT ts) (d++r,acc)=((eU ts d r).1,acc++(eU ts d r).2)
 |[],d,acc,_=>by simp[eU]
 |e :: r,d,acc,h=>by
  have x:eD ((d++[e])++r):=Xi;by_cases f:e.kind=3
  .have m:gj e=Xy:=by simp[gj,f]
   rw[Ym,Xt m,Zs];by_cases g:eT ts (d++e :: r) e.bH e.aN e.aR=Xy
   .have q:=b5x h
    have y:eD ((d++[ek e])++r):=by have:=LO (id:=e.id) h;rw[q] at this;simpa using this
    have o:nT ts (d++e :: r,acc) e=((d++[ek e])++r,acc++[e.id]):=by unfold nT;simp only;rw[Xt g,q];simp
    rw[o,Bx ts r _ _ y];have c:eU ts d (e :: r)=((eU ts (d++[ek e]) r).1,e.id :: (eU ts (d++[ek e]) r).2):=by rw[eU,Xt ⟨f,g⟩]
    rw[c];simp
   .have o:nT ts (d++e :: r,acc) e=((d++[e])++r,acc):=by unfold nT;simp only;rw[Xs g];simp
    rw[o,Bx ts r _ _ x];have c:eU ts d (e :: r)=eU ts (d++[e]) r:=by rw[eU,Xs (fun h=>g h.2)]
    rw[c]
  .have m:¬ (gj e=Xy):=by simp[gj,f]
   rw[Ym,Xs m];have c:eU ts d (e :: r)=eU ts (d++[e]) r:=by rw[eU,Xs (fun h=>f h.1)]
   rw[c,<- Bx ts r _ _ x];simp
theorem Bi(ts:J (Xm × N))(es:J aQ)(h:eD es):dS ts es=(es.filter gj).foldl (nT ts) (es,[]):=by have:=Bx ts es [] [] Xi;simp only[List.nil_append] at this;rw[this];rfl
end aA
theorem Step.dY{S:bO->Prop}{g f:Xq->Xo bO}(h:Step S B g f w w'){b:Xq}(o:g b=Xv)(q:b<B):f b=Xv:=by
 cases e:f b with
 |none=>rfl
 |some c =>
  rcases h.new b c e with m|m
  .rw[o] at m;cases m
  .omega
theorem Step.own{S:bO->Prop}{g f:Xq->Xo bO}{c e size:Xq}(h:Step S B g f w w')(o:w.ownsRow c e size v n xs)(m:∀ b,v.ownBlock=U b->g b=Xv/\b<B):w'.ownsRow c e size v n xs:=by let⟨G,a1,a2⟩:=h.left;exact dL o a1 (fun b q=>a2 b (.inr (m b q)))
theorem DK.none{r:Raw}{f:Xq->Xo bO}(h:DK w d r f){b:Xq}(g:w.heap.size<=b):f b=Xv:=by
 cases e:f b with
 |none=>rfl
 |some c=>have:=h.lt _ _ e;omega
structure eO(w:Xz)(B:Xq)(aM:Xq->Xo bO)(v:XA)(l:J N):Prop where
 own:w.ownsRow B 3 1 v l.length (l.map (Value.int Y))
 no:∀ b,v.ownBlock=U b->aM b=Xv
theorem eO.nil(w:Xz)(B:Xq)(c:Xq->Xo bO):eO w B c () []:=⟨World.ownsRow_nil _ _ _ _,fun b f=>by cases f⟩
theorem eO.step{S:bO->Prop}{f c:Xq->Xo bO}(h:eO w B0 f v l)(st:Step S B f c w w')(o:w<=B):eO w' B0 c v l:=by have m:∀ b,v.ownBlock=U b->f b=Xv/\b<B:=fun b g=>⟨h.no b g,YM (h.own.lt b g).2 o⟩;exact⟨st.own h.own m,fun b g=>st.dY (m b g).1 (m b g).2⟩
theorem eO.later{c:Xq->Xo bO}(h:eO w B0 c v l)(k:XC w w w'):eO w' B0 c v l:=⟨fH h.own k,h.no⟩
theorem eO.slice{c:Xq->Xo bO}(h:eO w B c v l):∃ a cap,v=XI a l.length cap:=by
 rcases h.own.2 with ⟨rfl,f⟩|⟨g,cap,_,rfl,_⟩
 .rw[f];exact⟨_,_,rfl⟩
 .exact⟨_,_,rfl⟩
def anyS(_:bO):Prop:=True
theorem Step.any{S:bO->Prop}{f c:Xq->Xo bO}(h:Step S B f c w w')(g:B'<=B):Step anyS B' f c w w':=h.mono (fun _ _=>trivial) g
open aA (aQ St eD kept fc ek ec jw dB dI jC eS jr)
theorem EO:∀ (l:J N)(a b:N),l.Pairwise (· < ·)->(∀ x∈l,a<=x/\x<=b)->(l.length:N)<=max 0 (b-a+1)
 |[],a,b,_,_=>by grind
 |x :: l,a,b,h,hb=>by rw[Yk] at h;have f:=hb x Xc;have ih:=EO l (x+1) b h.2 (fun y c=>⟨by grind,(hb y (by simp[c])).2⟩);simp only[Yy];omega
theorem kS(h:eS s):s.es.length<=60:=by
 have f:=h.ids;have:=EO _ 1 60 f (fun x c=>by obtain⟨e,g,rfl⟩:=YN.1 c;have o:=h.nK e g;have m:=h.g1;omega)
 rw[Zd] at this;omega
theorem Lt{α:Type}:∀ (l m:J α),l.Nodup->(∀ x∈l,x∈m)->l.length<=m.length
 |[],m,_,_=>by simp
 |a :: l,m,h,hs=>by rw[Ya] at h;obtain⟨f,c,rfl⟩:=List.append_of_mem (hs a Xc);have:=Lt l (f++c) h.2 (fun x g=>by grind);simp only[Yx,Yy] at this ⊢;omega
theorem Lz(at_:N->Xq):∀ (es:J aQ),(∀ e∈es,e.aR.length<=40)->(es.flatMap fun e=>e.aR.map fun s=>(⟨s.1,s.2,e.id,at_ e.id⟩:aF.It)).length<=40*es.length
 |[],_=>by simp
 |e :: es,h=>by have ih:=Lz at_ es (fun x c=>h x (by simp[c]));have:=h e Xc;simp only[List.flatMap_cons,Yx,Zd,Yy];omega
theorem Wt{l:J aF.It}(h:aF.Ord l):l.Nodup:=by rw[List.nodup_iff_pairwise_ne];refine List.Pairwise.imp ?_ h;intro a b c e;subst e;unfold aF.lt at c;omega
theorem WJ{at_:N->Xq}{T:aF.S}(h:jw name es at_ T)(o:es.length<=60)(c:∀ e∈es,e.aR.length<=40):aF.size T<=9000:=by
 have m:=Lt _ (es.flatMap fun e=>e.aR.map fun s=>(⟨s.1,s.2,e.id,at_ e.id⟩:aF.It)) (Wt h.1) (fun z f=>by obtain⟨e,g,_,s,c,rfl⟩:=(h.2 z).1 f;exact List.mem_flatMap.2 ⟨e,g,YN.2 ⟨s,c,rfl⟩⟩)
 have q:=Lz at_ es c;rw[aF.pf] at m;omega
theorem Eb{r:Raw}(h:eS s)(f:Of s r){now:N}(c:jr now e)(g:i<r.tg.length):Fit r.tg[i] e:=by let⟨t1,t2⟩:=f.th i g;refine⟨c.sp,fun p=>?_,c.u1,c.u9,by have:=c.sl;omega⟩;have:=aA.wm r.tg[i].name p s.es h.small;have:=kS h;rw[t1];omega
theorem FZ(h:eS s):aA.yt s.es:=fun e f q c=>((h.en e f).sp q c).2.1
theorem Le{r:Raw}(h:eS s)(f:Of s r)(c:qW e.aR)(q:1<=e.aN)(g:i<r.tg.length)(o:r.tg[i].name=e.bH):mX (dK r.tg[i].A e.aR e.aN) r.tg[i].aN e.aR=aA.eT s.ts s.es e.bH e.aN e.aR:=by
 have m:=FB h.tn (i:=i) (by rw[<- f.len];exact g);rw[f.mE g] at m;rw[(f.th i g).1,o] at *;exact aA.WC h.small (FZ h) c O m
theorem EA{r:Raw}(h:eS s)(c:Of s r)(f:i<r.tg.length):aF.Ord (aF.cT r.tg[i].T)/\aF.size r.tg[i].T<=9000:=by let⟨_,t2⟩:=c.th i f;exact⟨t2.1,WJ t2 (kS h) (fun e g=>(h.en e g).sl)⟩
theorem Vl{r:Raw}(h:eS s)(c:Of s r){g:EG}(q:g∈r.eg)(m:g.e.kind≠3)(o:i<r.tg.length)(f:r.tg[i].name=g.e.bH):∀ p,0<=dK r.tg[i].A g.e.aR (-g.e.aN) p:=by
 intro p;have y:dB r.tg[i].name g.e=Xy:=by simp[dB,f,aA.tY,m]
 rw[(c.th i o).1,aA.Fz y h.ids (c.mem q)];exact (aA.wm _ p _ (fun e x=>h.small e (aA.uZ.1 x).1)).1
open aA (aQ St eD kept fc ek ec jw dB dI jC eS jr nT)
noncomputable def re(Gr:J N)(g:EG):EG:=@ite _ (g.e.id∈Gr) (Classical.propDecidable _) { g with e:=ek g.e } g
theorem uO{g:EG}(h:g.e.id∈Gr):re Gr g={ g with e:=ek g.e }:=Xt h
theorem tT{g:EG}(h:g.e.id ∉ Gr):re Gr g=g:=Xs h
noncomputable def pL(Gr:J N)(c:J EG):J EG:=c.map (re Gr)
theorem Vx(eg:J EG):pL [] eg=eg:=by
 unfold pL;conv=>rhs;rw[<- List.map_id eg]
 apply List.map_congr_left;intro g _;rw[tT Xc];rfl
theorem b8O(Gr:J N)(id:N)(eg:J EG):gQ id 1 0 (pL Gr eg)=pL (Gr++[id]) eg:=by
 unfold gQ pL;rw[List.map_map];apply List.map_congr_left;intro g _;simp only[Function.comp];by_cases c:g.e.id∈Gr
 .rw[uO c,uO (List.mem_append_left _ c)]
  split <;> rfl
 .rw[tT c]
  by_cases f:g.e.id=id
  .rw[Xt f,uO (List.mem_append_right _ Xi)];rfl
  .rw[Xs f,tT (fun h=>by grind)]
theorem Vw{eg:J EG}{g:EG}(c:g∈eg)(h:g.e.id ∉ Gr):g∈pL Gr eg:=by unfold pL;exact YN.2 ⟨g,c,tT h⟩
theorem UM(Gr:J N)(eg:J EG)(p:Xq->Xp)(m:∀ g∈eg,g.e.kind=3->(p g.eb=Xy↔g.e.id∈Gr)):(((eg.filter fun g=>g.e.kind==3).map (·.eb)).filter fun b=>!p b)=((pL Gr eg).filter fun g=>g.e.kind==3).map (·.eb):=by
 induction eg with
 |nil=>rfl
 |cons g eg ih =>
  have ih:=ih (fun x q=>m x (List.mem_cons_of_mem _ q));have y:pL Gr (g :: eg)=re Gr g :: pL Gr eg:=rfl;rw[y];by_cases o:g.e.kind=3
  .have c:(g.e.kind==3)=Xy:=Xi
   rw[Ym,Xt c,List.map_cons,Ym];by_cases f:g.e.id∈Gr
   .have r:=(m g List.mem_cons_self o).2 f;rw[Xs Xi,uO f,Ym,Xs (by simp[ek])];exact ih
   .have r:p g.eb=Xx:=by
     cases h:p g.eb
     .rfl
     .exact Xu ((m g List.mem_cons_self o).1 h) f
    rw[Xt Xi,tT f,Ym,Xt c,List.map_cons,ih]
  .have c:¬ ((g.e.kind==3)=Xy):=Xi
   rw[Ym,Xs c,Ym];by_cases f:g.e.id∈Gr
   .rw[uO f,Xs (by simp[ek])];exact ih
   .rw[tT f,Xs c];exact ih
def im(s:St)(k:Xq):J aQ × J N:=((s.es.filter aA.gj).take k).foldl (nT s.ts) (s.es,[])
theorem Kl(s:St):im s 0=(s.es,[]):=rfl
theorem Kk(s:St)(c:k<(s.es.filter aA.gj).length):im s (k+1)=nT s.ts (im s k) (s.es.filter aA.gj)[k]:=by unfold im;rw[YI c,ZZ];rfl
theorem TF(s:St)(h:eD s.es)(c:(s.es.filter aA.gj).length<=k):im s k=aA.dS s.ts s.es:=by unfold im;rw[YK c,aA.Bi s.ts s.es h]
structure GX(w wx:Xz)(d:Xq)(s:St)(r:Raw)(aM:Xq->Xo bO)(v4:XA)(k:Xq)(v:XA)(rk:Raw)(ck:Xq->Xo bO):Prop where
 dk:DK wx d rk ck
 of:Of { s with es:=(im s k).1 } rk
 hl:Hl rk
 wl:rk.wl=r.wl
 eg:rk.eg=pL (im s k).2 r.eg
 st:Step anyS w aM ck w wx
 nr:eO wx w ck v (im s k).2
 bA:eS { s with es:=(im s k).1 }
 gm:∀ x∈(im s k).2,∃ e∈(s.es.filter aA.gj).take k,e.id=x
 row:wx.ownsRow 0 194 1 v4 r.wl.length (r.wl.map jX)
 rc:∀ b,v4.ownBlock=U b->ck b=U .wa
def GI(w wx:Xz)(d:Xq)(s:St)(r:Raw)(c:Xq->Xo bO)(v4:XA)(k:Xq)(v:XA):Prop:=∃ f g,GX w wx d s r c v4 k v f g
def yP(w:Xz)(d:Xq)(s:St)(g:Xq->Xo bO)(v:XA)(w':Xz):Prop :=∃ (f:Raw) (c:Xq->Xo bO),DK w' d f c/\Of { s with es:=(aA.dS s.ts s.es).1 } f/\Wl f/\Hl f/\Step anyS w g c w w'/\eO w' w c v (aA.dS s.ts s.es).2
theorem GX.next{r:Raw}{q:Xq->Xo bO}{x:Raw}{P:Xq->Xo bO}(h:GX w wx d s r q v4 k v x P)(I:Of s r)(y:Wl r)(o:eD s.es)(C:k<r.wl.length):∃ (g:EG) (c:k<(s.es.filter aA.gj).length),g∈r.eg/\g∈x.eg/\g.eb=r.wl[k]/\g.e=(s.es.filter aA.gj)[k]/\g.e.kind=3/\g.e.id ∉ (im s k).2:=by
 have R:s.es.filter aA.gj=(r.eg.filter fun g=>g.e.kind==3).map (·.e):=by rw[<- I.es,List.filter_map];rfl
 have A:k<(r.eg.filter fun g=>g.e.kind==3).length:=by have:=C;rw[y,Zd] at this;exact this
 have c:k<(s.es.filter aA.gj).length:=Xi;have m:((r.eg.filter fun g=>g.e.kind==3)[k]).e=(s.es.filter aA.gj)[k]:=Xi;have z:=ZW.1 (zg A);have f:((r.eg.filter fun g=>g.e.kind==3)[k]).e.id ∉ (im s k).2:=by
  intro E;let⟨e,he,e2⟩:=h.gm _ E;obtain⟨j,K,rfl⟩:=List.getElem_of_mem he;rw[List.length_take] at K;rw[List.getElem_take,m] at e2;have H:(s.es.filter aA.gj).Pairwise fun a b=>a.id<b.id:=by have:=aA.Bg aA.gj o;unfold eD at this;rw[List.pairwise_map] at this;exact this
  have:=List.pairwise_iff_getElem.1 H j k O c O;omega
 refine⟨_,c,z.1,?_,?_,m,by grind,f⟩
 .rw[h.eg];exact Vw z.1 f
 .have D:r.wl[k]?=U ((r.eg.filter fun g=>g.e.kind==3)[k]).eb:=by rw[y,List.getElem?_map,Zu A];rfl
  rw[Zu C] at D;exact (Option.some.inj D).symm
theorem GX.no{r:Raw}{f:Xq->Xo bO}{m:Raw}{z c1:Xq->Xo bO}(h:GX w wx d s r f v4 k v m z)(c:k<(s.es.filter aA.gj).length)(A:DK w1 d m c1)(g:Step (·=.bH i) wx z c1 wx w1)(C:aA.eT s.ts (im s k).1 (s.es.filter aA.gj)[k].bH (s.es.filter aA.gj)[k].aN (s.es.filter aA.gj)[k].aR=Xx):GX w w1 d s r f v4 (k+1) v m c1:=by
 have e:im s (k+1)=im s k:=by rw[Kk s c];unfold nT;rw[Xs Xi]
 let⟨G,a1,a2⟩:=g.left;refine⟨A,by rw[e];exact h.of,h.hl,h.wl,by rw[e];exact h.eg,h.st.trans (g.any h.st.size),by rw[e];exact h.nr.step g aJ,by rw[e];exact h.bA,fun x q=>?_,dL h.row a1 (fun b o=>a2 b (.inl ⟨_,h.rc b o,by simp⟩)),fun b o=>g.ji _ _ (h.rc b o)⟩;rw[e] at q;let⟨y,hy,e2⟩:=h.gm x q;rw[YI c];exact⟨y,List.mem_append_left _ hy,e2⟩
theorem Vm(h:eS s)(f:e∈s.es)(c:e.kind=3)(m:aA.eT s.ts s.es e.bH e.aN e.aR=Xy):eS { s with es:=fc e.id s.es }:=by
 let⟨l,r,e1,e2,_⟩:=aA.My h.ids f rfl;have g:eS ⟨s.ts,l++e :: r,s.given,s.now⟩:=by rw[<- e1];exact h
 have:=g.sW c Xi;rw[e2];exact this
theorem GX.yes{r:Raw}{S:Xq->Xo bO}{m:Raw}{ck c1:Xq->Xo bO}(h:GX w wx d s r S v4 k v m ck)(R:k<(s.es.filter aA.gj).length){g:EG}(X:g∈m.eg)(ac:g.e=(s.es.filter aA.gj)[k])(P:g.e.kind=3)(hi:i<m.tg.length)(I:m.tg[i].name=g.e.bH)
  (W:Step (·=.bH i) wx ck c1 wx w1) (sp:FL w1 d (m.eI i (m.tg[i].with (dK m.tg[i].A g.e.aR g.e.aN) (jj g.e.id g.eb m.tg[i].T g.e.aR))) c1 g w2) (hf:aA.eT s.ts (im s k).1 g.e.bH g.e.aN g.e.aR=Xy)
  (ho:aH v.ownBlock.toList w2 w3) (ab:∀ q,(∀ b,v.ownBlock=U b->q b=Xv)->(∀ b,w2.heap.size<=b->q b=Xv)->eO w3 w q v' ((im s k).2++[g.e.id])):
  GI w w3 d s r S v4 (k+1) v':=by
 let⟨x,l',q,e1,e2,p1,p2,p3,p4⟩:=sp;have ad:aA.eT s.ts (im s k).1 (s.es.filter aA.gj)[k].bH (s.es.filter aA.gj)[k].aN (s.es.filter aA.gj)[k].aR=Xy:=Xi;have e:im s (k+1)=(fc g.e.id (im s k).1,(im s k).2++[g.e.id]):=by rw[Kk s R];unfold nT;rw[Xt ad,ac]
 have hn:=h.dk.ni;have K:=(h.of.book h.bA.tn h.bA.ids hn X P ((h.bA.en _ (h.of.mem X)).ri) hi I).1;have E:=(h.nr.step W aJ).step p4 aJ;have o:=E.no;have hD:=p3.off ho (fun y c=>o y (Zl.1 c));have aa:Step anyS w q q w2 w3:=⟨⟨_,ho,fun y c=>.inr ⟨o y (Zl.1 c),(E.own.lt y (Zl.1 c)).1⟩⟩,fun _ _ h=>h,fun _ _ h=>.inl h⟩;have t1:=h.st.trans (W.any h.st.size);have t2:=t1.trans (p4.any t1.size);let⟨G1,a1,a2⟩:=W.left;let⟨G2,b1,b2⟩:=p4.left;have D:∀ b,v4.ownBlock=U b->c1 b=U .wa:=fun b f=>W.ji _ _ (h.rc b f);have C:∀ b,v4.ownBlock=U b->q b=U .wa:=fun b f=>p4.ji _ _ (D b f);have H:=dL (dL h.row a1 (fun b f=>a2 b (.inl ⟨_,h.rc b f,by simp⟩))) b1 (fun b f=>b2 b (.inl ⟨_,D b f,by unfold AR;simp⟩));refine⟨_,q,hD,⟨K.now,K.given,K.ts,by rw[e];exact K.es,by rw[e];exact K.th,K.tb⟩,h.hl.book (r:=m) hn X O e2 p1 p2,h.wl,?_,t2.trans aa,by rw[e];exact ab q o (fun b f=>p3.none f),?_,fun y c=>?_,dL H ho (fun b f hx=>?_),C⟩
 .rw[e];show gQ g.e.id 1 0 m.eg=pL ((im s k).2++[g.e.id]) r.eg;rw[h.eg,b8O]
 .rw[e];exact Vm h.bA (h.of.mem X) P hf
 .rw[e] at c;rw[YI R];rcases X8.1 c with c|c
  .let⟨z,hz,e3⟩:=h.gm y c;exact⟨z,List.mem_append_left _ hz,e3⟩
  .have:y=g.e.id:=List.mem_singleton.1 c;exact⟨_,List.mem_append_right _ (List.mem_singleton.2 rfl),by grind⟩
 .have:=o b (Zl.1 hx);rw[C b f] at this;cases this
theorem JZ{g:EG}(c:g.e.kind=3):((re Gr g).e.kind==1)=Xy↔g.e.id∈Gr:=by by_cases h:g.e.id∈Gr;rw[uO h];simp[h,ek];rw[tT h];simp[h,c]
theorem Tp(Gr:J N)(g:EG):(re Gr g).eb=g.eb:=by by_cases h:g.e.id∈Gr;rw[uO h];rw[tT h]
def yh(c:J EG)(Gr:J N)(b:Xq):Xp:=c.any fun g=>decide (g.eb=b) && Gr.any fun x=>decide (x=g.e.id)
theorem S5(c:J EG)(Gr:J N)(z:(c.map (·.eb)).Nodup):∀ g∈c,g.e.kind=3->(re Gr g).eb=g.eb/\((re Gr g).e.kind==1)=yh c Gr g.eb:=by
 intro g m A;refine⟨Tp Gr g,?_⟩;have q:=JZ (Gr:=Gr) A;have o:yh c Gr g.eb=Xy↔g.e.id∈Gr:=by
  unfold yh;rw[ZY];constructor
  .rintro ⟨x,r,f⟩;rw[Zr,decide_eq_true_iff,ZY] at f;let⟨f,y,hy,e2⟩:=f;have:x=g:=qL _ z r m f;have E:=of_decide_eq_true e2;rw[<- this,<- E];exact hy
  .intro h;refine⟨g,m,?_⟩;rw[Zr,decide_eq_true_iff,ZY];exact⟨rfl,g.e.id,h,decide_eq_true rfl⟩
 cases D:((re Gr g).e.kind==1) <;> cases C:yh c Gr g.eb
 .rfl
 .exact Xu (q.2 (o.1 C)) Xi
 .exact Xu (o.2 (q.1 D)) Xi
 .rfl
theorem yQ(ts:J (Xm × N)):∀ (l:J aQ)(p:J aQ × J N),(l.foldl (nT ts) p).2.length<=p.2.length+l.length
 |[],p=>by simp
 |e :: l,p=>by
  have ih:=yQ ts l (nT ts p e);have:(nT ts p e).2.length<=p.2.length+1:=by unfold nT;split <;> simp
  simp only[Zs,Yy];omega
theorem TI(s:St)(k:Xq):(im s k).2.length<=k:=by have:=yQ s.ts ((s.es.filter aA.gj).take k) (s.es,[]);have c:=YR k (s.es.filter aA.gj);unfold im;simp only[List.length_nil] at this;omega
theorem KT{r:Raw}{y:Xq->Xo bO}(h:DK w d r y)(ho:Of s r)(hw:Wl r)(hh:Hl r)(hm:eS s):XD prog 63 #[d] w fun e w'=>∃ v,e=XQ v/\yP w d s y v w':=by
 obtain⟨i0,bf,ba,a9,a8⟩:=info_parts qC;obtain⟨v4,c4,C,ax⟩:=h.wa;have bs:r.wl.length<=60:=by
  rw[hw,Zd];have h1:=Zi (fun g:EG=>g.e.kind==3) r.eg;have h2:=kS hm;have h3:r.eg.length=s.es.length:=by rw[<- ho.es];simp
  omega
 have G0:Hid (GI w w d s r y v4 0 ()):=⟨r,y,h,ho,hh,rfl,by rw[Kl,Vx],Step.refl _ _ _ _,eO.nil _ _ _,hm,fun x hx=>by rw[Kl] at hx;simp at hx,C,ax⟩;have K:=aB (Yc h (Yc ho (Yc hw (Yc hh hm))));have hv:∃ a cap,v4=XI a r.wl.length cap:=by
  rcases C.2 with ⟨rfl,h⟩|⟨g,cap,_,rfl,_⟩
  .rw[h];exact⟨_,_,rfl⟩
  .exact⟨_,_,rfl⟩
 obtain⟨a,cap,rfl⟩:=hv;clear h ho hw hh hm C ax;go_in;go_wp21;go_loopw [3,5,11] (fun vg _ vi wx=>∃ k:Xq,k<=r.wl.length/\vi=V Y k/\GI w wx d s r y (XI a r.wl.length cap) k vg) (fun _ _ vi _=>r.wl.length-(intOf vi).toNat)
 .exact⟨0,YJ _,rfl,G0⟩
 .obtain⟨k,hk,rfl,P,ck,X⟩:=hrel
  by_cases ak:k<r.wl.length
  .have bj:(k:N)<(r.wl.length:N):=O
   obtain⟨g,ar,au,m,E,aa,W,ao⟩:=X.next K.2.1 K.2.2.1 K.2.2.2.2.ids ak;obtain⟨Hh,bn,e1⟩:=Joins.ownsRow_form X.row O;simp only[Value.slice.injEq,true_and] at e1;obtain⟨rfl,rfl⟩:=e1;have a0:=X.row.cellAt k O;rw[List.getElem?_map,Zu ak,Option.map_some,<- E] at a0;unfold jX at a0;obtain⟨R,H,q3⟩:=X.dk.en g m;have co:=R.en.c1;obtain⟨i,hi,c,S⟩:=X.of.tb g m;have q:=X.bA.en _ (X.of.mem m);have A:=Eb X.bA X.of q hi;have ad:=Le X.bA X.of q.sp q.u1 hi c;have ac:=EA X.bA X.of hi;have I:=aB X;have HG:=aB (Yc m (Yc aa (Yc W (Yc c H))))
   cases hf:aA.eT s.ts (im s k).1 g.e.bH g.e.aN g.e.aR
   .have TK:=aB (J4 X.dk i hi R S (by rw[H];simp) (by rw[q3];simp) A (ad.trans hf))
    have FN:Hid (aA.eT s.ts (im s k).1 (s.es.filter aA.gj)[k].bH (s.es.filter aA.gj)[k].aN (s.es.filter aA.gj)[k].aR=Xx):=by show _=_;rw[<- aa];exact hf
    have HK:=aB ar;clear hf ad A ac q R H q3 X m aa W c ao au E S;go_wp21;refine TK.mono ?_;rintro e w1 ⟨rfl,c1,p1,p2⟩;have HN:Hid (GI w w1 d s r y (XI Hh r.wl.length cap) (k+1) u3):=⟨P,c1,I.no HK p1 p2 FN⟩;clear p1 p2 TK I HG a0 co FN;go_wp21;go_roundw
    .exact⟨k+1,O,by go_num,HN⟩
    .simp[intOf];omega
   .have a3:Au P.tg[i].T g.e.id g.e.aR:=⟨ac.1,ac.2,(X.of.book X.bA.tn X.bA.ids X.dk.ni m W q.ri hi c).2,F0 q.ri⟩;have TK:=aB (Lo X.dk i hi R S (by rw[H];simp) (by rw[q3];simp) A a3 (ad.trans hf));have HF:=aB hf;have bu:(im s k).2.length<=60:=by have:=TI s k;omega
    have ai:P.hl.length<=1000:=by
     have h1:=X.hl.len;have h2:P.eg.length=(im s k).1.length:=by have:=X.of.es;rw[<- Zd (f:=(·.e)),this]
     have h3:=kS X.bA;simp only at h3;omega
    have ae:=aB (Yc X.hl.1 (Yc ai (X.hl.has m O)));have HK:=aB ar;clear hf ad A ac q R H q3 X m aa W ao au E S a3 ai;have a7:=aB c;clear c;go_wp21;refine TK.mono ?_;rintro e w1 ⟨rfl,c1,p1,p2⟩;have ST:=aB (LU p1 ae.1 ae.2.1 (g:=g) HG.1 ⟨jW g,ae.2.2,rfl,rfl⟩);have P2:=aB p2;clear p1 p2 TK a0 co;go_wp21;refine ST.mono ?_;rintro e w2 ⟨rfl,sp⟩;have SP:=aB sp;obtain⟨x,l',c2,e1,e2,s1,s2,s3,s4⟩:=sp;have z:({ g with e:={ g.e with kind:=1,bZ:=0 } }:EG)∈gQ g.e.id 1 0 P.eg:=YN.2 ⟨g,HG.1,Xt rfl⟩;have b5:w2.cell? (g.eb,0)=U ↑g.e.id:=(s3.en _ z).1.en.c0;have NR:=aB ((I.nr.step P2 aJ).step s4 aJ);have bq:w<=w2.heap.size:=XU (XU I.st.size P2.size) s4.size;clear s1 s2 s3 s4 e1 e2 z ST;go_wp2_with (first
     |(at_builtin;refine wpList_append_lies _ rfl _ _ 53 rfl w 3 i0 _ 1 8 underlying53 bf ba a9 a8 rfl Xd _ _ _ rfl (NR.own.alloc _) (w2,0) 1 1 [g.e.id] rfl rfl (Ze (cs:=#[g.e.id]) (dH w2 _)) Xk O Xj O Xh (w2.heap.size+1) Xc ?_;intro g2 bm w3 ag D az bi))
    have ko:=aH.grown ((aH.refl _ w2).alloc _) D (fun k hk=>.inl (Zl.2 hk));have aj:=az;have HN:=
     I.yes HK HG.1 HG.2.1 HG.2.2.1 hi a7 P2 SP HF ko (fun c2 n1 n2=>⟨by rw[Yx,YS];exact ag,fun b hb=>by
      have:g2=b:=by simpa[Y9] using hb
      subst this;rcases aj with e|e
      .exact n1 g2 e
      .exact n2 g2 O⟩)
    clear ag D az ko aj I HG HK SP NR P2 a7 HF ae;go_roundw
    .exact⟨k+1,O,by go_num,HN⟩
    .simp[intOf];omega
  .have bv:¬ ((k:N)<(r.wl.length:N)):=O
   obtain⟨v,al,af,ab⟩:=X.dk.wa;have f4:=X.dk.fz 4;have hd:=X.dk.dc;have an:d ∉ v.ownBlock.toList:=fun e=>by have:=ab _ (Zl.1 e);rw[hd] at this;cases this
   have bc:(s.es.filter aA.gj).length<=k:=by
    have h1:=K.2.2.1;have h2:s.es.filter aA.gj=(r.eg.filter fun g=>g.e.kind==3).map (·.e):=by rw[<- K.2.1.es,List.filter_map];rfl
    rw[h2,Zd];rw[h1,Zd] at ak;omega
   have av:=TF s K.2.2.2.2.ids bc;have PB:=aB (S5 r.eg (im s k).2 K.1.nd);generalize yh r.eg (im s k).2=p at PB;have DL:=aB (GD (.inl ⟨rfl,rfl⟩) P.wl p v wr (fun wx ko b hb=>by
    have ay:b∈r.wl:=by rw[<- X.wl];exact hb
    rw[K.2.2.1] at ay;obtain⟨g,hg,rfl⟩:=YN.1 ay;obtain⟨aw,bh⟩:=ZW.1 hg;have bg:g.e.kind=3:=bV bh;have z:re (im s k).2 g∈P.eg:=by rw[X.eg];exact YN.2 ⟨g,aw,rfl⟩
    obtain⟨R,H,q3⟩:=X.dk.en _ z;have aq:=ko.cell (fun e=>by have:=ab _ (Zl.1 e);rw[H] at this;cases this) R.k;obtain⟨e1,e2⟩:=PB g aw bg;rw[e1] at aq;rw[<- e2];exact b3r g.eb _ wx aq) af (by rw[X.wl];omega))
   have VC:=aB (Yc ab an);have I:=aB X;clear X af ab an hd;go_wp21;refine DL.mono ?_;rintro e w2 ⟨v',rfl,k1,k2,k3⟩;obtain⟨va,vn,vc,rfl⟩:∃ a n cap,v'=XI a n cap:=by
    rcases k2.2 with ⟨e,_⟩|⟨_,_,_,e,_⟩
    .exact⟨_,_,_,e⟩
    .exact⟨_,_,_,e⟩
   have b4:=k1.cell VC.2 al;have bz:=(k1.frozen (o:=4) VC.2 (XV _ _ al)).trans f4;have SW:=aB (I.dk.lC VC.1 k1 k2 (fun b hb=>.inl (by rw[<- k3];exact hb)));have HF:Hid (yP w d s y u3 (w2.setCell (d,4) (XI va vn vc))):=by
    obtain⟨a4,R,H⟩:=SW;have X:=I.out;refine⟨_,a4,R,?_,?_,X.hl,X.st.trans (H.any X.st.size),?_⟩
    .have o:=X.of;rw[av] at o;exact⟨o.now,o.given,o.ts,o.es,o.th,o.tb⟩
    .show (P.wl.filter fun b=>!p b)=(P.eg.filter fun g=>g.e.kind==3).map (·.eb);rw[X.wl,K.2.2.1,X.eg];exact UM _ _ p (fun g hg hk=>by rw[<- (PB g hg hk).2];exact JZ hk)
    .rw[<- av];exact X.nr.step H aJ
   clear k1 k2 k3 DL al f4 SW I VC PB K;go_wp21;go_ret;exact⟨_,rfl,HF⟩
open aA (aQ St eD kept fc ek ec jw dB dI jC eS jr cA)
def gN(s:St)(t:N):J aQ:=s.es.filter (cA t)
def oh(s:St)(t:N)(k:Xq):J aQ:=((gN s t).take k).foldl (fun es e=>kept e.id es) s.es
theorem Ux(s:St)(t:N)(c:k<(gN s t).length):oh s t (k+1)=kept (gN s t)[k].id (oh s t k):=by unfold oh;rw[YI c,ZZ];rfl
theorem UE(l:J aQ):∀ es:J aQ,l.foldl (fun es e=>kept e.id es) es=es.filter fun x=>l.all fun e=>x.id != e.id:=by
 induction l with
 |nil=>intro es;exact (ZX.2 (fun _ _=>rfl)).symm
 |cons e l ih =>intro es;rw[Zs,ih];unfold kept;rw[List.filter_filter];apply List.filter_congr;intro x _;rw[List.all_cons,Bool.and_comm]
theorem DH(s:St)(t:N)(k:Xq):oh s t k=s.es.filter fun x=>((gN s t).take k).all fun e=>x.id != e.id:=UE _ _
theorem Tw(s:St)(t:N)(c:eD s.es)(m:(gN s t).length<=k):oh s t k=s.es.filter fun e=>!cA t e:=by
 rw[DH,YK m];apply List.filter_congr;intro x f
 cases h:cA t x
 .rw[Bool.not_false,Zx];intro e o;let⟨he1,he2⟩:=ZW.1 o
  have:x.id≠e.id:=fun q=>by have:=c.one f he1 q;subst this;rw[h] at he2;cases he2
  simpa using this
 .rw[X0]
  cases g:(gN s t).all fun e=>x.id != e.id
  .rfl
  .rw[Zx] at g;have:=g x (ZW.2 ⟨f,h⟩);simp at this
theorem AM:e∈oh s t k↔e∈s.es/\∀ x∈(gN s t).take k,e.id≠x.id:=by rw[DH,ZW,Zx];constructor;rintro ⟨c,g⟩;exact⟨c,fun x f=>by grind⟩;rintro ⟨c,g⟩;exact⟨c,fun x f=>by grind⟩
theorem JH(c:eD s.es)(t:N):(gN s t).Pairwise fun a b=>a.id<b.id:=by grind[eD,gN]
theorem Uw(o:eD s.es)(C:e∈oh s t k)(D:cA t e=Xy)(h:∀ x∈oh s t k,cA t x=Xy->e.id<=x.id):∃ f:k<(gN s t).length,e=(gN s t)[k]:=by
 let⟨h1,h2⟩:=AM.1 C;have r:e∈gN s t:=ZW.2 ⟨h1,D⟩;obtain⟨j,z,rfl⟩:=List.getElem_of_mem r;have g:=List.pairwise_iff_getElem.1 (JH o t);have y:k<=j:=by
  by_cases c:j<k
  .exact Xu rfl (h2 (gN s t)[j] (by
    have:j<((gN s t).take k).length:=by rw[List.length_take];omega
    have E:=zg this;rwa [List.getElem_take] at E))
  .omega
 have f:k<(gN s t).length:=O;refine⟨f,?_⟩;by_cases c:j=k
 .subst c;rfl
 .have m:(gN s t)[k]∈oh s t k:=by refine AM.2 ⟨(ZW.1 (zg f)).1,fun x q H=>?_⟩;obtain⟨i,A,rfl⟩:=List.getElem_of_mem q;rw[List.getElem_take] at H;rw[List.length_take] at A;have:=g i k O f O;omega
  have K:=h _ m (ZW.1 (zg f)).2;have I:=g k j f z O;omega
theorem Ug(h:eS s)(t:N)(k:Xq):eS { s with es:=oh s t k }:=by
 rw[DH];exact h.filter (given:=s.given) (now:=s.now) (ts:=s.ts) (es:=s.es) _ (ZQ _) h.n1 (fun e g _ f=>by
  rcases (h.en e g).kd with c|c
  .exact Xu c.1 f
  .exact c.2.1)
structure EX(w wx:Xz)(d:Xq)(s:St)(aM:Xq->Xo bO)(t:N)(k:Xq)(v:XA)(rk:Raw)(ck:Xq->Xo bO):Prop where
 dk:DK wx d rk ck
 of:Of { s with es:=oh s t k } rk
 hl:Hl rk
 wl:Wl rk
 st:Step anyS w aM ck w wx
 nr:eO wx w ck v (((gN s t).take k).map fun e=>e.id)
def EI(w wx:Xz)(d:Xq)(s:St)(c:Xq->Xo bO)(t:N)(k:Xq)(v:XA):Prop:=∃ f g,EX w wx d s c t k v f g
def A3(w:Xz)(d:Xq)(s:St)(g:Xq->Xo bO)(t:N)(v:XA)(w':Xz):Prop :=∃ (f:Raw) (c:Xq->Xo bO),DK w' d f c/\Of { s with es:=s.es.filter fun e=>!cA t e } f/\Wl f/\Hl f/\Step anyS w g c w w'/\eO w' w c v ((s.es.filter (cA t)).map fun e=>e.id)
theorem b5l{r:Raw}{y:Xq->Xo bO}(h:DK w d r y)(m:Hl r)(R:r.eg.length<=1000)(t:N):
  XD prog 205 #[XH (U ⟨d,5,Xv⟩),t] w fun e w' =>
   ((∀ g∈r.eg,g.e.kind≠1->t<g.e.bZ)/\e=XQ (XL #[XH Xv,Xx])/\w'=w) \/
   (∃ g∈r.eg,g.e.kind≠1/\g.e.bZ<=t/\(∀ x∈r.eg,x.e.kind≠1->¬ Hp.ahead (jW x) (jW g))/\e=XQ (XL #[g.eb,Xy])/\∃ q f,Hp.iP q/\r.hl.Perm (jW g :: q)/\DK w' d { r with hl:=q } f/\Step (fun c=>c=.he\/c=.desk) w y f w w'):=by
 let⟨v,a1,a2⟩:=h.he;have H:=m.len;refine (b7P d 5 v r.hl t w a1 m.1 O).mono ?_;rintro e w' (⟨o,rfl,rfl⟩|⟨⟨o,I⟩,rfl,q,p,K,E⟩)
 .refine .inl ⟨fun g D C=>?_,rfl,rfl⟩;have z:=m.has D C;rcases o with o|o
  .rw[List.length_eq_zero_iff.1 o] at z;simp at z
  .let⟨i,hi,e⟩:=List.getElem_of_mem z;have:=Hp.D8 m.1 i hi;rw[Hp.pP hi,e] at this;unfold Hp.ahead jW at this;simp only at this;omega
 .let⟨g,D,C,e⟩:=m.at (x:=Hp.at_ r.hl 0) (by rw[Hp.pP o];exact zg o);rw[e] at I E ⊢;refine .inr ⟨g,D,C,I,fun x P A=>?_,rfl,q,?_⟩
  .let⟨i,hi,e2⟩:=List.getElem_of_mem (m.has P A);have:=Hp.D8 m.1 i hi;rw[Hp.pP hi,e2,e] at this;exact this
  .let⟨f,k1,k2⟩:=h.heap a2 p;exact⟨f,K,E,k1,k2⟩
def JV(w:Xz)(d:Xq)(s:St)(h:Xq->Xo bO)(g:EG)(w':Xz):Prop :=∃ (f:Raw) (c:Xq->Xo bO),DK w' d f c/\Of { s with es:=kept g.e.id s.es } f/\Wl f/\Hl f/\Step uW w h c w w'
theorem Fk{r:Raw}{A:Xq->Xo bO}(h:DK w d r A)(q:Of s r)(C:Wl r)(f:eS s){g:EG}(m:g∈r.eg)(H:Hl { r with eg:=gF g.e.id r.eg }):XD prog 155 #[d,g.eb] w fun e w'=>e=XQ (XL #[])/\JV w d s A g w':=by
 have P:=f.nK _ (q.mem m);have R:=f.g1;by_cases y:g.e.kind=3
 .refine (WU h m y O (fun b I=>?_) ?_).mono ?_
  .rw[C] at I;obtain⟨x,K,rfl⟩:=YN.1 I;exact⟨x,(ZW.1 K).1,rfl⟩
  .rw[C,Zd];have W:=Zi (fun g:EG=>g.e.kind==3) r.eg;have T:=kS f;have S:r.eg.length=s.es.length:=by rw[<- q.es];simp
   omega
  .rintro e w' ⟨rfl,c,E,D⟩;refine⟨rfl,_,c,E,?_,C.goes h.ni h.nd m,H,D⟩;have o:=q.xp f.ids h.ni m y;exact⟨o.now,o.given,o.ts,o.es,o.th,o.tb⟩
 .let⟨i,hi,hname,htb⟩:=q.tb g m;have z:=EA f q hi;refine aK (WS h m y i hi htb (Eb f q (f.en _ (q.mem m)) hi) z.1 z.2 (Vl f q m y hi hname) O) ?_;rintro w' ⟨c,E,D⟩;exact⟨rfl,_,c,E,q.goes f.tn f.ids h.ni m y hi hname,C.qd h.ni m y,H,D⟩
def lenOf:XA->Xq
 |.slice _ n _=>n
 |_=>0
theorem eO.len{c:Xq->Xo bO}(h:eO w B c v l):lenOf v=l.length:=by obtain⟨a,cap,rfl⟩:=h.slice;rfl
theorem EX.gone{q:Xq->Xo bO}{R:Raw}{I K:Xq->Xo bO}(h:EX w wx d s q t k v R I)(H:k<(gN s t).length){g:EG}(A:g.e=(gN s t)[k])(D:Step (fun c=>c=.he\/c=.desk) wx I K wx w1)(sp:JV w1 d { s with es:=oh s t k } K g w2)(E:aH v.ownBlock.toList w2 w3)(z:∀ f,(∀ b,v.ownBlock=U b->f b=Xv)->(∀ b,w2.heap.size<=b->f b=Xv)->eO w3 w f v' ((((gN s t).take k).map fun e=>e.id)++[g.e.id])):EI w w3 d s q t (k+1) v':=by
 let⟨r2,f,q1,q2,q3,q4,q5⟩:=sp;have o:=(h.nr.step D aJ).step q5 aJ;have m:=o.no;have x:Step anyS w f f w2 w3:=⟨⟨_,E,fun y r=>.inr ⟨m y (Zl.1 r),(o.own.lt y (Zl.1 r)).1⟩⟩,fun _ _ h=>h,fun _ _ h=>.inl h⟩;have C:=h.st.trans (D.any h.st.size);have P:=C.trans (q5.any C.size);refine⟨r2,f,q1.off E (fun y r=>m y (Zl.1 r)),?_,q4,q3,P.trans x,?_⟩
 .rw[Ux s t H,<- A];exact q2
 .rw[YI H,YS];have:[(gN s t)[k]].map (fun e=>e.id)=[g.e.id]:=Xi
  rw[this];exact z f m (fun b S=>q1.none S)
theorem VX{r:Raw}{m:Xq->Xo bO}(h:DK w d r m)(ho:Of s r)(hw:Wl r)(hh:Hl r)(hm:eS s)(t:N)(ht:∀ e∈s.es,e.kind≠1->t<=e.bZ):XD prog 161 #[XH (U ⟨d,0,Xv⟩),V Y t] w fun e w'=>∃ v,e=XQ v/\A3 w d s m t v w':=by
 obtain⟨i0,av,ao,an,al⟩:=info_parts qC;have E0:Hid (EI w w d s m t 0 (XI Xv 0 0)):=⟨r,m,h,ho,hh,hw,Step.refl _ _ _ _,eO.nil _ _ _⟩;have HM:=aB (Yc hm ht);clear h ho hw hh hm ht;go_in;go_wp2_with fail;go_loopw [5,6,7] (fun vg _ _ wx=>∃ k:Xq,k<=(gN s t).length/\EI w wx d s m t k vg) (fun vg _ _ _=>(gN s t).length-lenOf vg)
 case atStart=>exact⟨0,YJ _,E0.out⟩
 case round =>
  obtain⟨k,hk,T,ck,X⟩:=hrel;have P:=Ug HM.out.1 t k;have H:T.eg.length<=1000:=by
   have h2:T.eg.length=(oh s t k).length:=by have:=X.of.es;rw[<- Zd (f:=(·.e)),this]
   have h3:=kS P;simp only at h3;omega
  have TB:=aB (b5l X.dk X.hl H t);have aa:lenOf u5=k:=by rw[X.nr.len,Zd,List.length_take];omega
  have S:=aB X;have ai:=aB P;have ay:=aB aa;clear X P H aa;go_wp2_with fail;refine TB.out.mono ?_;rintro e w1 (⟨h1,rfl,rfl⟩|⟨g,K,z,aq,E,rfl,l',c1,s1,s2,s3,s4⟩)
  .have HF:Hid (A3 w d s m t u5 w1):=by
    have X:=S.out;have ad:(gN s t).length<=k:=by
     by_cases c:k<(gN s t).length
     .exfalso;obtain⟨m1,m2⟩:=ZW.1 (zg c)
      have A:(gN s t)[k]∈oh s t k:=by refine AM.2 ⟨m1,fun x hx e1=>?_⟩;obtain⟨j,hj,rfl⟩:=List.getElem_of_mem hx;rw[List.getElem_take] at e1;rw[List.length_take] at hj;have:=List.pairwise_iff_getElem.1 (JH HM.out.1.ids t) j k O c O;omega
      obtain⟨g,K,e1⟩:=X.of.get A;unfold cA at m2;rw[<- e1,Zr,decide_eq_true_iff] at m2;have:=h1 g K (by simpa using m2.1);omega
     .omega
    have e1:=Tw s t HM.out.1.ids ad;have o:=X.of;rw[e1] at o;have n:=X.nr;rw[YK ad] at n;exact⟨T,ck,X.dk,o,X.wl,X.hl,X.st,n⟩
   clear h1 TB S;go_wp2;go_ret;exact⟨_,rfl,HF.out⟩
  .have X:=S.out
   have C:∃ ae:k<(gN s t).length,g.e=(gN s t)[k]:=by have A:=X.of.mem K;have aw:=(AM.1 A).1;have a4:=HM.out.2 _ aw z;refine Uw HM.out.1.ids A (by unfold cA;rw[Zr,decide_eq_true_iff];exact⟨by simpa using z,by omega⟩) (fun x hx hb=>?_);obtain⟨y,hy,rfl⟩:=X.of.get hx;unfold cA at hb;rw[Zr,decide_eq_true_iff] at hb;have:=E y hy (by simpa using hb.1);unfold Hp.ahead jW at this;simp only at this;omega
   obtain⟨ae,C⟩:=C;have aj:Hl { T with hl:=l',eg:=gF g.e.id T.eg }:=X.hl.goes X.dk.ni K z (x:=jW g) rfl s1 s2;have LV:=aB (Fk (r:={ T with hl:=l' }) s3 ⟨X.of.now,X.of.given,X.of.ts,X.of.es,X.of.th,X.of.tb⟩ X.wl ai.out K aj);have R:=aB (Yc s4 (Yc C ae));have EN:=aB (s3.en g K);clear s1 s2 s3 s4 E aq C aj X TB z K;go_wp2_with fail;refine LV.out.mono ?_;rintro e w2 ⟨rfl,sp⟩;have SP:=aB sp;obtain⟨r2,c2,q1,q2,q3,q4,q5⟩:=sp;have a7:=(q5.vF EN.out.1 (.inl ⟨_,EN.out.2.1,by unfold uW;simp⟩) (.inl ⟨_,EN.out.2.2,by unfold uW;simp⟩)).en.c0;have NR:=aB ((S.out.nr.step R.out.1 (zq _)).step q5 (zq _));have a3:w.heap.size<=w2.heap.size:=XU (XU S.out.st.size R.out.1.size) q5.size;have ac:((gN s t).take k).length<=60:=by
    have h1:=YR k (gN s t);have h2:=Zi (cA t) s.es;have h3:=kS HM.out.1;have h4:(gN s t).length<=60:=by unfold gN;omega
    rw[List.length_take];omega
   have ar:(((gN s t).take k).map fun e=>e.id).length<=60:=by rw[Zd];exact ac
   clear q1 q2 q3 q4 q5 LV EN ac;go_wp2_with (first
    |(at_builtin;refine wpList_append_lies _ rfl _ _ 53 rfl w.heap.size 3 i0 _ 1 8 underlying53 av ao an al rfl Xd _ _ _ rfl (NR.out.own.alloc _) ⟨w2.heap.size,0,Xv⟩ 1 1 [V Y g.e.id] rfl rfl (Ze (cs:=#[V Y g.e.id]) (dH w2 _)) Xk O Xj O Xh (w2.heap.size+1) Xc ?_;intro W ag w3 D q af az))
   have ko:aH u5.ownBlock.toList w2 w3:=aH.grown ((aH.refl _ w2).alloc _) q (fun k hk=>.inl (Zl.2 hk));have I:u5.ownBlock=U W\/W=w2.heap.size+1:=af;have HN:Hid (EI w w3 d s m t (k+1) (XI (U ⟨W,0,Xv⟩) ((((gN s t).take k).map fun e=>e.id).length+1) ag)) :=
    S.out.gone R.out.2.2 R.out.2.1 R.out.1 SP.out ko (fun c2 n1 n2=>⟨by rw[Yx,YS];exact D,fun b hb=>by
     have:W=b:=by simpa[Y9] using hb
     subst this;rcases I with e|e
     .exact n1 W e
     .exact n2 W O⟩)
   have au:k+1<=(gN s t).length:=R.out.2.2;have ab:(((gN s t).take k).map fun e=>e.id).length=k:=by rw[Zd,List.length_take];omega
   have ak:=aB ab;have ax:=aB ay.out;clear D q af ko I S SP NR R ai ab ar;go_roundw
   case rel=>exact⟨k+1,au,by have h:=HN.out;rw[ak.out] at h;exact h⟩
   case measure =>have:=ak.out;have:=ax.out;simp[lenOf] at *;omega
namespace aA
theorem Wn{now:N}(h:Inv ⟨ts,es,given,now⟩)(f:∀ e∈es,e.kind≠1->tq<e.bZ)(k:Xq):gd ts (k+1) es now tq=(es,[],[]):=by
 by_cases c:now<tq
 .have q:eL tq es=tq:=by
   rcases (wI tq es).2.2 with e|⟨e,m,r,q⟩
   .exact e
   .have:=f e m r;have:=(wI tq es).1;omega
  have y:es.filter (fun e=>!cA tq e)=es:=ZX.2 (fun e m=>by
   cases g:cA tq e
   .rfl
   .unfold cA at g;rw[Zr,decide_eq_true_iff] at g;have:=f e m (by simpa using g.1)
    omega)
  have x:es.filter (cA tq)=[]:=by rw[List.filter_eq_nil_iff];intro e m g;unfold cA at g;rw[Zr,decide_eq_true_iff] at g;have:=f e m (by simpa using g.1);omega
  have o:=a9s h;simp only at o;rw[gd,Xt c];simp only[q,y,x,o]
  cases k with
  |zero=>rfl
  |succ k=>rw[gd,Xs O];rfl
 .rw[gd,Xs c]
theorem Wm{now:N}(y:now<t)(ht:t<=tq)(o:∃ e∈es,e.kind≠1/\e.bZ=t)(m:∀ e∈es,e.kind≠1->t<=e.bZ)(k:Xq):gd ts (k+1) es now tq=((gd ts k (dS ts (es.filter fun e=>!cA t e)).1 t tq).1,(es.filter (cA t)).map (·.id)++(gd ts k (dS ts (es.filter fun e=>!cA t e)).1 t tq).2.1,(dS ts (es.filter fun e=>!cA t e)).2++(gd ts k (dS ts (es.filter fun e=>!cA t e)).1 t tq).2.2):=by
 have r:eL tq es=t:=by
  obtain⟨e,h,g,rfl⟩:=o;have:=(wI tq es).2.1 e h g;rcases (wI tq es).2.2 with q|⟨x,f,c,q⟩
  .omega
  .have:=m x f c;omega
 rw[gd,Xt O];simp only[r]
theorem JC{now:N}(h:Inv ⟨ts,es,given,now⟩)(r:now<t)(ht:t<=1048320)(q:∀ e∈es,e.kind≠1->t<=e.bZ):Inv ⟨ts,(dS ts (es.filter fun e=>!cA t e)).1,given,t⟩/\eS ⟨ts,es.filter (fun e=>!cA t e),given,t⟩:=by
 have g:eS ⟨ts,es.filter (fun e=>!cA t e),given,t⟩:=h.bA.filter _ O ht (fun e o f m=>by
  have:=q e o m;by_cases c:e.bZ=t
  .have:cA t e=Xy:=by unfold cA;rw[Zr,decide_eq_true_iff];exact⟨by simpa using m,c⟩
   rw[this] at f;cases f
  .omega)
 exact⟨Ff g,g⟩
theorem eS.og{now:N}(h:eS ⟨ts,es,given,now⟩)(g:0<=now')(q:now'<=now):eS ⟨ts,es,given,now'⟩:=by
 refine⟨h.tl,h.tu,h.tn,h.ids,h.nK,h.g0,h.g1,g,?_,fun e f=>?_,h.th,h.wa,h.wi⟩
 .have:=h.n1;simp only at *;omega
 .have k:=h.en e f;refine⟨k.u1,k.u9,k.sl,k.s0,k.sp,k.ri,?_⟩;rcases k.kd with c|⟨c,r,o,m⟩
  .exact .inl c
  .exact .inr ⟨c,by grind,o,m⟩
end aA
def bT(c at_ n:N)(g m f h:XA):XA:=.agg #[c,at_,n,g,m,f,h]
structure Q7(Z:Xz)(Q:Xq):Prop where
 q0:Z.cell? (Q,0)=U (V Y 0)
 q1:Z.cell? (Q,1)=U (V Y 0)
 q2:Z.cell? (Q,2)=U (V Y 0)
 q3:Z.cell? (Q,3)=U ↑()
 q4:Z.cell? (Q,4)=U ↑()
 q5:Z.cell? (Q,5)=U ↑()
 q6:Z.cell? (Q,6)=U ↑()
 fq:∀ o,Z.frozen? ⟨Q,o,Xv⟩=Xx
def bI:Obj:=XR #[V Y 0,V Y 0,V Y 0,(),(),(),()] 74 (0,0)
theorem Q7.of(h:w.heap[Q]?=U bI):Q7 w Q:=by unfold bI at h;refine⟨?_,?_,?_,?_,?_,?_,?_,fun o=>frozen_of_row _ Q o _ _ h⟩;all_goals (simp only[Yh,h];rfl)
theorem Q7.later(h:Q7 w Q)(c:w'.heap[Q]?=w.heap[Q]?):Q7 w' Q :=⟨(zo c).trans h.q0,(zo c).trans h.q1,(zo c).trans h.q2,(zo c).trans h.q3,(zo c).trans h.q4,(zo c).trans h.q5,(zo c).trans h.q6,fun o=>(Zj c).trans (h.fq o)⟩
def dE(Z:Xz)(Q:Xq)(a b c d e f g:XA):Xz:=((((((Z.setCell (Q,0) a).setCell (Q,1) b).setCell (Q,2) c).setCell (Q,3) d).setCell (Q,4) e).setCell (Q,5) f).setCell (Q,6) g
theorem mY(Z:Xz)(Q:Xq)(a b c d e f g:XA):aH [Q] Z (dE Z Q a b c d e f g) :=(((((((aH.refl [Q] Z).setCell (.inl Xc) _ _).setCell (.inl Xc) _ _).setCell (.inl Xc) _ _).setCell (.inl Xc) _ _).setCell (.inl Xc) _ _).setCell (.inl Xc) _ _).setCell (.inl Xc) _ _
theorem Bz(a:Obj):XC w w ((w.alloc a).alloc bI)/\((w.alloc a).alloc bI).heap[w.heap.size+1]?=U bI:=by refine⟨aS.alloc Xc _,?_⟩;have:=dH (w.alloc a) bI;rwa [World.size_alloc] at this
theorem bN{cs:Array XA}{t:TypeId}(h:Z.heap[Q]?=U (XR cs t))(i:Xq)(c:cs[i]?=U v):Z.cell? (Q,i)=U v:=by simp[Yh,h,c]
theorem qS(w:Xz)(o:Obj):XC w w ((w.alloc o).alloc bI)/\((w.alloc o).alloc bI).heap[w.heap.size+1]?=U bI/\((w.alloc o).alloc bI).heap[w.heap.size]?=U o/\w+1<((w.alloc o).alloc bI).heap.size :=⟨(Bz o).1,(Bz o).2,(Below.heap_alloc _ _ _ Xc).trans (dH w o),by simp⟩
theorem cV{fn:Func}{R:Ending->Xz->Prop}{tm:Array XA}{a b c e f g i:XA}(o:fn.results=#[.cell k 74])(h:Q7 Z Q)(m:R (XQ (.agg #[a,b,c,e,f,g,i])) (dE Z Q a b c e f g i))(ht:tm[k]?=U ↑Q:=by rfl):bodyPost prog fn R .ret ⟨tm,[]⟩ (dE Z Q a b c e f g i):=by let⟨q0,q1,q2,q3,q4,q5,q6,_⟩:=h;refine bodyPost_ret ?_ rfl m;simp only[results,o];simp[ht,go_sem,dE,q0,q1,q2,q3,q4,q5,q6]
end Go.Proofs.YtolaacmheeaadaaGreatDoor
