import Derived.Test.YtfigmlfdnickmaaGreatDoorL03
import Derived.Maps.Keyed
import Derived.LaidEqlPtr
import Derived.Lib.SliceRun
import Derived.Laws.Rows
set_option maxRecDepth 100000
set_option maxHeartbeats 8000000
open Go.Proofs.Tryz
open _root_ renaming ByteArray->U4,List->U5,Option->U6,Bool->U7,Nat->U8,Int->U9,if_neg->Va,if_pos->Vb,absurd->Vc
open Option renaming none->Vd,some->Ve,mem_toList->WW,map_some->Yt
open Bool renaming false->Vf,true->Vg,false_eq_true->Vx,and_eq_true->W7
open Go renaming World->Vh,Value->Vi,Calls->Vk,TypeId->Vm
open Go.RowKit renaming Below->Vj
open Int renaming mul_nonneg->Wc
open List renaming filter_cons->VQ,filter_append->VP,length_append->V5,mem_append->VB,mem_cons->VA,append_nil->X5,filter_sublist->X6,mem_filter->XF,any_eq_true->XI,pairwise_append->XC,map_append->Wr,mem_map->Wm,append_of_mem->X7,map_cons->XS,pairwise_cons->VO,pairwise_map->XV,drop_eq_nil_of_le->WS,drop_eq_getElem_cons->WQ,map_set->Yc,set_getElem_self->Yd,mem_cons_self->Ye,map_map->Yg,map_congr_left->Yh,nodup_cons->VE,find?_map->Yj,find?_eq_none->Yk,mem_of_find?_eq_some->Yl,find?_some->Ym,filter_eq_self->XG,find?_cons->Yn,length_cons->V6,find?_append->Yo,length_take->Yp,take_succ_eq_append_getElem->Wg,getElem_of_mem->XZ,getElem?_map->Ys,getElem?_eq_getElem->Xb,replicate->Yu,take_of_length_le->Wi,pairwise_iff_getElem->XY,nodup_iff_pairwise_ne->Yv,all_eq_true->Xf,filter_map->Yw,map_id->Yx,filter_filter->Yy,filter_congr->Yz,length_map->WL,length_filter_le->WH,foldl_cons->W9,mem_append_left->YB,mem_append_right->YC,mem_singleton->YD
open List.Pairwise renaming imp->X8,nil->X0
open ByteArray.toList renaming loop->X9
open Go.Maps renaming Keyed->Ya
open Go.IntKind renaming i64->Vp
open Go.World renaming block_lt_of_cell?->Vr,frozen?_of_block->WU,cell?_setCell_same->VF,ownsRow_nil->WK,cell?->VL
open Classical renaming propDecidable->Yb
open Ne renaming symm->Yf
open Function renaming comp->Yi
open Nat renaming lt_of_lt_of_le->Wk,zero_le->Wh,le_trans->Vq
open List.Sublist renaming nodup->VT
open Go.Joins renaming ownsRow_form->Yq,ownsRow_le->YF
open Go.Value.slice renaming injEq->Yr
open List.Perm renaming cons_inv->YA
open Go.Value renaming int->V4
open Go.Builtin renaming append_->YG
open Go.Oper renaming wp->YH
open Go.Region renaming wanted->YI
open Go.Instr renaming lookup->YJ
namespace Go.Proofs.YtfigmlfdnickmaaGreatDoor
variable{a name:U4}{e:aA.aL}{given id now u:U9}{at':U9->U8}{ts:U5 (U4 × U9)}{L:U5 (U9 × U9)}{es es':U5 aA.aL}{Gr l:U5 U9}{F G M:U5 U8}{cs xs:U5 Vi}{B B' B0 Q b cap d fn i j k n:U8}{p:U8->U7}{s:aA.St}{v v' v4:Vi}{Z w w' w1 w2 wx:Vh}
namespace aA
theorem gy.small(h:gy now e):Small e:=⟨by have:=h.u1;omega,h.u9,by have:=h.sl;omega⟩
structure ec(s:St):Prop where
 tl:s.ts.length<=4
 tu:∀ t∈s.ts,1<=t.2/\t.2<=9
 tn:s.ts.Pairwise fun t u=>bW t.1 u.1=Vf
 ids:dB s.es
 mP:∀ e∈s.es,1<=e.id/\e.id<=s.given
 g0:0<=s.given
 g1:s.given<=60
 n0:0<=s.now
 n1:s.now<=1048320
 en:∀ e∈s.es,gy s.now e
 th:∀ e∈s.es,e.aH<=bJ e.aT s.ts
 wa:eh s.es<=6
 wi:∀ name x,bP name x s.es<=bJ name s.ts
theorem Inv.aS(h:Inv s):ec s:=⟨h.tl,h.tu,h.tn,h.ids,h.mP,h.g0,h.g1,h.n0,h.n1,h.en,h.th,h.wa,h.wi⟩
theorem ec.inv(h:ec s)(c:∀ e∈s.es,e.kind=3->dG s.ts s.es e.aT e.aH e.aK=Vf):Inv s:=⟨h.tl,h.tu,h.tn,h.ids,h.mP,h.g0,h.g1,h.n0,h.n1,h.en,h.th,h.wa,c,h.wi⟩
theorem ec.small(h:ec s):∀ e∈s.es,Small e:=fun e c=>(h.en e c).small
theorem ec.pos(h:ec s):Pos s.es:=Small.pos h.small
theorem CO{a b:U4}(h:bW a b=Vg):∀ ts:U5 (U4 × U9),bJ a ts=bJ b ts
 |[]=>rfl
 |t :: r=>by simp only[bJ,Jg (c:=t.1) h,CO h r]
theorem QS{b:U4}(h:bW a b=Vg)(e:aL):cA a e=cA b e:=by unfold cA;rw[Jg h]
theorem CN{a b:U4}(h:bW a b=Vg)(x:U9):∀ es:U5 aL,bP a x es=bP b x es
 |[]=>rfl
 |e :: r=>by simp only[bP,QS h,CN h x r]
theorem CI(h:∀ t∈ts,1<=t.2/\t.2<=9)(name:U4):0<=bJ name ts/\bJ name ts<=9:=by
 induction ts with
 |nil=>simp[bJ]
 |cons t r ih =>
  have i:=ih (fun u c=>h u (by simp[c]));have j:=h t UV;simp only[bJ]
  split <;> omega
theorem UH{x:U9}(h:Pos es):0<=bP name x es:=by
 induction es with
 |nil=>simp[bP]
 |cons e r ih =>
  have i:=ih (fun z f=>h z (by simp[f]));have c:0<=cP e.aK x*e.aH:=Wc (pR e.aK x).1 (h e UV);simp only[bP]
  split <;> omega
theorem Jq{name:U4}{x:U9}(p:aL->U7):∀ {es:U5 aL},Pos es->bP name x (es.filter p)<=bP name x es
 |[],_=>Int.le_refl _
 |e :: r,h=>by
  have i:=Jq (name:=name) (x:=x) p (es:=r) (fun z f=>h z (by simp[f]));have c:0<=cP e.aK x*e.aH:=Wc (pR e.aK x).1 (h e UV);rw[VQ]
  split
  ·simp only[bP];omega
  ·simp only[bP];split <;> omega
theorem Uv(o:Pos es)(f:Pos es')(g:0<=u)(h:∀ x,bP name x es<=bP name x es')(k:dG ts es name u L=Vf):dG ts es' name u L=Vf:=by
 cases c:dG ts es' name u L
 ·rfl
 ·have:dG ts es name u L=Vg:=(ug o g).2 (fun x m=>by
   have:=(ug f g).1 c x m;have:=h x
   omega)
  rw[this] at k;cases k
theorem Iz(name:U4)(x:U9)(l r:U5 aL)(e:aL)(c:e.kind=3):bP name x (l++cS e :: r)=bP name x (l++e :: r)+if bW e.aT name then cP e.aK x*e.aH else 0:=by
 have o:cA name e=Vf:=by simp[cA,c]
 rw[yI,yI];simp only[bP,o,v8,Vx,if_false];show _+((if bW e.aT name=Vg then cP e.aK x*e.aH else 0)+_)=_;omega
theorem OI{l r:U5 aL}{c:aL}(h:dB (l++e :: r))(k:c.id=e.id):dB (l++c :: r):=by
 unfold dB at *
 simpa[k] using h
theorem JB(l r:U5 aL):eh (l++r)=eh l+eh r:=by
 unfold eh;rw[VP,V5];omega
theorem Jj(e:aL)(r:U5 aL):eh (e :: r)=(if e.kind=3 then 1 else 0)+eh r:=by
 unfold eh;rw[VQ]
 by_cases c:e.kind=3
 ·rw[Vb (by simp[c]),Vb c];simp;omega
 ·rw[Va (by simp[c]),Va c];omega
theorem gy.book(h:gy now e):gy now (cS e):=⟨h.u1,h.u9,h.sl,h.s0,h.sp,h.ri,.inl ⟨rfl,rfl⟩⟩
theorem ec.qe{l r:U5 aL}(h:ec ⟨ts,l++e :: r,given,now⟩)(o:e.kind=3)(q:dG ts (l++e :: r) e.aT e.aH e.aK=Vg):ec ⟨ts,l++cS e :: r,given,now⟩:=by
 have m:e∈l++e :: r:=UV
 have g:∀ z∈l++cS e :: r,z=cS e\/z∈l++e :: r:=by
  intro z f;simp only[VB,VA] at f ⊢;rcases f with f|f|f
  ·exact .inr (.inl f)
  ·exact .inl f
  ·exact .inr (.inr (.inr f))
 have u1:=(h.en e m).u1;refine⟨h.tl,h.tu,h.tn,OI h.ids rfl,fun z f=>?_,h.g0,h.g1,h.n0,h.n1,fun z f=>?_,fun z f=>?_,?_,fun name x=>?_⟩
 ·rcases g z f with rfl|f
  ·exact h.mP e m
  ·exact h.mP z f
 ·rcases g z f with rfl|f
  ·exact (h.en e m).book
  ·exact h.en z f
 ·rcases g z f with rfl|f
  ·exact h.th e m
  ·exact h.th z f
 ·have:=h.wa;show eh (l++cS e :: r)<=6;have this:eh (l++e :: r)<=6:=this;rw[JB,Jj] at this ⊢;have y:(cS e).kind=1:=rfl;rw[Va (by rw[y];omega)];rw[Vb o] at this;omega
 ·show bP name x (l++cS e :: r)<=bJ name ts;rw[Iz name x l r e o];have w:bP name x (l++e :: r)<=bJ name ts:=h.wi name x
  split
  ·rename_i c
   by_cases t:0<cP e.aK x
   ·have:=(ug h.pos UU).1 q x t;rw[CN c x,CO c ts] at this;exact this
   ·have b:=(pR e.aK x).1;have:cP e.aK x=0:=UU
    rw[this];simpa using w
  ·omega
theorem Cn(ts:U5 (U4 × U9))(given now:U9):∀ (r f:U5 aL),ec ⟨ts,f++r,given,now⟩->(∀ e∈f,e.kind=3->dG ts (f++r) e.aT e.aH e.aK=Vf) ->
  Inv ⟨ts,(dQ ts f r).1,given,now⟩
 |[],f,h,no=>by
  simp only[dQ];rw[X5] at h no;exact h.inv no
 |e :: r,f,h,no=>by
  simp only[dQ]
  by_cases c:e.kind=3/\dG ts (f++e :: r) e.aT e.aH e.aK=Vg
  ·rw[Vb c];have q:=h.qe c.1 c.2;refine Cn ts given now r (f++[cS e]) (by simpa using q) (fun z g m=>?_);rcases VB.1 g with g|g
   ·have o:z∈f++e :: r:=by simp[g]
    refine Uv (es:=f++e :: r) h.pos (by simpa using q.pos) (by have:=(h.en z o).u1;omega) (fun x=>?_) (no z g m);rw[show f++[cS e]++r=f++cS e :: r from by simp,Iz _ x f r e c.1];have:=Wc (pR e.aK x).1 (show 0<=e.aH by have:=(h.en e UV).u1;omega)
    split <;> omega
   ·have:z=cS e:=by simpa using g
    rw[this] at m;exact Vc m (by show ¬ (1:U9)=3;omega)
  ·rw[Va c];refine Cn ts given now r (f++[e]) (by simpa using h) (fun z g m=>?_);rw[show f++[e]++r=f++e :: r from by simp];rcases VB.1 g with g|g
   ·exact no z g m
   ·have:z=e:=by simpa using g
    subst this
    cases t:dG ts (f++z :: r) z.aT z.aH z.aK
    ·rfl
    ·exact Vc ⟨m,t⟩ c
theorem Uw(h:ec ⟨ts,es,given,now⟩):Inv ⟨ts,(ey ts es).1,given,now⟩ :=
 Cn ts given now es [] (by simpa using h) UV
theorem TW(p:aL->U7)(l:U5 aL):eh (l.filter p)<=eh l:=by
 unfold eh;have:=((X6 (p:=p) (l:=l)).filter (fun e=>e.kind==3)).length_le;omega
theorem ec.filter{now':U9}(h:ec ⟨ts,es,given,now⟩)(p:aL->U7)(A:now<=now')(m:now'<=1048320)(r:∀ e∈es,p e=Vg->e.kind≠1->now'<e.bY):ec ⟨ts,es.filter p,given,now'⟩:=by
 have t:0<=now:=h.n0;have c:∀ z∈es.filter p,z∈es:=fun z f=>(XF.1 f).1
 refine⟨h.tl,h.tu,h.tn,ym p h.ids,fun z f=>h.mP z (c z f),h.g0,h.g1,by show 0<=now';omega,m,fun z f=>?_,fun z f=>h.th z (c z f),?_,fun name x=>?_⟩
 ·have k:=h.en z (c z f);refine⟨k.u1,k.u9,k.sl,k.s0,k.sp,k.ri,?_⟩;rcases k.kd with g|⟨g,y,q,o⟩
  ·exact .inl g
  ·exact .inr ⟨g,r z (c z f) (XF.1 f).2 UU,q,o⟩
 ·have:=h.wa;have this:eh es<=6:=this;have:=TW p es;show eh (es.filter p)<=6;omega
 ·have a:=Jq (name:=name) (x:=x) p h.pos;have b:=h.wi name x;show bP name x (es.filter p)<=bJ name ts;have a:bP name x (es.filter p)<=bP name x es:=a;have b:bP name x es<=bJ name ts:=b;omega
theorem CF(name:U4)(t:U4 × U9):∀ ts:U5 (U4 × U9),bJ name (ts++[t])=if (ts.any fun u=>bW u.1 name)=Vg then bJ name ts else if bW t.1 name then t.2 else 0
 |[]=>by simp[bJ]
 |u :: r=>by
  have ih:=CF name t r;have o:bJ name (u :: r++[t])=if bW u.1 name then u.2 else bJ name (r++[t]):=rfl
  have m:bJ name (u :: r)=if bW u.1 name then u.2 else bJ name r:=rfl
  rw[o,m]
  by_cases h:bW u.1 name=Vg
  ·have:((u :: r).any fun u=>bW u.1 name)=Vg:=XI.2 ⟨u,by simp,h⟩;rw[Vb h,Vb h,Vb this]
  ·rw[Va h,Va h,ih]
   by_cases c:(r.any fun u=>bW u.1 name)=Vg
   ·have:((u :: r).any fun u=>bW u.1 name)=Vg:=by
     obtain⟨z,f,k⟩:=XI.1 c;exact XI.2 ⟨z,by simp[f],k⟩
    rw[Vb c,Vb this]
   ·have:¬ ((u :: r).any fun u=>bW u.1 name)=Vg:=by
     intro g;obtain⟨z,f,k⟩:=XI.1 g;rcases VA.1 f with e|f
     ·rw[e] at k;exact h k
     ·exact c (XI.2 ⟨z,f,k⟩)
    rw[Va c,Va this]
theorem vZ{name:U4}:∀ {ts:U5 (U4 × U9)},(∀ t∈ts,1<=t.2/\t.2<=9)->(bJ name ts=0↔∀ t∈ts,bW t.1 name=Vf)
 |[],_=>by simp[bJ]
 |u :: r,h=>by
  have i:=vZ (name:=name) (ts:=r) (fun t ht=>h t (by simp[ht]));have j:=h u UV;simp only[bJ,List.forall_mem_cons]
  cases c:bW u.1 name
  ·simp only[Vx,if_false,true_and];exact i
  ·simp only[if_true];constructor
   ·intro e;omega
   ·rintro ⟨e,_⟩;cases e
theorem UD{t:U4 × U9}(h:∀ t∈ts,1<=t.2/\t.2<=9)(g:bJ name ts≠0):bJ name (ts++[t])=bJ name ts:=by
 rw[CF,Vb]
 cases c:ts.any fun u=>bW u.1 name
 ·exfalso;apply g;rw[vZ h];intro u f
  cases d:bW u.1 name
  ·rfl
  ·have:ts.any (fun u=>bW u.1 name)=Vg:=XI.2 ⟨u,f,d⟩;rw[this] at c;cases c
 ·rfl
theorem Inv.aT(h:Inv s)(o:1<=u/\u<=9)(q:bJ name s.ts=0)(D:s.ts.length≠4):Inv { s with ts:=s.ts++[(name,u)] }:=by
 have g:=(vZ h.tu).1 q;have un:∀ m,bJ m s.ts≠0->bJ m (s.ts++[(name,u)])=bJ m s.ts:=fun m r=>UD h.tu r
 have pos:∀ e∈s.es,bJ e.aT s.ts≠0:=fun e f=>by
  have:=h.th e f;have:=(h.en e f).u1;omega
 have C:=h.tl;refine⟨?_,fun t ht=>?_,?_,h.ids,h.mP,h.g0,h.g1,h.n0,h.n1,h.en,fun e f=>?_,h.wa,fun e f y=>?_,fun m x=>?_⟩
 ·show (s.ts++[(name,u)]).length<=4;simp;omega
 ·rcases VB.1 ht with ht|ht
  ·exact h.tu t ht
  ·have:t=(name,u):=by simpa using ht
   subst this;exact o
 ·show (s.ts++[(name,u)]).Pairwise _;rw[XC];refine⟨h.tn,by simp,fun a A b z=>?_⟩;have:b=(name,u):=by simpa using z
  subst this;exact g a A
 ·show e.aH<=bJ e.aT (s.ts++[(name,u)]);rw[un _ (pos e f)];exact h.th e f
 ·have:=h.no e f y;show dG (s.ts++[(name,u)]) s.es e.aT e.aH e.aK=Vf;unfold dG at this ⊢;rw[un _ (pos e f)];exact this
 ·show bP m x s.es<=bJ m (s.ts++[(name,u)])
  by_cases c:bJ m s.ts=0
  ·have w:=h.wi m x;have b:=UH (name:=m) (x:=x) h.aS.pos
   have:0<=bJ m (s.ts++[(name,u)]):=by
    rw[CF]
    split
    ·omega
    ·split <;> simp <;> omega
   omega
  ·rw[un m c];exact h.wi m x
theorem Inv.join(h:Inv s)(I:s.given≠60)(g:gy s.now e)(ht:e.aH<=bJ e.aT s.ts)(r:e.kind=3->eh s.es≠6)(y:e.kind≠3->dG s.ts s.es e.aT e.aH e.aK=Vg):ec (jz s e).1:=by
 have K:=h.g0;have J:=h.g1;have o:=h.mP;have H:=h.wa;have q:gy s.now { e with id:=s.given+1 }:=⟨g.u1,g.u9,g.sl,g.s0,g.sp,g.ri,g.kd⟩
 have m:∀ z∈s.es++[{ e with id:=s.given+1 }],z∈s.es\/z={ e with id:=s.given+1 }:=by
  intro z f;rcases VB.1 f with f|f
  ·exact .inl f
  ·exact .inr (by simpa using f)
 unfold jz;refine⟨h.tl,h.tu,h.tn,?_,fun z f=>?_,by show 0<=s.given+1;omega,by show s.given+1<=60;omega,h.n0,h.n1,fun z f=>?_,fun z f=>?_,?_,fun name x=>?_⟩
 ·show dB (s.es++[{ e with id:=s.given+1 }]);unfold dB;rw[Wr,XC];refine⟨h.ids,by simp,fun a C b A=>?_⟩;obtain⟨z,f,rfl⟩:=Wm.1 C;have:b=s.given+1:=by simpa using A
  have:=o z f;omega
 ·rcases m z f with f|rfl
  ·have:=o z f;show 1<=z.id/\z.id<=s.given+1;omega
  ·show 1<=s.given+1/\s.given+1<=s.given+1;omega
 ·rcases m z f with f|rfl
  ·exact h.en z f
  ·exact q
 ·rcases m z f with f|rfl
  ·exact h.th z f
  ·exact ht
 ·show eh (s.es++[{ e with id:=s.given+1 }])<=6;rw[JB,Jj];have E:eh ([]:U5 aL)=0:=by simp[eh]
  rw[E];show eh s.es+((if e.kind=3 then 1 else 0)+0)<=6
  by_cases c:e.kind=3
  ·rw[Vb c];have:=r c;omega
  ·rw[Va c];omega
 ·show bP name x (s.es++[{ e with id:=s.given+1 }])<=bJ name s.ts;rw[yI];have w:=h.wi name x;have D:bP name x [{ e with id:=s.given+1 }]=(if cA name e then cP e.aK x*e.aH else 0):=by simp[bP,cA]
  rw[D]
  by_cases c:cA name e=Vg
  ·rw[Vb c];simp[cA] at c
   by_cases t:0<cP e.aK x
   ·have:=(ug h.aS.pos (by have:=g.u1;omega)).1 (y c.2) x t;rw[CN c.1 x,CO c.1 s.ts] at this;exact this
   ·have b:=(pR e.aK x).1;have:cP e.aK x=0:=UU
    rw[this];simpa using w
  ·rw[Va c];omega
theorem UB(g:dB es)(q:e∈es)(h:e.id=id):∃ l r,es=l++e :: r/\dZ id es=l++cS e :: r/\kept id es=l++r:=by
 obtain⟨l,r,rfl⟩:=X7 q;refine⟨l,r,rfl,?_,?_⟩
 ·have f:∀ z∈l++r,z.id≠id:=by
   intro z c t;unfold dB at g;rw[Wr,XS,XC,VO] at g;rcases VB.1 c with c|c
   ·have:=g.2.2 z.id (Wm.2 ⟨z,c,rfl⟩) e.id UV;omega
   ·have:=g.2.1.1 z.id (Wm.2 ⟨z,c,rfl⟩);omega
  have o:=yy (id:=id) (es:=l) (fun z c=>f z (by simp[c]));have m:=yy (id:=id) (es:=r) (fun z c=>f z (by simp[c]));unfold dZ at o m ⊢;rw[Wr,XS,o,m,Vb h]
 ·have f:∀ z∈l++r,z.id≠id:=by
   intro z c t;unfold dB at g;rw[Wr,XS,XC,VO] at g;rcases VB.1 c with c|c
   ·have:=g.2.2 z.id (Wm.2 ⟨z,c,rfl⟩) e.id UV;omega
   ·have:=g.2.1.1 z.id (Wm.2 ⟨z,c,rfl⟩);omega
  have o:=B2 (id:=id) (es:=l) (fun z c=>f z (by simp[c]));have m:=B2 (id:=id) (es:=r) (fun z c=>f z (by simp[c]));unfold kept at o m ⊢;rw[VP,VQ,o,m,Va (by simp[h])]
theorem Rd.jU{r:Rd.bL}(h:Rd.fw r)(q:Rd.gd r=0):ow (Rd.gg r (Rd.bH r))/\gJ (Rd.gg r (Rd.bH r))/\Rd.gg r (Rd.bH r)≠[]/\(Rd.gg r (Rd.bH r)).length<=40:=by
 obtain⟨_,m,g,f⟩:=(Rd.pM h).2 q;have z:=h.f0;have x:=h.m0;have y:=h.i1;refine⟨fun s o=>?_,?_,by simpa[Rd.gg] using m,by simpa[Rd.gg] using g⟩
 ·obtain⟨d,c,rfl⟩:=Wm.1 o;have a:=Rd.sI h c;have b:=f d c;show 0<=d*1440+r.mn/\d*1440+r.mn<d*1440+r.mn+r.mi/\d*1440+r.mn+r.mi<=1048320;omega
 ·unfold gJ Rd.gg;rw[XV];refine X8 ?_ (Rd.IC h);intro a b t;show a*1440+r.mn<b*1440+r.mn;omega
theorem Hv(h:dH ts name u=0):bJ name ts≠0/\u<=bJ name ts:=by
 unfold dH at h
 split at h
 ·omega
 ·split at h
  ·omega
  ·constructor <;> omega
theorem Ss{l:fJ}(h:(aU s l).2.err≠0):(aU s l).1=s:=by
 cases l with
 |aT name u =>
  simp only[aU] at h ⊢
  by_cases m:bJ name s.ts≠0
  ·rw[Vb m]
  ·rw[Va m] at h ⊢
   by_cases g:s.ts.length=4
   ·rw[Vb g]
   ·rw[Va g] at h;exact Vc rfl h
 |enter k name u fr til long =>
  simp only[aU] at h ⊢
  by_cases c:rm s k name u fr til long≠0
  ·rw[Vb c]
  ·rw[Va c] at h;exact Vc rfl h
 |series name u r =>
  simp only[aU] at h ⊢
  by_cases c:mK s name u r≠0
  ·rw[Vb c]
  ·rw[Va c] at h;exact Vc rfl h
 |confirm id =>
  simp only[aU] at h ⊢
  cases f:nf id s.es with
  |none=>rfl
  |some e =>
   rw[f] at h;simp only at h ⊢
   by_cases c:e.kind≠2
   ·rw[Vb c]
   ·rw[Va c] at h;exact Vc rfl h
 |cancel id =>
  simp only[aU] at h ⊢
  cases f:nf id s.es with
  |none=>rfl
  |some e=>rw[f] at h;exact Vc rfl h
 |list name fr til =>
  simp only[aU]
  split
  ·rfl
  ·split <;> rfl
 |waiting=>rfl
 |cY name fr til =>
  simp only[aU]
  split
  ·rfl
  ·split <;> rfl
 |find name u long fr til =>
  simp only[aU]
  split
  ·rfl
  ·split <;> rfl
 |expand r =>
  simp only[aU]
  split <;> rfl
 |tick n =>
  simp only[aU] at h ⊢
  by_cases c:1048320<s.now+n
  ·rw[Vb c]
  ·rw[Va c] at h;exact Vc rfl h
 |clock=>rfl
end aA
open Go.RowKit
theorem Oq(b:U4):∀ (n i:U8)(r:U5 UInt8),b.size-i=n->X9 b i r=r.reverse++b.data.toList.drop i:=by
 intro n
 induction n with
 |zero =>
  intro i r h;rw[X9,Va UU,WS U0];simp
 |succ n ih =>
  intro i r h;have c:i<b.size:=UU
  rw[X9,Vb c,ih (i+1) _ UU];have f:i<b.data.toList.length:=by simpa using c
  rw[WQ f];simp[ByteArray.get!,c]
theorem Fv(b:U4):b.toList=b.data.toList:=by
 unfold ByteArray.toList;rw[Oq b b.size 0 [] UU];simp
theorem sL{b:U4}:aA.bW a b=Vg↔a=b:=by
 constructor
 ·intro h;have h:=aA.Cb.1 h;rw[Fv,Fv] at h
  cases a;cases b
  simp at h;rw[h]
 ·rintro rfl;exact aA.qY _
theorem pT{b:U4}:aA.bW a b=Vf↔a≠b:=by
 cases h:aA.bW a b
 ·simp;rintro rfl;rw[aA.qY] at h;cases h
 ·simp;exact sL.1 h
def mG(a:U4):Lit:=.string a.data.toList
def ju(n:U9):Lit:=.int .i64 n
theorem Qh{b:U4}(h:mG a=mG b):a=b:=by
 cases a;cases b
 simp[mG] at h;rw[h]
theorem GM{a b:U9}(h:ju a=ju b):a=b:=by simpa[ju] using h
theorem AZ:Ya prog 9:=Maps.string_keyed underlying9
theorem xI:Ya prog 3:=Maps.int_keyed underlying3
theorem Bc{s:U4}(h:s.size<=1000):keyOf prog 9 (.string s)=Ve (mG s):=by
 unfold keyOf mapKey;rw[underlying9];simp only;rw[Vb U1];rfl
theorem xS{n:U9}(m:-1000000000000<=n)(h:n<=1000000000000):keyOf prog 3 (.int .i64 n)=Ve (ju n):=by
 unfold keyOf mapKey;rw[underlying3];simp only;have f:Vp.min=-9223372036854775808:=rfl;have c:Vp.max=9223372036854775807:=rfl;have g:(Lit.int .i64 n).wf=Vg:=by simp[Lit.wf,f,c];omega
 rw[Vb ⟨trivial,g⟩];rfl
inductive aW where
 |desk|mt|me|wa|he|ent|span
 |aT (i:U8)
structure TG where
 name:U4
 aH:U9
 tb:U8
 A:U5 U7->U9
 T:aE.S
structure EG where
 e:aA.aL
 eb:U8
 B:U8
 cap:U8
 tb:U8
def jH(c:U5 TG)(name:U4):U6 U8:=((c.map fun t=>(t.name,t.tb)).find? fun p=>aA.bW p.1 name).map (·.2)
def gv(c:U5 EG)(id:U9):U6 U8:=((c.map fun g=>(g.e.id,g.eb)).find? fun p=>decide (p.1=id)).map (·.2)
structure gR(w:Vh)(g:EG):Prop where
 en:gQ w g.eb g.e.id g.tb g.e.aH g.B g.cap g.e.aK
 k:w.cell? ⟨g.eb,1,Vd⟩=Ve (.int .i64 g.e.kind)
 u:w.cell? ⟨g.eb,5,Vd⟩=Ve (.int .i64 g.e.bY)
 fz:∀ o,w.frozen? ⟨g.eb,o,Vd⟩=Vf
 bl:∃ cs,w.heap[g.eb]?=Ve (.cells cs 200 (0,0))
theorem gR.lt{g:EG}(h:gR w g):g.eb<w.heap.size:=Vr _ _ h.k
theorem gR.off{g:EG}(h:gR w g)(k:aF G w w')(c:g.eb ∉ G)(f:g.B ∉ G):gR w' g :=
 ⟨h.en.off k c f,k.cell c h.k,k.cell c h.u,fun o=>(k.frozen c h.lt).trans (h.fz o),by obtain⟨cs,e⟩:=h.bl;exact⟨cs,(k.block _ h.lt c).trans e⟩⟩
def jw(b:U8):Vi:=.pointer (Ve ⟨b,0,Vd⟩)
structure Raw where
 now:U9
 given:U9
 tg:U5 TG
 eg:U5 EG
 wl:U5 U8
 hl:U5 Hp.Hi
structure DK(w:Vh)(d:U8)(r:Raw)(aM:U8->U6 aW):Prop where
 c0:w.cell? ⟨d,0,Vd⟩=Ve (.int .i64 r.now)
 c1:w.cell? ⟨d,1,Vd⟩=Ve (.int .i64 r.given)
 mt:∃ m f,w.cell? ⟨d,2,Vd⟩=Ve (.map (Ve m))/\aM m=Ve .mt/\eW prog 9 w m r.tg.length f r.tg.length/\∀ name,f (mG name)=jH r.tg name
 me:∃ m f,w.cell? ⟨d,3,Vd⟩=Ve (.map (Ve m))/\aM m=Ve .me/\eW prog 3 w m r.eg.length f r.eg.length/\∀ id,f (ju id)=gv r.eg id
 wa:∃ v,w.cell? ⟨d,4,Vd⟩=Ve v/\w.ownsRow 0 197 1 v r.wl.length (r.wl.map jw)/\∀ b,v.ownBlock=Ve b->aM b=Ve .wa
 he:∃ v,HP w d 5 v r.hl/\∀ b,v.ownBlock=Ve b->aM b=Ve .he
 th:∀ (i:U8) (h:i<r.tg.length),∃ ul us Fl Fs,TH w r.tg[i].tb r.tg[i].name r.tg[i].aH r.tg[i].A r.tg[i].T ul us Fl Fs/\∀ k∈r.tg[i].tb :: (Fl++Fs),aM k=Ve (.aT i)
 en:∀ g∈r.eg,gR w g/\aM g.eb=Ve .ent/\aM g.B=Ve .span
 nd:(r.eg.map (·.eb)).Nodup
 ni:(r.eg.map (·.e.id)).Nodup
 fz:∀ o,w.frozen? ⟨d,o,Vd⟩=Vf
 dc:aM d=Ve .desk
 lt:∀ k c,aM k=Ve c->k<w.heap.size
theorem DK.off{r:Raw}{aM:U8->U6 aW}(h:DK w d r aM)(k:aF G w w')(N:∀ x∈G,aM x=Vd):DK w' d r aM:=by
 have z:∀ {x:U8}{c:aW},aM x=Ve c->x ∉ G:=fun C D=>by rw[N _ D] at C;cases C
 have A:=z h.dc;refine⟨k.cell A h.c0,k.cell A h.c1,?_,?_,?_,?_,?_,?_,h.nd,h.ni,fun o=>(k.frozen A (h.lt d _ h.dc)).trans (h.fz o),h.dc,fun x c C=>zL (h.lt x c C) k.size⟩
 ·obtain⟨m,f,t,q,y,H⟩:=h.mt;exact⟨m,f,k.cell A t,q,y.block (k.block m (h.lt m _ q) (z q)),H⟩
 ·obtain⟨m,f,t,q,y,H⟩:=h.me;exact⟨m,f,k.cell A t,q,y.block (k.block m (h.lt m _ q) (z q)),H⟩
 ·obtain⟨v,t,q,y⟩:=h.wa;exact⟨v,k.cell A t,dO q k (fun b E=>z (y b E)),y⟩
 ·obtain⟨v,t,q⟩:=h.he;exact⟨v,t.off k A (fun b E=>z (q b E)),q⟩
 ·intro i K;obtain⟨J,I,P,O,t,q⟩:=h.th i K;exact⟨J,I,P,O,t.off k (fun x C=>z (q x C)),q⟩
 ·intro g D;obtain⟨t,q,y⟩:=h.en g D;exact⟨t.off k (z q) (z y),q,y⟩
theorem DK.later{r:Raw}{aM:U8->U6 aW}(h:DK w d r aM)(k:Vj w.heap.size w w'):DK w' d r aM:=h.off (G:=[]) (aF.aD k) UV
structure Step(S:aW->Prop)(B:U8)(aM col':U8->U6 aW)(w w':Vh):Prop where
 off:∃ G,aF G w w'/\∀ x∈G,(∃ c,aM x=Ve c/\S c)\/(aM x=Vd/\B<=x)
 gk:∀ k c,aM k=Ve c->col' k=Ve c
 new:∀ k c,col' k=Ve c->aM k=Ve c\/B<=k
theorem Step.refl(S:aW->Prop)(B:U8)(c:U8->U6 aW)(w:Vh):Step S B c c w w:=⟨⟨[],aF.refl _ _,by simp⟩,fun _ _ h=>h,fun _ _ h=>.inl h⟩
theorem Step.below{S:aW->Prop}{c:U8->U6 aW}(h:Vj w.heap.size w w'):Step S B c c w w':=⟨⟨[],aF.aD h,by simp⟩,fun _ _ h=>h,fun _ _ h=>.inl h⟩
theorem Step.size{S:aW->Prop}{f c:U8->U6 aW}(h:Step S B f c w w'):w.heap.size<=w'.heap.size:=by obtain⟨G,g,_⟩:=h.off;exact g.size
theorem Step.mono{S m:aW->Prop}{g f:U8->U6 aW}(h:Step S B g f w w')(q:∀ c,S c->m c)(z:B'<=B):Step m B' g f w w':=by
 obtain⟨G,y,t⟩:=h.off;refine⟨⟨G,y,fun x o=>?_⟩,h.gk,fun k c r=>(h.new k c r).imp id (fun e=>by omega)⟩;rcases t x o with ⟨c,a,b⟩|⟨a,b⟩
 ·exact .inl ⟨c,a,q c b⟩
 ·exact .inr ⟨a,by omega⟩
theorem Step.trans{S:aW->Prop}{o t r:U8->U6 aW}{a b c:Vh}(h:Step S B o t a b)(k:Step S B t r b c):Step S B o r a c:=by
 obtain⟨G,C,A⟩:=h.off;obtain⟨K,z,y⟩:=k.off;refine⟨⟨G++K,?_,fun x f=>?_⟩,fun x c f=>k.gk x c (h.gk x c f),fun x c f=>?_⟩
 ·exact (C.mono (fun x f=>by simp[f])).trans' z (fun x f=>.inl (by simp[f]))
 ·rcases VB.1 f with f|f
  ·exact A x f
  ·rcases y x f with ⟨c,g,m⟩|⟨g,m⟩
   ·rcases h.new x c g with e|e
    ·exact .inl ⟨c,e,m⟩
    ·cases q:o x with
     |none=>exact .inr ⟨rfl,e⟩
     |some c' =>
      have:=h.gk x c' q;rw[g] at this
      cases this
      exact .inl ⟨c,rfl,m⟩
   ·cases q:o x with
    |none=>exact .inr ⟨rfl,m⟩
    |some c'=>rw[h.gk x c' q] at g;cases g
 ·rcases k.new x c f with e|e
  ·exact h.new x c e
  ·exact .inr e
theorem Step.jr{S:aW->Prop}{m g:U8->U6 aW}(h:Step S B m g w w'){c:aW}(t:b<w.heap.size)(o:m b=Ve c)(r:¬ S c):w'.heap[b]?=w.heap[b]?:=by
 obtain⟨G,y,x⟩:=h.off;refine y.block b t (fun q=>?_);rcases x b q with ⟨A,f,z⟩|⟨f,_⟩
 ·rw[o] at f;cases f;exact r z
 ·rw[o] at f;cases f
theorem Step.bV{S:aW->Prop}{f c:U8->U6 aW}(h:Step S B f c w w')(q:b<w.heap.size)(o:f b=Vd)(x:b<B):w'.heap[b]?=w.heap[b]?:=by
 obtain⟨G,t,r⟩:=h.off;refine t.block b q (fun m=>?_);rcases r b m with ⟨z,g,y⟩|⟨_,e⟩
 ·rw[o] at g;cases g
 ·omega
theorem Step.nO{S:aW->Prop}{g f:U8->U6 aW}(h:Step S B g f w w'){o:U8}{c:aW}(r:g b=Ve c)(q:¬ S c)(m:w.cell? ⟨b,o,Vd⟩=Ve v):w'.cell? ⟨b,o,Vd⟩=Ve v :=
 (zo (w:=w) (h.jr (Vr _ _ m) r q)).trans m
def Left(S:aW->Prop)(B:U8)(f:U8->U6 aW)(b:U8):Prop:=(∃ c,f b=Ve c/\¬ S c)\/(f b=Vd/\b<B)
theorem Step.left{S:aW->Prop}{m g:U8->U6 aW}(h:Step S B m g w w'):∃ G,aF G w w'/\∀ b,Left S B m b->b ∉ G:=by
 obtain⟨G,z,y⟩:=h.off;refine⟨G,z,fun b x t=>?_⟩;rcases y b t with ⟨A,o,r⟩|⟨o,r⟩ <;> rcases x with ⟨c,f,q⟩|⟨f,q⟩
 ·rw[o] at f;cases f;exact q r
 ·rw[o] at f;cases f
 ·rw[o] at f;cases f
 ·omega
theorem Step.uJ{S:aW->Prop}{c f:U8->U6 aW}{g:EG}(h:Step S B c f w w')(o:gR w g)(r:Left S B c g.eb)(q:Left S B c g.B):gR w' g:=by
 obtain⟨G,t,m⟩:=h.left;exact o.off t (m _ r) (m _ q)
noncomputable def gN(f:U8->U6 aW)(F:U5 U8)(c:aW)(k:U8):U6 aW :=
 match f k with
 |some c'=>Ve c'
 |none=>@ite _ (k∈F) (Yb _) (Ve c) Vd
theorem B5{f:U8->U6 aW}{c c':aW}(h:f k=Ve c'):gN f F c k=Ve c':=by unfold gN;rw[h]
theorem ua{f:U8->U6 aW}{c:aW}(h:k∈F)(m:∀ g,f k=Ve g->g=c):gN f F c k=Ve c:=by
 unfold gN
 cases e:f k with
 |none=>simp only;rw[Vb h]
 |some g=>simp only;rw[m g e]
theorem oL{f:U8->U6 aW}{c m:aW}(h:gN f F c k=Ve m):f k=Ve m\/(f k=Vd/\k∈F/\c=m):=by
 unfold gN at h
 cases e:f k with
 |none =>
  rw[e] at h;simp only at h
  by_cases g:k∈F
  ·rw[Vb g] at h;cases h;exact .inr ⟨rfl,g,rfl⟩
  ·rw[Va g] at h;cases h
 |some c2=>rw[e] at h;exact .inl h
theorem uh{S:aW->Prop}{f:U8->U6 aW}{c:aW}(k:aF G w w')(m:∀ x∈G,(∃ c,f x=Ve c/\S c)\/(f x=Vd/\B<=x))(o:∀ x∈F,f x=Vd->B<=x):Step S B f (gN f F c) w w' :=
 ⟨⟨G,k,m⟩,fun _ _ h=>B5 h,fun k c g=>by rcases oL g with e|⟨r,q,t⟩;exact .inl e;exact .inr (o k q r)⟩
def TG.with(t:TG)(A:U5 U7->U9)(T:aE.S):TG:={ t with A:=A,T:=T }
def Raw.cW(r:Raw)(i:U8)(t:TG):Raw:={ r with tg:=r.tg.set i t }
theorem Qa{c:U5 TG}(f:i<c.length)(A:U5 U7->U9)(T:aE.S)(name:U4):jH (c.set i (c[i].with A T)) name=jH c name:=by
 unfold jH
 have e:(c.set i (c[i].with A T)).map (fun t=>(t.name,t.tb))=c.map fun t=>(t.name,t.tb):=by
  rw[Yc];have:((c[i].with A T).name,(c[i].with A T).tb)=(c.map fun t=>(t.name,t.tb))[i]'(by simpa using f):=by simp[TG.with]
  rw[this,Yd]
 rw[e]
theorem DK.base{S:aW->Prop}{r:Raw}{f c:U8->U6 aW}(h:DK w d r f)(st:Step S B f c w w')(g:¬ S .desk):
  w'.cell? ⟨d,0,Vd⟩=Ve (.int .i64 r.now)/\w'.cell? ⟨d,1,Vd⟩=Ve (.int .i64 r.given)/\(∀ o,w'.frozen? ⟨d,o,Vd⟩=Vf)/\c d=Ve .desk/\∀ o,w'.cell? ⟨d,o,Vd⟩=w.cell? ⟨d,o,Vd⟩:=by
 have m:=st.jr (h.lt d _ h.dc) h.dc g;exact⟨st.nO h.dc g h.c0,st.nO h.dc g h.c1,fun o=>(WU (w:=w) m).trans (h.fz o),st.gk d _ h.dc,fun o=>zo m⟩
theorem DK.rE{S:aW->Prop}{r:Raw}{g c:U8->U6 aW}(h:DK w d r g)(st:Step S B g c w w')(t:w'.cell? ⟨d,2,Vd⟩=w.cell? ⟨d,2,Vd⟩)(q:¬ S .mt):
  ∃ m f,w'.cell? ⟨d,2,Vd⟩=Ve (.map (Ve m))/\c m=Ve .mt/\eW prog 9 w' m r.tg.length f r.tg.length/\∀ name,f (mG name)=jH r.tg name:=by
 obtain⟨m,f,z,o,y,x⟩:=h.mt;exact⟨m,f,t.trans z,st.gk m _ o,y.block (st.jr (h.lt m _ o) o q),x⟩
theorem DK.sX{S:aW->Prop}{r:Raw}{g c:U8->U6 aW}(h:DK w d r g)(st:Step S B g c w w')(t:w'.cell? ⟨d,3,Vd⟩=w.cell? ⟨d,3,Vd⟩)(q:¬ S .me):
  ∃ m f,w'.cell? ⟨d,3,Vd⟩=Ve (.map (Ve m))/\c m=Ve .me/\eW prog 3 w' m r.eg.length f r.eg.length/\∀ id,f (ju id)=gv r.eg id:=by
 obtain⟨m,f,z,o,y,x⟩:=h.me;exact⟨m,f,t.trans z,st.gk m _ o,y.block (st.jr (h.lt m _ o) o q),x⟩
theorem DK.ry{S:aW->Prop}{r:Raw}{f c:U8->U6 aW}(h:DK w d r f)(st:Step S B f c w w')(q:w'.cell? ⟨d,4,Vd⟩=w.cell? ⟨d,4,Vd⟩)(o:¬ S .wa):
  ∃ v,w'.cell? ⟨d,4,Vd⟩=Ve v/\w'.ownsRow 0 197 1 v r.wl.length (r.wl.map jw)/\∀ b,v.ownBlock=Ve b->c b=Ve .wa:=by
 obtain⟨v,y,x,m⟩:=h.wa;obtain⟨G,k,t⟩:=st.left;exact⟨v,q.trans y,dO x k (fun b g=>t b (.inl ⟨_,m b g,o⟩)),fun b g=>st.gk b _ (m b g)⟩
theorem DK.rG{S:aW->Prop}{r:Raw}{g f:U8->U6 aW}(h:DK w d r g)(st:Step S B g f w w')(y:w'.cell? ⟨d,5,Vd⟩=w.cell? ⟨d,5,Vd⟩)(x:w'.frozen? ⟨d,5,Vd⟩=Vf)(t:¬ S .he):
  ∃ v,HP w' d 5 v r.hl/\∀ b,v.ownBlock=Ve b->f b=Ve .he:=by
 obtain⟨v,o,q⟩:=h.he;obtain⟨G,k,z⟩:=st.left;exact⟨v,⟨y.trans o.c,dO o.own k (fun b m=>z b (.inl ⟨_,q b m,t⟩)),o.ne,x⟩,fun b m=>st.gk b _ (q b m)⟩
theorem DK.pX{S:aW->Prop}{r:Raw}{f c:U8->U6 aW}(h:DK w d r f)(st:Step S B f c w w')(i:U8)(z:i<r.tg.length)(y:¬ S (.aT i)):
  ∃ q o m g,TH w' r.tg[i].tb r.tg[i].name r.tg[i].aH r.tg[i].A r.tg[i].T q o m g/\∀ k∈r.tg[i].tb :: (m++g),c k=Ve (.aT i):=by
 obtain⟨q,o,m,g,D,x⟩:=h.th i z;obtain⟨G,k,C⟩:=st.left;exact⟨q,o,m,g,D.off k (fun b t=>C b (.inl ⟨_,x b t,y⟩)),fun b t=>st.gk b _ (x b t)⟩
theorem DK.rN{S:aW->Prop}{r:Raw}{f c:U8->U6 aW}(h:DK w d r f)(st:Step S B f c w w')(x:¬ S .ent)(q:¬ S .span):
  ∀ g∈r.eg,gR w' g/\c g.eb=Ve .ent/\c g.B=Ve .span:=by
 intro g t;obtain⟨y,o,m⟩:=h.en g t;exact⟨st.uJ y (.inl ⟨_,o,x⟩) (.inl ⟨_,m,q⟩),st.gk _ _ o,st.gk _ _ m⟩
theorem DK.aT{r:Raw}{g:U8->U6 aW}(h:DK w d r g)(i:U8)(X:i<r.tg.length)(H:∀ k∈r.tg[i].tb :: F,g k=Ve (.aT i)){A:U5 U7->U9}{T:aE.S}(n:fH w w' r.tg[i].tb r.tg[i].name r.tg[i].aH A T F):
  ∃ t,DK w' d (r.cW i (r.tg[i].with A T)) t/\Step (·=.aT i) w.heap.size g t w w':=by
 obtain⟨U,R,J,I,K,V⟩:=n.th
 have y:∀ k,w.heap.size<=k->g k=Vd:=fun k o=>by
  cases e:g k with
  |none=>rfl
  |some c=>have:=h.lt k c e;omega
 have z:∀ k∈J++I,g k=Ve (.aT i)\/(g k=Vd/\w.heap.size<=k):=fun k o=>by
  rcases V k o with e|e
  ·exact .inl (H k (by simp[e]))
  ·exact .inr ⟨y k e,e⟩
 have st:Step (·=.aT i) w.heap.size g (gN g (J++I) (.aT i)) w w':=uh n.off (fun x D=>.inl ⟨_,H x D,rfl⟩) (fun x D e=>by
  rcases z x D with q|q
  ·rw[e] at q;cases q
  ·exact q.2)
 refine⟨_,?_,st⟩;obtain⟨b1,b2,P,b4,C⟩:=h.base st UV;refine⟨b1,b2,?_,h.sX st (C 3) UV,h.ry st (C 4) UV,h.rG st (C 5) (P 5) UV,?_,h.rN st UV UV,h.nd,h.ni,P,b4,?_⟩
 ·obtain⟨m,f,a1,a2,a3,a4⟩:=h.rE st (C 2) UV;have e:(r.cW i (r.tg[i].with A T)).tg.length=r.tg.length:=by simp[Raw.cW]
  exact⟨m,f,a1,a2,by rw[e];exact a3,fun name=>by rw[a4];exact (Qa X A T name).symm⟩
 ·intro j W;have E:j<r.tg.length:=by simpa[Raw.cW] using W
  by_cases e:j=i
  ·subst e;have q:(r.cW j (r.tg[j].with A T)).tg[j]=r.tg[j].with A T:=by simp[Raw.cW]
   rw[q];refine⟨U,R,J,I,K,fun k o=>?_⟩;rcases VA.1 o with rfl|o
   ·exact B5 (H r.tg[j].tb Ye)
   ·refine ua o (fun c' N=>?_);rcases z k o with e|e
    ·rw[N] at e;cases e;rfl
    ·rw[N] at e;cases e.1
  ·have q:(r.cW i (r.tg[i].with A T)).tg[j]=r.tg[j]:=by simp[Raw.cW,Yf e]
   rw[q];exact h.pX st j E (by simpa using e)
 ·intro k c o;rcases oL o with O|⟨O,Y,h3⟩
  ·exact zL (h.lt k c O) st.size
  ·exact K.lt k (by simp only[VA];exact .inr Y)
structure Fit(t:TG)(e:aA.aL):Prop where
 ok:ow e.aK
 bd:∀ p,0<=t.A p/\t.A p<=400000
 u1:1<=e.aH
 u2:e.aH<=9
 ll:e.aK.length<=100
theorem DK.pair{r:Raw}{c:U8->U6 aW}(h:DK w d r c)(i:U8)(C:i<r.tg.length){g:EG}(D:gR w g)(ht:g.tb=r.tg[i].tb)(H:c g.eb≠Ve (.aT i))(E:c g.B≠Ve (.aT i))(f:Fit r.tg[i] g.e):
  ∃ F,xk w r.tg[i].tb g.eb g.B g.cap r.tg[i].name r.tg[i].aH r.tg[i].A r.tg[i].T F g.e.id g.e.aH g.e.aK/\∀ k∈r.tg[i].tb :: F,c k=Ve (.aT i):=by
 obtain⟨y,x,t,q,I,o⟩:=h.th i C;refine⟨t++q,⟨⟨y,x,t,q,I,fun k z=>z⟩,by rw[<- ht];exact D.en,fun m=>H (o _ m),fun m=>E (o _ m),f.ok,f.bd,f.u1,f.u2,f.ll⟩,o⟩
theorem Gs{r:Raw}{f:U8->U6 aW}(h:DK w d r f)(i:U8)(q:i<r.tg.length){g:EG}(x:gR w g)(ht:g.tb=r.tg[i].tb)(D:f g.eb≠Ve (.aT i))(C:f g.B≠Ve (.aT i))(y:Fit r.tg[i] g.e)(m:kB (bZ r.tg[i].A g.e.aK g.e.aH) r.tg[i].aH g.e.aK=Vf):
  Vk prog 104 #[.pointer (Ve ⟨g.tb,0,Vd⟩),.pointer (Ve ⟨g.eb,0,Vd⟩)] w fun e w'=>e=.returned (.bool Vf)/\∃ c,DK w' d r c/\Step (·=.aT i) w.heap.size f c w w':=by
 obtain⟨F,p,z⟩:=h.pair i q x ht D C y;rw[ht];refine (OX w _ _ _ _ _ _ _ _ F _ _ _ p m).mono ?_;rintro e w' ⟨rfl,n⟩;obtain⟨c,o,t⟩:=h.aT i q z n;refine⟨rfl,c,?_,t⟩
 have e:r.cW i (r.tg[i].with r.tg[i].A r.tg[i].T)=r:=by
  have E:r.tg[i].with r.tg[i].A r.tg[i].T=r.tg[i]:=rfl;unfold Raw.cW;rw[E,Yd]
 rw[e] at o;exact o
theorem HJ{r:Raw}{c:U8->U6 aW}(h:DK w d r c)(i:U8)(o:i<r.tg.length){g:EG}(t:gR w g)(ht:g.tb=r.tg[i].tb)(C:c g.eb≠Ve (.aT i))(z:c g.B≠Ve (.aT i))(x:Fit r.tg[i] g.e)(q:xt r.tg[i].T g.e.id g.e.aK)(m:kB (bZ r.tg[i].A g.e.aK g.e.aH) r.tg[i].aH g.e.aK=Vg):
  Vk prog 104 #[.pointer (Ve ⟨g.tb,0,Vd⟩),.pointer (Ve ⟨g.eb,0,Vd⟩)] w fun e w'=>e=.returned (.bool Vg)/\∃ f,DK w' d (r.cW i (r.tg[i].with (bZ r.tg[i].A g.e.aK g.e.aH) (gn g.e.id g.eb r.tg[i].T g.e.aK))) f/\Step (·=.aT i) w.heap.size c f w w':=by
 obtain⟨F,p,y⟩:=h.pair i o t ht C z x;rw[ht];refine (P7 w _ _ _ _ _ _ _ _ F _ _ _ p q m).mono ?_;rintro e w' ⟨rfl,n⟩;exact⟨rfl,h.aT i o y n⟩
theorem TU{r:Raw}{c:U8->U6 aW}(h:DK w d r c)(i:U8)(m:i<r.tg.length){g:EG}(t:gR w g)(ht:g.tb=r.tg[i].tb)(D:c g.eb≠Ve (.aT i))(C:c g.B≠Ve (.aT i))(x:Fit r.tg[i] g.e)(q:aE.Ord (aE.bS r.tg[i].T))(o:aE.size r.tg[i].T<=9000)(z:∀ p,0<=bZ r.tg[i].A g.e.aK (-g.e.aH) p):
  Vk prog 205 #[.pointer (Ve ⟨g.tb,0,Vd⟩),.pointer (Ve ⟨g.eb,0,Vd⟩)] w fun e w'=>e=.returned (.tuple #[])/\∃ f,DK w' d (r.cW i (r.tg[i].with (bZ r.tg[i].A g.e.aK (-g.e.aH)) (jx g.e.id r.tg[i].T g.e.aK))) f/\Step (·=.aT i) w.heap.size c f w w':=by
 obtain⟨F,p,y⟩:=h.pair i m t ht D C x;rw[ht];refine (Tx w _ _ _ _ _ _ _ _ F _ _ _ p q o z).mono ?_;rintro e w' ⟨rfl,n⟩;exact⟨rfl,h.aT i m y n⟩
theorem DK.heap{r:Raw}{f:U8->U6 aW}(h:DK w d r f)(t:∀ b,v.ownBlock=Ve b->f b=Ve .he){D:U5 Hp.Hi}(p:lE w d 5 v D w'):
  ∃ g,DK w' d { r with hl:=D } g/\Step (fun c=>c=.he\/c=.desk) w.heap.size f g w w':=by
 obtain⟨v',C,A,J,m,I⟩:=p
 have st:Step (fun c=>c=.he\/c=.desk) w.heap.size f (gN f v'.ownBlock.toList .he) w w':=by
  refine uh J (fun x q=>?_) (fun x q e=>?_)
  ·rcases VA.1 q with rfl|q
   ·exact .inl ⟨_,h.dc,.inr rfl⟩
   ·exact .inl ⟨_,t x (WW.1 q),.inl rfl⟩
  ·rcases A x (WW.1 q) with z|z
   ·rw[t x z] at e;cases e
   ·exact z
 refine⟨_,?_,st⟩;refine⟨(m 0 UU).trans h.c0,(m 1 UU).trans h.c1,h.rE st (m 2 UU) UV,h.sX st (m 3 UU) UV,h.ry st (m 4 UU) UV,⟨v',C,fun b E=>?_⟩,fun i N=>h.pX st i N UV,h.rN st UV UV,h.nd,h.ni,fun o=>(I o).trans (h.fz o),st.gk d _ h.dc,fun k c K=>?_⟩
 ·refine ua (WW.2 E) (fun R y=>?_);rcases A b E with e|e
  ·rw[t b e] at y;cases y;rfl
  ·have:=h.lt b _ y;omega
 ·rcases oL K with H|⟨H,O,P⟩
  ·exact zL (h.lt k c H) st.size
  ·have:=C.own.lt k (WW.1 O);exact this.2
theorem DK.np{r:Raw}{f:U8->U6 aW}(h:DK w d r f)(n:U9):DK (w.setCell ⟨d,1,Vd⟩ (.int .i64 n)) d { r with given:=n } f/\Step (·=.desk) w.heap.size f f w (w.setCell ⟨d,1,Vd⟩ (.int .i64 n)):=by
 have st:Step (·=.desk) w.heap.size f f w (w.setCell ⟨d,1,Vd⟩ (.int .i64 n)):=⟨⟨[d],aF.aY ..,fun x m=>.inl ⟨_,by simp at m;subst m;exact h.dc,rfl⟩⟩,fun _ _ h=>h,fun _ _ h=>.inl h⟩;have g:∀ o,o≠1->(w.setCell ⟨d,1,Vd⟩ (.int .i64 n)).cell? ⟨d,o,Vd⟩=w.cell? ⟨d,o,Vd⟩:=fun o g=>zS _ _ _ _ (by have:=g;simp)
 exact⟨⟨(g 0 UU).trans h.c0,VF _ _ _ h.c1,h.rE st (g 2 UU) UV,h.sX st (g 3 UU) UV,h.ry st (g 4 UU) UV,h.rG st (g 5 UU) ((zF ..).trans (h.fz 5)) UV,fun i t=>h.pX st i t UV,h.rN st UV UV,h.nd,h.ni,fun o=>(zF ..).trans (h.fz o),h.dc,fun k c q=>zL (h.lt k c q) st.size⟩,st⟩
theorem DK.jg{r:Raw}{g:U8->U6 aW}(h:DK w d r g)(D:∀ b,v.ownBlock=Ve b->g b=Ve .wa){wl':U5 U8}(k:aF v.ownBlock.toList w w1)(E:w1.ownsRow 0 197 1 v' wl'.length (wl'.map jw))(t:∀ b,v'.ownBlock=Ve b->v.ownBlock=Ve b\/w.heap.size<=b):
  ∃ m,DK (w1.setCell ⟨d,4,Vd⟩ v') d { r with wl:=wl' } m/\Step (fun c=>c=.wa\/c=.desk) w.heap.size g m w (w1.setCell ⟨d,4,Vd⟩ v'):=by
 have C:d ∉ v.ownBlock.toList:=fun e=>by have:=D d (WW.1 e);rw[h.dc] at this;cases this
 have I:=h.lt d _ h.dc;have q:w1.heap[d]?=w.heap[d]?:=k.block d I C;have O:aF (d :: v.ownBlock.toList) w (w1.setCell ⟨d,4,Vd⟩ v'):=(k.mono (by simp +contextual)).setCell (.inl UV) _ _
 have st:Step (fun c=>c=.wa\/c=.desk) w.heap.size g (gN g v'.ownBlock.toList .wa) w (w1.setCell ⟨d,4,Vd⟩ v'):=by
  refine uh O (fun x z=>?_) (fun x z e=>?_)
  ·rcases VA.1 z with rfl|z
   ·exact .inl ⟨_,h.dc,.inr rfl⟩
   ·exact .inl ⟨_,D x (WW.1 z),.inl rfl⟩
  ·rcases t x (WW.1 z) with K|K
   ·rw[D x K] at e;cases e
   ·exact K
 have f:∀ o,o≠4->(w1.setCell ⟨d,4,Vd⟩ v').cell? ⟨d,o,Vd⟩=w.cell? ⟨d,o,Vd⟩:=fun o E=>(zS _ _ _ _ (by have:=E;simp)).trans (zo q)
 have A:∀ o,(w1.setCell ⟨d,4,Vd⟩ v').frozen? ⟨d,o,Vd⟩=w.frozen? ⟨d,o,Vd⟩:=fun o=>(zF ..).trans (WU q)
 obtain⟨U,T,_⟩:=h.wa
 have H:∀ b,v'.ownBlock=Ve b->b≠d:=fun b y e=>by
  subst e;rcases t b y with e|e
  ·exact C (WW.2 e)
  ·omega
 refine⟨_,⟨(f 0 UU).trans h.c0,(f 1 UU).trans h.c1,h.rE st (f 2 UU) UV,h.sX st (f 3 UU) UV,⟨v',VF _ _ _ ((zo (w:=w) q).trans T),dO E (aF.aY d _ 4 _) (fun b y=>by simpa using H b y),fun b y=>?_⟩,h.rG st (f 5 UU) ((A 5).trans (h.fz 5)) UV,fun i R=>h.pX st i R UV,h.rN st UV UV,h.nd,h.ni,fun o=>(A o).trans (h.fz o),st.gk d _ h.dc,fun x c P=>?_⟩,st⟩
 ·refine ua (WW.2 y) (fun W J=>?_);rcases t b y with e|e
  ·rw[D b e] at J;cases J;rfl
  ·have:=h.lt b _ J;omega
 ·rcases oL P with N|⟨N,S,V⟩
  ·exact zL (h.lt x c N) st.size
  ·have:=E.lt x (WW.1 S)
   simpa using this.2
def fW(id kind bY:U9)(c:U5 EG):U5 EG:=c.map fun g=>if g.e.id=id then { g with e:={ g.e with kind:=kind,bY:=bY } } else g
theorem PV(id c f:U9)(h:U5 EG):(fW id c f h).map (·.eb)=h.map (·.eb):=by
 unfold fW;rw[Yg];apply Yh;intro g _;simp only[Yi];split <;> rfl
theorem PY(id c f:U9)(h:U5 EG):(fW id c f h).map (·.e.id)=h.map (·.e.id):=by
 unfold fW;rw[Yg];apply Yh;intro g _;simp only[Yi];split <;> rfl
theorem GW(id c f:U9)(h:U5 EG)(x:U9):gv (fW id c f h) x=gv h x:=by
 have e:(fW id c f h).map (fun g=>(g.e.id,g.eb))=h.map fun g=>(g.e.id,g.eb):=by
  unfold fW;rw[Yg];apply Yh;intro g _;simp only[Yi];split <;> rfl
 unfold gv;rw[e]
theorem Rb(id c f:U9)(g:U5 EG):(fW id c f g).length=g.length:=by unfold fW;simp
theorem oM{α β:Type}(f:α->β):∀ {l:U5 α},(l.map f).Nodup->∀ {x y:α},x∈l->y∈l->f x=f y->x=y
 |[],_,_,_,hx,_,_=>by simp at hx
 |a :: l,h,x,y,hx,hy,e=>by
  rw[XS,VE] at h;rcases VA.1 hx with o|g <;> rcases VA.1 hy with m|c
  ·rw[o,m]
  ·exact Vc (Wm.2 ⟨y,c,by rw[<- e,o]⟩) h.1
  ·exact Vc (Wm.2 ⟨x,g,by rw[e,m]⟩) h.1
  ·exact oM f h.2 g c e
theorem DK.rA{r:Raw}{t:U8->U6 aW}(h:DK w d r t){g:EG}(K:g∈r.eg)(q A:U9):
  DK ((w.setCell ⟨g.eb,1,Vd⟩ (.int .i64 q)).setCell ⟨g.eb,5,Vd⟩ (.int .i64 A)) d { r with eg:=fW g.e.id q A r.eg } t/\Step (·=.ent) w.heap.size t t w ((w.setCell ⟨g.eb,1,Vd⟩ (.int .i64 q)).setCell ⟨g.eb,5,Vd⟩ (.int .i64 A)):=by
 obtain⟨g1,O,g3⟩:=h.en g K;have k:aF [g.eb] w ((w.setCell ⟨g.eb,1,Vd⟩ (.int .i64 q)).setCell ⟨g.eb,5,Vd⟩ (.int .i64 A)):=((aF.refl [g.eb] w).setCell (.inl UV) _ _).setCell (.inl UV) _ _;have st:Step (·=.ent) w.heap.size t t w ((w.setCell ⟨g.eb,1,Vd⟩ (.int .i64 q)).setCell ⟨g.eb,5,Vd⟩ (.int .i64 A)):=⟨⟨_,k,fun x D=>.inl ⟨_,by simp at D;subst D;exact O,rfl⟩⟩,fun _ _ h=>h,fun _ _ h=>.inl h⟩;obtain⟨V,U,P,T,E⟩:=h.base st UV;refine⟨⟨V,U,h.rE st (E 2) UV,?_,h.ry st (E 4) UV,h.rG st (E 5) (P 5) UV,fun i R=>h.pX st i R UV,?_,by rw[PV];exact h.nd,by rw[PY];exact h.ni,P,T,fun x c D=>zL (h.lt x c D) st.size⟩,st⟩
 ·obtain⟨m,f,a1,Y,X,W⟩:=h.sX st (E 3) UV;exact⟨m,f,a1,Y,by rw[Rb];exact X,fun id=>by rw[W,GW]⟩
 ·intro x D;obtain⟨y,I,rfl⟩:=Wm.1 D;obtain⟨z,H,C⟩:=h.en y I
  by_cases e:y.e.id=g.e.id
  ·have:y=g:=oM _ h.ni I K e;subst this;rw[Vb rfl];have N:y.B≠y.eb:=fun e=>by rw[e,H] at C;cases C
   refine⟨⟨⟨?_,?_,?_,?_,z.en.sl.off k (by simpa using N),Wk z.en.lt k.size⟩,?_,?_,fun o=>?_,?_⟩,H,C⟩
   ·exact (zS _ _ _ _ UV).trans ((zS _ _ _ _ UV).trans z.en.c0)
   ·exact (zS _ _ _ _ UV).trans ((zS _ _ _ _ UV).trans z.en.c1)
   ·exact (zS _ _ _ _ UV).trans ((zS _ _ _ _ UV).trans z.en.c2)
   ·exact (zS _ _ _ _ UV).trans ((zS _ _ _ _ UV).trans z.en.c3)
   ·exact (zS _ _ _ _ UV).trans (zm _ _ _ z.k)
   ·exact zm _ _ _ ((zS _ _ _ _ UV).trans z.u)
   ·exact (zF ..).trans ((zF ..).trans (z.fz o))
   ·obtain⟨cs,e⟩:=z.bl;exact⟨_,heap_setCell_same _ _ _ _ _ _ (heap_setCell_same _ _ _ _ _ _ e)⟩
  ·rw[Va e];have J:y.eb≠g.eb:=fun S=>e (by rw[oM _ h.nd I K S])
   have N:y.B≠g.eb:=fun e=>by rw[e,O] at C;cases C
   exact⟨z.off k (by simpa using J) (by simpa using N),H,C⟩
def eQ(id:U9)(c:U5 EG):U5 EG:=c.filter fun g=>g.e.id != id
theorem ob{c:U5 EG}:gv c id=((c.find? fun g=>decide (g.e.id=id)).map (·.eb)):=by
 unfold gv;rw[Yj]
 cases h:c.find? ((fun p=>decide (p.1=id)) ∘ fun g=>(g.e.id,g.eb)) with
 |none=>have f:c.find? (fun g=>decide (g.e.id=id))=Vd:=h;rw[f];rfl
 |some g=>have f:c.find? (fun g=>decide (g.e.id=id))=Ve g:=h;rw[f];rfl
theorem H6{c:U5 EG}(m:(c.map (·.e.id)).Nodup){g:EG}(f:g∈c):gv c g.e.id=Ve g.eb:=by
 rw[ob]
 cases h:c.find? fun x=>decide (x.e.id=g.e.id) with
 |none =>
  have:=Yk.1 h g f;simp at this
 |some x =>
  have q:=Yl h;have o:=Ym h;have:x=g:=oM _ m q f (by simpa using o);rw[this];rfl
theorem B8{c:U5 EG}(h:∀ g∈c,g.e.id≠id):gv c id=Vd:=by
 rw[ob];have:c.find? (fun g=>decide (g.e.id=id))=Vd:=Yk.2 (fun g f=>by simpa using h g f);rw[this];rfl
theorem Ic{c:U5 EG}(h:gv c id=Ve b):∃ g∈c,g.e.id=id/\g.eb=b:=by
 rw[ob] at h
 cases e:c.find? fun x=>decide (x.e.id=id) with
 |none=>rw[e] at h;cases h
 |some x =>
  rw[e] at h;refine⟨x,Yl e,by simpa using Ym e,by simpa using h⟩
theorem Gt{c:U5 EG}(h:gv c id=Vd):∀ g∈c,g.e.id≠id:=by
 rw[ob] at h;intro g m e
 cases f:c.find? fun x=>decide (x.e.id=id) with
 |none =>
  have:=Yk.1 f g m;simp[e] at this
 |some x=>rw[f] at h;cases h
theorem GK{eg:U5 EG}(o:(eg.map (·.e.id)).Nodup)(id x:U9):gv (eQ id eg) x=if x=id then Vd else gv eg x:=by
 by_cases e:x=id
 ·subst e;rw[Vb rfl];exact B8 (fun g c=>by simpa using (XF.1 c).2)
 ·rw[Va e]
  cases h:gv eg x with
  |none=>exact B8 (fun g c=>Gt h g ((XF.1 c).1))
  |some b =>
   obtain⟨g,c,m,r⟩:=Ic h;have f:((eQ id eg).map (·.e.id)).Nodup:=VT (X6.map _) o;have q:g∈eQ id eg:=XF.2 ⟨c,by simpa[m] using e⟩;rw[<- m,H6 f q,r]
theorem Q8{eg:U5 EG}(m:(eg.map (·.e.id)).Nodup)(id:U9):(eQ id eg).length=eg.length-if (gv eg id).isSome then 1 else 0:=by
 induction eg with
 |nil=>simp[eQ]
 |cons g eg ih =>
  rw[XS,VE] at m;have ih:=ih m.2
  by_cases e:g.e.id=id
  ·have q:∀ x∈eg,x.e.id≠id:=fun x f c=>m.1 (Wm.2 ⟨x,f,by rw[e,c]⟩)
   have o:eQ id (g :: eg)=eg:=by
    unfold eQ;rw[VQ,Va (by simp[e])];exact XG.2 (fun x f=>by simpa using q x f)
   have c:(gv (g :: eg) id).isSome=Vg:=by rw[ob,Yn];simp[e]
   rw[o,c];simp
  ·have o:eQ id (g :: eg)=g :: eQ id eg:=by unfold eQ;rw[VQ,Vb (by simpa using e)]
   have c:gv (g :: eg) id=gv eg id:=by rw[ob,ob,Yn];simp[e]
   rw[o,c,V6,V6,ih]
   have:(if (gv eg id).isSome then 1 else 0)<=eg.length:=by
    split
    ·rename_i h
     cases eg with
     |nil=>rw[ob] at h;simp at h
     |cons _ _=>simp
    ·omega
   omega
theorem DK.uR{r:Raw}{o:U8->U6 aW}(h:DK w d r o){m:U8}{f:Lit->U6 U8}(H:w.cell? ⟨d,3,Vd⟩=Ve (.map (Ve m)))(A:o m=Ve .me)(C:∀ id,f (ju id)=gv r.eg id)(id:U9)(p:eW prog 3 w' m r.eg.length (Go.Proofs.YtfigmlfdnickmaaGreatDoor.lg f (ju id) Vd) (r.eg.length-if (f (ju id)).isSome then 1 else 0))(q:w.grownBy w' (Ve m)):
  DK w' d { r with eg:=eQ id r.eg } o/\Step (·=.me) w.heap.size o o w w':=by
 have k:aF [m] w w':=⟨q.os,q.tape,q.output,q.size,fun i z E=>q.block i z (by simpa using E)⟩;have st:Step (·=.me) w.heap.size o o w w':=⟨⟨_,k,fun x t=>.inl ⟨_,by simp at t;subst t;exact A,rfl⟩⟩,fun _ _ h=>h,fun _ _ h=>.inl h⟩;obtain⟨N,K,D,J,y⟩:=h.base st UV;refine⟨⟨N,K,h.rE st (y 2) UV,⟨m,lg f (ju id) Vd,(y 3).trans H,A,?_,fun x=>?_⟩,h.ry st (y 4) UV,h.rG st (y 5) (D 5) UV,fun i z=>h.pX st i z UV,fun g q=>h.rN st UV UV g ((XF.1 q).1),VT (X6.map _) h.nd,VT (X6.map _) h.ni,D,J,fun x c t=>zL (h.lt x c t) st.size⟩,st⟩
 ·have e:=Q8 h.ni id;rw[C] at p;show eW _ _ _ _ (eQ id r.eg).length _ (eQ id r.eg).length;rw[e];exact p.tight
 ·show lg f (ju id) Vd (ju x)=gv (eQ id r.eg) x;rw[GK h.ni]
  by_cases e:x=id
  ·rw[e,sO,Vb rfl]
  ·rw[sS f _ (fun I=>e (GM I)),Va e,C]
theorem GZ{c:U5 EG}{g:EG}(f:∀ x∈c,x.e.id≠g.e.id)(x:U9):gv (c++[g]) x=if x=g.e.id then Ve g.eb else gv c x:=by
 by_cases e:x=g.e.id
 ·rw[Vb e,ob,Yo];have:c.find? (fun y=>decide (y.e.id=x))=Vd:=Yk.2 (fun y m=>by simpa[e] using f y m);rw[this];simp[e]
 ·rw[Va e,ob,ob,Yo]
  cases h:c.find? fun y=>decide (y.e.id=x) with
  |none=>simp[Yf e]
  |some y=>simp
theorem sR{c:U5 TG}:jH c name=((c.find? fun t=>aA.bW t.name name).map (·.tb)):=by
 unfold jH;rw[Yj]
 cases h:c.find? ((fun p=>aA.bW p.1 name) ∘ fun t=>(t.name,t.tb)) with
 |none=>have f:c.find? (fun t=>aA.bW t.name name)=Vd:=h;rw[f];rfl
 |some g=>have f:c.find? (fun t=>aA.bW t.name name)=Ve g:=h;rw[f];rfl
theorem Rk{c:U5 TG}{t:TG}(f:∀ x∈c,x.name≠t.name)(name:U4):jH (c++[t]) name=@ite _ (name=t.name) (Yb _) (Ve t.tb) (jH c name):=by
 by_cases e:name=t.name
 ·rw[Vb e,sR,Yo];have:c.find? (fun y=>aA.bW y.name name)=Vd:=Yk.2 (fun y g=>by rw[Bool.not_eq_true,pT,e];exact f y g);rw[this];have:aA.bW t.name name=Vg:=sL.2 e.symm;simp[this]
 ·rw[Va e,sR,sR,Yo]
  cases h:c.find? fun y=>aA.bW y.name name with
  |none =>
   have:aA.bW t.name name=Vf:=pT.2 (Yf e);simp[this]
  |some y=>simp
theorem Hy{r:Raw}{m:U8->U6 aW}(h:DK w d r m)(D:Hp.gH r.hl)(hl:r.hl.length<=1000)(t n:U9)(C:∃ x∈r.hl,x.t=t/\x.n=n):
  Vk prog 149 #[.pointer (Ve ⟨d,5,Vd⟩),.int .i64 t,.int .i64 n] w fun e w'=>e=.returned (.tuple #[])/\∃ (x:Hp.Hi) (g:U5 Hp.Hi) (f:U8->U6 aW),x.t=t/\x.n=n/\Hp.gH g/\r.hl.Perm (x :: g)/\DK w' d { r with hl:=g } f/\Step (fun c=>c=.he\/c=.desk) w.heap.size m f w w':=by
 obtain⟨v,N,K⟩:=h.he;refine (Q6 d 5 v r.hl t n w N D hl).mono ?_;rintro e w' ⟨rfl,y⟩;refine⟨rfl,?_⟩;rcases y with ⟨y,_⟩|⟨x,g,J,I,p,H,E⟩
 ·obtain⟨x,q,o⟩:=C;exact Vc o (y x q)
 ·obtain⟨f,A,z⟩:=h.heap K p;exact⟨x,g,f,J,I,H,E,A,z⟩
def xO(c:aW):Prop:=c=.he\/c=.desk\/c=.ent
def Ci(w:Vh)(d:U8)(r:Raw)(h:U8->U6 aW)(g:EG)(w':Vh):Prop :=
 ∃ (x:Hp.Hi) (f:U5 Hp.Hi) (c:U8->U6 aW),x.t=g.e.bY/\x.n=g.e.id/\Hp.gH f/\r.hl.Perm (x :: f)/\DK w' d { r with eg:=fW g.e.id 1 0 r.eg,hl:=f } c/\Step xO w.heap.size h c w w'
theorem Uq{r:Raw}{m:U8->U6 aW}(h:DK w d r m)(X:Hp.gH r.hl)(W:r.hl.length<=1000){g:EG}(J:g∈r.eg)(V:∃ x∈r.hl,x.t=g.e.bY/\x.n=g.e.id):
  Vk prog 105 #[.pointer (Ve ⟨d,0,Vd⟩),.pointer (Ve ⟨g.eb,0,Vd⟩)] w fun e w'=>e=.returned (.tuple #[])/\Ci w d r m g w':=by
 obtain⟨K,g2,Y⟩:=h.en g J;have O:=K.en.c0;have N:=K.u;have P:=aC (fun wx (k:Vj w.heap.size w wx)=>Hy (h.later k) X W g.e.bY g.e.id V);have E:=aC (zA J g2);clear h Y
 go_in
 go_upto_region 0 with fail
 go_region_held3 (fun w'=>w'.cell? ⟨g.eb,0,Vd⟩=Ve (.int .i64 g.e.id)/\w'.cell? ⟨g.eb,5,Vd⟩=Ve (.int .i64 g.e.bY))
  (first
   |exact⟨O,N⟩
   |exact⟨((q.en g E.out.1).1).en.c0,((q.en g E.out.1).1).u⟩)
  (first
   |(go_at_call 149;refine (P.out _ (dM w)).mono ?_;rintro e w4 ⟨rfl,x,U,f,D,C,A,z,q,y⟩))
 obtain⟨o,T,S⟩:=q.en g E.out.1;have d1:=o.k;have d5:=o.u;have f1:=o.fz 1;have f5:=o.fz 5;have SE:=aC (q.rA (g:=g) E.out.1 1 0);have KK:=aC (zA D (zA C (zA A (zA z y))));clear o T S D C A z q y P O N
 go_wp2
 go_end0
 obtain⟨D,C,A,z,y⟩:=KK.out;obtain⟨s1,R⟩:=SE.out;refine⟨rfl,(⟨x,U,f,D,C,A,z,s1,?_⟩:Ci _ _ _ _ _ _)⟩;have I:Step xO w.heap.size m f w w4:=(Step.below (dM w)).trans (y.mono (fun c H=>by unfold xO;rcases H with e|e;exact .inl e;exact .inr (.inl e)) (zq _));exact I.trans (R.mono (fun c H=>.inr (.inr H)) I.size)
theorem TJ(eb:U8)(f:U9)(w:Vh)(c:w.cell? ⟨eb,1,Vd⟩=Ve (.int .i64 f)):
  Vk prog 107 #[.pointer (Ve ⟨eb,0,Vd⟩)] w fun e w'=>e=.returned (.bool (f==1))/\w'=w:=by
 go_in
 go_wp2
 go_ret;exact⟨rfl,rfl⟩
theorem Fm:(prog.info? 200).map (fun i=>i.size)=Ve 6:=UZ
theorem NF(w:Vh)(a b:U8)(g:∃ cs,w.heap[a]?=Ve (.cells cs 200 (0,0)))(f:∃ cs,w.heap[b]?=Ve (.cells cs 200 (0,0))):
  (binOp .eql 197 (.pointer (Ve ⟨b,0,Vd⟩)) (.pointer (Ve ⟨a,0,Vd⟩))).run prog w=.ok (.bool (b==a)) w:=by
 obtain⟨j,c⟩:∃ j,prog.info? 200=Ve j:=by
  cases h:prog.info? 200 with
  |none=>have:=Fm;rw[h] at this;cases this
  |some j=>exact⟨j,rfl⟩
 have m:j.size≠0:=by
  have:=Fm;rw[c] at this;simp at this;omega
 by_cases e:b=a
 ·subst e;rw[run_eql_ptr_same w _ underlying197 c];simp
 ·obtain⟨o,g⟩:=g;obtain⟨cb,f⟩:=f;rw[run_eql_ptr_other w (a:=⟨b,0,Vd⟩) (b:=⟨a,0,Vd⟩) underlying197 c m (by have:=e;simp) f g];simp[e]
theorem RP(A a b:U8)(w:Vh)(c:w.cell? ⟨A,0,Vd⟩=Ve (.pointer (Ve ⟨a,0,Vd⟩)))(g:∃ cs,w.heap[a]?=Ve (.cells cs 200 (0,0)))(f:∃ cs,w.heap[b]?=Ve (.cells cs 200 (0,0))):
  Vk prog 206 #[.pointer (Ve ⟨b,0,Vd⟩),.pointer (Ve ⟨A,0,Vd⟩)] w fun e w'=>e=.returned (.bool (b==a))/\w'=w:=by
 have h:=NF w a b g f;clear g f
 go_in
 go_wp2
 go_ret;exact⟨rfl,rfl⟩
theorem SQ{c:U8}{e:Vm}{g:U8}(h:w.ownsRow c e 1 (.slice (Ve ⟨g,0,Vd⟩) n cap) n xs)(D:i<=n):w.ownsRow c e 1 (.slice (Ve ⟨g,0,Vd⟩) i cap) i (xs.take i):=by
 obtain⟨E,z⟩:=h;refine⟨by rw[Yp];omega,?_⟩;rcases z with ⟨A,_⟩|⟨H,r,q,t,y,x,C,m,o,f⟩
 ·cases A
 ·cases t
  refine .inr ⟨g,cap,q,rfl,y,x,by omega,m,o,?_⟩;rw[<- f,List.take_take]
  congr 1
  omega
theorem Jz{c:U8}{e:Vm}{g n cap:U8}{xs:U5 Vi}:∀ (f:U5 Vi)(o:U8)(w:Vh),n<=o->w.ownsRow c e 1 (.slice (Ve ⟨g,0,Vd⟩) n cap) n xs->(w.setCells g o f).ownsRow c e 1 (.slice (Ve ⟨g,0,Vd⟩) n cap) n xs
 |[],_,_,_,h=>h
 |v :: r,o,w,ho,h=>by
  refine Jz r (o+1) _ UU ?_;have:=(h.stored o v).1
  rwa [List.set_eq_of_length_le (by have:=h.1;omega)] at this
theorem Jt{g:U8}:∀ (c:U5 Vi)(o:U8)(w:Vh),aF [g] w (w.setCells g o c)
 |[],_,_=>aF.refl _ _
 |v :: r,o,w=>(aF.aY g w o v).trans (Jt r (o+1) _)
structure oE(L:U5 U8)(p:U8->U7)(i j:U8)(M:U5 U8):Prop where
 len:M.length=L.length
 ij:i<j
 jl:j<=L.length
 lo:M.take i=(L.take j).filter fun b=>!p b
 hi:∀ k,j<=k->M[k]?=L[k]?
theorem oE.skip{L:U5 U8}(h:oE L p i j M)(f:j<L.length)(c:p L[j]=Vg):oE L p i (j+1) M:=by
 refine⟨h.len,by have:=h.ij;omega,by omega,?_,fun k g=>h.hi k UU⟩;rw[h.lo,Wg f,VP];simp[c]
theorem oE.gk{L:U5 U8}(h:oE L p i j M)(g:j<L.length)(c:p L[j]=Vf):oE L p (i+1) (j+1) (M.set i L[j]):=by
 have m:=h.ij;have f:=h.len;refine⟨by simpa using f,by omega,by omega,?_,fun k o=>?_⟩
 ·rw[Wg g,VP,<- h.lo,Wg U0,List.take_set_of_le (zq _)];simp[c]
 ·rw[List.getElem?_set_ne UU];exact h.hi k UU
theorem oE.new{L:U5 U8}(h:k<L.length)(g:p L[k]=Vg)(o:∀ (j:U8)(f:j<k),p (L[j]'UU)=Vf):oE L p k (k+1) L:=by
 refine⟨rfl,by omega,by omega,?_,fun _ _=>rfl⟩;rw[Wg h,VP];simp only[g,VQ,Bool.not_true,Vx,if_false,List.filter_nil,X5];refine (XG.2 (fun b m=>?_)).symm;obtain⟨j,f,rfl⟩:=XZ m;have c:j<k:=by rw[Yp] at f;omega
 simp[o j c]
def C0(fn:U8)(cs:U5 Vi):Prop:=(fn=107/\cs=[])\/(fn=206/\∃ A:U8,cs=[.pointer (Ve ⟨A,0,Vd⟩)])
def Da(fn:U8)(cs:U5 Vi)(w:Vh)(L:U5 U8)(p:U8->U7):Prop :=
 ∀ b∈L,Vk prog fn (.pointer (Ve ⟨b,0,Vd⟩) :: cs).toArray w fun e w'=>e=.returned (.bool (p b))/\w'=w
theorem Kp(K:C0 fn cs)(L:U5 U8)(p:U8->U7)(v:Vi)(w:Vh)(ht:Da fn cs w L p)(own:w.ownsRow 0 197 1 v L.length (L.map jw))(O:L.length<=1000):
  Vk prog 160 #[v,.func (.func fn) #[] cs.toArray] w fun e w'=>e=.returned (.int .i64 (eO p L 0))/\w'=w:=by
 have I:∃ a cap,v=.slice a L.length cap:=by
  rcases own.2 with ⟨rfl,h⟩|⟨g,cap,_,rfl,_⟩
  ·rw[h];exact⟨_,_,rfl⟩
  ·exact⟨_,_,rfl⟩
 obtain⟨a,cap,rfl⟩:=I;have q:=aC own;have N:=aC ht;clear own ht;rcases K with ⟨rfl,rfl⟩|⟨rfl,A,rfl⟩
 all_goals
  go_in
  go_wp2_with fail
  go_loop [8] (fun i=>∃ k:U8,k<=L.length/\i=.int .i64 k/\eO p L 0=eO p (L.drop k) k) (fun i=>L.length-(intOf i).toNat)
  case atStart=>exact⟨0,Wh _,rfl,rfl⟩
  case round =>
   obtain⟨j,P,rfl,y⟩:=hrel;have x:=aC y;clear y
   by_cases c:j<L.length
   ·have J:(j:U9)<(L.length:U9):=UU
    obtain⟨H,D,C⟩:=Yq q.out UU;simp only[Yr,true_and] at C;obtain⟨rfl,rfl⟩:=C;have t:=q.out.cellAt j UU;rw[Ys,Xb c,Yt] at t;unfold jw at t;have m:=aC (N.out L[j] (zg c));have z:eO p (L.drop j) j=if p L[j] then (j:U9) else eO p (L.drop (j+1)) ((j+1:U8):U9):=by rw[WQ c];rfl
    have E:=aC z;clear z
    cases f:p L[j]
    ·have r:Hid (eO p L 0=eO p (L.drop (j+1)) ((j+1:U8):U9)):=by show _=_;rw[x.out,E.out,f];rfl
     rw[f] at m;clear f
     go_wp2_with fail
     refine m.out.mono ?_;rintro e w1 ⟨rfl,o⟩;rw[o];clear t m o
     go_wp2
     go_round
     case rel=>exact⟨j+1,by omega,by go_num,r.out⟩
     case measure=>simp[intOf];omega
    ·have r:Hid (eO p L 0=j):=by show _=_;rw[x.out,E.out,f];rfl
     rw[f] at m;clear f
     go_wp2_with fail
     refine m.out.mono ?_;rintro e w1 ⟨rfl,o⟩;rw[o];clear t m o
     go_wp2
     go_ret;exact⟨gL r.out.symm,rfl⟩
   ·have J:¬ (j:U9)<(L.length:U9):=UU
    have e:L.drop j=[]:=WS UU;have r:Hid (eO p L 0=-1):=by show _=_;rw[x.out,e];rfl
    clear e
    go_wp2
    go_ret;exact⟨gL r.out.symm,rfl⟩
theorem Dc(P:C0 fn cs)(L:U5 U8)(p:U8->U7)(v:Vi)(w:Vh)(ht:∀ wx,aF v.ownBlock.toList w wx->Da fn cs wx L p)(own:w.ownsRow 0 197 1 v L.length (L.map jw))(hl:L.length<=1000):
  Vk prog 106 #[v,.func (.func fn) #[] cs.toArray] w fun e w'=>∃ v',e=.returned v'/\aF v.ownBlock.toList w w'/\w'.ownsRow 0 197 1 v' (L.filter fun b=>!p b).length ((L.filter fun b=>!p b).map jw)/\v'.ownBlock=v.ownBlock:=by
 have K:=aC (Kp P L p v w (ht w (aF.refl _ _)) own hl);have g:=vF p L 0;rcases P with ⟨rfl,rfl⟩|⟨rfl,A,rfl⟩
 all_goals
  go_in
  go_wp2_with fail
  refine K.out.mono ?_;rintro e w1 ⟨rfl,rfl⟩;rcases g with ⟨o,m⟩|⟨k,hk,o,m,S⟩
  ·rw[o];have R:(L.filter fun b=>!p b)=L:=XG.2 (fun b hb=>by simp[m b hb]);have D:Hid (w1.ownsRow 0 197 1 v (L.filter fun b=>!p b).length ((L.filter fun b=>!p b).map jw)):=by show w1.ownsRow _ _ _ _ _ _;rw[R];exact own
   clear o m R K ht own
   go_wp2
   go_ret;exact⟨v,rfl,aF.refl _ _,D.out,rfl⟩
  ·have x:0<L.length:=UU
   obtain⟨H,cap,J⟩:=Yq own x;subst J;rw[o,Int.zero_add];have D0:=aC (oE.new hk m S);have C:=aC own;have Y:=aC ht;have w3:Vp.wrap ((k:U9)+1)=((k+1:U8):U9):=by rw[cG UU UU];omega
   have aa:((k:U9)==-1)=Vf:=UV
   clear o m S K ht own
   go_wp2_with fail
   go_loopw [5,6,7] (fun vi E _ wx=>∃ (i j:U8) (M:U5 U8),vi=.int .i64 i/\E=.int .i64 j/\oE L p i j M/\aF [H] w1 wx/\wx.ownsRow 0 197 1 (.slice (Ve ⟨H,0,Vd⟩) L.length cap) L.length (M.map jw)) (fun _ E _ _=>L.length-(intOf E).toNat)
   case atStart=>exact⟨k,k+1,L,rfl,rfl,D0.out,aF.refl _ _,C.out⟩
   case round =>
    obtain⟨i,j,M,rfl,rfl,h,y,c⟩:=hrel;have ad:=h.ij;have ac:=h.jl;have ab:=h.len;have q:=aC (zA h (zA y c))
    by_cases f:j<L.length
    ·have hj:(j:U9)<(L.length:U9):=UU
     have hi:(i:U9)<(L.length:U9):=UU
     have V:=c.cellAt j UU;rw[Ys,h.hi j (zq _),Xb f,Yt] at V;have U:=c.cellAt i UU;rw[Ys,Xb UU,Yt] at U;have f0:=c.frozenAt i;unfold jw at V U;have r:=aC (Y.out wr y L[j] (zg f));have wi:Vp.wrap ((i:U9)+1)=((i+1:U8):U9):=by rw[cG UU UU];omega
     have wj:Vp.wrap ((j:U9)+1)=((j+1:U8):U9):=by rw[cG UU UU];omega
     clear y h
     cases g:p L[j]
     ·have N:=aC (q.out.1.gk f g);have W:=aC ((c.stored i (jw L[j])).1);have X:=aC (q.out.2.1.trans (aF.aY H wr i (jw L[j])));rw[g] at r;unfold jw at W X;clear g c
      go_wp2_with fail
      refine r.out.mono ?_;rintro e w2 ⟨rfl,c⟩;rw[c];clear r c
      go_wp2
      go_roundw
      case rel=>exact⟨i+1,j+1,M.set i L[j],rfl,rfl,N.out,X.out,by rw[Yc];exact W.out⟩
      case measure=>simp[intOf];omega
     ·have N:=aC (q.out.1.skip f g);rw[g] at r;clear g c
      go_wp2_with fail
      refine r.out.mono ?_;rintro e w2 ⟨rfl,c⟩;rw[c];clear r c
      go_wp2
      go_roundw
      case rel=>exact⟨i,j+1,M,rfl,rfl,N.out,q.out.2.1,q.out.2.2⟩
      case measure=>simp[intOf];omega
    ·have hj:¬ ((j:U9)<(L.length:U9)):=UU
     have z:j=L.length:=UU
     have O:L.length<=cap:=by
      rcases c.2 with ⟨h0,_⟩|⟨g',T,ai,J,_,_,h1,_⟩
      ·cases h0
      ·cases J;exact h1
     have ag:∀ I,(Builtin.clear_ #[139] I #[.slice (Ve ⟨H,i,Vd⟩) (L.length-i) (cap-i)]).run prog wr=.ok (.tuple #[]) (wr.setCells H i (Yu (L.length-i) (.pointer Vd))) :=
      fun I=>Lib.run_clear_slice wr _ _ I (.pointer Vd) underlying139 (fun w=>by simp[go_sem]) rfl rfl H i _ _ UU (fun t ht=>by rw[c.cellAt (i+t) UU];simp;omega) (fun t ht=>c.frozenAt (i+t))
     have ae:(i:U9)<=(L.length:U9):=UU
     have af:(i:U9)<=(cap:U9):=UU
     have D:Hid (aF [H] w1 (wr.setCells H i (Yu (L.length-i) (.pointer Vd)))/\(wr.setCells H i (Yu (L.length-i) (.pointer Vd))).ownsRow 0 197 1 (.slice (Ve ⟨H,0,Vd⟩) i cap) (L.filter fun b=>!p b).length ((L.filter fun b=>!p b).map jw)):=by
      have o:(L.filter fun b=>!p b)=M.take i:=by rw[h.lo,z,Wi (zq _)]
      have m:(M.take i).length=i:=by rw[Yp];omega
      refine⟨y.trans (Jt _ _ _),?_⟩;rw[o,m,List.map_take];exact Jz _ i wr (zq _) (SQ c UU)
     clear h y c q Y C D0 z
     go_wp2
     go_ret;exact⟨_,rfl,D.out.1,D.out.2,rfl⟩
def qT(c:aW):Prop:=c=.me\/c=.wa\/c=.desk\/∃ i,c=.aT i
def Ha(w:Vh)(d:U8)(r:Raw)(f:U8->U6 aW)(g:EG)(i:U8)(h:i<r.tg.length)(w':Vh):Prop :=
 ∃ c,DK w' d ({ r with eg:=eQ g.e.id r.eg }.cW i (r.tg[i].with (bZ r.tg[i].A g.e.aK (-g.e.aH)) (jx g.e.id r.tg[i].T g.e.aK))) c/\Step qT w.heap.size f c w w'
theorem Px(w:Vh):(zeroValue 197).run prog w=.ok (.pointer Vd) w:=by simp[go_sem]
theorem RQ{r:Raw}{o:U8->U6 aW}(h:DK w d r o){g:EG}(hg:g∈r.eg)(hk:g.e.kind≠3)(i:U8)(S:i<r.tg.length)(ht:g.tb=r.tg[i].tb)(hf:Fit r.tg[i] g.e)(ho:aE.Ord (aE.bS r.tg[i].T))(hz:aE.size r.tg[i].T<=9000)(hA:∀ p,0<=bZ r.tg[i].A g.e.aK (-g.e.aH) p)(ab:0<=g.e.id/\g.e.id<=1000):
  Vk prog 150 #[.pointer (Ve ⟨d,0,Vd⟩),.pointer (Ve ⟨g.eb,0,Vd⟩)] w fun e w'=>e=.returned (.tuple #[])/\Ha w d r o g i S w':=by
 have V:Vj w.heap.size w (w.alloc (.cells #[.pointer (Ve ⟨g.eb,0,Vd⟩)] 197)):=(zr _ _).alloc (zq _) _;have E:=h.later V;have R:(w.alloc (.cells #[.pointer (Ve ⟨g.eb,0,Vd⟩)] 197)).cell? ⟨w.heap.size,0,Vd⟩=Ve (.pointer (Ve ⟨g.eb,0,Vd⟩)):=UV
 have D:w.heap.size<(w.alloc (.cells #[.pointer (Ve ⟨g.eb,0,Vd⟩)] 197)).heap.size:=UV
 have I:o w.heap.size=Vd:=by
  cases e:o w.heap.size with
  |none=>rfl
  |some c=>have:=h.lt _ _ e;omega
 have z:=aC (zA V (zA D I));clear h V D I
 go_in
 go_upto_region 1 with fail
 generalize (w.alloc (.cells #[.pointer (Ve ⟨g.eb,0,Vd⟩)] 197))=X at E R z ⊢;obtain⟨g1,O,K⟩:=E.en g hg;obtain⟨m,f,a1,a2,a3,a4⟩:=E.me;have c0:=g1.en.c0;have aa:(g.e.kind != 3)=Vg:=by simpa using hk
 have kk:=xS (n:=g.e.id) UU UU;obtain⟨w1,H,p1,p2⟩:=(a3.block (w':=X.drew) rfl).lQ xI underlying138 kk 0;have y:=E.later (dM X);have DD:=aC (y.uR a1 a2 a4 g.e.id p1 p2);have P:=aC (DD.out.2.uJ (y.en g hg).1 (.inl ⟨_,O,by simp⟩) (.inl ⟨_,K,by simp⟩));have ac:=P.out.k;have J:=P.out.en.c1;have x:w1.cell? ⟨w.heap.size,0,Vd⟩=Ve (.pointer (Ve ⟨g.eb,0,Vd⟩)):=(zo (w:=X) (DD.out.2.bV z.out.2.1 z.out.2.2 z.out.2.1)).trans R;clear E y a3 p1 p2 a4
 go_big_region
 clear H R a1 c0;have W:w.heap.size<w1.heap.size:=Vr _ _ x;have t:=aC (zA z.out.2.2 W);have XB:=aC z.out.1;have Y:=aC (zA O K);have RL:=aC (fun wx (k:Vj w1.heap.size w1 wx)=>TU (DD.out.1.later k) i S (P.out.off (G:=[]) (aF.aD k) UV UV) ht (by rw[O];simp) (by rw[K];simp) hf ho hz hA);clear g1 O K hf ho hz hA z kk a2 ht;generalize w.heap.size=N at x t ⊢
 have AF:Hid (∀ w2 q,Step (·=.aT i) w1.drew.heap.size o q w1.drew w2->w2.cell? ⟨N,0,Vd⟩=Ve (.pointer (Ve ⟨g.eb,0,Vd⟩))/\w2.cell? ⟨g.eb,2,Vd⟩=Ve (.pointer (Ve ⟨g.tb,0,Vd⟩))):=fun w2 q C =>
  ⟨(zo (w:=w1) (C.bV t.out.2 t.out.1 t.out.2)).trans x,C.nO Y.out.1 UV J⟩
 go_upto_region 3 with fail
 go_region_held3 (fun w'=>w'.cell? ⟨N,0,Vd⟩=Ve (.pointer (Ve ⟨g.eb,0,Vd⟩))/\w'.cell? ⟨g.eb,2,Vd⟩=Ve (.pointer (Ve ⟨g.tb,0,Vd⟩)))
  (first
   |exact⟨x,J⟩
   |exact AF.out _ _ C)
  (first
   |(go_at_call 205;refine (RL.out _ (dM w1)).mono ?_;rintro e w2 ⟨rfl,q,q1,C⟩))
 have HF:Hid (Ha w d r o g i S w2):=by
  have t0:Step qT w.heap.size o o w X:=Step.below XB.out;have t1:Step qT w.heap.size o o w w1:=t0.trans ((Step.below (dM X)).trans (DD.out.2.mono (fun c U=>.inl U) t0.size));have t2:Step qT w.heap.size o o w w1.drew:=t1.trans (Step.below (dM w1));exact⟨q,q1,t2.trans (C.mono (fun c U=>.inr (.inr (.inr ⟨i,U⟩))) t2.size)⟩
 clear q1 C RL DD P
 go_wp2_with fail
 (try simp only[Exit.inBlock,Exit.then]);refine bodyPost_ret (results_none rfl _ _ _) rfl ?_
 exact⟨rfl,HF.out⟩
def Ir(w:Vh)(d:U8)(r:Raw)(f:U8->U6 aW)(g:EG)(w':Vh):Prop :=
 ∃ c,DK w' d { r with eg:=eQ g.e.id r.eg,wl:=r.wl.filter fun b=>!(b==g.eb) } c/\Step qT w.heap.size f c w w'
theorem RT{r:Raw}{q:U8->U6 aW}(h:DK w d r q){g:EG}(P:g∈r.eg)(hk:g.e.kind=3)(ac:0<=g.e.id/\g.e.id<=1000)(K:∀ b∈r.wl,∃ x∈r.eg,x.eb=b)(Y:r.wl.length<=1000):
  Vk prog 150 #[.pointer (Ve ⟨d,0,Vd⟩),.pointer (Ve ⟨g.eb,0,Vd⟩)] w fun e w'=>e=.returned (.tuple #[])/\Ir w d r q g w':=by
 have hX:Vj w.heap.size w (w.alloc (.cells #[.pointer (Ve ⟨g.eb,0,Vd⟩)] 197)):=(zr _ _).alloc (zq _) _;have t:=h.later hX;have V:(w.alloc (.cells #[.pointer (Ve ⟨g.eb,0,Vd⟩)] 197)).cell? ⟨w.heap.size,0,Vd⟩=Ve (.pointer (Ve ⟨g.eb,0,Vd⟩)):=UV
 have J:w.heap.size<(w.alloc (.cells #[.pointer (Ve ⟨g.eb,0,Vd⟩)] 197)).heap.size:=UV
 have R:q w.heap.size=Vd:=by
  cases e:q w.heap.size with
  |none=>rfl
  |some c=>have:=h.lt _ _ e;omega
 have E:=aC (zA hX (zA J R));clear h hX J R
 go_in
 go_upto_region 1 with fail
 generalize (w.alloc (.cells #[.pointer (Ve ⟨g.eb,0,Vd⟩)] 197))=X at t V E ⊢;obtain⟨g1,g2,g3⟩:=t.en g P;obtain⟨m,f,a1,a2,a3,a4⟩:=t.me;have c0:=g1.en.c0;have ab:(g.e.kind != 3)=Vf:=by simpa using hk
 have kk:=xS (n:=g.e.id) UU UU;obtain⟨w1,O,p1,p2⟩:=(a3.block (w':=X.drew) rfl).lQ xI underlying138 kk 0;have y:=t.later (dM X);have DD:=aC (y.uR a1 a2 a4 g.e.id p1 p2);have EC:Hid (∀ x∈r.eg,q x.eb=Ve .ent):=fun x t=>(y.en x t).2.1
 have H:Hid (∀ x∈r.eg,gR w1 x):=(fun x t=>DD.out.2.uJ (y.en x t).1 (.inl ⟨_,(y.en x t).2.1,by simp⟩) (.inl ⟨_,(y.en x t).2.2,by simp⟩));have ae:=(H.out g P).k;have I:w1.cell? ⟨w.heap.size,0,Vd⟩=Ve (.pointer (Ve ⟨g.eb,0,Vd⟩)):=(zo (w:=X) (DD.out.2.bV E.out.2.1 E.out.2.2 E.out.2.1)).trans V;clear t y a3 p1 p2 a4
 go_big_region
 clear O V a1 c0;have aa:w.heap.size<w1.heap.size:=Vr _ _ I;have A:=aC (zA E.out.2.2 aa);have XB:=aC E.out.1;clear g1 g2 g3 E kk a2;obtain⟨v,c4,own,z⟩:=DD.out.1.wa;have f4:=DD.out.1.fz 4;have D:w.heap.size ∉ v.ownBlock.toList:=fun e=>by have:=z _ (WW.1 e);rw[A.out.1] at this;cases this
 have N:d ∉ v.ownBlock.toList:=fun e=>by have:=z _ (WW.1 e);rw[DD.out.1.dc] at this;cases this
 have C:∀ x∈r.eg,x.eb ∉ v.ownBlock.toList:=fun x t e=>by
  have h1:=z _ (WW.1 e);have h2:=EC.out x t;rw[h2] at h1;cases h1
 have DL:=aC (Dc (.inr ⟨rfl,w.heap.size,rfl⟩) r.wl (fun b=>b==g.eb) v w1 (fun wx k b hb=>by
  obtain⟨x,t,rfl⟩:=K b hb
  have b1:∃ cs,wx.heap[g.eb]?=Ve (.cells cs 200 (0,0)):=by
   obtain⟨cs,e⟩:=(H.out g P).bl;exact⟨cs,(k.block _ (H.out g P).lt (C g P)).trans e⟩
  have b2:∃ cs,wx.heap[x.eb]?=Ve (.cells cs 200 (0,0)):=by
   obtain⟨cs,e⟩:=(H.out x t).bl;exact⟨cs,(k.block _ (H.out x t).lt (C x t)).trans e⟩
  exact RP w.heap.size g.eb x.eb wx (k.cell D I) b1 b2) own Y)
 have U:=aC (zA z (zA D N));clear own z D N C K
 go_wp2_with fail
 refine DL.out.mono ?_;rintro e w2 ⟨v',rfl,T,W,k3⟩
 obtain⟨va,vn,vc,rfl⟩:∃ a n cap,v'=.slice a n cap:=by
  rcases W.2 with ⟨e,_⟩|⟨_,_,_,e,_⟩
  ·exact⟨_,_,_,e⟩
  ·exact⟨_,_,_,e⟩
 have af:=T.cell U.out.2.2 c4;have ad:=(T.frozen (o:=4) U.out.2.2 (Vr _ _ c4)).trans f4;have SW:=aC (DD.out.1.jg U.out.1 T W (fun b hb=>.inl (by rw[<- k3];exact hb)));clear T W k3 DL c4 f4 H
 have HF:Hid (Ir w d r q g (w2.setCell ⟨d,4,Vd⟩ (.slice va vn vc))):=by
  have t0:Step qT w.heap.size q q w X:=Step.below XB.out;have t1:Step qT w.heap.size q q w w1:=t0.trans ((Step.below (dM X)).trans (DD.out.2.mono (fun c hc=>.inl hc) t0.size));obtain⟨S,q1,q2⟩:=SW.out;exact⟨S,q1,t1.trans (q2.mono (fun c hc=>by rcases hc with e|e;exact .inr (.inl e);exact .inr (.inr (.inl e))) t1.size)⟩
 clear DD SW U A XB
 go_wp2
 go_end0
 exact⟨rfl,HF.out⟩
open aA (aL St dB kept dZ cS cN gD cA bW gJ Inv)
def iX(c:U5 EG)(id:U9):U8:=(gv c id).getD 0
theorem Br{c:U5 EG}(f:(c.map (·.e.id)).Nodup){g:EG}(h:g∈c):iX c g.e.id=g.eb:=by unfold iX;rw[H6 f h];rfl
structure Of(s:St)(r:Raw):Prop where
 now:r.now=s.now
 given:r.given=s.given
 ts:r.tg.map (fun t=>(t.name,t.aH))=s.ts
 es:r.eg.map (·.e)=s.es
 th:∀ (i:U8) (h:i<r.tg.length),r.tg[i].A=cN r.tg[i].name s.es/\gD r.tg[i].name s.es (iX r.eg) r.tg[i].T
 tb:∀ g∈r.eg,∃ (i:U8) (h:i<r.tg.length),r.tg[i].name=g.e.aT/\g.tb=r.tg[i].tb
def Wl(r:Raw):Prop:=r.wl=(r.eg.filter fun g=>g.e.kind==3).map (·.eb)
def kP(g:EG):Hp.Hi:=⟨g.e.bY,g.e.id,g.eb⟩
def Hl(r:Raw):Prop:=Hp.gH r.hl/\r.hl.Perm ((r.eg.filter fun g=>g.e.kind != 1).map kP)
theorem Of.mem{r:Raw}(h:Of s r){g:EG}(c:g∈r.eg):g.e∈s.es:=by rw[<- h.es];exact Wm.2 ⟨g,c,rfl⟩
theorem Of.get{r:Raw}(h:Of s r)(c:e∈s.es):∃ g∈r.eg,g.e=e:=by rw[<- h.es] at c;exact Wm.1 c
theorem Of.len{r:Raw}(h:Of s r):r.tg.length=s.ts.length:=by rw[<- h.ts];simp
theorem Of.jS{r:Raw}(h:Of s r)(c:i<r.tg.length):s.ts[i]'(by rw[<- h.len];exact c)=(r.tg[i].name,r.tg[i].aH):=by
 have e:(r.tg.map fun t=>(t.name,t.aH))[i]'(by simpa using c)=(r.tg[i].name,r.tg[i].aH):=UV
 rw[<- e]
 congr 1
 exact h.ts.symm
theorem Cd(g:ts.Pairwise fun t u=>bW t.1 u.1=Vf):∀ {i:U8}(f:i<ts.length),aA.bJ ts[i].1 ts=ts[i].2:=by
 induction ts with
 |nil=>intro i f;simp at f
 |cons t ts ih =>
  intro i f;rw[VO] at g
  cases i with
  |zero=>simp[aA.bJ,aA.qY]
  |succ i =>
   have c:i<ts.length:=by simpa using f
   have:=g.1 ts[i] (zg c);simp only[List.getElem_cons_succ,aA.bJ,this];exact ih g.2 c
theorem vZ(h:∀ t∈ts,t.1≠name):aA.bJ name ts=0:=by
 induction ts with
 |nil=>rfl
 |cons t ts ih =>
  have c:bW t.1 name=Vf:=pT.2 (h t UV);simp only[aA.bJ,c];exact ih (fun t ht=>h t (by simp[ht]))
theorem Of.names{r:Raw}(h:Of s r)(x:s.ts.Pairwise fun t u=>bW t.1 u.1=Vf)(q:i<r.tg.length)(o:j<r.tg.length)(e:r.tg[i].name=r.tg[j].name):i=j:=by
 have c:∀ {a b:U8}(m:a<r.tg.length) (f:b<r.tg.length),a<b->r.tg[a].name≠r.tg[b].name:=by
  intro a b m f g;have:=XY.1 x a b (by rw[<- h.len];exact m) (by rw[<- h.len];exact f) g;rw[h.jS m,h.jS f] at this;exact pT.1 this
 by_cases z:i<j
 ·exact Vc e (c q o z)
 ·by_cases y:j<i
  ·exact Vc e.symm (c o q y)
  ·omega
theorem Cw(h:gJ L):(L.map (·.1)).Nodup:=by
 unfold gJ at h;rw[Yv,XV];exact h.imp (fun c=>by omega)
theorem Hj{at_:U9->U8}{T:aE.S}{eb:U8}(h:gD name es at_ T)(y:gJ L)(g:∀ e∈es,cA name e=Vg->e.id≠id)
  (t:∀ z:aE.It,(∃ e∈es',cA name e=Vg/\∃ s∈e.aK,z=⟨s.1,s.2,e.id,at' e.id⟩)↔(∃ e∈es,cA name e=Vg/\∃ s∈e.aK,z=⟨s.1,s.2,e.id,at_ e.id⟩)\/∃ s∈L,z=jG id eb s):
  gD name es' at' (gn id eb T L)/\(∀ z∈aE.bS T,z.n=id->∀ s∈L,z.f≠s.1):=by
 have c:∀ z∈aE.bS T,z.n=id->∀ s∈L,z.f≠s.1:=by
  intro z q e;obtain⟨x,r,A,s,_,rfl⟩:=(h.2 z).1 q;exact Vc e (g x r A)
 obtain⟨o,_,m,_⟩:=Bh id eb L T h.1 c (Cw y);exact⟨⟨o,fun z=>by rw[m,h.2];exact (t z).symm⟩,c⟩
theorem RI{at_:U9->U8}{T:aE.S}{e0:aL}(h:gD name es at_ T)(o:dB es)(A:e0∈es)(g:∀ e∈es,e.id≠e0.id->at' e.id=at_ e.id):
  gD name (kept e0.id es) at' (jx e0.id T e0.aK):=by
 obtain⟨x,r,_⟩:=Bu e0.id e0.aK T h.1;refine⟨x,fun z=>?_⟩;rw[r,XF,h.2];constructor
 ·rintro ⟨⟨e,f,q,s,m,rfl⟩,y⟩
  have c:e.id≠e0.id:=by
   intro C;have:e=e0:=o.one f A C;subst this;have:=Xf.1 y s m;simp[aE.na] at this
  exact⟨e,aA.sK.2 ⟨f,c⟩,q,s,m,by rw[g e f c]⟩
 ·rintro ⟨e,f,q,s,m,rfl⟩;obtain⟨f,c⟩:=aA.sK.1 f;refine⟨⟨e,f,q,s,m,by rw[g e f c]⟩,?_⟩;rw[Xf];intro t _;simp[aE.na,c]
theorem vT{at_:U9->U8}{T:aE.S}(h:gD name es at_ T)(q:∀ e,cA name e=Vg->(e∈es'↔e∈es))(g:∀ e∈es,cA name e=Vg->at' e.id=at_ e.id):gD name es' at' T:=by
 refine⟨h.1,fun z=>?_⟩;rw[h.2];constructor
 ·rintro ⟨e,m,c,s,o,rfl⟩;exact⟨e,(q e c).2 m,c,s,o,by rw[g e m c]⟩
 ·rintro ⟨e,m,c,s,o,rfl⟩;have f:=(q e c).1 m;exact⟨e,f,c,s,o,by rw[g e f c]⟩
theorem Of.turn{r:Raw}(h:Of s r)(H:s.ts.Pairwise fun t u=>bW t.1 u.1=Vf)(z:i<r.tg.length){c:U5 EG}{o:U5 U7->U9}{T':aE.S}(J:c.map (·.e)=es')(P:o=cN r.tg[i].name es')(O:gD r.tg[i].name es' (iX c) T')
  (N:∀ (name:U4) (T:aE.S),name≠r.tg[i].name->cN name es'=cN name s.es/\(gD name s.es (iX r.eg) T->gD name es' (iX c) T)) (K:∀ g∈c,∃ (i:U8) (h:i<r.tg.length),r.tg[i].name=g.e.aT/\g.tb=r.tg[i].tb):
  Of { s with es:=es' } ({ r with eg:=c }.cW i (r.tg[i].with o T')):=by
 have f:({ r with eg:=c }.cW i (r.tg[i].with o T')).tg.length=r.tg.length:=by simp[Raw.cW]
 have m:∀ (j:U8) (q:j<r.tg.length),(({ r with eg:=c }.cW i (r.tg[i].with o T')).tg[j]'(by rw[f];exact q)).name=r.tg[j].name/\(({ r with eg:=c }.cW i (r.tg[i].with o T')).tg[j]'(by rw[f];exact q)).tb=r.tg[j].tb:=by
  intro j q
  by_cases e:i=j
  ·subst e;simp[Raw.cW,TG.with]
  ·simp[Raw.cW,e]
 refine⟨h.now,h.given,?_,J,fun j q=>?_,fun g I=>?_⟩
 ·rw[<- h.ts];show (r.tg.set i (r.tg[i].with o T')).map _=_;rw[Yc];have:((r.tg[i].with o T').name,(r.tg[i].with o T').aH)=(r.tg.map fun t=>(t.name,t.aH))[i]'(by simpa using z):=by simp[TG.with]
  rw[this,Yd]
 ·have x:j<r.tg.length:=by rw[<- f];exact q
  by_cases e:i=j
  ·subst e;have y:({ r with eg:=c }.cW i (r.tg[i].with o T')).tg[i]=r.tg[i].with o T':=by simp[Raw.cW]
   rw[y];exact⟨P,O⟩
  ·have y:({ r with eg:=c }.cW i (r.tg[i].with o T')).tg[j]=r.tg[j]:=by simp[Raw.cW,e]
   rw[y];obtain⟨E,D⟩:=N r.tg[j].name r.tg[j].T (fun R=>e (h.names H z x R.symm));obtain⟨C,A⟩:=h.th j x;exact⟨C.trans E.symm,D A⟩
 ·obtain⟨j,q,U,y⟩:=K g I;exact⟨j,by rw[f];exact q,(m j q).1.trans U,y.trans (m j q).2.symm⟩
theorem Td(id:U9)(c:U5 EG):(fW id 1 0 c).map (·.e)=dZ id (c.map (·.e)):=by
 unfold fW dZ;rw[Yg,Yg];apply Yh;intro g _;simp only[Yi]
 split <;> rfl
theorem GL(id:U9)(c:U5 EG):(eQ id c).map (·.e)=kept id (c.map (·.e)):=by
 unfold eQ kept;rw[Yw];rfl
theorem Ua{c f:U9}{g:U5 EG}{x:EG}(h:x∈fW id c f g):∃ y∈g,x.eb=y.eb/\x.tb=y.tb/\x.e.aT=y.e.aT/\x.e.id=y.e.id:=by
 obtain⟨y,m,rfl⟩:=Wm.1 h;refine⟨y,m,?_⟩
 split <;> exact⟨rfl,rfl,rfl,rfl⟩
theorem I4(id c f:U9)(eg:U5 EG):iX (fW id c f eg)=iX eg:=by funext x;unfold iX;rw[GW]
theorem Of.book{r:Raw}(h:Of s r)(hp:s.ts.Pairwise fun t u=>bW t.1 u.1=Vf)(D:dB s.es)(S:(r.eg.map (·.e.id)).Nodup){g:EG}(P:g∈r.eg)(U:g.e.kind=3)(hr:gJ g.e.aK)(V:i<r.tg.length)(c:r.tg[i].name=g.e.aT):
  Of { s with es:=dZ g.e.id s.es } ({ r with eg:=fW g.e.id 1 0 r.eg }.cW i (r.tg[i].with (bZ r.tg[i].A g.e.aK g.e.aH) (gn g.e.id g.eb r.tg[i].T g.e.aK)))/\(∀ z∈aE.bS r.tg[i].T,z.n=g.e.id->∀ s∈g.e.aK,z.f≠s.1):=by
 obtain⟨Y,X⟩:=h.th i V;have I:=h.mem P
 have C:∀ (name:U4) (e:aL),e∈s.es->cA name e=Vg->e.id≠g.e.id:=by
  intro name e m o O;have:e=g.e:=D.one m I O;subst this;simp[cA,U] at o
 have R:cA r.tg[i].name (cS g.e)=Vg:=by rw[aA.v8,c];exact aA.qY _
 have W:=Hj (id:=g.e.id) (eb:=g.eb) (L:=g.e.aK) (es':=dZ g.e.id s.es) (at':=iX (fW g.e.id 1 0 r.eg)) X hr (fun e m o=>C _ e m o) (fun z=>by
  rw[I4];constructor
  ·rintro ⟨e,m,o,q,H,rfl⟩;rcases aA.wg.1 m with ⟨m,_⟩|⟨y,J,E,rfl⟩
   ·exact .inl ⟨e,m,o,q,H,rfl⟩
   ·have:y=g.e:=D.one J I E;subst this;exact .inr ⟨q,H,by unfold jG;rw[show (cS g.e).id=g.e.id from rfl,Br S P]⟩
  ·rintro (⟨e,m,o,q,H,rfl⟩|⟨q,H,rfl⟩)
   ·exact⟨e,aA.wg.2 (.inl ⟨m,C _ e m o⟩),o,q,H,rfl⟩
   ·exact⟨cS g.e,aA.wg.2 (.inr ⟨g.e,I,rfl,rfl⟩),R,q,H,by unfold jG;rw[show (cS g.e).id=g.e.id from rfl,Br S P]⟩)
 refine⟨h.turn hp V (by rw[Td,h.es]) ?_ W.1 (fun name T K=>⟨?_,fun hT=>?_⟩) (fun x hx=>?_),W.2⟩
 ·rw[Y];exact aA.Ji (by rw[c];exact aA.qY _) U D I
 ·refine aA.JD (fun e m O o=>?_);have:e=g.e:=D.one m I O;subst this;exact Vc (sL.1 o) (fun N=>K (by rw[c,N]))
 ·refine vT hT (fun e o=>?_) (fun e _ _=>by rw[I4]);constructor
  ·intro m;rcases aA.wg.1 m with ⟨m,_⟩|⟨y,J,E,rfl⟩
   ·exact m
   ·have:y=g.e:=D.one J I E;subst this;rw[aA.v8] at o;exact Vc (sL.1 o) (fun N=>K (by rw[c,N]))
  ·intro m;exact aA.wg.2 (.inl ⟨m,C name e m o⟩)
 ·obtain⟨y,J,O,N,e3,_⟩:=Ua hx;obtain⟨j,hj,q1,q2⟩:=h.tb y J;exact⟨j,hj,by rw[e3];exact q1,by rw[N];exact q2⟩
theorem Bq{c:U5 EG}(g:(c.map (·.e.id)).Nodup)(id x:U9)(f:x≠id):iX (eQ id c) x=iX c x:=by unfold iX;rw[GK g,Va f]
theorem Of.goes{r:Raw}(h:Of s r)(O:s.ts.Pairwise fun t u=>bW t.1 u.1=Vf)(o:dB s.es)(H:(r.eg.map (·.e.id)).Nodup){g:EG}(R:g∈r.eg)(P:g.e.kind≠3)(I:i<r.tg.length)(c:r.tg[i].name=g.e.aT):
  Of { s with es:=kept g.e.id s.es } ({ r with eg:=eQ g.e.id r.eg }.cW i (r.tg[i].with (bZ r.tg[i].A g.e.aK (-g.e.aH)) (jx g.e.id r.tg[i].T g.e.aK))):=by
 obtain⟨K,J⟩:=h.th i I;have z:=h.mem R;have C:cA r.tg[i].name g.e=Vg:=by simp[cA,c,aA.qY,P]
 refine h.turn O I (by rw[GL,h.es]) ?_ (RI J o z (fun e _ m=>Bq H _ _ m)) (fun name T m=>⟨?_,fun S=>?_⟩) (fun x N=>h.tb x (XF.1 N).1)
 ·rw[K];exact aA.Cc C o z
 ·refine aA.CJ (fun e f E=>?_);have:e=g.e:=o.one f z E;subst this;have:bW g.e.aT name=Vf:=pT.2 (fun D=>m (by rw[c,D]));simp[cA,this]
 ·have q:∀ e∈s.es,cA name e=Vg->e.id≠g.e.id:=fun e f y E=>by
   have:e=g.e:=o.one f z E;subst this;have:bW g.e.aT name=Vf:=pT.2 (fun D=>m (by rw[c,D]));simp[cA,this] at y
  exact vT S (fun e y=>⟨fun f=>(aA.sK.1 f).1,fun f=>aA.sK.2 ⟨f,q e f y⟩⟩) (fun e f y=>Bq H _ _ (q e f y))
theorem Of.uA{r:Raw}(h:Of s r)(m:dB s.es)(D:(r.eg.map (·.e.id)).Nodup){g:EG}(H:g∈r.eg)(y:g.e.kind=3):
  Of { s with es:=kept g.e.id s.es } { r with eg:=eQ g.e.id r.eg }:=by
 have t:=h.mem H
 have f:∀ (name:U4),∀ e∈s.es,cA name e=Vg->e.id≠g.e.id:=fun name e c o q=>by
  have:e=g.e:=m.one c t q;subst this;simp[cA,y] at o
 refine⟨h.now,h.given,h.ts,by rw[<- h.es];exact GL _ _,fun j E=>?_,fun x C=>h.tb x (XF.1 C).1⟩;obtain⟨A,z⟩:=h.th j E;refine⟨A.trans (aA.CJ (fun e c q=>?_)).symm,vT z (fun e o=>⟨fun c=>(aA.sK.1 c).1,fun c=>aA.sK.2 ⟨c,f _ e c o⟩⟩) (fun e c o=>Bq D _ _ (f _ e c o))⟩;have:e=g.e:=m.one c t q;subst this;simp[cA,y]
theorem ud{f:U5 EG}{g:EG}(c:∀ x∈f,x.e.id≠g.e.id)(x:U9):iX (f++[g]) x=if x=g.e.id then g.eb else iX f x:=by
 unfold iX;rw[GZ c];split <;> rfl
theorem Of.comes{r:Raw}(h:Of s r)(V:s.ts.Pairwise fun t u=>bW t.1 u.1=Vf){g:EG}(y:∀ x∈r.eg,x.e.id≠g.e.id)(W:g.e.kind≠3)(U:gJ g.e.aK)(O:i<r.tg.length)(m:r.tg[i].name=g.e.aT)(K:g.tb=r.tg[i].tb)(n:U9):
  Of { s with es:=s.es++[g.e],given:=n } ({ r with eg:=r.eg++[g],given:=n }.cW i (r.tg[i].with (bZ r.tg[i].A g.e.aK g.e.aH) (gn g.e.id g.eb r.tg[i].T g.e.aK)))/\(∀ z∈aE.bS r.tg[i].T,z.n=g.e.id->∀ s∈g.e.aK,z.f≠s.1):=by
 obtain⟨S,R⟩:=h.th i O;have I:cA r.tg[i].name g.e=Vg:=by simp[cA,m,aA.qY,W]
 have o:∀ e∈s.es,e.id≠g.e.id:=fun e c=>by obtain⟨x,C,rfl⟩:=h.get c;exact y x C
 have P:=Hj (id:=g.e.id) (eb:=g.eb) (L:=g.e.aK) (es':=s.es++[g.e]) (at':=iX (r.eg++[g])) R U (fun e c _=>o e c) (fun z=>by
  constructor
  ·rintro ⟨e,c,E,q,D,rfl⟩;rcases VB.1 c with c|c
   ·exact .inl ⟨e,c,E,q,D,by rw[ud y,Va (o e c)]⟩
   ·have:e=g.e:=by simpa using c
    subst this;exact .inr ⟨q,D,by unfold jG;rw[ud y,Vb rfl]⟩
  ·rintro (⟨e,c,E,q,D,rfl⟩|⟨q,D,rfl⟩)
   ·exact⟨e,by simp[c],E,q,D,by rw[ud y,Va (o e c)]⟩
   ·exact⟨g.e,by simp,I,q,D,by unfold jG;rw[ud y,Vb rfl]⟩)
 have J:Of { s with es:=s.es++[g.e] } ({ r with eg:=r.eg++[g] }.cW i (r.tg[i].with (bZ r.tg[i].A g.e.aK g.e.aH) (gn g.e.id g.eb r.tg[i].T g.e.aK))):=by
  refine h.turn V O (by rw[Wr,h.es];rfl) ?_ P.1 (fun name T N=>?_) (fun x C=>?_)
  ·rw[S];exact aA.Rh I
  ·have X:bW g.e.aT name=Vf:=pT.2 (fun e2=>N (by rw[m,e2]));have H:cA name g.e=Vf:=by simp[cA,X]
   refine⟨aA.Jm H,fun Y=>vT Y (fun e E=>?_) (fun e c _=>by rw[ud y,Va (o e c)])⟩;rw[VB];constructor
   ·rintro (c|c)
    ·exact c
    ·have:e=g.e:=by simpa using c
     subst this;rw[H] at E;cases E
   ·exact .inl
  ·rcases VB.1 C with C|C
   ·exact h.tb x C
   ·have:x=g:=by simpa using C
    subst this;exact⟨i,O,m,K⟩
 exact⟨⟨J.now,rfl,J.ts,J.es,J.th,J.tb⟩,P.2⟩
theorem Of.lu{r:Raw}(h:Of s r){g:EG}(t:∀ x∈r.eg,x.e.id≠g.e.id)(D:g.e.kind=3)(H:i<r.tg.length)(f:r.tg[i].name=g.e.aT)(y:g.tb=r.tg[i].tb)(n:U9):
  Of { s with es:=s.es++[g.e],given:=n } { r with eg:=r.eg++[g],given:=n }:=by
 have q:∀ e∈s.es,e.id≠g.e.id:=fun e m=>by obtain⟨x,c,rfl⟩:=h.get m;exact t x c
 refine⟨h.now,rfl,h.ts,by show (r.eg++[g]).map _=_;rw[Wr,h.es];rfl,fun j E=>?_,fun x c=>?_⟩
 ·obtain⟨C,A⟩:=h.th j E;have o:∀ name,cA name g.e=Vf:=fun name=>by simp[cA,D]
  refine⟨C.trans (aA.Jm (o _)).symm,vT A (fun e z=>?_) (fun e m _=>by show iX (r.eg++[g]) e.id=_;rw[ud t,Va (q e m)])⟩;show e∈s.es++[g.e]↔_;rw[VB];constructor
  ·rintro (m|m)
   ·exact m
   ·have:e=g.e:=by simpa using m
    subst this;rw[o] at z;cases z
  ·exact .inl
 ·rcases VB.1 c with c|c
  ·exact h.tb x c
  ·have:x=g:=by simpa using c
   subst this;exact⟨i,H,f,y⟩
theorem QY{eg:U5 EG}(f:(eg.map (·.e.id)).Nodup){g:EG}(q:g∈eg)(t:g.e.kind≠1):(eg.filter fun x=>x.e.kind != 1).Perm (g :: (fW g.e.id 1 0 eg).filter fun x=>x.e.kind != 1):=by
 induction eg with
 |nil=>simp at q
 |cons y eg ih =>
  rw[XS,VE] at f;rcases VA.1 q with rfl|c
  ·have z:fW g.e.id 1 0 eg=eg:=by
    unfold fW
    have:eg.map (fun x=>if x.e.id=g.e.id then { x with e:={ x.e with kind:=1,bY:=0 } } else x)=eg.map id:=by
     apply Yh;intro x r;rw[Va (fun e=>f.1 (Wm.2 ⟨x,r,e⟩))];rfl
    rw[this,Yx]
   have o:fW g.e.id 1 0 (g :: eg)={ g with e:={ g.e with kind:=1,bY:=0 } } :: eg:=by
    conv=>lhs;unfold fW;rw[XS,Vb rfl]
    conv=>rhs;rw[<- z]
    rfl
   rw[o,VQ,Vb (by simpa using t),VQ,Va UV]
  ·have m:y.e.id≠g.e.id:=fun e=>f.1 (Wm.2 ⟨g,c,e.symm⟩)
   have o:fW g.e.id 1 0 (y :: eg)=y :: fW g.e.id 1 0 eg:=by
    conv=>lhs;unfold fW;rw[XS,Va m]
    rfl
   rw[o];have ih:=ih f.2 c
   by_cases h:(y.e.kind != 1)=Vg
   ·rw[VQ,Vb h,VQ,Vb h];exact (ih.cons y).trans (.swap ..)
   ·rw[VQ,Va h,VQ,Va h];exact ih
theorem QZ{eg:U5 EG}(f:(eg.map (·.e.id)).Nodup){g:EG}(q:g∈eg)(p:EG->U7)(t:p g=Vg):(eg.filter p).Perm (g :: (eQ g.e.id eg).filter p):=by
 induction eg with
 |nil=>simp at q
 |cons y eg ih =>
  rw[XS,VE] at f;rcases VA.1 q with rfl|c
  ·have o:eQ g.e.id (g :: eg)=eg:=by
    unfold eQ;rw[VQ,Va UV];exact XG.2 (fun x r=>by simpa using fun e=>f.1 (Wm.2 ⟨x,r,e⟩))
   rw[o,VQ,Vb t]
  ·have m:y.e.id≠g.e.id:=fun e=>f.1 (Wm.2 ⟨g,c,e.symm⟩)
   have o:eQ g.e.id (y :: eg)=y :: eQ g.e.id eg:=by unfold eQ;rw[VQ,Vb (by simpa using m)]
   rw[o];have ih:=ih f.2 c
   by_cases h:p y=Vg
   ·rw[VQ,Vb h,VQ,Vb h];exact (ih.cons y).trans (.swap ..)
   ·rw[VQ,Va h,VQ,Va h];exact ih
theorem Ja{c:U5 EG}(m:(c.map (·.e.id)).Nodup){g:EG}(o:g∈c)(p:EG->U7)(h:p g=Vf):(eQ g.e.id c).filter p=c.filter p:=by
 unfold eQ;rw[Yy];apply Yz;intro x f
 by_cases e:x.e.id=g.e.id
 ·have:x=g:=oM _ m f o e;subst this;simp[h]
 ·have:(x.e.id != g.e.id)=Vg:=by simpa using e
  simp[this]
theorem Hl.at{r:Raw}(h:Hl r){x:Hp.Hi}(f:x∈r.hl):∃ g∈r.eg,g.e.kind≠1/\x=kP g:=by
 have:=h.2.mem_iff.1 f;obtain⟨g,c,rfl⟩:=Wm.1 this;exact⟨g,(XF.1 c).1,by simpa using (XF.1 c).2,rfl⟩
theorem Hl.has{r:Raw}(h:Hl r){g:EG}(f:g∈r.eg)(c:g.e.kind≠1):kP g∈r.hl:=h.2.mem_iff.2 (Wm.2 ⟨g,XF.2 ⟨f,by simpa using c⟩,rfl⟩)
theorem Hl.len{r:Raw}(h:Hl r):r.hl.length<=r.eg.length:=by
 rw[h.2.length_eq,WL];exact WH _ _
theorem Hl.one{r:Raw}(h:Hl r)(q:(r.eg.map (·.e.id)).Nodup){g:EG}(t:g∈r.eg){x:Hp.Hi}{c:U5 Hp.Hi}(m:x.n=g.e.id)(o:r.hl.Perm (x :: c)):x=kP g:=by
 obtain⟨y,f,_,e⟩:=h.at (x:=x) (o.mem_iff.2 UV);subst e;have:y=g:=oM _ q f t m;rw[this]
theorem Hl.book{r:Raw}(h:Hl r)(m:(r.eg.map (·.e.id)).Nodup){g:EG}(o:g∈r.eg)(t:g.e.kind≠1){x:Hp.Hi}{c:U5 Hp.Hi}(q:x.n=g.e.id)(y:Hp.gH c)(f:r.hl.Perm (x :: c)):Hl { r with eg:=fW g.e.id 1 0 r.eg,hl:=c }:=by
 have e:=h.one m o q f;subst e;refine⟨y,YA (a:=kP g) ?_⟩;exact f.symm.trans (h.2.trans ((QY m o t).map kP))
theorem Hl.goes{r:Raw}(h:Hl r)(m:(r.eg.map (·.e.id)).Nodup){g:EG}(o:g∈r.eg)(t:g.e.kind≠1){x:Hp.Hi}{c:U5 Hp.Hi}(q:x.n=g.e.id)(y:Hp.gH c)(f:r.hl.Perm (x :: c)):Hl { r with eg:=eQ g.e.id r.eg,hl:=c }:=by
 have e:=h.one m o q f;subst e;refine⟨y,YA (a:=kP g) ?_⟩;exact f.symm.trans (h.2.trans ((QZ m o (fun g=>g.e.kind != 1) (by simpa using t)).map kP))
theorem Hl.nA{r:Raw}(h:Hl r)(c:(r.eg.map (·.e.id)).Nodup){g:EG}(m:g∈r.eg)(f:g.e.kind=1):Hl { r with eg:=eQ g.e.id r.eg }:=by
 refine⟨h.1,?_⟩;show r.hl.Perm (((eQ g.e.id r.eg).filter fun g=>g.e.kind != 1).map kP);rw[Ja c m _ (by simp[f])];exact h.2
theorem Hl.comes{r:Raw}(h:Hl r){g:EG}(m:g.e.kind≠1){c:U5 Hp.Hi}(o:Hp.gH c)(f:c.Perm (r.hl++[kP g])):Hl { r with eg:=r.eg++[g],hl:=c }:=by
 refine⟨o,f.trans ?_⟩;show (r.hl++[kP g]).Perm (((r.eg++[g]).filter fun g=>g.e.kind != 1).map kP);rw[VP,Wr];have:[g].filter (fun g=>g.e.kind != 1)=[g]:=by simp[m]
 rw[this];exact h.2.append_right _
theorem Hl.se{r:Raw}(h:Hl r){g:EG}(c:g.e.kind=1):Hl { r with eg:=r.eg++[g] }:=by
 refine⟨h.1,?_⟩;show r.hl.Perm (((r.eg++[g]).filter fun g=>g.e.kind != 1).map kP);rw[VP];have:[g].filter (fun g=>g.e.kind != 1)=[]:=by simp[c]
 rw[this,X5];exact h.2
theorem Wl.goes{r:Raw}(h:Wl r)(o:(r.eg.map (·.e.id)).Nodup)(q:(r.eg.map (·.eb)).Nodup){g:EG}(m:g∈r.eg):(r.wl.filter fun b=>!(b==g.eb))=((eQ g.e.id r.eg).filter fun g=>g.e.kind==3).map (·.eb):=by
 rw[h,Yw];unfold eQ;rw[Yy,Yy]
 congr 1
 apply Yz;intro x f
 have:(x.eb==g.eb)=(x.e.id==g.e.id):=by
  by_cases e:x=g
  ·subst e;simp
  ·have y:x.eb≠g.eb:=fun c=>e (oM _ q f m c)
   have t:x.e.id≠g.e.id:=fun c=>e (oM _ o f m c)
   rw[beq_eq_false_iff_ne.2 y,beq_eq_false_iff_ne.2 t]
 simp only[Yi,this];rw[Bool.and_comm];rfl
theorem Wl.nA{r:Raw}(h:Wl r)(c:(r.eg.map (·.e.id)).Nodup){g:EG}(m:g∈r.eg)(f:g.e.kind≠3):Wl { r with eg:=eQ g.e.id r.eg }:=by
 unfold Wl at *;show r.wl=((eQ g.e.id r.eg).filter fun g=>g.e.kind==3).map (·.eb);rw[Ja c m _ (by simpa using f)];exact h
theorem Wl.comes{r:Raw}(h:Wl r){g:EG}(c:g.e.kind≠3):Wl { r with eg:=r.eg++[g] }:=by
 unfold Wl at *;show r.wl=((r.eg++[g]).filter fun g=>g.e.kind==3).map (·.eb);rw[VP];have:[g].filter (fun g=>g.e.kind==3)=[]:=by simp[c]
 rw[this,X5];exact h
theorem Wl.lu{r:Raw}(h:Wl r){g:EG}(c:g.e.kind=3):Wl { r with eg:=r.eg++[g],wl:=r.wl++[g.eb] }:=by
 unfold Wl at *;show r.wl++[g.eb]=((r.eg++[g]).filter fun g=>g.e.kind==3).map (·.eb);rw[VP,Wr];have:[g].filter (fun g=>g.e.kind==3)=[g]:=by simp[c]
 rw[this,h];rfl
namespace aA
def lz(ts:U5 (U4 × U9))(p:U5 aL × U5 U9)(e:aL):U5 aL × U5 U9 :=
 if dG ts p.1 e.aT e.aH e.aK=Vg then (dZ e.id p.1,p.2++[e.id]) else p
def fc(e:aL):U7:=e.kind==3
theorem S3{d r:U5 aL}(h:dB (d++e :: r)):dZ e.id (d++e :: r)=d++cS e :: r:=by
 unfold dB at h;rw[Wr,XS,XC,VO] at h;obtain⟨_,⟨g,_⟩,f⟩:=h;unfold dZ;rw[Wr,XS,Vb rfl]
 have o:d.map (fun x=>if x.id=e.id then cS x else x)=d:=by
  rw[show d=d.map id from (Yx d).symm,Yg];apply Yh;intro x c;have:=f x.id (Wm.2 ⟨x,c,rfl⟩) e.id UV;simp only[Yi,id];rw[Va UU]
 have m:r.map (fun x=>if x.id=e.id then cS x else x)=r:=by
  rw[show r=r.map id from (Yx r).symm,Yg];apply Yh;intro x c;have:=g x.id (Wm.2 ⟨x,c,rfl⟩);simp only[Yi,id];rw[Va UU]
 rw[o,m]
theorem yH(ts:U5 (U4 × U9)):∀ (r d:U5 aL)(acc:U5 U9),dB (d++r)->(r.filter fc).foldl (lz ts) (d++r,acc)=((dQ ts d r).1,acc++(dQ ts d r).2)
 |[],d,acc,_=>by simp[dQ]
 |e :: r,d,acc,h=>by
  have t:dB ((d++[e])++r):=by simpa using h
  by_cases f:e.kind=3
  ·have m:fc e=Vg:=by simp[fc,f]
   rw[VQ,Vb m,W9]
   by_cases g:dG ts (d++e :: r) e.aT e.aH e.aK=Vg
   ·have q:=S3 h
    have x:dB ((d++[cS e])++r):=by
     have:=Uj (id:=e.id) h;rw[q] at this
     simpa using this
    have o:lz ts (d++e :: r,acc) e=((d++[cS e])++r,acc++[e.id]):=by
     unfold lz;simp only;rw[Vb g,q];simp
    rw[o,yH ts r _ _ x]
    have c:dQ ts d (e :: r)=((dQ ts (d++[cS e]) r).1,e.id :: (dQ ts (d++[cS e]) r).2):=by
     rw[dQ,Vb ⟨f,g⟩]
    rw[c];simp
   ·have o:lz ts (d++e :: r,acc) e=((d++[e])++r,acc):=by
     unfold lz;simp only;rw[Va g];simp
    rw[o,yH ts r _ _ t]
    have c:dQ ts d (e :: r)=dQ ts (d++[e]) r:=by
     rw[dQ,Va (fun h=>g h.2)]
    rw[c]
  ·have m:¬ (fc e=Vg):=by simp[fc,f]
   rw[VQ,Va m]
   have c:dQ ts d (e :: r)=dQ ts (d++[e]) r:=by
    rw[dQ,Va (fun h=>f h.1)]
   rw[c,<- yH ts r _ _ t];simp
theorem Jv(ts:U5 (U4 × U9))(es:U5 aL)(h:dB es):ey ts es=(es.filter fc).foldl (lz ts) (es,[]):=by
 have:=yH ts es [] [] (by simpa using h);simp only[List.nil_append] at this;rw[this];rfl
end aA
theorem Step.cU{S:aW->Prop}{g f:U8->U6 aW}(h:Step S B g f w w')(o:g b=Vd)(q:b<B):f b=Vd:=by
 cases e:f b with
 |none=>rfl
 |some c =>
  rcases h.new b c e with m|m
  ·rw[o] at m;cases m
  ·omega
theorem Step.own{S:aW->Prop}{g f:U8->U6 aW}{c e size:U8}(h:Step S B g f w w')(o:w.ownsRow c e size v n xs)(m:∀ b,v.ownBlock=Ve b->g b=Vd/\b<B):w'.ownsRow c e size v n xs:=by
 obtain⟨G,t,r⟩:=h.left;exact dO o t (fun b q=>r b (.inr (m b q)))
theorem DK.none{r:Raw}{f:U8->U6 aW}(h:DK w d r f)(g:w.heap.size<=b):f b=Vd:=by
 cases e:f b with
 |none=>rfl
 |some c=>have:=h.lt _ _ e;omega
structure eD(w:Vh)(B:U8)(aM:U8->U6 aW)(v:Vi)(l:U5 U9):Prop where
 own:w.ownsRow B 3 1 v l.length (l.map (V4 .i64))
 no:∀ b,v.ownBlock=Ve b->aM b=Vd
theorem eD.nil(w:Vh)(B:U8)(c:U8->U6 aW):eD w B c (.slice Vd 0 0) []:=⟨WK _ _ _ _,fun b f=>by cases f⟩
theorem eD.step{S:aW->Prop}{f c:U8->U6 aW}(h:eD w B0 f v l)(st:Step S B f c w w')(o:w.heap.size<=B):eD w' B0 c v l:=by
 have m:∀ b,v.ownBlock=Ve b->f b=Vd/\b<B:=fun b g=>⟨h.no b g,Wk (h.own.lt b g).2 o⟩
 exact⟨st.own h.own m,fun b g=>st.cU (m b g).1 (m b g).2⟩
theorem eD.later{c:U8->U6 aW}(h:eD w B0 c v l)(k:Vj w.heap.size w w'):eD w' B0 c v l:=⟨eu h.own k,h.no⟩
theorem eD.slice{c:U8->U6 aW}(h:eD w B c v l):∃ a cap,v=.slice a l.length cap:=by
 rcases h.own.2 with ⟨rfl,f⟩|⟨g,cap,_,rfl,_⟩
 ·rw[f];exact⟨_,_,rfl⟩
 ·exact⟨_,_,rfl⟩
def anyS(_:aW):Prop:=True
theorem Step.any{S:aW->Prop}{f c:U8->U6 aW}(h:Step S B f c w w')(g:B'<=B):Step anyS B' f c w w':=h.mono (fun _ _=>trivial) g
open aA (aL St dB kept dZ cS cN gD cA bW gJ ec gy)
theorem BI:∀ (l:U5 U9)(a b:U9),l.Pairwise (· < ·)->(∀ x∈l,a<=x/\x<=b)->(l.length:U9)<=max 0 (b-a+1)
 |[],a,b,_,_=>by simp;omega
 |x :: l,a,b,h,hb=>by
  rw[VO] at h;have f:=hb x UV;have ih:=BI l (x+1) b h.2 (fun y c=>⟨by have:=h.1 y c;omega,(hb y (by simp[c])).2⟩);simp only[V6];omega
theorem mb(h:ec s):s.es.length<=60:=by
 have f:(s.es.map fun e:aL=>e.id).Pairwise (· < ·):=h.ids
 have:=BI _ 1 60 f (fun x c=>by
  obtain⟨e,g,rfl⟩:=Wm.1 c;have o:=h.mP e g;have m:=h.g1
  omega)
 rw[WL] at this;omega
theorem Ie{α:Type}:∀ (l m:U5 α),l.Nodup->(∀ x∈l,x∈m)->l.length<=m.length
 |[],m,_,_=>by simp
 |a :: l,m,h,hs=>by
  rw[VE] at h;obtain⟨o,g,rfl⟩:=X7 (hs a UV)
  have:=Ie l (o++g) h.2 (fun x c=>by
   have f:=hs x (by simp[c]);simp only[VB,VA] at f ⊢;rcases f with e|e|e
   ·exact .inl e
   ·subst e;exact Vc c h.1
   ·exact .inr e)
  simp only[V5,V6] at this ⊢;omega
theorem Ij(at_:U9->U8):∀ (es:U5 aL),(∀ e∈es,e.aK.length<=40)->(es.flatMap fun e=>e.aK.map fun s=>(⟨s.1,s.2,e.id,at_ e.id⟩:aE.It)).length<=40*es.length
 |[],_=>by simp
 |e :: es,h=>by
  have ih:=Ij at_ es (fun x c=>h x (by simp[c]));have:=h e UV;simp only[List.flatMap_cons,V5,WL,V6];omega
theorem Rq{l:U5 aE.It}(h:aE.Ord l):l.Nodup:=by
 rw[Yv];refine X8 ?_ h;intro a b c e;subst e;unfold aE.lt at c;omega
theorem RJ{at_:U9->U8}{T:aE.S}(h:gD name es at_ T)(o:es.length<=60)(c:∀ e∈es,e.aK.length<=40):aE.size T<=9000:=by
 have m:=Ie _ (es.flatMap fun e=>e.aK.map fun s=>(⟨s.1,s.2,e.id,at_ e.id⟩:aE.It)) (Rq h.1) (fun z f=>by
  obtain⟨e,g,_,s,c,rfl⟩:=(h.2 z).1 f
  exact List.mem_flatMap.2 ⟨e,g,Wm.2 ⟨s,c,rfl⟩⟩)
 have q:=Ij at_ es c;rw[aE.mM] at m;omega
theorem Be{r:Raw}(h:ec s)(g:Of s r)(c:gy now e)(m:i<r.tg.length):Fit r.tg[i] e:=by
 obtain⟨f,o⟩:=g.th i m;refine⟨c.sp,fun p=>?_,c.u1,c.u9,by have:=c.sl;omega⟩;have:=aA.tV r.tg[i].name p s.es h.small;have:=mb h;rw[f];omega
theorem Cv(h:ec s):aA.vA s.es:=fun e f q c=>((h.en e f).sp q c).2.1
theorem Hr{r:Raw}(h:ec s)(f:Of s r)(c:ow e.aK)(q:1<=e.aH)(g:i<r.tg.length)(o:r.tg[i].name=e.aT):
  kB (bZ r.tg[i].A e.aK e.aH) r.tg[i].aH e.aK=aA.dG s.ts s.es e.aT e.aH e.aK:=by
 have m:=Cd h.tn (i:=i) (by rw[<- f.len];exact g);rw[f.jS g] at m;rw[(f.th i g).1,o] at *;exact aA.Rz h.small (Cv h) c UU m
theorem BB{r:Raw}(h:ec s)(f:Of s r)(g:i<r.tg.length):aE.Ord (aE.bS r.tg[i].T)/\aE.size r.tg[i].T<=9000:=by
 obtain⟨_,c⟩:=f.th i g;exact⟨c.1,RJ c (mb h) (fun e m=>(h.en e m).sl)⟩
theorem Qj{r:Raw}(h:ec s)(c:Of s r){g:EG}(q:g∈r.eg)(m:g.e.kind≠3)(o:i<r.tg.length)(f:r.tg[i].name=g.e.aT):∀ p,0<=bZ r.tg[i].A g.e.aK (-g.e.aH) p:=by
 intro p;have x:cA r.tg[i].name g.e=Vg:=by simp[cA,f,aA.qY,m]
 rw[(c.th i o).1,aA.Cc x h.ids (c.mem q)];exact (aA.tV _ p _ (fun e t=>h.small e (aA.sK.1 t).1)).1
open aA (aL St dB kept dZ cS cN gD cA bW gJ ec gy lz)
noncomputable def mY(Gr:U5 U9)(g:EG):EG:=@ite _ (g.e.id∈Gr) (Yb _) { g with e:=cS g.e } g
theorem sA{g:EG}(h:g.e.id∈Gr):mY Gr g={ g with e:=cS g.e }:=Vb h
theorem qS{g:EG}(h:g.e.id ∉ Gr):mY Gr g=g:=Va h
noncomputable def mZ(Gr:U5 U9)(c:U5 EG):U5 EG:=c.map (mY Gr)
theorem Qw(eg:U5 EG):mZ [] eg=eg:=by
 unfold mZ
 conv=>rhs;rw[<- Yx eg]
 apply Yh;intro g _;rw[qS UV];rfl
theorem Sf(Gr:U5 U9)(id:U9)(eg:U5 EG):fW id 1 0 (mZ Gr eg)=mZ (Gr++[id]) eg:=by
 unfold fW mZ;rw[Yg];apply Yh;intro g _;simp only[Yi]
 by_cases f:g.e.id∈Gr
 ·rw[sA f,sA (YB _ f)]
  split <;> rfl
 ·rw[qS f]
  by_cases c:g.e.id=id
  ·rw[Vb c,sA (YC _ (by rw[c];exact YD.2 rfl))];rfl
  ·rw[Va c,qS (fun h=>by rcases VB.1 h with e|e;exact f e;exact c (YD.1 e))]
theorem Qv{eg:U5 EG}{g:EG}(c:g∈eg)(h:g.e.id ∉ Gr):g∈mZ Gr eg:=by
 unfold mZ;exact Wm.2 ⟨g,c,qS h⟩
theorem PA(Gr:U5 U9)(eg:U5 EG)(p:U8->U7)(o:∀ g∈eg,g.e.kind=3->(p g.eb=Vg↔g.e.id∈Gr)):(((eg.filter fun g=>g.e.kind==3).map (·.eb)).filter fun b=>!p b)=((mZ Gr eg).filter fun g=>g.e.kind==3).map (·.eb):=by
 induction eg with
 |nil=>rfl
 |cons g eg ih =>
  have ih:=ih (fun x r=>o x (List.mem_cons_of_mem _ r));have t:mZ Gr (g :: eg)=mY Gr g :: mZ Gr eg:=rfl;rw[t]
  by_cases m:g.e.kind=3
  ·have c:(g.e.kind==3)=Vg:=by rw[m];rfl
   rw[VQ,Vb c,XS,VQ]
   by_cases f:g.e.id∈Gr
   ·have q:p g.eb=Vg:=(o g Ye m).2 f;rw[Va (by rw[q];simp),sA f,VQ,Va (by simp[cS])];exact ih
   ·have q:p g.eb=Vf:=by
     cases h:p g.eb
     ·rfl
     ·exact Vc ((o g Ye m).1 h) f
    rw[Vb (by rw[q];rfl),qS f,VQ,Vb c,XS,ih]
  ·have c:¬ ((g.e.kind==3)=Vg):=by simpa using m
   rw[VQ,Va c,VQ]
   by_cases f:g.e.id∈Gr
   ·rw[sA f,Va (by simp[cS])];exact ih
   ·rw[qS f,Va c];exact ih
def fh(s:St)(k:U8):U5 aL × U5 U9:=((s.es.filter aA.fc).take k).foldl (lz s.ts) (s.es,[])
theorem GG(s:St):fh s 0=(s.es,[]):=rfl
theorem GF(s:St)(c:k<(s.es.filter aA.fc).length):fh s (k+1)=lz s.ts (fh s k) (s.es.filter aA.fc)[k]:=by
 unfold fh;rw[Wg c,List.foldl_append];rfl
theorem OE(s:St)(h:dB s.es)(c:(s.es.filter aA.fc).length<=k):fh s k=aA.ey s.ts s.es:=by
 unfold fh;rw[Wi c,aA.Jv s.ts s.es h]
structure GX(w wx:Vh)(d:U8)(s:St)(r:Raw)(aM:U8->U6 aW)(v4:Vi)(k:U8)(v:Vi)(rk:Raw)(ck:U8->U6 aW):Prop where
 dk:DK wx d rk ck
 of:Of { s with es:=(fh s k).1 } rk
 hl:Hl rk
 wl:rk.wl=r.wl
 eg:rk.eg=mZ (fh s k).2 r.eg
 st:Step anyS w.heap.size aM ck w wx
 nr:eD wx w.heap.size ck v (fh s k).2
 aS:ec { s with es:=(fh s k).1 }
 gm:∀ x∈(fh s k).2,∃ e∈(s.es.filter aA.fc).take k,e.id=x
 row:wx.ownsRow 0 197 1 v4 r.wl.length (r.wl.map jw)
 rc:∀ b,v4.ownBlock=Ve b->ck b=Ve .wa
def GI(w wx:Vh)(d:U8)(s:St)(r:Raw)(c:U8->U6 aW)(v4:Vi)(k:U8)(v:Vi):Prop:=∃ f g,GX w wx d s r c v4 k v f g
def Cz(w:Vh)(d:U8)(s:St)(g:U8->U6 aW)(v:Vi)(w':Vh):Prop :=
 ∃ (f:Raw) (c:U8->U6 aW),DK w' d f c/\Of { s with es:=(aA.ey s.ts s.es).1 } f/\Wl f/\Hl f/\Step anyS w.heap.size g c w w'/\eD w' w.heap.size c v (aA.ey s.ts s.es).2
theorem GX.next{r:Raw}{x:U8->U6 aW}{y:Raw}{O:U8->U6 aW}(h:GX w wx d s r x v4 k v y O)(I:Of s r)(z:Wl r)(t:dB s.es)(A:k<r.wl.length):
  ∃ (g:EG) (c:k<(s.es.filter aA.fc).length),g∈r.eg/\g∈y.eg/\g.eb=r.wl[k]/\g.e=(s.es.filter aA.fc)[k]/\g.e.kind=3/\g.e.id ∉ (fh s k).2:=by
 have D:s.es.filter aA.fc=(r.eg.filter fun g=>g.e.kind==3).map (·.e):=by
  rw[<- I.es,Yw];rfl
 have q:k<(r.eg.filter fun g=>g.e.kind==3).length:=by
  have:=A;rw[z,WL] at this;exact this
 have c:k<(s.es.filter aA.fc).length:=by rw[D,WL];exact q
 have m:((r.eg.filter fun g=>g.e.kind==3)[k]).e=(s.es.filter aA.fc)[k]:=by simp only[D,List.getElem_map]
 have o:=XF.1 (zg q)
 have f:((r.eg.filter fun g=>g.e.kind==3)[k]).e.id ∉ (fh s k).2:=by
  intro E;obtain⟨e,K,N⟩:=h.gm _ E;obtain⟨j,J,rfl⟩:=XZ K;rw[Yp] at J;rw[List.getElem_take,m] at N
  have H:(s.es.filter aA.fc).Pairwise fun a b=>a.id<b.id:=by
   have:=aA.ym aA.fc t;unfold dB at this;rw[XV] at this;exact this
  have:=XY.1 H j k UU c UU;omega
 refine⟨_,c,o.1,?_,?_,m,by simpa using o.2,f⟩
 ·rw[h.eg];exact Qv o.1 f
 ·have C:r.wl[k]?=Ve ((r.eg.filter fun g=>g.e.kind==3)[k]).eb:=by rw[z,Ys,Xb q];rfl
  rw[Xb A] at C;exact (Option.some.inj C).symm
theorem GX.no{r:Raw}{f:U8->U6 aW}{m:Raw}{t c1:U8->U6 aW}(h:GX w wx d s r f v4 k v m t)(c:k<(s.es.filter aA.fc).length)(z:DK w1 d m c1)(g:Step (·=.aT i) wx.heap.size t c1 wx w1)(C:aA.dG s.ts (fh s k).1 (s.es.filter aA.fc)[k].aT (s.es.filter aA.fc)[k].aH (s.es.filter aA.fc)[k].aK=Vf):
  GX w w1 d s r f v4 (k+1) v m c1:=by
 have e:fh s (k+1)=fh s k:=by
  rw[GF s c];unfold lz;rw[Va (by rw[C];simp)]
 obtain⟨G,H,E⟩:=g.left;refine⟨z,by rw[e];exact h.of,h.hl,h.wl,by rw[e];exact h.eg,h.st.trans (g.any h.st.size),by rw[e];exact h.nr.step g (zq _),by rw[e];exact h.aS,fun x q=>?_,dO h.row H (fun b o=>E b (.inl ⟨_,h.rc b o,by simp⟩)),fun b o=>g.gk _ _ (h.rc b o)⟩;rw[e] at q;obtain⟨y,A,D⟩:=h.gm x q;rw[Wg c];exact⟨y,YB _ A,D⟩
theorem Qk(h:ec s)(m:e∈s.es)(f:e.kind=3)(g:aA.dG s.ts s.es e.aT e.aH e.aK=Vg):ec { s with es:=dZ e.id s.es }:=by
 obtain⟨l,r,c,q,_⟩:=aA.UB h.ids m rfl;have o:ec ⟨s.ts,l++e :: r,s.given,s.now⟩:=by rw[<- c];exact h
 have:=o.qe f (by rw[<- c];exact g);rw[q];exact this
theorem GX.yes{w3:Vh}{r:Raw}{N:U8->U6 aW}{m:Raw}{ck X:U8->U6 aW}(h:GX w wx d s r N v4 k v m ck)(K:k<(s.es.filter aA.fc).length){g:EG}(R:g∈m.eg)(H:g.e=(s.es.filter aA.fc)[k])(J:g.e.kind=3)(hi:i<m.tg.length)(E:m.tg[i].name=g.e.aT)
  (O:Step (·=.aT i) wx.heap.size ck X wx w1) (sp:Ci w1 d (m.cW i (m.tg[i].with (bZ m.tg[i].A g.e.aK g.e.aH) (gn g.e.id g.eb m.tg[i].T g.e.aK))) X g w2) (hf:aA.dG s.ts (fh s k).1 g.e.aT g.e.aH g.e.aK=Vg)
  (V:aF v.ownBlock.toList w2 w3) (U:∀ c2,(∀ b,v.ownBlock=Ve b->c2 b=Vd)->(∀ b,w2.heap.size<=b->c2 b=Vd)->eD w3 w.heap.size c2 v' ((fh s k).2++[g.e.id])):
  GI w w3 d s r N v4 (k+1) v':=by
 obtain⟨x,l',c2,e1,e2,p1,p2,p3,P⟩:=sp;have W:aA.dG s.ts (fh s k).1 (s.es.filter aA.fc)[k].aT (s.es.filter aA.fc)[k].aH (s.es.filter aA.fc)[k].aK=Vg:=by rw[<- H];exact hf
 have e:fh s (k+1)=(dZ g.e.id (fh s k).1,(fh s k).2++[g.e.id]):=by
  rw[GF s K];unfold lz;rw[Vb W,H]
 have hn:=h.dk.ni;have I:=(h.of.book h.aS.tn h.aS.ids hn R J ((h.aS.en _ (h.of.mem R)).ri) hi E).1;have C:=(h.nr.step O (zq _)).step P (zq _);have o:∀ b,v.ownBlock=Ve b->c2 b=Vd:=C.no;have hD:DK w3 d _ c2:=p3.off V (fun y c=>o y (WW.1 c));have S:Step anyS w.heap.size c2 c2 w2 w3:=⟨⟨_,V,fun y c=>.inr ⟨o y (WW.1 c),(C.own.lt y (WW.1 c)).1⟩⟩,fun _ _ h=>h,fun _ _ h=>.inl h⟩;have Y:=h.st.trans (O.any h.st.size);have t2:=Y.trans (P.any Y.size);obtain⟨G1,a1,a2⟩:=O.left;obtain⟨G2,b1,b2⟩:=P.left;have t:∀ b,v4.ownBlock=Ve b->X b=Ve .wa:=fun b f=>O.gk _ _ (h.rc b f)
 have q:∀ b,v4.ownBlock=Ve b->c2 b=Ve .wa:=fun b f=>P.gk _ _ (t b f)
 have D:=dO (dO h.row a1 (fun b f=>a2 b (.inl ⟨_,h.rc b f,by simp⟩))) b1 (fun b f=>b2 b (.inl ⟨_,t b f,by unfold xO;simp⟩));refine⟨_,c2,hD,⟨I.now,I.given,I.ts,by rw[e];exact I.es,by rw[e];exact I.th,I.tb⟩,h.hl.book (r:=m) hn R UU e2 p1 p2,h.wl,?_,t2.trans S,by rw[e];exact U c2 o (fun b f=>p3.none f),?_,fun y c=>?_,dO D V (fun b f hx=>?_),q⟩
 ·rw[e];show fW g.e.id 1 0 m.eg=mZ ((fh s k).2++[g.e.id]) r.eg;rw[h.eg,Sf]
 ·rw[e];exact Qk h.aS (h.of.mem R) J hf
 ·rw[e] at c;rw[Wg K];rcases VB.1 c with c|c
  ·obtain⟨z,hz,e3⟩:=h.gm y c;exact⟨z,YB _ hz,e3⟩
  ·have:y=g.e.id:=YD.1 c;exact⟨_,YC _ (YD.2 rfl),by rw[<- H,this]⟩
 ·have:=o b (WW.1 hx);rw[q b f] at this;cases this
theorem Gn{g:EG}(c:g.e.kind=3):((mY Gr g).e.kind==1)=Vg↔g.e.id∈Gr:=by
 by_cases h:g.e.id∈Gr
 ·rw[sA h];simp[h,cS]
 ·rw[qS h];simp[h,c]
theorem Ot(Gr:U5 U9)(g:EG):(mY Gr g).eb=g.eb:=by
 by_cases h:g.e.id∈Gr
 ·rw[sA h]
 ·rw[qS h]
def vo(c:U5 EG)(Gr:U5 U9)(b:U8):U7:=c.any fun g=>decide (g.eb=b) && Gr.any fun x=>decide (x=g.e.id)
theorem N3(c:U5 EG)(Gr:U5 U9)(C:(c.map (·.eb)).Nodup):∀ g∈c,g.e.kind=3->(mY Gr g).eb=g.eb/\((mY Gr g).e.kind==1)=vo c Gr g.eb:=by
 intro g m D;refine⟨Ot Gr g,?_⟩;have t:=Gn (Gr:=Gr) D
 have r:vo c Gr g.eb=Vg↔g.e.id∈Gr:=by
  unfold vo;rw[XI];constructor
  ·rintro ⟨x,A,f⟩;rw[W7,decide_eq_true_iff,XI] at f;obtain⟨f,y,z,H⟩:=f;have:x=g:=oM _ C A m f;have E:y=x.e.id:=of_decide_eq_true H;rw[<- this,<- E];exact z
  ·intro h;refine⟨g,m,?_⟩;rw[W7,decide_eq_true_iff,XI];exact⟨rfl,g.e.id,h,decide_eq_true rfl⟩
 cases q:((mY Gr g).e.kind==1) <;> cases o:vo c Gr g.eb
 ·rfl
 ·exact Vc (t.2 (r.1 o)) (by rw[q];simp)
 ·exact Vc (r.2 (t.1 q)) (by rw[o];simp)
 ·rfl
theorem CB(ts:U5 (U4 × U9)):∀ (l:U5 aL)(p:U5 aL × U5 U9),(l.foldl (lz ts) p).2.length<=p.2.length+l.length
 |[],p=>by simp
 |e :: l,p=>by
  have ih:=CB ts l (lz ts p e);have:(lz ts p e).2.length<=p.2.length+1:=by unfold lz;split <;> simp
  simp only[W9,V6];omega
theorem OG(s:St)(k:U8):(fh s k).2.length<=k:=by
 have:=CB s.ts ((s.es.filter aA.fc).take k) (s.es,[]);have c:=List.length_take_le k (s.es.filter aA.fc);unfold fh;simp only[List.length_nil] at this;omega
theorem TF{r:Raw}{q:U8->U6 aW}(h:DK w d r q)(ho:Of s r)(hw:Wl r)(hh:Hl r)(hm:ec s):
  Vk prog 65 #[.pointer (Ve ⟨d,0,Vd⟩)] w fun e w'=>∃ v,e=.returned v/\Cz w d s q v w':=by
 obtain⟨i0,a4,az,ay,ax⟩:=info_parts pE;obtain⟨v4,c4,A,an⟩:=h.wa
 have bc:r.wl.length<=60:=by
  rw[hw,WL];have h1:=WH (fun g:EG=>g.e.kind==3) r.eg;have h2:=mb hm;have h3:r.eg.length=s.es.length:=by rw[<- ho.es];simp
  omega
 have G0:Hid (GI w w d s r q v4 0 (.slice Vd 0 0)):=⟨r,q,h,ho,hh,rfl,by rw[GG,Qw],Step.refl _ _ _ _,eD.nil _ _ _,hm,fun x hx=>by rw[GG] at hx;simp at hx,A,an⟩;have I:=aC (zA h (zA ho (zA hw (zA hh hm))))
 have hv:∃ a cap,v4=.slice a r.wl.length cap:=by
  rcases A.2 with ⟨rfl,h⟩|⟨g,cap,_,rfl,_⟩
  ·rw[h];exact⟨_,_,rfl⟩
  ·exact⟨_,_,rfl⟩
 obtain⟨a,cap,rfl⟩:=hv;clear h ho hw hh hm A an
 go_in
 go_wp2_with fail
 go_loopw [3,5,11] (fun vg _ vi wx=>∃ k:U8,k<=r.wl.length/\vi=.int .i64 k/\GI w wx d s r q (.slice a r.wl.length cap) k vg) (fun _ _ vi _=>r.wl.length-(intOf vi).toNat)
 case atStart=>exact⟨0,Wh _,rfl,G0.out⟩
 case round =>
  obtain⟨k,hk,rfl,J,ck,X⟩:=hrel
  by_cases ac:k<r.wl.length
  ·have a8:(k:U9)<(r.wl.length:U9):=UU
   obtain⟨g,ai,aj,m,D,P,O,af⟩:=X.next I.out.2.1 I.out.2.2.1 I.out.2.2.2.2.ids ac;obtain⟨Hh,a9,e1⟩:=Yq X.row UU;simp only[Yr,true_and] at e1;obtain⟨rfl,rfl⟩:=e1;have a0:=X.row.cellAt k UU;rw[Ys,Xb ac,Yt,<- D] at a0;unfold jw at a0;obtain⟨K,E,q3⟩:=X.dk.en g m;have co:=K.en.c1;obtain⟨i,hi,c,N⟩:=X.of.tb g m;have t:=X.aS.en _ (X.of.mem m);have z:=Be X.aS X.of t hi;have U:=Hr X.aS X.of t.sp t.u1 hi c;have S:=BB X.aS X.of hi;have H:=aC X;have HG:=aC (zA m (zA P (zA O (zA c E))))
   cases hf:aA.dG s.ts (fh s k).1 g.e.aT g.e.aH g.e.aK
   ·have TK:=aC (Gs X.dk i hi K N (by rw[E];simp) (by rw[q3];simp) z (U.trans hf))
    have FN:Hid (aA.dG s.ts (fh s k).1 (s.es.filter aA.fc)[k].aT (s.es.filter aA.fc)[k].aH (s.es.filter aA.fc)[k].aK=Vf):=by
     show _=_;rw[<- P];exact hf
    have HK:=aC ai;clear hf U z S t K E q3 X m P O c af aj D N
    go_wp2_with fail
    refine TK.out.mono ?_;rintro e w1 ⟨rfl,c1,p1,p2⟩;have HN:Hid (GI w w1 d s r q (.slice (Ve ⟨Hh,0,Vd⟩) r.wl.length cap) (k+1) u3):=⟨J,c1,H.out.no HK.out p1 p2 FN.out⟩;clear p1 p2 TK H HG a0 co FN
    go_wp2
    go_roundw
    case rel=>exact⟨k+1,by omega,by go_num,HN.out⟩
    case measure=>simp[intOf];omega
   ·have ar:xt J.tg[i].T g.e.id g.e.aK:=⟨S.1,S.2,(X.of.book X.aS.tn X.aS.ids X.dk.ni m O t.ri hi c).2,Cw t.ri⟩;have TK:=aC (HJ X.dk i hi K N (by rw[E];simp) (by rw[q3];simp) z ar (U.trans hf));have HF:=aC hf;have bf:(fh s k).2.length<=60:=by have:=OG s k;omega
    have aa:J.hl.length<=1000:=by
     have h1:=X.hl.len
     have h2:J.eg.length=(fh s k).1.length:=by have:=X.of.es;rw[<- WL (f:=(·.e)),this]
     have h3:=mb X.aS;simp only at h3;omega
    have V:=aC (zA X.hl.1 (zA aa (X.hl.has m UU)));have HK:=aC ai;clear hf U z S t K E q3 X m P O af aj D N ar aa;have aw:=aC c;clear c
    go_wp2_with fail
    refine TK.out.mono ?_;rintro e w1 ⟨rfl,c1,p1,p2⟩;have ST:=aC (Uq p1 V.out.1 V.out.2.1 (g:=g) HG.out.1 ⟨kP g,V.out.2.2,rfl,rfl⟩);have P2:=aC p2;clear p1 p2 TK a0 co
    go_wp2_with fail
    refine ST.out.mono ?_;rintro e w2 ⟨rfl,sp⟩;have SP:=aC sp;obtain⟨x,l',c2,e1,e2,s1,s2,s3,s4⟩:=sp;have y:({ g with e:={ g.e with kind:=1,bY:=0 } }:EG)∈fW g.e.id 1 0 J.eg:=Wm.2 ⟨g,HG.out.1,Vb rfl⟩;have bj:w2.cell? ⟨g.eb,0,Vd⟩=Ve (.int .i64 g.e.id):=(s3.en _ y).1.en.c0;have NR:=aC ((H.out.nr.step P2.out (zq _)).step s4 (zq _));have ba:w.heap.size<=w2.heap.size:=Vq (Vq H.out.st.size P2.out.size) s4.size;clear s1 s2 s3 s4 e1 e2 y ST
    go_wp2_with (first
     |(at_builtin;refine wpList_append_lies _ rfl _ _ 38 rfl w.heap.size 3 i0 _ 1 8 underlying38 a4 az ay ax rfl UW _ _ _ rfl (NR.out.own.alloc _) ⟨w2.heap.size,0,Vd⟩ 1 1 [.int .i64 g.e.id] rfl rfl (World.news_of_block (cs:=#[.int .i64 g.e.id]) (cC w2 _)) U2 UU U1 UU U0 (w2.heap.size+1) UV ?_;intro g2 av w3 Y C aq a7))
    have ko:aF u3.ownBlock.toList w2 w3:=aF.grown ((aF.refl _ w2).alloc _) C (fun k hk=>.inl (WW.2 hk));have ab:u3.ownBlock=Ve g2\/g2=w2.heap.size+1:=aq
    have HN:Hid (GI w w3 d s r q (.slice (Ve ⟨Hh,0,Vd⟩) r.wl.length cap) (k+1) (.slice (Ve ⟨g2,0,Vd⟩) ((fh s k).2.length+1) av)) :=
     H.out.yes HK.out HG.out.1 HG.out.2.1 HG.out.2.2.1 hi aw.out P2.out SP.out HF.out ko (fun c2 n1 n2=>⟨by rw[V5,Wr];exact Y,fun b hb=>by
      have:g2=b:=by simpa[Value.ownBlock] using hb
      subst this;rcases ab with e|e
      ·exact n1 g2 e
      ·exact n2 g2 UU⟩)
    clear Y C aq ko ab H HG HK SP NR P2 aw HF V;go_roundw
    case rel=>exact⟨k+1,by omega,by go_num,HN.out⟩
    case measure=>simp[intOf];omega
  ·have bg:¬ ((k:U9)<(r.wl.length:U9)):=UU
   obtain⟨v,ad,W,R⟩:=X.dk.wa;have f4:=X.dk.fz 4;have hd:=X.dk.dc;have ae:d ∉ v.ownBlock.toList:=fun e=>by have:=R _ (WW.1 e);rw[hd] at this;cases this
   have a3:(s.es.filter aA.fc).length<=k:=by
    have h1:=I.out.2.2.1
    have h2:s.es.filter aA.fc=(r.eg.filter fun g=>g.e.kind==3).map (·.e):=by rw[<- I.out.2.1.es,Yw];rfl
    rw[h2,WL];rw[h1,WL] at ac;omega
   have ak:=OE s I.out.2.2.2.2.ids a3;have PB:=aC (N3 r.eg (fh s k).2 I.out.1.nd);generalize vo r.eg (fh s k).2=p at PB
   have DL:=aC (Dc (.inl ⟨rfl,rfl⟩) J.wl p v wr (fun wx ko b hb=>by
    have ao:b∈r.wl:=by rw[<- X.wl];exact hb
    rw[I.out.2.2.1] at ao;obtain⟨g,hg,rfl⟩:=Wm.1 ao;obtain⟨al,a6⟩:=XF.1 hg;have a5:g.e.kind=3:=by simpa using a6
    have y:mY (fh s k).2 g∈J.eg:=by rw[X.eg];exact Wm.2 ⟨g,al,rfl⟩
    obtain⟨K,E,q3⟩:=X.dk.en _ y;have ag:wx.cell? ⟨(mY (fh s k).2 g).eb,1,Vd⟩=Ve (.int .i64 (mY (fh s k).2 g).e.kind):=ko.cell (fun e=>by have:=R _ (WW.1 e);rw[E] at this;cases this) K.k;obtain⟨e1,e2⟩:=PB.out g al a5;rw[e1] at ag;rw[<- e2]
    exact TJ g.eb _ wx ag) W (by rw[X.wl];omega))
   have VC:=aC (zA R ae);have H:=aC X;clear X W R ae hd
   go_wp2_with fail
   refine DL.out.mono ?_;rintro e w2 ⟨v',rfl,k1,k2,k3⟩
   obtain⟨va,vn,vc,rfl⟩:∃ a n cap,v'=.slice a n cap:=by
    rcases k2.2 with ⟨e,_⟩|⟨_,_,_,e,_⟩
    ·exact⟨_,_,_,e⟩
    ·exact⟨_,_,_,e⟩
   have bi:=k1.cell VC.out.2 ad;have bh:=(k1.frozen (o:=4) VC.out.2 (Vr _ _ ad)).trans f4;have SW:=aC (H.out.dk.jg VC.out.1 k1 k2 (fun b hb=>.inl (by rw[<- k3];exact hb)))
   have HF:Hid (Cz w d s q u3 (w2.setCell ⟨d,4,Vd⟩ (.slice va vn vc))):=by
    obtain⟨au,K,E⟩:=SW.out;have X:=H.out;refine⟨_,au,K,?_,?_,X.hl,X.st.trans (E.any X.st.size),?_⟩
    ·have o:=X.of;rw[ak] at o;exact⟨o.now,o.given,o.ts,o.es,o.th,o.tb⟩
    ·show (J.wl.filter fun b=>!p b)=(J.eg.filter fun g=>g.e.kind==3).map (·.eb);rw[X.wl,I.out.2.2.1,X.eg];exact PA _ _ p (fun g hg hk=>by rw[<- (PB.out g hg hk).2];exact Gn hk)
    ·rw[<- ak];exact X.nr.step E (zq _)
   clear k1 k2 k3 DL ad f4 SW H VC PB I
   go_wp2
   go_ret;exact⟨_,rfl,HF.out⟩
open aA (aL St dB kept dZ cS cN gD cA bW gJ ec gy nk)
def Sr(w:Vh)(d:U8)(s:St)(h:U8->U6 aW)(g:EG)(w':Vh):Prop :=
 ∃ (f:Raw) (c:U8->U6 aW),DK w' d f c/\Of { s with es:=kept g.e.id s.es } f/\Wl f/\Hl f/\Step qT w.heap.size h c w w'
theorem I0{r:Raw}{C:U8->U6 aW}(h:DK w d r C)(t:Of s r)(D:Wl r)(m:ec s){g:EG}(q:g∈r.eg)(J:Hl { r with eg:=eQ g.e.id r.eg }):
  Vk prog 150 #[.pointer (Ve ⟨d,0,Vd⟩),.pointer (Ve ⟨g.eb,0,Vd⟩)] w fun e w'=>e=.returned (.tuple #[])/\Sr w d s C g w':=by
 have O:=m.mP _ (t.mem q);have P:=m.g1
 by_cases y:g.e.kind=3
 ·refine (RT h q y UU (fun b K=>?_) ?_).mono ?_
  ·rw[D] at K;obtain⟨x,N,rfl⟩:=Wm.1 K;exact⟨x,(XF.1 N).1,rfl⟩
  ·rw[D,WL];have T:=WH (fun g:EG=>g.e.kind==3) r.eg;have S:=mb m;have R:r.eg.length=s.es.length:=by rw[<- t.es];simp
   omega
  ·rintro e w' ⟨rfl,f,H,E⟩;refine⟨rfl,_,f,H,?_,D.goes h.ni h.nd q,J,E⟩;have o:=t.uA m.ids h.ni q y;exact⟨o.now,o.given,o.ts,o.es,o.th,o.tb⟩
 ·obtain⟨i,z,c,I⟩:=t.tb g q;have A:=BB m t z;refine (RQ h q y i z I (Be m t (m.en _ (t.mem q)) z) A.1 A.2 (Qj m t q y z c) UU).mono ?_;rintro e w' ⟨rfl,f,H,E⟩;exact⟨rfl,_,f,H,t.goes m.tn m.ids h.ni q y z c,D.nA h.ni q y,J,E⟩
namespace aA
end aA
def bC(c at_ n:U9)(g m f h:Vi):Vi:=.agg #[.int .i64 c,.int .i64 at_,.int .i64 n,g,m,f,h]
structure Q7(Z:Vh)(Q:U8):Prop where
 q0:Z.cell? ⟨Q,0,Vd⟩=Ve (.int .i64 0)
 q1:Z.cell? ⟨Q,1,Vd⟩=Ve (.int .i64 0)
 q2:Z.cell? ⟨Q,2,Vd⟩=Ve (.int .i64 0)
 q3:Z.cell? ⟨Q,3,Vd⟩=Ve (.slice Vd 0 0)
 q4:Z.cell? ⟨Q,4,Vd⟩=Ve (.slice Vd 0 0)
 q5:Z.cell? ⟨Q,5,Vd⟩=Ve (.slice Vd 0 0)
 q6:Z.cell? ⟨Q,6,Vd⟩=Ve (.slice Vd 0 0)
 fq:∀ o,Z.frozen? ⟨Q,o,Vd⟩=Vf
def aX:Obj:=.cells #[.int .i64 0,.int .i64 0,.int .i64 0,.slice Vd 0 0,.slice Vd 0 0,.slice Vd 0 0,.slice Vd 0 0] 40 (0,0)
theorem Q7.of(h:w.heap[Q]?=Ve aX):Q7 w Q:=by
 unfold aX at h;refine⟨?_,?_,?_,?_,?_,?_,?_,fun o=>frozen_of_row _ Q o _ _ h⟩
 all_goals (simp only[VL,h];rfl)
theorem Q7.later(h:Q7 w Q)(c:w'.heap[Q]?=w.heap[Q]?):Q7 w' Q :=
 ⟨(zo c).trans h.q0,(zo c).trans h.q1,(zo c).trans h.q2,(zo c).trans h.q3,(zo c).trans h.q4,(zo c).trans h.q5,(zo c).trans h.q6,fun o=>(WU c).trans (h.fq o)⟩
def cK(Z:Vh)(Q:U8)(a b c d e f g:Vi):Vh:=((((((Z.setCell ⟨Q,0,Vd⟩ a).setCell ⟨Q,1,Vd⟩ b).setCell ⟨Q,2,Vd⟩ c).setCell ⟨Q,3,Vd⟩ d).setCell ⟨Q,4,Vd⟩ e).setCell ⟨Q,5,Vd⟩ f).setCell ⟨Q,6,Vd⟩ g
theorem lF(Z:Vh)(Q:U8)(a b c d e f g:Vi):aF [Q] Z (cK Z Q a b c d e f g) :=
 (((((((aF.refl [Q] Z).setCell (.inl UV) _ _).setCell (.inl UV) _ _).setCell (.inl UV) _ _).setCell (.inl UV) _ _).setCell (.inl UV) _ _).setCell (.inl UV) _ _).setCell (.inl UV) _ _
theorem yJ(a:Obj):Vj w.heap.size w ((w.alloc a).alloc aX)/\((w.alloc a).alloc aX).heap[w.heap.size+1]?=Ve aX:=by
 refine⟨((zr _ _).alloc (zq _) _).alloc UV _,?_⟩;have:=cC (w.alloc a) aX
 rwa [World.size_alloc] at this
theorem aZ{cs:Array Vi}{t:Vm}(h:Z.heap[Q]?=Ve (.cells cs t))(i:U8)(c:cs[i]?=Ve v):Z.cell? ⟨Q,i,Vd⟩=Ve v:=by simp[VL,h,c]
theorem uQ(w:Vh)(o:Obj):Vj w.heap.size w ((w.alloc o).alloc aX)/\((w.alloc o).alloc aX).heap[w.heap.size+1]?=Ve aX/\((w.alloc o).alloc aX).heap[w.heap.size]?=Ve o/\w.heap.size+1<((w.alloc o).alloc aX).heap.size :=
 ⟨(yJ o).1,(yJ o).2,(Below.heap_alloc _ _ _ UV).trans (cC w o),by simp⟩
theorem cO{fn:Func}{R:Ending->Vh->Prop}{tm:Array Vi}{a b c e f g i:Vi}(A:fn.results=#[.cell k 40])(y:Q7 Z Q)(z:R (.returned (.agg #[a,b,c,e,f,g,i])) (cK Z Q a b c e f g i))(ht:tm[k]?=Ve (.pointer (Ve ⟨Q,0,Vd⟩)):=by rfl):bodyPost prog fn R .ret ⟨tm,[]⟩ (cK Z Q a b c e f g i):=by
 obtain⟨x,t,r,q,o,m,h,_⟩:=y;refine bodyPost_ret ?_ rfl z;simp only[results,A];simp[ht,go_sem,cK,x,t,r,q,o,m,h]
theorem eD.base{c:U8->U6 aW}(h:eD w B c v l)(f:B'<=B):eD w B' c v l:=⟨YF h.own f,h.no⟩
theorem eD.append{c:U8->U6 aW}{u:Vi}{m:U5 U9}(h:eD w B c v l)(k:eD w B c u m)(R:B<=w.heap.size)(O:∀ b,w.heap.size<=b->c b=Vd)(V:l.length+m.length<=100000):
  ∃ (v':Vi) (w':Vh),(∀ f,(YG #[38,38] f #[v,u]).run prog w=.ok v' w')/\eD w' B c v' (l++m)/\w.grownBy w' v.ownBlock/\(v'.ownBlock=v.ownBlock\/v'.ownBlock=Ve w.heap.size):=by
 obtain⟨H,o,C,A,z⟩:=info_parts pE;rcases k.own.2 with ⟨rfl,S⟩|⟨g,cap,T,rfl,D,X,h1,h2,h3,Y⟩
 ·have N:m=[]:=List.length_eq_zero_iff.1 S;subst N;refine⟨v,w,fun f=>run_append_owned_none (P:=prog) w B 38 f 3 H 1 underlying38 o v l.length _ h.own,by rw[X5];exact h,⟨rfl,rfl,rfl,Nat.le_refl _,fun _ _ _=>rfl⟩,.inl rfl⟩
 ·have t:=fun f=>run_append_own_at (P:=prog) w B 38 f 3 H _ 1 8 underlying38 o C A z rfl UW v l.length _ h.own ⟨g,0,Vd⟩ m.length cap (m.map (V4 .i64)) UV (fun j x r=>by
   have W:j<m.length:=by
    have:=List.getElem?_eq_some_iff.1 r;obtain⟨h,_⟩:=this
    simpa using h
   have e:=k.own.cellAt j UU;have q:(⟨g,0,Vd⟩:Addr).add j=⟨g,j,Vd⟩:=by unfold Addr.add;split <;> simp_all
   rw[q,e];exact r) (by
   intro x r;obtain⟨y,_,rfl⟩:=Wm.1 r
   rfl) U1 UU R
  obtain⟨v',w',K,J,I,U,E⟩:=t 0;refine⟨v',w',fun f=>?_,⟨by rw[V5,Wr];exact J,fun b D=>?_⟩,I,E⟩
  ·exact K
  ·rcases E with e|e
   ·exact h.no b (by rw[<- e];exact D)
   ·rw[D] at e
    cases e
    exact O _ (zq _)
theorem Iq{P:Program}{o:Oper}{a:Act}{K:Act->Vh->Prop}{Q:Exit->Act->Vh->Prop}(s x:Operand)(t:Vm)(v':Vi)
  (f:o.op=.call { callee:=.builtin .append,args:=#[s,x],argTypes:=#[t,t] }) (c:(YG #[t,t] o.type #[a.eval s,a.eval x]).run P w=.ok v' w') (h:K (a.put o.dst v') w'):o.wp P a w K Q:=by
 unfold YH execOp;simp only[f,resolve,invoke,builtin,Sem.run_bind,Sem.run_pure,Result.andThen_ok,List.map_toArray,XS,List.map_nil,c];exact h
theorem UM{P:Program}{c:Array Oper}{o:Oper}{a:Act}{K:Act->Vh->Prop}{Q:Exit->Act->Vh->Prop}{E:Prop}(g:o.guard=Vd)(s x:Operand)(t:Vm)(v':Vi)
  (q:o.op=.call { callee:=.builtin .append,args:=#[s,x],argTypes:=#[t,t] }) (f:(YG #[t,t] o.type #[a.eval s,a.eval x]).run P w=.ok v' w') (h:K (a.put o.dst v') w'):
  if YI o (yielded c a.tmps)=Vg then YH P o a w K Q else E:=by
 have m:YI o (yielded c a.tmps)=Vg:=by simp[YI,g]
 rw[Vb m];exact Iq s x t v' q f h
theorem NC{P:Program}{c:Array Oper}{rest:U5 Oper}{o:Oper}{a:Act}{Q:Exit->Act->Vh->Prop}(g:o.guard=Vd)(s x:Operand)(t:Vm)(v':Vi)
  (m:o.op=.call { callee:=.builtin .append,args:=#[s,x],argTypes:=#[t,t] }) (f:(YG #[t,t] o.type #[a.eval s,a.eval x]).run P w=.ok v' w') (h:wpList P c Q rest (a.put o.dst v') w'):wpList P c Q (o :: rest) a w :=
 wpList_plain g fun _ q=>Iq s x t v' m f (q _ _ h)
theorem qZ{P:Program}{c:Array Oper}{o:Oper}{a:Act}{K:Act->Vh->Prop}{Q:Exit->Act->Vh->Prop}{E:Prop}(g:o.guard=Vd)(f:FuncId)(xs:Array Operand)(m:Array Vm)
  (r:o.op=.call { callee:=.value (.func f),args:=xs,argTypes:=m }) (args:Array Vi) (y:xs.map a.eval=args) (t:(callFunc f args).run P w=.ok (.enter f args) w) {R:Ending->Vh->Prop}(x:Vk P f args w R) (h:∀ e w',R e w'->∃ v,e=.returned v/\K (a.put o.dst v) w'):
  if YI o (yielded c a.tmps)=Vg then YH P o a w K Q else E:=by
 have q:YI o (yielded c a.tmps)=Vg:=by simp[YI,g]
 rw[Vb q];unfold YH
 have C:(execOp a.eval o).run P w=.ok (.enter f args) w:=by
  simp[execOp,r,resolve,invoke,Act.eval,Deferred.ofValue,y,t]
 rw[C,Oper.upon_enter];refine x.mono ?_;intro e w' z;obtain⟨v,rfl,A⟩:=h e w' z;exact A
open aA (aL St dB kept dZ cS cN gD cA bW gJ ec gy nk Inv)
theorem lI(c:U9)(w:Vh):
  Vk prog 141 #[.int .i64 c] w fun e w'=>e=.returned (bC c 0 0 (.slice Vd 0 0) (.slice Vd 0 0) (.slice Vd 0 0) (.slice Vd 0 0))/\Vj w.heap.size w w':=by
 go_in
 have f:Hid (Vj w.heap.size w (w.alloc (.cells #[.int .i64 c,.int .i64 0,.int .i64 0,.slice Vd 0 0,.slice Vd 0 0,.slice Vd 0 0,.slice Vd 0 0] 40))):=(zr _ _).alloc (zq _) _
 go_wp2_with fail
 exact bodyPost_ret (v:=bC c 0 0 (.slice Vd 0 0) (.slice Vd 0 0) (.slice Vd 0 0) (.slice Vd 0 0)) (by simp[results,results141,go_sem,bC]) rfl ⟨rfl,f.out⟩
theorem SX(c:Array Vi)(w:Vh):(callFunc 65 c).run prog w=.ok (.enter 65 c) w:=UZ
theorem Ip{r:Raw}(f:Of s r)(o:s.ts.Pairwise fun t u=>bW t.1 u.1=Vf)(h:jH r.tg name=Ve b):∃ (i:U8)(c:i<r.tg.length),r.tg[i].name=name/\r.tg[i].tb=b/\aA.bJ name s.ts=r.tg[i].aH:=by
 rw[sR] at h
 cases e:r.tg.find? fun t=>bW t.name name with
 |none=>rw[e] at h;cases h
 |some t =>
  rw[e] at h;obtain⟨i,c,rfl⟩:=XZ (Yl e);have g:r.tg[i].name=name:=sL.1 (by simpa using Ym e);refine⟨i,c,g,by simpa using h,?_⟩;have m:=Cd o (i:=i) (by rw[<- f.len];exact c);rw[f.jS c] at m;rw[<- g];exact m
theorem Io{r:Raw}(g:Of s r)(h:jH r.tg name=Vd):aA.bJ name s.ts=0:=by
 refine vZ (fun t ht e=>?_);rw[<- g.ts] at ht;obtain⟨x,f,rfl⟩:=Wm.1 ht;rw[sR] at h
 cases c:r.tg.find? fun t=>bW t.name name with
 |none =>
  have:=Yk.1 c x f;exact this (sL.2 e)
 |some y=>rw[c] at h;cases h
def qQ(s:St)(r:Raw)(name:U4)(c:U9)(e:Ending):Prop :=
 (c≠0/\e=.returned (.tuple #[.pointer Vd,.int .i64 c]))\/(c=0/\∃ (i:U8) (f:i<r.tg.length),r.tg[i].name=name/\aA.bJ name s.ts=r.tg[i].aH/\e=.returned (.tuple #[.pointer (Ve ⟨r.tg[i].tb,0,Vd⟩),.int .i64 0]))
theorem OP(w:Vh):(zeroValue 198).run prog w=.ok (.pointer Vd) w:=by simp[go_sem]
theorem II{r:Raw}{K:U8->U6 aW}(h:DK w d r K)(t:Of s r)(y:ec s)(name:U4)(R:name.size<=1000)(u:U9):
  Vk prog 146 #[.pointer (Ve ⟨d,0,Vd⟩),.string name,.int .i64 u] w fun e w'=>qQ s r name (aA.dH s.ts name u) e/\w'=w:=by
 obtain⟨m,f,X,W,E,D⟩:=h.mt;have P:=Bc R;have c:=E.look AZ underlying137 (OP w) P;rw[D name] at c
 cases ht:jH r.tg name with
 |none =>
  rw[ht] at c;have O:=Io t ht;have q:aA.dH s.ts name u=3:=by unfold aA.dH;rw[Vb O]
  have o:(YJ 137 (.map (Ve m)) (.string name) Vf).run prog w=.ok (.pointer Vd) w:=c;have z:Hid (qQ s r name (aA.dH s.ts name u) (.returned (.tuple #[.pointer Vd,.int .i64 3]))):=.inl ⟨by rw[q];omega,by rw[q]⟩;clear c q O ht E D h t y
  go_in
  go_wp2
  go_ret2;exact⟨z.out,rfl⟩
 |some b =>
  rw[ht] at c;obtain⟨i,J,q,C,A⟩:=Ip t y.tn ht;obtain⟨U,T,Fl,Y,H,N⟩:=h.th i J;have S:=H.c1;rw[C] at S
  have g:aA.bJ name s.ts≠0:=by
   rw[A];have I:(r.tg[i].name,r.tg[i].aH)∈s.ts:=by rw[<- t.jS J];exact zg _
   have:=(y.tu _ I).1;simp only at this;omega
  have o:(YJ 137 (.map (Ve m)) (.string name) Vf).run prog w=.ok (.pointer (Ve ⟨b,0,Vd⟩)) w:=c
  by_cases V:r.tg[i].aH<u
  ·have x:aA.dH s.ts name u=7:=by unfold aA.dH;rw[Va g,Vb UU]
   have z:Hid (qQ s r name (aA.dH s.ts name u) (.returned (.tuple #[.pointer Vd,.int .i64 7]))):=.inl ⟨by rw[x];omega,by rw[x]⟩;clear c ht E D h t y q C A H N g x;generalize r.tg[i].aH=un at *
   go_in
   go_wp2
   go_ret2;exact⟨z.out,rfl⟩
  ·have x:aA.dH s.ts name u=0:=by unfold aA.dH;rw[Va g,Va UU]
   have z:Hid (qQ s r name (aA.dH s.ts name u) (.returned (.tuple #[.pointer (Ve ⟨b,0,Vd⟩),.int .i64 0]))):=.inr ⟨x,i,J,q,A,by rw[C]⟩;clear c ht E D h t y q C A H N g x;generalize r.tg[i].aH=un at *
   go_in
   go_wp2
   go_ret2;exact⟨z.out,rfl⟩
def fA(s:St)(name:U4)(u fr til:U9):U9:=if aA.dH s.ts name u≠0 then aA.dH s.ts name u else if til<=fr then 6 else 0
theorem vS{r:Raw}{t:U8->U6 aW}(h:DK w d r t)(y:Of s r)(z:ec s)(name:U4)(H:name.size<=1000)(u fr til:U9):
  Vk prog 143 #[.pointer (Ve ⟨d,0,Vd⟩),.string name,.int .i64 u,.agg #[.int .i64 fr,.int .i64 til]] w fun e w'=>qQ s r name (fA s name u fr til) e/\Vj w.heap.size w w':=by
 have m:Vj w.heap.size w (w.alloc (.cells #[.int .i64 fr,.int .i64 til] 60)):=(zr _ _).alloc (zq _) _;have D:=aC (II (h.later m) y z name H u);have C:=aC m;clear h y z m
 go_in
 go_wp2_with fail
 refine D.out.mono ?_;rintro e w1 ⟨E,c⟩;have x:=aC (show Vj w.heap.size w w1 by rw[c];exact C.out);have K:w1.cell? ⟨w.heap.size,0,Vd⟩=Ve (.int .i64 fr):=by rw[c];simp
 have J:w1.cell? ⟨w.heap.size,1,Vd⟩=Ve (.int .i64 til):=by rw[c];simp
 clear c D C;rcases E with ⟨f,rfl⟩|⟨f,i,I,q,o,rfl⟩
 ·have g:Hid (qQ s r name (fA s name u fr til) (.returned (.tuple #[.pointer Vd,.int .i64 (aA.dH s.ts name u)]))):=by
   have:fA s name u fr til=aA.dH s.ts name u:=by unfold fA;rw[Vb f]
   rw[this];exact .inl ⟨f,rfl⟩
  generalize aA.dH s.ts name u=e0 at *;have N:(e0 != 0)=Vg:=by simpa using f
  go_wp2
  go_ret2;exact⟨g.out,x.out⟩
 ·by_cases A:til<=fr
  ·have g:Hid (qQ s r name (fA s name u fr til) (.returned (.tuple #[.pointer Vd,.int .i64 6]))):=by
    have:fA s name u fr til=6:=by unfold fA;rw[Va UU,Vb A]
    rw[this];exact .inl ⟨by omega,rfl⟩
   clear f q o
   go_wp2
   go_ret2;exact⟨g.out,x.out⟩
  ·have g:Hid (qQ s r name (fA s name u fr til) (.returned (.tuple #[.pointer (Ve ⟨r.tg[i].tb,0,Vd⟩),.int .i64 0]))):=by
    have:fA s name u fr til=0:=by unfold fA;rw[Va UU,Va A]
    rw[this];exact .inr ⟨rfl,i,I,q,o,rfl⟩
   clear f q o
   go_wp2
   go_ret2;exact⟨g.out,x.out⟩
def fC(p:U9 × U9):U5 Vi:=[.int .i64 p.1,.int .i64 p.2]
def ef(p:aL × Vi):U5 Vi:=[.int .i64 p.1.id,.int .i64 p.1.kind,.string p.1.aT,.int .i64 p.1.aH,p.2,.int .i64 p.1.bY]
structure qM(w:Vh)(B:U8)(aM:U8->U6 aW)(v:Vi)(L:U5 (U9 × U9)):Prop where
 own:w.ownsRow B 60 2 v L.length (L.flatMap fC)
 no:∀ b,v.ownBlock=Ve b->aM b=Vd
structure gI(w:Vh)(B:U8)(aM:U8->U6 aW)(v:Vi)(l:U5 (aL × Vi)):Prop where
 own:w.ownsRow B 58 6 v l.length (l.flatMap ef)
 no:∀ b,v.ownBlock=Ve b->aM b=Vd
 sp:∀ p∈l,qM w B aM p.2 p.1.aK/\∀ b,p.2.ownBlock=Ve b->v.ownBlock≠Ve b
 pw:l.Pairwise fun p q=>∀ b,p.2.ownBlock=Ve b->q.2.ownBlock≠Ve b
theorem gI.nil(w:Vh)(B:U8)(c:U8->U6 aW):gI w B c (.slice Vd 0 0) []:=⟨WK _ _ _ _,(fun b f=>by cases f),UV,X0⟩
def kv(w:Vh)(B:U8)(c:U8->U6 aW)(v:Vi)(p:aA.bO):Prop :=
 ∃ (m g h f:Vi) (l:U5 (aL × Vi)),v=bC p.err p.at_ p.n m g h f/\l.map (·.1)=p.entries/\gI w B c m l/\eD w B c g p.days/\eD w B c h p.granted/\eD w B c f p.ended/\(∀ b,h.ownBlock=Ve b->m.ownBlock≠Ve b/\g.ownBlock≠Ve b/\f.ownBlock≠Ve b/\∀ q∈l,q.2.ownBlock≠Ve b)/\∀ b,g.ownBlock=Ve b->f.ownBlock≠Ve b
theorem kv.plain(w:Vh)(B:U8)(f:U8->U6 aW)(e n:U9):kv w B f (bC e 0 n (.slice Vd 0 0) (.slice Vd 0 0) (.slice Vd 0 0) (.slice Vd 0 0)) ⟨e,0,n,[],[],[],[]⟩ :=
 ⟨_,_,_,_,[],rfl,rfl,gI.nil _ _ _,eD.nil _ _ _,eD.nil _ _ _,eD.nil _ _ _,(fun b c=>by cases c),fun b c=>by cases c⟩
def dX(w:Vh)(d:U8)(g:U8->U6 aW)(q:St × aA.bO)(v:Vi)(w':Vh):Prop :=
 ∃ (f:Raw) (c:U8->U6 aW),DK w' d f c/\Of q.1 f/\Wl f/\Hl f/\Step anyS w.heap.size g c w w'/\kv w' w.heap.size c v q.2
structure dS(w:Vh)(d:U8)(s:St)(r:Raw)(aM:U8->U6 aW):Prop where
 dk:DK w d r aM
 of:Of s r
 wl:Wl r
 hl:Hl r
 inv:Inv s
theorem dS.aS{r:Raw}{c:U8->U6 aW}(h:dS w d s r c):ec s:=h.inv.aS
theorem UK{r:Raw}(c:Of s r){g:EG}(o:(r.eg.map (·.e.id)).Nodup)(f:g∈r.eg):aA.nf g.e.id s.es=Ve g.e:=by
 unfold aA.nf
 cases h:s.es.find? fun e=>decide (e.id=g.e.id) with
 |none =>
  have:=Yk.1 h g.e (c.mem f);simp at this
 |some e =>
  have t:=Yl h;have q:=Ym h;obtain⟨x,m,rfl⟩:=c.get t;have:x=g:=oM _ o m f (by simpa using q);rw[this]
theorem UF{r:Raw}(f:Of s r)(h:gv r.eg id=Vd):aA.nf id s.es=Vd:=by
 unfold aA.nf;refine Yk.2 (fun e g=>?_);obtain⟨x,c,rfl⟩:=f.get g
 simpa using Gt h x c
theorem vR{q m:U8->U6 aW}{t:St}{o:Raw}(I:DK Z d o m)(H:Of t o)(E:Wl o)(D:Hl o)(C:Step anyS w.heap.size q m w Z)(A:w.heap.size<=Q)(y:m Q=Vd)(z n:U9)(a b c e f g i:Vi):
  dX w d q (t,⟨z,0,n,[],[],[],[]⟩) (bC z 0 n (.slice Vd 0 0) (.slice Vd 0 0) (.slice Vd 0 0) (.slice Vd 0 0)) (cK Z Q a b c e f g i):=by
 have k:=lF Z Q a b c e f g i;have st:Step anyS w.heap.size m m Z (cK Z Q a b c e f g i):=⟨⟨_,k,fun x r=>.inr (by have:x=Q:=YD.1 r;subst this;exact⟨y,A⟩)⟩,fun _ _ h=>h,fun _ _ h=>.inl h⟩;exact⟨o,m,I.off k (fun x r=>by have:x=Q:=YD.1 r;subst this;exact y),H,E,D,C.trans st,kv.plain _ _ _ _ _⟩
theorem dS.said{r:Raw}{m:U8->U6 aW}(h:dS w d s r m)(k:Vj w.heap.size w Z)(q:w.heap.size<=Q)(o n:U9)(a b c e f g i:Vi):
  dX w d m (s,⟨o,0,n,[],[],[],[]⟩) (bC o 0 n (.slice Vd 0 0) (.slice Vd 0 0) (.slice Vd 0 0) (.slice Vd 0 0)) (cK Z Q a b c e f g i) :=
 vR (h.dk.later k) h.of h.wl h.hl (Step.below k) q (h.dk.none q) o n a b c e f g i
theorem dS.refuse{r:Raw}{c:U8->U6 aW}(h:dS w d s r c)(o:Vj w.heap.size w w1)(m:Q7 w1 (w.heap.size+1))(g:Vj w1.heap.size w1 w2){f:U9}{l:aA.fJ}(q:aA.aU s l=(s,aA.bO.error f)):
  Q7 w2 (w.heap.size+1)/\dX w d c (aA.aU s l) (bC f 0 0 (.slice Vd 0 0) (.slice Vd 0 0) (.slice Vd 0 0) (.slice Vd 0 0)) (cK w2 (w.heap.size+1) (.int .i64 f) (.int .i64 0) (.int .i64 0) (.slice Vd 0 0) (.slice Vd 0 0) (.slice Vd 0 0) (.slice Vd 0 0)) :=
 ⟨m.later (g.block _ (Vr _ _ m.q0)),by rw[q];exact h.said (o.trans (g.mono o.size)) UU f 0 _ _ _ _ _ _ _⟩
theorem iy{e size:U8}(h:w.ownsRow B e size v n xs):∃ a cap,v=.slice a n cap:=by
 rcases h.2 with ⟨rfl,c⟩|⟨g,cap,_,rfl,_⟩
 ·rw[c];exact⟨_,_,rfl⟩
 ·exact⟨_,_,rfl⟩
theorem qM.off{c:U8->U6 aW}{l:U5 (U9 × U9)}(h:qM w B c v l)(k:aF G w w')(m:∀ x∈G,x<B):qM w' B c v l :=
 ⟨dO h.own k (fun b g f=>by have:=(h.own.lt b g).1;have:=m b f;omega),h.no⟩
theorem eD.off{c:U8->U6 aW}(h:eD w B c v l)(k:aF G w w')(m:∀ x∈G,x<B):eD w' B c v l :=
 ⟨dO h.own k (fun b g f=>by have:=(h.own.lt b g).1;have:=m b f;omega),h.no⟩
theorem gI.off{c:U8->U6 aW}{l:U5 (aL × Vi)}(h:gI w B c v l)(k:aF G w w')(g:∀ x∈G,x<B):gI w' B c v l :=
 ⟨dO h.own k (fun b o m=>by have:=(h.own.lt b o).1;have:=g b m;omega),h.no,fun p f=>⟨(h.sp p f).1.off k g,(h.sp p f).2⟩,h.pw⟩
theorem gI.base{c:U8->U6 aW}{l:U5 (aL × Vi)}(h:gI w B c v l)(g:B'<=B):gI w B' c v l :=
 ⟨YF h.own g,h.no,fun p f=>⟨⟨YF (h.sp p f).1.own g,(h.sp p f).1.no⟩,(h.sp p f).2⟩,h.pw⟩
theorem kv.off{c:U8->U6 aW}{p:aA.bO}(h:kv w B c v p)(k:aF G w w')(f:∀ x∈G,x<B):kv w' B c v p:=by
 obtain⟨m,D,g,o,l,C,A,z,y,t,r,q⟩:=h;exact⟨m,D,g,o,l,C,A,z.off k f,y.off k f,t.off k f,r.off k f,q⟩
theorem kv.base{c:U8->U6 aW}{p:aA.bO}(h:kv w B c v p)(f:B'<=B):kv w B' c v p:=by
 obtain⟨m,C,g,o,l,A,z,y,x,t,r,q⟩:=h;exact⟨m,C,g,o,l,A,z,y.base f,x.base f,t.base f,r.base f,q⟩
theorem dX.up{X:Vh}{r:U8->U6 aW}{q:St × aA.bO}(h:dX X d r q v w2)(E:Vj w.heap.size w X)(hQ:w.heap.size<=Q)(o:Q<X.heap.size)(D:r Q=Vd)(h7:Q7 X Q):
  ∃ (er at_ n:U9) (a1 a2 a3 a4:U6 Addr) (W V U T K J I H:U8),v=bC er at_ n (.slice a1 W K) (.slice a2 V J) (.slice a3 U I) (.slice a4 T H)/\Q7 w2 Q/\∀ a b c e f g i,dX w d r q v (cK w2 Q a b c e f g i):=by
 obtain⟨S,m,k1,k2,k3,Y,y,z⟩:=h;have hR:=z;obtain⟨en,da,gr,ed,l,rfl,_,R,P,O,N,_⟩:=z;obtain⟨b1,K,rfl⟩:=iy R.own;obtain⟨b2,J,rfl⟩:=P.slice;obtain⟨b3,I,rfl⟩:=O.slice;obtain⟨b4,H,rfl⟩:=N.slice;refine⟨_,_,_,_,_,_,_,_,_,_,_,_,_,_,_,rfl,h7.later (y.bV o D o),fun a b c e f g i=>?_⟩;have k:=lF w2 Q a b c e f g i;have C:=y.cU D o;have A:=E.size;have st:Step anyS w.heap.size m m w2 (cK w2 Q a b c e f g i):=⟨⟨_,k,fun x t=>.inr (by have:x=Q:=YD.1 t;subst this;exact⟨C,hQ⟩)⟩,fun _ _ h=>h,fun _ _ h=>.inl h⟩;exact⟨S,m,k1.off k (fun x t=>by have:x=Q:=YD.1 t;subst this;exact C),k2,k3,Y,((Step.below E).trans (y.any A)).trans st,(hR.off k (fun x t=>by have:x=Q:=YD.1 t;omega)).base A⟩
theorem qM.later{c:U8->U6 aW}{l:U5 (U9 × U9)}(h:qM w B c v l)(k:Vj w.heap.size w w'):qM w' B c v l:=⟨eu h.own k,h.no⟩
theorem gI.later{c:U8->U6 aW}{l:U5 (aL × Vi)}(h:gI w B c v l)(k:Vj w.heap.size w w'):gI w' B c v l:=⟨eu h.own k,h.no,fun p f=>⟨(h.sp p f).1.later k,(h.sp p f).2⟩,h.pw⟩
def gM:St:=⟨[],[],0,0⟩
def mW:Raw:=⟨0,0,[],[],[],[]⟩
def pC(N:U8)(k:U8):U6 aW:=if k=N then Ve .mt else if k=N+1 then Ve .me else if k=N+2 then Ve .desk else Vd
theorem NI:Inv gM:=by
 refine⟨by simp[gM],by simp[gM],by simp[gM],by simp[gM,dB],by simp[gM],by simp[gM],by simp[gM],by simp[gM],by simp[gM],by simp[gM],by simp[gM],by simp[gM,aA.eh],by simp[gM],fun name x=>?_⟩;simp[gM,aA.bP,aA.bJ]
def FU(w:Vh)(v:Vi)(w':Vh):Prop:=v=.pointer (Ve ⟨w.heap.size+2,0,Vd⟩)/\dS w' (w.heap.size+2) gM mW (pC w.heap.size)/\Vj w.heap.size w w'
theorem S8(w:Vh):Vk prog 60 #[] w fun e w'=>∃ v,e=.returned v/\FU w v w':=by
 have H:=@run_makeMap prog
 have S:Hid (FU w (.pointer (Ve ⟨w.heap.size+2,0,Vd⟩)) (((w.alloc (.map #[] 0)).alloc (.map #[] 0)).alloc (.cells #[.int .i64 0,.int .i64 0,.map (Ve w.heap.size),.map (Ve (w.heap.size+1)),.slice Vd 0 0,.slice Vd 0 0] 144))):=by
  have s1:(w.alloc (.map #[] 0)).heap.size=w.heap.size+1:=UV
  have D:((w.alloc (.map #[] 0)).alloc (.map #[] 0)).heap.size=w.heap.size+2:=UV
  have E:=eW.made prog 9 w;have A:=eW.made prog 3 (w.alloc (.map #[] 0));have f:=cC ((w.alloc (.map #[] 0)).alloc (.map #[] 0)) (.cells #[.int .i64 0,.int .i64 0,.map (Ve w.heap.size),.map (Ve (w.heap.size+1)),.slice Vd 0 0,.slice Vd 0 0] 144);have R:(((w.alloc (.map #[] 0)).alloc (.map #[] 0)).alloc (.cells #[.int .i64 0,.int .i64 0,.map (Ve w.heap.size),.map (Ve (w.heap.size+1)),.slice Vd 0 0,.slice Vd 0 0] 144)).heap[w.heap.size]?=(w.alloc (.map #[] 0)).heap[w.heap.size]?:=(Below.heap_alloc _ _ _ UU).trans (Below.heap_alloc _ _ _ UU);have P:(((w.alloc (.map #[] 0)).alloc (.map #[] 0)).alloc (.cells #[.int .i64 0,.int .i64 0,.map (Ve w.heap.size),.map (Ve (w.heap.size+1)),.slice Vd 0 0,.slice Vd 0 0] 144)).heap[w.heap.size+1]?=((w.alloc (.map #[] 0)).alloc (.map #[] 0)).heap[w.heap.size+1]?:=Below.heap_alloc _ _ _ UU;have h:Vj w.heap.size w (((w.alloc (.map #[] 0)).alloc (.map #[] 0)).alloc (.cells #[.int .i64 0,.int .i64 0,.map (Ve w.heap.size),.map (Ve (w.heap.size+1)),.slice Vd 0 0,.slice Vd 0 0] 144)):=(((zr _ _).alloc (zq _) _).alloc UU _).alloc UU _;have T:(((w.alloc (.map #[] 0)).alloc (.map #[] 0)).alloc (.cells #[.int .i64 0,.int .i64 0,.map (Ve w.heap.size),.map (Ve (w.heap.size+1)),.slice Vd 0 0,.slice Vd 0 0] 144)).heap.size=w.heap.size+3:=UV
  rw[D] at f;rw[s1] at A;have q:=E.block R;have m:=A.block P;generalize ((w.alloc (.map #[] 0)).alloc (.map #[] 0)).alloc (.cells #[.int .i64 0,.int .i64 0,.map (Ve w.heap.size),.map (Ve (w.heap.size+1)),.slice Vd 0 0,.slice Vd 0 0] 144)=Z at *;have O:Z.cell? ⟨w.heap.size+2,4,Vd⟩=Ve (.slice Vd 0 0):=by simp only[VL,f];rfl
  have N:Z.cell? ⟨w.heap.size+2,5,Vd⟩=Ve (.slice Vd 0 0):=by simp only[VL,f];rfl
  refine⟨rfl,⟨⟨?_,?_,⟨w.heap.size,_,?_,by simp[pC],q,fun n=>rfl⟩,⟨w.heap.size+1,_,?_,by simp[pC],m,fun n=>rfl⟩,⟨_,O,WK _ _ _ _,fun b h=>by cases h⟩,⟨_,⟨N,WK _ _ _ _,U3,frozen_of_row _ _ _ _ _ f⟩,fun b h=>by cases h⟩,fun i y=>by simp[mW] at y,fun g z=>by simp[mW] at z,by simp[mW],by simp[mW],fun o=>frozen_of_row _ _ _ _ _ f,by simp[pC],fun k c C=>?_⟩,⟨rfl,rfl,rfl,rfl,fun i y=>by simp[mW] at y,fun g z=>by simp[mW] at z⟩,rfl,⟨?_,List.Perm.nil⟩,NI⟩,h⟩
  ·simp only[VL,f];rfl
  ·simp only[VL,f];rfl
  ·simp only[VL,f];rfl
  ·simp only[VL,f];rfl
  ·unfold pC at C
   by_cases K:k=w.heap.size
   ·omega
   ·by_cases J:k=w.heap.size+1
    ·omega
    ·by_cases I:k=w.heap.size+2
     ·omega
     ·simp[K,J,I] at C
  ·intro i x t;have r:i<([]:U5 Hp.Hi).length:=by first|exact x|exact t
   simp at r
 go_in
 go_wp2
 go_ret;exact⟨_,rfl,S.out⟩
end Go.Proofs.YtfigmlfdnickmaaGreatDoor
