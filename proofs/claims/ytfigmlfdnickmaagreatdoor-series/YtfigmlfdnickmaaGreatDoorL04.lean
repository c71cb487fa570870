import Derived.Test.YtfigmlfdnickmaaGreatDoorL03
import Derived.Maps.Keyed
import Derived.LaidEqlPtr
import Derived.Lib.SliceRun
import Derived.Laws.Rows
set_option maxRecDepth 100000
set_option maxHeartbeats 8000000
open Go.Proofs.Tryz
open _root_ renaming ByteArray->U3,List->U4,Option->U5,Bool->U6,Nat->U7,Int->U8,if_neg->U9,if_pos->Va,absurd->Vb
open Option renaming none->Vc,some->Vd,mem_toList->WV,map_some->Ys
open Bool renaming false->Ve,true->Vf,false_eq_true->Vw,and_eq_true->W6
open Go renaming World->Vg,Value->Vh,Calls->Vj,TypeId->Vl
open Go.RowKit renaming Below->Vi
open Int renaming mul_nonneg->Wb
open List renaming filter_cons->VP,filter_append->VO,length_append->V4,mem_append->VA,mem_cons->Vz,append_nil->X4,filter_sublist->X5,mem_filter->XE,any_eq_true->XH,pairwise_append->XA,map_append->Wq,mem_map->Wk,append_of_mem->X6,map_cons->XR,pairwise_cons->VN,pairwise_map->XU,drop_eq_nil_of_le->WQ,drop_eq_getElem_cons->WN,map_set->Yb,set_getElem_self->Yc,mem_cons_self->Yd,map_map->Yf,map_congr_left->Yg,nodup_cons->VD,find?_map->Yi,find?_eq_none->Yj,mem_of_find?_eq_some->Yk,find?_some->Yl,filter_eq_self->XF,find?_cons->Ym,length_cons->V5,find?_append->Yn,length_take->Yo,take_succ_eq_append_getElem->Wf,getElem_of_mem->XY,getElem?_map->Yr,getElem?_eq_getElem->Xa,replicate->Yt,take_of_length_le->Wh,pairwise_iff_getElem->XX,nodup_iff_pairwise_ne->Yu,all_eq_true->Xe,filter_map->Yv,map_id->Yw,filter_filter->Yx,filter_congr->Yy,length_map->WK,length_filter_le->WG,foldl_cons->W8,mem_append_left->YA,mem_append_right->YB,mem_singleton->YC
open List.Pairwise renaming imp->X7,nil->XZ
open ByteArray.toList renaming loop->X8
open Go.Maps renaming Keyed->X9
open Go.IntKind renaming i64->Vo
open Go.World renaming block_lt_of_cell?->Vq,frozen?_of_block->WS,cell?_setCell_same->VE,ownsRow_nil->WJ,cell?->VK
open Classical renaming propDecidable->Ya
open Ne renaming symm->Ye
open Function renaming comp->Yh
open Nat renaming lt_of_lt_of_le->Wj,zero_le->Wg,le_trans->Vp
open List.Sublist renaming nodup->VS
open Go.Joins renaming ownsRow_form->Yp,ownsRow_le->YD
open Go.Value.slice renaming injEq->Yq
open List.Perm renaming cons_inv->Yz
open Go.Value renaming int->V3
open Go.Builtin renaming append_->YF
open Go.Oper renaming wp->YG
open Go.Region renaming wanted->YH
open Go.Instr renaming lookup->YI
namespace Go.Proofs.YtfigmlfdnickmaaGreatDoor
variable{a name:U3}{e:aA.aL}{given id now u:U8}{at':U8->U7}{ts:U4 (U3 × U8)}{L:U4 (U8 × U8)}{es es':U4 aA.aL}{Gr l:U4 U8}{F G M:U4 U7}{cs xs:U4 Vh}{B B' B0 Q b cap d fn i j k n:U7}{p:U7->U6}{s:aA.St}{v v' v4:Vh}{Z w w' w1 w2 wx:Vg}
namespace aA
theorem gv.small(h:gv now e):Small e:=⟨by have:=h.u1;omega,h.u9,by have:=h.sl;omega⟩
structure ec(s:St):Prop where
 tl:s.ts.length<=4
 tu:∀ t∈s.ts,1<=t.2/\t.2<=9
 tn:s.ts.Pairwise fun t u=>bW t.1 u.1=Ve
 ids:dB s.es
 mO:∀ e∈s.es,1<=e.id/\e.id<=s.given
 g0:0<=s.given
 g1:s.given<=60
 n0:0<=s.now
 n1:s.now<=1048320
 en:∀ e∈s.es,gv s.now e
 th:∀ e∈s.es,e.aH<=bJ e.aT s.ts
 wa:eh s.es<=6
 wi:∀ name x,bP name x s.es<=bJ name s.ts
theorem Inv.aS(h:Inv s):ec s:=⟨h.tl,h.tu,h.tn,h.ids,h.mO,h.g0,h.g1,h.n0,h.n1,h.en,h.th,h.wa,h.wi⟩
theorem ec.inv(h:ec s)(c:∀ e∈s.es,e.kind=3->dG s.ts s.es e.aT e.aH e.aK=Ve):Inv s:=⟨h.tl,h.tu,h.tn,h.ids,h.mO,h.g0,h.g1,h.n0,h.n1,h.en,h.th,h.wa,c,h.wi⟩
theorem ec.small(h:ec s):∀ e∈s.es,Small e:=fun e c=>(h.en e c).small
theorem ec.pos(h:ec s):Pos s.es:=Small.pos h.small
theorem CN{a b:U3}(h:bW a b=Vf):∀ ts:U4 (U3 × U8),bJ a ts=bJ b ts
 |[]=>rfl
 |t :: r=>by simp only[bJ,Jf (c:=t.1) h,CN h r]
theorem QR{b:U3}(h:bW a b=Vf)(e:aL):cA a e=cA b e:=by unfold cA;rw[Jf h]
theorem CJ{a b:U3}(h:bW a b=Vf)(x:U8):∀ es:U4 aL,bP a x es=bP b x es
 |[]=>rfl
 |e :: r=>by simp only[bP,QR h,CJ h x r]
theorem CG(h:∀ t∈ts,1<=t.2/\t.2<=9)(name:U3):0<=bJ name ts/\bJ name ts<=9:=by
 induction ts with
 |nil=>simp[bJ]
 |cons t r ih =>
  have i:=ih (fun u c=>h u (by simp[c]));have j:=h t UU;simp only[bJ]
  split <;> omega
theorem UG{x:U8}(h:Pos es):0<=bP name x es:=by
 induction es with
 |nil=>simp[bP]
 |cons e r ih =>
  have i:=ih (fun z f=>h z (by simp[f]));have c:0<=cP e.aK x*e.aH:=Wb (pQ e.aK x).1 (h e UU);simp only[bP]
  split <;> omega
theorem Jp{name:U3}{x:U8}(p:aL->U6):∀ {es:U4 aL},Pos es->bP name x (es.filter p)<=bP name x es
 |[],_=>Int.le_refl _
 |e :: r,h=>by
  have i:=Jp (name:=name) (x:=x) p (es:=r) (fun z f=>h z (by simp[f]));have c:0<=cP e.aK x*e.aH:=Wb (pQ e.aK x).1 (h e UU);rw[VP]
  split
  ·simp only[bP];omega
  ·simp only[bP];split <;> omega
theorem Uu(o:Pos es)(f:Pos es')(g:0<=u)(h:∀ x,bP name x es<=bP name x es')(k:dG ts es name u L=Ve):dG ts es' name u L=Ve:=by
 cases c:dG ts es' name u L
 ·rfl
 ·have:dG ts es name u L=Vf:=(ue o g).2 (fun x m=>by
   have:=(ue f g).1 c x m;have:=h x
   omega)
  rw[this] at k;cases k
theorem Iy(name:U3)(x:U8)(l r:U4 aL)(e:aL)(c:e.kind=3):bP name x (l++cS e :: r)=bP name x (l++e :: r)+if bW e.aT name then cP e.aK x*e.aH else 0:=by
 have o:cA name e=Ve:=by simp[cA,c]
 rw[yH,yH];simp only[bP,o,v7,Vw,if_false];show _+((if bW e.aT name=Vf then cP e.aK x*e.aH else 0)+_)=_;omega
theorem OH{l r:U4 aL}{c:aL}(h:dB (l++e :: r))(k:c.id=e.id):dB (l++c :: r):=by
 unfold dB at *
 simpa[k] using h
theorem Jz(l r:U4 aL):eh (l++r)=eh l+eh r:=by
 unfold eh;rw[VO,V4];omega
theorem Ji(e:aL)(r:U4 aL):eh (e :: r)=(if e.kind=3 then 1 else 0)+eh r:=by
 unfold eh;rw[VP]
 by_cases c:e.kind=3
 ·rw[Va (by simp[c]),Va c];simp;omega
 ·rw[U9 (by simp[c]),U9 c];omega
theorem gv.book(h:gv now e):gv now (cS e):=⟨h.u1,h.u9,h.sl,h.s0,h.sp,h.ri,.inl ⟨rfl,rfl⟩⟩
theorem ec.qd{l r:U4 aL}(h:ec ⟨ts,l++e :: r,given,now⟩)(o:e.kind=3)(q:dG ts (l++e :: r) e.aT e.aH e.aK=Vf):ec ⟨ts,l++cS e :: r,given,now⟩:=by
 have m:e∈l++e :: r:=UU
 have g:∀ z∈l++cS e :: r,z=cS e\/z∈l++e :: r:=by
  intro z f;simp only[VA,Vz] at f ⊢;rcases f with f|f|f
  ·exact .inr (.inl f)
  ·exact .inl f
  ·exact .inr (.inr (.inr f))
 have u1:=(h.en e m).u1;refine⟨h.tl,h.tu,h.tn,OH h.ids rfl,fun z f=>?_,h.g0,h.g1,h.n0,h.n1,fun z f=>?_,fun z f=>?_,?_,fun name x=>?_⟩
 ·rcases g z f with rfl|f
  ·exact h.mO e m
  ·exact h.mO z f
 ·rcases g z f with rfl|f
  ·exact (h.en e m).book
  ·exact h.en z f
 ·rcases g z f with rfl|f
  ·exact h.th e m
  ·exact h.th z f
 ·have:=h.wa;show eh (l++cS e :: r)<=6;have this:eh (l++e :: r)<=6:=this;rw[Jz,Ji] at this ⊢;have y:(cS e).kind=1:=rfl;rw[U9 (by rw[y];omega)];rw[Va o] at this;omega
 ·show bP name x (l++cS e :: r)<=bJ name ts;rw[Iy name x l r e o];have w:bP name x (l++e :: r)<=bJ name ts:=h.wi name x
  split
  ·rename_i c
   by_cases t:0<cP e.aK x
   ·have:=(ue h.pos UT).1 q x t;rw[CJ c x,CN c ts] at this;exact this
   ·have b:=(pQ e.aK x).1;have:cP e.aK x=0:=UT
    rw[this];simpa using w
  ·omega
theorem Cm(ts:U4 (U3 × U8))(given now:U8):∀ (r f:U4 aL),ec ⟨ts,f++r,given,now⟩->(∀ e∈f,e.kind=3->dG ts (f++r) e.aT e.aH e.aK=Ve) ->
  Inv ⟨ts,(dQ ts f r).1,given,now⟩
 |[],f,h,no=>by
  simp only[dQ];rw[X4] at h no;exact h.inv no
 |e :: r,f,h,no=>by
  simp only[dQ]
  by_cases c:e.kind=3/\dG ts (f++e :: r) e.aT e.aH e.aK=Vf
  ·rw[Va c];have q:=h.qd c.1 c.2;refine Cm ts given now r (f++[cS e]) (by simpa using q) (fun z g m=>?_);rcases VA.1 g with g|g
   ·have o:z∈f++e :: r:=by simp[g]
    refine Uu (es:=f++e :: r) h.pos (by simpa using q.pos) (by have:=(h.en z o).u1;omega) (fun x=>?_) (no z g m);rw[show f++[cS e]++r=f++cS e :: r from by simp,Iy _ x f r e c.1];have:=Wb (pQ e.aK x).1 (show 0<=e.aH by have:=(h.en e UU).u1;omega)
    split <;> omega
   ·have:z=cS e:=by simpa using g
    rw[this] at m;exact Vb m (by show ¬ (1:U8)=3;omega)
  ·rw[U9 c];refine Cm ts given now r (f++[e]) (by simpa using h) (fun z g m=>?_);rw[show f++[e]++r=f++e :: r from by simp];rcases VA.1 g with g|g
   ·exact no z g m
   ·have:z=e:=by simpa using g
    subst this
    cases t:dG ts (f++z :: r) z.aT z.aH z.aK
    ·rfl
    ·exact Vb ⟨m,t⟩ c
theorem Uv(h:ec ⟨ts,es,given,now⟩):Inv ⟨ts,(ey ts es).1,given,now⟩ :=
 Cm ts given now es [] (by simpa using h) UU
theorem TV(p:aL->U6)(l:U4 aL):eh (l.filter p)<=eh l:=by
 unfold eh;have:=((X5 (p:=p) (l:=l)).filter (fun e=>e.kind==3)).length_le;omega
theorem ec.filter{now':U8}(h:ec ⟨ts,es,given,now⟩)(p:aL->U6)(A:now<=now')(m:now'<=1048320)(r:∀ e∈es,p e=Vf->e.kind≠1->now'<e.bY):ec ⟨ts,es.filter p,given,now'⟩:=by
 have t:0<=now:=h.n0;have c:∀ z∈es.filter p,z∈es:=fun z f=>(XE.1 f).1
 refine⟨h.tl,h.tu,h.tn,yk p h.ids,fun z f=>h.mO z (c z f),h.g0,h.g1,by show 0<=now';omega,m,fun z f=>?_,fun z f=>h.th z (c z f),?_,fun name x=>?_⟩
 ·have k:=h.en z (c z f);refine⟨k.u1,k.u9,k.sl,k.s0,k.sp,k.ri,?_⟩;rcases k.kd with g|⟨g,y,q,o⟩
  ·exact .inl g
  ·exact .inr ⟨g,r z (c z f) (XE.1 f).2 UT,q,o⟩
 ·have:=h.wa;have this:eh es<=6:=this;have:=TV p es;show eh (es.filter p)<=6;omega
 ·have a:=Jp (name:=name) (x:=x) p h.pos;have b:=h.wi name x;show bP name x (es.filter p)<=bJ name ts;have a:bP name x (es.filter p)<=bP name x es:=a;have b:bP name x es<=bJ name ts:=b;omega
theorem CD(name:U3)(t:U3 × U8):∀ ts:U4 (U3 × U8),bJ name (ts++[t])=if (ts.any fun u=>bW u.1 name)=Vf then bJ name ts else if bW t.1 name then t.2 else 0
 |[]=>by simp[bJ]
 |u :: r=>by
  have ih:=CD name t r;have o:bJ name (u :: r++[t])=if bW u.1 name then u.2 else bJ name (r++[t]):=rfl
  have m:bJ name (u :: r)=if bW u.1 name then u.2 else bJ name r:=rfl
  rw[o,m]
  by_cases h:bW u.1 name=Vf
  ·have:((u :: r).any fun u=>bW u.1 name)=Vf:=XH.2 ⟨u,by simp,h⟩;rw[Va h,Va h,Va this]
  ·rw[U9 h,U9 h,ih]
   by_cases c:(r.any fun u=>bW u.1 name)=Vf
   ·have:((u :: r).any fun u=>bW u.1 name)=Vf:=by
     obtain⟨z,f,k⟩:=XH.1 c;exact XH.2 ⟨z,by simp[f],k⟩
    rw[Va c,Va this]
   ·have:¬ ((u :: r).any fun u=>bW u.1 name)=Vf:=by
     intro g;obtain⟨z,f,k⟩:=XH.1 g;rcases Vz.1 f with e|f
     ·rw[e] at k;exact h k
     ·exact c (XH.2 ⟨z,f,k⟩)
    rw[U9 c,U9 this]
theorem vY{name:U3}:∀ {ts:U4 (U3 × U8)},(∀ t∈ts,1<=t.2/\t.2<=9)->(bJ name ts=0↔∀ t∈ts,bW t.1 name=Ve)
 |[],_=>by simp[bJ]
 |u :: r,h=>by
  have i:=vY (name:=name) (ts:=r) (fun t ht=>h t (by simp[ht]));have j:=h u UU;simp only[bJ,List.forall_mem_cons]
  cases c:bW u.1 name
  ·simp only[Vw,if_false,true_and];exact i
  ·simp only[if_true];constructor
   ·intro e;omega
   ·rintro ⟨e,_⟩;cases e
theorem UC{t:U3 × U8}(h:∀ t∈ts,1<=t.2/\t.2<=9)(g:bJ name ts≠0):bJ name (ts++[t])=bJ name ts:=by
 rw[CD,Va]
 cases c:ts.any fun u=>bW u.1 name
 ·exfalso;apply g;rw[vY h];intro u f
  cases d:bW u.1 name
  ·rfl
  ·have:ts.any (fun u=>bW u.1 name)=Vf:=XH.2 ⟨u,f,d⟩;rw[this] at c;cases c
 ·rfl
theorem Inv.aT(h:Inv s)(o:1<=u/\u<=9)(q:bJ name s.ts=0)(D:s.ts.length≠4):Inv { s with ts:=s.ts++[(name,u)] }:=by
 have g:=(vY h.tu).1 q;have un:∀ m,bJ m s.ts≠0->bJ m (s.ts++[(name,u)])=bJ m s.ts:=fun m r=>UC h.tu r
 have pos:∀ e∈s.es,bJ e.aT s.ts≠0:=fun e f=>by
  have:=h.th e f;have:=(h.en e f).u1;omega
 have C:=h.tl;refine⟨?_,fun t ht=>?_,?_,h.ids,h.mO,h.g0,h.g1,h.n0,h.n1,h.en,fun e f=>?_,h.wa,fun e f y=>?_,fun m x=>?_⟩
 ·show (s.ts++[(name,u)]).length<=4;simp;omega
 ·rcases VA.1 ht with ht|ht
  ·exact h.tu t ht
  ·have:t=(name,u):=by simpa using ht
   subst this;exact o
 ·show (s.ts++[(name,u)]).Pairwise _;rw[XA];refine⟨h.tn,by simp,fun a A b z=>?_⟩;have:b=(name,u):=by simpa using z
  subst this;exact g a A
 ·show e.aH<=bJ e.aT (s.ts++[(name,u)]);rw[un _ (pos e f)];exact h.th e f
 ·have:=h.no e f y;show dG (s.ts++[(name,u)]) s.es e.aT e.aH e.aK=Ve;unfold dG at this ⊢;rw[un _ (pos e f)];exact this
 ·show bP m x s.es<=bJ m (s.ts++[(name,u)])
  by_cases c:bJ m s.ts=0
  ·have w:=h.wi m x;have b:=UG (name:=m) (x:=x) h.aS.pos
   have:0<=bJ m (s.ts++[(name,u)]):=by
    rw[CD]
    split
    ·omega
    ·split <;> simp <;> omega
   omega
  ·rw[un m c];exact h.wi m x
theorem Inv.join(h:Inv s)(I:s.given≠60)(g:gv s.now e)(ht:e.aH<=bJ e.aT s.ts)(r:e.kind=3->eh s.es≠6)(y:e.kind≠3->dG s.ts s.es e.aT e.aH e.aK=Vf):ec (jy s e).1:=by
 have K:=h.g0;have J:=h.g1;have o:=h.mO;have H:=h.wa;have q:gv s.now { e with id:=s.given+1 }:=⟨g.u1,g.u9,g.sl,g.s0,g.sp,g.ri,g.kd⟩
 have m:∀ z∈s.es++[{ e with id:=s.given+1 }],z∈s.es\/z={ e with id:=s.given+1 }:=by
  intro z f;rcases VA.1 f with f|f
  ·exact .inl f
  ·exact .inr (by simpa using f)
 unfold jy;refine⟨h.tl,h.tu,h.tn,?_,fun z f=>?_,by show 0<=s.given+1;omega,by show s.given+1<=60;omega,h.n0,h.n1,fun z f=>?_,fun z f=>?_,?_,fun name x=>?_⟩
 ·show dB (s.es++[{ e with id:=s.given+1 }]);unfold dB;rw[Wq,XA];refine⟨h.ids,by simp,fun a C b A=>?_⟩;obtain⟨z,f,rfl⟩:=Wk.1 C;have:b=s.given+1:=by simpa using A
  have:=o z f;omega
 ·rcases m z f with f|rfl
  ·have:=o z f;show 1<=z.id/\z.id<=s.given+1;omega
  ·show 1<=s.given+1/\s.given+1<=s.given+1;omega
 ·rcases m z f with f|rfl
  ·exact h.en z f
  ·exact q
 ·rcases m z f with f|rfl
  ·exact h.th z f
  ·exact ht
 ·show eh (s.es++[{ e with id:=s.given+1 }])<=6;rw[Jz,Ji];have E:eh ([]:U4 aL)=0:=by simp[eh]
  rw[E];show eh s.es+((if e.kind=3 then 1 else 0)+0)<=6
  by_cases c:e.kind=3
  ·rw[Va c];have:=r c;omega
  ·rw[U9 c];omega
 ·show bP name x (s.es++[{ e with id:=s.given+1 }])<=bJ name s.ts;rw[yH];have w:=h.wi name x;have D:bP name x [{ e with id:=s.given+1 }]=(if cA name e then cP e.aK x*e.aH else 0):=by simp[bP,cA]
  rw[D]
  by_cases c:cA name e=Vf
  ·rw[Va c];simp[cA] at c
   by_cases t:0<cP e.aK x
   ·have:=(ue h.aS.pos (by have:=g.u1;omega)).1 (y c.2) x t;rw[CJ c.1 x,CN c.1 s.ts] at this;exact this
   ·have b:=(pQ e.aK x).1;have:cP e.aK x=0:=UT
    rw[this];simpa using w
  ·rw[U9 c];omega
theorem UA(g:dB es)(q:e∈es)(h:e.id=id):∃ l r,es=l++e :: r/\dZ id es=l++cS e :: r/\kept id es=l++r:=by
 obtain⟨l,r,rfl⟩:=X6 q;refine⟨l,r,rfl,?_,?_⟩
 ·have f:∀ z∈l++r,z.id≠id:=by
   intro z c t;unfold dB at g;rw[Wq,XR,XA,VN] at g;rcases VA.1 c with c|c
   ·have:=g.2.2 z.id (Wk.2 ⟨z,c,rfl⟩) e.id UU;omega
   ·have:=g.2.1.1 z.id (Wk.2 ⟨z,c,rfl⟩);omega
  have o:=yx (id:=id) (es:=l) (fun z c=>f z (by simp[c]));have m:=yx (id:=id) (es:=r) (fun z c=>f z (by simp[c]));unfold dZ at o m ⊢;rw[Wq,XR,o,m,Va h]
 ·have f:∀ z∈l++r,z.id≠id:=by
   intro z c t;unfold dB at g;rw[Wq,XR,XA,VN] at g;rcases VA.1 c with c|c
   ·have:=g.2.2 z.id (Wk.2 ⟨z,c,rfl⟩) e.id UU;omega
   ·have:=g.2.1.1 z.id (Wk.2 ⟨z,c,rfl⟩);omega
  have o:=BV (id:=id) (es:=l) (fun z c=>f z (by simp[c]));have m:=BV (id:=id) (es:=r) (fun z c=>f z (by simp[c]));unfold kept at o m ⊢;rw[VO,VP,o,m,U9 (by simp[h])]
theorem Rd.jT{r:Rd.bL}(h:Rd.fu r)(q:Rd.gb r=0):ov (Rd.gd r (Rd.bH r))/\gI (Rd.gd r (Rd.bH r))/\Rd.gd r (Rd.bH r)≠[]/\(Rd.gd r (Rd.bH r)).length<=40:=by
 obtain⟨_,m,g,f⟩:=(Rd.pL h).2 q;have z:=h.f0;have x:=h.m0;have y:=h.i1;refine⟨fun s o=>?_,?_,by simpa[Rd.gd] using m,by simpa[Rd.gd] using g⟩
 ·obtain⟨d,c,rfl⟩:=Wk.1 o;have a:=Rd.sH h c;have b:=f d c;show 0<=d*1440+r.mn/\d*1440+r.mn<d*1440+r.mn+r.mi/\d*1440+r.mn+r.mi<=1048320;omega
 ·unfold gI Rd.gd;rw[XU];refine X7 ?_ (Rd.IB h);intro a b t;show a*1440+r.mn<b*1440+r.mn;omega
theorem Hu(h:dH ts name u=0):bJ name ts≠0/\u<=bJ name ts:=by
 unfold dH at h
 split at h
 ·omega
 ·split at h
  ·omega
  ·constructor <;> omega
theorem Sr{l:fI}(h:(aU s l).2.err≠0):(aU s l).1=s:=by
 cases l with
 |aT name u =>
  simp only[aU] at h ⊢
  by_cases m:bJ name s.ts≠0
  ·rw[Va m]
  ·rw[U9 m] at h ⊢
   by_cases g:s.ts.length=4
   ·rw[Va g]
   ·rw[U9 g] at h;exact Vb rfl h
 |enter k name u fr til long =>
  simp only[aU] at h ⊢
  by_cases c:rj s k name u fr til long≠0
  ·rw[Va c]
  ·rw[U9 c] at h;exact Vb rfl h
 |series name u r =>
  simp only[aU] at h ⊢
  by_cases c:mJ s name u r≠0
  ·rw[Va c]
  ·rw[U9 c] at h;exact Vb rfl h
 |confirm id =>
  simp only[aU] at h ⊢
  cases f:nc id s.es with
  |none=>rfl
  |some e =>
   rw[f] at h;simp only at h ⊢
   by_cases c:e.kind≠2
   ·rw[Va c]
   ·rw[U9 c] at h;exact Vb rfl h
 |cancel id =>
  simp only[aU] at h ⊢
  cases f:nc id s.es with
  |none=>rfl
  |some e=>rw[f] at h;exact Vb rfl h
 |list name fr til =>
  simp only[aU]
  split
  ·rfl
  ·split <;> rfl
 |waiting=>rfl
 |cY name fr til =>
  simp only[aU]
  split
  ·rfl
  ·split <;> rfl
 |find name u long fr til =>
  simp only[aU]
  split
  ·rfl
  ·split <;> rfl
 |expand r =>
  simp only[aU]
  split <;> rfl
 |tick n =>
  simp only[aU] at h ⊢
  by_cases c:1048320<s.now+n
  ·rw[Va c]
  ·rw[U9 c] at h;exact Vb rfl h
 |clock=>rfl
end aA
open Go.RowKit
theorem Oo(b:U3):∀ (n i:U7)(r:U4 UInt8),b.size-i=n->X8 b i r=r.reverse++b.data.toList.drop i:=by
 intro n
 induction n with
 |zero =>
  intro i r h;rw[X8,U9 UT,WQ UZ];simp
 |succ n ih =>
  intro i r h;have c:i<b.size:=UT
  rw[X8,Va c,ih (i+1) _ UT];have f:i<b.data.toList.length:=by simpa using c
  rw[WN f];simp[ByteArray.get!,c]
theorem Fq(b:U3):b.toList=b.data.toList:=by
 unfold ByteArray.toList;rw[Oo b b.size 0 [] UT];simp
theorem sK{b:U3}:aA.bW a b=Vf↔a=b:=by
 constructor
 ·intro h;have h:=aA.Ca.1 h;rw[Fq,Fq] at h
  cases a;cases b
  simp at h;rw[h]
 ·rintro rfl;exact aA.qX _
theorem pS{b:U3}:aA.bW a b=Ve↔a≠b:=by
 cases h:aA.bW a b
 ·simp;rintro rfl;rw[aA.qX] at h;cases h
 ·simp;exact sK.1 h
def mE(a:U3):Lit:=.string a.data.toList
def jt(n:U8):Lit:=.int .i64 n
theorem Qg{b:U3}(h:mE a=mE b):a=b:=by
 cases a;cases b
 simp[mE] at h;rw[h]
theorem GL{a b:U8}(h:jt a=jt b):a=b:=by simpa[jt] using h
theorem AY:X9 prog 9:=Maps.string_keyed underlying9
theorem xH:X9 prog 3:=Maps.int_keyed underlying3
theorem Bb{s:U3}(h:s.size<=1000):keyOf prog 9 (.string s)=Vd (mE s):=by
 unfold keyOf mapKey;rw[underlying9];simp only;rw[Va U0];rfl
theorem xR{n:U8}(m:-1000000000000<=n)(h:n<=1000000000000):keyOf prog 3 (.int .i64 n)=Vd (jt n):=by
 unfold keyOf mapKey;rw[underlying3];simp only;have f:Vo.min=-9223372036854775808:=rfl;have c:Vo.max=9223372036854775807:=rfl;have g:(Lit.int .i64 n).wf=Vf:=by simp[Lit.wf,f,c];omega
 rw[Va ⟨trivial,g⟩];rfl
inductive aW where
 |desk|mt|me|wa|he|ent|span
 |aT (i:U7)
structure TG where
 name:U3
 aH:U8
 tb:U7
 A:U4 U6->U8
 T:aE.S
structure EG where
 e:aA.aL
 eb:U7
 B:U7
 cap:U7
 tb:U7
def jG(c:U4 TG)(name:U3):U5 U7:=((c.map fun t=>(t.name,t.tb)).find? fun p=>aA.bW p.1 name).map (·.2)
def gu(c:U4 EG)(id:U8):U5 U7:=((c.map fun g=>(g.e.id,g.eb)).find? fun p=>decide (p.1=id)).map (·.2)
structure gQ(w:Vg)(g:EG):Prop where
 en:gP w g.eb g.e.id g.tb g.e.aH g.B g.cap g.e.aK
 k:w.cell? ⟨g.eb,1,Vc⟩=Vd (.int .i64 g.e.kind)
 u:w.cell? ⟨g.eb,5,Vc⟩=Vd (.int .i64 g.e.bY)
 fz:∀ o,w.frozen? ⟨g.eb,o,Vc⟩=Ve
 bl:∃ cs,w.heap[g.eb]?=Vd (.cells cs 200 (0,0))
theorem gQ.lt{g:EG}(h:gQ w g):g.eb<w.heap.size:=Vq _ _ h.k
theorem gQ.off{g:EG}(h:gQ w g)(k:aF G w w')(c:g.eb ∉ G)(f:g.B ∉ G):gQ w' g :=
 ⟨h.en.off k c f,k.cell c h.k,k.cell c h.u,fun o=>(k.frozen c h.lt).trans (h.fz o),by obtain⟨cs,e⟩:=h.bl;exact⟨cs,(k.block _ h.lt c).trans e⟩⟩
def jv(b:U7):Vh:=.pointer (Vd ⟨b,0,Vc⟩)
structure Raw where
 now:U8
 given:U8
 tg:U4 TG
 eg:U4 EG
 wl:U4 U7
 hl:U4 Hp.Hi
structure DK(w:Vg)(d:U7)(r:Raw)(aM:U7->U5 aW):Prop where
 c0:w.cell? ⟨d,0,Vc⟩=Vd (.int .i64 r.now)
 c1:w.cell? ⟨d,1,Vc⟩=Vd (.int .i64 r.given)
 mt:∃ m f,w.cell? ⟨d,2,Vc⟩=Vd (.map (Vd m))/\aM m=Vd .mt/\eW prog 9 w m r.tg.length f r.tg.length/\∀ name,f (mE name)=jG r.tg name
 me:∃ m f,w.cell? ⟨d,3,Vc⟩=Vd (.map (Vd m))/\aM m=Vd .me/\eW prog 3 w m r.eg.length f r.eg.length/\∀ id,f (jt id)=gu r.eg id
 wa:∃ v,w.cell? ⟨d,4,Vc⟩=Vd v/\w.ownsRow 0 197 1 v r.wl.length (r.wl.map jv)/\∀ b,v.ownBlock=Vd b->aM b=Vd .wa
 he:∃ v,HP w d 5 v r.hl/\∀ b,v.ownBlock=Vd b->aM b=Vd .he
 th:∀ (i:U7) (h:i<r.tg.length),∃ ul us Fl Fs,TH w r.tg[i].tb r.tg[i].name r.tg[i].aH r.tg[i].A r.tg[i].T ul us Fl Fs/\∀ k∈r.tg[i].tb :: (Fl++Fs),aM k=Vd (.aT i)
 en:∀ g∈r.eg,gQ w g/\aM g.eb=Vd .ent/\aM g.B=Vd .span
 nd:(r.eg.map (·.eb)).Nodup
 ni:(r.eg.map (·.e.id)).Nodup
 fz:∀ o,w.frozen? ⟨d,o,Vc⟩=Ve
 dc:aM d=Vd .desk
 lt:∀ k c,aM k=Vd c->k<w.heap.size
theorem DK.off{r:Raw}{aM:U7->U5 aW}(h:DK w d r aM)(k:aF G w w')(N:∀ x∈G,aM x=Vc):DK w' d r aM:=by
 have z:∀ {x:U7}{c:aW},aM x=Vd c->x ∉ G:=fun C D=>by rw[N _ D] at C;cases C
 have A:=z h.dc;refine⟨k.cell A h.c0,k.cell A h.c1,?_,?_,?_,?_,?_,?_,h.nd,h.ni,fun o=>(k.frozen A (h.lt d _ h.dc)).trans (h.fz o),h.dc,fun x c C=>zL (h.lt x c C) k.size⟩
 ·obtain⟨m,f,t,q,y,H⟩:=h.mt;exact⟨m,f,k.cell A t,q,y.block (k.block m (h.lt m _ q) (z q)),H⟩
 ·obtain⟨m,f,t,q,y,H⟩:=h.me;exact⟨m,f,k.cell A t,q,y.block (k.block m (h.lt m _ q) (z q)),H⟩
 ·obtain⟨v,t,q,y⟩:=h.wa;exact⟨v,k.cell A t,dO q k (fun b E=>z (y b E)),y⟩
 ·obtain⟨v,t,q⟩:=h.he;exact⟨v,t.off k A (fun b E=>z (q b E)),q⟩
 ·intro i K;obtain⟨J,I,P,O,t,q⟩:=h.th i K;exact⟨J,I,P,O,t.off k (fun x C=>z (q x C)),q⟩
 ·intro g D;obtain⟨t,q,y⟩:=h.en g D;exact⟨t.off k (z q) (z y),q,y⟩
theorem DK.later{r:Raw}{aM:U7->U5 aW}(h:DK w d r aM)(k:Vi w.heap.size w w'):DK w' d r aM:=h.off (G:=[]) (aF.aD k) UU
structure Step(S:aW->Prop)(B:U7)(aM col':U7->U5 aW)(w w':Vg):Prop where
 off:∃ G,aF G w w'/\∀ x∈G,(∃ c,aM x=Vd c/\S c)\/(aM x=Vc/\B<=x)
 gj:∀ k c,aM k=Vd c->col' k=Vd c
 new:∀ k c,col' k=Vd c->aM k=Vd c\/B<=k
theorem Step.refl(S:aW->Prop)(B:U7)(c:U7->U5 aW)(w:Vg):Step S B c c w w:=⟨⟨[],aF.refl _ _,by simp⟩,fun _ _ h=>h,fun _ _ h=>.inl h⟩
theorem Step.below{S:aW->Prop}{c:U7->U5 aW}(h:Vi w.heap.size w w'):Step S B c c w w':=⟨⟨[],aF.aD h,by simp⟩,fun _ _ h=>h,fun _ _ h=>.inl h⟩
theorem Step.size{S:aW->Prop}{f c:U7->U5 aW}(h:Step S B f c w w'):w.heap.size<=w'.heap.size:=by obtain⟨G,g,_⟩:=h.off;exact g.size
theorem Step.mono{S m:aW->Prop}{g f:U7->U5 aW}(h:Step S B g f w w')(q:∀ c,S c->m c)(z:B'<=B):Step m B' g f w w':=by
 obtain⟨G,y,t⟩:=h.off;refine⟨⟨G,y,fun x o=>?_⟩,h.gj,fun k c r=>(h.new k c r).imp id (fun e=>by omega)⟩;rcases t x o with ⟨c,a,b⟩|⟨a,b⟩
 ·exact .inl ⟨c,a,q c b⟩
 ·exact .inr ⟨a,by omega⟩
theorem Step.trans{S:aW->Prop}{o t r:U7->U5 aW}{a b c:Vg}(h:Step S B o t a b)(k:Step S B t r b c):Step S B o r a c:=by
 obtain⟨G,C,A⟩:=h.off;obtain⟨K,z,y⟩:=k.off;refine⟨⟨G++K,?_,fun x f=>?_⟩,fun x c f=>k.gj x c (h.gj x c f),fun x c f=>?_⟩
 ·exact (C.mono (fun x f=>by simp[f])).trans' z (fun x f=>.inl (by simp[f]))
 ·rcases VA.1 f with f|f
  ·exact A x f
  ·rcases y x f with ⟨c,g,m⟩|⟨g,m⟩
   ·rcases h.new x c g with e|e
    ·exact .inl ⟨c,e,m⟩
    ·cases q:o x with
     |none=>exact .inr ⟨rfl,e⟩
     |some c' =>
      have:=h.gj x c' q;rw[g] at this
      cases this
      exact .inl ⟨c,rfl,m⟩
   ·cases q:o x with
    |none=>exact .inr ⟨rfl,m⟩
    |some c'=>rw[h.gj x c' q] at g;cases g
 ·rcases k.new x c f with e|e
  ·exact h.new x c e
  ·exact .inr e
theorem Step.jq{S:aW->Prop}{m g:U7->U5 aW}(h:Step S B m g w w'){c:aW}(t:b<w.heap.size)(o:m b=Vd c)(r:¬ S c):w'.heap[b]?=w.heap[b]?:=by
 obtain⟨G,y,x⟩:=h.off;refine y.block b t (fun q=>?_);rcases x b q with ⟨A,f,z⟩|⟨f,_⟩
 ·rw[o] at f;cases f;exact r z
 ·rw[o] at f;cases f
theorem Step.bV{S:aW->Prop}{f c:U7->U5 aW}(h:Step S B f c w w')(q:b<w.heap.size)(o:f b=Vc)(x:b<B):w'.heap[b]?=w.heap[b]?:=by
 obtain⟨G,t,r⟩:=h.off;refine t.block b q (fun m=>?_);rcases r b m with ⟨z,g,y⟩|⟨_,e⟩
 ·rw[o] at g;cases g
 ·omega
theorem Step.nN{S:aW->Prop}{g f:U7->U5 aW}(h:Step S B g f w w'){o:U7}{c:aW}(r:g b=Vd c)(q:¬ S c)(m:w.cell? ⟨b,o,Vc⟩=Vd v):w'.cell? ⟨b,o,Vc⟩=Vd v :=
 (zo (w:=w) (h.jq (Vq _ _ m) r q)).trans m
def Left(S:aW->Prop)(B:U7)(f:U7->U5 aW)(b:U7):Prop:=(∃ c,f b=Vd c/\¬ S c)\/(f b=Vc/\b<B)
theorem Step.left{S:aW->Prop}{m g:U7->U5 aW}(h:Step S B m g w w'):∃ G,aF G w w'/\∀ b,Left S B m b->b ∉ G:=by
 obtain⟨G,z,y⟩:=h.off;refine⟨G,z,fun b x t=>?_⟩;rcases y b t with ⟨A,o,r⟩|⟨o,r⟩ <;> rcases x with ⟨c,f,q⟩|⟨f,q⟩
 ·rw[o] at f;cases f;exact q r
 ·rw[o] at f;cases f
 ·rw[o] at f;cases f
 ·omega
theorem Step.uI{S:aW->Prop}{c f:U7->U5 aW}{g:EG}(h:Step S B c f w w')(o:gQ w g)(r:Left S B c g.eb)(q:Left S B c g.B):gQ w' g:=by
 obtain⟨G,t,m⟩:=h.left;exact o.off t (m _ r) (m _ q)
noncomputable def gM(f:U7->U5 aW)(F:U4 U7)(c:aW)(k:U7):U5 aW :=
 match f k with
 |some c'=>Vd c'
 |none=>@ite _ (k∈F) (Ya _) (Vd c) Vc
theorem B2{f:U7->U5 aW}{c c':aW}(h:f k=Vd c'):gM f F c k=Vd c':=by unfold gM;rw[h]
theorem tZ{f:U7->U5 aW}{c:aW}(h:k∈F)(m:∀ g,f k=Vd g->g=c):gM f F c k=Vd c:=by
 unfold gM
 cases e:f k with
 |none=>simp only;rw[Va h]
 |some g=>simp only;rw[m g e]
theorem oK{f:U7->U5 aW}{c m:aW}(h:gM f F c k=Vd m):f k=Vd m\/(f k=Vc/\k∈F/\c=m):=by
 unfold gM at h
 cases e:f k with
 |none =>
  rw[e] at h;simp only at h
  by_cases g:k∈F
  ·rw[Va g] at h;cases h;exact .inr ⟨rfl,g,rfl⟩
  ·rw[U9 g] at h;cases h
 |some c2=>rw[e] at h;exact .inl h
theorem ug{S:aW->Prop}{f:U7->U5 aW}{c:aW}(k:aF G w w')(m:∀ x∈G,(∃ c,f x=Vd c/\S c)\/(f x=Vc/\B<=x))(o:∀ x∈F,f x=Vc->B<=x):Step S B f (gM f F c) w w' :=
 ⟨⟨G,k,m⟩,fun _ _ h=>B2 h,fun k c g=>by rcases oK g with e|⟨r,q,t⟩;exact .inl e;exact .inr (o k q r)⟩
def TG.with(t:TG)(A:U4 U6->U8)(T:aE.S):TG:={ t with A:=A,T:=T }
def Raw.cW(r:Raw)(i:U7)(t:TG):Raw:={ r with tg:=r.tg.set i t }
theorem P9{c:U4 TG}(f:i<c.length)(A:U4 U6->U8)(T:aE.S)(name:U3):jG (c.set i (c[i].with A T)) name=jG c name:=by
 unfold jG
 have e:(c.set i (c[i].with A T)).map (fun t=>(t.name,t.tb))=c.map fun t=>(t.name,t.tb):=by
  rw[Yb];have:((c[i].with A T).name,(c[i].with A T).tb)=(c.map fun t=>(t.name,t.tb))[i]'(by simpa using f):=by simp[TG.with]
  rw[this,Yc]
 rw[e]
theorem DK.base{S:aW->Prop}{r:Raw}{f c:U7->U5 aW}(h:DK w d r f)(st:Step S B f c w w')(g:¬ S .desk):
  w'.cell? ⟨d,0,Vc⟩=Vd (.int .i64 r.now)/\w'.cell? ⟨d,1,Vc⟩=Vd (.int .i64 r.given)/\(∀ o,w'.frozen? ⟨d,o,Vc⟩=Ve)/\c d=Vd .desk/\∀ o,w'.cell? ⟨d,o,Vc⟩=w.cell? ⟨d,o,Vc⟩:=by
 have m:=st.jq (h.lt d _ h.dc) h.dc g;exact⟨st.nN h.dc g h.c0,st.nN h.dc g h.c1,fun o=>(WS (w:=w) m).trans (h.fz o),st.gj d _ h.dc,fun o=>zo m⟩
theorem DK.rD{S:aW->Prop}{r:Raw}{g c:U7->U5 aW}(h:DK w d r g)(st:Step S B g c w w')(t:w'.cell? ⟨d,2,Vc⟩=w.cell? ⟨d,2,Vc⟩)(q:¬ S .mt):
  ∃ m f,w'.cell? ⟨d,2,Vc⟩=Vd (.map (Vd m))/\c m=Vd .mt/\eW prog 9 w' m r.tg.length f r.tg.length/\∀ name,f (mE name)=jG r.tg name:=by
 obtain⟨m,f,z,o,y,x⟩:=h.mt;exact⟨m,f,t.trans z,st.gj m _ o,y.block (st.jq (h.lt m _ o) o q),x⟩
theorem DK.sW{S:aW->Prop}{r:Raw}{g c:U7->U5 aW}(h:DK w d r g)(st:Step S B g c w w')(t:w'.cell? ⟨d,3,Vc⟩=w.cell? ⟨d,3,Vc⟩)(q:¬ S .me):
  ∃ m f,w'.cell? ⟨d,3,Vc⟩=Vd (.map (Vd m))/\c m=Vd .me/\eW prog 3 w' m r.eg.length f r.eg.length/\∀ id,f (jt id)=gu r.eg id:=by
 obtain⟨m,f,z,o,y,x⟩:=h.me;exact⟨m,f,t.trans z,st.gj m _ o,y.block (st.jq (h.lt m _ o) o q),x⟩
theorem DK.rn{S:aW->Prop}{r:Raw}{f c:U7->U5 aW}(h:DK w d r f)(st:Step S B f c w w')(q:w'.cell? ⟨d,4,Vc⟩=w.cell? ⟨d,4,Vc⟩)(o:¬ S .wa):
  ∃ v,w'.cell? ⟨d,4,Vc⟩=Vd v/\w'.ownsRow 0 197 1 v r.wl.length (r.wl.map jv)/\∀ b,v.ownBlock=Vd b->c b=Vd .wa:=by
 obtain⟨v,y,x,m⟩:=h.wa;obtain⟨G,k,t⟩:=st.left;exact⟨v,q.trans y,dO x k (fun b g=>t b (.inl ⟨_,m b g,o⟩)),fun b g=>st.gj b _ (m b g)⟩
theorem DK.rF{S:aW->Prop}{r:Raw}{g f:U7->U5 aW}(h:DK w d r g)(st:Step S B g f w w')(y:w'.cell? ⟨d,5,Vc⟩=w.cell? ⟨d,5,Vc⟩)(x:w'.frozen? ⟨d,5,Vc⟩=Ve)(t:¬ S .he):
  ∃ v,HP w' d 5 v r.hl/\∀ b,v.ownBlock=Vd b->f b=Vd .he:=by
 obtain⟨v,o,q⟩:=h.he;obtain⟨G,k,z⟩:=st.left;exact⟨v,⟨y.trans o.c,dO o.own k (fun b m=>z b (.inl ⟨_,q b m,t⟩)),o.ne,x⟩,fun b m=>st.gj b _ (q b m)⟩
theorem DK.pW{S:aW->Prop}{r:Raw}{f c:U7->U5 aW}(h:DK w d r f)(st:Step S B f c w w')(i:U7)(z:i<r.tg.length)(y:¬ S (.aT i)):
  ∃ q o m g,TH w' r.tg[i].tb r.tg[i].name r.tg[i].aH r.tg[i].A r.tg[i].T q o m g/\∀ k∈r.tg[i].tb :: (m++g),c k=Vd (.aT i):=by
 obtain⟨q,o,m,g,D,x⟩:=h.th i z;obtain⟨G,k,C⟩:=st.left;exact⟨q,o,m,g,D.off k (fun b t=>C b (.inl ⟨_,x b t,y⟩)),fun b t=>st.gj b _ (x b t)⟩
theorem DK.rM{S:aW->Prop}{r:Raw}{f c:U7->U5 aW}(h:DK w d r f)(st:Step S B f c w w')(x:¬ S .ent)(q:¬ S .span):
  ∀ g∈r.eg,gQ w' g/\c g.eb=Vd .ent/\c g.B=Vd .span:=by
 intro g t;obtain⟨y,o,m⟩:=h.en g t;exact⟨st.uI y (.inl ⟨_,o,x⟩) (.inl ⟨_,m,q⟩),st.gj _ _ o,st.gj _ _ m⟩
theorem DK.aT{r:Raw}{g:U7->U5 aW}(h:DK w d r g)(i:U7)(X:i<r.tg.length)(H:∀ k∈r.tg[i].tb :: F,g k=Vd (.aT i)){A:U4 U6->U8}{T:aE.S}(n:fG w w' r.tg[i].tb r.tg[i].name r.tg[i].aH A T F):
  ∃ t,DK w' d (r.cW i (r.tg[i].with A T)) t/\Step (·=.aT i) w.heap.size g t w w':=by
 obtain⟨U,R,J,I,K,V⟩:=n.th
 have y:∀ k,w.heap.size<=k->g k=Vc:=fun k o=>by
  cases e:g k with
  |none=>rfl
  |some c=>have:=h.lt k c e;omega
 have z:∀ k∈J++I,g k=Vd (.aT i)\/(g k=Vc/\w.heap.size<=k):=fun k o=>by
  rcases V k o with e|e
  ·exact .inl (H k (by simp[e]))
  ·exact .inr ⟨y k e,e⟩
 have st:Step (·=.aT i) w.heap.size g (gM g (J++I) (.aT i)) w w':=ug n.off (fun x D=>.inl ⟨_,H x D,rfl⟩) (fun x D e=>by
  rcases z x D with q|q
  ·rw[e] at q;cases q
  ·exact q.2)
 refine⟨_,?_,st⟩;obtain⟨b1,b2,P,b4,C⟩:=h.base st UU;refine⟨b1,b2,?_,h.sW st (C 3) UU,h.rn st (C 4) UU,h.rF st (C 5) (P 5) UU,?_,h.rM st UU UU,h.nd,h.ni,P,b4,?_⟩
 ·obtain⟨m,f,a1,a2,a3,a4⟩:=h.rD st (C 2) UU;have e:(r.cW i (r.tg[i].with A T)).tg.length=r.tg.length:=by simp[Raw.cW]
  exact⟨m,f,a1,a2,by rw[e];exact a3,fun name=>by rw[a4];exact (P9 X A T name).symm⟩
 ·intro j W;have E:j<r.tg.length:=by simpa[Raw.cW] using W
  by_cases e:j=i
  ·subst e;have q:(r.cW j (r.tg[j].with A T)).tg[j]=r.tg[j].with A T:=by simp[Raw.cW]
   rw[q];refine⟨U,R,J,I,K,fun k o=>?_⟩;rcases Vz.1 o with rfl|o
   ·exact B2 (H r.tg[j].tb Yd)
   ·refine tZ o (fun c' N=>?_);rcases z k o with e|e
    ·rw[N] at e;cases e;rfl
    ·rw[N] at e;cases e.1
  ·have q:(r.cW i (r.tg[i].with A T)).tg[j]=r.tg[j]:=by simp[Raw.cW,Ye e]
   rw[q];exact h.pW st j E (by simpa using e)
 ·intro k c o;rcases oK o with O|⟨O,Y,h3⟩
  ·exact zL (h.lt k c O) st.size
  ·exact K.lt k (by simp only[Vz];exact .inr Y)
structure Fit(t:TG)(e:aA.aL):Prop where
 ok:ov e.aK
 bd:∀ p,0<=t.A p/\t.A p<=400000
 u1:1<=e.aH
 u2:e.aH<=9
 ll:e.aK.length<=100
theorem DK.pair{r:Raw}{c:U7->U5 aW}(h:DK w d r c)(i:U7)(C:i<r.tg.length){g:EG}(D:gQ w g)(ht:g.tb=r.tg[i].tb)(H:c g.eb≠Vd (.aT i))(E:c g.B≠Vd (.aT i))(f:Fit r.tg[i] g.e):
  ∃ F,xj w r.tg[i].tb g.eb g.B g.cap r.tg[i].name r.tg[i].aH r.tg[i].A r.tg[i].T F g.e.id g.e.aH g.e.aK/\∀ k∈r.tg[i].tb :: F,c k=Vd (.aT i):=by
 obtain⟨y,x,t,q,I,o⟩:=h.th i C;refine⟨t++q,⟨⟨y,x,t,q,I,fun k z=>z⟩,by rw[<- ht];exact D.en,fun m=>H (o _ m),fun m=>E (o _ m),f.ok,f.bd,f.u1,f.u2,f.ll⟩,o⟩
theorem Gq{r:Raw}{f:U7->U5 aW}(h:DK w d r f)(i:U7)(q:i<r.tg.length){g:EG}(x:gQ w g)(ht:g.tb=r.tg[i].tb)(D:f g.eb≠Vd (.aT i))(C:f g.B≠Vd (.aT i))(y:Fit r.tg[i] g.e)(m:ky (bZ r.tg[i].A g.e.aK g.e.aH) r.tg[i].aH g.e.aK=Ve):
  Vj prog 104 #[.pointer (Vd ⟨g.tb,0,Vc⟩),.pointer (Vd ⟨g.eb,0,Vc⟩)] w fun e w'=>e=.returned (.bool Ve)/\∃ c,DK w' d r c/\Step (·=.aT i) w.heap.size f c w w':=by
 obtain⟨F,p,z⟩:=h.pair i q x ht D C y;rw[ht];refine (OV w _ _ _ _ _ _ _ _ F _ _ _ p m).mono ?_;rintro e w' ⟨rfl,n⟩;obtain⟨c,o,t⟩:=h.aT i q z n;refine⟨rfl,c,?_,t⟩
 have e:r.cW i (r.tg[i].with r.tg[i].A r.tg[i].T)=r:=by
  have E:r.tg[i].with r.tg[i].A r.tg[i].T=r.tg[i]:=rfl;unfold Raw.cW;rw[E,Yc]
 rw[e] at o;exact o
theorem Hz{r:Raw}{c:U7->U5 aW}(h:DK w d r c)(i:U7)(o:i<r.tg.length){g:EG}(t:gQ w g)(ht:g.tb=r.tg[i].tb)(C:c g.eb≠Vd (.aT i))(z:c g.B≠Vd (.aT i))(x:Fit r.tg[i] g.e)(q:xr r.tg[i].T g.e.id g.e.aK)(m:ky (bZ r.tg[i].A g.e.aK g.e.aH) r.tg[i].aH g.e.aK=Vf):
  Vj prog 104 #[.pointer (Vd ⟨g.tb,0,Vc⟩),.pointer (Vd ⟨g.eb,0,Vc⟩)] w fun e w'=>e=.returned (.bool Vf)/\∃ f,DK w' d (r.cW i (r.tg[i].with (bZ r.tg[i].A g.e.aK g.e.aH) (gk g.e.id g.eb r.tg[i].T g.e.aK))) f/\Step (·=.aT i) w.heap.size c f w w':=by
 obtain⟨F,p,y⟩:=h.pair i o t ht C z x;rw[ht];refine (P5 w _ _ _ _ _ _ _ _ F _ _ _ p q m).mono ?_;rintro e w' ⟨rfl,n⟩;exact⟨rfl,h.aT i o y n⟩
theorem TS{r:Raw}{c:U7->U5 aW}(h:DK w d r c)(i:U7)(m:i<r.tg.length){g:EG}(t:gQ w g)(ht:g.tb=r.tg[i].tb)(D:c g.eb≠Vd (.aT i))(C:c g.B≠Vd (.aT i))(x:Fit r.tg[i] g.e)(q:aE.Ord (aE.bS r.tg[i].T))(o:aE.size r.tg[i].T<=9000)(z:∀ p,0<=bZ r.tg[i].A g.e.aK (-g.e.aH) p):
  Vj prog 205 #[.pointer (Vd ⟨g.tb,0,Vc⟩),.pointer (Vd ⟨g.eb,0,Vc⟩)] w fun e w'=>e=.returned (.tuple #[])/\∃ f,DK w' d (r.cW i (r.tg[i].with (bZ r.tg[i].A g.e.aK (-g.e.aH)) (jw g.e.id r.tg[i].T g.e.aK))) f/\Step (·=.aT i) w.heap.size c f w w':=by
 obtain⟨F,p,y⟩:=h.pair i m t ht D C x;rw[ht];refine (Tw w _ _ _ _ _ _ _ _ F _ _ _ p q o z).mono ?_;rintro e w' ⟨rfl,n⟩;exact⟨rfl,h.aT i m y n⟩
theorem DK.heap{r:Raw}{f:U7->U5 aW}(h:DK w d r f)(t:∀ b,v.ownBlock=Vd b->f b=Vd .he){D:U4 Hp.Hi}(p:lD w d 5 v D w'):
  ∃ g,DK w' d { r with hl:=D } g/\Step (fun c=>c=.he\/c=.desk) w.heap.size f g w w':=by
 obtain⟨v',C,A,J,m,I⟩:=p
 have st:Step (fun c=>c=.he\/c=.desk) w.heap.size f (gM f v'.ownBlock.toList .he) w w':=by
  refine ug J (fun x q=>?_) (fun x q e=>?_)
  ·rcases Vz.1 q with rfl|q
   ·exact .inl ⟨_,h.dc,.inr rfl⟩
   ·exact .inl ⟨_,t x (WV.1 q),.inl rfl⟩
  ·rcases A x (WV.1 q) with z|z
   ·rw[t x z] at e;cases e
   ·exact z
 refine⟨_,?_,st⟩;refine⟨(m 0 UT).trans h.c0,(m 1 UT).trans h.c1,h.rD st (m 2 UT) UU,h.sW st (m 3 UT) UU,h.rn st (m 4 UT) UU,⟨v',C,fun b E=>?_⟩,fun i N=>h.pW st i N UU,h.rM st UU UU,h.nd,h.ni,fun o=>(I o).trans (h.fz o),st.gj d _ h.dc,fun k c K=>?_⟩
 ·refine tZ (WV.2 E) (fun R y=>?_);rcases A b E with e|e
  ·rw[t b e] at y;cases y;rfl
  ·have:=h.lt b _ y;omega
 ·rcases oK K with H|⟨H,O,P⟩
  ·exact zL (h.lt k c H) st.size
  ·have:=C.own.lt k (WV.1 O);exact this.2
theorem DK.nm{r:Raw}{f:U7->U5 aW}(h:DK w d r f)(n:U8):DK (w.setCell ⟨d,1,Vc⟩ (.int .i64 n)) d { r with given:=n } f/\Step (·=.desk) w.heap.size f f w (w.setCell ⟨d,1,Vc⟩ (.int .i64 n)):=by
 have st:Step (·=.desk) w.heap.size f f w (w.setCell ⟨d,1,Vc⟩ (.int .i64 n)):=⟨⟨[d],aF.aY ..,fun x m=>.inl ⟨_,by simp at m;subst m;exact h.dc,rfl⟩⟩,fun _ _ h=>h,fun _ _ h=>.inl h⟩;have g:∀ o,o≠1->(w.setCell ⟨d,1,Vc⟩ (.int .i64 n)).cell? ⟨d,o,Vc⟩=w.cell? ⟨d,o,Vc⟩:=fun o g=>zS _ _ _ _ (by have:=g;simp)
 exact⟨⟨(g 0 UT).trans h.c0,VE _ _ _ h.c1,h.rD st (g 2 UT) UU,h.sW st (g 3 UT) UU,h.rn st (g 4 UT) UU,h.rF st (g 5 UT) ((zF ..).trans (h.fz 5)) UU,fun i t=>h.pW st i t UU,h.rM st UU UU,h.nd,h.ni,fun o=>(zF ..).trans (h.fz o),h.dc,fun k c q=>zL (h.lt k c q) st.size⟩,st⟩
theorem DK.jf{r:Raw}{g:U7->U5 aW}(h:DK w d r g)(D:∀ b,v.ownBlock=Vd b->g b=Vd .wa){wl':U4 U7}(k:aF v.ownBlock.toList w w1)(E:w1.ownsRow 0 197 1 v' wl'.length (wl'.map jv))(t:∀ b,v'.ownBlock=Vd b->v.ownBlock=Vd b\/w.heap.size<=b):
  ∃ m,DK (w1.setCell ⟨d,4,Vc⟩ v') d { r with wl:=wl' } m/\Step (fun c=>c=.wa\/c=.desk) w.heap.size g m w (w1.setCell ⟨d,4,Vc⟩ v'):=by
 have C:d ∉ v.ownBlock.toList:=fun e=>by have:=D d (WV.1 e);rw[h.dc] at this;cases this
 have I:=h.lt d _ h.dc;have q:w1.heap[d]?=w.heap[d]?:=k.block d I C;have O:aF (d :: v.ownBlock.toList) w (w1.setCell ⟨d,4,Vc⟩ v'):=(k.mono (by simp +contextual)).setCell (.inl UU) _ _
 have st:Step (fun c=>c=.wa\/c=.desk) w.heap.size g (gM g v'.ownBlock.toList .wa) w (w1.setCell ⟨d,4,Vc⟩ v'):=by
  refine ug O (fun x z=>?_) (fun x z e=>?_)
  ·rcases Vz.1 z with rfl|z
   ·exact .inl ⟨_,h.dc,.inr rfl⟩
   ·exact .inl ⟨_,D x (WV.1 z),.inl rfl⟩
  ·rcases t x (WV.1 z) with K|K
   ·rw[D x K] at e;cases e
   ·exact K
 have f:∀ o,o≠4->(w1.setCell ⟨d,4,Vc⟩ v').cell? ⟨d,o,Vc⟩=w.cell? ⟨d,o,Vc⟩:=fun o E=>(zS _ _ _ _ (by have:=E;simp)).trans (zo q)
 have A:∀ o,(w1.setCell ⟨d,4,Vc⟩ v').frozen? ⟨d,o,Vc⟩=w.frozen? ⟨d,o,Vc⟩:=fun o=>(zF ..).trans (WS q)
 obtain⟨U,T,_⟩:=h.wa
 have H:∀ b,v'.ownBlock=Vd b->b≠d:=fun b y e=>by
  subst e;rcases t b y with e|e
  ·exact C (WV.2 e)
  ·omega
 refine⟨_,⟨(f 0 UT).trans h.c0,(f 1 UT).trans h.c1,h.rD st (f 2 UT) UU,h.sW st (f 3 UT) UU,⟨v',VE _ _ _ ((zo (w:=w) q).trans T),dO E (aF.aY d _ 4 _) (fun b y=>by simpa using H b y),fun b y=>?_⟩,h.rF st (f 5 UT) ((A 5).trans (h.fz 5)) UU,fun i R=>h.pW st i R UU,h.rM st UU UU,h.nd,h.ni,fun o=>(A o).trans (h.fz o),st.gj d _ h.dc,fun x c P=>?_⟩,st⟩
 ·refine tZ (WV.2 y) (fun W J=>?_);rcases t b y with e|e
  ·rw[D b e] at J;cases J;rfl
  ·have:=h.lt b _ J;omega
 ·rcases oK P with N|⟨N,S,V⟩
  ·exact zL (h.lt x c N) st.size
  ·have:=E.lt x (WV.1 S)
   simpa using this.2
def fV(id kind bY:U8)(c:U4 EG):U4 EG:=c.map fun g=>if g.e.id=id then { g with e:={ g.e with kind:=kind,bY:=bY } } else g
theorem PS(id c f:U8)(h:U4 EG):(fV id c f h).map (·.eb)=h.map (·.eb):=by
 unfold fV;rw[Yf];apply Yg;intro g _;simp only[Yh];split <;> rfl
theorem PV(id c f:U8)(h:U4 EG):(fV id c f h).map (·.e.id)=h.map (·.e.id):=by
 unfold fV;rw[Yf];apply Yg;intro g _;simp only[Yh];split <;> rfl
theorem GV(id c f:U8)(h:U4 EG)(x:U8):gu (fV id c f h) x=gu h x:=by
 have e:(fV id c f h).map (fun g=>(g.e.id,g.eb))=h.map fun g=>(g.e.id,g.eb):=by
  unfold fV;rw[Yf];apply Yg;intro g _;simp only[Yh];split <;> rfl
 unfold gu;rw[e]
theorem Ra(id c f:U8)(g:U4 EG):(fV id c f g).length=g.length:=by unfold fV;simp
theorem oL{α β:Type}(f:α->β):∀ {l:U4 α},(l.map f).Nodup->∀ {x y:α},x∈l->y∈l->f x=f y->x=y
 |[],_,_,_,hx,_,_=>by simp at hx
 |a :: l,h,x,y,hx,hy,e=>by
  rw[XR,VD] at h;rcases Vz.1 hx with o|g <;> rcases Vz.1 hy with m|c
  ·rw[o,m]
  ·exact Vb (Wk.2 ⟨y,c,by rw[<- e,o]⟩) h.1
  ·exact Vb (Wk.2 ⟨x,g,by rw[e,m]⟩) h.1
  ·exact oL f h.2 g c e
theorem DK.ry{r:Raw}{t:U7->U5 aW}(h:DK w d r t){g:EG}(K:g∈r.eg)(q A:U8):
  DK ((w.setCell ⟨g.eb,1,Vc⟩ (.int .i64 q)).setCell ⟨g.eb,5,Vc⟩ (.int .i64 A)) d { r with eg:=fV g.e.id q A r.eg } t/\Step (·=.ent) w.heap.size t t w ((w.setCell ⟨g.eb,1,Vc⟩ (.int .i64 q)).setCell ⟨g.eb,5,Vc⟩ (.int .i64 A)):=by
 obtain⟨g1,O,g3⟩:=h.en g K;have k:aF [g.eb] w ((w.setCell ⟨g.eb,1,Vc⟩ (.int .i64 q)).setCell ⟨g.eb,5,Vc⟩ (.int .i64 A)):=((aF.refl [g.eb] w).setCell (.inl UU) _ _).setCell (.inl UU) _ _;have st:Step (·=.ent) w.heap.size t t w ((w.setCell ⟨g.eb,1,Vc⟩ (.int .i64 q)).setCell ⟨g.eb,5,Vc⟩ (.int .i64 A)):=⟨⟨_,k,fun x D=>.inl ⟨_,by simp at D;subst D;exact O,rfl⟩⟩,fun _ _ h=>h,fun _ _ h=>.inl h⟩;obtain⟨V,U,P,T,E⟩:=h.base st UU;refine⟨⟨V,U,h.rD st (E 2) UU,?_,h.rn st (E 4) UU,h.rF st (E 5) (P 5) UU,fun i R=>h.pW st i R UU,?_,by rw[PS];exact h.nd,by rw[PV];exact h.ni,P,T,fun x c D=>zL (h.lt x c D) st.size⟩,st⟩
 ·obtain⟨m,f,a1,Y,X,W⟩:=h.sW st (E 3) UU;exact⟨m,f,a1,Y,by rw[Ra];exact X,fun id=>by rw[W,GV]⟩
 ·intro x D;obtain⟨y,I,rfl⟩:=Wk.1 D;obtain⟨z,H,C⟩:=h.en y I
  by_cases e:y.e.id=g.e.id
  ·have:y=g:=oL _ h.ni I K e;subst this;rw[Va rfl];have N:y.B≠y.eb:=fun e=>by rw[e,H] at C;cases C
   refine⟨⟨⟨?_,?_,?_,?_,z.en.sl.off k (by simpa using N),Wj z.en.lt k.size⟩,?_,?_,fun o=>?_,?_⟩,H,C⟩
   ·exact (zS _ _ _ _ UU).trans ((zS _ _ _ _ UU).trans z.en.c0)
   ·exact (zS _ _ _ _ UU).trans ((zS _ _ _ _ UU).trans z.en.c1)
   ·exact (zS _ _ _ _ UU).trans ((zS _ _ _ _ UU).trans z.en.c2)
   ·exact (zS _ _ _ _ UU).trans ((zS _ _ _ _ UU).trans z.en.c3)
   ·exact (zS _ _ _ _ UU).trans (zm _ _ _ z.k)
   ·exact zm _ _ _ ((zS _ _ _ _ UU).trans z.u)
   ·exact (zF ..).trans ((zF ..).trans (z.fz o))
   ·obtain⟨cs,e⟩:=z.bl;exact⟨_,heap_setCell_same _ _ _ _ _ _ (heap_setCell_same _ _ _ _ _ _ e)⟩
  ·rw[U9 e];have J:y.eb≠g.eb:=fun S=>e (by rw[oL _ h.nd I K S])
   have N:y.B≠g.eb:=fun e=>by rw[e,O] at C;cases C
   exact⟨z.off k (by simpa using J) (by simpa using N),H,C⟩
def eQ(id:U8)(c:U4 EG):U4 EG:=c.filter fun g=>g.e.id != id
theorem oa{c:U4 EG}:gu c id=((c.find? fun g=>decide (g.e.id=id)).map (·.eb)):=by
 unfold gu;rw[Yi]
 cases h:c.find? ((fun p=>decide (p.1=id)) ∘ fun g=>(g.e.id,g.eb)) with
 |none=>have f:c.find? (fun g=>decide (g.e.id=id))=Vc:=h;rw[f];rfl
 |some g=>have f:c.find? (fun g=>decide (g.e.id=id))=Vd g:=h;rw[f];rfl
theorem HJ{c:U4 EG}(m:(c.map (·.e.id)).Nodup){g:EG}(f:g∈c):gu c g.e.id=Vd g.eb:=by
 rw[oa]
 cases h:c.find? fun x=>decide (x.e.id=g.e.id) with
 |none =>
  have:=Yj.1 h g f;simp at this
 |some x =>
  have q:=Yk h;have o:=Yl h;have:x=g:=oL _ m q f (by simpa using o);rw[this];rfl
theorem B7{c:U4 EG}(h:∀ g∈c,g.e.id≠id):gu c id=Vc:=by
 rw[oa];have:c.find? (fun g=>decide (g.e.id=id))=Vc:=Yj.2 (fun g f=>by simpa using h g f);rw[this];rfl
theorem Ib{c:U4 EG}(h:gu c id=Vd b):∃ g∈c,g.e.id=id/\g.eb=b:=by
 rw[oa] at h
 cases e:c.find? fun x=>decide (x.e.id=id) with
 |none=>rw[e] at h;cases h
 |some x =>
  rw[e] at h;refine⟨x,Yk e,by simpa using Yl e,by simpa using h⟩
theorem Gs{c:U4 EG}(h:gu c id=Vc):∀ g∈c,g.e.id≠id:=by
 rw[oa] at h;intro g m e
 cases f:c.find? fun x=>decide (x.e.id=id) with
 |none =>
  have:=Yj.1 f g m;simp[e] at this
 |some x=>rw[f] at h;cases h
theorem GJ{eg:U4 EG}(o:(eg.map (·.e.id)).Nodup)(id x:U8):gu (eQ id eg) x=if x=id then Vc else gu eg x:=by
 by_cases e:x=id
 ·subst e;rw[Va rfl];exact B7 (fun g c=>by simpa using (XE.1 c).2)
 ·rw[U9 e]
  cases h:gu eg x with
  |none=>exact B7 (fun g c=>Gs h g ((XE.1 c).1))
  |some b =>
   obtain⟨g,c,m,r⟩:=Ib h;have f:((eQ id eg).map (·.e.id)).Nodup:=VS (X5.map _) o;have q:g∈eQ id eg:=XE.2 ⟨c,by simpa[m] using e⟩;rw[<- m,HJ f q,r]
theorem Q6{eg:U4 EG}(m:(eg.map (·.e.id)).Nodup)(id:U8):(eQ id eg).length=eg.length-if (gu eg id).isSome then 1 else 0:=by
 induction eg with
 |nil=>simp[eQ]
 |cons g eg ih =>
  rw[XR,VD] at m;have ih:=ih m.2
  by_cases e:g.e.id=id
  ·have q:∀ x∈eg,x.e.id≠id:=fun x f c=>m.1 (Wk.2 ⟨x,f,by rw[e,c]⟩)
   have o:eQ id (g :: eg)=eg:=by
    unfold eQ;rw[VP,U9 (by simp[e])];exact XF.2 (fun x f=>by simpa using q x f)
   have c:(gu (g :: eg) id).isSome=Vf:=by rw[oa,Ym];simp[e]
   rw[o,c];simp
  ·have o:eQ id (g :: eg)=g :: eQ id eg:=by unfold eQ;rw[VP,Va (by simpa using e)]
   have c:gu (g :: eg) id=gu eg id:=by rw[oa,oa,Ym];simp[e]
   rw[o,c,V5,V5,ih]
   have:(if (gu eg id).isSome then 1 else 0)<=eg.length:=by
    split
    ·rename_i h
     cases eg with
     |nil=>rw[oa] at h;simp at h
     |cons _ _=>simp
    ·omega
   omega
theorem DK.uQ{r:Raw}{o:U7->U5 aW}(h:DK w d r o){m:U7}{f:Lit->U5 U7}(H:w.cell? ⟨d,3,Vc⟩=Vd (.map (Vd m)))(A:o m=Vd .me)(C:∀ id,f (jt id)=gu r.eg id)(id:U8)(p:eW prog 3 w' m r.eg.length (Go.Proofs.YtfigmlfdnickmaaGreatDoor.lf f (jt id) Vc) (r.eg.length-if (f (jt id)).isSome then 1 else 0))(q:w.grownBy w' (Vd m)):
  DK w' d { r with eg:=eQ id r.eg } o/\Step (·=.me) w.heap.size o o w w':=by
 have k:aF [m] w w':=⟨q.os,q.tape,q.output,q.size,fun i z E=>q.block i z (by simpa using E)⟩;have st:Step (·=.me) w.heap.size o o w w':=⟨⟨_,k,fun x t=>.inl ⟨_,by simp at t;subst t;exact A,rfl⟩⟩,fun _ _ h=>h,fun _ _ h=>.inl h⟩;obtain⟨N,K,D,J,y⟩:=h.base st UU;refine⟨⟨N,K,h.rD st (y 2) UU,⟨m,lf f (jt id) Vc,(y 3).trans H,A,?_,fun x=>?_⟩,h.rn st (y 4) UU,h.rF st (y 5) (D 5) UU,fun i z=>h.pW st i z UU,fun g q=>h.rM st UU UU g ((XE.1 q).1),VS (X5.map _) h.nd,VS (X5.map _) h.ni,D,J,fun x c t=>zL (h.lt x c t) st.size⟩,st⟩
 ·have e:=Q6 h.ni id;rw[C] at p;show eW _ _ _ _ (eQ id r.eg).length _ (eQ id r.eg).length;rw[e];exact p.tight
 ·show lf f (jt id) Vc (jt x)=gu (eQ id r.eg) x;rw[GJ h.ni]
  by_cases e:x=id
  ·rw[e,sN,Va rfl]
  ·rw[sR f _ (fun I=>e (GL I)),U9 e,C]
theorem GY{c:U4 EG}{g:EG}(f:∀ x∈c,x.e.id≠g.e.id)(x:U8):gu (c++[g]) x=if x=g.e.id then Vd g.eb else gu c x:=by
 by_cases e:x=g.e.id
 ·rw[Va e,oa,Yn];have:c.find? (fun y=>decide (y.e.id=x))=Vc:=Yj.2 (fun y m=>by simpa[e] using f y m);rw[this];simp[e]
 ·rw[U9 e,oa,oa,Yn]
  cases h:c.find? fun y=>decide (y.e.id=x) with
  |none=>simp[Ye e]
  |some y=>simp
theorem sQ{c:U4 TG}:jG c name=((c.find? fun t=>aA.bW t.name name).map (·.tb)):=by
 unfold jG;rw[Yi]
 cases h:c.find? ((fun p=>aA.bW p.1 name) ∘ fun t=>(t.name,t.tb)) with
 |none=>have f:c.find? (fun t=>aA.bW t.name name)=Vc:=h;rw[f];rfl
 |some g=>have f:c.find? (fun t=>aA.bW t.name name)=Vd g:=h;rw[f];rfl
theorem Rj{c:U4 TG}{t:TG}(f:∀ x∈c,x.name≠t.name)(name:U3):jG (c++[t]) name=@ite _ (name=t.name) (Ya _) (Vd t.tb) (jG c name):=by
 by_cases e:name=t.name
 ·rw[Va e,sQ,Yn];have:c.find? (fun y=>aA.bW y.name name)=Vc:=Yj.2 (fun y g=>by rw[Bool.not_eq_true,pS,e];exact f y g);rw[this];have:aA.bW t.name name=Vf:=sK.2 e.symm;simp[this]
 ·rw[U9 e,sQ,sQ,Yn]
  cases h:c.find? fun y=>aA.bW y.name name with
  |none =>
   have:aA.bW t.name name=Ve:=pS.2 (Ye e);simp[this]
  |some y=>simp
theorem Hx{r:Raw}{m:U7->U5 aW}(h:DK w d r m)(D:Hp.gG r.hl)(hl:r.hl.length<=1000)(t n:U8)(C:∃ x∈r.hl,x.t=t/\x.n=n):
  Vj prog 149 #[.pointer (Vd ⟨d,5,Vc⟩),.int .i64 t,.int .i64 n] w fun e w'=>e=.returned (.tuple #[])/\∃ (x:Hp.Hi) (g:U4 Hp.Hi) (f:U7->U5 aW),x.t=t/\x.n=n/\Hp.gG g/\r.hl.Perm (x :: g)/\DK w' d { r with hl:=g } f/\Step (fun c=>c=.he\/c=.desk) w.heap.size m f w w':=by
 obtain⟨v,N,K⟩:=h.he;refine (Q4 d 5 v r.hl t n w N D hl).mono ?_;rintro e w' ⟨rfl,y⟩;refine⟨rfl,?_⟩;rcases y with ⟨y,_⟩|⟨x,g,J,I,p,H,E⟩
 ·obtain⟨x,q,o⟩:=C;exact Vb o (y x q)
 ·obtain⟨f,A,z⟩:=h.heap K p;exact⟨x,g,f,J,I,H,E,A,z⟩
def xN(c:aW):Prop:=c=.he\/c=.desk\/c=.ent
def Ch(w:Vg)(d:U7)(r:Raw)(h:U7->U5 aW)(g:EG)(w':Vg):Prop :=
 ∃ (x:Hp.Hi) (f:U4 Hp.Hi) (c:U7->U5 aW),x.t=g.e.bY/\x.n=g.e.id/\Hp.gG f/\r.hl.Perm (x :: f)/\DK w' d { r with eg:=fV g.e.id 1 0 r.eg,hl:=f } c/\Step xN w.heap.size h c w w'
theorem Up{r:Raw}{m:U7->U5 aW}(h:DK w d r m)(X:Hp.gG r.hl)(W:r.hl.length<=1000){g:EG}(J:g∈r.eg)(V:∃ x∈r.hl,x.t=g.e.bY/\x.n=g.e.id):
  Vj prog 105 #[.pointer (Vd ⟨d,0,Vc⟩),.pointer (Vd ⟨g.eb,0,Vc⟩)] w fun e w'=>e=.returned (.tuple #[])/\Ch w d r m g w':=by
 obtain⟨K,g2,Y⟩:=h.en g J;have O:=K.en.c0;have N:=K.u;have P:=aC (fun wx (k:Vi w.heap.size w wx)=>Hx (h.later k) X W g.e.bY g.e.id V);have E:=aC (zA J g2);clear h Y
 go_in
 go_upto_region 0 with fail
 go_region_held3 (fun w'=>w'.cell? ⟨g.eb,0,Vc⟩=Vd (.int .i64 g.e.id)/\w'.cell? ⟨g.eb,5,Vc⟩=Vd (.int .i64 g.e.bY))
  (first
   |exact⟨O,N⟩
   |exact⟨((q.en g E.out.1).1).en.c0,((q.en g E.out.1).1).u⟩)
  (first
   |(go_at_call 149;refine (P.out _ (dM w)).mono ?_;rintro e w4 ⟨rfl,x,U,f,D,C,A,z,q,y⟩))
 obtain⟨o,T,S⟩:=q.en g E.out.1;have d1:=o.k;have d5:=o.u;have f1:=o.fz 1;have f5:=o.fz 5;have SE:=aC (q.ry (g:=g) E.out.1 1 0);have KK:=aC (zA D (zA C (zA A (zA z y))));clear o T S D C A z q y P O N
 go_wp2
 go_end0
 obtain⟨D,C,A,z,y⟩:=KK.out;obtain⟨s1,R⟩:=SE.out;refine⟨rfl,(⟨x,U,f,D,C,A,z,s1,?_⟩:Ch _ _ _ _ _ _)⟩;have I:Step xN w.heap.size m f w w4:=(Step.below (dM w)).trans (y.mono (fun c H=>by unfold xN;rcases H with e|e;exact .inl e;exact .inr (.inl e)) (zq _));exact I.trans (R.mono (fun c H=>.inr (.inr H)) I.size)
theorem TI(eb:U7)(f:U8)(w:Vg)(c:w.cell? ⟨eb,1,Vc⟩=Vd (.int .i64 f)):
  Vj prog 107 #[.pointer (Vd ⟨eb,0,Vc⟩)] w fun e w'=>e=.returned (.bool (f==1))/\w'=w:=by
 go_in
 go_wp2
 go_ret;exact⟨rfl,rfl⟩
theorem Fk:(prog.info? 200).map (fun i=>i.size)=Vd 6:=UY
theorem ND(w:Vg)(a b:U7)(g:∃ cs,w.heap[a]?=Vd (.cells cs 200 (0,0)))(f:∃ cs,w.heap[b]?=Vd (.cells cs 200 (0,0))):
  (binOp .eql 197 (.pointer (Vd ⟨b,0,Vc⟩)) (.pointer (Vd ⟨a,0,Vc⟩))).run prog w=.ok (.bool (b==a)) w:=by
 obtain⟨j,c⟩:∃ j,prog.info? 200=Vd j:=by
  cases h:prog.info? 200 with
  |none=>have:=Fk;rw[h] at this;cases this
  |some j=>exact⟨j,rfl⟩
 have m:j.size≠0:=by
  have:=Fk;rw[c] at this;simp at this;omega
 by_cases e:b=a
 ·subst e;rw[run_eql_ptr_same w _ underlying197 c];simp
 ·obtain⟨o,g⟩:=g;obtain⟨cb,f⟩:=f;rw[run_eql_ptr_other w (a:=⟨b,0,Vc⟩) (b:=⟨a,0,Vc⟩) underlying197 c m (by have:=e;simp) f g];simp[e]
theorem RO(A a b:U7)(w:Vg)(c:w.cell? ⟨A,0,Vc⟩=Vd (.pointer (Vd ⟨a,0,Vc⟩)))(g:∃ cs,w.heap[a]?=Vd (.cells cs 200 (0,0)))(f:∃ cs,w.heap[b]?=Vd (.cells cs 200 (0,0))):
  Vj prog 206 #[.pointer (Vd ⟨b,0,Vc⟩),.pointer (Vd ⟨A,0,Vc⟩)] w fun e w'=>e=.returned (.bool (b==a))/\w'=w:=by
 have h:=ND w a b g f;clear g f
 go_in
 go_wp2
 go_ret;exact⟨rfl,rfl⟩
theorem SN{c:U7}{e:Vl}{g:U7}(h:w.ownsRow c e 1 (.slice (Vd ⟨g,0,Vc⟩) n cap) n xs)(D:i<=n):w.ownsRow c e 1 (.slice (Vd ⟨g,0,Vc⟩) i cap) i (xs.take i):=by
 obtain⟨E,z⟩:=h;refine⟨by rw[Yo];omega,?_⟩;rcases z with ⟨A,_⟩|⟨H,r,q,t,y,x,C,m,o,f⟩
 ·cases A
 ·cases t
  refine .inr ⟨g,cap,q,rfl,y,x,by omega,m,o,?_⟩;rw[<- f,List.take_take]
  congr 1
  omega
theorem Jy{c:U7}{e:Vl}{g n cap:U7}{xs:U4 Vh}:∀ (f:U4 Vh)(o:U7)(w:Vg),n<=o->w.ownsRow c e 1 (.slice (Vd ⟨g,0,Vc⟩) n cap) n xs->(w.setCells g o f).ownsRow c e 1 (.slice (Vd ⟨g,0,Vc⟩) n cap) n xs
 |[],_,_,_,h=>h
 |v :: r,o,w,ho,h=>by
  refine Jy r (o+1) _ UT ?_;have:=(h.stored o v).1
  rwa [List.set_eq_of_length_le (by have:=h.1;omega)] at this
theorem Js{g:U7}:∀ (c:U4 Vh)(o:U7)(w:Vg),aF [g] w (w.setCells g o c)
 |[],_,_=>aF.refl _ _
 |v :: r,o,w=>(aF.aY g w o v).trans (Js r (o+1) _)
structure oD(L:U4 U7)(p:U7->U6)(i j:U7)(M:U4 U7):Prop where
 len:M.length=L.length
 ij:i<j
 jl:j<=L.length
 lo:M.take i=(L.take j).filter fun b=>!p b
 hi:∀ k,j<=k->M[k]?=L[k]?
theorem oD.skip{L:U4 U7}(h:oD L p i j M)(f:j<L.length)(c:p L[j]=Vf):oD L p i (j+1) M:=by
 refine⟨h.len,by have:=h.ij;omega,by omega,?_,fun k g=>h.hi k UT⟩;rw[h.lo,Wf f,VO];simp[c]
theorem oD.gj{L:U4 U7}(h:oD L p i j M)(g:j<L.length)(c:p L[j]=Ve):oD L p (i+1) (j+1) (M.set i L[j]):=by
 have m:=h.ij;have f:=h.len;refine⟨by simpa using f,by omega,by omega,?_,fun k o=>?_⟩
 ·rw[Wf g,VO,<- h.lo,Wf UZ,List.take_set_of_le (zq _)];simp[c]
 ·rw[List.getElem?_set_ne UT];exact h.hi k UT
theorem oD.new{L:U4 U7}(h:k<L.length)(g:p L[k]=Vf)(o:∀ (j:U7)(f:j<k),p (L[j]'UT)=Ve):oD L p k (k+1) L:=by
 refine⟨rfl,by omega,by omega,?_,fun _ _=>rfl⟩;rw[Wf h,VO];simp only[g,VP,Bool.not_true,Vw,if_false,List.filter_nil,X4];refine (XF.2 (fun b m=>?_)).symm;obtain⟨j,f,rfl⟩:=XY m;have c:j<k:=by rw[Yo] at f;omega
 simp[o j c]
def CZ(fn:U7)(cs:U4 Vh):Prop:=(fn=107/\cs=[])\/(fn=206/\∃ A:U7,cs=[.pointer (Vd ⟨A,0,Vc⟩)])
def C9(fn:U7)(cs:U4 Vh)(w:Vg)(L:U4 U7)(p:U7->U6):Prop :=
 ∀ b∈L,Vj prog fn (.pointer (Vd ⟨b,0,Vc⟩) :: cs).toArray w fun e w'=>e=.returned (.bool (p b))/\w'=w
theorem Ko(K:CZ fn cs)(L:U4 U7)(p:U7->U6)(v:Vh)(w:Vg)(ht:C9 fn cs w L p)(own:w.ownsRow 0 197 1 v L.length (L.map jv))(O:L.length<=1000):
  Vj prog 160 #[v,.func (.func fn) #[] cs.toArray] w fun e w'=>e=.returned (.int .i64 (eO p L 0))/\w'=w:=by
 have I:∃ a cap,v=.slice a L.length cap:=by
  rcases own.2 with ⟨rfl,h⟩|⟨g,cap,_,rfl,_⟩
  ·rw[h];exact⟨_,_,rfl⟩
  ·exact⟨_,_,rfl⟩
 obtain⟨a,cap,rfl⟩:=I;have q:=aC own;have N:=aC ht;clear own ht;rcases K with ⟨rfl,rfl⟩|⟨rfl,A,rfl⟩
 all_goals
  go_in
  go_wp2_with fail
  go_loop [8] (fun i=>∃ k:U7,k<=L.length/\i=.int .i64 k/\eO p L 0=eO p (L.drop k) k) (fun i=>L.length-(intOf i).toNat)
  case atStart=>exact⟨0,Wg _,rfl,rfl⟩
  case round =>
   obtain⟨j,P,rfl,y⟩:=hrel;have x:=aC y;clear y
   by_cases c:j<L.length
   ·have J:(j:U8)<(L.length:U8):=UT
    obtain⟨H,D,C⟩:=Yp q.out UT;simp only[Yq,true_and] at C;obtain⟨rfl,rfl⟩:=C;have t:=q.out.cellAt j UT;rw[Yr,Xa c,Ys] at t;unfold jv at t;have m:=aC (N.out L[j] (zg c));have z:eO p (L.drop j) j=if p L[j] then (j:U8) else eO p (L.drop (j+1)) ((j+1:U7):U8):=by rw[WN c];rfl
    have E:=aC z;clear z
    cases f:p L[j]
    ·have r:Hid (eO p L 0=eO p (L.drop (j+1)) ((j+1:U7):U8)):=by show _=_;rw[x.out,E.out,f];rfl
     rw[f] at m;clear f
     go_wp2_with fail
     refine m.out.mono ?_;rintro e w1 ⟨rfl,o⟩;rw[o];clear t m o
     go_wp2
     go_round
     case rel=>exact⟨j+1,by omega,by go_num,r.out⟩
     case measure=>simp[intOf];omega
    ·have r:Hid (eO p L 0=j):=by show _=_;rw[x.out,E.out,f];rfl
     rw[f] at m;clear f
     go_wp2_with fail
     refine m.out.mono ?_;rintro e w1 ⟨rfl,o⟩;rw[o];clear t m o
     go_wp2
     go_ret;exact⟨gK r.out.symm,rfl⟩
   ·have J:¬ (j:U8)<(L.length:U8):=UT
    have e:L.drop j=[]:=WQ UT;have r:Hid (eO p L 0=-1):=by show _=_;rw[x.out,e];rfl
    clear e
    go_wp2
    go_ret;exact⟨gK r.out.symm,rfl⟩
theorem Db(P:CZ fn cs)(L:U4 U7)(p:U7->U6)(v:Vh)(w:Vg)(ht:∀ wx,aF v.ownBlock.toList w wx->C9 fn cs wx L p)(own:w.ownsRow 0 197 1 v L.length (L.map jv))(hl:L.length<=1000):
  Vj prog 106 #[v,.func (.func fn) #[] cs.toArray] w fun e w'=>∃ v',e=.returned v'/\aF v.ownBlock.toList w w'/\w'.ownsRow 0 197 1 v' (L.filter fun b=>!p b).length ((L.filter fun b=>!p b).map jv)/\v'.ownBlock=v.ownBlock:=by
 have K:=aC (Ko P L p v w (ht w (aF.refl _ _)) own hl);have g:=vE p L 0;rcases P with ⟨rfl,rfl⟩|⟨rfl,A,rfl⟩
 all_goals
  go_in
  go_wp2_with fail
  refine K.out.mono ?_;rintro e w1 ⟨rfl,rfl⟩;rcases g with ⟨o,m⟩|⟨k,hk,o,m,S⟩
  ·rw[o];have R:(L.filter fun b=>!p b)=L:=XF.2 (fun b hb=>by simp[m b hb]);have D:Hid (w1.ownsRow 0 197 1 v (L.filter fun b=>!p b).length ((L.filter fun b=>!p b).map jv)):=by show w1.ownsRow _ _ _ _ _ _;rw[R];exact own
   clear o m R K ht own
   go_wp2
   go_ret;exact⟨v,rfl,aF.refl _ _,D.out,rfl⟩
  ·have x:0<L.length:=UT
   obtain⟨H,cap,J⟩:=Yp own x;subst J;rw[o,Int.zero_add];have D0:=aC (oD.new hk m S);have C:=aC own;have Y:=aC ht;have w3:Vo.wrap ((k:U8)+1)=((k+1:U7):U8):=by rw[cG UT UT];omega
   have aa:((k:U8)==-1)=Ve:=UU
   clear o m S K ht own
   go_wp2_with fail
   go_loopw [5,6,7] (fun vi E _ wx=>∃ (i j:U7) (M:U4 U7),vi=.int .i64 i/\E=.int .i64 j/\oD L p i j M/\aF [H] w1 wx/\wx.ownsRow 0 197 1 (.slice (Vd ⟨H,0,Vc⟩) L.length cap) L.length (M.map jv)) (fun _ E _ _=>L.length-(intOf E).toNat)
   case atStart=>exact⟨k,k+1,L,rfl,rfl,D0.out,aF.refl _ _,C.out⟩
   case round =>
    obtain⟨i,j,M,rfl,rfl,h,y,c⟩:=hrel;have ad:=h.ij;have ac:=h.jl;have ab:=h.len;have q:=aC (zA h (zA y c))
    by_cases f:j<L.length
    ·have hj:(j:U8)<(L.length:U8):=UT
     have hi:(i:U8)<(L.length:U8):=UT
     have V:=c.cellAt j UT;rw[Yr,h.hi j (zq _),Xa f,Ys] at V;have U:=c.cellAt i UT;rw[Yr,Xa UT,Ys] at U;have f0:=c.frozenAt i;unfold jv at V U;have r:=aC (Y.out wr y L[j] (zg f));have wi:Vo.wrap ((i:U8)+1)=((i+1:U7):U8):=by rw[cG UT UT];omega
     have wj:Vo.wrap ((j:U8)+1)=((j+1:U7):U8):=by rw[cG UT UT];omega
     clear y h
     cases g:p L[j]
     ·have N:=aC (q.out.1.gj f g);have W:=aC ((c.stored i (jv L[j])).1);have X:=aC (q.out.2.1.trans (aF.aY H wr i (jv L[j])));rw[g] at r;unfold jv at W X;clear g c
      go_wp2_with fail
      refine r.out.mono ?_;rintro e w2 ⟨rfl,c⟩;rw[c];clear r c
      go_wp2
      go_roundw
      case rel=>exact⟨i+1,j+1,M.set i L[j],rfl,rfl,N.out,X.out,by rw[Yb];exact W.out⟩
      case measure=>simp[intOf];omega
     ·have N:=aC (q.out.1.skip f g);rw[g] at r;clear g c
      go_wp2_with fail
      refine r.out.mono ?_;rintro e w2 ⟨rfl,c⟩;rw[c];clear r c
      go_wp2
      go_roundw
      case rel=>exact⟨i,j+1,M,rfl,rfl,N.out,q.out.2.1,q.out.2.2⟩
      case measure=>simp[intOf];omega
    ·have hj:¬ ((j:U8)<(L.length:U8)):=UT
     have z:j=L.length:=UT
     have O:L.length<=cap:=by
      rcases c.2 with ⟨h0,_⟩|⟨g',T,ai,J,_,_,h1,_⟩
      ·cases h0
      ·cases J;exact h1
     have ag:∀ I,(Builtin.clear_ #[139] I #[.slice (Vd ⟨H,i,Vc⟩) (L.length-i) (cap-i)]).run prog wr=.ok (.tuple #[]) (wr.setCells H i (Yt (L.length-i) (.pointer Vc))) :=
      fun I=>Lib.run_clear_slice wr _ _ I (.pointer Vc) underlying139 (fun w=>by simp[go_sem]) rfl rfl H i _ _ UT (fun t ht=>by rw[c.cellAt (i+t) UT];simp;omega) (fun t ht=>c.frozenAt (i+t))
     have ae:(i:U8)<=(L.length:U8):=UT
     have af:(i:U8)<=(cap:U8):=UT
     have D:Hid (aF [H] w1 (wr.setCells H i (Yt (L.length-i) (.pointer Vc)))/\(wr.setCells H i (Yt (L.length-i) (.pointer Vc))).ownsRow 0 197 1 (.slice (Vd ⟨H,0,Vc⟩) i cap) (L.filter fun b=>!p b).length ((L.filter fun b=>!p b).map jv)):=by
      have o:(L.filter fun b=>!p b)=M.take i:=by rw[h.lo,z,Wh (zq _)]
      have m:(M.take i).length=i:=by rw[Yo];omega
      refine⟨y.trans (Js _ _ _),?_⟩;rw[o,m,List.map_take];exact Jy _ i wr (zq _) (SN c UT)
     clear h y c q Y C D0 z
     go_wp2
     go_ret;exact⟨_,rfl,D.out.1,D.out.2,rfl⟩
def qS(c:aW):Prop:=c=.me\/c=.wa\/c=.desk\/∃ i,c=.aT i
def G9(w:Vg)(d:U7)(r:Raw)(f:U7->U5 aW)(g:EG)(i:U7)(h:i<r.tg.length)(w':Vg):Prop :=
 ∃ c,DK w' d ({ r with eg:=eQ g.e.id r.eg }.cW i (r.tg[i].with (bZ r.tg[i].A g.e.aK (-g.e.aH)) (jw g.e.id r.tg[i].T g.e.aK))) c/\Step qS w.heap.size f c w w'
theorem Pw(w:Vg):(zeroValue 197).run prog w=.ok (.pointer Vc) w:=by simp[go_sem]
theorem RP{r:Raw}{o:U7->U5 aW}(h:DK w d r o){g:EG}(hg:g∈r.eg)(hk:g.e.kind≠3)(i:U7)(S:i<r.tg.length)(ht:g.tb=r.tg[i].tb)(hf:Fit r.tg[i] g.e)(ho:aE.Ord (aE.bS r.tg[i].T))(hz:aE.size r.tg[i].T<=9000)(hA:∀ p,0<=bZ r.tg[i].A g.e.aK (-g.e.aH) p)(ab:0<=g.e.id/\g.e.id<=1000):
  Vj prog 150 #[.pointer (Vd ⟨d,0,Vc⟩),.pointer (Vd ⟨g.eb,0,Vc⟩)] w fun e w'=>e=.returned (.tuple #[])/\G9 w d r o g i S w':=by
 have V:Vi w.heap.size w (w.alloc (.cells #[.pointer (Vd ⟨g.eb,0,Vc⟩)] 197)):=(zr _ _).alloc (zq _) _;have E:=h.later V;have R:(w.alloc (.cells #[.pointer (Vd ⟨g.eb,0,Vc⟩)] 197)).cell? ⟨w.heap.size,0,Vc⟩=Vd (.pointer (Vd ⟨g.eb,0,Vc⟩)):=UU
 have D:w.heap.size<(w.alloc (.cells #[.pointer (Vd ⟨g.eb,0,Vc⟩)] 197)).heap.size:=UU
 have I:o w.heap.size=Vc:=by
  cases e:o w.heap.size with
  |none=>rfl
  |some c=>have:=h.lt _ _ e;omega
 have z:=aC (zA V (zA D I));clear h V D I
 go_in
 go_upto_region 1 with fail
 generalize (w.alloc (.cells #[.pointer (Vd ⟨g.eb,0,Vc⟩)] 197))=X at E R z ⊢;obtain⟨g1,O,K⟩:=E.en g hg;obtain⟨m,f,a1,a2,a3,a4⟩:=E.me;have c0:=g1.en.c0;have aa:(g.e.kind != 3)=Vf:=by simpa using hk
 have kk:=xR (n:=g.e.id) UT UT;obtain⟨w1,H,p1,p2⟩:=(a3.block (w':=X.drew) rfl).lP xH underlying138 kk 0;have y:=E.later (dM X);have DD:=aC (y.uQ a1 a2 a4 g.e.id p1 p2);have P:=aC (DD.out.2.uI (y.en g hg).1 (.inl ⟨_,O,by simp⟩) (.inl ⟨_,K,by simp⟩));have ac:=P.out.k;have J:=P.out.en.c1;have x:w1.cell? ⟨w.heap.size,0,Vc⟩=Vd (.pointer (Vd ⟨g.eb,0,Vc⟩)):=(zo (w:=X) (DD.out.2.bV z.out.2.1 z.out.2.2 z.out.2.1)).trans R;clear E y a3 p1 p2 a4
 go_big_region
 clear H R a1 c0;have W:w.heap.size<w1.heap.size:=Vq _ _ x;have t:=aC (zA z.out.2.2 W);have XB:=aC z.out.1;have Y:=aC (zA O K);have RL:=aC (fun wx (k:Vi w1.heap.size w1 wx)=>TS (DD.out.1.later k) i S (P.out.off (G:=[]) (aF.aD k) UU UU) ht (by rw[O];simp) (by rw[K];simp) hf ho hz hA);clear g1 O K hf ho hz hA z kk a2 ht;generalize w.heap.size=N at x t ⊢
 have AF:Hid (∀ w2 q,Step (·=.aT i) w1.drew.heap.size o q w1.drew w2->w2.cell? ⟨N,0,Vc⟩=Vd (.pointer (Vd ⟨g.eb,0,Vc⟩))/\w2.cell? ⟨g.eb,2,Vc⟩=Vd (.pointer (Vd ⟨g.tb,0,Vc⟩))):=fun w2 q C =>
  ⟨(zo (w:=w1) (C.bV t.out.2 t.out.1 t.out.2)).trans x,C.nN Y.out.1 UU J⟩
 go_upto_region 3 with fail
 go_region_held3 (fun w'=>w'.cell? ⟨N,0,Vc⟩=Vd (.pointer (Vd ⟨g.eb,0,Vc⟩))/\w'.cell? ⟨g.eb,2,Vc⟩=Vd (.pointer (Vd ⟨g.tb,0,Vc⟩)))
  (first
   |exact⟨x,J⟩
   |exact AF.out _ _ C)
  (first
   |(go_at_call 205;refine (RL.out _ (dM w1)).mono ?_;rintro e w2 ⟨rfl,q,q1,C⟩))
 have HF:Hid (G9 w d r o g i S w2):=by
  have t0:Step qS w.heap.size o o w X:=Step.below XB.out;have t1:Step qS w.heap.size o o w w1:=t0.trans ((Step.below (dM X)).trans (DD.out.2.mono (fun c U=>.inl U) t0.size));have t2:Step qS w.heap.size o o w w1.drew:=t1.trans (Step.below (dM w1));exact⟨q,q1,t2.trans (C.mono (fun c U=>.inr (.inr (.inr ⟨i,U⟩))) t2.size)⟩
 clear q1 C RL DD P
 go_wp2_with fail
 (try simp only[Exit.inBlock,Exit.then]);refine bodyPost_ret (results_none rfl _ _ _) rfl ?_
 exact⟨rfl,HF.out⟩
def Iq(w:Vg)(d:U7)(r:Raw)(f:U7->U5 aW)(g:EG)(w':Vg):Prop :=
 ∃ c,DK w' d { r with eg:=eQ g.e.id r.eg,wl:=r.wl.filter fun b=>!(b==g.eb) } c/\Step qS w.heap.size f c w w'
theorem RQ{r:Raw}{q:U7->U5 aW}(h:DK w d r q){g:EG}(P:g∈r.eg)(hk:g.e.kind=3)(ac:0<=g.e.id/\g.e.id<=1000)(K:∀ b∈r.wl,∃ x∈r.eg,x.eb=b)(Y:r.wl.length<=1000):
  Vj prog 150 #[.pointer (Vd ⟨d,0,Vc⟩),.pointer (Vd ⟨g.eb,0,Vc⟩)] w fun e w'=>e=.returned (.tuple #[])/\Iq w d r q g w':=by
 have hX:Vi w.heap.size w (w.alloc (.cells #[.pointer (Vd ⟨g.eb,0,Vc⟩)] 197)):=(zr _ _).alloc (zq _) _;have t:=h.later hX;have V:(w.alloc (.cells #[.pointer (Vd ⟨g.eb,0,Vc⟩)] 197)).cell? ⟨w.heap.size,0,Vc⟩=Vd (.pointer (Vd ⟨g.eb,0,Vc⟩)):=UU
 have J:w.heap.size<(w.alloc (.cells #[.pointer (Vd ⟨g.eb,0,Vc⟩)] 197)).heap.size:=UU
 have R:q w.heap.size=Vc:=by
  cases e:q w.heap.size with
  |none=>rfl
  |some c=>have:=h.lt _ _ e;omega
 have E:=aC (zA hX (zA J R));clear h hX J R
 go_in
 go_upto_region 1 with fail
 generalize (w.alloc (.cells #[.pointer (Vd ⟨g.eb,0,Vc⟩)] 197))=X at t V E ⊢;obtain⟨g1,g2,g3⟩:=t.en g P;obtain⟨m,f,a1,a2,a3,a4⟩:=t.me;have c0:=g1.en.c0;have ab:(g.e.kind != 3)=Ve:=by simpa using hk
 have kk:=xR (n:=g.e.id) UT UT;obtain⟨w1,O,p1,p2⟩:=(a3.block (w':=X.drew) rfl).lP xH underlying138 kk 0;have y:=t.later (dM X);have DD:=aC (y.uQ a1 a2 a4 g.e.id p1 p2);have EC:Hid (∀ x∈r.eg,q x.eb=Vd .ent):=fun x t=>(y.en x t).2.1
 have H:Hid (∀ x∈r.eg,gQ w1 x):=(fun x t=>DD.out.2.uI (y.en x t).1 (.inl ⟨_,(y.en x t).2.1,by simp⟩) (.inl ⟨_,(y.en x t).2.2,by simp⟩));have ae:=(H.out g P).k;have I:w1.cell? ⟨w.heap.size,0,Vc⟩=Vd (.pointer (Vd ⟨g.eb,0,Vc⟩)):=(zo (w:=X) (DD.out.2.bV E.out.2.1 E.out.2.2 E.out.2.1)).trans V;clear t y a3 p1 p2 a4
 go_big_region
 clear O V a1 c0;have aa:w.heap.size<w1.heap.size:=Vq _ _ I;have A:=aC (zA E.out.2.2 aa);have XB:=aC E.out.1;clear g1 g2 g3 E kk a2;obtain⟨v,c4,own,z⟩:=DD.out.1.wa;have f4:=DD.out.1.fz 4;have D:w.heap.size ∉ v.ownBlock.toList:=fun e=>by have:=z _ (WV.1 e);rw[A.out.1] at this;cases this
 have N:d ∉ v.ownBlock.toList:=fun e=>by have:=z _ (WV.1 e);rw[DD.out.1.dc] at this;cases this
 have C:∀ x∈r.eg,x.eb ∉ v.ownBlock.toList:=fun x t e=>by
  have h1:=z _ (WV.1 e);have h2:=EC.out x t;rw[h2] at h1;cases h1
 have DL:=aC (Db (.inr ⟨rfl,w.heap.size,rfl⟩) r.wl (fun b=>b==g.eb) v w1 (fun wx k b hb=>by
  obtain⟨x,t,rfl⟩:=K b hb
  have b1:∃ cs,wx.heap[g.eb]?=Vd (.cells cs 200 (0,0)):=by
   obtain⟨cs,e⟩:=(H.out g P).bl;exact⟨cs,(k.block _ (H.out g P).lt (C g P)).trans e⟩
  have b2:∃ cs,wx.heap[x.eb]?=Vd (.cells cs 200 (0,0)):=by
   obtain⟨cs,e⟩:=(H.out x t).bl;exact⟨cs,(k.block _ (H.out x t).lt (C x t)).trans e⟩
  exact RO w.heap.size g.eb x.eb wx (k.cell D I) b1 b2) own Y)
 have U:=aC (zA z (zA D N));clear own z D N C K
 go_wp2_with fail
 refine DL.out.mono ?_;rintro e w2 ⟨v',rfl,T,W,k3⟩
 obtain⟨va,vn,vc,rfl⟩:∃ a n cap,v'=.slice a n cap:=by
  rcases W.2 with ⟨e,_⟩|⟨_,_,_,e,_⟩
  ·exact⟨_,_,_,e⟩
  ·exact⟨_,_,_,e⟩
 have af:=T.cell U.out.2.2 c4;have ad:=(T.frozen (o:=4) U.out.2.2 (Vq _ _ c4)).trans f4;have SW:=aC (DD.out.1.jf U.out.1 T W (fun b hb=>.inl (by rw[<- k3];exact hb)));clear T W k3 DL c4 f4 H
 have HF:Hid (Iq w d r q g (w2.setCell ⟨d,4,Vc⟩ (.slice va vn vc))):=by
  have t0:Step qS w.heap.size q q w X:=Step.below XB.out;have t1:Step qS w.heap.size q q w w1:=t0.trans ((Step.below (dM X)).trans (DD.out.2.mono (fun c hc=>.inl hc) t0.size));obtain⟨S,q1,q2⟩:=SW.out;exact⟨S,q1,t1.trans (q2.mono (fun c hc=>by rcases hc with e|e;exact .inr (.inl e);exact .inr (.inr (.inl e))) t1.size)⟩
 clear DD SW U A XB
 go_wp2
 go_end0
 exact⟨rfl,HF.out⟩
open aA (aL St dB kept dZ cS cN gC cA bW gI Inv)
def iW(c:U4 EG)(id:U8):U7:=(gu c id).getD 0
theorem Bq{c:U4 EG}(f:(c.map (·.e.id)).Nodup){g:EG}(h:g∈c):iW c g.e.id=g.eb:=by unfold iW;rw[HJ f h];rfl
structure Of(s:St)(r:Raw):Prop where
 now:r.now=s.now
 given:r.given=s.given
 ts:r.tg.map (fun t=>(t.name,t.aH))=s.ts
 es:r.eg.map (·.e)=s.es
 th:∀ (i:U7) (h:i<r.tg.length),r.tg[i].A=cN r.tg[i].name s.es/\gC r.tg[i].name s.es (iW r.eg) r.tg[i].T
 tb:∀ g∈r.eg,∃ (i:U7) (h:i<r.tg.length),r.tg[i].name=g.e.aT/\g.tb=r.tg[i].tb
def Wl(r:Raw):Prop:=r.wl=(r.eg.filter fun g=>g.e.kind==3).map (·.eb)
def kM(g:EG):Hp.Hi:=⟨g.e.bY,g.e.id,g.eb⟩
def Hl(r:Raw):Prop:=Hp.gG r.hl/\r.hl.Perm ((r.eg.filter fun g=>g.e.kind != 1).map kM)
theorem Of.mem{r:Raw}(h:Of s r){g:EG}(c:g∈r.eg):g.e∈s.es:=by rw[<- h.es];exact Wk.2 ⟨g,c,rfl⟩
theorem Of.get{r:Raw}(h:Of s r)(c:e∈s.es):∃ g∈r.eg,g.e=e:=by rw[<- h.es] at c;exact Wk.1 c
theorem Of.len{r:Raw}(h:Of s r):r.tg.length=s.ts.length:=by rw[<- h.ts];simp
theorem Of.jR{r:Raw}(h:Of s r)(c:i<r.tg.length):s.ts[i]'(by rw[<- h.len];exact c)=(r.tg[i].name,r.tg[i].aH):=by
 have e:(r.tg.map fun t=>(t.name,t.aH))[i]'(by simpa using c)=(r.tg[i].name,r.tg[i].aH):=UU
 rw[<- e]
 congr 1
 exact h.ts.symm
theorem Cc(g:ts.Pairwise fun t u=>bW t.1 u.1=Ve):∀ {i:U7}(f:i<ts.length),aA.bJ ts[i].1 ts=ts[i].2:=by
 induction ts with
 |nil=>intro i f;simp at f
 |cons t ts ih =>
  intro i f;rw[VN] at g
  cases i with
  |zero=>simp[aA.bJ,aA.qX]
  |succ i =>
   have c:i<ts.length:=by simpa using f
   have:=g.1 ts[i] (zg c);simp only[List.getElem_cons_succ,aA.bJ,this];exact ih g.2 c
theorem vY(h:∀ t∈ts,t.1≠name):aA.bJ name ts=0:=by
 induction ts with
 |nil=>rfl
 |cons t ts ih =>
  have c:bW t.1 name=Ve:=pS.2 (h t UU);simp only[aA.bJ,c];exact ih (fun t ht=>h t (by simp[ht]))
theorem Of.names{r:Raw}(h:Of s r)(x:s.ts.Pairwise fun t u=>bW t.1 u.1=Ve)(q:i<r.tg.length)(o:j<r.tg.length)(e:r.tg[i].name=r.tg[j].name):i=j:=by
 have c:∀ {a b:U7}(m:a<r.tg.length) (f:b<r.tg.length),a<b->r.tg[a].name≠r.tg[b].name:=by
  intro a b m f g;have:=XX.1 x a b (by rw[<- h.len];exact m) (by rw[<- h.len];exact f) g;rw[h.jR m,h.jR f] at this;exact pS.1 this
 by_cases z:i<j
 ·exact Vb e (c q o z)
 ·by_cases y:j<i
  ·exact Vb e.symm (c o q y)
  ·omega
theorem Cv(h:gI L):(L.map (·.1)).Nodup:=by
 unfold gI at h;rw[Yu,XU];exact h.imp (fun c=>by omega)
theorem Hg{at_:U8->U7}{T:aE.S}{eb:U7}(h:gC name es at_ T)(y:gI L)(g:∀ e∈es,cA name e=Vf->e.id≠id)
  (t:∀ z:aE.It,(∃ e∈es',cA name e=Vf/\∃ s∈e.aK,z=⟨s.1,s.2,e.id,at' e.id⟩)↔(∃ e∈es,cA name e=Vf/\∃ s∈e.aK,z=⟨s.1,s.2,e.id,at_ e.id⟩)\/∃ s∈L,z=jF id eb s):
  gC name es' at' (gk id eb T L)/\(∀ z∈aE.bS T,z.n=id->∀ s∈L,z.f≠s.1):=by
 have c:∀ z∈aE.bS T,z.n=id->∀ s∈L,z.f≠s.1:=by
  intro z q e;obtain⟨x,r,A,s,_,rfl⟩:=(h.2 z).1 q;exact Vb e (g x r A)
 obtain⟨o,_,m,_⟩:=Bg id eb L T h.1 c (Cv y);exact⟨⟨o,fun z=>by rw[m,h.2];exact (t z).symm⟩,c⟩
theorem RH{at_:U8->U7}{T:aE.S}{e0:aL}(h:gC name es at_ T)(o:dB es)(A:e0∈es)(g:∀ e∈es,e.id≠e0.id->at' e.id=at_ e.id):
  gC name (kept e0.id es) at' (jw e0.id T e0.aK):=by
 obtain⟨x,r,_⟩:=Bt e0.id e0.aK T h.1;refine⟨x,fun z=>?_⟩;rw[r,XE,h.2];constructor
 ·rintro ⟨⟨e,f,q,s,m,rfl⟩,y⟩
  have c:e.id≠e0.id:=by
   intro C;have:e=e0:=o.one f A C;subst this;have:=Xe.1 y s m;simp[aE.mZ] at this
  exact⟨e,aA.sJ.2 ⟨f,c⟩,q,s,m,by rw[g e f c]⟩
 ·rintro ⟨e,f,q,s,m,rfl⟩;obtain⟨f,c⟩:=aA.sJ.1 f;refine⟨⟨e,f,q,s,m,by rw[g e f c]⟩,?_⟩;rw[Xe];intro t _;simp[aE.mZ,c]
theorem vS{at_:U8->U7}{T:aE.S}(h:gC name es at_ T)(q:∀ e,cA name e=Vf->(e∈es'↔e∈es))(g:∀ e∈es,cA name e=Vf->at' e.id=at_ e.id):gC name es' at' T:=by
 refine⟨h.1,fun z=>?_⟩;rw[h.2];constructor
 ·rintro ⟨e,m,c,s,o,rfl⟩;exact⟨e,(q e c).2 m,c,s,o,by rw[g e m c]⟩
 ·rintro ⟨e,m,c,s,o,rfl⟩;have f:=(q e c).1 m;exact⟨e,f,c,s,o,by rw[g e f c]⟩
theorem Of.turn{r:Raw}(h:Of s r)(H:s.ts.Pairwise fun t u=>bW t.1 u.1=Ve)(z:i<r.tg.length){c:U4 EG}{o:U4 U6->U8}{T':aE.S}(J:c.map (·.e)=es')(P:o=cN r.tg[i].name es')(O:gC r.tg[i].name es' (iW c) T')
  (N:∀ (name:U3) (T:aE.S),name≠r.tg[i].name->cN name es'=cN name s.es/\(gC name s.es (iW r.eg) T->gC name es' (iW c) T)) (K:∀ g∈c,∃ (i:U7) (h:i<r.tg.length),r.tg[i].name=g.e.aT/\g.tb=r.tg[i].tb):
  Of { s with es:=es' } ({ r with eg:=c }.cW i (r.tg[i].with o T')):=by
 have f:({ r with eg:=c }.cW i (r.tg[i].with o T')).tg.length=r.tg.length:=by simp[Raw.cW]
 have m:∀ (j:U7) (q:j<r.tg.length),(({ r with eg:=c }.cW i (r.tg[i].with o T')).tg[j]'(by rw[f];exact q)).name=r.tg[j].name/\(({ r with eg:=c }.cW i (r.tg[i].with o T')).tg[j]'(by rw[f];exact q)).tb=r.tg[j].tb:=by
  intro j q
  by_cases e:i=j
  ·subst e;simp[Raw.cW,TG.with]
  ·simp[Raw.cW,e]
 refine⟨h.now,h.given,?_,J,fun j q=>?_,fun g I=>?_⟩
 ·rw[<- h.ts];show (r.tg.set i (r.tg[i].with o T')).map _=_;rw[Yb];have:((r.tg[i].with o T').name,(r.tg[i].with o T').aH)=(r.tg.map fun t=>(t.name,t.aH))[i]'(by simpa using z):=by simp[TG.with]
  rw[this,Yc]
 ·have x:j<r.tg.length:=by rw[<- f];exact q
  by_cases e:i=j
  ·subst e;have y:({ r with eg:=c }.cW i (r.tg[i].with o T')).tg[i]=r.tg[i].with o T':=by simp[Raw.cW]
   rw[y];exact⟨P,O⟩
  ·have y:({ r with eg:=c }.cW i (r.tg[i].with o T')).tg[j]=r.tg[j]:=by simp[Raw.cW,e]
   rw[y];obtain⟨E,D⟩:=N r.tg[j].name r.tg[j].T (fun R=>e (h.names H z x R.symm));obtain⟨C,A⟩:=h.th j x;exact⟨C.trans E.symm,D A⟩
 ·obtain⟨j,q,U,y⟩:=K g I;exact⟨j,by rw[f];exact q,(m j q).1.trans U,y.trans (m j q).2.symm⟩
theorem Tc(id:U8)(c:U4 EG):(fV id 1 0 c).map (·.e)=dZ id (c.map (·.e)):=by
 unfold fV dZ;rw[Yf,Yf];apply Yg;intro g _;simp only[Yh]
 split <;> rfl
theorem GK(id:U8)(c:U4 EG):(eQ id c).map (·.e)=kept id (c.map (·.e)):=by
 unfold eQ kept;rw[Yv];rfl
theorem T9{c f:U8}{g:U4 EG}{x:EG}(h:x∈fV id c f g):∃ y∈g,x.eb=y.eb/\x.tb=y.tb/\x.e.aT=y.e.aT/\x.e.id=y.e.id:=by
 obtain⟨y,m,rfl⟩:=Wk.1 h;refine⟨y,m,?_⟩
 split <;> exact⟨rfl,rfl,rfl,rfl⟩
theorem I3(id c f:U8)(eg:U4 EG):iW (fV id c f eg)=iW eg:=by funext x;unfold iW;rw[GV]
theorem Of.book{r:Raw}(h:Of s r)(hp:s.ts.Pairwise fun t u=>bW t.1 u.1=Ve)(D:dB s.es)(S:(r.eg.map (·.e.id)).Nodup){g:EG}(P:g∈r.eg)(U:g.e.kind=3)(hr:gI g.e.aK)(V:i<r.tg.length)(c:r.tg[i].name=g.e.aT):
  Of { s with es:=dZ g.e.id s.es } ({ r with eg:=fV g.e.id 1 0 r.eg }.cW i (r.tg[i].with (bZ r.tg[i].A g.e.aK g.e.aH) (gk g.e.id g.eb r.tg[i].T g.e.aK)))/\(∀ z∈aE.bS r.tg[i].T,z.n=g.e.id->∀ s∈g.e.aK,z.f≠s.1):=by
 obtain⟨Y,X⟩:=h.th i V;have I:=h.mem P
 have C:∀ (name:U3) (e:aL),e∈s.es->cA name e=Vf->e.id≠g.e.id:=by
  intro name e m o O;have:e=g.e:=D.one m I O;subst this;simp[cA,U] at o
 have R:cA r.tg[i].name (cS g.e)=Vf:=by rw[aA.v7,c];exact aA.qX _
 have W:=Hg (id:=g.e.id) (eb:=g.eb) (L:=g.e.aK) (es':=dZ g.e.id s.es) (at':=iW (fV g.e.id 1 0 r.eg)) X hr (fun e m o=>C _ e m o) (fun z=>by
  rw[I3];constructor
  ·rintro ⟨e,m,o,q,H,rfl⟩;rcases aA.wb.1 m with ⟨m,_⟩|⟨y,J,E,rfl⟩
   ·exact .inl ⟨e,m,o,q,H,rfl⟩
   ·have:y=g.e:=D.one J I E;subst this;exact .inr ⟨q,H,by unfold jF;rw[show (cS g.e).id=g.e.id from rfl,Bq S P]⟩
  ·rintro (⟨e,m,o,q,H,rfl⟩|⟨q,H,rfl⟩)
   ·exact⟨e,aA.wb.2 (.inl ⟨m,C _ e m o⟩),o,q,H,rfl⟩
   ·exact⟨cS g.e,aA.wb.2 (.inr ⟨g.e,I,rfl,rfl⟩),R,q,H,by unfold jF;rw[show (cS g.e).id=g.e.id from rfl,Bq S P]⟩)
 refine⟨h.turn hp V (by rw[Tc,h.es]) ?_ W.1 (fun name T K=>⟨?_,fun hT=>?_⟩) (fun x hx=>?_),W.2⟩
 ·rw[Y];exact aA.Jh (by rw[c];exact aA.qX _) U D I
 ·refine aA.JC (fun e m O o=>?_);have:e=g.e:=D.one m I O;subst this;exact Vb (sK.1 o) (fun N=>K (by rw[c,N]))
 ·refine vS hT (fun e o=>?_) (fun e _ _=>by rw[I3]);constructor
  ·intro m;rcases aA.wb.1 m with ⟨m,_⟩|⟨y,J,E,rfl⟩
   ·exact m
   ·have:y=g.e:=D.one J I E;subst this;rw[aA.v7] at o;exact Vb (sK.1 o) (fun N=>K (by rw[c,N]))
  ·intro m;exact aA.wb.2 (.inl ⟨m,C name e m o⟩)
 ·obtain⟨y,J,O,N,e3,_⟩:=T9 hx;obtain⟨j,hj,q1,q2⟩:=h.tb y J;exact⟨j,hj,by rw[e3];exact q1,by rw[N];exact q2⟩
theorem Bp{c:U4 EG}(g:(c.map (·.e.id)).Nodup)(id x:U8)(f:x≠id):iW (eQ id c) x=iW c x:=by unfold iW;rw[GJ g,U9 f]
theorem Of.goes{r:Raw}(h:Of s r)(O:s.ts.Pairwise fun t u=>bW t.1 u.1=Ve)(o:dB s.es)(H:(r.eg.map (·.e.id)).Nodup){g:EG}(R:g∈r.eg)(P:g.e.kind≠3)(I:i<r.tg.length)(c:r.tg[i].name=g.e.aT):
  Of { s with es:=kept g.e.id s.es } ({ r with eg:=eQ g.e.id r.eg }.cW i (r.tg[i].with (bZ r.tg[i].A g.e.aK (-g.e.aH)) (jw g.e.id r.tg[i].T g.e.aK))):=by
 obtain⟨K,J⟩:=h.th i I;have z:=h.mem R;have C:cA r.tg[i].name g.e=Vf:=by simp[cA,c,aA.qX,P]
 refine h.turn O I (by rw[GK,h.es]) ?_ (RH J o z (fun e _ m=>Bp H _ _ m)) (fun name T m=>⟨?_,fun S=>?_⟩) (fun x N=>h.tb x (XE.1 N).1)
 ·rw[K];exact aA.Cb C o z
 ·refine aA.CI (fun e f E=>?_);have:e=g.e:=o.one f z E;subst this;have:bW g.e.aT name=Ve:=pS.2 (fun D=>m (by rw[c,D]));simp[cA,this]
 ·have q:∀ e∈s.es,cA name e=Vf->e.id≠g.e.id:=fun e f y E=>by
   have:e=g.e:=o.one f z E;subst this;have:bW g.e.aT name=Ve:=pS.2 (fun D=>m (by rw[c,D]));simp[cA,this] at y
  exact vS S (fun e y=>⟨fun f=>(aA.sJ.1 f).1,fun f=>aA.sJ.2 ⟨f,q e f y⟩⟩) (fun e f y=>Bp H _ _ (q e f y))
theorem Of.uz{r:Raw}(h:Of s r)(m:dB s.es)(D:(r.eg.map (·.e.id)).Nodup){g:EG}(H:g∈r.eg)(y:g.e.kind=3):
  Of { s with es:=kept g.e.id s.es } { r with eg:=eQ g.e.id r.eg }:=by
 have t:=h.mem H
 have f:∀ (name:U3),∀ e∈s.es,cA name e=Vf->e.id≠g.e.id:=fun name e c o q=>by
  have:e=g.e:=m.one c t q;subst this;simp[cA,y] at o
 refine⟨h.now,h.given,h.ts,by rw[<- h.es];exact GK _ _,fun j E=>?_,fun x C=>h.tb x (XE.1 C).1⟩;obtain⟨A,z⟩:=h.th j E;refine⟨A.trans (aA.CI (fun e c q=>?_)).symm,vS z (fun e o=>⟨fun c=>(aA.sJ.1 c).1,fun c=>aA.sJ.2 ⟨c,f _ e c o⟩⟩) (fun e c o=>Bp D _ _ (f _ e c o))⟩;have:e=g.e:=m.one c t q;subst this;simp[cA,y]
theorem uc{f:U4 EG}{g:EG}(c:∀ x∈f,x.e.id≠g.e.id)(x:U8):iW (f++[g]) x=if x=g.e.id then g.eb else iW f x:=by
 unfold iW;rw[GY c];split <;> rfl
theorem Of.comes{r:Raw}(h:Of s r)(V:s.ts.Pairwise fun t u=>bW t.1 u.1=Ve){g:EG}(y:∀ x∈r.eg,x.e.id≠g.e.id)(W:g.e.kind≠3)(U:gI g.e.aK)(O:i<r.tg.length)(m:r.tg[i].name=g.e.aT)(K:g.tb=r.tg[i].tb)(n:U8):
  Of { s with es:=s.es++[g.e],given:=n } ({ r with eg:=r.eg++[g],given:=n }.cW i (r.tg[i].with (bZ r.tg[i].A g.e.aK g.e.aH) (gk g.e.id g.eb r.tg[i].T g.e.aK)))/\(∀ z∈aE.bS r.tg[i].T,z.n=g.e.id->∀ s∈g.e.aK,z.f≠s.1):=by
 obtain⟨S,R⟩:=h.th i O;have I:cA r.tg[i].name g.e=Vf:=by simp[cA,m,aA.qX,W]
 have o:∀ e∈s.es,e.id≠g.e.id:=fun e c=>by obtain⟨x,C,rfl⟩:=h.get c;exact y x C
 have P:=Hg (id:=g.e.id) (eb:=g.eb) (L:=g.e.aK) (es':=s.es++[g.e]) (at':=iW (r.eg++[g])) R U (fun e c _=>o e c) (fun z=>by
  constructor
  ·rintro ⟨e,c,E,q,D,rfl⟩;rcases VA.1 c with c|c
   ·exact .inl ⟨e,c,E,q,D,by rw[uc y,U9 (o e c)]⟩
   ·have:e=g.e:=by simpa using c
    subst this;exact .inr ⟨q,D,by unfold jF;rw[uc y,Va rfl]⟩
  ·rintro (⟨e,c,E,q,D,rfl⟩|⟨q,D,rfl⟩)
   ·exact⟨e,by simp[c],E,q,D,by rw[uc y,U9 (o e c)]⟩
   ·exact⟨g.e,by simp,I,q,D,by unfold jF;rw[uc y,Va rfl]⟩)
 have J:Of { s with es:=s.es++[g.e] } ({ r with eg:=r.eg++[g] }.cW i (r.tg[i].with (bZ r.tg[i].A g.e.aK g.e.aH) (gk g.e.id g.eb r.tg[i].T g.e.aK))):=by
  refine h.turn V O (by rw[Wq,h.es];rfl) ?_ P.1 (fun name T N=>?_) (fun x C=>?_)
  ·rw[S];exact aA.Rg I
  ·have X:bW g.e.aT name=Ve:=pS.2 (fun e2=>N (by rw[m,e2]));have H:cA name g.e=Ve:=by simp[cA,X]
   refine⟨aA.Jl H,fun Y=>vS Y (fun e E=>?_) (fun e c _=>by rw[uc y,U9 (o e c)])⟩;rw[VA];constructor
   ·rintro (c|c)
    ·exact c
    ·have:e=g.e:=by simpa using c
     subst this;rw[H] at E;cases E
   ·exact .inl
  ·rcases VA.1 C with C|C
   ·exact h.tb x C
   ·have:x=g:=by simpa using C
    subst this;exact⟨i,O,m,K⟩
 exact⟨⟨J.now,rfl,J.ts,J.es,J.th,J.tb⟩,P.2⟩
theorem Of.lr{r:Raw}(h:Of s r){g:EG}(t:∀ x∈r.eg,x.e.id≠g.e.id)(D:g.e.kind=3)(H:i<r.tg.length)(f:r.tg[i].name=g.e.aT)(y:g.tb=r.tg[i].tb)(n:U8):
  Of { s with es:=s.es++[g.e],given:=n } { r with eg:=r.eg++[g],given:=n }:=by
 have q:∀ e∈s.es,e.id≠g.e.id:=fun e m=>by obtain⟨x,c,rfl⟩:=h.get m;exact t x c
 refine⟨h.now,rfl,h.ts,by show (r.eg++[g]).map _=_;rw[Wq,h.es];rfl,fun j E=>?_,fun x c=>?_⟩
 ·obtain⟨C,A⟩:=h.th j E;have o:∀ name,cA name g.e=Ve:=fun name=>by simp[cA,D]
  refine⟨C.trans (aA.Jl (o _)).symm,vS A (fun e z=>?_) (fun e m _=>by show iW (r.eg++[g]) e.id=_;rw[uc t,U9 (q e m)])⟩;show e∈s.es++[g.e]↔_;rw[VA];constructor
  ·rintro (m|m)
   ·exact m
   ·have:e=g.e:=by simpa using m
    subst this;rw[o] at z;cases z
  ·exact .inl
 ·rcases VA.1 c with c|c
  ·exact h.tb x c
  ·have:x=g:=by simpa using c
   subst this;exact⟨i,H,f,y⟩
theorem QW{eg:U4 EG}(f:(eg.map (·.e.id)).Nodup){g:EG}(q:g∈eg)(t:g.e.kind≠1):(eg.filter fun x=>x.e.kind != 1).Perm (g :: (fV g.e.id 1 0 eg).filter fun x=>x.e.kind != 1):=by
 induction eg with
 |nil=>simp at q
 |cons y eg ih =>
  rw[XR,VD] at f;rcases Vz.1 q with rfl|c
  ·have z:fV g.e.id 1 0 eg=eg:=by
    unfold fV
    have:eg.map (fun x=>if x.e.id=g.e.id then { x with e:={ x.e with kind:=1,bY:=0 } } else x)=eg.map id:=by
     apply Yg;intro x r;rw[U9 (fun e=>f.1 (Wk.2 ⟨x,r,e⟩))];rfl
    rw[this,Yw]
   have o:fV g.e.id 1 0 (g :: eg)={ g with e:={ g.e with kind:=1,bY:=0 } } :: eg:=by
    conv=>lhs;unfold fV;rw[XR,Va rfl]
    conv=>rhs;rw[<- z]
    rfl
   rw[o,VP,Va (by simpa using t),VP,U9 UU]
  ·have m:y.e.id≠g.e.id:=fun e=>f.1 (Wk.2 ⟨g,c,e.symm⟩)
   have o:fV g.e.id 1 0 (y :: eg)=y :: fV g.e.id 1 0 eg:=by
    conv=>lhs;unfold fV;rw[XR,U9 m]
    rfl
   rw[o];have ih:=ih f.2 c
   by_cases h:(y.e.kind != 1)=Vf
   ·rw[VP,Va h,VP,Va h];exact (ih.cons y).trans (.swap ..)
   ·rw[VP,U9 h,VP,U9 h];exact ih
theorem QY{eg:U4 EG}(f:(eg.map (·.e.id)).Nodup){g:EG}(q:g∈eg)(p:EG->U6)(t:p g=Vf):(eg.filter p).Perm (g :: (eQ g.e.id eg).filter p):=by
 induction eg with
 |nil=>simp at q
 |cons y eg ih =>
  rw[XR,VD] at f;rcases Vz.1 q with rfl|c
  ·have o:eQ g.e.id (g :: eg)=eg:=by
    unfold eQ;rw[VP,U9 UU];exact XF.2 (fun x r=>by simpa using fun e=>f.1 (Wk.2 ⟨x,r,e⟩))
   rw[o,VP,Va t]
  ·have m:y.e.id≠g.e.id:=fun e=>f.1 (Wk.2 ⟨g,c,e.symm⟩)
   have o:eQ g.e.id (y :: eg)=y :: eQ g.e.id eg:=by unfold eQ;rw[VP,Va (by simpa using m)]
   rw[o];have ih:=ih f.2 c
   by_cases h:p y=Vf
   ·rw[VP,Va h,VP,Va h];exact (ih.cons y).trans (.swap ..)
   ·rw[VP,U9 h,VP,U9 h];exact ih
theorem I9{c:U4 EG}(m:(c.map (·.e.id)).Nodup){g:EG}(o:g∈c)(p:EG->U6)(h:p g=Ve):(eQ g.e.id c).filter p=c.filter p:=by
 unfold eQ;rw[Yx];apply Yy;intro x f
 by_cases e:x.e.id=g.e.id
 ·have:x=g:=oL _ m f o e;subst this;simp[h]
 ·have:(x.e.id != g.e.id)=Vf:=by simpa using e
  simp[this]
theorem Hl.at{r:Raw}(h:Hl r){x:Hp.Hi}(f:x∈r.hl):∃ g∈r.eg,g.e.kind≠1/\x=kM g:=by
 have:=h.2.mem_iff.1 f;obtain⟨g,c,rfl⟩:=Wk.1 this;exact⟨g,(XE.1 c).1,by simpa using (XE.1 c).2,rfl⟩
theorem Hl.has{r:Raw}(h:Hl r){g:EG}(f:g∈r.eg)(c:g.e.kind≠1):kM g∈r.hl:=h.2.mem_iff.2 (Wk.2 ⟨g,XE.2 ⟨f,by simpa using c⟩,rfl⟩)
theorem Hl.len{r:Raw}(h:Hl r):r.hl.length<=r.eg.length:=by
 rw[h.2.length_eq,WK];exact WG _ _
theorem Hl.one{r:Raw}(h:Hl r)(q:(r.eg.map (·.e.id)).Nodup){g:EG}(t:g∈r.eg){x:Hp.Hi}{c:U4 Hp.Hi}(m:x.n=g.e.id)(o:r.hl.Perm (x :: c)):x=kM g:=by
 obtain⟨y,f,_,e⟩:=h.at (x:=x) (o.mem_iff.2 UU);subst e;have:y=g:=oL _ q f t m;rw[this]
theorem Hl.book{r:Raw}(h:Hl r)(m:(r.eg.map (·.e.id)).Nodup){g:EG}(o:g∈r.eg)(t:g.e.kind≠1){x:Hp.Hi}{c:U4 Hp.Hi}(q:x.n=g.e.id)(y:Hp.gG c)(f:r.hl.Perm (x :: c)):Hl { r with eg:=fV g.e.id 1 0 r.eg,hl:=c }:=by
 have e:=h.one m o q f;subst e;refine⟨y,Yz (a:=kM g) ?_⟩;exact f.symm.trans (h.2.trans ((QW m o t).map kM))
theorem Hl.goes{r:Raw}(h:Hl r)(m:(r.eg.map (·.e.id)).Nodup){g:EG}(o:g∈r.eg)(t:g.e.kind≠1){x:Hp.Hi}{c:U4 Hp.Hi}(q:x.n=g.e.id)(y:Hp.gG c)(f:r.hl.Perm (x :: c)):Hl { r with eg:=eQ g.e.id r.eg,hl:=c }:=by
 have e:=h.one m o q f;subst e;refine⟨y,Yz (a:=kM g) ?_⟩;exact f.symm.trans (h.2.trans ((QY m o (fun g=>g.e.kind != 1) (by simpa using t)).map kM))
theorem Hl.nz{r:Raw}(h:Hl r)(c:(r.eg.map (·.e.id)).Nodup){g:EG}(m:g∈r.eg)(f:g.e.kind=1):Hl { r with eg:=eQ g.e.id r.eg }:=by
 refine⟨h.1,?_⟩;show r.hl.Perm (((eQ g.e.id r.eg).filter fun g=>g.e.kind != 1).map kM);rw[I9 c m _ (by simp[f])];exact h.2
theorem Hl.comes{r:Raw}(h:Hl r){g:EG}(m:g.e.kind≠1){c:U4 Hp.Hi}(o:Hp.gG c)(f:c.Perm (r.hl++[kM g])):Hl { r with eg:=r.eg++[g],hl:=c }:=by
 refine⟨o,f.trans ?_⟩;show (r.hl++[kM g]).Perm (((r.eg++[g]).filter fun g=>g.e.kind != 1).map kM);rw[VO,Wq];have:[g].filter (fun g=>g.e.kind != 1)=[g]:=by simp[m]
 rw[this];exact h.2.append_right _
theorem Hl.sd{r:Raw}(h:Hl r){g:EG}(c:g.e.kind=1):Hl { r with eg:=r.eg++[g] }:=by
 refine⟨h.1,?_⟩;show r.hl.Perm (((r.eg++[g]).filter fun g=>g.e.kind != 1).map kM);rw[VO];have:[g].filter (fun g=>g.e.kind != 1)=[]:=by simp[c]
 rw[this,X4];exact h.2
theorem Wl.goes{r:Raw}(h:Wl r)(o:(r.eg.map (·.e.id)).Nodup)(q:(r.eg.map (·.eb)).Nodup){g:EG}(m:g∈r.eg):(r.wl.filter fun b=>!(b==g.eb))=((eQ g.e.id r.eg).filter fun g=>g.e.kind==3).map (·.eb):=by
 rw[h,Yv];unfold eQ;rw[Yx,Yx]
 congr 1
 apply Yy;intro x f
 have:(x.eb==g.eb)=(x.e.id==g.e.id):=by
  by_cases e:x=g
  ·subst e;simp
  ·have y:x.eb≠g.eb:=fun c=>e (oL _ q f m c)
   have t:x.e.id≠g.e.id:=fun c=>e (oL _ o f m c)
   rw[beq_eq_false_iff_ne.2 y,beq_eq_false_iff_ne.2 t]
 simp only[Yh,this];rw[Bool.and_comm];rfl
theorem Wl.nz{r:Raw}(h:Wl r)(c:(r.eg.map (·.e.id)).Nodup){g:EG}(m:g∈r.eg)(f:g.e.kind≠3):Wl { r with eg:=eQ g.e.id r.eg }:=by
 unfold Wl at *;show r.wl=((eQ g.e.id r.eg).filter fun g=>g.e.kind==3).map (·.eb);rw[I9 c m _ (by simpa using f)];exact h
theorem Wl.comes{r:Raw}(h:Wl r){g:EG}(c:g.e.kind≠3):Wl { r with eg:=r.eg++[g] }:=by
 unfold Wl at *;show r.wl=((r.eg++[g]).filter fun g=>g.e.kind==3).map (·.eb);rw[VO];have:[g].filter (fun g=>g.e.kind==3)=[]:=by simp[c]
 rw[this,X4];exact h
theorem Wl.lr{r:Raw}(h:Wl r){g:EG}(c:g.e.kind=3):Wl { r with eg:=r.eg++[g],wl:=r.wl++[g.eb] }:=by
 unfold Wl at *;show r.wl++[g.eb]=((r.eg++[g]).filter fun g=>g.e.kind==3).map (·.eb);rw[VO,Wq];have:[g].filter (fun g=>g.e.kind==3)=[g]:=by simp[c]
 rw[this,h];rfl
namespace aA
def ly(ts:U4 (U3 × U8))(p:U4 aL × U4 U8)(e:aL):U4 aL × U4 U8 :=
 if dG ts p.1 e.aT e.aH e.aK=Vf then (dZ e.id p.1,p.2++[e.id]) else p
def fc(e:aL):U6:=e.kind==3
theorem SZ{d r:U4 aL}(h:dB (d++e :: r)):dZ e.id (d++e :: r)=d++cS e :: r:=by
 unfold dB at h;rw[Wq,XR,XA,VN] at h;obtain⟨_,⟨g,_⟩,f⟩:=h;unfold dZ;rw[Wq,XR,Va rfl]
 have o:d.map (fun x=>if x.id=e.id then cS x else x)=d:=by
  rw[show d=d.map id from (Yw d).symm,Yf];apply Yg;intro x c;have:=f x.id (Wk.2 ⟨x,c,rfl⟩) e.id UU;simp only[Yh,id];rw[U9 UT]
 have m:r.map (fun x=>if x.id=e.id then cS x else x)=r:=by
  rw[show r=r.map id from (Yw r).symm,Yf];apply Yg;intro x c;have:=g x.id (Wk.2 ⟨x,c,rfl⟩);simp only[Yh,id];rw[U9 UT]
 rw[o,m]
theorem yG(ts:U4 (U3 × U8)):∀ (r d:U4 aL)(acc:U4 U8),dB (d++r)->(r.filter fc).foldl (ly ts) (d++r,acc)=((dQ ts d r).1,acc++(dQ ts d r).2)
 |[],d,acc,_=>by simp[dQ]
 |e :: r,d,acc,h=>by
  have t:dB ((d++[e])++r):=by simpa using h
  by_cases f:e.kind=3
  ·have m:fc e=Vf:=by simp[fc,f]
   rw[VP,Va m,W8]
   by_cases g:dG ts (d++e :: r) e.aT e.aH e.aK=Vf
   ·have q:=SZ h
    have x:dB ((d++[cS e])++r):=by
     have:=Ui (id:=e.id) h;rw[q] at this
     simpa using this
    have o:ly ts (d++e :: r,acc) e=((d++[cS e])++r,acc++[e.id]):=by
     unfold ly;simp only;rw[Va g,q];simp
    rw[o,yG ts r _ _ x]
    have c:dQ ts d (e :: r)=((dQ ts (d++[cS e]) r).1,e.id :: (dQ ts (d++[cS e]) r).2):=by
     rw[dQ,Va ⟨f,g⟩]
    rw[c];simp
   ·have o:ly ts (d++e :: r,acc) e=((d++[e])++r,acc):=by
     unfold ly;simp only;rw[U9 g];simp
    rw[o,yG ts r _ _ t]
    have c:dQ ts d (e :: r)=dQ ts (d++[e]) r:=by
     rw[dQ,U9 (fun h=>g h.2)]
    rw[c]
  ·have m:¬ (fc e=Vf):=by simp[fc,f]
   rw[VP,U9 m]
   have c:dQ ts d (e :: r)=dQ ts (d++[e]) r:=by
    rw[dQ,U9 (fun h=>f h.1)]
   rw[c,<- yG ts r _ _ t];simp
theorem Ju(ts:U4 (U3 × U8))(es:U4 aL)(h:dB es):ey ts es=(es.filter fc).foldl (ly ts) (es,[]):=by
 have:=yG ts es [] [] (by simpa using h);simp only[List.nil_append] at this;rw[this];rfl
end aA
theorem Step.cU{S:aW->Prop}{g f:U7->U5 aW}(h:Step S B g f w w')(o:g b=Vc)(q:b<B):f b=Vc:=by
 cases e:f b with
 |none=>rfl
 |some c =>
  rcases h.new b c e with m|m
  ·rw[o] at m;cases m
  ·omega
theorem Step.own{S:aW->Prop}{g f:U7->U5 aW}{c e size:U7}(h:Step S B g f w w')(o:w.ownsRow c e size v n xs)(m:∀ b,v.ownBlock=Vd b->g b=Vc/\b<B):w'.ownsRow c e size v n xs:=by
 obtain⟨G,t,r⟩:=h.left;exact dO o t (fun b q=>r b (.inr (m b q)))
theorem DK.none{r:Raw}{f:U7->U5 aW}(h:DK w d r f)(g:w.heap.size<=b):f b=Vc:=by
 cases e:f b with
 |none=>rfl
 |some c=>have:=h.lt _ _ e;omega
structure eD(w:Vg)(B:U7)(aM:U7->U5 aW)(v:Vh)(l:U4 U8):Prop where
 own:w.ownsRow B 3 1 v l.length (l.map (V3 .i64))
 no:∀ b,v.ownBlock=Vd b->aM b=Vc
theorem eD.nil(w:Vg)(B:U7)(c:U7->U5 aW):eD w B c (.slice Vc 0 0) []:=⟨WJ _ _ _ _,fun b f=>by cases f⟩
theorem eD.step{S:aW->Prop}{f c:U7->U5 aW}(h:eD w B0 f v l)(st:Step S B f c w w')(o:w.heap.size<=B):eD w' B0 c v l:=by
 have m:∀ b,v.ownBlock=Vd b->f b=Vc/\b<B:=fun b g=>⟨h.no b g,Wj (h.own.lt b g).2 o⟩
 exact⟨st.own h.own m,fun b g=>st.cU (m b g).1 (m b g).2⟩
theorem eD.later{c:U7->U5 aW}(h:eD w B0 c v l)(k:Vi w.heap.size w w'):eD w' B0 c v l:=⟨eu h.own k,h.no⟩
theorem eD.slice{c:U7->U5 aW}(h:eD w B c v l):∃ a cap,v=.slice a l.length cap:=by
 rcases h.own.2 with ⟨rfl,f⟩|⟨g,cap,_,rfl,_⟩
 ·rw[f];exact⟨_,_,rfl⟩
 ·exact⟨_,_,rfl⟩
def anyS(_:aW):Prop:=True
theorem Step.any{S:aW->Prop}{f c:U7->U5 aW}(h:Step S B f c w w')(g:B'<=B):Step anyS B' f c w w':=h.mono (fun _ _=>trivial) g
open aA (aL St dB kept dZ cS cN gC cA bW gI ec gv)
theorem BH:∀ (l:U4 U8)(a b:U8),l.Pairwise (· < ·)->(∀ x∈l,a<=x/\x<=b)->(l.length:U8)<=max 0 (b-a+1)
 |[],a,b,_,_=>by simp;omega
 |x :: l,a,b,h,hb=>by
  rw[VN] at h;have f:=hb x UU;have ih:=BH l (x+1) b h.2 (fun y c=>⟨by have:=h.1 y c;omega,(hb y (by simp[c])).2⟩);simp only[V5];omega
theorem ma(h:ec s):s.es.length<=60:=by
 have f:(s.es.map fun e:aL=>e.id).Pairwise (· < ·):=h.ids
 have:=BH _ 1 60 f (fun x c=>by
  obtain⟨e,g,rfl⟩:=Wk.1 c;have o:=h.mO e g;have m:=h.g1
  omega)
 rw[WK] at this;omega
theorem Ic{α:Type}:∀ (l m:U4 α),l.Nodup->(∀ x∈l,x∈m)->l.length<=m.length
 |[],m,_,_=>by simp
 |a :: l,m,h,hs=>by
  rw[VD] at h;obtain⟨o,g,rfl⟩:=X6 (hs a UU)
  have:=Ic l (o++g) h.2 (fun x c=>by
   have f:=hs x (by simp[c]);simp only[VA,Vz] at f ⊢;rcases f with e|e|e
   ·exact .inl e
   ·subst e;exact Vb c h.1
   ·exact .inr e)
  simp only[V4,V5] at this ⊢;omega
theorem Ii(at_:U8->U7):∀ (es:U4 aL),(∀ e∈es,e.aK.length<=40)->(es.flatMap fun e=>e.aK.map fun s=>(⟨s.1,s.2,e.id,at_ e.id⟩:aE.It)).length<=40*es.length
 |[],_=>by simp
 |e :: es,h=>by
  have ih:=Ii at_ es (fun x c=>h x (by simp[c]));have:=h e UU;simp only[List.flatMap_cons,V4,WK,V5];omega
theorem Rp{l:U4 aE.It}(h:aE.Ord l):l.Nodup:=by
 rw[Yu];refine X7 ?_ h;intro a b c e;subst e;unfold aE.lt at c;omega
theorem RI{at_:U8->U7}{T:aE.S}(h:gC name es at_ T)(o:es.length<=60)(c:∀ e∈es,e.aK.length<=40):aE.size T<=9000:=by
 have m:=Ic _ (es.flatMap fun e=>e.aK.map fun s=>(⟨s.1,s.2,e.id,at_ e.id⟩:aE.It)) (Rp h.1) (fun z f=>by
  obtain⟨e,g,_,s,c,rfl⟩:=(h.2 z).1 f
  exact List.mem_flatMap.2 ⟨e,g,Wk.2 ⟨s,c,rfl⟩⟩)
 have q:=Ii at_ es c;rw[aE.mL] at m;omega
theorem Bd{r:Raw}(h:ec s)(g:Of s r)(c:gv now e)(m:i<r.tg.length):Fit r.tg[i] e:=by
 obtain⟨f,o⟩:=g.th i m;refine⟨c.sp,fun p=>?_,c.u1,c.u9,by have:=c.sl;omega⟩;have:=aA.tU r.tg[i].name p s.es h.small;have:=ma h;rw[f];omega
theorem Cu(h:ec s):aA.vz s.es:=fun e f q c=>((h.en e f).sp q c).2.1
theorem Hq{r:Raw}(h:ec s)(f:Of s r)(c:ov e.aK)(q:1<=e.aH)(g:i<r.tg.length)(o:r.tg[i].name=e.aT):
  ky (bZ r.tg[i].A e.aK e.aH) r.tg[i].aH e.aK=aA.dG s.ts s.es e.aT e.aH e.aK:=by
 have m:=Cc h.tn (i:=i) (by rw[<- f.len];exact g);rw[f.jR g] at m;rw[(f.th i g).1,o] at *;exact aA.Ry h.small (Cu h) c UT m
theorem BA{r:Raw}(h:ec s)(f:Of s r)(g:i<r.tg.length):aE.Ord (aE.bS r.tg[i].T)/\aE.size r.tg[i].T<=9000:=by
 obtain⟨_,c⟩:=f.th i g;exact⟨c.1,RI c (ma h) (fun e m=>(h.en e m).sl)⟩
theorem Qi{r:Raw}(h:ec s)(c:Of s r){g:EG}(q:g∈r.eg)(m:g.e.kind≠3)(o:i<r.tg.length)(f:r.tg[i].name=g.e.aT):∀ p,0<=bZ r.tg[i].A g.e.aK (-g.e.aH) p:=by
 intro p;have x:cA r.tg[i].name g.e=Vf:=by simp[cA,f,aA.qX,m]
 rw[(c.th i o).1,aA.Cb x h.ids (c.mem q)];exact (aA.tU _ p _ (fun e t=>h.small e (aA.sJ.1 t).1)).1
open aA (aL St dB kept dZ cS cN gC cA bW gI ec gv ly)
noncomputable def mX(Gr:U4 U8)(g:EG):EG:=@ite _ (g.e.id∈Gr) (Ya _) { g with e:=cS g.e } g
theorem sy{g:EG}(h:g.e.id∈Gr):mX Gr g={ g with e:=cS g.e }:=Va h
theorem qR{g:EG}(h:g.e.id ∉ Gr):mX Gr g=g:=U9 h
noncomputable def mY(Gr:U4 U8)(c:U4 EG):U4 EG:=c.map (mX Gr)
theorem Qv(eg:U4 EG):mY [] eg=eg:=by
 unfold mY
 conv=>rhs;rw[<- Yw eg]
 apply Yg;intro g _;rw[qR UU];rfl
theorem Se(Gr:U4 U8)(id:U8)(eg:U4 EG):fV id 1 0 (mY Gr eg)=mY (Gr++[id]) eg:=by
 unfold fV mY;rw[Yf];apply Yg;intro g _;simp only[Yh]
 by_cases f:g.e.id∈Gr
 ·rw[sy f,sy (YA _ f)]
  split <;> rfl
 ·rw[qR f]
  by_cases c:g.e.id=id
  ·rw[Va c,sy (YB _ (by rw[c];exact YC.2 rfl))];rfl
  ·rw[U9 c,qR (fun h=>by rcases VA.1 h with e|e;exact f e;exact c (YC.1 e))]
theorem Qu{eg:U4 EG}{g:EG}(c:g∈eg)(h:g.e.id ∉ Gr):g∈mY Gr eg:=by
 unfold mY;exact Wk.2 ⟨g,c,qR h⟩
theorem Pz(Gr:U4 U8)(eg:U4 EG)(p:U7->U6)(o:∀ g∈eg,g.e.kind=3->(p g.eb=Vf↔g.e.id∈Gr)):(((eg.filter fun g=>g.e.kind==3).map (·.eb)).filter fun b=>!p b)=((mY Gr eg).filter fun g=>g.e.kind==3).map (·.eb):=by
 induction eg with
 |nil=>rfl
 |cons g eg ih =>
  have ih:=ih (fun x r=>o x (List.mem_cons_of_mem _ r));have t:mY Gr (g :: eg)=mX Gr g :: mY Gr eg:=rfl;rw[t]
  by_cases m:g.e.kind=3
  ·have c:(g.e.kind==3)=Vf:=by rw[m];rfl
   rw[VP,Va c,XR,VP]
   by_cases f:g.e.id∈Gr
   ·have q:p g.eb=Vf:=(o g Yd m).2 f;rw[U9 (by rw[q];simp),sy f,VP,U9 (by simp[cS])];exact ih
   ·have q:p g.eb=Ve:=by
     cases h:p g.eb
     ·rfl
     ·exact Vb ((o g Yd m).1 h) f
    rw[Va (by rw[q];rfl),qR f,VP,Va c,XR,ih]
  ·have c:¬ ((g.e.kind==3)=Vf):=by simpa using m
   rw[VP,U9 c,VP]
   by_cases f:g.e.id∈Gr
   ·rw[sy f,U9 (by simp[cS])];exact ih
   ·rw[qR f,U9 c];exact ih
def fh(s:St)(k:U7):U4 aL × U4 U8:=((s.es.filter aA.fc).take k).foldl (ly s.ts) (s.es,[])
theorem GF(s:St):fh s 0=(s.es,[]):=rfl
theorem GD(s:St)(c:k<(s.es.filter aA.fc).length):fh s (k+1)=ly s.ts (fh s k) (s.es.filter aA.fc)[k]:=by
 unfold fh;rw[Wf c,List.foldl_append];rfl
theorem OC(s:St)(h:dB s.es)(c:(s.es.filter aA.fc).length<=k):fh s k=aA.ey s.ts s.es:=by
 unfold fh;rw[Wh c,aA.Ju s.ts s.es h]
structure GX(w wx:Vg)(d:U7)(s:St)(r:Raw)(aM:U7->U5 aW)(v4:Vh)(k:U7)(v:Vh)(rk:Raw)(ck:U7->U5 aW):Prop where
 dk:DK wx d rk ck
 of:Of { s with es:=(fh s k).1 } rk
 hl:Hl rk
 wl:rk.wl=r.wl
 eg:rk.eg=mY (fh s k).2 r.eg
 st:Step anyS w.heap.size aM ck w wx
 nr:eD wx w.heap.size ck v (fh s k).2
 aS:ec { s with es:=(fh s k).1 }
 gm:∀ x∈(fh s k).2,∃ e∈(s.es.filter aA.fc).take k,e.id=x
 row:wx.ownsRow 0 197 1 v4 r.wl.length (r.wl.map jv)
 rc:∀ b,v4.ownBlock=Vd b->ck b=Vd .wa
def GI(w wx:Vg)(d:U7)(s:St)(r:Raw)(c:U7->U5 aW)(v4:Vh)(k:U7)(v:Vh):Prop:=∃ f g,GX w wx d s r c v4 k v f g
def Cy(w:Vg)(d:U7)(s:St)(g:U7->U5 aW)(v:Vh)(w':Vg):Prop :=
 ∃ (f:Raw) (c:U7->U5 aW),DK w' d f c/\Of { s with es:=(aA.ey s.ts s.es).1 } f/\Wl f/\Hl f/\Step anyS w.heap.size g c w w'/\eD w' w.heap.size c v (aA.ey s.ts s.es).2
theorem GX.next{r:Raw}{x:U7->U5 aW}{y:Raw}{O:U7->U5 aW}(h:GX w wx d s r x v4 k v y O)(I:Of s r)(z:Wl r)(t:dB s.es)(A:k<r.wl.length):
  ∃ (g:EG) (c:k<(s.es.filter aA.fc).length),g∈r.eg/\g∈y.eg/\g.eb=r.wl[k]/\g.e=(s.es.filter aA.fc)[k]/\g.e.kind=3/\g.e.id ∉ (fh s k).2:=by
 have D:s.es.filter aA.fc=(r.eg.filter fun g=>g.e.kind==3).map (·.e):=by
  rw[<- I.es,Yv];rfl
 have q:k<(r.eg.filter fun g=>g.e.kind==3).length:=by
  have:=A;rw[z,WK] at this;exact this
 have c:k<(s.es.filter aA.fc).length:=by rw[D,WK];exact q
 have m:((r.eg.filter fun g=>g.e.kind==3)[k]).e=(s.es.filter aA.fc)[k]:=by simp only[D,List.getElem_map]
 have o:=XE.1 (zg q)
 have f:((r.eg.filter fun g=>g.e.kind==3)[k]).e.id ∉ (fh s k).2:=by
  intro E;obtain⟨e,K,N⟩:=h.gm _ E;obtain⟨j,J,rfl⟩:=XY K;rw[Yo] at J;rw[List.getElem_take,m] at N
  have H:(s.es.filter aA.fc).Pairwise fun a b=>a.id<b.id:=by
   have:=aA.yk aA.fc t;unfold dB at this;rw[XU] at this;exact this
  have:=XX.1 H j k UT c UT;omega
 refine⟨_,c,o.1,?_,?_,m,by simpa using o.2,f⟩
 ·rw[h.eg];exact Qu o.1 f
 ·have C:r.wl[k]?=Vd ((r.eg.filter fun g=>g.e.kind==3)[k]).eb:=by rw[z,Yr,Xa q];rfl
  rw[Xa A] at C;exact (Option.some.inj C).symm
theorem GX.no{r:Raw}{f:U7->U5 aW}{m:Raw}{t c1:U7->U5 aW}(h:GX w wx d s r f v4 k v m t)(c:k<(s.es.filter aA.fc).length)(z:DK w1 d m c1)(g:Step (·=.aT i) wx.heap.size t c1 wx w1)(C:aA.dG s.ts (fh s k).1 (s.es.filter aA.fc)[k].aT (s.es.filter aA.fc)[k].aH (s.es.filter aA.fc)[k].aK=Ve):
  GX w w1 d s r f v4 (k+1) v m c1:=by
 have e:fh s (k+1)=fh s k:=by
  rw[GD s c];unfold ly;rw[U9 (by rw[C];simp)]
 obtain⟨G,H,E⟩:=g.left;refine⟨z,by rw[e];exact h.of,h.hl,h.wl,by rw[e];exact h.eg,h.st.trans (g.any h.st.size),by rw[e];exact h.nr.step g (zq _),by rw[e];exact h.aS,fun x q=>?_,dO h.row H (fun b o=>E b (.inl ⟨_,h.rc b o,by simp⟩)),fun b o=>g.gj _ _ (h.rc b o)⟩;rw[e] at q;obtain⟨y,A,D⟩:=h.gm x q;rw[Wf c];exact⟨y,YA _ A,D⟩
theorem Qj(h:ec s)(m:e∈s.es)(f:e.kind=3)(g:aA.dG s.ts s.es e.aT e.aH e.aK=Vf):ec { s with es:=dZ e.id s.es }:=by
 obtain⟨l,r,c,q,_⟩:=aA.UA h.ids m rfl;have o:ec ⟨s.ts,l++e :: r,s.given,s.now⟩:=by rw[<- c];exact h
 have:=o.qd f (by rw[<- c];exact g);rw[q];exact this
theorem GX.yes{w3:Vg}{r:Raw}{N:U7->U5 aW}{m:Raw}{ck X:U7->U5 aW}(h:GX w wx d s r N v4 k v m ck)(K:k<(s.es.filter aA.fc).length){g:EG}(R:g∈m.eg)(H:g.e=(s.es.filter aA.fc)[k])(J:g.e.kind=3)(hi:i<m.tg.length)(E:m.tg[i].name=g.e.aT)
  (O:Step (·=.aT i) wx.heap.size ck X wx w1) (sp:Ch w1 d (m.cW i (m.tg[i].with (bZ m.tg[i].A g.e.aK g.e.aH) (gk g.e.id g.eb m.tg[i].T g.e.aK))) X g w2) (hf:aA.dG s.ts (fh s k).1 g.e.aT g.e.aH g.e.aK=Vf)
  (V:aF v.ownBlock.toList w2 w3) (U:∀ c2,(∀ b,v.ownBlock=Vd b->c2 b=Vc)->(∀ b,w2.heap.size<=b->c2 b=Vc)->eD w3 w.heap.size c2 v' ((fh s k).2++[g.e.id])):
  GI w w3 d s r N v4 (k+1) v':=by
 obtain⟨x,l',c2,e1,e2,p1,p2,p3,P⟩:=sp;have W:aA.dG s.ts (fh s k).1 (s.es.filter aA.fc)[k].aT (s.es.filter aA.fc)[k].aH (s.es.filter aA.fc)[k].aK=Vf:=by rw[<- H];exact hf
 have e:fh s (k+1)=(dZ g.e.id (fh s k).1,(fh s k).2++[g.e.id]):=by
  rw[GD s K];unfold ly;rw[Va W,H]
 have hn:=h.dk.ni;have I:=(h.of.book h.aS.tn h.aS.ids hn R J ((h.aS.en _ (h.of.mem R)).ri) hi E).1;have C:=(h.nr.step O (zq _)).step P (zq _);have o:∀ b,v.ownBlock=Vd b->c2 b=Vc:=C.no;have hD:DK w3 d _ c2:=p3.off V (fun y c=>o y (WV.1 c));have S:Step anyS w.heap.size c2 c2 w2 w3:=⟨⟨_,V,fun y c=>.inr ⟨o y (WV.1 c),(C.own.lt y (WV.1 c)).1⟩⟩,fun _ _ h=>h,fun _ _ h=>.inl h⟩;have Y:=h.st.trans (O.any h.st.size);have t2:=Y.trans (P.any Y.size);obtain⟨G1,a1,a2⟩:=O.left;obtain⟨G2,b1,b2⟩:=P.left;have t:∀ b,v4.ownBlock=Vd b->X b=Vd .wa:=fun b f=>O.gj _ _ (h.rc b f)
 have q:∀ b,v4.ownBlock=Vd b->c2 b=Vd .wa:=fun b f=>P.gj _ _ (t b f)
 have D:=dO (dO h.row a1 (fun b f=>a2 b (.inl ⟨_,h.rc b f,by simp⟩))) b1 (fun b f=>b2 b (.inl ⟨_,t b f,by unfold xN;simp⟩));refine⟨_,c2,hD,⟨I.now,I.given,I.ts,by rw[e];exact I.es,by rw[e];exact I.th,I.tb⟩,h.hl.book (r:=m) hn R UT e2 p1 p2,h.wl,?_,t2.trans S,by rw[e];exact U c2 o (fun b f=>p3.none f),?_,fun y c=>?_,dO D V (fun b f hx=>?_),q⟩
 ·rw[e];show fV g.e.id 1 0 m.eg=mY ((fh s k).2++[g.e.id]) r.eg;rw[h.eg,Se]
 ·rw[e];exact Qj h.aS (h.of.mem R) J hf
 ·rw[e] at c;rw[Wf K];rcases VA.1 c with c|c
  ·obtain⟨z,hz,e3⟩:=h.gm y c;exact⟨z,YA _ hz,e3⟩
  ·have:y=g.e.id:=YC.1 c;exact⟨_,YB _ (YC.2 rfl),by rw[<- H,this]⟩
 ·have:=o b (WV.1 hx);rw[q b f] at this;cases this
theorem Gm{g:EG}(c:g.e.kind=3):((mX Gr g).e.kind==1)=Vf↔g.e.id∈Gr:=by
 by_cases h:g.e.id∈Gr
 ·rw[sy h];simp[h,cS]
 ·rw[qR h];simp[h,c]
theorem Oq(Gr:U4 U8)(g:EG):(mX Gr g).eb=g.eb:=by
 by_cases h:g.e.id∈Gr
 ·rw[sy h]
 ·rw[qR h]
def vm(c:U4 EG)(Gr:U4 U8)(b:U7):U6:=c.any fun g=>decide (g.eb=b) && Gr.any fun x=>decide (x=g.e.id)
theorem NZ(c:U4 EG)(Gr:U4 U8)(C:(c.map (·.eb)).Nodup):∀ g∈c,g.e.kind=3->(mX Gr g).eb=g.eb/\((mX Gr g).e.kind==1)=vm c Gr g.eb:=by
 intro g m D;refine⟨Oq Gr g,?_⟩;have t:=Gm (Gr:=Gr) D
 have r:vm c Gr g.eb=Vf↔g.e.id∈Gr:=by
  unfold vm;rw[XH];constructor
  ·rintro ⟨x,A,f⟩;rw[W6,decide_eq_true_iff,XH] at f;obtain⟨f,y,z,H⟩:=f;have:x=g:=oL _ C A m f;have E:y=x.e.id:=of_decide_eq_true H;rw[<- this,<- E];exact z
  ·intro h;refine⟨g,m,?_⟩;rw[W6,decide_eq_true_iff,XH];exact⟨rfl,g.e.id,h,decide_eq_true rfl⟩
 cases q:((mX Gr g).e.kind==1) <;> cases o:vm c Gr g.eb
 ·rfl
 ·exact Vb (t.2 (r.1 o)) (by rw[q];simp)
 ·exact Vb (r.2 (t.1 q)) (by rw[o];simp)
 ·rfl
theorem Cz(ts:U4 (U3 × U8)):∀ (l:U4 aL)(p:U4 aL × U4 U8),(l.foldl (ly ts) p).2.length<=p.2.length+l.length
 |[],p=>by simp
 |e :: l,p=>by
  have ih:=Cz ts l (ly ts p e);have:(ly ts p e).2.length<=p.2.length+1:=by unfold ly;split <;> simp
  simp only[W8,V5];omega
theorem OE(s:St)(k:U7):(fh s k).2.length<=k:=by
 have:=Cz s.ts ((s.es.filter aA.fc).take k) (s.es,[]);have c:=List.length_take_le k (s.es.filter aA.fc);unfold fh;simp only[List.length_nil] at this;omega
theorem TC{r:Raw}{q:U7->U5 aW}(h:DK w d r q)(ho:Of s r)(hw:Wl r)(hh:Hl r)(hm:ec s):
  Vj prog 65 #[.pointer (Vd ⟨d,0,Vc⟩)] w fun e w'=>∃ v,e=.returned v/\Cy w d s q v w':=by
 obtain⟨i0,a4,az,ay,ax⟩:=info_parts pD;obtain⟨v4,c4,A,an⟩:=h.wa
 have bc:r.wl.length<=60:=by
  rw[hw,WK];have h1:=WG (fun g:EG=>g.e.kind==3) r.eg;have h2:=ma hm;have h3:r.eg.length=s.es.length:=by rw[<- ho.es];simp
  omega
 have G0:Hid (GI w w d s r q v4 0 (.slice Vc 0 0)):=⟨r,q,h,ho,hh,rfl,by rw[GF,Qv],Step.refl _ _ _ _,eD.nil _ _ _,hm,fun x hx=>by rw[GF] at hx;simp at hx,A,an⟩;have I:=aC (zA h (zA ho (zA hw (zA hh hm))))
 have hv:∃ a cap,v4=.slice a r.wl.length cap:=by
  rcases A.2 with ⟨rfl,h⟩|⟨g,cap,_,rfl,_⟩
  ·rw[h];exact⟨_,_,rfl⟩
  ·exact⟨_,_,rfl⟩
 obtain⟨a,cap,rfl⟩:=hv;clear h ho hw hh hm A an
 go_in
 go_wp2_with fail
 go_loopw [3,5,11] (fun vg _ vi wx=>∃ k:U7,k<=r.wl.length/\vi=.int .i64 k/\GI w wx d s r q (.slice a r.wl.length cap) k vg) (fun _ _ vi _=>r.wl.length-(intOf vi).toNat)
 case atStart=>exact⟨0,Wg _,rfl,G0.out⟩
 case round =>
  obtain⟨k,hk,rfl,J,ck,X⟩:=hrel
  by_cases ac:k<r.wl.length
  ·have a8:(k:U8)<(r.wl.length:U8):=UT
   obtain⟨g,ai,aj,m,D,P,O,af⟩:=X.next I.out.2.1 I.out.2.2.1 I.out.2.2.2.2.ids ac;obtain⟨Hh,a9,e1⟩:=Yp X.row UT;simp only[Yq,true_and] at e1;obtain⟨rfl,rfl⟩:=e1;have a0:=X.row.cellAt k UT;rw[Yr,Xa ac,Ys,<- D] at a0;unfold jv at a0;obtain⟨K,E,q3⟩:=X.dk.en g m;have co:=K.en.c1;obtain⟨i,hi,c,N⟩:=X.of.tb g m;have t:=X.aS.en _ (X.of.mem m);have z:=Bd X.aS X.of t hi;have U:=Hq X.aS X.of t.sp t.u1 hi c;have S:=BA X.aS X.of hi;have H:=aC X;have HG:=aC (zA m (zA P (zA O (zA c E))))
   cases hf:aA.dG s.ts (fh s k).1 g.e.aT g.e.aH g.e.aK
   ·have TK:=aC (Gq X.dk i hi K N (by rw[E];simp) (by rw[q3];simp) z (U.trans hf))
    have FN:Hid (aA.dG s.ts (fh s k).1 (s.es.filter aA.fc)[k].aT (s.es.filter aA.fc)[k].aH (s.es.filter aA.fc)[k].aK=Ve):=by
     show _=_;rw[<- P];exact hf
    have HK:=aC ai;clear hf U z S t K E q3 X m P O c af aj D N
    go_wp2_with fail
    refine TK.out.mono ?_;rintro e w1 ⟨rfl,c1,p1,p2⟩;have HN:Hid (GI w w1 d s r q (.slice (Vd ⟨Hh,0,Vc⟩) r.wl.length cap) (k+1) u3):=⟨J,c1,H.out.no HK.out p1 p2 FN.out⟩;clear p1 p2 TK H HG a0 co FN
    go_wp2
    go_roundw
    case rel=>exact⟨k+1,by omega,by go_num,HN.out⟩
    case measure=>simp[intOf];omega
   ·have ar:xr J.tg[i].T g.e.id g.e.aK:=⟨S.1,S.2,(X.of.book X.aS.tn X.aS.ids X.dk.ni m O t.ri hi c).2,Cv t.ri⟩;have TK:=aC (Hz X.dk i hi K N (by rw[E];simp) (by rw[q3];simp) z ar (U.trans hf));have HF:=aC hf;have bf:(fh s k).2.length<=60:=by have:=OE s k;omega
    have aa:J.hl.length<=1000:=by
     have h1:=X.hl.len
     have h2:J.eg.length=(fh s k).1.length:=by have:=X.of.es;rw[<- WK (f:=(·.e)),this]
     have h3:=ma X.aS;simp only at h3;omega
    have V:=aC (zA X.hl.1 (zA aa (X.hl.has m UT)));have HK:=aC ai;clear hf U z S t K E q3 X m P O af aj D N ar aa;have aw:=aC c;clear c
    go_wp2_with fail
    refine TK.out.mono ?_;rintro e w1 ⟨rfl,c1,p1,p2⟩;have ST:=aC (Up p1 V.out.1 V.out.2.1 (g:=g) HG.out.1 ⟨kM g,V.out.2.2,rfl,rfl⟩);have P2:=aC p2;clear p1 p2 TK a0 co
    go_wp2_with fail
    refine ST.out.mono ?_;rintro e w2 ⟨rfl,sp⟩;have SP:=aC sp;obtain⟨x,l',c2,e1,e2,s1,s2,s3,s4⟩:=sp;have y:({ g with e:={ g.e with kind:=1,bY:=0 } }:EG)∈fV g.e.id 1 0 J.eg:=Wk.2 ⟨g,HG.out.1,Va rfl⟩;have bj:w2.cell? ⟨g.eb,0,Vc⟩=Vd (.int .i64 g.e.id):=(s3.en _ y).1.en.c0;have NR:=aC ((H.out.nr.step P2.out (zq _)).step s4 (zq _));have ba:w.heap.size<=w2.heap.size:=Vp (Vp H.out.st.size P2.out.size) s4.size;clear s1 s2 s3 s4 e1 e2 y ST
    go_wp2_with (first
     |(at_builtin;refine wpList_append_lies _ rfl _ _ 38 rfl w.heap.size 3 i0 _ 1 8 underlying38 a4 az ay ax rfl UV _ _ _ rfl (NR.out.own.alloc _) ⟨w2.heap.size,0,Vc⟩ 1 1 [.int .i64 g.e.id] rfl rfl (World.news_of_block (cs:=#[.int .i64 g.e.id]) (cC w2 _)) U1 UT U0 UT UZ (w2.heap.size+1) UU ?_;intro g2 av w3 Y C aq a7))
    have ko:aF u3.ownBlock.toList w2 w3:=aF.grown ((aF.refl _ w2).alloc _) C (fun k hk=>.inl (WV.2 hk));have ab:u3.ownBlock=Vd g2\/g2=w2.heap.size+1:=aq
    have HN:Hid (GI w w3 d s r q (.slice (Vd ⟨Hh,0,Vc⟩) r.wl.length cap) (k+1) (.slice (Vd ⟨g2,0,Vc⟩) ((fh s k).2.length+1) av)) :=
     H.out.yes HK.out HG.out.1 HG.out.2.1 HG.out.2.2.1 hi aw.out P2.out SP.out HF.out ko (fun c2 n1 n2=>⟨by rw[V4,Wq];exact Y,fun b hb=>by
      have:g2=b:=by simpa[Value.ownBlock] using hb
      subst this;rcases ab with e|e
      ·exact n1 g2 e
      ·exact n2 g2 UT⟩)
    clear Y C aq ko ab H HG HK SP NR P2 aw HF V;go_roundw
    case rel=>exact⟨k+1,by omega,by go_num,HN.out⟩
    case measure=>simp[intOf];omega
  ·have bg:¬ ((k:U8)<(r.wl.length:U8)):=UT
   obtain⟨v,ad,W,R⟩:=X.dk.wa;have f4:=X.dk.fz 4;have hd:=X.dk.dc;have ae:d ∉ v.ownBlock.toList:=fun e=>by have:=R _ (WV.1 e);rw[hd] at this;cases this
   have a3:(s.es.filter aA.fc).length<=k:=by
    have h1:=I.out.2.2.1
    have h2:s.es.filter aA.fc=(r.eg.filter fun g=>g.e.kind==3).map (·.e):=by rw[<- I.out.2.1.es,Yv];rfl
    rw[h2,WK];rw[h1,WK] at ac;omega
   have ak:=OC s I.out.2.2.2.2.ids a3;have PB:=aC (NZ r.eg (fh s k).2 I.out.1.nd);generalize vm r.eg (fh s k).2=p at PB
   have DL:=aC (Db (.inl ⟨rfl,rfl⟩) J.wl p v wr (fun wx ko b hb=>by
    have ao:b∈r.wl:=by rw[<- X.wl];exact hb
    rw[I.out.2.2.1] at ao;obtain⟨g,hg,rfl⟩:=Wk.1 ao;obtain⟨al,a6⟩:=XE.1 hg;have a5:g.e.kind=3:=by simpa using a6
    have y:mX (fh s k).2 g∈J.eg:=by rw[X.eg];exact Wk.2 ⟨g,al,rfl⟩
    obtain⟨K,E,q3⟩:=X.dk.en _ y;have ag:wx.cell? ⟨(mX (fh s k).2 g).eb,1,Vc⟩=Vd (.int .i64 (mX (fh s k).2 g).e.kind):=ko.cell (fun e=>by have:=R _ (WV.1 e);rw[E] at this;cases this) K.k;obtain⟨e1,e2⟩:=PB.out g al a5;rw[e1] at ag;rw[<- e2]
    exact TI g.eb _ wx ag) W (by rw[X.wl];omega))
   have VC:=aC (zA R ae);have H:=aC X;clear X W R ae hd
   go_wp2_with fail
   refine DL.out.mono ?_;rintro e w2 ⟨v',rfl,k1,k2,k3⟩
   obtain⟨va,vn,vc,rfl⟩:∃ a n cap,v'=.slice a n cap:=by
    rcases k2.2 with ⟨e,_⟩|⟨_,_,_,e,_⟩
    ·exact⟨_,_,_,e⟩
    ·exact⟨_,_,_,e⟩
   have bi:=k1.cell VC.out.2 ad;have bh:=(k1.frozen (o:=4) VC.out.2 (Vq _ _ ad)).trans f4;have SW:=aC (H.out.dk.jf VC.out.1 k1 k2 (fun b hb=>.inl (by rw[<- k3];exact hb)))
   have HF:Hid (Cy w d s q u3 (w2.setCell ⟨d,4,Vc⟩ (.slice va vn vc))):=by
    obtain⟨au,K,E⟩:=SW.out;have X:=H.out;refine⟨_,au,K,?_,?_,X.hl,X.st.trans (E.any X.st.size),?_⟩
    ·have o:=X.of;rw[ak] at o;exact⟨o.now,o.given,o.ts,o.es,o.th,o.tb⟩
    ·show (J.wl.filter fun b=>!p b)=(J.eg.filter fun g=>g.e.kind==3).map (·.eb);rw[X.wl,I.out.2.2.1,X.eg];exact Pz _ _ p (fun g hg hk=>by rw[<- (PB.out g hg hk).2];exact Gm hk)
    ·rw[<- ak];exact X.nr.step E (zq _)
   clear k1 k2 k3 DL ad f4 SW H VC PB I
   go_wp2
   go_ret;exact⟨_,rfl,HF.out⟩
open aA (aL St dB kept dZ cS cN gC cA bW gI ec gv nj)
def Sq(w:Vg)(d:U7)(s:St)(h:U7->U5 aW)(g:EG)(w':Vg):Prop :=
 ∃ (f:Raw) (c:U7->U5 aW),DK w' d f c/\Of { s with es:=kept g.e.id s.es } f/\Wl f/\Hl f/\Step qS w.heap.size h c w w'
theorem IZ{r:Raw}{C:U7->U5 aW}(h:DK w d r C)(t:Of s r)(D:Wl r)(m:ec s){g:EG}(q:g∈r.eg)(J:Hl { r with eg:=eQ g.e.id r.eg }):
  Vj prog 150 #[.pointer (Vd ⟨d,0,Vc⟩),.pointer (Vd ⟨g.eb,0,Vc⟩)] w fun e w'=>e=.returned (.tuple #[])/\Sq w d s C g w':=by
 have O:=m.mO _ (t.mem q);have P:=m.g1
 by_cases y:g.e.kind=3
 ·refine (RQ h q y UT (fun b K=>?_) ?_).mono ?_
  ·rw[D] at K;obtain⟨x,N,rfl⟩:=Wk.1 K;exact⟨x,(XE.1 N).1,rfl⟩
  ·rw[D,WK];have T:=WG (fun g:EG=>g.e.kind==3) r.eg;have S:=ma m;have R:r.eg.length=s.es.length:=by rw[<- t.es];simp
   omega
  ·rintro e w' ⟨rfl,f,H,E⟩;refine⟨rfl,_,f,H,?_,D.goes h.ni h.nd q,J,E⟩;have o:=t.uz m.ids h.ni q y;exact⟨o.now,o.given,o.ts,o.es,o.th,o.tb⟩
 ·obtain⟨i,z,c,I⟩:=t.tb g q;have A:=BA m t z;refine (RP h q y i z I (Bd m t (m.en _ (t.mem q)) z) A.1 A.2 (Qi m t q y z c) UT).mono ?_;rintro e w' ⟨rfl,f,H,E⟩;exact⟨rfl,_,f,H,t.goes m.tn m.ids h.ni q y z c,D.nz h.ni q y,J,E⟩
namespace aA
end aA
def bC(c at_ n:U8)(g m f h:Vh):Vh:=.agg #[.int .i64 c,.int .i64 at_,.int .i64 n,g,m,f,h]
structure Q7(Z:Vg)(Q:U7):Prop where
 q0:Z.cell? ⟨Q,0,Vc⟩=Vd (.int .i64 0)
 q1:Z.cell? ⟨Q,1,Vc⟩=Vd (.int .i64 0)
 q2:Z.cell? ⟨Q,2,Vc⟩=Vd (.int .i64 0)
 q3:Z.cell? ⟨Q,3,Vc⟩=Vd (.slice Vc 0 0)
 q4:Z.cell? ⟨Q,4,Vc⟩=Vd (.slice Vc 0 0)
 q5:Z.cell? ⟨Q,5,Vc⟩=Vd (.slice Vc 0 0)
 q6:Z.cell? ⟨Q,6,Vc⟩=Vd (.slice Vc 0 0)
 fq:∀ o,Z.frozen? ⟨Q,o,Vc⟩=Ve
def aX:Obj:=.cells #[.int .i64 0,.int .i64 0,.int .i64 0,.slice Vc 0 0,.slice Vc 0 0,.slice Vc 0 0,.slice Vc 0 0] 40 (0,0)
theorem Q7.of(h:w.heap[Q]?=Vd aX):Q7 w Q:=by
 unfold aX at h;refine⟨?_,?_,?_,?_,?_,?_,?_,fun o=>frozen_of_row _ Q o _ _ h⟩
 all_goals (simp only[VK,h];rfl)
theorem Q7.later(h:Q7 w Q)(c:w'.heap[Q]?=w.heap[Q]?):Q7 w' Q :=
 ⟨(zo c).trans h.q0,(zo c).trans h.q1,(zo c).trans h.q2,(zo c).trans h.q3,(zo c).trans h.q4,(zo c).trans h.q5,(zo c).trans h.q6,fun o=>(WS c).trans (h.fq o)⟩
def cK(Z:Vg)(Q:U7)(a b c d e f g:Vh):Vg:=((((((Z.setCell ⟨Q,0,Vc⟩ a).setCell ⟨Q,1,Vc⟩ b).setCell ⟨Q,2,Vc⟩ c).setCell ⟨Q,3,Vc⟩ d).setCell ⟨Q,4,Vc⟩ e).setCell ⟨Q,5,Vc⟩ f).setCell ⟨Q,6,Vc⟩ g
theorem lE(Z:Vg)(Q:U7)(a b c d e f g:Vh):aF [Q] Z (cK Z Q a b c d e f g) :=
 (((((((aF.refl [Q] Z).setCell (.inl UU) _ _).setCell (.inl UU) _ _).setCell (.inl UU) _ _).setCell (.inl UU) _ _).setCell (.inl UU) _ _).setCell (.inl UU) _ _).setCell (.inl UU) _ _
theorem yI(a:Obj):Vi w.heap.size w ((w.alloc a).alloc aX)/\((w.alloc a).alloc aX).heap[w.heap.size+1]?=Vd aX:=by
 refine⟨((zr _ _).alloc (zq _) _).alloc UU _,?_⟩;have:=cC (w.alloc a) aX
 rwa [World.size_alloc] at this
theorem aZ{cs:Array Vh}{t:Vl}(h:Z.heap[Q]?=Vd (.cells cs t))(i:U7)(c:cs[i]?=Vd v):Z.cell? ⟨Q,i,Vc⟩=Vd v:=by simp[VK,h,c]
theorem uP(w:Vg)(o:Obj):Vi w.heap.size w ((w.alloc o).alloc aX)/\((w.alloc o).alloc aX).heap[w.heap.size+1]?=Vd aX/\((w.alloc o).alloc aX).heap[w.heap.size]?=Vd o/\w.heap.size+1<((w.alloc o).alloc aX).heap.size :=
 ⟨(yI o).1,(yI o).2,(Below.heap_alloc _ _ _ UU).trans (cC w o),by simp⟩
theorem cO{fn:Func}{R:Ending->Vg->Prop}{tm:Array Vh}{a b c e f g i:Vh}(A:fn.results=#[.cell k 40])(y:Q7 Z Q)(z:R (.returned (.agg #[a,b,c,e,f,g,i])) (cK Z Q a b c e f g i))(ht:tm[k]?=Vd (.pointer (Vd ⟨Q,0,Vc⟩)):=by rfl):bodyPost prog fn R .ret ⟨tm,[]⟩ (cK Z Q a b c e f g i):=by
 obtain⟨x,t,r,q,o,m,h,_⟩:=y;refine bodyPost_ret ?_ rfl z;simp only[results,A];simp[ht,go_sem,cK,x,t,r,q,o,m,h]
theorem eD.base{c:U7->U5 aW}(h:eD w B c v l)(f:B'<=B):eD w B' c v l:=⟨YD h.own f,h.no⟩
theorem eD.append{c:U7->U5 aW}{u:Vh}{m:U4 U8}(h:eD w B c v l)(k:eD w B c u m)(R:B<=w.heap.size)(O:∀ b,w.heap.size<=b->c b=Vc)(V:l.length+m.length<=100000):
  ∃ (v':Vh) (w':Vg),(∀ f,(YF #[38,38] f #[v,u]).run prog w=.ok v' w')/\eD w' B c v' (l++m)/\w.grownBy w' v.ownBlock/\(v'.ownBlock=v.ownBlock\/v'.ownBlock=Vd w.heap.size):=by
 obtain⟨H,o,C,A,z⟩:=info_parts pD;rcases k.own.2 with ⟨rfl,S⟩|⟨g,cap,T,rfl,D,X,h1,h2,h3,Y⟩
 ·have N:m=[]:=List.length_eq_zero_iff.1 S;subst N;refine⟨v,w,fun f=>run_append_owned_none (P:=prog) w B 38 f 3 H 1 underlying38 o v l.length _ h.own,by rw[X4];exact h,⟨rfl,rfl,rfl,Nat.le_refl _,fun _ _ _=>rfl⟩,.inl rfl⟩
 ·have t:=fun f=>run_append_own_at (P:=prog) w B 38 f 3 H _ 1 8 underlying38 o C A z rfl UV v l.length _ h.own ⟨g,0,Vc⟩ m.length cap (m.map (V3 .i64)) UU (fun j x r=>by
   have W:j<m.length:=by
    have:=List.getElem?_eq_some_iff.1 r;obtain⟨h,_⟩:=this
    simpa using h
   have e:=k.own.cellAt j UT;have q:(⟨g,0,Vc⟩:Addr).add j=⟨g,j,Vc⟩:=by unfold Addr.add;split <;> simp_all
   rw[q,e];exact r) (by
   intro x r;obtain⟨y,_,rfl⟩:=Wk.1 r
   rfl) U0 UT R
  obtain⟨v',w',K,J,I,U,E⟩:=t 0;refine⟨v',w',fun f=>?_,⟨by rw[V4,Wq];exact J,fun b D=>?_⟩,I,E⟩
  ·exact K
  ·rcases E with e|e
   ·exact h.no b (by rw[<- e];exact D)
   ·rw[D] at e
    cases e
    exact O _ (zq _)
theorem Ip{P:Program}{o:Oper}{a:Act}{K:Act->Vg->Prop}{Q:Exit->Act->Vg->Prop}(s x:Operand)(t:Vl)(v':Vh)
  (f:o.op=.call { callee:=.builtin .append,args:=#[s,x],argTypes:=#[t,t] }) (c:(YF #[t,t] o.type #[a.eval s,a.eval x]).run P w=.ok v' w') (h:K (a.put o.dst v') w'):o.wp P a w K Q:=by
 unfold YG execOp;simp only[f,resolve,invoke,builtin,Sem.run_bind,Sem.run_pure,Result.andThen_ok,List.map_toArray,XR,List.map_nil,c];exact h
theorem UL{P:Program}{c:Array Oper}{o:Oper}{a:Act}{K:Act->Vg->Prop}{Q:Exit->Act->Vg->Prop}{E:Prop}(g:o.guard=Vc)(s x:Operand)(t:Vl)(v':Vh)
  (q:o.op=.call { callee:=.builtin .append,args:=#[s,x],argTypes:=#[t,t] }) (f:(YF #[t,t] o.type #[a.eval s,a.eval x]).run P w=.ok v' w') (h:K (a.put o.dst v') w'):
  if YH o (yielded c a.tmps)=Vf then YG P o a w K Q else E:=by
 have m:YH o (yielded c a.tmps)=Vf:=by simp[YH,g]
 rw[Va m];exact Ip s x t v' q f h
theorem NA{P:Program}{c:Array Oper}{rest:U4 Oper}{o:Oper}{a:Act}{Q:Exit->Act->Vg->Prop}(g:o.guard=Vc)(s x:Operand)(t:Vl)(v':Vh)
  (m:o.op=.call { callee:=.builtin .append,args:=#[s,x],argTypes:=#[t,t] }) (f:(YF #[t,t] o.type #[a.eval s,a.eval x]).run P w=.ok v' w') (h:wpList P c Q rest (a.put o.dst v') w'):wpList P c Q (o :: rest) a w :=
 wpList_plain g fun _ q=>Ip s x t v' m f (q _ _ h)
theorem qY{P:Program}{c:Array Oper}{o:Oper}{a:Act}{K:Act->Vg->Prop}{Q:Exit->Act->Vg->Prop}{E:Prop}(g:o.guard=Vc)(f:FuncId)(xs:Array Operand)(m:Array Vl)
  (r:o.op=.call { callee:=.value (.func f),args:=xs,argTypes:=m }) (args:Array Vh) (y:xs.map a.eval=args) (t:(callFunc f args).run P w=.ok (.enter f args) w) {R:Ending->Vg->Prop}(x:Vj P f args w R) (h:∀ e w',R e w'->∃ v,e=.returned v/\K (a.put o.dst v) w'):
  if YH o (yielded c a.tmps)=Vf then YG P o a w K Q else E:=by
 have q:YH o (yielded c a.tmps)=Vf:=by simp[YH,g]
 rw[Va q];unfold YG
 have C:(execOp a.eval o).run P w=.ok (.enter f args) w:=by
  simp[execOp,r,resolve,invoke,Act.eval,Deferred.ofValue,y,t]
 rw[C,Oper.upon_enter];refine x.mono ?_;intro e w' z;obtain⟨v,rfl,A⟩:=h e w' z;exact A
open aA (aL St dB kept dZ cS cN gC cA bW gI ec gv nj Inv)
theorem lH(c:U8)(w:Vg):
  Vj prog 141 #[.int .i64 c] w fun e w'=>e=.returned (bC c 0 0 (.slice Vc 0 0) (.slice Vc 0 0) (.slice Vc 0 0) (.slice Vc 0 0))/\Vi w.heap.size w w':=by
 go_in
 have f:Hid (Vi w.heap.size w (w.alloc (.cells #[.int .i64 c,.int .i64 0,.int .i64 0,.slice Vc 0 0,.slice Vc 0 0,.slice Vc 0 0,.slice Vc 0 0] 40))):=(zr _ _).alloc (zq _) _
 go_wp2_with fail
 exact bodyPost_ret (v:=bC c 0 0 (.slice Vc 0 0) (.slice Vc 0 0) (.slice Vc 0 0) (.slice Vc 0 0)) (by simp[results,results141,go_sem,bC]) rfl ⟨rfl,f.out⟩
theorem SU(c:Array Vh)(w:Vg):(callFunc 65 c).run prog w=.ok (.enter 65 c) w:=UY
theorem Io{r:Raw}(f:Of s r)(o:s.ts.Pairwise fun t u=>bW t.1 u.1=Ve)(h:jG r.tg name=Vd b):∃ (i:U7)(c:i<r.tg.length),r.tg[i].name=name/\r.tg[i].tb=b/\aA.bJ name s.ts=r.tg[i].aH:=by
 rw[sQ] at h
 cases e:r.tg.find? fun t=>bW t.name name with
 |none=>rw[e] at h;cases h
 |some t =>
  rw[e] at h;obtain⟨i,c,rfl⟩:=XY (Yk e);have g:r.tg[i].name=name:=sK.1 (by simpa using Yl e);refine⟨i,c,g,by simpa using h,?_⟩;have m:=Cc o (i:=i) (by rw[<- f.len];exact c);rw[f.jR c] at m;rw[<- g];exact m
theorem Im{r:Raw}(g:Of s r)(h:jG r.tg name=Vc):aA.bJ name s.ts=0:=by
 refine vY (fun t ht e=>?_);rw[<- g.ts] at ht;obtain⟨x,f,rfl⟩:=Wk.1 ht;rw[sQ] at h
 cases c:r.tg.find? fun t=>bW t.name name with
 |none =>
  have:=Yj.1 c x f;exact this (sK.2 e)
 |some y=>rw[c] at h;cases h
def qP(s:St)(r:Raw)(name:U3)(c:U8)(e:Ending):Prop :=
 (c≠0/\e=.returned (.tuple #[.pointer Vc,.int .i64 c]))\/(c=0/\∃ (i:U7) (f:i<r.tg.length),r.tg[i].name=name/\aA.bJ name s.ts=r.tg[i].aH/\e=.returned (.tuple #[.pointer (Vd ⟨r.tg[i].tb,0,Vc⟩),.int .i64 0]))
theorem OM(w:Vg):(zeroValue 198).run prog w=.ok (.pointer Vc) w:=by simp[go_sem]
theorem IG{r:Raw}{K:U7->U5 aW}(h:DK w d r K)(t:Of s r)(y:ec s)(name:U3)(R:name.size<=1000)(u:U8):
  Vj prog 146 #[.pointer (Vd ⟨d,0,Vc⟩),.string name,.int .i64 u] w fun e w'=>qP s r name (aA.dH s.ts name u) e/\w'=w:=by
 obtain⟨m,f,X,W,E,D⟩:=h.mt;have P:=Bb R;have c:=E.look AY underlying137 (OM w) P;rw[D name] at c
 cases ht:jG r.tg name with
 |none =>
  rw[ht] at c;have O:=Im t ht;have q:aA.dH s.ts name u=3:=by unfold aA.dH;rw[Va O]
  have o:(YI 137 (.map (Vd m)) (.string name) Ve).run prog w=.ok (.pointer Vc) w:=c;have z:Hid (qP s r name (aA.dH s.ts name u) (.returned (.tuple #[.pointer Vc,.int .i64 3]))):=.inl ⟨by rw[q];omega,by rw[q]⟩;clear c q O ht E D h t y
  go_in
  go_wp2
  go_ret2;exact⟨z.out,rfl⟩
 |some b =>
  rw[ht] at c;obtain⟨i,J,q,C,A⟩:=Io t y.tn ht;obtain⟨U,T,Fl,Y,H,N⟩:=h.th i J;have S:=H.c1;rw[C] at S
  have g:aA.bJ name s.ts≠0:=by
   rw[A];have I:(r.tg[i].name,r.tg[i].aH)∈s.ts:=by rw[<- t.jR J];exact zg _
   have:=(y.tu _ I).1;simp only at this;omega
  have o:(YI 137 (.map (Vd m)) (.string name) Ve).run prog w=.ok (.pointer (Vd ⟨b,0,Vc⟩)) w:=c
  by_cases V:r.tg[i].aH<u
  ·have x:aA.dH s.ts name u=7:=by unfold aA.dH;rw[U9 g,Va UT]
   have z:Hid (qP s r name (aA.dH s.ts name u) (.returned (.tuple #[.pointer Vc,.int .i64 7]))):=.inl ⟨by rw[x];omega,by rw[x]⟩;clear c ht E D h t y q C A H N g x;generalize r.tg[i].aH=un at *
   go_in
   go_wp2
   go_ret2;exact⟨z.out,rfl⟩
  ·have x:aA.dH s.ts name u=0:=by unfold aA.dH;rw[U9 g,U9 UT]
   have z:Hid (qP s r name (aA.dH s.ts name u) (.returned (.tuple #[.pointer (Vd ⟨b,0,Vc⟩),.int .i64 0]))):=.inr ⟨x,i,J,q,A,by rw[C]⟩;clear c ht E D h t y q C A H N g x;generalize r.tg[i].aH=un at *
   go_in
   go_wp2
   go_ret2;exact⟨z.out,rfl⟩
def fw(s:St)(name:U3)(u fr til:U8):U8:=if aA.dH s.ts name u≠0 then aA.dH s.ts name u else if til<=fr then 6 else 0
theorem vR{r:Raw}{t:U7->U5 aW}(h:DK w d r t)(y:Of s r)(z:ec s)(name:U3)(H:name.size<=1000)(u fr til:U8):
  Vj prog 143 #[.pointer (Vd ⟨d,0,Vc⟩),.string name,.int .i64 u,.agg #[.int .i64 fr,.int .i64 til]] w fun e w'=>qP s r name (fw s name u fr til) e/\Vi w.heap.size w w':=by
 have m:Vi w.heap.size w (w.alloc (.cells #[.int .i64 fr,.int .i64 til] 60)):=(zr _ _).alloc (zq _) _;have D:=aC (IG (h.later m) y z name H u);have C:=aC m;clear h y z m
 go_in
 go_wp2_with fail
 refine D.out.mono ?_;rintro e w1 ⟨E,c⟩;have x:=aC (show Vi w.heap.size w w1 by rw[c];exact C.out);have K:w1.cell? ⟨w.heap.size,0,Vc⟩=Vd (.int .i64 fr):=by rw[c];simp
 have J:w1.cell? ⟨w.heap.size,1,Vc⟩=Vd (.int .i64 til):=by rw[c];simp
 clear c D C;rcases E with ⟨f,rfl⟩|⟨f,i,I,q,o,rfl⟩
 ·have g:Hid (qP s r name (fw s name u fr til) (.returned (.tuple #[.pointer Vc,.int .i64 (aA.dH s.ts name u)]))):=by
   have:fw s name u fr til=aA.dH s.ts name u:=by unfold fw;rw[Va f]
   rw[this];exact .inl ⟨f,rfl⟩
  generalize aA.dH s.ts name u=e0 at *;have N:(e0 != 0)=Vf:=by simpa using f
  go_wp2
  go_ret2;exact⟨g.out,x.out⟩
 ·by_cases A:til<=fr
  ·have g:Hid (qP s r name (fw s name u fr til) (.returned (.tuple #[.pointer Vc,.int .i64 6]))):=by
    have:fw s name u fr til=6:=by unfold fw;rw[U9 UT,Va A]
    rw[this];exact .inl ⟨by omega,rfl⟩
   clear f q o
   go_wp2
   go_ret2;exact⟨g.out,x.out⟩
  ·have g:Hid (qP s r name (fw s name u fr til) (.returned (.tuple #[.pointer (Vd ⟨r.tg[i].tb,0,Vc⟩),.int .i64 0]))):=by
    have:fw s name u fr til=0:=by unfold fw;rw[U9 UT,U9 A]
    rw[this];exact .inr ⟨rfl,i,I,q,o,rfl⟩
   clear f q o
   go_wp2
   go_ret2;exact⟨g.out,x.out⟩
def fA(p:U8 × U8):U4 Vh:=[.int .i64 p.1,.int .i64 p.2]
def ef(p:aL × Vh):U4 Vh:=[.int .i64 p.1.id,.int .i64 p.1.kind,.string p.1.aT,.int .i64 p.1.aH,p.2,.int .i64 p.1.bY]
structure qL(w:Vg)(B:U7)(aM:U7->U5 aW)(v:Vh)(L:U4 (U8 × U8)):Prop where
 own:w.ownsRow B 60 2 v L.length (L.flatMap fA)
 no:∀ b,v.ownBlock=Vd b->aM b=Vc
structure gH(w:Vg)(B:U7)(aM:U7->U5 aW)(v:Vh)(l:U4 (aL × Vh)):Prop where
 own:w.ownsRow B 58 6 v l.length (l.flatMap ef)
 no:∀ b,v.ownBlock=Vd b->aM b=Vc
 sp:∀ p∈l,qL w B aM p.2 p.1.aK/\∀ b,p.2.ownBlock=Vd b->v.ownBlock≠Vd b
 pw:l.Pairwise fun p q=>∀ b,p.2.ownBlock=Vd b->q.2.ownBlock≠Vd b
theorem gH.nil(w:Vg)(B:U7)(c:U7->U5 aW):gH w B c (.slice Vc 0 0) []:=⟨WJ _ _ _ _,(fun b f=>by cases f),UU,XZ⟩
def ku(w:Vg)(B:U7)(c:U7->U5 aW)(v:Vh)(p:aA.bO):Prop :=
 ∃ (m g h f:Vh) (l:U4 (aL × Vh)),v=bC p.err p.at_ p.n m g h f/\l.map (·.1)=p.entries/\gH w B c m l/\eD w B c g p.days/\eD w B c h p.granted/\eD w B c f p.ended/\(∀ b,h.ownBlock=Vd b->m.ownBlock≠Vd b/\g.ownBlock≠Vd b/\f.ownBlock≠Vd b/\∀ q∈l,q.2.ownBlock≠Vd b)/\∀ b,g.ownBlock=Vd b->f.ownBlock≠Vd b
theorem ku.plain(w:Vg)(B:U7)(f:U7->U5 aW)(e n:U8):ku w B f (bC e 0 n (.slice Vc 0 0) (.slice Vc 0 0) (.slice Vc 0 0) (.slice Vc 0 0)) ⟨e,0,n,[],[],[],[]⟩ :=
 ⟨_,_,_,_,[],rfl,rfl,gH.nil _ _ _,eD.nil _ _ _,eD.nil _ _ _,eD.nil _ _ _,(fun b c=>by cases c),fun b c=>by cases c⟩
def dX(w:Vg)(d:U7)(g:U7->U5 aW)(q:St × aA.bO)(v:Vh)(w':Vg):Prop :=
 ∃ (f:Raw) (c:U7->U5 aW),DK w' d f c/\Of q.1 f/\Wl f/\Hl f/\Step anyS w.heap.size g c w w'/\ku w' w.heap.size c v q.2
structure dS(w:Vg)(d:U7)(s:St)(r:Raw)(aM:U7->U5 aW):Prop where
 dk:DK w d r aM
 of:Of s r
 wl:Wl r
 hl:Hl r
 inv:Inv s
theorem dS.aS{r:Raw}{c:U7->U5 aW}(h:dS w d s r c):ec s:=h.inv.aS
theorem UJ{r:Raw}(c:Of s r){g:EG}(o:(r.eg.map (·.e.id)).Nodup)(f:g∈r.eg):aA.nc g.e.id s.es=Vd g.e:=by
 unfold aA.nc
 cases h:s.es.find? fun e=>decide (e.id=g.e.id) with
 |none =>
  have:=Yj.1 h g.e (c.mem f);simp at this
 |some e =>
  have t:=Yk h;have q:=Yl h;obtain⟨x,m,rfl⟩:=c.get t;have:x=g:=oL _ o m f (by simpa using q);rw[this]
theorem UE{r:Raw}(f:Of s r)(h:gu r.eg id=Vc):aA.nc id s.es=Vc:=by
 unfold aA.nc;refine Yj.2 (fun e g=>?_);obtain⟨x,c,rfl⟩:=f.get g
 simpa using Gs h x c
theorem vQ{q m:U7->U5 aW}{t:St}{o:Raw}(I:DK Z d o m)(H:Of t o)(E:Wl o)(D:Hl o)(C:Step anyS w.heap.size q m w Z)(A:w.heap.size<=Q)(y:m Q=Vc)(z n:U8)(a b c e f g i:Vh):
  dX w d q (t,⟨z,0,n,[],[],[],[]⟩) (bC z 0 n (.slice Vc 0 0) (.slice Vc 0 0) (.slice Vc 0 0) (.slice Vc 0 0)) (cK Z Q a b c e f g i):=by
 have k:=lE Z Q a b c e f g i;have st:Step anyS w.heap.size m m Z (cK Z Q a b c e f g i):=⟨⟨_,k,fun x r=>.inr (by have:x=Q:=YC.1 r;subst this;exact⟨y,A⟩)⟩,fun _ _ h=>h,fun _ _ h=>.inl h⟩;exact⟨o,m,I.off k (fun x r=>by have:x=Q:=YC.1 r;subst this;exact y),H,E,D,C.trans st,ku.plain _ _ _ _ _⟩
theorem dS.said{r:Raw}{m:U7->U5 aW}(h:dS w d s r m)(k:Vi w.heap.size w Z)(q:w.heap.size<=Q)(o n:U8)(a b c e f g i:Vh):
  dX w d m (s,⟨o,0,n,[],[],[],[]⟩) (bC o 0 n (.slice Vc 0 0) (.slice Vc 0 0) (.slice Vc 0 0) (.slice Vc 0 0)) (cK Z Q a b c e f g i) :=
 vQ (h.dk.later k) h.of h.wl h.hl (Step.below k) q (h.dk.none q) o n a b c e f g i
theorem dS.refuse{r:Raw}{c:U7->U5 aW}(h:dS w d s r c)(o:Vi w.heap.size w w1)(m:Q7 w1 (w.heap.size+1))(g:Vi w1.heap.size w1 w2){f:U8}{l:aA.fI}(q:aA.aU s l=(s,aA.bO.error f)):
  Q7 w2 (w.heap.size+1)/\dX w d c (aA.aU s l) (bC f 0 0 (.slice Vc 0 0) (.slice Vc 0 0) (.slice Vc 0 0) (.slice Vc 0 0)) (cK w2 (w.heap.size+1) (.int .i64 f) (.int .i64 0) (.int .i64 0) (.slice Vc 0 0) (.slice Vc 0 0) (.slice Vc 0 0) (.slice Vc 0 0)) :=
 ⟨m.later (g.block _ (Vq _ _ m.q0)),by rw[q];exact h.said (o.trans (g.mono o.size)) UT f 0 _ _ _ _ _ _ _⟩
theorem ix{e size:U7}(h:w.ownsRow B e size v n xs):∃ a cap,v=.slice a n cap:=by
 rcases h.2 with ⟨rfl,c⟩|⟨g,cap,_,rfl,_⟩
 ·rw[c];exact⟨_,_,rfl⟩
 ·exact⟨_,_,rfl⟩
theorem qL.off{c:U7->U5 aW}{l:U4 (U8 × U8)}(h:qL w B c v l)(k:aF G w w')(m:∀ x∈G,x<B):qL w' B c v l :=
 ⟨dO h.own k (fun b g f=>by have:=(h.own.lt b g).1;have:=m b f;omega),h.no⟩
theorem eD.off{c:U7->U5 aW}(h:eD w B c v l)(k:aF G w w')(m:∀ x∈G,x<B):eD w' B c v l :=
 ⟨dO h.own k (fun b g f=>by have:=(h.own.lt b g).1;have:=m b f;omega),h.no⟩
theorem gH.off{c:U7->U5 aW}{l:U4 (aL × Vh)}(h:gH w B c v l)(k:aF G w w')(g:∀ x∈G,x<B):gH w' B c v l :=
 ⟨dO h.own k (fun b o m=>by have:=(h.own.lt b o).1;have:=g b m;omega),h.no,fun p f=>⟨(h.sp p f).1.off k g,(h.sp p f).2⟩,h.pw⟩
theorem gH.base{c:U7->U5 aW}{l:U4 (aL × Vh)}(h:gH w B c v l)(g:B'<=B):gH w B' c v l :=
 ⟨YD h.own g,h.no,fun p f=>⟨⟨YD (h.sp p f).1.own g,(h.sp p f).1.no⟩,(h.sp p f).2⟩,h.pw⟩
theorem ku.off{c:U7->U5 aW}{p:aA.bO}(h:ku w B c v p)(k:aF G w w')(f:∀ x∈G,x<B):ku w' B c v p:=by
 obtain⟨m,D,g,o,l,C,A,z,y,t,r,q⟩:=h;exact⟨m,D,g,o,l,C,A,z.off k f,y.off k f,t.off k f,r.off k f,q⟩
theorem ku.base{c:U7->U5 aW}{p:aA.bO}(h:ku w B c v p)(f:B'<=B):ku w B' c v p:=by
 obtain⟨m,C,g,o,l,A,z,y,x,t,r,q⟩:=h;exact⟨m,C,g,o,l,A,z,y.base f,x.base f,t.base f,r.base f,q⟩
theorem dX.up{X:Vg}{r:U7->U5 aW}{q:St × aA.bO}(h:dX X d r q v w2)(E:Vi w.heap.size w X)(hQ:w.heap.size<=Q)(o:Q<X.heap.size)(D:r Q=Vc)(h7:Q7 X Q):
  ∃ (er at_ n:U8) (a1 a2 a3 a4:U5 Addr) (W V U T K J I H:U7),v=bC er at_ n (.slice a1 W K) (.slice a2 V J) (.slice a3 U I) (.slice a4 T H)/\Q7 w2 Q/\∀ a b c e f g i,dX w d r q v (cK w2 Q a b c e f g i):=by
 obtain⟨S,m,k1,k2,k3,Y,y,z⟩:=h;have hR:=z;obtain⟨en,da,gr,ed,l,rfl,_,R,P,O,N,_⟩:=z;obtain⟨b1,K,rfl⟩:=ix R.own;obtain⟨b2,J,rfl⟩:=P.slice;obtain⟨b3,I,rfl⟩:=O.slice;obtain⟨b4,H,rfl⟩:=N.slice;refine⟨_,_,_,_,_,_,_,_,_,_,_,_,_,_,_,rfl,h7.later (y.bV o D o),fun a b c e f g i=>?_⟩;have k:=lE w2 Q a b c e f g i;have C:=y.cU D o;have A:=E.size;have st:Step anyS w.heap.size m m w2 (cK w2 Q a b c e f g i):=⟨⟨_,k,fun x t=>.inr (by have:x=Q:=YC.1 t;subst this;exact⟨C,hQ⟩)⟩,fun _ _ h=>h,fun _ _ h=>.inl h⟩;exact⟨S,m,k1.off k (fun x t=>by have:x=Q:=YC.1 t;subst this;exact C),k2,k3,Y,((Step.below E).trans (y.any A)).trans st,(hR.off k (fun x t=>by have:x=Q:=YC.1 t;omega)).base A⟩
theorem qL.later{c:U7->U5 aW}{l:U4 (U8 × U8)}(h:qL w B c v l)(k:Vi w.heap.size w w'):qL w' B c v l:=⟨eu h.own k,h.no⟩
theorem gH.later{c:U7->U5 aW}{l:U4 (aL × Vh)}(h:gH w B c v l)(k:Vi w.heap.size w w'):gH w' B c v l:=⟨eu h.own k,h.no,fun p f=>⟨(h.sp p f).1.later k,(h.sp p f).2⟩,h.pw⟩
def gL:St:=⟨[],[],0,0⟩
def mV:Raw:=⟨0,0,[],[],[],[]⟩
def pB(N:U7)(k:U7):U5 aW:=if k=N then Vd .mt else if k=N+1 then Vd .me else if k=N+2 then Vd .desk else Vc
theorem NH:Inv gL:=by
 refine⟨by simp[gL],by simp[gL],by simp[gL],by simp[gL,dB],by simp[gL],by simp[gL],by simp[gL],by simp[gL],by simp[gL],by simp[gL],by simp[gL],by simp[gL,aA.eh],by simp[gL],fun name x=>?_⟩;simp[gL,aA.bP,aA.bJ]
def FQ(w:Vg)(v:Vh)(w':Vg):Prop:=v=.pointer (Vd ⟨w.heap.size+2,0,Vc⟩)/\dS w' (w.heap.size+2) gL mV (pB w.heap.size)/\Vi w.heap.size w w'
theorem S7(w:Vg):Vj prog 60 #[] w fun e w'=>∃ v,e=.returned v/\FQ w v w':=by
 have H:=@run_makeMap prog
 have S:Hid (FQ w (.pointer (Vd ⟨w.heap.size+2,0,Vc⟩)) (((w.alloc (.map #[] 0)).alloc (.map #[] 0)).alloc (.cells #[.int .i64 0,.int .i64 0,.map (Vd w.heap.size),.map (Vd (w.heap.size+1)),.slice Vc 0 0,.slice Vc 0 0] 144))):=by
  have s1:(w.alloc (.map #[] 0)).heap.size=w.heap.size+1:=UU
  have D:((w.alloc (.map #[] 0)).alloc (.map #[] 0)).heap.size=w.heap.size+2:=UU
  have E:=eW.made prog 9 w;have A:=eW.made prog 3 (w.alloc (.map #[] 0));have f:=cC ((w.alloc (.map #[] 0)).alloc (.map #[] 0)) (.cells #[.int .i64 0,.int .i64 0,.map (Vd w.heap.size),.map (Vd (w.heap.size+1)),.slice Vc 0 0,.slice Vc 0 0] 144);have R:(((w.alloc (.map #[] 0)).alloc (.map #[] 0)).alloc (.cells #[.int .i64 0,.int .i64 0,.map (Vd w.heap.size),.map (Vd (w.heap.size+1)),.slice Vc 0 0,.slice Vc 0 0] 144)).heap[w.heap.size]?=(w.alloc (.map #[] 0)).heap[w.heap.size]?:=(Below.heap_alloc _ _ _ UT).trans (Below.heap_alloc _ _ _ UT);have P:(((w.alloc (.map #[] 0)).alloc (.map #[] 0)).alloc (.cells #[.int .i64 0,.int .i64 0,.map (Vd w.heap.size),.map (Vd (w.heap.size+1)),.slice Vc 0 0,.slice Vc 0 0] 144)).heap[w.heap.size+1]?=((w.alloc (.map #[] 0)).alloc (.map #[] 0)).heap[w.heap.size+1]?:=Below.heap_alloc _ _ _ UT;have h:Vi w.heap.size w (((w.alloc (.map #[] 0)).alloc (.map #[] 0)).alloc (.cells #[.int .i64 0,.int .i64 0,.map (Vd w.heap.size),.map (Vd (w.heap.size+1)),.slice Vc 0 0,.slice Vc 0 0] 144)):=(((zr _ _).alloc (zq _) _).alloc UT _).alloc UT _;have T:(((w.alloc (.map #[] 0)).alloc (.map #[] 0)).alloc (.cells #[.int .i64 0,.int .i64 0,.map (Vd w.heap.size),.map (Vd (w.heap.size+1)),.slice Vc 0 0,.slice Vc 0 0] 144)).heap.size=w.heap.size+3:=UU
  rw[D] at f;rw[s1] at A;have q:=E.block R;have m:=A.block P;generalize ((w.alloc (.map #[] 0)).alloc (.map #[] 0)).alloc (.cells #[.int .i64 0,.int .i64 0,.map (Vd w.heap.size),.map (Vd (w.heap.size+1)),.slice Vc 0 0,.slice Vc 0 0] 144)=Z at *;have O:Z.cell? ⟨w.heap.size+2,4,Vc⟩=Vd (.slice Vc 0 0):=by simp only[VK,f];rfl
  have N:Z.cell? ⟨w.heap.size+2,5,Vc⟩=Vd (.slice Vc 0 0):=by simp only[VK,f];rfl
  refine⟨rfl,⟨⟨?_,?_,⟨w.heap.size,_,?_,by simp[pB],q,fun n=>rfl⟩,⟨w.heap.size+1,_,?_,by simp[pB],m,fun n=>rfl⟩,⟨_,O,WJ _ _ _ _,fun b h=>by cases h⟩,⟨_,⟨N,WJ _ _ _ _,U2,frozen_of_row _ _ _ _ _ f⟩,fun b h=>by cases h⟩,fun i y=>by simp[mV] at y,fun g z=>by simp[mV] at z,by simp[mV],by simp[mV],fun o=>frozen_of_row _ _ _ _ _ f,by simp[pB],fun k c C=>?_⟩,⟨rfl,rfl,rfl,rfl,fun i y=>by simp[mV] at y,fun g z=>by simp[mV] at z⟩,rfl,⟨?_,List.Perm.nil⟩,NH⟩,h⟩
  ·simp only[VK,f];rfl
  ·simp only[VK,f];rfl
  ·simp only[VK,f];rfl
  ·simp only[VK,f];rfl
  ·unfold pB at C
   by_cases K:k=w.heap.size
   ·omega
   ·by_cases J:k=w.heap.size+1
    ·omega
    ·by_cases I:k=w.heap.size+2
     ·omega
     ·simp[K,J,I] at C
  ·intro i x t;have r:i<([]:U4 Hp.Hi).length:=by first|exact x|exact t
   simp at r
 go_in
 go_wp2
 go_ret;exact⟨_,rfl,S.out⟩
end Go.Proofs.YtfigmlfdnickmaaGreatDoor
