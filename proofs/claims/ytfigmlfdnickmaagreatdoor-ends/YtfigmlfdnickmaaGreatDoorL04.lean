import Derived.Test.YtfigmlfdnickmaaGreatDoorL03
import Derived.Maps.Keyed
import Derived.LaidEqlPtr
import Derived.Lib.SliceRun
import Derived.Laws.Rows
set_option maxRecDepth 100000
set_option maxHeartbeats 8000000
open Go.Proofs.Tryz
open _root_ renaming ByteArray->XK,List->XL,Option->XM,Bool->XN,Nat->XP,Int->XQ,if_neg->XR,if_pos->XS,absurd->XT,Int->N,List->J
open Option renaming none->XU,some->XV,mem_toList->ZL,some->U
open Bool renaming false->XW,true->XX,false_eq_true->Yr,not_true->Yq,and_eq_true->ZR
open Go renaming World->XY,Value->XZ,Calls->X4
open Go.RowKit renaming Below->X0
open Int renaming mul_nonneg->Y9
open List renaming filter_cons->YK,filter_append->YJ,length_append->YZ,mem_append->Yv,mem_cons->Yu,map_append->Zl,mem_map->Zh,pairwise_cons->YI,drop_eq_nil_of_le->ZI,drop_eq_getElem_cons->ZH,nodup_cons->Yx,length_cons->Y0,take_succ_eq_append_getElem->Zc,getElem?_eq_getElem->ZV,take_of_length_le->Ze,all_eq_true->ZZ,length_map->ZE,length_filter_le->ZA,foldl_cons->ZT,length_take_le->Zk
open Go.IntKind renaming i64->Yf,i64->Y
open Go.World renaming block_lt_of_cell?->Yl,frozen?_of_block->ZJ,cell?_setCell_same->Yy,news_of_block->ZF,cell?->YF
open Nat renaming lt_of_lt_of_le->Zg,zero_le->Zd,le_trans->Yk
open List.Sublist renaming nodup->YN
open And renaming intro->Yz
open Go.Value renaming ownBlock->ZB,int->X7,pointer->X8,slice->X9,tuple->Yc,int->V
open Go.Ending renaming returned->Yg
open Go.Obj renaming cells->Yh
namespace Go.Proofs.YtfigmlfdnickmaaGreatDoor
variable{a b name:XK}{e:aA.aO}{given id now' t tq u:XQ}{at':XQ->XP}{ts:XL (XK × XQ)}{L:XL (XQ × XQ)}{es es':XL aA.aO}{Gr l:XL XQ}{F G M:XL XP}{cs xs:XL XZ}{B B' B0 Q cap d fn i j k n:XP}{p:XP->XN}{s:aA.St}{v v' v4:XZ}{Z w w' w1 w2 w3 wx:XY}
namespace aA
theorem ie.small{now:N}(h:ie now e):Small e:=⟨by have:=h.u1;omega,h.u9,by have:=h.sl;omega⟩
structure dZ(s:St):Prop where
 tl:s.ts.length<=4
 tu:∀ t∈s.ts,1<=t.2/\t.2<=9
 tn:s.ts.Pairwise fun t u=>cO t.1 u.1=XW
 ids:dL s.es
 lS:∀ e∈s.es,1<=e.id/\e.id<=s.given
 g0:0<=s.given
 g1:s.given<=60
 n0:0<=s.now
 n1:s.now<=1048320
 en:∀ e∈s.es,ie s.now e
 th:∀ e∈s.es,e.aM<=bW e.bA s.ts
 wa:eM s.es<=6
 wi:∀ name x,bZ name x s.es<=bW name s.ts
theorem Inv.aY(h:Inv s):dZ s:=⟨h.tl,h.tu,h.tn,h.ids,h.lS,h.g0,h.g1,h.n0,h.n1,h.en,h.th,h.wa,h.wi⟩
theorem dZ.inv(h:dZ s)(c:∀ e∈s.es,e.kind=3->eo s.ts s.es e.bA e.aM e.aQ=XW):Inv s:=⟨h.tl,h.tu,h.tn,h.ids,h.lS,h.g0,h.g1,h.n0,h.n1,h.en,h.th,h.wa,c,h.wi⟩
theorem dZ.small(h:dZ s):∀ e∈s.es,Small e:=fun e c=>(h.en e c).small
theorem dZ.pos(h:dZ s):Pos s.es:=Small.pos h.small
theorem Fi{a b:XK}(h:cO a b=XX):∀ ts:J (XK × N),bW a ts=bW b ts
 |[]=>rfl
 |t :: r=>by simp only[bW,Lx (c:=t.1) h,Fi h r]
theorem Ua(h:cO a b=XX)(e:aO):cN a e=cN b e:=by unfold cN;rw[Lx h]
theorem Fh{a b:XK}(h:cO a b=XX)(x:N):∀ es:J aO,bZ a x es=bZ b x es
 |[]=>rfl
 |e :: r=>by simp only[bZ,Ua h,Fh h x r]
theorem Ff(h:∀ t∈ts,1<=t.2/\t.2<=9)(name:XK):0<=bW name ts/\bW name ts<=9:=by
 induction ts with
 |nil=>simp[bW]
 |cons t r ih =>
  have i:=ih (fun u c=>h u (by simp[c]));have j:=h t XA;simp only[bW]
  split <;> omega
theorem Xp{x:N}(h:Pos es):0<=bZ name x es:=by
 induction es with
 |nil=>simp[bZ]
 |cons e r ih =>
  have i:=ih (fun z f=>h z (by simp[f]));have c:0<=dH e.aQ x*e.aM:=Y9 (rm e.aQ x).1 (h e XA);simp only[bZ]
  split <;> omega
theorem LL{name:XK}{x:N}(p:aO->XN):∀ {es:J aO},Pos es->bZ name x (es.filter p)<=bZ name x es
 |[],_=>Int.le_refl _
 |e :: r,h=>by
  have i:=LL (name:=name) (x:=x) p (es:=r) (fun z f=>h z (by simp[f]));have c:0<=dH e.aQ x*e.aM:=Y9 (rm e.aQ x).1 (h e XA);rw[YK]
  split
  .simp only[bZ];omega
  .simp only[bZ];split <;> omega
theorem Lh(o:Pos es)(f:Pos es')(g:0<=u)(h:∀ x,bZ name x es<=bZ name x es')(k:eo ts es name u L=XW):eo ts es' name u L=XW:=by
 cases c:eo ts es' name u L
 .rfl
 .have:eo ts es name u L=XX:=(vA o g).2 (fun x m=>by
   have:=(vA f g).1 c x m;have:=h x
   omega)
  rw[this] at k;cases k
theorem KI(name:XK)(x:N)(l r:J aO)(e:aO)(c:e.kind=3):bZ name x (l++dI e :: r)=bZ name x (l++e :: r)+if cO e.bA name then dH e.aQ x*e.aM else 0:=by
 have o:cN name e=XW:=by simp[cN,c]
 rw[vF,vF];simp only[bZ,o,sT,Yr,if_false];show _+((if cO e.bA name=XX then dH e.aQ x*e.aM else 0)+_)=_;omega
theorem Rl{l r:J aO}{c:aO}(h:dL (l++e :: r))(k:c.id=e.id):dL (l++c :: r):=by
 unfold dL at *
 simpa[k] using h
theorem Fj(l r:J aO):eM (l++r)=eM l+eM r:=by
 unfold eM;rw[YJ,YZ];omega
theorem Er(e:aO)(r:J aO):eM (e :: r)=(if e.kind=3 then 1 else 0)+eM r:=by
 unfold eM;rw[YK]
 by_cases c:e.kind=3
 .rw[XS (by simp[c]),XS c];simp;omega
 .rw[XR (by simp[c]),XR c];omega
theorem ie.book{now:N}(h:ie now e):ie now (dI e):=⟨h.u1,h.u9,h.sl,h.s0,h.sp,h.ri,.inl ⟨rfl,rfl⟩⟩
theorem dZ.rL{l r:J aO}{now:N}(h:dZ ⟨ts,l++e :: r,given,now⟩)(o:e.kind=3)(q:eo ts (l++e :: r) e.bA e.aM e.aQ=XX):dZ ⟨ts,l++dI e :: r,given,now⟩:=by
 have m:e∈l++e :: r:=XA
 have g:∀ z∈l++dI e :: r,z=dI e\/z∈l++e :: r:=by
  intro z f;simp only[Yv,Yu] at f ⊢;rcases f with f|f|f
  .exact .inr (.inl f)
  .exact .inl f
  .exact .inr (.inr (.inr f))
 have u1:=(h.en e m).u1;refine⟨h.tl,h.tu,h.tn,Rl h.ids rfl,fun z f=>?_,h.g0,h.g1,h.n0,h.n1,fun z f=>?_,fun z f=>?_,?_,fun name x=>?_⟩
 .rcases g z f with rfl|f
  .exact h.lS e m
  .exact h.lS z f
 .rcases g z f with rfl|f
  .exact (h.en e m).book
  .exact h.en z f
 .rcases g z f with rfl|f
  .exact h.th e m
  .exact h.th z f
 .have:=h.wa;show eM (l++dI e :: r)<=6;have this:eM (l++e :: r)<=6:=this;rw[Fj,Er] at this ⊢;have y:(dI e).kind=1:=rfl;rw[XR (by rw[y];omega)];rw[XS o] at this;omega
 .show bZ name x (l++dI e :: r)<=bW name ts;rw[KI name x l r e o];have w:bZ name x (l++e :: r)<=bW name ts:=h.wi name x
  split
  .rename_i c
   by_cases t:0<dH e.aQ x
   .have:=(vA h.pos O).1 q x t;rw[Fh c x,Fi c ts] at this;exact this
   .have b:=(rm e.aQ x).1;have:dH e.aQ x=0:=O
    rw[this];simpa using w
  .omega
theorem Ex(ts:J (XK × N))(given now:N):∀ (r f:J aO),dZ ⟨ts,f++r,given,now⟩->(∀ e∈f,e.kind=3->eo ts (f++r) e.bA e.aM e.aQ=XW) ->
  Inv ⟨ts,(ey ts f r).1,given,now⟩
 |[],f,h,no=>by
  simp only[ey];rw[List.append_nil] at h no;exact h.inv no
 |e :: r,f,h,no=>by
  simp only[ey]
  by_cases c:e.kind=3/\eo ts (f++e :: r) e.bA e.aM e.aQ=XX
  .rw[XS c];have q:=h.rL c.1 c.2;refine Ex ts given now r (f++[dI e]) (by simpa using q) (fun z g m=>?_);rcases Yv.1 g with g|g
   .have o:z∈f++e :: r:=by simp[g]
    refine Lh (es:=f++e :: r) h.pos (by simpa using q.pos) (by have:=(h.en z o).u1;omega) (fun x=>?_) (no z g m);rw[show f++[dI e]++r=f++dI e :: r from by simp,KI _ x f r e c.1];have:=Y9 (rm e.aQ x).1 (show 0<=e.aM by have:=(h.en e XA).u1;omega)
    split <;> omega
   .have:z=dI e:=by simpa using g
    rw[this] at m;exact XT m (by show ¬ (1:N)=3;omega)
  .rw[XR c];refine Ex ts given now r (f++[e]) (by simpa using h) (fun z g m=>?_);rw[show f++[e]++r=f++e :: r from by simp];rcases Yv.1 g with g|g
   .exact no z g m
   .have:z=e:=by simpa using g
    subst this
    cases y:eo ts (f++z :: r) z.bA z.aM z.aQ
    .rfl
    .exact XT ⟨m,y⟩ c
theorem DV{now:N}(h:dZ ⟨ts,es,given,now⟩):Inv ⟨ts,(dB ts es).1,given,now⟩ :=
 Ex ts given now es [] (by simpa using h) XA
theorem KY(ts:J (XK × N)):∀ (r c:J aO),(∀ e∈r,e.kind=3->eo ts (c++r) e.bA e.aM e.aQ=XW)->ey ts c r=(c++r,[])
 |[],c,_=>by simp[ey]
 |e :: r,c,h=>by
  simp only[ey];rw[XR]
  .rw[KY ts r (c++[e]) (fun z g m=>by rw[show c++[e]++r=c++e :: r from by simp];exact h z (by simp[g]) m)];simp
  .rintro ⟨o,f⟩;rw[h e XA o] at f;cases f
theorem Xf(h:Inv s):dB s.ts s.es=(s.es,[]):=by
 unfold dB;rw[KY s.ts s.es [] (by simpa using h.no)];simp
theorem vy(tq:N):∀ es:J aO,dP tq es<=tq/\(∀ e∈es,e.kind≠1->dP tq es<=e.bP)/\(dP tq es=tq\/∃ e∈es,e.kind≠1/\e.bP=dP tq es)
 |[]=>⟨Int.le_refl _,by simp,.inl rfl⟩
 |e :: r=>by
  let⟨h1,h2,h⟩:=vy tq r;simp only[dP]
  split
  .rename_i c
   refine⟨O,fun z f g=>?_,.inr ⟨e,by simp,c.1,rfl⟩⟩;rcases Yu.1 f with rfl|f
   .omega
   .have:=h2 z f g;omega
  .rename_i c
   refine⟨h1,fun z f g=>?_,?_⟩
   .rcases Yu.1 f with rfl|f
    .apply Classical.byContradiction;intro d;exact c ⟨g,O⟩
    .exact h2 z f g
   .rcases h with h|⟨z,f,k⟩
    .exact .inl h
    .exact .inr ⟨z,by simp[f],k⟩
theorem WE(p:aO->XN)(l:J aO):eM (l.filter p)<=eM l:=by
 unfold eM;have:=((List.filter_sublist (p:=p) (l:=l)).filter (fun e=>e.kind==3)).length_le;omega
theorem dZ.filter{now:N}(h:dZ ⟨ts,es,given,now⟩)(p:aO->XN)(C:now<=now')(m:now'<=1048320)(r:∀ e∈es,p e=XX->e.kind≠1->now'<e.bP):dZ ⟨ts,es.filter p,given,now'⟩:=by
 have y:0<=now:=h.n0;have c:∀ z∈es.filter p,z∈es:=fun z f=>(List.mem_filter.1 f).1
 refine⟨h.tl,h.tu,h.tn,xQ p h.ids,fun z f=>h.lS z (c z f),h.g0,h.g1,by show 0<=now';omega,m,fun z f=>?_,fun z f=>h.th z (c z f),?_,fun name x=>?_⟩
 .have k:=h.en z (c z f);refine⟨k.u1,k.u9,k.sl,k.s0,k.sp,k.ri,?_⟩;rcases k.kd with g|⟨g,A,q,o⟩
  .exact .inl g
  .exact .inr ⟨g,r z (c z f) (List.mem_filter.1 f).2 O,q,o⟩
 .have:=h.wa;have this:eM es<=6:=this;have:=WE p es;show eM (es.filter p)<=6;omega
 .have a:=LL (name:=name) (x:=x) p h.pos;have b:=h.wi name x;show bZ name x (es.filter p)<=bW name ts;have a:bZ name x (es.filter p)<=bZ name x es:=a;have b:bZ name x es<=bW name ts:=b;omega
theorem ue(ts:J (XK × N)):∀ (r c:J aO),(ey ts c r).1.length=c.length+r.length
 |[],c=>by simp[ey]
 |e :: r,c=>by
  simp only[ey]
  split
  .show (ey ts (c++[dI e]) r).1.length=_;rw[ue ts r];simp;omega
  .rw[ue ts r];simp;omega
theorem xz(ts:J (XK × N))(es:J aO):(dB ts es).1.length=es.length:=by unfold dB;rw[ue];simp
theorem Kv(ts:J (XK × N))(given tq:N)(ht:tq<=1048320):∀ (k:XP)(es:J aO)(now:N),es.length<k\/now=tq->now<=tq->Inv ⟨ts,es,given,now⟩->Inv ⟨ts,(fg ts k es now tq).1,given,tq⟩
 |0,es,now,hk,hle,h=>by
  have:now=tq:=O
  subst this
  simpa[fg] using h
 |k+1,es,now,hk,hle,h=>by
  simp only[fg]
  by_cases c:now<tq
  .rw[XS c];let⟨n1,n2,n3⟩:=vy tq es
   have I:now<dP tq es:=by
    rcases n3 with e|⟨z,q,o,e⟩
    .omega
    .rcases (h.en z q).kd with C|⟨_,x,_⟩
     .exact XT C.1 o
     .have x:now<z.bP:=x;omega
   have D:=h.aY.filter (now':=dP tq es) (fun e=>!bO (dP tq es) e) O O (fun e H m f=>by
    have:=n2 e H f;have m:(!bO (dP tq es) e)=XX:=m;simp[bO] at m;rcases m with A|A
    .exact XT A f
    .omega)
   have E:=DV D;refine Kv ts given tq ht k _ _ ?_ n1 E
   by_cases e:dP tq es=tq
   .exact .inr e
   .left;rcases n3 with r |⟨z,q,o,r⟩
    .exact XT r e
    .rw[xz]
     have:(es.filter fun e=>!bO (dP tq es) e).length<es.length:=by
      rw[<- List.countP_eq_length_filter]
      have y:¬ List.countP (fun e=>!bO (dP tq es) e) es=es.length:=by
       rw[List.countP_eq_length];intro g;have:=g z q;simp[bO,r] at this;exact o this
      have:=List.countP_le_length (p:=fun e=>!bO (dP tq es) e) (l:=es);omega
     omega
  .rw[XR c];have:now=tq:=O
   subst this;exact h
theorem Fc(name:XK)(t:XK × N):∀ ts:J (XK × N),bW name (ts++[t])=if (ts.any fun u=>cO u.1 name)=XX then bW name ts else if cO t.1 name then t.2 else 0
 |[]=>by simp[bW]
 |u :: r=>by
  have ih:=Fc name t r;have o:bW name (u :: r++[t])=if cO u.1 name then u.2 else bW name (r++[t]):=rfl
  have m:bW name (u :: r)=if cO u.1 name then u.2 else bW name r:=rfl
  rw[o,m]
  by_cases h:cO u.1 name=XX
  .have:((u :: r).any fun u=>cO u.1 name)=XX:=List.any_eq_true.2 ⟨u,by simp,h⟩;rw[XS h,XS h,XS this]
  .rw[XR h,XR h,ih]
   by_cases c:(r.any fun u=>cO u.1 name)=XX
   .have:((u :: r).any fun u=>cO u.1 name)=XX:=by
     let⟨z,f,k⟩:=List.any_eq_true.1 c;exact List.any_eq_true.2 ⟨z,by simp[f],k⟩
    rw[XS c,XS this]
   .have:¬ ((u :: r).any fun u=>cO u.1 name)=XX:=by
     intro g;let⟨z,f,k⟩:=List.any_eq_true.1 g;rcases Yu.1 f with e|f
     .rw[e] at k;exact h k
     .exact c (List.any_eq_true.2 ⟨z,f,k⟩)
    rw[XR c,XR this]
theorem xX{name:XK}:∀ {ts:J (XK × N)},(∀ t∈ts,1<=t.2/\t.2<=9)->(bW name ts=0↔∀ t∈ts,cO t.1 name=XW)
 |[],_=>by simp[bW]
 |u :: r,h=>by
  have i:=xX (name:=name) (ts:=r) (fun t ht=>h t (by simp[ht]));have j:=h u XA;simp only[bW,List.forall_mem_cons]
  cases c:cO u.1 name
  .simp only[Yr,if_false,true_and];exact i
  .simp only[if_true];constructor
   .intro e;omega
   .rintro ⟨e,_⟩;cases e
theorem Xn{t:XK × N}(h:∀ t∈ts,1<=t.2/\t.2<=9)(g:bW name ts≠0):bW name (ts++[t])=bW name ts:=by
 rw[Fc,XS]
 cases c:ts.any fun u=>cO u.1 name
 .exfalso;apply g;rw[xX h];intro u f
  cases d:cO u.1 name
  .rfl
  .have:ts.any (fun u=>cO u.1 name)=XX:=List.any_eq_true.2 ⟨u,f,d⟩;rw[this] at c;cases c
 .rfl
theorem Inv.bA(h:Inv s)(o:1<=u/\u<=9)(q:bW name s.ts=0)(D:s.ts.length≠4):Inv { s with ts:=s.ts++[(name,u)] }:=by
 have g:=(xX h.tu).1 q;have un:∀ m,bW m s.ts≠0->bW m (s.ts++[(name,u)])=bW m s.ts:=fun m r=>Xn h.tu r
 have pos:∀ e∈s.es,bW e.bA s.ts≠0:=fun e f=>by
  have:=h.th e f;have:=(h.en e f).u1;omega
 have C:=h.tl;refine⟨?_,fun t ht=>?_,?_,h.ids,h.lS,h.g0,h.g1,h.n0,h.n1,h.en,fun e f=>?_,h.wa,fun e f y=>?_,fun m x=>?_⟩
 .show (s.ts++[(name,u)]).length<=4;simp;omega
 .rcases Yv.1 ht with ht|ht
  .exact h.tu t ht
  .have:t=(name,u):=by simpa using ht
   subst this;exact o
 .show (s.ts++[(name,u)]).Pairwise _;rw[List.pairwise_append];refine⟨h.tn,by simp,fun a A b z=>?_⟩;have:b=(name,u):=by simpa using z
  subst this;exact g a A
 .show e.aM<=bW e.bA (s.ts++[(name,u)]);rw[un _ (pos e f)];exact h.th e f
 .have:=h.no e f y;show eo (s.ts++[(name,u)]) s.es e.bA e.aM e.aQ=XW;unfold eo at this ⊢;rw[un _ (pos e f)];exact this
 .show bZ m x s.es<=bW m (s.ts++[(name,u)])
  by_cases c:bW m s.ts=0
  .have w:=h.wi m x;have b:=Xp (name:=m) (x:=x) h.aY.pos
   have:0<=bW m (s.ts++[(name,u)]):=by
    rw[Fc]
    split
    .omega
    .split <;> simp <;> omega
   omega
  .rw[un m c];exact h.wi m x
theorem Inv.join(h:Inv s)(I:s.given≠60)(g:ie s.now e)(ht:e.aM<=bW e.bA s.ts)(r:e.kind=3->eM s.es≠6)(y:e.kind≠3->eo s.ts s.es e.bA e.aM e.aQ=XX):dZ (kB s e).1:=by
 have P:=h.g0;have K:=h.g1;have o:=h.lS;have H:=h.wa;have q:ie s.now { e with id:=s.given+1 }:=⟨g.u1,g.u9,g.sl,g.s0,g.sp,g.ri,g.kd⟩
 have m:∀ z∈s.es++[{ e with id:=s.given+1 }],z∈s.es\/z={ e with id:=s.given+1 }:=by
  intro z f;rcases Yv.1 f with f|f
  .exact .inl f
  .exact .inr (by simpa using f)
 unfold kB;refine⟨h.tl,h.tu,h.tn,?_,fun z f=>?_,by show 0<=s.given+1;omega,by show s.given+1<=60;omega,h.n0,h.n1,fun z f=>?_,fun z f=>?_,?_,fun name x=>?_⟩
 .show dL (s.es++[{ e with id:=s.given+1 }]);unfold dL;rw[Zl,List.pairwise_append];refine⟨h.ids,by simp,fun a C b A=>?_⟩;obtain⟨z,f,rfl⟩:=Zh.1 C;have:b=s.given+1:=by simpa using A
  have:=o z f;omega
 .rcases m z f with f|rfl
  .have:=o z f;show 1<=z.id/\z.id<=s.given+1;omega
  .show 1<=s.given+1/\s.given+1<=s.given+1;omega
 .rcases m z f with f|rfl
  .exact h.en z f
  .exact q
 .rcases m z f with f|rfl
  .exact h.th z f
  .exact ht
 .show eM (s.es++[{ e with id:=s.given+1 }])<=6;rw[Fj,Er];have E:eM ([]:J aO)=0:=by simp[eM]
  rw[E];show eM s.es+((if e.kind=3 then 1 else 0)+0)<=6
  by_cases c:e.kind=3
  .rw[XS c];have:=r c;omega
  .rw[XR c];omega
 .show bZ name x (s.es++[{ e with id:=s.given+1 }])<=bW name s.ts;rw[vF];have w:=h.wi name x;have D:bZ name x [{ e with id:=s.given+1 }]=(if cN name e then dH e.aQ x*e.aM else 0):=by simp[bZ,cN]
  rw[D]
  by_cases c:cN name e=XX
  .rw[XS c];simp[cN] at c
   by_cases t:0<dH e.aQ x
   .have:=(vA h.aY.pos (by have:=g.u1;omega)).1 (y c.2) x t;rw[Fh c.1 x,Fi c.1 s.ts] at this;exact this
   .have b:=(rm e.aQ x).1;have:dH e.aQ x=0:=O
    rw[this];simpa using w
  .rw[XR c];omega
theorem Lp(g:dL es)(q:e∈es)(h:e.id=id):∃ l r,es=l++e :: r/\eA id es=l++dI e :: r/\kept id es=l++r:=by
 obtain⟨l,r,rfl⟩:=List.append_of_mem q;refine⟨l,r,rfl,?_,?_⟩
 .have f:∀ z∈l++r,z.id≠id:=by
   intro z c x;unfold dL at g;rw[Zl,List.map_cons,List.pairwise_append,YI] at g;rcases Yv.1 c with c|c
   .have:=g.2.2 z.id (Zh.2 ⟨z,c,rfl⟩) e.id XA;omega
   .have:=g.2.1.1 z.id (Zh.2 ⟨z,c,rfl⟩);omega
  have o:=Az (id:=id) (es:=l) (fun z c=>f z (by simp[c]));have m:=Az (id:=id) (es:=r) (fun z c=>f z (by simp[c]));unfold eA at o m ⊢;rw[Zl,List.map_cons,o,m,XS h]
 .have f:∀ z∈l++r,z.id≠id:=by
   intro z c x;unfold dL at g;rw[Zl,List.map_cons,List.pairwise_append,YI] at g;rcases Yv.1 c with c|c
   .have:=g.2.2 z.id (Zh.2 ⟨z,c,rfl⟩) e.id XA;omega
   .have:=g.2.1.1 z.id (Zh.2 ⟨z,c,rfl⟩);omega
  have o:=D9 (id:=id) (es:=l) (fun z c=>f z (by simp[c]));have m:=D9 (id:=id) (es:=r) (fun z c=>f z (by simp[c]));unfold kept at o m ⊢;rw[YJ,YK,o,m,XR (by simp[h])]
theorem Wh(name:XK)(x:N)(l r:J aO)(e:aO)(c:e.kind≠3):bZ name x (l++dI e :: r)=bZ name x (l++e :: r):=by
 have o:cN name e=cO e.bA name:=by
  unfold cN;have:(e.kind != 3)=XX:=by simp[c]
  rw[this,Bool.and_true]
 rw[vF,vF];simp only[bZ,o,sT];rfl
theorem Inv.bF(h:Inv s)(g:e∈s.es)(q:e.id=id)(H:e.kind=2):Inv { s with es:=eA id s.es }:=by
 let⟨l,r,h1,h2,_⟩:=Lp h.ids g q;have A:∀ name x,bZ name x (eA id s.es)=bZ name x s.es:=fun name x=>by rw[h2,h1];exact Wh name x l r e O
 have f:∀ z∈eA id s.es,z=dI e\/z∈s.es:=by
  intro z c;rcases rB.1 c with c|⟨y,C,I,D⟩
  .exact .inr c.1
  .have:y=e:=h.ids.one C g O;subst this;exact .inl D
 have o:Pos (eA id s.es):=by
  intro z c;rcases f z c with rfl|c
  .exact h.aY.pos e g
  .exact h.aY.pos z c
 refine⟨h.tl,h.tu,h.tn,KA h.ids,fun z c=>?_,h.g0,h.g1,h.n0,h.n1,fun z c=>?_,fun z c=>?_,?_,fun z c m=>?_,fun name x=>?_⟩
 .rcases f z c with rfl|c
  .exact h.lS e g
  .exact h.lS z c
 .rcases f z c with rfl|c
  .exact (h.en e g).book
  .exact h.en z c
 .rcases f z c with rfl|c
  .exact h.th e g
  .exact h.th z c
 .have:=h.wa;show eM (eA id s.es)<=6;rw[h1] at this;rw[h2];rw[Fj,Er] at this ⊢;have E:(dI e).kind=1:=rfl;rw[XR (by rw[E];omega)];rw[XR O] at this;exact this
 .rcases f z c with rfl|c
  .exact XT m (by show ¬ (1:N)=3;omega)
  .exact Lh h.aY.pos o (by have:=(h.en z c).u1;omega) (fun x=>by rw[A];omega) (h.no z c m)
 .show bZ name x (eA id s.es)<=bW name s.ts;rw[A];exact h.wi name x
theorem Ao(h:lL id es=U e):e∈es/\e.id=id:=by
 unfold lL at h;exact⟨List.mem_of_find?_eq_some h,by simpa using List.find?_some h⟩
theorem Rd.lf{r:Rd.cA}(h:Rd.fY r)(g:Rd.gQ r=0):pN (Rd.gY r (Rd.bY r))/\iu (Rd.gY r (Rd.bY r))/\Rd.gY r (Rd.bY r)≠[]/\(Rd.gY r (Rd.bY r)).length<=40:=by
 let⟨_,k1,k2,k3⟩:=(Rd.qY h).2 g;have x:=h.f0;have o:=h.m0;have q:=h.i1;refine⟨fun s f=>?_,?_,by simpa[Rd.gY] using k1,by simpa[Rd.gY] using k2⟩
 .obtain⟨d,c,rfl⟩:=Zh.1 f;have a:=Rd.ui h c;have b:=k3 d c;show 0<=d*1440+r.mn/\d*1440+r.mn<d*1440+r.mn+r.mi/\d*1440+r.mn+r.mi<=1048320;omega
 .unfold iu Rd.gY;rw[List.pairwise_map];refine List.Pairwise.imp ?_ (Rd.KQ h);intro a b m;show a*1440+r.mn<b*1440+r.mn;omega
theorem J9(h:eB ts name u=0):bW name ts≠0/\u<=bW name ts:=by
 unfold eB at h
 split at h
 .omega
 .split at h
  .omega
  .constructor <;> omega
theorem CV(h:Inv s){l:gn}(m:iV l):dZ (aV s l).1:=by
 cases l with
 |bA name u =>
  simp only[aV]
  split
  .exact h.aY
  .split
   .exact h.aY
   .rename_i c1 c2
    exact (h.bA m (by simpa using c1) c2).aY
 |enter k name u fr til long =>
  simp only[aV]
  split
  .exact h.aY
  .rename_i c
   simp only[ne_eq,Decidable.not_not] at c;unfold py at c
   split at c
   .omega
   .rename_i c1
    simp only[ne_eq,Decidable.not_not] at c1
    split at c
    .omega
    .rename_i c2
     split at c
     .omega
     .rename_i c3
      obtain⟨g,l1,o,x,l4,l5,l6⟩:=m;obtain⟨T,q⟩:=J9 c1;have W:=h.n0;refine h.join c3 ⟨l1,o,by simp[pj],by simp[pj],fun s P=>?_,by simp[pj,iu],?_⟩ q (fun f=>?_) (fun f=>?_)
      .have:s=(fr,til):=by simpa[pj] using P
       subst this;show 0<=fr/\fr<til/\til<=1048320;omega
      .show (k=1/\(if k=1 then 0 else s.now+long)=0)\/((k=2\/k=3)/\s.now<(if k=1 then 0 else s.now+long)/\(if k=1 then 0 else s.now+long)<=1048320/\[(fr,til)].length=1);rcases g with ⟨g,_⟩|⟨g,l7,X⟩
       .exact .inl ⟨g,by rw[XS g]⟩
       .rw[XR O];exact .inr ⟨g,O,O,rfl⟩
      .have f:k=3:=f;rw[XS f] at c
       split at c
       .omega
       .assumption
      .have f:k≠3:=f;rw[XR f] at c;show eo s.ts s.es name u [(fr,til)]=XX
       split at c
       .assumption
       .omega
 |series name u r =>
  simp only[aV]
  split
  .exact h.aY
  .rename_i c
   simp only[ne_eq,Decidable.not_not] at c;unfold np at c
   split at c
   .omega
   .rename_i c1
    simp only[ne_eq,Decidable.not_not] at c1
    split at c
    .omega
    .rename_i c2
     simp only[ne_eq,Decidable.not_not] at c2
     split at c
     .omega
     .rename_i c3
      obtain⟨l1,o,x⟩:=m;obtain⟨T,q⟩:=J9 c1;obtain⟨E,D,C,A⟩:=Rd.lf x c2;refine h.join c3 ⟨l1,o,A,C,E,D,.inl ⟨rfl,rfl⟩⟩ q (fun f=>?_) (fun _=>?_)
      .exact XT f (by show ¬ (1:N)=3;omega)
      .show eo s.ts s.es name u (Rd.gY r (Rd.bY r))=XX
       split at c
       .assumption
       .omega
 |bF id =>
  simp only[aV]
  cases y:lL id s.es with
  |none=>exact h.aY
  |some e =>
   simp only
   split
   .exact h.aY
   .rename_i c
    obtain⟨S,R⟩:=Ao y;exact (h.bF S R (by simpa using c)).aY
 |cancel id =>
  simp only[aV]
  cases y:lL id s.es with
  |none=>exact h.aY
  |some e =>
   exact h.aY.filter (now':=s.now) (fun e=>e.id != id) (Int.le_refl _) h.n1 (fun z K _ f=>by
    rcases (h.en z K).kd with H|⟨_,I,_⟩
    .exact XT H.1 f
    .exact I)
 |list name fr til =>
  simp only[aV]
  split
  .exact h.aY
  .split <;> exact h.aY
 |waiting=>exact h.aY
 |dN name fr til =>
  simp only[aV]
  split
  .exact h.aY
  .split <;> exact h.aY
 |find name u long fr til =>
  simp only[aV]
  split
  .exact h.aY
  .split <;> exact h.aY
 |expand r =>
  simp only[aV]
  split <;> exact h.aY
 |tick n =>
  simp only[aV]
  split
  .exact h.aY
  .rename_i c
   have m:1<=n/\n<=1048320:=m;exact (Kv s.ts s.given (s.now+n) O (s.es.length+1) s.es s.now (.inl O) O h).aY
 |clock=>exact h.aY
theorem Vp{l:gn}(h:(aV s l).2.err≠0):(aV s l).1=s:=by
 cases l with
 |bA name u =>
  simp only[aV] at h ⊢
  by_cases m:bW name s.ts≠0
  .rw[XS m]
  .rw[XR m] at h ⊢
   by_cases g:s.ts.length=4
   .rw[XS g]
   .rw[XR g] at h;exact XT rfl h
 |enter k name u fr til long =>
  simp only[aV] at h ⊢
  by_cases c:py s k name u fr til long≠0
  .rw[XS c]
  .rw[XR c] at h;exact XT rfl h
 |series name u r =>
  simp only[aV] at h ⊢
  by_cases c:np s name u r≠0
  .rw[XS c]
  .rw[XR c] at h;exact XT rfl h
 |bF id =>
  simp only[aV] at h ⊢
  cases f:lL id s.es with
  |none=>rfl
  |some e =>
   rw[f] at h;simp only at h ⊢
   by_cases c:e.kind≠2
   .rw[XS c]
   .rw[XR c] at h;exact XT rfl h
 |cancel id =>
  simp only[aV] at h ⊢
  cases f:lL id s.es with
  |none=>rfl
  |some e=>rw[f] at h;exact XT rfl h
 |list name fr til =>
  simp only[aV]
  split
  .rfl
  .split <;> rfl
 |waiting=>rfl
 |dN name fr til =>
  simp only[aV]
  split
  .rfl
  .split <;> rfl
 |find name u long fr til =>
  simp only[aV]
  split
  .rfl
  .split <;> rfl
 |expand r =>
  simp only[aV]
  split <;> rfl
 |tick n =>
  simp only[aV] at h ⊢
  by_cases c:1048320<s.now+n
  .rw[XS c]
  .rw[XR c] at h;exact XT rfl h
 |clock=>rfl
theorem SY(h:Inv s){l:gn}(f:iV l):Inv (ix s l).1:=by
 unfold ix
 split
 .rename_i c
  rw[Vp c];exact h
 .exact DV (CV h f)
end aA
open Go.RowKit
theorem Q0(b:XK):∀ (n i:XP)(r:J UInt8),b.size-i=n->ByteArray.toList.loop b i r=r.reverse++b.data.toList.drop i:=by
 intro n
 induction n with
 |zero =>
  intro i r h;rw[ByteArray.toList.loop,XR O,ZI XG];simp
 |succ n ih =>
  intro i r h;have c:i<b.size:=O
  rw[ByteArray.toList.loop,XS c,ih (i+1) _ O];have f:i<b.data.toList.length:=by simpa using c
  rw[ZH f];simp[ByteArray.get!,c]
theorem Ik(b:XK):b.toList=b.data.toList:=by
 unfold ByteArray.toList;rw[Q0 b b.size 0 [] O];simp
theorem um:aA.cO a b=XX↔a=b:=by
 constructor
 .intro h;have h:=aA.Ej.1 h;rw[Ik,Ik] at h
  cases a;cases b
  simp at h;rw[h]
 .rintro rfl;exact aA.sV _
theorem ry:aA.cO a b=XW↔a≠b:=by
 cases h:aA.cO a b
 .simp;rintro rfl;rw[aA.sV] at h;cases h
 .simp;exact um.1 h
def nN(a:XK):Lit:=.string a.data.toList
def ki(n:N):Lit:=.int Y n
theorem Te(h:nN a=nN b):a=b:=by
 cases a;cases b
 simp[nN] at h;rw[h]
theorem Jv{a b:N}(h:ki a=ki b):a=b:=by simpa[ki] using h
theorem CG:Maps.Keyed prog 9:=Maps.string_keyed underlying9
theorem wW:Maps.Keyed prog 3:=Maps.int_keyed underlying3
theorem C5{s:XK}(h:s.size<=1000):keyOf prog 9 s=U (nN s):=by
 unfold keyOf mapKey;rw[underlying9];simp only;rw[XS XH];rfl
theorem xl{n:N}(m:-1000000000000<=n)(h:n<=1000000000000):keyOf prog 3 n=U (ki n):=by
 unfold keyOf mapKey;rw[underlying3];simp only;have f:Y.min=-9223372036854775808:=rfl;have c:Y.max=9223372036854775807:=rfl;have g:(Lit.int Y n).wf=XX:=by simp[Lit.wf,f,c];omega
 rw[XS ⟨trivial,g⟩];rfl
inductive bH where
 |desk|mt|me|wa|he|ent|span
 |bA (i:XP)
structure TG where
 name:XK
 aM:N
 tb:XP
 A:J XN->N
 T:aF.S
structure EG where
 e:aA.aO
 eb:XP
 B:XP
 cap:XP
 tb:XP
def kH(c:J TG)(name:XK):XM XP:=((c.map fun t=>(t.name,t.tb)).find? fun p=>aA.cO p.1 name).map (·.2)
def gW(c:J EG)(id:N):XM XP:=((c.map fun g=>(g.e.id,g.eb)).find? fun p=>decide (p.1=id)).map (·.2)
structure iF(w:XY)(g:EG):Prop where
 en:iE w g.eb g.e.id g.tb g.e.aM g.B g.cap g.e.aQ
 k:w.cell? (g.eb,1)=U ↑g.e.kind
 u:w.cell? (g.eb,5)=U ↑g.e.bP
 fz:∀ o,w.frozen? ⟨g.eb,o,XU⟩=XW
 bl:∃ cs,w.heap[g.eb]?=U (Yh cs 200 (0,0))
theorem iF.lt{g:EG}(h:iF w g):g.eb<w:=Yl _ _ h.k
theorem iF.off{g:EG}(h:iF w g)(k:aH G w w')(c:g.eb ∉ G)(f:g.B ∉ G):iF w' g :=
 ⟨h.en.off k c f,k.cell c h.k,k.cell c h.u,fun o=>(k.frozen c h.lt).trans (h.fz o),by let⟨cs,e⟩:=h.bl;exact⟨cs,(k.block _ h.lt c).trans e⟩⟩
def kr(b:XP):XZ:=b
structure Raw where
 now:N
 given:N
 tg:J TG
 eg:J EG
 wl:J XP
 hl:J Hp.Hi
structure DK(w:XY)(d:XP)(r:Raw)(aN:XP->XM bH):Prop where
 c0:w.cell? (d,0)=U (V Y r.now)
 c1:w.cell? (d,1)=U (V Y r.given)
 mt:∃ m f,w.cell? (d,2)=U (.map (U m))/\aN m=U .mt/\fO prog 9 w m r.tg.length f r.tg.length/\∀ name,f (nN name)=kH r.tg name
 me:∃ m f,w.cell? (d,3)=U (.map (U m))/\aN m=U .me/\fO prog 3 w m r.eg.length f r.eg.length/\∀ id,f (ki id)=gW r.eg id
 wa:∃ v,w.cell? (d,4)=U v/\w.ownsRow 0 197 1 v r.wl.length (r.wl.map kr)/\∀ b,v.ownBlock=U b->aN b=U .wa
 he:∃ v,HP w d 5 v r.hl/\∀ b,v.ownBlock=U b->aN b=U .he
 th:∀ (i:XP) (h:i<r.tg.length),∃ ul us Fl Fs,TH w r.tg[i].tb r.tg[i].name r.tg[i].aM r.tg[i].A r.tg[i].T ul us Fl Fs/\∀ k∈r.tg[i].tb :: (Fl++Fs),aN k=U (.bA i)
 en:∀ g∈r.eg,iF w g/\aN g.eb=U .ent/\aN g.B=U .span
 nd:(r.eg.map (·.eb)).Nodup
 ni:(r.eg.map (·.e.id)).Nodup
 fz:∀ o,w.frozen? ⟨d,o,XU⟩=XW
 dc:aN d=U .desk
 lt:∀ k c,aN k=U c->k<w
theorem DK.off{r:Raw}{aN:XP->XM bH}(h:DK w d r aN)(k:aH G w w')(E:∀ x∈G,aN x=XU):DK w' d r aN:=by
 have q:∀ {x:XP}{c:bH},aN x=U c->x ∉ G:=fun z A=>by rw[E _ A] at z;cases z
 have y:=q h.dc;refine⟨k.cell y h.c0,k.cell y h.c1,?_,?_,?_,?_,?_,?_,h.nd,h.ni,fun o=>(k.frozen y (h.lt d _ h.dc)).trans (h.fz o),h.dc,fun x c z=>zL (h.lt x c z) k.size⟩
 .let⟨m,f,a1,a2,a3,a4⟩:=h.mt;exact⟨m,f,k.cell y a1,a2,a3.block (k.block m (h.lt m _ a2) (q a2)),a4⟩
 .let⟨m,f,a1,a2,a3,a4⟩:=h.me;exact⟨m,f,k.cell y a1,a2,a3.block (k.block m (h.lt m _ a2) (q a2)),a4⟩
 .let⟨v,a1,a2,a3⟩:=h.wa;exact⟨v,k.cell y a1,cV a2 k (fun b C=>q (a3 b C)),a3⟩
 .let⟨v,a1,a2⟩:=h.he;exact⟨v,a1.off k y (fun b C=>q (a2 b C)),a2⟩
 .intro i D;let⟨ul,us,Fl,Fs,a1,a2⟩:=h.th i D;exact⟨ul,us,Fl,Fs,a1.off k (fun x z=>q (a2 x z)),a2⟩
 .intro g A;let⟨a1,a2,a3⟩:=h.en g A;exact⟨a1.off k (q a2) (q a3),a2,a3⟩
theorem DK.later{r:Raw}{aN:XP->XM bH}(h:DK w d r aN)(k:X0 w w w'):DK w' d r aN:=h.off (G:=[]) (aH.aD k) XA
structure Step(S:bH->Prop)(B:XP)(aN col':XP->XM bH)(w w':XY):Prop where
 off:∃ G,aH G w w'/\∀ x∈G,(∃ c,aN x=U c/\S c)\/(aN x=XU/\B<=x)
 hI:∀ k c,aN k=U c->col' k=U c
 new:∀ k c,col' k=U c->aN k=U c\/B<=k
theorem Step.refl(S:bH->Prop)(B:XP)(c:XP->XM bH)(w:XY):Step S B c c w w:=⟨⟨[],aH.refl _ _,by simp⟩,fun _ _ h=>h,fun _ _ h=>.inl h⟩
theorem Step.below{S:bH->Prop}{c:XP->XM bH}(h:X0 w w w'):Step S B c c w w':=⟨⟨[],aH.aD h,by simp⟩,fun _ _ h=>h,fun _ _ h=>.inl h⟩
theorem Step.size{S:bH->Prop}{f c:XP->XM bH}(h:Step S B f c w w'):w<=w'.heap.size:=by let⟨G,h1,_⟩:=h.off;exact h1.size
theorem Step.mono{S m:bH->Prop}{g f:XP->XM bH}(h:Step S B g f w w')(q:∀ c,S c->m c)(y:B'<=B):Step m B' g f w w':=by
 let⟨G,h1,h2⟩:=h.off;refine⟨⟨G,h1,fun x o=>?_⟩,h.hI,fun k c r=>(h.new k c r).imp id (fun e=>by omega)⟩;rcases h2 x o with ⟨c,a,b⟩|⟨a,b⟩
 .exact .inl ⟨c,a,q c b⟩
 .exact .inr ⟨a,O⟩
theorem Step.trans{S:bH->Prop}{o y r:XP->XM bH}{a b c:XY}(h:Step S B o y a b)(k:Step S B y r b c):Step S B o r a c:=by
 let⟨G,h1,h2⟩:=h.off;let⟨K,k1,k2⟩:=k.off;refine⟨⟨G++K,?_,fun x f=>?_⟩,fun x c f=>k.hI x c (h.hI x c f),fun x c f=>?_⟩
 .exact (h1.mono (fun x f=>by simp[f])).trans' k1 (fun x f=>.inl (by simp[f]))
 .rcases Yv.1 f with f|f
  .exact h2 x f
  .rcases k2 x f with ⟨c,g,m⟩|⟨g,m⟩
   .rcases h.new x c g with e|e
    .exact .inl ⟨c,e,m⟩
    .cases q:o x with
     |none=>exact .inr ⟨rfl,e⟩
     |some c' =>
      have:=h.hI x c' q;rw[g] at this
      cases this
      exact .inl ⟨c,rfl,m⟩
   .cases q:o x with
    |none=>exact .inr ⟨rfl,m⟩
    |some c'=>rw[h.hI x c' q] at g;cases g
 .rcases k.new x c f with e|e
  .exact h.new x c e
  .exact .inr e
theorem Step.kf{S:bH->Prop}{m g:XP->XM bH}(h:Step S B m g w w'){b:XP}{c:bH}(x:b<w)(o:m b=U c)(r:¬ S c):w'.heap[b]?=w.heap[b]?:=by
 let⟨G,h1,h2⟩:=h.off;refine h1.block b x (fun q=>?_);rcases h2 b q with ⟨z,f,y⟩|⟨f,_⟩
 .rw[o] at f;cases f;exact r y
 .rw[o] at f;cases f
theorem Step.cF{S:bH->Prop}{f c:XP->XM bH}(h:Step S B f c w w'){b:XP}(q:b<w)(o:f b=XU)(r:b<B):w'.heap[b]?=w.heap[b]?:=by
 let⟨G,h1,h2⟩:=h.off;refine h1.block b q (fun m=>?_);rcases h2 b m with ⟨y,g,x⟩|⟨_,e⟩
 .rw[o] at g;cases g
 .omega
theorem Step.oT{S:bH->Prop}{g f:XP->XM bH}(h:Step S B g f w w'){b o:XP}{c:bH}(r:g b=U c)(q:¬ S c)(m:w.cell? (b,o)=U v):w'.cell? (b,o)=U v :=
 (zo (w:=w) (h.kf (Yl _ _ m) r q)).trans m
def Left(S:bH->Prop)(B:XP)(f:XP->XM bH)(b:XP):Prop:=(∃ c,f b=U c/\¬ S c)\/(f b=XU/\b<B)
theorem Step.left{S:bH->Prop}{m g:XP->XM bH}(h:Step S B m g w w'):∃ G,aH G w w'/\∀ b,Left S B m b->b ∉ G:=by
 let⟨G,h1,h2⟩:=h.off;refine⟨G,h1,fun b y x=>?_⟩;rcases h2 b x with ⟨z,o,r⟩|⟨o,r⟩ <;> rcases y with ⟨c,f,q⟩|⟨f,q⟩
 .rw[o] at f;cases f;exact q r
 .rw[o] at f;cases f
 .rw[o] at f;cases f
 .omega
theorem Step.uG{S:bH->Prop}{c f:XP->XM bH}{g:EG}(h:Step S B c f w w')(m:iF w g)(q:Left S B c g.eb)(o:Left S B c g.B):iF w' g:=by
 let⟨G,a1,a2⟩:=h.left;exact m.off a1 (a2 _ q) (a2 _ o)
noncomputable def iA(f:XP->XM bH)(F:J XP)(c:bH)(k:XP):XM bH :=
 match f k with
 |some c'=>U c'
 |none=>@ite _ (k∈F) (Classical.propDecidable _) (U c) XU
theorem Eb{f:XP->XM bH}{c c':bH}(h:f k=U c'):iA f F c k=U c':=by unfold iA;rw[h]
theorem vq{f:XP->XM bH}{c:bH}(h:k∈F)(m:∀ g,f k=U g->g=c):iA f F c k=U c:=by
 unfold iA
 cases e:f k with
 |none=>simp only;rw[XS h]
 |some g=>simp only;rw[m g e]
theorem qg{f:XP->XM bH}{c m:bH}(h:iA f F c k=U m):f k=U m\/(f k=XU/\k∈F/\c=m):=by
 unfold iA at h
 cases e:f k with
 |none =>
  rw[e] at h;simp only at h
  by_cases g:k∈F
  .rw[XS g] at h;cases h;exact .inr ⟨rfl,g,rfl⟩
  .rw[XR g] at h;cases h
 |some c2=>rw[e] at h;exact .inl h
theorem vB{S:bH->Prop}{f:XP->XM bH}{c:bH}(k:aH G w w')(m:∀ x∈G,(∃ c,f x=U c/\S c)\/(f x=XU/\B<=x))(o:∀ x∈F,f x=XU->B<=x):Step S B f (iA f F c) w w' :=
 ⟨⟨G,k,m⟩,fun _ _ h=>Eb h,fun k c g=>by rcases qg g with e|⟨r,q,y⟩;exact .inl e;exact .inr (o k q r)⟩
def TG.with(t:TG)(A:J XN->N)(T:aF.S):TG:={ t with A:=A,T:=T }
def Raw.dU(r:Raw)(i:XP)(t:TG):Raw:={ r with tg:=r.tg.set i t }
theorem S6{c:J TG}(f:i<c.length)(A:J XN->N)(T:aF.S)(name:XK):kH (c.set i (c[i].with A T)) name=kH c name:=by
 unfold kH
 have e:(c.set i (c[i].with A T)).map (fun t=>(t.name,t.tb))=c.map fun t=>(t.name,t.tb):=by
  rw[List.map_set];have:((c[i].with A T).name,(c[i].with A T).tb)=(c.map fun t=>(t.name,t.tb))[i]'(by simpa using f):=by simp[TG.with]
  rw[this,List.set_getElem_self]
 rw[e]
theorem DK.base{S:bH->Prop}{r:Raw}{f c:XP->XM bH}(h:DK w d r f)(st:Step S B f c w w')(g:¬ S .desk):
  w'.cell? ⟨d,0,XU⟩=U (V Y r.now)/\w'.cell? ⟨d,1,XU⟩=U (V Y r.given)/\(∀ o,w'.frozen? ⟨d,o,XU⟩=XW)/\c d=U .desk/\∀ o,w'.cell? ⟨d,o,XU⟩=w.cell? ⟨d,o,XU⟩:=by
 have m:=st.kf (h.lt d _ h.dc) h.dc g;exact⟨st.oT h.dc g h.c0,st.oT h.dc g h.c1,fun o=>(ZJ (w:=w) m).trans (h.fz o),st.hI d _ h.dc,fun o=>zo m⟩
theorem DK.rI{S:bH->Prop}{r:Raw}{g c:XP->XM bH}(h:DK w d r g)(st:Step S B g c w w')(q:w'.cell? (d,2)=w.cell? (d,2))(o:¬ S .mt):
  ∃ m f,w'.cell? (d,2)=U (.map (U m))/\c m=U .mt/\fO prog 9 w' m r.tg.length f r.tg.length/\∀ name,f (nN name)=kH r.tg name:=by
 let⟨m,f,a1,a2,a3,a4⟩:=h.mt;exact⟨m,f,q.trans a1,st.hI m _ a2,a3.block (st.kf (h.lt m _ a2) a2 o),a4⟩
theorem DK.tc{S:bH->Prop}{r:Raw}{g c:XP->XM bH}(h:DK w d r g)(st:Step S B g c w w')(q:w'.cell? (d,3)=w.cell? (d,3))(o:¬ S .me):
  ∃ m f,w'.cell? (d,3)=U (.map (U m))/\c m=U .me/\fO prog 3 w' m r.eg.length f r.eg.length/\∀ id,f (ki id)=gW r.eg id:=by
 let⟨m,f,a1,a2,a3,a4⟩:=h.me;exact⟨m,f,q.trans a1,st.hI m _ a2,a3.block (st.kf (h.lt m _ a2) a2 o),a4⟩
theorem DK.rE{S:bH->Prop}{r:Raw}{f c:XP->XM bH}(h:DK w d r f)(st:Step S B f c w w')(o:w'.cell? (d,4)=w.cell? (d,4))(m:¬ S .wa):
  ∃ v,w'.cell? (d,4)=U v/\w'.ownsRow 0 197 1 v r.wl.length (r.wl.map kr)/\∀ b,v.ownBlock=U b->c b=U .wa:=by
 let⟨v,a1,a2,a3⟩:=h.wa;let⟨G,k,hG⟩:=st.left;exact⟨v,o.trans a1,cV a2 k (fun b g=>hG b (.inl ⟨_,a3 b g,m⟩)),fun b g=>st.hI b _ (a3 b g)⟩
theorem DK.rJ{S:bH->Prop}{r:Raw}{g f:XP->XM bH}(h:DK w d r g)(st:Step S B g f w w')(x:w'.cell? (d,5)=w.cell? (d,5))(q:w'.frozen? (d,5)=XW)(o:¬ S .he):
  ∃ v,HP w' d 5 v r.hl/\∀ b,v.ownBlock=U b->f b=U .he:=by
 let⟨v,a1,a2⟩:=h.he;let⟨G,k,hG⟩:=st.left;exact⟨v,⟨x.trans a1.c,cV a1.own k (fun b m=>hG b (.inl ⟨_,a2 b m,o⟩)),a1.ne,q⟩,fun b m=>st.hI b _ (a2 b m)⟩
theorem DK.qm{S:bH->Prop}{r:Raw}{f c:XP->XM bH}(h:DK w d r f)(st:Step S B f c w w')(i:XP)(z:i<r.tg.length)(y:¬ S (.bA i)):
  ∃ q o m g,TH w' r.tg[i].tb r.tg[i].name r.tg[i].aM r.tg[i].A r.tg[i].T q o m g/\∀ k∈r.tg[i].tb :: (m++g),c k=U (.bA i):=by
 let⟨q,o,m,g,a1,a2⟩:=h.th i z;let⟨G,k,hG⟩:=st.left;exact⟨q,o,m,g,a1.off k (fun b x=>hG b (.inl ⟨_,a2 b x,y⟩)),fun b x=>st.hI b _ (a2 b x)⟩
theorem DK.rV{S:bH->Prop}{r:Raw}{f c:XP->XM bH}(h:DK w d r f)(st:Step S B f c w w')(q:¬ S .ent)(m:¬ S .span):
  ∀ g∈r.eg,iF w' g/\c g.eb=U .ent/\c g.B=U .span:=by
 intro g o;let⟨a1,a2,a3⟩:=h.en g o;exact⟨st.uG a1 (.inl ⟨_,a2,q⟩) (.inl ⟨_,a3,m⟩),st.hI _ _ a2,st.hI _ _ a3⟩
theorem DK.bA{r:Raw}{g:XP->XM bH}(h:DK w d r g)(i:XP)(hi:i<r.tg.length)(I:∀ k∈r.tg[i].tb :: F,g k=U (.bA i)){A:J XN->N}{T:aF.S}(n:gB w w' r.tg[i].tb r.tg[i].name r.tg[i].aM A T F):
  ∃ y,DK w' d (r.dU i (r.tg[i].with A T)) y/\Step (·=.bA i) w g y w w':=by
 obtain⟨ul,us,P,K,R,t2⟩:=n.th
 have z:∀ k,w.heap.size<=k->g k=XU:=fun k o=>by
  cases e:g k with
  |none=>rfl
  |some c=>have:=h.lt k c e;omega
 have C:∀ k∈P++K,g k=U (.bA i)\/(g k=XU/\w<=k):=fun k o=>by
  rcases t2 k o with e|e
  .exact .inl (I k (by simp[e]))
  .exact .inr ⟨z k e,e⟩
 have st:Step (·=.bA i) w g (iA g (P++K) (.bA i)) w w':=vB n.off (fun x E=>.inl ⟨_,I x E,rfl⟩) (fun x E e=>by
  rcases C x E with q|q
  .rw[e] at q;cases q
  .exact q.2)
 refine⟨_,?_,st⟩;obtain⟨b1,b2,b3,b4,D⟩:=h.base st XA;refine⟨b1,b2,?_,h.tc st (D 3) XA,h.rE st (D 4) XA,h.rJ st (D 5) (b3 5) XA,?_,h.rV st XA XA,h.nd,h.ni,b3,b4,?_⟩
 .obtain⟨m,f,a1,a2,a3,a4⟩:=h.rI st (D 2) XA;have e:(r.dU i (r.tg[i].with A T)).tg.length=r.tg.length:=by simp[Raw.dU]
  exact⟨m,f,a1,a2,by rw[e];exact a3,fun name=>by rw[a4];exact (S6 hi A T name).symm⟩
 .intro j hj;have H:j<r.tg.length:=by simpa[Raw.dU] using hj
  by_cases e:j=i
  .subst e;have q:(r.dU j (r.tg[j].with A T)).tg[j]=r.tg[j].with A T:=by simp[Raw.dU]
   rw[q];refine⟨ul,us,P,K,R,fun k o=>?_⟩;rcases Yu.1 o with rfl|o
   .exact Eb (I r.tg[j].tb List.mem_cons_self)
   .refine vq o (fun c' W=>?_);rcases C k o with e|e
    .rw[W] at e;cases e;rfl
    .rw[W] at e;cases e.1
  .have q:(r.dU i (r.tg[i].with A T)).tg[j]=r.tg[j]:=by simp[Raw.dU,Ne.symm e]
   rw[q];exact h.qm st j H (by simpa using e)
 .intro k c o;rcases qg o with X|⟨X,h2,h3⟩
  .exact zL (h.lt k c X) st.size
  .exact R.lt k (by simp only[Yu];exact .inr h2)
structure Fit(t:TG)(e:aA.aO):Prop where
 ok:pN e.aQ
 bd:∀ p,0<=t.A p/\t.A p<=400000
 u1:1<=e.aM
 u2:e.aM<=9
 ll:e.aQ.length<=100
theorem DK.pair{r:Raw}{c:XP->XM bH}(h:DK w d r c)(i:XP)(q:i<r.tg.length){g:EG}(x:iF w g)(ht:g.tb=r.tg[i].tb)(z:c g.eb≠U (.bA i))(y:c g.B≠U (.bA i))(f:Fit r.tg[i] g.e):
  ∃ F,ze w r.tg[i].tb g.eb g.B g.cap r.tg[i].name r.tg[i].aM r.tg[i].A r.tg[i].T F g.e.id g.e.aM g.e.aQ/\∀ k∈r.tg[i].tb :: F,c k=U (.bA i):=by
 let⟨ul,us,Fl,Fs,a1,a2⟩:=h.th i q;refine⟨Fl++Fs,⟨⟨ul,us,Fl,Fs,a1,fun k o=>o⟩,by rw[<- ht];exact x.en,fun m=>z (a2 _ m),fun m=>y (a2 _ m),f.ok,f.bd,f.u1,f.u2,f.ll⟩,a2⟩
theorem Jc{r:Raw}{f:XP->XM bH}(h:DK w d r f)(i:XP)(o:i<r.tg.length){g:EG}(q:iF w g)(ht:g.tb=r.tg[i].tb)(z:f g.eb≠U (.bA i))(y:f g.B≠U (.bA i))(x:Fit r.tg[i] g.e)(m:lP (cS r.tg[i].A g.e.aQ g.e.aM) r.tg[i].aM g.e.aQ=XW):
  X4 prog 104 #[g.tb,g.eb] w fun e w'=>e=Yg XW/\∃ c,DK w' d r c/\Step (·=.bA i) w f c w w':=by
 let⟨F,p,hF⟩:=h.pair i o q ht z y x;rw[ht];refine aK (Rw w _ _ _ _ _ _ _ _ F _ _ _ p m) fun w' n=>?_;let⟨c,k1,k2⟩:=h.bA i o hF n;refine⟨rfl,c,?_,k2⟩
 have e:r.dU i (r.tg[i].with r.tg[i].A r.tg[i].T)=r:=by
  have C:r.tg[i].with r.tg[i].A r.tg[i].T=r.tg[i]:=rfl;unfold Raw.dU;rw[C,List.set_getElem_self]
 rw[e] at k1;exact k1
theorem Ke{r:Raw}{c:XP->XM bH}(h:DK w d r c)(i:XP)(o:i<r.tg.length){g:EG}(x:iF w g)(ht:g.tb=r.tg[i].tb)(C:c g.eb≠U (.bA i))(z:c g.B≠U (.bA i))(y:Fit r.tg[i] g.e)(q:zv r.tg[i].T g.e.id g.e.aQ)(m:lP (cS r.tg[i].A g.e.aQ g.e.aM) r.tg[i].aM g.e.aQ=XX):
  X4 prog 104 #[g.tb,g.eb] w fun e w'=>e=Yg XX/\∃ f,DK w' d (r.dU i (r.tg[i].with (cS r.tg[i].A g.e.aQ g.e.aM) (ia g.e.id g.eb r.tg[i].T g.e.aQ))) f/\Step (·=.bA i) w c f w w':=by
 let⟨F,p,hF⟩:=h.pair i o x ht C z y;rw[ht];refine aK (S3 w _ _ _ _ _ _ _ _ F _ _ _ p q m) fun w' n=>?_;exact⟨rfl,h.bA i o hF n⟩
theorem WC{r:Raw}{c:XP->XM bH}(h:DK w d r c)(i:XP)(m:i<r.tg.length){g:EG}(x:iF w g)(ht:g.tb=r.tg[i].tb)(D:c g.eb≠U (.bA i))(C:c g.B≠U (.bA i))(y:Fit r.tg[i] g.e)(q:aF.Ord (aF.cH r.tg[i].T))(o:aF.size r.tg[i].T<=9000)(z:∀ p,0<=cS r.tg[i].A g.e.aQ (-g.e.aM) p):
  X4 prog 205 #[g.tb,g.eb] w fun e w'=>e=Yg (Yc #[])/\∃ f,DK w' d (r.dU i (r.tg[i].with (cS r.tg[i].A g.e.aQ (-g.e.aM)) (ku g.e.id r.tg[i].T g.e.aQ))) f/\Step (·=.bA i) w c f w w':=by
 let⟨F,p,hF⟩:=h.pair i m x ht D C y;rw[ht];refine aK (Wn w _ _ _ _ _ _ _ _ F _ _ _ p q o z) fun w' n=>?_;exact⟨rfl,h.bA i m hF n⟩
theorem DK.heap{r:Raw}{f:XP->XM bH}(h:DK w d r f)(q:∀ b,v.ownBlock=U b->f b=U .he){A:J Hp.Hi}(p:mz w d 5 v A w'):
  ∃ g,DK w' d { r with hl:=A } g/\Step (fun c=>c=.he\/c=.desk) w f g w w':=by
 let⟨v',p1,p2,p3,p4,p5⟩:=p
 have st:Step (fun c=>c=.he\/c=.desk) w f (iA f v'.ownBlock.toList .he) w w':=by
  refine vB p3 (fun x m=>?_) (fun x m e=>?_)
  .rcases Yu.1 m with rfl|m
   .exact .inl ⟨_,h.dc,.inr rfl⟩
   .exact .inl ⟨_,q x (ZL.1 m),.inl rfl⟩
  .rcases p2 x (ZL.1 m) with z|z
   .rw[q x z] at e;cases e
   .exact z
 refine⟨_,?_,st⟩;refine⟨(p4 0 O).trans h.c0,(p4 1 O).trans h.c1,h.rI st (p4 2 O) XA,h.tc st (p4 3 O) XA,h.rE st (p4 4 O) XA,⟨v',p1,fun b C=>?_⟩,fun i H=>h.qm st i H XA,h.rV st XA XA,h.nd,h.ni,fun o=>(p5 o).trans (h.fz o),st.hI d _ h.dc,fun k c E=>?_⟩
 .refine vq (ZL.2 C) (fun P y=>?_);rcases p2 b C with e|e
  .rw[q b e] at y;cases y;rfl
  .have:=h.lt b _ y;omega
 .rcases qg E with D|⟨D,I,K⟩
  .exact zL (h.lt k c D) st.size
  .have:=p1.own.lt k (ZL.1 I);exact this.2
theorem DK.oy{r:Raw}{f:XP->XM bH}(h:DK w d r f)(n:N):DK (w.setCell (d,0) n) d { r with now:=n } f/\Step (·=.desk) w f f w (w.setCell (d,0) n):=by
 have st:Step (·=.desk) w f f w (w.setCell (d,0) n):=⟨⟨[d],aH.bD ..,fun x m=>.inl ⟨_,by simp at m;subst m;exact h.dc,rfl⟩⟩,fun _ _ h=>h,fun _ _ h=>.inl h⟩;have g:∀ o,o≠0->(w.setCell (d,0) n).cell? (d,o)=w.cell? (d,o):=fun o g=>aZ (by have:=g;simp)
 exact⟨⟨zm _ _ _ h.c0,(g 1 O).trans h.c1,h.rI st (g 2 O) XA,h.tc st (g 3 O) XA,h.rE st (g 4 O) XA,h.rJ st (g 5 O) ((zF ..).trans (h.fz 5)) XA,fun i y=>h.qm st i y XA,h.rV st XA XA,h.nd,h.ni,fun o=>(zF ..).trans (h.fz o),h.dc,fun k c q=>zL (h.lt k c q) st.size⟩,st⟩
theorem DK.oA{r:Raw}{f:XP->XM bH}(h:DK w d r f)(n:N):DK (w.setCell (d,1) n) d { r with given:=n } f/\Step (·=.desk) w f f w (w.setCell (d,1) n):=by
 have st:Step (·=.desk) w f f w (w.setCell (d,1) n):=⟨⟨[d],aH.bD ..,fun x m=>.inl ⟨_,by simp at m;subst m;exact h.dc,rfl⟩⟩,fun _ _ h=>h,fun _ _ h=>.inl h⟩;have g:∀ o,o≠1->(w.setCell (d,1) n).cell? (d,o)=w.cell? (d,o):=fun o g=>aZ (by have:=g;simp)
 exact⟨⟨(g 0 O).trans h.c0,Yy _ _ _ h.c1,h.rI st (g 2 O) XA,h.tc st (g 3 O) XA,h.rE st (g 4 O) XA,h.rJ st (g 5 O) ((zF ..).trans (h.fz 5)) XA,fun i y=>h.qm st i y XA,h.rV st XA XA,h.nd,h.ni,fun o=>(zF ..).trans (h.fz o),h.dc,fun k c q=>zL (h.lt k c q) st.size⟩,st⟩
theorem DK.jS{r:Raw}{g:XP->XM bH}(h:DK w d r g)(E:∀ b,v.ownBlock=U b->g b=U .wa){wl':J XP}(k:aH v.ownBlock.toList w w1)(H:w1.ownsRow 0 197 1 v' wl'.length (wl'.map kr))(y:∀ b,v'.ownBlock=U b->v.ownBlock=U b\/w<=b):
  ∃ m,DK (w1.setCell (d,4) v') d { r with wl:=wl' } m/\Step (fun c=>c=.wa\/c=.desk) w g m w (w1.setCell (d,4) v'):=by
 have D:d ∉ v.ownBlock.toList:=fun e=>by have:=E d (ZL.1 e);rw[h.dc] at this;cases this
 have K:=h.lt d _ h.dc;have q:w1.heap[d]?=w.heap[d]?:=k.block d K D;have T:aH (d :: v.ownBlock.toList) w (w1.setCell (d,4) v'):=(k.mono (by simp +contextual)).setCell (.inl XA) _ _
 have st:Step (fun c=>c=.wa\/c=.desk) w g (iA g v'.ownBlock.toList .wa) w (w1.setCell (d,4) v'):=by
  refine vB T (fun x A=>?_) (fun x A e=>?_)
  .rcases Yu.1 A with rfl|A
   .exact .inl ⟨_,h.dc,.inr rfl⟩
   .exact .inl ⟨_,E x (ZL.1 A),.inl rfl⟩
  .rcases y x (ZL.1 A) with R|R
   .rw[E x R] at e;cases e
   .exact R
 have f:∀ o,o≠4->(w1.setCell (d,4) v').cell? (d,o)=w.cell? (d,o):=fun o H=>(aZ (by have:=H;simp)).trans (zo q)
 have C:∀ o,(w1.setCell ⟨d,4,XU⟩ v').frozen? ⟨d,o,XU⟩=w.frozen? ⟨d,o,XU⟩:=fun o=>(zF ..).trans (ZJ q)
 let⟨v0,c4,_⟩:=h.wa
 have I:∀ b,v'.ownBlock=U b->b≠d:=fun b z e=>by
  subst e;rcases y b z with e|e
  .exact D (ZL.2 e)
  .omega
 refine⟨_,⟨(f 0 O).trans h.c0,(f 1 O).trans h.c1,h.rI st (f 2 O) XA,h.tc st (f 3 O) XA,⟨v',Yy _ _ _ ((zo (w:=w) q).trans c4),cV H (aH.bD d _ 4 _) (fun b z=>by simpa using I b z),fun b z=>?_⟩,h.rJ st (f 5 O) ((C 5).trans (h.fz 5)) XA,fun i X=>h.qm st i X XA,h.rV st XA XA,h.nd,h.ni,fun o=>(C o).trans (h.fz o),st.hI d _ h.dc,fun x c W=>?_⟩,st⟩
 .refine vq (ZL.2 z) (fun c' P=>?_);rcases y b z with e|e
  .rw[E b e] at P;cases P;rfl
  .have:=h.lt b _ P;omega
 .rcases qg W with S|⟨S,h2,h3⟩
  .exact zL (h.lt x c S) st.size
  .have:=H.lt x (ZL.1 h2)
   simpa using this.2
def gg(id kind bP:N)(c:J EG):J EG:=c.map fun g=>if g.e.id=id then { g with e:={ g.e with kind:=kind,bP:=bP } } else g
theorem SM(id c f:N)(h:J EG):(gg id c f h).map (·.eb)=h.map (·.eb):=by
 unfold gg;rw[List.map_map];apply List.map_congr_left;intro g _;simp only[Function.comp];split <;> rfl
theorem SN(id c f:N)(h:J EG):(gg id c f h).map (·.e.id)=h.map (·.e.id):=by
 unfold gg;rw[List.map_map];apply List.map_congr_left;intro g _;simp only[Function.comp];split <;> rfl
theorem JF(id c f:N)(h:J EG)(x:N):gW (gg id c f h) x=gW h x:=by
 have e:(gg id c f h).map (fun g=>(g.e.id,g.eb))=h.map fun g=>(g.e.id,g.eb):=by
  unfold gg;rw[List.map_map];apply List.map_congr_left;intro g _;simp only[Function.comp];split <;> rfl
 unfold gW;rw[e]
theorem Uo(id c f:N)(g:J EG):(gg id c f g).length=g.length:=by unfold gg;simp
theorem pA{α β:Type}(f:α->β):∀ {l:J α},(l.map f).Nodup->∀ {x y:α},x∈l->y∈l->f x=f y->x=y
 |[],_,_,_,hx,_,_=>by simp at hx
 |a :: l,h,x,y,hx,hy,e=>by
  rw[List.map_cons,Yx] at h;rcases Yu.1 hx with o|g <;> rcases Yu.1 hy with m|c
  .rw[o,m]
  .exact XT (Zh.2 ⟨y,c,by rw[<- e,o]⟩) h.1
  .exact XT (Zh.2 ⟨x,g,by rw[e,m]⟩) h.1
  .exact pA f h.2 g c e
theorem DK.s7{r:Raw}{z:XP->XM bH}(h:DK w d r z){g:EG}(H:g∈r.eg)(q A:N):
  DK ((w.setCell (g.eb,1) q).setCell (g.eb,5) A) d { r with eg:=gg g.e.id q A r.eg } z/\Step (·=.ent) w z z w ((w.setCell (g.eb,1) q).setCell (g.eb,5) A):=by
 let⟨g1,g2,g3⟩:=h.en g H;have k:aH [g.eb] w ((w.setCell (g.eb,1) q).setCell (g.eb,5) A):=((aH.refl [g.eb] w).setCell (.inl XA) _ _).setCell (.inl XA) _ _;have st:Step (·=.ent) w z z w ((w.setCell (g.eb,1) q).setCell (g.eb,5) A):=⟨⟨_,k,fun x C=>.inl ⟨_,by simp at C;subst C;exact g2,rfl⟩⟩,fun _ _ h=>h,fun _ _ h=>.inl h⟩;let⟨b1,b2,b3,b4,b5⟩:=h.base st XA;refine⟨⟨b1,b2,h.rI st (b5 2) XA,?_,h.rE st (b5 4) XA,h.rJ st (b5 5) (b3 5) XA,fun i K=>h.qm st i K XA,?_,by rw[SM];exact h.nd,by rw[SN];exact h.ni,b3,b4,fun x c C=>zL (h.lt x c C) st.size⟩,st⟩
 .let⟨m,f,a1,a2,a3,a4⟩:=h.tc st (b5 3) XA;exact⟨m,f,a1,a2,by rw[Uo];exact a3,fun id=>by rw[a4,JF]⟩
 .intro x C;obtain⟨y,D,rfl⟩:=Zh.1 C;let⟨y1,y2,y3⟩:=h.en y D
  by_cases e:y.e.id=g.e.id
  .have:y=g:=pA _ h.ni D H e;subst this;rw[XS rfl];have I:y.B≠y.eb:=fun e=>by rw[e,y2] at y3;cases y3
   refine⟨⟨⟨?_,?_,?_,?_,y1.en.sl.off k (by simpa using I),Zg y1.en.lt k.size⟩,?_,?_,fun o=>?_,?_⟩,y2,y3⟩
   .exact (aZ XA).trans ((aZ XA).trans y1.en.c0)
   .exact (aZ XA).trans ((aZ XA).trans y1.en.c1)
   .exact (aZ XA).trans ((aZ XA).trans y1.en.c2)
   .exact (aZ XA).trans ((aZ XA).trans y1.en.c3)
   .exact (aZ XA).trans (zm _ _ _ y1.k)
   .exact zm _ _ _ ((aZ XA).trans y1.u)
   .exact (zF ..).trans ((zF ..).trans (y1.fz o))
   .let⟨cs,e⟩:=y1.bl;exact⟨_,heap_setCell_same _ _ _ _ _ _ (heap_setCell_same _ _ _ _ _ _ e)⟩
  .rw[XR e];have E:y.eb≠g.eb:=fun P=>e (by rw[pA _ h.nd D H P])
   have I:y.B≠g.eb:=fun e=>by rw[e,g2] at y3;cases y3
   exact⟨y1.off k (by simpa using E) (by simpa using I),y2,y3⟩
def fJ(id:N)(c:J EG):J EG:=c.filter fun g=>g.e.id != id
theorem px{c:J EG}:gW c id=((c.find? fun g=>decide (g.e.id=id)).map (·.eb)):=by
 unfold gW;rw[List.find?_map]
 cases h:c.find? ((fun p=>decide (p.1=id)) ∘ fun g=>(g.e.id,g.eb)) with
 |none=>have f:c.find? (fun g=>decide (g.e.id=id))=XU:=h;rw[f];rfl
 |some g=>have f:c.find? (fun g=>decide (g.e.id=id))=U g:=h;rw[f];rfl
theorem Kf{c:J EG}(m:(c.map (·.e.id)).Nodup){g:EG}(f:g∈c):gW c g.e.id=U g.eb:=by
 rw[px]
 cases h:c.find? fun x=>decide (x.e.id=g.e.id) with
 |none =>
  have:=List.find?_eq_none.1 h g f;simp at this
 |some x =>
  have q:=List.mem_of_find?_eq_some h;have o:=List.find?_some h;have:x=g:=pA _ m q f (by simpa using o);rw[this];rfl
theorem Ef{c:J EG}(h:∀ g∈c,g.e.id≠id):gW c id=XU:=by
 rw[px];have:c.find? (fun g=>decide (g.e.id=id))=XU:=List.find?_eq_none.2 (fun g f=>by simpa using h g f);rw[this];rfl
theorem Do{c:J EG}{b:XP}(h:gW c id=U b):∃ g∈c,g.e.id=id/\g.eb=b:=by
 rw[px] at h
 cases e:c.find? fun x=>decide (x.e.id=id) with
 |none=>rw[e] at h;cases h
 |some x =>
  rw[e] at h;refine⟨x,List.mem_of_find?_eq_some e,by simpa using List.find?_some e,by simpa using h⟩
theorem Jd{c:J EG}(h:gW c id=XU):∀ g∈c,g.e.id≠id:=by
 rw[px] at h;intro g m e
 cases f:c.find? fun x=>decide (x.e.id=id) with
 |none =>
  have:=List.find?_eq_none.1 f g m;simp[e] at this
 |some x=>rw[f] at h;cases h
theorem Jt{eg:J EG}(m:(eg.map (·.e.id)).Nodup)(id x:N):gW (fJ id eg) x=if x=id then XU else gW eg x:=by
 by_cases e:x=id
 .subst e;rw[XS rfl];exact Ef (fun g c=>by simpa using (List.mem_filter.1 c).2)
 .rw[XR e]
  cases h:gW eg x with
  |none=>exact Ef (fun g c=>Jd h g ((List.mem_filter.1 c).1))
  |some b =>
   let⟨g,c,e1,e2⟩:=Do h;have f:((fJ id eg).map (·.e.id)).Nodup:=YN (List.filter_sublist.map _) m;have o:g∈fJ id eg:=List.mem_filter.2 ⟨c,by simpa[e1] using e⟩;rw[<- e1,Kf f o,e2]
theorem Ul{eg:J EG}(m:(eg.map (·.e.id)).Nodup)(id:N):(fJ id eg).length=eg.length-if (gW eg id).isSome then 1 else 0:=by
 induction eg with
 |nil=>simp[fJ]
 |cons g eg ih =>
  rw[List.map_cons,Yx] at m;have ih:=ih m.2
  by_cases e:g.e.id=id
  .have q:∀ x∈eg,x.e.id≠id:=fun x f c=>m.1 (Zh.2 ⟨x,f,by rw[e,c]⟩)
   have o:fJ id (g :: eg)=eg:=by
    unfold fJ;rw[YK,XR (by simp[e])];exact List.filter_eq_self.2 (fun x f=>by simpa using q x f)
   have c:(gW (g :: eg) id).isSome=XX:=by rw[px,List.find?_cons];simp[e]
   rw[o,c];simp
  .have o:fJ id (g :: eg)=g :: fJ id eg:=by unfold fJ;rw[YK,XS (by simpa using e)]
   have c:gW (g :: eg) id=gW eg id:=by rw[px,px,List.find?_cons];simp[e]
   rw[o,c,Y0,Y0,ih]
   have:(if (gW eg id).isSome then 1 else 0)<=eg.length:=by
    split
    .rename_i h
     cases eg with
     |nil=>rw[px] at h;simp at h
     |cons _ _=>simp
    .omega
   omega
theorem DK.wE{r:Raw}{o:XP->XM bH}(h:DK w d r o){m:XP}{f:Lit->XM XP}(E:w.cell? (d,3)=U (.map (U m)))(A:o m=U .me)(C:∀ id,f (ki id)=gW r.eg id)(id:N)(p:fO prog 3 w' m r.eg.length (Go.Proofs.YtfigmlfdnickmaaGreatDoor.mC f (ki id) XU) (r.eg.length-if (f (ki id)).isSome then 1 else 0))(q:w.grownBy w' (U m)):
  DK w' d { r with eg:=fJ id r.eg } o/\Step (·=.me) w o o w w':=by
 have k:aH [m] w w':=⟨q.os,q.tape,q.output,q.size,fun i z D=>q.block i z (by simpa using D)⟩;have st:Step (·=.me) w o o w w':=⟨⟨_,k,fun x y=>.inl ⟨_,by simp at y;subst y;exact A,rfl⟩⟩,fun _ _ h=>h,fun _ _ h=>.inl h⟩;let⟨b1,b2,b3,b4,b5⟩:=h.base st XA;refine⟨⟨b1,b2,h.rI st (b5 2) XA,⟨m,mC f (ki id) XU,(b5 3).trans E,A,?_,fun x=>?_⟩,h.rE st (b5 4) XA,h.rJ st (b5 5) (b3 5) XA,fun i z=>h.qm st i z XA,fun g q=>h.rV st XA XA g ((List.mem_filter.1 q).1),YN (List.filter_sublist.map _) h.nd,YN (List.filter_sublist.map _) h.ni,b3,b4,fun x c y=>zL (h.lt x c y) st.size⟩,st⟩
 .have e:=Ul h.ni id;rw[C] at p;show fO _ _ _ _ (fJ id r.eg).length _ (fJ id r.eg).length;rw[e];exact p.tight
 .show mC f (ki id) XU (ki x)=gW (fJ id r.eg) x;rw[Jt h.ni]
  by_cases e:x=id
  .rw[e,uu,XS rfl]
  .rw[ux f _ (fun H=>e (Jv H)),XR e,C]
theorem JI{c:J EG}{g:EG}(f:∀ x∈c,x.e.id≠g.e.id)(x:N):gW (c++[g]) x=if x=g.e.id then U g.eb else gW c x:=by
 by_cases e:x=g.e.id
 .rw[XS e,px,List.find?_append];have:c.find? (fun y=>decide (y.e.id=x))=XU:=List.find?_eq_none.2 (fun y m=>by simpa[e] using f y m);rw[this];simp[e]
 .rw[XR e,px,px,List.find?_append]
  cases h:c.find? fun y=>decide (y.e.id=x) with
  |none=>simp[Ne.symm e]
  |some y=>simp
theorem uw{c:J TG}:kH c name=((c.find? fun t=>aA.cO t.name name).map (·.tb)):=by
 unfold kH;rw[List.find?_map]
 cases h:c.find? ((fun p=>aA.cO p.1 name) ∘ fun t=>(t.name,t.tb)) with
 |none=>have f:c.find? (fun t=>aA.cO t.name name)=XU:=h;rw[f];rfl
 |some g=>have f:c.find? (fun t=>aA.cO t.name name)=U g:=h;rw[f];rfl
theorem Uw{c:J TG}{t:TG}(f:∀ x∈c,x.name≠t.name)(name:XK):kH (c++[t]) name=@ite _ (name=t.name) (Classical.propDecidable _) (U t.tb) (kH c name):=by
 by_cases e:name=t.name
 .rw[XS e,uw,List.find?_append];have:c.find? (fun y=>aA.cO y.name name)=XU:=List.find?_eq_none.2 (fun y g=>by rw[Bool.not_eq_true,ry,e];exact f y g);rw[this];have:aA.cO t.name name=XX:=um.2 e.symm;simp[this]
 .rw[XR e,uw,uw,List.find?_append]
  cases h:c.find? fun y=>aA.cO y.name name with
  |none =>
   have:aA.cO t.name name=XW:=ry.2 (Ne.symm e);simp[this]
  |some y=>simp
theorem Kc{r:Raw}{m:XP->XM bH}(h:DK w d r m)(y:Hp.gO r.hl)(hl:r.hl.length<=1000)(t n:N)(q:∃ x∈r.hl,x.t=t/\x.n=n):
  X4 prog 149 #[X8 (U ⟨d,5,XU⟩),t,n] w fun e w'=>e=Yg (Yc #[])/\∃ (x:Hp.Hi) (g:J Hp.Hi) (f:XP->XM bH),x.t=t/\x.n=n/\Hp.gO g/\r.hl.Perm (x :: g)/\DK w' d { r with hl:=g } f/\Step (fun c=>c=.he\/c=.desk) w m f w w':=by
 let⟨v,a1,a2⟩:=h.he;refine aK (Uk d 5 v r.hl t n w a1 y hl) fun w' o=>?_;refine⟨rfl,?_⟩;rcases o with ⟨o,_⟩|⟨x,g,D,C,p,A,z⟩
 .let⟨x,hx1,hx2⟩:=q;exact XT hx2 (o x hx1)
 .let⟨f,k1,k2⟩:=h.heap a2 p;exact⟨x,g,f,D,C,A,z,k1,k2⟩
def zV(c:bH):Prop:=c=.he\/c=.desk\/c=.ent
def Es(w:XY)(d:XP)(r:Raw)(h:XP->XM bH)(g:EG)(w':XY):Prop :=
 ∃ (x:Hp.Hi) (f:J Hp.Hi) (c:XP->XM bH),x.t=g.e.bP/\x.n=g.e.id/\Hp.gO f/\r.hl.Perm (x :: f)/\DK w' d { r with eg:=gg g.e.id 1 0 r.eg,hl:=f } c/\Step zV w h c w w'
theorem KE{r:Raw}{m:XP->XM bH}(h:DK w d r m)(X:Hp.gO r.hl)(W:r.hl.length<=1000){g:EG}(I:g∈r.eg)(T:∃ x∈r.hl,x.t=g.e.bP/\x.n=g.e.id):
  X4 prog 105 #[d,g.eb] w fun e w'=>e=Yg (Yc #[])/\Es w d r m g w':=by
 let⟨g1,g2,g3⟩:=h.en g I;have P:=g1.en.c0;have K:=g1.u;have R:=aC (fun wx (k:X0 w w wx)=>Kc (h.later k) X W g.e.bP g.e.id T);have D:=aC (Yz I g2);clear h g3
 go_in
 go_upto_region 0 with fail
 go_region_held3 (fun w'=>w'.cell? (g.eb,0)=U ↑g.e.id/\w'.cell? (g.eb,5)=U ↑g.e.bP)
  (first
   |exact⟨P,K⟩
   |exact⟨((o.en g D.1).1).en.c0,((o.en g D.1).1).u⟩)
  (first
   |(go_at_call 149;refine aK (R _ (dV w)) ?_;rintro w4 ⟨x,S,f,C,A,z,y,o,q⟩))
 let⟨q1,q2,q3⟩:=o.en g D.1;have d1:=q1.k;have d5:=q1.u;have f1:=q1.fz 1;have f5:=q1.fz 5;have SE:=aC (o.s7 (g:=g) D.1 1 0);have KK:=aC (Yz C (Yz A (Yz z (Yz y q))));clear q1 q2 q3 C A z y o q R P K
 go_wp21
 go_end0
 let⟨C,A,z,y,q⟩:=KK;let⟨s1,s2⟩:=SE;refine⟨rfl,(⟨x,S,f,C,A,z,y,s1,?_⟩:Es _ _ _ _ _ _)⟩;have H:Step zV w m f w w4:=(Step.below (dV w)).trans (q.mono (fun c E=>by unfold zV;rcases E with e|e;exact .inl e;exact .inr (.inl e)) aI);exact H.trans (s2.mono (fun c E=>.inr (.inr E)) H.size)
theorem Wu(eb:XP)(f:N)(w:XY)(c:w.cell? (eb,1)=U ↑f):
  X4 prog 107 #[eb] w fun e w'=>e=Yg (f==1)/\w'=w:=by
 go_in
 go_wp21
 go_ret;exact⟨rfl,rfl⟩
theorem Ig:(prog.info? 200).map (fun i=>i.size)=U 6:=XF
theorem Qp(w:XY)(a b:XP)(g:∃ cs,w.heap[a]?=U (Yh cs 200 (0,0)))(f:∃ cs,w.heap[b]?=U (Yh cs 200 (0,0))):
  (binOp .eql 197 b a).run prog w=.ok (b==a) w:=by
 obtain⟨j,c⟩:∃ j,prog.info? 200=U j:=by
  cases h:prog.info? 200 with
  |none=>have:=Ig;rw[h] at this;cases this
  |some j=>exact⟨j,rfl⟩
 have m:j.size≠0:=by
  have:=Ig;rw[c] at this;simp at this;omega
 by_cases e:b=a
 .subst e;rw[run_eql_ptr_same w _ underlying197 c];simp
 .obtain⟨o,g⟩:=g;obtain⟨cb,f⟩:=f;rw[run_eql_ptr_other w (a:=⟨b,0,XU⟩) (b:=⟨a,0,XU⟩) underlying197 c m (by have:=e;simp) f g];simp[e]
theorem UZ(A a b:XP)(w:XY)(c:w.cell? (A,0)=U ↑a)(g:∃ cs,w.heap[a]?=U (Yh cs 200 (0,0)))(f:∃ cs,w.heap[b]?=U (Yh cs 200 (0,0))):
  X4 prog 206 #[b,A] w fun e w'=>e=Yg (b==a)/\w'=w:=by
 have h:=Qp w a b g f;clear g f
 go_in
 go_wp21
 go_ret;exact⟨rfl,rfl⟩
theorem VH{c:XP}{e:TypeId}{g:XP}(h:w.ownsRow c e 1 (X9 g n cap) n xs)(D:i<=n):w.ownsRow c e 1 (X9 g i cap) i (xs.take i):=by
 let⟨h1,h2⟩:=h;refine⟨by rw[List.length_take];omega,?_⟩;rcases h2 with ⟨A,_⟩|⟨E,r,q,x,z,y,C,m,o,f⟩
 .cases A
 .cases x
  refine .inr ⟨g,cap,q,rfl,z,y,O,m,o,?_⟩;rw[<- f,List.take_take]
  congr 1
  omega
theorem LY{c:XP}{e:TypeId}{g n cap:XP}{xs:J XZ}:∀ (f:J XZ)(o:XP)(w:XY),n<=o->w.ownsRow c e 1 (X9 g n cap) n xs->(w.setCells g o f).ownsRow c e 1 (X9 g n cap) n xs
 |[],_,_,_,h=>h
 |v :: r,o,w,ho,h=>by
  refine LY r (o+1) _ O ?_;have:=(h.stored o v).1
  rwa [List.set_eq_of_length_le (by have:=h.1;omega)] at this
theorem LO{g:XP}:∀ (c:J XZ)(o:XP)(w:XY),aH [g] w (w.setCells g o c)
 |[],_,_=>aH.refl _ _
 |v :: r,o,w=>(aH.bD g w o v).trans (LO r (o+1) _)
structure pU(L:J XP)(p:XP->XN)(i j:XP)(M:J XP):Prop where
 len:M.length=L.length
 ij:i<j
 jl:j<=L.length
 lo:M.take i=(L.take j).filter fun b=>!p b
 hi:∀ k,j<=k->M[k]?=L[k]?
theorem pU.skip{L:J XP}(h:pU L p i j M)(f:j<L.length)(c:p L[j]=XX):pU L p i (j+1) M:=by
 refine⟨h.len,by have:=h.ij;omega,O,?_,fun k g=>h.hi k O⟩;rw[h.lo,Zc f,YJ];simp[c]
theorem pU.hI{L:J XP}(h:pU L p i j M)(g:j<L.length)(c:p L[j]=XW):pU L p (i+1) (j+1) (M.set i L[j]):=by
 have m:=h.ij;have f:=h.len;refine⟨by simpa using f,O,O,?_,fun k o=>?_⟩
 .rw[Zc g,YJ,<- h.lo,Zc XG,List.take_set_of_le aI];simp[c]
 .rw[List.getElem?_set_ne O];exact h.hi k O
theorem pU.new{L:J XP}(h:k<L.length)(g:p L[k]=XX)(o:∀ (j:XP)(f:j<k),p (L[j]'Xz)=XW):pU L p k (k+1) L:=by
 refine⟨rfl,O,O,?_,fun _ _=>rfl⟩;rw[Zc h,YJ];simp only[g,YK,Yq,Yr,if_false,List.filter_nil,List.append_nil];refine (List.filter_eq_self.2 (fun b m=>?_)).symm;obtain⟨j,f,rfl⟩:=List.getElem_of_mem m;have c:j<k:=by rw[List.length_take] at f;omega
 simp[o j c]
def FB(fn:XP)(cs:J XZ):Prop:=(fn=107/\cs=[])\/(fn=206/\∃ A:XP,cs=[X8 (U ⟨A,0,XU⟩)])
def FM(fn:XP)(cs:J XZ)(w:XY)(L:J XP)(p:XP->XN):Prop :=
 ∀ b∈L,X4 prog fn (X8 (U ⟨b,0,XU⟩) :: cs).toArray w fun e w'=>e=Yg (p b)/\w'=w
theorem MX(K:FB fn cs)(L:J XP)(p:XP->XN)(v:XZ)(w:XY)(ht:FM fn cs w L p)(own:w.ownsRow 0 197 1 v L.length (L.map kr))(R:L.length<=1000):
  X4 prog 160 #[v,.func (.func fn) #[] cs.toArray] w fun e w'=>e=Yg (V Y (fI p L 0))/\w'=w:=by
 have E:∃ a cap,v=X9 a L.length cap:=by
  rcases own.2 with ⟨rfl,h⟩|⟨g,cap,_,rfl,_⟩
  .rw[h];exact⟨_,_,rfl⟩
  .exact⟨_,_,rfl⟩
 obtain⟨a,cap,rfl⟩:=E;have q:=aC own;have P:=aC ht;clear own ht;rcases K with ⟨rfl,rfl⟩|⟨rfl,A,rfl⟩
 all_goals
  go_in
  go_wp21
  go_loop [8] (fun i=>∃ k:XP,k<=L.length/\i=V Y k/\fI p L 0=fI p (L.drop k) k) (fun i=>L.length-(intOf i).toNat)
  .exact⟨0,Zd _,rfl,rfl⟩
  .obtain⟨j,S,rfl,z⟩:=hrel;have y:=aC z;clear z
   by_cases c:j<L.length
   .have I:(j:N)<(L.length:N):=O
    let⟨H,cap',e1⟩:=Joins.ownsRow_form q O;simp only[Value.slice.injEq,true_and] at e1;obtain⟨rfl,rfl⟩:=e1;have x:=q.cellAt j O;rw[List.getElem?_map,ZV c,Option.map_some] at x;unfold kr at x;have m:=aC (P L[j] (zg c));have C:fI p (L.drop j) j=if p L[j] then (j:N) else fI p (L.drop (j+1)) ((j+1:XP):N):=by rw[ZH c];rfl
    have D:=aC C;clear C
    cases f:p L[j]
    .have r:Hid (fI p L 0=fI p (L.drop (j+1)) ((j+1:XP):N)):=by show _=_;rw[y,D,f];rfl
     rw[f] at m;clear f
     go_wp21
     refine m.mono ?_;rintro e w1 ⟨rfl,o⟩;rw[o];clear x m o
     go_wp21
     go_round
     .exact⟨j+1,O,by go_num,r⟩
     .simp[intOf];omega
    .have r:Hid (fI p L 0=j):=by show _=_;rw[y,D,f];rfl
     rw[f] at m;clear f
     go_wp21
     refine m.mono ?_;rintro e w1 ⟨rfl,o⟩;rw[o];clear x m o
     go_wp21
     go_ret;exact⟨iy r.symm,rfl⟩
   .have I:¬ (j:N)<(L.length:N):=O
    have e:L.drop j=[]:=ZI O;have r:Hid (fI p L 0=-1):=by show _=_;rw[y,e];rfl
    clear e
    go_wp21
    go_ret;exact⟨iy r.symm,rfl⟩
theorem FP(T:FB fn cs)(L:J XP)(p:XP->XN)(v:XZ)(w:XY)(ht:∀ wx,aH v.ownBlock.toList w wx->FM fn cs wx L p)(own:w.ownsRow 0 197 1 v L.length (L.map kr))(hl:L.length<=1000):
  X4 prog 106 #[v,.func (.func fn) #[] cs.toArray] w fun e w'=>∃ v',e=Yg v'/\aH v.ownBlock.toList w w'/\w'.ownsRow 0 197 1 v' (L.filter fun b=>!p b).length ((L.filter fun b=>!p b).map kr)/\v'.ownBlock=v.ownBlock:=by
 have P:=aC (MX T L p v w (ht w (aH.refl _ _)) own hl);have g:=xC p L 0;rcases T with ⟨rfl,rfl⟩|⟨rfl,A,rfl⟩
 all_goals
  go_in
  go_wp21
  refine P.mono ?_;rintro e w1 ⟨rfl,rfl⟩;rcases g with ⟨o,m⟩|⟨k,hk,o,m,X⟩
  .rw[o];have W:(L.filter fun b=>!p b)=L:=List.filter_eq_self.2 (fun b hb=>by simp[m b hb]);have D:Hid (w1.ownsRow 0 197 1 v (L.filter fun b=>!p b).length ((L.filter fun b=>!p b).map kr)):=by show w1.ownsRow _ _ _ _ _ _;rw[W];exact own
   clear o m W P ht own
   go_wp21
   go_ret;exact⟨v,rfl,aH.refl _ _,D,rfl⟩
  .have x:0<L.length:=O
   obtain⟨H,cap,K⟩:=Joins.ownsRow_form own x;subst K;rw[o,Int.zero_add];have D0:=aC (pU.new hk m X);have C:=aC own;have HT:=aC ht;have w3:Y.wrap ((k:N)+1)=((k+1:XP):N):=by rw[cT O O];omega
   have ab:((k:N)==-1)=XW:=XA
   clear o m X P ht own
   go_wp21
   go_loopw [5,6,7] (fun vi E _ wx=>∃ (i j:XP) (M:J XP),vi=V Y i/\E=V Y j/\pU L p i j M/\aH [H] w1 wx/\wx.ownsRow 0 197 1 (X9 H L.length cap) L.length (M.map kr)) (fun _ E _ _=>L.length-(intOf E).toNat)
   .exact⟨k,k+1,L,rfl,rfl,D0,aH.refl _ _,C⟩
   .obtain⟨i,j,M,rfl,rfl,h,y,c⟩:=hrel;have ae:=h.ij;have ad:=h.jl;have ac:=h.len;have q:=aC (Yz h (Yz y c))
    by_cases f:j<L.length
    .have hj:(j:N)<(L.length:N):=O
     have hi:(i:N)<(L.length:N):=O
     have a0:=c.cellAt j O;rw[List.getElem?_map,h.hi j aI,ZV f,Option.map_some] at a0;have b0:=c.cellAt i O;rw[List.getElem?_map,ZV O,Option.map_some] at b0;have f0:=c.frozenAt i;unfold kr at a0 b0;have r:=aC (HT wr y L[j] (zg f));have wi:Y.wrap ((i:N)+1)=((i+1:XP):N):=by rw[cT O O];omega
     have wj:Y.wrap ((j:N)+1)=((j+1:XP):N):=by rw[cT O O];omega
     clear y h
     cases g:p L[j]
     .have R:=aC (q.1.hI f g);have WN:=aC ((c.stored i (kr L[j])).1);have ON:=aC (q.2.1.trans (aH.bD H wr i (kr L[j])));rw[g] at r;unfold kr at WN ON;clear g c
      go_wp21
      refine r.mono ?_;rintro e w2 ⟨rfl,c⟩;rw[c];clear r c
      go_wp21
      go_roundw
      .exact⟨i+1,j+1,M.set i L[j],rfl,rfl,R,ON,by rw[List.map_set];exact WN⟩
      .simp[intOf];omega
     .have R:=aC (q.1.skip f g);rw[g] at r;clear g c
      go_wp21
      refine r.mono ?_;rintro e w2 ⟨rfl,c⟩;rw[c];clear r c
      go_wp21
      go_roundw
      .exact⟨i,j+1,M,rfl,rfl,R,q.2.1,q.2.2⟩
      .simp[intOf];omega
    .have hj:¬ ((j:N)<(L.length:N)):=O
     have z:j=L.length:=O
     have S:L.length<=cap:=by
      rcases c.2 with ⟨h0,_⟩|⟨g',aa,aj,K,_,_,h1,_⟩
      .cases h0
      .cases K;exact h1
     have ai:∀ I,(Builtin.clear_ #[139] I #[X9 (U ⟨H,i,XU⟩) (L.length-i) (cap-i)]).run prog wr=.ok (Yc #[]) (wr.setCells H i (List.replicate (L.length-i) (X8 XU))) :=
      fun I=>Lib.run_clear_slice wr _ _ I (X8 XU) underlying139 (fun w=>by simp[go_sem]) rfl rfl H i _ _ O (fun t ht=>by rw[c.cellAt (i+t) O];simp;omega) (fun t ht=>c.frozenAt (i+t))
     have af:(i:N)<=(L.length:N):=O
     have ag:(i:N)<=(cap:N):=O
     have D:Hid (aH [H] w1 (wr.setCells H i (List.replicate (L.length-i) (X8 XU)))/\(wr.setCells H i (List.replicate (L.length-i) (X8 XU))).ownsRow 0 197 1 (X9 H i cap) (L.filter fun b=>!p b).length ((L.filter fun b=>!p b).map kr)):=by
      have o:(L.filter fun b=>!p b)=M.take i:=by rw[h.lo,z,Ze aI]
      have m:(M.take i).length=i:=by rw[List.length_take];omega
      refine⟨y.trans (LO _ _ _),?_⟩;rw[o,m,List.map_take];exact LY _ i wr aI (VH c O)
     clear h y c q HT C D0 z
     go_wp21
     go_ret;exact⟨_,rfl,D.1,D.2,rfl⟩
def pW(c:bH):Prop:=c=.me\/c=.wa\/c=.desk\/∃ i,c=.bA i
def JR(w:XY)(d:XP)(r:Raw)(f:XP->XM bH)(g:EG)(i:XP)(h:i<r.tg.length)(w':XY):Prop :=
 ∃ c,DK w' d ({ r with eg:=fJ g.e.id r.eg }.dU i (r.tg[i].with (cS r.tg[i].A g.e.aQ (-g.e.aM)) (ku g.e.id r.tg[i].T g.e.aQ))) c/\Step pW w f c w w'
theorem Ix(w:XY):(zeroValue 197).run prog w=.ok (X8 XU) w:=by simp[go_sem]
theorem U0{r:Raw}{o:XP->XM bH}(h:DK w d r o){g:EG}(hg:g∈r.eg)(hk:g.e.kind≠3)(i:XP)(hi:i<r.tg.length)(ht:g.tb=r.tg[i].tb)(hf:Fit r.tg[i] g.e)(ho:aF.Ord (aF.cH r.tg[i].T))(hz:aF.size r.tg[i].T<=9000)(hA:∀ p,0<=cS r.tg[i].A g.e.aQ (-g.e.aM) p)(ad:0<=g.e.id/\g.e.id<=1000):
  X4 prog 150 #[d,g.eb] w fun e w'=>e=Yg (Yc #[])/\JR w d r o g i hi w':=by
 have hX:X0 w w (w.alloc (Yh #[g.eb] 197)):=bC;have H:=h.later hX;have xb:(w.alloc (Yh #[g.eb] 197)).cell? (w,0)=U ↑g.eb:=XA
 have E:w<(w.alloc (Yh #[g.eb] 197)).heap.size:=XA
 have K:o w=XU:=by
  cases e:o w with
  |none=>rfl
  |some c=>have:=h.lt _ _ e;omega
 have C:=aC (Yz hX (Yz E K));clear h hX E K
 go_in
 go_upto_region 1 with fail
 generalize (w.alloc (Yh #[g.eb] 197))=X at H xb C ⊢;obtain⟨g1,S,R⟩:=H.en g hg;obtain⟨m,f,a1,a2,a3,a4⟩:=H.me;have c0:=g1.en.c0;have ac:(g.e.kind != 3)=XX:=by simpa using hk
 have kk:=xl (n:=g.e.id) O O;obtain⟨w1,I,p1,p2⟩:=(a3.block (w':=X.drew) rfl).na wW underlying138 kk 0;have z:=H.later (dV X);have DD:=aC (z.wE a1 a2 a4 g.e.id p1 p2);have W:=aC (DD.2.uG (z.en g hg).1 (.inl ⟨_,S,by simp⟩) (.inl ⟨_,R,by simp⟩));have ae:=W.k;have P:=W.en.c1;have y:w1.cell? (w,0)=U ↑g.eb:=(zo (w:=X) (DD.2.cF C.2.1 C.2.2 C.2.1)).trans xb;clear H z a3 p1 p2 a4
 go_big_region
 clear I xb a1 c0;have aa:w<w1.heap.size:=Yl _ _ y;have x:=aC (Yz C.2.2 aa);have XB:=aC C.1;have ab:=aC (Yz S R);have RL:=aC (fun wx (k:X0 w1 w1 wx)=>WC (DD.1.later k) i hi (W.off (G:=[]) (aH.aD k) XA XA) ht (by rw[S];simp) (by rw[R];simp) hf ho hz hA);clear g1 S R hf ho hz hA C kk a2 ht;generalize w=N at y x ⊢
 have AF:Hid (∀ w2 q,Step (·=.bA i) w1.drew.heap.size o q w1.drew w2->w2.cell? (N,0)=U ↑g.eb/\w2.cell? (g.eb,2)=U ↑g.tb):=fun w2 q D =>
  ⟨(zo (w:=w1) (D.cF x.2 x.1 x.2)).trans y,D.oT ab.1 XA P⟩
 go_upto_region 3 with fail
 go_region_held3 (fun w'=>w'.cell? (N,0)=U ↑g.eb/\w'.cell? (g.eb,2)=U ↑g.tb)
  (first
   |exact⟨y,P⟩
   |exact AF _ _ D)
  (first
   |(go_at_call 205;refine aK (RL _ (dV w1)) ?_;rintro w2 ⟨q,q1,D⟩))
 have HF:Hid (JR w d r o g i hi w2):=by
  have t0:Step pW w o o w X:=Step.below XB;have t1:Step pW w o o w w1:=t0.trans ((Step.below (dV X)).trans (DD.2.mono (fun c hc=>.inl hc) t0.size));have t2:Step pW w o o w w1.drew:=t1.trans (Step.below (dV w1));exact⟨q,q1,t2.trans (D.mono (fun c hc=>.inr (.inr (.inr ⟨i,hc⟩))) t2.size)⟩
 clear q1 D RL DD W
 go_wp21
 (try simp only[Exit.inBlock,Exit.then]);refine bodyPost_ret (results_none rfl _ _ _) rfl ?_
 exact⟨rfl,HF⟩
def Kx(w:XY)(d:XP)(r:Raw)(f:XP->XM bH)(g:EG)(w':XY):Prop :=
 ∃ c,DK w' d { r with eg:=fJ g.e.id r.eg,wl:=r.wl.filter fun b=>!(b==g.eb) } c/\Step pW w f c w w'
theorem U1{r:Raw}{q:XP->XM bH}(h:DK w d r q){g:EG}(W:g∈r.eg)(hk:g.e.kind=3)(af:0<=g.e.id/\g.e.id<=1000)(R:∀ b∈r.wl,∃ x∈r.eg,x.eb=b)(ac:r.wl.length<=1000):
  X4 prog 150 #[d,g.eb] w fun e w'=>e=Yg (Yc #[])/\Kx w d r q g w':=by
 have hX:X0 w w (w.alloc (Yh #[g.eb] 197)):=bC;have y:=h.later hX;have xb:(w.alloc (Yh #[g.eb] 197)).cell? (w,0)=U ↑g.eb:=XA
 have P:w<(w.alloc (Yh #[g.eb] 197)).heap.size:=XA
 have aa:q w=XU:=by
  cases e:q w with
  |none=>rfl
  |some c=>have:=h.lt _ _ e;omega
 have H:=aC (Yz hX (Yz P aa));clear h hX P aa
 go_in
 go_upto_region 1 with fail
 generalize (w.alloc (Yh #[g.eb] 197))=X at y xb H ⊢;obtain⟨g1,g2,g3⟩:=y.en g W;obtain⟨m,f,a1,a2,a3,a4⟩:=y.me;have c0:=g1.en.c0;have ae:(g.e.kind != 3)=XW:=by simpa using hk
 have kk:=xl (n:=g.e.id) O O;obtain⟨w1,T,p1,p2⟩:=(a3.block (w':=X.drew) rfl).na wW underlying138 kk 0;have z:=y.later (dV X);have DD:=aC (z.wE a1 a2 a4 g.e.id p1 p2);have EC:Hid (∀ x∈r.eg,q x.eb=U .ent):=fun x y=>(z.en x y).2.1
 have I:Hid (∀ x∈r.eg,iF w1 x):=(fun x y=>DD.2.uG (z.en x y).1 (.inl ⟨_,(z.en x y).2.1,by simp⟩) (.inl ⟨_,(z.en x y).2.2,by simp⟩));have ai:=(I g W).k;have K:w1.cell? (w,0)=U ↑g.eb:=(zo (w:=X) (DD.2.cF H.2.1 H.2.2 H.2.1)).trans xb;clear y z a3 p1 p2 a4
 go_big_region
 clear T xb a1 c0;have ad:w<w1.heap.size:=Yl _ _ K;have C:=aC (Yz H.2.2 ad);have XB:=aC H.1;clear g1 g2 g3 H kk a2;obtain⟨v,c4,own,A⟩:=DD.1.wa;have f4:=DD.1.fz 4;have E:w.heap.size ∉ v.ownBlock.toList:=fun e=>by have:=A _ (ZL.1 e);rw[C.1] at this;cases this
 have S:d ∉ v.ownBlock.toList:=fun e=>by have:=A _ (ZL.1 e);rw[DD.1.dc] at this;cases this
 have D:∀ x∈r.eg,x.eb ∉ v.ownBlock.toList:=fun x y e=>by
  have h1:=A _ (ZL.1 e);have h2:=EC x y;rw[h2] at h1;cases h1
 have DL:=aC (FP (.inr ⟨rfl,w,rfl⟩) r.wl (fun b=>b==g.eb) v w1 (fun wx k b hb=>by
  obtain⟨x,y,rfl⟩:=R b hb
  have b1:∃ cs,wx.heap[g.eb]?=U (Yh cs 200 (0,0)):=by
   obtain⟨cs,e⟩:=(I g W).bl;exact⟨cs,(k.block _ (I g W).lt (D g W)).trans e⟩
  have b2:∃ cs,wx.heap[x.eb]?=U (Yh cs 200 (0,0)):=by
   obtain⟨cs,e⟩:=(I x y).bl;exact⟨cs,(k.block _ (I x y).lt (D x y)).trans e⟩
  exact UZ w g.eb x.eb wx (k.cell E K) b1 b2) own ac)
 have VC:=aC (Yz A (Yz E S));clear own A E S D R
 go_wp21
 refine DL.mono ?_;rintro e w2 ⟨v',rfl,k1,k2,k3⟩
 obtain⟨va,vn,vc,rfl⟩:∃ a n cap,v'=X9 a n cap:=by
  rcases k2.2 with ⟨e,_⟩|⟨_,_,_,e,_⟩
  .exact⟨_,_,_,e⟩
  .exact⟨_,_,_,e⟩
 have aj:=k1.cell VC.2.2 c4;have ag:=(k1.frozen (o:=4) VC.2.2 (Yl _ _ c4)).trans f4;have SW:=aC (DD.1.jS VC.1 k1 k2 (fun b hb=>.inl (by rw[<- k3];exact hb)));clear k1 k2 k3 DL c4 f4 I
 have HF:Hid (Kx w d r q g (w2.setCell (d,4) (X9 va vn vc))):=by
  have t0:Step pW w q q w X:=Step.below XB;have t1:Step pW w q q w w1:=t0.trans ((Step.below (dV X)).trans (DD.2.mono (fun c hc=>.inl hc) t0.size));obtain⟨ab,q1,q2⟩:=SW;exact⟨ab,q1,t1.trans (q2.mono (fun c hc=>by rcases hc with e|e;exact .inr (.inl e);exact .inr (.inr (.inl e))) t1.size)⟩
 clear DD SW VC C XB
 go_wp21
 go_end0
 exact⟨rfl,HF⟩
open aA (aO St dL kept eA dI dE im cN cO iu Inv)
def jr(c:J EG)(id:N):XP:=(gW c id).getD 0
theorem Dj{c:J EG}(f:(c.map (·.e.id)).Nodup){g:EG}(h:g∈c):jr c g.e.id=g.eb:=by unfold jr;rw[Kf f h];rfl
structure Of(s:St)(r:Raw):Prop where
 now:r.now=s.now
 given:r.given=s.given
 ts:r.tg.map (fun t=>(t.name,t.aM))=s.ts
 es:r.eg.map (·.e)=s.es
 th:∀ (i:XP) (h:i<r.tg.length),r.tg[i].A=dE r.tg[i].name s.es/\im r.tg[i].name s.es (jr r.eg) r.tg[i].T
 tb:∀ g∈r.eg,∃ (i:XP) (h:i<r.tg.length),r.tg[i].name=g.e.bA/\g.tb=r.tg[i].tb
def Wl(r:Raw):Prop:=r.wl=(r.eg.filter fun g=>g.e.kind==3).map (·.eb)
def iR(g:EG):Hp.Hi:=⟨g.e.bP,g.e.id,g.eb⟩
def Hl(r:Raw):Prop:=Hp.gO r.hl/\r.hl.Perm ((r.eg.filter fun g=>g.e.kind != 1).map iR)
theorem Of.mem{r:Raw}(h:Of s r){g:EG}(c:g∈r.eg):g.e∈s.es:=by rw[<- h.es];exact Zh.2 ⟨g,c,rfl⟩
theorem Of.get{r:Raw}(h:Of s r)(c:e∈s.es):∃ g∈r.eg,g.e=e:=by rw[<- h.es] at c;exact Zh.1 c
theorem Of.len{r:Raw}(h:Of s r):r.tg.length=s.ts.length:=by rw[<- h.ts];simp
theorem Of.kU{r:Raw}(h:Of s r)(c:i<r.tg.length):s.ts[i]'(by rw[<- h.len];exact c)=(r.tg[i].name,r.tg[i].aM):=by
 have e:(r.tg.map fun t=>(t.name,t.aM))[i]'(by simpa using c)=(r.tg[i].name,r.tg[i].aM):=XA
 rw[<- e]
 congr 1
 exact h.ts.symm
theorem El(g:ts.Pairwise fun t u=>cO t.1 u.1=XW):∀ {i:XP}(f:i<ts.length),aA.bW ts[i].1 ts=ts[i].2:=by
 induction ts with
 |nil=>intro i f;simp at f
 |cons t ts ih =>
  intro i f;rw[YI] at g
  cases i with
  |zero=>simp[aA.bW,aA.sV]
  |succ i =>
   have c:i<ts.length:=by simpa using f
   have:=g.1 ts[i] (zg c);simp only[List.getElem_cons_succ,aA.bW,this];exact ih g.2 c
theorem xX(h:∀ t∈ts,t.1≠name):aA.bW name ts=0:=by
 induction ts with
 |nil=>rfl
 |cons t ts ih =>
  have c:cO t.1 name=XW:=ry.2 (h t XA);simp only[aA.bW,c];exact ih (fun t ht=>h t (by simp[ht]))
theorem Of.names{r:Raw}(h:Of s r)(x:s.ts.Pairwise fun t u=>cO t.1 u.1=XW)(q:i<r.tg.length)(o:j<r.tg.length)(e:r.tg[i].name=r.tg[j].name):i=j:=by
 have c:∀ {a b:XP}(m:a<r.tg.length) (f:b<r.tg.length),a<b->r.tg[a].name≠r.tg[b].name:=by
  intro a b m f g;have:=List.pairwise_iff_getElem.1 x a b (by rw[<- h.len];exact m) (by rw[<- h.len];exact f) g;rw[h.kU m,h.kU f] at this;exact ry.1 this
 by_cases z:i<j
 .exact XT e (c q o z)
 .by_cases y:j<i
  .exact XT e.symm (c o q y)
  .omega
theorem EP(h:iu L):(L.map (·.1)).Nodup:=by
 unfold iu at h;rw[List.nodup_iff_pairwise_ne,List.pairwise_map];exact h.imp (fun c=>by omega)
theorem JZ{at_:N->XP}{T:aF.S}{eb:XP}(h:im name es at_ T)(r:iu L)(g:∀ e∈es,cN name e=XX->e.id≠id)
  (q:∀ z:aF.It,(∃ e∈es',cN name e=XX/\∃ s∈e.aQ,z=⟨s.1,s.2,e.id,at' e.id⟩)↔(∃ e∈es,cN name e=XX/\∃ s∈e.aQ,z=⟨s.1,s.2,e.id,at_ e.id⟩)\/∃ s∈L,z=kG id eb s):
  im name es' at' (ia id eb T L)/\(∀ z∈aF.cH T,z.n=id->∀ s∈L,z.f≠s.1):=by
 have c:∀ z∈aF.cH T,z.n=id->∀ s∈L,z.f≠s.1:=by
  intro z m e;obtain⟨x,o,y,s,_,rfl⟩:=(h.2 z).1 m;exact XT e (g x o y)
 let⟨k1,_,k3,_⟩:=Da id eb L T h.1 c (EP r);exact⟨⟨k1,fun z=>by rw[k3,h.2];exact (q z).symm⟩,c⟩
theorem UU{at_:N->XP}{T:aF.S}{e0:aO}(h:im name es at_ T)(o:dL es)(x:e0∈es)(g:∀ e∈es,e.id≠e0.id->at' e.id=at_ e.id):
  im name (kept e0.id es) at' (ku e0.id T e0.aQ):=by
 let⟨k1,k2,_⟩:=Dn e0.id e0.aQ T h.1;refine⟨k1,fun z=>?_⟩;rw[k2,List.mem_filter,h.2];constructor
 .rintro ⟨⟨e,f,q,s,m,rfl⟩,r⟩
  have c:e.id≠e0.id:=by
   intro y;have:e=e0:=o.one f x y;subst this;have:=ZZ.1 r s m;simp[aF.oi] at this
  exact⟨e,aA.uk.2 ⟨f,c⟩,q,s,m,by rw[g e f c]⟩
 .rintro ⟨e,f,q,s,m,rfl⟩;let⟨f,c⟩:=aA.uk.1 f;refine⟨⟨e,f,q,s,m,by rw[g e f c]⟩,?_⟩;rw[ZZ];intro t _;simp[aF.oi,c]
theorem xR{at_:N->XP}{T:aF.S}(h:im name es at_ T)(q:∀ e,cN name e=XX->(e∈es'↔e∈es))(g:∀ e∈es,cN name e=XX->at' e.id=at_ e.id):im name es' at' T:=by
 refine⟨h.1,fun z=>?_⟩;rw[h.2];constructor
 .rintro ⟨e,m,c,s,o,rfl⟩;exact⟨e,(q e c).2 m,c,s,o,by rw[g e m c]⟩
 .rintro ⟨e,m,c,s,o,rfl⟩;have f:=(q e c).1 m;exact⟨e,f,c,s,o,by rw[g e f c]⟩
theorem Of.turn{r:Raw}(h:Of s r)(A:s.ts.Pairwise fun t u=>cO t.1 u.1=XW)(z:i<r.tg.length){c:J EG}{o:J XN->N}{T':aF.S}(D:c.map (·.e)=es')(K:o=dE r.tg[i].name es')(I:im r.tg[i].name es' (jr c) T')
  (H:∀ (name:XK) (T:aF.S),name≠r.tg[i].name->dE name es'=dE name s.es/\(im name s.es (jr r.eg) T->im name es' (jr c) T)) (E:∀ g∈c,∃ (i:XP) (h:i<r.tg.length),r.tg[i].name=g.e.bA/\g.tb=r.tg[i].tb):
  Of { s with es:=es' } ({ r with eg:=c }.dU i (r.tg[i].with o T')):=by
 have f:({ r with eg:=c }.dU i (r.tg[i].with o T')).tg.length=r.tg.length:=by simp[Raw.dU]
 have m:∀ (j:XP) (q:j<r.tg.length),(({ r with eg:=c }.dU i (r.tg[i].with o T')).tg[j]'(by rw[f];exact q)).name=r.tg[j].name/\(({ r with eg:=c }.dU i (r.tg[i].with o T')).tg[j]'(by rw[f];exact q)).tb=r.tg[j].tb:=by
  intro j q
  by_cases e:i=j
  .subst e;simp[Raw.dU,TG.with]
  .simp[Raw.dU,e]
 refine⟨h.now,h.given,?_,D,fun j q=>?_,fun g C=>?_⟩
 .rw[<- h.ts];show (r.tg.set i (r.tg[i].with o T')).map _=_;rw[List.map_set];have:((r.tg[i].with o T').name,(r.tg[i].with o T').aM)=(r.tg.map fun t=>(t.name,t.aM))[i]'(by simpa using z):=by simp[TG.with]
  rw[this,List.set_getElem_self]
 .have x:j<r.tg.length:=by rw[<- f];exact q
  by_cases e:i=j
  .subst e;have y:({ r with eg:=c }.dU i (r.tg[i].with o T')).tg[i]=r.tg[i].with o T':=by simp[Raw.dU]
   rw[y];exact⟨K,I⟩
  .have y:({ r with eg:=c }.dU i (r.tg[i].with o T')).tg[j]=r.tg[j]:=by simp[Raw.dU,e]
   rw[y];let⟨k1,k2⟩:=H r.tg[j].name r.tg[j].T (fun P=>e (h.names A z x P.symm));let⟨q1,q2⟩:=h.th j x;exact⟨q1.trans k1.symm,k2 q2⟩
 .let⟨j,q,e1,y⟩:=E g C;exact⟨j,by rw[f];exact q,(m j q).1.trans e1,y.trans (m j q).2.symm⟩
theorem JG(id:N)(c:J EG):(gg id 1 0 c).map (·.e)=eA id (c.map (·.e)):=by
 unfold gg eA;rw[List.map_map,List.map_map];apply List.map_congr_left;intro g _;simp only[Function.comp]
 split <;> rfl
theorem Ju(id:N)(c:J EG):(fJ id c).map (·.e)=kept id (c.map (·.e)):=by
 unfold fJ kept;rw[List.filter_map];rfl
theorem Ko{c f:N}{g:J EG}{x:EG}(h:x∈gg id c f g):∃ y∈g,x.eb=y.eb/\x.tb=y.tb/\x.e.bA=y.e.bA/\x.e.id=y.e.id:=by
 obtain⟨y,m,rfl⟩:=Zh.1 h;refine⟨y,m,?_⟩
 split <;> exact⟨rfl,rfl,rfl,rfl⟩
theorem Ec(id c f:N)(eg:J EG):jr (gg id c f eg)=jr eg:=by funext x;unfold jr;rw[JF]
theorem Of.book{r:Raw}(h:Of s r)(hp:s.ts.Pairwise fun t u=>cO t.1 u.1=XW)(D:dL s.es)(hn:(r.eg.map (·.e.id)).Nodup){g:EG}(W:g∈r.eg)(hk:g.e.kind=3)(hr:iu g.e.aQ)(hi:i<r.tg.length)(c:r.tg[i].name=g.e.bA):
  Of { s with es:=eA g.e.id s.es } ({ r with eg:=gg g.e.id 1 0 r.eg }.dU i (r.tg[i].with (cS r.tg[i].A g.e.aQ g.e.aM) (ia g.e.id g.eb r.tg[i].T g.e.aQ)))/\(∀ z∈aF.cH r.tg[i].T,z.n=g.e.id->∀ s∈g.e.aQ,z.f≠s.1):=by
 let⟨t1,t2⟩:=h.th i hi;have I:=h.mem W
 have C:∀ (name:XK) (e:aO),e∈s.es->cN name e=XX->e.id≠g.e.id:=by
  intro name e m o S;have:e=g.e:=D.one m I S;subst this;simp[cN,hk] at o
 have X:cN r.tg[i].name (dI g.e)=XX:=by rw[aA.sT,c];exact aA.sV _
 have hP:=JZ (id:=g.e.id) (eb:=g.eb) (L:=g.e.aQ) (es':=eA g.e.id s.es) (at':=jr (gg g.e.id 1 0 r.eg)) t2 hr (fun e m o=>C _ e m o) (fun z=>by
  rw[Ec];constructor
  .rintro ⟨e,m,o,q,H,rfl⟩;rcases aA.rB.1 m with ⟨m,_⟩|⟨y,K,E,rfl⟩
   .exact .inl ⟨e,m,o,q,H,rfl⟩
   .have:y=g.e:=D.one K I E;subst this;exact .inr ⟨q,H,by unfold kG;rw[show (dI g.e).id=g.e.id from rfl,Dj hn W]⟩
  .rintro (⟨e,m,o,q,H,rfl⟩|⟨q,H,rfl⟩)
   .exact⟨e,aA.rB.2 (.inl ⟨m,C _ e m o⟩),o,q,H,rfl⟩
   .exact⟨dI g.e,aA.rB.2 (.inr ⟨g.e,I,rfl,rfl⟩),X,q,H,by unfold kG;rw[show (dI g.e).id=g.e.id from rfl,Dj hn W]⟩)
 refine⟨h.turn hp hi (by rw[JG,h.es]) ?_ hP.1 (fun name T P=>⟨?_,fun hT=>?_⟩) (fun x hx=>?_),hP.2⟩
 .rw[t1];exact aA.Lz (by rw[c];exact aA.sV _) hk D I
 .refine aA.Fo (fun e m S o=>?_);have:e=g.e:=D.one m I S;subst this;exact XT (um.1 o) (fun R=>P (by rw[c,R]))
 .refine xR hT (fun e o=>?_) (fun e _ _=>by rw[Ec]);constructor
  .intro m;rcases aA.rB.1 m with ⟨m,_⟩|⟨y,K,E,rfl⟩
   .exact m
   .have:y=g.e:=D.one K I E;subst this;rw[aA.sT] at o;exact XT (um.1 o) (fun R=>P (by rw[c,R]))
  .intro m;exact aA.rB.2 (.inl ⟨m,C name e m o⟩)
 .let⟨y,K,S,R,e3,_⟩:=Ko hx;let⟨j,hj,q1,q2⟩:=h.tb y K;exact⟨j,hj,by rw[e3];exact q1,by rw[R];exact q2⟩
theorem Of.tL{r:Raw}(h:Of s r)(f:dL s.es){g:EG}(P:g∈r.eg)(I:g.e.kind≠3):
  Of { s with es:=eA g.e.id s.es } { r with eg:=gg g.e.id 1 0 r.eg }:=by
 have A:=h.mem P;refine⟨h.now,h.given,h.ts,by rw[<- h.es];exact JG _ _,fun j H=>?_,fun x K=>?_⟩
 .let⟨t1,t2⟩:=h.th j H;refine⟨t1.trans (aA.Fo (fun e c C _=>?_)).symm,⟨t2.1,fun z=>?_⟩⟩
  .have:e=g.e:=f.one c A C;rw[this];exact I
  .show z∈aF.cH r.tg[j].T↔∃ e∈eA g.e.id s.es,cN r.tg[j].name e=XX/\∃ q∈e.aQ,z=⟨q.1,q.2,e.id,jr (gg g.e.id 1 0 r.eg) e.id⟩;rw[t2.2,Ec];constructor
   .rintro ⟨e,c,m,q,o,rfl⟩
    by_cases C:e.id=g.e.id
    .have:e=g.e:=f.one c A C;subst this;refine⟨dI g.e,aA.rB.2 (.inr ⟨g.e,A,rfl,rfl⟩),?_,q,o,rfl⟩;rw[aA.sT];simp[cN] at m;exact m.1
    .exact⟨e,aA.rB.2 (.inl ⟨c,C⟩),m,q,o,rfl⟩
   .rintro ⟨e,c,m,q,o,rfl⟩;rcases aA.rB.1 c with ⟨c,_⟩|⟨y,E,D,rfl⟩
    .exact⟨e,c,m,q,o,rfl⟩
    .have:y=g.e:=f.one E A D;subst this;rw[aA.sT] at m;exact⟨g.e,A,by simp[cN,m,I],q,o,rfl⟩
 .let⟨y,E,C,e2,e3,_⟩:=Ko K;let⟨j,H,q1,q2⟩:=h.tb y E;exact⟨j,H,by rw[e3];exact q1,by rw[e2];exact q2⟩
theorem Di{c:J EG}(g:(c.map (·.e.id)).Nodup)(id x:N)(f:x≠id):jr (fJ id c) x=jr c x:=by unfold jr;rw[Jt g,XR f]
theorem Of.goes{r:Raw}(h:Of s r)(P:s.ts.Pairwise fun t u=>cO t.1 u.1=XW)(o:dL s.es)(H:(r.eg.map (·.e.id)).Nodup){g:EG}(S:g∈r.eg)(R:g.e.kind≠3)(I:i<r.tg.length)(c:r.tg[i].name=g.e.bA):
  Of { s with es:=kept g.e.id s.es } ({ r with eg:=fJ g.e.id r.eg }.dU i (r.tg[i].with (cS r.tg[i].A g.e.aQ (-g.e.aM)) (ku g.e.id r.tg[i].T g.e.aQ))):=by
 let⟨t1,t2⟩:=h.th i I;have z:=h.mem S;have C:cN r.tg[i].name g.e=XX:=by simp[cN,c,aA.sV,R]
 refine h.turn P I (by rw[Ju,h.es]) ?_ (UU t2 o z (fun e _ m=>Di H _ _ m)) (fun name T m=>⟨?_,fun W=>?_⟩) (fun x K=>h.tb x (List.mem_filter.1 K).1)
 .rw[t1];exact aA.Ek C o z
 .refine aA.Fg (fun e f E=>?_);have:e=g.e:=o.one f z E;subst this;have:cO g.e.bA name=XW:=ry.2 (fun D=>m (by rw[c,D]));simp[cN,this]
 .have q:∀ e∈s.es,cN name e=XX->e.id≠g.e.id:=fun e f y E=>by
   have:e=g.e:=o.one f z E;subst this;have:cO g.e.bA name=XW:=ry.2 (fun D=>m (by rw[c,D]));simp[cN,this] at y
  exact xR W (fun e y=>⟨fun f=>(aA.uk.1 f).1,fun f=>aA.uk.2 ⟨f,q e f y⟩⟩) (fun e f y=>Di H _ _ (q e f y))
theorem Of.vV{r:Raw}(h:Of s r)(m:dL s.es)(C:(r.eg.map (·.e.id)).Nodup){g:EG}(E:g∈r.eg)(z:g.e.kind=3):
  Of { s with es:=kept g.e.id s.es } { r with eg:=fJ g.e.id r.eg }:=by
 have y:=h.mem E
 have f:∀ (name:XK),∀ e∈s.es,cN name e=XX->e.id≠g.e.id:=fun name e c o q=>by
  have:e=g.e:=m.one c y q;subst this;simp[cN,z] at o
 refine⟨h.now,h.given,h.ts,by rw[<- h.es];exact Ju _ _,fun j D=>?_,fun x A=>h.tb x (List.mem_filter.1 A).1⟩;let⟨t1,t2⟩:=h.th j D;refine⟨t1.trans (aA.Fg (fun e c q=>?_)).symm,xR t2 (fun e o=>⟨fun c=>(aA.uk.1 c).1,fun c=>aA.uk.2 ⟨c,f _ e c o⟩⟩) (fun e c o=>Di C _ _ (f _ e c o))⟩;have:e=g.e:=m.one c y q;subst this;simp[cN,z]
theorem vw{f:J EG}{g:EG}(c:∀ x∈f,x.e.id≠g.e.id)(x:N):jr (f++[g]) x=if x=g.e.id then g.eb else jr f x:=by
 unfold jr;rw[JI c];split <;> rfl
theorem Of.comes{r:Raw}(h:Of s r)(hp:s.ts.Pairwise fun t u=>cO t.1 u.1=XW){g:EG}(y:∀ x∈r.eg,x.e.id≠g.e.id)(hk:g.e.kind≠3)(X:iu g.e.aQ)(S:i<r.tg.length)(m:r.tg[i].name=g.e.bA)(P:g.tb=r.tg[i].tb)(n:N):
  Of { s with es:=s.es++[g.e],given:=n } ({ r with eg:=r.eg++[g],given:=n }.dU i (r.tg[i].with (cS r.tg[i].A g.e.aQ g.e.aM) (ia g.e.id g.eb r.tg[i].T g.e.aQ)))/\(∀ z∈aF.cH r.tg[i].T,z.n=g.e.id->∀ s∈g.e.aQ,z.f≠s.1):=by
 let⟨t1,t2⟩:=h.th i S;have I:cN r.tg[i].name g.e=XX:=by simp[cN,m,aA.sV,hk]
 have o:∀ e∈s.es,e.id≠g.e.id:=fun e c=>by obtain⟨x,C,rfl⟩:=h.get c;exact y x C
 have W:=JZ (id:=g.e.id) (eb:=g.eb) (L:=g.e.aQ) (es':=s.es++[g.e]) (at':=jr (r.eg++[g])) t2 X (fun e c _=>o e c) (fun z=>by
  constructor
  .rintro ⟨e,c,E,q,D,rfl⟩;rcases Yv.1 c with c|c
   .exact .inl ⟨e,c,E,q,D,by rw[vw y,XR (o e c)]⟩
   .have:e=g.e:=by simpa using c
    subst this;exact .inr ⟨q,D,by unfold kG;rw[vw y,XS rfl]⟩
  .rintro (⟨e,c,E,q,D,rfl⟩|⟨q,D,rfl⟩)
   .exact⟨e,by simp[c],E,q,D,by rw[vw y,XR (o e c)]⟩
   .exact⟨g.e,by simp,I,q,D,by unfold kG;rw[vw y,XS rfl]⟩)
 have K:Of { s with es:=s.es++[g.e] } ({ r with eg:=r.eg++[g] }.dU i (r.tg[i].with (cS r.tg[i].A g.e.aQ g.e.aM) (ia g.e.id g.eb r.tg[i].T g.e.aQ))):=by
  refine h.turn hp S (by rw[Zl,h.es];rfl) ?_ W.1 (fun name T R=>?_) (fun x C=>?_)
  .rw[t1];exact aA.Ut I
  .have hf:cO g.e.bA name=XW:=ry.2 (fun e2=>R (by rw[m,e2]));have H:cN name g.e=XW:=by simp[cN,hf]
   refine⟨aA.LF H,fun hT=>xR hT (fun e E=>?_) (fun e c _=>by rw[vw y,XR (o e c)])⟩;rw[Yv];constructor
   .rintro (c|c)
    .exact c
    .have:e=g.e:=by simpa using c
     subst this;rw[H] at E;cases E
   .exact .inl
  .rcases Yv.1 C with C|C
   .exact h.tb x C
   .have:x=g:=by simpa using C
    subst this;exact⟨i,S,m,P⟩
 exact⟨⟨K.now,rfl,K.ts,K.es,K.th,K.tb⟩,W.2⟩
theorem Of.mJ{r:Raw}(h:Of s r){g:EG}(y:∀ x∈r.eg,x.e.id≠g.e.id)(C:g.e.kind=3)(E:i<r.tg.length)(f:r.tg[i].name=g.e.bA)(z:g.tb=r.tg[i].tb)(n:N):
  Of { s with es:=s.es++[g.e],given:=n } { r with eg:=r.eg++[g],given:=n }:=by
 have q:∀ e∈s.es,e.id≠g.e.id:=fun e m=>by obtain⟨x,c,rfl⟩:=h.get m;exact y x c
 refine⟨h.now,rfl,h.ts,by show (r.eg++[g]).map _=_;rw[Zl,h.es];rfl,fun j D=>?_,fun x c=>?_⟩
 .let⟨t1,t2⟩:=h.th j D;have o:∀ name,cN name g.e=XW:=fun name=>by simp[cN,C]
  refine⟨t1.trans (aA.LF (o _)).symm,xR t2 (fun e A=>?_) (fun e m _=>by show jr (r.eg++[g]) e.id=_;rw[vw y,XR (q e m)])⟩;show e∈s.es++[g.e]↔_;rw[Yv];constructor
  .rintro (m|m)
   .exact m
   .have:e=g.e:=by simpa using m
    subst this;rw[o] at A;cases A
  .exact .inl
 .rcases Yv.1 c with c|c
  .exact h.tb x c
  .have:x=g:=by simpa using c
   subst this;exact⟨i,E,f,z⟩
theorem Ug{eg:J EG}(f:(eg.map (·.e.id)).Nodup){g:EG}(q:g∈eg)(z:g.e.kind≠1):(eg.filter fun x=>x.e.kind != 1).Perm (g :: (gg g.e.id 1 0 eg).filter fun x=>x.e.kind != 1):=by
 induction eg with
 |nil=>simp at q
 |cons y eg ih =>
  rw[List.map_cons,Yx] at f;rcases Yu.1 q with rfl|c
  .have A:gg g.e.id 1 0 eg=eg:=by
    unfold gg
    have:eg.map (fun x=>if x.e.id=g.e.id then { x with e:={ x.e with kind:=1,bP:=0 } } else x)=eg.map id:=by
     apply List.map_congr_left;intro x r;rw[XR (fun e=>f.1 (Zh.2 ⟨x,r,e⟩))];rfl
    rw[this,List.map_id]
   have o:gg g.e.id 1 0 (g :: eg)={ g with e:={ g.e with kind:=1,bP:=0 } } :: eg:=by
    conv=>lhs;unfold gg;rw[List.map_cons,XS rfl]
    conv=>rhs;rw[<- A]
    rfl
   rw[o,YK,XS (by simpa using z),YK,XR XA]
  .have m:y.e.id≠g.e.id:=fun e=>f.1 (Zh.2 ⟨g,c,e.symm⟩)
   have o:gg g.e.id 1 0 (y :: eg)=y :: gg g.e.id 1 0 eg:=by
    conv=>lhs;unfold gg;rw[List.map_cons,XR m]
    rfl
   rw[o];have ih:=ih f.2 c
   by_cases h:(y.e.kind != 1)=XX
   .rw[YK,XS h,YK,XS h];exact (ih.cons y).trans (.swap ..)
   .rw[YK,XR h,YK,XR h];exact ih
theorem Uh{eg:J EG}(f:(eg.map (·.e.id)).Nodup){g:EG}(q:g∈eg)(p:EG->XN)(z:p g=XX):(eg.filter p).Perm (g :: (fJ g.e.id eg).filter p):=by
 induction eg with
 |nil=>simp at q
 |cons y eg ih =>
  rw[List.map_cons,Yx] at f;rcases Yu.1 q with rfl|c
  .have o:fJ g.e.id (g :: eg)=eg:=by
    unfold fJ;rw[YK,XR XA];exact List.filter_eq_self.2 (fun x r=>by simpa using fun e=>f.1 (Zh.2 ⟨x,r,e⟩))
   rw[o,YK,XS z]
  .have m:y.e.id≠g.e.id:=fun e=>f.1 (Zh.2 ⟨g,c,e.symm⟩)
   have o:fJ g.e.id (y :: eg)=y :: fJ g.e.id eg:=by unfold fJ;rw[YK,XS (by simpa using m)]
   rw[o];have ih:=ih f.2 c
   by_cases h:p y=XX
   .rw[YK,XS h,YK,XS h];exact (ih.cons y).trans (.swap ..)
   .rw[YK,XR h,YK,XR h];exact ih
theorem Lr{c:J EG}(m:(c.map (·.e.id)).Nodup){g:EG}(o:g∈c)(p:EG->XN)(h:p g=XW):(fJ g.e.id c).filter p=c.filter p:=by
 unfold fJ;rw[List.filter_filter];apply List.filter_congr;intro x f
 by_cases e:x.e.id=g.e.id
 .have:x=g:=pA _ m f o e;subst this;simp[h]
 .have:(x.e.id != g.e.id)=XX:=by simpa using e
  simp[this]
theorem Hl.at{r:Raw}(h:Hl r){x:Hp.Hi}(f:x∈r.hl):∃ g∈r.eg,g.e.kind≠1/\x=iR g:=by
 have:=h.2.mem_iff.1 f;obtain⟨g,c,rfl⟩:=Zh.1 this;exact⟨g,(List.mem_filter.1 c).1,by simpa using (List.mem_filter.1 c).2,rfl⟩
theorem Hl.has{r:Raw}(h:Hl r){g:EG}(f:g∈r.eg)(c:g.e.kind≠1):iR g∈r.hl:=h.2.mem_iff.2 (Zh.2 ⟨g,List.mem_filter.2 ⟨f,by simpa using c⟩,rfl⟩)
theorem Hl.len{r:Raw}(h:Hl r):r.hl.length<=r.eg.length:=by
 rw[h.2.length_eq,ZE];exact ZA _ _
theorem Hl.one{r:Raw}(h:Hl r)(o:(r.eg.map (·.e.id)).Nodup){g:EG}(q:g∈r.eg){x:Hp.Hi}{c:J Hp.Hi}(f:x.n=g.e.id)(m:r.hl.Perm (x :: c)):x=iR g:=by
 let⟨y,hy,_,e⟩:=h.at (x:=x) (m.mem_iff.2 XA);subst e;have:y=g:=pA _ o hy q f;rw[this]
theorem Hl.book{r:Raw}(h:Hl r)(m:(r.eg.map (·.e.id)).Nodup){g:EG}(o:g∈r.eg)(y:g.e.kind≠1){x:Hp.Hi}{c:J Hp.Hi}(q:x.n=g.e.id)(z:Hp.gO c)(f:r.hl.Perm (x :: c)):Hl { r with eg:=gg g.e.id 1 0 r.eg,hl:=c }:=by
 have e:=h.one m o q f;subst e;refine⟨z,List.Perm.cons_inv (a:=iR g) ?_⟩;exact f.symm.trans (h.2.trans ((Ug m o y).map iR))
theorem Hl.goes{r:Raw}(h:Hl r)(m:(r.eg.map (·.e.id)).Nodup){g:EG}(o:g∈r.eg)(y:g.e.kind≠1){x:Hp.Hi}{c:J Hp.Hi}(q:x.n=g.e.id)(z:Hp.gO c)(f:r.hl.Perm (x :: c)):Hl { r with eg:=fJ g.e.id r.eg,hl:=c }:=by
 have e:=h.one m o q f;subst e;refine⟨z,List.Perm.cons_inv (a:=iR g) ?_⟩;exact f.symm.trans (h.2.trans ((Uh m o (fun g=>g.e.kind != 1) (by simpa using y)).map iR))
theorem Hl.oG{r:Raw}(h:Hl r)(c:(r.eg.map (·.e.id)).Nodup){g:EG}(m:g∈r.eg)(f:g.e.kind=1):Hl { r with eg:=fJ g.e.id r.eg }:=by
 refine⟨h.1,?_⟩;show r.hl.Perm (((fJ g.e.id r.eg).filter fun g=>g.e.kind != 1).map iR);rw[Lr c m _ (by simp[f])];exact h.2
theorem Hl.comes{r:Raw}(h:Hl r){g:EG}(m:g.e.kind≠1){c:J Hp.Hi}(o:Hp.gO c)(f:c.Perm (r.hl++[iR g])):Hl { r with eg:=r.eg++[g],hl:=c }:=by
 refine⟨o,f.trans ?_⟩;show (r.hl++[iR g]).Perm (((r.eg++[g]).filter fun g=>g.e.kind != 1).map iR);rw[YJ,Zl];have:[g].filter (fun g=>g.e.kind != 1)=[g]:=by simp[m]
 rw[this];exact h.2.append_right _
theorem Hl.tM{r:Raw}(h:Hl r){g:EG}(c:g.e.kind=1):Hl { r with eg:=r.eg++[g] }:=by
 refine⟨h.1,?_⟩;show r.hl.Perm (((r.eg++[g]).filter fun g=>g.e.kind != 1).map iR);rw[YJ];have:[g].filter (fun g=>g.e.kind != 1)=[]:=by simp[c]
 rw[this,List.append_nil];exact h.2
theorem Wl.goes{r:Raw}(h:Wl r)(o:(r.eg.map (·.e.id)).Nodup)(q:(r.eg.map (·.eb)).Nodup){g:EG}(m:g∈r.eg):(r.wl.filter fun b=>!(b==g.eb))=((fJ g.e.id r.eg).filter fun g=>g.e.kind==3).map (·.eb):=by
 rw[h,List.filter_map];unfold fJ;rw[List.filter_filter,List.filter_filter]
 congr 1
 apply List.filter_congr;intro x f
 have:(x.eb==g.eb)=(x.e.id==g.e.id):=by
  by_cases e:x=g
  .subst e;simp
  .have z:x.eb≠g.eb:=fun c=>e (pA _ q f m c)
   have y:x.e.id≠g.e.id:=fun c=>e (pA _ o f m c)
   rw[beq_eq_false_iff_ne.2 z,beq_eq_false_iff_ne.2 y]
 simp only[Function.comp,this];rw[Bool.and_comm];rfl
theorem Wl.oG{r:Raw}(h:Wl r)(c:(r.eg.map (·.e.id)).Nodup){g:EG}(m:g∈r.eg)(f:g.e.kind≠3):Wl { r with eg:=fJ g.e.id r.eg }:=by
 unfold Wl at *;show r.wl=((fJ g.e.id r.eg).filter fun g=>g.e.kind==3).map (·.eb);rw[Lr c m _ (by simpa using f)];exact h
theorem Wl.comes{r:Raw}(h:Wl r){g:EG}(c:g.e.kind≠3):Wl { r with eg:=r.eg++[g] }:=by
 unfold Wl at *;show r.wl=((r.eg++[g]).filter fun g=>g.e.kind==3).map (·.eb);rw[YJ];have:[g].filter (fun g=>g.e.kind==3)=[]:=by simp[c]
 rw[this,List.append_nil];exact h
theorem Wl.mJ{r:Raw}(h:Wl r){g:EG}(c:g.e.kind=3):Wl { r with eg:=r.eg++[g],wl:=r.wl++[g.eb] }:=by
 unfold Wl at *;show r.wl++[g.eb]=((r.eg++[g]).filter fun g=>g.e.kind==3).map (·.eb);rw[YJ,Zl];have:[g].filter (fun g=>g.e.kind==3)=[g]:=by simp[c]
 rw[this,h];rfl
theorem Wl.tL{r:Raw}(h:Wl r)(f:(r.eg.map (·.e.id)).Nodup){g:EG}(o:g∈r.eg)(m:g.e.kind≠3):Wl { r with eg:=gg g.e.id 1 0 r.eg }:=by
 unfold Wl at *;show r.wl=((gg g.e.id 1 0 r.eg).filter fun g=>g.e.kind==3).map (·.eb);rw[h];unfold gg;rw[List.filter_map,List.map_map]
 have q:(r.eg.filter ((fun g=>g.e.kind==3) ∘ fun x=>if x.e.id=g.e.id then { x with e:={ x.e with kind:=1,bP:=0 } } else x))=r.eg.filter fun g=>g.e.kind==3:=by
  apply List.filter_congr;intro x c;simp only[Function.comp]
  by_cases e:x.e.id=g.e.id
  .have:x=g:=pA _ f c o e;subst this;rw[XS rfl];simp[m]
  .rw[XR e]
 rw[q];apply List.map_congr_left;intro x _;simp only[Function.comp]
 split <;> rfl
namespace aA
def mL(ts:J (XK × N))(p:J aO × J N)(e:aO):J aO × J N :=
 if eo ts p.1 e.bA e.aM e.aQ=XX then (eA e.id p.1,p.2++[e.id]) else p
def fA(e:aO):XN:=e.kind==3
theorem VM{d r:J aO}(h:dL (d++e :: r)):eA e.id (d++e :: r)=d++dI e :: r:=by
 unfold dL at h;rw[Zl,List.map_cons,List.pairwise_append,YI] at h;let⟨_,⟨h2,_⟩,h3⟩:=h;unfold eA;rw[Zl,List.map_cons,XS rfl]
 have g:d.map (fun x=>if x.id=e.id then dI x else x)=d:=by
  rw[show d=d.map id from (List.map_id d).symm,List.map_map];apply List.map_congr_left;intro x c;have:=h3 x.id (Zh.2 ⟨x,c,rfl⟩) e.id XA;simp only[Function.comp,id];rw[XR O]
 have f:r.map (fun x=>if x.id=e.id then dI x else x)=r:=by
  rw[show r=r.map id from (List.map_id r).symm,List.map_map];apply List.map_congr_left;intro x c;have:=h2 x.id (Zh.2 ⟨x,c,rfl⟩);simp only[Function.comp,id];rw[XR O]
 rw[g,f]
theorem AJ(ts:J (XK × N)):∀ (r d:J aO)(acc:J N),dL (d++r)->(r.filter fA).foldl (mL ts) (d++r,acc)=((ey ts d r).1,acc++(ey ts d r).2)
 |[],d,acc,_=>by simp[ey]
 |e :: r,d,acc,h=>by
  have x:dL ((d++[e])++r):=by simpa using h
  by_cases f:e.kind=3
  .have m:fA e=XX:=by simp[fA,f]
   rw[YK,XS m,ZT]
   by_cases g:eo ts (d++e :: r) e.bA e.aM e.aQ=XX
   .have q:=VM h
    have y:dL ((d++[dI e])++r):=by
     have:=KA (id:=e.id) h;rw[q] at this
     simpa using this
    have o:mL ts (d++e :: r,acc) e=((d++[dI e])++r,acc++[e.id]):=by
     unfold mL;simp only;rw[XS g,q];simp
    rw[o,AJ ts r _ _ y]
    have c:ey ts d (e :: r)=((ey ts (d++[dI e]) r).1,e.id :: (ey ts (d++[dI e]) r).2):=by
     rw[ey,XS ⟨f,g⟩]
    rw[c];simp
   .have o:mL ts (d++e :: r,acc) e=((d++[e])++r,acc):=by
     unfold mL;simp only;rw[XR g];simp
    rw[o,AJ ts r _ _ x]
    have c:ey ts d (e :: r)=ey ts (d++[e]) r:=by
     rw[ey,XR (fun h=>g h.2)]
    rw[c]
  .have m:¬ (fA e=XX):=by simp[fA,f]
   rw[YK,XR m]
   have c:ey ts d (e :: r)=ey ts (d++[e]) r:=by
    rw[ey,XR (fun h=>f h.1)]
   rw[c,<- AJ ts r _ _ x];simp
theorem Ap(ts:J (XK × N))(es:J aO)(h:dL es):dB ts es=(es.filter fA).foldl (mL ts) (es,[]):=by
 have:=AJ ts es [] [] (by simpa using h);simp only[List.nil_append] at this;rw[this];rfl
end aA
theorem Step.dG{S:bH->Prop}{g f:XP->XM bH}(h:Step S B g f w w'){b:XP}(o:g b=XU)(q:b<B):f b=XU:=by
 cases e:f b with
 |none=>rfl
 |some c =>
  rcases h.new b c e with m|m
  .rw[o] at m;cases m
  .omega
theorem Step.own{S:bH->Prop}{g f:XP->XM bH}{c e size:XP}(h:Step S B g f w w')(o:w.ownsRow c e size v n xs)(m:∀ b,v.ownBlock=U b->g b=XU/\b<B):w'.ownsRow c e size v n xs:=by
 let⟨G,a1,a2⟩:=h.left;exact cV o a1 (fun b q=>a2 b (.inr (m b q)))
theorem DK.none{r:Raw}{f:XP->XM bH}(h:DK w d r f){b:XP}(g:w.heap.size<=b):f b=XU:=by
 cases e:f b with
 |none=>rfl
 |some c=>have:=h.lt _ _ e;omega
structure dY(w:XY)(B:XP)(aN:XP->XM bH)(v:XZ)(l:J N):Prop where
 own:w.ownsRow B 3 1 v l.length (l.map (Value.int Y))
 no:∀ b,v.ownBlock=U b->aN b=XU
theorem dY.nil(w:XY)(B:XP)(c:XP->XM bH):dY w B c () []:=⟨World.ownsRow_nil _ _ _ _,fun b f=>by cases f⟩
theorem dY.step{S:bH->Prop}{f c:XP->XM bH}(h:dY w B0 f v l)(st:Step S B f c w w')(o:w<=B):dY w' B0 c v l:=by
 have m:∀ b,v.ownBlock=U b->f b=XU/\b<B:=fun b g=>⟨h.no b g,Zg (h.own.lt b g).2 o⟩
 exact⟨st.own h.own m,fun b g=>st.dG (m b g).1 (m b g).2⟩
theorem dY.later{c:XP->XM bH}(h:dY w B0 c v l)(k:X0 w w w'):dY w' B0 c v l:=⟨eQ h.own k,h.no⟩
theorem dY.slice{c:XP->XM bH}(h:dY w B c v l):∃ a cap,v=X9 a l.length cap:=by
 rcases h.own.2 with ⟨rfl,f⟩|⟨g,cap,_,rfl,_⟩
 .rw[f];exact⟨_,_,rfl⟩
 .exact⟨_,_,rfl⟩
def anyS(_:bH):Prop:=True
theorem Step.any{S:bH->Prop}{f c:XP->XM bH}(h:Step S B f c w w')(g:B'<=B):Step anyS B' f c w w':=h.mono (fun _ _=>trivial) g
open aA (aO St dL kept eA dI dE im cN cO iu dZ ie)
theorem DE:∀ (l:J N)(a b:N),l.Pairwise (· < ·)->(∀ x∈l,a<=x/\x<=b)->(l.length:N)<=max 0 (b-a+1)
 |[],a,b,_,_=>by simp;omega
 |x :: l,a,b,h,hb=>by
  rw[YI] at h;have f:=hb x XA;have ih:=DE l (x+1) b h.2 (fun y c=>⟨by have:=h.1 y c;omega,(hb y (by simp[c])).2⟩);simp only[Y0];omega
theorem jM(h:dZ s):s.es.length<=60:=by
 have f:(s.es.map fun e:aO=>e.id).Pairwise (· < ·):=h.ids
 have:=DE _ 1 60 f (fun x c=>by
  obtain⟨e,g,rfl⟩:=Zh.1 c;have o:=h.lS e g;have m:=h.g1
  omega)
 rw[ZE] at this;omega
theorem Kk{α:Type}:∀ (l m:J α),l.Nodup->(∀ x∈l,x∈m)->l.length<=m.length
 |[],m,_,_=>by simp
 |a :: l,m,h,hs=>by
  rw[Yx] at h;obtain⟨o,g,rfl⟩:=List.append_of_mem (hs a XA)
  have:=Kk l (o++g) h.2 (fun x c=>by
   have f:=hs x (by simp[c]);simp only[Yv,Yu] at f ⊢;rcases f with e|e|e
   .exact .inl e
   .subst e;exact XT c h.1
   .exact .inr e)
  simp only[YZ,Y0] at this ⊢;omega
theorem Kp(at_:N->XP):∀ (es:J aO),(∀ e∈es,e.aQ.length<=40)->(es.flatMap fun e=>e.aQ.map fun s=>(⟨s.1,s.2,e.id,at_ e.id⟩:aF.It)).length<=40*es.length
 |[],_=>by simp
 |e :: es,h=>by
  have ih:=Kp at_ es (fun x c=>h x (by simp[c]));have:=h e XA;simp only[List.flatMap_cons,YZ,ZE,Y0];omega
theorem UF{l:J aF.It}(h:aF.Ord l):l.Nodup:=by
 rw[List.nodup_iff_pairwise_ne];refine List.Pairwise.imp ?_ h;intro a b c e;subst e;unfold aF.lt at c;omega
theorem UV{at_:N->XP}{T:aF.S}(h:im name es at_ T)(o:es.length<=60)(c:∀ e∈es,e.aQ.length<=40):aF.size T<=9000:=by
 have m:=Kk _ (es.flatMap fun e=>e.aQ.map fun s=>(⟨s.1,s.2,e.id,at_ e.id⟩:aF.It)) (UF h.1) (fun z f=>by
  obtain⟨e,g,_,s,c,rfl⟩:=(h.2 z).1 f
  exact List.mem_flatMap.2 ⟨e,g,Zh.2 ⟨s,c,rfl⟩⟩)
 have q:=Kp at_ es c;rw[aF.nS] at m;omega
theorem C7{r:Raw}(h:dZ s)(f:Of s r){now:N}(c:ie now e)(g:i<r.tg.length):Fit r.tg[i] e:=by
 let⟨t1,t2⟩:=f.th i g;refine⟨c.sp,fun p=>?_,c.u1,c.u9,by have:=c.sl;omega⟩;have:=aA.vh r.tg[i].name p s.es h.small;have:=jM h;rw[t1];omega
theorem EO(h:dZ s):aA.xu s.es:=fun e f q c=>((h.en e f).sp q c).2.1
theorem J5{r:Raw}(h:dZ s)(f:Of s r)(c:pN e.aQ)(q:1<=e.aM)(g:i<r.tg.length)(o:r.tg[i].name=e.bA):
  lP (cS r.tg[i].A e.aQ e.aM) r.tg[i].aM e.aQ=aA.eo s.ts s.es e.bA e.aM e.aQ:=by
 have m:=El h.tn (i:=i) (by rw[<- f.len];exact g);rw[f.kU g] at m;rw[(f.th i g).1,o] at *;exact aA.UO h.small (EO h) c O m
theorem Dw{r:Raw}(h:dZ s)(c:Of s r)(f:i<r.tg.length):aF.Ord (aF.cH r.tg[i].T)/\aF.size r.tg[i].T<=9000:=by
 let⟨_,t2⟩:=c.th i f;exact⟨t2.1,UV t2 (jM h) (fun e g=>(h.en e g).sl)⟩
theorem Th{r:Raw}(h:dZ s)(c:Of s r){g:EG}(q:g∈r.eg)(m:g.e.kind≠3)(o:i<r.tg.length)(f:r.tg[i].name=g.e.bA):∀ p,0<=cS r.tg[i].A g.e.aQ (-g.e.aM) p:=by
 intro p;have y:cN r.tg[i].name g.e=XX:=by simp[cN,f,aA.sV,m]
 rw[(c.th i o).1,aA.Ek y h.ids (c.mem q)];exact (aA.vh _ p _ (fun e x=>h.small e (aA.uk.1 x).1)).1
open aA (aO St dL kept eA dI dE im cN cO iu dZ ie mL)
noncomputable def og(Gr:J N)(g:EG):EG:=@ite _ (g.e.id∈Gr) (Classical.propDecidable _) { g with e:=dI g.e } g
theorem tX{g:EG}(h:g.e.id∈Gr):og Gr g={ g with e:=dI g.e }:=XS h
theorem sQ{g:EG}(h:g.e.id ∉ Gr):og Gr g=g:=XR h
noncomputable def oh(Gr:J N)(c:J EG):J EG:=c.map (og Gr)
theorem Tu(eg:J EG):oh [] eg=eg:=by
 unfold oh
 conv=>rhs;rw[<- List.map_id eg]
 apply List.map_congr_left;intro g _;rw[sQ XA];rfl
theorem Vc(Gr:J N)(id:N)(eg:J EG):gg id 1 0 (oh Gr eg)=oh (Gr++[id]) eg:=by
 unfold gg oh;rw[List.map_map];apply List.map_congr_left;intro g _;simp only[Function.comp]
 by_cases f:g.e.id∈Gr
 .rw[tX f,tX (List.mem_append_left _ f)]
  split <;> rfl
 .rw[sQ f]
  by_cases c:g.e.id=id
  .rw[XS c,tX (List.mem_append_right _ (by rw[c];exact List.mem_singleton.2 rfl))];rfl
  .rw[XR c,sQ (fun h=>by rcases Yv.1 h with e|e;exact f e;exact c (List.mem_singleton.1 e))]
theorem Tt{eg:J EG}{g:EG}(c:g∈eg)(h:g.e.id ∉ Gr):g∈oh Gr eg:=by
 unfold oh;exact Zh.2 ⟨g,c,sQ h⟩
theorem Sv(Gr:J N)(eg:J EG)(p:XP->XN)(o:∀ g∈eg,g.e.kind=3->(p g.eb=XX↔g.e.id∈Gr)):(((eg.filter fun g=>g.e.kind==3).map (·.eb)).filter fun b=>!p b)=((oh Gr eg).filter fun g=>g.e.kind==3).map (·.eb):=by
 induction eg with
 |nil=>rfl
 |cons g eg ih =>
  have ih:=ih (fun x r=>o x (List.mem_cons_of_mem _ r));have y:oh Gr (g :: eg)=og Gr g :: oh Gr eg:=rfl;rw[y]
  by_cases m:g.e.kind=3
  .have c:(g.e.kind==3)=XX:=by rw[m];rfl
   rw[YK,XS c,List.map_cons,YK]
   by_cases f:g.e.id∈Gr
   .have q:p g.eb=XX:=(o g List.mem_cons_self m).2 f;rw[XR (by rw[q];simp),tX f,YK,XR (by simp[dI])];exact ih
   .have q:p g.eb=XW:=by
     cases h:p g.eb
     .rfl
     .exact XT ((o g List.mem_cons_self m).1 h) f
    rw[XS (by rw[q];rfl),sQ f,YK,XS c,List.map_cons,ih]
  .have c:¬ ((g.e.kind==3)=XX):=by simpa using m
   rw[YK,XR c,YK]
   by_cases f:g.e.id∈Gr
   .rw[tX f,XR (by simp[dI])];exact ih
   .rw[sQ f,XR c];exact ih
def fV(s:St)(k:XP):J aO × J N:=((s.es.filter aA.fA).take k).foldl (mL s.ts) (s.es,[])
theorem Jq(s:St):fV s 0=(s.es,[]):=rfl
theorem Jp(s:St)(c:k<(s.es.filter aA.fA).length):fV s (k+1)=mL s.ts (fV s k) (s.es.filter aA.fA)[k]:=by
 unfold fV;rw[Zc c,List.foldl_append];rfl
theorem Ri(s:St)(h:dL s.es)(c:(s.es.filter aA.fA).length<=k):fV s k=aA.dB s.ts s.es:=by
 unfold fV;rw[Ze c,aA.Ap s.ts s.es h]
structure GX(w wx:XY)(d:XP)(s:St)(r:Raw)(aN:XP->XM bH)(v4:XZ)(k:XP)(v:XZ)(rk:Raw)(ck:XP->XM bH):Prop where
 dk:DK wx d rk ck
 of:Of { s with es:=(fV s k).1 } rk
 hl:Hl rk
 wl:rk.wl=r.wl
 eg:rk.eg=oh (fV s k).2 r.eg
 st:Step anyS w aN ck w wx
 nr:dY wx w ck v (fV s k).2
 aY:dZ { s with es:=(fV s k).1 }
 gm:∀ x∈(fV s k).2,∃ e∈(s.es.filter aA.fA).take k,e.id=x
 row:wx.ownsRow 0 197 1 v4 r.wl.length (r.wl.map kr)
 rc:∀ b,v4.ownBlock=U b->ck b=U .wa
def GI(w wx:XY)(d:XP)(s:St)(r:Raw)(c:XP->XM bH)(v4:XZ)(k:XP)(v:XZ):Prop:=∃ f g,GX w wx d s r c v4 k v f g
def xM(w:XY)(d:XP)(s:St)(g:XP->XM bH)(v:XZ)(w':XY):Prop :=
 ∃ (f:Raw) (c:XP->XM bH),DK w' d f c/\Of { s with es:=(aA.dB s.ts s.es).1 } f/\Wl f/\Hl f/\Step anyS w g c w w'/\dY w' w c v (aA.dB s.ts s.es).2
theorem GX.next{r:Raw}{y:XP->XM bH}{z:Raw}{R:XP->XM bH}(h:GX w wx d s r y v4 k v z R)(K:Of s r)(A:Wl r)(x:dL s.es)(C:k<r.wl.length):
  ∃ (g:EG) (c:k<(s.es.filter aA.fA).length),g∈r.eg/\g∈z.eg/\g.eb=r.wl[k]/\g.e=(s.es.filter aA.fA)[k]/\g.e.kind=3/\g.e.id ∉ (fV s k).2:=by
 have E:s.es.filter aA.fA=(r.eg.filter fun g=>g.e.kind==3).map (·.e):=by
  rw[<- K.es,List.filter_map];rfl
 have q:k<(r.eg.filter fun g=>g.e.kind==3).length:=by
  have:=C;rw[A,ZE] at this;exact this
 have c:k<(s.es.filter aA.fA).length:=by rw[E,ZE];exact q
 have m:((r.eg.filter fun g=>g.e.kind==3)[k]).e=(s.es.filter aA.fA)[k]:=by simp only[E,List.getElem_map]
 have o:=List.mem_filter.1 (zg q)
 have f:((r.eg.filter fun g=>g.e.kind==3)[k]).e.id ∉ (fV s k).2:=by
  intro H;let⟨e,he,e2⟩:=h.gm _ H;obtain⟨j,P,rfl⟩:=List.getElem_of_mem he;rw[List.length_take] at P;rw[List.getElem_take,m] at e2
  have I:(s.es.filter aA.fA).Pairwise fun a b=>a.id<b.id:=by
   have:=aA.xQ aA.fA x;unfold dL at this;rw[List.pairwise_map] at this;exact this
  have:=List.pairwise_iff_getElem.1 I j k O c O;omega
 refine⟨_,c,o.1,?_,?_,m,by simpa using o.2,f⟩
 .rw[h.eg];exact Tt o.1 f
 .have D:r.wl[k]?=U ((r.eg.filter fun g=>g.e.kind==3)[k]).eb:=by rw[A,List.getElem?_map,ZV q];rfl
  rw[ZV C] at D;exact (Option.some.inj D).symm
theorem GX.no{r:Raw}{f:XP->XM bH}{m:Raw}{z c1:XP->XM bH}(h:GX w wx d s r f v4 k v m z)(c:k<(s.es.filter aA.fA).length)(A:DK w1 d m c1)(g:Step (·=.bA i) wx z c1 wx w1)(C:aA.eo s.ts (fV s k).1 (s.es.filter aA.fA)[k].bA (s.es.filter aA.fA)[k].aM (s.es.filter aA.fA)[k].aQ=XW):
  GX w w1 d s r f v4 (k+1) v m c1:=by
 have e:fV s (k+1)=fV s k:=by
  rw[Jp s c];unfold mL;rw[XR (by rw[C];simp)]
 let⟨G,a1,a2⟩:=g.left;refine⟨A,by rw[e];exact h.of,h.hl,h.wl,by rw[e];exact h.eg,h.st.trans (g.any h.st.size),by rw[e];exact h.nr.step g aI,by rw[e];exact h.aY,fun x q=>?_,cV h.row a1 (fun b o=>a2 b (.inl ⟨_,h.rc b o,by simp⟩)),fun b o=>g.hI _ _ (h.rc b o)⟩;rw[e] at q;let⟨y,hy,e2⟩:=h.gm x q;rw[Zc c];exact⟨y,List.mem_append_left _ hy,e2⟩
theorem Ti(h:dZ s)(g:e∈s.es)(c:e.kind=3)(f:aA.eo s.ts s.es e.bA e.aM e.aQ=XX):dZ { s with es:=eA e.id s.es }:=by
 let⟨l,r,e1,e2,_⟩:=aA.Lp h.ids g rfl;have m:dZ ⟨s.ts,l++e :: r,s.given,s.now⟩:=by rw[<- e1];exact h
 have:=m.rL c (by rw[<- e1];exact f);rw[e2];exact this
theorem GX.yes{r:Raw}{S:XP->XM bH}{m:Raw}{ck c1:XP->XM bH}(h:GX w wx d s r S v4 k v m ck)(R:k<(s.es.filter aA.fA).length){g:EG}(hg:g∈m.eg)(I:g.e=(s.es.filter aA.fA)[k])(P:g.e.kind=3)(hi:i<m.tg.length)(H:m.tg[i].name=g.e.bA)
  (W:Step (·=.bA i) wx ck c1 wx w1) (sp:Es w1 d (m.dU i (m.tg[i].with (cS m.tg[i].A g.e.aQ g.e.aM) (ia g.e.id g.eb m.tg[i].T g.e.aQ))) c1 g w2) (hf:aA.eo s.ts (fV s k).1 g.e.bA g.e.aM g.e.aQ=XX)
  (ho:aH v.ownBlock.toList w2 w3) (ab:∀ c2,(∀ b,v.ownBlock=U b->c2 b=XU)->(∀ b,w2.heap.size<=b->c2 b=XU)->dY w3 w c2 v' ((fV s k).2++[g.e.id])):
  GI w w3 d s r S v4 (k+1) v':=by
 obtain⟨x,l',c2,e1,e2,p1,p2,p3,X⟩:=sp;have ac:aA.eo s.ts (fV s k).1 (s.es.filter aA.fA)[k].bA (s.es.filter aA.fA)[k].aM (s.es.filter aA.fA)[k].aQ=XX:=by rw[<- I];exact hf
 have e:fV s (k+1)=(eA g.e.id (fV s k).1,(fV s k).2++[g.e.id]):=by
  rw[Jp s R];unfold mL;rw[XS ac,I]
 have hn:=h.dk.ni;have K:=(h.of.book h.aY.tn h.aY.ids hn hg P ((h.aY.en _ (h.of.mem hg)).ri) hi H).1;have D:=(h.nr.step W aI).step X aI;have o:∀ b,v.ownBlock=U b->c2 b=XU:=D.no;have hD:DK w3 d _ c2:=p3.off ho (fun y c=>o y (ZL.1 c));have aa:Step anyS w c2 c2 w2 w3:=⟨⟨_,ho,fun y c=>.inr ⟨o y (ZL.1 c),(D.own.lt y (ZL.1 c)).1⟩⟩,fun _ _ h=>h,fun _ _ h=>.inl h⟩;have t1:=h.st.trans (W.any h.st.size);have t2:=t1.trans (X.any t1.size);obtain⟨G1,a1,a2⟩:=W.left;obtain⟨G2,b1,b2⟩:=X.left;have C:∀ b,v4.ownBlock=U b->c1 b=U .wa:=fun b f=>W.hI _ _ (h.rc b f)
 have q:∀ b,v4.ownBlock=U b->c2 b=U .wa:=fun b f=>X.hI _ _ (C b f)
 have E:=cV (cV h.row a1 (fun b f=>a2 b (.inl ⟨_,h.rc b f,by simp⟩))) b1 (fun b f=>b2 b (.inl ⟨_,C b f,by unfold zV;simp⟩));refine⟨_,c2,hD,⟨K.now,K.given,K.ts,by rw[e];exact K.es,by rw[e];exact K.th,K.tb⟩,h.hl.book (r:=m) hn hg O e2 p1 p2,h.wl,?_,t2.trans aa,by rw[e];exact ab c2 o (fun b f=>p3.none f),?_,fun y c=>?_,cV E ho (fun b f hx=>?_),q⟩
 .rw[e];show gg g.e.id 1 0 m.eg=oh ((fV s k).2++[g.e.id]) r.eg;rw[h.eg,Vc]
 .rw[e];exact Ti h.aY (h.of.mem hg) P hf
 .rw[e] at c;rw[Zc R];rcases Yv.1 c with c|c
  .obtain⟨z,hz,e3⟩:=h.gm y c;exact⟨z,List.mem_append_left _ hz,e3⟩
  .have:y=g.e.id:=List.mem_singleton.1 c;exact⟨_,List.mem_append_right _ (List.mem_singleton.2 rfl),by rw[<- I,this]⟩
 .have:=o b (ZL.1 hx);rw[q b f] at this;cases this
theorem I9{g:EG}(c:g.e.kind=3):((og Gr g).e.kind==1)=XX↔g.e.id∈Gr:=by
 by_cases h:g.e.id∈Gr
 .rw[tX h];simp[h,dI]
 .rw[sQ h];simp[h,c]
theorem Q4(Gr:J N)(g:EG):(og Gr g).eb=g.eb:=by
 by_cases h:g.e.id∈Gr
 .rw[tX h]
 .rw[sQ h]
def wX(c:J EG)(Gr:J N)(b:XP):XN:=c.any fun g=>decide (g.eb=b) && Gr.any fun x=>decide (x=g.e.id)
theorem QE(c:J EG)(Gr:J N)(C:(c.map (·.eb)).Nodup):∀ g∈c,g.e.kind=3->(og Gr g).eb=g.eb/\((og Gr g).e.kind==1)=wX c Gr g.eb:=by
 intro g m D;refine⟨Q4 Gr g,?_⟩;have z:=I9 (Gr:=Gr) D
 have r:wX c Gr g.eb=XX↔g.e.id∈Gr:=by
  unfold wX;rw[List.any_eq_true];constructor
  .rintro ⟨x,A,f⟩;rw[ZR,decide_eq_true_iff,List.any_eq_true] at f;let⟨f,y,hy,e2⟩:=f;have:x=g:=pA _ C A m f;have E:y=x.e.id:=of_decide_eq_true e2;rw[<- this,<- E];exact hy
  .intro h;refine⟨g,m,?_⟩;rw[ZR,decide_eq_true_iff,List.any_eq_true];exact⟨rfl,g.e.id,h,decide_eq_true rfl⟩
 cases q:((og Gr g).e.kind==1) <;> cases o:wX c Gr g.eb
 .rfl
 .exact XT (z.2 (r.1 o)) (by rw[q];simp)
 .exact XT (r.2 (z.1 q)) (by rw[o];simp)
 .rfl
theorem xN(ts:J (XK × N)):∀ (l:J aO)(p:J aO × J N),(l.foldl (mL ts) p).2.length<=p.2.length+l.length
 |[],p=>by simp
 |e :: l,p=>by
  have ih:=xN ts l (mL ts p e);have:(mL ts p e).2.length<=p.2.length+1:=by unfold mL;split <;> simp
  simp only[ZT,Y0];omega
theorem Rj(s:St)(k:XP):(fV s k).2.length<=k:=by
 have:=xN s.ts ((s.es.filter aA.fA).take k) (s.es,[]);have c:=Zk k (s.es.filter aA.fA);unfold fV;simp only[List.length_nil] at this;omega
theorem JS{r:Raw}{q:XP->XM bH}(h:DK w d r q)(ho:Of s r)(hw:Wl r)(hh:Hl r)(hm:dZ s):
  X4 prog 65 #[d] w fun e w'=>∃ v,e=Yg v/\xM w d s q v w':=by
 obtain⟨i0,bg,bc,ba,a9⟩:=info_parts pg;obtain⟨v4,c4,C,ax⟩:=h.wa
 have bs:r.wl.length<=60:=by
  rw[hw,ZE];have h1:=ZA (fun g:EG=>g.e.kind==3) r.eg;have h2:=jM hm;have h3:r.eg.length=s.es.length:=by rw[<- ho.es];simp
  omega
 have G0:Hid (GI w w d s r q v4 0 ()):=⟨r,q,h,ho,hh,rfl,by rw[Jq,Tu],Step.refl _ _ _ _,dY.nil _ _ _,hm,fun x hx=>by rw[Jq] at hx;simp at hx,C,ax⟩;have K:=aC (Yz h (Yz ho (Yz hw (Yz hh hm))))
 have hv:∃ a cap,v4=X9 a r.wl.length cap:=by
  rcases C.2 with ⟨rfl,h⟩|⟨g,cap,_,rfl,_⟩
  .rw[h];exact⟨_,_,rfl⟩
  .exact⟨_,_,rfl⟩
 obtain⟨a,cap,rfl⟩:=hv;clear h ho hw hh hm C ax
 go_in
 go_wp21
 go_loopw [3,5,11] (fun vg _ vi wx=>∃ k:XP,k<=r.wl.length/\vi=V Y k/\GI w wx d s r q (X9 a r.wl.length cap) k vg) (fun _ _ vi _=>r.wl.length-(intOf vi).toNat)
 .exact⟨0,Zd _,rfl,G0⟩
 .obtain⟨k,hk,rfl,P,ck,X⟩:=hrel
  by_cases ak:k<r.wl.length
  .have bm:(k:N)<(r.wl.length:N):=O
   obtain⟨g,ar,au,m,E,aa,W,ao⟩:=X.next K.2.1 K.2.2.1 K.2.2.2.2.ids ak;obtain⟨Hh,bn,e1⟩:=Joins.ownsRow_form X.row O;simp only[Value.slice.injEq,true_and] at e1;obtain⟨rfl,rfl⟩:=e1;have a0:=X.row.cellAt k O;rw[List.getElem?_map,ZV ak,Option.map_some,<- E] at a0;unfold kr at a0;obtain⟨R,H,q3⟩:=X.dk.en g m;have co:=R.en.c1;obtain⟨i,hi,c,S⟩:=X.of.tb g m;have y:=X.aY.en _ (X.of.mem m);have A:=C7 X.aY X.of y hi;have ad:=J5 X.aY X.of y.sp y.u1 hi c;have ac:=Dw X.aY X.of hi;have I:=aC X;have HG:=aC (Yz m (Yz aa (Yz W (Yz c H))))
   cases hf:aA.eo s.ts (fV s k).1 g.e.bA g.e.aM g.e.aQ
   .have TK:=aC (Jc X.dk i hi R S (by rw[H];simp) (by rw[q3];simp) A (ad.trans hf))
    have FN:Hid (aA.eo s.ts (fV s k).1 (s.es.filter aA.fA)[k].bA (s.es.filter aA.fA)[k].aM (s.es.filter aA.fA)[k].aQ=XW):=by
     show _=_;rw[<- aa];exact hf
    have HK:=aC ar;clear hf ad A ac y R H q3 X m aa W c ao au E S
    go_wp21
    refine TK.mono ?_;rintro e w1 ⟨rfl,c1,p1,p2⟩;have HN:Hid (GI w w1 d s r q (X9 Hh r.wl.length cap) (k+1) u3):=⟨P,c1,I.no HK p1 p2 FN⟩;clear p1 p2 TK I HG a0 co FN
    go_wp21
    go_roundw
    .exact⟨k+1,O,by go_num,HN⟩
    .simp[intOf];omega
   .have a3:zv P.tg[i].T g.e.id g.e.aQ:=⟨ac.1,ac.2,(X.of.book X.aY.tn X.aY.ids X.dk.ni m W y.ri hi c).2,EP y.ri⟩;have TK:=aC (Ke X.dk i hi R S (by rw[H];simp) (by rw[q3];simp) A a3 (ad.trans hf));have HF:=aC hf;have bu:(fV s k).2.length<=60:=by have:=Rj s k;omega
    have ai:P.hl.length<=1000:=by
     have h1:=X.hl.len
     have h2:P.eg.length=(fV s k).1.length:=by have:=X.of.es;rw[<- ZE (f:=(·.e)),this]
     have h3:=jM X.aY;simp only at h3;omega
    have ae:=aC (Yz X.hl.1 (Yz ai (X.hl.has m O)));have HK:=aC ar;clear hf ad A ac y R H q3 X m aa W ao au E S a3 ai;have a8:=aC c;clear c
    go_wp21
    refine TK.mono ?_;rintro e w1 ⟨rfl,c1,p1,p2⟩;have ST:=aC (KE p1 ae.1 ae.2.1 (g:=g) HG.1 ⟨iR g,ae.2.2,rfl,rfl⟩);have P2:=aC p2;clear p1 p2 TK a0 co
    go_wp21
    refine ST.mono ?_;rintro e w2 ⟨rfl,sp⟩;have SP:=aC sp;obtain⟨x,l',c2,e1,e2,s1,s2,s3,s4⟩:=sp;have z:({ g with e:={ g.e with kind:=1,bP:=0 } }:EG)∈gg g.e.id 1 0 P.eg:=Zh.2 ⟨g,HG.1,XS rfl⟩;have b5:w2.cell? (g.eb,0)=U ↑g.e.id:=(s3.en _ z).1.en.c0;have NR:=aC ((I.nr.step P2 aI).step s4 aI);have bq:w<=w2.heap.size:=Yk (Yk I.st.size P2.size) s4.size;clear s1 s2 s3 s4 e1 e2 z ST
    go_wp2_with (first
     |(at_builtin;refine wpList_append_lies _ rfl _ _ 38 rfl w 3 i0 _ 1 8 underlying38 bg bc ba a9 rfl XC _ _ _ rfl (NR.own.alloc _) (w2,0) 1 1 [g.e.id] rfl rfl (ZF (cs:=#[g.e.id]) (cP w2 _)) XI O XH O XG (w2.heap.size+1) XA ?_;intro g2 a7 w3 ag D az bj))
    have ko:aH u3.ownBlock.toList w2 w3:=aH.grown ((aH.refl _ w2).alloc _) D (fun k hk=>.inl (ZL.2 hk));have aj:u3.ownBlock=U g2\/g2=w2+1:=az
    have HN:Hid (GI w w3 d s r q (X9 Hh r.wl.length cap) (k+1) (X9 g2 ((fV s k).2.length+1) a7)) :=
     I.yes HK HG.1 HG.2.1 HG.2.2.1 hi a8 P2 SP HF ko (fun c2 n1 n2=>⟨by rw[YZ,Zl];exact ag,fun b hb=>by
      have:g2=b:=by simpa[ZB] using hb
      subst this;rcases aj with e|e
      .exact n1 g2 e
      .exact n2 g2 O⟩)
    clear ag D az ko aj I HG HK SP NR P2 a8 HF ae;go_roundw
    .exact⟨k+1,O,by go_num,HN⟩
    .simp[intOf];omega
  .have bv:¬ ((k:N)<(r.wl.length:N)):=O
   obtain⟨v,al,af,ab⟩:=X.dk.wa;have f4:=X.dk.fz 4;have hd:=X.dk.dc;have an:d ∉ v.ownBlock.toList:=fun e=>by have:=ab _ (ZL.1 e);rw[hd] at this;cases this
   have bf:(s.es.filter aA.fA).length<=k:=by
    have h1:=K.2.2.1
    have h2:s.es.filter aA.fA=(r.eg.filter fun g=>g.e.kind==3).map (·.e):=by rw[<- K.2.1.es,List.filter_map];rfl
    rw[h2,ZE];rw[h1,ZE] at ak;omega
   have av:=Ri s K.2.2.2.2.ids bf;have PB:=aC (QE r.eg (fV s k).2 K.1.nd);generalize wX r.eg (fV s k).2=p at PB
   have DL:=aC (FP (.inl ⟨rfl,rfl⟩) P.wl p v wr (fun wx ko b hb=>by
    have ay:b∈r.wl:=by rw[<- X.wl];exact hb
    rw[K.2.2.1] at ay;obtain⟨g,hg,rfl⟩:=Zh.1 ay;obtain⟨aw,bi⟩:=List.mem_filter.1 hg;have bh:g.e.kind=3:=by simpa using bi
    have z:og (fV s k).2 g∈P.eg:=by rw[X.eg];exact Zh.2 ⟨g,aw,rfl⟩
    obtain⟨R,H,q3⟩:=X.dk.en _ z;have aq:wx.cell? ((og (fV s k).2 g).eb,1)=U (V Y (og (fV s k).2 g).e.kind):=ko.cell (fun e=>by have:=ab _ (ZL.1 e);rw[H] at this;cases this) R.k;obtain⟨e1,e2⟩:=PB g aw bh;rw[e1] at aq;rw[<- e2]
    exact Wu g.eb _ wx aq) af (by rw[X.wl];omega))
   have VC:=aC (Yz ab an);have I:=aC X;clear X af ab an hd
   go_wp21
   refine DL.mono ?_;rintro e w2 ⟨v',rfl,k1,k2,k3⟩
   obtain⟨va,vn,vc,rfl⟩:∃ a n cap,v'=X9 a n cap:=by
    rcases k2.2 with ⟨e,_⟩|⟨_,_,_,e,_⟩
    .exact⟨_,_,_,e⟩
    .exact⟨_,_,_,e⟩
   have b4:=k1.cell VC.2 al;have bz:=(k1.frozen (o:=4) VC.2 (Yl _ _ al)).trans f4;have SW:=aC (I.dk.jS VC.1 k1 k2 (fun b hb=>.inl (by rw[<- k3];exact hb)))
   have HF:Hid (xM w d s q u3 (w2.setCell (d,4) (X9 va vn vc))):=by
    obtain⟨a4,R,H⟩:=SW;have X:=I.out;refine⟨_,a4,R,?_,?_,X.hl,X.st.trans (H.any X.st.size),?_⟩
    .have o:=X.of;rw[av] at o;exact⟨o.now,o.given,o.ts,o.es,o.th,o.tb⟩
    .show (P.wl.filter fun b=>!p b)=(P.eg.filter fun g=>g.e.kind==3).map (·.eb);rw[X.wl,K.2.2.1,X.eg];exact Sv _ _ p (fun g hg hk=>by rw[<- (PB g hg hk).2];exact I9 hk)
    .rw[<- av];exact X.nr.step H aI
   clear k1 k2 k3 DL al f4 SW I VC PB K
   go_wp21
   go_ret;exact⟨_,rfl,HF⟩
open aA (aO St dL kept eA dI dE im cN cO iu dZ ie bO)
def gb(s:St)(t:N):J aO:=s.es.filter (bO t)
def mY(s:St)(t:N)(k:XP):J aO:=((gb s t).take k).foldl (fun es e=>kept e.id es) s.es
theorem Se(s:St)(t:N)(c:k<(gb s t).length):mY s t (k+1)=kept (gb s t)[k].id (mY s t k):=by
 unfold mY;rw[Zc c,List.foldl_append];rfl
theorem Sl(l:J aO):∀ es:J aO,l.foldl (fun es e=>kept e.id es) es=es.filter fun x=>l.all fun e=>x.id != e.id:=by
 induction l with
 |nil=>intro es;exact (List.filter_eq_self.2 (fun _ _=>rfl)).symm
 |cons e l ih =>
  intro es;rw[ZT,ih];unfold kept;rw[List.filter_filter];apply List.filter_congr;intro x _;rw[List.all_cons,Bool.and_comm]
theorem CN(s:St)(t:N)(k:XP):mY s t k=s.es.filter fun x=>((gb s t).take k).all fun e=>x.id != e.id:=Sl _ _
theorem Rc(s:St)(t:N)(c:dL s.es)(m:(gb s t).length<=k):mY s t k=s.es.filter fun e=>!bO t e:=by
 rw[CN,Ze m];apply List.filter_congr;intro x f
 cases h:bO t x
 .rw[Bool.not_false,ZZ];intro e o;let⟨he1,he2⟩:=List.mem_filter.1 o
  have:x.id≠e.id:=fun q=>by
   have:=c.one f he1 q;subst this;rw[h] at he2;cases he2
  simpa using this
 .rw[Yq]
  cases g:(gb s t).all fun e=>x.id != e.id
  .rfl
  .rw[ZZ] at g;have:=g x (List.mem_filter.2 ⟨f,h⟩);simp at this
theorem zT:e∈mY s t k↔e∈s.es/\∀ x∈(gb s t).take k,e.id≠x.id:=by
 rw[CN,List.mem_filter,ZZ];constructor
 .rintro ⟨g,f⟩;exact⟨g,fun x c=>by simpa using f x c⟩
 .rintro ⟨g,f⟩;exact⟨g,fun x c=>by simpa using f x c⟩
theorem IJ(c:dL s.es)(t:N):(gb s t).Pairwise fun a b=>a.id<b.id:=by
 have:=aA.xQ (bO t) c;unfold dL at this;rw[List.pairwise_map] at this;exact this
theorem Sd(o:dL s.es)(C:e∈mY s t k)(D:bO t e=XX)(h:∀ x∈mY s t k,bO t x=XX->e.id<=x.id):∃ f:k<(gb s t).length,e=(gb s t)[k]:=by
 let⟨h1,h2⟩:=zT.1 C;have r:e∈gb s t:=List.mem_filter.2 ⟨h1,D⟩;obtain⟨j,z,rfl⟩:=List.getElem_of_mem r;have g:=List.pairwise_iff_getElem.1 (IJ o t)
 have y:k<=j:=by
  by_cases c:j<k
  .exact XT rfl (h2 (gb s t)[j] (by
    have:j<((gb s t).take k).length:=by rw[List.length_take];omega
    have E:=zg this
    rwa [List.getElem_take] at E))
  .omega
 have f:k<(gb s t).length:=O
 refine⟨f,?_⟩
 by_cases c:j=k
 .subst c;rfl
 .have m:(gb s t)[k]∈mY s t k:=by
   refine zT.2 ⟨(List.mem_filter.1 (zg f)).1,fun x q H=>?_⟩;obtain⟨i,A,rfl⟩:=List.getElem_of_mem q;rw[List.getElem_take] at H;rw[List.length_take] at A;have:=g i k O f O;omega
  have K:=h _ m (List.mem_filter.1 (zg f)).2;have I:=g k j f z O;omega
theorem RH(h:dZ s)(t:N)(k:XP):dZ { s with es:=mY s t k }:=by
 rw[CN]
 exact h.filter (given:=s.given) (now:=s.now) (ts:=s.ts) (es:=s.es) _ (Int.le_refl _) h.n1 (fun e g _ f=>by
  rcases (h.en e g).kd with c|c
  .exact XT c.1 f
  .exact c.2.1)
structure EX(w wx:XY)(d:XP)(s:St)(aN:XP->XM bH)(t:N)(k:XP)(v:XZ)(rk:Raw)(ck:XP->XM bH):Prop where
 dk:DK wx d rk ck
 of:Of { s with es:=mY s t k } rk
 hl:Hl rk
 wl:Wl rk
 st:Step anyS w aN ck w wx
 nr:dY wx w ck v (((gb s t).take k).map fun e=>e.id)
def EI(w wx:XY)(d:XP)(s:St)(c:XP->XM bH)(t:N)(k:XP)(v:XZ):Prop:=∃ f g,EX w wx d s c t k v f g
def Ad(w:XY)(d:XP)(s:St)(g:XP->XM bH)(t:N)(v:XZ)(w':XY):Prop :=
 ∃ (f:Raw) (c:XP->XM bH),DK w' d f c/\Of { s with es:=s.es.filter fun e=>!bO t e } f/\Wl f/\Hl f/\Step anyS w g c w w'/\dY w' w c v ((s.es.filter (bO t)).map fun e=>e.id)
theorem VV{r:Raw}{y:XP->XM bH}(h:DK w d r y)(m:Hl r)(R:r.eg.length<=1000)(t:N):
  X4 prog 218 #[X8 (U ⟨d,5,XU⟩),t] w fun e w' =>
   ((∀ g∈r.eg,g.e.kind≠1->t<g.e.bP)/\e=Yg (Yc #[X8 XU,XW])/\w'=w) \/
   (∃ g∈r.eg,g.e.kind≠1/\g.e.bP<=t/\(∀ x∈r.eg,x.e.kind≠1->¬ Hp.ahead (iR x) (iR g))/\e=Yg (Yc #[g.eb,XX])/\∃ q f,Hp.gO q/\r.hl.Perm (iR g :: q)/\DK w' d { r with hl:=q } f/\Step (fun c=>c=.he\/c=.desk) w y f w w'):=by
 let⟨v,a1,a2⟩:=h.he;have H:=m.len;refine (Vu d 5 v r.hl t w a1 m.1 O).mono ?_;rintro e w' (⟨o,rfl,rfl⟩|⟨⟨o,I⟩,rfl,q,p,K,E⟩)
 .refine .inl ⟨fun g D C=>?_,rfl,rfl⟩;have z:=m.has D C;rcases o with o|o
  .rw[List.length_eq_zero_iff.1 o] at z;simp at z
  .let⟨i,hi,e⟩:=List.getElem_of_mem z;have:=Hp.C0 m.1 i hi;rw[Hp.oq hi,e] at this;unfold Hp.ahead iR at this;simp only at this;omega
 .let⟨g,D,C,e⟩:=m.at (x:=Hp.at_ r.hl 0) (by rw[Hp.oq o];exact zg o);rw[e] at I E ⊢;refine .inr ⟨g,D,C,I,fun x P A=>?_,rfl,q,?_⟩
  .let⟨i,hi,e2⟩:=List.getElem_of_mem (m.has P A);have:=Hp.C0 m.1 i hi;rw[Hp.oq hi,e2,e] at this;exact this
  .let⟨f,k1,k2⟩:=h.heap a2 p;exact⟨f,K,E,k1,k2⟩
def I4(w:XY)(d:XP)(s:St)(h:XP->XM bH)(g:EG)(w':XY):Prop :=
 ∃ (f:Raw) (c:XP->XM bH),DK w' d f c/\Of { s with es:=kept g.e.id s.es } f/\Wl f/\Hl f/\Step pW w h c w w'
theorem Ea{r:Raw}{A:XP->XM bH}(h:DK w d r A)(q:Of s r)(C:Wl r)(f:dZ s){g:EG}(m:g∈r.eg)(H:Hl { r with eg:=fJ g.e.id r.eg }):
  X4 prog 150 #[d,g.eb] w fun e w'=>e=Yg (Yc #[])/\I4 w d s A g w':=by
 have P:=f.lS _ (q.mem m);have R:=f.g1
 by_cases y:g.e.kind=3
 .refine (U1 h m y O (fun b I=>?_) ?_).mono ?_
  .rw[C] at I;obtain⟨x,K,rfl⟩:=Zh.1 I;exact⟨x,(List.mem_filter.1 K).1,rfl⟩
  .rw[C,ZE];have W:=ZA (fun g:EG=>g.e.kind==3) r.eg;have T:=jM f;have S:r.eg.length=s.es.length:=by rw[<- q.es];simp
   omega
  .rintro e w' ⟨rfl,c,E,D⟩;refine⟨rfl,_,c,E,?_,C.goes h.ni h.nd m,H,D⟩;have o:=q.vV f.ids h.ni m y;exact⟨o.now,o.given,o.ts,o.es,o.th,o.tb⟩
 .let⟨i,hi,hname,htb⟩:=q.tb g m;have z:=Dw f q hi;refine aK (U0 h m y i hi htb (C7 f q (f.en _ (q.mem m)) hi) z.1 z.2 (Th f q m y hi hname) O) ?_;rintro w' ⟨c,E,D⟩;exact⟨rfl,_,c,E,q.goes f.tn f.ids h.ni m y hi hname,C.oG h.ni m y,H,D⟩
def lenOf:XZ->XP
 |.slice _ n _=>n
 |_=>0
theorem dY.len{c:XP->XM bH}(h:dY w B c v l):lenOf v=l.length:=by
 obtain⟨a,cap,rfl⟩:=h.slice;rfl
theorem EX.gone{r:XP->XM bH}{R:Raw}{I K:XP->XM bH}(h:EX w wx d s r t k v R I)(H:k<(gb s t).length){g:EG}(q:g.e=(gb s t)[k])(D:Step (fun c=>c=.he\/c=.desk) wx I K wx w1)(sp:I4 w1 d { s with es:=mY s t k } K g w2)(E:aH v.ownBlock.toList w2 w3)(A:∀ f,(∀ b,v.ownBlock=U b->f b=XU)->(∀ b,w2.heap.size<=b->f b=XU)->dY w3 w f v' ((((gb s t).take k).map fun e=>e.id)++[g.e.id])):
  EI w w3 d s r t (k+1) v':=by
 let⟨r2,f,q1,q2,q3,q4,q5⟩:=sp;have o:=(h.nr.step D aI).step q5 aI;have m:∀ b,v.ownBlock=U b->f b=XU:=o.no;have z:Step anyS w f f w2 w3:=⟨⟨_,E,fun y x=>.inr ⟨m y (ZL.1 x),(o.own.lt y (ZL.1 x)).1⟩⟩,fun _ _ h=>h,fun _ _ h=>.inl h⟩;have C:=h.st.trans (D.any h.st.size);have P:=C.trans (q5.any C.size);refine⟨r2,f,q1.off E (fun y x=>m y (ZL.1 x)),?_,q4,q3,P.trans z,?_⟩
 .rw[Se s t H,<- q];exact q2
 .rw[Zc H,Zl];have:[(gb s t)[k]].map (fun e=>e.id)=[g.e.id]:=by rw[<- q];rfl
  rw[this];exact A f m (fun b S=>q1.none S)
theorem Ue{r:Raw}{m:XP->XM bH}(h:DK w d r m)(ho:Of s r)(hw:Wl r)(hh:Hl r)(hm:dZ s)(t:N)(ht:∀ e∈s.es,e.kind≠1->t<=e.bP):
  X4 prog 156 #[X8 (U ⟨d,0,XU⟩),V Y t] w fun e w'=>∃ v,e=Yg v/\Ad w d s m t v w':=by
 obtain⟨i0,av,ao,an,al⟩:=info_parts pg;have E0:Hid (EI w w d s m t 0 (X9 XU 0 0)):=⟨r,m,h,ho,hh,hw,Step.refl _ _ _ _,dY.nil _ _ _⟩;have HM:=aC (Yz hm ht);clear h ho hw hh hm ht
 go_in
 go_wp2_with fail
 go_loopw [5,6,7] (fun vg _ _ wx=>∃ k:XP,k<=(gb s t).length/\EI w wx d s m t k vg) (fun vg _ _ _=>(gb s t).length-lenOf vg)
 case atStart=>exact⟨0,Zd _,E0.out⟩
 case round =>
  obtain⟨k,hk,T,ck,X⟩:=hrel;have P:=RH HM.out.1 t k
  have H:T.eg.length<=1000:=by
   have h2:T.eg.length=(mY s t k).length:=by have:=X.of.es;rw[<- ZE (f:=(·.e)),this]
   have h3:=jM P;simp only at h3;omega
  have TB:=aC (VV X.dk X.hl H t);have aa:lenOf u5=k:=by rw[X.nr.len,ZE,List.length_take];omega
  have S:=aC X;have ai:=aC P;have ay:=aC aa;clear X P H aa
  go_wp2_with fail
  refine TB.out.mono ?_;rintro e w1 (⟨h1,rfl,rfl⟩|⟨g,K,z,aq,E,rfl,l',c1,s1,s2,s3,s4⟩)
  .have HF:Hid (Ad w d s m t u5 w1):=by
    have X:=S.out
    have ad:(gb s t).length<=k:=by
     by_cases c:k<(gb s t).length
     .exfalso;obtain⟨m1,m2⟩:=List.mem_filter.1 (zg c)
      have A:(gb s t)[k]∈mY s t k:=by
       refine zT.2 ⟨m1,fun x hx e1=>?_⟩;obtain⟨j,hj,rfl⟩:=List.getElem_of_mem hx;rw[List.getElem_take] at e1;rw[List.length_take] at hj;have:=List.pairwise_iff_getElem.1 (IJ HM.out.1.ids t) j k O c O;omega
      obtain⟨g,K,e1⟩:=X.of.get A;unfold bO at m2;rw[<- e1,ZR,decide_eq_true_iff] at m2;have:=h1 g K (by simpa using m2.1);omega
     .omega
    have e1:=Rc s t HM.out.1.ids ad;have o:=X.of;rw[e1] at o;have n:=X.nr;rw[Ze ad] at n;exact⟨T,ck,X.dk,o,X.wl,X.hl,X.st,n⟩
   clear h1 TB S
   go_wp2
   go_ret;exact⟨_,rfl,HF.out⟩
  .have X:=S.out
   have C:∃ ae:k<(gb s t).length,g.e=(gb s t)[k]:=by
    have A:=X.of.mem K;have aw:=(zT.1 A).1;have a4:=HM.out.2 _ aw z;refine Sd HM.out.1.ids A (by unfold bO;rw[ZR,decide_eq_true_iff];exact⟨by simpa using z,by omega⟩) (fun x hx hb=>?_);obtain⟨y,hy,rfl⟩:=X.of.get hx;unfold bO at hb;rw[ZR,decide_eq_true_iff] at hb;have:=E y hy (by simpa using hb.1);unfold Hp.ahead iR at this;simp only at this;omega
   obtain⟨ae,C⟩:=C;have aj:Hl { T with hl:=l',eg:=fJ g.e.id T.eg }:=X.hl.goes X.dk.ni K z (x:=iR g) rfl s1 s2;have LV:=aC (Ea (r:={ T with hl:=l' }) s3 ⟨X.of.now,X.of.given,X.of.ts,X.of.es,X.of.th,X.of.tb⟩ X.wl ai.out K aj);have R:=aC (Yz s4 (Yz C ae));have EN:=aC (s3.en g K);clear s1 s2 s3 s4 E aq C aj X TB z K
   go_wp2_with fail
   refine LV.out.mono ?_;rintro e w2 ⟨rfl,sp⟩;have SP:=aC sp;obtain⟨r2,c2,q1,q2,q3,q4,q5⟩:=sp;have a7:=(q5.uG EN.out.1 (.inl ⟨_,EN.out.2.1,by unfold pW;simp⟩) (.inl ⟨_,EN.out.2.2,by unfold pW;simp⟩)).en.c0;have NR:=aC ((S.out.nr.step R.out.1 (zq _)).step q5 (zq _));have a3:w.heap.size<=w2.heap.size:=Yk (Yk S.out.st.size R.out.1.size) q5.size
   have ac:((gb s t).take k).length<=60:=by
    have h1:=Zk k (gb s t);have h2:=ZA (bO t) s.es;have h3:=jM HM.out.1;have h4:(gb s t).length<=60:=by unfold gb;omega
    rw[List.length_take];omega
   have ar:(((gb s t).take k).map fun e=>e.id).length<=60:=by rw[ZE];exact ac
   clear q1 q2 q3 q4 q5 LV EN ac
   go_wp2_with (first
    |(at_builtin;refine wpList_append_lies _ rfl _ _ 38 rfl w.heap.size 3 i0 _ 1 8 underlying38 av ao an al rfl XC _ _ _ rfl (NR.out.own.alloc _) ⟨w2.heap.size,0,XU⟩ 1 1 [V Y g.e.id] rfl rfl (ZF (cs:=#[V Y g.e.id]) (cP w2 _)) XI O XH O XG (w2.heap.size+1) XA ?_;intro W ag w3 D q af az))
   have ko:aH u5.ownBlock.toList w2 w3:=aH.grown ((aH.refl _ w2).alloc _) q (fun k hk=>.inl (ZL.2 hk));have I:u5.ownBlock=U W\/W=w2.heap.size+1:=af
   have HN:Hid (EI w w3 d s m t (k+1) (X9 (U ⟨W,0,XU⟩) ((((gb s t).take k).map fun e=>e.id).length+1) ag)) :=
    S.out.gone R.out.2.2 R.out.2.1 R.out.1 SP.out ko (fun c2 n1 n2=>⟨by rw[YZ,Zl];exact D,fun b hb=>by
     have:W=b:=by simpa[ZB] using hb
     subst this;rcases I with e|e
     .exact n1 W e
     .exact n2 W O⟩)
   have au:k+1<=(gb s t).length:=R.out.2.2;have ab:(((gb s t).take k).map fun e=>e.id).length=k:=by rw[ZE,List.length_take];omega
   have ak:=aC ab;have ax:=aC ay.out;clear D q af ko I S SP NR R ai ab ar;go_roundw
   case rel=>exact⟨k+1,au,by have h:=HN.out;rw[ak.out] at h;exact h⟩
   case measure =>
    have:=ak.out;have:=ax.out;simp[lenOf] at *;omega
namespace aA
theorem UA{now:N}(h:Inv ⟨ts,es,given,now⟩)(f:∀ e∈es,e.kind≠1->tq<e.bP)(k:XP):fg ts (k+1) es now tq=(es,[],[]):=by
 by_cases c:now<tq
 .have q:dP tq es=tq:=by
   rcases (vy tq es).2.2 with e|⟨e,m,r,q⟩
   .exact e
   .have:=f e m r;have:=(vy tq es).1;omega
  have y:es.filter (fun e=>!bO tq e)=es:=List.filter_eq_self.2 (fun e m=>by
   cases g:bO tq e
   .rfl
   .unfold bO at g;rw[ZR,decide_eq_true_iff] at g;have:=f e m (by simpa using g.1)
    omega)
  have x:es.filter (bO tq)=[]:=by
   rw[List.filter_eq_nil_iff];intro e m g;unfold bO at g;rw[ZR,decide_eq_true_iff] at g;have:=f e m (by simpa using g.1);omega
  have o:=Xf h;simp only at o;rw[fg,XS c];simp only[q,y,x,o]
  cases k with
  |zero=>rfl
  |succ k=>rw[fg,XR O];rfl
 .rw[fg,XR c]
theorem Uz{now:N}(y:now<t)(ht:t<=tq)(o:∃ e∈es,e.kind≠1/\e.bP=t)(m:∀ e∈es,e.kind≠1->t<=e.bP)(k:XP):
  fg ts (k+1) es now tq=((fg ts k (dB ts (es.filter fun e=>!bO t e)).1 t tq).1,(es.filter (bO t)).map (·.id)++(fg ts k (dB ts (es.filter fun e=>!bO t e)).1 t tq).2.1,(dB ts (es.filter fun e=>!bO t e)).2++(fg ts k (dB ts (es.filter fun e=>!bO t e)).1 t tq).2.2):=by
 have r:dP tq es=t:=by
  obtain⟨e,h,g,rfl⟩:=o;have:=(vy tq es).2.1 e h g;rcases (vy tq es).2.2 with q|⟨x,f,c,q⟩
  .omega
  .have:=m x f c;omega
 rw[fg,XS O];simp only[r]
theorem ID{now:N}(h:Inv ⟨ts,es,given,now⟩)(r:now<t)(ht:t<=1048320)(q:∀ e∈es,e.kind≠1->t<=e.bP):Inv ⟨ts,(dB ts (es.filter fun e=>!bO t e)).1,given,t⟩/\dZ ⟨ts,es.filter (fun e=>!bO t e),given,t⟩:=by
 have g:dZ ⟨ts,es.filter (fun e=>!bO t e),given,t⟩:=h.aY.filter _ O ht (fun e o f m=>by
  have:=q e o m
  by_cases c:e.bP=t
  .have:bO t e=XX:=by unfold bO;rw[ZR,decide_eq_true_iff];exact⟨by simpa using m,c⟩
   rw[this] at f;cases f
  .omega)
 exact⟨DV g,g⟩
theorem dZ.mX{now:N}(h:dZ ⟨ts,es,given,now⟩)(g:0<=now')(q:now'<=now):dZ ⟨ts,es,given,now'⟩:=by
 refine⟨h.tl,h.tu,h.tn,h.ids,h.lS,h.g0,h.g1,g,?_,fun e f=>?_,h.th,h.wa,h.wi⟩
 .have:=h.n1;simp only at *;omega
 .have k:=h.en e f;refine⟨k.u1,k.u9,k.sl,k.s0,k.sp,k.ri,?_⟩;rcases k.kd with c|⟨c,r,o,m⟩
  .exact .inl c
  .exact .inr ⟨c,by simp only at *;omega,o,m⟩
end aA
def bJ(c at_ n:N)(g m f h:XZ):XZ:=.agg #[c,at_,n,g,m,f,h]
structure Q7(Z:XY)(Q:XP):Prop where
 q0:Z.cell? (Q,0)=U (V Y 0)
 q1:Z.cell? (Q,1)=U (V Y 0)
 q2:Z.cell? (Q,2)=U (V Y 0)
 q3:Z.cell? (Q,3)=U ↑()
 q4:Z.cell? (Q,4)=U ↑()
 q5:Z.cell? (Q,5)=U ↑()
 q6:Z.cell? (Q,6)=U ↑()
 fq:∀ o,Z.frozen? ⟨Q,o,XU⟩=XW
def bB:Obj:=Yh #[V Y 0,V Y 0,V Y 0,(),(),(),()] 40 (0,0)
theorem Q7.of(h:w.heap[Q]?=U bB):Q7 w Q:=by
 unfold bB at h;refine⟨?_,?_,?_,?_,?_,?_,?_,fun o=>frozen_of_row _ Q o _ _ h⟩
 all_goals (simp only[YF,h];rfl)
theorem Q7.later(h:Q7 w Q)(c:w'.heap[Q]?=w.heap[Q]?):Q7 w' Q :=
 ⟨(zo c).trans h.q0,(zo c).trans h.q1,(zo c).trans h.q2,(zo c).trans h.q3,(zo c).trans h.q4,(zo c).trans h.q5,(zo c).trans h.q6,fun o=>(ZJ c).trans (h.fq o)⟩
def cR(Z:XY)(Q:XP)(a b c d e f g:XZ):XY:=((((((Z.setCell (Q,0) a).setCell (Q,1) b).setCell (Q,2) c).setCell (Q,3) d).setCell (Q,4) e).setCell (Q,5) f).setCell (Q,6) g
theorem lQ(Z:XY)(Q:XP)(a b c d e f g:XZ):aH [Q] Z (cR Z Q a b c d e f g) :=
 (((((((aH.refl [Q] Z).setCell (.inl XA) _ _).setCell (.inl XA) _ _).setCell (.inl XA) _ _).setCell (.inl XA) _ _).setCell (.inl XA) _ _).setCell (.inl XA) _ _).setCell (.inl XA) _ _
theorem AM(a:Obj):X0 w w ((w.alloc a).alloc bB)/\((w.alloc a).alloc bB).heap[w.heap.size+1]?=U bB:=by
 refine⟨bC.alloc XA _,?_⟩;have:=cP (w.alloc a) bB
 rwa [World.size_alloc] at this
theorem bG{cs:Array XZ}{t:TypeId}(h:Z.heap[Q]?=U (Yh cs t))(i:XP)(c:cs[i]?=U v):Z.cell? (Q,i)=U v:=by simp[YF,h,c]
theorem qA(w:XY)(o:Obj):X0 w w ((w.alloc o).alloc bB)/\((w.alloc o).alloc bB).heap[w.heap.size+1]?=U bB/\((w.alloc o).alloc bB).heap[w.heap.size]?=U o/\w+1<((w.alloc o).alloc bB).heap.size :=
 ⟨(AM o).1,(AM o).2,(Below.heap_alloc _ _ _ XA).trans (cP w o),by simp⟩
theorem cL{fn:Func}{R:Ending->XY->Prop}{tm:Array XZ}{a b c e f g i:XZ}(o:fn.results=#[.cell k 40])(h:Q7 Z Q)(m:R (Yg (.agg #[a,b,c,e,f,g,i])) (cR Z Q a b c e f g i))(ht:tm[k]?=U ↑Q:=by rfl):bodyPost prog fn R .ret ⟨tm,[]⟩ (cR Z Q a b c e f g i):=by
 let⟨q0,q1,q2,q3,q4,q5,q6,_⟩:=h;refine bodyPost_ret ?_ rfl m;simp only[results,o];simp[ht,go_sem,cR,q0,q1,q2,q3,q4,q5,q6]
end Go.Proofs.YtfigmlfdnickmaaGreatDoor
