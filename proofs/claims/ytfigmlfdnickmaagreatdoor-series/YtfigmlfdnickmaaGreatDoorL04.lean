import Derived.Test.YtfigmlfdnickmaaGreatDoorL03
import Derived.Maps.Keyed
import Derived.LaidEqlPtr
import Derived.Lib.SliceRun
set_option maxRecDepth 100000
set_option maxHeartbeats 8000000
open Go.Proofs.Tryz
open _root_ renaming ByteArray->UU,List->UV,Option->UW,Bool->UX,Nat->UY,Int->UZ,if_neg->U0,if_pos->U1,absurd->U2
open Option renaming none->U3,some->U4,mem_toList->WI,map_some->Ye
open Bool renaming false->U5,true->U6,false_eq_true->Vn
open Go renaming World->U7,Value->U8,Calls->Va,TypeId->Vc
open Go.RowKit renaming Below->U9
open Int renaming le_refl->Xk,mul_le_mul_of_nonneg_right->Xw,mul_nonneg->V2,mul_comm->XC
open List renaming mem_cons->Vq,countP_eq_length_filter->Xt,countP->Xu,countP_mono_left->Xv,exists_mem_of_length_pos->Xx,mem_filter->Xq,all_eq_true->Xy,foldl_cons->Xz,mem_append->Vr,mem_map->V9,foldl->XA,length_cons->VV,map_cons->XD,pairwise_cons->VE,filter_eq_self->XE,map_map->XF,map_congr_left->XG,filter_cons->VG,drop_eq_getElem_cons->Ws,drop_eq_nil_of_le->Wt,flatMap_cons->Wi,length_append->VU,getElem_cons_drop->Wy,take_append_drop->V1,length_take_of_le->Wk,flatMap_append->Wj,getElem?_append_right->Wz,getElem?_append_left->Wg,range->XH,filter_append->VF,nodup_cons->Vt,Nodup->XI,pairwise_map->XJ,mem_range->XL,pairwise_iff_getElem->XM,getElem?_eq_getElem->WS,getElem_of_mem->XN,pairwise_append->Xn,any_eq_true->XQ,map_append->We,filter_sublist->XS,append_nil->XT,map_set->XY,set_getElem_self->XZ,find?_map->X5,find?_eq_none->X6,mem_of_find?_eq_some->X7,find?_some->X8,find?_cons->X9,find?_append->Ya,length_take->Yb,take_succ_eq_append_getElem->V5,getElem?_map->Yd,replicate->Yf
open Classical renaming byContradiction->Xo,propDecidable->XX
open Nat renaming zero_le->V6,lt_of_lt_of_le->WE
open Go.World renaming cell?->VA,block_lt_of_cell?->Vh,frozen?_of_block->WG,cell?_setCell_same->Vu
open Go.Value renaming ownBlock->Wr
open List.Pairwise renaming imp_of_mem->XK,nil->XP,sublist->Xp,imp->XU
open Option.some renaming inj->WJ
open List.Sublist renaming map->XR,nodup->VJ
open ByteArray.toList renaming loop->XV
open Go.Maps renaming Keyed->XW
open Go.IntKind renaming i64->Vf
open Ne renaming symm->X0
open Function renaming comp->X4
open Go.Joins renaming ownsRow_form->Yc
namespace Go.Proofs.YtfigmlfdnickmaaGreatDoor
variable{name:UU}{e z:aA.aM}{a b fr given id level long now tq u x y:UZ}{f:UZ->UZ}{at':UZ->UY}{ts:UV (UU × UZ)}{L:UV (UZ × UZ)}{es es' l:UV aA.aM}{fs:UV UZ}{F G M:UV UY}{cs xs:UV U8}{B cap d fn i j k n:UY}{p:UY->UX}{c0 c1 c2 c3 c4 c5 v:U8}{w w' w1:U7}
namespace aA
def pH(a x:UZ):UV UZ->UZ
 |[]=>a
 |s :: r=>if s<=x/\pH a x r<s then s else pH a x r
theorem Cs(a x:UZ)(h:a<=x):∀ l:UV UZ,a<=pH a x l/\pH a x l<=x/\(pH a x l=a\/pH a x l∈l)/\∀ s∈l,s<=x->s<=pH a x l
 |[]=>⟨Xk _,h,.inl rfl,by simp⟩
 |s :: r=>by
  obtain⟨q,o,g,m⟩:=Cs a x h r;simp only[pH]
  split
  ·rename_i c
   refine⟨by omega,c.1,.inr UJ,fun t ht k=>?_⟩;rcases Vq.1 ht with rfl|ht
   ·omega
   ·have:=m t ht k;omega
  ·rename_i c
   refine⟨q,o,?_,fun t ht k=>?_⟩
   ·rcases g with g|g
    ·exact .inl g
    ·exact .inr (by simp[g])
   ·rcases Vq.1 ht with rfl|ht
    ·omega
    ·exact m t ht k
theorem Jo(g:y<=x)(h:∀ s∈L,s.1<=x->s.1<=y):cP L x<=cP L y:=by
 unfold cP;rw[<- Xt,<- Xt]
 have:Xu (hasB x) L<=Xu (hasB y) L:=Xv (fun s m c=>by
  simp[hasB] at c ⊢;have:=h s m c.1
  omega)
 omega
def Pos(es:UV aM):Prop:=∀ e∈es,0<=e.aH
theorem Cv{name:UU}{x y:UZ}(g:y<=x):∀ {es:UV aM},Pos es->(∀ s∈eD name es,s<=x->s<=y)->bP name x es<=bP name y es
 |[],_,_=>Xk _
 |e :: r,hp,h=>by
  have ih:=Cv (name:=name) g (es:=r) (fun z q=>hp z (by simp[q])) (fun s o=>h s (by simp[eD,o]));simp only[bP]
  by_cases c:cA name e=U6
  ·rw[U1 c,U1 c];have o:bW e.aT name=U6:=by simp[cA] at c;exact c.1
   have C:cP e.aL x<=cP e.aL y:=Jo g (fun s m t=>h s.1 (by simp[eD,o];exact .inl ⟨s.2,m⟩) t);have A:=hp e UJ;have:cP e.aL x*e.aH<=cP e.aL y*e.aH:=Xw C A;omega
  ·rw[U0 c,U0 c];omega
theorem Su(g:Pos es)(h:a<=x):∃ y,a<=y/\y<=x/\(y=a\/y∈eD name es)/\bP name x es<=bP name y es:=by
 obtain⟨q,c,o,m⟩:=Cs a x h (eD name es);exact⟨_,q,c,o,Cv c g m⟩
theorem ub{aH:UZ}(I:Pos es)(H:0<=aH):
  dG ts es name aH L=U6↔∀ x,0<cP L x->bP name x es+cP L x*aH<=bJ name ts:=by
 constructor
 ·intro h x o
  have r:∃ s∈L,s.1<=x/\x<s.2:=by
   unfold cP at o;have N:0<(L.filter (hasB x)).length:=UI
   obtain⟨s,c⟩:=Xx N;have:=Xq.1 c;simp[hasB] at this;exact⟨s,this.1,this.2⟩
  obtain⟨m,q,C,Q⟩:=r;obtain⟨P,A,g,t⟩:=Cs m.1 x C (eD name es++L.map (·.1));generalize pH m.1 x (eD name es++L.map (·.1))=y at P A g t
  have D:y∈eD name es++L.map (·.1):=by
   rcases g with rfl|g
   ·simp;exact .inr ⟨m.2,q⟩
   ·exact g
  have ht:=Cv (name:=name) (es:=es) A I (fun s c=>t s (by simp[c]));have K:cP L x<=cP L y:=Jo A (fun s c=>t s.1 (by simp;exact .inr ⟨s.2,c⟩));have O:=Xy.1 h y D;simp[pq] at O;have E:0<cP L y:=UI
  have J:cP L x*aH<=cP L y*aH:=Xw K H;omega
 ·intro h;unfold dG oq;rw[Xy];intro x _;simp[pq]
  by_cases o:0<cP L x
  ·exact .inr (h x o)
  ·exact .inl UI
theorem Cb(a b x:UZ):cP [(a,b)] x=if a<=x/\x<b then 1 else 0:=by
 unfold cP
 by_cases h:a<=x/\x<b
 ·rw[U1 h];simp[hasB,h.1,h.2]
 ·rw[U0 h];have:hasB x (a,b)=U5:=by simp[hasB];omega
  simp[this]
theorem Cr{aH:UZ}(r:Pos es)(q:0<=aH):
  dG ts es name aH [(a,b)]=U6↔∀ x,a<=x->x<b->bP name x es+aH<=bJ name ts:=by
 rw[ub r q];constructor
 ·intro h x o m;have:=h x (by rw[Cb,U1 ⟨o,m⟩];omega);rw[Cb,U1 ⟨o,m⟩] at this;omega
 ·intro h x g;rw[Cb] at g ⊢
  by_cases c:a<=x/\x<b
  ·rw[U1 c];have:=h x c.1 c.2;omega
  ·rw[U0 c] at g;omega
def vu(f:UZ->UZ)(a b m:UZ):Prop:=(∀ x,a<=x->x<b->f x<=m)/\∃ x,a<=x/\x<b/\f x=m
theorem vu.eq{m n:UZ}(h:vu f a b m)(k:vu f a b n):m=n:=by
 obtain⟨s,x,r,q,A⟩:=h;obtain⟨o,y,g,c,t⟩:=k;have:=s y g c;have:=o x r q;omega
theorem H8{name:UU}{es:UV aM}{a b:UZ}:∀ (l:UV UZ)(m:UZ),
  m<=l.foldl (ie name es a b) m/\(∀ x∈l,a<x->x<b->bP name x es<=l.foldl (ie name es a b) m)/\(l.foldl (ie name es a b) m=m\/∃ x∈l,a<x/\x<b/\l.foldl (ie name es a b) m=bP name x es)
 |[],m=>⟨Xk _,by simp,.inl rfl⟩
 |x :: l,m=>by
  obtain⟨o,s,h⟩:=H8 (name:=name) (es:=es) (a:=a) (b:=b) l (ie name es a b m x);simp only[Xz];generalize l.foldl (ie name es a b) (ie name es a b m x)=R at o s h ⊢
  have t:(ie name es a b m x=m/\¬ (a<x/\x<b/\m<bP name x es))\/(ie name es a b m x=bP name x es/\a<x/\x<b/\m<bP name x es):=by
   unfold ie
   by_cases c:a<x/\x<b/\m<bP name x es
   ·rw[U1 c];exact .inr ⟨rfl,c⟩
   ·rw[U0 c];exact .inl ⟨rfl,c⟩
  rcases t with ⟨e,c⟩|⟨e,c⟩
  ·rw[e] at o h;refine⟨o,fun y g r q=>?_,?_⟩
   ·rcases Vq.1 g with rfl|g
    ·omega
    ·exact s y g r q
   ·rcases h with h|⟨y,g,k⟩
    ·exact .inl h
    ·exact .inr ⟨y,by simp[g],k⟩
  ·rw[e] at o h;refine⟨by omega,fun y g r q=>?_,?_⟩
   ·rcases Vq.1 g with rfl|g
    ·omega
    ·exact s y g r q
   ·rcases h with h|⟨y,g,k⟩
    ·exact .inr ⟨x,by simp,c.1,c.2.1,h⟩
    ·exact .inr ⟨y,by simp[g],k⟩
theorem Uy(s:Pos es)(h:a<b):vu (fun x=>bP name x es) a b (lE name es a b):=by
 obtain⟨t,q,g⟩:=H8 (name:=name) (es:=es) (a:=a) (b:=b) (eD name es) (bP name a es);unfold lE;generalize (eD name es).foldl (ie name es a b) (bP name a es)=R at t q g ⊢;refine⟨fun x o m=>?_,?_⟩
 ·obtain⟨y,D,C,c,A⟩:=Su (name:=name) s o;show bP name x es<=R
  by_cases e:y=a
  ·subst e;omega
  ·rcases c with c|c
   ·exact U2 c e
   ·have:=q y c UI UI;omega
 ·rcases g with g|⟨x,_,o,m,r⟩
  ·exact⟨a,Xk _,h,g.symm⟩
  ·exact⟨x,by omega,m,r.symm⟩
theorem FO{name:UU}{x:UZ}:∀ {es:UV aM},Pos es->bP name x es<bP name (x-1) es->x∈gb es
 |[],_,h=>by simp[bP] at h
 |e :: r,hp,h=>by
  simp only[gb,Vr,V9]
  by_cases c:∃ s∈e.aL,s.2=x
  ·exact .inl c
  ·right;refine FO (name:=name) (fun z g=>hp z (by simp[g])) ?_
   have t:cP e.aL (x-1)<=cP e.aL x:=by
    unfold cP;rw[<- Xt,<- Xt]
    have:Xu (hasB (x-1)) e.aL<=Xu (hasB x) e.aL:=Xv (fun s o A=>by
     simp[hasB] at A ⊢;have:s.2≠x:=fun e=>c ⟨s,o,e⟩
     omega)
    omega
   have m:=hp e UJ;have q:cP e.aL (x-1)*e.aH<=cP e.aL x*e.aH:=Xw t m;simp only[bP] at h
   split at h <;> omega
def Au(r:UZ):UW UZ:=if r<0 then U3 else U4 r
theorem BI{ts:UV (UU × UZ)}{es:UV aM}{name:UU}{aH long fr tq:UZ}(H:0<=fr):∀ (l:UV UZ)(b:UZ),-1<=b ->
  (b=-1\/(fr<=b/\b+long<=tq/\dG ts es name aH [(b,b+long)]=U6)) ->
  let R:=l.foldl (jN ts es name aH long fr tq) b
  (R=-1\/(fr<=R/\R+long<=tq/\dG ts es name aH [(R,R+long)]=U6))/\-1<=R/\(0<=b->0<=R/\R<=b)/\∀ s∈l,fr<=s->s+long<=tq->dG ts es name aH [(s,s+long)]=U6->0<=R/\R<=s
 |[],b,hb,h=>by
  refine⟨h,hb,fun k=>⟨k,Xk _⟩,by simp⟩
 |s :: l,b,hb,h=>by
  intro R
  have I:jN ts es name aH long fr tq b s=b/\((s<fr\/tq<s+long\/(0<=b/\b<=s))\/dG ts es name aH [(s,s+long)]=U5)\/jN ts es name aH long fr tq b s=s/\fr<=s/\s+long<=tq/\dG ts es name aH [(s,s+long)]=U6/\(b<0\/s<b):=by
   unfold jN
   by_cases c:s<fr\/tq<s+long\/(0<=b/\b<=s)
   ·rw[U1 c];exact .inl ⟨rfl,.inl c⟩
   ·rw[U0 c]
    cases J:dG ts es name aH [(s,s+long)]
    ·exact .inl ⟨by simp,.inr rfl⟩
    ·exact .inr ⟨by simp,by omega,by omega,rfl,by omega⟩
  rcases I with ⟨e,c⟩|⟨e,c1,c2,c3,c4⟩
  ·have ih:=BI (ts:=ts) (es:=es) (name:=name) (aH:=aH) (long:=long) (tq:=tq) H l b hb h;have E:R=l.foldl (jN ts es name aH long fr tq) b:=by show XA _ _ _=_;rw[Xz,e]
   rw[<- E] at ih;obtain⟨D,C,m,r⟩:=ih;refine⟨D,C,m,fun t ht q o g=>?_⟩;rcases Vq.1 ht with rfl|ht
   ·rcases c with c|c
    ·have:=m UI;omega
    ·rw[g] at c;cases c
   ·exact r t ht q o g
  ·have ih:=BI (ts:=ts) (es:=es) (name:=name) (aH:=aH) (long:=long) (tq:=tq) H l s UI (.inr ⟨c1,c2,c3⟩);have E:R=l.foldl (jN ts es name aH long fr tq) s:=by show XA _ _ _=_;rw[Xz,e]
   rw[<- E] at ih;obtain⟨D,C,m,r⟩:=ih;have A:=m UI;refine⟨D,C,fun k=>by omega,fun t ht q o g=>?_⟩;rcases Vq.1 ht with rfl|ht
   ·exact A
   ·exact r t ht q o g
theorem P5(P:UZ->Prop)(fr:UZ):∀ (n:UY)(s:UZ),s=fr+n->P s->∃ r,fr<=r/\r<=s/\P r/\∀ t,fr<=t->t<r->¬ P t:=by
 intro n
 induction n using Nat.strongRecOn with
 |_ n ih =>
  intro s E C
  by_cases c:∃ t,fr<=t/\t<s/\P t
  ·obtain⟨t,m,h,g⟩:=c;obtain⟨r,A,D,q,o⟩:=ih (t-fr).toNat UI t UI g;exact⟨r,A,by omega,q,o⟩
  ·exact⟨s,by omega,Xk _,C,fun t m h g=>c ⟨t,m,h,g⟩⟩
theorem Pg{aH:UZ}(A:Pos es)(D:0<=aH)(Q:0<=fr)(_hl:1<=long):
  -1<=iY ts es name aH long fr tq/\qK (fun x=>bP name x es) fr tq long (bJ name ts-aH) (Au (iY ts es name aH long fr tq)):=by
 have E:∀ s,nW (fun x=>bP name x es) long (bJ name ts-aH) s↔dG ts es name aH [(s,s+long)]=U6:=by
  intro s;rw[Cr A D];constructor
  ·intro h x c g;have:=h x c g;have this:bP name x es<=bJ name ts-aH:=this;omega
  ·intro h x c g;have:=h x c g;show bP name x es<=bJ name ts-aH;omega
 obtain⟨I,N,_,K⟩:=BI (ts:=ts) (es:=es) (name:=name) (aH:=aH) (long:=long) (tq:=tq) Q (fr :: gb es) (-1) (Xk _) (.inl rfl);unfold iY;generalize (fr :: gb es).foldl (jN ts es name aH long fr tq) (-1)=R at I N K ⊢
 have m:∀ s,fr<=s->s+long<=tq->dG ts es name aH [(s,s+long)]=U6->0<=R/\R<=s:=by
  intro s c g o;obtain⟨r,C,J,t,O⟩:=P5 (fun s=>dG ts es name aH [(s,s+long)]=U6) fr (s-fr).toNat s UI o
  have:r∈fr :: gb es:=by
   by_cases e:r=fr
   ·simp[e]
   ·have H:=O (r-1) UI UI;have q:=(Cr A D).1 t
    have:∃ x,r-1<=x/\x<r-1+long/\bJ name ts<bP name x es+aH:=by
     apply Xo;intro P;apply H;apply (Cr A D).2;intro x j1 j2
     by_cases d:bP name x es+aH<=bJ name ts
     ·exact d
     ·exact U2 ⟨x,j1,j2,by omega⟩ P
    obtain⟨x,j1,j2,j3⟩:=this
    have S:x=r-1:=by
     by_cases d:r<=x
     ·have:=q x d UI;omega
     ·omega
    subst S;have:=q r (Xk _) UI;exact List.mem_cons_of_mem _ (FO (name:=name) A UI)
  have:=K r this C UI t;omega
 refine⟨N,?_⟩;unfold Au
 split
 ·intro s c g o;have:=m s c g ((E s).1 o);omega
 ·rcases I with I|⟨C,J,t⟩
  ·omega
  ·refine⟨C,J,(E R).2 t,fun s c g o=>?_⟩;have:=m s c UI ((E s).1 o);omega
theorem Qz{r q:UW UZ}(h:qK f a b long level r)(k:qK f a b long level q):r=q:=by
 cases r with
 |none =>
  cases q with
  |none=>rfl
  |some s=>exact U2 k.2.2.1 (h s k.1 k.2.1)
 |some s =>
  cases q with
  |none=>exact U2 h.2.2.1 (k s h.1 h.2.1)
  |some t =>
   obtain⟨D,H,C,A⟩:=h;obtain⟨o,E,m,g⟩:=k
   by_cases c:s<t
   ·exact U2 C (g s D c)
   ·by_cases d:t<s
    ·exact U2 m (A t o d)
    ·exact congrArg U4 UI
theorem Tl{g:UZ->UZ}{r:UW UZ}(h:qK f a b long level r)(q:∀ x,a<=x->x<b->f x=g x):qK g a b long level r:=by
 have c:∀ s,a<=s->s+long<=b->(nW f long level s↔nW g long level s):=by
  intro s m o;constructor
  ·intro h x D C;rw[<- q x UI UI];exact h x D C
  ·intro h x D C;rw[q x UI UI];exact h x D C
 cases r with
 |none=>exact fun s m o A=>h s m o ((c s m o).2 A)
 |some s =>
  obtain⟨H,E,J,I⟩:=h;exact⟨H,E,(c s H E).1 J,fun t m o A=>I t m o ((c t m UI).2 A)⟩
end aA
namespace aA
def cN(name:UU):UV aM->UV UX->UZ
 |[],_=>0
 |e :: r,p=>(if cA name e then e.aH*gA e.aL p else 0)+cN name r p
theorem Jb(name:UU)(l r:UV aM)(p:UV UX):cN name (l++r) p=cN name l p+cN name r p:=by
 induction l with
 |nil=>simp[cN]
 |cons e l ih=>simp only[List.cons_append,cN,ih];omega
theorem Q8(h:cA name e=U6):bZ (cN name es) e.aL e.aH=cN name (es++[e]):=by
 funext p
 simp only[bZ,Jb,cN,h,if_true];omega
theorem Jg(h:cA name e=U5):cN name (es++[e])=cN name es:=by
 funext p
 simp[Jb,cN,h]
theorem tQ(name:UU)(p:UV UX):∀ es:UV aM,(∀ e∈es,Small e)->0<=cN name es p/\cN name es p<=900*es.length
 |[],_=>by simp[cN]
 |e :: r,h=>by
  have i:=tQ name p r (fun x g=>h x (by simp[g]));have s:=h e UJ;have b:=vj e.aL p;have m:=s.sl;have c:0<=e.aH*gA e.aL p:=V2 s.u0 b.1;have d:e.aH*gA e.aL p<=9*100:=Int.mul_le_mul s.u1 UI b.1 UI;simp only[cN,VV]
  split <;> omega
theorem Small.pos(h:∀ e∈es,Small e):Pos es:=fun e c=>(h e c).u0
def vv(es:UV aM):Prop:=∀ e∈es,∀ s∈e.aL,s.1<s.2
theorem vP(name:UU){x:UZ}(o:0<=x)(m:x<1048320):∀ es:UV aM,vv es->oy (cN name es) x=bP name x es
 |[],_=>by
  have:cN name []=fun _=>0:=by funext p;rfl
  rw[this];exact aG.Uh 20 0 1048320 x
 |e :: r,h=>by
  have ih:=vP name o m r (fun z q=>h z (by simp[q]))
  by_cases g:cA name e=U6
  ·have:cN name (e :: r)=bZ (cN name r) e.aL e.aH:=by funext p;simp only[cN,bZ,g,if_true];omega
   rw[this,IG _ _ _ _ o m (h e UJ),ih];simp only[bP,g,if_true];have:((e.aL.filter fun s=>decide (s.1<=x) && decide (x<s.2)).length:UZ)=cP e.aL x:=rfl;rw[this,XC];omega
  ·have c:cA name e=U5:=by simpa using g
   have:cN name (e :: r)=cN name r:=by funext p;simp[cN,c]
   rw[this,ih];simp[bP,c]
theorem Rr{aH:UZ}(r:∀ e∈es,Small e)(A:vv es)(D:ot L)(E:0<=u)(t:bJ name ts=aH):
  ky (bZ (cN name es) L u) aH L=dG ts es name u L:=by
 have H:∀ p,0<=bZ (cN name es) L u p:=fun p=>by
  have:=(tQ name p es r).1;have:=(vj L p).1;have:0<=u*gA L p:=V2 E this;unfold bZ;omega
 have c:∀ x,0<=x->x<1048320->oy (bZ (cN name es) L u) x=bP name x es+cP L x*u:=by
  intro x J I;rw[IG _ _ _ _ J I (fun s r=>(D s r).2.1),vP name J I es A];have:((L.filter fun s=>decide (s.1<=x) && decide (x<s.2)).length:UZ)=cP L x:=rfl;rw[this,XC]
 rw[Bool.eq_iff_iff,ub (Small.pos r) E,t];unfold ky;rw[Xy];constructor
 ·intro h x P;have Q:0<(L.filter (hasB x)).length:=by unfold cP at P;omega
  obtain⟨s,q⟩:=Xx Q;have q:=Xq.1 q;have C:=q.2;simp[hasB] at C;have k:=D s q.1;have:=of_decide_eq_true (h s q.1);have m:=(Bw H k.1 k.2.1 k.2.2).1 x C.1 C.2;rw[c x UI UI] at m;omega
 ·intro h s g;have k:=D s g;obtain⟨_,x,O,N,K⟩:=Bw H k.1 k.2.1 k.2.2;rw[c x UI UI] at K
  have o:0<cP L x:=by
   unfold cP;have:s∈L.filter (hasB x):=Xq.2 ⟨g,by simp[hasB,O,N]⟩;have:=List.length_pos_of_mem this;omega
  have:=h x o;exact decide_eq_true UI
theorem QG(q:∀ e∈es,Small e)(g:vv es)(C:0<=a)(r:a<b)(t:b<=1048320):sk (cN name es) (a,b)=lE name es a b:=by
 have m:=Bw (A:=cN name es) (s:=(a,b)) (fun p=>(tQ name p es q).1) C r t;refine vu.eq (f:=fun x=>bP name x es) (a:=a) (b:=b) ⟨fun x h c=>?_,?_⟩ (Uy (Small.pos q) r)
 ·have:=m.1 x h c;rw[vP name UI (by have:x<b:=c;omega) es g] at this;exact this
 ·obtain⟨x,h,c,o⟩:=m.2;rw[vP name (by have:a<=x:=h;omega) (by have:x<b:=c;omega) es g] at o;exact⟨x,h,c,o⟩
def Fw:UW UZ->UZ
 |none=>-1
 |some s=>s
theorem Rn{aH:UZ}{r:UW UZ}(s:∀ e∈es,Small e)(m:vv es)(A:0<=a)(I:b<=1048320)(q:0<=aH)(t:1<=long)(h:qK (aG.dJ (jt (cN name es)) 0 1048320) a b long (bJ name ts-aH) r):
  iY ts es name aH long a b=Fw r:=by
 obtain⟨D,o⟩:=Pg (ts:=ts) (es:=es) (name:=name) (aH:=aH) (long:=long) (fr:=a) (tq:=b) (Small.pos s) q A t;have C:=Tl h (g:=fun x=>bP name x es) (fun x H E=>vP name UI UI es m);have e:=Qz C o;rw[e];generalize iY ts es name aH long a b=R at *;unfold Au
 by_cases c:R<0
 ·rw[U1 c];show R=-1;omega
 ·rw[U0 c];rfl
def kept(id:UZ)(es:UV aM):UV aM:=es.filter fun e=>e.id != id
def cS(e:aM):aM:={ e with kind:=1,bY:=0 }
def dZ(id:UZ)(es:UV aM):UV aM:=es.map fun e=>if e.id=id then cS e else e
def dB(es:UV aM):Prop:=(es.map (·.id)).Pairwise (· < ·)
theorem dB.cons{r:UV aM}(h:dB (e :: r)):(∀ z∈r,e.id<z.id)/\dB r:=by
 unfold dB at h ⊢;rw[XD,VE] at h;exact⟨fun z c=>h.1 z.id (V9.2 ⟨z,c,rfl⟩),h.2⟩
theorem dB.one(h:dB es):∀ {x y:aM},x∈es->y∈es->x.id=y.id->x=y:=by
 induction es with
 |nil=>intro x y g;simp at g
 |cons e r ih =>
  intro x y g c m;obtain⟨o,q⟩:=h.cons;rcases Vq.1 g with g|g
  ·rcases Vq.1 c with c|c
   ·rw[g,c]
   ·have:=o y c;rw[g] at m;omega
  ·rcases Vq.1 c with c|c
   ·have:=o x g;rw[c] at m;omega
   ·exact ih q g c m
theorem BO(h:∀ e∈es,e.id≠id):kept id es=es:=XE.2 (fun e c=>by simp[h e c])
theorem yr{id:UZ}:∀ {es:UV aM},(∀ e∈es,e.id≠id)->dZ id es=es
 |[],_=>rfl
 |e :: r,h=>by
  have i:=yr (id:=id) (es:=r) (fun z c=>h z (by simp[c]));unfold dZ at i ⊢;rw[XD,i,U0 (h e UJ)]
theorem RZ(es:UV aM):(dZ id es).map (·.id)=es.map (·.id):=by
 unfold dZ;rw[XF];apply XG;intro e _;show (if e.id=id then cS e else e).id=e.id
 split <;> rfl
theorem T9(h:dB es):dB (dZ id es):=by
 unfold dB at *;rw[RZ];exact h
theorem B6{name:UU}{e:aM}(g:cA name e=U6):∀ {es:UV aM},dB es->e∈es->bZ (cN name es) e.aL (-e.aH)=cN name (kept e.id es)
 |[],_,h=>by simp at h
 |z :: r,hi,h=>by
  obtain⟨s,q⟩:=hi.cons
  funext p
  by_cases c:z.id=e.id
  ·have t:e=z:=hi.one h UJ c.symm;subst t
   have:kept e.id (e :: r)=r:=by
    have k:=BO (id:=e.id) (es:=r) (fun y m=>by have:=s y m;omega);unfold kept at k ⊢;rw[VG,U0 UJ,k]
   rw[this];simp only[bZ,cN,g,if_true];rw[Int.neg_mul];omega
  ·have o:e∈r:=by
    rcases Vq.1 h with rfl|h
    ·exact U2 rfl c
    ·exact h
   have i:=congrFun (B6 g q o) p
   have:kept e.id (z :: r)=z :: kept e.id r:=by
    unfold kept;rw[VG,U1 (by simpa using c)]
   rw[this];simp only[bZ,cN] at i ⊢;omega
theorem Cz{name:UU}{id:UZ}:∀ {es:UV aM},(∀ e∈es,e.id=id->cA name e=U5)->cN name (kept id es)=cN name es
 |[],_=>rfl
 |z :: r,h=>by
  have i:=Cz (name:=name) (id:=id) (es:=r) (fun y g=>h y (by simp[g]))
  funext p
  have i:=congrFun i p;unfold kept at i ⊢;rw[VG]
  by_cases c:z.id=id
  ·rw[U0 (by simp[c])];simp only[cN,h z UJ c,Vn,if_false];rw[i];omega
  ·rw[U1 (by simpa using c)];simp only[cN,i]
theorem vW:cA name (cS e)=bW e.aT name:=by
 simp[cA,cS]
theorem Jc{name:UU}{e:aM}(g:bW e.aT name=U6)(m:e.kind=3):∀ {es:UV aM},dB es->e∈es->bZ (cN name es) e.aL e.aH=cN name (dZ e.id es)
 |[],_,h=>by simp at h
 |z :: r,hi,h=>by
  obtain⟨A,t⟩:=hi.cons
  funext p
  by_cases c:z.id=e.id
  ·have C:e=z:=hi.one h UJ c.symm;subst C
   have:dZ e.id (e :: r)=cS e :: r:=by
    have k:=yr (id:=e.id) (es:=r) (fun y q=>by have:=A y q;omega);unfold dZ at k ⊢;rw[XD,U1 rfl,k]
   rw[this];have o:cA name e=U5:=by simp[cA,m]
   simp only[bZ,cN,o,vW,g,if_true,Vn,if_false];show 0+cN name r p+e.aH*gA e.aL p=e.aH*gA e.aL p+cN name r p;omega
  ·have s:e∈r:=by
    rcases Vq.1 h with rfl|h
    ·exact U2 rfl c
    ·exact h
   have i:=congrFun (Jc g m t s) p
   have:dZ e.id (z :: r)=z :: dZ e.id r:=by
    unfold dZ;rw[XD,U0 c]
   rw[this];simp only[bZ,cN] at i ⊢;omega
theorem Jv{name:UU}{id:UZ}:∀ {es:UV aM},(∀ e∈es,e.id=id->bW e.aT name=U6->e.kind≠3)->cN name (dZ id es)=cN name es
 |[],_=>rfl
 |z :: r,h=>by
  have i:=Jv (name:=name) (id:=id) (es:=r) (fun y g=>h y (by simp[g]))
  funext p
  have i:=congrFun i p;unfold dZ at i ⊢;rw[XD];simp only[cN,i]
  by_cases c:z.id=id
  ·rw[U1 c,vW]
   have e:cA name z=bW z.aT name:=by
    unfold cA
    cases m:bW z.aT name
    ·rfl
    ·have:=h z UJ c m;simp[this]
   rw[e];rfl
  ·rw[U0 c]
theorem sH:e∈kept id es↔e∈es/\e.id≠id:=by simp[kept]
theorem vY:e∈dZ id es↔(e∈es/\e.id≠id)\/∃ z∈es,z.id=id/\e=cS z:=by
 unfold dZ;rw[V9];constructor
 ·rintro ⟨z,g,h⟩
  by_cases c:z.id=id
  ·rw[U1 c] at h;exact .inr ⟨z,g,c,h.symm⟩
  ·rw[U0 c] at h;subst h;exact .inl ⟨g,c⟩
 ·rintro (⟨o,m⟩|⟨z,g,o,m⟩)
  ·exact⟨e,o,U0 m⟩
  ·exact⟨z,g,by rw[U1 o,m]⟩
end aA
open Go.RowKit
namespace aA
def jJ(a b:UZ)(s:UZ × UZ):UX:=decide (s.1<b) && decide (a<s.2)
def fp(a b:UZ):UV (UZ × UZ)->UZ
 |[]=>-1
 |s :: r=>if jJ a b s then s.1 else fp a b r
end aA
theorem Ak(x:aA.aM × UY × UY)(fr til:UZ)(w:U7)(h:fY w x.2.1 x.1.aL)(J:x.1.aL.length<=100000):
  Va prog 266 #[.agg (dN x).toArray,.int .i64 fr,.int .i64 til] w fun e w'=>e=.returned (.int .i64 (aA.fp fr til x.1.aL))/\U9 w.heap.size w w':=by
 have I:=aC h;clear h;simp only[dN]
 go_in
 go_wp2_with fail
 have r:U9 w.heap.size w (w.alloc (.cells #[.int .i64 x.1.id,.int .i64 x.1.kind,.string x.1.aT,.int .i64 x.1.aH,.slice (U4 ⟨x.2.1,0,U3⟩) x.1.aL.length x.2.2,.int .i64 x.1.bY] 58)):=(zr _ _).alloc (zq _) _;have t:(w.alloc (.cells #[.int .i64 x.1.id,.int .i64 x.1.kind,.string x.1.aT,.int .i64 x.1.aH,.slice (U4 ⟨x.2.1,0,U3⟩) x.1.aL.length x.2.2,.int .i64 x.1.bY] 58)).cell? ⟨w.heap.size,4,U3⟩=U4 (.slice (U4 ⟨x.2.1,0,U3⟩) x.1.aL.length x.2.2):=UJ
 have o:=aC (zA (I.y.later r) r);clear r;generalize (World.alloc w _)=X at t o ⊢;generalize w.heap.size=N at t ⊢
 go_loop [7] (fun i=>∃ k:UY,k<=x.1.aL.length/\i=.int .i64 k/\aA.fp fr til x.1.aL=aA.fp fr til (x.1.aL.drop k)) (fun i=>x.1.aL.length-(intOf i).toNat)
 case atStart=>exact⟨0,V6 _,rfl,rfl⟩
 case round =>
  obtain⟨k,K,rfl,D⟩:=hrel;have q:=aC D;clear D
  by_cases m:k<x.1.aL.length
  ·obtain⟨c1,c2⟩:=o.y.1 k m;have H:(k:UZ)<(x.1.aL.length:UZ):=UI
   have E:aA.fp fr til (x.1.aL.drop k)=if aA.jJ fr til x.1.aL[k] then x.1.aL[k].1 else aA.fp fr til (x.1.aL.drop (k+1)):=by rw[Ws m];rfl
   have s:=aC E;clear E
   by_cases C:x.1.aL[k].1<til
   ·by_cases A:fr<x.1.aL[k].2
    ·have c:Hid (aA.fp fr til x.1.aL=x.1.aL[k].1):=by
      show _=_;have g:aA.jJ fr til x.1.aL[k]=U6:=by simp[aA.jJ,C,A]
      rw[q.y,s.y,g];rfl
     go_wp2
     go_ret;exact⟨gL c.y.symm,o.y.2⟩
    ·have c:Hid (aA.fp fr til x.1.aL=aA.fp fr til (x.1.aL.drop (k+1))):=by
      show _=_;have g:aA.jJ fr til x.1.aL[k]=U5:=by simp[aA.jJ,A]
      rw[q.y,s.y,g];rfl
     go_wp2
     go_round
     case rel=>exact⟨k+1,by omega,by go_num,c.y⟩
     case measure=>simp[intOf];omega
   ·have c:Hid (aA.fp fr til x.1.aL=aA.fp fr til (x.1.aL.drop (k+1))):=by
     show _=_;have g:aA.jJ fr til x.1.aL[k]=U5:=by simp[aA.jJ,C]
     rw[q.y,s.y,g];rfl
    go_wp2
    go_round
    case rel=>exact⟨k+1,by omega,by go_num,c.y⟩
    case measure=>simp[intOf];omega
  ·have e:x.1.aL.drop k=[]:=Wt UI;have c:Hid (aA.fp fr til x.1.aL=-1):=by show _=_;rw[q.y,e];rfl
   have H:¬ (k:UZ)<(x.1.aL.length:UZ):=UI
   clear e
   go_wp2
   go_ret;exact⟨gL c.y.symm,o.y.2⟩
theorem uZ:(prog.info? 60).map (fun i=>(i.zero,i.size,i.bytes))=U4 (U4 (.agg #[.int .i64 0,.int .i64 0]),2,16):=UO
def iF(s:UZ × UZ):UV U8:=[.int .i64 s.1,.int .i64 s.2]
theorem uU(L:UV (UZ × UZ)):(L.flatMap iF).length=L.length*2:=by
 induction L with
 |nil=>rfl
 |cons x xs ih=>simp only[Wi,VU,VV,ih,iF,List.length_nil];omega
theorem L4(L:UV (UZ × UZ)):∀ (j:UY)(u:U8),(L.flatMap iF)[j]?=U4 u->∃ i,∃ h:i<L.length,(j=i*2/\u=.int .i64 L[i].1)\/(j=i*2+1/\u=.int .i64 L[i].2):=by
 intro j u g
 have r:j<L.length*2:=by
  have:=(List.getElem?_eq_some_iff.1 g).1
  rwa [uU] at this
 have q:j / 2<L.length:=UI
 refine⟨j / 2,q,?_⟩;have c:L=L.take (j / 2)++L[j / 2] :: L.drop (j / 2+1):=by rw[Wy,V1]
 have m:((L.take (j / 2)).flatMap iF).length=j / 2*2:=by rw[uU,Wk UI]
 rw[c,Wj,Wi,Wz UI,m,Wg (by simp[iF];omega)] at g;rcases (show j % 2=0\/j % 2=1 by omega) with e|e
 ·have o:j-j / 2*2=0:=UI
  rw[o] at g;simp[iF] at g;exact .inl ⟨by omega,g.symm⟩
 ·have o:j-j / 2*2=1:=UI
  rw[o] at g;simp[iF] at g;exact .inr ⟨by omega,g.symm⟩
theorem zH{q g:UY}(h:w.ownsRow q 60 2 (.slice (U4 ⟨g,0,U3⟩) n cap) n (L.flatMap iF)):n=L.length/\fY w g L:=by
 have E:=h.1;rw[uU] at E;have D:n=L.length:=UI
 refine⟨D,fun i O=>?_⟩;rcases h.2 with ⟨J,_⟩|⟨T,t,s,A,P,H,S,R,Q,I⟩
 ·cases J
 ·cases A
  have m:∀ (j:UY) (u:U8),j<2->(iF L[i])[j]?=U4 u->w.cell? ⟨g,i*2+j,U3⟩=U4 u:=by
   intro j u N C
   have K:(L.flatMap iF)[i*2+j]?=U4 u:=by
    have c:L=L.take i++L[i] :: L.drop (i+1):=by rw[Wy,V1]
    rw[c,Wj,Wi];have o:((L.take i).flatMap iF).length=i*2:=by rw[uU,Wk UI]
    rw[Wz UI,o,Nat.add_sub_cancel_left,Wg (by simp[iF];omega)];exact C
   have r:(s.toList.take (n*2))[i*2+j]?=U4 u:=by rw[I];exact K
   rw[List.getElem?_take_of_lt UI] at r;simp only[Array.getElem?_toList] at r;simp[VA,H,r]
  exact⟨m 0 _ UI rfl,m 1 _ UI rfl⟩
theorem rN{b:UY}{t:Vc}(h:w.heap[b]?=U4 (.cells #[c0,c1,c2,c3,c4,c5] t)):w.cell? ⟨b,0,U3⟩=U4 c0:=by simp[VA,h]
theorem s8{b:UY}{t:Vc}(h:w.heap[b]?=U4 (.cells #[c0,c1,c2,c3,c4,c5] t)):w.cell? ⟨b,1,U3⟩=U4 c1:=by simp[VA,h]
theorem rO{b:UY}{t:Vc}(h:w.heap[b]?=U4 (.cells #[c0,c1,c2,c3,c4,c5] t)):w.cell? ⟨b,2,U3⟩=U4 c2:=by simp[VA,h]
theorem rP{b:UY}{t:Vc}(h:w.heap[b]?=U4 (.cells #[c0,c1,c2,c3,c4,c5] t)):w.cell? ⟨b,3,U3⟩=U4 c3:=by simp[VA,h]
theorem rQ{b:UY}{t:Vc}(h:w.heap[b]?=U4 (.cells #[c0,c1,c2,c3,c4,c5] t)):w.cell? ⟨b,4,U3⟩=U4 c4:=by simp[VA,h]
theorem s9{b:UY}{t:Vc}(h:w.heap[b]?=U4 (.cells #[c0,c1,c2,c3,c4,c5] t)):w.cell? ⟨b,5,U3⟩=U4 c5:=by simp[VA,h]
theorem uD{b:UY}{cs:Array U8}{t:Vc}(h:w.heap[b]?=U4 (.cells cs t)):∀ o,w.frozen? ⟨b,o,U3⟩=U5:=fun o=>by simp[World.frozen?,h]
theorem Mw{X:U7}{N:UY}{g o2:Obj}(c:X.grownBy w1 (Value.slice U3 0 0).ownBlock)(h:N+1<X.heap.size)(o:X.heap[N]?=U4 g)(m:X.heap[N+1]?=U4 o2):w1.heap[N]?=U4 g/\w1.heap[N+1]?=U4 o2 :=
 ⟨(c.block N UI UT).trans o,(c.block (N+1) h UT).trans m⟩
theorem Mv(x:aA.aM × UY × UY)(w:U7)(h:fY w x.2.1 x.1.aL)(Q:0<x.1.aL.length)(hl:x.1.aL.length<=1000):
  Va prog 238 #[.agg (dN x).toArray] w fun e w'=>∃ g cap,e=.returned (.agg (dN (x.1,g,cap)).toArray)/\fY w' g x.1.aL/\w.heap.size<=g/\g<w'.heap.size/\U9 w.heap.size w w':=by
 obtain⟨i0,R,J,I,H⟩:=info_parts uZ;have HS:=aC h;clear h;simp only[dN]
 go_in
 go_upto_region 2 with fail
 have E:U9 w.heap.size w ((w.alloc (.cells #[.int .i64 x.1.id,.int .i64 x.1.kind,.string x.1.aT,.int .i64 x.1.aH,.slice (U4 ⟨x.2.1,0,U3⟩) x.1.aL.length x.2.2,.int .i64 x.1.bY] 58)).alloc (.cells #[.int .i64 0,.int .i64 0,.string ⟨#[]⟩,.int .i64 0,.slice U3 0 0,.int .i64 0] 58)):=((zr _ _).alloc (zq _) _).alloc UJ _;have K:((w.alloc (.cells #[.int .i64 x.1.id,.int .i64 x.1.kind,.string x.1.aT,.int .i64 x.1.aH,.slice (U4 ⟨x.2.1,0,U3⟩) x.1.aL.length x.2.2,.int .i64 x.1.bY] 58)).alloc (.cells #[.int .i64 0,.int .i64 0,.string ⟨#[]⟩,.int .i64 0,.slice U3 0 0,.int .i64 0] 58)).heap.size=w.heap.size+2:=UJ
 have o:∀ j u,(x.1.aL.flatMap iF)[j]?=U4 u->((w.alloc (.cells #[.int .i64 x.1.id,.int .i64 x.1.kind,.string x.1.aT,.int .i64 x.1.aH,.slice (U4 ⟨x.2.1,0,U3⟩) x.1.aL.length x.2.2,.int .i64 x.1.bY] 58)).alloc (.cells #[.int .i64 0,.int .i64 0,.string ⟨#[]⟩,.int .i64 0,.slice U3 0 0,.int .i64 0] 58)).cell? ((⟨x.2.1,0,U3⟩:Addr).add j)=U4 u:=by
  intro j u N
  have ea:∀ j:UY,((⟨x.2.1,0,U3⟩:Addr).add j)=⟨x.2.1,j,U3⟩:=by
   intro j;unfold Addr.add;split
   ·rename_i h;subst h;rfl
   ·simp
  rw[ea];obtain⟨i,W,(⟨rfl,rfl⟩|⟨rfl,rfl⟩)⟩:=L4 _ j u N
  ·exact aN E (HS.y i W).1
  ·exact aN E (HS.y i W).2
 have U:((w.alloc (.cells #[.int .i64 x.1.id,.int .i64 x.1.kind,.string x.1.aT,.int .i64 x.1.aH,.slice (U4 ⟨x.2.1,0,U3⟩) x.1.aL.length x.2.2,.int .i64 x.1.bY] 58)).alloc (.cells #[.int .i64 0,.int .i64 0,.string ⟨#[]⟩,.int .i64 0,.slice U3 0 0,.int .i64 0] 58)).heap[w.heap.size]?=U4 (.cells #[.int .i64 x.1.id,.int .i64 x.1.kind,.string x.1.aT,.int .i64 x.1.aH,.slice (U4 ⟨x.2.1,0,U3⟩) x.1.aL.length x.2.2,.int .i64 x.1.bY] 58) :=
  (Below.heap_alloc _ _ _ UJ).trans (cC _ _)
 have Y:((w.alloc (.cells #[.int .i64 x.1.id,.int .i64 x.1.kind,.string x.1.aT,.int .i64 x.1.aH,.slice (U4 ⟨x.2.1,0,U3⟩) x.1.aL.length x.2.2,.int .i64 x.1.bY] 58)).alloc (.cells #[.int .i64 0,.int .i64 0,.string ⟨#[]⟩,.int .i64 0,.slice U3 0 0,.int .i64 0] 58)).heap[w.heap.size+1]?=U4 (.cells #[.int .i64 0,.int .i64 0,.string ⟨#[]⟩,.int .i64 0,.slice U3 0 0,.int .i64 0] 58):=by
  have:=cC (w.alloc (.cells #[.int .i64 x.1.id,.int .i64 x.1.kind,.string x.1.aT,.int .i64 x.1.aH,.slice (U4 ⟨x.2.1,0,U3⟩) x.1.aL.length x.2.2,.int .i64 x.1.bY] 58)) (.cells #[.int .i64 0,.int .i64 0,.string ⟨#[]⟩,.int .i64 0,.slice U3 0 0,.int .i64 0] 58)
  rwa [World.size_alloc] at this
 have Z:=aC o;have r:=aC (zA E (zA K (zA U Y)));have x4:((w.alloc (.cells #[.int .i64 x.1.id,.int .i64 x.1.kind,.string x.1.aT,.int .i64 x.1.aH,.slice (U4 ⟨x.2.1,0,U3⟩) x.1.aL.length x.2.2,.int .i64 x.1.bY] 58)).alloc (.cells #[.int .i64 0,.int .i64 0,.string ⟨#[]⟩,.int .i64 0,.slice U3 0 0,.int .i64 0] 58)).cell? ⟨w.heap.size,4,U3⟩=U4 (.slice (U4 ⟨x.2.1,0,U3⟩) x.1.aL.length x.2.2):=by simp[VA,U]
 clear E K o U Y;generalize ((w.alloc (.cells #[.int .i64 x.1.id,.int .i64 x.1.kind,.string x.1.aT,.int .i64 x.1.aH,.slice (U4 ⟨x.2.1,0,U3⟩) x.1.aL.length x.2.2,.int .i64 x.1.bY] 58)).alloc (.cells #[.int .i64 0,.int .i64 0,.string ⟨#[]⟩,.int .i64 0,.slice U3 0 0,.int .i64 0] 58))=X at Z r x4 ⊢
 go_wp2_with (first
  |(at_builtin;refine wpList_append_lies _ rfl _ _ 56 rfl w.heap.size 60 i0 _ 2 16 underlying56 R J I H rfl UK (.slice U3 0 0) 0 [] rfl (World.ownsRow_nil _ _ _ _) ⟨x.2.1,0,U3⟩ x.1.aL.length x.2.2 (x.1.aL.flatMap iF) rfl (uU _) Z.y (by intro u N;obtain⟨s,_,V⟩:=List.mem_flatMap.1 N;simp[iF] at V;rcases V with rfl|rfl <;> rfl) Q UR UI (by have:=r.y.2.1;omega) X.heap.size rfl ?_;intro g cap w1 O q T P;obtain⟨A,t⟩:=Mw q (by have:=r.y.2.1;omega) r.y.2.2.1 r.y.2.2.2;have b0:=rN A;have b1:=s8 A;have b2:=rO A;have b3:=rP A;have b5:=s9 A;have b4:=rQ A;have g4:=uD A;have r0:=rN t;have r1:=s8 t;have r2:=rO t;have r3:=rP t;have r4:=rQ t;have r5:=s9 t;have rf:=uD t))
 have hg:g=X.heap.size:=by
  rcases T with e|e
  ·simp[Wr] at e
  ·exact e
 have K:=r.y.2.1;have C:w1.ownsRow w.heap.size 60 2 (.slice (U4 ⟨g,0,U3⟩) x.1.aL.length cap) x.1.aL.length (x.1.aL.flatMap iF):=by simpa using O
 have m:U9 w.heap.size w w1:=r.y.1.grown q r.y.1.size (fun k D=>by simp[Wr] at D)
 have c:aF [w.heap.size,w.heap.size+1] w1 (((((((w1.setCell ⟨w.heap.size,4,U3⟩ (.slice (U4 ⟨g,0,U3⟩) x.1.aL.length cap)).setCell ⟨w.heap.size+1,0,U3⟩ (.int .i64 x.1.id)).setCell ⟨w.heap.size+1,1,U3⟩ (.int .i64 x.1.kind)).setCell ⟨w.heap.size+1,2,U3⟩ (.string x.1.aT)).setCell ⟨w.heap.size+1,3,U3⟩ (.int .i64 x.1.aH)).setCell ⟨w.heap.size+1,4,U3⟩ (.slice (U4 ⟨g,0,U3⟩) x.1.aL.length cap)).setCell ⟨w.heap.size+1,5,U3⟩ (.int .i64 x.1.bY)) :=
  (((((((aF.refl _ w1).setCell (.inl UJ) _ _).setCell (.inl UJ) _ _).setCell (.inl UJ) _ _).setCell (.inl UJ) _ _).setCell (.inl UJ) _ _).setCell (.inl UJ) _ _).setCell (.inl UJ) _ _
 have S:U9 w.heap.size w (((((((w1.setCell ⟨w.heap.size,4,U3⟩ (.slice (U4 ⟨g,0,U3⟩) x.1.aL.length cap)).setCell ⟨w.heap.size+1,0,U3⟩ (.int .i64 x.1.id)).setCell ⟨w.heap.size+1,1,U3⟩ (.int .i64 x.1.kind)).setCell ⟨w.heap.size+1,2,U3⟩ (.string x.1.aT)).setCell ⟨w.heap.size+1,3,U3⟩ (.int .i64 x.1.aH)).setCell ⟨w.heap.size+1,4,U3⟩ (.slice (U4 ⟨g,0,U3⟩) x.1.aL.length cap)).setCell ⟨w.heap.size+1,5,U3⟩ (.int .i64 x.1.bY)) :=
  ⟨c.os.trans m.os,c.tape.trans m.tape,c.output.trans m.output,Nat.le_trans m.size c.size,fun k D=>(c.block k (zL D m.size) UQ).trans (m.block k D)⟩
 refine bodyPost_ret (v:=.agg #[.int .i64 x.1.id,.int .i64 x.1.kind,.string x.1.aT,.int .i64 x.1.aH,.slice (U4 ⟨g,0,U3⟩) x.1.aL.length cap,.int .i64 x.1.bY]) (by simp[results,results238,go_sem,r0,r1,r2,r3,r4,r5]) rfl ⟨g,cap,rfl,(zH C).2.off c UQ,by omega,WE P c.size,S⟩
namespace aA
def kh(name:UU)(a b:UZ)(e:aM):UX:=cA name e && decide (0<=fp a b e.aL)
end aA
structure nG(w wx:U7)(v:U8)(ys:UV (aA.aM × UY × UY)):Prop where
 own:wx.ownsRow w.heap.size 58 6 v ys.length (ys.flatMap dN)
 sl:∀ y∈ys,fY wx y.2.1 y.1.aL/\w.heap.size<=y.2.1/\y.2.1<wx.heap.size/\v.ownBlock≠U4 y.2.1
 bw:U9 w.heap.size w wx
theorem nG.later{wx g:U7}{ys:UV (aA.aM × UY × UY)}(h:nG w wx v ys)(k:U9 wx.heap.size wx g):nG w g v ys :=
 ⟨ey h.own k,fun y c=>⟨(h.sl y c).1.later k,(h.sl y c).2.1,WE (h.sl y c).2.2.1 k.size,(h.sl y c).2.2.2⟩,aZ h.bw k (zq _)⟩
namespace cH
def before(fs:UV UZ)(k i:UY):UX:=decide (fs.getD k 0<fs.getD i 0) || (decide (fs.getD k 0=fs.getD i 0) && decide (k<i))
def upto(fs:UV UZ)(i n:UY):UY:=((XH n).filter (fun k=>before fs k i)).length
def kf(fs:UV UZ)(i:UY):UY:=upto fs i fs.length
theorem uT(fs:UV UZ)(i n:UY):upto fs i (n+1)=upto fs i n+if before fs n i then 1 else 0:=by
 unfold upto;rw[List.range_succ,VF,VU]
 cases h:before fs n i <;> simp[h]
theorem EW(fs:UV UZ)(i:UY):before fs i i=U5:=by simp[before]
theorem M5{a b c:UY}(h:before fs a b=U6)(k:before fs b c=U6):before fs a c=U6:=by
 simp[before] at *;omega
theorem ET(fs:UV UZ){a b:UY}(h:a≠b):before fs a b=U6\/before fs b a=U6:=by
 simp[before];omega
theorem zQ(fs:UV UZ)(i:UY):∀ n,upto fs i n<=n
 |0=>by simp[upto]
 |n+1=>by have:=zQ fs i n;rw[uT];split <;> omega
theorem DB(fs:UV UZ){i:UY}:∀ {n},i<n->upto fs i n<n
 |0,h=>by omega
 |n+1,h=>by
  rw[uT]
  by_cases e:i=n
  ·subst e;rw[EW];have:=zQ fs i i;simp;omega
  ·have:=DB fs (i:=i) (n:=n) UI
   split <;> omega
theorem zP(fs:UV UZ)(h:i<fs.length):kf fs i<fs.length:=DB fs h
theorem Es{fs:UV UZ}{i j:UY}(h:before fs i j=U6):∀ n,upto fs i n+(if i<n then 1 else 0)<=upto fs j n
 |0=>by simp[upto]
 |n+1=>by
  have ih:=Es h n;rw[uT,uT]
  by_cases e:n=i
  ·subst e;rw[EW,h];simp at ih ⊢;omega
  ·have m:(if i<n+1 then 1 else 0:UY)=(if i<n then 1 else 0):=by
    by_cases c:i<n
    ·rw[U1 c,U1 UI]
    ·rw[U0 c,U0 UI]
   rw[m];generalize (if i<n then 1 else 0:UY)=q at ih ⊢
   cases g:before fs n i
   ·simp only[Vn,if_false]
    split <;> omega
   ·rw[M5 g h];simp only[if_true];omega
theorem Aj(c:i<fs.length)(h:before fs i j=U6):kf fs i<kf fs j:=by
 have:=Es h fs.length;rw[U1 c] at this;exact this
theorem Aa(m:i<fs.length)(g:j<fs.length)(h:kf fs i=kf fs j):i=j:=by
 by_cases e:i=j
 ·exact e
 ·rcases ET fs e with c|c
  ·have:=Aj m c;omega
  ·have:=Aj g c;omega
end cH
theorem zx:∀ (n:UY)(l:UV UY),l.Nodup->(∀ x∈l,x<n)->l.length<=n
 |0,l,_,h=>by
  cases l with
  |nil=>simp
  |cons x l=>have:=h x UJ;omega
 |n+1,l,hd,h=>by
  by_cases c:n∈l
  ·have r:(l.erase n).length<=n:=zx n (l.erase n) (hd.erase n) (fun x g=>by
    have q:=List.mem_of_mem_erase g;have o:=h x q;have m:x≠n:=fun e=>by subst e;exact hd.not_mem_erase g
    omega)
   rw[List.length_erase_of_mem c] at r;omega
  ·have:=zx n l hd (fun x g=>by
    have o:=h x g;have m:x≠n:=fun e=>by subst e;exact c g
    omega)
   omega
theorem MG{l:UV UY}(o:l.Nodup)(h:∀ x∈l,x<n)(q:l.length=n):∀ k,k<n->k∈l:=by
 intro k m;apply Xo;intro c
 have:=zx n (k :: l) (Vt.2 ⟨c,o⟩) (fun x g=>by
  rcases Vq.1 g with rfl|g
  ·exact m
  ·exact h x g)
 simp at this;omega
namespace cH
theorem wR(fs:UV UZ)(m:k<fs.length):∃ i,i<fs.length/\kf fs i=k:=by
 have q:((XH fs.length).map (kf fs)).Nodup:=by
  unfold XI;rw[XJ];refine XK ?_ (List.nodup_range (n:=fs.length));intro i j c o g e;exact g (Aa (XL.1 c) (XL.1 o) e)
 have:=MG q (fun x h=>by
  obtain⟨i,c,rfl⟩:=V9.1 h
  exact zP fs (XL.1 c)) UJ k m
 obtain⟨i,c,e⟩:=V9.1 this;exact⟨i,XL.1 c,e⟩
end cH
namespace aA
def lI(a b:UZ)(x y:aM):Prop:=fp a b x.aL<fp a b y.aL\/(fp a b x.aL=fp a b y.aL/\x.id<y.id)
theorem RI(a b:UZ)(x:aM):¬ lI a b x x:=by unfold lI;omega
theorem Hg(a b:UZ)(x y z:aM)(h:lI a b x y)(k:lI a b y z):lI a b x z:=by unfold lI at *;omega
def nH(a b:UZ)(l:UV aM):UV UZ:=l.map fun e=>fp a b e.aL
theorem An(h:i<l.length):(nH a b l).getD i 0=fp a b l[i].aL:=by
 simp[nH,List.getD,h]
theorem Mp{y:UV aM}(t:dB l)(E:y.length=l.length)(h:∀ (i:UY)(c:i<l.length),y[cH.kf (nH a b l) i]?=U4 l[i]):y.Pairwise (lI a b)/\∀ e,e∈y↔e∈l:=by
 have K:(nH a b l).length=l.length:=by simp[nH]
 have g:∀ (k:UY),k<y.length->∃ (i:UY) (c:i<l.length),cH.kf (nH a b l) i=k/\y[k]?=U4 l[i]:=by
  intro k s;obtain⟨i,c,e⟩:=cH.wR (nH a b l) (k:=k) UI;rw[K] at c;exact⟨i,c,e,by rw[<- e];exact h i c⟩
 refine⟨?_,fun e=>⟨fun A=>?_,fun A=>?_⟩⟩
 ·rw[XM];intro p q D C J;obtain⟨i,c,P,o⟩:=g p D;obtain⟨j,H,O,I⟩:=g q C;rw[WS D] at o;rw[WS C] at I;rw[WJ o,WJ I];have r:i≠j:=fun e=>by subst e;omega
  rcases cH.ET (nH a b l) r with m|m
  ·unfold cH.before at m;rw[An c,An H] at m;simp at m;rcases m with m|⟨m,N⟩
   ·exact .inl m
   ·refine .inr ⟨m,?_⟩;have:=XM.1 t i j (by simpa using c) (by simpa using H) N
    simpa using this
  ·have:=cH.Aj (fs:=nH a b l) UI m;omega
 ·obtain⟨k,s,rfl⟩:=XN A;obtain⟨i,c,_,o⟩:=g k s;rw[WS s] at o;rw[WJ o];exact zg c
 ·obtain⟨i,c,rfl⟩:=XN A;exact List.mem_of_getElem? (h i c)
def gJ(L:UV (UZ × UZ)):Prop:=L.Pairwise fun s t=>s.1<t.1
theorem BJ{a b:UZ}:∀ {L:UV (UZ × UZ)},gJ L->(∃ s∈L,jJ a b s=U6)->(∃ s∈L,jJ a b s=U6/\s.1=fp a b L)/\∀ t∈L,jJ a b t=U6->fp a b L<=t.1
 |[],_,h=>by obtain⟨s,D,_⟩:=h;simp at D
 |s :: r,hr,h=>by
  unfold gJ at hr;rw[VE] at hr;simp only[fp]
  by_cases c:jJ a b s=U6
  ·rw[U1 c];refine⟨⟨s,by simp,c,rfl⟩,fun t ht _=>?_⟩;rcases Vq.1 ht with rfl|ht
   ·omega
   ·have:=hr.1 t ht;omega
  ·rw[U0 c]
   have E:∃ s∈r,jJ a b s=U6:=by
    obtain⟨t,ht,k⟩:=h;rcases Vq.1 ht with rfl|ht
    ·exact U2 k c
    ·exact⟨t,ht,k⟩
   obtain⟨⟨t,C,A,q⟩,o⟩:=BJ (a:=a) (b:=b) (L:=r) hr.2 E;refine⟨⟨t,by simp[C],A,q⟩,fun u g m=>?_⟩;rcases Vq.1 g with rfl|g
   ·exact U2 m c
   ·exact o u g m
theorem IM{a b:UZ}:∀ {L:UV (UZ × UZ)},(∀ s∈L,jJ a b s=U5)->fp a b L=-1
 |[],_=>rfl
 |s :: r,h=>by
  simp only[fp];rw[U0 (by rw[h s UJ];simp)];exact IM (fun t ht=>h t (by simp[ht]))
theorem Jj(o:gJ L)(r:∀ s∈L,0<=s.1):0<=fp a b L↔∃ s∈L,jJ a b s=U6:=by
 constructor
 ·intro h;apply Xo;intro c
  have:fp a b L=-1:=IM (fun s m=>by
   cases q:jJ a b s
   ·rfl
   ·exact U2 ⟨s,m,q⟩ c)
  omega
 ·intro h;obtain⟨⟨s,g,_,t⟩,_⟩:=BJ o h;have:=r s g;omega
def tY(acc:UV aE.It)(z:aE.It):UV aE.It:=if acc.any fun u=>decide (u.n=z.n) then acc else acc++[z]
def uniq(M:UV aE.It):UV aE.It:=M.foldl tY []
theorem xR(M:UV aE.It)(z:aE.It):uniq (M++[z])=tY (uniq M) z:=by unfold uniq;rw[List.foldl_append];rfl
theorem OQ:∀ (n:UY)(M:UV aE.It),M.length=n->aE.Ord M->aE.Ord (uniq M)/\(∀ u∈uniq M,u∈M)/\(∀ z∈M,∃ u∈uniq M,u.n=z.n/\(u=z\/aE.lt u z))/\((uniq M).map (·.n)).Nodup:=by
 intro n
 induction n with
 |zero =>
  intro M q _;rw[List.length_eq_zero_iff.1 q];exact⟨XP,by simp[uniq],by simp,by simp[uniq]⟩
 |succ n ih =>
  intro M q m;obtain⟨K,z,rfl⟩:∃ K z,M=K++[z]:=⟨M.dropLast,M.getLast (by intro e;simp[e] at q),(List.dropLast_concat_getLast _).symm⟩;unfold aE.Ord at m;rw[Xn] at m;obtain⟨A,o,t,s⟩:=ih K (by simpa using q) m.1;rw[xR];unfold tY
  by_cases c:((uniq K).any fun u=>decide (u.n=z.n))=U6
  ·rw[U1 c];obtain⟨u,g,D⟩:=XQ.1 c;refine⟨A,fun u g=>by simp[o u g],fun y h=>?_,s⟩;rcases Vr.1 h with h|h
   ·exact t y h
   ·have:y=z:=by simpa using h
    subst this;exact⟨u,g,by simpa using D,.inr (m.2.2 u (o u g) y UJ)⟩
  ·rw[U0 c];have r:∀ u∈uniq K,u.n≠z.n:=fun u g e=>c (XQ.2 ⟨u,g,by simp[e]⟩)
   refine⟨?_,fun u g=>?_,fun y h=>?_,?_⟩
   ·unfold aE.Ord;rw[Xn]
    exact⟨A,by simp,fun u g y h=>by
     have:y=z:=by simpa using h
     subst this
     exact m.2.2 u (o u g) y UJ⟩
   ·rcases Vr.1 g with g|g
    ·simp[o u g]
    ·simp at g;simp[g]
   ·rcases Vr.1 h with h|h
    ·obtain⟨u,g,k⟩:=t y h;exact⟨u,by simp[g],k⟩
    ·have:y=z:=by simpa using h
     subst this;exact⟨y,by simp,rfl,.inl rfl⟩
   ·rw[We,List.nodup_append];refine⟨s,by simp,fun x C y h e=>?_⟩;obtain⟨u,g,rfl⟩:=V9.1 C;simp at h;exact r u g (by rw[e,h])
def gC(name:UU)(es:UV aM)(at_:UZ->UY)(T:aE.S):Prop :=
 aE.Ord (aE.bS T)/\∀ z,z∈aE.bS T↔∃ e∈es,cA name e=U6/\∃ s∈e.aL,z=⟨s.1,s.2,e.id,at_ e.id⟩
theorem OP{at_:UZ->UY}{T:aE.S}(h:gC name es at_ T)(Q:dB es)(hr:∀ e∈es,gJ e.aL)(h0:∀ e∈es,∀ s∈e.aL,0<=s.1){ys:UV aM}(hl:ys.length=(uniq (aE.meet a b T)).length)(W:∀ (i:UY)(A:i<ys.length),ys[i]∈es/\ys[i].id=((uniq (aE.meet a b T))[i]'UI).n):
  ys.Pairwise (lI a b)/\∀ e,e∈ys↔e∈es.filter (kh name a b):=by
 have hM:=aE.xJ a b T h.1;have hO:aE.Ord (aE.meet a b T):=by rw[hM];exact aE.IK _ h.1
 obtain⟨u1,u2,u3,u4⟩:=OQ _ (aE.meet a b T) rfl hO
 have E:∀ z,z∈aE.meet a b T↔∃ e∈es,cA name e=U6/\∃ s∈e.aL,jJ a b s=U6/\z=⟨s.1,s.2,e.id,at_ e.id⟩:=by
  intro z;rw[hM,Xq,h.2];constructor
  ·rintro ⟨⟨e,D,K,s,m,rfl⟩,C⟩;exact⟨e,D,K,s,m,C,rfl⟩
  ·rintro ⟨e,D,K,s,m,C,rfl⟩;exact⟨⟨e,D,K,s,m,rfl⟩,C⟩
 -- each item that is kept stands at its entry's first
 have fst:∀ u∈uniq (aE.meet a b T),∀ e∈es,e.id=u.n->cA name e=U6/\u.f=fp a b e.aL/\∃ s∈e.aL,jJ a b s=U6:=by
  intro u N e g hn;obtain⟨e',D,K,s,m,C,rfl⟩:=(E u).1 (u2 u N);have:e=e':=Q.one g D hn;subst this;refine⟨K,?_,s,m,C⟩;obtain⟨⟨t,t1,t2,t3⟩,t4⟩:=BJ (hr e g) ⟨s,m,C⟩;have ab:=t4 s m C;obtain⟨u',Z,V,J⟩:=u3 ⟨t.1,t.2,e.id,at_ e.id⟩ ((E _).2 ⟨e,g,K,t,t1,t2,rfl⟩)
  have P:u'=⟨s.1,s.2,e.id,at_ e.id⟩:=by
   have q:=u4;unfold XI at q;rw[XJ] at q;apply Xo;intro aa;obtain⟨i,A,R⟩:=XN Z;obtain⟨j,X,ej⟩:=XN N;have H:i≠j:=fun e=>by subst e;exact aa (R.symm.trans ej)
   rcases Nat.lt_or_gt_of_ne H with c|c
   ·have:=XM.1 q i j A X c;rw[R,ej] at this;exact this V
   ·have:=XM.1 q j i X A c;rw[R,ej] at this;exact this V.symm
  subst P;show s.1=_;rcases J with J|J
  ·have:=congrArg aE.It.f J;simp at this;omega
  ·unfold aE.lt at J;simp at J;omega
 have Y:∀ u∈uniq (aE.meet a b T),∀ e∈es,e.id=u.n->e∈es.filter (kh name a b):=by
  intro u N e g hn;obtain⟨D,_,m⟩:=fst u N e g hn;exact Xq.2 ⟨g,by simp[kh,D,(Jj (hr e g) (h0 e g)).2 m]⟩
 refine⟨?_,fun e=>⟨fun g=>?_,fun g=>?_⟩⟩
 ·rw[XM];intro i j A X H;have o:=XM.1 u1 i j UI UI H;obtain⟨U,O⟩:=W i A;obtain⟨b1,b2⟩:=W j X;have f1:=(fst _ (zg UI) _ U O).2.1;have f2:=(fst _ (zg UI) _ b1 b2).2.1;unfold aE.lt at o;unfold lI;rw[<- f1,<- f2,O,b2];exact o
 ·obtain⟨i,A,rfl⟩:=XN g;obtain⟨U,O⟩:=W i A;exact Y _ (zg UI) _ U O
 ·obtain⟨r,I⟩:=Xq.1 g;simp only[kh,Bool.and_eq_true,decide_eq_true_eq] at I;obtain⟨s,s1,s2⟩:=(Jj (hr e r) (h0 e r)).1 I.2;obtain⟨u,N,V,_⟩:=u3 _ ((E _).2 ⟨e,r,I.1,s,s1,s2,rfl⟩);obtain⟨i,A,R⟩:=XN N;obtain⟨U,O⟩:=W i UI;have:ys[i]'UI=e:=Q.one U r (by rw[O,R];exact V);rw[<- this];exact zg _
theorem ye(p:aM->UX)(h:dB es):dB (es.filter p):=by
 unfold dB at *;exact Xp (XR _ XS) h
end aA
namespace aA
theorem B5{a b:UU}:bW a b=U6↔a.toList=b.toList:=by simp[bW]
theorem qV(a:UU):bW a a=U6:=B5.2 rfl
theorem Ja{a b c:UU}(h:bW a b=U6):bW c a=bW c b:=by
 unfold bW;rw[B5.1 h]
def nN(a b:UZ)(x:aM):UV aM->UV aM
 |[]=>[x]
 |y :: r=>if fp a b x.aL<fp a b y.aL\/(fp a b x.aL=fp a b y.aL/\x.id<y.id) then x :: y :: r else y :: nN a b x r
def qI(a b:UZ):UV aM->UV aM
 |[]=>[]
 |x :: r=>nN a b x (qI a b r)
theorem Bt{a b:UZ}{x z:aM}:∀ {l:UV aM},z∈nN a b x l↔z=x\/z∈l
 |[]=>by simp[nN]
 |y :: r=>by
  simp only[nN]
  split
  ·simp
  ·rw[Vq,Bt,Vq];constructor
   ·rintro (h|h|h)
    ·exact .inr (.inl h)
    ·exact .inl h
    ·exact .inr (.inr h)
   ·rintro (h|h|h)
    ·exact .inr (.inl h)
    ·exact .inl h
    ·exact .inr (.inr h)
theorem yp{a b:UZ}{z:aM}:∀ {l:UV aM},z∈qI a b l↔z∈l
 |[]=>by simp[qI]
 |x :: r=>by rw[qI,Bt,yp,Vq]
theorem FU{a b:UZ}{x:aM}:∀ {l:UV aM},l.Pairwise (lI a b)->(∀ z∈l,z.id≠x.id)->(nN a b x l).Pairwise (lI a b)
 |[],_,_=>by simp[nN]
 |y :: r,h,hn=>by
  rw[VE] at h;simp only[nN]
  split
  ·rename_i c
   refine VE.2 ⟨fun z g=>?_,VE.2 h⟩;rcases Vq.1 g with rfl|g
   ·exact c
   ·exact Hg a b x y z c (h.1 z g)
  ·rename_i c
   refine VE.2 ⟨fun z g=>?_,FU h.2 (fun z g=>hn z (by simp[g]))⟩;rcases Bt.1 g with rfl|g
   ·have:=hn y UJ;unfold lI;omega
   ·exact h.1 z g
theorem GS{a b:UZ}:∀ {l:UV aM},dB l->(qI a b l).Pairwise (lI a b)
 |[],_=>by simp[qI]
 |x :: r,h=>by
  obtain⟨m,g⟩:=h.cons;exact FU (GS g) (fun z c=>by have:=m z (yp.1 c);omega)
def kS(name:UU)(a b:UZ)(es:UV aM):UV aM:=qI a b (es.filter (kh name a b))
theorem Hd{y:UV aM}(c:dB es)(h:y.Pairwise (lI a b))(g:∀ e,e∈y↔e∈es.filter (kh name a b)):y=kS name a b es :=
 Cx (RI a b) (Hg a b) h (GS (ye _ c)) (fun e=>(g e).trans yp.symm)
def dQ(ts:UV (UU × UZ)):UV aM->UV aM->UV aM × UV UZ
 |done,[]=>(done,[])
 |done,e :: r =>
  if e.kind=3/\dG ts (done++e :: r) e.aT e.aH e.aL=U6 then
   ((dQ ts (done++[cS e]) r).1,e.id :: (dQ ts (done++[cS e]) r).2)
  else dQ ts (done++[e]) r
def eA(ts:UV (UU × UZ))(es:UV aM):UV aM × UV UZ:=dQ ts [] es
def CI(tq:UZ):UV aM->UZ
 |[]=>tq
 |e :: r=>if e.kind≠1/\e.bY<CI tq r then e.bY else CI tq r
def n8(t:UZ)(e:aM):UX:=(e.kind != 1) && decide (e.bY=t)
def Jw(ts:UV (UU × UZ)):UY->UV aM->UZ->UZ->UV aM × UV UZ × UV UZ
 |0,es,_,_=>(es,[],[])
 |k+1,es,now,tq =>
  if now<tq then
   let t:=CI tq es
   let g:=eA ts (es.filter fun e=>!n8 t e)
   let q:=Jw ts k g.1 t tq
   (q.1,(es.filter (n8 t)).map (·.id)++q.2.1,g.2++q.2.2)
  else (es,[],[])
structure St where
 ts:UV (UU × UZ)
 es:UV aM
 given:UZ
 now:UZ
structure bO where
 err:UZ
 at_:UZ
 n:UZ
 entries:UV aM
 days:UV UZ
 granted:UV UZ
 ended:UV UZ
def bO.error(e:UZ):bO:=⟨e,0,0,[],[],[],[]⟩
def bO.num(n:UZ):bO:=⟨0,0,n,[],[],[],[]⟩
inductive fJ where
 |aT (name:UU) (aH:UZ)
 |enter (kind:UZ) (name:UU) (aH fr til long:UZ)
 |series (name:UU) (aH:UZ) (r:Rd.bL)
 |confirm (id:UZ)
 |cancel (id:UZ)
 |list (name:UU) (fr til:UZ)
 |waiting
 |cY (name:UU) (fr til:UZ)
 |find (name:UU) (aH long fr til:UZ)
 |expand (r:Rd.bL)
 |tick (n:UZ)
 |clock
def jz(s:St)(e:aM):St × bO:=(⟨s.ts,s.es++[{ e with id:=s.given+1 }],s.given+1,s.now⟩,bO.num (s.given+1))
def re(s:St)(c:UZ)(name:UU)(aH fr til long:UZ):UZ :=
 if dH s.ts name aH≠0 then dH s.ts name aH
 else if til<=fr\/1048320<s.now+long then 6
 else if s.given=60 then 5
 else if c=3 then (if eh s.es=6 then 5 else 0)
 else if dG s.ts s.es name aH [(fr,til)] then 0 else 8
def nT(s:St)(c:UZ)(name:UU)(aH fr til long:UZ):aM:=⟨0,c,name,aH,[(fr,til)],if c=1 then 0 else s.now+long⟩
def mH(s:St)(name:UU)(aH:UZ)(r:Rd.bL):UZ :=
 if dH s.ts name aH≠0 then dH s.ts name aH
 else if Rd.gd r≠0 then Rd.gd r
 else if s.given=60 then 5
 else if dG s.ts s.es name aH (Rd.gg r (Rd.bH r)) then 0 else 8
def mZ(id:UZ)(es:UV aM):UW aM:=es.find? fun e=>decide (e.id=id)
def aU(s:St):fJ->St × bO
 |.aT name aH=>if bJ name s.ts≠0 then (s,.error 4) else if s.ts.length=4 then (s,.error 5) else ({ s with ts:=s.ts++[(name,aH)] },.num 0)
 |.enter kind name aH fr til long=>if re s kind name aH fr til long≠0 then (s,.error (re s kind name aH fr til long)) else jz s (nT s kind name aH fr til long)
 |.series name aH r=>if mH s name aH r≠0 then (s,.error (mH s name aH r)) else jz s ⟨0,1,name,aH,Rd.gg r (Rd.bH r),0⟩
 |.confirm id=>match mZ id s.es with
  |none=>(s,.error 9)
  |some e=>if e.kind≠2 then (s,.error 10) else ({ s with es:=dZ id s.es },.num 0)
 |.cancel id=>match mZ id s.es with
  |none=>(s,.error 9)
  |some _=>({ s with es:=kept id s.es },.num 0)
 |.list name fr til=>if bJ name s.ts=0 then (s,.error 3) else if til<=fr then (s,.error 6) else (s,{ bO.num 0 with entries:=kS name fr til s.es })
 |.waiting=>(s,{ bO.num 0 with entries:=s.es.filter fun e=>e.kind==3 })
 |.cY name fr til=>if bJ name s.ts=0 then (s,.error 3) else if til<=fr then (s,.error 6) else (s,.num (lE name s.es fr til))
 |.find name aH long fr til=>if dH s.ts name aH≠0 then (s,.error (dH s.ts name aH)) else if til<=fr then (s,.error 6) else (s,.num (iY s.ts s.es name aH long fr til))
 |.expand r=>if Rd.gd r≠0 then (s,.error (Rd.gd r)) else (s,{ bO.num (Rd.bH r).length with days:=Rd.bH r })
 |.tick n=>if 1048320<s.now+n then (s,.error 6) else
   let q:=Jw s.ts (s.es.length+1) s.es s.now (s.now+n)
   ({ s with es:=q.1,now:=s.now+n },{ bO.num (s.now+n) with granted:=q.2.2,ended:=q.2.1 })
 |.clock=>(s,.num s.now)
def ig(s:St)(l:fJ):St × bO :=
 if (aU s l).2.err≠0 then aU s l
 else ({ (aU s l).1 with es:=(eA (aU s l).1.ts (aU s l).1.es).1 },{ (aU s l).2 with granted:=(aU s l).2.granted++(eA (aU s l).1.ts (aU s l).1.es).2 })
def jA:fJ->Prop
 |.aT _ u=>1<=u/\u<=9
 |.enter k _ u fr til long=>(k=1/\long=0\/(k=2\/k=3)/\1<=long/\long<=1048320)/\1<=u/\u<=9/\0<=fr/\fr<=1048320/\0<=til/\til<=1048320
 |.series _ u r=>1<=u/\u<=9/\Rd.fw r
 |.confirm id=>0<=id/\id<=9999999
 |.cancel id=>0<=id/\id<=9999999
 |.list _ fr til=>0<=fr/\fr<=1048320/\0<=til/\til<=1048320
 |.waiting=>True
 |.cY _ fr til=>0<=fr/\fr<=1048320/\0<=til/\til<=1048320
 |.find _ u long fr til=>1<=u/\u<=9/\1<=long/\long<=1048320/\0<=fr/\fr<=1048320/\0<=til/\til<=1048320
 |.expand r=>Rd.fw r
 |.tick n=>1<=n/\n<=1048320
 |.clock=>True
structure gD(now:UZ)(e:aM):Prop where
 u1:1<=e.aH
 u9:e.aH<=9
 sl:e.aL.length<=40
 s0:e.aL≠[]
 sp:ot e.aL
 ri:gJ e.aL
 kd:(e.kind=1/\e.bY=0)\/((e.kind=2\/e.kind=3)/\now<e.bY/\e.bY<=1048320/\e.aL.length=1)
structure Inv(s:St):Prop where
 tl:s.ts.length<=4
 tu:∀ t∈s.ts,1<=t.2/\t.2<=9
 tn:s.ts.Pairwise fun t u=>bW t.1 u.1=U5
 ids:dB s.es
 mM:∀ e∈s.es,1<=e.id/\e.id<=s.given
 g0:0<=s.given
 g1:s.given<=60
 n0:0<=s.now
 n1:s.now<=1048320
 en:∀ e∈s.es,gD s.now e
 th:∀ e∈s.es,e.aH<=bJ e.aT s.ts
 wa:eh s.es<=6
 no:∀ e∈s.es,e.kind=3->dG s.ts s.es e.aT e.aH e.aL=U5
 wi:∀ name x,bP name x s.es<=bJ name s.ts
end aA
namespace aA
theorem gD.small(h:gD now e):Small e:=⟨by have:=h.u1;omega,h.u9,by have:=h.sl;omega⟩
structure ec(s:St):Prop where
 tl:s.ts.length<=4
 tu:∀ t∈s.ts,1<=t.2/\t.2<=9
 tn:s.ts.Pairwise fun t u=>bW t.1 u.1=U5
 ids:dB s.es
 mM:∀ e∈s.es,1<=e.id/\e.id<=s.given
 g0:0<=s.given
 g1:s.given<=60
 n0:0<=s.now
 n1:s.now<=1048320
 en:∀ e∈s.es,gD s.now e
 th:∀ e∈s.es,e.aH<=bJ e.aT s.ts
 wa:eh s.es<=6
 wi:∀ name x,bP name x s.es<=bJ name s.ts
theorem Inv.aS{s:St}(h:Inv s):ec s:=⟨h.tl,h.tu,h.tn,h.ids,h.mM,h.g0,h.g1,h.n0,h.n1,h.en,h.th,h.wa,h.wi⟩
theorem ec.inv{s:St}(h:ec s)(c:∀ e∈s.es,e.kind=3->dG s.ts s.es e.aT e.aH e.aL=U5):Inv s:=⟨h.tl,h.tu,h.tn,h.ids,h.mM,h.g0,h.g1,h.n0,h.n1,h.en,h.th,h.wa,c,h.wi⟩
theorem ec.small{s:St}(h:ec s):∀ e∈s.es,Small e:=fun e c=>(h.en e c).small
theorem ec.pos{s:St}(h:ec s):Pos s.es:=Small.pos h.small
theorem CD{a b:UU}(h:bW a b=U6):∀ ts:UV (UU × UZ),bJ a ts=bJ b ts
 |[]=>rfl
 |t :: r=>by simp only[bJ,Ja (c:=t.1) h,CD h r]
theorem QJ{a b:UU}(h:bW a b=U6)(e:aM):cA a e=cA b e:=by unfold cA;rw[Ja h]
theorem CB{a b:UU}(h:bW a b=U6)(x:UZ):∀ es:UV aM,bP a x es=bP b x es
 |[]=>rfl
 |e :: r=>by simp only[bP,QJ h,CB h x r]
theorem Cy(h:∀ t∈ts,1<=t.2/\t.2<=9)(name:UU):0<=bJ name ts/\bJ name ts<=9:=by
 induction ts with
 |nil=>simp[bJ]
 |cons t r ih =>
  have i:=ih (fun u c=>h u (by simp[c]));have j:=h t UJ;simp only[bJ]
  split <;> omega
theorem Ux(h:Pos es):0<=bP name x es:=by
 induction es with
 |nil=>simp[bP]
 |cons e r ih =>
  have i:=ih (fun z g=>h z (by simp[g]));have c:0<=cP e.aL x*e.aH:=V2 (pO e.aL x).1 (h e UJ);simp only[bP]
  split <;> omega
theorem Jk{name:UU}{x:UZ}(p:aM->UX):∀ {es:UV aM},Pos es->bP name x (es.filter p)<=bP name x es
 |[],_=>Xk _
 |e :: r,h=>by
  have i:=Jk (name:=name) (x:=x) p (es:=r) (fun z g=>h z (by simp[g]));have c:0<=cP e.aL x*e.aH:=V2 (pO e.aL x).1 (h e UJ);rw[VG]
  split
  ·simp only[bP];omega
  ·simp only[bP];split <;> omega
theorem Ul(q:Pos es)(g:Pos es')(m:0<=u)(h:∀ x,bP name x es<=bP name x es')(k:dG ts es name u L=U5):dG ts es' name u L=U5:=by
 cases c:dG ts es' name u L
 ·rfl
 ·have:dG ts es name u L=U6:=(ub q m).2 (fun x o=>by
   have:=(ub g m).1 c x o;have:=h x
   omega)
  rw[this] at k;cases k
theorem Is(name:UU)(x:UZ)(l r:UV aM)(e:aM)(c:e.kind=3):bP name x (l++cS e :: r)=bP name x (l++e :: r)+if bW e.aT name then cP e.aL x*e.aH else 0:=by
 have o:cA name e=U5:=by simp[cA,c]
 rw[yy,yy];simp only[bP,o,vW,Vn,if_false];show _+((if bW e.aT name=U6 then cP e.aL x*e.aH else 0)+_)=_;omega
theorem Oy{r:UV aM}{c:aM}(h:dB (l++e :: r))(k:c.id=e.id):dB (l++c :: r):=by
 unfold dB at *
 simpa[k] using h
theorem Jt(l r:UV aM):eh (l++r)=eh l+eh r:=by
 unfold eh;rw[VF,VU];omega
theorem Jd(e:aM)(r:UV aM):eh (e :: r)=(if e.kind=3 then 1 else 0)+eh r:=by
 unfold eh;rw[VG]
 by_cases c:e.kind=3
 ·rw[U1 (by simp[c]),U1 c];simp;omega
 ·rw[U0 (by simp[c]),U0 c];omega
theorem gD.book(h:gD now e):gD now (cS e):=⟨h.u1,h.u9,h.sl,h.s0,h.sp,h.ri,.inl ⟨rfl,rfl⟩⟩
theorem ec.pZ{r:UV aM}(h:ec ⟨ts,l++e :: r,given,now⟩)(q:e.kind=3)(s:dG ts (l++e :: r) e.aT e.aH e.aL=U6):ec ⟨ts,l++cS e :: r,given,now⟩:=by
 have o:e∈l++e :: r:=UJ
 have m:∀ z∈l++cS e :: r,z=cS e\/z∈l++e :: r:=by
  intro z g;simp only[Vr,Vq] at g ⊢;rcases g with g|g|g
  ·exact .inr (.inl g)
  ·exact .inl g
  ·exact .inr (.inr (.inr g))
 have u1:=(h.en e o).u1;refine⟨h.tl,h.tu,h.tn,Oy h.ids rfl,fun z g=>?_,h.g0,h.g1,h.n0,h.n1,fun z g=>?_,fun z g=>?_,?_,fun name x=>?_⟩
 ·rcases m z g with rfl|g
  ·exact h.mM e o
  ·exact h.mM z g
 ·rcases m z g with rfl|g
  ·exact (h.en e o).book
  ·exact h.en z g
 ·rcases m z g with rfl|g
  ·exact h.th e o
  ·exact h.th z g
 ·have:=h.wa;show eh (l++cS e :: r)<=6;have this:eh (l++e :: r)<=6:=this;rw[Jt,Jd] at this ⊢;have A:(cS e).kind=1:=rfl;rw[U0 (by rw[A];omega)];rw[U1 q] at this;omega
 ·show bP name x (l++cS e :: r)<=bJ name ts;rw[Is name x l r e q];have w:bP name x (l++e :: r)<=bJ name ts:=h.wi name x
  split
  ·rename_i c
   by_cases t:0<cP e.aL x
   ·have:=(ub h.pos UI).1 s x t;rw[CB c x,CD c ts] at this;exact this
   ·have b:=(pO e.aL x).1;have:cP e.aL x=0:=UI
    rw[this];simpa using w
  ·omega
theorem Ch(ts:UV (UU × UZ))(given now:UZ):∀ (r g:UV aM),ec ⟨ts,g++r,given,now⟩->(∀ e∈g,e.kind=3->dG ts (g++r) e.aT e.aH e.aL=U5) ->
  Inv ⟨ts,(dQ ts g r).1,given,now⟩
 |[],g,h,no=>by
  simp only[dQ];rw[XT] at h no;exact h.inv no
 |e :: r,g,h,no=>by
  simp only[dQ]
  by_cases c:e.kind=3/\dG ts (g++e :: r) e.aT e.aH e.aL=U6
  ·rw[U1 c];have s:=h.pZ c.1 c.2;refine Ch ts given now r (g++[cS e]) (by simpa using s) (fun z m o=>?_);rcases Vr.1 m with m|m
   ·have q:z∈g++e :: r:=by simp[m]
    refine Ul (es:=g++e :: r) h.pos (by simpa using s.pos) (by have:=(h.en z q).u1;omega) (fun x=>?_) (no z m o);rw[show g++[cS e]++r=g++cS e :: r from by simp,Is _ x g r e c.1];have:=V2 (pO e.aL x).1 (show 0<=e.aH by have:=(h.en e UJ).u1;omega)
    split <;> omega
   ·have:z=cS e:=by simpa using m
    rw[this] at o;exact U2 o (by show ¬ (1:UZ)=3;omega)
  ·rw[U0 c];refine Ch ts given now r (g++[e]) (by simpa using h) (fun z m o=>?_);rw[show g++[e]++r=g++e :: r from by simp];rcases Vr.1 m with m|m
   ·exact no z m o
   ·have:z=e:=by simpa using m
    subst this
    cases t:dG ts (g++z :: r) z.aT z.aH z.aL
    ·rfl
    ·exact U2 ⟨o,t⟩ c
theorem Um(h:ec ⟨ts,es,given,now⟩):Inv ⟨ts,(eA ts es).1,given,now⟩ :=
 Ch ts given now es [] (by simpa using h) UJ
theorem TI(p:aM->UX)(l:UV aM):eh (l.filter p)<=eh l:=by
 unfold eh;have:=((XS (p:=p) (l:=l)).filter (fun e=>e.kind==3)).length_le;omega
theorem ec.filter{now':UZ}(h:ec ⟨ts,es,given,now⟩)(p:aM->UX)(C:now<=now')(o:now'<=1048320)(s:∀ e∈es,p e=U6->e.kind≠1->now'<e.bY):ec ⟨ts,es.filter p,given,now'⟩:=by
 have t:0<=now:=h.n0;have c:∀ z∈es.filter p,z∈es:=fun z g=>(Xq.1 g).1
 refine⟨h.tl,h.tu,h.tn,ye p h.ids,fun z g=>h.mM z (c z g),h.g0,h.g1,by show 0<=now';omega,o,fun z g=>?_,fun z g=>h.th z (c z g),?_,fun name x=>?_⟩
 ·have k:=h.en z (c z g);refine⟨k.u1,k.u9,k.sl,k.s0,k.sp,k.ri,?_⟩;rcases k.kd with m|⟨m,A,r,q⟩
  ·exact .inl m
  ·exact .inr ⟨m,s z (c z g) (Xq.1 g).2 UI,r,q⟩
 ·have:=h.wa;have this:eh es<=6:=this;have:=TI p es;show eh (es.filter p)<=6;omega
 ·have a:=Jk (name:=name) (x:=x) p h.pos;have b:=h.wi name x;show bP name x (es.filter p)<=bJ name ts;have a:bP name x (es.filter p)<=bP name x es:=a;have b:bP name x es<=bJ name ts:=b;omega
theorem Cw(name:UU)(t:UU × UZ):∀ ts:UV (UU × UZ),bJ name (ts++[t])=if (ts.any fun u=>bW u.1 name)=U6 then bJ name ts else if bW t.1 name then t.2 else 0
 |[]=>by simp[bJ]
 |u :: r=>by
  have ih:=Cw name t r;have q:bJ name (u :: r++[t])=if bW u.1 name then u.2 else bJ name (r++[t]):=rfl
  have o:bJ name (u :: r)=if bW u.1 name then u.2 else bJ name r:=rfl
  rw[q,o]
  by_cases h:bW u.1 name=U6
  ·have:((u :: r).any fun u=>bW u.1 name)=U6:=XQ.2 ⟨u,by simp,h⟩;rw[U1 h,U1 h,U1 this]
  ·rw[U0 h,U0 h,ih]
   by_cases c:(r.any fun u=>bW u.1 name)=U6
   ·have:((u :: r).any fun u=>bW u.1 name)=U6:=by
     obtain⟨z,g,k⟩:=XQ.1 c;exact XQ.2 ⟨z,by simp[g],k⟩
    rw[U1 c,U1 this]
   ·have:¬ ((u :: r).any fun u=>bW u.1 name)=U6:=by
     intro m;obtain⟨z,g,k⟩:=XQ.1 m;rcases Vq.1 g with e|g
     ·rw[e] at k;exact h k
     ·exact c (XQ.2 ⟨z,g,k⟩)
    rw[U0 c,U0 this]
theorem vU{name:UU}:∀ {ts:UV (UU × UZ)},(∀ t∈ts,1<=t.2/\t.2<=9)->(bJ name ts=0↔∀ t∈ts,bW t.1 name=U5)
 |[],_=>by simp[bJ]
 |u :: r,h=>by
  have i:=vU (name:=name) (ts:=r) (fun t ht=>h t (by simp[ht]));have j:=h u UJ;simp only[bJ,List.forall_mem_cons]
  cases c:bW u.1 name
  ·simp only[Vn,if_false,true_and];exact i
  ·simp only[if_true];constructor
   ·intro e;omega
   ·rintro ⟨e,_⟩;cases e
theorem Ut{t:UU × UZ}(h:∀ t∈ts,1<=t.2/\t.2<=9)(m:bJ name ts≠0):bJ name (ts++[t])=bJ name ts:=by
 rw[Cw,U1]
 cases c:ts.any fun u=>bW u.1 name
 ·exfalso;apply m;rw[vU h];intro u g
  cases d:bW u.1 name
  ·rfl
  ·have:ts.any (fun u=>bW u.1 name)=U6:=XQ.2 ⟨u,g,d⟩;rw[this] at c;cases c
 ·rfl
theorem Inv.aT{s:St}(h:Inv s)(q:1<=u/\u<=9)(r:bJ name s.ts=0)(I:s.ts.length≠4):Inv { s with ts:=s.ts++[(name,u)] }:=by
 have o:=(vU h.tu).1 r;have un:∀ m,bJ m s.ts≠0->bJ m (s.ts++[(name,u)])=bJ m s.ts:=fun m A=>Ut h.tu A
 have pos:∀ e∈s.es,bJ e.aT s.ts≠0:=fun e g=>by
  have:=h.th e g;have:=(h.en e g).u1;omega
 have H:=h.tl;refine⟨?_,fun t ht=>?_,?_,h.ids,h.mM,h.g0,h.g1,h.n0,h.n1,h.en,fun e g=>?_,h.wa,fun e g C=>?_,fun m x=>?_⟩
 ·show (s.ts++[(name,u)]).length<=4;simp;omega
 ·rcases Vr.1 ht with ht|ht
  ·exact h.tu t ht
  ·have:t=(name,u):=by simpa using ht
   subst this;exact q
 ·show (s.ts++[(name,u)]).Pairwise _;rw[Xn];refine⟨h.tn,by simp,fun a E b D=>?_⟩;have:b=(name,u):=by simpa using D
  subst this;exact o a E
 ·show e.aH<=bJ e.aT (s.ts++[(name,u)]);rw[un _ (pos e g)];exact h.th e g
 ·have:=h.no e g C;show dG (s.ts++[(name,u)]) s.es e.aT e.aH e.aL=U5;unfold dG at this ⊢;rw[un _ (pos e g)];exact this
 ·show bP m x s.es<=bJ m (s.ts++[(name,u)])
  by_cases c:bJ m s.ts=0
  ·have w:=h.wi m x;have b:=Ux (name:=m) (x:=x) h.aS.pos
   have:0<=bJ m (s.ts++[(name,u)]):=by
    rw[Cw]
    split
    ·omega
    ·split <;> simp <;> omega
   omega
  ·rw[un m c];exact h.wi m x
theorem Inv.join{s:St}(h:Inv s)(K:s.given≠60)(m:gD s.now e)(ht:e.aH<=bJ e.aT s.ts)(A:e.kind=3->eh s.es≠6)(C:e.kind≠3->dG s.ts s.es e.aT e.aH e.aL=U6):ec (jz s e).1:=by
 have O:=h.g0;have N:=h.g1;have q:=h.mM;have J:=h.wa;have r:gD s.now { e with id:=s.given+1 }:=⟨m.u1,m.u9,m.sl,m.s0,m.sp,m.ri,m.kd⟩
 have o:∀ z∈s.es++[{ e with id:=s.given+1 }],z∈s.es\/z={ e with id:=s.given+1 }:=by
  intro z g;rcases Vr.1 g with g|g
  ·exact .inl g
  ·exact .inr (by simpa using g)
 unfold jz;refine⟨h.tl,h.tu,h.tn,?_,fun z g=>?_,by show 0<=s.given+1;omega,by show s.given+1<=60;omega,h.n0,h.n1,fun z g=>?_,fun z g=>?_,?_,fun name x=>?_⟩
 ·show dB (s.es++[{ e with id:=s.given+1 }]);unfold dB;rw[We,Xn];refine⟨h.ids,by simp,fun a E b D=>?_⟩;obtain⟨z,g,rfl⟩:=V9.1 E;have:b=s.given+1:=by simpa using D
  have:=q z g;omega
 ·rcases o z g with g|rfl
  ·have:=q z g;show 1<=z.id/\z.id<=s.given+1;omega
  ·show 1<=s.given+1/\s.given+1<=s.given+1;omega
 ·rcases o z g with g|rfl
  ·exact h.en z g
  ·exact r
 ·rcases o z g with g|rfl
  ·exact h.th z g
  ·exact ht
 ·show eh (s.es++[{ e with id:=s.given+1 }])<=6;rw[Jt,Jd];have I:eh ([]:UV aM)=0:=by simp[eh]
  rw[I];show eh s.es+((if e.kind=3 then 1 else 0)+0)<=6
  by_cases c:e.kind=3
  ·rw[U1 c];have:=A c;omega
  ·rw[U0 c];omega
 ·show bP name x (s.es++[{ e with id:=s.given+1 }])<=bJ name s.ts;rw[yy];have w:=h.wi name x;have H:bP name x [{ e with id:=s.given+1 }]=(if cA name e then cP e.aL x*e.aH else 0):=by simp[bP,cA]
  rw[H]
  by_cases c:cA name e=U6
  ·rw[U1 c];simp[cA] at c
   by_cases t:0<cP e.aL x
   ·have:=(ub h.aS.pos (by have:=m.u1;omega)).1 (C c.2) x t;rw[CB c.1 x,CD c.1 s.ts] at this;exact this
   ·have b:=(pO e.aL x).1;have:cP e.aL x=0:=UI
    rw[this];simpa using w
  ·rw[U0 c];omega
theorem Ur(h:dB es)(s:e∈es)(m:e.id=id):∃ l r,es=l++e :: r/\dZ id es=l++cS e :: r/\kept id es=l++r:=by
 obtain⟨l,r,rfl⟩:=List.append_of_mem s;refine⟨l,r,rfl,?_,?_⟩
 ·have g:∀ z∈l++r,z.id≠id:=by
   intro z c t;unfold dB at h;rw[We,XD,Xn,VE] at h;rcases Vr.1 c with c|c
   ·have:=h.2.2 z.id (V9.2 ⟨z,c,rfl⟩) e.id UJ;omega
   ·have:=h.2.1.1 z.id (V9.2 ⟨z,c,rfl⟩);omega
  have q:=yr (id:=id) (es:=l) (fun z c=>g z (by simp[c]));have o:=yr (id:=id) (es:=r) (fun z c=>g z (by simp[c]));unfold dZ at q o ⊢;rw[We,XD,q,o,U1 m]
 ·have g:∀ z∈l++r,z.id≠id:=by
   intro z c t;unfold dB at h;rw[We,XD,Xn,VE] at h;rcases Vr.1 c with c|c
   ·have:=h.2.2 z.id (V9.2 ⟨z,c,rfl⟩) e.id UJ;omega
   ·have:=h.2.1.1 z.id (V9.2 ⟨z,c,rfl⟩);omega
  have q:=BO (id:=id) (es:=l) (fun z c=>g z (by simp[c]));have o:=BO (id:=id) (es:=r) (fun z c=>g z (by simp[c]));unfold kept at q o ⊢;rw[VF,VG,q,o,U0 (by simp[m])]
theorem Rd.jU{r:Rd.bL}(h:Rd.fw r)(t:Rd.gd r=0):ot (Rd.gg r (Rd.bH r))/\gJ (Rd.gg r (Rd.bH r))/\Rd.gg r (Rd.bH r)≠[]/\(Rd.gg r (Rd.bH r)).length<=40:=by
 obtain⟨_,o,m,g⟩:=(Rd.pJ h).2 t;have E:=h.f0;have C:=h.m0;have D:=h.i1;refine⟨fun s q=>?_,?_,by simpa[Rd.gg] using o,by simpa[Rd.gg] using m⟩
 ·obtain⟨d,c,rfl⟩:=V9.1 q;have a:=Rd.sF h c;have b:=g d c;show 0<=d*1440+r.mn/\d*1440+r.mn<d*1440+r.mn+r.mi/\d*1440+r.mn+r.mi<=1048320;omega
 ·unfold gJ Rd.gg;rw[XJ];refine XU ?_ (Rd.Iw h);intro a b A;show a*1440+r.mn<b*1440+r.mn;omega
theorem Ho(h:dH ts name u=0):bJ name ts≠0/\u<=bJ name ts:=by
 unfold dH at h
 split at h
 ·omega
 ·split at h
  ·omega
  ·constructor <;> omega
theorem Sj{s:St}{l:fJ}(h:(aU s l).2.err≠0):(aU s l).1=s:=by
 cases l with
 |aT name u =>
  simp only[aU] at h ⊢
  by_cases c1:bJ name s.ts≠0
  ·rw[U1 c1]
  ·rw[U0 c1] at h ⊢
   by_cases c2:s.ts.length=4
   ·rw[U1 c2]
   ·rw[U0 c2] at h;exact U2 rfl h
 |enter k name u fr til long =>
  simp only[aU] at h ⊢
  by_cases c:re s k name u fr til long≠0
  ·rw[U1 c]
  ·rw[U0 c] at h;exact U2 rfl h
 |series name u r =>
  simp only[aU] at h ⊢
  by_cases c:mH s name u r≠0
  ·rw[U1 c]
  ·rw[U0 c] at h;exact U2 rfl h
 |confirm id =>
  simp only[aU] at h ⊢
  cases g:mZ id s.es with
  |none=>rfl
  |some e =>
   rw[g] at h;simp only at h ⊢
   by_cases c:e.kind≠2
   ·rw[U1 c]
   ·rw[U0 c] at h;exact U2 rfl h
 |cancel id =>
  simp only[aU] at h ⊢
  cases g:mZ id s.es with
  |none=>rfl
  |some e=>rw[g] at h;exact U2 rfl h
 |list name fr til =>
  simp only[aU]
  split
  ·rfl
  ·split <;> rfl
 |waiting=>rfl
 |cY name fr til =>
  simp only[aU]
  split
  ·rfl
  ·split <;> rfl
 |find name u long fr til =>
  simp only[aU]
  split
  ·rfl
  ·split <;> rfl
 |expand r =>
  simp only[aU]
  split <;> rfl
 |tick n =>
  simp only[aU] at h ⊢
  by_cases c:1048320<s.now+n
  ·rw[U1 c]
  ·rw[U0 c] at h;exact U2 rfl h
 |clock=>rfl
end aA
theorem Oh(b:UU):∀ (n i:UY)(r:UV UInt8),b.size-i=n->XV b i r=r.reverse++b.data.toList.drop i:=by
 intro n
 induction n with
 |zero =>
  intro i r h;rw[XV,U0 UI,Wt UQ];simp
 |succ n ih =>
  intro i r h;have c:i<b.size:=UI
  rw[XV,U1 c,ih (i+1) _ UI];have g:i<b.data.toList.length:=by simpa using c
  rw[Ws g];simp[ByteArray.get!,c]
theorem Fj(b:UU):b.toList=b.data.toList:=by
 unfold ByteArray.toList;rw[Oh b b.size 0 [] UI];simp
theorem sI{a b:UU}:aA.bW a b=U6↔a=b:=by
 constructor
 ·intro h;have h:=aA.B5.1 h;rw[Fj,Fj] at h
  cases a;cases b
  simp at h;rw[h]
 ·rintro rfl;exact aA.qV _
theorem pQ{a b:UU}:aA.bW a b=U5↔a≠b:=by
 cases h:aA.bW a b
 ·simp;rintro rfl;rw[aA.qV] at h;cases h
 ·simp;exact sI.1 h
def mC(a:UU):Lit:=.string a.data.toList
def ju(n:UZ):Lit:=.int .i64 n
theorem P9{a b:UU}(h:mC a=mC b):a=b:=by
 cases a;cases b
 simp[mC] at h;rw[h]
theorem GF(h:ju a=ju b):a=b:=by simpa[ju] using h
theorem AU:XW prog 9:=Maps.string_keyed underlying9
theorem xC:XW prog 3:=Maps.int_keyed underlying3
theorem A7{s:UU}(h:s.size<=1000):keyOf prog 9 (.string s)=U4 (mC s):=by
 unfold keyOf mapKey;rw[underlying9];simp only;rw[U1 UR];rfl
theorem xM{n:UZ}(o:-1000000000000<=n)(m:n<=1000000000000):keyOf prog 3 (.int .i64 n)=U4 (ju n):=by
 unfold keyOf mapKey;rw[underlying3];simp only;have g:Vf.min=-9223372036854775808:=rfl;have c:Vf.max=9223372036854775807:=rfl;have h:(Lit.int .i64 n).wf=U6:=by simp[Lit.wf,g,c];omega
 rw[U1 ⟨trivial,h⟩];rfl
inductive bB where
 |desk|mt|me|wa|he|ent|span
 |aT (i:UY)
structure TG where
 name:UU
 aH:UZ
 tb:UY
 A:UV UX->UZ
 T:aE.S
structure EG where
 e:aA.aM
 eb:UY
 B:UY
 cap:UY
 tb:UY
def jH(c:UV TG)(name:UU):UW UY:=((c.map fun t=>(t.name,t.tb)).find? fun p=>aA.bW p.1 name).map (·.2)
def gv(c:UV EG)(id:UZ):UW UY:=((c.map fun g=>(g.e.id,g.eb)).find? fun p=>decide (p.1=id)).map (·.2)
structure gR(w:U7)(g:EG):Prop where
 en:gQ w g.eb g.e.id g.tb g.e.aH g.B g.cap g.e.aL
 k:w.cell? ⟨g.eb,1,U3⟩=U4 (.int .i64 g.e.kind)
 u:w.cell? ⟨g.eb,5,U3⟩=U4 (.int .i64 g.e.bY)
 fz:∀ o,w.frozen? ⟨g.eb,o,U3⟩=U5
 bl:∃ cs,w.heap[g.eb]?=U4 (.cells cs 200 (0,0))
theorem gR.lt{g:EG}(h:gR w g):g.eb<w.heap.size:=Vh _ _ h.k
theorem gR.off{g:EG}(h:gR w g)(k:aF G w w')(c:g.eb ∉ G)(m:g.B ∉ G):gR w' g :=
 ⟨h.en.off k c m,k.cell c h.k,k.cell c h.u,fun o=>(k.frozen c h.lt).trans (h.fz o),by obtain⟨cs,e⟩:=h.bl;exact⟨cs,(k.block _ h.lt c).trans e⟩⟩
def jw(b:UY):U8:=.pointer (U4 ⟨b,0,U3⟩)
structure Raw where
 now:UZ
 given:UZ
 tg:UV TG
 eg:UV EG
 wl:UV UY
 hl:UV Hp.Hi
structure DK(w:U7)(d:UY)(r:Raw)(aJ:UY->UW bB):Prop where
 c0:w.cell? ⟨d,0,U3⟩=U4 (.int .i64 r.now)
 c1:w.cell? ⟨d,1,U3⟩=U4 (.int .i64 r.given)
 mt:∃ m f,w.cell? ⟨d,2,U3⟩=U4 (.map (U4 m))/\aJ m=U4 .mt/\e9 prog 9 w m r.tg.length f r.tg.length/\∀ name,f (mC name)=jH r.tg name
 me:∃ m f,w.cell? ⟨d,3,U3⟩=U4 (.map (U4 m))/\aJ m=U4 .me/\e9 prog 3 w m r.eg.length f r.eg.length/\∀ id,f (ju id)=gv r.eg id
 wa:∃ v,w.cell? ⟨d,4,U3⟩=U4 v/\w.ownsRow 0 197 1 v r.wl.length (r.wl.map jw)/\∀ b,v.ownBlock=U4 b->aJ b=U4 .wa
 he:∃ v,HP w d 5 v r.hl/\∀ b,v.ownBlock=U4 b->aJ b=U4 .he
 th:∀ (i:UY) (h:i<r.tg.length),∃ ul us Fl Fs,TH w r.tg[i].tb r.tg[i].name r.tg[i].aH r.tg[i].A r.tg[i].T ul us Fl Fs/\∀ k∈r.tg[i].tb :: (Fl++Fs),aJ k=U4 (.aT i)
 en:∀ g∈r.eg,gR w g/\aJ g.eb=U4 .ent/\aJ g.B=U4 .span
 nd:(r.eg.map (·.eb)).Nodup
 ni:(r.eg.map (·.e.id)).Nodup
 fz:∀ o,w.frozen? ⟨d,o,U3⟩=U5
 dc:aJ d=U4 .desk
 lt:∀ k c,aJ k=U4 c->k<w.heap.size
theorem DK.off{r:Raw}{aJ:UY->UW bB}(h:DK w d r aJ)(k:aF G w w')(O:∀ x∈G,aJ x=U3):DK w' d r aJ:=by
 have A:∀ {x:UY}{c:bB},aJ x=U4 c->x ∉ G:=fun D E=>by rw[O _ E] at D;cases D
 have C:=A h.dc;refine⟨k.cell C h.c0,k.cell C h.c1,?_,?_,?_,?_,?_,?_,h.nd,h.ni,fun o=>(k.frozen C (h.lt d _ h.dc)).trans (h.fz o),h.dc,fun x c D=>zL (h.lt x c D) k.size⟩
 ·obtain⟨m,f,s,q,t,I⟩:=h.mt;exact⟨m,f,k.cell C s,q,t.block (k.block m (h.lt m _ q) (A q)),I⟩
 ·obtain⟨m,f,s,q,t,I⟩:=h.me;exact⟨m,f,k.cell C s,q,t.block (k.block m (h.lt m _ q) (A q)),I⟩
 ·obtain⟨v,s,q,t⟩:=h.wa;exact⟨v,k.cell C s,dO q k (fun b H=>A (t b H)),t⟩
 ·obtain⟨v,s,q⟩:=h.he;exact⟨v,s.off k C (fun b H=>A (q b H)),q⟩
 ·intro i N;obtain⟨K,J,Q,P,s,q⟩:=h.th i N;exact⟨K,J,Q,P,s.off k (fun x D=>A (q x D)),q⟩
 ·intro g E;obtain⟨s,q,t⟩:=h.en g E;exact⟨s.off k (A q) (A t),q,t⟩
theorem DK.later{r:Raw}{aJ:UY->UW bB}(h:DK w d r aJ)(k:U9 w.heap.size w w'):DK w' d r aJ:=h.off (G:=[]) (aF.aD k) UJ
structure Step(S:bB->Prop)(B:UY)(aJ col':UY->UW bB)(w w':U7):Prop where
 off:∃ G,aF G w w'/\∀ x∈G,(∃ c,aJ x=U4 c/\S c)\/(aJ x=U3/\B<=x)
 gk:∀ k c,aJ k=U4 c->col' k=U4 c
 new:∀ k c,col' k=U4 c->aJ k=U4 c\/B<=k
theorem Step.refl(S:bB->Prop)(B:UY)(c:UY->UW bB)(w:U7):Step S B c c w w:=⟨⟨[],aF.refl _ _,by simp⟩,fun _ _ h=>h,fun _ _ h=>.inl h⟩
theorem Step.below{S:bB->Prop}{c:UY->UW bB}(h:U9 w.heap.size w w'):Step S B c c w w':=⟨⟨[],aF.aD h,by simp⟩,fun _ _ h=>h,fun _ _ h=>.inl h⟩
theorem Step.size{S:bB->Prop}{g c:UY->UW bB}(h:Step S B g c w w'):w.heap.size<=w'.heap.size:=by obtain⟨G,m,_⟩:=h.off;exact m.size
theorem Step.mono{S o:bB->Prop}{B':UY}{m g:UY->UW bB}(h:Step S B m g w w')(r:∀ c,S c->o c)(C:B'<=B):Step o B' m g w w':=by
 obtain⟨G,A,t⟩:=h.off;refine⟨⟨G,A,fun x q=>?_⟩,h.gk,fun k c s=>(h.new k c s).imp id (fun e=>by omega)⟩;rcases t x q with ⟨c,a,b⟩|⟨a,b⟩
 ·exact .inl ⟨c,a,r c b⟩
 ·exact .inr ⟨a,by omega⟩
theorem Step.trans{S:bB->Prop}{c0 c1 c2:UY->UW bB}{a b c:U7}(h:Step S B c0 c1 a b)(k:Step S B c1 c2 b c):Step S B c0 c2 a c:=by
 obtain⟨G,A,t⟩:=h.off;obtain⟨K,s,r⟩:=k.off;refine⟨⟨G++K,?_,fun x g=>?_⟩,fun x c g=>k.gk x c (h.gk x c g),fun x c g=>?_⟩
 ·exact (A.mono (fun x g=>by simp[g])).trans' s (fun x g=>.inl (by simp[g]))
 ·rcases Vr.1 g with g|g
  ·exact t x g
  ·rcases r x g with ⟨c,m,o⟩|⟨m,o⟩
   ·rcases h.new x c m with e|e
    ·exact .inl ⟨c,e,o⟩
    ·cases q:c0 x with
     |none=>exact .inr ⟨rfl,e⟩
     |some c' =>
      have:=h.gk x c' q;rw[m] at this
      cases this
      exact .inl ⟨c,rfl,o⟩
   ·cases q:c0 x with
    |none=>exact .inr ⟨rfl,o⟩
    |some c'=>rw[h.gk x c' q] at m;cases m
 ·rcases k.new x c g with e|e
  ·exact h.new x c e
  ·exact .inr e
theorem Step.jr{S:bB->Prop}{o m:UY->UW bB}(h:Step S B o m w w'){b:UY}{c:bB}(t:b<w.heap.size)(q:o b=U4 c)(s:¬ S c):w'.heap[b]?=w.heap[b]?:=by
 obtain⟨G,C,A⟩:=h.off;refine C.block b t (fun r=>?_);rcases A b r with ⟨E,g,D⟩|⟨g,_⟩
 ·rw[q] at g;cases g;exact s D
 ·rw[q] at g;cases g
theorem Step.bV{S:bB->Prop}{g c:UY->UW bB}(h:Step S B g c w w'){b:UY}(r:b<w.heap.size)(q:g b=U3)(A:b<B):w'.heap[b]?=w.heap[b]?:=by
 obtain⟨G,t,s⟩:=h.off;refine t.block b r (fun o=>?_);rcases s b o with ⟨D,m,C⟩|⟨_,e⟩
 ·rw[q] at m;cases m
 ·omega
theorem Step.nK{S:bB->Prop}{m g:UY->UW bB}(h:Step S B m g w w'){b o:UY}{c:bB}(s:m b=U4 c)(r:¬ S c)(q:w.cell? ⟨b,o,U3⟩=U4 v):w'.cell? ⟨b,o,U3⟩=U4 v :=
 (zo (w:=w) (h.jr (Vh _ _ q) s r)).trans q
def Left(S:bB->Prop)(B:UY)(g:UY->UW bB)(b:UY):Prop:=(∃ c,g b=U4 c/\¬ S c)\/(g b=U3/\b<B)
theorem Step.left{S:bB->Prop}{o m:UY->UW bB}(h:Step S B o m w w'):∃ G,aF G w w'/\∀ b,Left S B o b->b ∉ G:=by
 obtain⟨G,D,C⟩:=h.off;refine⟨G,D,fun b A t=>?_⟩;rcases C b t with ⟨E,q,s⟩|⟨q,s⟩ <;> rcases A with ⟨c,g,r⟩|⟨g,r⟩
 ·rw[q] at g;cases g;exact r s
 ·rw[q] at g;cases g
 ·rw[q] at g;cases g
 ·omega
theorem Step.uE{S:bB->Prop}{c m:UY->UW bB}{g:EG}(h:Step S B c m w w')(q:gR w g)(s:Left S B c g.eb)(r:Left S B c g.B):gR w' g:=by
 obtain⟨G,t,o⟩:=h.left;exact q.off t (o _ s) (o _ r)
noncomputable def gN(g:UY->UW bB)(F:UV UY)(c:bB)(k:UY):UW bB :=
 match g k with
 |some c'=>U4 c'
 |none=>@ite _ (k∈F) (XX _) (U4 c) U3
theorem BQ{g:UY->UW bB}{c c':bB}(h:g k=U4 c'):gN g F c k=U4 c':=by unfold gN;rw[h]
theorem tW{g:UY->UW bB}{c:bB}(h:k∈F)(o:∀ m,g k=U4 m->m=c):gN g F c k=U4 c:=by
 unfold gN
 cases e:g k with
 |none=>simp only;rw[U1 h]
 |some m=>simp only;rw[o m e]
theorem oI{g:UY->UW bB}{c o:bB}(h:gN g F c k=U4 o):g k=U4 o\/(g k=U3/\k∈F/\c=o):=by
 unfold gN at h
 cases e:g k with
 |none =>
  rw[e] at h;simp only at h
  by_cases m:k∈F
  ·rw[U1 m] at h;cases h;exact .inr ⟨rfl,m,rfl⟩
  ·rw[U0 m] at h;cases h
 |some c2=>rw[e] at h;exact .inl h
theorem uc{S:bB->Prop}{g:UY->UW bB}{c:bB}(k:aF G w w')(o:∀ x∈G,(∃ c,g x=U4 c/\S c)\/(g x=U3/\B<=x))(q:∀ x∈F,g x=U3->B<=x):Step S B g (gN g F c) w w' :=
 ⟨⟨G,k,o⟩,fun _ _ h=>BQ h,fun k c m=>by rcases oI m with e|⟨s,r,t⟩;exact .inl e;exact .inr (q k r s)⟩
def TG.with(t:TG)(A:UV UX->UZ)(T:aE.S):TG:={ t with A:=A,T:=T }
def Raw.cW(r:Raw)(i:UY)(t:TG):Raw:={ r with tg:=r.tg.set i t }
theorem PY{c:UV TG}(g:i<c.length)(A:UV UX->UZ)(T:aE.S)(name:UU):jH (c.set i (c[i].with A T)) name=jH c name:=by
 unfold jH
 have e:(c.set i (c[i].with A T)).map (fun t=>(t.name,t.tb))=c.map fun t=>(t.name,t.tb):=by
  rw[XY];have:((c[i].with A T).name,(c[i].with A T).tb)=(c.map fun t=>(t.name,t.tb))[i]'(by simpa using g):=by simp[TG.with]
  rw[this,XZ]
 rw[e]
theorem DK.base{S:bB->Prop}{r:Raw}{g c:UY->UW bB}(h:DK w d r g)(st:Step S B g c w w')(m:¬ S .desk):
  w'.cell? ⟨d,0,U3⟩=U4 (.int .i64 r.now)/\w'.cell? ⟨d,1,U3⟩=U4 (.int .i64 r.given)/\(∀ o,w'.frozen? ⟨d,o,U3⟩=U5)/\c d=U4 .desk/\∀ o,w'.cell? ⟨d,o,U3⟩=w.cell? ⟨d,o,U3⟩:=by
 have q:=st.jr (h.lt d _ h.dc) h.dc m;exact⟨st.nK h.dc m h.c0,st.nK h.dc m h.c1,fun o=>(WG (w:=w) q).trans (h.fz o),st.gk d _ h.dc,fun o=>zo q⟩
theorem DK.rB{S:bB->Prop}{r:Raw}{g c:UY->UW bB}(h:DK w d r g)(st:Step S B g c w w')(s:w'.cell? ⟨d,2,U3⟩=w.cell? ⟨d,2,U3⟩)(q:¬ S .mt):
  ∃ m f,w'.cell? ⟨d,2,U3⟩=U4 (.map (U4 m))/\c m=U4 .mt/\e9 prog 9 w' m r.tg.length f r.tg.length/\∀ name,f (mC name)=jH r.tg name:=by
 obtain⟨m,f,C,o,A,t⟩:=h.mt;exact⟨m,f,s.trans C,st.gk m _ o,A.block (st.jr (h.lt m _ o) o q),t⟩
theorem DK.sU{S:bB->Prop}{r:Raw}{g c:UY->UW bB}(h:DK w d r g)(st:Step S B g c w w')(s:w'.cell? ⟨d,3,U3⟩=w.cell? ⟨d,3,U3⟩)(q:¬ S .me):
  ∃ m f,w'.cell? ⟨d,3,U3⟩=U4 (.map (U4 m))/\c m=U4 .me/\e9 prog 3 w' m r.eg.length f r.eg.length/\∀ id,f (ju id)=gv r.eg id:=by
 obtain⟨m,f,C,o,A,t⟩:=h.me;exact⟨m,f,s.trans C,st.gk m _ o,A.block (st.jr (h.lt m _ o) o q),t⟩
theorem DK.rj{S:bB->Prop}{r:Raw}{g c:UY->UW bB}(h:DK w d r g)(st:Step S B g c w w')(s:w'.cell? ⟨d,4,U3⟩=w.cell? ⟨d,4,U3⟩)(q:¬ S .wa):
  ∃ v,w'.cell? ⟨d,4,U3⟩=U4 v/\w'.ownsRow 0 197 1 v r.wl.length (r.wl.map jw)/\∀ b,v.ownBlock=U4 b->c b=U4 .wa:=by
 obtain⟨v,C,A,o⟩:=h.wa;obtain⟨G,k,t⟩:=st.left;exact⟨v,s.trans C,dO A k (fun b m=>t b (.inl ⟨_,o b m,q⟩)),fun b m=>st.gk b _ (o b m)⟩
theorem DK.rD{S:bB->Prop}{r:Raw}{m g:UY->UW bB}(h:DK w d r m)(st:Step S B m g w w')(C:w'.cell? ⟨d,5,U3⟩=w.cell? ⟨d,5,U3⟩)(A:w'.frozen? ⟨d,5,U3⟩=U5)(t:¬ S .he):
  ∃ v,HP w' d 5 v r.hl/\∀ b,v.ownBlock=U4 b->g b=U4 .he:=by
 obtain⟨v,q,s⟩:=h.he;obtain⟨G,k,D⟩:=st.left;exact⟨v,⟨C.trans q.c,dO q.own k (fun b o=>D b (.inl ⟨_,s b o,t⟩)),q.ne,A⟩,fun b o=>st.gk b _ (s b o)⟩
theorem DK.pU{S:bB->Prop}{r:Raw}{g c:UY->UW bB}(h:DK w d r g)(st:Step S B g c w w')(i:UY)(E:i<r.tg.length)(D:¬ S (.aT i)):
  ∃ s q o m,TH w' r.tg[i].tb r.tg[i].name r.tg[i].aH r.tg[i].A r.tg[i].T s q o m/\∀ k∈r.tg[i].tb :: (o++m),c k=U4 (.aT i):=by
 obtain⟨s,q,o,m,I,C⟩:=h.th i E;obtain⟨G,k,H⟩:=st.left;exact⟨s,q,o,m,I.off k (fun b t=>H b (.inl ⟨_,C b t,D⟩)),fun b t=>st.gk b _ (C b t)⟩
theorem DK.rK{S:bB->Prop}{r:Raw}{m c:UY->UW bB}(h:DK w d r m)(st:Step S B m c w w')(A:¬ S .ent)(s:¬ S .span):
  ∀ g∈r.eg,gR w' g/\c g.eb=U4 .ent/\c g.B=U4 .span:=by
 intro g t;obtain⟨C,q,o⟩:=h.en g t;exact⟨st.uE C (.inl ⟨_,q,A⟩) (.inl ⟨_,o,s⟩),st.gk _ _ q,st.gk _ _ o⟩
theorem DK.aT{r:Raw}{g:UY->UW bB}(h:DK w d r g)(i:UY)(X:i<r.tg.length)(I:∀ k∈r.tg[i].tb :: F,g k=U4 (.aT i)){A:UV UX->UZ}{T:aE.S}(n:fH w w' r.tg[i].tb r.tg[i].name r.tg[i].aH A T F):
  ∃ s,DK w' d (r.cW i (r.tg[i].with A T)) s/\Step (·=.aT i) w.heap.size g s w w':=by
 obtain⟨U,R,K,J,N,V⟩:=n.th
 have t:∀ k,w.heap.size<=k->g k=U3:=fun k o=>by
  cases e:g k with
  |none=>rfl
  |some c=>have:=h.lt k c e;omega
 have C:∀ k∈K++J,g k=U4 (.aT i)\/(g k=U3/\w.heap.size<=k):=fun k o=>by
  rcases V k o with e|e
  ·exact .inl (I k (by simp[e]))
  ·exact .inr ⟨t k e,e⟩
 have st:Step (·=.aT i) w.heap.size g (gN g (K++J) (.aT i)) w w':=uc n.off (fun x E=>.inl ⟨_,I x E,rfl⟩) (fun x E e=>by
  rcases C x E with q|q
  ·rw[e] at q;cases q
  ·exact q.2)
 refine⟨_,?_,st⟩;obtain⟨b1,b2,Q,Z,D⟩:=h.base st UJ;refine⟨b1,b2,?_,h.sU st (D 3) UJ,h.rj st (D 4) UJ,h.rD st (D 5) (Q 5) UJ,?_,h.rK st UJ UJ,h.nd,h.ni,Q,Z,?_⟩
 ·obtain⟨m,f,a1,a2,a3,a4⟩:=h.rB st (D 2) UJ;have e:(r.cW i (r.tg[i].with A T)).tg.length=r.tg.length:=by simp[Raw.cW]
  exact⟨m,f,a1,a2,by rw[e];exact a3,fun name=>by rw[a4];exact (PY X A T name).symm⟩
 ·intro j W;have H:j<r.tg.length:=by simpa[Raw.cW] using W
  by_cases e:j=i
  ·subst e;have q:(r.cW j (r.tg[j].with A T)).tg[j]=r.tg[j].with A T:=by simp[Raw.cW]
   rw[q];refine⟨U,R,K,J,N,fun k o=>?_⟩;rcases Vq.1 o with rfl|o
   ·exact BQ (I r.tg[j].tb List.mem_cons_self)
   ·refine tW o (fun c' O=>?_);rcases C k o with e|e
    ·rw[O] at e;cases e;rfl
    ·rw[O] at e;cases e.1
  ·have q:(r.cW i (r.tg[i].with A T)).tg[j]=r.tg[j]:=by simp[Raw.cW,X0 e]
   rw[q];exact h.pU st j H (by simpa using e)
 ·intro k c o;rcases oI o with P|⟨P,Y,h3⟩
  ·exact zL (h.lt k c P) st.size
  ·exact N.lt k (by simp only[Vq];exact .inr Y)
structure Fit(t:TG)(e:aA.aM):Prop where
 ok:ot e.aL
 bd:∀ p,0<=t.A p/\t.A p<=400000
 u1:1<=e.aH
 u2:e.aH<=9
 ll:e.aL.length<=100
theorem DK.pair{r:Raw}{c:UY->UW bB}(h:DK w d r c)(i:UY)(H:i<r.tg.length){g:EG}(I:gR w g)(ht:g.tb=r.tg[i].tb)(K:c g.eb≠U4 (.aT i))(J:c g.B≠U4 (.aT i))(m:Fit r.tg[i] g.e):
  ∃ F,xe w r.tg[i].tb g.eb g.B g.cap r.tg[i].name r.tg[i].aH r.tg[i].A r.tg[i].T F g.e.id g.e.aH g.e.aL/\∀ k∈r.tg[i].tb :: F,c k=U4 (.aT i):=by
 obtain⟨D,C,t,s,N,q⟩:=h.th i H;refine⟨t++s,⟨⟨D,C,t,s,N,fun k E=>E⟩,by rw[<- ht];exact I.en,fun o=>K (q _ o),fun o=>J (q _ o),m.ok,m.bd,m.u1,m.u2,m.ll⟩,q⟩
theorem Gk{r:Raw}{m:UY->UW bB}(h:DK w d r m)(i:UY)(s:i<r.tg.length){g:EG}(C:gR w g)(ht:g.tb=r.tg[i].tb)(I:m g.eb≠U4 (.aT i))(H:m g.B≠U4 (.aT i))(D:Fit r.tg[i] g.e)(o:ky (bZ r.tg[i].A g.e.aL g.e.aH) r.tg[i].aH g.e.aL=U5):
  Va prog 104 #[.pointer (U4 ⟨g.tb,0,U3⟩),.pointer (U4 ⟨g.eb,0,U3⟩)] w fun e w'=>e=.returned (.bool U5)/\∃ c,DK w' d r c/\Step (·=.aT i) w.heap.size m c w w':=by
 obtain⟨F,p,E⟩:=h.pair i s C ht I H D;rw[ht];refine (OM w _ _ _ _ _ _ _ _ F _ _ _ p o).mono ?_;rintro e w' ⟨rfl,n⟩;obtain⟨c,q,t⟩:=h.aT i s E n;refine⟨rfl,c,?_,t⟩
 have e:r.cW i (r.tg[i].with r.tg[i].A r.tg[i].T)=r:=by
  have J:r.tg[i].with r.tg[i].A r.tg[i].T=r.tg[i]:=rfl;unfold Raw.cW;rw[J,XZ]
 rw[e] at q;exact q
theorem Hu{r:Raw}{c:UY->UW bB}(h:DK w d r c)(i:UY)(q:i<r.tg.length){g:EG}(t:gR w g)(ht:g.tb=r.tg[i].tb)(H:c g.eb≠U4 (.aT i))(E:c g.B≠U4 (.aT i))(C:Fit r.tg[i] g.e)(s:xl r.tg[i].T g.e.id g.e.aL)(o:ky (bZ r.tg[i].A g.e.aL g.e.aH) r.tg[i].aH g.e.aL=U6):
  Va prog 104 #[.pointer (U4 ⟨g.tb,0,U3⟩),.pointer (U4 ⟨g.eb,0,U3⟩)] w fun e w'=>e=.returned (.bool U6)/\∃ m,DK w' d (r.cW i (r.tg[i].with (bZ r.tg[i].A g.e.aL g.e.aH) (gn g.e.id g.eb r.tg[i].T g.e.aL))) m/\Step (·=.aT i) w.heap.size c m w w':=by
 obtain⟨F,p,D⟩:=h.pair i q t ht H E C;rw[ht];refine (PQ w _ _ _ _ _ _ _ _ F _ _ _ p s o).mono ?_;rintro e w' ⟨rfl,n⟩;exact⟨rfl,h.aT i q D n⟩
theorem TC{r:Raw}{c:UY->UW bB}(h:DK w d r c)(i:UY)(o:i<r.tg.length){g:EG}(t:gR w g)(ht:g.tb=r.tg[i].tb)(I:c g.eb≠U4 (.aT i))(H:c g.B≠U4 (.aT i))(C:Fit r.tg[i] g.e)(s:aE.Ord (aE.bS r.tg[i].T))(q:aE.size r.tg[i].T<=9000)(E:∀ p,0<=bZ r.tg[i].A g.e.aL (-g.e.aH) p):
  Va prog 205 #[.pointer (U4 ⟨g.tb,0,U3⟩),.pointer (U4 ⟨g.eb,0,U3⟩)] w fun e w'=>e=.returned (.tuple #[])/\∃ m,DK w' d (r.cW i (r.tg[i].with (bZ r.tg[i].A g.e.aL (-g.e.aH)) (jx g.e.id r.tg[i].T g.e.aL))) m/\Step (·=.aT i) w.heap.size c m w w':=by
 obtain⟨F,p,D⟩:=h.pair i o t ht I H C;rw[ht];refine (To w _ _ _ _ _ _ _ _ F _ _ _ p s q E).mono ?_;rintro e w' ⟨rfl,n⟩;exact⟨rfl,h.aT i o D n⟩
theorem DK.heap{r:Raw}{g:UY->UW bB}(h:DK w d r g)(t:∀ b,v.ownBlock=U4 b->g b=U4 .he){H:UV Hp.Hi}(p:lA w d 5 v H w'):
  ∃ m,DK w' d { r with hl:=H } m/\Step (fun c=>c=.he\/c=.desk) w.heap.size g m w w':=by
 obtain⟨v',E,D,N,q,K⟩:=p
 have st:Step (fun c=>c=.he\/c=.desk) w.heap.size g (gN g v'.ownBlock.toList .he) w w':=by
  refine uc N (fun x s=>?_) (fun x s e=>?_)
  ·rcases Vq.1 s with rfl|s
   ·exact .inl ⟨_,h.dc,.inr rfl⟩
   ·exact .inl ⟨_,t x (WI.1 s),.inl rfl⟩
  ·rcases D x (WI.1 s) with C|C
   ·rw[t x C] at e;cases e
   ·exact C
 refine⟨_,?_,st⟩;refine⟨(q 0 UI).trans h.c0,(q 1 UI).trans h.c1,h.rB st (q 2 UI) UJ,h.sU st (q 3 UI) UJ,h.rj st (q 4 UI) UJ,⟨v',E,fun b I=>?_⟩,fun i P=>h.pU st i P UJ,h.rK st UJ UJ,h.nd,h.ni,fun o=>(K o).trans (h.fz o),st.gk d _ h.dc,fun k c O=>?_⟩
 ·refine tW (WI.2 I) (fun S A=>?_);rcases D b I with e|e
  ·rw[t b e] at A;cases A;rfl
  ·have:=h.lt b _ A;omega
 ·rcases oI O with J|⟨J,Q,R⟩
  ·exact zL (h.lt k c J) st.size
  ·have:=E.own.lt k (WI.1 Q);exact this.2
theorem DK.nh{r:Raw}{g:UY->UW bB}(h:DK w d r g)(n:UZ):DK (w.setCell ⟨d,1,U3⟩ (.int .i64 n)) d { r with given:=n } g/\Step (·=.desk) w.heap.size g g w (w.setCell ⟨d,1,U3⟩ (.int .i64 n)):=by
 have st:Step (·=.desk) w.heap.size g g w (w.setCell ⟨d,1,U3⟩ (.int .i64 n)):=⟨⟨[d],aF.aX ..,fun x q=>.inl ⟨_,by simp at q;subst q;exact h.dc,rfl⟩⟩,fun _ _ h=>h,fun _ _ h=>.inl h⟩;have m:∀ o,o≠1->(w.setCell ⟨d,1,U3⟩ (.int .i64 n)).cell? ⟨d,o,U3⟩=w.cell? ⟨d,o,U3⟩:=fun o m=>zS _ _ _ _ (by have:=m;simp)
 exact⟨⟨(m 0 UI).trans h.c0,Vu _ _ _ h.c1,h.rB st (m 2 UI) UJ,h.sU st (m 3 UI) UJ,h.rj st (m 4 UI) UJ,h.rD st (m 5 UI) ((zF ..).trans (h.fz 5)) UJ,fun i t=>h.pU st i t UJ,h.rK st UJ UJ,h.nd,h.ni,fun o=>(zF ..).trans (h.fz o),h.dc,fun k c s=>zL (h.lt k c s) st.size⟩,st⟩
theorem DK.jg{r:Raw}{m:UY->UW bB}(h:DK w d r m){v':U8}(H:∀ b,v.ownBlock=U4 b->m b=U4 .wa){wl':UV UY}(k:aF v.ownBlock.toList w w1)(I:w1.ownsRow 0 197 1 v' wl'.length (wl'.map jw))(t:∀ b,v'.ownBlock=U4 b->v.ownBlock=U4 b\/w.heap.size<=b):
  ∃ q,DK (w1.setCell ⟨d,4,U3⟩ v') d { r with wl:=wl' } q/\Step (fun c=>c=.wa\/c=.desk) w.heap.size m q w (w1.setCell ⟨d,4,U3⟩ v'):=by
 have E:d ∉ v.ownBlock.toList:=fun e=>by have:=H d (WI.1 e);rw[h.dc] at this;cases this
 have K:=h.lt d _ h.dc;have s:w1.heap[d]?=w.heap[d]?:=k.block d K E;have Q:aF (d :: v.ownBlock.toList) w (w1.setCell ⟨d,4,U3⟩ v'):=(k.mono (by simp +contextual)).setCell (.inl UJ) _ _
 have st:Step (fun c=>c=.wa\/c=.desk) w.heap.size m (gN m v'.ownBlock.toList .wa) w (w1.setCell ⟨d,4,U3⟩ v'):=by
  refine uc Q (fun x C=>?_) (fun x C e=>?_)
  ·rcases Vq.1 C with rfl|C
   ·exact .inl ⟨_,h.dc,.inr rfl⟩
   ·exact .inl ⟨_,H x (WI.1 C),.inl rfl⟩
  ·rcases t x (WI.1 C) with O|O
   ·rw[H x O] at e;cases e
   ·exact O
 have g:∀ o,o≠4->(w1.setCell ⟨d,4,U3⟩ v').cell? ⟨d,o,U3⟩=w.cell? ⟨d,o,U3⟩:=fun o I=>(zS _ _ _ _ (by have:=I;simp)).trans (zo s)
 have D:∀ o,(w1.setCell ⟨d,4,U3⟩ v').frozen? ⟨d,o,U3⟩=w.frozen? ⟨d,o,U3⟩:=fun o=>(zF ..).trans (WG s)
 obtain⟨U,c4,_⟩:=h.wa
 have J:∀ b,v'.ownBlock=U4 b->b≠d:=fun b A e=>by
  subst e;rcases t b A with e|e
  ·exact E (WI.2 e)
  ·omega
 refine⟨_,⟨(g 0 UI).trans h.c0,(g 1 UI).trans h.c1,h.rB st (g 2 UI) UJ,h.sU st (g 3 UI) UJ,⟨v',Vu _ _ _ ((zo (w:=w) s).trans c4),dO I (aF.aX d _ 4 _) (fun b A=>by simpa using J b A),fun b A=>?_⟩,h.rD st (g 5 UI) ((D 5).trans (h.fz 5)) UJ,fun i S=>h.pU st i S UJ,h.rK st UJ UJ,h.nd,h.ni,fun o=>(D o).trans (h.fz o),st.gk d _ h.dc,fun x c R=>?_⟩,st⟩
 ·refine tW (WI.2 A) (fun W N=>?_);rcases t b A with e|e
  ·rw[H b e] at N;cases N;rfl
  ·have:=h.lt b _ N;omega
 ·rcases oI R with P|⟨P,T,V⟩
  ·exact zL (h.lt x c P) st.size
  ·have:=I.lt x (WI.1 T)
   simpa using this.2
def fW(id kind bY:UZ)(c:UV EG):UV EG:=c.map fun g=>if g.e.id=id then { g with e:={ g.e with kind:=kind,bY:=bY } } else g
theorem PI(id c h:UZ)(m:UV EG):(fW id c h m).map (·.eb)=m.map (·.eb):=by
 unfold fW;rw[XF];apply XG;intro g _;simp only[X4];split <;> rfl
theorem PJ(id c h:UZ)(m:UV EG):(fW id c h m).map (·.e.id)=m.map (·.e.id):=by
 unfold fW;rw[XF];apply XG;intro g _;simp only[X4];split <;> rfl
theorem GO(id c h:UZ)(m:UV EG)(x:UZ):gv (fW id c h m) x=gv m x:=by
 have e:(fW id c h m).map (fun g=>(g.e.id,g.eb))=m.map fun g=>(g.e.id,g.eb):=by
  unfold fW;rw[XF];apply XG;intro g _;simp only[X4];split <;> rfl
 unfold gv;rw[e]
theorem QY(id c g:UZ)(h:UV EG):(fW id c g h).length=h.length:=by unfold fW;simp
theorem oJ{α β:Type}(f:α->β):∀ {l:UV α},(l.map f).Nodup->∀ {x y:α},x∈l->y∈l->f x=f y->x=y
 |[],_,_,_,hx,_,_=>by simp at hx
 |a :: l,h,x,y,hx,hy,e=>by
  rw[XD,Vt] at h;rcases Vq.1 hx with o|g <;> rcases Vq.1 hy with m|c
  ·rw[o,m]
  ·exact U2 (V9.2 ⟨y,c,by rw[<- e,o]⟩) h.1
  ·exact U2 (V9.2 ⟨x,g,by rw[e,m]⟩) h.1
  ·exact oJ f h.2 g c e
theorem DK.rm{r:Raw}{s:UY->UW bB}(h:DK w d r s){g:EG}(K:g∈r.eg)(q A:UZ):
  DK ((w.setCell ⟨g.eb,1,U3⟩ (.int .i64 q)).setCell ⟨g.eb,5,U3⟩ (.int .i64 A)) d { r with eg:=fW g.e.id q A r.eg } s/\Step (·=.ent) w.heap.size s s w ((w.setCell ⟨g.eb,1,U3⟩ (.int .i64 q)).setCell ⟨g.eb,5,U3⟩ (.int .i64 A)):=by
 obtain⟨g1,O,Z⟩:=h.en g K;have k:aF [g.eb] w ((w.setCell ⟨g.eb,1,U3⟩ (.int .i64 q)).setCell ⟨g.eb,5,U3⟩ (.int .i64 A)):=((aF.refl [g.eb] w).setCell (.inl UJ) _ _).setCell (.inl UJ) _ _;have st:Step (·=.ent) w.heap.size s s w ((w.setCell ⟨g.eb,1,U3⟩ (.int .i64 q)).setCell ⟨g.eb,5,U3⟩ (.int .i64 A)):=⟨⟨_,k,fun x D=>.inl ⟨_,by simp at D;subst D;exact O,rfl⟩⟩,fun _ _ h=>h,fun _ _ h=>.inl h⟩;obtain⟨U,T,P,S,E⟩:=h.base st UJ;refine⟨⟨U,T,h.rB st (E 2) UJ,?_,h.rj st (E 4) UJ,h.rD st (E 5) (P 5) UJ,fun i Q=>h.pU st i Q UJ,?_,by rw[PI];exact h.nd,by rw[PJ];exact h.ni,P,S,fun x c D=>zL (h.lt x c D) st.size⟩,st⟩
 ·obtain⟨m,f,Y,X,W,V⟩:=h.sU st (E 3) UJ;exact⟨m,f,Y,X,by rw[QY];exact W,fun id=>by rw[V,GO]⟩
 ·intro x D;obtain⟨y,I,rfl⟩:=V9.1 D;obtain⟨t,H,C⟩:=h.en y I
  by_cases e:y.e.id=g.e.id
  ·have:y=g:=oJ _ h.ni I K e;subst this;rw[U1 rfl];have N:y.B≠y.eb:=fun e=>by rw[e,H] at C;cases C
   refine⟨⟨⟨?_,?_,?_,?_,t.en.sl.off k (by simpa using N),WE t.en.lt k.size⟩,?_,?_,fun o=>?_,?_⟩,H,C⟩
   ·exact (zS _ _ _ _ UJ).trans ((zS _ _ _ _ UJ).trans t.en.c0)
   ·exact (zS _ _ _ _ UJ).trans ((zS _ _ _ _ UJ).trans t.en.c1)
   ·exact (zS _ _ _ _ UJ).trans ((zS _ _ _ _ UJ).trans t.en.c2)
   ·exact (zS _ _ _ _ UJ).trans ((zS _ _ _ _ UJ).trans t.en.c3)
   ·exact (zS _ _ _ _ UJ).trans (zm _ _ _ t.k)
   ·exact zm _ _ _ ((zS _ _ _ _ UJ).trans t.u)
   ·exact (zF ..).trans ((zF ..).trans (t.fz o))
   ·obtain⟨cs,e⟩:=t.bl;exact⟨_,heap_setCell_same _ _ _ _ _ _ (heap_setCell_same _ _ _ _ _ _ e)⟩
  ·rw[U0 e];have J:y.eb≠g.eb:=fun R=>e (by rw[oJ _ h.nd I K R])
   have N:y.B≠g.eb:=fun e=>by rw[e,O] at C;cases C
   exact⟨t.off k (by simpa using J) (by simpa using N),H,C⟩
def eS(id:UZ)(c:UV EG):UV EG:=c.filter fun g=>g.e.id != id
theorem nZ{c:UV EG}:gv c id=((c.find? fun g=>decide (g.e.id=id)).map (·.eb)):=by
 unfold gv;rw[X5]
 cases h:c.find? ((fun p=>decide (p.1=id)) ∘ fun g=>(g.e.id,g.eb)) with
 |none=>have m:c.find? (fun g=>decide (g.e.id=id))=U3:=h;rw[m];rfl
 |some g=>have m:c.find? (fun g=>decide (g.e.id=id))=U4 g:=h;rw[m];rfl
theorem Hv{c:UV EG}(o:(c.map (·.e.id)).Nodup){g:EG}(m:g∈c):gv c g.e.id=U4 g.eb:=by
 rw[nZ]
 cases h:c.find? fun x=>decide (x.e.id=g.e.id) with
 |none =>
  have:=X6.1 h g m;simp at this
 |some x =>
  have r:=X7 h;have q:=X8 h;have:x=g:=oJ _ o r m (by simpa using q);rw[this];rfl
theorem BV{c:UV EG}(h:∀ g∈c,g.e.id≠id):gv c id=U3:=by
 rw[nZ];have:c.find? (fun g=>decide (g.e.id=id))=U3:=X6.2 (fun g m=>by simpa using h g m);rw[this];rfl
theorem HJ{c:UV EG}{b:UY}(h:gv c id=U4 b):∃ g∈c,g.e.id=id/\g.eb=b:=by
 rw[nZ] at h
 cases e:c.find? fun x=>decide (x.e.id=id) with
 |none=>rw[e] at h;cases h
 |some x =>
  rw[e] at h;refine⟨x,X7 e,by simpa using X8 e,by simpa using h⟩
theorem Gl{c:UV EG}(h:gv c id=U3):∀ g∈c,g.e.id≠id:=by
 rw[nZ] at h;intro g o e
 cases m:c.find? fun x=>decide (x.e.id=id) with
 |none =>
  have:=X6.1 m g o;simp[e] at this
 |some x=>rw[m] at h;cases h
theorem GC{eg:UV EG}(q:(eg.map (·.e.id)).Nodup)(id x:UZ):gv (eS id eg) x=if x=id then U3 else gv eg x:=by
 by_cases e:x=id
 ·subst e;rw[U1 rfl];exact BV (fun g c=>by simpa using (Xq.1 c).2)
 ·rw[U0 e]
  cases h:gv eg x with
  |none=>exact BV (fun g c=>Gl h g ((Xq.1 c).1))
  |some b =>
   obtain⟨g,c,o,s⟩:=HJ h;have m:((eS id eg).map (·.e.id)).Nodup:=VJ (XS.map _) q;have r:g∈eS id eg:=Xq.2 ⟨c,by simpa[o] using e⟩;rw[<- o,Hv m r,s]
theorem QU{eg:UV EG}(o:(eg.map (·.e.id)).Nodup)(id:UZ):(eS id eg).length=eg.length-if (gv eg id).isSome then 1 else 0:=by
 induction eg with
 |nil=>simp[eS]
 |cons g eg ih =>
  rw[XD,Vt] at o;have ih:=ih o.2
  by_cases e:g.e.id=id
  ·have r:∀ x∈eg,x.e.id≠id:=fun x m c=>o.1 (V9.2 ⟨x,m,by rw[e,c]⟩)
   have q:eS id (g :: eg)=eg:=by
    unfold eS;rw[VG,U0 (by simp[e])];exact XE.2 (fun x m=>by simpa using r x m)
   have c:(gv (g :: eg) id).isSome=U6:=by rw[nZ,X9];simp[e]
   rw[q,c];simp
  ·have q:eS id (g :: eg)=g :: eS id eg:=by unfold eS;rw[VG,U1 (by simpa using e)]
   have c:gv (g :: eg) id=gv eg id:=by rw[nZ,nZ,X9];simp[e]
   rw[q,c,VV,VV,ih]
   have:(if (gv eg id).isSome then 1 else 0)<=eg.length:=by
    split
    ·rename_i h
     cases eg with
     |nil=>rw[nZ] at h;simp at h
     |cons _ _=>simp
    ·omega
   omega
theorem DK.uM{r:Raw}{o:UY->UW bB}(h:DK w d r o){m:UY}{f:Lit->UW UY}(I:w.cell? ⟨d,3,U3⟩=U4 (.map (U4 m)))(C:o m=U4 .me)(D:∀ id,f (ju id)=gv r.eg id)(id:UZ)(p:e9 prog 3 w' m r.eg.length (Go.Proofs.YtfigmlfdnickmaaGreatDoor.kY f (ju id) U3) (r.eg.length-if (f (ju id)).isSome then 1 else 0))(q:w.grownBy w' (U4 m)):
  DK w' d { r with eg:=eS id r.eg } o/\Step (·=.me) w.heap.size o o w w':=by
 have k:aF [m] w w':=⟨q.os,q.tape,q.output,q.size,fun i A H=>q.block i A (by simpa using H)⟩;have st:Step (·=.me) w.heap.size o o w w':=⟨⟨_,k,fun x s=>.inl ⟨_,by simp at s;subst s;exact C,rfl⟩⟩,fun _ _ h=>h,fun _ _ h=>.inl h⟩;obtain⟨O,N,E,K,t⟩:=h.base st UJ;refine⟨⟨O,N,h.rB st (t 2) UJ,⟨m,kY f (ju id) U3,(t 3).trans I,C,?_,fun x=>?_⟩,h.rj st (t 4) UJ,h.rD st (t 5) (E 5) UJ,fun i A=>h.pU st i A UJ,fun g q=>h.rK st UJ UJ g ((Xq.1 q).1),VJ (XS.map _) h.nd,VJ (XS.map _) h.ni,E,K,fun x c s=>zL (h.lt x c s) st.size⟩,st⟩
 ·have e:=QU h.ni id;rw[D] at p;show e9 _ _ _ _ (eS id r.eg).length _ (eS id r.eg).length;rw[e];exact p.tight
 ·show kY f (ju id) U3 (ju x)=gv (eS id r.eg) x;rw[GC h.ni]
  by_cases e:x=id
  ·rw[e,sL,U1 rfl]
  ·rw[sP f _ (fun J=>e (GF J)),U0 e,D]
theorem GQ{c:UV EG}{g:EG}(m:∀ x∈c,x.e.id≠g.e.id)(x:UZ):gv (c++[g]) x=if x=g.e.id then U4 g.eb else gv c x:=by
 by_cases e:x=g.e.id
 ·rw[U1 e,nZ,Ya];have:c.find? (fun y=>decide (y.e.id=x))=U3:=X6.2 (fun y o=>by simpa[e] using m y o);rw[this];simp[e]
 ·rw[U0 e,nZ,nZ,Ya]
  cases h:c.find? fun y=>decide (y.e.id=x) with
  |none=>simp[X0 e]
  |some y=>simp
theorem sO{c:UV TG}:jH c name=((c.find? fun t=>aA.bW t.name name).map (·.tb)):=by
 unfold jH;rw[X5]
 cases h:c.find? ((fun p=>aA.bW p.1 name) ∘ fun t=>(t.name,t.tb)) with
 |none=>have m:c.find? (fun t=>aA.bW t.name name)=U3:=h;rw[m];rfl
 |some g=>have m:c.find? (fun t=>aA.bW t.name name)=U4 g:=h;rw[m];rfl
theorem Rb{c:UV TG}{t:TG}(g:∀ x∈c,x.name≠t.name)(name:UU):jH (c++[t]) name=@ite _ (name=t.name) (XX _) (U4 t.tb) (jH c name):=by
 by_cases e:name=t.name
 ·rw[U1 e,sO,Ya];have:c.find? (fun y=>aA.bW y.name name)=U3:=X6.2 (fun y m=>by rw[Bool.not_eq_true,pQ,e];exact g y m);rw[this];have:aA.bW t.name name=U6:=sI.2 e.symm;simp[this]
 ·rw[U0 e,sO,sO,Ya]
  cases h:c.find? fun y=>aA.bW y.name name with
  |none =>
   have:aA.bW t.name name=U5:=pQ.2 (X0 e);simp[this]
  |some y=>simp
theorem Hs{r:Raw}{o:UY->UW bB}(h:DK w d r o)(H:Hp.gH r.hl)(hl:r.hl.length<=1000)(t n:UZ)(E:∃ x∈r.hl,x.t=t/\x.n=n):
  Va prog 149 #[.pointer (U4 ⟨d,5,U3⟩),.int .i64 t,.int .i64 n] w fun e w'=>e=.returned (.tuple #[])/\∃ (x:Hp.Hi) (m:UV Hp.Hi) (g:UY->UW bB),x.t=t/\x.n=n/\Hp.gH m/\r.hl.Perm (x :: m)/\DK w' d { r with hl:=m } g/\Step (fun c=>c=.he\/c=.desk) w.heap.size o g w w':=by
 obtain⟨v,P,O⟩:=h.he;refine (QT d 5 v r.hl t n w P H hl).mono ?_;rintro e w' ⟨rfl,A⟩;refine⟨rfl,?_⟩;rcases A with ⟨A,_⟩|⟨x,m,N,K,p,J,I⟩
 ·obtain⟨x,s,q⟩:=E;exact U2 q (A x s)
 ·obtain⟨g,D,C⟩:=h.heap O p;exact⟨x,m,g,N,K,J,I,D,C⟩
def xI(c:bB):Prop:=c=.he\/c=.desk\/c=.ent
def Cc(w:U7)(d:UY)(r:Raw)(m:UY->UW bB)(g:EG)(w':U7):Prop :=
 ∃ (x:Hp.Hi) (h:UV Hp.Hi) (c:UY->UW bB),x.t=g.e.bY/\x.n=g.e.id/\Hp.gH h/\r.hl.Perm (x :: h)/\DK w' d { r with eg:=fW g.e.id 1 0 r.eg,hl:=h } c/\Step xI w.heap.size m c w w'
theorem Ug{r:Raw}{o:UY->UW bB}(h:DK w d r o)(W:Hp.gH r.hl)(V:r.hl.length<=1000){g:EG}(N:g∈r.eg)(U:∃ x∈r.hl,x.t=g.e.bY/\x.n=g.e.id):
  Va prog 105 #[.pointer (U4 ⟨d,0,U3⟩),.pointer (U4 ⟨g.eb,0,U3⟩)] w fun e w'=>e=.returned (.tuple #[])/\Cc w d r o g w':=by
 obtain⟨O,Y,X⟩:=h.en g N;have c0:=O.en.c0;have c5:=O.u;have P:=aC (fun wx (k:U9 w.heap.size w wx)=>Hs (h.later k) W V g.e.bY g.e.id U);have I:=aC (zA N Y);clear h X
 go_in
 go_upto_region 0 with fail
 go_region_held3 (fun w'=>w'.cell? ⟨g.eb,0,U3⟩=U4 (.int .i64 g.e.id)/\w'.cell? ⟨g.eb,5,U3⟩=U4 (.int .i64 g.e.bY))
  (first
   |exact⟨c0,c5⟩
   |exact⟨((s.en g I.y.1).1).en.c0,((s.en g I.y.1).1).u⟩)
  (first
   |(go_at_call 149;refine (P.y _ (dM w)).mono ?_;rintro e w4 ⟨rfl,x,T,m,H,E,D,C,s,A⟩))
 obtain⟨q,S,R⟩:=s.en g I.y.1;have d1:=q.k;have d5:=q.u;have f1:=q.fz 1;have f5:=q.fz 5;have Z:=aC (s.rm (g:=g) I.y.1 1 0);have KK:=aC (zA H (zA E (zA D (zA C A))));clear q S R H E D C s A P c0 c5
 go_wp2
 go_end0
 obtain⟨H,E,D,C,A⟩:=KK.y;obtain⟨s1,Q⟩:=Z.y;refine⟨rfl,(⟨x,T,m,H,E,D,C,s1,?_⟩:Cc _ _ _ _ _ _)⟩;have K:Step xI w.heap.size o m w w4:=(Step.below (dM w)).trans (A.mono (fun c J=>by unfold xI;rcases J with e|e;exact .inl e;exact .inr (.inl e)) (zq _));exact K.trans (Q.mono (fun c J=>.inr (.inr J)) K.size)
theorem Tv(eb:UY)(g:UZ)(w:U7)(c:w.cell? ⟨eb,1,U3⟩=U4 (.int .i64 g)):
  Va prog 107 #[.pointer (U4 ⟨eb,0,U3⟩)] w fun e w'=>e=.returned (.bool (g==1))/\w'=w:=by
 go_in
 go_wp2
 go_ret;exact⟨rfl,rfl⟩
theorem Ff:(prog.info? 200).map (fun i=>i.size)=U4 6:=UO
theorem Nv(w:U7)(a b:UY)(m:∃ cs,w.heap[a]?=U4 (.cells cs 200 (0,0)))(g:∃ cs,w.heap[b]?=U4 (.cells cs 200 (0,0))):
  (binOp .eql 197 (.pointer (U4 ⟨b,0,U3⟩)) (.pointer (U4 ⟨a,0,U3⟩))).run prog w=.ok (.bool (b==a)) w:=by
 obtain⟨j,c⟩:∃ j,prog.info? 200=U4 j:=by
  cases h:prog.info? 200 with
  |none=>have:=Ff;rw[h] at this;cases this
  |some j=>exact⟨j,rfl⟩
 have o:j.size≠0:=by
  have:=Ff;rw[c] at this;simp at this;omega
 by_cases e:b=a
 ·subst e;rw[run_eql_ptr_same w _ underlying197 c];simp
 ·obtain⟨q,m⟩:=m;obtain⟨cb,g⟩:=g;rw[run_eql_ptr_other w (a:=⟨b,0,U3⟩) (b:=⟨a,0,U3⟩) underlying197 c o (by have:=e;simp) g m];simp[e]
theorem RF(A a b:UY)(w:U7)(c:w.cell? ⟨A,0,U3⟩=U4 (.pointer (U4 ⟨a,0,U3⟩)))(h:∃ cs,w.heap[a]?=U4 (.cells cs 200 (0,0)))(g:∃ cs,w.heap[b]?=U4 (.cells cs 200 (0,0))):
  Va prog 206 #[.pointer (U4 ⟨b,0,U3⟩),.pointer (U4 ⟨A,0,U3⟩)] w fun e w'=>e=.returned (.bool (b==a))/\w'=w:=by
 have m:=Nv w a b h g;clear h g
 go_in
 go_wp2
 go_ret;exact⟨rfl,rfl⟩
theorem SC{c:UY}{e:Vc}{g:UY}(h:w.ownsRow c e 1 (.slice (U4 ⟨g,0,U3⟩) n cap) n xs)(I:i<=n):w.ownsRow c e 1 (.slice (U4 ⟨g,0,U3⟩) i cap) i (xs.take i):=by
 obtain⟨J,D⟩:=h;refine⟨by rw[Yb];omega,?_⟩;rcases D with ⟨E,_⟩|⟨K,s,r,t,C,A,H,o,q,m⟩
 ·cases E
 ·cases t
  refine .inr ⟨g,cap,r,rfl,C,A,by omega,o,q,?_⟩;rw[<- m,List.take_take]
  congr 1
  omega
theorem Js{c:UY}{e:Vc}{g n cap:UY}{xs:UV U8}:∀ (m:UV U8)(o:UY)(w:U7),n<=o->w.ownsRow c e 1 (.slice (U4 ⟨g,0,U3⟩) n cap) n xs->(w.setCells g o m).ownsRow c e 1 (.slice (U4 ⟨g,0,U3⟩) n cap) n xs
 |[],_,_,_,h=>h
 |v :: r,o,w,ho,h=>by
  refine Js r (o+1) _ UI ?_;have:=(h.stored o v).1
  rwa [List.set_eq_of_length_le (by have:=h.1;omega)] at this
theorem Jn{g:UY}:∀ (c:UV U8)(o:UY)(w:U7),aF [g] w (w.setCells g o c)
 |[],_,_=>aF.refl _ _
 |v :: r,o,w=>(aF.aX g w o v).trans (Jn r (o+1) _)
structure oB(L:UV UY)(p:UY->UX)(i j:UY)(M:UV UY):Prop where
 len:M.length=L.length
 ij:i<j
 jl:j<=L.length
 lo:M.take i=(L.take j).filter fun b=>!p b
 hi:∀ k,j<=k->M[k]?=L[k]?
theorem oB.skip{L:UV UY}(h:oB L p i j M)(g:j<L.length)(c:p L[j]=U6):oB L p i (j+1) M:=by
 refine⟨h.len,by have:=h.ij;omega,by omega,?_,fun k m=>h.hi k UI⟩;rw[h.lo,V5 g,VF];simp[c]
theorem oB.gk{L:UV UY}(h:oB L p i j M)(m:j<L.length)(c:p L[j]=U5):oB L p (i+1) (j+1) (M.set i L[j]):=by
 have o:=h.ij;have g:=h.len;refine⟨by simpa using g,by omega,by omega,?_,fun k q=>?_⟩
 ·rw[V5 m,VF,<- h.lo,V5 UQ,List.take_set_of_le (zq _)];simp[c]
 ·rw[List.getElem?_set_ne UI];exact h.hi k UI
theorem oB.new{L:UV UY}(m:k<L.length)(h:p L[k]=U6)(q:∀ (j:UY)(g:j<k),p (L[j]'UI)=U5):oB L p k (k+1) L:=by
 refine⟨rfl,by omega,by omega,?_,fun _ _=>rfl⟩;rw[V5 m,VF];simp only[h,VG,Bool.not_true,Vn,if_false,List.filter_nil,XT];refine (XE.2 (fun b o=>?_)).symm;obtain⟨j,g,rfl⟩:=XN o;have c:j<k:=by rw[Yb] at g;omega
 simp[q j c]
def CU(fn:UY)(cs:UV U8):Prop:=(fn=107/\cs=[])\/(fn=206/\∃ A:UY,cs=[.pointer (U4 ⟨A,0,U3⟩)])
def C0(fn:UY)(cs:UV U8)(w:U7)(L:UV UY)(p:UY->UX):Prop :=
 ∀ b∈L,Va prog fn (.pointer (U4 ⟨b,0,U3⟩) :: cs).toArray w fun e w'=>e=.returned (.bool (p b))/\w'=w
theorem Kj(P:CU fn cs)(L:UV UY)(p:UY->UX)(v:U8)(w:U7)(ht:C0 fn cs w L p)(own:w.ownsRow 0 197 1 v L.length (L.map jw))(R:L.length<=1000):
  Va prog 160 #[v,.func (.func fn) #[] cs.toArray] w fun e w'=>e=.returned (.int .i64 (eP p L 0))/\w'=w:=by
 have N:∃ a cap,v=.slice a L.length cap:=by
  rcases own.2 with ⟨rfl,h⟩|⟨g,cap,_,rfl,_⟩
  ·rw[h];exact⟨_,_,rfl⟩
  ·exact⟨_,_,rfl⟩
 obtain⟨a,cap,rfl⟩:=N;have r:=aC own;have Q:=aC ht;clear own ht;rcases P with ⟨rfl,rfl⟩|⟨rfl,A,rfl⟩
 all_goals
  go_in
  go_wp2_with fail
  go_loop [8] (fun i=>∃ k:UY,k<=L.length/\i=.int .i64 k/\eP p L 0=eP p (L.drop k) k) (fun i=>L.length-(intOf i).toNat)
  case atStart=>exact⟨0,V6 _,rfl,rfl⟩
  case round =>
   obtain⟨j,S,rfl,D⟩:=hrel;have C:=aC D;clear D
   by_cases c:j<L.length
   ·have O:(j:UZ)<(L.length:UZ):=UI
    obtain⟨H,J,I⟩:=Yc r.y UI;simp only[Value.slice.injEq,true_and] at I;obtain⟨rfl,rfl⟩:=I;have t:=r.y.cellAt j UI;rw[Yd,WS c,Ye] at t;unfold jw at t;have o:=aC (Q.y L[j] (zg c));have E:eP p (L.drop j) j=if p L[j] then (j:UZ) else eP p (L.drop (j+1)) ((j+1:UY):UZ):=by rw[Ws c];rfl
    have K:=aC E;clear E
    cases m:p L[j]
    ·have s:Hid (eP p L 0=eP p (L.drop (j+1)) ((j+1:UY):UZ)):=by show _=_;rw[C.y,K.y,m];rfl
     rw[m] at o;clear m
     go_wp2_with fail
     refine o.y.mono ?_;rintro e w1 ⟨rfl,q⟩;rw[q];clear t o q
     go_wp2
     go_round
     case rel=>exact⟨j+1,by omega,by go_num,s.y⟩
     case measure=>simp[intOf];omega
    ·have s:Hid (eP p L 0=j):=by show _=_;rw[C.y,K.y,m];rfl
     rw[m] at o;clear m
     go_wp2_with fail
     refine o.y.mono ?_;rintro e w1 ⟨rfl,q⟩;rw[q];clear t o q
     go_wp2
     go_ret;exact⟨gL s.y.symm,rfl⟩
   ·have O:¬ (j:UZ)<(L.length:UZ):=UI
    have e:L.drop j=[]:=Wt UI;have s:Hid (eP p L 0=-1):=by show _=_;rw[C.y,e];rfl
    clear e
    go_wp2
    go_ret;exact⟨gL s.y.symm,rfl⟩
theorem C6(S:CU fn cs)(L:UV UY)(p:UY->UX)(v:U8)(w:U7)(ht:∀ wx,aF v.ownBlock.toList w wx->C0 fn cs wx L p)(own:w.ownsRow 0 197 1 v L.length (L.map jw))(hl:L.length<=1000):
  Va prog 106 #[v,.func (.func fn) #[] cs.toArray] w fun e w'=>∃ v',e=.returned v'/\aF v.ownBlock.toList w w'/\w'.ownsRow 0 197 1 v' (L.filter fun b=>!p b).length ((L.filter fun b=>!p b).map jw)/\v'.ownBlock=v.ownBlock:=by
 have P:=aC (Kj S L p v w (ht w (aF.refl _ _)) own hl);have h:=vA p L 0;rcases S with ⟨rfl,rfl⟩|⟨rfl,A,rfl⟩
 all_goals
  go_in
  go_wp2_with fail
  refine P.y.mono ?_;rintro e w1 ⟨rfl,rfl⟩;rcases h with ⟨q,o⟩|⟨k,hk,q,o,U⟩
  ·rw[q];have T:(L.filter fun b=>!p b)=L:=XE.2 (fun b hb=>by simp[o b hb]);have J:Hid (w1.ownsRow 0 197 1 v (L.filter fun b=>!p b).length ((L.filter fun b=>!p b).map jw)):=by show w1.ownsRow _ _ _ _ _ _;rw[T];exact own
   clear q o T P ht own
   go_wp2
   go_ret;exact⟨v,rfl,aF.refl _ _,J.y,rfl⟩
  ·have C:0<L.length:=UI
   obtain⟨H,cap,O⟩:=Yc own C;subst O;rw[q,Int.zero_add];have D0:=aC (oB.new hk o U);have I:=aC own;have HT:=aC ht;have w3:Vf.wrap ((k:UZ)+1)=((k+1:UY):UZ):=by rw[cG UI UI];omega
   have aa:((k:UZ)==-1)=U5:=UJ
   clear q o U P ht own
   go_wp2_with fail
   go_loopw [5,6,7] (fun vi K _ wx=>∃ (i j:UY) (M:UV UY),vi=.int .i64 i/\K=.int .i64 j/\oB L p i j M/\aF [H] w1 wx/\wx.ownsRow 0 197 1 (.slice (U4 ⟨H,0,U3⟩) L.length cap) L.length (M.map jw)) (fun _ K _ _=>L.length-(intOf K).toNat)
   case atStart=>exact⟨k,k+1,L,rfl,rfl,D0.y,aF.refl _ _,I.y⟩
   case round =>
    obtain⟨i,j,M,rfl,rfl,m,D,c⟩:=hrel;have ad:=m.ij;have ac:=m.jl;have ab:=m.len;have r:=aC (zA m (zA D c))
    by_cases g:j<L.length
    ·have hj:(j:UZ)<(L.length:UZ):=UI
     have hi:(i:UZ)<(L.length:UZ):=UI
     have X:=c.cellAt j UI;rw[Yd,m.hi j (zq _),WS g,Ye] at X;have W:=c.cellAt i UI;rw[Yd,WS UI,Ye] at W;have f0:=c.frozenAt i;unfold jw at X W;have s:=aC (HT.y wr D L[j] (zg g));have wi:Vf.wrap ((i:UZ)+1)=((i+1:UY):UZ):=by rw[cG UI UI];omega
     have wj:Vf.wrap ((j:UZ)+1)=((j+1:UY):UZ):=by rw[cG UI UI];omega
     clear D m
     cases h:p L[j]
     ·have Q:=aC (r.y.1.gk g h);have Y:=aC ((c.stored i (jw L[j])).1);have Z:=aC (r.y.2.1.trans (aF.aX H wr i (jw L[j])));rw[h] at s;unfold jw at Y Z;clear h c
      go_wp2_with fail
      refine s.y.mono ?_;rintro e w2 ⟨rfl,c⟩;rw[c];clear s c
      go_wp2
      go_roundw
      case rel=>exact⟨i+1,j+1,M.set i L[j],rfl,rfl,Q.y,Z.y,by rw[XY];exact Y.y⟩
      case measure=>simp[intOf];omega
     ·have Q:=aC (r.y.1.skip g h);rw[h] at s;clear h c
      go_wp2_with fail
      refine s.y.mono ?_;rintro e w2 ⟨rfl,c⟩;rw[c];clear s c
      go_wp2
      go_roundw
      case rel=>exact⟨i,j+1,M,rfl,rfl,Q.y,r.y.2.1,r.y.2.2⟩
      case measure=>simp[intOf];omega
    ·have hj:¬ ((j:UZ)<(L.length:UZ)):=UI
     have E:j=L.length:=UI
     have R:L.length<=cap:=by
      rcases c.2 with ⟨h0,_⟩|⟨g',V,ai,O,_,_,h1,_⟩
      ·cases h0
      ·cases O;exact h1
     have ag:∀ N,(Builtin.clear_ #[139] N #[.slice (U4 ⟨H,i,U3⟩) (L.length-i) (cap-i)]).run prog wr=.ok (.tuple #[]) (wr.setCells H i (Yf (L.length-i) (.pointer U3))) :=
      fun N=>Lib.run_clear_slice wr _ _ N (.pointer U3) underlying139 (fun w=>by simp[go_sem]) rfl rfl H i _ _ UI (fun t ht=>by rw[c.cellAt (i+t) UI];simp;omega) (fun t ht=>c.frozenAt (i+t))
     have ae:(i:UZ)<=(L.length:UZ):=UI
     have af:(i:UZ)<=(cap:UZ):=UI
     have J:Hid (aF [H] w1 (wr.setCells H i (Yf (L.length-i) (.pointer U3)))/\(wr.setCells H i (Yf (L.length-i) (.pointer U3))).ownsRow 0 197 1 (.slice (U4 ⟨H,0,U3⟩) i cap) (L.filter fun b=>!p b).length ((L.filter fun b=>!p b).map jw)):=by
      have q:(L.filter fun b=>!p b)=M.take i:=by rw[m.lo,E,List.take_of_length_le (zq _)]
      have o:(M.take i).length=i:=by rw[Yb];omega
      refine⟨D.trans (Jn _ _ _),?_⟩;rw[q,o,List.map_take];exact Js _ i wr (zq _) (SC c UI)
     clear m D c r HT I D0 E
     go_wp2
     go_ret;exact⟨_,rfl,J.y.1,J.y.2,rfl⟩
def qQ(c:bB):Prop:=c=.me\/c=.wa\/c=.desk\/∃ i,c=.aT i
def G4(w:U7)(d:UY)(r:Raw)(h:UY->UW bB)(g:EG)(i:UY)(m:i<r.tg.length)(w':U7):Prop :=
 ∃ c,DK w' d ({ r with eg:=eS g.e.id r.eg }.cW i (r.tg[i].with (bZ r.tg[i].A g.e.aL (-g.e.aH)) (jx g.e.id r.tg[i].T g.e.aL))) c/\Step qQ w.heap.size h c w w'
theorem Pp(w:U7):(zeroValue 197).run prog w=.ok (.pointer U3) w:=by simp[go_sem]
theorem RG{r:Raw}{o:UY->UW bB}(h:DK w d r o){g:EG}(hg:g∈r.eg)(hk:g.e.kind≠3)(i:UY)(V:i<r.tg.length)(ht:g.tb=r.tg[i].tb)(hf:Fit r.tg[i] g.e)(ho:aE.Ord (aE.bS r.tg[i].T))(hz:aE.size r.tg[i].T<=9000)(hA:∀ p,0<=bZ r.tg[i].A g.e.aL (-g.e.aH) p)(ac:0<=g.e.id/\g.e.id<=1000):
  Va prog 150 #[.pointer (U4 ⟨d,0,U3⟩),.pointer (U4 ⟨g.eb,0,U3⟩)] w fun e w'=>e=.returned (.tuple #[])/\G4 w d r o g i V w':=by
 have Y:U9 w.heap.size w (w.alloc (.cells #[.pointer (U4 ⟨g.eb,0,U3⟩)] 197)):=(zr _ _).alloc (zq _) _;have J:=h.later Y;have U:(w.alloc (.cells #[.pointer (U4 ⟨g.eb,0,U3⟩)] 197)).cell? ⟨w.heap.size,0,U3⟩=U4 (.pointer (U4 ⟨g.eb,0,U3⟩)):=UJ
 have I:w.heap.size<(w.alloc (.cells #[.pointer (U4 ⟨g.eb,0,U3⟩)] 197)).heap.size:=UJ
 have O:o w.heap.size=U3:=by
  cases e:o w.heap.size with
  |none=>rfl
  |some c=>have:=h.lt _ _ e;omega
 have D:=aC (zA Y (zA I O));clear h Y I O
 go_in
 go_upto_region 1 with fail
 generalize (w.alloc (.cells #[.pointer (U4 ⟨g.eb,0,U3⟩)] 197))=X at J U D ⊢;obtain⟨g1,R,Q⟩:=J.en g hg;obtain⟨m,f,a1,a2,a3,a4⟩:=J.me;have c0:=g1.en.c0;have ab:(g.e.kind != 3)=U6:=by simpa using hk
 have kk:=xM (n:=g.e.id) UI UI;obtain⟨w1,K,p1,p2⟩:=(a3.block (w':=X.drew) rfl).lN xC underlying138 kk 0;have C:=J.later (dM X);have DD:=aC (C.uM a1 a2 a4 g.e.id p1 p2);have S:=aC (DD.y.2.uE (C.en g hg).1 (.inl ⟨_,R,by simp⟩) (.inl ⟨_,Q,by simp⟩));have ad:=S.y.k;have P:=S.y.en.c1;have t:w1.cell? ⟨w.heap.size,0,U3⟩=U4 (.pointer (U4 ⟨g.eb,0,U3⟩)):=(zo (w:=X) (DD.y.2.bV D.y.2.1 D.y.2.2 D.y.2.1)).trans U;clear J C a3 p1 p2 a4
 go_big_region
 clear K U a1 c0;have Z:w.heap.size<w1.heap.size:=Vh _ _ t;have s:=aC (zA D.y.2.2 Z);have XB:=aC D.y.1;have aa:=aC (zA R Q);have RL:=aC (fun wx (k:U9 w1.heap.size w1 wx)=>TC (DD.y.1.later k) i V (S.y.off (G:=[]) (aF.aD k) UJ UJ) ht (by rw[R];simp) (by rw[Q];simp) hf ho hz hA);clear g1 R Q hf ho hz hA D kk a2 ht;generalize w.heap.size=N at t s ⊢
 have AF:Hid (∀ E q,Step (·=.aT i) w1.drew.heap.size o q w1.drew E->E.cell? ⟨N,0,U3⟩=U4 (.pointer (U4 ⟨g.eb,0,U3⟩))/\E.cell? ⟨g.eb,2,U3⟩=U4 (.pointer (U4 ⟨g.tb,0,U3⟩))):=fun E q H =>
  ⟨(zo (w:=w1) (H.bV s.y.2 s.y.1 s.y.2)).trans t,H.nK aa.y.1 UJ P⟩
 go_upto_region 3 with fail
 go_region_held3 (fun w'=>w'.cell? ⟨N,0,U3⟩=U4 (.pointer (U4 ⟨g.eb,0,U3⟩))/\w'.cell? ⟨g.eb,2,U3⟩=U4 (.pointer (U4 ⟨g.tb,0,U3⟩)))
  (first
   |exact⟨t,P⟩
   |exact AF.y _ _ H)
  (first
   |(go_at_call 205;refine (RL.y _ (dM w1)).mono ?_;rintro e E ⟨rfl,q,q1,H⟩))
 have HF:Hid (G4 w d r o g i V E):=by
  have t0:Step qQ w.heap.size o o w X:=Step.below XB.y;have t1:Step qQ w.heap.size o o w w1:=t0.trans ((Step.below (dM X)).trans (DD.y.2.mono (fun c W=>.inl W) t0.size));have t2:Step qQ w.heap.size o o w w1.drew:=t1.trans (Step.below (dM w1));exact⟨q,q1,t2.trans (H.mono (fun c W=>.inr (.inr (.inr ⟨i,W⟩))) t2.size)⟩
 clear q1 H RL DD S
 go_wp2_with fail
 (try simp only[Exit.inBlock,Exit.then]);refine bodyPost_ret (results_none rfl _ _ _) rfl ?_
 exact⟨rfl,HF.y⟩
def Ik(w:U7)(d:UY)(r:Raw)(h:UY->UW bB)(g:EG)(w':U7):Prop :=
 ∃ c,DK w' d { r with eg:=eS g.e.id r.eg,wl:=r.wl.filter fun b=>!(b==g.eb) } c/\Step qQ w.heap.size h c w w'
theorem RH{r:Raw}{q:UY->UW bB}(h:DK w d r q){g:EG}(Q:g∈r.eg)(hk:g.e.kind=3)(ac:0<=g.e.id/\g.e.id<=1000)(N:∀ b∈r.wl,∃ x∈r.eg,x.eb=b)(Y:r.wl.length<=1000):
  Va prog 150 #[.pointer (U4 ⟨d,0,U3⟩),.pointer (U4 ⟨g.eb,0,U3⟩)] w fun e w'=>e=.returned (.tuple #[])/\Ik w d r q g w':=by
 have hX:U9 w.heap.size w (w.alloc (.cells #[.pointer (U4 ⟨g.eb,0,U3⟩)] 197)):=(zr _ _).alloc (zq _) _;have s:=h.later hX;have V:(w.alloc (.cells #[.pointer (U4 ⟨g.eb,0,U3⟩)] 197)).cell? ⟨w.heap.size,0,U3⟩=U4 (.pointer (U4 ⟨g.eb,0,U3⟩)):=UJ
 have K:w.heap.size<(w.alloc (.cells #[.pointer (U4 ⟨g.eb,0,U3⟩)] 197)).heap.size:=UJ
 have R:q w.heap.size=U3:=by
  cases e:q w.heap.size with
  |none=>rfl
  |some c=>have:=h.lt _ _ e;omega
 have H:=aC (zA hX (zA K R));clear h hX K R
 go_in
 go_upto_region 1 with fail
 generalize (w.alloc (.cells #[.pointer (U4 ⟨g.eb,0,U3⟩)] 197))=X at s V H ⊢;obtain⟨g1,g2,g3⟩:=s.en g Q;obtain⟨m,f,a1,a2,a3,a4⟩:=s.me;have c0:=g1.en.c0;have ab:(g.e.kind != 3)=U5:=by simpa using hk
 have kk:=xM (n:=g.e.id) UI UI;obtain⟨w1,P,p1,p2⟩:=(a3.block (w':=X.drew) rfl).lN xC underlying138 kk 0;have t:=s.later (dM X);have DD:=aC (t.uM a1 a2 a4 g.e.id p1 p2);have EC:Hid (∀ x∈r.eg,q x.eb=U4 .ent):=fun x s=>(t.en x s).2.1
 have I:Hid (∀ x∈r.eg,gR w1 x):=(fun x s=>DD.y.2.uE (t.en x s).1 (.inl ⟨_,(t.en x s).2.1,by simp⟩) (.inl ⟨_,(t.en x s).2.2,by simp⟩));have ae:=(I.y g Q).k;have J:w1.cell? ⟨w.heap.size,0,U3⟩=U4 (.pointer (U4 ⟨g.eb,0,U3⟩)):=(zo (w:=X) (DD.y.2.bV H.y.2.1 H.y.2.2 H.y.2.1)).trans V;clear s t a3 p1 p2 a4
 go_big_region
 clear P V a1 c0;have aa:w.heap.size<w1.heap.size:=Vh _ _ J;have C:=aC (zA H.y.2.2 aa);have XB:=aC H.y.1;clear g1 g2 g3 H kk a2;obtain⟨v,c4,own,A⟩:=DD.y.1.wa;have f4:=DD.y.1.fz 4;have E:w.heap.size ∉ v.ownBlock.toList:=fun e=>by have:=A _ (WI.1 e);rw[C.y.1] at this;cases this
 have O:d ∉ v.ownBlock.toList:=fun e=>by have:=A _ (WI.1 e);rw[DD.y.1.dc] at this;cases this
 have D:∀ x∈r.eg,x.eb ∉ v.ownBlock.toList:=fun x s e=>by
  have h1:=A _ (WI.1 e);have h2:=EC.y x s;rw[h2] at h1;cases h1
 have DL:=aC (C6 (.inr ⟨rfl,w.heap.size,rfl⟩) r.wl (fun b=>b==g.eb) v w1 (fun wx k b hb=>by
  obtain⟨x,s,rfl⟩:=N b hb
  have b1:∃ cs,wx.heap[g.eb]?=U4 (.cells cs 200 (0,0)):=by
   obtain⟨cs,e⟩:=(I.y g Q).bl;exact⟨cs,(k.block _ (I.y g Q).lt (D g Q)).trans e⟩
  have b2:∃ cs,wx.heap[x.eb]?=U4 (.cells cs 200 (0,0)):=by
   obtain⟨cs,e⟩:=(I.y x s).bl;exact⟨cs,(k.block _ (I.y x s).lt (D x s)).trans e⟩
  exact RF w.heap.size g.eb x.eb wx (k.cell E J) b1 b2) own Y)
 have U:=aC (zA A (zA E O));clear own A E O D N
 go_wp2_with fail
 refine DL.y.mono ?_;rintro e w2 ⟨v',rfl,T,W,k3⟩
 obtain⟨va,vn,vc,rfl⟩:∃ a n cap,v'=.slice a n cap:=by
  rcases W.2 with ⟨e,_⟩|⟨_,_,_,e,_⟩
  ·exact⟨_,_,_,e⟩
  ·exact⟨_,_,_,e⟩
 have af:=T.cell U.y.2.2 c4;have ad:=(T.frozen (o:=4) U.y.2.2 (Vh _ _ c4)).trans f4;have SW:=aC (DD.y.1.jg U.y.1 T W (fun b hb=>.inl (by rw[<- k3];exact hb)));clear T W k3 DL c4 f4 I
 have HF:Hid (Ik w d r q g (w2.setCell ⟨d,4,U3⟩ (.slice va vn vc))):=by
  have t0:Step qQ w.heap.size q q w X:=Step.below XB.y;have t1:Step qQ w.heap.size q q w w1:=t0.trans ((Step.below (dM X)).trans (DD.y.2.mono (fun c Z=>.inl Z) t0.size));obtain⟨S,q1,q2⟩:=SW.y;exact⟨S,q1,t1.trans (q2.mono (fun c Z=>by rcases Z with e|e;exact .inr (.inl e);exact .inr (.inr (.inl e))) t1.size)⟩
 clear DD SW U C XB
 go_wp2
 go_end0
 exact⟨rfl,HF.y⟩
open aA (aM St dB kept dZ cS cN gC cA bW gJ Inv)
def iX(c:UV EG)(id:UZ):UY:=(gv c id).getD 0
theorem Bl{c:UV EG}(h:(c.map (·.e.id)).Nodup){g:EG}(m:g∈c):iX c g.e.id=g.eb:=by unfold iX;rw[Hv h m];rfl
structure Of(s:St)(r:Raw):Prop where
 now:r.now=s.now
 given:r.given=s.given
 ts:r.tg.map (fun t=>(t.name,t.aH))=s.ts
 es:r.eg.map (·.e)=s.es
 th:∀ (i:UY) (h:i<r.tg.length),r.tg[i].A=cN r.tg[i].name s.es/\gC r.tg[i].name s.es (iX r.eg) r.tg[i].T
 tb:∀ g∈r.eg,∃ (i:UY) (h:i<r.tg.length),r.tg[i].name=g.e.aT/\g.tb=r.tg[i].tb
def Wl(r:Raw):Prop:=r.wl=(r.eg.filter fun g=>g.e.kind==3).map (·.eb)
def kM(g:EG):Hp.Hi:=⟨g.e.bY,g.e.id,g.eb⟩
def Hl(r:Raw):Prop:=Hp.gH r.hl/\r.hl.Perm ((r.eg.filter fun g=>g.e.kind != 1).map kM)
theorem Of.mem{s:St}{r:Raw}(h:Of s r){g:EG}(c:g∈r.eg):g.e∈s.es:=by rw[<- h.es];exact V9.2 ⟨g,c,rfl⟩
theorem Of.get{s:St}{r:Raw}(h:Of s r)(c:e∈s.es):∃ g∈r.eg,g.e=e:=by rw[<- h.es] at c;exact V9.1 c
theorem Of.len{s:St}{r:Raw}(h:Of s r):r.tg.length=s.ts.length:=by rw[<- h.ts];simp
theorem Of.jS{s:St}{r:Raw}(h:Of s r)(c:i<r.tg.length):s.ts[i]'(by rw[<- h.len];exact c)=(r.tg[i].name,r.tg[i].aH):=by
 have e:(r.tg.map fun t=>(t.name,t.aH))[i]'(by simpa using c)=(r.tg[i].name,r.tg[i].aH):=UJ
 rw[<- e]
 congr 1
 exact h.ts.symm
theorem B7(h:ts.Pairwise fun t u=>bW t.1 u.1=U5):∀ {i:UY}(g:i<ts.length),aA.bJ ts[i].1 ts=ts[i].2:=by
 induction ts with
 |nil=>intro i g;simp at g
 |cons t ts ih =>
  intro i g;rw[VE] at h
  cases i with
  |zero=>simp[aA.bJ,aA.qV]
  |succ i =>
   have c:i<ts.length:=by simpa using g
   have:=h.1 ts[i] (zg c);simp only[List.getElem_cons_succ,aA.bJ,this];exact ih h.2 c
theorem vU(h:∀ t∈ts,t.1≠name):aA.bJ name ts=0:=by
 induction ts with
 |nil=>rfl
 |cons t ts ih =>
  have c:bW t.1 name=U5:=pQ.2 (h t UJ);simp only[aA.bJ,c];exact ih (fun t ht=>h t (by simp[ht]))
theorem Of.names{s:St}{r:Raw}(h:Of s r)(C:s.ts.Pairwise fun t u=>bW t.1 u.1=U5)(A:i<r.tg.length)(q:j<r.tg.length)(e:r.tg[i].name=r.tg[j].name):i=j:=by
 have c:∀ {a b:UY}(o:a<r.tg.length) (g:b<r.tg.length),a<b->r.tg[a].name≠r.tg[b].name:=by
  intro a b o g m;have:=XM.1 C a b (by rw[<- h.len];exact o) (by rw[<- h.len];exact g) m;rw[h.jS o,h.jS g] at this;exact pQ.1 this
 by_cases E:i<j
 ·exact U2 e (c A q E)
 ·by_cases D:j<i
  ·exact U2 e.symm (c q A D)
  ·omega
theorem Cq(h:gJ L):(L.map (·.1)).Nodup:=by
 unfold gJ at h;rw[List.nodup_iff_pairwise_ne,XJ];exact h.imp (fun c=>by omega)
theorem Hb{at_:UZ->UY}{T:aE.S}{eb:UY}(h:gC name es at_ T)(A:gJ L)(g:∀ e∈es,cA name e=U6->e.id≠id)
  (t:∀ z:aE.It,(∃ e∈es',cA name e=U6/\∃ s∈e.aL,z=⟨s.1,s.2,e.id,at' e.id⟩)↔(∃ e∈es,cA name e=U6/\∃ s∈e.aL,z=⟨s.1,s.2,e.id,at_ e.id⟩)\/∃ s∈L,z=jG id eb s):
  gC name es' at' (gn id eb T L)/\(∀ z∈aE.bS T,z.n=id->∀ s∈L,z.f≠s.1):=by
 have c:∀ z∈aE.bS T,z.n=id->∀ s∈L,z.f≠s.1:=by
  intro z q e;obtain⟨x,r,C,s,_,rfl⟩:=(h.2 z).1 q;exact U2 e (g x r C)
 obtain⟨o,_,m,_⟩:=Bc id eb L T h.1 c (Cq A);exact⟨⟨o,fun z=>by rw[m,h.2];exact (t z).symm⟩,c⟩
theorem Rw{at_:UZ->UY}{T:aE.S}{e0:aM}(h:gC name es at_ T)(q:dB es)(E:e0∈es)(m:∀ e∈es,e.id≠e0.id->at' e.id=at_ e.id):
  gC name (kept e0.id es) at' (jx e0.id T e0.aL):=by
 obtain⟨C,A,_⟩:=Bp e0.id e0.aL T h.1;refine⟨C,fun z=>?_⟩;rw[A,Xq,h.2];constructor
 ·rintro ⟨⟨e,g,r,s,o,rfl⟩,D⟩
  have c:e.id≠e0.id:=by
   intro H;have:e=e0:=q.one g E H;subst this;have:=Xy.1 D s o;simp[aE.mX] at this
  exact⟨e,aA.sH.2 ⟨g,c⟩,r,s,o,by rw[m e g c]⟩
 ·rintro ⟨e,g,r,s,o,rfl⟩;obtain⟨g,c⟩:=aA.sH.1 g;refine⟨⟨e,g,r,s,o,by rw[m e g c]⟩,?_⟩;rw[Xy];intro t _;simp[aE.mX,c]
theorem vO{at_:UZ->UY}{T:aE.S}(h:gC name es at_ T)(r:∀ e,cA name e=U6->(e∈es'↔e∈es))(m:∀ e∈es,cA name e=U6->at' e.id=at_ e.id):gC name es' at' T:=by
 refine⟨h.1,fun z=>?_⟩;rw[h.2];constructor
 ·rintro ⟨e,o,c,s,q,rfl⟩;exact⟨e,(r e c).2 o,c,s,q,by rw[m e o c]⟩
 ·rintro ⟨e,o,c,s,q,rfl⟩;have g:=(r e c).1 o;exact⟨e,g,c,s,q,by rw[m e g c]⟩
theorem Of.turn{s:St}{r:Raw}(h:Of s r)(N:s.ts.Pairwise fun t u=>bW t.1 u.1=U5)(E:i<r.tg.length){c:UV EG}{q:UV UX->UZ}{T':aE.S}(P:c.map (·.e)=es')(V:q=cN r.tg[i].name es')(U:gC r.tg[i].name es' (iX c) T')
  (R:∀ (name:UU) (T:aE.S),name≠r.tg[i].name->cN name es'=cN name s.es/\(gC name s.es (iX r.eg) T->gC name es' (iX c) T)) (Q:∀ g∈c,∃ (i:UY) (h:i<r.tg.length),r.tg[i].name=g.e.aT/\g.tb=r.tg[i].tb):
  Of { s with es:=es' } ({ r with eg:=c }.cW i (r.tg[i].with q T')):=by
 have m:({ r with eg:=c }.cW i (r.tg[i].with q T')).tg.length=r.tg.length:=by simp[Raw.cW]
 have o:∀ (j:UY) (A:j<r.tg.length),(({ r with eg:=c }.cW i (r.tg[i].with q T')).tg[j]'(by rw[m];exact A)).name=r.tg[j].name/\(({ r with eg:=c }.cW i (r.tg[i].with q T')).tg[j]'(by rw[m];exact A)).tb=r.tg[j].tb:=by
  intro j A
  by_cases e:i=j
  ·subst e;simp[Raw.cW,TG.with]
  ·simp[Raw.cW,e]
 refine⟨h.now,h.given,?_,P,fun j A=>?_,fun g O=>?_⟩
 ·rw[<- h.ts];show (r.tg.set i (r.tg[i].with q T')).map _=_;rw[XY];have:((r.tg[i].with q T').name,(r.tg[i].with q T').aH)=(r.tg.map fun t=>(t.name,t.aH))[i]'(by simpa using E):=by simp[TG.with]
  rw[this,XZ]
 ·have C:j<r.tg.length:=by rw[<- m];exact A
  by_cases e:i=j
  ·subst e;have D:({ r with eg:=c }.cW i (r.tg[i].with q T')).tg[i]=r.tg[i].with q T':=by simp[Raw.cW]
   rw[D];exact⟨V,U⟩
  ·have D:({ r with eg:=c }.cW i (r.tg[i].with q T')).tg[j]=r.tg[j]:=by simp[Raw.cW,e]
   rw[D];obtain⟨K,J⟩:=R r.tg[j].name r.tg[j].T (fun W=>e (h.names N E C W.symm));obtain⟨I,H⟩:=h.th j C;exact⟨I.trans K.symm,J H⟩
 ·obtain⟨j,A,X,D⟩:=Q g O;exact⟨j,by rw[m];exact A,(o j A).1.trans X,D.trans (o j A).2.symm⟩
end Go.Proofs.YtfigmlfdnickmaaGreatDoor
