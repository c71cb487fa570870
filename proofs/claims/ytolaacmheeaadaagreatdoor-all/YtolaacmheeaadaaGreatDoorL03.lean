import Derived.Test.YtolaacmheeaadaaGreatDoorL02
import Derived.Lib.FieldsP
import Derived.Lib.SplitLaws
set_option maxRecDepth 100000
set_option maxHeartbeats 8000000
open Go.Proofs.Tryz
open _root_ renaming ByteArray->Xm,List->Xn,Option->Xo,Bool->Xp,Nat->Xq,Int->Xr,if_neg->Xs,if_pos->Xt,absurd->Xu,Int->N,Nat->M,List->J
open Option renaming none->Xv,some->Xw,mem_toList->Zl,getD_some->ZG,getD_none->ZL,none->Z,some->U
open Bool renaming false->Xx,true->Xy,and_eq_true->Zr,eq_iff_iff->Zv,false_eq_true->X4
open Go renaming World->Xz,Value->XA,Calls->XD,TypeId->XF
open Go.RowKit renaming Below->XC
open Go.World renaming cell?_setCell_same->Yb,block_lt_of_cell?->XV,news_of_block->Ze,frozen?_of_block->Zj,size_alloc->Zm,cell?->Yh
open Nat renaming lt_of_lt_of_le->YM,le_trans->XU,zero_le->YJ,add_zero->ZI,le_refl->XS
open Go.Value renaming ownBlock->Y9,int->XG,pointer->XH,slice->XI,string->XJ,int->V
open List renaming mem_cons->X7,mem_append->X8,mem_cons_of_mem->Zk,flatMap_append->YV,length_append->Yx,drop_eq_getElem_cons->Zg,drop_eq_nil_of_le->Zh,take_succ_eq_append_getElem->YI,take_of_length_le->YK,foldl_cons->Zs,length_cons->Yy,getD_eq_getElem?_getD->Zt,getElem?_eq_getElem->Zu,all_eq_true->Zx,mem_iff_getElem?->Zy,getElem?_drop->Zz,getElem?_take->ZA,isPrefixOf->ZC,length_map->Zd,pairwise_cons->Yk,pairwise_append->ZT,mem_filter->ZW,filter_eq_self->ZX,filter_cons->Ym,any_eq_true->ZY,foldl_append->ZZ,cons_append->Yj,append_assoc->Y8,mem_map->YN,length_take_le->YR,map_append->YS,countP_eq_length_filter->Z4,countP->Z5,countP_mono_left->Z6,exists_mem_of_length_pos->Z8,flatMap_cons->YU,length_take_of_le->YW,getElem?_append_right->YX,getElem?_append_left->YT
open And renaming intro->Yc
open Option.some renaming inj->Zn
open Go.Maps renaming size->Zo,has->Zp
open Go.WideAt renaming IsKeyLit->Zq
open Go.Lib renaming cut->Zw,occAt->ZB,index->ZD,closeSpans->ZF,spansFromP->ZK,goFieldsP->ZM,splitK->ZP
open Int renaming eq_ofNat_of_zero_le->ZE,le_refl->ZQ,sub_emod_right->ZR,emod_eq_of_lt->ZS,mul_le_mul_of_nonneg_right->Z7,mul_nonneg->YF
open Go.Utf8 renaming decode->ZH,runeError->ZJ
open ByteArray renaming size_extract->ZN
open List.cons renaming injEq->ZO
open Classical renaming byContradiction->ZU
open List.Pairwise renaming sublist->ZV,filter->Yn
open Go.IntKind renaming i64->XP,i64->Y
open Go.Ending renaming returned->XQ
open Go.Obj renaming cells->XR
variable{name s:Xm}{e z:Go.Proofs.YtolaacmheeaadaaGreatDoor.aA.aQ}{b fr given id level long m tq x y:Xr}{ts:Xn (Xm × Xr)}{L:Xn (Xr × Xr)}{es:Xn Go.Proofs.YtolaacmheeaadaaGreatDoor.aA.aQ}{acc fs:Xn Xr}{F:Xn Xq}{l:Xn UInt8}{cap d g i j n sz:Xq}{c0 c1 c2 c3 c4 c5 key v:Go.Value}{w w' w1:Go.World}
namespace Go.Proofs.YtolaacmheeaadaaGreatDoor
open Go.RowKit
def vx(w:Xz)(d:M)(ts:J (Xm × N))(f:J (aA.aQ × M × M))(given now:N)(F:J M)(w':Xz):Prop :=∃ c,RD w' d ts f given now c/\(∀ k∈c,k∈F\/w<=k)/\aH F w w'
theorem RD.pX{f:J (aA.aQ × M × M)}{now:N}(h:RD w d ts f given now F)(g:N):RD (w.setCell (d,2) g) d ts f g now F:=by
 let⟨v1,a1,a2,a3⟩:=h.tv;let⟨v2,b1,b2,b3⟩:=h.ev;have k:aH [d] w (w.setCell (d,2) g):=aH.bM ..;exact⟨⟨v1,(bC Xc).trans a1,dL a2 k (fun b p=>by grind),a3⟩,⟨v2,(bC Xc).trans b1,dL b2 k (fun b p=>by grind),b3⟩,Yb _ _ _ h.c2,(bC Xc).trans h.c3,fun o=>(zF ..).trans (h.fz o),h.dF,fun x c=>⟨(h.sp x c).1.off k (by simp;intro e;exact (h.sp x c).2.1 (e ▸ h.dF)),(h.sp x c).2.1,YM (h.sp x c).2.2 k.size⟩⟩
theorem fT{c e size:M}{p:J XA}(h:w.ownsRow c e size v n p){b:M}(f:v.ownBlock=U b):b<w:=by
 rcases h.2 with ⟨rfl,_⟩|⟨g,cap,r,rfl,_,k,_⟩
 .simp[Y9] at f
 .simp[Y9] at f;subst f
  by_cases q:g<w
  .exact q
  .rw[Array.getElem?_eq_none O] at k;cases k
theorem aH.grown{w'':Xz}{row:Xo M}(h:aH F w w')(g:w'.grownBy w'' row)(p:∀ k,row=U k->k∈F\/w<=k):aH F w w'' :=⟨g.os.trans h.os,g.tape.trans h.tape,g.output.trans h.output,XU h.size g.size,fun k c f=>(g.block k (zL c h.size) (fun e=>by grind)).trans (h.block k c f)⟩
theorem RD.nz{Y t:Xz}{c:J (aA.aQ × M × M)}{now:N}{x:aA.aQ × M × M}(h:RD Y d ts c given now F)(cv:Y.cell? (d,1)=U v)(ho:Y.ownsRow 0 85 6 v c.length (c.flatMap fg))(A:∀ k,v.ownBlock=U k->k∈F/\k≠d)(k:aH (v.ownBlock.toList) Y t)(I:t.ownsRow 0 85 6 (XI g (c.length+1) cap) (c.length+1) (c.flatMap fg++fg x))(hg:v.ownBlock=U g\/Y<=g)(W:iW Y x.2.1 x.1.aR)(G:x.2.1 ∉ F)(E:x.2.1<Y):RD (t.setCell (d,1) (XI g (c.length+1) cap)) d ts (c++[x]) given now (g :: F)/\aH (d :: v.ownBlock.toList) Y (t.setCell (d,1) (XI g (c.length+1) cap)):=by
 let⟨v1,a1,a2,a3⟩:=h.tv;have r:=XV _ _ h.c2;have r:d<Y:=r;have B:g≠d:=Xi;have q:d ∉ v.ownBlock.toList:=Xi;have H:∀ b,v1.ownBlock=U b->b ∉ d :: v.ownBlock.toList:=by
  intro b f e;rcases X7.1 e with e|e
  .exact (a3 b f).2 e
  .have e:v.ownBlock=U b:=Xi
   rcases ho.2 with ⟨rfl,_⟩|⟨g',T,ab,rfl,_,hh,_⟩
   .simp[Y9] at e
   .simp[Y9] at e;subst e;exact ki a2 hh Xd f
 have K:∀ y,y ∉ F->y ∉ d :: v.ownBlock.toList:=by
  intro y p e;rcases X7.1 e with rfl|e
  .exact p h.dF
  .exact p (A y Xi).1
 have C:aH (d :: v.ownBlock.toList) Y (t.setCell (d,1) (XI g (c.length+1) cap)):=(k.mono Xi).setCell (.inl Xc) _ _;have D:∀ y∈c++[x],iW Y y.2.1 y.1.aR/\y.2.1 ∉ F/\y.2.1<Y:=by
  intro y p;rcases X8.1 p with p|p
  .exact h.sp y p
  .have:y=x:=Xi
   subst this;exact⟨W,G,E⟩
 have R:∀ o u,Y.cell? (d,o)=U u->o≠1->(t.setCell (d,1) (XI g (c.length+1) cap)).cell? (d,o)=U u:=by intro o u X aa;exact (bC Xc).trans (k.cell q X)
 refine⟨⟨⟨v1,R 0 _ a1 O,dL a2 C H,fun b f=>⟨Zk _ (a3 b f).1,(a3 b f).2⟩⟩,⟨_,Yb _ _ _ (k.cell q cv),?_,?_⟩,R 2 _ h.c2 O,R 3 _ h.c3 O,fun o=>(zF ..).trans ((k.frozen q r).trans (h.fz o)),Zk _ h.dF,?_⟩,C⟩
 .rw[YV,Yx];have e1:([x].flatMap fg)=fg x:=Xc
  rw[e1];exact dL I (aH.bM ..) (fun b f=>by simp[Y9] at f;subst f;simpa using B)
 .intro b f;simp[Y9] at f;subst f;exact⟨by simp,B⟩
 .intro y p;let⟨y1,y2,y3⟩:=D y p;refine⟨y1.off C (K _ y2),fun e=>?_,YM y3 C.size⟩;rcases X7.1 e with e|e
  .rcases hg with S|S
   .exact y2 (e ▸ (A g S).1)
   .omega
  .exact y2 e
theorem UJ:(prog.info? 278).map (fun i=>(i.zero,i.size,i.bytes))=U (U (.agg #[V Y 0,V Y 0,XH Z]),3,24):=Xg
theorem UH(d o:M)(v:XA)(l:J Hp.Hi)(x:Hp.Hi)(w:Xz)(h:HP w d o v l)(hh:Hp.iP l)(hl:l.length<=900):XD prog 185 #[XH (U ⟨d,o,Z⟩),V Y x.t,V Y x.n,XH (U ⟨x.v,0,Z⟩)] w fun e w'=>e=XQ (.tuple #[])/\∃ p,nD w d o v p w'/\Hp.iP p/\p.Perm (l++[x]):=by
 obtain⟨i0,S,K,I,G⟩:=info_parts UJ;have c:=h.c;have fd:=h.fz;have H:=aB h;go_in;have A:d<w.heap.size:=XV _ _ c;have r:d ∉ v.ownBlock.toList:=by intro e;exact H.out.ne (by simpa using e)
 go_wp2_with (first
  |(at_builtin;refine wpList_append_lies _ rfl _ _ 89 rfl 0 278 i0 _ 3 24 underlying89 S K I G rfl Xd _ _ _ rfl (H.out.own.alloc _) ⟨w.heap.size,0,Z⟩ 1 1 (kr x) rfl rfl (Ze (cs:=(kr x).toArray) (dH w _)) (by simp[kr,Value.oneCell']) O Xj O Xc (w.heap.size+1) Xc ?_;intro g cap w1 C f D aa;have E:aH (v.ownBlock.toList) w w1:=aH.grown ((aH.refl _ w).alloc _) f (fun k R=>.inl (Zl.2 R));have z1:=E.cell r c;have z2:=(E.frozen (o:=o) r A).trans fd;clear f))
 have q:d≠g:=by
  rcases D with e|e
  .rintro rfl;exact H.out.ne e
  .omega
 have hz:HP (w1.setCell ⟨d,o,Z⟩ (XI (U ⟨g,0,Z⟩) (l.length+1) cap)) d o (XI (U ⟨g,0,Z⟩) (l++[x]).length cap) (l++[x]):=by have el:(l++[x]).length=l.length+1:=Xc;rw[el];refine⟨zm _ _ _ z1,?_,fun e=>q (by simpa[Y9] using e.symm),(zF ..).trans z2⟩;rw[el,YV];have e2:[x].flatMap kr=kr x:=Xc;rw[e2];exact dL C (aH.bM d _ o _) (fun b T=>by simp;rintro rfl;exact q (by simpa[Y9] using T.symm))
 have RS:=aB (Kc d o g cap (l++[x]) l.length _ hz Xc (Hp.UV hh) Xh);have u:=aB (Yc E D);refine RS.out.mono ?_;rintro e w5 ⟨rfl,p,B,X⟩;have HF:Hid (∃ p,nD w d o v p w5/\Hp.iP p/\p.Perm (l++[x])):=by
  refine⟨p,⟨_,B.hp,fun b T=>?_,?_,fun o' ho=>?_,fun o'=>?_⟩,X,B.perm⟩
  .have:g=b:=by simpa[Y9] using T
   subst this;rcases u.out.2 with e|e
   .exact .inl e
   .exact .inr O
  .refine ((u.out.1.mono (by simp +contextual)).setCell (.inl Xc) o _).trans' B.off (fun k R=>?_);have:k=g:=by simpa using R
   subst this;rcases u.out.2 with e|e
   .exact .inl (Zk _ (Zl.2 e))
   .exact .inr O
  .have W:=B.off.block d (by have:=u.out.1.size;simp;omega) (by simpa using q);exact (zo W).trans ((zS _ _ _ _ (by have:=ho;simp)).trans (zo (u.out.1.block d A r)))
  .have W:=B.off.block d (by have:=u.out.1.size;simp;omega) (by simpa using q);exact (Zj W).trans ((zF ..).trans (Zj (u.out.1.block d A r)))
 clear RS u B X;go_wp2;go_end0;exact⟨rfl,HF.out⟩
def gn{α:Type}(p:α->Xp):J α->N->N
 |[],_=>-1
 |x :: r,i=>if p x then i else gn p r (i+1)
theorem yE{α:Type}(p:α->Xp):∀ (l:J α)(i:N),(gn p l i=-1/\∀ x∈l,p x=Xx)\/∃ (k:M)(h:k<l.length),gn p l i=i+k/\p l[k]=Xy/\∀ (j:M)(q:j<k),p (l[j]'Xb)=Xx
 |[],i=>.inl ⟨rfl,fun x B=>by grind⟩
 |x :: r,i=>by
  cases c:p x
  .rcases yE p r (i+1) with ⟨f,u⟩|⟨k,h,f,u,t⟩
   .exact .inl ⟨by simp[gn,c,f],fun y A=>by grind⟩
   .refine .inr ⟨k+1,by grind,by simp[gn,c,f];omega,by grind,fun j q=>?_⟩
    cases j with
    |zero=>simpa using c
    |succ j=>simpa using t j O
  .exact .inr ⟨0,by simp,by simp[gn,c],by simpa using c,fun j q=>by omega⟩
theorem TP{α:Type}(p:α->Xp)(l:J α):-1<=gn p l 0/\gn p l 0<l.length:=by grind[yE,gn]
theorem nD.from{w2:Xz}{o:M}{f:J Hp.Hi}(h:nD w1 d o v f w2)(k:XC w w w1)(p:d<w):nD w d o v f w2:=by let⟨v',h1,h2,h3,h4,h5⟩:=h;refine⟨v',h1,fun b r=>(h2 b r).imp id (fun e=>XU k.size e),(aH.aD k).trans h3,fun c q=>(h4 c q).trans (zo (k.block d p)),fun c=>(h5 c).trans (Zj (k.block d p))⟩
theorem VU(x:Hp.Hi)(t n:N)(A B:M)(w:Xz)(h:w.cell? (A,0)=U ↑t)(cb:w.cell? (B,0)=U ↑n):XD prog 189 #[.agg #[x.t,V Y x.n,x.v],A,B] w fun e w'=>e=XQ (jL x t n==0)/\XC w w w':=by
 have q:=aB (fun w'=>MF x t n w');have c:XC w w (w.alloc (XR #[x.t,V Y x.n,x.v] 278)):=aS;have u:=aT c h;have r:=aT c cb;have k:=aB c;go_in;go_wp21;refine aK (q _) fun w1 f=>?_;have p:=aB (bU k f aJ);go_wp21;go_ret;exact⟨rfl,p⟩
theorem b1U(l:J Hp.Hi)(t n:N)(v:XA)(A B:M)(w:Xz)(own:w.ownsRow 0 278 3 v l.length (l.flatMap kr))(ca:w.cell? (A,0)=U ↑t)(cb:w.cell? (B,0)=U ↑n)(hl:l.length<=1000):XD prog 188 #[v,.func (.func 189) #[] #[A,B]] w fun e w'=>e=XQ (V Y (gn (fun x=>jL x t n==0) l 0))/\XC w w w':=by
 have X:∃ a cap,v=XI a l.length cap:=by
  rcases own.2 with ⟨rfl,h⟩|⟨g,cap,_,rfl,_⟩
  .rw[h];exact⟨_,_,rfl⟩
  .exact⟨_,_,rfl⟩
 obtain⟨a,cap,rfl⟩:=X;have u:=aB (Yc ca cb);have q:=aB own;go_in;go_wp21;go_loopw [8] (fun i wx=>∃ k:M,k<=l.length/\i=V Y k/\gn (fun x=>jL x t n==0) l 0=gn (fun x=>jL x t n==0) (l.drop k) k/\XC w w wx) (fun i _=>l.length-(intOf i).toNat)
 .exact⟨0,YJ _,rfl,rfl,Below.refl _ _⟩
 .obtain⟨k,hk,rfl,R,p⟩:=hrel;have G:=aB R;have K:=aB p
  by_cases f:k<l.length
  .have hi:(k:N)<(l.length:N):=O
   obtain⟨H,T,S⟩:=Joins.ownsRow_form q O;simp only[Value.slice.injEq,true_and] at S;obtain⟨rfl,rfl⟩:=S;have c:=fH q p;have a0:=(c.cellAt (k*3) O).trans (wH f (j:=0) O);have a1:=(c.cellAt (k*3+1) O).trans (wH f (j:=1) O);have a2:=(c.cellAt (k*3+2) O).trans (wH f (j:=2) O);simp only[kr,List.getElem?_cons_zero,List.getElem?_cons_succ] at a0 a1 a2;have D:=aB (VU l[k] t n A B wr (aT p u.1) (aT p u.2));have ed:gn (fun x=>jL x t n==0) (l.drop k) k=if jL l[k] t n==0 then (k:N) else gn (fun x=>jL x t n==0) (l.drop (k+1)) ((k+1:M):N):=by rw[Zg f];rfl
   have W:=aB ed
   cases C:(jL l[k] t n==0)
   .have r:Hid (gn (fun x=>jL x t n==0) l 0=gn (fun x=>jL x t n==0) (l.drop (k+1)) ((k+1:M):N)):=by show _=_;rw[G,W,C];rfl
    rw[C] at D;go_wp21;refine D.mono ?_;rintro e w1 ⟨rfl,E⟩;have I:=aB (bU K E aJ);go_wp21;go_roundw
    .exact⟨k+1,O,by go_num,r,I⟩
    .simp[intOf];omega
   .have r:Hid (gn (fun x=>jL x t n==0) l 0=k):=by show _=_;rw[G,W,C];rfl
    rw[C] at D;go_wp21;refine D.mono ?_;rintro e w1 ⟨rfl,E⟩;have I:=aB (bU K E aJ);go_wp21;go_ret;exact⟨jy r.symm,I⟩
  .have hi:¬ (k:N)<(l.length:N):=O
   have e:l.drop k=[]:=Zh O;have r:Hid (gn (fun x=>jL x t n==0) l 0=-1):=by show _=_;rw[G,e];rfl
   clear R p e;go_wp21;go_ret;exact⟨jy r.symm,K⟩
theorem V5(d o:M)(v:XA)(l:J Hp.Hi)(t n:N)(w:Xz)(h:HP w d o v l)(hh:Hp.iP l)(hl:l.length<=1000):
  XD prog 154 #[XH (U ⟨d,o,Z⟩),t,n] w fun e w'=>e=XQ (.tuple #[]) /\(((∀ x∈l,¬ (x.t=t/\x.n=n))/\XC w w w')\/∃ (x:Hp.Hi) (f:J Hp.Hi),x.t=t/\x.n=n/\nD w d o v f w'/\Hp.iP f/\l.Perm (x :: f)):=by
 have D:XC w w ((w.alloc (XR #[t] 3)).alloc (XR #[n] 3)):=aS.alloc Xc _;have p:=h.later D;have c:=p.c;have K:((w.alloc (XR #[t] 3)).alloc (XR #[n] 3)).cell? (w,0)=U ↑t:=Xc;have I:((w.alloc (XR #[t] 3)).alloc (XR #[n] 3)).cell? (w.heap.size+1,0)=U ↑n:=by have:=dH (w.alloc (XR #[t] 3)) (XR #[n] 3);rw[Zm] at this;simp only[Yh,this];rfl
 have IX:=aB (b1U l t n v w (w.heap.size+1) _ p.own K I hl);have E:=aB (Yc D p);have C:=XV _ _ h.c;have bd:=TP (fun x=>jL x t n==0) l;have W:=yE (fun x=>jL x t n==0) l 0;clear D p K I h;generalize gn (fun x=>jL x t n==0) l 0=q at *;have u:=aB W;clear W;go_in;go_wp21;generalize ((w.alloc (XR #[t] 3)).alloc (XR #[n] 3))=X at *;refine IX.mono ?_;rintro e w1 ⟨rfl,A⟩;have H:=aB (Yc (bU E.1 A aJ) (E.2.later A));clear A IX c E;by_cases h0:0<=q
 .obtain⟨k,B,e1,r,e3⟩:∃ (k:M) (h:k<l.length),q=k/\(jL l[k] t n==0)=Xy/\True:=by
   rcases u with ⟨h,_⟩|⟨k,h,e,r,_⟩
   .omega
   .exact⟨k,h,O,r,trivial⟩
  subst e1;have RM:=aB (LR d o v l k w1 H.2 hh B hl);have HE:=aB r;clear r e3 u;go_wp21;refine RM.mono ?_;rintro e w2 ⟨rfl,f,T,S,R⟩;have G:Hid (∃ (x:Hp.Hi) (f:J Hp.Hi),x.t=t/\x.n=n/\nD w d o v f w2/\Hp.iP f/\l.Perm (x :: f)):=by have r:jL l[k] t n=0:=bV HE.out;obtain⟨q1,q2⟩:=(KU _ _ _).1 r;refine⟨Hp.at_ l k,f,by rw[Hp.pP B];exact q1,by rw[Hp.pP B];exact q2,T.from H.1 C,S,R⟩
  clear T S R RM;go_wp21;go_end0;exact⟨rfl,.inr G⟩
 .have G:Hid (∀ x∈l,¬ (x.t=t/\x.n=n)):=by
   rcases u with ⟨_,h⟩|⟨k,h,e,_⟩
   .intro x p e;have:=h x p;have e0:=(KU x t n).2 e;simp[e0] at this
   .omega
  clear u;go_wp21;go_end0;exact⟨rfl,.inl ⟨G,H.1⟩⟩
open Go Go.Maps
def Aq(o:Xo M):XA:=XH (o.map fun b=>(b,0))
def lN(o:Xo M):DataW Unit:=.lit (.int Y (match o with|none=>-1|some b=>(b:N)))
def sw:XA->Xo (DataW Unit × J MemPlace)
 |.pointer Z=>U (lN Z,[])
 |.pointer (U ⟨b,0,Z⟩)=>U (lN (U b),[])
 |_=>Z
theorem Uj(o:Xo M):sw (Aq o)=U (lN o,[]):=by cases o <;> rfl
theorem Ka{a b:Xo M}(h:lN a=lN b):a=b:=by
 unfold lN at h
 cases a <;> cases b <;> simp at h ⊢ <;> omega
theorem Vs{o:Xo M}{c:J MemPlace}(h:sw v=U (lN o,c)):v=Aq o:=by
 unfold sw at h;split at h
 .have e:lN Z=lN o:=congrArg Prod.fst (Zn h);have:=Ka e;subst this;rfl
 .rename_i b
  have e:lN (U b)=lN o:=congrArg Prod.fst (Zn h);have:=Ka e;subst this;rfl
 .cases h
noncomputable def nG(f:Lit->Xo M)(c:Lit)(o:Xo M)(x:Lit):Xo M:=@ite _ (x=c) (Classical.propDecidable _) o (f x)
theorem vk(f:Lit->Xo M)(c:Lit)(o:Xo M):nG f c o c=o:=Xt rfl
theorem vp(f:Lit->Xo M){c x:Lit}(o:Xo M)(h:x≠c):nG f c o x=f x:=Xs h
def gO(P:Program)(k:XF)(w:Xz)(b n:M)(f:Lit->Xo M)(sz:M):Prop :=∃ D,w.ownsMap P k sw b n D/\Zo D=sz/\(∀ c,D.atKey c (lN Z)=lN (f c))/\∀ c,Zp D c=(f c).isSome
theorem gO.block{P:Program}{k:XF}{b:M}{f:Lit->Xo M}(h:gO P k w b n f sz)(c:w'.heap[b]?=w.heap[b]?):gO P k w' b n f sz:=by let⟨D,⟨es,clock,h1,h2⟩,h3⟩:=h;exact⟨D,⟨es,clock,c.trans h1,h2⟩,h3⟩
theorem gO.tight{P:Program}{k:XF}{b:M}{f:Lit->Xo M}(h:gO P k w b n f sz):gO P k w b sz f sz:=by let⟨D,⟨es,clock,h1,h2,h3,h4⟩,h5,h6⟩:=h;refine⟨D,⟨es,clock,h1,h2,?_,h4⟩,h5,h6⟩;rw[<- h5,h4,Maps.size_eq,length_sorted];simp
theorem gO.made(P:Program)(k:XF)(w:Xz):gO P k (w.alloc (.map #[] 0)) w 0 (fun _=>Z) 0 :=⟨.map [],World.ownsMap_made w P k sw,rfl,fun _=>rfl,fun _=>rfl⟩
theorem gO.look{P:Program}{k e t:XF}{b:M}{f:Lit->Xo M}(h:gO P k w b n f sz)(K:Keyed P k)(ht:P.underlying t=U (.map k e))(q:(zeroValue e).run P w=.ok (XH Z) w){p:Lit}(c:keyOf P k key=U p):(Instr.lookup t (.map (U b)) key Xx).run P w=.ok (Aq (f p)) w:=by
 let⟨D,h1,_,h3,_⟩:=h;let⟨v,ps,hrun,hv⟩:=h1.lookup K ht q (zd:=lN Z) (zp:=[]) rfl c;rw[h3] at hv;rw[hrun,Vs hv]
theorem gO.len{P:Program}{k e t:XF}{b:M}{f:Lit->Xo M}(h:gO P k w b n f sz)(ht:P.underlying t=U (.map k e))(c:XF):(Builtin.len_ #[t] c #[.map (U b)]).run P w=.ok (V Y sz) w:=by let⟨D,h1,h2,_⟩:=h;rw[h1.len ht c,h2]
theorem gO.put{P:Program}{k:XF}{b:M}{f:Lit->Xo M}{D:DataW Unit}{q:Lit}{p:M}(K:Keyed P k)(w:Xz)(r:w.ownsMap P k sw b n D)(h:w'.ownsMap P k sw b (n+1) (D.put q (lN (U p))))(t:Zq q)(A:∀ q,D.atKey q (lN Z)=lN (f q))(u:∀ q,Zp D q=(f q).isSome):gO P k w' b (n+1) (nG f q (U p)) (if (f q).isSome then Zo D else Zo D+1):=by
 refine⟨_,h,?_,fun x=>?_,fun x=>?_⟩
 .rw[Maps.size_put (r.tidy K),u]
 .by_cases c:x=q
  .rw[c,vk,Maps.atKey_put_same r.isMap t]
  .rw[vp f _ c,Maps.atKey_put_other c,A]
 .by_cases c:x=q
  .rw[c,vk,Maps.has_put_same r.isMap t];rfl
  .rw[vp f _ c,Maps.has_put_other c,u]
theorem gO.del{P:Program}{k:XF}{b:M}{f:Lit->Xo M}{D:DataW Unit}{p:Lit}(K:Keyed P k)(w:Xz)(r:w.ownsMap P k sw b n D)(h:w'.ownsMap P k sw b n (D.del p))(t:∀ p,D.atKey p (lN Z)=lN (f p))(q:∀ p,Zp D p=(f p).isSome):gO P k w' b n (nG f p Z) (Zo D-if (f p).isSome then 1 else 0):=by
 refine⟨_,h,?_,fun x=>?_,fun x=>?_⟩
 .have:=Maps.size_del (k:=p) (r.tidy K);rw[q] at this;omega
 .by_cases c:x=p
  .rw[c,vk,Maps.atKey_del_same]
  .rw[vp f _ c,Maps.atKey_del_other c,t]
 .by_cases c:x=p
  .rw[c,vk,Maps.has_del_same];rfl
  .rw[vp f _ c,Maps.has_del_other c,q]
theorem gO.om{P:Program}{k e t:XF}{b:M}{f:Lit->Xo M}(h:gO P k w b n f sz)(K:Keyed P k)(ht:P.underlying t=U (.map k e)){p:Lit}(c:keyOf P k key=U p)(q:XF):∃ w',(Builtin.delete_ #[t,k] q #[.map (U b),key]).run P w=.ok (.tuple #[]) w'/\gO P k w' b n (nG f p Z) (sz-if (f p).isSome then 1 else 0)/\w.grownBy w' (U b):=by
 let⟨D,h1,h2,h3,h4⟩:=h;let⟨w',hrun,r1,r2⟩:=h1.drop K ht c q;refine⟨w',hrun,?_,r2.grown⟩;rw[<- h2];exact gO.del K w h1 r1 h3 h4
theorem gO.mG{P:Program}{k e t:XF}{b:M}{f:Lit->Xo M}(h:gO P k w b n f sz)(K:Keyed P k)(ht:P.underlying t=U (.map k e))(u:n<maxLen){r:Lit}(q:keyOf P k key=U r)(c:Zq r)(p:M):∃ w',(Instr.mapUpdate t (.map (U b)) key (Aq (U p))).run P w=.ok () w'/\gO P k w' b (n+1) (nG f r (U p)) (if (f r).isSome then sz else sz+1)/\w.grownBy w' (U b):=by
 let⟨D,h1,h2,h3,h4⟩:=h;let⟨w',hrun,r1,r2⟩:=h1.update K ht u q (Uj (U p));refine⟨w',hrun,?_,r2⟩;rw[<- h2];exact gO.put K w h1 r1 c h3 h4
section
variable {P:Program}(w:Xz) {ops:Array Oper}{rest:Xn Oper}{o:Oper}{a:Act}{Q:Exit->Act->Xz->Prop}
end
end Go.Proofs.YtolaacmheeaadaaGreatDoor
namespace Go.Proofs.YtolaacmheeaadaaGreatDoor.Cal
def ah(y:N):N:=(y-1)*365+(y-1) / 4-(y-1) / 100+(y-1) / 400
def ow(y:N):Xp:=y % 4==0 && (y % 100 != 0 || y % 400==0)
def lp(y:N):N:=if ow y then 1 else 0
def jO(m:N):N:=if m=2 then 28 else if m=4\/m=6\/m=9\/m=11 then 30 else 31
def jm(y m:N):N:=if m=2 then 28+lp y else jO m
def eh(y m:N):N :=if m<=1 then 0 else if m=2 then 31 else lp y+(if m=3 then 59 else if m=4 then 90 else if m=5 then 120 else if m=6 then 151 else if m=7 then 181 else if m=8 then 212 else if m=9 then 243 else if m=10 then 273 else if m=11 then 304 else if m=12 then 334 else 365)
def first:N:=-738885
def last:N:=2913173
def num(y m d:N):N:=first+ah y+eh y m+d-1
def ok(y m d:N):Xp:=decide (1<=y/\y<=9999/\1<=m/\m<=12/\1<=d/\d<=jm y m)
theorem tD(y:N):0<=lp y/\lp y<=1:=by unfold lp;split <;> omega
theorem Tj(y:N):lp y=1/\y % 4=0/\(y % 100≠0\/y % 400=0)\/lp y=0/\¬ (y % 4=0/\(y % 100≠0\/y % 400=0)):=by
 unfold lp
 cases h:ow y
 .right;refine⟨by simp,?_⟩;simp only[ow,Bool.and_eq_false_iff,Bool.or_eq_false_iff,beq_eq_false_iff_ne,bne_eq_false_iff_eq] at h;omega
 .left;refine⟨by simp,?_⟩;simp only[ow,Zr,Bool.or_eq_true,beq_iff_eq,bne_iff_ne] at h;exact h
theorem uJ(y:N)(_h:1<=y):ah (y+1)=ah y+365+lp y:=by rcases Tj y with ⟨e,c⟩|⟨e,c⟩ <;> rw[e] <;> unfold ah <;> omega
theorem uN(a b:N)(_h0:1<=a)(_h:a<=b):ah a<=ah b:=by unfold ah;omega
theorem Ay:ah 10000=3652059:=Xd
theorem b7s(g:N)(_h:0<=g):ah (g*400 / 146097+1)<=g:=by unfold ah;omega
theorem tz(y:N)(_h1:1<=y)(_h2:y<=10000):0<=ah y/\ah y<=3652059:=by unfold ah;omega
theorem TR(m:N):28<=jO m/\jO m<=31:=by unfold jO;(repeat' split) <;> omega
theorem pK(y m:N):28<=jm y m/\jm y m<=31:=by have:=tD y;have:=TR m;unfold jm;split <;> omega
theorem Ds(m:N)(f:1<=m)(c:m<=12):m=1\/m=2\/m=3\/m=4\/m=5\/m=6\/m=7\/m=8\/m=9\/m=10\/m=11\/m=12:=O
theorem rm(y:N):eh y 1=0:=by simp[eh]
theorem sF(y m:N)(f:1<=m)(c:m<=12):eh y (m+1)=eh y m+jm y m:=by rcases Ds m f c with h|h|h|h|h|h|h|h|h|h|h|h <;> subst h <;> simp[eh,jm,jO] <;> omega
theorem xX(y:N):eh y 13=365+lp y:=by simp[eh];omega
theorem Dw(y a:N)(k:M)(h:1<=a)(f:a+k<=13):eh y a<=eh y (a+k):=by
 induction k with
 |zero=>simp
 |succ k ih =>have c:=sF y (a+k) O O;have d:=pK y (a+k);have i:=ih O;rw[show a+((k+1:M):N)=a+k+1 from by omega,c];omega
theorem tG(y m:N)(c:1<=m)(f:m<=13):0<=eh y m/\eh y m<=365+lp y:=by have a:=Dw y 1 (m-1).toNat O O;have b:=Dw y m (13-m).toNat c O;rw[show (1:N)+((m-1).toNat:N)=m from by omega,rm] at a;rw[show m+((13-m).toNat:N)=13 from by omega,xX] at b;exact⟨a,b⟩
theorem Eo(y a b:N)(f:1<=a)(h:a<b)(k:b<=13):eh y a+jm y a<=eh y b:=by rw[<- sF y a f O];have c:=Dw y (a+1) (b-(a+1)).toNat O O;rwa [show (a+1)+((b-(a+1)).toNat:N)=b from by omega] at c
theorem jx(y m d:N):ok y m d=Xy↔1<=y/\y<=9999/\1<=m/\m<=12/\1<=d/\d<=jm y m:=by simp[ok]
theorem yn(y m d:N)(h:ok y m d=Xy):ah y<=num y m d-first/\num y m d-first<ah (y+1):=by let⟨h1,h2,h3,h4,h5,h6⟩:=(jx y m d).1 h;have a:=uJ y h1;have b:=tG y m h3 O;have c:=sF y m h3 h4;have e:=tG y (m+1) O O;unfold num;omega
theorem VJ(a b n:N)(f:1<=a)(c:1<=b)(r:ah a<=n)(q:n<ah (a+1))(p:ah b<=n)(k:n<ah (b+1)):a=b:=by
 by_cases h:a<b
 .have:=uN (a+1) b O O;omega
 .by_cases t:b<a
  .have:=uN (b+1) a O O;omega
  .omega
theorem VQ(y a b n:N)(p:1<=a)(k:a<=12)(f:1<=b)(c:b<=12)(A:eh y a<=n)(u:n<eh y a+jm y a)(t:eh y b<=n)(r:n<eh y b+jm y b):a=b:=by
 by_cases h:a<b
 .have:=Eo y a b p h O;omega
 .by_cases q:b<a
  .have:=Eo y b a f q O;omega
  .omega
theorem one(y m d c f d':N)(h:ok y m d=Xy)(k:ok c f d'=Xy)(e:num y m d=num c f d'):y=c/\m=f/\d=d':=by have i:=yn y m d h;have r:=yn c f d' k;let⟨h1,h2,h3,h4,h5,h6⟩:=(jx y m d).1 h;let⟨g1,g2,g3,g4,g5,g6⟩:=(jx c f d').1 k;have p:=VJ y c (num y m d-first) h1 g1 i.1 i.2 Xi Xi;subst p;unfold num at e;have q:=VQ y m f (eh y m+d-1) h3 h4 g3 g4 O O O O;subst q;exact⟨rfl,rfl,O⟩
theorem Dt(y m d:N)(h:ok y m d=Xy):first<=num y m d/\num y m d<=last:=by let⟨h1,h2,h3,h4,h5,h6⟩:=(jx y m d).1 h;have i:=yn y m d h;have a:=uN (y+1) 10000 O O;have b:=tz y h1 O;have c:=Ay;unfold first at i;unfold first last;omega
end Go.Proofs.YtolaacmheeaadaaGreatDoor.Cal
namespace Go.Proofs.YtolaacmheeaadaaGreatDoor.Cal
def yF(g:N):N:=if ah (g*400 / 146097+2)<=g then g*400 / 146097+2 else g*400 / 146097+1
def mF(y r:N):N:=if r<eh y 2 then 1 else if r<eh y 3 then 2 else if r<eh y 4 then 3 else if r<eh y 5 then 4 else if r<eh y 6 then 5 else if r<eh y 7 then 6 else if r<eh y 8 then 7 else if r<eh y 9 then 8 else if r<eh y 10 then 9 else if r<eh y 11 then 10 else if r<eh y 12 then 11 else 12
theorem Tn(g:N)(h:0<=g):1<=yF g/\ah (yF g)<=g/\g<ah (yF g+1):=by grind[yF,ah]
theorem Tk(y r:N)(E:0<=r)(D:r<eh y 13):1<=mF y r/\mF y r<=12/\eh y (mF y r)<=r/\r<eh y (mF y r+1):=by have c1:=rm y;unfold mF;by_cases C:r<eh y 2;rw[Xt C];exact⟨O,O,O,C⟩;rw[Xs C];by_cases B:r<eh y 3;rw[Xt B];exact⟨O,O,O,B⟩;rw[Xs B];by_cases A:r<eh y 4;rw[Xt A];exact⟨O,O,O,A⟩;rw[Xs A];by_cases u:r<eh y 5;rw[Xt u];exact⟨O,O,O,u⟩;rw[Xs u];by_cases t:r<eh y 6;rw[Xt t];exact⟨O,O,O,t⟩;rw[Xs t];by_cases q:r<eh y 7;rw[Xt q];exact⟨O,O,O,q⟩;rw[Xs q];by_cases p:r<eh y 8;rw[Xt p];exact⟨O,O,O,p⟩;rw[Xs p];by_cases k:r<eh y 9;rw[Xt k];exact⟨O,O,O,k⟩;rw[Xs k];by_cases h:r<eh y 10;rw[Xt h];exact⟨O,O,O,h⟩;rw[Xs h];by_cases f:r<eh y 11;rw[Xt f];exact⟨O,O,O,f⟩;rw[Xs f];by_cases c:r<eh y 12;rw[Xt c];exact⟨O,O,O,c⟩;rw[Xs c];exact⟨O,O,O,D⟩
def yT(n:N):N:=yF (n+738885)
def mT(n:N):N:=mF (yT n) (n+738885-ah (yT n))
def dT(n:N):N:=n+738885-ah (yT n)-eh (yT n) (mT n)+1
theorem vM(n:N)(k:-738885<=n)(f:n<=2913173):ok (yT n) (mT n) (dT n)=Xy/\num (yT n) (mT n) (dT n)=n:=by
 have ⟨a1,a2,a3⟩:=Tn (n+738885) O;have s:=uJ (yF (n+738885)) a1;have c:yF (n+738885)<=9999:=by by_cases h:yF (n+738885)<=9999;exact h;have:=uN 10000 (yF (n+738885)) O O;have:=Ay;omega
 have p:=xX (yF (n+738885));have ⟨b1,b2,b3,b4⟩:=Tk (yF (n+738885)) (n+738885-ah (yF (n+738885))) O O;have cs:=sF (yF (n+738885)) (mF (yF (n+738885)) (n+738885-ah (yF (n+738885)))) b1 b2;refine⟨(jx _ _ _).2 ?_,?_⟩
 .unfold dT mT yT;refine⟨a1,c,b1,b2,O,O⟩
 .unfold num dT mT yT first;omega
theorem xU(y m d n:N)(h:ok y m d=Xy)(e:num y m d=n):y=yT n/\m=mT n/\d=dT n:=by have b:=Dt y m d h;rw[e] at b;unfold first last at b;have ⟨h1,h2⟩:=vM n b.1 b.2;exact one y m d _ _ _ h h1 (by rw[e,h2])
end Go.Proofs.YtolaacmheeaadaaGreatDoor.Cal
namespace Go.Proofs.YtolaacmheeaadaaGreatDoor.Txt
def tc(c:UInt8):Xp:=decide (48<=(c.toNat:N)/\(c.toNat:N)<=57)
def iJ(l:J UInt8):Xp:=l.all tc
def jB(l:J UInt8):N:=l.foldl (fun n c=>n*10+((c.toNat:N)-48)) 0
def low(c:UInt8):Xp:=decide (97<=(c.toNat:N)/\(c.toNat:N)<=122)
def qx(l:J UInt8):Xp:=l.all low
def isNum(l:J UInt8):Xp:=decide (1<=l.length/\l.length<=7) && iJ l
def gP(l:J UInt8):Xp:=decide (1<=l.length/\l.length<=8) && qx l
theorem rC(c:UInt8):tc c=Xy↔48<=(c.toNat:N)/\(c.toNat:N)<=57:=by simp[tc]
theorem Aw(c:UInt8):low c=Xy↔97<=(c.toNat:N)/\(c.toNat:N)<=122:=by simp[low]
theorem yH(l:J UInt8)(c:UInt8):iJ (l++[c])=(iJ l && tc c):=by simp[iJ]
theorem AE(l:J UInt8)(c:UInt8):qx (l++[c])=(qx l && low c):=by simp[qx]
theorem Lu(l:J UInt8)(c:UInt8):jB (l++[c])=jB l*10+((c.toNat:N)-48):=by simp[jB]
theorem A0(s:Xm)(k:M)(h:k<s.size):s.data.toList.take (k+1)=s.data.toList.take k++[s[k]]:=by rw[YI (bV h)];rfl
theorem uV(s:Xm)(k:M)(h:s.size<=k):s.data.toList.take k=s.data.toList:=YK (bV h)
theorem iL(s:Xm):s.data.toList.length=s.size:=Xc
theorem Mz(l:J UInt8)(k:M)(h:iJ (l.take k)=Xx):iJ l=Xx:=by grind[iJ]
theorem Lc(l:J UInt8)(k:M)(h:qx (l.take k)=Xx):qx l=Xx:=by grind[qx]
theorem TC(l:J UInt8):∀ (k:M)(n:N),0<=n->n<10 ^ k->iJ l=Xy->0<=l.foldl (fun n c=>n*10+((c.toNat:N)-48)) n/\l.foldl (fun n c=>n*10+((c.toNat:N)-48)) n<10 ^ (k+l.length):=by
 induction l with
 |nil=>intro k n p h _;exact⟨p,h⟩
 |cons c l ih =>intro k n p h f;simp only[iJ,List.all_cons,Zr] at f;have q:=(rC c).1 f.1;have:=ih (k+1) (n*10+((c.toNat:N)-48)) O Xi f.2;simp only[Zs,Yy];rw[show k+(l.length+1)=k+1+l.length from by omega];exact this
theorem JG(l:J UInt8)(h:iJ l=Xy)(c:l.length<=7):0<=jB l/\jB l<=9999999:=by have b:=TC l 0 0 O Xd h;have q:∀ k:M,k<8->(10:N) ^ k<=10000000:=Xd;have p:=q (0+l.length) O;unfold jB;omega
theorem Mk(h:1<=l.length)(f:l.length<=7)(c:iJ l=Xy):isNum l=Xy:=by simp[isNum,h,f,c]
theorem AD(h:¬ (1<=l.length/\l.length<=7)):isNum l=Xx:=by unfold isNum;rw[decide_eq_false h];rfl
theorem KY(h:iJ l=Xx):isNum l=Xx:=by simp[isNum,h]
theorem KZ(l:J UInt8):isNum l=Xy↔(1<=l.length/\l.length<=7)/\iJ l=Xy:=by simp[isNum]
theorem Kz(h:1<=l.length)(f:l.length<=8)(c:qx l=Xy):gP l=Xy:=by simp[gP,h,f,c]
theorem AX(h:¬ (1<=l.length/\l.length<=8)):gP l=Xx:=by unfold gP;rw[decide_eq_false h];rfl
theorem JT(h:qx l=Xx):gP l=Xx:=by simp[gP,h]
def dG(l:J UInt8):N:=if isNum l then jB l else 0
theorem lT(l:J UInt8):0<=dG l/\dG l<=9999999:=by
 unfold dG;split
 .rename_i h
  have:=(KZ l).1 h;exact JG l this.2 this.1.2
 .omega
end Go.Proofs.YtolaacmheeaadaaGreatDoor.Txt
namespace Go.Proofs.YtolaacmheeaadaaGreatDoor.Txt
def fK(s:Xm)(i:M):N:=((s.data.toList.getD i 0).toNat:N)
theorem mz(s:Xm)(i:M)(h:i<s.size):fK s i=(s[i].toNat:N):=by unfold fK;rw[Zt,Zu (bV h)];rfl
def part(s:Xm)(a b:M):J UInt8:=(s.extract a b).data.toList
def dZ(s:Xm):Xp:=decide (s.size=5/\fK s 2=58/\isNum (part s 0 2)=Xy/\isNum (part s 3 5)=Xy/\dG (part s 0 2)<=23/\dG (part s 3 5)<=59)
def eA(s:Xm):N:=if dZ s then dG (part s 0 2)*60+dG (part s 3 5) else 0
def jY(s:Xm):Xp:=decide (s.size=10/\fK s 4=45/\fK s 7=45/\isNum (part s 0 4)=Xy/\isNum (part s 5 7)=Xy/\isNum (part s 8 10)=Xy/\Cal.ok (dG (part s 0 4)) (dG (part s 5 7)) (dG (part s 8 10))=Xy)
def gh(s:Xm):N:=if jY s then Cal.num (dG (part s 0 4)) (dG (part s 5 7)) (dG (part s 8 10)) else 0
def cU(s:Xm):Xp:=decide (jY s=Xy/\0<=gh s/\gh s<728)
theorem Bj(h:¬ (s.size=5/\fK s 2=58/\isNum (part s 0 2)=Xy/\isNum (part s 3 5)=Xy/\dG (part s 0 2)<=23/\dG (part s 3 5)<=59)):dZ s=Xx:=decide_eq_false h
theorem wB(h:¬ (s.size=10/\fK s 4=45/\fK s 7=45/\isNum (part s 0 4)=Xy/\isNum (part s 5 7)=Xy/\isNum (part s 8 10)=Xy/\Cal.ok (dG (part s 0 4)) (dG (part s 5 7)) (dG (part s 8 10))=Xy)):jY s=Xx:=decide_eq_false h
theorem Ks(c:s.size=5)(f:fK s 2=58):dZ s=(isNum (part s 0 2) && isNum (part s 3 5) && decide (dG (part s 0 2)<=23) && decide (dG (part s 3 5)<=59)):=by rw[Zv];simp[dZ,c,f,and_assoc]
theorem Jz(c:s.size=10)(h:fK s 4=45)(f:fK s 7=45):jY s=(isNum (part s 0 4) && isNum (part s 5 7) && isNum (part s 8 10) && Cal.ok (dG (part s 0 4)) (dG (part s 5 7)) (dG (part s 8 10))):=by rw[Zv];simp[jY,c,h,f,and_assoc]
theorem mR(s:Xm):0<=eA s/\eA s<=1439:=by
 unfold eA;split
 .rename_i h
  have h:=of_decide_eq_true h;have:=lT (part s 0 2);have:=lT (part s 3 5);omega
 .omega
theorem Jq(s:Xm):-738885<=gh s/\gh s<=2913173:=by
 unfold gh;split
 .rename_i h
  have h:=of_decide_eq_true h;have b:=Cal.Dt _ _ _ h.2.2.2.2.2.2;unfold Cal.first Cal.last at b;exact b
 .omega
end Go.Proofs.YtolaacmheeaadaaGreatDoor.Txt
namespace Go.Proofs.YtolaacmheeaadaaGreatDoor.Txt
open Go
def lq(s:Xm):Xp:=decide (s.size=16/\fK s 10=47/\jY (s.extract 0 10)=Xy/\dZ (s.extract 11 16)=Xy)
def mQ(s:Xm):N:=if lq s then gh (s.extract 0 10)*1440+eA (s.extract 11 16) else 0
def lK(s:Xm):Xm:={ data:=(Zw s.data.toList [47]).fst.toArray }
def lP(s:Xm):Xm:={ data:=(Zw s.data.toList [47]).snd.fst.toArray }
def qX(s:Xm):Xp:=(Zw s.data.toList [47]).snd.snd
theorem rF(s:Xm)(a b:M):(s.extract a b).data.toList=(s.data.toList.take b).drop a:=by rw[ByteArray.data_extract,Array.toList_extract];simp[List.drop_take]
theorem nS{t:Xm}(h:s.data.toList=t.data.toList):s=t:=by
 cases s;cases t;simp only at h;congr;exact Array.toList_inj.1 h
theorem Tt(c:UInt8)(h:tc c=Xy):c≠47:=by intro e;subst e;revert h;decide
theorem Ep(h:iJ l=Xy){c:UInt8}(f:c∈l):c≠47:=Tt c (by unfold iJ at h;rw[Zx] at h;exact h c f)
theorem A5(h:isNum l=Xy):iJ l=Xy:=((KZ l).1 h).2
theorem b3N(t:Xm)(h:jY t=Xy):∀ j,j<10->t.data.toList[j]?≠U 47:=by
 have h:=of_decide_eq_true h;let⟨hs,b4,b7,n1,n2,n3,_⟩:=h;have r:=A5 n1;have q:=A5 n2;have p:=A5 n3;unfold part at r q p;rw[rF] at r q p;have K:t.data.toList.length=10:=by simp_all
 intro j E u;have f:j<t.data.toList.length:=O;have e:t.data.toList[j]=47:=by rw[Zu f] at u;exact Zn u
 have C:j<4->False:=fun H=>Ep r (c:=t.data.toList[j]) (by rw[Zy];exact⟨j,by rw[Zz,ZA];simp[H]⟩) e
 have B:5<=j->j<7->False:=fun S G=>Ep q (c:=t.data.toList[j]) (by rw[Zy];exact⟨j-5,by rw[Zz,ZA];simp[show 5+(j-5)=j from by omega,G]⟩) e
 have A:8<=j->False:=fun R=>Ep p (c:=t.data.toList[j]) (by rw[Zy];exact⟨j-8,by rw[Zz,ZA];simp[show 8+(j-8)=j from by omega,E]⟩) e
 have g:∀ k:M,j=k->fK t k=47:=fun k D=>by subst D;unfold fK;rw[Zt,Zu f,e];rfl
 by_cases c4:j=4
 .have:=g 4 c4;omega
 .by_cases I:j=7
  .have:=g 7 I;omega
  .by_cases c1:j<4
   .exact C c1
   .by_cases c2:j<7
    .exact B O c2
    .exact A O
theorem Ec(l:J UInt8)(i:M):ZB l [47] i=Xy↔l[i]?=U 47:=by
 unfold ZB;rw[<- List.head?_drop]
 cases l.drop i with
 |nil=>simp[ZC]
 |cons b r=>simp[ZC];exact eq_comm
theorem Jy(t:s.size=16)(k:fK s 10=47)(r:jY (s.extract 0 10)=Xy):lK s=s.extract 0 10/\lP s=s.extract 11 16/\qX s=Xy:=by
 have u:s.data.toList.length=16:=by simp_all
 have f:s.data.toList[10]?=U 47:=by unfold fK at k;rw[Zt,Zu O] at k;rw[Zu O];have:(s.data.toList[10]'Xb).toNat=47:=Xi;rw[show s.data.toList[10]'Xb=47 from UInt8.toNat_inj.1 Xi]
 have q:=Lib.index_first (i:=10) O ((Ec _ _).2 f) (fun j h=>by
  cases p:ZB s.data.toList [47] j with
  |false=>rfl
  |true =>have:=b3N _ r j h;rw[rF,List.drop_zero,ZA,Xt h] at this;exact Xu ((Ec _ _).1 p) this)
 have c:Zw s.data.toList [47]=(s.data.toList.take 10,s.data.toList.drop 11,Xy):=by unfold Zw;rw[q];rfl
 refine⟨nS ?_,nS ?_,?_⟩;simp only[lK,c,rF];simp;simp only[lP,c,rF];rw[YK O];simp[qX,c]
theorem Ts(s:Xm):(qX s && jY (lK s) && dZ (lP s))=lq s/\(lq s=Xy->gh (lK s)*1440+eA (lP s)=mQ s):=by
 have key:(qX s && jY (lK s) && dZ (lP s))=lq s:=by
  rw[Zv];constructor
  .intro h;simp only[Zr] at h;let⟨⟨hf,hd⟩,hm⟩:=h;have s1:=(of_decide_eq_true hd).1;have u:=(of_decide_eq_true hm).1
   have c:0<=ZD s.data.toList [47]:=by
    by_cases c:0<=ZD s.data.toList [47]
    .exact c
    .simp[qX,Zw,c] at hf
   let⟨i,hi'⟩:=ZE c;have B:=Lib.index_room s.data.toList [47] c;have t:Zw s.data.toList [47]=(s.data.toList.take i,s.data.toList.drop (i+1),Xy):=by unfold Zw;rw[Xt c,hi'];simp
   have k:s.data.toList[i]?=U 47:=by
    rcases Lib.index_spec s.data.toList [47] with ⟨h,_⟩|⟨j,D,_,C,_⟩
    .omega
    .rw[hi'] at D;have:i=j:=O
     subst this;exact (Ec _ _).1 C
   rw[hi'] at B;simp only[List.length_singleton,iL] at B;have G:min i s.size=10:=by rw[<- iL] at s1;simp only[lK,t] at s1;simpa using s1
   have E:s.size-(i+1)=5:=by rw[<- iL] at u;simp only[lP,t] at u;simpa using u
   have A:i=10:=O;have f:s.size=16:=O;subst A;have r:lK s=s.extract 0 10:=nS (by simp only[lK,t,rF];simp);have q:lP s=s.extract 11 16:=nS (by simp only[lP,t,rF];rw[YK (by rw[iL];omega)]);rw[r] at hd;rw[q] at hm;have p:fK s 10=47:=by unfold fK;rw[Zt,k];rfl
   exact decide_eq_true ⟨f,p,hd,hm⟩
  .intro h;let⟨f,p,hd,hm⟩:=of_decide_eq_true h;let⟨r,q,a3⟩:=Jy f p hd;rw[r,q,a3,hd,hm];rfl
 refine⟨key,fun h=>?_⟩;let⟨f,p,hd,_⟩:=of_decide_eq_true h;let⟨r,q,_⟩:=Jy f p hd;rw[r,q];simp[mQ,h]
end Go.Proofs.YtolaacmheeaadaaGreatDoor.Txt
namespace Go.Proofs.YtolaacmheeaadaaGreatDoor.Txt
open Go
def oF(b:Xp)(pos:M)(x:J (M × M) × Xo M):J (M × M) × Xo M :=if b then (match x.2 with|some a=>(x.1++[(a,pos)],Z)|none=>(x.1,Z)) else (x.1,U (x.2.getD pos))
def gA(s:Xm):M->J (M × M) × Xo M
 |0=>([],Z)
 |k+1=>oF (decide (fK s k=32)) k (gA s k)
def aC(s:Xm):J Xm:=(ZF s (gA s s.size)).map fun x=>s.extract x.1 x.2
theorem Md(s:Xm)(i:M)(h:i<s.size):(s.get! i).toNat=(fK s i).toNat:=by
 unfold fK;rw[Zt,Zu (bV h)];simp only[ZG,Int.toNat_natCast];congr 1
 cases s with
 |mk a=>simp only[ByteArray.get!];rw[getElem!_pos a i h];simp
theorem b3J(s:Xm)(i:M)(h:i<s.size):
  ((s.get! i).toNat<128/\ZH s i=((s.get! i).toNat,1)) \/
  (128<=(ZH s i).1/\1<=(ZH s i).2/\∀ j,j<(ZH s i).2->128<=(s.get! (i+j)).toNat/\i+j<s.size):=by
 unfold ZH;simp only[ZI];by_cases f:(s.get! i).toNat<128
 .left;exact⟨f,by grind⟩
 .right;rw[Xs O]
  have one:∀ j,j<1->128<=(s.get! (i+j)).toNat/\i+j<s.size:=fun j c=>by grind
  split
  .rename_i hc
   simp only[Zr,decide_eq_true_eq,beq_iff_eq] at hc;split
   .refine⟨by grind,by simp,fun j c=>?_⟩;simp only at c;rcases (show j=0\/j=1 by omega) with rfl|rfl
    .exact one 0 O
    .exact⟨O,O⟩
   .exact⟨by simp[ZJ],by simp,one⟩
  .split
   .rename_i hc
    simp only[Zr,decide_eq_true_eq,beq_iff_eq] at hc;split
    .rename_i hv
     simp only[Zr,decide_eq_true_eq] at hv;refine⟨by grind,by simp,fun j c=>?_⟩;simp only at c;rcases (show j=0\/j=1\/j=2 by omega) with rfl|rfl|rfl
     .exact one 0 O
     .exact⟨O,O⟩
     .exact⟨O,O⟩
    .exact⟨by simp[ZJ],by simp,one⟩
   .split
    .rename_i hc
     simp only[Zr,decide_eq_true_eq,beq_iff_eq] at hc;split
     .rename_i hv
      simp only[Zr,decide_eq_true_eq] at hv;refine⟨by grind,by simp,fun j c=>?_⟩;simp only at c;rcases (show j=0\/j=1\/j=2\/j=3 by omega) with rfl|rfl|rfl|rfl
      .exact one 0 O
      .exact⟨O,O⟩
      .exact⟨O,O⟩
      .exact⟨O,O⟩
     .exact⟨by simp[ZJ],by simp,one⟩
    .exact⟨by simp[ZJ],by simp,one⟩
theorem Up(s:Xm)(pos:M):∀ n:M,(∀ j,j<n+1->fK s (pos+j)≠32)->gA s (pos+(n+1))=((gA s pos).1,U ((gA s pos).2.getD pos)):=by
 intro n;induction n with
 |zero =>intro h;have:=h 0 O;simp only[ZI] at this;show oF _ pos (gA s pos)=_;rw[decide_eq_false this];rfl
 |succ n ih =>intro h;have i:=ih (fun j c=>h j O);have:=h (n+1) O;show oF (decide (fK s (pos+(n+1))=32)) (pos+(n+1)) (gA s (pos+(n+1)))=_;rw[decide_eq_false this,i];rfl
theorem U4(s:Xm):∀ (f pos:M),pos<=s.size->s.size-pos<=f->ZK (fun r=>r==32) s f pos (gA s pos).2 (gA s pos).1=gA s s.size:=by
 intro f;induction f with
 |zero =>intro pos E D;obtain rfl:pos=s.size:=O;rfl
 |succ f ih =>
  intro pos E D;by_cases c:pos<s.size
  .unfold ZK;rw[Xt c];rcases b3J s pos c with ⟨K,C⟩|⟨I,H,t⟩
   .rw[C];simp only;have G:=Md s pos c;have u:0<=fK s pos:=by unfold fK;omega
    have i:=ih (pos+1) O O;have st:gA s (pos+1)=oF (decide (fK s pos=32)) pos (gA s pos):=rfl;by_cases k:fK s pos=32
    .have e:((s.get! pos).toNat==32)=Xy:=Xi
     rw[e,Xt rfl];rw[decide_eq_true k] at st
     cases h:(gA s pos).2 with
     |none=>simp only;rw[st] at i;simp only[oF,h,if_true] at i;exact i
     |some a=>simp only;rw[st] at i;simp only[oF,h,if_true] at i;exact i
    .have e:((s.get! pos).toNat==32)=Xx:=Xi
     rw[e,Xs Xd];rw[decide_eq_false k] at st
     cases h:(gA s pos).2 with
     |none=>simp only;rw[st] at i;simp only[oF,h,X4,if_false,ZL] at i;exact i
     |some a=>simp only;rw[st] at i;simp only[oF,h,X4,if_false,ZG] at i;exact i
   .have e:((ZH s pos).1==32)=Xx:=Xi
    rw[e,Xs Xd];obtain⟨n,A⟩:∃ n,(ZH s pos).2=n+1:=⟨(ZH s pos).2-1,O⟩;have p:=t ((ZH s pos).2-1) O;have st:=Up s pos n (fun j B=>by have q:=t j O;have G:=Md s (pos+j) q.2;have u:0<=fK s (pos+j):=Xi;omega)
    have i:=ih (pos+(n+1)) O O;rw[st] at i;rw[A]
    cases h:(gA s pos).2 with
    |none=>simp only;simp only[h,ZL] at i;exact i
    |some a=>simp only;simp only[h,ZG] at i;exact i
  .obtain rfl:pos=s.size:=O
   unfold ZK;rw[Xs c]
theorem b3C(s:Xm):ZM (fun r=>r==32) s=aC s:=by unfold ZM Lib.spansOfP aC;have:=U4 s s.size 0 (zN _) O;rw[show (gA s 0).2=Z from rfl,show (gA s 0).1=[] from rfl] at this;rw[this]
end Go.Proofs.YtolaacmheeaadaaGreatDoor.Txt
namespace Go.Proofs.YtolaacmheeaadaaGreatDoor.Txt
open Go
def jv(s:Xm)(k:M):Xm:=match (gA s k).2 with|none=>⟨#[]⟩|some a=>s.extract a k
def oy(s:Xm)(k:M):J Xm:=(gA s k).1.map fun x=>s.extract x.1 x.2
theorem AB(s:Xm):∀ (k a:M),(gA s k).2=U a->a<k
 |0,a,h=>by simp[gA] at h
 |k+1,a,h=>by
  simp only[gA,oF] at h;split at h
  .split at h <;> simp at h
  .simp only[Option.some.injEq] at h
   cases c:(gA s k).2 with
   |none=>rw[c] at h;simp at h;omega
   |some b=>rw[c] at h;simp at h;have:=AB s k b c;omega
theorem qI(a b:Xm):(a++b).data.toList=a.data.toList++b.data.toList:=by rw[ByteArray.data_append,Array.toList_append]
theorem Tz(s:Xm)(a k:M)(h:a<=k):s.extract a k++s.extract k (k+1)=s.extract a (k+1):=by simp_all
theorem J1(s:Xm)(k:M):(jv s k).size<=k:=by
 unfold jv;split
 .exact zN _
 .have:∀ a b,(s.extract a b).size=min b s.size-a:=fun a b=>ZN ..
  rw[this];omega
theorem VW(b:Xm):(⟨#[]⟩:Xm)++b=b:=by apply nS;rw[qI];rfl
theorem J0(s:Xm)(k:M)(h:fK s k≠32):jv s k++s.extract k (k+1)=jv s (k+1)/\oy s (k+1)=oy s k:=by
 have e:gA s (k+1)=((gA s k).1,U ((gA s k).2.getD k)):=by simp only[gA,oF,decide_eq_false h];rfl
 refine⟨?_,by unfold oy;rw[e]⟩;unfold jv;rw[e]
 cases c:(gA s k).2 with
 |none=>simp only[ZL];exact VW _
 |some a=>simp only[ZG];exact Tz s a k (Nat.le_of_lt (AB s k a c))
theorem Lk(s:Xm)(k:M)(q:k<=s.size)(h:fK s k=32):jv s (k+1)=⟨#[]⟩/\oy s (k+1)=oy s k++(if (jv s k).size=0 then [] else [jv s k]):=by
 have e:gA s (k+1)=oF Xy k (gA s k):=by simp only[gA,decide_eq_true h]
 cases f:(gA s k).2 with
 |none =>
  have p:gA s (k+1)=((gA s k).1,Z):=by rw[e];simp[oF,f]
  have c:jv s k=⟨#[]⟩:=by unfold jv;rw[f]
  refine⟨by unfold jv;rw[p],?_⟩;rw[c];unfold oy;rw[p];simp;rfl
 |some a =>
  have p:gA s (k+1)=((gA s k).1++[(a,k)],Z):=by rw[e];simp[oF,f]
  have c:jv s k=s.extract a k:=by unfold jv;rw[f]
  have lt:=AB s k a f;have sz:(s.extract a k).size=min k s.size-a:=ZN ..;refine⟨by unfold jv;rw[p],?_⟩;rw[c,Xs O];unfold oy;rw[p];simp
theorem Ek(s:Xm):aC s=oy s s.size++(if (jv s s.size).size=0 then [] else [jv s s.size]):=by
 unfold aC oy jv ZF
 cases c:(gA s s.size).2 with
 |none=>simp;rfl
 |some a =>have lt:=AB s _ a c;have sz:(s.extract a s.size).size=min s.size s.size-a:=ZN ..;simp only;rw[Xs O];simp
theorem xY(s:Xm):∀ k:M,(oy s k).length<=k
 |0=>zq _
 |k+1=>by
  have ih:=xY s k;unfold oy at *;rw[Zd] at *;simp only[gA,oF];split
  .split <;> simp <;> omega
  .simp;omega
end Go.Proofs.YtolaacmheeaadaaGreatDoor.Txt
namespace Go.Proofs.YtolaacmheeaadaaGreatDoor.Txt
open Go
def fu(l:J UInt8):N :=if l==[109,111] then 0 else if l==[116,117] then 1 else if l==[119,101] then 2 else if l==[116,104] then 3 else if l==[102,114] then 4 else if l==[115,97] then 5 else if l==[115,117] then 6 else -1
theorem As(l:J UInt8):-1<=fu l/\fu l<=6:=by unfold fu;(repeat' split) <;> omega
theorem Uc(h:0<=fu l):l.length=2/\44 ∉ l:=by grind[fu]
theorem yw(h:¬ (l.length=2/\44 ∉ l)):fu l=-1:=by have b:=As l;by_cases g:0<=fu l;exact Xu (Uc g) h;omega
def mv(acc:J N)(d:N):Xo (J N):=if 0<=d/\acc.contains d=Xx then U (d :: acc) else Z
def qa:J (J UInt8)->J N->Xo (J N)
 |[],acc=>U acc
 |p :: ps,acc=>(mv acc (fu p)).bind (qa ps)
def kC:J UInt8->J N->Xo (J N)
 |[a,b],acc=>mv acc (fu [a,b])
 |a :: b :: c :: r,acc=>if c=44 then (mv acc (fu [a,b])).bind (kC r) else Z
 |_,_=>Z
def sp:J UInt8->J (J UInt8)
 |[]=>[[]]
 |c :: l=>if c=44 then [] :: sp l else (match sp l with| []=>[[c]]|p :: ps=>(c :: p) :: ps)
theorem yG(acc:J N):mv acc (-1)=Z:=by simp[mv]
theorem Tm(l:J UInt8):sp l≠[]:=by
 cases l with
 |nil=>simp[sp]
 |cons c l=>unfold sp;split;simp;split <;> simp
theorem ua{p:J UInt8}(c:J (J UInt8))(acc:J N)(h:¬ (p.length=2/\44 ∉ p)):qa (p :: c) acc=Z:=by simp[qa,yw h,yG]
theorem Hg:∀ (l:J UInt8)(acc r:J N),kC l acc=U r->l.length % 3=2
 |[],_,_,h=>by simp[kC] at h
 |[_],_,_,h=>by simp[kC] at h
 |[_,_],_,_,_=>rfl
 |a :: b :: c :: l,acc,r,h=>by unfold kC at h;split at h;simp only[Option.bind_eq_some_iff] at h;let⟨x,_,h⟩:=h;have:=Hg l x r h;simp only[Yy];omega;cases h
theorem wk(c:UInt8)(l:J UInt8)(h:c≠44):∃ p ps,sp l=p :: ps/\sp (c :: l)=(c :: p) :: ps:=by
 cases f:sp l with
 |nil=>exact Xu f (Tm l)
 |cons p ps=>exact⟨p,ps,rfl,by simp[sp,h,f]⟩
theorem vh(l:J UInt8):sp (44 :: l)=[] :: sp l:=by simp[sp]
theorem JM:∀ (l:J UInt8)(acc:J N),qa (sp l) acc=kC l acc
 |[],acc=>by rw[show sp []=[[]] from rfl,ua _ _ Xc];rfl
 |[a],acc=>by by_cases f:a=44;subst f;rw[vh,ua _ _ Xc];rfl;let⟨p,ps,h1,h2⟩:=wk a [] f;simp only[sp,ZO] at h1;obtain⟨rfl,rfl⟩:=h1;rw[h2,ua _ _ Xc];rfl
 |[a,b],acc=>by
  by_cases f:a=44
  .subst f;rw[vh,ua _ _ Xc,kC,yw Xc,yG]
  .let⟨p,ps,h1,h2⟩:=wk a [b] f;rw[h2]
   by_cases h:b=44
   .subst h;rw[vh] at h1;simp only[ZO] at h1;obtain⟨rfl,rfl⟩:=h1;rw[ua _ _ Xc,kC,yw Xc,yG]
   .let⟨p',ps',h1',h2'⟩:=wk b [] h;simp only[sp,ZO] at h1';obtain⟨rfl,rfl⟩:=h1';rw[h2'] at h1;simp only[ZO] at h1;obtain⟨rfl,rfl⟩:=h1;simp only[qa,kC]
    cases mv acc (fu [a,b]) <;> rfl
 |a :: b :: c :: l,acc=>by
  have ih:=JM l;by_cases f:a=44
  .subst f;rw[vh,ua _ _ Xc,kC,yw Xc,yG]
   split <;> rfl
  .let⟨p,ps,h1,h2⟩:=wk a (b :: c :: l) f;rw[h2]
   by_cases h:b=44
   .subst h;rw[vh] at h1;simp only[ZO] at h1;obtain⟨rfl,rfl⟩:=h1;rw[ua _ _ Xc,kC,yw Xc,yG]
    split <;> rfl
   .let⟨p',ps',h1',h2'⟩:=wk b (c :: l) h;rw[h2'] at h1;simp only[ZO] at h1;obtain⟨rfl,rfl⟩:=h1
    by_cases k:c=44
    .subst k;rw[vh] at h1';simp only[ZO] at h1';obtain⟨rfl,rfl⟩:=h1';simp only[qa,kC,if_true]
     cases mv acc (fu [a,b]) with
     |none=>rfl
     |some x=>exact ih x
    .let⟨p'',ps'',_,h2''⟩:=wk c l k;rw[h2''] at h1';simp only[ZO] at h1';obtain⟨rfl,rfl⟩:=h1';rw[ua _ _ Xc,kC,Xs k]
theorem WD(c:UInt8)(l:J UInt8)(h:c≠44):ZD (c :: l) [44]=if ZD l [44]==-1 then -1 else ZD l [44]+1:=by rw[ZD];have:([44]:J UInt8).isPrefixOf (c :: l)=Xx:=Xi;rw[this];rfl
theorem b5c(l:J UInt8):ZD (44 :: l) [44]=0:=by rw[ZD];simp[ZC]
theorem b4B(c:UInt8)(l:J UInt8)(h:c≠44)(k:M):∃ p ps,ZP [44] 0 k l=p :: ps/\ZP [44] 0 k (c :: l)=(c :: p) :: ps:=by
 cases k with
 |zero=>exact⟨l,[],rfl,rfl⟩
 |succ k =>
  unfold ZP;rw[WD c l h];by_cases f:(ZD l [44]==-1)=Xy
  .rw[Xt f,Xt f];exact⟨l,[],rfl,rfl⟩
  .rw[Xs f,Xs f];have g:=Lib.index_ge l [44];have q:ZD l [44]≠-1:=fun e=>f (beq_iff_eq.2 e)
   rw[Xs Xi];refine⟨_,_,rfl,?_⟩;let⟨i,hi'⟩:=ZE (show 0<=ZD l [44] by omega);rw[hi',show ((i:N)+1).toNat=i+1 from by omega,show ((i:N)).toNat=i from by omega];simp
theorem KG:∀ l:J UInt8,ZP [44] 0 (l.count 44) l=sp l
 |[]=>rfl
 |c :: l=>by have ih:=KG l;by_cases h:c=44;subst h;rw[List.count_cons_self,vh,<- ih];rw[ZP,b5c];simp;rw[List.count_cons_of_ne Xi];let⟨p,ps,h1,h2⟩:=b4B c l h (l.count 44);rw[h2];rw[ih] at h1;simp[sp,h,h1]
def jf(s:Xm):Xo (J N):=kC s.data.toList []
def fF(s:Xm):Xp:=(jf s).isSome
theorem Ww(s:Xm):qa ((Lib.splitB ⟨#[44]⟩ 0 (Lib.countB s ⟨#[44]⟩) s).map (·.data.toList)) []=jf s:=by rw[Lib.splitB_data];have c:Lib.countB s ⟨#[44]⟩=s.data.toList.count 44:=Lib.count_one 44 s.data.toList;rw[c,show (ByteArray.mk #[44]).data.toList=[44] from rfl,KG,JM];rfl
end Go.Proofs.YtolaacmheeaadaaGreatDoor.Txt
namespace Go.Proofs.YtolaacmheeaadaaGreatDoor
def aI(acc:J N)(j:N):Xp:=acc.contains j
end Go.Proofs.YtolaacmheeaadaaGreatDoor
namespace Go.Proofs.YtolaacmheeaadaaGreatDoor
theorem Gb{α:Type}{lt:α->α->Prop}(f:∀ x,¬ lt x x)(ht:∀ x y z,lt x y->lt y z->lt x z):∀ {l m:J α},l.Pairwise lt->m.Pairwise lt->(∀ x,x∈l↔x∈m)->l=m
 |[],[],_,_,_=>rfl
 |[],y :: m,_,_,h=>by have:=(h y).2 Xc;simp at this
 |x :: l,[],_,_,h=>by have:=(h x).1 Xc;simp at this
 |x :: l,y :: m,hl,hm,h=>by
  rw[Yk] at hl hm;have e:x=y:=by
   rcases X7.1 ((h x).1 Xc) with e|e
   .exact e
   .rcases X7.1 ((h y).2 Xc) with k|k
    .exact k.symm
    .exact Xu (ht _ _ _ (hl.1 y k) (hm.1 x e)) (f x)
  subst e;congr 1;refine Gb f ht hl.2 hm.2 (fun z=>?_);constructor
  .intro c;rcases X7.1 ((h z).1 (by simp[c])) with e|e
   .subst e;exact Xu (hl.1 z c) (f z)
   .exact e
  .intro c;rcases X7.1 ((h z).2 (by simp[c])) with e|e
   .subst e;exact Xu (hm.1 z c) (f z)
   .exact e
namespace Rd
def iV(p:N->Xp):M->N->J N
 |0,_=>[]
 |k+1,d=>if p d then d :: iV p k (d+1) else iV p k (d+1)
theorem Be(p:N->Xp):∀ (k:M)(d x:N),x∈iV p k d↔d<=x/\x<d+k/\p x=Xy
 |0,d,x=>by simp[iV];omega
 |k+1,d,x=>by
  have ih:=Be p k (d+1) x;simp only[iV];by_cases c:p d=Xy
  .rw[Xt c,X7,ih];constructor
   .rintro (rfl|⟨q,h,f⟩)
    .exact⟨ZQ _,O,c⟩
    .exact⟨O,O,f⟩
   .rintro ⟨q,h,f⟩
    by_cases e:x=d
    .exact .inl e
    .exact .inr ⟨O,O,f⟩
  .rw[Xs c,ih];constructor
   .rintro ⟨q,h,f⟩;exact⟨O,O,f⟩
   .rintro ⟨q,h,f⟩;have:x≠d:=fun e=>c (e ▸ f)
    exact⟨O,O,f⟩
theorem wP(p:N->Xp):∀ (k:M)(d:N),(iV p k d).Pairwise (· < ·)
 |0,d=>by simp[iV]
 |k+1,d=>by simp only[iV];split;rw[Yk];exact⟨fun x c=>by have:=(Be p k (d+1) x).1 c;omega,wP p k (d+1)⟩;exact wP p k (d+1)
theorem W5{l m:J N}(f:l.Pairwise (· < ·))(c:m.Pairwise (· < ·))(h:∀ x,x∈l↔x∈m):l=m :=Gb (lt:=fun a b:N=>a<b) (fun x=>by omega) (fun x y z h k=>by omega) f c h
def kK(ev:N):M->N->J N
 |0,_=>[]
 |k+1,d=>if d<728 then d :: kK ev k (d+ev) else []
theorem Ke{ev:N}(q:1<=ev):∀ (k:M)(d x:N),728<=d+k->(x∈kK ev k d↔d<=x/\x<728/\(x-d) % ev=0)
 |0,d,x,h=>by simp[kK];omega
 |k+1,d,x,h=>by
  simp only[kK];by_cases c:d<728
  .rw[Xt c,X7,Ke q k (d+ev) x O];have t:(x-(d+ev)) % ev=(x-d) % ev:=by rw[show x-(d+ev)=x-d-ev from by omega,ZR]
   rw[t];constructor
   .rintro (rfl|⟨r,p,f⟩)
    .exact⟨ZQ _,c,by simp⟩
    .exact⟨O,p,f⟩
   .rintro ⟨r,p,f⟩
    by_cases e:d+ev<=x
    .exact .inr ⟨e,p,f⟩
    .rw[ZS O O] at f;exact .inl O
  .rw[Xs c];simp;omega
theorem Eh{ev:N}(f:1<=ev):∀ (k:M)(d:N),(kK ev k d).Pairwise (· < ·)/\∀ x∈kK ev k d,d<=x
 |0,d=>by simp[kK]
 |k+1,d=>by
  simp only[kK];let⟨i1,i2⟩:=Eh f k (d+ev);split
  .refine⟨Yk.2 ⟨fun x c=>by grind,i1⟩,fun x c=>?_⟩;rcases X7.1 c with rfl|c
   .exact ZQ _
   .have:=i2 x c;omega
  .simp
def qZ(acc:J N)(fr c:N):J N:=iV (fun d=>aI acc (d-c)) (c+7-max c fr).toNat (max c fr)
def ku(acc:J N)(fr ev:N):M->N->J N
 |0,_=>[]
 |k+1,mon=>if mon<728 then qZ acc fr mon++ku acc fr ev k (mon+ev*7) else []
theorem Et{c:N}:x∈qZ acc fr c↔c<=x/\fr<=x/\x<c+7/\aI acc (x-c)=Xy:=by unfold qZ;rw[Be];constructor;rintro ⟨p,k,f⟩;exact⟨O,O,O,f⟩;rintro ⟨p,k,f,h⟩;exact⟨O,O,h⟩
theorem Kg{acc:J N}{fr ev:N}(C:1<=ev):∀ (k:M)(f x:N),0<=f->f % 7=0->728<=f+k->(x∈ku acc fr ev k f↔f<=x/\fr<=x/\x<728/\aI acc (x % 7)=Xy/\(x / 7-f / 7) % ev=0)
 |0,f,x,h0,h7,h=>by simp[ku];omega
 |k+1,f,x,h0,h7,h=>by
  simp only[ku];by_cases c:f<728
  .have B:(ev*7) % 7=0:=O
   rw[Xt c,X8,Et,Kg C k (f+ev*7) x O O O];have G:(f+ev*7) / 7=f / 7+ev:=O;have E:(x / 7-(f+ev*7) / 7) % ev=(x / 7-f / 7) % ev:=by rw[G,show x / 7-(f / 7+ev)=x / 7-f / 7-ev from by omega,ZR]
   rw[E];constructor
   .rintro (⟨u,q,t,p⟩|⟨u,q,t,p,r⟩)
    .have A:x-f=x % 7:=O
     have D:x / 7-f / 7=0:=O;rw[A] at p;rw[D];exact⟨u,q,O,p,by simp⟩
    .exact⟨O,q,t,p,r⟩
   .rintro ⟨u,q,t,p,r⟩
    by_cases e:x<f+7
    .have A:x-f=x % 7:=O
     exact .inl ⟨u,q,e,by grind⟩
    .by_cases H:f+ev*7<=x
     .exact .inr ⟨H,q,t,p,r⟩
     .rw[ZS O O] at r;omega
  .rw[Xs c];simp;omega
theorem Ej{acc:J N}{fr ev:N}(p:1<=ev):∀ (k:M)(c:N),(ku acc fr ev k c).Pairwise (· < ·)/\∀ x∈ku acc fr ev k c,c<=x
 |0,c=>by simp[ku]
 |k+1,c=>by
  simp only[ku];let⟨i1,i2⟩:=Ej (acc:=acc) (fr:=fr) p k (c+ev*7);split
  .refine⟨ZT.2 ⟨wP _ _ _,i1,fun x f y h=>?_⟩,fun x f=>?_⟩
   .have:=Et.1 f;have:=i2 y h;omega
   .rcases X8.1 f with f|f
    .exact (Et.1 f).1
    .have:=i2 x f;omega
  .simp
def reached(y m:N):Xp:=Cal.ok y m 1 && decide (Cal.num y m 1<728)
def pQ(y m ev:N):N:=y+(m-1+ev) / 12
def oE(m ev:N):N:=(m-1+ev) % 12+1
def sH(y m dt:N):J N:=if Cal.ok y m dt then [Cal.num y m dt] else []
def kL(dt ev:N):M->N->N->J N
 |0,_,_=>[]
 |k+1,y,m=>if reached y m then sH y m dt++kL dt ev k (pQ y m ev) (oE m ev) else []
theorem tP{d c f d':N}(h:Cal.ok y m d=Xy)(p:Cal.ok c f d'=Xy)(k:12*y+m<12*c+f):Cal.num y m d<Cal.num c f d':=by have i:=Cal.yn y m d h;have q:=Cal.yn c f d' p;let⟨h1,h2,h3,h4,h5,h6⟩:=(Cal.jx y m d).1 h;let⟨g1,g2,g3,g4,g5,g6⟩:=(Cal.jx c f d').1 p;by_cases e:y=c;subst e;have:=Cal.Eo y m f h3 O O;unfold Cal.num;omega;have:=Cal.uN (y+1) c O O;omega
theorem yK(k:1<=y)(h:y<=9999)(f:1<=m)(c:m<=12):Cal.ok y m 1=Xy:=by have:=Cal.pK y m;exact (Cal.jx _ _ _).2 ⟨k,h,f,c,O,O⟩
theorem MJ(q:2024<=y)(p:y<=9999)(k:1<=m)(f:m<=12):reached y m=Xy↔12*y+m<=24312:=by
 have o:=yK (m:=m) Xi p k f;unfold reached;rw[o,Bool.true_and,decide_eq_true_eq];have t:Cal.num 2025 12 1=700:=Xd;have r:Cal.num 2026 1 1=731:=Xd;constructor
 .intro h;apply ZU;intro c
  by_cases e:12*y+m=24313
  .have:y=2026:=O
   have:m=1:=O;subst_vars;omega
  .have:=tP (yK (y:=2026) (m:=1) O O O O) o O;omega
 .intro h
  by_cases e:12*y+m=24312
  .have:y=2025:=O
   have:m=12:=O;subst_vars;omega
  .have:=tP o (yK (y:=2025) (m:=12) O O O O) O;omega
theorem Ez{ev:N}:12*pQ y m ev+oE m ev=12*y+m+ev/\1<=oE m ev/\oE m ev<=12:=by unfold pQ oE;omega
theorem sC(p:0<=x)(k:x<728):Cal.ok (Cal.yT x) (Cal.mT x) (Cal.dT x)=Xy/\Cal.num (Cal.yT x) (Cal.mT x) (Cal.dT x)=x/\2024<=Cal.yT x/\12*Cal.yT x+Cal.mT x<=24312:=by
 let⟨o,n⟩:=Cal.vM x O O;refine⟨o,n,?_,?_⟩
 .apply ZU;intro c;let⟨g1,g2,g3,g4,g5,g6⟩:=(Cal.jx _ _ _).1 o;have:=tP o (yK (y:=2024) (m:=1) O O O O) O;have e:Cal.num 2024 1 1=0:=Xd
  omega
 .apply ZU;intro c;let⟨g1,g2,g3,g4,g5,g6⟩:=(Cal.jx _ _ _).1 o;have r:Cal.num 2026 1 1=731:=Xd
  have f:=yK (y:=2026) (m:=1) O O O O;by_cases e:12*Cal.yT x+Cal.mT x=24313
  .have:Cal.yT x=2026:=O
   have h:Cal.mT x=1:=O;rw[this,h] at n;have q:Cal.num 2026 1 (Cal.dT x)=731+Cal.dT x-1:=by
    have:Cal.num 2026 1 (Cal.dT x)=Cal.num 2026 1 1+Cal.dT x-1:=by unfold Cal.num;omega
    omega
   omega
  .have:=tP f o O;omega
theorem Kf{dt ev:N}(B:1<=ev)(t:ev<=99):∀ (k:M)(y m x:N),2024<=y->y<=2034->1<=m->m<=12->24312<12*y+m+k->0<=x->x<728 ->(x∈kL dt ev k y m↔Cal.dT x=dt/\12*y+m<=12*Cal.yT x+Cal.mT x/\(12*Cal.yT x+Cal.mT x-12*y-m) % ev=0)
 |0,y,m,x,hy,hy2,hm,hm2,hk,h0,h1=>by have:=(sC h0 h1).2.2.2;simp[kL];omega
 |k+1,y,m,x,hy,hy2,hm,hm2,hk,h0,h1=>by
  let⟨o,n,y0,mx⟩:=sC h0 h1;let⟨g1,g2,g3,g4,g5,g6⟩:=(Cal.jx _ _ _).1 o;simp only[kL];have u:=MJ (y:=y) (m:=m) hy O hm hm2;by_cases c:12*y+m<=24312
  .rw[Xt (u.2 c),X8];let⟨l1,l2,l3⟩:=Ez (y:=y) (m:=m) (ev:=ev);rw[Kf B t k (pQ y m ev) (oE m ev) x O O l2 l3 O h0 h1]
   have E:(12*Cal.yT x+Cal.mT x-12*pQ y m ev-oE m ev) % ev=(12*Cal.yT x+Cal.mT x-12*y-m) % ev:=by rw[show 12*Cal.yT x+Cal.mT x-12*pQ y m ev-oE m ev=12*Cal.yT x+Cal.mT x-12*y-m-ev from by omega,ZR]
   rw[E,l1];have r:x∈sH y m dt↔Cal.dT x=dt/\12*y+m=12*Cal.yT x+Cal.mT x:=by
    unfold sH;constructor
    .intro h
     by_cases ok:Cal.ok y m dt=Xy
     .rw[Xt ok] at h;have:x=Cal.num y m dt:=Xi
      let⟨f,q,p⟩:=Cal.xU y m dt x ok this.symm;exact⟨p.symm,O⟩
     .rw[Xs ok] at h;simp at h
    .rintro ⟨f,q⟩;have D:y=Cal.yT x:=O
     have C:m=Cal.mT x:=O;subst f;rw[D,C,Xt o,n];simp
   rw[r];constructor
   .rintro (⟨f,q⟩|⟨f,q,p⟩)
    .refine⟨f,O,?_⟩;rw[show 12*Cal.yT x+Cal.mT x-12*y-m=0 from by omega];simp
    .exact⟨f,O,p⟩
   .rintro ⟨f,q,p⟩
    by_cases e:12*y+m+ev<=12*Cal.yT x+Cal.mT x
    .exact .inr ⟨f,e,p⟩
    .rw[ZS O O] at p;exact .inl ⟨f,O⟩
  .have A:¬ reached y m=Xy:=fun h=>c (u.1 h)
   rw[Xs A];simp;omega
theorem Ei{dt ev:N}(q:1<=ev):∀ (k:M)(y m:N),1<=m->m<=12->(kL dt ev k y m).Pairwise (· < ·)/\∀ x∈kL dt ev k y m,∃ c f,Cal.ok c f dt=Xy/\x=Cal.num c f dt/\12*y+m<=12*c+f
 |0,y,m,_,_=>by simp[kL]
 |k+1,y,m,h1,h2=>by
  simp only[kL];let⟨l1,l2,l3⟩:=Ez (y:=y) (m:=m) (ev:=ev);let⟨i1,i2⟩:=Ei (dt:=dt) q k (pQ y m ev) (oE m ev) l2 l3;split
  .unfold sH
   by_cases ok:Cal.ok y m dt=Xy
   .rw[Xt ok];refine⟨ZT.2 ⟨by simp,i1,fun x h z p=>?_⟩,fun x h=>?_⟩
    .have:x=Cal.num y m dt:=Xi
     obtain⟨c,f,o,rfl,k⟩:=i2 z p;rw[this];exact tP ok o O
    .rcases X8.1 h with h|h
     .have:x=Cal.num y m dt:=Xi
      exact⟨y,m,ok,this,ZQ _⟩
     .let⟨c,f,o,e,k⟩:=i2 x h;exact⟨c,f,o,e,O⟩
   .rw[Xs ok];refine⟨by grind,fun x h=>?_⟩;let⟨c,f,o,e,k⟩:=i2 x Xi;exact⟨c,f,o,e,O⟩
  .simp
structure cP where
 pc:N
 ev:N
 acc:J N
 fr:N
 mn:N
 mi:N
 ti:N
 un:N
structure hH(r:cP):Prop where
 Gt:1<=r.pc
 Gs:r.pc<=3
 e1:1<=r.ev
 e2:r.ev<=99
 f0:0<=r.fr
 f1:r.fr<728
 m0:0<=r.mn
 m1:r.mn<1440
 i1:1<=r.mi
 i2:r.mi<=1048320
 t0:0<=r.ti
 t1:r.ti<=99
 u0:0<=r.un
 u1:r.un<728
def has(r:cP)(d:N):Xp :=
 if r.pc=1 then decide ((d-r.fr) % r.ev=0)
 else if r.pc=2 then aI r.acc (d % 7) && decide ((d / 7-r.fr / 7) % r.ev=0)
 else decide (Cal.dT d=Cal.dT r.fr) && decide ((12*Cal.yT d+Cal.mT d-12*Cal.yT r.fr-Cal.mT r.fr) % r.ev=0)
def all(r:cP):J N:=iV (has r) (728-r.fr).toNat r.fr
theorem D7{r:cP}(h:hH r)(x:N):x∈all r↔r.fr<=x/\x<728/\has r x=Xy:=by have:=h.f1;unfold all;rw[Be];constructor;rintro ⟨f,k,c⟩;exact⟨f,O,c⟩;rintro ⟨f,k,c⟩;exact⟨f,O,c⟩
def seq(r:cP):J N :=
 if r.pc=2 then ku r.acc r.fr r.ev 800 (r.fr-r.fr % 7)
 else if r.pc=3 then kL (Cal.dT r.fr) r.ev 100 (Cal.yT r.fr) (Cal.mT r.fr)
 else kK r.ev 800 r.fr
theorem Jt{r:cP}(h:hH r):(seq r).Pairwise (· < ·):=by
 unfold seq;split
 .exact (Ej h.e1 _ _).1
 .split
  .have o:=(sC h.f0 h.f1).1;let⟨g1,g2,g3,g4,g5,g6⟩:=(Cal.jx _ _ _).1 o;exact (Ei h.e1 _ _ _ g3 g4).1
  .exact (Eh h.e1 _ _).1
theorem JS{r:cP}(h:hH r)(A:0<=x)(q:x<728):x∈seq r↔r.fr<=x/\has r x=Xy:=by
 have H:=h.f0;have G:=h.f1;have E:=h.Gt;have D:=h.Gs;unfold seq has;by_cases c2:r.pc=2
 .rw[Xt c2,Xs O,Xt c2,Kg h.e1 800 _ x O O O];have e:(r.fr-r.fr % 7) / 7=r.fr / 7:=O
  rw[e,Zr,decide_eq_true_eq];constructor
  .rintro ⟨k,p,f,u,t⟩;exact⟨p,u,t⟩
  .rintro ⟨p,u,t⟩;exact⟨O,p,q,u,t⟩
 .rw[Xs c2]
  by_cases c3:r.pc=3
  .rw[Xt c3,Xs O,Xs c2];let⟨o,n,y0,mx⟩:=sC h.f0 h.f1;let⟨g1,g2,g3,g4,g5,g6⟩:=(Cal.jx _ _ _).1 o;rw[Kf h.e1 h.e2 100 _ _ x y0 O g3 g4 O A q,Zr,decide_eq_true_eq,decide_eq_true_eq];let⟨ox,nx,yx,mxx⟩:=sC A q;constructor
   .rintro ⟨k,p,f⟩;refine⟨?_,k,f⟩
    by_cases e:12*Cal.yT r.fr+Cal.mT r.fr=12*Cal.yT x+Cal.mT x
    .let⟨j1,j2,j3,j4,j5,j6⟩:=(Cal.jx _ _ _).1 ox;have C:Cal.yT r.fr=Cal.yT x:=O
     have B:Cal.mT r.fr=Cal.mT x:=O;rw[C,B,<- k] at n;omega
    .have:=tP o ox O;omega
   .rintro ⟨k,p,f⟩;refine⟨p,?_,f⟩;apply ZU;intro c;have:=tP ox o O;omega
  .rw[Xs c3,Xt O,Ke h.e1 800 _ x O,decide_eq_true_eq];constructor
   .rintro ⟨k,p,f⟩;exact⟨k,f⟩
   .rintro ⟨k,f⟩;exact⟨k,q,f⟩
theorem b1t{l:J N}(h:l.Pairwise (· < ·))(b x:N):x∈l.takeWhile (fun d=>decide (d<=b))↔x∈l/\x<=b:=by
 induction l with
 |nil=>simp
 |cons d l ih =>
  rw[Yk] at h;rw[List.takeWhile_cons];by_cases c:d<=b
  .simp only[c,decide_true,if_true,X7,ih h.2];constructor
   .rintro (rfl|⟨k,f⟩)
    .exact⟨.inl rfl,c⟩
    .exact⟨.inr k,f⟩
   .rintro ⟨rfl|k,f⟩
    .exact .inl rfl
    .exact .inr ⟨k,f⟩
  .simp only[c,decide_false,X4,if_false,List.not_mem_nil,false_iff,X7];rintro ⟨rfl|k,f⟩
   .exact c f
   .have:=h.1 x k;omega
theorem Js{r:cP}(h:hH r)(D:b<728):(seq r).takeWhile (fun d=>decide (d<=b))=(all r).filter (fun d=>decide (d<=b)):=by
 refine W5 ?_ ?_ (fun x=>?_)
 .exact ZV (List.takeWhile_sublist _) (Jt h)
 .exact Yn _ (wP _ _ _)
 .rw[b1t (Jt h),ZW,D7 h,decide_eq_true_eq];have E:=h.f0
  have low:x∈seq r->0<=x:=by
   intro c;unfold seq at c;split at c
   .have:=(Ej h.e1 _ _).2 x c;omega
   .split at c
    .have o:=(sC h.f0 h.f1);let⟨g1,g2,g3,g4,g5,g6⟩:=(Cal.jx _ _ _).1 o.1;obtain⟨y',m',u,rfl,k⟩:=(Ei h.e1 _ _ _ g3 g4).2 x c
     by_cases e:12*Cal.yT r.fr+Cal.mT r.fr=12*y'+m'
     .let⟨j1,j2,j3,j4,j5,j6⟩:=(Cal.jx _ _ _).1 u;have C:Cal.yT r.fr=y':=O
      have B:Cal.mT r.fr=m':=O;rw[<- C,<- B,o.2.1];omega
     .have:=tP o.1 u O;have:=o.2.1;omega
    .have:=(Eh h.e1 _ _).2 x c;omega
  constructor
  .rintro ⟨f,t⟩;have A:=low f;let⟨q,p⟩:=(JS h A O).1 f;exact⟨⟨q,O,p⟩,t⟩
  .rintro ⟨⟨f,t,q⟩,p⟩;exact⟨(JS h O t).2 ⟨f,q⟩,p⟩
theorem Un{r:cP}(h:hH r):(seq r).takeWhile (fun d=>decide (d<=727))=all r:=by rw[Js h O];exact ZX.2 (fun x c=>by have:=(D7 h x).1 c;simp;omega)
def ig(r:cP):J N:=if 0<r.ti then ((seq r).takeWhile (fun d=>decide (d<=727))).take r.ti.toNat else ((seq r).takeWhile (fun d=>decide (d<=r.un))).take 41
def ye(r:cP)(l:J N)(d:N):J N:=if has r d/\((r.ti=0/\d<=r.un)\/(0<r.ti/\(l.length:N)<r.ti)) then l++[d] else l
def rE(r:cP):M->N->J N->J N
 |0,_,l=>l
 |k+1,d,l=>rE r k (d+1) (ye r l d)
theorem MP{r:cP}(h:r.ti=0):∀ (k:M)(d:N)(l:J N),rE r k d l=l++(iV (has r) k d).filter (fun d=>decide (d<=r.un))
 |0,d,l=>by simp[rE,iV]
 |k+1,d,l=>by
  simp only[rE,iV];rw[MP h k (d+1)];unfold ye;by_cases c:has r d=Xy
  .rw[Xt c,Ym]
   by_cases c2:d<=r.un
   .rw[Xt ⟨c,.inl ⟨h,c2⟩⟩,Xt (by simp[c2])];simp
   .rw[Xs O,Xs (by simp[c2])]
  .rw[Xs c,Xs (fun e=>c e.1)]
theorem Bv{r:cP}(h:0<r.ti):∀ (k:M)(d:N)(l:J N),(l.length:N)<=r.ti->rE r k d l=l++(iV (has r) k d).take (r.ti.toNat-l.length)
 |0,d,l,_=>by simp[rE,iV]
 |k+1,d,l,hl=>by
  simp only[rE,iV];unfold ye;by_cases c:has r d=Xy
  .rw[Xt c]
   by_cases c2:(l.length:N)<r.ti
   .rw[Xt ⟨c,.inr ⟨h,c2⟩⟩,Bv h k (d+1) _ Xi];have e:r.ti.toNat-l.length=(r.ti.toNat-(l++[d]).length)+1:=Xi
    rw[e,List.take_succ_cons];simp
   .rw[Xs O,Bv h k (d+1) _ hl];have e:r.ti.toNat-l.length=0:=O
    rw[e];simp
  .rw[Xs c,Xs (fun e=>c e.1),Bv h k (d+1) _ hl]
def cN(r:cP):J N:=rE r (728-r.fr).toNat r.fr []
theorem FP{r:cP}(h:hH r):cN r=if 0<r.ti then (all r).take r.ti.toNat else (all r).filter (fun d=>decide (d<=r.un)):=by have c:=h.t0;unfold cN;split;rw[Bv Xe _ _ _ Xi];simp[all];rw[MP O];simp[all]
theorem Ll{r:cP}(h:hH r):ig r=if 0<r.ti then cN r else (cN r).take 41:=by rw[FP h];unfold ig;split;rw[Un h];rw[Js h h.u1]
def oC(r:cP)(d:N):Xp:=decide (1048320<d*1440+r.mn+r.mi)
def iS(r:cP):N :=if 40<(cN r).length\/40<r.ti then 11 else if cN r=[]\/((cN r).length:N)<r.ti then 6 else if (cN r).any (oC r) then 6 else 0
def gR(r:cP):N :=if 40<r.ti then 11 else if 40<(ig r).length then 11 else if ig r=[]\/((ig r).length:N)<r.ti then 6 else if oC r ((ig r).getLastD 0) then 6 else 0
theorem L7{r:cP}(h:hH r):(cN r).Pairwise (· < ·):=by rw[FP h];split;exact ZV (List.take_sublist _ _) (wP _ _ _);exact Yn _ (wP _ _ _)
theorem uX{r:cP}(h:hH r)(c:x∈cN r):r.fr<=x/\x<728:=by rw[FP h] at c;have:x∈all r:=Xi;have:=(D7 h x).1 this;exact⟨this.1,this.2.1⟩
theorem yS{r:cP}:∀ {l:J N},l.Pairwise (· < ·)->l≠[]->l.any (oC r)=oC r (l.getLastD 0)
 |[],_,h=>Xu rfl h
 |[d],_,_=>by simp
 |d :: e :: l,h,_=>by
  rw[Yk] at h;have ih:=yS (r:=r) (l:=e :: l) h.2 Xc;rw[List.any_cons,ih];have k:(d :: e :: l).getLastD 0=(e :: l).getLastD 0:=Xi;rw[k]
  cases f:oC r d
  .simp
  .have c:(e :: l).getLastD 0∈e :: l:=by
    have:(e :: l).getLastD 0=(e :: l).getLast Xc:=by simp[List.getLastD]
    rw[this];exact List.getLast_mem _
   have:=h.1 _ c;simp only[oC,decide_eq_true_eq] at f;simp only[oC,Bool.true_or];exact (decide_eq_true O).symm
theorem sG{r:cP}(h:hH r):gR r=iS r/\(iS r=0->ig r=cN r/\cN r≠[]/\(cN r).length<=40/\∀ d∈cN r,d*1440+r.mn+r.mi<=1048320):=by
 have p:=Ll h;have k:=L7 h;have D:=h.t0;have fin:∀ {l:J N},l≠[]->¬ l.any (oC r)=Xy->∀ d∈l,d*1440+r.mn+r.mi<=1048320:=by intro l _ A d B;apply ZU;intro c;exact A (ZY.2 ⟨d,B,by simp only[oC,decide_eq_true_eq];omega⟩)
 unfold gR iS;by_cases c:0<r.ti
 .rw[Xt c] at p;rw[p]
  by_cases c1:40<r.ti
  .rw[Xt c1,Xt (.inr c1)];exact⟨rfl,fun e=>by omega⟩
  .rw[Xs c1]
   by_cases c2:40<(cN r).length
   .rw[Xt c2,Xt (.inl c2)];exact⟨rfl,fun e=>by omega⟩
   .have u:¬ (40<(cN r).length\/40<r.ti):=O
    rw[Xs c2,Xs u];by_cases c3:cN r=[]\/((cN r).length:N)<r.ti
    .rw[Xt c3,Xt c3];exact⟨rfl,fun e=>by omega⟩
    .have f:cN r≠[]:=fun e=>c3 (.inl e)
     rw[Xs c3,Xs c3,yS k f];refine⟨rfl,fun e=>⟨rfl,f,O,fin f ?_⟩⟩;rw[yS k f];intro q;rw[Xt q] at e;omega
 .rw[Xs c] at p;have C:¬ 40<r.ti:=O
  rw[p,Xs C];by_cases c2:40<(cN r).length
  .have:40<((cN r).take 41).length:=Xi
   rw[Xt this,Xt (.inl c2)];exact⟨rfl,fun e=>by omega⟩
  .have t:(cN r).take 41=cN r:=YK O;have u:¬ (40<(cN r).length\/40<r.ti):=O
   rw[t,Xs c2,Xs u];by_cases c3:cN r=[]\/((cN r).length:N)<r.ti
   .rw[Xt c3,Xt c3];exact⟨rfl,fun e=>by omega⟩
   .have f:cN r≠[]:=fun e=>c3 (.inl e)
    rw[Xs c3,Xs c3,yS k f];refine⟨rfl,fun e=>⟨rfl,f,O,fin f ?_⟩⟩;rw[yS k f];intro q;rw[Xt q] at e;omega
def jd(r:cP)(l:J N):J (N × N):=l.map fun d=>(d*1440+r.mn,d*1440+r.mn+r.mi)
end Rd
open Go.RowKit
namespace aA
def jZ(name:Xm)(es:J aQ)(a b:N)(m x:N):N:=if a<x/\x<b/\m<cM name x es then cM name x es else m
def nY(name:Xm)(es:J aQ)(a b:N):N:=(fW name es).foldl (jZ name es a b) (cM name a es)
end aA
theorem Qs(d:M)(a:Xo Addr)(cap E:M)(es:J aA.aQ)(name:Xm)(fr til:N)(w:Xz)(h:oJ w d a cap E es)(hl:es.length<=1000)(X:∀ e∈es,aA.Small e):XD prog 123 #[d,name,fr,til] w fun e w'=>e=XQ (V Y (aA.nY name es fr til))/\XC w w w':=by
 have ST:=aB (fun w' (k:XC w w w')=>IY d a cap E es name w' (h.later k) hl X);have TK:=aB (fun t w' (k:XC w w w')=>IF d a cap E es name t w' (h.later k) hl X);have sz:=De name es X;have H:aA.nY name es fr til=(aA.fW name es).foldl (aA.jZ name es fr til) (aA.cM name fr es):=rfl;rw[H];generalize aA.fW name es=l at *;have ac:l.length<=100000:=O;clear h X H sz;go_in;go_wp21;refine aK (TK _ _ fI) fun w1 S=>?_;have C:=aB S;clear S;go_wp21;refine (ST _ C).mono ?_;rintro e w2 ⟨v2,rfl,I,R⟩;obtain⟨a2,c2,g2,rfl,aa,W,G⟩:=Ad I;have R2:=aB (Yc W (Yc G (bU C R aJ)));clear ST I R W G C aa;go_wp21;go_loopw [9,11,12] (fun m i _ wx=>∃ j:M,j<=l.length/\i=V Y j/\m=V Y ((l.take j).foldl (aA.jZ name es fr til) (aA.cM name fr es))/\XC w2 w2 wx) (fun _ i _ _=>l.length-(intOf i).toNat)
 .exact⟨0,YJ _,rfl,rfl,Below.refl _ _⟩
 .obtain⟨j,hj,rfl,rfl,T⟩:=hrel;have K:=bU R2.2.2 T aJ;have A:=aB K;have HB:=aB T;clear K
  by_cases r:j<l.length
  .obtain rfl:=R2.1 (by intro e;simp[e] at r);have c0:=aT T (R2.2.1 j r);have ab:(j:N)<(l.length:N):=O
   have D:(l.take (j+1)).foldl (aA.jZ name es fr til) (aA.cM name fr es)=aA.jZ name es fr til ((l.take j).foldl (aA.jZ name es fr til) (aA.cM name fr es)) l[j]:=by rw[YI r,ZZ];rfl
   have p:=aB D;have f:=aB (TK l[j]);generalize (l.take j).foldl (aA.jZ name es fr til) (aA.cM name fr es)=m at *;have q:Hid (aA.jZ name es fr til m l[j]=if fr<l[j]/\l[j]<til/\m<aA.cM name l[j] es then aA.cM name l[j] es else m):=rfl;generalize aA.cM name l[j] es=tk at *;clear D T;by_cases h1:fr<l[j]
   .by_cases h2:l[j]<til
    .by_cases h3:m<tk
     .have u:Hid ((l.take (j+1)).foldl (aA.jZ name es fr til) (aA.cM name fr es)=tk):=by show _=tk;rw[p,q,Xt ⟨h1,h2,h3⟩]
      go_wp21;refine aK (f _ A) fun w4 c=>?_;have B:=aB (bU HB c aJ);clear c f;go_wp21;go_roundw
      .exact⟨j+1,O,by go_num,by rw[u],B⟩
      .simp[intOf];omega
     .have u:Hid ((l.take (j+1)).foldl (aA.jZ name es fr til) (aA.cM name fr es)=m):=by show _=m;rw[p,q,Xs (fun x=>h3 x.2.2)]
      go_wp21;refine aK (f _ A) fun w4 c=>?_;have B:=aB (bU HB c aJ);clear c f;go_wp21;go_roundw
      .exact⟨j+1,O,by go_num,by rw[u],B⟩
      .simp[intOf];omega
    .have u:Hid ((l.take (j+1)).foldl (aA.jZ name es fr til) (aA.cM name fr es)=m):=by show _=m;rw[p,q,Xs (fun x=>h2 x.2.1)]
     go_wp21;go_roundw
     .exact⟨j+1,O,by go_num,by rw[u],HB⟩
     .simp[intOf];omega
   .have u:Hid ((l.take (j+1)).foldl (aA.jZ name es fr til) (aA.cM name fr es)=m):=by show _=m;rw[p,q,Xs (fun x=>h1 x.1)]
    go_wp21;go_roundw
    .exact⟨j+1,O,by go_num,by rw[u],HB⟩
    .simp[intOf];omega
  .have e:l.take j=l:=YK O;have ab:¬ (j:N)<(l.length:N):=O
   clear T;go_wp21;go_ret;exact⟨jy (by first|rfl|rw[e]),A⟩
namespace aA
def iZ:J aQ->J N
 |[]=>[]
 |e :: r=>e.aR.map (·.2)++iZ r
theorem Sp(l r:J aQ):iZ (l++r)=iZ l++iZ r:=by
 induction l with
 |nil=>rfl
 |cons e l ih=>simp only[Yj,iZ,ih,Y8]
def mw(ts:J (Xm × N))(es:J aQ)(name:Xm)(aN long fr til c s:N):N :=if s<fr\/til<s+long\/(0<=c/\c<=s) then c else if eT ts es name aN [(s,s+long)] then s else c
def kP(ts:J (Xm × N))(es:J aQ)(name:Xm)(aN long fr til:N):N:=(fr :: iZ es).foldl (mw ts es name aN long fr til) (-1)
def G8(es:J aQ):Prop:=∀ e∈es,∀ s∈e.aR,0<=s.2/\s.2<=2000000
theorem IC(l:J aQ)(h:∀ e∈l,Small e):(iZ l).length<=100*l.length:=by
 induction l with
 |nil=>simp[iZ]
 |cons e l ih =>have i:=ih (fun x c=>h x (by simp[c]));have s:=(h e Xc).sl;simp only[iZ,Yx,Yy,Zd];omega
theorem QR(l:J aQ)(h:G8 l):∀ x∈iZ l,0<=x/\x<=2000000:=by
 induction l with
 |nil=>simp[iZ]
 |cons e l ih =>
  intro x c;simp only[iZ,X8,YN] at c;rcases c with ⟨s,f,rfl⟩|c
  .exact h e Xc s f
  .exact ih (fun e k=>h e (by simp[k])) x c
end aA
def pE(fr:N)(l:J aA.aQ)(e:aA.aQ)(j:M):J N:=fr :: (aA.iZ l++(e.aR.take j).map (·.2))
theorem Qr(d:M)(a:Xo Addr)(cap E:M)(es:J aA.aQ)(at_:Xo Addr)(ct G:M)(ts:J (Xm × N))(name:Xm)(aN long fr til:N)(w:Xz)(h:oJ w d a cap E es)(ht:rK w d at_ ct G ts)(hl:es.length<=1000)(a9:ts.length<=1000)(hs:∀ e∈es,aA.Small e)(he:aA.G8 es)(a8:0<=aN)(a7:aN<=9)(bq:0<=long)(bn:long<=2000000)(bh:0<=fr)(bg:fr<=2000000):XD prog 124 #[d,name,aN,long,fr,til] w fun e w'=>e=XQ (V Y (aA.kP ts es name aN long fr til))/\XC w w w':=by
 obtain⟨i0,bf,a4,a3,az⟩:=info_parts qC;have FT:=aB (fun w' (k:XC w w w') B cb L hL bc=>H8 d a cap E es at_ ct G ts name aN B cb L w' (h.later k) (ht.later k) hL hl a9 hs bc a8 a7);have H:=aB h;have HS:=aB hs;have sz:=aA.IC es hs;have ab:Hid (∀ x∈fr :: aA.iZ es,0<=x/\x<=2000000):=by
  intro x hx;rcases X7.1 hx with rfl|hx
  .exact⟨bh,bg⟩
  .exact aA.QR es he x hx
 have ao:aA.kP ts es name aN long fr til=(fr :: aA.iZ es).foldl (aA.mw ts es name aN long fr til) (-1):=rfl;rw[ao];obtain⟨l,X⟩:∃ l,fr :: aA.iZ es=l:=⟨_,rfl⟩;have bs:l.length<=100100:=by rw[<- X,Yy];omega
 rw[X] at ab ⊢;have aw:=aB X;clear h ht hs he ao X;go_in;go_wp21;have o0:(w.alloc (XR #[fr] 3)).ownsRow w 3 1 (XI w 1 1) 1 ([fr].map (V Y)) :=⟨rfl,.inr ⟨w,1,#[fr],rfl,XS _,dH _ _,XS _,by unfold maxLen;omega,rfl,rfl⟩⟩
 have O0:=aB (Yc o0 ((zr _ w).alloc aJ (XR #[fr] 3)));clear o0;go_loopw [13,14,15] (fun v i _ wx=>∃ k:M,k<=es.length/\i=V Y k/\wx.ownsRow w 3 1 v (fr :: aA.iZ (es.take k)).length ((fr :: aA.iZ (es.take k)).map (V Y))/\XC w w wx) (fun _ i _ _=>es.length-(intOf i).toNat)
 .exact⟨0,YJ _,rfl,O0.1,O0.2⟩
 .obtain⟨k,hk,rfl,f,t⟩:=hrel;have bl:=YR k es;have hx:=H.later t;have cc:=hx.c;have bm:=aA.IC (es.take k) (fun e he=>HS e (List.mem_of_mem_take he))
  by_cases W:k<es.length
  .obtain rfl:=H.at W;obtain⟨B,cp,ad⟩:=H.r k W;have c4:=(ad.later t).c4;have al:=HS es[k] (zg W);have I:(k:N)<(es.length:N):=O
   have e:fr :: aA.iZ (es.take (k+1))=fr :: (aA.iZ (es.take k)++es[k].aR.map (·.2)):=by rw[YI W,aA.Sp];simp[aA.iZ]
   have EE:=aB e;have sl:=al.sl;have R0:=aB ad;have HO:=aB (Yc f t);clear e ad hx al f t;go_wp21;go_loopw [13,15] (fun v i wx=>∃ j:M,j<=es[k].aR.length/\i=V Y j/\wx.ownsRow w 3 1 v (pE fr (es.take k) es[k] j).length ((pE fr (es.take k) es[k] j).map (V Y))/\XC w w wx) (fun _ i _=>es[k].aR.length-(intOf i).toNat)
   .exact⟨0,YJ _,rfl,by rw[pE];simpa using HO.out.1,HO.2⟩
   .obtain⟨j,hj,rfl,f,t⟩:=hrel;clear cc c4;have cc:=(H.later t).c;have c4:=(R0.later t).c4;have aa:=aB (Yc f t);have aq:=t.size
    by_cases u:j<es[k].aR.length
    .have r1:=(R0.sl.later t j u).2;have ae:(j:N)<(es[k].aR.length:N):=O
     have av:pE fr (es.take k) es[k] (j+1)=pE fr (es.take k) es[k] j++[es[k].aR[j].2]:=by unfold pE;rw[YI u,YS,Yj,Y8];rfl
     have ES:=aB av;have bj:(pE fr (es.take k) es[k] j).length<=100*k+101:=by unfold pE;have:=YR j es[k].aR;simp only[Yy,Yx,Zd];omega
     clear av t;go_wp2_with (first
      |(at_builtin;refine wpList_append_own _ rfl _ _ 53 rfl w 3 i0 (V Y 0) 1 8 underlying53 bf a4 a3 az rfl Xd _ _ _ rfl (f.alloc _) (wr,0) 1 1 [V Y es[k].aR[j].2] rfl rfl (Ze (cs:=#[V Y es[k].aR[j].2]) (dH wr _)) Xk Xj O Xh ?_;intro v' w' D K _))
     have ar:XC w w w':=(aa.2.alloc aq _).grown K Xh (fun k hk=>gU aa.1 hk);have HK:Hid (w'.ownsRow w 3 1 v' (pE fr (es.take k) es[k] (j+1)).length ((pE fr (es.take k) es[k] (j+1)).map (V Y))):=by show w'.ownsRow _ _ _ _ _ _;rw[ES,YS,Yx];exact D
     have bi:=aB ar;clear D K ar f aa r1 cc c4;go_wp21;go_roundw
     .exact⟨j+1,O,by go_num,HK,bi⟩
     .simp[intOf];omega
    .have ae:¬ (j:N)<(es[k].aR.length:N):=O
     have ac:pE fr (es.take k) es[k] j=fr :: aA.iZ (es.take (k+1)):=by have et:es[k].aR.take j=es[k].aR:=YK O;rw[EE,pE,et]
     have HK:Hid (wr.ownsRow w 3 1 u13 (fr :: aA.iZ (es.take (k+1))).length ((fr :: aA.iZ (es.take (k+1))).map (V Y))):=by show wr.ownsRow _ _ _ _ _ _;rw[<- ac];exact f
     clear f t ac;go_wp21;go_roundw
     .exact⟨k+1,O,by go_num,HK,aa.2⟩
     .simp[intOf];omega
  .have e:es.take k=es:=YK O;have I:¬ (k:N)<(es.length:N):=O
   rw[e,aw] at f;obtain⟨a2,c2,g2,rfl,ba,au,an⟩:=Ad f;have R2:=aB (Yc au (Yc an t));clear f t e au an ba aw hx O0;go_wp21;go_loopw [16,17,18,19] (fun b i _ _ wx=>∃ j:M,j<=l.length/\i=V Y j/\b=V Y ((l.take j).foldl (aA.mw ts es name aN long fr til) (-1))/\XC w w wx/\∀ (i:M) (I:i<l.length),wx.cell? (g2,i)=U (V Y l[i])) (fun _ i _ _ _=>l.length-(intOf i).toNat)
   .exact⟨0,YJ _,rfl,rfl,R2.2.2,R2.2.1⟩
   .obtain⟨j,hj,rfl,rfl,t,S⟩:=hrel;have aj:=aB t;have HC:=aB S;clear S
    by_cases u:j<l.length
    .obtain rfl:=R2.1 (by intro e;simp[e] at u);have c0:=HC j u;have ae:(j:N)<(l.length:N):=O
     have ak:(l.take (j+1)).foldl (aA.mw ts es name aN long fr til) (-1)=aA.mw ts es name aN long fr til ((l.take j).foldl (aA.mw ts es name aN long fr til) (-1)) l[j]:=by rw[YI u,ZZ];rfl
     have ag:=aB ak;have hm:=ab.out l[j] (zg u);generalize (l.take j).foldl (aA.mw ts es name aN long fr til) (-1)=b at *;generalize l[j]=sx at *;have ai:Hid (aA.mw ts es name aN long fr til b sx=if sx<fr\/til<sx+long\/(0<=b/\b<=sx) then b else if aA.eT ts es name aN [(sx,sx+long)] then sx else b):=rfl;clear ak t;by_cases p:sx<fr\/til<sx+long\/(0<=b/\b<=sx)
     .have HE:Hid ((l.take (j+1)).foldl (aA.mw ts es name aN long fr til) (-1)=b):=by show _=b;rw[ag,ai,Xt p]
      have R:sx<fr\/(¬ sx<fr/\til<sx+long)\/(¬ sx<fr/\¬ til<sx+long/\0<=b/\b<=sx):=O;clear p;rcases R with q1|⟨q1,q2⟩|⟨q1,q2,q3,q4⟩;all_goals
       go_wp21;go_roundw
       .exact⟨j+1,O,by go_num,by rw[HE],aj,HC⟩
       .simp[intOf];omega
     .have hB:iW (wr.alloc (XR #[V Y sx,V Y (sx+long)] 83)) wr [(sx,sx+long)]:=by
       intro i I;have:i=0:=by simpa using I
       subst this;exact⟨by simp,by simp⟩
      have af:XC w w (wr.alloc (XR #[V Y sx,V Y (sx+long)] 83)):=bU aj aS aJ;have C:=aB (FT _ af wr 1 [(sx,sx+long)] hB Xc);have ay:=aB af;have ax:Hid (∀ (i:M) (I:i<l.length),(wr.alloc (XR #[V Y sx,V Y (sx+long)] 83)).cell? (g2,i)=U (V Y l[i])):=fun i I=>aT aS (HC i I);have q1:¬ sx<fr:=O;have q2:¬ til<sx+long:=O;have hz:(wr.alloc (XR #[V Y sx,V Y (sx+long)] 83)).heap.size=wr.heap.size+1:=Xc;clear hB af hz
      cases q:aA.eT ts es name aN [(sx,sx+long)]
      .have HE:Hid ((l.take (j+1)).foldl (aA.mw ts es name aN long fr til) (-1)=b):=by show _=b;rw[ag,ai,Xs p,q];rfl
       rw[q] at C;have R:b<0\/(0<=b/\sx<b):=O;clear p q;rcases R with q3|⟨q3,q4⟩;all_goals
        go_wp21;refine C.mono ?_;rintro e w4 ⟨rfl,A⟩;have T:=aB (Yc (bU ay A aJ) (fun i I=>aT A (ax i I)));clear A C;go_wp21;go_roundw
        .exact⟨j+1,O,by go_num,by rw[HE],T.1,T.2⟩
        .simp[intOf];omega
      .have HE:Hid ((l.take (j+1)).foldl (aA.mw ts es name aN long fr til) (-1)=sx):=by show _=sx;rw[ag,ai,Xs p,q];rfl
       rw[q] at C;have R:b<0\/(0<=b/\sx<b):=O;clear p q;rcases R with q3|⟨q3,q4⟩;all_goals
        go_wp21;refine C.mono ?_;rintro e w4 ⟨rfl,A⟩;have T:=aB (Yc (bU ay A aJ) (fun i I=>aT A (ax i I)));clear A C;go_wp21;go_roundw
        .exact⟨j+1,O,by go_num,by rw[HE],T.1,T.2⟩
        .simp[intOf];omega
    .have e:l.take j=l:=YK O;have ae:¬ (j:N)<(l.length:N):=O
     clear t;go_wp21;go_ret;exact⟨jy (by first|rfl|rw[e]),aj⟩
namespace aA
def sE(a x:N):J N->N
 |[]=>a
 |s :: r=>if s<=x/\sE a x r<s then s else sE a x r
theorem F8(a x:N)(h:a<=x):∀ l:J N,a<=sE a x l/\sE a x l<=x/\(sE a x l=a\/sE a x l∈l)/\∀ s∈l,s<=x->s<=sE a x l
 |[]=>⟨ZQ _,h,.inl rfl,by simp⟩
 |s :: r=>by
  let⟨h1,h2,f,h4⟩:=F8 a x h r;simp only[sE];split
  .rename_i c
   refine⟨O,c.1,.inr Xc,fun t ht k=>?_⟩;rcases X7.1 ht with rfl|ht
   .omega
   .have:=h4 t ht k;omega
  .rename_i c
   refine⟨h1,h2,?_,fun t ht k=>?_⟩
   .rcases f with f|f
    .exact .inl f
    .exact .inr (by simp[f])
   .rcases X7.1 ht with rfl|ht
    .omega
    .exact h4 t ht k
theorem M0(f:y<=x)(h:∀ s∈L,s.1<=x->s.1<=y):eM L x<=eM L y:=by
 unfold eM;rw[<- Z4,<- Z4];have:Z5 (hasB x) L<=Z5 (hasB y) L:=Z6 (fun s k c=>by simp[hasB] at c ⊢;have:=h s k c.1;omega)
 omega
def Pos(es:J aQ):Prop:=∀ e∈es,0<=e.aN
theorem F9{name:Xm}{x y:N}(f:y<=x):∀ {es:J aQ},Pos es->(∀ s∈fW name es,s<=x->s<=y)->cM name x es<=cM name y es
 |[],_,_=>ZQ _
 |e :: r,hp,h=>by
  have ih:=F9 (name:=name) f (es:=r) (fun z q=>hp z (by simp[q])) (fun s p=>h s (by simp[fW,p]));simp only[cM];by_cases c:dB name e=Xy
  .rw[Xt c,Xt c];have p:dI e.bH name=Xy:=by simp[dB] at c;exact c.1
   have A:=M0 f (fun s k t=>h s.1 (by simp[fW,p];exact .inl ⟨s.2,k⟩) t);have u:=hp e Xc;have:eM e.aR x*e.aN<=eM e.aR y*e.aN:=Z7 A u;omega
  .rw[Xs c,Xs c];omega
theorem b7K(c:Pos es){a:N}(h:a<=x):∃ y,a<=y/\y<=x/\(y=a\/y∈fW name es)/\cM name x es<=cM name y es:=by let⟨h1,h2,h3,h4⟩:=F8 a x h (fW name es);exact⟨_,h1,h2,h3,F9 h2 c h4⟩
theorem wL{aN:N}(t:Pos es)(r:0<=aN):eT ts es name aN L=Xy↔∀ x,0<eM L x->cM name x es+eM L x*aN<=cI name ts:=by
 constructor
 .intro h x f
  have k:∃ s∈L,s.1<=x/\x<s.2:=by unfold eM at f;have B:0<(L.filter (hasB x)).length:=O;let⟨s,c⟩:=Z8 B;have:=ZW.1 c;simp[hasB] at this;exact⟨s,this.1,this.2⟩
  let⟨s0,hs0,k1,k2⟩:=k;let⟨h1,h2,h3,h4⟩:=F8 s0.1 x k1 (fW name es++L.map (·.1));generalize sE s0.1 x (fW name es++L.map (·.1))=y at h1 h2 h3 h4;have p:y∈fW name es++L.map (·.1):=Xi;have ht:=F9 (name:=name) (es:=es) h2 t (fun s c=>h4 s (by simp[c]));have A:eM L x<=eM L y:=M0 h2 (fun s c=>h4 s.1 Xi);have C:=Zx.1 h y p;simp[ss] at C;have q:0<eM L y:=O;have u:=Z7 A r;omega
 .intro h;unfold eT qV;rw[Zx];intro x _;simp[ss]
  by_cases f:0<eM L x
  .exact .inr (h x f)
  .exact .inl O
theorem FH(a b x:N):eM [(a,b)] x=if a<=x/\x<b then 1 else 0:=by
 unfold eM;by_cases h:a<=x/\x<b
 .rw[Xt h];simp[hasB,h.1,h.2]
 .rw[Xs h];have:hasB x (a,b)=Xx:=by simp[hasB];omega
  simp[this]
theorem F7{aN a:N}(r:Pos es)(q:0<=aN):eT ts es name aN [(a,b)]=Xy↔∀ x,a<=x->x<b->cM name x es+aN<=cI name ts:=by
 rw[wL r q];constructor
 .intro h x p k;have:=h x (by rw[FH,Xt ⟨p,k⟩];omega);rw[FH,Xt ⟨p,k⟩] at this;omega
 .intro h x f;rw[FH] at f ⊢
  by_cases c:a<=x/\x<b
  .rw[Xt c];have:=h x c.1 c.2;omega
  .rw[Xs c] at f;omega
def vU(f:N->N)(a b m:N):Prop:=(∀ x,a<=x->x<b->f x<=m)/\∃ x,a<=x/\x<b/\f x=m
theorem vU.eq{f:N->N}{a n:N}(h:vU f a b m)(k:vU f a b n):m=n:=by grind[vU]
theorem Lv{name:Xm}{es:J aQ}{a b:N}:∀ (l:J N)(m:N),m<=l.foldl (jZ name es a b) m/\(∀ x∈l,a<x->x<b->cM name x es<=l.foldl (jZ name es a b) m)/\(l.foldl (jZ name es a b) m=m\/∃ x∈l,a<x/\x<b/\l.foldl (jZ name es a b) m=cM name x es)
 |[],m=>⟨ZQ _,by simp,.inl rfl⟩
 |x :: l,m=>by
  let⟨h1,h2,h⟩:=Lv (name:=name) (es:=es) (a:=a) (b:=b) l (jZ name es a b m x);simp only[Zs];generalize l.foldl (jZ name es a b) (jZ name es a b m x)=R at h1 h2 h ⊢;have r:(jZ name es a b m x=m/\¬ (a<x/\x<b/\m<cM name x es))\/(jZ name es a b m x=cM name x es/\a<x/\x<b/\m<cM name x es):=by unfold jZ;by_cases c:a<x/\x<b/\m<cM name x es;rw[Xt c];exact .inr ⟨rfl,c⟩;rw[Xs c];exact .inl ⟨rfl,c⟩
  rcases r with ⟨e,c⟩|⟨e,c⟩
  .rw[e] at h1 h;refine⟨h1,fun y f q p=>?_,?_⟩
   .rcases X7.1 f with rfl|f
    .omega
    .exact h2 y f q p
   .rcases h with h|⟨y,f,k⟩
    .exact .inl h
    .exact .inr ⟨y,by simp[f],k⟩
  .rw[e] at h1 h;refine⟨O,fun y f q p=>?_,?_⟩
   .rcases X7.1 f with rfl|f
    .omega
    .exact h2 y f q p
   .rcases h with h|⟨y,f,k⟩
    .exact .inr ⟨x,by simp,c.1,c.2.1,h⟩
    .exact .inr ⟨y,by simp[f],k⟩
theorem a6H{a:N}(r:Pos es)(h:a<b):vU (fun x=>cM name x es) a b (nY name es a b):=by
 let⟨h1,h2,f⟩:=Lv (name:=name) (es:=es) (a:=a) (b:=b) (fW name es) (cM name a es);unfold nY;generalize (fW name es).foldl (jZ name es a b) (cM name a es)=R at h1 h2 f ⊢;refine⟨fun x p k=>?_,?_⟩
 .let⟨y,i1,i2,c,i4⟩:=b7K (name:=name) r p;show cM name x es<=R
  by_cases e:y=a
  .subst e;omega
  .rcases c with c|c
   .exact Xu c e
   .have:=h2 y c O O;omega
 .rcases f with f|⟨x,_,p,k,q⟩
  .exact⟨a,ZQ _,h,f.symm⟩
  .exact⟨x,O,k,q.symm⟩
theorem JI{name:Xm}{x:N}:∀ {es:J aQ},Pos es->cM name x es<cM name (x-1) es->x∈iZ es
 |[],_,h=>by simp[cM] at h
 |e :: r,hp,h=>by
  simp only[iZ,X8,YN];by_cases c:∃ s∈e.aR,s.2=x
  .exact .inl c
  .right;refine JI (name:=name) (fun z f=>hp z (by simp[f])) ?_
   have t:eM e.aR (x-1)<=eM e.aR x:=by
    unfold eM;rw[<- Z4,<- Z4];have:Z5 (hasB (x-1)) e.aR<=Z5 (hasB x) e.aR:=Z6 (fun s p u=>by simp[hasB] at u ⊢;have:s.2≠x:=fun e=>c ⟨s,p,e⟩;omega)
    omega
   have k:=hp e Xc;have q:=Z7 t k;simp only[cM] at h;split at h <;> omega
def Dj(r:N):Xo N:=if r<0 then Z else U r
theorem Fc{ts:J (Xm × N)}{es:J aQ}{name:Xm}{aN long fr tq:N}(A:0<=fr):∀ (l:J N)(b:N),-1<=b ->
  (b=-1\/(fr<=b/\b+long<=tq/\eT ts es name aN [(b,b+long)]=Xy)) ->
  let R:=l.foldl (mw ts es name aN long fr tq) b;(R=-1\/(fr<=R/\R+long<=tq/\eT ts es name aN [(R,R+long)]=Xy))/\-1<=R/\(0<=b->0<=R/\R<=b)/\∀ s∈l,fr<=s->s+long<=tq->eT ts es name aN [(s,s+long)]=Xy->0<=R/\R<=s
 |[],b,hb,h=>by grind
 |s :: l,b,hb,h=>by
  intro R;have B:mw ts es name aN long fr tq b s=b/\((s<fr\/tq<s+long\/(0<=b/\b<=s))\/eT ts es name aN [(s,s+long)]=Xx)\/mw ts es name aN long fr tq b s=s/\fr<=s/\s+long<=tq/\eT ts es name aN [(s,s+long)]=Xy/\(b<0\/s<b):=by
   unfold mw;by_cases c:s<fr\/tq<s+long\/(0<=b/\b<=s)
   .rw[Xt c];exact .inl ⟨rfl,.inl c⟩
   .rw[Xs c]
    cases C:eT ts es name aN [(s,s+long)]
    .exact .inl ⟨by simp,.inr rfl⟩
    .exact .inr ⟨by simp,O,O,rfl,O⟩
  rcases B with ⟨e,c⟩|⟨e,c1,c2,c3,c4⟩
  .have ih:=Fc (ts:=ts) (es:=es) (name:=name) (aN:=aN) (long:=long) (tq:=tq) A l b hb h;have u:R=l.foldl (mw ts es name aN long fr tq) b:=Xi
   rw[<- u] at ih;let⟨i1,i2,i3,i4⟩:=ih;refine⟨i1,i2,i3,fun t ht q p f=>?_⟩;rcases X7.1 ht with rfl|ht
   .rcases c with c|c
    .have:=i3 O;omega
    .rw[f] at c;cases c
   .exact i4 t ht q p f
  .have ih:=Fc (ts:=ts) (es:=es) (name:=name) (aN:=aN) (long:=long) (tq:=tq) A l s O (.inr ⟨c1,c2,c3⟩);have u:R=l.foldl (mw ts es name aN long fr tq) s:=Xi
   rw[<- u] at ih;let⟨i1,i2,i3,i4⟩:=ih;have r:=i3 O;refine⟨i1,i2,fun k=>by omega,fun t ht q p f=>?_⟩;rcases X7.1 ht with rfl|ht
   .exact r
   .exact i4 t ht q p f
theorem Vg(P:N->Prop)(fr:N):∀ (n:M)(s:N),s=fr+n->P s->∃ r,fr<=r/\r<=s/\P r/\∀ t,fr<=t->t<r->¬ P t:=by
 intro n;induction n using Nat.strongRecOn with
 |_ n ih =>intro s q p;by_cases c:∃ t,fr<=t/\t<s/\P t;let⟨t,k,h,f⟩:=c;let⟨r,i1,i2,i3,i4⟩:=ih (t-fr).toNat O t O f;exact⟨r,i1,O,i3,i4⟩;exact⟨s,O,ZQ _,p,fun t k h f=>c ⟨t,k,h,f⟩⟩
theorem UB{aN:N}(t:Pos es)(A:0<=aN)(H:0<=fr)(_hl:1<=long):-1<=kP ts es name aN long fr tq/\tO (fun x=>cM name x es) fr tq long (cI name ts-aN) (Dj (kP ts es name aN long fr tq)):=by
 have B:∀ s,pe (fun x=>cM name x es) long (cI name ts-aN) s↔eT ts es name aN [(s,s+long)]=Xy:=by
  intro s;rw[F7 t A];constructor
  .intro h x c f;have:=h x c f;have this:cM name x es<=cI name ts-aN:=this;omega
  .intro h x c f;have:=h x c f;show cM name x es<=cI name ts-aN;omega
 let⟨D,h2,_,h4⟩:=Fc (ts:=ts) (es:=es) (name:=name) (aN:=aN) (long:=long) (tq:=tq) H (fr :: iZ es) (-1) (ZQ _) (.inl rfl);unfold kP;generalize (fr :: iZ es).foldl (mw ts es name aN long fr tq) (-1)=R at D h2 h4 ⊢;have key:∀ s,fr<=s->s+long<=tq->eT ts es name aN [(s,s+long)]=Xy->0<=R/\R<=s:=by
  intro s c f k;let⟨r,u,E,q,i4⟩:=Vg (fun s=>eT ts es name aN [(s,s+long)]=Xy) fr (s-fr).toNat s O k;have:r∈fr :: iZ es:=by
   by_cases e:r=fr
   .simp[e]
   .have C:=i4 (r-1) O O;have p:=(F7 t A).1 q
    have:∃ x,r-1<=x/\x<r-1+long/\cI name ts<cM name x es+aN:=by
     apply ZU;intro G;apply C;apply (F7 t A).2;intro x j1 j2;by_cases d:cM name x es+aN<=cI name ts
     .exact d
     .exact Xu ⟨x,j1,j2,O⟩ G
    let⟨x,j1,j2,j3⟩:=this;have I:x=r-1:=by
     by_cases d:r<=x
     .have:=p x d O;omega
     .omega
    subst I;have:=p r (ZQ _) O;exact Zk _ (JI (name:=name) t O)
  have:=h4 r this u O q;omega
 refine⟨h2,?_⟩;unfold Dj;split
 .intro s c f k;have:=key s c f ((B s).1 k);omega
 .rcases D with D|⟨u,E,q⟩
  .omega
  .refine⟨u,E,(B R).2 q,fun s c f k=>?_⟩;have:=key s c O ((B s).1 k);omega
theorem VK{f:N->N}{a:N}{r q:Xo N}(h:tO f a b long level r)(k:tO f a b long level q):r=q:=by
 cases r with
 |none =>
  cases q with
  |none=>rfl
  |some s=>exact Xu k.2.2.1 (h s k.1 k.2.1)
 |some s =>
  cases q with
  |none=>exact Xu h.2.2.1 (k s h.1 h.2.1)
  |some t =>
   let⟨h1,h2,h3,h4⟩:=h;let⟨k1,k2,k3,k4⟩:=k;by_cases c:s<t
   .exact Xu h3 (k4 s h1 c)
   .by_cases d:t<s
    .exact Xu k3 (h4 t k1 d)
    .exact congrArg U O
theorem b4a{f g:N->N}{a:N}{r:Xo N}(h:tO f a b long level r)(p:∀ x,a<=x->x<b->f x=g x):tO g a b long level r:=by
 have key:∀ s,a<=s->s+long<=b->(pe f long level s↔pe g long level s):=by intro s c k;constructor;intro h x A u;rw[<- p x O O];exact h x A u;intro h x A u;rw[p x O O];exact h x A u
 cases r with
 |none=>exact fun s c k q=>h s c k ((key s c k).2 q)
 |some s =>let⟨h1,h2,h3,h4⟩:=h;exact⟨h1,h2,(key s h1 h2).1 h3,fun t c k q=>h4 t c k ((key t c O).2 q)⟩
end aA
namespace aA
def ec(name:Xm):J aQ->J Xp->N
 |[],_=>0
 |e :: r,p=>(if dB name e then e.aN*iD e.aR p else 0)+ec name r p
theorem ML(name:Xm)(l r:J aQ)(p:J Xp):ec name (l++r) p=ec name l p+ec name r p:=by
 induction l with
 |nil=>simp[ec]
 |cons e l ih=>simp only[Yj,ec,ih];omega
theorem Wf(h:dB name e=Xy):dK (ec name es) e.aR e.aN=ec name (es++[e]):=by funext p;simp only[dK,ML,ec,h,if_true];omega
theorem MQ(h:dB name e=Xx):ec name (es++[e])=ec name es:=by funext p;simp[ML,ec,h]
theorem wm(name:Xm)(p:J Xp):∀ es:J aQ,(∀ e∈es,Small e)->0<=ec name es p/\ec name es p<=900*es.length
 |[],_=>by simp[ec]
 |e :: r,h=>by have i:=wm name p r (fun x f=>h x (by simp[f]));have s:=h e Xc;have b:=yi e.aR p;have k:=s.sl;have c:0<=e.aN*iD e.aR p:=YF s.u0 b.1;have d:e.aN*iD e.aR p<=9*100:=Int.mul_le_mul s.u1 O b.1 O;simp only[ec,Yy];split <;> omega
theorem Small.pos(h:∀ e∈es,Small e):Pos es:=fun e c=>(h e c).u0
def yt(es:J aQ):Prop:=∀ e∈es,∀ s∈e.aR,s.1<s.2
theorem yW(name:Xm){x:N}(q:0<=x)(k:x<1048320):∀ es:J aQ,yt es->rj (ec name es) x=cM name x es
 |[],_=>by
  have:ec name []=fun _=>0:=by funext p;rfl
  rw[this];exact aL.b0h 20 0 1048320 x
 |e :: r,h=>by
  have ih:=yW name q k r (fun z t=>h z (by simp[t]));by_cases f:dB name e=Xy
  .have:ec name (e :: r)=dK (ec name r) e.aR e.aN:=by funext p;simp only[ec,dK,f,if_true];omega
   rw[this,Mm _ _ _ _ q k (h e Xc),ih];simp only[cM,f,if_true];have:((e.aR.filter fun s=>decide (s.1<=x) && decide (x<s.2)).length:N)=eM e.aR x:=rfl;rw[this,Int.mul_comm];omega
  .have c:dB name e=Xx:=Xi
   have:ec name (e :: r)=ec name r:=by funext p;simp[ec,c]
   rw[this,ih];simp[cM,c]
theorem WC{aN u:N}(t:∀ e∈es,Small e)(B:yt es)(D:qW L)(E:0<=u)(A:cI name ts=aN):mX (dK (ec name es) L u) aN L=eT ts es name u L:=by
 have G:∀ p,0<=dK (ec name es) L u p:=fun p=>by have:=(wm name p es t).1;have:=(yi L p).1;have:0<=u*iD L p:=YF E this;unfold dK;omega
 have c:∀ x,0<=x->x<1048320->rj (dK (ec name es) L u) x=cM name x es+eM L x*u:=by intro x I H;rw[Mm _ _ _ _ I H (fun s t=>(D s t).2.1),yW name I H es B];have:((L.filter fun s=>decide (s.1<=x) && decide (x<s.2)).length:N)=eM L x:=rfl;rw[this,Int.mul_comm]
 rw[Zv,wL (Small.pos t) E,A];unfold mX;rw[Zx];constructor
 .intro h x K;have R:0<(L.filter (hasB x)).length:=by unfold eM at K;omega
  let⟨s,r⟩:=Z8 R;have r:=ZW.1 r;have C:=r.2;simp[hasB] at C;have k:=D s r.1;have:=of_decide_eq_true (h s r.1);have m:=(EF G k.1 k.2.1 k.2.2).1 x C.1 C.2;rw[c x O O] at m;omega
 .intro h s f;have k:=D s f;let⟨_,x,m1,m2,m3⟩:=EF G k.1 k.2.1 k.2.2;rw[c x O O] at m3
  have q:0<eM L x:=by unfold eM;have:s∈L.filter (hasB x):=ZW.2 ⟨f,by simp[hasB,m1,m2]⟩;have:=List.length_pos_of_mem this;omega
  have:=h x q;exact decide_eq_true O
theorem VR{a:N}(q:∀ e∈es,Small e)(c:yt es)(u:0<=a)(r:a<b)(t:b<=1048320):uK (ec name es) (a,b)=nY name es a b:=by have m:=EF (A:=ec name es) (s:=(a,b)) (fun p=>(wm name p es q).1) u r t;refine vU.eq (f:=fun x=>cM name x es) (a:=a) (b:=b) ⟨fun x k h=>?_,?_⟩ (a6H (Small.pos q) r);have:=m.1 x k h;rw[yW name O Xi es c] at this;exact this;let⟨x,k,h,k3⟩:=m.2;rw[yW name Xi Xi es c] at k3;exact⟨x,k,h,k3⟩
def Jr:Xo N->N
 |none=>-1
 |some s=>s
theorem Wy{aN a:N}{r:Xo N}(p:∀ e∈es,Small e)(f:yt es)(t:0<=a)(C:b<=1048320)(k:0<=aN)(q:1<=long)(h:tO (aL.fh (lL (ec name es)) 0 1048320) a b long (cI name ts-aN) r):kP ts es name aN long a b=Jr r:=by
 let⟨k1,k2⟩:=UB (ts:=ts) (es:=es) (name:=name) (aN:=aN) (long:=long) (fr:=a) (tq:=b) (Small.pos p) k t q;have u:=b4a h (g:=fun x=>cM name x es) (fun x B A=>yW name O O es f);have e:=VK u k2;rw[e];generalize kP ts es name aN long a b=R at *;unfold Dj;by_cases c:R<0;rw[Xt c];show R=-1;omega;rw[Xs c];rfl
def kept(id:N)(es:J aQ):J aQ:=es.filter fun e=>e.id != id
def ek(e:aQ):aQ:={ e with kind:=1,bZ:=0 }
def fc(id:N)(es:J aQ):J aQ:=es.map fun e=>if e.id=id then ek e else e
def eD(es:J aQ):Prop:=(es.map (·.id)).Pairwise (· < ·)
theorem eD.cons{r:J aQ}(h:eD (e :: r)):(∀ z∈r,e.id<z.id)/\eD r:=by simp_all[eD]
theorem eD.one(h:eD es):∀ {x y:aQ},x∈es->y∈es->x.id=y.id->x=y:=by
 induction es with
 |nil=>intro x y f;simp at f
 |cons e r ih =>
  intro x y f c k;let⟨h1,h2⟩:=h.cons;rcases X7.1 f with f|f
  .rcases X7.1 c with c|c
   .rw[f,c]
   .have:=h1 y c;rw[f] at k;omega
  .rcases X7.1 c with c|c
   .have:=h1 x f;rw[c] at k;omega
   .exact ih h2 f c k
theorem Fj(h:∀ e∈es,e.id≠id):kept id es=es:=ZX.2 (fun e c=>by grind)
theorem Bt{id:N}:∀ {es:J aQ},(∀ e∈es,e.id≠id)->fc id es=es
 |[],_=>rfl
 |e :: r,h=>by have i:=Bt (id:=id) (es:=r) (fun z c=>h z (by simp[c]));unfold fc at i ⊢;rw[List.map_cons,i,Xs (h e Xc)]
theorem b8M(es:J aQ):(fc id es).map (·.id)=es.map (·.id):=by unfold fc;rw[List.map_map];apply List.map_congr_left;intro e _;show (if e.id=id then ek e else e).id=e.id;split <;> rfl
theorem LO(h:eD es):eD (fc id es):=by unfold eD at *;rw[b8M];exact h
theorem Fz{name:Xm}{e:aQ}(f:dB name e=Xy):∀ {es:J aQ},eD es->e∈es->dK (ec name es) e.aR (-e.aN)=ec name (kept e.id es)
 |[],_,h=>by grind
 |z :: r,hi,h=>by
  let⟨h1,h2⟩:=hi.cons;funext p;by_cases c:z.id=e.id
  .have u:=hi.one h Xc c.symm;subst u
   have:kept e.id (e :: r)=r:=by have k:=Fj (id:=e.id) (es:=r) (fun y q=>by have:=h1 y q;omega);unfold kept at k ⊢;rw[Ym,Xs Xc,k]
   rw[this];simp only[dK,ec,f,if_true];rw[Int.neg_mul];omega
  .have t:e∈r:=by
    rcases X7.1 h with rfl|h
    .exact Xu rfl c
    .exact h
   have i:=congrFun (Fz f h2 t) p;have:kept e.id (z :: r)=z :: kept e.id r:=by unfold kept;rw[Ym,Xt (bV c)]
   rw[this];simp only[dK,ec] at i ⊢;omega
theorem Gd{name:Xm}{id:N}:∀ {es:J aQ},(∀ e∈es,e.id=id->dB name e=Xx)->ec name (kept id es)=ec name es
 |[],_=>rfl
 |z :: r,h=>by have i:=Gd (name:=name) (id:=id) (es:=r) (fun y f=>h y (by simp[f]));funext p;have i:=congrFun i p;unfold kept at i ⊢;rw[Ym];by_cases c:z.id=id;rw[Xs (by simp[c])];simp only[ec,h z Xc c,X4,if_false];rw[i];omega;rw[Xt Xi];simp only[ec,i]
theorem tW:dB name (ek e)=dI e.bH name:=by simp[dB,ek]
theorem MN{name:Xm}{e:aQ}(f:dI e.bH name=Xy)(q:e.kind=3):∀ {es:J aQ},eD es->e∈es->dK (ec name es) e.aR e.aN=ec name (fc e.id es)
 |[],_,h=>by grind
 |z :: r,hi,h=>by
  let⟨h1,h2⟩:=hi.cons;funext p;by_cases c:z.id=e.id
  .have B:=hi.one h Xc c.symm;subst B
   have:fc e.id (e :: r)=ek e :: r:=by have k:=Bt (id:=e.id) (es:=r) (fun y u=>by have:=h1 y u;omega);unfold fc at k ⊢;rw[List.map_cons,Xt rfl,k]
   rw[this];have t:dB name e=Xx:=by simp[dB,q]
   simp only[dK,ec,t,tW,f,if_true,X4,if_false];show 0+ec name r p+e.aN*iD e.aR p=e.aN*iD e.aR p+ec name r p;omega
  .have A:e∈r:=by
    rcases X7.1 h with rfl|h
    .exact Xu rfl c
    .exact h
   have i:=congrFun (MN f q h2 A) p;have:fc e.id (z :: r)=z :: fc e.id r:=by unfold fc;rw[List.map_cons,Xs c]
   rw[this];simp only[dK,ec] at i ⊢;omega
theorem Gj{name:Xm}{id:N}:∀ {es:J aQ},(∀ e∈es,e.id=id->dI e.bH name=Xy->e.kind≠3)->ec name (fc id es)=ec name es
 |[],_=>rfl
 |z :: r,h=>by
  have i:=Gj (name:=name) (id:=id) (es:=r) (fun y f=>h y (by simp[f]));funext p;have i:=congrFun i p;unfold fc at i ⊢;rw[List.map_cons];simp only[ec,i];by_cases c:z.id=id
  .rw[Xt c,tW]
   have e:dB name z=dI z.bH name:=by
    unfold dB
    cases k:dI z.bH name
    .rfl
    .have:=h z Xc c k;simp[this]
   rw[e];rfl
  .rw[Xs c]
theorem uZ:e∈kept id es↔e∈es/\e.id≠id:=by simp[kept]
theorem tZ:e∈fc id es↔(e∈es/\e.id≠id)\/∃ z∈es,z.id=id/\e=ek z:=by
 unfold fc;rw[YN];constructor
 .rintro ⟨z,f,h⟩
  by_cases c:z.id=id
  .rw[Xt c] at h;exact .inr ⟨z,f,c,h.symm⟩
  .rw[Xs c] at h;subst h;exact .inl ⟨f,c⟩
 .rintro (⟨p,k⟩|⟨z,f,p,k⟩)
  .exact⟨e,p,Xs k⟩
  .exact⟨z,f,by grind⟩
end aA
namespace aA
def mU(a b:N)(s:N × N):Xp:=decide (s.1<b) && decide (a<s.2)
def gY(a b:N):J (N × N)->N
 |[]=>-1
 |s :: r=>if mU a b s then s.1 else gY a b r
end aA
theorem C5(x:aA.aQ × M × M)(fr til:Xr)(w:Xz)(h:iW w x.2.1 x.1.aR)(I:x.1.aR.length<=100000):XD prog 166 #[.agg (fg x).toArray,fr,til] w fun e w'=>e=XQ (V Y (aA.gY fr til x.1.aR))/\XC w w w':=by
 have H:=aB h;clear h;simp only[fg];go_in;go_wp21;have t:XC w w (w.alloc (XR #[x.1.id,x.1.kind,x.1.bH,x.1.aN,XI x.2.1 x.1.aR.length x.2.2,x.1.bZ] 85)):=aS;have A:(w.alloc (XR #[x.1.id,x.1.kind,x.1.bH,x.1.aN,XI x.2.1 x.1.aR.length x.2.2,x.1.bZ] 85)).cell? (w,4)=U (XI x.2.1 x.1.aR.length x.2.2):=Xc;have q:=aB (Yc (H.later t) t);clear t;generalize (World.alloc w _)=X at A q ⊢;generalize w=N at A ⊢;go_loop [7] (fun i=>∃ k:M,k<=x.1.aR.length/\i=V Y k/\aA.gY fr til x.1.aR=aA.gY fr til (x.1.aR.drop k)) (fun i=>x.1.aR.length-(intOf i).toNat)
 .exact⟨0,YJ _,rfl,rfl⟩
 .obtain⟨k,K,rfl,D⟩:=hrel;have r:=aB D;clear D
  by_cases p:k<x.1.aR.length
  .obtain⟨c1,c2⟩:=q.1 k p;have G:(k:Xr)<(x.1.aR.length:Xr):=O
   have E:aA.gY fr til (x.1.aR.drop k)=if aA.mU fr til x.1.aR[k] then x.1.aR[k].1 else aA.gY fr til (x.1.aR.drop (k+1)):=by rw[Zg p];rfl
   have u:=aB E;clear E;by_cases C:x.1.aR[k].1<til
   .by_cases B:fr<x.1.aR[k].2
    .have c:Hid (aA.gY fr til x.1.aR=x.1.aR[k].1):=by
      show _=_;have f:aA.mU fr til x.1.aR[k]=Xy:=by simp[aA.mU,C,B]
      rw[r,u,f];rfl
     go_wp21;go_ret;exact⟨jy c.symm,q.2⟩
    .have c:Hid (aA.gY fr til x.1.aR=aA.gY fr til (x.1.aR.drop (k+1))):=by
      show _=_;have f:aA.mU fr til x.1.aR[k]=Xx:=by simp[aA.mU,B]
      rw[r,u,f];rfl
     go_wp21;go_round
     .exact⟨k+1,O,by go_num,c⟩
     .simp[intOf];omega
   .have c:Hid (aA.gY fr til x.1.aR=aA.gY fr til (x.1.aR.drop (k+1))):=by
     show _=_;have f:aA.mU fr til x.1.aR[k]=Xx:=by simp[aA.mU,C]
     rw[r,u,f];rfl
    go_wp21;go_round
    .exact⟨k+1,O,by go_num,c⟩
    .simp[intOf];omega
  .have e:x.1.aR.drop k=[]:=Zh O;have c:Hid (aA.gY fr til x.1.aR=-1):=by show _=_;rw[r,e];rfl
   have G:¬ (k:Xr)<(x.1.aR.length:Xr):=O;clear e;go_wp21;go_ret;exact⟨jy c.symm,q.2⟩
theorem xW:(prog.info? 83).map (fun i=>(i.zero,i.size,i.bytes))=U (U (.agg #[V Y 0,V Y 0]),2,16):=Xg
def lr(s:N × N):J XA:=[V Y s.1,V Y s.2]
theorem xQ(L:J (N × N)):(L.flatMap lr).length=L.length*2:=by
 induction L with
 |nil=>rfl
 |cons x xs ih=>simp only[YU,Yx,Yy,ih,lr,List.length_nil];omega
theorem Q8(L:J (N × N)):∀ (j:M)(u:XA),(L.flatMap lr)[j]?=U u->∃ i,∃ h:i<L.length,(j=i*2/\u=V Y L[i].1)\/(j=i*2+1/\u=V Y L[i].2):=by
 intro j u f;have r:j<L.length*2:=by have:=(List.getElem?_eq_some_iff.1 f).1;rwa [xQ] at this
 have q:j / 2<L.length:=O;refine⟨j / 2,q,?_⟩;have c:L=L.take (j / 2)++L[j / 2] :: L.drop (j / 2+1):=by simp_all
 have k:((L.take (j / 2)).flatMap lr).length=j / 2*2:=by rw[xQ,YW O]
 rw[c,YV,YU,YX O,k,YT (by simp[lr];omega)] at f;rcases (show j % 2=0\/j % 2=1 by omega) with e|e
 .have p:j-j / 2*2=0:=O
  rw[p] at f;simp[lr] at f;exact .inl ⟨O,f.symm⟩
 .have p:j-j / 2*2=1:=O
  rw[p] at f;simp[lr] at f;exact .inr ⟨O,f.symm⟩
theorem Cs{k:M}(h:w.ownsRow k 83 2 (XI g n cap) n (L.flatMap lr)):n=L.length/\iW w g L:=by
 have C:=h.1;rw[xQ] at C;have B:n=L.length:=O;refine⟨B,fun i H=>?_⟩;rcases h.2 with ⟨E,_⟩|⟨W,r,q,t,I,D,T,S,R,K⟩
 .cases E
 .cases t
  have key:∀ (j:M) (u:XA),j<2->(lr L[i])[j]?=U u->w.cell? (g,i*2+j)=U u:=by
   intro j u G A;have X:(L.flatMap lr)[i*2+j]?=U u:=by
    have c:L=L.take i++L[i] :: L.drop (i+1):=by simp_all
    rw[c,YV,YU];have f:((L.take i).flatMap lr).length=i*2:=by rw[xQ,YW O]
    rw[YX O,f,Nat.add_sub_cancel_left,YT Xi];exact A
   have p:(q.toList.take (n*2))[i*2+j]?=U u:=Xi;rw[List.getElem?_take_of_lt O] at p;simp only[Array.getElem?_toList] at p;simp[Yh,D,p]
  exact⟨key 0 _ O rfl,key 1 _ O rfl⟩
theorem ta{b:M}{t:XF}(h:w.heap[b]?=U (XR #[c0,c1,c2,c3,c4,c5] t)):w.cell? (b,0)=U c0:=by simp[Yh,h]
theorem s8{b:M}{t:XF}(h:w.heap[b]?=U (XR #[c0,c1,c2,c3,c4,c5] t)):w.cell? (b,1)=U c1:=by simp[Yh,h]
theorem uw{b:M}{t:XF}(h:w.heap[b]?=U (XR #[c0,c1,c2,c3,c4,c5] t)):w.cell? (b,2)=U c2:=by simp[Yh,h]
theorem ux{b:M}{t:XF}(h:w.heap[b]?=U (XR #[c0,c1,c2,c3,c4,c5] t)):w.cell? (b,3)=U c3:=by simp[Yh,h]
theorem uy{b:M}{t:XF}(h:w.heap[b]?=U (XR #[c0,c1,c2,c3,c4,c5] t)):w.cell? (b,4)=U c4:=by simp[Yh,h]
theorem s9{b:M}{t:XF}(h:w.heap[b]?=U (XR #[c0,c1,c2,c3,c4,c5] t)):w.cell? (b,5)=U c5:=by simp[Yh,h]
theorem xC{b:M}{cs:Array XA}{t:XF}(h:w.heap[b]?=U (XR cs t)):∀ o,w.frozen? ⟨b,o,Z⟩=Xx:=fun o=>by simp[World.frozen?,h]
theorem Rt{X:Xz}{f:M}{h o2:Obj}(c:X.grownBy w1 (Value.slice Z 0 0).ownBlock)(k:f+1<X)(q:X.heap[f]?=U h)(p:X.heap[f+1]?=U o2):w1.heap[f]?=U h/\w1.heap[f+1]?=U o2 :=⟨(c.block f O Xl).trans q,(c.block (f+1) k Xl).trans p⟩
theorem Hs(x:aA.aQ × M × M)(w:Xz)(h:iW w x.2.1 x.1.aR)(T:0<x.1.aR.length)(hl:x.1.aR.length<=1000):XD prog 125 #[.agg (fg x).toArray] w fun e w'=>∃ g cap,e=XQ (.agg (fg (x.1,g,cap)).toArray)/\iW w' g x.1.aR/\w.heap.size<=g/\g<w'.heap.size/\XC w.heap.size w w':=by
 obtain⟨i0,W,H,G,E⟩:=info_parts xW;have HS:=aB h;simp only[fg];go_in;go_upto_region 2 with fail;have D:XC w.heap.size w ((w.alloc (XR #[V Y x.1.id,V Y x.1.kind,XJ x.1.bH,V Y x.1.aN,XI (U ⟨x.2.1,0,Z⟩) x.1.aR.length x.2.2,V Y x.1.bZ] 85)).alloc (XR #[V Y 0,V Y 0,XJ ⟨#[]⟩,V Y 0,XI Z 0 0,V Y 0] 85)):=((zr _ _).alloc (zq _) _).alloc Xc _;have I:((w.alloc (XR #[V Y x.1.id,V Y x.1.kind,XJ x.1.bH,V Y x.1.aN,XI (U ⟨x.2.1,0,Z⟩) x.1.aR.length x.2.2,V Y x.1.bZ] 85)).alloc (XR #[V Y 0,V Y 0,XJ ⟨#[]⟩,V Y 0,XI Z 0 0,V Y 0] 85)).heap.size=w.heap.size+2:=Xc;have p:∀ j u,(x.1.aR.flatMap lr)[j]?=U u->((w.alloc (XR #[V Y x.1.id,V Y x.1.kind,XJ x.1.bH,V Y x.1.aN,XI (U ⟨x.2.1,0,Z⟩) x.1.aR.length x.2.2,V Y x.1.bZ] 85)).alloc (XR #[V Y 0,V Y 0,XJ ⟨#[]⟩,V Y 0,XI Z 0 0,V Y 0] 85)).cell? ((⟨x.2.1,0,Z⟩:Addr).add j)=U u:=by
  intro j u K;have ea:∀ j:M,((⟨x.2.1,0,Z⟩:Addr).add j)=⟨x.2.1,j,Z⟩:=by
   intro j;unfold Addr.add;split
   .rename_i h;subst h;rfl
   .simp
  rw[ea];obtain⟨i,hi,(⟨rfl,rfl⟩|⟨rfl,rfl⟩)⟩:=Q8 _ j u K
  .exact aT D (HS.out i hi).1
  .exact aT D (HS.out i hi).2
 have a1:((w.alloc (XR #[V Y x.1.id,V Y x.1.kind,XJ x.1.bH,V Y x.1.aN,XI (U ⟨x.2.1,0,Z⟩) x.1.aR.length x.2.2,V Y x.1.bZ] 85)).alloc (XR #[V Y 0,V Y 0,XJ ⟨#[]⟩,V Y 0,XI Z 0 0,V Y 0] 85)).heap[w.heap.size]?=U (XR #[V Y x.1.id,V Y x.1.kind,XJ x.1.bH,V Y x.1.aN,XI (U ⟨x.2.1,0,Z⟩) x.1.aR.length x.2.2,V Y x.1.bZ] 85) :=(Below.heap_alloc _ _ _ Xc).trans (dH _ _)
 have a2:((w.alloc (XR #[V Y x.1.id,V Y x.1.kind,XJ x.1.bH,V Y x.1.aN,XI (U ⟨x.2.1,0,Z⟩) x.1.aR.length x.2.2,V Y x.1.bZ] 85)).alloc (XR #[V Y 0,V Y 0,XJ ⟨#[]⟩,V Y 0,XI Z 0 0,V Y 0] 85)).heap[w.heap.size+1]?=U (XR #[V Y 0,V Y 0,XJ ⟨#[]⟩,V Y 0,XI Z 0 0,V Y 0] 85):=by have:=dH (w.alloc (XR #[V Y x.1.id,V Y x.1.kind,XJ x.1.bH,V Y x.1.aN,XI (U ⟨x.2.1,0,Z⟩) x.1.aR.length x.2.2,V Y x.1.bZ] 85)) (XR #[V Y 0,V Y 0,XJ ⟨#[]⟩,V Y 0,XI Z 0 0,V Y 0] 85);rwa [Zm] at this
 have NW:=aB p;have r:=aB (Yc D (Yc I (Yc a1 a2)));have x4:((w.alloc (XR #[V Y x.1.id,V Y x.1.kind,XJ x.1.bH,V Y x.1.aN,XI (U ⟨x.2.1,0,Z⟩) x.1.aR.length x.2.2,V Y x.1.bZ] 85)).alloc (XR #[V Y 0,V Y 0,XJ ⟨#[]⟩,V Y 0,XI Z 0 0,V Y 0] 85)).cell? ⟨w.heap.size,4,Z⟩=U (XI (U ⟨x.2.1,0,Z⟩) x.1.aR.length x.2.2):=by simp[Yh,a1]
 clear D I p a1 a2;generalize ((w.alloc (XR #[V Y x.1.id,V Y x.1.kind,XJ x.1.bH,V Y x.1.aN,XI (U ⟨x.2.1,0,Z⟩) x.1.aR.length x.2.2,V Y x.1.bZ] 85)).alloc (XR #[V Y 0,V Y 0,XJ ⟨#[]⟩,V Y 0,XI Z 0 0,V Y 0] 85))=X at NW r x4 ⊢;go_wp2_with (first
  |(at_builtin;refine wpList_append_lies _ rfl _ _ 57 rfl w.heap.size 83 i0 _ 2 16 underlying57 W H G E rfl Xd (.slice Z 0 0) 0 [] rfl (World.ownsRow_nil _ _ _ _) ⟨x.2.1,0,Z⟩ x.1.aR.length x.2.2 (x.1.aR.flatMap lr) rfl (xQ _) NW.out (by intro u K;obtain⟨s,_,hs⟩:=List.mem_flatMap.1 K;simp[lr] at hs;rcases hs with rfl|rfl <;> rfl) T Xj O (by have:=r.out.2.1;omega) X.heap.size rfl ?_;intro g cap w1 R q ab S;obtain⟨A,t⟩:=Rt q (by have:=r.out.2.1;omega) r.out.2.2.1 r.out.2.2.2;have b0:=ta A;have b1:=s8 A;have b2:=uw A;have b3:=ux A;have b5:=s9 A;have b4:=uy A;have g4:=xC A;have r0:=ta t;have r1:=s8 t;have r2:=uw t;have r3:=ux t;have r4:=uy t;have r5:=s9 t;have rf:=xC t))
 have hg:g=X.heap.size:=by
  rcases ab with e|e
  .simp[Y9] at e
  .exact e
 have I:=r.out.2.1;have B:w1.ownsRow w.heap.size 83 2 (XI (U ⟨g,0,Z⟩) x.1.aR.length cap) x.1.aR.length (x.1.aR.flatMap lr):=by simpa using R
 have f:XC w.heap.size w w1:=r.out.1.grown q r.out.1.size (fun k C=>by simp[Y9] at C);have c:aH [w.heap.size,w.heap.size+1] w1 (((((((w1.setCell ⟨w.heap.size,4,Z⟩ (XI (U ⟨g,0,Z⟩) x.1.aR.length cap)).setCell ⟨w.heap.size+1,0,Z⟩ (V Y x.1.id)).setCell ⟨w.heap.size+1,1,Z⟩ (V Y x.1.kind)).setCell ⟨w.heap.size+1,2,Z⟩ (XJ x.1.bH)).setCell ⟨w.heap.size+1,3,Z⟩ (V Y x.1.aN)).setCell ⟨w.heap.size+1,4,Z⟩ (XI (U ⟨g,0,Z⟩) x.1.aR.length cap)).setCell ⟨w.heap.size+1,5,Z⟩ (V Y x.1.bZ)) :=(((((((aH.refl _ w1).setCell (.inl Xc) _ _).setCell (.inl Xc) _ _).setCell (.inl Xc) _ _).setCell (.inl Xc) _ _).setCell (.inl Xc) _ _).setCell (.inl Xc) _ _).setCell (.inl Xc) _ _
 have aa:XC w.heap.size w (((((((w1.setCell ⟨w.heap.size,4,Z⟩ (XI (U ⟨g,0,Z⟩) x.1.aR.length cap)).setCell ⟨w.heap.size+1,0,Z⟩ (V Y x.1.id)).setCell ⟨w.heap.size+1,1,Z⟩ (V Y x.1.kind)).setCell ⟨w.heap.size+1,2,Z⟩ (XJ x.1.bH)).setCell ⟨w.heap.size+1,3,Z⟩ (V Y x.1.aN)).setCell ⟨w.heap.size+1,4,Z⟩ (XI (U ⟨g,0,Z⟩) x.1.aR.length cap)).setCell ⟨w.heap.size+1,5,Z⟩ (V Y x.1.bZ)) :=⟨c.os.trans f.os,c.tape.trans f.tape,c.output.trans f.output,XU f.size c.size,fun k C=>(c.block k (zL C f.size) Xh).trans (f.block k C)⟩
 refine bodyPost_ret (v:=.agg #[V Y x.1.id,V Y x.1.kind,XJ x.1.bH,V Y x.1.aN,XI (U ⟨g,0,Z⟩) x.1.aR.length cap,V Y x.1.bZ]) (by simp[results,results125,go_sem,r0,r1,r2,r3,r4,r5]) rfl ⟨g,cap,rfl,(Cs B).2.off c Xh,by omega,YM S c.size,aa⟩
namespace aA
def mS(name:Xm)(a b:N)(e:aQ):Xp:=dB name e && decide (0<=gY a b e.aR)
end aA
structure oq(w wx:Xz)(v:XA)(ys:J (aA.aQ × M × M)):Prop where
 own:wx.ownsRow w 85 6 v ys.length (ys.flatMap fg)
 sl:∀ y∈ys,iW wx y.2.1 y.1.aR/\w<=y.2.1/\y.2.1<wx/\v.ownBlock≠U y.2.1
 bw:XC w w wx
theorem oq.later{wx f:Xz}{ys:J (aA.aQ × M × M)}(h:oq w wx v ys)(k:XC wx wx f):oq w f v ys :=⟨fH h.own k,fun y c=>⟨(h.sl y c).1.later k,(h.sl y c).2.1,YM (h.sl y c).2.2.1 k.size,(h.sl y c).2.2.2⟩,bU h.bw k aJ⟩
namespace dP
def before(fs:J N)(k i:M):Xp:=decide (fs.getD k 0<fs.getD i 0) || (decide (fs.getD k 0=fs.getD i 0) && decide (k<i))
def upto(fs:J N)(i n:M):M:=((List.range n).filter (fun k=>before fs k i)).length
def mP(fs:J N)(i:M):M:=upto fs i fs.length
theorem Ah(fs:J N)(i n:M):upto fs i (n+1)=upto fs i n+if before fs n i then 1 else 0:=by
 unfold upto;rw[List.range_succ,List.filter_append,Yx]
 cases h:before fs n i <;> simp[h]
theorem I9(fs:J N)(i:M):before fs i i=Xx:=by simp[before]
theorem Sh{a b c:M}(h:before fs a b=Xy)(k:before fs b c=Xy):before fs a c=Xy:=by simp[before] at *;omega
theorem I6(fs:J N){a b:M}(h:a≠b):before fs a b=Xy\/before fs b a=Xy:=by simp[before];omega
theorem Iz(fs:J N)(i:M):∀ n,upto fs i n<=n:=by grind[upto]
theorem Hv(fs:J N){i:M}:∀ {n},i<n->upto fs i n<n
 |0,h=>by omega
 |n+1,h=>by
  rw[Ah];by_cases e:i=n
  .subst e;rw[I9];have:=Iz fs i i;simp;omega
  .have:=Hv fs (i:=i) (n:=n) O
   split <;> omega
theorem CB(fs:J N)(h:i<fs.length):mP fs i<fs.length:=Hv fs h
theorem II{fs:J N}{i j:M}(h:before fs i j=Xy):∀ n,upto fs i n+(if i<n then 1 else 0)<=upto fs j n
 |0=>by simp[upto]
 |n+1=>by
  have ih:=II h n;rw[Ah,Ah];by_cases e:n=i
  .subst e;rw[I9,h];simp at ih ⊢;omega
  .have k:(if i<n+1 then 1 else 0:M)=(if i<n then 1 else 0):=by
    by_cases c:i<n
    .rw[Xt c,Xt O]
    .rw[Xs c,Xs O]
   rw[k];generalize (if i<n then 1 else 0:M)=q at ih ⊢
   cases f:before fs n i
   .simp only[X4,if_false]
    split <;> omega
   .rw[Sh f h];simp only[if_true];omega
theorem CZ(c:i<fs.length)(h:before fs i j=Xy):mP fs i<mP fs j:=by have:=II h fs.length;rw[Xt c] at this;exact this
theorem CQ(k:i<fs.length)(f:j<fs.length)(h:mP fs i=mP fs j):i=j:=by
 by_cases e:i=j
 .exact e
 .rcases I6 fs e with c|c
  .have:=CZ k c;omega
  .have:=CZ f c;omega
end dP
theorem Ck:∀ (n:M)(l:J M),l.Nodup->(∀ x∈l,x<n)->l.length<=n
 |0,l,_,h=>by
  cases l with
  |nil=>simp
  |cons x l=>have:=h x Xc;omega
 |n+1,l,hd,h=>by
  by_cases c:n∈l
  .have k:=Ck n (l.erase n) (hd.erase n) (fun x f=>by grind)
   rw[List.length_erase_of_mem c] at k;omega
  .have:=Ck n l hd (fun x f=>by grind)
   omega
theorem RG{l:J M}(f:l.Nodup)(h:∀ x∈l,x<n)(q:l.length=n):∀ k,k<n->k∈l:=by intro k r;apply ZU;intro c;have:=Ck n (k :: l) (List.nodup_cons.2 ⟨c,f⟩) (fun x p=>by grind);simp at this;omega
namespace dP
theorem Af(fs:J N){k:M}(p:k<fs.length):∃ i,i<fs.length/\mP fs i=k:=by
 have r:((List.range fs.length).map (mP fs)).Nodup:=by unfold List.Nodup;rw[List.pairwise_map];refine List.Pairwise.imp_of_mem ?_ (List.nodup_range (n:=fs.length));intro i j c q f e;exact f (CQ (List.mem_range.1 c) (List.mem_range.1 q) e)
 have:=RG r (fun x h=>by obtain⟨i,c,rfl⟩:=YN.1 h;exact CB fs (List.mem_range.1 c)) Xc k p
 let⟨i,c,e⟩:=YN.1 this;exact⟨i,List.mem_range.1 c,e⟩
end dP
namespace aA
def ob(a b:N)(x y:aQ):Prop:=gY a b x.aR<gY a b y.aR\/(gY a b x.aR=gY a b y.aR/\x.id<y.id)
theorem WV(a b:N)(x:aQ):¬ ob a b x x:=by unfold ob;omega
theorem Ld(a b:N)(x y z:aQ)(h:ob a b x y)(k:ob a b y z):ob a b x z:=by unfold ob at *;omega
def qo(a b:N)(l:J aQ):J N:=l.map fun e=>gY a b e.aR
theorem Da{a:N}{l:J aQ}(h:i<l.length):(qo a b l).getD i 0=gY a b l[i].aR:=by simp[qo,List.getD,h]
theorem Rn{a:N}{l out:J aQ}(A:eD l)(E:out.length=l.length)(h:∀ (i:M)(f:i<l.length),out[dP.mP (qo a b l) i]?=U l[i]):out.Pairwise (ob a b)/\∀ e,e∈out↔e∈l:=by
 have H:(qo a b l).length=l.length:=by simp[qo]
 have c:∀ (k:M),k<out.length->∃ (i:M) (f:i<l.length),dP.mP (qo a b l) i=k/\out[k]?=U l[i]:=by intro k u;let⟨i,f,e⟩:=dP.Af (qo a b l) (k:=k) O;rw[H] at f;exact⟨i,f,e,by grind⟩
 refine⟨?_,fun e=>⟨fun B=>?_,fun B=>?_⟩⟩
 .rw[List.pairwise_iff_getElem];intro p q D C G;let⟨i,f,e1,e2⟩:=c p D;let⟨j,hj,e3,e4⟩:=c q C;rw[Zu D] at e2;rw[Zu C] at e4;rw[Zn e2,Zn e4];have t:i≠j:=fun e=>by grind
  rcases dP.I6 (qo a b l) t with r|r
  .unfold dP.before at r;rw[Da f,Da hj] at r;simp at r;rcases r with r|⟨r,I⟩
   .exact .inl r
   .refine .inr ⟨r,?_⟩;have:=List.pairwise_iff_getElem.1 A i j Xi Xi I
    simpa using this
  .have:=dP.CZ (fs:=qo a b l) O r;omega
 .obtain⟨k,u,rfl⟩:=List.getElem_of_mem B;let⟨i,f,_,e2⟩:=c k u;rw[Zu u] at e2;rw[Zn e2];exact zg f
 .obtain⟨i,f,rfl⟩:=List.getElem_of_mem B;exact List.mem_of_getElem? (h i f)
def jC(L:J (N × N)):Prop:=L.Pairwise fun s t=>s.1<t.1
theorem Fe{a b:N}:∀ {L:J (N × N)},jC L->(∃ s∈L,mU a b s=Xy)->(∃ s∈L,mU a b s=Xy/\s.1=gY a b L)/\∀ t∈L,mU a b t=Xy->gY a b L<=t.1
 |[],_,h=>by grind
 |s :: r,hr,h=>by
  unfold jC at hr;rw[Yk] at hr;simp only[gY];by_cases c:mU a b s=Xy
  .rw[Xt c];refine⟨⟨s,by simp,c,rfl⟩,fun t ht _=>?_⟩;rcases X7.1 ht with rfl|ht
   .omega
   .have:=hr.1 t ht;omega
  .rw[Xs c]
   have p:∃ s∈r,mU a b s=Xy:=Xi;let⟨⟨t,k1,k2,k3⟩,k4⟩:=Fe (a:=a) (b:=b) (L:=r) hr.2 p;refine⟨⟨t,by simp[k1],k2,k3⟩,fun u f k=>?_⟩;rcases X7.1 f with rfl|f
   .exact Xu k c
   .exact k4 u f k
theorem Mq{a b:N}:∀ {L:J (N × N)},(∀ s∈L,mU a b s=Xx)->gY a b L=-1
 |[],_=>rfl
 |s :: r,h=>by simp only[gY];rw[Xs Xi];exact Mq (fun t ht=>h t (by simp[ht]))
theorem MV{a:N}(f:jC L)(k:∀ s∈L,0<=s.1):0<=gY a b L↔∃ s∈L,mU a b s=Xy:=by
 constructor
 .intro h;apply ZU;intro c
  have:gY a b L=-1:=Mq (fun s p=>by grind);omega
 .intro h;let⟨⟨s,k1,_,k3⟩,_⟩:=Fe f h;have:=k s k1;omega
def wE(acc:J aF.It)(z:aF.It):J aF.It:=if acc.any fun u=>decide (u.n=z.n) then acc else acc++[z]
def uniq(c:J aF.It):J aF.It:=c.foldl wE []
theorem A7(c:J aF.It)(z:aF.It):uniq (c++[z])=wE (uniq c) z:=by unfold uniq;rw[ZZ];rfl
theorem Ub:∀ (n:M)(p:J aF.It),p.length=n->aF.Ord p->aF.Ord (uniq p)/\(∀ u∈uniq p,u∈p)/\(∀ z∈p,∃ u∈uniq p,u.n=z.n/\(u=z\/aF.lt u z))/\((uniq p).map (·.n)).Nodup:=by
 intro n;induction n with
 |zero =>intro p t _;rw[List.length_eq_zero_iff.1 t];exact⟨List.Pairwise.nil,by simp[uniq],by simp,by simp[uniq]⟩
 |succ n ih =>
  intro p t q;obtain⟨K,z,rfl⟩:∃ K z,p=K++[z]:=⟨p.dropLast,p.getLast Xi,(List.dropLast_concat_getLast _).symm⟩;unfold aF.Ord at q;rw[ZT] at q;let⟨i1,i2,i3,i4⟩:=ih K Xi q.1;rw[A7];unfold wE;by_cases c:((uniq K).any fun u=>decide (u.n=z.n))=Xy
  .rw[Xt c];let⟨u,f,hc⟩:=ZY.1 c;refine⟨i1,fun u f=>by grind,fun y h=>?_,i4⟩;rcases X8.1 h with h|h
   .exact i3 y h
   .have:y=z:=Xi
    subst this;exact⟨u,f,by grind,.inr (q.2.2 u (i2 u f) y Xc)⟩
  .rw[Xs c];have r:∀ u∈uniq K,u.n≠z.n:=fun u f e=>c (ZY.2 ⟨u,f,by simp[e]⟩)
   refine⟨?_,fun u f=>?_,fun y h=>?_,?_⟩
   .unfold aF.Ord;rw[ZT]
    exact⟨i1,by simp,fun u f y h=>by grind⟩
   .rcases X8.1 f with f|f
    .simp[i2 u f]
    .simp at f;simp[f]
   .rcases X8.1 h with h|h
    .let⟨u,f,k⟩:=i3 y h;exact⟨u,by simp[f],k⟩
    .have:y=z:=Xi
     subst this;exact⟨y,by simp,rfl,.inl rfl⟩
   .rw[YS,List.nodup_append];refine⟨i4,by simp,fun x A y h e=>?_⟩;obtain⟨u,f,rfl⟩:=YN.1 A;simp at h;exact r u f (by rw[e,h])
def jw(name:Xm)(es:J aQ)(at_:N->M)(T:aF.S):Prop :=aF.Ord (aF.cT T)/\∀ z,z∈aF.cT T↔∃ e∈es,dB name e=Xy/\∃ s∈e.aR,z=⟨s.1,s.2,e.id,at_ e.id⟩
theorem Ua{at_:N->M}{T:aF.S}{a:N}(h:jw name es at_ T)(K:eD es)(hr:∀ e∈es,jC e.aR)(h0:∀ e∈es,∀ s∈e.aR,0<=s.1){ys:J aQ}(hl:ys.length=(uniq (aF.meet a b T)).length)(R:∀ (i:M)(r:i<ys.length),ys[i]∈es/\ys[i].id=((uniq (aF.meet a b T))[i]'Xb).n):ys.Pairwise (ob a b)/\∀ e,e∈ys↔e∈es.filter (mS name a b):=by
 have hM:=aF.AU a b T h.1;have hO:aF.Ord (aF.meet a b T):=by rw[hM];exact aF.Mp _ h.1
 let⟨u1,u2,u3,u4⟩:=Ub _ (aF.meet a b T) rfl hO;have C:∀ z,z∈aF.meet a b T↔∃ e∈es,dB name e=Xy/\∃ s∈e.aR,mU a b s=Xy/\z=⟨s.1,s.2,e.id,at_ e.id⟩:=by intro z;rw[hM,ZW,h.2];constructor;rintro ⟨⟨e,B,G,s,p,rfl⟩,A⟩;exact⟨e,B,G,s,p,A,rfl⟩;rintro ⟨e,B,G,s,p,A,rfl⟩;exact⟨⟨e,B,G,s,p,rfl⟩,A⟩
 -- each item that is kept stands at its entry's first
 have fst:∀ u∈uniq (aF.meet a b T),∀ e∈es,e.id=u.n->dB name e=Xy/\u.f=gY a b e.aR/\∃ s∈e.aR,mU a b s=Xy:=by
  intro u H e k hn;obtain⟨e',B,G,s,p,A,rfl⟩:=(C u).1 (u2 u H);have:e=e':=K.one k B hn;subst this;refine⟨G,?_,s,p,A⟩;let⟨⟨t,t1,t2,t3⟩,t4⟩:=Fe (hr e k) ⟨s,p,A⟩;have ab:=t4 s p A;let⟨u',hu',m1,E⟩:=u3 ⟨t.1,t.2,e.id,at_ e.id⟩ ((C _).2 ⟨e,k,G,t,t1,t2,rfl⟩);have I:u'=⟨s.1,s.2,e.id,at_ e.id⟩:=by
   have q:=u4;unfold List.Nodup at q;rw[List.pairwise_map] at q;apply ZU;intro aa;let⟨i,r,ei⟩:=List.getElem_of_mem hu';let⟨j,W,ej⟩:=List.getElem_of_mem H;have D:i≠j:=fun e=>by grind
   rcases Nat.lt_or_gt_of_ne D with c|c
   .have:=List.pairwise_iff_getElem.1 q i j r W c;rw[ei,ej] at this;exact this m1
   .have:=List.pairwise_iff_getElem.1 q j i W r c;rw[ei,ej] at this;exact this m1.symm
  subst I;show s.1=_;rcases E with E|E
  .have:=congrArg aF.It.f E;simp at this;omega
  .unfold aF.lt at E;simp at E;omega
 have X:∀ u∈uniq (aF.meet a b T),∀ e∈es,e.id=u.n->e∈es.filter (mS name a b):=by intro u H e k hn;let⟨B,_,p⟩:=fst u H e k hn;exact ZW.2 ⟨k,by simp[mS,B,(MV (hr e k) (h0 e k)).2 p]⟩
 refine⟨?_,fun e=>⟨fun k=>?_,fun k=>?_⟩⟩;rw[List.pairwise_iff_getElem];intro i j r W D;have o:=List.pairwise_iff_getElem.1 u1 i j O O D;let⟨a1,a2⟩:=R i r;let⟨b1,b2⟩:=R j W;have f1:=(fst _ (zg O) _ a1 a2).2.1;have f2:=(fst _ (zg O) _ b1 b2).2.1;unfold aF.lt at o;unfold ob;rw[<- f1,<- f2,a2,b2];exact o;obtain⟨i,r,rfl⟩:=List.getElem_of_mem k;let⟨a1,a2⟩:=R i r;exact X _ (zg O) _ a1 a2;let⟨he1,he2⟩:=ZW.1 k;simp only[mS,Zr,decide_eq_true_eq] at he2;let⟨s,s1,s2⟩:=(MV (hr e he1) (h0 e he1)).1 he2.2;let⟨u,H,m1,_⟩:=u3 _ ((C _).2 ⟨e,he1,he2.1,s,s1,s2,rfl⟩);let⟨i,r,ei⟩:=List.getElem_of_mem H;let⟨a1,a2⟩:=R i O;have:ys[i]'Xb=e:=K.one a1 he1 Xi;rw[<- this];exact zg _
theorem Bg(p:aQ->Xp)(h:eD es):eD (es.filter p):=by grind[eD]
end aA
namespace aA
theorem Fy{a b:Xm}:dI a b=Xy↔a.toList=b.toList:=by simp[dI]
theorem tY(a:Xm):dI a a=Xy:=Fy.2 rfl
theorem MK{a b c:Xm}(h:dI a b=Xy):dI c a=dI c b:=by unfold dI;rw[Fy.1 h]
def qy(a b:N)(x:aQ):J aQ->J aQ
 |[]=>[x]
 |y :: r=>if gY a b x.aR<gY a b y.aR\/(gY a b x.aR=gY a b y.aR/\x.id<y.id) then x :: y :: r else y :: qy a b x r
def tM(a b:N):J aQ->J aQ
 |[]=>[]
 |x :: r=>qy a b x (tM a b r)
theorem Ey{a b:N}{x z:aQ}:∀ {l:J aQ},z∈qy a b x l↔z=x\/z∈l
 |[]=>by simp[qy]
 |y :: r=>by
  simp only[qy];split
  .simp
  .rw[X7,Ey,X7];constructor
   .rintro (h|h|h)
    .exact .inr (.inl h)
    .exact .inl h
    .exact .inr (.inr h)
   .rintro (h|h|h)
    .exact .inr (.inl h)
    .exact .inl h
    .exact .inr (.inr h)
theorem Br{a b:N}{z:aQ}:∀ {l:J aQ},z∈tM a b l↔z∈l
 |[]=>by simp[tM]
 |x :: r=>by rw[tM,Ey,Br,X7]
theorem JK{a b:N}{x:aQ}:∀ {l:J aQ},l.Pairwise (ob a b)->(∀ z∈l,z.id≠x.id)->(qy a b x l).Pairwise (ob a b)
 |[],_,_=>by simp[qy]
 |y :: r,h,hn=>by
  rw[Yk] at h;simp only[qy];split
  .rename_i c
   refine Yk.2 ⟨fun z f=>?_,Yk.2 h⟩;rcases X7.1 f with rfl|f
   .exact c
   .exact Ld a b x y z c (h.1 z f)
  .rename_i c
   refine Yk.2 ⟨fun z f=>?_,JK h.2 (fun z f=>hn z (by simp[f]))⟩;rcases Ey.1 f with rfl|f
   .have:=hn y Xc;unfold ob;omega
   .exact h.1 z f
theorem KE{a b:N}:∀ {l:J aQ},eD l->(tM a b l).Pairwise (ob a b)
 |[],_=>by simp[tM]
 |x :: r,h=>by let⟨h1,h2⟩:=h.cons;exact JK (KE h2) (fun z c=>by have:=h1 z (Br.1 c);omega)
def nC(name:Xm)(a b:N)(es:J aQ):J aQ:=tM a b (es.filter (mS name a b))
theorem La{a:N}{out:J aQ}(c:eD es)(h:out.Pairwise (ob a b))(f:∀ e,e∈out↔e∈es.filter (mS name a b)):out=nC name a b es :=Gb (WV a b) (Ld a b) h (KE (Bg _ c)) (fun e=>(f e).trans Br.symm)
def eU(ts:J (Xm × N)):J aQ->J aQ->J aQ × J N
 |done,[]=>(done,[])
 |done,e :: r =>
  if e.kind=3/\eT ts (done++e :: r) e.bH e.aN e.aR=Xy then((eU ts (done++[ek e]) r).1,e.id :: (eU ts (done++[ek e]) r).2)
  else eU ts (done++[e]) r
def dS(ts:J (Xm × N))(es:J aQ):J aQ × J N:=eU ts [] es
def eL(tq:N):J aQ->N
 |[]=>tq
 |e :: r=>if e.kind≠1/\e.bZ<eL tq r then e.bZ else eL tq r
def cA(t:N)(e:aQ):Xp:=(e.kind != 1) && decide (e.bZ=t)
def gd(ts:J (Xm × N)):M->J aQ->N->N->J aQ × J N × J N
 |0,es,_,_=>(es,[],[])
 |k+1,es,now,tq =>
  if now<tq then let t:=eL tq es;let g:=dS ts (es.filter fun e=>!cA t e);let q:=gd ts k g.1 t tq;(q.1,(es.filter (cA t)).map (·.id)++q.2.1,g.2++q.2.2)
  else (es,[],[])
structure St where
 ts:J (Xm × N)
 es:J aQ
 given:N
 now:N
structure bS where
 err:N
 at_:N
 n:N
 entries:J aQ
 days:J N
 granted:J N
 ended:J N
def bS.error(e:N):bS:=⟨e,0,0,[],[],[],[]⟩
def bS.num(n:N):bS:=⟨0,0,n,[],[],[],[]⟩
inductive jb where
 |bH (name:Xm) (aN:Xr)
 |enter (kind:Xr) (name:Xm) (aN fr til long:Xr)
 |series (name:Xm) (aN:Xr) (r:Rd.cP)
 |bL (id:Xr)
 |cancel (id:Xr)
 |list (name:Xm) (fr til:Xr)
 |waiting
 |ef (name:Xm) (fr til:Xr)
 |find (name:Xm) (aN long fr til:Xr)
 |expand (r:Rd.cP)
 |tick (n:Xr)
 |clock
def lS(s:St)(e:aQ):St × bS:=(⟨s.ts,s.es++[{ e with id:=s.given+1 }],s.given+1,s.now⟩,bS.num (s.given+1))
def qK(s:St)(c:N)(name:Xm)(aN fr til long:N):N :=
 if eW s.ts name aN≠0 then eW s.ts name aN
 else if til<=fr\/1048320<s.now+long then 6
 else if s.given=60 then 5
 else if c=3 then (if fC s.es=6 then 5 else 0)
 else if eT s.ts s.es name aN [(fr,til)] then 0 else 8
def qE(s:St)(c:N)(name:Xm)(aN fr til long:N):aQ:=⟨0,c,name,aN,[(fr,til)],if c=1 then 0 else s.now+long⟩
def oG(s:St)(name:Xm)(aN:N)(r:Rd.cP):N :=
 if eW s.ts name aN≠0 then eW s.ts name aN
 else if Rd.iS r≠0 then Rd.iS r
 else if s.given=60 then 5
 else if eT s.ts s.es name aN (Rd.jd r (Rd.cN r)) then 0 else 8
def mW(id:N)(es:J aQ):Xo aQ:=es.find? fun e=>decide (e.id=id)
def aX(s:St):jb->St × bS
 |.bH name aN=>if cI name s.ts≠0 then (s,.error 4) else if s.ts.length=4 then (s,.error 5) else ({ s with ts:=s.ts++[(name,aN)] },.num 0)
 |.enter kind name aN fr til long=>if qK s kind name aN fr til long≠0 then (s,.error (qK s kind name aN fr til long)) else lS s (qE s kind name aN fr til long)
 |.series name aN r=>if oG s name aN r≠0 then (s,.error (oG s name aN r)) else lS s ⟨0,1,name,aN,Rd.jd r (Rd.cN r),0⟩
 |.bL id=>match mW id s.es with
  |none=>(s,.error 9)
  |some e=>if e.kind≠2 then (s,.error 10) else ({ s with es:=fc id s.es },.num 0)
 |.cancel id=>match mW id s.es with
  |none=>(s,.error 9)
  |some _=>({ s with es:=kept id s.es },.num 0)
 |.list name fr til=>if cI name s.ts=0 then (s,.error 3) else if til<=fr then (s,.error 6) else (s,{ bS.num 0 with entries:=nC name fr til s.es })
 |.waiting=>(s,{ bS.num 0 with entries:=s.es.filter fun e=>e.kind==3 })
 |.ef name fr til=>if cI name s.ts=0 then (s,.error 3) else if til<=fr then (s,.error 6) else (s,.num (nY name s.es fr til))
 |.find name aN long fr til=>if eW s.ts name aN≠0 then (s,.error (eW s.ts name aN)) else if til<=fr then (s,.error 6) else (s,.num (kP s.ts s.es name aN long fr til))
 |.expand r=>if Rd.iS r≠0 then (s,.error (Rd.iS r)) else (s,{ bS.num (Rd.cN r).length with days:=Rd.cN r })
 |.tick n=>if 1048320<s.now+n then (s,.error 6) else let q:=gd s.ts (s.es.length+1) s.es s.now (s.now+n);({ s with es:=q.1,now:=s.now+n },{ bS.num (s.now+n) with granted:=q.2.2,ended:=q.2.1 })
 |.clock=>(s,.num s.now)
def jE(s:St)(l:jb):St × bS :=
 if (aX s l).2.err≠0 then aX s l
 else ({ (aX s l).1 with es:=(dS (aX s l).1.ts (aX s l).1.es).1 },{ (aX s l).2 with granted:=(aX s l).2.granted++(dS (aX s l).1.ts (aX s l).1.es).2 })
def ke:jb->Prop
 |.bH _ u=>1<=u/\u<=9
 |.enter k _ u fr til long=>(k=1/\long=0\/(k=2\/k=3)/\1<=long/\long<=1048320)/\1<=u/\u<=9/\0<=fr/\fr<=1048320/\0<=til/\til<=1048320
 |.series _ u r=>1<=u/\u<=9/\Rd.hH r
 |.bL id=>0<=id/\id<=9999999
 |.cancel id=>0<=id/\id<=9999999
 |.list _ fr til=>0<=fr/\fr<=1048320/\0<=til/\til<=1048320
 |.waiting=>True
 |.ef _ fr til=>0<=fr/\fr<=1048320/\0<=til/\til<=1048320
 |.find _ u long fr til=>1<=u/\u<=9/\1<=long/\long<=1048320/\0<=fr/\fr<=1048320/\0<=til/\til<=1048320
 |.expand r=>Rd.hH r
 |.tick n=>1<=n/\n<=1048320
 |.clock=>True
structure jr(now:N)(e:aQ):Prop where
 u1:1<=e.aN
 u9:e.aN<=9
 sl:e.aR.length<=40
 s0:e.aR≠[]
 sp:qW e.aR
 ri:jC e.aR
 kd:(e.kind=1/\e.bZ=0)\/((e.kind=2\/e.kind=3)/\now<e.bZ/\e.bZ<=1048320/\e.aR.length=1)
structure Inv(s:St):Prop where
 tl:s.ts.length<=4
 tu:∀ t∈s.ts,1<=t.2/\t.2<=9
 tn:s.ts.Pairwise fun t u=>dI t.1 u.1=Xx
 ids:eD s.es
 nK:∀ e∈s.es,1<=e.id/\e.id<=s.given
 g0:0<=s.given
 g1:s.given<=60
 n0:0<=s.now
 n1:s.now<=1048320
 en:∀ e∈s.es,jr s.now e
 th:∀ e∈s.es,e.aN<=cI e.bH s.ts
 wa:fC s.es<=6
 no:∀ e∈s.es,e.kind=3->eT s.ts s.es e.bH e.aN e.aR=Xx
 wi:∀ name x,cM name x s.es<=cI name s.ts
end aA
end Go.Proofs.YtolaacmheeaadaaGreatDoor
