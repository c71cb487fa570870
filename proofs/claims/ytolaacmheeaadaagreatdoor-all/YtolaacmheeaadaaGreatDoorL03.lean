import Derived.Test.YtolaacmheeaadaaGreatDoorL02
import Derived.Test.YtolaacmheeaadaaGreatDoorProg
import Derived.Maps.OwnSet
import Derived.Maps.OwnOps
import Derived.Maps.Views
import Derived.Lib.IndexMore
import Derived.Lib.IndexLaws
import Derived.Lib.FieldsP
import Derived.Lib.Split
import Derived.Lib.SplitLaws
set_option maxRecDepth 100000
set_option maxHeartbeats 8000000
open Go.Proofs.Tryz
open _root_ renaming ByteArray->Xn,List->Xo,Option->Xp,Bool->Xq,Nat->Xr,Int->Xs,if_neg->Xt,if_pos->Xu,absurd->Xv,Int->N,Nat->M,List->J
open Option renaming none->Xw,some->Xx,mem_toList->Zm,getD_some->ZH,getD_none->ZM,none->Z,some->U
open Bool renaming false->Xy,true->Xz,and_eq_true->Zs,eq_iff_iff->Zw,false_eq_true->X5
open Go renaming World->XA,Value->XC,Calls->XE,TypeId->XG
open Go.RowKit renaming Below->XD
open Go.World renaming cell?_setCell_same->Yc,block_lt_of_cell?->XW,news_of_block->Zf,frozen?_of_block->Zk,size_alloc->Zn,cell?->Yi
open Nat renaming lt_of_lt_of_le->YN,le_trans->XV,zero_le->YK,add_zero->ZJ,le_refl->XT
open Go.Value renaming ownBlock->Za,int->XH,pointer->XI,slice->XJ,string->XK,int->V
open List renaming mem_cons->X8,mem_append->X9,mem_cons_of_mem->Zl,flatMap_append->YW,length_append->Yy,drop_eq_getElem_cons->Zh,drop_eq_nil_of_le->Zi,take_succ_eq_append_getElem->YJ,take_of_length_le->YL,foldl_cons->Zt,length_cons->Yz,getD_eq_getElem?_getD->Zu,getElem?_eq_getElem->Zv,all_eq_true->Zy,mem_iff_getElem?->Zz,getElem?_drop->ZA,getElem?_take->ZB,isPrefixOf->ZD,length_map->Ze,pairwise_cons->Yl,pairwise_append->ZU,mem_filter->ZX,filter_eq_self->ZY,filter_cons->Yn,getLastD->ZZ,any_eq_true->Z4,foldl_append->Z5,cons_append->Yk,append_assoc->Y9,mem_map->YP,length_take_le->YS,map_append->YT,countP_eq_length_filter->Z6,countP->Z7,countP_mono_left->Z8,flatMap_cons->YV,length_take_of_le->YX,getElem?_append_right->YZ,getElem?_append_left->YU
open And renaming intro->Yd
open Option.some renaming inj->Zo
open Go.Maps renaming size->Zp,has->Zq
open Go.WideAt renaming IsKeyLit->Zr
open Go.Lib renaming cut->Zx,occAt->ZC,index->ZE,closeSpans->ZG,spansFromP->ZL,goFieldsP->ZN,splitK->ZQ
open Int renaming eq_ofNat_of_zero_le->ZF,le_refl->ZR,sub_emod_right->ZS,emod_eq_of_lt->ZT,mul_nonneg->YG
open Go.Utf8 renaming decode->ZI,runeError->ZK
open ByteArray renaming size_extract->ZO
open List.cons renaming injEq->ZP
open Classical renaming byContradiction->ZV
open List.Pairwise renaming sublist->ZW,filter->Yo
open Go.IntKind renaming i64->XQ,i64->Y
open Go.Ending renaming returned->XR
open Go.Obj renaming cells->XS
variable{name s:Xn}{e z:Go.Proofs.YtolaacmheeaadaaGreatDoor.aA.aQ}{b fr given id level long m tq x y:Xs}{ts:Xo (Xn × Xs)}{L:Xo (Xs × Xs)}{es:Xo Go.Proofs.YtolaacmheeaadaaGreatDoor.aA.aQ}{acc fs:Xo Xs}{F:Xo Xr}{l:Xo UInt8}{cap d g i j n sz:Xr}{c0 c1 c2 c3 c4 c5 key v:Go.Value}{w w' w1:Go.World}
namespace Go.Proofs.YtolaacmheeaadaaGreatDoor
open Go.RowKit
def vw(w:XA)(d:M)(ts:J (Xn × N))(f:J (aA.aQ × M × M))(given now:N)(F:J M)(w':XA):Prop :=∃ c,RD w' d ts f given now c/\(∀ k∈c,k∈F\/w<=k)/\aH F w w'
theorem RD.pW{f:J (aA.aQ × M × M)}{now:N}(h:RD w d ts f given now F)(g:N):RD (w.setCell (d,2) g) d ts f g now F:=by
 let⟨v1,a1,a2,a3⟩:=h.tv;let⟨v2,b1,b2,b3⟩:=h.ev;have k:aH [d] w (w.setCell (d,2) g):=aH.bN ..;exact⟨⟨v1,(bD Xc).trans a1,dL a2 k (fun b p=>by grind),a3⟩,⟨v2,(bD Xc).trans b1,dL b2 k (fun b p=>by grind),b3⟩,Yc _ _ _ h.c2,(bD Xc).trans h.c3,fun o=>(zF ..).trans (h.fz o),h.dF,fun x c=>⟨(h.sp x c).1.off k (by simp;intro e;exact (h.sp x c).2.1 (e ▸ h.dF)),(h.sp x c).2.1,YN (h.sp x c).2.2 k.size⟩⟩
theorem fT{c e size:M}{p:J XC}(h:w.ownsRow c e size v n p){b:M}(f:v.ownBlock=U b):b<w:=by
 rcases h.2 with ⟨rfl,_⟩|⟨g,cap,r,rfl,_,k,_⟩
 .simp[Za] at f
 .simp[Za] at f;subst f
  by_cases q:g<w
  .exact q
  .rw[Array.getElem?_eq_none O] at k;cases k
theorem aH.grown{w'':XA}{row:Xp M}(h:aH F w w')(g:w'.grownBy w'' row)(p:∀ k,row=U k->k∈F\/w<=k):aH F w w'' :=⟨g.os.trans h.os,g.tape.trans h.tape,g.output.trans h.output,XV h.size g.size,fun k c f=>(g.block k (zL c h.size) (fun e=>by grind)).trans (h.block k c f)⟩
theorem RD.nz{Y t:XA}{c:J (aA.aQ × M × M)}{now:N}{x:aA.aQ × M × M}(h:RD Y d ts c given now F)(cv:Y.cell? (d,1)=U v)(ho:Y.ownsRow 0 85 6 v c.length (c.flatMap fg))(A:∀ k,v.ownBlock=U k->k∈F/\k≠d)(k:aH (v.ownBlock.toList) Y t)(I:t.ownsRow 0 85 6 (XJ g (c.length+1) cap) (c.length+1) (c.flatMap fg++fg x))(hg:v.ownBlock=U g\/Y<=g)(W:iV Y x.2.1 x.1.aR)(G:x.2.1 ∉ F)(E:x.2.1<Y):RD (t.setCell (d,1) (XJ g (c.length+1) cap)) d ts (c++[x]) given now (g :: F)/\aH (d :: v.ownBlock.toList) Y (t.setCell (d,1) (XJ g (c.length+1) cap)):=by
 let⟨v1,a1,a2,a3⟩:=h.tv;have r:=XW _ _ h.c2;have r:d<Y:=r;have B:g≠d:=Xi;have q:d ∉ v.ownBlock.toList:=Xi;have H:∀ b,v1.ownBlock=U b->b ∉ d :: v.ownBlock.toList:=by
  intro b f e;rcases X8.1 e with e|e
  .exact (a3 b f).2 e
  .have e:v.ownBlock=U b:=by simpa using e
   rcases ho.2 with ⟨rfl,_⟩|⟨g',T,ab,rfl,_,hh,_⟩
   .simp[Za] at e
   .simp[Za] at e;subst e;exact kh a2 hh Xd f
 have K:∀ y,y ∉ F->y ∉ d :: v.ownBlock.toList:=by
  intro y p e;rcases X8.1 e with rfl|e
  .exact p h.dF
  .exact p (A y (by simpa using e)).1
 have C:aH (d :: v.ownBlock.toList) Y (t.setCell (d,1) (XJ g (c.length+1) cap)):=(k.mono Xi).setCell (.inl Xc) _ _;have D:∀ y∈c++[x],iV Y y.2.1 y.1.aR/\y.2.1 ∉ F/\y.2.1<Y:=by
  intro y p;rcases X9.1 p with p|p
  .exact h.sp y p
  .have:y=x:=by simpa using p
   subst this;exact⟨W,G,E⟩
 have R:∀ o u,Y.cell? (d,o)=U u->o≠1->(t.setCell (d,1) (XJ g (c.length+1) cap)).cell? (d,o)=U u:=by intro o u X aa;exact (bD Xc).trans (k.cell q X)
 refine⟨⟨⟨v1,R 0 _ a1 O,dL a2 C H,fun b f=>⟨Zl _ (a3 b f).1,(a3 b f).2⟩⟩,⟨_,Yc _ _ _ (k.cell q cv),?_,?_⟩,R 2 _ h.c2 O,R 3 _ h.c3 O,fun o=>(zF ..).trans ((k.frozen q r).trans (h.fz o)),Zl _ h.dF,?_⟩,C⟩
 .rw[YW,Yy];have e1:([x].flatMap fg)=fg x:=Xc
  rw[e1];exact dL I (aH.bN ..) (fun b f=>by simp[Za] at f;subst f;simpa using B)
 .intro b f;simp[Za] at f;subst f;exact⟨by simp,B⟩
 .intro y p;let⟨y1,y2,y3⟩:=D y p;refine⟨y1.off C (K _ y2),fun e=>?_,YN y3 C.size⟩;rcases X8.1 e with e|e
  .rcases hg with S|S
   .exact y2 (e ▸ (A g S).1)
   .omega
  .exact y2 e
theorem UI:(prog.info? 278).map (fun i=>(i.zero,i.size,i.bytes))=U (U (.agg #[V Y 0,V Y 0,XI Z]),3,24):=Xg
theorem UG(d o:M)(v:XC)(l:J Hp.Hi)(x:Hp.Hi)(w:XA)(h:HP w d o v l)(hh:Hp.iP l)(hl:l.length<=900):XE prog 185 #[XI (U ⟨d,o,Z⟩),V Y x.t,V Y x.n,XI (U ⟨x.v,0,Z⟩)] w fun e w'=>e=XR (.tuple #[])/\∃ p,nC w d o v p w'/\Hp.iP p/\p.Perm (l++[x]):=by
 obtain⟨i0,S,K,I,G⟩:=info_parts UI;have c:=h.c;have fd:=h.fz;have H:=aB h;go_in;have A:d<w.heap.size:=XW _ _ c;have r:d ∉ v.ownBlock.toList:=by intro e;exact H.out.ne (by simpa using e)
 go_wp2_with (first
  |(at_builtin;refine wpList_append_lies _ rfl _ _ 89 rfl 0 278 i0 _ 3 24 underlying89 S K I G rfl Xd _ _ _ rfl (H.out.own.alloc _) ⟨w.heap.size,0,Z⟩ 1 1 (kn x) rfl rfl (Zf (cs:=(kn x).toArray) (dH w _)) (by simp[kn,Value.oneCell']) O Xk O Xc (w.heap.size+1) Xc ?_;intro g cap w1 C f D aa;have E:aH (v.ownBlock.toList) w w1:=aH.grown ((aH.refl _ w).alloc _) f (fun k R=>.inl (Zm.2 R));have z1:=E.cell r c;have z2:=(E.frozen (o:=o) r A).trans fd;clear f))
 have q:d≠g:=by
  rcases D with e|e
  .rintro rfl;exact H.out.ne e
  .omega
 have hz:HP (w1.setCell ⟨d,o,Z⟩ (XJ (U ⟨g,0,Z⟩) (l.length+1) cap)) d o (XJ (U ⟨g,0,Z⟩) (l++[x]).length cap) (l++[x]):=by have el:(l++[x]).length=l.length+1:=Xc;rw[el];refine⟨zm _ _ _ z1,?_,fun e=>q (by simpa[Za] using e.symm),(zF ..).trans z2⟩;rw[el,YW];have e2:[x].flatMap kn=kn x:=Xc;rw[e2];exact dL C (aH.bN d _ o _) (fun b T=>by simp;rintro rfl;exact q (by simpa[Za] using T.symm))
 have RS:=aB (J9 d o g cap (l++[x]) l.length _ hz Xc (Hp.UU hh) Xh);have u:=aB (Yd E D);refine RS.out.mono ?_;rintro e w5 ⟨rfl,p,B,X⟩;have HF:Hid (∃ p,nC w d o v p w5/\Hp.iP p/\p.Perm (l++[x])):=by
  refine⟨p,⟨_,B.hp,fun b T=>?_,?_,fun o' ho=>?_,fun o'=>?_⟩,X,B.perm⟩
  .have:g=b:=by simpa[Za] using T
   subst this;rcases u.out.2 with e|e
   .exact .inl e
   .exact .inr O
  .refine ((u.out.1.mono (by simp +contextual)).setCell (.inl Xc) o _).trans' B.off (fun k R=>?_);have:k=g:=by simpa using R
   subst this;rcases u.out.2 with e|e
   .exact .inl (Zl _ (Zm.2 e))
   .exact .inr O
  .have W:=B.off.block d (by have:=u.out.1.size;simp;omega) (by simpa using q);exact (zo W).trans ((zS _ _ _ _ (by have:=ho;simp)).trans (zo (u.out.1.block d A r)))
  .have W:=B.off.block d (by have:=u.out.1.size;simp;omega) (by simpa using q);exact (Zk W).trans ((zF ..).trans (Zk (u.out.1.block d A r)))
 clear RS u B X;go_wp2;go_end0;exact⟨rfl,HF.out⟩
def gn{α:Type}(p:α->Xq):J α->N->N
 |[],_=>-1
 |x :: r,i=>if p x then i else gn p r (i+1)
theorem yD{α:Type}(p:α->Xq):∀ (l:J α)(i:N),(gn p l i=-1/\∀ x∈l,p x=Xy)\/∃ (k:M)(h:k<l.length),gn p l i=i+k/\p l[k]=Xz/\∀ (j:M)(q:j<k),p (l[j]'Xb)=Xy
 |[],i=>.inl ⟨rfl,fun x u=>by simp at u⟩
 |x :: r,i=>by
  cases c:p x
  .rcases yD p r (i+1) with ⟨f,t⟩|⟨k,h,f,t,A⟩
   .exact .inl ⟨by simp[gn,c,f],fun y B=>by grind⟩
   .refine .inr ⟨k+1,by simp;omega,by simp[gn,c,f];omega,by simpa using t,fun j q=>?_⟩
    cases j with
    |zero=>simpa using c
    |succ j=>simpa using A j O
  .exact .inr ⟨0,by simp,by simp[gn,c],by simpa using c,fun j q=>by omega⟩
theorem TO{α:Type}(p:α->Xq)(l:J α):-1<=gn p l 0/\gn p l 0<l.length:=by grind[yD,gn]
theorem nC.from{w2:XA}{o:M}{f:J Hp.Hi}(h:nC w1 d o v f w2)(k:XD w w w1)(p:d<w):nC w d o v f w2:=by let⟨v',h1,h2,h3,h4,h5⟩:=h;refine⟨v',h1,fun b r=>(h2 b r).imp id (fun e=>XV k.size e),(aH.aD k).trans h3,fun c q=>(h4 c q).trans (zo (k.block d p)),fun c=>(h5 c).trans (Zk (k.block d p))⟩
theorem VT(x:Hp.Hi)(t n:N)(A B:M)(w:XA)(h:w.cell? (A,0)=U ↑t)(cb:w.cell? (B,0)=U ↑n):XE prog 189 #[.agg #[x.t,V Y x.n,x.v],A,B] w fun e w'=>e=XR (jL x t n==0)/\XD w w w':=by
 have q:=aB (fun w'=>Mz x t n w');have c:XD w w (w.alloc (XS #[x.t,V Y x.n,x.v] 278)):=aS;have u:=aT c h;have r:=aT c cb;have k:=aB c;go_in;go_wp21;refine aK (q _) fun w1 f=>?_;have p:=aB (bV k f aJ);go_wp21;go_ret;exact⟨rfl,p⟩
theorem b1U(l:J Hp.Hi)(t n:N)(v:XC)(A B:M)(w:XA)(own:w.ownsRow 0 278 3 v l.length (l.flatMap kn))(ca:w.cell? (A,0)=U ↑t)(cb:w.cell? (B,0)=U ↑n)(hl:l.length<=1000):XE prog 188 #[v,.func (.func 189) #[] #[A,B]] w fun e w'=>e=XR (V Y (gn (fun x=>jL x t n==0) l 0))/\XD w w w':=by
 have X:∃ a cap,v=XJ a l.length cap:=by
  rcases own.2 with ⟨rfl,h⟩|⟨g,cap,_,rfl,_⟩
  .rw[h];exact⟨_,_,rfl⟩
  .exact⟨_,_,rfl⟩
 obtain⟨a,cap,rfl⟩:=X;have u:=aB (Yd ca cb);have q:=aB own;go_in;go_wp21;go_loopw [8] (fun i wx=>∃ k:M,k<=l.length/\i=V Y k/\gn (fun x=>jL x t n==0) l 0=gn (fun x=>jL x t n==0) (l.drop k) k/\XD w w wx) (fun i _=>l.length-(intOf i).toNat)
 .exact⟨0,YK _,rfl,rfl,Below.refl _ _⟩
 .obtain⟨k,hk,rfl,R,p⟩:=hrel;have G:=aB R;have K:=aB p
  by_cases f:k<l.length
  .have hi:(k:N)<(l.length:N):=O
   obtain⟨H,T,S⟩:=Joins.ownsRow_form q O;simp only[Value.slice.injEq,true_and] at S;obtain⟨rfl,rfl⟩:=S;have c:=fH q p;have a0:=(c.cellAt (k*3) O).trans (wH f (j:=0) O);have a1:=(c.cellAt (k*3+1) O).trans (wH f (j:=1) O);have a2:=(c.cellAt (k*3+2) O).trans (wH f (j:=2) O);simp only[kn,List.getElem?_cons_zero,List.getElem?_cons_succ] at a0 a1 a2;have D:=aB (VT l[k] t n A B wr (aT p u.1) (aT p u.2));have ed:gn (fun x=>jL x t n==0) (l.drop k) k=if jL l[k] t n==0 then (k:N) else gn (fun x=>jL x t n==0) (l.drop (k+1)) ((k+1:M):N):=by rw[Zh f];rfl
   have W:=aB ed
   cases C:(jL l[k] t n==0)
   .have r:Hid (gn (fun x=>jL x t n==0) l 0=gn (fun x=>jL x t n==0) (l.drop (k+1)) ((k+1:M):N)):=by show _=_;rw[G,W,C];rfl
    rw[C] at D;go_wp21;refine D.mono ?_;rintro e w1 ⟨rfl,E⟩;have I:=aB (bV K E aJ);go_wp21;go_roundw
    .exact⟨k+1,O,by go_num,r,I⟩
    .simp[intOf];omega
   .have r:Hid (gn (fun x=>jL x t n==0) l 0=k):=by show _=_;rw[G,W,C];rfl
    rw[C] at D;go_wp21;refine D.mono ?_;rintro e w1 ⟨rfl,E⟩;have I:=aB (bV K E aJ);go_wp21;go_ret;exact⟨jx r.symm,I⟩
  .have hi:¬ (k:N)<(l.length:N):=O
   have e:l.drop k=[]:=Zi O;have r:Hid (gn (fun x=>jL x t n==0) l 0=-1):=by show _=_;rw[G,e];rfl
   clear R p e;go_wp21;go_ret;exact⟨jx r.symm,K⟩
theorem V4(d o:M)(v:XC)(l:J Hp.Hi)(t n:N)(w:XA)(h:HP w d o v l)(hh:Hp.iP l)(hl:l.length<=1000):
  XE prog 154 #[XI (U ⟨d,o,Z⟩),t,n] w fun e w'=>e=XR (.tuple #[]) /\(((∀ x∈l,¬ (x.t=t/\x.n=n))/\XD w w w')\/∃ (x:Hp.Hi) (f:J Hp.Hi),x.t=t/\x.n=n/\nC w d o v f w'/\Hp.iP f/\l.Perm (x :: f)):=by
 have D:XD w w ((w.alloc (XS #[t] 3)).alloc (XS #[n] 3)):=aS.alloc Xc _;have p:=h.later D;have c:=p.c;have K:((w.alloc (XS #[t] 3)).alloc (XS #[n] 3)).cell? (w,0)=U ↑t:=Xc;have I:((w.alloc (XS #[t] 3)).alloc (XS #[n] 3)).cell? (w.heap.size+1,0)=U ↑n:=by have:=dH (w.alloc (XS #[t] 3)) (XS #[n] 3);rw[Zn] at this;simp only[Yi,this];rfl
 have IX:=aB (b1U l t n v w (w.heap.size+1) _ p.own K I hl);have E:=aB (Yd D p);have C:=XW _ _ h.c;have bd:=TO (fun x=>jL x t n==0) l;have W:=yD (fun x=>jL x t n==0) l 0;clear D p K I h;generalize gn (fun x=>jL x t n==0) l 0=q at *;have u:=aB W;clear W;go_in;go_wp21;generalize ((w.alloc (XS #[t] 3)).alloc (XS #[n] 3))=X at *;refine IX.mono ?_;rintro e w1 ⟨rfl,A⟩;have H:=aB (Yd (bV E.1 A aJ) (E.2.later A));clear A IX c E;by_cases h0:0<=q
 .obtain⟨k,B,e1,r,e3⟩:∃ (k:M) (h:k<l.length),q=k/\(jL l[k] t n==0)=Xz/\True:=by
   rcases u with ⟨h,_⟩|⟨k,h,e,r,_⟩
   .omega
   .exact⟨k,h,O,r,trivial⟩
  subst e1;have RM:=aB (LO d o v l k w1 H.2 hh B hl);have HE:=aB r;clear r e3 u;go_wp21;refine RM.mono ?_;rintro e w2 ⟨rfl,f,T,S,R⟩;have G:Hid (∃ (x:Hp.Hi) (f:J Hp.Hi),x.t=t/\x.n=n/\nC w d o v f w2/\Hp.iP f/\l.Perm (x :: f)):=by have r:jL l[k] t n=0:=aU HE.out;obtain⟨q1,q2⟩:=(KO _ _ _).1 r;refine⟨Hp.at_ l k,f,by rw[Hp.pP B];exact q1,by rw[Hp.pP B];exact q2,T.from H.1 C,S,R⟩
  clear T S R RM;go_wp21;go_end0;exact⟨rfl,.inr G⟩
 .have G:Hid (∀ x∈l,¬ (x.t=t/\x.n=n)):=by
   rcases u with ⟨_,h⟩|⟨k,h,e,_⟩
   .intro x p e;have:=h x p;have e0:=(KO x t n).2 e;simp[e0] at this
   .omega
  clear u;go_wp21;go_end0;exact⟨rfl,.inl ⟨G,H.1⟩⟩
open Go Go.Maps
def Aq(o:Xp M):XC:=XI (o.map fun b=>(b,0))
def lM(o:Xp M):DataW Unit:=.lit (.int Y (match o with|none=>-1|some b=>(b:N)))
def sj:XC->Xp (DataW Unit × J MemPlace)
 |.pointer Z=>U (lM Z,[])
 |.pointer (U ⟨b,0,Z⟩)=>U (lM (U b),[])
 |_=>Z
theorem Ui(o:Xp M):sj (Aq o)=U (lM o,[]):=by cases o <;> rfl
theorem J7{a b:Xp M}(h:lM a=lM b):a=b:=by
 unfold lM at h
 cases a <;> cases b <;> simp at h ⊢ <;> omega
theorem Vr{o:Xp M}{c:J MemPlace}(h:sj v=U (lM o,c)):v=Aq o:=by
 unfold sj at h;split at h
 .have e:lM Z=lM o:=congrArg Prod.fst (Zo h);have:=J7 e;subst this;rfl
 .rename_i b
  have e:lM (U b)=lM o:=congrArg Prod.fst (Zo h);have:=J7 e;subst this;rfl
 .cases h
noncomputable def nE(f:Lit->Xp M)(c:Lit)(o:Xp M)(x:Lit):Xp M:=@ite _ (x=c) (Classical.propDecidable _) o (f x)
theorem vh(f:Lit->Xp M)(c:Lit)(o:Xp M):nE f c o c=o:=Xu rfl
theorem vo(f:Lit->Xp M){c x:Lit}(o:Xp M)(h:x≠c):nE f c o x=f x:=Xt h
def gO(P:Program)(k:XG)(w:XA)(b n:M)(f:Lit->Xp M)(sz:M):Prop :=∃ D,w.ownsMap P k sj b n D/\Zp D=sz/\(∀ c,D.atKey c (lM Z)=lM (f c))/\∀ c,Zq D c=(f c).isSome
theorem gO.block{P:Program}{k:XG}{b:M}{f:Lit->Xp M}(h:gO P k w b n f sz)(c:w'.heap[b]?=w.heap[b]?):gO P k w' b n f sz:=by let⟨D,⟨es,clock,h1,h2⟩,h3⟩:=h;exact⟨D,⟨es,clock,c.trans h1,h2⟩,h3⟩
theorem gO.tight{P:Program}{k:XG}{b:M}{f:Lit->Xp M}(h:gO P k w b n f sz):gO P k w b sz f sz:=by let⟨D,⟨es,clock,h1,h2,h3,h4⟩,h5,h6⟩:=h;refine⟨D,⟨es,clock,h1,h2,?_,h4⟩,h5,h6⟩;rw[<- h5,h4,Maps.size_eq,length_sorted];simp
theorem gO.made(P:Program)(k:XG)(w:XA):gO P k (w.alloc (.map #[] 0)) w 0 (fun _=>Z) 0 :=⟨.map [],World.ownsMap_made w P k sj,rfl,fun _=>rfl,fun _=>rfl⟩
theorem gO.look{P:Program}{k e t:XG}{b:M}{f:Lit->Xp M}(h:gO P k w b n f sz)(K:Keyed P k)(ht:P.underlying t=U (.map k e))(q:(zeroValue e).run P w=.ok (XI Z) w){p:Lit}(c:keyOf P k key=U p):(Instr.lookup t (.map (U b)) key Xy).run P w=.ok (Aq (f p)) w:=by
 let⟨D,h1,_,h3,_⟩:=h;let⟨v,ps,hrun,hv⟩:=h1.lookup K ht q (zd:=lM Z) (zp:=[]) rfl c;rw[h3] at hv;rw[hrun,Vr hv]
theorem gO.len{P:Program}{k e t:XG}{b:M}{f:Lit->Xp M}(h:gO P k w b n f sz)(ht:P.underlying t=U (.map k e))(c:XG):(Builtin.len_ #[t] c #[.map (U b)]).run P w=.ok (V Y sz) w:=by let⟨D,h1,h2,_⟩:=h;rw[h1.len ht c,h2]
theorem gO.put{P:Program}{k:XG}{b:M}{f:Lit->Xp M}{D:DataW Unit}{q:Lit}{p:M}(K:Keyed P k)(w:XA)(r:w.ownsMap P k sj b n D)(h:w'.ownsMap P k sj b (n+1) (D.put q (lM (U p))))(t:Zr q)(A:∀ q,D.atKey q (lM Z)=lM (f q))(u:∀ q,Zq D q=(f q).isSome):gO P k w' b (n+1) (nE f q (U p)) (if (f q).isSome then Zp D else Zp D+1):=by
 refine⟨_,h,?_,fun x=>?_,fun x=>?_⟩
 .rw[Maps.size_put (r.tidy K),u]
 .by_cases c:x=q
  .rw[c,vh,Maps.atKey_put_same r.isMap t]
  .rw[vo f _ c,Maps.atKey_put_other c,A]
 .by_cases c:x=q
  .rw[c,vh,Maps.has_put_same r.isMap t];rfl
  .rw[vo f _ c,Maps.has_put_other c,u]
theorem gO.del{P:Program}{k:XG}{b:M}{f:Lit->Xp M}{D:DataW Unit}{p:Lit}(K:Keyed P k)(w:XA)(r:w.ownsMap P k sj b n D)(h:w'.ownsMap P k sj b n (D.del p))(t:∀ p,D.atKey p (lM Z)=lM (f p))(q:∀ p,Zq D p=(f p).isSome):gO P k w' b n (nE f p Z) (Zp D-if (f p).isSome then 1 else 0):=by
 refine⟨_,h,?_,fun x=>?_,fun x=>?_⟩
 .have:=Maps.size_del (k:=p) (r.tidy K);rw[q] at this;omega
 .by_cases c:x=p
  .rw[c,vh,Maps.atKey_del_same]
  .rw[vo f _ c,Maps.atKey_del_other c,t]
 .by_cases c:x=p
  .rw[c,vh,Maps.has_del_same];rfl
  .rw[vo f _ c,Maps.has_del_other c,q]
theorem gO.oq{P:Program}{k e t:XG}{b:M}{f:Lit->Xp M}(h:gO P k w b n f sz)(K:Keyed P k)(ht:P.underlying t=U (.map k e)){p:Lit}(c:keyOf P k key=U p)(q:XG):∃ w',(Builtin.delete_ #[t,k] q #[.map (U b),key]).run P w=.ok (.tuple #[]) w'/\gO P k w' b n (nE f p Z) (sz-if (f p).isSome then 1 else 0)/\w.grownBy w' (U b):=by
 let⟨D,h1,h2,h3,h4⟩:=h;let⟨w',hrun,r1,r2⟩:=h1.drop K ht c q;refine⟨w',hrun,?_,r2.grown⟩;rw[<- h2];exact gO.del K w h1 r1 h3 h4
theorem gO.mE{P:Program}{k e t:XG}{b:M}{f:Lit->Xp M}(h:gO P k w b n f sz)(K:Keyed P k)(ht:P.underlying t=U (.map k e))(u:n<maxLen){r:Lit}(q:keyOf P k key=U r)(c:Zr r)(p:M):∃ w',(Instr.mapUpdate t (.map (U b)) key (Aq (U p))).run P w=.ok () w'/\gO P k w' b (n+1) (nE f r (U p)) (if (f r).isSome then sz else sz+1)/\w.grownBy w' (U b):=by
 let⟨D,h1,h2,h3,h4⟩:=h;let⟨w',hrun,r1,r2⟩:=h1.update K ht u q (Ui (U p));refine⟨w',hrun,?_,r2⟩;rw[<- h2];exact gO.put K w h1 r1 c h3 h4
section
variable {P:Program}(w:XA) {ops:Array Oper}{rest:Xo Oper}{o:Oper}{a:Act}{Q:Exit->Act->XA->Prop}
end
end Go.Proofs.YtolaacmheeaadaaGreatDoor
namespace Go.Proofs.YtolaacmheeaadaaGreatDoor.Cal
def ah(y:N):N:=(y-1)*365+(y-1) / 4-(y-1) / 100+(y-1) / 400
def oy(y:N):Xq:=y % 4==0 && (y % 100 != 0 || y % 400==0)
def lp(y:N):N:=if oy y then 1 else 0
def jO(m:N):N:=if m=2 then 28 else if m=4\/m=6\/m=9\/m=11 then 30 else 31
def jk(y m:N):N:=if m=2 then 28+lp y else jO m
def eh(y m:N):N :=if m<=1 then 0 else if m=2 then 31 else lp y+(if m=3 then 59 else if m=4 then 90 else if m=5 then 120 else if m=6 then 151 else if m=7 then 181 else if m=8 then 212 else if m=9 then 243 else if m=10 then 273 else if m=11 then 304 else if m=12 then 334 else 365)
def first:N:=-738885
def last:N:=2913173
def num(y m d:N):N:=first+ah y+eh y m+d-1
def ok(y m d:N):Xq:=decide (1<=y/\y<=9999/\1<=m/\m<=12/\1<=d/\d<=jk y m)
theorem tA(y:N):0<=lp y/\lp y<=1:=by unfold lp;split <;> omega
theorem Ti(y:N):lp y=1/\y % 4=0/\(y % 100≠0\/y % 400=0)\/lp y=0/\¬ (y % 4=0/\(y % 100≠0\/y % 400=0)):=by
 unfold lp
 cases h:oy y
 .right;refine⟨by simp,?_⟩;simp only[oy,Bool.and_eq_false_iff,Bool.or_eq_false_iff,beq_eq_false_iff_ne,bne_eq_false_iff_eq] at h;omega
 .left;refine⟨by simp,?_⟩;simp only[oy,Zs,Bool.or_eq_true,beq_iff_eq,bne_iff_ne] at h;exact h
theorem uJ(y:N)(_h:1<=y):ah (y+1)=ah y+365+lp y:=by rcases Ti y with ⟨e,c⟩|⟨e,c⟩ <;> rw[e] <;> unfold ah <;> omega
theorem uN(a b:N)(_h0:1<=a)(_h:a<=b):ah a<=ah b:=by unfold ah;omega
theorem Ay:ah 10000=3652059:=Xd
theorem b7s(g:N)(_h:0<=g):ah (g*400 / 146097+1)<=g:=by unfold ah;omega
theorem tj(y:N)(_h1:1<=y)(_h2:y<=10000):0<=ah y/\ah y<=3652059:=by unfold ah;omega
theorem TQ(m:N):28<=jO m/\jO m<=31:=by unfold jO;(repeat' split) <;> omega
theorem pK(y m:N):28<=jk y m/\jk y m<=31:=by have:=tA y;have:=TQ m;unfold jk;split <;> omega
theorem Dr(m:N)(f:1<=m)(c:m<=12):m=1\/m=2\/m=3\/m=4\/m=5\/m=6\/m=7\/m=8\/m=9\/m=10\/m=11\/m=12:=O
theorem qY(y:N):eh y 1=0:=by simp[eh]
theorem sC(y m:N)(f:1<=m)(c:m<=12):eh y (m+1)=eh y m+jk y m:=by rcases Dr m f c with h|h|h|h|h|h|h|h|h|h|h|h <;> subst h <;> simp[eh,jk,jO] <;> omega
theorem xW(y:N):eh y 13=365+lp y:=by simp[eh];omega
theorem Du(y a:N)(k:M)(h:1<=a)(f:a+k<=13):eh y a<=eh y (a+k):=by
 induction k with
 |zero=>simp
 |succ k ih =>have c:=sC y (a+k) O O;have d:=pK y (a+k);have i:=ih O;rw[show a+((k+1:M):N)=a+k+1 from by omega,c];omega
theorem tD(y m:N)(c:1<=m)(f:m<=13):0<=eh y m/\eh y m<=365+lp y:=by have a:=Du y 1 (m-1).toNat O O;have b:=Du y m (13-m).toNat c O;rw[show (1:N)+((m-1).toNat:N)=m from by omega,qY] at a;rw[show m+((13-m).toNat:N)=13 from by omega,xW] at b;exact⟨a,b⟩
theorem El(y a b:N)(f:1<=a)(h:a<b)(k:b<=13):eh y a+jk y a<=eh y b:=by rw[<- sC y a f O];have c:=Du y (a+1) (b-(a+1)).toNat O O;rwa [show (a+1)+((b-(a+1)).toNat:N)=b from by omega] at c
theorem jv(y m d:N):ok y m d=Xz↔1<=y/\y<=9999/\1<=m/\m<=12/\1<=d/\d<=jk y m:=by simp[ok]
theorem ym(y m d:N)(h:ok y m d=Xz):ah y<=num y m d-first/\num y m d-first<ah (y+1):=by let⟨h1,h2,h3,h4,h5,h6⟩:=(jv y m d).1 h;have a:=uJ y h1;have b:=tD y m h3 O;have c:=sC y m h3 h4;have e:=tD y (m+1) O O;unfold num;omega
theorem VI(a b n:N)(f:1<=a)(c:1<=b)(r:ah a<=n)(q:n<ah (a+1))(p:ah b<=n)(k:n<ah (b+1)):a=b:=by
 by_cases h:a<b
 .have:=uN (a+1) b O O;omega
 .by_cases t:b<a
  .have:=uN (b+1) a O O;omega
  .omega
theorem VP(y a b n:N)(p:1<=a)(k:a<=12)(f:1<=b)(c:b<=12)(A:eh y a<=n)(u:n<eh y a+jk y a)(t:eh y b<=n)(r:n<eh y b+jk y b):a=b:=by
 by_cases h:a<b
 .have:=El y a b p h O;omega
 .by_cases q:b<a
  .have:=El y b a f q O;omega
  .omega
theorem one(y m d c f d':N)(h:ok y m d=Xz)(k:ok c f d'=Xz)(e:num y m d=num c f d'):y=c/\m=f/\d=d':=by have i:=ym y m d h;have r:=ym c f d' k;let⟨h1,h2,h3,h4,h5,h6⟩:=(jv y m d).1 h;let⟨g1,g2,g3,g4,g5,g6⟩:=(jv c f d').1 k;have p:=VI y c (num y m d-first) h1 g1 i.1 i.2 Xi Xi;subst p;unfold num at e;have q:=VP y m f (eh y m+d-1) h3 h4 g3 g4 O O O O;subst q;exact⟨rfl,rfl,O⟩
theorem Ds(y m d:N)(h:ok y m d=Xz):first<=num y m d/\num y m d<=last:=by let⟨h1,h2,h3,h4,h5,h6⟩:=(jv y m d).1 h;have i:=ym y m d h;have a:=uN (y+1) 10000 O O;have b:=tj y h1 O;have c:=Ay;unfold first at i;unfold first last;omega
end Go.Proofs.YtolaacmheeaadaaGreatDoor.Cal
namespace Go.Proofs.YtolaacmheeaadaaGreatDoor.Cal
def yF(g:N):N:=if ah (g*400 / 146097+2)<=g then g*400 / 146097+2 else g*400 / 146097+1
def mF(y r:N):N:=if r<eh y 2 then 1 else if r<eh y 3 then 2 else if r<eh y 4 then 3 else if r<eh y 5 then 4 else if r<eh y 6 then 5 else if r<eh y 7 then 6 else if r<eh y 8 then 7 else if r<eh y 9 then 8 else if r<eh y 10 then 9 else if r<eh y 11 then 10 else if r<eh y 12 then 11 else 12
theorem Tm(g:N)(h:0<=g):1<=yF g/\ah (yF g)<=g/\g<ah (yF g+1):=by grind[yF,ah]
theorem Tj(y r:N)(E:0<=r)(D:r<eh y 13):1<=mF y r/\mF y r<=12/\eh y (mF y r)<=r/\r<eh y (mF y r+1):=by have c1:=qY y;unfold mF;by_cases C:r<eh y 2;rw[Xu C];exact⟨O,O,O,C⟩;rw[Xt C];by_cases B:r<eh y 3;rw[Xu B];exact⟨O,O,O,B⟩;rw[Xt B];by_cases A:r<eh y 4;rw[Xu A];exact⟨O,O,O,A⟩;rw[Xt A];by_cases u:r<eh y 5;rw[Xu u];exact⟨O,O,O,u⟩;rw[Xt u];by_cases t:r<eh y 6;rw[Xu t];exact⟨O,O,O,t⟩;rw[Xt t];by_cases q:r<eh y 7;rw[Xu q];exact⟨O,O,O,q⟩;rw[Xt q];by_cases p:r<eh y 8;rw[Xu p];exact⟨O,O,O,p⟩;rw[Xt p];by_cases k:r<eh y 9;rw[Xu k];exact⟨O,O,O,k⟩;rw[Xt k];by_cases h:r<eh y 10;rw[Xu h];exact⟨O,O,O,h⟩;rw[Xt h];by_cases f:r<eh y 11;rw[Xu f];exact⟨O,O,O,f⟩;rw[Xt f];by_cases c:r<eh y 12;rw[Xu c];exact⟨O,O,O,c⟩;rw[Xt c];exact⟨O,O,O,D⟩
def yT(n:N):N:=yF (n+738885)
def mT(n:N):N:=mF (yT n) (n+738885-ah (yT n))
def dT(n:N):N:=n+738885-ah (yT n)-eh (yT n) (mT n)+1
theorem vL(n:N)(k:-738885<=n)(f:n<=2913173):ok (yT n) (mT n) (dT n)=Xz/\num (yT n) (mT n) (dT n)=n:=by
 have ⟨a1,a2,a3⟩:=Tm (n+738885) O;have s:=uJ (yF (n+738885)) a1;have c:yF (n+738885)<=9999:=by by_cases h:yF (n+738885)<=9999;exact h;have:=uN 10000 (yF (n+738885)) O O;have:=Ay;omega
 have p:=xW (yF (n+738885));have ⟨b1,b2,b3,b4⟩:=Tj (yF (n+738885)) (n+738885-ah (yF (n+738885))) O O;have cs:=sC (yF (n+738885)) (mF (yF (n+738885)) (n+738885-ah (yF (n+738885)))) b1 b2;refine⟨(jv _ _ _).2 ?_,?_⟩
 .unfold dT mT yT;refine⟨a1,c,b1,b2,O,O⟩
 .unfold num dT mT yT first;omega
theorem xT(y m d n:N)(h:ok y m d=Xz)(e:num y m d=n):y=yT n/\m=mT n/\d=dT n:=by have b:=Ds y m d h;rw[e] at b;unfold first last at b;have ⟨h1,h2⟩:=vL n b.1 b.2;exact one y m d _ _ _ h h1 (by rw[e,h2])
end Go.Proofs.YtolaacmheeaadaaGreatDoor.Cal
namespace Go.Proofs.YtolaacmheeaadaaGreatDoor.Txt
def s9(c:UInt8):Xq:=decide (48<=(c.toNat:N)/\(c.toNat:N)<=57)
def iH(l:J UInt8):Xq:=l.all s9
def jA(l:J UInt8):N:=l.foldl (fun n c=>n*10+((c.toNat:N)-48)) 0
def low(c:UInt8):Xq:=decide (97<=(c.toNat:N)/\(c.toNat:N)<=122)
def qv(l:J UInt8):Xq:=l.all low
def isNum(l:J UInt8):Xq:=decide (1<=l.length/\l.length<=7) && iH l
def gP(l:J UInt8):Xq:=decide (1<=l.length/\l.length<=8) && qv l
theorem rn(c:UInt8):s9 c=Xz↔48<=(c.toNat:N)/\(c.toNat:N)<=57:=by simp[s9]
theorem Aw(c:UInt8):low c=Xz↔97<=(c.toNat:N)/\(c.toNat:N)<=122:=by simp[low]
theorem yG(l:J UInt8)(c:UInt8):iH (l++[c])=(iH l && s9 c):=by simp[iH]
theorem AE(l:J UInt8)(c:UInt8):qv (l++[c])=(qv l && low c):=by simp[qv]
theorem Lr(l:J UInt8)(c:UInt8):jA (l++[c])=jA l*10+((c.toNat:N)-48):=by simp[jA]
theorem A0(s:Xn)(k:M)(h:k<s.size):s.data.toList.take (k+1)=s.data.toList.take k++[s[k]]:=by rw[YJ (aU h)];rfl
theorem uU(s:Xn)(k:M)(h:s.size<=k):s.data.toList.take k=s.data.toList:=YL (aU h)
theorem iJ(s:Xn):s.data.toList.length=s.size:=Xc
theorem Mw(l:J UInt8)(k:M)(h:iH (l.take k)=Xy):iH l=Xy:=by grind[iH]
theorem K9(l:J UInt8)(k:M)(h:qv (l.take k)=Xy):qv l=Xy:=by grind[qv]
theorem Tz(l:J UInt8):∀ (k:M)(n:N),0<=n->n<10 ^ k->iH l=Xz->0<=l.foldl (fun n c=>n*10+((c.toNat:N)-48)) n/\l.foldl (fun n c=>n*10+((c.toNat:N)-48)) n<10 ^ (k+l.length):=by
 induction l with
 |nil=>intro k n p h _;exact⟨p,h⟩
 |cons c l ih =>intro k n p h f;simp only[iH,List.all_cons,Zs] at f;have q:=(rn c).1 f.1;have:=ih (k+1) (n*10+((c.toNat:N)-48)) O Xi f.2;simp only[Zt,Yz];rw[show k+(l.length+1)=k+1+l.length from by omega];exact this
theorem JD(l:J UInt8)(h:iH l=Xz)(c:l.length<=7):0<=jA l/\jA l<=9999999:=by have b:=Tz l 0 0 O Xd h;have q:∀ k:M,k<8->(10:N) ^ k<=10000000:=Xd;have p:=q (0+l.length) O;unfold jA;omega
theorem Mh(h:1<=l.length)(f:l.length<=7)(c:iH l=Xz):isNum l=Xz:=by simp[isNum,h,f,c]
theorem AD(h:¬ (1<=l.length/\l.length<=7)):isNum l=Xy:=by unfold isNum;rw[decide_eq_false h];rfl
theorem KV(h:iH l=Xy):isNum l=Xy:=by simp[isNum,h]
theorem KW(l:J UInt8):isNum l=Xz↔(1<=l.length/\l.length<=7)/\iH l=Xz:=by simp[isNum]
theorem Kw(h:1<=l.length)(f:l.length<=8)(c:qv l=Xz):gP l=Xz:=by simp[gP,h,f,c]
theorem AX(h:¬ (1<=l.length/\l.length<=8)):gP l=Xy:=by unfold gP;rw[decide_eq_false h];rfl
theorem JQ(h:qv l=Xy):gP l=Xy:=by simp[gP,h]
def dG(l:J UInt8):N:=if isNum l then jA l else 0
theorem lS(l:J UInt8):0<=dG l/\dG l<=9999999:=by
 unfold dG;split
 .rename_i h
  have:=(KW l).1 h;exact JD l this.2 this.1.2
 .omega
end Go.Proofs.YtolaacmheeaadaaGreatDoor.Txt
namespace Go.Proofs.YtolaacmheeaadaaGreatDoor.Txt
def fI(s:Xn)(i:M):N:=((s.data.toList.getD i 0).toNat:N)
theorem mz(s:Xn)(i:M)(h:i<s.size):fI s i=(s[i].toNat:N):=by unfold fI;rw[Zu,Zv (aU h)];rfl
def part(s:Xn)(a b:M):J UInt8:=(s.extract a b).data.toList
def dZ(s:Xn):Xq:=decide (s.size=5/\fI s 2=58/\isNum (part s 0 2)=Xz/\isNum (part s 3 5)=Xz/\dG (part s 0 2)<=23/\dG (part s 3 5)<=59)
def eA(s:Xn):N:=if dZ s then dG (part s 0 2)*60+dG (part s 3 5) else 0
def jY(s:Xn):Xq:=decide (s.size=10/\fI s 4=45/\fI s 7=45/\isNum (part s 0 4)=Xz/\isNum (part s 5 7)=Xz/\isNum (part s 8 10)=Xz/\Cal.ok (dG (part s 0 4)) (dG (part s 5 7)) (dG (part s 8 10))=Xz)
def gh(s:Xn):N:=if jY s then Cal.num (dG (part s 0 4)) (dG (part s 5 7)) (dG (part s 8 10)) else 0
def cU(s:Xn):Xq:=decide (jY s=Xz/\0<=gh s/\gh s<728)
theorem Bj(h:¬ (s.size=5/\fI s 2=58/\isNum (part s 0 2)=Xz/\isNum (part s 3 5)=Xz/\dG (part s 0 2)<=23/\dG (part s 3 5)<=59)):dZ s=Xy:=decide_eq_false h
theorem wA(h:¬ (s.size=10/\fI s 4=45/\fI s 7=45/\isNum (part s 0 4)=Xz/\isNum (part s 5 7)=Xz/\isNum (part s 8 10)=Xz/\Cal.ok (dG (part s 0 4)) (dG (part s 5 7)) (dG (part s 8 10))=Xz)):jY s=Xy:=decide_eq_false h
theorem Kp(c:s.size=5)(f:fI s 2=58):dZ s=(isNum (part s 0 2) && isNum (part s 3 5) && decide (dG (part s 0 2)<=23) && decide (dG (part s 3 5)<=59)):=by rw[Zw];simp[dZ,c,f,and_assoc]
theorem Jv(c:s.size=10)(h:fI s 4=45)(f:fI s 7=45):jY s=(isNum (part s 0 4) && isNum (part s 5 7) && isNum (part s 8 10) && Cal.ok (dG (part s 0 4)) (dG (part s 5 7)) (dG (part s 8 10))):=by rw[Zw];simp[jY,c,h,f,and_assoc]
theorem mR(s:Xn):0<=eA s/\eA s<=1439:=by
 unfold eA;split
 .rename_i h
  have h:=of_decide_eq_true h;have:=lS (part s 0 2);have:=lS (part s 3 5);omega
 .omega
theorem Jm(s:Xn):-738885<=gh s/\gh s<=2913173:=by
 unfold gh;split
 .rename_i h
  have h:=of_decide_eq_true h;have b:=Cal.Ds _ _ _ h.2.2.2.2.2.2;unfold Cal.first Cal.last at b;exact b
 .omega
end Go.Proofs.YtolaacmheeaadaaGreatDoor.Txt
namespace Go.Proofs.YtolaacmheeaadaaGreatDoor.Txt
open Go
def ln(s:Xn):Xq:=decide (s.size=16/\fI s 10=47/\jY (s.extract 0 10)=Xz/\dZ (s.extract 11 16)=Xz)
def mQ(s:Xn):N:=if ln s then gh (s.extract 0 10)*1440+eA (s.extract 11 16) else 0
def lJ(s:Xn):Xn:={ data:=(Zx s.data.toList [47]).fst.toArray }
def lO(s:Xn):Xn:={ data:=(Zx s.data.toList [47]).snd.fst.toArray }
def qS(s:Xn):Xq:=(Zx s.data.toList [47]).snd.snd
theorem rA(s:Xn)(a b:M):(s.extract a b).data.toList=(s.data.toList.take b).drop a:=by rw[ByteArray.data_extract,Array.toList_extract];simp[List.drop_take]
theorem nS{t:Xn}(h:s.data.toList=t.data.toList):s=t:=by
 cases s;cases t;simp only at h;congr;exact Array.toList_inj.1 h
theorem Ts(c:UInt8)(h:s9 c=Xz):c≠47:=by intro e;subst e;revert h;decide
theorem Em(h:iH l=Xz){c:UInt8}(f:c∈l):c≠47:=Ts c (by unfold iH at h;rw[Zy] at h;exact h c f)
theorem A5(h:isNum l=Xz):iH l=Xz:=((KW l).1 h).2
theorem b3N(t:Xn)(h:jY t=Xz):∀ j,j<10->t.data.toList[j]?≠U 47:=by
 have h:=of_decide_eq_true h;let⟨hs,b4,b7,n1,n2,n3,_⟩:=h;have r:=A5 n1;have q:=A5 n2;have p:=A5 n3;unfold part at r q p;rw[rA] at r q p;have K:t.data.toList.length=10:=Xj;intro j E u;have f:j<t.data.toList.length:=O;have e:t.data.toList[j]=47:=by rw[Zv f] at u;exact Zo u
 have C:j<4->False:=fun H=>Em r (c:=t.data.toList[j]) (by rw[Zz];exact⟨j,by rw[ZA,ZB];simp[H]⟩) e
 have B:5<=j->j<7->False:=fun S G=>Em q (c:=t.data.toList[j]) (by rw[Zz];exact⟨j-5,by rw[ZA,ZB];simp[show 5+(j-5)=j from by omega,G]⟩) e
 have A:8<=j->False:=fun R=>Em p (c:=t.data.toList[j]) (by rw[Zz];exact⟨j-8,by rw[ZA,ZB];simp[show 8+(j-8)=j from by omega,E]⟩) e
 have g:∀ k:M,j=k->fI t k=47:=fun k D=>by subst D;unfold fI;rw[Zu,Zv f,e];rfl
 by_cases c4:j=4
 .have:=g 4 c4;omega
 .by_cases I:j=7
  .have:=g 7 I;omega
  .by_cases c1:j<4
   .exact C c1
   .by_cases c2:j<7
    .exact B O c2
    .exact A O
theorem D9(l:J UInt8)(i:M):ZC l [47] i=Xz↔l[i]?=U 47:=by
 unfold ZC;rw[<- List.head?_drop]
 cases l.drop i with
 |nil=>simp[ZD]
 |cons b r=>simp[ZD];exact eq_comm
theorem Ju(t:s.size=16)(k:fI s 10=47)(r:jY (s.extract 0 10)=Xz):lJ s=s.extract 0 10/\lO s=s.extract 11 16/\qS s=Xz:=by
 have u:s.data.toList.length=16:=Xj;have f:s.data.toList[10]?=U 47:=by unfold fI at k;rw[Zu,Zv O] at k;rw[Zv O];have:(s.data.toList[10]'Xb).toNat=47:=Xi;rw[show s.data.toList[10]'Xb=47 from UInt8.toNat_inj.1 Xi]
 have q:=Lib.index_first (i:=10) O ((D9 _ _).2 f) (fun j h=>by
  cases p:ZC s.data.toList [47] j with
  |false=>rfl
  |true =>have:=b3N _ r j h;rw[rA,List.drop_zero,ZB,Xu h] at this;exact Xv ((D9 _ _).1 p) this)
 have c:Zx s.data.toList [47]=(s.data.toList.take 10,s.data.toList.drop 11,Xz):=by unfold Zx;rw[q];rfl
 refine⟨nS ?_,nS ?_,?_⟩;simp only[lJ,c,rA];simp;simp only[lO,c,rA];rw[YL O];simp[qS,c]
theorem Tr(s:Xn):(qS s && jY (lJ s) && dZ (lO s))=ln s/\(ln s=Xz->gh (lJ s)*1440+eA (lO s)=mQ s):=by
 have key:(qS s && jY (lJ s) && dZ (lO s))=ln s:=by
  rw[Zw];constructor
  .intro h;simp only[Zs] at h;let⟨⟨hf,hd⟩,hm⟩:=h;have s1:=(of_decide_eq_true hd).1;have u:=(of_decide_eq_true hm).1
   have c:0<=ZE s.data.toList [47]:=by
    by_cases c:0<=ZE s.data.toList [47]
    .exact c
    .simp[qS,Zx,c] at hf
   let⟨i,hi'⟩:=ZF c;have B:=Lib.index_room s.data.toList [47] c;have t:Zx s.data.toList [47]=(s.data.toList.take i,s.data.toList.drop (i+1),Xz):=by unfold Zx;rw[Xu c,hi'];simp
   have k:s.data.toList[i]?=U 47:=by
    rcases Lib.index_spec s.data.toList [47] with ⟨h,_⟩|⟨j,D,_,C,_⟩
    .omega
    .rw[hi'] at D;have:i=j:=O
     subst this;exact (D9 _ _).1 C
   rw[hi'] at B;simp only[List.length_singleton,iJ] at B;have G:min i s.size=10:=by rw[<- iJ] at s1;simp only[lJ,t] at s1;simpa using s1
   have E:s.size-(i+1)=5:=by rw[<- iJ] at u;simp only[lO,t] at u;simpa using u
   have A:i=10:=O;have f:s.size=16:=O;subst A;have r:lJ s=s.extract 0 10:=nS (by simp only[lJ,t,rA];simp);have q:lO s=s.extract 11 16:=nS (by simp only[lO,t,rA];rw[YL (by rw[iJ];omega)]);rw[r] at hd;rw[q] at hm;have p:fI s 10=47:=by unfold fI;rw[Zu,k];rfl
   exact decide_eq_true ⟨f,p,hd,hm⟩
  .intro h;let⟨f,p,hd,hm⟩:=of_decide_eq_true h;let⟨r,q,a3⟩:=Ju f p hd;rw[r,q,a3,hd,hm];rfl
 refine⟨key,fun h=>?_⟩;let⟨f,p,hd,_⟩:=of_decide_eq_true h;let⟨r,q,_⟩:=Ju f p hd;rw[r,q];simp[mQ,h]
end Go.Proofs.YtolaacmheeaadaaGreatDoor.Txt
namespace Go.Proofs.YtolaacmheeaadaaGreatDoor.Txt
open Go
def oG(b:Xq)(pos:M)(x:J (M × M) × Xp M):J (M × M) × Xp M :=if b then (match x.2 with|some a=>(x.1++[(a,pos)],Z)|none=>(x.1,Z)) else (x.1,U (x.2.getD pos))
def gA(s:Xn):M->J (M × M) × Xp M
 |0=>([],Z)
 |k+1=>oG (decide (fI s k=32)) k (gA s k)
def aC(s:Xn):J Xn:=(ZG s (gA s s.size)).map fun x=>s.extract x.1 x.2
theorem Ma(s:Xn)(i:M)(h:i<s.size):(s.get! i).toNat=(fI s i).toNat:=by
 unfold fI;rw[Zu,Zv (aU h)];simp only[ZH,Int.toNat_natCast];congr 1
 cases s with
 |mk a=>simp only[ByteArray.get!];rw[getElem!_pos a i h];simp
theorem b3J(s:Xn)(i:M)(h:i<s.size):
  ((s.get! i).toNat<128/\ZI s i=((s.get! i).toNat,1)) \/
  (128<=(ZI s i).1/\1<=(ZI s i).2/\∀ j,j<(ZI s i).2->128<=(s.get! (i+j)).toNat/\i+j<s.size):=by
 unfold ZI;simp only[ZJ];by_cases f:(s.get! i).toNat<128
 .left;exact⟨f,by grind⟩
 .right;rw[Xt O]
  have one:∀ j,j<1->128<=(s.get! (i+j)).toNat/\i+j<s.size:=fun j c=>by grind
  split
  .rename_i hc
   simp only[Zs,decide_eq_true_eq,beq_iff_eq] at hc;split
   .refine⟨by grind,by simp,fun j c=>?_⟩;simp only at c;rcases (show j=0\/j=1 by omega) with rfl|rfl
    .exact one 0 O
    .exact⟨O,O⟩
   .exact⟨by simp[ZK],by simp,one⟩
  .split
   .rename_i hc
    simp only[Zs,decide_eq_true_eq,beq_iff_eq] at hc;split
    .rename_i hv
     simp only[Zs,decide_eq_true_eq] at hv;refine⟨by grind,by simp,fun j c=>?_⟩;simp only at c;rcases (show j=0\/j=1\/j=2 by omega) with rfl|rfl|rfl
     .exact one 0 O
     .exact⟨O,O⟩
     .exact⟨O,O⟩
    .exact⟨by simp[ZK],by simp,one⟩
   .split
    .rename_i hc
     simp only[Zs,decide_eq_true_eq,beq_iff_eq] at hc;split
     .rename_i hv
      simp only[Zs,decide_eq_true_eq] at hv;refine⟨by grind,by simp,fun j c=>?_⟩;simp only at c;rcases (show j=0\/j=1\/j=2\/j=3 by omega) with rfl|rfl|rfl|rfl
      .exact one 0 O
      .exact⟨O,O⟩
      .exact⟨O,O⟩
      .exact⟨O,O⟩
     .exact⟨by simp[ZK],by simp,one⟩
    .exact⟨by simp[ZK],by simp,one⟩
theorem Uo(s:Xn)(pos:M):∀ n:M,(∀ j,j<n+1->fI s (pos+j)≠32)->gA s (pos+(n+1))=((gA s pos).1,U ((gA s pos).2.getD pos)):=by
 intro n;induction n with
 |zero =>intro h;have:=h 0 O;simp only[ZJ] at this;show oG _ pos (gA s pos)=_;rw[decide_eq_false this];rfl
 |succ n ih =>intro h;have i:=ih (fun j c=>h j O);have:=h (n+1) O;show oG (decide (fI s (pos+(n+1))=32)) (pos+(n+1)) (gA s (pos+(n+1)))=_;rw[decide_eq_false this,i];rfl
theorem U3(s:Xn):∀ (f pos:M),pos<=s.size->s.size-pos<=f->ZL (fun r=>r==32) s f pos (gA s pos).2 (gA s pos).1=gA s s.size:=by
 intro f;induction f with
 |zero =>intro pos E D;obtain rfl:pos=s.size:=O;rfl
 |succ f ih =>
  intro pos E D;by_cases c:pos<s.size
  .unfold ZL;rw[Xu c];rcases b3J s pos c with ⟨K,C⟩|⟨I,H,t⟩
   .rw[C];simp only;have G:=Ma s pos c;have u:0<=fI s pos:=by unfold fI;omega
    have i:=ih (pos+1) O O;have st:gA s (pos+1)=oG (decide (fI s pos=32)) pos (gA s pos):=rfl;by_cases k:fI s pos=32
    .have e:((s.get! pos).toNat==32)=Xz:=Xi
     rw[e,Xu rfl];rw[decide_eq_true k] at st
     cases h:(gA s pos).2 with
     |none=>simp only;rw[st] at i;simp only[oG,h,if_true] at i;exact i
     |some a=>simp only;rw[st] at i;simp only[oG,h,if_true] at i;exact i
    .have e:((s.get! pos).toNat==32)=Xy:=Xi
     rw[e,Xt Xd];rw[decide_eq_false k] at st
     cases h:(gA s pos).2 with
     |none=>simp only;rw[st] at i;simp only[oG,h,X5,if_false,ZM] at i;exact i
     |some a=>simp only;rw[st] at i;simp only[oG,h,X5,if_false,ZH] at i;exact i
   .have e:((ZI s pos).1==32)=Xy:=Xi
    rw[e,Xt Xd];obtain⟨n,A⟩:∃ n,(ZI s pos).2=n+1:=⟨(ZI s pos).2-1,O⟩;have p:=t ((ZI s pos).2-1) O;have st:=Uo s pos n (fun j B=>by
     have q:=t j O;have G:=Ma s (pos+j) q.2;have u:0<=fI s (pos+j):=by unfold fI;omega
     omega)
    have i:=ih (pos+(n+1)) O O;rw[st] at i;rw[A]
    cases h:(gA s pos).2 with
    |none=>simp only;simp only[h,ZM] at i;exact i
    |some a=>simp only;simp only[h,ZH] at i;exact i
  .obtain rfl:pos=s.size:=O
   unfold ZL;rw[Xt c]
theorem b3C(s:Xn):ZN (fun r=>r==32) s=aC s:=by unfold ZN Lib.spansOfP aC;have:=U3 s s.size 0 (zN _) O;rw[show (gA s 0).2=Z from rfl,show (gA s 0).1=[] from rfl] at this;rw[this]
end Go.Proofs.YtolaacmheeaadaaGreatDoor.Txt
namespace Go.Proofs.YtolaacmheeaadaaGreatDoor.Txt
open Go
def jt(s:Xn)(k:M):Xn:=match (gA s k).2 with|none=>⟨#[]⟩|some a=>s.extract a k
def oA(s:Xn)(k:M):J Xn:=(gA s k).1.map fun x=>s.extract x.1 x.2
theorem AB(s:Xn):∀ (k a:M),(gA s k).2=U a->a<k
 |0,a,h=>by simp[gA] at h
 |k+1,a,h=>by
  simp only[gA,oG] at h;split at h
  .split at h <;> simp at h
  .simp only[Option.some.injEq] at h
   cases c:(gA s k).2 with
   |none=>rw[c] at h;simp at h;omega
   |some b=>rw[c] at h;simp at h;have:=AB s k b c;omega
theorem rE(a b:Xn):(a++b).data.toList=a.data.toList++b.data.toList:=by rw[ByteArray.data_append,Array.toList_append]
theorem Ty(s:Xn)(a k:M)(h:a<=k):s.extract a k++s.extract k (k+1)=s.extract a (k+1):=Xj
theorem JY(s:Xn)(k:M):(jt s k).size<=k:=by
 unfold jt;split
 .exact zN _
 .have:∀ a b,(s.extract a b).size=min b s.size-a:=fun a b=>ZO ..
  rw[this];omega
theorem VV(b:Xn):(⟨#[]⟩:Xn)++b=b:=by apply nS;rw[rE];rfl
theorem JX(s:Xn)(k:M)(h:fI s k≠32):jt s k++s.extract k (k+1)=jt s (k+1)/\oA s (k+1)=oA s k:=by
 have e:gA s (k+1)=((gA s k).1,U ((gA s k).2.getD k)):=by simp only[gA,oG,decide_eq_false h];rfl
 refine⟨?_,by unfold oA;rw[e]⟩;unfold jt;rw[e]
 cases c:(gA s k).2 with
 |none=>simp only[ZM];exact VV _
 |some a=>simp only[ZH];exact Ty s a k (Nat.le_of_lt (AB s k a c))
theorem Lh(s:Xn)(k:M)(q:k<=s.size)(h:fI s k=32):jt s (k+1)=⟨#[]⟩/\oA s (k+1)=oA s k++(if (jt s k).size=0 then [] else [jt s k]):=by
 have e:gA s (k+1)=oG Xz k (gA s k):=by simp only[gA,decide_eq_true h]
 cases f:(gA s k).2 with
 |none =>
  have p:gA s (k+1)=((gA s k).1,Z):=by rw[e];simp[oG,f]
  have c:jt s k=⟨#[]⟩:=by unfold jt;rw[f]
  refine⟨by unfold jt;rw[p],?_⟩;rw[c];unfold oA;rw[p];simp;rfl
 |some a =>
  have p:gA s (k+1)=((gA s k).1++[(a,k)],Z):=by rw[e];simp[oG,f]
  have c:jt s k=s.extract a k:=by unfold jt;rw[f]
  have lt:=AB s k a f;have sz:(s.extract a k).size=min k s.size-a:=ZO ..;refine⟨by unfold jt;rw[p],?_⟩;rw[c,Xt O];unfold oA;rw[p];simp
theorem Eh(s:Xn):aC s=oA s s.size++(if (jt s s.size).size=0 then [] else [jt s s.size]):=by
 unfold aC oA jt ZG
 cases c:(gA s s.size).2 with
 |none=>simp;rfl
 |some a =>have lt:=AB s _ a c;have sz:(s.extract a s.size).size=min s.size s.size-a:=ZO ..;simp only;rw[Xt O];simp
theorem xX(s:Xn):∀ k:M,(oA s k).length<=k
 |0=>zq _
 |k+1=>by
  have ih:=xX s k;unfold oA at *;rw[Ze] at *;simp only[gA,oG];split
  .split <;> simp <;> omega
  .simp;omega
end Go.Proofs.YtolaacmheeaadaaGreatDoor.Txt
namespace Go.Proofs.YtolaacmheeaadaaGreatDoor.Txt
open Go
def fu(l:J UInt8):N :=if l==[109,111] then 0 else if l==[116,117] then 1 else if l==[119,101] then 2 else if l==[116,104] then 3 else if l==[102,114] then 4 else if l==[115,97] then 5 else if l==[115,117] then 6 else -1
theorem As(l:J UInt8):-1<=fu l/\fu l<=6:=by unfold fu;(repeat' split) <;> omega
theorem Ub(h:0<=fu l):l.length=2/\44 ∉ l:=by grind[fu]
theorem yv(h:¬ (l.length=2/\44 ∉ l)):fu l=-1:=by have b:=As l;by_cases g:0<=fu l;exact Xv (Ub g) h;omega
def mu(acc:J N)(d:N):Xp (J N):=if 0<=d/\acc.contains d=Xy then U (d :: acc) else Z
def pZ:J (J UInt8)->J N->Xp (J N)
 |[],acc=>U acc
 |p :: ps,acc=>(mu acc (fu p)).bind (pZ ps)
def lC:J UInt8->J N->Xp (J N)
 |[a,b],acc=>mu acc (fu [a,b])
 |a :: b :: c :: r,acc=>if c=44 then (mu acc (fu [a,b])).bind (lC r) else Z
 |_,_=>Z
def sp:J UInt8->J (J UInt8)
 |[]=>[[]]
 |c :: l=>if c=44 then [] :: sp l else (match sp l with| []=>[[c]]|p :: ps=>(c :: p) :: ps)
theorem yE(acc:J N):mu acc (-1)=Z:=by simp[mu]
theorem Tl(l:J UInt8):sp l≠[]:=by
 cases l with
 |nil=>simp[sp]
 |cons c l=>unfold sp;split;simp;split <;> simp
theorem tZ{p:J UInt8}(c:J (J UInt8))(acc:J N)(h:¬ (p.length=2/\44 ∉ p)):pZ (p :: c) acc=Z:=by simp[pZ,yv h,yE]
theorem Hc:∀ (l:J UInt8)(acc r:J N),lC l acc=U r->l.length % 3=2:=by grind[lC,Option.bind_eq_some_iff,Hc,Yz]
theorem wh(c:UInt8)(l:J UInt8)(h:c≠44):∃ p ps,sp l=p :: ps/\sp (c :: l)=(c :: p) :: ps:=by
 cases f:sp l with
 |nil=>exact Xv f (Tl l)
 |cons p ps=>exact⟨p,ps,rfl,by simp[sp,h,f]⟩
theorem ve(l:J UInt8):sp (44 :: l)=[] :: sp l:=by simp[sp]
theorem JJ:∀ (l:J UInt8)(acc:J N),pZ (sp l) acc=lC l acc
 |[],acc=>by rw[show sp []=[[]] from rfl,tZ _ _ Xc];rfl
 |[a],acc=>by by_cases f:a=44;subst f;rw[ve,tZ _ _ Xc];rfl;let⟨p,ps,h1,h2⟩:=wh a [] f;simp only[sp,ZP] at h1;obtain⟨rfl,rfl⟩:=h1;rw[h2,tZ _ _ Xc];rfl
 |[a,b],acc=>by
  by_cases f:a=44
  .subst f;rw[ve,tZ _ _ Xc,lC,yv Xc,yE]
  .let⟨p,ps,h1,h2⟩:=wh a [b] f;rw[h2]
   by_cases h:b=44
   .subst h;rw[ve] at h1;simp only[ZP] at h1;obtain⟨rfl,rfl⟩:=h1;rw[tZ _ _ Xc,lC,yv Xc,yE]
   .let⟨p',ps',h1',h2'⟩:=wh b [] h;simp only[sp,ZP] at h1';obtain⟨rfl,rfl⟩:=h1';rw[h2'] at h1;simp only[ZP] at h1;obtain⟨rfl,rfl⟩:=h1;simp only[pZ,lC]
    cases mu acc (fu [a,b]) <;> rfl
 |a :: b :: c :: l,acc=>by
  have ih:=JJ l;by_cases f:a=44
  .subst f;rw[ve,tZ _ _ Xc,lC,yv Xc,yE]
   split <;> rfl
  .let⟨p,ps,h1,h2⟩:=wh a (b :: c :: l) f;rw[h2]
   by_cases h:b=44
   .subst h;rw[ve] at h1;simp only[ZP] at h1;obtain⟨rfl,rfl⟩:=h1;rw[tZ _ _ Xc,lC,yv Xc,yE]
    split <;> rfl
   .let⟨p',ps',h1',h2'⟩:=wh b (c :: l) h;rw[h2'] at h1;simp only[ZP] at h1;obtain⟨rfl,rfl⟩:=h1
    by_cases k:c=44
    .subst k;rw[ve] at h1';simp only[ZP] at h1';obtain⟨rfl,rfl⟩:=h1';simp only[pZ,lC,if_true]
     cases mu acc (fu [a,b]) with
     |none=>rfl
     |some x=>exact ih x
    .let⟨p'',ps'',_,h2''⟩:=wh c l k;rw[h2''] at h1';simp only[ZP] at h1';obtain⟨rfl,rfl⟩:=h1';rw[tZ _ _ Xc,lC,Xt k]
theorem WC(c:UInt8)(l:J UInt8)(h:c≠44):ZE (c :: l) [44]=if ZE l [44]==-1 then -1 else ZE l [44]+1:=by rw[ZE];have:([44]:J UInt8).isPrefixOf (c :: l)=Xy:=Xi;rw[this];rfl
theorem b5c(l:J UInt8):ZE (44 :: l) [44]=0:=by rw[ZE];simp[ZD]
theorem b4B(c:UInt8)(l:J UInt8)(h:c≠44)(k:M):∃ p ps,ZQ [44] 0 k l=p :: ps/\ZQ [44] 0 k (c :: l)=(c :: p) :: ps:=by
 cases k with
 |zero=>exact⟨l,[],rfl,rfl⟩
 |succ k =>
  unfold ZQ;rw[WC c l h];by_cases f:(ZE l [44]==-1)=Xz
  .rw[Xu f,Xu f];exact⟨l,[],rfl,rfl⟩
  .rw[Xt f,Xt f];have g:=Lib.index_ge l [44];have q:ZE l [44]≠-1:=fun e=>f (beq_iff_eq.2 e)
   rw[Xt Xi];refine⟨_,_,rfl,?_⟩;let⟨i,hi'⟩:=ZF (show 0<=ZE l [44] by omega);rw[hi',show ((i:N)+1).toNat=i+1 from by omega,show ((i:N)).toNat=i from by omega];simp
theorem KB:∀ l:J UInt8,ZQ [44] 0 (l.count 44) l=sp l:=by simp_all[KB,List.count_cons_self,ve,b5c,List.count_cons_of_ne,b4B,sp]
def je(s:Xn):Xp (J N):=lC s.data.toList []
def fF(s:Xn):Xq:=(je s).isSome
theorem Wv(s:Xn):pZ ((Lib.splitB ⟨#[44]⟩ 0 (Lib.countB s ⟨#[44]⟩) s).map (·.data.toList)) []=je s:=by rw[Lib.splitB_data];have c:Lib.countB s ⟨#[44]⟩=s.data.toList.count 44:=Lib.count_one 44 s.data.toList;rw[c,show (ByteArray.mk #[44]).data.toList=[44] from rfl,KB,JJ];rfl
end Go.Proofs.YtolaacmheeaadaaGreatDoor.Txt
namespace Go.Proofs.YtolaacmheeaadaaGreatDoor
def aI(acc:J N)(j:N):Xq:=acc.contains j
end Go.Proofs.YtolaacmheeaadaaGreatDoor
namespace Go.Proofs.YtolaacmheeaadaaGreatDoor
theorem F7{α:Type}{lt:α->α->Prop}(f:∀ x,¬ lt x x)(ht:∀ x y z,lt x y->lt y z->lt x z):∀ {l m:J α},l.Pairwise lt->m.Pairwise lt->(∀ x,x∈l↔x∈m)->l=m
 |[],[],_,_,_=>rfl
 |[],y :: m,_,_,h=>by have:=(h y).2 Xc;simp at this
 |x :: l,[],_,_,h=>by have:=(h x).1 Xc;simp at this
 |x :: l,y :: m,hl,hm,h=>by
  rw[Yl] at hl hm;have e:x=y:=by
   rcases X8.1 ((h x).1 Xc) with e|e
   .exact e
   .rcases X8.1 ((h y).2 Xc) with k|k
    .exact k.symm
    .exact Xv (ht _ _ _ (hl.1 y k) (hm.1 x e)) (f x)
  subst e;congr 1;refine F7 f ht hl.2 hm.2 (fun z=>?_);constructor
  .intro c;rcases X8.1 ((h z).1 (by simp[c])) with e|e
   .subst e;exact Xv (hl.1 z c) (f z)
   .exact e
  .intro c;rcases X8.1 ((h z).2 (by simp[c])) with e|e
   .subst e;exact Xv (hm.1 z c) (f z)
   .exact e
namespace Rd
def jw(p:N->Xq):M->N->J N
 |0,_=>[]
 |k+1,d=>if p d then d :: jw p k (d+1) else jw p k (d+1)
theorem Be(p:N->Xq):∀ (k:M)(d x:N),x∈jw p k d↔d<=x/\x<d+k/\p x=Xz:=by simp_all[jw,Be,X8,ZR]
theorem yZ(p:N->Xq):∀ (k:M)(d:N),(jw p k d).Pairwise (· < ·):=by grind[jw,Yl,Be,yZ]
theorem W4{l m:J N}(f:l.Pairwise (· < ·))(c:m.Pairwise (· < ·))(h:∀ x,x∈l↔x∈m):l=m :=F7 (lt:=fun a b:N=>a<b) (fun x=>by omega) (fun x y z h k=>by omega) f c h
def kI(ev:N):M->N->J N
 |0,_=>[]
 |k+1,d=>if d<728 then d :: kI ev k (d+ev) else []
theorem Kb{ev:N}(q:1<=ev):∀ (k:M)(d x:N),728<=d+k->(x∈kI ev k d↔d<=x/\x<728/\(x-d) % ev=0)
 |0,d,x,h=>by simp[kI];omega
 |k+1,d,x,h=>by
  simp only[kI];by_cases c:d<728
  .rw[Xu c,X8,Kb q k (d+ev) x O];have t:(x-(d+ev)) % ev=(x-d) % ev:=by rw[show x-(d+ev)=x-d-ev from by omega,ZS]
   rw[t];constructor
   .rintro (rfl|⟨r,p,f⟩)
    .exact⟨ZR _,c,by simp⟩
    .exact⟨O,p,f⟩
   .rintro ⟨r,p,f⟩
    by_cases e:d+ev<=x
    .exact .inr ⟨e,p,f⟩
    .rw[ZT O O] at f;exact .inl O
  .rw[Xt c];simp;omega
theorem Ee{ev:N}(f:1<=ev):∀ (k:M)(d:N),(kI ev k d).Pairwise (· < ·)/\∀ x∈kI ev k d,d<=x
 |0,d=>by simp[kI]
 |k+1,d=>by
  simp only[kI];let⟨i1,i2⟩:=Ee f k (d+ev);split
  .refine⟨Yl.2 ⟨fun x c=>by grind,i1⟩,fun x c=>?_⟩;rcases X8.1 c with rfl|c
   .exact ZR _
   .have:=i2 x c;omega
  .simp
def qU(acc:J N)(fr c:N):J N:=jw (fun d=>aI acc (d-c)) (c+7-max c fr).toNat (max c fr)
def kr(acc:J N)(fr ev:N):M->N->J N
 |0,_=>[]
 |k+1,mon=>if mon<728 then qU acc fr mon++kr acc fr ev k (mon+ev*7) else []
theorem Ep{c:N}:x∈qU acc fr c↔c<=x/\fr<=x/\x<c+7/\aI acc (x-c)=Xz:=by unfold qU;rw[Be];constructor;rintro ⟨p,k,f⟩;exact⟨O,O,O,f⟩;rintro ⟨p,k,f,h⟩;exact⟨O,O,h⟩
theorem Kd{acc:J N}{fr ev:N}(C:1<=ev):∀ (k:M)(f x:N),0<=f->f % 7=0->728<=f+k->(x∈kr acc fr ev k f↔f<=x/\fr<=x/\x<728/\aI acc (x % 7)=Xz/\(x / 7-f / 7) % ev=0)
 |0,f,x,h0,h7,h=>by simp[kr];omega
 |k+1,f,x,h0,h7,h=>by
  simp only[kr];by_cases c:f<728
  .have B:(ev*7) % 7=0:=O
   rw[Xu c,X9,Ep,Kd C k (f+ev*7) x O O O];have G:(f+ev*7) / 7=f / 7+ev:=O;have E:(x / 7-(f+ev*7) / 7) % ev=(x / 7-f / 7) % ev:=by rw[G,show x / 7-(f / 7+ev)=x / 7-f / 7-ev from by omega,ZS]
   rw[E];constructor
   .rintro (⟨u,q,t,p⟩|⟨u,q,t,p,r⟩)
    .have A:x-f=x % 7:=O
     have D:x / 7-f / 7=0:=O;rw[A] at p;rw[D];exact⟨u,q,O,p,by simp⟩
    .exact⟨O,q,t,p,r⟩
   .rintro ⟨u,q,t,p,r⟩
    by_cases e:x<f+7
    .have A:x-f=x % 7:=O
     exact .inl ⟨u,q,e,by rw[A];exact p⟩
    .by_cases H:f+ev*7<=x
     .exact .inr ⟨H,q,t,p,r⟩
     .rw[ZT O O] at r;omega
  .rw[Xt c];simp;omega
theorem Eg{acc:J N}{fr ev:N}(p:1<=ev):∀ (k:M)(c:N),(kr acc fr ev k c).Pairwise (· < ·)/\∀ x∈kr acc fr ev k c,c<=x
 |0,c=>by simp[kr]
 |k+1,c=>by
  simp only[kr];let⟨i1,i2⟩:=Eg (acc:=acc) (fr:=fr) p k (c+ev*7);split
  .refine⟨ZU.2 ⟨yZ _ _ _,i1,fun x f y h=>?_⟩,fun x f=>?_⟩
   .have:=Ep.1 f;have:=i2 y h;omega
   .rcases X9.1 f with f|f
    .exact (Ep.1 f).1
    .have:=i2 x f;omega
  .simp
def reached(y m:N):Xq:=Cal.ok y m 1 && decide (Cal.num y m 1<728)
def pQ(y m ev:N):N:=y+(m-1+ev) / 12
def oF(m ev:N):N:=(m-1+ev) % 12+1
def sE(y m dt:N):J N:=if Cal.ok y m dt then [Cal.num y m dt] else []
def kJ(dt ev:N):M->N->N->J N
 |0,_,_=>[]
 |k+1,y,m=>if reached y m then sE y m dt++kJ dt ev k (pQ y m ev) (oF m ev) else []
theorem tN{d c f d':N}(h:Cal.ok y m d=Xz)(p:Cal.ok c f d'=Xz)(k:12*y+m<12*c+f):Cal.num y m d<Cal.num c f d':=by have i:=Cal.ym y m d h;have q:=Cal.ym c f d' p;let⟨h1,h2,h3,h4,h5,h6⟩:=(Cal.jv y m d).1 h;let⟨g1,g2,g3,g4,g5,g6⟩:=(Cal.jv c f d').1 p;by_cases e:y=c;subst e;have:=Cal.El y m f h3 O O;unfold Cal.num;omega;have:=Cal.uN (y+1) c O O;omega
theorem yJ(k:1<=y)(h:y<=9999)(f:1<=m)(c:m<=12):Cal.ok y m 1=Xz:=by have:=Cal.pK y m;exact (Cal.jv _ _ _).2 ⟨k,h,f,c,O,O⟩
theorem MG(q:2024<=y)(p:y<=9999)(k:1<=m)(f:m<=12):reached y m=Xz↔12*y+m<=24312:=by
 have o:=yJ (m:=m) (by omega:1<=y) p k f;unfold reached;rw[o,Bool.true_and,decide_eq_true_eq];have t:Cal.num 2025 12 1=700:=Xd;have r:Cal.num 2026 1 1=731:=Xd;constructor
 .intro h;apply ZV;intro c
  by_cases e:12*y+m=24313
  .have:y=2026:=O
   have:m=1:=O;subst_vars;omega
  .have:=tN (yJ (y:=2026) (m:=1) O O O O) o O;omega
 .intro h
  by_cases e:12*y+m=24312
  .have:y=2025:=O
   have:m=12:=O;subst_vars;omega
  .have:=tN o (yJ (y:=2025) (m:=12) O O O O) O;omega
theorem Ew{ev:N}:12*pQ y m ev+oF m ev=12*y+m+ev/\1<=oF m ev/\oF m ev<=12:=by unfold pQ oF;omega
theorem sy(p:0<=x)(k:x<728):Cal.ok (Cal.yT x) (Cal.mT x) (Cal.dT x)=Xz/\Cal.num (Cal.yT x) (Cal.mT x) (Cal.dT x)=x/\2024<=Cal.yT x/\12*Cal.yT x+Cal.mT x<=24312:=by
 let⟨o,n⟩:=Cal.vL x O O;refine⟨o,n,?_,?_⟩
 .apply ZV;intro c;let⟨g1,g2,g3,g4,g5,g6⟩:=(Cal.jv _ _ _).1 o;have:=tN o (yJ (y:=2024) (m:=1) O O O O) O;have e:Cal.num 2024 1 1=0:=Xd
  omega
 .apply ZV;intro c;let⟨g1,g2,g3,g4,g5,g6⟩:=(Cal.jv _ _ _).1 o;have r:Cal.num 2026 1 1=731:=Xd
  have f:=yJ (y:=2026) (m:=1) O O O O;by_cases e:12*Cal.yT x+Cal.mT x=24313
  .have:Cal.yT x=2026:=O
   have h:Cal.mT x=1:=O;rw[this,h] at n;have q:Cal.num 2026 1 (Cal.dT x)=731+Cal.dT x-1:=by
    have:Cal.num 2026 1 (Cal.dT x)=Cal.num 2026 1 1+Cal.dT x-1:=by unfold Cal.num;omega
    omega
   omega
  .have:=tN f o O;omega
theorem Kc{dt ev:N}(B:1<=ev)(t:ev<=99):∀ (k:M)(y m x:N),2024<=y->y<=2034->1<=m->m<=12->24312<12*y+m+k->0<=x->x<728 ->(x∈kJ dt ev k y m↔Cal.dT x=dt/\12*y+m<=12*Cal.yT x+Cal.mT x/\(12*Cal.yT x+Cal.mT x-12*y-m) % ev=0)
 |0,y,m,x,hy,hy2,hm,hm2,hk,h0,h1=>by have:=(sy h0 h1).2.2.2;simp[kJ];omega
 |k+1,y,m,x,hy,hy2,hm,hm2,hk,h0,h1=>by
  let⟨o,n,y0,mx⟩:=sy h0 h1;let⟨g1,g2,g3,g4,g5,g6⟩:=(Cal.jv _ _ _).1 o;simp only[kJ];have u:=MG (y:=y) (m:=m) hy O hm hm2;by_cases c:12*y+m<=24312
  .rw[Xu (u.2 c),X9];let⟨l1,l2,l3⟩:=Ew (y:=y) (m:=m) (ev:=ev);rw[Kc B t k (pQ y m ev) (oF m ev) x O O l2 l3 O h0 h1]
   have E:(12*Cal.yT x+Cal.mT x-12*pQ y m ev-oF m ev) % ev=(12*Cal.yT x+Cal.mT x-12*y-m) % ev:=by rw[show 12*Cal.yT x+Cal.mT x-12*pQ y m ev-oF m ev=12*Cal.yT x+Cal.mT x-12*y-m-ev from by omega,ZS]
   rw[E,l1];have r:x∈sE y m dt↔Cal.dT x=dt/\12*y+m=12*Cal.yT x+Cal.mT x:=by
    unfold sE;constructor
    .intro h
     by_cases ok:Cal.ok y m dt=Xz
     .rw[Xu ok] at h;have:x=Cal.num y m dt:=aU h
      let⟨f,q,p⟩:=Cal.xT y m dt x ok this.symm;exact⟨p.symm,O⟩
     .rw[Xt ok] at h;simp at h
    .rintro ⟨f,q⟩;have D:y=Cal.yT x:=O
     have C:m=Cal.mT x:=O;subst f;rw[D,C,Xu o,n];simp
   rw[r];constructor
   .rintro (⟨f,q⟩|⟨f,q,p⟩)
    .refine⟨f,O,?_⟩;rw[show 12*Cal.yT x+Cal.mT x-12*y-m=0 from by omega];simp
    .exact⟨f,O,p⟩
   .rintro ⟨f,q,p⟩
    by_cases e:12*y+m+ev<=12*Cal.yT x+Cal.mT x
    .exact .inr ⟨f,e,p⟩
    .rw[ZT O O] at p;exact .inl ⟨f,O⟩
  .have A:¬ reached y m=Xz:=fun h=>c (u.1 h)
   rw[Xt A];simp;omega
theorem Ef{dt ev:N}(q:1<=ev):∀ (k:M)(y m:N),1<=m->m<=12->(kJ dt ev k y m).Pairwise (· < ·)/\∀ x∈kJ dt ev k y m,∃ f h,Cal.ok f h dt=Xz/\x=Cal.num f h dt/\12*y+m<=12*f+h
 |0,y,m,_,_=>by simp[kJ]
 |k+1,y,m,h1,h2=>by
  simp only[kJ];let⟨l1,l2,l3⟩:=Ew (y:=y) (m:=m) (ev:=ev);let⟨i1,i2⟩:=Ef (dt:=dt) q k (pQ y m ev) (oF m ev) l2 l3;split
  .unfold sE
   by_cases ok:Cal.ok y m dt=Xz
   .rw[Xu ok];refine⟨ZU.2 ⟨by simp,i1,fun x c z p=>?_⟩,fun x c=>?_⟩
    .have:x=Cal.num y m dt:=aU c
     obtain⟨f,h,o,rfl,k⟩:=i2 z p;rw[this];exact tN ok o O
    .rcases X9.1 c with c|c
     .have:x=Cal.num y m dt:=aU c
      exact⟨y,m,ok,this,ZR _⟩
     .let⟨f,h,o,e,k⟩:=i2 x c;exact⟨f,h,o,e,O⟩
   .rw[Xt ok];refine⟨by simpa using i1,fun x c=>?_⟩;let⟨f,h,o,e,k⟩:=i2 x (aU c);exact⟨f,h,o,e,O⟩
  .simp
structure cO where
 pc:N
 ev:N
 acc:J N
 fr:N
 mn:N
 mi:N
 ti:N
 un:N
structure hH(r:cO):Prop where
 Gn:1<=r.pc
 Gm:r.pc<=3
 e1:1<=r.ev
 e2:r.ev<=99
 f0:0<=r.fr
 f1:r.fr<728
 m0:0<=r.mn
 m1:r.mn<1440
 i1:1<=r.mi
 i2:r.mi<=1048320
 t0:0<=r.ti
 t1:r.ti<=99
 u0:0<=r.un
 u1:r.un<728
def has(r:cO)(d:N):Xq :=
 if r.pc=1 then decide ((d-r.fr) % r.ev=0)
 else if r.pc=2 then aI r.acc (d % 7) && decide ((d / 7-r.fr / 7) % r.ev=0)
 else decide (Cal.dT d=Cal.dT r.fr) && decide ((12*Cal.yT d+Cal.mT d-12*Cal.yT r.fr-Cal.mT r.fr) % r.ev=0)
def all(r:cO):J N:=jw (has r) (728-r.fr).toNat r.fr
theorem DV{r:cO}(h:hH r)(x:N):x∈all r↔r.fr<=x/\x<728/\has r x=Xz:=by have:=h.f1;unfold all;rw[Be];constructor;rintro ⟨f,k,c⟩;exact⟨f,O,c⟩;rintro ⟨f,k,c⟩;exact⟨f,O,c⟩
def seq(r:cO):J N :=
 if r.pc=2 then kr r.acc r.fr r.ev 800 (r.fr-r.fr % 7)
 else if r.pc=3 then kJ (Cal.dT r.fr) r.ev 100 (Cal.yT r.fr) (Cal.mT r.fr)
 else kI r.ev 800 r.fr
theorem Jp{r:cO}(h:hH r):(seq r).Pairwise (· < ·):=by
 unfold seq;split
 .exact (Eg h.e1 _ _).1
 .split
  .have o:=(sy h.f0 h.f1).1;let⟨g1,g2,g3,g4,g5,g6⟩:=(Cal.jv _ _ _).1 o;exact (Ef h.e1 _ _ _ g3 g4).1
  .exact (Ee h.e1 _ _).1
theorem JP{r:cO}(h:hH r)(A:0<=x)(q:x<728):x∈seq r↔r.fr<=x/\has r x=Xz:=by
 have H:=h.f0;have G:=h.f1;have E:=h.Gn;have D:=h.Gm;unfold seq has;by_cases c2:r.pc=2
 .rw[Xu c2,Xt O,Xu c2,Kd h.e1 800 _ x O O O];have e:(r.fr-r.fr % 7) / 7=r.fr / 7:=O
  rw[e,Zs,decide_eq_true_eq];constructor
  .rintro ⟨k,p,f,u,t⟩;exact⟨p,u,t⟩
  .rintro ⟨p,u,t⟩;exact⟨O,p,q,u,t⟩
 .rw[Xt c2]
  by_cases c3:r.pc=3
  .rw[Xu c3,Xt O,Xt c2];let⟨o,n,y0,mx⟩:=sy h.f0 h.f1;let⟨g1,g2,g3,g4,g5,g6⟩:=(Cal.jv _ _ _).1 o;rw[Kc h.e1 h.e2 100 _ _ x y0 O g3 g4 O A q,Zs,decide_eq_true_eq,decide_eq_true_eq];let⟨ox,nx,yx,mxx⟩:=sy A q;constructor
   .rintro ⟨k,p,f⟩;refine⟨?_,k,f⟩
    by_cases e:12*Cal.yT r.fr+Cal.mT r.fr=12*Cal.yT x+Cal.mT x
    .let⟨j1,j2,j3,j4,j5,j6⟩:=(Cal.jv _ _ _).1 ox;have C:Cal.yT r.fr=Cal.yT x:=O
     have B:Cal.mT r.fr=Cal.mT x:=O;rw[C,B,<- k] at n;omega
    .have:=tN o ox O;omega
   .rintro ⟨k,p,f⟩;refine⟨p,?_,f⟩;apply ZV;intro c;have:=tN ox o O;omega
  .rw[Xt c3,Xu O,Kb h.e1 800 _ x O,decide_eq_true_eq];constructor
   .rintro ⟨k,p,f⟩;exact⟨k,f⟩
   .rintro ⟨k,f⟩;exact⟨k,q,f⟩
theorem b1t{l:J N}(h:l.Pairwise (· < ·))(b x:N):x∈l.takeWhile (fun d=>decide (d<=b))↔x∈l/\x<=b:=by
 induction l with
 |nil=>simp
 |cons d l ih =>
  rw[Yl] at h;rw[List.takeWhile_cons];by_cases c:d<=b
  .simp only[c,decide_true,if_true,X8,ih h.2];constructor
   .rintro (rfl|⟨k,f⟩)
    .exact⟨.inl rfl,c⟩
    .exact⟨.inr k,f⟩
   .rintro ⟨rfl|k,f⟩
    .exact .inl rfl
    .exact .inr ⟨k,f⟩
  .simp only[c,decide_false,X5,if_false,List.not_mem_nil,false_iff,X8];rintro ⟨rfl|k,f⟩
   .exact c f
   .have:=h.1 x k;omega
theorem Jo{r:cO}(h:hH r)(D:b<728):(seq r).takeWhile (fun d=>decide (d<=b))=(all r).filter (fun d=>decide (d<=b)):=by
 refine W4 ?_ ?_ (fun x=>?_)
 .exact ZW (List.takeWhile_sublist _) (Jp h)
 .exact Yo _ (yZ _ _ _)
 .rw[b1t (Jp h),ZX,DV h,decide_eq_true_eq];have E:=h.f0
  have low:x∈seq r->0<=x:=by
   intro c;unfold seq at c;split at c
   .have:=(Eg h.e1 _ _).2 x c;omega
   .split at c
    .have o:=(sy h.f0 h.f1);let⟨g1,g2,g3,g4,g5,g6⟩:=(Cal.jv _ _ _).1 o.1;obtain⟨y',m',u,rfl,k⟩:=(Ef h.e1 _ _ _ g3 g4).2 x c
     by_cases e:12*Cal.yT r.fr+Cal.mT r.fr=12*y'+m'
     .let⟨j1,j2,j3,j4,j5,j6⟩:=(Cal.jv _ _ _).1 u;have C:Cal.yT r.fr=y':=O
      have B:Cal.mT r.fr=m':=O;rw[<- C,<- B,o.2.1];omega
     .have:=tN o.1 u O;have:=o.2.1;omega
    .have:=(Ee h.e1 _ _).2 x c;omega
  constructor
  .rintro ⟨f,t⟩;have A:=low f;let⟨q,p⟩:=(JP h A O).1 f;exact⟨⟨q,O,p⟩,t⟩
  .rintro ⟨⟨f,t,q⟩,p⟩;exact⟨(JP h O t).2 ⟨f,q⟩,p⟩
theorem Um{r:cO}(h:hH r):(seq r).takeWhile (fun d=>decide (d<=727))=all r:=by rw[Jo h O];exact ZY.2 (fun x c=>by have:=(DV h x).1 c;simp;omega)
def ie(r:cO):J N:=if 0<r.ti then ((seq r).takeWhile (fun d=>decide (d<=727))).take r.ti.toNat else ((seq r).takeWhile (fun d=>decide (d<=r.un))).take 41
def ya(r:cO)(l:J N)(d:N):J N:=if has r d/\((r.ti=0/\d<=r.un)\/(0<r.ti/\(l.length:N)<r.ti)) then l++[d] else l
def tT(r:cO):M->N->J N->J N
 |0,_,l=>l
 |k+1,d,l=>tT r k (d+1) (ya r l d)
theorem ML{r:cO}(h:r.ti=0):∀ (k:M)(d:N)(l:J N),tT r k d l=l++(jw (has r) k d).filter (fun d=>decide (d<=r.un)):=by grind[tT,jw,ML,ya,has,Yn]
theorem M5{r:cO}(h:0<r.ti):∀ (k:M)(d:N)(l:J N),(l.length:N)<=r.ti->tT r k d l=l++(jw (has r) k d).take (r.ti.toNat-l.length):=by grind[tT,jw,ya,has,M5,List.take_succ_cons]
def cM(r:cO):J N:=tT r (728-r.fr).toNat r.fr []
theorem FK{r:cO}(h:hH r):cM r=if 0<r.ti then (all r).take r.ti.toNat else (all r).filter (fun d=>decide (d<=r.un)):=by have c:=h.t0;unfold cM;split;rw[M5 Xe _ _ _ Xh];simp[all];rw[ML O];simp[all]
theorem Li{r:cO}(h:hH r):ie r=if 0<r.ti then cM r else (cM r).take 41:=by rw[FK h];unfold ie;split;rw[Um h];rw[Jo h h.u1]
def oD(r:cO)(d:N):Xq:=decide (1048320<d*1440+r.mn+r.mi)
def iS(r:cO):N :=if 40<(cM r).length\/40<r.ti then 11 else if cM r=[]\/((cM r).length:N)<r.ti then 6 else if (cM r).any (oD r) then 6 else 0
def gR(r:cO):N :=if 40<r.ti then 11 else if 40<(ie r).length then 11 else if ie r=[]\/((ie r).length:N)<r.ti then 6 else if oD r ((ie r).getLastD 0) then 6 else 0
theorem L4{r:cO}(h:hH r):(cM r).Pairwise (· < ·):=by rw[FK h];split;exact ZW (List.take_sublist _ _) (yZ _ _ _);exact Yo _ (yZ _ _ _)
theorem uW{r:cO}(h:hH r)(c:x∈cM r):r.fr<=x/\x<728:=by rw[FK h] at c;have:x∈all r:=Xi;have:=(DV h x).1 this;exact⟨this.1,this.2.1⟩
theorem yQ{r:cO}:∀ {l:J N},l.Pairwise (· < ·)->l≠[]->l.any (oD r)=oD r (l.getLastD 0)
 |[],_,h=>Xv rfl h
 |[d],_,_=>by simp
 |d :: e :: l,h,_=>by
  rw[Yl] at h;have ih:=yQ (r:=r) (l:=e :: l) h.2 Xc;rw[List.any_cons,ih];have k:(d :: e :: l).getLastD 0=(e :: l).getLastD 0:=by simp[ZZ]
  rw[k]
  cases f:oD r d
  .simp
  .have c:(e :: l).getLastD 0∈e :: l:=by
    have:(e :: l).getLastD 0=(e :: l).getLast Xc:=by simp[ZZ]
    rw[this];exact List.getLast_mem _
   have:=h.1 _ c;simp only[oD,decide_eq_true_eq] at f;simp only[oD,Bool.true_or];exact (decide_eq_true O).symm
theorem sD{r:cO}(h:hH r):gR r=iS r/\(iS r=0->ie r=cM r/\cM r≠[]/\(cM r).length<=40/\∀ d∈cM r,d*1440+r.mn+r.mi<=1048320):=by
 have p:=Li h;have k:=L4 h;have D:=h.t0;have fin:∀ {l:J N},l≠[]->¬ l.any (oD r)=Xz->∀ d∈l,d*1440+r.mn+r.mi<=1048320:=by intro l _ A d B;apply ZV;intro c;exact A (Z4.2 ⟨d,B,by simp only[oD,decide_eq_true_eq];omega⟩)
 unfold gR iS;by_cases c:0<r.ti
 .rw[Xu c] at p;rw[p]
  by_cases c1:40<r.ti
  .rw[Xu c1,Xu (.inr c1)];exact⟨rfl,fun e=>by omega⟩
  .rw[Xt c1]
   by_cases c2:40<(cM r).length
   .rw[Xu c2,Xu (.inl c2)];exact⟨rfl,fun e=>by omega⟩
   .have u:¬ (40<(cM r).length\/40<r.ti):=O
    rw[Xt c2,Xt u];by_cases c3:cM r=[]\/((cM r).length:N)<r.ti
    .rw[Xu c3,Xu c3];exact⟨rfl,fun e=>by omega⟩
    .have f:cM r≠[]:=fun e=>c3 (.inl e)
     rw[Xt c3,Xt c3,yQ k f];refine⟨rfl,fun e=>⟨rfl,f,O,fin f ?_⟩⟩;rw[yQ k f];intro q;rw[Xu q] at e;omega
 .rw[Xt c] at p;have C:¬ 40<r.ti:=O
  rw[p,Xt C];by_cases c2:40<(cM r).length
  .have:40<((cM r).take 41).length:=Xi
   rw[Xu this,Xu (.inl c2)];exact⟨rfl,fun e=>by omega⟩
  .have t:(cM r).take 41=cM r:=YL O;have u:¬ (40<(cM r).length\/40<r.ti):=O
   rw[t,Xt c2,Xt u];by_cases c3:cM r=[]\/((cM r).length:N)<r.ti
   .rw[Xu c3,Xu c3];exact⟨rfl,fun e=>by omega⟩
   .have f:cM r≠[]:=fun e=>c3 (.inl e)
    rw[Xt c3,Xt c3,yQ k f];refine⟨rfl,fun e=>⟨rfl,f,O,fin f ?_⟩⟩;rw[yQ k f];intro q;rw[Xu q] at e;omega
def jc(r:cO)(l:J N):J (N × N):=l.map fun d=>(d*1440+r.mn,d*1440+r.mn+r.mi)
end Rd
open Go.RowKit
namespace aA
def mw(name:Xn)(es:J aQ)(a b:N)(m x:N):N:=if a<x/\x<b/\m<cP name x es then cP name x es else m
def nZ(name:Xn)(es:J aQ)(a b:N):N:=(fW name es).foldl (mw name es a b) (cP name a es)
end aA
theorem Qr(d:M)(a:Xp Addr)(cap E:M)(es:J aA.aQ)(name:Xn)(fr til:N)(w:XA)(h:oJ w d a cap E es)(hl:es.length<=1000)(X:∀ e∈es,aA.Small e):XE prog 123 #[d,name,fr,til] w fun e w'=>e=XR (V Y (aA.nZ name es fr til))/\XD w w w':=by
 have ST:=aB (fun w' (k:XD w w w')=>IR d a cap E es name w' (h.later k) hl X);have TK:=aB (fun t w' (k:XD w w w')=>IB d a cap E es name t w' (h.later k) hl X);have sz:=Dd name es X;have H:aA.nZ name es fr til=(aA.fW name es).foldl (aA.mw name es fr til) (aA.cP name fr es):=rfl;rw[H];generalize aA.fW name es=l at *;have ac:l.length<=100000:=O;clear h X H sz;go_in;go_wp21;refine aK (TK _ _ fJ) fun w1 S=>?_;have C:=aB S;clear S;go_wp21;refine (ST _ C).mono ?_;rintro e w2 ⟨v2,rfl,I,R⟩;obtain⟨a2,c2,g2,rfl,aa,W,G⟩:=Ac I;have R2:=aB (Yd W (Yd G (bV C R aJ)));clear ST I R W G C aa;go_wp21;go_loopw [9,11,12] (fun m i _ wx=>∃ j:M,j<=l.length/\i=V Y j/\m=V Y ((l.take j).foldl (aA.mw name es fr til) (aA.cP name fr es))/\XD w2 w2 wx) (fun _ i _ _=>l.length-(intOf i).toNat)
 .exact⟨0,YK _,rfl,rfl,Below.refl _ _⟩
 .obtain⟨j,hj,rfl,rfl,T⟩:=hrel;have K:=bV R2.2.2 T aJ;have A:=aB K;have HB:=aB T;clear K
  by_cases r:j<l.length
  .obtain rfl:=R2.1 (by intro e;simp[e] at r);have c0:=aT T (R2.2.1 j r);have ab:(j:N)<(l.length:N):=O
   have D:(l.take (j+1)).foldl (aA.mw name es fr til) (aA.cP name fr es)=aA.mw name es fr til ((l.take j).foldl (aA.mw name es fr til) (aA.cP name fr es)) l[j]:=by rw[YJ r,Z5];rfl
   have p:=aB D;have f:=aB (TK l[j]);generalize (l.take j).foldl (aA.mw name es fr til) (aA.cP name fr es)=m at *;have q:Hid (aA.mw name es fr til m l[j]=if fr<l[j]/\l[j]<til/\m<aA.cP name l[j] es then aA.cP name l[j] es else m):=rfl;generalize aA.cP name l[j] es=tk at *;clear D T;by_cases h1:fr<l[j]
   .by_cases h2:l[j]<til
    .by_cases h3:m<tk
     .have u:Hid ((l.take (j+1)).foldl (aA.mw name es fr til) (aA.cP name fr es)=tk):=by show _=tk;rw[p,q,Xu ⟨h1,h2,h3⟩]
      go_wp21;refine aK (f _ A) fun w4 c=>?_;have B:=aB (bV HB c aJ);clear c f;go_wp21;go_roundw
      .exact⟨j+1,O,by go_num,by rw[u],B⟩
      .simp[intOf];omega
     .have u:Hid ((l.take (j+1)).foldl (aA.mw name es fr til) (aA.cP name fr es)=m):=by show _=m;rw[p,q,Xt (fun x=>h3 x.2.2)]
      go_wp21;refine aK (f _ A) fun w4 c=>?_;have B:=aB (bV HB c aJ);clear c f;go_wp21;go_roundw
      .exact⟨j+1,O,by go_num,by rw[u],B⟩
      .simp[intOf];omega
    .have u:Hid ((l.take (j+1)).foldl (aA.mw name es fr til) (aA.cP name fr es)=m):=by show _=m;rw[p,q,Xt (fun x=>h2 x.2.1)]
     go_wp21;go_roundw
     .exact⟨j+1,O,by go_num,by rw[u],HB⟩
     .simp[intOf];omega
   .have u:Hid ((l.take (j+1)).foldl (aA.mw name es fr til) (aA.cP name fr es)=m):=by show _=m;rw[p,q,Xt (fun x=>h1 x.1)]
    go_wp21;go_roundw
    .exact⟨j+1,O,by go_num,by rw[u],HB⟩
    .simp[intOf];omega
  .have e:l.take j=l:=YL O;have ab:¬ (j:N)<(l.length:N):=O
   clear T;go_wp21;go_ret;exact⟨jx (by first|rfl|rw[e]),A⟩
namespace aA
def iY:J aQ->J N
 |[]=>[]
 |e :: r=>e.aR.map (·.2)++iY r
theorem Sn(l r:J aQ):iY (l++r)=iY l++iY r:=by
 induction l with
 |nil=>rfl
 |cons e l ih=>simp only[Yk,iY,ih,Y9]
def mv(ts:J (Xn × N))(es:J aQ)(name:Xn)(aN long fr til c s:N):N :=if s<fr\/til<s+long\/(0<=c/\c<=s) then c else if eT ts es name aN [(s,s+long)] then s else c
def kL(ts:J (Xn × N))(es:J aQ)(name:Xn)(aN long fr til:N):N:=(fr :: iY es).foldl (mv ts es name aN long fr til) (-1)
def G4(es:J aQ):Prop:=∀ e∈es,∀ s∈e.aR,0<=s.2/\s.2<=2000000
theorem Iy(l:J aQ)(h:∀ e∈l,Small e):(iY l).length<=100*l.length:=by
 induction l with
 |nil=>simp[iY]
 |cons e l ih =>have i:=ih (fun x c=>h x (by simp[c]));have s:=(h e Xc).sl;simp only[iY,Yy,Yz,Ze];omega
theorem QQ(l:J aQ)(h:G4 l):∀ x∈iY l,0<=x/\x<=2000000:=by
 induction l with
 |nil=>simp[iY]
 |cons e l ih =>
  intro x c;simp only[iY,X9,YP] at c;rcases c with ⟨s,f,rfl⟩|c
  .exact h e Xc s f
  .exact ih (fun e k=>h e (by simp[k])) x c
end aA
def pE(fr:N)(l:J aA.aQ)(e:aA.aQ)(j:M):J N:=fr :: (aA.iY l++(e.aR.take j).map (·.2))
theorem Qq(d:M)(a:Xp Addr)(cap E:M)(es:J aA.aQ)(at_:Xp Addr)(ct G:M)(ts:J (Xn × N))(name:Xn)(aN long fr til:N)(w:XA)(h:oJ w d a cap E es)(ht:rG w d at_ ct G ts)(hl:es.length<=1000)(a9:ts.length<=1000)(hs:∀ e∈es,aA.Small e)(he:aA.G4 es)(a8:0<=aN)(a7:aN<=9)(bq:0<=long)(bn:long<=2000000)(bh:0<=fr)(bg:fr<=2000000):XE prog 124 #[d,name,aN,long,fr,til] w fun e w'=>e=XR (V Y (aA.kL ts es name aN long fr til))/\XD w w w':=by
 obtain⟨i0,bf,a4,a3,az⟩:=info_parts qz;have FT:=aB (fun w' (k:XD w w w') B cb L hL bc=>Hx d a cap E es at_ ct G ts name aN B cb L w' (h.later k) (ht.later k) hL hl a9 hs bc a8 a7);have H:=aB h;have HS:=aB hs;have sz:=aA.Iy es hs;have ab:Hid (∀ x∈fr :: aA.iY es,0<=x/\x<=2000000):=by
  intro x hx;rcases X8.1 hx with rfl|hx
  .exact⟨bh,bg⟩
  .exact aA.QQ es he x hx
 have ao:aA.kL ts es name aN long fr til=(fr :: aA.iY es).foldl (aA.mv ts es name aN long fr til) (-1):=rfl;rw[ao];obtain⟨l,X⟩:∃ l,fr :: aA.iY es=l:=⟨_,rfl⟩;have bs:l.length<=100100:=by rw[<- X,Yz];omega
 rw[X] at ab ⊢;have aw:=aB X;clear h ht hs he ao X;go_in;go_wp21;have o0:(w.alloc (XS #[fr] 3)).ownsRow w 3 1 (XJ w 1 1) 1 ([fr].map (V Y)) :=⟨rfl,.inr ⟨w,1,#[fr],rfl,XT _,dH _ _,XT _,by unfold maxLen;omega,rfl,rfl⟩⟩
 have O0:=aB (Yd o0 ((zr _ w).alloc aJ (XS #[fr] 3)));clear o0;go_loopw [13,14,15] (fun v i _ wx=>∃ k:M,k<=es.length/\i=V Y k/\wx.ownsRow w 3 1 v (fr :: aA.iY (es.take k)).length ((fr :: aA.iY (es.take k)).map (V Y))/\XD w w wx) (fun _ i _ _=>es.length-(intOf i).toNat)
 .exact⟨0,YK _,rfl,O0.1,O0.2⟩
 .obtain⟨k,hk,rfl,f,t⟩:=hrel;have bl:=YS k es;have hx:=H.later t;have cc:=hx.c;have bm:=aA.Iy (es.take k) (fun e he=>HS e (List.mem_of_mem_take he))
  by_cases W:k<es.length
  .obtain rfl:=H.at W;obtain⟨B,cp,ad⟩:=H.r k W;have c4:=(ad.later t).c4;have al:=HS es[k] (zg W);have I:(k:N)<(es.length:N):=O
   have e:fr :: aA.iY (es.take (k+1))=fr :: (aA.iY (es.take k)++es[k].aR.map (·.2)):=by rw[YJ W,aA.Sn];simp[aA.iY]
   have EE:=aB e;have sl:=al.sl;have R0:=aB ad;have HO:=aB (Yd f t);clear e ad hx al f t;go_wp21;go_loopw [13,15] (fun v i wx=>∃ j:M,j<=es[k].aR.length/\i=V Y j/\wx.ownsRow w 3 1 v (pE fr (es.take k) es[k] j).length ((pE fr (es.take k) es[k] j).map (V Y))/\XD w w wx) (fun _ i _=>es[k].aR.length-(intOf i).toNat)
   .exact⟨0,YK _,rfl,by rw[pE];simpa using HO.out.1,HO.2⟩
   .obtain⟨j,hj,rfl,f,t⟩:=hrel;clear cc c4;have cc:=(H.later t).c;have c4:=(R0.later t).c4;have aa:=aB (Yd f t);have aq:=t.size
    by_cases u:j<es[k].aR.length
    .have r1:=(R0.sl.later t j u).2;have ae:(j:N)<(es[k].aR.length:N):=O
     have av:pE fr (es.take k) es[k] (j+1)=pE fr (es.take k) es[k] j++[es[k].aR[j].2]:=by unfold pE;rw[YJ u,YT,Yk,Y9];rfl
     have ES:=aB av;have bj:(pE fr (es.take k) es[k] j).length<=100*k+101:=by unfold pE;have:=YS j es[k].aR;simp only[Yz,Yy,Ze];omega
     clear av t;go_wp2_with (first
      |(at_builtin;refine wpList_append_own _ rfl _ _ 53 rfl w 3 i0 (V Y 0) 1 8 underlying53 bf a4 a3 az rfl Xd _ _ _ rfl (f.alloc _) (wr,0) 1 1 [V Y es[k].aR[j].2] rfl rfl (Zf (cs:=#[V Y es[k].aR[j].2]) (dH wr _)) Xl Xk O Xh ?_;intro v' w' D K _))
     have ar:XD w w w':=(aa.2.alloc aq _).grown K Xh (fun k hk=>gU aa.1 hk);have HK:Hid (w'.ownsRow w 3 1 v' (pE fr (es.take k) es[k] (j+1)).length ((pE fr (es.take k) es[k] (j+1)).map (V Y))):=by show w'.ownsRow _ _ _ _ _ _;rw[ES,YT,Yy];exact D
     have bi:=aB ar;clear D K ar f aa r1 cc c4;go_wp21;go_roundw
     .exact⟨j+1,O,by go_num,HK,bi⟩
     .simp[intOf];omega
    .have ae:¬ (j:N)<(es[k].aR.length:N):=O
     have ac:pE fr (es.take k) es[k] j=fr :: aA.iY (es.take (k+1)):=by have et:es[k].aR.take j=es[k].aR:=YL O;rw[EE,pE,et]
     have HK:Hid (wr.ownsRow w 3 1 u13 (fr :: aA.iY (es.take (k+1))).length ((fr :: aA.iY (es.take (k+1))).map (V Y))):=by show wr.ownsRow _ _ _ _ _ _;rw[<- ac];exact f
     clear f t ac;go_wp21;go_roundw
     .exact⟨k+1,O,by go_num,HK,aa.2⟩
     .simp[intOf];omega
  .have e:es.take k=es:=YL O;have I:¬ (k:N)<(es.length:N):=O
   rw[e,aw] at f;obtain⟨a2,c2,g2,rfl,ba,au,an⟩:=Ac f;have R2:=aB (Yd au (Yd an t));clear f t e au an ba aw hx O0;go_wp21;go_loopw [16,17,18,19] (fun b i _ _ wx=>∃ j:M,j<=l.length/\i=V Y j/\b=V Y ((l.take j).foldl (aA.mv ts es name aN long fr til) (-1))/\XD w w wx/\∀ (i:M) (I:i<l.length),wx.cell? (g2,i)=U (V Y l[i])) (fun _ i _ _ _=>l.length-(intOf i).toNat)
   .exact⟨0,YK _,rfl,rfl,R2.2.2,R2.2.1⟩
   .obtain⟨j,hj,rfl,rfl,t,S⟩:=hrel;have aj:=aB t;have HC:=aB S;clear S
    by_cases u:j<l.length
    .obtain rfl:=R2.1 (by intro e;simp[e] at u);have c0:=HC j u;have ae:(j:N)<(l.length:N):=O
     have ak:(l.take (j+1)).foldl (aA.mv ts es name aN long fr til) (-1)=aA.mv ts es name aN long fr til ((l.take j).foldl (aA.mv ts es name aN long fr til) (-1)) l[j]:=by rw[YJ u,Z5];rfl
     have ag:=aB ak;have hm:=ab.out l[j] (zg u);generalize (l.take j).foldl (aA.mv ts es name aN long fr til) (-1)=b at *;generalize l[j]=sx at *;have ai:Hid (aA.mv ts es name aN long fr til b sx=if sx<fr\/til<sx+long\/(0<=b/\b<=sx) then b else if aA.eT ts es name aN [(sx,sx+long)] then sx else b):=rfl;clear ak t;by_cases p:sx<fr\/til<sx+long\/(0<=b/\b<=sx)
     .have HE:Hid ((l.take (j+1)).foldl (aA.mv ts es name aN long fr til) (-1)=b):=by show _=b;rw[ag,ai,Xu p]
      have R:sx<fr\/(¬ sx<fr/\til<sx+long)\/(¬ sx<fr/\¬ til<sx+long/\0<=b/\b<=sx):=O;clear p;rcases R with q1|⟨q1,q2⟩|⟨q1,q2,q3,q4⟩;all_goals
       go_wp21;go_roundw
       .exact⟨j+1,O,by go_num,by rw[HE],aj,HC⟩
       .simp[intOf];omega
     .have hB:iV (wr.alloc (XS #[V Y sx,V Y (sx+long)] 83)) wr [(sx,sx+long)]:=by
       intro i I;have:i=0:=by simpa using I
       subst this;exact⟨by simp,by simp⟩
      have af:XD w w (wr.alloc (XS #[V Y sx,V Y (sx+long)] 83)):=bV aj aS aJ;have C:=aB (FT _ af wr 1 [(sx,sx+long)] hB Xc);have ay:=aB af;have ax:Hid (∀ (i:M) (I:i<l.length),(wr.alloc (XS #[V Y sx,V Y (sx+long)] 83)).cell? (g2,i)=U (V Y l[i])):=fun i I=>aT aS (HC i I);have q1:¬ sx<fr:=O;have q2:¬ til<sx+long:=O;have hz:(wr.alloc (XS #[V Y sx,V Y (sx+long)] 83)).heap.size=wr.heap.size+1:=Xc;clear hB af hz
      cases q:aA.eT ts es name aN [(sx,sx+long)]
      .have HE:Hid ((l.take (j+1)).foldl (aA.mv ts es name aN long fr til) (-1)=b):=by show _=b;rw[ag,ai,Xt p,q];rfl
       rw[q] at C;have R:b<0\/(0<=b/\sx<b):=O;clear p q;rcases R with q3|⟨q3,q4⟩;all_goals
        go_wp21;refine C.mono ?_;rintro e w4 ⟨rfl,A⟩;have T:=aB (Yd (bV ay A aJ) (fun i I=>aT A (ax i I)));clear A C;go_wp21;go_roundw
        .exact⟨j+1,O,by go_num,by rw[HE],T.1,T.2⟩
        .simp[intOf];omega
      .have HE:Hid ((l.take (j+1)).foldl (aA.mv ts es name aN long fr til) (-1)=sx):=by show _=sx;rw[ag,ai,Xt p,q];rfl
       rw[q] at C;have R:b<0\/(0<=b/\sx<b):=O;clear p q;rcases R with q3|⟨q3,q4⟩;all_goals
        go_wp21;refine C.mono ?_;rintro e w4 ⟨rfl,A⟩;have T:=aB (Yd (bV ay A aJ) (fun i I=>aT A (ax i I)));clear A C;go_wp21;go_roundw
        .exact⟨j+1,O,by go_num,by rw[HE],T.1,T.2⟩
        .simp[intOf];omega
    .have e:l.take j=l:=YL O;have ae:¬ (j:N)<(l.length:N):=O
     clear t;go_wp21;go_ret;exact⟨jx (by first|rfl|rw[e]),aj⟩
namespace aA
def sB(a x:N):J N->N
 |[]=>a
 |s :: r=>if s<=x/\sB a x r<s then s else sB a x r
theorem FY(a x:N)(h:a<=x):∀ l:J N,a<=sB a x l/\sB a x l<=x/\(sB a x l=a\/sB a x l∈l)/\∀ s∈l,s<=x->s<=sB a x l
 |[]=>⟨ZR _,h,.inl rfl,by simp⟩
 |s :: r=>by
  let⟨h1,h2,f,h4⟩:=FY a x h r;simp only[sB];split
  .rename_i c
   refine⟨O,c.1,.inr Xc,fun t ht k=>?_⟩;rcases X8.1 ht with rfl|ht
   .omega
   .have:=h4 t ht k;omega
  .rename_i c
   refine⟨h1,h2,?_,fun t ht k=>?_⟩
   .rcases f with f|f
    .exact .inl f
    .exact .inr (by simp[f])
   .rcases X8.1 ht with rfl|ht
    .omega
    .exact h4 t ht k
theorem MY(f:y<=x)(h:∀ s∈L,s.1<=x->s.1<=y):eM L x<=eM L y:=by
 unfold eM;rw[<- Z6,<- Z6];have:Z7 (hasB x) L<=Z7 (hasB y) L:=Z8 (fun s k c=>by simp[hasB] at c ⊢;have:=h s k c.1;omega)
 omega
def Pos(es:J aQ):Prop:=∀ e∈es,0<=e.aN
theorem FZ{name:Xn}{x y:N}(f:y<=x):∀ {es:J aQ},Pos es->(∀ s∈fW name es,s<=x->s<=y)->cP name x es<=cP name y es
 |[],_,_=>ZR _
 |e :: r,hp,h=>by
  have ih:=FZ (name:=name) f (es:=r) (fun z q=>hp z (by simp[q])) (fun s p=>h s (by simp[fW,p]));simp only[cP];by_cases c:dB name e=Xz
  .rw[Xu c,Xu c];have p:dI e.bI name=Xz:=by simp[dB] at c;exact c.1
   have A:=MY f (fun s k t=>h s.1 (by simp[fW,p];exact .inl ⟨s.2,k⟩) t);have u:=hp e Xc;have:eM e.aR x*e.aN<=eM e.aR y*e.aN:=Int.mul_le_mul_of_nonneg_right A u;omega
  .rw[Xt c,Xt c];omega
theorem b7K(c:Pos es){a:N}(h:a<=x):∃ y,a<=y/\y<=x/\(y=a\/y∈fW name es)/\cP name x es<=cP name y es:=by let⟨h1,h2,h3,h4⟩:=FY a x h (fW name es);exact⟨_,h1,h2,h3,FZ h2 c h4⟩
theorem wL{aN:N}(t:Pos es)(r:0<=aN):eT ts es name aN L=Xz↔∀ x,0<eM L x->cP name x es+eM L x*aN<=cI name ts:=by
 constructor
 .intro h x f
  have k:∃ s∈L,s.1<=x/\x<s.2:=by unfold eM at f;have B:0<(L.filter (hasB x)).length:=O;let⟨s,c⟩:=List.exists_mem_of_length_pos B;have:=ZX.1 c;simp[hasB] at this;exact⟨s,this.1,this.2⟩
  let⟨s0,hs0,k1,k2⟩:=k;let⟨h1,h2,h3,h4⟩:=FY s0.1 x k1 (fW name es++L.map (·.1));generalize sB s0.1 x (fW name es++L.map (·.1))=y at h1 h2 h3 h4;have p:y∈fW name es++L.map (·.1):=Xi;have ht:=FZ (name:=name) (es:=es) h2 t (fun s c=>h4 s (by simp[c]));have A:eM L x<=eM L y:=MY h2 (fun s c=>h4 s.1 Xi);have C:=Zy.1 h y p;simp[si] at C;have q:0<eM L y:=O;have u:=Int.mul_le_mul_of_nonneg_right A r;omega
 .intro h;unfold eT qQ;rw[Zy];intro x _;simp[si]
  by_cases f:0<eM L x
  .exact .inr (h x f)
  .exact .inl O
theorem FC(a b x:N):eM [(a,b)] x=if a<=x/\x<b then 1 else 0:=by
 unfold eM;by_cases h:a<=x/\x<b
 .rw[Xu h];simp[hasB,h.1,h.2]
 .rw[Xt h];have:hasB x (a,b)=Xy:=by simp[hasB];omega
  simp[this]
theorem FX{aN a:N}(r:Pos es)(q:0<=aN):eT ts es name aN [(a,b)]=Xz↔∀ x,a<=x->x<b->cP name x es+aN<=cI name ts:=by
 rw[wL r q];constructor
 .intro h x p k;have:=h x (by rw[FC,Xu ⟨p,k⟩];omega);rw[FC,Xu ⟨p,k⟩] at this;omega
 .intro h x f;rw[FC] at f ⊢
  by_cases c:a<=x/\x<b
  .rw[Xu c];have:=h x c.1 c.2;omega
  .rw[Xt c] at f;omega
def vT(f:N->N)(a b m:N):Prop:=(∀ x,a<=x->x<b->f x<=m)/\∃ x,a<=x/\x<b/\f x=m
theorem vT.eq{f:N->N}{a n:N}(h:vT f a b m)(k:vT f a b n):m=n:=by grind[vT]
theorem Ls{name:Xn}{es:J aQ}{a b:N}:∀ (l:J N)(m:N),m<=l.foldl (mw name es a b) m/\(∀ x∈l,a<x->x<b->cP name x es<=l.foldl (mw name es a b) m)/\(l.foldl (mw name es a b) m=m\/∃ x∈l,a<x/\x<b/\l.foldl (mw name es a b) m=cP name x es)
 :=by simp_all[ZR,Ls,mw,Zt,cP,X8]
theorem a6H{a:N}(r:Pos es)(h:a<b):vT (fun x=>cP name x es) a b (nZ name es a b):=by
 let⟨h1,h2,f⟩:=Ls (name:=name) (es:=es) (a:=a) (b:=b) (fW name es) (cP name a es);unfold nZ;generalize (fW name es).foldl (mw name es a b) (cP name a es)=R at h1 h2 f ⊢;refine⟨fun x p k=>?_,?_⟩
 .let⟨y,i1,i2,c,i4⟩:=b7K (name:=name) r p;show cP name x es<=R
  by_cases e:y=a
  .subst e;omega
  .rcases c with c|c
   .exact Xv c e
   .have:=h2 y c O O;omega
 .rcases f with f|⟨x,_,p,k,q⟩
  .exact⟨a,ZR _,h,f.symm⟩
  .exact⟨x,O,k,q.symm⟩
theorem JF{name:Xn}{x:N}:∀ {es:J aQ},Pos es->cP name x es<cP name (x-1) es->x∈iY es
 |[],_,h=>by simp[cP] at h
 |e :: r,hp,h=>by
  simp only[iY,X9,YP];by_cases c:∃ s∈e.aR,s.2=x
  .exact .inl c
  .right;refine JF (name:=name) (fun z f=>hp z (by simp[f])) ?_
   have t:eM e.aR (x-1)<=eM e.aR x:=by
    unfold eM;rw[<- Z6,<- Z6];have:Z7 (hasB (x-1)) e.aR<=Z7 (hasB x) e.aR:=Z8 (fun s p u=>by simp[hasB] at u ⊢;have:s.2≠x:=fun e=>c ⟨s,p,e⟩;omega)
    omega
   have k:=hp e Xc;have q:=Int.mul_le_mul_of_nonneg_right t k;simp only[cP] at h;split at h <;> omega
def Di(r:N):Xp N:=if r<0 then Z else U r
theorem EU{ts:J (Xn × N)}{es:J aQ}{name:Xn}{aN long fr tq:N}(A:0<=fr):∀ (l:J N)(b:N),-1<=b ->
  (b=-1\/(fr<=b/\b+long<=tq/\eT ts es name aN [(b,b+long)]=Xz)) ->
  let R:=l.foldl (mv ts es name aN long fr tq) b;(R=-1\/(fr<=R/\R+long<=tq/\eT ts es name aN [(R,R+long)]=Xz))/\-1<=R/\(0<=b->0<=R/\R<=b)/\∀ s∈l,fr<=s->s+long<=tq->eT ts es name aN [(s,s+long)]=Xz->0<=R/\R<=s
 |[],b,hb,h=>by grind
 |s :: l,b,hb,h=>by
  intro R;have B:mv ts es name aN long fr tq b s=b/\((s<fr\/tq<s+long\/(0<=b/\b<=s))\/eT ts es name aN [(s,s+long)]=Xy)\/mv ts es name aN long fr tq b s=s/\fr<=s/\s+long<=tq/\eT ts es name aN [(s,s+long)]=Xz/\(b<0\/s<b):=by
   unfold mv;by_cases c:s<fr\/tq<s+long\/(0<=b/\b<=s)
   .rw[Xu c];exact .inl ⟨rfl,.inl c⟩
   .rw[Xt c]
    cases C:eT ts es name aN [(s,s+long)]
    .exact .inl ⟨by simp,.inr rfl⟩
    .exact .inr ⟨by simp,O,O,rfl,O⟩
  rcases B with ⟨e,c⟩|⟨e,c1,c2,c3,c4⟩
  .have ih:=EU (ts:=ts) (es:=es) (name:=name) (aN:=aN) (long:=long) (tq:=tq) A l b hb h;have u:R=l.foldl (mv ts es name aN long fr tq) b:=Xi
   rw[<- u] at ih;let⟨i1,i2,i3,i4⟩:=ih;refine⟨i1,i2,i3,fun t ht q p f=>?_⟩;rcases X8.1 ht with rfl|ht
   .rcases c with c|c
    .have:=i3 O;omega
    .rw[f] at c;cases c
   .exact i4 t ht q p f
  .have ih:=EU (ts:=ts) (es:=es) (name:=name) (aN:=aN) (long:=long) (tq:=tq) A l s O (.inr ⟨c1,c2,c3⟩);have u:R=l.foldl (mv ts es name aN long fr tq) s:=Xi
   rw[<- u] at ih;let⟨i1,i2,i3,i4⟩:=ih;have r:=i3 O;refine⟨i1,i2,fun k=>by omega,fun t ht q p f=>?_⟩;rcases X8.1 ht with rfl|ht
   .exact r
   .exact i4 t ht q p f
theorem Vf(P:N->Prop)(fr:N):∀ (n:M)(s:N),s=fr+n->P s->∃ r,fr<=r/\r<=s/\P r/\∀ t,fr<=t->t<r->¬ P t:=by
 intro n;induction n using Nat.strongRecOn with
 |_ n ih =>intro s q p;by_cases c:∃ t,fr<=t/\t<s/\P t;let⟨t,k,h,f⟩:=c;let⟨r,i1,i2,i3,i4⟩:=ih (t-fr).toNat O t O f;exact⟨r,i1,O,i3,i4⟩;exact⟨s,O,ZR _,p,fun t k h f=>c ⟨t,k,h,f⟩⟩
theorem UA{aN:N}(t:Pos es)(A:0<=aN)(H:0<=fr)(_hl:1<=long):-1<=kL ts es name aN long fr tq/\tM (fun x=>cP name x es) fr tq long (cI name ts-aN) (Di (kL ts es name aN long fr tq)):=by
 have B:∀ s,pe (fun x=>cP name x es) long (cI name ts-aN) s↔eT ts es name aN [(s,s+long)]=Xz:=by
  intro s;rw[FX t A];constructor
  .intro h x c f;have:=h x c f;have this:cP name x es<=cI name ts-aN:=this;omega
  .intro h x c f;have:=h x c f;show cP name x es<=cI name ts-aN;omega
 let⟨D,h2,_,h4⟩:=EU (ts:=ts) (es:=es) (name:=name) (aN:=aN) (long:=long) (tq:=tq) H (fr :: iY es) (-1) (ZR _) (.inl rfl);unfold kL;generalize (fr :: iY es).foldl (mv ts es name aN long fr tq) (-1)=R at D h2 h4 ⊢;have key:∀ s,fr<=s->s+long<=tq->eT ts es name aN [(s,s+long)]=Xz->0<=R/\R<=s:=by
  intro s c f k;let⟨r,u,E,q,i4⟩:=Vf (fun s=>eT ts es name aN [(s,s+long)]=Xz) fr (s-fr).toNat s O k;have:r∈fr :: iY es:=by
   by_cases e:r=fr
   .simp[e]
   .have C:=i4 (r-1) O O;have p:=(FX t A).1 q
    have:∃ x,r-1<=x/\x<r-1+long/\cI name ts<cP name x es+aN:=by
     apply ZV;intro G;apply C;apply (FX t A).2;intro x j1 j2;by_cases d:cP name x es+aN<=cI name ts
     .exact d
     .exact Xv ⟨x,j1,j2,O⟩ G
    let⟨x,j1,j2,j3⟩:=this;have I:x=r-1:=by
     by_cases d:r<=x
     .have:=p x d O;omega
     .omega
    subst I;have:=p r (ZR _) O;exact Zl _ (JF (name:=name) t O)
  have:=h4 r this u O q;omega
 refine⟨h2,?_⟩;unfold Di;split
 .intro s c f k;have:=key s c f ((B s).1 k);omega
 .rcases D with D|⟨u,E,q⟩
  .omega
  .refine⟨u,E,(B R).2 q,fun s c f k=>?_⟩;have:=key s c O ((B s).1 k);omega
theorem VJ{f:N->N}{a:N}{r q:Xp N}(h:tM f a b long level r)(k:tM f a b long level q):r=q:=by
 cases r with
 |none =>
  cases q with
  |none=>rfl
  |some s=>exact Xv k.2.2.1 (h s k.1 k.2.1)
 |some s =>
  cases q with
  |none=>exact Xv h.2.2.1 (k s h.1 h.2.1)
  |some t =>
   let⟨h1,h2,h3,h4⟩:=h;let⟨k1,k2,k3,k4⟩:=k;by_cases c:s<t
   .exact Xv h3 (k4 s h1 c)
   .by_cases d:t<s
    .exact Xv k3 (h4 t k1 d)
    .exact congrArg U O
theorem b4a{f g:N->N}{a:N}{r:Xp N}(h:tM f a b long level r)(p:∀ x,a<=x->x<b->f x=g x):tM g a b long level r:=by
 have key:∀ s,a<=s->s+long<=b->(pe f long level s↔pe g long level s):=by intro s c k;constructor;intro h x A u;rw[<- p x O O];exact h x A u;intro h x A u;rw[p x O O];exact h x A u
 cases r with
 |none=>exact fun s c k q=>h s c k ((key s c k).2 q)
 |some s =>let⟨h1,h2,h3,h4⟩:=h;exact⟨h1,h2,(key s h1 h2).1 h3,fun t c k q=>h4 t c k ((key t c O).2 q)⟩
end aA
namespace aA
def ec(name:Xn):J aQ->J Xq->N
 |[],_=>0
 |e :: r,p=>(if dB name e then e.aN*iL e.aR p else 0)+ec name r p
theorem MI(name:Xn)(l r:J aQ)(p:J Xq):ec name (l++r) p=ec name l p+ec name r p:=by
 induction l with
 |nil=>simp[ec]
 |cons e l ih=>simp only[Yk,ec,ih];omega
theorem We(h:dB name e=Xz):dK (ec name es) e.aR e.aN=ec name (es++[e]):=by funext p;simp only[dK,MI,ec,h,if_true];omega
theorem MN(h:dB name e=Xy):ec name (es++[e])=ec name es:=by funext p;simp[MI,ec,h]
theorem wk(name:Xn)(p:J Xq):∀ es:J aQ,(∀ e∈es,Small e)->0<=ec name es p/\ec name es p<=900*es.length:=by simp_all[ec,wk,yh,iL,YG,Int.mul_le_mul,Yz]
theorem Small.pos(h:∀ e∈es,Small e):Pos es:=fun e c=>(h e c).u0
def yr(es:J aQ):Prop:=∀ e∈es,∀ s∈e.aR,s.1<s.2
theorem yV(name:Xn){x:N}(q:0<=x)(k:x<1048320):∀ es:J aQ,yr es->qX (ec name es) x=cP name x es
 |[],_=>by
  have:ec name []=fun _=>0:=by funext p;rfl
  rw[this];exact aL.b0h 20 0 1048320 x
 |e :: r,h=>by
  have ih:=yV name q k r (fun z t=>h z (by simp[t]));by_cases f:dB name e=Xz
  .have:ec name (e :: r)=dK (ec name r) e.aR e.aN:=by funext p;simp only[ec,dK,f,if_true];omega
   rw[this,Mj _ _ _ _ q k (h e Xc),ih];simp only[cP,f,if_true];have:((e.aR.filter fun s=>decide (s.1<=x) && decide (x<s.2)).length:N)=eM e.aR x:=rfl;rw[this,Int.mul_comm];omega
  .have c:dB name e=Xy:=aU f
   have:ec name (e :: r)=ec name r:=by funext p;simp[ec,c]
   rw[this,ih];simp[cP,c]
theorem WB{aN u:N}(t:∀ e∈es,Small e)(B:yr es)(D:qR L)(E:0<=u)(A:cI name ts=aN):mX (dK (ec name es) L u) aN L=eT ts es name u L:=by
 have G:∀ p,0<=dK (ec name es) L u p:=fun p=>by have:=(wk name p es t).1;have:=(yh L p).1;have:0<=u*iL L p:=YG E this;unfold dK;omega
 have c:∀ x,0<=x->x<1048320->qX (dK (ec name es) L u) x=cP name x es+eM L x*u:=by intro x I H;rw[Mj _ _ _ _ I H (fun s t=>(D s t).2.1),yV name I H es B];have:((L.filter fun s=>decide (s.1<=x) && decide (x<s.2)).length:N)=eM L x:=rfl;rw[this,Int.mul_comm]
 rw[Zw,wL (Small.pos t) E,A];unfold mX;rw[Zy];constructor
 .intro h x K;have R:0<(L.filter (hasB x)).length:=by unfold eM at K;omega
  let⟨s,r⟩:=List.exists_mem_of_length_pos R;have r:=ZX.1 r;have C:=r.2;simp[hasB] at C;have k:=D s r.1;have:=of_decide_eq_true (h s r.1);have m:=(Ey G k.1 k.2.1 k.2.2).1 x C.1 C.2;rw[c x O O] at m;omega
 .intro h s f;have k:=D s f;let⟨_,x,m1,m2,m3⟩:=Ey G k.1 k.2.1 k.2.2;rw[c x O O] at m3
  have q:0<eM L x:=by unfold eM;have:s∈L.filter (hasB x):=ZX.2 ⟨f,by simp[hasB,m1,m2]⟩;have:=List.length_pos_of_mem this;omega
  have:=h x q;exact decide_eq_true O
theorem VQ{a:N}(q:∀ e∈es,Small e)(c:yr es)(u:0<=a)(r:a<b)(t:b<=1048320):uK (ec name es) (a,b)=nZ name es a b:=by have m:=Ey (A:=ec name es) (s:=(a,b)) (fun p=>(wk name p es q).1) u r t;refine vT.eq (f:=fun x=>cP name x es) (a:=a) (b:=b) ⟨fun x k h=>?_,?_⟩ (a6H (Small.pos q) r);have:=m.1 x k h;rw[yV name O Xi es c] at this;exact this;let⟨x,k,h,k3⟩:=m.2;rw[yV name Xi Xi es c] at k3;exact⟨x,k,h,k3⟩
def Jn:Xp N->N
 |none=>-1
 |some s=>s
theorem Wx{aN a:N}{r:Xp N}(p:∀ e∈es,Small e)(f:yr es)(t:0<=a)(C:b<=1048320)(k:0<=aN)(q:1<=long)(h:tM (aL.fh (lK (ec name es)) 0 1048320) a b long (cI name ts-aN) r):kL ts es name aN long a b=Jn r:=by
 let⟨k1,k2⟩:=UA (ts:=ts) (es:=es) (name:=name) (aN:=aN) (long:=long) (fr:=a) (tq:=b) (Small.pos p) k t q;have u:=b4a h (g:=fun x=>cP name x es) (fun x B A=>yV name O O es f);have e:=VJ u k2;rw[e];generalize kL ts es name aN long a b=R at *;unfold Di;by_cases c:R<0;rw[Xu c];show R=-1;omega;rw[Xt c];rfl
def kept(id:N)(es:J aQ):J aQ:=es.filter fun e=>e.id != id
def ek(e:aQ):aQ:={ e with kind:=1,bZ:=0 }
def fc(id:N)(es:J aQ):J aQ:=es.map fun e=>if e.id=id then ek e else e
def eD(es:J aQ):Prop:=(es.map (·.id)).Pairwise (· < ·)
theorem eD.cons{r:J aQ}(h:eD (e :: r)):(∀ z∈r,e.id<z.id)/\eD r:=by simp_all[eD]
theorem eD.one(h:eD es):∀ {x y:aQ},x∈es->y∈es->x.id=y.id->x=y:=by
 induction es with
 |nil=>intro x y f;simp at f
 |cons e r ih =>
  intro x y f c k;let⟨h1,h2⟩:=h.cons;rcases X8.1 f with f|f
  .rcases X8.1 c with c|c
   .rw[f,c]
   .have:=h1 y c;rw[f] at k;omega
  .rcases X8.1 c with c|c
   .have:=h1 x f;rw[c] at k;omega
   .exact ih h2 f c k
theorem Fg(h:∀ e∈es,e.id≠id):kept id es=es:=ZY.2 (fun e c=>by simp[h e c])
theorem Bu{id:N}:∀ {es:J aQ},(∀ e∈es,e.id≠id)->fc id es=es
 |[],_=>rfl
 |e :: r,h=>by have i:=Bu (id:=id) (es:=r) (fun z c=>h z (by simp[c]));unfold fc at i ⊢;rw[List.map_cons,i,Xt (h e Xc)]
theorem b8M(es:J aQ):(fc id es).map (·.id)=es.map (·.id):=by unfold fc;rw[List.map_map];apply List.map_congr_left;intro e _;show (if e.id=id then ek e else e).id=e.id;split <;> rfl
theorem LL(h:eD es):eD (fc id es):=by unfold eD at *;rw[b8M];exact h
theorem Fw{name:Xn}{e:aQ}(f:dB name e=Xz):∀ {es:J aQ},eD es->e∈es->dK (ec name es) e.aR (-e.aN)=ec name (kept e.id es)
 |[],_,h=>by simp at h
 |z :: r,hi,h=>by
  let⟨h1,h2⟩:=hi.cons;funext p;by_cases c:z.id=e.id
  .have u:=hi.one h Xc c.symm;subst u
   have:kept e.id (e :: r)=r:=by have k:=Fg (id:=e.id) (es:=r) (fun y q=>by have:=h1 y q;omega);unfold kept at k ⊢;rw[Yn,Xt Xc,k]
   rw[this];simp only[dK,ec,f,if_true];rw[Int.neg_mul];omega
  .have t:e∈r:=by
    rcases X8.1 h with rfl|h
    .exact Xv rfl c
    .exact h
   have i:=congrFun (Fw f h2 t) p;have:kept e.id (z :: r)=z :: kept e.id r:=by unfold kept;rw[Yn,Xu (aU c)]
   rw[this];simp only[dK,ec] at i ⊢;omega
theorem F9{name:Xn}{id:N}:∀ {es:J aQ},(∀ e∈es,e.id=id->dB name e=Xy)->ec name (kept id es)=ec name es
 |[],_=>rfl
 |z :: r,h=>by have i:=F9 (name:=name) (id:=id) (es:=r) (fun y f=>h y (by simp[f]));funext p;have i:=congrFun i p;unfold kept at i ⊢;rw[Yn];by_cases c:z.id=id;rw[Xt (by simp[c])];simp only[ec,h z Xc c,X5,if_false];rw[i];omega;rw[Xu (aU c)];simp only[ec,i]
theorem tV:dB name (ek e)=dI e.bI name:=by simp[dB,ek]
theorem MJ{name:Xn}{e:aQ}(f:dI e.bI name=Xz)(q:e.kind=3):∀ {es:J aQ},eD es->e∈es->dK (ec name es) e.aR e.aN=ec name (fc e.id es)
 |[],_,h=>by simp at h
 |z :: r,hi,h=>by
  let⟨h1,h2⟩:=hi.cons;funext p;by_cases c:z.id=e.id
  .have B:=hi.one h Xc c.symm;subst B
   have:fc e.id (e :: r)=ek e :: r:=by have k:=Bu (id:=e.id) (es:=r) (fun y u=>by have:=h1 y u;omega);unfold fc at k ⊢;rw[List.map_cons,Xu rfl,k]
   rw[this];have t:dB name e=Xy:=by simp[dB,q]
   simp only[dK,ec,t,tV,f,if_true,X5,if_false];show 0+ec name r p+e.aN*iL e.aR p=e.aN*iL e.aR p+ec name r p;omega
  .have A:e∈r:=by
    rcases X8.1 h with rfl|h
    .exact Xv rfl c
    .exact h
   have i:=congrFun (MJ f q h2 A) p;have:fc e.id (z :: r)=z :: fc e.id r:=by unfold fc;rw[List.map_cons,Xt c]
   rw[this];simp only[dK,ec] at i ⊢;omega
theorem Gf{name:Xn}{id:N}:∀ {es:J aQ},(∀ e∈es,e.id=id->dI e.bI name=Xz->e.kind≠3)->ec name (fc id es)=ec name es
 |[],_=>rfl
 |z :: r,h=>by
  have i:=Gf (name:=name) (id:=id) (es:=r) (fun y f=>h y (by simp[f]));funext p;have i:=congrFun i p;unfold fc at i ⊢;rw[List.map_cons];simp only[ec,i];by_cases c:z.id=id
  .rw[Xu c,tV]
   have e:dB name z=dI z.bI name:=by
    unfold dB
    cases k:dI z.bI name
    .rfl
    .have:=h z Xc c k;simp[this]
   rw[e];rfl
  .rw[Xt c]
theorem uY:e∈kept id es↔e∈es/\e.id≠id:=by simp[kept]
theorem tY:e∈fc id es↔(e∈es/\e.id≠id)\/∃ z∈es,z.id=id/\e=ek z:=by
 unfold fc;rw[YP];constructor
 .rintro ⟨z,f,h⟩
  by_cases c:z.id=id
  .rw[Xu c] at h;exact .inr ⟨z,f,c,h.symm⟩
  .rw[Xt c] at h;subst h;exact .inl ⟨f,c⟩
 .rintro (⟨p,k⟩|⟨z,f,p,k⟩)
  .exact⟨e,p,Xt k⟩
  .exact⟨z,f,by grind⟩
end aA
namespace aA
def mU(a b:N)(s:N × N):Xq:=decide (s.1<b) && decide (a<s.2)
def gY(a b:N):J (N × N)->N
 |[]=>-1
 |s :: r=>if mU a b s then s.1 else gY a b r
end aA
theorem C5(x:aA.aQ × M × M)(fr til:Xs)(w:XA)(h:iV w x.2.1 x.1.aR)(I:x.1.aR.length<=100000):XE prog 166 #[.agg (fg x).toArray,fr,til] w fun e w'=>e=XR (V Y (aA.gY fr til x.1.aR))/\XD w w w':=by
 have H:=aB h;clear h;simp only[fg];go_in;go_wp21;have t:XD w w (w.alloc (XS #[x.1.id,x.1.kind,x.1.bI,x.1.aN,XJ x.2.1 x.1.aR.length x.2.2,x.1.bZ] 85)):=aS;have A:(w.alloc (XS #[x.1.id,x.1.kind,x.1.bI,x.1.aN,XJ x.2.1 x.1.aR.length x.2.2,x.1.bZ] 85)).cell? (w,4)=U (XJ x.2.1 x.1.aR.length x.2.2):=Xc;have q:=aB (Yd (H.later t) t);clear t;generalize (World.alloc w _)=X at A q ⊢;generalize w=N at A ⊢;go_loop [7] (fun i=>∃ k:M,k<=x.1.aR.length/\i=V Y k/\aA.gY fr til x.1.aR=aA.gY fr til (x.1.aR.drop k)) (fun i=>x.1.aR.length-(intOf i).toNat)
 .exact⟨0,YK _,rfl,rfl⟩
 .obtain⟨k,K,rfl,D⟩:=hrel;have r:=aB D;clear D
  by_cases p:k<x.1.aR.length
  .obtain⟨c1,c2⟩:=q.1 k p;have G:(k:Xs)<(x.1.aR.length:Xs):=O
   have E:aA.gY fr til (x.1.aR.drop k)=if aA.mU fr til x.1.aR[k] then x.1.aR[k].1 else aA.gY fr til (x.1.aR.drop (k+1)):=by rw[Zh p];rfl
   have u:=aB E;clear E;by_cases C:x.1.aR[k].1<til
   .by_cases B:fr<x.1.aR[k].2
    .have c:Hid (aA.gY fr til x.1.aR=x.1.aR[k].1):=by
      show _=_;have f:aA.mU fr til x.1.aR[k]=Xz:=by simp[aA.mU,C,B]
      rw[r,u,f];rfl
     go_wp21;go_ret;exact⟨jx c.symm,q.2⟩
    .have c:Hid (aA.gY fr til x.1.aR=aA.gY fr til (x.1.aR.drop (k+1))):=by
      show _=_;have f:aA.mU fr til x.1.aR[k]=Xy:=by simp[aA.mU,B]
      rw[r,u,f];rfl
     go_wp21;go_round
     .exact⟨k+1,O,by go_num,c⟩
     .simp[intOf];omega
   .have c:Hid (aA.gY fr til x.1.aR=aA.gY fr til (x.1.aR.drop (k+1))):=by
     show _=_;have f:aA.mU fr til x.1.aR[k]=Xy:=by simp[aA.mU,C]
     rw[r,u,f];rfl
    go_wp21;go_round
    .exact⟨k+1,O,by go_num,c⟩
    .simp[intOf];omega
  .have e:x.1.aR.drop k=[]:=Zi O;have c:Hid (aA.gY fr til x.1.aR=-1):=by show _=_;rw[r,e];rfl
   have G:¬ (k:Xs)<(x.1.aR.length:Xs):=O;clear e;go_wp21;go_ret;exact⟨jx c.symm,q.2⟩
theorem xV:(prog.info? 83).map (fun i=>(i.zero,i.size,i.bytes))=U (U (.agg #[V Y 0,V Y 0]),2,16):=Xg
def lq(s:N × N):J XC:=[V Y s.1,V Y s.2]
theorem xP(L:J (N × N)):(L.flatMap lq).length=L.length*2:=by
 induction L with
 |nil=>rfl
 |cons x xs ih=>simp only[YV,Yy,Yz,ih,lq,List.length_nil];omega
theorem Q6(L:J (N × N)):∀ (j:M)(u:XC),(L.flatMap lq)[j]?=U u->∃ i,∃ h:i<L.length,(j=i*2/\u=V Y L[i].1)\/(j=i*2+1/\u=V Y L[i].2):=by
 intro j u f;have r:j<L.length*2:=by have:=(List.getElem?_eq_some_iff.1 f).1;rwa [xP] at this
 have q:j / 2<L.length:=O;refine⟨j / 2,q,?_⟩;have c:L=L.take (j / 2)++L[j / 2] :: L.drop (j / 2+1):=Xj;have k:((L.take (j / 2)).flatMap lq).length=j / 2*2:=by rw[xP,YX O]
 rw[c,YW,YV,YZ O,k,YU (by simp[lq];omega)] at f;rcases (show j % 2=0\/j % 2=1 by omega) with e|e
 .have p:j-j / 2*2=0:=O
  rw[p] at f;simp[lq] at f;exact .inl ⟨O,f.symm⟩
 .have p:j-j / 2*2=1:=O
  rw[p] at f;simp[lq] at f;exact .inr ⟨O,f.symm⟩
theorem Cs{k:M}(h:w.ownsRow k 83 2 (XJ g n cap) n (L.flatMap lq)):n=L.length/\iV w g L:=by
 have C:=h.1;rw[xP] at C;have B:n=L.length:=O;refine⟨B,fun i H=>?_⟩;rcases h.2 with ⟨E,_⟩|⟨W,r,q,t,I,D,T,S,R,K⟩
 .cases E
 .cases t
  have key:∀ (j:M) (u:XC),j<2->(lq L[i])[j]?=U u->w.cell? (g,i*2+j)=U u:=by
   intro j u G A;have X:(L.flatMap lq)[i*2+j]?=U u:=by
    have c:L=L.take i++L[i] :: L.drop (i+1):=Xj;rw[c,YW,YV];have f:((L.take i).flatMap lq).length=i*2:=by rw[xP,YX O]
    rw[YZ O,f,Nat.add_sub_cancel_left,YU Xi];exact A
   have p:(q.toList.take (n*2))[i*2+j]?=U u:=Xi;rw[List.getElem?_take_of_lt O] at p;simp only[Array.getElem?_toList] at p;simp[Yi,D,p]
  exact⟨key 0 _ O rfl,key 1 _ O rfl⟩
theorem s8{b:M}{t:XG}(h:w.heap[b]?=U (XS #[c0,c1,c2,c3,c4,c5] t)):w.cell? (b,0)=U c0:=by simp[Yi,h]
theorem sZ{b:M}{t:XG}(h:w.heap[b]?=U (XS #[c0,c1,c2,c3,c4,c5] t)):w.cell? (b,1)=U c1:=by simp[Yi,h]
theorem uw{b:M}{t:XG}(h:w.heap[b]?=U (XS #[c0,c1,c2,c3,c4,c5] t)):w.cell? (b,2)=U c2:=by simp[Yi,h]
theorem ux{b:M}{t:XG}(h:w.heap[b]?=U (XS #[c0,c1,c2,c3,c4,c5] t)):w.cell? (b,3)=U c3:=by simp[Yi,h]
theorem uy{b:M}{t:XG}(h:w.heap[b]?=U (XS #[c0,c1,c2,c3,c4,c5] t)):w.cell? (b,4)=U c4:=by simp[Yi,h]
theorem s7{b:M}{t:XG}(h:w.heap[b]?=U (XS #[c0,c1,c2,c3,c4,c5] t)):w.cell? (b,5)=U c5:=by simp[Yi,h]
theorem xA{b:M}{cs:Array XC}{t:XG}(h:w.heap[b]?=U (XS cs t)):∀ o,w.frozen? ⟨b,o,Z⟩=Xy:=fun o=>by simp[World.frozen?,h]
theorem Rs{X:XA}{f:M}{h o2:Obj}(c:X.grownBy w1 (Value.slice Z 0 0).ownBlock)(k:f+1<X)(q:X.heap[f]?=U h)(p:X.heap[f+1]?=U o2):w1.heap[f]?=U h/\w1.heap[f+1]?=U o2 :=⟨(c.block f O Xm).trans q,(c.block (f+1) k Xm).trans p⟩
theorem Hn(x:aA.aQ × M × M)(w:XA)(h:iV w x.2.1 x.1.aR)(T:0<x.1.aR.length)(hl:x.1.aR.length<=1000):XE prog 125 #[.agg (fg x).toArray] w fun e w'=>∃ g cap,e=XR (.agg (fg (x.1,g,cap)).toArray)/\iV w' g x.1.aR/\w.heap.size<=g/\g<w'.heap.size/\XD w.heap.size w w':=by
 obtain⟨i0,W,H,G,E⟩:=info_parts xV;have HS:=aB h;simp only[fg];go_in;go_upto_region 2 with fail;have D:XD w.heap.size w ((w.alloc (XS #[V Y x.1.id,V Y x.1.kind,XK x.1.bI,V Y x.1.aN,XJ (U ⟨x.2.1,0,Z⟩) x.1.aR.length x.2.2,V Y x.1.bZ] 85)).alloc (XS #[V Y 0,V Y 0,XK ⟨#[]⟩,V Y 0,XJ Z 0 0,V Y 0] 85)):=((zr _ _).alloc (zq _) _).alloc Xc _;have I:((w.alloc (XS #[V Y x.1.id,V Y x.1.kind,XK x.1.bI,V Y x.1.aN,XJ (U ⟨x.2.1,0,Z⟩) x.1.aR.length x.2.2,V Y x.1.bZ] 85)).alloc (XS #[V Y 0,V Y 0,XK ⟨#[]⟩,V Y 0,XJ Z 0 0,V Y 0] 85)).heap.size=w.heap.size+2:=Xc;have p:∀ j u,(x.1.aR.flatMap lq)[j]?=U u->((w.alloc (XS #[V Y x.1.id,V Y x.1.kind,XK x.1.bI,V Y x.1.aN,XJ (U ⟨x.2.1,0,Z⟩) x.1.aR.length x.2.2,V Y x.1.bZ] 85)).alloc (XS #[V Y 0,V Y 0,XK ⟨#[]⟩,V Y 0,XJ Z 0 0,V Y 0] 85)).cell? ((⟨x.2.1,0,Z⟩:Addr).add j)=U u:=by
  intro j u K;have ea:∀ j:M,((⟨x.2.1,0,Z⟩:Addr).add j)=⟨x.2.1,j,Z⟩:=by
   intro j;unfold Addr.add;split
   .rename_i h;subst h;rfl
   .simp
  rw[ea];obtain⟨i,hi,(⟨rfl,rfl⟩|⟨rfl,rfl⟩)⟩:=Q6 _ j u K
  .exact aT D (HS.out i hi).1
  .exact aT D (HS.out i hi).2
 have a1:((w.alloc (XS #[V Y x.1.id,V Y x.1.kind,XK x.1.bI,V Y x.1.aN,XJ (U ⟨x.2.1,0,Z⟩) x.1.aR.length x.2.2,V Y x.1.bZ] 85)).alloc (XS #[V Y 0,V Y 0,XK ⟨#[]⟩,V Y 0,XJ Z 0 0,V Y 0] 85)).heap[w.heap.size]?=U (XS #[V Y x.1.id,V Y x.1.kind,XK x.1.bI,V Y x.1.aN,XJ (U ⟨x.2.1,0,Z⟩) x.1.aR.length x.2.2,V Y x.1.bZ] 85) :=(Below.heap_alloc _ _ _ Xc).trans (dH _ _)
 have a2:((w.alloc (XS #[V Y x.1.id,V Y x.1.kind,XK x.1.bI,V Y x.1.aN,XJ (U ⟨x.2.1,0,Z⟩) x.1.aR.length x.2.2,V Y x.1.bZ] 85)).alloc (XS #[V Y 0,V Y 0,XK ⟨#[]⟩,V Y 0,XJ Z 0 0,V Y 0] 85)).heap[w.heap.size+1]?=U (XS #[V Y 0,V Y 0,XK ⟨#[]⟩,V Y 0,XJ Z 0 0,V Y 0] 85):=by have:=dH (w.alloc (XS #[V Y x.1.id,V Y x.1.kind,XK x.1.bI,V Y x.1.aN,XJ (U ⟨x.2.1,0,Z⟩) x.1.aR.length x.2.2,V Y x.1.bZ] 85)) (XS #[V Y 0,V Y 0,XK ⟨#[]⟩,V Y 0,XJ Z 0 0,V Y 0] 85);rwa [Zn] at this
 have NW:=aB p;have r:=aB (Yd D (Yd I (Yd a1 a2)));have x4:((w.alloc (XS #[V Y x.1.id,V Y x.1.kind,XK x.1.bI,V Y x.1.aN,XJ (U ⟨x.2.1,0,Z⟩) x.1.aR.length x.2.2,V Y x.1.bZ] 85)).alloc (XS #[V Y 0,V Y 0,XK ⟨#[]⟩,V Y 0,XJ Z 0 0,V Y 0] 85)).cell? ⟨w.heap.size,4,Z⟩=U (XJ (U ⟨x.2.1,0,Z⟩) x.1.aR.length x.2.2):=by simp[Yi,a1]
 clear D I p a1 a2;generalize ((w.alloc (XS #[V Y x.1.id,V Y x.1.kind,XK x.1.bI,V Y x.1.aN,XJ (U ⟨x.2.1,0,Z⟩) x.1.aR.length x.2.2,V Y x.1.bZ] 85)).alloc (XS #[V Y 0,V Y 0,XK ⟨#[]⟩,V Y 0,XJ Z 0 0,V Y 0] 85))=X at NW r x4 ⊢;go_wp2_with (first
  |(at_builtin;refine wpList_append_lies _ rfl _ _ 57 rfl w.heap.size 83 i0 _ 2 16 underlying57 W H G E rfl Xd (.slice Z 0 0) 0 [] rfl (World.ownsRow_nil _ _ _ _) ⟨x.2.1,0,Z⟩ x.1.aR.length x.2.2 (x.1.aR.flatMap lq) rfl (xP _) NW.out (by intro u K;obtain⟨s,_,hs⟩:=List.mem_flatMap.1 K;simp[lq] at hs;rcases hs with rfl|rfl <;> rfl) T Xk O (by have:=r.out.2.1;omega) X.heap.size rfl ?_;intro g cap w1 R q ab S;obtain⟨A,t⟩:=Rs q (by have:=r.out.2.1;omega) r.out.2.2.1 r.out.2.2.2;have b0:=s8 A;have b1:=sZ A;have b2:=uw A;have b3:=ux A;have b5:=s7 A;have b4:=uy A;have g4:=xA A;have r0:=s8 t;have r1:=sZ t;have r2:=uw t;have r3:=ux t;have r4:=uy t;have r5:=s7 t;have rf:=xA t))
 have hg:g=X.heap.size:=by
  rcases ab with e|e
  .simp[Za] at e
  .exact e
 have I:=r.out.2.1;have B:w1.ownsRow w.heap.size 83 2 (XJ (U ⟨g,0,Z⟩) x.1.aR.length cap) x.1.aR.length (x.1.aR.flatMap lq):=by simpa using R
 have f:XD w.heap.size w w1:=r.out.1.grown q r.out.1.size (fun k C=>by simp[Za] at C);have c:aH [w.heap.size,w.heap.size+1] w1 (((((((w1.setCell ⟨w.heap.size,4,Z⟩ (XJ (U ⟨g,0,Z⟩) x.1.aR.length cap)).setCell ⟨w.heap.size+1,0,Z⟩ (V Y x.1.id)).setCell ⟨w.heap.size+1,1,Z⟩ (V Y x.1.kind)).setCell ⟨w.heap.size+1,2,Z⟩ (XK x.1.bI)).setCell ⟨w.heap.size+1,3,Z⟩ (V Y x.1.aN)).setCell ⟨w.heap.size+1,4,Z⟩ (XJ (U ⟨g,0,Z⟩) x.1.aR.length cap)).setCell ⟨w.heap.size+1,5,Z⟩ (V Y x.1.bZ)) :=(((((((aH.refl _ w1).setCell (.inl Xc) _ _).setCell (.inl Xc) _ _).setCell (.inl Xc) _ _).setCell (.inl Xc) _ _).setCell (.inl Xc) _ _).setCell (.inl Xc) _ _).setCell (.inl Xc) _ _
 have aa:XD w.heap.size w (((((((w1.setCell ⟨w.heap.size,4,Z⟩ (XJ (U ⟨g,0,Z⟩) x.1.aR.length cap)).setCell ⟨w.heap.size+1,0,Z⟩ (V Y x.1.id)).setCell ⟨w.heap.size+1,1,Z⟩ (V Y x.1.kind)).setCell ⟨w.heap.size+1,2,Z⟩ (XK x.1.bI)).setCell ⟨w.heap.size+1,3,Z⟩ (V Y x.1.aN)).setCell ⟨w.heap.size+1,4,Z⟩ (XJ (U ⟨g,0,Z⟩) x.1.aR.length cap)).setCell ⟨w.heap.size+1,5,Z⟩ (V Y x.1.bZ)) :=⟨c.os.trans f.os,c.tape.trans f.tape,c.output.trans f.output,XV f.size c.size,fun k C=>(c.block k (zL C f.size) Xh).trans (f.block k C)⟩
 refine bodyPost_ret (v:=.agg #[V Y x.1.id,V Y x.1.kind,XK x.1.bI,V Y x.1.aN,XJ (U ⟨g,0,Z⟩) x.1.aR.length cap,V Y x.1.bZ]) (by simp[results,results125,go_sem,r0,r1,r2,r3,r4,r5]) rfl ⟨g,cap,rfl,(Cs B).2.off c Xh,by omega,YN S c.size,aa⟩
namespace aA
def mS(name:Xn)(a b:N)(e:aQ):Xq:=dB name e && decide (0<=gY a b e.aR)
end aA
structure ot(w wx:XA)(v:XC)(ys:J (aA.aQ × M × M)):Prop where
 own:wx.ownsRow w 85 6 v ys.length (ys.flatMap fg)
 sl:∀ y∈ys,iV wx y.2.1 y.1.aR/\w<=y.2.1/\y.2.1<wx/\v.ownBlock≠U y.2.1
 bw:XD w w wx
theorem ot.later{wx f:XA}{ys:J (aA.aQ × M × M)}(h:ot w wx v ys)(k:XD wx wx f):ot w f v ys :=⟨fH h.own k,fun y c=>⟨(h.sl y c).1.later k,(h.sl y c).2.1,YN (h.sl y c).2.2.1 k.size,(h.sl y c).2.2.2⟩,bV h.bw k aJ⟩
namespace dP
def before(fs:J N)(k i:M):Xq:=decide (fs.getD k 0<fs.getD i 0) || (decide (fs.getD k 0=fs.getD i 0) && decide (k<i))
def upto(fs:J N)(i n:M):M:=((List.range n).filter (fun k=>before fs k i)).length
def mP(fs:J N)(i:M):M:=upto fs i fs.length
theorem Ah(fs:J N)(i n:M):upto fs i (n+1)=upto fs i n+if before fs n i then 1 else 0:=by
 unfold upto;rw[List.range_succ,List.filter_append,Yy]
 cases h:before fs n i <;> simp[h]
theorem I5(fs:J N)(i:M):before fs i i=Xy:=by simp[before]
theorem Sg{a b c:M}(h:before fs a b=Xz)(k:before fs b c=Xz):before fs a c=Xz:=by simp[before] at *;omega
theorem I0(fs:J N){a b:M}(h:a≠b):before fs a b=Xz\/before fs b a=Xz:=by simp[before];omega
theorem Iv(fs:J N)(i:M):∀ n,upto fs i n<=n:=by grind[upto]
theorem Hr(fs:J N){i:M}:∀ {n},i<n->upto fs i n<n
 |0,h=>by omega
 |n+1,h=>by
  rw[Ah];by_cases e:i=n
  .subst e;rw[I5];have:=Iv fs i i;simp;omega
  .have:=Hr fs (i:=i) (n:=n) O
   split <;> omega
theorem CB(fs:J N)(h:i<fs.length):mP fs i<fs.length:=Hr fs h
theorem ID{fs:J N}{i j:M}(h:before fs i j=Xz):∀ n,upto fs i n+(if i<n then 1 else 0)<=upto fs j n
 |0=>by simp[upto]
 |n+1=>by
  have ih:=ID h n;rw[Ah,Ah];by_cases e:n=i
  .subst e;rw[I5,h];simp at ih ⊢;omega
  .have k:(if i<n+1 then 1 else 0:M)=(if i<n then 1 else 0):=by
    by_cases c:i<n
    .rw[Xu c,Xu O]
    .rw[Xt c,Xt O]
   rw[k];generalize (if i<n then 1 else 0:M)=q at ih ⊢
   cases f:before fs n i
   .simp only[X5,if_false]
    split <;> omega
   .rw[Sg f h];simp only[if_true];omega
theorem CZ(c:i<fs.length)(h:before fs i j=Xz):mP fs i<mP fs j:=by have:=ID h fs.length;rw[Xu c] at this;exact this
theorem CQ(k:i<fs.length)(f:j<fs.length)(h:mP fs i=mP fs j):i=j:=by
 by_cases e:i=j
 .exact e
 .rcases I0 fs e with c|c
  .have:=CZ k c;omega
  .have:=CZ f c;omega
end dP
theorem Ck:∀ (n:M)(l:J M),l.Nodup->(∀ x∈l,x<n)->l.length<=n
 |0,l,_,h=>by
  cases l with
  |nil=>simp
  |cons x l=>have:=h x Xc;omega
 |n+1,l,hd,h=>by
  by_cases c:n∈l
  .have r:=Ck n (l.erase n) (hd.erase n) (fun x f=>by
    have q:=List.mem_of_mem_erase f;have p:=h x q;have k:x≠n:=fun e=>by subst e;exact hd.not_mem_erase f
    omega)
   rw[List.length_erase_of_mem c] at r;omega
  .have:=Ck n l hd (fun x f=>by
    have p:=h x f;have k:x≠n:=fun e=>by subst e;exact c f
    omega)
   omega
theorem RF{l:J M}(f:l.Nodup)(h:∀ x∈l,x<n)(q:l.length=n):∀ k,k<n->k∈l:=by intro k r;apply ZV;intro c;have:=Ck n (k :: l) (List.nodup_cons.2 ⟨c,f⟩) (fun x p=>by grind);simp at this;omega
namespace dP
theorem Af(fs:J N){k:M}(p:k<fs.length):∃ i,i<fs.length/\mP fs i=k:=by
 have r:((List.range fs.length).map (mP fs)).Nodup:=by unfold List.Nodup;rw[List.pairwise_map];refine List.Pairwise.imp_of_mem ?_ (List.nodup_range (n:=fs.length));intro i j c q f e;exact f (CQ (List.mem_range.1 c) (List.mem_range.1 q) e)
 have:=RF r (fun x h=>by obtain⟨i,c,rfl⟩:=YP.1 h;exact CB fs (List.mem_range.1 c)) Xc k p
 let⟨i,c,e⟩:=YP.1 this;exact⟨i,List.mem_range.1 c,e⟩
end dP
namespace aA
def oe(a b:N)(x y:aQ):Prop:=gY a b x.aR<gY a b y.aR\/(gY a b x.aR=gY a b y.aR/\x.id<y.id)
theorem WU(a b:N)(x:aQ):¬ oe a b x x:=by unfold oe;omega
theorem La(a b:N)(x y z:aQ)(h:oe a b x y)(k:oe a b y z):oe a b x z:=by unfold oe at *;omega
def qm(a b:N)(l:J aQ):J N:=l.map fun e=>gY a b e.aR
theorem Da{a:N}{l:J aQ}(h:i<l.length):(qm a b l).getD i 0=gY a b l[i].aR:=by simp[qm,List.getD,h]
theorem Rm{a:N}{l out:J aQ}(A:eD l)(E:out.length=l.length)(h:∀ (i:M)(c:i<l.length),out[dP.mP (qm a b l) i]?=U l[i]):out.Pairwise (oe a b)/\∀ e,e∈out↔e∈l:=by
 have H:(qm a b l).length=l.length:=by simp[qm]
 have f:∀ (k:M),k<out.length->∃ (i:M) (c:i<l.length),dP.mP (qm a b l) i=k/\out[k]?=U l[i]:=by intro k u;let⟨i,c,e⟩:=dP.Af (qm a b l) (k:=k) O;rw[H] at c;exact⟨i,c,e,by rw[<- e];exact h i c⟩
 refine⟨?_,fun e=>⟨fun B=>?_,fun B=>?_⟩⟩
 .rw[List.pairwise_iff_getElem];intro p q D C G;let⟨i,c,e1,e2⟩:=f p D;let⟨j,hj,e3,e4⟩:=f q C;rw[Zv D] at e2;rw[Zv C] at e4;rw[Zo e2,Zo e4];have t:i≠j:=fun e=>by subst e;omega
  rcases dP.I0 (qm a b l) t with r|r
  .unfold dP.before at r;rw[Da c,Da hj] at r;simp at r;rcases r with r|⟨r,I⟩
   .exact .inl r
   .refine .inr ⟨r,?_⟩;have:=List.pairwise_iff_getElem.1 A i j (aU c) (aU hj) I
    simpa using this
  .have:=dP.CZ (fs:=qm a b l) O r;omega
 .obtain⟨k,u,rfl⟩:=List.getElem_of_mem B;let⟨i,c,_,e2⟩:=f k u;rw[Zv u] at e2;rw[Zo e2];exact zg c
 .obtain⟨i,c,rfl⟩:=List.getElem_of_mem B;exact List.mem_of_getElem? (h i c)
def jB(L:J (N × N)):Prop:=L.Pairwise fun s t=>s.1<t.1
theorem EW{a b:N}:∀ {L:J (N × N)},jB L->(∃ s∈L,mU a b s=Xz)->(∃ s∈L,mU a b s=Xz/\s.1=gY a b L)/\∀ t∈L,mU a b t=Xz->gY a b L<=t.1
 |[],_,h=>by grind
 |s :: r,hr,h=>by
  unfold jB at hr;rw[Yl] at hr;simp only[gY];by_cases c:mU a b s=Xz
  .rw[Xu c];refine⟨⟨s,by simp,c,rfl⟩,fun t ht _=>?_⟩;rcases X8.1 ht with rfl|ht
   .omega
   .have:=hr.1 t ht;omega
  .rw[Xt c]
   have p:∃ s∈r,mU a b s=Xz:=Xi;let⟨⟨t,k1,k2,k3⟩,k4⟩:=EW (a:=a) (b:=b) (L:=r) hr.2 p;refine⟨⟨t,by simp[k1],k2,k3⟩,fun u f k=>?_⟩;rcases X8.1 f with rfl|f
   .exact Xv k c
   .exact k4 u f k
theorem Mn{a b:N}:∀ {L:J (N × N)},(∀ s∈L,mU a b s=Xy)->gY a b L=-1
 |[],_=>rfl
 |s :: r,h=>by simp only[gY];rw[Xt (by rw[h s Xc];simp)];exact Mn (fun t ht=>h t (by simp[ht]))
theorem MT{a:N}(f:jB L)(k:∀ s∈L,0<=s.1):0<=gY a b L↔∃ s∈L,mU a b s=Xz:=by
 constructor
 .intro h;apply ZV;intro c
  have:gY a b L=-1:=Mn (fun s p=>by grind);omega
 .intro h;let⟨⟨s,k1,_,k3⟩,_⟩:=EW f h;have:=k s k1;omega
def wE(acc:J aF.It)(z:aF.It):J aF.It:=if acc.any fun u=>decide (u.n=z.n) then acc else acc++[z]
def uniq(c:J aF.It):J aF.It:=c.foldl wE []
theorem A7(c:J aF.It)(z:aF.It):uniq (c++[z])=wE (uniq c) z:=by unfold uniq;rw[Z5];rfl
theorem Ua:∀ (n:M)(p:J aF.It),p.length=n->aF.Ord p->aF.Ord (uniq p)/\(∀ u∈uniq p,u∈p)/\(∀ z∈p,∃ u∈uniq p,u.n=z.n/\(u=z\/aF.lt u z))/\((uniq p).map (·.n)).Nodup:=by
 intro n;induction n with
 |zero =>intro p t _;rw[List.length_eq_zero_iff.1 t];exact⟨List.Pairwise.nil,by simp[uniq],by simp,by simp[uniq]⟩
 |succ n ih =>
  intro p t q;obtain⟨K,z,rfl⟩:∃ K z,p=K++[z]:=⟨p.dropLast,p.getLast Xi,(List.dropLast_concat_getLast _).symm⟩;unfold aF.Ord at q;rw[ZU] at q;let⟨i1,i2,i3,i4⟩:=ih K (aU t) q.1;rw[A7];unfold wE;by_cases c:((uniq K).any fun u=>decide (u.n=z.n))=Xz
  .rw[Xu c];let⟨u,f,hc⟩:=Z4.1 c;refine⟨i1,fun u f=>by simp[i2 u f],fun y h=>?_,i4⟩;rcases X9.1 h with h|h
   .exact i3 y h
   .have:y=z:=aU h
    subst this;exact⟨u,f,by simpa using hc,.inr (q.2.2 u (i2 u f) y Xc)⟩
  .rw[Xt c];have r:∀ u∈uniq K,u.n≠z.n:=fun u f e=>c (Z4.2 ⟨u,f,by simp[e]⟩)
   refine⟨?_,fun u f=>?_,fun y h=>?_,?_⟩
   .unfold aF.Ord;rw[ZU]
    exact⟨i1,by simp,fun u f y h=>by grind⟩
   .rcases X9.1 f with f|f
    .simp[i2 u f]
    .simp at f;simp[f]
   .rcases X9.1 h with h|h
    .let⟨u,f,k⟩:=i3 y h;exact⟨u,by simp[f],k⟩
    .have:y=z:=aU h
     subst this;exact⟨y,by simp,rfl,.inl rfl⟩
   .rw[YT,List.nodup_append];refine⟨i4,by simp,fun x A y h e=>?_⟩;obtain⟨u,f,rfl⟩:=YP.1 A;simp at h;exact r u f (by rw[e,h])
def ju(name:Xn)(es:J aQ)(at_:N->M)(T:aF.S):Prop :=aF.Ord (aF.cW T)/\∀ z,z∈aF.cW T↔∃ e∈es,dB name e=Xz/\∃ s∈e.aR,z=⟨s.1,s.2,e.id,at_ e.id⟩
theorem T9{at_:N->M}{T:aF.S}{a:N}(h:ju name es at_ T)(K:eD es)(hr:∀ e∈es,jB e.aR)(h0:∀ e∈es,∀ s∈e.aR,0<=s.1){ys:J aQ}(hl:ys.length=(uniq (aF.meet a b T)).length)(R:∀ (i:M)(r:i<ys.length),ys[i]∈es/\ys[i].id=((uniq (aF.meet a b T))[i]'Xb).n):ys.Pairwise (oe a b)/\∀ e,e∈ys↔e∈es.filter (mS name a b):=by
 have hM:=aF.AU a b T h.1;have hO:aF.Ord (aF.meet a b T):=by rw[hM];exact aF.Mm _ h.1
 let⟨u1,u2,u3,u4⟩:=Ua _ (aF.meet a b T) rfl hO;have C:∀ z,z∈aF.meet a b T↔∃ e∈es,dB name e=Xz/\∃ s∈e.aR,mU a b s=Xz/\z=⟨s.1,s.2,e.id,at_ e.id⟩:=by intro z;rw[hM,ZX,h.2];constructor;rintro ⟨⟨e,B,G,s,p,rfl⟩,A⟩;exact⟨e,B,G,s,p,A,rfl⟩;rintro ⟨e,B,G,s,p,A,rfl⟩;exact⟨⟨e,B,G,s,p,rfl⟩,A⟩
 -- each item that is kept stands at its entry's first
 have fst:∀ u∈uniq (aF.meet a b T),∀ e∈es,e.id=u.n->dB name e=Xz/\u.f=gY a b e.aR/\∃ s∈e.aR,mU a b s=Xz:=by
  intro u H e k hn;obtain⟨e',B,G,s,p,A,rfl⟩:=(C u).1 (u2 u H);have:e=e':=K.one k B hn;subst this;refine⟨G,?_,s,p,A⟩;let⟨⟨t,t1,t2,t3⟩,t4⟩:=EW (hr e k) ⟨s,p,A⟩;have ab:=t4 s p A;let⟨u',hu',m1,E⟩:=u3 ⟨t.1,t.2,e.id,at_ e.id⟩ ((C _).2 ⟨e,k,G,t,t1,t2,rfl⟩);have I:u'=⟨s.1,s.2,e.id,at_ e.id⟩:=by
   have q:=u4;unfold List.Nodup at q;rw[List.pairwise_map] at q;apply ZV;intro aa;let⟨i,r,ei⟩:=List.getElem_of_mem hu';let⟨j,W,ej⟩:=List.getElem_of_mem H;have D:i≠j:=fun e=>by subst e;exact aa (ei.symm.trans ej)
   rcases Nat.lt_or_gt_of_ne D with c|c
   .have:=List.pairwise_iff_getElem.1 q i j r W c;rw[ei,ej] at this;exact this m1
   .have:=List.pairwise_iff_getElem.1 q j i W r c;rw[ei,ej] at this;exact this m1.symm
  subst I;show s.1=_;rcases E with E|E
  .have:=congrArg aF.It.f E;simp at this;omega
  .unfold aF.lt at E;simp at E;omega
 have X:∀ u∈uniq (aF.meet a b T),∀ e∈es,e.id=u.n->e∈es.filter (mS name a b):=by intro u H e k hn;let⟨B,_,p⟩:=fst u H e k hn;exact ZX.2 ⟨k,by simp[mS,B,(MT (hr e k) (h0 e k)).2 p]⟩
 refine⟨?_,fun e=>⟨fun k=>?_,fun k=>?_⟩⟩;rw[List.pairwise_iff_getElem];intro i j r W D;have o:=List.pairwise_iff_getElem.1 u1 i j O O D;let⟨a1,a2⟩:=R i r;let⟨b1,b2⟩:=R j W;have f1:=(fst _ (zg O) _ a1 a2).2.1;have f2:=(fst _ (zg O) _ b1 b2).2.1;unfold aF.lt at o;unfold oe;rw[<- f1,<- f2,a2,b2];exact o;obtain⟨i,r,rfl⟩:=List.getElem_of_mem k;let⟨a1,a2⟩:=R i r;exact X _ (zg O) _ a1 a2;let⟨he1,he2⟩:=ZX.1 k;simp only[mS,Zs,decide_eq_true_eq] at he2;let⟨s,s1,s2⟩:=(MT (hr e he1) (h0 e he1)).1 he2.2;let⟨u,H,m1,_⟩:=u3 _ ((C _).2 ⟨e,he1,he2.1,s,s1,s2,rfl⟩);let⟨i,r,ei⟩:=List.getElem_of_mem H;let⟨a1,a2⟩:=R i O;have:ys[i]'Xb=e:=K.one a1 he1 Xi;rw[<- this];exact zg _
theorem Bg(p:aQ->Xq)(h:eD es):eD (es.filter p):=by grind[eD]
end aA
namespace aA
theorem Fv{a b:Xn}:dI a b=Xz↔a.toList=b.toList:=by simp[dI]
theorem tX(a:Xn):dI a a=Xz:=Fv.2 rfl
theorem MH{a b c:Xn}(h:dI a b=Xz):dI c a=dI c b:=by unfold dI;rw[Fv.1 h]
def sq(a b:N)(x:aQ):J aQ->J aQ
 |[]=>[x]
 |y :: r=>if gY a b x.aR<gY a b y.aR\/(gY a b x.aR=gY a b y.aR/\x.id<y.id) then x :: y :: r else y :: sq a b x r
def tK(a b:N):J aQ->J aQ
 |[]=>[]
 |x :: r=>sq a b x (tK a b r)
theorem Ev{a b:N}{x z:aQ}:∀ {l:J aQ},z∈sq a b x l↔z=x\/z∈l:=by grind[sq,X8,Ev]
theorem Bs{a b:N}{z:aQ}:∀ {l:J aQ},z∈tK a b l↔z∈l:=by grind[tK,Ev,Bs,X8]
theorem JH{a b:N}{x:aQ}:∀ {l:J aQ},l.Pairwise (oe a b)->(∀ z∈l,z.id≠x.id)->(sq a b x l).Pairwise (oe a b)
 |[],_,_=>by simp[sq]
 |y :: r,h,hn=>by
  rw[Yl] at h;simp only[sq];split
  .rename_i c
   refine Yl.2 ⟨fun z f=>?_,Yl.2 h⟩;rcases X8.1 f with rfl|f
   .exact c
   .exact La a b x y z c (h.1 z f)
  .rename_i c
   refine Yl.2 ⟨fun z f=>?_,JH h.2 (fun z f=>hn z (by simp[f]))⟩;rcases Ev.1 f with rfl|f
   .have:=hn y Xc;unfold oe;omega
   .exact h.1 z f
theorem KA{a b:N}:∀ {l:J aQ},eD l->(tK a b l).Pairwise (oe a b)
 |[],_=>by simp[tK]
 |x :: r,h=>by let⟨h1,h2⟩:=h.cons;exact JH (KA h2) (fun z c=>by have:=h1 z (Bs.1 c);omega)
def nB(name:Xn)(a b:N)(es:J aQ):J aQ:=tK a b (es.filter (mS name a b))
theorem K5{a:N}{out:J aQ}(c:eD es)(h:out.Pairwise (oe a b))(f:∀ e,e∈out↔e∈es.filter (mS name a b)):out=nB name a b es :=F7 (WU a b) (La a b) h (KA (Bg _ c)) (fun e=>(f e).trans Bs.symm)
def eW(ts:J (Xn × N)):J aQ->J aQ->J aQ × J N
 |done,[]=>(done,[])
 |done,e :: r =>
  if e.kind=3/\eT ts (done++e :: r) e.bI e.aN e.aR=Xz then((eW ts (done++[ek e]) r).1,e.id :: (eW ts (done++[ek e]) r).2)
  else eW ts (done++[e]) r
def dS(ts:J (Xn × N))(es:J aQ):J aQ × J N:=eW ts [] es
def eL(tq:N):J aQ->N
 |[]=>tq
 |e :: r=>if e.kind≠1/\e.bZ<eL tq r then e.bZ else eL tq r
def cA(t:N)(e:aQ):Xq:=(e.kind != 1) && decide (e.bZ=t)
def gd(ts:J (Xn × N)):M->J aQ->N->N->J aQ × J N × J N
 |0,es,_,_=>(es,[],[])
 |k+1,es,now,tq =>
  if now<tq then let t:=eL tq es;let g:=dS ts (es.filter fun e=>!cA t e);let q:=gd ts k g.1 t tq;(q.1,(es.filter (cA t)).map (·.id)++q.2.1,g.2++q.2.2)
  else (es,[],[])
structure St where
 ts:J (Xn × N)
 es:J aQ
 given:N
 now:N
structure bT where
 err:N
 at_:N
 n:N
 entries:J aQ
 days:J N
 granted:J N
 ended:J N
def bT.error(e:N):bT:=⟨e,0,0,[],[],[],[]⟩
def bT.num(n:N):bT:=⟨0,0,n,[],[],[],[]⟩
inductive ja where
 |bI (name:Xn) (aN:Xs)
 |enter (kind:Xs) (name:Xn) (aN fr til long:Xs)
 |series (name:Xn) (aN:Xs) (r:Rd.cO)
 |bM (id:Xs)
 |cancel (id:Xs)
 |list (name:Xn) (fr til:Xs)
 |waiting
 |ef (name:Xn) (fr til:Xs)
 |find (name:Xn) (aN long fr til:Xs)
 |expand (r:Rd.cO)
 |tick (n:Xs)
 |clock
def lR(s:St)(e:aQ):St × bT:=(⟨s.ts,s.es++[{ e with id:=s.given+1 }],s.given+1,s.now⟩,bT.num (s.given+1))
def qF(s:St)(c:N)(name:Xn)(aN fr til long:N):N :=
 if eV s.ts name aN≠0 then eV s.ts name aN
 else if til<=fr\/1048320<s.now+long then 6
 else if s.given=60 then 5
 else if c=3 then (if fC s.es=6 then 5 else 0)
 else if eT s.ts s.es name aN [(fr,til)] then 0 else 8
def qB(s:St)(c:N)(name:Xn)(aN fr til long:N):aQ:=⟨0,c,name,aN,[(fr,til)],if c=1 then 0 else s.now+long⟩
def oH(s:St)(name:Xn)(aN:N)(r:Rd.cO):N :=
 if eV s.ts name aN≠0 then eV s.ts name aN
 else if Rd.iS r≠0 then Rd.iS r
 else if s.given=60 then 5
 else if eT s.ts s.es name aN (Rd.jc r (Rd.cM r)) then 0 else 8
def mW(id:N)(es:J aQ):Xp aQ:=es.find? fun e=>decide (e.id=id)
def aY(s:St):ja->St × bT
 |.bI name aN=>if cI name s.ts≠0 then (s,.error 4) else if s.ts.length=4 then (s,.error 5) else ({ s with ts:=s.ts++[(name,aN)] },.num 0)
 |.enter kind name aN fr til long=>if qF s kind name aN fr til long≠0 then (s,.error (qF s kind name aN fr til long)) else lR s (qB s kind name aN fr til long)
 |.series name aN r=>if oH s name aN r≠0 then (s,.error (oH s name aN r)) else lR s ⟨0,1,name,aN,Rd.jc r (Rd.cM r),0⟩
 |.bM id=>match mW id s.es with
  |none=>(s,.error 9)
  |some e=>if e.kind≠2 then (s,.error 10) else ({ s with es:=fc id s.es },.num 0)
 |.cancel id=>match mW id s.es with
  |none=>(s,.error 9)
  |some _=>({ s with es:=kept id s.es },.num 0)
 |.list name fr til=>if cI name s.ts=0 then (s,.error 3) else if til<=fr then (s,.error 6) else (s,{ bT.num 0 with entries:=nB name fr til s.es })
 |.waiting=>(s,{ bT.num 0 with entries:=s.es.filter fun e=>e.kind==3 })
 |.ef name fr til=>if cI name s.ts=0 then (s,.error 3) else if til<=fr then (s,.error 6) else (s,.num (nZ name s.es fr til))
 |.find name aN long fr til=>if eV s.ts name aN≠0 then (s,.error (eV s.ts name aN)) else if til<=fr then (s,.error 6) else (s,.num (kL s.ts s.es name aN long fr til))
 |.expand r=>if Rd.iS r≠0 then (s,.error (Rd.iS r)) else (s,{ bT.num (Rd.cM r).length with days:=Rd.cM r })
 |.tick n=>if 1048320<s.now+n then (s,.error 6) else let q:=gd s.ts (s.es.length+1) s.es s.now (s.now+n);({ s with es:=q.1,now:=s.now+n },{ bT.num (s.now+n) with granted:=q.2.2,ended:=q.2.1 })
 |.clock=>(s,.num s.now)
def jD(s:St)(l:ja):St × bT :=
 if (aY s l).2.err≠0 then aY s l
 else ({ (aY s l).1 with es:=(dS (aY s l).1.ts (aY s l).1.es).1 },{ (aY s l).2 with granted:=(aY s l).2.granted++(dS (aY s l).1.ts (aY s l).1.es).2 })
def kc:ja->Prop
 |.bI _ u=>1<=u/\u<=9
 |.enter k _ u fr til long=>(k=1/\long=0\/(k=2\/k=3)/\1<=long/\long<=1048320)/\1<=u/\u<=9/\0<=fr/\fr<=1048320/\0<=til/\til<=1048320
 |.series _ u r=>1<=u/\u<=9/\Rd.hH r
 |.bM id=>0<=id/\id<=9999999
 |.cancel id=>0<=id/\id<=9999999
 |.list _ fr til=>0<=fr/\fr<=1048320/\0<=til/\til<=1048320
 |.waiting=>True
 |.ef _ fr til=>0<=fr/\fr<=1048320/\0<=til/\til<=1048320
 |.find _ u long fr til=>1<=u/\u<=9/\1<=long/\long<=1048320/\0<=fr/\fr<=1048320/\0<=til/\til<=1048320
 |.expand r=>Rd.hH r
 |.tick n=>1<=n/\n<=1048320
 |.clock=>True
structure jq(now:N)(e:aQ):Prop where
 u1:1<=e.aN
 u9:e.aN<=9
 sl:e.aR.length<=40
 s0:e.aR≠[]
 sp:qR e.aR
 ri:jB e.aR
 kd:(e.kind=1/\e.bZ=0)\/((e.kind=2\/e.kind=3)/\now<e.bZ/\e.bZ<=1048320/\e.aR.length=1)
structure Inv(s:St):Prop where
 tl:s.ts.length<=4
 tu:∀ t∈s.ts,1<=t.2/\t.2<=9
 tn:s.ts.Pairwise fun t u=>dI t.1 u.1=Xy
 ids:eD s.es
 nJ:∀ e∈s.es,1<=e.id/\e.id<=s.given
 g0:0<=s.given
 g1:s.given<=60
 n0:0<=s.now
 n1:s.now<=1048320
 en:∀ e∈s.es,jq s.now e
 th:∀ e∈s.es,e.aN<=cI e.bI s.ts
 wa:fC s.es<=6
 no:∀ e∈s.es,e.kind=3->eT s.ts s.es e.bI e.aN e.aR=Xy
 wi:∀ name x,cP name x s.es<=cI name s.ts
end aA
end Go.Proofs.YtolaacmheeaadaaGreatDoor
