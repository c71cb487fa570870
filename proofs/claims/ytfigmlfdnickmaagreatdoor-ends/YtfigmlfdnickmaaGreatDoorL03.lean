import Derived.Test.YtfigmlfdnickmaaGreatDoorL02
import Derived.Test.YtfigmlfdnickmaaGreatDoorProg
import Derived.Maps.OwnSet
import Derived.Maps.OwnOps
import Derived.Maps.Views
import Derived.Lib.IndexMore
import Derived.Lib.IndexLaws
import Derived.Lib.FieldsP
import Derived.Lib.Split
import Derived.Lib.SplitLaws
set_option maxRecDepth 100000
set_option maxHeartbeats 8000000
open Go.Proofs.Tryz
open _root_ renaming ByteArray->XK,List->XL,Option->XM,Bool->XN,Nat->XP,Int->XQ,if_neg->XR,if_pos->XS,absurd->XT,Int->N,Nat->M,List->J
open Option renaming none->XU,some->XV,mem_toList->ZL,none->Z,some->U
open Bool renaming false->XW,true->XX,and_eq_true->ZR,eq_iff_iff->ZW,false_eq_true->Yr
open Go renaming World->XY,Value->XZ,Calls->X4,TypeId->X6
open Go.RowKit renaming Below->X0
open Go.World renaming cell?_setCell_same->Yy,block_lt_of_cell?->Yl,news_of_block->ZF,frozen?_of_block->ZJ,size_alloc->ZM,cell?->YF
open Nat renaming lt_of_lt_of_le->Zg,le_trans->Yk,zero_le->Zd,le_refl->Yi
open Go.Value renaming ownBlock->ZB,int->X7,pointer->X8,slice->X9,string->Ya,int->V
open List renaming mem_cons->Yu,mem_cons_of_mem->ZK,mem_append->Yv,flatMap_append->Zr,length_append->YZ,drop_eq_getElem_cons->ZH,drop_eq_nil_of_le->ZI,take_succ_eq_append_getElem->Zc,take_of_length_le->Ze,all_eq_false->ZS,mem_of_mem_take->Zj,foldl_cons->ZT,length_cons->Y0,getD_eq_getElem?_getD->ZU,getElem?_eq_getElem->ZV,drop_take->ZY,all_eq_true->ZZ,mem_iff_getElem?->Z4,getElem?_drop->Z5,getElem?_take->Z6,isPrefixOf->Z8,take_append_drop->Y8,length_map->ZE,pairwise_cons->YI,filter_cons->YK,cons_append->YH,append_assoc->YU,mem_map->Zh,length_take_le->Zk,map_append->Zl,flatMap_cons->Zp,getElem_cons_drop->Zq,length_take_of_le->Zs,getElem?_append_right->Zt,getElem?_append_left->Zn
open And renaming intro->Yz
open Option.some renaming inj->ZN
open Go.Maps renaming size->ZO,has->ZP
open Go.WideAt renaming IsKeyLit->ZQ
open Go.Lib renaming cut->ZX,occAt->Z7
open List.Pairwise renaming filter->YL
open Int renaming mul_nonneg->Y9
open Go.IntKind renaming i64->Yf,i64->Y
open Go.Ending renaming returned->Yg
open Go.Obj renaming cells->Yh
variable{name s:XK}{e z:Go.Proofs.YtfigmlfdnickmaaGreatDoor.aA.aO}{b fr given id level long m tq x y:XQ}{ts:XL (XK × XQ)}{L:XL (XQ × XQ)}{es:XL Go.Proofs.YtfigmlfdnickmaaGreatDoor.aA.aO}{acc fs:XL XQ}{F:XL XP}{l:XL UInt8}{cap d g i j n sz:XP}{c0 c1 c2 c3 c4 c5 key v:Go.Value}{w w' w1:Go.World}
namespace Go.Proofs.YtfigmlfdnickmaaGreatDoor
open Go.RowKit
def uC(w:XY)(d:M)(ts:J (XK × N))(f:J (aA.aO × M × M))(given now:N)(F:J M)(w':XY):Prop :=
 ∃ c,RD w' d ts f given now c/\(∀ k∈c,k∈F\/w<=k)/\aH F w w'
theorem RD.oB{p:J (aA.aO × M × M)}{now:N}(h:RD w d ts p given now F)(g:N):RD (w.setCell (d,2) g) d ts p g now F:=by
 let⟨v1,a1,a2,a3⟩:=h.tv;let⟨v2,b1,b2,b3⟩:=h.ev;have k:aH [d] w (w.setCell (d,2) g):=aH.bD ..
 exact⟨⟨v1,(aZ XA).trans a1,cV a2 k (fun b f=>by simpa using (a3 b f).2),a3⟩,⟨v2,(aZ XA).trans b1,cV b2 k (fun b f=>by simpa using (b3 b f).2),b3⟩,Yy _ _ _ h.c2,(aZ XA).trans h.c3,
  fun o=>(zF ..).trans (h.fz o),h.dF,fun x c=>⟨(h.sp x c).1.off k (by simp;intro e;exact (h.sp x c).2.1 (e ▸ h.dF)),(h.sp x c).2.1,Zg (h.sp x c).2.2 k.size⟩⟩
theorem fe{c e size:M}{p:J XZ}(h:w.ownsRow c e size v n p){b:M}(f:v.ownBlock=U b):b<w:=by
 rcases h.2 with ⟨rfl,_⟩|⟨g,cap,r,rfl,_,k,_⟩
 .simp[ZB] at f
 .simp[ZB] at f;subst f
  by_cases q:g<w
  .exact q
  .rw[Array.getElem?_eq_none O] at k;cases k
theorem aH.grown{w'':XY}{row:XM M}(h:aH F w w')(g:w'.grownBy w'' row)(q:∀ k,row=U k->k∈F\/w<=k):aH F w w'' :=
 ⟨g.os.trans h.os,g.tape.trans h.tape,g.output.trans h.output,Yk h.size g.size,fun k c f=>(g.block k (zL c h.size) (fun e=>by rcases q k e.symm with p|p;exact f p;omega)).trans (h.block k c f)⟩
theorem RD.mu{Y A:XY}{c:J (aA.aO × M × M)}{now:N}{x:aA.aO × M × M}(h:RD Y d ts c given now F)(cv:Y.cell? (d,1)=U v)(ho:Y.ownsRow 0 58 6 v c.length (c.flatMap eH))(q:∀ k,v.ownBlock=U k->k∈F/\k≠d)(k:aH (v.ownBlock.toList) Y A)(K:A.ownsRow 0 58 6 (X9 g (c.length+1) cap) (c.length+1) (c.flatMap eH++eH x))(X:v.ownBlock=U g\/Y<=g)(hx:gS Y x.2.1 x.1.aQ)(H:x.2.1 ∉ F)(G:x.2.1<Y):
  RD (A.setCell (d,1) (X9 g (c.length+1) cap)) d ts (c++[x]) given now (g :: F)/\aH (d :: v.ownBlock.toList) Y (A.setCell (d,1) (X9 g (c.length+1) cap)):=by
 obtain⟨W,a1,a2,T⟩:=h.tv;have t:=Yl _ _ h.c2;have t:d<Y:=t
 have B:g≠d:=by
  rcases X with e|e
  .exact (q g e).2
  .omega
 have r:d ∉ v.ownBlock.toList:=by
  intro e;have:v.ownBlock=U d:=by simpa using e
  exact (q d this).2 rfl
 have I:∀ b,W.ownBlock=U b->b ∉ d :: v.ownBlock.toList:=by
  intro b p e;rcases Yu.1 e with e|e
  .exact (T b p).2 e
  .have e:v.ownBlock=U b:=by simpa using e
   rcases ho.2 with ⟨rfl,_⟩|⟨g',aa,ac,rfl,_,hh,_⟩
   .simp[ZB] at e
   .simp[ZB] at e;subst e;exact ja a2 hh XC p
 have R:∀ y,y ∉ F->y ∉ d :: v.ownBlock.toList:=by
  intro y f e;rcases Yu.1 e with rfl|e
  .exact f h.dF
  .exact f (q y (by simpa using e)).1
 have C:aH (d :: v.ownBlock.toList) Y (A.setCell (d,1) (X9 g (c.length+1) cap)):=(k.mono (by intro y f;exact ZK _ f)).setCell (.inl XA) _ _
 have E:∀ y∈c++[x],gS Y y.2.1 y.1.aQ/\y.2.1 ∉ F/\y.2.1<Y:=by
  intro y f;rcases Yv.1 f with f|f
  .exact h.sp y f
  .have:y=x:=by simpa using f
   subst this;exact⟨hx,H,G⟩
 have S:∀ o u,Y.cell? (d,o)=U u->o≠1->(A.setCell (d,1) (X9 g (c.length+1) cap)).cell? (d,o)=U u:=by
  intro o u hu ab;exact (aZ XA).trans (k.cell r hu)
 refine⟨⟨⟨W,S 0 _ a1 O,cV a2 C I,fun b p=>⟨ZK _ (T b p).1,(T b p).2⟩⟩,⟨_,Yy _ _ _ (k.cell r cv),?_,?_⟩,S 2 _ h.c2 O,S 3 _ h.c3 O,fun o=>(zF ..).trans ((k.frozen r t).trans (h.fz o)),ZK _ h.dF,?_⟩,C⟩
 .rw[Zr,YZ];have e1:([x].flatMap eH)=eH x:=XA
  rw[e1];exact cV K (aH.bD ..) (fun b p=>by simp[ZB] at p;subst p;simpa using B)
 .intro b p;simp[ZB] at p;subst p;exact⟨by simp,B⟩
 .intro y f;obtain⟨y1,D,y3⟩:=E y f;refine⟨y1.off C (R _ D),fun e=>?_,Zg y3 C.size⟩;rcases Yu.1 e with e|e
  .rcases X with e2|e2
   .exact D (e ▸ (q g e2).1)
   .omega
  .exact D e
theorem Sr:(prog.info? 286).map (fun i=>(i.zero,i.size,i.bytes))=U (U (.agg #[V Y 0,V Y 0,X8 Z]),3,24):=XF
theorem Sp(d o:M)(v:XZ)(l:J Hp.Hi)(x:Hp.Hi)(w:XY)(h:HP w d o v l)(hh:Hp.gO l)(hl:l.length<=900):
  X4 prog 198 #[X8 (U ⟨d,o,Z⟩),V Y x.t,V Y x.n,X8 (U ⟨x.v,0,Z⟩)] w fun e w'=>e=Yg (.tuple #[])/\∃ p,mz w d o v p w'/\Hp.gO p/\p.Perm (l++[x]):=by
 obtain⟨i0,S,K,I,G⟩:=info_parts Sr;have c:=h.c;have fd:=h.fz;have H:=aC h;clear h
 go_in
 have B:d<w.heap.size:=Yl _ _ c;have r:d ∉ v.ownBlock.toList:=by intro e;exact H.out.ne (by simpa using e)
 go_wp2_with (first
  |(at_builtin;refine wpList_append_lies _ rfl _ _ 140 rfl 0 286 i0 _ 3 24 underlying140 S K I G rfl XC _ _ _ rfl (H.out.own.alloc _) ⟨w.heap.size,0,Z⟩ 1 1 (jb x) rfl rfl (ZF (cs:=(jb x).toArray) (cP w _)) (by simp[jb,Value.oneCell']) O XH O XA (w.heap.size+1) XA ?_;intro g cap w1 u f C aa;have E:aH (v.ownBlock.toList) w w1:=aH.grown ((aH.refl _ w).alloc _) f (fun k R=>.inl (ZL.2 R));have z1:=E.cell r c;have X:=(E.frozen (o:=o) r B).trans fd;clear f))
 have q:d≠g:=by
  rcases C with e|e
  .rintro rfl;exact H.out.ne e
  .omega
 have hz:HP (w1.setCell ⟨d,o,Z⟩ (X9 (U ⟨g,0,Z⟩) (l.length+1) cap)) d o (X9 (U ⟨g,0,Z⟩) (l++[x]).length cap) (l++[x]):=by
  have el:(l++[x]).length=l.length+1:=XA
  rw[el];refine⟨zm _ _ _ z1,?_,fun e=>q (by simpa[ZB] using e.symm),(zF ..).trans X⟩;rw[el,Zr];have e2:[x].flatMap jb=jb x:=XA
  rw[e2];exact cV u (aH.bD d _ o _) (fun b T=>by simp;rintro rfl;exact q (by simpa[ZB] using T.symm))
 have RS:=aC (Jh d o g cap (l++[x]) l.length _ hz XA (Hp.SC hh) XG);have A:=aC (Yz E C);clear hz u E C z1 X fd c;refine RS.out.mono ?_;rintro e w5 ⟨rfl,p,D,r'⟩
 have HF:Hid (∃ p,mz w d o v p w5/\Hp.gO p/\p.Perm (l++[x])):=by
  refine⟨p,⟨_,D.hp,fun b T=>?_,?_,fun o' ho=>?_,fun o'=>?_⟩,r',D.perm⟩
  .have:g=b:=by simpa[ZB] using T
   subst this;rcases A.out.2 with e|e
   .exact .inl e
   .exact .inr O
  .refine ((A.out.1.mono (by simp +contextual)).setCell (.inl XA) o _).trans' D.off (fun k R=>?_);have:k=g:=by simpa using R
   subst this;rcases A.out.2 with e|e
   .exact .inl (ZK _ (ZL.2 e))
   .exact .inr O
  .have W:=D.off.block d (by have:=A.out.1.size;simp;omega) (by simpa using q);exact (zo W).trans ((zS _ _ _ _ (by have:=ho;simp)).trans (zo (A.out.1.block d B r)))
  .have W:=D.off.block d (by have:=A.out.1.size;simp;omega) (by simpa using q);exact (ZJ W).trans ((zF ..).trans (ZJ (A.out.1.block d B r)))
 clear RS A D r'
 go_wp2
 go_end0
 exact⟨rfl,HF.out⟩
def fI{α:Type}(p:α->XN):J α->N->N
 |[],_=>-1
 |x :: r,i=>if p x then i else fI p r (i+1)
theorem xC{α:Type}(p:α->XN):∀ (l:J α)(i:N),(fI p l i=-1/\∀ x∈l,p x=XW)\/∃ (k:M)(h:k<l.length),fI p l i=i+k/\p l[k]=XX/\∀ (j:M)(u:j<k),p (l[j]'Xz)=XW
 |[],i=>.inl ⟨rfl,fun x A=>by simp at A⟩
 |x :: r,i=>by
  cases c:p x
  .rcases xC p r (i+1) with ⟨t,q⟩|⟨k,h,t,q,B⟩
   .exact .inl ⟨by simp[fI,c,t],fun y f=>by rcases Yu.1 f with rfl|f;exact c;exact q y f⟩
   .refine .inr ⟨k+1,by simp;omega,by simp[fI,c,t];omega,by simpa using q,fun j u=>?_⟩
    cases j with
    |zero=>simpa using c
    |succ j=>simpa using B j O
  .exact .inr ⟨0,by simp,by simp[fI,c],by simpa using c,fun j u=>by omega⟩
theorem Rm{α:Type}(p:α->XN)(l:J α):-1<=fI p l 0/\fI p l 0<l.length:=by
 rcases xC p l 0 with ⟨h,_⟩|⟨k,h,e,_⟩
 .omega
 .omega
theorem mz.from{w2:XY}{o:M}{f:J Hp.Hi}(h:mz w1 d o v f w2)(k:X0 w w w1)(p:d<w):mz w d o v f w2:=by
 let⟨v',h1,h2,h3,h4,h5⟩:=h;refine⟨v',h1,fun b r=>(h2 b r).imp id (fun e=>Yk k.size e),(aH.aD k).trans h3,fun c q=>(h4 c q).trans (zo (k.block d p)),fun c=>(h5 c).trans (ZJ (k.block d p))⟩
theorem Ub(x:Hp.Hi)(t n:N)(A B:M)(w:XY)(p:w.cell? (A,0)=U ↑t)(cb:w.cell? (B,0)=U ↑n):
  X4 prog 202 #[.agg #[x.t,V Y x.n,x.v],A,B] w fun e w'=>e=Yg (iH x t n==0)/\X0 w w w':=by
 have u:=aC (fun w'=>Ls x t n w');have c:X0 w w (w.alloc (Yh #[x.t,V Y x.n,x.v] 286)):=bC;have k:=aR c p;have h:=aR c cb;have q:=aC c;clear c
 go_in
 go_wp21
 refine aK (u _) fun w1 f=>?_;have r:=aC (bM q f aI);clear f k h
 go_wp21
 go_ret;exact⟨rfl,r⟩
theorem W7(l:J Hp.Hi)(t n:N)(v:XZ)(A B:M)(w:XY)(own:w.ownsRow 0 286 3 v l.length (l.flatMap jb))(ca:w.cell? (A,0)=U ↑t)(cb:w.cell? (B,0)=U ↑n)(hl:l.length<=1000):
  X4 prog 201 #[v,.func (.func 202) #[] #[A,B]] w fun e w'=>e=Yg (V Y (fI (fun x=>iH x t n==0) l 0))/\X0 w w w':=by
 have hv:∃ a cap,v=X9 a l.length cap:=by
  rcases own.2 with ⟨rfl,h⟩|⟨g,cap,_,rfl,_⟩
  .rw[h];exact⟨_,_,rfl⟩
  .exact⟨_,_,rfl⟩
 obtain⟨a,cap,rfl⟩:=hv;have E:=aC (Yz ca cb);have C:=aC own;clear ca cb own
 go_in
 go_wp21
 go_loopw [8] (fun i wx=>∃ k:M,k<=l.length/\i=V Y k/\fI (fun x=>iH x t n==0) l 0=fI (fun x=>iH x t n==0) (l.drop k) k/\X0 w w wx) (fun i _=>l.length-(intOf i).toNat)
 .exact⟨0,Zd _,rfl,rfl,Below.refl _ _⟩
 .obtain⟨k,hk,rfl,G,q⟩:=hrel;have S:=aC G;have W:=aC q
  by_cases f:k<l.length
  .have hi:(k:N)<(l.length:N):=O
   obtain⟨H,aa,e1⟩:=Joins.ownsRow_form C O;simp only[Value.slice.injEq,true_and] at e1;obtain⟨rfl,rfl⟩:=e1;have c:=eQ C q;have R:=(c.cellAt (k*3) O).trans (vx f (j:=0) O);have K:=(c.cellAt (k*3+1) O).trans (vx f (j:=1) O);have I:=(c.cellAt (k*3+2) O).trans (vx f (j:=2) O);simp only[jb,List.getElem?_cons_zero,List.getElem?_cons_succ] at R K I;have r:=aC (Ub l[k] t n A B wr (aR q E.1) (aR q E.2));have X:fI (fun x=>iH x t n==0) (l.drop k) k=if iH l[k] t n==0 then (k:N) else fI (fun x=>iH x t n==0) (l.drop (k+1)) ((k+1:M):N):=by rw[ZH f];rfl
   have ED:=aC X;clear X c q G
   cases p:(iH l[k] t n==0)
   .have D:Hid (fI (fun x=>iH x t n==0) l 0=fI (fun x=>iH x t n==0) (l.drop (k+1)) ((k+1:M):N)):=by show _=_;rw[S,ED,p];rfl
    rw[p] at r;clear p
    go_wp21
    refine r.mono ?_;rintro e w1 ⟨rfl,u⟩;have T:=aC (bM W u aI);clear u R K I r
    go_wp21
    go_roundw
    .exact⟨k+1,O,by go_num,D,T⟩
    .simp[intOf];omega
   .have D:Hid (fI (fun x=>iH x t n==0) l 0=k):=by show _=_;rw[S,ED,p];rfl
    rw[p] at r;clear p
    go_wp21
    refine r.mono ?_;rintro e w1 ⟨rfl,u⟩;have T:=aC (bM W u aI);clear u R K I r
    go_wp21
    go_ret;exact⟨iy D.symm,T⟩
  .have hi:¬ (k:N)<(l.length:N):=O
   have e:l.drop k=[]:=ZI O;have D:Hid (fI (fun x=>iH x t n==0) l 0=-1):=by show _=_;rw[S,e];rfl
   clear G q e
   go_wp21
   go_ret;exact⟨iy D.symm,W⟩
theorem Uk(d o:M)(v:XZ)(l:J Hp.Hi)(t n:N)(w:XY)(h:HP w d o v l)(hh:Hp.gO l)(hl:l.length<=1000):
  X4 prog 149 #[X8 (U ⟨d,o,Z⟩),t,n] w fun e w'=>e=Yg (.tuple #[]) /\
   (((∀ x∈l,¬ (x.t=t/\x.n=n))/\X0 w w w')\/∃ (x:Hp.Hi) (f:J Hp.Hi),x.t=t/\x.n=n/\mz w d o v f w'/\Hp.gO f/\l.Perm (x :: f)):=by
 have D:X0 w w ((w.alloc (Yh #[t] 3)).alloc (Yh #[n] 3)):=bC.alloc XA _;have p:=h.later D;have c:=p.c;have K:((w.alloc (Yh #[t] 3)).alloc (Yh #[n] 3)).cell? (w,0)=U ↑t:=XA
 have I:((w.alloc (Yh #[t] 3)).alloc (Yh #[n] 3)).cell? (w.heap.size+1,0)=U ↑n:=by
  have:=cP (w.alloc (Yh #[t] 3)) (Yh #[n] 3);rw[ZM] at this;simp only[YF,this];rfl
 have IX:=aC (W7 l t n v w (w.heap.size+1) _ p.own K I hl);have E:=aC (Yz D p);have C:d<w:=Yl _ _ h.c;have bd:=Rm (fun x=>iH x t n==0) l;have W:=xC (fun x=>iH x t n==0) l 0;clear D p K I h;generalize fI (fun x=>iH x t n==0) l 0=q at *;have u:=aC W;clear W
 go_in
 go_wp21
 generalize ((w.alloc (Yh #[t] 3)).alloc (Yh #[n] 3))=X at *;refine IX.mono ?_;rintro e w1 ⟨rfl,A⟩;have H:=aC (Yz (bM E.1 A aI) (E.2.later A));clear A IX c E
 by_cases h0:0<=q
 .obtain⟨k,B,e1,r,e3⟩:∃ (k:M) (h:k<l.length),q=k/\(iH l[k] t n==0)=XX/\True:=by
   rcases u with ⟨h,_⟩|⟨k,h,e,r,_⟩
   .omega
   .exact⟨k,h,O,r,trivial⟩
  subst e1;have RM:=aC (KD d o v l k w1 H.2 hh B hl);have HE:=aC r;clear r e3 u
  go_wp21
  refine RM.mono ?_;rintro e w2 ⟨rfl,f,T,S,R⟩
  have G:Hid (∃ (x:Hp.Hi) (f:J Hp.Hi),x.t=t/\x.n=n/\mz w d o v f w2/\Hp.gO f/\l.Perm (x :: f)):=by
   have r:iH l[k] t n=0:=by simpa using HE.out
   obtain⟨q1,q2⟩:=(JT _ _ _).1 r;refine⟨Hp.at_ l k,f,by rw[Hp.oq B];exact q1,by rw[Hp.oq B];exact q2,T.from H.1 C,S,R⟩
  clear T S R RM
  go_wp21
  go_end0
  exact⟨rfl,.inr G⟩
 .have G:Hid (∀ x∈l,¬ (x.t=t/\x.n=n)):=by
   rcases u with ⟨_,h⟩|⟨k,h,e,_⟩
   .intro x p e;have:=h x p;have e0:=(JT x t n).2 e;simp[e0] at this
   .omega
  clear u
  go_wp21
  go_end0
  exact⟨rfl,.inl ⟨G,H.1⟩⟩
open Go Go.Maps
def zh(o:XM M):XZ:=X8 (o.map fun b=>(b,0))
def kn(o:XM M):DataW Unit:=.lit (.int Y (match o with|none=>-1|some b=>(b:N)))
def qL:XZ->XM (DataW Unit × J MemPlace)
 |.pointer Z=>U (kn Z,[])
 |.pointer (U ⟨b,0,Z⟩)=>U (kn (U b),[])
 |_=>Z
theorem RN(o:XM M):qL (zh o)=U (kn o,[]):=by cases o <;> rfl
theorem Jg{a b:XM M}(h:kn a=kn b):a=b:=by
 unfold kn at h
 cases a <;> cases b <;> simp at h ⊢ <;> omega
theorem Tp{o:XM M}{c:J MemPlace}(h:qL v=U (kn o,c)):v=zh o:=by
 unfold qL at h
 split at h
 .have e:kn Z=kn o:=congrArg Prod.fst (ZN h);have:=Jg e;subst this;rfl
 .rename_i b
  have e:kn (U b)=kn o:=congrArg Prod.fst (ZN h);have:=Jg e;subst this;rfl
 .cases h
noncomputable def mC(f:Lit->XM M)(c:Lit)(o:XM M)(x:Lit):XM M:=@ite _ (x=c) (Classical.propDecidable _) o (f x)
theorem uu(f:Lit->XM M)(c:Lit)(o:XM M):mC f c o c=o:=XS rfl
theorem ux(f:Lit->XM M){c x:Lit}(o:XM M)(h:x≠c):mC f c o x=f x:=XR h
def fO(P:Program)(k:X6)(w:XY)(b n:M)(f:Lit->XM M)(sz:M):Prop :=
 ∃ D,w.ownsMap P k qL b n D/\ZO D=sz/\(∀ c,D.atKey c (kn Z)=kn (f c))/\∀ c,ZP D c=(f c).isSome
theorem fO.block{P:Program}{k:X6}{b:M}{f:Lit->XM M}(h:fO P k w b n f sz)(c:w'.heap[b]?=w.heap[b]?):fO P k w' b n f sz:=by
 let⟨D,⟨es,clock,h1,h2⟩,h3⟩:=h;exact⟨D,⟨es,clock,c.trans h1,h2⟩,h3⟩
theorem fO.tight{P:Program}{k:X6}{b:M}{f:Lit->XM M}(h:fO P k w b n f sz):fO P k w b sz f sz:=by
 let⟨D,⟨es,clock,h1,h2,h3,h4⟩,h5,h6⟩:=h;refine⟨D,⟨es,clock,h1,h2,?_,h4⟩,h5,h6⟩;rw[<- h5,h4,Maps.size_eq,length_sorted];simp
theorem fO.made(P:Program)(k:X6)(w:XY):fO P k (w.alloc (.map #[] 0)) w 0 (fun _=>Z) 0 :=
 ⟨.map [],World.ownsMap_made w P k qL,rfl,fun _=>rfl,fun _=>rfl⟩
theorem fO.look{P:Program}{k e t:X6}{b:M}{f:Lit->XM M}(h:fO P k w b n f sz)(K:Keyed P k)(ht:P.underlying t=U (.map k e))(q:(zeroValue e).run P w=.ok (X8 Z) w){p:Lit}(c:keyOf P k key=U p):
  (Instr.lookup t (.map (U b)) key XW).run P w=.ok (zh (f p)) w:=by
 let⟨D,h1,_,h3,_⟩:=h;let⟨v,ps,hrun,hv⟩:=h1.lookup K ht q (zd:=kn Z) (zp:=[]) rfl c;rw[h3] at hv;rw[hrun,Tp hv]
theorem fO.len{P:Program}{k e t:X6}{b:M}{f:Lit->XM M}(h:fO P k w b n f sz)(ht:P.underlying t=U (.map k e))(c:X6):(Builtin.len_ #[t] c #[.map (U b)]).run P w=.ok (V Y sz) w:=by
 let⟨D,h1,h2,_⟩:=h;rw[h1.len ht c,h2]
theorem fO.put{P:Program}{k:X6}{b:M}{f:Lit->XM M}{D:DataW Unit}{q:Lit}{p:M}(K:Keyed P k)(w:XY)(r:w.ownsMap P k qL b n D)(h:w'.ownsMap P k qL b (n+1) (D.put q (kn (U p))))(t:ZQ q)(A:∀ q,D.atKey q (kn Z)=kn (f q))(u:∀ q,ZP D q=(f q).isSome):
  fO P k w' b (n+1) (mC f q (U p)) (if (f q).isSome then ZO D else ZO D+1):=by
 refine⟨_,h,?_,fun x=>?_,fun x=>?_⟩
 .rw[Maps.size_put (r.tidy K),u]
 .by_cases c:x=q
  .rw[c,uu,Maps.atKey_put_same r.isMap t]
  .rw[ux f _ c,Maps.atKey_put_other c,A]
 .by_cases c:x=q
  .rw[c,uu,Maps.has_put_same r.isMap t];rfl
  .rw[ux f _ c,Maps.has_put_other c,u]
theorem fO.del{P:Program}{k:X6}{b:M}{f:Lit->XM M}{D:DataW Unit}{p:Lit}(K:Keyed P k)(w:XY)(r:w.ownsMap P k qL b n D)(h:w'.ownsMap P k qL b n (D.del p))(t:∀ p,D.atKey p (kn Z)=kn (f p))(q:∀ p,ZP D p=(f p).isSome):
  fO P k w' b n (mC f p Z) (ZO D-if (f p).isSome then 1 else 0):=by
 refine⟨_,h,?_,fun x=>?_,fun x=>?_⟩
 .have:=Maps.size_del (k:=p) (r.tidy K);rw[q] at this;omega
 .by_cases c:x=p
  .rw[c,uu,Maps.atKey_del_same]
  .rw[ux f _ c,Maps.atKey_del_other c,t]
 .by_cases c:x=p
  .rw[c,uu,Maps.has_del_same];rfl
  .rw[ux f _ c,Maps.has_del_other c,q]
theorem fO.na{P:Program}{k e t:X6}{b:M}{f:Lit->XM M}(h:fO P k w b n f sz)(K:Keyed P k)(ht:P.underlying t=U (.map k e)){p:Lit}(c:keyOf P k key=U p)(q:X6):
  ∃ w',(Builtin.delete_ #[t,k] q #[.map (U b),key]).run P w=.ok (.tuple #[]) w'/\fO P k w' b n (mC f p Z) (sz-if (f p).isSome then 1 else 0)/\w.grownBy w' (U b):=by
 let⟨D,h1,h2,h3,h4⟩:=h;let⟨w',hrun,r1,r2⟩:=h1.drop K ht c q;refine⟨w',hrun,?_,r2.grown⟩;rw[<- h2];exact fO.del K w h1 r1 h3 h4
theorem fO.kV{P:Program}{k e t:X6}{b:M}{f:Lit->XM M}(h:fO P k w b n f sz)(K:Keyed P k)(ht:P.underlying t=U (.map k e))(u:n<maxLen){r:Lit}(q:keyOf P k key=U r)(c:ZQ r)(p:M):
  ∃ w',(Instr.mapUpdate t (.map (U b)) key (zh (U p))).run P w=.ok () w'/\fO P k w' b (n+1) (mC f r (U p)) (if (f r).isSome then sz else sz+1)/\w.grownBy w' (U b):=by
 let⟨D,h1,h2,h3,h4⟩:=h;let⟨w',hrun,r1,r2⟩:=h1.update K ht u q (RN (U p));refine⟨w',hrun,?_,r2⟩;rw[<- h2];exact fO.put K w h1 r1 c h3 h4
section
variable {P:Program}(w:XY) {ops:Array Oper}{rest:XL Oper}{o:Oper}{a:Act}{Q:Exit->Act->XY->Prop}
end
end Go.Proofs.YtfigmlfdnickmaaGreatDoor
namespace Go.Proofs.YtfigmlfdnickmaaGreatDoor.Cal
def ah(y:N):N:=(y-1)*365+(y-1) / 4-(y-1) / 100+(y-1) / 400
def nc(y:N):XN:=y % 4==0 && (y % 100 != 0 || y % 400==0)
def lp(y:N):N:=if nc y then 1 else 0
def jv(m:N):N:=if m=2 then 28 else if m=4\/m=6\/m=9\/m=11 then 30 else 31
def gK(y m:N):N:=if m=2 then 28+lp y else jv m
def dA(y m:N):N :=
 if m<=1 then 0 else if m=2 then 31 else lp y+(if m=3 then 59 else if m=4 then 90 else if m=5 then 120 else if m=6 then 151 else if m=7 then 181 else if m=8 then 212 else if m=9 then 243 else if m=10 then 273 else if m=11 then 304 else if m=12 then 334 else 365)
def first:N:=-738885
def last:N:=2913173
def num(y m d:N):N:=first+ah y+dA y m+d-1
def ok(y m d:N):XN:=decide (1<=y/\y<=9999/\1<=m/\m<=12/\1<=d/\d<=gK y m)
theorem sA(y:N):0<=lp y/\lp y<=1:=by unfold lp;split <;> omega
theorem QU(y:N):lp y=1/\y % 4=0/\(y % 100≠0\/y % 400=0)\/lp y=0/\¬ (y % 4=0/\(y % 100≠0\/y % 400=0)):=by
 unfold lp
 cases h:nc y
 .right;refine⟨by simp,?_⟩;simp only[nc,Bool.and_eq_false_iff,Bool.or_eq_false_iff,beq_eq_false_iff_ne,bne_eq_false_iff_eq] at h;omega
 .left;refine⟨by simp,?_⟩;simp only[nc,ZR,Bool.or_eq_true,beq_iff_eq,bne_iff_ne] at h;exact h
theorem tR(y:N)(_h:1<=y):ah (y+1)=ah y+365+lp y:=by
 rcases QU y with ⟨e,c⟩|⟨e,c⟩ <;> rw[e] <;> unfold ah <;> omega
theorem tW(a b:N)(_h0:1<=a)(_h:a<=b):ah a<=ah b:=by unfold ah;omega
theorem Nv:ah 1=0:=XC
theorem zz:ah 10000=3652059:=XC
theorem I8(g:N)(_h:0<=g):ah (g*400 / 146097+1)<=g:=by unfold ah;omega
theorem ss(y:N)(_h1:1<=y)(_h2:y<=10000):0<=ah y/\ah y<=3652059:=by unfold ah;omega
theorem Ro(m:N):28<=jv m/\jv m<=31:=by unfold jv;(repeat' split) <;> omega
theorem pe(y m:N):28<=gK y m/\gK y m<=31:=by
 have:=sA y;have:=Ro m;unfold gK;split <;> omega
theorem Cx(m:N)(f:1<=m)(c:m<=12):m=1\/m=2\/m=3\/m=4\/m=5\/m=6\/m=7\/m=8\/m=9\/m=10\/m=11\/m=12:=O
theorem pT(y:N):dA y 1=0:=by simp[dA]
theorem qX(y m:N)(f:1<=m)(c:m<=12):dA y (m+1)=dA y m+gK y m:=by
 rcases Cx m f c with h|h|h|h|h|h|h|h|h|h|h|h <;> subst h <;> simp[dA,gK,jv] <;> omega
theorem wT(y:N):dA y 13=365+lp y:=by simp[dA];omega
theorem CB(y a:N)(k:M)(h:1<=a)(f:a+k<=13):dA y a<=dA y (a+k):=by
 induction k with
 |zero=>simp
 |succ k ih =>
  have c:=qX y (a+k) O O;have d:=pe y (a+k);have i:=ih O;rw[show a+((k+1:M):N)=a+k+1 from by omega,c];omega
theorem sC(y m:N)(c:1<=m)(f:m<=13):0<=dA y m/\dA y m<=365+lp y:=by
 have a:=CB y 1 (m-1).toNat O O;have b:=CB y m (13-m).toNat c O;rw[show (1:N)+((m-1).toNat:N)=m from by omega,pT] at a;rw[show m+((13-m).toNat:N)=13 from by omega,wT] at b;exact⟨a,b⟩
theorem Dl(y a b:N)(f:1<=a)(h:a<b)(k:b<=13):dA y a+gK y a<=dA y b:=by
 rw[<- qX y a f O];have c:=CB y (a+1) (b-(a+1)).toNat O O
 rwa [show (a+1)+((b-(a+1)).toNat:N)=b from by omega] at c
theorem iB(y m d:N):ok y m d=XX↔1<=y/\y<=9999/\1<=m/\m<=12/\1<=d/\d<=gK y m:=by simp[ok]
theorem xk(y m d:N)(h:ok y m d=XX):ah y<=num y m d-first/\num y m d-first<ah (y+1):=by
 let⟨h1,h2,h3,h4,h5,h6⟩:=(iB y m d).1 h;have a:=tR y h1;have b:=sC y m h3 O;have c:=qX y m h3 h4;have e:=sC y (m+1) O O;unfold num;omega
theorem TP(a b n:N)(f:1<=a)(c:1<=b)(r:ah a<=n)(q:n<ah (a+1))(p:ah b<=n)(k:n<ah (b+1)):a=b:=by
 by_cases h:a<b
 .have:=tW (a+1) b O O;omega
 .by_cases t:b<a
  .have:=tW (b+1) a O O;omega
  .omega
theorem TY(y a b n:N)(p:1<=a)(k:a<=12)(f:1<=b)(c:b<=12)(A:dA y a<=n)(u:n<dA y a+gK y a)(t:dA y b<=n)(r:n<dA y b+gK y b):a=b:=by
 by_cases h:a<b
 .have:=Dl y a b p h O;omega
 .by_cases q:b<a
  .have:=Dl y b a f q O;omega
  .omega
theorem one(y m d y' m' d':N)(h:ok y m d=XX)(f:ok y' m' d'=XX)(e:num y m d=num y' m' d'):y=y'/\m=m'/\d=d':=by
 have i:=xk y m d h;have c:=xk y' m' d' f;let⟨h1,h2,h3,h4,h5,h6⟩:=(iB y m d).1 h;let⟨g1,g2,g3,g4,g5,g6⟩:=(iB y' m' d').1 f;have k:y=y':=TP y y' (num y m d-first) h1 g1 i.1 i.2 (by rw[e];exact c.1) (by rw[e];exact c.2);subst k;unfold num at e;have p:m=m':=TY y m m' (dA y m+d-1) h3 h4 g3 g4 O O O O;subst p;exact⟨rfl,rfl,O⟩
theorem Cy(y m d:N)(h:ok y m d=XX):first<=num y m d/\num y m d<=last:=by
 let⟨h1,h2,h3,h4,h5,h6⟩:=(iB y m d).1 h;have i:=xk y m d h;have a:=tW (y+1) 10000 O O;have b:=ss y h1 O;have c:=zz;unfold first at i;unfold first last;omega
end Go.Proofs.YtfigmlfdnickmaaGreatDoor.Cal
namespace Go.Proofs.YtfigmlfdnickmaaGreatDoor.Cal
def yF(g:N):N:=if ah (g*400 / 146097+2)<=g then g*400 / 146097+2 else g*400 / 146097+1
def mF(y r:N):N:=if r<dA y 2 then 1 else if r<dA y 3 then 2 else if r<dA y 4 then 3 else if r<dA y 5 then 4 else if r<dA y 6 then 5 else if r<dA y 7 then 6 else if r<dA y 8 then 7 else if r<dA y 9 then 8 else if r<dA y 10 then 9 else if r<dA y 11 then 10 else if r<dA y 12 then 11 else 12
theorem Rv(g:N)(_h:0<=g):g<ah (g*400 / 146097+3):=by unfold ah;omega
theorem QZ(g:N)(h:0<=g):1<=yF g/\ah (yF g)<=g/\g<ah (yF g+1):=by
 have a:=I8 g h;have b:=Rv g h;unfold yF
 split
 .refine⟨O,by assumption,?_⟩;rw[show g*400 / 146097+2+1=g*400 / 146097+3 from by omega];exact b
 .refine⟨O,a,?_⟩;rw[show g*400 / 146097+1+1=g*400 / 146097+2 from by omega];omega
theorem QV(y r:N)(E:0<=r)(D:r<dA y 13):1<=mF y r/\mF y r<=12/\dA y (mF y r)<=r/\r<dA y (mF y r+1):=by
 have c1:=pT y;unfold mF
 by_cases C:r<dA y 2
 .rw[XS C];exact⟨O,O,O,C⟩
 rw[XR C]
 by_cases B:r<dA y 3
 .rw[XS B];exact⟨O,O,O,B⟩
 rw[XR B]
 by_cases A:r<dA y 4
 .rw[XS A];exact⟨O,O,O,A⟩
 rw[XR A]
 by_cases u:r<dA y 5
 .rw[XS u];exact⟨O,O,O,u⟩
 rw[XR u]
 by_cases t:r<dA y 6
 .rw[XS t];exact⟨O,O,O,t⟩
 rw[XR t]
 by_cases q:r<dA y 7
 .rw[XS q];exact⟨O,O,O,q⟩
 rw[XR q]
 by_cases p:r<dA y 8
 .rw[XS p];exact⟨O,O,O,p⟩
 rw[XR p]
 by_cases k:r<dA y 9
 .rw[XS k];exact⟨O,O,O,k⟩
 rw[XR k]
 by_cases h:r<dA y 10
 .rw[XS h];exact⟨O,O,O,h⟩
 rw[XR h]
 by_cases f:r<dA y 11
 .rw[XS f];exact⟨O,O,O,f⟩
 rw[XR f]
 by_cases c:r<dA y 12
 .rw[XS c];exact⟨O,O,O,c⟩
 rw[XR c];exact⟨O,O,O,D⟩
def yT(n:N):N:=yF (n+738885)
def mT(n:N):N:=mF (yT n) (n+738885-ah (yT n))
def dT(n:N):N:=n+738885-ah (yT n)-dA (yT n) (mT n)+1
theorem uK(n:N)(k:-738885<=n)(f:n<=2913173):ok (yT n) (mT n) (dT n)=XX/\num (yT n) (mT n) (dT n)=n:=by
 have ⟨a1,a2,a3⟩:=QZ (n+738885) O;have s:=tR (yF (n+738885)) a1
 have c:yF (n+738885)<=9999:=by
  by_cases h:yF (n+738885)<=9999
  .exact h
  .have:=tW 10000 (yF (n+738885)) O O;have:=zz;omega
 have p:=wT (yF (n+738885));have ⟨b1,b2,b3,b4⟩:=QV (yF (n+738885)) (n+738885-ah (yF (n+738885))) O O;have cs:=qX (yF (n+738885)) (mF (yF (n+738885)) (n+738885-ah (yF (n+738885)))) b1 b2;refine⟨(iB _ _ _).2 ?_,?_⟩
 .unfold dT mT yT;refine⟨a1,c,b1,b2,O,O⟩
 .unfold num dT mT yT first;omega
theorem Cu(y m d n:N)(h:ok y m d=XX)(e:num y m d=n):y=yT n/\m=mT n/\d=dT n:=by
 have b:=Cy y m d h;rw[e] at b;unfold first last at b;have ⟨h1,h2⟩:=uK n b.1 b.2;exact one y m d _ _ _ h h1 (by rw[e,h2])
end Go.Proofs.YtfigmlfdnickmaaGreatDoor.Cal
namespace Go.Proofs.YtfigmlfdnickmaaGreatDoor.aB
def tG(c:UInt8):XN:=decide (48<=(c.toNat:N)/\(c.toNat:N)<=57)
def ic(l:J UInt8):XN:=l.all tG
def nO(l:J UInt8):N:=l.foldl (fun n c=>n*10+((c.toNat:N)-48)) 0
def low(c:UInt8):XN:=decide (97<=(c.toNat:N)/\(c.toNat:N)<=122)
def oV(l:J UInt8):XN:=l.all low
def isNum(l:J UInt8):XN:=decide (1<=l.length/\l.length<=7) && ic l
def fQ(l:J UInt8):XN:=decide (1<=l.length/\l.length<=8) && oV l
theorem ud(c:UInt8):tG c=XX↔48<=(c.toNat:N)/\(c.toNat:N)<=57:=by simp[tG]
theorem zx(c:UInt8):low c=XX↔97<=(c.toNat:N)/\(c.toNat:N)<=122:=by simp[low]
theorem Ah(l:J UInt8)(c:UInt8):ic (l++[c])=(ic l && tG c):=by simp[ic]
theorem zO(l:J UInt8)(c:UInt8):oV (l++[c])=(oV l && low c):=by simp[oV]
theorem WM(l:J UInt8)(c:UInt8):nO (l++[c])=nO l*10+((c.toNat:N)-48):=by simp[nO]
theorem Ab(s:XK)(k:M)(h:k<s.size):s.data.toList.take (k+1)=s.data.toList.take k++[s[k]]:=by
 rw[Zc (by simpa using h)];rfl
theorem uh(s:XK)(k:M)(h:s.size<=k):s.data.toList.take k=s.data.toList:=Ze (by simpa using h)
theorem gI(s:XK):s.data.toList.length=s.size:=XA
theorem Lq(l:J UInt8)(k:M)(h:ic (l.take k)=XW):ic l=XW:=by
 unfold ic at *;rw[ZS] at *;let⟨x,hx,h⟩:=h;exact⟨x,Zj hx,h⟩
theorem J3(l:J UInt8)(k:M)(h:oV (l.take k)=XW):oV l=XW:=by
 unfold oV at *;rw[ZS] at *;let⟨x,hx,h⟩:=h;exact⟨x,Zj hx,h⟩
theorem Rh(l:J UInt8):∀ (k:M)(n:N),0<=n->n<10 ^ k->ic l=XX->0<=l.foldl (fun n c=>n*10+((c.toNat:N)-48)) n/\l.foldl (fun n c=>n*10+((c.toNat:N)-48)) n<10 ^ (k+l.length):=by
 induction l with
 |nil=>intro k n p h _;exact⟨p,h⟩
 |cons c l ih =>
  intro k n p h f;simp only[ic,List.all_cons,ZR] at f;have q:=(ud c).1 f.1;have:=ih (k+1) (n*10+((c.toNat:N)-48)) O (by rw[Int.pow_succ];omega) f.2;simp only[ZT,Y0];rw[show k+(l.length+1)=k+1+l.length from by omega];exact this
theorem II(l:J UInt8)(h:ic l=XX)(c:l.length<=7):0<=nO l/\nO l<=9999999:=by
 have b:=Rh l 0 0 O XC h;have q:∀ k:M,k<8->(10:N) ^ k<=10000000:=XC
 have p:=q (0+l.length) O;unfold nO;omega
theorem DG(h:1<=l.length)(f:l.length<=7)(c:ic l=XX):isNum l=XX:=by
 simp[isNum,h,f,c]
theorem zM(h:¬ (1<=l.length/\l.length<=7)):isNum l=XW:=by
 unfold isNum;rw[decide_eq_false h];rfl
theorem Dg(h:ic l=XW):isNum l=XW:=by simp[isNum,h]
theorem JX(l:J UInt8):isNum l=XX↔(1<=l.length/\l.length<=7)/\ic l=XX:=by simp[isNum]
theorem JE(h:1<=l.length)(f:l.length<=8)(c:oV l=XX):fQ l=XX:=by
 simp[fQ,h,f,c]
theorem zZ(h:¬ (1<=l.length/\l.length<=8)):fQ l=XW:=by
 unfold fQ;rw[decide_eq_false h];rfl
theorem I0(h:oV l=XW):fQ l=XW:=by simp[fQ,h]
def cY(l:J UInt8):N:=if isNum l then nO l else 0
theorem mB(l:J UInt8):0<=cY l/\cY l<=9999999:=by
 unfold cY
 split
 .rename_i h
  have:=(JX l).1 h;exact II l this.2 this.1.2
 .omega
end Go.Proofs.YtfigmlfdnickmaaGreatDoor.aB
namespace Go.Proofs.YtfigmlfdnickmaaGreatDoor.aB
def eI(s:XK)(i:M):N:=((s.data.toList.getD i 0).toNat:N)
theorem jL(s:XK)(i:M)(h:i<s.size):eI s i=(s[i].toNat:N):=by
 unfold eI;rw[ZU,ZV (by simpa using h)];rfl
def part(s:XK)(a b:M):J UInt8:=(s.extract a b).data.toList
def ef(s:XK):XN:=decide (s.size=5/\eI s 2=58/\isNum (part s 0 2)=XX/\isNum (part s 3 5)=XX/\cY (part s 0 2)<=23/\cY (part s 3 5)<=59)
def fZ(s:XK):N:=if ef s then cY (part s 0 2)*60+cY (part s 3 5) else 0
def js(s:XK):XN:=decide (s.size=10/\eI s 4=45/\eI s 7=45/\isNum (part s 0 4)=XX/\isNum (part s 5 7)=XX/\isNum (part s 8 10)=XX/\Cal.ok (cY (part s 0 4)) (cY (part s 5 7)) (cY (part s 8 10))=XX)
def fu(s:XK):N:=if js s then Cal.num (cY (part s 0 4)) (cY (part s 5 7)) (cY (part s 8 10)) else 0
def dC(s:XK):XN:=decide (js s=XX/\0<=fu s/\fu s<728)
theorem Aq(h:¬ (s.size=5/\eI s 2=58/\isNum (part s 0 2)=XX/\isNum (part s 3 5)=XX/\cY (part s 0 2)<=23/\cY (part s 3 5)<=59)):ef s=XW:=decide_eq_false h
theorem vp(h:¬ (s.size=10/\eI s 4=45/\eI s 7=45/\isNum (part s 0 4)=XX/\isNum (part s 5 7)=XX/\isNum (part s 8 10)=XX/\Cal.ok (cY (part s 0 4)) (cY (part s 5 7)) (cY (part s 8 10))=XX)):js s=XW:=decide_eq_false h
theorem Jw(c:s.size=5)(f:eI s 2=58):ef s=(isNum (part s 0 2) && isNum (part s 3 5) && decide (cY (part s 0 2)<=23) && decide (cY (part s 3 5)<=59)):=by
 rw[ZW];simp[ef,c,f,and_assoc]
theorem IB(c:s.size=10)(h:eI s 4=45)(f:eI s 7=45):js s=(isNum (part s 0 4) && isNum (part s 5 7) && isNum (part s 8 10) && Cal.ok (cY (part s 0 4)) (cY (part s 5 7)) (cY (part s 8 10))):=by
 rw[ZW];simp[js,c,h,f,and_assoc]
theorem zi(s:XK):0<=fZ s/\fZ s<=1439:=by
 unfold fZ
 split
 .rename_i h
  have h:=of_decide_eq_true h;have:=mB (part s 0 2);have:=mB (part s 3 5);omega
 .omega
theorem Ir(s:XK):-738885<=fu s/\fu s<=2913173:=by
 unfold fu
 split
 .rename_i h
  have h:=of_decide_eq_true h;have b:=Cal.Cy _ _ _ h.2.2.2.2.2.2;unfold Cal.first Cal.last at b;exact b
 .omega
end Go.Proofs.YtfigmlfdnickmaaGreatDoor.aB
namespace Go.Proofs.YtfigmlfdnickmaaGreatDoor.aB
open Go
def jB(s:XK):XN:=decide (s.size=16/\eI s 10=47/\js (s.extract 0 10)=XX/\ef (s.extract 11 16)=XX)
def lA(s:XK):N:=if jB s then fu (s.extract 0 10)*1440+fZ (s.extract 11 16) else 0
def jE(s:XK):XK:={ data:=(ZX s.data.toList [47]).fst.toArray }
def jF(s:XK):XK:={ data:=(ZX s.data.toList [47]).snd.fst.toArray }
def pO(s:XK):XN:=(ZX s.data.toList [47]).snd.snd
theorem pZ(s:XK)(a b:M):(s.extract a b).data.toList=(s.data.toList.take b).drop a:=by
 rw[ByteArray.data_extract,Array.toList_extract];simp[ZY]
theorem qT{t:XK}(h:s.data.toList=t.data.toList):s=t:=by
 cases s;cases t;simp only at h;congr;exact Array.toList_inj.1 h
theorem Ra(c:UInt8)(h:tG c=XX):c≠47:=by
 intro e;subst e;revert h;decide
theorem Dm(h:ic l=XX){c:UInt8}(f:c∈l):c≠47:=Ra c (by
 unfold ic at h;rw[ZZ] at h;exact h c f)
theorem EA(h:isNum l=XX):ic l=XX:=((JX l).1 h).2
theorem Wy(t:XK)(h:js t=XX):∀ j,j<10->t.data.toList[j]?≠U 47:=by
 have h:=of_decide_eq_true h;let⟨hs,b4,b7,n1,n2,n3,_⟩:=h;have r:=EA n1;have q:=EA n2;have p:=EA n3;unfold part at r q p;rw[pZ] at r q p;have K:t.data.toList.length=10:=by rw[gI];exact hs
 intro j E u;have f:j<t.data.toList.length:=O
 have e:t.data.toList[j]=47:=by
  rw[ZV f] at u;exact ZN u
 have C:j<4->False:=fun H=>Dm r (c:=t.data.toList[j]) (by
  rw[Z4];exact⟨j,by rw[Z5,Z6];simp[H]⟩) e
 have B:5<=j->j<7->False:=fun S G=>Dm q (c:=t.data.toList[j]) (by
  rw[Z4];exact⟨j-5,by rw[Z5,Z6];simp[show 5+(j-5)=j from by omega,G]⟩) e
 have A:8<=j->False:=fun R=>Dm p (c:=t.data.toList[j]) (by
  rw[Z4];exact⟨j-8,by rw[Z5,Z6];simp[show 8+(j-8)=j from by omega,E]⟩) e
 have g:∀ k:M,j=k->eI t k=47:=fun k D=>by
  subst D;unfold eI;rw[ZU,ZV f,e];rfl
 by_cases c4:j=4
 .have:=g 4 c4;omega
 .by_cases I:j=7
  .have:=g 7 I;omega
  .by_cases c1:j<4
   .exact C c1
   .by_cases c2:j<7
    .exact B O c2
    .exact A O
theorem C8(l:J UInt8)(i:M):Z7 l [47] i=XX↔l[i]?=U 47:=by
 unfold Z7;rw[<- List.head?_drop]
 cases l.drop i with
 |nil=>simp[Z8]
 |cons b r=>simp[Z8];exact eq_comm
theorem IA(p:s.size=16)(f:eI s 10=47)(t:js (s.extract 0 10)=XX):jE s=s.extract 0 10/\jF s=s.extract 11 16/\pO s=XX:=by
 have u:s.data.toList.length=16:=by rw[gI];exact p
 have h:s.data.toList[10]?=U 47:=by
  unfold eI at f;rw[ZU,ZV O] at f;rw[ZV O];have:(s.data.toList[10]'Xz).toNat=47:=by simpa using (by exact_mod_cast f:_)
  rw[show s.data.toList[10]'Xz=47 from UInt8.toNat_inj.1 (by simpa using this)]
 have r:Lib.index s.data.toList [47]=10:=Lib.index_first (i:=10) O ((C8 _ _).2 h) (fun j k=>by
  cases q:Z7 s.data.toList [47] j with
  |false=>rfl
  |true =>
   have:=Wy _ t j k;rw[pZ,List.drop_zero,Z6,XS k] at this
   exact XT ((C8 _ _).1 q) this)
 have c:ZX s.data.toList [47]=(s.data.toList.take 10,s.data.toList.drop 11,XX):=by
  unfold ZX;rw[r];rfl
 refine⟨qT ?_,qT ?_,?_⟩
 .simp only[jE,c,pZ];simp
 .simp only[jF,c,pZ];rw[Ze O]
 .simp[pO,c]
theorem Q9(s:XK):(pO s && js (jE s) && ef (jF s))=jB s/\(jB s=XX->fu (jE s)*1440+fZ (jF s)=lA s):=by
 have key:(pO s && js (jE s) && ef (jF s))=jB s:=by
  rw[ZW];constructor
  .intro h;simp only[ZR] at h;let⟨⟨hf,hd⟩,hm⟩:=h;have s1:(jE s).size=10:=(of_decide_eq_true hd).1;have u:(jF s).size=5:=(of_decide_eq_true hm).1
   have c:0<=Lib.index s.data.toList [47]:=by
    by_cases c:0<=Lib.index s.data.toList [47]
    .exact c
    .simp[pO,ZX,c] at hf
   let⟨i,hi'⟩:=Int.eq_ofNat_of_zero_le c;have B:=Lib.index_room s.data.toList [47] c
   have t:ZX s.data.toList [47]=(s.data.toList.take i,s.data.toList.drop (i+1),XX):=by
    unfold ZX;rw[XS c,hi'];simp
   have k:s.data.toList[i]?=U 47:=by
    rcases Lib.index_spec s.data.toList [47] with ⟨h,_⟩|⟨j,D,_,C,_⟩
    .omega
    .rw[hi'] at D;have:i=j:=O
     subst this;exact (C8 _ _).1 C
   rw[hi'] at B;simp only[List.length_singleton,gI] at B
   have G:min i s.size=10:=by
    rw[<- gI] at s1;simp only[jE,t] at s1;simpa using s1
   have E:s.size-(i+1)=5:=by
    rw[<- gI] at u;simp only[jF,t] at u;simpa using u
   have A:i=10:=O
   have f:s.size=16:=O
   subst A;have r:jE s=s.extract 0 10:=qT (by simp only[jE,t,pZ];simp);have q:jF s=s.extract 11 16:=qT (by simp only[jF,t,pZ];rw[Ze (by rw[gI];omega)]);rw[r] at hd;rw[q] at hm
   have p:eI s 10=47:=by
    unfold eI;rw[ZU,k];rfl
   exact decide_eq_true ⟨f,p,hd,hm⟩
  .intro h;let⟨f,p,hd,hm⟩:=of_decide_eq_true h;let⟨r,q,a3⟩:=IA f p hd;rw[r,q,a3,hd,hm];rfl
 refine⟨key,fun h=>?_⟩;let⟨f,p,hd,_⟩:=of_decide_eq_true h;let⟨r,q,_⟩:=IA f p hd;rw[r,q];simp[lA,h]
end Go.Proofs.YtfigmlfdnickmaaGreatDoor.aB
namespace Go.Proofs.YtfigmlfdnickmaaGreatDoor.aB
open Go
def nm(b:XN)(pos:M)(x:J (M × M) × XM M):J (M × M) × XM M :=
 if b then (match x.2 with|some a=>(x.1++[(a,pos)],Z)|none=>(x.1,Z)) else (x.1,U (x.2.getD pos))
def fG(s:XK):M->J (M × M) × XM M
 |0=>([],Z)
 |k+1=>nm (decide (eI s k=32)) k (fG s k)
def aU(s:XK):J XK:=(Lib.closeSpans s (fG s s.size)).map fun x=>s.extract x.1 x.2
theorem KX(s:XK)(i:M)(h:i<s.size):(s.get! i).toNat=(eI s i).toNat:=by
 unfold eI;rw[ZU,ZV (by simpa using h)];simp only[Option.getD_some,Int.toNat_natCast]
 congr 1
 cases s with
 |mk a=>simp only[ByteArray.get!];rw[getElem!_pos a i h];simp
theorem WB(s:XK)(i:M)(h:i<s.size):
  ((s.get! i).toNat<128/\Utf8.decode s i=((s.get! i).toNat,1)) \/
  (128<=(Utf8.decode s i).1/\1<=(Utf8.decode s i).2/\∀ j,j<(Utf8.decode s i).2->128<=(s.get! (i+j)).toNat/\i+j<s.size):=by
 unfold Utf8.decode;simp only[Nat.add_zero]
 by_cases f:(s.get! i).toNat<128
 .left;exact⟨f,by rw[XS O]⟩
 .right;rw[XR O]
  have one:∀ j,j<1->128<=(s.get! (i+j)).toNat/\i+j<s.size:=fun j c=>by
   obtain rfl:j=0:=O
   exact⟨by simpa using f,O⟩
  split
  .rename_i hc
   simp only[ZR,decide_eq_true_eq,beq_iff_eq] at hc
   split
   .refine⟨by simp only;omega,by simp,fun j c=>?_⟩;simp only at c;rcases (show j=0\/j=1 by omega) with rfl|rfl
    .exact one 0 O
    .exact⟨O,O⟩
   .exact⟨by simp[Utf8.runeError],by simp,one⟩
  .split
   .rename_i hc
    simp only[ZR,decide_eq_true_eq,beq_iff_eq] at hc
    split
    .rename_i hv
     simp only[ZR,decide_eq_true_eq] at hv;refine⟨by simp only;omega,by simp,fun j c=>?_⟩;simp only at c;rcases (show j=0\/j=1\/j=2 by omega) with rfl|rfl|rfl
     .exact one 0 O
     .exact⟨O,O⟩
     .exact⟨O,O⟩
    .exact⟨by simp[Utf8.runeError],by simp,one⟩
   .split
    .rename_i hc
     simp only[ZR,decide_eq_true_eq,beq_iff_eq] at hc
     split
     .rename_i hv
      simp only[ZR,decide_eq_true_eq] at hv;refine⟨by simp only;omega,by simp,fun j c=>?_⟩;simp only at c;rcases (show j=0\/j=1\/j=2\/j=3 by omega) with rfl|rfl|rfl|rfl
      .exact one 0 O
      .exact⟨O,O⟩
      .exact⟨O,O⟩
      .exact⟨O,O⟩
     .exact⟨by simp[Utf8.runeError],by simp,one⟩
    .exact⟨by simp[Utf8.runeError],by simp,one⟩
theorem RV(s:XK)(pos:M):∀ n:M,(∀ j,j<n+1->eI s (pos+j)≠32)->fG s (pos+(n+1))=((fG s pos).1,U ((fG s pos).2.getD pos)):=by
 intro n
 induction n with
 |zero =>
  intro h;have:=h 0 O;simp only[Nat.add_zero] at this;show nm _ pos (fG s pos)=_;rw[decide_eq_false this];rfl
 |succ n ih =>
  intro h;have i:=ih (fun j c=>h j O);have:=h (n+1) O;show nm (decide (eI s (pos+(n+1))=32)) (pos+(n+1)) (fG s (pos+(n+1)))=_;rw[decide_eq_false this,i];rfl
theorem SU(s:XK):∀ (f pos:M),pos<=s.size->s.size-pos<=f->Lib.spansFromP (fun r=>r==32) s f pos (fG s pos).2 (fG s pos).1=fG s s.size:=by
 intro f
 induction f with
 |zero =>
  intro pos E D;obtain rfl:pos=s.size:=O
  rfl
 |succ f ih =>
  intro pos E D
  by_cases c:pos<s.size
  .unfold Lib.spansFromP;rw[XS c];rcases WB s pos c with ⟨K,C⟩|⟨I,H,t⟩
   .rw[C];simp only;have G:=KX s pos c;have u:0<=eI s pos:=by unfold eI;omega
    have i:=ih (pos+1) O O;have st:fG s (pos+1)=nm (decide (eI s pos=32)) pos (fG s pos):=rfl
    by_cases k:eI s pos=32
    .have e:((s.get! pos).toNat==32)=XX:=by rw[beq_iff_eq];omega
     rw[e,XS rfl];rw[decide_eq_true k] at st
     cases h:(fG s pos).2 with
     |none=>simp only;rw[st] at i;simp only[nm,h,if_true] at i;exact i
     |some a=>simp only;rw[st] at i;simp only[nm,h,if_true] at i;exact i
    .have e:((s.get! pos).toNat==32)=XW:=by rw[beq_eq_false_iff_ne];omega
     rw[e,XR XC];rw[decide_eq_false k] at st
     cases h:(fG s pos).2 with
     |none=>simp only;rw[st] at i;simp only[nm,h,Yr,if_false,Option.getD_none] at i;exact i
     |some a=>simp only;rw[st] at i;simp only[nm,h,Yr,if_false,Option.getD_some] at i;exact i
   .have e:((Utf8.decode s pos).1==32)=XW:=by rw[beq_eq_false_iff_ne];omega
    rw[e,XR XC];obtain⟨n,A⟩:∃ n,(Utf8.decode s pos).2=n+1:=⟨(Utf8.decode s pos).2-1,O⟩;have p:=t ((Utf8.decode s pos).2-1) O
    have st:=RV s pos n (fun j B=>by
     have q:=t j O;have G:=KX s (pos+j) q.2;have u:0<=eI s (pos+j):=by unfold eI;omega
     omega)
    have i:=ih (pos+(n+1)) O O;rw[st] at i;rw[A]
    cases h:(fG s pos).2 with
    |none=>simp only;simp only[h,Option.getD_none] at i;exact i
    |some a=>simp only;simp only[h,Option.getD_some] at i;exact i
  .obtain rfl:pos=s.size:=O
   unfold Lib.spansFromP;rw[XR c]
theorem WD(s:XK):Lib.goFieldsP (fun r=>r==32) s=aU s:=by
 unfold Lib.goFieldsP Lib.spansOfP aU;have:=SU s s.size 0 (zN _) O;rw[show (fG s 0).2=Z from rfl,show (fG s 0).1=[] from rfl] at this;rw[this]
end Go.Proofs.YtfigmlfdnickmaaGreatDoor.aB
namespace Go.Proofs.YtfigmlfdnickmaaGreatDoor.aB
open Go
def fl(s:XK)(k:M):XK:=match (fG s k).2 with|none=>⟨#[]⟩|some a=>s.extract a k
def kF(s:XK)(k:M):J XK:=(fG s k).1.map fun x=>s.extract x.1 x.2
theorem zJ(s:XK):∀ (k a:M),(fG s k).2=U a->a<k
 |0,a,h=>by simp[fG] at h
 |k+1,a,h=>by
  simp only[fG,nm] at h
  split at h
  .split at h <;> simp at h
  .simp only[Option.some.injEq] at h
   cases c:(fG s k).2 with
   |none=>rw[c] at h;simp at h;omega
   |some b=>rw[c] at h;simp at h;have:=zJ s k b c;omega
theorem sY(a b:XK):(a++b).data.toList=a.data.toList++b.data.toList:=by
 rw[ByteArray.data_append,Array.toList_append]
theorem Rg(s:XK)(a k:M)(h:a<=k):s.extract a k++s.extract k (k+1)=s.extract a (k+1):=by
 apply qT;rw[sY,pZ,pZ,pZ]
 have f:(s.data.toList.take k).drop a=((s.data.toList.take (k+1)).drop a).take (k-a):=by
  rw[ZY,ZY,List.take_take,show min (k-a) (k+1-a)=k-a from by omega]
 have c:(s.data.toList.take (k+1)).drop k=((s.data.toList.take (k+1)).drop a).drop (k-a):=by
  rw[List.drop_drop,show a+(k-a)=k from by omega]
 rw[f,c,Y8]
theorem zG(s:XK)(k:M):(fl s k).size<=k:=by
 unfold fl
 split
 .exact zN _
 .have:∀ a b,(s.extract a b).size=min b s.size-a:=fun a b=>ByteArray.size_extract ..
  rw[this];omega
theorem Ud(b:XK):(⟨#[]⟩:XK)++b=b:=by
 apply qT;rw[sY];rfl
theorem zE(s:XK)(k:M)(h:eI s k≠32):fl s k++s.extract k (k+1)=fl s (k+1)/\kF s (k+1)=kF s k:=by
 have e:fG s (k+1)=((fG s k).1,U ((fG s k).2.getD k)):=by simp only[fG,nm,decide_eq_false h];rfl
 refine⟨?_,by unfold kF;rw[e]⟩;unfold fl;rw[e]
 cases c:(fG s k).2 with
 |none=>simp only[Option.getD_none];exact Ud _
 |some a=>simp only[Option.getD_some];exact Rg s a k (Nat.le_of_lt (zJ s k a c))
theorem zP(s:XK)(k:M)(q:k<=s.size)(h:eI s k=32):fl s (k+1)=⟨#[]⟩/\kF s (k+1)=kF s k++(if (fl s k).size=0 then [] else [fl s k]):=by
 have e:fG s (k+1)=nm XX k (fG s k):=by simp only[fG,decide_eq_true h]
 cases f:(fG s k).2 with
 |none =>
  have p:fG s (k+1)=((fG s k).1,Z):=by rw[e];simp[nm,f]
  have c:fl s k=⟨#[]⟩:=by unfold fl;rw[f]
  refine⟨by unfold fl;rw[p],?_⟩;rw[c];unfold kF;rw[p];simp;rfl
 |some a =>
  have p:fG s (k+1)=((fG s k).1++[(a,k)],Z):=by rw[e];simp[nm,f]
  have c:fl s k=s.extract a k:=by unfold fl;rw[f]
  have lt:=zJ s k a f;have sz:(s.extract a k).size=min k s.size-a:=ByteArray.size_extract ..;refine⟨by unfold fl;rw[p],?_⟩;rw[c,XR O];unfold kF;rw[p];simp
theorem xe(s:XK):aU s=kF s s.size++(if (fl s s.size).size=0 then [] else [fl s s.size]):=by
 unfold aU kF fl Lib.closeSpans
 cases c:(fG s s.size).2 with
 |none=>simp;rfl
 |some a =>
  have lt:=zJ s _ a c;have sz:(s.extract a s.size).size=min s.size s.size-a:=ByteArray.size_extract ..;simp only;rw[XR O];simp
theorem sD(s:XK):∀ k:M,(kF s k).length<=k
 |0=>zq _
 |k+1=>by
  have ih:=sD s k;unfold kF at *;rw[ZE] at *;simp only[fG,nm]
  split
  .split <;> simp <;> omega
  .simp;omega
end Go.Proofs.YtfigmlfdnickmaaGreatDoor.aB
namespace Go.Proofs.YtfigmlfdnickmaaGreatDoor.aB
open Go
def ek(l:J UInt8):N :=
 if l==[109,111] then 0 else if l==[116,117] then 1 else if l==[119,101] then 2 else if l==[116,104] then 3 else if l==[102,114] then 4 else if l==[115,97] then 5 else if l==[115,117] then 6 else -1
theorem zk(l:J UInt8):-1<=ek l/\ek l<=6:=by
 unfold ek;(repeat' split) <;> omega
theorem U8(h:0<=ek l):l=[109,111]\/l=[116,117]\/l=[119,101]\/l=[116,104]\/l=[102,114]\/l=[115,97]\/l=[115,117]:=by
 unfold ek at h
 by_cases c0:(l==[109,111])=XX
 .exact .inl (beq_iff_eq.1 c0)
 .rw[XR c0] at h
  by_cases c1:(l==[116,117])=XX
  .exact .inr (.inl (beq_iff_eq.1 c1))
  .rw[XR c1] at h
   by_cases c2:(l==[119,101])=XX
   .exact .inr (.inr (.inl (beq_iff_eq.1 c2)))
   .rw[XR c2] at h
    by_cases c3:(l==[116,104])=XX
    .exact .inr (.inr (.inr (.inl (beq_iff_eq.1 c3))))
    .rw[XR c3] at h
     by_cases c4:(l==[102,114])=XX
     .exact .inr (.inr (.inr (.inr (.inl (beq_iff_eq.1 c4)))))
     .rw[XR c4] at h
      by_cases c5:(l==[115,97])=XX
      .exact .inr (.inr (.inr (.inr (.inr (.inl (beq_iff_eq.1 c5))))))
      .rw[XR c5] at h
       by_cases c:(l==[115,117])=XX
       .exact .inr (.inr (.inr (.inr (.inr (.inr (beq_iff_eq.1 c))))))
       .rw[XR c] at h;omega
theorem Rz(h:0<=ek l):l.length=2/\44 ∉ l:=by
 rcases U8 h with rfl|rfl|rfl|rfl|rfl|rfl|rfl <;> decide
theorem xx(h:¬ (l.length=2/\44 ∉ l)):ek l=-1:=by
 have b:=zk l
 by_cases g:0<=ek l
 .exact XT (Rz g) h
 .omega
def kM(acc:J N)(d:N):XM (J N):=if 0<=d/\acc.contains d=XW then U (d :: acc) else Z
def oE:J (J UInt8)->J N->XM (J N)
 |[],acc=>U acc
 |p :: ps,acc=>(kM acc (ek p)).bind (oE ps)
def je:J UInt8->J N->XM (J N)
 |[a,b],acc=>kM acc (ek [a,b])
 |a :: b :: c :: r,acc=>if c=44 then (kM acc (ek [a,b])).bind (je r) else Z
 |_,_=>Z
def sp:J UInt8->J (J UInt8)
 |[]=>[[]]
 |c :: l=>if c=44 then [] :: sp l else (match sp l with| []=>[[c]]|p :: ps=>(c :: p) :: ps)
theorem xD(acc:J N):kM acc (-1)=Z:=by simp[kM]
theorem QY(l:J UInt8):sp l≠[]:=by
 cases l with
 |nil=>simp[sp]
 |cons c l=>unfold sp;split;simp;split <;> simp
theorem sW{p:J UInt8}(c:J (J UInt8))(acc:J N)(h:¬ (p.length=2/\44 ∉ p)):oE (p :: c) acc=Z:=by
 simp[oE,xx h,xD]
theorem Gk:∀ (l:J UInt8)(acc r:J N),je l acc=U r->l.length % 3=2
 |[],_,_,h=>by simp[je] at h
 |[_],_,_,h=>by simp[je] at h
 |[_,_],_,_,_=>rfl
 |a :: b :: c :: l,acc,r,h=>by
  unfold je at h
  split at h
  .simp only[Option.bind_eq_some_iff] at h;let⟨x,_,h⟩:=h;have:=Gk l x r h;simp only[Y0];omega
  .cases h
theorem ve(c:UInt8)(l:J UInt8)(h:c≠44):∃ p ps,sp l=p :: ps/\sp (c :: l)=(c :: p) :: ps:=by
 cases f:sp l with
 |nil=>exact XT f (QY l)
 |cons p ps=>exact⟨p,ps,rfl,by simp[sp,h,f]⟩
theorem ur(l:J UInt8):sp (44 :: l)=[] :: sp l:=by simp[sp]
theorem IR:∀ (l:J UInt8)(acc:J N),oE (sp l) acc=je l acc
 |[],acc=>by rw[show sp []=[[]] from rfl,sW _ _ XA];rfl
 |[a],acc=>by
  by_cases f:a=44
  .subst f;rw[ur,sW _ _ XA];rfl
  .let⟨p,ps,h1,h2⟩:=ve a [] f;simp only[sp,List.cons.injEq] at h1;obtain⟨rfl,rfl⟩:=h1;rw[h2,sW _ _ XA];rfl
 |[a,b],acc=>by
  by_cases f:a=44
  .subst f;rw[ur,sW _ _ XA,je,xx XA,xD]
  .let⟨p,ps,h1,h2⟩:=ve a [b] f;rw[h2]
   by_cases h:b=44
   .subst h;rw[ur] at h1;simp only[List.cons.injEq] at h1;obtain⟨rfl,rfl⟩:=h1;rw[sW _ _ XA,je,xx XA,xD]
   .let⟨p',ps',h1',h2'⟩:=ve b [] h;simp only[sp,List.cons.injEq] at h1';obtain⟨rfl,rfl⟩:=h1';rw[h2'] at h1;simp only[List.cons.injEq] at h1;obtain⟨rfl,rfl⟩:=h1;simp only[oE,je]
    cases kM acc (ek [a,b]) <;> rfl
 |a :: b :: c :: l,acc=>by
  have ih:=IR l
  by_cases f:a=44
  .subst f;rw[ur,sW _ _ XA,je,xx XA,xD]
   split <;> rfl
  .let⟨p,ps,h1,h2⟩:=ve a (b :: c :: l) f;rw[h2]
   by_cases h:b=44
   .subst h;rw[ur] at h1;simp only[List.cons.injEq] at h1;obtain⟨rfl,rfl⟩:=h1;rw[sW _ _ XA,je,xx XA,xD]
    split <;> rfl
   .let⟨p',ps',h1',h2'⟩:=ve b (c :: l) h;rw[h2'] at h1;simp only[List.cons.injEq] at h1;obtain⟨rfl,rfl⟩:=h1
    by_cases k:c=44
    .subst k;rw[ur] at h1';simp only[List.cons.injEq] at h1';obtain⟨rfl,rfl⟩:=h1';simp only[oE,je,if_true]
     cases kM acc (ek [a,b]) with
     |none=>rfl
     |some x=>exact ih x
    .let⟨p'',ps'',_,h2''⟩:=ve c l k;rw[h2''] at h1';simp only[List.cons.injEq] at h1';obtain⟨rfl,rfl⟩:=h1';rw[sW _ _ XA,je,XR k]
theorem UQ(c:UInt8)(l:J UInt8)(h:c≠44):Lib.index (c :: l) [44]=if Lib.index l [44]==-1 then -1 else Lib.index l [44]+1:=by
 rw[Lib.index];have:([44]:J UInt8).isPrefixOf (c :: l)=XW:=by simp[Z8];exact fun e=>h e.symm
 rw[this];rfl
theorem VX(l:J UInt8):Lib.index (44 :: l) [44]=0:=by
 rw[Lib.index];simp[Z8]
theorem Ws(c:UInt8)(l:J UInt8)(h:c≠44)(k:M):∃ p ps,Lib.splitK [44] 0 k l=p :: ps/\Lib.splitK [44] 0 k (c :: l)=(c :: p) :: ps:=by
 cases k with
 |zero=>exact⟨l,[],rfl,rfl⟩
 |succ k =>
  unfold Lib.splitK;rw[UQ c l h]
  by_cases f:(Lib.index l [44]==-1)=XX
  .rw[XS f,XS f];exact⟨l,[],rfl,rfl⟩
  .rw[XR f,XR f];have g:=Lib.index_ge l [44];have q:Lib.index l [44]≠-1:=fun e=>f (beq_iff_eq.2 e)
   rw[XR (by rw[beq_iff_eq];omega)];refine⟨_,_,rfl,?_⟩;let⟨i,hi'⟩:=Int.eq_ofNat_of_zero_le (show 0<=Lib.index l [44] by omega);rw[hi',show ((i:N)+1).toNat=i+1 from by omega,show ((i:N)).toNat=i from by omega];simp
theorem JK:∀ l:J UInt8,Lib.splitK [44] 0 (l.count 44) l=sp l
 |[]=>rfl
 |c :: l=>by
  have ih:=JK l
  by_cases h:c=44
  .subst h;rw[List.count_cons_self,ur,<- ih];rw[Lib.splitK,VX];simp
  .rw[List.count_cons_of_ne (by simpa using h)];let⟨p,ps,h1,h2⟩:=Ws c l h (l.count 44);rw[h2];rw[ih] at h1;simp[sp,h,h1]
def iX(s:XK):XM (J N):=je s.data.toList []
def eJ(s:XK):XN:=(iX s).isSome
theorem UI(s:XK):oE ((Lib.splitB ⟨#[44]⟩ 0 (Lib.countB s ⟨#[44]⟩) s).map (·.data.toList)) []=iX s:=by
 rw[Lib.splitB_data];have c:Lib.countB s ⟨#[44]⟩=s.data.toList.count 44:=Lib.count_one 44 s.data.toList;rw[c,show (ByteArray.mk #[44]).data.toList=[44] from rfl,JK,IR];rfl
end Go.Proofs.YtfigmlfdnickmaaGreatDoor.aB
namespace Go.Proofs.YtfigmlfdnickmaaGreatDoor
def aL(acc:J N)(j:N):XN:=acc.contains j
end Go.Proofs.YtfigmlfdnickmaaGreatDoor
namespace Go.Proofs.YtfigmlfdnickmaaGreatDoor
theorem Fe{α:Type}{lt:α->α->Prop}(f:∀ x,¬ lt x x)(ht:∀ x y z,lt x y->lt y z->lt x z):∀ {l m:J α},l.Pairwise lt->m.Pairwise lt->(∀ x,x∈l↔x∈m)->l=m
 |[],[],_,_,_=>rfl
 |[],y :: m,_,_,h=>by have:=(h y).2 XA;simp at this
 |x :: l,[],_,_,h=>by have:=(h x).1 XA;simp at this
 |x :: l,y :: m,hl,hm,h=>by
  rw[YI] at hl hm
  have e:x=y:=by
   rcases Yu.1 ((h x).1 XA) with e|e
   .exact e
   .rcases Yu.1 ((h y).2 XA) with k|k
    .exact k.symm
    .exact XT (ht _ _ _ (hl.1 y k) (hm.1 x e)) (f x)
  subst e
  congr 1
  refine Fe f ht hl.2 hm.2 (fun z=>?_);constructor
  .intro c;rcases Yu.1 ((h z).1 (by simp[c])) with e|e
   .subst e;exact XT (hl.1 z c) (f z)
   .exact e
  .intro c;rcases Yu.1 ((h z).2 (by simp[c])) with e|e
   .subst e;exact XT (hm.1 z c) (f z)
   .exact e
namespace Rd
def gR(p:N->XN):M->N->J N
 |0,_=>[]
 |k+1,d=>if p d then d :: gR p k (d+1) else gR p k (d+1)
theorem Am(p:N->XN):∀ (k:M)(d x:N),x∈gR p k d↔d<=x/\x<d+k/\p x=XX
 |0,d,x=>by simp[gR];omega
 |k+1,d,x=>by
  have ih:=Am p k (d+1) x;simp only[gR]
  by_cases c:p d=XX
  .rw[XS c,Yu,ih];constructor
   .rintro (rfl|⟨q,h,f⟩)
    .exact⟨Int.le_refl _,O,c⟩
    .exact⟨O,O,f⟩
   .rintro ⟨q,h,f⟩
    by_cases e:x=d
    .exact .inl e
    .exact .inr ⟨O,O,f⟩
  .rw[XR c,ih];constructor
   .rintro ⟨q,h,f⟩;exact⟨O,O,f⟩
   .rintro ⟨q,h,f⟩;have:x≠d:=fun e=>c (e ▸ f)
    exact⟨O,O,f⟩
theorem vD(p:N->XN):∀ (k:M)(d:N),(gR p k d).Pairwise (· < ·)
 |0,d=>by simp[gR]
 |k+1,d=>by
  simp only[gR]
  split
  .rw[YI];exact⟨fun x c=>by have:=(Am p k (d+1) x).1 c;omega,vD p k (d+1)⟩
  .exact vD p k (d+1)
theorem U7{l m:J N}(f:l.Pairwise (· < ·))(c:m.Pairwise (· < ·))(h:∀ x,x∈l↔x∈m):l=m :=
 Fe (lt:=fun a b:N=>a<b) (fun x=>by omega) (fun x y z h k=>by omega) f c h
def jo(ev:N):M->N->J N
 |0,_=>[]
 |k+1,d=>if d<728 then d :: jo ev k (d+ev) else []
theorem Jj{ev:N}(q:1<=ev):∀ (k:M)(d x:N),728<=d+k->(x∈jo ev k d↔d<=x/\x<728/\(x-d) % ev=0)
 |0,d,x,h=>by simp[jo];omega
 |k+1,d,x,h=>by
  simp only[jo]
  by_cases c:d<728
  .rw[XS c,Yu,Jj q k (d+ev) x O];have t:(x-(d+ev)) % ev=(x-d) % ev:=by rw[show x-(d+ev)=x-d-ev from by omega,Int.sub_emod_right]
   rw[t];constructor
   .rintro (rfl|⟨r,p,f⟩)
    .exact⟨Int.le_refl _,c,by simp⟩
    .exact⟨O,p,f⟩
   .rintro ⟨r,p,f⟩
    by_cases e:d+ev<=x
    .exact .inr ⟨e,p,f⟩
    .rw[Int.emod_eq_of_lt O O] at f;exact .inl O
  .rw[XR c];simp;omega
theorem Dd{ev:N}(f:1<=ev):∀ (k:M)(d:N),(jo ev k d).Pairwise (· < ·)/\∀ x∈jo ev k d,d<=x
 |0,d=>by simp[jo]
 |k+1,d=>by
  simp only[jo];let⟨i1,i2⟩:=Dd f k (d+ev)
  split
  .refine⟨YI.2 ⟨fun x c=>by have:=i2 x c;omega,i1⟩,fun x c=>?_⟩;rcases Yu.1 c with rfl|c
   .exact Int.le_refl _
   .have:=i2 x c;omega
  .simp
def pQ(acc:J N)(fr c:N):J N:=gR (fun d=>aL acc (d-c)) (c+7-max c fr).toNat (max c fr)
def jc(acc:J N)(fr ev:N):M->N->J N
 |0,_=>[]
 |k+1,mon=>if mon<728 then pQ acc fr mon++jc acc fr ev k (mon+ev*7) else []
theorem Dp{c:N}:x∈pQ acc fr c↔c<=x/\fr<=x/\x<c+7/\aL acc (x-c)=XX:=by
 unfold pQ;rw[Am];constructor
 .rintro ⟨p,k,f⟩;exact⟨O,O,O,f⟩
 .rintro ⟨p,k,f,h⟩;exact⟨O,O,h⟩
theorem Jl{acc:J N}{fr ev:N}(C:1<=ev):∀ (k:M)(f x:N),0<=f->f % 7=0->728<=f+k->(x∈jc acc fr ev k f↔f<=x/\fr<=x/\x<728/\aL acc (x % 7)=XX/\(x / 7-f / 7) % ev=0)
 |0,f,x,h0,h7,h=>by simp[jc];omega
 |k+1,f,x,h0,h7,h=>by
  simp only[jc]
  by_cases c:f<728
  .have B:(ev*7) % 7=0:=O
   rw[XS c,Yv,Dp,Jl C k (f+ev*7) x O O O];have G:(f+ev*7) / 7=f / 7+ev:=O
   have E:(x / 7-(f+ev*7) / 7) % ev=(x / 7-f / 7) % ev:=by rw[G,show x / 7-(f / 7+ev)=x / 7-f / 7-ev from by omega,Int.sub_emod_right]
   rw[E];constructor
   .rintro (⟨u,q,t,p⟩|⟨u,q,t,p,r⟩)
    .have A:x-f=x % 7:=O
     have D:x / 7-f / 7=0:=O
     rw[A] at p;rw[D];exact⟨u,q,O,p,by simp⟩
    .exact⟨O,q,t,p,r⟩
   .rintro ⟨u,q,t,p,r⟩
    by_cases e:x<f+7
    .have A:x-f=x % 7:=O
     exact .inl ⟨u,q,e,by rw[A];exact p⟩
    .by_cases H:f+ev*7<=x
     .exact .inr ⟨H,q,t,p,r⟩
     .rw[Int.emod_eq_of_lt O O] at r;omega
  .rw[XR c];simp;omega
theorem Df{acc:J N}{fr ev:N}(p:1<=ev):∀ (k:M)(c:N),(jc acc fr ev k c).Pairwise (· < ·)/\∀ x∈jc acc fr ev k c,c<=x
 |0,c=>by simp[jc]
 |k+1,c=>by
  simp only[jc];let⟨i1,i2⟩:=Df (acc:=acc) (fr:=fr) p k (c+ev*7)
  split
  .refine⟨List.pairwise_append.2 ⟨vD _ _ _,i1,fun x f y h=>?_⟩,fun x f=>?_⟩
   .have:=Dp.1 f;have:=i2 y h;omega
   .rcases Yv.1 f with f|f
    .exact (Dp.1 f).1
    .have:=i2 x f;omega
  .simp
def reached(y m:N):XN:=Cal.ok y m 1 && decide (Cal.num y m 1<728)
def ot(y m ev:N):N:=y+(m-1+ev) / 12
def nk(m ev:N):N:=(m-1+ev) % 12+1
def re(y m dt:N):J N:=if Cal.ok y m dt then [Cal.num y m dt] else []
def jq(dt ev:N):M->N->N->J N
 |0,_,_=>[]
 |k+1,y,m=>if reached y m then re y m dt++jq dt ev k (ot y m ev) (nk m ev) else []
theorem sM{d c f d':N}(h:Cal.ok y m d=XX)(p:Cal.ok c f d'=XX)(k:12*y+m<12*c+f):Cal.num y m d<Cal.num c f d':=by
 have i:=Cal.xk y m d h;have q:=Cal.xk c f d' p;let⟨h1,h2,h3,h4,h5,h6⟩:=(Cal.iB y m d).1 h;let⟨g1,g2,g3,g4,g5,g6⟩:=(Cal.iB c f d').1 p
 by_cases e:y=c
 .subst e;have:=Cal.Dl y m f h3 O O;unfold Cal.num;omega
 .have:=Cal.tW (y+1) c O O;omega
theorem xG(k:1<=y)(h:y<=9999)(f:1<=m)(c:m<=12):Cal.ok y m 1=XX:=by
 have:=Cal.pe y m;exact (Cal.iB _ _ _).2 ⟨k,h,f,c,O,O⟩
theorem Lw(q:2024<=y)(p:y<=9999)(k:1<=m)(f:m<=12):reached y m=XX↔12*y+m<=24312:=by
 have o:=xG (m:=m) (by omega:1<=y) p k f;unfold reached;rw[o,Bool.true_and,decide_eq_true_eq];have t:Cal.num 2025 12 1=700:=XC
 have r:Cal.num 2026 1 1=731:=XC
 constructor
 .intro h;apply Classical.byContradiction;intro c
  by_cases e:12*y+m=24313
  .have:y=2026:=O
   have:m=1:=O
   subst_vars;omega
  .have:=sM (xG (y:=2026) (m:=1) O O O O) o O;omega
 .intro h
  by_cases e:12*y+m=24312
  .have:y=2025:=O
   have:m=12:=O
   subst_vars;omega
  .have:=sM o (xG (y:=2025) (m:=12) O O O O) O;omega
theorem Dv{ev:N}:12*ot y m ev+nk m ev=12*y+m+ev/\1<=nk m ev/\nk m ev<=12:=by
 unfold ot nk;omega
theorem qU(p:0<=x)(k:x<728):Cal.ok (Cal.yT x) (Cal.mT x) (Cal.dT x)=XX/\Cal.num (Cal.yT x) (Cal.mT x) (Cal.dT x)=x/\2024<=Cal.yT x/\12*Cal.yT x+Cal.mT x<=24312:=by
 let⟨o,n⟩:=Cal.uK x O O;refine⟨o,n,?_,?_⟩
 .apply Classical.byContradiction;intro c;let⟨g1,g2,g3,g4,g5,g6⟩:=(Cal.iB _ _ _).1 o;have:=sM o (xG (y:=2024) (m:=1) O O O O) O;have e:Cal.num 2024 1 1=0:=XC
  omega
 .apply Classical.byContradiction;intro c;let⟨g1,g2,g3,g4,g5,g6⟩:=(Cal.iB _ _ _).1 o;have r:Cal.num 2026 1 1=731:=XC
  have f:=xG (y:=2026) (m:=1) O O O O
  by_cases e:12*Cal.yT x+Cal.mT x=24313
  .have:Cal.yT x=2026:=O
   have h:Cal.mT x=1:=O
   rw[this,h] at n
   have q:Cal.num 2026 1 (Cal.dT x)=731+Cal.dT x-1:=by
    have:Cal.num 2026 1 (Cal.dT x)=Cal.num 2026 1 1+Cal.dT x-1:=by unfold Cal.num;omega
    omega
   omega
  .have:=sM f o O;omega
theorem Jk{dt ev:N}(B:1<=ev)(t:ev<=99):∀ (k:M)(y m x:N),2024<=y->y<=2034->1<=m->m<=12->24312<12*y+m+k->0<=x->x<728 ->
  (x∈jq dt ev k y m↔Cal.dT x=dt/\12*y+m<=12*Cal.yT x+Cal.mT x/\(12*Cal.yT x+Cal.mT x-12*y-m) % ev=0)
 |0,y,m,x,hy,hy2,hm,hm2,hk,h0,h1=>by
  have:=(qU h0 h1).2.2.2;simp[jq];omega
 |k+1,y,m,x,hy,hy2,hm,hm2,hk,h0,h1=>by
  let⟨o,n,y0,mx⟩:=qU h0 h1;let⟨g1,g2,g3,g4,g5,g6⟩:=(Cal.iB _ _ _).1 o;simp only[jq];have u:=Lw (y:=y) (m:=m) hy O hm hm2
  by_cases c:12*y+m<=24312
  .rw[XS (u.2 c),Yv];let⟨l1,l2,l3⟩:=Dv (y:=y) (m:=m) (ev:=ev);rw[Jk B t k (ot y m ev) (nk m ev) x O O l2 l3 O h0 h1]
   have E:(12*Cal.yT x+Cal.mT x-12*ot y m ev-nk m ev) % ev=(12*Cal.yT x+Cal.mT x-12*y-m) % ev:=by
    rw[show 12*Cal.yT x+Cal.mT x-12*ot y m ev-nk m ev=12*Cal.yT x+Cal.mT x-12*y-m-ev from by omega,Int.sub_emod_right]
   rw[E,l1]
   have r:x∈re y m dt↔Cal.dT x=dt/\12*y+m=12*Cal.yT x+Cal.mT x:=by
    unfold re;constructor
    .intro h
     by_cases ok:Cal.ok y m dt=XX
     .rw[XS ok] at h;have:x=Cal.num y m dt:=by simpa using h
      let⟨f,q,p⟩:=Cal.Cu y m dt x ok this.symm;exact⟨p.symm,O⟩
     .rw[XR ok] at h;simp at h
    .rintro ⟨f,q⟩;have D:y=Cal.yT x:=O
     have C:m=Cal.mT x:=O
     subst f;rw[D,C,XS o,n];simp
   rw[r];constructor
   .rintro (⟨f,q⟩|⟨f,q,p⟩)
    .refine⟨f,O,?_⟩;rw[show 12*Cal.yT x+Cal.mT x-12*y-m=0 from by omega];simp
    .exact⟨f,O,p⟩
   .rintro ⟨f,q,p⟩
    by_cases e:12*y+m+ev<=12*Cal.yT x+Cal.mT x
    .exact .inr ⟨f,e,p⟩
    .rw[Int.emod_eq_of_lt O O] at p;exact .inl ⟨f,O⟩
  .have A:¬ reached y m=XX:=fun h=>c (u.1 h)
   rw[XR A];simp;omega
theorem De{dt ev:N}(q:1<=ev):∀ (k:M)(y m:N),1<=m->m<=12->(jq dt ev k y m).Pairwise (· < ·)/\∀ x∈jq dt ev k y m,∃ f h,Cal.ok f h dt=XX/\x=Cal.num f h dt/\12*y+m<=12*f+h
 |0,y,m,_,_=>by simp[jq]
 |k+1,y,m,h1,h2=>by
  simp only[jq];let⟨l1,l2,l3⟩:=Dv (y:=y) (m:=m) (ev:=ev);let⟨i1,i2⟩:=De (dt:=dt) q k (ot y m ev) (nk m ev) l2 l3
  split
  .unfold re
   by_cases ok:Cal.ok y m dt=XX
   .rw[XS ok];refine⟨List.pairwise_append.2 ⟨by simp,i1,fun x c z p=>?_⟩,fun x c=>?_⟩
    .have:x=Cal.num y m dt:=by simpa using c
     obtain⟨f,h,o,rfl,k⟩:=i2 z p;rw[this];exact sM ok o O
    .rcases Yv.1 c with c|c
     .have:x=Cal.num y m dt:=by simpa using c
      exact⟨y,m,ok,this,Int.le_refl _⟩
     .let⟨f,h,o,e,k⟩:=i2 x c;exact⟨f,h,o,e,O⟩
   .rw[XR ok];refine⟨by simpa using i1,fun x c=>?_⟩;let⟨f,h,o,e,k⟩:=i2 x (by simpa using c);exact⟨f,h,o,e,O⟩
  .simp
structure cA where
 pc:N
 ev:N
 acc:J N
 fr:N
 mn:N
 mi:N
 ti:N
 un:N
structure fY(r:cA):Prop where
 Fz:1<=r.pc
 Fy:r.pc<=3
 e1:1<=r.ev
 e2:r.ev<=99
 f0:0<=r.fr
 f1:r.fr<728
 m0:0<=r.mn
 m1:r.mn<1440
 i1:1<=r.mi
 i2:r.mi<=1048320
 t0:0<=r.ti
 t1:r.ti<=99
 u0:0<=r.un
 u1:r.un<728
def has(r:cA)(d:N):XN :=
 if r.pc=1 then decide ((d-r.fr) % r.ev=0)
 else if r.pc=2 then aL r.acc (d % 7) && decide ((d / 7-r.fr / 7) % r.ev=0)
 else decide (Cal.dT d=Cal.dT r.fr) && decide ((12*Cal.yT d+Cal.mT d-12*Cal.yT r.fr-Cal.mT r.fr) % r.ev=0)
def all(r:cA):J N:=gR (has r) (728-r.fr).toNat r.fr
theorem CZ{r:cA}(h:fY r)(x:N):x∈all r↔r.fr<=x/\x<728/\has r x=XX:=by
 have:=h.f1;unfold all;rw[Am];constructor
 .rintro ⟨f,k,c⟩;exact⟨f,O,c⟩
 .rintro ⟨f,k,c⟩;exact⟨f,O,c⟩
def seq(r:cA):J N :=
 if r.pc=2 then jc r.acc r.fr r.ev 800 (r.fr-r.fr % 7)
 else if r.pc=3 then jq (Cal.dT r.fr) r.ev 100 (Cal.yT r.fr) (Cal.mT r.fr)
 else jo r.ev 800 r.fr
theorem Iv{r:cA}(h:fY r):(seq r).Pairwise (· < ·):=by
 unfold seq
 split
 .exact (Df h.e1 _ _).1
 .split
  .have o:=(qU h.f0 h.f1).1;let⟨g1,g2,g3,g4,g5,g6⟩:=(Cal.iB _ _ _).1 o;exact (De h.e1 _ _ _ g3 g4).1
  .exact (Dd h.e1 _ _).1
theorem IZ{r:cA}(h:fY r)(A:0<=x)(q:x<728):x∈seq r↔r.fr<=x/\has r x=XX:=by
 have H:=h.f0;have G:=h.f1;have E:=h.Fz;have D:=h.Fy;unfold seq has
 by_cases c2:r.pc=2
 .rw[XS c2,XR O,XS c2,Jl h.e1 800 _ x O O O];have e:(r.fr-r.fr % 7) / 7=r.fr / 7:=O
  rw[e,ZR,decide_eq_true_eq];constructor
  .rintro ⟨k,p,f,u,t⟩;exact⟨p,u,t⟩
  .rintro ⟨p,u,t⟩;exact⟨O,p,q,u,t⟩
 .rw[XR c2]
  by_cases c3:r.pc=3
  .rw[XS c3,XR O,XR c2];let⟨o,n,y0,mx⟩:=qU h.f0 h.f1;let⟨g1,g2,g3,g4,g5,g6⟩:=(Cal.iB _ _ _).1 o;rw[Jk h.e1 h.e2 100 _ _ x y0 O g3 g4 O A q,ZR,decide_eq_true_eq,decide_eq_true_eq];let⟨ox,nx,yx,mxx⟩:=qU A q;constructor
   .rintro ⟨k,p,f⟩;refine⟨?_,k,f⟩
    by_cases e:12*Cal.yT r.fr+Cal.mT r.fr=12*Cal.yT x+Cal.mT x
    .let⟨j1,j2,j3,j4,j5,j6⟩:=(Cal.iB _ _ _).1 ox;have C:Cal.yT r.fr=Cal.yT x:=O
     have B:Cal.mT r.fr=Cal.mT x:=O
     rw[C,B,<- k] at n;omega
    .have:=sM o ox O;omega
   .rintro ⟨k,p,f⟩;refine⟨p,?_,f⟩;apply Classical.byContradiction;intro c;have:=sM ox o O;omega
  .rw[XR c3,XS O,Jj h.e1 800 _ x O,decide_eq_true_eq];constructor
   .rintro ⟨k,p,f⟩;exact⟨k,f⟩
   .rintro ⟨k,f⟩;exact⟨k,q,f⟩
theorem WY{l:J N}(h:l.Pairwise (· < ·))(b x:N):x∈l.takeWhile (fun d=>decide (d<=b))↔x∈l/\x<=b:=by
 induction l with
 |nil=>simp
 |cons d l ih =>
  rw[YI] at h;rw[List.takeWhile_cons]
  by_cases c:d<=b
  .simp only[c,decide_true,if_true,Yu,ih h.2];constructor
   .rintro (rfl|⟨k,f⟩)
    .exact⟨.inl rfl,c⟩
    .exact⟨.inr k,f⟩
   .rintro ⟨rfl|k,f⟩
    .exact .inl rfl
    .exact .inr ⟨k,f⟩
  .simp only[c,decide_false,Yr,if_false,List.not_mem_nil,false_iff,Yu];rintro ⟨rfl|k,f⟩
   .exact c f
   .have:=h.1 x k;omega
theorem Iu{r:cA}(h:fY r)(D:b<728):(seq r).takeWhile (fun d=>decide (d<=b))=(all r).filter (fun d=>decide (d<=b)):=by
 refine U7 ?_ ?_ (fun x=>?_)
 .exact List.Pairwise.sublist (List.takeWhile_sublist _) (Iv h)
 .exact YL _ (vD _ _ _)
 .rw[WY (Iv h),List.mem_filter,CZ h,decide_eq_true_eq];have E:=h.f0
  have low:x∈seq r->0<=x:=by
   intro c;unfold seq at c
   split at c
   .have:=(Df h.e1 _ _).2 x c;omega
   .split at c
    .have o:=(qU h.f0 h.f1);let⟨g1,g2,g3,g4,g5,g6⟩:=(Cal.iB _ _ _).1 o.1;obtain⟨y',m',u,rfl,k⟩:=(De h.e1 _ _ _ g3 g4).2 x c
     by_cases e:12*Cal.yT r.fr+Cal.mT r.fr=12*y'+m'
     .let⟨j1,j2,j3,j4,j5,j6⟩:=(Cal.iB _ _ _).1 u;have C:Cal.yT r.fr=y':=O
      have B:Cal.mT r.fr=m':=O
      rw[<- C,<- B,o.2.1];omega
     .have:=sM o.1 u O;have:=o.2.1;omega
    .have:=(Dd h.e1 _ _).2 x c;omega
  constructor
  .rintro ⟨f,t⟩;have A:=low f;let⟨q,p⟩:=(IZ h A O).1 f;exact⟨⟨q,O,p⟩,t⟩
  .rintro ⟨⟨f,t,q⟩,p⟩;exact⟨(IZ h O t).2 ⟨f,q⟩,p⟩
theorem RT{r:cA}(h:fY r):(seq r).takeWhile (fun d=>decide (d<=727))=all r:=by
 rw[Iu h O];exact List.filter_eq_self.2 (fun x c=>by have:=(CZ h x).1 c;simp;omega)
def gv(r:cA):J N:=if 0<r.ti then ((seq r).takeWhile (fun d=>decide (d<=727))).take r.ti.toNat else ((seq r).takeWhile (fun d=>decide (d<=r.un))).take 41
def wV(r:cA)(l:J N)(d:N):J N:=if has r d/\((r.ti=0/\d<=r.un)\/(0<r.ti/\(l.length:N)<r.ti)) then l++[d] else l
def pY(r:cA):M->N->J N->J N
 |0,_,l=>l
 |k+1,d,l=>pY r k (d+1) (wV r l d)
theorem LD{r:cA}(h:r.ti=0):∀ (k:M)(d:N)(l:J N),pY r k d l=l++(gR (has r) k d).filter (fun d=>decide (d<=r.un))
 |0,d,l=>by simp[pY,gR]
 |k+1,d,l=>by
  simp only[pY,gR];rw[LD h k (d+1)];unfold wV
  by_cases c:has r d=XX
  .rw[XS c,YK]
   by_cases c2:d<=r.un
   .rw[XS ⟨c,.inl ⟨h,c2⟩⟩,XS (by simp[c2])];simp
   .rw[XR O,XR (by simp[c2])]
  .rw[XR c,XR (fun e=>c e.1)]
theorem AB{r:cA}(h:0<r.ti):∀ (k:M)(d:N)(l:J N),(l.length:N)<=r.ti->pY r k d l=l++(gR (has r) k d).take (r.ti.toNat-l.length)
 |0,d,l,_=>by simp[pY,gR]
 |k+1,d,l,hl=>by
  simp only[pY,gR];unfold wV
  by_cases c:has r d=XX
  .rw[XS c]
   by_cases c2:(l.length:N)<r.ti
   .rw[XS ⟨c,.inr ⟨h,c2⟩⟩,AB h k (d+1) _ XG];have e:r.ti.toNat-l.length=(r.ti.toNat-(l++[d]).length)+1:=by simp;omega
    rw[e,List.take_succ_cons];simp
   .rw[XR O,AB h k (d+1) _ hl];have e:r.ti.toNat-l.length=0:=O
    rw[e];simp
  .rw[XR c,XR (fun e=>c e.1),AB h k (d+1) _ hl]
def bY(r:cA):J N:=pY r (728-r.fr).toNat r.fr []
theorem Ew{r:cA}(h:fY r):bY r=if 0<r.ti then (all r).take r.ti.toNat else (all r).filter (fun d=>decide (d<=r.un)):=by
 have c:=h.t0;unfold bY
 split
 .rw[AB XD _ _ _ XG];simp[all]
 .rw[LD O];simp[all]
theorem Kb{r:cA}(h:fY r):gv r=if 0<r.ti then bY r else (bY r).take 41:=by
 rw[Ew h];unfold gv
 split
 .rw[RT h]
 .rw[Iu h h.u1]
def nh(r:cA)(d:N):XN:=decide (1048320<d*1440+r.mn+r.mi)
def gQ(r:cA):N :=
 if 40<(bY r).length\/40<r.ti then 11 else if bY r=[]\/((bY r).length:N)<r.ti then 6 else if (bY r).any (nh r) then 6 else 0
def fT(r:cA):N :=
 if 40<r.ti then 11 else if 40<(gv r).length then 11 else if gv r=[]\/((gv r).length:N)<r.ti then 6 else if nh r ((gv r).getLastD 0) then 6 else 0
theorem KQ{r:cA}(h:fY r):(bY r).Pairwise (· < ·):=by
 rw[Ew h]
 split
 .exact List.Pairwise.sublist (List.take_sublist _ _) (vD _ _ _)
 .exact YL _ (vD _ _ _)
theorem ui{r:cA}(h:fY r)(c:x∈bY r):r.fr<=x/\x<728:=by
 rw[Ew h] at c
 have:x∈all r:=by
  split at c
  .exact Zj c
  .exact (List.mem_filter.1 c).1
 have:=(CZ h x).1 this;exact⟨this.1,this.2.1⟩
theorem xO{r:cA}:∀ {l:J N},l.Pairwise (· < ·)->l≠[]->l.any (nh r)=nh r (l.getLastD 0)
 |[],_,h=>XT rfl h
 |[d],_,_=>by simp
 |d :: e :: l,h,_=>by
  rw[YI] at h;have ih:=xO (r:=r) (l:=e :: l) h.2 XA;rw[List.any_cons,ih];have k:(d :: e :: l).getLastD 0=(e :: l).getLastD 0:=by simp[List.getLastD]
  rw[k]
  cases f:nh r d
  .simp
  .have c:(e :: l).getLastD 0∈e :: l:=by
    have:(e :: l).getLastD 0=(e :: l).getLast XA:=by simp[List.getLastD]
    rw[this];exact List.getLast_mem _
   have:=h.1 _ c;simp only[nh,decide_eq_true_eq] at f;simp only[nh,Bool.true_or];exact (decide_eq_true O).symm
theorem qY{r:cA}(h:fY r):fT r=gQ r/\(gQ r=0->gv r=bY r/\bY r≠[]/\(bY r).length<=40/\∀ d∈bY r,d*1440+r.mn+r.mi<=1048320):=by
 have p:=Kb h;have k:=KQ h;have D:=h.t0
 have fin:∀ {l:J N},l≠[]->¬ l.any (nh r)=XX->∀ d∈l,d*1440+r.mn+r.mi<=1048320:=by
  intro l _ A d B;apply Classical.byContradiction;intro c;exact A (List.any_eq_true.2 ⟨d,B,by simp only[nh,decide_eq_true_eq];omega⟩)
 unfold fT gQ
 by_cases c:0<r.ti
 .rw[XS c] at p;rw[p]
  by_cases c1:40<r.ti
  .rw[XS c1,XS (.inr c1)];exact⟨rfl,fun e=>by omega⟩
  .rw[XR c1]
   by_cases c2:40<(bY r).length
   .rw[XS c2,XS (.inl c2)];exact⟨rfl,fun e=>by omega⟩
   .have u:¬ (40<(bY r).length\/40<r.ti):=O
    rw[XR c2,XR u]
    by_cases c3:bY r=[]\/((bY r).length:N)<r.ti
    .rw[XS c3,XS c3];exact⟨rfl,fun e=>by omega⟩
    .have f:bY r≠[]:=fun e=>c3 (.inl e)
     rw[XR c3,XR c3,xO k f];refine⟨rfl,fun e=>⟨rfl,f,O,fin f ?_⟩⟩;rw[xO k f];intro q;rw[XS q] at e;omega
 .rw[XR c] at p;have C:¬ 40<r.ti:=O
  rw[p,XR C]
  by_cases c2:40<(bY r).length
  .have:40<((bY r).take 41).length:=by rw[List.length_take];omega
   rw[XS this,XS (.inl c2)];exact⟨rfl,fun e=>by omega⟩
  .have t:(bY r).take 41=bY r:=Ze O;have u:¬ (40<(bY r).length\/40<r.ti):=O
   rw[t,XR c2,XR u]
   by_cases c3:bY r=[]\/((bY r).length:N)<r.ti
   .rw[XS c3,XS c3];exact⟨rfl,fun e=>by omega⟩
   .have f:bY r≠[]:=fun e=>c3 (.inl e)
    rw[XR c3,XR c3,xO k f];refine⟨rfl,fun e=>⟨rfl,f,O,fin f ?_⟩⟩;rw[xO k f];intro q;rw[XS q] at e;omega
def gY(r:cA)(l:J N):J (N × N):=l.map fun d=>(d*1440+r.mn,d*1440+r.mn+r.mi)
end Rd
open Go.RowKit
namespace aA
def iT(name:XK)(es:J aO)(a b:N)(m x:N):N:=if a<x/\x<b/\m<bZ name x es then bZ name x es else m
def mQ(name:XK)(es:J aO)(a b:N):N:=(eW name es).foldl (iT name es a b) (bZ name a es)
end aA
theorem Oe(d:M)(a:XM Addr)(cap E:M)(es:J aA.aO)(name:XK)(fr til:N)(w:XY)(h:nz w d a cap E es)(hl:es.length<=1000)(X:∀ e∈es,aA.Small e):
  X4 prog 236 #[d,name,fr,til] w fun e w'=>e=Yg (V Y (aA.mQ name es fr til))/\X0 w w w':=by
 have ST:=aC (fun w' (k:X0 w w w')=>Hq d a cap E es name w' (h.later k) hl X);have TK:=aC (fun t w' (k:X0 w w w')=>G8 d a cap E es name t w' (h.later k) hl X);have sz:=Cj name es X;have H:aA.mQ name es fr til=(aA.eW name es).foldl (aA.iT name es fr til) (aA.bZ name fr es):=rfl;rw[H];generalize aA.eW name es=l at *;have ac:l.length<=100000:=O
 clear h X H sz
 go_in
 go_wp21
 refine aK (TK _ _ fo) fun w1 S=>?_;have C:=aC S;clear S
 go_wp21
 refine (ST _ C).mono ?_;rintro e w2 ⟨v2,rfl,I,R⟩;obtain⟨a2,c2,g2,rfl,aa,W,G⟩:=yO I;have R2:=aC (Yz W (Yz G (bM C R aI)));clear ST I R W G C aa
 go_wp21
 go_loopw [9,11,12] (fun m i _ wx=>∃ j:M,j<=l.length/\i=V Y j/\m=V Y ((l.take j).foldl (aA.iT name es fr til) (aA.bZ name fr es))/\X0 w2 w2 wx) (fun _ i _ _=>l.length-(intOf i).toNat)
 .exact⟨0,Zd _,rfl,rfl,Below.refl _ _⟩
 .obtain⟨j,hj,rfl,rfl,T⟩:=hrel;have K:=bM R2.2.2 T aI;have A:=aC K;have HB:=aC T;clear K
  by_cases r:j<l.length
  .obtain rfl:=R2.1 (by intro e;simp[e] at r);have c0:=aR T (R2.2.1 j r);have ab:(j:N)<(l.length:N):=O
   have D:(l.take (j+1)).foldl (aA.iT name es fr til) (aA.bZ name fr es)=aA.iT name es fr til ((l.take j).foldl (aA.iT name es fr til) (aA.bZ name fr es)) l[j]:=by
    rw[Zc r,List.foldl_append];rfl
   have p:=aC D;have f:=aC (TK l[j]);generalize (l.take j).foldl (aA.iT name es fr til) (aA.bZ name fr es)=m at *;have q:Hid (aA.iT name es fr til m l[j]=if fr<l[j]/\l[j]<til/\m<aA.bZ name l[j] es then aA.bZ name l[j] es else m):=rfl;generalize aA.bZ name l[j] es=tk at *;clear D T
   by_cases h1:fr<l[j]
   .by_cases h2:l[j]<til
    .by_cases h3:m<tk
     .have u:Hid ((l.take (j+1)).foldl (aA.iT name es fr til) (aA.bZ name fr es)=tk):=by show _=tk;rw[p,q,XS ⟨h1,h2,h3⟩]
      go_wp21
      refine aK (f _ A) fun w4 c=>?_;have B:=aC (bM HB c aI);clear c f
      go_wp21
      go_roundw
      .exact⟨j+1,O,by go_num,by rw[u],B⟩
      .simp[intOf];omega
     .have u:Hid ((l.take (j+1)).foldl (aA.iT name es fr til) (aA.bZ name fr es)=m):=by show _=m;rw[p,q,XR (fun x=>h3 x.2.2)]
      go_wp21
      refine aK (f _ A) fun w4 c=>?_;have B:=aC (bM HB c aI);clear c f
      go_wp21
      go_roundw
      .exact⟨j+1,O,by go_num,by rw[u],B⟩
      .simp[intOf];omega
    .have u:Hid ((l.take (j+1)).foldl (aA.iT name es fr til) (aA.bZ name fr es)=m):=by show _=m;rw[p,q,XR (fun x=>h2 x.2.1)]
     go_wp21
     go_roundw
     .exact⟨j+1,O,by go_num,by rw[u],HB⟩
     .simp[intOf];omega
   .have u:Hid ((l.take (j+1)).foldl (aA.iT name es fr til) (aA.bZ name fr es)=m):=by show _=m;rw[p,q,XR (fun x=>h1 x.1)]
    go_wp21
    go_roundw
    .exact⟨j+1,O,by go_num,by rw[u],HB⟩
    .simp[intOf];omega
  .have e:l.take j=l:=Ze O;have ab:¬ (j:N)<(l.length:N):=O
   clear T
   go_wp21
   go_ret;exact⟨iy (by first|rfl|rw[e]),A⟩
namespace aA
def gV:J aO->J N
 |[]=>[]
 |e :: r=>e.aQ.map (·.2)++gV r
theorem Qb(l r:J aO):gV (l++r)=gV l++gV r:=by
 induction l with
 |nil=>rfl
 |cons e l ih=>simp only[YH,gV,ih,YU]
def kP(ts:J (XK × N))(es:J aO)(name:XK)(aM long fr til c s:N):N :=
 if s<fr\/til<s+long\/(0<=c/\c<=s) then c else if eo ts es name aM [(s,s+long)] then s else c
def jH(ts:J (XK × N))(es:J aO)(name:XK)(aM long fr til:N):N:=(fr :: gV es).foldl (kP ts es name aM long fr til) (-1)
def Gf(es:J aO):Prop:=∀ e∈es,∀ s∈e.aQ,0<=s.2/\s.2<=2000000
theorem G5(l:J aO)(h:∀ e∈l,Small e):(gV l).length<=100*l.length:=by
 induction l with
 |nil=>simp[gV]
 |cons e l ih =>
  have i:=ih (fun x c=>h x (by simp[c]));have s:=(h e XA).sl;simp only[gV,YZ,Y0,ZE];omega
theorem OC(l:J aO)(h:Gf l):∀ x∈gV l,0<=x/\x<=2000000:=by
 induction l with
 |nil=>simp[gV]
 |cons e l ih =>
  intro x c;simp only[gV,Yv,Zh] at c;rcases c with ⟨s,f,rfl⟩|c
  .exact h e XA s f
  .exact ih (fun e k=>h e (by simp[k])) x c
end aA
def n9(fr:N)(l:J aA.aO)(e:aA.aO)(j:M):J N:=fr :: (aA.gV l++(e.aQ.take j).map (·.2))
theorem Od(d:M)(a:XM Addr)(cap E:M)(es:J aA.aO)(at_:XM Addr)(ct G:M)(ts:J (XK × N))(name:XK)(aM long fr til:N)(w:XY)(h:nz w d a cap E es)(ht:qh w d at_ ct G ts)(hl:es.length<=1000)(a9:ts.length<=1000)(hs:∀ e∈es,aA.Small e)(he:aA.Gf es)(a8:0<=aM)(a7:aM<=9)(bq:0<=long)(bn:long<=2000000)(bh:0<=fr)(bg:fr<=2000000):
  X4 prog 237 #[d,name,aM,long,fr,til] w fun e w'=>e=Yg (V Y (aA.jH ts es name aM long fr til))/\X0 w w w':=by
 obtain⟨i0,bf,a4,a3,az⟩:=info_parts pg;have FT:=aC (fun w' (k:X0 w w w') B cb L hL bc=>Gx d a cap E es at_ ct G ts name aM B cb L w' (h.later k) (ht.later k) hL hl a9 hs bc a8 a7);have H:=aC h;have HS:=aC hs;have sz:=aA.G5 es hs
 have ab:Hid (∀ x∈fr :: aA.gV es,0<=x/\x<=2000000):=by
  intro x hx;rcases Yu.1 hx with rfl|hx
  .exact⟨bh,bg⟩
  .exact aA.OC es he x hx
 have ao:aA.jH ts es name aM long fr til=(fr :: aA.gV es).foldl (aA.kP ts es name aM long fr til) (-1):=rfl;rw[ao];obtain⟨l,X⟩:∃ l,fr :: aA.gV es=l:=⟨_,rfl⟩;have bs:l.length<=100100:=by rw[<- X,Y0];omega
 rw[X] at ab ⊢;have aw:=aC X;clear h ht hs he ao X
 go_in
 go_wp21
 have o0:(w.alloc (Yh #[fr] 3)).ownsRow w 3 1 (X9 w 1 1) 1 ([fr].map (V Y)) :=
  ⟨rfl,.inr ⟨w,1,#[fr],rfl,Yi _,cP _ _,Yi _,by unfold maxLen;omega,rfl,rfl⟩⟩
 have O0:=aC (Yz o0 ((zr _ w).alloc aI (Yh #[fr] 3)));clear o0
 go_loopw [13,14,15] (fun v i _ wx=>∃ k:M,k<=es.length/\i=V Y k/\wx.ownsRow w 3 1 v (fr :: aA.gV (es.take k)).length ((fr :: aA.gV (es.take k)).map (V Y))/\X0 w w wx) (fun _ i _ _=>es.length-(intOf i).toNat)
 .exact⟨0,Zd _,rfl,O0.1,O0.2⟩
 .obtain⟨k,hk,rfl,f,t⟩:=hrel;have bl:=Zk k es;have hx:=H.later t;have cc:=hx.c;have bm:=aA.G5 (es.take k) (fun e he=>HS e (Zj he))
  by_cases W:k<es.length
  .obtain rfl:=H.at W;obtain⟨B,cp,ad⟩:=H.r k W;have c4:=(ad.later t).c4;have al:=HS es[k] (zg W);have I:(k:N)<(es.length:N):=O
   have e:fr :: aA.gV (es.take (k+1))=fr :: (aA.gV (es.take k)++es[k].aQ.map (·.2)):=by
    rw[Zc W,aA.Qb];simp[aA.gV]
   have EE:=aC e;have sl:=al.sl;have R0:=aC ad;have HO:=aC (Yz f t);clear e ad hx al f t
   go_wp21
   go_loopw [13,15] (fun v i wx=>∃ j:M,j<=es[k].aQ.length/\i=V Y j/\wx.ownsRow w 3 1 v (n9 fr (es.take k) es[k] j).length ((n9 fr (es.take k) es[k] j).map (V Y))/\X0 w w wx) (fun _ i _=>es[k].aQ.length-(intOf i).toNat)
   .exact⟨0,Zd _,rfl,by rw[n9];simpa using HO.out.1,HO.2⟩
   .obtain⟨j,hj,rfl,f,t⟩:=hrel;clear cc c4;have cc:=(H.later t).c;have c4:=(R0.later t).c4;have aa:=aC (Yz f t);have aq:=t.size
    by_cases u:j<es[k].aQ.length
    .have r1:=(R0.sl.later t j u).2;have ae:(j:N)<(es[k].aQ.length:N):=O
     have av:n9 fr (es.take k) es[k] (j+1)=n9 fr (es.take k) es[k] j++[es[k].aQ[j].2]:=by
      unfold n9;rw[Zc u,Zl,YH,YU];rfl
     have ES:=aC av
     have bj:(n9 fr (es.take k) es[k] j).length<=100*k+101:=by
      unfold n9;have:=Zk j es[k].aQ;simp only[Y0,YZ,ZE];omega
     clear av t
     go_wp2_with (first
      |(at_builtin;refine wpList_append_own _ rfl _ _ 38 rfl w 3 i0 (V Y 0) 1 8 underlying38 bf a4 a3 az rfl XC _ _ _ rfl (f.alloc _) (wr,0) 1 1 [V Y es[k].aQ[j].2] rfl rfl (ZF (cs:=#[V Y es[k].aQ[j].2]) (cP wr _)) XI XH O XG ?_;intro v' w' D K _))
     have ar:X0 w w w':=(aa.2.alloc aq _).grown K XG (fun k hk=>gi aa.1 hk)
     have HK:Hid (w'.ownsRow w 3 1 v' (n9 fr (es.take k) es[k] (j+1)).length ((n9 fr (es.take k) es[k] (j+1)).map (V Y))):=by
      show w'.ownsRow _ _ _ _ _ _;rw[ES,Zl,YZ];exact D
     have bi:=aC ar;clear D K ar f aa r1 cc c4
     go_wp21
     go_roundw
     .exact⟨j+1,O,by go_num,HK,bi⟩
     .simp[intOf];omega
    .have ae:¬ (j:N)<(es[k].aQ.length:N):=O
     have ac:n9 fr (es.take k) es[k] j=fr :: aA.gV (es.take (k+1)):=by
      have et:es[k].aQ.take j=es[k].aQ:=Ze O;rw[EE,n9,et]
     have HK:Hid (wr.ownsRow w 3 1 u13 (fr :: aA.gV (es.take (k+1))).length ((fr :: aA.gV (es.take (k+1))).map (V Y))):=by
      show wr.ownsRow _ _ _ _ _ _;rw[<- ac];exact f
     clear f t ac
     go_wp21
     go_roundw
     .exact⟨k+1,O,by go_num,HK,aa.2⟩
     .simp[intOf];omega
  .have e:es.take k=es:=Ze O;have I:¬ (k:N)<(es.length:N):=O
   rw[e,aw] at f;obtain⟨a2,c2,g2,rfl,ba,au,an⟩:=yO f;have R2:=aC (Yz au (Yz an t));clear f t e au an ba aw hx O0
   go_wp21
   go_loopw [16,17,18,19] (fun b i _ _ wx=>∃ j:M,j<=l.length/\i=V Y j/\b=V Y ((l.take j).foldl (aA.kP ts es name aM long fr til) (-1))/\X0 w w wx/\∀ (i:M) (I:i<l.length),wx.cell? (g2,i)=U (V Y l[i])) (fun _ i _ _ _=>l.length-(intOf i).toNat)
   .exact⟨0,Zd _,rfl,rfl,R2.2.2,R2.2.1⟩
   .obtain⟨j,hj,rfl,rfl,t,S⟩:=hrel;have aj:=aC t;have HC:=aC S;clear S
    by_cases u:j<l.length
    .obtain rfl:=R2.1 (by intro e;simp[e] at u);have c0:=HC j u;have ae:(j:N)<(l.length:N):=O
     have ak:(l.take (j+1)).foldl (aA.kP ts es name aM long fr til) (-1)=aA.kP ts es name aM long fr til ((l.take j).foldl (aA.kP ts es name aM long fr til) (-1)) l[j]:=by
      rw[Zc u,List.foldl_append];rfl
     have ag:=aC ak;have hm:=ab.out l[j] (zg u);generalize (l.take j).foldl (aA.kP ts es name aM long fr til) (-1)=b at *;generalize l[j]=sx at *;have ai:Hid (aA.kP ts es name aM long fr til b sx=if sx<fr\/til<sx+long\/(0<=b/\b<=sx) then b else if aA.eo ts es name aM [(sx,sx+long)] then sx else b):=rfl;clear ak t
     by_cases p:sx<fr\/til<sx+long\/(0<=b/\b<=sx)
     .have HE:Hid ((l.take (j+1)).foldl (aA.kP ts es name aM long fr til) (-1)=b):=by show _=b;rw[ag,ai,XS p]
      have R:sx<fr\/(¬ sx<fr/\til<sx+long)\/(¬ sx<fr/\¬ til<sx+long/\0<=b/\b<=sx):=O
      clear p;rcases R with q1|⟨q1,q2⟩|⟨q1,q2,q3,q4⟩
      all_goals
       go_wp21
       go_roundw
       .exact⟨j+1,O,by go_num,by rw[HE],aj,HC⟩
       .simp[intOf];omega
     .have hB:gS (wr.alloc (Yh #[V Y sx,V Y (sx+long)] 60)) wr [(sx,sx+long)]:=by
       intro i I;have:i=0:=by simpa using I
       subst this;exact⟨by simp,by simp⟩
      have af:X0 w w (wr.alloc (Yh #[V Y sx,V Y (sx+long)] 60)):=bM aj bC aI;have C:=aC (FT _ af wr 1 [(sx,sx+long)] hB XA);have ay:=aC af;have ax:Hid (∀ (i:M) (I:i<l.length),(wr.alloc (Yh #[V Y sx,V Y (sx+long)] 60)).cell? (g2,i)=U (V Y l[i])):=fun i I=>aR bC (HC i I)
      have q1:¬ sx<fr:=O
      have q2:¬ til<sx+long:=O
      have hz:(wr.alloc (Yh #[V Y sx,V Y (sx+long)] 60)).heap.size=wr.heap.size+1:=XA
      clear hB af hz
      cases q:aA.eo ts es name aM [(sx,sx+long)]
      .have HE:Hid ((l.take (j+1)).foldl (aA.kP ts es name aM long fr til) (-1)=b):=by show _=b;rw[ag,ai,XR p,q];rfl
       rw[q] at C;have R:b<0\/(0<=b/\sx<b):=O
       clear p q;rcases R with q3|⟨q3,q4⟩
       all_goals
        go_wp21
        refine C.mono ?_;rintro e w4 ⟨rfl,A⟩;have T:=aC (Yz (bM ay A aI) (fun i I=>aR A (ax i I)));clear A C
        go_wp21
        go_roundw
        .exact⟨j+1,O,by go_num,by rw[HE],T.1,T.2⟩
        .simp[intOf];omega
      .have HE:Hid ((l.take (j+1)).foldl (aA.kP ts es name aM long fr til) (-1)=sx):=by show _=sx;rw[ag,ai,XR p,q];rfl
       rw[q] at C;have R:b<0\/(0<=b/\sx<b):=O
       clear p q;rcases R with q3|⟨q3,q4⟩
       all_goals
        go_wp21
        refine C.mono ?_;rintro e w4 ⟨rfl,A⟩;have T:=aC (Yz (bM ay A aI) (fun i I=>aR A (ax i I)));clear A C
        go_wp21
        go_roundw
        .exact⟨j+1,O,by go_num,by rw[HE],T.1,T.2⟩
        .simp[intOf];omega
    .have e:l.take j=l:=Ze O;have ae:¬ (j:N)<(l.length:N):=O
     clear t
     go_wp21
     go_ret;exact⟨iy (by first|rfl|rw[e]),aj⟩
namespace aA
def qW(a x:N):J N->N
 |[]=>a
 |s :: r=>if s<=x/\qW a x r<s then s else qW a x r
theorem EW(a x:N)(h:a<=x):∀ l:J N,a<=qW a x l/\qW a x l<=x/\(qW a x l=a\/qW a x l∈l)/\∀ s∈l,s<=x->s<=qW a x l
 |[]=>⟨Int.le_refl _,h,.inl rfl,by simp⟩
 |s :: r=>by
  let⟨h1,h2,f,h4⟩:=EW a x h r;simp only[qW]
  split
  .rename_i c
   refine⟨O,c.1,.inr XA,fun t ht k=>?_⟩;rcases Yu.1 ht with rfl|ht
   .omega
   .have:=h4 t ht k;omega
  .rename_i c
   refine⟨h1,h2,?_,fun t ht k=>?_⟩
   .rcases f with f|f
    .exact .inl f
    .exact .inr (by simp[f])
   .rcases Yu.1 ht with rfl|ht
    .omega
    .exact h4 t ht k
theorem LP(f:y<=x)(h:∀ s∈L,s.1<=x->s.1<=y):dH L x<=dH L y:=by
 unfold dH;rw[<- List.countP_eq_length_filter,<- List.countP_eq_length_filter]
 have:List.countP (hasB x) L<=List.countP (hasB y) L:=List.countP_mono_left (fun s k c=>by
  simp[hasB] at c ⊢;have:=h s k c.1
  omega)
 omega
def Pos(es:J aO):Prop:=∀ e∈es,0<=e.aM
theorem EY{name:XK}{x y:N}(f:y<=x):∀ {es:J aO},Pos es->(∀ s∈eW name es,s<=x->s<=y)->bZ name x es<=bZ name y es
 |[],_,_=>Int.le_refl _
 |e :: r,hp,h=>by
  have ih:=EY (name:=name) f (es:=r) (fun z q=>hp z (by simp[q])) (fun s p=>h s (by simp[eW,p]));simp only[bZ]
  by_cases c:cN name e=XX
  .rw[XS c,XS c];have p:cO e.bA name=XX:=by simp[cN] at c;exact c.1
   have A:dH e.aQ x<=dH e.aQ y:=LP f (fun s k t=>h s.1 (by simp[eW,p];exact .inl ⟨s.2,k⟩) t);have u:=hp e XA;have:dH e.aQ x*e.aM<=dH e.aQ y*e.aM:=Int.mul_le_mul_of_nonneg_right A u;omega
  .rw[XR c,XR c];omega
theorem Vz(c:Pos es){a:N}(h:a<=x):∃ y,a<=y/\y<=x/\(y=a\/y∈eW name es)/\bZ name x es<=bZ name y es:=by
 let⟨h1,h2,h3,h4⟩:=EW a x h (eW name es);exact⟨_,h1,h2,h3,EY h2 c h4⟩
theorem vA{aM:N}(u:Pos es)(t:0<=aM):
  eo ts es name aM L=XX↔∀ x,0<dH L x->bZ name x es+dH L x*aM<=bW name ts:=by
 constructor
 .intro h x k
  have p:∃ s∈L,s.1<=x/\x<s.2:=by
   unfold dH at k;have C:0<(L.filter (hasB x)).length:=O
   let⟨s,c⟩:=List.exists_mem_of_length_pos C;have:=List.mem_filter.1 c;simp[hasB] at this;exact⟨s,this.1,this.2⟩
  let⟨s0,hs0,k1,k2⟩:=p;let⟨h1,h2,f,h4⟩:=EW s0.1 x k1 (eW name es++L.map (·.1));generalize qW s0.1 x (eW name es++L.map (·.1))=y at h1 h2 f h4
  have q:y∈eW name es++L.map (·.1):=by
   rcases f with rfl|f
   .simp;exact .inr ⟨s0.2,hs0⟩
   .exact f
  have ht:=EY (name:=name) (es:=es) h2 u (fun s c=>h4 s (by simp[c]));have B:dH L x<=dH L y:=LP h2 (fun s c=>h4 s.1 (by simp;exact .inr ⟨s.2,c⟩));have D:=ZZ.1 h y q;simp[qJ] at D;have r:0<dH L y:=O
  have A:dH L x*aM<=dH L y*aM:=Int.mul_le_mul_of_nonneg_right B t;omega
 .intro h;unfold eo pM;rw[ZZ];intro x _;simp[qJ]
  by_cases k:0<dH L x
  .exact .inr (h x k)
  .exact .inl O
theorem Ep(a b x:N):dH [(a,b)] x=if a<=x/\x<b then 1 else 0:=by
 unfold dH
 by_cases h:a<=x/\x<b
 .rw[XS h];simp[hasB,h.1,h.2]
 .rw[XR h];have:hasB x (a,b)=XW:=by simp[hasB];omega
  simp[this]
theorem EU{aM a:N}(r:Pos es)(q:0<=aM):
  eo ts es name aM [(a,b)]=XX↔∀ x,a<=x->x<b->bZ name x es+aM<=bW name ts:=by
 rw[vA r q];constructor
 .intro h x p k;have:=h x (by rw[Ep,XS ⟨p,k⟩];omega);rw[Ep,XS ⟨p,k⟩] at this;omega
 .intro h x f;rw[Ep] at f ⊢
  by_cases c:a<=x/\x<b
  .rw[XS c];have:=h x c.1 c.2;omega
  .rw[XR c] at f;omega
def xt(f:N->N)(a b m:N):Prop:=(∀ x,a<=x->x<b->f x<=m)/\∃ x,a<=x/\x<b/\f x=m
theorem xt.eq{f:N->N}{a n:N}(h:xt f a b m)(k:xt f a b n):m=n:=by
 let⟨h1,x,h2,h3,h4⟩:=h;let⟨k1,y,k2,k3,k4⟩:=k;have:=h1 y k2 k3;have:=k1 x h2 h3;omega
theorem Kl{name:XK}{es:J aO}{a b:N}:∀ (l:J N)(m:N),
  m<=l.foldl (iT name es a b) m/\(∀ x∈l,a<x->x<b->bZ name x es<=l.foldl (iT name es a b) m)/\(l.foldl (iT name es a b) m=m\/∃ x∈l,a<x/\x<b/\l.foldl (iT name es a b) m=bZ name x es)
 |[],m=>⟨Int.le_refl _,by simp,.inl rfl⟩
 |x :: l,m=>by
  let⟨h1,h2,h⟩:=Kl (name:=name) (es:=es) (a:=a) (b:=b) l (iT name es a b m x);simp only[ZT];generalize l.foldl (iT name es a b) (iT name es a b m x)=R at h1 h2 h ⊢
  have r:(iT name es a b m x=m/\¬ (a<x/\x<b/\m<bZ name x es))\/(iT name es a b m x=bZ name x es/\a<x/\x<b/\m<bZ name x es):=by
   unfold iT
   by_cases c:a<x/\x<b/\m<bZ name x es
   .rw[XS c];exact .inr ⟨rfl,c⟩
   .rw[XR c];exact .inl ⟨rfl,c⟩
  rcases r with ⟨e,c⟩|⟨e,c⟩
  .rw[e] at h1 h;refine⟨h1,fun y f q p=>?_,?_⟩
   .rcases Yu.1 f with rfl|f
    .omega
    .exact h2 y f q p
   .rcases h with h|⟨y,f,k⟩
    .exact .inl h
    .exact .inr ⟨y,by simp[f],k⟩
  .rw[e] at h1 h;refine⟨O,fun y f q p=>?_,?_⟩
   .rcases Yu.1 f with rfl|f
    .omega
    .exact h2 y f q p
   .rcases h with h|⟨y,f,k⟩
    .exact .inr ⟨x,by simp,c.1,c.2.1,h⟩
    .exact .inr ⟨y,by simp[f],k⟩
theorem Xr{a:N}(r:Pos es)(h:a<b):xt (fun x=>bZ name x es) a b (mQ name es a b):=by
 let⟨h1,h2,f⟩:=Kl (name:=name) (es:=es) (a:=a) (b:=b) (eW name es) (bZ name a es);unfold mQ;generalize (eW name es).foldl (iT name es a b) (bZ name a es)=R at h1 h2 f ⊢;refine⟨fun x p k=>?_,?_⟩
 .let⟨y,i1,i2,c,i4⟩:=Vz (name:=name) r p;show bZ name x es<=R
  by_cases e:y=a
  .subst e;omega
  .rcases c with c|c
   .exact XT c e
   .have:=h2 y c O O;omega
 .rcases f with f|⟨x,_,p,k,q⟩
  .exact⟨a,Int.le_refl _,h,f.symm⟩
  .exact⟨x,O,k,q.symm⟩
theorem IK{name:XK}{x:N}:∀ {es:J aO},Pos es->bZ name x es<bZ name (x-1) es->x∈gV es
 |[],_,h=>by simp[bZ] at h
 |e :: r,hp,h=>by
  simp only[gV,Yv,Zh]
  by_cases c:∃ s∈e.aQ,s.2=x
  .exact .inl c
  .right;refine IK (name:=name) (fun z f=>hp z (by simp[f])) ?_
   have t:dH e.aQ (x-1)<=dH e.aQ x:=by
    unfold dH;rw[<- List.countP_eq_length_filter,<- List.countP_eq_length_filter]
    have:List.countP (hasB (x-1)) e.aQ<=List.countP (hasB x) e.aQ:=List.countP_mono_left (fun s p u=>by
     simp[hasB] at u ⊢;have:s.2≠x:=fun e=>c ⟨s,p,e⟩
     omega)
    omega
   have k:=hp e XA;have q:dH e.aQ (x-1)*e.aM<=dH e.aQ x*e.aM:=Int.mul_le_mul_of_nonneg_right t k;simp only[bZ] at h
   split at h <;> omega
def Cn(r:N):XM N:=if r<0 then Z else U r
theorem DQ{ts:J (XK × N)}{es:J aO}{name:XK}{aM long fr tq:N}(A:0<=fr):∀ (l:J N)(b:N),-1<=b ->
  (b=-1\/(fr<=b/\b+long<=tq/\eo ts es name aM [(b,b+long)]=XX)) ->
  let R:=l.foldl (kP ts es name aM long fr tq) b
  (R=-1\/(fr<=R/\R+long<=tq/\eo ts es name aM [(R,R+long)]=XX))/\-1<=R/\(0<=b->0<=R/\R<=b)/\∀ s∈l,fr<=s->s+long<=tq->eo ts es name aM [(s,s+long)]=XX->0<=R/\R<=s
 |[],b,hb,h=>by
  refine⟨h,hb,fun k=>⟨k,Int.le_refl _⟩,by simp⟩
 |s :: l,b,hb,h=>by
  intro R
  have B:kP ts es name aM long fr tq b s=b/\((s<fr\/tq<s+long\/(0<=b/\b<=s))\/eo ts es name aM [(s,s+long)]=XW)\/kP ts es name aM long fr tq b s=s/\fr<=s/\s+long<=tq/\eo ts es name aM [(s,s+long)]=XX/\(b<0\/s<b):=by
   unfold kP
   by_cases c:s<fr\/tq<s+long\/(0<=b/\b<=s)
   .rw[XS c];exact .inl ⟨rfl,.inl c⟩
   .rw[XR c]
    cases C:eo ts es name aM [(s,s+long)]
    .exact .inl ⟨by simp,.inr rfl⟩
    .exact .inr ⟨by simp,O,O,rfl,O⟩
  rcases B with ⟨e,c⟩|⟨e,c1,c2,c3,c4⟩
  .have ih:=DQ (ts:=ts) (es:=es) (name:=name) (aM:=aM) (long:=long) (tq:=tq) A l b hb h;have u:R=l.foldl (kP ts es name aM long fr tq) b:=by show List.foldl _ _ _=_;rw[ZT,e]
   rw[<- u] at ih;let⟨i1,i2,i3,i4⟩:=ih;refine⟨i1,i2,i3,fun t ht q p f=>?_⟩;rcases Yu.1 ht with rfl|ht
   .rcases c with c|c
    .have:=i3 O;omega
    .rw[f] at c;cases c
   .exact i4 t ht q p f
  .have ih:=DQ (ts:=ts) (es:=es) (name:=name) (aM:=aM) (long:=long) (tq:=tq) A l s O (.inr ⟨c1,c2,c3⟩);have u:R=l.foldl (kP ts es name aM long fr tq) s:=by show List.foldl _ _ _=_;rw[ZT,e]
   rw[<- u] at ih;let⟨i1,i2,i3,i4⟩:=ih;have r:=i3 O;refine⟨i1,i2,fun k=>by omega,fun t ht q p f=>?_⟩;rcases Yu.1 ht with rfl|ht
   .exact r
   .exact i4 t ht q p f
theorem Tb(P:N->Prop)(fr:N):∀ (n:M)(s:N),s=fr+n->P s->∃ r,fr<=r/\r<=s/\P r/\∀ t,fr<=t->t<r->¬ P t:=by
 intro n
 induction n using Nat.strongRecOn with
 |_ n ih =>
  intro s q p
  by_cases c:∃ t,fr<=t/\t<s/\P t
  .let⟨t,k,h,f⟩:=c;let⟨r,i1,i2,i3,i4⟩:=ih (t-fr).toNat O t O f;exact⟨r,i1,O,i3,i4⟩
  .exact⟨s,O,Int.le_refl _,p,fun t k h f=>c ⟨t,k,h,f⟩⟩
theorem Si{aM:N}(t:Pos es)(A:0<=aM)(H:0<=fr)(_hl:1<=long):
  -1<=jH ts es name aM long fr tq/\sL (fun x=>bZ name x es) fr tq long (bW name ts-aM) (Cn (jH ts es name aM long fr tq)):=by
 have B:∀ s,pq (fun x=>bZ name x es) long (bW name ts-aM) s↔eo ts es name aM [(s,s+long)]=XX:=by
  intro s;rw[EU t A];constructor
  .intro h x c f;have:=h x c f;have this:bZ name x es<=bW name ts-aM:=this;omega
  .intro h x c f;have:=h x c f;show bZ name x es<=bW name ts-aM;omega
 let⟨D,h2,_,h4⟩:=DQ (ts:=ts) (es:=es) (name:=name) (aM:=aM) (long:=long) (tq:=tq) H (fr :: gV es) (-1) (Int.le_refl _) (.inl rfl);unfold jH;generalize (fr :: gV es).foldl (kP ts es name aM long fr tq) (-1)=R at D h2 h4 ⊢
 have key:∀ s,fr<=s->s+long<=tq->eo ts es name aM [(s,s+long)]=XX->0<=R/\R<=s:=by
  intro s c f k;let⟨r,u,E,q,i4⟩:=Tb (fun s=>eo ts es name aM [(s,s+long)]=XX) fr (s-fr).toNat s O k
  have:r∈fr :: gV es:=by
   by_cases e:r=fr
   .simp[e]
   .have C:=i4 (r-1) O O;have p:=(EU t A).1 q
    have:∃ x,r-1<=x/\x<r-1+long/\bW name ts<bZ name x es+aM:=by
     apply Classical.byContradiction;intro G;apply C;apply (EU t A).2;intro x j1 j2
     by_cases d:bZ name x es+aM<=bW name ts
     .exact d
     .exact XT ⟨x,j1,j2,O⟩ G
    let⟨x,j1,j2,j3⟩:=this
    have I:x=r-1:=by
     by_cases d:r<=x
     .have:=p x d O;omega
     .omega
    subst I;have:=p r (Int.le_refl _) O;exact ZK _ (IK (name:=name) t O)
  have:=h4 r this u O q;omega
 refine⟨h2,?_⟩;unfold Cn
 split
 .intro s c f k;have:=key s c f ((B s).1 k);omega
 .rcases D with D|⟨u,E,q⟩
  .omega
  .refine⟨u,E,(B R).2 q,fun s c f k=>?_⟩;have:=key s c O ((B s).1 k);omega
theorem TQ{f:N->N}{a:N}{r q:XM N}(h:sL f a b long level r)(k:sL f a b long level q):r=q:=by
 cases r with
 |none =>
  cases q with
  |none=>rfl
  |some s=>exact XT k.2.2.1 (h s k.1 k.2.1)
 |some s =>
  cases q with
  |none=>exact XT h.2.2.1 (k s h.1 h.2.1)
  |some t =>
   let⟨h1,h2,h3,h4⟩:=h;let⟨k1,k2,k3,k4⟩:=k
   by_cases c:s<t
   .exact XT h3 (k4 s h1 c)
   .by_cases d:t<s
    .exact XT k3 (h4 t k1 d)
    .exact congrArg U O
theorem Wj{f g:N->N}{a:N}{r:XM N}(h:sL f a b long level r)(p:∀ x,a<=x->x<b->f x=g x):sL g a b long level r:=by
 have key:∀ s,a<=s->s+long<=b->(pq f long level s↔pq g long level s):=by
  intro s c k;constructor
  .intro h x A u;rw[<- p x O O];exact h x A u
  .intro h x A u;rw[p x O O];exact h x A u
 cases r with
 |none=>exact fun s c k q=>h s c k ((key s c k).2 q)
 |some s =>
  let⟨h1,h2,h3,h4⟩:=h;exact⟨h1,h2,(key s h1 h2).1 h3,fun t c k q=>h4 t c k ((key t c O).2 q)⟩
end aA
namespace aA
def dE(name:XK):J aO->J XN->N
 |[],_=>0
 |e :: r,p=>(if cN name e then e.aM*gF e.aQ p else 0)+dE name r p
theorem Ly(name:XK)(l r:J aO)(p:J XN):dE name (l++r) p=dE name l p+dE name r p:=by
 induction l with
 |nil=>simp[dE]
 |cons e l ih=>simp only[YH,dE,ih];omega
theorem Ut(h:cN name e=XX):cS (dE name es) e.aQ e.aM=dE name (es++[e]):=by
 funext p
 simp only[cS,Ly,dE,h,if_true];omega
theorem LF(h:cN name e=XW):dE name (es++[e])=dE name es:=by
 funext p
 simp[Ly,dE,h]
theorem vh(name:XK)(p:J XN):∀ es:J aO,(∀ e∈es,Small e)->0<=dE name es p/\dE name es p<=900*es.length
 |[],_=>by simp[dE]
 |e :: r,h=>by
  have i:=vh name p r (fun x f=>h x (by simp[f]));have s:=h e XA;have b:=wZ e.aQ p;have k:=s.sl;have c:0<=e.aM*gF e.aQ p:=Y9 s.u0 b.1;have d:e.aM*gF e.aQ p<=9*100:=Int.mul_le_mul s.u1 O b.1 O;simp only[dE,Y0]
  split <;> omega
theorem Small.pos(h:∀ e∈es,Small e):Pos es:=fun e c=>(h e c).u0
def xu(es:J aO):Prop:=∀ e∈es,∀ s∈e.aQ,s.1<s.2
theorem xS(name:XK){x:N}(q:0<=x)(k:x<1048320):∀ es:J aO,xu es->pS (dE name es) x=bZ name x es
 |[],_=>by
  have:dE name []=fun _=>0:=by funext p;rfl
  rw[this];exact aJ.Xc 20 0 1048320 x
 |e :: r,h=>by
  have ih:=xS name q k r (fun z t=>h z (by simp[t]))
  by_cases f:cN name e=XX
  .have:dE name (e :: r)=cS (dE name r) e.aQ e.aM:=by funext p;simp only[dE,cS,f,if_true];omega
   rw[this,Lc _ _ _ _ q k (h e XA),ih];simp only[bZ,f,if_true];have:((e.aQ.filter fun s=>decide (s.1<=x) && decide (x<s.2)).length:N)=dH e.aQ x:=rfl;rw[this,Int.mul_comm];omega
  .have c:cN name e=XW:=by simpa using f
   have:dE name (e :: r)=dE name r:=by funext p;simp[dE,c]
   rw[this,ih];simp[bZ,c]
theorem UO{aM u:N}(t:∀ e∈es,Small e)(B:xu es)(D:pN L)(E:0<=u)(A:bW name ts=aM):
  lP (cS (dE name es) L u) aM L=eo ts es name u L:=by
 have G:∀ p,0<=cS (dE name es) L u p:=fun p=>by
  have:=(vh name p es t).1;have:=(wZ L p).1;have:0<=u*gF L p:=Y9 E this;unfold cS;omega
 have c:∀ x,0<=x->x<1048320->pS (cS (dE name es) L u) x=bZ name x es+dH L x*u:=by
  intro x I H;rw[Lc _ _ _ _ I H (fun s t=>(D s t).2.1),xS name I H es B];have:((L.filter fun s=>decide (s.1<=x) && decide (x<s.2)).length:N)=dH L x:=rfl;rw[this,Int.mul_comm]
 rw[ZW,vA (Small.pos t) E,A];unfold lP;rw[ZZ];constructor
 .intro h x K;have R:0<(L.filter (hasB x)).length:=by unfold dH at K;omega
  let⟨s,r⟩:=List.exists_mem_of_length_pos R;have r:=List.mem_filter.1 r;have C:=r.2;simp[hasB] at C;have k:=D s r.1;have:=of_decide_eq_true (h s r.1);have m:=(Dx G k.1 k.2.1 k.2.2).1 x C.1 C.2;rw[c x O O] at m;omega
 .intro h s f;have k:=D s f;let⟨_,x,m1,m2,m3⟩:=Dx G k.1 k.2.1 k.2.2;rw[c x O O] at m3
  have q:0<dH L x:=by
   unfold dH;have:s∈L.filter (hasB x):=List.mem_filter.2 ⟨f,by simp[hasB,m1,m2]⟩;have:=List.length_pos_of_mem this;omega
  have:=h x q;exact decide_eq_true O
theorem T3{a:N}(q:∀ e∈es,Small e)(h:xu es)(u:0<=a)(r:a<b)(t:b<=1048320):tT (dE name es) (a,b)=mQ name es a b:=by
 have m:=Dx (A:=dE name es) (s:=(a,b)) (fun p=>(vh name p es q).1) u r t;refine xt.eq (f:=fun x=>bZ name x es) (a:=a) (b:=b) ⟨fun x k c=>?_,?_⟩ (Xr (Small.pos q) r)
 .have:=m.1 x k c;rw[xS name O (by have:x<b:=c;omega) es h] at this;exact this
 .let⟨x,k,c,k3⟩:=m.2;rw[xS name (by have:a<=x:=k;omega) (by have:x<b:=c;omega) es h] at k3;exact⟨x,k,c,k3⟩
def Is:XM N->N
 |none=>-1
 |some s=>s
theorem UK{aM a:N}{r:XM N}(p:∀ e∈es,Small e)(f:xu es)(t:0<=a)(C:b<=1048320)(k:0<=aM)(q:1<=long)(h:sL (aJ.eD (kh (dE name es)) 0 1048320) a b long (bW name ts-aM) r):
  jH ts es name aM long a b=Is r:=by
 let⟨k1,k2⟩:=Si (ts:=ts) (es:=es) (name:=name) (aM:=aM) (long:=long) (fr:=a) (tq:=b) (Small.pos p) k t q;have u:=Wj h (g:=fun x=>bZ name x es) (fun x B A=>xS name O O es f);have e:=TQ u k2;rw[e];generalize jH ts es name aM long a b=R at *;unfold Cn
 by_cases c:R<0
 .rw[XS c];show R=-1;omega
 .rw[XR c];rfl
def kept(id:N)(es:J aO):J aO:=es.filter fun e=>e.id != id
def dI(e:aO):aO:={ e with kind:=1,bP:=0 }
def eA(id:N)(es:J aO):J aO:=es.map fun e=>if e.id=id then dI e else e
def dL(es:J aO):Prop:=(es.map (·.id)).Pairwise (· < ·)
theorem dL.cons{r:J aO}(h:dL (e :: r)):(∀ z∈r,e.id<z.id)/\dL r:=by
 unfold dL at h ⊢;rw[List.map_cons,YI] at h;exact⟨fun z c=>h.1 z.id (Zh.2 ⟨z,c,rfl⟩),h.2⟩
theorem dL.one(h:dL es):∀ {x y:aO},x∈es->y∈es->x.id=y.id->x=y:=by
 induction es with
 |nil=>intro x y f;simp at f
 |cons e r ih =>
  intro x y f c k;let⟨h1,h2⟩:=h.cons;rcases Yu.1 f with f|f
  .rcases Yu.1 c with c|c
   .rw[f,c]
   .have:=h1 y c;rw[f] at k;omega
  .rcases Yu.1 c with c|c
   .have:=h1 x f;rw[c] at k;omega
   .exact ih h2 f c k
theorem D9(h:∀ e∈es,e.id≠id):kept id es=es:=List.filter_eq_self.2 (fun e c=>by simp[h e c])
theorem Az{id:N}:∀ {es:J aO},(∀ e∈es,e.id≠id)->eA id es=es
 |[],_=>rfl
 |e :: r,h=>by
  have i:=Az (id:=id) (es:=r) (fun z c=>h z (by simp[c]));unfold eA at i ⊢;rw[List.map_cons,i,XR (h e XA)]
theorem Vd(es:J aO):(eA id es).map (·.id)=es.map (·.id):=by
 unfold eA;rw[List.map_map];apply List.map_congr_left;intro e _;show (if e.id=id then dI e else e).id=e.id
 split <;> rfl
theorem KA(h:dL es):dL (eA id es):=by
 unfold dL at *;rw[Vd];exact h
theorem Ek{name:XK}{e:aO}(f:cN name e=XX):∀ {es:J aO},dL es->e∈es->cS (dE name es) e.aQ (-e.aM)=dE name (kept e.id es)
 |[],_,h=>by simp at h
 |z :: r,hi,h=>by
  let⟨h1,h2⟩:=hi.cons
  funext p
  by_cases c:z.id=e.id
  .have u:e=z:=hi.one h XA c.symm;subst u
   have:kept e.id (e :: r)=r:=by
    have k:=D9 (id:=e.id) (es:=r) (fun y q=>by have:=h1 y q;omega);unfold kept at k ⊢;rw[YK,XR XA,k]
   rw[this];simp only[cS,dE,f,if_true];rw[Int.neg_mul];omega
  .have t:e∈r:=by
    rcases Yu.1 h with rfl|h
    .exact XT rfl c
    .exact h
   have i:=congrFun (Ek f h2 t) p
   have:kept e.id (z :: r)=z :: kept e.id r:=by
    unfold kept;rw[YK,XS (by simpa using c)]
   rw[this];simp only[cS,dE] at i ⊢;omega
theorem Fg{name:XK}{id:N}:∀ {es:J aO},(∀ e∈es,e.id=id->cN name e=XW)->dE name (kept id es)=dE name es
 |[],_=>rfl
 |z :: r,h=>by
  have i:=Fg (name:=name) (id:=id) (es:=r) (fun y f=>h y (by simp[f]))
  funext p
  have i:=congrFun i p;unfold kept at i ⊢;rw[YK]
  by_cases c:z.id=id
  .rw[XR (by simp[c])];simp only[dE,h z XA c,Yr,if_false];rw[i];omega
  .rw[XS (by simpa using c)];simp only[dE,i]
theorem sT:cN name (dI e)=cO e.bA name:=by
 simp[cN,dI]
theorem Lz{name:XK}{e:aO}(f:cO e.bA name=XX)(q:e.kind=3):∀ {es:J aO},dL es->e∈es->cS (dE name es) e.aQ e.aM=dE name (eA e.id es)
 |[],_,h=>by simp at h
 |z :: r,hi,h=>by
  let⟨h1,h2⟩:=hi.cons
  funext p
  by_cases c:z.id=e.id
  .have B:e=z:=hi.one h XA c.symm;subst B
   have:eA e.id (e :: r)=dI e :: r:=by
    have k:=Az (id:=e.id) (es:=r) (fun y u=>by have:=h1 y u;omega);unfold eA at k ⊢;rw[List.map_cons,XS rfl,k]
   rw[this];have t:cN name e=XW:=by simp[cN,q]
   simp only[cS,dE,t,sT,f,if_true,Yr,if_false];show 0+dE name r p+e.aM*gF e.aQ p=e.aM*gF e.aQ p+dE name r p;omega
  .have A:e∈r:=by
    rcases Yu.1 h with rfl|h
    .exact XT rfl c
    .exact h
   have i:=congrFun (Lz f q h2 A) p
   have:eA e.id (z :: r)=z :: eA e.id r:=by
    unfold eA;rw[List.map_cons,XR c]
   rw[this];simp only[cS,dE] at i ⊢;omega
theorem Fo{name:XK}{id:N}:∀ {es:J aO},(∀ e∈es,e.id=id->cO e.bA name=XX->e.kind≠3)->dE name (eA id es)=dE name es
 |[],_=>rfl
 |z :: r,h=>by
  have i:=Fo (name:=name) (id:=id) (es:=r) (fun y f=>h y (by simp[f]))
  funext p
  have i:=congrFun i p;unfold eA at i ⊢;rw[List.map_cons];simp only[dE,i]
  by_cases c:z.id=id
  .rw[XS c,sT]
   have e:cN name z=cO z.bA name:=by
    unfold cN
    cases k:cO z.bA name
    .rfl
    .have:=h z XA c k;simp[this]
   rw[e];rfl
  .rw[XR c]
theorem uk:e∈kept id es↔e∈es/\e.id≠id:=by simp[kept]
theorem rB:e∈eA id es↔(e∈es/\e.id≠id)\/∃ z∈es,z.id=id/\e=dI z:=by
 unfold eA;rw[Zh];constructor
 .rintro ⟨z,f,h⟩
  by_cases c:z.id=id
  .rw[XS c] at h;exact .inr ⟨z,f,c,h.symm⟩
  .rw[XR c] at h;subst h;exact .inl ⟨f,c⟩
 .rintro (⟨p,k⟩|⟨z,f,p,k⟩)
  .exact⟨e,p,XR k⟩
  .exact⟨z,f,by rw[XS p,k]⟩
end aA
namespace aA
def kJ(a b:N)(s:N × N):XN:=decide (s.1<b) && decide (a<s.2)
def gd(a b:N):J (N × N)->N
 |[]=>-1
 |s :: r=>if kJ a b s then s.1 else gd a b r
end aA
theorem Cd(x:aA.aO × M × M)(fr til:XQ)(w:XY)(h:gS w x.2.1 x.1.aQ)(I:x.1.aQ.length<=100000):
  X4 prog 266 #[.agg (eH x).toArray,fr,til] w fun e w'=>e=Yg (V Y (aA.gd fr til x.1.aQ))/\X0 w w w':=by
 have H:=aC h;clear h;simp only[eH]
 go_in
 go_wp21
 have t:X0 w w (w.alloc (Yh #[x.1.id,x.1.kind,x.1.bA,x.1.aM,X9 x.2.1 x.1.aQ.length x.2.2,x.1.bP] 58)):=bC;have A:(w.alloc (Yh #[x.1.id,x.1.kind,x.1.bA,x.1.aM,X9 x.2.1 x.1.aQ.length x.2.2,x.1.bP] 58)).cell? (w,4)=U (X9 x.2.1 x.1.aQ.length x.2.2):=XA
 have q:=aC (Yz (H.later t) t);clear t;generalize (World.alloc w _)=X at A q ⊢;generalize w=N at A ⊢
 go_loop [7] (fun i=>∃ k:M,k<=x.1.aQ.length/\i=V Y k/\aA.gd fr til x.1.aQ=aA.gd fr til (x.1.aQ.drop k)) (fun i=>x.1.aQ.length-(intOf i).toNat)
 .exact⟨0,Zd _,rfl,rfl⟩
 .obtain⟨k,K,rfl,D⟩:=hrel;have r:=aC D;clear D
  by_cases p:k<x.1.aQ.length
  .obtain⟨c1,c2⟩:=q.1 k p;have G:(k:XQ)<(x.1.aQ.length:XQ):=O
   have E:aA.gd fr til (x.1.aQ.drop k)=if aA.kJ fr til x.1.aQ[k] then x.1.aQ[k].1 else aA.gd fr til (x.1.aQ.drop (k+1)):=by rw[ZH p];rfl
   have u:=aC E;clear E
   by_cases C:x.1.aQ[k].1<til
   .by_cases B:fr<x.1.aQ[k].2
    .have c:Hid (aA.gd fr til x.1.aQ=x.1.aQ[k].1):=by
      show _=_;have f:aA.kJ fr til x.1.aQ[k]=XX:=by simp[aA.kJ,C,B]
      rw[r,u,f];rfl
     go_wp21
     go_ret;exact⟨iy c.symm,q.2⟩
    .have c:Hid (aA.gd fr til x.1.aQ=aA.gd fr til (x.1.aQ.drop (k+1))):=by
      show _=_;have f:aA.kJ fr til x.1.aQ[k]=XW:=by simp[aA.kJ,B]
      rw[r,u,f];rfl
     go_wp21
     go_round
     .exact⟨k+1,O,by go_num,c⟩
     .simp[intOf];omega
   .have c:Hid (aA.gd fr til x.1.aQ=aA.gd fr til (x.1.aQ.drop (k+1))):=by
     show _=_;have f:aA.kJ fr til x.1.aQ[k]=XW:=by simp[aA.kJ,C]
     rw[r,u,f];rfl
    go_wp21
    go_round
    .exact⟨k+1,O,by go_num,c⟩
    .simp[intOf];omega
  .have e:x.1.aQ.drop k=[]:=ZI O;have c:Hid (aA.gd fr til x.1.aQ=-1):=by show _=_;rw[r,e];rfl
   have G:¬ (k:XQ)<(x.1.aQ.length:XQ):=O
   clear e
   go_wp21
   go_ret;exact⟨iy c.symm,q.2⟩
theorem wS:(prog.info? 60).map (fun i=>(i.zero,i.size,i.bytes))=U (U (.agg #[V Y 0,V Y 0]),2,16):=XF
def jn(s:N × N):J XZ:=[V Y s.1,V Y s.2]
theorem wM(L:J (N × N)):(L.flatMap jn).length=L.length*2:=by
 induction L with
 |nil=>rfl
 |cons x xs ih=>simp only[Zp,YZ,Y0,ih,jn,List.length_nil];omega
theorem OP(L:J (N × N)):∀ (j:M)(u:XZ),(L.flatMap jn)[j]?=U u->∃ i,∃ h:i<L.length,(j=i*2/\u=V Y L[i].1)\/(j=i*2+1/\u=V Y L[i].2):=by
 intro j u f
 have r:j<L.length*2:=by
  have:=(List.getElem?_eq_some_iff.1 f).1
  rwa [wM] at this
 have q:j / 2<L.length:=O
 refine⟨j / 2,q,?_⟩;have c:L=L.take (j / 2)++L[j / 2] :: L.drop (j / 2+1):=by rw[Zq,Y8]
 have k:((L.take (j / 2)).flatMap jn).length=j / 2*2:=by rw[wM,Zs O]
 rw[c,Zr,Zp,Zt O,k,Zn (by simp[jn];omega)] at f;rcases (show j % 2=0\/j % 2=1 by omega) with e|e
 .have p:j-j / 2*2=0:=O
  rw[p] at f;simp[jn] at f;exact .inl ⟨O,f.symm⟩
 .have p:j-j / 2*2=1:=O
  rw[p] at f;simp[jn] at f;exact .inr ⟨O,f.symm⟩
theorem Bz{k:M}(h:w.ownsRow k 60 2 (X9 g n cap) n (L.flatMap jn)):n=L.length/\gS w g L:=by
 have C:=h.1;rw[wM] at C;have B:n=L.length:=O
 refine⟨B,fun i K=>?_⟩;rcases h.2 with ⟨G,_⟩|⟨X,r,q,t,R,D,W,T,S,E⟩
 .cases G
 .cases t
  have key:∀ (j:M) (u:XZ),j<2->(jn L[i])[j]?=U u->w.cell? (g,i*2+j)=U u:=by
   intro j u I A
   have H:(L.flatMap jn)[i*2+j]?=U u:=by
    have c:L=L.take i++L[i] :: L.drop (i+1):=by rw[Zq,Y8]
    rw[c,Zr,Zp];have f:((L.take i).flatMap jn).length=i*2:=by rw[wM,Zs O]
    rw[Zt O,f,Nat.add_sub_cancel_left,Zn (by simp[jn];omega)];exact A
   have p:(q.toList.take (n*2))[i*2+j]?=U u:=by rw[E];exact H
   rw[List.getElem?_take_of_lt O] at p;simp only[Array.getElem?_toList] at p;simp[YF,D,p]
  exact⟨key 0 _ O rfl,key 1 _ O rfl⟩
theorem sg{b:M}{t:X6}(h:w.heap[b]?=U (Yh #[c0,c1,c2,c3,c4,c5] t)):w.cell? (b,0)=U c0:=by simp[YF,h]
theorem rZ{b:M}{t:X6}(h:w.heap[b]?=U (Yh #[c0,c1,c2,c3,c4,c5] t)):w.cell? (b,1)=U c1:=by simp[YF,h]
theorem tC{b:M}{t:X6}(h:w.heap[b]?=U (Yh #[c0,c1,c2,c3,c4,c5] t)):w.cell? (b,2)=U c2:=by simp[YF,h]
theorem tD{b:M}{t:X6}(h:w.heap[b]?=U (Yh #[c0,c1,c2,c3,c4,c5] t)):w.cell? (b,3)=U c3:=by simp[YF,h]
theorem tF{b:M}{t:X6}(h:w.heap[b]?=U (Yh #[c0,c1,c2,c3,c4,c5] t)):w.cell? (b,4)=U c4:=by simp[YF,h]
theorem sb{b:M}{t:X6}(h:w.heap[b]?=U (Yh #[c0,c1,c2,c3,c4,c5] t)):w.cell? (b,5)=U c5:=by simp[YF,h]
theorem wq{b:M}{cs:Array XZ}{t:X6}(h:w.heap[b]?=U (Yh cs t)):∀ o,w.frozen? ⟨b,o,Z⟩=XW:=fun o=>by simp[World.frozen?,h]
theorem Po{X:XY}{f:M}{h o2:Obj}(c:X.grownBy w1 (Value.slice Z 0 0).ownBlock)(k:f+1<X)(q:X.heap[f]?=U h)(p:X.heap[f+1]?=U o2):w1.heap[f]?=U h/\w1.heap[f+1]?=U o2 :=
 ⟨(c.block f O XJ).trans q,(c.block (f+1) k XJ).trans p⟩
theorem Pn(x:aA.aO × M × M)(w:XY)(h:gS w x.2.1 x.1.aQ)(T:0<x.1.aQ.length)(hl:x.1.aQ.length<=1000):
  X4 prog 238 #[.agg (eH x).toArray] w fun e w'=>∃ g cap,e=Yg (.agg (eH (x.1,g,cap)).toArray)/\gS w' g x.1.aQ/\w.heap.size<=g/\g<w'.heap.size/\X0 w.heap.size w w':=by
 obtain⟨i0,W,H,G,E⟩:=info_parts wS;have HS:=aC h;clear h;simp only[eH]
 go_in
 go_upto_region 2 with fail
 have D:X0 w.heap.size w ((w.alloc (Yh #[V Y x.1.id,V Y x.1.kind,Ya x.1.bA,V Y x.1.aM,X9 (U ⟨x.2.1,0,Z⟩) x.1.aQ.length x.2.2,V Y x.1.bP] 58)).alloc (Yh #[V Y 0,V Y 0,Ya ⟨#[]⟩,V Y 0,X9 Z 0 0,V Y 0] 58)):=((zr _ _).alloc (zq _) _).alloc XA _;have I:((w.alloc (Yh #[V Y x.1.id,V Y x.1.kind,Ya x.1.bA,V Y x.1.aM,X9 (U ⟨x.2.1,0,Z⟩) x.1.aQ.length x.2.2,V Y x.1.bP] 58)).alloc (Yh #[V Y 0,V Y 0,Ya ⟨#[]⟩,V Y 0,X9 Z 0 0,V Y 0] 58)).heap.size=w.heap.size+2:=XA
 have p:∀ j u,(x.1.aQ.flatMap jn)[j]?=U u->((w.alloc (Yh #[V Y x.1.id,V Y x.1.kind,Ya x.1.bA,V Y x.1.aM,X9 (U ⟨x.2.1,0,Z⟩) x.1.aQ.length x.2.2,V Y x.1.bP] 58)).alloc (Yh #[V Y 0,V Y 0,Ya ⟨#[]⟩,V Y 0,X9 Z 0 0,V Y 0] 58)).cell? ((⟨x.2.1,0,Z⟩:Addr).add j)=U u:=by
  intro j u K
  have ea:∀ j:M,((⟨x.2.1,0,Z⟩:Addr).add j)=⟨x.2.1,j,Z⟩:=by
   intro j;unfold Addr.add;split
   .rename_i h;subst h;rfl
   .simp
  rw[ea];obtain⟨i,hi,(⟨rfl,rfl⟩|⟨rfl,rfl⟩)⟩:=OP _ j u K
  .exact aR D (HS.out i hi).1
  .exact aR D (HS.out i hi).2
 have a1:((w.alloc (Yh #[V Y x.1.id,V Y x.1.kind,Ya x.1.bA,V Y x.1.aM,X9 (U ⟨x.2.1,0,Z⟩) x.1.aQ.length x.2.2,V Y x.1.bP] 58)).alloc (Yh #[V Y 0,V Y 0,Ya ⟨#[]⟩,V Y 0,X9 Z 0 0,V Y 0] 58)).heap[w.heap.size]?=U (Yh #[V Y x.1.id,V Y x.1.kind,Ya x.1.bA,V Y x.1.aM,X9 (U ⟨x.2.1,0,Z⟩) x.1.aQ.length x.2.2,V Y x.1.bP] 58) :=
  (Below.heap_alloc _ _ _ XA).trans (cP _ _)
 have a2:((w.alloc (Yh #[V Y x.1.id,V Y x.1.kind,Ya x.1.bA,V Y x.1.aM,X9 (U ⟨x.2.1,0,Z⟩) x.1.aQ.length x.2.2,V Y x.1.bP] 58)).alloc (Yh #[V Y 0,V Y 0,Ya ⟨#[]⟩,V Y 0,X9 Z 0 0,V Y 0] 58)).heap[w.heap.size+1]?=U (Yh #[V Y 0,V Y 0,Ya ⟨#[]⟩,V Y 0,X9 Z 0 0,V Y 0] 58):=by
  have:=cP (w.alloc (Yh #[V Y x.1.id,V Y x.1.kind,Ya x.1.bA,V Y x.1.aM,X9 (U ⟨x.2.1,0,Z⟩) x.1.aQ.length x.2.2,V Y x.1.bP] 58)) (Yh #[V Y 0,V Y 0,Ya ⟨#[]⟩,V Y 0,X9 Z 0 0,V Y 0] 58)
  rwa [ZM] at this
 have NW:=aC p;have r:=aC (Yz D (Yz I (Yz a1 a2)));have x4:((w.alloc (Yh #[V Y x.1.id,V Y x.1.kind,Ya x.1.bA,V Y x.1.aM,X9 (U ⟨x.2.1,0,Z⟩) x.1.aQ.length x.2.2,V Y x.1.bP] 58)).alloc (Yh #[V Y 0,V Y 0,Ya ⟨#[]⟩,V Y 0,X9 Z 0 0,V Y 0] 58)).cell? ⟨w.heap.size,4,Z⟩=U (X9 (U ⟨x.2.1,0,Z⟩) x.1.aQ.length x.2.2):=by simp[YF,a1]
 clear D I p a1 a2;generalize ((w.alloc (Yh #[V Y x.1.id,V Y x.1.kind,Ya x.1.bA,V Y x.1.aM,X9 (U ⟨x.2.1,0,Z⟩) x.1.aQ.length x.2.2,V Y x.1.bP] 58)).alloc (Yh #[V Y 0,V Y 0,Ya ⟨#[]⟩,V Y 0,X9 Z 0 0,V Y 0] 58))=X at NW r x4 ⊢
 go_wp2_with (first
  |(at_builtin;refine wpList_append_lies _ rfl _ _ 56 rfl w.heap.size 60 i0 _ 2 16 underlying56 W H G E rfl XC (.slice Z 0 0) 0 [] rfl (World.ownsRow_nil _ _ _ _) ⟨x.2.1,0,Z⟩ x.1.aQ.length x.2.2 (x.1.aQ.flatMap jn) rfl (wM _) NW.out (by intro u K;obtain⟨s,_,hs⟩:=List.mem_flatMap.1 K;simp[jn] at hs;rcases hs with rfl|rfl <;> rfl) T XH O (by have:=r.out.2.1;omega) X.heap.size rfl ?_;intro g cap w1 R q ab S;obtain⟨A,t⟩:=Po q (by have:=r.out.2.1;omega) r.out.2.2.1 r.out.2.2.2;have b0:=sg A;have b1:=rZ A;have b2:=tC A;have b3:=tD A;have b5:=sb A;have b4:=tF A;have g4:=wq A;have r0:=sg t;have r1:=rZ t;have r2:=tC t;have r3:=tD t;have r4:=tF t;have r5:=sb t;have rf:=wq t))
 have hg:g=X.heap.size:=by
  rcases ab with e|e
  .simp[ZB] at e
  .exact e
 have I:=r.out.2.1;have B:w1.ownsRow w.heap.size 60 2 (X9 (U ⟨g,0,Z⟩) x.1.aQ.length cap) x.1.aQ.length (x.1.aQ.flatMap jn):=by simpa using R
 have f:X0 w.heap.size w w1:=r.out.1.grown q r.out.1.size (fun k C=>by simp[ZB] at C)
 have c:aH [w.heap.size,w.heap.size+1] w1 (((((((w1.setCell ⟨w.heap.size,4,Z⟩ (X9 (U ⟨g,0,Z⟩) x.1.aQ.length cap)).setCell ⟨w.heap.size+1,0,Z⟩ (V Y x.1.id)).setCell ⟨w.heap.size+1,1,Z⟩ (V Y x.1.kind)).setCell ⟨w.heap.size+1,2,Z⟩ (Ya x.1.bA)).setCell ⟨w.heap.size+1,3,Z⟩ (V Y x.1.aM)).setCell ⟨w.heap.size+1,4,Z⟩ (X9 (U ⟨g,0,Z⟩) x.1.aQ.length cap)).setCell ⟨w.heap.size+1,5,Z⟩ (V Y x.1.bP)) :=
  (((((((aH.refl _ w1).setCell (.inl XA) _ _).setCell (.inl XA) _ _).setCell (.inl XA) _ _).setCell (.inl XA) _ _).setCell (.inl XA) _ _).setCell (.inl XA) _ _).setCell (.inl XA) _ _
 have aa:X0 w.heap.size w (((((((w1.setCell ⟨w.heap.size,4,Z⟩ (X9 (U ⟨g,0,Z⟩) x.1.aQ.length cap)).setCell ⟨w.heap.size+1,0,Z⟩ (V Y x.1.id)).setCell ⟨w.heap.size+1,1,Z⟩ (V Y x.1.kind)).setCell ⟨w.heap.size+1,2,Z⟩ (Ya x.1.bA)).setCell ⟨w.heap.size+1,3,Z⟩ (V Y x.1.aM)).setCell ⟨w.heap.size+1,4,Z⟩ (X9 (U ⟨g,0,Z⟩) x.1.aQ.length cap)).setCell ⟨w.heap.size+1,5,Z⟩ (V Y x.1.bP)) :=
  ⟨c.os.trans f.os,c.tape.trans f.tape,c.output.trans f.output,Yk f.size c.size,fun k C=>(c.block k (zL C f.size) XG).trans (f.block k C)⟩
 refine bodyPost_ret (v:=.agg #[V Y x.1.id,V Y x.1.kind,Ya x.1.bA,V Y x.1.aM,X9 (U ⟨g,0,Z⟩) x.1.aQ.length cap,V Y x.1.bP]) (by simp[results,results238,go_sem,r0,r1,r2,r3,r4,r5]) rfl ⟨g,cap,rfl,(Bz B).2.off c XG,by omega,Zg S c.size,aa⟩
namespace aA
def lC(name:XK)(a b:N)(e:aO):XN:=cN name e && decide (0<=gd a b e.aQ)
end aA
structure oO(w wx:XY)(v:XZ)(ys:J (aA.aO × M × M)):Prop where
 own:wx.ownsRow w 58 6 v ys.length (ys.flatMap eH)
 sl:∀ y∈ys,gS wx y.2.1 y.1.aQ/\w<=y.2.1/\y.2.1<wx/\v.ownBlock≠U y.2.1
 bw:X0 w w wx
theorem oO.later{wx f:XY}{ys:J (aA.aO × M × M)}(h:oO w wx v ys)(k:X0 wx wx f):oO w f v ys :=
 ⟨eQ h.own k,fun y c=>⟨(h.sl y c).1.later k,(h.sl y c).2.1,Zg (h.sl y c).2.2.1 k.size,(h.sl y c).2.2.2⟩,bM h.bw k aI⟩
namespace cZ
def before(fs:J N)(k i:M):XN:=decide (fs.getD k 0<fs.getD i 0) || (decide (fs.getD k 0=fs.getD i 0) && decide (k<i))
def upto(fs:J N)(i n:M):M:=((List.range n).filter (fun k=>before fs k i)).length
def lz(fs:J N)(i:M):M:=upto fs i fs.length
theorem wL(fs:J N)(i n:M):upto fs i (n+1)=upto fs i n+if before fs n i then 1 else 0:=by
 unfold upto;rw[List.range_succ,List.filter_append,YZ]
 cases h:before fs n i <;> simp[h]
theorem H6(fs:J N)(i:M):before fs i i=XW:=by simp[before]
theorem P3{a b c:M}(h:before fs a b=XX)(k:before fs b c=XX):before fs a c=XX:=by
 simp[before] at *;omega
theorem Hx(fs:J N){a b:M}(h:a≠b):before fs a b=XX\/before fs b a=XX:=by
 simp[before];omega
theorem BJ(fs:J N)(i:M):∀ n,upto fs i n<=n
 |0=>by simp[upto]
 |n+1=>by have:=BJ fs i n;rw[wL];split <;> omega
theorem Gu(fs:J N){i:M}:∀ {n},i<n->upto fs i n<n
 |0,h=>by omega
 |n+1,h=>by
  rw[wL]
  by_cases e:i=n
  .subst e;rw[H6];have:=BJ fs i i;simp;omega
  .have:=Gu fs (i:=i) (n:=n) O
   split <;> omega
theorem BI(fs:J N)(h:i<fs.length):lz fs i<fs.length:=Gu fs h
theorem Ha{fs:J N}{i j:M}(h:before fs i j=XX):∀ n,upto fs i n+(if i<n then 1 else 0)<=upto fs j n
 |0=>by simp[upto]
 |n+1=>by
  have ih:=Ha h n;rw[wL,wL]
  by_cases e:n=i
  .subst e;rw[H6,h];simp at ih ⊢;omega
  .have k:(if i<n+1 then 1 else 0:M)=(if i<n then 1 else 0):=by
    by_cases c:i<n
    .rw[XS c,XS O]
    .rw[XR c,XR O]
   rw[k];generalize (if i<n then 1 else 0:M)=q at ih ⊢
   cases f:before fs n i
   .simp only[Yr,if_false]
    split <;> omega
   .rw[P3 f h];simp only[if_true];omega
theorem Cc(c:i<fs.length)(h:before fs i j=XX):lz fs i<lz fs j:=by
 have:=Ha h fs.length;rw[XS c] at this;exact this
theorem BS(k:i<fs.length)(f:j<fs.length)(h:lz fs i=lz fs j):i=j:=by
 by_cases e:i=j
 .exact e
 .rcases Hx fs e with c|c
  .have:=Cc k c;omega
  .have:=Cc f c;omega
end cZ
theorem Bs:∀ (n:M)(l:J M),l.Nodup->(∀ x∈l,x<n)->l.length<=n
 |0,l,_,h=>by
  cases l with
  |nil=>simp
  |cons x l=>have:=h x XA;omega
 |n+1,l,hd,h=>by
  by_cases c:n∈l
  .have r:(l.erase n).length<=n:=Bs n (l.erase n) (hd.erase n) (fun x f=>by
    have q:=List.mem_of_mem_erase f;have p:=h x q;have k:x≠n:=fun e=>by subst e;exact hd.not_mem_erase f
    omega)
   rw[List.length_erase_of_mem c] at r;omega
  .have:=Bs n l hd (fun x f=>by
    have p:=h x f;have k:x≠n:=fun e=>by subst e;exact c f
    omega)
   omega
theorem Pu{l:J M}(q:l.Nodup)(h:∀ x∈l,x<n)(r:l.length=n):∀ k,k<n->k∈l:=by
 intro k p;apply Classical.byContradiction;intro c
 have:=Bs n (k :: l) (List.nodup_cons.2 ⟨c,q⟩) (fun x f=>by
  rcases Yu.1 f with rfl|f
  .exact p
  .exact h x f)
 simp at this;omega
namespace cZ
theorem yS(fs:J N){k:M}(p:k<fs.length):∃ i,i<fs.length/\lz fs i=k:=by
 have r:((List.range fs.length).map (lz fs)).Nodup:=by
  unfold List.Nodup;rw[List.pairwise_map];refine List.Pairwise.imp_of_mem ?_ (List.nodup_range (n:=fs.length));intro i j c q f e;exact f (BS (List.mem_range.1 c) (List.mem_range.1 q) e)
 have:=Pu r (fun x h=>by
  obtain⟨i,c,rfl⟩:=Zh.1 h
  exact BI fs (List.mem_range.1 c)) XA k p
 let⟨i,c,e⟩:=Zh.1 this;exact⟨i,List.mem_range.1 c,e⟩
end cZ
namespace aA
def mV(a b:N)(x y:aO):Prop:=gd a b x.aQ<gd a b y.aQ\/(gd a b x.aQ=gd a b y.aQ/\x.id<y.id)
theorem U2(a b:N)(x:aO):¬ mV a b x x:=by unfold mV;omega
theorem J4(a b:N)(x y z:aO)(h:mV a b x y)(k:mV a b y z):mV a b x z:=by unfold mV at *;omega
def oP(a b:N)(l:J aO):J N:=l.map fun e=>gd a b e.aQ
theorem Cg{a:N}{l:J aO}(h:i<l.length):(oP a b l).getD i 0=gd a b l[i].aQ:=by
 simp[oP,List.getD,h]
theorem Pf{a:N}{l out:J aO}(A:dL l)(E:out.length=l.length)(h:∀ (i:M)(c:i<l.length),out[cZ.lz (oP a b l) i]?=U l[i]):out.Pairwise (mV a b)/\∀ e,e∈out↔e∈l:=by
 have H:(oP a b l).length=l.length:=by simp[oP]
 have f:∀ (k:M),k<out.length->∃ (i:M) (c:i<l.length),cZ.lz (oP a b l) i=k/\out[k]?=U l[i]:=by
  intro k u;let⟨i,c,e⟩:=cZ.yS (oP a b l) (k:=k) O;rw[H] at c;exact⟨i,c,e,by rw[<- e];exact h i c⟩
 refine⟨?_,fun e=>⟨fun B=>?_,fun B=>?_⟩⟩
 .rw[List.pairwise_iff_getElem];intro p q D C G;let⟨i,c,e1,e2⟩:=f p D;let⟨j,hj,e3,e4⟩:=f q C;rw[ZV D] at e2;rw[ZV C] at e4;rw[ZN e2,ZN e4];have t:i≠j:=fun e=>by subst e;omega
  rcases cZ.Hx (oP a b l) t with r|r
  .unfold cZ.before at r;rw[Cg c,Cg hj] at r;simp at r;rcases r with r|⟨r,I⟩
   .exact .inl r
   .refine .inr ⟨r,?_⟩;have:=List.pairwise_iff_getElem.1 A i j (by simpa using c) (by simpa using hj) I
    simpa using this
  .have:=cZ.Cc (fs:=oP a b l) O r;omega
 .obtain⟨k,u,rfl⟩:=List.getElem_of_mem B;let⟨i,c,_,e2⟩:=f k u;rw[ZV u] at e2;rw[ZN e2];exact zg c
 .obtain⟨i,c,rfl⟩:=List.getElem_of_mem B;exact List.mem_of_getElem? (h i c)
def iu(L:J (N × N)):Prop:=L.Pairwise fun s t=>s.1<t.1
theorem DU{a b:N}:∀ {L:J (N × N)},iu L->(∃ s∈L,kJ a b s=XX)->(∃ s∈L,kJ a b s=XX/\s.1=gd a b L)/\∀ t∈L,kJ a b t=XX->gd a b L<=t.1
 |[],_,h=>by let⟨s,hs,_⟩:=h;simp at hs
 |s :: r,hr,h=>by
  unfold iu at hr;rw[YI] at hr;simp only[gd]
  by_cases c:kJ a b s=XX
  .rw[XS c];refine⟨⟨s,by simp,c,rfl⟩,fun t ht _=>?_⟩;rcases Yu.1 ht with rfl|ht
   .omega
   .have:=hr.1 t ht;omega
  .rw[XR c]
   have q:∃ s∈r,kJ a b s=XX:=by
    let⟨t,ht,k⟩:=h;rcases Yu.1 ht with rfl|ht
    .exact XT k c
    .exact⟨t,ht,k⟩
   let⟨⟨t,k1,k2,k3⟩,k4⟩:=DU (a:=a) (b:=b) (L:=r) hr.2 q;refine⟨⟨t,by simp[k1],k2,k3⟩,fun u f p=>?_⟩;rcases Yu.1 f with rfl|f
   .exact XT p c
   .exact k4 u f p
theorem Lg{a b:N}:∀ {L:J (N × N)},(∀ s∈L,kJ a b s=XW)->gd a b L=-1
 |[],_=>rfl
 |s :: r,h=>by
  simp only[gd];rw[XR (by rw[h s XA];simp)];exact Lg (fun t ht=>h t (by simp[ht]))
theorem LK{a:N}(k:iu L)(q:∀ s∈L,0<=s.1):0<=gd a b L↔∃ s∈L,kJ a b s=XX:=by
 constructor
 .intro h;apply Classical.byContradiction;intro c
  have:gd a b L=-1:=Lg (fun s f=>by
   cases p:kJ a b s
   .rfl
   .exact XT ⟨s,f,p⟩ c)
  omega
 .intro h;let⟨⟨s,k1,_,k3⟩,_⟩:=DU k h;have:=q s k1;omega
def vu(acc:J aF.It)(z:aF.It):J aF.It:=if acc.any fun u=>decide (u.n=z.n) then acc else acc++[z]
def uniq(c:J aF.It):J aF.It:=c.foldl vu []
theorem Af(c:J aF.It)(z:aF.It):uniq (c++[z])=vu (uniq c) z:=by unfold uniq;rw[List.foldl_append];rfl
theorem Ry:∀ (n:M)(p:J aF.It),p.length=n->aF.Ord p->aF.Ord (uniq p)/\(∀ u∈uniq p,u∈p)/\(∀ z∈p,∃ u∈uniq p,u.n=z.n/\(u=z\/aF.lt u z))/\((uniq p).map (·.n)).Nodup:=by
 intro n
 induction n with
 |zero =>
  intro p r _;rw[List.length_eq_zero_iff.1 r];exact⟨List.Pairwise.nil,by simp[uniq],by simp,by simp[uniq]⟩
 |succ n ih =>
  intro p r q;obtain⟨K,z,rfl⟩:∃ K z,p=K++[z]:=⟨p.dropLast,p.getLast (by intro e;simp[e] at r),(List.dropLast_concat_getLast _).symm⟩;unfold aF.Ord at q;rw[List.pairwise_append] at q;let⟨i1,i2,i3,i4⟩:=ih K (by simpa using r) q.1;rw[Af];unfold vu
  by_cases c:((uniq K).any fun u=>decide (u.n=z.n))=XX
  .rw[XS c];let⟨u,f,hc⟩:=List.any_eq_true.1 c;refine⟨i1,fun u f=>by simp[i2 u f],fun y h=>?_,i4⟩;rcases Yv.1 h with h|h
   .exact i3 y h
   .have:y=z:=by simpa using h
    subst this;exact⟨u,f,by simpa using hc,.inr (q.2.2 u (i2 u f) y XA)⟩
  .rw[XR c];have t:∀ u∈uniq K,u.n≠z.n:=fun u f e=>c (List.any_eq_true.2 ⟨u,f,by simp[e]⟩)
   refine⟨?_,fun u f=>?_,fun y h=>?_,?_⟩
   .unfold aF.Ord;rw[List.pairwise_append]
    exact⟨i1,by simp,fun u f y h=>by
     have:y=z:=by simpa using h
     subst this
     exact q.2.2 u (i2 u f) y XA⟩
   .rcases Yv.1 f with f|f
    .simp[i2 u f]
    .simp at f;simp[f]
   .rcases Yv.1 h with h|h
    .let⟨u,f,k⟩:=i3 y h;exact⟨u,by simp[f],k⟩
    .have:y=z:=by simpa using h
     subst this;exact⟨y,by simp,rfl,.inl rfl⟩
   .rw[Zl,List.nodup_append];refine⟨i4,by simp,fun x A y h e=>?_⟩;obtain⟨u,f,rfl⟩:=Zh.1 A;simp at h;exact t u f (by rw[e,h])
def im(name:XK)(es:J aO)(at_:N->M)(T:aF.S):Prop :=
 aF.Ord (aF.cH T)/\∀ z,z∈aF.cH T↔∃ e∈es,cN name e=XX/\∃ s∈e.aQ,z=⟨s.1,s.2,e.id,at_ e.id⟩
theorem Rx{at_:N->M}{T:aF.S}{a:N}(h:im name es at_ T)(X:dL es)(hr:∀ e∈es,iu e.aQ)(h0:∀ e∈es,∀ s∈e.aQ,0<=s.1){ys:J aO}(hl:ys.length=(uniq (aF.meet a b T)).length)(hy:∀ (i:M)(A:i<ys.length),ys[i]∈es/\ys[i].id=((uniq (aF.meet a b T))[i]'Xz).n):
  ys.Pairwise (mV a b)/\∀ e,e∈ys↔e∈es.filter (lC name a b):=by
 have hM:=aF.zX a b T h.1;have hO:aF.Ord (aF.meet a b T):=by rw[hM];exact aF.Lf _ h.1
 obtain⟨u1,u2,u3,u4⟩:=Ry _ (aF.meet a b T) rfl hO
 have D:∀ z,z∈aF.meet a b T↔∃ e∈es,cN name e=XX/\∃ s∈e.aQ,kJ a b s=XX/\z=⟨s.1,s.2,e.id,at_ e.id⟩:=by
  intro z;rw[hM,List.mem_filter,h.2];constructor
  .rintro ⟨⟨e,C,I,s,p,rfl⟩,B⟩;exact⟨e,C,I,s,p,B,rfl⟩
  .rintro ⟨e,C,I,s,p,B,rfl⟩;exact⟨⟨e,C,I,s,p,rfl⟩,B⟩
 -- each item that is kept stands at its entry's first
 have fst:∀ u∈uniq (aF.meet a b T),∀ e∈es,e.id=u.n->cN name e=XX/\u.f=gd a b e.aQ/\∃ s∈e.aQ,kJ a b s=XX:=by
  intro u K e k hn;obtain⟨e',C,I,s,p,B,rfl⟩:=(D u).1 (u2 u K);have:e=e':=X.one k C hn;subst this;refine⟨I,?_,s,p,B⟩;obtain⟨⟨t,t1,t2,t3⟩,t4⟩:=DU (hr e k) ⟨s,p,B⟩;have ad:=t4 s p B;obtain⟨u',ab,m1,H⟩:=u3 ⟨t.1,t.2,e.id,at_ e.id⟩ ((D _).2 ⟨e,k,I,t,t1,t2,rfl⟩)
  have W:u'=⟨s.1,s.2,e.id,at_ e.id⟩:=by
   have q:=u4;unfold List.Nodup at q;rw[List.pairwise_map] at q;apply Classical.byContradiction;intro ac;obtain⟨i,A,ei⟩:=List.getElem_of_mem ab;obtain⟨j,hj,ej⟩:=List.getElem_of_mem K;have E:i≠j:=fun e=>by subst e;exact ac (ei.symm.trans ej)
   rcases Nat.lt_or_gt_of_ne E with c|c
   .have:=List.pairwise_iff_getElem.1 q i j A hj c;rw[ei,ej] at this;exact this m1
   .have:=List.pairwise_iff_getElem.1 q j i hj A c;rw[ei,ej] at this;exact this m1.symm
  subst W;show s.1=_;rcases H with H|H
  .have:=congrArg aF.It.f H;simp at this;omega
  .unfold aF.lt at H;simp at H;omega
 have aa:∀ u∈uniq (aF.meet a b T),∀ e∈es,e.id=u.n->e∈es.filter (lC name a b):=by
  intro u K e k hn;obtain⟨C,_,p⟩:=fst u K e k hn;exact List.mem_filter.2 ⟨k,by simp[lC,C,(LK (hr e k) (h0 e k)).2 p]⟩
 refine⟨?_,fun e=>⟨fun k=>?_,fun k=>?_⟩⟩
 .rw[List.pairwise_iff_getElem];intro i j A hj E;have o:=List.pairwise_iff_getElem.1 u1 i j O O E;obtain⟨a1,R⟩:=hy i A;obtain⟨b1,b2⟩:=hy j hj;have f1:=(fst _ (zg O) _ a1 R).2.1;have f2:=(fst _ (zg O) _ b1 b2).2.1;unfold aF.lt at o;unfold mV;rw[<- f1,<- f2,R,b2];exact o
 .obtain⟨i,A,rfl⟩:=List.getElem_of_mem k;obtain⟨a1,R⟩:=hy i A;exact aa _ (zg O) _ a1 R
 .obtain⟨r,G⟩:=List.mem_filter.1 k;simp only[lC,ZR,decide_eq_true_eq] at G;obtain⟨s,s1,s2⟩:=(LK (hr e r) (h0 e r)).1 G.2;obtain⟨u,K,m1,_⟩:=u3 _ ((D _).2 ⟨e,r,G.1,s,s1,s2,rfl⟩);obtain⟨i,A,ei⟩:=List.getElem_of_mem K;obtain⟨a1,R⟩:=hy i O;have:ys[i]'Xz=e:=X.one a1 r (by rw[R,ei];exact m1);rw[<- this];exact zg _
theorem xQ(p:aO->XN)(h:dL es):dL (es.filter p):=by
 unfold dL at *;exact List.Pairwise.sublist (List.Sublist.map _ List.filter_sublist) h
end aA
namespace aA
theorem Ej{a b:XK}:cO a b=XX↔a.toList=b.toList:=by simp[cO]
theorem sV(a:XK):cO a a=XX:=Ej.2 rfl
theorem Lx{a b c:XK}(h:cO a b=XX):cO c a=cO c b:=by
 unfold cO;rw[Ej.1 h]
def oW(a b:N)(x:aO):J aO->J aO
 |[]=>[x]
 |y :: r=>if gd a b x.aQ<gd a b y.aQ\/(gd a b x.aQ=gd a b y.aQ/\x.id<y.id) then x :: y :: r else y :: oW a b x r
def sJ(a b:N):J aO->J aO
 |[]=>[]
 |x :: r=>oW a b x (sJ a b r)
theorem Du{a b:N}{x z:aO}:∀ {l:J aO},z∈oW a b x l↔z=x\/z∈l
 |[]=>by simp[oW]
 |y :: r=>by
  simp only[oW]
  split
  .simp
  .rw[Yu,Du,Yu];constructor
   .rintro (h|h|h)
    .exact .inr (.inl h)
    .exact .inl h
    .exact .inr (.inr h)
   .rintro (h|h|h)
    .exact .inr (.inl h)
    .exact .inl h
    .exact .inr (.inr h)
theorem Ax{a b:N}{z:aO}:∀ {l:J aO},z∈sJ a b l↔z∈l
 |[]=>by simp[sJ]
 |x :: r=>by rw[sJ,Du,Ax,Yu]
theorem IP{a b:N}{x:aO}:∀ {l:J aO},l.Pairwise (mV a b)->(∀ z∈l,z.id≠x.id)->(oW a b x l).Pairwise (mV a b)
 |[],_,_=>by simp[oW]
 |y :: r,h,hn=>by
  rw[YI] at h;simp only[oW]
  split
  .rename_i c
   refine YI.2 ⟨fun z f=>?_,YI.2 h⟩;rcases Yu.1 f with rfl|f
   .exact c
   .exact J4 a b x y z c (h.1 z f)
  .rename_i c
   refine YI.2 ⟨fun z f=>?_,IP h.2 (fun z f=>hn z (by simp[f]))⟩;rcases Du.1 f with rfl|f
   .have:=hn y XA;unfold mV;omega
   .exact h.1 z f
theorem JJ{a b:N}:∀ {l:J aO},dL l->(sJ a b l).Pairwise (mV a b)
 |[],_=>by simp[sJ]
 |x :: r,h=>by
  let⟨h1,h2⟩:=h.cons;exact IP (JJ h2) (fun z c=>by have:=h1 z (Ax.1 c);omega)
def lO(name:XK)(a b:N)(es:J aO):J aO:=sJ a b (es.filter (lC name a b))
theorem J1{a:N}{out:J aO}(c:dL es)(h:out.Pairwise (mV a b))(f:∀ e,e∈out↔e∈es.filter (lC name a b)):out=lO name a b es :=
 Fe (U2 a b) (J4 a b) h (JJ (xQ _ c)) (fun e=>(f e).trans Ax.symm)
def ey(ts:J (XK × N)):J aO->J aO->J aO × J N
 |done,[]=>(done,[])
 |done,e :: r =>
  if e.kind=3/\eo ts (done++e :: r) e.bA e.aM e.aQ=XX then
   ((ey ts (done++[dI e]) r).1,e.id :: (ey ts (done++[dI e]) r).2)
  else ey ts (done++[e]) r
def dB(ts:J (XK × N))(es:J aO):J aO × J N:=ey ts [] es
def dP(tq:N):J aO->N
 |[]=>tq
 |e :: r=>if e.kind≠1/\e.bP<dP tq r then e.bP else dP tq r
def bO(t:N)(e:aO):XN:=(e.kind != 1) && decide (e.bP=t)
def fg(ts:J (XK × N)):M->J aO->N->N->J aO × J N × J N
 |0,es,_,_=>(es,[],[])
 |k+1,es,now,tq =>
  if now<tq then
   let t:=dP tq es
   let g:=dB ts (es.filter fun e=>!bO t e)
   let q:=fg ts k g.1 t tq
   (q.1,(es.filter (bO t)).map (·.id)++q.2.1,g.2++q.2.2)
  else (es,[],[])
structure St where
 ts:J (XK × N)
 es:J aO
 given:N
 now:N
structure bI where
 err:N
 at_:N
 n:N
 entries:J aO
 days:J N
 granted:J N
 ended:J N
def bI.error(e:N):bI:=⟨e,0,0,[],[],[],[]⟩
def bI.num(n:N):bI:=⟨0,0,n,[],[],[],[]⟩
inductive gn where
 |bA (name:XK) (aM:XQ)
 |enter (kind:XQ) (name:XK) (aM fr til long:XQ)
 |series (name:XK) (aM:XQ) (r:Rd.cA)
 |bF (id:XQ)
 |cancel (id:XQ)
 |list (name:XK) (fr til:XQ)
 |waiting
 |dN (name:XK) (fr til:XQ)
 |find (name:XK) (aM long fr til:XQ)
 |expand (r:Rd.cA)
 |tick (n:XQ)
 |clock
def kB(s:St)(e:aO):St × bI:=(⟨s.ts,s.es++[{ e with id:=s.given+1 }],s.given+1,s.now⟩,bI.num (s.given+1))
def py(s:St)(c:N)(name:XK)(aM fr til long:N):N :=
 if eB s.ts name aM≠0 then eB s.ts name aM
 else if til<=fr\/1048320<s.now+long then 6
 else if s.given=60 then 5
 else if c=3 then (if eM s.es=6 then 5 else 0)
 else if eo s.ts s.es name aM [(fr,til)] then 0 else 8
def pj(s:St)(c:N)(name:XK)(aM fr til long:N):aO:=⟨0,c,name,aM,[(fr,til)],if c=1 then 0 else s.now+long⟩
def np(s:St)(name:XK)(aM:N)(r:Rd.cA):N :=
 if eB s.ts name aM≠0 then eB s.ts name aM
 else if Rd.gQ r≠0 then Rd.gQ r
 else if s.given=60 then 5
 else if eo s.ts s.es name aM (Rd.gY r (Rd.bY r)) then 0 else 8
def lL(id:N)(es:J aO):XM aO:=es.find? fun e=>decide (e.id=id)
def aV(s:St):gn->St × bI
 |.bA name aM=>if bW name s.ts≠0 then (s,.error 4) else if s.ts.length=4 then (s,.error 5) else ({ s with ts:=s.ts++[(name,aM)] },.num 0)
 |.enter kind name aM fr til long=>if py s kind name aM fr til long≠0 then (s,.error (py s kind name aM fr til long)) else kB s (pj s kind name aM fr til long)
 |.series name aM r=>if np s name aM r≠0 then (s,.error (np s name aM r)) else kB s ⟨0,1,name,aM,Rd.gY r (Rd.bY r),0⟩
 |.bF id=>match lL id s.es with
  |none=>(s,.error 9)
  |some e=>if e.kind≠2 then (s,.error 10) else ({ s with es:=eA id s.es },.num 0)
 |.cancel id=>match lL id s.es with
  |none=>(s,.error 9)
  |some _=>({ s with es:=kept id s.es },.num 0)
 |.list name fr til=>if bW name s.ts=0 then (s,.error 3) else if til<=fr then (s,.error 6) else (s,{ bI.num 0 with entries:=lO name fr til s.es })
 |.waiting=>(s,{ bI.num 0 with entries:=s.es.filter fun e=>e.kind==3 })
 |.dN name fr til=>if bW name s.ts=0 then (s,.error 3) else if til<=fr then (s,.error 6) else (s,.num (mQ name s.es fr til))
 |.find name aM long fr til=>if eB s.ts name aM≠0 then (s,.error (eB s.ts name aM)) else if til<=fr then (s,.error 6) else (s,.num (jH s.ts s.es name aM long fr til))
 |.expand r=>if Rd.gQ r≠0 then (s,.error (Rd.gQ r)) else (s,{ bI.num (Rd.bY r).length with days:=Rd.bY r })
 |.tick n=>if 1048320<s.now+n then (s,.error 6) else
   let q:=fg s.ts (s.es.length+1) s.es s.now (s.now+n)
   ({ s with es:=q.1,now:=s.now+n },{ bI.num (s.now+n) with granted:=q.2.2,ended:=q.2.1 })
 |.clock=>(s,.num s.now)
def ix(s:St)(l:gn):St × bI :=
 if (aV s l).2.err≠0 then aV s l
 else ({ (aV s l).1 with es:=(dB (aV s l).1.ts (aV s l).1.es).1 },{ (aV s l).2 with granted:=(aV s l).2.granted++(dB (aV s l).1.ts (aV s l).1.es).2 })
def iV:gn->Prop
 |.bA _ u=>1<=u/\u<=9
 |.enter k _ u fr til long=>(k=1/\long=0\/(k=2\/k=3)/\1<=long/\long<=1048320)/\1<=u/\u<=9/\0<=fr/\fr<=1048320/\0<=til/\til<=1048320
 |.series _ u r=>1<=u/\u<=9/\Rd.fY r
 |.bF id=>0<=id/\id<=9999999
 |.cancel id=>0<=id/\id<=9999999
 |.list _ fr til=>0<=fr/\fr<=1048320/\0<=til/\til<=1048320
 |.waiting=>True
 |.dN _ fr til=>0<=fr/\fr<=1048320/\0<=til/\til<=1048320
 |.find _ u long fr til=>1<=u/\u<=9/\1<=long/\long<=1048320/\0<=fr/\fr<=1048320/\0<=til/\til<=1048320
 |.expand r=>Rd.fY r
 |.tick n=>1<=n/\n<=1048320
 |.clock=>True
structure ie(now:N)(e:aO):Prop where
 u1:1<=e.aM
 u9:e.aM<=9
 sl:e.aQ.length<=40
 s0:e.aQ≠[]
 sp:pN e.aQ
 ri:iu e.aQ
 kd:(e.kind=1/\e.bP=0)\/((e.kind=2\/e.kind=3)/\now<e.bP/\e.bP<=1048320/\e.aQ.length=1)
structure Inv(s:St):Prop where
 tl:s.ts.length<=4
 tu:∀ t∈s.ts,1<=t.2/\t.2<=9
 tn:s.ts.Pairwise fun t u=>cO t.1 u.1=XW
 ids:dL s.es
 lS:∀ e∈s.es,1<=e.id/\e.id<=s.given
 g0:0<=s.given
 g1:s.given<=60
 n0:0<=s.now
 n1:s.now<=1048320
 en:∀ e∈s.es,ie s.now e
 th:∀ e∈s.es,e.aM<=bW e.bA s.ts
 wa:eM s.es<=6
 no:∀ e∈s.es,e.kind=3->eo s.ts s.es e.bA e.aM e.aQ=XW
 wi:∀ name x,bZ name x s.es<=bW name s.ts
end aA
end Go.Proofs.YtfigmlfdnickmaaGreatDoor
