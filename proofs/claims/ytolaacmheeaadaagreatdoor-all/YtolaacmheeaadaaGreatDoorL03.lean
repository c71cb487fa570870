import Derived.Test.YtolaacmheeaadaaGreatDoorL02
import Derived.Lib.FieldsP
import Derived.Lib.SplitLaws
set_option maxRecDepth 100000
set_option maxHeartbeats 8000000
open Go.Proofs.Tryz
open _root_ renaming ByteArray->Us,List->Ut,Option->Uu,Bool->Uv,Nat->Uw,Int->Ux,if_neg->Uy,if_pos->Uz,absurd->UA,Int->N,Nat->M,List->J
open Option renaming none->UB,some->UC,mem_toList->Wn,getD_some->WL,getD_none->WV,none->Z,some->U
open Bool renaming false->UD,true->UE,and_eq_true->Wu,eq_iff_iff->Wy,false_eq_true->U7
open Go renaming World->UF,Value->UG,Calls->UI,TypeId->UK
open Go.RowKit renaming Below->UH
open Go.World renaming cell?_setCell_same->Ve,block_lt_of_cell?->U1,news_of_block->Wf,frozen?_of_block->Wk,size_alloc->Wp,cell?->Vk
open Nat renaming lt_of_lt_of_le->VP,le_trans->U0,zero_le->VM,add_zero->WQ,le_refl->UY
open Go.Value renaming ownBlock->V9,int->UL,pointer->UM,slice->UO,string->UQ,int->V
open List renaming mem_cons->Va,mem_append->Vb,mem_cons_of_mem->Wm,flatMap_append->VX,length_append->VA,drop_eq_getElem_cons->Wh,drop_eq_nil_of_le->Wi,take_succ_eq_append_getElem->VL,take_of_length_le->VN,foldl_cons->Wv,length_cons->VB,getD_eq_getElem?_getD->Ww,getElem?_eq_getElem->Wx,all_eq_true->WB,mem_iff_getElem?->WC,getElem?_drop->WD,getElem?_take->WE,isPrefixOf->WH,length_map->We,pairwise_cons->Vn,pairwise_append->W8,mem_filter->Xb,filter_eq_self->Xc,filter_cons->Vp,any_eq_true->Xd,foldl_append->Xe,cons_append->Vm,append_assoc->V8,mem_map->VQ,length_take_le->VT,map_append->VU,countP_eq_length_filter->Xf,countP->Xg,countP_mono_left->Xh,exists_mem_of_length_pos->Xj,map_cons->Xl,flatMap_cons->VW,length_take_of_le->VY,getElem?_append_right->VZ,getElem?_append_left->VV,range->Xm,Nodup->Xn,pairwise_map->Xo,mem_range->Xq,pairwise_iff_getElem->Xr,getElem_of_mem->Xs
open And renaming intro->Vf
open Option.some renaming inj->Wq
open Go.Maps renaming size->Wr,has->Ws
open Go.WideAt renaming IsKeyLit->Wt
open Go.Lib renaming cut->Wz,occAt->WG,index->WI,closeSpans->WK,spansFromP->WU,goFieldsP->WW,splitK->W4
open Int renaming eq_ofNat_of_zero_le->WJ,le_refl->W5,sub_emod_right->W6,emod_eq_of_lt->W7,mul_le_mul_of_nonneg_right->Xi,mul_nonneg->VI,mul_comm->Xk
open Go.Utf8 renaming decode->WM,runeError->WS
open ByteArray renaming size_extract->WX
open List.cons renaming injEq->WY
open Classical renaming byContradiction->W9
open List.Pairwise renaming sublist->Xa,filter->Vq,imp_of_mem->Xp,nil->Xt
open Go.IntKind renaming i64->UV,i64->Y
open Go.Ending renaming returned->UW
open Go.Obj renaming cells->UX
variable{name s:Us}{e z:Go.Proofs.YtolaacmheeaadaaGreatDoor.aA.aQ}{b fr given id level long m tq x y:Ux}{ts:Ut (Us × Ux)}{L:Ut (Ux × Ux)}{es:Ut Go.Proofs.YtolaacmheeaadaaGreatDoor.aA.aQ}{acc fs:Ut Ux}{F:Ut Uw}{l:Ut UInt8}{cap d g i j n sz:Uw}{c0 c1 c2 c3 c4 c5 key v:Go.Value}{w w' w1:Go.World}
namespace Go.Proofs.YtolaacmheeaadaaGreatDoor
open Go.RowKit
def vz(w:UF)(d:M)(ts:J (Us × N))(f:J (aA.aQ × M × M))(given now:N)(F:J M)(w':UF):Prop :=∃ c,RD w' d ts f given now c/\(∀ k∈c,k∈F\/w<=k)/\aH F w w'
theorem RD.pX{f:J (aA.aQ × M × M)}{now:N}(h:RD w d ts f given now F)(g:N):RD (w.setCell (d,2) g) d ts f g now F:=by
 let⟨v1,a1,a2,a3⟩:=h.tv;let⟨v2,b1,b2,b3⟩:=h.ev;have k:aH [d] w (w.setCell (d,2) g):=aH.bM ..;exact⟨⟨v1,(bC Ui).trans a1,dL a2 k (fun b p=>by grind),a3⟩,⟨v2,(bC Ui).trans b1,dL b2 k (fun b p=>by grind),b3⟩,Ve _ _ _ h.c2,(bC Ui).trans h.c3,fun o=>(zF ..).trans (h.fz o),h.dF,fun x c=>⟨(h.sp x c).1.off k (by simp;intro e;exact (h.sp x c).2.1 (e ▸ h.dF)),(h.sp x c).2.1,VP (h.sp x c).2.2 k.size⟩⟩
theorem fT{c e size:M}{p:J UG}(h:w.ownsRow c e size v n p){b:M}(f:v.ownBlock=U b):b<w:=by
 rcases h.2 with ⟨rfl,_⟩|⟨g,cap,r,rfl,_,k,_⟩
 .simp[V9] at f
 .simp[V9] at f;subst f
  by_cases q:g<w
  .exact q
  .rw[Array.getElem?_eq_none O] at k;cases k
theorem aH.grown{w'':UF}{row:Uu M}(h:aH F w w')(g:w'.grownBy w'' row)(p:∀ k,row=U k->k∈F\/w<=k):aH F w w'' :=⟨g.os.trans h.os,g.tape.trans h.tape,g.output.trans h.output,U0 h.size g.size,fun k c f=>(g.block k (zL c h.size) (fun e=>by grind)).trans (h.block k c f)⟩
theorem RD.nB{Y t:UF}{c:J (aA.aQ × M × M)}{now:N}{x:aA.aQ × M × M}(h:RD Y d ts c given now F)(cv:Y.cell? (d,1)=U v)(ho:Y.ownsRow 0 85 6 v c.length (c.flatMap fg))(A:∀ k,v.ownBlock=U k->k∈F/\k≠d)(k:aH (v.ownBlock.toList) Y t)(I:t.ownsRow 0 85 6 (UO g (c.length+1) cap) (c.length+1) (c.flatMap fg++fg x))(hg:v.ownBlock=U g\/Y<=g)(W:iW Y x.2.1 x.1.aR)(G:x.2.1 ∉ F)(E:x.2.1<Y):RD (t.setCell (d,1) (UO g (c.length+1) cap)) d ts (c++[x]) given now (g :: F)/\aH (d :: v.ownBlock.toList) Y (t.setCell (d,1) (UO g (c.length+1) cap)):=by
 let⟨v1,a1,a2,a3⟩:=h.tv;have r:=U1 _ _ h.c2;have r:d<Y:=r;have B:g≠d:=Uo;have q:d ∉ v.ownBlock.toList:=Uo;have H:∀ b,v1.ownBlock=U b->b ∉ d :: v.ownBlock.toList:=by
  intro b f e;rcases Va.1 e with e|e
  .exact (a3 b f).2 e
  .have e:v.ownBlock=U b:=Uo
   rcases ho.2 with ⟨rfl,_⟩|⟨g',T,ab,rfl,_,hh,_⟩
   .simp[V9] at e
   .simp[V9] at e;subst e;exact ki a2 hh Uj f
 have K:∀ y,y ∉ F->y ∉ d :: v.ownBlock.toList:=by
  intro y p e;rcases Va.1 e with rfl|e
  .exact p h.dF
  .exact p (A y Uo).1
 have C:aH (d :: v.ownBlock.toList) Y (t.setCell (d,1) (UO g (c.length+1) cap)):=(k.mono Uo).setCell (.inl Ui) _ _;have D:∀ y∈c++[x],iW Y y.2.1 y.1.aR/\y.2.1 ∉ F/\y.2.1<Y:=by
  intro y p;rcases Vb.1 p with p|p
  .exact h.sp y p
  .have:y=x:=Uo
   subst this;exact⟨W,G,E⟩
 have R:∀ o u,Y.cell? (d,o)=U u->o≠1->(t.setCell (d,1) (UO g (c.length+1) cap)).cell? (d,o)=U u:=by intro o u X aa;exact (bC Ui).trans (k.cell q X)
 refine⟨⟨⟨v1,R 0 _ a1 O,dL a2 C H,fun b f=>⟨Wm _ (a3 b f).1,(a3 b f).2⟩⟩,⟨_,Ve _ _ _ (k.cell q cv),?_,?_⟩,R 2 _ h.c2 O,R 3 _ h.c3 O,fun o=>(zF ..).trans ((k.frozen q r).trans (h.fz o)),Wm _ h.dF,?_⟩,C⟩
 .rw[VX,VA];have e1:([x].flatMap fg)=fg x:=Ui
  rw[e1];exact dL I (aH.bM ..) (fun b f=>by simp[V9] at f;subst f;simpa using B)
 .intro b f;simp[V9] at f;subst f;exact⟨by simp,B⟩
 .intro y p;let⟨y1,y2,y3⟩:=D y p;refine⟨y1.off C (K _ y2),fun e=>?_,VP y3 C.size⟩;rcases Va.1 e with e|e
  .rcases hg with S|S
   .exact y2 (e ▸ (A g S).1)
   .omega
  .exact y2 e
theorem c3a:(prog.info? 278).map (fun i=>(i.zero,i.size,i.bytes))=U (U (.agg #[V Y 0,V Y 0,UM Z]),3,24):=Um
theorem c3d(d o:M)(v:UG)(l:J Hp.Hi)(x:Hp.Hi)(w:UF)(h:HP w d o v l)(hh:Hp.iP l)(hl:l.length<=900):UI prog 185 #[UM (U ⟨d,o,Z⟩),V Y x.t,V Y x.n,UM (U ⟨x.v,0,Z⟩)] w fun e w'=>e=UW (.tuple #[])/\∃ p,nG w d o v p w'/\Hp.iP p/\p.Perm (l++[x]):=by
 obtain⟨i0,S,K,I,G⟩:=info_parts c3a;have c:=h.c;have fd:=h.fz;have H:=aB h;clear h;go_in;have B:d<w.heap.size:=U1 _ _ c;have r:d ∉ v.ownBlock.toList:=by intro e;exact H.out.ne (by simpa using e)
 go_wp2_with (first
  |(at_builtin;refine wpList_append_lies _ rfl _ _ 89 rfl 0 278 i0 _ 3 24 underlying89 S K I G rfl Uj _ _ _ rfl (H.out.own.alloc _) ⟨w.heap.size,0,Z⟩ 1 1 (kr x) rfl rfl (Wf (cs:=(kr x).toArray) (dH w _)) (by simp[kr,Value.oneCell']) O Up O Ui (w.heap.size+1) Ui ?_;intro g cap w1 u f C aa;have E:aH (v.ownBlock.toList) w w1:=aH.grown ((aH.refl _ w).alloc _) f (fun k R=>.inl (Wn.2 R));have z1:=E.cell r c;have X:=(E.frozen (o:=o) r B).trans fd;clear f))
 have q:d≠g:=by
  rcases C with e|e
  .rintro rfl;exact H.out.ne e
  .omega
 have hz:HP (w1.setCell ⟨d,o,Z⟩ (UO (U ⟨g,0,Z⟩) (l.length+1) cap)) d o (UO (U ⟨g,0,Z⟩) (l++[x]).length cap) (l++[x]):=by have el:(l++[x]).length=l.length+1:=Ui;rw[el];refine⟨zm _ _ _ z1,?_,fun e=>q (by simpa[V9] using e.symm),(zF ..).trans X⟩;rw[el,VX];have e2:[x].flatMap kr=kr x:=Ui;rw[e2];exact dL u (aH.bM d _ o _) (fun b T=>by simp;rintro rfl;exact q (by simpa[V9] using T.symm))
 have RS:=aB (Ke d o g cap (l++[x]) l.length _ hz Ui (Hp.c2v hh) Un);have A:=aB (Vf E C);clear hz u E C z1 X fd c;refine RS.out.mono ?_;rintro e w5 ⟨rfl,p,D,r'⟩;have HF:Hid (∃ p,nG w d o v p w5/\Hp.iP p/\p.Perm (l++[x])):=by
  refine⟨p,⟨_,D.hp,fun b T=>?_,?_,fun o' ho=>?_,fun o'=>?_⟩,r',D.perm⟩
  .have:g=b:=by simpa[V9] using T
   subst this;rcases A.out.2 with e|e
   .exact .inl e
   .exact .inr O
  .refine ((A.out.1.mono (by simp +contextual)).setCell (.inl Ui) o _).trans' D.off (fun k R=>?_);have:k=g:=by simpa using R
   subst this;rcases A.out.2 with e|e
   .exact .inl (Wm _ (Wn.2 e))
   .exact .inr O
  .have W:=D.off.block d (by have:=A.out.1.size;simp;omega) (by simpa using q);exact (zo W).trans ((zS _ _ _ _ (by have:=ho;simp)).trans (zo (A.out.1.block d B r)))
  .have W:=D.off.block d (by have:=A.out.1.size;simp;omega) (by simpa using q);exact (Wk W).trans ((zF ..).trans (Wk (A.out.1.block d B r)))
 clear RS A D r';go_wp2;go_end0;exact⟨rfl,HF.out⟩
def gn{α:Type}(p:α->Uv):J α->N->N
 |[],_=>-1
 |x :: r,i=>if p x then i else gn p r (i+1)
theorem yG{α:Type}(p:α->Uv):∀ (l:J α)(i:N),(gn p l i=-1/\∀ x∈l,p x=UD)\/∃ (k:M)(h:k<l.length),gn p l i=i+k/\p l[k]=UE/\∀ (j:M)(q:j<k),p (l[j]'Uh)=UD
 |[],i=>.inl ⟨rfl,fun x B=>by grind⟩
 |x :: r,i=>by
  cases c:p x
  .rcases yG p r (i+1) with ⟨f,u⟩|⟨k,h,f,u,t⟩
   .exact .inl ⟨by simp[gn,c,f],fun y A=>by grind⟩
   .refine .inr ⟨k+1,by grind,by simp[gn,c,f];omega,by grind,fun j q=>?_⟩
    cases j with
    |zero=>simpa using c
    |succ j=>simpa using t j O
  .exact .inr ⟨0,by simp,by simp[gn,c],by simpa using c,fun j q=>by omega⟩
theorem TR{α:Type}(p:α->Uv)(l:J α):-1<=gn p l 0/\gn p l 0<l.length:=by grind[yG,gn]
theorem nG.from{w2:UF}{o:M}{f:J Hp.Hi}(h:nG w1 d o v f w2)(k:UH w w w1)(p:d<w):nG w d o v f w2:=by let⟨v',h1,h2,h3,h4,h5⟩:=h;refine⟨v',h1,fun b r=>(h2 b r).imp id (fun e=>U0 k.size e),(aH.aD k).trans h3,fun c q=>(h4 c q).trans (zo (k.block d p)),fun c=>(h5 c).trans (Wk (k.block d p))⟩
theorem c0Y(x:Hp.Hi)(t n:N)(A B:M)(w:UF)(p:w.cell? (A,0)=U ↑t)(cb:w.cell? (B,0)=U ↑n):UI prog 189 #[.agg #[x.t,V Y x.n,x.v],A,B] w fun e w'=>e=UW (jM x t n==0)/\UH w w w':=by
 have u:=aB (fun w'=>MH x t n w');have c:UH w w (w.alloc (UX #[x.t,V Y x.n,x.v] 278)):=aS;have k:=aT c p;have h:=aT c cb;have q:=aB c;clear c;go_in;go_wp21;refine aK (u _) fun w1 f=>?_;have r:=aB (bU q f aJ);clear f k h;go_wp21;go_ret;exact⟨rfl,r⟩
theorem b1U(l:J Hp.Hi)(t n:N)(v:UG)(A B:M)(w:UF)(own:w.ownsRow 0 278 3 v l.length (l.flatMap kr))(ca:w.cell? (A,0)=U ↑t)(cb:w.cell? (B,0)=U ↑n)(hl:l.length<=1000):UI prog 188 #[v,.func (.func 189) #[] #[A,B]] w fun e w'=>e=UW (V Y (gn (fun x=>jM x t n==0) l 0))/\UH w w w':=by
 have hv:∃ a cap,v=UO a l.length cap:=by
  rcases own.2 with ⟨rfl,h⟩|⟨g,cap,_,rfl,_⟩
  .rw[h];exact⟨_,_,rfl⟩
  .exact⟨_,_,rfl⟩
 obtain⟨a,cap,rfl⟩:=hv;have E:=aB (Vf ca cb);have C:=aB own;clear ca cb own;go_in;go_wp21;go_loopw [8] (fun i wx=>∃ k:M,k<=l.length/\i=V Y k/\gn (fun x=>jM x t n==0) l 0=gn (fun x=>jM x t n==0) (l.drop k) k/\UH w w wx) (fun i _=>l.length-(intOf i).toNat)
 .exact⟨0,VM _,rfl,rfl,Below.refl _ _⟩
 .obtain⟨k,hk,rfl,G,q⟩:=hrel;have S:=aB G;have W:=aB q
  by_cases f:k<l.length
  .have hi:(k:N)<(l.length:N):=O
   obtain⟨H,aa,e1⟩:=Joins.ownsRow_form C O;simp only[Value.slice.injEq,true_and] at e1;obtain⟨rfl,rfl⟩:=e1;have c:=fG C q;have R:=(c.cellAt (k*3) O).trans (wJ f (j:=0) O);have K:=(c.cellAt (k*3+1) O).trans (wJ f (j:=1) O);have I:=(c.cellAt (k*3+2) O).trans (wJ f (j:=2) O);simp only[kr,List.getElem?_cons_zero,List.getElem?_cons_succ] at R K I;have r:=aB (c0Y l[k] t n A B wr (aT q E.1) (aT q E.2));have X:gn (fun x=>jM x t n==0) (l.drop k) k=if jM l[k] t n==0 then (k:N) else gn (fun x=>jM x t n==0) (l.drop (k+1)) ((k+1:M):N):=by rw[Wh f];rfl
   have ED:=aB X;clear X c q G
   cases p:(jM l[k] t n==0)
   .have D:Hid (gn (fun x=>jM x t n==0) l 0=gn (fun x=>jM x t n==0) (l.drop (k+1)) ((k+1:M):N)):=by show _=_;rw[S,ED,p];rfl
    rw[p] at r;clear p;go_wp21;refine r.mono ?_;rintro e w1 ⟨rfl,u⟩;have T:=aB (bU W u aJ);clear u R K I r;go_wp21;go_roundw
    .exact⟨k+1,O,by go_num,D,T⟩
    .simp[intOf];omega
   .have D:Hid (gn (fun x=>jM x t n==0) l 0=k):=by show _=_;rw[S,ED,p];rfl
    rw[p] at r;clear p;go_wp21;refine r.mono ?_;rintro e w1 ⟨rfl,u⟩;have T:=aB (bU W u aJ);clear u R K I r;go_wp21;go_ret;exact⟨jy D.symm,T⟩
  .have hi:¬ (k:N)<(l.length:N):=O
   have e:l.drop k=[]:=Wi O;have D:Hid (gn (fun x=>jM x t n==0) l 0=-1):=by show _=_;rw[S,e];rfl
   clear G q e;go_wp21;go_ret;exact⟨jy D.symm,W⟩
theorem c0G(d o:M)(v:UG)(l:J Hp.Hi)(t n:N)(w:UF)(h:HP w d o v l)(hh:Hp.iP l)(hl:l.length<=1000):
  UI prog 154 #[UM (U ⟨d,o,Z⟩),t,n] w fun e w'=>e=UW (.tuple #[]) /\(((∀ x∈l,¬ (x.t=t/\x.n=n))/\UH w w w')\/∃ (x:Hp.Hi) (f:J Hp.Hi),x.t=t/\x.n=n/\nG w d o v f w'/\Hp.iP f/\l.Perm (x :: f)):=by
 have D:UH w w ((w.alloc (UX #[t] 3)).alloc (UX #[n] 3)):=aS.alloc Ui _;have p:=h.later D;have c:=p.c;have K:((w.alloc (UX #[t] 3)).alloc (UX #[n] 3)).cell? (w,0)=U ↑t:=Ui;have I:((w.alloc (UX #[t] 3)).alloc (UX #[n] 3)).cell? (w.heap.size+1,0)=U ↑n:=by have:=dH (w.alloc (UX #[t] 3)) (UX #[n] 3);rw[Wp] at this;simp only[Vk,this];rfl
 have IX:=aB (b1U l t n v w (w.heap.size+1) _ p.own K I hl);have E:=aB (Vf D p);have C:=U1 _ _ h.c;have bd:=TR (fun x=>jM x t n==0) l;have W:=yG (fun x=>jM x t n==0) l 0;clear D p K I h;generalize gn (fun x=>jM x t n==0) l 0=q at *;have u:=aB W;clear W;go_in;go_wp21;generalize ((w.alloc (UX #[t] 3)).alloc (UX #[n] 3))=X at *;refine IX.mono ?_;rintro e w1 ⟨rfl,A⟩;have H:=aB (Vf (bU E.1 A aJ) (E.2.later A));clear A IX c E;by_cases h0:0<=q
 .obtain⟨k,B,e1,r,e3⟩:∃ (k:M) (h:k<l.length),q=k/\(jM l[k] t n==0)=UE/\True:=by
   rcases u with ⟨h,_⟩|⟨k,h,e,r,_⟩
   .omega
   .exact⟨k,h,O,r,trivial⟩
  subst e1;have RM:=aB (LY d o v l k w1 H.2 hh B hl);have HE:=aB r;clear r e3 u;go_wp21;refine RM.mono ?_;rintro e w2 ⟨rfl,f,T,S,R⟩;have G:Hid (∃ (x:Hp.Hi) (f:J Hp.Hi),x.t=t/\x.n=n/\nG w d o v f w2/\Hp.iP f/\l.Perm (x :: f)):=by have r:jM l[k] t n=0:=bZ HE.out;obtain⟨q1,q2⟩:=(KW _ _ _).1 r;refine⟨Hp.at_ l k,f,by rw[Hp.pQ B];exact q1,by rw[Hp.pQ B];exact q2,T.from H.1 C,S,R⟩
  clear T S R RM;go_wp21;go_end0;exact⟨rfl,.inr G⟩
 .have G:Hid (∀ x∈l,¬ (x.t=t/\x.n=n)):=by
   rcases u with ⟨_,h⟩|⟨k,h,e,_⟩
   .intro x p e;have:=h x p;have e0:=(KW x t n).2 e;simp[e0] at this
   .omega
  clear u;go_wp21;go_end0;exact⟨rfl,.inl ⟨G,H.1⟩⟩
open Go Go.Maps
def Ar(o:Uu M):UG:=UM (o.map fun b=>(b,0))
def lN(o:Uu M):DataW Unit:=.lit (.int Y (match o with|none=>-1|some b=>(b:N)))
def ss:UG->Uu (DataW Unit × J MemPlace)
 |.pointer Z=>U (lN Z,[])
 |.pointer (U ⟨b,0,Z⟩)=>U (lN (U b),[])
 |_=>Z
theorem c4S(o:Uu M):ss (Ar o)=U (lN o,[]):=by cases o <;> rfl
theorem Kc{a b:Uu M}(h:lN a=lN b):a=b:=by
 unfold lN at h
 cases a <;> cases b <;> simp at h ⊢ <;> omega
theorem c2B{o:Uu M}{c:J MemPlace}(h:ss v=U (lN o,c)):v=Ar o:=by
 unfold ss at h;split at h
 .have e:lN Z=lN o:=congrArg Prod.fst (Wq h);have:=Kc e;subst this;rfl
 .rename_i b
  have e:lN (U b)=lN o:=congrArg Prod.fst (Wq h);have:=Kc e;subst this;rfl
 .cases h
noncomputable def nI(f:Lit->Uu M)(c:Lit)(o:Uu M)(x:Lit):Uu M:=@ite _ (x=c) (Classical.propDecidable _) o (f x)
theorem vo(f:Lit->Uu M)(c:Lit)(o:Uu M):nI f c o c=o:=Uz rfl
theorem vt(f:Lit->Uu M){c x:Lit}(o:Uu M)(h:x≠c):nI f c o x=f x:=Uy h
def gO(P:Program)(k:UK)(w:UF)(b n:M)(f:Lit->Uu M)(sz:M):Prop :=∃ D,w.ownsMap P k ss b n D/\Wr D=sz/\(∀ c,D.atKey c (lN Z)=lN (f c))/\∀ c,Ws D c=(f c).isSome
theorem gO.block{P:Program}{k:UK}{b:M}{f:Lit->Uu M}(h:gO P k w b n f sz)(c:w'.heap[b]?=w.heap[b]?):gO P k w' b n f sz:=by let⟨D,⟨es,clock,h1,h2⟩,h3⟩:=h;exact⟨D,⟨es,clock,c.trans h1,h2⟩,h3⟩
theorem gO.tight{P:Program}{k:UK}{b:M}{f:Lit->Uu M}(h:gO P k w b n f sz):gO P k w b sz f sz:=by let⟨D,⟨es,clock,h1,h2,h3,h4⟩,h5,h6⟩:=h;refine⟨D,⟨es,clock,h1,h2,?_,h4⟩,h5,h6⟩;rw[<- h5,h4,Maps.size_eq,length_sorted];simp
theorem gO.made(P:Program)(k:UK)(w:UF):gO P k (w.alloc (.map #[] 0)) w 0 (fun _=>Z) 0 :=⟨.map [],World.ownsMap_made w P k ss,rfl,fun _=>rfl,fun _=>rfl⟩
theorem gO.look{P:Program}{k e t:UK}{b:M}{f:Lit->Uu M}(h:gO P k w b n f sz)(K:Keyed P k)(ht:P.underlying t=U (.map k e))(q:(zeroValue e).run P w=.ok (UM Z) w){p:Lit}(c:keyOf P k key=U p):(Instr.lookup t (.map (U b)) key UD).run P w=.ok (Ar (f p)) w:=by
 let⟨D,h1,_,h3,_⟩:=h;let⟨v,ps,hrun,hv⟩:=h1.lookup K ht q (zd:=lN Z) (zp:=[]) rfl c;rw[h3] at hv;rw[hrun,c2B hv]
theorem gO.len{P:Program}{k e t:UK}{b:M}{f:Lit->Uu M}(h:gO P k w b n f sz)(ht:P.underlying t=U (.map k e))(c:UK):(Builtin.len_ #[t] c #[.map (U b)]).run P w=.ok (V Y sz) w:=by let⟨D,h1,h2,_⟩:=h;rw[h1.len ht c,h2]
theorem gO.put{P:Program}{k:UK}{b:M}{f:Lit->Uu M}{D:DataW Unit}{q:Lit}{p:M}(K:Keyed P k)(w:UF)(r:w.ownsMap P k ss b n D)(h:w'.ownsMap P k ss b (n+1) (D.put q (lN (U p))))(t:Wt q)(A:∀ q,D.atKey q (lN Z)=lN (f q))(u:∀ q,Ws D q=(f q).isSome):gO P k w' b (n+1) (nI f q (U p)) (if (f q).isSome then Wr D else Wr D+1):=by
 refine⟨_,h,?_,fun x=>?_,fun x=>?_⟩
 .rw[Maps.size_put (r.tidy K),u]
 .by_cases c:x=q
  .rw[c,vo,Maps.atKey_put_same r.isMap t]
  .rw[vt f _ c,Maps.atKey_put_other c,A]
 .by_cases c:x=q
  .rw[c,vo,Maps.has_put_same r.isMap t];rfl
  .rw[vt f _ c,Maps.has_put_other c,u]
theorem gO.del{P:Program}{k:UK}{b:M}{f:Lit->Uu M}{D:DataW Unit}{p:Lit}(K:Keyed P k)(w:UF)(r:w.ownsMap P k ss b n D)(h:w'.ownsMap P k ss b n (D.del p))(t:∀ p,D.atKey p (lN Z)=lN (f p))(q:∀ p,Ws D p=(f p).isSome):gO P k w' b n (nI f p Z) (Wr D-if (f p).isSome then 1 else 0):=by
 refine⟨_,h,?_,fun x=>?_,fun x=>?_⟩
 .have:=Maps.size_del (k:=p) (r.tidy K);rw[q] at this;omega
 .by_cases c:x=p
  .rw[c,vo,Maps.atKey_del_same]
  .rw[vt f _ c,Maps.atKey_del_other c,t]
 .by_cases c:x=p
  .rw[c,vo,Maps.has_del_same];rfl
  .rw[vt f _ c,Maps.has_del_other c,q]
theorem gO.oq{P:Program}{k e t:UK}{b:M}{f:Lit->Uu M}(h:gO P k w b n f sz)(K:Keyed P k)(ht:P.underlying t=U (.map k e)){p:Lit}(c:keyOf P k key=U p)(q:UK):∃ w',(Builtin.delete_ #[t,k] q #[.map (U b),key]).run P w=.ok (.tuple #[]) w'/\gO P k w' b n (nI f p Z) (sz-if (f p).isSome then 1 else 0)/\w.grownBy w' (U b):=by
 let⟨D,h1,h2,h3,h4⟩:=h;let⟨w',hrun,r1,r2⟩:=h1.drop K ht c q;refine⟨w',hrun,?_,r2.grown⟩;rw[<- h2];exact gO.del K w h1 r1 h3 h4
theorem gO.mG{P:Program}{k e t:UK}{b:M}{f:Lit->Uu M}(h:gO P k w b n f sz)(K:Keyed P k)(ht:P.underlying t=U (.map k e))(u:n<maxLen){r:Lit}(q:keyOf P k key=U r)(c:Wt r)(p:M):∃ w',(Instr.mapUpdate t (.map (U b)) key (Ar (U p))).run P w=.ok () w'/\gO P k w' b (n+1) (nI f r (U p)) (if (f r).isSome then sz else sz+1)/\w.grownBy w' (U b):=by
 let⟨D,h1,h2,h3,h4⟩:=h;let⟨w',hrun,r1,r2⟩:=h1.update K ht u q (c4S (U p));refine⟨w',hrun,?_,r2⟩;rw[<- h2];exact gO.put K w h1 r1 c h3 h4
section
variable {P:Program}(w:UF) {ops:Array Oper}{rest:Ut Oper}{o:Oper}{a:Act}{Q:Exit->Act->UF->Prop}
end
end Go.Proofs.YtolaacmheeaadaaGreatDoor
namespace Go.Proofs.YtolaacmheeaadaaGreatDoor.Cal
def ah(y:N):N:=(y-1)*365+(y-1) / 4-(y-1) / 100+(y-1) / 400
def ow(y:N):Uv:=y % 4==0 && (y % 100 != 0 || y % 400==0)
def lp(y:N):N:=if ow y then 1 else 0
def jH(m:N):N:=if m=2 then 28 else if m=4\/m=6\/m=9\/m=11 then 30 else 31
def jm(y m:N):N:=if m=2 then 28+lp y else jH m
def eh(y m:N):N :=if m<=1 then 0 else if m=2 then 31 else lp y+(if m=3 then 59 else if m=4 then 90 else if m=5 then 120 else if m=6 then 151 else if m=7 then 181 else if m=8 then 212 else if m=9 then 243 else if m=10 then 273 else if m=11 then 304 else if m=12 then 334 else 365)
def first:N:=-738885
def last:N:=2913173
def num(y m d:N):N:=first+ah y+eh y m+d-1
def ok(y m d:N):Uv:=decide (1<=y/\y<=9999/\1<=m/\m<=12/\1<=d/\d<=jm y m)
theorem tD(y:N):0<=lp y/\lp y<=1:=by unfold lp;split <;> omega
theorem Tl(y:N):lp y=1/\y % 4=0/\(y % 100≠0\/y % 400=0)\/lp y=0/\¬ (y % 4=0/\(y % 100≠0\/y % 400=0)):=by
 unfold lp
 cases h:ow y
 .right;refine⟨by simp,?_⟩;simp only[ow,Bool.and_eq_false_iff,Bool.or_eq_false_iff,beq_eq_false_iff_ne,bne_eq_false_iff_eq] at h;omega
 .left;refine⟨by simp,?_⟩;simp only[ow,Wu,Bool.or_eq_true,beq_iff_eq,bne_iff_ne] at h;exact h
theorem uL(y:N)(_h:1<=y):ah (y+1)=ah y+365+lp y:=by rcases Tl y with ⟨e,c⟩|⟨e,c⟩ <;> rw[e] <;> unfold ah <;> omega
theorem uP(a b:N)(_h0:1<=a)(_h:a<=b):ah a<=ah b:=by unfold ah;omega
theorem Az:ah 10000=3652059:=Uj
theorem b7s(g:N)(_h:0<=g):ah (g*400 / 146097+1)<=g:=by unfold ah;omega
theorem tz(y:N)(_h1:1<=y)(_h2:y<=10000):0<=ah y/\ah y<=3652059:=by unfold ah;omega
theorem TU(m:N):28<=jH m/\jH m<=31:=by unfold jH;(repeat' split) <;> omega
theorem pL(y m:N):28<=jm y m/\jm y m<=31:=by have:=tD y;have:=TU m;unfold jm;split <;> omega
theorem Dt(m:N)(f:1<=m)(c:m<=12):m=1\/m=2\/m=3\/m=4\/m=5\/m=6\/m=7\/m=8\/m=9\/m=10\/m=11\/m=12:=O
theorem rj(y:N):eh y 1=0:=by simp[eh]
theorem sE(y m:N)(f:1<=m)(c:m<=12):eh y (m+1)=eh y m+jm y m:=by rcases Dt m f c with h|h|h|h|h|h|h|h|h|h|h|h <;> subst h <;> simp[eh,jm,jH] <;> omega
theorem xY(y:N):eh y 13=365+lp y:=by simp[eh];omega
theorem Dx(y a:N)(k:M)(h:1<=a)(f:a+k<=13):eh y a<=eh y (a+k):=by
 induction k with
 |zero=>simp
 |succ k ih =>have c:=sE y (a+k) O O;have d:=pL y (a+k);have i:=ih O;rw[show a+((k+1:M):N)=a+k+1 from by omega,c];omega
theorem tG(y m:N)(c:1<=m)(f:m<=13):0<=eh y m/\eh y m<=365+lp y:=by have a:=Dx y 1 (m-1).toNat O O;have b:=Dx y m (13-m).toNat c O;rw[show (1:N)+((m-1).toNat:N)=m from by omega,rj] at a;rw[show m+((13-m).toNat:N)=13 from by omega,xY] at b;exact⟨a,b⟩
theorem Ep(y a b:N)(f:1<=a)(h:a<b)(k:b<=13):eh y a+jm y a<=eh y b:=by rw[<- sE y a f O];have c:=Dx y (a+1) (b-(a+1)).toNat O O;rwa [show (a+1)+((b-(a+1)).toNat:N)=b from by omega] at c
theorem jx(y m d:N):ok y m d=UE↔1<=y/\y<=9999/\1<=m/\m<=12/\1<=d/\d<=jm y m:=by simp[ok]
theorem yp(y m d:N)(h:ok y m d=UE):ah y<=num y m d-first/\num y m d-first<ah (y+1):=by let⟨h1,h2,h3,h4,h5,h6⟩:=(jx y m d).1 h;have a:=uL y h1;have b:=tG y m h3 O;have c:=sE y m h3 h4;have e:=tG y (m+1) O O;unfold num;omega
theorem c1Q(a b n:N)(f:1<=a)(c:1<=b)(r:ah a<=n)(q:n<ah (a+1))(p:ah b<=n)(k:n<ah (b+1)):a=b:=by
 by_cases h:a<b
 .have:=uP (a+1) b O O;omega
 .by_cases t:b<a
  .have:=uP (b+1) a O O;omega
  .omega
theorem c0n(y a b n:N)(p:1<=a)(k:a<=12)(f:1<=b)(c:b<=12)(A:eh y a<=n)(u:n<eh y a+jm y a)(t:eh y b<=n)(r:n<eh y b+jm y b):a=b:=by
 by_cases h:a<b
 .have:=Ep y a b p h O;omega
 .by_cases q:b<a
  .have:=Ep y b a f q O;omega
  .omega
theorem one(y m d c f d':N)(h:ok y m d=UE)(k:ok c f d'=UE)(e:num y m d=num c f d'):y=c/\m=f/\d=d':=by have i:=yp y m d h;have r:=yp c f d' k;let⟨h1,h2,h3,h4,h5,h6⟩:=(jx y m d).1 h;let⟨g1,g2,g3,g4,g5,g6⟩:=(jx c f d').1 k;have p:=c1Q y c (num y m d-first) h1 g1 i.1 i.2 Uo Uo;subst p;unfold num at e;have q:=c0n y m f (eh y m+d-1) h3 h4 g3 g4 O O O O;subst q;exact⟨rfl,rfl,O⟩
theorem Du(y m d:N)(h:ok y m d=UE):first<=num y m d/\num y m d<=last:=by let⟨h1,h2,h3,h4,h5,h6⟩:=(jx y m d).1 h;have i:=yp y m d h;have a:=uP (y+1) 10000 O O;have b:=tz y h1 O;have c:=Az;unfold first at i;unfold first last;omega
end Go.Proofs.YtolaacmheeaadaaGreatDoor.Cal
namespace Go.Proofs.YtolaacmheeaadaaGreatDoor.Cal
def yF(g:N):N:=if ah (g*400 / 146097+2)<=g then g*400 / 146097+2 else g*400 / 146097+1
def mF(y r:N):N:=if r<eh y 2 then 1 else if r<eh y 3 then 2 else if r<eh y 4 then 3 else if r<eh y 5 then 4 else if r<eh y 6 then 5 else if r<eh y 7 then 6 else if r<eh y 8 then 7 else if r<eh y 9 then 8 else if r<eh y 10 then 9 else if r<eh y 11 then 10 else if r<eh y 12 then 11 else 12
theorem Tp(g:N)(h:0<=g):1<=yF g/\ah (yF g)<=g/\g<ah (yF g+1):=by grind[yF,ah]
theorem Tm(y r:N)(E:0<=r)(D:r<eh y 13):1<=mF y r/\mF y r<=12/\eh y (mF y r)<=r/\r<eh y (mF y r+1):=by have c1:=rj y;unfold mF;by_cases C:r<eh y 2;rw[Uz C];exact⟨O,O,O,C⟩;rw[Uy C];by_cases B:r<eh y 3;rw[Uz B];exact⟨O,O,O,B⟩;rw[Uy B];by_cases A:r<eh y 4;rw[Uz A];exact⟨O,O,O,A⟩;rw[Uy A];by_cases u:r<eh y 5;rw[Uz u];exact⟨O,O,O,u⟩;rw[Uy u];by_cases t:r<eh y 6;rw[Uz t];exact⟨O,O,O,t⟩;rw[Uy t];by_cases q:r<eh y 7;rw[Uz q];exact⟨O,O,O,q⟩;rw[Uy q];by_cases p:r<eh y 8;rw[Uz p];exact⟨O,O,O,p⟩;rw[Uy p];by_cases k:r<eh y 9;rw[Uz k];exact⟨O,O,O,k⟩;rw[Uy k];by_cases h:r<eh y 10;rw[Uz h];exact⟨O,O,O,h⟩;rw[Uy h];by_cases f:r<eh y 11;rw[Uz f];exact⟨O,O,O,f⟩;rw[Uy f];by_cases c:r<eh y 12;rw[Uz c];exact⟨O,O,O,c⟩;rw[Uy c];exact⟨O,O,O,D⟩
def yT(n:N):N:=yF (n+738885)
def mT(n:N):N:=mF (yT n) (n+738885-ah (yT n))
def dT(n:N):N:=n+738885-ah (yT n)-eh (yT n) (mT n)+1
theorem vQ(n:N)(k:-738885<=n)(f:n<=2913173):ok (yT n) (mT n) (dT n)=UE/\num (yT n) (mT n) (dT n)=n:=by
 have ⟨a1,a2,a3⟩:=Tp (n+738885) O;have s:=uL (yF (n+738885)) a1;have c:yF (n+738885)<=9999:=by by_cases h:yF (n+738885)<=9999;exact h;have:=uP 10000 (yF (n+738885)) O O;have:=Az;omega
 have p:=xY (yF (n+738885));have ⟨b1,b2,b3,b4⟩:=Tm (yF (n+738885)) (n+738885-ah (yF (n+738885))) O O;have cs:=sE (yF (n+738885)) (mF (yF (n+738885)) (n+738885-ah (yF (n+738885)))) b1 b2;refine⟨(jx _ _ _).2 ?_,?_⟩
 .unfold dT mT yT;refine⟨a1,c,b1,b2,O,O⟩
 .unfold num dT mT yT first;omega
theorem xV(y m d n:N)(h:ok y m d=UE)(e:num y m d=n):y=yT n/\m=mT n/\d=dT n:=by have b:=Du y m d h;rw[e] at b;unfold first last at b;have ⟨h1,h2⟩:=vQ n b.1 b.2;exact one y m d _ _ _ h h1 (by rw[e,h2])
end Go.Proofs.YtolaacmheeaadaaGreatDoor.Cal
namespace Go.Proofs.YtolaacmheeaadaaGreatDoor.Txt
def tc(c:UInt8):Uv:=decide (48<=(c.toNat:N)/\(c.toNat:N)<=57)
def iI(l:J UInt8):Uv:=l.all tc
def jB(l:J UInt8):N:=l.foldl (fun n c=>n*10+((c.toNat:N)-48)) 0
def low(c:UInt8):Uv:=decide (97<=(c.toNat:N)/\(c.toNat:N)<=122)
def qx(l:J UInt8):Uv:=l.all low
def isNum(l:J UInt8):Uv:=decide (1<=l.length/\l.length<=7) && iI l
def gP(l:J UInt8):Uv:=decide (1<=l.length/\l.length<=8) && qx l
theorem rB(c:UInt8):tc c=UE↔48<=(c.toNat:N)/\(c.toNat:N)<=57:=by simp[tc]
theorem Ax(c:UInt8):low c=UE↔97<=(c.toNat:N)/\(c.toNat:N)<=122:=by simp[low]
theorem yI(l:J UInt8)(c:UInt8):iI (l++[c])=(iI l && tc c):=by simp[iI]
theorem AJ(l:J UInt8)(c:UInt8):qx (l++[c])=(qx l && low c):=by simp[qx]
theorem Lw(l:J UInt8)(c:UInt8):jB (l++[c])=jB l*10+((c.toNat:N)-48):=by simp[jB]
theorem A2(s:Us)(k:M)(h:k<s.size):s.data.toList.take (k+1)=s.data.toList.take k++[s[k]]:=by rw[VL (bZ h)];rfl
theorem uX(s:Us)(k:M)(h:s.size<=k):s.data.toList.take k=s.data.toList:=VN (bZ h)
theorem iK(s:Us):s.data.toList.length=s.size:=Ui
theorem MD(l:J UInt8)(k:M)(h:iI (l.take k)=UD):iI l=UD:=by grind[iI]
theorem Le(l:J UInt8)(k:M)(h:qx (l.take k)=UD):qx l=UD:=by grind[qx]
theorem TI(l:J UInt8):∀ (k:M)(n:N),0<=n->n<10 ^ k->iI l=UE->0<=l.foldl (fun n c=>n*10+((c.toNat:N)-48)) n/\l.foldl (fun n c=>n*10+((c.toNat:N)-48)) n<10 ^ (k+l.length):=by
 induction l with
 |nil=>intro k n p h _;exact⟨p,h⟩
 |cons c l ih =>intro k n p h f;simp only[iI,List.all_cons,Wu] at f;have q:=(rB c).1 f.1;have:=ih (k+1) (n*10+((c.toNat:N)-48)) O Uo f.2;simp only[Wv,VB];rw[show k+(l.length+1)=k+1+l.length from by omega];exact this
theorem JI(l:J UInt8)(h:iI l=UE)(c:l.length<=7):0<=jB l/\jB l<=9999999:=by have b:=TI l 0 0 O Uj h;have q:∀ k:M,k<8->(10:N) ^ k<=10000000:=Uj;have p:=q (0+l.length) O;unfold jB;omega
theorem Mm(h:1<=l.length)(f:l.length<=7)(c:iI l=UE):isNum l=UE:=by simp[isNum,h,f,c]
theorem AE(h:¬ (1<=l.length/\l.length<=7)):isNum l=UD:=by unfold isNum;rw[decide_eq_false h];rfl
theorem K5(h:iI l=UD):isNum l=UD:=by simp[isNum,h]
theorem K7(l:J UInt8):isNum l=UE↔(1<=l.length/\l.length<=7)/\iI l=UE:=by simp[isNum]
theorem KB(h:1<=l.length)(f:l.length<=8)(c:qx l=UE):gP l=UE:=by simp[gP,h,f,c]
theorem AY(h:¬ (1<=l.length/\l.length<=8)):gP l=UD:=by unfold gP;rw[decide_eq_false h];rfl
theorem JV(h:qx l=UD):gP l=UD:=by simp[gP,h]
def dG(l:J UInt8):N:=if isNum l then jB l else 0
theorem lT(l:J UInt8):0<=dG l/\dG l<=9999999:=by
 unfold dG;split
 .rename_i h
  have:=(K7 l).1 h;exact JI l this.2 this.1.2
 .omega
end Go.Proofs.YtolaacmheeaadaaGreatDoor.Txt
namespace Go.Proofs.YtolaacmheeaadaaGreatDoor.Txt
def fK(s:Us)(i:M):N:=((s.data.toList.getD i 0).toNat:N)
theorem mz(s:Us)(i:M)(h:i<s.size):fK s i=(s[i].toNat:N):=by unfold fK;rw[Ww,Wx (bZ h)];rfl
def part(s:Us)(a b:M):J UInt8:=(s.extract a b).data.toList
def dZ(s:Us):Uv:=decide (s.size=5/\fK s 2=58/\isNum (part s 0 2)=UE/\isNum (part s 3 5)=UE/\dG (part s 0 2)<=23/\dG (part s 3 5)<=59)
def eA(s:Us):N:=if dZ s then dG (part s 0 2)*60+dG (part s 3 5) else 0
def jY(s:Us):Uv:=decide (s.size=10/\fK s 4=45/\fK s 7=45/\isNum (part s 0 4)=UE/\isNum (part s 5 7)=UE/\isNum (part s 8 10)=UE/\Cal.ok (dG (part s 0 4)) (dG (part s 5 7)) (dG (part s 8 10))=UE)
def gh(s:Us):N:=if jY s then Cal.num (dG (part s 0 4)) (dG (part s 5 7)) (dG (part s 8 10)) else 0
def cU(s:Us):Uv:=decide (jY s=UE/\0<=gh s/\gh s<728)
theorem Bk(h:¬ (s.size=5/\fK s 2=58/\isNum (part s 0 2)=UE/\isNum (part s 3 5)=UE/\dG (part s 0 2)<=23/\dG (part s 3 5)<=59)):dZ s=UD:=decide_eq_false h
theorem wD(h:¬ (s.size=10/\fK s 4=45/\fK s 7=45/\isNum (part s 0 4)=UE/\isNum (part s 5 7)=UE/\isNum (part s 8 10)=UE/\Cal.ok (dG (part s 0 4)) (dG (part s 5 7)) (dG (part s 8 10))=UE)):jY s=UD:=decide_eq_false h
theorem Ku(c:s.size=5)(f:fK s 2=58):dZ s=(isNum (part s 0 2) && isNum (part s 3 5) && decide (dG (part s 0 2)<=23) && decide (dG (part s 3 5)<=59)):=by rw[Wy];simp[dZ,c,f,and_assoc]
theorem JC(c:s.size=10)(h:fK s 4=45)(f:fK s 7=45):jY s=(isNum (part s 0 4) && isNum (part s 5 7) && isNum (part s 8 10) && Cal.ok (dG (part s 0 4)) (dG (part s 5 7)) (dG (part s 8 10))):=by rw[Wy];simp[jY,c,h,f,and_assoc]
theorem mR(s:Us):0<=eA s/\eA s<=1439:=by
 unfold eA;split
 .rename_i h
  have h:=of_decide_eq_true h;have:=lT (part s 0 2);have:=lT (part s 3 5);omega
 .omega
theorem Js(s:Us):-738885<=gh s/\gh s<=2913173:=by
 unfold gh;split
 .rename_i h
  have h:=of_decide_eq_true h;have b:=Cal.Du _ _ _ h.2.2.2.2.2.2;unfold Cal.first Cal.last at b;exact b
 .omega
end Go.Proofs.YtolaacmheeaadaaGreatDoor.Txt
namespace Go.Proofs.YtolaacmheeaadaaGreatDoor.Txt
open Go
def lq(s:Us):Uv:=decide (s.size=16/\fK s 10=47/\jY (s.extract 0 10)=UE/\dZ (s.extract 11 16)=UE)
def mQ(s:Us):N:=if lq s then gh (s.extract 0 10)*1440+eA (s.extract 11 16) else 0
def lK(s:Us):Us:={ data:=(Wz s.data.toList [47]).fst.toArray }
def lP(s:Us):Us:={ data:=(Wz s.data.toList [47]).snd.fst.toArray }
def qW(s:Us):Uv:=(Wz s.data.toList [47]).snd.snd
theorem rE(s:Us)(a b:M):(s.extract a b).data.toList=(s.data.toList.take b).drop a:=by rw[ByteArray.data_extract,Array.toList_extract];simp[List.drop_take]
theorem nT{t:Us}(h:s.data.toList=t.data.toList):s=t:=by
 cases s;cases t;simp only at h;congr;exact Array.toList_inj.1 h
theorem Tv(c:UInt8)(h:tc c=UE):c≠47:=by intro e;subst e;revert h;decide
theorem Er(h:iI l=UE){c:UInt8}(f:c∈l):c≠47:=Tv c (by unfold iI at h;rw[WB] at h;exact h c f)
theorem A6(h:isNum l=UE):iI l=UE:=((K7 l).1 h).2
theorem b3N(t:Us)(h:jY t=UE):∀ j,j<10->t.data.toList[j]?≠U 47:=by
 have h:=of_decide_eq_true h;let⟨hs,b4,b7,n1,n2,n3,_⟩:=h;have r:=A6 n1;have q:=A6 n2;have p:=A6 n3;unfold part at r q p;rw[rE] at r q p;have K:t.data.toList.length=10:=by simp_all
 intro j E u;have f:j<t.data.toList.length:=O;have e:t.data.toList[j]=47:=by rw[Wx f] at u;exact Wq u
 have C:j<4->False:=fun H=>Er r (c:=t.data.toList[j]) (by rw[WC];exact⟨j,by rw[WD,WE];simp[H]⟩) e
 have B:5<=j->j<7->False:=fun S G=>Er q (c:=t.data.toList[j]) (by rw[WC];exact⟨j-5,by rw[WD,WE];simp[show 5+(j-5)=j from by omega,G]⟩) e
 have A:8<=j->False:=fun R=>Er p (c:=t.data.toList[j]) (by rw[WC];exact⟨j-8,by rw[WD,WE];simp[show 8+(j-8)=j from by omega,E]⟩) e
 have g:∀ k:M,j=k->fK t k=47:=fun k D=>by subst D;unfold fK;rw[Ww,Wx f,e];rfl
 by_cases c4:j=4
 .have:=g 4 c4;omega
 .by_cases I:j=7
  .have:=g 7 I;omega
  .by_cases c1:j<4
   .exact C c1
   .by_cases c2:j<7
    .exact B O c2
    .exact A O
theorem Ed(l:J UInt8)(i:M):WG l [47] i=UE↔l[i]?=U 47:=by
 unfold WG;rw[<- List.head?_drop]
 cases l.drop i with
 |nil=>simp[WH]
 |cons b r=>simp[WH];exact eq_comm
theorem JB(t:s.size=16)(k:fK s 10=47)(r:jY (s.extract 0 10)=UE):lK s=s.extract 0 10/\lP s=s.extract 11 16/\qW s=UE:=by
 have u:s.data.toList.length=16:=by simp_all
 have f:s.data.toList[10]?=U 47:=by unfold fK at k;rw[Ww,Wx O] at k;rw[Wx O];have:(s.data.toList[10]'Uh).toNat=47:=Uo;rw[show s.data.toList[10]'Uh=47 from UInt8.toNat_inj.1 Uo]
 have q:=Lib.index_first (i:=10) O ((Ed _ _).2 f) (fun j h=>by
  cases p:WG s.data.toList [47] j with
  |false=>rfl
  |true =>have:=b3N _ r j h;rw[rE,List.drop_zero,WE,Uz h] at this;exact UA ((Ed _ _).1 p) this)
 have c:Wz s.data.toList [47]=(s.data.toList.take 10,s.data.toList.drop 11,UE):=by unfold Wz;rw[q];rfl
 refine⟨nT ?_,nT ?_,?_⟩;simp only[lK,c,rE];simp;simp only[lP,c,rE];rw[VN O];simp[qW,c]
theorem Tu(s:Us):(qW s && jY (lK s) && dZ (lP s))=lq s/\(lq s=UE->gh (lK s)*1440+eA (lP s)=mQ s):=by
 have key:(qW s && jY (lK s) && dZ (lP s))=lq s:=by
  rw[Wy];constructor
  .intro h;simp only[Wu] at h;let⟨⟨hf,hd⟩,hm⟩:=h;have s1:=(of_decide_eq_true hd).1;have u:=(of_decide_eq_true hm).1
   have c:0<=WI s.data.toList [47]:=by
    by_cases c:0<=WI s.data.toList [47]
    .exact c
    .simp[qW,Wz,c] at hf
   let⟨i,hi'⟩:=WJ c;have B:=Lib.index_room s.data.toList [47] c;have t:Wz s.data.toList [47]=(s.data.toList.take i,s.data.toList.drop (i+1),UE):=by unfold Wz;rw[Uz c,hi'];simp
   have k:s.data.toList[i]?=U 47:=by
    rcases Lib.index_spec s.data.toList [47] with ⟨h,_⟩|⟨j,D,_,C,_⟩
    .omega
    .rw[hi'] at D;have:i=j:=O
     subst this;exact (Ed _ _).1 C
   rw[hi'] at B;simp only[List.length_singleton,iK] at B;have G:min i s.size=10:=by rw[<- iK] at s1;simp only[lK,t] at s1;simpa using s1
   have E:s.size-(i+1)=5:=by rw[<- iK] at u;simp only[lP,t] at u;simpa using u
   have A:i=10:=O;have f:s.size=16:=O;subst A;have r:lK s=s.extract 0 10:=nT (by simp only[lK,t,rE];simp);have q:lP s=s.extract 11 16:=nT (by simp only[lP,t,rE];rw[VN (by rw[iK];omega)]);rw[r] at hd;rw[q] at hm;have p:fK s 10=47:=by unfold fK;rw[Ww,k];rfl
   exact decide_eq_true ⟨f,p,hd,hm⟩
  .intro h;let⟨f,p,hd,hm⟩:=of_decide_eq_true h;let⟨r,q,a3⟩:=JB f p hd;rw[r,q,a3,hd,hm];rfl
 refine⟨key,fun h=>?_⟩;let⟨f,p,hd,_⟩:=of_decide_eq_true h;let⟨r,q,_⟩:=JB f p hd;rw[r,q];simp[mQ,h]
end Go.Proofs.YtolaacmheeaadaaGreatDoor.Txt
namespace Go.Proofs.YtolaacmheeaadaaGreatDoor.Txt
open Go
def oF(b:Uv)(pos:M)(x:J (M × M) × Uu M):J (M × M) × Uu M :=if b then (match x.2 with|some a=>(x.1++[(a,pos)],Z)|none=>(x.1,Z)) else (x.1,U (x.2.getD pos))
def gA(s:Us):M->J (M × M) × Uu M
 |0=>([],Z)
 |k+1=>oF (decide (fK s k=32)) k (gA s k)
def aC(s:Us):J Us:=(WK s (gA s s.size)).map fun x=>s.extract x.1 x.2
theorem Mf(s:Us)(i:M)(h:i<s.size):(s.get! i).toNat=(fK s i).toNat:=by
 unfold fK;rw[Ww,Wx (bZ h)];simp only[WL,Int.toNat_natCast];congr 1
 cases s with
 |mk a=>simp only[ByteArray.get!];rw[getElem!_pos a i h];simp
theorem b3J(s:Us)(i:M)(h:i<s.size):
  ((s.get! i).toNat<128/\WM s i=((s.get! i).toNat,1)) \/
  (128<=(WM s i).1/\1<=(WM s i).2/\∀ j,j<(WM s i).2->128<=(s.get! (i+j)).toNat/\i+j<s.size):=by
 unfold WM;simp only[WQ];by_cases f:(s.get! i).toNat<128
 .left;exact⟨f,by grind⟩
 .right;rw[Uy O]
  have one:∀ j,j<1->128<=(s.get! (i+j)).toNat/\i+j<s.size:=fun j c=>by grind
  split
  .rename_i hc
   simp only[Wu,decide_eq_true_eq,beq_iff_eq] at hc;split
   .refine⟨by grind,by simp,fun j c=>?_⟩;simp only at c;rcases (show j=0\/j=1 by omega) with rfl|rfl
    .exact one 0 O
    .exact⟨O,O⟩
   .exact⟨by simp[WS],by simp,one⟩
  .split
   .rename_i hc
    simp only[Wu,decide_eq_true_eq,beq_iff_eq] at hc;split
    .rename_i hv
     simp only[Wu,decide_eq_true_eq] at hv;refine⟨by grind,by simp,fun j c=>?_⟩;simp only at c;rcases (show j=0\/j=1\/j=2 by omega) with rfl|rfl|rfl
     .exact one 0 O
     .exact⟨O,O⟩
     .exact⟨O,O⟩
    .exact⟨by simp[WS],by simp,one⟩
   .split
    .rename_i hc
     simp only[Wu,decide_eq_true_eq,beq_iff_eq] at hc;split
     .rename_i hv
      simp only[Wu,decide_eq_true_eq] at hv;refine⟨by grind,by simp,fun j c=>?_⟩;simp only at c;rcases (show j=0\/j=1\/j=2\/j=3 by omega) with rfl|rfl|rfl|rfl
      .exact one 0 O
      .exact⟨O,O⟩
      .exact⟨O,O⟩
      .exact⟨O,O⟩
     .exact⟨by simp[WS],by simp,one⟩
    .exact⟨by simp[WS],by simp,one⟩
theorem c4C(s:Us)(pos:M):∀ n:M,(∀ j,j<n+1->fK s (pos+j)≠32)->gA s (pos+(n+1))=((gA s pos).1,U ((gA s pos).2.getD pos)):=by
 intro n;induction n with
 |zero =>intro h;have:=h 0 O;simp only[WQ] at this;show oF _ pos (gA s pos)=_;rw[decide_eq_false this];rfl
 |succ n ih =>intro h;have i:=ih (fun j c=>h j O);have:=h (n+1) O;show oF (decide (fK s (pos+(n+1))=32)) (pos+(n+1)) (gA s (pos+(n+1)))=_;rw[decide_eq_false this,i];rfl
theorem c2l(s:Us):∀ (f pos:M),pos<=s.size->s.size-pos<=f->WU (fun r=>r==32) s f pos (gA s pos).2 (gA s pos).1=gA s s.size:=by
 intro f;induction f with
 |zero =>intro pos E D;obtain rfl:pos=s.size:=O;rfl
 |succ f ih =>
  intro pos E D;by_cases c:pos<s.size
  .unfold WU;rw[Uz c];rcases b3J s pos c with ⟨K,C⟩|⟨I,H,t⟩
   .rw[C];simp only;have G:=Mf s pos c;have u:0<=fK s pos:=by unfold fK;omega
    have i:=ih (pos+1) O O;have st:gA s (pos+1)=oF (decide (fK s pos=32)) pos (gA s pos):=rfl;by_cases k:fK s pos=32
    .have e:((s.get! pos).toNat==32)=UE:=Uo
     rw[e,Uz rfl];rw[decide_eq_true k] at st
     cases h:(gA s pos).2 with
     |none=>simp only;rw[st] at i;simp only[oF,h,if_true] at i;exact i
     |some a=>simp only;rw[st] at i;simp only[oF,h,if_true] at i;exact i
    .have e:((s.get! pos).toNat==32)=UD:=Uo
     rw[e,Uy Uj];rw[decide_eq_false k] at st
     cases h:(gA s pos).2 with
     |none=>simp only;rw[st] at i;simp only[oF,h,U7,if_false,WV] at i;exact i
     |some a=>simp only;rw[st] at i;simp only[oF,h,U7,if_false,WL] at i;exact i
   .have e:((WM s pos).1==32)=UD:=Uo
    rw[e,Uy Uj];obtain⟨n,A⟩:∃ n,(WM s pos).2=n+1:=⟨(WM s pos).2-1,O⟩;have p:=t ((WM s pos).2-1) O;have st:=c4C s pos n (fun j B=>by have q:=t j O;have G:=Mf s (pos+j) q.2;have u:0<=fK s (pos+j):=Uo;omega)
    have i:=ih (pos+(n+1)) O O;rw[st] at i;rw[A]
    cases h:(gA s pos).2 with
    |none=>simp only;simp only[h,WV] at i;exact i
    |some a=>simp only;simp only[h,WL] at i;exact i
  .obtain rfl:pos=s.size:=O
   unfold WU;rw[Uy c]
theorem b3C(s:Us):WW (fun r=>r==32) s=aC s:=by unfold WW Lib.spansOfP aC;have:=c2l s s.size 0 (zN _) O;rw[show (gA s 0).2=Z from rfl,show (gA s 0).1=[] from rfl] at this;rw[this]
end Go.Proofs.YtolaacmheeaadaaGreatDoor.Txt
namespace Go.Proofs.YtolaacmheeaadaaGreatDoor.Txt
open Go
def jv(s:Us)(k:M):Us:=match (gA s k).2 with|none=>⟨#[]⟩|some a=>s.extract a k
def oy(s:Us)(k:M):J Us:=(gA s k).1.map fun x=>s.extract x.1 x.2
theorem AD(s:Us):∀ (k a:M),(gA s k).2=U a->a<k
 |0,a,h=>by simp[gA] at h
 |k+1,a,h=>by
  simp only[gA,oF] at h;split at h
  .split at h <;> simp at h
  .simp only[Option.some.injEq] at h
   cases c:(gA s k).2 with
   |none=>rw[c] at h;simp at h;omega
   |some b=>rw[c] at h;simp at h;have:=AD s k b c;omega
theorem qI(a b:Us):(a++b).data.toList=a.data.toList++b.data.toList:=by rw[ByteArray.data_append,Array.toList_append]
theorem TF(s:Us)(a k:M)(h:a<=k):s.extract a k++s.extract k (k+1)=s.extract a (k+1):=by simp_all <;> omega
theorem J3(s:Us)(k:M):(jv s k).size<=k:=by
 unfold jv;split
 .exact zN _
 .have:∀ a b,(s.extract a b).size=min b s.size-a:=fun a b=>WX ..
  rw[this];omega
theorem c0V(b:Us):(⟨#[]⟩:Us)++b=b:=by apply nT;rw[qI];rfl
theorem J2(s:Us)(k:M)(h:fK s k≠32):jv s k++s.extract k (k+1)=jv s (k+1)/\oy s (k+1)=oy s k:=by
 have e:gA s (k+1)=((gA s k).1,U ((gA s k).2.getD k)):=by simp only[gA,oF,decide_eq_false h];rfl
 refine⟨?_,by unfold oy;rw[e]⟩;unfold jv;rw[e]
 cases c:(gA s k).2 with
 |none=>simp only[WV];exact c0V _
 |some a=>simp only[WL];exact TF s a k (Nat.le_of_lt (AD s k a c))
theorem Lm(s:Us)(k:M)(q:k<=s.size)(h:fK s k=32):jv s (k+1)=⟨#[]⟩/\oy s (k+1)=oy s k++(if (jv s k).size=0 then [] else [jv s k]):=by
 have e:gA s (k+1)=oF UE k (gA s k):=by simp only[gA,decide_eq_true h]
 cases f:(gA s k).2 with
 |none =>
  have p:gA s (k+1)=((gA s k).1,Z):=by rw[e];simp[oF,f]
  have c:jv s k=⟨#[]⟩:=by unfold jv;rw[f]
  refine⟨by unfold jv;rw[p],?_⟩;rw[c];unfold oy;rw[p];simp;rfl
 |some a =>
  have p:gA s (k+1)=((gA s k).1++[(a,k)],Z):=by rw[e];simp[oF,f]
  have c:jv s k=s.extract a k:=by unfold jv;rw[f]
  have lt:=AD s k a f;have sz:(s.extract a k).size=min k s.size-a:=WX ..;refine⟨by unfold jv;rw[p],?_⟩;rw[c,Uy O];unfold oy;rw[p];simp
theorem El(s:Us):aC s=oy s s.size++(if (jv s s.size).size=0 then [] else [jv s s.size]):=by
 unfold aC oy jv WK
 cases c:(gA s s.size).2 with
 |none=>simp;rfl
 |some a =>have lt:=AD s _ a c;have sz:(s.extract a s.size).size=min s.size s.size-a:=WX ..;simp only;rw[Uy O];simp
theorem xZ(s:Us):∀ k:M,(oy s k).length<=k
 |0=>zq _
 |k+1=>by
  have ih:=xZ s k;unfold oy at *;rw[We] at *;simp only[gA,oF];split
  .split <;> simp <;> omega
  .simp;omega
end Go.Proofs.YtolaacmheeaadaaGreatDoor.Txt
namespace Go.Proofs.YtolaacmheeaadaaGreatDoor.Txt
open Go
def fu(l:J UInt8):N :=if l==[109,111] then 0 else if l==[116,117] then 1 else if l==[119,101] then 2 else if l==[116,104] then 3 else if l==[102,114] then 4 else if l==[115,97] then 5 else if l==[115,117] then 6 else -1
theorem At(l:J UInt8):-1<=fu l/\fu l<=6:=by unfold fu;(repeat' split) <;> omega
theorem Ue(h:0<=fu l):l.length=2/\44 ∉ l:=by grind[fu]
theorem yy(h:¬ (l.length=2/\44 ∉ l)):fu l=-1:=by have b:=At l;by_cases g:0<=fu l;exact UA (Ue g) h;omega
def mv(acc:J N)(d:N):Uu (J N):=if 0<=d/\acc.contains d=UD then U (d :: acc) else Z
def qa:J (J UInt8)->J N->Uu (J N)
 |[],acc=>U acc
 |p :: ps,acc=>(mv acc (fu p)).bind (qa ps)
def kC:J UInt8->J N->Uu (J N)
 |[a,b],acc=>mv acc (fu [a,b])
 |a :: b :: c :: r,acc=>if c=44 then (mv acc (fu [a,b])).bind (kC r) else Z
 |_,_=>Z
def sp:J UInt8->J (J UInt8)
 |[]=>[[]]
 |c :: l=>if c=44 then [] :: sp l else (match sp l with| []=>[[c]]|p :: ps=>(c :: p) :: ps)
theorem yH(acc:J N):mv acc (-1)=Z:=by simp[mv]
theorem To(l:J UInt8):sp l≠[]:=by
 cases l with
 |nil=>simp[sp]
 |cons c l=>unfold sp;split;simp;split <;> simp
theorem ub{p:J UInt8}(c:J (J UInt8))(acc:J N)(h:¬ (p.length=2/\44 ∉ p)):qa (p :: c) acc=Z:=by simp[qa,yy h,yH]
theorem Hk:∀ (l:J UInt8)(acc r:J N),kC l acc=U r->l.length % 3=2
 |[],_,_,h=>by simp[kC] at h
 |[_],_,_,h=>by simp[kC] at h
 |[_,_],_,_,_=>rfl
 |a :: b :: c :: l,acc,r,h=>by unfold kC at h;split at h;simp only[Option.bind_eq_some_iff] at h;let⟨x,_,h⟩:=h;have:=Hk l x r h;simp only[VB];omega;cases h
theorem wq(c:UInt8)(l:J UInt8)(h:c≠44):∃ p ps,sp l=p :: ps/\sp (c :: l)=(c :: p) :: ps:=by
 cases f:sp l with
 |nil=>exact UA f (To l)
 |cons p ps=>exact⟨p,ps,rfl,by simp[sp,h,f]⟩
theorem vl(l:J UInt8):sp (44 :: l)=[] :: sp l:=by simp[sp]
theorem JP:∀ (l:J UInt8)(acc:J N),qa (sp l) acc=kC l acc
 |[],acc=>by rw[show sp []=[[]] from rfl,ub _ _ Ui];rfl
 |[a],acc=>by by_cases f:a=44;subst f;rw[vl,ub _ _ Ui];rfl;let⟨p,ps,h1,h2⟩:=wq a [] f;simp only[sp,WY] at h1;obtain⟨rfl,rfl⟩:=h1;rw[h2,ub _ _ Ui];rfl
 |[a,b],acc=>by
  by_cases f:a=44
  .subst f;rw[vl,ub _ _ Ui,kC,yy Ui,yH]
  .let⟨p,ps,h1,h2⟩:=wq a [b] f;rw[h2]
   by_cases h:b=44
   .subst h;rw[vl] at h1;simp only[WY] at h1;obtain⟨rfl,rfl⟩:=h1;rw[ub _ _ Ui,kC,yy Ui,yH]
   .let⟨p',ps',h1',h2'⟩:=wq b [] h;simp only[sp,WY] at h1';obtain⟨rfl,rfl⟩:=h1';rw[h2'] at h1;simp only[WY] at h1;obtain⟨rfl,rfl⟩:=h1;simp only[qa,kC]
    cases mv acc (fu [a,b]) <;> rfl
 |a :: b :: c :: l,acc=>by
  have ih:=JP l;by_cases f:a=44
  .subst f;rw[vl,ub _ _ Ui,kC,yy Ui,yH]
   split <;> rfl
  .let⟨p,ps,h1,h2⟩:=wq a (b :: c :: l) f;rw[h2]
   by_cases h:b=44
   .subst h;rw[vl] at h1;simp only[WY] at h1;obtain⟨rfl,rfl⟩:=h1;rw[ub _ _ Ui,kC,yy Ui,yH]
    split <;> rfl
   .let⟨p',ps',h1',h2'⟩:=wq b (c :: l) h;rw[h2'] at h1;simp only[WY] at h1;obtain⟨rfl,rfl⟩:=h1
    by_cases k:c=44
    .subst k;rw[vl] at h1';simp only[WY] at h1';obtain⟨rfl,rfl⟩:=h1';simp only[qa,kC,if_true]
     cases mv acc (fu [a,b]) with
     |none=>rfl
     |some x=>exact ih x
    .let⟨p'',ps'',_,h2''⟩:=wq c l k;rw[h2''] at h1';simp only[WY] at h1';obtain⟨rfl,rfl⟩:=h1';rw[ub _ _ Ui,kC,Uy k]
theorem b8u(c:UInt8)(l:J UInt8)(h:c≠44):WI (c :: l) [44]=if WI l [44]==-1 then -1 else WI l [44]+1:=by rw[WI];have:([44]:J UInt8).isPrefixOf (c :: l)=UD:=Uo;rw[this];rfl
theorem b5c(l:J UInt8):WI (44 :: l) [44]=0:=by rw[WI];simp[WH]
theorem b4B(c:UInt8)(l:J UInt8)(h:c≠44)(k:M):∃ p ps,W4 [44] 0 k l=p :: ps/\W4 [44] 0 k (c :: l)=(c :: p) :: ps:=by
 cases k with
 |zero=>exact⟨l,[],rfl,rfl⟩
 |succ k =>
  unfold W4;rw[b8u c l h];by_cases f:(WI l [44]==-1)=UE
  .rw[Uz f,Uz f];exact⟨l,[],rfl,rfl⟩
  .rw[Uy f,Uy f];have g:=Lib.index_ge l [44];have q:WI l [44]≠-1:=fun e=>f (beq_iff_eq.2 e)
   rw[Uy Uo];refine⟨_,_,rfl,?_⟩;let⟨i,hi'⟩:=WJ (show 0<=WI l [44] by omega);rw[hi',show ((i:N)+1).toNat=i+1 from by omega,show ((i:N)).toNat=i from by omega];simp
theorem KI:∀ l:J UInt8,W4 [44] 0 (l.count 44) l=sp l
 |[]=>rfl
 |c :: l=>by have ih:=KI l;by_cases h:c=44;subst h;rw[List.count_cons_self,vl,<- ih];rw[W4,b5c];simp;rw[List.count_cons_of_ne Uo];let⟨p,ps,h1,h2⟩:=b4B c l h (l.count 44);rw[h2];rw[ih] at h1;simp[sp,h,h1]
def jf(s:Us):Uu (J N):=kC s.data.toList []
def fC(s:Us):Uv:=(jf s).isSome
theorem b9L(s:Us):qa ((Lib.splitB ⟨#[44]⟩ 0 (Lib.countB s ⟨#[44]⟩) s).map (·.data.toList)) []=jf s:=by rw[Lib.splitB_data];have c:Lib.countB s ⟨#[44]⟩=s.data.toList.count 44:=Lib.count_one 44 s.data.toList;rw[c,show (ByteArray.mk #[44]).data.toList=[44] from rfl,KI,JP];rfl
end Go.Proofs.YtolaacmheeaadaaGreatDoor.Txt
namespace Go.Proofs.YtolaacmheeaadaaGreatDoor
def aI(acc:J N)(j:N):Uv:=acc.contains j
end Go.Proofs.YtolaacmheeaadaaGreatDoor
namespace Go.Proofs.YtolaacmheeaadaaGreatDoor
theorem Gd{α:Type}{lt:α->α->Prop}(f:∀ x,¬ lt x x)(ht:∀ x y z,lt x y->lt y z->lt x z):∀ {l m:J α},l.Pairwise lt->m.Pairwise lt->(∀ x,x∈l↔x∈m)->l=m
 |[],[],_,_,_=>rfl
 |[],y :: m,_,_,h=>by have:=(h y).2 Ui;simp at this
 |x :: l,[],_,_,h=>by have:=(h x).1 Ui;simp at this
 |x :: l,y :: m,hl,hm,h=>by
  rw[Vn] at hl hm;have e:x=y:=by
   rcases Va.1 ((h x).1 Ui) with e|e
   .exact e
   .rcases Va.1 ((h y).2 Ui) with k|k
    .exact k.symm
    .exact UA (ht _ _ _ (hl.1 y k) (hm.1 x e)) (f x)
  subst e;congr 1;refine Gd f ht hl.2 hm.2 (fun z=>?_);constructor
  .intro c;rcases Va.1 ((h z).1 (by simp[c])) with e|e
   .subst e;exact UA (hl.1 z c) (f z)
   .exact e
  .intro c;rcases Va.1 ((h z).2 (by simp[c])) with e|e
   .subst e;exact UA (hm.1 z c) (f z)
   .exact e
namespace Rd
def iV(p:N->Uv):M->N->J N
 |0,_=>[]
 |k+1,d=>if p d then d :: iV p k (d+1) else iV p k (d+1)
theorem Bf(p:N->Uv):∀ (k:M)(d x:N),x∈iV p k d↔d<=x/\x<d+k/\p x=UE
 |0,d,x=>by simp[iV];omega
 |k+1,d,x=>by
  have ih:=Bf p k (d+1) x;simp only[iV];by_cases c:p d=UE
  .rw[Uz c,Va,ih];constructor
   .rintro (rfl|⟨q,h,f⟩)
    .exact⟨W5 _,O,c⟩
    .exact⟨O,O,f⟩
   .rintro ⟨q,h,f⟩
    by_cases e:x=d
    .exact .inl e
    .exact .inr ⟨O,O,f⟩
  .rw[Uy c,ih];constructor
   .rintro ⟨q,h,f⟩;exact⟨O,O,f⟩
   .rintro ⟨q,h,f⟩;have:x≠d:=fun e=>c (e ▸ f)
    exact⟨O,O,f⟩
theorem wQ(p:N->Uv):∀ (k:M)(d:N),(iV p k d).Pairwise (· < ·)
 |0,d=>by simp[iV]
 |k+1,d=>by simp only[iV];split;rw[Vn];exact⟨fun x c=>by have:=(Bf p k (d+1) x).1 c;omega,wQ p k (d+1)⟩;exact wQ p k (d+1)
theorem b8Z{l m:J N}(f:l.Pairwise (· < ·))(c:m.Pairwise (· < ·))(h:∀ x,x∈l↔x∈m):l=m :=Gd (lt:=fun a b:N=>a<b) (fun x=>by omega) (fun x y z h k=>by omega) f c h
def kK(ev:N):M->N->J N
 |0,_=>[]
 |k+1,d=>if d<728 then d :: kK ev k (d+ev) else []
theorem Kg{ev:N}(q:1<=ev):∀ (k:M)(d x:N),728<=d+k->(x∈kK ev k d↔d<=x/\x<728/\(x-d) % ev=0)
 |0,d,x,h=>by simp[kK];omega
 |k+1,d,x,h=>by
  simp only[kK];by_cases c:d<728
  .rw[Uz c,Va,Kg q k (d+ev) x O];have t:(x-(d+ev)) % ev=(x-d) % ev:=by rw[show x-(d+ev)=x-d-ev from by omega,W6]
   rw[t];constructor
   .rintro (rfl|⟨r,p,f⟩)
    .exact⟨W5 _,c,by simp⟩
    .exact⟨O,p,f⟩
   .rintro ⟨r,p,f⟩
    by_cases e:d+ev<=x
    .exact .inr ⟨e,p,f⟩
    .rw[W7 O O] at f;exact .inl O
  .rw[Uy c];simp;omega
theorem Ei{ev:N}(f:1<=ev):∀ (k:M)(d:N),(kK ev k d).Pairwise (· < ·)/\∀ x∈kK ev k d,d<=x
 |0,d=>by simp[kK]
 |k+1,d=>by
  simp only[kK];let⟨i1,i2⟩:=Ei f k (d+ev);split
  .refine⟨Vn.2 ⟨fun x c=>by grind,i1⟩,fun x c=>?_⟩;rcases Va.1 c with rfl|c
   .exact W5 _
   .have:=i2 x c;omega
  .simp
def qY(acc:J N)(fr c:N):J N:=iV (fun d=>aI acc (d-c)) (c+7-max c fr).toNat (max c fr)
def ku(acc:J N)(fr ev:N):M->N->J N
 |0,_=>[]
 |k+1,mon=>if mon<728 then qY acc fr mon++ku acc fr ev k (mon+ev*7) else []
theorem Eu{c:N}:x∈qY acc fr c↔c<=x/\fr<=x/\x<c+7/\aI acc (x-c)=UE:=by unfold qY;rw[Bf];constructor;rintro ⟨p,k,f⟩;exact⟨O,O,O,f⟩;rintro ⟨p,k,f,h⟩;exact⟨O,O,h⟩
theorem Ki{acc:J N}{fr ev:N}(C:1<=ev):∀ (k:M)(f x:N),0<=f->f % 7=0->728<=f+k->(x∈ku acc fr ev k f↔f<=x/\fr<=x/\x<728/\aI acc (x % 7)=UE/\(x / 7-f / 7) % ev=0)
 |0,f,x,h0,h7,h=>by simp[ku];omega
 |k+1,f,x,h0,h7,h=>by
  simp only[ku];by_cases c:f<728
  .have B:(ev*7) % 7=0:=O
   rw[Uz c,Vb,Eu,Ki C k (f+ev*7) x O O O];have G:(f+ev*7) / 7=f / 7+ev:=O;have E:(x / 7-(f+ev*7) / 7) % ev=(x / 7-f / 7) % ev:=by rw[G,show x / 7-(f / 7+ev)=x / 7-f / 7-ev from by omega,W6]
   rw[E];constructor
   .rintro (⟨u,q,t,p⟩|⟨u,q,t,p,r⟩)
    .have A:x-f=x % 7:=O
     have D:x / 7-f / 7=0:=O;rw[A] at p;rw[D];exact⟨u,q,O,p,by simp⟩
    .exact⟨O,q,t,p,r⟩
   .rintro ⟨u,q,t,p,r⟩
    by_cases e:x<f+7
    .have A:x-f=x % 7:=O
     exact .inl ⟨u,q,e,by grind⟩
    .by_cases H:f+ev*7<=x
     .exact .inr ⟨H,q,t,p,r⟩
     .rw[W7 O O] at r;omega
  .rw[Uy c];simp;omega
theorem Ek{acc:J N}{fr ev:N}(p:1<=ev):∀ (k:M)(c:N),(ku acc fr ev k c).Pairwise (· < ·)/\∀ x∈ku acc fr ev k c,c<=x
 |0,c=>by simp[ku]
 |k+1,c=>by
  simp only[ku];let⟨i1,i2⟩:=Ek (acc:=acc) (fr:=fr) p k (c+ev*7);split
  .refine⟨W8.2 ⟨wQ _ _ _,i1,fun x f y h=>?_⟩,fun x f=>?_⟩
   .have:=Eu.1 f;have:=i2 y h;omega
   .rcases Vb.1 f with f|f
    .exact (Eu.1 f).1
    .have:=i2 x f;omega
  .simp
def reached(y m:N):Uv:=Cal.ok y m 1 && decide (Cal.num y m 1<728)
def pR(y m ev:N):N:=y+(m-1+ev) / 12
def oE(m ev:N):N:=(m-1+ev) % 12+1
def sG(y m dt:N):J N:=if Cal.ok y m dt then [Cal.num y m dt] else []
def kL(dt ev:N):M->N->N->J N
 |0,_,_=>[]
 |k+1,y,m=>if reached y m then sG y m dt++kL dt ev k (pR y m ev) (oE m ev) else []
theorem tP{d c f d':N}(h:Cal.ok y m d=UE)(p:Cal.ok c f d'=UE)(k:12*y+m<12*c+f):Cal.num y m d<Cal.num c f d':=by have i:=Cal.yp y m d h;have q:=Cal.yp c f d' p;let⟨h1,h2,h3,h4,h5,h6⟩:=(Cal.jx y m d).1 h;let⟨g1,g2,g3,g4,g5,g6⟩:=(Cal.jx c f d').1 p;by_cases e:y=c;subst e;have:=Cal.Ep y m f h3 O O;unfold Cal.num;omega;have:=Cal.uP (y+1) c O O;omega
theorem yL(k:1<=y)(h:y<=9999)(f:1<=m)(c:m<=12):Cal.ok y m 1=UE:=by have:=Cal.pL y m;exact (Cal.jx _ _ _).2 ⟨k,h,f,c,O,O⟩
theorem ML(q:2024<=y)(p:y<=9999)(k:1<=m)(f:m<=12):reached y m=UE↔12*y+m<=24312:=by
 have o:=yL (m:=m) Uo p k f;unfold reached;rw[o,Bool.true_and,decide_eq_true_eq];have t:Cal.num 2025 12 1=700:=Uj;have r:Cal.num 2026 1 1=731:=Uj;constructor
 .intro h;apply W9;intro c
  by_cases e:12*y+m=24313
  .have:y=2026:=O
   have:m=1:=O;subst_vars;omega
  .have:=tP (yL (y:=2026) (m:=1) O O O O) o O;omega
 .intro h
  by_cases e:12*y+m=24312
  .have:y=2025:=O
   have:m=12:=O;subst_vars;omega
  .have:=tP o (yL (y:=2025) (m:=12) O O O O) O;omega
theorem EA{ev:N}:12*pR y m ev+oE m ev=12*y+m+ev/\1<=oE m ev/\oE m ev<=12:=by unfold pR oE;omega
theorem sB(p:0<=x)(k:x<728):Cal.ok (Cal.yT x) (Cal.mT x) (Cal.dT x)=UE/\Cal.num (Cal.yT x) (Cal.mT x) (Cal.dT x)=x/\2024<=Cal.yT x/\12*Cal.yT x+Cal.mT x<=24312:=by
 let⟨o,n⟩:=Cal.vQ x O O;refine⟨o,n,?_,?_⟩
 .apply W9;intro c;let⟨g1,g2,g3,g4,g5,g6⟩:=(Cal.jx _ _ _).1 o;have:=tP o (yL (y:=2024) (m:=1) O O O O) O;have e:Cal.num 2024 1 1=0:=Uj
  omega
 .apply W9;intro c;let⟨g1,g2,g3,g4,g5,g6⟩:=(Cal.jx _ _ _).1 o;have r:Cal.num 2026 1 1=731:=Uj
  have f:=yL (y:=2026) (m:=1) O O O O;by_cases e:12*Cal.yT x+Cal.mT x=24313
  .have:Cal.yT x=2026:=O
   have h:Cal.mT x=1:=O;rw[this,h] at n;have q:Cal.num 2026 1 (Cal.dT x)=731+Cal.dT x-1:=by
    have:Cal.num 2026 1 (Cal.dT x)=Cal.num 2026 1 1+Cal.dT x-1:=by unfold Cal.num;omega
    omega
   omega
  .have:=tP f o O;omega
theorem Kh{dt ev:N}(B:1<=ev)(t:ev<=99):∀ (k:M)(y m x:N),2024<=y->y<=2034->1<=m->m<=12->24312<12*y+m+k->0<=x->x<728 ->(x∈kL dt ev k y m↔Cal.dT x=dt/\12*y+m<=12*Cal.yT x+Cal.mT x/\(12*Cal.yT x+Cal.mT x-12*y-m) % ev=0)
 |0,y,m,x,hy,hy2,hm,hm2,hk,h0,h1=>by have:=(sB h0 h1).2.2.2;simp[kL];omega
 |k+1,y,m,x,hy,hy2,hm,hm2,hk,h0,h1=>by
  let⟨o,n,y0,mx⟩:=sB h0 h1;let⟨g1,g2,g3,g4,g5,g6⟩:=(Cal.jx _ _ _).1 o;simp only[kL];have u:=ML (y:=y) (m:=m) hy O hm hm2;by_cases c:12*y+m<=24312
  .rw[Uz (u.2 c),Vb];let⟨l1,l2,l3⟩:=EA (y:=y) (m:=m) (ev:=ev);rw[Kh B t k (pR y m ev) (oE m ev) x O O l2 l3 O h0 h1]
   have E:(12*Cal.yT x+Cal.mT x-12*pR y m ev-oE m ev) % ev=(12*Cal.yT x+Cal.mT x-12*y-m) % ev:=by rw[show 12*Cal.yT x+Cal.mT x-12*pR y m ev-oE m ev=12*Cal.yT x+Cal.mT x-12*y-m-ev from by omega,W6]
   rw[E,l1];have r:x∈sG y m dt↔Cal.dT x=dt/\12*y+m=12*Cal.yT x+Cal.mT x:=by
    unfold sG;constructor
    .intro h
     by_cases ok:Cal.ok y m dt=UE
     .rw[Uz ok] at h;have:x=Cal.num y m dt:=Uo
      let⟨f,q,p⟩:=Cal.xV y m dt x ok this.symm;exact⟨p.symm,O⟩
     .rw[Uy ok] at h;simp at h
    .rintro ⟨f,q⟩;have D:y=Cal.yT x:=O
     have C:m=Cal.mT x:=O;subst f;rw[D,C,Uz o,n];simp
   rw[r];constructor
   .rintro (⟨f,q⟩|⟨f,q,p⟩)
    .refine⟨f,O,?_⟩;rw[show 12*Cal.yT x+Cal.mT x-12*y-m=0 from by omega];simp
    .exact⟨f,O,p⟩
   .rintro ⟨f,q,p⟩
    by_cases e:12*y+m+ev<=12*Cal.yT x+Cal.mT x
    .exact .inr ⟨f,e,p⟩
    .rw[W7 O O] at p;exact .inl ⟨f,O⟩
  .have A:¬ reached y m=UE:=fun h=>c (u.1 h)
   rw[Uy A];simp;omega
theorem Ej{dt ev:N}(q:1<=ev):∀ (k:M)(y m:N),1<=m->m<=12->(kL dt ev k y m).Pairwise (· < ·)/\∀ x∈kL dt ev k y m,∃ c f,Cal.ok c f dt=UE/\x=Cal.num c f dt/\12*y+m<=12*c+f
 |0,y,m,_,_=>by simp[kL]
 |k+1,y,m,h1,h2=>by
  simp only[kL];let⟨l1,l2,l3⟩:=EA (y:=y) (m:=m) (ev:=ev);let⟨i1,i2⟩:=Ej (dt:=dt) q k (pR y m ev) (oE m ev) l2 l3;split
  .unfold sG
   by_cases ok:Cal.ok y m dt=UE
   .rw[Uz ok];refine⟨W8.2 ⟨by simp,i1,fun x h z p=>?_⟩,fun x h=>?_⟩
    .have:x=Cal.num y m dt:=Uo
     obtain⟨c,f,o,rfl,k⟩:=i2 z p;rw[this];exact tP ok o O
    .rcases Vb.1 h with h|h
     .have:x=Cal.num y m dt:=Uo
      exact⟨y,m,ok,this,W5 _⟩
     .let⟨c,f,o,e,k⟩:=i2 x h;exact⟨c,f,o,e,O⟩
   .rw[Uy ok];refine⟨by grind,fun x h=>?_⟩;let⟨c,f,o,e,k⟩:=i2 x Uo;exact⟨c,f,o,e,O⟩
  .simp
structure cP where
 pc:N
 ev:N
 acc:J N
 fr:N
 mn:N
 mi:N
 ti:N
 un:N
structure hH(r:cP):Prop where
 Gv:1<=r.pc
 Gu:r.pc<=3
 e1:1<=r.ev
 e2:r.ev<=99
 f0:0<=r.fr
 f1:r.fr<728
 m0:0<=r.mn
 m1:r.mn<1440
 i1:1<=r.mi
 i2:r.mi<=1048320
 t0:0<=r.ti
 t1:r.ti<=99
 u0:0<=r.un
 u1:r.un<728
def has(r:cP)(d:N):Uv :=
 if r.pc=1 then decide ((d-r.fr) % r.ev=0)
 else if r.pc=2 then aI r.acc (d % 7) && decide ((d / 7-r.fr / 7) % r.ev=0)
 else decide (Cal.dT d=Cal.dT r.fr) && decide ((12*Cal.yT d+Cal.mT d-12*Cal.yT r.fr-Cal.mT r.fr) % r.ev=0)
def all(r:cP):J N:=iV (has r) (728-r.fr).toNat r.fr
theorem D8{r:cP}(h:hH r)(x:N):x∈all r↔r.fr<=x/\x<728/\has r x=UE:=by have:=h.f1;unfold all;rw[Bf];constructor;rintro ⟨f,k,c⟩;exact⟨f,O,c⟩;rintro ⟨f,k,c⟩;exact⟨f,O,c⟩
def seq(r:cP):J N :=
 if r.pc=2 then ku r.acc r.fr r.ev 800 (r.fr-r.fr % 7)
 else if r.pc=3 then kL (Cal.dT r.fr) r.ev 100 (Cal.yT r.fr) (Cal.mT r.fr)
 else kK r.ev 800 r.fr
theorem Jv{r:cP}(h:hH r):(seq r).Pairwise (· < ·):=by
 unfold seq;split
 .exact (Ek h.e1 _ _).1
 .split
  .have o:=(sB h.f0 h.f1).1;let⟨g1,g2,g3,g4,g5,g6⟩:=(Cal.jx _ _ _).1 o;exact (Ej h.e1 _ _ _ g3 g4).1
  .exact (Ei h.e1 _ _).1
theorem JU{r:cP}(h:hH r)(A:0<=x)(q:x<728):x∈seq r↔r.fr<=x/\has r x=UE:=by
 have H:=h.f0;have G:=h.f1;have E:=h.Gv;have D:=h.Gu;unfold seq has;by_cases c2:r.pc=2
 .rw[Uz c2,Uy O,Uz c2,Ki h.e1 800 _ x O O O];have e:(r.fr-r.fr % 7) / 7=r.fr / 7:=O
  rw[e,Wu,decide_eq_true_eq];constructor
  .rintro ⟨k,p,f,u,t⟩;exact⟨p,u,t⟩
  .rintro ⟨p,u,t⟩;exact⟨O,p,q,u,t⟩
 .rw[Uy c2]
  by_cases c3:r.pc=3
  .rw[Uz c3,Uy O,Uy c2];let⟨o,n,y0,mx⟩:=sB h.f0 h.f1;let⟨g1,g2,g3,g4,g5,g6⟩:=(Cal.jx _ _ _).1 o;rw[Kh h.e1 h.e2 100 _ _ x y0 O g3 g4 O A q,Wu,decide_eq_true_eq,decide_eq_true_eq];let⟨ox,nx,yx,mxx⟩:=sB A q;constructor
   .rintro ⟨k,p,f⟩;refine⟨?_,k,f⟩
    by_cases e:12*Cal.yT r.fr+Cal.mT r.fr=12*Cal.yT x+Cal.mT x
    .let⟨j1,j2,j3,j4,j5,j6⟩:=(Cal.jx _ _ _).1 ox;have C:Cal.yT r.fr=Cal.yT x:=O
     have B:Cal.mT r.fr=Cal.mT x:=O;rw[C,B,<- k] at n;omega
    .have:=tP o ox O;omega
   .rintro ⟨k,p,f⟩;refine⟨p,?_,f⟩;apply W9;intro c;have:=tP ox o O;omega
  .rw[Uy c3,Uz O,Kg h.e1 800 _ x O,decide_eq_true_eq];constructor
   .rintro ⟨k,p,f⟩;exact⟨k,f⟩
   .rintro ⟨k,f⟩;exact⟨k,q,f⟩
theorem b1t{l:J N}(h:l.Pairwise (· < ·))(b x:N):x∈l.takeWhile (fun d=>decide (d<=b))↔x∈l/\x<=b:=by
 induction l with
 |nil=>simp
 |cons d l ih =>
  rw[Vn] at h;rw[List.takeWhile_cons];by_cases c:d<=b
  .simp only[c,decide_true,if_true,Va,ih h.2];constructor
   .rintro (rfl|⟨k,f⟩)
    .exact⟨.inl rfl,c⟩
    .exact⟨.inr k,f⟩
   .rintro ⟨rfl|k,f⟩
    .exact .inl rfl
    .exact .inr ⟨k,f⟩
  .simp only[c,decide_false,U7,if_false,List.not_mem_nil,false_iff,Va];rintro ⟨rfl|k,f⟩
   .exact c f
   .have:=h.1 x k;omega
theorem Ju{r:cP}(h:hH r)(D:b<728):(seq r).takeWhile (fun d=>decide (d<=b))=(all r).filter (fun d=>decide (d<=b)):=by
 refine b8Z ?_ ?_ (fun x=>?_)
 .exact Xa (List.takeWhile_sublist _) (Jv h)
 .exact Vq _ (wQ _ _ _)
 .rw[b1t (Jv h),Xb,D8 h,decide_eq_true_eq];have E:=h.f0
  have low:x∈seq r->0<=x:=by
   intro c;unfold seq at c;split at c
   .have:=(Ek h.e1 _ _).2 x c;omega
   .split at c
    .have o:=(sB h.f0 h.f1);let⟨g1,g2,g3,g4,g5,g6⟩:=(Cal.jx _ _ _).1 o.1;obtain⟨y',m',u,rfl,k⟩:=(Ej h.e1 _ _ _ g3 g4).2 x c
     by_cases e:12*Cal.yT r.fr+Cal.mT r.fr=12*y'+m'
     .let⟨j1,j2,j3,j4,j5,j6⟩:=(Cal.jx _ _ _).1 u;have C:Cal.yT r.fr=y':=O
      have B:Cal.mT r.fr=m':=O;rw[<- C,<- B,o.2.1];omega
     .have:=tP o.1 u O;have:=o.2.1;omega
    .have:=(Ei h.e1 _ _).2 x c;omega
  constructor
  .rintro ⟨f,t⟩;have A:=low f;let⟨q,p⟩:=(JU h A O).1 f;exact⟨⟨q,O,p⟩,t⟩
  .rintro ⟨⟨f,t,q⟩,p⟩;exact⟨(JU h O t).2 ⟨f,q⟩,p⟩
theorem c4L{r:cP}(h:hH r):(seq r).takeWhile (fun d=>decide (d<=727))=all r:=by rw[Ju h O];exact Xc.2 (fun x c=>by have:=(D8 h x).1 c;simp;omega)
def ig(r:cP):J N:=if 0<r.ti then ((seq r).takeWhile (fun d=>decide (d<=727))).take r.ti.toNat else ((seq r).takeWhile (fun d=>decide (d<=r.un))).take 41
def yg(r:cP)(l:J N)(d:N):J N:=if has r d/\((r.ti=0/\d<=r.un)\/(0<r.ti/\(l.length:N)<r.ti)) then l++[d] else l
def rD(r:cP):M->N->J N->J N
 |0,_,l=>l
 |k+1,d,l=>rD r k (d+1) (yg r l d)
theorem MR{r:cP}(h:r.ti=0):∀ (k:M)(d:N)(l:J N),rD r k d l=l++(iV (has r) k d).filter (fun d=>decide (d<=r.un))
 |0,d,l=>by simp[rD,iV]
 |k+1,d,l=>by
  simp only[rD,iV];rw[MR h k (d+1)];unfold yg;by_cases c:has r d=UE
  .rw[Uz c,Vp]
   by_cases c2:d<=r.un
   .rw[Uz ⟨c,.inl ⟨h,c2⟩⟩,Uz (by simp[c2])];simp
   .rw[Uy O,Uy (by simp[c2])]
  .rw[Uy c,Uy (fun e=>c e.1)]
theorem Bw{r:cP}(h:0<r.ti):∀ (k:M)(d:N)(l:J N),(l.length:N)<=r.ti->rD r k d l=l++(iV (has r) k d).take (r.ti.toNat-l.length)
 |0,d,l,_=>by simp[rD,iV]
 |k+1,d,l,hl=>by
  simp only[rD,iV];unfold yg;by_cases c:has r d=UE
  .rw[Uz c]
   by_cases c2:(l.length:N)<r.ti
   .rw[Uz ⟨c,.inr ⟨h,c2⟩⟩,Bw h k (d+1) _ Uo];have e:r.ti.toNat-l.length=(r.ti.toNat-(l++[d]).length)+1:=Uo
    rw[e,List.take_succ_cons];simp
   .rw[Uy O,Bw h k (d+1) _ hl];have e:r.ti.toNat-l.length=0:=O
    rw[e];simp
  .rw[Uy c,Uy (fun e=>c e.1),Bw h k (d+1) _ hl]
def cN(r:cP):J N:=rD r (728-r.fr).toNat r.fr []
theorem FU{r:cP}(h:hH r):cN r=if 0<r.ti then (all r).take r.ti.toNat else (all r).filter (fun d=>decide (d<=r.un)):=by have c:=h.t0;unfold cN;split;rw[Bw Uk _ _ _ Uo];simp[all];rw[MR O];simp[all]
theorem Ln{r:cP}(h:hH r):ig r=if 0<r.ti then cN r else (cN r).take 41:=by rw[FU h];unfold ig;split;rw[c4L h];rw[Ju h h.u1]
def oC(r:cP)(d:N):Uv:=decide (1048320<d*1440+r.mn+r.mi)
def iS(r:cP):N :=if 40<(cN r).length\/40<r.ti then 11 else if cN r=[]\/((cN r).length:N)<r.ti then 6 else if (cN r).any (oC r) then 6 else 0
def gR(r:cP):N :=if 40<r.ti then 11 else if 40<(ig r).length then 11 else if ig r=[]\/((ig r).length:N)<r.ti then 6 else if oC r ((ig r).getLastD 0) then 6 else 0
theorem Ma{r:cP}(h:hH r):(cN r).Pairwise (· < ·):=by rw[FU h];split;exact Xa (List.take_sublist _ _) (wQ _ _ _);exact Vq _ (wQ _ _ _)
theorem uZ{r:cP}(h:hH r)(c:x∈cN r):r.fr<=x/\x<728:=by rw[FU h] at c;have:x∈all r:=Uo;have:=(D8 h x).1 this;exact⟨this.1,this.2.1⟩
theorem yU{r:cP}:∀ {l:J N},l.Pairwise (· < ·)->l≠[]->l.any (oC r)=oC r (l.getLastD 0)
 |[],_,h=>UA rfl h
 |[d],_,_=>by simp
 |d :: e :: l,h,_=>by
  rw[Vn] at h;have ih:=yU (r:=r) (l:=e :: l) h.2 Ui;rw[List.any_cons,ih];have k:(d :: e :: l).getLastD 0=(e :: l).getLastD 0:=Uo;rw[k]
  cases f:oC r d
  .simp
  .have c:(e :: l).getLastD 0∈e :: l:=by
    have:(e :: l).getLastD 0=(e :: l).getLast Ui:=by simp[List.getLastD]
    rw[this];exact List.getLast_mem _
   have:=h.1 _ c;simp only[oC,decide_eq_true_eq] at f;simp only[oC,Bool.true_or];exact (decide_eq_true O).symm
theorem sF{r:cP}(h:hH r):gR r=iS r/\(iS r=0->ig r=cN r/\cN r≠[]/\(cN r).length<=40/\∀ d∈cN r,d*1440+r.mn+r.mi<=1048320):=by
 have p:=Ln h;have k:=Ma h;have D:=h.t0;have fin:∀ {l:J N},l≠[]->¬ l.any (oC r)=UE->∀ d∈l,d*1440+r.mn+r.mi<=1048320:=by intro l _ A d B;apply W9;intro c;exact A (Xd.2 ⟨d,B,by simp only[oC,decide_eq_true_eq];omega⟩)
 unfold gR iS;by_cases c:0<r.ti
 .rw[Uz c] at p;rw[p]
  by_cases c1:40<r.ti
  .rw[Uz c1,Uz (.inr c1)];exact⟨rfl,fun e=>by omega⟩
  .rw[Uy c1]
   by_cases c2:40<(cN r).length
   .rw[Uz c2,Uz (.inl c2)];exact⟨rfl,fun e=>by omega⟩
   .have u:¬ (40<(cN r).length\/40<r.ti):=O
    rw[Uy c2,Uy u];by_cases c3:cN r=[]\/((cN r).length:N)<r.ti
    .rw[Uz c3,Uz c3];exact⟨rfl,fun e=>by omega⟩
    .have f:cN r≠[]:=fun e=>c3 (.inl e)
     rw[Uy c3,Uy c3,yU k f];refine⟨rfl,fun e=>⟨rfl,f,O,fin f ?_⟩⟩;rw[yU k f];intro q;rw[Uz q] at e;omega
 .rw[Uy c] at p;have C:¬ 40<r.ti:=O
  rw[p,Uy C];by_cases c2:40<(cN r).length
  .have:40<((cN r).take 41).length:=Uo
   rw[Uz this,Uz (.inl c2)];exact⟨rfl,fun e=>by omega⟩
  .have t:(cN r).take 41=cN r:=VN O;have u:¬ (40<(cN r).length\/40<r.ti):=O
   rw[t,Uy c2,Uy u];by_cases c3:cN r=[]\/((cN r).length:N)<r.ti
   .rw[Uz c3,Uz c3];exact⟨rfl,fun e=>by omega⟩
   .have f:cN r≠[]:=fun e=>c3 (.inl e)
    rw[Uy c3,Uy c3,yU k f];refine⟨rfl,fun e=>⟨rfl,f,O,fin f ?_⟩⟩;rw[yU k f];intro q;rw[Uz q] at e;omega
def jd(r:cP)(l:J N):J (N × N):=l.map fun d=>(d*1440+r.mn,d*1440+r.mn+r.mi)
end Rd
open Go.RowKit
namespace aA
def jZ(name:Us)(es:J aQ)(a b:N)(m x:N):N:=if a<x/\x<b/\m<cM name x es then cM name x es else m
def nZ(name:Us)(es:J aQ)(a b:N):N:=(fW name es).foldl (jZ name es a b) (cM name a es)
end aA
theorem Qu(d:M)(a:Uu Addr)(cap E:M)(es:J aA.aQ)(name:Us)(fr til:N)(w:UF)(h:oJ w d a cap E es)(hl:es.length<=1000)(X:∀ e∈es,aA.Small e):UI prog 123 #[d,name,fr,til] w fun e w'=>e=UW (V Y (aA.nZ name es fr til))/\UH w w w':=by
 have ST:=aB (fun w' (k:UH w w w')=>I0 d a cap E es name w' (h.later k) hl X);have TK:=aB (fun t w' (k:UH w w w')=>II d a cap E es name t w' (h.later k) hl X);have sz:=Df name es X;have H:aA.nZ name es fr til=(aA.fW name es).foldl (aA.jZ name es fr til) (aA.cM name fr es):=rfl;rw[H];generalize aA.fW name es=l at *;have ac:l.length<=100000:=O;clear h X H sz;go_in;go_wp21;refine aK (TK _ _ fI) fun w1 S=>?_;have C:=aB S;clear S;go_wp21;refine (ST _ C).mono ?_;rintro e w2 ⟨v2,rfl,I,R⟩;obtain⟨a2,c2,g2,rfl,aa,W,G⟩:=Ae I;have R2:=aB (Vf W (Vf G (bU C R aJ)));clear ST I R W G C aa;go_wp21;go_loopw [9,11,12] (fun m i _ wx=>∃ j:M,j<=l.length/\i=V Y j/\m=V Y ((l.take j).foldl (aA.jZ name es fr til) (aA.cM name fr es))/\UH w2 w2 wx) (fun _ i _ _=>l.length-(intOf i).toNat)
 .exact⟨0,VM _,rfl,rfl,Below.refl _ _⟩
 .obtain⟨j,hj,rfl,rfl,T⟩:=hrel;have K:=bU R2.2.2 T aJ;have A:=aB K;have HB:=aB T;clear K
  by_cases r:j<l.length
  .obtain rfl:=R2.1 (by intro e;simp[e] at r);have c0:=aT T (R2.2.1 j r);have ab:(j:N)<(l.length:N):=O
   have D:(l.take (j+1)).foldl (aA.jZ name es fr til) (aA.cM name fr es)=aA.jZ name es fr til ((l.take j).foldl (aA.jZ name es fr til) (aA.cM name fr es)) l[j]:=by rw[VL r,Xe];rfl
   have p:=aB D;have f:=aB (TK l[j]);generalize (l.take j).foldl (aA.jZ name es fr til) (aA.cM name fr es)=m at *;have q:Hid (aA.jZ name es fr til m l[j]=if fr<l[j]/\l[j]<til/\m<aA.cM name l[j] es then aA.cM name l[j] es else m):=rfl;generalize aA.cM name l[j] es=tk at *;clear D T;by_cases h1:fr<l[j]
   .by_cases h2:l[j]<til
    .by_cases h3:m<tk
     .have u:Hid ((l.take (j+1)).foldl (aA.jZ name es fr til) (aA.cM name fr es)=tk):=by show _=tk;rw[p,q,Uz ⟨h1,h2,h3⟩]
      go_wp21;refine aK (f _ A) fun w4 c=>?_;have B:=aB (bU HB c aJ);clear c f;go_wp21;go_roundw
      .exact⟨j+1,O,by go_num,by rw[u],B⟩
      .simp[intOf];omega
     .have u:Hid ((l.take (j+1)).foldl (aA.jZ name es fr til) (aA.cM name fr es)=m):=by show _=m;rw[p,q,Uy (fun x=>h3 x.2.2)]
      go_wp21;refine aK (f _ A) fun w4 c=>?_;have B:=aB (bU HB c aJ);clear c f;go_wp21;go_roundw
      .exact⟨j+1,O,by go_num,by rw[u],B⟩
      .simp[intOf];omega
    .have u:Hid ((l.take (j+1)).foldl (aA.jZ name es fr til) (aA.cM name fr es)=m):=by show _=m;rw[p,q,Uy (fun x=>h2 x.2.1)]
     go_wp21;go_roundw
     .exact⟨j+1,O,by go_num,by rw[u],HB⟩
     .simp[intOf];omega
   .have u:Hid ((l.take (j+1)).foldl (aA.jZ name es fr til) (aA.cM name fr es)=m):=by show _=m;rw[p,q,Uy (fun x=>h1 x.1)]
    go_wp21;go_roundw
    .exact⟨j+1,O,by go_num,by rw[u],HB⟩
    .simp[intOf];omega
  .have e:l.take j=l:=VN O;have ab:¬ (j:N)<(l.length:N):=O
   clear T;go_wp21;go_ret;exact⟨jy (by first|rfl|rw[e]),A⟩
namespace aA
def iZ:J aQ->J N
 |[]=>[]
 |e :: r=>e.aR.map (·.2)++iZ r
theorem Sr(l r:J aQ):iZ (l++r)=iZ l++iZ r:=by
 induction l with
 |nil=>rfl
 |cons e l ih=>simp only[Vm,iZ,ih,V8]
def mw(ts:J (Us × N))(es:J aQ)(name:Us)(aN long fr til c s:N):N :=if s<fr\/til<s+long\/(0<=c/\c<=s) then c else if eT ts es name aN [(s,s+long)] then s else c
def kP(ts:J (Us × N))(es:J aQ)(name:Us)(aN long fr til:N):N:=(fr :: iZ es).foldl (mw ts es name aN long fr til) (-1)
def Ha(es:J aQ):Prop:=∀ e∈es,∀ s∈e.aR,0<=s.2/\s.2<=2000000
theorem IE(l:J aQ)(h:∀ e∈l,Small e):(iZ l).length<=100*l.length:=by
 induction l with
 |nil=>simp[iZ]
 |cons e l ih =>have i:=ih (fun x c=>h x (by simp[c]));have s:=(h e Ui).sl;simp only[iZ,VA,VB,We];omega
theorem QT(l:J aQ)(h:Ha l):∀ x∈iZ l,0<=x/\x<=2000000:=by
 induction l with
 |nil=>simp[iZ]
 |cons e l ih =>
  intro x c;simp only[iZ,Vb,VQ] at c;rcases c with ⟨s,f,rfl⟩|c
  .exact h e Ui s f
  .exact ih (fun e k=>h e (by simp[k])) x c
end aA
def pF(fr:N)(l:J aA.aQ)(e:aA.aQ)(j:M):J N:=fr :: (aA.iZ l++(e.aR.take j).map (·.2))
theorem Qt(d:M)(a:Uu Addr)(cap E:M)(es:J aA.aQ)(at_:Uu Addr)(ct G:M)(ts:J (Us × N))(name:Us)(aN long fr til:N)(w:UF)(h:oJ w d a cap E es)(ht:rJ w d at_ ct G ts)(hl:es.length<=1000)(a9:ts.length<=1000)(hs:∀ e∈es,aA.Small e)(he:aA.Ha es)(a8:0<=aN)(a7:aN<=9)(bq:0<=long)(bn:long<=2000000)(bh:0<=fr)(bg:fr<=2000000):UI prog 124 #[d,name,aN,long,fr,til] w fun e w'=>e=UW (V Y (aA.kP ts es name aN long fr til))/\UH w w w':=by
 obtain⟨i0,bf,a4,a3,az⟩:=info_parts qC;have FT:=aB (fun w' (k:UH w w w') B cb L hL bc=>Ia d a cap E es at_ ct G ts name aN B cb L w' (h.later k) (ht.later k) hL hl a9 hs bc a8 a7);have H:=aB h;have HS:=aB hs;have sz:=aA.IE es hs;have ab:Hid (∀ x∈fr :: aA.iZ es,0<=x/\x<=2000000):=by
  intro x hx;rcases Va.1 hx with rfl|hx
  .exact⟨bh,bg⟩
  .exact aA.QT es he x hx
 have ao:aA.kP ts es name aN long fr til=(fr :: aA.iZ es).foldl (aA.mw ts es name aN long fr til) (-1):=rfl;rw[ao];obtain⟨l,X⟩:∃ l,fr :: aA.iZ es=l:=⟨_,rfl⟩;have bs:l.length<=100100:=by rw[<- X,VB];omega
 rw[X] at ab ⊢;have aw:=aB X;clear h ht hs he ao X;go_in;go_wp21;have o0:(w.alloc (UX #[fr] 3)).ownsRow w 3 1 (UO w 1 1) 1 ([fr].map (V Y)) :=⟨rfl,.inr ⟨w,1,#[fr],rfl,UY _,dH _ _,UY _,by unfold maxLen;omega,rfl,rfl⟩⟩
 have O0:=aB (Vf o0 ((zr _ w).alloc aJ (UX #[fr] 3)));clear o0;go_loopw [13,14,15] (fun v i _ wx=>∃ k:M,k<=es.length/\i=V Y k/\wx.ownsRow w 3 1 v (fr :: aA.iZ (es.take k)).length ((fr :: aA.iZ (es.take k)).map (V Y))/\UH w w wx) (fun _ i _ _=>es.length-(intOf i).toNat)
 .exact⟨0,VM _,rfl,O0.1,O0.2⟩
 .obtain⟨k,hk,rfl,f,t⟩:=hrel;have bl:=VT k es;have hx:=H.later t;have cc:=hx.c;have bm:=aA.IE (es.take k) (fun e he=>HS e (List.mem_of_mem_take he))
  by_cases W:k<es.length
  .obtain rfl:=H.at W;obtain⟨B,cp,ad⟩:=H.r k W;have c4:=(ad.later t).c4;have al:=HS es[k] (zg W);have I:(k:N)<(es.length:N):=O
   have e:fr :: aA.iZ (es.take (k+1))=fr :: (aA.iZ (es.take k)++es[k].aR.map (·.2)):=by rw[VL W,aA.Sr];simp[aA.iZ]
   have EE:=aB e;have sl:=al.sl;have R0:=aB ad;have HO:=aB (Vf f t);clear e ad hx al f t;go_wp21;go_loopw [13,15] (fun v i wx=>∃ j:M,j<=es[k].aR.length/\i=V Y j/\wx.ownsRow w 3 1 v (pF fr (es.take k) es[k] j).length ((pF fr (es.take k) es[k] j).map (V Y))/\UH w w wx) (fun _ i _=>es[k].aR.length-(intOf i).toNat)
   .exact⟨0,VM _,rfl,by rw[pF];simpa using HO.out.1,HO.2⟩
   .obtain⟨j,hj,rfl,f,t⟩:=hrel;clear cc c4;have cc:=(H.later t).c;have c4:=(R0.later t).c4;have aa:=aB (Vf f t);have aq:=t.size
    by_cases u:j<es[k].aR.length
    .have r1:=(R0.sl.later t j u).2;have ae:(j:N)<(es[k].aR.length:N):=O
     have av:pF fr (es.take k) es[k] (j+1)=pF fr (es.take k) es[k] j++[es[k].aR[j].2]:=by unfold pF;rw[VL u,VU,Vm,V8];rfl
     have ES:=aB av;have bj:(pF fr (es.take k) es[k] j).length<=100*k+101:=by unfold pF;have:=VT j es[k].aR;simp only[VB,VA,We];omega
     clear av t;go_wp2_with (first
      |(at_builtin;refine wpList_append_own _ rfl _ _ 53 rfl w 3 i0 (V Y 0) 1 8 underlying53 bf a4 a3 az rfl Uj _ _ _ rfl (f.alloc _) (wr,0) 1 1 [V Y es[k].aR[j].2] rfl rfl (Wf (cs:=#[V Y es[k].aR[j].2]) (dH wr _)) Uq Up O Un ?_;intro v' w' D K _))
     have ar:UH w w w':=(aa.2.alloc aq _).grown K Un (fun k hk=>gU aa.1 hk);have HK:Hid (w'.ownsRow w 3 1 v' (pF fr (es.take k) es[k] (j+1)).length ((pF fr (es.take k) es[k] (j+1)).map (V Y))):=by show w'.ownsRow _ _ _ _ _ _;rw[ES,VU,VA];exact D
     have bi:=aB ar;clear D K ar f aa r1 cc c4;go_wp21;go_roundw
     .exact⟨j+1,O,by go_num,HK,bi⟩
     .simp[intOf];omega
    .have ae:¬ (j:N)<(es[k].aR.length:N):=O
     have ac:pF fr (es.take k) es[k] j=fr :: aA.iZ (es.take (k+1)):=by have et:es[k].aR.take j=es[k].aR:=VN O;rw[EE,pF,et]
     have HK:Hid (wr.ownsRow w 3 1 u13 (fr :: aA.iZ (es.take (k+1))).length ((fr :: aA.iZ (es.take (k+1))).map (V Y))):=by show wr.ownsRow _ _ _ _ _ _;rw[<- ac];exact f
     clear f t ac;go_wp21;go_roundw
     .exact⟨k+1,O,by go_num,HK,aa.2⟩
     .simp[intOf];omega
  .have e:es.take k=es:=VN O;have I:¬ (k:N)<(es.length:N):=O
   rw[e,aw] at f;obtain⟨a2,c2,g2,rfl,ba,au,an⟩:=Ae f;have R2:=aB (Vf au (Vf an t));clear f t e au an ba aw hx O0;go_wp21;go_loopw [16,17,18,19] (fun b i _ _ wx=>∃ j:M,j<=l.length/\i=V Y j/\b=V Y ((l.take j).foldl (aA.mw ts es name aN long fr til) (-1))/\UH w w wx/\∀ (i:M) (I:i<l.length),wx.cell? (g2,i)=U (V Y l[i])) (fun _ i _ _ _=>l.length-(intOf i).toNat)
   .exact⟨0,VM _,rfl,rfl,R2.2.2,R2.2.1⟩
   .obtain⟨j,hj,rfl,rfl,t,S⟩:=hrel;have aj:=aB t;have HC:=aB S;clear S
    by_cases u:j<l.length
    .obtain rfl:=R2.1 (by intro e;simp[e] at u);have c0:=HC j u;have ae:(j:N)<(l.length:N):=O
     have ak:(l.take (j+1)).foldl (aA.mw ts es name aN long fr til) (-1)=aA.mw ts es name aN long fr til ((l.take j).foldl (aA.mw ts es name aN long fr til) (-1)) l[j]:=by rw[VL u,Xe];rfl
     have ag:=aB ak;have hm:=ab.out l[j] (zg u);generalize (l.take j).foldl (aA.mw ts es name aN long fr til) (-1)=b at *;generalize l[j]=sx at *;have ai:Hid (aA.mw ts es name aN long fr til b sx=if sx<fr\/til<sx+long\/(0<=b/\b<=sx) then b else if aA.eT ts es name aN [(sx,sx+long)] then sx else b):=rfl;clear ak t;by_cases p:sx<fr\/til<sx+long\/(0<=b/\b<=sx)
     .have HE:Hid ((l.take (j+1)).foldl (aA.mw ts es name aN long fr til) (-1)=b):=by show _=b;rw[ag,ai,Uz p]
      have R:sx<fr\/(¬ sx<fr/\til<sx+long)\/(¬ sx<fr/\¬ til<sx+long/\0<=b/\b<=sx):=O;clear p;rcases R with q1|⟨q1,q2⟩|⟨q1,q2,q3,q4⟩;all_goals
       go_wp21;go_roundw
       .exact⟨j+1,O,by go_num,by rw[HE],aj,HC⟩
       .simp[intOf];omega
     .have hB:iW (wr.alloc (UX #[V Y sx,V Y (sx+long)] 83)) wr [(sx,sx+long)]:=by
       intro i I;have:i=0:=by simpa using I
       subst this;exact⟨by simp,by simp⟩
      have af:UH w w (wr.alloc (UX #[V Y sx,V Y (sx+long)] 83)):=bU aj aS aJ;have C:=aB (FT _ af wr 1 [(sx,sx+long)] hB Ui);have ay:=aB af;have ax:Hid (∀ (i:M) (I:i<l.length),(wr.alloc (UX #[V Y sx,V Y (sx+long)] 83)).cell? (g2,i)=U (V Y l[i])):=fun i I=>aT aS (HC i I);have q1:¬ sx<fr:=O;have q2:¬ til<sx+long:=O;have hz:(wr.alloc (UX #[V Y sx,V Y (sx+long)] 83)).heap.size=wr.heap.size+1:=Ui;clear hB af hz
      cases q:aA.eT ts es name aN [(sx,sx+long)]
      .have HE:Hid ((l.take (j+1)).foldl (aA.mw ts es name aN long fr til) (-1)=b):=by show _=b;rw[ag,ai,Uy p,q];rfl
       rw[q] at C;have R:b<0\/(0<=b/\sx<b):=O;clear p q;rcases R with q3|⟨q3,q4⟩;all_goals
        go_wp21;refine C.mono ?_;rintro e w4 ⟨rfl,A⟩;have T:=aB (Vf (bU ay A aJ) (fun i I=>aT A (ax i I)));clear A C;go_wp21;go_roundw
        .exact⟨j+1,O,by go_num,by rw[HE],T.1,T.2⟩
        .simp[intOf];omega
      .have HE:Hid ((l.take (j+1)).foldl (aA.mw ts es name aN long fr til) (-1)=sx):=by show _=sx;rw[ag,ai,Uy p,q];rfl
       rw[q] at C;have R:b<0\/(0<=b/\sx<b):=O;clear p q;rcases R with q3|⟨q3,q4⟩;all_goals
        go_wp21;refine C.mono ?_;rintro e w4 ⟨rfl,A⟩;have T:=aB (Vf (bU ay A aJ) (fun i I=>aT A (ax i I)));clear A C;go_wp21;go_roundw
        .exact⟨j+1,O,by go_num,by rw[HE],T.1,T.2⟩
        .simp[intOf];omega
    .have e:l.take j=l:=VN O;have ae:¬ (j:N)<(l.length:N):=O
     clear t;go_wp21;go_ret;exact⟨jy (by first|rfl|rw[e]),aj⟩
namespace aA
def sD(a x:N):J N->N
 |[]=>a
 |s :: r=>if s<=x/\sD a x r<s then s else sD a x r
theorem Ga(a x:N)(h:a<=x):∀ l:J N,a<=sD a x l/\sD a x l<=x/\(sD a x l=a\/sD a x l∈l)/\∀ s∈l,s<=x->s<=sD a x l
 |[]=>⟨W5 _,h,.inl rfl,by simp⟩
 |s :: r=>by
  let⟨h1,h2,f,h4⟩:=Ga a x h r;simp only[sD];split
  .rename_i c
   refine⟨O,c.1,.inr Ui,fun t ht k=>?_⟩;rcases Va.1 ht with rfl|ht
   .omega
   .have:=h4 t ht k;omega
  .rename_i c
   refine⟨h1,h2,?_,fun t ht k=>?_⟩
   .rcases f with f|f
    .exact .inl f
    .exact .inr (by simp[f])
   .rcases Va.1 ht with rfl|ht
    .omega
    .exact h4 t ht k
theorem M4(f:y<=x)(h:∀ s∈L,s.1<=x->s.1<=y):eM L x<=eM L y:=by
 unfold eM;rw[<- Xf,<- Xf];have:Xg (hasB x) L<=Xg (hasB y) L:=Xh (fun s k c=>by simp[hasB] at c ⊢;have:=h s k c.1;omega)
 omega
def Pos(es:J aQ):Prop:=∀ e∈es,0<=e.aN
theorem Gb{name:Us}{x y:N}(f:y<=x):∀ {es:J aQ},Pos es->(∀ s∈fW name es,s<=x->s<=y)->cM name x es<=cM name y es
 |[],_,_=>W5 _
 |e :: r,hp,h=>by
  have ih:=Gb (name:=name) f (es:=r) (fun z q=>hp z (by simp[q])) (fun s p=>h s (by simp[fW,p]));simp only[cM];by_cases c:dB name e=UE
  .rw[Uz c,Uz c];have p:dI e.bH name=UE:=by simp[dB] at c;exact c.1
   have A:=M4 f (fun s k t=>h s.1 (by simp[fW,p];exact .inl ⟨s.2,k⟩) t);have u:=hp e Ui;have:eM e.aR x*e.aN<=eM e.aR y*e.aN:=Xi A u;omega
  .rw[Uy c,Uy c];omega
theorem b7K(c:Pos es){a:N}(h:a<=x):∃ y,a<=y/\y<=x/\(y=a\/y∈fW name es)/\cM name x es<=cM name y es:=by let⟨h1,h2,h3,h4⟩:=Ga a x h (fW name es);exact⟨_,h1,h2,h3,Gb h2 c h4⟩
theorem wN{aN:N}(t:Pos es)(r:0<=aN):eT ts es name aN L=UE↔∀ x,0<eM L x->cM name x es+eM L x*aN<=cI name ts:=by
 constructor
 .intro h x f
  have k:∃ s∈L,s.1<=x/\x<s.2:=by unfold eM at f;have B:0<(L.filter (hasB x)).length:=O;let⟨s,c⟩:=Xj B;have:=Xb.1 c;simp[hasB] at this;exact⟨s,this.1,this.2⟩
  let⟨s0,hs0,k1,k2⟩:=k;let⟨h1,h2,h3,h4⟩:=Ga s0.1 x k1 (fW name es++L.map (·.1));generalize sD s0.1 x (fW name es++L.map (·.1))=y at h1 h2 h3 h4;have p:y∈fW name es++L.map (·.1):=Uo;have ht:=Gb (name:=name) (es:=es) h2 t (fun s c=>h4 s (by simp[c]));have A:eM L x<=eM L y:=M4 h2 (fun s c=>h4 s.1 Uo);have C:=WB.1 h y p;simp[sq] at C;have q:0<eM L y:=O;have u:=Xi A r;omega
 .intro h;unfold eT qU;rw[WB];intro x _;simp[sq]
  by_cases f:0<eM L x
  .exact .inr (h x f)
  .exact .inl O
theorem FL(a b x:N):eM [(a,b)] x=if a<=x/\x<b then 1 else 0:=by
 unfold eM;by_cases h:a<=x/\x<b
 .rw[Uz h];simp[hasB,h.1,h.2]
 .rw[Uy h];have:hasB x (a,b)=UD:=by simp[hasB];omega
  simp[this]
theorem F9{aN a:N}(r:Pos es)(q:0<=aN):eT ts es name aN [(a,b)]=UE↔∀ x,a<=x->x<b->cM name x es+aN<=cI name ts:=by
 rw[wN r q];constructor
 .intro h x p k;have:=h x (by rw[FL,Uz ⟨p,k⟩];omega);rw[FL,Uz ⟨p,k⟩] at this;omega
 .intro h x f;rw[FL] at f ⊢
  by_cases c:a<=x/\x<b
  .rw[Uz c];have:=h x c.1 c.2;omega
  .rw[Uy c] at f;omega
def vW(f:N->N)(a b m:N):Prop:=(∀ x,a<=x->x<b->f x<=m)/\∃ x,a<=x/\x<b/\f x=m
theorem vW.eq{f:N->N}{a n:N}(h:vW f a b m)(k:vW f a b n):m=n:=by grind[vW]
theorem Lx{name:Us}{es:J aQ}{a b:N}:∀ (l:J N)(m:N),m<=l.foldl (jZ name es a b) m/\(∀ x∈l,a<x->x<b->cM name x es<=l.foldl (jZ name es a b) m)/\(l.foldl (jZ name es a b) m=m\/∃ x∈l,a<x/\x<b/\l.foldl (jZ name es a b) m=cM name x es)
 |[],m=>⟨W5 _,by simp,.inl rfl⟩
 |x :: l,m=>by
  let⟨h1,h2,h⟩:=Lx (name:=name) (es:=es) (a:=a) (b:=b) l (jZ name es a b m x);simp only[Wv];generalize l.foldl (jZ name es a b) (jZ name es a b m x)=R at h1 h2 h ⊢;have r:(jZ name es a b m x=m/\¬ (a<x/\x<b/\m<cM name x es))\/(jZ name es a b m x=cM name x es/\a<x/\x<b/\m<cM name x es):=by unfold jZ;by_cases c:a<x/\x<b/\m<cM name x es;rw[Uz c];exact .inr ⟨rfl,c⟩;rw[Uy c];exact .inl ⟨rfl,c⟩
  rcases r with ⟨e,c⟩|⟨e,c⟩
  .rw[e] at h1 h;refine⟨h1,fun y f q p=>?_,?_⟩
   .rcases Va.1 f with rfl|f
    .omega
    .exact h2 y f q p
   .rcases h with h|⟨y,f,k⟩
    .exact .inl h
    .exact .inr ⟨y,by simp[f],k⟩
  .rw[e] at h1 h;refine⟨O,fun y f q p=>?_,?_⟩
   .rcases Va.1 f with rfl|f
    .omega
    .exact h2 y f q p
   .rcases h with h|⟨y,f,k⟩
    .exact .inr ⟨x,by simp,c.1,c.2.1,h⟩
    .exact .inr ⟨y,by simp[f],k⟩
theorem a6H{a:N}(r:Pos es)(h:a<b):vW (fun x=>cM name x es) a b (nZ name es a b):=by
 let⟨h1,h2,f⟩:=Lx (name:=name) (es:=es) (a:=a) (b:=b) (fW name es) (cM name a es);unfold nZ;generalize (fW name es).foldl (jZ name es a b) (cM name a es)=R at h1 h2 f ⊢;refine⟨fun x p k=>?_,?_⟩
 .let⟨y,i1,i2,c,i4⟩:=b7K (name:=name) r p;show cM name x es<=R
  by_cases e:y=a
  .subst e;omega
  .rcases c with c|c
   .exact UA c e
   .have:=h2 y c O O;omega
 .rcases f with f|⟨x,_,p,k,q⟩
  .exact⟨a,W5 _,h,f.symm⟩
  .exact⟨x,O,k,q.symm⟩
theorem JK{name:Us}{x:N}:∀ {es:J aQ},Pos es->cM name x es<cM name (x-1) es->x∈iZ es
 |[],_,h=>by simp[cM] at h
 |e :: r,hp,h=>by
  simp only[iZ,Vb,VQ];by_cases c:∃ s∈e.aR,s.2=x
  .exact .inl c
  .right;refine JK (name:=name) (fun z f=>hp z (by simp[f])) ?_
   have t:eM e.aR (x-1)<=eM e.aR x:=by
    unfold eM;rw[<- Xf,<- Xf];have:Xg (hasB (x-1)) e.aR<=Xg (hasB x) e.aR:=Xh (fun s p u=>by simp[hasB] at u ⊢;have:s.2≠x:=fun e=>c ⟨s,p,e⟩;omega)
    omega
   have k:=hp e Ui;have q:=Xi t k;simp only[cM] at h;split at h <;> omega
def Dl(r:N):Uu N:=if r<0 then Z else U r
theorem Ff{ts:J (Us × N)}{es:J aQ}{name:Us}{aN long fr tq:N}(A:0<=fr):∀ (l:J N)(b:N),-1<=b ->
  (b=-1\/(fr<=b/\b+long<=tq/\eT ts es name aN [(b,b+long)]=UE)) ->
  let R:=l.foldl (mw ts es name aN long fr tq) b;(R=-1\/(fr<=R/\R+long<=tq/\eT ts es name aN [(R,R+long)]=UE))/\-1<=R/\(0<=b->0<=R/\R<=b)/\∀ s∈l,fr<=s->s+long<=tq->eT ts es name aN [(s,s+long)]=UE->0<=R/\R<=s
 |[],b,hb,h=>by grind
 |s :: l,b,hb,h=>by
  intro R;have B:mw ts es name aN long fr tq b s=b/\((s<fr\/tq<s+long\/(0<=b/\b<=s))\/eT ts es name aN [(s,s+long)]=UD)\/mw ts es name aN long fr tq b s=s/\fr<=s/\s+long<=tq/\eT ts es name aN [(s,s+long)]=UE/\(b<0\/s<b):=by
   unfold mw;by_cases c:s<fr\/tq<s+long\/(0<=b/\b<=s)
   .rw[Uz c];exact .inl ⟨rfl,.inl c⟩
   .rw[Uy c]
    cases C:eT ts es name aN [(s,s+long)]
    .exact .inl ⟨by simp,.inr rfl⟩
    .exact .inr ⟨by simp,O,O,rfl,O⟩
  rcases B with ⟨e,c⟩|⟨e,c1,c2,c3,c4⟩
  .have ih:=Ff (ts:=ts) (es:=es) (name:=name) (aN:=aN) (long:=long) (tq:=tq) A l b hb h;have u:R=l.foldl (mw ts es name aN long fr tq) b:=Uo
   rw[<- u] at ih;let⟨i1,i2,i3,i4⟩:=ih;refine⟨i1,i2,i3,fun t ht q p f=>?_⟩;rcases Va.1 ht with rfl|ht
   .rcases c with c|c
    .have:=i3 O;omega
    .rw[f] at c;cases c
   .exact i4 t ht q p f
  .have ih:=Ff (ts:=ts) (es:=es) (name:=name) (aN:=aN) (long:=long) (tq:=tq) A l s O (.inr ⟨c1,c2,c3⟩);have u:R=l.foldl (mw ts es name aN long fr tq) s:=Uo
   rw[<- u] at ih;let⟨i1,i2,i3,i4⟩:=ih;have r:=i3 O;refine⟨i1,i2,fun k=>by omega,fun t ht q p f=>?_⟩;rcases Va.1 ht with rfl|ht
   .exact r
   .exact i4 t ht q p f
theorem c2T(P:N->Prop)(fr:N):∀ (n:M)(s:N),s=fr+n->P s->∃ r,fr<=r/\r<=s/\P r/\∀ t,fr<=t->t<r->¬ P t:=by
 intro n;induction n using Nat.strongRecOn with
 |_ n ih =>intro s q p;by_cases c:∃ t,fr<=t/\t<s/\P t;let⟨t,k,h,f⟩:=c;let⟨r,i1,i2,i3,i4⟩:=ih (t-fr).toNat O t O f;exact⟨r,i1,O,i3,i4⟩;exact⟨s,O,W5 _,p,fun t k h f=>c ⟨t,k,h,f⟩⟩
theorem c3k{aN:N}(t:Pos es)(A:0<=aN)(H:0<=fr)(_hl:1<=long):-1<=kP ts es name aN long fr tq/\tO (fun x=>cM name x es) fr tq long (cI name ts-aN) (Dl (kP ts es name aN long fr tq)):=by
 have B:∀ s,pe (fun x=>cM name x es) long (cI name ts-aN) s↔eT ts es name aN [(s,s+long)]=UE:=by
  intro s;rw[F9 t A];constructor
  .intro h x c f;have:=h x c f;have this:cM name x es<=cI name ts-aN:=this;omega
  .intro h x c f;have:=h x c f;show cM name x es<=cI name ts-aN;omega
 let⟨D,h2,_,h4⟩:=Ff (ts:=ts) (es:=es) (name:=name) (aN:=aN) (long:=long) (tq:=tq) H (fr :: iZ es) (-1) (W5 _) (.inl rfl);unfold kP;generalize (fr :: iZ es).foldl (mw ts es name aN long fr tq) (-1)=R at D h2 h4 ⊢;have key:∀ s,fr<=s->s+long<=tq->eT ts es name aN [(s,s+long)]=UE->0<=R/\R<=s:=by
  intro s c f k;let⟨r,u,E,q,i4⟩:=c2T (fun s=>eT ts es name aN [(s,s+long)]=UE) fr (s-fr).toNat s O k;have:r∈fr :: iZ es:=by
   by_cases e:r=fr
   .simp[e]
   .have C:=i4 (r-1) O O;have p:=(F9 t A).1 q
    have:∃ x,r-1<=x/\x<r-1+long/\cI name ts<cM name x es+aN:=by
     apply W9;intro G;apply C;apply (F9 t A).2;intro x j1 j2;by_cases d:cM name x es+aN<=cI name ts
     .exact d
     .exact UA ⟨x,j1,j2,O⟩ G
    let⟨x,j1,j2,j3⟩:=this;have I:x=r-1:=by
     by_cases d:r<=x
     .have:=p x d O;omega
     .omega
    subst I;have:=p r (W5 _) O;exact Wm _ (JK (name:=name) t O)
  have:=h4 r this u O q;omega
 refine⟨h2,?_⟩;unfold Dl;split
 .intro s c f k;have:=key s c f ((B s).1 k);omega
 .rcases D with D|⟨u,E,q⟩
  .omega
  .refine⟨u,E,(B R).2 q,fun s c f k=>?_⟩;have:=key s c O ((B s).1 k);omega
theorem c1G{f:N->N}{a:N}{r q:Uu N}(h:tO f a b long level r)(k:tO f a b long level q):r=q:=by
 cases r with
 |none =>
  cases q with
  |none=>rfl
  |some s=>exact UA k.2.2.1 (h s k.1 k.2.1)
 |some s =>
  cases q with
  |none=>exact UA h.2.2.1 (k s h.1 h.2.1)
  |some t =>
   let⟨h1,h2,h3,h4⟩:=h;let⟨k1,k2,k3,k4⟩:=k;by_cases c:s<t
   .exact UA h3 (k4 s h1 c)
   .by_cases d:t<s
    .exact UA k3 (h4 t k1 d)
    .exact congrArg U O
theorem b4a{f g:N->N}{a:N}{r:Uu N}(h:tO f a b long level r)(p:∀ x,a<=x->x<b->f x=g x):tO g a b long level r:=by
 have key:∀ s,a<=s->s+long<=b->(pe f long level s↔pe g long level s):=by intro s c k;constructor;intro h x A u;rw[<- p x O O];exact h x A u;intro h x A u;rw[p x O O];exact h x A u
 cases r with
 |none=>exact fun s c k q=>h s c k ((key s c k).2 q)
 |some s =>let⟨h1,h2,h3,h4⟩:=h;exact⟨h1,h2,(key s h1 h2).1 h3,fun t c k q=>h4 t c k ((key t c O).2 q)⟩
end aA
namespace aA
def ec(name:Us):J aQ->J Uv->N
 |[],_=>0
 |e :: r,p=>(if dB name e then e.aN*iC e.aR p else 0)+ec name r p
theorem MO(name:Us)(l r:J aQ)(p:J Uv):ec name (l++r) p=ec name l p+ec name r p:=by
 induction l with
 |nil=>simp[ec]
 |cons e l ih=>simp only[Vm,ec,ih];omega
theorem b9s(h:dB name e=UE):dK (ec name es) e.aR e.aN=ec name (es++[e]):=by funext p;simp only[dK,MO,ec,h,if_true];omega
theorem MT(h:dB name e=UD):ec name (es++[e])=ec name es:=by funext p;simp[MO,ec,h]
theorem wu(name:Us)(p:J Uv):∀ es:J aQ,(∀ e∈es,Small e)->0<=ec name es p/\ec name es p<=900*es.length
 |[],_=>by simp[ec]
 |e :: r,h=>by have i:=wu name p r (fun x f=>h x (by simp[f]));have s:=h e Ui;have b:=yj e.aR p;have k:=s.sl;have c:0<=e.aN*iC e.aR p:=VI s.u0 b.1;have d:e.aN*iC e.aR p<=9*100:=Int.mul_le_mul s.u1 O b.1 O;simp only[ec,VB];split <;> omega
theorem Small.pos(h:∀ e∈es,Small e):Pos es:=fun e c=>(h e c).u0
def yu(es:J aQ):Prop:=∀ e∈es,∀ s∈e.aR,s.1<s.2
theorem yX(name:Us){x:N}(q:0<=x)(k:x<1048320):∀ es:J aQ,yu es->rh (ec name es) x=cM name x es
 |[],_=>by
  have:ec name []=fun _=>0:=by funext p;rfl
  rw[this];exact aL.b0h 20 0 1048320 x
 |e :: r,h=>by
  have ih:=yX name q k r (fun z t=>h z (by simp[t]));by_cases f:dB name e=UE
  .have:ec name (e :: r)=dK (ec name r) e.aR e.aN:=by funext p;simp only[ec,dK,f,if_true];omega
   rw[this,Mo _ _ _ _ q k (h e Ui),ih];simp only[cM,f,if_true];have:((e.aR.filter fun s=>decide (s.1<=x) && decide (x<s.2)).length:N)=eM e.aR x:=rfl;rw[this,Xk];omega
  .have c:dB name e=UD:=Uo
   have:ec name (e :: r)=ec name r:=by funext p;simp[ec,c]
   rw[this,ih];simp[cM,c]
theorem b8v{aN u:N}(t:∀ e∈es,Small e)(B:yu es)(D:qV L)(E:0<=u)(A:cI name ts=aN):mX (dK (ec name es) L u) aN L=eT ts es name u L:=by
 have G:∀ p,0<=dK (ec name es) L u p:=fun p=>by have:=(wu name p es t).1;have:=(yj L p).1;have:0<=u*iC L p:=VI E this;unfold dK;omega
 have c:∀ x,0<=x->x<1048320->rh (dK (ec name es) L u) x=cM name x es+eM L x*u:=by intro x I H;rw[Mo _ _ _ _ I H (fun s t=>(D s t).2.1),yX name I H es B];have:((L.filter fun s=>decide (s.1<=x) && decide (x<s.2)).length:N)=eM L x:=rfl;rw[this,Xk]
 rw[Wy,wN (Small.pos t) E,A];unfold mX;rw[WB];constructor
 .intro h x K;have R:0<(L.filter (hasB x)).length:=by unfold eM at K;omega
  let⟨s,r⟩:=Xj R;have r:=Xb.1 r;have C:=r.2;simp[hasB] at C;have k:=D s r.1;have:=of_decide_eq_true (h s r.1);have m:=(EH G k.1 k.2.1 k.2.2).1 x C.1 C.2;rw[c x O O] at m;omega
 .intro h s f;have k:=D s f;let⟨_,x,m1,m2,m3⟩:=EH G k.1 k.2.1 k.2.2;rw[c x O O] at m3
  have q:0<eM L x:=by unfold eM;have:s∈L.filter (hasB x):=Xb.2 ⟨f,by simp[hasB,m1,m2]⟩;have:=List.length_pos_of_mem this;omega
  have:=h x q;exact decide_eq_true O
theorem c0m{a:N}(q:∀ e∈es,Small e)(c:yu es)(u:0<=a)(r:a<b)(t:b<=1048320):uM (ec name es) (a,b)=nZ name es a b:=by have m:=EH (A:=ec name es) (s:=(a,b)) (fun p=>(wu name p es q).1) u r t;refine vW.eq (f:=fun x=>cM name x es) (a:=a) (b:=b) ⟨fun x k h=>?_,?_⟩ (a6H (Small.pos q) r);have:=m.1 x k h;rw[yX name O Uo es c] at this;exact this;let⟨x,k,h,k3⟩:=m.2;rw[yX name Uo Uo es c] at k3;exact⟨x,k,h,k3⟩
def Jt:Uu N->N
 |none=>-1
 |some s=>s
theorem b9G{aN a:N}{r:Uu N}(p:∀ e∈es,Small e)(f:yu es)(t:0<=a)(C:b<=1048320)(k:0<=aN)(q:1<=long)(h:tO (aL.fh (lL (ec name es)) 0 1048320) a b long (cI name ts-aN) r):kP ts es name aN long a b=Jt r:=by
 let⟨k1,k2⟩:=c3k (ts:=ts) (es:=es) (name:=name) (aN:=aN) (long:=long) (fr:=a) (tq:=b) (Small.pos p) k t q;have u:=b4a h (g:=fun x=>cM name x es) (fun x B A=>yX name O O es f);have e:=c1G u k2;rw[e];generalize kP ts es name aN long a b=R at *;unfold Dl;by_cases c:R<0;rw[Uz c];show R=-1;omega;rw[Uy c];rfl
def kept(id:N)(es:J aQ):J aQ:=es.filter fun e=>e.id != id
def ek(e:aQ):aQ:={ e with kind:=1,bY:=0 }
def fc(id:N)(es:J aQ):J aQ:=es.map fun e=>if e.id=id then ek e else e
def eD(es:J aQ):Prop:=(es.map (·.id)).Pairwise (· < ·)
theorem eD.cons{r:J aQ}(h:eD (e :: r)):(∀ z∈r,e.id<z.id)/\eD r:=by simp_all[eD]
theorem eD.one(h:eD es):∀ {x y:aQ},x∈es->y∈es->x.id=y.id->x=y:=by
 induction es with
 |nil=>intro x y f;simp at f
 |cons e r ih =>
  intro x y f c k;let⟨h1,h2⟩:=h.cons;rcases Va.1 f with f|f
  .rcases Va.1 c with c|c
   .rw[f,c]
   .have:=h1 y c;rw[f] at k;omega
  .rcases Va.1 c with c|c
   .have:=h1 x f;rw[c] at k;omega
   .exact ih h2 f c k
theorem Fm(h:∀ e∈es,e.id≠id):kept id es=es:=Xc.2 (fun e c=>by grind)
theorem Bu{id:N}:∀ {es:J aQ},(∀ e∈es,e.id≠id)->fc id es=es
 |[],_=>rfl
 |e :: r,h=>by have i:=Bu (id:=id) (es:=r) (fun z c=>h z (by simp[c]));unfold fc at i ⊢;rw[Xl,i,Uy (h e Ui)]
theorem b8M(es:J aQ):(fc id es).map (·.id)=es.map (·.id):=by unfold fc;rw[List.map_map];apply List.map_congr_left;intro e _;show (if e.id=id then ek e else e).id=e.id;split <;> rfl
theorem LQ(h:eD es):eD (fc id es):=by unfold eD at *;rw[b8M];exact h
theorem FC{name:Us}{e:aQ}(f:dB name e=UE):∀ {es:J aQ},eD es->e∈es->dK (ec name es) e.aR (-e.aN)=ec name (kept e.id es)
 |[],_,h=>by grind
 |z :: r,hi,h=>by
  let⟨h1,h2⟩:=hi.cons;funext p;by_cases c:z.id=e.id
  .have u:=hi.one h Ui c.symm;subst u
   have:kept e.id (e :: r)=r:=by have k:=Fm (id:=e.id) (es:=r) (fun y q=>by have:=h1 y q;omega);unfold kept at k ⊢;rw[Vp,Uy Ui,k]
   rw[this];simp only[dK,ec,f,if_true];rw[Int.neg_mul];omega
  .have t:e∈r:=by
    rcases Va.1 h with rfl|h
    .exact UA rfl c
    .exact h
   have i:=congrFun (FC f h2 t) p;have:kept e.id (z :: r)=z :: kept e.id r:=by unfold kept;rw[Vp,Uz (bZ c)]
   rw[this];simp only[dK,ec] at i ⊢;omega
theorem Gf{name:Us}{id:N}:∀ {es:J aQ},(∀ e∈es,e.id=id->dB name e=UD)->ec name (kept id es)=ec name es
 |[],_=>rfl
 |z :: r,h=>by have i:=Gf (name:=name) (id:=id) (es:=r) (fun y f=>h y (by simp[f]));funext p;have i:=congrFun i p;unfold kept at i ⊢;rw[Vp];by_cases c:z.id=id;rw[Uy (by simp[c])];simp only[ec,h z Ui c,U7,if_false];rw[i];omega;rw[Uz Uo];simp only[ec,i]
theorem tX:dB name (ek e)=dI e.bH name:=by simp[dB,ek]
theorem MP{name:Us}{e:aQ}(f:dI e.bH name=UE)(q:e.kind=3):∀ {es:J aQ},eD es->e∈es->dK (ec name es) e.aR e.aN=ec name (fc e.id es)
 |[],_,h=>by grind
 |z :: r,hi,h=>by
  let⟨h1,h2⟩:=hi.cons;funext p;by_cases c:z.id=e.id
  .have B:=hi.one h Ui c.symm;subst B
   have:fc e.id (e :: r)=ek e :: r:=by have k:=Bu (id:=e.id) (es:=r) (fun y u=>by have:=h1 y u;omega);unfold fc at k ⊢;rw[Xl,Uz rfl,k]
   rw[this];have t:dB name e=UD:=by simp[dB,q]
   simp only[dK,ec,t,tX,f,if_true,U7,if_false];show 0+ec name r p+e.aN*iC e.aR p=e.aN*iC e.aR p+ec name r p;omega
  .have A:e∈r:=by
    rcases Va.1 h with rfl|h
    .exact UA rfl c
    .exact h
   have i:=congrFun (MP f q h2 A) p;have:fc e.id (z :: r)=z :: fc e.id r:=by unfold fc;rw[Xl,Uy c]
   rw[this];simp only[dK,ec] at i ⊢;omega
theorem Gl{name:Us}{id:N}:∀ {es:J aQ},(∀ e∈es,e.id=id->dI e.bH name=UE->e.kind≠3)->ec name (fc id es)=ec name es
 |[],_=>rfl
 |z :: r,h=>by
  have i:=Gl (name:=name) (id:=id) (es:=r) (fun y f=>h y (by simp[f]));funext p;have i:=congrFun i p;unfold fc at i ⊢;rw[Xl];simp only[ec,i];by_cases c:z.id=id
  .rw[Uz c,tX]
   have e:dB name z=dI z.bH name:=by
    unfold dB
    cases k:dI z.bH name
    .rfl
    .have:=h z Ui c k;simp[this]
   rw[e];rfl
  .rw[Uy c]
theorem vh:e∈kept id es↔e∈es/\e.id≠id:=by simp[kept]
theorem ua:e∈fc id es↔(e∈es/\e.id≠id)\/∃ z∈es,z.id=id/\e=ek z:=by
 unfold fc;rw[VQ];constructor
 .rintro ⟨z,f,h⟩
  by_cases c:z.id=id
  .rw[Uz c] at h;exact .inr ⟨z,f,c,h.symm⟩
  .rw[Uy c] at h;subst h;exact .inl ⟨f,c⟩
 .rintro (⟨p,k⟩|⟨z,f,p,k⟩)
  .exact⟨e,p,Uy k⟩
  .exact⟨z,f,by grind⟩
end aA
namespace aA
def mU(a b:N)(s:N × N):Uv:=decide (s.1<b) && decide (a<s.2)
def gY(a b:N):J (N × N)->N
 |[]=>-1
 |s :: r=>if mU a b s then s.1 else gY a b r
end aA
theorem C6(x:aA.aQ × M × M)(fr til:Ux)(w:UF)(h:iW w x.2.1 x.1.aR)(I:x.1.aR.length<=100000):UI prog 166 #[.agg (fg x).toArray,fr,til] w fun e w'=>e=UW (V Y (aA.gY fr til x.1.aR))/\UH w w w':=by
 have H:=aB h;clear h;simp only[fg];go_in;go_wp21;have t:UH w w (w.alloc (UX #[x.1.id,x.1.kind,x.1.bH,x.1.aN,UO x.2.1 x.1.aR.length x.2.2,x.1.bY] 85)):=aS;have A:(w.alloc (UX #[x.1.id,x.1.kind,x.1.bH,x.1.aN,UO x.2.1 x.1.aR.length x.2.2,x.1.bY] 85)).cell? (w,4)=U (UO x.2.1 x.1.aR.length x.2.2):=Ui;have q:=aB (Vf (H.later t) t);clear t;generalize (World.alloc w _)=X at A q ⊢;generalize w=N at A ⊢;go_loop [7] (fun i=>∃ k:M,k<=x.1.aR.length/\i=V Y k/\aA.gY fr til x.1.aR=aA.gY fr til (x.1.aR.drop k)) (fun i=>x.1.aR.length-(intOf i).toNat)
 .exact⟨0,VM _,rfl,rfl⟩
 .obtain⟨k,K,rfl,D⟩:=hrel;have r:=aB D;clear D
  by_cases p:k<x.1.aR.length
  .obtain⟨c1,c2⟩:=q.1 k p;have G:(k:Ux)<(x.1.aR.length:Ux):=O
   have E:aA.gY fr til (x.1.aR.drop k)=if aA.mU fr til x.1.aR[k] then x.1.aR[k].1 else aA.gY fr til (x.1.aR.drop (k+1)):=by rw[Wh p];rfl
   have u:=aB E;clear E;by_cases C:x.1.aR[k].1<til
   .by_cases B:fr<x.1.aR[k].2
    .have c:Hid (aA.gY fr til x.1.aR=x.1.aR[k].1):=by
      show _=_;have f:aA.mU fr til x.1.aR[k]=UE:=by simp[aA.mU,C,B]
      rw[r,u,f];rfl
     go_wp21;go_ret;exact⟨jy c.symm,q.2⟩
    .have c:Hid (aA.gY fr til x.1.aR=aA.gY fr til (x.1.aR.drop (k+1))):=by
      show _=_;have f:aA.mU fr til x.1.aR[k]=UD:=by simp[aA.mU,B]
      rw[r,u,f];rfl
     go_wp21;go_round
     .exact⟨k+1,O,by go_num,c⟩
     .simp[intOf];omega
   .have c:Hid (aA.gY fr til x.1.aR=aA.gY fr til (x.1.aR.drop (k+1))):=by
     show _=_;have f:aA.mU fr til x.1.aR[k]=UD:=by simp[aA.mU,C]
     rw[r,u,f];rfl
    go_wp21;go_round
    .exact⟨k+1,O,by go_num,c⟩
    .simp[intOf];omega
  .have e:x.1.aR.drop k=[]:=Wi O;have c:Hid (aA.gY fr til x.1.aR=-1):=by show _=_;rw[r,e];rfl
   have G:¬ (k:Ux)<(x.1.aR.length:Ux):=O;clear e;go_wp21;go_ret;exact⟨jy c.symm,q.2⟩
theorem xX:(prog.info? 83).map (fun i=>(i.zero,i.size,i.bytes))=U (U (.agg #[V Y 0,V Y 0]),2,16):=Um
def lr(s:N × N):J UG:=[V Y s.1,V Y s.2]
theorem xS(L:J (N × N)):(L.flatMap lr).length=L.length*2:=by
 induction L with
 |nil=>rfl
 |cons x xs ih=>simp only[VW,VA,VB,ih,lr,List.length_nil];omega
theorem Ra(L:J (N × N)):∀ (j:M)(u:UG),(L.flatMap lr)[j]?=U u->∃ i,∃ h:i<L.length,(j=i*2/\u=V Y L[i].1)\/(j=i*2+1/\u=V Y L[i].2):=by
 intro j u f;have r:j<L.length*2:=by have:=(List.getElem?_eq_some_iff.1 f).1;rwa [xS] at this
 have q:j / 2<L.length:=O;refine⟨j / 2,q,?_⟩;have c:L=L.take (j / 2)++L[j / 2] :: L.drop (j / 2+1):=by simp_all
 have k:((L.take (j / 2)).flatMap lr).length=j / 2*2:=by rw[xS,VY O]
 rw[c,VX,VW,VZ O,k,VV (by simp[lr];omega)] at f;rcases (show j % 2=0\/j % 2=1 by omega) with e|e
 .have p:j-j / 2*2=0:=O
  rw[p] at f;simp[lr] at f;exact .inl ⟨O,f.symm⟩
 .have p:j-j / 2*2=1:=O
  rw[p] at f;simp[lr] at f;exact .inr ⟨O,f.symm⟩
theorem Ct{k:M}(h:w.ownsRow k 83 2 (UO g n cap) n (L.flatMap lr)):n=L.length/\iW w g L:=by
 have C:=h.1;rw[xS] at C;have B:n=L.length:=O;refine⟨B,fun i H=>?_⟩;rcases h.2 with ⟨E,_⟩|⟨W,r,q,t,I,D,T,S,R,K⟩
 .cases E
 .cases t
  have key:∀ (j:M) (u:UG),j<2->(lr L[i])[j]?=U u->w.cell? (g,i*2+j)=U u:=by
   intro j u G A;have X:(L.flatMap lr)[i*2+j]?=U u:=by
    have c:L=L.take i++L[i] :: L.drop (i+1):=by simp_all
    rw[c,VX,VW];have f:((L.take i).flatMap lr).length=i*2:=by rw[xS,VY O]
    rw[VZ O,f,Nat.add_sub_cancel_left,VV Uo];exact A
   have p:(q.toList.take (n*2))[i*2+j]?=U u:=Uo;rw[List.getElem?_take_of_lt O] at p;simp only[Array.getElem?_toList] at p;simp[Vk,D,p]
  exact⟨key 0 _ O rfl,key 1 _ O rfl⟩
theorem ta{b:M}{t:UK}(h:w.heap[b]?=U (UX #[c0,c1,c2,c3,c4,c5] t)):w.cell? (b,0)=U c0:=by simp[Vk,h]
theorem s7{b:M}{t:UK}(h:w.heap[b]?=U (UX #[c0,c1,c2,c3,c4,c5] t)):w.cell? (b,1)=U c1:=by simp[Vk,h]
theorem ux{b:M}{t:UK}(h:w.heap[b]?=U (UX #[c0,c1,c2,c3,c4,c5] t)):w.cell? (b,2)=U c2:=by simp[Vk,h]
theorem uy{b:M}{t:UK}(h:w.heap[b]?=U (UX #[c0,c1,c2,c3,c4,c5] t)):w.cell? (b,3)=U c3:=by simp[Vk,h]
theorem uz{b:M}{t:UK}(h:w.heap[b]?=U (UX #[c0,c1,c2,c3,c4,c5] t)):w.cell? (b,4)=U c4:=by simp[Vk,h]
theorem s8{b:M}{t:UK}(h:w.heap[b]?=U (UX #[c0,c1,c2,c3,c4,c5] t)):w.cell? (b,5)=U c5:=by simp[Vk,h]
theorem xE{b:M}{cs:Array UG}{t:UK}(h:w.heap[b]?=U (UX cs t)):∀ o,w.frozen? ⟨b,o,Z⟩=UD:=fun o=>by simp[World.frozen?,h]
theorem Rv{X:UF}{f:M}{h o2:Obj}(c:X.grownBy w1 (Value.slice Z 0 0).ownBlock)(k:f+1<X)(q:X.heap[f]?=U h)(p:X.heap[f+1]?=U o2):w1.heap[f]?=U h/\w1.heap[f+1]?=U o2 :=⟨(c.block f O Ur).trans q,(c.block (f+1) k Ur).trans p⟩
theorem Hu(x:aA.aQ × M × M)(w:UF)(h:iW w x.2.1 x.1.aR)(T:0<x.1.aR.length)(hl:x.1.aR.length<=1000):UI prog 125 #[.agg (fg x).toArray] w fun e w'=>∃ g cap,e=UW (.agg (fg (x.1,g,cap)).toArray)/\iW w' g x.1.aR/\w.heap.size<=g/\g<w'.heap.size/\UH w.heap.size w w':=by
 obtain⟨i0,W,H,G,E⟩:=info_parts xX;have HS:=aB h;clear h;simp only[fg];go_in;go_upto_region 2 with fail;have D:UH w.heap.size w ((w.alloc (UX #[V Y x.1.id,V Y x.1.kind,UQ x.1.bH,V Y x.1.aN,UO (U ⟨x.2.1,0,Z⟩) x.1.aR.length x.2.2,V Y x.1.bY] 85)).alloc (UX #[V Y 0,V Y 0,UQ ⟨#[]⟩,V Y 0,UO Z 0 0,V Y 0] 85)):=((zr _ _).alloc (zq _) _).alloc Ui _;have I:((w.alloc (UX #[V Y x.1.id,V Y x.1.kind,UQ x.1.bH,V Y x.1.aN,UO (U ⟨x.2.1,0,Z⟩) x.1.aR.length x.2.2,V Y x.1.bY] 85)).alloc (UX #[V Y 0,V Y 0,UQ ⟨#[]⟩,V Y 0,UO Z 0 0,V Y 0] 85)).heap.size=w.heap.size+2:=Ui;have p:∀ j u,(x.1.aR.flatMap lr)[j]?=U u->((w.alloc (UX #[V Y x.1.id,V Y x.1.kind,UQ x.1.bH,V Y x.1.aN,UO (U ⟨x.2.1,0,Z⟩) x.1.aR.length x.2.2,V Y x.1.bY] 85)).alloc (UX #[V Y 0,V Y 0,UQ ⟨#[]⟩,V Y 0,UO Z 0 0,V Y 0] 85)).cell? ((⟨x.2.1,0,Z⟩:Addr).add j)=U u:=by
  intro j u K;have ea:∀ j:M,((⟨x.2.1,0,Z⟩:Addr).add j)=⟨x.2.1,j,Z⟩:=by
   intro j;unfold Addr.add;split
   .rename_i h;subst h;rfl
   .simp
  rw[ea];obtain⟨i,hi,(⟨rfl,rfl⟩|⟨rfl,rfl⟩)⟩:=Ra _ j u K
  .exact aT D (HS.out i hi).1
  .exact aT D (HS.out i hi).2
 have a1:((w.alloc (UX #[V Y x.1.id,V Y x.1.kind,UQ x.1.bH,V Y x.1.aN,UO (U ⟨x.2.1,0,Z⟩) x.1.aR.length x.2.2,V Y x.1.bY] 85)).alloc (UX #[V Y 0,V Y 0,UQ ⟨#[]⟩,V Y 0,UO Z 0 0,V Y 0] 85)).heap[w.heap.size]?=U (UX #[V Y x.1.id,V Y x.1.kind,UQ x.1.bH,V Y x.1.aN,UO (U ⟨x.2.1,0,Z⟩) x.1.aR.length x.2.2,V Y x.1.bY] 85) :=(Below.heap_alloc _ _ _ Ui).trans (dH _ _)
 have a2:((w.alloc (UX #[V Y x.1.id,V Y x.1.kind,UQ x.1.bH,V Y x.1.aN,UO (U ⟨x.2.1,0,Z⟩) x.1.aR.length x.2.2,V Y x.1.bY] 85)).alloc (UX #[V Y 0,V Y 0,UQ ⟨#[]⟩,V Y 0,UO Z 0 0,V Y 0] 85)).heap[w.heap.size+1]?=U (UX #[V Y 0,V Y 0,UQ ⟨#[]⟩,V Y 0,UO Z 0 0,V Y 0] 85):=by have:=dH (w.alloc (UX #[V Y x.1.id,V Y x.1.kind,UQ x.1.bH,V Y x.1.aN,UO (U ⟨x.2.1,0,Z⟩) x.1.aR.length x.2.2,V Y x.1.bY] 85)) (UX #[V Y 0,V Y 0,UQ ⟨#[]⟩,V Y 0,UO Z 0 0,V Y 0] 85);rwa [Wp] at this
 have NW:=aB p;have r:=aB (Vf D (Vf I (Vf a1 a2)));have x4:((w.alloc (UX #[V Y x.1.id,V Y x.1.kind,UQ x.1.bH,V Y x.1.aN,UO (U ⟨x.2.1,0,Z⟩) x.1.aR.length x.2.2,V Y x.1.bY] 85)).alloc (UX #[V Y 0,V Y 0,UQ ⟨#[]⟩,V Y 0,UO Z 0 0,V Y 0] 85)).cell? ⟨w.heap.size,4,Z⟩=U (UO (U ⟨x.2.1,0,Z⟩) x.1.aR.length x.2.2):=by simp[Vk,a1]
 clear D I p a1 a2;generalize ((w.alloc (UX #[V Y x.1.id,V Y x.1.kind,UQ x.1.bH,V Y x.1.aN,UO (U ⟨x.2.1,0,Z⟩) x.1.aR.length x.2.2,V Y x.1.bY] 85)).alloc (UX #[V Y 0,V Y 0,UQ ⟨#[]⟩,V Y 0,UO Z 0 0,V Y 0] 85))=X at NW r x4 ⊢;go_wp2_with (first
  |(at_builtin;refine wpList_append_lies _ rfl _ _ 57 rfl w.heap.size 83 i0 _ 2 16 underlying57 W H G E rfl Uj (.slice Z 0 0) 0 [] rfl (World.ownsRow_nil _ _ _ _) ⟨x.2.1,0,Z⟩ x.1.aR.length x.2.2 (x.1.aR.flatMap lr) rfl (xS _) NW.out (by intro u K;obtain⟨s,_,hs⟩:=List.mem_flatMap.1 K;simp[lr] at hs;rcases hs with rfl|rfl <;> rfl) T Up O (by have:=r.out.2.1;omega) X.heap.size rfl ?_;intro g cap w1 R q ab S;obtain⟨A,t⟩:=Rv q (by have:=r.out.2.1;omega) r.out.2.2.1 r.out.2.2.2;have b0:=ta A;have b1:=s7 A;have b2:=ux A;have b3:=uy A;have b5:=s8 A;have b4:=uz A;have g4:=xE A;have r0:=ta t;have r1:=s7 t;have r2:=ux t;have r3:=uy t;have r4:=uz t;have r5:=s8 t;have rf:=xE t))
 have hg:g=X.heap.size:=by
  rcases ab with e|e
  .simp[V9] at e
  .exact e
 have I:=r.out.2.1;have B:w1.ownsRow w.heap.size 83 2 (UO (U ⟨g,0,Z⟩) x.1.aR.length cap) x.1.aR.length (x.1.aR.flatMap lr):=by simpa using R
 have f:UH w.heap.size w w1:=r.out.1.grown q r.out.1.size (fun k C=>by simp[V9] at C);have c:aH [w.heap.size,w.heap.size+1] w1 (((((((w1.setCell ⟨w.heap.size,4,Z⟩ (UO (U ⟨g,0,Z⟩) x.1.aR.length cap)).setCell ⟨w.heap.size+1,0,Z⟩ (V Y x.1.id)).setCell ⟨w.heap.size+1,1,Z⟩ (V Y x.1.kind)).setCell ⟨w.heap.size+1,2,Z⟩ (UQ x.1.bH)).setCell ⟨w.heap.size+1,3,Z⟩ (V Y x.1.aN)).setCell ⟨w.heap.size+1,4,Z⟩ (UO (U ⟨g,0,Z⟩) x.1.aR.length cap)).setCell ⟨w.heap.size+1,5,Z⟩ (V Y x.1.bY)) :=(((((((aH.refl _ w1).setCell (.inl Ui) _ _).setCell (.inl Ui) _ _).setCell (.inl Ui) _ _).setCell (.inl Ui) _ _).setCell (.inl Ui) _ _).setCell (.inl Ui) _ _).setCell (.inl Ui) _ _
 have aa:UH w.heap.size w (((((((w1.setCell ⟨w.heap.size,4,Z⟩ (UO (U ⟨g,0,Z⟩) x.1.aR.length cap)).setCell ⟨w.heap.size+1,0,Z⟩ (V Y x.1.id)).setCell ⟨w.heap.size+1,1,Z⟩ (V Y x.1.kind)).setCell ⟨w.heap.size+1,2,Z⟩ (UQ x.1.bH)).setCell ⟨w.heap.size+1,3,Z⟩ (V Y x.1.aN)).setCell ⟨w.heap.size+1,4,Z⟩ (UO (U ⟨g,0,Z⟩) x.1.aR.length cap)).setCell ⟨w.heap.size+1,5,Z⟩ (V Y x.1.bY)) :=⟨c.os.trans f.os,c.tape.trans f.tape,c.output.trans f.output,U0 f.size c.size,fun k C=>(c.block k (zL C f.size) Un).trans (f.block k C)⟩
 refine bodyPost_ret (v:=.agg #[V Y x.1.id,V Y x.1.kind,UQ x.1.bH,V Y x.1.aN,UO (U ⟨g,0,Z⟩) x.1.aR.length cap,V Y x.1.bY]) (by simp[results,results125,go_sem,r0,r1,r2,r3,r4,r5]) rfl ⟨g,cap,rfl,(Ct B).2.off c Un,by omega,VP S c.size,aa⟩
namespace aA
def mS(name:Us)(a b:N)(e:aQ):Uv:=dB name e && decide (0<=gY a b e.aR)
end aA
structure ot(w wx:UF)(v:UG)(ys:J (aA.aQ × M × M)):Prop where
 own:wx.ownsRow w 85 6 v ys.length (ys.flatMap fg)
 sl:∀ y∈ys,iW wx y.2.1 y.1.aR/\w<=y.2.1/\y.2.1<wx/\v.ownBlock≠U y.2.1
 bw:UH w w wx
theorem ot.later{wx f:UF}{ys:J (aA.aQ × M × M)}(h:ot w wx v ys)(k:UH wx wx f):ot w f v ys :=⟨fG h.own k,fun y c=>⟨(h.sl y c).1.later k,(h.sl y c).2.1,VP (h.sl y c).2.2.1 k.size,(h.sl y c).2.2.2⟩,bU h.bw k aJ⟩
namespace dP
def before(fs:J N)(k i:M):Uv:=decide (fs.getD k 0<fs.getD i 0) || (decide (fs.getD k 0=fs.getD i 0) && decide (k<i))
def upto(fs:J N)(i n:M):M:=((Xm n).filter (fun k=>before fs k i)).length
def mP(fs:J N)(i:M):M:=upto fs i fs.length
theorem Ai(fs:J N)(i n:M):upto fs i (n+1)=upto fs i n+if before fs n i then 1 else 0:=by
 unfold upto;rw[List.range_succ,List.filter_append,VA]
 cases h:before fs n i <;> simp[h]
theorem Jb(fs:J N)(i:M):before fs i i=UD:=by simp[before]
theorem Sj{a b c:M}(h:before fs a b=UE)(k:before fs b c=UE):before fs a c=UE:=by simp[before] at *;omega
theorem I8(fs:J N){a b:M}(h:a≠b):before fs a b=UE\/before fs b a=UE:=by simp[before];omega
theorem IB(fs:J N)(i:M):∀ n,upto fs i n<=n:=by grind[upto]
theorem Hx(fs:J N){i:M}:∀ {n},i<n->upto fs i n<n
 |0,h=>by omega
 |n+1,h=>by
  rw[Ai];by_cases e:i=n
  .subst e;rw[Jb];have:=IB fs i i;simp;omega
  .have:=Hx fs (i:=i) (n:=n) O
   split <;> omega
theorem CD(fs:J N)(h:i<fs.length):mP fs i<fs.length:=Hx fs h
theorem IK{fs:J N}{i j:M}(h:before fs i j=UE):∀ n,upto fs i n+(if i<n then 1 else 0)<=upto fs j n
 |0=>by simp[upto]
 |n+1=>by
  have ih:=IK h n;rw[Ai,Ai];by_cases e:n=i
  .subst e;rw[Jb,h];simp at ih ⊢;omega
  .have k:(if i<n+1 then 1 else 0:M)=(if i<n then 1 else 0):=by
    by_cases c:i<n
    .rw[Uz c,Uz O]
    .rw[Uy c,Uy O]
   rw[k];generalize (if i<n then 1 else 0:M)=q at ih ⊢
   cases f:before fs n i
   .simp only[U7,if_false]
    split <;> omega
   .rw[Sj f h];simp only[if_true];omega
theorem C0(c:i<fs.length)(h:before fs i j=UE):mP fs i<mP fs j:=by have:=IK h fs.length;rw[Uz c] at this;exact this
theorem CR(k:i<fs.length)(f:j<fs.length)(h:mP fs i=mP fs j):i=j:=by
 by_cases e:i=j
 .exact e
 .rcases I8 fs e with c|c
  .have:=C0 k c;omega
  .have:=C0 f c;omega
end dP
theorem Cl:∀ (n:M)(l:J M),l.Nodup->(∀ x∈l,x<n)->l.length<=n
 |0,l,_,h=>by
  cases l with
  |nil=>simp
  |cons x l=>have:=h x Ui;omega
 |n+1,l,hd,h=>by
  by_cases c:n∈l
  .have k:=Cl n (l.erase n) (hd.erase n) (fun x f=>by grind)
   rw[List.length_erase_of_mem c] at k;omega
  .have:=Cl n l hd (fun x f=>by grind)
   omega
theorem RI{l:J M}(f:l.Nodup)(h:∀ x∈l,x<n)(q:l.length=n):∀ k,k<n->k∈l:=by intro k r;apply W9;intro c;have:=Cl n (k :: l) (List.nodup_cons.2 ⟨c,f⟩) (fun x p=>by grind);simp at this;omega
namespace dP
theorem Ag(fs:J N){k:M}(p:k<fs.length):∃ i,i<fs.length/\mP fs i=k:=by
 have r:((Xm fs.length).map (mP fs)).Nodup:=by unfold Xn;rw[Xo];refine Xp ?_ (List.nodup_range (n:=fs.length));intro i j c q f e;exact f (CR (Xq.1 c) (Xq.1 q) e)
 have:=RI r (fun x h=>by obtain⟨i,c,rfl⟩:=VQ.1 h;exact CD fs (Xq.1 c)) Ui k p
 let⟨i,c,e⟩:=VQ.1 this;exact⟨i,Xq.1 c,e⟩
end dP
namespace aA
def oe(a b:N)(x y:aQ):Prop:=gY a b x.aR<gY a b y.aR\/(gY a b x.aR=gY a b y.aR/\x.id<y.id)
theorem b8e(a b:N)(x:aQ):¬ oe a b x x:=by unfold oe;omega
theorem Lf(a b:N)(x y z:aQ)(h:oe a b x y)(k:oe a b y z):oe a b x z:=by unfold oe at *;omega
def qo(a b:N)(l:J aQ):J N:=l.map fun e=>gY a b e.aR
theorem Db{a:N}{l:J aQ}(h:i<l.length):(qo a b l).getD i 0=gY a b l[i].aR:=by simp[qo,List.getD,h]
theorem Rp{a:N}{l out:J aQ}(A:eD l)(E:out.length=l.length)(h:∀ (i:M)(f:i<l.length),out[dP.mP (qo a b l) i]?=U l[i]):out.Pairwise (oe a b)/\∀ e,e∈out↔e∈l:=by
 have H:(qo a b l).length=l.length:=by simp[qo]
 have c:∀ (k:M),k<out.length->∃ (i:M) (f:i<l.length),dP.mP (qo a b l) i=k/\out[k]?=U l[i]:=by intro k u;let⟨i,f,e⟩:=dP.Ag (qo a b l) (k:=k) O;rw[H] at f;exact⟨i,f,e,by grind⟩
 refine⟨?_,fun e=>⟨fun B=>?_,fun B=>?_⟩⟩
 .rw[Xr];intro p q D C G;let⟨i,f,e1,e2⟩:=c p D;let⟨j,hj,e3,e4⟩:=c q C;rw[Wx D] at e2;rw[Wx C] at e4;rw[Wq e2,Wq e4];have t:i≠j:=fun e=>by grind
  rcases dP.I8 (qo a b l) t with r|r
  .unfold dP.before at r;rw[Db f,Db hj] at r;simp at r;rcases r with r|⟨r,I⟩
   .exact .inl r
   .refine .inr ⟨r,?_⟩;have:=Xr.1 A i j Uo Uo I
    simpa using this
  .have:=dP.C0 (fs:=qo a b l) O r;omega
 .obtain⟨k,u,rfl⟩:=Xs B;let⟨i,f,_,e2⟩:=c k u;rw[Wx u] at e2;rw[Wq e2];exact zg f
 .obtain⟨i,f,rfl⟩:=Xs B;exact List.mem_of_getElem? (h i f)
def jC(L:J (N × N)):Prop:=L.Pairwise fun s t=>s.1<t.1
theorem Fg{a b:N}:∀ {L:J (N × N)},jC L->(∃ s∈L,mU a b s=UE)->(∃ s∈L,mU a b s=UE/\s.1=gY a b L)/\∀ t∈L,mU a b t=UE->gY a b L<=t.1
 |[],_,h=>by grind
 |s :: r,hr,h=>by
  unfold jC at hr;rw[Vn] at hr;simp only[gY];by_cases c:mU a b s=UE
  .rw[Uz c];refine⟨⟨s,by simp,c,rfl⟩,fun t ht _=>?_⟩;rcases Va.1 ht with rfl|ht
   .omega
   .have:=hr.1 t ht;omega
  .rw[Uy c]
   have p:∃ s∈r,mU a b s=UE:=Uo;let⟨⟨t,k1,k2,k3⟩,k4⟩:=Fg (a:=a) (b:=b) (L:=r) hr.2 p;refine⟨⟨t,by simp[k1],k2,k3⟩,fun u f k=>?_⟩;rcases Va.1 f with rfl|f
   .exact UA k c
   .exact k4 u f k
theorem Ms{a b:N}:∀ {L:J (N × N)},(∀ s∈L,mU a b s=UD)->gY a b L=-1
 |[],_=>rfl
 |s :: r,h=>by simp only[gY];rw[Uy Uo];exact Ms (fun t ht=>h t (by simp[ht]))
theorem MX{a:N}(f:jC L)(k:∀ s∈L,0<=s.1):0<=gY a b L↔∃ s∈L,mU a b s=UE:=by
 constructor
 .intro h;apply W9;intro c
  have:gY a b L=-1:=Ms (fun s p=>by grind);omega
 .intro h;let⟨⟨s,k1,_,k3⟩,_⟩:=Fg f h;have:=k s k1;omega
def wG(acc:J aF.It)(z:aF.It):J aF.It:=if acc.any fun u=>decide (u.n=z.n) then acc else acc++[z]
def uniq(c:J aF.It):J aF.It:=c.foldl wG []
theorem A8(c:J aF.It)(z:aF.It):uniq (c++[z])=wG (uniq c) z:=by unfold uniq;rw[Xe];rfl
theorem Ud:∀ (n:M)(p:J aF.It),p.length=n->aF.Ord p->aF.Ord (uniq p)/\(∀ u∈uniq p,u∈p)/\(∀ z∈p,∃ u∈uniq p,u.n=z.n/\(u=z\/aF.lt u z))/\((uniq p).map (·.n)).Nodup:=by
 intro n;induction n with
 |zero =>intro p t _;rw[List.length_eq_zero_iff.1 t];exact⟨Xt,by simp[uniq],by simp,by simp[uniq]⟩
 |succ n ih =>
  intro p t q;obtain⟨K,z,rfl⟩:∃ K z,p=K++[z]:=⟨p.dropLast,p.getLast Uo,(List.dropLast_concat_getLast _).symm⟩;unfold aF.Ord at q;rw[W8] at q;let⟨i1,i2,i3,i4⟩:=ih K Uo q.1;rw[A8];unfold wG;by_cases c:((uniq K).any fun u=>decide (u.n=z.n))=UE
  .rw[Uz c];let⟨u,f,hc⟩:=Xd.1 c;refine⟨i1,fun u f=>by grind,fun y h=>?_,i4⟩;rcases Vb.1 h with h|h
   .exact i3 y h
   .have:y=z:=Uo
    subst this;exact⟨u,f,by grind,.inr (q.2.2 u (i2 u f) y Ui)⟩
  .rw[Uy c];have r:∀ u∈uniq K,u.n≠z.n:=fun u f e=>c (Xd.2 ⟨u,f,by simp[e]⟩)
   refine⟨?_,fun u f=>?_,fun y h=>?_,?_⟩
   .unfold aF.Ord;rw[W8]
    exact⟨i1,by simp,fun u f y h=>by grind⟩
   .rcases Vb.1 f with f|f
    .simp[i2 u f]
    .simp at f;simp[f]
   .rcases Vb.1 h with h|h
    .let⟨u,f,k⟩:=i3 y h;exact⟨u,by simp[f],k⟩
    .have:y=z:=Uo
     subst this;exact⟨y,by simp,rfl,.inl rfl⟩
   .rw[VU,List.nodup_append];refine⟨i4,by simp,fun x A y h e=>?_⟩;obtain⟨u,f,rfl⟩:=VQ.1 A;simp at h;exact r u f (by rw[e,h])
def jw(name:Us)(es:J aQ)(at_:N->M)(T:aF.S):Prop :=aF.Ord (aF.cT T)/\∀ z,z∈aF.cT T↔∃ e∈es,dB name e=UE/\∃ s∈e.aR,z=⟨s.1,s.2,e.id,at_ e.id⟩
theorem Uc{at_:N->M}{T:aF.S}{a:N}(h:jw name es at_ T)(K:eD es)(hr:∀ e∈es,jC e.aR)(h0:∀ e∈es,∀ s∈e.aR,0<=s.1){ys:J aQ}(hl:ys.length=(uniq (aF.meet a b T)).length)(R:∀ (i:M)(r:i<ys.length),ys[i]∈es/\ys[i].id=((uniq (aF.meet a b T))[i]'Uh).n):ys.Pairwise (oe a b)/\∀ e,e∈ys↔e∈es.filter (mS name a b):=by
 have hM:=aF.AW a b T h.1;have hO:aF.Ord (aF.meet a b T):=by rw[hM];exact aF.Mr _ h.1
 let⟨u1,u2,u3,u4⟩:=Ud _ (aF.meet a b T) rfl hO;have C:∀ z,z∈aF.meet a b T↔∃ e∈es,dB name e=UE/\∃ s∈e.aR,mU a b s=UE/\z=⟨s.1,s.2,e.id,at_ e.id⟩:=by intro z;rw[hM,Xb,h.2];constructor;rintro ⟨⟨e,B,G,s,p,rfl⟩,A⟩;exact⟨e,B,G,s,p,A,rfl⟩;rintro ⟨e,B,G,s,p,A,rfl⟩;exact⟨⟨e,B,G,s,p,rfl⟩,A⟩
 -- each item that is kept stands at its entry's first
 have fst:∀ u∈uniq (aF.meet a b T),∀ e∈es,e.id=u.n->dB name e=UE/\u.f=gY a b e.aR/\∃ s∈e.aR,mU a b s=UE:=by
  intro u H e k hn;obtain⟨e',B,G,s,p,A,rfl⟩:=(C u).1 (u2 u H);have:e=e':=K.one k B hn;subst this;refine⟨G,?_,s,p,A⟩;let⟨⟨t,t1,t2,t3⟩,t4⟩:=Fg (hr e k) ⟨s,p,A⟩;have ab:=t4 s p A;let⟨u',hu',m1,E⟩:=u3 ⟨t.1,t.2,e.id,at_ e.id⟩ ((C _).2 ⟨e,k,G,t,t1,t2,rfl⟩);have I:u'=⟨s.1,s.2,e.id,at_ e.id⟩:=by
   have q:=u4;unfold Xn at q;rw[Xo] at q;apply W9;intro aa;let⟨i,r,ei⟩:=Xs hu';let⟨j,W,ej⟩:=Xs H;have D:i≠j:=fun e=>by grind
   rcases Nat.lt_or_gt_of_ne D with c|c
   .have:=Xr.1 q i j r W c;rw[ei,ej] at this;exact this m1
   .have:=Xr.1 q j i W r c;rw[ei,ej] at this;exact this m1.symm
  subst I;show s.1=_;rcases E with E|E
  .have:=congrArg aF.It.f E;simp at this;omega
  .unfold aF.lt at E;simp at E;omega
 have X:∀ u∈uniq (aF.meet a b T),∀ e∈es,e.id=u.n->e∈es.filter (mS name a b):=by intro u H e k hn;let⟨B,_,p⟩:=fst u H e k hn;exact Xb.2 ⟨k,by simp[mS,B,(MX (hr e k) (h0 e k)).2 p]⟩
 refine⟨?_,fun e=>⟨fun k=>?_,fun k=>?_⟩⟩;rw[Xr];intro i j r W D;have o:=Xr.1 u1 i j O O D;let⟨a1,a2⟩:=R i r;let⟨b1,b2⟩:=R j W;have f1:=(fst _ (zg O) _ a1 a2).2.1;have f2:=(fst _ (zg O) _ b1 b2).2.1;unfold aF.lt at o;unfold oe;rw[<- f1,<- f2,a2,b2];exact o;obtain⟨i,r,rfl⟩:=Xs k;let⟨a1,a2⟩:=R i r;exact X _ (zg O) _ a1 a2;let⟨he1,he2⟩:=Xb.1 k;simp only[mS,Wu,decide_eq_true_eq] at he2;let⟨s,s1,s2⟩:=(MX (hr e he1) (h0 e he1)).1 he2.2;let⟨u,H,m1,_⟩:=u3 _ ((C _).2 ⟨e,he1,he2.1,s,s1,s2,rfl⟩);let⟨i,r,ei⟩:=Xs H;let⟨a1,a2⟩:=R i O;have:ys[i]'Uh=e:=K.one a1 he1 Uo;rw[<- this];exact zg _
theorem Bh(p:aQ->Uv)(h:eD es):eD (es.filter p):=by grind[eD]
end aA
namespace aA
theorem FB{a b:Us}:dI a b=UE↔a.toList=b.toList:=by simp[dI]
theorem tZ(a:Us):dI a a=UE:=FB.2 rfl
theorem MN{a b c:Us}(h:dI a b=UE):dI c a=dI c b:=by unfold dI;rw[FB.1 h]
def qy(a b:N)(x:aQ):J aQ->J aQ
 |[]=>[x]
 |y :: r=>if gY a b x.aR<gY a b y.aR\/(gY a b x.aR=gY a b y.aR/\x.id<y.id) then x :: y :: r else y :: qy a b x r
def tM(a b:N):J aQ->J aQ
 |[]=>[]
 |x :: r=>qy a b x (tM a b r)
theorem Ez{a b:N}{x z:aQ}:∀ {l:J aQ},z∈qy a b x l↔z=x\/z∈l
 |[]=>by simp[qy]
 |y :: r=>by
  simp only[qy];split
  .simp
  .rw[Va,Ez,Va];constructor
   .rintro (h|h|h)
    .exact .inr (.inl h)
    .exact .inl h
    .exact .inr (.inr h)
   .rintro (h|h|h)
    .exact .inr (.inl h)
    .exact .inl h
    .exact .inr (.inr h)
theorem Bs{a b:N}{z:aQ}:∀ {l:J aQ},z∈tM a b l↔z∈l
 |[]=>by simp[tM]
 |x :: r=>by rw[tM,Ez,Bs,Va]
theorem JM{a b:N}{x:aQ}:∀ {l:J aQ},l.Pairwise (oe a b)->(∀ z∈l,z.id≠x.id)->(qy a b x l).Pairwise (oe a b)
 |[],_,_=>by simp[qy]
 |y :: r,h,hn=>by
  rw[Vn] at h;simp only[qy];split
  .rename_i c
   refine Vn.2 ⟨fun z f=>?_,Vn.2 h⟩;rcases Va.1 f with rfl|f
   .exact c
   .exact Lf a b x y z c (h.1 z f)
  .rename_i c
   refine Vn.2 ⟨fun z f=>?_,JM h.2 (fun z f=>hn z (by simp[f]))⟩;rcases Ez.1 f with rfl|f
   .have:=hn y Ui;unfold oe;omega
   .exact h.1 z f
theorem KH{a b:N}:∀ {l:J aQ},eD l->(tM a b l).Pairwise (oe a b)
 |[],_=>by simp[tM]
 |x :: r,h=>by let⟨h1,h2⟩:=h.cons;exact JM (KH h2) (fun z c=>by have:=h1 z (Bs.1 c);omega)
def nE(name:Us)(a b:N)(es:J aQ):J aQ:=tM a b (es.filter (mS name a b))
theorem Lc{a:N}{out:J aQ}(c:eD es)(h:out.Pairwise (oe a b))(f:∀ e,e∈out↔e∈es.filter (mS name a b)):out=nE name a b es :=Gd (b8e a b) (Lf a b) h (KH (Bh _ c)) (fun e=>(f e).trans Bs.symm)
def eU(ts:J (Us × N)):J aQ->J aQ->J aQ × J N
 |done,[]=>(done,[])
 |done,e :: r =>
  if e.kind=3/\eT ts (done++e :: r) e.bH e.aN e.aR=UE then((eU ts (done++[ek e]) r).1,e.id :: (eU ts (done++[ek e]) r).2)
  else eU ts (done++[e]) r
def dS(ts:J (Us × N))(es:J aQ):J aQ × J N:=eU ts [] es
def eL(tq:N):J aQ->N
 |[]=>tq
 |e :: r=>if e.kind≠1/\e.bY<eL tq r then e.bY else eL tq r
def cA(t:N)(e:aQ):Uv:=(e.kind != 1) && decide (e.bY=t)
def gd(ts:J (Us × N)):M->J aQ->N->N->J aQ × J N × J N
 |0,es,_,_=>(es,[],[])
 |k+1,es,now,tq =>
  if now<tq then let t:=eL tq es;let g:=dS ts (es.filter fun e=>!cA t e);let q:=gd ts k g.1 t tq;(q.1,(es.filter (cA t)).map (·.id)++q.2.1,g.2++q.2.2)
  else (es,[],[])
structure St where
 ts:J (Us × N)
 es:J aQ
 given:N
 now:N
structure bS where
 err:N
 at_:N
 n:N
 entries:J aQ
 days:J N
 granted:J N
 ended:J N
def bS.error(e:N):bS:=⟨e,0,0,[],[],[],[]⟩
def bS.num(n:N):bS:=⟨0,0,n,[],[],[],[]⟩
inductive jb where
 |bH (name:Us) (aN:Ux)
 |enter (kind:Ux) (name:Us) (aN fr til long:Ux)
 |series (name:Us) (aN:Ux) (r:Rd.cP)
 |bL (id:Ux)
 |cancel (id:Ux)
 |list (name:Us) (fr til:Ux)
 |waiting
 |ef (name:Us) (fr til:Ux)
 |find (name:Us) (aN long fr til:Ux)
 |expand (r:Rd.cP)
 |tick (n:Ux)
 |clock
def lS(s:St)(e:aQ):St × bS:=(⟨s.ts,s.es++[{ e with id:=s.given+1 }],s.given+1,s.now⟩,bS.num (s.given+1))
def qK(s:St)(c:N)(name:Us)(aN fr til long:N):N :=
 if eW s.ts name aN≠0 then eW s.ts name aN
 else if til<=fr\/1048320<s.now+long then 6
 else if s.given=60 then 5
 else if c=3 then (if fH s.es=6 then 5 else 0)
 else if eT s.ts s.es name aN [(fr,til)] then 0 else 8
def qE(s:St)(c:N)(name:Us)(aN fr til long:N):aQ:=⟨0,c,name,aN,[(fr,til)],if c=1 then 0 else s.now+long⟩
def oG(s:St)(name:Us)(aN:N)(r:Rd.cP):N :=
 if eW s.ts name aN≠0 then eW s.ts name aN
 else if Rd.iS r≠0 then Rd.iS r
 else if s.given=60 then 5
 else if eT s.ts s.es name aN (Rd.jd r (Rd.cN r)) then 0 else 8
def mW(id:N)(es:J aQ):Uu aQ:=es.find? fun e=>decide (e.id=id)
def aX(s:St):jb->St × bS
 |.bH name aN=>if cI name s.ts≠0 then (s,.error 4) else if s.ts.length=4 then (s,.error 5) else ({ s with ts:=s.ts++[(name,aN)] },.num 0)
 |.enter kind name aN fr til long=>if qK s kind name aN fr til long≠0 then (s,.error (qK s kind name aN fr til long)) else lS s (qE s kind name aN fr til long)
 |.series name aN r=>if oG s name aN r≠0 then (s,.error (oG s name aN r)) else lS s ⟨0,1,name,aN,Rd.jd r (Rd.cN r),0⟩
 |.bL id=>match mW id s.es with
  |none=>(s,.error 9)
  |some e=>if e.kind≠2 then (s,.error 10) else ({ s with es:=fc id s.es },.num 0)
 |.cancel id=>match mW id s.es with
  |none=>(s,.error 9)
  |some _=>({ s with es:=kept id s.es },.num 0)
 |.list name fr til=>if cI name s.ts=0 then (s,.error 3) else if til<=fr then (s,.error 6) else (s,{ bS.num 0 with entries:=nE name fr til s.es })
 |.waiting=>(s,{ bS.num 0 with entries:=s.es.filter fun e=>e.kind==3 })
 |.ef name fr til=>if cI name s.ts=0 then (s,.error 3) else if til<=fr then (s,.error 6) else (s,.num (nZ name s.es fr til))
 |.find name aN long fr til=>if eW s.ts name aN≠0 then (s,.error (eW s.ts name aN)) else if til<=fr then (s,.error 6) else (s,.num (kP s.ts s.es name aN long fr til))
 |.expand r=>if Rd.iS r≠0 then (s,.error (Rd.iS r)) else (s,{ bS.num (Rd.cN r).length with days:=Rd.cN r })
 |.tick n=>if 1048320<s.now+n then (s,.error 6) else let q:=gd s.ts (s.es.length+1) s.es s.now (s.now+n);({ s with es:=q.1,now:=s.now+n },{ bS.num (s.now+n) with granted:=q.2.2,ended:=q.2.1 })
 |.clock=>(s,.num s.now)
def jE(s:St)(l:jb):St × bS :=
 if (aX s l).2.err≠0 then aX s l
 else ({ (aX s l).1 with es:=(dS (aX s l).1.ts (aX s l).1.es).1 },{ (aX s l).2 with granted:=(aX s l).2.granted++(dS (aX s l).1.ts (aX s l).1.es).2 })
def ke:jb->Prop
 |.bH _ u=>1<=u/\u<=9
 |.enter k _ u fr til long=>(k=1/\long=0\/(k=2\/k=3)/\1<=long/\long<=1048320)/\1<=u/\u<=9/\0<=fr/\fr<=1048320/\0<=til/\til<=1048320
 |.series _ u r=>1<=u/\u<=9/\Rd.hH r
 |.bL id=>0<=id/\id<=9999999
 |.cancel id=>0<=id/\id<=9999999
 |.list _ fr til=>0<=fr/\fr<=1048320/\0<=til/\til<=1048320
 |.waiting=>True
 |.ef _ fr til=>0<=fr/\fr<=1048320/\0<=til/\til<=1048320
 |.find _ u long fr til=>1<=u/\u<=9/\1<=long/\long<=1048320/\0<=fr/\fr<=1048320/\0<=til/\til<=1048320
 |.expand r=>Rd.hH r
 |.tick n=>1<=n/\n<=1048320
 |.clock=>True
structure jr(now:N)(e:aQ):Prop where
 u1:1<=e.aN
 u9:e.aN<=9
 sl:e.aR.length<=40
 s0:e.aR≠[]
 sp:qV e.aR
 ri:jC e.aR
 kd:(e.kind=1/\e.bY=0)\/((e.kind=2\/e.kind=3)/\now<e.bY/\e.bY<=1048320/\e.aR.length=1)
structure Inv(s:St):Prop where
 tl:s.ts.length<=4
 tu:∀ t∈s.ts,1<=t.2/\t.2<=9
 tn:s.ts.Pairwise fun t u=>dI t.1 u.1=UD
 ids:eD s.es
 mZ:∀ e∈s.es,1<=e.id/\e.id<=s.given
 g0:0<=s.given
 g1:s.given<=60
 n0:0<=s.now
 n1:s.now<=1048320
 en:∀ e∈s.es,jr s.now e
 th:∀ e∈s.es,e.aN<=cI e.bH s.ts
 wa:fH s.es<=6
 no:∀ e∈s.es,e.kind=3->eT s.ts s.es e.bH e.aN e.aR=UD
 wi:∀ name x,cM name x s.es<=cI name s.ts
end aA
end Go.Proofs.YtolaacmheeaadaaGreatDoor
