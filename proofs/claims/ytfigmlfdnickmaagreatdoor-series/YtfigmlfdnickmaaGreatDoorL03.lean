import Derived.Test.YtfigmlfdnickmaaGreatDoorL02
import Derived.Test.YtfigmlfdnickmaaGreatDoorProg
import Derived.Maps.OwnSet
import Derived.Maps.OwnOps
import Derived.Maps.Views
import Derived.Lib.IndexMore
import Derived.Lib.IndexLaws
import Derived.Lib.FieldsP
import Derived.Lib.Split
import Derived.Lib.SplitLaws
set_option maxRecDepth 100000
set_option maxHeartbeats 8000000
open Go.Proofs.Tryz
open _root_ renaming ByteArray->U3,List->U4,Option->U5,Bool->U6,Nat->U7,Int->U8,if_neg->U9,if_pos->Va,absurd->Vb
open Option renaming none->Vc,some->Vd,mem_toList->WV,getD_some->Xn,getD_none->Xs
open Bool renaming false->Ve,true->Vf,and_eq_true->W6,eq_iff_iff->Xb,false_eq_true->Vw
open Go renaming World->Vg,Value->Vh,Calls->Vj,TypeId->Vl
open Go.RowKit renaming Below->Vi
open Go.World renaming block_lt_of_cell?->Vq,news_of_block->WL,frozen?_of_block->WS,size_alloc->WW,cell?->VK
open Go.Value renaming ownBlock->WH,int->V3
open List renaming flatMap_append->Ww,mem_cons_of_mem->WU,mem_cons->Vz,drop_eq_getElem_cons->WN,drop_eq_nil_of_le->WQ,take_succ_eq_append_getElem->Wf,take_of_length_le->Wh,all_eq_false->W7,mem_of_mem_take->Wn,foldl_cons->W8,length_cons->V5,getD_eq_getElem?_getD->W9,getElem?_eq_getElem->Xa,drop_take->Xd,all_eq_true->Xe,mem_iff_getElem?->Xf,getElem?_drop->Xg,getElem?_take->Xh,isPrefixOf->Xj,take_append_drop->Wa,length_map->WK,pairwise_cons->VN,mem_append->VA,pairwise_append->XA,mem_filter->XE,filter_eq_self->XF,filter_cons->VP,getLastD->XG,any_eq_true->XH,foldl_append->XI,cons_append->VM,append_assoc->VY,length_append->V4,mem_map->Wk,length_take_le->Wp,map_append->Wq,countP_eq_length_filter->XJ,countP->XK,countP_mono_left->XL,exists_mem_of_length_pos->XN,foldl->XP,map_cons->XR,flatMap_cons->Wu,getElem_cons_drop->Wv,length_take_of_le->Wx,getElem?_append_right->Wy,getElem?_append_left->Ws,range->XS,Nodup->XT,pairwise_map->XU,mem_range->XW,pairwise_iff_getElem->XX,getElem_of_mem->XY
open Nat renaming le_trans->Vp,zero_le->Wg,add_zero->Xp,le_refl->Vm,lt_of_lt_of_le->Wj
open Option.some renaming inj->WX
open Go.Maps renaming size->WY,has->W4
open Go.WideAt renaming IsKeyLit->W5
open Go.Lib renaming cut->Xc,occAt->Xi,index->Xk,closeSpans->Xm,spansFromP->Xr,goFieldsP->Xt,splitK->Xw
open Int renaming eq_ofNat_of_zero_le->Xl,le_refl->Xx,sub_emod_right->Xy,emod_eq_of_lt->Xz,mul_le_mul_of_nonneg_right->XM,mul_nonneg->Wb,mul_comm->XQ
open Go.Utf8 renaming decode->Xo,runeError->Xq
open ByteArray renaming size_extract->Xu
open List.cons renaming injEq->Xv
open Classical renaming byContradiction->XC
open List.Pairwise renaming sublist->XD,filter->VQ,imp_of_mem->XV,nil->XZ
open List.Sublist renaming map->X0
namespace Go.Proofs.YtfigmlfdnickmaaGreatDoor
variable{name s:U3}{e z:aA.aL}{a b fr id level long m tq x y:U8}{ts:U4 (U3 × U8)}{L:U4 (U8 × U8)}{es:U4 aA.aL}{acc fs:U4 U8}{l:U4 UInt8}{i j n sz:U7}{c0 c1 c2 c3 c4 c5 key v:Vh}{w w' w1:Vg}
open Go.RowKit
theorem Pv:(prog.info? 286).map (fun i=>(i.zero,i.size,i.bytes))=Vd (Vd (.agg #[.int .i64 0,.int .i64 0,.pointer Vc]),3,24):=UY
theorem Pu(d o:U7)(v:Vh)(l:U4 Hp.Hi)(x:Hp.Hi)(w:Vg)(h:HP w d o v l)(hh:Hp.gG l)(hl:l.length<=900):
  Vj prog 198 #[.pointer (Vd ⟨d,o,Vc⟩),.int .i64 x.t,.int .i64 x.n,.pointer (Vd ⟨x.v,0,Vc⟩)] w fun e w'=>e=.returned (.tuple #[])/\∃ p,lD w d o v p w'/\Hp.gG p/\p.Perm (l++[x]):=by
 obtain⟨Y,K,I,G,F⟩:=info_parts Pv;have c:=h.c;have U:=h.fz;have H:=aC h;clear h
 go_in
 have B:d<w.heap.size:=Vq _ _ c;have r:d ∉ v.ownBlock.toList:=by intro e;exact H.out.ne (by simpa using e)
 go_wp2_with (first
  |(at_builtin;refine wpList_append_lies _ rfl _ _ 140 rfl 0 286 Y _ 3 24 underlying140 K I G F rfl UV _ _ _ rfl (H.out.own.alloc _) ⟨w.heap.size,0,Vc⟩ 1 1 (iu x) rfl rfl (WL (cs:=(iu x).toArray) (cC w _)) (by simp[iu,Value.oneCell']) UT U0 UT UU (w.heap.size+1) UU ?_;intro g cap w1 u f C aa;have E:aF (v.ownBlock.toList) w w1:=aF.grown ((aF.refl _ w).alloc _) f (fun k J=>.inl (WV.2 J));have R:=E.cell r c;have O:=(E.frozen (o:=o) r B).trans U;clear f))
 have q:d≠g:=by
  rcases C with e|e
  ·rintro rfl;exact H.out.ne e
  ·omega
 have T:HP (w1.setCell ⟨d,o,Vc⟩ (.slice (Vd ⟨g,0,Vc⟩) (l.length+1) cap)) d o (.slice (Vd ⟨g,0,Vc⟩) (l++[x]).length cap) (l++[x]):=by
  have V:(l++[x]).length=l.length+1:=UU
  rw[V];refine⟨zm _ _ _ R,?_,fun e=>q (by simpa[WH] using e.symm),(zF ..).trans O⟩;rw[V,Ww];have e2:[x].flatMap iu=iu x:=UU
  rw[e2];exact dO u (aF.aY d _ o _) (fun b M=>by simp;rintro rfl;exact q (by simpa[WH] using M.symm))
 have RS:=aC (Gw d o g cap (l++[x]) l.length _ T UU (Hp.PJ hh) UZ);have A:=aC (zA E C);clear T u E C R O U c;refine RS.out.mono ?_;rintro e W ⟨rfl,p,D,S⟩
 have HF:Hid (∃ p,lD w d o v p W/\Hp.gG p/\p.Perm (l++[x])):=by
  refine⟨p,⟨_,D.hp,fun b M=>?_,?_,fun X Z=>?_,fun X=>?_⟩,S,D.perm⟩
  ·have:g=b:=by simpa[WH] using M
   subst this;rcases A.out.2 with e|e
   ·exact .inl e
   ·exact .inr UT
  ·refine ((A.out.1.mono (by simp +contextual)).setCell (.inl UU) o _).trans' D.off (fun k J=>?_);have:k=g:=by simpa using J
   subst this;rcases A.out.2 with e|e
   ·exact .inl (WU _ (WV.2 e))
   ·exact .inr UT
  ·have N:=D.off.block d (by have:=A.out.1.size;simp;omega) (by simpa using q);exact (zo N).trans ((zS _ _ _ _ (by have:=Z;simp)).trans (zo (A.out.1.block d B r)))
  ·have N:=D.off.block d (by have:=A.out.1.size;simp;omega) (by simpa using q);exact (WS N).trans ((zF ..).trans (WS (A.out.1.block d B r)))
 clear RS A D S
 go_wp2
 go_end0
 exact⟨rfl,HF.out⟩
def eO{α:Type}(p:α->U6):U4 α->U8->U8
 |[],_=>-1
 |x :: r,i=>if p x then i else eO p r (i+1)
theorem vE{α:Type}(p:α->U6):∀ (l:U4 α)(i:U8),(eO p l i=-1/\∀ x∈l,p x=Ve)\/∃ (k:U7)(h:k<l.length),eO p l i=i+k/\p l[k]=Vf/\∀ (j:U7)(q:j<k),p (l[j]'UT)=Ve
 |[],i=>.inl ⟨rfl,fun x t=>by simp at t⟩
 |x :: r,i=>by
  cases c:p x
  ·rcases vE p r (i+1) with ⟨g,f⟩|⟨k,h,g,f,u⟩
   ·exact .inl ⟨by simp[eO,c,g],fun y d=>by rcases Vz.1 d with rfl|d;exact c;exact f y d⟩
   ·refine .inr ⟨k+1,by simp;omega,by simp[eO,c,g];omega,by simpa using f,fun j q=>?_⟩
    cases j with
    |zero=>simpa using c
    |succ j=>simpa using u j UT
  ·exact .inr ⟨0,by simp,by simp[eO,c],by simpa using c,fun j q=>by omega⟩
theorem OI{α:Type}(p:α->U6)(l:U4 α):-1<=eO p l 0/\eO p l 0<l.length:=by
 rcases vE p l 0 with ⟨h,_⟩|⟨k,h,e,_⟩
 ·omega
 ·omega
theorem lD.from{w2:Vg}{d o:U7}{f:U4 Hp.Hi}(h:lD w1 d o v f w2)(k:Vi w.heap.size w w1)(g:d<w.heap.size):lD w d o v f w2:=by
 obtain⟨v',B,A,u,t,r⟩:=h;refine⟨v',B,fun b q=>(A b q).imp id (fun e=>Vp k.size e),(aF.aD k).trans u,fun c p=>(t c p).trans (zo (k.block d g)),fun c=>(r c).trans (WS (k.block d g))⟩
theorem QS(x:Hp.Hi)(t n:U8)(A B:U7)(w:Vg)(h:w.cell? ⟨A,0,Vc⟩=Vd (.int .i64 t))(cb:w.cell? ⟨B,0,Vc⟩=Vd (.int .i64 n)):
  Vj prog 202 #[.agg #[.int .i64 x.t,.int .i64 x.n,.pointer (Vd ⟨x.v,0,Vc⟩)],.pointer (Vd ⟨A,0,Vc⟩),.pointer (Vd ⟨B,0,Vc⟩)] w fun e w'=>e=.returned (.bool (gT x t n==0))/\Vi w.heap.size w w':=by
 have q:=aC (fun w'=>Ja x t n w');have c:Vi w.heap.size w (w.alloc (.cells #[.int .i64 x.t,.int .i64 x.n,.pointer (Vd ⟨x.v,0,Vc⟩)] 286)):=(zr _ _).alloc (zq _) _;have g:=aN c h;have f:=aN c cb;have k:=aC c;clear c
 go_in
 go_wp2_with fail
 refine (q.out _).mono ?_;rintro e w1 ⟨rfl,d⟩;have p:=aC (bA k.out d (zq _));clear d g f
 go_wp2
 go_ret;exact⟨rfl,p.out⟩
theorem Uk(l:U4 Hp.Hi)(t n:U8)(v:Vh)(A B:U7)(w:Vg)(own:w.ownsRow 0 286 3 v l.length (l.flatMap iu))(S:w.cell? ⟨A,0,Vc⟩=Vd (.int .i64 t))(cb:w.cell? ⟨B,0,Vc⟩=Vd (.int .i64 n))(W:l.length<=1000):
  Vj prog 201 #[v,.func (.func 202) #[] #[.pointer (Vd ⟨A,0,Vc⟩),.pointer (Vd ⟨B,0,Vc⟩)]] w fun e w'=>e=.returned (.int .i64 (eO (fun x=>gT x t n==0) l 0))/\Vi w.heap.size w w':=by
 have U:∃ a cap,v=.slice a l.length cap:=by
  rcases own.2 with ⟨rfl,h⟩|⟨g,cap,_,rfl,_⟩
  ·rw[h];exact⟨_,_,rfl⟩
  ·exact⟨_,_,rfl⟩
 obtain⟨a,cap,rfl⟩:=U;have D:=aC (zA S cb);have u:=aC own;clear S cb own
 go_in
 go_wp2_with fail
 go_loopw [8] (fun i wx=>∃ k:U7,k<=l.length/\i=.int .i64 k/\eO (fun x=>gT x t n==0) l 0=eO (fun x=>gT x t n==0) (l.drop k) k/\Vi w.heap.size w wx) (fun i _=>l.length-(intOf i).toNat)
 case atStart=>exact⟨0,Wg _,rfl,rfl,Below.refl _ _⟩
 case round =>
  obtain⟨k,X,rfl,E,p⟩:=hrel;have J:=aC E;have M:=aC p
  by_cases d:k<l.length
  ·have V:(k:U8)<(l.length:U8):=UT
   obtain⟨H,R,O⟩:=Joins.ownsRow_form u.out UT;simp only[Value.slice.injEq,true_and] at O;obtain⟨rfl,rfl⟩:=O;have c:=eu u.out p;have I:=(c.cellAt (k*3) UT).trans (ud d (j:=0) UT);have G:=(c.cellAt (k*3+1) UT).trans (ud d (j:=1) UT);have F:=(c.cellAt (k*3+2) UT).trans (ud d (j:=2) UT);simp only[iu,List.getElem?_cons_zero,List.getElem?_cons_succ] at I G F;have q:=aC (QS l[k] t n A B wr (aN p D.out.1) (aN p D.out.2));have N:eO (fun x=>gT x t n==0) (l.drop k) k=if gT l[k] t n==0 then (k:U8) else eO (fun x=>gT x t n==0) (l.drop (k+1)) ((k+1:U7):U8):=by rw[WN d];rfl
   have T:=aC N;clear N c p E
   cases f:(gT l[k] t n==0)
   ·have C:Hid (eO (fun x=>gT x t n==0) l 0=eO (fun x=>gT x t n==0) (l.drop (k+1)) ((k+1:U7):U8)):=by show _=_;rw[J.out,T.out,f];rfl
    rw[f] at q;clear f
    go_wp2_with fail
    refine q.out.mono ?_;rintro e w1 ⟨rfl,r⟩;have K:=aC (bA M.out r (zq _));clear r I G F q
    go_wp2
    go_roundw
    case rel=>exact⟨k+1,by omega,by go_num,C.out,K.out⟩
    case measure=>simp[intOf];omega
   ·have C:Hid (eO (fun x=>gT x t n==0) l 0=k):=by show _=_;rw[J.out,T.out,f];rfl
    rw[f] at q;clear f
    go_wp2_with fail
    refine q.out.mono ?_;rintro e w1 ⟨rfl,r⟩;have K:=aC (bA M.out r (zq _));clear r I G F q
    go_wp2
    go_ret;exact⟨gK C.out.symm,K.out⟩
  ·have V:¬ (k:U8)<(l.length:U8):=UT
   have e:l.drop k=[]:=WQ UT;have C:Hid (eO (fun x=>gT x t n==0) l 0=-1):=by show _=_;rw[J.out,e];rfl
   clear E p e
   go_wp2
   go_ret;exact⟨gK C.out.symm,M.out⟩
theorem Q4(d o:U7)(v:Vh)(l:U4 Hp.Hi)(t n:U8)(w:Vg)(h:HP w d o v l)(V:Hp.gG l)(N:l.length<=1000):
  Vj prog 149 #[.pointer (Vd ⟨d,o,Vc⟩),.int .i64 t,.int .i64 n] w fun e w'=>e=.returned (.tuple #[]) /\
   (((∀ x∈l,¬ (x.t=t/\x.n=n))/\Vi w.heap.size w w')\/∃ (x:Hp.Hi) (f:U4 Hp.Hi),x.t=t/\x.n=n/\lD w d o v f w'/\Hp.gG f/\l.Perm (x :: f)):=by
 have C:Vi w.heap.size w ((w.alloc (.cells #[.int .i64 t] 3)).alloc (.cells #[.int .i64 n] 3)):=((zr _ _).alloc (zq _) _).alloc UU _;have g:=h.later C;have c:=g.c;have H:((w.alloc (.cells #[.int .i64 t] 3)).alloc (.cells #[.int .i64 n] 3)).cell? ⟨w.heap.size,0,Vc⟩=Vd (.int .i64 t):=UU
 have G:((w.alloc (.cells #[.int .i64 t] 3)).alloc (.cells #[.int .i64 n] 3)).cell? ⟨w.heap.size+1,0,Vc⟩=Vd (.int .i64 n):=by
  have:=cC (w.alloc (.cells #[.int .i64 t] 3)) (.cells #[.int .i64 n] 3);rw[WW] at this;simp only[VK,this];rfl
 have R:=aC (Uk l t n v w.heap.size (w.heap.size+1) _ g.own H G N);have D:=aC (zA C g);have B:d<w.heap.size:=Vq _ _ h.c;have bd:=OI (fun x=>gT x t n==0) l;have M:=vE (fun x=>gT x t n==0) l 0;clear C g H G h;generalize eO (fun x=>gT x t n==0) l 0=q at *;have r:=aC M;clear M
 go_in
 go_wp2_with fail
 generalize ((w.alloc (.cells #[.int .i64 t] 3)).alloc (.cells #[.int .i64 n] 3))=X at *;refine R.out.mono ?_;rintro e w1 ⟨rfl,u⟩;have F:=aC (zA (bA D.out.1 u (zq _)) (D.out.2.later u));clear u R c D
 by_cases h0:0<=q
 ·obtain⟨k,A,Y,p,W⟩:∃ (k:U7) (h:k<l.length),q=k/\(gT l[k] t n==0)=Vf/\True:=by
   rcases r.out with ⟨h,_⟩|⟨k,h,e,p,_⟩
   ·omega
   ·exact⟨k,h,by omega,p,trivial⟩
  subst Y;have O:=aC (Uo d o v l k w1 F.out.2 V A N);have HE:=aC p;clear p W r
  go_wp2_with fail
  refine O.out.mono ?_;rintro e S ⟨rfl,f,K,J,I⟩
  have E:Hid (∃ (x:Hp.Hi) (f:U4 Hp.Hi),x.t=t/\x.n=n/\lD w d o v f S/\Hp.gG f/\l.Perm (x :: f)):=by
   have p:gT l[k] t n=0:=by simpa using HE.out
   obtain⟨U,T⟩:=(Ha _ _ _).1 p;refine⟨Hp.at_ l k,f,by rw[Hp.sO A];exact U,by rw[Hp.sO A];exact T,K.from F.out.1 B,J,I⟩
  clear K J I O
  go_wp2
  go_end0
  exact⟨rfl,.inr E.out⟩
 ·have E:Hid (∀ x∈l,¬ (x.t=t/\x.n=n)):=by
   rcases r.out with ⟨_,h⟩|⟨k,h,e,_⟩
   ·intro x g e;have:=h x g;have Z:=(Ha x t n).2 e;simp[Z] at this
   ·omega
  clear r
  go_wp2
  go_end0
  exact⟨rfl,.inl ⟨E.out,F.out.1⟩⟩
open Go Go.Maps
def xk(o:U5 U7):Vh:=.pointer (o.map fun b=>⟨b,0,Vc⟩)
def ju(o:U5 U7):DataW Unit:=.lit (.int .i64 (match o with|none=>-1|some b=>(b:U8)))
def py:Vh->U5 (DataW Unit × U4 MemPlace)
 |.pointer Vc=>Vd (ju Vc,[])
 |.pointer (Vd ⟨b,0,Vc⟩)=>Vd (ju (Vd b),[])
 |_=>Vc
theorem O8(o:U5 U7):py (xk o)=Vd (ju o,[]):=by cases o <;> rfl
theorem Gv{a b:U5 U7}(h:ju a=ju b):a=b:=by
 unfold ju at h
 cases a <;> cases b <;> simp at h ⊢ <;> omega
theorem Qq{o:U5 U7}{c:U4 MemPlace}(h:py v=Vd (ju o,c)):v=xk o:=by
 unfold py at h
 split at h
 ·have e:ju Vc=ju o:=congrArg Prod.fst (WX h);have:=Gv e;subst this;rfl
 ·rename_i b
  have e:ju (Vd b)=ju o:=congrArg Prod.fst (WX h);have:=Gv e;subst this;rfl
 ·cases h
noncomputable def lf(f:Lit->U5 U7)(c:Lit)(o:U5 U7)(x:Lit):U5 U7:=@ite _ (x=c) (Classical.propDecidable _) o (f x)
theorem sN(f:Lit->U5 U7)(c:Lit)(o:U5 U7):lf f c o c=o:=Va rfl
theorem sR(f:Lit->U5 U7){c x:Lit}(o:U5 U7)(h:x≠c):lf f c o x=f x:=U9 h
def eW(P:Program)(k:Vl)(w:Vg)(b n:U7)(f:Lit->U5 U7)(sz:U7):Prop :=
 ∃ D,w.ownsMap P k py b n D/\WY D=sz/\(∀ c,D.atKey c (ju Vc)=ju (f c))/\∀ c,W4 D c=(f c).isSome
theorem eW.block{P:Program}{k:Vl}{b:U7}{f:Lit->U5 U7}(h:eW P k w b n f sz)(d:w'.heap[b]?=w.heap[b]?):eW P k w' b n f sz:=by
 obtain⟨D,⟨es,c,q,p⟩,g⟩:=h;exact⟨D,⟨es,c,d.trans q,p⟩,g⟩
theorem eW.tight{P:Program}{k:Vl}{b:U7}{f:Lit->U5 U7}(h:eW P k w b n f sz):eW P k w b sz f sz:=by
 obtain⟨D,⟨es,c,r,q,t,g⟩,d,p⟩:=h;refine⟨D,⟨es,c,r,q,?_,g⟩,d,p⟩;rw[<- d,g,Maps.size_eq,length_sorted];simp
theorem eW.made(P:Program)(k:Vl)(w:Vg):eW P k (w.alloc (.map #[] 0)) w.heap.size 0 (fun _=>Vc) 0 :=
 ⟨.map [],World.ownsMap_made w P k py,rfl,fun _=>rfl,fun _=>rfl⟩
theorem eW.look{P:Program}{k e t:Vl}{b:U7}{f:Lit->U5 U7}(h:eW P k w b n f sz)(K:Keyed P k)(ht:P.underlying t=Vd (.map k e))(q:(zeroValue e).run P w=.ok (.pointer Vc) w){g:Lit}(d:keyOf P k key=Vd g):
  (Instr.lookup t (.map (Vd b)) key Ve).run P w=.ok (xk (f g)) w:=by
 obtain⟨D,u,_,r,_⟩:=h;obtain⟨v,A,c,p⟩:=u.lookup K ht q (zd:=ju Vc) (zp:=[]) rfl d;rw[r] at p;rw[c,Qq p]
theorem eW.len{P:Program}{k e t:Vl}{b:U7}{f:Lit->U5 U7}(h:eW P k w b n f sz)(ht:P.underlying t=Vd (.map k e))(c:Vl):(Builtin.len_ #[t] c #[.map (Vd b)]).run P w=.ok (.int .i64 sz) w:=by
 obtain⟨D,g,d,_⟩:=h;rw[g.len ht c,d]
theorem eW.put{P:Program}{k:Vl}{b:U7}{f:Lit->U5 U7}{D:DataW Unit}{d:Lit}{p:U7}(K:Keyed P k)(w:Vg)(g:w.ownsMap P k py b n D)(h:w'.ownsMap P k py b (n+1) (D.put d (ju (Vd p))))(q:W5 d)(t:∀ d,D.atKey d (ju Vc)=ju (f d))(r:∀ d,W4 D d=(f d).isSome):
  eW P k w' b (n+1) (lf f d (Vd p)) (if (f d).isSome then WY D else WY D+1):=by
 refine⟨_,h,?_,fun x=>?_,fun x=>?_⟩
 ·rw[Maps.size_put (g.tidy K),r]
 ·by_cases c:x=d
  ·rw[c,sN,Maps.atKey_put_same g.isMap q]
  ·rw[sR f _ c,Maps.atKey_put_other c,t]
 ·by_cases c:x=d
  ·rw[c,sN,Maps.has_put_same g.isMap q];rfl
  ·rw[sR f _ c,Maps.has_put_other c,r]
theorem eW.del{P:Program}{k:Vl}{b:U7}{f:Lit->U5 U7}{D:DataW Unit}{d:Lit}(K:Keyed P k)(w:Vg)(p:w.ownsMap P k py b n D)(h:w'.ownsMap P k py b n (D.del d))(q:∀ d,D.atKey d (ju Vc)=ju (f d))(g:∀ d,W4 D d=(f d).isSome):
  eW P k w' b n (lf f d Vc) (WY D-if (f d).isSome then 1 else 0):=by
 refine⟨_,h,?_,fun x=>?_,fun x=>?_⟩
 ·have:=Maps.size_del (k:=d) (p.tidy K);rw[g] at this;omega
 ·by_cases c:x=d
  ·rw[c,sN,Maps.atKey_del_same]
  ·rw[sR f _ c,Maps.atKey_del_other c,q]
 ·by_cases c:x=d
  ·rw[c,sN,Maps.has_del_same];rfl
  ·rw[sR f _ c,Maps.has_del_other c,g]
theorem eW.lP{P:Program}{k e t:Vl}{b:U7}{f:Lit->U5 U7}(h:eW P k w b n f sz)(K:Keyed P k)(ht:P.underlying t=Vd (.map k e)){g:Lit}(d:keyOf P k key=Vd g)(p:Vl):
  ∃ w',(Builtin.delete_ #[t,k] p #[.map (Vd b),key]).run P w=.ok (.tuple #[]) w'/\eW P k w' b n (lf f g Vc) (sz-if (f g).isSome then 1 else 0)/\w.grownBy w' (Vd b):=by
 obtain⟨D,q,C,B,A⟩:=h;obtain⟨w',c,u,r⟩:=q.drop K ht d p;refine⟨w',c,?_,r.grown⟩;rw[<- C];exact eW.del K w q u B A
theorem eW.jS{P:Program}{k e t:Vl}{b:U7}{f:Lit->U5 U7}(h:eW P k w b n f sz)(K:Keyed P k)(ht:P.underlying t=Vd (.map k e))(B:n<maxLen){q:Lit}(g:keyOf P k key=Vd q)(d:W5 q)(p:U7):
  ∃ w',(Instr.mapUpdate t (.map (Vd b)) key (xk (Vd p))).run P w=.ok () w'/\eW P k w' b (n+1) (lf f q (Vd p)) (if (f q).isSome then sz else sz+1)/\w.grownBy w' (Vd b):=by
 obtain⟨D,r,F,E,C⟩:=h;obtain⟨w',c,A,u⟩:=r.update K ht B g (O8 (Vd p));refine⟨w',c,?_,u⟩;rw[<- F];exact eW.put K w r A d E C
section
variable {P:Program}(w:Vg) {ops:Array Oper}{rest:U4 Oper}{o:Oper}{a:Act}{Q:Exit->Act->Vg->Prop}
end
end Go.Proofs.YtfigmlfdnickmaaGreatDoor
namespace Go.Proofs.YtfigmlfdnickmaaGreatDoor.Cal
def ah(y:U8):U8:=(y-1)*365+(y-1) / 4-(y-1) / 100+(y-1) / 400
def lR(y:U8):U6:=y % 4==0 && (y % 100 != 0 || y % 400==0)
def lp(y:U8):U8:=if lR y then 1 else 0
def iK(m:U8):U8:=if m=2 then 28 else if m=4\/m=6\/m=9\/m=11 then 30 else 31
def fO(y m:U8):U8:=if m=2 then 28+lp y else iK m
def cI(y m:U8):U8 :=
 if m<=1 then 0 else if m=2 then 31 else lp y+(if m=3 then 59 else if m=4 then 90 else if m=5 then 120 else if m=6 then 151 else if m=7 then 181 else if m=8 then 212 else if m=9 then 243 else if m=10 then 273 else if m=11 then 304 else if m=12 then 334 else 365)
def first:U8:=-738885
def last:U8:=2913173
def num(y m d:U8):U8:=first+ah y+cI y m+d-1
def ok(y m d:U8):U6:=decide (1<=y/\y<=9999/\1<=m/\m<=12/\1<=d/\d<=fO y m)
theorem qA(y:U8):0<=lp y/\lp y<=1:=by unfold lp;split <;> omega
theorem Oj(y:U8):lp y=1/\y % 4=0/\(y % 100≠0\/y % 400=0)\/lp y=0/\¬ (y % 4=0/\(y % 100≠0\/y % 400=0)):=by
 unfold lp
 cases h:lR y
 ·right;refine⟨by simp,?_⟩;simp only[lR,Bool.and_eq_false_iff,Bool.or_eq_false_iff,beq_eq_false_iff_ne,bne_eq_false_iff_eq] at h;omega
 ·left;refine⟨by simp,?_⟩;simp only[lR,W6,Bool.or_eq_true,beq_iff_eq,bne_iff_ne] at h;exact h
theorem sn(y:U8)(_h:1<=y):ah (y+1)=ah y+365+lp y:=by
 rcases Oj y with ⟨e,c⟩|⟨e,c⟩ <;> rw[e] <;> unfold ah <;> omega
theorem sw(a b:U8)(_h0:1<=a)(_h:a<=b):ah a<=ah b:=by unfold ah;omega
theorem KU:ah 1=0:=UV
theorem xv:ah 10000=3652059:=UV
theorem Gl(g:U8)(_h:0<=g):ah (g*400 / 146097+1)<=g:=by unfold ah;omega
theorem qx(y:U8)(_h1:1<=y)(_h2:y<=10000):0<=ah y/\ah y<=3652059:=by unfold ah;omega
theorem OL(m:U8):28<=iK m/\iK m<=31:=by unfold iK;(repeat' split) <;> omega
theorem nT(y m:U8):28<=fO y m/\fO y m<=31:=by
 have:=qA y;have:=OL m;unfold fO;split <;> omega
theorem AO(m:U8)(d:1<=m)(c:m<=12):m=1\/m=2\/m=3\/m=4\/m=5\/m=6\/m=7\/m=8\/m=9\/m=10\/m=11\/m=12:=UT
theorem oC(y:U8):cI y 1=0:=by simp[cI]
theorem pK(y m:U8)(d:1<=m)(c:m<=12):cI y (m+1)=cI y m+fO y m:=by
 rcases AO m d c with h|h|h|h|h|h|h|h|h|h|h|h <;> subst h <;> simp[cI,fO,iK] <;> omega
theorem vj(y:U8):cI y 13=365+lp y:=by simp[cI];omega
theorem AV(y a:U8)(k:U7)(g:1<=a)(f:a+k<=13):cI y a<=cI y (a+k):=by
 induction k with
 |zero=>simp
 |succ k ih =>
  have c:=pK y (a+k) UT UT;have d:=nT y (a+k);have i:=ih UT;rw[show a+((k+1:U7):U8)=a+k+1 from by omega,c];omega
theorem qB(y m:U8)(c:1<=m)(d:m<=13):0<=cI y m/\cI y m<=365+lp y:=by
 have a:=AV y 1 (m-1).toNat UT UT;have b:=AV y m (13-m).toNat c UT;rw[show (1:U8)+((m-1).toNat:U8)=m from by omega,oC] at a;rw[show m+((13-m).toNat:U8)=13 from by omega,vj] at b;exact⟨a,b⟩
theorem Br(y a b:U8)(d:1<=a)(h:a<b)(f:b<=13):cI y a+fO y a<=cI y b:=by
 rw[<- pK y a d UT];have c:=AV y (a+1) (b-(a+1)).toNat UT UT
 rwa [show (a+1)+((b-(a+1)).toNat:U8)=b from by omega] at c
theorem gN(y m d:U8):ok y m d=Vf↔1<=y/\y<=9999/\1<=m/\m<=12/\1<=d/\d<=fO y m:=by simp[ok]
theorem vv(y m d:U8)(h:ok y m d=Vf):ah y<=num y m d-first/\num y m d-first<ah (y+1):=by
 obtain⟨k,r,f,g,q,p⟩:=(gN y m d).1 h;have a:=sn y k;have b:=qB y m f UT;have c:=pK y m f g;have e:=qB y (m+1) UT UT;unfold num;omega
theorem QF(a b n:U8)(d:1<=a)(c:1<=b)(p:ah a<=n)(k:n<ah (a+1))(g:ah b<=n)(f:n<ah (b+1)):a=b:=by
 by_cases h:a<b
 ·have:=sw (a+1) b UT UT;omega
 ·by_cases q:b<a
  ·have:=sw (b+1) a UT UT;omega
  ·omega
theorem QO(y a b n:U8)(g:1<=a)(f:a<=12)(d:1<=b)(c:b<=12)(t:cI y a<=n)(r:n<cI y a+fO y a)(q:cI y b<=n)(p:n<cI y b+fO y b):a=b:=by
 by_cases h:a<b
 ·have:=Br y a b g h UT;omega
 ·by_cases k:b<a
  ·have:=Br y b a d k UT;omega
  ·omega
theorem one(y m d y' m' d':U8)(h:ok y m d=Vf)(f:ok y' m' d'=Vf)(e:num y m d=num y' m' d'):y=y'/\m=m'/\d=d':=by
 have i:=vv y m d h;have c:=vv y' m' d' f;obtain⟨r,D,q,p,C,B⟩:=(gN y m d).1 h;obtain⟨A,G,u,t,F,E⟩:=(gN y' m' d').1 f;have g:y=y':=QF y y' (num y m d-first) r A i.1 i.2 (by rw[e];exact c.1) (by rw[e];exact c.2);subst g;unfold num at e;have k:m=m':=QO y m m' (cI y m+d-1) q p u t UT UT UT UT;subst k;exact⟨rfl,rfl,by omega⟩
theorem AR(y m d:U8)(h:ok y m d=Vf):first<=num y m d/\num y m d<=last:=by
 obtain⟨f,r,q,p,k,g⟩:=(gN y m d).1 h;have i:=vv y m d h;have a:=sw (y+1) 10000 UT UT;have b:=qx y f UT;have c:=xv;unfold first at i;unfold first last;omega
end Go.Proofs.YtfigmlfdnickmaaGreatDoor.Cal
namespace Go.Proofs.YtfigmlfdnickmaaGreatDoor.Cal
def yF(g:U8):U8:=if ah (g*400 / 146097+2)<=g then g*400 / 146097+2 else g*400 / 146097+1
def mF(y r:U8):U8:=if r<cI y 2 then 1 else if r<cI y 3 then 2 else if r<cI y 4 then 3 else if r<cI y 5 then 4 else if r<cI y 6 then 5 else if r<cI y 7 then 6 else if r<cI y 8 then 7 else if r<cI y 9 then 8 else if r<cI y 10 then 9 else if r<cI y 11 then 10 else if r<cI y 12 then 11 else 12
theorem OU(g:U8)(_h:0<=g):g<ah (g*400 / 146097+3):=by unfold ah;omega
theorem On(g:U8)(h:0<=g):1<=yF g/\ah (yF g)<=g/\g<ah (yF g+1):=by
 have a:=Gl g h;have b:=OU g h;unfold yF
 split
 ·refine⟨by omega,by assumption,?_⟩;rw[show g*400 / 146097+2+1=g*400 / 146097+3 from by omega];exact b
 ·refine⟨by omega,a,?_⟩;rw[show g*400 / 146097+1+1=g*400 / 146097+2 from by omega];omega
theorem Ok(y r:U8)(C:0<=r)(B:r<cI y 13):1<=mF y r/\mF y r<=12/\cI y (mF y r)<=r/\r<cI y (mF y r+1):=by
 have c1:=oC y;unfold mF
 by_cases A:r<cI y 2
 ·rw[Va A];exact⟨by omega,by omega,by omega,A⟩
 rw[U9 A]
 by_cases u:r<cI y 3
 ·rw[Va u];exact⟨by omega,by omega,by omega,u⟩
 rw[U9 u]
 by_cases t:r<cI y 4
 ·rw[Va t];exact⟨by omega,by omega,by omega,t⟩
 rw[U9 t]
 by_cases q:r<cI y 5
 ·rw[Va q];exact⟨by omega,by omega,by omega,q⟩
 rw[U9 q]
 by_cases p:r<cI y 6
 ·rw[Va p];exact⟨by omega,by omega,by omega,p⟩
 rw[U9 p]
 by_cases k:r<cI y 7
 ·rw[Va k];exact⟨by omega,by omega,by omega,k⟩
 rw[U9 k]
 by_cases h:r<cI y 8
 ·rw[Va h];exact⟨by omega,by omega,by omega,h⟩
 rw[U9 h]
 by_cases g:r<cI y 9
 ·rw[Va g];exact⟨by omega,by omega,by omega,g⟩
 rw[U9 g]
 by_cases f:r<cI y 10
 ·rw[Va f];exact⟨by omega,by omega,by omega,f⟩
 rw[U9 f]
 by_cases d:r<cI y 11
 ·rw[Va d];exact⟨by omega,by omega,by omega,d⟩
 rw[U9 d]
 by_cases c:r<cI y 12
 ·rw[Va c];exact⟨by omega,by omega,by omega,c⟩
 rw[U9 c];exact⟨by omega,by omega,by omega,B⟩
def yT(n:U8):U8:=yF (n+738885)
def mT(n:U8):U8:=mF (yT n) (n+738885-ah (yT n))
def dT(n:U8):U8:=n+738885-ah (yT n)-cI (yT n) (mT n)+1
theorem tA(n:U8)(f:-738885<=n)(d:n<=2913173):ok (yT n) (mT n) (dT n)=Vf/\num (yT n) (mT n) (dT n)=n:=by
 have ⟨a1,a2,a3⟩:=On (n+738885) UT;have s:=sn (yF (n+738885)) a1
 have c:yF (n+738885)<=9999:=by
  by_cases h:yF (n+738885)<=9999
  ·exact h
  ·have:=sw 10000 (yF (n+738885)) UT UT;have:=xv;omega
 have g:=vj (yF (n+738885));have ⟨b1,b2,b3,b4⟩:=Ok (yF (n+738885)) (n+738885-ah (yF (n+738885))) UT UT;have cs:=pK (yF (n+738885)) (mF (yF (n+738885)) (n+738885-ah (yF (n+738885)))) b1 b2;refine⟨(gN _ _ _).2 ?_,?_⟩
 ·unfold dT mT yT;refine⟨a1,c,b1,b2,by omega,by omega⟩
 ·unfold num dT mT yT first;omega
theorem AJ(y m d n:U8)(h:ok y m d=Vf)(e:num y m d=n):y=yT n/\m=mT n/\d=dT n:=by
 have b:=AR y m d h;rw[e] at b;unfold first last at b;have ⟨h1,h2⟩:=tA n b.1 b.2;exact one y m d _ _ _ h h1 (by rw[e,h2])
end Go.Proofs.YtfigmlfdnickmaaGreatDoor.Cal
namespace Go.Proofs.YtfigmlfdnickmaaGreatDoor.aB
def rT(c:UInt8):U6:=decide (48<=(c.toNat:U8)/\(c.toNat:U8)<=57)
def gn(l:U4 UInt8):U6:=l.all rT
def mG(l:U4 UInt8):U8:=l.foldl (fun n c=>n*10+((c.toNat:U8)-48)) 0
def low(c:UInt8):U6:=decide (97<=(c.toNat:U8)/\(c.toNat:U8)<=122)
def nP(l:U4 UInt8):U6:=l.all low
def isNum(l:U4 UInt8):U6:=decide (1<=l.length/\l.length<=7) && gn l
def fa(l:U4 UInt8):U6:=decide (1<=l.length/\l.length<=8) && nP l
theorem sF(c:UInt8):rT c=Vf↔48<=(c.toNat:U8)/\(c.toNat:U8)<=57:=by simp[rT]
theorem xu(c:UInt8):low c=Vf↔97<=(c.toNat:U8)/\(c.toNat:U8)<=122:=by simp[low]
theorem xZ(l:U4 UInt8)(c:UInt8):gn (l++[c])=(gn l && rT c):=by simp[gn]
theorem xI(l:U4 UInt8)(c:UInt8):nP (l++[c])=(nP l && low c):=by simp[nP]
theorem T6(l:U4 UInt8)(c:UInt8):mG (l++[c])=mG l*10+((c.toNat:U8)-48):=by simp[mG]
theorem xT(s:U3)(k:U7)(h:k<s.size):s.data.toList.take (k+1)=s.data.toList.take k++[s[k]]:=by
 rw[Wf (by simpa using h)];rfl
theorem sG(s:U3)(k:U7)(h:s.size<=k):s.data.toList.take k=s.data.toList:=Wh (by simpa using h)
theorem fL(s:U3):s.data.toList.length=s.size:=UU
theorem I8(l:U4 UInt8)(k:U7)(h:gn (l.take k)=Ve):gn l=Ve:=by
 unfold gn at *;rw[W7] at *;obtain⟨x,c,h⟩:=h;exact⟨x,Wn c,h⟩
theorem Hn(l:U4 UInt8)(k:U7)(h:nP (l.take k)=Ve):nP l=Ve:=by
 unfold nP at *;rw[W7] at *;obtain⟨x,c,h⟩:=h;exact⟨x,Wn c,h⟩
theorem OB(l:U4 UInt8):∀ (k:U7)(n:U8),0<=n->n<10 ^ k->gn l=Vf->0<=l.foldl (fun n c=>n*10+((c.toNat:U8)-48)) n/\l.foldl (fun n c=>n*10+((c.toNat:U8)-48)) n<10 ^ (k+l.length):=by
 induction l with
 |nil=>intro k n g f _;exact⟨g,f⟩
 |cons c l ih =>
  intro k n g f d;simp only[gn,List.all_cons,W6] at d;have h:=(sF c).1 d.1;have:=ih (k+1) (n*10+((c.toNat:U8)-48)) UT (by rw[Int.pow_succ];omega) d.2;simp only[W8,V5];rw[show k+(l.length+1)=k+1+l.length from by omega];exact this
theorem FV(l:U4 UInt8)(h:gn l=Vf)(c:l.length<=7):0<=mG l/\mG l<=9999999:=by
 have b:=OB l 0 0 UT UV h;have q:∀ k:U7,k<8->(10:U8) ^ k<=10000000:=UV
 have p:=q (0+l.length) UT;unfold mG;omega
theorem BI(f:1<=l.length)(d:l.length<=7)(c:gn l=Vf):isNum l=Vf:=by
 simp[isNum,f,d,c]
theorem xG(h:¬ (1<=l.length/\l.length<=7)):isNum l=Ve:=by
 unfold isNum;rw[decide_eq_false h];rfl
theorem Bm(h:gn l=Ve):isNum l=Ve:=by simp[isNum,h]
theorem He(l:U4 UInt8):isNum l=Vf↔(1<=l.length/\l.length<=7)/\gn l=Vf:=by simp[isNum]
theorem GU(f:1<=l.length)(d:l.length<=8)(c:nP l=Vf):fa l=Vf:=by
 simp[fa,f,d,c]
theorem xQ(h:¬ (1<=l.length/\l.length<=8)):fa l=Ve:=by
 unfold fa;rw[decide_eq_false h];rfl
theorem Gg(h:nP l=Ve):fa l=Ve:=by simp[fa,h]
def cF(l:U4 UInt8):U8:=if isNum l then mG l else 0
theorem kV(l:U4 UInt8):0<=cF l/\cF l<=9999999:=by
 unfold cF
 split
 ·rename_i h
  have:=(He l).1 h;exact FV l this.2 this.1.2
 ·omega
end Go.Proofs.YtfigmlfdnickmaaGreatDoor.aB
namespace Go.Proofs.YtfigmlfdnickmaaGreatDoor.aB
def dP(s:U3)(i:U7):U8:=((s.data.toList.getD i 0).toNat:U8)
theorem ja(s:U3)(i:U7)(h:i<s.size):dP s i=(s[i].toNat:U8):=by
 unfold dP;rw[W9,Xa (by simpa using h)];rfl
def part(s:U3)(a b:U7):U4 UInt8:=(s.extract a b).data.toList
def dA(s:U3):U6:=decide (s.size=5/\dP s 2=58/\isNum (part s 0 2)=Vf/\isNum (part s 3 5)=Vf/\cF (part s 0 2)<=23/\cF (part s 3 5)<=59)
def fl(s:U3):U8:=if dA s then cF (part s 0 2)*60+cF (part s 3 5) else 0
def iH(s:U3):U6:=decide (s.size=10/\dP s 4=45/\dP s 7=45/\isNum (part s 0 4)=Vf/\isNum (part s 5 7)=Vf/\isNum (part s 8 10)=Vf/\Cal.ok (cF (part s 0 4)) (cF (part s 5 7)) (cF (part s 8 10))=Vf)
def eH(s:U3):U8:=if iH s then Cal.num (cF (part s 0 4)) (cF (part s 5 7)) (cF (part s 8 10)) else 0
def cM(s:U3):U6:=decide (iH s=Vf/\0<=eH s/\eH s<728)
theorem ym(h:¬ (s.size=5/\dP s 2=58/\isNum (part s 0 2)=Vf/\isNum (part s 3 5)=Vf/\cF (part s 0 2)<=23/\cF (part s 3 5)<=59)):dA s=Ve:=decide_eq_false h
theorem tY(h:¬ (s.size=10/\dP s 4=45/\dP s 7=45/\isNum (part s 0 4)=Vf/\isNum (part s 5 7)=Vf/\isNum (part s 8 10)=Vf/\Cal.ok (cF (part s 0 4)) (cF (part s 5 7)) (cF (part s 8 10))=Vf)):iH s=Ve:=decide_eq_false h
theorem GM(c:s.size=5)(d:dP s 2=58):dA s=(isNum (part s 0 2) && isNum (part s 3 5) && decide (cF (part s 0 2)<=23) && decide (cF (part s 3 5)<=59)):=by
 rw[Xb];simp[dA,c,d,and_assoc]
theorem FM(c:s.size=10)(f:dP s 4=45)(d:dP s 7=45):iH s=(isNum (part s 0 4) && isNum (part s 5 7) && isNum (part s 8 10) && Cal.ok (cF (part s 0 4)) (cF (part s 5 7)) (cF (part s 8 10))):=by
 rw[Xb];simp[iH,c,f,d,and_assoc]
theorem xl(s:U3):0<=fl s/\fl s<=1439:=by
 unfold fl
 split
 ·rename_i h
  have h:=of_decide_eq_true h;have:=kV (part s 0 2);have:=kV (part s 3 5);omega
 ·omega
theorem FB(s:U3):-738885<=eH s/\eH s<=2913173:=by
 unfold eH
 split
 ·rename_i h
  have h:=of_decide_eq_true h;have b:=Cal.AR _ _ _ h.2.2.2.2.2.2;unfold Cal.first Cal.last at b;exact b
 ·omega
end Go.Proofs.YtfigmlfdnickmaaGreatDoor.aB
namespace Go.Proofs.YtfigmlfdnickmaaGreatDoor.aB
open Go
def iP(s:U3):U6:=decide (s.size=16/\dP s 10=47/\iH (s.extract 0 10)=Vf/\dA (s.extract 11 16)=Vf)
def kg(s:U3):U8:=if iP s then eH (s.extract 0 10)*1440+fl (s.extract 11 16) else 0
def iT(s:U3):U3:={ data:=(Xc s.data.toList [47]).fst.toArray }
def iU(s:U3):U3:={ data:=(Xc s.data.toList [47]).snd.fst.toArray }
def ow(s:U3):U6:=(Xc s.data.toList [47]).snd.snd
theorem oH(s:U3)(a b:U7):(s.extract a b).data.toList=(s.data.toList.take b).drop a:=by
 rw[ByteArray.data_extract,Array.toList_extract];simp[Xd]
theorem pG{t:U3}(h:s.data.toList=t.data.toList):s=t:=by
 cases s;cases t;simp only at h;congr;exact Array.toList_inj.1 h
theorem Ow(c:UInt8)(h:rT c=Vf):c≠47:=by
 intro e;subst e;revert h;decide
theorem Bs(h:gn l=Vf){c:UInt8}(d:c∈l):c≠47:=Ow c (by
 unfold gn at h;rw[Xe] at h;exact h c d)
theorem Cp(h:isNum l=Vf):gn l=Vf:=((He l).1 h).2
theorem TP(t:U3)(h:iH t=Vf):∀ j,j<10->t.data.toList[j]?≠Vd 47:=by
 have h:=of_decide_eq_true h;obtain⟨F,S,R,B,A,u,_⟩:=h;have q:=Cp B;have p:=Cp A;have f:=Cp u;unfold part at q p f;rw[oH] at q p f;have M:t.data.toList.length=10:=by rw[fL];exact F
 intro j H r;have d:j<t.data.toList.length:=UT
 have e:t.data.toList[j]=47:=by
  rw[Xa d] at r;exact WX r
 have E:j<4->False:=fun J=>Bs q (c:=t.data.toList[j]) (by
  rw[Xf];exact⟨j,by rw[Xg,Xh];simp[J]⟩) e
 have D:5<=j->j<7->False:=fun O I=>Bs p (c:=t.data.toList[j]) (by
  rw[Xf];exact⟨j-5,by rw[Xg,Xh];simp[show 5+(j-5)=j from by omega,I]⟩) e
 have C:8<=j->False:=fun N=>Bs f (c:=t.data.toList[j]) (by
  rw[Xf];exact⟨j-8,by rw[Xg,Xh];simp[show 8+(j-8)=j from by omega,H]⟩) e
 have g:∀ k:U7,j=k->dP t k=47:=fun k G=>by
  subst G;unfold dP;rw[W9,Xa d,e];rfl
 by_cases c4:j=4
 ·have:=g 4 c4;omega
 ·by_cases K:j=7
  ·have:=g 7 K;omega
  ·by_cases c1:j<4
   ·exact E c1
   ·by_cases c2:j<7
    ·exact D UT c2
    ·exact C UT
theorem Be(l:U4 UInt8)(i:U7):Xi l [47] i=Vf↔l[i]?=Vd 47:=by
 unfold Xi;rw[<- List.head?_drop]
 cases l.drop i with
 |nil=>simp[Xj]
 |cons b r=>simp[Xj];exact eq_comm
theorem FL(h:s.size=16)(d:dP s 10=47)(q:iH (s.extract 0 10)=Vf):iT s=s.extract 0 10/\iU s=s.extract 11 16/\ow s=Vf:=by
 have r:s.data.toList.length=16:=by rw[fL];exact h
 have f:s.data.toList[10]?=Vd 47:=by
  unfold dP at d;rw[W9,Xa UT] at d;rw[Xa UT];have:(s.data.toList[10]'UT).toNat=47:=by simpa using (by exact_mod_cast d:_)
  rw[show s.data.toList[10]'UT=47 from UInt8.toNat_inj.1 (by simpa using this)]
 have p:Xk s.data.toList [47]=10:=Lib.index_first (i:=10) UT ((Be _ _).2 f) (fun j g=>by
  cases k:Xi s.data.toList [47] j with
  |false=>rfl
  |true =>
   have:=TP _ q j g;rw[oH,List.drop_zero,Xh,Va g] at this
   exact Vb ((Be _ _).1 k) this)
 have c:Xc s.data.toList [47]=(s.data.toList.take 10,s.data.toList.drop 11,Vf):=by
  unfold Xc;rw[p];rfl
 refine⟨pG ?_,pG ?_,?_⟩
 ·simp only[iT,c,oH];simp
 ·simp only[iU,c,oH];rw[Wh UT]
 ·simp[ow,c]
theorem Ov(s:U3):(ow s && iH (iT s) && dA (iU s))=iP s/\(iP s=Vf->eH (iT s)*1440+fl (iU s)=kg s):=by
 have key:(ow s && iH (iT s) && dA (iU s))=iP s:=by
  rw[Xb];constructor
  ·intro h;simp only[W6] at h;obtain⟨⟨F,c⟩,p⟩:=h;have s1:(iT s).size=10:=(of_decide_eq_true c).1;have A:(iU s).size=5:=(of_decide_eq_true p).1
   have f:0<=Xk s.data.toList [47]:=by
    by_cases f:0<=Xk s.data.toList [47]
    ·exact f
    ·simp[ow,Xc,f] at F
   obtain⟨i,d⟩:=Xl f;have C:=Lib.index_room s.data.toList [47] f
   have u:Xc s.data.toList [47]=(s.data.toList.take i,s.data.toList.drop (i+1),Vf):=by
    unfold Xc;rw[Va f,d];simp
   have k:s.data.toList[i]?=Vd 47:=by
    rcases Lib.index_spec s.data.toList [47] with ⟨h,_⟩|⟨j,E,_,D,_⟩
    ·omega
    ·rw[d] at E;have:i=j:=UT
     subst this;exact (Be _ _).1 D
   rw[d] at C;simp only[List.length_singleton,fL] at C
   have I:min i s.size=10:=by
    rw[<- fL] at s1;simp only[iT,u] at s1;simpa using s1
   have H:s.size-(i+1)=5:=by
    rw[<- fL] at A;simp only[iU,u] at A;simpa using A
   have B:i=10:=UT
   have g:s.size=16:=UT
   subst B;have t:iT s=s.extract 0 10:=pG (by simp only[iT,u,oH];simp);have r:iU s=s.extract 11 16:=pG (by simp only[iU,u,oH];rw[Wh (by rw[fL];omega)]);rw[t] at c;rw[r] at p
   have q:dP s 10=47:=by
    unfold dP;rw[W9,k];rfl
   exact decide_eq_true ⟨g,q,c,p⟩
  ·intro h;obtain⟨g,q,c,p⟩:=of_decide_eq_true h;obtain⟨t,r,G⟩:=FL g q c;rw[t,r,G,c,p];rfl
 refine⟨key,fun h=>?_⟩;obtain⟨g,q,c,_⟩:=of_decide_eq_true h;obtain⟨t,r,_⟩:=FL g q c;rw[t,r];simp[kg,h]
end Go.Proofs.YtfigmlfdnickmaaGreatDoor.aB
namespace Go.Proofs.YtfigmlfdnickmaaGreatDoor.aB
open Go
def lY(b:U6)(pos:U7)(x:U4 (U7 × U7) × U5 U7):U4 (U7 × U7) × U5 U7 :=
 if b then (match x.2 with|some a=>(x.1++[(a,pos)],Vc)|none=>(x.1,Vc)) else (x.1,Vd (x.2.getD pos))
def eM(s:U3):U7->U4 (U7 × U7) × U5 U7
 |0=>([],Vc)
 |k+1=>lY (decide (dP s k=32)) k (eM s k)
def aP(s:U3):U4 U3:=(Xm s (eM s s.size)).map fun x=>s.extract x.1 x.2
theorem IF(s:U3)(i:U7)(h:i<s.size):(s.get! i).toNat=(dP s i).toNat:=by
 unfold dP;rw[W9,Xa (by simpa using h)];simp only[Xn,Int.toNat_natCast]
 congr 1
 cases s with
 |mk a=>simp only[ByteArray.get!];rw[getElem!_pos a i h];simp
theorem TR(s:U3)(i:U7)(h:i<s.size):
  ((s.get! i).toNat<128/\Xo s i=((s.get! i).toNat,1)) \/
  (128<=(Xo s i).1/\1<=(Xo s i).2/\∀ j,j<(Xo s i).2->128<=(s.get! (i+j)).toNat/\i+j<s.size):=by
 unfold Xo;simp only[Xp]
 by_cases d:(s.get! i).toNat<128
 ·left;exact⟨d,by rw[Va UT]⟩
 ·right;rw[U9 UT]
  have one:∀ j,j<1->128<=(s.get! (i+j)).toNat/\i+j<s.size:=fun j c=>by
   obtain rfl:j=0:=UT
   exact⟨by simpa using d,by omega⟩
  split
  ·rename_i hc
   simp only[W6,decide_eq_true_eq,beq_iff_eq] at hc
   split
   ·refine⟨by simp only;omega,by simp,fun j c=>?_⟩;simp only at c;rcases (show j=0\/j=1 by omega) with rfl|rfl
    ·exact one 0 UT
    ·exact⟨by omega,by omega⟩
   ·exact⟨by simp[Xq],by simp,one⟩
  ·split
   ·rename_i hc
    simp only[W6,decide_eq_true_eq,beq_iff_eq] at hc
    split
    ·rename_i hv
     simp only[W6,decide_eq_true_eq] at hv;refine⟨by simp only;omega,by simp,fun j c=>?_⟩;simp only at c;rcases (show j=0\/j=1\/j=2 by omega) with rfl|rfl|rfl
     ·exact one 0 UT
     ·exact⟨by omega,by omega⟩
     ·exact⟨by omega,by omega⟩
    ·exact⟨by simp[Xq],by simp,one⟩
   ·split
    ·rename_i hc
     simp only[W6,decide_eq_true_eq,beq_iff_eq] at hc
     split
     ·rename_i hv
      simp only[W6,decide_eq_true_eq] at hv;refine⟨by simp only;omega,by simp,fun j c=>?_⟩;simp only at c;rcases (show j=0\/j=1\/j=2\/j=3 by omega) with rfl|rfl|rfl|rfl
      ·exact one 0 UT
      ·exact⟨by omega,by omega⟩
      ·exact⟨by omega,by omega⟩
      ·exact⟨by omega,by omega⟩
     ·exact⟨by simp[Xq],by simp,one⟩
    ·exact⟨by simp[Xq],by simp,one⟩
theorem Pe(s:U3)(pos:U7):∀ n:U7,(∀ j,j<n+1->dP s (pos+j)≠32)->eM s (pos+(n+1))=((eM s pos).1,Vd ((eM s pos).2.getD pos)):=by
 intro n
 induction n with
 |zero =>
  intro h;have:=h 0 UT;simp only[Xp] at this;show lY _ pos (eM s pos)=_;rw[decide_eq_false this];rfl
 |succ n ih =>
  intro h;have i:=ih (fun j c=>h j UT);have:=h (n+1) UT;show lY (decide (dP s (pos+(n+1))=32)) (pos+(n+1)) (eM s (pos+(n+1)))=_;rw[decide_eq_false this,i];rfl
theorem PZ(s:U3):∀ (f pos:U7),pos<=s.size->s.size-pos<=f->Xr (fun r=>r==32) s f pos (eM s pos).2 (eM s pos).1=eM s s.size:=by
 intro f
 induction f with
 |zero =>
  intro pos C B;obtain rfl:pos=s.size:=UT
  rfl
 |succ f ih =>
  intro pos C B
  by_cases c:pos<s.size
  ·unfold Xr;rw[Va c];rcases TR s pos c with ⟨G,A⟩|⟨F,E,k⟩
   ·rw[A];simp only;have D:=IF s pos c;have p:0<=dP s pos:=by unfold dP;omega
    have i:=ih (pos+1) UT UT;have st:eM s (pos+1)=lY (decide (dP s pos=32)) pos (eM s pos):=rfl
    by_cases g:dP s pos=32
    ·have e:((s.get! pos).toNat==32)=Vf:=by rw[beq_iff_eq];omega
     rw[e,Va rfl];rw[decide_eq_true g] at st
     cases d:(eM s pos).2 with
     |none=>simp only;rw[st] at i;simp only[lY,d,if_true] at i;exact i
     |some a=>simp only;rw[st] at i;simp only[lY,d,if_true] at i;exact i
    ·have e:((s.get! pos).toNat==32)=Ve:=by rw[beq_eq_false_iff_ne];omega
     rw[e,U9 UV];rw[decide_eq_false g] at st
     cases d:(eM s pos).2 with
     |none=>simp only;rw[st] at i;simp only[lY,d,Vw,if_false,Xs] at i;exact i
     |some a=>simp only;rw[st] at i;simp only[lY,d,Vw,if_false,Xn] at i;exact i
   ·have e:((Xo s pos).1==32)=Ve:=by rw[beq_eq_false_iff_ne];omega
    rw[e,U9 UV];obtain⟨n,t⟩:∃ n,(Xo s pos).2=n+1:=⟨(Xo s pos).2-1,by omega⟩;have h:=k ((Xo s pos).2-1) UT
    have st:=Pe s pos n (fun j u=>by
     have q:=k j UT;have D:=IF s (pos+j) q.2;have p:0<=dP s (pos+j):=by unfold dP;omega
     omega)
    have i:=ih (pos+(n+1)) UT UT;rw[st] at i;rw[t]
    cases d:(eM s pos).2 with
    |none=>simp only;simp only[d,Xs] at i;exact i
    |some a=>simp only;simp only[d,Xn] at i;exact i
  ·obtain rfl:pos=s.size:=UT
   unfold Xr;rw[U9 c]
theorem TU(s:U3):Xt (fun r=>r==32) s=aP s:=by
 unfold Xt Lib.spansOfP aP;have:=PZ s s.size 0 (zN _) UT;rw[show (eM s 0).2=Vc from rfl,show (eM s 0).1=[] from rfl] at this;rw[this]
end Go.Proofs.YtfigmlfdnickmaaGreatDoor.aB
namespace Go.Proofs.YtfigmlfdnickmaaGreatDoor.aB
open Go
def eG(s:U3)(k:U7):U3:=match (eM s k).2 with|none=>⟨#[]⟩|some a=>s.extract a k
def jE(s:U3)(k:U7):U4 U3:=(eM s k).1.map fun x=>s.extract x.1 x.2
theorem xE(s:U3):∀ (k a:U7),(eM s k).2=Vd a->a<k
 |0,a,h=>by simp[eM] at h
 |k+1,a,h=>by
  simp only[eM,lY] at h
  split at h
  ·split at h <;> simp at h
  ·simp only[Option.some.injEq] at h
   cases c:(eM s k).2 with
   |none=>rw[c] at h;simp at h;omega
   |some b=>rw[c] at h;simp at h;have:=xE s k b c;omega
theorem rh(a b:U3):(a++b).data.toList=a.data.toList++b.data.toList:=by
 rw[ByteArray.data_append,Array.toList_append]
theorem OA(s:U3)(a k:U7)(h:a<=k):s.extract a k++s.extract k (k+1)=s.extract a (k+1):=by
 apply pG;rw[rh,oH,oH,oH]
 have d:(s.data.toList.take k).drop a=((s.data.toList.take (k+1)).drop a).take (k-a):=by
  rw[Xd,Xd,List.take_take,show min (k-a) (k+1-a)=k-a from by omega]
 have c:(s.data.toList.take (k+1)).drop k=((s.data.toList.take (k+1)).drop a).drop (k-a):=by
  rw[List.drop_drop,show a+(k-a)=k from by omega]
 rw[d,c,Wa]
theorem xy(s:U3)(k:U7):(eG s k).size<=k:=by
 unfold eG
 split
 ·exact zN _
 ·have:∀ a b,(s.extract a b).size=min b s.size-a:=fun a b=>Xu ..
  rw[this];omega
theorem QU(b:U3):(⟨#[]⟩:U3)++b=b:=by
 apply pG;rw[rh];rfl
theorem xx(s:U3)(k:U7)(h:dP s k≠32):eG s k++s.extract k (k+1)=eG s (k+1)/\jE s (k+1)=jE s k:=by
 have e:eM s (k+1)=((eM s k).1,Vd ((eM s k).2.getD k)):=by simp only[eM,lY,decide_eq_false h];rfl
 refine⟨?_,by unfold jE;rw[e]⟩;unfold eG;rw[e]
 cases c:(eM s k).2 with
 |none=>simp only[Xs];exact QU _
 |some a=>simp only[Xn];exact OA s a k (Nat.le_of_lt (xE s k a c))
theorem xJ(s:U3)(k:U7)(g:k<=s.size)(h:dP s k=32):eG s (k+1)=⟨#[]⟩/\jE s (k+1)=jE s k++(if (eG s k).size=0 then [] else [eG s k]):=by
 have e:eM s (k+1)=lY Vf k (eM s k):=by simp only[eM,decide_eq_true h]
 cases d:(eM s k).2 with
 |none =>
  have f:eM s (k+1)=((eM s k).1,Vc):=by rw[e];simp[lY,d]
  have c:eG s k=⟨#[]⟩:=by unfold eG;rw[d]
  refine⟨by unfold eG;rw[f],?_⟩;rw[c];unfold jE;rw[f];simp;rfl
 |some a =>
  have f:eM s (k+1)=((eM s k).1++[(a,k)],Vc):=by rw[e];simp[lY,d]
  have c:eG s k=s.extract a k:=by unfold eG;rw[d]
  have lt:=xE s k a d;have sz:(s.extract a k).size=min k s.size-a:=Xu ..;refine⟨by unfold eG;rw[f],?_⟩;rw[c,U9 UT];unfold jE;rw[f];simp
theorem vp(s:U3):aP s=jE s s.size++(if (eG s s.size).size=0 then [] else [eG s s.size]):=by
 unfold aP jE eG Xm
 cases c:(eM s s.size).2 with
 |none=>simp;rfl
 |some a =>
  have lt:=xE s _ a c;have sz:(s.extract a s.size).size=min s.size s.size-a:=Xu ..;simp only;rw[U9 UT];simp
theorem qD(s:U3):∀ k:U7,(jE s k).length<=k
 |0=>zq _
 |k+1=>by
  have ih:=qD s k;unfold jE at *;rw[WK] at *;simp only[eM,lY]
  split
  ·split <;> simp <;> omega
  ·simp;omega
end Go.Proofs.YtfigmlfdnickmaaGreatDoor.aB
namespace Go.Proofs.YtfigmlfdnickmaaGreatDoor.aB
open Go
def dC(l:U4 UInt8):U8 :=
 if l==[109,111] then 0 else if l==[116,117] then 1 else if l==[119,101] then 2 else if l==[116,104] then 3 else if l==[102,114] then 4 else if l==[115,97] then 5 else if l==[115,117] then 6 else -1
theorem xp(l:U4 UInt8):-1<=dC l/\dC l<=6:=by
 unfold dC;(repeat' split) <;> omega
theorem Sa(h:0<=dC l):l=[109,111]\/l=[116,117]\/l=[119,101]\/l=[116,104]\/l=[102,114]\/l=[115,97]\/l=[115,117]:=by
 unfold dC at h
 by_cases c0:(l==[109,111])=Vf
 ·exact .inl (beq_iff_eq.1 c0)
 ·rw[U9 c0] at h
  by_cases c1:(l==[116,117])=Vf
  ·exact .inr (.inl (beq_iff_eq.1 c1))
  ·rw[U9 c1] at h
   by_cases c2:(l==[119,101])=Vf
   ·exact .inr (.inr (.inl (beq_iff_eq.1 c2)))
   ·rw[U9 c2] at h
    by_cases c3:(l==[116,104])=Vf
    ·exact .inr (.inr (.inr (.inl (beq_iff_eq.1 c3))))
    ·rw[U9 c3] at h
     by_cases c4:(l==[102,114])=Vf
     ·exact .inr (.inr (.inr (.inr (.inl (beq_iff_eq.1 c4)))))
     ·rw[U9 c4] at h
      by_cases c5:(l==[115,97])=Vf
      ·exact .inr (.inr (.inr (.inr (.inr (.inl (beq_iff_eq.1 c5))))))
      ·rw[U9 c5] at h
       by_cases c:(l==[115,117])=Vf
       ·exact .inr (.inr (.inr (.inr (.inr (.inr (beq_iff_eq.1 c))))))
       ·rw[U9 c] at h;omega
theorem OZ(h:0<=dC l):l.length=2/\44 ∉ l:=by
 rcases Sa h with rfl|rfl|rfl|rfl|rfl|rfl|rfl <;> decide
theorem vC(h:¬ (l.length=2/\44 ∉ l)):dC l=-1:=by
 have b:=xp l
 by_cases g:0<=dC l
 ·exact Vb (OZ g) h
 ·omega
def jL(acc:U4 U8)(d:U8):U5 (U4 U8):=if 0<=d/\acc.contains d=Ve then Vd (d :: acc) else Vc
def nw:U4 (U4 UInt8)->U4 U8->U5 (U4 U8)
 |[],acc=>Vd acc
 |p :: ps,acc=>(jL acc (dC p)).bind (nw ps)
def iy:U4 UInt8->U4 U8->U5 (U4 U8)
 |[a,b],acc=>jL acc (dC [a,b])
 |a :: b :: c :: r,acc=>if c=44 then (jL acc (dC [a,b])).bind (iy r) else Vc
 |_,_=>Vc
def sp:U4 UInt8->U4 (U4 UInt8)
 |[]=>[[]]
 |c :: l=>if c=44 then [] :: sp l else (match sp l with| []=>[[c]]|p :: ps=>(c :: p) :: ps)
theorem vF(acc:U4 U8):jL acc (-1)=Vc:=by simp[jL]
theorem Om(l:U4 UInt8):sp l≠[]:=by
 cases l with
 |nil=>simp[sp]
 |cons c l=>unfold sp;split;simp;split <;> simp
theorem qZ{p:U4 UInt8}(c:U4 (U4 UInt8))(acc:U4 U8)(h:¬ (p.length=2/\44 ∉ p)):nw (p :: c) acc=Vc:=by
 simp[nw,vC h,vF]
theorem Dz:∀ (l:U4 UInt8)(acc r:U4 U8),iy l acc=Vd r->l.length % 3=2
 |[],_,_,h=>by simp[iy] at h
 |[_],_,_,h=>by simp[iy] at h
 |[_,_],_,_,_=>rfl
 |a :: b :: c :: l,acc,r,h=>by
  unfold iy at h
  split at h
  ·simp only[Option.bind_eq_some_iff] at h;obtain⟨x,_,h⟩:=h;have:=Dz l x r h;simp only[V5];omega
  ·cases h
theorem tT(c:UInt8)(l:U4 UInt8)(h:c≠44):∃ p ps,sp l=p :: ps/\sp (c :: l)=(c :: p) :: ps:=by
 cases d:sp l with
 |nil=>exact Vb d (Om l)
 |cons p ps=>exact⟨p,ps,rfl,by simp[sp,h,d]⟩
theorem sM(l:U4 UInt8):sp (44 :: l)=[] :: sp l:=by simp[sp]
theorem F9:∀ (l:U4 UInt8)(acc:U4 U8),nw (sp l) acc=iy l acc
 |[],acc=>by rw[show sp []=[[]] from rfl,qZ _ _ UU];rfl
 |[a],acc=>by
  by_cases g:a=44
  ·subst g;rw[sM,qZ _ _ UU];rfl
  ·obtain⟨p,B,f,r⟩:=tT a [] g;simp only[sp,Xv] at f;obtain⟨rfl,rfl⟩:=f;rw[r,qZ _ _ UU];rfl
 |[a,b],acc=>by
  by_cases g:a=44
  ·subst g;rw[sM,qZ _ _ UU,iy,vC UU,vF]
  ·obtain⟨p,B,f,r⟩:=tT a [b] g;rw[r]
   by_cases k:b=44
   ·subst k;rw[sM] at f;simp only[Xv] at f;obtain⟨rfl,rfl⟩:=f;rw[qZ _ _ UU,iy,vC UU,vF]
   ·obtain⟨D,t,d,h⟩:=tT b [] k;simp only[sp,Xv] at d;obtain⟨rfl,rfl⟩:=d;rw[h] at f;simp only[Xv] at f;obtain⟨rfl,rfl⟩:=f;simp only[nw,iy]
    cases jL acc (dC [a,b]) <;> rfl
 |a :: b :: c :: l,acc=>by
  have ih:=F9 l
  by_cases g:a=44
  ·subst g;rw[sM,qZ _ _ UU,iy,vC UU,vF]
   split <;> rfl
  ·obtain⟨p,B,f,r⟩:=tT a (b :: c :: l) g;rw[r]
   by_cases k:b=44
   ·subst k;rw[sM] at f;simp only[Xv] at f;obtain⟨rfl,rfl⟩:=f;rw[qZ _ _ UU,iy,vC UU,vF]
    split <;> rfl
   ·obtain⟨D,t,d,h⟩:=tT b (c :: l) k;rw[h] at f;simp only[Xv] at f;obtain⟨rfl,rfl⟩:=f
    by_cases u:c=44
    ·subst u;rw[sM] at d;simp only[Xv] at d;obtain⟨rfl,rfl⟩:=d;simp only[nw,iy,if_true]
     cases jL acc (dC [a,b]) with
     |none=>rfl
     |some x=>exact ih x
    ·obtain⟨C,A,_,q⟩:=tT c l u;rw[q] at d;simp only[Xv] at d;obtain⟨rfl,rfl⟩:=d;rw[qZ _ _ UU,iy,U9 u]
theorem Rz(c:UInt8)(l:U4 UInt8)(h:c≠44):Xk (c :: l) [44]=if Xk l [44]==-1 then -1 else Xk l [44]+1:=by
 rw[Xk];have:([44]:U4 UInt8).isPrefixOf (c :: l)=Ve:=by simp[Xj];exact fun e=>h e.symm
 rw[this];rfl
theorem Tb(l:U4 UInt8):Xk (44 :: l) [44]=0:=by
 rw[Xk];simp[Xj]
theorem TB(c:UInt8)(l:U4 UInt8)(h:c≠44)(k:U7):∃ p ps,Xw [44] 0 k l=p :: ps/\Xw [44] 0 k (c :: l)=(c :: p) :: ps:=by
 cases k with
 |zero=>exact⟨l,[],rfl,rfl⟩
 |succ k =>
  unfold Xw;rw[Rz c l h]
  by_cases d:(Xk l [44]==-1)=Vf
  ·rw[Va d,Va d];exact⟨l,[],rfl,rfl⟩
  ·rw[U9 d,U9 d];have g:=Lib.index_ge l [44];have q:Xk l [44]≠-1:=fun e=>d (beq_iff_eq.2 e)
   rw[U9 (by rw[beq_iff_eq];omega)];refine⟨_,_,rfl,?_⟩;obtain⟨i,f⟩:=Xl (show 0<=Xk l [44] by omega);rw[f,show ((i:U8)+1).toNat=i+1 from by omega,show ((i:U8)).toNat=i from by omega];simp
theorem G4:∀ l:U4 UInt8,Xw [44] 0 (l.count 44) l=sp l
 |[]=>rfl
 |c :: l=>by
  have ih:=G4 l
  by_cases h:c=44
  ·subst h;rw[List.count_cons_self,sM,<- ih];rw[Xw,Tb];simp
  ·rw[List.count_cons_of_ne (by simpa using h)];obtain⟨p,g,d,f⟩:=TB c l h (l.count 44);rw[f];rw[ih] at d;simp[sp,h,d]
def im(s:U3):U5 (U4 U8):=iy s.data.toList []
def dU(s:U3):U6:=(im s).isSome
theorem Rs(s:U3):nw ((Lib.splitB ⟨#[44]⟩ 0 (Lib.countB s ⟨#[44]⟩) s).map (·.data.toList)) []=im s:=by
 rw[Lib.splitB_data];have c:Lib.countB s ⟨#[44]⟩=s.data.toList.count 44:=Lib.count_one 44 s.data.toList;rw[c,show (ByteArray.mk #[44]).data.toList=[44] from rfl,G4,F9];rfl
end Go.Proofs.YtfigmlfdnickmaaGreatDoor.aB
namespace Go.Proofs.YtfigmlfdnickmaaGreatDoor
def aI(acc:U4 U8)(j:U8):U6:=acc.contains j
end Go.Proofs.YtfigmlfdnickmaaGreatDoor
namespace Go.Proofs.YtfigmlfdnickmaaGreatDoor
theorem CF{α:Type}{lt:α->α->Prop}(d:∀ x,¬ lt x x)(ht:∀ x y z,lt x y->lt y z->lt x z):∀ {l m:U4 α},l.Pairwise lt->m.Pairwise lt->(∀ x,x∈l↔x∈m)->l=m
 |[],[],_,_,_=>rfl
 |[],y :: m,_,_,h=>by have:=(h y).2 UU;simp at this
 |x :: l,[],_,_,h=>by have:=(h x).1 UU;simp at this
 |x :: l,y :: m,hl,hm,h=>by
  rw[VN] at hl hm
  have e:x=y:=by
   rcases Vz.1 ((h x).1 UU) with e|e
   ·exact e
   ·rcases Vz.1 ((h y).2 UU) with k|k
    ·exact k.symm
    ·exact Vb (ht _ _ _ (hl.1 y k) (hm.1 x e)) (d x)
  subst e
  congr 1
  refine CF d ht hl.2 hm.2 (fun z=>?_);constructor
  ·intro c;rcases Vz.1 ((h z).1 (by simp[c])) with e|e
   ·subst e;exact Vb (hl.1 z c) (d z)
   ·exact e
  ·intro c;rcases Vz.1 ((h z).2 (by simp[c])) with e|e
   ·subst e;exact Vb (hm.1 z c) (d z)
   ·exact e
namespace Rd
def fU(p:U8->U6):U7->U8->U4 U8
 |0,_=>[]
 |k+1,d=>if p d then d :: fU p k (d+1) else fU p k (d+1)
theorem yh(p:U8->U6):∀ (k:U7)(d x:U8),x∈fU p k d↔d<=x/\x<d+k/\p x=Vf
 |0,d,x=>by simp[fU];omega
 |k+1,d,x=>by
  have ih:=yh p k (d+1) x;simp only[fU]
  by_cases c:p d=Vf
  ·rw[Va c,Vz,ih];constructor
   ·rintro (rfl|⟨h,g,f⟩)
    ·exact⟨Xx _,by omega,c⟩
    ·exact⟨by omega,by omega,f⟩
   ·rintro ⟨h,g,f⟩
    by_cases e:x=d
    ·exact .inl e
    ·exact .inr ⟨by omega,by omega,f⟩
  ·rw[U9 c,ih];constructor
   ·rintro ⟨h,g,f⟩;exact⟨by omega,by omega,f⟩
   ·rintro ⟨h,g,f⟩;have:x≠d:=fun e=>c (e ▸ f)
    exact⟨by omega,by omega,f⟩
theorem ui(p:U8->U6):∀ (k:U7)(d:U8),(fU p k d).Pairwise (· < ·)
 |0,d=>by simp[fU]
 |k+1,d=>by
  simp only[fU]
  split
  ·rw[VN];exact⟨fun x c=>by have:=(yh p k (d+1) x).1 c;omega,ui p k (d+1)⟩
  ·exact ui p k (d+1)
theorem R9{l m:U4 U8}(d:l.Pairwise (· < ·))(c:m.Pairwise (· < ·))(h:∀ x,x∈l↔x∈m):l=m :=
 CF (lt:=fun a b:U8=>a<b) (fun x=>by omega) (fun x y z h k=>by omega) d c h
def iF(ev:U8):U7->U8->U4 U8
 |0,_=>[]
 |k+1,d=>if d<728 then d :: iF ev k (d+ev) else []
theorem Gy{ev:U8}(p:1<=ev):∀ (k:U7)(d x:U8),728<=d+k->(x∈iF ev k d↔d<=x/\x<728/\(x-d) % ev=0)
 |0,d,x,h=>by simp[iF];omega
 |k+1,d,x,h=>by
  simp only[iF]
  by_cases c:d<728
  ·rw[Va c,Vz,Gy p k (d+ev) x UT];have r:(x-(d+ev)) % ev=(x-d) % ev:=by rw[show x-(d+ev)=x-d-ev from by omega,Xy]
   rw[r];constructor
   ·rintro (rfl|⟨q,g,f⟩)
    ·exact⟨Xx _,c,by simp⟩
    ·exact⟨by omega,g,f⟩
   ·rintro ⟨q,g,f⟩
    by_cases e:d+ev<=x
    ·exact .inr ⟨e,g,f⟩
    ·rw[Xz UT UT] at f;exact .inl UT
  ·rw[U9 c];simp;omega
theorem Bj{ev:U8}(h:1<=ev):∀ (k:U7)(d:U8),(iF ev k d).Pairwise (· < ·)/\∀ x∈iF ev k d,d<=x
 |0,d=>by simp[iF]
 |k+1,d=>by
  simp only[iF];obtain⟨g,f⟩:=Bj h k (d+ev)
  split
  ·refine⟨VN.2 ⟨fun x c=>by have:=f x c;omega,g⟩,fun x c=>?_⟩;rcases Vz.1 c with rfl|c
   ·exact Xx _
   ·have:=f x c;omega
  ·simp
def oy(acc:U4 U8)(fr c:U8):U4 U8:=fU (fun d=>aI acc (d-c)) (c+7-max c fr).toNat (max c fr)
def iv(acc:U4 U8)(fr ev:U8):U7->U8->U4 U8
 |0,_=>[]
 |k+1,mon=>if mon<728 then oy acc fr mon++iv acc fr ev k (mon+ev*7) else []
theorem Bu{c:U8}:x∈oy acc fr c↔c<=x/\fr<=x/\x<c+7/\aI acc (x-c)=Vf:=by
 unfold oy;rw[yh];constructor
 ·rintro ⟨h,g,d⟩;exact⟨by omega,by omega,by omega,d⟩
 ·rintro ⟨h,g,d,f⟩;exact⟨by omega,by omega,f⟩
theorem GA{acc:U4 U8}{fr ev:U8}(A:1<=ev):∀ (k:U7)(d x:U8),0<=d->d % 7=0->728<=d+k->(x∈iv acc fr ev k d↔d<=x/\fr<=x/\x<728/\aI acc (x % 7)=Vf/\(x / 7-d / 7) % ev=0)
 |0,d,x,h0,h7,h=>by simp[iv];omega
 |k+1,d,x,h0,h7,h=>by
  simp only[iv]
  by_cases c:d<728
  ·have u:(ev*7) % 7=0:=UT
   rw[Va c,VA,Bu,GA A k (d+ev*7) x UT UT UT];have D:(d+ev*7) / 7=d / 7+ev:=UT
   have C:(x / 7-(d+ev*7) / 7) % ev=(x / 7-d / 7) % ev:=by rw[D,show x / 7-(d / 7+ev)=x / 7-d / 7-ev from by omega,Xy]
   rw[C];constructor
   ·rintro (⟨r,g,q,f⟩|⟨r,g,q,f,p⟩)
    ·have t:x-d=x % 7:=UT
     have B:x / 7-d / 7=0:=UT
     rw[t] at f;rw[B];exact⟨r,g,by omega,f,by simp⟩
    ·exact⟨by omega,g,q,f,p⟩
   ·rintro ⟨r,g,q,f,p⟩
    by_cases e:x<d+7
    ·have t:x-d=x % 7:=UT
     exact .inl ⟨r,g,e,by rw[t];exact f⟩
    ·by_cases E:d+ev*7<=x
     ·exact .inr ⟨E,g,q,f,p⟩
     ·rw[Xz UT UT] at p;omega
  ·rw[U9 c];simp;omega
theorem Bl{acc:U4 U8}{fr ev:U8}(p:1<=ev):∀ (k:U7)(c:U8),(iv acc fr ev k c).Pairwise (· < ·)/\∀ x∈iv acc fr ev k c,c<=x
 |0,c=>by simp[iv]
 |k+1,c=>by
  simp only[iv];obtain⟨g,f⟩:=Bl (acc:=acc) (fr:=fr) p k (c+ev*7)
  split
  ·refine⟨XA.2 ⟨ui _ _ _,g,fun x d y h=>?_⟩,fun x d=>?_⟩
   ·have:=Bu.1 d;have:=f y h;omega
   ·rcases VA.1 d with d|d
    ·exact (Bu.1 d).1
    ·have:=f x d;omega
  ·simp
def reached(y m:U8):U6:=Cal.ok y m 1 && decide (Cal.num y m 1<728)
def ng(y m ev:U8):U8:=y+(m-1+ev) / 12
def lW(m ev:U8):U8:=(m-1+ev) % 12+1
def pN(y m dt:U8):U4 U8:=if Cal.ok y m dt then [Cal.num y m dt] else []
def iG(dt ev:U8):U7->U8->U8->U4 U8
 |0,_,_=>[]
 |k+1,y,m=>if reached y m then pN y m dt++iG dt ev k (ng y m ev) (lW m ev) else []
theorem qN{d c f d':U8}(h:Cal.ok y m d=Vf)(g:Cal.ok c f d'=Vf)(k:12*y+m<12*c+f):Cal.num y m d<Cal.num c f d':=by
 have i:=Cal.vv y m d h;have q:=Cal.vv c f d' g;obtain⟨B,A,p,u,t,r⟩:=(Cal.gN y m d).1 h;obtain⟨H,G,F,E,D,C⟩:=(Cal.gN c f d').1 g
 by_cases e:y=c
 ·subst e;have:=Cal.Br y m f p UT UT;unfold Cal.num;omega
 ·have:=Cal.sw (y+1) c UT UT;omega
theorem vI(g:1<=y)(f:y<=9999)(d:1<=m)(c:m<=12):Cal.ok y m 1=Vf:=by
 have:=Cal.nT y m;exact (Cal.gN _ _ _).2 ⟨g,f,d,c,by omega,by omega⟩
theorem Je(k:2024<=y)(g:y<=9999)(f:1<=m)(d:m<=12):reached y m=Vf↔12*y+m<=24312:=by
 have o:=vI (m:=m) (by omega:1<=y) g f d;unfold reached;rw[o,Bool.true_and,decide_eq_true_eq];have q:Cal.num 2025 12 1=700:=UV
 have p:Cal.num 2026 1 1=731:=UV
 constructor
 ·intro h;apply XC;intro c
  by_cases e:12*y+m=24313
  ·have:y=2026:=UT
   have:m=1:=UT
   subst_vars;omega
  ·have:=qN (vI (y:=2026) (m:=1) UT UT UT UT) o UT;omega
 ·intro h
  by_cases e:12*y+m=24312
  ·have:y=2025:=UT
   have:m=12:=UT
   subst_vars;omega
  ·have:=qN o (vI (y:=2025) (m:=12) UT UT UT UT) UT;omega
theorem Bz{ev:U8}:12*ng y m ev+lW m ev=12*y+m+ev/\1<=lW m ev/\lW m ev<=12:=by
 unfold ng lW;omega
theorem pH(u:0<=x)(t:x<728):Cal.ok (Cal.yT x) (Cal.mT x) (Cal.dT x)=Vf/\Cal.num (Cal.yT x) (Cal.mT x) (Cal.dT x)=x/\2024<=Cal.yT x/\12*Cal.yT x+Cal.mT x<=24312:=by
 obtain⟨o,n⟩:=Cal.tA x UT UT;refine⟨o,n,?_,?_⟩
 ·apply XC;intro c;obtain⟨q,p,k,h,g,f⟩:=(Cal.gN _ _ _).1 o;have:=qN o (vI (y:=2024) (m:=1) UT UT UT UT) UT;have e:Cal.num 2024 1 1=0:=UV
  omega
 ·apply XC;intro c;obtain⟨q,p,k,h,g,f⟩:=(Cal.gN _ _ _).1 o;have B:Cal.num 2026 1 1=731:=UV
  have d:=vI (y:=2026) (m:=1) UT UT UT UT
  by_cases e:12*Cal.yT x+Cal.mT x=24313
  ·have:Cal.yT x=2026:=UT
   have r:Cal.mT x=1:=UT
   rw[this,r] at n
   have A:Cal.num 2026 1 (Cal.dT x)=731+Cal.dT x-1:=by
    have:Cal.num 2026 1 (Cal.dT x)=Cal.num 2026 1 1+Cal.dT x-1:=by unfold Cal.num;omega
    omega
   omega
  ·have:=qN d o UT;omega
theorem Gz{dt ev:U8}(B:1<=ev)(q:ev<=99):∀ (k:U7)(y m x:U8),2024<=y->y<=2034->1<=m->m<=12->24312<12*y+m+k->0<=x->x<728 ->
  (x∈iG dt ev k y m↔Cal.dT x=dt/\12*y+m<=12*Cal.yT x+Cal.mT x/\(12*Cal.yT x+Cal.mT x-12*y-m) % ev=0)
 |0,y,m,x,hy,hy2,hm,hm2,hk,h0,h1=>by
  have:=(pH h0 h1).2.2.2;simp[iG];omega
 |k+1,y,m,x,hy,hy2,hm,hm2,hk,h0,h1=>by
  obtain⟨o,n,F,G⟩:=pH h0 h1;obtain⟨N,M,K,J,I,H⟩:=(Cal.gN _ _ _).1 o;simp only[iG];have r:=Je (y:=y) (m:=m) hy UT hm hm2
  by_cases c:12*y+m<=24312
  ·rw[Va (r.2 c),VA];obtain⟨l1,u,t⟩:=Bz (y:=y) (m:=m) (ev:=ev);rw[Gz B q k (ng y m ev) (lW m ev) x UT UT u t UT h0 h1]
   have E:(12*Cal.yT x+Cal.mT x-12*ng y m ev-lW m ev) % ev=(12*Cal.yT x+Cal.mT x-12*y-m) % ev:=by
    rw[show 12*Cal.yT x+Cal.mT x-12*ng y m ev-lW m ev=12*Cal.yT x+Cal.mT x-12*y-m-ev from by omega,Xy]
   rw[E,l1]
   have p:x∈pN y m dt↔Cal.dT x=dt/\12*y+m=12*Cal.yT x+Cal.mT x:=by
    unfold pN;constructor
    ·intro h
     by_cases ok:Cal.ok y m dt=Vf
     ·rw[Va ok] at h;have:x=Cal.num y m dt:=by simpa using h
      obtain⟨d,g,f⟩:=Cal.AJ y m dt x ok this.symm;exact⟨f.symm,by omega⟩
     ·rw[U9 ok] at h;simp at h
    ·rintro ⟨d,g⟩;have D:y=Cal.yT x:=UT
     have C:m=Cal.mT x:=UT
     subst d;rw[D,C,Va o,n];simp
   rw[p];constructor
   ·rintro (⟨d,g⟩|⟨d,g,f⟩)
    ·refine⟨d,by omega,?_⟩;rw[show 12*Cal.yT x+Cal.mT x-12*y-m=0 from by omega];simp
    ·exact⟨d,by omega,f⟩
   ·rintro ⟨d,g,f⟩
    by_cases e:12*y+m+ev<=12*Cal.yT x+Cal.mT x
    ·exact .inr ⟨d,e,f⟩
    ·rw[Xz UT UT] at f;exact .inl ⟨d,by omega⟩
  ·have A:¬ reached y m=Vf:=fun h=>c (r.1 h)
   rw[U9 A];simp;omega
theorem Bk{dt ev:U8}(t:1<=ev):∀ (k:U7)(y m:U8),1<=m->m<=12->(iG dt ev k y m).Pairwise (· < ·)/\∀ x∈iG dt ev k y m,∃ d f,Cal.ok d f dt=Vf/\x=Cal.num d f dt/\12*y+m<=12*d+f
 |0,y,m,_,_=>by simp[iG]
 |k+1,y,m,h1,h2=>by
  simp only[iG];obtain⟨l1,q,p⟩:=Bz (y:=y) (m:=m) (ev:=ev);obtain⟨h,g⟩:=Bk (dt:=dt) t k (ng y m ev) (lW m ev) q p
  split
  ·unfold pN
   by_cases ok:Cal.ok y m dt=Vf
   ·rw[Va ok];refine⟨XA.2 ⟨by simp,h,fun x c z r=>?_⟩,fun x c=>?_⟩
    ·have:x=Cal.num y m dt:=by simpa using c
     obtain⟨d,f,o,rfl,k⟩:=g z r;rw[this];exact qN ok o UT
    ·rcases VA.1 c with c|c
     ·have:x=Cal.num y m dt:=by simpa using c
      exact⟨y,m,ok,this,Xx _⟩
     ·obtain⟨d,f,o,e,k⟩:=g x c;exact⟨d,f,o,e,by omega⟩
   ·rw[U9 ok];refine⟨by simpa using h,fun x c=>?_⟩;obtain⟨d,f,o,e,k⟩:=g x (by simpa using c);exact⟨d,f,o,e,by omega⟩
  ·simp
structure bL where
 pc:U8
 ev:U8
 acc:U4 U8
 fr:U8
 mn:U8
 mi:U8
 ti:U8
 un:U8
structure fu(r:bL):Prop where
 CY:1<=r.pc
 CX:r.pc<=3
 e1:1<=r.ev
 e2:r.ev<=99
 f0:0<=r.fr
 f1:r.fr<728
 m0:0<=r.mn
 m1:r.mn<1440
 i1:1<=r.mi
 i2:r.mi<=1048320
 t0:0<=r.ti
 t1:r.ti<=99
 u0:0<=r.un
 u1:r.un<728
def has(r:bL)(d:U8):U6 :=
 if r.pc=1 then decide ((d-r.fr) % r.ev=0)
 else if r.pc=2 then aI r.acc (d % 7) && decide ((d / 7-r.fr / 7) % r.ev=0)
 else decide (Cal.dT d=Cal.dT r.fr) && decide ((12*Cal.yT d+Cal.mT d-12*Cal.yT r.fr-Cal.mT r.fr) % r.ev=0)
def all(r:bL):U4 U8:=fU (has r) (728-r.fr).toNat r.fr
theorem Ba{r:bL}(h:fu r)(x:U8):x∈all r↔r.fr<=x/\x<728/\has r x=Vf:=by
 have:=h.f1;unfold all;rw[yh];constructor
 ·rintro ⟨d,f,c⟩;exact⟨d,by omega,c⟩
 ·rintro ⟨d,f,c⟩;exact⟨d,by omega,c⟩
def seq(r:bL):U4 U8 :=
 if r.pc=2 then iv r.acc r.fr r.ev 800 (r.fr-r.fr % 7)
 else if r.pc=3 then iG (Cal.dT r.fr) r.ev 100 (Cal.yT r.fr) (Cal.mT r.fr)
 else iF r.ev 800 r.fr
theorem FG{r:bL}(h:fu r):(seq r).Pairwise (· < ·):=by
 unfold seq
 split
 ·exact (Bl h.e1 _ _).1
 ·split
  ·have o:=(pH h.f0 h.f1).1;obtain⟨p,k,d,c,g,f⟩:=(Cal.gN _ _ _).1 o;exact (Bk h.e1 _ _ _ d c).1
  ·exact (Bj h.e1 _ _).1
theorem Gf{r:bL}(h:fu r)(u:0<=x)(k:x<728):x∈seq r↔r.fr<=x/\has r x=Vf:=by
 have T:=h.f0;have S:=h.f1;have I:=h.CY;have H:=h.CX;unfold seq has
 by_cases c2:r.pc=2
 ·rw[Va c2,U9 UT,Va c2,GA h.e1 800 _ x UT UT UT];have e:(r.fr-r.fr % 7) / 7=r.fr / 7:=UT
  rw[e,W6,decide_eq_true_eq];constructor
  ·rintro ⟨f,g,d,t,q⟩;exact⟨g,t,q⟩
  ·rintro ⟨g,t,q⟩;exact⟨by omega,g,k,t,q⟩
 ·rw[U9 c2]
  by_cases c3:r.pc=3
  ·rw[Va c3,U9 UT,U9 c2];obtain⟨o,n,A,K⟩:=pH h.f0 h.f1;obtain⟨R,O,D,C,N,M⟩:=(Cal.gN _ _ _).1 o;rw[Gz h.e1 h.e2 100 _ _ x A UT D C UT u k,W6,decide_eq_true_eq,decide_eq_true_eq];obtain⟨p,J,G,B⟩:=pH u k;constructor
   ·rintro ⟨f,g,d⟩;refine⟨?_,f,d⟩
    by_cases e:12*Cal.yT r.fr+Cal.mT r.fr=12*Cal.yT x+Cal.mT x
    ·obtain⟨j1,j2,j3,j4,j5,j6⟩:=(Cal.gN _ _ _).1 p;have F:Cal.yT r.fr=Cal.yT x:=UT
     have E:Cal.mT r.fr=Cal.mT x:=UT
     rw[F,E,<- f] at n;omega
    ·have:=qN o p UT;omega
   ·rintro ⟨f,g,d⟩;refine⟨g,?_,d⟩;apply XC;intro c;have:=qN p o UT;omega
  ·rw[U9 c3,Va UT,Gy h.e1 800 _ x UT,decide_eq_true_eq];constructor
   ·rintro ⟨f,g,d⟩;exact⟨f,d⟩
   ·rintro ⟨f,d⟩;exact⟨f,k,d⟩
theorem Uf{l:U4 U8}(h:l.Pairwise (· < ·))(b x:U8):x∈l.takeWhile (fun d=>decide (d<=b))↔x∈l/\x<=b:=by
 induction l with
 |nil=>simp
 |cons d l ih =>
  rw[VN] at h;rw[List.takeWhile_cons]
  by_cases c:d<=b
  ·simp only[c,decide_true,if_true,Vz,ih h.2];constructor
   ·rintro (rfl|⟨g,f⟩)
    ·exact⟨.inl rfl,c⟩
    ·exact⟨.inr g,f⟩
   ·rintro ⟨rfl|g,f⟩
    ·exact .inl rfl
    ·exact .inr ⟨g,f⟩
  ·simp only[c,decide_false,Vw,if_false,List.not_mem_nil,false_iff,Vz];rintro ⟨rfl|g,f⟩
   ·exact c f
   ·have:=h.1 x g;omega
theorem FE{r:bL}(h:fu r)(E:b<728):(seq r).takeWhile (fun d=>decide (d<=b))=(all r).filter (fun d=>decide (d<=b)):=by
 refine R9 ?_ ?_ (fun x=>?_)
 ·exact XD (List.takeWhile_sublist _) (FG h)
 ·exact VQ _ (ui _ _ _)
 ·rw[Uf (FG h),XE,Ba h,decide_eq_true_eq];have J:=h.f0
  have low:x∈seq r->0<=x:=by
   intro c;unfold seq at c
   split at c
   ·have:=(Bl h.e1 _ _).2 x c;omega
   ·split at c
    ·have o:=(pH h.f0 h.f1);obtain⟨I,H,B,A,G,F⟩:=(Cal.gN _ _ _).1 o.1;obtain⟨y',m',t,rfl,k⟩:=(Bk h.e1 _ _ _ B A).2 x c
     by_cases e:12*Cal.yT r.fr+Cal.mT r.fr=12*y'+m'
     ·obtain⟨j1,j2,j3,j4,j5,j6⟩:=(Cal.gN _ _ _).1 t;have D:Cal.yT r.fr=y':=UT
      have C:Cal.mT r.fr=m':=UT
      rw[<- D,<- C,o.2.1];omega
     ·have:=qN o.1 t UT;have:=o.2.1;omega
    ·have:=(Bj h.e1 _ _).2 x c;omega
  constructor
  ·rintro ⟨f,q⟩;have u:=low f;obtain⟨p,g⟩:=(Gf h u UT).1 f;exact⟨⟨p,by omega,g⟩,q⟩
  ·rintro ⟨⟨f,q,p⟩,g⟩;exact⟨(Gf h UT q).2 ⟨f,p⟩,g⟩
theorem Pc{r:bL}(h:fu r):(seq r).takeWhile (fun d=>decide (d<=727))=all r:=by
 rw[FE h UT];exact XF.2 (fun x c=>by have:=(Ba h x).1 c;simp;omega)
def fF(r:bL):U4 U8:=if 0<r.ti then ((seq r).takeWhile (fun d=>decide (d<=727))).take r.ti.toNat else ((seq r).takeWhile (fun d=>decide (d<=r.un))).take 41
def vl(r:bL)(l:U4 U8)(d:U8):U4 U8:=if has r d/\((r.ti=0/\d<=r.un)\/(0<r.ti/\(l.length:U8)<r.ti)) then l++[d] else l
def oG(r:bL):U7->U8->U4 U8->U4 U8
 |0,_,l=>l
 |k+1,d,l=>oG r k (d+1) (vl r l d)
theorem Jk{r:bL}(h:r.ti=0):∀ (k:U7)(d:U8)(l:U4 U8),oG r k d l=l++(fU (has r) k d).filter (fun d=>decide (d<=r.un))
 |0,d,l=>by simp[oG,fU]
 |k+1,d,l=>by
  simp only[oG,fU];rw[Jk h k (d+1)];unfold vl
  by_cases c:has r d=Vf
  ·rw[Va c,VP]
   by_cases c2:d<=r.un
   ·rw[Va ⟨c,.inl ⟨h,c2⟩⟩,Va (by simp[c2])];simp
   ·rw[U9 UT,U9 (by simp[c2])]
  ·rw[U9 c,U9 (fun e=>c e.1)]
theorem yz{r:bL}(h:0<r.ti):∀ (k:U7)(d:U8)(l:U4 U8),(l.length:U8)<=r.ti->oG r k d l=l++(fU (has r) k d).take (r.ti.toNat-l.length)
 |0,d,l,_=>by simp[oG,fU]
 |k+1,d,l,hl=>by
  simp only[oG,fU];unfold vl
  by_cases c:has r d=Vf
  ·rw[Va c]
   by_cases c2:(l.length:U8)<r.ti
   ·rw[Va ⟨c,.inr ⟨h,c2⟩⟩,yz h k (d+1) _ UZ];have e:r.ti.toNat-l.length=(r.ti.toNat-(l++[d]).length)+1:=by simp;omega
    rw[e,List.take_succ_cons];simp
   ·rw[U9 UT,yz h k (d+1) _ hl];have e:r.ti.toNat-l.length=0:=UT
    rw[e];simp
  ·rw[U9 c,U9 (fun e=>c e.1),yz h k (d+1) _ hl]
def bH(r:bL):U4 U8:=oG r (728-r.fr).toNat r.fr []
theorem Cl{r:bL}(h:fu r):bH r=if 0<r.ti then (all r).take r.ti.toNat else (all r).filter (fun d=>decide (d<=r.un)):=by
 have c:=h.t0;unfold bH
 split
 ·rw[yz UW _ _ _ UZ];simp[all]
 ·rw[Jk UT];simp[all]
theorem Hw{r:bL}(h:fu r):fF r=if 0<r.ti then bH r else (bH r).take 41:=by
 rw[Cl h];unfold fF
 split
 ·rw[Pc h]
 ·rw[FE h h.u1]
def lU(r:bL)(d:U8):U6:=decide (1048320<d*1440+r.mn+r.mi)
def gb(r:bL):U8 :=
 if 40<(bH r).length\/40<r.ti then 11 else if bH r=[]\/((bH r).length:U8)<r.ti then 6 else if (bH r).any (lU r) then 6 else 0
def fe(r:bL):U8 :=
 if 40<r.ti then 11 else if 40<(fF r).length then 11 else if fF r=[]\/((fF r).length:U8)<r.ti then 6 else if lU r ((fF r).getLastD 0) then 6 else 0
theorem IB{r:bL}(h:fu r):(bH r).Pairwise (· < ·):=by
 rw[Cl h]
 split
 ·exact XD (List.take_sublist _ _) (ui _ _ _)
 ·exact VQ _ (ui _ _ _)
theorem sH{r:bL}(h:fu r)(c:x∈bH r):r.fr<=x/\x<728:=by
 rw[Cl h] at c
 have:x∈all r:=by
  split at c
  ·exact Wn c
  ·exact (XE.1 c).1
 have:=(Ba h x).1 this;exact⟨this.1,this.2.1⟩
theorem vP{r:bL}:∀ {l:U4 U8},l.Pairwise (· < ·)->l≠[]->l.any (lU r)=lU r (l.getLastD 0)
 |[],_,h=>Vb rfl h
 |[d],_,_=>by simp
 |d :: e :: l,h,_=>by
  rw[VN] at h;have ih:=vP (r:=r) (l:=e :: l) h.2 UU;rw[List.any_cons,ih];have g:(d :: e :: l).getLastD 0=(e :: l).getLastD 0:=by simp[XG]
  rw[g]
  cases f:lU r d
  ·simp
  ·have c:(e :: l).getLastD 0∈e :: l:=by
    have:(e :: l).getLastD 0=(e :: l).getLast UU:=by simp[XG]
    rw[this];exact List.getLast_mem _
   have:=h.1 _ c;simp only[lU,decide_eq_true_eq] at f;simp only[lU,Bool.true_or];exact (decide_eq_true UT).symm
theorem pL{r:bL}(h:fu r):fe r=gb r/\(gb r=0->fF r=bH r/\bH r≠[]/\(bH r).length<=40/\∀ d∈bH r,d*1440+r.mn+r.mi<=1048320):=by
 have k:=Hw h;have g:=IB h;have C:=h.t0
 have fin:∀ {l:U4 U8},l≠[]->¬ l.any (lU r)=Vf->∀ d∈l,d*1440+r.mn+r.mi<=1048320:=by
  intro l _ u d A;apply XC;intro c;exact u (XH.2 ⟨d,A,by simp only[lU,decide_eq_true_eq];omega⟩)
 unfold fe gb
 by_cases c:0<r.ti
 ·rw[Va c] at k;rw[k]
  by_cases c1:40<r.ti
  ·rw[Va c1,Va (.inr c1)];exact⟨rfl,fun e=>by omega⟩
  ·rw[U9 c1]
   by_cases c2:40<(bH r).length
   ·rw[Va c2,Va (.inl c2)];exact⟨rfl,fun e=>by omega⟩
   ·have t:¬ (40<(bH r).length\/40<r.ti):=UT
    rw[U9 c2,U9 t]
    by_cases c3:bH r=[]\/((bH r).length:U8)<r.ti
    ·rw[Va c3,Va c3];exact⟨rfl,fun e=>by omega⟩
    ·have f:bH r≠[]:=fun e=>c3 (.inl e)
     rw[U9 c3,U9 c3,vP g f];refine⟨rfl,fun e=>⟨rfl,f,by omega,fin f ?_⟩⟩;rw[vP g f];intro p;rw[Va p] at e;omega
 ·rw[U9 c] at k;have B:¬ 40<r.ti:=UT
  rw[k,U9 B]
  by_cases c2:40<(bH r).length
  ·have:40<((bH r).take 41).length:=by rw[List.length_take];omega
   rw[Va this,Va (.inl c2)];exact⟨rfl,fun e=>by omega⟩
  ·have q:(bH r).take 41=bH r:=Wh UT;have t:¬ (40<(bH r).length\/40<r.ti):=UT
   rw[q,U9 c2,U9 t]
   by_cases c3:bH r=[]\/((bH r).length:U8)<r.ti
   ·rw[Va c3,Va c3];exact⟨rfl,fun e=>by omega⟩
   ·have f:bH r≠[]:=fun e=>c3 (.inl e)
    rw[U9 c3,U9 c3,vP g f];refine⟨rfl,fun e=>⟨rfl,f,by omega,fin f ?_⟩⟩;rw[vP g f];intro p;rw[Va p] at e;omega
def gd(r:bL)(l:U4 U8):U4 (U8 × U8):=l.map fun d=>(d*1440+r.mn,d*1440+r.mn+r.mi)
end Rd
open Go.RowKit
namespace aA
def ic(name:U3)(es:U4 aL)(a b:U8)(m x:U8):U8:=if a<x/\x<b/\m<bP name x es then bP name x es else m
def lG(name:U3)(es:U4 aL)(a b:U8):U8:=(eC name es).foldl (ic name es a b) (bP name a es)
end aA
theorem Lv(d:U7)(a:U5 Addr)(cap E:U7)(es:U4 aA.aL)(name:U3)(fr til:U8)(w:Vg)(h:mc w d a cap E es)(V:es.length<=1000)(N:∀ e∈es,aA.Small e):
  Vj prog 236 #[.pointer (Vd ⟨d,0,Vc⟩),.string name,.int .i64 fr,.int .i64 til] w fun e w'=>e=.returned (.int .i64 (aA.lG name es fr til))/\Vi w.heap.size w w':=by
 have ST:=aC (fun w' (k:Vi w.heap.size w w')=>EP d a cap E es name w' (h.later k) V N);have Z:=aC (fun t w' (k:Vi w.heap.size w w')=>Ev d a cap E es name t w' (h.later k) V N);have sz:=Av name es N;have F:aA.lG name es fr til=(aA.eC name es).foldl (aA.ic name es fr til) (aA.bP name fr es):=rfl;rw[F];generalize aA.eC name es=l at *;have aa:l.length<=100000:=UT
 clear h N F sz
 go_in
 go_wp2_with fail
 refine (Z.out _ _ (zr _ _)).mono ?_;rintro e w1 ⟨rfl,J⟩;have B:=aC J;clear J
 go_wp2_with fail
 refine (ST.out _ B.out).mono ?_;rintro e U ⟨v2,rfl,G,I⟩;obtain⟨a2,c2,g2,rfl,R,M,D⟩:=wR G;have T:=aC (zA M (zA D (bA B.out I (zq _))));clear ST G I M D B R
 go_wp2_with fail
 go_loopw [9,11,12] (fun m i _ wx=>∃ j:U7,j<=l.length/\i=.int .i64 j/\m=.int .i64 ((l.take j).foldl (aA.ic name es fr til) (aA.bP name fr es))/\Vi U.heap.size U wx) (fun _ i _ _=>l.length-(intOf i).toNat)
 case atStart=>exact⟨0,Wg _,rfl,rfl,Below.refl _ _⟩
 case round =>
  obtain⟨j,hj,rfl,rfl,K⟩:=hrel;have H:=bA T.out.2.2 K (zq _);have u:=aC H;have O:=aC K;clear H
  by_cases q:j<l.length
  ·obtain rfl:=T.out.1 (by intro e;simp[e] at q);have c0:=aN K (T.out.2.1 j q);have S:(j:U8)<(l.length:U8):=UT
   have C:(l.take (j+1)).foldl (aA.ic name es fr til) (aA.bP name fr es)=aA.ic name es fr til ((l.take j).foldl (aA.ic name es fr til) (aA.bP name fr es)) l[j]:=by
    rw[Wf q,XI];rfl
   have g:=aC C;have f:=aC (Z.out l[j]);generalize (l.take j).foldl (aA.ic name es fr til) (aA.bP name fr es)=m at *;have p:Hid (aA.ic name es fr til m l[j]=if fr<l[j]/\l[j]<til/\m<aA.bP name l[j] es then aA.bP name l[j] es else m):=rfl;generalize aA.bP name l[j] es=tk at *;clear C K
   by_cases Y:fr<l[j]
   ·by_cases X:l[j]<til
    ·by_cases W:m<tk
     ·have r:Hid ((l.take (j+1)).foldl (aA.ic name es fr til) (aA.bP name fr es)=tk):=by show _=tk;rw[g.out,p.out,Va ⟨Y,X,W⟩]
      go_wp2_with fail
      refine (f.out _ u.out).mono ?_;rintro e w4 ⟨rfl,c⟩;have A:=aC (bA O.out c (zq _));clear c f
      go_wp2
      go_roundw
      case rel=>exact⟨j+1,by omega,by go_num,by rw[r.out],A.out⟩
      case measure=>simp[intOf];omega
     ·have r:Hid ((l.take (j+1)).foldl (aA.ic name es fr til) (aA.bP name fr es)=m):=by show _=m;rw[g.out,p.out,U9 (fun x=>W x.2.2)]
      go_wp2_with fail
      refine (f.out _ u.out).mono ?_;rintro e w4 ⟨rfl,c⟩;have A:=aC (bA O.out c (zq _));clear c f
      go_wp2
      go_roundw
      case rel=>exact⟨j+1,by omega,by go_num,by rw[r.out],A.out⟩
      case measure=>simp[intOf];omega
    ·have r:Hid ((l.take (j+1)).foldl (aA.ic name es fr til) (aA.bP name fr es)=m):=by show _=m;rw[g.out,p.out,U9 (fun x=>X x.2.1)]
     go_wp2
     go_roundw
     case rel=>exact⟨j+1,by omega,by go_num,by rw[r.out],O.out⟩
     case measure=>simp[intOf];omega
   ·have r:Hid ((l.take (j+1)).foldl (aA.ic name es fr til) (aA.bP name fr es)=m):=by show _=m;rw[g.out,p.out,U9 (fun x=>Y x.1)]
    go_wp2
    go_roundw
    case rel=>exact⟨j+1,by omega,by go_num,by rw[r.out],O.out⟩
    case measure=>simp[intOf];omega
  ·have e:l.take j=l:=Wh UT;have S:¬ (j:U8)<(l.length:U8):=UT
   clear K
   go_wp2
   go_ret;exact⟨gK (by first|rfl|rw[e]),u.out⟩
namespace aA
def fZ:U4 aL->U4 U8
 |[]=>[]
 |e :: r=>e.aK.map (·.2)++fZ r
theorem Nk(l r:U4 aL):fZ (l++r)=fZ l++fZ r:=by
 induction l with
 |nil=>rfl
 |cons e l ih=>simp only[VM,fZ,ih,VY]
def jM(ts:U4 (U3 × U8))(es:U4 aL)(name:U3)(aH long fr til c s:U8):U8 :=
 if s<fr\/til<s+long\/(0<=c/\c<=s) then c else if dG ts es name aH [(s,s+long)] then s else c
def iX(ts:U4 (U3 × U8))(es:U4 aL)(name:U3)(aH long fr til:U8):U8:=(fr :: fZ es).foldl (jM ts es name aH long fr til) (-1)
def Du(es:U4 aL):Prop:=∀ e∈es,∀ s∈e.aK,0<=s.2/\s.2<=2000000
theorem Es(l:U4 aL)(h:∀ e∈l,Small e):(fZ l).length<=100*l.length:=by
 induction l with
 |nil=>simp[fZ]
 |cons e l ih =>
  have i:=ih (fun x c=>h x (by simp[c]));have s:=(h e UU).sl;simp only[fZ,V4,V5,WK];omega
theorem L3(l:U4 aL)(h:Du l):∀ x∈fZ l,0<=x/\x<=2000000:=by
 induction l with
 |nil=>simp[fZ]
 |cons e l ih =>
  intro x c;simp only[fZ,VA,Wk] at c;rcases c with ⟨s,d,rfl⟩|c
  ·exact h e UU s d
  ·exact ih (fun e f=>h e (by simp[f])) x c
end aA
def mS(fr:U8)(l:U4 aA.aL)(e:aA.aL)(j:U7):U4 U8:=fr :: (aA.fZ l++(e.aK.take j).map (·.2))
theorem Lu(d:U7)(a:U5 Addr)(cap E:U7)(es:U4 aA.aL)(at_:U5 Addr)(ct G:U7)(ts:U4 (U3 × U8))(name:U3)(aH long fr til:U8)(w:Vg)(h:mc w d a cap E es)(ht:oM w d at_ ct G ts)(hl:es.length<=1000)(av:ts.length<=1000)(hs:∀ e∈es,aA.Small e)(he:aA.Du es)(au:0<=aH)(ar:aH<=9)(a8:0<=long)(a7:long<=2000000)(a3:0<=fr)(az:fr<=2000000):
  Vj prog 237 #[.pointer (Vd ⟨d,0,Vc⟩),.string name,.int .i64 aH,.int .i64 long,.int .i64 fr,.int .i64 til] w fun e w'=>e=.returned (.int .i64 (aA.iX ts es name aH long fr til))/\Vi w.heap.size w w':=by
 obtain⟨i0,ay,aq,ao,an⟩:=info_parts pD;have FT:=aC (fun w' (k:Vi w.heap.size w w') B cb L hL ax=>DU d a cap E es at_ ct G ts name aH B cb L w' (h.later k) (ht.later k) hL hl av hs ax au ar);have H:=aC h;have HS:=aC hs;have sz:=aA.Es es hs
 have R:Hid (∀ x∈fr :: aA.fZ es,0<=x/\x<=2000000):=by
  intro x T;rcases Vz.1 T with rfl|T
  ·exact⟨a3,az⟩
  ·exact aA.L3 es he x T
 have ad:aA.iX ts es name aH long fr til=(fr :: aA.fZ es).foldl (aA.jM ts es name aH long fr til) (-1):=rfl;rw[ad];obtain⟨l,N⟩:∃ l,fr :: aA.fZ es=l:=⟨_,rfl⟩;have a9:l.length<=100100:=by rw[<- N,V5];omega
 rw[N] at R ⊢;have aj:=aC N;clear h ht hs he ad N
 go_in
 go_wp2_with fail
 have o0:(w.alloc (.cells #[.int .i64 fr] 3)).ownsRow w.heap.size 3 1 (.slice (Vd ⟨w.heap.size,0,Vc⟩) 1 1) 1 ([fr].map (V3 .i64)) :=
  ⟨rfl,.inr ⟨w.heap.size,1,#[.int .i64 fr],rfl,Vm _,cC _ _,Vm _,by unfold maxLen;omega,rfl,rfl⟩⟩
 have O0:=aC (zA o0 ((zr _ w).alloc (zq _) (.cells #[.int .i64 fr] 3)));clear o0
 go_loopw [13,14,15] (fun v i _ wx=>∃ k:U7,k<=es.length/\i=.int .i64 k/\wx.ownsRow w.heap.size 3 1 v (fr :: aA.fZ (es.take k)).length ((fr :: aA.fZ (es.take k)).map (V3 .i64))/\Vi w.heap.size w wx) (fun _ i _ _=>es.length-(intOf i).toNat)
 case atStart=>exact⟨0,Wg _,rfl,O0.out.1,O0.out.2⟩
 case round =>
  obtain⟨k,hk,rfl,f,q⟩:=hrel;have bl:=Wp k es;have T:=H.out.later q;have cc:=T.c;have a6:=aA.Es (es.take k) (fun e he=>HS.out e (Wn he))
  by_cases M:k<es.length
  ·obtain rfl:=H.out.at M;obtain⟨B,cp,U⟩:=H.out.r k M;have c4:=(U.later q).c4;have ab:=HS.out es[k] (zg M);have D:(k:U8)<(es.length:U8):=UT
   have e:fr :: aA.fZ (es.take (k+1))=fr :: (aA.fZ (es.take k)++es[k].aK.map (·.2)):=by
    rw[Wf M,aA.Nk];simp[aA.fZ]
   have EE:=aC e;have sl:=ab.sl;have R0:=aC U;have HO:=aC (zA f q);clear e U T ab f q
   go_wp2_with fail
   go_loopw [13,15] (fun v i wx=>∃ j:U7,j<=es[k].aK.length/\i=.int .i64 j/\wx.ownsRow w.heap.size 3 1 v (mS fr (es.take k) es[k] j).length ((mS fr (es.take k) es[k] j).map (V3 .i64))/\Vi w.heap.size w wx) (fun _ i _=>es[k].aK.length-(intOf i).toNat)
   case atStart=>exact⟨0,Wg _,rfl,by rw[mS];simpa using HO.out.1,HO.out.2⟩
   case round =>
    obtain⟨j,hj,rfl,f,q⟩:=hrel;clear cc c4;have cc:=(H.out.later q).c;have c4:=(R0.out.later q).c4;have O:=aC (zA f q);have ae:=q.size
    by_cases t:j<es[k].aK.length
    ·have r1:=(R0.out.sl.later q j t).2;have V:(j:U8)<(es[k].aK.length:U8):=UT
     have ai:mS fr (es.take k) es[k] (j+1)=mS fr (es.take k) es[k] j++[es[k].aK[j].2]:=by
      unfold mS;rw[Wf t,Wq,VM,VY];rfl
     have ES:=aC ai
     have a5:(mS fr (es.take k) es[k] j).length<=100*k+101:=by
      unfold mS;have:=Wp j es[k].aK;simp only[V5,V4,WK];omega
     clear ai q
     go_wp2_with (first
      |(at_builtin;refine wpList_append_own _ rfl _ _ 38 rfl w.heap.size 3 i0 (.int .i64 0) 1 8 underlying38 ay aq ao an rfl UV _ _ _ rfl (f.alloc _) ⟨wr.heap.size,0,Vc⟩ 1 1 [.int .i64 es[k].aK[j].2] rfl rfl (WL (cs:=#[.int .i64 es[k].aK[j].2]) (cC wr _)) U1 U0 UT UZ ?_;intro v' w' C F _))
     have af:Vi w.heap.size w w':=(O.out.2.alloc ae _).grown F UZ (fun k hk=>jD O.out.1 hk)
     have HK:Hid (w'.ownsRow w.heap.size 3 1 v' (mS fr (es.take k) es[k] (j+1)).length ((mS fr (es.take k) es[k] (j+1)).map (V3 .i64))):=by
      show w'.ownsRow _ _ _ _ _ _;rw[ES.out,Wq,V4];exact C
     have a4:=aC af;clear C F af f O r1 cc c4
     go_wp2
     go_roundw
     case rel=>exact⟨j+1,by omega,by go_num,HK.out,a4.out⟩
     case measure=>simp[intOf];omega
    ·have V:¬ (j:U8)<(es[k].aK.length:U8):=UT
     have S:mS fr (es.take k) es[k] j=fr :: aA.fZ (es.take (k+1)):=by
      have et:es[k].aK.take j=es[k].aK:=Wh UT;rw[EE.out,mS,et]
     have HK:Hid (wr.ownsRow w.heap.size 3 1 u13 (fr :: aA.fZ (es.take (k+1))).length ((fr :: aA.fZ (es.take (k+1))).map (V3 .i64))):=by
      show wr.ownsRow _ _ _ _ _ _;rw[<- S];exact f
     clear f q S
     go_wp2
     go_roundw
     case rel=>exact⟨k+1,by omega,by go_num,HK.out,O.out.2⟩
     case measure=>simp[intOf];omega
  ·have e:es.take k=es:=Wh UT;have D:¬ (k:U8)<(es.length:U8):=UT
   rw[e,aj.out] at f;obtain⟨a2,c2,g2,rfl,aw,ag,ac⟩:=wR f;have R2:=aC (zA ag (zA ac q));clear f q e ag ac aw aj T O0
   go_wp2_with fail
   go_loopw [16,17,18,19] (fun b i _ _ wx=>∃ j:U7,j<=l.length/\i=.int .i64 j/\b=.int .i64 ((l.take j).foldl (aA.jM ts es name aH long fr til) (-1))/\Vi w.heap.size w wx/\∀ (i:U7) (D:i<l.length),wx.cell? ⟨g2,i,Vc⟩=Vd (.int .i64 l[i])) (fun _ i _ _ _=>l.length-(intOf i).toNat)
   case atStart=>exact⟨0,Wg _,rfl,rfl,R2.out.2.2,R2.out.2.1⟩
   case round =>
    obtain⟨j,hj,rfl,rfl,q,J⟩:=hrel;have Z:=aC q;have HC:=aC J;clear J
    by_cases t:j<l.length
    ·obtain rfl:=R2.out.1 (by intro e;simp[e] at t);have c0:=HC.out j t;have V:(j:U8)<(l.length:U8):=UT
     have aa:(l.take (j+1)).foldl (aA.jM ts es name aH long fr til) (-1)=aA.jM ts es name aH long fr til ((l.take j).foldl (aA.jM ts es name aH long fr til) (-1)) l[j]:=by
      rw[Wf t,XI];rfl
     have X:=aC aa;have hm:=R.out l[j] (zg t);generalize (l.take j).foldl (aA.jM ts es name aH long fr til) (-1)=b at *;generalize l[j]=sx at *;have Y:Hid (aA.jM ts es name aH long fr til b sx=if sx<fr\/til<sx+long\/(0<=b/\b<=sx) then b else if aA.dG ts es name aH [(sx,sx+long)] then sx else b):=rfl;clear aa q
     by_cases g:sx<fr\/til<sx+long\/(0<=b/\b<=sx)
     ·have HE:Hid ((l.take (j+1)).foldl (aA.jM ts es name aH long fr til) (-1)=b):=by show _=b;rw[X.out,Y.out,Va g]
      have I:sx<fr\/(¬ sx<fr/\til<sx+long)\/(¬ sx<fr/\¬ til<sx+long/\0<=b/\b<=sx):=UT
      clear g;rcases I with q1|⟨q1,q2⟩|⟨q1,q2,q3,q4⟩
      all_goals
       go_wp2
       go_roundw
       case rel=>exact⟨j+1,by omega,by go_num,by rw[HE.out],Z.out,HC.out⟩
       case measure=>simp[intOf];omega
     ·have hB:fW (wr.alloc (.cells #[.int .i64 sx,.int .i64 (sx+long)] 60)) wr.heap.size [(sx,sx+long)]:=by
       intro i D;have:i=0:=by simpa using D
       subst this;exact⟨by simp,by simp⟩
      have W:Vi w.heap.size w (wr.alloc (.cells #[.int .i64 sx,.int .i64 (sx+long)] 60)):=bA Z.out ((zr _ _).alloc (zq _) _) (zq _);have A:=aC (FT.out _ W wr.heap.size 1 [(sx,sx+long)] hB UU);have al:=aC W;have ak:Hid (∀ (i:U7) (D:i<l.length),(wr.alloc (.cells #[.int .i64 sx,.int .i64 (sx+long)] 60)).cell? ⟨g2,i,Vc⟩=Vd (.int .i64 l[i])):=fun i D=>aN ((zr _ _).alloc (zq _) _) (HC.out i D)
      have q1:¬ sx<fr:=UT
      have q2:¬ til<sx+long:=UT
      have hz:(wr.alloc (.cells #[.int .i64 sx,.int .i64 (sx+long)] 60)).heap.size=wr.heap.size+1:=UU
      clear hB W hz
      cases p:aA.dG ts es name aH [(sx,sx+long)]
      ·have HE:Hid ((l.take (j+1)).foldl (aA.jM ts es name aH long fr til) (-1)=b):=by show _=b;rw[X.out,Y.out,U9 g,p];rfl
       rw[p] at A;have I:b<0\/(0<=b/\sx<b):=UT
       clear g p;rcases I with q3|⟨q3,q4⟩
       all_goals
        go_wp2_with fail
        refine A.out.mono ?_;rintro e w4 ⟨rfl,u⟩;have K:=aC (zA (bA al.out u (zq _)) (fun i D=>aN u (ak.out i D)));clear u A
        go_wp2
        go_roundw
        case rel=>exact⟨j+1,by omega,by go_num,by rw[HE.out],K.out.1,K.out.2⟩
        case measure=>simp[intOf];omega
      ·have HE:Hid ((l.take (j+1)).foldl (aA.jM ts es name aH long fr til) (-1)=sx):=by show _=sx;rw[X.out,Y.out,U9 g,p];rfl
       rw[p] at A;have I:b<0\/(0<=b/\sx<b):=UT
       clear g p;rcases I with q3|⟨q3,q4⟩
       all_goals
        go_wp2_with fail
        refine A.out.mono ?_;rintro e w4 ⟨rfl,u⟩;have K:=aC (zA (bA al.out u (zq _)) (fun i D=>aN u (ak.out i D)));clear u A
        go_wp2
        go_roundw
        case rel=>exact⟨j+1,by omega,by go_num,by rw[HE.out],K.out.1,K.out.2⟩
        case measure=>simp[intOf];omega
    ·have e:l.take j=l:=Wh UT;have V:¬ (j:U8)<(l.length:U8):=UT
     clear q
     go_wp2
     go_ret;exact⟨gK (by first|rfl|rw[e]),Z.out⟩
namespace aA
def pJ(a x:U8):U4 U8->U8
 |[]=>a
 |s :: r=>if s<=x/\pJ a x r<s then s else pJ a x r
theorem Cx(a x:U8)(h:a<=x):∀ l:U4 U8,a<=pJ a x l/\pJ a x l<=x/\(pJ a x l=a\/pJ a x l∈l)/\∀ s∈l,s<=x->s<=pJ a x l
 |[]=>⟨Xx _,h,.inl rfl,by simp⟩
 |s :: r=>by
  obtain⟨p,g,d,f⟩:=Cx a x h r;simp only[pJ]
  split
  ·rename_i c
   refine⟨by omega,c.1,.inr UU,fun t ht k=>?_⟩;rcases Vz.1 ht with rfl|ht
   ·omega
   ·have:=f t ht k;omega
  ·rename_i c
   refine⟨p,g,?_,fun t ht k=>?_⟩
   ·rcases d with d|d
    ·exact .inl d
    ·exact .inr (by simp[d])
   ·rcases Vz.1 ht with rfl|ht
    ·omega
    ·exact f t ht k
theorem Jt(d:y<=x)(h:∀ s∈L,s.1<=x->s.1<=y):cP L x<=cP L y:=by
 unfold cP;rw[<- XJ,<- XJ]
 have:XK (hasB x) L<=XK (hasB y) L:=XL (fun s f c=>by
  simp[hasB] at c ⊢;have:=h s f c.1
  omega)
 omega
def Pos(es:U4 aL):Prop:=∀ e∈es,0<=e.aH
theorem CB{name:U3}{x y:U8}(d:y<=x):∀ {es:U4 aL},Pos es->(∀ s∈eC name es,s<=x->s<=y)->bP name x es<=bP name y es
 |[],_,_=>Xx _
 |e :: r,hp,h=>by
  have ih:=CB (name:=name) d (es:=r) (fun z k=>hp z (by simp[k])) (fun s g=>h s (by simp[eC,g]));simp only[bP]
  by_cases c:cA name e=Vf
  ·rw[Va c,Va c];have g:bW e.aT name=Vf:=by simp[cA] at c;exact c.1
   have t:cP e.aK x<=cP e.aK y:=Jt d (fun s f p=>h s.1 (by simp[eC,g];exact .inl ⟨s.2,f⟩) p);have q:=hp e UU;have:cP e.aK x*e.aH<=cP e.aK y*e.aH:=XM t q;omega
  ·rw[U9 c,U9 c];omega
theorem SC(d:Pos es)(h:a<=x):∃ y,a<=y/\y<=x/\(y=a\/y∈eC name es)/\bP name x es<=bP name y es:=by
 obtain⟨k,c,g,f⟩:=Cx a x h (eC name es);exact⟨_,k,c,g,CB c d f⟩
theorem ue{aH:U8}(C:Pos es)(B:0<=aH):
  dG ts es name aH L=Vf↔∀ x,0<cP L x->bP name x es+cP L x*aH<=bJ name ts:=by
 constructor
 ·intro h x g
  have p:∃ s∈L,s.1<=x/\x<s.2:=by
   unfold cP at g;have F:0<(L.filter (hasB x)).length:=UT
   obtain⟨s,c⟩:=XN F;have:=XE.1 c;simp[hasB] at this;exact⟨s,this.1,this.2⟩
  obtain⟨f,k,t,I⟩:=p;obtain⟨H,r,d,q⟩:=Cx f.1 x t (eC name es++L.map (·.1));generalize pJ f.1 x (eC name es++L.map (·.1))=y at H r d q
  have u:y∈eC name es++L.map (·.1):=by
   rcases d with rfl|d
   ·simp;exact .inr ⟨f.2,k⟩
   ·exact d
  have ht:=CB (name:=name) (es:=es) r C (fun s c=>q s (by simp[c]));have E:cP L x<=cP L y:=Jt r (fun s c=>q s.1 (by simp;exact .inr ⟨s.2,c⟩));have G:=Xe.1 h y u;simp[pv] at G;have A:0<cP L y:=UT
  have D:cP L x*aH<=cP L y*aH:=XM E B;omega
 ·intro h;unfold dG ou;rw[Xe];intro x _;simp[pv]
  by_cases g:0<cP L x
  ·exact .inr (h x g)
  ·exact .inl UT
theorem Cg(a b x:U8):cP [(a,b)] x=if a<=x/\x<b then 1 else 0:=by
 unfold cP
 by_cases h:a<=x/\x<b
 ·rw[Va h];simp[hasB,h.1,h.2]
 ·rw[U9 h];have:hasB x (a,b)=Ve:=by simp[hasB];omega
  simp[this]
theorem Cw{aH:U8}(p:Pos es)(k:0<=aH):
  dG ts es name aH [(a,b)]=Vf↔∀ x,a<=x->x<b->bP name x es+aH<=bJ name ts:=by
 rw[ue p k];constructor
 ·intro h x g f;have:=h x (by rw[Cg,Va ⟨g,f⟩];omega);rw[Cg,Va ⟨g,f⟩] at this;omega
 ·intro h x d;rw[Cg] at d ⊢
  by_cases c:a<=x/\x<b
  ·rw[Va c];have:=h x c.1 c.2;omega
  ·rw[U9 c] at d;omega
def vy(f:U8->U8)(a b m:U8):Prop:=(∀ x,a<=x->x<b->f x<=m)/\∃ x,a<=x/\x<b/\f x=m
theorem vy.eq{f:U8->U8}{n:U8}(h:vy f a b m)(k:vy f a b n):m=n:=by
 obtain⟨r,x,q,p,u⟩:=h;obtain⟨g,y,d,c,t⟩:=k;have:=r y d c;have:=g x q p;omega
theorem Ie{name:U3}{es:U4 aL}{a b:U8}:∀ (l:U4 U8)(m:U8),
  m<=l.foldl (ic name es a b) m/\(∀ x∈l,a<x->x<b->bP name x es<=l.foldl (ic name es a b) m)/\(l.foldl (ic name es a b) m=m\/∃ x∈l,a<x/\x<b/\l.foldl (ic name es a b) m=bP name x es)
 |[],m=>⟨Xx _,by simp,.inl rfl⟩
 |x :: l,m=>by
  obtain⟨g,q,f⟩:=Ie (name:=name) (es:=es) (a:=a) (b:=b) l (ic name es a b m x);simp only[W8];generalize l.foldl (ic name es a b) (ic name es a b m x)=R at g q f ⊢
  have r:(ic name es a b m x=m/\¬ (a<x/\x<b/\m<bP name x es))\/(ic name es a b m x=bP name x es/\a<x/\x<b/\m<bP name x es):=by
   unfold ic
   by_cases c:a<x/\x<b/\m<bP name x es
   ·rw[Va c];exact .inr ⟨rfl,c⟩
   ·rw[U9 c];exact .inl ⟨rfl,c⟩
  rcases r with ⟨e,c⟩|⟨e,c⟩
  ·rw[e] at g f;refine⟨g,fun y d p h=>?_,?_⟩
   ·rcases Vz.1 d with rfl|d
    ·omega
    ·exact q y d p h
   ·rcases f with f|⟨y,d,k⟩
    ·exact .inl f
    ·exact .inr ⟨y,by simp[d],k⟩
  ·rw[e] at g f;refine⟨by omega,fun y d p h=>?_,?_⟩
   ·rcases Vz.1 d with rfl|d
    ·omega
    ·exact q y d p h
   ·rcases f with f|⟨y,d,k⟩
    ·exact .inr ⟨x,by simp,c.1,c.2.1,f⟩
    ·exact .inr ⟨y,by simp[d],k⟩
theorem UH(q:Pos es)(h:a<b):vy (fun x=>bP name x es) a b (lG name es a b):=by
 obtain⟨r,k,d⟩:=Ie (name:=name) (es:=es) (a:=a) (b:=b) (eC name es) (bP name a es);unfold lG;generalize (eC name es).foldl (ic name es a b) (bP name a es)=R at r k d ⊢;refine⟨fun x g f=>?_,?_⟩
 ·obtain⟨y,A,u,c,t⟩:=SC (name:=name) q g;show bP name x es<=R
  by_cases e:y=a
  ·subst e;omega
  ·rcases c with c|c
   ·exact Vb c e
   ·have:=k y c UT UT;omega
 ·rcases d with d|⟨x,_,g,f,p⟩
  ·exact⟨a,Xx _,h,d.symm⟩
  ·exact⟨x,by omega,f,p.symm⟩
theorem FY{name:U3}{x:U8}:∀ {es:U4 aL},Pos es->bP name x es<bP name (x-1) es->x∈fZ es
 |[],_,h=>by simp[bP] at h
 |e :: r,hp,h=>by
  simp only[fZ,VA,Wk]
  by_cases c:∃ s∈e.aK,s.2=x
  ·exact .inl c
  ·right;refine FY (name:=name) (fun z d=>hp z (by simp[d])) ?_
   have p:cP e.aK (x-1)<=cP e.aK x:=by
    unfold cP;rw[<- XJ,<- XJ]
    have:XK (hasB (x-1)) e.aK<=XK (hasB x) e.aK:=XL (fun s g q=>by
     simp[hasB] at q ⊢;have:s.2≠x:=fun e=>c ⟨s,g,e⟩
     omega)
    omega
   have f:=hp e UU;have k:cP e.aK (x-1)*e.aH<=cP e.aK x*e.aH:=XM p f;simp only[bP] at h
   split at h <;> omega
def Az(r:U8):U5 U8:=if r<0 then Vc else Vd r
theorem BN{ts:U4 (U3 × U8)}{es:U4 aL}{name:U3}{aH long fr tq:U8}(C:0<=fr):∀ (l:U4 U8)(b:U8),-1<=b ->
  (b=-1\/(fr<=b/\b+long<=tq/\dG ts es name aH [(b,b+long)]=Vf)) ->
  let R:=l.foldl (jM ts es name aH long fr tq) b
  (R=-1\/(fr<=R/\R+long<=tq/\dG ts es name aH [(R,R+long)]=Vf))/\-1<=R/\(0<=b->0<=R/\R<=b)/\∀ s∈l,fr<=s->s+long<=tq->dG ts es name aH [(s,s+long)]=Vf->0<=R/\R<=s
 |[],b,hb,h=>by
  refine⟨h,hb,fun k=>⟨k,Xx _⟩,by simp⟩
 |s :: l,b,hb,h=>by
  intro R
  have D:jM ts es name aH long fr tq b s=b/\((s<fr\/tq<s+long\/(0<=b/\b<=s))\/dG ts es name aH [(s,s+long)]=Ve)\/jM ts es name aH long fr tq b s=s/\fr<=s/\s+long<=tq/\dG ts es name aH [(s,s+long)]=Vf/\(b<0\/s<b):=by
   unfold jM
   by_cases c:s<fr\/tq<s+long\/(0<=b/\b<=s)
   ·rw[Va c];exact .inl ⟨rfl,.inl c⟩
   ·rw[U9 c]
    cases E:dG ts es name aH [(s,s+long)]
    ·exact .inl ⟨by simp,.inr rfl⟩
    ·exact .inr ⟨by simp,by omega,by omega,rfl,by omega⟩
  rcases D with ⟨e,c⟩|⟨e,c1,c2,c3,c4⟩
  ·have ih:=BN (ts:=ts) (es:=es) (name:=name) (aH:=aH) (long:=long) (tq:=tq) C l b hb h;have B:R=l.foldl (jM ts es name aH long fr tq) b:=by show XP _ _ _=_;rw[W8,e]
   rw[<- B] at ih;obtain⟨A,u,f,q⟩:=ih;refine⟨A,u,f,fun t ht p g d=>?_⟩;rcases Vz.1 ht with rfl|ht
   ·rcases c with c|c
    ·have:=f UT;omega
    ·rw[d] at c;cases c
   ·exact q t ht p g d
  ·have ih:=BN (ts:=ts) (es:=es) (name:=name) (aH:=aH) (long:=long) (tq:=tq) C l s UT (.inr ⟨c1,c2,c3⟩);have B:R=l.foldl (jM ts es name aH long fr tq) s:=by show XP _ _ _=_;rw[W8,e]
   rw[<- B] at ih;obtain⟨A,u,f,q⟩:=ih;have r:=f UT;refine⟨A,u,fun k=>by omega,fun t ht p g d=>?_⟩;rcases Vz.1 ht with rfl|ht
   ·exact r
   ·exact q t ht p g d
theorem Qd(P:U8->Prop)(fr:U8):∀ (n:U7)(s:U8),s=fr+n->P s->∃ r,fr<=r/\r<=s/\P r/\∀ t,fr<=t->t<r->¬ P t:=by
 intro n
 induction n using Nat.strongRecOn with
 |_ n ih =>
  intro s A q
  by_cases c:∃ t,fr<=t/\t<s/\P t
  ·obtain⟨t,g,f,d⟩:=c;obtain⟨r,p,u,k,h⟩:=ih (t-fr).toNat UT t UT d;exact⟨r,p,by omega,k,h⟩
  ·exact⟨s,by omega,Xx _,q,fun t g f d=>c ⟨t,g,f,d⟩⟩
theorem Pp{aH:U8}(q:Pos es)(u:0<=aH)(I:0<=fr)(_hl:1<=long):
  -1<=iX ts es name aH long fr tq/\qM (fun x=>bP name x es) fr tq long (bJ name ts-aH) (Az (iX ts es name aH long fr tq)):=by
 have A:∀ s,nZ (fun x=>bP name x es) long (bJ name ts-aH) s↔dG ts es name aH [(s,s+long)]=Vf:=by
  intro s;rw[Cw q u];constructor
  ·intro h x c f;have:=h x c f;have this:bP name x es<=bJ name ts-aH:=this;omega
  ·intro h x c f;have:=h x c f;show bP name x es<=bJ name ts-aH;omega
 obtain⟨C,F,_,E⟩:=BN (ts:=ts) (es:=es) (name:=name) (aH:=aH) (long:=long) (tq:=tq) I (fr :: fZ es) (-1) (Xx _) (.inl rfl);unfold iX;generalize (fr :: fZ es).foldl (jM ts es name aH long fr tq) (-1)=R at C F E ⊢
 have key:∀ s,fr<=s->s+long<=tq->dG ts es name aH [(s,s+long)]=Vf->0<=R/\R<=s:=by
  intro s c f g;obtain⟨r,t,D,p,G⟩:=Qd (fun s=>dG ts es name aH [(s,s+long)]=Vf) fr (s-fr).toNat s UT g
  have:r∈fr :: fZ es:=by
   by_cases e:r=fr
   ·simp[e]
   ·have B:=G (r-1) UT UT;have k:=(Cw q u).1 p
    have:∃ x,r-1<=x/\x<r-1+long/\bJ name ts<bP name x es+aH:=by
     apply XC;intro H;apply B;apply (Cw q u).2;intro x j1 j2
     by_cases d:bP name x es+aH<=bJ name ts
     ·exact d
     ·exact Vb ⟨x,j1,j2,by omega⟩ H
    obtain⟨x,j1,j2,j3⟩:=this
    have J:x=r-1:=by
     by_cases d:r<=x
     ·have:=k x d UT;omega
     ·omega
    subst J;have:=k r (Xx _) UT;exact WU _ (FY (name:=name) q UT)
  have:=E r this t UT p;omega
 refine⟨F,?_⟩;unfold Az
 split
 ·intro s c f g;have:=key s c f ((A s).1 g);omega
 ·rcases C with C|⟨t,D,p⟩
  ·omega
  ·refine⟨t,D,(A R).2 p,fun s c f g=>?_⟩;have:=key s c UT ((A s).1 g);omega
theorem QG{f:U8->U8}{r q:U5 U8}(h:qM f a b long level r)(k:qM f a b long level q):r=q:=by
 cases r with
 |none =>
  cases q with
  |none=>rfl
  |some s=>exact Vb k.2.2.1 (h s k.1 k.2.1)
 |some s =>
  cases q with
  |none=>exact Vb h.2.2.1 (k s h.1 h.2.1)
  |some t =>
   obtain⟨C,E,B,A⟩:=h;obtain⟨u,D,p,g⟩:=k
   by_cases c:s<t
   ·exact Vb B (g s C c)
   ·by_cases d:t<s
    ·exact Vb p (A t u d)
    ·exact congrArg Vd UT
theorem Tt{f g:U8->U8}{r:U5 U8}(h:qM f a b long level r)(k:∀ x,a<=x->x<b->f x=g x):qM g a b long level r:=by
 have key:∀ s,a<=s->s+long<=b->(nZ f long level s↔nZ g long level s):=by
  intro s c d;constructor
  ·intro h x u q;rw[<- k x UT UT];exact h x u q
  ·intro h x u q;rw[k x UT UT];exact h x u q
 cases r with
 |none=>exact fun s c d p=>h s c d ((key s c d).2 p)
 |some s =>
  obtain⟨B,A,D,C⟩:=h;exact⟨B,A,(key s B A).1 D,fun t c d p=>C t c d ((key t c UT).2 p)⟩
end aA
namespace aA
def cN(name:U3):U4 aL->U4 U6->U8
 |[],_=>0
 |e :: r,p=>(if cA name e then e.aH*gA e.aK p else 0)+cN name r p
theorem Jg(name:U3)(l r:U4 aL)(p:U4 U6):cN name (l++r) p=cN name l p+cN name r p:=by
 induction l with
 |nil=>simp[cN]
 |cons e l ih=>simp only[VM,cN,ih];omega
theorem Rg(h:cA name e=Vf):bZ (cN name es) e.aK e.aH=cN name (es++[e]):=by
 funext p
 simp only[bZ,Jg,cN,h,if_true];omega
theorem Jl(h:cA name e=Ve):cN name (es++[e])=cN name es:=by
 funext p
 simp[Jg,cN,h]
theorem tU(name:U3)(p:U4 U6):∀ es:U4 aL,(∀ e∈es,Small e)->0<=cN name es p/\cN name es p<=900*es.length
 |[],_=>by simp[cN]
 |e :: r,h=>by
  have i:=tU name p r (fun x f=>h x (by simp[f]));have s:=h e UU;have b:=vo e.aK p;have g:=s.sl;have c:0<=e.aH*gA e.aK p:=Wb s.u0 b.1;have d:e.aH*gA e.aK p<=9*100:=Int.mul_le_mul s.u1 UT b.1 UT;simp only[cN,V5]
  split <;> omega
theorem Small.pos(h:∀ e∈es,Small e):Pos es:=fun e c=>(h e c).u0
def vz(es:U4 aL):Prop:=∀ e∈es,∀ s∈e.aK,s.1<s.2
theorem vT(name:U3){x:U8}(g:0<=x)(f:x<1048320):∀ es:U4 aL,vz es->oB (cN name es) x=bP name x es
 |[],_=>by
  have:cN name []=fun _=>0:=by funext p;rfl
  rw[this];exact aG.Uq 20 0 1048320 x
 |e :: r,h=>by
  have ih:=vT name g f r (fun z k=>h z (by simp[k]))
  by_cases d:cA name e=Vf
  ·have:cN name (e :: r)=bZ (cN name r) e.aK e.aH:=by funext p;simp only[cN,bZ,d,if_true];omega
   rw[this,IM _ _ _ _ g f (h e UU),ih];simp only[bP,d,if_true];have:((e.aK.filter fun s=>decide (s.1<=x) && decide (x<s.2)).length:U8)=cP e.aK x:=rfl;rw[this,XQ];omega
  ·have c:cA name e=Ve:=by simpa using d
   have:cN name (e :: r)=cN name r:=by funext p;simp[cN,c]
   rw[this,ih];simp[bP,c]
theorem Ry{aH u:U8}(q:∀ e∈es,Small e)(t:vz es)(B:ov L)(C:0<=u)(r:bJ name ts=aH):
  ky (bZ (cN name es) L u) aH L=dG ts es name u L:=by
 have D:∀ p,0<=bZ (cN name es) L u p:=fun p=>by
  have:=(tU name p es q).1;have:=(vo L p).1;have:0<=u*gA L p:=Wb C this;unfold bZ;omega
 have c:∀ x,0<=x->x<1048320->oB (bZ (cN name es) L u) x=bP name x es+cP L x*u:=by
  intro x F E;rw[IM _ _ _ _ F E (fun s q=>(B s q).2.1),vT name F E es t];have:((L.filter fun s=>decide (s.1<=x) && decide (x<s.2)).length:U8)=cP L x:=rfl;rw[this,XQ]
 rw[Xb,ue (Small.pos q) C,r];unfold ky;rw[Xe];constructor
 ·intro h x J;have K:0<(L.filter (hasB x)).length:=by unfold cP at J;omega
  obtain⟨s,g⟩:=XN K;have g:=XE.1 g;have A:=g.2;simp[hasB] at A;have k:=B s g.1;have:=of_decide_eq_true (h s g.1);have m:=(BB D k.1 k.2.1 k.2.2).1 x A.1 A.2;rw[c x UT UT] at m;omega
 ·intro h s d;have k:=B s d;obtain⟨_,x,I,H,G⟩:=BB D k.1 k.2.1 k.2.2;rw[c x UT UT] at G
  have f:0<cP L x:=by
   unfold cP;have:s∈L.filter (hasB x):=XE.2 ⟨d,by simp[hasB,I,H]⟩;have:=List.length_pos_of_mem this;omega
  have:=h x f;exact decide_eq_true UT
theorem QP(k:∀ e∈es,Small e)(d:vz es)(t:0<=a)(q:a<b)(r:b<=1048320):sq (cN name es) (a,b)=lG name es a b:=by
 have m:=BB (A:=cN name es) (s:=(a,b)) (fun p=>(tU name p es k).1) t q r;refine vy.eq (f:=fun x=>bP name x es) (a:=a) (b:=b) ⟨fun x g c=>?_,?_⟩ (UH (Small.pos k) q)
 ·have:=m.1 x g c;rw[vT name UT (by have:x<b:=c;omega) es d] at this;exact this
 ·obtain⟨x,g,c,h⟩:=m.2;rw[vT name (by have:a<=x:=g;omega) (by have:x<b:=c;omega) es d] at h;exact⟨x,g,c,h⟩
def FC:U5 U8->U8
 |none=>-1
 |some s=>s
theorem Ru{aH:U8}{r:U5 U8}(p:∀ e∈es,Small e)(d:vz es)(t:0<=a)(D:b<=1048320)(k:0<=aH)(q:1<=long)(h:qM (aG.dJ (js (cN name es)) 0 1048320) a b long (bJ name ts-aH) r):
  iX ts es name aH long a b=FC r:=by
 obtain⟨A,f⟩:=Pp (ts:=ts) (es:=es) (name:=name) (aH:=aH) (long:=long) (fr:=a) (tq:=b) (Small.pos p) k t q;have u:=Tt h (g:=fun x=>bP name x es) (fun x C B=>vT name UT UT es d);have e:=QG u f;rw[e];generalize iX ts es name aH long a b=R at *;unfold Az
 by_cases c:R<0
 ·rw[Va c];show R=-1;omega
 ·rw[U9 c];rfl
def kept(id:U8)(es:U4 aL):U4 aL:=es.filter fun e=>e.id != id
def cS(e:aL):aL:={ e with kind:=1,bY:=0 }
def dZ(id:U8)(es:U4 aL):U4 aL:=es.map fun e=>if e.id=id then cS e else e
def dB(es:U4 aL):Prop:=(es.map (·.id)).Pairwise (· < ·)
theorem dB.cons{r:U4 aL}(h:dB (e :: r)):(∀ z∈r,e.id<z.id)/\dB r:=by
 unfold dB at h ⊢;rw[XR,VN] at h;exact⟨fun z c=>h.1 z.id (Wk.2 ⟨z,c,rfl⟩),h.2⟩
theorem dB.one(h:dB es):∀ {x y:aL},x∈es->y∈es->x.id=y.id->x=y:=by
 induction es with
 |nil=>intro x y d;simp at d
 |cons e r ih =>
  intro x y d c f;obtain⟨g,k⟩:=h.cons;rcases Vz.1 d with d|d
  ·rcases Vz.1 c with c|c
   ·rw[d,c]
   ·have:=g y c;rw[d] at f;omega
  ·rcases Vz.1 c with c|c
   ·have:=g x d;rw[c] at f;omega
   ·exact ih k d c f
theorem BV(h:∀ e∈es,e.id≠id):kept id es=es:=XF.2 (fun e c=>by simp[h e c])
theorem yx{id:U8}:∀ {es:U4 aL},(∀ e∈es,e.id≠id)->dZ id es=es
 |[],_=>rfl
 |e :: r,h=>by
  have i:=yx (id:=id) (es:=r) (fun z c=>h z (by simp[c]));unfold dZ at i ⊢;rw[XR,i,U9 (h e UU)]
theorem Sf(es:U4 aL):(dZ id es).map (·.id)=es.map (·.id):=by
 unfold dZ;rw[List.map_map];apply List.map_congr_left;intro e _;show (if e.id=id then cS e else e).id=e.id
 split <;> rfl
theorem Ui(h:dB es):dB (dZ id es):=by
 unfold dB at *;rw[Sf];exact h
theorem Cb{name:U3}{e:aL}(d:cA name e=Vf):∀ {es:U4 aL},dB es->e∈es->bZ (cN name es) e.aK (-e.aH)=cN name (kept e.id es)
 |[],_,h=>by simp at h
 |z :: r,hi,h=>by
  obtain⟨t,q⟩:=hi.cons
  funext p
  by_cases c:z.id=e.id
  ·have u:e=z:=hi.one h UU c.symm;subst u
   have:kept e.id (e :: r)=r:=by
    have k:=BV (id:=e.id) (es:=r) (fun y f=>by have:=t y f;omega);unfold kept at k ⊢;rw[VP,U9 UU,k]
   rw[this];simp only[bZ,cN,d,if_true];rw[Int.neg_mul];omega
  ·have g:e∈r:=by
    rcases Vz.1 h with rfl|h
    ·exact Vb rfl c
    ·exact h
   have i:=congrFun (Cb d q g) p
   have:kept e.id (z :: r)=z :: kept e.id r:=by
    unfold kept;rw[VP,Va (by simpa using c)]
   rw[this];simp only[bZ,cN] at i ⊢;omega
theorem CI{name:U3}{id:U8}:∀ {es:U4 aL},(∀ e∈es,e.id=id->cA name e=Ve)->cN name (kept id es)=cN name es
 |[],_=>rfl
 |z :: r,h=>by
  have i:=CI (name:=name) (id:=id) (es:=r) (fun y d=>h y (by simp[d]))
  funext p
  have i:=congrFun i p;unfold kept at i ⊢;rw[VP]
  by_cases c:z.id=id
  ·rw[U9 (by simp[c])];simp only[cN,h z UU c,Vw,if_false];rw[i];omega
  ·rw[Va (by simpa using c)];simp only[cN,i]
theorem v7:cA name (cS e)=bW e.aT name:=by
 simp[cA,cS]
theorem Jh{name:U3}{e:aL}(d:bW e.aT name=Vf)(f:e.kind=3):∀ {es:U4 aL},dB es->e∈es->bZ (cN name es) e.aK e.aH=cN name (dZ e.id es)
 |[],_,h=>by simp at h
 |z :: r,hi,h=>by
  obtain⟨A,u⟩:=hi.cons
  funext p
  by_cases c:z.id=e.id
  ·have B:e=z:=hi.one h UU c.symm;subst B
   have:dZ e.id (e :: r)=cS e :: r:=by
    have k:=yx (id:=e.id) (es:=r) (fun y q=>by have:=A y q;omega);unfold dZ at k ⊢;rw[XR,Va rfl,k]
   rw[this];have g:cA name e=Ve:=by simp[cA,f]
   simp only[bZ,cN,g,v7,d,if_true,Vw,if_false];show 0+cN name r p+e.aH*gA e.aK p=e.aH*gA e.aK p+cN name r p;omega
  ·have t:e∈r:=by
    rcases Vz.1 h with rfl|h
    ·exact Vb rfl c
    ·exact h
   have i:=congrFun (Jh d f u t) p
   have:dZ e.id (z :: r)=z :: dZ e.id r:=by
    unfold dZ;rw[XR,U9 c]
   rw[this];simp only[bZ,cN] at i ⊢;omega
theorem JC{name:U3}{id:U8}:∀ {es:U4 aL},(∀ e∈es,e.id=id->bW e.aT name=Vf->e.kind≠3)->cN name (dZ id es)=cN name es
 |[],_=>rfl
 |z :: r,h=>by
  have i:=JC (name:=name) (id:=id) (es:=r) (fun y d=>h y (by simp[d]))
  funext p
  have i:=congrFun i p;unfold dZ at i ⊢;rw[XR];simp only[cN,i]
  by_cases c:z.id=id
  ·rw[Va c,v7]
   have e:cA name z=bW z.aT name:=by
    unfold cA
    cases f:bW z.aT name
    ·rfl
    ·have:=h z UU c f;simp[this]
   rw[e];rfl
  ·rw[U9 c]
theorem sJ:e∈kept id es↔e∈es/\e.id≠id:=by simp[kept]
theorem wb:e∈dZ id es↔(e∈es/\e.id≠id)\/∃ z∈es,z.id=id/\e=cS z:=by
 unfold dZ;rw[Wk];constructor
 ·rintro ⟨z,d,h⟩
  by_cases c:z.id=id
  ·rw[Va c] at h;exact .inr ⟨z,d,c,h.symm⟩
  ·rw[U9 c] at h;subst h;exact .inl ⟨d,c⟩
 ·rintro (⟨g,f⟩|⟨z,d,g,f⟩)
  ·exact⟨e,g,U9 f⟩
  ·exact⟨z,d,by rw[Va g,f]⟩
end aA
namespace aA
def jI(a b:U8)(s:U8 × U8):U6:=decide (s.1<b) && decide (a<s.2)
def fo(a b:U8):U4 (U8 × U8)->U8
 |[]=>-1
 |s :: r=>if jI a b s then s.1 else fo a b r
end aA
theorem Ap(x:aA.aL × U7 × U7)(fr til:U8)(w:Vg)(h:fW w x.2.1 x.1.aK)(F:x.1.aK.length<=100000):
  Vj prog 266 #[.agg (dN x).toArray,.int .i64 fr,.int .i64 til] w fun e w'=>e=.returned (.int .i64 (aA.fo fr til x.1.aK))/\Vi w.heap.size w w':=by
 have E:=aC h;clear h;simp only[dN]
 go_in
 go_wp2_with fail
 have q:Vi w.heap.size w (w.alloc (.cells #[.int .i64 x.1.id,.int .i64 x.1.kind,.string x.1.aT,.int .i64 x.1.aH,.slice (Vd ⟨x.2.1,0,Vc⟩) x.1.aK.length x.2.2,.int .i64 x.1.bY] 58)):=(zr _ _).alloc (zq _) _;have t:(w.alloc (.cells #[.int .i64 x.1.id,.int .i64 x.1.kind,.string x.1.aT,.int .i64 x.1.aH,.slice (Vd ⟨x.2.1,0,Vc⟩) x.1.aK.length x.2.2,.int .i64 x.1.bY] 58)).cell? ⟨w.heap.size,4,Vc⟩=Vd (.slice (Vd ⟨x.2.1,0,Vc⟩) x.1.aK.length x.2.2):=UU
 have g:=aC (zA (E.out.later q) q);clear q;generalize (World.alloc w _)=X at t g ⊢;generalize w.heap.size=N at t ⊢
 go_loop [7] (fun i=>∃ k:U7,k<=x.1.aK.length/\i=.int .i64 k/\aA.fo fr til x.1.aK=aA.fo fr til (x.1.aK.drop k)) (fun i=>x.1.aK.length-(intOf i).toNat)
 case atStart=>exact⟨0,Wg _,rfl,rfl⟩
 case round =>
  obtain⟨k,G,rfl,B⟩:=hrel;have p:=aC B;clear B
  by_cases f:k<x.1.aK.length
  ·obtain⟨c1,c2⟩:=g.out.1 k f;have D:(k:U8)<(x.1.aK.length:U8):=UT
   have C:aA.fo fr til (x.1.aK.drop k)=if aA.jI fr til x.1.aK[k] then x.1.aK[k].1 else aA.fo fr til (x.1.aK.drop (k+1)):=by rw[WN f];rfl
   have r:=aC C;clear C
   by_cases A:x.1.aK[k].1<til
   ·by_cases u:fr<x.1.aK[k].2
    ·have c:Hid (aA.fo fr til x.1.aK=x.1.aK[k].1):=by
      show _=_;have d:aA.jI fr til x.1.aK[k]=Vf:=by simp[aA.jI,A,u]
      rw[p.out,r.out,d];rfl
     go_wp2
     go_ret;exact⟨gK c.out.symm,g.out.2⟩
    ·have c:Hid (aA.fo fr til x.1.aK=aA.fo fr til (x.1.aK.drop (k+1))):=by
      show _=_;have d:aA.jI fr til x.1.aK[k]=Ve:=by simp[aA.jI,u]
      rw[p.out,r.out,d];rfl
     go_wp2
     go_round
     case rel=>exact⟨k+1,by omega,by go_num,c.out⟩
     case measure=>simp[intOf];omega
   ·have c:Hid (aA.fo fr til x.1.aK=aA.fo fr til (x.1.aK.drop (k+1))):=by
     show _=_;have d:aA.jI fr til x.1.aK[k]=Ve:=by simp[aA.jI,A]
     rw[p.out,r.out,d];rfl
    go_wp2
    go_round
    case rel=>exact⟨k+1,by omega,by go_num,c.out⟩
    case measure=>simp[intOf];omega
  ·have e:x.1.aK.drop k=[]:=WQ UT;have c:Hid (aA.fo fr til x.1.aK=-1):=by show _=_;rw[p.out,e];rfl
   have D:¬ (k:U8)<(x.1.aK.length:U8):=UT
   clear e
   go_wp2
   go_ret;exact⟨gK c.out.symm,g.out.2⟩
theorem vh:(prog.info? 60).map (fun i=>(i.zero,i.size,i.bytes))=Vd (Vd (.agg #[.int .i64 0,.int .i64 0]),2,16):=UY
def iE(s:U8 × U8):U4 Vh:=[.int .i64 s.1,.int .i64 s.2]
theorem uY(L:U4 (U8 × U8)):(L.flatMap iE).length=L.length*2:=by
 induction L with
 |nil=>rfl
 |cons x xs ih=>simp only[Wu,V4,V5,ih,iE,List.length_nil];omega
theorem Mc(L:U4 (U8 × U8)):∀ (j:U7)(u:Vh),(L.flatMap iE)[j]?=Vd u->∃ i,∃ h:i<L.length,(j=i*2/\u=.int .i64 L[i].1)\/(j=i*2+1/\u=.int .i64 L[i].2):=by
 intro j u d
 have p:j<L.length*2:=by
  have:=(List.getElem?_eq_some_iff.1 d).1
  rwa [uY] at this
 have k:j / 2<L.length:=UT
 refine⟨j / 2,k,?_⟩;have c:L=L.take (j / 2)++L[j / 2] :: L.drop (j / 2+1):=by rw[Wv,Wa]
 have f:((L.take (j / 2)).flatMap iE).length=j / 2*2:=by rw[uY,Wx UT]
 rw[c,Ww,Wu,Wy UT,f,Ws (by simp[iE];omega)] at d;rcases (show j % 2=0\/j % 2=1 by omega) with e|e
 ·have g:j-j / 2*2=0:=UT
  rw[g] at d;simp[iE] at d;exact .inl ⟨by omega,d.symm⟩
 ·have g:j-j / 2*2=1:=UT
  rw[g] at d;simp[iE] at d;exact .inr ⟨by omega,d.symm⟩
theorem zO{f g cap:U7}(h:w.ownsRow f 60 2 (.slice (Vd ⟨g,0,Vc⟩) n cap) n (L.flatMap iE)):n=L.length/\fW w g L:=by
 have B:=h.1;rw[uY] at B;have A:n=L.length:=UT
 refine⟨A,fun i H=>?_⟩;rcases h.2 with ⟨E,_⟩|⟨N,q,p,r,I,C,M,K,J,D⟩
 ·cases E
 ·cases r
  have key:∀ (j:U7) (u:Vh),j<2->(iE L[i])[j]?=Vd u->w.cell? ⟨g,i*2+j,Vc⟩=Vd u:=by
   intro j u G t
   have F:(L.flatMap iE)[i*2+j]?=Vd u:=by
    have c:L=L.take i++L[i] :: L.drop (i+1):=by rw[Wv,Wa]
    rw[c,Ww,Wu];have d:((L.take i).flatMap iE).length=i*2:=by rw[uY,Wx UT]
    rw[Wy UT,d,Nat.add_sub_cancel_left,Ws (by simp[iE];omega)];exact t
   have k:(p.toList.take (n*2))[i*2+j]?=Vd u:=by rw[D];exact F
   rw[List.getElem?_take_of_lt UT] at k;simp only[Array.getElem?_toList] at k;simp[VK,C,k]
  exact⟨key 0 _ UT rfl,key 1 _ UT rfl⟩
theorem rP{b:U7}{t:Vl}(h:w.heap[b]?=Vd (.cells #[c0,c1,c2,c3,c4,c5] t)):w.cell? ⟨b,0,Vc⟩=Vd c0:=by simp[VK,h]
theorem ta{b:U7}{t:Vl}(h:w.heap[b]?=Vd (.cells #[c0,c1,c2,c3,c4,c5] t)):w.cell? ⟨b,1,Vc⟩=Vd c1:=by simp[VK,h]
theorem rQ{b:U7}{t:Vl}(h:w.heap[b]?=Vd (.cells #[c0,c1,c2,c3,c4,c5] t)):w.cell? ⟨b,2,Vc⟩=Vd c2:=by simp[VK,h]
theorem rR{b:U7}{t:Vl}(h:w.heap[b]?=Vd (.cells #[c0,c1,c2,c3,c4,c5] t)):w.cell? ⟨b,3,Vc⟩=Vd c3:=by simp[VK,h]
theorem rS{b:U7}{t:Vl}(h:w.heap[b]?=Vd (.cells #[c0,c1,c2,c3,c4,c5] t)):w.cell? ⟨b,4,Vc⟩=Vd c4:=by simp[VK,h]
theorem tc{b:U7}{t:Vl}(h:w.heap[b]?=Vd (.cells #[c0,c1,c2,c3,c4,c5] t)):w.cell? ⟨b,5,Vc⟩=Vd c5:=by simp[VK,h]
theorem uH{b:U7}{cs:Array Vh}{t:Vl}(h:w.heap[b]?=Vd (.cells cs t)):∀ o,w.frozen? ⟨b,o,Vc⟩=Ve:=fun o=>by simp[World.frozen?,h]
theorem MF{X:Vg}{N:U7}{d o2:Obj}(c:X.grownBy w1 (Value.slice Vc 0 0).ownBlock)(f:N+1<X.heap.size)(h:X.heap[N]?=Vd d)(g:X.heap[N+1]?=Vd o2):w1.heap[N]?=Vd d/\w1.heap[N+1]?=Vd o2 :=
 ⟨(c.block N UT U2).trans h,(c.block (N+1) f U2).trans g⟩
theorem MD(x:aA.aL × U7 × U7)(w:Vg)(h:fW w x.2.1 x.1.aK)(K:0<x.1.aK.length)(hl:x.1.aK.length<=1000):
  Vj prog 238 #[.agg (dN x).toArray] w fun e w'=>∃ g cap,e=.returned (.agg (dN (x.1,g,cap)).toArray)/\fW w' g x.1.aK/\w.heap.size<=g/\g<w'.heap.size/\Vi w.heap.size w w':=by
 obtain⟨i0,M,F,E,D⟩:=info_parts vh;have W:=aC h;clear h;simp only[dN]
 go_in
 go_upto_region 2 with fail
 have C:Vi w.heap.size w ((w.alloc (.cells #[.int .i64 x.1.id,.int .i64 x.1.kind,.string x.1.aT,.int .i64 x.1.aH,.slice (Vd ⟨x.2.1,0,Vc⟩) x.1.aK.length x.2.2,.int .i64 x.1.bY] 58)).alloc (.cells #[.int .i64 0,.int .i64 0,.string ⟨#[]⟩,.int .i64 0,.slice Vc 0 0,.int .i64 0] 58)):=((zr _ _).alloc (zq _) _).alloc UU _;have G:((w.alloc (.cells #[.int .i64 x.1.id,.int .i64 x.1.kind,.string x.1.aT,.int .i64 x.1.aH,.slice (Vd ⟨x.2.1,0,Vc⟩) x.1.aK.length x.2.2,.int .i64 x.1.bY] 58)).alloc (.cells #[.int .i64 0,.int .i64 0,.string ⟨#[]⟩,.int .i64 0,.slice Vc 0 0,.int .i64 0] 58)).heap.size=w.heap.size+2:=UU
 have f:∀ j u,(x.1.aK.flatMap iE)[j]?=Vd u->((w.alloc (.cells #[.int .i64 x.1.id,.int .i64 x.1.kind,.string x.1.aT,.int .i64 x.1.aH,.slice (Vd ⟨x.2.1,0,Vc⟩) x.1.aK.length x.2.2,.int .i64 x.1.bY] 58)).alloc (.cells #[.int .i64 0,.int .i64 0,.string ⟨#[]⟩,.int .i64 0,.slice Vc 0 0,.int .i64 0] 58)).cell? ((⟨x.2.1,0,Vc⟩:Addr).add j)=Vd u:=by
  intro j u H
  have ea:∀ j:U7,((⟨x.2.1,0,Vc⟩:Addr).add j)=⟨x.2.1,j,Vc⟩:=by
   intro j;unfold Addr.add;split
   ·rename_i h;subst h;rfl
   ·simp
  rw[ea];obtain⟨i,T,(⟨rfl,rfl⟩|⟨rfl,rfl⟩)⟩:=Mc _ j u H
  ·exact aN C (W.out i T).1
  ·exact aN C (W.out i T).2
 have R:((w.alloc (.cells #[.int .i64 x.1.id,.int .i64 x.1.kind,.string x.1.aT,.int .i64 x.1.aH,.slice (Vd ⟨x.2.1,0,Vc⟩) x.1.aK.length x.2.2,.int .i64 x.1.bY] 58)).alloc (.cells #[.int .i64 0,.int .i64 0,.string ⟨#[]⟩,.int .i64 0,.slice Vc 0 0,.int .i64 0] 58)).heap[w.heap.size]?=Vd (.cells #[.int .i64 x.1.id,.int .i64 x.1.kind,.string x.1.aT,.int .i64 x.1.aH,.slice (Vd ⟨x.2.1,0,Vc⟩) x.1.aK.length x.2.2,.int .i64 x.1.bY] 58) :=
  (Below.heap_alloc _ _ _ UU).trans (cC _ _)
 have U:((w.alloc (.cells #[.int .i64 x.1.id,.int .i64 x.1.kind,.string x.1.aT,.int .i64 x.1.aH,.slice (Vd ⟨x.2.1,0,Vc⟩) x.1.aK.length x.2.2,.int .i64 x.1.bY] 58)).alloc (.cells #[.int .i64 0,.int .i64 0,.string ⟨#[]⟩,.int .i64 0,.slice Vc 0 0,.int .i64 0] 58)).heap[w.heap.size+1]?=Vd (.cells #[.int .i64 0,.int .i64 0,.string ⟨#[]⟩,.int .i64 0,.slice Vc 0 0,.int .i64 0] 58):=by
  have:=cC (w.alloc (.cells #[.int .i64 x.1.id,.int .i64 x.1.kind,.string x.1.aT,.int .i64 x.1.aH,.slice (Vd ⟨x.2.1,0,Vc⟩) x.1.aK.length x.2.2,.int .i64 x.1.bY] 58)) (.cells #[.int .i64 0,.int .i64 0,.string ⟨#[]⟩,.int .i64 0,.slice Vc 0 0,.int .i64 0] 58)
  rwa [WW] at this
 have V:=aC f;have q:=aC (zA C (zA G (zA R U)));have Y:((w.alloc (.cells #[.int .i64 x.1.id,.int .i64 x.1.kind,.string x.1.aT,.int .i64 x.1.aH,.slice (Vd ⟨x.2.1,0,Vc⟩) x.1.aK.length x.2.2,.int .i64 x.1.bY] 58)).alloc (.cells #[.int .i64 0,.int .i64 0,.string ⟨#[]⟩,.int .i64 0,.slice Vc 0 0,.int .i64 0] 58)).cell? ⟨w.heap.size,4,Vc⟩=Vd (.slice (Vd ⟨x.2.1,0,Vc⟩) x.1.aK.length x.2.2):=by simp[VK,R]
 clear C G f R U;generalize ((w.alloc (.cells #[.int .i64 x.1.id,.int .i64 x.1.kind,.string x.1.aT,.int .i64 x.1.aH,.slice (Vd ⟨x.2.1,0,Vc⟩) x.1.aK.length x.2.2,.int .i64 x.1.bY] 58)).alloc (.cells #[.int .i64 0,.int .i64 0,.string ⟨#[]⟩,.int .i64 0,.slice Vc 0 0,.int .i64 0] 58))=X at V q Y ⊢
 go_wp2_with (first
  |(at_builtin;refine wpList_append_lies _ rfl _ _ 56 rfl w.heap.size 60 i0 _ 2 16 underlying56 M F E D rfl UV (.slice Vc 0 0) 0 [] rfl (World.ownsRow_nil _ _ _ _) ⟨x.2.1,0,Vc⟩ x.1.aK.length x.2.2 (x.1.aK.flatMap iE) rfl (uY _) V.out (by intro u H;obtain⟨s,_,S⟩:=List.mem_flatMap.1 H;simp[iE] at S;rcases S with rfl|rfl <;> rfl) K U0 UT (by have:=q.out.2.1;omega) X.heap.size rfl ?_;intro g cap w1 I p O J;obtain⟨t,r⟩:=MF p (by have:=q.out.2.1;omega) q.out.2.2.1 q.out.2.2.2;have b0:=rP t;have b1:=ta t;have b2:=rQ t;have b3:=rR t;have b5:=tc t;have b4:=rS t;have g4:=uH t;have r0:=rP r;have r1:=ta r;have r2:=rQ r;have r3:=rR r;have r4:=rS r;have Z:=tc r;have rf:=uH r))
 have hg:g=X.heap.size:=by
  rcases O with e|e
  ·simp[WH] at e
  ·exact e
 have G:=q.out.2.1;have A:w1.ownsRow w.heap.size 60 2 (.slice (Vd ⟨g,0,Vc⟩) x.1.aK.length cap) x.1.aK.length (x.1.aK.flatMap iE):=by simpa using I
 have d:Vi w.heap.size w w1:=q.out.1.grown p q.out.1.size (fun k B=>by simp[WH] at B)
 have c:aF [w.heap.size,w.heap.size+1] w1 (((((((w1.setCell ⟨w.heap.size,4,Vc⟩ (.slice (Vd ⟨g,0,Vc⟩) x.1.aK.length cap)).setCell ⟨w.heap.size+1,0,Vc⟩ (.int .i64 x.1.id)).setCell ⟨w.heap.size+1,1,Vc⟩ (.int .i64 x.1.kind)).setCell ⟨w.heap.size+1,2,Vc⟩ (.string x.1.aT)).setCell ⟨w.heap.size+1,3,Vc⟩ (.int .i64 x.1.aH)).setCell ⟨w.heap.size+1,4,Vc⟩ (.slice (Vd ⟨g,0,Vc⟩) x.1.aK.length cap)).setCell ⟨w.heap.size+1,5,Vc⟩ (.int .i64 x.1.bY)) :=
  (((((((aF.refl _ w1).setCell (.inl UU) _ _).setCell (.inl UU) _ _).setCell (.inl UU) _ _).setCell (.inl UU) _ _).setCell (.inl UU) _ _).setCell (.inl UU) _ _).setCell (.inl UU) _ _
 have N:Vi w.heap.size w (((((((w1.setCell ⟨w.heap.size,4,Vc⟩ (.slice (Vd ⟨g,0,Vc⟩) x.1.aK.length cap)).setCell ⟨w.heap.size+1,0,Vc⟩ (.int .i64 x.1.id)).setCell ⟨w.heap.size+1,1,Vc⟩ (.int .i64 x.1.kind)).setCell ⟨w.heap.size+1,2,Vc⟩ (.string x.1.aT)).setCell ⟨w.heap.size+1,3,Vc⟩ (.int .i64 x.1.aH)).setCell ⟨w.heap.size+1,4,Vc⟩ (.slice (Vd ⟨g,0,Vc⟩) x.1.aK.length cap)).setCell ⟨w.heap.size+1,5,Vc⟩ (.int .i64 x.1.bY)) :=
  ⟨c.os.trans d.os,c.tape.trans d.tape,c.output.trans d.output,Vp d.size c.size,fun k B=>(c.block k (zL B d.size) UZ).trans (d.block k B)⟩
 refine bodyPost_ret (v:=.agg #[.int .i64 x.1.id,.int .i64 x.1.kind,.string x.1.aT,.int .i64 x.1.aH,.slice (Vd ⟨g,0,Vc⟩) x.1.aK.length cap,.int .i64 x.1.bY]) (by simp[results,results238,go_sem,r0,r1,r2,r3,r4,Z]) rfl ⟨g,cap,rfl,(zO A).2.off c UZ,by omega,Wj J c.size,N⟩
namespace aA
def kh(name:U3)(a b:U8)(e:aL):U6:=cA name e && decide (0<=fo a b e.aK)
end aA
structure nJ(w wx:Vg)(v:Vh)(ys:U4 (aA.aL × U7 × U7)):Prop where
 own:wx.ownsRow w.heap.size 58 6 v ys.length (ys.flatMap dN)
 sl:∀ y∈ys,fW wx y.2.1 y.1.aK/\w.heap.size<=y.2.1/\y.2.1<wx.heap.size/\v.ownBlock≠Vd y.2.1
 bw:Vi w.heap.size w wx
theorem nJ.later{wx d:Vg}{ys:U4 (aA.aL × U7 × U7)}(h:nJ w wx v ys)(k:Vi wx.heap.size wx d):nJ w d v ys :=
 ⟨eu h.own k,fun y c=>⟨(h.sl y c).1.later k,(h.sl y c).2.1,Wj (h.sl y c).2.2.1 k.size,(h.sl y c).2.2.2⟩,bA h.bw k (zq _)⟩
namespace cH
def before(fs:U4 U8)(k i:U7):U6:=decide (fs.getD k 0<fs.getD i 0) || (decide (fs.getD k 0=fs.getD i 0) && decide (k<i))
def upto(fs:U4 U8)(i n:U7):U7:=((XS n).filter (fun k=>before fs k i)).length
def kf(fs:U4 U8)(i:U7):U7:=upto fs i fs.length
theorem uX(fs:U4 U8)(i n:U7):upto fs i (n+1)=upto fs i n+if before fs n i then 1 else 0:=by
 unfold upto;rw[List.range_succ,List.filter_append,V4]
 cases h:before fs n i <;> simp[h]
theorem Fe(fs:U4 U8)(i:U7):before fs i i=Ve:=by simp[before]
theorem Nc{a b c:U7}(h:before fs a b=Vf)(k:before fs b c=Vf):before fs a c=Vf:=by
 simp[before] at *;omega
theorem E0(fs:U4 U8){a b:U7}(h:a≠b):before fs a b=Vf\/before fs b a=Vf:=by
 simp[before];omega
theorem zX(fs:U4 U8)(i:U7):∀ n,upto fs i n<=n
 |0=>by simp[upto]
 |n+1=>by have:=zX fs i n;rw[uX];split <;> omega
theorem DM(fs:U4 U8){i:U7}:∀ {n},i<n->upto fs i n<n
 |0,h=>by omega
 |n+1,h=>by
  rw[uX]
  by_cases e:i=n
  ·subst e;rw[Fe];have:=zX fs i i;simp;omega
  ·have:=DM fs (i:=i) (n:=n) UT
   split <;> omega
theorem zV(fs:U4 U8)(h:i<fs.length):kf fs i<fs.length:=DM fs h
theorem Ex{fs:U4 U8}{i j:U7}(h:before fs i j=Vf):∀ n,upto fs i n+(if i<n then 1 else 0)<=upto fs j n
 |0=>by simp[upto]
 |n+1=>by
  have ih:=Ex h n;rw[uX,uX]
  by_cases e:n=i
  ·subst e;rw[Fe,h];simp at ih ⊢;omega
  ·have f:(if i<n+1 then 1 else 0:U7)=(if i<n then 1 else 0):=by
    by_cases c:i<n
    ·rw[Va c,Va UT]
    ·rw[U9 c,U9 UT]
   rw[f];generalize (if i<n then 1 else 0:U7)=q at ih ⊢
   cases d:before fs n i
   ·simp only[Vw,if_false]
    split <;> omega
   ·rw[Nc d h];simp only[if_true];omega
theorem Ao(c:i<fs.length)(h:before fs i j=Vf):kf fs i<kf fs j:=by
 have:=Ex h fs.length;rw[Va c] at this;exact this
theorem Af(f:i<fs.length)(d:j<fs.length)(h:kf fs i=kf fs j):i=j:=by
 by_cases e:i=j
 ·exact e
 ·rcases E0 fs e with c|c
  ·have:=Ao f c;omega
  ·have:=Ao d c;omega
end cH
theorem zE:∀ (n:U7)(l:U4 U7),l.Nodup->(∀ x∈l,x<n)->l.length<=n
 |0,l,_,h=>by
  cases l with
  |nil=>simp
  |cons x l=>have:=h x UU;omega
 |n+1,l,hd,h=>by
  by_cases c:n∈l
  ·have p:(l.erase n).length<=n:=zE n (l.erase n) (hd.erase n) (fun x d=>by
    have k:=List.mem_of_mem_erase d;have g:=h x k;have f:x≠n:=fun e=>by subst e;exact hd.not_mem_erase d
    omega)
   rw[List.length_erase_of_mem c] at p;omega
  ·have:=zE n l hd (fun x d=>by
    have g:=h x d;have f:x≠n:=fun e=>by subst e;exact c d
    omega)
   omega
theorem MO{l:U4 U7}(g:l.Nodup)(h:∀ x∈l,x<n)(p:l.length=n):∀ k,k<n->k∈l:=by
 intro k f;apply XC;intro c
 have:=zE n (k :: l) (List.nodup_cons.2 ⟨c,g⟩) (fun x d=>by
  rcases Vz.1 d with rfl|d
  ·exact f
  ·exact h x d)
 simp at this;omega
namespace cH
theorem wV(fs:U4 U8){k:U7}(g:k<fs.length):∃ i,i<fs.length/\kf fs i=k:=by
 have p:((XS fs.length).map (kf fs)).Nodup:=by
  unfold XT;rw[XU];refine XV ?_ (List.nodup_range (n:=fs.length));intro i j c h d e;exact d (Af (XW.1 c) (XW.1 h) e)
 have:=MO p (fun x f=>by
  obtain⟨i,c,rfl⟩:=Wk.1 f
  exact zV fs (XW.1 c)) UU k g
 obtain⟨i,c,e⟩:=Wk.1 this;exact⟨i,XW.1 c,e⟩
end cH
namespace aA
def lK(a b:U8)(x y:aL):Prop:=fo a b x.aK<fo a b y.aK\/(fo a b x.aK=fo a b y.aK/\x.id<y.id)
theorem RT(a b:U8)(x:aL):¬ lK a b x x:=by unfold lK;omega
theorem Ho(a b:U8)(x y z:aL)(h:lK a b x y)(k:lK a b y z):lK a b x z:=by unfold lK at *;omega
def nK(a b:U8)(l:U4 aL):U4 U8:=l.map fun e=>fo a b e.aK
theorem As{l:U4 aL}(h:i<l.length):(nK a b l).getD i 0=fo a b l[i].aK:=by
 simp[nK,List.getD,h]
theorem Mw{l out:U4 aL}(u:dB l)(D:out.length=l.length)(h:∀ (i:U7)(c:i<l.length),out[cH.kf (nK a b l) i]?=Vd l[i]):out.Pairwise (lK a b)/\∀ e,e∈out↔e∈l:=by
 have H:(nK a b l).length=l.length:=by simp[nK]
 have d:∀ (k:U7),k<out.length->∃ (i:U7) (c:i<l.length),cH.kf (nK a b l) i=k/\out[k]?=Vd l[i]:=by
  intro k t;obtain⟨i,c,e⟩:=cH.wV (nK a b l) (k:=k) UT;rw[H] at c;exact⟨i,c,e,by rw[<- e];exact h i c⟩
 refine⟨?_,fun e=>⟨fun A=>?_,fun A=>?_⟩⟩
 ·rw[XX];intro p q C B G;obtain⟨i,c,K,g⟩:=d p C;obtain⟨j,E,J,F⟩:=d q B;rw[Xa C] at g;rw[Xa B] at F;rw[WX g,WX F];have r:i≠j:=fun e=>by subst e;omega
  rcases cH.E0 (nK a b l) r with f|f
  ·unfold cH.before at f;rw[As c,As E] at f;simp at f;rcases f with f|⟨f,I⟩
   ·exact .inl f
   ·refine .inr ⟨f,?_⟩;have:=XX.1 u i j (by simpa using c) (by simpa using E) I
    simpa using this
  ·have:=cH.Ao (fs:=nK a b l) UT f;omega
 ·obtain⟨k,t,rfl⟩:=XY A;obtain⟨i,c,_,g⟩:=d k t;rw[Xa t] at g;rw[WX g];exact zg c
 ·obtain⟨i,c,rfl⟩:=XY A;exact List.mem_of_getElem? (h i c)
def gI(L:U4 (U8 × U8)):Prop:=L.Pairwise fun s t=>s.1<t.1
theorem BO{a b:U8}:∀ {L:U4 (U8 × U8)},gI L->(∃ s∈L,jI a b s=Vf)->(∃ s∈L,jI a b s=Vf/\s.1=fo a b L)/\∀ t∈L,jI a b t=Vf->fo a b L<=t.1
 |[],_,h=>by obtain⟨s,B,_⟩:=h;simp at B
 |s :: r,hr,h=>by
  unfold gI at hr;rw[VN] at hr;simp only[fo]
  by_cases c:jI a b s=Vf
  ·rw[Va c];refine⟨⟨s,by simp,c,rfl⟩,fun t ht _=>?_⟩;rcases Vz.1 ht with rfl|ht
   ·omega
   ·have:=hr.1 t ht;omega
  ·rw[U9 c]
   have C:∃ s∈r,jI a b s=Vf:=by
    obtain⟨t,ht,k⟩:=h;rcases Vz.1 ht with rfl|ht
    ·exact Vb k c
    ·exact⟨t,ht,k⟩
   obtain⟨⟨t,A,q,p⟩,g⟩:=BO (a:=a) (b:=b) (L:=r) hr.2 C;refine⟨⟨t,by simp[A],q,p⟩,fun u d f=>?_⟩;rcases Vz.1 d with rfl|d
   ·exact Vb f c
   ·exact g u d f
theorem IV{a b:U8}:∀ {L:U4 (U8 × U8)},(∀ s∈L,jI a b s=Ve)->fo a b L=-1
 |[],_=>rfl
 |s :: r,h=>by
  simp only[fo];rw[U9 (by rw[h s UU];simp)];exact IV (fun t ht=>h t (by simp[ht]))
theorem Jo(g:gI L)(p:∀ s∈L,0<=s.1):0<=fo a b L↔∃ s∈L,jI a b s=Vf:=by
 constructor
 ·intro h;apply XC;intro c
  have:fo a b L=-1:=IV (fun s f=>by
   cases k:jI a b s
   ·rfl
   ·exact Vb ⟨s,f,k⟩ c)
  omega
 ·intro h;obtain⟨⟨s,d,_,q⟩,_⟩:=BO g h;have:=p s d;omega
def ub(acc:U4 aE.It)(z:aE.It):U4 aE.It:=if acc.any fun u=>decide (u.n=z.n) then acc else acc++[z]
def uniq(M:U4 aE.It):U4 aE.It:=M.foldl ub []
theorem xW(M:U4 aE.It)(z:aE.It):uniq (M++[z])=ub (uniq M) z:=by unfold uniq;rw[XI];rfl
theorem OY:∀ (n:U7)(M:U4 aE.It),M.length=n->aE.Ord M->aE.Ord (uniq M)/\(∀ u∈uniq M,u∈M)/\(∀ z∈M,∃ u∈uniq M,u.n=z.n/\(u=z\/aE.lt u z))/\((uniq M).map (·.n)).Nodup:=by
 intro n
 induction n with
 |zero =>
  intro M p _;rw[List.length_eq_zero_iff.1 p];exact⟨XZ,by simp[uniq],by simp,by simp[uniq]⟩
 |succ n ih =>
  intro M p g;obtain⟨K,z,rfl⟩:∃ K z,M=K++[z]:=⟨M.dropLast,M.getLast (by intro e;simp[e] at p),(List.dropLast_concat_getLast _).symm⟩;unfold aE.Ord at g;rw[XA] at g;obtain⟨A,h,t,r⟩:=ih K (by simpa using p) g.1;rw[xW];unfold ub
  by_cases c:((uniq K).any fun u=>decide (u.n=z.n))=Vf
  ·rw[Va c];obtain⟨u,d,C⟩:=XH.1 c;refine⟨A,fun u d=>by simp[h u d],fun y f=>?_,r⟩;rcases VA.1 f with f|f
   ·exact t y f
   ·have:y=z:=by simpa using f
    subst this;exact⟨u,d,by simpa using C,.inr (g.2.2 u (h u d) y UU)⟩
  ·rw[U9 c];have q:∀ u∈uniq K,u.n≠z.n:=fun u d e=>c (XH.2 ⟨u,d,by simp[e]⟩)
   refine⟨?_,fun u d=>?_,fun y f=>?_,?_⟩
   ·unfold aE.Ord;rw[XA]
    exact⟨A,by simp,fun u d y f=>by
     have:y=z:=by simpa using f
     subst this
     exact g.2.2 u (h u d) y UU⟩
   ·rcases VA.1 d with d|d
    ·simp[h u d]
    ·simp at d;simp[d]
   ·rcases VA.1 f with f|f
    ·obtain⟨u,d,k⟩:=t y f;exact⟨u,by simp[d],k⟩
    ·have:y=z:=by simpa using f
     subst this;exact⟨y,by simp,rfl,.inl rfl⟩
   ·rw[Wq,List.nodup_append];refine⟨r,by simp,fun x B y f e=>?_⟩;obtain⟨u,d,rfl⟩:=Wk.1 B;simp at f;exact q u d (by rw[e,f])
def gC(name:U3)(es:U4 aL)(at_:U8->U7)(T:aE.S):Prop :=
 aE.Ord (aE.bS T)/\∀ z,z∈aE.bS T↔∃ e∈es,cA name e=Vf/\∃ s∈e.aK,z=⟨s.1,s.2,e.id,at_ e.id⟩
theorem OX{at_:U8->U7}{T:aE.S}(h:gC name es at_ T)(J:dB es)(W:∀ e∈es,gI e.aK)(h0:∀ e∈es,∀ s∈e.aK,0<=s.1){ys:U4 aL}(hl:ys.length=(uniq (aE.meet a b T)).length)(O:∀ (i:U7)(q:i<ys.length),ys[i]∈es/\ys[i].id=((uniq (aE.meet a b T))[i]'UT).n):
  ys.Pairwise (lK a b)/\∀ e,e∈ys↔e∈es.filter (kh name a b):=by
 have hM:=aE.xO a b T h.1;have hO:aE.Ord (aE.meet a b T):=by rw[hM];exact aE.IR _ h.1
 obtain⟨u1,u2,u3,u4⟩:=OY _ (aE.meet a b T) rfl hO
 have B:∀ z,z∈aE.meet a b T↔∃ e∈es,cA name e=Vf/\∃ s∈e.aK,jI a b s=Vf/\z=⟨s.1,s.2,e.id,at_ e.id⟩:=by
  intro z;rw[hM,XE,h.2];constructor
  ·rintro ⟨⟨e,A,F,s,g,rfl⟩,r⟩;exact⟨e,A,F,s,g,r,rfl⟩
  ·rintro ⟨e,A,F,s,g,r,rfl⟩;exact⟨⟨e,A,F,s,g,rfl⟩,r⟩
 -- each item that is kept stands at its entry's first
 have fst:∀ u∈uniq (aE.meet a b T),∀ e∈es,e.id=u.n->cA name e=Vf/\u.f=fo a b e.aK/\∃ s∈e.aK,jI a b s=Vf:=by
  intro u G e d Y;obtain⟨e',A,F,s,g,r,rfl⟩:=(B u).1 (u2 u G);have:e=e':=J.one d A Y;subst this;refine⟨F,?_,s,g,r⟩;obtain⟨⟨t,t1,t2,t3⟩,t4⟩:=BO (W e d) ⟨s,g,r⟩;have aa:=t4 s g r;obtain⟨u',V,N,E⟩:=u3 ⟨t.1,t.2,e.id,at_ e.id⟩ ((B _).2 ⟨e,d,F,t,t1,t2,rfl⟩)
  have I:u'=⟨s.1,s.2,e.id,at_ e.id⟩:=by
   have k:=u4;unfold XT at k;rw[XU] at k;apply XC;intro X;obtain⟨i,q,K⟩:=XY V;obtain⟨j,R,Z⟩:=XY G;have C:i≠j:=fun e=>by subst e;exact X (K.symm.trans Z)
   rcases Nat.lt_or_gt_of_ne C with c|c
   ·have:=XX.1 k i j q R c;rw[K,Z] at this;exact this N
   ·have:=XX.1 k j i R q c;rw[K,Z] at this;exact this N.symm
  subst I;show s.1=_;rcases E with E|E
  ·have:=congrArg aE.It.f E;simp at this;omega
  ·unfold aE.lt at E;simp at E;omega
 have U:∀ u∈uniq (aE.meet a b T),∀ e∈es,e.id=u.n->e∈es.filter (kh name a b):=by
  intro u G e d Y;obtain⟨A,_,g⟩:=fst u G e d Y;exact XE.2 ⟨d,by simp[kh,A,(Jo (W e d) (h0 e d)).2 g]⟩
 refine⟨?_,fun e=>⟨fun d=>?_,fun d=>?_⟩⟩
 ·rw[XX];intro i j q R C;have o:=XX.1 u1 i j UT UT C;obtain⟨M,H⟩:=O i q;obtain⟨b1,b2⟩:=O j R;have f1:=(fst _ (zg UT) _ M H).2.1;have f2:=(fst _ (zg UT) _ b1 b2).2.1;unfold aE.lt at o;unfold lK;rw[<- f1,<- f2,H,b2];exact o
 ·obtain⟨i,q,rfl⟩:=XY d;obtain⟨M,H⟩:=O i q;exact U _ (zg UT) _ M H
 ·obtain⟨p,D⟩:=XE.1 d;simp only[kh,W6,decide_eq_true_eq] at D;obtain⟨s,s1,s2⟩:=(Jo (W e p) (h0 e p)).1 D.2;obtain⟨u,G,N,_⟩:=u3 _ ((B _).2 ⟨e,p,D.1,s,s1,s2,rfl⟩);obtain⟨i,q,K⟩:=XY G;obtain⟨M,H⟩:=O i UT;have:ys[i]'UT=e:=J.one M p (by rw[H,K];exact N);rw[<- this];exact zg _
theorem yk(p:aL->U6)(h:dB es):dB (es.filter p):=by
 unfold dB at *;exact XD (X0 _ List.filter_sublist) h
end aA
namespace aA
theorem Ca{a b:U3}:bW a b=Vf↔a.toList=b.toList:=by simp[bW]
theorem qX(a:U3):bW a a=Vf:=Ca.2 rfl
theorem Jf{a b c:U3}(h:bW a b=Vf):bW c a=bW c b:=by
 unfold bW;rw[Ca.1 h]
def nQ(a b:U8)(x:aL):U4 aL->U4 aL
 |[]=>[x]
 |y :: r=>if fo a b x.aK<fo a b y.aK\/(fo a b x.aK=fo a b y.aK/\x.id<y.id) then x :: y :: r else y :: nQ a b x r
def qK(a b:U8):U4 aL->U4 aL
 |[]=>[]
 |x :: r=>nQ a b x (qK a b r)
theorem Bx{a b:U8}{x z:aL}:∀ {l:U4 aL},z∈nQ a b x l↔z=x\/z∈l
 |[]=>by simp[nQ]
 |y :: r=>by
  simp only[nQ]
  split
  ·simp
  ·rw[Vz,Bx,Vz];constructor
   ·rintro (h|h|h)
    ·exact .inr (.inl h)
    ·exact .inl h
    ·exact .inr (.inr h)
   ·rintro (h|h|h)
    ·exact .inr (.inl h)
    ·exact .inl h
    ·exact .inr (.inr h)
theorem yv{a b:U8}{z:aL}:∀ {l:U4 aL},z∈qK a b l↔z∈l
 |[]=>by simp[qK]
 |x :: r=>by rw[qK,Bx,yv,Vz]
theorem F7{a b:U8}{x:aL}:∀ {l:U4 aL},l.Pairwise (lK a b)->(∀ z∈l,z.id≠x.id)->(nQ a b x l).Pairwise (lK a b)
 |[],_,_=>by simp[nQ]
 |y :: r,h,hn=>by
  rw[VN] at h;simp only[nQ]
  split
  ·rename_i c
   refine VN.2 ⟨fun z d=>?_,VN.2 h⟩;rcases Vz.1 d with rfl|d
   ·exact c
   ·exact Ho a b x y z c (h.1 z d)
  ·rename_i c
   refine VN.2 ⟨fun z d=>?_,F7 h.2 (fun z d=>hn z (by simp[d]))⟩;rcases Bx.1 d with rfl|d
   ·have:=hn y UU;unfold lK;omega
   ·exact h.1 z d
theorem GZ{a b:U8}:∀ {l:U4 aL},dB l->(qK a b l).Pairwise (lK a b)
 |[],_=>by simp[qK]
 |x :: r,h=>by
  obtain⟨f,d⟩:=h.cons;exact F7 (GZ d) (fun z c=>by have:=f z (yv.1 c);omega)
def kS(name:U3)(a b:U8)(es:U4 aL):U4 aL:=qK a b (es.filter (kh name a b))
theorem Hk{out:U4 aL}(c:dB es)(h:out.Pairwise (lK a b))(d:∀ e,e∈out↔e∈es.filter (kh name a b)):out=kS name a b es :=
 CF (RT a b) (Ho a b) h (GZ (yk _ c)) (fun e=>(d e).trans yv.symm)
def dQ(ts:U4 (U3 × U8)):U4 aL->U4 aL->U4 aL × U4 U8
 |done,[]=>(done,[])
 |done,e :: r =>
  if e.kind=3/\dG ts (done++e :: r) e.aT e.aH e.aK=Vf then
   ((dQ ts (done++[cS e]) r).1,e.id :: (dQ ts (done++[cS e]) r).2)
  else dQ ts (done++[e]) r
def ey(ts:U4 (U3 × U8))(es:U4 aL):U4 aL × U4 U8:=dQ ts [] es
def CR(tq:U8):U4 aL->U8
 |[]=>tq
 |e :: r=>if e.kind≠1/\e.bY<CR tq r then e.bY else CR tq r
def nj(t:U8)(e:aL):U6:=(e.kind != 1) && decide (e.bY=t)
def JD(ts:U4 (U3 × U8)):U7->U4 aL->U8->U8->U4 aL × U4 U8 × U4 U8
 |0,es,_,_=>(es,[],[])
 |k+1,es,now,tq =>
  if now<tq then
   let t:=CR tq es
   let g:=ey ts (es.filter fun e=>!nj t e)
   let q:=JD ts k g.1 t tq
   (q.1,(es.filter (nj t)).map (·.id)++q.2.1,g.2++q.2.2)
  else (es,[],[])
structure St where
 ts:U4 (U3 × U8)
 es:U4 aL
 given:U8
 now:U8
structure bO where
 err:U8
 at_:U8
 n:U8
 entries:U4 aL
 days:U4 U8
 granted:U4 U8
 ended:U4 U8
def bO.error(e:U8):bO:=⟨e,0,0,[],[],[],[]⟩
def bO.num(n:U8):bO:=⟨0,0,n,[],[],[],[]⟩
inductive fI where
 |aT (name:U3) (aH:U8)
 |enter (kind:U8) (name:U3) (aH fr til long:U8)
 |series (name:U3) (aH:U8) (r:Rd.bL)
 |confirm (id:U8)
 |cancel (id:U8)
 |list (name:U3) (fr til:U8)
 |waiting
 |cY (name:U3) (fr til:U8)
 |find (name:U3) (aH long fr til:U8)
 |expand (r:Rd.bL)
 |tick (n:U8)
 |clock
def jy(s:St)(e:aL):St × bO:=(⟨s.ts,s.es++[{ e with id:=s.given+1 }],s.given+1,s.now⟩,bO.num (s.given+1))
def rj(s:St)(c:U8)(name:U3)(aH fr til long:U8):U8 :=
 if dH s.ts name aH≠0 then dH s.ts name aH
 else if til<=fr\/1048320<s.now+long then 6
 else if s.given=60 then 5
 else if c=3 then (if eh s.es=6 then 5 else 0)
 else if dG s.ts s.es name aH [(fr,til)] then 0 else 8
def nW(s:St)(c:U8)(name:U3)(aH fr til long:U8):aL:=⟨0,c,name,aH,[(fr,til)],if c=1 then 0 else s.now+long⟩
def mJ(s:St)(name:U3)(aH:U8)(r:Rd.bL):U8 :=
 if dH s.ts name aH≠0 then dH s.ts name aH
 else if Rd.gb r≠0 then Rd.gb r
 else if s.given=60 then 5
 else if dG s.ts s.es name aH (Rd.gd r (Rd.bH r)) then 0 else 8
def nc(id:U8)(es:U4 aL):U5 aL:=es.find? fun e=>decide (e.id=id)
def aU(s:St):fI->St × bO
 |.aT name aH=>if bJ name s.ts≠0 then (s,.error 4) else if s.ts.length=4 then (s,.error 5) else ({ s with ts:=s.ts++[(name,aH)] },.num 0)
 |.enter kind name aH fr til long=>if rj s kind name aH fr til long≠0 then (s,.error (rj s kind name aH fr til long)) else jy s (nW s kind name aH fr til long)
 |.series name aH r=>if mJ s name aH r≠0 then (s,.error (mJ s name aH r)) else jy s ⟨0,1,name,aH,Rd.gd r (Rd.bH r),0⟩
 |.confirm id=>match nc id s.es with
  |none=>(s,.error 9)
  |some e=>if e.kind≠2 then (s,.error 10) else ({ s with es:=dZ id s.es },.num 0)
 |.cancel id=>match nc id s.es with
  |none=>(s,.error 9)
  |some _=>({ s with es:=kept id s.es },.num 0)
 |.list name fr til=>if bJ name s.ts=0 then (s,.error 3) else if til<=fr then (s,.error 6) else (s,{ bO.num 0 with entries:=kS name fr til s.es })
 |.waiting=>(s,{ bO.num 0 with entries:=s.es.filter fun e=>e.kind==3 })
 |.cY name fr til=>if bJ name s.ts=0 then (s,.error 3) else if til<=fr then (s,.error 6) else (s,.num (lG name s.es fr til))
 |.find name aH long fr til=>if dH s.ts name aH≠0 then (s,.error (dH s.ts name aH)) else if til<=fr then (s,.error 6) else (s,.num (iX s.ts s.es name aH long fr til))
 |.expand r=>if Rd.gb r≠0 then (s,.error (Rd.gb r)) else (s,{ bO.num (Rd.bH r).length with days:=Rd.bH r })
 |.tick n=>if 1048320<s.now+n then (s,.error 6) else
   let q:=JD s.ts (s.es.length+1) s.es s.now (s.now+n)
   ({ s with es:=q.1,now:=s.now+n },{ bO.num (s.now+n) with granted:=q.2.2,ended:=q.2.1 })
 |.clock=>(s,.num s.now)
def ie(s:St)(l:fI):St × bO :=
 if (aU s l).2.err≠0 then aU s l
 else ({ (aU s l).1 with es:=(ey (aU s l).1.ts (aU s l).1.es).1 },{ (aU s l).2 with granted:=(aU s l).2.granted++(ey (aU s l).1.ts (aU s l).1.es).2 })
def jz:fI->Prop
 |.aT _ u=>1<=u/\u<=9
 |.enter k _ u fr til long=>(k=1/\long=0\/(k=2\/k=3)/\1<=long/\long<=1048320)/\1<=u/\u<=9/\0<=fr/\fr<=1048320/\0<=til/\til<=1048320
 |.series _ u r=>1<=u/\u<=9/\Rd.fu r
 |.confirm id=>0<=id/\id<=9999999
 |.cancel id=>0<=id/\id<=9999999
 |.list _ fr til=>0<=fr/\fr<=1048320/\0<=til/\til<=1048320
 |.waiting=>True
 |.cY _ fr til=>0<=fr/\fr<=1048320/\0<=til/\til<=1048320
 |.find _ u long fr til=>1<=u/\u<=9/\1<=long/\long<=1048320/\0<=fr/\fr<=1048320/\0<=til/\til<=1048320
 |.expand r=>Rd.fu r
 |.tick n=>1<=n/\n<=1048320
 |.clock=>True
structure gv(now:U8)(e:aL):Prop where
 u1:1<=e.aH
 u9:e.aH<=9
 sl:e.aK.length<=40
 s0:e.aK≠[]
 sp:ov e.aK
 ri:gI e.aK
 kd:(e.kind=1/\e.bY=0)\/((e.kind=2\/e.kind=3)/\now<e.bY/\e.bY<=1048320/\e.aK.length=1)
structure Inv(s:St):Prop where
 tl:s.ts.length<=4
 tu:∀ t∈s.ts,1<=t.2/\t.2<=9
 tn:s.ts.Pairwise fun t u=>bW t.1 u.1=Ve
 ids:dB s.es
 mO:∀ e∈s.es,1<=e.id/\e.id<=s.given
 g0:0<=s.given
 g1:s.given<=60
 n0:0<=s.now
 n1:s.now<=1048320
 en:∀ e∈s.es,gv s.now e
 th:∀ e∈s.es,e.aH<=bJ e.aT s.ts
 wa:eh s.es<=6
 no:∀ e∈s.es,e.kind=3->dG s.ts s.es e.aT e.aH e.aK=Ve
 wi:∀ name x,bP name x s.es<=bJ name s.ts
end aA
end Go.Proofs.YtfigmlfdnickmaaGreatDoor
