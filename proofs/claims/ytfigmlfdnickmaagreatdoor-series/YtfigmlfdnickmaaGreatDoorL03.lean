import Derived.Test.YtfigmlfdnickmaaGreatDoorL02
import Derived.Test.YtfigmlfdnickmaaGreatDoorProg
import Derived.Maps.OwnSet
import Derived.Maps.OwnOps
import Derived.Maps.Views
import Derived.Lib.IndexMore
import Derived.Lib.IndexLaws
import Derived.Lib.FieldsP
import Derived.Lib.Split
import Derived.Lib.SplitLaws
set_option maxRecDepth 100000
set_option maxHeartbeats 8000000
open Go.Proofs.Tryz
open _root_ renaming ByteArray->U4,List->U5,Option->U6,Bool->U7,Nat->U8,Int->U9,if_neg->Va,if_pos->Vb,absurd->Vc
open Option renaming none->Vd,some->Ve,mem_toList->WW,getD_some->Xo,getD_none->Xt
open Bool renaming false->Vf,true->Vg,and_eq_true->W7,eq_iff_iff->Xc,false_eq_true->Vx
open Go renaming World->Vh,Value->Vi,Calls->Vk,TypeId->Vm
open Go.RowKit renaming Below->Vj
open Go.World renaming block_lt_of_cell?->Vr,news_of_block->WM,frozen?_of_block->WU,size_alloc->WX,cell?->VL
open Go.Value renaming ownBlock->WI,int->V4
open List renaming flatMap_append->Wx,mem_cons_of_mem->WV,mem_cons->VA,drop_eq_getElem_cons->WQ,drop_eq_nil_of_le->WS,take_succ_eq_append_getElem->Wg,take_of_length_le->Wi,all_eq_false->W8,mem_of_mem_take->Wp,foldl_cons->W9,length_cons->V6,getD_eq_getElem?_getD->Xa,getElem?_eq_getElem->Xb,drop_take->Xe,all_eq_true->Xf,mem_iff_getElem?->Xg,getElem?_drop->Xh,getElem?_take->Xi,isPrefixOf->Xk,take_append_drop->Wb,length_map->WL,pairwise_cons->VO,mem_append->VB,pairwise_append->XC,mem_filter->XF,filter_eq_self->XG,filter_cons->VQ,getLastD->XH,any_eq_true->XI,foldl_append->XJ,cons_append->VN,append_assoc->VZ,length_append->V5,mem_map->Wm,length_take_le->Wq,map_append->Wr,countP_eq_length_filter->XK,countP->XL,countP_mono_left->XM,exists_mem_of_length_pos->XP,foldl->XQ,map_cons->XS,flatMap_cons->Wv,getElem_cons_drop->Ww,length_take_of_le->Wy,getElem?_append_right->Wz,getElem?_append_left->Wt,range->XT,Nodup->XU,pairwise_map->XV,mem_range->XX,pairwise_iff_getElem->XY,getElem_of_mem->XZ
open Nat renaming le_trans->Vq,zero_le->Wh,add_zero->Xq,le_refl->Vn,lt_of_lt_of_le->Wk
open Option.some renaming inj->WY
open Go.Maps renaming size->W4,has->W5
open Go.WideAt renaming IsKeyLit->W6
open Go.Lib renaming cut->Xd,occAt->Xj,index->Xl,closeSpans->Xn,spansFromP->Xs,goFieldsP->Xu,splitK->Xx
open Int renaming eq_ofNat_of_zero_le->Xm,le_refl->Xy,sub_emod_right->Xz,emod_eq_of_lt->XA,mul_le_mul_of_nonneg_right->XN,mul_nonneg->Wc,mul_comm->XR
open Go.Utf8 renaming decode->Xp,runeError->Xr
open ByteArray renaming size_extract->Xv
open List.cons renaming injEq->Xw
open Classical renaming byContradiction->XD
open List.Pairwise renaming sublist->XE,filter->VR,imp_of_mem->XW,nil->X0
open List.Sublist renaming map->X4
variable{name s:U4}{e z:Go.Proofs.YtfigmlfdnickmaaGreatDoor.aA.aL}{b fr id level long m tq x y:U9}{ts:U5 (U4 × U9)}{L:U5 (U9 × U9)}{es:U5 Go.Proofs.YtfigmlfdnickmaaGreatDoor.aA.aL}{acc fs:U5 U9}{l:U5 UInt8}{i j n sz:U8}{c0 c1 c2 c3 c4 c5 key v:Go.Value}{w w' w1:Go.World}
namespace Go.Proofs.YtfigmlfdnickmaaGreatDoor
open Go.RowKit
theorem Pw:(prog.info? 286).map (fun i=>(i.zero,i.size,i.bytes))=Ve (Ve (.agg #[.int .i64 0,.int .i64 0,.pointer Vd]),3,24):=UZ
theorem Pv(d o:U8)(v:Vi)(l:U5 Hp.Hi)(x:Hp.Hi)(w:Vh)(h:HP w d o v l)(hh:Hp.gH l)(hl:l.length<=900):
  Vk prog 198 #[.pointer (Ve ⟨d,o,Vd⟩),.int .i64 x.t,.int .i64 x.n,.pointer (Ve ⟨x.v,0,Vd⟩)] w fun e w'=>e=.returned (.tuple #[])/\∃ p,lE w d o v p w'/\Hp.gH p/\p.Perm (l++[x]):=by
 obtain⟨Y,K,I,G,F⟩:=info_parts Pw;have c:=h.c;have U:=h.fz;have H:=aC h;clear h
 go_in
 have B:d<w.heap.size:=Vr _ _ c;have r:d ∉ v.ownBlock.toList:=by intro e;exact H.out.ne (by simpa using e)
 go_wp2_with (first
  |(at_builtin;refine wpList_append_lies _ rfl _ _ 140 rfl 0 286 Y _ 3 24 underlying140 K I G F rfl UW _ _ _ rfl (H.out.own.alloc _) ⟨w.heap.size,0,Vd⟩ 1 1 (iv x) rfl rfl (WM (cs:=(iv x).toArray) (cC w _)) (by simp[iv,Value.oneCell']) UU U1 UU UV (w.heap.size+1) UV ?_;intro g cap w1 u f C aa;have E:aF (v.ownBlock.toList) w w1:=aF.grown ((aF.refl _ w).alloc _) f (fun k J=>.inl (WW.2 J));have R:=E.cell r c;have O:=(E.frozen (o:=o) r B).trans U;clear f))
 have q:d≠g:=by
  rcases C with e|e
  ·rintro rfl;exact H.out.ne e
  ·omega
 have T:HP (w1.setCell ⟨d,o,Vd⟩ (.slice (Ve ⟨g,0,Vd⟩) (l.length+1) cap)) d o (.slice (Ve ⟨g,0,Vd⟩) (l++[x]).length cap) (l++[x]):=by
  have V:(l++[x]).length=l.length+1:=UV
  rw[V];refine⟨zm _ _ _ R,?_,fun e=>q (by simpa[WI] using e.symm),(zF ..).trans O⟩;rw[V,Wx];have e2:[x].flatMap iv=iv x:=UV
  rw[e2];exact dO u (aF.aY d _ o _) (fun b M=>by simp;rintro rfl;exact q (by simpa[WI] using M.symm))
 have RS:=aC (Gx d o g cap (l++[x]) l.length _ T UV (Hp.PM hh) U0);have A:=aC (zA E C);clear T u E C R O U c;refine RS.out.mono ?_;rintro e W ⟨rfl,p,D,S⟩
 have HF:Hid (∃ p,lE w d o v p W/\Hp.gH p/\p.Perm (l++[x])):=by
  refine⟨p,⟨_,D.hp,fun b M=>?_,?_,fun X Z=>?_,fun X=>?_⟩,S,D.perm⟩
  ·have:g=b:=by simpa[WI] using M
   subst this;rcases A.out.2 with e|e
   ·exact .inl e
   ·exact .inr UU
  ·refine ((A.out.1.mono (by simp +contextual)).setCell (.inl UV) o _).trans' D.off (fun k J=>?_);have:k=g:=by simpa using J
   subst this;rcases A.out.2 with e|e
   ·exact .inl (WV _ (WW.2 e))
   ·exact .inr UU
  ·have N:=D.off.block d (by have:=A.out.1.size;simp;omega) (by simpa using q);exact (zo N).trans ((zS _ _ _ _ (by have:=Z;simp)).trans (zo (A.out.1.block d B r)))
  ·have N:=D.off.block d (by have:=A.out.1.size;simp;omega) (by simpa using q);exact (WU N).trans ((zF ..).trans (WU (A.out.1.block d B r)))
 clear RS A D S
 go_wp2
 go_end0
 exact⟨rfl,HF.out⟩
def eO{α:Type}(p:α->U7):U5 α->U9->U9
 |[],_=>-1
 |x :: r,i=>if p x then i else eO p r (i+1)
theorem vF{α:Type}(p:α->U7):∀ (l:U5 α)(i:U9),(eO p l i=-1/\∀ x∈l,p x=Vf)\/∃ (k:U8)(h:k<l.length),eO p l i=i+k/\p l[k]=Vg/\∀ (j:U8)(q:j<k),p (l[j]'UU)=Vf
 |[],i=>.inl ⟨rfl,fun x t=>by simp at t⟩
 |x :: r,i=>by
  cases c:p x
  ·rcases vF p r (i+1) with ⟨g,f⟩|⟨k,h,g,f,u⟩
   ·exact .inl ⟨by simp[eO,c,g],fun y d=>by rcases VA.1 d with rfl|d;exact c;exact f y d⟩
   ·refine .inr ⟨k+1,by simp;omega,by simp[eO,c,g];omega,by simpa using f,fun j q=>?_⟩
    cases j with
    |zero=>simpa using c
    |succ j=>simpa using u j UU
  ·exact .inr ⟨0,by simp,by simp[eO,c],by simpa using c,fun j q=>by omega⟩
theorem OJ{α:Type}(p:α->U7)(l:U5 α):-1<=eO p l 0/\eO p l 0<l.length:=by
 rcases vF p l 0 with ⟨h,_⟩|⟨k,h,e,_⟩
 ·omega
 ·omega
theorem lE.from{w2:Vh}{d o:U8}{f:U5 Hp.Hi}(h:lE w1 d o v f w2)(k:Vj w.heap.size w w1)(g:d<w.heap.size):lE w d o v f w2:=by
 obtain⟨v',B,A,u,t,r⟩:=h;refine⟨v',B,fun b q=>(A b q).imp id (fun e=>Vq k.size e),(aF.aD k).trans u,fun c p=>(t c p).trans (zo (k.block d g)),fun c=>(r c).trans (WU (k.block d g))⟩
theorem QT(x:Hp.Hi)(t n:U9)(A B:U8)(w:Vh)(h:w.cell? ⟨A,0,Vd⟩=Ve (.int .i64 t))(cb:w.cell? ⟨B,0,Vd⟩=Ve (.int .i64 n)):
  Vk prog 202 #[.agg #[.int .i64 x.t,.int .i64 x.n,.pointer (Ve ⟨x.v,0,Vd⟩)],.pointer (Ve ⟨A,0,Vd⟩),.pointer (Ve ⟨B,0,Vd⟩)] w fun e w'=>e=.returned (.bool (gU x t n==0))/\Vj w.heap.size w w':=by
 have q:=aC (fun w'=>Jb x t n w');have c:Vj w.heap.size w (w.alloc (.cells #[.int .i64 x.t,.int .i64 x.n,.pointer (Ve ⟨x.v,0,Vd⟩)] 286)):=(zr _ _).alloc (zq _) _;have g:=aN c h;have f:=aN c cb;have k:=aC c;clear c
 go_in
 go_wp2_with fail
 refine (q.out _).mono ?_;rintro e w1 ⟨rfl,d⟩;have p:=aC (bA k.out d (zq _));clear d g f
 go_wp2
 go_ret;exact⟨rfl,p.out⟩
theorem Ul(l:U5 Hp.Hi)(t n:U9)(v:Vi)(A B:U8)(w:Vh)(own:w.ownsRow 0 286 3 v l.length (l.flatMap iv))(S:w.cell? ⟨A,0,Vd⟩=Ve (.int .i64 t))(cb:w.cell? ⟨B,0,Vd⟩=Ve (.int .i64 n))(W:l.length<=1000):
  Vk prog 201 #[v,.func (.func 202) #[] #[.pointer (Ve ⟨A,0,Vd⟩),.pointer (Ve ⟨B,0,Vd⟩)]] w fun e w'=>e=.returned (.int .i64 (eO (fun x=>gU x t n==0) l 0))/\Vj w.heap.size w w':=by
 have U:∃ a cap,v=.slice a l.length cap:=by
  rcases own.2 with ⟨rfl,h⟩|⟨g,cap,_,rfl,_⟩
  ·rw[h];exact⟨_,_,rfl⟩
  ·exact⟨_,_,rfl⟩
 obtain⟨a,cap,rfl⟩:=U;have D:=aC (zA S cb);have u:=aC own;clear S cb own
 go_in
 go_wp2_with fail
 go_loopw [8] (fun i wx=>∃ k:U8,k<=l.length/\i=.int .i64 k/\eO (fun x=>gU x t n==0) l 0=eO (fun x=>gU x t n==0) (l.drop k) k/\Vj w.heap.size w wx) (fun i _=>l.length-(intOf i).toNat)
 case atStart=>exact⟨0,Wh _,rfl,rfl,Below.refl _ _⟩
 case round =>
  obtain⟨k,X,rfl,E,p⟩:=hrel;have J:=aC E;have M:=aC p
  by_cases d:k<l.length
  ·have V:(k:U9)<(l.length:U9):=UU
   obtain⟨H,R,O⟩:=Joins.ownsRow_form u.out UU;simp only[Value.slice.injEq,true_and] at O;obtain⟨rfl,rfl⟩:=O;have c:=eu u.out p;have I:=(c.cellAt (k*3) UU).trans (ue d (j:=0) UU);have G:=(c.cellAt (k*3+1) UU).trans (ue d (j:=1) UU);have F:=(c.cellAt (k*3+2) UU).trans (ue d (j:=2) UU);simp only[iv,List.getElem?_cons_zero,List.getElem?_cons_succ] at I G F;have q:=aC (QT l[k] t n A B wr (aN p D.out.1) (aN p D.out.2));have N:eO (fun x=>gU x t n==0) (l.drop k) k=if gU l[k] t n==0 then (k:U9) else eO (fun x=>gU x t n==0) (l.drop (k+1)) ((k+1:U8):U9):=by rw[WQ d];rfl
   have T:=aC N;clear N c p E
   cases f:(gU l[k] t n==0)
   ·have C:Hid (eO (fun x=>gU x t n==0) l 0=eO (fun x=>gU x t n==0) (l.drop (k+1)) ((k+1:U8):U9)):=by show _=_;rw[J.out,T.out,f];rfl
    rw[f] at q;clear f
    go_wp2_with fail
    refine q.out.mono ?_;rintro e w1 ⟨rfl,r⟩;have K:=aC (bA M.out r (zq _));clear r I G F q
    go_wp2
    go_roundw
    case rel=>exact⟨k+1,by omega,by go_num,C.out,K.out⟩
    case measure=>simp[intOf];omega
   ·have C:Hid (eO (fun x=>gU x t n==0) l 0=k):=by show _=_;rw[J.out,T.out,f];rfl
    rw[f] at q;clear f
    go_wp2_with fail
    refine q.out.mono ?_;rintro e w1 ⟨rfl,r⟩;have K:=aC (bA M.out r (zq _));clear r I G F q
    go_wp2
    go_ret;exact⟨gL C.out.symm,K.out⟩
  ·have V:¬ (k:U9)<(l.length:U9):=UU
   have e:l.drop k=[]:=WS UU;have C:Hid (eO (fun x=>gU x t n==0) l 0=-1):=by show _=_;rw[J.out,e];rfl
   clear E p e
   go_wp2
   go_ret;exact⟨gL C.out.symm,M.out⟩
theorem Q6(d o:U8)(v:Vi)(l:U5 Hp.Hi)(t n:U9)(w:Vh)(h:HP w d o v l)(V:Hp.gH l)(N:l.length<=1000):
  Vk prog 149 #[.pointer (Ve ⟨d,o,Vd⟩),.int .i64 t,.int .i64 n] w fun e w'=>e=.returned (.tuple #[]) /\
   (((∀ x∈l,¬ (x.t=t/\x.n=n))/\Vj w.heap.size w w')\/∃ (x:Hp.Hi) (f:U5 Hp.Hi),x.t=t/\x.n=n/\lE w d o v f w'/\Hp.gH f/\l.Perm (x :: f)):=by
 have C:Vj w.heap.size w ((w.alloc (.cells #[.int .i64 t] 3)).alloc (.cells #[.int .i64 n] 3)):=((zr _ _).alloc (zq _) _).alloc UV _;have g:=h.later C;have c:=g.c;have H:((w.alloc (.cells #[.int .i64 t] 3)).alloc (.cells #[.int .i64 n] 3)).cell? ⟨w.heap.size,0,Vd⟩=Ve (.int .i64 t):=UV
 have G:((w.alloc (.cells #[.int .i64 t] 3)).alloc (.cells #[.int .i64 n] 3)).cell? ⟨w.heap.size+1,0,Vd⟩=Ve (.int .i64 n):=by
  have:=cC (w.alloc (.cells #[.int .i64 t] 3)) (.cells #[.int .i64 n] 3);rw[WX] at this;simp only[VL,this];rfl
 have R:=aC (Ul l t n v w.heap.size (w.heap.size+1) _ g.own H G N);have D:=aC (zA C g);have B:d<w.heap.size:=Vr _ _ h.c;have bd:=OJ (fun x=>gU x t n==0) l;have M:=vF (fun x=>gU x t n==0) l 0;clear C g H G h;generalize eO (fun x=>gU x t n==0) l 0=q at *;have r:=aC M;clear M
 go_in
 go_wp2_with fail
 generalize ((w.alloc (.cells #[.int .i64 t] 3)).alloc (.cells #[.int .i64 n] 3))=X at *;refine R.out.mono ?_;rintro e w1 ⟨rfl,u⟩;have F:=aC (zA (bA D.out.1 u (zq _)) (D.out.2.later u));clear u R c D
 by_cases h0:0<=q
 ·obtain⟨k,A,Y,p,W⟩:∃ (k:U8) (h:k<l.length),q=k/\(gU l[k] t n==0)=Vg/\True:=by
   rcases r.out with ⟨h,_⟩|⟨k,h,e,p,_⟩
   ·omega
   ·exact⟨k,h,by omega,p,trivial⟩
  subst Y;have O:=aC (Up d o v l k w1 F.out.2 V A N);have HE:=aC p;clear p W r
  go_wp2_with fail
  refine O.out.mono ?_;rintro e S ⟨rfl,f,K,J,I⟩
  have E:Hid (∃ (x:Hp.Hi) (f:U5 Hp.Hi),x.t=t/\x.n=n/\lE w d o v f S/\Hp.gH f/\l.Perm (x :: f)):=by
   have p:gU l[k] t n=0:=by simpa using HE.out
   obtain⟨U,T⟩:=(Hb _ _ _).1 p;refine⟨Hp.at_ l k,f,by rw[Hp.sP A];exact U,by rw[Hp.sP A];exact T,K.from F.out.1 B,J,I⟩
  clear K J I O
  go_wp2
  go_end0
  exact⟨rfl,.inr E.out⟩
 ·have E:Hid (∀ x∈l,¬ (x.t=t/\x.n=n)):=by
   rcases r.out with ⟨_,h⟩|⟨k,h,e,_⟩
   ·intro x g e;have:=h x g;have Z:=(Hb x t n).2 e;simp[Z] at this
   ·omega
  clear r
  go_wp2
  go_end0
  exact⟨rfl,.inl ⟨E.out,F.out.1⟩⟩
open Go Go.Maps
def xl(o:U6 U8):Vi:=.pointer (o.map fun b=>⟨b,0,Vd⟩)
def jv(o:U6 U8):DataW Unit:=.lit (.int .i64 (match o with|none=>-1|some b=>(b:U9)))
def pA:Vi->U6 (DataW Unit × U5 MemPlace)
 |.pointer Vd=>Ve (jv Vd,[])
 |.pointer (Ve ⟨b,0,Vd⟩)=>Ve (jv (Ve b),[])
 |_=>Vd
theorem O9(o:U6 U8):pA (xl o)=Ve (jv o,[]):=by cases o <;> rfl
theorem Gw{a b:U6 U8}(h:jv a=jv b):a=b:=by
 unfold jv at h
 cases a <;> cases b <;> simp at h ⊢ <;> omega
theorem Qr{o:U6 U8}{c:U5 MemPlace}(h:pA v=Ve (jv o,c)):v=xl o:=by
 unfold pA at h
 split at h
 ·have e:jv Vd=jv o:=congrArg Prod.fst (WY h);have:=Gw e;subst this;rfl
 ·rename_i b
  have e:jv (Ve b)=jv o:=congrArg Prod.fst (WY h);have:=Gw e;subst this;rfl
 ·cases h
noncomputable def lg(f:Lit->U6 U8)(c:Lit)(o:U6 U8)(x:Lit):U6 U8:=@ite _ (x=c) (Classical.propDecidable _) o (f x)
theorem sO(f:Lit->U6 U8)(c:Lit)(o:U6 U8):lg f c o c=o:=Vb rfl
theorem sS(f:Lit->U6 U8){c x:Lit}(o:U6 U8)(h:x≠c):lg f c o x=f x:=Va h
def eW(P:Program)(k:Vm)(w:Vh)(b n:U8)(f:Lit->U6 U8)(sz:U8):Prop :=
 ∃ D,w.ownsMap P k pA b n D/\W4 D=sz/\(∀ c,D.atKey c (jv Vd)=jv (f c))/\∀ c,W5 D c=(f c).isSome
theorem eW.block{P:Program}{k:Vm}{b:U8}{f:Lit->U6 U8}(h:eW P k w b n f sz)(d:w'.heap[b]?=w.heap[b]?):eW P k w' b n f sz:=by
 obtain⟨D,⟨es,c,q,p⟩,g⟩:=h;exact⟨D,⟨es,c,d.trans q,p⟩,g⟩
theorem eW.tight{P:Program}{k:Vm}{b:U8}{f:Lit->U6 U8}(h:eW P k w b n f sz):eW P k w b sz f sz:=by
 obtain⟨D,⟨es,c,r,q,t,g⟩,d,p⟩:=h;refine⟨D,⟨es,c,r,q,?_,g⟩,d,p⟩;rw[<- d,g,Maps.size_eq,length_sorted];simp
theorem eW.made(P:Program)(k:Vm)(w:Vh):eW P k (w.alloc (.map #[] 0)) w.heap.size 0 (fun _=>Vd) 0 :=
 ⟨.map [],World.ownsMap_made w P k pA,rfl,fun _=>rfl,fun _=>rfl⟩
theorem eW.look{P:Program}{k e t:Vm}{b:U8}{f:Lit->U6 U8}(h:eW P k w b n f sz)(K:Keyed P k)(ht:P.underlying t=Ve (.map k e))(q:(zeroValue e).run P w=.ok (.pointer Vd) w){g:Lit}(d:keyOf P k key=Ve g):
  (Instr.lookup t (.map (Ve b)) key Vf).run P w=.ok (xl (f g)) w:=by
 obtain⟨D,u,_,r,_⟩:=h;obtain⟨v,A,c,p⟩:=u.lookup K ht q (zd:=jv Vd) (zp:=[]) rfl d;rw[r] at p;rw[c,Qr p]
theorem eW.len{P:Program}{k e t:Vm}{b:U8}{f:Lit->U6 U8}(h:eW P k w b n f sz)(ht:P.underlying t=Ve (.map k e))(c:Vm):(Builtin.len_ #[t] c #[.map (Ve b)]).run P w=.ok (.int .i64 sz) w:=by
 obtain⟨D,g,d,_⟩:=h;rw[g.len ht c,d]
theorem eW.put{P:Program}{k:Vm}{b:U8}{f:Lit->U6 U8}{D:DataW Unit}{d:Lit}{p:U8}(K:Keyed P k)(w:Vh)(g:w.ownsMap P k pA b n D)(h:w'.ownsMap P k pA b (n+1) (D.put d (jv (Ve p))))(q:W6 d)(t:∀ d,D.atKey d (jv Vd)=jv (f d))(r:∀ d,W5 D d=(f d).isSome):
  eW P k w' b (n+1) (lg f d (Ve p)) (if (f d).isSome then W4 D else W4 D+1):=by
 refine⟨_,h,?_,fun x=>?_,fun x=>?_⟩
 ·rw[Maps.size_put (g.tidy K),r]
 ·by_cases c:x=d
  ·rw[c,sO,Maps.atKey_put_same g.isMap q]
  ·rw[sS f _ c,Maps.atKey_put_other c,t]
 ·by_cases c:x=d
  ·rw[c,sO,Maps.has_put_same g.isMap q];rfl
  ·rw[sS f _ c,Maps.has_put_other c,r]
theorem eW.del{P:Program}{k:Vm}{b:U8}{f:Lit->U6 U8}{D:DataW Unit}{d:Lit}(K:Keyed P k)(w:Vh)(p:w.ownsMap P k pA b n D)(h:w'.ownsMap P k pA b n (D.del d))(q:∀ d,D.atKey d (jv Vd)=jv (f d))(g:∀ d,W5 D d=(f d).isSome):
  eW P k w' b n (lg f d Vd) (W4 D-if (f d).isSome then 1 else 0):=by
 refine⟨_,h,?_,fun x=>?_,fun x=>?_⟩
 ·have:=Maps.size_del (k:=d) (p.tidy K);rw[g] at this;omega
 ·by_cases c:x=d
  ·rw[c,sO,Maps.atKey_del_same]
  ·rw[sS f _ c,Maps.atKey_del_other c,q]
 ·by_cases c:x=d
  ·rw[c,sO,Maps.has_del_same];rfl
  ·rw[sS f _ c,Maps.has_del_other c,g]
theorem eW.lQ{P:Program}{k e t:Vm}{b:U8}{f:Lit->U6 U8}(h:eW P k w b n f sz)(K:Keyed P k)(ht:P.underlying t=Ve (.map k e)){g:Lit}(d:keyOf P k key=Ve g)(p:Vm):
  ∃ w',(Builtin.delete_ #[t,k] p #[.map (Ve b),key]).run P w=.ok (.tuple #[]) w'/\eW P k w' b n (lg f g Vd) (sz-if (f g).isSome then 1 else 0)/\w.grownBy w' (Ve b):=by
 obtain⟨D,q,C,B,A⟩:=h;obtain⟨w',c,u,r⟩:=q.drop K ht d p;refine⟨w',c,?_,r.grown⟩;rw[<- C];exact eW.del K w q u B A
theorem eW.jT{P:Program}{k e t:Vm}{b:U8}{f:Lit->U6 U8}(h:eW P k w b n f sz)(K:Keyed P k)(ht:P.underlying t=Ve (.map k e))(B:n<maxLen){q:Lit}(g:keyOf P k key=Ve q)(d:W6 q)(p:U8):
  ∃ w',(Instr.mapUpdate t (.map (Ve b)) key (xl (Ve p))).run P w=.ok () w'/\eW P k w' b (n+1) (lg f q (Ve p)) (if (f q).isSome then sz else sz+1)/\w.grownBy w' (Ve b):=by
 obtain⟨D,r,F,E,C⟩:=h;obtain⟨w',c,A,u⟩:=r.update K ht B g (O9 (Ve p));refine⟨w',c,?_,u⟩;rw[<- F];exact eW.put K w r A d E C
section
variable {P:Program}(w:Vh) {ops:Array Oper}{rest:U5 Oper}{o:Oper}{a:Act}{Q:Exit->Act->Vh->Prop}
end
end Go.Proofs.YtfigmlfdnickmaaGreatDoor
namespace Go.Proofs.YtfigmlfdnickmaaGreatDoor.Cal
def ah(y:U9):U9:=(y-1)*365+(y-1) / 4-(y-1) / 100+(y-1) / 400
def lS(y:U9):U7:=y % 4==0 && (y % 100 != 0 || y % 400==0)
def lp(y:U9):U9:=if lS y then 1 else 0
def iL(m:U9):U9:=if m=2 then 28 else if m=4\/m=6\/m=9\/m=11 then 30 else 31
def fP(y m:U9):U9:=if m=2 then 28+lp y else iL m
def cI(y m:U9):U9 :=
 if m<=1 then 0 else if m=2 then 31 else lp y+(if m=3 then 59 else if m=4 then 90 else if m=5 then 120 else if m=6 then 151 else if m=7 then 181 else if m=8 then 212 else if m=9 then 243 else if m=10 then 273 else if m=11 then 304 else if m=12 then 334 else 365)
def first:U9:=-738885
def last:U9:=2913173
def num(y m d:U9):U9:=first+ah y+cI y m+d-1
def ok(y m d:U9):U7:=decide (1<=y/\y<=9999/\1<=m/\m<=12/\1<=d/\d<=fP y m)
theorem qB(y:U9):0<=lp y/\lp y<=1:=by unfold lp;split <;> omega
theorem Ok(y:U9):lp y=1/\y % 4=0/\(y % 100≠0\/y % 400=0)\/lp y=0/\¬ (y % 4=0/\(y % 100≠0\/y % 400=0)):=by
 unfold lp
 cases h:lS y
 ·right;refine⟨by simp,?_⟩;simp only[lS,Bool.and_eq_false_iff,Bool.or_eq_false_iff,beq_eq_false_iff_ne,bne_eq_false_iff_eq] at h;omega
 ·left;refine⟨by simp,?_⟩;simp only[lS,W7,Bool.or_eq_true,beq_iff_eq,bne_iff_ne] at h;exact h
theorem sq(y:U9)(_h:1<=y):ah (y+1)=ah y+365+lp y:=by
 rcases Ok y with ⟨e,c⟩|⟨e,c⟩ <;> rw[e] <;> unfold ah <;> omega
theorem sy(a b:U9)(_h0:1<=a)(_h:a<=b):ah a<=ah b:=by unfold ah;omega
theorem KV:ah 1=0:=UW
theorem xw:ah 10000=3652059:=UW
theorem Gm(g:U9)(_h:0<=g):ah (g*400 / 146097+1)<=g:=by unfold ah;omega
theorem qy(y:U9)(_h1:1<=y)(_h2:y<=10000):0<=ah y/\ah y<=3652059:=by unfold ah;omega
theorem OM(m:U9):28<=iL m/\iL m<=31:=by unfold iL;(repeat' split) <;> omega
theorem nU(y m:U9):28<=fP y m/\fP y m<=31:=by
 have:=qB y;have:=OM m;unfold fP;split <;> omega
theorem AR(m:U9)(d:1<=m)(c:m<=12):m=1\/m=2\/m=3\/m=4\/m=5\/m=6\/m=7\/m=8\/m=9\/m=10\/m=11\/m=12:=UU
theorem oD(y:U9):cI y 1=0:=by simp[cI]
theorem pL(y m:U9)(d:1<=m)(c:m<=12):cI y (m+1)=cI y m+fP y m:=by
 rcases AR m d c with h|h|h|h|h|h|h|h|h|h|h|h <;> subst h <;> simp[cI,fP,iL] <;> omega
theorem vk(y:U9):cI y 13=365+lp y:=by simp[cI];omega
theorem AW(y a:U9)(k:U8)(g:1<=a)(f:a+k<=13):cI y a<=cI y (a+k):=by
 induction k with
 |zero=>simp
 |succ k ih =>
  have c:=pL y (a+k) UU UU;have d:=nU y (a+k);have i:=ih UU;rw[show a+((k+1:U8):U9)=a+k+1 from by omega,c];omega
theorem qC(y m:U9)(c:1<=m)(d:m<=13):0<=cI y m/\cI y m<=365+lp y:=by
 have a:=AW y 1 (m-1).toNat UU UU;have b:=AW y m (13-m).toNat c UU;rw[show (1:U9)+((m-1).toNat:U9)=m from by omega,oD] at a;rw[show m+((13-m).toNat:U9)=13 from by omega,vk] at b;exact⟨a,b⟩
theorem Bs(y a b:U9)(d:1<=a)(h:a<b)(f:b<=13):cI y a+fP y a<=cI y b:=by
 rw[<- pL y a d UU];have c:=AW y (a+1) (b-(a+1)).toNat UU UU
 rwa [show (a+1)+((b-(a+1)).toNat:U9)=b from by omega] at c
theorem gO(y m d:U9):ok y m d=Vg↔1<=y/\y<=9999/\1<=m/\m<=12/\1<=d/\d<=fP y m:=by simp[ok]
theorem vw(y m d:U9)(h:ok y m d=Vg):ah y<=num y m d-first/\num y m d-first<ah (y+1):=by
 obtain⟨k,r,f,g,q,p⟩:=(gO y m d).1 h;have a:=sq y k;have b:=qC y m f UU;have c:=pL y m f g;have e:=qC y (m+1) UU UU;unfold num;omega
theorem QG(a b n:U9)(d:1<=a)(c:1<=b)(p:ah a<=n)(k:n<ah (a+1))(g:ah b<=n)(f:n<ah (b+1)):a=b:=by
 by_cases h:a<b
 ·have:=sy (a+1) b UU UU;omega
 ·by_cases q:b<a
  ·have:=sy (b+1) a UU UU;omega
  ·omega
theorem QP(y a b n:U9)(g:1<=a)(f:a<=12)(d:1<=b)(c:b<=12)(t:cI y a<=n)(r:n<cI y a+fP y a)(q:cI y b<=n)(p:n<cI y b+fP y b):a=b:=by
 by_cases h:a<b
 ·have:=Bs y a b g h UU;omega
 ·by_cases k:b<a
  ·have:=Bs y b a d k UU;omega
  ·omega
theorem one(y m d y' m' d':U9)(h:ok y m d=Vg)(f:ok y' m' d'=Vg)(e:num y m d=num y' m' d'):y=y'/\m=m'/\d=d':=by
 have i:=vw y m d h;have c:=vw y' m' d' f;obtain⟨r,D,q,p,C,B⟩:=(gO y m d).1 h;obtain⟨A,G,u,t,F,E⟩:=(gO y' m' d').1 f;have g:y=y':=QG y y' (num y m d-first) r A i.1 i.2 (by rw[e];exact c.1) (by rw[e];exact c.2);subst g;unfold num at e;have k:m=m':=QP y m m' (cI y m+d-1) q p u t UU UU UU UU;subst k;exact⟨rfl,rfl,by omega⟩
theorem AU(y m d:U9)(h:ok y m d=Vg):first<=num y m d/\num y m d<=last:=by
 obtain⟨f,r,q,p,k,g⟩:=(gO y m d).1 h;have i:=vw y m d h;have a:=sy (y+1) 10000 UU UU;have b:=qy y f UU;have c:=xw;unfold first at i;unfold first last;omega
end Go.Proofs.YtfigmlfdnickmaaGreatDoor.Cal
namespace Go.Proofs.YtfigmlfdnickmaaGreatDoor.Cal
def yF(g:U9):U9:=if ah (g*400 / 146097+2)<=g then g*400 / 146097+2 else g*400 / 146097+1
def mF(y r:U9):U9:=if r<cI y 2 then 1 else if r<cI y 3 then 2 else if r<cI y 4 then 3 else if r<cI y 5 then 4 else if r<cI y 6 then 5 else if r<cI y 7 then 6 else if r<cI y 8 then 7 else if r<cI y 9 then 8 else if r<cI y 10 then 9 else if r<cI y 11 then 10 else if r<cI y 12 then 11 else 12
theorem OV(g:U9)(_h:0<=g):g<ah (g*400 / 146097+3):=by unfold ah;omega
theorem Oo(g:U9)(h:0<=g):1<=yF g/\ah (yF g)<=g/\g<ah (yF g+1):=by
 have a:=Gm g h;have b:=OV g h;unfold yF
 split
 ·refine⟨by omega,by assumption,?_⟩;rw[show g*400 / 146097+2+1=g*400 / 146097+3 from by omega];exact b
 ·refine⟨by omega,a,?_⟩;rw[show g*400 / 146097+1+1=g*400 / 146097+2 from by omega];omega
theorem Ol(y r:U9)(C:0<=r)(B:r<cI y 13):1<=mF y r/\mF y r<=12/\cI y (mF y r)<=r/\r<cI y (mF y r+1):=by
 have c1:=oD y;unfold mF
 by_cases A:r<cI y 2
 ·rw[Vb A];exact⟨by omega,by omega,by omega,A⟩
 rw[Va A]
 by_cases u:r<cI y 3
 ·rw[Vb u];exact⟨by omega,by omega,by omega,u⟩
 rw[Va u]
 by_cases t:r<cI y 4
 ·rw[Vb t];exact⟨by omega,by omega,by omega,t⟩
 rw[Va t]
 by_cases q:r<cI y 5
 ·rw[Vb q];exact⟨by omega,by omega,by omega,q⟩
 rw[Va q]
 by_cases p:r<cI y 6
 ·rw[Vb p];exact⟨by omega,by omega,by omega,p⟩
 rw[Va p]
 by_cases k:r<cI y 7
 ·rw[Vb k];exact⟨by omega,by omega,by omega,k⟩
 rw[Va k]
 by_cases h:r<cI y 8
 ·rw[Vb h];exact⟨by omega,by omega,by omega,h⟩
 rw[Va h]
 by_cases g:r<cI y 9
 ·rw[Vb g];exact⟨by omega,by omega,by omega,g⟩
 rw[Va g]
 by_cases f:r<cI y 10
 ·rw[Vb f];exact⟨by omega,by omega,by omega,f⟩
 rw[Va f]
 by_cases d:r<cI y 11
 ·rw[Vb d];exact⟨by omega,by omega,by omega,d⟩
 rw[Va d]
 by_cases c:r<cI y 12
 ·rw[Vb c];exact⟨by omega,by omega,by omega,c⟩
 rw[Va c];exact⟨by omega,by omega,by omega,B⟩
def yT(n:U9):U9:=yF (n+738885)
def mT(n:U9):U9:=mF (yT n) (n+738885-ah (yT n))
def dT(n:U9):U9:=n+738885-ah (yT n)-cI (yT n) (mT n)+1
theorem tC(n:U9)(f:-738885<=n)(d:n<=2913173):ok (yT n) (mT n) (dT n)=Vg/\num (yT n) (mT n) (dT n)=n:=by
 have ⟨a1,a2,a3⟩:=Oo (n+738885) UU;have s:=sq (yF (n+738885)) a1
 have c:yF (n+738885)<=9999:=by
  by_cases h:yF (n+738885)<=9999
  ·exact h
  ·have:=sy 10000 (yF (n+738885)) UU UU;have:=xw;omega
 have g:=vk (yF (n+738885));have ⟨b1,b2,b3,b4⟩:=Ol (yF (n+738885)) (n+738885-ah (yF (n+738885))) UU UU;have cs:=pL (yF (n+738885)) (mF (yF (n+738885)) (n+738885-ah (yF (n+738885)))) b1 b2;refine⟨(gO _ _ _).2 ?_,?_⟩
 ·unfold dT mT yT;refine⟨a1,c,b1,b2,by omega,by omega⟩
 ·unfold num dT mT yT first;omega
theorem AM(y m d n:U9)(h:ok y m d=Vg)(e:num y m d=n):y=yT n/\m=mT n/\d=dT n:=by
 have b:=AU y m d h;rw[e] at b;unfold first last at b;have ⟨h1,h2⟩:=tC n b.1 b.2;exact one y m d _ _ _ h h1 (by rw[e,h2])
end Go.Proofs.YtfigmlfdnickmaaGreatDoor.Cal
namespace Go.Proofs.YtfigmlfdnickmaaGreatDoor.aB
def rU(c:UInt8):U7:=decide (48<=(c.toNat:U9)/\(c.toNat:U9)<=57)
def gu(l:U5 UInt8):U7:=l.all rU
def mH(l:U5 UInt8):U9:=l.foldl (fun n c=>n*10+((c.toNat:U9)-48)) 0
def low(c:UInt8):U7:=decide (97<=(c.toNat:U9)/\(c.toNat:U9)<=122)
def nQ(l:U5 UInt8):U7:=l.all low
def isNum(l:U5 UInt8):U7:=decide (1<=l.length/\l.length<=7) && gu l
def fa(l:U5 UInt8):U7:=decide (1<=l.length/\l.length<=8) && nQ l
theorem sG(c:UInt8):rU c=Vg↔48<=(c.toNat:U9)/\(c.toNat:U9)<=57:=by simp[rU]
theorem xv(c:UInt8):low c=Vg↔97<=(c.toNat:U9)/\(c.toNat:U9)<=122:=by simp[low]
theorem ya(l:U5 UInt8)(c:UInt8):gu (l++[c])=(gu l && rU c):=by simp[gu]
theorem xJ(l:U5 UInt8)(c:UInt8):nQ (l++[c])=(nQ l && low c):=by simp[nQ]
theorem T7(l:U5 UInt8)(c:UInt8):mH (l++[c])=mH l*10+((c.toNat:U9)-48):=by simp[mH]
theorem xU(s:U4)(k:U8)(h:k<s.size):s.data.toList.take (k+1)=s.data.toList.take k++[s[k]]:=by
 rw[Wg (by simpa using h)];rfl
theorem sH(s:U4)(k:U8)(h:s.size<=k):s.data.toList.take k=s.data.toList:=Wi (by simpa using h)
theorem fM(s:U4):s.data.toList.length=s.size:=UV
theorem I9(l:U5 UInt8)(k:U8)(h:gu (l.take k)=Vf):gu l=Vf:=by
 unfold gu at *;rw[W8] at *;obtain⟨x,c,h⟩:=h;exact⟨x,Wp c,h⟩
theorem Ho(l:U5 UInt8)(k:U8)(h:nQ (l.take k)=Vf):nQ l=Vf:=by
 unfold nQ at *;rw[W8] at *;obtain⟨x,c,h⟩:=h;exact⟨x,Wp c,h⟩
theorem OC(l:U5 UInt8):∀ (k:U8)(n:U9),0<=n->n<10 ^ k->gu l=Vg->0<=l.foldl (fun n c=>n*10+((c.toNat:U9)-48)) n/\l.foldl (fun n c=>n*10+((c.toNat:U9)-48)) n<10 ^ (k+l.length):=by
 induction l with
 |nil=>intro k n g f _;exact⟨g,f⟩
 |cons c l ih =>
  intro k n g f d;simp only[gu,List.all_cons,W7] at d;have h:=(sG c).1 d.1;have:=ih (k+1) (n*10+((c.toNat:U9)-48)) UU (by rw[Int.pow_succ];omega) d.2;simp only[W9,V6];rw[show k+(l.length+1)=k+1+l.length from by omega];exact this
theorem FY(l:U5 UInt8)(h:gu l=Vg)(c:l.length<=7):0<=mH l/\mH l<=9999999:=by
 have b:=OC l 0 0 UU UW h;have q:∀ k:U8,k<8->(10:U9) ^ k<=10000000:=UW
 have p:=q (0+l.length) UU;unfold mH;omega
theorem BJ(f:1<=l.length)(d:l.length<=7)(c:gu l=Vg):isNum l=Vg:=by
 simp[isNum,f,d,c]
theorem xH(h:¬ (1<=l.length/\l.length<=7)):isNum l=Vf:=by
 unfold isNum;rw[decide_eq_false h];rfl
theorem Bo(h:gu l=Vf):isNum l=Vf:=by simp[isNum,h]
theorem Hf(l:U5 UInt8):isNum l=Vg↔(1<=l.length/\l.length<=7)/\gu l=Vg:=by simp[isNum]
theorem GV(f:1<=l.length)(d:l.length<=8)(c:nQ l=Vg):fa l=Vg:=by
 simp[fa,f,d,c]
theorem xR(h:¬ (1<=l.length/\l.length<=8)):fa l=Vf:=by
 unfold fa;rw[decide_eq_false h];rfl
theorem Gh(h:nQ l=Vf):fa l=Vf:=by simp[fa,h]
def cF(l:U5 UInt8):U9:=if isNum l then mH l else 0
theorem lf(l:U5 UInt8):0<=cF l/\cF l<=9999999:=by
 unfold cF
 split
 ·rename_i h
  have:=(Hf l).1 h;exact FY l this.2 this.1.2
 ·omega
end Go.Proofs.YtfigmlfdnickmaaGreatDoor.aB
namespace Go.Proofs.YtfigmlfdnickmaaGreatDoor.aB
def dP(s:U4)(i:U8):U9:=((s.data.toList.getD i 0).toNat:U9)
theorem jc(s:U4)(i:U8)(h:i<s.size):dP s i=(s[i].toNat:U9):=by
 unfold dP;rw[Xa,Xb (by simpa using h)];rfl
def part(s:U4)(a b:U8):U5 UInt8:=(s.extract a b).data.toList
def dA(s:U4):U7:=decide (s.size=5/\dP s 2=58/\isNum (part s 0 2)=Vg/\isNum (part s 3 5)=Vg/\cF (part s 0 2)<=23/\cF (part s 3 5)<=59)
def fo(s:U4):U9:=if dA s then cF (part s 0 2)*60+cF (part s 3 5) else 0
def iI(s:U4):U7:=decide (s.size=10/\dP s 4=45/\dP s 7=45/\isNum (part s 0 4)=Vg/\isNum (part s 5 7)=Vg/\isNum (part s 8 10)=Vg/\Cal.ok (cF (part s 0 4)) (cF (part s 5 7)) (cF (part s 8 10))=Vg)
def eH(s:U4):U9:=if iI s then Cal.num (cF (part s 0 4)) (cF (part s 5 7)) (cF (part s 8 10)) else 0
def cM(s:U4):U7:=decide (iI s=Vg/\0<=eH s/\eH s<728)
theorem yn(h:¬ (s.size=5/\dP s 2=58/\isNum (part s 0 2)=Vg/\isNum (part s 3 5)=Vg/\cF (part s 0 2)<=23/\cF (part s 3 5)<=59)):dA s=Vf:=decide_eq_false h
theorem tZ(h:¬ (s.size=10/\dP s 4=45/\dP s 7=45/\isNum (part s 0 4)=Vg/\isNum (part s 5 7)=Vg/\isNum (part s 8 10)=Vg/\Cal.ok (cF (part s 0 4)) (cF (part s 5 7)) (cF (part s 8 10))=Vg)):iI s=Vf:=decide_eq_false h
theorem GO(c:s.size=5)(d:dP s 2=58):dA s=(isNum (part s 0 2) && isNum (part s 3 5) && decide (cF (part s 0 2)<=23) && decide (cF (part s 3 5)<=59)):=by
 rw[Xc];simp[dA,c,d,and_assoc]
theorem FO(c:s.size=10)(f:dP s 4=45)(d:dP s 7=45):iI s=(isNum (part s 0 4) && isNum (part s 5 7) && isNum (part s 8 10) && Cal.ok (cF (part s 0 4)) (cF (part s 5 7)) (cF (part s 8 10))):=by
 rw[Xc];simp[iI,c,f,d,and_assoc]
theorem xn(s:U4):0<=fo s/\fo s<=1439:=by
 unfold fo
 split
 ·rename_i h
  have h:=of_decide_eq_true h;have:=lf (part s 0 2);have:=lf (part s 3 5);omega
 ·omega
theorem FC(s:U4):-738885<=eH s/\eH s<=2913173:=by
 unfold eH
 split
 ·rename_i h
  have h:=of_decide_eq_true h;have b:=Cal.AU _ _ _ h.2.2.2.2.2.2;unfold Cal.first Cal.last at b;exact b
 ·omega
end Go.Proofs.YtfigmlfdnickmaaGreatDoor.aB
namespace Go.Proofs.YtfigmlfdnickmaaGreatDoor.aB
open Go
def iQ(s:U4):U7:=decide (s.size=16/\dP s 10=47/\iI (s.extract 0 10)=Vg/\dA (s.extract 11 16)=Vg)
def kh(s:U4):U9:=if iQ s then eH (s.extract 0 10)*1440+fo (s.extract 11 16) else 0
def iU(s:U4):U4:={ data:=(Xd s.data.toList [47]).fst.toArray }
def iV(s:U4):U4:={ data:=(Xd s.data.toList [47]).snd.fst.toArray }
def ox(s:U4):U7:=(Xd s.data.toList [47]).snd.snd
theorem oI(s:U4)(a b:U8):(s.extract a b).data.toList=(s.data.toList.take b).drop a:=by
 rw[ByteArray.data_extract,Array.toList_extract];simp[Xe]
theorem pH{t:U4}(h:s.data.toList=t.data.toList):s=t:=by
 cases s;cases t;simp only at h;congr;exact Array.toList_inj.1 h
theorem Ox(c:UInt8)(h:rU c=Vg):c≠47:=by
 intro e;subst e;revert h;decide
theorem Bt(h:gu l=Vg){c:UInt8}(d:c∈l):c≠47:=Ox c (by
 unfold gu at h;rw[Xf] at h;exact h c d)
theorem Cq(h:isNum l=Vg):gu l=Vg:=((Hf l).1 h).2
theorem TQ(t:U4)(h:iI t=Vg):∀ j,j<10->t.data.toList[j]?≠Ve 47:=by
 have h:=of_decide_eq_true h;obtain⟨F,S,R,B,A,u,_⟩:=h;have q:=Cq B;have p:=Cq A;have f:=Cq u;unfold part at q p f;rw[oI] at q p f;have M:t.data.toList.length=10:=by rw[fM];exact F
 intro j H r;have d:j<t.data.toList.length:=UU
 have e:t.data.toList[j]=47:=by
  rw[Xb d] at r;exact WY r
 have E:j<4->False:=fun J=>Bt q (c:=t.data.toList[j]) (by
  rw[Xg];exact⟨j,by rw[Xh,Xi];simp[J]⟩) e
 have D:5<=j->j<7->False:=fun O I=>Bt p (c:=t.data.toList[j]) (by
  rw[Xg];exact⟨j-5,by rw[Xh,Xi];simp[show 5+(j-5)=j from by omega,I]⟩) e
 have C:8<=j->False:=fun N=>Bt f (c:=t.data.toList[j]) (by
  rw[Xg];exact⟨j-8,by rw[Xh,Xi];simp[show 8+(j-8)=j from by omega,H]⟩) e
 have g:∀ k:U8,j=k->dP t k=47:=fun k G=>by
  subst G;unfold dP;rw[Xa,Xb d,e];rfl
 by_cases c4:j=4
 ·have:=g 4 c4;omega
 ·by_cases K:j=7
  ·have:=g 7 K;omega
  ·by_cases c1:j<4
   ·exact E c1
   ·by_cases c2:j<7
    ·exact D UU c2
    ·exact C UU
theorem Bf(l:U5 UInt8)(i:U8):Xj l [47] i=Vg↔l[i]?=Ve 47:=by
 unfold Xj;rw[<- List.head?_drop]
 cases l.drop i with
 |nil=>simp[Xk]
 |cons b r=>simp[Xk];exact eq_comm
theorem FM(h:s.size=16)(d:dP s 10=47)(q:iI (s.extract 0 10)=Vg):iU s=s.extract 0 10/\iV s=s.extract 11 16/\ox s=Vg:=by
 have r:s.data.toList.length=16:=by rw[fM];exact h
 have f:s.data.toList[10]?=Ve 47:=by
  unfold dP at d;rw[Xa,Xb UU] at d;rw[Xb UU];have:(s.data.toList[10]'UU).toNat=47:=by simpa using (by exact_mod_cast d:_)
  rw[show s.data.toList[10]'UU=47 from UInt8.toNat_inj.1 (by simpa using this)]
 have p:Xl s.data.toList [47]=10:=Lib.index_first (i:=10) UU ((Bf _ _).2 f) (fun j g=>by
  cases k:Xj s.data.toList [47] j with
  |false=>rfl
  |true =>
   have:=TQ _ q j g;rw[oI,List.drop_zero,Xi,Vb g] at this
   exact Vc ((Bf _ _).1 k) this)
 have c:Xd s.data.toList [47]=(s.data.toList.take 10,s.data.toList.drop 11,Vg):=by
  unfold Xd;rw[p];rfl
 refine⟨pH ?_,pH ?_,?_⟩
 ·simp only[iU,c,oI];simp
 ·simp only[iV,c,oI];rw[Wi UU]
 ·simp[ox,c]
theorem Ow(s:U4):(ox s && iI (iU s) && dA (iV s))=iQ s/\(iQ s=Vg->eH (iU s)*1440+fo (iV s)=kh s):=by
 have key:(ox s && iI (iU s) && dA (iV s))=iQ s:=by
  rw[Xc];constructor
  ·intro h;simp only[W7] at h;obtain⟨⟨F,c⟩,p⟩:=h;have s1:(iU s).size=10:=(of_decide_eq_true c).1;have A:(iV s).size=5:=(of_decide_eq_true p).1
   have f:0<=Xl s.data.toList [47]:=by
    by_cases f:0<=Xl s.data.toList [47]
    ·exact f
    ·simp[ox,Xd,f] at F
   obtain⟨i,d⟩:=Xm f;have C:=Lib.index_room s.data.toList [47] f
   have u:Xd s.data.toList [47]=(s.data.toList.take i,s.data.toList.drop (i+1),Vg):=by
    unfold Xd;rw[Vb f,d];simp
   have k:s.data.toList[i]?=Ve 47:=by
    rcases Lib.index_spec s.data.toList [47] with ⟨h,_⟩|⟨j,E,_,D,_⟩
    ·omega
    ·rw[d] at E;have:i=j:=UU
     subst this;exact (Bf _ _).1 D
   rw[d] at C;simp only[List.length_singleton,fM] at C
   have I:min i s.size=10:=by
    rw[<- fM] at s1;simp only[iU,u] at s1;simpa using s1
   have H:s.size-(i+1)=5:=by
    rw[<- fM] at A;simp only[iV,u] at A;simpa using A
   have B:i=10:=UU
   have g:s.size=16:=UU
   subst B;have t:iU s=s.extract 0 10:=pH (by simp only[iU,u,oI];simp);have r:iV s=s.extract 11 16:=pH (by simp only[iV,u,oI];rw[Wi (by rw[fM];omega)]);rw[t] at c;rw[r] at p
   have q:dP s 10=47:=by
    unfold dP;rw[Xa,k];rfl
   exact decide_eq_true ⟨g,q,c,p⟩
  ·intro h;obtain⟨g,q,c,p⟩:=of_decide_eq_true h;obtain⟨t,r,G⟩:=FM g q c;rw[t,r,G,c,p];rfl
 refine⟨key,fun h=>?_⟩;obtain⟨g,q,c,_⟩:=of_decide_eq_true h;obtain⟨t,r,_⟩:=FM g q c;rw[t,r];simp[kh,h]
end Go.Proofs.YtfigmlfdnickmaaGreatDoor.aB
namespace Go.Proofs.YtfigmlfdnickmaaGreatDoor.aB
open Go
def lZ(b:U7)(pos:U8)(x:U5 (U8 × U8) × U6 U8):U5 (U8 × U8) × U6 U8 :=
 if b then (match x.2 with|some a=>(x.1++[(a,pos)],Vd)|none=>(x.1,Vd)) else (x.1,Ve (x.2.getD pos))
def eM(s:U4):U8->U5 (U8 × U8) × U6 U8
 |0=>([],Vd)
 |k+1=>lZ (decide (dP s k=32)) k (eM s k)
def aP(s:U4):U5 U4:=(Xn s (eM s s.size)).map fun x=>s.extract x.1 x.2
theorem IG(s:U4)(i:U8)(h:i<s.size):(s.get! i).toNat=(dP s i).toNat:=by
 unfold dP;rw[Xa,Xb (by simpa using h)];simp only[Xo,Int.toNat_natCast]
 congr 1
 cases s with
 |mk a=>simp only[ByteArray.get!];rw[getElem!_pos a i h];simp
theorem TS(s:U4)(i:U8)(h:i<s.size):
  ((s.get! i).toNat<128/\Xp s i=((s.get! i).toNat,1)) \/
  (128<=(Xp s i).1/\1<=(Xp s i).2/\∀ j,j<(Xp s i).2->128<=(s.get! (i+j)).toNat/\i+j<s.size):=by
 unfold Xp;simp only[Xq]
 by_cases d:(s.get! i).toNat<128
 ·left;exact⟨d,by rw[Vb UU]⟩
 ·right;rw[Va UU]
  have one:∀ j,j<1->128<=(s.get! (i+j)).toNat/\i+j<s.size:=fun j c=>by
   obtain rfl:j=0:=UU
   exact⟨by simpa using d,by omega⟩
  split
  ·rename_i hc
   simp only[W7,decide_eq_true_eq,beq_iff_eq] at hc
   split
   ·refine⟨by simp only;omega,by simp,fun j c=>?_⟩;simp only at c;rcases (show j=0\/j=1 by omega) with rfl|rfl
    ·exact one 0 UU
    ·exact⟨by omega,by omega⟩
   ·exact⟨by simp[Xr],by simp,one⟩
  ·split
   ·rename_i hc
    simp only[W7,decide_eq_true_eq,beq_iff_eq] at hc
    split
    ·rename_i hv
     simp only[W7,decide_eq_true_eq] at hv;refine⟨by simp only;omega,by simp,fun j c=>?_⟩;simp only at c;rcases (show j=0\/j=1\/j=2 by omega) with rfl|rfl|rfl
     ·exact one 0 UU
     ·exact⟨by omega,by omega⟩
     ·exact⟨by omega,by omega⟩
    ·exact⟨by simp[Xr],by simp,one⟩
   ·split
    ·rename_i hc
     simp only[W7,decide_eq_true_eq,beq_iff_eq] at hc
     split
     ·rename_i hv
      simp only[W7,decide_eq_true_eq] at hv;refine⟨by simp only;omega,by simp,fun j c=>?_⟩;simp only at c;rcases (show j=0\/j=1\/j=2\/j=3 by omega) with rfl|rfl|rfl|rfl
      ·exact one 0 UU
      ·exact⟨by omega,by omega⟩
      ·exact⟨by omega,by omega⟩
      ·exact⟨by omega,by omega⟩
     ·exact⟨by simp[Xr],by simp,one⟩
    ·exact⟨by simp[Xr],by simp,one⟩
theorem Pf(s:U4)(pos:U8):∀ n:U8,(∀ j,j<n+1->dP s (pos+j)≠32)->eM s (pos+(n+1))=((eM s pos).1,Ve ((eM s pos).2.getD pos)):=by
 intro n
 induction n with
 |zero =>
  intro h;have:=h 0 UU;simp only[Xq] at this;show lZ _ pos (eM s pos)=_;rw[decide_eq_false this];rfl
 |succ n ih =>
  intro h;have i:=ih (fun j c=>h j UU);have:=h (n+1) UU;show lZ (decide (dP s (pos+(n+1))=32)) (pos+(n+1)) (eM s (pos+(n+1)))=_;rw[decide_eq_false this,i];rfl
theorem P3(s:U4):∀ (f pos:U8),pos<=s.size->s.size-pos<=f->Xs (fun r=>r==32) s f pos (eM s pos).2 (eM s pos).1=eM s s.size:=by
 intro f
 induction f with
 |zero =>
  intro pos C B;obtain rfl:pos=s.size:=UU
  rfl
 |succ f ih =>
  intro pos C B
  by_cases c:pos<s.size
  ·unfold Xs;rw[Vb c];rcases TS s pos c with ⟨G,A⟩|⟨F,E,k⟩
   ·rw[A];simp only;have D:=IG s pos c;have p:0<=dP s pos:=by unfold dP;omega
    have i:=ih (pos+1) UU UU;have st:eM s (pos+1)=lZ (decide (dP s pos=32)) pos (eM s pos):=rfl
    by_cases g:dP s pos=32
    ·have e:((s.get! pos).toNat==32)=Vg:=by rw[beq_iff_eq];omega
     rw[e,Vb rfl];rw[decide_eq_true g] at st
     cases d:(eM s pos).2 with
     |none=>simp only;rw[st] at i;simp only[lZ,d,if_true] at i;exact i
     |some a=>simp only;rw[st] at i;simp only[lZ,d,if_true] at i;exact i
    ·have e:((s.get! pos).toNat==32)=Vf:=by rw[beq_eq_false_iff_ne];omega
     rw[e,Va UW];rw[decide_eq_false g] at st
     cases d:(eM s pos).2 with
     |none=>simp only;rw[st] at i;simp only[lZ,d,Vx,if_false,Xt] at i;exact i
     |some a=>simp only;rw[st] at i;simp only[lZ,d,Vx,if_false,Xo] at i;exact i
   ·have e:((Xp s pos).1==32)=Vf:=by rw[beq_eq_false_iff_ne];omega
    rw[e,Va UW];obtain⟨n,t⟩:∃ n,(Xp s pos).2=n+1:=⟨(Xp s pos).2-1,by omega⟩;have h:=k ((Xp s pos).2-1) UU
    have st:=Pf s pos n (fun j u=>by
     have q:=k j UU;have D:=IG s (pos+j) q.2;have p:0<=dP s (pos+j):=by unfold dP;omega
     omega)
    have i:=ih (pos+(n+1)) UU UU;rw[st] at i;rw[t]
    cases d:(eM s pos).2 with
    |none=>simp only;simp only[d,Xt] at i;exact i
    |some a=>simp only;simp only[d,Xo] at i;exact i
  ·obtain rfl:pos=s.size:=UU
   unfold Xs;rw[Va c]
theorem TV(s:U4):Xu (fun r=>r==32) s=aP s:=by
 unfold Xu Lib.spansOfP aP;have:=P3 s s.size 0 (zN _) UU;rw[show (eM s 0).2=Vd from rfl,show (eM s 0).1=[] from rfl] at this;rw[this]
end Go.Proofs.YtfigmlfdnickmaaGreatDoor.aB
namespace Go.Proofs.YtfigmlfdnickmaaGreatDoor.aB
open Go
def eG(s:U4)(k:U8):U4:=match (eM s k).2 with|none=>⟨#[]⟩|some a=>s.extract a k
def jF(s:U4)(k:U8):U5 U4:=(eM s k).1.map fun x=>s.extract x.1 x.2
theorem xF(s:U4):∀ (k a:U8),(eM s k).2=Ve a->a<k
 |0,a,h=>by simp[eM] at h
 |k+1,a,h=>by
  simp only[eM,lZ] at h
  split at h
  ·split at h <;> simp at h
  ·simp only[Option.some.injEq] at h
   cases c:(eM s k).2 with
   |none=>rw[c] at h;simp at h;omega
   |some b=>rw[c] at h;simp at h;have:=xF s k b c;omega
theorem rj(a b:U4):(a++b).data.toList=a.data.toList++b.data.toList:=by
 rw[ByteArray.data_append,Array.toList_append]
theorem OB(s:U4)(a k:U8)(h:a<=k):s.extract a k++s.extract k (k+1)=s.extract a (k+1):=by
 apply pH;rw[rj,oI,oI,oI]
 have d:(s.data.toList.take k).drop a=((s.data.toList.take (k+1)).drop a).take (k-a):=by
  rw[Xe,Xe,List.take_take,show min (k-a) (k+1-a)=k-a from by omega]
 have c:(s.data.toList.take (k+1)).drop k=((s.data.toList.take (k+1)).drop a).drop (k-a):=by
  rw[List.drop_drop,show a+(k-a)=k from by omega]
 rw[d,c,Wb]
theorem xz(s:U4)(k:U8):(eG s k).size<=k:=by
 unfold eG
 split
 ·exact zN _
 ·have:∀ a b,(s.extract a b).size=min b s.size-a:=fun a b=>Xv ..
  rw[this];omega
theorem QV(b:U4):(⟨#[]⟩:U4)++b=b:=by
 apply pH;rw[rj];rfl
theorem xy(s:U4)(k:U8)(h:dP s k≠32):eG s k++s.extract k (k+1)=eG s (k+1)/\jF s (k+1)=jF s k:=by
 have e:eM s (k+1)=((eM s k).1,Ve ((eM s k).2.getD k)):=by simp only[eM,lZ,decide_eq_false h];rfl
 refine⟨?_,by unfold jF;rw[e]⟩;unfold eG;rw[e]
 cases c:(eM s k).2 with
 |none=>simp only[Xt];exact QV _
 |some a=>simp only[Xo];exact OB s a k (Nat.le_of_lt (xF s k a c))
theorem xK(s:U4)(k:U8)(g:k<=s.size)(h:dP s k=32):eG s (k+1)=⟨#[]⟩/\jF s (k+1)=jF s k++(if (eG s k).size=0 then [] else [eG s k]):=by
 have e:eM s (k+1)=lZ Vg k (eM s k):=by simp only[eM,decide_eq_true h]
 cases d:(eM s k).2 with
 |none =>
  have f:eM s (k+1)=((eM s k).1,Vd):=by rw[e];simp[lZ,d]
  have c:eG s k=⟨#[]⟩:=by unfold eG;rw[d]
  refine⟨by unfold eG;rw[f],?_⟩;rw[c];unfold jF;rw[f];simp;rfl
 |some a =>
  have f:eM s (k+1)=((eM s k).1++[(a,k)],Vd):=by rw[e];simp[lZ,d]
  have c:eG s k=s.extract a k:=by unfold eG;rw[d]
  have lt:=xF s k a d;have sz:(s.extract a k).size=min k s.size-a:=Xv ..;refine⟨by unfold eG;rw[f],?_⟩;rw[c,Va UU];unfold jF;rw[f];simp
theorem vq(s:U4):aP s=jF s s.size++(if (eG s s.size).size=0 then [] else [eG s s.size]):=by
 unfold aP jF eG Xn
 cases c:(eM s s.size).2 with
 |none=>simp;rfl
 |some a =>
  have lt:=xF s _ a c;have sz:(s.extract a s.size).size=min s.size s.size-a:=Xv ..;simp only;rw[Va UU];simp
theorem qE(s:U4):∀ k:U8,(jF s k).length<=k
 |0=>zq _
 |k+1=>by
  have ih:=qE s k;unfold jF at *;rw[WL] at *;simp only[eM,lZ]
  split
  ·split <;> simp <;> omega
  ·simp;omega
end Go.Proofs.YtfigmlfdnickmaaGreatDoor.aB
namespace Go.Proofs.YtfigmlfdnickmaaGreatDoor.aB
open Go
def dC(l:U5 UInt8):U9 :=
 if l==[109,111] then 0 else if l==[116,117] then 1 else if l==[119,101] then 2 else if l==[116,104] then 3 else if l==[102,114] then 4 else if l==[115,97] then 5 else if l==[115,117] then 6 else -1
theorem xq(l:U5 UInt8):-1<=dC l/\dC l<=6:=by
 unfold dC;(repeat' split) <;> omega
theorem Sb(h:0<=dC l):l=[109,111]\/l=[116,117]\/l=[119,101]\/l=[116,104]\/l=[102,114]\/l=[115,97]\/l=[115,117]:=by
 unfold dC at h
 by_cases c0:(l==[109,111])=Vg
 ·exact .inl (beq_iff_eq.1 c0)
 ·rw[Va c0] at h
  by_cases c1:(l==[116,117])=Vg
  ·exact .inr (.inl (beq_iff_eq.1 c1))
  ·rw[Va c1] at h
   by_cases c2:(l==[119,101])=Vg
   ·exact .inr (.inr (.inl (beq_iff_eq.1 c2)))
   ·rw[Va c2] at h
    by_cases c3:(l==[116,104])=Vg
    ·exact .inr (.inr (.inr (.inl (beq_iff_eq.1 c3))))
    ·rw[Va c3] at h
     by_cases c4:(l==[102,114])=Vg
     ·exact .inr (.inr (.inr (.inr (.inl (beq_iff_eq.1 c4)))))
     ·rw[Va c4] at h
      by_cases c5:(l==[115,97])=Vg
      ·exact .inr (.inr (.inr (.inr (.inr (.inl (beq_iff_eq.1 c5))))))
      ·rw[Va c5] at h
       by_cases c:(l==[115,117])=Vg
       ·exact .inr (.inr (.inr (.inr (.inr (.inr (beq_iff_eq.1 c))))))
       ·rw[Va c] at h;omega
theorem O2(h:0<=dC l):l.length=2/\44 ∉ l:=by
 rcases Sb h with rfl|rfl|rfl|rfl|rfl|rfl|rfl <;> decide
theorem vD(h:¬ (l.length=2/\44 ∉ l)):dC l=-1:=by
 have b:=xq l
 by_cases g:0<=dC l
 ·exact Vc (O2 g) h
 ·omega
def jM(acc:U5 U9)(d:U9):U6 (U5 U9):=if 0<=d/\acc.contains d=Vf then Ve (d :: acc) else Vd
def nz:U5 (U5 UInt8)->U5 U9->U6 (U5 U9)
 |[],acc=>Ve acc
 |p :: ps,acc=>(jM acc (dC p)).bind (nz ps)
def iz:U5 UInt8->U5 U9->U6 (U5 U9)
 |[a,b],acc=>jM acc (dC [a,b])
 |a :: b :: c :: r,acc=>if c=44 then (jM acc (dC [a,b])).bind (iz r) else Vd
 |_,_=>Vd
def sp:U5 UInt8->U5 (U5 UInt8)
 |[]=>[[]]
 |c :: l=>if c=44 then [] :: sp l else (match sp l with| []=>[[c]]|p :: ps=>(c :: p) :: ps)
theorem vG(acc:U5 U9):jM acc (-1)=Vd:=by simp[jM]
theorem On(l:U5 UInt8):sp l≠[]:=by
 cases l with
 |nil=>simp[sp]
 |cons c l=>unfold sp;split;simp;split <;> simp
theorem re{p:U5 UInt8}(c:U5 (U5 UInt8))(acc:U5 U9)(h:¬ (p.length=2/\44 ∉ p)):nz (p :: c) acc=Vd:=by
 simp[nz,vD h,vG]
theorem DB:∀ (l:U5 UInt8)(acc r:U5 U9),iz l acc=Ve r->l.length % 3=2
 |[],_,_,h=>by simp[iz] at h
 |[_],_,_,h=>by simp[iz] at h
 |[_,_],_,_,_=>rfl
 |a :: b :: c :: l,acc,r,h=>by
  unfold iz at h
  split at h
  ·simp only[Option.bind_eq_some_iff] at h;obtain⟨x,_,h⟩:=h;have:=DB l x r h;simp only[V6];omega
  ·cases h
theorem tU(c:UInt8)(l:U5 UInt8)(h:c≠44):∃ p ps,sp l=p :: ps/\sp (c :: l)=(c :: p) :: ps:=by
 cases d:sp l with
 |nil=>exact Vc d (On l)
 |cons p ps=>exact⟨p,ps,rfl,by simp[sp,h,d]⟩
theorem sN(l:U5 UInt8):sp (44 :: l)=[] :: sp l:=by simp[sp]
theorem Ga:∀ (l:U5 UInt8)(acc:U5 U9),nz (sp l) acc=iz l acc
 |[],acc=>by rw[show sp []=[[]] from rfl,re _ _ UV];rfl
 |[a],acc=>by
  by_cases g:a=44
  ·subst g;rw[sN,re _ _ UV];rfl
  ·obtain⟨p,B,f,r⟩:=tU a [] g;simp only[sp,Xw] at f;obtain⟨rfl,rfl⟩:=f;rw[r,re _ _ UV];rfl
 |[a,b],acc=>by
  by_cases g:a=44
  ·subst g;rw[sN,re _ _ UV,iz,vD UV,vG]
  ·obtain⟨p,B,f,r⟩:=tU a [b] g;rw[r]
   by_cases k:b=44
   ·subst k;rw[sN] at f;simp only[Xw] at f;obtain⟨rfl,rfl⟩:=f;rw[re _ _ UV,iz,vD UV,vG]
   ·obtain⟨D,t,d,h⟩:=tU b [] k;simp only[sp,Xw] at d;obtain⟨rfl,rfl⟩:=d;rw[h] at f;simp only[Xw] at f;obtain⟨rfl,rfl⟩:=f;simp only[nz,iz]
    cases jM acc (dC [a,b]) <;> rfl
 |a :: b :: c :: l,acc=>by
  have ih:=Ga l
  by_cases g:a=44
  ·subst g;rw[sN,re _ _ UV,iz,vD UV,vG]
   split <;> rfl
  ·obtain⟨p,B,f,r⟩:=tU a (b :: c :: l) g;rw[r]
   by_cases k:b=44
   ·subst k;rw[sN] at f;simp only[Xw] at f;obtain⟨rfl,rfl⟩:=f;rw[re _ _ UV,iz,vD UV,vG]
    split <;> rfl
   ·obtain⟨D,t,d,h⟩:=tU b (c :: l) k;rw[h] at f;simp only[Xw] at f;obtain⟨rfl,rfl⟩:=f
    by_cases u:c=44
    ·subst u;rw[sN] at d;simp only[Xw] at d;obtain⟨rfl,rfl⟩:=d;simp only[nz,iz,if_true]
     cases jM acc (dC [a,b]) with
     |none=>rfl
     |some x=>exact ih x
    ·obtain⟨C,A,_,q⟩:=tU c l u;rw[q] at d;simp only[Xw] at d;obtain⟨rfl,rfl⟩:=d;rw[re _ _ UV,iz,Va u]
theorem RA(c:UInt8)(l:U5 UInt8)(h:c≠44):Xl (c :: l) [44]=if Xl l [44]==-1 then -1 else Xl l [44]+1:=by
 rw[Xl];have:([44]:U5 UInt8).isPrefixOf (c :: l)=Vf:=by simp[Xk];exact fun e=>h e.symm
 rw[this];rfl
theorem Tc(l:U5 UInt8):Xl (44 :: l) [44]=0:=by
 rw[Xl];simp[Xk]
theorem TC(c:UInt8)(l:U5 UInt8)(h:c≠44)(k:U8):∃ p ps,Xx [44] 0 k l=p :: ps/\Xx [44] 0 k (c :: l)=(c :: p) :: ps:=by
 cases k with
 |zero=>exact⟨l,[],rfl,rfl⟩
 |succ k =>
  unfold Xx;rw[RA c l h]
  by_cases d:(Xl l [44]==-1)=Vg
  ·rw[Vb d,Vb d];exact⟨l,[],rfl,rfl⟩
  ·rw[Va d,Va d];have g:=Lib.index_ge l [44];have q:Xl l [44]≠-1:=fun e=>d (beq_iff_eq.2 e)
   rw[Va (by rw[beq_iff_eq];omega)];refine⟨_,_,rfl,?_⟩;obtain⟨i,f⟩:=Xm (show 0<=Xl l [44] by omega);rw[f,show ((i:U9)+1).toNat=i+1 from by omega,show ((i:U9)).toNat=i from by omega];simp
theorem G5:∀ l:U5 UInt8,Xx [44] 0 (l.count 44) l=sp l
 |[]=>rfl
 |c :: l=>by
  have ih:=G5 l
  by_cases h:c=44
  ·subst h;rw[List.count_cons_self,sN,<- ih];rw[Xx,Tc];simp
  ·rw[List.count_cons_of_ne (by simpa using h)];obtain⟨p,g,d,f⟩:=TC c l h (l.count 44);rw[f];rw[ih] at d;simp[sp,h,d]
def iq(s:U4):U6 (U5 U9):=iz s.data.toList []
def dU(s:U4):U7:=(iq s).isSome
theorem Rt(s:U4):nz ((Lib.splitB ⟨#[44]⟩ 0 (Lib.countB s ⟨#[44]⟩) s).map (·.data.toList)) []=iq s:=by
 rw[Lib.splitB_data];have c:Lib.countB s ⟨#[44]⟩=s.data.toList.count 44:=Lib.count_one 44 s.data.toList;rw[c,show (ByteArray.mk #[44]).data.toList=[44] from rfl,G5,Ga];rfl
end Go.Proofs.YtfigmlfdnickmaaGreatDoor.aB
namespace Go.Proofs.YtfigmlfdnickmaaGreatDoor
def aI(acc:U5 U9)(j:U9):U7:=acc.contains j
end Go.Proofs.YtfigmlfdnickmaaGreatDoor
namespace Go.Proofs.YtfigmlfdnickmaaGreatDoor
theorem CG{α:Type}{lt:α->α->Prop}(d:∀ x,¬ lt x x)(ht:∀ x y z,lt x y->lt y z->lt x z):∀ {l m:U5 α},l.Pairwise lt->m.Pairwise lt->(∀ x,x∈l↔x∈m)->l=m
 |[],[],_,_,_=>rfl
 |[],y :: m,_,_,h=>by have:=(h y).2 UV;simp at this
 |x :: l,[],_,_,h=>by have:=(h x).1 UV;simp at this
 |x :: l,y :: m,hl,hm,h=>by
  rw[VO] at hl hm
  have e:x=y:=by
   rcases VA.1 ((h x).1 UV) with e|e
   ·exact e
   ·rcases VA.1 ((h y).2 UV) with k|k
    ·exact k.symm
    ·exact Vc (ht _ _ _ (hl.1 y k) (hm.1 x e)) (d x)
  subst e
  congr 1
  refine CG d ht hl.2 hm.2 (fun z=>?_);constructor
  ·intro c;rcases VA.1 ((h z).1 (by simp[c])) with e|e
   ·subst e;exact Vc (hl.1 z c) (d z)
   ·exact e
  ·intro c;rcases VA.1 ((h z).2 (by simp[c])) with e|e
   ·subst e;exact Vc (hm.1 z c) (d z)
   ·exact e
namespace Rd
def fV(p:U9->U7):U8->U9->U5 U9
 |0,_=>[]
 |k+1,d=>if p d then d :: fV p k (d+1) else fV p k (d+1)
theorem yi(p:U9->U7):∀ (k:U8)(d x:U9),x∈fV p k d↔d<=x/\x<d+k/\p x=Vg
 |0,d,x=>by simp[fV];omega
 |k+1,d,x=>by
  have ih:=yi p k (d+1) x;simp only[fV]
  by_cases c:p d=Vg
  ·rw[Vb c,VA,ih];constructor
   ·rintro (rfl|⟨h,g,f⟩)
    ·exact⟨Xy _,by omega,c⟩
    ·exact⟨by omega,by omega,f⟩
   ·rintro ⟨h,g,f⟩
    by_cases e:x=d
    ·exact .inl e
    ·exact .inr ⟨by omega,by omega,f⟩
  ·rw[Va c,ih];constructor
   ·rintro ⟨h,g,f⟩;exact⟨by omega,by omega,f⟩
   ·rintro ⟨h,g,f⟩;have:x≠d:=fun e=>c (e ▸ f)
    exact⟨by omega,by omega,f⟩
theorem uj(p:U9->U7):∀ (k:U8)(d:U9),(fV p k d).Pairwise (· < ·)
 |0,d=>by simp[fV]
 |k+1,d=>by
  simp only[fV]
  split
  ·rw[VO];exact⟨fun x c=>by have:=(yi p k (d+1) x).1 c;omega,uj p k (d+1)⟩
  ·exact uj p k (d+1)
theorem Sa{l m:U5 U9}(d:l.Pairwise (· < ·))(c:m.Pairwise (· < ·))(h:∀ x,x∈l↔x∈m):l=m :=
 CG (lt:=fun a b:U9=>a<b) (fun x=>by omega) (fun x y z h k=>by omega) d c h
def iG(ev:U9):U8->U9->U5 U9
 |0,_=>[]
 |k+1,d=>if d<728 then d :: iG ev k (d+ev) else []
theorem Gz{ev:U9}(p:1<=ev):∀ (k:U8)(d x:U9),728<=d+k->(x∈iG ev k d↔d<=x/\x<728/\(x-d) % ev=0)
 |0,d,x,h=>by simp[iG];omega
 |k+1,d,x,h=>by
  simp only[iG]
  by_cases c:d<728
  ·rw[Vb c,VA,Gz p k (d+ev) x UU];have r:(x-(d+ev)) % ev=(x-d) % ev:=by rw[show x-(d+ev)=x-d-ev from by omega,Xz]
   rw[r];constructor
   ·rintro (rfl|⟨q,g,f⟩)
    ·exact⟨Xy _,c,by simp⟩
    ·exact⟨by omega,g,f⟩
   ·rintro ⟨q,g,f⟩
    by_cases e:d+ev<=x
    ·exact .inr ⟨e,g,f⟩
    ·rw[XA UU UU] at f;exact .inl UU
  ·rw[Va c];simp;omega
theorem Bk{ev:U9}(h:1<=ev):∀ (k:U8)(d:U9),(iG ev k d).Pairwise (· < ·)/\∀ x∈iG ev k d,d<=x
 |0,d=>by simp[iG]
 |k+1,d=>by
  simp only[iG];obtain⟨g,f⟩:=Bk h k (d+ev)
  split
  ·refine⟨VO.2 ⟨fun x c=>by have:=f x c;omega,g⟩,fun x c=>?_⟩;rcases VA.1 c with rfl|c
   ·exact Xy _
   ·have:=f x c;omega
  ·simp
def oA(acc:U5 U9)(fr c:U9):U5 U9:=fV (fun d=>aI acc (d-c)) (c+7-max c fr).toNat (max c fr)
def iw(acc:U5 U9)(fr ev:U9):U8->U9->U5 U9
 |0,_=>[]
 |k+1,mon=>if mon<728 then oA acc fr mon++iw acc fr ev k (mon+ev*7) else []
theorem Bv{c:U9}:x∈oA acc fr c↔c<=x/\fr<=x/\x<c+7/\aI acc (x-c)=Vg:=by
 unfold oA;rw[yi];constructor
 ·rintro ⟨h,g,d⟩;exact⟨by omega,by omega,by omega,d⟩
 ·rintro ⟨h,g,d,f⟩;exact⟨by omega,by omega,f⟩
theorem GB{acc:U5 U9}{fr ev:U9}(A:1<=ev):∀ (k:U8)(d x:U9),0<=d->d % 7=0->728<=d+k->(x∈iw acc fr ev k d↔d<=x/\fr<=x/\x<728/\aI acc (x % 7)=Vg/\(x / 7-d / 7) % ev=0)
 |0,d,x,h0,h7,h=>by simp[iw];omega
 |k+1,d,x,h0,h7,h=>by
  simp only[iw]
  by_cases c:d<728
  ·have u:(ev*7) % 7=0:=UU
   rw[Vb c,VB,Bv,GB A k (d+ev*7) x UU UU UU];have D:(d+ev*7) / 7=d / 7+ev:=UU
   have C:(x / 7-(d+ev*7) / 7) % ev=(x / 7-d / 7) % ev:=by rw[D,show x / 7-(d / 7+ev)=x / 7-d / 7-ev from by omega,Xz]
   rw[C];constructor
   ·rintro (⟨r,g,q,f⟩|⟨r,g,q,f,p⟩)
    ·have t:x-d=x % 7:=UU
     have B:x / 7-d / 7=0:=UU
     rw[t] at f;rw[B];exact⟨r,g,by omega,f,by simp⟩
    ·exact⟨by omega,g,q,f,p⟩
   ·rintro ⟨r,g,q,f,p⟩
    by_cases e:x<d+7
    ·have t:x-d=x % 7:=UU
     exact .inl ⟨r,g,e,by rw[t];exact f⟩
    ·by_cases E:d+ev*7<=x
     ·exact .inr ⟨E,g,q,f,p⟩
     ·rw[XA UU UU] at p;omega
  ·rw[Va c];simp;omega
theorem Bm{acc:U5 U9}{fr ev:U9}(p:1<=ev):∀ (k:U8)(c:U9),(iw acc fr ev k c).Pairwise (· < ·)/\∀ x∈iw acc fr ev k c,c<=x
 |0,c=>by simp[iw]
 |k+1,c=>by
  simp only[iw];obtain⟨g,f⟩:=Bm (acc:=acc) (fr:=fr) p k (c+ev*7)
  split
  ·refine⟨XC.2 ⟨uj _ _ _,g,fun x d y h=>?_⟩,fun x d=>?_⟩
   ·have:=Bv.1 d;have:=f y h;omega
   ·rcases VB.1 d with d|d
    ·exact (Bv.1 d).1
    ·have:=f x d;omega
  ·simp
def reached(y m:U9):U7:=Cal.ok y m 1 && decide (Cal.num y m 1<728)
def nh(y m ev:U9):U9:=y+(m-1+ev) / 12
def lY(m ev:U9):U9:=(m-1+ev) % 12+1
def pO(y m dt:U9):U5 U9:=if Cal.ok y m dt then [Cal.num y m dt] else []
def iH(dt ev:U9):U8->U9->U9->U5 U9
 |0,_,_=>[]
 |k+1,y,m=>if reached y m then pO y m dt++iH dt ev k (nh y m ev) (lY m ev) else []
theorem qO{d c f d':U9}(h:Cal.ok y m d=Vg)(g:Cal.ok c f d'=Vg)(k:12*y+m<12*c+f):Cal.num y m d<Cal.num c f d':=by
 have i:=Cal.vw y m d h;have q:=Cal.vw c f d' g;obtain⟨B,A,p,u,t,r⟩:=(Cal.gO y m d).1 h;obtain⟨H,G,F,E,D,C⟩:=(Cal.gO c f d').1 g
 by_cases e:y=c
 ·subst e;have:=Cal.Bs y m f p UU UU;unfold Cal.num;omega
 ·have:=Cal.sy (y+1) c UU UU;omega
theorem vJ(g:1<=y)(f:y<=9999)(d:1<=m)(c:m<=12):Cal.ok y m 1=Vg:=by
 have:=Cal.nU y m;exact (Cal.gO _ _ _).2 ⟨g,f,d,c,by omega,by omega⟩
theorem Jf(k:2024<=y)(g:y<=9999)(f:1<=m)(d:m<=12):reached y m=Vg↔12*y+m<=24312:=by
 have o:=vJ (m:=m) (by omega:1<=y) g f d;unfold reached;rw[o,Bool.true_and,decide_eq_true_eq];have q:Cal.num 2025 12 1=700:=UW
 have p:Cal.num 2026 1 1=731:=UW
 constructor
 ·intro h;apply XD;intro c
  by_cases e:12*y+m=24313
  ·have:y=2026:=UU
   have:m=1:=UU
   subst_vars;omega
  ·have:=qO (vJ (y:=2026) (m:=1) UU UU UU UU) o UU;omega
 ·intro h
  by_cases e:12*y+m=24312
  ·have:y=2025:=UU
   have:m=12:=UU
   subst_vars;omega
  ·have:=qO o (vJ (y:=2025) (m:=12) UU UU UU UU) UU;omega
theorem BA{ev:U9}:12*nh y m ev+lY m ev=12*y+m+ev/\1<=lY m ev/\lY m ev<=12:=by
 unfold nh lY;omega
theorem pI(u:0<=x)(t:x<728):Cal.ok (Cal.yT x) (Cal.mT x) (Cal.dT x)=Vg/\Cal.num (Cal.yT x) (Cal.mT x) (Cal.dT x)=x/\2024<=Cal.yT x/\12*Cal.yT x+Cal.mT x<=24312:=by
 obtain⟨o,n⟩:=Cal.tC x UU UU;refine⟨o,n,?_,?_⟩
 ·apply XD;intro c;obtain⟨q,p,k,h,g,f⟩:=(Cal.gO _ _ _).1 o;have:=qO o (vJ (y:=2024) (m:=1) UU UU UU UU) UU;have e:Cal.num 2024 1 1=0:=UW
  omega
 ·apply XD;intro c;obtain⟨q,p,k,h,g,f⟩:=(Cal.gO _ _ _).1 o;have B:Cal.num 2026 1 1=731:=UW
  have d:=vJ (y:=2026) (m:=1) UU UU UU UU
  by_cases e:12*Cal.yT x+Cal.mT x=24313
  ·have:Cal.yT x=2026:=UU
   have r:Cal.mT x=1:=UU
   rw[this,r] at n
   have A:Cal.num 2026 1 (Cal.dT x)=731+Cal.dT x-1:=by
    have:Cal.num 2026 1 (Cal.dT x)=Cal.num 2026 1 1+Cal.dT x-1:=by unfold Cal.num;omega
    omega
   omega
  ·have:=qO d o UU;omega
theorem GA{dt ev:U9}(B:1<=ev)(q:ev<=99):∀ (k:U8)(y m x:U9),2024<=y->y<=2034->1<=m->m<=12->24312<12*y+m+k->0<=x->x<728 ->
  (x∈iH dt ev k y m↔Cal.dT x=dt/\12*y+m<=12*Cal.yT x+Cal.mT x/\(12*Cal.yT x+Cal.mT x-12*y-m) % ev=0)
 |0,y,m,x,hy,hy2,hm,hm2,hk,h0,h1=>by
  have:=(pI h0 h1).2.2.2;simp[iH];omega
 |k+1,y,m,x,hy,hy2,hm,hm2,hk,h0,h1=>by
  obtain⟨o,n,F,G⟩:=pI h0 h1;obtain⟨N,M,K,J,I,H⟩:=(Cal.gO _ _ _).1 o;simp only[iH];have r:=Jf (y:=y) (m:=m) hy UU hm hm2
  by_cases c:12*y+m<=24312
  ·rw[Vb (r.2 c),VB];obtain⟨l1,u,t⟩:=BA (y:=y) (m:=m) (ev:=ev);rw[GA B q k (nh y m ev) (lY m ev) x UU UU u t UU h0 h1]
   have E:(12*Cal.yT x+Cal.mT x-12*nh y m ev-lY m ev) % ev=(12*Cal.yT x+Cal.mT x-12*y-m) % ev:=by
    rw[show 12*Cal.yT x+Cal.mT x-12*nh y m ev-lY m ev=12*Cal.yT x+Cal.mT x-12*y-m-ev from by omega,Xz]
   rw[E,l1]
   have p:x∈pO y m dt↔Cal.dT x=dt/\12*y+m=12*Cal.yT x+Cal.mT x:=by
    unfold pO;constructor
    ·intro h
     by_cases ok:Cal.ok y m dt=Vg
     ·rw[Vb ok] at h;have:x=Cal.num y m dt:=by simpa using h
      obtain⟨d,g,f⟩:=Cal.AM y m dt x ok this.symm;exact⟨f.symm,by omega⟩
     ·rw[Va ok] at h;simp at h
    ·rintro ⟨d,g⟩;have D:y=Cal.yT x:=UU
     have C:m=Cal.mT x:=UU
     subst d;rw[D,C,Vb o,n];simp
   rw[p];constructor
   ·rintro (⟨d,g⟩|⟨d,g,f⟩)
    ·refine⟨d,by omega,?_⟩;rw[show 12*Cal.yT x+Cal.mT x-12*y-m=0 from by omega];simp
    ·exact⟨d,by omega,f⟩
   ·rintro ⟨d,g,f⟩
    by_cases e:12*y+m+ev<=12*Cal.yT x+Cal.mT x
    ·exact .inr ⟨d,e,f⟩
    ·rw[XA UU UU] at f;exact .inl ⟨d,by omega⟩
  ·have A:¬ reached y m=Vg:=fun h=>c (r.1 h)
   rw[Va A];simp;omega
theorem Bl{dt ev:U9}(t:1<=ev):∀ (k:U8)(y m:U9),1<=m->m<=12->(iH dt ev k y m).Pairwise (· < ·)/\∀ x∈iH dt ev k y m,∃ d f,Cal.ok d f dt=Vg/\x=Cal.num d f dt/\12*y+m<=12*d+f
 |0,y,m,_,_=>by simp[iH]
 |k+1,y,m,h1,h2=>by
  simp only[iH];obtain⟨l1,q,p⟩:=BA (y:=y) (m:=m) (ev:=ev);obtain⟨h,g⟩:=Bl (dt:=dt) t k (nh y m ev) (lY m ev) q p
  split
  ·unfold pO
   by_cases ok:Cal.ok y m dt=Vg
   ·rw[Vb ok];refine⟨XC.2 ⟨by simp,h,fun x c z r=>?_⟩,fun x c=>?_⟩
    ·have:x=Cal.num y m dt:=by simpa using c
     obtain⟨d,f,o,rfl,k⟩:=g z r;rw[this];exact qO ok o UU
    ·rcases VB.1 c with c|c
     ·have:x=Cal.num y m dt:=by simpa using c
      exact⟨y,m,ok,this,Xy _⟩
     ·obtain⟨d,f,o,e,k⟩:=g x c;exact⟨d,f,o,e,by omega⟩
   ·rw[Va ok];refine⟨by simpa using h,fun x c=>?_⟩;obtain⟨d,f,o,e,k⟩:=g x (by simpa using c);exact⟨d,f,o,e,by omega⟩
  ·simp
structure bL where
 pc:U9
 ev:U9
 acc:U5 U9
 fr:U9
 mn:U9
 mi:U9
 ti:U9
 un:U9
structure fw(r:bL):Prop where
 CZ:1<=r.pc
 CY:r.pc<=3
 e1:1<=r.ev
 e2:r.ev<=99
 f0:0<=r.fr
 f1:r.fr<728
 m0:0<=r.mn
 m1:r.mn<1440
 i1:1<=r.mi
 i2:r.mi<=1048320
 t0:0<=r.ti
 t1:r.ti<=99
 u0:0<=r.un
 u1:r.un<728
def has(r:bL)(d:U9):U7 :=
 if r.pc=1 then decide ((d-r.fr) % r.ev=0)
 else if r.pc=2 then aI r.acc (d % 7) && decide ((d / 7-r.fr / 7) % r.ev=0)
 else decide (Cal.dT d=Cal.dT r.fr) && decide ((12*Cal.yT d+Cal.mT d-12*Cal.yT r.fr-Cal.mT r.fr) % r.ev=0)
def all(r:bL):U5 U9:=fV (has r) (728-r.fr).toNat r.fr
theorem Bb{r:bL}(h:fw r)(x:U9):x∈all r↔r.fr<=x/\x<728/\has r x=Vg:=by
 have:=h.f1;unfold all;rw[yi];constructor
 ·rintro ⟨d,f,c⟩;exact⟨d,by omega,c⟩
 ·rintro ⟨d,f,c⟩;exact⟨d,by omega,c⟩
def seq(r:bL):U5 U9 :=
 if r.pc=2 then iw r.acc r.fr r.ev 800 (r.fr-r.fr % 7)
 else if r.pc=3 then iH (Cal.dT r.fr) r.ev 100 (Cal.yT r.fr) (Cal.mT r.fr)
 else iG r.ev 800 r.fr
theorem FH{r:bL}(h:fw r):(seq r).Pairwise (· < ·):=by
 unfold seq
 split
 ·exact (Bm h.e1 _ _).1
 ·split
  ·have o:=(pI h.f0 h.f1).1;obtain⟨p,k,d,c,g,f⟩:=(Cal.gO _ _ _).1 o;exact (Bl h.e1 _ _ _ d c).1
  ·exact (Bk h.e1 _ _).1
theorem Gg{r:bL}(h:fw r)(u:0<=x)(k:x<728):x∈seq r↔r.fr<=x/\has r x=Vg:=by
 have T:=h.f0;have S:=h.f1;have I:=h.CZ;have H:=h.CY;unfold seq has
 by_cases c2:r.pc=2
 ·rw[Vb c2,Va UU,Vb c2,GB h.e1 800 _ x UU UU UU];have e:(r.fr-r.fr % 7) / 7=r.fr / 7:=UU
  rw[e,W7,decide_eq_true_eq];constructor
  ·rintro ⟨f,g,d,t,q⟩;exact⟨g,t,q⟩
  ·rintro ⟨g,t,q⟩;exact⟨by omega,g,k,t,q⟩
 ·rw[Va c2]
  by_cases c3:r.pc=3
  ·rw[Vb c3,Va UU,Va c2];obtain⟨o,n,A,K⟩:=pI h.f0 h.f1;obtain⟨R,O,D,C,N,M⟩:=(Cal.gO _ _ _).1 o;rw[GA h.e1 h.e2 100 _ _ x A UU D C UU u k,W7,decide_eq_true_eq,decide_eq_true_eq];obtain⟨p,J,G,B⟩:=pI u k;constructor
   ·rintro ⟨f,g,d⟩;refine⟨?_,f,d⟩
    by_cases e:12*Cal.yT r.fr+Cal.mT r.fr=12*Cal.yT x+Cal.mT x
    ·obtain⟨j1,j2,j3,j4,j5,j6⟩:=(Cal.gO _ _ _).1 p;have F:Cal.yT r.fr=Cal.yT x:=UU
     have E:Cal.mT r.fr=Cal.mT x:=UU
     rw[F,E,<- f] at n;omega
    ·have:=qO o p UU;omega
   ·rintro ⟨f,g,d⟩;refine⟨g,?_,d⟩;apply XD;intro c;have:=qO p o UU;omega
  ·rw[Va c3,Vb UU,Gz h.e1 800 _ x UU,decide_eq_true_eq];constructor
   ·rintro ⟨f,g,d⟩;exact⟨f,d⟩
   ·rintro ⟨f,d⟩;exact⟨f,k,d⟩
theorem Ug{l:U5 U9}(h:l.Pairwise (· < ·))(b x:U9):x∈l.takeWhile (fun d=>decide (d<=b))↔x∈l/\x<=b:=by
 induction l with
 |nil=>simp
 |cons d l ih =>
  rw[VO] at h;rw[List.takeWhile_cons]
  by_cases c:d<=b
  ·simp only[c,decide_true,if_true,VA,ih h.2];constructor
   ·rintro (rfl|⟨g,f⟩)
    ·exact⟨.inl rfl,c⟩
    ·exact⟨.inr g,f⟩
   ·rintro ⟨rfl|g,f⟩
    ·exact .inl rfl
    ·exact .inr ⟨g,f⟩
  ·simp only[c,decide_false,Vx,if_false,List.not_mem_nil,false_iff,VA];rintro ⟨rfl|g,f⟩
   ·exact c f
   ·have:=h.1 x g;omega
theorem FG{r:bL}(h:fw r)(E:b<728):(seq r).takeWhile (fun d=>decide (d<=b))=(all r).filter (fun d=>decide (d<=b)):=by
 refine Sa ?_ ?_ (fun x=>?_)
 ·exact XE (List.takeWhile_sublist _) (FH h)
 ·exact VR _ (uj _ _ _)
 ·rw[Ug (FH h),XF,Bb h,decide_eq_true_eq];have J:=h.f0
  have low:x∈seq r->0<=x:=by
   intro c;unfold seq at c
   split at c
   ·have:=(Bm h.e1 _ _).2 x c;omega
   ·split at c
    ·have o:=(pI h.f0 h.f1);obtain⟨I,H,B,A,G,F⟩:=(Cal.gO _ _ _).1 o.1;obtain⟨y',m',t,rfl,k⟩:=(Bl h.e1 _ _ _ B A).2 x c
     by_cases e:12*Cal.yT r.fr+Cal.mT r.fr=12*y'+m'
     ·obtain⟨j1,j2,j3,j4,j5,j6⟩:=(Cal.gO _ _ _).1 t;have D:Cal.yT r.fr=y':=UU
      have C:Cal.mT r.fr=m':=UU
      rw[<- D,<- C,o.2.1];omega
     ·have:=qO o.1 t UU;have:=o.2.1;omega
    ·have:=(Bk h.e1 _ _).2 x c;omega
  constructor
  ·rintro ⟨f,q⟩;have u:=low f;obtain⟨p,g⟩:=(Gg h u UU).1 f;exact⟨⟨p,by omega,g⟩,q⟩
  ·rintro ⟨⟨f,q,p⟩,g⟩;exact⟨(Gg h UU q).2 ⟨f,p⟩,g⟩
theorem Pd{r:bL}(h:fw r):(seq r).takeWhile (fun d=>decide (d<=727))=all r:=by
 rw[FG h UU];exact XG.2 (fun x c=>by have:=(Bb h x).1 c;simp;omega)
def fG(r:bL):U5 U9:=if 0<r.ti then ((seq r).takeWhile (fun d=>decide (d<=727))).take r.ti.toNat else ((seq r).takeWhile (fun d=>decide (d<=r.un))).take 41
def vm(r:bL)(l:U5 U9)(d:U9):U5 U9:=if has r d/\((r.ti=0/\d<=r.un)\/(0<r.ti/\(l.length:U9)<r.ti)) then l++[d] else l
def oH(r:bL):U8->U9->U5 U9->U5 U9
 |0,_,l=>l
 |k+1,d,l=>oH r k (d+1) (vm r l d)
theorem Jl{r:bL}(h:r.ti=0):∀ (k:U8)(d:U9)(l:U5 U9),oH r k d l=l++(fV (has r) k d).filter (fun d=>decide (d<=r.un))
 |0,d,l=>by simp[oH,fV]
 |k+1,d,l=>by
  simp only[oH,fV];rw[Jl h k (d+1)];unfold vm
  by_cases c:has r d=Vg
  ·rw[Vb c,VQ]
   by_cases c2:d<=r.un
   ·rw[Vb ⟨c,.inl ⟨h,c2⟩⟩,Vb (by simp[c2])];simp
   ·rw[Va UU,Va (by simp[c2])]
  ·rw[Va c,Va (fun e=>c e.1)]
theorem yD{r:bL}(h:0<r.ti):∀ (k:U8)(d:U9)(l:U5 U9),(l.length:U9)<=r.ti->oH r k d l=l++(fV (has r) k d).take (r.ti.toNat-l.length)
 |0,d,l,_=>by simp[oH,fV]
 |k+1,d,l,hl=>by
  simp only[oH,fV];unfold vm
  by_cases c:has r d=Vg
  ·rw[Vb c]
   by_cases c2:(l.length:U9)<r.ti
   ·rw[Vb ⟨c,.inr ⟨h,c2⟩⟩,yD h k (d+1) _ U0];have e:r.ti.toNat-l.length=(r.ti.toNat-(l++[d]).length)+1:=by simp;omega
    rw[e,List.take_succ_cons];simp
   ·rw[Va UU,yD h k (d+1) _ hl];have e:r.ti.toNat-l.length=0:=UU
    rw[e];simp
  ·rw[Va c,Va (fun e=>c e.1),yD h k (d+1) _ hl]
def bH(r:bL):U5 U9:=oH r (728-r.fr).toNat r.fr []
theorem Cm{r:bL}(h:fw r):bH r=if 0<r.ti then (all r).take r.ti.toNat else (all r).filter (fun d=>decide (d<=r.un)):=by
 have c:=h.t0;unfold bH
 split
 ·rw[yD UX _ _ _ U0];simp[all]
 ·rw[Jl UU];simp[all]
theorem Hx{r:bL}(h:fw r):fG r=if 0<r.ti then bH r else (bH r).take 41:=by
 rw[Cm h];unfold fG
 split
 ·rw[Pd h]
 ·rw[FG h h.u1]
def lV(r:bL)(d:U9):U7:=decide (1048320<d*1440+r.mn+r.mi)
def gd(r:bL):U9 :=
 if 40<(bH r).length\/40<r.ti then 11 else if bH r=[]\/((bH r).length:U9)<r.ti then 6 else if (bH r).any (lV r) then 6 else 0
def fe(r:bL):U9 :=
 if 40<r.ti then 11 else if 40<(fG r).length then 11 else if fG r=[]\/((fG r).length:U9)<r.ti then 6 else if lV r ((fG r).getLastD 0) then 6 else 0
theorem IC{r:bL}(h:fw r):(bH r).Pairwise (· < ·):=by
 rw[Cm h]
 split
 ·exact XE (List.take_sublist _ _) (uj _ _ _)
 ·exact VR _ (uj _ _ _)
theorem sI{r:bL}(h:fw r)(c:x∈bH r):r.fr<=x/\x<728:=by
 rw[Cm h] at c
 have:x∈all r:=by
  split at c
  ·exact Wp c
  ·exact (XF.1 c).1
 have:=(Bb h x).1 this;exact⟨this.1,this.2.1⟩
theorem vQ{r:bL}:∀ {l:U5 U9},l.Pairwise (· < ·)->l≠[]->l.any (lV r)=lV r (l.getLastD 0)
 |[],_,h=>Vc rfl h
 |[d],_,_=>by simp
 |d :: e :: l,h,_=>by
  rw[VO] at h;have ih:=vQ (r:=r) (l:=e :: l) h.2 UV;rw[List.any_cons,ih];have g:(d :: e :: l).getLastD 0=(e :: l).getLastD 0:=by simp[XH]
  rw[g]
  cases f:lV r d
  ·simp
  ·have c:(e :: l).getLastD 0∈e :: l:=by
    have:(e :: l).getLastD 0=(e :: l).getLast UV:=by simp[XH]
    rw[this];exact List.getLast_mem _
   have:=h.1 _ c;simp only[lV,decide_eq_true_eq] at f;simp only[lV,Bool.true_or];exact (decide_eq_true UU).symm
theorem pM{r:bL}(h:fw r):fe r=gd r/\(gd r=0->fG r=bH r/\bH r≠[]/\(bH r).length<=40/\∀ d∈bH r,d*1440+r.mn+r.mi<=1048320):=by
 have k:=Hx h;have g:=IC h;have C:=h.t0
 have fin:∀ {l:U5 U9},l≠[]->¬ l.any (lV r)=Vg->∀ d∈l,d*1440+r.mn+r.mi<=1048320:=by
  intro l _ u d A;apply XD;intro c;exact u (XI.2 ⟨d,A,by simp only[lV,decide_eq_true_eq];omega⟩)
 unfold fe gd
 by_cases c:0<r.ti
 ·rw[Vb c] at k;rw[k]
  by_cases c1:40<r.ti
  ·rw[Vb c1,Vb (.inr c1)];exact⟨rfl,fun e=>by omega⟩
  ·rw[Va c1]
   by_cases c2:40<(bH r).length
   ·rw[Vb c2,Vb (.inl c2)];exact⟨rfl,fun e=>by omega⟩
   ·have t:¬ (40<(bH r).length\/40<r.ti):=UU
    rw[Va c2,Va t]
    by_cases c3:bH r=[]\/((bH r).length:U9)<r.ti
    ·rw[Vb c3,Vb c3];exact⟨rfl,fun e=>by omega⟩
    ·have f:bH r≠[]:=fun e=>c3 (.inl e)
     rw[Va c3,Va c3,vQ g f];refine⟨rfl,fun e=>⟨rfl,f,by omega,fin f ?_⟩⟩;rw[vQ g f];intro p;rw[Vb p] at e;omega
 ·rw[Va c] at k;have B:¬ 40<r.ti:=UU
  rw[k,Va B]
  by_cases c2:40<(bH r).length
  ·have:40<((bH r).take 41).length:=by rw[List.length_take];omega
   rw[Vb this,Vb (.inl c2)];exact⟨rfl,fun e=>by omega⟩
  ·have q:(bH r).take 41=bH r:=Wi UU;have t:¬ (40<(bH r).length\/40<r.ti):=UU
   rw[q,Va c2,Va t]
   by_cases c3:bH r=[]\/((bH r).length:U9)<r.ti
   ·rw[Vb c3,Vb c3];exact⟨rfl,fun e=>by omega⟩
   ·have f:bH r≠[]:=fun e=>c3 (.inl e)
    rw[Va c3,Va c3,vQ g f];refine⟨rfl,fun e=>⟨rfl,f,by omega,fin f ?_⟩⟩;rw[vQ g f];intro p;rw[Vb p] at e;omega
def gg(r:bL)(l:U5 U9):U5 (U9 × U9):=l.map fun d=>(d*1440+r.mn,d*1440+r.mn+r.mi)
end Rd
open Go.RowKit
namespace aA
def ie(name:U4)(es:U5 aL)(a b:U9)(m x:U9):U9:=if a<x/\x<b/\m<bP name x es then bP name x es else m
def lH(name:U4)(es:U5 aL)(a b:U9):U9:=(eC name es).foldl (ie name es a b) (bP name a es)
end aA
theorem Lw(d:U8)(a:U6 Addr)(cap E:U8)(es:U5 aA.aL)(name:U4)(fr til:U9)(w:Vh)(h:mg w d a cap E es)(V:es.length<=1000)(N:∀ e∈es,aA.Small e):
  Vk prog 236 #[.pointer (Ve ⟨d,0,Vd⟩),.string name,.int .i64 fr,.int .i64 til] w fun e w'=>e=.returned (.int .i64 (aA.lH name es fr til))/\Vj w.heap.size w w':=by
 have ST:=aC (fun w' (k:Vj w.heap.size w w')=>ET d a cap E es name w' (h.later k) V N);have Z:=aC (fun t w' (k:Vj w.heap.size w w')=>Ew d a cap E es name t w' (h.later k) V N);have sz:=Aw name es N;have F:aA.lH name es fr til=(aA.eC name es).foldl (aA.ie name es fr til) (aA.bP name fr es):=rfl;rw[F];generalize aA.eC name es=l at *;have aa:l.length<=100000:=UU
 clear h N F sz
 go_in
 go_wp2_with fail
 refine (Z.out _ _ (zr _ _)).mono ?_;rintro e w1 ⟨rfl,J⟩;have B:=aC J;clear J
 go_wp2_with fail
 refine (ST.out _ B.out).mono ?_;rintro e U ⟨v2,rfl,G,I⟩;obtain⟨a2,c2,g2,rfl,R,M,D⟩:=wS G;have T:=aC (zA M (zA D (bA B.out I (zq _))));clear ST G I M D B R
 go_wp2_with fail
 go_loopw [9,11,12] (fun m i _ wx=>∃ j:U8,j<=l.length/\i=.int .i64 j/\m=.int .i64 ((l.take j).foldl (aA.ie name es fr til) (aA.bP name fr es))/\Vj U.heap.size U wx) (fun _ i _ _=>l.length-(intOf i).toNat)
 case atStart=>exact⟨0,Wh _,rfl,rfl,Below.refl _ _⟩
 case round =>
  obtain⟨j,hj,rfl,rfl,K⟩:=hrel;have H:=bA T.out.2.2 K (zq _);have u:=aC H;have O:=aC K;clear H
  by_cases q:j<l.length
  ·obtain rfl:=T.out.1 (by intro e;simp[e] at q);have c0:=aN K (T.out.2.1 j q);have S:(j:U9)<(l.length:U9):=UU
   have C:(l.take (j+1)).foldl (aA.ie name es fr til) (aA.bP name fr es)=aA.ie name es fr til ((l.take j).foldl (aA.ie name es fr til) (aA.bP name fr es)) l[j]:=by
    rw[Wg q,XJ];rfl
   have g:=aC C;have f:=aC (Z.out l[j]);generalize (l.take j).foldl (aA.ie name es fr til) (aA.bP name fr es)=m at *;have p:Hid (aA.ie name es fr til m l[j]=if fr<l[j]/\l[j]<til/\m<aA.bP name l[j] es then aA.bP name l[j] es else m):=rfl;generalize aA.bP name l[j] es=tk at *;clear C K
   by_cases Y:fr<l[j]
   ·by_cases X:l[j]<til
    ·by_cases W:m<tk
     ·have r:Hid ((l.take (j+1)).foldl (aA.ie name es fr til) (aA.bP name fr es)=tk):=by show _=tk;rw[g.out,p.out,Vb ⟨Y,X,W⟩]
      go_wp2_with fail
      refine (f.out _ u.out).mono ?_;rintro e w4 ⟨rfl,c⟩;have A:=aC (bA O.out c (zq _));clear c f
      go_wp2
      go_roundw
      case rel=>exact⟨j+1,by omega,by go_num,by rw[r.out],A.out⟩
      case measure=>simp[intOf];omega
     ·have r:Hid ((l.take (j+1)).foldl (aA.ie name es fr til) (aA.bP name fr es)=m):=by show _=m;rw[g.out,p.out,Va (fun x=>W x.2.2)]
      go_wp2_with fail
      refine (f.out _ u.out).mono ?_;rintro e w4 ⟨rfl,c⟩;have A:=aC (bA O.out c (zq _));clear c f
      go_wp2
      go_roundw
      case rel=>exact⟨j+1,by omega,by go_num,by rw[r.out],A.out⟩
      case measure=>simp[intOf];omega
    ·have r:Hid ((l.take (j+1)).foldl (aA.ie name es fr til) (aA.bP name fr es)=m):=by show _=m;rw[g.out,p.out,Va (fun x=>X x.2.1)]
     go_wp2
     go_roundw
     case rel=>exact⟨j+1,by omega,by go_num,by rw[r.out],O.out⟩
     case measure=>simp[intOf];omega
   ·have r:Hid ((l.take (j+1)).foldl (aA.ie name es fr til) (aA.bP name fr es)=m):=by show _=m;rw[g.out,p.out,Va (fun x=>Y x.1)]
    go_wp2
    go_roundw
    case rel=>exact⟨j+1,by omega,by go_num,by rw[r.out],O.out⟩
    case measure=>simp[intOf];omega
  ·have e:l.take j=l:=Wi UU;have S:¬ (j:U9)<(l.length:U9):=UU
   clear K
   go_wp2
   go_ret;exact⟨gL (by first|rfl|rw[e]),u.out⟩
namespace aA
def gb:U5 aL->U5 U9
 |[]=>[]
 |e :: r=>e.aK.map (·.2)++gb r
theorem Nl(l r:U5 aL):gb (l++r)=gb l++gb r:=by
 induction l with
 |nil=>rfl
 |cons e l ih=>simp only[VN,gb,ih,VZ]
def jN(ts:U5 (U4 × U9))(es:U5 aL)(name:U4)(aH long fr til c s:U9):U9 :=
 if s<fr\/til<s+long\/(0<=c/\c<=s) then c else if dG ts es name aH [(s,s+long)] then s else c
def iY(ts:U5 (U4 × U9))(es:U5 aL)(name:U4)(aH long fr til:U9):U9:=(fr :: gb es).foldl (jN ts es name aH long fr til) (-1)
def Dv(es:U5 aL):Prop:=∀ e∈es,∀ s∈e.aK,0<=s.2/\s.2<=2000000
theorem Et(l:U5 aL)(h:∀ e∈l,Small e):(gb l).length<=100*l.length:=by
 induction l with
 |nil=>simp[gb]
 |cons e l ih =>
  have i:=ih (fun x c=>h x (by simp[c]));have s:=(h e UV).sl;simp only[gb,V5,V6,WL];omega
theorem L4(l:U5 aL)(h:Dv l):∀ x∈gb l,0<=x/\x<=2000000:=by
 induction l with
 |nil=>simp[gb]
 |cons e l ih =>
  intro x c;simp only[gb,VB,Wm] at c;rcases c with ⟨s,d,rfl⟩|c
  ·exact h e UV s d
  ·exact ih (fun e f=>h e (by simp[f])) x c
end aA
def mU(fr:U9)(l:U5 aA.aL)(e:aA.aL)(j:U8):U5 U9:=fr :: (aA.gb l++(e.aK.take j).map (·.2))
theorem Lv(d:U8)(a:U6 Addr)(cap E:U8)(es:U5 aA.aL)(at_:U6 Addr)(ct G:U8)(ts:U5 (U4 × U9))(name:U4)(aH long fr til:U9)(w:Vh)(h:mg w d a cap E es)(ht:oN w d at_ ct G ts)(hl:es.length<=1000)(av:ts.length<=1000)(hs:∀ e∈es,aA.Small e)(he:aA.Dv es)(au:0<=aH)(ar:aH<=9)(a8:0<=long)(a7:long<=2000000)(a3:0<=fr)(az:fr<=2000000):
  Vk prog 237 #[.pointer (Ve ⟨d,0,Vd⟩),.string name,.int .i64 aH,.int .i64 long,.int .i64 fr,.int .i64 til] w fun e w'=>e=.returned (.int .i64 (aA.iY ts es name aH long fr til))/\Vj w.heap.size w w':=by
 obtain⟨i0,ay,aq,ao,an⟩:=info_parts pE;have FT:=aC (fun w' (k:Vj w.heap.size w w') B cb L hL ax=>DV d a cap E es at_ ct G ts name aH B cb L w' (h.later k) (ht.later k) hL hl av hs ax au ar);have H:=aC h;have HS:=aC hs;have sz:=aA.Et es hs
 have R:Hid (∀ x∈fr :: aA.gb es,0<=x/\x<=2000000):=by
  intro x T;rcases VA.1 T with rfl|T
  ·exact⟨a3,az⟩
  ·exact aA.L4 es he x T
 have ad:aA.iY ts es name aH long fr til=(fr :: aA.gb es).foldl (aA.jN ts es name aH long fr til) (-1):=rfl;rw[ad];obtain⟨l,N⟩:∃ l,fr :: aA.gb es=l:=⟨_,rfl⟩;have a9:l.length<=100100:=by rw[<- N,V6];omega
 rw[N] at R ⊢;have aj:=aC N;clear h ht hs he ad N
 go_in
 go_wp2_with fail
 have o0:(w.alloc (.cells #[.int .i64 fr] 3)).ownsRow w.heap.size 3 1 (.slice (Ve ⟨w.heap.size,0,Vd⟩) 1 1) 1 ([fr].map (V4 .i64)) :=
  ⟨rfl,.inr ⟨w.heap.size,1,#[.int .i64 fr],rfl,Vn _,cC _ _,Vn _,by unfold maxLen;omega,rfl,rfl⟩⟩
 have O0:=aC (zA o0 ((zr _ w).alloc (zq _) (.cells #[.int .i64 fr] 3)));clear o0
 go_loopw [13,14,15] (fun v i _ wx=>∃ k:U8,k<=es.length/\i=.int .i64 k/\wx.ownsRow w.heap.size 3 1 v (fr :: aA.gb (es.take k)).length ((fr :: aA.gb (es.take k)).map (V4 .i64))/\Vj w.heap.size w wx) (fun _ i _ _=>es.length-(intOf i).toNat)
 case atStart=>exact⟨0,Wh _,rfl,O0.out.1,O0.out.2⟩
 case round =>
  obtain⟨k,hk,rfl,f,q⟩:=hrel;have bl:=Wq k es;have T:=H.out.later q;have cc:=T.c;have a6:=aA.Et (es.take k) (fun e he=>HS.out e (Wp he))
  by_cases M:k<es.length
  ·obtain rfl:=H.out.at M;obtain⟨B,cp,U⟩:=H.out.r k M;have c4:=(U.later q).c4;have ab:=HS.out es[k] (zg M);have D:(k:U9)<(es.length:U9):=UU
   have e:fr :: aA.gb (es.take (k+1))=fr :: (aA.gb (es.take k)++es[k].aK.map (·.2)):=by
    rw[Wg M,aA.Nl];simp[aA.gb]
   have EE:=aC e;have sl:=ab.sl;have R0:=aC U;have HO:=aC (zA f q);clear e U T ab f q
   go_wp2_with fail
   go_loopw [13,15] (fun v i wx=>∃ j:U8,j<=es[k].aK.length/\i=.int .i64 j/\wx.ownsRow w.heap.size 3 1 v (mU fr (es.take k) es[k] j).length ((mU fr (es.take k) es[k] j).map (V4 .i64))/\Vj w.heap.size w wx) (fun _ i _=>es[k].aK.length-(intOf i).toNat)
   case atStart=>exact⟨0,Wh _,rfl,by rw[mU];simpa using HO.out.1,HO.out.2⟩
   case round =>
    obtain⟨j,hj,rfl,f,q⟩:=hrel;clear cc c4;have cc:=(H.out.later q).c;have c4:=(R0.out.later q).c4;have O:=aC (zA f q);have ae:=q.size
    by_cases t:j<es[k].aK.length
    ·have r1:=(R0.out.sl.later q j t).2;have V:(j:U9)<(es[k].aK.length:U9):=UU
     have ai:mU fr (es.take k) es[k] (j+1)=mU fr (es.take k) es[k] j++[es[k].aK[j].2]:=by
      unfold mU;rw[Wg t,Wr,VN,VZ];rfl
     have ES:=aC ai
     have a5:(mU fr (es.take k) es[k] j).length<=100*k+101:=by
      unfold mU;have:=Wq j es[k].aK;simp only[V6,V5,WL];omega
     clear ai q
     go_wp2_with (first
      |(at_builtin;refine wpList_append_own _ rfl _ _ 38 rfl w.heap.size 3 i0 (.int .i64 0) 1 8 underlying38 ay aq ao an rfl UW _ _ _ rfl (f.alloc _) ⟨wr.heap.size,0,Vd⟩ 1 1 [.int .i64 es[k].aK[j].2] rfl rfl (WM (cs:=#[.int .i64 es[k].aK[j].2]) (cC wr _)) U2 U1 UU U0 ?_;intro v' w' C F _))
     have af:Vj w.heap.size w w':=(O.out.2.alloc ae _).grown F U0 (fun k hk=>jE O.out.1 hk)
     have HK:Hid (w'.ownsRow w.heap.size 3 1 v' (mU fr (es.take k) es[k] (j+1)).length ((mU fr (es.take k) es[k] (j+1)).map (V4 .i64))):=by
      show w'.ownsRow _ _ _ _ _ _;rw[ES.out,Wr,V5];exact C
     have a4:=aC af;clear C F af f O r1 cc c4
     go_wp2
     go_roundw
     case rel=>exact⟨j+1,by omega,by go_num,HK.out,a4.out⟩
     case measure=>simp[intOf];omega
    ·have V:¬ (j:U9)<(es[k].aK.length:U9):=UU
     have S:mU fr (es.take k) es[k] j=fr :: aA.gb (es.take (k+1)):=by
      have et:es[k].aK.take j=es[k].aK:=Wi UU;rw[EE.out,mU,et]
     have HK:Hid (wr.ownsRow w.heap.size 3 1 u13 (fr :: aA.gb (es.take (k+1))).length ((fr :: aA.gb (es.take (k+1))).map (V4 .i64))):=by
      show wr.ownsRow _ _ _ _ _ _;rw[<- S];exact f
     clear f q S
     go_wp2
     go_roundw
     case rel=>exact⟨k+1,by omega,by go_num,HK.out,O.out.2⟩
     case measure=>simp[intOf];omega
  ·have e:es.take k=es:=Wi UU;have D:¬ (k:U9)<(es.length:U9):=UU
   rw[e,aj.out] at f;obtain⟨a2,c2,g2,rfl,aw,ag,ac⟩:=wS f;have R2:=aC (zA ag (zA ac q));clear f q e ag ac aw aj T O0
   go_wp2_with fail
   go_loopw [16,17,18,19] (fun b i _ _ wx=>∃ j:U8,j<=l.length/\i=.int .i64 j/\b=.int .i64 ((l.take j).foldl (aA.jN ts es name aH long fr til) (-1))/\Vj w.heap.size w wx/\∀ (i:U8) (D:i<l.length),wx.cell? ⟨g2,i,Vd⟩=Ve (.int .i64 l[i])) (fun _ i _ _ _=>l.length-(intOf i).toNat)
   case atStart=>exact⟨0,Wh _,rfl,rfl,R2.out.2.2,R2.out.2.1⟩
   case round =>
    obtain⟨j,hj,rfl,rfl,q,J⟩:=hrel;have Z:=aC q;have HC:=aC J;clear J
    by_cases t:j<l.length
    ·obtain rfl:=R2.out.1 (by intro e;simp[e] at t);have c0:=HC.out j t;have V:(j:U9)<(l.length:U9):=UU
     have aa:(l.take (j+1)).foldl (aA.jN ts es name aH long fr til) (-1)=aA.jN ts es name aH long fr til ((l.take j).foldl (aA.jN ts es name aH long fr til) (-1)) l[j]:=by
      rw[Wg t,XJ];rfl
     have X:=aC aa;have hm:=R.out l[j] (zg t);generalize (l.take j).foldl (aA.jN ts es name aH long fr til) (-1)=b at *;generalize l[j]=sx at *;have Y:Hid (aA.jN ts es name aH long fr til b sx=if sx<fr\/til<sx+long\/(0<=b/\b<=sx) then b else if aA.dG ts es name aH [(sx,sx+long)] then sx else b):=rfl;clear aa q
     by_cases g:sx<fr\/til<sx+long\/(0<=b/\b<=sx)
     ·have HE:Hid ((l.take (j+1)).foldl (aA.jN ts es name aH long fr til) (-1)=b):=by show _=b;rw[X.out,Y.out,Vb g]
      have I:sx<fr\/(¬ sx<fr/\til<sx+long)\/(¬ sx<fr/\¬ til<sx+long/\0<=b/\b<=sx):=UU
      clear g;rcases I with q1|⟨q1,q2⟩|⟨q1,q2,q3,q4⟩
      all_goals
       go_wp2
       go_roundw
       case rel=>exact⟨j+1,by omega,by go_num,by rw[HE.out],Z.out,HC.out⟩
       case measure=>simp[intOf];omega
     ·have hB:fY (wr.alloc (.cells #[.int .i64 sx,.int .i64 (sx+long)] 60)) wr.heap.size [(sx,sx+long)]:=by
       intro i D;have:i=0:=by simpa using D
       subst this;exact⟨by simp,by simp⟩
      have W:Vj w.heap.size w (wr.alloc (.cells #[.int .i64 sx,.int .i64 (sx+long)] 60)):=bA Z.out ((zr _ _).alloc (zq _) _) (zq _);have A:=aC (FT.out _ W wr.heap.size 1 [(sx,sx+long)] hB UV);have al:=aC W;have ak:Hid (∀ (i:U8) (D:i<l.length),(wr.alloc (.cells #[.int .i64 sx,.int .i64 (sx+long)] 60)).cell? ⟨g2,i,Vd⟩=Ve (.int .i64 l[i])):=fun i D=>aN ((zr _ _).alloc (zq _) _) (HC.out i D)
      have q1:¬ sx<fr:=UU
      have q2:¬ til<sx+long:=UU
      have hz:(wr.alloc (.cells #[.int .i64 sx,.int .i64 (sx+long)] 60)).heap.size=wr.heap.size+1:=UV
      clear hB W hz
      cases p:aA.dG ts es name aH [(sx,sx+long)]
      ·have HE:Hid ((l.take (j+1)).foldl (aA.jN ts es name aH long fr til) (-1)=b):=by show _=b;rw[X.out,Y.out,Va g,p];rfl
       rw[p] at A;have I:b<0\/(0<=b/\sx<b):=UU
       clear g p;rcases I with q3|⟨q3,q4⟩
       all_goals
        go_wp2_with fail
        refine A.out.mono ?_;rintro e w4 ⟨rfl,u⟩;have K:=aC (zA (bA al.out u (zq _)) (fun i D=>aN u (ak.out i D)));clear u A
        go_wp2
        go_roundw
        case rel=>exact⟨j+1,by omega,by go_num,by rw[HE.out],K.out.1,K.out.2⟩
        case measure=>simp[intOf];omega
      ·have HE:Hid ((l.take (j+1)).foldl (aA.jN ts es name aH long fr til) (-1)=sx):=by show _=sx;rw[X.out,Y.out,Va g,p];rfl
       rw[p] at A;have I:b<0\/(0<=b/\sx<b):=UU
       clear g p;rcases I with q3|⟨q3,q4⟩
       all_goals
        go_wp2_with fail
        refine A.out.mono ?_;rintro e w4 ⟨rfl,u⟩;have K:=aC (zA (bA al.out u (zq _)) (fun i D=>aN u (ak.out i D)));clear u A
        go_wp2
        go_roundw
        case rel=>exact⟨j+1,by omega,by go_num,by rw[HE.out],K.out.1,K.out.2⟩
        case measure=>simp[intOf];omega
    ·have e:l.take j=l:=Wi UU;have V:¬ (j:U9)<(l.length:U9):=UU
     clear q
     go_wp2
     go_ret;exact⟨gL (by first|rfl|rw[e]),Z.out⟩
namespace aA
def pK(a x:U9):U5 U9->U9
 |[]=>a
 |s :: r=>if s<=x/\pK a x r<s then s else pK a x r
theorem Cy(a x:U9)(h:a<=x):∀ l:U5 U9,a<=pK a x l/\pK a x l<=x/\(pK a x l=a\/pK a x l∈l)/\∀ s∈l,s<=x->s<=pK a x l
 |[]=>⟨Xy _,h,.inl rfl,by simp⟩
 |s :: r=>by
  obtain⟨p,g,d,f⟩:=Cy a x h r;simp only[pK]
  split
  ·rename_i c
   refine⟨by omega,c.1,.inr UV,fun t ht k=>?_⟩;rcases VA.1 ht with rfl|ht
   ·omega
   ·have:=f t ht k;omega
  ·rename_i c
   refine⟨p,g,?_,fun t ht k=>?_⟩
   ·rcases d with d|d
    ·exact .inl d
    ·exact .inr (by simp[d])
   ·rcases VA.1 ht with rfl|ht
    ·omega
    ·exact f t ht k
theorem Ju(d:y<=x)(h:∀ s∈L,s.1<=x->s.1<=y):cP L x<=cP L y:=by
 unfold cP;rw[<- XK,<- XK]
 have:XL (hasB x) L<=XL (hasB y) L:=XM (fun s f c=>by
  simp[hasB] at c ⊢;have:=h s f c.1
  omega)
 omega
def Pos(es:U5 aL):Prop:=∀ e∈es,0<=e.aH
theorem CD{name:U4}{x y:U9}(d:y<=x):∀ {es:U5 aL},Pos es->(∀ s∈eC name es,s<=x->s<=y)->bP name x es<=bP name y es
 |[],_,_=>Xy _
 |e :: r,hp,h=>by
  have ih:=CD (name:=name) d (es:=r) (fun z k=>hp z (by simp[k])) (fun s g=>h s (by simp[eC,g]));simp only[bP]
  by_cases c:cA name e=Vg
  ·rw[Vb c,Vb c];have g:bW e.aT name=Vg:=by simp[cA] at c;exact c.1
   have t:cP e.aK x<=cP e.aK y:=Ju d (fun s f p=>h s.1 (by simp[eC,g];exact .inl ⟨s.2,f⟩) p);have q:=hp e UV;have:cP e.aK x*e.aH<=cP e.aK y*e.aH:=XN t q;omega
  ·rw[Va c,Va c];omega
theorem SF(d:Pos es){a:U9}(h:a<=x):∃ y,a<=y/\y<=x/\(y=a\/y∈eC name es)/\bP name x es<=bP name y es:=by
 obtain⟨k,c,g,f⟩:=Cy a x h (eC name es);exact⟨_,k,c,g,CD c d f⟩
theorem ug{aH:U9}(C:Pos es)(B:0<=aH):
  dG ts es name aH L=Vg↔∀ x,0<cP L x->bP name x es+cP L x*aH<=bJ name ts:=by
 constructor
 ·intro h x g
  have p:∃ s∈L,s.1<=x/\x<s.2:=by
   unfold cP at g;have F:0<(L.filter (hasB x)).length:=UU
   obtain⟨s,c⟩:=XP F;have:=XF.1 c;simp[hasB] at this;exact⟨s,this.1,this.2⟩
  obtain⟨f,k,t,I⟩:=p;obtain⟨H,r,d,q⟩:=Cy f.1 x t (eC name es++L.map (·.1));generalize pK f.1 x (eC name es++L.map (·.1))=y at H r d q
  have u:y∈eC name es++L.map (·.1):=by
   rcases d with rfl|d
   ·simp;exact .inr ⟨f.2,k⟩
   ·exact d
  have ht:=CD (name:=name) (es:=es) r C (fun s c=>q s (by simp[c]));have E:cP L x<=cP L y:=Ju r (fun s c=>q s.1 (by simp;exact .inr ⟨s.2,c⟩));have G:=Xf.1 h y u;simp[px] at G;have A:0<cP L y:=UU
  have D:cP L x*aH<=cP L y*aH:=XN E B;omega
 ·intro h;unfold dG ov;rw[Xf];intro x _;simp[px]
  by_cases g:0<cP L x
  ·exact .inr (h x g)
  ·exact .inl UU
theorem Ch(a b x:U9):cP [(a,b)] x=if a<=x/\x<b then 1 else 0:=by
 unfold cP
 by_cases h:a<=x/\x<b
 ·rw[Vb h];simp[hasB,h.1,h.2]
 ·rw[Va h];have:hasB x (a,b)=Vf:=by simp[hasB];omega
  simp[this]
theorem Cx{aH a:U9}(p:Pos es)(k:0<=aH):
  dG ts es name aH [(a,b)]=Vg↔∀ x,a<=x->x<b->bP name x es+aH<=bJ name ts:=by
 rw[ug p k];constructor
 ·intro h x g f;have:=h x (by rw[Ch,Vb ⟨g,f⟩];omega);rw[Ch,Vb ⟨g,f⟩] at this;omega
 ·intro h x d;rw[Ch] at d ⊢
  by_cases c:a<=x/\x<b
  ·rw[Vb c];have:=h x c.1 c.2;omega
  ·rw[Va c] at d;omega
def vz(f:U9->U9)(a b m:U9):Prop:=(∀ x,a<=x->x<b->f x<=m)/\∃ x,a<=x/\x<b/\f x=m
theorem vz.eq{f:U9->U9}{a n:U9}(h:vz f a b m)(k:vz f a b n):m=n:=by
 obtain⟨r,x,q,p,u⟩:=h;obtain⟨g,y,d,c,t⟩:=k;have:=r y d c;have:=g x q p;omega
theorem Ig{name:U4}{es:U5 aL}{a b:U9}:∀ (l:U5 U9)(m:U9),
  m<=l.foldl (ie name es a b) m/\(∀ x∈l,a<x->x<b->bP name x es<=l.foldl (ie name es a b) m)/\(l.foldl (ie name es a b) m=m\/∃ x∈l,a<x/\x<b/\l.foldl (ie name es a b) m=bP name x es)
 |[],m=>⟨Xy _,by simp,.inl rfl⟩
 |x :: l,m=>by
  obtain⟨g,q,f⟩:=Ig (name:=name) (es:=es) (a:=a) (b:=b) l (ie name es a b m x);simp only[W9];generalize l.foldl (ie name es a b) (ie name es a b m x)=R at g q f ⊢
  have r:(ie name es a b m x=m/\¬ (a<x/\x<b/\m<bP name x es))\/(ie name es a b m x=bP name x es/\a<x/\x<b/\m<bP name x es):=by
   unfold ie
   by_cases c:a<x/\x<b/\m<bP name x es
   ·rw[Vb c];exact .inr ⟨rfl,c⟩
   ·rw[Va c];exact .inl ⟨rfl,c⟩
  rcases r with ⟨e,c⟩|⟨e,c⟩
  ·rw[e] at g f;refine⟨g,fun y d p h=>?_,?_⟩
   ·rcases VA.1 d with rfl|d
    ·omega
    ·exact q y d p h
   ·rcases f with f|⟨y,d,k⟩
    ·exact .inl f
    ·exact .inr ⟨y,by simp[d],k⟩
  ·rw[e] at g f;refine⟨by omega,fun y d p h=>?_,?_⟩
   ·rcases VA.1 d with rfl|d
    ·omega
    ·exact q y d p h
   ·rcases f with f|⟨y,d,k⟩
    ·exact .inr ⟨x,by simp,c.1,c.2.1,f⟩
    ·exact .inr ⟨y,by simp[d],k⟩
theorem UI{a:U9}(q:Pos es)(h:a<b):vz (fun x=>bP name x es) a b (lH name es a b):=by
 obtain⟨r,k,d⟩:=Ig (name:=name) (es:=es) (a:=a) (b:=b) (eC name es) (bP name a es);unfold lH;generalize (eC name es).foldl (ie name es a b) (bP name a es)=R at r k d ⊢;refine⟨fun x g f=>?_,?_⟩
 ·obtain⟨y,A,u,c,t⟩:=SF (name:=name) q g;show bP name x es<=R
  by_cases e:y=a
  ·subst e;omega
  ·rcases c with c|c
   ·exact Vc c e
   ·have:=k y c UU UU;omega
 ·rcases d with d|⟨x,_,g,f,p⟩
  ·exact⟨a,Xy _,h,d.symm⟩
  ·exact⟨x,by omega,f,p.symm⟩
theorem FZ{name:U4}{x:U9}:∀ {es:U5 aL},Pos es->bP name x es<bP name (x-1) es->x∈gb es
 |[],_,h=>by simp[bP] at h
 |e :: r,hp,h=>by
  simp only[gb,VB,Wm]
  by_cases c:∃ s∈e.aK,s.2=x
  ·exact .inl c
  ·right;refine FZ (name:=name) (fun z d=>hp z (by simp[d])) ?_
   have p:cP e.aK (x-1)<=cP e.aK x:=by
    unfold cP;rw[<- XK,<- XK]
    have:XL (hasB (x-1)) e.aK<=XL (hasB x) e.aK:=XM (fun s g q=>by
     simp[hasB] at q ⊢;have:s.2≠x:=fun e=>c ⟨s,g,e⟩
     omega)
    omega
   have f:=hp e UV;have k:cP e.aK (x-1)*e.aH<=cP e.aK x*e.aH:=XN p f;simp only[bP] at h
   split at h <;> omega
def AA(r:U9):U6 U9:=if r<0 then Vd else Ve r
theorem BO{ts:U5 (U4 × U9)}{es:U5 aL}{name:U4}{aH long fr tq:U9}(C:0<=fr):∀ (l:U5 U9)(b:U9),-1<=b ->
  (b=-1\/(fr<=b/\b+long<=tq/\dG ts es name aH [(b,b+long)]=Vg)) ->
  let R:=l.foldl (jN ts es name aH long fr tq) b
  (R=-1\/(fr<=R/\R+long<=tq/\dG ts es name aH [(R,R+long)]=Vg))/\-1<=R/\(0<=b->0<=R/\R<=b)/\∀ s∈l,fr<=s->s+long<=tq->dG ts es name aH [(s,s+long)]=Vg->0<=R/\R<=s
 |[],b,hb,h=>by
  refine⟨h,hb,fun k=>⟨k,Xy _⟩,by simp⟩
 |s :: l,b,hb,h=>by
  intro R
  have D:jN ts es name aH long fr tq b s=b/\((s<fr\/tq<s+long\/(0<=b/\b<=s))\/dG ts es name aH [(s,s+long)]=Vf)\/jN ts es name aH long fr tq b s=s/\fr<=s/\s+long<=tq/\dG ts es name aH [(s,s+long)]=Vg/\(b<0\/s<b):=by
   unfold jN
   by_cases c:s<fr\/tq<s+long\/(0<=b/\b<=s)
   ·rw[Vb c];exact .inl ⟨rfl,.inl c⟩
   ·rw[Va c]
    cases E:dG ts es name aH [(s,s+long)]
    ·exact .inl ⟨by simp,.inr rfl⟩
    ·exact .inr ⟨by simp,by omega,by omega,rfl,by omega⟩
  rcases D with ⟨e,c⟩|⟨e,c1,c2,c3,c4⟩
  ·have ih:=BO (ts:=ts) (es:=es) (name:=name) (aH:=aH) (long:=long) (tq:=tq) C l b hb h;have B:R=l.foldl (jN ts es name aH long fr tq) b:=by show XQ _ _ _=_;rw[W9,e]
   rw[<- B] at ih;obtain⟨A,u,f,q⟩:=ih;refine⟨A,u,f,fun t ht p g d=>?_⟩;rcases VA.1 ht with rfl|ht
   ·rcases c with c|c
    ·have:=f UU;omega
    ·rw[d] at c;cases c
   ·exact q t ht p g d
  ·have ih:=BO (ts:=ts) (es:=es) (name:=name) (aH:=aH) (long:=long) (tq:=tq) C l s UU (.inr ⟨c1,c2,c3⟩);have B:R=l.foldl (jN ts es name aH long fr tq) s:=by show XQ _ _ _=_;rw[W9,e]
   rw[<- B] at ih;obtain⟨A,u,f,q⟩:=ih;have r:=f UU;refine⟨A,u,fun k=>by omega,fun t ht p g d=>?_⟩;rcases VA.1 ht with rfl|ht
   ·exact r
   ·exact q t ht p g d
theorem Qe(P:U9->Prop)(fr:U9):∀ (n:U8)(s:U9),s=fr+n->P s->∃ r,fr<=r/\r<=s/\P r/\∀ t,fr<=t->t<r->¬ P t:=by
 intro n
 induction n using Nat.strongRecOn with
 |_ n ih =>
  intro s A q
  by_cases c:∃ t,fr<=t/\t<s/\P t
  ·obtain⟨t,g,f,d⟩:=c;obtain⟨r,p,u,k,h⟩:=ih (t-fr).toNat UU t UU d;exact⟨r,p,by omega,k,h⟩
  ·exact⟨s,by omega,Xy _,q,fun t g f d=>c ⟨t,g,f,d⟩⟩
theorem Pq{aH:U9}(q:Pos es)(u:0<=aH)(I:0<=fr)(_hl:1<=long):
  -1<=iY ts es name aH long fr tq/\qN (fun x=>bP name x es) fr tq long (bJ name ts-aH) (AA (iY ts es name aH long fr tq)):=by
 have A:∀ s,n8 (fun x=>bP name x es) long (bJ name ts-aH) s↔dG ts es name aH [(s,s+long)]=Vg:=by
  intro s;rw[Cx q u];constructor
  ·intro h x c f;have:=h x c f;have this:bP name x es<=bJ name ts-aH:=this;omega
  ·intro h x c f;have:=h x c f;show bP name x es<=bJ name ts-aH;omega
 obtain⟨C,F,_,E⟩:=BO (ts:=ts) (es:=es) (name:=name) (aH:=aH) (long:=long) (tq:=tq) I (fr :: gb es) (-1) (Xy _) (.inl rfl);unfold iY;generalize (fr :: gb es).foldl (jN ts es name aH long fr tq) (-1)=R at C F E ⊢
 have key:∀ s,fr<=s->s+long<=tq->dG ts es name aH [(s,s+long)]=Vg->0<=R/\R<=s:=by
  intro s c f g;obtain⟨r,t,D,p,G⟩:=Qe (fun s=>dG ts es name aH [(s,s+long)]=Vg) fr (s-fr).toNat s UU g
  have:r∈fr :: gb es:=by
   by_cases e:r=fr
   ·simp[e]
   ·have B:=G (r-1) UU UU;have k:=(Cx q u).1 p
    have:∃ x,r-1<=x/\x<r-1+long/\bJ name ts<bP name x es+aH:=by
     apply XD;intro H;apply B;apply (Cx q u).2;intro x j1 j2
     by_cases d:bP name x es+aH<=bJ name ts
     ·exact d
     ·exact Vc ⟨x,j1,j2,by omega⟩ H
    obtain⟨x,j1,j2,j3⟩:=this
    have J:x=r-1:=by
     by_cases d:r<=x
     ·have:=k x d UU;omega
     ·omega
    subst J;have:=k r (Xy _) UU;exact WV _ (FZ (name:=name) q UU)
  have:=E r this t UU p;omega
 refine⟨F,?_⟩;unfold AA
 split
 ·intro s c f g;have:=key s c f ((A s).1 g);omega
 ·rcases C with C|⟨t,D,p⟩
  ·omega
  ·refine⟨t,D,(A R).2 p,fun s c f g=>?_⟩;have:=key s c UU ((A s).1 g);omega
theorem QH{f:U9->U9}{a:U9}{r q:U6 U9}(h:qN f a b long level r)(k:qN f a b long level q):r=q:=by
 cases r with
 |none =>
  cases q with
  |none=>rfl
  |some s=>exact Vc k.2.2.1 (h s k.1 k.2.1)
 |some s =>
  cases q with
  |none=>exact Vc h.2.2.1 (k s h.1 h.2.1)
  |some t =>
   obtain⟨C,E,B,A⟩:=h;obtain⟨u,D,p,g⟩:=k
   by_cases c:s<t
   ·exact Vc B (g s C c)
   ·by_cases d:t<s
    ·exact Vc p (A t u d)
    ·exact congrArg Ve UU
theorem Tu{f g:U9->U9}{a:U9}{r:U6 U9}(h:qN f a b long level r)(k:∀ x,a<=x->x<b->f x=g x):qN g a b long level r:=by
 have key:∀ s,a<=s->s+long<=b->(n8 f long level s↔n8 g long level s):=by
  intro s c d;constructor
  ·intro h x u q;rw[<- k x UU UU];exact h x u q
  ·intro h x u q;rw[k x UU UU];exact h x u q
 cases r with
 |none=>exact fun s c d p=>h s c d ((key s c d).2 p)
 |some s =>
  obtain⟨B,A,D,C⟩:=h;exact⟨B,A,(key s B A).1 D,fun t c d p=>C t c d ((key t c UU).2 p)⟩
end aA
namespace aA
def cN(name:U4):U5 aL->U5 U7->U9
 |[],_=>0
 |e :: r,p=>(if cA name e then e.aH*gB e.aK p else 0)+cN name r p
theorem Jh(name:U4)(l r:U5 aL)(p:U5 U7):cN name (l++r) p=cN name l p+cN name r p:=by
 induction l with
 |nil=>simp[cN]
 |cons e l ih=>simp only[VN,cN,ih];omega
theorem Rh(h:cA name e=Vg):bZ (cN name es) e.aK e.aH=cN name (es++[e]):=by
 funext p
 simp only[bZ,Jh,cN,h,if_true];omega
theorem Jm(h:cA name e=Vf):cN name (es++[e])=cN name es:=by
 funext p
 simp[Jh,cN,h]
theorem tV(name:U4)(p:U5 U7):∀ es:U5 aL,(∀ e∈es,Small e)->0<=cN name es p/\cN name es p<=900*es.length
 |[],_=>by simp[cN]
 |e :: r,h=>by
  have i:=tV name p r (fun x f=>h x (by simp[f]));have s:=h e UV;have b:=vp e.aK p;have g:=s.sl;have c:0<=e.aH*gB e.aK p:=Wc s.u0 b.1;have d:e.aH*gB e.aK p<=9*100:=Int.mul_le_mul s.u1 UU b.1 UU;simp only[cN,V6]
  split <;> omega
theorem Small.pos(h:∀ e∈es,Small e):Pos es:=fun e c=>(h e c).u0
def vA(es:U5 aL):Prop:=∀ e∈es,∀ s∈e.aK,s.1<s.2
theorem vU(name:U4){x:U9}(g:0<=x)(f:x<1048320):∀ es:U5 aL,vA es->oC (cN name es) x=bP name x es
 |[],_=>by
  have:cN name []=fun _=>0:=by funext p;rfl
  rw[this];exact aG.Ur 20 0 1048320 x
 |e :: r,h=>by
  have ih:=vU name g f r (fun z k=>h z (by simp[k]))
  by_cases d:cA name e=Vg
  ·have:cN name (e :: r)=bZ (cN name r) e.aK e.aH:=by funext p;simp only[cN,bZ,d,if_true];omega
   rw[this,IP _ _ _ _ g f (h e UV),ih];simp only[bP,d,if_true];have:((e.aK.filter fun s=>decide (s.1<=x) && decide (x<s.2)).length:U9)=cP e.aK x:=rfl;rw[this,XR];omega
  ·have c:cA name e=Vf:=by simpa using d
   have:cN name (e :: r)=cN name r:=by funext p;simp[cN,c]
   rw[this,ih];simp[bP,c]
theorem Rz{aH u:U9}(q:∀ e∈es,Small e)(t:vA es)(B:ow L)(C:0<=u)(r:bJ name ts=aH):
  kB (bZ (cN name es) L u) aH L=dG ts es name u L:=by
 have D:∀ p,0<=bZ (cN name es) L u p:=fun p=>by
  have:=(tV name p es q).1;have:=(vp L p).1;have:0<=u*gB L p:=Wc C this;unfold bZ;omega
 have c:∀ x,0<=x->x<1048320->oC (bZ (cN name es) L u) x=bP name x es+cP L x*u:=by
  intro x F E;rw[IP _ _ _ _ F E (fun s q=>(B s q).2.1),vU name F E es t];have:((L.filter fun s=>decide (s.1<=x) && decide (x<s.2)).length:U9)=cP L x:=rfl;rw[this,XR]
 rw[Xc,ug (Small.pos q) C,r];unfold kB;rw[Xf];constructor
 ·intro h x J;have K:0<(L.filter (hasB x)).length:=by unfold cP at J;omega
  obtain⟨s,g⟩:=XP K;have g:=XF.1 g;have A:=g.2;simp[hasB] at A;have k:=B s g.1;have:=of_decide_eq_true (h s g.1);have m:=(BC D k.1 k.2.1 k.2.2).1 x A.1 A.2;rw[c x UU UU] at m;omega
 ·intro h s d;have k:=B s d;obtain⟨_,x,I,H,G⟩:=BC D k.1 k.2.1 k.2.2;rw[c x UU UU] at G
  have f:0<cP L x:=by
   unfold cP;have:s∈L.filter (hasB x):=XF.2 ⟨d,by simp[hasB,I,H]⟩;have:=List.length_pos_of_mem this;omega
  have:=h x f;exact decide_eq_true UU
theorem QQ{a:U9}(k:∀ e∈es,Small e)(d:vA es)(t:0<=a)(q:a<b)(r:b<=1048320):ss (cN name es) (a,b)=lH name es a b:=by
 have m:=BC (A:=cN name es) (s:=(a,b)) (fun p=>(tV name p es k).1) t q r;refine vz.eq (f:=fun x=>bP name x es) (a:=a) (b:=b) ⟨fun x g c=>?_,?_⟩ (UI (Small.pos k) q)
 ·have:=m.1 x g c;rw[vU name UU (by have:x<b:=c;omega) es d] at this;exact this
 ·obtain⟨x,g,c,h⟩:=m.2;rw[vU name (by have:a<=x:=g;omega) (by have:x<b:=c;omega) es d] at h;exact⟨x,g,c,h⟩
def FE:U6 U9->U9
 |none=>-1
 |some s=>s
theorem Rv{aH a:U9}{r:U6 U9}(p:∀ e∈es,Small e)(d:vA es)(t:0<=a)(D:b<=1048320)(k:0<=aH)(q:1<=long)(h:qN (aG.dJ (jt (cN name es)) 0 1048320) a b long (bJ name ts-aH) r):
  iY ts es name aH long a b=FE r:=by
 obtain⟨A,f⟩:=Pq (ts:=ts) (es:=es) (name:=name) (aH:=aH) (long:=long) (fr:=a) (tq:=b) (Small.pos p) k t q;have u:=Tu h (g:=fun x=>bP name x es) (fun x C B=>vU name UU UU es d);have e:=QH u f;rw[e];generalize iY ts es name aH long a b=R at *;unfold AA
 by_cases c:R<0
 ·rw[Vb c];show R=-1;omega
 ·rw[Va c];rfl
def kept(id:U9)(es:U5 aL):U5 aL:=es.filter fun e=>e.id != id
def cS(e:aL):aL:={ e with kind:=1,bY:=0 }
def dZ(id:U9)(es:U5 aL):U5 aL:=es.map fun e=>if e.id=id then cS e else e
def dB(es:U5 aL):Prop:=(es.map (·.id)).Pairwise (· < ·)
theorem dB.cons{r:U5 aL}(h:dB (e :: r)):(∀ z∈r,e.id<z.id)/\dB r:=by
 unfold dB at h ⊢;rw[XS,VO] at h;exact⟨fun z c=>h.1 z.id (Wm.2 ⟨z,c,rfl⟩),h.2⟩
theorem dB.one(h:dB es):∀ {x y:aL},x∈es->y∈es->x.id=y.id->x=y:=by
 induction es with
 |nil=>intro x y d;simp at d
 |cons e r ih =>
  intro x y d c f;obtain⟨g,k⟩:=h.cons;rcases VA.1 d with d|d
  ·rcases VA.1 c with c|c
   ·rw[d,c]
   ·have:=g y c;rw[d] at f;omega
  ·rcases VA.1 c with c|c
   ·have:=g x d;rw[c] at f;omega
   ·exact ih k d c f
theorem B2(h:∀ e∈es,e.id≠id):kept id es=es:=XG.2 (fun e c=>by simp[h e c])
theorem yy{id:U9}:∀ {es:U5 aL},(∀ e∈es,e.id≠id)->dZ id es=es
 |[],_=>rfl
 |e :: r,h=>by
  have i:=yy (id:=id) (es:=r) (fun z c=>h z (by simp[c]));unfold dZ at i ⊢;rw[XS,i,Va (h e UV)]
theorem Sg(es:U5 aL):(dZ id es).map (·.id)=es.map (·.id):=by
 unfold dZ;rw[List.map_map];apply List.map_congr_left;intro e _;show (if e.id=id then cS e else e).id=e.id
 split <;> rfl
theorem Uj(h:dB es):dB (dZ id es):=by
 unfold dB at *;rw[Sg];exact h
theorem Cc{name:U4}{e:aL}(d:cA name e=Vg):∀ {es:U5 aL},dB es->e∈es->bZ (cN name es) e.aK (-e.aH)=cN name (kept e.id es)
 |[],_,h=>by simp at h
 |z :: r,hi,h=>by
  obtain⟨t,q⟩:=hi.cons
  funext p
  by_cases c:z.id=e.id
  ·have u:e=z:=hi.one h UV c.symm;subst u
   have:kept e.id (e :: r)=r:=by
    have k:=B2 (id:=e.id) (es:=r) (fun y f=>by have:=t y f;omega);unfold kept at k ⊢;rw[VQ,Va UV,k]
   rw[this];simp only[bZ,cN,d,if_true];rw[Int.neg_mul];omega
  ·have g:e∈r:=by
    rcases VA.1 h with rfl|h
    ·exact Vc rfl c
    ·exact h
   have i:=congrFun (Cc d q g) p
   have:kept e.id (z :: r)=z :: kept e.id r:=by
    unfold kept;rw[VQ,Vb (by simpa using c)]
   rw[this];simp only[bZ,cN] at i ⊢;omega
theorem CJ{name:U4}{id:U9}:∀ {es:U5 aL},(∀ e∈es,e.id=id->cA name e=Vf)->cN name (kept id es)=cN name es
 |[],_=>rfl
 |z :: r,h=>by
  have i:=CJ (name:=name) (id:=id) (es:=r) (fun y d=>h y (by simp[d]))
  funext p
  have i:=congrFun i p;unfold kept at i ⊢;rw[VQ]
  by_cases c:z.id=id
  ·rw[Va (by simp[c])];simp only[cN,h z UV c,Vx,if_false];rw[i];omega
  ·rw[Vb (by simpa using c)];simp only[cN,i]
theorem v8:cA name (cS e)=bW e.aT name:=by
 simp[cA,cS]
theorem Ji{name:U4}{e:aL}(d:bW e.aT name=Vg)(f:e.kind=3):∀ {es:U5 aL},dB es->e∈es->bZ (cN name es) e.aK e.aH=cN name (dZ e.id es)
 |[],_,h=>by simp at h
 |z :: r,hi,h=>by
  obtain⟨A,u⟩:=hi.cons
  funext p
  by_cases c:z.id=e.id
  ·have B:e=z:=hi.one h UV c.symm;subst B
   have:dZ e.id (e :: r)=cS e :: r:=by
    have k:=yy (id:=e.id) (es:=r) (fun y q=>by have:=A y q;omega);unfold dZ at k ⊢;rw[XS,Vb rfl,k]
   rw[this];have g:cA name e=Vf:=by simp[cA,f]
   simp only[bZ,cN,g,v8,d,if_true,Vx,if_false];show 0+cN name r p+e.aH*gB e.aK p=e.aH*gB e.aK p+cN name r p;omega
  ·have t:e∈r:=by
    rcases VA.1 h with rfl|h
    ·exact Vc rfl c
    ·exact h
   have i:=congrFun (Ji d f u t) p
   have:dZ e.id (z :: r)=z :: dZ e.id r:=by
    unfold dZ;rw[XS,Va c]
   rw[this];simp only[bZ,cN] at i ⊢;omega
theorem JD{name:U4}{id:U9}:∀ {es:U5 aL},(∀ e∈es,e.id=id->bW e.aT name=Vg->e.kind≠3)->cN name (dZ id es)=cN name es
 |[],_=>rfl
 |z :: r,h=>by
  have i:=JD (name:=name) (id:=id) (es:=r) (fun y d=>h y (by simp[d]))
  funext p
  have i:=congrFun i p;unfold dZ at i ⊢;rw[XS];simp only[cN,i]
  by_cases c:z.id=id
  ·rw[Vb c,v8]
   have e:cA name z=bW z.aT name:=by
    unfold cA
    cases f:bW z.aT name
    ·rfl
    ·have:=h z UV c f;simp[this]
   rw[e];rfl
  ·rw[Va c]
theorem sK:e∈kept id es↔e∈es/\e.id≠id:=by simp[kept]
theorem wg:e∈dZ id es↔(e∈es/\e.id≠id)\/∃ z∈es,z.id=id/\e=cS z:=by
 unfold dZ;rw[Wm];constructor
 ·rintro ⟨z,d,h⟩
  by_cases c:z.id=id
  ·rw[Vb c] at h;exact .inr ⟨z,d,c,h.symm⟩
  ·rw[Va c] at h;subst h;exact .inl ⟨d,c⟩
 ·rintro (⟨g,f⟩|⟨z,d,g,f⟩)
  ·exact⟨e,g,Va f⟩
  ·exact⟨z,d,by rw[Vb g,f]⟩
end aA
namespace aA
def jJ(a b:U9)(s:U9 × U9):U7:=decide (s.1<b) && decide (a<s.2)
def fp(a b:U9):U5 (U9 × U9)->U9
 |[]=>-1
 |s :: r=>if jJ a b s then s.1 else fp a b r
end aA
theorem Aq(x:aA.aL × U8 × U8)(fr til:U9)(w:Vh)(h:fY w x.2.1 x.1.aK)(F:x.1.aK.length<=100000):
  Vk prog 266 #[.agg (dN x).toArray,.int .i64 fr,.int .i64 til] w fun e w'=>e=.returned (.int .i64 (aA.fp fr til x.1.aK))/\Vj w.heap.size w w':=by
 have E:=aC h;clear h;simp only[dN]
 go_in
 go_wp2_with fail
 have q:Vj w.heap.size w (w.alloc (.cells #[.int .i64 x.1.id,.int .i64 x.1.kind,.string x.1.aT,.int .i64 x.1.aH,.slice (Ve ⟨x.2.1,0,Vd⟩) x.1.aK.length x.2.2,.int .i64 x.1.bY] 58)):=(zr _ _).alloc (zq _) _;have t:(w.alloc (.cells #[.int .i64 x.1.id,.int .i64 x.1.kind,.string x.1.aT,.int .i64 x.1.aH,.slice (Ve ⟨x.2.1,0,Vd⟩) x.1.aK.length x.2.2,.int .i64 x.1.bY] 58)).cell? ⟨w.heap.size,4,Vd⟩=Ve (.slice (Ve ⟨x.2.1,0,Vd⟩) x.1.aK.length x.2.2):=UV
 have g:=aC (zA (E.out.later q) q);clear q;generalize (World.alloc w _)=X at t g ⊢;generalize w.heap.size=N at t ⊢
 go_loop [7] (fun i=>∃ k:U8,k<=x.1.aK.length/\i=.int .i64 k/\aA.fp fr til x.1.aK=aA.fp fr til (x.1.aK.drop k)) (fun i=>x.1.aK.length-(intOf i).toNat)
 case atStart=>exact⟨0,Wh _,rfl,rfl⟩
 case round =>
  obtain⟨k,G,rfl,B⟩:=hrel;have p:=aC B;clear B
  by_cases f:k<x.1.aK.length
  ·obtain⟨c1,c2⟩:=g.out.1 k f;have D:(k:U9)<(x.1.aK.length:U9):=UU
   have C:aA.fp fr til (x.1.aK.drop k)=if aA.jJ fr til x.1.aK[k] then x.1.aK[k].1 else aA.fp fr til (x.1.aK.drop (k+1)):=by rw[WQ f];rfl
   have r:=aC C;clear C
   by_cases A:x.1.aK[k].1<til
   ·by_cases u:fr<x.1.aK[k].2
    ·have c:Hid (aA.fp fr til x.1.aK=x.1.aK[k].1):=by
      show _=_;have d:aA.jJ fr til x.1.aK[k]=Vg:=by simp[aA.jJ,A,u]
      rw[p.out,r.out,d];rfl
     go_wp2
     go_ret;exact⟨gL c.out.symm,g.out.2⟩
    ·have c:Hid (aA.fp fr til x.1.aK=aA.fp fr til (x.1.aK.drop (k+1))):=by
      show _=_;have d:aA.jJ fr til x.1.aK[k]=Vf:=by simp[aA.jJ,u]
      rw[p.out,r.out,d];rfl
     go_wp2
     go_round
     case rel=>exact⟨k+1,by omega,by go_num,c.out⟩
     case measure=>simp[intOf];omega
   ·have c:Hid (aA.fp fr til x.1.aK=aA.fp fr til (x.1.aK.drop (k+1))):=by
     show _=_;have d:aA.jJ fr til x.1.aK[k]=Vf:=by simp[aA.jJ,A]
     rw[p.out,r.out,d];rfl
    go_wp2
    go_round
    case rel=>exact⟨k+1,by omega,by go_num,c.out⟩
    case measure=>simp[intOf];omega
  ·have e:x.1.aK.drop k=[]:=WS UU;have c:Hid (aA.fp fr til x.1.aK=-1):=by show _=_;rw[p.out,e];rfl
   have D:¬ (k:U9)<(x.1.aK.length:U9):=UU
   clear e
   go_wp2
   go_ret;exact⟨gL c.out.symm,g.out.2⟩
theorem vj:(prog.info? 60).map (fun i=>(i.zero,i.size,i.bytes))=Ve (Ve (.agg #[.int .i64 0,.int .i64 0]),2,16):=UZ
def iF(s:U9 × U9):U5 Vi:=[.int .i64 s.1,.int .i64 s.2]
theorem uZ(L:U5 (U9 × U9)):(L.flatMap iF).length=L.length*2:=by
 induction L with
 |nil=>rfl
 |cons x xs ih=>simp only[Wv,V5,V6,ih,iF,List.length_nil];omega
theorem Md(L:U5 (U9 × U9)):∀ (j:U8)(u:Vi),(L.flatMap iF)[j]?=Ve u->∃ i,∃ h:i<L.length,(j=i*2/\u=.int .i64 L[i].1)\/(j=i*2+1/\u=.int .i64 L[i].2):=by
 intro j u d
 have p:j<L.length*2:=by
  have:=(List.getElem?_eq_some_iff.1 d).1
  rwa [uZ] at this
 have k:j / 2<L.length:=UU
 refine⟨j / 2,k,?_⟩;have c:L=L.take (j / 2)++L[j / 2] :: L.drop (j / 2+1):=by rw[Ww,Wb]
 have f:((L.take (j / 2)).flatMap iF).length=j / 2*2:=by rw[uZ,Wy UU]
 rw[c,Wx,Wv,Wz UU,f,Wt (by simp[iF];omega)] at d;rcases (show j % 2=0\/j % 2=1 by omega) with e|e
 ·have g:j-j / 2*2=0:=UU
  rw[g] at d;simp[iF] at d;exact .inl ⟨by omega,d.symm⟩
 ·have g:j-j / 2*2=1:=UU
  rw[g] at d;simp[iF] at d;exact .inr ⟨by omega,d.symm⟩
theorem zP{f g cap:U8}(h:w.ownsRow f 60 2 (.slice (Ve ⟨g,0,Vd⟩) n cap) n (L.flatMap iF)):n=L.length/\fY w g L:=by
 have B:=h.1;rw[uZ] at B;have A:n=L.length:=UU
 refine⟨A,fun i H=>?_⟩;rcases h.2 with ⟨E,_⟩|⟨N,q,p,r,I,C,M,K,J,D⟩
 ·cases E
 ·cases r
  have key:∀ (j:U8) (u:Vi),j<2->(iF L[i])[j]?=Ve u->w.cell? ⟨g,i*2+j,Vd⟩=Ve u:=by
   intro j u G t
   have F:(L.flatMap iF)[i*2+j]?=Ve u:=by
    have c:L=L.take i++L[i] :: L.drop (i+1):=by rw[Ww,Wb]
    rw[c,Wx,Wv];have d:((L.take i).flatMap iF).length=i*2:=by rw[uZ,Wy UU]
    rw[Wz UU,d,Nat.add_sub_cancel_left,Wt (by simp[iF];omega)];exact t
   have k:(p.toList.take (n*2))[i*2+j]?=Ve u:=by rw[D];exact F
   rw[List.getElem?_take_of_lt UU] at k;simp only[Array.getElem?_toList] at k;simp[VL,C,k]
  exact⟨key 0 _ UU rfl,key 1 _ UU rfl⟩
theorem rQ{b:U8}{t:Vm}(h:w.heap[b]?=Ve (.cells #[c0,c1,c2,c3,c4,c5] t)):w.cell? ⟨b,0,Vd⟩=Ve c0:=by simp[VL,h]
theorem tc{b:U8}{t:Vm}(h:w.heap[b]?=Ve (.cells #[c0,c1,c2,c3,c4,c5] t)):w.cell? ⟨b,1,Vd⟩=Ve c1:=by simp[VL,h]
theorem rR{b:U8}{t:Vm}(h:w.heap[b]?=Ve (.cells #[c0,c1,c2,c3,c4,c5] t)):w.cell? ⟨b,2,Vd⟩=Ve c2:=by simp[VL,h]
theorem rS{b:U8}{t:Vm}(h:w.heap[b]?=Ve (.cells #[c0,c1,c2,c3,c4,c5] t)):w.cell? ⟨b,3,Vd⟩=Ve c3:=by simp[VL,h]
theorem rT{b:U8}{t:Vm}(h:w.heap[b]?=Ve (.cells #[c0,c1,c2,c3,c4,c5] t)):w.cell? ⟨b,4,Vd⟩=Ve c4:=by simp[VL,h]
theorem td{b:U8}{t:Vm}(h:w.heap[b]?=Ve (.cells #[c0,c1,c2,c3,c4,c5] t)):w.cell? ⟨b,5,Vd⟩=Ve c5:=by simp[VL,h]
theorem uI{b:U8}{cs:Array Vi}{t:Vm}(h:w.heap[b]?=Ve (.cells cs t)):∀ o,w.frozen? ⟨b,o,Vd⟩=Vf:=fun o=>by simp[World.frozen?,h]
theorem MG{X:Vh}{N:U8}{d o2:Obj}(c:X.grownBy w1 (Value.slice Vd 0 0).ownBlock)(f:N+1<X.heap.size)(h:X.heap[N]?=Ve d)(g:X.heap[N+1]?=Ve o2):w1.heap[N]?=Ve d/\w1.heap[N+1]?=Ve o2 :=
 ⟨(c.block N UU U3).trans h,(c.block (N+1) f U3).trans g⟩
theorem MF(x:aA.aL × U8 × U8)(w:Vh)(h:fY w x.2.1 x.1.aK)(K:0<x.1.aK.length)(hl:x.1.aK.length<=1000):
  Vk prog 238 #[.agg (dN x).toArray] w fun e w'=>∃ g cap,e=.returned (.agg (dN (x.1,g,cap)).toArray)/\fY w' g x.1.aK/\w.heap.size<=g/\g<w'.heap.size/\Vj w.heap.size w w':=by
 obtain⟨i0,M,F,E,D⟩:=info_parts vj;have W:=aC h;clear h;simp only[dN]
 go_in
 go_upto_region 2 with fail
 have C:Vj w.heap.size w ((w.alloc (.cells #[.int .i64 x.1.id,.int .i64 x.1.kind,.string x.1.aT,.int .i64 x.1.aH,.slice (Ve ⟨x.2.1,0,Vd⟩) x.1.aK.length x.2.2,.int .i64 x.1.bY] 58)).alloc (.cells #[.int .i64 0,.int .i64 0,.string ⟨#[]⟩,.int .i64 0,.slice Vd 0 0,.int .i64 0] 58)):=((zr _ _).alloc (zq _) _).alloc UV _;have G:((w.alloc (.cells #[.int .i64 x.1.id,.int .i64 x.1.kind,.string x.1.aT,.int .i64 x.1.aH,.slice (Ve ⟨x.2.1,0,Vd⟩) x.1.aK.length x.2.2,.int .i64 x.1.bY] 58)).alloc (.cells #[.int .i64 0,.int .i64 0,.string ⟨#[]⟩,.int .i64 0,.slice Vd 0 0,.int .i64 0] 58)).heap.size=w.heap.size+2:=UV
 have f:∀ j u,(x.1.aK.flatMap iF)[j]?=Ve u->((w.alloc (.cells #[.int .i64 x.1.id,.int .i64 x.1.kind,.string x.1.aT,.int .i64 x.1.aH,.slice (Ve ⟨x.2.1,0,Vd⟩) x.1.aK.length x.2.2,.int .i64 x.1.bY] 58)).alloc (.cells #[.int .i64 0,.int .i64 0,.string ⟨#[]⟩,.int .i64 0,.slice Vd 0 0,.int .i64 0] 58)).cell? ((⟨x.2.1,0,Vd⟩:Addr).add j)=Ve u:=by
  intro j u H
  have ea:∀ j:U8,((⟨x.2.1,0,Vd⟩:Addr).add j)=⟨x.2.1,j,Vd⟩:=by
   intro j;unfold Addr.add;split
   ·rename_i h;subst h;rfl
   ·simp
  rw[ea];obtain⟨i,T,(⟨rfl,rfl⟩|⟨rfl,rfl⟩)⟩:=Md _ j u H
  ·exact aN C (W.out i T).1
  ·exact aN C (W.out i T).2
 have R:((w.alloc (.cells #[.int .i64 x.1.id,.int .i64 x.1.kind,.string x.1.aT,.int .i64 x.1.aH,.slice (Ve ⟨x.2.1,0,Vd⟩) x.1.aK.length x.2.2,.int .i64 x.1.bY] 58)).alloc (.cells #[.int .i64 0,.int .i64 0,.string ⟨#[]⟩,.int .i64 0,.slice Vd 0 0,.int .i64 0] 58)).heap[w.heap.size]?=Ve (.cells #[.int .i64 x.1.id,.int .i64 x.1.kind,.string x.1.aT,.int .i64 x.1.aH,.slice (Ve ⟨x.2.1,0,Vd⟩) x.1.aK.length x.2.2,.int .i64 x.1.bY] 58) :=
  (Below.heap_alloc _ _ _ UV).trans (cC _ _)
 have U:((w.alloc (.cells #[.int .i64 x.1.id,.int .i64 x.1.kind,.string x.1.aT,.int .i64 x.1.aH,.slice (Ve ⟨x.2.1,0,Vd⟩) x.1.aK.length x.2.2,.int .i64 x.1.bY] 58)).alloc (.cells #[.int .i64 0,.int .i64 0,.string ⟨#[]⟩,.int .i64 0,.slice Vd 0 0,.int .i64 0] 58)).heap[w.heap.size+1]?=Ve (.cells #[.int .i64 0,.int .i64 0,.string ⟨#[]⟩,.int .i64 0,.slice Vd 0 0,.int .i64 0] 58):=by
  have:=cC (w.alloc (.cells #[.int .i64 x.1.id,.int .i64 x.1.kind,.string x.1.aT,.int .i64 x.1.aH,.slice (Ve ⟨x.2.1,0,Vd⟩) x.1.aK.length x.2.2,.int .i64 x.1.bY] 58)) (.cells #[.int .i64 0,.int .i64 0,.string ⟨#[]⟩,.int .i64 0,.slice Vd 0 0,.int .i64 0] 58)
  rwa [WX] at this
 have V:=aC f;have q:=aC (zA C (zA G (zA R U)));have Y:((w.alloc (.cells #[.int .i64 x.1.id,.int .i64 x.1.kind,.string x.1.aT,.int .i64 x.1.aH,.slice (Ve ⟨x.2.1,0,Vd⟩) x.1.aK.length x.2.2,.int .i64 x.1.bY] 58)).alloc (.cells #[.int .i64 0,.int .i64 0,.string ⟨#[]⟩,.int .i64 0,.slice Vd 0 0,.int .i64 0] 58)).cell? ⟨w.heap.size,4,Vd⟩=Ve (.slice (Ve ⟨x.2.1,0,Vd⟩) x.1.aK.length x.2.2):=by simp[VL,R]
 clear C G f R U;generalize ((w.alloc (.cells #[.int .i64 x.1.id,.int .i64 x.1.kind,.string x.1.aT,.int .i64 x.1.aH,.slice (Ve ⟨x.2.1,0,Vd⟩) x.1.aK.length x.2.2,.int .i64 x.1.bY] 58)).alloc (.cells #[.int .i64 0,.int .i64 0,.string ⟨#[]⟩,.int .i64 0,.slice Vd 0 0,.int .i64 0] 58))=X at V q Y ⊢
 go_wp2_with (first
  |(at_builtin;refine wpList_append_lies _ rfl _ _ 56 rfl w.heap.size 60 i0 _ 2 16 underlying56 M F E D rfl UW (.slice Vd 0 0) 0 [] rfl (World.ownsRow_nil _ _ _ _) ⟨x.2.1,0,Vd⟩ x.1.aK.length x.2.2 (x.1.aK.flatMap iF) rfl (uZ _) V.out (by intro u H;obtain⟨s,_,S⟩:=List.mem_flatMap.1 H;simp[iF] at S;rcases S with rfl|rfl <;> rfl) K U1 UU (by have:=q.out.2.1;omega) X.heap.size rfl ?_;intro g cap w1 I p O J;obtain⟨t,r⟩:=MG p (by have:=q.out.2.1;omega) q.out.2.2.1 q.out.2.2.2;have b0:=rQ t;have b1:=tc t;have b2:=rR t;have b3:=rS t;have b5:=td t;have b4:=rT t;have g4:=uI t;have r0:=rQ r;have r1:=tc r;have r2:=rR r;have r3:=rS r;have r4:=rT r;have Z:=td r;have rf:=uI r))
 have hg:g=X.heap.size:=by
  rcases O with e|e
  ·simp[WI] at e
  ·exact e
 have G:=q.out.2.1;have A:w1.ownsRow w.heap.size 60 2 (.slice (Ve ⟨g,0,Vd⟩) x.1.aK.length cap) x.1.aK.length (x.1.aK.flatMap iF):=by simpa using I
 have d:Vj w.heap.size w w1:=q.out.1.grown p q.out.1.size (fun k B=>by simp[WI] at B)
 have c:aF [w.heap.size,w.heap.size+1] w1 (((((((w1.setCell ⟨w.heap.size,4,Vd⟩ (.slice (Ve ⟨g,0,Vd⟩) x.1.aK.length cap)).setCell ⟨w.heap.size+1,0,Vd⟩ (.int .i64 x.1.id)).setCell ⟨w.heap.size+1,1,Vd⟩ (.int .i64 x.1.kind)).setCell ⟨w.heap.size+1,2,Vd⟩ (.string x.1.aT)).setCell ⟨w.heap.size+1,3,Vd⟩ (.int .i64 x.1.aH)).setCell ⟨w.heap.size+1,4,Vd⟩ (.slice (Ve ⟨g,0,Vd⟩) x.1.aK.length cap)).setCell ⟨w.heap.size+1,5,Vd⟩ (.int .i64 x.1.bY)) :=
  (((((((aF.refl _ w1).setCell (.inl UV) _ _).setCell (.inl UV) _ _).setCell (.inl UV) _ _).setCell (.inl UV) _ _).setCell (.inl UV) _ _).setCell (.inl UV) _ _).setCell (.inl UV) _ _
 have N:Vj w.heap.size w (((((((w1.setCell ⟨w.heap.size,4,Vd⟩ (.slice (Ve ⟨g,0,Vd⟩) x.1.aK.length cap)).setCell ⟨w.heap.size+1,0,Vd⟩ (.int .i64 x.1.id)).setCell ⟨w.heap.size+1,1,Vd⟩ (.int .i64 x.1.kind)).setCell ⟨w.heap.size+1,2,Vd⟩ (.string x.1.aT)).setCell ⟨w.heap.size+1,3,Vd⟩ (.int .i64 x.1.aH)).setCell ⟨w.heap.size+1,4,Vd⟩ (.slice (Ve ⟨g,0,Vd⟩) x.1.aK.length cap)).setCell ⟨w.heap.size+1,5,Vd⟩ (.int .i64 x.1.bY)) :=
  ⟨c.os.trans d.os,c.tape.trans d.tape,c.output.trans d.output,Vq d.size c.size,fun k B=>(c.block k (zL B d.size) U0).trans (d.block k B)⟩
 refine bodyPost_ret (v:=.agg #[.int .i64 x.1.id,.int .i64 x.1.kind,.string x.1.aT,.int .i64 x.1.aH,.slice (Ve ⟨g,0,Vd⟩) x.1.aK.length cap,.int .i64 x.1.bY]) (by simp[results,results238,go_sem,r0,r1,r2,r3,r4,Z]) rfl ⟨g,cap,rfl,(zP A).2.off c U0,by omega,Wk J c.size,N⟩
namespace aA
def ki(name:U4)(a b:U9)(e:aL):U7:=cA name e && decide (0<=fp a b e.aK)
end aA
structure nK(w wx:Vh)(v:Vi)(ys:U5 (aA.aL × U8 × U8)):Prop where
 own:wx.ownsRow w.heap.size 58 6 v ys.length (ys.flatMap dN)
 sl:∀ y∈ys,fY wx y.2.1 y.1.aK/\w.heap.size<=y.2.1/\y.2.1<wx.heap.size/\v.ownBlock≠Ve y.2.1
 bw:Vj w.heap.size w wx
theorem nK.later{wx d:Vh}{ys:U5 (aA.aL × U8 × U8)}(h:nK w wx v ys)(k:Vj wx.heap.size wx d):nK w d v ys :=
 ⟨eu h.own k,fun y c=>⟨(h.sl y c).1.later k,(h.sl y c).2.1,Wk (h.sl y c).2.2.1 k.size,(h.sl y c).2.2.2⟩,bA h.bw k (zq _)⟩
namespace cH
def before(fs:U5 U9)(k i:U8):U7:=decide (fs.getD k 0<fs.getD i 0) || (decide (fs.getD k 0=fs.getD i 0) && decide (k<i))
def upto(fs:U5 U9)(i n:U8):U8:=((XT n).filter (fun k=>before fs k i)).length
def kg(fs:U5 U9)(i:U8):U8:=upto fs i fs.length
theorem uY(fs:U5 U9)(i n:U8):upto fs i (n+1)=upto fs i n+if before fs n i then 1 else 0:=by
 unfold upto;rw[List.range_succ,List.filter_append,V5]
 cases h:before fs n i <;> simp[h]
theorem Ff(fs:U5 U9)(i:U8):before fs i i=Vf:=by simp[before]
theorem Nd{a b c:U8}(h:before fs a b=Vg)(k:before fs b c=Vg):before fs a c=Vg:=by
 simp[before] at *;omega
theorem Fc(fs:U5 U9){a b:U8}(h:a≠b):before fs a b=Vg\/before fs b a=Vg:=by
 simp[before];omega
theorem zY(fs:U5 U9)(i:U8):∀ n,upto fs i n<=n
 |0=>by simp[upto]
 |n+1=>by have:=zY fs i n;rw[uY];split <;> omega
theorem DP(fs:U5 U9){i:U8}:∀ {n},i<n->upto fs i n<n
 |0,h=>by omega
 |n+1,h=>by
  rw[uY]
  by_cases e:i=n
  ·subst e;rw[Ff];have:=zY fs i i;simp;omega
  ·have:=DP fs (i:=i) (n:=n) UU
   split <;> omega
theorem zX(fs:U5 U9)(h:i<fs.length):kg fs i<fs.length:=DP fs h
theorem Ey{fs:U5 U9}{i j:U8}(h:before fs i j=Vg):∀ n,upto fs i n+(if i<n then 1 else 0)<=upto fs j n
 |0=>by simp[upto]
 |n+1=>by
  have ih:=Ey h n;rw[uY,uY]
  by_cases e:n=i
  ·subst e;rw[Ff,h];simp at ih ⊢;omega
  ·have f:(if i<n+1 then 1 else 0:U8)=(if i<n then 1 else 0):=by
    by_cases c:i<n
    ·rw[Vb c,Vb UU]
    ·rw[Va c,Va UU]
   rw[f];generalize (if i<n then 1 else 0:U8)=q at ih ⊢
   cases d:before fs n i
   ·simp only[Vx,if_false]
    split <;> omega
   ·rw[Nd d h];simp only[if_true];omega
theorem Ap(c:i<fs.length)(h:before fs i j=Vg):kg fs i<kg fs j:=by
 have:=Ey h fs.length;rw[Vb c] at this;exact this
theorem Ag(f:i<fs.length)(d:j<fs.length)(h:kg fs i=kg fs j):i=j:=by
 by_cases e:i=j
 ·exact e
 ·rcases Fc fs e with c|c
  ·have:=Ap f c;omega
  ·have:=Ap d c;omega
end cH
theorem zG:∀ (n:U8)(l:U5 U8),l.Nodup->(∀ x∈l,x<n)->l.length<=n
 |0,l,_,h=>by
  cases l with
  |nil=>simp
  |cons x l=>have:=h x UV;omega
 |n+1,l,hd,h=>by
  by_cases c:n∈l
  ·have p:(l.erase n).length<=n:=zG n (l.erase n) (hd.erase n) (fun x d=>by
    have k:=List.mem_of_mem_erase d;have g:=h x k;have f:x≠n:=fun e=>by subst e;exact hd.not_mem_erase d
    omega)
   rw[List.length_erase_of_mem c] at p;omega
  ·have:=zG n l hd (fun x d=>by
    have g:=h x d;have f:x≠n:=fun e=>by subst e;exact c d
    omega)
   omega
theorem MP{l:U5 U8}(g:l.Nodup)(h:∀ x∈l,x<n)(p:l.length=n):∀ k,k<n->k∈l:=by
 intro k f;apply XD;intro c
 have:=zG n (k :: l) (List.nodup_cons.2 ⟨c,g⟩) (fun x d=>by
  rcases VA.1 d with rfl|d
  ·exact f
  ·exact h x d)
 simp at this;omega
namespace cH
theorem wW(fs:U5 U9){k:U8}(g:k<fs.length):∃ i,i<fs.length/\kg fs i=k:=by
 have p:((XT fs.length).map (kg fs)).Nodup:=by
  unfold XU;rw[XV];refine XW ?_ (List.nodup_range (n:=fs.length));intro i j c h d e;exact d (Ag (XX.1 c) (XX.1 h) e)
 have:=MP p (fun x f=>by
  obtain⟨i,c,rfl⟩:=Wm.1 f
  exact zX fs (XX.1 c)) UV k g
 obtain⟨i,c,e⟩:=Wm.1 this;exact⟨i,XX.1 c,e⟩
end cH
namespace aA
def lL(a b:U9)(x y:aL):Prop:=fp a b x.aK<fp a b y.aK\/(fp a b x.aK=fp a b y.aK/\x.id<y.id)
theorem RU(a b:U9)(x:aL):¬ lL a b x x:=by unfold lL;omega
theorem Hq(a b:U9)(x y z:aL)(h:lL a b x y)(k:lL a b y z):lL a b x z:=by unfold lL at *;omega
def nL(a b:U9)(l:U5 aL):U5 U9:=l.map fun e=>fp a b e.aK
theorem At{a:U9}{l:U5 aL}(h:i<l.length):(nL a b l).getD i 0=fp a b l[i].aK:=by
 simp[nL,List.getD,h]
theorem Mx{a:U9}{l out:U5 aL}(u:dB l)(D:out.length=l.length)(h:∀ (i:U8)(c:i<l.length),out[cH.kg (nL a b l) i]?=Ve l[i]):out.Pairwise (lL a b)/\∀ e,e∈out↔e∈l:=by
 have H:(nL a b l).length=l.length:=by simp[nL]
 have d:∀ (k:U8),k<out.length->∃ (i:U8) (c:i<l.length),cH.kg (nL a b l) i=k/\out[k]?=Ve l[i]:=by
  intro k t;obtain⟨i,c,e⟩:=cH.wW (nL a b l) (k:=k) UU;rw[H] at c;exact⟨i,c,e,by rw[<- e];exact h i c⟩
 refine⟨?_,fun e=>⟨fun A=>?_,fun A=>?_⟩⟩
 ·rw[XY];intro p q C B G;obtain⟨i,c,K,g⟩:=d p C;obtain⟨j,E,J,F⟩:=d q B;rw[Xb C] at g;rw[Xb B] at F;rw[WY g,WY F];have r:i≠j:=fun e=>by subst e;omega
  rcases cH.Fc (nL a b l) r with f|f
  ·unfold cH.before at f;rw[At c,At E] at f;simp at f;rcases f with f|⟨f,I⟩
   ·exact .inl f
   ·refine .inr ⟨f,?_⟩;have:=XY.1 u i j (by simpa using c) (by simpa using E) I
    simpa using this
  ·have:=cH.Ap (fs:=nL a b l) UU f;omega
 ·obtain⟨k,t,rfl⟩:=XZ A;obtain⟨i,c,_,g⟩:=d k t;rw[Xb t] at g;rw[WY g];exact zg c
 ·obtain⟨i,c,rfl⟩:=XZ A;exact List.mem_of_getElem? (h i c)
def gJ(L:U5 (U9 × U9)):Prop:=L.Pairwise fun s t=>s.1<t.1
theorem BQ{a b:U9}:∀ {L:U5 (U9 × U9)},gJ L->(∃ s∈L,jJ a b s=Vg)->(∃ s∈L,jJ a b s=Vg/\s.1=fp a b L)/\∀ t∈L,jJ a b t=Vg->fp a b L<=t.1
 |[],_,h=>by obtain⟨s,B,_⟩:=h;simp at B
 |s :: r,hr,h=>by
  unfold gJ at hr;rw[VO] at hr;simp only[fp]
  by_cases c:jJ a b s=Vg
  ·rw[Vb c];refine⟨⟨s,by simp,c,rfl⟩,fun t ht _=>?_⟩;rcases VA.1 ht with rfl|ht
   ·omega
   ·have:=hr.1 t ht;omega
  ·rw[Va c]
   have C:∃ s∈r,jJ a b s=Vg:=by
    obtain⟨t,ht,k⟩:=h;rcases VA.1 ht with rfl|ht
    ·exact Vc k c
    ·exact⟨t,ht,k⟩
   obtain⟨⟨t,A,q,p⟩,g⟩:=BQ (a:=a) (b:=b) (L:=r) hr.2 C;refine⟨⟨t,by simp[A],q,p⟩,fun u d f=>?_⟩;rcases VA.1 d with rfl|d
   ·exact Vc f c
   ·exact g u d f
theorem IW{a b:U9}:∀ {L:U5 (U9 × U9)},(∀ s∈L,jJ a b s=Vf)->fp a b L=-1
 |[],_=>rfl
 |s :: r,h=>by
  simp only[fp];rw[Va (by rw[h s UV];simp)];exact IW (fun t ht=>h t (by simp[ht]))
theorem Jp{a:U9}(g:gJ L)(p:∀ s∈L,0<=s.1):0<=fp a b L↔∃ s∈L,jJ a b s=Vg:=by
 constructor
 ·intro h;apply XD;intro c
  have:fp a b L=-1:=IW (fun s f=>by
   cases k:jJ a b s
   ·rfl
   ·exact Vc ⟨s,f,k⟩ c)
  omega
 ·intro h;obtain⟨⟨s,d,_,q⟩,_⟩:=BQ g h;have:=p s d;omega
def uc(acc:U5 aE.It)(z:aE.It):U5 aE.It:=if acc.any fun u=>decide (u.n=z.n) then acc else acc++[z]
def uniq(M:U5 aE.It):U5 aE.It:=M.foldl uc []
theorem xX(M:U5 aE.It)(z:aE.It):uniq (M++[z])=uc (uniq M) z:=by unfold uniq;rw[XJ];rfl
theorem OZ:∀ (n:U8)(M:U5 aE.It),M.length=n->aE.Ord M->aE.Ord (uniq M)/\(∀ u∈uniq M,u∈M)/\(∀ z∈M,∃ u∈uniq M,u.n=z.n/\(u=z\/aE.lt u z))/\((uniq M).map (·.n)).Nodup:=by
 intro n
 induction n with
 |zero =>
  intro M p _;rw[List.length_eq_zero_iff.1 p];exact⟨X0,by simp[uniq],by simp,by simp[uniq]⟩
 |succ n ih =>
  intro M p g;obtain⟨K,z,rfl⟩:∃ K z,M=K++[z]:=⟨M.dropLast,M.getLast (by intro e;simp[e] at p),(List.dropLast_concat_getLast _).symm⟩;unfold aE.Ord at g;rw[XC] at g;obtain⟨A,h,t,r⟩:=ih K (by simpa using p) g.1;rw[xX];unfold uc
  by_cases c:((uniq K).any fun u=>decide (u.n=z.n))=Vg
  ·rw[Vb c];obtain⟨u,d,C⟩:=XI.1 c;refine⟨A,fun u d=>by simp[h u d],fun y f=>?_,r⟩;rcases VB.1 f with f|f
   ·exact t y f
   ·have:y=z:=by simpa using f
    subst this;exact⟨u,d,by simpa using C,.inr (g.2.2 u (h u d) y UV)⟩
  ·rw[Va c];have q:∀ u∈uniq K,u.n≠z.n:=fun u d e=>c (XI.2 ⟨u,d,by simp[e]⟩)
   refine⟨?_,fun u d=>?_,fun y f=>?_,?_⟩
   ·unfold aE.Ord;rw[XC]
    exact⟨A,by simp,fun u d y f=>by
     have:y=z:=by simpa using f
     subst this
     exact g.2.2 u (h u d) y UV⟩
   ·rcases VB.1 d with d|d
    ·simp[h u d]
    ·simp at d;simp[d]
   ·rcases VB.1 f with f|f
    ·obtain⟨u,d,k⟩:=t y f;exact⟨u,by simp[d],k⟩
    ·have:y=z:=by simpa using f
     subst this;exact⟨y,by simp,rfl,.inl rfl⟩
   ·rw[Wr,List.nodup_append];refine⟨r,by simp,fun x B y f e=>?_⟩;obtain⟨u,d,rfl⟩:=Wm.1 B;simp at f;exact q u d (by rw[e,f])
def gD(name:U4)(es:U5 aL)(at_:U9->U8)(T:aE.S):Prop :=
 aE.Ord (aE.bS T)/\∀ z,z∈aE.bS T↔∃ e∈es,cA name e=Vg/\∃ s∈e.aK,z=⟨s.1,s.2,e.id,at_ e.id⟩
theorem OY{at_:U9->U8}{T:aE.S}{a:U9}(h:gD name es at_ T)(J:dB es)(W:∀ e∈es,gJ e.aK)(h0:∀ e∈es,∀ s∈e.aK,0<=s.1){ys:U5 aL}(hl:ys.length=(uniq (aE.meet a b T)).length)(O:∀ (i:U8)(q:i<ys.length),ys[i]∈es/\ys[i].id=((uniq (aE.meet a b T))[i]'UU).n):
  ys.Pairwise (lL a b)/\∀ e,e∈ys↔e∈es.filter (ki name a b):=by
 have hM:=aE.xP a b T h.1;have hO:aE.Ord (aE.meet a b T):=by rw[hM];exact aE.IU _ h.1
 obtain⟨u1,u2,u3,u4⟩:=OZ _ (aE.meet a b T) rfl hO
 have B:∀ z,z∈aE.meet a b T↔∃ e∈es,cA name e=Vg/\∃ s∈e.aK,jJ a b s=Vg/\z=⟨s.1,s.2,e.id,at_ e.id⟩:=by
  intro z;rw[hM,XF,h.2];constructor
  ·rintro ⟨⟨e,A,F,s,g,rfl⟩,r⟩;exact⟨e,A,F,s,g,r,rfl⟩
  ·rintro ⟨e,A,F,s,g,r,rfl⟩;exact⟨⟨e,A,F,s,g,rfl⟩,r⟩
 -- each item that is kept stands at its entry's first
 have fst:∀ u∈uniq (aE.meet a b T),∀ e∈es,e.id=u.n->cA name e=Vg/\u.f=fp a b e.aK/\∃ s∈e.aK,jJ a b s=Vg:=by
  intro u G e d Y;obtain⟨e',A,F,s,g,r,rfl⟩:=(B u).1 (u2 u G);have:e=e':=J.one d A Y;subst this;refine⟨F,?_,s,g,r⟩;obtain⟨⟨t,t1,t2,t3⟩,t4⟩:=BQ (W e d) ⟨s,g,r⟩;have aa:=t4 s g r;obtain⟨u',V,N,E⟩:=u3 ⟨t.1,t.2,e.id,at_ e.id⟩ ((B _).2 ⟨e,d,F,t,t1,t2,rfl⟩)
  have I:u'=⟨s.1,s.2,e.id,at_ e.id⟩:=by
   have k:=u4;unfold XU at k;rw[XV] at k;apply XD;intro X;obtain⟨i,q,K⟩:=XZ V;obtain⟨j,R,Z⟩:=XZ G;have C:i≠j:=fun e=>by subst e;exact X (K.symm.trans Z)
   rcases Nat.lt_or_gt_of_ne C with c|c
   ·have:=XY.1 k i j q R c;rw[K,Z] at this;exact this N
   ·have:=XY.1 k j i R q c;rw[K,Z] at this;exact this N.symm
  subst I;show s.1=_;rcases E with E|E
  ·have:=congrArg aE.It.f E;simp at this;omega
  ·unfold aE.lt at E;simp at E;omega
 have U:∀ u∈uniq (aE.meet a b T),∀ e∈es,e.id=u.n->e∈es.filter (ki name a b):=by
  intro u G e d Y;obtain⟨A,_,g⟩:=fst u G e d Y;exact XF.2 ⟨d,by simp[ki,A,(Jp (W e d) (h0 e d)).2 g]⟩
 refine⟨?_,fun e=>⟨fun d=>?_,fun d=>?_⟩⟩
 ·rw[XY];intro i j q R C;have o:=XY.1 u1 i j UU UU C;obtain⟨M,H⟩:=O i q;obtain⟨b1,b2⟩:=O j R;have f1:=(fst _ (zg UU) _ M H).2.1;have f2:=(fst _ (zg UU) _ b1 b2).2.1;unfold aE.lt at o;unfold lL;rw[<- f1,<- f2,H,b2];exact o
 ·obtain⟨i,q,rfl⟩:=XZ d;obtain⟨M,H⟩:=O i q;exact U _ (zg UU) _ M H
 ·obtain⟨p,D⟩:=XF.1 d;simp only[ki,W7,decide_eq_true_eq] at D;obtain⟨s,s1,s2⟩:=(Jp (W e p) (h0 e p)).1 D.2;obtain⟨u,G,N,_⟩:=u3 _ ((B _).2 ⟨e,p,D.1,s,s1,s2,rfl⟩);obtain⟨i,q,K⟩:=XZ G;obtain⟨M,H⟩:=O i UU;have:ys[i]'UU=e:=J.one M p (by rw[H,K];exact N);rw[<- this];exact zg _
theorem ym(p:aL->U7)(h:dB es):dB (es.filter p):=by
 unfold dB at *;exact XE (X4 _ List.filter_sublist) h
end aA
namespace aA
theorem Cb{a b:U4}:bW a b=Vg↔a.toList=b.toList:=by simp[bW]
theorem qY(a:U4):bW a a=Vg:=Cb.2 rfl
theorem Jg{a b c:U4}(h:bW a b=Vg):bW c a=bW c b:=by
 unfold bW;rw[Cb.1 h]
def nR(a b:U9)(x:aL):U5 aL->U5 aL
 |[]=>[x]
 |y :: r=>if fp a b x.aK<fp a b y.aK\/(fp a b x.aK=fp a b y.aK/\x.id<y.id) then x :: y :: r else y :: nR a b x r
def qL(a b:U9):U5 aL->U5 aL
 |[]=>[]
 |x :: r=>nR a b x (qL a b r)
theorem Bz{a b:U9}{x z:aL}:∀ {l:U5 aL},z∈nR a b x l↔z=x\/z∈l
 |[]=>by simp[nR]
 |y :: r=>by
  simp only[nR]
  split
  ·simp
  ·rw[VA,Bz,VA];constructor
   ·rintro (h|h|h)
    ·exact .inr (.inl h)
    ·exact .inl h
    ·exact .inr (.inr h)
   ·rintro (h|h|h)
    ·exact .inr (.inl h)
    ·exact .inl h
    ·exact .inr (.inr h)
theorem yw{a b:U9}{z:aL}:∀ {l:U5 aL},z∈qL a b l↔z∈l
 |[]=>by simp[qL]
 |x :: r=>by rw[qL,Bz,yw,VA]
theorem F8{a b:U9}{x:aL}:∀ {l:U5 aL},l.Pairwise (lL a b)->(∀ z∈l,z.id≠x.id)->(nR a b x l).Pairwise (lL a b)
 |[],_,_=>by simp[nR]
 |y :: r,h,hn=>by
  rw[VO] at h;simp only[nR]
  split
  ·rename_i c
   refine VO.2 ⟨fun z d=>?_,VO.2 h⟩;rcases VA.1 d with rfl|d
   ·exact c
   ·exact Hq a b x y z c (h.1 z d)
  ·rename_i c
   refine VO.2 ⟨fun z d=>?_,F8 h.2 (fun z d=>hn z (by simp[d]))⟩;rcases Bz.1 d with rfl|d
   ·have:=hn y UV;unfold lL;omega
   ·exact h.1 z d
theorem G4{a b:U9}:∀ {l:U5 aL},dB l->(qL a b l).Pairwise (lL a b)
 |[],_=>by simp[qL]
 |x :: r,h=>by
  obtain⟨f,d⟩:=h.cons;exact F8 (G4 d) (fun z c=>by have:=f z (yw.1 c);omega)
def kT(name:U4)(a b:U9)(es:U5 aL):U5 aL:=qL a b (es.filter (ki name a b))
theorem Hm{a:U9}{out:U5 aL}(c:dB es)(h:out.Pairwise (lL a b))(d:∀ e,e∈out↔e∈es.filter (ki name a b)):out=kT name a b es :=
 CG (RU a b) (Hq a b) h (G4 (ym _ c)) (fun e=>(d e).trans yw.symm)
def dQ(ts:U5 (U4 × U9)):U5 aL->U5 aL->U5 aL × U5 U9
 |done,[]=>(done,[])
 |done,e :: r =>
  if e.kind=3/\dG ts (done++e :: r) e.aT e.aH e.aK=Vg then
   ((dQ ts (done++[cS e]) r).1,e.id :: (dQ ts (done++[cS e]) r).2)
  else dQ ts (done++[e]) r
def ey(ts:U5 (U4 × U9))(es:U5 aL):U5 aL × U5 U9:=dQ ts [] es
def CS(tq:U9):U5 aL->U9
 |[]=>tq
 |e :: r=>if e.kind≠1/\e.bY<CS tq r then e.bY else CS tq r
def nk(t:U9)(e:aL):U7:=(e.kind != 1) && decide (e.bY=t)
def JE(ts:U5 (U4 × U9)):U8->U5 aL->U9->U9->U5 aL × U5 U9 × U5 U9
 |0,es,_,_=>(es,[],[])
 |k+1,es,now,tq =>
  if now<tq then
   let t:=CS tq es
   let g:=ey ts (es.filter fun e=>!nk t e)
   let q:=JE ts k g.1 t tq
   (q.1,(es.filter (nk t)).map (·.id)++q.2.1,g.2++q.2.2)
  else (es,[],[])
structure St where
 ts:U5 (U4 × U9)
 es:U5 aL
 given:U9
 now:U9
structure bO where
 err:U9
 at_:U9
 n:U9
 entries:U5 aL
 days:U5 U9
 granted:U5 U9
 ended:U5 U9
def bO.error(e:U9):bO:=⟨e,0,0,[],[],[],[]⟩
def bO.num(n:U9):bO:=⟨0,0,n,[],[],[],[]⟩
inductive fJ where
 |aT (name:U4) (aH:U9)
 |enter (kind:U9) (name:U4) (aH fr til long:U9)
 |series (name:U4) (aH:U9) (r:Rd.bL)
 |confirm (id:U9)
 |cancel (id:U9)
 |list (name:U4) (fr til:U9)
 |waiting
 |cY (name:U4) (fr til:U9)
 |find (name:U4) (aH long fr til:U9)
 |expand (r:Rd.bL)
 |tick (n:U9)
 |clock
def jz(s:St)(e:aL):St × bO:=(⟨s.ts,s.es++[{ e with id:=s.given+1 }],s.given+1,s.now⟩,bO.num (s.given+1))
def rm(s:St)(c:U9)(name:U4)(aH fr til long:U9):U9 :=
 if dH s.ts name aH≠0 then dH s.ts name aH
 else if til<=fr\/1048320<s.now+long then 6
 else if s.given=60 then 5
 else if c=3 then (if eh s.es=6 then 5 else 0)
 else if dG s.ts s.es name aH [(fr,til)] then 0 else 8
def nX(s:St)(c:U9)(name:U4)(aH fr til long:U9):aL:=⟨0,c,name,aH,[(fr,til)],if c=1 then 0 else s.now+long⟩
def mK(s:St)(name:U4)(aH:U9)(r:Rd.bL):U9 :=
 if dH s.ts name aH≠0 then dH s.ts name aH
 else if Rd.gd r≠0 then Rd.gd r
 else if s.given=60 then 5
 else if dG s.ts s.es name aH (Rd.gg r (Rd.bH r)) then 0 else 8
def nf(id:U9)(es:U5 aL):U6 aL:=es.find? fun e=>decide (e.id=id)
def aU(s:St):fJ->St × bO
 |.aT name aH=>if bJ name s.ts≠0 then (s,.error 4) else if s.ts.length=4 then (s,.error 5) else ({ s with ts:=s.ts++[(name,aH)] },.num 0)
 |.enter kind name aH fr til long=>if rm s kind name aH fr til long≠0 then (s,.error (rm s kind name aH fr til long)) else jz s (nX s kind name aH fr til long)
 |.series name aH r=>if mK s name aH r≠0 then (s,.error (mK s name aH r)) else jz s ⟨0,1,name,aH,Rd.gg r (Rd.bH r),0⟩
 |.confirm id=>match nf id s.es with
  |none=>(s,.error 9)
  |some e=>if e.kind≠2 then (s,.error 10) else ({ s with es:=dZ id s.es },.num 0)
 |.cancel id=>match nf id s.es with
  |none=>(s,.error 9)
  |some _=>({ s with es:=kept id s.es },.num 0)
 |.list name fr til=>if bJ name s.ts=0 then (s,.error 3) else if til<=fr then (s,.error 6) else (s,{ bO.num 0 with entries:=kT name fr til s.es })
 |.waiting=>(s,{ bO.num 0 with entries:=s.es.filter fun e=>e.kind==3 })
 |.cY name fr til=>if bJ name s.ts=0 then (s,.error 3) else if til<=fr then (s,.error 6) else (s,.num (lH name s.es fr til))
 |.find name aH long fr til=>if dH s.ts name aH≠0 then (s,.error (dH s.ts name aH)) else if til<=fr then (s,.error 6) else (s,.num (iY s.ts s.es name aH long fr til))
 |.expand r=>if Rd.gd r≠0 then (s,.error (Rd.gd r)) else (s,{ bO.num (Rd.bH r).length with days:=Rd.bH r })
 |.tick n=>if 1048320<s.now+n then (s,.error 6) else
   let q:=JE s.ts (s.es.length+1) s.es s.now (s.now+n)
   ({ s with es:=q.1,now:=s.now+n },{ bO.num (s.now+n) with granted:=q.2.2,ended:=q.2.1 })
 |.clock=>(s,.num s.now)
def ig(s:St)(l:fJ):St × bO :=
 if (aU s l).2.err≠0 then aU s l
 else ({ (aU s l).1 with es:=(ey (aU s l).1.ts (aU s l).1.es).1 },{ (aU s l).2 with granted:=(aU s l).2.granted++(ey (aU s l).1.ts (aU s l).1.es).2 })
def jA:fJ->Prop
 |.aT _ u=>1<=u/\u<=9
 |.enter k _ u fr til long=>(k=1/\long=0\/(k=2\/k=3)/\1<=long/\long<=1048320)/\1<=u/\u<=9/\0<=fr/\fr<=1048320/\0<=til/\til<=1048320
 |.series _ u r=>1<=u/\u<=9/\Rd.fw r
 |.confirm id=>0<=id/\id<=9999999
 |.cancel id=>0<=id/\id<=9999999
 |.list _ fr til=>0<=fr/\fr<=1048320/\0<=til/\til<=1048320
 |.waiting=>True
 |.cY _ fr til=>0<=fr/\fr<=1048320/\0<=til/\til<=1048320
 |.find _ u long fr til=>1<=u/\u<=9/\1<=long/\long<=1048320/\0<=fr/\fr<=1048320/\0<=til/\til<=1048320
 |.expand r=>Rd.fw r
 |.tick n=>1<=n/\n<=1048320
 |.clock=>True
structure gy(now:U9)(e:aL):Prop where
 u1:1<=e.aH
 u9:e.aH<=9
 sl:e.aK.length<=40
 s0:e.aK≠[]
 sp:ow e.aK
 ri:gJ e.aK
 kd:(e.kind=1/\e.bY=0)\/((e.kind=2\/e.kind=3)/\now<e.bY/\e.bY<=1048320/\e.aK.length=1)
structure Inv(s:St):Prop where
 tl:s.ts.length<=4
 tu:∀ t∈s.ts,1<=t.2/\t.2<=9
 tn:s.ts.Pairwise fun t u=>bW t.1 u.1=Vf
 ids:dB s.es
 mP:∀ e∈s.es,1<=e.id/\e.id<=s.given
 g0:0<=s.given
 g1:s.given<=60
 n0:0<=s.now
 n1:s.now<=1048320
 en:∀ e∈s.es,gy s.now e
 th:∀ e∈s.es,e.aH<=bJ e.aT s.ts
 wa:eh s.es<=6
 no:∀ e∈s.es,e.kind=3->dG s.ts s.es e.aT e.aH e.aK=Vf
 wi:∀ name x,bP name x s.es<=bJ name s.ts
end aA
end Go.Proofs.YtfigmlfdnickmaaGreatDoor
