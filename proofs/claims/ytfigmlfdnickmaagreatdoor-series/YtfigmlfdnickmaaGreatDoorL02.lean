import Derived.Test.YtfigmlfdnickmaaGreatDoorL01
import Derived.Lib.SmallJoins
import Derived.OwnWalk
import Derived.Deep.AppendLies
set_option maxRecDepth 100000
set_option maxHeartbeats 8000000
open Go.Proofs.Tryz
open _root_ renaming ByteArray->UU,List->UV,Option->UW,Bool->UX,Nat->UY,Int->UZ,if_neg->U0,if_pos->U1
open Option renaming none->U3,some->U4
open Bool renaming false->U5,true->U6
open Go renaming World->U7,Value->U8,Calls->Va,Addr->Vb
open Go.RowKit renaming Below->U9
open Go.IntKind renaming i64->Vf
open Go.Value renaming pointer->Vv,int->VT,ownBlock->Wr
open List renaming mem_cons->Vq,mem_append->Vr,nodup_cons->Vt,nodup_append->Vy,length_append->VU,length_cons->VV,length->VW,cons_append->VD,length_eq_zero_iff->VY,filter_append->VF,length_nil->VZ,take_append_drop->V1,take_succ_eq_append_getElem->V5,take_of_length_le->V7,all_append->V8,mem_map->V9,take_sublist->Wa,mem_of_mem_take->Wb,length_take_le->Wc,map_append->We,getD->Wf,getElem?_append_left->Wg,getElem?_take_of_lt->Wh,flatMap_cons->Wi,flatMap_append->Wj,length_take_of_le->Wk,set_append_right->Wm,length_set->Wp,append_assoc->VP
open Go.World renaming drew->VB,alloc->Vz,block_lt_of_cell?->Vh,cell?->VA
open Int renaming mul_add->VX,mul_nonneg->V2,mul_nonpos_of_nonpos_of_nonneg->V3,mul_le_mul->V4
open Nat renaming zero_le->V6,le_trans->Vg
open List.Sublist renaming nodup->VJ
open Array renaming getElem?_eq_none->Wn
open Go.Exit renaming inBlock->Wq
namespace Go.Proofs.YtfigmlfdnickmaaGreatDoor
variable{name:UU}{id:UZ}{L:UV (UZ × UZ)}{A A':UV UX->UZ}{F F' Fl Fr Fs G:UV UY}{xs:UV U8}{B E H b cap d e eb f i j n o p q tb:UY}{a pl pr u ul us:UW Vb}{v:U8}{w w' w2 w4 wx wy:U7}
open Go.RowKit
theorem RU(w:U7)(b:UY)(x y:aE.It)(s t:aE.S)(r:aE.S)(u pr:UW Vb)(Fl Fr:UV UY)(h:cE w b x (.node y s t) r u pr Fl Fr)(hs:aE.ht s<=40000)(ht:aE.ht t<=40000)(ho:aE.ht r<=40000)(h1:1<aE.ht (.node y s t)-aE.ht r):
  Va prog 262 #[.pointer (U4 ⟨b,0,U3⟩)] w (kT w (b :: (Fl++Fr)) (aE.qw x (.node y s t) r)):=by
 have g0:=aE.jP s;have g1:=aE.jP t;have g2:=aE.jP r;have g3:aE.ht (.node y s t)=1+max (aE.ht s) (aE.ht t):=rfl;obtain⟨m,V,U,Fs,Ft,rfl,rfl,O,_,_⟩:=h.l.half;have c:=aC (fun w' (k:aF [] w w')=>zA (h.same k) (O.same k));have W:=aC (fun w' (k:aF [] w w')=>jO w' (h.same k).l);generalize aE.ht (.node y s t)=hty at *;have ab:Vf.wrap (hty-aE.ht r)=hty-aE.ht r:=cG UI UI;clear g3
 by_cases hc:aE.ht s<aE.ht t
 ·have eb:aE.qw x (.node y s t) r=aE.se (.node x (aE.sd (.node y s t)) r):=by unfold aE.qw;rw[U1 (by simpa[aE.left,aE.right] using hc)]
  rw[eb];obtain⟨z,K,J,rfl⟩:=aE.yh (t:=t) UI;have gz:aE.ht (.node z K J)=1+max (aE.ht K) (aE.ht J):=rfl;have g4:=aE.jP K;have g5:=aE.jP J;have q1:aE.ht K<=40000:=UI
  have q2:aE.ht J<=40000:=UI
  have R:=aC (fun w' (k:aF [] w w')=>jO w' (O.same k).r);have T:=aC (fun w' (k:aF [] w w')=>jO w' (O.same k).l);generalize aE.ht (.node z K J)=htt at *;clear gz g4 g5 h O eb
  go_in
  go_upto_region 1 with fail
  have Q:=(c.y w.drew (aF.refl _ _).drew).1.c6;have c7:=(c.y w.drew (aF.refl _ _).drew).1.c7
  go_region_held3 (fun w'=>w'.cell? ⟨b,6,U3⟩=U4 (.pointer (U4 ⟨m,0,U3⟩))/\w'.cell? ⟨b,7,U3⟩=U4 (.pointer pr)/\w'=w.drew)
   (exact⟨Q,c7,rfl⟩)
   (first
    |(go_at_call_of 282 (Vv (U4 (Addr.mk m 0 U3)));go_split_ands;refine (W.y _ (aF.refl _ _).drew).mono ?_;rintro e w' ⟨rfl,rfl⟩)
    |(go_at_call_of 282 (Vv pr);go_split_ands;refine (jO _ (c.y _ (aF.refl _ _).drew).1.r).mono ?_;rintro e w' ⟨rfl,rfl⟩))
  go_upto_region 3 with fail
  have Z:=(c.y w.drew.drew (aF.refl _ _).drew.drew).1.c6;have Y:=(c.y w.drew.drew (aF.refl _ _).drew.drew).2.c6;have X:=(c.y w.drew.drew (aF.refl _ _).drew.drew).2.c7
  go_region_held3 (fun w'=>w'.cell? ⟨b,6,U3⟩=U4 (.pointer (U4 ⟨m,0,U3⟩))/\w'.cell? ⟨m,6,U3⟩=U4 (.pointer V)/\w'.cell? ⟨m,7,U3⟩=U4 (.pointer U)/\w'=w.drew.drew)
   (exact⟨Z,Y,X,rfl⟩)
   (first
    |(go_at_call_of 282 (Vv V);go_split_ands;refine (T.y _ (aF.refl _ _).drew.drew).mono ?_;rintro e w' ⟨rfl,rfl⟩)
    |(go_at_call_of 282 (Vv U);go_split_ands;refine (R.y _ (aF.refl _ _).drew.drew).mono ?_;rintro e w' ⟨rfl,rfl⟩))
  have g:=c.y w.drew.drew (aF.refl _ _).drew.drew;have OW:=aC ((aF.refl (b :: ((m :: (Fs++Ft))++Fr)) _).drew.drew:aF _ w w.drew.drew);have C:=aC g;clear g c W T R
  go_wp2_with fail
  have g:=C.y;clear C;refine (CG _ m y z K J s _ _ _ _ g.2 UI UI UI).mono ?_;rintro e w2 ⟨u2,F2,rfl,P,N,I⟩;obtain⟨m1,m2,m3⟩:=g.1.ry P (fun k D=>.inl (N k D)) I;have Q:=I.cell (o:=6) g.1.parts.1 g.1.c6;have f6:=(I.frozen (o:=6) g.1.parts.1 g.1.n.lt).trans (g.1.n.fz 6);have M:=aC (zA m1 (zA N (OW.y.trans m3)));clear m1 m2 m3 P N I g
  go_wp2_with fail
  refine (CF _ b x z (.node y s K) J r _ _ _ _ M.y.1 (by simp only[aE.ht];omega) UI UI).mono ?_;rintro e w3 D;have HK:=aC (D.of M.y.2.2 (by intro k D;have:=M.y.2.1;simp only[Vq,Vr] at *;grind));obtain⟨u3,F3,rfl,P,N,I⟩:=D;clear P N I M Q f6
  go_wp2
  go_ret;exact HK.y
 ·have eb:aE.qw x (.node y s t) r=aE.se (.node x (.node y s t) r):=by unfold aE.qw;rw[U0 (by simpa[aE.left,aE.right] using hc)]
  rw[eb];have R:=aC (fun w' (k:aF [] w w')=>jO w' (O.same k).r);have T:=aC (fun w' (k:aF [] w w')=>jO w' (O.same k).l);generalize aa:aE.ht t=htt at *;clear h O eb
  go_in
  go_upto_region 1 with fail
  have Q:=(c.y w.drew (aF.refl _ _).drew).1.c6;have c7:=(c.y w.drew (aF.refl _ _).drew).1.c7
  go_region_held3 (fun w'=>w'.cell? ⟨b,6,U3⟩=U4 (.pointer (U4 ⟨m,0,U3⟩))/\w'.cell? ⟨b,7,U3⟩=U4 (.pointer pr)/\w'=w.drew)
   (exact⟨Q,c7,rfl⟩)
   (first
    |(go_at_call_of 282 (Vv (U4 (Addr.mk m 0 U3)));go_split_ands;refine (W.y _ (aF.refl _ _).drew).mono ?_;rintro e w' ⟨rfl,rfl⟩)
    |(go_at_call_of 282 (Vv pr);go_split_ands;refine (jO _ (c.y _ (aF.refl _ _).drew).1.r).mono ?_;rintro e w' ⟨rfl,rfl⟩))
  go_upto_region 3 with fail
  have Z:=(c.y w.drew.drew (aF.refl _ _).drew.drew).1.c6;have Y:=(c.y w.drew.drew (aF.refl _ _).drew.drew).2.c6;have X:=(c.y w.drew.drew (aF.refl _ _).drew.drew).2.c7
  go_region_held3 (fun w'=>w'.cell? ⟨b,6,U3⟩=U4 (.pointer (U4 ⟨m,0,U3⟩))/\w'.cell? ⟨m,6,U3⟩=U4 (.pointer V)/\w'.cell? ⟨m,7,U3⟩=U4 (.pointer U)/\w'=w.drew.drew)
   (exact⟨Z,Y,X,rfl⟩)
   (first
    |(go_at_call_of 282 (Vv V);go_split_ands;refine (T.y _ (aF.refl _ _).drew.drew).mono ?_;rintro e w' ⟨rfl,rfl⟩)
    |(go_at_call_of 282 (Vv U);go_split_ands;refine (R.y _ (aF.refl _ _).drew.drew).mono ?_;rintro e w' ⟨rfl,rfl⟩))
  have g:=c.y w.drew.drew (aF.refl _ _).drew.drew;have OW:=aC ((aF.refl (b :: ((m :: (Fs++Ft))++Fr)) _).drew.drew:aF _ w w.drew.drew);have C:=aC g;clear g c W T R
  go_wp2_with fail
  have g:=C.y;clear C;refine (CF _ b x y s t r _ _ _ _ g.1 UI UI UI).mono ?_;rintro e w3 D;have HK:=aC (D.of OW.y (fun _ D=>D));obtain⟨u3,F3,rfl,P,N,I⟩:=D;clear P N I
  go_wp2
  go_ret;exact HK.y
theorem RV(w:U7)(b:UY)(x y:aE.It)(s t:aE.S)(l:aE.S)(u pl:UW Vb)(Fl Fr:UV UY)(h:cE w b x l (.node y s t) pl u Fl Fr)(hs:aE.ht s<=40000)(ht:aE.ht t<=40000)(ho:aE.ht l<=40000)(h1:aE.ht l-aE.ht (.node y s t) < -1):
  Va prog 262 #[.pointer (U4 ⟨b,0,U3⟩)] w (kT w (b :: (Fl++Fr)) (aE.qx x l (.node y s t))):=by
 have g0:=aE.jP s;have g1:=aE.jP t;have g2:=aE.jP l;have g3:aE.ht (.node y s t)=1+max (aE.ht s) (aE.ht t):=rfl;obtain⟨m,V,U,Fs,Ft,rfl,rfl,O,_,_⟩:=h.r.half;have c:=aC (fun w' (k:aF [] w w')=>zA (h.same k) (O.same k));have W:=aC (fun w' (k:aF [] w w')=>jO w' (h.same k).r);generalize aE.ht (.node y s t)=hty at *;have aa:Vf.wrap (aE.ht l-hty)=aE.ht l-hty:=cG UI UI;have nx:¬ 1<aE.ht l-hty:=UI
 clear g3
 by_cases hc:aE.ht t<aE.ht s
 ·have eb:aE.qx x l (.node y s t)=aE.sd (.node x l (aE.se (.node y s t))):=by unfold aE.qx;rw[U1 (by simpa[aE.left,aE.right] using hc)]
  rw[eb];obtain⟨z,K,J,rfl⟩:=aE.yh (t:=s) UI;have gz:aE.ht (.node z K J)=1+max (aE.ht K) (aE.ht J):=rfl;have g4:=aE.jP K;have g5:=aE.jP J;have q1:aE.ht K<=40000:=UI
  have q2:aE.ht J<=40000:=UI
  have R:=aC (fun w' (k:aF [] w w')=>jO w' (O.same k).r);have T:=aC (fun w' (k:aF [] w w')=>jO w' (O.same k).l);generalize aE.ht (.node z K J)=hts at *;clear gz g4 g5 h O eb
  go_in
  go_upto_region 1 with fail
  have Q:=(c.y w.drew (aF.refl _ _).drew).1.c6;have c7:=(c.y w.drew (aF.refl _ _).drew).1.c7
  go_region_held3 (fun w'=>w'.cell? ⟨b,6,U3⟩=U4 (.pointer pl)/\w'.cell? ⟨b,7,U3⟩=U4 (.pointer (U4 ⟨m,0,U3⟩))/\w'=w.drew)
   (exact⟨Q,c7,rfl⟩)
   (first
    |(go_at_call_of 282 (Vv (U4 (Addr.mk m 0 U3)));go_split_ands;refine (W.y _ (aF.refl _ _).drew).mono ?_;rintro e w' ⟨rfl,rfl⟩)
    |(go_at_call_of 282 (Vv pl);go_split_ands;refine (jO _ (c.y _ (aF.refl _ _).drew).1.l).mono ?_;rintro e w' ⟨rfl,rfl⟩))
  go_upto_region 7 with fail
  have Z:=(c.y w.drew.drew (aF.refl _ _).drew.drew).1.c7;have Y:=(c.y w.drew.drew (aF.refl _ _).drew.drew).2.c6;have X:=(c.y w.drew.drew (aF.refl _ _).drew.drew).2.c7
  go_region_held3 (fun w'=>w'.cell? ⟨b,7,U3⟩=U4 (.pointer (U4 ⟨m,0,U3⟩))/\w'.cell? ⟨m,6,U3⟩=U4 (.pointer V)/\w'.cell? ⟨m,7,U3⟩=U4 (.pointer U)/\w'=w.drew.drew)
   (exact⟨Z,Y,X,rfl⟩)
   (first
    |(go_at_call_of 282 (Vv V);go_split_ands;refine (T.y _ (aF.refl _ _).drew.drew).mono ?_;rintro e w' ⟨rfl,rfl⟩)
    |(go_at_call_of 282 (Vv U);go_split_ands;refine (R.y _ (aF.refl _ _).drew.drew).mono ?_;rintro e w' ⟨rfl,rfl⟩))
  have g:=c.y w.drew.drew (aF.refl _ _).drew.drew;have OW:=aC ((aF.refl (b :: (Fl++(m :: (Fs++Ft)))) _).drew.drew:aF _ w w.drew.drew);have C:=aC g;clear g c W T R
  go_wp2_with fail
  have g:=C.y;clear C;refine (CF _ m y z K J t _ _ _ _ g.2 UI UI UI).mono ?_;rintro e w2 ⟨u2,F2,rfl,P,N,I⟩;obtain⟨m1,m2,m3⟩:=g.1.uj P (fun k D=>.inl (N k D)) I;have Q:=I.cell (o:=7) g.1.parts.2.1 g.1.c7;have f6:=(I.frozen (o:=7) g.1.parts.2.1 g.1.n.lt).trans (g.1.n.fz 7);have M:=aC (zA m1 (zA N (OW.y.trans m3)));clear m1 m2 m3 P N I g
  go_wp2_with fail
  refine (CG _ b x z K (.node y J t) l _ _ _ _ M.y.1 UI (by simp only[aE.ht];omega) UI).mono ?_;rintro e w3 D;have HK:=aC (D.of M.y.2.2 (by intro k D;have:=M.y.2.1;simp only[Vq,Vr] at *;grind));obtain⟨u3,F3,rfl,P,N,I⟩:=D;clear P N I M Q f6
  go_wp2
  go_ret;exact HK.y
 ·have eb:aE.qx x l (.node y s t)=aE.sd (.node x l (.node y s t)):=by unfold aE.qx;rw[U0 (by simpa[aE.left,aE.right] using hc)]
  rw[eb];have R:=aC (fun w' (k:aF [] w w')=>jO w' (O.same k).r);have T:=aC (fun w' (k:aF [] w w')=>jO w' (O.same k).l);clear h O eb
  go_in
  go_upto_region 1 with fail
  have Q:=(c.y w.drew (aF.refl _ _).drew).1.c6;have c7:=(c.y w.drew (aF.refl _ _).drew).1.c7
  go_region_held3 (fun w'=>w'.cell? ⟨b,6,U3⟩=U4 (.pointer pl)/\w'.cell? ⟨b,7,U3⟩=U4 (.pointer (U4 ⟨m,0,U3⟩))/\w'=w.drew)
   (exact⟨Q,c7,rfl⟩)
   (first
    |(go_at_call_of 282 (Vv (U4 (Addr.mk m 0 U3)));go_split_ands;refine (W.y _ (aF.refl _ _).drew).mono ?_;rintro e w' ⟨rfl,rfl⟩)
    |(go_at_call_of 282 (Vv pl);go_split_ands;refine (jO _ (c.y _ (aF.refl _ _).drew).1.l).mono ?_;rintro e w' ⟨rfl,rfl⟩))
  go_upto_region 7 with fail
  have Z:=(c.y w.drew.drew (aF.refl _ _).drew.drew).1.c7;have Y:=(c.y w.drew.drew (aF.refl _ _).drew.drew).2.c6;have X:=(c.y w.drew.drew (aF.refl _ _).drew.drew).2.c7
  go_region_held3 (fun w'=>w'.cell? ⟨b,7,U3⟩=U4 (.pointer (U4 ⟨m,0,U3⟩))/\w'.cell? ⟨m,6,U3⟩=U4 (.pointer V)/\w'.cell? ⟨m,7,U3⟩=U4 (.pointer U)/\w'=w.drew.drew)
   (exact⟨Z,Y,X,rfl⟩)
   (first
    |(go_at_call_of 282 (Vv V);go_split_ands;refine (T.y _ (aF.refl _ _).drew.drew).mono ?_;rintro e w' ⟨rfl,rfl⟩)
    |(go_at_call_of 282 (Vv U);go_split_ands;refine (R.y _ (aF.refl _ _).drew.drew).mono ?_;rintro e w' ⟨rfl,rfl⟩))
  have g:=c.y w.drew.drew (aF.refl _ _).drew.drew;have OW:=aC ((aF.refl (b :: (Fl++(m :: (Fs++Ft)))) _).drew.drew:aF _ w w.drew.drew);have C:=aC g;clear g c W T R
  go_wp2_with fail
  have g:=C.y;clear C;refine (CG _ b x y s t l _ _ _ _ g.1 UI UI UI).mono ?_;rintro e w3 D;have HK:=aC (D.of OW.y (fun _ D=>D));obtain⟨u3,F3,rfl,P,N,I⟩:=D;clear P N I
  go_wp2
  go_ret;exact HK.y
theorem sR(w:U7)(b:UY)(x:aE.It)(l r:aE.S)(pl pr:UW Vb)(Fl Fr:UV UY)(h:cE w b x l r pl pr Fl Fr)(z:aE.ht l<=30000)(m:aE.ht r<=30000):
  Va prog 262 #[.pointer (U4 ⟨b,0,U3⟩)] w (kT w (b :: (Fl++Fr)) (aE.fQ x l r)):=by
 have D:=aE.jP l;have C:=aE.jP r
 by_cases c:1<aE.ht l-aE.ht r
 ·have e:aE.fQ x l r=aE.qw x l r:=by unfold aE.fQ;rw[U1 c]
  rw[e];obtain⟨y,s,t,rfl⟩:=aE.yh (t:=l) UI;have k:aE.ht (.node y s t)=1+max (aE.ht s) (aE.ht t):=rfl;exact RU w b x y s t r pl pr Fl Fr h UI UI UI c
 ·by_cases g:aE.ht l-aE.ht r < -1
  ·have e:aE.fQ x l r=aE.qx x l r:=by unfold aE.fQ;rw[U0 c,U1 g]
   rw[e];obtain⟨y,s,t,rfl⟩:=aE.yh (t:=r) UI;have k:aE.ht (.node y s t)=1+max (aE.ht s) (aE.ht t):=rfl;exact RV w b x y s t l pr pl Fl Fr h UI UI UI g
  ·have e:aE.fQ x l r=.node x l r:=by unfold aE.fQ;rw[U0 c,U0 g]
   rw[e];exact Ty w b x l r pl pr Fl Fr h UI UI c g
def lq(a b:UZ):UZ:=if a<b then -1 else if b<a then 1 else 0
theorem BN(a:UZ)(w:U7):Va prog 279 #[.int .i64 a] w fun e w'=>e=.returned (.bool U5)/\w'=w:=by
 go_in
 go_wp2;go_ret;exact⟨nY UJ,rfl⟩
theorem yq(a b:UZ)(w:U7):Va prog 251 #[.int .i64 a,.int .i64 b] w fun e w'=>e=.returned (.int .i64 (lq a b))/\w'=w:=by
 by_cases c:a<b
 ·go_in
  go_wp2_with (go_at_call 279;refine (BN _ _).mono ?_;rintro e w' ⟨rfl,rfl⟩)
  go_ret;exact⟨gL (by simp[lq,c]),rfl⟩
 ·by_cases g:b<a
  ·go_in
   go_wp2_with (go_at_call 279;refine (BN _ _).mono ?_;rintro e w' ⟨rfl,rfl⟩)
   go_ret;exact⟨gL (by rw[lq,U0 UI,U1 UI]),rfl⟩
  ·go_in
   go_wp2_with (go_at_call 279;refine (BN _ _).mono ?_;rintro e w' ⟨rfl,rfl⟩)
   go_ret;exact⟨gL (by rw[lq,U0 UI,U0 UI]),rfl⟩
def oR(x y:UZ):UZ:=if x=0 then y else x
theorem Fi(A:UY)(x y:UZ)(w:U7)(m:w.cell? ⟨A,0,U3⟩=U4 (.int .i64 x))(l:w.cell? ⟨A,1,U3⟩=U4 (.int .i64 y)):
  Va prog 250 #[.slice (U4 ⟨A,0,U3⟩) 2 2] w fun e w'=>e=.returned (.int .i64 (oR x y))/\w'=w:=by
 go_in
 go_wp2
 go_loop [5,8] (fun _ i=>i=.int .i64 0\/(x=0/\i=.int .i64 1)\/(x=0/\y=0/\i=.int .i64 2)) (fun _ i=>2-(intOf i).toNat)
 case atStart=>exact .inl rfl
 case round =>
  rcases hrel with rfl|⟨c,rfl⟩|⟨c,g,rfl⟩
  ·by_cases c:x=0
   ·subst c;go_wp2
    go_round
    case rel=>simp
    case measure=>simp[intOf]
   ·have k:(x != 0)=U6:=by simpa using c
    go_wp2;go_ret;exact⟨gL (by rw[oR,U0 c]),rfl⟩
  ·subst c
   by_cases g:y=0
   ·subst g;go_wp2
    go_round
    case rel=>simp
    case measure=>simp[intOf]
   ·have h:(y != 0)=U6:=by simpa using g
    go_wp2;go_ret;exact⟨gL (by rw[oR,U1 rfl]),rfl⟩
  ·subst c;subst g;go_wp2;go_ret;exact⟨gL (by simp[oR]),rfl⟩
theorem O6(f n:UZ)(x:aE.It):oR (lq f x.f) (lq n x.n)=aE.side f n x:=by
 unfold oR lq aE.side
 by_cases c:f<x.f
 ·simp[c]
 ·by_cases g:x.f<f
  ·simp[c,g]
  ·simp[c,g]
theorem IX(b:UY)(x:aE.It)(f n:UZ)(w:U7)(h:gh w b x):
  Va prog 263 #[.pointer (U4 ⟨b,0,U3⟩),.int .i64 f,.int .i64 n] w fun e w'=>e=.returned (.int .i64 (aE.side f n x))/\U9 w.heap.size w w':=by
 have g:=h.c0;have c:=h.c2;rw[<- O6];have HP:=aC (fun w'=>yq f x.f w');have k:=aC (fun w'=>yq n x.n w');generalize lq f x.f=p at *;generalize lq n x.n=q at *;clear h
 go_in
 go_upto_region 1 with fail
 go_region_held3 (fun w'=>w'.cell? ⟨b,0,U3⟩=U4 (.int .i64 x.f)/\w'.cell? ⟨b,2,U3⟩=U4 (.int .i64 x.n)/\U9 w.heap.size w w')
  (first
   |exact⟨g,c,dM _⟩
   |(go_split_ands;refine⟨?_,?_,?_⟩ <;> assumption)
   |(go_split_ands;exact⟨aN ((zr _ _).alloc (zq _) _) UL,aN ((zr _ _).alloc (zq _) _) UL,aZ UL ((zr _ _).alloc (zq _) _) (zq _)⟩))
  (first
   |(go_at_call_of 251 (VT .i64 f);refine (HP.y _).mono ?_;rintro e w' ⟨rfl,rfl⟩)
   |(go_at_call_of 251 (VT .i64 n);refine (k.y _).mono ?_;rintro e w' ⟨rfl,rfl⟩)
   |(go_at_call 250;refine (Fi _ p q _ UJ UJ).mono ?_;rintro e w' ⟨rfl,rfl⟩))
 all_goals
  have l:Hid (U9 w.heap.size w (VB (Vz w (.cells #[.int .i64 p,.int .i64 q] 3)))):=((zr _ _).alloc (zq _) _).drew
  go_wp2
  go_ret;exact⟨rfl,l.y⟩
def tT(w:U7)(F:UV UY)(c:aE.S)(e:Ending)(w':U7):Prop :=
 ∃ (u:UW Vb) (F':UV UY),e=.returned (.pointer u)/\cR w' c (.pointer u) F'/\(∀ k∈F',k∈F\/w.heap.size<=k)/\aF F w w'
theorem cE.yP{x:aE.It}{l r D:aE.S}(h:cE w b x l r pl pr Fl Fr)(C:b ∉ G)(K:∀ y∈Fr,y ∉ G)(I:cR w2 D (.pointer u) F')(s:∀ k∈F',k∈G\/w.heap.size<=k)(m:aF G w w2):
  cE (w2.setCell ⟨b,6,U3⟩ (.pointer u)) b x D r u pr F' Fr/\(∀ k∈b :: (F'++Fr),k∈b :: (G++Fr)\/w.heap.size<=k)/\aF (b :: (G++Fr)) w (w2.setCell ⟨b,6,U3⟩ (.pointer u)):=by
 obtain⟨U,N,T,R,Q,P,O,M⟩:=h.parts;have g:=h.lt;refine⟨cE.jV (h.n.off m C) (m.cell C h.c7) I (h.r.off m K) ?_,fun k c=>?_,?_⟩
 ·refine Vt.2 ⟨fun e=>?_,Vy.2 ⟨I.nodup,M,fun y t z J e=>?_⟩⟩
  ·rcases Vr.1 e with e|e
   ·rcases s b e with e|e
    ·exact C e
    ·have:=g b UJ;omega
   ·exact N e
  ·subst e;rcases s y t with e|e
   ·exact K y J e
   ·have:=g y (by simp[J]);omega
 ·rcases Vq.1 c with rfl|c
  ·exact .inl UJ
  ·rcases Vr.1 c with c|c
   ·rcases s k c with e|e
    ·exact .inl (by simp[e])
    ·exact .inr e
   ·exact .inl (by simp[c])
 ·exact (m.mono (by intro y t;simp[t])).setCell (.inl UJ) _ _
theorem cE.yO{x:aE.It}{l r D:aE.S}(h:cE w b x l r pl pr Fl Fr)(C:b ∉ G)(J:∀ y∈Fl,y ∉ G)(I:cR w2 D (.pointer u) F')(t:∀ k∈F',k∈G\/w.heap.size<=k)(m:aF G w w2):
  cE (w2.setCell ⟨b,7,U3⟩ (.pointer u)) b x l D pl u Fl F'/\(∀ k∈b :: (Fl++F'),k∈b :: (Fl++G)\/w.heap.size<=k)/\aF (b :: (Fl++G)) w (w2.setCell ⟨b,7,U3⟩ (.pointer u)):=by
 obtain⟨M,U,T,R,Q,P,K,O⟩:=h.parts;have g:=h.lt;refine⟨cE.jf (h.n.off m C) (m.cell C h.c6) (h.l.off m J) I ?_,fun k c=>?_,?_⟩
 ·refine Vt.2 ⟨fun e=>?_,Vy.2 ⟨K,I.nodup,fun y s z N e=>?_⟩⟩
  ·rcases Vr.1 e with e|e
   ·exact M e
   ·rcases t b e with e|e
    ·exact C e
    ·have:=g b UJ;omega
  ·subst e;rcases t y N with e|e
   ·exact J y s e
   ·have:=g y (by simp[s]);omega
 ·rcases Vq.1 c with rfl|c
  ·exact .inl UJ
  ·rcases Vr.1 c with c|c
   ·exact .inl (by simp[c])
   ·rcases t k c with e|e
    ·exact .inl (by simp[e])
    ·exact .inr e
 ·exact (m.mono (by intro y s;simp[s])).setCell (.inl UJ) _ _
theorem size_put(x:aE.It):∀ t:aE.S,aE.size (aE.put x t)<=aE.size t+1
 |.nil=>by
  rw[<- aE.mJ,aE.put,aE.nf];simp[aE.bS,aE.size]
 |.node y l r=>by
  have g:=size_put x l;have c:=size_put x r;rw[<- aE.mJ] at g c;rw[<- aE.mJ,aE.put];have k:=aE.mJ l;have h:=aE.mJ r
  split
  ·rw[aE.nf];simp only[VU,VV,aE.size];omega
  ·split
   ·rw[aE.nf];simp only[VU,VV,aE.size];omega
   ·rw[aE.nf];simp only[VU,VV,aE.size];omega
theorem OZ(x:aE.It):∀ (t:aE.S)(u:UW Vb)(F:UV UY)(c:UY)(w:U7),cR w t (.pointer u) F->cE w c x .nil .nil U3 U3 [] []->c ∉ F->aE.size t<=10000->(∀ z∈aE.bS t,¬ (z.f=x.f/\z.n=x.n)) ->
  Va prog 220 #[.pointer u,.pointer (U4 ⟨c,0,U3⟩)] w (tT w (c :: F) (aE.put x t)):=by
 intro t
 induction t with
 |nil =>
  intro u F c w h V _ _ _;obtain⟨hu,rfl⟩:=h
  cases hu
  have P:=aC (sR w c x .nil .nil U3 U3 [] [] V (by simp[aE.ht]) (by simp[aE.ht]));clear V
  go_in
  go_wp2_with fail
  refine P.y.mono ?_;rintro e w2 ⟨u2,F2,rfl,K,J,m⟩;have HK:Hid (tT w [c] (aE.put x .nil) (.returned (.pointer u2)) w2):=⟨u2,F2,rfl,K,fun k N=>.inl (J k N),m⟩;clear K J m P
  go_wp2
  go_ret;exact HK.y
 |node y l r ihl ihr =>
  intro u F c w h V O ac s;have aa:=aC ihl;have Z:=aC ihr;clear ihl ihr;obtain⟨b,pl,pr,Fl,Fr,rfl,rfl,T,_,_⟩:=h.half;have ab:¬ (y.f=x.f/\y.n=x.n):=s y (by simp[aE.bS]);have sl:=size_put x l;have sr:=size_put x r;have hs:aE.size (.node y l r)=1+aE.size l+aE.size r:=rfl
  have W:aE.side x.f x.n y<0\/0<aE.side x.f x.n y:=by
   by_cases a:aE.side x.f x.n y<0
   ·exact .inl a
   ·refine .inr ?_;rw[aE.sJ] at a;rw[aE.vJ];omega
  have a0:=V.n.c0;have a2:=V.n.c2;have CM:=aC (fun w' k'=>IX b y x.f x.n w' (T.n.off (G:=[]) k' UJ));rcases W with a|a
  ·have ep:aE.put x (.node y l r)=aE.fQ y (aE.put x l) r:=by rw[aE.put,U1 a]
   rw[ep]
   have PT:Hid (∀ w2,U9 w.heap.size w w2->Va prog 220 #[.pointer pl,.pointer (U4 ⟨c,0,U3⟩)] w2 (tT w2 (c :: Fl) (aE.put x l))) :=
    fun w2 U=>aa.y pl Fl c w2 (T.l.later U) (V.same (aF.aD U)) (fun e=>O (by simp[e])) UI (fun z hz=>s z (by simp[aE.bS,hz]))
   have HH:=aC (fun w2 (U:U9 w.heap.size w w2)=>T.same (aF.aD U))
   have C:b ∉ c :: Fl:=by
    simp only[Vq,not_or];exact⟨fun e=>O (by simp[e]),T.parts.1⟩
   have X:∀ y∈Fr,y ∉ c :: Fl:=by
    intro y hy;simp only[Vq,not_or];exact⟨fun e=>O (by simp[<- e,hy]),T.parts.2.2.2.2.1 y hy⟩
   have R:aE.ht (aE.put x l)<=30000:=by have:=aE.lW (aE.put x l);omega
   have Q:aE.ht r<=30000:=by have:=aE.lW r;omega
   clear T V aa Z s hs sl sr ab ep
   go_in
   go_upto_region 3 with fail
   go_region_held3 (fun w'=>w'.cell? ⟨c,0,U3⟩=U4 (.int .i64 x.f)/\w'.cell? ⟨c,2,U3⟩=U4 (.int .i64 x.n)/\U9 w.heap.size w w')
    (first
     |exact⟨a0,a2,dM _⟩
     |(go_split_ands;exact⟨aN I UL,aN I UL,aZ UL I (zq _)⟩))
    (first
     |(go_at_call 263;go_split_ands;refine (CM.y _ (aF.aD UL)).mono ?_;rintro e w2 ⟨rfl,I⟩))
   have Y:U9 w.heap.size w w2:=by go_split_ands;assumption
   have D:=HH.y w2 Y;have c6:=D.c6;have P:=aC Y;have g:=aC D;clear Y D HH CM a0 a2
   go_wp2_with fail
   refine (PT.y _ P.y).mono ?_;rintro e w3 ⟨u3,F3,rfl,K,J,m⟩;obtain⟨m1,m2,m3⟩:=g.y.yP C X K J m;have d6:=m.cell (o:=6) C c6;have f6:=(m.frozen (o:=6) C g.y.n.lt).trans (g.y.n.fz 6);have M:=aC (zA m1 (zA m2 m3));clear m1 m2 m3 K J m c6 PT g
   go_wp2_with fail
   refine (sR _ b y (aE.put x l) r _ _ _ _ M.y.1 R Q).mono ?_;rintro e w4 ⟨u4,F4,rfl,K,J,m⟩
   have HK:Hid (tT w (c :: (b :: (Fl++Fr))) (aE.fQ y (aE.put x l) r) (.returned (.pointer u4)) w4):=by
    have z1:=P.y.size;have z2:=M.y.2.1;refine⟨u4,F4,rfl,K,fun k N=>?_,?_⟩
    ·have:=z2 k (J k N);simp only[Vq,Vr] at this ⊢
     grind
    ·have o1:aF (c :: (b :: (Fl++Fr))) w _:=(aF.aD P.y).trans (M.y.2.2.mono (by intro k N;simp only[Vq,Vr] at N ⊢;grind));refine o1.trans' m (fun k N=>?_);have:=z2 k N;simp only[Vq,Vr] at this ⊢
     grind
   clear K J m M P d6 f6
   go_wp2
   go_ret;exact HK.y
  ·have a':¬ aE.side x.f x.n y<0:=UI
   have ep:aE.put x (.node y l r)=aE.fQ y l (aE.put x r):=by rw[aE.put,U0 a',U1 a]
   rw[ep]
   have PT:Hid (∀ w2,U9 w.heap.size w w2->Va prog 220 #[.pointer pr,.pointer (U4 ⟨c,0,U3⟩)] w2 (tT w2 (c :: Fr) (aE.put x r))) :=
    fun w2 U=>Z.y pr Fr c w2 (T.r.later U) (V.same (aF.aD U)) (fun e=>O (by simp[e])) UI (fun z hz=>s z (by simp[aE.bS,hz]))
   have HH:=aC (fun w2 (U:U9 w.heap.size w w2)=>T.same (aF.aD U))
   have C:b ∉ c :: Fr:=by
    simp only[Vq,not_or];exact⟨fun e=>O (by simp[e]),T.parts.2.1⟩
   have X:∀ y∈Fl,y ∉ c :: Fr:=by
    intro y hy;simp only[Vq,not_or];exact⟨fun e=>O (by simp[<- e,hy]),T.parts.2.2.2.2.2.1 y hy⟩
   have R:aE.ht (aE.put x r)<=30000:=by have:=aE.lW (aE.put x r);omega
   have Q:aE.ht l<=30000:=by have:=aE.lW l;omega
   clear T V aa Z s hs sl sr ab ep
   go_in
   go_upto_region 3 with fail
   go_region_held3 (fun w'=>w'.cell? ⟨c,0,U3⟩=U4 (.int .i64 x.f)/\w'.cell? ⟨c,2,U3⟩=U4 (.int .i64 x.n)/\U9 w.heap.size w w')
    (first
     |exact⟨a0,a2,dM _⟩
     |(go_split_ands;exact⟨aN I UL,aN I UL,aZ UL I (zq _)⟩))
    (first
     |(go_at_call 263;go_split_ands;refine (CM.y _ (aF.aD UL)).mono ?_;rintro e w2 ⟨rfl,I⟩))
   have Y:U9 w.heap.size w w2:=by go_split_ands;assumption
   have D:=HH.y w2 Y;have c6:=D.c7;have P:=aC Y;have g:=aC D;clear Y D HH CM a0 a2
   go_wp2_with fail
   refine (PT.y _ P.y).mono ?_;rintro e w3 ⟨u3,F3,rfl,K,J,m⟩;obtain⟨m1,m2,m3⟩:=g.y.yO C X K J m;have d6:=m.cell (o:=7) C c6;have f6:=(m.frozen (o:=7) C g.y.n.lt).trans (g.y.n.fz 7);have M:=aC (zA m1 (zA m2 m3));clear m1 m2 m3 K J m c6 PT g
   go_wp2_with fail
   refine (sR _ b y l (aE.put x r) _ _ _ _ M.y.1 Q R).mono ?_;rintro e w4 ⟨u4,F4,rfl,K,J,m⟩
   have HK:Hid (tT w (c :: (b :: (Fl++Fr))) (aE.fQ y l (aE.put x r)) (.returned (.pointer u4)) w4):=by
    have z1:=P.y.size;have z2:=M.y.2.1;refine⟨u4,F4,rfl,K,fun k N=>?_,?_⟩
    ·have:=z2 k (J k N);simp only[Vq,Vr] at this ⊢
     grind
    ·have o1:aF (c :: (b :: (Fl++Fr))) w _:=(aF.aD P.y).trans (M.y.2.2.mono (by intro k N;simp only[Vq,Vr] at N ⊢;grind));refine o1.trans' m (fun k N=>?_);have:=z2 k N;simp only[Vq,Vr] at this ⊢
     grind
   clear K J m M P d6 f6
   go_wp2
   go_ret;exact HK.y
theorem Iq(x:aE.It)(l r:aE.S):aE.size (aE.kQ x l r)=aE.size l+aE.size r:=by
 have:=congrArg VW (aE.Cj x l r);simp only[VV,VU,aE.mJ] at this;omega
def AR(w:U7)(F:UV UY)(x:aE.It)(g:aE.S)(e:Ending)(w':U7):Prop :=
 ∃ (c:UY) (u:UW Vb) (F':UV UY),e=.returned (.tuple #[.pointer (U4 ⟨c,0,U3⟩),.pointer u])/\gh w' c x/\cR w' g (.pointer u) F'/\c ∉ F'/\c∈F/\(∀ k∈F',k∈F)/\aF F w w'
theorem T3:∀ (l:aE.S)(x:aE.It)(r:aE.S)(u:UW Vb)(F:UV UY)(w:U7),cR w (.node x l r) (.pointer u) F->aE.size l<=10000->aE.size r<=10000 ->
  Va prog 307 #[.pointer u] w (AR w F (aE.nV x l r) (aE.kQ x l r)):=by
 intro l
 induction l with
 |nil =>
  intro x r u F w h _ _;obtain⟨b,pl,pr,Fl,Fr,rfl,rfl,g,_,_⟩:=h.half;obtain⟨hp,rfl⟩:=g.l
  cases hp
  have W:=g.c6;have c7:=g.c7
  have X:Hid (AR w (b :: ([]++Fr)) x r (.returned (.tuple #[.pointer (U4 ⟨b,0,U3⟩),.pointer pr])) w.drew):=by
   have ho:aF [] w w.drew:=(aF.refl _ _).drew;exact⟨b,pr,Fr,rfl,g.n.off ho UJ,g.r.same ho,g.parts.2.1,by simp,fun k t=>by simp[t],(aF.refl _ _).drew⟩
  clear h g
  go_in
  go_wp2_with fail
  go_region_held3 (fun w'=>w'.cell? ⟨b,7,U3⟩=U4 (.pointer pr)) (exact c7) (fail)
  go_wp2
  go_ret2;exact X.y
 |node y a c ihl _ =>
  intro x r u F w h U T;have IH:=aC ihl;clear ihl;obtain⟨b,pl,pr,Fl,Fr,rfl,rfl,g,_,_⟩:=h.half;have es:aE.size (.node y a c)=1+aE.size a+aE.size c:=rfl;have TK:=aC (IH.y y c pl Fl w g.l UI UI);obtain⟨bl,pa,pb,Fa,Fb,rfl,V,_,_,_⟩:=g.l.half;clear V;have W:=g.c6;have e1:=Iq y a c;have e2:=aE.lW (aE.kQ y a c);have e3:=aE.lW r;have g1:aE.ht (aE.kQ y a c)<=30000:=UI
  have g2:aE.ht r<=30000:=UI
  have C:=aC g;have eF:aE.nV x (.node y a c) r=aE.nV y a c:=rfl;have eR:aE.kQ x (.node y a c) r=aE.fQ x (aE.kQ y a c) r:=rfl;rw[eF,eR];generalize aE.nV y a c=fx at *;generalize aE.kQ y a c=tx at *;clear h g es e1 e2 e3 IH U T eF eR
  go_in
  go_wp2_with fail
  refine TK.y.mono ?_;rintro e w1 ⟨z,u1,F1,rfl,Z,Y,K,D,J,I⟩;obtain⟨P,m2,O⟩:=C.y.ry Y (fun k t=>.inl (J k t)) I;have d6:=I.cell (o:=6) C.y.parts.1 W;have f6:=(I.frozen (o:=6) C.y.parts.1 C.y.n.lt).trans (C.y.n.fz 6);have m:z≠b:=by rintro rfl;exact C.y.parts.1 D
  have s:z ∉ Fr:=fun e=>C.y.parts.2.2.2.2.1 z e D
  have N:gh (w1.setCell ⟨b,6,U3⟩ (.pointer u1)) z fx:=Z.off (aF.aX ..) (by simpa using m);have M:=aC (zA P (zA O (zA N (zA K (zA D (zA J (zA m s)))))));clear P m2 O N Z Y K D J I m s TK W
  go_wp2_with fail
  refine (sR _ b x tx r _ _ _ _ M.y.1 g1 g2).mono ?_;rintro e w4 ⟨u4,F4,rfl,k1,R,Q⟩
  have X:Hid (AR w (b :: (Fl++Fr)) fx (aE.fQ x tx r) (.returned (.tuple #[.pointer (U4 ⟨z,0,U3⟩),.pointer u4])) w4):=by
   obtain⟨P,O,N,K,D,J,m,s⟩:=M.y;have hn:z ∉ b :: (F1++Fr):=by simp only[Vq,Vr,not_or];exact⟨m,K,s⟩
   refine⟨z,u4,F4,rfl,N.off Q hn,k1,fun e=>hn (R _ e),by simp[D],fun k t=>?_,O.trans' Q (fun k t=>?_)⟩
   ·have:=R k t;simp only[Vq,Vr] at this ⊢
    grind
   ·simp only[Vq,Vr] at t ⊢
    grind
  clear k1 R Q M d6 f6
  go_wp2
  go_ret2;exact X.y
theorem Rz(l:aE.S)(u:UW Vb)(F:UV UY)(w:U7)(h:cR w l (.pointer u) F):
  Va prog 297 #[.pointer u,.pointer U3] w (kT w F l):=by
 go_in
 go_wp2
 go_ret;exact⟨u,F,rfl,h,fun _ c=>c,aF.refl _ _⟩
theorem Ry(l r:aE.S)(pl pr:UW Vb)(Fl Fr:UV UY)(w:U7)(U:cR w l (.pointer pl) Fl)(J:cR w r (.pointer pr) Fr)(hd:∀ k∈Fl,k ∉ Fr)(R:aE.size l<=10000)(Q:aE.size r<=10000):
  Va prog 297 #[.pointer pl,.pointer pr] w (kT w (Fl++Fr) (aE.kP l r)):=by
 cases r with
 |nil =>
  obtain⟨T,rfl⟩:=J
  cases T
  rw[List.append_nil];exact Rz l pl Fl w U
 |node y a c =>
  have es:aE.size (.node y a c)=1+aE.size a+aE.size c:=rfl;have TK:=aC (T3 a y c pr Fr w J UI UI);obtain⟨br,pa,pb,Fa,Fb,rfl,V,_,_,_⟩:=J.half;clear V;have e1:=Iq y a c;have e2:=aE.lW (aE.kQ y a c);have e3:=aE.lW l;have g1:aE.ht (aE.kQ y a c)<=30000:=UI
  have g2:aE.ht l<=30000:=UI
  have eR:aE.kP l (.node y a c)=aE.fQ (aE.nV y a c) l (aE.kQ y a c):=rfl;rw[eR];generalize aE.nV y a c=fx at *;generalize aE.kQ y a c=tx at *;have HL:=aC U;have K:=aC hd;clear U J hd es e1 e2 e3 eR R Q
  go_in
  go_wp2_with fail
  refine TK.y.mono ?_;rintro e X ⟨h,u1,F1,rfl,z,P,O,x,D,N⟩;have t:=HL.y.off N K.y;have s:h ∉ Fl:=fun e=>K.y h e x
  have C:∀ k∈Fl,k ∉ F1:=fun k g e=>K.y k g (D k e)
  obtain⟨y6,d6⟩:=z.c6;obtain⟨y7,d7⟩:=z.c7;have f6:=z.fz 6;have f7:=z.fz 7;have Y:(h :: (Fl++F1)).Nodup:=Vt.2 ⟨by simp only[Vr,not_or];exact⟨s,O⟩,Vy.2 ⟨t.nodup,P.nodup,fun p T q hq e=>C p T (e ▸ hq)⟩⟩
  have W:cE ((X.setCell ⟨h,6,U3⟩ (.pointer pl)).setCell ⟨h,7,U3⟩ (.pointer u1)) h fx l tx pl u1 Fl F1 :=
   cE.jf (z.tz pl) (zm _ _ _ d6) (t.off (aF.aX ..) (fun k g=>by simp;rintro rfl;exact s g)) (P.off (aF.aX ..) (fun k g=>by simp;rintro rfl;exact O g)) Y
  have I:aF (Fl++Fr) w ((X.setCell ⟨h,6,U3⟩ (.pointer pl)).setCell ⟨h,7,U3⟩ (.pointer u1)) :=
   ((N.mono (by intro k g;simp[g])).setCell (.inl (by simp[x])) _ _).setCell (.inl (by simp[x])) _ _
  have M:=aC (zA W (zA I (zA x D)));clear W I z P O x D N Y C s t TK HL K
  go_wp2_with fail
  refine (sR _ h fx l tx _ _ _ _ M.y.1 g2 g1).mono ?_;rintro e w4 ⟨u4,F4,rfl,k1,k2,Z⟩
  have HK:Hid (kT w (Fl++Fr) (aE.fQ fx l tx) (.returned (.pointer u4)) w4):=by
   obtain⟨W,I,x,D⟩:=M.y
   have m:∀ k∈h :: (Fl++F1),k∈Fl++Fr:=by
    intro k g;simp only[Vq,Vr] at g ⊢
    grind
   exact⟨u4,F4,rfl,k1,fun k g=>m k (k2 k g),I.trans' Z (fun k g=>.inl (m k g))⟩
  clear k1 k2 Z M d6 d7 f6 f7
  go_wp2
  go_ret;exact HK.y
theorem Tq(l r:aE.S):aE.size (aE.kP l r)=aE.size l+aE.size r:=by
 have:=congrArg VW (aE.I6 l r);simp only[VU,aE.mJ] at this;omega
theorem GP(x:aE.It)(l r:aE.S):aE.size (aE.fQ x l r)=1+aE.size l+aE.size r:=by
 have:=congrArg VW (aE.nf x l r);simp only[VU,VV,aE.mJ] at this;omega
theorem vQ(f n:UZ):∀ t:aE.S,aE.size (aE.drop f n t)<=aE.size t
 |.nil=>by simp[aE.drop]
 |.node y l r=>by
  have g:=vQ f n l;have c:=vQ f n r;rw[aE.drop]
  split
  ·rw[GP];simp only[aE.size];omega
  ·split
   ·rw[GP];simp only[aE.size];omega
   ·rw[Tq];simp only[aE.size];omega
theorem Pc(f n:UZ):∀ (t:aE.S)(u:UW Vb)(F:UV UY)(w:U7),cR w t (.pointer u) F->aE.size t<=10000 ->
  Va prog 280 #[.pointer u,.int .i64 f,.int .i64 n] w (kT w F (aE.drop f n t)):=by
 intro t
 induction t with
 |nil =>
  intro u F w h _;obtain⟨hu,rfl⟩:=h
  cases hu
  go_in
  go_wp2
  go_ret;exact⟨U3,[],rfl,⟨rfl,rfl⟩,fun _ c=>c,aF.refl _ _⟩
 |node y l r ihl ihr =>
  intro u F w h aa;have T:=aC ihl;have R:=aC ihr;clear ihl ihr;obtain⟨b,pl,pr,Fl,Fr,rfl,rfl,D,_,_⟩:=h.half;have hs:aE.size (.node y l r)=1+aE.size l+aE.size r:=rfl;have sl:=vQ f n l;have sr:=vQ f n r;have Y:=aC (fun w' k'=>IX b y f n w' (D.n.off (G:=[]) k' UJ));have X:=aC (fun w2 (U:U9 w.heap.size w w2)=>D.same (aF.aD U))
  by_cases a:aE.side f n y<0
  ·have V:aE.drop f n (.node y l r)=aE.fQ y (aE.drop f n l) r:=by rw[aE.drop,U1 a]
   rw[V];have DR:=aC (fun w2 (U:U9 w.heap.size w w2)=>T.y pl Fl w2 (D.l.later U) UI);have N:b ∉ Fl:=D.parts.1;have K:aE.ht (aE.drop f n l)<=30000:=by have:=aE.lW (aE.drop f n l);omega
   have J:aE.ht r<=30000:=by have:=aE.lW r;omega
   clear D h T R hs sl sr V
   go_in
   go_wp2_with fail
   refine (Y.y _ (aF.refl _ _)).mono ?_;rintro e w2 ⟨rfl,I⟩;have z:=X.y w2 I;have Q:=z.c6;have O:=aC I;have m:=aC z;clear I z X Y
   go_wp2_with fail
   refine (DR.y _ O.y).mono ?_;rintro e w3 ⟨u3,F3,rfl,C,x,g⟩;obtain⟨W,Z,P⟩:=m.y.ry C (fun k c=>.inl (x k c)) g;have d6:=g.cell (o:=6) N Q;have f6:=(g.frozen (o:=6) N m.y.n.lt).trans (m.y.n.fz 6);have M:=aC (zA W (zA x P));clear W Z P C x g Q DR m
   go_wp2_with fail
   refine (sR _ b y (aE.drop f n l) r _ _ _ _ M.y.1 K J).mono ?_;rintro e w4 ⟨u4,F4,rfl,C,x,g⟩
   have HK:Hid (kT w (b :: (Fl++Fr)) (aE.fQ y (aE.drop f n l) r) (.returned (.pointer u4)) w4):=by
    obtain⟨W,Z,P⟩:=M.y
    have s:∀ k∈b :: (F3++Fr),k∈b :: (Fl++Fr):=by
     intro k c;simp only[Vq,Vr] at c ⊢
     grind
    exact⟨u4,F4,rfl,C,fun k c=>s k (x k c),((aF.aD O.y).trans P).trans' g (fun k c=>.inl (s k c))⟩
   clear C x g M O d6 f6
   go_wp2
   go_ret;exact HK.y
  ·by_cases a2:0<aE.side f n y
   ·have V:aE.drop f n (.node y l r)=aE.fQ y l (aE.drop f n r):=by rw[aE.drop,U0 a,U1 a2]
    rw[V];have DR:=aC (fun w2 (U:U9 w.heap.size w w2)=>R.y pr Fr w2 (D.r.later U) UI);have N:b ∉ Fr:=D.parts.2.1;have K:aE.ht (aE.drop f n r)<=30000:=by have:=aE.lW (aE.drop f n r);omega
    have J:aE.ht l<=30000:=by have:=aE.lW l;omega
    clear D h T R hs sl sr V
    go_in
    go_wp2_with fail
    refine (Y.y _ (aF.refl _ _)).mono ?_;rintro e w2 ⟨rfl,I⟩;have z:=X.y w2 I;have Q:=z.c7;have O:=aC I;have m:=aC z;clear I z X Y
    go_wp2_with fail
    refine (DR.y _ O.y).mono ?_;rintro e w3 ⟨u3,F3,rfl,C,x,g⟩;obtain⟨W,Z,P⟩:=m.y.uj C (fun k c=>.inl (x k c)) g;have d6:=g.cell (o:=7) N Q;have f6:=(g.frozen (o:=7) N m.y.n.lt).trans (m.y.n.fz 7);have M:=aC (zA W (zA x P));clear W Z P C x g Q DR m
    go_wp2_with fail
    refine (sR _ b y l (aE.drop f n r) _ _ _ _ M.y.1 J K).mono ?_;rintro e w4 ⟨u4,F4,rfl,C,x,g⟩
    have HK:Hid (kT w (b :: (Fl++Fr)) (aE.fQ y l (aE.drop f n r)) (.returned (.pointer u4)) w4):=by
     obtain⟨W,Z,P⟩:=M.y
     have s:∀ k∈b :: (Fl++F3),k∈b :: (Fl++Fr):=by
      intro k c;simp only[Vq,Vr] at c ⊢
      grind
     exact⟨u4,F4,rfl,C,fun k c=>s k (x k c),((aF.aD O.y).trans P).trans' g (fun k c=>.inl (s k c))⟩
    clear C x g M O d6 f6
    go_wp2
    go_ret;exact HK.y
   ·have V:aE.drop f n (.node y l r)=aE.kP l r:=by rw[aE.drop,U0 a,U0 a2]
    rw[V];have JN:=aC (fun w2 (U:U9 w.heap.size w w2)=>Ry l r pl pr Fl Fr w2 (D.l.later U) (D.r.later U) D.parts.2.2.2.2.2.1 UI UI)
    have NB:Hid (b ∉ Fl++Fr):=by
     have h1:=D.parts.1;have h2:=D.parts.2.1;show b ∉ Fl++Fr;simp only[Vr,not_or];exact⟨h1,h2⟩
    clear D h T R hs sl sr V
    go_in
    go_wp2_with fail
    refine (Y.y _ (aF.refl _ _)).mono ?_;rintro e w2 ⟨rfl,I⟩;have Q:=(X.y w2 I).c6;have c7:=(X.y w2 I).c7;have O:=aC I;clear I Y X
    go_upto_region 4 with fail
    go_region_held3 (fun w'=>w'.cell? ⟨b,6,U3⟩=U4 (.pointer pl)/\w'.cell? ⟨b,7,U3⟩=U4 (.pointer pr))
     (first
      |exact⟨Q,c7⟩
      |exact⟨k9,k8⟩)
     (first
      |(go_at_call 297;refine (JN.y _ (aZ O.y (dM _) (zq _))).mono ?_;rintro e w3 ⟨u3,F3,rfl,C,x,g⟩;have k9:=g.cell (o:=6) NB.y Q;have k8:=g.cell (o:=7) NB.y c7))
    have HK:Hid (kT w (b :: (Fl++Fr)) (aE.kP l r) (.returned (.pointer u3)) w3) :=
     ⟨u3,F3,rfl,C,fun k c=>by have:=x k c;simp only[Vq];exact .inr this,(aF.aD (F:=b :: (Fl++Fr)) O.y).trans ((aF.refl (b :: (Fl++Fr)) w2).drew.trans (g.mono (fun k c=>by simp only[Vq];exact .inr c)))⟩
    clear C x g k8 k9 O JN Q c7
    go_wp2
    go_ret;exact HK.y
def pP(w:U7)(tb o:UY)(F:UV UY)(h:aE.S)(w':U7):Prop :=
 ∃ (g:UW Vb) (F':UV UY),w'.cell? ⟨tb,o,U3⟩=U4 (.pointer g)/\cR w' h (.pointer g) F'/\(∀ k∈F',k∈F\/w.heap.size<=k)/\aF (tb :: F) w w'/\(∀ c,c≠o->w'.cell? ⟨tb,c,U3⟩=w.cell? ⟨tb,c,U3⟩)/\∀ c,w'.frozen? ⟨tb,c,U3⟩=w.frozen? ⟨tb,c,U3⟩
theorem GW{w5:U7}{F5:UV UY}{t:aE.S}{u5:UW Vb}(s:U9 w.heap.size w w4)(l:tb<w.heap.size)(N:tb ∉ F)(r:∀ k∈G,k∈F\/w.heap.size<=k)(M:cR w5 t (.pointer u5) F5)(z:∀ k∈F5,k∈G\/w4.heap.size<=k)(y:aF G w4 w5)(D:w5.cell? ⟨tb,o,U3⟩=U4 v):pP w tb o F t (w5.setCell ⟨tb,o,U3⟩ (.pointer u5)):=by
 have P:=s.size;have J:aF [] w w4:=aF.aD s;have c:tb ∉ G:=fun e=>by rcases r tb e with h|h;exact N h;omega
 have m:tb ∉ F5:=fun e=>by rcases z tb e with h|h;exact c h;omega
 have C:w5.heap[tb]?=w.heap[tb]?:=(y.block tb UI c).trans (J.block tb l UJ);refine⟨u5,F5,World.cell?_setCell_same _ _ _ D,M.off (aF.aX ..) (fun x g=>by simp;rintro rfl;exact m g),fun k O=>?_,?_,fun K Q=>?_,fun K=>?_⟩
 ·rcases z k O with h|h
  ·exact r k h
  ·exact .inr UI
 ·have I:aF (tb :: F) w w5:=(aF.aD (F:=tb :: F) s).trans' y (fun x g=>by rcases r x g with h|h;exact .inl (by simp[h]);exact .inr h);exact I.setCell (.inl UJ) _ _
 ·exact (zS _ _ _ _ UJ).trans (zo (w:=w) C)
 ·refine (zF ..).trans ?_;simp only[World.frozen?,C]
theorem QZ(w:U7)(f t n:UZ)(v:UY):cE (w.alloc (.cells #[.int .i64 f,.int .i64 t,.int .i64 n,.pointer (U4 ⟨v,0,U3⟩),.int .i64 0,.int .i64 0,.pointer U3,.pointer U3] 304)) w.heap.size ⟨f,t,n,v⟩ .nil .nil U3 U3 [] [] :=
 ⟨⟨by simp,by simp,by simp,by simp,⟨0,by simp⟩,⟨0,by simp⟩,⟨U3,by simp⟩,⟨U3,by simp⟩,fun o=>World.frozen?_alloc_new w _ _ o⟩,by simp,by simp,⟨rfl,rfl⟩,⟨rfl,rfl⟩,by simp⟩
theorem OG(t:aE.S)(tb o:UY)(u:UW Vb)(F:UV UY)(x:aE.It)(w:U7)(c:w.cell? ⟨tb,o,U3⟩=U4 (.pointer u))(R:w.frozen? ⟨tb,o,U3⟩=U5)(N:tb ∉ F)(h:cR w t (.pointer u) F)(Q:aE.size t<=10000)(l:∀ z∈aE.bS t,¬ (z.f=x.f/\z.n=x.n)):
  Va prog 159 #[.pointer (U4 ⟨tb,o,U3⟩),.int .i64 x.f,.int .i64 x.t,.int .i64 x.n,.pointer (U4 ⟨x.v,0,U3⟩)] w fun e w'=>e=.returned (.tuple #[])/\pP w tb o F (aE.put x t) w':=by
 have m:=Vh _ _ c;have g:=h.lt;have s:U9 w.heap.size w (w.alloc (.cells #[.int .i64 x.f,.int .i64 x.t,.int .i64 x.n,.pointer (U4 ⟨x.v,0,U3⟩),.int .i64 0,.int .i64 0,.pointer U3,.pointer U3] 304)):=(zr _ _).alloc (zq _) _;have O:=aC (OZ x t u F w.heap.size _ (h.later s) (QZ w x.f x.t x.n x.v) (fun e=>by have:=g _ e;omega) Q l);have P:=aC s;have J:=aN s c;have I:(w.alloc (.cells #[.int .i64 x.f,.int .i64 x.t,.int .i64 x.n,.pointer (U4 ⟨x.v,0,U3⟩),.int .i64 0,.int .i64 0,.pointer U3,.pointer U3] 304)).frozen? ⟨tb,o,U3⟩=U5:=((aF.aD (F:=[]) s).frozen UJ m).trans R;have r:tb ∉ w.heap.size :: F:=by simp only[Vq,not_or];exact⟨by simp at m;omega,N⟩
 have C:=aC (zA J I);have V:Hid (∀ k∈F,k<w.heap.size):=g;clear h s g J I l
 go_in
 go_wp2_with fail
 refine O.y.mono ?_;rintro e w3 ⟨u3,W,rfl,M,K,y⟩;have d:=y.cell r C.y.1;have U:=(y.frozen (o:=o) r (Vh _ _ C.y.1)).trans C.y.2;have T:=aC (GW P.y m N (fun k D=>by rcases Vq.1 D with rfl|D;exact .inr (zq _);exact .inl D) M K y d);clear M K y C P O
 go_wp2
 go_end0
 exact⟨rfl,T.y⟩
theorem Pq(t:aE.S)(tb o:UY)(u:UW Vb)(F:UV UY)(f n:UZ)(w:U7)(c:w.cell? ⟨tb,o,U3⟩=U4 (.pointer u))(C:w.frozen? ⟨tb,o,U3⟩=U5)(m:tb ∉ F)(h:cR w t (.pointer u) F)(z:aE.size t<=10000):
  Va prog 253 #[.pointer (U4 ⟨tb,o,U3⟩),.int .i64 f,.int .i64 n] w fun e w'=>e=.returned (.tuple #[])/\pP w tb o F (aE.drop f n t) w':=by
 have g:=Vh _ _ c;have y:=aC (Pc f n t u F w h z);clear h
 go_in
 go_wp2_with fail
 refine y.y.mono ?_;rintro e w3 ⟨u3,J,rfl,x,s,l⟩;have d:=l.cell m c;have I:=(l.frozen (o:=o) m g).trans C;have D:=aC (GW (zr _ _) g m (fun k r=>.inl r) x (fun k r=>.inl (s k r)) l d);clear x s l y
 go_wp2
 go_end0
 exact⟨rfl,D.y⟩
def jt(A:UV UX->UZ):aG.T:=aG.canon 20 A 0 1048320
def gA:UV (UZ × UZ)->UV UX->UZ
 |[],_=>0
 |s :: r,p=>aG.gG 0 1048320 s.1 s.2 p+gA r p
def bZ(A:UV UX->UZ)(L:UV (UZ × UZ))(x:UZ)(p:UV UX):UZ:=A p+x*gA L p
theorem Io(L M:UV (UZ × UZ))(p:UV UX):gA (L++M) p=gA L p+gA M p:=by
 induction L with
 |nil=>simp[gA]
 |cons s r ih=>simp only[VD,gA,ih];omega
theorem vj(L:UV (UZ × UZ))(p:UV UX):0<=gA L p/\gA L p<=L.length:=by
 induction L with
 |nil=>simp[gA]
 |cons s r ih =>
  have:=aG.AJ p 0 1048320 s.1 s.2;simp only[gA,VV];omega
theorem Gf(A:UV UX->UZ)(x:UZ):bZ A [] x=A:=by funext p;simp[bZ,gA]
theorem Hm(A:UV UX->UZ)(L:UV (UZ × UZ))(s:UZ × UZ)(x:UZ):bZ A (L++[s]) x=fun p=>bZ A L x p+x*aG.gG 0 1048320 s.1 s.2 p:=by
 funext p;simp only[bZ,Io,gA,Int.add_zero,VX];omega
theorem P7(A:UV UX->UZ)(a b x:UZ)(h:a<b):aG.fU 20 (jt A) 0 1048320 a b x=jt (fun p=>A p+x*aG.gG 0 1048320 a b p) :=
 aG.RT 20 A 0 1048320 a b x UI UK h
theorem Ax{a:UZ}{l r:aG.T}(m:-1000000<=a/\a<=1000000)(k:LB l)(h:LB r)(g:-100000000<=a+max (aG.top l) (aG.top r)/\a+max (aG.top l) (aG.top r)<=100000000)(c:-100000000<=a+min (aG.bot l) (aG.bot r)/\a+min (aG.bot l) (aG.bot r)<=100000000):LB (aG.mk a l r):=by
 unfold aG.mk;split
 ·trivial
 ·exact⟨m,g,c,k,h⟩
theorem A0(a:UZ)(l r:aG.T):aG.top (aG.mk a l r)=a+max (aG.top l) (aG.top r)/\aG.bot (aG.mk a l r)=a+min (aG.bot l) (aG.bot r):=by
 unfold aG.mk;split
 ·rename_i h
  rw[aG.qS h.2.1,aG.qS h.2.2,h.1];simp[aG.top,aG.bot]
 ·exact⟨rfl,rfl⟩
theorem Pu:∀ (n:UY)(A:UV UX->UZ)(c g:UZ),(∀ p,0<=A p/\A p<=1000000)->n<=50->LB (aG.canon n A c g)/\(0<=aG.top (aG.canon n A c g)/\aG.top (aG.canon n A c g)<=1000000*(n+1))/\(0<=aG.bot (aG.canon n A c g)/\aG.bot (aG.canon n A c g)<=1000000*(n+1)):=by
 intro n
 induction n with
 |zero =>
  intro A c g h _;have k:=h [];simp only[aG.canon];have e:=A0 (A []) .nil .nil;simp only[aG.top,aG.bot] at e;rw[e.1,e.2];refine⟨Ax UI trivial trivial ?_ ?_,?_,?_⟩ <;> simp[aG.top,aG.bot] <;> omega
 |succ n ih =>
  intro A c g h r;have k:=h [];simp only[aG.canon]
  split
  ·have e:=A0 (A []) .nil .nil;simp only[aG.top,aG.bot] at e;rw[e.1,e.2];refine⟨Ax UI trivial trivial ?_ ?_,?_,?_⟩ <;> simp[aG.top,aG.bot] <;> omega
  ·obtain⟨m,y,x⟩:=ih (fun p=>A (U5 :: p)) c (aG.aS c g) (fun p=>h _) UI;obtain⟨l,t,s⟩:=ih (fun p=>A (U6 :: p)) (aG.aS c g) g (fun p=>h _) UI;have e:=A0 (A []) (aG.canon n (fun p=>A (U5 :: p)) c (aG.aS c g)) (aG.canon n (fun p=>A (U6 :: p)) (aG.aS c g) g);rw[e.1,e.2];exact⟨Ax UI m l UI UI,by omega,by omega⟩
theorem vq(h:∀ p,0<=A p/\A p<=1000000):LB (jt A):=(Pu 20 A 0 1048320 h UI).1
theorem xW(h:∀ p,0<=A p):aG.Good (jt A) 0 1048320:=aG.Sa 20 A 0 1048320 h
def oy(A:UV UX->UZ)(x:UZ):UZ:=aG.dJ (jt A) 0 1048320 x
theorem IG(A:UV UX->UZ)(L:UV (UZ × UZ))(u x:UZ)(y:0<=x)(t:x<1048320)(m:∀ s∈L,s.1<s.2):oy (bZ A L u) x=oy A x+u*((L.filter fun s=>decide (s.1<=x) && decide (x<s.2)).length:UZ):=by
 have h:∀ (n:UY) (M:UV (UZ × UZ)),M.length=n->(∀ s∈M,s.1<s.2)->oy (bZ A M u) x=oy A x+u*((M.filter fun s=>decide (s.1<=x) && decide (x<s.2)).length:UZ):=by
  intro n
  induction n with
  |zero =>
   intro M g _;rw[VY.1 g,Gf];simp
  |succ n ih =>
   intro M g k;obtain⟨K,s,rfl⟩:∃ K s,M=K++[s]:=⟨M.dropLast,M.getLast (by intro e;simp[e] at g),(List.dropLast_concat_getLast _).symm⟩;have r:K.length=n:=by simpa using g
   rw[Hm];have e:=aG.Ue 20 (bZ A K u) 0 1048320 s.1 s.2 u x y t UK (k s UJ);have C:oy (fun p=>bZ A K u p+u*aG.gG 0 1048320 s.1 s.2 p) x=oy (bZ A K u) x+if s.1<=x/\x<s.2 then u else 0:=e
   rw[C,ih K r (fun z l=>k z (by simp[l])),VF]
   by_cases c:s.1<=x/\x<s.2
   ·rw[U1 c];have:([s].filter fun s=>decide (s.1<=x) && decide (x<s.2))=[s]:=by simp[c.1,c.2]
    rw[this];simp only[VU,VV,VZ];rw[show ((((K.filter fun s=>decide (s.1<=x) && decide (x<s.2)).length+(0+1):UY)):UZ)=((K.filter fun s=>decide (s.1<=x) && decide (x<s.2)).length:UZ)+1 from by omega,VX];omega
   ·rw[U0 c];have:([s].filter fun s=>decide (s.1<=x) && decide (x<s.2))=[]:=by simp;omega
    rw[this];simp
 exact h L.length L rfl m
structure TH(w:U7)(tb:UY)(name:UU)(aH:UZ)(A:UV UX->UZ)(T:aE.S)(ul us:UW Vb)(Fl Fs:UV UY):Prop where
 c0:w.cell? ⟨tb,0,U3⟩=U4 (.string name)
 c1:w.cell? ⟨tb,1,U3⟩=U4 (.int .i64 aH)
 c2:w.cell? ⟨tb,2,U3⟩=U4 (.pointer ul)
 c3:w.cell? ⟨tb,3,U3⟩=U4 (.pointer us)
 fz:∀ o,w.frozen? ⟨tb,o,U3⟩=U5
 lv:cT w (jt A) (.pointer ul) Fl
 sp:cR w T (.pointer us) Fs
 nl:tb ∉ Fl
 ns:tb ∉ Fs
 dj:∀ k∈Fl,k ∉ Fs
theorem TH.lt{aH:UZ}{T:aE.S}(h:TH w tb name aH A T ul us Fl Fs):∀ k∈tb :: (Fl++Fs),k<w.heap.size:=by
 intro k c;rcases Vq.1 c with rfl|c
 ·exact Vh _ _ h.c0
 ·rcases Vr.1 c with c|c
  ·exact h.lv.lt k c
  ·exact h.sp.lt k c
theorem TH.off{aH:UZ}{T:aE.S}(h:TH w tb name aH A T ul us Fl Fs)(k:aF G w w')(l:∀ x∈tb :: (Fl++Fs),x ∉ G):TH w' tb name aH A T ul us Fl Fs:=by
 have c:=l tb UJ;exact⟨k.cell c h.c0,k.cell c h.c1,k.cell c h.c2,k.cell c h.c3,fun o=>(k.frozen c (h.lt tb UJ)).trans (h.fz o),h.lv.off k (fun x g=>l x (by simp[g])),h.sp.off k (fun x g=>l x (by simp[g])),h.nl,h.ns,h.dj⟩
theorem TH.same{aH:UZ}{T:aE.S}(h:TH w tb name aH A T ul us Fl Fs)(k:aF [] w w'):TH w' tb name aH A T ul us Fl Fs:=h.off k UJ
theorem TH.added{aH:UZ}{T:aE.S}(h:TH w tb name aH A T ul us Fl Fs)(k:sB w tb 2 Fl (jt A') w'):∃ r l,TH w' tb name aH A' T r us l Fs/\(∀ k∈l,k∈Fl\/w.heap.size<=k)/\aF (tb :: Fl) w w':=by
 obtain⟨C,F',J,I,t,y,s,D⟩:=k;have c:=h.lt;refine⟨C,F',⟨(s 0 UI).trans h.c0,(s 1 UI).trans h.c1,J,(s 3 UI).trans h.c3,fun o=>(D o).trans (h.fz o),I,h.sp.off y (fun x m=>?_),fun e=>?_,h.ns,fun x m z=>?_⟩,t,y⟩
 ·simp only[Vq,not_or];exact⟨fun e=>h.ns (e ▸ m),fun e=>h.dj x e m⟩
 ·rcases t tb e with g|g
  ·exact h.nl g
  ·have:=c tb UJ;omega
 ·rcases t x m with g|g
  ·exact h.dj x g z
  ·have:=c x (by simp[z]);omega
theorem TH.lG{aH:UZ}{T z:aE.S}(h:TH w tb name aH A T ul us Fl Fs)(k:pP w tb 3 Fs z w'):∃ r m,TH w' tb name aH A z ul r Fl m/\(∀ k∈m,k∈Fs\/w.heap.size<=k)/\aF (tb :: Fs) w w':=by
 obtain⟨C,F',J,I,t,y,s,D⟩:=k;have g:=h.lt;refine⟨C,F',⟨(s 0 UI).trans h.c0,(s 1 UI).trans h.c1,(s 2 UI).trans h.c2,J,fun o=>(D o).trans (h.fz o),h.lv.off y (fun x c=>?_),I,h.nl,fun e=>?_,fun x c K=>?_⟩,t,y⟩
 ·simp only[Vq,not_or];exact⟨fun e=>h.nl (e ▸ c),fun e=>h.dj x c e⟩
 ·rcases t tb e with l|l
  ·exact h.ns l
  ·have:=g tb UJ;omega
 ·rcases t x K with l|l
  ·exact h.dj x c l
  ·have:=g x (by simp[c]);omega
def SL(w:U7)(B:UY)(L:UV (UZ × UZ)):Prop:=∀ (i:UY)(h:i<L.length),w.cell? ⟨B,i*2,U3⟩=U4 (.int .i64 L[i].1)/\w.cell? ⟨B,i*2+1,U3⟩=U4 (.int .i64 L[i].2)
theorem SL.off(h:SL w B L)(k:aF G w w')(g:B ∉ G):SL w' B L:=fun i c=>⟨k.cell g (h i c).1,k.cell g (h i c).2⟩
def ot(L:UV (UZ × UZ)):Prop:=∀ s∈L,0<=s.1/\s.1<s.2/\s.2<=1048320
theorem OH{x:UZ}(h:∀ p,0<=A p/\A p<=500000)(s:∀ p,0<=bZ A L x p)(r:-9<=x)(c:x<=9)(y:L.length<=100)(k:UY):∀ p,0<=bZ A (L.take k) x p/\bZ A (L.take k) x p<=1000000:=by
 intro p;have C:=h p;have m:=s p;have e:gA L p=gA (L.take k) p+gA (L.drop k) p:=by rw[<- Io,V1]
 have g:=vj (L.take k) p;have t:=vj (L.drop k) p;have z:((L.take k).length:UZ)<=100:=by have:=List.length_take_le' k L;omega
 unfold bZ at m ⊢;rw[e,VX] at m;constructor
 ·by_cases l:0<=x
  ·have:=V2 l g.1;omega
  ·have:x*gA (L.drop k) p<=0:=V3 UI t.1;omega
 ·by_cases l:0<=x
  ·have:x*gA (L.take k) p<=9*100:=V4 c UI g.1 UI;omega
  ·have:x*gA (L.take k) p<=0:=V3 UI g.1;omega
structure tC(w wx:U7)(tb B:UY)(name:UU)(aH:UZ)(A:UV UX->UZ)(T:aE.S)(us:UW Vb)(Fl Fs:UV UY)(L:UV (UZ × UZ)):Prop where
 th:∃ (ul:UW Vb) (Fl':UV UY),TH wx tb name aH A T ul us Fl' Fs/\∀ k∈Fl',k∈Fl\/w.heap.size<=k
 off:aF (tb :: Fl) w wx
 sl:SL wx B L
 ok:ot L
 nb:B ∉ tb :: Fl
 lt:B<w.heap.size
theorem sB.off{c:aG.T}(h:sB w tb o F c w'):aF (tb :: F) w w':=by
 obtain⟨_,_,_,_,_,h,_⟩:=h;exact h
theorem tC.step{wr X:U7}{aH:UZ}{T:aE.S}{Fl':UV UY}(h:tC w wr tb B name aH A T us Fl Fs L)(l:aF [] wr X)(z:TH X tb name aH A T ul us Fl' Fs)(m:∀ k∈Fl',k∈Fl\/w.heap.size<=k)(y:sB X tb 2 Fl' (jt A') w4):tC w w4 tb B name aH A' T us Fl Fs L:=by
 obtain⟨g,r,x,t,s⟩:=z.added y;have I:=h.off.size;have D:=l.size
 have C:B ∉ tb :: Fl':=by
  intro e;rcases Vq.1 e with e|e
  ·exact h.nb (by simp[e])
  ·rcases m B e with e|e
   ·exact h.nb (by simp[e])
   ·have:=h.lt;omega
 refine⟨⟨g,r,x,fun k c=>?_⟩,(h.off.trans' l UJ).trans' s (fun k c=>?_),(h.sl.off l UJ).off s C,h.ok,h.nb,h.lt⟩
 ·rcases t k c with e|e
  ·exact m k e
  ·exact .inr UI
 ·rcases Vq.1 c with rfl|c
  ·exact .inl UJ
  ·rcases m k c with e|e
   ·exact .inl (by simp[e])
   ·exact .inr e
theorem Q9(tb:UY)(name:UU)(aH:UZ)(A:UV UX->UZ)(T:aE.S)(us:UW Vb)(Fs:UV UY)(L:UV (UZ × UZ))(x:UZ)(k:UY)(s:k<L.length)(g:∀ (k:UY)(p:UV UX),0<=bZ A (L.take k) x p/\bZ A (L.take k) x p<=1000000)(c:0<=L[k].1/\L[k].1<L[k].2/\L[k].2<=1048320)(r:-9<=x)(m:x<=9)(ul:UW Vb)(Fl:UV UY):
  ∀ W,TH W tb name aH (bZ A (L.take k) x) T ul us Fl Fs->Va prog 219 #[.pointer (U4 ⟨tb,2,U3⟩),.agg #[.int .i64 L[k].1,.int .i64 L[k].2],.int .i64 x] W fun e w'=>e=.returned (.tuple #[])/\sB W tb 2 Fl (jt (bZ A (L.take (k+1)) x)) w':=by
 intro W h
 have e:bZ A (L.take (k+1)) x=fun p=>bZ A (L.take k) x p+x*aG.gG 0 1048320 L[k].1 L[k].2 p:=by
  rw[V5 s,Hm]
 have l:aG.fU 20 (jt (bZ A (L.take k) x)) 0 1048320 L[k].1 L[k].2 x=jt (bZ A (L.take (k+1)) x):=by rw[e];exact P7 _ _ _ _ c.2.1
 rw[<- l];exact OE _ tb 2 ul Fl _ _ x W h.c2 (h.fz 2) h.nl h.lv c.2.1 UI UI (vq (g k)) (by rw[l];exact vq (g (k+1)))
theorem PP(w:U7)(tb B cap:UY)(name:UU)(aH:UZ)(A:UV UX->UZ)(T:aE.S)(ul us:UW Vb)(Fl Fs:UV UY)(L:UV (UZ × UZ))(x:UZ)(h:TH w tb name aH A T ul us Fl Fs)(U:SL w B L)(C:ot L)(W:B ∉ tb :: Fl)(hB:B<w.heap.size)(g:∀ p,0<=A p/\A p<=500000)(I:∀ p,0<=bZ A L x p)(z:-9<=x)(y:x<=9)(hL:L.length<=100):
  Va prog 157 #[.pointer (U4 ⟨tb,0,U3⟩),.slice (U4 ⟨B,0,U3⟩) L.length cap,.int .i64 x] w fun e w'=>e=.returned (.tuple #[])/\(∃ O Fl',TH w' tb name aH (bZ A L x) T O us Fl' Fs/\∀ k∈Fl',k∈Fl\/w.heap.size<=k)/\aF (tb :: Fl) w w':=by
 have P:=aC (OH g I z y hL);have h0:tC w w tb B name aH (bZ A (L.take 0) x) T us Fl Fs L:=⟨⟨ul,Fl,by rw[List.take_zero,Gf];exact h,fun k V=>.inl V⟩,aF.refl _ _,U,C,W,hB⟩;have H0:=aC h0;clear h U C W g I h0 ul
 go_in
 go_wp2_with fail
 go_loopw [7,10] (fun _ i wx=>∃ k:UY,k<=L.length/\i=.int .i64 k/\tC w wx tb B name aH (bZ A (L.take k) x) T us Fl Fs L) (fun _ i _=>L.length-(intOf i).toNat)
 case atStart=>exact⟨0,V6 _,rfl,H0.y⟩
 case round =>
  obtain⟨k,V,rfl,g⟩:=hrel
  by_cases m:k<L.length
  ·have c:=g.sl k m;have r:=aC g;obtain⟨c1,c2⟩:=c;clear g;have hi:(k:UZ)<(L.length:UZ):=UI
   obtain⟨ul,Fl',Z,l⟩:=r.y.th;have CA:=aC (Q9 tb name aH A T us Fs L x k m P.y (r.y.ok L[k] (zg m)) z y ul Fl');have M:=aC Z;have HS:=aC l;clear Z l
   go_upto_region 3 with fail
   have Y:aF [] wr (wr.alloc (.cells #[.int .i64 L[k].1,.int .i64 L[k].2] 60)):=(aF.refl _ _).alloc _;have t:(wr.alloc (.cells #[.int .i64 L[k].1,.int .i64 L[k].2] 60)).cell? ⟨wr.heap.size,0,U3⟩=U4 (.int .i64 L[k].1):=UJ
   have s:(wr.alloc (.cells #[.int .i64 L[k].1,.int .i64 L[k].2] 60)).cell? ⟨wr.heap.size,1,U3⟩=U4 (.int .i64 L[k].2):=UJ
   have J:=aC Y;have D:wr.heap.size ∉ tb :: Fl':=fun e=>by have:=M.y.lt wr.heap.size (by simp only[Vq,Vr] at e ⊢;grind);omega
   have N:=aC D;clear Y D c1 c2;generalize (Vz wr (.cells #[.int .i64 L[k].1,.int .i64 L[k].2] 60))=X at t s J ⊢;generalize wr.heap.size=bx at t s N ⊢
   go_region_held3 (fun w'=>w'.cell? ⟨bx,0,U3⟩=U4 (.int .i64 L[k].1)/\w'.cell? ⟨bx,1,U3⟩=U4 (.int .i64 L[k].2))
    (first
     |exact⟨t,s⟩
     |exact⟨R,Q⟩)
    (first
     |(go_at_call 219;refine (CA.y _ (M.y.same (J.y.drew))).mono ?_;rintro e w4 ⟨rfl,K⟩;have R:=K.off.cell (o:=0) N.y t;have Q:=K.off.cell (o:=1) N.y s))
   have HK:Hid (tC w w4 tb B name aH (bZ A (L.take (k+1)) x) T us Fl Fs L):=r.y.step (J.y.drew) (M.y.same J.y.drew) HS.y K;clear r M HS CA J N R Q t s K
   go_wp2
   go_roundw
   case rel=>exact⟨k+1,by omega,by go_num,HK.y⟩
   case measure=>simp[intOf];omega
  ·have e:L.take k=L:=V7 UI;rw[e] at g;have r:=aC g;clear g;have hi:¬ (k:UZ)<(L.length:UZ):=UI
   go_wp2
   go_end0
   exact⟨rfl,r.y.th,r.y.off⟩
def sk(A:UV UX->UZ)(s:UZ × UZ):UZ:=aG.fF (jt A) 0 1048320 s.1 s.2
def ky(A:UV UX->UZ)(aH:UZ)(L:UV (UZ × UZ)):UX:=L.all fun s=>decide (sk A s<=aH)
theorem Bw{s:UZ × UZ}(l:∀ p,0<=A p)(z:0<=s.1)(m:s.1<s.2)(y:s.2<=1048320):(∀ x,s.1<=x->x<s.2->oy A x<=sk A s)/\∃ x,s.1<=x/\x<s.2/\oy A x=sk A s:=by
 obtain⟨_,k,x,t,r,h,g,c⟩:=aG.GJ (jt A) 0 1048320 s.1 s.2 UI m (xW l) (aG.lZ.2 UI);exact⟨fun x a b=>k x UI UI a b,x,h,g,c⟩
theorem G6(w:U7)(tb B cap:UY)(name:UU)(aH:UZ)(A:UV UX->UZ)(T:aE.S)(ul us:UW Vb)(Fl Fs:UV UY)(L:UV (UZ × UZ))(h:TH w tb name aH A T ul us Fl Fs)(M:SL w B L)(g:ot L)(I:∀ p,0<=A p/\A p<=1000000)(hL:L.length<=100):
  Va prog 158 #[.pointer (U4 ⟨tb,0,U3⟩),.slice (U4 ⟨B,0,U3⟩) L.length cap] w fun e w'=>e=.returned (.bool (ky A aH L))/\U9 w.heap.size w w':=by
 have Z:=aC (fun (W:U7) (k:U9 w.heap.size w W) (s:UZ × UZ) (h1:s.1<s.2)=>Gd (jt A) tb 2 ul Fl s.1 s.2 W (aN k h.c2) (h.lv.later k) (vq I) (xW (fun p=>(I p).1)) h1);have Q:=aC M;have HO:=aC g;have cu:=h.c1;clear h M g I
 go_in
 go_wp2_with fail
 go_loopw [6,9] (fun _ i wx=>∃ k:UY,k<=L.length/\i=.int .i64 k/\ky A aH (L.take k)=U6/\U9 w.heap.size w wx) (fun _ i _=>L.length-(intOf i).toNat)
 case atStart=>exact⟨0,V6 _,rfl,by simp[ky],Below.refl _ _⟩
 case round =>
  obtain⟨k,hk,rfl,N,r⟩:=hrel;have J:=aC N;clear N
  by_cases l:k<L.length
  ·have c1:=aN r (Q.y k l).1;have c2:=aN r (Q.y k l).2;have t:=aN r cu;have hi:(k:UZ)<(L.length:UZ):=UI
   have U:=aC r;clear r
   have O:ky A aH (L.take (k+1))=(ky A aH (L.take k) && decide (sk A L[k]<=aH)):=by
    unfold ky;rw[V5 l,V8];simp
   have V:=aC O;have g:=HO.y L[k] (zg l);clear O
   go_upto_region 4 with fail
   have D:U9 wr.heap.size wr (wr.alloc (.cells #[.int .i64 L[k].1,.int .i64 L[k].2] 60)):=(zr _ _).alloc (zq _) _;have y:(wr.alloc (.cells #[.int .i64 L[k].1,.int .i64 L[k].2] 60)).cell? ⟨wr.heap.size,0,U3⟩=U4 (.int .i64 L[k].1):=UJ
   have x:(wr.alloc (.cells #[.int .i64 L[k].1,.int .i64 L[k].2] 60)).cell? ⟨wr.heap.size,1,U3⟩=U4 (.int .i64 L[k].2):=UJ
   have C:=aN D t;have z:=aC (aZ U.y D (zq _));clear D c1 c2 t;generalize (Vz wr (.cells #[.int .i64 L[k].1,.int .i64 L[k].2] 60))=X at y x C z ⊢;generalize wr.heap.size=bx at y x ⊢;have K:=aC (fun W k'=>Z.y W k' L[k] g.2.1);generalize P:aG.fF (jt A) 0 1048320 L[k].1 L[k].2=m at K;have Y:Hid (sk A L[k]=m):=P;clear P
   by_cases hc:m<=aH
   all_goals
    go_region_held3 (fun w'=>w'.cell? ⟨bx,0,U3⟩=U4 (.int .i64 L[k].1)/\w'.cell? ⟨bx,1,U3⟩=U4 (.int .i64 L[k].2)/\w'.cell? ⟨tb,1,U3⟩=U4 (.int .i64 aH)/\U9 X.heap.size X w')
     (first
      |exact⟨y,x,C,dM _⟩
      |(go_split_ands;exact⟨aN c UL,aN c UL,aN c UL,aZ UL c (zq _)⟩))
     (first
      |(go_at_call 153;go_split_ands;refine (K.y _ (aZ z.y UL (zq _))).mono ?_;rintro e w4 ⟨rfl,c⟩))
    have R:=aC (aZ z.y (by go_split_ands;assumption:U9 X.heap.size X w4) (zq _));clear Z K z U y x C c
    go_wp2
   ·go_roundw
    case rel=>exact⟨k+1,by omega,by go_num,by rw[V.y,J.y,Y.y];simpa using hc,R.y⟩
    case measure=>simp[intOf];omega
   ·go_ret;refine⟨nY ?_,R.y⟩;have:ky A aH L=(ky A aH (L.take (k+1)) && ky A aH (L.drop (k+1))):=by unfold ky;rw[<- V8,V1]
    rw[this,V.y,J.y,Y.y];have hd:decide (m<=aH)=U5:=decide_eq_false UI;rw[hd];rfl
  ·have e:L.take k=L:=V7 UI;have hi:¬ (k:UZ)<(L.length:UZ):=UI
   go_wp2
   go_ret;exact⟨nY (by rw[<- e];exact J.y.symm),r⟩
structure gQ(w:U7)(eb:UY)(id:UZ)(tb:UY)(aH:UZ)(B cap:UY)(L:UV (UZ × UZ)):Prop where
 c0:w.cell? ⟨eb,0,U3⟩=U4 (.int .i64 id)
 c1:w.cell? ⟨eb,2,U3⟩=U4 (.pointer (U4 ⟨tb,0,U3⟩))
 c2:w.cell? ⟨eb,3,U3⟩=U4 (.int .i64 aH)
 c3:w.cell? ⟨eb,4,U3⟩=U4 (.slice (U4 ⟨B,0,U3⟩) L.length cap)
 sl:SL w B L
 lt:B<w.heap.size
theorem gQ.off{aH:UZ}(h:gQ w eb id tb aH B cap L)(k:aF G w w')(c:eb ∉ G)(g:B ∉ G):gQ w' eb id tb aH B cap L :=
 ⟨k.cell c h.c0,k.cell c h.c1,k.cell c h.c2,k.cell c h.c3,h.sl.off k g,Nat.lt_of_lt_of_le h.lt k.size⟩
structure fH(w wx:U7)(tb:UY)(name:UU)(aH:UZ)(A:UV UX->UZ)(T:aE.S)(F:UV UY):Prop where
 th:∃ (ul us:UW Vb) (Fl Fs:UV UY),TH wx tb name aH A T ul us Fl Fs/\∀ k∈Fl++Fs,k∈F\/w.heap.size<=k
 off:aF (tb :: F) w wx
theorem fH.later{aH:UZ}{T:aE.S}(h:fH w wx tb name aH A T F)(k:aF [] wx wy):fH w wy tb name aH A T F:=by
 obtain⟨ul,us,Fl,Fs,g,c⟩:=h.th;exact⟨⟨ul,us,Fl,Fs,g.same k,c⟩,h.off.trans' k UJ⟩
theorem fH.sn{aH:UZ}{T:aE.S}(h:fH w wx tb name aH A T F)(m:∀ k∈Fl++Fs,k∈F\/w.heap.size<=k)(k:∃ l g,TH wy tb name aH A' T l us g Fs/\∀ k∈g,k∈Fl\/wx.heap.size<=k)(t:aF (tb :: Fl) wx wy):fH w wy tb name aH A' T F:=by
 obtain⟨l,g,s,r⟩:=k;have z:=h.off.size;refine⟨⟨l,us,g,Fs,s,fun k c=>?_⟩,h.off.trans' t (fun k c=>?_)⟩
 ·rcases Vr.1 c with c|c
  ·rcases r k c with e|e
   ·exact m k (by simp[e])
   ·exact .inr UI
  ·exact m k (by simp[c])
 ·rcases Vq.1 c with rfl|c
  ·exact .inl UJ
  ·rcases m k (by simp[c]) with e|e
   ·exact .inl (by simp[e])
   ·exact .inr e
theorem fH.lG{aH:UZ}{T r:aE.S}(h:fH w wx tb name aH A T F)(y:TH wx tb name aH A T ul us Fl Fs)(l:∀ k∈Fl++Fs,k∈F\/w.heap.size<=k)(k:pP wx tb 3 Fs r wy):fH w wy tb name aH A r F:=by
 obtain⟨g,m,x,t,s⟩:=y.lG k;have z:=h.off.size;refine⟨⟨ul,g,Fl,m,x,fun k c=>?_⟩,h.off.trans' s (fun k c=>?_)⟩
 ·rcases Vr.1 c with c|c
  ·exact l k (by simp[c])
  ·rcases t k c with e|e
   ·exact l k (by simp[e])
   ·exact .inr UI
 ·rcases Vq.1 c with rfl|c
  ·exact .inl UJ
  ·rcases l k (by simp[c]) with e|e
   ·exact .inl (by simp[e])
   ·exact .inr e
def jG(id:UZ)(eb:UY)(s:UZ × UZ):aE.It:=⟨s.1,s.2,id,eb⟩
def gn(id:UZ)(eb:UY):aE.S->UV (UZ × UZ)->aE.S
 |T,[]=>T
 |T,s :: r=>gn id eb (aE.put (jG id eb s) T) r
def jx(id:UZ):aE.S->UV (UZ × UZ)->aE.S
 |T,[]=>T
 |T,s :: r=>jx id (aE.drop s.1 id T) r
theorem H9(id:UZ)(eb:UY)(s:UZ × UZ):∀ (L:UV (UZ × UZ))(T:aE.S),gn id eb T (L++[s])=aE.put (jG id eb s) (gn id eb T L)
 |[],T=>rfl
 |t :: L,T=>by simp only[VD,gn];exact H9 id eb s L _
theorem Ix(id:UZ)(s:UZ × UZ):∀ (L:UV (UZ × UZ))(T:aE.S),jx id T (L++[s])=aE.drop s.1 id (jx id T L)
 |[],T=>rfl
 |t :: L,T=>by simp only[VD,jx];exact Ix id s L _
def E0(id:UZ)(eb:UY):UV aE.It->UV (UZ × UZ)->UV aE.It
 |l,[]=>l
 |l,s :: r=>E0 id eb (aE.ins (jG id eb s) l) r
theorem Bc(id:UZ)(eb:UY):∀ (L:UV (UZ × UZ))(T:aE.S),aE.Ord (aE.bS T)->(∀ z∈aE.bS T,z.n=id->∀ s∈L,z.f≠s.1)->(L.map (·.1)).Nodup ->
  aE.Ord (aE.bS (gn id eb T L))/\aE.bS (gn id eb T L)=E0 id eb (aE.bS T) L/\(∀ z,z∈aE.bS (gn id eb T L)↔z∈aE.bS T\/∃ s∈L,z=jG id eb s)/\aE.size (gn id eb T L)=aE.size T+L.length
 |[],T,h,_,_=>⟨h,rfl,fun z=>by simp[gn],by simp[gn]⟩
 |s :: r,T,h,hn,hd=>by
  have l:∀ z∈aE.bS T,¬ (z.f=(jG id eb s).f/\z.n=(jG id eb s).n):=fun z c e=>hn z c e.2 s UJ e.1
  have g:=aE.BM (jG id eb s) T h l;have m:aE.Ord (aE.bS (aE.put (jG id eb s) T)):=by rw[g];exact aE.FZ h l
  simp only[List.map_cons,Vt] at hd
  have k:∀ z∈aE.bS (aE.put (jG id eb s) T),z.n=id->∀ t∈r,z.f≠t.1:=by
   intro z c I t ht;rw[g,aE.xK] at c;rcases c with rfl|c
   ·intro e;exact hd.1 (V9.2 ⟨t,ht,e.symm⟩)
   ·exact hn z c I t (by simp[ht])
  obtain⟨D,C,y,x⟩:=Bc id eb r _ m k hd.2;refine⟨D,by rw[gn,C,g];rfl,fun z=>?_,?_⟩
  ·rw[gn,y,g,aE.xK];constructor
   ·rintro ((h|h)|⟨t,ht,h⟩)
    ·exact .inr ⟨s,by simp,h⟩
    ·exact .inl h
    ·exact .inr ⟨t,by simp[ht],h⟩
   ·rintro (h|⟨t,ht,h⟩)
    ·exact .inl (.inr h)
    ·rcases Vq.1 ht with rfl|ht
     ·exact .inl (.inl h)
     ·exact .inr ⟨t,ht,h⟩
  ·rw[gn,x,<- aE.mJ,<- aE.mJ,g,aE.IF,VV];omega
theorem Bp(id:UZ):∀ (L:UV (UZ × UZ))(T:aE.S),aE.Ord (aE.bS T) ->
  aE.Ord (aE.bS (jx id T L))/\aE.bS (jx id T L)=(aE.bS T).filter (fun z=>L.all fun s=>aE.mX s.1 id z)/\aE.size (jx id T L)<=aE.size T
 |[],T,h=>⟨h,(List.filter_eq_self.2 (fun _ _=>rfl)).symm,Nat.le_refl _⟩
 |s :: r,T,h=>by
  have c:=aE.Ci s.1 id T h;have g:aE.Ord (aE.bS (aE.drop s.1 id T)):=by rw[c];exact aE.IK _ h
  obtain⟨m,l,k⟩:=Bp id r _ g;refine⟨m,?_,Vg k (vQ _ _ _)⟩;rw[jx,l,c,List.filter_filter]
  congr 1
  funext z
  simp only[List.all_cons];exact Bool.and_comm _ _
theorem Hk(A:UV UX->UZ)(L:UV (UZ × UZ))(u:UZ):bZ (bZ A L u) L (-u)=A:=by
 funext p;unfold bZ;rw[Int.neg_mul];omega
structure xe(w:U7)(tb eb B cap:UY)(name:UU)(aH:UZ)(A:UV UX->UZ)(T:aE.S)(F:UV UY)(id u:UZ)(L:UV (UZ × UZ)):Prop where
 th:∃ (ul us:UW Vb) (Fl Fs:UV UY),TH w tb name aH A T ul us Fl Fs/\∀ k∈Fl++Fs,k∈F
 en:gQ w eb id tb u B cap L
 ne:eb ∉ tb :: F
 nb:B ∉ tb :: F
 ok:ot L
 bd:∀ p,0<=A p/\A p<=400000
 u1:1<=u
 u2:u<=9
 ll:L.length<=100
structure NQ(w wx:U7)(tb eb B cap:UY)(name:UU)(aH:UZ)(A:UV UX->UZ)(T:aE.S)(F:UV UY)(id u:UZ)(L:UV (UZ × UZ)):Prop where
 now:fH w wx tb name aH A T F
 en:gQ wx eb id tb u B cap L
theorem fH.pair{aH:UZ}{T:aE.S}{u:UZ}(h:fH w wx tb name aH A T F)(c:gQ w eb id tb u B cap L)(k:eb ∉ tb :: F)(g:B ∉ tb :: F):NQ w wx tb eb B cap name aH A T F id u L:=⟨h,c.off h.off k g⟩
theorem Fm{u:UZ}(h:∀ p,0<=A p/\A p<=400000)(u1:1<=u)(u2:u<=9)(g:L.length<=100):∀ p,0<=bZ A L u p/\bZ A L u p<=500000:=by
 intro p;have a:=h p;have b:=vj L p;have c:0<=u*gA L p:=V2 UI b.1;have d:u*gA L p<=9*100:=V4 u2 UI b.1 UI;unfold bZ;omega
theorem xG(w:U7)(tb eb B cap:UY)(name:UU)(aH:UZ)(A C:UV UX->UZ)(T:aE.S)(F:UV UY)(id u x:UZ)(L:UV (UZ × UZ))(y:gQ w eb id tb u B cap L)(l:eb ∉ tb :: F)(c:B ∉ tb :: F)(k:ot L)(K:∀ p,0<=A p/\A p<=500000)(r:∀ p,0<=bZ A L x p)(h:-9<=x)(g:x<=9)(J:L.length<=100)(N:bZ A L x=C)(wx:U7)(m:fH w wx tb name aH A T F):
  Va prog 157 #[.pointer (U4 ⟨tb,0,U3⟩),.slice (U4 ⟨B,0,U3⟩) L.length cap,.int .i64 x] wx fun e w'=>e=.returned (.tuple #[])/\fH w w' tb name aH C T F:=by
 obtain⟨ul,us,Fl,Fs,M,z⟩:=m.th;have t:=m.pair y l c
 have I:B ∉ tb :: Fl:=by
  intro e;rcases Vq.1 e with e|e
  ·exact c (by simp[e])
  ·rcases z B (by simp[e]) with e|e
   ·exact c (by simp[e])
   ·have:=y.lt;omega
 refine (PP wx tb B cap name aH A T ul us Fl Fs L x M t.en.sl k I t.en.lt K r h g J).mono ?_;rintro e w' ⟨rfl,s,D⟩;rw[N] at s;exact⟨rfl,m.sn z s D⟩
theorem OM(w:U7)(tb eb B cap:UY)(name:UU)(aH:UZ)(A:UV UX->UZ)(T:aE.S)(F:UV UY)(id u:UZ)(L:UV (UZ × UZ))(h:xe w tb eb B cap name aH A T F id u L)(m:ky (bZ A L u) aH L=U5):
  Va prog 104 #[.pointer (U4 ⟨tb,0,U3⟩),.pointer (U4 ⟨eb,0,U3⟩)] w fun e w'=>e=.returned (.bool U5)/\fH w w' tb name aH A T F:=by
 have c:=Fm h.bd h.u1 h.u2 h.ll;have Q:=aC (xG w tb eb B cap name aH A (bZ A L u) T F id u u L h.en h.ne h.nb h.ok (fun p=>⟨(h.bd p).1,by have:=(h.bd p).2;omega⟩) (fun p=>(c p).1) (by have:=h.u1;omega) h.u2 h.ll rfl);have O:=aC (xG w tb eb B cap name aH (bZ A L u) A T F id u (-u) L h.en h.ne h.nb h.ok c (fun p=>by rw[Hk];exact (h.bd p).1) (by have:=h.u2;omega) (by have:=h.u1;omega) h.ll (Hk A L u))
 have N:Hid (∀ wx,fH w wx tb name aH (bZ A L u) T F->Va prog 158 #[.pointer (U4 ⟨tb,0,U3⟩),.slice (U4 ⟨B,0,U3⟩) L.length cap] wx fun e w'=>e=.returned (.bool U5)/\fH w w' tb name aH (bZ A L u) T F):=by
  intro wx l;obtain⟨ul,us,Fl,Fs,t,y⟩:=l.th;refine (G6 wx tb B cap name aH _ T ul us Fl Fs L t (l.pair h.en h.ne h.nb).en.sl h.ok (fun p=>⟨(c p).1,by have:=(c p).2;omega⟩) h.ll).mono ?_;rintro e w' ⟨rfl,U⟩;rw[m];exact⟨rfl,l.later (aF.aD U)⟩
 have P:Hid (∀ wx A',fH w wx tb name aH A' T F->wx.cell? ⟨eb,4,U3⟩=U4 (.slice (U4 ⟨B,0,U3⟩) L.length cap)/\wx.cell? ⟨eb,3,U3⟩=U4 (.int .i64 u)) :=
  fun wx A' l=>⟨(l.pair h.en h.ne h.nb).en.c3,(l.pair h.en h.ne h.nb).en.c2⟩
 have r:fH w w.drew tb name aH A T F:=by
  obtain⟨ul,us,Fl,Fs,t,y⟩:=h.th;exact⟨⟨ul,us,Fl,Fs,t.same (aF.refl _ _).drew,fun k R=>.inl (y k R)⟩,(aF.refl _ _).drew⟩
 have J:=aC r;have D:=h.en.c3;have I:=h.en.c2;have u1:=h.u1;have u2:=h.u2;have x:Vf.wrap (-u)=-u:=cG UI UI;clear h c m r
 go_in
 go_upto_region 1 with fail
 go_region_held3 (fun w'=>w'.cell? ⟨eb,4,U3⟩=U4 (.slice (U4 ⟨B,0,U3⟩) L.length cap)/\w'.cell? ⟨eb,3,U3⟩=U4 (.int .i64 u))
  (first
   |exact⟨D,I⟩
   |exact P.y _ _ g)
  (first
   |(go_at_call 157;refine (Q.y _ J.y).mono ?_;rintro e w4 ⟨rfl,g⟩))
 obtain⟨V,W⟩:=P.y _ _ g;have M:=aC g;clear g Q J D I
 go_wp2_with fail
 refine (N.y _ M.y).mono ?_;rintro e Z ⟨rfl,s⟩;obtain⟨z,C⟩:=P.y _ _ s;have K:=aC (s.later (aF.refl _ _).drew);have X:=aC s;clear s N V W
 go_upto_region 3 with fail
 go_region_held3 (fun w'=>w'.cell? ⟨eb,4,U3⟩=U4 (.slice (U4 ⟨B,0,U3⟩) L.length cap)/\w'.cell? ⟨eb,3,U3⟩=U4 (.int .i64 u))
  (first
   |exact⟨z,C⟩
   |exact P.y _ _ g)
  (first
   |(go_at_call 157;refine (O.y _ K.y).mono ?_;rintro e Y ⟨rfl,g⟩))
 have K4:=aC g;clear g O M K X z C P
 go_wp2
 go_ret;exact⟨rfl,K4.y⟩
structure xl(T:aE.S)(id:UZ)(L:UV (UZ × UZ)):Prop where
 od:aE.Ord (aE.bS T)
 sz:aE.size T<=9000
 no:∀ z∈aE.bS T,z.n=id->∀ s∈L,z.f≠s.1
 nd:(L.map (·.1)).Nodup
theorem pP.off{c:aE.S}(h:pP w tb o F c w'):aF (tb :: F) w w':=by
 obtain⟨_,_,_,_,_,h,_⟩:=h;exact h
theorem Qk(tb eb:UY)(name:UU)(aH:UZ)(A:UV UX->UZ)(T:aE.S)(id:UZ)(L:UV (UZ × UZ))(g:xl T id L)(Q:L.length<=100)(k:UY)(C:k<L.length)(ul us:UW Vb)(Fl Fs:UV UY)(wx:U7)(r:TH wx tb name aH A (gn id eb T (L.take k)) ul us Fl Fs):
  Va prog 159 #[.pointer (U4 ⟨tb,3,U3⟩),.int .i64 L[k].1,.int .i64 L[k].2,.int .i64 id,.pointer (U4 ⟨eb,0,U3⟩)] wx fun e w'=>e=.returned (.tuple #[])/\pP wx tb 3 Fs (gn id eb T (L.take (k+1))) w':=by
 have x:((L.take k).map (·.1)).Nodup:=VJ ((Wa k L).map _) g.nd;obtain⟨P,_,J,O⟩:=Bc id eb (L.take k) T g.od (fun z h M s t=>g.no z h M s (Wb t)) x;have D:=Wc k L;have y:(L.take k).length<=100:=UI
 have e:gn id eb T (L.take (k+1))=aE.put (jG id eb L[k]) (gn id eb T (L.take k)):=by rw[V5 C,H9]
 have h:=g.sz
 have l:∀ z∈aE.bS (gn id eb T (L.take k)),¬ (z.f=(jG id eb L[k]).f/\z.n=(jG id eb L[k]).n):=by
  intro z h ⟨I,N⟩;rcases (J z).1 h with h|⟨s,t,rfl⟩
  ·exact g.no z h N L[k] (zg C) I
  ·have R:=g.nd
   have c:(L.take (k+1)).map (·.1)=(L.take k).map (·.1)++[L[k].1]:=by rw[V5 C,We];rfl
   have m:((L.take (k+1)).map (·.1)).Nodup:=VJ ((Wa (k+1) L).map _) g.nd;rw[c,Vy] at m;exact m.2.2 s.1 (V9.2 ⟨s,t,rfl⟩) L[k].1 UJ I
 refine (OG (gn id eb T (L.take k)) tb 3 us Fs (jG id eb L[k]) wx r.c3 (r.fz 3) r.ns r.sp UI l).mono ?_;rintro U w' ⟨rfl,K⟩;rw[e];exact⟨rfl,K⟩
theorem QM(tb:UY)(name:UU)(aH:UZ)(A:UV UX->UZ)(T:aE.S)(id:UZ)(L:UV (UZ × UZ))(h:aE.Ord (aE.bS T))(r:aE.size T<=9000)(k:UY)(l:k<L.length)(ul us:UW Vb)(Fl Fs:UV UY)(wx:U7)(c:TH wx tb name aH A (jx id T (L.take k)) ul us Fl Fs):
  Va prog 253 #[.pointer (U4 ⟨tb,3,U3⟩),.int .i64 L[k].1,.int .i64 id] wx fun e w'=>e=.returned (.tuple #[])/\pP wx tb 3 Fs (jx id T (L.take (k+1))) w':=by
 obtain⟨_,_,m⟩:=Bp id (L.take k) T h;have e:jx id T (L.take (k+1))=aE.drop L[k].1 id (jx id T (L.take k)):=by rw[V5 l,Ix]
 refine (Pq (jx id T (L.take k)) tb 3 us Fs L[k].1 id wx c.c3 (c.fz 3) c.ns c.sp UI).mono ?_;rintro s w' ⟨rfl,g⟩;rw[e];exact⟨rfl,g⟩
theorem PQ(w:U7)(tb eb B cap:UY)(name:UU)(aH:UZ)(A:UV UX->UZ)(T:aE.S)(F:UV UY)(id u:UZ)(L:UV (UZ × UZ))(h:xe w tb eb B cap name aH A T F id u L)(hr:xl T id L)(r:ky (bZ A L u) aH L=U6):
  Va prog 104 #[.pointer (U4 ⟨tb,0,U3⟩),.pointer (U4 ⟨eb,0,U3⟩)] w fun e w'=>e=.returned (.bool U6)/\fH w w' tb name aH (bZ A L u) (gn id eb T L) F:=by
 have c:=Fm h.bd h.u1 h.u2 h.ll;have C1:=aC (xG w tb eb B cap name aH A (bZ A L u) T F id u u L h.en h.ne h.nb h.ok (fun p=>⟨(h.bd p).1,by have:=(h.bd p).2;omega⟩) (fun p=>(c p).1) (by have:=h.u1;omega) h.u2 h.ll rfl)
 have CH:Hid (∀ wx,fH w wx tb name aH (bZ A L u) T F->Va prog 158 #[.pointer (U4 ⟨tb,0,U3⟩),.slice (U4 ⟨B,0,U3⟩) L.length cap] wx fun e w'=>e=.returned (.bool U6)/\fH w w' tb name aH (bZ A L u) T F):=by
  intro wx l;obtain⟨ul,us,Fl,Fs,y,K⟩:=l.th;refine (G6 wx tb B cap name aH _ T ul us Fl Fs L y (l.pair h.en h.ne h.nb).en.sl h.ok (fun p=>⟨(c p).1,by have:=(c p).2;omega⟩) h.ll).mono ?_;rintro e w' ⟨rfl,hb⟩;rw[r];exact⟨rfl,l.later (aF.aD hb)⟩
 have P:Hid (∀ wx A' x,fH w wx tb name aH A' x F->gQ wx eb id tb u B cap L):=fun wx A' x l=>(l.pair h.en h.ne h.nb).en
 have Z:Hid (∀ wx A' x,fH w wx tb name aH A' x F->wx.cell? ⟨eb,4,U3⟩=U4 (.slice (U4 ⟨B,0,U3⟩) L.length cap)/\wx.cell? ⟨eb,3,U3⟩=U4 (.int .i64 u)):=fun wx A' x l=>⟨(P.y wx A' x l).c3,(P.y wx A' x l).c2⟩
 have J:fH w w.drew tb name aH A T F:=by
  obtain⟨ul,us,Fl,Fs,y,K⟩:=h.th;exact⟨⟨ul,us,Fl,Fs,y.same (aF.refl _ _).drew,fun k R=>.inl (K k R)⟩,(aF.refl _ _).drew⟩
 have N0:=aC J;have CP:=aC (fun k R ul us Fl Fs wx l=>Qk tb eb name aH (bZ A L u) T id L hr h.ll k R ul us Fl Fs wx l);have c3:=h.en.c3;have W:=h.en.c2;have ll:=h.ll;have M:=aC (zA h.ne h.nb);have O:Hid (eb<w.heap.size):=Vh _ _ h.en.c0;clear h c r J hr;generalize bZ A L u=A1 at *
 go_in
 go_upto_region 1 with fail
 go_region_held3 (fun w'=>w'.cell? ⟨eb,4,U3⟩=U4 (.slice (U4 ⟨B,0,U3⟩) L.length cap)/\w'.cell? ⟨eb,3,U3⟩=U4 (.int .i64 u))
  (first
   |exact⟨c3,W⟩
   |exact Z.y _ _ _ g)
  (first
   |(go_at_call 157;refine (C1.y _ N0.y).mono ?_;rintro e w4 ⟨rfl,g⟩))
 obtain⟨d3,d2⟩:=Z.y _ _ _ g;have K1:=aC g;clear g C1 N0 c3 W
 go_wp2_with fail
 refine (CH.y _ K1.y).mono ?_;rintro e w5 ⟨rfl,k2⟩;obtain⟨f3,f2⟩:=Z.y _ _ _ k2;have K3:=aC k2;clear k2 CH d3 d2 K1
 go_wp2_with fail
 go_loopw [6,40] (fun _ i wx=>∃ k:UY,k<=L.length/\i=.int .i64 k/\fH w wx tb name aH A1 (gn id eb T (L.take k)) F) (fun _ i _=>L.length-(intOf i).toNat)
 case atStart=>exact⟨0,V6 _,rfl,K3.y⟩
 case round =>
  obtain⟨k,R,rfl,t⟩:=hrel;clear f3 f2
  by_cases s:k<L.length
  ·have U:=P.y _ _ _ t;have c1:=(U.sl k s).1;have W:=(U.sl k s).2;have c0:=U.c0;have hi:(k:UZ)<(L.length:UZ):=UI
   obtain⟨ul,us,Fl,Fs,y,K⟩:=t.th;have HN:=aC t;have H1:=aC y;have H2:=aC K;clear U t y K
   go_upto_region 8 with fail
   have V:aF [] wr (wr.alloc (.cells #[.int .i64 L[k].1,.int .i64 L[k].2] 60)):=(aF.refl _ _).alloc _;have C:(wr.alloc (.cells #[.int .i64 L[k].1,.int .i64 L[k].2] 60)).cell? ⟨wr.heap.size,0,U3⟩=U4 (.int .i64 L[k].1):=UJ
   have z:(wr.alloc (.cells #[.int .i64 L[k].1,.int .i64 L[k].2] 60)).cell? ⟨wr.heap.size,1,U3⟩=U4 (.int .i64 L[k].2):=UJ
   have Q:=V.cell UJ c0;have NX:=aC (HN.y.later V.drew);have Y:=aC (H1.y.same V.drew);have PX:=aC (CP.y k s _ _ _ _ _ Y.y);have I:wr.heap.size ∉ tb :: Fs:=fun e=>by have:=H1.y.lt wr.heap.size (by simp only[Vq,Vr] at e ⊢;grind);omega
   have m:=aC I
   have D:eb ∉ tb :: Fs:=by
    intro e;rcases Vq.1 e with e|e
    ·exact M.y.1 (by simp[e])
    ·rcases H2.y eb (by simp[e]) with e|e
     ·exact M.y.1 (by simp[e])
     ·have:=O.y;omega
   have N:=aC D;clear V c0 c1 W I D HN;generalize (Vz wr (.cells #[.int .i64 L[k].1,.int .i64 L[k].2] 60))=X at C z Q NX Y PX ⊢;generalize wr.heap.size=bx at C z m ⊢
   go_region_held3 (fun w'=>w'.cell? ⟨bx,0,U3⟩=U4 (.int .i64 L[k].1)/\w'.cell? ⟨bx,1,U3⟩=U4 (.int .i64 L[k].2)/\w'.cell? ⟨eb,0,U3⟩=U4 (.int .i64 id))
    (first
     |exact⟨C,z,Q⟩
     |exact⟨g.off.cell m.y C,g.off.cell m.y z,g.off.cell N.y Q⟩)
    (first
     |(go_at_call 159;refine PX.y.mono ?_;rintro e w6 ⟨rfl,g⟩))
   have HK:=aC (NX.y.lG Y.y H2.y g);clear g NX Y PX H1 H2 m N CP Z P C z Q
   go_wp2
   go_roundw
   case rel=>exact⟨k+1,by omega,by go_num,HK.y⟩
   case measure=>simp[intOf];omega
  ·have e:L.take k=L:=V7 UI;rw[e] at t;have HN:=aC t;have hi:¬ (k:UZ)<(L.length:UZ):=UI
   clear t
   go_wp2
   go_ret;exact⟨rfl,HN.y⟩
theorem To(w:U7)(tb eb B cap:UY)(name:UU)(aH:UZ)(A:UV UX->UZ)(T:aE.S)(F:UV UY)(id u:UZ)(L:UV (UZ × UZ))(h:xe w tb eb B cap name aH A T F id u L)(ho:aE.Ord (aE.bS T))(hz:aE.size T<=9000)(hA:∀ p,0<=bZ A L (-u) p):
  Va prog 205 #[.pointer (U4 ⟨tb,0,U3⟩),.pointer (U4 ⟨eb,0,U3⟩)] w fun e w'=>e=.returned (.tuple #[])/\fH w w' tb name aH (bZ A L (-u)) (jx id T L) F:=by
 have C1:=aC (xG w tb eb B cap name aH A (bZ A L (-u)) T F id u (-u) L h.en h.ne h.nb h.ok (fun p=>⟨(h.bd p).1,by have:=(h.bd p).2;omega⟩) hA (by have:=h.u2;omega) (by have:=h.u1;omega) h.ll rfl);have P:Hid (∀ wx A' r,fH w wx tb name aH A' r F->gQ wx eb id tb u B cap L):=fun wx A' r s=>(s.pair h.en h.ne h.nb).en
 have Z:Hid (∀ wx A' r,fH w wx tb name aH A' r F->wx.cell? ⟨eb,4,U3⟩=U4 (.slice (U4 ⟨B,0,U3⟩) L.length cap)/\wx.cell? ⟨eb,3,U3⟩=U4 (.int .i64 u)):=fun wx A' r s=>⟨(P.y wx A' r s).c3,(P.y wx A' r s).c2⟩
 have C:fH w w.drew tb name aH A T F:=by
  obtain⟨ul,us,Fl,Fs,R,Q⟩:=h.th;exact⟨⟨ul,us,Fl,Fs,R.same (aF.refl _ _).drew,fun k M=>.inl (Q k M)⟩,(aF.refl _ _).drew⟩
 have N0:=aC C;have CP:=aC (fun k M ul us Fl Fs wx s=>QM tb name aH (bZ A L (-u)) T id L ho hz k M ul us Fl Fs wx s);have c3:=h.en.c3;have U:=h.en.c2;have ll:=h.ll;have u1:=h.u1;have u2:=h.u2;have aa:Vf.wrap (-u)=-u:=cG UI UI;have D:=aC (zA h.ne h.nb);have J:Hid (eb<w.heap.size):=Vh _ _ h.en.c0;clear h C ho hz hA;generalize bZ A L (-u)=A1 at *
 go_in
 go_upto_region 0 with fail
 go_region_held3 (fun w'=>w'.cell? ⟨eb,4,U3⟩=U4 (.slice (U4 ⟨B,0,U3⟩) L.length cap)/\w'.cell? ⟨eb,3,U3⟩=U4 (.int .i64 u))
  (first
   |exact⟨c3,U⟩
   |exact Z.y _ _ _ c)
  (first
   |(go_at_call 157;refine (C1.y _ N0.y).mono ?_;rintro e w4 ⟨rfl,c⟩))
 obtain⟨f3,f2⟩:=Z.y _ _ _ c;have K3:=aC c;clear c C1 N0 c3 U
 go_wp2_with fail
 go_loopw [5,22] (fun _ i wx=>∃ k:UY,k<=L.length/\i=.int .i64 k/\fH w wx tb name aH A1 (jx id T (L.take k)) F) (fun _ i _=>L.length-(intOf i).toNat)
 case atStart=>exact⟨0,V6 _,rfl,K3.y⟩
 case round =>
  obtain⟨k,M,rfl,m⟩:=hrel;clear f3 f2
  by_cases l:k<L.length
  ·have N:=P.y _ _ _ m;have c1:=(N.sl k l).1;have U:=(N.sl k l).2;have c0:=N.c0;have hi:(k:UZ)<(L.length:UZ):=UI
   obtain⟨ul,us,Fl,Fs,R,Q⟩:=m.th;have W:=aC m;have H1:=aC R;have H2:=aC Q;clear N m R Q
   go_upto_region 4 with fail
   have O:aF [] wr (wr.alloc (.cells #[.int .i64 L[k].1,.int .i64 L[k].2] 60)):=(aF.refl _ _).alloc _;have x:(wr.alloc (.cells #[.int .i64 L[k].1,.int .i64 L[k].2] 60)).cell? ⟨wr.heap.size,0,U3⟩=U4 (.int .i64 L[k].1):=UJ
   have t:(wr.alloc (.cells #[.int .i64 L[k].1,.int .i64 L[k].2] 60)).cell? ⟨wr.heap.size,1,U3⟩=U4 (.int .i64 L[k].2):=UJ
   have K:=O.cell UJ c0;have NX:=aC (W.y.later O.drew);have V:=aC (H1.y.same O.drew);have Y:=aC (CP.y k l _ _ _ _ _ V.y);have z:wr.heap.size ∉ tb :: Fs:=fun e=>by have:=H1.y.lt wr.heap.size (by simp only[Vq,Vr] at e ⊢;grind);omega
   have g:=aC z
   have y:eb ∉ tb :: Fs:=by
    intro e;rcases Vq.1 e with e|e
    ·exact D.y.1 (by simp[e])
    ·rcases H2.y eb (by simp[e]) with e|e
     ·exact D.y.1 (by simp[e])
     ·have:=J.y;omega
   have I:=aC y;clear O c0 c1 U z y W;generalize (Vz wr (.cells #[.int .i64 L[k].1,.int .i64 L[k].2] 60))=X at x t K NX V Y ⊢;generalize wr.heap.size=bx at x t g ⊢
   go_region_held3 (fun w'=>w'.cell? ⟨bx,0,U3⟩=U4 (.int .i64 L[k].1)/\w'.cell? ⟨bx,1,U3⟩=U4 (.int .i64 L[k].2)/\w'.cell? ⟨eb,0,U3⟩=U4 (.int .i64 id))
    (first
     |exact⟨x,t,K⟩
     |exact⟨c.off.cell g.y x,c.off.cell g.y t,c.off.cell I.y K⟩)
    (first
     |(go_at_call 253;refine Y.y.mono ?_;rintro e w6 ⟨rfl,c⟩))
   have HK:=aC (NX.y.lG V.y H2.y c);clear c NX V Y H1 H2 g I CP Z P x t K
   go_wp2
   go_roundw
   case rel=>exact⟨k+1,by omega,by go_num,HK.y⟩
   case measure=>simp[intOf];omega
  ·have e:L.take k=L:=V7 UI;rw[e] at m;have W:=aC m;have hi:¬ (k:UZ)<(L.length:UZ):=UI
   clear m
   go_wp2
   go_end0
   exact⟨rfl,W.y⟩
namespace Hp
structure Hi where
 t:UZ
 n:UZ
 v:UY
def ahead(x y:Hi):Prop:=x.t<y.t\/(x.t=y.t/\x.n<y.n)
instance (x y:Hi):Decidable (ahead x y):=by unfold ahead;infer_instance
theorem ya{x y z:Hi}(h:¬ ahead x y)(k:¬ ahead y z):¬ ahead x z:=by unfold ahead at *;omega
theorem AX{x y:Hi}(h:ahead x y):¬ ahead y x:=by unfold ahead at *;omega
theorem SH(x:Hi):¬ ahead x x:=by unfold ahead;omega
def at_(l:UV Hi)(i:UY):Hi:=l.getD i ⟨0,0,0⟩
theorem sM{l:UV Hi}(h:i<l.length):at_ l i=l[i]:=by simp[at_,Wf,h]
theorem xq{l:UV Hi}{x:Hi}:at_ (l.set i x) j=if i=j/\i<l.length then x else at_ l j:=by
 unfold at_ Wf;rw[List.getElem?_set]
 by_cases h:i=j
 ·subst h
  by_cases k:i<l.length
  ·simp[k]
  ·simp[k]
 ·simp[h]
def par(i:UY):UY:=(i-1) / 2
def ok(l:UV Hi)(i:UY):Prop:=¬ ahead (at_ l i) (at_ l (par i))
def gH(l:UV Hi):Prop:=∀ i,0<i->i<l.length->ok l i
def swap(l:UV Hi)(i j:UY):UV Hi:=(l.set i (at_ l j)).set j (at_ l i)
theorem qU{l:UV Hi}:(swap l i j).length=l.length:=by simp[swap]
theorem xQ{l:UV Hi}(g:i<l.length)(c:j<l.length):(swap l i j).Perm l:=by
 unfold swap;rw[sM g,sM c];exact List.set_set_perm g c
theorem nX{l:UV Hi}(m:i<l.length)(h:j<l.length)(k:UY):at_ (swap l i j) k=if k=j then at_ l i else if k=i then at_ l j else at_ l k:=by
 unfold swap;rw[xq,xq]
 by_cases g:k=j
 ·subst g;rw[U1 ⟨rfl,by simpa using h⟩,U1 rfl]
 ·rw[U0 (fun e=>g e.1.symm),U0 g]
  by_cases c:k=i
  ·subst c;rw[U1 ⟨rfl,m⟩,U1 rfl]
  ·rw[U0 (fun e=>c e.1.symm),U0 c]
structure oG(l:UV Hi)(p:UY):Prop where
 o:∀ i,0<i->i<l.length->i≠p->ok l i
 c:0<p->∀ i,0<i->i<l.length->par i=p->¬ ahead (at_ l i) (at_ l (par p))
theorem oG.done{l:UV Hi}(h:oG l p)(k:p=0\/¬ ahead (at_ l p) (at_ l (par p))):gH l:=by
 intro i g c
 by_cases e:i=p
 ·subst e;rcases k with k|k
  ·omega
  ·exact k
 ·exact h.o i g c e
theorem oG.step{l:UV Hi}(h:oG l p)(x:p<l.length)(J:0<p)(k:ahead (at_ l p) (at_ l (par p))):oG (swap l p (par p)) (par p):=by
 have K:par p<p:=by unfold par;omega
 have m:par p<l.length:=UI
 refine⟨fun i t r y=>?_,fun D i t r C=>?_⟩
 ·rw[qU] at r;unfold ok;rw[nX x m,nX x m,U0 y]
  by_cases e:i=p
  ·subst e;rw[U1 rfl,U1 rfl];exact AX k
  ·rw[U0 e]
   by_cases s:par i=par p
   ·rw[U1 s];have:=h.o i t r e;unfold ok at this;rw[s] at this;exact ya this (AX k)
   ·rw[U0 s]
    by_cases z:par i=p
    ·rw[U1 z];exact h.c J i t r z
    ·rw[U0 z];exact h.o i t r e
 ·rw[qU] at r
  have I:par (par p)<par p:=by
   have:par (par p)=(par p-1) / 2:=rfl;omega
  rw[nX x m,nX x m,U0 (show par (par p)≠par p by omega),U0 (show par (par p)≠p by omega)];have g:=h.o (par p) D m UI;unfold ok at g
  by_cases e:i=par p
  ·rw[e] at C;omega
  ·rw[U0 e]
   by_cases s:i=p
   ·subst s;rw[U1 rfl];exact g
   ·rw[U0 s];have:=h.o i t r s;unfold ok at this;rw[C] at this;exact ya this g
theorem Pz{l:UV Hi}{x:Hi}(h:gH l):oG (l++[x]) l.length:=by
 have e:∀ i,i<l.length->at_ (l++[x]) i=at_ l i:=by
  intro i c;unfold at_ Wf;rw[Wg c]
 refine⟨fun i g c k=>?_,fun _ i g c m=>?_⟩
 ·simp at c;unfold ok;rw[e i UI,e (par i) (by unfold par;omega)];exact h i g UI
 ·simp at c;unfold par at m;omega
structure qO(l:UV Hi)(q p:UY):Prop where
 qp:q<=p
 a:∀ i,0<i->i<l.length->i≠q->par i≠p->ok l i
 b:0<p->∀ i,0<i->i<l.length->par i=p->¬ ahead (at_ l i) (at_ l (par p))
 d:p≠q->0<q->ok l q
theorem qO.done{l:UV Hi}(h:qO l q p)(y:q<l.length)(k:∀ i,0<i->i<l.length->par i=p->¬ ahead (at_ l i) (at_ l p)):oG l q:=by
 have o:∀ i,0<i->i<l.length->i≠q->ok l i:=by
  intro i c g m
  by_cases e:par i=p
  ·unfold ok;rw[e];exact k i c g e
  ·exact h.a i c g m e
 refine⟨o,fun t i c g r=>?_⟩
 by_cases e:p=q
 ·subst e;exact h.b t i c g r
 ·have x:=h.d e t;have s:=o i c g (by intro e;subst e;unfold par at r;omega);unfold ok at x s;rw[r] at s;exact ya s x
theorem qO.step{l:UV Hi}{c:UY}(h:qO l q p)(J:0<c)(m:c<l.length)(g:par c=p)(k:ahead (at_ l c) (at_ l p))(K:∀ i,0<i->i<l.length->par i=p->¬ ahead (at_ l i) (at_ l c)):qO (swap l p c) q c:=by
 have N:p<c:=by unfold par at g;omega
 have r:p<l.length:=UI
 have P:=h.qp;refine⟨by omega,fun i t s y z=>?_,fun _ i t s D=>?_,fun _ C=>?_⟩
 ·rw[qU] at s;unfold ok;rw[nX r m,nX r m,U0 z]
  by_cases e:i=c
  ·subst e;rw[U1 rfl,U1 g];exact AX k
  ·rw[U0 e]
   by_cases I:i=p
   ·subst I;have:par i<i:=by unfold par;omega
    rw[U1 rfl,U0 UI];exact h.b t c J m g
   ·rw[U0 I]
    by_cases x:par i=p
    ·rw[U1 x];exact K i t s x
    ·rw[U0 x];exact h.a i t s y x
 ·rw[qU] at s;have O:c<i:=by unfold par at D;omega
  rw[nX r m,nX r m,U0 UI,U0 UI,U0 (show par c≠c by omega),U1 g];have:=h.a i t s UI UI;unfold ok at this;rw[D] at this;exact this
 ·unfold ok;have M:par q<q:=by unfold par;omega
  rw[nX r m,nX r m,U0 (show q≠c by omega),U0 (show par q≠c by omega),U0 (show par q≠p by omega)]
  by_cases e:q=p
  ·subst e;rw[U1 rfl];exact h.b C c J m g
  ·rw[U0 e];exact h.d UI C
def cut(l:UV Hi)(p:UY):UV Hi:=(l.set p (at_ l (l.length-1))).take (l.length-1)
theorem pK{l:UV Hi}:(cut l p).length=l.length-1:=by simp[cut]
theorem sw{l:UV Hi}(g:i<l.length-1):at_ (cut l p) i=if i=p then at_ l (l.length-1) else at_ l i:=by
 have e:at_ (cut l p) i=at_ (l.set p (at_ l (l.length-1))) i:=by
  unfold cut;show (List.take _ _).getD i _=(l.set p (at_ l (l.length-1))).getD i _;unfold Wf;rw[Wh g]
 rw[e,xq]
 by_cases c:i=p
 ·subst c;rw[U1 ⟨rfl,by omega⟩,U1 rfl]
 ·rw[U0 (fun e=>c e.1.symm),U0 c]
theorem Gi{l:UV Hi}(h:p<l.length):l.Perm (at_ l p :: cut l p):=by
 have k:l.length-1<l.length:=UI
 have r:=(xQ (l:=l) (i:=p) (j:=l.length-1) h k).symm;have g:(swap l p (l.length-1)).length=l.length:=qU
 have e:swap l p (l.length-1)=cut l p++[at_ l p]:=by
  refine List.ext_getElem (by rw[g,VU,pK];simp;omega) (fun i m x=>?_);rw[g] at m;have t:=nX h k i;rw[sM (by rw[g];exact m)] at t;rw[t]
  by_cases c:i=l.length-1
  ·rw[U1 c,List.getElem_append_right (by rw[pK];omega)];simp
  ·rw[U0 c,List.getElem_append_left (by rw[pK];omega)];have s:=sw (l:=l) (p:=p) (i:=i) UI;rw[sM (by rw[pK];omega)] at s;rw[s]
 rw[e] at r;exact r.trans (List.perm_append_comm.trans UJ)
theorem O9{l:UV Hi}(h:gH l):gH (cut l (l.length-1)):=by
 intro i g c;rw[pK] at c;unfold ok;rw[sw c,sw (show par i<l.length-1 by unfold par;omega),U0 UI,U0 (show par i≠l.length-1 by unfold par;omega)];exact h i g UI
theorem Pa{l:UV Hi}(h:gH l)(C:p<l.length-1):qO (cut l p) p p:=by
 refine⟨zq _,fun i g c r m=>?_,fun z i g c x=>?_,fun e=>absurd rfl e⟩
 ·rw[pK] at c;unfold ok;rw[sw c,sw (show par i<l.length-1 by unfold par;omega),U0 r,U0 m];exact h i g UI
 ·rw[pK] at c;have s:i≠p:=by intro e;subst e;unfold par at x;omega
  have k:par p≠p:=by unfold par;omega
  rw[sw c,sw (show par p<l.length-1 by unfold par;omega),U0 s,U0 k];have t:=h i g UI;have y:=h p z UI;unfold ok at t y;rw[x] at t;exact ya t y
end Hp
def iv(x:Hp.Hi):UV U8:=[.int .i64 x.t,.int .i64 x.n,.pointer (U4 ⟨x.v,0,U3⟩)]
theorem xV(l:UV Hp.Hi):(l.flatMap iv).length=l.length*3:=by
 induction l with
 |nil=>rfl
 |cons x l ih=>simp only[Wi,VU,VV,ih,iv,VZ];omega
theorem Cl{l:UV Hp.Hi}(h:i<l.length):l=l.take i++l[i] :: l.drop (i+1):=by rw[List.getElem_cons_drop,V1]
theorem ua{l:UV Hp.Hi}(h:i<l.length)(g:j<3):(l.flatMap iv)[i*3+j]?=(iv l[i])[j]?:=by
 conv=>lhs;rw[Cl h,Wj,Wi]
 have c:((l.take i).flatMap iv).length=i*3:=by rw[xV,Wk UI]
 rw[List.getElem?_append_right UI,c,Nat.add_sub_cancel_left,Wg (by simp[iv];omega)]
theorem QR{l:UV Hp.Hi}(h:i<l.length)(x:Hp.Hi):(((l.flatMap iv).set (i*3) (.int .i64 x.t)).set (i*3+1) (.int .i64 x.n)).set (i*3+2) (.pointer (U4 ⟨x.v,0,U3⟩))=(l.set i x).flatMap iv:=by
 have c:((l.take i).flatMap iv).length=i*3:=by rw[xV,Wk UI]
 conv=>lhs;rw[Cl h,Wj,Wi]
 rw[Wm _ _ UI,Wm _ _ UI,Wm _ _ UI,c];rw[show i*3-i*3=0 from by omega,show i*3+1-i*3=1 from by omega,show i*3+2-i*3=2 from by omega]
 conv=>rhs;rw[List.set_eq_take_append_cons_drop,U1 h,Wj,Wi]
 simp[iv]
structure HP(w:U7)(d o:UY)(v:U8)(l:UV Hp.Hi):Prop where
 c:w.cell? ⟨d,o,U3⟩=U4 v
 own:w.ownsRow 0 286 3 v l.length (l.flatMap iv)
 ne:v.ownBlock≠U4 d
 fz:w.frozen? ⟨d,o,U3⟩=U5
theorem HP.form{l:UV Hp.Hi}(h:HP w d o v l)(c:0<l.length):∃ H cap,v=.slice (U4 ⟨H,0,U3⟩) l.length cap:=by
 obtain⟨H,cap,e⟩:=Joins.ownsRow_form h.own c;exact⟨H,cap,e⟩
theorem HP.at{l:UV Hp.Hi}(h:HP w d o (.slice (U4 ⟨H,0,U3⟩) l.length cap) l)(c:i<l.length):w.cell? ⟨H,i*3,U3⟩=U4 (.int .i64 (Hp.at_ l i).t)/\w.cell? ⟨H,i*3+1,U3⟩=U4 (.int .i64 (Hp.at_ l i).n)/\w.cell? ⟨H,i*3+2,U3⟩=U4 (.pointer (U4 ⟨(Hp.at_ l i).v,0,U3⟩)):=by
 rw[Hp.sM c];refine⟨?_,?_,?_⟩
 ·exact (h.own.cellAt (i*3) UI).trans (ua c (j:=0) UI)
 ·exact (h.own.cellAt (i*3+1) UI).trans (ua c (j:=1) UI)
 ·exact (h.own.cellAt (i*3+2) UI).trans (ua c (j:=2) UI)
theorem HP.off{l:UV Hp.Hi}(h:HP w d o v l)(k:aF G w w')(x:d ∉ G)(C:∀ b,v.ownBlock=U4 b->b ∉ G):HP w' d o v l:=by
 refine⟨k.cell x h.c,⟨h.own.1,?_⟩,h.ne,(k.frozen x (Vh _ _ h.c)).trans h.fz⟩;rcases h.own.2 with D|⟨g,cap,s,t,z,r,rest⟩
 ·exact .inl D
 ·refine .inr ⟨g,cap,s,t,z,?_,rest⟩
  have m:g<w.heap.size:=by
   by_cases y:g<w.heap.size
   ·exact y
   ·rw[Wn UI] at r;cases r
  rw[k.block g m (C g (by rw[t];rfl))];exact r
theorem HP.later{l:UV Hp.Hi}(h:HP w d o v l)(k:U9 w.heap.size w w'):HP w' d o v l:=h.off (G:=[]) (aF.aD k) UJ UJ
theorem HP.put{l:UV Hp.Hi}(h:HP w d o (.slice (U4 ⟨H,0,U3⟩) l.length cap) l)(m:i<l.length)(x:Hp.Hi):HP (((w.setCell ⟨H,i*3,U3⟩ (.int .i64 x.t)).setCell ⟨H,i*3+1,U3⟩ (.int .i64 x.n)).setCell ⟨H,i*3+2,U3⟩ (.pointer (U4 ⟨x.v,0,U3⟩))) d o (.slice (U4 ⟨H,0,U3⟩) (l.set i x).length cap) (l.set i x):=by
 have g:d≠H:=fun e=>h.ne (by rw[e];rfl)
 have k:aF [H] w (((w.setCell ⟨H,i*3,U3⟩ (.int .i64 x.t)).setCell ⟨H,i*3+1,U3⟩ (.int .i64 x.n)).setCell ⟨H,i*3+2,U3⟩ (.pointer (U4 ⟨x.v,0,U3⟩))) :=
  (((aF.refl [H] w).setCell (.inl UJ) _ _).setCell (.inl UJ) _ _).setCell (.inl UJ) _ _
 refine⟨?_,?_,h.ne,?_⟩
 ·rw[Wp];exact k.cell (by simpa using g) h.c
 ·rw[Wp,<- QR m x];exact ((((h.own.stored (i*3) (.int .i64 x.t)).1).stored (i*3+1) (.int .i64 x.n)).1.stored (i*3+2) (.pointer (U4 ⟨x.v,0,U3⟩))).1
 ·exact (k.frozen (by simpa using g) (Vh _ _ h.c)).trans h.fz
theorem tX(w:U7)(H i j m:UY)(a b c:U8):aF [H] w (((w.setCell ⟨H,i,U3⟩ a).setCell ⟨H,j,U3⟩ b).setCell ⟨H,m,U3⟩ c) :=
 (((aF.refl [H] w).setCell (.inl UJ) _ _).setCell (.inl UJ) _ _).setCell (.inl UJ) _ _
theorem HP.oP{l:UV Hp.Hi}(h:HP w d o (.slice (U4 ⟨H,0,U3⟩) l.length cap) l)(m:i<l.length)(k:j<l.length){x y:Hp.Hi}(g:Hp.at_ l i=x)(c:Hp.at_ l j=y):
  HP ((((((w.setCell ⟨H,i*3,U3⟩ (.int .i64 y.t)).setCell ⟨H,i*3+1,U3⟩ (.int .i64 y.n)).setCell ⟨H,i*3+2,U3⟩ (.pointer (U4 ⟨y.v,0,U3⟩))).setCell ⟨H,j*3,U3⟩ (.int .i64 x.t)).setCell ⟨H,j*3+1,U3⟩ (.int .i64 x.n)).setCell ⟨H,j*3+2,U3⟩ (.pointer (U4 ⟨x.v,0,U3⟩))) d o (.slice (U4 ⟨H,0,U3⟩) l.length cap) (Hp.swap l i j)
  /\ aF [H] w ((((((w.setCell ⟨H,i*3,U3⟩ (.int .i64 y.t)).setCell ⟨H,i*3+1,U3⟩ (.int .i64 y.n)).setCell ⟨H,i*3+2,U3⟩ (.pointer (U4 ⟨y.v,0,U3⟩))).setCell ⟨H,j*3,U3⟩ (.int .i64 x.t)).setCell ⟨H,j*3+1,U3⟩ (.int .i64 x.n)).setCell ⟨H,j*3+2,U3⟩ (.pointer (U4 ⟨x.v,0,U3⟩))):=by
 refine⟨?_,(tX _ _ _ _ _ _ _ _).trans (tX _ _ _ _ _ _ _ _)⟩;have a:=(h.put m y).put (i:=j) (by simpa using k) x;subst g c;have e:((l.set i (Hp.at_ l j)).set j (Hp.at_ l i)).length=l.length:=UJ
 rw[e] at a;exact a
def gU(x:Hp.Hi)(t n:UZ):UZ:=oR (lq x.t t) (lq x.n n)
theorem Ox(x y:Hp.Hi):gU x y.t y.n<0↔Hp.ahead x y:=by
 unfold gU oR lq Hp.ahead
 split <;> split <;> (repeat split) <;> omega
theorem G5(x:Hp.Hi)(t n:UZ):gU x t n=0↔x.t=t/\x.n=n:=by
 unfold gU oR lq
 split <;> split <;> (repeat split) <;> omega
theorem I5(x:Hp.Hi)(t n:UZ)(w:U7):
  Va prog 203 #[.agg #[.int .i64 x.t,.int .i64 x.n,.pointer (U4 ⟨x.v,0,U3⟩)],.int .i64 t,.int .i64 n] w fun e w'=>e=.returned (.int .i64 (gU x t n))/\U9 w.heap.size w w':=by
 unfold gU;have HP:=aC (fun w'=>yq x.t t w');have r:=aC (fun w'=>yq x.n n w');generalize lq x.t t=p at *;generalize lq x.n n=q at *
 go_in
 have g:U9 w.heap.size w (w.alloc (.cells #[.int .i64 x.t,.int .i64 x.n,.pointer (U4 ⟨x.v,0,U3⟩)] 286)):=(zr _ _).alloc (zq _) _;have l:(w.alloc (.cells #[.int .i64 x.t,.int .i64 x.n,.pointer (U4 ⟨x.v,0,U3⟩)] 286)).cell? ⟨w.heap.size,0,U3⟩=U4 (.int .i64 x.t):=UJ
 have k:(w.alloc (.cells #[.int .i64 x.t,.int .i64 x.n,.pointer (U4 ⟨x.v,0,U3⟩)] 286)).cell? ⟨w.heap.size,1,U3⟩=U4 (.int .i64 x.n):=UJ
 go_upto_region 1 with fail
 generalize (Vz w (.cells #[.int .i64 x.t,.int .i64 x.n,.pointer (U4 ⟨x.v,0,U3⟩)] 286))=X at l k g ⊢;generalize c:w.heap.size=b at l k g ⊢;have m:=aC c;clear c
 go_region_held3 (fun w'=>w'.cell? ⟨b,0,U3⟩=U4 (.int .i64 x.t)/\w'.cell? ⟨b,1,U3⟩=U4 (.int .i64 x.n)/\U9 b w w')
  (first
   |exact⟨l,k,g.drew⟩
   |(go_split_ands;refine⟨?_,?_,?_⟩ <;> assumption)
   |(go_split_ands;exact⟨aN ((zr _ _).alloc (zq _) _) UL,aN ((zr _ _).alloc (zq _) _) UL,aZ UL ((zr _ _).alloc (zq _) _) (by rw[m.y];exact zq _)⟩))
  (first
   |(go_at_call_of 251 (VT .i64 t);refine (HP.y _).mono ?_;rintro e w' ⟨rfl,rfl⟩)
   |(go_at_call_of 251 (VT .i64 n);refine (r.y _).mono ?_;rintro e w' ⟨rfl,rfl⟩)
   |(go_at_call 250;refine (Fi _ p q _ UJ UJ).mono ?_;rintro e w' ⟨rfl,rfl⟩))
 all_goals
  have s:Hid (U9 w.heap.size w (VB (Vz X (.cells #[.int .i64 p,.int .i64 q] 3)))):=by
   have h:=aZ g ((zr X.heap.size X).alloc (zq _) (.cells #[.int .i64 p,.int .i64 q] 3)) (by rw[m.y];exact zq _);rw[m.y];exact h.drew
  go_wp2
  go_ret;exact⟨rfl,s.y⟩
def tD(x y:Hp.Hi):UX:=decide (gU x y.t y.n<0)
theorem Cd{x y:Hp.Hi}:tD x y=U6↔Hp.ahead x y:=by unfold tD;rw[decide_eq_true_iff,Ox]
theorem Im{x y:Hp.Hi}:tD x y=U5↔¬ Hp.ahead x y:=by rw[<- Cd];simp
theorem IP(d o:UY)(v:U8)(l:UV Hp.Hi)(i j:UY)(w:U7)(h:HP w d o v l)(D:i<l.length)(C:j<l.length)(M:l.length<=1000):
  Va prog 274 #[.pointer (U4 ⟨d,o,U3⟩),.int .i64 i,.int .i64 j] w fun e w'=>e=.returned (.bool (tD (Hp.at_ l i) (Hp.at_ l j)))/\U9 w.heap.size w w':=by
 obtain⟨H,cap,rfl⟩:=h.form UI;have c:=h.c;obtain⟨z,s,r⟩:=h.at D;obtain⟨m,k,N⟩:=h.at C;have J:=aC (fun w'=>I5 (Hp.at_ l i) (Hp.at_ l j).t (Hp.at_ l j).n w');have K:(i:UZ)<(l.length:UZ):=UI
 have j1:(j:UZ)<(l.length:UZ):=UI
 clear h;generalize Hp.at_ l i=x at *;generalize Hp.at_ l j=y at *
 go_in
 go_upto_region 1 with fail
 go_region_held3 (fun w'=>w'.cell? ⟨d,o,U3⟩=U4 (.slice (U4 ⟨H,0,U3⟩) l.length cap)/\w'.cell? ⟨H,i*3,U3⟩=U4 (.int .i64 x.t)/\w'.cell? ⟨H,i*3+1,U3⟩=U4 (.int .i64 x.n)/\w'.cell? ⟨H,i*3+2,U3⟩=U4 (.pointer (U4 ⟨x.v,0,U3⟩))/\w'.cell? ⟨H,j*3,U3⟩=U4 (.int .i64 y.t)/\w'.cell? ⟨H,j*3+1,U3⟩=U4 (.int .i64 y.n))
  (first
   |exact⟨c,z,s,r,m,k⟩
   |exact⟨aN g c,aN g z,aN g s,aN g r,aN g m,aN g k⟩)
  (first
   |(go_at_call 203;refine (J.y _).mono ?_;rintro e w4 ⟨rfl,g⟩))
 have I:Hid (U9 w.heap.size w w4):=aZ (dM w) g (zq _);clear g
 go_wp2
 go_ret;exact⟨rfl,I.y⟩
theorem BL(d o H cap:UY)(l:UV Hp.Hi)(i j:UY)(w:U7)(h:HP w d o (.slice (U4 ⟨H,0,U3⟩) l.length cap) l)(m:i<l.length)(g:j<l.length)(s:i≠j):
  Va prog 275 #[.pointer (U4 ⟨d,o,U3⟩),.int .i64 i,.int .i64 j] w fun e w'=>e=.returned (.tuple #[])/\HP w' d o (.slice (U4 ⟨H,0,U3⟩) l.length cap) (Hp.swap l i j)/\aF [H] w w':=by
 have c:=h.c;obtain⟨M,K,J⟩:=h.at m;obtain⟨I,D,C⟩:=h.at g;have z:∀ k,w.frozen? ⟨H,k,U3⟩=U5:=fun k=>h.own.frozenAt k
 have t:(i:UZ)<(l.length:UZ):=UI
 have j1:(j:UZ)<(l.length:UZ):=UI
 have r:=aC (h.oP m g rfl rfl);clear h;generalize Hp.at_ l i=x at *;generalize Hp.at_ l j=y at *
 go_in
 go_upto_region 0 with fail
 go_big_region
 go_end0
 exact⟨rfl,r.y.1.off (G:=[]) ((aF.refl _ _).drew) UJ UJ,r.y.2.drew⟩
structure kR(w wx:U7)(d o H n cap:UY)(l l':UV Hp.Hi):Prop where
 hp:HP wx d o (.slice (U4 ⟨H,0,U3⟩) n cap) l'
 len:l'.length=n
 perm:l'.Perm l
 off:aF [H] w wx
theorem kR.new{l:UV Hp.Hi}(h:HP w d o (.slice (U4 ⟨H,0,U3⟩) l.length cap) l):kR w w d o H l.length cap l l:=⟨h,rfl,.refl _,aF.refl _ _⟩
theorem kR.later{l l':UV Hp.Hi}(h:kR w wx d o H n cap l l')(k:U9 wx.heap.size wx wy):kR w wy d o H n cap l l' :=
 ⟨h.hp.later k,h.len,h.perm,h.off.trans' (aF.aD (F:=[]) k) UJ⟩
theorem Gq(d o H cap:UY)(l:UV Hp.Hi)(p:UY)(w:U7)(h:HP w d o (.slice (U4 ⟨H,0,U3⟩) l.length cap) l)(N:p<l.length)(m:Hp.oG l p)(W:l.length<=1000):
  Va prog 248 #[.pointer (U4 ⟨d,o,U3⟩),.int .i64 p] w fun e w'=>e=.returned (.tuple #[])/\∃ l',kR w w' d o H l.length cap l l'/\Hp.gH l':=by
 have Q:=aC (kR.new h);have R:=aC m;clear h m
 go_in
 go_wp2_with fail
 go_loopw [1] (fun v wx=>∃ (q:UY) (l':UV Hp.Hi),v=.int .i64 q/\q<l.length/\Hp.oG l' q/\kR w wx d o H l.length cap l l') (fun v _=>(intOf v).toNat)
 case atStart=>exact⟨p,l,rfl,N,R.y,Q.y⟩
 case round =>
  obtain⟨q,l',rfl,V,m,ht⟩:=hrel
  by_cases O:0<q
  ·have U:(0:UZ)<(q:UZ):=UI
   have I:=aC ht;have r:=aC m
   have Y:((((q:UZ)-1).tdiv 2))=((Hp.par q:UY):UZ):=by
    unfold Hp.par;rw[Int.tdiv_eq_ediv_of_nonneg UI];omega
   have X:Vf.wrap ((q:UZ)-1)=(q:UZ)-1:=cG UI UI;have M:Hp.par q<q:=by unfold Hp.par;omega
   have J:=aC (fun wy (k:U9 wr.heap.size wr wy)=>IP d o _ l' q (Hp.par q) wy (ht.hp.later k) (by rw[ht.len];omega) (by rw[ht.len];omega) (by rw[ht.len];omega));clear m ht
   go_wp2_with fail
   refine (J.y _ (zr _ _)).mono ?_;rintro e w4 ⟨rfl,z⟩;have c:=aC (I.y.later z);clear J I z
   cases C:tD (Hp.at_ l' q) (Hp.at_ l' (Hp.par q))
   ·have t:=aC (zA c.y (r.y.done (.inr (Im.1 C))));clear c r
    go_wp2_with fail
    (try simp only[Wq,Exit.then]);refine bodyPost_ret (results_none rfl _ _ _) rfl ?_
    exact⟨rfl,l',t.y⟩
   ·have g:=c.y.len;have D:=aC (BL d o H cap l' q (Hp.par q) w4 (by rw[g];exact c.y.hp) UI UI UI);have S:=aC (r.y.step UI O (Cd.1 C));have s:=aC g;clear r g
    go_wp2_with fail
    refine D.y.mono ?_;rintro e K ⟨rfl,y,x⟩
    have T:Hid (kR w K d o H l.length cap l (Hp.swap l' q (Hp.par q))) :=
     ⟨by rw[<- s.y];exact y,Hp.qU.trans s.y,(Hp.xQ (by rw[s.y];omega) (by rw[s.y];omega)).trans c.y.perm,c.y.off.trans x⟩
    clear y x D c
    go_wp2
    go_roundw
    case rel=>exact⟨Hp.par q,_,rfl,by omega,S.y,T.y⟩
    case measure=>simp[intOf];omega
  ·have P:q=0:=UI
   subst P;have t:=aC (zA ht (m.done (.inl rfl)));clear m ht
   go_wp2
   go_end0
   exact⟨rfl,l',t.y⟩
structure na(l:UV Hp.Hi)(q f b:UY):Prop where
 b0:2*q+1<=b
 b1:b<=2*q+3
 f1:f<l.length
 ff:f=q\/(2*q+1<=f/\f<b/\Hp.ahead (Hp.at_ l f) (Hp.at_ l q))
 no:∀ i,2*q+1<=i->i<b->i<l.length->¬ Hp.ahead (Hp.at_ l i) (Hp.at_ l f)
theorem na.new{l:UV Hp.Hi}(h:q<l.length):na l q q (2*q+1):=⟨by omega,by omega,h,.inl rfl,fun i g c _=>by omega⟩
theorem na.yS{l:UV Hp.Hi}(h:na l q f b)(s:b<=2*q+2)(k:¬ Hp.ahead (Hp.at_ l b) (Hp.at_ l f)):na l q f (b+1):=by
 refine⟨by have:=h.b0;omega,by omega,h.f1,?_,fun i g t c=>?_⟩
 ·rcases h.ff with e|⟨r,x,m⟩
  ·exact .inl e
  ·exact .inr ⟨r,by omega,m⟩
 ·by_cases e:i=b
  ·subst e;exact k
  ·exact h.no i g UI c
theorem na.yes{l:UV Hp.Hi}(h:na l q f b)(r:b<=2*q+2)(c:b<l.length)(k:Hp.ahead (Hp.at_ l b) (Hp.at_ l f)):na l q b (b+1):=by
 have t:=h.b0;refine⟨by omega,by omega,c,.inr ⟨by omega,by omega,?_⟩,fun i m s g=>?_⟩
 ·rcases h.ff with e|⟨z,y,x⟩
  ·rw[<- e];exact k
  ·unfold Hp.ahead at *;omega
 ·by_cases e:i=b
  ·subst e;exact Hp.SH _
  ·have:=h.no i m UI g;unfold Hp.ahead at *;omega
theorem na.all{l:UV Hp.Hi}(h:na l q f b)(k:¬ b<=2*q+2\/¬ b<l.length):∀ i,0<i->i<l.length->Hp.par i=q->¬ Hp.ahead (Hp.at_ l i) (Hp.at_ l f):=by
 intro i m g c;have:=h.b0;unfold Hp.par at c;exact h.no i UI UI g
theorem PM(d o H cap:UY)(l:UV Hp.Hi)(p:UY)(w:U7)(h:HP w d o (.slice (U4 ⟨H,0,U3⟩) l.length cap) l)(hp:p<l.length)(O:Hp.qO l p p)(hl:l.length<=1000):
  Va prog 252 #[.pointer (U4 ⟨d,o,U3⟩),.int .i64 p] w fun e w'=>e=.returned (.tuple #[])/\∃ r,kR w w' d o H l.length cap l r/\Hp.oG r p:=by
 have T0:=aC (kR.new h);have R0:=aC O;clear h O
 go_in
 go_wp2_with fail
 go_loopw [1] (fun v wx=>∃ (q:UY) (r:UV Hp.Hi),v=.int .i64 q/\q<l.length/\Hp.qO r p q/\kR w wx d o H l.length cap l r) (fun v _=>l.length-(intOf v).toNat)
 case atStart=>exact⟨p,l,rfl,hp,R0.y,T0.y⟩
 case round =>
  obtain⟨q,r,rfl,hq,O,ht⟩:=hrel;have K:=aC ht;have I:=aC O;clear O ht;have w1:Vf.wrap (2*(q:UZ))=2*(q:UZ):=cG UI UI;have w2:Vf.wrap (2*(q:UZ)+1)=2*(q:UZ)+1:=cG UI UI;have w3:Vf.wrap (2*(q:UZ)+2)=2*(q:UZ)+2:=cG UI UI
  go_wp2_with fail
  go_loopw [4,5] (fun vf U wx=>∃ f b:UY,vf=.int .i64 f/\U=.int .i64 b/\na r q f b/\kR w wx d o H l.length cap l r) (fun _ U _=>2*q+3-(intOf U).toNat)
  case atStart=>exact⟨q,2*q+1,rfl,by simp,na.new (by rw[K.y.len];exact hq),K.y⟩
  case round =>
   obtain⟨f,b,rfl,rfl,t,ht⟩:=hrel;have k:=ht.len;have hc:=ht.hp.c
   by_cases Q:b<=2*q+2
   ·have b1:(b:UZ)<=2*(q:UZ)+2:=UI
    by_cases aa:b<l.length
    ·have b2:(b:UZ)<(l.length:UZ):=UI
     have fb:=t.f1;have AH:=aC (IP d o _ r b f wr ht.hp UI UI UI);have m:=aC ht;have D:=aC t;have hw:Vf.wrap ((b:UZ)+1)=((b+1:UY):UZ):=by rw[cG UI UI];omega
     clear ht t
     go_wp2_with fail
     refine AH.y.mono ?_;rintro e w4 ⟨rfl,Y⟩;have S:=aC (m.y.later Y);clear AH m Y
     cases Z:tD (Hp.at_ r b) (Hp.at_ r f)
     ·have J:=aC (D.y.yS Q (Im.1 Z));clear D
      go_wp2
      go_roundw
      case rel=>exact⟨f,b+1,rfl,rfl,J.y,S.y⟩
      case measure=>simp[intOf];omega
     ·have J:=aC (D.y.yes Q UI (Cd.1 Z));clear D
      go_wp2
      go_roundw
      case rel=>exact⟨b,b+1,rfl,rfl,J.y,S.y⟩
      case measure=>simp[intOf];omega
    ·have b2:¬ ((b:UZ)<(l.length:UZ)):=UI
     have g:=aC (t.all UI);have x:=t.ff;have s:=t.f1;have V:=I.y.qp;have m:=aC ht;have y:=aC k
     by_cases z:f=q
     ·subst z;have X:=aC (zA ht (I.y.done UI g.y));clear ht t g x s m K I y k
      go_wp2_with fail
      (try simp only[Wq,Exit.then]);refine bodyPost_ret (results_none rfl _ _ _) rfl ?_
      exact⟨rfl,r,X.y⟩
     ·have P:¬ ((f:UZ)=(q:UZ)):=UI
      have W:2*q+1<=f:=UI
      have R:=aC (BL d o H cap r q f wr (by rw[k];exact ht.hp) UI UI UI);have C:Hp.ahead (Hp.at_ r f) (Hp.at_ r q):=by rcases x with e|e;exact absurd e z;exact e.2.2
      have D:=aC (I.y.step (c:=f) UI s (by unfold Hp.par;have:=t.ff;have:=t.b1;omega) C g.y);clear ht t g x C k
      go_wp2_with fail
      refine R.y.mono ?_;rintro e T ⟨rfl,N,M⟩
      have J:Hid (kR w T d o H l.length cap l (Hp.swap r q f)) :=
       ⟨by rw[<- y.y];exact N,Hp.qU.trans y.y,(Hp.xQ (by rw[y.y];omega) s).trans m.y.perm,m.y.off.trans M⟩
      clear N M R m K
      go_wp2
      go_roundw
      case rel=>exact⟨f,_,rfl,by rw[<- y.y];exact s,D.y,J.y⟩
      case measure=>have:=y.y;simp[intOf];omega
   ·have b1:¬ ((b:UZ)<=2*(q:UZ)+2):=UI
    have g:=aC (t.all UI);have x:=t.ff;have s:=t.f1;have V:=I.y.qp;have m:=aC ht;have y:=aC k
    by_cases z:f=q
    ·subst z;have X:=aC (zA ht (I.y.done UI g.y));clear ht t g x s m K I y k
     go_wp2_with fail
     (try simp only[Wq,Exit.then]);refine bodyPost_ret (results_none rfl _ _ _) rfl ?_
     exact⟨rfl,r,X.y⟩
    ·have P:¬ ((f:UZ)=(q:UZ)):=UI
     have W:2*q+1<=f:=UI
     have R:=aC (BL d o H cap r q f wr (by rw[k];exact ht.hp) UI UI UI);have C:Hp.ahead (Hp.at_ r f) (Hp.at_ r q):=by rcases x with e|e;exact absurd e z;exact e.2.2
     have D:=aC (I.y.step (c:=f) UI s (by unfold Hp.par;have:=t.ff;have:=t.b1;omega) C g.y);clear ht t g x C k
     go_wp2_with fail
     refine R.y.mono ?_;rintro e T ⟨rfl,N,M⟩
     have J:Hid (kR w T d o H l.length cap l (Hp.swap r q f)) :=
      ⟨by rw[<- y.y];exact N,Hp.qU.trans y.y,(Hp.xQ (by rw[y.y];omega) s).trans m.y.perm,m.y.off.trans M⟩
     clear N M R m K
     go_wp2
     go_roundw
     case rel=>exact⟨f,_,rfl,by rw[<- y.y];exact s,D.y,J.y⟩
     case measure=>have:=y.y;simp[intOf];omega
namespace aA
structure aM where
 id:UZ
 kind:UZ
 aT:UU
 aH:UZ
 aL:UV (UZ × UZ)
 bY:UZ
def hasB(t:UZ)(s:UZ × UZ):UX:=decide (s.1<=t) && decide (t<s.2)
def cP(L:UV (UZ × UZ))(t:UZ):UZ:=((L.filter (hasB t)).length:UZ)
def bW(a b:UU):UX:=a.toList==b.toList
def cA(name:UU)(e:aM):UX:=bW e.aT name && (e.kind != 3)
def bP(name:UU)(t:UZ):UV aM->UZ
 |[]=>0
 |e :: r=>(if cA name e then cP e.aL t*e.aH else 0)+bP name t r
def eD(name:UU):UV aM->UV UZ
 |[]=>[]
 |e :: r=>(if bW e.aT name then e.aL.map (·.1) else [])++eD name r
theorem pO(L:UV (UZ × UZ))(t:UZ):0<=cP L t/\cP L t<=L.length:=by
 unfold cP;have:=List.length_filter_le (hasB t) L;omega
theorem M1(L:UV (UZ × UZ))(s:UZ × UZ)(t:UZ):cP (L++[s]) t=cP L t+if hasB t s then 1 else 0:=by
 unfold cP;rw[VF,VU]
 cases h:hasB t s <;> simp[h]
theorem yy(name:UU)(t:UZ)(l r:UV aM):bP name t (l++r)=bP name t l+bP name t r:=by
 induction l with
 |nil=>simp[bP]
 |cons e l ih=>simp only[VD,bP,ih];omega
theorem Nq(name:UU)(l r:UV aM):eD name (l++r)=eD name l++eD name r:=by
 induction l with
 |nil=>rfl
 |cons e l ih=>simp only[VD,eD,ih,VP]
structure Small(e:aM):Prop where
 u0:0<=e.aH
 u1:e.aH<=9
 sl:e.aL.length<=100
theorem Eo(name:UU)(t:UZ)(l:UV aM)(h:∀ e∈l,Small e):0<=bP name t l/\bP name t l<=900*l.length:=by
 induction l with
 |nil=>simp[bP]
 |cons e l ih =>
  have i:=ih (fun x g=>h x (by simp[g]));have s:=h e UJ;have b:=pO e.aL t;have u0:=s.u0;have u1:=s.u1;have k:=s.sl;have c:0<=cP e.aL t*e.aH:=V2 b.1 s.u0;have d:cP e.aL t*e.aH<=100*9:=V4 UI s.u1 s.u0 UI;simp only[bP,VV]
  split <;> omega
end aA
def fY(w:U7)(B:UY)(L:UV (UZ × UZ)):Prop:=∀ (i:UY)(h:i<L.length),w.cell? ⟨B,i*2,U3⟩=U4 (.int .i64 L[i].1)/\w.cell? ⟨B,i*2+1,U3⟩=U4 (.int .i64 L[i].2)
theorem fY.off(h:fY w B L)(k:aF G w w')(g:B ∉ G):fY w' B L:=fun i c=>⟨k.cell g (h i c).1,k.cell g (h i c).2⟩
theorem fY.later(h:fY w B L)(k:U9 w.heap.size w w'):fY w' B L:=h.off (G:=[]) (aF.aD k) UJ
structure RE(w:U7)(E i:UY)(e:aA.aM)(B cap:UY):Prop where
 c0:w.cell? ⟨E,i*6,U3⟩=U4 (.int .i64 e.id)
 c1:w.cell? ⟨E,i*6+1,U3⟩=U4 (.int .i64 e.kind)
 c2:w.cell? ⟨E,i*6+2,U3⟩=U4 (.string e.aT)
 c3:w.cell? ⟨E,i*6+3,U3⟩=U4 (.int .i64 e.aH)
 c4:w.cell? ⟨E,i*6+4,U3⟩=U4 (.slice (U4 ⟨B,0,U3⟩) e.aL.length cap)
 c5:w.cell? ⟨E,i*6+5,U3⟩=U4 (.int .i64 e.bY)
 sl:fY w B e.aL
theorem RE.later{e:aA.aM}(h:RE w E i e B cap)(k:U9 w.heap.size w w'):RE w' E i e B cap:=by
 have o:aF [] w w':=aF.aD k;exact⟨o.cell UJ h.c0,o.cell UJ h.c1,o.cell UJ h.c2,o.cell UJ h.c3,o.cell UJ h.c4,o.cell UJ h.c5,h.sl.off o UJ⟩
structure ma(w:U7)(d:UY)(a:UW Vb)(cap E:UY)(es:UV aA.aM):Prop where
 c:w.cell? ⟨d,1,U3⟩=U4 (.slice a es.length cap)
 a:es≠[]->a=U4 ⟨E,0,U3⟩
 r:∀ (i:UY) (h:i<es.length),∃ B cap,RE w E i es[i] B cap
theorem ma.later{es:UV aA.aM}(h:ma w d a cap E es)(k:U9 w.heap.size w w'):ma w' d a cap E es :=
 ⟨(aF.aD (F:=[]) k).cell UJ h.c,h.a,fun i g=>by obtain⟨B,c,r⟩:=h.r i g;exact⟨B,c,r.later k⟩⟩
theorem ma.at{es:UV aA.aM}(h:ma w d a cap E es)(c:i<es.length):a=U4 ⟨E,0,U3⟩:=h.a (by intro e;simp[e] at c)
theorem Er(B cap:UY)(L:UV (UZ × UZ))(t:UZ)(w:U7)(h:fY w B L)(x:L.length<=100000):
  Va prog 241 #[.slice (U4 ⟨B,0,U3⟩) L.length cap,.int .i64 t] w fun e w'=>e=.returned (.int .i64 (aA.cP L t))/\w'=w:=by
 have r:=aC h;clear h
 go_in
 go_wp2_with fail
 go_loop [5,6] (fun n i=>∃ k:UY,k<=L.length/\i=.int .i64 k/\n=.int .i64 (aA.cP (L.take k) t)) (fun _ i=>L.length-(intOf i).toNat)
 case atStart=>exact⟨0,V6 _,rfl,by simp[aA.cP]⟩
 case round =>
  obtain⟨k,y,rfl,rfl⟩:=hrel;have I:=aA.pO (L.take k) t;have D:=Wc k L
  by_cases c:k<L.length
  ·have C:=(r.y k c).1;have z:=(r.y k c).2;have s:(k:UZ)<(L.length:UZ):=UI
   have e:aA.cP (L.take (k+1)) t=aA.cP (L.take k) t+if aA.hasB t L[k] then 1 else 0:=by rw[V5 c,aA.M1]
   have E:=aC e;clear e;generalize aA.cP (L.take k) t=n at *
   by_cases m:L[k].1<=t
   ·by_cases l:t<L[k].2
    ·have g:Hid (aA.hasB t L[k]=U6):=by show aA.hasB t L[k]=U6;simp[aA.hasB,m,l]
     go_wp2
     go_round
     case rel=>exact⟨k+1,by omega,by go_num,by rw[E.y,g.y];rfl⟩
     case measure=>simp[intOf];omega
    ·have g:Hid (aA.hasB t L[k]=U5):=by show aA.hasB t L[k]=U5;simp[aA.hasB,l]
     go_wp2
     go_round
     case rel=>exact⟨k+1,by omega,by go_num,by rw[E.y,g.y];simp⟩
     case measure=>simp[intOf];omega
   ·have g:Hid (aA.hasB t L[k]=U5):=by show aA.hasB t L[k]=U5;simp[aA.hasB,m]
    go_wp2
    go_round
    case rel=>exact⟨k+1,by omega,by go_num,by rw[E.y,g.y];simp⟩
    case measure=>simp[intOf];omega
  ·have e:L.take k=L:=V7 UI;have s:¬ (k:UZ)<(L.length:UZ):=UI
   go_wp2
   go_ret;exact⟨gL (by first|rfl|rw[e]),rfl⟩
theorem Ep(d:UY)(a:UW Vb)(cap E:UY)(es:UV aA.aM)(name:UU)(t:UZ)(w:U7)(h:ma w d a cap E es)(X:es.length<=1000)(M:∀ e∈es,aA.Small e):
  Va prog 242 #[.pointer (U4 ⟨d,0,U3⟩),.string name,.int .i64 t] w fun e w'=>e=.returned (.int .i64 (aA.bP name t es))/\U9 w.heap.size w w':=by
 have H:=aC h;have O:=aC M;clear h M
 go_in
 go_wp2_with fail
 go_loopw [7,8,9,10] (fun n i _ _ wx=>∃ k:UY,k<=es.length/\i=.int .i64 k/\n=.int .i64 (aA.bP name t (es.take k))/\U9 w.heap.size w wx) (fun _ i _ _ _=>es.length-(intOf i).toNat)
 case atStart=>exact⟨0,V6 _,rfl,by simp[aA.bP],Below.refl _ _⟩
 case round =>
  obtain⟨k,Y,rfl,rfl,x⟩:=hrel;have bd:=aA.Eo name t (es.take k) (fun e R=>O.y e (Wb R));have bl:=Wc k es;have D:=H.y.later x;have Z:=D.c
  by_cases m:k<es.length
  ·obtain rfl:=H.y.at m;obtain⟨B,S,s⟩:=D.r k m;have l:=O.y es[k] (zg m);have c0:=s.c0;have c1:=s.c1;have c2:=s.c2;have c3:=s.c3;have c4:=s.c4;have c5:=s.c5;have Q:(k:UZ)<(es.length:UZ):=UI
   have e:aA.bP name t (es.take (k+1))=aA.bP name t (es.take k)+(if aA.cA name es[k] then aA.cP es[k].aL t*es[k].aH else 0):=by
    rw[V5 m,aA.yy];simp[aA.bP]
   have K:=aC e;have tb:=aA.pO es[k].aL t;have u0:=l.u0;have u1:=l.u1;have U:=l.sl;have W:0<=aA.cP es[k].aL t*es[k].aH:=V2 tb.1 u0;have V:aA.cP es[k].aL t*es[k].aH<=900:=by have:aA.cP es[k].aL t*es[k].aH<=100*9:=V4 UI u1 u0 UI;omega
   have RS:=aC s.sl;clear e s D l;generalize aA.bP name t (es.take k)=n at *
   cases y:aA.bW es[k].aT name
   ·have C:Hid (aA.cA name es[k]=U5):=by show aA.cA name es[k]=U5;simp[aA.cA,y]
    have I:(es[k].aT.toList==name.toList)=U5:=y;have z:=aC x;clear x y
    go_wp2
    go_roundw
    case rel=>exact⟨k+1,by omega,by go_num,by rw[K.y,C.y];simp,aZ z.y ((zr _ _).alloc (zq _) _) (zq _)⟩
    case measure=>simp[intOf];omega
   ·have I:(es[k].aT.toList==name.toList)=U6:=y;have z:=aC x
    by_cases g:es[k].kind=3
    ·have J:(es[k].kind != 3)=U5:=by simp[g]
     have C:Hid (aA.cA name es[k]=U5):=by show aA.cA name es[k]=U5;simp[aA.cA,g]
     clear x y g
     go_wp2
     go_roundw
     case rel=>exact⟨k+1,by omega,by go_num,by rw[K.y,C.y];simp,aZ z.y ((zr _ _).alloc (zq _) _) (zq _)⟩
     case measure=>simp[intOf];omega
    ·have J:(es[k].kind != 3)=U6:=by simp[g]
     have C:Hid (aA.cA name es[k]=U6):=by show aA.cA name es[k]=U6;simp[aA.cA,y,g]
     clear x y g;have N:=aC (fun w' (P:U9 wr.heap.size wr w')=>Er B S es[k].aL t w' (RS.y.later P) UI)
     have T:Hid (n+aA.cP es[k].aL t*es[k].aH=n+if aA.cA name es[k] then aA.cP es[k].aL t*es[k].aH else 0):=by
      show n+_=n+_;rw[C.y];rfl
     generalize aA.cP es[k].aL t=q at *
     go_wp2_with fail
     refine (N.y _ ((zr _ _).alloc (zq _) _)).mono ?_;rintro e w' ⟨rfl,rfl⟩;clear N
     go_wp2
     go_roundw
     case rel=>exact⟨k+1,by omega,by go_num,by rw[K.y,<- T.y],aZ z.y ((zr _ _).alloc (zq _) _) (zq _)⟩
     case measure=>simp[intOf];omega
  ·have e:es.take k=es:=V7 UI;have Q:¬ (k:UZ)<(es.length:UZ):=UI
   have z:=aC x;clear x D
   go_wp2
   go_ret;exact⟨gL (by first|rfl|rw[e]),z.y⟩
theorem pB:(prog.info? 3).map (fun i=>(i.zero,i.size,i.bytes))=U4 (U4 (.int .i64 0),1,8):=UO
theorem jE{c size:UY}(h:w.ownsRow c e size v n xs){k:UY}(l:v.ownBlock=U4 k):c<=k:=by
 rcases h.2 with ⟨rfl,_⟩|⟨g,cap,m,rfl,r,_⟩
 ·simp[Wr] at l
 ·simp[Wr] at l;omega
theorem uQ{k c size:UY}(h:w.ownsRow k e size v n xs)(s:c<=k):w.ownsRow c e size v n xs:=by
 refine⟨h.1,?_⟩;rcases h.2 with t|⟨g,cap,l,m,r,rest⟩
 ·exact .inl t
 ·exact .inr ⟨g,cap,l,m,Vg s r,rest⟩
theorem ey{c size:UY}(h:w.ownsRow c e size v n xs)(x:U9 w.heap.size w w'):w'.ownsRow c e size v n xs:=by
 refine⟨h.1,?_⟩;rcases h.2 with y|⟨g,cap,m,s,t,l,rest⟩
 ·exact .inl y
 ·refine .inr ⟨g,cap,m,s,t,?_,rest⟩
  have k:g<w.heap.size:=by
   by_cases r:g<w.heap.size
   ·exact r
   ·rw[Wn UI] at l;cases l
  rw[x.block g k];exact l
theorem cC(w:U7)(o:Obj):(w.alloc o).heap[w.heap.size]?=U4 o:=heap_alloc_new w o
theorem iu{c size:UY}(h:w.ownsRow c e size v n xs){cs:Array U8}{t:TypeId}{m:UY × UY}(s:w.heap[b]?=U4 (.cells cs t m))(k:t≠e):v.ownBlock≠U4 b:=by
 intro l;rcases h.2 with ⟨rfl,_⟩|⟨g,cap,x,rfl,y,r,_⟩
 ·simp[Wr] at l
 ·simp[Wr] at l;subst l;rw[s] at r;simp at r;exact k r.2.1
theorem wN{c:UY}{xs:UV UZ}(h:w.ownsRow c 3 1 v n (xs.map (VT .i64))):∃ a cap g,v=.slice a n cap/\n=xs.length/\(xs≠[]->a=U4 ⟨g,0,U3⟩)/\∀ (i:UY)(k:i<xs.length),w.cell? ⟨g,i,U3⟩=U4 (.int .i64 xs[i]):=by
 have l:=h.1;simp at l;rcases h.2 with ⟨rfl,t⟩|⟨g,cap,m,rfl,x,r,C,z,y,s⟩
 ·subst t;have:xs=[]:=VY.1 l;subst this;exact⟨U3,0,0,rfl,rfl,fun h=>absurd rfl h,fun i k=>by simp at k⟩
 ·refine⟨U4 ⟨g,0,U3⟩,cap,g,rfl,l.symm,fun _=>rfl,fun i k=>?_⟩;have e:(m.toList.take (n*1))[i]?=(xs.map (VT .i64))[i]?:=by rw[s]
  rw[List.getElem?_map,List.getElem?_eq_getElem k,Wh UI] at e;simp only[Array.getElem?_toList,Option.map_some] at e;simp[VA,r,e]
def oZ(e:aA.aM)(B cap:UY):Array U8:=#[.int .i64 e.id,.int .i64 e.kind,.string e.aT,.int .i64 e.aH,.slice (U4 ⟨B,0,U3⟩) e.aL.length cap,.int .i64 e.bY]
def mR(name:UU)(l:UV aA.aM)(e:aA.aM)(j:UY):UV UZ:=aA.eD name l++(e.aL.take j).map (·.1)
theorem Aq(name:UU)(l:UV aA.aM)(h:∀ e∈l,aA.Small e):(aA.eD name l).length<=100*l.length:=by
 induction l with
 |nil=>simp[aA.eD]
 |cons e l ih =>
  have i:=ih (fun x c=>h x (by simp[c]));have s:=(h e UJ).sl;simp only[aA.eD,VU,VV]
  split <;> simp <;> omega
theorem EJ(d:UY)(a:UW Vb)(cap E:UY)(es:UV aA.aM)(name:UU)(w:U7)(h:ma w d a cap E es)(hl:es.length<=1000)(hs:∀ e∈es,aA.Small e):
  Va prog 240 #[.pointer (U4 ⟨d,0,U3⟩),.string name] w fun e w'=>∃ v,e=.returned v/\w'.ownsRow w.heap.size 3 1 v (aA.eD name es).length ((aA.eD name es).map (VT .i64))/\U9 w.heap.size w w':=by
 obtain⟨i0,ae,ac,ab,aa⟩:=info_parts pB;have H:=aC h;have HS:=aC hs;clear h hs
 go_in
 go_wp2_with fail
 go_loopw [5,6,7,8] (fun v i _ _ wx=>∃ k:UY,k<=es.length/\i=.int .i64 k/\wx.ownsRow w.heap.size 3 1 v (aA.eD name (es.take k)).length ((aA.eD name (es.take k)).map (VT .i64))/\U9 w.heap.size w wx) (fun _ i _ _ _=>es.length-(intOf i).toNat)
 case atStart=>exact⟨0,V6 _,rfl,World.ownsRow_nil _ _ _ _,Below.refl _ _⟩
 case round =>
  obtain⟨k,hk,rfl,g,t⟩:=hrel;have bl:=Wc k es;have O:=H.y.later t;have cc:=O.c;have sz:=Aq name (es.take k) (fun e he=>HS.y e (Wb he))
  by_cases z:k<es.length
  ·obtain rfl:=H.y.at z;obtain⟨B,N,J⟩:=H.y.r k z;have K:=J.later t;have P:=HS.y es[k] (zg z);have c0:=K.c0;have c1:=K.c1;have c2:=K.c2;have c3:=K.c3;have c4:=K.c4;have c5:=K.c5;have hi:(k:UZ)<(es.length:UZ):=UI
   have e:aA.eD name (es.take (k+1))=aA.eD name (es.take k)++(if aA.bW es[k].aT name then es[k].aL.map (·.1) else []):=by
    rw[V5 z,aA.Nq];simp[aA.eD]
   have EE:=aC e;have sl:=P.sl;have RS:=aC J.sl;have HB:=aC t;have af:=t.size;have HO:=aC g;clear e K J O P g t
   go_wp2_with fail
   have hX:(wr.alloc (.cells (oZ es[k] B N) 58)).heap[wr.heap.size]?=U4 (.cells (oZ es[k] B N) 58):=cC _ _;have oX:(wr.alloc (.cells (oZ es[k] B N) 58)).ownsRow w.heap.size 3 1 u5 (aA.eD name (es.take k)).length ((aA.eD name (es.take k)).map (VT .i64)):=ey HO.y ((zr _ _).alloc (zq _) _);have bX:U9 w.heap.size w (wr.alloc (.cells (oZ es[k] B N) 58)):=aZ HB.y ((zr _ _).alloc (zq _) _) (zq _);simp only[oZ] at hX oX bX;have W:=aC (zA hX (zA oX bX));clear hX oX bX c0 c1 c2 c3 c4 c5 cc HB HO;generalize (Vz wr _)=X at W ⊢;generalize wr.heap.size=bx at W af ⊢;have Q:∃ q,aA.bW es[k].aT name=q:=⟨_,rfl⟩;obtain⟨q,Q⟩:=Q;have ag:(es[k].aT.toList==name.toList)=q:=Q;have HQ:=aC Q;clear Q
   go_loopw [5,8] (fun v i wx=>∃ j:UY,j<=es[k].aL.length/\(q=U5->j=0)/\i=.int .i64 j/\wx.ownsRow w.heap.size 3 1 v (mR name (es.take k) es[k] j).length ((mR name (es.take k) es[k] j).map (VT .i64))/\U9 w.heap.size w wx/\wx.heap[bx]?=U4 (.cells (oZ es[k] B N) 58)) (fun _ i _=>es[k].aL.length-(intOf i).toNat)
   case atStart=>exact⟨0,V6 _,fun _=>rfl,rfl,by rw[mR];simpa using W.y.2.1,W.y.2.2,W.y.1⟩
   case round =>
    obtain⟨j,hj,y,rfl,g,t,s⟩:=hrel;have b4:wr.cell? ⟨bx,4,U3⟩=U4 (.slice (U4 ⟨B,0,U3⟩) es[k].aL.length N):=by simp[VA,s,oZ]
    have b2:wr.cell? ⟨bx,2,U3⟩=U4 (.string es[k].aT):=by simp[VA,s,oZ]
    have m:=aC (zA g (zA t s));have T:=t.size
    by_cases C:q=U6/\j<es[k].aL.length
    ·obtain⟨rfl,S⟩:=C;have r1:=(RS.y.later t j S).1;have ad:(j:UZ)<(es[k].aL.length:UZ):=UI
     have V:mR name (es.take k) es[k] (j+1)=mR name (es.take k) es[k] j++[es[k].aL[j].1]:=by
      unfold mR;rw[V5 S,We,VP];rfl
     have ES:=aC V
     have ai:(mR name (es.take k) es[k] j).length<=100*k+100:=by
      unfold mR;have:=Wc j es[k].aL;simp only[VU,List.length_map];omega
     have R:=iu g s UK;have Y:=aC R;clear V t s R y
     go_wp2_with (first
      |(at_builtin;refine wpList_append_own _ rfl _ _ 38 rfl w.heap.size 3 i0 (.int .i64 0) 1 8 underlying38 ae ac ab aa rfl UK _ _ _ rfl (g.alloc _) ⟨wr.heap.size,0,U3⟩ 1 1 [.int .i64 es[k].aL[j].1] rfl rfl ?c1 ?c2 ?c3 ?c4 ?c5 ?_))
     case c1=>exact World.news_of_block (cs:=#[.int .i64 es[k].aL[j].1]) (cC wr _)
     case c2=>simp[Value.oneCell']
     case c3=>unfold maxLen;omega
     case c4=>omega
     case c5=>simp;omega
     intro v' w' x l _;have U:U9 w.heap.size w w':=(m.y.2.1.alloc T _).grown l UQ (fun k hk=>jE m.y.1 hk)
     have I:w'.heap[bx]?=U4 (.cells (oZ es[k] B N) 58):=by
      have l1:bx<wr.heap.size:=by
       by_cases O:bx<wr.heap.size
       ·exact O
       ·have:=m.y.2.2;rw[Wn UI] at this;cases this
      rw[l.block bx UQ (fun e=>Y.y e.symm)];exact (Below.heap_alloc wr _ bx l1).trans m.y.2.2
     have HK:Hid (w'.ownsRow w.heap.size 3 1 v' (mR name (es.take k) es[k] (j+1)).length ((mR name (es.take k) es[k] (j+1)).map (VT .i64))):=by
      show w'.ownsRow _ _ _ _ _ _;rw[ES.y,We,VU];exact x
     have Z:=aC (zA U I);clear x l U I g m Y r1 b4 b2
     go_wp2
     go_roundw
     case rel=>exact⟨j+1,by omega,fun e=>(by cases e),by go_num,HK.y,Z.y.1,Z.y.2⟩
     case measure=>simp[intOf];omega
    ·have D:mR name (es.take k) es[k] j=aA.eD name (es.take (k+1)):=by
      rw[EE.y,mR,HQ.y]
      cases q with
      |false=>rw[y rfl];simp
      |true =>
       have:es[k].aL.take j=es[k].aL:=V7 (by have:¬ j<es[k].aL.length:=fun h=>C ⟨rfl,h⟩;omega);rw[this];rfl
     have HK:Hid (wr.ownsRow w.heap.size 3 1 u5 (aA.eD name (es.take (k+1))).length ((aA.eD name (es.take (k+1))).map (VT .i64))):=by
      show wr.ownsRow _ _ _ _ _ _;rw[<- D];exact g
     clear g t s D
     have M:q=U5\/(q=U6/\¬ (j:UZ)<(es[k].aL.length:UZ)):=by
      cases q with
      |false=>exact .inl rfl
      |true=>exact .inr ⟨rfl,fun h=>C ⟨rfl,by omega⟩⟩
     clear C;rcases M with rfl|⟨rfl,ad⟩
     ·obtain rfl:=y rfl;clear y
      by_cases hz:(0:UZ)<(es[k].aL.length:UZ)
      all_goals
       go_wp2
       go_roundw
       case rel=>exact⟨k+1,by omega,by go_num,HK.y,m.y.2.1⟩
       case measure=>simp[intOf];omega
     ·clear y
      go_wp2
      go_roundw
      case rel=>exact⟨k+1,by omega,by go_num,HK.y,m.y.2.1⟩
      case measure=>simp[intOf];omega
  ·have e:es.take k=es:=V7 UI;have hi:¬ (k:UZ)<(es.length:UZ):=UI
   rw[e] at g;have HB:=aC (zA g t);clear t O g
   go_wp2
   go_ret;exact⟨_,rfl,HB.y.1,HB.y.2⟩
end Go.Proofs.YtfigmlfdnickmaaGreatDoor
