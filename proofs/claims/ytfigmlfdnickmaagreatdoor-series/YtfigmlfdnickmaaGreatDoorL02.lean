import Derived.Test.YtfigmlfdnickmaaGreatDoorL01
import Derived.Lib.SmallJoins
import Derived.OwnWalk
import Derived.Deep.AppendLies
import Derived.Deep.CutRange
import Derived.Deep.RegionLaw
set_option maxRecDepth 100000
set_option maxHeartbeats 8000000
open Go.Proofs.Tryz
open _root_ renaming ByteArray->U3,List->U4,Option->U5,Bool->U6,Nat->U7,Int->U8,if_neg->U9,if_pos->Va,absurd->Vb
open Option renaming none->Vc,some->Vd
open Bool renaming false->Ve,true->Vf
open Go renaming World->Vg,Value->Vh,Calls->Vj,Addr->Vk
open Go.RowKit renaming Below->Vi
open List renaming nodup_cons->VD,nodup_append->VI,mem_append->VA,mem_cons->Vz,length_append->V4,length_cons->V5,length->V6,cons_append->VM,length_eq_zero_iff->V8,filter_append->VO,length_nil->V9,take_append_drop->Wa,take_succ_eq_append_getElem->Wf,take_of_length_le->Wh,all_append->Wi,mem_map->Wk,take_sublist->Wm,mem_of_mem_take->Wn,length_take_le->Wp,map_append->Wq,getD->Wr,getElem?_append_left->Ws,getElem?_take_of_lt->Wt,flatMap_cons->Wu,getElem_cons_drop->Wv,flatMap_append->Ww,length_take_of_le->Wx,getElem?_append_right->Wy,set_append_right->WB,length_set->WD,length_filter_le->WG,append_assoc->VY,length_map->WK,drop_eq_getElem_cons->WN,drop_eq_nil_of_le->WQ,mem_cons_of_mem->WU
open Go.World renaming cell?_setCell_same->VE,block_lt_of_cell?->Vq,alloc->VJ,cell?->VK,ownsRow_nil->WJ,news_of_block->WL,frozen?_of_block->WS
open Int renaming mul_add->V7,mul_nonneg->Wb,mul_nonpos_of_nonpos_of_nonneg->Wc,mul_le_mul->We
open Nat renaming zero_le->Wg,lt_of_lt_of_le->Wj,le_trans->Vp,add_sub_cancel_left->Wz
open Go.IntKind renaming i64->Vo
open List.Sublist renaming nodup->VS
open Array renaming getElem?_eq_none->WC,getElem?_toList->WI
open Go.Value renaming int->V3,ownBlock->WH,oneCell'->WM
open Go.Exit renaming inBlock->WE
namespace Go.Proofs.YtfigmlfdnickmaaGreatDoor
variable{name:U3}{given id now:U8}{ts:U4 (U3 × U8)}{L:U4 (U8 × U8)}{A A':U4 U6->U8}{F F' Fl Fr Fs G:U4 U7}{B E H b cap d e eb f i j n o p q tb:U7}{a pl pr u ul us:U5 Vk}{v:Vh}{w w' w2 w4 w5 wx wy:Vg}
open Go.RowKit
def tW(w:Vg)(F:U4 U7)(c:aE.S)(e:Ending)(w':Vg):Prop :=
 ∃ (u:U5 Vk) (F':U4 U7),e=.returned (.pointer u)/\cR w' c (.pointer u) F'/\(∀ k∈F',k∈F\/w.heap.size<=k)/\aF F w w'
theorem cE.yW{x:aE.It}{l r D:aE.S}(h:cE w b x l r pl pr Fl Fr)(C:b ∉ G)(K:∀ y∈Fr,y ∉ G)(I:cR w2 D (.pointer u) F')(s:∀ k∈F',k∈G\/w.heap.size<=k)(m:aF G w w2):
  cE (w2.setCell ⟨b,6,Vc⟩ (.pointer u)) b x D r u pr F' Fr/\(∀ k∈b :: (F'++Fr),k∈b :: (G++Fr)\/w.heap.size<=k)/\aF (b :: (G++Fr)) w (w2.setCell ⟨b,6,Vc⟩ (.pointer u)):=by
 obtain⟨U,N,T,R,Q,P,O,M⟩:=h.parts;have g:=h.lt;refine⟨cE.jU (h.n.off m C) (m.cell C h.c7) I (h.r.off m K) ?_,fun k c=>?_,?_⟩
 ·refine VD.2 ⟨fun e=>?_,VI.2 ⟨I.nodup,M,fun y t z J e=>?_⟩⟩
  ·rcases VA.1 e with e|e
   ·rcases s b e with e|e
    ·exact C e
    ·have:=g b UU;omega
   ·exact N e
  ·subst e;rcases s y t with e|e
   ·exact K y J e
   ·have:=g y (by simp[J]);omega
 ·rcases Vz.1 c with rfl|c
  ·exact .inl UU
  ·rcases VA.1 c with c|c
   ·rcases s k c with e|e
    ·exact .inl (by simp[e])
    ·exact .inr e
   ·exact .inl (by simp[c])
 ·exact (m.mono (by intro y t;simp[t])).setCell (.inl UU) _ _
theorem cE.yV{x:aE.It}{l r D:aE.S}(h:cE w b x l r pl pr Fl Fr)(C:b ∉ G)(J:∀ y∈Fl,y ∉ G)(I:cR w2 D (.pointer u) F')(t:∀ k∈F',k∈G\/w.heap.size<=k)(m:aF G w w2):
  cE (w2.setCell ⟨b,7,Vc⟩ (.pointer u)) b x l D pl u Fl F'/\(∀ k∈b :: (Fl++F'),k∈b :: (Fl++G)\/w.heap.size<=k)/\aF (b :: (Fl++G)) w (w2.setCell ⟨b,7,Vc⟩ (.pointer u)):=by
 obtain⟨M,U,T,R,Q,P,K,O⟩:=h.parts;have g:=h.lt;refine⟨cE.je (h.n.off m C) (m.cell C h.c6) (h.l.off m J) I ?_,fun k c=>?_,?_⟩
 ·refine VD.2 ⟨fun e=>?_,VI.2 ⟨K,I.nodup,fun y s z N e=>?_⟩⟩
  ·rcases VA.1 e with e|e
   ·exact M e
   ·rcases t b e with e|e
    ·exact C e
    ·have:=g b UU;omega
  ·subst e;rcases t y N with e|e
   ·exact J y s e
   ·have:=g y (by simp[s]);omega
 ·rcases Vz.1 c with rfl|c
  ·exact .inl UU
  ·rcases VA.1 c with c|c
   ·exact .inl (by simp[c])
   ·rcases t k c with e|e
    ·exact .inl (by simp[e])
    ·exact .inr e
 ·exact (m.mono (by intro y s;simp[s])).setCell (.inl UU) _ _
theorem size_put(x:aE.It):∀ t:aE.S,aE.size (aE.put x t)<=aE.size t+1
 |.nil=>by
  rw[<- aE.mL,aE.put,aE.nh];simp[aE.bS,aE.size]
 |.node y l r=>by
  have g:=size_put x l;have c:=size_put x r;rw[<- aE.mL] at g c;rw[<- aE.mL,aE.put];have k:=aE.mL l;have h:=aE.mL r
  split
  ·rw[aE.nh];simp only[V4,V5,aE.size];omega
  ·split
   ·rw[aE.nh];simp only[V4,V5,aE.size];omega
   ·rw[aE.nh];simp only[V4,V5,aE.size];omega
theorem O9(x:aE.It):∀ (t:aE.S)(u:U5 Vk)(F:U4 U7)(c:U7)(w:Vg),cR w t (.pointer u) F->cE w c x .nil .nil Vc Vc [] []->c ∉ F->aE.size t<=10000->(∀ z∈aE.bS t,¬ (z.f=x.f/\z.n=x.n)) ->
  Vj prog 220 #[.pointer u,.pointer (Vd ⟨c,0,Vc⟩)] w (tW w (c :: F) (aE.put x t)):=by
 intro t
 induction t with
 |nil =>
  intro u F c w h V _ _ _;obtain⟨hu,rfl⟩:=h
  cases hu
  have P:=aC (sT w c x .nil .nil Vc Vc [] [] V (by simp[aE.ht]) (by simp[aE.ht]));clear V
  go_in
  go_wp2_with fail
  refine P.out.mono ?_;rintro e w2 ⟨u2,F2,rfl,K,J,m⟩;have HK:Hid (tW w [c] (aE.put x .nil) (.returned (.pointer u2)) w2):=⟨u2,F2,rfl,K,fun k N=>.inl (J k N),m⟩;clear K J m P
  go_wp2
  go_ret;exact HK.out
 |node y l r ihl ihr =>
  intro u F c w h V O ac s;have aa:=aC ihl;have Z:=aC ihr;clear ihl ihr;obtain⟨b,pl,pr,Fl,Fr,rfl,rfl,T,_,_⟩:=h.half;have ab:¬ (y.f=x.f/\y.n=x.n):=s y (by simp[aE.bS]);have sl:=size_put x l;have sr:=size_put x r;have hs:aE.size (.node y l r)=1+aE.size l+aE.size r:=rfl
  have W:aE.side x.f x.n y<0\/0<aE.side x.f x.n y:=by
   by_cases a:aE.side x.f x.n y<0
   ·exact .inl a
   ·refine .inr ?_;rw[aE.sL] at a;rw[aE.vO];omega
  have a0:=V.n.c0;have a2:=V.n.c2;have CM:=aC (fun w' k'=>I4 b y x.f x.n w' (T.n.off (G:=[]) k' UU));rcases W with a|a
  ·have ep:aE.put x (.node y l r)=aE.fP y (aE.put x l) r:=by rw[aE.put,Va a]
   rw[ep]
   have PT:Hid (∀ w2,Vi w.heap.size w w2->Vj prog 220 #[.pointer pl,.pointer (Vd ⟨c,0,Vc⟩)] w2 (tW w2 (c :: Fl) (aE.put x l))) :=
    fun w2 U=>aa.out pl Fl c w2 (T.l.later U) (V.same (aF.aD U)) (fun e=>O (by simp[e])) UT (fun z hz=>s z (by simp[aE.bS,hz]))
   have HH:=aC (fun w2 (U:Vi w.heap.size w w2)=>T.same (aF.aD U))
   have C:b ∉ c :: Fl:=by
    simp only[Vz,not_or];exact⟨fun e=>O (by simp[e]),T.parts.1⟩
   have X:∀ y∈Fr,y ∉ c :: Fl:=by
    intro y hy;simp only[Vz,not_or];exact⟨fun e=>O (by simp[<- e,hy]),T.parts.2.2.2.2.1 y hy⟩
   have R:aE.ht (aE.put x l)<=30000:=by have:=aE.lZ (aE.put x l);omega
   have Q:aE.ht r<=30000:=by have:=aE.lZ r;omega
   clear T V aa Z s hs sl sr ab ep
   go_in
   go_upto_region 3 with fail
   go_region_held3 (fun w'=>w'.cell? ⟨c,0,Vc⟩=Vd (.int .i64 x.f)/\w'.cell? ⟨c,2,Vc⟩=Vd (.int .i64 x.n)/\Vi w.heap.size w w')
    (first
     |exact⟨a0,a2,dM _⟩
     |(go_split_ands;exact⟨aN I UW,aN I UW,bA UW I (zq _)⟩))
    (first
     |(go_at_call 263;go_split_ands;refine (CM.out _ (aF.aD UW)).mono ?_;rintro e w2 ⟨rfl,I⟩))
   have Y:Vi w.heap.size w w2:=by go_split_ands;assumption
   have D:=HH.out w2 Y;have c6:=D.c6;have P:=aC Y;have g:=aC D;clear Y D HH CM a0 a2
   go_wp2_with fail
   refine (PT.out _ P.out).mono ?_;rintro e w3 ⟨u3,F3,rfl,K,J,m⟩;obtain⟨m1,m2,m3⟩:=g.out.yW C X K J m;have d6:=m.cell (o:=6) C c6;have f6:=(m.frozen (o:=6) C g.out.n.lt).trans (g.out.n.fz 6);have M:=aC (zA m1 (zA m2 m3));clear m1 m2 m3 K J m c6 PT g
   go_wp2_with fail
   refine (sT _ b y (aE.put x l) r _ _ _ _ M.out.1 R Q).mono ?_;rintro e w4 ⟨u4,F4,rfl,K,J,m⟩
   have HK:Hid (tW w (c :: (b :: (Fl++Fr))) (aE.fP y (aE.put x l) r) (.returned (.pointer u4)) w4):=by
    have z1:=P.out.size;have z2:=M.out.2.1;refine⟨u4,F4,rfl,K,fun k N=>?_,?_⟩
    ·have:=z2 k (J k N);simp only[Vz,VA] at this ⊢
     grind
    ·have o1:aF (c :: (b :: (Fl++Fr))) w _:=(aF.aD P.out).trans (M.out.2.2.mono (by intro k N;simp only[Vz,VA] at N ⊢;grind));refine o1.trans' m (fun k N=>?_);have:=z2 k N;simp only[Vz,VA] at this ⊢
     grind
   clear K J m M P d6 f6
   go_wp2
   go_ret;exact HK.out
  ·have a':¬ aE.side x.f x.n y<0:=UT
   have ep:aE.put x (.node y l r)=aE.fP y l (aE.put x r):=by rw[aE.put,U9 a',Va a]
   rw[ep]
   have PT:Hid (∀ w2,Vi w.heap.size w w2->Vj prog 220 #[.pointer pr,.pointer (Vd ⟨c,0,Vc⟩)] w2 (tW w2 (c :: Fr) (aE.put x r))) :=
    fun w2 U=>Z.out pr Fr c w2 (T.r.later U) (V.same (aF.aD U)) (fun e=>O (by simp[e])) UT (fun z hz=>s z (by simp[aE.bS,hz]))
   have HH:=aC (fun w2 (U:Vi w.heap.size w w2)=>T.same (aF.aD U))
   have C:b ∉ c :: Fr:=by
    simp only[Vz,not_or];exact⟨fun e=>O (by simp[e]),T.parts.2.1⟩
   have X:∀ y∈Fl,y ∉ c :: Fr:=by
    intro y hy;simp only[Vz,not_or];exact⟨fun e=>O (by simp[<- e,hy]),T.parts.2.2.2.2.2.1 y hy⟩
   have R:aE.ht (aE.put x r)<=30000:=by have:=aE.lZ (aE.put x r);omega
   have Q:aE.ht l<=30000:=by have:=aE.lZ l;omega
   clear T V aa Z s hs sl sr ab ep
   go_in
   go_upto_region 3 with fail
   go_region_held3 (fun w'=>w'.cell? ⟨c,0,Vc⟩=Vd (.int .i64 x.f)/\w'.cell? ⟨c,2,Vc⟩=Vd (.int .i64 x.n)/\Vi w.heap.size w w')
    (first
     |exact⟨a0,a2,dM _⟩
     |(go_split_ands;exact⟨aN I UW,aN I UW,bA UW I (zq _)⟩))
    (first
     |(go_at_call 263;go_split_ands;refine (CM.out _ (aF.aD UW)).mono ?_;rintro e w2 ⟨rfl,I⟩))
   have Y:Vi w.heap.size w w2:=by go_split_ands;assumption
   have D:=HH.out w2 Y;have c6:=D.c7;have P:=aC Y;have g:=aC D;clear Y D HH CM a0 a2
   go_wp2_with fail
   refine (PT.out _ P.out).mono ?_;rintro e w3 ⟨u3,F3,rfl,K,J,m⟩;obtain⟨m1,m2,m3⟩:=g.out.yV C X K J m;have d6:=m.cell (o:=7) C c6;have f6:=(m.frozen (o:=7) C g.out.n.lt).trans (g.out.n.fz 7);have M:=aC (zA m1 (zA m2 m3));clear m1 m2 m3 K J m c6 PT g
   go_wp2_with fail
   refine (sT _ b y l (aE.put x r) _ _ _ _ M.out.1 Q R).mono ?_;rintro e w4 ⟨u4,F4,rfl,K,J,m⟩
   have HK:Hid (tW w (c :: (b :: (Fl++Fr))) (aE.fP y l (aE.put x r)) (.returned (.pointer u4)) w4):=by
    have z1:=P.out.size;have z2:=M.out.2.1;refine⟨u4,F4,rfl,K,fun k N=>?_,?_⟩
    ·have:=z2 k (J k N);simp only[Vz,VA] at this ⊢
     grind
    ·have o1:aF (c :: (b :: (Fl++Fr))) w _:=(aF.aD P.out).trans (M.out.2.2.mono (by intro k N;simp only[Vz,VA] at N ⊢;grind));refine o1.trans' m (fun k N=>?_);have:=z2 k N;simp only[Vz,VA] at this ⊢
     grind
   clear K J m M P d6 f6
   go_wp2
   go_ret;exact HK.out
theorem Iw(x:aE.It)(l r:aE.S):aE.size (aE.kQ x l r)=aE.size l+aE.size r:=by
 have:=congrArg V6 (aE.Co x l r);simp only[V5,V4,aE.mL] at this;omega
def AX(w:Vg)(F:U4 U7)(x:aE.It)(g:aE.S)(e:Ending)(w':Vg):Prop :=
 ∃ (c:U7) (u:U5 Vk) (F':U4 U7),e=.returned (.tuple #[.pointer (Vd ⟨c,0,Vc⟩),.pointer u])/\gg w' c x/\cR w' g (.pointer u) F'/\c ∉ F'/\c∈F/\(∀ k∈F',k∈F)/\aF F w w'
theorem Uc:∀ (l:aE.S)(x:aE.It)(r:aE.S)(u:U5 Vk)(F:U4 U7)(w:Vg),cR w (.node x l r) (.pointer u) F->aE.size l<=10000->aE.size r<=10000 ->
  Vj prog 307 #[.pointer u] w (AX w F (aE.nY x l r) (aE.kQ x l r)):=by
 intro l
 induction l with
 |nil =>
  intro x r u F w h _ _;obtain⟨b,pl,pr,Fl,Fr,rfl,rfl,g,_,_⟩:=h.half;obtain⟨hp,rfl⟩:=g.l
  cases hp
  have W:=g.c6;have c7:=g.c7
  have X:Hid (AX w (b :: ([]++Fr)) x r (.returned (.tuple #[.pointer (Vd ⟨b,0,Vc⟩),.pointer pr])) w.drew):=by
   have ho:aF [] w w.drew:=(aF.refl _ _).drew;exact⟨b,pr,Fr,rfl,g.n.off ho UU,g.r.same ho,g.parts.2.1,by simp,fun k t=>by simp[t],(aF.refl _ _).drew⟩
  clear h g
  go_in
  go_wp2_with fail
  go_region_held3 (fun w'=>w'.cell? ⟨b,7,Vc⟩=Vd (.pointer pr)) (exact c7) (fail)
  go_wp2
  go_ret2;exact X.out
 |node y a c ihl _ =>
  intro x r u F w h U T;have IH:=aC ihl;clear ihl;obtain⟨b,pl,pr,Fl,Fr,rfl,rfl,g,_,_⟩:=h.half;have es:aE.size (.node y a c)=1+aE.size a+aE.size c:=rfl;have TK:=aC (IH.out y c pl Fl w g.l UT UT);obtain⟨bl,pa,pb,Fa,Fb,rfl,V,_,_,_⟩:=g.l.half;clear V;have W:=g.c6;have e1:=Iw y a c;have e2:=aE.lZ (aE.kQ y a c);have e3:=aE.lZ r;have g1:aE.ht (aE.kQ y a c)<=30000:=UT
  have g2:aE.ht r<=30000:=UT
  have C:=aC g;have eF:aE.nY x (.node y a c) r=aE.nY y a c:=rfl;have eR:aE.kQ x (.node y a c) r=aE.fP x (aE.kQ y a c) r:=rfl;rw[eF,eR];generalize aE.nY y a c=fx at *;generalize aE.kQ y a c=tx at *;clear h g es e1 e2 e3 IH U T eF eR
  go_in
  go_wp2_with fail
  refine TK.out.mono ?_;rintro e w1 ⟨z,u1,F1,rfl,Z,Y,K,D,J,I⟩;obtain⟨P,m2,O⟩:=C.out.rB Y (fun k t=>.inl (J k t)) I;have d6:=I.cell (o:=6) C.out.parts.1 W;have f6:=(I.frozen (o:=6) C.out.parts.1 C.out.n.lt).trans (C.out.n.fz 6);have m:z≠b:=by rintro rfl;exact C.out.parts.1 D
  have s:z ∉ Fr:=fun e=>C.out.parts.2.2.2.2.1 z e D
  have N:gg (w1.setCell ⟨b,6,Vc⟩ (.pointer u1)) z fx:=Z.off (aF.aY ..) (by simpa using m);have M:=aC (zA P (zA O (zA N (zA K (zA D (zA J (zA m s)))))));clear P m2 O N Z Y K D J I m s TK W
  go_wp2_with fail
  refine (sT _ b x tx r _ _ _ _ M.out.1 g1 g2).mono ?_;rintro e w4 ⟨u4,F4,rfl,k1,R,Q⟩
  have X:Hid (AX w (b :: (Fl++Fr)) fx (aE.fP x tx r) (.returned (.tuple #[.pointer (Vd ⟨z,0,Vc⟩),.pointer u4])) w4):=by
   obtain⟨P,O,N,K,D,J,m,s⟩:=M.out;have hn:z ∉ b :: (F1++Fr):=by simp only[Vz,VA,not_or];exact⟨m,K,s⟩
   refine⟨z,u4,F4,rfl,N.off Q hn,k1,fun e=>hn (R _ e),by simp[D],fun k t=>?_,O.trans' Q (fun k t=>?_)⟩
   ·have:=R k t;simp only[Vz,VA] at this ⊢
    grind
   ·simp only[Vz,VA] at t ⊢
    grind
  clear k1 R Q M d6 f6
  go_wp2
  go_ret2;exact X.out
theorem RM(l:aE.S)(u:U5 Vk)(F:U4 U7)(w:Vg)(h:cR w l (.pointer u) F):
  Vj prog 297 #[.pointer u,.pointer Vc] w (kT w F l):=by
 go_in
 go_wp2
 go_ret;exact⟨u,F,rfl,h,fun _ c=>c,aF.refl _ _⟩
theorem RJ(l r:aE.S)(pl pr:U5 Vk)(Fl Fr:U4 U7)(w:Vg)(U:cR w l (.pointer pl) Fl)(J:cR w r (.pointer pr) Fr)(hd:∀ k∈Fl,k ∉ Fr)(R:aE.size l<=10000)(Q:aE.size r<=10000):
  Vj prog 297 #[.pointer pl,.pointer pr] w (kT w (Fl++Fr) (aE.kP l r)):=by
 cases r with
 |nil =>
  obtain⟨T,rfl⟩:=J
  cases T
  rw[List.append_nil];exact RM l pl Fl w U
 |node y a c =>
  have es:aE.size (.node y a c)=1+aE.size a+aE.size c:=rfl;have TK:=aC (Uc a y c pr Fr w J UT UT);obtain⟨br,pa,pb,Fa,Fb,rfl,V,_,_,_⟩:=J.half;clear V;have e1:=Iw y a c;have e2:=aE.lZ (aE.kQ y a c);have e3:=aE.lZ l;have g1:aE.ht (aE.kQ y a c)<=30000:=UT
  have g2:aE.ht l<=30000:=UT
  have eR:aE.kP l (.node y a c)=aE.fP (aE.nY y a c) l (aE.kQ y a c):=rfl;rw[eR];generalize aE.nY y a c=fx at *;generalize aE.kQ y a c=tx at *;have HL:=aC U;have K:=aC hd;clear U J hd es e1 e2 e3 eR R Q
  go_in
  go_wp2_with fail
  refine TK.out.mono ?_;rintro e X ⟨h,u1,F1,rfl,z,P,O,x,D,N⟩;have t:=HL.out.off N K.out;have s:h ∉ Fl:=fun e=>K.out h e x
  have C:∀ k∈Fl,k ∉ F1:=fun k g e=>K.out k g (D k e)
  obtain⟨y6,d6⟩:=z.c6;obtain⟨y7,d7⟩:=z.c7;have f6:=z.fz 6;have f7:=z.fz 7;have Y:(h :: (Fl++F1)).Nodup:=VD.2 ⟨by simp only[VA,not_or];exact⟨s,O⟩,VI.2 ⟨t.nodup,P.nodup,fun p T q hq e=>C p T (e ▸ hq)⟩⟩
  have W:cE ((X.setCell ⟨h,6,Vc⟩ (.pointer pl)).setCell ⟨h,7,Vc⟩ (.pointer u1)) h fx l tx pl u1 Fl F1 :=
   cE.je (z.tD pl) (zm _ _ _ d6) (t.off (aF.aY ..) (fun k g=>by simp;rintro rfl;exact s g)) (P.off (aF.aY ..) (fun k g=>by simp;rintro rfl;exact O g)) Y
  have I:aF (Fl++Fr) w ((X.setCell ⟨h,6,Vc⟩ (.pointer pl)).setCell ⟨h,7,Vc⟩ (.pointer u1)) :=
   ((N.mono (by intro k g;simp[g])).setCell (.inl (by simp[x])) _ _).setCell (.inl (by simp[x])) _ _
  have M:=aC (zA W (zA I (zA x D)));clear W I z P O x D N Y C s t TK HL K
  go_wp2_with fail
  refine (sT _ h fx l tx _ _ _ _ M.out.1 g2 g1).mono ?_;rintro e w4 ⟨u4,F4,rfl,k1,k2,Z⟩
  have HK:Hid (kT w (Fl++Fr) (aE.fP fx l tx) (.returned (.pointer u4)) w4):=by
   obtain⟨W,I,x,D⟩:=M.out
   have m:∀ k∈h :: (Fl++F1),k∈Fl++Fr:=by
    intro k g;simp only[Vz,VA] at g ⊢
    grind
   exact⟨u4,F4,rfl,k1,fun k g=>m k (k2 k g),I.trans' Z (fun k g=>.inl (m k g))⟩
  clear k1 k2 Z M d6 d7 f6 f7
  go_wp2
  go_ret;exact HK.out
theorem Ty(l r:aE.S):aE.size (aE.kP l r)=aE.size l+aE.size r:=by
 have:=congrArg V6 (aE.Jb l r);simp only[V4,aE.mL] at this;omega
theorem GW(x:aE.It)(l r:aE.S):aE.size (aE.fP x l r)=1+aE.size l+aE.size r:=by
 have:=congrArg V6 (aE.nh x l r);simp only[V4,V5,aE.mL] at this;omega
theorem vU(f n:U8):∀ t:aE.S,aE.size (aE.drop f n t)<=aE.size t
 |.nil=>by simp[aE.drop]
 |.node y l r=>by
  have g:=vU f n l;have c:=vU f n r;rw[aE.drop]
  split
  ·rw[GW];simp only[aE.size];omega
  ·split
   ·rw[GW];simp only[aE.size];omega
   ·rw[Ty];simp only[aE.size];omega
theorem Pk(f n:U8):∀ (t:aE.S)(u:U5 Vk)(F:U4 U7)(w:Vg),cR w t (.pointer u) F->aE.size t<=10000 ->
  Vj prog 280 #[.pointer u,.int .i64 f,.int .i64 n] w (kT w F (aE.drop f n t)):=by
 intro t
 induction t with
 |nil =>
  intro u F w h _;obtain⟨hu,rfl⟩:=h
  cases hu
  go_in
  go_wp2
  go_ret;exact⟨Vc,[],rfl,⟨rfl,rfl⟩,fun _ c=>c,aF.refl _ _⟩
 |node y l r ihl ihr =>
  intro u F w h aa;have T:=aC ihl;have R:=aC ihr;clear ihl ihr;obtain⟨b,pl,pr,Fl,Fr,rfl,rfl,D,_,_⟩:=h.half;have hs:aE.size (.node y l r)=1+aE.size l+aE.size r:=rfl;have sl:=vU f n l;have sr:=vU f n r;have Y:=aC (fun w' k'=>I4 b y f n w' (D.n.off (G:=[]) k' UU));have X:=aC (fun w2 (U:Vi w.heap.size w w2)=>D.same (aF.aD U))
  by_cases a:aE.side f n y<0
  ·have V:aE.drop f n (.node y l r)=aE.fP y (aE.drop f n l) r:=by rw[aE.drop,Va a]
   rw[V];have DR:=aC (fun w2 (U:Vi w.heap.size w w2)=>T.out pl Fl w2 (D.l.later U) UT);have N:b ∉ Fl:=D.parts.1;have K:aE.ht (aE.drop f n l)<=30000:=by have:=aE.lZ (aE.drop f n l);omega
   have J:aE.ht r<=30000:=by have:=aE.lZ r;omega
   clear D h T R hs sl sr V
   go_in
   go_wp2_with fail
   refine (Y.out _ (aF.refl _ _)).mono ?_;rintro e w2 ⟨rfl,I⟩;have z:=X.out w2 I;have Q:=z.c6;have O:=aC I;have m:=aC z;clear I z X Y
   go_wp2_with fail
   refine (DR.out _ O.out).mono ?_;rintro e w3 ⟨u3,F3,rfl,C,x,g⟩;obtain⟨W,Z,P⟩:=m.out.rB C (fun k c=>.inl (x k c)) g;have d6:=g.cell (o:=6) N Q;have f6:=(g.frozen (o:=6) N m.out.n.lt).trans (m.out.n.fz 6);have M:=aC (zA W (zA x P));clear W Z P C x g Q DR m
   go_wp2_with fail
   refine (sT _ b y (aE.drop f n l) r _ _ _ _ M.out.1 K J).mono ?_;rintro e w4 ⟨u4,F4,rfl,C,x,g⟩
   have HK:Hid (kT w (b :: (Fl++Fr)) (aE.fP y (aE.drop f n l) r) (.returned (.pointer u4)) w4):=by
    obtain⟨W,Z,P⟩:=M.out
    have s:∀ k∈b :: (F3++Fr),k∈b :: (Fl++Fr):=by
     intro k c;simp only[Vz,VA] at c ⊢
     grind
    exact⟨u4,F4,rfl,C,fun k c=>s k (x k c),((aF.aD O.out).trans P).trans' g (fun k c=>.inl (s k c))⟩
   clear C x g M O d6 f6
   go_wp2
   go_ret;exact HK.out
  ·by_cases a2:0<aE.side f n y
   ·have V:aE.drop f n (.node y l r)=aE.fP y l (aE.drop f n r):=by rw[aE.drop,U9 a,Va a2]
    rw[V];have DR:=aC (fun w2 (U:Vi w.heap.size w w2)=>R.out pr Fr w2 (D.r.later U) UT);have N:b ∉ Fr:=D.parts.2.1;have K:aE.ht (aE.drop f n r)<=30000:=by have:=aE.lZ (aE.drop f n r);omega
    have J:aE.ht l<=30000:=by have:=aE.lZ l;omega
    clear D h T R hs sl sr V
    go_in
    go_wp2_with fail
    refine (Y.out _ (aF.refl _ _)).mono ?_;rintro e w2 ⟨rfl,I⟩;have z:=X.out w2 I;have Q:=z.c7;have O:=aC I;have m:=aC z;clear I z X Y
    go_wp2_with fail
    refine (DR.out _ O.out).mono ?_;rintro e w3 ⟨u3,F3,rfl,C,x,g⟩;obtain⟨W,Z,P⟩:=m.out.ur C (fun k c=>.inl (x k c)) g;have d6:=g.cell (o:=7) N Q;have f6:=(g.frozen (o:=7) N m.out.n.lt).trans (m.out.n.fz 7);have M:=aC (zA W (zA x P));clear W Z P C x g Q DR m
    go_wp2_with fail
    refine (sT _ b y l (aE.drop f n r) _ _ _ _ M.out.1 J K).mono ?_;rintro e w4 ⟨u4,F4,rfl,C,x,g⟩
    have HK:Hid (kT w (b :: (Fl++Fr)) (aE.fP y l (aE.drop f n r)) (.returned (.pointer u4)) w4):=by
     obtain⟨W,Z,P⟩:=M.out
     have s:∀ k∈b :: (Fl++F3),k∈b :: (Fl++Fr):=by
      intro k c;simp only[Vz,VA] at c ⊢
      grind
     exact⟨u4,F4,rfl,C,fun k c=>s k (x k c),((aF.aD O.out).trans P).trans' g (fun k c=>.inl (s k c))⟩
    clear C x g M O d6 f6
    go_wp2
    go_ret;exact HK.out
   ·have V:aE.drop f n (.node y l r)=aE.kP l r:=by rw[aE.drop,U9 a,U9 a2]
    rw[V];have JN:=aC (fun w2 (U:Vi w.heap.size w w2)=>RJ l r pl pr Fl Fr w2 (D.l.later U) (D.r.later U) D.parts.2.2.2.2.2.1 UT UT)
    have NB:Hid (b ∉ Fl++Fr):=by
     have h1:=D.parts.1;have h2:=D.parts.2.1;show b ∉ Fl++Fr;simp only[VA,not_or];exact⟨h1,h2⟩
    clear D h T R hs sl sr V
    go_in
    go_wp2_with fail
    refine (Y.out _ (aF.refl _ _)).mono ?_;rintro e w2 ⟨rfl,I⟩;have Q:=(X.out w2 I).c6;have c7:=(X.out w2 I).c7;have O:=aC I;clear I Y X
    go_upto_region 4 with fail
    go_region_held3 (fun w'=>w'.cell? ⟨b,6,Vc⟩=Vd (.pointer pl)/\w'.cell? ⟨b,7,Vc⟩=Vd (.pointer pr))
     (first
      |exact⟨Q,c7⟩
      |exact⟨k9,k8⟩)
     (first
      |(go_at_call 297;refine (JN.out _ (bA O.out (dM _) (zq _))).mono ?_;rintro e w3 ⟨u3,F3,rfl,C,x,g⟩;have k9:=g.cell (o:=6) NB.out Q;have k8:=g.cell (o:=7) NB.out c7))
    have HK:Hid (kT w (b :: (Fl++Fr)) (aE.kP l r) (.returned (.pointer u3)) w3) :=
     ⟨u3,F3,rfl,C,fun k c=>by have:=x k c;simp only[Vz];exact .inr this,(aF.aD (F:=b :: (Fl++Fr)) O.out).trans ((aF.refl (b :: (Fl++Fr)) w2).drew.trans (g.mono (fun k c=>by simp only[Vz];exact .inr c)))⟩
    clear C x g k8 k9 O JN Q c7
    go_wp2
    go_ret;exact HK.out
def pR(w:Vg)(tb o:U7)(F:U4 U7)(h:aE.S)(w':Vg):Prop :=
 ∃ (g:U5 Vk) (F':U4 U7),w'.cell? ⟨tb,o,Vc⟩=Vd (.pointer g)/\cR w' h (.pointer g) F'/\(∀ k∈F',k∈F\/w.heap.size<=k)/\aF (tb :: F) w w'/\(∀ c,c≠o->w'.cell? ⟨tb,c,Vc⟩=w.cell? ⟨tb,c,Vc⟩)/\∀ c,w'.frozen? ⟨tb,c,Vc⟩=w.frozen? ⟨tb,c,Vc⟩
theorem G6{F5:U4 U7}{t:aE.S}{u5:U5 Vk}(s:Vi w.heap.size w w4)(l:tb<w.heap.size)(N:tb ∉ F)(r:∀ k∈G,k∈F\/w.heap.size<=k)(M:cR w5 t (.pointer u5) F5)(z:∀ k∈F5,k∈G\/w4.heap.size<=k)(y:aF G w4 w5)(D:w5.cell? ⟨tb,o,Vc⟩=Vd v):pR w tb o F t (w5.setCell ⟨tb,o,Vc⟩ (.pointer u5)):=by
 have P:=s.size;have J:aF [] w w4:=aF.aD s;have c:tb ∉ G:=fun e=>by rcases r tb e with h|h;exact N h;omega
 have m:tb ∉ F5:=fun e=>by rcases z tb e with h|h;exact c h;omega
 have C:w5.heap[tb]?=w.heap[tb]?:=(y.block tb UT c).trans (J.block tb l UU);refine⟨u5,F5,VE _ _ _ D,M.off (aF.aY ..) (fun x g=>by simp;rintro rfl;exact m g),fun k O=>?_,?_,fun K Q=>?_,fun K=>?_⟩
 ·rcases z k O with h|h
  ·exact r k h
  ·exact .inr UT
 ·have I:aF (tb :: F) w w5:=(aF.aD (F:=tb :: F) s).trans' y (fun x g=>by rcases r x g with h|h;exact .inl (by simp[h]);exact .inr h);exact I.setCell (.inl UU) _ _
 ·exact (zS _ _ _ _ UU).trans (zo (w:=w) C)
 ·refine (zF ..).trans ?_;simp only[World.frozen?,C]
theorem Rb(w:Vg)(f t n:U8)(v:U7):cE (w.alloc (.cells #[.int .i64 f,.int .i64 t,.int .i64 n,.pointer (Vd ⟨v,0,Vc⟩),.int .i64 0,.int .i64 0,.pointer Vc,.pointer Vc] 304)) w.heap.size ⟨f,t,n,v⟩ .nil .nil Vc Vc [] [] :=
 ⟨⟨by simp,by simp,by simp,by simp,⟨0,by simp⟩,⟨0,by simp⟩,⟨Vc,by simp⟩,⟨Vc,by simp⟩,fun o=>World.frozen?_alloc_new w _ _ o⟩,by simp,by simp,⟨rfl,rfl⟩,⟨rfl,rfl⟩,by simp⟩
theorem OQ(t:aE.S)(tb o:U7)(u:U5 Vk)(F:U4 U7)(x:aE.It)(w:Vg)(c:w.cell? ⟨tb,o,Vc⟩=Vd (.pointer u))(R:w.frozen? ⟨tb,o,Vc⟩=Ve)(N:tb ∉ F)(h:cR w t (.pointer u) F)(Q:aE.size t<=10000)(l:∀ z∈aE.bS t,¬ (z.f=x.f/\z.n=x.n)):
  Vj prog 159 #[.pointer (Vd ⟨tb,o,Vc⟩),.int .i64 x.f,.int .i64 x.t,.int .i64 x.n,.pointer (Vd ⟨x.v,0,Vc⟩)] w fun e w'=>e=.returned (.tuple #[])/\pR w tb o F (aE.put x t) w':=by
 have m:=Vq _ _ c;have g:=h.lt;have s:Vi w.heap.size w (w.alloc (.cells #[.int .i64 x.f,.int .i64 x.t,.int .i64 x.n,.pointer (Vd ⟨x.v,0,Vc⟩),.int .i64 0,.int .i64 0,.pointer Vc,.pointer Vc] 304)):=(zr _ _).alloc (zq _) _;have O:=aC (O9 x t u F w.heap.size _ (h.later s) (Rb w x.f x.t x.n x.v) (fun e=>by have:=g _ e;omega) Q l);have P:=aC s;have J:=aN s c;have I:(w.alloc (.cells #[.int .i64 x.f,.int .i64 x.t,.int .i64 x.n,.pointer (Vd ⟨x.v,0,Vc⟩),.int .i64 0,.int .i64 0,.pointer Vc,.pointer Vc] 304)).frozen? ⟨tb,o,Vc⟩=Ve:=((aF.aD (F:=[]) s).frozen UU m).trans R;have r:tb ∉ w.heap.size :: F:=by simp only[Vz,not_or];exact⟨by simp at m;omega,N⟩
 have C:=aC (zA J I);have V:Hid (∀ k∈F,k<w.heap.size):=g;clear h s g J I l
 go_in
 go_wp2_with fail
 refine O.out.mono ?_;rintro e w3 ⟨u3,W,rfl,M,K,y⟩;have d:=y.cell r C.out.1;have U:=(y.frozen (o:=o) r (Vq _ _ C.out.1)).trans C.out.2;have T:=aC (G6 P.out m N (fun k D=>by rcases Vz.1 D with rfl|D;exact .inr (zq _);exact .inl D) M K y d);clear M K y C P O
 go_wp2
 go_end0
 exact⟨rfl,T.out⟩
theorem Px(t:aE.S)(tb o:U7)(u:U5 Vk)(F:U4 U7)(f n:U8)(w:Vg)(c:w.cell? ⟨tb,o,Vc⟩=Vd (.pointer u))(C:w.frozen? ⟨tb,o,Vc⟩=Ve)(m:tb ∉ F)(h:cR w t (.pointer u) F)(z:aE.size t<=10000):
  Vj prog 253 #[.pointer (Vd ⟨tb,o,Vc⟩),.int .i64 f,.int .i64 n] w fun e w'=>e=.returned (.tuple #[])/\pR w tb o F (aE.drop f n t) w':=by
 have g:=Vq _ _ c;have y:=aC (Pk f n t u F w h z);clear h
 go_in
 go_wp2_with fail
 refine y.out.mono ?_;rintro e w3 ⟨u3,J,rfl,x,s,l⟩;have d:=l.cell m c;have I:=(l.frozen (o:=o) m g).trans C;have D:=aC (G6 (zr _ _) g m (fun k r=>.inl r) x (fun k r=>.inl (s k r)) l d);clear x s l y
 go_wp2
 go_end0
 exact⟨rfl,D.out⟩
def js(A:U4 U6->U8):aG.T:=aG.canon 20 A 0 1048320
def gA:U4 (U8 × U8)->U4 U6->U8
 |[],_=>0
 |s :: r,p=>aG.gF 0 1048320 s.1 s.2 p+gA r p
def bZ(A:U4 U6->U8)(L:U4 (U8 × U8))(x:U8)(p:U4 U6):U8:=A p+x*gA L p
theorem Iu(L M:U4 (U8 × U8))(p:U4 U6):gA (L++M) p=gA L p+gA M p:=by
 induction L with
 |nil=>simp[gA]
 |cons s r ih=>simp only[VM,gA,ih];omega
theorem vo(L:U4 (U8 × U8))(p:U4 U6):0<=gA L p/\gA L p<=L.length:=by
 induction L with
 |nil=>simp[gA]
 |cons s r ih =>
  have:=aG.AU p 0 1048320 s.1 s.2;simp only[gA,V5];omega
theorem Gk(A:U4 U6->U8)(x:U8):bZ A [] x=A:=by funext p;simp[bZ,gA]
theorem Hs(A:U4 U6->U8)(L:U4 (U8 × U8))(s:U8 × U8)(x:U8):bZ A (L++[s]) x=fun p=>bZ A L x p+x*aG.gF 0 1048320 s.1 s.2 p:=by
 funext p;simp only[bZ,Iu,gA,Int.add_zero,V7];omega
theorem Qe(A:U4 U6->U8)(a b x:U8)(h:a<b):aG.fT 20 (js A) 0 1048320 a b x=js (fun p=>A p+x*aG.gF 0 1048320 a b p) :=
 aG.Sb 20 A 0 1048320 a b x UT UV h
theorem AD{a:U8}{l r:aG.T}(m:-1000000<=a/\a<=1000000)(k:LB l)(h:LB r)(g:-100000000<=a+max (aG.top l) (aG.top r)/\a+max (aG.top l) (aG.top r)<=100000000)(c:-100000000<=a+min (aG.bot l) (aG.bot r)/\a+min (aG.bot l) (aG.bot r)<=100000000):LB (aG.mk a l r):=by
 unfold aG.mk;split
 ·trivial
 ·exact⟨m,g,c,k,h⟩
theorem A5(a:U8)(l r:aG.T):aG.top (aG.mk a l r)=a+max (aG.top l) (aG.top r)/\aG.bot (aG.mk a l r)=a+min (aG.bot l) (aG.bot r):=by
 unfold aG.mk;split
 ·rename_i h
  rw[aG.qU h.2.1,aG.qU h.2.2,h.1];simp[aG.top,aG.bot]
 ·exact⟨rfl,rfl⟩
theorem PC:∀ (n:U7)(A:U4 U6->U8)(c g:U8),(∀ p,0<=A p/\A p<=1000000)->n<=50->LB (aG.canon n A c g)/\(0<=aG.top (aG.canon n A c g)/\aG.top (aG.canon n A c g)<=1000000*(n+1))/\(0<=aG.bot (aG.canon n A c g)/\aG.bot (aG.canon n A c g)<=1000000*(n+1)):=by
 intro n
 induction n with
 |zero =>
  intro A c g h _;have k:=h [];simp only[aG.canon];have e:=A5 (A []) .nil .nil;simp only[aG.top,aG.bot] at e;rw[e.1,e.2];refine⟨AD UT trivial trivial ?_ ?_,?_,?_⟩ <;> simp[aG.top,aG.bot] <;> omega
 |succ n ih =>
  intro A c g h r;have k:=h [];simp only[aG.canon]
  split
  ·have e:=A5 (A []) .nil .nil;simp only[aG.top,aG.bot] at e;rw[e.1,e.2];refine⟨AD UT trivial trivial ?_ ?_,?_,?_⟩ <;> simp[aG.top,aG.bot] <;> omega
  ·obtain⟨m,y,x⟩:=ih (fun p=>A (Ve :: p)) c (aG.aS c g) (fun p=>h _) UT;obtain⟨l,t,s⟩:=ih (fun p=>A (Vf :: p)) (aG.aS c g) g (fun p=>h _) UT;have e:=A5 (A []) (aG.canon n (fun p=>A (Ve :: p)) c (aG.aS c g)) (aG.canon n (fun p=>A (Vf :: p)) (aG.aS c g) g);rw[e.1,e.2];exact⟨AD UT m l UT UT,by omega,by omega⟩
theorem vw(h:∀ p,0<=A p/\A p<=1000000):LB (js A):=(PC 20 A 0 1048320 h UT).1
theorem yb(h:∀ p,0<=A p):aG.Good (js A) 0 1048320:=aG.Sh 20 A 0 1048320 h
def oB(A:U4 U6->U8)(x:U8):U8:=aG.dJ (js A) 0 1048320 x
theorem IM(A:U4 U6->U8)(L:U4 (U8 × U8))(u x:U8)(y:0<=x)(t:x<1048320)(m:∀ s∈L,s.1<s.2):oB (bZ A L u) x=oB A x+u*((L.filter fun s=>decide (s.1<=x) && decide (x<s.2)).length:U8):=by
 have h:∀ (n:U7) (M:U4 (U8 × U8)),M.length=n->(∀ s∈M,s.1<s.2)->oB (bZ A M u) x=oB A x+u*((M.filter fun s=>decide (s.1<=x) && decide (x<s.2)).length:U8):=by
  intro n
  induction n with
  |zero =>
   intro M g _;rw[V8.1 g,Gk];simp
  |succ n ih =>
   intro M g k;obtain⟨K,s,rfl⟩:∃ K s,M=K++[s]:=⟨M.dropLast,M.getLast (by intro e;simp[e] at g),(List.dropLast_concat_getLast _).symm⟩;have r:K.length=n:=by simpa using g
   rw[Hs];have e:=aG.Un 20 (bZ A K u) 0 1048320 s.1 s.2 u x y t UV (k s UU);have C:oB (fun p=>bZ A K u p+u*aG.gF 0 1048320 s.1 s.2 p) x=oB (bZ A K u) x+if s.1<=x/\x<s.2 then u else 0:=e
   rw[C,ih K r (fun z l=>k z (by simp[l])),VO]
   by_cases c:s.1<=x/\x<s.2
   ·rw[Va c];have:([s].filter fun s=>decide (s.1<=x) && decide (x<s.2))=[s]:=by simp[c.1,c.2]
    rw[this];simp only[V4,V5,V9];rw[show ((((K.filter fun s=>decide (s.1<=x) && decide (x<s.2)).length+(0+1):U7)):U8)=((K.filter fun s=>decide (s.1<=x) && decide (x<s.2)).length:U8)+1 from by omega,V7];omega
   ·rw[U9 c];have:([s].filter fun s=>decide (s.1<=x) && decide (x<s.2))=[]:=by simp;omega
    rw[this];simp
 exact h L.length L rfl m
structure TH(w:Vg)(tb:U7)(name:U3)(aH:U8)(A:U4 U6->U8)(T:aE.S)(ul us:U5 Vk)(Fl Fs:U4 U7):Prop where
 c0:w.cell? ⟨tb,0,Vc⟩=Vd (.string name)
 c1:w.cell? ⟨tb,1,Vc⟩=Vd (.int .i64 aH)
 c2:w.cell? ⟨tb,2,Vc⟩=Vd (.pointer ul)
 c3:w.cell? ⟨tb,3,Vc⟩=Vd (.pointer us)
 fz:∀ o,w.frozen? ⟨tb,o,Vc⟩=Ve
 lv:cT w (js A) (.pointer ul) Fl
 sp:cR w T (.pointer us) Fs
 nl:tb ∉ Fl
 ns:tb ∉ Fs
 dj:∀ k∈Fl,k ∉ Fs
theorem TH.lt{aH:U8}{T:aE.S}(h:TH w tb name aH A T ul us Fl Fs):∀ k∈tb :: (Fl++Fs),k<w.heap.size:=by
 intro k c;rcases Vz.1 c with rfl|c
 ·exact Vq _ _ h.c0
 ·rcases VA.1 c with c|c
  ·exact h.lv.lt k c
  ·exact h.sp.lt k c
theorem TH.off{aH:U8}{T:aE.S}(h:TH w tb name aH A T ul us Fl Fs)(k:aF G w w')(l:∀ x∈tb :: (Fl++Fs),x ∉ G):TH w' tb name aH A T ul us Fl Fs:=by
 have c:=l tb UU;exact⟨k.cell c h.c0,k.cell c h.c1,k.cell c h.c2,k.cell c h.c3,fun o=>(k.frozen c (h.lt tb UU)).trans (h.fz o),h.lv.off k (fun x g=>l x (by simp[g])),h.sp.off k (fun x g=>l x (by simp[g])),h.nl,h.ns,h.dj⟩
theorem TH.same{aH:U8}{T:aE.S}(h:TH w tb name aH A T ul us Fl Fs)(k:aF [] w w'):TH w' tb name aH A T ul us Fl Fs:=h.off k UU
theorem TH.added{aH:U8}{T:aE.S}(h:TH w tb name aH A T ul us Fl Fs)(k:sD w tb 2 Fl (js A') w'):∃ r l,TH w' tb name aH A' T r us l Fs/\(∀ k∈l,k∈Fl\/w.heap.size<=k)/\aF (tb :: Fl) w w':=by
 obtain⟨C,F',J,I,t,y,s,D⟩:=k;have c:=h.lt;refine⟨C,F',⟨(s 0 UT).trans h.c0,(s 1 UT).trans h.c1,J,(s 3 UT).trans h.c3,fun o=>(D o).trans (h.fz o),I,h.sp.off y (fun x m=>?_),fun e=>?_,h.ns,fun x m z=>?_⟩,t,y⟩
 ·simp only[Vz,not_or];exact⟨fun e=>h.ns (e ▸ m),fun e=>h.dj x e m⟩
 ·rcases t tb e with g|g
  ·exact h.nl g
  ·have:=c tb UU;omega
 ·rcases t x m with g|g
  ·exact h.dj x g z
  ·have:=c x (by simp[z]);omega
theorem TH.lI{aH:U8}{T z:aE.S}(h:TH w tb name aH A T ul us Fl Fs)(k:pR w tb 3 Fs z w'):∃ r m,TH w' tb name aH A z ul r Fl m/\(∀ k∈m,k∈Fs\/w.heap.size<=k)/\aF (tb :: Fs) w w':=by
 obtain⟨C,F',J,I,t,y,s,D⟩:=k;have g:=h.lt;refine⟨C,F',⟨(s 0 UT).trans h.c0,(s 1 UT).trans h.c1,(s 2 UT).trans h.c2,J,fun o=>(D o).trans (h.fz o),h.lv.off y (fun x c=>?_),I,h.nl,fun e=>?_,fun x c K=>?_⟩,t,y⟩
 ·simp only[Vz,not_or];exact⟨fun e=>h.nl (e ▸ c),fun e=>h.dj x c e⟩
 ·rcases t tb e with l|l
  ·exact h.ns l
  ·have:=g tb UU;omega
 ·rcases t x K with l|l
  ·exact h.dj x c l
  ·have:=g x (by simp[c]);omega
def SL(w:Vg)(B:U7)(L:U4 (U8 × U8)):Prop:=∀ (i:U7)(h:i<L.length),w.cell? ⟨B,i*2,Vc⟩=Vd (.int .i64 L[i].1)/\w.cell? ⟨B,i*2+1,Vc⟩=Vd (.int .i64 L[i].2)
theorem SL.off(h:SL w B L)(k:aF G w w')(g:B ∉ G):SL w' B L:=fun i c=>⟨k.cell g (h i c).1,k.cell g (h i c).2⟩
def ov(L:U4 (U8 × U8)):Prop:=∀ s∈L,0<=s.1/\s.1<s.2/\s.2<=1048320
theorem OR{x:U8}(h:∀ p,0<=A p/\A p<=500000)(s:∀ p,0<=bZ A L x p)(r:-9<=x)(c:x<=9)(y:L.length<=100)(k:U7):∀ p,0<=bZ A (L.take k) x p/\bZ A (L.take k) x p<=1000000:=by
 intro p;have C:=h p;have m:=s p;have e:gA L p=gA (L.take k) p+gA (L.drop k) p:=by rw[<- Iu,Wa]
 have g:=vo (L.take k) p;have t:=vo (L.drop k) p;have z:((L.take k).length:U8)<=100:=by have:=List.length_take_le' k L;omega
 unfold bZ at m ⊢;rw[e,V7] at m;constructor
 ·by_cases l:0<=x
  ·have:=Wb l g.1;omega
  ·have:x*gA (L.drop k) p<=0:=Wc UT t.1;omega
 ·by_cases l:0<=x
  ·have:x*gA (L.take k) p<=9*100:=We c UT g.1 UT;omega
  ·have:x*gA (L.take k) p<=0:=Wc UT g.1;omega
structure tG(w wx:Vg)(tb B:U7)(name:U3)(aH:U8)(A:U4 U6->U8)(T:aE.S)(us:U5 Vk)(Fl Fs:U4 U7)(L:U4 (U8 × U8)):Prop where
 th:∃ (ul:U5 Vk) (Fl':U4 U7),TH wx tb name aH A T ul us Fl' Fs/\∀ k∈Fl',k∈Fl\/w.heap.size<=k
 off:aF (tb :: Fl) w wx
 sl:SL wx B L
 ok:ov L
 nb:B ∉ tb :: Fl
 lt:B<w.heap.size
theorem sD.off{c:aG.T}(h:sD w tb o F c w'):aF (tb :: F) w w':=by
 obtain⟨_,_,_,_,_,h,_⟩:=h;exact h
theorem tG.step{wr X:Vg}{aH:U8}{T:aE.S}{Fl':U4 U7}(h:tG w wr tb B name aH A T us Fl Fs L)(l:aF [] wr X)(z:TH X tb name aH A T ul us Fl' Fs)(m:∀ k∈Fl',k∈Fl\/w.heap.size<=k)(y:sD X tb 2 Fl' (js A') w4):tG w w4 tb B name aH A' T us Fl Fs L:=by
 obtain⟨g,r,x,t,s⟩:=z.added y;have I:=h.off.size;have D:=l.size
 have C:B ∉ tb :: Fl':=by
  intro e;rcases Vz.1 e with e|e
  ·exact h.nb (by simp[e])
  ·rcases m B e with e|e
   ·exact h.nb (by simp[e])
   ·have:=h.lt;omega
 refine⟨⟨g,r,x,fun k c=>?_⟩,(h.off.trans' l UU).trans' s (fun k c=>?_),(h.sl.off l UU).off s C,h.ok,h.nb,h.lt⟩
 ·rcases t k c with e|e
  ·exact m k e
  ·exact .inr UT
 ·rcases Vz.1 c with rfl|c
  ·exact .inl UU
  ·rcases m k c with e|e
   ·exact .inl (by simp[e])
   ·exact .inr e
theorem Rh(tb:U7)(name:U3)(aH:U8)(A:U4 U6->U8)(T:aE.S)(us:U5 Vk)(Fs:U4 U7)(L:U4 (U8 × U8))(x:U8)(k:U7)(s:k<L.length)(g:∀ (k:U7)(p:U4 U6),0<=bZ A (L.take k) x p/\bZ A (L.take k) x p<=1000000)(c:0<=L[k].1/\L[k].1<L[k].2/\L[k].2<=1048320)(r:-9<=x)(m:x<=9)(ul:U5 Vk)(Fl:U4 U7):
  ∀ W,TH W tb name aH (bZ A (L.take k) x) T ul us Fl Fs->Vj prog 219 #[.pointer (Vd ⟨tb,2,Vc⟩),.agg #[.int .i64 L[k].1,.int .i64 L[k].2],.int .i64 x] W fun e w'=>e=.returned (.tuple #[])/\sD W tb 2 Fl (js (bZ A (L.take (k+1)) x)) w':=by
 intro W h
 have e:bZ A (L.take (k+1)) x=fun p=>bZ A (L.take k) x p+x*aG.gF 0 1048320 L[k].1 L[k].2 p:=by
  rw[Wf s,Hs]
 have l:aG.fT 20 (js (bZ A (L.take k) x)) 0 1048320 L[k].1 L[k].2 x=js (bZ A (L.take (k+1)) x):=by rw[e];exact Qe _ _ _ _ c.2.1
 rw[<- l];exact OP _ tb 2 ul Fl _ _ x W h.c2 (h.fz 2) h.nl h.lv c.2.1 UT UT (vw (g k)) (by rw[l];exact vw (g (k+1)))
theorem P4(w:Vg)(tb B cap:U7)(name:U3)(aH:U8)(A:U4 U6->U8)(T:aE.S)(ul us:U5 Vk)(Fl Fs:U4 U7)(L:U4 (U8 × U8))(x:U8)(h:TH w tb name aH A T ul us Fl Fs)(U:SL w B L)(C:ov L)(W:B ∉ tb :: Fl)(hB:B<w.heap.size)(g:∀ p,0<=A p/\A p<=500000)(I:∀ p,0<=bZ A L x p)(z:-9<=x)(y:x<=9)(hL:L.length<=100):
  Vj prog 157 #[.pointer (Vd ⟨tb,0,Vc⟩),.slice (Vd ⟨B,0,Vc⟩) L.length cap,.int .i64 x] w fun e w'=>e=.returned (.tuple #[])/\(∃ O Fl',TH w' tb name aH (bZ A L x) T O us Fl' Fs/\∀ k∈Fl',k∈Fl\/w.heap.size<=k)/\aF (tb :: Fl) w w':=by
 have P:=aC (OR g I z y hL);have h0:tG w w tb B name aH (bZ A (L.take 0) x) T us Fl Fs L:=⟨⟨ul,Fl,by rw[List.take_zero,Gk];exact h,fun k V=>.inl V⟩,aF.refl _ _,U,C,W,hB⟩;have H0:=aC h0;clear h U C W g I h0 ul
 go_in
 go_wp2_with fail
 go_loopw [7,10] (fun _ i wx=>∃ k:U7,k<=L.length/\i=.int .i64 k/\tG w wx tb B name aH (bZ A (L.take k) x) T us Fl Fs L) (fun _ i _=>L.length-(intOf i).toNat)
 case atStart=>exact⟨0,Wg _,rfl,H0.out⟩
 case round =>
  obtain⟨k,V,rfl,g⟩:=hrel
  by_cases m:k<L.length
  ·have c:=g.sl k m;have r:=aC g;obtain⟨c1,c2⟩:=c;clear g;have hi:(k:U8)<(L.length:U8):=UT
   obtain⟨ul,Fl',Z,l⟩:=r.out.th;have CA:=aC (Rh tb name aH A T us Fs L x k m P.out (r.out.ok L[k] (zg m)) z y ul Fl');have M:=aC Z;have HS:=aC l;clear Z l
   go_upto_region 3 with fail
   have Y:aF [] wr (wr.alloc (.cells #[.int .i64 L[k].1,.int .i64 L[k].2] 60)):=(aF.refl _ _).alloc _;have t:(wr.alloc (.cells #[.int .i64 L[k].1,.int .i64 L[k].2] 60)).cell? ⟨wr.heap.size,0,Vc⟩=Vd (.int .i64 L[k].1):=UU
   have s:(wr.alloc (.cells #[.int .i64 L[k].1,.int .i64 L[k].2] 60)).cell? ⟨wr.heap.size,1,Vc⟩=Vd (.int .i64 L[k].2):=UU
   have J:=aC Y;have D:wr.heap.size ∉ tb :: Fl':=fun e=>by have:=M.out.lt wr.heap.size (by simp only[Vz,VA] at e ⊢;grind);omega
   have N:=aC D;clear Y D c1 c2;generalize (VJ wr (.cells #[.int .i64 L[k].1,.int .i64 L[k].2] 60))=X at t s J ⊢;generalize wr.heap.size=bx at t s N ⊢
   go_region_held3 (fun w'=>w'.cell? ⟨bx,0,Vc⟩=Vd (.int .i64 L[k].1)/\w'.cell? ⟨bx,1,Vc⟩=Vd (.int .i64 L[k].2))
    (first
     |exact⟨t,s⟩
     |exact⟨R,Q⟩)
    (first
     |(go_at_call 219;refine (CA.out _ (M.out.same (J.out.drew))).mono ?_;rintro e w4 ⟨rfl,K⟩;have R:=K.off.cell (o:=0) N.out t;have Q:=K.off.cell (o:=1) N.out s))
   have HK:Hid (tG w w4 tb B name aH (bZ A (L.take (k+1)) x) T us Fl Fs L):=r.out.step (J.out.drew) (M.out.same J.out.drew) HS.out K;clear r M HS CA J N R Q t s K
   go_wp2
   go_roundw
   case rel=>exact⟨k+1,by omega,by go_num,HK.out⟩
   case measure=>simp[intOf];omega
  ·have e:L.take k=L:=Wh UT;rw[e] at g;have r:=aC g;clear g;have hi:¬ (k:U8)<(L.length:U8):=UT
   go_wp2
   go_end0
   exact⟨rfl,r.out.th,r.out.off⟩
def sq(A:U4 U6->U8)(s:U8 × U8):U8:=aG.fC (js A) 0 1048320 s.1 s.2
def ky(A:U4 U6->U8)(aH:U8)(L:U4 (U8 × U8)):U6:=L.all fun s=>decide (sq A s<=aH)
theorem BB{s:U8 × U8}(l:∀ p,0<=A p)(z:0<=s.1)(m:s.1<s.2)(y:s.2<=1048320):(∀ x,s.1<=x->x<s.2->oB A x<=sq A s)/\∃ x,s.1<=x/\x<s.2/\oB A x=sq A s:=by
 obtain⟨_,k,x,t,r,h,g,c⟩:=aG.GP (js A) 0 1048320 s.1 s.2 UT m (yb l) (aG.mb.2 UT);exact⟨fun x a b=>k x UT UT a b,x,h,g,c⟩
theorem Hb(w:Vg)(tb B cap:U7)(name:U3)(aH:U8)(A:U4 U6->U8)(T:aE.S)(ul us:U5 Vk)(Fl Fs:U4 U7)(L:U4 (U8 × U8))(h:TH w tb name aH A T ul us Fl Fs)(M:SL w B L)(g:ov L)(I:∀ p,0<=A p/\A p<=1000000)(hL:L.length<=100):
  Vj prog 158 #[.pointer (Vd ⟨tb,0,Vc⟩),.slice (Vd ⟨B,0,Vc⟩) L.length cap] w fun e w'=>e=.returned (.bool (ky A aH L))/\Vi w.heap.size w w':=by
 have Z:=aC (fun (W:Vg) (k:Vi w.heap.size w W) (s:U8 × U8) (h1:s.1<s.2)=>Gi (js A) tb 2 ul Fl s.1 s.2 W (aN k h.c2) (h.lv.later k) (vw I) (yb (fun p=>(I p).1)) h1);have Q:=aC M;have HO:=aC g;have cu:=h.c1;clear h M g I
 go_in
 go_wp2_with fail
 go_loopw [6,9] (fun _ i wx=>∃ k:U7,k<=L.length/\i=.int .i64 k/\ky A aH (L.take k)=Vf/\Vi w.heap.size w wx) (fun _ i _=>L.length-(intOf i).toNat)
 case atStart=>exact⟨0,Wg _,rfl,by simp[ky],Below.refl _ _⟩
 case round =>
  obtain⟨k,hk,rfl,N,r⟩:=hrel;have J:=aC N;clear N
  by_cases l:k<L.length
  ·have c1:=aN r (Q.out k l).1;have c2:=aN r (Q.out k l).2;have t:=aN r cu;have hi:(k:U8)<(L.length:U8):=UT
   have U:=aC r;clear r
   have O:ky A aH (L.take (k+1))=(ky A aH (L.take k) && decide (sq A L[k]<=aH)):=by
    unfold ky;rw[Wf l,Wi];simp
   have V:=aC O;have g:=HO.out L[k] (zg l);clear O
   go_upto_region 4 with fail
   have D:Vi wr.heap.size wr (wr.alloc (.cells #[.int .i64 L[k].1,.int .i64 L[k].2] 60)):=(zr _ _).alloc (zq _) _;have y:(wr.alloc (.cells #[.int .i64 L[k].1,.int .i64 L[k].2] 60)).cell? ⟨wr.heap.size,0,Vc⟩=Vd (.int .i64 L[k].1):=UU
   have x:(wr.alloc (.cells #[.int .i64 L[k].1,.int .i64 L[k].2] 60)).cell? ⟨wr.heap.size,1,Vc⟩=Vd (.int .i64 L[k].2):=UU
   have C:=aN D t;have z:=aC (bA U.out D (zq _));clear D c1 c2 t;generalize (VJ wr (.cells #[.int .i64 L[k].1,.int .i64 L[k].2] 60))=X at y x C z ⊢;generalize wr.heap.size=bx at y x ⊢;have K:=aC (fun W k'=>Z.out W k' L[k] g.2.1);generalize P:aG.fC (js A) 0 1048320 L[k].1 L[k].2=m at K;have Y:Hid (sq A L[k]=m):=P;clear P
   by_cases hc:m<=aH
   all_goals
    go_region_held3 (fun w'=>w'.cell? ⟨bx,0,Vc⟩=Vd (.int .i64 L[k].1)/\w'.cell? ⟨bx,1,Vc⟩=Vd (.int .i64 L[k].2)/\w'.cell? ⟨tb,1,Vc⟩=Vd (.int .i64 aH)/\Vi X.heap.size X w')
     (first
      |exact⟨y,x,C,dM _⟩
      |(go_split_ands;exact⟨aN c UW,aN c UW,aN c UW,bA UW c (zq _)⟩))
     (first
      |(go_at_call 153;go_split_ands;refine (K.out _ (bA z.out UW (zq _))).mono ?_;rintro e w4 ⟨rfl,c⟩))
    have R:=aC (bA z.out (by go_split_ands;assumption:Vi X.heap.size X w4) (zq _));clear Z K z U y x C c
    go_wp2
   ·go_roundw
    case rel=>exact⟨k+1,by omega,by go_num,by rw[V.out,J.out,Y.out];simpa using hc,R.out⟩
    case measure=>simp[intOf];omega
   ·go_ret;refine⟨n9 ?_,R.out⟩;have:ky A aH L=(ky A aH (L.take (k+1)) && ky A aH (L.drop (k+1))):=by unfold ky;rw[<- Wi,Wa]
    rw[this,V.out,J.out,Y.out];have hd:decide (m<=aH)=Ve:=decide_eq_false UT;rw[hd];rfl
  ·have e:L.take k=L:=Wh UT;have hi:¬ (k:U8)<(L.length:U8):=UT
   go_wp2
   go_ret;exact⟨n9 (by rw[<- e];exact J.out.symm),r⟩
structure gP(w:Vg)(eb:U7)(id:U8)(tb:U7)(aH:U8)(B cap:U7)(L:U4 (U8 × U8)):Prop where
 c0:w.cell? ⟨eb,0,Vc⟩=Vd (.int .i64 id)
 c1:w.cell? ⟨eb,2,Vc⟩=Vd (.pointer (Vd ⟨tb,0,Vc⟩))
 c2:w.cell? ⟨eb,3,Vc⟩=Vd (.int .i64 aH)
 c3:w.cell? ⟨eb,4,Vc⟩=Vd (.slice (Vd ⟨B,0,Vc⟩) L.length cap)
 sl:SL w B L
 lt:B<w.heap.size
theorem gP.off{aH:U8}(h:gP w eb id tb aH B cap L)(k:aF G w w')(c:eb ∉ G)(g:B ∉ G):gP w' eb id tb aH B cap L :=
 ⟨k.cell c h.c0,k.cell c h.c1,k.cell c h.c2,k.cell c h.c3,h.sl.off k g,Wj h.lt k.size⟩
structure fG(w wx:Vg)(tb:U7)(name:U3)(aH:U8)(A:U4 U6->U8)(T:aE.S)(F:U4 U7):Prop where
 th:∃ (ul us:U5 Vk) (Fl Fs:U4 U7),TH wx tb name aH A T ul us Fl Fs/\∀ k∈Fl++Fs,k∈F\/w.heap.size<=k
 off:aF (tb :: F) w wx
theorem fG.later{aH:U8}{T:aE.S}(h:fG w wx tb name aH A T F)(k:aF [] wx wy):fG w wy tb name aH A T F:=by
 obtain⟨ul,us,Fl,Fs,g,c⟩:=h.th;exact⟨⟨ul,us,Fl,Fs,g.same k,c⟩,h.off.trans' k UU⟩
theorem fG.ss{aH:U8}{T:aE.S}(h:fG w wx tb name aH A T F)(m:∀ k∈Fl++Fs,k∈F\/w.heap.size<=k)(k:∃ l g,TH wy tb name aH A' T l us g Fs/\∀ k∈g,k∈Fl\/wx.heap.size<=k)(t:aF (tb :: Fl) wx wy):fG w wy tb name aH A' T F:=by
 obtain⟨l,g,s,r⟩:=k;have z:=h.off.size;refine⟨⟨l,us,g,Fs,s,fun k c=>?_⟩,h.off.trans' t (fun k c=>?_)⟩
 ·rcases VA.1 c with c|c
  ·rcases r k c with e|e
   ·exact m k (by simp[e])
   ·exact .inr UT
  ·exact m k (by simp[c])
 ·rcases Vz.1 c with rfl|c
  ·exact .inl UU
  ·rcases m k (by simp[c]) with e|e
   ·exact .inl (by simp[e])
   ·exact .inr e
theorem fG.lI{aH:U8}{T r:aE.S}(h:fG w wx tb name aH A T F)(y:TH wx tb name aH A T ul us Fl Fs)(l:∀ k∈Fl++Fs,k∈F\/w.heap.size<=k)(k:pR wx tb 3 Fs r wy):fG w wy tb name aH A r F:=by
 obtain⟨g,m,x,t,s⟩:=y.lI k;have z:=h.off.size;refine⟨⟨ul,g,Fl,m,x,fun k c=>?_⟩,h.off.trans' s (fun k c=>?_)⟩
 ·rcases VA.1 c with c|c
  ·exact l k (by simp[c])
  ·rcases t k c with e|e
   ·exact l k (by simp[e])
   ·exact .inr UT
 ·rcases Vz.1 c with rfl|c
  ·exact .inl UU
  ·rcases l k (by simp[c]) with e|e
   ·exact .inl (by simp[e])
   ·exact .inr e
def jF(id:U8)(eb:U7)(s:U8 × U8):aE.It:=⟨s.1,s.2,id,eb⟩
def gk(id:U8)(eb:U7):aE.S->U4 (U8 × U8)->aE.S
 |T,[]=>T
 |T,s :: r=>gk id eb (aE.put (jF id eb s) T) r
def jw(id:U8):aE.S->U4 (U8 × U8)->aE.S
 |T,[]=>T
 |T,s :: r=>jw id (aE.drop s.1 id T) r
theorem Ig(id:U8)(eb:U7)(s:U8 × U8):∀ (L:U4 (U8 × U8))(T:aE.S),gk id eb T (L++[s])=aE.put (jF id eb s) (gk id eb T L)
 |[],T=>rfl
 |t :: L,T=>by simp only[VM,gk];exact Ig id eb s L _
theorem IC(id:U8)(s:U8 × U8):∀ (L:U4 (U8 × U8))(T:aE.S),jw id T (L++[s])=aE.drop s.1 id (jw id T L)
 |[],T=>rfl
 |t :: L,T=>by simp only[VM,jw];exact IC id s L _
def Fh(id:U8)(eb:U7):U4 aE.It->U4 (U8 × U8)->U4 aE.It
 |l,[]=>l
 |l,s :: r=>Fh id eb (aE.ins (jF id eb s) l) r
theorem Bg(id:U8)(eb:U7):∀ (L:U4 (U8 × U8))(T:aE.S),aE.Ord (aE.bS T)->(∀ z∈aE.bS T,z.n=id->∀ s∈L,z.f≠s.1)->(L.map (·.1)).Nodup ->
  aE.Ord (aE.bS (gk id eb T L))/\aE.bS (gk id eb T L)=Fh id eb (aE.bS T) L/\(∀ z,z∈aE.bS (gk id eb T L)↔z∈aE.bS T\/∃ s∈L,z=jF id eb s)/\aE.size (gk id eb T L)=aE.size T+L.length
 |[],T,h,_,_=>⟨h,rfl,fun z=>by simp[gk],by simp[gk]⟩
 |s :: r,T,h,hn,hd=>by
  have l:∀ z∈aE.bS T,¬ (z.f=(jF id eb s).f/\z.n=(jF id eb s).n):=fun z c e=>hn z c e.2 s UU e.1
  have g:=aE.BS (jF id eb s) T h l;have m:aE.Ord (aE.bS (aE.put (jF id eb s) T)):=by rw[g];exact aE.Ga h l
  simp only[List.map_cons,VD] at hd
  have k:∀ z∈aE.bS (aE.put (jF id eb s) T),z.n=id->∀ t∈r,z.f≠t.1:=by
   intro z c I t ht;rw[g,aE.xP] at c;rcases c with rfl|c
   ·intro e;exact hd.1 (Wk.2 ⟨t,ht,e.symm⟩)
   ·exact hn z c I t (by simp[ht])
  obtain⟨D,C,y,x⟩:=Bg id eb r _ m k hd.2;refine⟨D,by rw[gk,C,g];rfl,fun z=>?_,?_⟩
  ·rw[gk,y,g,aE.xP];constructor
   ·rintro ((h|h)|⟨t,ht,h⟩)
    ·exact .inr ⟨s,by simp,h⟩
    ·exact .inl h
    ·exact .inr ⟨t,by simp[ht],h⟩
   ·rintro (h|⟨t,ht,h⟩)
    ·exact .inl (.inr h)
    ·rcases Vz.1 ht with rfl|ht
     ·exact .inl (.inl h)
     ·exact .inr ⟨t,ht,h⟩
  ·rw[gk,x,<- aE.mL,<- aE.mL,g,aE.IL,V5];omega
theorem Bt(id:U8):∀ (L:U4 (U8 × U8))(T:aE.S),aE.Ord (aE.bS T) ->
  aE.Ord (aE.bS (jw id T L))/\aE.bS (jw id T L)=(aE.bS T).filter (fun z=>L.all fun s=>aE.mZ s.1 id z)/\aE.size (jw id T L)<=aE.size T
 |[],T,h=>⟨h,(List.filter_eq_self.2 (fun _ _=>rfl)).symm,Nat.le_refl _⟩
 |s :: r,T,h=>by
  have c:=aE.Cn s.1 id T h;have g:aE.Ord (aE.bS (aE.drop s.1 id T)):=by rw[c];exact aE.IR _ h
  obtain⟨m,l,k⟩:=Bt id r _ g;refine⟨m,?_,Vp k (vU _ _ _)⟩;rw[jw,l,c,List.filter_filter]
  congr 1
  funext z
  simp only[List.all_cons];exact Bool.and_comm _ _
theorem Hr(A:U4 U6->U8)(L:U4 (U8 × U8))(u:U8):bZ (bZ A L u) L (-u)=A:=by
 funext p;unfold bZ;rw[Int.neg_mul];omega
structure xj(w:Vg)(tb eb B cap:U7)(name:U3)(aH:U8)(A:U4 U6->U8)(T:aE.S)(F:U4 U7)(id u:U8)(L:U4 (U8 × U8)):Prop where
 th:∃ (ul us:U5 Vk) (Fl Fs:U4 U7),TH w tb name aH A T ul us Fl Fs/\∀ k∈Fl++Fs,k∈F
 en:gP w eb id tb u B cap L
 ne:eb ∉ tb :: F
 nb:B ∉ tb :: F
 ok:ov L
 bd:∀ p,0<=A p/\A p<=400000
 u1:1<=u
 u2:u<=9
 ll:L.length<=100
structure N3(w wx:Vg)(tb eb B cap:U7)(name:U3)(aH:U8)(A:U4 U6->U8)(T:aE.S)(F:U4 U7)(id u:U8)(L:U4 (U8 × U8)):Prop where
 now:fG w wx tb name aH A T F
 en:gP wx eb id tb u B cap L
theorem fG.pair{aH:U8}{T:aE.S}{u:U8}(h:fG w wx tb name aH A T F)(c:gP w eb id tb u B cap L)(k:eb ∉ tb :: F)(g:B ∉ tb :: F):N3 w wx tb eb B cap name aH A T F id u L:=⟨h,c.off h.off k g⟩
theorem Fw{u:U8}(h:∀ p,0<=A p/\A p<=400000)(u1:1<=u)(u2:u<=9)(g:L.length<=100):∀ p,0<=bZ A L u p/\bZ A L u p<=500000:=by
 intro p;have a:=h p;have b:=vo L p;have c:0<=u*gA L p:=Wb UT b.1;have d:u*gA L p<=9*100:=We u2 UT b.1 UT;unfold bZ;omega
theorem xL(w:Vg)(tb eb B cap:U7)(name:U3)(aH:U8)(A C:U4 U6->U8)(T:aE.S)(F:U4 U7)(id u x:U8)(L:U4 (U8 × U8))(y:gP w eb id tb u B cap L)(l:eb ∉ tb :: F)(c:B ∉ tb :: F)(k:ov L)(K:∀ p,0<=A p/\A p<=500000)(r:∀ p,0<=bZ A L x p)(h:-9<=x)(g:x<=9)(J:L.length<=100)(N:bZ A L x=C)(wx:Vg)(m:fG w wx tb name aH A T F):
  Vj prog 157 #[.pointer (Vd ⟨tb,0,Vc⟩),.slice (Vd ⟨B,0,Vc⟩) L.length cap,.int .i64 x] wx fun e w'=>e=.returned (.tuple #[])/\fG w w' tb name aH C T F:=by
 obtain⟨ul,us,Fl,Fs,M,z⟩:=m.th;have t:=m.pair y l c
 have I:B ∉ tb :: Fl:=by
  intro e;rcases Vz.1 e with e|e
  ·exact c (by simp[e])
  ·rcases z B (by simp[e]) with e|e
   ·exact c (by simp[e])
   ·have:=y.lt;omega
 refine (P4 wx tb B cap name aH A T ul us Fl Fs L x M t.en.sl k I t.en.lt K r h g J).mono ?_;rintro e w' ⟨rfl,s,D⟩;rw[N] at s;exact⟨rfl,m.ss z s D⟩
theorem OV(w:Vg)(tb eb B cap:U7)(name:U3)(aH:U8)(A:U4 U6->U8)(T:aE.S)(F:U4 U7)(id u:U8)(L:U4 (U8 × U8))(h:xj w tb eb B cap name aH A T F id u L)(m:ky (bZ A L u) aH L=Ve):
  Vj prog 104 #[.pointer (Vd ⟨tb,0,Vc⟩),.pointer (Vd ⟨eb,0,Vc⟩)] w fun e w'=>e=.returned (.bool Ve)/\fG w w' tb name aH A T F:=by
 have c:=Fw h.bd h.u1 h.u2 h.ll;have Q:=aC (xL w tb eb B cap name aH A (bZ A L u) T F id u u L h.en h.ne h.nb h.ok (fun p=>⟨(h.bd p).1,by have:=(h.bd p).2;omega⟩) (fun p=>(c p).1) (by have:=h.u1;omega) h.u2 h.ll rfl);have O:=aC (xL w tb eb B cap name aH (bZ A L u) A T F id u (-u) L h.en h.ne h.nb h.ok c (fun p=>by rw[Hr];exact (h.bd p).1) (by have:=h.u2;omega) (by have:=h.u1;omega) h.ll (Hr A L u))
 have N:Hid (∀ wx,fG w wx tb name aH (bZ A L u) T F->Vj prog 158 #[.pointer (Vd ⟨tb,0,Vc⟩),.slice (Vd ⟨B,0,Vc⟩) L.length cap] wx fun e w'=>e=.returned (.bool Ve)/\fG w w' tb name aH (bZ A L u) T F):=by
  intro wx l;obtain⟨ul,us,Fl,Fs,t,y⟩:=l.th;refine (Hb wx tb B cap name aH _ T ul us Fl Fs L t (l.pair h.en h.ne h.nb).en.sl h.ok (fun p=>⟨(c p).1,by have:=(c p).2;omega⟩) h.ll).mono ?_;rintro e w' ⟨rfl,U⟩;rw[m];exact⟨rfl,l.later (aF.aD U)⟩
 have P:Hid (∀ wx A',fG w wx tb name aH A' T F->wx.cell? ⟨eb,4,Vc⟩=Vd (.slice (Vd ⟨B,0,Vc⟩) L.length cap)/\wx.cell? ⟨eb,3,Vc⟩=Vd (.int .i64 u)) :=
  fun wx A' l=>⟨(l.pair h.en h.ne h.nb).en.c3,(l.pair h.en h.ne h.nb).en.c2⟩
 have r:fG w w.drew tb name aH A T F:=by
  obtain⟨ul,us,Fl,Fs,t,y⟩:=h.th;exact⟨⟨ul,us,Fl,Fs,t.same (aF.refl _ _).drew,fun k R=>.inl (y k R)⟩,(aF.refl _ _).drew⟩
 have J:=aC r;have D:=h.en.c3;have I:=h.en.c2;have u1:=h.u1;have u2:=h.u2;have x:Vo.wrap (-u)=-u:=cG UT UT;clear h c m r
 go_in
 go_upto_region 1 with fail
 go_region_held3 (fun w'=>w'.cell? ⟨eb,4,Vc⟩=Vd (.slice (Vd ⟨B,0,Vc⟩) L.length cap)/\w'.cell? ⟨eb,3,Vc⟩=Vd (.int .i64 u))
  (first
   |exact⟨D,I⟩
   |exact P.out _ _ g)
  (first
   |(go_at_call 157;refine (Q.out _ J.out).mono ?_;rintro e w4 ⟨rfl,g⟩))
 obtain⟨V,W⟩:=P.out _ _ g;have M:=aC g;clear g Q J D I
 go_wp2_with fail
 refine (N.out _ M.out).mono ?_;rintro e w5 ⟨rfl,s⟩;obtain⟨z,C⟩:=P.out _ _ s;have K:=aC (s.later (aF.refl _ _).drew);have X:=aC s;clear s N V W
 go_upto_region 3 with fail
 go_region_held3 (fun w'=>w'.cell? ⟨eb,4,Vc⟩=Vd (.slice (Vd ⟨B,0,Vc⟩) L.length cap)/\w'.cell? ⟨eb,3,Vc⟩=Vd (.int .i64 u))
  (first
   |exact⟨z,C⟩
   |exact P.out _ _ g)
  (first
   |(go_at_call 157;refine (O.out _ K.out).mono ?_;rintro e Y ⟨rfl,g⟩))
 have K4:=aC g;clear g O M K X z C P
 go_wp2
 go_ret;exact⟨rfl,K4.out⟩
structure xr(T:aE.S)(id:U8)(L:U4 (U8 × U8)):Prop where
 od:aE.Ord (aE.bS T)
 sz:aE.size T<=9000
 no:∀ z∈aE.bS T,z.n=id->∀ s∈L,z.f≠s.1
 nd:(L.map (·.1)).Nodup
theorem pR.off{c:aE.S}(h:pR w tb o F c w'):aF (tb :: F) w w':=by
 obtain⟨_,_,_,_,_,h,_⟩:=h;exact h
theorem Qr(tb eb:U7)(name:U3)(aH:U8)(A:U4 U6->U8)(T:aE.S)(id:U8)(L:U4 (U8 × U8))(g:xr T id L)(Q:L.length<=100)(k:U7)(C:k<L.length)(ul us:U5 Vk)(Fl Fs:U4 U7)(wx:Vg)(r:TH wx tb name aH A (gk id eb T (L.take k)) ul us Fl Fs):
  Vj prog 159 #[.pointer (Vd ⟨tb,3,Vc⟩),.int .i64 L[k].1,.int .i64 L[k].2,.int .i64 id,.pointer (Vd ⟨eb,0,Vc⟩)] wx fun e w'=>e=.returned (.tuple #[])/\pR wx tb 3 Fs (gk id eb T (L.take (k+1))) w':=by
 have x:((L.take k).map (·.1)).Nodup:=VS ((Wm k L).map _) g.nd;obtain⟨P,_,J,O⟩:=Bg id eb (L.take k) T g.od (fun z h M s t=>g.no z h M s (Wn t)) x;have D:=Wp k L;have y:(L.take k).length<=100:=UT
 have e:gk id eb T (L.take (k+1))=aE.put (jF id eb L[k]) (gk id eb T (L.take k)):=by rw[Wf C,Ig]
 have h:=g.sz
 have l:∀ z∈aE.bS (gk id eb T (L.take k)),¬ (z.f=(jF id eb L[k]).f/\z.n=(jF id eb L[k]).n):=by
  intro z h ⟨I,N⟩;rcases (J z).1 h with h|⟨s,t,rfl⟩
  ·exact g.no z h N L[k] (zg C) I
  ·have R:=g.nd
   have c:(L.take (k+1)).map (·.1)=(L.take k).map (·.1)++[L[k].1]:=by rw[Wf C,Wq];rfl
   have m:((L.take (k+1)).map (·.1)).Nodup:=VS ((Wm (k+1) L).map _) g.nd;rw[c,VI] at m;exact m.2.2 s.1 (Wk.2 ⟨s,t,rfl⟩) L[k].1 UU I
 refine (OQ (gk id eb T (L.take k)) tb 3 us Fs (jF id eb L[k]) wx r.c3 (r.fz 3) r.ns r.sp UT l).mono ?_;rintro U w' ⟨rfl,K⟩;rw[e];exact⟨rfl,K⟩
theorem QT(tb:U7)(name:U3)(aH:U8)(A:U4 U6->U8)(T:aE.S)(id:U8)(L:U4 (U8 × U8))(h:aE.Ord (aE.bS T))(r:aE.size T<=9000)(k:U7)(l:k<L.length)(ul us:U5 Vk)(Fl Fs:U4 U7)(wx:Vg)(c:TH wx tb name aH A (jw id T (L.take k)) ul us Fl Fs):
  Vj prog 253 #[.pointer (Vd ⟨tb,3,Vc⟩),.int .i64 L[k].1,.int .i64 id] wx fun e w'=>e=.returned (.tuple #[])/\pR wx tb 3 Fs (jw id T (L.take (k+1))) w':=by
 obtain⟨_,_,m⟩:=Bt id (L.take k) T h;have e:jw id T (L.take (k+1))=aE.drop L[k].1 id (jw id T (L.take k)):=by rw[Wf l,IC]
 refine (Px (jw id T (L.take k)) tb 3 us Fs L[k].1 id wx c.c3 (c.fz 3) c.ns c.sp UT).mono ?_;rintro s w' ⟨rfl,g⟩;rw[e];exact⟨rfl,g⟩
theorem P5(w:Vg)(tb eb B cap:U7)(name:U3)(aH:U8)(A:U4 U6->U8)(T:aE.S)(F:U4 U7)(id u:U8)(L:U4 (U8 × U8))(h:xj w tb eb B cap name aH A T F id u L)(hr:xr T id L)(r:ky (bZ A L u) aH L=Vf):
  Vj prog 104 #[.pointer (Vd ⟨tb,0,Vc⟩),.pointer (Vd ⟨eb,0,Vc⟩)] w fun e w'=>e=.returned (.bool Vf)/\fG w w' tb name aH (bZ A L u) (gk id eb T L) F:=by
 have c:=Fw h.bd h.u1 h.u2 h.ll;have C1:=aC (xL w tb eb B cap name aH A (bZ A L u) T F id u u L h.en h.ne h.nb h.ok (fun p=>⟨(h.bd p).1,by have:=(h.bd p).2;omega⟩) (fun p=>(c p).1) (by have:=h.u1;omega) h.u2 h.ll rfl)
 have CH:Hid (∀ wx,fG w wx tb name aH (bZ A L u) T F->Vj prog 158 #[.pointer (Vd ⟨tb,0,Vc⟩),.slice (Vd ⟨B,0,Vc⟩) L.length cap] wx fun e w'=>e=.returned (.bool Vf)/\fG w w' tb name aH (bZ A L u) T F):=by
  intro wx l;obtain⟨ul,us,Fl,Fs,y,K⟩:=l.th;refine (Hb wx tb B cap name aH _ T ul us Fl Fs L y (l.pair h.en h.ne h.nb).en.sl h.ok (fun p=>⟨(c p).1,by have:=(c p).2;omega⟩) h.ll).mono ?_;rintro e w' ⟨rfl,hb⟩;rw[r];exact⟨rfl,l.later (aF.aD hb)⟩
 have P:Hid (∀ wx A' x,fG w wx tb name aH A' x F->gP wx eb id tb u B cap L):=fun wx A' x l=>(l.pair h.en h.ne h.nb).en
 have Z:Hid (∀ wx A' x,fG w wx tb name aH A' x F->wx.cell? ⟨eb,4,Vc⟩=Vd (.slice (Vd ⟨B,0,Vc⟩) L.length cap)/\wx.cell? ⟨eb,3,Vc⟩=Vd (.int .i64 u)):=fun wx A' x l=>⟨(P.out wx A' x l).c3,(P.out wx A' x l).c2⟩
 have J:fG w w.drew tb name aH A T F:=by
  obtain⟨ul,us,Fl,Fs,y,K⟩:=h.th;exact⟨⟨ul,us,Fl,Fs,y.same (aF.refl _ _).drew,fun k R=>.inl (K k R)⟩,(aF.refl _ _).drew⟩
 have N0:=aC J;have CP:=aC (fun k R ul us Fl Fs wx l=>Qr tb eb name aH (bZ A L u) T id L hr h.ll k R ul us Fl Fs wx l);have c3:=h.en.c3;have W:=h.en.c2;have ll:=h.ll;have M:=aC (zA h.ne h.nb);have O:Hid (eb<w.heap.size):=Vq _ _ h.en.c0;clear h c r J hr;generalize bZ A L u=A1 at *
 go_in
 go_upto_region 1 with fail
 go_region_held3 (fun w'=>w'.cell? ⟨eb,4,Vc⟩=Vd (.slice (Vd ⟨B,0,Vc⟩) L.length cap)/\w'.cell? ⟨eb,3,Vc⟩=Vd (.int .i64 u))
  (first
   |exact⟨c3,W⟩
   |exact Z.out _ _ _ g)
  (first
   |(go_at_call 157;refine (C1.out _ N0.out).mono ?_;rintro e w4 ⟨rfl,g⟩))
 obtain⟨d3,d2⟩:=Z.out _ _ _ g;have K1:=aC g;clear g C1 N0 c3 W
 go_wp2_with fail
 refine (CH.out _ K1.out).mono ?_;rintro e w5 ⟨rfl,k2⟩;obtain⟨f3,f2⟩:=Z.out _ _ _ k2;have K3:=aC k2;clear k2 CH d3 d2 K1
 go_wp2_with fail
 go_loopw [6,40] (fun _ i wx=>∃ k:U7,k<=L.length/\i=.int .i64 k/\fG w wx tb name aH A1 (gk id eb T (L.take k)) F) (fun _ i _=>L.length-(intOf i).toNat)
 case atStart=>exact⟨0,Wg _,rfl,K3.out⟩
 case round =>
  obtain⟨k,R,rfl,t⟩:=hrel;clear f3 f2
  by_cases s:k<L.length
  ·have U:=P.out _ _ _ t;have c1:=(U.sl k s).1;have W:=(U.sl k s).2;have c0:=U.c0;have hi:(k:U8)<(L.length:U8):=UT
   obtain⟨ul,us,Fl,Fs,y,K⟩:=t.th;have HN:=aC t;have H1:=aC y;have H2:=aC K;clear U t y K
   go_upto_region 8 with fail
   have V:aF [] wr (wr.alloc (.cells #[.int .i64 L[k].1,.int .i64 L[k].2] 60)):=(aF.refl _ _).alloc _;have C:(wr.alloc (.cells #[.int .i64 L[k].1,.int .i64 L[k].2] 60)).cell? ⟨wr.heap.size,0,Vc⟩=Vd (.int .i64 L[k].1):=UU
   have z:(wr.alloc (.cells #[.int .i64 L[k].1,.int .i64 L[k].2] 60)).cell? ⟨wr.heap.size,1,Vc⟩=Vd (.int .i64 L[k].2):=UU
   have Q:=V.cell UU c0;have NX:=aC (HN.out.later V.drew);have Y:=aC (H1.out.same V.drew);have PX:=aC (CP.out k s _ _ _ _ _ Y.out);have I:wr.heap.size ∉ tb :: Fs:=fun e=>by have:=H1.out.lt wr.heap.size (by simp only[Vz,VA] at e ⊢;grind);omega
   have m:=aC I
   have D:eb ∉ tb :: Fs:=by
    intro e;rcases Vz.1 e with e|e
    ·exact M.out.1 (by simp[e])
    ·rcases H2.out eb (by simp[e]) with e|e
     ·exact M.out.1 (by simp[e])
     ·have:=O.out;omega
   have N:=aC D;clear V c0 c1 W I D HN;generalize (VJ wr (.cells #[.int .i64 L[k].1,.int .i64 L[k].2] 60))=X at C z Q NX Y PX ⊢;generalize wr.heap.size=bx at C z m ⊢
   go_region_held3 (fun w'=>w'.cell? ⟨bx,0,Vc⟩=Vd (.int .i64 L[k].1)/\w'.cell? ⟨bx,1,Vc⟩=Vd (.int .i64 L[k].2)/\w'.cell? ⟨eb,0,Vc⟩=Vd (.int .i64 id))
    (first
     |exact⟨C,z,Q⟩
     |exact⟨g.off.cell m.out C,g.off.cell m.out z,g.off.cell N.out Q⟩)
    (first
     |(go_at_call 159;refine PX.out.mono ?_;rintro e w6 ⟨rfl,g⟩))
   have HK:=aC (NX.out.lI Y.out H2.out g);clear g NX Y PX H1 H2 m N CP Z P C z Q
   go_wp2
   go_roundw
   case rel=>exact⟨k+1,by omega,by go_num,HK.out⟩
   case measure=>simp[intOf];omega
  ·have e:L.take k=L:=Wh UT;rw[e] at t;have HN:=aC t;have hi:¬ (k:U8)<(L.length:U8):=UT
   clear t
   go_wp2
   go_ret;exact⟨rfl,HN.out⟩
theorem Tw(w:Vg)(tb eb B cap:U7)(name:U3)(aH:U8)(A:U4 U6->U8)(T:aE.S)(F:U4 U7)(id u:U8)(L:U4 (U8 × U8))(h:xj w tb eb B cap name aH A T F id u L)(ho:aE.Ord (aE.bS T))(hz:aE.size T<=9000)(hA:∀ p,0<=bZ A L (-u) p):
  Vj prog 205 #[.pointer (Vd ⟨tb,0,Vc⟩),.pointer (Vd ⟨eb,0,Vc⟩)] w fun e w'=>e=.returned (.tuple #[])/\fG w w' tb name aH (bZ A L (-u)) (jw id T L) F:=by
 have C1:=aC (xL w tb eb B cap name aH A (bZ A L (-u)) T F id u (-u) L h.en h.ne h.nb h.ok (fun p=>⟨(h.bd p).1,by have:=(h.bd p).2;omega⟩) hA (by have:=h.u2;omega) (by have:=h.u1;omega) h.ll rfl);have P:Hid (∀ wx A' r,fG w wx tb name aH A' r F->gP wx eb id tb u B cap L):=fun wx A' r s=>(s.pair h.en h.ne h.nb).en
 have Z:Hid (∀ wx A' r,fG w wx tb name aH A' r F->wx.cell? ⟨eb,4,Vc⟩=Vd (.slice (Vd ⟨B,0,Vc⟩) L.length cap)/\wx.cell? ⟨eb,3,Vc⟩=Vd (.int .i64 u)):=fun wx A' r s=>⟨(P.out wx A' r s).c3,(P.out wx A' r s).c2⟩
 have C:fG w w.drew tb name aH A T F:=by
  obtain⟨ul,us,Fl,Fs,R,Q⟩:=h.th;exact⟨⟨ul,us,Fl,Fs,R.same (aF.refl _ _).drew,fun k M=>.inl (Q k M)⟩,(aF.refl _ _).drew⟩
 have N0:=aC C;have CP:=aC (fun k M ul us Fl Fs wx s=>QT tb name aH (bZ A L (-u)) T id L ho hz k M ul us Fl Fs wx s);have c3:=h.en.c3;have U:=h.en.c2;have ll:=h.ll;have u1:=h.u1;have u2:=h.u2;have aa:Vo.wrap (-u)=-u:=cG UT UT;have D:=aC (zA h.ne h.nb);have J:Hid (eb<w.heap.size):=Vq _ _ h.en.c0;clear h C ho hz hA;generalize bZ A L (-u)=A1 at *
 go_in
 go_upto_region 0 with fail
 go_region_held3 (fun w'=>w'.cell? ⟨eb,4,Vc⟩=Vd (.slice (Vd ⟨B,0,Vc⟩) L.length cap)/\w'.cell? ⟨eb,3,Vc⟩=Vd (.int .i64 u))
  (first
   |exact⟨c3,U⟩
   |exact Z.out _ _ _ c)
  (first
   |(go_at_call 157;refine (C1.out _ N0.out).mono ?_;rintro e w4 ⟨rfl,c⟩))
 obtain⟨f3,f2⟩:=Z.out _ _ _ c;have K3:=aC c;clear c C1 N0 c3 U
 go_wp2_with fail
 go_loopw [5,22] (fun _ i wx=>∃ k:U7,k<=L.length/\i=.int .i64 k/\fG w wx tb name aH A1 (jw id T (L.take k)) F) (fun _ i _=>L.length-(intOf i).toNat)
 case atStart=>exact⟨0,Wg _,rfl,K3.out⟩
 case round =>
  obtain⟨k,M,rfl,m⟩:=hrel;clear f3 f2
  by_cases l:k<L.length
  ·have N:=P.out _ _ _ m;have c1:=(N.sl k l).1;have U:=(N.sl k l).2;have c0:=N.c0;have hi:(k:U8)<(L.length:U8):=UT
   obtain⟨ul,us,Fl,Fs,R,Q⟩:=m.th;have W:=aC m;have H1:=aC R;have H2:=aC Q;clear N m R Q
   go_upto_region 4 with fail
   have O:aF [] wr (wr.alloc (.cells #[.int .i64 L[k].1,.int .i64 L[k].2] 60)):=(aF.refl _ _).alloc _;have x:(wr.alloc (.cells #[.int .i64 L[k].1,.int .i64 L[k].2] 60)).cell? ⟨wr.heap.size,0,Vc⟩=Vd (.int .i64 L[k].1):=UU
   have t:(wr.alloc (.cells #[.int .i64 L[k].1,.int .i64 L[k].2] 60)).cell? ⟨wr.heap.size,1,Vc⟩=Vd (.int .i64 L[k].2):=UU
   have K:=O.cell UU c0;have NX:=aC (W.out.later O.drew);have V:=aC (H1.out.same O.drew);have Y:=aC (CP.out k l _ _ _ _ _ V.out);have z:wr.heap.size ∉ tb :: Fs:=fun e=>by have:=H1.out.lt wr.heap.size (by simp only[Vz,VA] at e ⊢;grind);omega
   have g:=aC z
   have y:eb ∉ tb :: Fs:=by
    intro e;rcases Vz.1 e with e|e
    ·exact D.out.1 (by simp[e])
    ·rcases H2.out eb (by simp[e]) with e|e
     ·exact D.out.1 (by simp[e])
     ·have:=J.out;omega
   have I:=aC y;clear O c0 c1 U z y W;generalize (VJ wr (.cells #[.int .i64 L[k].1,.int .i64 L[k].2] 60))=X at x t K NX V Y ⊢;generalize wr.heap.size=bx at x t g ⊢
   go_region_held3 (fun w'=>w'.cell? ⟨bx,0,Vc⟩=Vd (.int .i64 L[k].1)/\w'.cell? ⟨bx,1,Vc⟩=Vd (.int .i64 L[k].2)/\w'.cell? ⟨eb,0,Vc⟩=Vd (.int .i64 id))
    (first
     |exact⟨x,t,K⟩
     |exact⟨c.off.cell g.out x,c.off.cell g.out t,c.off.cell I.out K⟩)
    (first
     |(go_at_call 253;refine Y.out.mono ?_;rintro e w6 ⟨rfl,c⟩))
   have HK:=aC (NX.out.lI V.out H2.out c);clear c NX V Y H1 H2 g I CP Z P x t K
   go_wp2
   go_roundw
   case rel=>exact⟨k+1,by omega,by go_num,HK.out⟩
   case measure=>simp[intOf];omega
  ·have e:L.take k=L:=Wh UT;rw[e] at m;have W:=aC m;have hi:¬ (k:U8)<(L.length:U8):=UT
   clear m
   go_wp2
   go_end0
   exact⟨rfl,W.out⟩
namespace Hp
structure Hi where
 t:U8
 n:U8
 v:U7
def ahead(x y:Hi):Prop:=x.t<y.t\/(x.t=y.t/\x.n<y.n)
instance (x y:Hi):Decidable (ahead x y):=by unfold ahead;infer_instance
theorem yi{x y z:Hi}(h:¬ ahead x y)(k:¬ ahead y z):¬ ahead x z:=by unfold ahead at *;omega
theorem A2{x y:Hi}(h:ahead x y):¬ ahead y x:=by unfold ahead at *;omega
theorem SY(x:Hi):¬ ahead x x:=by unfold ahead;omega
def at_(l:U4 Hi)(i:U7):Hi:=l.getD i ⟨0,0,0⟩
theorem sO{l:U4 Hi}(h:i<l.length):at_ l i=l[i]:=by simp[at_,Wr,h]
theorem xw{l:U4 Hi}{x:Hi}:at_ (l.set i x) j=if i=j/\i<l.length then x else at_ l j:=by
 unfold at_ Wr;rw[List.getElem?_set]
 by_cases h:i=j
 ·subst h
  by_cases k:i<l.length
  ·simp[k]
  ·simp[k]
 ·simp[h]
def par(i:U7):U7:=(i-1) / 2
def ok(l:U4 Hi)(i:U7):Prop:=¬ ahead (at_ l i) (at_ l (par i))
def gG(l:U4 Hi):Prop:=∀ i,0<i->i<l.length->ok l i
def swap(l:U4 Hi)(i j:U7):U4 Hi:=(l.set i (at_ l j)).set j (at_ l i)
theorem qW{l:U4 Hi}:(swap l i j).length=l.length:=by simp[swap]
theorem xV{l:U4 Hi}(g:i<l.length)(c:j<l.length):(swap l i j).Perm l:=by
 unfold swap;rw[sO g,sO c];exact List.set_set_perm g c
theorem n8{l:U4 Hi}(m:i<l.length)(h:j<l.length)(k:U7):at_ (swap l i j) k=if k=j then at_ l i else if k=i then at_ l j else at_ l k:=by
 unfold swap;rw[xw,xw]
 by_cases g:k=j
 ·subst g;rw[Va ⟨rfl,by simpa using h⟩,Va rfl]
 ·rw[U9 (fun e=>g e.1.symm),U9 g]
  by_cases c:k=i
  ·subst c;rw[Va ⟨rfl,m⟩,Va rfl]
  ·rw[U9 (fun e=>c e.1.symm),U9 c]
structure oI(l:U4 Hi)(p:U7):Prop where
 o:∀ i,0<i->i<l.length->i≠p->ok l i
 c:0<p->∀ i,0<i->i<l.length->par i=p->¬ ahead (at_ l i) (at_ l (par p))
theorem oI.done{l:U4 Hi}(h:oI l p)(k:p=0\/¬ ahead (at_ l p) (at_ l (par p))):gG l:=by
 intro i g c
 by_cases e:i=p
 ·subst e;rcases k with k|k
  ·omega
  ·exact k
 ·exact h.o i g c e
theorem oI.step{l:U4 Hi}(h:oI l p)(x:p<l.length)(J:0<p)(k:ahead (at_ l p) (at_ l (par p))):oI (swap l p (par p)) (par p):=by
 have K:par p<p:=by unfold par;omega
 have m:par p<l.length:=UT
 refine⟨fun i t r y=>?_,fun D i t r C=>?_⟩
 ·rw[qW] at r;unfold ok;rw[n8 x m,n8 x m,U9 y]
  by_cases e:i=p
  ·subst e;rw[Va rfl,Va rfl];exact A2 k
  ·rw[U9 e]
   by_cases s:par i=par p
   ·rw[Va s];have:=h.o i t r e;unfold ok at this;rw[s] at this;exact yi this (A2 k)
   ·rw[U9 s]
    by_cases z:par i=p
    ·rw[Va z];exact h.c J i t r z
    ·rw[U9 z];exact h.o i t r e
 ·rw[qW] at r
  have I:par (par p)<par p:=by
   have:par (par p)=(par p-1) / 2:=rfl;omega
  rw[n8 x m,n8 x m,U9 (show par (par p)≠par p by omega),U9 (show par (par p)≠p by omega)];have g:=h.o (par p) D m UT;unfold ok at g
  by_cases e:i=par p
  ·rw[e] at C;omega
  ·rw[U9 e]
   by_cases s:i=p
   ·subst s;rw[Va rfl];exact g
   ·rw[U9 s];have:=h.o i t r s;unfold ok at this;rw[C] at this;exact yi this g
theorem PJ{l:U4 Hi}{x:Hi}(h:gG l):oI (l++[x]) l.length:=by
 have e:∀ i,i<l.length->at_ (l++[x]) i=at_ l i:=by
  intro i c;unfold at_ Wr;rw[Ws c]
 refine⟨fun i g c k=>?_,fun _ i g c m=>?_⟩
 ·simp at c;unfold ok;rw[e i UT,e (par i) (by unfold par;omega)];exact h i g UT
 ·simp at c;unfold par at m;omega
structure qQ(l:U4 Hi)(q p:U7):Prop where
 qp:q<=p
 a:∀ i,0<i->i<l.length->i≠q->par i≠p->ok l i
 b:0<p->∀ i,0<i->i<l.length->par i=p->¬ ahead (at_ l i) (at_ l (par p))
 d:p≠q->0<q->ok l q
theorem qQ.done{l:U4 Hi}(h:qQ l q p)(y:q<l.length)(k:∀ i,0<i->i<l.length->par i=p->¬ ahead (at_ l i) (at_ l p)):oI l q:=by
 have o:∀ i,0<i->i<l.length->i≠q->ok l i:=by
  intro i c g m
  by_cases e:par i=p
  ·unfold ok;rw[e];exact k i c g e
  ·exact h.a i c g m e
 refine⟨o,fun t i c g r=>?_⟩
 by_cases e:p=q
 ·subst e;exact h.b t i c g r
 ·have x:=h.d e t;have s:=o i c g (by intro e;subst e;unfold par at r;omega);unfold ok at x s;rw[r] at s;exact yi s x
theorem qQ.step{l:U4 Hi}{c:U7}(h:qQ l q p)(J:0<c)(m:c<l.length)(g:par c=p)(k:ahead (at_ l c) (at_ l p))(K:∀ i,0<i->i<l.length->par i=p->¬ ahead (at_ l i) (at_ l c)):qQ (swap l p c) q c:=by
 have N:p<c:=by unfold par at g;omega
 have r:p<l.length:=UT
 have P:=h.qp;refine⟨by omega,fun i t s y z=>?_,fun _ i t s D=>?_,fun _ C=>?_⟩
 ·rw[qW] at s;unfold ok;rw[n8 r m,n8 r m,U9 z]
  by_cases e:i=c
  ·subst e;rw[Va rfl,Va g];exact A2 k
  ·rw[U9 e]
   by_cases I:i=p
   ·subst I;have:par i<i:=by unfold par;omega
    rw[Va rfl,U9 UT];exact h.b t c J m g
   ·rw[U9 I]
    by_cases x:par i=p
    ·rw[Va x];exact K i t s x
    ·rw[U9 x];exact h.a i t s y x
 ·rw[qW] at s;have O:c<i:=by unfold par at D;omega
  rw[n8 r m,n8 r m,U9 UT,U9 UT,U9 (show par c≠c by omega),Va g];have:=h.a i t s UT UT;unfold ok at this;rw[D] at this;exact this
 ·unfold ok;have M:par q<q:=by unfold par;omega
  rw[n8 r m,n8 r m,U9 (show q≠c by omega),U9 (show par q≠c by omega),U9 (show par q≠p by omega)]
  by_cases e:q=p
  ·subst e;rw[Va rfl];exact h.b C c J m g
  ·rw[U9 e];exact h.d UT C
def cut(l:U4 Hi)(p:U7):U4 Hi:=(l.set p (at_ l (l.length-1))).take (l.length-1)
theorem pM{l:U4 Hi}:(cut l p).length=l.length-1:=by simp[cut]
theorem sA{l:U4 Hi}(g:i<l.length-1):at_ (cut l p) i=if i=p then at_ l (l.length-1) else at_ l i:=by
 have e:at_ (cut l p) i=at_ (l.set p (at_ l (l.length-1))) i:=by
  unfold cut;show (List.take _ _).getD i _=(l.set p (at_ l (l.length-1))).getD i _;unfold Wr;rw[Wt g]
 rw[e,xw]
 by_cases c:i=p
 ·subst c;rw[Va ⟨rfl,by omega⟩,Va rfl]
 ·rw[U9 (fun e=>c e.1.symm),U9 c]
theorem Gn{l:U4 Hi}(h:p<l.length):l.Perm (at_ l p :: cut l p):=by
 have k:l.length-1<l.length:=UT
 have r:=(xV (l:=l) (i:=p) (j:=l.length-1) h k).symm;have g:(swap l p (l.length-1)).length=l.length:=qW
 have e:swap l p (l.length-1)=cut l p++[at_ l p]:=by
  refine List.ext_getElem (by rw[g,V4,pM];simp;omega) (fun i m x=>?_);rw[g] at m;have t:=n8 h k i;rw[sO (by rw[g];exact m)] at t;rw[t]
  by_cases c:i=l.length-1
  ·rw[Va c,List.getElem_append_right (by rw[pM];omega)];simp
  ·rw[U9 c,List.getElem_append_left (by rw[pM];omega)];have s:=sA (l:=l) (p:=p) (i:=i) UT;rw[sO (by rw[pM];omega)] at s;rw[s]
 rw[e] at r;exact r.trans (List.perm_append_comm.trans UU)
theorem Pg{l:U4 Hi}(h:gG l):gG (cut l (l.length-1)):=by
 intro i g c;rw[pM] at c;unfold ok;rw[sA c,sA (show par i<l.length-1 by unfold par;omega),U9 UT,U9 (show par i≠l.length-1 by unfold par;omega)];exact h i g UT
theorem Ph{l:U4 Hi}(h:gG l)(C:p<l.length-1):qQ (cut l p) p p:=by
 refine⟨zq _,fun i g c r m=>?_,fun z i g c x=>?_,fun e=>Vb rfl e⟩
 ·rw[pM] at c;unfold ok;rw[sA c,sA (show par i<l.length-1 by unfold par;omega),U9 r,U9 m];exact h i g UT
 ·rw[pM] at c;have s:i≠p:=by intro e;subst e;unfold par at x;omega
  have k:par p≠p:=by unfold par;omega
  rw[sA c,sA (show par p<l.length-1 by unfold par;omega),U9 s,U9 k];have t:=h i g UT;have y:=h p z UT;unfold ok at t y;rw[x] at t;exact yi t y
end Hp
def iu(x:Hp.Hi):U4 Vh:=[.int .i64 x.t,.int .i64 x.n,.pointer (Vd ⟨x.v,0,Vc⟩)]
theorem ya(l:U4 Hp.Hi):(l.flatMap iu).length=l.length*3:=by
 induction l with
 |nil=>rfl
 |cons x l ih=>simp only[Wu,V4,V5,ih,iu,V9];omega
theorem Cq{l:U4 Hp.Hi}(h:i<l.length):l=l.take i++l[i] :: l.drop (i+1):=by rw[Wv,Wa]
theorem ud{l:U4 Hp.Hi}(h:i<l.length)(g:j<3):(l.flatMap iu)[i*3+j]?=(iu l[i])[j]?:=by
 conv=>lhs;rw[Cq h,Ww,Wu]
 have c:((l.take i).flatMap iu).length=i*3:=by rw[ya,Wx UT]
 rw[Wy UT,c,Wz,Ws (by simp[iu];omega)]
theorem QZ{l:U4 Hp.Hi}(h:i<l.length)(x:Hp.Hi):(((l.flatMap iu).set (i*3) (.int .i64 x.t)).set (i*3+1) (.int .i64 x.n)).set (i*3+2) (.pointer (Vd ⟨x.v,0,Vc⟩))=(l.set i x).flatMap iu:=by
 have c:((l.take i).flatMap iu).length=i*3:=by rw[ya,Wx UT]
 conv=>lhs;rw[Cq h,Ww,Wu]
 rw[WB _ _ UT,WB _ _ UT,WB _ _ UT,c];rw[show i*3-i*3=0 from by omega,show i*3+1-i*3=1 from by omega,show i*3+2-i*3=2 from by omega]
 conv=>rhs;rw[List.set_eq_take_append_cons_drop,Va h,Ww,Wu]
 simp[iu]
structure HP(w:Vg)(d o:U7)(v:Vh)(l:U4 Hp.Hi):Prop where
 c:w.cell? ⟨d,o,Vc⟩=Vd v
 own:w.ownsRow 0 286 3 v l.length (l.flatMap iu)
 ne:v.ownBlock≠Vd d
 fz:w.frozen? ⟨d,o,Vc⟩=Ve
theorem HP.form{l:U4 Hp.Hi}(h:HP w d o v l)(c:0<l.length):∃ H cap,v=.slice (Vd ⟨H,0,Vc⟩) l.length cap:=by
 obtain⟨H,cap,e⟩:=Joins.ownsRow_form h.own c;exact⟨H,cap,e⟩
theorem HP.at{l:U4 Hp.Hi}(h:HP w d o (.slice (Vd ⟨H,0,Vc⟩) l.length cap) l)(c:i<l.length):w.cell? ⟨H,i*3,Vc⟩=Vd (.int .i64 (Hp.at_ l i).t)/\w.cell? ⟨H,i*3+1,Vc⟩=Vd (.int .i64 (Hp.at_ l i).n)/\w.cell? ⟨H,i*3+2,Vc⟩=Vd (.pointer (Vd ⟨(Hp.at_ l i).v,0,Vc⟩)):=by
 rw[Hp.sO c];refine⟨?_,?_,?_⟩
 ·exact (h.own.cellAt (i*3) UT).trans (ud c (j:=0) UT)
 ·exact (h.own.cellAt (i*3+1) UT).trans (ud c (j:=1) UT)
 ·exact (h.own.cellAt (i*3+2) UT).trans (ud c (j:=2) UT)
theorem HP.off{l:U4 Hp.Hi}(h:HP w d o v l)(k:aF G w w')(x:d ∉ G)(C:∀ b,v.ownBlock=Vd b->b ∉ G):HP w' d o v l:=by
 refine⟨k.cell x h.c,⟨h.own.1,?_⟩,h.ne,(k.frozen x (Vq _ _ h.c)).trans h.fz⟩;rcases h.own.2 with D|⟨g,cap,s,t,z,r,rest⟩
 ·exact .inl D
 ·refine .inr ⟨g,cap,s,t,z,?_,rest⟩
  have m:g<w.heap.size:=by
   by_cases y:g<w.heap.size
   ·exact y
   ·rw[WC UT] at r;cases r
  rw[k.block g m (C g (by rw[t];rfl))];exact r
theorem HP.later{l:U4 Hp.Hi}(h:HP w d o v l)(k:Vi w.heap.size w w'):HP w' d o v l:=h.off (G:=[]) (aF.aD k) UU UU
theorem HP.put{l:U4 Hp.Hi}(h:HP w d o (.slice (Vd ⟨H,0,Vc⟩) l.length cap) l)(m:i<l.length)(x:Hp.Hi):HP (((w.setCell ⟨H,i*3,Vc⟩ (.int .i64 x.t)).setCell ⟨H,i*3+1,Vc⟩ (.int .i64 x.n)).setCell ⟨H,i*3+2,Vc⟩ (.pointer (Vd ⟨x.v,0,Vc⟩))) d o (.slice (Vd ⟨H,0,Vc⟩) (l.set i x).length cap) (l.set i x):=by
 have g:d≠H:=fun e=>h.ne (by rw[e];rfl)
 have k:aF [H] w (((w.setCell ⟨H,i*3,Vc⟩ (.int .i64 x.t)).setCell ⟨H,i*3+1,Vc⟩ (.int .i64 x.n)).setCell ⟨H,i*3+2,Vc⟩ (.pointer (Vd ⟨x.v,0,Vc⟩))) :=
  (((aF.refl [H] w).setCell (.inl UU) _ _).setCell (.inl UU) _ _).setCell (.inl UU) _ _
 refine⟨?_,?_,h.ne,?_⟩
 ·rw[WD];exact k.cell (by simpa using g) h.c
 ·rw[WD,<- QZ m x];exact ((((h.own.stored (i*3) (.int .i64 x.t)).1).stored (i*3+1) (.int .i64 x.n)).1.stored (i*3+2) (.pointer (Vd ⟨x.v,0,Vc⟩))).1
 ·exact (k.frozen (by simpa using g) (Vq _ _ h.c)).trans h.fz
theorem ua(w:Vg)(H i j m:U7)(a b c:Vh):aF [H] w (((w.setCell ⟨H,i,Vc⟩ a).setCell ⟨H,j,Vc⟩ b).setCell ⟨H,m,Vc⟩ c) :=
 (((aF.refl [H] w).setCell (.inl UU) _ _).setCell (.inl UU) _ _).setCell (.inl UU) _ _
theorem HP.oR{l:U4 Hp.Hi}(h:HP w d o (.slice (Vd ⟨H,0,Vc⟩) l.length cap) l)(m:i<l.length)(k:j<l.length){x y:Hp.Hi}(g:Hp.at_ l i=x)(c:Hp.at_ l j=y):
  HP ((((((w.setCell ⟨H,i*3,Vc⟩ (.int .i64 y.t)).setCell ⟨H,i*3+1,Vc⟩ (.int .i64 y.n)).setCell ⟨H,i*3+2,Vc⟩ (.pointer (Vd ⟨y.v,0,Vc⟩))).setCell ⟨H,j*3,Vc⟩ (.int .i64 x.t)).setCell ⟨H,j*3+1,Vc⟩ (.int .i64 x.n)).setCell ⟨H,j*3+2,Vc⟩ (.pointer (Vd ⟨x.v,0,Vc⟩))) d o (.slice (Vd ⟨H,0,Vc⟩) l.length cap) (Hp.swap l i j)
  /\ aF [H] w ((((((w.setCell ⟨H,i*3,Vc⟩ (.int .i64 y.t)).setCell ⟨H,i*3+1,Vc⟩ (.int .i64 y.n)).setCell ⟨H,i*3+2,Vc⟩ (.pointer (Vd ⟨y.v,0,Vc⟩))).setCell ⟨H,j*3,Vc⟩ (.int .i64 x.t)).setCell ⟨H,j*3+1,Vc⟩ (.int .i64 x.n)).setCell ⟨H,j*3+2,Vc⟩ (.pointer (Vd ⟨x.v,0,Vc⟩))):=by
 refine⟨?_,(ua _ _ _ _ _ _ _ _).trans (ua _ _ _ _ _ _ _ _)⟩;have a:=(h.put m y).put (i:=j) (by simpa using k) x;subst g c;have e:((l.set i (Hp.at_ l j)).set j (Hp.at_ l i)).length=l.length:=UU
 rw[e] at a;exact a
def gT(x:Hp.Hi)(t n:U8):U8:=oT (lu x.t t) (lu x.n n)
theorem OG(x y:Hp.Hi):gT x y.t y.n<0↔Hp.ahead x y:=by
 unfold gT oT lu Hp.ahead
 split <;> split <;> (repeat split) <;> omega
theorem Ha(x:Hp.Hi)(t n:U8):gT x t n=0↔x.t=t/\x.n=n:=by
 unfold gT oT lu
 split <;> split <;> (repeat split) <;> omega
theorem Ja(x:Hp.Hi)(t n:U8)(w:Vg):
  Vj prog 203 #[.agg #[.int .i64 x.t,.int .i64 x.n,.pointer (Vd ⟨x.v,0,Vc⟩)],.int .i64 t,.int .i64 n] w fun e w'=>e=.returned (.int .i64 (gT x t n))/\Vi w.heap.size w w':=by
 unfold gT;have HP:=aC (fun w'=>yw x.t t w');have r:=aC (fun w'=>yw x.n n w');generalize lu x.t t=p at *;generalize lu x.n n=q at *
 go_in
 have g:Vi w.heap.size w (w.alloc (.cells #[.int .i64 x.t,.int .i64 x.n,.pointer (Vd ⟨x.v,0,Vc⟩)] 286)):=(zr _ _).alloc (zq _) _;have l:(w.alloc (.cells #[.int .i64 x.t,.int .i64 x.n,.pointer (Vd ⟨x.v,0,Vc⟩)] 286)).cell? ⟨w.heap.size,0,Vc⟩=Vd (.int .i64 x.t):=UU
 have k:(w.alloc (.cells #[.int .i64 x.t,.int .i64 x.n,.pointer (Vd ⟨x.v,0,Vc⟩)] 286)).cell? ⟨w.heap.size,1,Vc⟩=Vd (.int .i64 x.n):=UU
 go_upto_region 1 with fail
 generalize (VJ w (.cells #[.int .i64 x.t,.int .i64 x.n,.pointer (Vd ⟨x.v,0,Vc⟩)] 286))=X at l k g ⊢;generalize c:w.heap.size=b at l k g ⊢;have m:=aC c;clear c
 go_region_held3 (fun w'=>w'.cell? ⟨b,0,Vc⟩=Vd (.int .i64 x.t)/\w'.cell? ⟨b,1,Vc⟩=Vd (.int .i64 x.n)/\Vi b w w')
  (first
   |exact⟨l,k,g.drew⟩
   |(go_split_ands;refine⟨?_,?_,?_⟩ <;> assumption)
   |(go_split_ands;exact⟨aN ((zr _ _).alloc (zq _) _) UW,aN ((zr _ _).alloc (zq _) _) UW,bA UW ((zr _ _).alloc (zq _) _) (by rw[m.out];exact zq _)⟩))
  (first
   |(go_at_call_of 251 (V3 .i64 t);refine (HP.out _).mono ?_;rintro e w' ⟨rfl,rfl⟩)
   |(go_at_call_of 251 (V3 .i64 n);refine (r.out _).mono ?_;rintro e w' ⟨rfl,rfl⟩)
   |(go_at_call 250;refine (Fp _ p q _ UU UU).mono ?_;rintro e w' ⟨rfl,rfl⟩))
 all_goals
  have s:Hid (Vi w.heap.size w (World.drew (VJ X (.cells #[.int .i64 p,.int .i64 q] 3)))):=by
   have h:=bA g ((zr X.heap.size X).alloc (zq _) (.cells #[.int .i64 p,.int .i64 q] 3)) (by rw[m.out];exact zq _);rw[m.out];exact h.drew
  go_wp2
  go_ret;exact⟨rfl,s.out⟩
def tH(x y:Hp.Hi):U6:=decide (gT x y.t y.n<0)
theorem Ci{x y:Hp.Hi}:tH x y=Vf↔Hp.ahead x y:=by unfold tH;rw[decide_eq_true_iff,OG]
theorem Is{x y:Hp.Hi}:tH x y=Ve↔¬ Hp.ahead x y:=by rw[<- Ci];simp
theorem IW(d o:U7)(v:Vh)(l:U4 Hp.Hi)(i j:U7)(w:Vg)(h:HP w d o v l)(D:i<l.length)(C:j<l.length)(M:l.length<=1000):
  Vj prog 274 #[.pointer (Vd ⟨d,o,Vc⟩),.int .i64 i,.int .i64 j] w fun e w'=>e=.returned (.bool (tH (Hp.at_ l i) (Hp.at_ l j)))/\Vi w.heap.size w w':=by
 obtain⟨H,cap,rfl⟩:=h.form UT;have c:=h.c;obtain⟨z,s,r⟩:=h.at D;obtain⟨m,k,N⟩:=h.at C;have J:=aC (fun w'=>Ja (Hp.at_ l i) (Hp.at_ l j).t (Hp.at_ l j).n w');have K:(i:U8)<(l.length:U8):=UT
 have j1:(j:U8)<(l.length:U8):=UT
 clear h;generalize Hp.at_ l i=x at *;generalize Hp.at_ l j=y at *
 go_in
 go_upto_region 1 with fail
 go_region_held3 (fun w'=>w'.cell? ⟨d,o,Vc⟩=Vd (.slice (Vd ⟨H,0,Vc⟩) l.length cap)/\w'.cell? ⟨H,i*3,Vc⟩=Vd (.int .i64 x.t)/\w'.cell? ⟨H,i*3+1,Vc⟩=Vd (.int .i64 x.n)/\w'.cell? ⟨H,i*3+2,Vc⟩=Vd (.pointer (Vd ⟨x.v,0,Vc⟩))/\w'.cell? ⟨H,j*3,Vc⟩=Vd (.int .i64 y.t)/\w'.cell? ⟨H,j*3+1,Vc⟩=Vd (.int .i64 y.n))
  (first
   |exact⟨c,z,s,r,m,k⟩
   |exact⟨aN g c,aN g z,aN g s,aN g r,aN g m,aN g k⟩)
  (first
   |(go_at_call 203;refine (J.out _).mono ?_;rintro e w4 ⟨rfl,g⟩))
 have I:Hid (Vi w.heap.size w w4):=bA (dM w) g (zq _);clear g
 go_wp2
 go_ret;exact⟨rfl,I.out⟩
theorem BQ(d o H cap:U7)(l:U4 Hp.Hi)(i j:U7)(w:Vg)(h:HP w d o (.slice (Vd ⟨H,0,Vc⟩) l.length cap) l)(m:i<l.length)(g:j<l.length)(s:i≠j):
  Vj prog 275 #[.pointer (Vd ⟨d,o,Vc⟩),.int .i64 i,.int .i64 j] w fun e w'=>e=.returned (.tuple #[])/\HP w' d o (.slice (Vd ⟨H,0,Vc⟩) l.length cap) (Hp.swap l i j)/\aF [H] w w':=by
 have c:=h.c;obtain⟨M,K,J⟩:=h.at m;obtain⟨I,D,C⟩:=h.at g;have z:∀ k,w.frozen? ⟨H,k,Vc⟩=Ve:=fun k=>h.own.frozenAt k
 have t:(i:U8)<(l.length:U8):=UT
 have j1:(j:U8)<(l.length:U8):=UT
 have r:=aC (h.oR m g rfl rfl);clear h;generalize Hp.at_ l i=x at *;generalize Hp.at_ l j=y at *
 go_in
 go_upto_region 0 with fail
 go_big_region
 go_end0
 exact⟨rfl,r.out.1.off (G:=[]) ((aF.refl _ _).drew) UU UU,r.out.2.drew⟩
structure kR(w wx:Vg)(d o H n cap:U7)(l l':U4 Hp.Hi):Prop where
 hp:HP wx d o (.slice (Vd ⟨H,0,Vc⟩) n cap) l'
 len:l'.length=n
 perm:l'.Perm l
 off:aF [H] w wx
theorem kR.new{l:U4 Hp.Hi}(h:HP w d o (.slice (Vd ⟨H,0,Vc⟩) l.length cap) l):kR w w d o H l.length cap l l:=⟨h,rfl,.refl _,aF.refl _ _⟩
theorem kR.later{l l':U4 Hp.Hi}(h:kR w wx d o H n cap l l')(k:Vi wx.heap.size wx wy):kR w wy d o H n cap l l' :=
 ⟨h.hp.later k,h.len,h.perm,h.off.trans' (aF.aD (F:=[]) k) UU⟩
theorem Gw(d o H cap:U7)(l:U4 Hp.Hi)(p:U7)(w:Vg)(h:HP w d o (.slice (Vd ⟨H,0,Vc⟩) l.length cap) l)(M:p<l.length)(m:Hp.oI l p)(V:l.length<=1000):
  Vj prog 248 #[.pointer (Vd ⟨d,o,Vc⟩),.int .i64 p] w fun e w'=>e=.returned (.tuple #[])/\∃ l',kR w w' d o H l.length cap l l'/\Hp.gG l':=by
 have P:=aC (kR.new h);have Q:=aC m;clear h m
 go_in
 go_wp2_with fail
 go_loopw [1] (fun v wx=>∃ (q:U7) (l':U4 Hp.Hi),v=.int .i64 q/\q<l.length/\Hp.oI l' q/\kR w wx d o H l.length cap l l') (fun v _=>(intOf v).toNat)
 case atStart=>exact⟨p,l,rfl,M,Q.out,P.out⟩
 case round =>
  obtain⟨q,l',rfl,U,m,ht⟩:=hrel
  by_cases N:0<q
  ·have T:(0:U8)<(q:U8):=UT
   have I:=aC ht;have r:=aC m
   have X:((((q:U8)-1).tdiv 2))=((Hp.par q:U7):U8):=by
    unfold Hp.par;rw[Int.tdiv_eq_ediv_of_nonneg UT];omega
   have W:Vo.wrap ((q:U8)-1)=(q:U8)-1:=cG UT UT;have K:Hp.par q<q:=by unfold Hp.par;omega
   have J:=aC (fun wy (k:Vi wr.heap.size wr wy)=>IW d o _ l' q (Hp.par q) wy (ht.hp.later k) (by rw[ht.len];omega) (by rw[ht.len];omega) (by rw[ht.len];omega));clear m ht
   go_wp2_with fail
   refine (J.out _ (zr _ _)).mono ?_;rintro e w4 ⟨rfl,z⟩;have c:=aC (I.out.later z);clear J I z
   cases C:tH (Hp.at_ l' q) (Hp.at_ l' (Hp.par q))
   ·have t:=aC (zA c.out (r.out.done (.inr (Is.1 C))));clear c r
    go_wp2_with fail
    (try simp only[WE,Exit.then]);refine bodyPost_ret (results_none rfl _ _ _) rfl ?_
    exact⟨rfl,l',t.out⟩
   ·have g:=c.out.len;have D:=aC (BQ d o H cap l' q (Hp.par q) w4 (by rw[g];exact c.out.hp) UT UT UT);have R:=aC (r.out.step UT N (Ci.1 C));have s:=aC g;clear r g
    go_wp2_with fail
    refine D.out.mono ?_;rintro e w5 ⟨rfl,y,x⟩
    have S:Hid (kR w w5 d o H l.length cap l (Hp.swap l' q (Hp.par q))) :=
     ⟨by rw[<- s.out];exact y,Hp.qW.trans s.out,(Hp.xV (by rw[s.out];omega) (by rw[s.out];omega)).trans c.out.perm,c.out.off.trans x⟩
    clear y x D c
    go_wp2
    go_roundw
    case rel=>exact⟨Hp.par q,_,rfl,by omega,R.out,S.out⟩
    case measure=>simp[intOf];omega
  ·have O:q=0:=UT
   subst O;have t:=aC (zA ht (m.done (.inl rfl)));clear m ht
   go_wp2
   go_end0
   exact⟨rfl,l',t.out⟩
structure nf(l:U4 Hp.Hi)(q f b:U7):Prop where
 b0:2*q+1<=b
 b1:b<=2*q+3
 f1:f<l.length
 ff:f=q\/(2*q+1<=f/\f<b/\Hp.ahead (Hp.at_ l f) (Hp.at_ l q))
 no:∀ i,2*q+1<=i->i<b->i<l.length->¬ Hp.ahead (Hp.at_ l i) (Hp.at_ l f)
theorem nf.new{l:U4 Hp.Hi}(h:q<l.length):nf l q q (2*q+1):=⟨by omega,by omega,h,.inl rfl,fun i g c _=>by omega⟩
theorem nf.yY{l:U4 Hp.Hi}(h:nf l q f b)(s:b<=2*q+2)(k:¬ Hp.ahead (Hp.at_ l b) (Hp.at_ l f)):nf l q f (b+1):=by
 refine⟨by have:=h.b0;omega,by omega,h.f1,?_,fun i g t c=>?_⟩
 ·rcases h.ff with e|⟨r,x,m⟩
  ·exact .inl e
  ·exact .inr ⟨r,by omega,m⟩
 ·by_cases e:i=b
  ·subst e;exact k
  ·exact h.no i g UT c
theorem nf.yes{l:U4 Hp.Hi}(h:nf l q f b)(r:b<=2*q+2)(c:b<l.length)(k:Hp.ahead (Hp.at_ l b) (Hp.at_ l f)):nf l q b (b+1):=by
 have t:=h.b0;refine⟨by omega,by omega,c,.inr ⟨by omega,by omega,?_⟩,fun i m s g=>?_⟩
 ·rcases h.ff with e|⟨z,y,x⟩
  ·rw[<- e];exact k
  ·unfold Hp.ahead at *;omega
 ·by_cases e:i=b
  ·subst e;exact Hp.SY _
  ·have:=h.no i m UT g;unfold Hp.ahead at *;omega
theorem nf.all{l:U4 Hp.Hi}(h:nf l q f b)(k:¬ b<=2*q+2\/¬ b<l.length):∀ i,0<i->i<l.length->Hp.par i=q->¬ Hp.ahead (Hp.at_ l i) (Hp.at_ l f):=by
 intro i m g c;have:=h.b0;unfold Hp.par at c;exact h.no i UT UT g
theorem PY(d o H cap:U7)(l:U4 Hp.Hi)(p:U7)(w:Vg)(h:HP w d o (.slice (Vd ⟨H,0,Vc⟩) l.length cap) l)(hp:p<l.length)(O:Hp.qQ l p p)(hl:l.length<=1000):
  Vj prog 252 #[.pointer (Vd ⟨d,o,Vc⟩),.int .i64 p] w fun e w'=>e=.returned (.tuple #[])/\∃ r,kR w w' d o H l.length cap l r/\Hp.oI r p:=by
 have T0:=aC (kR.new h);have R0:=aC O;clear h O
 go_in
 go_wp2_with fail
 go_loopw [1] (fun v wx=>∃ (q:U7) (r:U4 Hp.Hi),v=.int .i64 q/\q<l.length/\Hp.qQ r p q/\kR w wx d o H l.length cap l r) (fun v _=>l.length-(intOf v).toNat)
 case atStart=>exact⟨p,l,rfl,hp,R0.out,T0.out⟩
 case round =>
  obtain⟨q,r,rfl,hq,O,ht⟩:=hrel;have K:=aC ht;have I:=aC O;clear O ht;have w1:Vo.wrap (2*(q:U8))=2*(q:U8):=cG UT UT;have w2:Vo.wrap (2*(q:U8)+1)=2*(q:U8)+1:=cG UT UT;have w3:Vo.wrap (2*(q:U8)+2)=2*(q:U8)+2:=cG UT UT
  go_wp2_with fail
  go_loopw [4,5] (fun vf T wx=>∃ f b:U7,vf=.int .i64 f/\T=.int .i64 b/\nf r q f b/\kR w wx d o H l.length cap l r) (fun _ T _=>2*q+3-(intOf T).toNat)
  case atStart=>exact⟨q,2*q+1,rfl,by simp,nf.new (by rw[K.out.len];exact hq),K.out⟩
  case round =>
   obtain⟨f,b,rfl,rfl,t,ht⟩:=hrel;have k:=ht.len;have hc:=ht.hp.c
   by_cases Q:b<=2*q+2
   ·have b1:(b:U8)<=2*(q:U8)+2:=UT
    by_cases aa:b<l.length
    ·have b2:(b:U8)<(l.length:U8):=UT
     have fb:=t.f1;have Z:=aC (IW d o _ r b f wr ht.hp UT UT UT);have m:=aC ht;have D:=aC t;have hw:Vo.wrap ((b:U8)+1)=((b+1:U7):U8):=by rw[cG UT UT];omega
     clear ht t
     go_wp2_with fail
     refine Z.out.mono ?_;rintro e w4 ⟨rfl,X⟩;have S:=aC (m.out.later X);clear Z m X
     cases Y:tH (Hp.at_ r b) (Hp.at_ r f)
     ·have J:=aC (D.out.yY Q (Is.1 Y));clear D
      go_wp2
      go_roundw
      case rel=>exact⟨f,b+1,rfl,rfl,J.out,S.out⟩
      case measure=>simp[intOf];omega
     ·have J:=aC (D.out.yes Q UT (Ci.1 Y));clear D
      go_wp2
      go_roundw
      case rel=>exact⟨b,b+1,rfl,rfl,J.out,S.out⟩
      case measure=>simp[intOf];omega
    ·have b2:¬ ((b:U8)<(l.length:U8)):=UT
     have g:=aC (t.all UT);have x:=t.ff;have s:=t.f1;have U:=I.out.qp;have m:=aC ht;have y:=aC k
     by_cases z:f=q
     ·subst z;have W:=aC (zA ht (I.out.done UT g.out));clear ht t g x s m K I y k
      go_wp2_with fail
      (try simp only[WE,Exit.then]);refine bodyPost_ret (results_none rfl _ _ _) rfl ?_
      exact⟨rfl,r,W.out⟩
     ·have P:¬ ((f:U8)=(q:U8)):=UT
      have V:2*q+1<=f:=UT
      have R:=aC (BQ d o H cap r q f wr (by rw[k];exact ht.hp) UT UT UT);have C:Hp.ahead (Hp.at_ r f) (Hp.at_ r q):=by rcases x with e|e;exact Vb e z;exact e.2.2
      have D:=aC (I.out.step (c:=f) UT s (by unfold Hp.par;have:=t.ff;have:=t.b1;omega) C g.out);clear ht t g x C k
      go_wp2_with fail
      refine R.out.mono ?_;rintro e w5 ⟨rfl,N,M⟩
      have J:Hid (kR w w5 d o H l.length cap l (Hp.swap r q f)) :=
       ⟨by rw[<- y.out];exact N,Hp.qW.trans y.out,(Hp.xV (by rw[y.out];omega) s).trans m.out.perm,m.out.off.trans M⟩
      clear N M R m K
      go_wp2
      go_roundw
      case rel=>exact⟨f,_,rfl,by rw[<- y.out];exact s,D.out,J.out⟩
      case measure=>have:=y.out;simp[intOf];omega
   ·have b1:¬ ((b:U8)<=2*(q:U8)+2):=UT
    have g:=aC (t.all UT);have x:=t.ff;have s:=t.f1;have U:=I.out.qp;have m:=aC ht;have y:=aC k
    by_cases z:f=q
    ·subst z;have W:=aC (zA ht (I.out.done UT g.out));clear ht t g x s m K I y k
     go_wp2_with fail
     (try simp only[WE,Exit.then]);refine bodyPost_ret (results_none rfl _ _ _) rfl ?_
     exact⟨rfl,r,W.out⟩
    ·have P:¬ ((f:U8)=(q:U8)):=UT
     have V:2*q+1<=f:=UT
     have R:=aC (BQ d o H cap r q f wr (by rw[k];exact ht.hp) UT UT UT);have C:Hp.ahead (Hp.at_ r f) (Hp.at_ r q):=by rcases x with e|e;exact Vb e z;exact e.2.2
     have D:=aC (I.out.step (c:=f) UT s (by unfold Hp.par;have:=t.ff;have:=t.b1;omega) C g.out);clear ht t g x C k
     go_wp2_with fail
     refine R.out.mono ?_;rintro e w5 ⟨rfl,N,M⟩
     have J:Hid (kR w w5 d o H l.length cap l (Hp.swap r q f)) :=
      ⟨by rw[<- y.out];exact N,Hp.qW.trans y.out,(Hp.xV (by rw[y.out];omega) s).trans m.out.perm,m.out.off.trans M⟩
     clear N M R m K
     go_wp2
     go_roundw
     case rel=>exact⟨f,_,rfl,by rw[<- y.out];exact s,D.out,J.out⟩
     case measure=>have:=y.out;simp[intOf];omega
namespace aA
structure aL where
 id:U8
 kind:U8
 aT:U3
 aH:U8
 aK:U4 (U8 × U8)
 bY:U8
def hasB(t:U8)(s:U8 × U8):U6:=decide (s.1<=t) && decide (t<s.2)
def cP(L:U4 (U8 × U8))(t:U8):U8:=((L.filter (hasB t)).length:U8)
def bW(a b:U3):U6:=a.toList==b.toList
def cA(name:U3)(e:aL):U6:=bW e.aT name && (e.kind != 3)
def bP(name:U3)(t:U8):U4 aL->U8
 |[]=>0
 |e :: r=>(if cA name e then cP e.aK t*e.aH else 0)+bP name t r
def eC(name:U3):U4 aL->U4 U8
 |[]=>[]
 |e :: r=>(if bW e.aT name then e.aK.map (·.1) else [])++eC name r
theorem pQ(L:U4 (U8 × U8))(t:U8):0<=cP L t/\cP L t<=L.length:=by
 unfold cP;have:=WG (hasB t) L;omega
theorem Na(L:U4 (U8 × U8))(s:U8 × U8)(t:U8):cP (L++[s]) t=cP L t+if hasB t s then 1 else 0:=by
 unfold cP;rw[VO,V4]
 cases h:hasB t s <;> simp[h]
theorem yH(name:U3)(t:U8)(l r:U4 aL):bP name t (l++r)=bP name t l+bP name t r:=by
 induction l with
 |nil=>simp[bP]
 |cons e l ih=>simp only[VM,bP,ih];omega
theorem Nx(name:U3)(l r:U4 aL):eC name (l++r)=eC name l++eC name r:=by
 induction l with
 |nil=>rfl
 |cons e l ih=>simp only[VM,eC,ih,VY]
structure Small(e:aL):Prop where
 u0:0<=e.aH
 u1:e.aH<=9
 sl:e.aK.length<=100
theorem Eu(name:U3)(t:U8)(l:U4 aL)(h:∀ e∈l,Small e):0<=bP name t l/\bP name t l<=900*l.length:=by
 induction l with
 |nil=>simp[bP]
 |cons e l ih =>
  have i:=ih (fun x g=>h x (by simp[g]));have s:=h e UU;have b:=pQ e.aK t;have u0:=s.u0;have u1:=s.u1;have k:=s.sl;have c:0<=cP e.aK t*e.aH:=Wb b.1 s.u0;have d:cP e.aK t*e.aH<=100*9:=We UT s.u1 s.u0 UT;simp only[bP,V5]
  split <;> omega
end aA
def fW(w:Vg)(B:U7)(L:U4 (U8 × U8)):Prop:=∀ (i:U7)(h:i<L.length),w.cell? ⟨B,i*2,Vc⟩=Vd (.int .i64 L[i].1)/\w.cell? ⟨B,i*2+1,Vc⟩=Vd (.int .i64 L[i].2)
theorem fW.off(h:fW w B L)(k:aF G w w')(g:B ∉ G):fW w' B L:=fun i c=>⟨k.cell g (h i c).1,k.cell g (h i c).2⟩
theorem fW.later(h:fW w B L)(k:Vi w.heap.size w w'):fW w' B L:=h.off (G:=[]) (aF.aD k) UU
structure RE(w:Vg)(E i:U7)(e:aA.aL)(B cap:U7):Prop where
 c0:w.cell? ⟨E,i*6,Vc⟩=Vd (.int .i64 e.id)
 c1:w.cell? ⟨E,i*6+1,Vc⟩=Vd (.int .i64 e.kind)
 c2:w.cell? ⟨E,i*6+2,Vc⟩=Vd (.string e.aT)
 c3:w.cell? ⟨E,i*6+3,Vc⟩=Vd (.int .i64 e.aH)
 c4:w.cell? ⟨E,i*6+4,Vc⟩=Vd (.slice (Vd ⟨B,0,Vc⟩) e.aK.length cap)
 c5:w.cell? ⟨E,i*6+5,Vc⟩=Vd (.int .i64 e.bY)
 sl:fW w B e.aK
theorem RE.later{e:aA.aL}(h:RE w E i e B cap)(k:Vi w.heap.size w w'):RE w' E i e B cap:=by
 have o:aF [] w w':=aF.aD k;exact⟨o.cell UU h.c0,o.cell UU h.c1,o.cell UU h.c2,o.cell UU h.c3,o.cell UU h.c4,o.cell UU h.c5,h.sl.off o UU⟩
structure mc(w:Vg)(d:U7)(a:U5 Vk)(cap E:U7)(es:U4 aA.aL):Prop where
 c:w.cell? ⟨d,1,Vc⟩=Vd (.slice a es.length cap)
 a:es≠[]->a=Vd ⟨E,0,Vc⟩
 r:∀ (i:U7) (h:i<es.length),∃ B cap,RE w E i es[i] B cap
theorem mc.later{es:U4 aA.aL}(h:mc w d a cap E es)(k:Vi w.heap.size w w'):mc w' d a cap E es :=
 ⟨(aF.aD (F:=[]) k).cell UU h.c,h.a,fun i g=>by obtain⟨B,c,r⟩:=h.r i g;exact⟨B,c,r.later k⟩⟩
theorem mc.at{es:U4 aA.aL}(h:mc w d a cap E es)(c:i<es.length):a=Vd ⟨E,0,Vc⟩:=h.a (by intro e;simp[e] at c)
theorem Ew(B cap:U7)(L:U4 (U8 × U8))(t:U8)(w:Vg)(h:fW w B L)(x:L.length<=100000):
  Vj prog 241 #[.slice (Vd ⟨B,0,Vc⟩) L.length cap,.int .i64 t] w fun e w'=>e=.returned (.int .i64 (aA.cP L t))/\w'=w:=by
 have r:=aC h;clear h
 go_in
 go_wp2_with fail
 go_loop [5,6] (fun n i=>∃ k:U7,k<=L.length/\i=.int .i64 k/\n=.int .i64 (aA.cP (L.take k) t)) (fun _ i=>L.length-(intOf i).toNat)
 case atStart=>exact⟨0,Wg _,rfl,by simp[aA.cP]⟩
 case round =>
  obtain⟨k,y,rfl,rfl⟩:=hrel;have I:=aA.pQ (L.take k) t;have D:=Wp k L
  by_cases c:k<L.length
  ·have C:=(r.out k c).1;have z:=(r.out k c).2;have s:(k:U8)<(L.length:U8):=UT
   have e:aA.cP (L.take (k+1)) t=aA.cP (L.take k) t+if aA.hasB t L[k] then 1 else 0:=by rw[Wf c,aA.Na]
   have E:=aC e;clear e;generalize aA.cP (L.take k) t=n at *
   by_cases m:L[k].1<=t
   ·by_cases l:t<L[k].2
    ·have g:Hid (aA.hasB t L[k]=Vf):=by show aA.hasB t L[k]=Vf;simp[aA.hasB,m,l]
     go_wp2
     go_round
     case rel=>exact⟨k+1,by omega,by go_num,by rw[E.out,g.out];rfl⟩
     case measure=>simp[intOf];omega
    ·have g:Hid (aA.hasB t L[k]=Ve):=by show aA.hasB t L[k]=Ve;simp[aA.hasB,l]
     go_wp2
     go_round
     case rel=>exact⟨k+1,by omega,by go_num,by rw[E.out,g.out];simp⟩
     case measure=>simp[intOf];omega
   ·have g:Hid (aA.hasB t L[k]=Ve):=by show aA.hasB t L[k]=Ve;simp[aA.hasB,m]
    go_wp2
    go_round
    case rel=>exact⟨k+1,by omega,by go_num,by rw[E.out,g.out];simp⟩
    case measure=>simp[intOf];omega
  ·have e:L.take k=L:=Wh UT;have s:¬ (k:U8)<(L.length:U8):=UT
   go_wp2
   go_ret;exact⟨gK (by first|rfl|rw[e]),rfl⟩
theorem Ev(d:U7)(a:U5 Vk)(cap E:U7)(es:U4 aA.aL)(name:U3)(t:U8)(w:Vg)(h:mc w d a cap E es)(X:es.length<=1000)(M:∀ e∈es,aA.Small e):
  Vj prog 242 #[.pointer (Vd ⟨d,0,Vc⟩),.string name,.int .i64 t] w fun e w'=>e=.returned (.int .i64 (aA.bP name t es))/\Vi w.heap.size w w':=by
 have H:=aC h;have O:=aC M;clear h M
 go_in
 go_wp2_with fail
 go_loopw [7,8,9,10] (fun n i _ _ wx=>∃ k:U7,k<=es.length/\i=.int .i64 k/\n=.int .i64 (aA.bP name t (es.take k))/\Vi w.heap.size w wx) (fun _ i _ _ _=>es.length-(intOf i).toNat)
 case atStart=>exact⟨0,Wg _,rfl,by simp[aA.bP],Below.refl _ _⟩
 case round =>
  obtain⟨k,Y,rfl,rfl,x⟩:=hrel;have bd:=aA.Eu name t (es.take k) (fun e R=>O.out e (Wn R));have bl:=Wp k es;have D:=H.out.later x;have Z:=D.c
  by_cases m:k<es.length
  ·obtain rfl:=H.out.at m;obtain⟨B,S,s⟩:=D.r k m;have l:=O.out es[k] (zg m);have c0:=s.c0;have c1:=s.c1;have c2:=s.c2;have c3:=s.c3;have c4:=s.c4;have c5:=s.c5;have Q:(k:U8)<(es.length:U8):=UT
   have e:aA.bP name t (es.take (k+1))=aA.bP name t (es.take k)+(if aA.cA name es[k] then aA.cP es[k].aK t*es[k].aH else 0):=by
    rw[Wf m,aA.yH];simp[aA.bP]
   have K:=aC e;have tb:=aA.pQ es[k].aK t;have u0:=l.u0;have u1:=l.u1;have U:=l.sl;have W:0<=aA.cP es[k].aK t*es[k].aH:=Wb tb.1 u0;have V:aA.cP es[k].aK t*es[k].aH<=900:=by have:aA.cP es[k].aK t*es[k].aH<=100*9:=We UT u1 u0 UT;omega
   have RS:=aC s.sl;clear e s D l;generalize aA.bP name t (es.take k)=n at *
   cases y:aA.bW es[k].aT name
   ·have C:Hid (aA.cA name es[k]=Ve):=by show aA.cA name es[k]=Ve;simp[aA.cA,y]
    have I:(es[k].aT.toList==name.toList)=Ve:=y;have z:=aC x;clear x y
    go_wp2
    go_roundw
    case rel=>exact⟨k+1,by omega,by go_num,by rw[K.out,C.out];simp,bA z.out ((zr _ _).alloc (zq _) _) (zq _)⟩
    case measure=>simp[intOf];omega
   ·have I:(es[k].aT.toList==name.toList)=Vf:=y;have z:=aC x
    by_cases g:es[k].kind=3
    ·have J:(es[k].kind != 3)=Ve:=by simp[g]
     have C:Hid (aA.cA name es[k]=Ve):=by show aA.cA name es[k]=Ve;simp[aA.cA,g]
     clear x y g
     go_wp2
     go_roundw
     case rel=>exact⟨k+1,by omega,by go_num,by rw[K.out,C.out];simp,bA z.out ((zr _ _).alloc (zq _) _) (zq _)⟩
     case measure=>simp[intOf];omega
    ·have J:(es[k].kind != 3)=Vf:=by simp[g]
     have C:Hid (aA.cA name es[k]=Vf):=by show aA.cA name es[k]=Vf;simp[aA.cA,y,g]
     clear x y g;have N:=aC (fun w' (P:Vi wr.heap.size wr w')=>Ew B S es[k].aK t w' (RS.out.later P) UT)
     have T:Hid (n+aA.cP es[k].aK t*es[k].aH=n+if aA.cA name es[k] then aA.cP es[k].aK t*es[k].aH else 0):=by
      show n+_=n+_;rw[C.out];rfl
     generalize aA.cP es[k].aK t=q at *
     go_wp2_with fail
     refine (N.out _ ((zr _ _).alloc (zq _) _)).mono ?_;rintro e w' ⟨rfl,rfl⟩;clear N
     go_wp2
     go_roundw
     case rel=>exact⟨k+1,by omega,by go_num,by rw[K.out,<- T.out],bA z.out ((zr _ _).alloc (zq _) _) (zq _)⟩
     case measure=>simp[intOf];omega
  ·have e:es.take k=es:=Wh UT;have Q:¬ (k:U8)<(es.length:U8):=UT
   have z:=aC x;clear x D
   go_wp2
   go_ret;exact⟨gK (by first|rfl|rw[e]),z.out⟩
theorem pD:(prog.info? 3).map (fun i=>(i.zero,i.size,i.bytes))=Vd (Vd (.int .i64 0),1,8):=UY
theorem jD{c size:U7}{m:U4 Vh}(h:w.ownsRow c e size v n m){k:U7}(l:v.ownBlock=Vd k):c<=k:=by
 rcases h.2 with ⟨rfl,_⟩|⟨g,cap,r,rfl,s,_⟩
 ·simp[WH] at l
 ·simp[WH] at l;omega
theorem uU{k c size:U7}{xs:U4 Vh}(h:w.ownsRow k e size v n xs)(s:c<=k):w.ownsRow c e size v n xs:=by
 refine⟨h.1,?_⟩;rcases h.2 with t|⟨g,cap,l,m,r,rest⟩
 ·exact .inl t
 ·exact .inr ⟨g,cap,l,m,Vp s r,rest⟩
theorem eu{c size:U7}{xs:U4 Vh}(h:w.ownsRow c e size v n xs)(x:Vi w.heap.size w w'):w'.ownsRow c e size v n xs:=by
 refine⟨h.1,?_⟩;rcases h.2 with y|⟨g,cap,m,s,t,l,rest⟩
 ·exact .inl y
 ·refine .inr ⟨g,cap,m,s,t,?_,rest⟩
  have k:g<w.heap.size:=by
   by_cases r:g<w.heap.size
   ·exact r
   ·rw[WC UT] at l;cases l
  rw[x.block g k];exact l
theorem cC(w:Vg)(o:Obj):(w.alloc o).heap[w.heap.size]?=Vd o:=heap_alloc_new w o
theorem ir{c size:U7}{s:U4 Vh}(h:w.ownsRow c e size v n s){cs:Array Vh}{t:TypeId}{m:U7 × U7}(x:w.heap[b]?=Vd (.cells cs t m))(k:t≠e):v.ownBlock≠Vd b:=by
 intro l;rcases h.2 with ⟨rfl,_⟩|⟨g,cap,y,rfl,z,r,_⟩
 ·simp[WH] at l
 ·simp[WH] at l;subst l;rw[x] at r;simp at r;exact k r.2.1
theorem wR{k:U7}{c:U4 U8}(h:w.ownsRow k 3 1 v n (c.map (V3 .i64))):∃ a cap g,v=.slice a n cap/\n=c.length/\(c≠[]->a=Vd ⟨g,0,Vc⟩)/\∀ (i:U7)(l:i<c.length),w.cell? ⟨g,i,Vc⟩=Vd (.int .i64 c[i]):=by
 have m:=h.1;simp at m;rcases h.2 with ⟨rfl,x⟩|⟨g,cap,r,rfl,y,s,D,C,z,t⟩
 ·subst x;have:c=[]:=V8.1 m;subst this;exact⟨Vc,0,0,rfl,rfl,fun h=>Vb rfl h,fun i l=>by simp at l⟩
 ·refine⟨Vd ⟨g,0,Vc⟩,cap,g,rfl,m.symm,fun _=>rfl,fun i l=>?_⟩;have e:(r.toList.take (n*1))[i]?=(c.map (V3 .i64))[i]?:=by rw[t]
  rw[List.getElem?_map,List.getElem?_eq_getElem l,Wt UT] at e;simp only[WI,Option.map_some] at e;simp[VK,s,e]
def pe(e:aA.aL)(B cap:U7):Array Vh:=#[.int .i64 e.id,.int .i64 e.kind,.string e.aT,.int .i64 e.aH,.slice (Vd ⟨B,0,Vc⟩) e.aK.length cap,.int .i64 e.bY]
def mU(name:U3)(l:U4 aA.aL)(e:aA.aL)(j:U7):U4 U8:=aA.eC name l++(e.aK.take j).map (·.1)
theorem Av(name:U3)(l:U4 aA.aL)(h:∀ e∈l,aA.Small e):(aA.eC name l).length<=100*l.length:=by
 induction l with
 |nil=>simp[aA.eC]
 |cons e l ih =>
  have i:=ih (fun x c=>h x (by simp[c]));have s:=(h e UU).sl;simp only[aA.eC,V4,V5]
  split <;> simp <;> omega
theorem EP(d:U7)(a:U5 Vk)(cap E:U7)(es:U4 aA.aL)(name:U3)(w:Vg)(h:mc w d a cap E es)(hl:es.length<=1000)(hs:∀ e∈es,aA.Small e):
  Vj prog 240 #[.pointer (Vd ⟨d,0,Vc⟩),.string name] w fun e w'=>∃ v,e=.returned v/\w'.ownsRow w.heap.size 3 1 v (aA.eC name es).length ((aA.eC name es).map (V3 .i64))/\Vi w.heap.size w w':=by
 obtain⟨i0,ae,ac,ab,aa⟩:=info_parts pD;have H:=aC h;have HS:=aC hs;clear h hs
 go_in
 go_wp2_with fail
 go_loopw [5,6,7,8] (fun v i _ _ wx=>∃ k:U7,k<=es.length/\i=.int .i64 k/\wx.ownsRow w.heap.size 3 1 v (aA.eC name (es.take k)).length ((aA.eC name (es.take k)).map (V3 .i64))/\Vi w.heap.size w wx) (fun _ i _ _ _=>es.length-(intOf i).toNat)
 case atStart=>exact⟨0,Wg _,rfl,WJ _ _ _ _,Below.refl _ _⟩
 case round =>
  obtain⟨k,hk,rfl,g,t⟩:=hrel;have bl:=Wp k es;have O:=H.out.later t;have cc:=O.c;have sz:=Av name (es.take k) (fun e he=>HS.out e (Wn he))
  by_cases z:k<es.length
  ·obtain rfl:=H.out.at z;obtain⟨B,N,J⟩:=H.out.r k z;have K:=J.later t;have P:=HS.out es[k] (zg z);have c0:=K.c0;have c1:=K.c1;have c2:=K.c2;have c3:=K.c3;have c4:=K.c4;have c5:=K.c5;have hi:(k:U8)<(es.length:U8):=UT
   have e:aA.eC name (es.take (k+1))=aA.eC name (es.take k)++(if aA.bW es[k].aT name then es[k].aK.map (·.1) else []):=by
    rw[Wf z,aA.Nx];simp[aA.eC]
   have EE:=aC e;have sl:=P.sl;have RS:=aC J.sl;have HB:=aC t;have af:=t.size;have HO:=aC g;clear e K J O P g t
   go_wp2_with fail
   have hX:(wr.alloc (.cells (pe es[k] B N) 58)).heap[wr.heap.size]?=Vd (.cells (pe es[k] B N) 58):=cC _ _;have oX:(wr.alloc (.cells (pe es[k] B N) 58)).ownsRow w.heap.size 3 1 u5 (aA.eC name (es.take k)).length ((aA.eC name (es.take k)).map (V3 .i64)):=eu HO.out ((zr _ _).alloc (zq _) _);have bX:Vi w.heap.size w (wr.alloc (.cells (pe es[k] B N) 58)):=bA HB.out ((zr _ _).alloc (zq _) _) (zq _);simp only[pe] at hX oX bX;have W:=aC (zA hX (zA oX bX));clear hX oX bX c0 c1 c2 c3 c4 c5 cc HB HO;generalize (VJ wr _)=X at W ⊢;generalize wr.heap.size=bx at W af ⊢;have Q:∃ q,aA.bW es[k].aT name=q:=⟨_,rfl⟩;obtain⟨q,Q⟩:=Q;have ag:(es[k].aT.toList==name.toList)=q:=Q;have HQ:=aC Q;clear Q
   go_loopw [5,8] (fun v i wx=>∃ j:U7,j<=es[k].aK.length/\(q=Ve->j=0)/\i=.int .i64 j/\wx.ownsRow w.heap.size 3 1 v (mU name (es.take k) es[k] j).length ((mU name (es.take k) es[k] j).map (V3 .i64))/\Vi w.heap.size w wx/\wx.heap[bx]?=Vd (.cells (pe es[k] B N) 58)) (fun _ i _=>es[k].aK.length-(intOf i).toNat)
   case atStart=>exact⟨0,Wg _,fun _=>rfl,rfl,by rw[mU];simpa using W.out.2.1,W.out.2.2,W.out.1⟩
   case round =>
    obtain⟨j,hj,y,rfl,g,t,s⟩:=hrel;have b4:wr.cell? ⟨bx,4,Vc⟩=Vd (.slice (Vd ⟨B,0,Vc⟩) es[k].aK.length N):=by simp[VK,s,pe]
    have b2:wr.cell? ⟨bx,2,Vc⟩=Vd (.string es[k].aT):=by simp[VK,s,pe]
    have m:=aC (zA g (zA t s));have T:=t.size
    by_cases C:q=Vf/\j<es[k].aK.length
    ·obtain⟨rfl,S⟩:=C;have r1:=(RS.out.later t j S).1;have ad:(j:U8)<(es[k].aK.length:U8):=UT
     have V:mU name (es.take k) es[k] (j+1)=mU name (es.take k) es[k] j++[es[k].aK[j].1]:=by
      unfold mU;rw[Wf S,Wq,VY];rfl
     have ES:=aC V
     have ai:(mU name (es.take k) es[k] j).length<=100*k+100:=by
      unfold mU;have:=Wp j es[k].aK;simp only[V4,WK];omega
     have R:=ir g s UV;have Y:=aC R;clear V t s R y
     go_wp2_with (first
      |(at_builtin;refine wpList_append_own _ rfl _ _ 38 rfl w.heap.size 3 i0 (.int .i64 0) 1 8 underlying38 ae ac ab aa rfl UV _ _ _ rfl (g.alloc _) ⟨wr.heap.size,0,Vc⟩ 1 1 [.int .i64 es[k].aK[j].1] rfl rfl ?c1 ?c2 ?c3 ?c4 ?c5 ?_))
     case c1=>exact WL (cs:=#[.int .i64 es[k].aK[j].1]) (cC wr _)
     case c2=>simp[WM]
     case c3=>unfold maxLen;omega
     case c4=>omega
     case c5=>simp;omega
     intro v' w' x l _;have U:Vi w.heap.size w w':=(m.out.2.1.alloc T _).grown l UZ (fun k hk=>jD m.out.1 hk)
     have I:w'.heap[bx]?=Vd (.cells (pe es[k] B N) 58):=by
      have l1:bx<wr.heap.size:=by
       by_cases O:bx<wr.heap.size
       ·exact O
       ·have:=m.out.2.2;rw[WC UT] at this;cases this
      rw[l.block bx UZ (fun e=>Y.out e.symm)];exact (Below.heap_alloc wr _ bx l1).trans m.out.2.2
     have HK:Hid (w'.ownsRow w.heap.size 3 1 v' (mU name (es.take k) es[k] (j+1)).length ((mU name (es.take k) es[k] (j+1)).map (V3 .i64))):=by
      show w'.ownsRow _ _ _ _ _ _;rw[ES.out,Wq,V4];exact x
     have Z:=aC (zA U I);clear x l U I g m Y r1 b4 b2
     go_wp2
     go_roundw
     case rel=>exact⟨j+1,by omega,fun e=>(by cases e),by go_num,HK.out,Z.out.1,Z.out.2⟩
     case measure=>simp[intOf];omega
    ·have D:mU name (es.take k) es[k] j=aA.eC name (es.take (k+1)):=by
      rw[EE.out,mU,HQ.out]
      cases q with
      |false=>rw[y rfl];simp
      |true =>
       have:es[k].aK.take j=es[k].aK:=Wh (by have:¬ j<es[k].aK.length:=fun h=>C ⟨rfl,h⟩;omega);rw[this];rfl
     have HK:Hid (wr.ownsRow w.heap.size 3 1 u5 (aA.eC name (es.take (k+1))).length ((aA.eC name (es.take (k+1))).map (V3 .i64))):=by
      show wr.ownsRow _ _ _ _ _ _;rw[<- D];exact g
     clear g t s D
     have M:q=Ve\/(q=Vf/\¬ (j:U8)<(es[k].aK.length:U8)):=by
      cases q with
      |false=>exact .inl rfl
      |true=>exact .inr ⟨rfl,fun h=>C ⟨rfl,by omega⟩⟩
     clear C;rcases M with rfl|⟨rfl,ad⟩
     ·obtain rfl:=y rfl;clear y
      by_cases hz:(0:U8)<(es[k].aK.length:U8)
      all_goals
       go_wp2
       go_roundw
       case rel=>exact⟨k+1,by omega,by go_num,HK.out,m.out.2.1⟩
       case measure=>simp[intOf];omega
     ·clear y
      go_wp2
      go_roundw
      case rel=>exact⟨k+1,by omega,by go_num,HK.out,m.out.2.1⟩
      case measure=>simp[intOf];omega
  ·have e:es.take k=es:=Wh UT;have hi:¬ (k:U8)<(es.length:U8):=UT
   rw[e] at g;have HB:=aC (zA g t);clear t O g
   go_wp2
   go_ret;exact⟨_,rfl,HB.out.1,HB.out.2⟩
namespace aA
def bJ(name:U3):U4 (U3 × U8)->U8
 |[]=>0
 |t :: r=>if bW t.1 name then t.2 else bJ name r
def pv(c:U8)(name:U3)(aH:U8)(L:U4 (U8 × U8))(es:U4 aL)(x:U8):U6:=decide (0<cP L x) && decide (c<bP name x es+cP L x*aH)
def ou(c:U8)(name:U3)(aH:U8)(L:U4 (U8 × U8))(es:U4 aL)(l:U4 U8):U6:=l.all fun x=>!pv c name aH L es x
def dG(ts:U4 (U3 × U8))(es:U4 aL)(name:U3)(aH:U8)(L:U4 (U8 × U8)):U6:=ou (bJ name ts) name aH L es (eC name es++L.map (·.1))
end aA
structure oM(w:Vg)(d:U7)(a:U5 Vk)(cap G:U7)(ts:U4 (U3 × U8)):Prop where
 c:w.cell? ⟨d,0,Vc⟩=Vd (.slice a ts.length cap)
 a:ts≠[]->a=Vd ⟨G,0,Vc⟩
 r:∀ (i:U7) (h:i<ts.length),w.cell? ⟨G,i*2,Vc⟩=Vd (.string ts[i].1)/\w.cell? ⟨G,i*2+1,Vc⟩=Vd (.int .i64 ts[i].2)
theorem oM.later{G:U7}(h:oM w d a cap G ts)(k:Vi w.heap.size w w'):oM w' d a cap G ts :=
 ⟨aN k h.c,h.a,fun i g=>⟨aN k (h.r i g).1,aN k (h.r i g).2⟩⟩
theorem oM.at{G:U7}(h:oM w d a cap G ts)(c:i<ts.length):a=Vd ⟨G,0,Vc⟩:=h.a (by intro e;simp[e] at c)
theorem Aq(d:U7)(a:U5 Vk)(cap G:U7)(ts:U4 (U3 × U8))(name:U3)(w:Vg)(h:oM w d a cap G ts)(D:ts.length<=1000):
  Vj prog 229 #[.pointer (Vd ⟨d,0,Vc⟩),.string name] w fun e w'=>e=.returned (.int .i64 (aA.bJ name ts))/\w'=w:=by
 have H:=aC h;have J:=h.c;clear h
 go_in
 go_wp2_with fail
 go_loop [5] (fun i=>∃ k:U7,k<=ts.length/\i=.int .i64 k/\aA.bJ name ts=aA.bJ name (ts.drop k)) (fun i=>ts.length-(intOf i).toNat)
 case atStart=>exact⟨0,Wg _,rfl,rfl⟩
 case round =>
  obtain⟨k,I,rfl,x⟩:=hrel;have t:=aC x;clear x
  by_cases g:k<ts.length
  ·obtain rfl:=H.out.at g;obtain⟨M,K⟩:=H.out.r k g;have C:(k:U8)<(ts.length:U8):=UT
   have y:aA.bJ name (ts.drop k)=if aA.bW ts[k].1 name then ts[k].2 else aA.bJ name (ts.drop (k+1)):=by rw[WN g];rfl
   have z:=aC y;clear y
   cases l:aA.bW ts[k].1 name
   ·have s:(ts[k].1.toList==name.toList)=Ve:=l;have m:Hid (aA.bJ name ts=aA.bJ name (ts.drop (k+1))):=by show aA.bJ name ts=_;rw[t.out,z.out,l];rfl
    clear l
    go_wp2
    go_round
    case rel=>exact⟨k+1,by omega,by go_num,m.out⟩
    case measure=>simp[intOf];omega
   ·have s:(ts[k].1.toList==name.toList)=Vf:=l;have m:Hid (aA.bJ name ts=ts[k].2):=by show aA.bJ name ts=_;rw[t.out,z.out,l];rfl
    clear l
    go_wp2
    go_ret;exact⟨gK m.out.symm,rfl⟩
  ·have e:ts.drop k=[]:=WQ UT;have m:Hid (aA.bJ name ts=0):=by show aA.bJ name ts=0;rw[t.out,e];rfl
   have C:¬ (k:U8)<(ts.length:U8):=UT
   clear e
   go_wp2
   go_ret;exact⟨gK m.out.symm,rfl⟩
theorem DU(d:U7)(a:U5 Vk)(cap E:U7)(es:U4 aA.aL)(at_:U5 Vk)(ct G:U7)(ts:U4 (U3 × U8))(name:U3)(aH:U8)(B cb:U7)(L:U4 (U8 × U8))(w:Vg)(h:mc w d a cap E es)(ht:oM w d at_ ct G ts)(hL:fW w B L)(hl:es.length<=1000)(ai:ts.length<=1000)(R:∀ e∈es,aA.Small e)(au:L.length<=100)(P:0<=aH)(ag:aH<=9):
  Vj prog 182 #[.pointer (Vd ⟨d,0,Vc⟩),.string name,.int .i64 aH,.slice (Vd ⟨B,0,Vc⟩) L.length cb] w fun e w'=>e=.returned (.bool (aA.dG ts es name aH L))/\Vi w.heap.size w w':=by
 obtain⟨i0,ak,af,ae,ad⟩:=info_parts pD;have ST:=aC (EP d a cap E es name w h hl R);have UN:=aC (fun w' (k:Vi w.heap.size w w')=>Aq d at_ ct G ts name w' (ht.later k) ai);have TM:=aC (fun t w' (k:Vi w.heap.size w w')=>Ew B cb L t w' (hL.later k) UT);have TK:=aC (fun t w' (k:Vi w.heap.size w w')=>Ev d a cap E es name t w' (h.later k) hl R);have sz:=Av name es R;have HL:=aC hL;have ao:=aC (fun t=>aA.Eu name t es R);have K:aA.dG ts es name aH L=aA.ou (aA.bJ name ts) name aH L es (aA.eC name es++L.map (·.1)):=rfl;rw[K];obtain⟨l,D⟩:∃ l,aA.eC name es++L.map (·.1)=l:=⟨_,rfl⟩
 have ar:l.length<=100100:=by
  rw[<- D];simp only[V4,WK];omega
 rw[D];have ac:=aC D;generalize aA.bJ name ts=most at *;clear h ht R hL K D
 go_in
 go_wp2_with fail
 refine ST.out.mono ?_;rintro e w1 ⟨v1,rfl,T,W⟩;have O1:=aC (zA T W);clear ST T W
 go_wp2_with fail
 go_loopw [9,10] (fun v i wx=>∃ k:U7,k<=L.length/\i=.int .i64 k/\wx.ownsRow w.heap.size 3 1 v (aA.eC name es++(L.take k).map (·.1)).length ((aA.eC name es++(L.take k).map (·.1)).map (V3 .i64))/\Vi w.heap.size w wx) (fun _ i _=>L.length-(intOf i).toNat)
 case atStart=>exact⟨0,Wg _,rfl,by simpa using O1.out.1,O1.out.2⟩
 case round =>
  obtain⟨k,hk,rfl,c,r⟩:=hrel;have J:=aC (zA c r);have al:=r.size
  by_cases U:k<L.length
  ·have r1:=(HL.out.later r k U).1;have M:(k:U8)<(L.length:U8):=UT
   have aa:aA.eC name es++(L.take (k+1)).map (·.1)=(aA.eC name es++(L.take k).map (·.1))++[L[k].1]:=by
    rw[Wf U,Wq,VY];rfl
   have ES:=aC aa
   have av:(aA.eC name es++(L.take k).map (·.1)).length<=100100:=by
    have:=Wp k L;simp only[V4,WK];omega
   clear aa r
   go_wp2_with (first
    |(at_builtin;refine wpList_append_own _ rfl _ _ 38 rfl w.heap.size 3 i0 (.int .i64 0) 1 8 underlying38 ak af ae ad rfl UV _ _ _ rfl (c.alloc _) ⟨wr.heap.size,0,Vc⟩ 1 1 [.int .i64 L[k].1] rfl rfl (WL (cs:=#[.int .i64 L[k].1]) (cC wr _)) U1 U0 UT UZ ?_;intro v' w' s y _))
   have X:Vi w.heap.size w w':=(J.out.2.alloc al _).grown y UZ (fun k hk=>jD J.out.1 hk)
   have HK:Hid (w'.ownsRow w.heap.size 3 1 v' (aA.eC name es++(L.take (k+1)).map (·.1)).length ((aA.eC name es++(L.take (k+1)).map (·.1)).map (V3 .i64))):=by
    show w'.ownsRow _ _ _ _ _ _;rw[ES.out,Wq,V4];exact s
   have aq:=aC X;clear s y X c J r1
   go_wp2
   go_roundw
   case rel=>exact⟨k+1,by omega,by go_num,HK.out,aq.out⟩
   case measure=>simp[intOf];omega
  ·have e:L.take k=L:=Wh UT;have M:¬ (k:U8)<(L.length:U8):=UT
   rw[e,ac.out] at c;obtain⟨a2,c2,g2,rfl,aj,Z,S⟩:=wR c;have R2:=aC (zA Z (zA S r));clear c r e J Z S aj O1 ac
   go_wp2_with fail
   refine (UN.out _ R2.out.2.2).mono ?_;rintro e w2 ⟨rfl,rfl⟩;clear UN
   go_wp2_with fail
   go_loopw [12,13] (fun i _ wx=>∃ j:U7,j<=l.length/\i=.int .i64 j/\aA.ou most name aH L es (l.take j)=Vf/\Vi w2.heap.size w2 wx) (fun i _ _=>l.length-(intOf i).toNat)
   case atStart=>exact⟨0,Wg _,rfl,by simp[aA.ou],Below.refl _ _⟩
   case round =>
    obtain⟨j,hj,rfl,hf,r⟩:=hrel;have HF:=aC hf;have V:=bA R2.out.2.2 r (zq _);have g:=aC V;have HB:=aC r;clear hf V
    by_cases I:j<l.length
    ·obtain rfl:=R2.out.1 (by intro e;simp[e] at I);have c0:=aN r (R2.out.2.1 j I);have M:(j:U8)<(l.length:U8):=UT
     have Q:aA.ou most name aH L es (l.take (j+1))=(aA.ou most name aH L es (l.take j) && !aA.pv most name aH L es l[j]):=by
      unfold aA.ou;rw[Wf I,Wi];simp
     have ab:=aC Q;have m:=aC (TM.out l[j]);have C:=aC (TK.out l[j]);have an:=aA.pQ L l[j];have aw:=ao.out l[j]
     have Y:Hid (aA.pv most name aH L es l[j]=Vf->aA.ou most name aH L es l=Ve):=by
      intro ho;unfold aA.ou;rw[List.all_eq_false];exact⟨l[j],List.getElem_mem I,by simp[ho]⟩
     have x:aA.pv most name aH L es l[j]=(decide (0<aA.cP L l[j]) && decide (most<aA.bP name l[j] es+aA.cP L l[j]*aH)):=rfl;have m0:0<=aA.cP L l[j]*aH:=Wb an.1 P;have m1:aA.cP L l[j]*aH<=900:=by have:aA.cP L l[j]*aH<=100*9:=We UT ag P UT;omega
     generalize aA.cP L l[j]=n at *;generalize aA.bP name l[j] es=tk at *;have N:=aC x;clear Q x r
     by_cases hn:0<n
     ·by_cases hm:most<tk+n*aH
      ·have HO:Hid (aA.pv most name aH L es l[j]=Vf):=by show _=Vf;rw[N.out];simp[hn,hm]
       go_wp2_with fail
       refine (m.out _ g.out).mono ?_;rintro e w3 ⟨rfl,rfl⟩
       go_wp2_with fail
       refine (C.out _ g.out).mono ?_;rintro e w4 ⟨rfl,z⟩;have O:=aC (bA g.out z (zq _));clear z m C TM TK
       go_wp2
       go_ret;exact⟨n9 (Y.out HO.out).symm,O.out⟩
      ·have HO:Hid (aA.pv most name aH L es l[j]=Ve):=by show _=Ve;rw[N.out];simp[hm]
       go_wp2_with fail
       refine (m.out _ g.out).mono ?_;rintro e w3 ⟨rfl,rfl⟩
       go_wp2_with fail
       refine (C.out _ g.out).mono ?_;rintro e w4 ⟨rfl,z⟩;have O:=aC (bA HB.out z (zq _));clear z m C TM TK
       go_wp2
       go_roundw
       case rel=>exact⟨j+1,by omega,by go_num,by rw[ab.out,HF.out,HO.out];rfl,O.out⟩
       case measure=>simp[intOf];omega
     ·have HO:Hid (aA.pv most name aH L es l[j]=Ve):=by show _=Ve;rw[N.out];simp[hn]
      go_wp2_with fail
      refine (m.out _ g.out).mono ?_;rintro e w3 ⟨rfl,rfl⟩;clear m C TM TK
      go_wp2
      go_roundw
      case rel=>exact⟨j+1,by omega,by go_num,by rw[ab.out,HF.out,HO.out];rfl,HB.out⟩
      case measure=>simp[intOf];omega
    ·have e:l.take j=l:=Wh UT;have M:¬ (j:U8)<(l.length:U8):=UT
     rw[e] at HF;clear e r
     go_wp2
     go_ret;exact⟨n9 HF.out.symm,g.out⟩
namespace aA
def jm(id:U8):U4 aL->U8->U8
 |[],_=>-1
 |e :: r,i=>if e.id=id then i else jm id r (i+1)
def eh(es:U4 aL):U8:=((es.filter fun e=>e.kind==3).length:U8)
def dH(ts:U4 (U3 × U8))(name:U3)(aH:U8):U8:=if bJ name ts=0 then 3 else if bJ name ts<aH then 7 else 0
end aA
def dN(x:aA.aL × U7 × U7):U4 Vh:=[.int .i64 x.1.id,.int .i64 x.1.kind,.string x.1.aT,.int .i64 x.1.aH,.slice (Vd ⟨x.2.1,0,Vc⟩) x.1.aK.length x.2.2,.int .i64 x.1.bY]
structure pU(w:Vg)(d:U7)(a:U5 Vk)(cap E:U7)(xs:U4 (aA.aL × U7 × U7)):Prop where
 c:w.cell? ⟨d,1,Vc⟩=Vd (.slice a xs.length cap)
 a:xs≠[]->a=Vd ⟨E,0,Vc⟩
 r:∀ (i:U7) (h:i<xs.length),RE w E i xs[i].1 xs[i].2.1 xs[i].2.2
theorem pU.de{g:U4 (aA.aL × U7 × U7)}(h:pU w d a cap E g):mc w d a cap E (g.map (·.1)) :=
 ⟨by rw[WK];exact h.c,fun l=>h.a (by intro e;simp[e] at l),fun i m=>by
  have k:i<g.length:=by simpa using m
  exact⟨g[i].2.1,g[i].2.2,by simpa using h.r i k⟩⟩
theorem pU.later{xs:U4 (aA.aL × U7 × U7)}(h:pU w d a cap E xs)(k:Vi w.heap.size w w'):pU w' d a cap E xs:=⟨aN k h.c,h.a,fun i g=>(h.r i g).later k⟩
theorem pU.at{c:U4 (aA.aL × U7 × U7)}(h:pU w d a cap E c)(g:i<c.length):a=Vd ⟨E,0,Vc⟩:=h.a (by intro e;simp[e] at g)
theorem Mk(d:U7)(a:U5 Vk)(cap E:U7)(es:U4 aA.aL)(id:U8)(w:Vg)(h:mc w d a cap E es)(I:es.length<=1000):
  Vj prog 233 #[.pointer (Vd ⟨d,0,Vc⟩),.int .i64 id] w fun e w'=>e=.returned (.int .i64 (aA.jm id es 0))/\w'=w:=by
 have H:=aC h;have M:=h.c;clear h
 go_in
 go_wp2_with fail
 go_loop [5] (fun i=>∃ k:U7,k<=es.length/\i=.int .i64 k/\aA.jm id es 0=aA.jm id (es.drop k) k) (fun i=>es.length-(intOf i).toNat)
 case atStart=>exact⟨0,Wg _,rfl,rfl⟩
 case round =>
  obtain⟨k,J,rfl,x⟩:=hrel;have t:=aC x;clear x
  by_cases g:k<es.length
  ·obtain rfl:=H.out.at g;obtain⟨B,K,y⟩:=H.out.r k g;have N:=y.c0;have D:(k:U8)<(es.length:U8):=UT
   have z:aA.jm id (es.drop k) k=if es[k].id=id then (k:U8) else aA.jm id (es.drop (k+1)) (k+1):=by rw[WN g];rfl
   have C:=aC z;clear z y
   by_cases l:es[k].id=id
   ·have s:(es[k].id==id)=Vf:=by simp[l]
    have m:Hid (aA.jm id es 0=k):=by show aA.jm id es 0=k;rw[t.out,C.out,Va l]
    clear l
    go_wp2
    go_ret;exact⟨gK m.out.symm,rfl⟩
   ·have s:(es[k].id==id)=Ve:=by simp[l]
    have m:Hid (aA.jm id es 0=aA.jm id (es.drop (k+1)) ((k+1:U7):U8)):=by show aA.jm id es 0=_;rw[t.out,C.out,U9 l];rfl
    clear l
    go_wp2
    go_round
    case rel=>exact⟨k+1,by omega,by go_num,m.out⟩
    case measure=>simp[intOf];omega
  ·have e:es.drop k=[]:=WQ UT;have m:Hid (aA.jm id es 0=-1):=by show aA.jm id es 0=-1;rw[t.out,e];rfl
   have D:¬ (k:U8)<(es.length:U8):=UT
   clear e
   go_wp2
   go_ret;exact⟨gK m.out.symm,rfl⟩
theorem Nd(d:U7)(a:U5 Vk)(cap E:U7)(es:U4 aA.aL)(w:Vg)(h:mc w d a cap E es)(z:es.length<=1000):
  Vj prog 231 #[.pointer (Vd ⟨d,0,Vc⟩)] w fun e w'=>e=.returned (.int .i64 (aA.eh es))/\w'=w:=by
 have H:=aC h;have I:=h.c;clear h
 go_in
 go_wp2_with fail
 go_loop [3,4] (fun n i=>∃ k:U7,k<=es.length/\i=.int .i64 k/\n=.int .i64 (aA.eh (es.take k))) (fun _ i=>es.length-(intOf i).toNat)
 case atStart=>exact⟨0,Wg _,rfl,rfl⟩
 case round =>
  obtain⟨k,C,rfl,rfl⟩:=hrel
  have K:0<=aA.eh (es.take k)/\aA.eh (es.take k)<=k:=by
   unfold aA.eh;have:=WG (fun e:aA.aL=>e.kind==3) (es.take k);have:=Wp k es;omega
  by_cases g:k<es.length
  ·obtain rfl:=H.out.at g;obtain⟨B,D,s⟩:=H.out.r k g;have J:=s.c1;have y:(k:U8)<(es.length:U8):=UT
   have t:aA.eh (es.take (k+1))=aA.eh (es.take k)+if es[k].kind==3 then 1 else 0:=by
    unfold aA.eh;rw[Wf g,VO,V4]
    cases l:(es[k].kind==3) <;> simp[l]
   have x:=aC t;clear t s;generalize aA.eh (es.take k)=n at *
   cases l:(es[k].kind==3)
   ·have m:Hid (aA.eh (es.take (k+1))=n):=by show _=n;rw[x.out,l];simp
    go_wp2
    go_round
    case rel=>exact⟨k+1,by omega,by go_num,by rw[m.out]⟩
    case measure=>simp[intOf];omega
   ·have m:Hid (aA.eh (es.take (k+1))=n+1):=by show _=n+1;rw[x.out,l];simp
    go_wp2
    go_round
    case rel=>exact⟨k+1,by omega,by go_num,by rw[m.out]⟩
    case measure=>simp[intOf];omega
  ·have e:es.take k=es:=Wh UT;have y:¬ (k:U8)<(es.length:U8):=UT
   go_wp2
   go_ret;exact⟨gK (by first|rfl|rw[e]),rfl⟩
theorem MP(d:U7)(a:U5 Vk)(cap G:U7)(ts:U4 (U3 × U8))(name:U3)(aH:U8)(w:Vg)(h:oM w d a cap G ts)(x:ts.length<=1000):
  Vj prog 230 #[.pointer (Vd ⟨d,0,Vc⟩),.string name,.int .i64 aH] w fun e w'=>e=.returned (.int .i64 (aA.dH ts name aH))/\w'=w:=by
 have m:=aC (Aq d a cap G ts name w h x);have g:Hid (aA.dH ts name aH=if aA.bJ name ts=0 then 3 else if aA.bJ name ts<aH then 7 else 0):=rfl;generalize aA.bJ name ts=n at *;generalize aA.dH ts name aH=r at *;clear h
 by_cases c:n=0
 ·have k:Hid (r=3):=by show r=3;rw[g.out,Va c]
  have l:(n==0)=Vf:=by simp[c]
  clear c g
  go_in
  go_wp2_with fail
  refine m.out.mono ?_;rintro e s ⟨rfl,rfl⟩
  go_wp2
  go_ret;exact⟨gK k.out.symm,rfl⟩
 ·have l:(n==0)=Ve:=by simp[c]
  by_cases t:n<aH
  ·have k:Hid (r=7):=by show r=7;rw[g.out,U9 c,Va t]
   clear c g
   go_in
   go_wp2_with fail
   refine m.out.mono ?_;rintro e s ⟨rfl,rfl⟩
   go_wp2
   go_ret;exact⟨gK k.out.symm,rfl⟩
  ·have k:Hid (r=0):=by show r=0;rw[g.out,U9 c,U9 t]
   clear c g
   go_in
   go_wp2_with fail
   refine m.out.mono ?_;rintro e s ⟨rfl,rfl⟩
   go_wp2
   go_ret;exact⟨gK k.out.symm,rfl⟩
theorem wN:(prog.info? 58).map (fun i=>(i.zero,i.size,i.bytes))=Vd (Vd (.agg #[.int .i64 0,.int .i64 0,.string ⟨#[]⟩,.int .i64 0,.slice Vc 0 0,.int .i64 0]),6,72):=UY
def iR(id:U8)(c:U4 (aA.aL × U7 × U7)):U4 (aA.aL × U7 × U7):=c.filter fun x=>x.1.id != id
theorem wU(x:aA.aL × U7 × U7):(dN x).length=6:=rfl
theorem Eb(c:U4 (aA.aL × U7 × U7)):(c.flatMap dN).length=c.length*6:=by
 induction c with
 |nil=>rfl
 |cons x c ih=>simp only[Wu,V4,V5,ih,wU];omega
theorem wQ{r:U7}{c:U4 (aA.aL × U7 × U7)}(h:w.ownsRow r 58 6 v n (c.flatMap dN))(t:∀ x∈c,fW w x.2.1 x.1.aK):∃ a cap g,v=.slice a n cap/\n=c.length/\(c≠[]->a=Vd ⟨g,0,Vc⟩)/\∀ (i:U7)(s:i<c.length),RE w g i c[i].1 c[i].2.1 c[i].2.2:=by
 have I:=h.1;rw[Eb] at I;have C:n=c.length:=UT
 rcases h.2 with ⟨rfl,M⟩|⟨g,cap,z,rfl,P,J,S,R,Q,K⟩
 ·subst M;have:c=[]:=V8.1 C.symm;subst this;exact⟨Vc,0,0,rfl,rfl,fun h=>Vb rfl h,fun i s=>by simp at s⟩
 ·refine⟨Vd ⟨g,0,Vc⟩,cap,g,rfl,C,fun _=>rfl,fun i s=>?_⟩
  have k:∀ (j:U7) (u:Vh),j<6->(dN c[i])[j]?=Vd u->w.cell? ⟨g,i*6+j,Vc⟩=Vd u:=by
   intro j u O D
   have N:(c.flatMap dN)[i*6+j]?=Vd u:=by
    have l:c=c.take i++c[i] :: c.drop (i+1):=by rw[Wv,Wa]
    rw[l,Ww,Wu];have m:((c.take i).flatMap dN).length=i*6:=by rw[Eb,Wx UT]
    rw[Wy UT,m,Wz,Ws (by rw[wU];omega)];exact D
   have y:(z.toList.take (n*6))[i*6+j]?=Vd u:=by rw[K];exact N
   rw[Wt UT] at y;simp only[WI] at y;simp[VK,J,y]
  exact⟨k 0 _ UT rfl,k 1 _ UT rfl,k 2 _ UT rfl,k 3 _ UT rfl,k 4 _ UT rfl,k 5 _ UT rfl,t _ (zg s)⟩
theorem Ng(d:U7)(a:U5 Vk)(cap E:U7)(xs:U4 (aA.aL × U7 × U7))(id:U8)(w:Vg)(h:pU w d a cap E xs)(hl:xs.length<=1000):
  Vj prog 234 #[.pointer (Vd ⟨d,0,Vc⟩),.int .i64 id] w fun e w'=>∃ v,e=.returned v/\w'.ownsRow w.heap.size 58 6 v (iR id xs).length ((iR id xs).flatMap dN)/\Vi w.heap.size w w':=by
 obtain⟨U,N,M,K,J⟩:=info_parts wN;have H:=aC h;clear h
 go_in
 go_wp2_with fail
 go_loopw [5,6] (fun v i wx=>∃ k:U7,k<=xs.length/\i=.int .i64 k/\wx.ownsRow w.heap.size 58 6 v (iR id (xs.take k)).length ((iR id (xs.take k)).flatMap dN)/\Vi w.heap.size w wx) (fun _ i _=>xs.length-(intOf i).toNat)
 case atStart=>exact⟨0,Wg _,rfl,WJ _ _ _ _,Below.refl _ _⟩
 case round =>
  obtain⟨k,R,rfl,g,z⟩:=hrel;have D:=H.out.later z;have W:=D.c;have l:=aC (zA g z);have O:=z.size
  have bl:(iR id (xs.take k)).length<=k:=by
   have:=WG (fun x:aA.aL × U7 × U7=>x.1.id != id) (xs.take k);have:=Wp k xs;unfold iR;omega
  by_cases y:k<xs.length
  ·obtain rfl:=H.out.at y;have t:=D.r k y;have c0:=t.c0;have c1:=t.c1;have c2:=t.c2;have Z:=t.c3;have Y:=t.c4;have X:=t.c5;have V:(k:U8)<(xs.length:U8):=UT
   have S:iR id (xs.take (k+1))=iR id (xs.take k)++if xs[k].1.id != id then [xs[k]] else []:=by
    unfold iR;rw[Wf y,VO]
    cases I:(xs[k].1.id != id) <;> simp[I]
   have T:=aC S;clear S t D
   cases I:(xs[k].1.id != id)
   ·have P:Hid (iR id (xs.take (k+1))=iR id (xs.take k)):=by show _=_;rw[T.out,I];simp
    clear g z
    go_wp2
    go_roundw
    case rel=>exact⟨k+1,by omega,by go_num,by rw[P.out];exact l.out.1,l.out.2⟩
    case measure=>simp[intOf];omega
   ·have P:Hid (iR id (xs.take (k+1))=iR id (xs.take k)++[xs[k]]):=by show _=_;rw[T.out,I];simp
    clear z
    go_wp2_with (first
     |(at_builtin;refine wpList_append_own _ rfl _ _ 34 rfl w.heap.size 58 U _ 6 72 underlying34 N M K J rfl UV _ _ _ rfl (g.alloc _) ⟨wr.heap.size,0,Vc⟩ 1 1 (dN xs[k]) rfl rfl (WL (cs:=(dN xs[k]).toArray) (cC wr _)) (by simp[dN,WM]) U0 UT UZ ?_;intro v' w' m s _))
    have C:Vi w.heap.size w w':=(l.out.2.alloc O _).grown s UZ (fun k R=>jD l.out.1 R)
    have HK:Hid (w'.ownsRow w.heap.size 58 6 v' (iR id (xs.take (k+1))).length ((iR id (xs.take (k+1))).flatMap dN)):=by
     show w'.ownsRow _ _ _ _ _ _;rw[P.out,Ww,V4]
     simpa using m
    have Q:=aC C;clear m s C g l c0 c1 c2 Z Y X W
    go_wp2
    go_roundw
    case rel=>exact⟨k+1,by omega,by go_num,HK.out,Q.out⟩
    case measure=>simp[intOf];omega
  ·have e:xs.take k=xs:=Wh UT;have V:¬ (k:U8)<(xs.length:U8):=UT
   rw[e] at l;clear g z D e
   go_wp2
   go_ret;exact⟨_,rfl,l.out.1,l.out.2⟩
def jo(t:U3 × U8):U4 Vh:=[.string t.1,.int .i64 t.2]
structure RD(w:Vg)(d:U7)(ts:U4 (U3 × U8))(xs:U4 (aA.aL × U7 × U7))(given now:U8)(F:U4 U7):Prop where
 tv:∃ v,w.cell? ⟨d,0,Vc⟩=Vd v/\w.ownsRow 0 315 2 v ts.length (ts.flatMap jo)/\∀ k,v.ownBlock=Vd k->k∈F/\k≠d
 ev:∃ v,w.cell? ⟨d,1,Vc⟩=Vd v/\w.ownsRow 0 58 6 v xs.length (xs.flatMap dN)/\∀ k,v.ownBlock=Vd k->k∈F/\k≠d
 c2:w.cell? ⟨d,2,Vc⟩=Vd (.int .i64 given)
 c3:w.cell? ⟨d,3,Vc⟩=Vd (.int .i64 now)
 fz:∀ o,w.frozen? ⟨d,o,Vc⟩=Ve
 dF:d∈F
 sp:∀ x∈xs,fW w x.2.1 x.1.aK/\x.2.1 ∉ F/\x.2.1<w.heap.size
theorem RD.dx{xs:U4 (aA.aL × U7 × U7)}(h:RD w d ts xs given now F):∃ a cap E,pU w d a cap E xs:=by
 obtain⟨v,c,m,_⟩:=h.ev;obtain⟨a,cap,g,rfl,s,r,l⟩:=wQ m (fun x k=>(h.sp x k).1);exact⟨a,cap,g,c,r,l⟩
theorem Md(ts:U4 (U3 × U8)):(ts.flatMap jo).length=ts.length*2:=by
 induction ts with
 |nil=>rfl
 |cons x xs ih=>simp only[Wu,V4,V5,ih,jo,V9];omega
theorem RD.dt{y:U4 (aA.aL × U7 × U7)}(h:RD w d ts y given now F):∃ a cap G,oM w d a cap G ts:=by
 obtain⟨v,c,t,_⟩:=h.tv;have K:=t.1;rcases t.2 with ⟨rfl,I⟩|⟨g,cap,s,rfl,N,C,Q,P,O,D⟩
 ·have:ts=[]:=V8.1 I;subst this;exact⟨Vc,0,0,c,fun h=>Vb rfl h,fun i x=>by simp at x⟩
 ·refine⟨Vd ⟨g,0,Vc⟩,cap,g,c,fun _=>rfl,fun i x=>?_⟩
  have l:∀ (j:U7) (u:Vh),j<2->(jo ts[i])[j]?=Vd u->w.cell? ⟨g,i*2+j,Vc⟩=Vd u:=by
   intro j u M z
   have J:(ts.flatMap jo)[i*2+j]?=Vd u:=by
    have k:ts=ts.take i++ts[i] :: ts.drop (i+1):=by rw[Wv,Wa]
    rw[k,Ww,Wu];have m:((ts.take i).flatMap jo).length=i*2:=by rw[Md,Wx UT]
    rw[Wy UT,m,Wz,Ws (by simp[jo];omega)];exact z
   have r:(s.toList.take (ts.length*2))[i*2+j]?=Vd u:=by rw[D];exact J
   rw[Wt UT] at r;simp only[WI] at r;simp[VK,C,r]
  exact⟨l 0 _ UT rfl,l 1 _ UT rfl⟩
theorem dO{c size:U7}{xs:U4 Vh}(h:w.ownsRow c e size v n xs)(k:aF G w w')(x:∀ b,v.ownBlock=Vd b->b ∉ G):w'.ownsRow c e size v n xs:=by
 refine⟨h.1,?_⟩;rcases h.2 with z|⟨g,cap,r,s,y,m,rest⟩
 ·exact .inl z
 ·refine .inr ⟨g,cap,r,s,y,?_,rest⟩
  have l:g<w.heap.size:=by
   by_cases t:g<w.heap.size
   ·exact t
   ·rw[WC UT] at m;cases m
  rw[k.block g l (x g (by rw[s];rfl))];exact m
theorem RD.off{l:U4 (aA.aL × U7 × U7)}(h:RD w d ts l given now F)(k:aF G w w')(r:∀ x∈F,x ∉ G)(z:∀ x∈l,x.2.1 ∉ G):RD w' d ts l given now F:=by
 have c:d ∉ G:=r d h.dF;obtain⟨y,J,I,t⟩:=h.tv;obtain⟨v2,D,C,s⟩:=h.ev
 exact⟨⟨y,k.cell c J,dO I k (fun b m=>r b (t b m).1),t⟩,⟨v2,k.cell c D,dO C k (fun b m=>r b (s b m).1),s⟩,k.cell c h.c2,k.cell c h.c3,
  fun o=>(k.frozen c (Vq _ _ h.c2)).trans (h.fz o),h.dF,fun x g=>⟨(h.sp x g).1.off k (z x g),(h.sp x g).2.1,Wj (h.sp x g).2.2 k.size⟩⟩
def rO(c n:U8):Vh:=.agg #[.int .i64 c,.int .i64 0,.int .i64 n,.slice Vc 0 0,.slice Vc 0 0,.slice Vc 0 0,.slice Vc 0 0]
def lD(w:Vg)(d o:U7)(v:Vh)(g:U4 Hp.Hi)(w':Vg):Prop :=
 ∃ v',HP w' d o v' g/\(∀ b,v'.ownBlock=Vd b->v.ownBlock=Vd b\/w.heap.size<=b)/\aF (d :: v.ownBlock.toList) w w'/\(∀ c,c≠o->w'.cell? ⟨d,c,Vc⟩=w.cell? ⟨d,c,Vc⟩)/\∀ c,w'.frozen? ⟨d,c,Vc⟩=w.frozen? ⟨d,c,Vc⟩
theorem Sn{m:U4 Hp.Hi}(h:m.length=n+1)(a b c:Vh):(((m.flatMap iu).set (n*3) a).set (n*3+1) b).set (n*3+2) c=(m.take n).flatMap iu++[a,b,c]:=by
 have k:n<m.length:=UT
 have g:((m.take n).flatMap iu).length=n*3:=by rw[ya,Wx UT]
 conv=>lhs;rw[Cq k,Ww,Wu]
 rw[WB _ _ UT,WB _ _ UT,WB _ _ UT,g];rw[show n*3-n*3=0 from by omega,show n*3+1-n*3=1 from by omega,show n*3+2-n*3=2 from by omega];have e:m.drop (n+1)=[]:=WQ UT;simp[iu,e]
def vA(w:Vg)(H p n:U7)(x:Hp.Hi):Vg :=
 (((((w.setCell ⟨H,p*3,Vc⟩ (.int .i64 x.t)).setCell ⟨H,p*3+1,Vc⟩ (.int .i64 x.n)).setCell ⟨H,p*3+2,Vc⟩ (.pointer (Vd ⟨x.v,0,Vc⟩))).setCell ⟨H,n*3,Vc⟩ (.int .i64 0)).setCell ⟨H,n*3+1,Vc⟩ (.int .i64 0)).setCell ⟨H,n*3+2,Vc⟩ (.pointer Vc)
theorem S5(w:Vg)(H p n:U7)(x:Hp.Hi):aF [H] w (vA w H p n x):=(ua _ _ _ _ _ _ _ _).trans (ua _ _ _ _ _ _ _ _)
theorem HP.vA{l:U4 Hp.Hi}(h:HP w d o (.slice (Vd ⟨H,0,Vc⟩) l.length cap) l)(m:l.length=n+1)(y:p<l.length):
  HP ((vA w H p n (Hp.at_ l n)).setCell ⟨d,o,Vc⟩ (.slice (Vd ⟨H,0,Vc⟩) n cap)) d o (.slice (Vd ⟨H,0,Vc⟩) (Hp.cut l p).length cap) (Hp.cut l p):=by
 have g:d≠H:=fun e=>h.ne (by rw[e];rfl)
 have k:=S5 w H p n (Hp.at_ l n);have z:=k.cell (by simpa using g) h.c;have a:=h.put y (Hp.at_ l n);have e:Hp.cut l p=(l.set p (Hp.at_ l n)).take n:=by unfold Hp.cut;rw[m];rfl
 have r:(Hp.cut l p).length=n:=by rw[Hp.pM,m];rfl
 have s:(l.set p (Hp.at_ l n)).length=n+1:=by simpa using m
 have b:=(((a.own.stored (n*3) (.int .i64 0)).1.stored (n*3+1) (.int .i64 0)).1.stored (n*3+2) (.pointer Vc)).1;rw[Sn s,s,<- e] at b;have C:=ownsRow_pop (by rw[ya,r]) b;refine⟨?_,?_,h.ne,?_⟩
 ·rw[r];exact zm _ _ _ z
 ·rw[r];exact dO C (aF.aY d _ o _) (fun x t=>by simp;rintro rfl;exact g (by simpa[WH] using t.symm))
 ·exact (zF ..).trans ((k.frozen (by simpa using g) (Vq _ _ h.c)).trans h.fz)
theorem lD.of{g:Vg}{l1 m:U4 Hp.Hi}(s:v.ownBlock=Vd H)(C:d<w.heap.size)(k:d≠H)(t:aF [d,H] w g)(D:∀ c,c≠o->g.cell? ⟨d,c,Vc⟩=w.cell? ⟨d,c,Vc⟩)(z:∀ c,g.frozen? ⟨d,c,Vc⟩=w.frozen? ⟨d,c,Vc⟩)(l:kR g w2 d o H l1.length cap l1 m):lD w d o v m w2:=by
 have h:w2.heap[d]?=g.heap[d]?:=l.off.block d (zL C t.size) (by simpa using k);refine⟨_,l.hp,fun b h=>.inl (by rw[s];exact h),?_,fun c y=>(zo h).trans (D c y),fun c=>?_⟩
 ·rw[s];exact t.trans' l.off (fun x r=>.inl (by simp at r;simp[r]))
 ·exact (WS h).trans (z c)
theorem Uo(d o:U7)(v:Vh)(l:U4 Hp.Hi)(p:U7)(w:Vg)(h:HP w d o v l)(hh:Hp.gG l)(N:p<l.length)(hl:l.length<=1000):
  Vj prog 204 #[.pointer (Vd ⟨d,o,Vc⟩),.int .i64 p] w fun e w'=>e=.returned (.tuple #[])/\∃ r,lD w d o v r w'/\Hp.gG r/\l.Perm (Hp.at_ l p :: r):=by
 obtain⟨H,cap,rfl⟩:=h.form UT;obtain⟨n,U⟩:∃ n,l.length=n+1:=⟨l.length-1,by omega⟩;have c:=h.c;have m:d≠H:=fun e=>h.ne (by rw[e];rfl)
 obtain⟨a0,a1,a2⟩:=h.at N;obtain⟨b0,b1,b2⟩:=h.at (i:=n) UT;have fz:∀ k,w.frozen? ⟨H,k,Vc⟩=Ve:=fun k=>h.own.frozenAt k
 have fd:=h.fz;have W:=aC (h.vA U N);have e0:=(h.put N (Hp.at_ l n)).at (i:=n) UZ;have ee:Hp.at_ (l.set p (Hp.at_ l n)) n=Hp.at_ l n:=by rw[Hp.xw];split <;> rfl
 rw[ee] at e0;obtain⟨y0,y1,y2⟩:=e0;clear ee;have i1:(p:U8)<(l.length:U8):=UT
 have HH:=aC h;clear h;rw[U] at c i1;generalize hx:Hp.at_ l n=x at *
 go_in
 go_upto_region 1 with fail
 go_big_region
 have K:aF [H] w (((w.setCell ⟨H,p*3,Vc⟩ (.int .i64 x.t)).setCell ⟨H,p*3+1,Vc⟩ (.int .i64 x.n)).setCell ⟨H,p*3+2,Vc⟩ (.pointer (Vd ⟨x.v,0,Vc⟩))):=ua _ _ _ _ _ _ _ _;have c1:=K.cell (by simpa using m) c;have S:=(K.frozen (o:=o) (by simpa using m) (Vq _ _ c)).trans fd;have aa:∀ k,(((w.setCell ⟨H,p*3,Vc⟩ (.int .i64 x.t)).setCell ⟨H,p*3+1,Vc⟩ (.int .i64 x.n)).setCell ⟨H,p*3+2,Vc⟩ (.pointer (Vd ⟨x.v,0,Vc⟩))).frozen? ⟨H,k,Vc⟩=Ve:=fun k=>by simp[World.frozen?_setCell,fz]
 unfold vA at W;generalize hX:(((w.setCell ⟨H,p*3,Vc⟩ (.int .i64 x.t)).setCell ⟨H,p*3+1,Vc⟩ (.int .i64 x.n)).setCell ⟨H,p*3+2,Vc⟩ (.pointer (Vd ⟨x.v,0,Vc⟩)))=X at *;clear hX;have J:=ua X H (n*3) (n*3+1) (n*3+2) (.int .i64 0) (.int .i64 0) (.pointer Vc);have c2:=J.cell (by simpa using m) c1;have ab:=(J.frozen (o:=o) (by simpa using m) (Vq _ _ c1)).trans S
 go_upto_region 3 with fail
 generalize hY:((X.setCell ⟨H,n*3,Vc⟩ (.int .i64 0)).setCell ⟨H,n*3+1,Vc⟩ (.int .i64 0)).setCell ⟨H,n*3+2,Vc⟩ (.pointer Vc)=Y at *;clear hY
 have R:n+1<=cap:=by
  have h:=HH.out.own.2;rcases h with ⟨h0,_⟩|⟨g,ac,ae,hv,_,_,h1,_⟩
  ·cases h0
  ·cases hv;omega
 have C:(n:U8)<=(cap:U8):=UT
 have oo:aF [d,H] w (Y.setCell ⟨d,o,Vc⟩ (.slice (Vd ⟨H,0,Vc⟩) n cap)):=((K.trans J).mono UU).setCell (.inl UU) _ _;have s:d<w.heap.size:=Vq _ _ c
 have Q:∀ y,y≠o->(Y.setCell ⟨d,o,Vc⟩ (.slice (Vd ⟨H,0,Vc⟩) n cap)).cell? ⟨d,y,Vc⟩=w.cell? ⟨d,y,Vc⟩:=fun y ho =>
  (zS _ _ _ _ (by have:=ho;simp)).trans (zo ((K.trans J).block d s (by simpa using m)))
 have P:∀ y,(Y.setCell ⟨d,o,Vc⟩ (.slice (Vd ⟨H,0,Vc⟩) n cap)).frozen? ⟨d,y,Vc⟩=w.frozen? ⟨d,y,Vc⟩:=fun y =>
  (zF ..).trans (WS ((K.trans J).block d s (by simpa using m)))
 have D:=aC (zA oo (zA Q P));have el:(Hp.cut l p).length=n:=by rw[Hp.pM,U];rfl
 clear oo Q P K J c c1 a0 a1 a2 b0 b1 b2 y0 y1 y2 fz aa fd S
 by_cases ad:p<n
 ·have O:(p:U8)<(n:U8):=UT
  go_upto_region 5 with fail
  generalize hZ:Y.setCell ⟨d,o,Vc⟩ (.slice (Vd ⟨H,0,Vc⟩) n cap)=Z at *;have SK:=aC (PY d o H cap (Hp.cut l p) p Z.drew (W.out.off (G:=[]) (aF.refl _ _).drew UU UU) UT (Hp.Ph hh UT) UT);clear hZ R C c2 ab
  go_wp2_with fail
  refine SK.out.mono ?_;rintro e w4 ⟨rfl,l2,T,r2⟩;have V:=aC T;have z:=T.len;have RS:=aC (Gw d o H cap l2 p w4 (by rw[z];exact T.hp) UT r2 UT);clear T r2 SK
  go_wp2_with fail
  refine RS.out.mono ?_;rintro e w5 ⟨rfl,l3,I,r3⟩
  have HF:Hid (∃ r,lD w d o (.slice (Vd ⟨H,0,Vc⟩) l.length cap) r w5/\Hp.gG r/\l.Perm (Hp.at_ l p :: r)):=by
   refine⟨l3,lD.of (l1:=Hp.cut l p) rfl s m D.out.1 D.out.2.1 D.out.2.2 ⟨by rw[el,<- el,<- z];exact I.hp,by rw[I.len,z],I.perm.trans V.out.perm,((aF.refl [H] Z).drew).trans (V.out.off.trans I.off)⟩,r3,?_⟩;exact (Hp.Gn N).trans ((I.perm.trans V.out.perm).symm.cons _)
  clear I r3 V RS
  go_wp2
  go_end0
  exact⟨rfl,HF.out⟩
 ·have O:¬ ((p:U8)<(n:U8)):=UT
  have M:p=n:=UT
  have HF:Hid (∃ r,lD w d o (.slice (Vd ⟨H,0,Vc⟩) l.length cap) r (Y.setCell ⟨d,o,Vc⟩ (.slice (Vd ⟨H,0,Vc⟩) n cap)).drew/\Hp.gG r/\l.Perm (Hp.at_ l p :: r)):=by
   refine⟨Hp.cut l p,lD.of (l1:=Hp.cut l p) rfl s m D.out.1 D.out.2.1 D.out.2.2 ⟨W.out.off (G:=[]) (aF.refl _ _).drew UU UU,rfl,.refl _,(aF.refl _ _).drew⟩,?_,Hp.Gn N⟩;rw[M,show n=l.length-1 by omega];exact Hp.Pg hh
  clear W D U hx M el
  go_wp2
  go_end0
  exact⟨rfl,HF.out⟩
def sY(w:Vg)(d:U7)(ts:U4 (U3 × U8))(c:U4 (aA.aL × U7 × U7))(given now:U8)(F:U4 U7)(w':Vg):Prop :=
 ∃ F',RD w' d ts c given now F'/\(∀ k∈F',k∈F\/w.heap.size<=k)/\aF F w w'
theorem RD.np{m:U4 (aA.aL × U7 × U7)}(h:RD w d ts m given now F)(g:U8):RD (w.setCell ⟨d,2,Vc⟩ (.int .i64 g)) d ts m g now F:=by
 obtain⟨t,D,C,s⟩:=h.tv;obtain⟨v2,z,y,r⟩:=h.ev;have k:aF [d] w (w.setCell ⟨d,2,Vc⟩ (.int .i64 g)):=aF.aY ..
 exact⟨⟨t,(zS _ _ _ _ UU).trans D,dO C k (fun b l=>by simpa using (s b l).2),s⟩,⟨v2,(zS _ _ _ _ UU).trans z,dO y k (fun b l=>by simpa using (r b l).2),r⟩,VE _ _ _ h.c2,(zS _ _ _ _ UU).trans h.c3,
  fun o=>(zF ..).trans (h.fz o),h.dF,fun x c=>⟨(h.sp x c).1.off k (by simp;intro e;exact (h.sp x c).2.1 (e ▸ h.dF)),(h.sp x c).2.1,Wj (h.sp x c).2.2 k.size⟩⟩
theorem eV{c size:U7}{m:U4 Vh}(h:w.ownsRow c e size v n m)(k:v.ownBlock=Vd b):b<w.heap.size:=by
 rcases h.2 with ⟨rfl,_⟩|⟨g,cap,s,rfl,_,l,_⟩
 ·simp[WH] at k
 ·simp[WH] at k;subst k
  by_cases r:g<w.heap.size
  ·exact r
  ·rw[WC UT] at l;cases l
theorem aF.grown{w'':Vg}{row:U5 U7}(h:aF F w w')(g:w'.grownBy w'' row)(r:∀ k,row=Vd k->k∈F\/w.heap.size<=k):aF F w w'' :=
 ⟨g.os.trans h.os,g.tape.trans h.tape,g.output.trans h.output,Vp h.size g.size,fun k c l=>(g.block k (zL c h.size) (fun e=>by rcases r k e.symm with m|m;exact l m;omega)).trans (h.block k c l)⟩
theorem RD.kP{Y:Vg}{c:U4 (aA.aL × U7 × U7)}{g:U7}{x:aA.aL × U7 × U7}(h:RD Y d ts c given now F)(cv:Y.cell? ⟨d,1,Vc⟩=Vd v)(ho:Y.ownsRow 0 58 6 v c.length (c.flatMap dN))(r:∀ k,v.ownBlock=Vd k->k∈F/\k≠d)(k:aF (v.ownBlock.toList) Y w5)(N:w5.ownsRow 0 58 6 (.slice (Vd ⟨g,0,Vc⟩) (c.length+1) cap) (c.length+1) (c.flatMap dN++dN x))(S:v.ownBlock=Vd g\/Y.heap.size<=g)(Z:fW Y x.2.1 x.1.aK)(K:x.2.1 ∉ F)(J:x.2.1<Y.heap.size):
  RD (w5.setCell ⟨d,1,Vc⟩ (.slice (Vd ⟨g,0,Vc⟩) (c.length+1) cap)) d ts (c++[x]) given now (g :: F)/\aF (d :: v.ownBlock.toList) Y (w5.setCell ⟨d,1,Vc⟩ (.slice (Vd ⟨g,0,Vc⟩) (c.length+1) cap)):=by
 obtain⟨R,a1,V,Q⟩:=h.tv;have t:=Vq _ _ h.c2;have t:d<Y.heap.size:=t
 have z:g≠d:=by
  rcases S with e|e
  ·exact (r g e).2
  ·omega
 have s:d ∉ v.ownBlock.toList:=by
  intro e;have:v.ownBlock=Vd d:=by simpa using e
  exact (r d this).2 rfl
 have M:∀ b,R.ownBlock=Vd b->b ∉ d :: v.ownBlock.toList:=by
  intro b m e;rcases Vz.1 e with e|e
  ·exact (Q b m).2 e
  ·have e:v.ownBlock=Vd b:=by simpa using e
   rcases ho.2 with ⟨rfl,_⟩|⟨g',U,ab,rfl,_,hh,_⟩
   ·simp[WH] at e
   ·simp[WH] at e;subst e;exact ir V hh UV m
 have O:∀ y,y ∉ F->y ∉ d :: v.ownBlock.toList:=by
  intro y l e;rcases Vz.1 e with rfl|e
  ·exact l h.dF
  ·exact l (r y (by simpa using e)).1
 have C:aF (d :: v.ownBlock.toList) Y (w5.setCell ⟨d,1,Vc⟩ (.slice (Vd ⟨g,0,Vc⟩) (c.length+1) cap)):=(k.mono (by intro y l;exact WU _ l)).setCell (.inl UU) _ _
 have I:∀ y∈c++[x],fW Y y.2.1 y.1.aK/\y.2.1 ∉ F/\y.2.1<Y.heap.size:=by
  intro y l;rcases VA.1 l with l|l
  ·exact h.sp y l
  ·have:y=x:=by simpa using l
   subst this;exact⟨Z,K,J⟩
 have P:∀ o u,Y.cell? ⟨d,o,Vc⟩=Vd u->o≠1->(w5.setCell ⟨d,1,Vc⟩ (.slice (Vd ⟨g,0,Vc⟩) (c.length+1) cap)).cell? ⟨d,o,Vc⟩=Vd u:=by
  intro o u hu aa;exact (zS _ _ _ _ UU).trans (k.cell s hu)
 refine⟨⟨⟨R,P 0 _ a1 UT,dO V C M,fun b m=>⟨WU _ (Q b m).1,(Q b m).2⟩⟩,⟨_,VE _ _ _ (k.cell s cv),?_,?_⟩,P 2 _ h.c2 UT,P 3 _ h.c3 UT,fun o=>(zF ..).trans ((k.frozen s t).trans (h.fz o)),WU _ h.dF,?_⟩,C⟩
 ·rw[Ww,V4];have e1:([x].flatMap dN)=dN x:=UU
  rw[e1];exact dO N (aF.aY ..) (fun b m=>by simp[WH] at m;subst m;simpa using z)
 ·intro b m;simp[WH] at m;subst m;exact⟨by simp,z⟩
 ·intro y l;obtain⟨X,D,W⟩:=I y l;refine⟨X.off C (O _ D),fun e=>?_,Wj W C.size⟩;rcases Vz.1 e with e|e
  ·rcases S with T|T
   ·exact D (e ▸ (r g T).1)
   ·omega
  ·exact D e
end Go.Proofs.YtfigmlfdnickmaaGreatDoor
