import Derived.Test.YtfigmlfdnickmaaGreatDoorL01
import Derived.Lib.SmallJoins
import Derived.OwnWalk
import Derived.Deep.AppendLies
import Derived.Deep.CutRange
import Derived.Deep.RegionLaw
set_option maxRecDepth 100000
set_option maxHeartbeats 8000000
open Go.Proofs.Tryz
open _root_ renaming ByteArray->U4,List->U5,Option->U6,Bool->U7,Nat->U8,Int->U9,if_neg->Va,if_pos->Vb,absurd->Vc
open Option renaming none->Vd,some->Ve
open Bool renaming false->Vf,true->Vg
open Go renaming World->Vh,Value->Vi,Calls->Vk,Addr->Vl
open Go.RowKit renaming Below->Vj
open List renaming nodup_cons->VE,nodup_append->VJ,mem_append->VB,mem_cons->VA,length_append->V5,length_cons->V6,length->V7,cons_append->VN,length_eq_zero_iff->V9,filter_append->VP,length_nil->Wa,take_append_drop->Wb,take_succ_eq_append_getElem->Wg,take_of_length_le->Wi,all_append->Wj,mem_map->Wm,take_sublist->Wn,mem_of_mem_take->Wp,length_take_le->Wq,map_append->Wr,getD->Ws,getElem?_append_left->Wt,getElem?_take_of_lt->Wu,flatMap_cons->Wv,getElem_cons_drop->Ww,flatMap_append->Wx,length_take_of_le->Wy,getElem?_append_right->Wz,set_append_right->WC,length_set->WE,length_filter_le->WH,append_assoc->VZ,length_map->WL,drop_eq_getElem_cons->WQ,drop_eq_nil_of_le->WS,mem_cons_of_mem->WV
open Go.World renaming cell?_setCell_same->VF,block_lt_of_cell?->Vr,alloc->VK,cell?->VL,ownsRow_nil->WK,news_of_block->WM,frozen?_of_block->WU
open Int renaming mul_add->V8,mul_nonneg->Wc,mul_nonpos_of_nonpos_of_nonneg->We,mul_le_mul->Wf
open Nat renaming zero_le->Wh,lt_of_lt_of_le->Wk,le_trans->Vq,add_sub_cancel_left->WB
open Go.IntKind renaming i64->Vp
open List.Sublist renaming nodup->VT
open Array renaming getElem?_eq_none->WD,getElem?_toList->WJ
open Go.Value renaming int->V4,ownBlock->WI,oneCell'->WN
open Go.Exit renaming inBlock->WG
namespace Go.Proofs.YtfigmlfdnickmaaGreatDoor
variable{name:U4}{given id now:U9}{ts:U5 (U4 × U9)}{L:U5 (U9 × U9)}{A A':U5 U7->U9}{F F' Fl Fr Fs G:U5 U8}{B E H b cap d e eb f i j n o p q tb:U8}{a pl pr u ul us:U6 Vl}{v:Vi}{w w' w2 w4 w5 wx wy:Vh}
open Go.RowKit
def tX(w:Vh)(F:U5 U8)(c:aE.S)(e:Ending)(w':Vh):Prop :=
 ∃ (u:U6 Vl) (F':U5 U8),e=.returned (.pointer u)/\cR w' c (.pointer u) F'/\(∀ k∈F',k∈F\/w.heap.size<=k)/\aF F w w'
theorem cE.yX{x:aE.It}{l r D:aE.S}(h:cE w b x l r pl pr Fl Fr)(C:b ∉ G)(K:∀ y∈Fr,y ∉ G)(I:cR w2 D (.pointer u) F')(s:∀ k∈F',k∈G\/w.heap.size<=k)(m:aF G w w2):
  cE (w2.setCell ⟨b,6,Vd⟩ (.pointer u)) b x D r u pr F' Fr/\(∀ k∈b :: (F'++Fr),k∈b :: (G++Fr)\/w.heap.size<=k)/\aF (b :: (G++Fr)) w (w2.setCell ⟨b,6,Vd⟩ (.pointer u)):=by
 obtain⟨U,N,T,R,Q,P,O,M⟩:=h.parts;have g:=h.lt;refine⟨cE.jV (h.n.off m C) (m.cell C h.c7) I (h.r.off m K) ?_,fun k c=>?_,?_⟩
 ·refine VE.2 ⟨fun e=>?_,VJ.2 ⟨I.nodup,M,fun y t z J e=>?_⟩⟩
  ·rcases VB.1 e with e|e
   ·rcases s b e with e|e
    ·exact C e
    ·have:=g b UV;omega
   ·exact N e
  ·subst e;rcases s y t with e|e
   ·exact K y J e
   ·have:=g y (by simp[J]);omega
 ·rcases VA.1 c with rfl|c
  ·exact .inl UV
  ·rcases VB.1 c with c|c
   ·rcases s k c with e|e
    ·exact .inl (by simp[e])
    ·exact .inr e
   ·exact .inl (by simp[c])
 ·exact (m.mono (by intro y t;simp[t])).setCell (.inl UV) _ _
theorem cE.yW{x:aE.It}{l r D:aE.S}(h:cE w b x l r pl pr Fl Fr)(C:b ∉ G)(J:∀ y∈Fl,y ∉ G)(I:cR w2 D (.pointer u) F')(t:∀ k∈F',k∈G\/w.heap.size<=k)(m:aF G w w2):
  cE (w2.setCell ⟨b,7,Vd⟩ (.pointer u)) b x l D pl u Fl F'/\(∀ k∈b :: (Fl++F'),k∈b :: (Fl++G)\/w.heap.size<=k)/\aF (b :: (Fl++G)) w (w2.setCell ⟨b,7,Vd⟩ (.pointer u)):=by
 obtain⟨M,U,T,R,Q,P,K,O⟩:=h.parts;have g:=h.lt;refine⟨cE.jf (h.n.off m C) (m.cell C h.c6) (h.l.off m J) I ?_,fun k c=>?_,?_⟩
 ·refine VE.2 ⟨fun e=>?_,VJ.2 ⟨K,I.nodup,fun y s z N e=>?_⟩⟩
  ·rcases VB.1 e with e|e
   ·exact M e
   ·rcases t b e with e|e
    ·exact C e
    ·have:=g b UV;omega
  ·subst e;rcases t y N with e|e
   ·exact J y s e
   ·have:=g y (by simp[s]);omega
 ·rcases VA.1 c with rfl|c
  ·exact .inl UV
  ·rcases VB.1 c with c|c
   ·exact .inl (by simp[c])
   ·rcases t k c with e|e
    ·exact .inl (by simp[e])
    ·exact .inr e
 ·exact (m.mono (by intro y s;simp[s])).setCell (.inl UV) _ _
theorem size_put(x:aE.It):∀ t:aE.S,aE.size (aE.put x t)<=aE.size t+1
 |.nil=>by
  rw[<- aE.mM,aE.put,aE.nj];simp[aE.bS,aE.size]
 |.node y l r=>by
  have g:=size_put x l;have c:=size_put x r;rw[<- aE.mM] at g c;rw[<- aE.mM,aE.put];have k:=aE.mM l;have h:=aE.mM r
  split
  ·rw[aE.nj];simp only[V5,V6,aE.size];omega
  ·split
   ·rw[aE.nj];simp only[V5,V6,aE.size];omega
   ·rw[aE.nj];simp only[V5,V6,aE.size];omega
theorem Pa(x:aE.It):∀ (t:aE.S)(u:U6 Vl)(F:U5 U8)(c:U8)(w:Vh),cR w t (.pointer u) F->cE w c x .nil .nil Vd Vd [] []->c ∉ F->aE.size t<=10000->(∀ z∈aE.bS t,¬ (z.f=x.f/\z.n=x.n)) ->
  Vk prog 220 #[.pointer u,.pointer (Ve ⟨c,0,Vd⟩)] w (tX w (c :: F) (aE.put x t)):=by
 intro t
 induction t with
 |nil =>
  intro u F c w h V _ _ _;obtain⟨hu,rfl⟩:=h
  cases hu
  have P:=aC (sU w c x .nil .nil Vd Vd [] [] V (by simp[aE.ht]) (by simp[aE.ht]));clear V
  go_in
  go_wp2_with fail
  refine P.out.mono ?_;rintro e w2 ⟨u2,F2,rfl,K,J,m⟩;have HK:Hid (tX w [c] (aE.put x .nil) (.returned (.pointer u2)) w2):=⟨u2,F2,rfl,K,fun k N=>.inl (J k N),m⟩;clear K J m P
  go_wp2
  go_ret;exact HK.out
 |node y l r ihl ihr =>
  intro u F c w h V O ac s;have aa:=aC ihl;have Z:=aC ihr;clear ihl ihr;obtain⟨b,pl,pr,Fl,Fr,rfl,rfl,T,_,_⟩:=h.half;have ab:¬ (y.f=x.f/\y.n=x.n):=s y (by simp[aE.bS]);have sl:=size_put x l;have sr:=size_put x r;have hs:aE.size (.node y l r)=1+aE.size l+aE.size r:=rfl
  have W:aE.side x.f x.n y<0\/0<aE.side x.f x.n y:=by
   by_cases a:aE.side x.f x.n y<0
   ·exact .inl a
   ·refine .inr ?_;rw[aE.sM] at a;rw[aE.vP];omega
  have a0:=V.n.c0;have a2:=V.n.c2;have CM:=aC (fun w' k'=>I5 b y x.f x.n w' (T.n.off (G:=[]) k' UV));rcases W with a|a
  ·have ep:aE.put x (.node y l r)=aE.fQ y (aE.put x l) r:=by rw[aE.put,Vb a]
   rw[ep]
   have PT:Hid (∀ w2,Vj w.heap.size w w2->Vk prog 220 #[.pointer pl,.pointer (Ve ⟨c,0,Vd⟩)] w2 (tX w2 (c :: Fl) (aE.put x l))) :=
    fun w2 U=>aa.out pl Fl c w2 (T.l.later U) (V.same (aF.aD U)) (fun e=>O (by simp[e])) UU (fun z hz=>s z (by simp[aE.bS,hz]))
   have HH:=aC (fun w2 (U:Vj w.heap.size w w2)=>T.same (aF.aD U))
   have C:b ∉ c :: Fl:=by
    simp only[VA,not_or];exact⟨fun e=>O (by simp[e]),T.parts.1⟩
   have X:∀ y∈Fr,y ∉ c :: Fl:=by
    intro y hy;simp only[VA,not_or];exact⟨fun e=>O (by simp[<- e,hy]),T.parts.2.2.2.2.1 y hy⟩
   have R:aE.ht (aE.put x l)<=30000:=by have:=aE.ma (aE.put x l);omega
   have Q:aE.ht r<=30000:=by have:=aE.ma r;omega
   clear T V aa Z s hs sl sr ab ep
   go_in
   go_upto_region 3 with fail
   go_region_held3 (fun w'=>w'.cell? ⟨c,0,Vd⟩=Ve (.int .i64 x.f)/\w'.cell? ⟨c,2,Vd⟩=Ve (.int .i64 x.n)/\Vj w.heap.size w w')
    (first
     |exact⟨a0,a2,dM _⟩
     |(go_split_ands;exact⟨aN I UX,aN I UX,bA UX I (zq _)⟩))
    (first
     |(go_at_call 263;go_split_ands;refine (CM.out _ (aF.aD UX)).mono ?_;rintro e w2 ⟨rfl,I⟩))
   have Y:Vj w.heap.size w w2:=by go_split_ands;assumption
   have D:=HH.out w2 Y;have c6:=D.c6;have P:=aC Y;have g:=aC D;clear Y D HH CM a0 a2
   go_wp2_with fail
   refine (PT.out _ P.out).mono ?_;rintro e w3 ⟨u3,F3,rfl,K,J,m⟩;obtain⟨m1,m2,m3⟩:=g.out.yX C X K J m;have d6:=m.cell (o:=6) C c6;have f6:=(m.frozen (o:=6) C g.out.n.lt).trans (g.out.n.fz 6);have M:=aC (zA m1 (zA m2 m3));clear m1 m2 m3 K J m c6 PT g
   go_wp2_with fail
   refine (sU _ b y (aE.put x l) r _ _ _ _ M.out.1 R Q).mono ?_;rintro e w4 ⟨u4,F4,rfl,K,J,m⟩
   have HK:Hid (tX w (c :: (b :: (Fl++Fr))) (aE.fQ y (aE.put x l) r) (.returned (.pointer u4)) w4):=by
    have z1:=P.out.size;have z2:=M.out.2.1;refine⟨u4,F4,rfl,K,fun k N=>?_,?_⟩
    ·have:=z2 k (J k N);simp only[VA,VB] at this ⊢
     grind
    ·have o1:aF (c :: (b :: (Fl++Fr))) w _:=(aF.aD P.out).trans (M.out.2.2.mono (by intro k N;simp only[VA,VB] at N ⊢;grind));refine o1.trans' m (fun k N=>?_);have:=z2 k N;simp only[VA,VB] at this ⊢
     grind
   clear K J m M P d6 f6
   go_wp2
   go_ret;exact HK.out
  ·have a':¬ aE.side x.f x.n y<0:=UU
   have ep:aE.put x (.node y l r)=aE.fQ y l (aE.put x r):=by rw[aE.put,Va a',Vb a]
   rw[ep]
   have PT:Hid (∀ w2,Vj w.heap.size w w2->Vk prog 220 #[.pointer pr,.pointer (Ve ⟨c,0,Vd⟩)] w2 (tX w2 (c :: Fr) (aE.put x r))) :=
    fun w2 U=>Z.out pr Fr c w2 (T.r.later U) (V.same (aF.aD U)) (fun e=>O (by simp[e])) UU (fun z hz=>s z (by simp[aE.bS,hz]))
   have HH:=aC (fun w2 (U:Vj w.heap.size w w2)=>T.same (aF.aD U))
   have C:b ∉ c :: Fr:=by
    simp only[VA,not_or];exact⟨fun e=>O (by simp[e]),T.parts.2.1⟩
   have X:∀ y∈Fl,y ∉ c :: Fr:=by
    intro y hy;simp only[VA,not_or];exact⟨fun e=>O (by simp[<- e,hy]),T.parts.2.2.2.2.2.1 y hy⟩
   have R:aE.ht (aE.put x r)<=30000:=by have:=aE.ma (aE.put x r);omega
   have Q:aE.ht l<=30000:=by have:=aE.ma l;omega
   clear T V aa Z s hs sl sr ab ep
   go_in
   go_upto_region 3 with fail
   go_region_held3 (fun w'=>w'.cell? ⟨c,0,Vd⟩=Ve (.int .i64 x.f)/\w'.cell? ⟨c,2,Vd⟩=Ve (.int .i64 x.n)/\Vj w.heap.size w w')
    (first
     |exact⟨a0,a2,dM _⟩
     |(go_split_ands;exact⟨aN I UX,aN I UX,bA UX I (zq _)⟩))
    (first
     |(go_at_call 263;go_split_ands;refine (CM.out _ (aF.aD UX)).mono ?_;rintro e w2 ⟨rfl,I⟩))
   have Y:Vj w.heap.size w w2:=by go_split_ands;assumption
   have D:=HH.out w2 Y;have c6:=D.c7;have P:=aC Y;have g:=aC D;clear Y D HH CM a0 a2
   go_wp2_with fail
   refine (PT.out _ P.out).mono ?_;rintro e w3 ⟨u3,F3,rfl,K,J,m⟩;obtain⟨m1,m2,m3⟩:=g.out.yW C X K J m;have d6:=m.cell (o:=7) C c6;have f6:=(m.frozen (o:=7) C g.out.n.lt).trans (g.out.n.fz 7);have M:=aC (zA m1 (zA m2 m3));clear m1 m2 m3 K J m c6 PT g
   go_wp2_with fail
   refine (sU _ b y l (aE.put x r) _ _ _ _ M.out.1 Q R).mono ?_;rintro e w4 ⟨u4,F4,rfl,K,J,m⟩
   have HK:Hid (tX w (c :: (b :: (Fl++Fr))) (aE.fQ y l (aE.put x r)) (.returned (.pointer u4)) w4):=by
    have z1:=P.out.size;have z2:=M.out.2.1;refine⟨u4,F4,rfl,K,fun k N=>?_,?_⟩
    ·have:=z2 k (J k N);simp only[VA,VB] at this ⊢
     grind
    ·have o1:aF (c :: (b :: (Fl++Fr))) w _:=(aF.aD P.out).trans (M.out.2.2.mono (by intro k N;simp only[VA,VB] at N ⊢;grind));refine o1.trans' m (fun k N=>?_);have:=z2 k N;simp only[VA,VB] at this ⊢
     grind
   clear K J m M P d6 f6
   go_wp2
   go_ret;exact HK.out
theorem Ix(x:aE.It)(l r:aE.S):aE.size (aE.kR x l r)=aE.size l+aE.size r:=by
 have:=congrArg V7 (aE.Cp x l r);simp only[V6,V5,aE.mM] at this;omega
def AY(w:Vh)(F:U5 U8)(x:aE.It)(g:aE.S)(e:Ending)(w':Vh):Prop :=
 ∃ (c:U8) (u:U6 Vl) (F':U5 U8),e=.returned (.tuple #[.pointer (Ve ⟨c,0,Vd⟩),.pointer u])/\gh w' c x/\cR w' g (.pointer u) F'/\c ∉ F'/\c∈F/\(∀ k∈F',k∈F)/\aF F w w'
theorem Ud:∀ (l:aE.S)(x:aE.It)(r:aE.S)(u:U6 Vl)(F:U5 U8)(w:Vh),cR w (.node x l r) (.pointer u) F->aE.size l<=10000->aE.size r<=10000 ->
  Vk prog 307 #[.pointer u] w (AY w F (aE.nZ x l r) (aE.kR x l r)):=by
 intro l
 induction l with
 |nil =>
  intro x r u F w h _ _;obtain⟨b,pl,pr,Fl,Fr,rfl,rfl,g,_,_⟩:=h.half;obtain⟨hp,rfl⟩:=g.l
  cases hp
  have W:=g.c6;have c7:=g.c7
  have X:Hid (AY w (b :: ([]++Fr)) x r (.returned (.tuple #[.pointer (Ve ⟨b,0,Vd⟩),.pointer pr])) w.drew):=by
   have ho:aF [] w w.drew:=(aF.refl _ _).drew;exact⟨b,pr,Fr,rfl,g.n.off ho UV,g.r.same ho,g.parts.2.1,by simp,fun k t=>by simp[t],(aF.refl _ _).drew⟩
  clear h g
  go_in
  go_wp2_with fail
  go_region_held3 (fun w'=>w'.cell? ⟨b,7,Vd⟩=Ve (.pointer pr)) (exact c7) (fail)
  go_wp2
  go_ret2;exact X.out
 |node y a c ihl _ =>
  intro x r u F w h U T;have IH:=aC ihl;clear ihl;obtain⟨b,pl,pr,Fl,Fr,rfl,rfl,g,_,_⟩:=h.half;have es:aE.size (.node y a c)=1+aE.size a+aE.size c:=rfl;have TK:=aC (IH.out y c pl Fl w g.l UU UU);obtain⟨bl,pa,pb,Fa,Fb,rfl,V,_,_,_⟩:=g.l.half;clear V;have W:=g.c6;have e1:=Ix y a c;have e2:=aE.ma (aE.kR y a c);have e3:=aE.ma r;have g1:aE.ht (aE.kR y a c)<=30000:=UU
  have g2:aE.ht r<=30000:=UU
  have C:=aC g;have eF:aE.nZ x (.node y a c) r=aE.nZ y a c:=rfl;have eR:aE.kR x (.node y a c) r=aE.fQ x (aE.kR y a c) r:=rfl;rw[eF,eR];generalize aE.nZ y a c=fx at *;generalize aE.kR y a c=tx at *;clear h g es e1 e2 e3 IH U T eF eR
  go_in
  go_wp2_with fail
  refine TK.out.mono ?_;rintro e w1 ⟨z,u1,F1,rfl,Z,Y,K,D,J,I⟩;obtain⟨P,m2,O⟩:=C.out.rC Y (fun k t=>.inl (J k t)) I;have d6:=I.cell (o:=6) C.out.parts.1 W;have f6:=(I.frozen (o:=6) C.out.parts.1 C.out.n.lt).trans (C.out.n.fz 6);have m:z≠b:=by rintro rfl;exact C.out.parts.1 D
  have s:z ∉ Fr:=fun e=>C.out.parts.2.2.2.2.1 z e D
  have N:gh (w1.setCell ⟨b,6,Vd⟩ (.pointer u1)) z fx:=Z.off (aF.aY ..) (by simpa using m);have M:=aC (zA P (zA O (zA N (zA K (zA D (zA J (zA m s)))))));clear P m2 O N Z Y K D J I m s TK W
  go_wp2_with fail
  refine (sU _ b x tx r _ _ _ _ M.out.1 g1 g2).mono ?_;rintro e w4 ⟨u4,F4,rfl,k1,R,Q⟩
  have X:Hid (AY w (b :: (Fl++Fr)) fx (aE.fQ x tx r) (.returned (.tuple #[.pointer (Ve ⟨z,0,Vd⟩),.pointer u4])) w4):=by
   obtain⟨P,O,N,K,D,J,m,s⟩:=M.out;have hn:z ∉ b :: (F1++Fr):=by simp only[VA,VB,not_or];exact⟨m,K,s⟩
   refine⟨z,u4,F4,rfl,N.off Q hn,k1,fun e=>hn (R _ e),by simp[D],fun k t=>?_,O.trans' Q (fun k t=>?_)⟩
   ·have:=R k t;simp only[VA,VB] at this ⊢
    grind
   ·simp only[VA,VB] at t ⊢
    grind
  clear k1 R Q M d6 f6
  go_wp2
  go_ret2;exact X.out
theorem RN(l:aE.S)(u:U6 Vl)(F:U5 U8)(w:Vh)(h:cR w l (.pointer u) F):
  Vk prog 297 #[.pointer u,.pointer Vd] w (kU w F l):=by
 go_in
 go_wp2
 go_ret;exact⟨u,F,rfl,h,fun _ c=>c,aF.refl _ _⟩
theorem RM(l r:aE.S)(pl pr:U6 Vl)(Fl Fr:U5 U8)(w:Vh)(U:cR w l (.pointer pl) Fl)(J:cR w r (.pointer pr) Fr)(hd:∀ k∈Fl,k ∉ Fr)(R:aE.size l<=10000)(Q:aE.size r<=10000):
  Vk prog 297 #[.pointer pl,.pointer pr] w (kU w (Fl++Fr) (aE.kQ l r)):=by
 cases r with
 |nil =>
  obtain⟨T,rfl⟩:=J
  cases T
  rw[List.append_nil];exact RN l pl Fl w U
 |node y a c =>
  have es:aE.size (.node y a c)=1+aE.size a+aE.size c:=rfl;have TK:=aC (Ud a y c pr Fr w J UU UU);obtain⟨br,pa,pb,Fa,Fb,rfl,V,_,_,_⟩:=J.half;clear V;have e1:=Ix y a c;have e2:=aE.ma (aE.kR y a c);have e3:=aE.ma l;have g1:aE.ht (aE.kR y a c)<=30000:=UU
  have g2:aE.ht l<=30000:=UU
  have eR:aE.kQ l (.node y a c)=aE.fQ (aE.nZ y a c) l (aE.kR y a c):=rfl;rw[eR];generalize aE.nZ y a c=fx at *;generalize aE.kR y a c=tx at *;have HL:=aC U;have K:=aC hd;clear U J hd es e1 e2 e3 eR R Q
  go_in
  go_wp2_with fail
  refine TK.out.mono ?_;rintro e X ⟨h,u1,F1,rfl,z,P,O,x,D,N⟩;have t:=HL.out.off N K.out;have s:h ∉ Fl:=fun e=>K.out h e x
  have C:∀ k∈Fl,k ∉ F1:=fun k g e=>K.out k g (D k e)
  obtain⟨y6,d6⟩:=z.c6;obtain⟨y7,d7⟩:=z.c7;have f6:=z.fz 6;have f7:=z.fz 7;have Y:(h :: (Fl++F1)).Nodup:=VE.2 ⟨by simp only[VB,not_or];exact⟨s,O⟩,VJ.2 ⟨t.nodup,P.nodup,fun p T q hq e=>C p T (e ▸ hq)⟩⟩
  have W:cE ((X.setCell ⟨h,6,Vd⟩ (.pointer pl)).setCell ⟨h,7,Vd⟩ (.pointer u1)) h fx l tx pl u1 Fl F1 :=
   cE.jf (z.tF pl) (zm _ _ _ d6) (t.off (aF.aY ..) (fun k g=>by simp;rintro rfl;exact s g)) (P.off (aF.aY ..) (fun k g=>by simp;rintro rfl;exact O g)) Y
  have I:aF (Fl++Fr) w ((X.setCell ⟨h,6,Vd⟩ (.pointer pl)).setCell ⟨h,7,Vd⟩ (.pointer u1)) :=
   ((N.mono (by intro k g;simp[g])).setCell (.inl (by simp[x])) _ _).setCell (.inl (by simp[x])) _ _
  have M:=aC (zA W (zA I (zA x D)));clear W I z P O x D N Y C s t TK HL K
  go_wp2_with fail
  refine (sU _ h fx l tx _ _ _ _ M.out.1 g2 g1).mono ?_;rintro e w4 ⟨u4,F4,rfl,k1,k2,Z⟩
  have HK:Hid (kU w (Fl++Fr) (aE.fQ fx l tx) (.returned (.pointer u4)) w4):=by
   obtain⟨W,I,x,D⟩:=M.out
   have m:∀ k∈h :: (Fl++F1),k∈Fl++Fr:=by
    intro k g;simp only[VA,VB] at g ⊢
    grind
   exact⟨u4,F4,rfl,k1,fun k g=>m k (k2 k g),I.trans' Z (fun k g=>.inl (m k g))⟩
  clear k1 k2 Z M d6 d7 f6 f7
  go_wp2
  go_ret;exact HK.out
theorem Tz(l r:aE.S):aE.size (aE.kQ l r)=aE.size l+aE.size r:=by
 have:=congrArg V7 (aE.Jc l r);simp only[V5,aE.mM] at this;omega
theorem GY(x:aE.It)(l r:aE.S):aE.size (aE.fQ x l r)=1+aE.size l+aE.size r:=by
 have:=congrArg V7 (aE.nj x l r);simp only[V5,V6,aE.mM] at this;omega
theorem vV(f n:U9):∀ t:aE.S,aE.size (aE.drop f n t)<=aE.size t
 |.nil=>by simp[aE.drop]
 |.node y l r=>by
  have g:=vV f n l;have c:=vV f n r;rw[aE.drop]
  split
  ·rw[GY];simp only[aE.size];omega
  ·split
   ·rw[GY];simp only[aE.size];omega
   ·rw[Tz];simp only[aE.size];omega
theorem Pm(f n:U9):∀ (t:aE.S)(u:U6 Vl)(F:U5 U8)(w:Vh),cR w t (.pointer u) F->aE.size t<=10000 ->
  Vk prog 280 #[.pointer u,.int .i64 f,.int .i64 n] w (kU w F (aE.drop f n t)):=by
 intro t
 induction t with
 |nil =>
  intro u F w h _;obtain⟨hu,rfl⟩:=h
  cases hu
  go_in
  go_wp2
  go_ret;exact⟨Vd,[],rfl,⟨rfl,rfl⟩,fun _ c=>c,aF.refl _ _⟩
 |node y l r ihl ihr =>
  intro u F w h aa;have T:=aC ihl;have R:=aC ihr;clear ihl ihr;obtain⟨b,pl,pr,Fl,Fr,rfl,rfl,D,_,_⟩:=h.half;have hs:aE.size (.node y l r)=1+aE.size l+aE.size r:=rfl;have sl:=vV f n l;have sr:=vV f n r;have Y:=aC (fun w' k'=>I5 b y f n w' (D.n.off (G:=[]) k' UV));have X:=aC (fun w2 (U:Vj w.heap.size w w2)=>D.same (aF.aD U))
  by_cases a:aE.side f n y<0
  ·have V:aE.drop f n (.node y l r)=aE.fQ y (aE.drop f n l) r:=by rw[aE.drop,Vb a]
   rw[V];have DR:=aC (fun w2 (U:Vj w.heap.size w w2)=>T.out pl Fl w2 (D.l.later U) UU);have N:b ∉ Fl:=D.parts.1;have K:aE.ht (aE.drop f n l)<=30000:=by have:=aE.ma (aE.drop f n l);omega
   have J:aE.ht r<=30000:=by have:=aE.ma r;omega
   clear D h T R hs sl sr V
   go_in
   go_wp2_with fail
   refine (Y.out _ (aF.refl _ _)).mono ?_;rintro e w2 ⟨rfl,I⟩;have z:=X.out w2 I;have Q:=z.c6;have O:=aC I;have m:=aC z;clear I z X Y
   go_wp2_with fail
   refine (DR.out _ O.out).mono ?_;rintro e w3 ⟨u3,F3,rfl,C,x,g⟩;obtain⟨W,Z,P⟩:=m.out.rC C (fun k c=>.inl (x k c)) g;have d6:=g.cell (o:=6) N Q;have f6:=(g.frozen (o:=6) N m.out.n.lt).trans (m.out.n.fz 6);have M:=aC (zA W (zA x P));clear W Z P C x g Q DR m
   go_wp2_with fail
   refine (sU _ b y (aE.drop f n l) r _ _ _ _ M.out.1 K J).mono ?_;rintro e w4 ⟨u4,F4,rfl,C,x,g⟩
   have HK:Hid (kU w (b :: (Fl++Fr)) (aE.fQ y (aE.drop f n l) r) (.returned (.pointer u4)) w4):=by
    obtain⟨W,Z,P⟩:=M.out
    have s:∀ k∈b :: (F3++Fr),k∈b :: (Fl++Fr):=by
     intro k c;simp only[VA,VB] at c ⊢
     grind
    exact⟨u4,F4,rfl,C,fun k c=>s k (x k c),((aF.aD O.out).trans P).trans' g (fun k c=>.inl (s k c))⟩
   clear C x g M O d6 f6
   go_wp2
   go_ret;exact HK.out
  ·by_cases a2:0<aE.side f n y
   ·have V:aE.drop f n (.node y l r)=aE.fQ y l (aE.drop f n r):=by rw[aE.drop,Va a,Vb a2]
    rw[V];have DR:=aC (fun w2 (U:Vj w.heap.size w w2)=>R.out pr Fr w2 (D.r.later U) UU);have N:b ∉ Fr:=D.parts.2.1;have K:aE.ht (aE.drop f n r)<=30000:=by have:=aE.ma (aE.drop f n r);omega
    have J:aE.ht l<=30000:=by have:=aE.ma l;omega
    clear D h T R hs sl sr V
    go_in
    go_wp2_with fail
    refine (Y.out _ (aF.refl _ _)).mono ?_;rintro e w2 ⟨rfl,I⟩;have z:=X.out w2 I;have Q:=z.c7;have O:=aC I;have m:=aC z;clear I z X Y
    go_wp2_with fail
    refine (DR.out _ O.out).mono ?_;rintro e w3 ⟨u3,F3,rfl,C,x,g⟩;obtain⟨W,Z,P⟩:=m.out.uu C (fun k c=>.inl (x k c)) g;have d6:=g.cell (o:=7) N Q;have f6:=(g.frozen (o:=7) N m.out.n.lt).trans (m.out.n.fz 7);have M:=aC (zA W (zA x P));clear W Z P C x g Q DR m
    go_wp2_with fail
    refine (sU _ b y l (aE.drop f n r) _ _ _ _ M.out.1 J K).mono ?_;rintro e w4 ⟨u4,F4,rfl,C,x,g⟩
    have HK:Hid (kU w (b :: (Fl++Fr)) (aE.fQ y l (aE.drop f n r)) (.returned (.pointer u4)) w4):=by
     obtain⟨W,Z,P⟩:=M.out
     have s:∀ k∈b :: (Fl++F3),k∈b :: (Fl++Fr):=by
      intro k c;simp only[VA,VB] at c ⊢
      grind
     exact⟨u4,F4,rfl,C,fun k c=>s k (x k c),((aF.aD O.out).trans P).trans' g (fun k c=>.inl (s k c))⟩
    clear C x g M O d6 f6
    go_wp2
    go_ret;exact HK.out
   ·have V:aE.drop f n (.node y l r)=aE.kQ l r:=by rw[aE.drop,Va a,Va a2]
    rw[V];have JN:=aC (fun w2 (U:Vj w.heap.size w w2)=>RM l r pl pr Fl Fr w2 (D.l.later U) (D.r.later U) D.parts.2.2.2.2.2.1 UU UU)
    have NB:Hid (b ∉ Fl++Fr):=by
     have h1:=D.parts.1;have h2:=D.parts.2.1;show b ∉ Fl++Fr;simp only[VB,not_or];exact⟨h1,h2⟩
    clear D h T R hs sl sr V
    go_in
    go_wp2_with fail
    refine (Y.out _ (aF.refl _ _)).mono ?_;rintro e w2 ⟨rfl,I⟩;have Q:=(X.out w2 I).c6;have c7:=(X.out w2 I).c7;have O:=aC I;clear I Y X
    go_upto_region 4 with fail
    go_region_held3 (fun w'=>w'.cell? ⟨b,6,Vd⟩=Ve (.pointer pl)/\w'.cell? ⟨b,7,Vd⟩=Ve (.pointer pr))
     (first
      |exact⟨Q,c7⟩
      |exact⟨k9,k8⟩)
     (first
      |(go_at_call 297;refine (JN.out _ (bA O.out (dM _) (zq _))).mono ?_;rintro e w3 ⟨u3,F3,rfl,C,x,g⟩;have k9:=g.cell (o:=6) NB.out Q;have k8:=g.cell (o:=7) NB.out c7))
    have HK:Hid (kU w (b :: (Fl++Fr)) (aE.kQ l r) (.returned (.pointer u3)) w3) :=
     ⟨u3,F3,rfl,C,fun k c=>by have:=x k c;simp only[VA];exact .inr this,(aF.aD (F:=b :: (Fl++Fr)) O.out).trans ((aF.refl (b :: (Fl++Fr)) w2).drew.trans (g.mono (fun k c=>by simp only[VA];exact .inr c)))⟩
    clear C x g k8 k9 O JN Q c7
    go_wp2
    go_ret;exact HK.out
def pS(w:Vh)(tb o:U8)(F:U5 U8)(h:aE.S)(w':Vh):Prop :=
 ∃ (g:U6 Vl) (F':U5 U8),w'.cell? ⟨tb,o,Vd⟩=Ve (.pointer g)/\cR w' h (.pointer g) F'/\(∀ k∈F',k∈F\/w.heap.size<=k)/\aF (tb :: F) w w'/\(∀ c,c≠o->w'.cell? ⟨tb,c,Vd⟩=w.cell? ⟨tb,c,Vd⟩)/\∀ c,w'.frozen? ⟨tb,c,Vd⟩=w.frozen? ⟨tb,c,Vd⟩
theorem G7{F5:U5 U8}{t:aE.S}{u5:U6 Vl}(s:Vj w.heap.size w w4)(l:tb<w.heap.size)(N:tb ∉ F)(r:∀ k∈G,k∈F\/w.heap.size<=k)(M:cR w5 t (.pointer u5) F5)(z:∀ k∈F5,k∈G\/w4.heap.size<=k)(y:aF G w4 w5)(D:w5.cell? ⟨tb,o,Vd⟩=Ve v):pS w tb o F t (w5.setCell ⟨tb,o,Vd⟩ (.pointer u5)):=by
 have P:=s.size;have J:aF [] w w4:=aF.aD s;have c:tb ∉ G:=fun e=>by rcases r tb e with h|h;exact N h;omega
 have m:tb ∉ F5:=fun e=>by rcases z tb e with h|h;exact c h;omega
 have C:w5.heap[tb]?=w.heap[tb]?:=(y.block tb UU c).trans (J.block tb l UV);refine⟨u5,F5,VF _ _ _ D,M.off (aF.aY ..) (fun x g=>by simp;rintro rfl;exact m g),fun k O=>?_,?_,fun K Q=>?_,fun K=>?_⟩
 ·rcases z k O with h|h
  ·exact r k h
  ·exact .inr UU
 ·have I:aF (tb :: F) w w5:=(aF.aD (F:=tb :: F) s).trans' y (fun x g=>by rcases r x g with h|h;exact .inl (by simp[h]);exact .inr h);exact I.setCell (.inl UV) _ _
 ·exact (zS _ _ _ _ UV).trans (zo (w:=w) C)
 ·refine (zF ..).trans ?_;simp only[World.frozen?,C]
theorem Rc(w:Vh)(f t n:U9)(v:U8):cE (w.alloc (.cells #[.int .i64 f,.int .i64 t,.int .i64 n,.pointer (Ve ⟨v,0,Vd⟩),.int .i64 0,.int .i64 0,.pointer Vd,.pointer Vd] 304)) w.heap.size ⟨f,t,n,v⟩ .nil .nil Vd Vd [] [] :=
 ⟨⟨by simp,by simp,by simp,by simp,⟨0,by simp⟩,⟨0,by simp⟩,⟨Vd,by simp⟩,⟨Vd,by simp⟩,fun o=>World.frozen?_alloc_new w _ _ o⟩,by simp,by simp,⟨rfl,rfl⟩,⟨rfl,rfl⟩,by simp⟩
theorem OR(t:aE.S)(tb o:U8)(u:U6 Vl)(F:U5 U8)(x:aE.It)(w:Vh)(c:w.cell? ⟨tb,o,Vd⟩=Ve (.pointer u))(R:w.frozen? ⟨tb,o,Vd⟩=Vf)(N:tb ∉ F)(h:cR w t (.pointer u) F)(Q:aE.size t<=10000)(l:∀ z∈aE.bS t,¬ (z.f=x.f/\z.n=x.n)):
  Vk prog 159 #[.pointer (Ve ⟨tb,o,Vd⟩),.int .i64 x.f,.int .i64 x.t,.int .i64 x.n,.pointer (Ve ⟨x.v,0,Vd⟩)] w fun e w'=>e=.returned (.tuple #[])/\pS w tb o F (aE.put x t) w':=by
 have m:=Vr _ _ c;have g:=h.lt;have s:Vj w.heap.size w (w.alloc (.cells #[.int .i64 x.f,.int .i64 x.t,.int .i64 x.n,.pointer (Ve ⟨x.v,0,Vd⟩),.int .i64 0,.int .i64 0,.pointer Vd,.pointer Vd] 304)):=(zr _ _).alloc (zq _) _;have O:=aC (Pa x t u F w.heap.size _ (h.later s) (Rc w x.f x.t x.n x.v) (fun e=>by have:=g _ e;omega) Q l);have P:=aC s;have J:=aN s c;have I:(w.alloc (.cells #[.int .i64 x.f,.int .i64 x.t,.int .i64 x.n,.pointer (Ve ⟨x.v,0,Vd⟩),.int .i64 0,.int .i64 0,.pointer Vd,.pointer Vd] 304)).frozen? ⟨tb,o,Vd⟩=Vf:=((aF.aD (F:=[]) s).frozen UV m).trans R;have r:tb ∉ w.heap.size :: F:=by simp only[VA,not_or];exact⟨by simp at m;omega,N⟩
 have C:=aC (zA J I);have V:Hid (∀ k∈F,k<w.heap.size):=g;clear h s g J I l
 go_in
 go_wp2_with fail
 refine O.out.mono ?_;rintro e w3 ⟨u3,W,rfl,M,K,y⟩;have d:=y.cell r C.out.1;have U:=(y.frozen (o:=o) r (Vr _ _ C.out.1)).trans C.out.2;have T:=aC (G7 P.out m N (fun k D=>by rcases VA.1 D with rfl|D;exact .inr (zq _);exact .inl D) M K y d);clear M K y C P O
 go_wp2
 go_end0
 exact⟨rfl,T.out⟩
theorem Py(t:aE.S)(tb o:U8)(u:U6 Vl)(F:U5 U8)(f n:U9)(w:Vh)(c:w.cell? ⟨tb,o,Vd⟩=Ve (.pointer u))(C:w.frozen? ⟨tb,o,Vd⟩=Vf)(m:tb ∉ F)(h:cR w t (.pointer u) F)(z:aE.size t<=10000):
  Vk prog 253 #[.pointer (Ve ⟨tb,o,Vd⟩),.int .i64 f,.int .i64 n] w fun e w'=>e=.returned (.tuple #[])/\pS w tb o F (aE.drop f n t) w':=by
 have g:=Vr _ _ c;have y:=aC (Pm f n t u F w h z);clear h
 go_in
 go_wp2_with fail
 refine y.out.mono ?_;rintro e w3 ⟨u3,J,rfl,x,s,l⟩;have d:=l.cell m c;have I:=(l.frozen (o:=o) m g).trans C;have D:=aC (G7 (zr _ _) g m (fun k r=>.inl r) x (fun k r=>.inl (s k r)) l d);clear x s l y
 go_wp2
 go_end0
 exact⟨rfl,D.out⟩
def jt(A:U5 U7->U9):aG.T:=aG.canon 20 A 0 1048320
def gB:U5 (U9 × U9)->U5 U7->U9
 |[],_=>0
 |s :: r,p=>aG.gG 0 1048320 s.1 s.2 p+gB r p
def bZ(A:U5 U7->U9)(L:U5 (U9 × U9))(x:U9)(p:U5 U7):U9:=A p+x*gB L p
theorem Iv(L M:U5 (U9 × U9))(p:U5 U7):gB (L++M) p=gB L p+gB M p:=by
 induction L with
 |nil=>simp[gB]
 |cons s r ih=>simp only[VN,gB,ih];omega
theorem vp(L:U5 (U9 × U9))(p:U5 U7):0<=gB L p/\gB L p<=L.length:=by
 induction L with
 |nil=>simp[gB]
 |cons s r ih =>
  have:=aG.AV p 0 1048320 s.1 s.2;simp only[gB,V6];omega
theorem Gl(A:U5 U7->U9)(x:U9):bZ A [] x=A:=by funext p;simp[bZ,gB]
theorem Ht(A:U5 U7->U9)(L:U5 (U9 × U9))(s:U9 × U9)(x:U9):bZ A (L++[s]) x=fun p=>bZ A L x p+x*aG.gG 0 1048320 s.1 s.2 p:=by
 funext p;simp only[bZ,Iv,gB,Int.add_zero,V8];omega
theorem Qf(A:U5 U7->U9)(a b x:U9)(h:a<b):aG.fU 20 (jt A) 0 1048320 a b x=jt (fun p=>A p+x*aG.gG 0 1048320 a b p) :=
 aG.Sc 20 A 0 1048320 a b x UU UW h
theorem AE{a:U9}{l r:aG.T}(m:-1000000<=a/\a<=1000000)(k:LB l)(h:LB r)(g:-100000000<=a+max (aG.top l) (aG.top r)/\a+max (aG.top l) (aG.top r)<=100000000)(c:-100000000<=a+min (aG.bot l) (aG.bot r)/\a+min (aG.bot l) (aG.bot r)<=100000000):LB (aG.mk a l r):=by
 unfold aG.mk;split
 ·trivial
 ·exact⟨m,g,c,k,h⟩
theorem A6(a:U9)(l r:aG.T):aG.top (aG.mk a l r)=a+max (aG.top l) (aG.top r)/\aG.bot (aG.mk a l r)=a+min (aG.bot l) (aG.bot r):=by
 unfold aG.mk;split
 ·rename_i h
  rw[aG.qV h.2.1,aG.qV h.2.2,h.1];simp[aG.top,aG.bot]
 ·exact⟨rfl,rfl⟩
theorem PE:∀ (n:U8)(A:U5 U7->U9)(c g:U9),(∀ p,0<=A p/\A p<=1000000)->n<=50->LB (aG.canon n A c g)/\(0<=aG.top (aG.canon n A c g)/\aG.top (aG.canon n A c g)<=1000000*(n+1))/\(0<=aG.bot (aG.canon n A c g)/\aG.bot (aG.canon n A c g)<=1000000*(n+1)):=by
 intro n
 induction n with
 |zero =>
  intro A c g h _;have k:=h [];simp only[aG.canon];have e:=A6 (A []) .nil .nil;simp only[aG.top,aG.bot] at e;rw[e.1,e.2];refine⟨AE UU trivial trivial ?_ ?_,?_,?_⟩ <;> simp[aG.top,aG.bot] <;> omega
 |succ n ih =>
  intro A c g h r;have k:=h [];simp only[aG.canon]
  split
  ·have e:=A6 (A []) .nil .nil;simp only[aG.top,aG.bot] at e;rw[e.1,e.2];refine⟨AE UU trivial trivial ?_ ?_,?_,?_⟩ <;> simp[aG.top,aG.bot] <;> omega
  ·obtain⟨m,y,x⟩:=ih (fun p=>A (Vf :: p)) c (aG.aS c g) (fun p=>h _) UU;obtain⟨l,t,s⟩:=ih (fun p=>A (Vg :: p)) (aG.aS c g) g (fun p=>h _) UU;have e:=A6 (A []) (aG.canon n (fun p=>A (Vf :: p)) c (aG.aS c g)) (aG.canon n (fun p=>A (Vg :: p)) (aG.aS c g) g);rw[e.1,e.2];exact⟨AE UU m l UU UU,by omega,by omega⟩
theorem vx(h:∀ p,0<=A p/\A p<=1000000):LB (jt A):=(PE 20 A 0 1048320 h UU).1
theorem ye(h:∀ p,0<=A p):aG.Good (jt A) 0 1048320:=aG.Si 20 A 0 1048320 h
def oC(A:U5 U7->U9)(x:U9):U9:=aG.dJ (jt A) 0 1048320 x
theorem IP(A:U5 U7->U9)(L:U5 (U9 × U9))(u x:U9)(y:0<=x)(t:x<1048320)(m:∀ s∈L,s.1<s.2):oC (bZ A L u) x=oC A x+u*((L.filter fun s=>decide (s.1<=x) && decide (x<s.2)).length:U9):=by
 have h:∀ (n:U8) (M:U5 (U9 × U9)),M.length=n->(∀ s∈M,s.1<s.2)->oC (bZ A M u) x=oC A x+u*((M.filter fun s=>decide (s.1<=x) && decide (x<s.2)).length:U9):=by
  intro n
  induction n with
  |zero =>
   intro M g _;rw[V9.1 g,Gl];simp
  |succ n ih =>
   intro M g k;obtain⟨K,s,rfl⟩:∃ K s,M=K++[s]:=⟨M.dropLast,M.getLast (by intro e;simp[e] at g),(List.dropLast_concat_getLast _).symm⟩;have r:K.length=n:=by simpa using g
   rw[Ht];have e:=aG.Uo 20 (bZ A K u) 0 1048320 s.1 s.2 u x y t UW (k s UV);have C:oC (fun p=>bZ A K u p+u*aG.gG 0 1048320 s.1 s.2 p) x=oC (bZ A K u) x+if s.1<=x/\x<s.2 then u else 0:=e
   rw[C,ih K r (fun z l=>k z (by simp[l])),VP]
   by_cases c:s.1<=x/\x<s.2
   ·rw[Vb c];have:([s].filter fun s=>decide (s.1<=x) && decide (x<s.2))=[s]:=by simp[c.1,c.2]
    rw[this];simp only[V5,V6,Wa];rw[show ((((K.filter fun s=>decide (s.1<=x) && decide (x<s.2)).length+(0+1):U8)):U9)=((K.filter fun s=>decide (s.1<=x) && decide (x<s.2)).length:U9)+1 from by omega,V8];omega
   ·rw[Va c];have:([s].filter fun s=>decide (s.1<=x) && decide (x<s.2))=[]:=by simp;omega
    rw[this];simp
 exact h L.length L rfl m
structure TH(w:Vh)(tb:U8)(name:U4)(aH:U9)(A:U5 U7->U9)(T:aE.S)(ul us:U6 Vl)(Fl Fs:U5 U8):Prop where
 c0:w.cell? ⟨tb,0,Vd⟩=Ve (.string name)
 c1:w.cell? ⟨tb,1,Vd⟩=Ve (.int .i64 aH)
 c2:w.cell? ⟨tb,2,Vd⟩=Ve (.pointer ul)
 c3:w.cell? ⟨tb,3,Vd⟩=Ve (.pointer us)
 fz:∀ o,w.frozen? ⟨tb,o,Vd⟩=Vf
 lv:cT w (jt A) (.pointer ul) Fl
 sp:cR w T (.pointer us) Fs
 nl:tb ∉ Fl
 ns:tb ∉ Fs
 dj:∀ k∈Fl,k ∉ Fs
theorem TH.lt{aH:U9}{T:aE.S}(h:TH w tb name aH A T ul us Fl Fs):∀ k∈tb :: (Fl++Fs),k<w.heap.size:=by
 intro k c;rcases VA.1 c with rfl|c
 ·exact Vr _ _ h.c0
 ·rcases VB.1 c with c|c
  ·exact h.lv.lt k c
  ·exact h.sp.lt k c
theorem TH.off{aH:U9}{T:aE.S}(h:TH w tb name aH A T ul us Fl Fs)(k:aF G w w')(l:∀ x∈tb :: (Fl++Fs),x ∉ G):TH w' tb name aH A T ul us Fl Fs:=by
 have c:=l tb UV;exact⟨k.cell c h.c0,k.cell c h.c1,k.cell c h.c2,k.cell c h.c3,fun o=>(k.frozen c (h.lt tb UV)).trans (h.fz o),h.lv.off k (fun x g=>l x (by simp[g])),h.sp.off k (fun x g=>l x (by simp[g])),h.nl,h.ns,h.dj⟩
theorem TH.same{aH:U9}{T:aE.S}(h:TH w tb name aH A T ul us Fl Fs)(k:aF [] w w'):TH w' tb name aH A T ul us Fl Fs:=h.off k UV
theorem TH.added{aH:U9}{T:aE.S}(h:TH w tb name aH A T ul us Fl Fs)(k:sE w tb 2 Fl (jt A') w'):∃ r l,TH w' tb name aH A' T r us l Fs/\(∀ k∈l,k∈Fl\/w.heap.size<=k)/\aF (tb :: Fl) w w':=by
 obtain⟨C,F',J,I,t,y,s,D⟩:=k;have c:=h.lt;refine⟨C,F',⟨(s 0 UU).trans h.c0,(s 1 UU).trans h.c1,J,(s 3 UU).trans h.c3,fun o=>(D o).trans (h.fz o),I,h.sp.off y (fun x m=>?_),fun e=>?_,h.ns,fun x m z=>?_⟩,t,y⟩
 ·simp only[VA,not_or];exact⟨fun e=>h.ns (e ▸ m),fun e=>h.dj x e m⟩
 ·rcases t tb e with g|g
  ·exact h.nl g
  ·have:=c tb UV;omega
 ·rcases t x m with g|g
  ·exact h.dj x g z
  ·have:=c x (by simp[z]);omega
theorem TH.lJ{aH:U9}{T z:aE.S}(h:TH w tb name aH A T ul us Fl Fs)(k:pS w tb 3 Fs z w'):∃ r m,TH w' tb name aH A z ul r Fl m/\(∀ k∈m,k∈Fs\/w.heap.size<=k)/\aF (tb :: Fs) w w':=by
 obtain⟨C,F',J,I,t,y,s,D⟩:=k;have g:=h.lt;refine⟨C,F',⟨(s 0 UU).trans h.c0,(s 1 UU).trans h.c1,(s 2 UU).trans h.c2,J,fun o=>(D o).trans (h.fz o),h.lv.off y (fun x c=>?_),I,h.nl,fun e=>?_,fun x c K=>?_⟩,t,y⟩
 ·simp only[VA,not_or];exact⟨fun e=>h.nl (e ▸ c),fun e=>h.dj x c e⟩
 ·rcases t tb e with l|l
  ·exact h.ns l
  ·have:=g tb UV;omega
 ·rcases t x K with l|l
  ·exact h.dj x c l
  ·have:=g x (by simp[c]);omega
def SL(w:Vh)(B:U8)(L:U5 (U9 × U9)):Prop:=∀ (i:U8)(h:i<L.length),w.cell? ⟨B,i*2,Vd⟩=Ve (.int .i64 L[i].1)/\w.cell? ⟨B,i*2+1,Vd⟩=Ve (.int .i64 L[i].2)
theorem SL.off(h:SL w B L)(k:aF G w w')(g:B ∉ G):SL w' B L:=fun i c=>⟨k.cell g (h i c).1,k.cell g (h i c).2⟩
def ow(L:U5 (U9 × U9)):Prop:=∀ s∈L,0<=s.1/\s.1<s.2/\s.2<=1048320
theorem OS{x:U9}(h:∀ p,0<=A p/\A p<=500000)(s:∀ p,0<=bZ A L x p)(r:-9<=x)(c:x<=9)(y:L.length<=100)(k:U8):∀ p,0<=bZ A (L.take k) x p/\bZ A (L.take k) x p<=1000000:=by
 intro p;have C:=h p;have m:=s p;have e:gB L p=gB (L.take k) p+gB (L.drop k) p:=by rw[<- Iv,Wb]
 have g:=vp (L.take k) p;have t:=vp (L.drop k) p;have z:((L.take k).length:U9)<=100:=by have:=List.length_take_le' k L;omega
 unfold bZ at m ⊢;rw[e,V8] at m;constructor
 ·by_cases l:0<=x
  ·have:=Wc l g.1;omega
  ·have:x*gB (L.drop k) p<=0:=We UU t.1;omega
 ·by_cases l:0<=x
  ·have:x*gB (L.take k) p<=9*100:=Wf c UU g.1 UU;omega
  ·have:x*gB (L.take k) p<=0:=We UU g.1;omega
structure tH(w wx:Vh)(tb B:U8)(name:U4)(aH:U9)(A:U5 U7->U9)(T:aE.S)(us:U6 Vl)(Fl Fs:U5 U8)(L:U5 (U9 × U9)):Prop where
 th:∃ (ul:U6 Vl) (Fl':U5 U8),TH wx tb name aH A T ul us Fl' Fs/\∀ k∈Fl',k∈Fl\/w.heap.size<=k
 off:aF (tb :: Fl) w wx
 sl:SL wx B L
 ok:ow L
 nb:B ∉ tb :: Fl
 lt:B<w.heap.size
theorem sE.off{c:aG.T}(h:sE w tb o F c w'):aF (tb :: F) w w':=by
 obtain⟨_,_,_,_,_,h,_⟩:=h;exact h
theorem tH.step{wr X:Vh}{aH:U9}{T:aE.S}{Fl':U5 U8}(h:tH w wr tb B name aH A T us Fl Fs L)(l:aF [] wr X)(z:TH X tb name aH A T ul us Fl' Fs)(m:∀ k∈Fl',k∈Fl\/w.heap.size<=k)(y:sE X tb 2 Fl' (jt A') w4):tH w w4 tb B name aH A' T us Fl Fs L:=by
 obtain⟨g,r,x,t,s⟩:=z.added y;have I:=h.off.size;have D:=l.size
 have C:B ∉ tb :: Fl':=by
  intro e;rcases VA.1 e with e|e
  ·exact h.nb (by simp[e])
  ·rcases m B e with e|e
   ·exact h.nb (by simp[e])
   ·have:=h.lt;omega
 refine⟨⟨g,r,x,fun k c=>?_⟩,(h.off.trans' l UV).trans' s (fun k c=>?_),(h.sl.off l UV).off s C,h.ok,h.nb,h.lt⟩
 ·rcases t k c with e|e
  ·exact m k e
  ·exact .inr UU
 ·rcases VA.1 c with rfl|c
  ·exact .inl UV
  ·rcases m k c with e|e
   ·exact .inl (by simp[e])
   ·exact .inr e
theorem Ri(tb:U8)(name:U4)(aH:U9)(A:U5 U7->U9)(T:aE.S)(us:U6 Vl)(Fs:U5 U8)(L:U5 (U9 × U9))(x:U9)(k:U8)(s:k<L.length)(g:∀ (k:U8)(p:U5 U7),0<=bZ A (L.take k) x p/\bZ A (L.take k) x p<=1000000)(c:0<=L[k].1/\L[k].1<L[k].2/\L[k].2<=1048320)(r:-9<=x)(m:x<=9)(ul:U6 Vl)(Fl:U5 U8):
  ∀ W,TH W tb name aH (bZ A (L.take k) x) T ul us Fl Fs->Vk prog 219 #[.pointer (Ve ⟨tb,2,Vd⟩),.agg #[.int .i64 L[k].1,.int .i64 L[k].2],.int .i64 x] W fun e w'=>e=.returned (.tuple #[])/\sE W tb 2 Fl (jt (bZ A (L.take (k+1)) x)) w':=by
 intro W h
 have e:bZ A (L.take (k+1)) x=fun p=>bZ A (L.take k) x p+x*aG.gG 0 1048320 L[k].1 L[k].2 p:=by
  rw[Wg s,Ht]
 have l:aG.fU 20 (jt (bZ A (L.take k) x)) 0 1048320 L[k].1 L[k].2 x=jt (bZ A (L.take (k+1)) x):=by rw[e];exact Qf _ _ _ _ c.2.1
 rw[<- l];exact OQ _ tb 2 ul Fl _ _ x W h.c2 (h.fz 2) h.nl h.lv c.2.1 UU UU (vx (g k)) (by rw[l];exact vx (g (k+1)))
theorem P5(w:Vh)(tb B cap:U8)(name:U4)(aH:U9)(A:U5 U7->U9)(T:aE.S)(ul us:U6 Vl)(Fl Fs:U5 U8)(L:U5 (U9 × U9))(x:U9)(h:TH w tb name aH A T ul us Fl Fs)(U:SL w B L)(C:ow L)(W:B ∉ tb :: Fl)(hB:B<w.heap.size)(g:∀ p,0<=A p/\A p<=500000)(I:∀ p,0<=bZ A L x p)(z:-9<=x)(y:x<=9)(hL:L.length<=100):
  Vk prog 157 #[.pointer (Ve ⟨tb,0,Vd⟩),.slice (Ve ⟨B,0,Vd⟩) L.length cap,.int .i64 x] w fun e w'=>e=.returned (.tuple #[])/\(∃ O Fl',TH w' tb name aH (bZ A L x) T O us Fl' Fs/\∀ k∈Fl',k∈Fl\/w.heap.size<=k)/\aF (tb :: Fl) w w':=by
 have P:=aC (OS g I z y hL);have h0:tH w w tb B name aH (bZ A (L.take 0) x) T us Fl Fs L:=⟨⟨ul,Fl,by rw[List.take_zero,Gl];exact h,fun k V=>.inl V⟩,aF.refl _ _,U,C,W,hB⟩;have H0:=aC h0;clear h U C W g I h0 ul
 go_in
 go_wp2_with fail
 go_loopw [7,10] (fun _ i wx=>∃ k:U8,k<=L.length/\i=.int .i64 k/\tH w wx tb B name aH (bZ A (L.take k) x) T us Fl Fs L) (fun _ i _=>L.length-(intOf i).toNat)
 case atStart=>exact⟨0,Wh _,rfl,H0.out⟩
 case round =>
  obtain⟨k,V,rfl,g⟩:=hrel
  by_cases m:k<L.length
  ·have c:=g.sl k m;have r:=aC g;obtain⟨c1,c2⟩:=c;clear g;have hi:(k:U9)<(L.length:U9):=UU
   obtain⟨ul,Fl',Z,l⟩:=r.out.th;have CA:=aC (Ri tb name aH A T us Fs L x k m P.out (r.out.ok L[k] (zg m)) z y ul Fl');have M:=aC Z;have HS:=aC l;clear Z l
   go_upto_region 3 with fail
   have Y:aF [] wr (wr.alloc (.cells #[.int .i64 L[k].1,.int .i64 L[k].2] 60)):=(aF.refl _ _).alloc _;have t:(wr.alloc (.cells #[.int .i64 L[k].1,.int .i64 L[k].2] 60)).cell? ⟨wr.heap.size,0,Vd⟩=Ve (.int .i64 L[k].1):=UV
   have s:(wr.alloc (.cells #[.int .i64 L[k].1,.int .i64 L[k].2] 60)).cell? ⟨wr.heap.size,1,Vd⟩=Ve (.int .i64 L[k].2):=UV
   have J:=aC Y;have D:wr.heap.size ∉ tb :: Fl':=fun e=>by have:=M.out.lt wr.heap.size (by simp only[VA,VB] at e ⊢;grind);omega
   have N:=aC D;clear Y D c1 c2;generalize (VK wr (.cells #[.int .i64 L[k].1,.int .i64 L[k].2] 60))=X at t s J ⊢;generalize wr.heap.size=bx at t s N ⊢
   go_region_held3 (fun w'=>w'.cell? ⟨bx,0,Vd⟩=Ve (.int .i64 L[k].1)/\w'.cell? ⟨bx,1,Vd⟩=Ve (.int .i64 L[k].2))
    (first
     |exact⟨t,s⟩
     |exact⟨R,Q⟩)
    (first
     |(go_at_call 219;refine (CA.out _ (M.out.same (J.out.drew))).mono ?_;rintro e w4 ⟨rfl,K⟩;have R:=K.off.cell (o:=0) N.out t;have Q:=K.off.cell (o:=1) N.out s))
   have HK:Hid (tH w w4 tb B name aH (bZ A (L.take (k+1)) x) T us Fl Fs L):=r.out.step (J.out.drew) (M.out.same J.out.drew) HS.out K;clear r M HS CA J N R Q t s K
   go_wp2
   go_roundw
   case rel=>exact⟨k+1,by omega,by go_num,HK.out⟩
   case measure=>simp[intOf];omega
  ·have e:L.take k=L:=Wi UU;rw[e] at g;have r:=aC g;clear g;have hi:¬ (k:U9)<(L.length:U9):=UU
   go_wp2
   go_end0
   exact⟨rfl,r.out.th,r.out.off⟩
def ss(A:U5 U7->U9)(s:U9 × U9):U9:=aG.fF (jt A) 0 1048320 s.1 s.2
def kB(A:U5 U7->U9)(aH:U9)(L:U5 (U9 × U9)):U7:=L.all fun s=>decide (ss A s<=aH)
theorem BC{s:U9 × U9}(l:∀ p,0<=A p)(z:0<=s.1)(m:s.1<s.2)(y:s.2<=1048320):(∀ x,s.1<=x->x<s.2->oC A x<=ss A s)/\∃ x,s.1<=x/\x<s.2/\oC A x=ss A s:=by
 obtain⟨_,k,x,t,r,h,g,c⟩:=aG.GQ (jt A) 0 1048320 s.1 s.2 UU m (ye l) (aG.mc.2 UU);exact⟨fun x a b=>k x UU UU a b,x,h,g,c⟩
theorem Hc(w:Vh)(tb B cap:U8)(name:U4)(aH:U9)(A:U5 U7->U9)(T:aE.S)(ul us:U6 Vl)(Fl Fs:U5 U8)(L:U5 (U9 × U9))(h:TH w tb name aH A T ul us Fl Fs)(M:SL w B L)(g:ow L)(I:∀ p,0<=A p/\A p<=1000000)(hL:L.length<=100):
  Vk prog 158 #[.pointer (Ve ⟨tb,0,Vd⟩),.slice (Ve ⟨B,0,Vd⟩) L.length cap] w fun e w'=>e=.returned (.bool (kB A aH L))/\Vj w.heap.size w w':=by
 have Z:=aC (fun (W:Vh) (k:Vj w.heap.size w W) (s:U9 × U9) (h1:s.1<s.2)=>Gj (jt A) tb 2 ul Fl s.1 s.2 W (aN k h.c2) (h.lv.later k) (vx I) (ye (fun p=>(I p).1)) h1);have Q:=aC M;have HO:=aC g;have cu:=h.c1;clear h M g I
 go_in
 go_wp2_with fail
 go_loopw [6,9] (fun _ i wx=>∃ k:U8,k<=L.length/\i=.int .i64 k/\kB A aH (L.take k)=Vg/\Vj w.heap.size w wx) (fun _ i _=>L.length-(intOf i).toNat)
 case atStart=>exact⟨0,Wh _,rfl,by simp[kB],Below.refl _ _⟩
 case round =>
  obtain⟨k,hk,rfl,N,r⟩:=hrel;have J:=aC N;clear N
  by_cases l:k<L.length
  ·have c1:=aN r (Q.out k l).1;have c2:=aN r (Q.out k l).2;have t:=aN r cu;have hi:(k:U9)<(L.length:U9):=UU
   have U:=aC r;clear r
   have O:kB A aH (L.take (k+1))=(kB A aH (L.take k) && decide (ss A L[k]<=aH)):=by
    unfold kB;rw[Wg l,Wj];simp
   have V:=aC O;have g:=HO.out L[k] (zg l);clear O
   go_upto_region 4 with fail
   have D:Vj wr.heap.size wr (wr.alloc (.cells #[.int .i64 L[k].1,.int .i64 L[k].2] 60)):=(zr _ _).alloc (zq _) _;have y:(wr.alloc (.cells #[.int .i64 L[k].1,.int .i64 L[k].2] 60)).cell? ⟨wr.heap.size,0,Vd⟩=Ve (.int .i64 L[k].1):=UV
   have x:(wr.alloc (.cells #[.int .i64 L[k].1,.int .i64 L[k].2] 60)).cell? ⟨wr.heap.size,1,Vd⟩=Ve (.int .i64 L[k].2):=UV
   have C:=aN D t;have z:=aC (bA U.out D (zq _));clear D c1 c2 t;generalize (VK wr (.cells #[.int .i64 L[k].1,.int .i64 L[k].2] 60))=X at y x C z ⊢;generalize wr.heap.size=bx at y x ⊢;have K:=aC (fun W k'=>Z.out W k' L[k] g.2.1);generalize P:aG.fF (jt A) 0 1048320 L[k].1 L[k].2=m at K;have Y:Hid (ss A L[k]=m):=P;clear P
   by_cases hc:m<=aH
   all_goals
    go_region_held3 (fun w'=>w'.cell? ⟨bx,0,Vd⟩=Ve (.int .i64 L[k].1)/\w'.cell? ⟨bx,1,Vd⟩=Ve (.int .i64 L[k].2)/\w'.cell? ⟨tb,1,Vd⟩=Ve (.int .i64 aH)/\Vj X.heap.size X w')
     (first
      |exact⟨y,x,C,dM _⟩
      |(go_split_ands;exact⟨aN c UX,aN c UX,aN c UX,bA UX c (zq _)⟩))
     (first
      |(go_at_call 153;go_split_ands;refine (K.out _ (bA z.out UX (zq _))).mono ?_;rintro e w4 ⟨rfl,c⟩))
    have R:=aC (bA z.out (by go_split_ands;assumption:Vj X.heap.size X w4) (zq _));clear Z K z U y x C c
    go_wp2
   ·go_roundw
    case rel=>exact⟨k+1,by omega,by go_num,by rw[V.out,J.out,Y.out];simpa using hc,R.out⟩
    case measure=>simp[intOf];omega
   ·go_ret;refine⟨oa ?_,R.out⟩;have:kB A aH L=(kB A aH (L.take (k+1)) && kB A aH (L.drop (k+1))):=by unfold kB;rw[<- Wj,Wb]
    rw[this,V.out,J.out,Y.out];have hd:decide (m<=aH)=Vf:=decide_eq_false UU;rw[hd];rfl
  ·have e:L.take k=L:=Wi UU;have hi:¬ (k:U9)<(L.length:U9):=UU
   go_wp2
   go_ret;exact⟨oa (by rw[<- e];exact J.out.symm),r⟩
structure gQ(w:Vh)(eb:U8)(id:U9)(tb:U8)(aH:U9)(B cap:U8)(L:U5 (U9 × U9)):Prop where
 c0:w.cell? ⟨eb,0,Vd⟩=Ve (.int .i64 id)
 c1:w.cell? ⟨eb,2,Vd⟩=Ve (.pointer (Ve ⟨tb,0,Vd⟩))
 c2:w.cell? ⟨eb,3,Vd⟩=Ve (.int .i64 aH)
 c3:w.cell? ⟨eb,4,Vd⟩=Ve (.slice (Ve ⟨B,0,Vd⟩) L.length cap)
 sl:SL w B L
 lt:B<w.heap.size
theorem gQ.off{aH:U9}(h:gQ w eb id tb aH B cap L)(k:aF G w w')(c:eb ∉ G)(g:B ∉ G):gQ w' eb id tb aH B cap L :=
 ⟨k.cell c h.c0,k.cell c h.c1,k.cell c h.c2,k.cell c h.c3,h.sl.off k g,Wk h.lt k.size⟩
structure fH(w wx:Vh)(tb:U8)(name:U4)(aH:U9)(A:U5 U7->U9)(T:aE.S)(F:U5 U8):Prop where
 th:∃ (ul us:U6 Vl) (Fl Fs:U5 U8),TH wx tb name aH A T ul us Fl Fs/\∀ k∈Fl++Fs,k∈F\/w.heap.size<=k
 off:aF (tb :: F) w wx
theorem fH.later{aH:U9}{T:aE.S}(h:fH w wx tb name aH A T F)(k:aF [] wx wy):fH w wy tb name aH A T F:=by
 obtain⟨ul,us,Fl,Fs,g,c⟩:=h.th;exact⟨⟨ul,us,Fl,Fs,g.same k,c⟩,h.off.trans' k UV⟩
theorem fH.sw{aH:U9}{T:aE.S}(h:fH w wx tb name aH A T F)(m:∀ k∈Fl++Fs,k∈F\/w.heap.size<=k)(k:∃ l g,TH wy tb name aH A' T l us g Fs/\∀ k∈g,k∈Fl\/wx.heap.size<=k)(t:aF (tb :: Fl) wx wy):fH w wy tb name aH A' T F:=by
 obtain⟨l,g,s,r⟩:=k;have z:=h.off.size;refine⟨⟨l,us,g,Fs,s,fun k c=>?_⟩,h.off.trans' t (fun k c=>?_)⟩
 ·rcases VB.1 c with c|c
  ·rcases r k c with e|e
   ·exact m k (by simp[e])
   ·exact .inr UU
  ·exact m k (by simp[c])
 ·rcases VA.1 c with rfl|c
  ·exact .inl UV
  ·rcases m k (by simp[c]) with e|e
   ·exact .inl (by simp[e])
   ·exact .inr e
theorem fH.lJ{aH:U9}{T r:aE.S}(h:fH w wx tb name aH A T F)(y:TH wx tb name aH A T ul us Fl Fs)(l:∀ k∈Fl++Fs,k∈F\/w.heap.size<=k)(k:pS wx tb 3 Fs r wy):fH w wy tb name aH A r F:=by
 obtain⟨g,m,x,t,s⟩:=y.lJ k;have z:=h.off.size;refine⟨⟨ul,g,Fl,m,x,fun k c=>?_⟩,h.off.trans' s (fun k c=>?_)⟩
 ·rcases VB.1 c with c|c
  ·exact l k (by simp[c])
  ·rcases t k c with e|e
   ·exact l k (by simp[e])
   ·exact .inr UU
 ·rcases VA.1 c with rfl|c
  ·exact .inl UV
  ·rcases l k (by simp[c]) with e|e
   ·exact .inl (by simp[e])
   ·exact .inr e
def jG(id:U9)(eb:U8)(s:U9 × U9):aE.It:=⟨s.1,s.2,id,eb⟩
def gn(id:U9)(eb:U8):aE.S->U5 (U9 × U9)->aE.S
 |T,[]=>T
 |T,s :: r=>gn id eb (aE.put (jG id eb s) T) r
def jx(id:U9):aE.S->U5 (U9 × U9)->aE.S
 |T,[]=>T
 |T,s :: r=>jx id (aE.drop s.1 id T) r
theorem Ih(id:U9)(eb:U8)(s:U9 × U9):∀ (L:U5 (U9 × U9))(T:aE.S),gn id eb T (L++[s])=aE.put (jG id eb s) (gn id eb T L)
 |[],T=>rfl
 |t :: L,T=>by simp only[VN,gn];exact Ih id eb s L _
theorem ID(id:U9)(s:U9 × U9):∀ (L:U5 (U9 × U9))(T:aE.S),jx id T (L++[s])=aE.drop s.1 id (jx id T L)
 |[],T=>rfl
 |t :: L,T=>by simp only[VN,jx];exact ID id s L _
def Fi(id:U9)(eb:U8):U5 aE.It->U5 (U9 × U9)->U5 aE.It
 |l,[]=>l
 |l,s :: r=>Fi id eb (aE.ins (jG id eb s) l) r
theorem Bh(id:U9)(eb:U8):∀ (L:U5 (U9 × U9))(T:aE.S),aE.Ord (aE.bS T)->(∀ z∈aE.bS T,z.n=id->∀ s∈L,z.f≠s.1)->(L.map (·.1)).Nodup ->
  aE.Ord (aE.bS (gn id eb T L))/\aE.bS (gn id eb T L)=Fi id eb (aE.bS T) L/\(∀ z,z∈aE.bS (gn id eb T L)↔z∈aE.bS T\/∃ s∈L,z=jG id eb s)/\aE.size (gn id eb T L)=aE.size T+L.length
 |[],T,h,_,_=>⟨h,rfl,fun z=>by simp[gn],by simp[gn]⟩
 |s :: r,T,h,hn,hd=>by
  have l:∀ z∈aE.bS T,¬ (z.f=(jG id eb s).f/\z.n=(jG id eb s).n):=fun z c e=>hn z c e.2 s UV e.1
  have g:=aE.BU (jG id eb s) T h l;have m:aE.Ord (aE.bS (aE.put (jG id eb s) T)):=by rw[g];exact aE.Gb h l
  simp only[List.map_cons,VE] at hd
  have k:∀ z∈aE.bS (aE.put (jG id eb s) T),z.n=id->∀ t∈r,z.f≠t.1:=by
   intro z c I t ht;rw[g,aE.xQ] at c;rcases c with rfl|c
   ·intro e;exact hd.1 (Wm.2 ⟨t,ht,e.symm⟩)
   ·exact hn z c I t (by simp[ht])
  obtain⟨D,C,y,x⟩:=Bh id eb r _ m k hd.2;refine⟨D,by rw[gn,C,g];rfl,fun z=>?_,?_⟩
  ·rw[gn,y,g,aE.xQ];constructor
   ·rintro ((h|h)|⟨t,ht,h⟩)
    ·exact .inr ⟨s,by simp,h⟩
    ·exact .inl h
    ·exact .inr ⟨t,by simp[ht],h⟩
   ·rintro (h|⟨t,ht,h⟩)
    ·exact .inl (.inr h)
    ·rcases VA.1 ht with rfl|ht
     ·exact .inl (.inl h)
     ·exact .inr ⟨t,ht,h⟩
  ·rw[gn,x,<- aE.mM,<- aE.mM,g,aE.IM,V6];omega
theorem Bu(id:U9):∀ (L:U5 (U9 × U9))(T:aE.S),aE.Ord (aE.bS T) ->
  aE.Ord (aE.bS (jx id T L))/\aE.bS (jx id T L)=(aE.bS T).filter (fun z=>L.all fun s=>aE.na s.1 id z)/\aE.size (jx id T L)<=aE.size T
 |[],T,h=>⟨h,(List.filter_eq_self.2 (fun _ _=>rfl)).symm,Nat.le_refl _⟩
 |s :: r,T,h=>by
  have c:=aE.Co s.1 id T h;have g:aE.Ord (aE.bS (aE.drop s.1 id T)):=by rw[c];exact aE.IU _ h
  obtain⟨m,l,k⟩:=Bu id r _ g;refine⟨m,?_,Vq k (vV _ _ _)⟩;rw[jx,l,c,List.filter_filter]
  congr 1
  funext z
  simp only[List.all_cons];exact Bool.and_comm _ _
theorem Hs(A:U5 U7->U9)(L:U5 (U9 × U9))(u:U9):bZ (bZ A L u) L (-u)=A:=by
 funext p;unfold bZ;rw[Int.neg_mul];omega
structure xk(w:Vh)(tb eb B cap:U8)(name:U4)(aH:U9)(A:U5 U7->U9)(T:aE.S)(F:U5 U8)(id u:U9)(L:U5 (U9 × U9)):Prop where
 th:∃ (ul us:U6 Vl) (Fl Fs:U5 U8),TH w tb name aH A T ul us Fl Fs/\∀ k∈Fl++Fs,k∈F
 en:gQ w eb id tb u B cap L
 ne:eb ∉ tb :: F
 nb:B ∉ tb :: F
 ok:ow L
 bd:∀ p,0<=A p/\A p<=400000
 u1:1<=u
 u2:u<=9
 ll:L.length<=100
structure N4(w wx:Vh)(tb eb B cap:U8)(name:U4)(aH:U9)(A:U5 U7->U9)(T:aE.S)(F:U5 U8)(id u:U9)(L:U5 (U9 × U9)):Prop where
 now:fH w wx tb name aH A T F
 en:gQ wx eb id tb u B cap L
theorem fH.pair{aH:U9}{T:aE.S}{u:U9}(h:fH w wx tb name aH A T F)(c:gQ w eb id tb u B cap L)(k:eb ∉ tb :: F)(g:B ∉ tb :: F):N4 w wx tb eb B cap name aH A T F id u L:=⟨h,c.off h.off k g⟩
theorem Fx{u:U9}(h:∀ p,0<=A p/\A p<=400000)(u1:1<=u)(u2:u<=9)(g:L.length<=100):∀ p,0<=bZ A L u p/\bZ A L u p<=500000:=by
 intro p;have a:=h p;have b:=vp L p;have c:0<=u*gB L p:=Wc UU b.1;have d:u*gB L p<=9*100:=Wf u2 UU b.1 UU;unfold bZ;omega
theorem xM(w:Vh)(tb eb B cap:U8)(name:U4)(aH:U9)(A C:U5 U7->U9)(T:aE.S)(F:U5 U8)(id u x:U9)(L:U5 (U9 × U9))(y:gQ w eb id tb u B cap L)(l:eb ∉ tb :: F)(c:B ∉ tb :: F)(k:ow L)(K:∀ p,0<=A p/\A p<=500000)(r:∀ p,0<=bZ A L x p)(h:-9<=x)(g:x<=9)(J:L.length<=100)(N:bZ A L x=C)(wx:Vh)(m:fH w wx tb name aH A T F):
  Vk prog 157 #[.pointer (Ve ⟨tb,0,Vd⟩),.slice (Ve ⟨B,0,Vd⟩) L.length cap,.int .i64 x] wx fun e w'=>e=.returned (.tuple #[])/\fH w w' tb name aH C T F:=by
 obtain⟨ul,us,Fl,Fs,M,z⟩:=m.th;have t:=m.pair y l c
 have I:B ∉ tb :: Fl:=by
  intro e;rcases VA.1 e with e|e
  ·exact c (by simp[e])
  ·rcases z B (by simp[e]) with e|e
   ·exact c (by simp[e])
   ·have:=y.lt;omega
 refine (P5 wx tb B cap name aH A T ul us Fl Fs L x M t.en.sl k I t.en.lt K r h g J).mono ?_;rintro e w' ⟨rfl,s,D⟩;rw[N] at s;exact⟨rfl,m.sw z s D⟩
theorem OX(w:Vh)(tb eb B cap:U8)(name:U4)(aH:U9)(A:U5 U7->U9)(T:aE.S)(F:U5 U8)(id u:U9)(L:U5 (U9 × U9))(h:xk w tb eb B cap name aH A T F id u L)(m:kB (bZ A L u) aH L=Vf):
  Vk prog 104 #[.pointer (Ve ⟨tb,0,Vd⟩),.pointer (Ve ⟨eb,0,Vd⟩)] w fun e w'=>e=.returned (.bool Vf)/\fH w w' tb name aH A T F:=by
 have c:=Fx h.bd h.u1 h.u2 h.ll;have Q:=aC (xM w tb eb B cap name aH A (bZ A L u) T F id u u L h.en h.ne h.nb h.ok (fun p=>⟨(h.bd p).1,by have:=(h.bd p).2;omega⟩) (fun p=>(c p).1) (by have:=h.u1;omega) h.u2 h.ll rfl);have O:=aC (xM w tb eb B cap name aH (bZ A L u) A T F id u (-u) L h.en h.ne h.nb h.ok c (fun p=>by rw[Hs];exact (h.bd p).1) (by have:=h.u2;omega) (by have:=h.u1;omega) h.ll (Hs A L u))
 have N:Hid (∀ wx,fH w wx tb name aH (bZ A L u) T F->Vk prog 158 #[.pointer (Ve ⟨tb,0,Vd⟩),.slice (Ve ⟨B,0,Vd⟩) L.length cap] wx fun e w'=>e=.returned (.bool Vf)/\fH w w' tb name aH (bZ A L u) T F):=by
  intro wx l;obtain⟨ul,us,Fl,Fs,t,y⟩:=l.th;refine (Hc wx tb B cap name aH _ T ul us Fl Fs L t (l.pair h.en h.ne h.nb).en.sl h.ok (fun p=>⟨(c p).1,by have:=(c p).2;omega⟩) h.ll).mono ?_;rintro e w' ⟨rfl,U⟩;rw[m];exact⟨rfl,l.later (aF.aD U)⟩
 have P:Hid (∀ wx A',fH w wx tb name aH A' T F->wx.cell? ⟨eb,4,Vd⟩=Ve (.slice (Ve ⟨B,0,Vd⟩) L.length cap)/\wx.cell? ⟨eb,3,Vd⟩=Ve (.int .i64 u)) :=
  fun wx A' l=>⟨(l.pair h.en h.ne h.nb).en.c3,(l.pair h.en h.ne h.nb).en.c2⟩
 have r:fH w w.drew tb name aH A T F:=by
  obtain⟨ul,us,Fl,Fs,t,y⟩:=h.th;exact⟨⟨ul,us,Fl,Fs,t.same (aF.refl _ _).drew,fun k R=>.inl (y k R)⟩,(aF.refl _ _).drew⟩
 have J:=aC r;have D:=h.en.c3;have I:=h.en.c2;have u1:=h.u1;have u2:=h.u2;have x:Vp.wrap (-u)=-u:=cG UU UU;clear h c m r
 go_in
 go_upto_region 1 with fail
 go_region_held3 (fun w'=>w'.cell? ⟨eb,4,Vd⟩=Ve (.slice (Ve ⟨B,0,Vd⟩) L.length cap)/\w'.cell? ⟨eb,3,Vd⟩=Ve (.int .i64 u))
  (first
   |exact⟨D,I⟩
   |exact P.out _ _ g)
  (first
   |(go_at_call 157;refine (Q.out _ J.out).mono ?_;rintro e w4 ⟨rfl,g⟩))
 obtain⟨V,W⟩:=P.out _ _ g;have M:=aC g;clear g Q J D I
 go_wp2_with fail
 refine (N.out _ M.out).mono ?_;rintro e w5 ⟨rfl,s⟩;obtain⟨z,C⟩:=P.out _ _ s;have K:=aC (s.later (aF.refl _ _).drew);have X:=aC s;clear s N V W
 go_upto_region 3 with fail
 go_region_held3 (fun w'=>w'.cell? ⟨eb,4,Vd⟩=Ve (.slice (Ve ⟨B,0,Vd⟩) L.length cap)/\w'.cell? ⟨eb,3,Vd⟩=Ve (.int .i64 u))
  (first
   |exact⟨z,C⟩
   |exact P.out _ _ g)
  (first
   |(go_at_call 157;refine (O.out _ K.out).mono ?_;rintro e Y ⟨rfl,g⟩))
 have K4:=aC g;clear g O M K X z C P
 go_wp2
 go_ret;exact⟨rfl,K4.out⟩
structure xt(T:aE.S)(id:U9)(L:U5 (U9 × U9)):Prop where
 od:aE.Ord (aE.bS T)
 sz:aE.size T<=9000
 no:∀ z∈aE.bS T,z.n=id->∀ s∈L,z.f≠s.1
 nd:(L.map (·.1)).Nodup
theorem pS.off{c:aE.S}(h:pS w tb o F c w'):aF (tb :: F) w w':=by
 obtain⟨_,_,_,_,_,h,_⟩:=h;exact h
theorem Qs(tb eb:U8)(name:U4)(aH:U9)(A:U5 U7->U9)(T:aE.S)(id:U9)(L:U5 (U9 × U9))(g:xt T id L)(Q:L.length<=100)(k:U8)(C:k<L.length)(ul us:U6 Vl)(Fl Fs:U5 U8)(wx:Vh)(r:TH wx tb name aH A (gn id eb T (L.take k)) ul us Fl Fs):
  Vk prog 159 #[.pointer (Ve ⟨tb,3,Vd⟩),.int .i64 L[k].1,.int .i64 L[k].2,.int .i64 id,.pointer (Ve ⟨eb,0,Vd⟩)] wx fun e w'=>e=.returned (.tuple #[])/\pS wx tb 3 Fs (gn id eb T (L.take (k+1))) w':=by
 have x:((L.take k).map (·.1)).Nodup:=VT ((Wn k L).map _) g.nd;obtain⟨P,_,J,O⟩:=Bh id eb (L.take k) T g.od (fun z h M s t=>g.no z h M s (Wp t)) x;have D:=Wq k L;have y:(L.take k).length<=100:=UU
 have e:gn id eb T (L.take (k+1))=aE.put (jG id eb L[k]) (gn id eb T (L.take k)):=by rw[Wg C,Ih]
 have h:=g.sz
 have l:∀ z∈aE.bS (gn id eb T (L.take k)),¬ (z.f=(jG id eb L[k]).f/\z.n=(jG id eb L[k]).n):=by
  intro z h ⟨I,N⟩;rcases (J z).1 h with h|⟨s,t,rfl⟩
  ·exact g.no z h N L[k] (zg C) I
  ·have R:=g.nd
   have c:(L.take (k+1)).map (·.1)=(L.take k).map (·.1)++[L[k].1]:=by rw[Wg C,Wr];rfl
   have m:((L.take (k+1)).map (·.1)).Nodup:=VT ((Wn (k+1) L).map _) g.nd;rw[c,VJ] at m;exact m.2.2 s.1 (Wm.2 ⟨s,t,rfl⟩) L[k].1 UV I
 refine (OR (gn id eb T (L.take k)) tb 3 us Fs (jG id eb L[k]) wx r.c3 (r.fz 3) r.ns r.sp UU l).mono ?_;rintro U w' ⟨rfl,K⟩;rw[e];exact⟨rfl,K⟩
theorem QU(tb:U8)(name:U4)(aH:U9)(A:U5 U7->U9)(T:aE.S)(id:U9)(L:U5 (U9 × U9))(h:aE.Ord (aE.bS T))(r:aE.size T<=9000)(k:U8)(l:k<L.length)(ul us:U6 Vl)(Fl Fs:U5 U8)(wx:Vh)(c:TH wx tb name aH A (jx id T (L.take k)) ul us Fl Fs):
  Vk prog 253 #[.pointer (Ve ⟨tb,3,Vd⟩),.int .i64 L[k].1,.int .i64 id] wx fun e w'=>e=.returned (.tuple #[])/\pS wx tb 3 Fs (jx id T (L.take (k+1))) w':=by
 obtain⟨_,_,m⟩:=Bu id (L.take k) T h;have e:jx id T (L.take (k+1))=aE.drop L[k].1 id (jx id T (L.take k)):=by rw[Wg l,ID]
 refine (Py (jx id T (L.take k)) tb 3 us Fs L[k].1 id wx c.c3 (c.fz 3) c.ns c.sp UU).mono ?_;rintro s w' ⟨rfl,g⟩;rw[e];exact⟨rfl,g⟩
theorem P7(w:Vh)(tb eb B cap:U8)(name:U4)(aH:U9)(A:U5 U7->U9)(T:aE.S)(F:U5 U8)(id u:U9)(L:U5 (U9 × U9))(h:xk w tb eb B cap name aH A T F id u L)(hr:xt T id L)(r:kB (bZ A L u) aH L=Vg):
  Vk prog 104 #[.pointer (Ve ⟨tb,0,Vd⟩),.pointer (Ve ⟨eb,0,Vd⟩)] w fun e w'=>e=.returned (.bool Vg)/\fH w w' tb name aH (bZ A L u) (gn id eb T L) F:=by
 have c:=Fx h.bd h.u1 h.u2 h.ll;have C1:=aC (xM w tb eb B cap name aH A (bZ A L u) T F id u u L h.en h.ne h.nb h.ok (fun p=>⟨(h.bd p).1,by have:=(h.bd p).2;omega⟩) (fun p=>(c p).1) (by have:=h.u1;omega) h.u2 h.ll rfl)
 have CH:Hid (∀ wx,fH w wx tb name aH (bZ A L u) T F->Vk prog 158 #[.pointer (Ve ⟨tb,0,Vd⟩),.slice (Ve ⟨B,0,Vd⟩) L.length cap] wx fun e w'=>e=.returned (.bool Vg)/\fH w w' tb name aH (bZ A L u) T F):=by
  intro wx l;obtain⟨ul,us,Fl,Fs,y,K⟩:=l.th;refine (Hc wx tb B cap name aH _ T ul us Fl Fs L y (l.pair h.en h.ne h.nb).en.sl h.ok (fun p=>⟨(c p).1,by have:=(c p).2;omega⟩) h.ll).mono ?_;rintro e w' ⟨rfl,hb⟩;rw[r];exact⟨rfl,l.later (aF.aD hb)⟩
 have P:Hid (∀ wx A' x,fH w wx tb name aH A' x F->gQ wx eb id tb u B cap L):=fun wx A' x l=>(l.pair h.en h.ne h.nb).en
 have Z:Hid (∀ wx A' x,fH w wx tb name aH A' x F->wx.cell? ⟨eb,4,Vd⟩=Ve (.slice (Ve ⟨B,0,Vd⟩) L.length cap)/\wx.cell? ⟨eb,3,Vd⟩=Ve (.int .i64 u)):=fun wx A' x l=>⟨(P.out wx A' x l).c3,(P.out wx A' x l).c2⟩
 have J:fH w w.drew tb name aH A T F:=by
  obtain⟨ul,us,Fl,Fs,y,K⟩:=h.th;exact⟨⟨ul,us,Fl,Fs,y.same (aF.refl _ _).drew,fun k R=>.inl (K k R)⟩,(aF.refl _ _).drew⟩
 have N0:=aC J;have CP:=aC (fun k R ul us Fl Fs wx l=>Qs tb eb name aH (bZ A L u) T id L hr h.ll k R ul us Fl Fs wx l);have c3:=h.en.c3;have W:=h.en.c2;have ll:=h.ll;have M:=aC (zA h.ne h.nb);have O:Hid (eb<w.heap.size):=Vr _ _ h.en.c0;clear h c r J hr;generalize bZ A L u=A1 at *
 go_in
 go_upto_region 1 with fail
 go_region_held3 (fun w'=>w'.cell? ⟨eb,4,Vd⟩=Ve (.slice (Ve ⟨B,0,Vd⟩) L.length cap)/\w'.cell? ⟨eb,3,Vd⟩=Ve (.int .i64 u))
  (first
   |exact⟨c3,W⟩
   |exact Z.out _ _ _ g)
  (first
   |(go_at_call 157;refine (C1.out _ N0.out).mono ?_;rintro e w4 ⟨rfl,g⟩))
 obtain⟨d3,d2⟩:=Z.out _ _ _ g;have K1:=aC g;clear g C1 N0 c3 W
 go_wp2_with fail
 refine (CH.out _ K1.out).mono ?_;rintro e w5 ⟨rfl,k2⟩;obtain⟨f3,f2⟩:=Z.out _ _ _ k2;have K3:=aC k2;clear k2 CH d3 d2 K1
 go_wp2_with fail
 go_loopw [6,40] (fun _ i wx=>∃ k:U8,k<=L.length/\i=.int .i64 k/\fH w wx tb name aH A1 (gn id eb T (L.take k)) F) (fun _ i _=>L.length-(intOf i).toNat)
 case atStart=>exact⟨0,Wh _,rfl,K3.out⟩
 case round =>
  obtain⟨k,R,rfl,t⟩:=hrel;clear f3 f2
  by_cases s:k<L.length
  ·have U:=P.out _ _ _ t;have c1:=(U.sl k s).1;have W:=(U.sl k s).2;have c0:=U.c0;have hi:(k:U9)<(L.length:U9):=UU
   obtain⟨ul,us,Fl,Fs,y,K⟩:=t.th;have HN:=aC t;have H1:=aC y;have H2:=aC K;clear U t y K
   go_upto_region 8 with fail
   have V:aF [] wr (wr.alloc (.cells #[.int .i64 L[k].1,.int .i64 L[k].2] 60)):=(aF.refl _ _).alloc _;have C:(wr.alloc (.cells #[.int .i64 L[k].1,.int .i64 L[k].2] 60)).cell? ⟨wr.heap.size,0,Vd⟩=Ve (.int .i64 L[k].1):=UV
   have z:(wr.alloc (.cells #[.int .i64 L[k].1,.int .i64 L[k].2] 60)).cell? ⟨wr.heap.size,1,Vd⟩=Ve (.int .i64 L[k].2):=UV
   have Q:=V.cell UV c0;have NX:=aC (HN.out.later V.drew);have Y:=aC (H1.out.same V.drew);have PX:=aC (CP.out k s _ _ _ _ _ Y.out);have I:wr.heap.size ∉ tb :: Fs:=fun e=>by have:=H1.out.lt wr.heap.size (by simp only[VA,VB] at e ⊢;grind);omega
   have m:=aC I
   have D:eb ∉ tb :: Fs:=by
    intro e;rcases VA.1 e with e|e
    ·exact M.out.1 (by simp[e])
    ·rcases H2.out eb (by simp[e]) with e|e
     ·exact M.out.1 (by simp[e])
     ·have:=O.out;omega
   have N:=aC D;clear V c0 c1 W I D HN;generalize (VK wr (.cells #[.int .i64 L[k].1,.int .i64 L[k].2] 60))=X at C z Q NX Y PX ⊢;generalize wr.heap.size=bx at C z m ⊢
   go_region_held3 (fun w'=>w'.cell? ⟨bx,0,Vd⟩=Ve (.int .i64 L[k].1)/\w'.cell? ⟨bx,1,Vd⟩=Ve (.int .i64 L[k].2)/\w'.cell? ⟨eb,0,Vd⟩=Ve (.int .i64 id))
    (first
     |exact⟨C,z,Q⟩
     |exact⟨g.off.cell m.out C,g.off.cell m.out z,g.off.cell N.out Q⟩)
    (first
     |(go_at_call 159;refine PX.out.mono ?_;rintro e w6 ⟨rfl,g⟩))
   have HK:=aC (NX.out.lJ Y.out H2.out g);clear g NX Y PX H1 H2 m N CP Z P C z Q
   go_wp2
   go_roundw
   case rel=>exact⟨k+1,by omega,by go_num,HK.out⟩
   case measure=>simp[intOf];omega
  ·have e:L.take k=L:=Wi UU;rw[e] at t;have HN:=aC t;have hi:¬ (k:U9)<(L.length:U9):=UU
   clear t
   go_wp2
   go_ret;exact⟨rfl,HN.out⟩
theorem Tx(w:Vh)(tb eb B cap:U8)(name:U4)(aH:U9)(A:U5 U7->U9)(T:aE.S)(F:U5 U8)(id u:U9)(L:U5 (U9 × U9))(h:xk w tb eb B cap name aH A T F id u L)(ho:aE.Ord (aE.bS T))(hz:aE.size T<=9000)(hA:∀ p,0<=bZ A L (-u) p):
  Vk prog 205 #[.pointer (Ve ⟨tb,0,Vd⟩),.pointer (Ve ⟨eb,0,Vd⟩)] w fun e w'=>e=.returned (.tuple #[])/\fH w w' tb name aH (bZ A L (-u)) (jx id T L) F:=by
 have C1:=aC (xM w tb eb B cap name aH A (bZ A L (-u)) T F id u (-u) L h.en h.ne h.nb h.ok (fun p=>⟨(h.bd p).1,by have:=(h.bd p).2;omega⟩) hA (by have:=h.u2;omega) (by have:=h.u1;omega) h.ll rfl);have P:Hid (∀ wx A' r,fH w wx tb name aH A' r F->gQ wx eb id tb u B cap L):=fun wx A' r s=>(s.pair h.en h.ne h.nb).en
 have Z:Hid (∀ wx A' r,fH w wx tb name aH A' r F->wx.cell? ⟨eb,4,Vd⟩=Ve (.slice (Ve ⟨B,0,Vd⟩) L.length cap)/\wx.cell? ⟨eb,3,Vd⟩=Ve (.int .i64 u)):=fun wx A' r s=>⟨(P.out wx A' r s).c3,(P.out wx A' r s).c2⟩
 have C:fH w w.drew tb name aH A T F:=by
  obtain⟨ul,us,Fl,Fs,R,Q⟩:=h.th;exact⟨⟨ul,us,Fl,Fs,R.same (aF.refl _ _).drew,fun k M=>.inl (Q k M)⟩,(aF.refl _ _).drew⟩
 have N0:=aC C;have CP:=aC (fun k M ul us Fl Fs wx s=>QU tb name aH (bZ A L (-u)) T id L ho hz k M ul us Fl Fs wx s);have c3:=h.en.c3;have U:=h.en.c2;have ll:=h.ll;have u1:=h.u1;have u2:=h.u2;have aa:Vp.wrap (-u)=-u:=cG UU UU;have D:=aC (zA h.ne h.nb);have J:Hid (eb<w.heap.size):=Vr _ _ h.en.c0;clear h C ho hz hA;generalize bZ A L (-u)=A1 at *
 go_in
 go_upto_region 0 with fail
 go_region_held3 (fun w'=>w'.cell? ⟨eb,4,Vd⟩=Ve (.slice (Ve ⟨B,0,Vd⟩) L.length cap)/\w'.cell? ⟨eb,3,Vd⟩=Ve (.int .i64 u))
  (first
   |exact⟨c3,U⟩
   |exact Z.out _ _ _ c)
  (first
   |(go_at_call 157;refine (C1.out _ N0.out).mono ?_;rintro e w4 ⟨rfl,c⟩))
 obtain⟨f3,f2⟩:=Z.out _ _ _ c;have K3:=aC c;clear c C1 N0 c3 U
 go_wp2_with fail
 go_loopw [5,22] (fun _ i wx=>∃ k:U8,k<=L.length/\i=.int .i64 k/\fH w wx tb name aH A1 (jx id T (L.take k)) F) (fun _ i _=>L.length-(intOf i).toNat)
 case atStart=>exact⟨0,Wh _,rfl,K3.out⟩
 case round =>
  obtain⟨k,M,rfl,m⟩:=hrel;clear f3 f2
  by_cases l:k<L.length
  ·have N:=P.out _ _ _ m;have c1:=(N.sl k l).1;have U:=(N.sl k l).2;have c0:=N.c0;have hi:(k:U9)<(L.length:U9):=UU
   obtain⟨ul,us,Fl,Fs,R,Q⟩:=m.th;have W:=aC m;have H1:=aC R;have H2:=aC Q;clear N m R Q
   go_upto_region 4 with fail
   have O:aF [] wr (wr.alloc (.cells #[.int .i64 L[k].1,.int .i64 L[k].2] 60)):=(aF.refl _ _).alloc _;have x:(wr.alloc (.cells #[.int .i64 L[k].1,.int .i64 L[k].2] 60)).cell? ⟨wr.heap.size,0,Vd⟩=Ve (.int .i64 L[k].1):=UV
   have t:(wr.alloc (.cells #[.int .i64 L[k].1,.int .i64 L[k].2] 60)).cell? ⟨wr.heap.size,1,Vd⟩=Ve (.int .i64 L[k].2):=UV
   have K:=O.cell UV c0;have NX:=aC (W.out.later O.drew);have V:=aC (H1.out.same O.drew);have Y:=aC (CP.out k l _ _ _ _ _ V.out);have z:wr.heap.size ∉ tb :: Fs:=fun e=>by have:=H1.out.lt wr.heap.size (by simp only[VA,VB] at e ⊢;grind);omega
   have g:=aC z
   have y:eb ∉ tb :: Fs:=by
    intro e;rcases VA.1 e with e|e
    ·exact D.out.1 (by simp[e])
    ·rcases H2.out eb (by simp[e]) with e|e
     ·exact D.out.1 (by simp[e])
     ·have:=J.out;omega
   have I:=aC y;clear O c0 c1 U z y W;generalize (VK wr (.cells #[.int .i64 L[k].1,.int .i64 L[k].2] 60))=X at x t K NX V Y ⊢;generalize wr.heap.size=bx at x t g ⊢
   go_region_held3 (fun w'=>w'.cell? ⟨bx,0,Vd⟩=Ve (.int .i64 L[k].1)/\w'.cell? ⟨bx,1,Vd⟩=Ve (.int .i64 L[k].2)/\w'.cell? ⟨eb,0,Vd⟩=Ve (.int .i64 id))
    (first
     |exact⟨x,t,K⟩
     |exact⟨c.off.cell g.out x,c.off.cell g.out t,c.off.cell I.out K⟩)
    (first
     |(go_at_call 253;refine Y.out.mono ?_;rintro e w6 ⟨rfl,c⟩))
   have HK:=aC (NX.out.lJ V.out H2.out c);clear c NX V Y H1 H2 g I CP Z P x t K
   go_wp2
   go_roundw
   case rel=>exact⟨k+1,by omega,by go_num,HK.out⟩
   case measure=>simp[intOf];omega
  ·have e:L.take k=L:=Wi UU;rw[e] at m;have W:=aC m;have hi:¬ (k:U9)<(L.length:U9):=UU
   clear m
   go_wp2
   go_end0
   exact⟨rfl,W.out⟩
namespace Hp
structure Hi where
 t:U9
 n:U9
 v:U8
def ahead(x y:Hi):Prop:=x.t<y.t\/(x.t=y.t/\x.n<y.n)
instance (x y:Hi):Decidable (ahead x y):=by unfold ahead;infer_instance
theorem yj{x y z:Hi}(h:¬ ahead x y)(k:¬ ahead y z):¬ ahead x z:=by unfold ahead at *;omega
theorem A3{x y:Hi}(h:ahead x y):¬ ahead y x:=by unfold ahead at *;omega
theorem SZ(x:Hi):¬ ahead x x:=by unfold ahead;omega
def at_(l:U5 Hi)(i:U8):Hi:=l.getD i ⟨0,0,0⟩
theorem sP{l:U5 Hi}(h:i<l.length):at_ l i=l[i]:=by simp[at_,Ws,h]
theorem xx{l:U5 Hi}{x:Hi}:at_ (l.set i x) j=if i=j/\i<l.length then x else at_ l j:=by
 unfold at_ Ws;rw[List.getElem?_set]
 by_cases h:i=j
 ·subst h
  by_cases k:i<l.length
  ·simp[k]
  ·simp[k]
 ·simp[h]
def par(i:U8):U8:=(i-1) / 2
def ok(l:U5 Hi)(i:U8):Prop:=¬ ahead (at_ l i) (at_ l (par i))
def gH(l:U5 Hi):Prop:=∀ i,0<i->i<l.length->ok l i
def swap(l:U5 Hi)(i j:U8):U5 Hi:=(l.set i (at_ l j)).set j (at_ l i)
theorem qX{l:U5 Hi}:(swap l i j).length=l.length:=by simp[swap]
theorem xW{l:U5 Hi}(g:i<l.length)(c:j<l.length):(swap l i j).Perm l:=by
 unfold swap;rw[sP g,sP c];exact List.set_set_perm g c
theorem n9{l:U5 Hi}(m:i<l.length)(h:j<l.length)(k:U8):at_ (swap l i j) k=if k=j then at_ l i else if k=i then at_ l j else at_ l k:=by
 unfold swap;rw[xx,xx]
 by_cases g:k=j
 ·subst g;rw[Vb ⟨rfl,by simpa using h⟩,Vb rfl]
 ·rw[Va (fun e=>g e.1.symm),Va g]
  by_cases c:k=i
  ·subst c;rw[Vb ⟨rfl,m⟩,Vb rfl]
  ·rw[Va (fun e=>c e.1.symm),Va c]
structure oJ(l:U5 Hi)(p:U8):Prop where
 o:∀ i,0<i->i<l.length->i≠p->ok l i
 c:0<p->∀ i,0<i->i<l.length->par i=p->¬ ahead (at_ l i) (at_ l (par p))
theorem oJ.done{l:U5 Hi}(h:oJ l p)(k:p=0\/¬ ahead (at_ l p) (at_ l (par p))):gH l:=by
 intro i g c
 by_cases e:i=p
 ·subst e;rcases k with k|k
  ·omega
  ·exact k
 ·exact h.o i g c e
theorem oJ.step{l:U5 Hi}(h:oJ l p)(x:p<l.length)(J:0<p)(k:ahead (at_ l p) (at_ l (par p))):oJ (swap l p (par p)) (par p):=by
 have K:par p<p:=by unfold par;omega
 have m:par p<l.length:=UU
 refine⟨fun i t r y=>?_,fun D i t r C=>?_⟩
 ·rw[qX] at r;unfold ok;rw[n9 x m,n9 x m,Va y]
  by_cases e:i=p
  ·subst e;rw[Vb rfl,Vb rfl];exact A3 k
  ·rw[Va e]
   by_cases s:par i=par p
   ·rw[Vb s];have:=h.o i t r e;unfold ok at this;rw[s] at this;exact yj this (A3 k)
   ·rw[Va s]
    by_cases z:par i=p
    ·rw[Vb z];exact h.c J i t r z
    ·rw[Va z];exact h.o i t r e
 ·rw[qX] at r
  have I:par (par p)<par p:=by
   have:par (par p)=(par p-1) / 2:=rfl;omega
  rw[n9 x m,n9 x m,Va (show par (par p)≠par p by omega),Va (show par (par p)≠p by omega)];have g:=h.o (par p) D m UU;unfold ok at g
  by_cases e:i=par p
  ·rw[e] at C;omega
  ·rw[Va e]
   by_cases s:i=p
   ·subst s;rw[Vb rfl];exact g
   ·rw[Va s];have:=h.o i t r s;unfold ok at this;rw[C] at this;exact yj this g
theorem PM{l:U5 Hi}{x:Hi}(h:gH l):oJ (l++[x]) l.length:=by
 have e:∀ i,i<l.length->at_ (l++[x]) i=at_ l i:=by
  intro i c;unfold at_ Ws;rw[Wt c]
 refine⟨fun i g c k=>?_,fun _ i g c m=>?_⟩
 ·simp at c;unfold ok;rw[e i UU,e (par i) (by unfold par;omega)];exact h i g UU
 ·simp at c;unfold par at m;omega
structure qR(l:U5 Hi)(q p:U8):Prop where
 qp:q<=p
 a:∀ i,0<i->i<l.length->i≠q->par i≠p->ok l i
 b:0<p->∀ i,0<i->i<l.length->par i=p->¬ ahead (at_ l i) (at_ l (par p))
 d:p≠q->0<q->ok l q
theorem qR.done{l:U5 Hi}(h:qR l q p)(y:q<l.length)(k:∀ i,0<i->i<l.length->par i=p->¬ ahead (at_ l i) (at_ l p)):oJ l q:=by
 have o:∀ i,0<i->i<l.length->i≠q->ok l i:=by
  intro i c g m
  by_cases e:par i=p
  ·unfold ok;rw[e];exact k i c g e
  ·exact h.a i c g m e
 refine⟨o,fun t i c g r=>?_⟩
 by_cases e:p=q
 ·subst e;exact h.b t i c g r
 ·have x:=h.d e t;have s:=o i c g (by intro e;subst e;unfold par at r;omega);unfold ok at x s;rw[r] at s;exact yj s x
theorem qR.step{l:U5 Hi}{c:U8}(h:qR l q p)(J:0<c)(m:c<l.length)(g:par c=p)(k:ahead (at_ l c) (at_ l p))(K:∀ i,0<i->i<l.length->par i=p->¬ ahead (at_ l i) (at_ l c)):qR (swap l p c) q c:=by
 have N:p<c:=by unfold par at g;omega
 have r:p<l.length:=UU
 have P:=h.qp;refine⟨by omega,fun i t s y z=>?_,fun _ i t s D=>?_,fun _ C=>?_⟩
 ·rw[qX] at s;unfold ok;rw[n9 r m,n9 r m,Va z]
  by_cases e:i=c
  ·subst e;rw[Vb rfl,Vb g];exact A3 k
  ·rw[Va e]
   by_cases I:i=p
   ·subst I;have:par i<i:=by unfold par;omega
    rw[Vb rfl,Va UU];exact h.b t c J m g
   ·rw[Va I]
    by_cases x:par i=p
    ·rw[Vb x];exact K i t s x
    ·rw[Va x];exact h.a i t s y x
 ·rw[qX] at s;have O:c<i:=by unfold par at D;omega
  rw[n9 r m,n9 r m,Va UU,Va UU,Va (show par c≠c by omega),Vb g];have:=h.a i t s UU UU;unfold ok at this;rw[D] at this;exact this
 ·unfold ok;have M:par q<q:=by unfold par;omega
  rw[n9 r m,n9 r m,Va (show q≠c by omega),Va (show par q≠c by omega),Va (show par q≠p by omega)]
  by_cases e:q=p
  ·subst e;rw[Vb rfl];exact h.b C c J m g
  ·rw[Va e];exact h.d UU C
def cut(l:U5 Hi)(p:U8):U5 Hi:=(l.set p (at_ l (l.length-1))).take (l.length-1)
theorem pN{l:U5 Hi}:(cut l p).length=l.length-1:=by simp[cut]
theorem sB{l:U5 Hi}(g:i<l.length-1):at_ (cut l p) i=if i=p then at_ l (l.length-1) else at_ l i:=by
 have e:at_ (cut l p) i=at_ (l.set p (at_ l (l.length-1))) i:=by
  unfold cut;show (List.take _ _).getD i _=(l.set p (at_ l (l.length-1))).getD i _;unfold Ws;rw[Wu g]
 rw[e,xx]
 by_cases c:i=p
 ·subst c;rw[Vb ⟨rfl,by omega⟩,Vb rfl]
 ·rw[Va (fun e=>c e.1.symm),Va c]
theorem Gp{l:U5 Hi}(h:p<l.length):l.Perm (at_ l p :: cut l p):=by
 have k:l.length-1<l.length:=UU
 have r:=(xW (l:=l) (i:=p) (j:=l.length-1) h k).symm;have g:(swap l p (l.length-1)).length=l.length:=qX
 have e:swap l p (l.length-1)=cut l p++[at_ l p]:=by
  refine List.ext_getElem (by rw[g,V5,pN];simp;omega) (fun i m x=>?_);rw[g] at m;have t:=n9 h k i;rw[sP (by rw[g];exact m)] at t;rw[t]
  by_cases c:i=l.length-1
  ·rw[Vb c,List.getElem_append_right (by rw[pN];omega)];simp
  ·rw[Va c,List.getElem_append_left (by rw[pN];omega)];have s:=sB (l:=l) (p:=p) (i:=i) UU;rw[sP (by rw[pN];omega)] at s;rw[s]
 rw[e] at r;exact r.trans (List.perm_append_comm.trans UV)
theorem Ph{l:U5 Hi}(h:gH l):gH (cut l (l.length-1)):=by
 intro i g c;rw[pN] at c;unfold ok;rw[sB c,sB (show par i<l.length-1 by unfold par;omega),Va UU,Va (show par i≠l.length-1 by unfold par;omega)];exact h i g UU
theorem Pj{l:U5 Hi}(h:gH l)(C:p<l.length-1):qR (cut l p) p p:=by
 refine⟨zq _,fun i g c r m=>?_,fun z i g c x=>?_,fun e=>Vc rfl e⟩
 ·rw[pN] at c;unfold ok;rw[sB c,sB (show par i<l.length-1 by unfold par;omega),Va r,Va m];exact h i g UU
 ·rw[pN] at c;have s:i≠p:=by intro e;subst e;unfold par at x;omega
  have k:par p≠p:=by unfold par;omega
  rw[sB c,sB (show par p<l.length-1 by unfold par;omega),Va s,Va k];have t:=h i g UU;have y:=h p z UU;unfold ok at t y;rw[x] at t;exact yj t y
end Hp
def iv(x:Hp.Hi):U5 Vi:=[.int .i64 x.t,.int .i64 x.n,.pointer (Ve ⟨x.v,0,Vd⟩)]
theorem yb(l:U5 Hp.Hi):(l.flatMap iv).length=l.length*3:=by
 induction l with
 |nil=>rfl
 |cons x l ih=>simp only[Wv,V5,V6,ih,iv,Wa];omega
theorem Cr{l:U5 Hp.Hi}(h:i<l.length):l=l.take i++l[i] :: l.drop (i+1):=by rw[Ww,Wb]
theorem ue{l:U5 Hp.Hi}(h:i<l.length)(g:j<3):(l.flatMap iv)[i*3+j]?=(iv l[i])[j]?:=by
 conv=>lhs;rw[Cr h,Wx,Wv]
 have c:((l.take i).flatMap iv).length=i*3:=by rw[yb,Wy UU]
 rw[Wz UU,c,WB,Wt (by simp[iv];omega)]
theorem Q0{l:U5 Hp.Hi}(h:i<l.length)(x:Hp.Hi):(((l.flatMap iv).set (i*3) (.int .i64 x.t)).set (i*3+1) (.int .i64 x.n)).set (i*3+2) (.pointer (Ve ⟨x.v,0,Vd⟩))=(l.set i x).flatMap iv:=by
 have c:((l.take i).flatMap iv).length=i*3:=by rw[yb,Wy UU]
 conv=>lhs;rw[Cr h,Wx,Wv]
 rw[WC _ _ UU,WC _ _ UU,WC _ _ UU,c];rw[show i*3-i*3=0 from by omega,show i*3+1-i*3=1 from by omega,show i*3+2-i*3=2 from by omega]
 conv=>rhs;rw[List.set_eq_take_append_cons_drop,Vb h,Wx,Wv]
 simp[iv]
structure HP(w:Vh)(d o:U8)(v:Vi)(l:U5 Hp.Hi):Prop where
 c:w.cell? ⟨d,o,Vd⟩=Ve v
 own:w.ownsRow 0 286 3 v l.length (l.flatMap iv)
 ne:v.ownBlock≠Ve d
 fz:w.frozen? ⟨d,o,Vd⟩=Vf
theorem HP.form{l:U5 Hp.Hi}(h:HP w d o v l)(c:0<l.length):∃ H cap,v=.slice (Ve ⟨H,0,Vd⟩) l.length cap:=by
 obtain⟨H,cap,e⟩:=Joins.ownsRow_form h.own c;exact⟨H,cap,e⟩
theorem HP.at{l:U5 Hp.Hi}(h:HP w d o (.slice (Ve ⟨H,0,Vd⟩) l.length cap) l)(c:i<l.length):w.cell? ⟨H,i*3,Vd⟩=Ve (.int .i64 (Hp.at_ l i).t)/\w.cell? ⟨H,i*3+1,Vd⟩=Ve (.int .i64 (Hp.at_ l i).n)/\w.cell? ⟨H,i*3+2,Vd⟩=Ve (.pointer (Ve ⟨(Hp.at_ l i).v,0,Vd⟩)):=by
 rw[Hp.sP c];refine⟨?_,?_,?_⟩
 ·exact (h.own.cellAt (i*3) UU).trans (ue c (j:=0) UU)
 ·exact (h.own.cellAt (i*3+1) UU).trans (ue c (j:=1) UU)
 ·exact (h.own.cellAt (i*3+2) UU).trans (ue c (j:=2) UU)
theorem HP.off{l:U5 Hp.Hi}(h:HP w d o v l)(k:aF G w w')(x:d ∉ G)(C:∀ b,v.ownBlock=Ve b->b ∉ G):HP w' d o v l:=by
 refine⟨k.cell x h.c,⟨h.own.1,?_⟩,h.ne,(k.frozen x (Vr _ _ h.c)).trans h.fz⟩;rcases h.own.2 with D|⟨g,cap,s,t,z,r,rest⟩
 ·exact .inl D
 ·refine .inr ⟨g,cap,s,t,z,?_,rest⟩
  have m:g<w.heap.size:=by
   by_cases y:g<w.heap.size
   ·exact y
   ·rw[WD UU] at r;cases r
  rw[k.block g m (C g (by rw[t];rfl))];exact r
theorem HP.later{l:U5 Hp.Hi}(h:HP w d o v l)(k:Vj w.heap.size w w'):HP w' d o v l:=h.off (G:=[]) (aF.aD k) UV UV
theorem HP.put{l:U5 Hp.Hi}(h:HP w d o (.slice (Ve ⟨H,0,Vd⟩) l.length cap) l)(m:i<l.length)(x:Hp.Hi):HP (((w.setCell ⟨H,i*3,Vd⟩ (.int .i64 x.t)).setCell ⟨H,i*3+1,Vd⟩ (.int .i64 x.n)).setCell ⟨H,i*3+2,Vd⟩ (.pointer (Ve ⟨x.v,0,Vd⟩))) d o (.slice (Ve ⟨H,0,Vd⟩) (l.set i x).length cap) (l.set i x):=by
 have g:d≠H:=fun e=>h.ne (by rw[e];rfl)
 have k:aF [H] w (((w.setCell ⟨H,i*3,Vd⟩ (.int .i64 x.t)).setCell ⟨H,i*3+1,Vd⟩ (.int .i64 x.n)).setCell ⟨H,i*3+2,Vd⟩ (.pointer (Ve ⟨x.v,0,Vd⟩))) :=
  (((aF.refl [H] w).setCell (.inl UV) _ _).setCell (.inl UV) _ _).setCell (.inl UV) _ _
 refine⟨?_,?_,h.ne,?_⟩
 ·rw[WE];exact k.cell (by simpa using g) h.c
 ·rw[WE,<- Q0 m x];exact ((((h.own.stored (i*3) (.int .i64 x.t)).1).stored (i*3+1) (.int .i64 x.n)).1.stored (i*3+2) (.pointer (Ve ⟨x.v,0,Vd⟩))).1
 ·exact (k.frozen (by simpa using g) (Vr _ _ h.c)).trans h.fz
theorem ub(w:Vh)(H i j m:U8)(a b c:Vi):aF [H] w (((w.setCell ⟨H,i,Vd⟩ a).setCell ⟨H,j,Vd⟩ b).setCell ⟨H,m,Vd⟩ c) :=
 (((aF.refl [H] w).setCell (.inl UV) _ _).setCell (.inl UV) _ _).setCell (.inl UV) _ _
theorem HP.oS{l:U5 Hp.Hi}(h:HP w d o (.slice (Ve ⟨H,0,Vd⟩) l.length cap) l)(m:i<l.length)(k:j<l.length){x y:Hp.Hi}(g:Hp.at_ l i=x)(c:Hp.at_ l j=y):
  HP ((((((w.setCell ⟨H,i*3,Vd⟩ (.int .i64 y.t)).setCell ⟨H,i*3+1,Vd⟩ (.int .i64 y.n)).setCell ⟨H,i*3+2,Vd⟩ (.pointer (Ve ⟨y.v,0,Vd⟩))).setCell ⟨H,j*3,Vd⟩ (.int .i64 x.t)).setCell ⟨H,j*3+1,Vd⟩ (.int .i64 x.n)).setCell ⟨H,j*3+2,Vd⟩ (.pointer (Ve ⟨x.v,0,Vd⟩))) d o (.slice (Ve ⟨H,0,Vd⟩) l.length cap) (Hp.swap l i j)
  /\ aF [H] w ((((((w.setCell ⟨H,i*3,Vd⟩ (.int .i64 y.t)).setCell ⟨H,i*3+1,Vd⟩ (.int .i64 y.n)).setCell ⟨H,i*3+2,Vd⟩ (.pointer (Ve ⟨y.v,0,Vd⟩))).setCell ⟨H,j*3,Vd⟩ (.int .i64 x.t)).setCell ⟨H,j*3+1,Vd⟩ (.int .i64 x.n)).setCell ⟨H,j*3+2,Vd⟩ (.pointer (Ve ⟨x.v,0,Vd⟩))):=by
 refine⟨?_,(ub _ _ _ _ _ _ _ _).trans (ub _ _ _ _ _ _ _ _)⟩;have a:=(h.put m y).put (i:=j) (by simpa using k) x;subst g c;have e:((l.set i (Hp.at_ l j)).set j (Hp.at_ l i)).length=l.length:=UV
 rw[e] at a;exact a
def gU(x:Hp.Hi)(t n:U9):U9:=oU (ly x.t t) (ly x.n n)
theorem OH(x y:Hp.Hi):gU x y.t y.n<0↔Hp.ahead x y:=by
 unfold gU oU ly Hp.ahead
 split <;> split <;> (repeat split) <;> omega
theorem Hb(x:Hp.Hi)(t n:U9):gU x t n=0↔x.t=t/\x.n=n:=by
 unfold gU oU ly
 split <;> split <;> (repeat split) <;> omega
theorem Jb(x:Hp.Hi)(t n:U9)(w:Vh):
  Vk prog 203 #[.agg #[.int .i64 x.t,.int .i64 x.n,.pointer (Ve ⟨x.v,0,Vd⟩)],.int .i64 t,.int .i64 n] w fun e w'=>e=.returned (.int .i64 (gU x t n))/\Vj w.heap.size w w':=by
 unfold gU;have HP:=aC (fun w'=>yx x.t t w');have r:=aC (fun w'=>yx x.n n w');generalize ly x.t t=p at *;generalize ly x.n n=q at *
 go_in
 have g:Vj w.heap.size w (w.alloc (.cells #[.int .i64 x.t,.int .i64 x.n,.pointer (Ve ⟨x.v,0,Vd⟩)] 286)):=(zr _ _).alloc (zq _) _;have l:(w.alloc (.cells #[.int .i64 x.t,.int .i64 x.n,.pointer (Ve ⟨x.v,0,Vd⟩)] 286)).cell? ⟨w.heap.size,0,Vd⟩=Ve (.int .i64 x.t):=UV
 have k:(w.alloc (.cells #[.int .i64 x.t,.int .i64 x.n,.pointer (Ve ⟨x.v,0,Vd⟩)] 286)).cell? ⟨w.heap.size,1,Vd⟩=Ve (.int .i64 x.n):=UV
 go_upto_region 1 with fail
 generalize (VK w (.cells #[.int .i64 x.t,.int .i64 x.n,.pointer (Ve ⟨x.v,0,Vd⟩)] 286))=X at l k g ⊢;generalize c:w.heap.size=b at l k g ⊢;have m:=aC c;clear c
 go_region_held3 (fun w'=>w'.cell? ⟨b,0,Vd⟩=Ve (.int .i64 x.t)/\w'.cell? ⟨b,1,Vd⟩=Ve (.int .i64 x.n)/\Vj b w w')
  (first
   |exact⟨l,k,g.drew⟩
   |(go_split_ands;refine⟨?_,?_,?_⟩ <;> assumption)
   |(go_split_ands;exact⟨aN ((zr _ _).alloc (zq _) _) UX,aN ((zr _ _).alloc (zq _) _) UX,bA UX ((zr _ _).alloc (zq _) _) (by rw[m.out];exact zq _)⟩))
  (first
   |(go_at_call_of 251 (V4 .i64 t);refine (HP.out _).mono ?_;rintro e w' ⟨rfl,rfl⟩)
   |(go_at_call_of 251 (V4 .i64 n);refine (r.out _).mono ?_;rintro e w' ⟨rfl,rfl⟩)
   |(go_at_call 250;refine (Fq _ p q _ UV UV).mono ?_;rintro e w' ⟨rfl,rfl⟩))
 all_goals
  have s:Hid (Vj w.heap.size w (World.drew (VK X (.cells #[.int .i64 p,.int .i64 q] 3)))):=by
   have h:=bA g ((zr X.heap.size X).alloc (zq _) (.cells #[.int .i64 p,.int .i64 q] 3)) (by rw[m.out];exact zq _);rw[m.out];exact h.drew
  go_wp2
  go_ret;exact⟨rfl,s.out⟩
def tJ(x y:Hp.Hi):U7:=decide (gU x y.t y.n<0)
theorem Cj{x y:Hp.Hi}:tJ x y=Vg↔Hp.ahead x y:=by unfold tJ;rw[decide_eq_true_iff,OH]
theorem Iu{x y:Hp.Hi}:tJ x y=Vf↔¬ Hp.ahead x y:=by rw[<- Cj];simp
theorem IX(d o:U8)(v:Vi)(l:U5 Hp.Hi)(i j:U8)(w:Vh)(h:HP w d o v l)(D:i<l.length)(C:j<l.length)(M:l.length<=1000):
  Vk prog 274 #[.pointer (Ve ⟨d,o,Vd⟩),.int .i64 i,.int .i64 j] w fun e w'=>e=.returned (.bool (tJ (Hp.at_ l i) (Hp.at_ l j)))/\Vj w.heap.size w w':=by
 obtain⟨H,cap,rfl⟩:=h.form UU;have c:=h.c;obtain⟨z,s,r⟩:=h.at D;obtain⟨m,k,N⟩:=h.at C;have J:=aC (fun w'=>Jb (Hp.at_ l i) (Hp.at_ l j).t (Hp.at_ l j).n w');have K:(i:U9)<(l.length:U9):=UU
 have j1:(j:U9)<(l.length:U9):=UU
 clear h;generalize Hp.at_ l i=x at *;generalize Hp.at_ l j=y at *
 go_in
 go_upto_region 1 with fail
 go_region_held3 (fun w'=>w'.cell? ⟨d,o,Vd⟩=Ve (.slice (Ve ⟨H,0,Vd⟩) l.length cap)/\w'.cell? ⟨H,i*3,Vd⟩=Ve (.int .i64 x.t)/\w'.cell? ⟨H,i*3+1,Vd⟩=Ve (.int .i64 x.n)/\w'.cell? ⟨H,i*3+2,Vd⟩=Ve (.pointer (Ve ⟨x.v,0,Vd⟩))/\w'.cell? ⟨H,j*3,Vd⟩=Ve (.int .i64 y.t)/\w'.cell? ⟨H,j*3+1,Vd⟩=Ve (.int .i64 y.n))
  (first
   |exact⟨c,z,s,r,m,k⟩
   |exact⟨aN g c,aN g z,aN g s,aN g r,aN g m,aN g k⟩)
  (first
   |(go_at_call 203;refine (J.out _).mono ?_;rintro e w4 ⟨rfl,g⟩))
 have I:Hid (Vj w.heap.size w w4):=bA (dM w) g (zq _);clear g
 go_wp2
 go_ret;exact⟨rfl,I.out⟩
theorem BS(d o H cap:U8)(l:U5 Hp.Hi)(i j:U8)(w:Vh)(h:HP w d o (.slice (Ve ⟨H,0,Vd⟩) l.length cap) l)(m:i<l.length)(g:j<l.length)(s:i≠j):
  Vk prog 275 #[.pointer (Ve ⟨d,o,Vd⟩),.int .i64 i,.int .i64 j] w fun e w'=>e=.returned (.tuple #[])/\HP w' d o (.slice (Ve ⟨H,0,Vd⟩) l.length cap) (Hp.swap l i j)/\aF [H] w w':=by
 have c:=h.c;obtain⟨M,K,J⟩:=h.at m;obtain⟨I,D,C⟩:=h.at g;have z:∀ k,w.frozen? ⟨H,k,Vd⟩=Vf:=fun k=>h.own.frozenAt k
 have t:(i:U9)<(l.length:U9):=UU
 have j1:(j:U9)<(l.length:U9):=UU
 have r:=aC (h.oS m g rfl rfl);clear h;generalize Hp.at_ l i=x at *;generalize Hp.at_ l j=y at *
 go_in
 go_upto_region 0 with fail
 go_big_region
 go_end0
 exact⟨rfl,r.out.1.off (G:=[]) ((aF.refl _ _).drew) UV UV,r.out.2.drew⟩
structure kS(w wx:Vh)(d o H n cap:U8)(l l':U5 Hp.Hi):Prop where
 hp:HP wx d o (.slice (Ve ⟨H,0,Vd⟩) n cap) l'
 len:l'.length=n
 perm:l'.Perm l
 off:aF [H] w wx
theorem kS.new{l:U5 Hp.Hi}(h:HP w d o (.slice (Ve ⟨H,0,Vd⟩) l.length cap) l):kS w w d o H l.length cap l l:=⟨h,rfl,.refl _,aF.refl _ _⟩
theorem kS.later{l l':U5 Hp.Hi}(h:kS w wx d o H n cap l l')(k:Vj wx.heap.size wx wy):kS w wy d o H n cap l l' :=
 ⟨h.hp.later k,h.len,h.perm,h.off.trans' (aF.aD (F:=[]) k) UV⟩
theorem Gx(d o H cap:U8)(l:U5 Hp.Hi)(p:U8)(w:Vh)(h:HP w d o (.slice (Ve ⟨H,0,Vd⟩) l.length cap) l)(M:p<l.length)(m:Hp.oJ l p)(V:l.length<=1000):
  Vk prog 248 #[.pointer (Ve ⟨d,o,Vd⟩),.int .i64 p] w fun e w'=>e=.returned (.tuple #[])/\∃ l',kS w w' d o H l.length cap l l'/\Hp.gH l':=by
 have P:=aC (kS.new h);have Q:=aC m;clear h m
 go_in
 go_wp2_with fail
 go_loopw [1] (fun v wx=>∃ (q:U8) (l':U5 Hp.Hi),v=.int .i64 q/\q<l.length/\Hp.oJ l' q/\kS w wx d o H l.length cap l l') (fun v _=>(intOf v).toNat)
 case atStart=>exact⟨p,l,rfl,M,Q.out,P.out⟩
 case round =>
  obtain⟨q,l',rfl,U,m,ht⟩:=hrel
  by_cases N:0<q
  ·have T:(0:U9)<(q:U9):=UU
   have I:=aC ht;have r:=aC m
   have X:((((q:U9)-1).tdiv 2))=((Hp.par q:U8):U9):=by
    unfold Hp.par;rw[Int.tdiv_eq_ediv_of_nonneg UU];omega
   have W:Vp.wrap ((q:U9)-1)=(q:U9)-1:=cG UU UU;have K:Hp.par q<q:=by unfold Hp.par;omega
   have J:=aC (fun wy (k:Vj wr.heap.size wr wy)=>IX d o _ l' q (Hp.par q) wy (ht.hp.later k) (by rw[ht.len];omega) (by rw[ht.len];omega) (by rw[ht.len];omega));clear m ht
   go_wp2_with fail
   refine (J.out _ (zr _ _)).mono ?_;rintro e w4 ⟨rfl,z⟩;have c:=aC (I.out.later z);clear J I z
   cases C:tJ (Hp.at_ l' q) (Hp.at_ l' (Hp.par q))
   ·have t:=aC (zA c.out (r.out.done (.inr (Iu.1 C))));clear c r
    go_wp2_with fail
    (try simp only[WG,Exit.then]);refine bodyPost_ret (results_none rfl _ _ _) rfl ?_
    exact⟨rfl,l',t.out⟩
   ·have g:=c.out.len;have D:=aC (BS d o H cap l' q (Hp.par q) w4 (by rw[g];exact c.out.hp) UU UU UU);have R:=aC (r.out.step UU N (Cj.1 C));have s:=aC g;clear r g
    go_wp2_with fail
    refine D.out.mono ?_;rintro e w5 ⟨rfl,y,x⟩
    have S:Hid (kS w w5 d o H l.length cap l (Hp.swap l' q (Hp.par q))) :=
     ⟨by rw[<- s.out];exact y,Hp.qX.trans s.out,(Hp.xW (by rw[s.out];omega) (by rw[s.out];omega)).trans c.out.perm,c.out.off.trans x⟩
    clear y x D c
    go_wp2
    go_roundw
    case rel=>exact⟨Hp.par q,_,rfl,by omega,R.out,S.out⟩
    case measure=>simp[intOf];omega
  ·have O:q=0:=UU
   subst O;have t:=aC (zA ht (m.done (.inl rfl)));clear m ht
   go_wp2
   go_end0
   exact⟨rfl,l',t.out⟩
structure ng(l:U5 Hp.Hi)(q f b:U8):Prop where
 b0:2*q+1<=b
 b1:b<=2*q+3
 f1:f<l.length
 ff:f=q\/(2*q+1<=f/\f<b/\Hp.ahead (Hp.at_ l f) (Hp.at_ l q))
 no:∀ i,2*q+1<=i->i<b->i<l.length->¬ Hp.ahead (Hp.at_ l i) (Hp.at_ l f)
theorem ng.new{l:U5 Hp.Hi}(h:q<l.length):ng l q q (2*q+1):=⟨by omega,by omega,h,.inl rfl,fun i g c _=>by omega⟩
theorem ng.yZ{l:U5 Hp.Hi}(h:ng l q f b)(s:b<=2*q+2)(k:¬ Hp.ahead (Hp.at_ l b) (Hp.at_ l f)):ng l q f (b+1):=by
 refine⟨by have:=h.b0;omega,by omega,h.f1,?_,fun i g t c=>?_⟩
 ·rcases h.ff with e|⟨r,x,m⟩
  ·exact .inl e
  ·exact .inr ⟨r,by omega,m⟩
 ·by_cases e:i=b
  ·subst e;exact k
  ·exact h.no i g UU c
theorem ng.yes{l:U5 Hp.Hi}(h:ng l q f b)(r:b<=2*q+2)(c:b<l.length)(k:Hp.ahead (Hp.at_ l b) (Hp.at_ l f)):ng l q b (b+1):=by
 have t:=h.b0;refine⟨by omega,by omega,c,.inr ⟨by omega,by omega,?_⟩,fun i m s g=>?_⟩
 ·rcases h.ff with e|⟨z,y,x⟩
  ·rw[<- e];exact k
  ·unfold Hp.ahead at *;omega
 ·by_cases e:i=b
  ·subst e;exact Hp.SZ _
  ·have:=h.no i m UU g;unfold Hp.ahead at *;omega
theorem ng.all{l:U5 Hp.Hi}(h:ng l q f b)(k:¬ b<=2*q+2\/¬ b<l.length):∀ i,0<i->i<l.length->Hp.par i=q->¬ Hp.ahead (Hp.at_ l i) (Hp.at_ l f):=by
 intro i m g c;have:=h.b0;unfold Hp.par at c;exact h.no i UU UU g
theorem PZ(d o H cap:U8)(l:U5 Hp.Hi)(p:U8)(w:Vh)(h:HP w d o (.slice (Ve ⟨H,0,Vd⟩) l.length cap) l)(hp:p<l.length)(O:Hp.qR l p p)(hl:l.length<=1000):
  Vk prog 252 #[.pointer (Ve ⟨d,o,Vd⟩),.int .i64 p] w fun e w'=>e=.returned (.tuple #[])/\∃ r,kS w w' d o H l.length cap l r/\Hp.oJ r p:=by
 have T0:=aC (kS.new h);have R0:=aC O;clear h O
 go_in
 go_wp2_with fail
 go_loopw [1] (fun v wx=>∃ (q:U8) (r:U5 Hp.Hi),v=.int .i64 q/\q<l.length/\Hp.qR r p q/\kS w wx d o H l.length cap l r) (fun v _=>l.length-(intOf v).toNat)
 case atStart=>exact⟨p,l,rfl,hp,R0.out,T0.out⟩
 case round =>
  obtain⟨q,r,rfl,hq,O,ht⟩:=hrel;have K:=aC ht;have I:=aC O;clear O ht;have w1:Vp.wrap (2*(q:U9))=2*(q:U9):=cG UU UU;have w2:Vp.wrap (2*(q:U9)+1)=2*(q:U9)+1:=cG UU UU;have w3:Vp.wrap (2*(q:U9)+2)=2*(q:U9)+2:=cG UU UU
  go_wp2_with fail
  go_loopw [4,5] (fun vf T wx=>∃ f b:U8,vf=.int .i64 f/\T=.int .i64 b/\ng r q f b/\kS w wx d o H l.length cap l r) (fun _ T _=>2*q+3-(intOf T).toNat)
  case atStart=>exact⟨q,2*q+1,rfl,by simp,ng.new (by rw[K.out.len];exact hq),K.out⟩
  case round =>
   obtain⟨f,b,rfl,rfl,t,ht⟩:=hrel;have k:=ht.len;have hc:=ht.hp.c
   by_cases Q:b<=2*q+2
   ·have b1:(b:U9)<=2*(q:U9)+2:=UU
    by_cases aa:b<l.length
    ·have b2:(b:U9)<(l.length:U9):=UU
     have fb:=t.f1;have Z:=aC (IX d o _ r b f wr ht.hp UU UU UU);have m:=aC ht;have D:=aC t;have hw:Vp.wrap ((b:U9)+1)=((b+1:U8):U9):=by rw[cG UU UU];omega
     clear ht t
     go_wp2_with fail
     refine Z.out.mono ?_;rintro e w4 ⟨rfl,X⟩;have S:=aC (m.out.later X);clear Z m X
     cases Y:tJ (Hp.at_ r b) (Hp.at_ r f)
     ·have J:=aC (D.out.yZ Q (Iu.1 Y));clear D
      go_wp2
      go_roundw
      case rel=>exact⟨f,b+1,rfl,rfl,J.out,S.out⟩
      case measure=>simp[intOf];omega
     ·have J:=aC (D.out.yes Q UU (Cj.1 Y));clear D
      go_wp2
      go_roundw
      case rel=>exact⟨b,b+1,rfl,rfl,J.out,S.out⟩
      case measure=>simp[intOf];omega
    ·have b2:¬ ((b:U9)<(l.length:U9)):=UU
     have g:=aC (t.all UU);have x:=t.ff;have s:=t.f1;have U:=I.out.qp;have m:=aC ht;have y:=aC k
     by_cases z:f=q
     ·subst z;have W:=aC (zA ht (I.out.done UU g.out));clear ht t g x s m K I y k
      go_wp2_with fail
      (try simp only[WG,Exit.then]);refine bodyPost_ret (results_none rfl _ _ _) rfl ?_
      exact⟨rfl,r,W.out⟩
     ·have P:¬ ((f:U9)=(q:U9)):=UU
      have V:2*q+1<=f:=UU
      have R:=aC (BS d o H cap r q f wr (by rw[k];exact ht.hp) UU UU UU);have C:Hp.ahead (Hp.at_ r f) (Hp.at_ r q):=by rcases x with e|e;exact Vc e z;exact e.2.2
      have D:=aC (I.out.step (c:=f) UU s (by unfold Hp.par;have:=t.ff;have:=t.b1;omega) C g.out);clear ht t g x C k
      go_wp2_with fail
      refine R.out.mono ?_;rintro e w5 ⟨rfl,N,M⟩
      have J:Hid (kS w w5 d o H l.length cap l (Hp.swap r q f)) :=
       ⟨by rw[<- y.out];exact N,Hp.qX.trans y.out,(Hp.xW (by rw[y.out];omega) s).trans m.out.perm,m.out.off.trans M⟩
      clear N M R m K
      go_wp2
      go_roundw
      case rel=>exact⟨f,_,rfl,by rw[<- y.out];exact s,D.out,J.out⟩
      case measure=>have:=y.out;simp[intOf];omega
   ·have b1:¬ ((b:U9)<=2*(q:U9)+2):=UU
    have g:=aC (t.all UU);have x:=t.ff;have s:=t.f1;have U:=I.out.qp;have m:=aC ht;have y:=aC k
    by_cases z:f=q
    ·subst z;have W:=aC (zA ht (I.out.done UU g.out));clear ht t g x s m K I y k
     go_wp2_with fail
     (try simp only[WG,Exit.then]);refine bodyPost_ret (results_none rfl _ _ _) rfl ?_
     exact⟨rfl,r,W.out⟩
    ·have P:¬ ((f:U9)=(q:U9)):=UU
     have V:2*q+1<=f:=UU
     have R:=aC (BS d o H cap r q f wr (by rw[k];exact ht.hp) UU UU UU);have C:Hp.ahead (Hp.at_ r f) (Hp.at_ r q):=by rcases x with e|e;exact Vc e z;exact e.2.2
     have D:=aC (I.out.step (c:=f) UU s (by unfold Hp.par;have:=t.ff;have:=t.b1;omega) C g.out);clear ht t g x C k
     go_wp2_with fail
     refine R.out.mono ?_;rintro e w5 ⟨rfl,N,M⟩
     have J:Hid (kS w w5 d o H l.length cap l (Hp.swap r q f)) :=
      ⟨by rw[<- y.out];exact N,Hp.qX.trans y.out,(Hp.xW (by rw[y.out];omega) s).trans m.out.perm,m.out.off.trans M⟩
     clear N M R m K
     go_wp2
     go_roundw
     case rel=>exact⟨f,_,rfl,by rw[<- y.out];exact s,D.out,J.out⟩
     case measure=>have:=y.out;simp[intOf];omega
namespace aA
structure aL where
 id:U9
 kind:U9
 aT:U4
 aH:U9
 aK:U5 (U9 × U9)
 bY:U9
def hasB(t:U9)(s:U9 × U9):U7:=decide (s.1<=t) && decide (t<s.2)
def cP(L:U5 (U9 × U9))(t:U9):U9:=((L.filter (hasB t)).length:U9)
def bW(a b:U4):U7:=a.toList==b.toList
def cA(name:U4)(e:aL):U7:=bW e.aT name && (e.kind != 3)
def bP(name:U4)(t:U9):U5 aL->U9
 |[]=>0
 |e :: r=>(if cA name e then cP e.aK t*e.aH else 0)+bP name t r
def eC(name:U4):U5 aL->U5 U9
 |[]=>[]
 |e :: r=>(if bW e.aT name then e.aK.map (·.1) else [])++eC name r
theorem pR(L:U5 (U9 × U9))(t:U9):0<=cP L t/\cP L t<=L.length:=by
 unfold cP;have:=WH (hasB t) L;omega
theorem Nb(L:U5 (U9 × U9))(s:U9 × U9)(t:U9):cP (L++[s]) t=cP L t+if hasB t s then 1 else 0:=by
 unfold cP;rw[VP,V5]
 cases h:hasB t s <;> simp[h]
theorem yI(name:U4)(t:U9)(l r:U5 aL):bP name t (l++r)=bP name t l+bP name t r:=by
 induction l with
 |nil=>simp[bP]
 |cons e l ih=>simp only[VN,bP,ih];omega
theorem Ny(name:U4)(l r:U5 aL):eC name (l++r)=eC name l++eC name r:=by
 induction l with
 |nil=>rfl
 |cons e l ih=>simp only[VN,eC,ih,VZ]
structure Small(e:aL):Prop where
 u0:0<=e.aH
 u1:e.aH<=9
 sl:e.aK.length<=100
theorem Ev(name:U4)(t:U9)(l:U5 aL)(h:∀ e∈l,Small e):0<=bP name t l/\bP name t l<=900*l.length:=by
 induction l with
 |nil=>simp[bP]
 |cons e l ih =>
  have i:=ih (fun x g=>h x (by simp[g]));have s:=h e UV;have b:=pR e.aK t;have u0:=s.u0;have u1:=s.u1;have k:=s.sl;have c:0<=cP e.aK t*e.aH:=Wc b.1 s.u0;have d:cP e.aK t*e.aH<=100*9:=Wf UU s.u1 s.u0 UU;simp only[bP,V6]
  split <;> omega
end aA
def fY(w:Vh)(B:U8)(L:U5 (U9 × U9)):Prop:=∀ (i:U8)(h:i<L.length),w.cell? ⟨B,i*2,Vd⟩=Ve (.int .i64 L[i].1)/\w.cell? ⟨B,i*2+1,Vd⟩=Ve (.int .i64 L[i].2)
theorem fY.off(h:fY w B L)(k:aF G w w')(g:B ∉ G):fY w' B L:=fun i c=>⟨k.cell g (h i c).1,k.cell g (h i c).2⟩
theorem fY.later(h:fY w B L)(k:Vj w.heap.size w w'):fY w' B L:=h.off (G:=[]) (aF.aD k) UV
structure RE(w:Vh)(E i:U8)(e:aA.aL)(B cap:U8):Prop where
 c0:w.cell? ⟨E,i*6,Vd⟩=Ve (.int .i64 e.id)
 c1:w.cell? ⟨E,i*6+1,Vd⟩=Ve (.int .i64 e.kind)
 c2:w.cell? ⟨E,i*6+2,Vd⟩=Ve (.string e.aT)
 c3:w.cell? ⟨E,i*6+3,Vd⟩=Ve (.int .i64 e.aH)
 c4:w.cell? ⟨E,i*6+4,Vd⟩=Ve (.slice (Ve ⟨B,0,Vd⟩) e.aK.length cap)
 c5:w.cell? ⟨E,i*6+5,Vd⟩=Ve (.int .i64 e.bY)
 sl:fY w B e.aK
theorem RE.later{e:aA.aL}(h:RE w E i e B cap)(k:Vj w.heap.size w w'):RE w' E i e B cap:=by
 have o:aF [] w w':=aF.aD k;exact⟨o.cell UV h.c0,o.cell UV h.c1,o.cell UV h.c2,o.cell UV h.c3,o.cell UV h.c4,o.cell UV h.c5,h.sl.off o UV⟩
structure mg(w:Vh)(d:U8)(a:U6 Vl)(cap E:U8)(es:U5 aA.aL):Prop where
 c:w.cell? ⟨d,1,Vd⟩=Ve (.slice a es.length cap)
 a:es≠[]->a=Ve ⟨E,0,Vd⟩
 r:∀ (i:U8) (h:i<es.length),∃ B cap,RE w E i es[i] B cap
theorem mg.later{es:U5 aA.aL}(h:mg w d a cap E es)(k:Vj w.heap.size w w'):mg w' d a cap E es :=
 ⟨(aF.aD (F:=[]) k).cell UV h.c,h.a,fun i g=>by obtain⟨B,c,r⟩:=h.r i g;exact⟨B,c,r.later k⟩⟩
theorem mg.at{es:U5 aA.aL}(h:mg w d a cap E es)(c:i<es.length):a=Ve ⟨E,0,Vd⟩:=h.a (by intro e;simp[e] at c)
theorem Ex(B cap:U8)(L:U5 (U9 × U9))(t:U9)(w:Vh)(h:fY w B L)(x:L.length<=100000):
  Vk prog 241 #[.slice (Ve ⟨B,0,Vd⟩) L.length cap,.int .i64 t] w fun e w'=>e=.returned (.int .i64 (aA.cP L t))/\w'=w:=by
 have r:=aC h;clear h
 go_in
 go_wp2_with fail
 go_loop [5,6] (fun n i=>∃ k:U8,k<=L.length/\i=.int .i64 k/\n=.int .i64 (aA.cP (L.take k) t)) (fun _ i=>L.length-(intOf i).toNat)
 case atStart=>exact⟨0,Wh _,rfl,by simp[aA.cP]⟩
 case round =>
  obtain⟨k,y,rfl,rfl⟩:=hrel;have I:=aA.pR (L.take k) t;have D:=Wq k L
  by_cases c:k<L.length
  ·have C:=(r.out k c).1;have z:=(r.out k c).2;have s:(k:U9)<(L.length:U9):=UU
   have e:aA.cP (L.take (k+1)) t=aA.cP (L.take k) t+if aA.hasB t L[k] then 1 else 0:=by rw[Wg c,aA.Nb]
   have E:=aC e;clear e;generalize aA.cP (L.take k) t=n at *
   by_cases m:L[k].1<=t
   ·by_cases l:t<L[k].2
    ·have g:Hid (aA.hasB t L[k]=Vg):=by show aA.hasB t L[k]=Vg;simp[aA.hasB,m,l]
     go_wp2
     go_round
     case rel=>exact⟨k+1,by omega,by go_num,by rw[E.out,g.out];rfl⟩
     case measure=>simp[intOf];omega
    ·have g:Hid (aA.hasB t L[k]=Vf):=by show aA.hasB t L[k]=Vf;simp[aA.hasB,l]
     go_wp2
     go_round
     case rel=>exact⟨k+1,by omega,by go_num,by rw[E.out,g.out];simp⟩
     case measure=>simp[intOf];omega
   ·have g:Hid (aA.hasB t L[k]=Vf):=by show aA.hasB t L[k]=Vf;simp[aA.hasB,m]
    go_wp2
    go_round
    case rel=>exact⟨k+1,by omega,by go_num,by rw[E.out,g.out];simp⟩
    case measure=>simp[intOf];omega
  ·have e:L.take k=L:=Wi UU;have s:¬ (k:U9)<(L.length:U9):=UU
   go_wp2
   go_ret;exact⟨gL (by first|rfl|rw[e]),rfl⟩
theorem Ew(d:U8)(a:U6 Vl)(cap E:U8)(es:U5 aA.aL)(name:U4)(t:U9)(w:Vh)(h:mg w d a cap E es)(X:es.length<=1000)(M:∀ e∈es,aA.Small e):
  Vk prog 242 #[.pointer (Ve ⟨d,0,Vd⟩),.string name,.int .i64 t] w fun e w'=>e=.returned (.int .i64 (aA.bP name t es))/\Vj w.heap.size w w':=by
 have H:=aC h;have O:=aC M;clear h M
 go_in
 go_wp2_with fail
 go_loopw [7,8,9,10] (fun n i _ _ wx=>∃ k:U8,k<=es.length/\i=.int .i64 k/\n=.int .i64 (aA.bP name t (es.take k))/\Vj w.heap.size w wx) (fun _ i _ _ _=>es.length-(intOf i).toNat)
 case atStart=>exact⟨0,Wh _,rfl,by simp[aA.bP],Below.refl _ _⟩
 case round =>
  obtain⟨k,Y,rfl,rfl,x⟩:=hrel;have bd:=aA.Ev name t (es.take k) (fun e R=>O.out e (Wp R));have bl:=Wq k es;have D:=H.out.later x;have Z:=D.c
  by_cases m:k<es.length
  ·obtain rfl:=H.out.at m;obtain⟨B,S,s⟩:=D.r k m;have l:=O.out es[k] (zg m);have c0:=s.c0;have c1:=s.c1;have c2:=s.c2;have c3:=s.c3;have c4:=s.c4;have c5:=s.c5;have Q:(k:U9)<(es.length:U9):=UU
   have e:aA.bP name t (es.take (k+1))=aA.bP name t (es.take k)+(if aA.cA name es[k] then aA.cP es[k].aK t*es[k].aH else 0):=by
    rw[Wg m,aA.yI];simp[aA.bP]
   have K:=aC e;have tb:=aA.pR es[k].aK t;have u0:=l.u0;have u1:=l.u1;have U:=l.sl;have W:0<=aA.cP es[k].aK t*es[k].aH:=Wc tb.1 u0;have V:aA.cP es[k].aK t*es[k].aH<=900:=by have:aA.cP es[k].aK t*es[k].aH<=100*9:=Wf UU u1 u0 UU;omega
   have RS:=aC s.sl;clear e s D l;generalize aA.bP name t (es.take k)=n at *
   cases y:aA.bW es[k].aT name
   ·have C:Hid (aA.cA name es[k]=Vf):=by show aA.cA name es[k]=Vf;simp[aA.cA,y]
    have I:(es[k].aT.toList==name.toList)=Vf:=y;have z:=aC x;clear x y
    go_wp2
    go_roundw
    case rel=>exact⟨k+1,by omega,by go_num,by rw[K.out,C.out];simp,bA z.out ((zr _ _).alloc (zq _) _) (zq _)⟩
    case measure=>simp[intOf];omega
   ·have I:(es[k].aT.toList==name.toList)=Vg:=y;have z:=aC x
    by_cases g:es[k].kind=3
    ·have J:(es[k].kind != 3)=Vf:=by simp[g]
     have C:Hid (aA.cA name es[k]=Vf):=by show aA.cA name es[k]=Vf;simp[aA.cA,g]
     clear x y g
     go_wp2
     go_roundw
     case rel=>exact⟨k+1,by omega,by go_num,by rw[K.out,C.out];simp,bA z.out ((zr _ _).alloc (zq _) _) (zq _)⟩
     case measure=>simp[intOf];omega
    ·have J:(es[k].kind != 3)=Vg:=by simp[g]
     have C:Hid (aA.cA name es[k]=Vg):=by show aA.cA name es[k]=Vg;simp[aA.cA,y,g]
     clear x y g;have N:=aC (fun w' (P:Vj wr.heap.size wr w')=>Ex B S es[k].aK t w' (RS.out.later P) UU)
     have T:Hid (n+aA.cP es[k].aK t*es[k].aH=n+if aA.cA name es[k] then aA.cP es[k].aK t*es[k].aH else 0):=by
      show n+_=n+_;rw[C.out];rfl
     generalize aA.cP es[k].aK t=q at *
     go_wp2_with fail
     refine (N.out _ ((zr _ _).alloc (zq _) _)).mono ?_;rintro e w' ⟨rfl,rfl⟩;clear N
     go_wp2
     go_roundw
     case rel=>exact⟨k+1,by omega,by go_num,by rw[K.out,<- T.out],bA z.out ((zr _ _).alloc (zq _) _) (zq _)⟩
     case measure=>simp[intOf];omega
  ·have e:es.take k=es:=Wi UU;have Q:¬ (k:U9)<(es.length:U9):=UU
   have z:=aC x;clear x D
   go_wp2
   go_ret;exact⟨gL (by first|rfl|rw[e]),z.out⟩
theorem pE:(prog.info? 3).map (fun i=>(i.zero,i.size,i.bytes))=Ve (Ve (.int .i64 0),1,8):=UZ
theorem jE{c size:U8}{m:U5 Vi}(h:w.ownsRow c e size v n m){k:U8}(l:v.ownBlock=Ve k):c<=k:=by
 rcases h.2 with ⟨rfl,_⟩|⟨g,cap,r,rfl,s,_⟩
 ·simp[WI] at l
 ·simp[WI] at l;omega
theorem uV{k c size:U8}{xs:U5 Vi}(h:w.ownsRow k e size v n xs)(s:c<=k):w.ownsRow c e size v n xs:=by
 refine⟨h.1,?_⟩;rcases h.2 with t|⟨g,cap,l,m,r,rest⟩
 ·exact .inl t
 ·exact .inr ⟨g,cap,l,m,Vq s r,rest⟩
theorem eu{c size:U8}{xs:U5 Vi}(h:w.ownsRow c e size v n xs)(x:Vj w.heap.size w w'):w'.ownsRow c e size v n xs:=by
 refine⟨h.1,?_⟩;rcases h.2 with y|⟨g,cap,m,s,t,l,rest⟩
 ·exact .inl y
 ·refine .inr ⟨g,cap,m,s,t,?_,rest⟩
  have k:g<w.heap.size:=by
   by_cases r:g<w.heap.size
   ·exact r
   ·rw[WD UU] at l;cases l
  rw[x.block g k];exact l
theorem cC(w:Vh)(o:Obj):(w.alloc o).heap[w.heap.size]?=Ve o:=heap_alloc_new w o
theorem iu{c size:U8}{s:U5 Vi}(h:w.ownsRow c e size v n s){cs:Array Vi}{t:TypeId}{m:U8 × U8}(x:w.heap[b]?=Ve (.cells cs t m))(k:t≠e):v.ownBlock≠Ve b:=by
 intro l;rcases h.2 with ⟨rfl,_⟩|⟨g,cap,y,rfl,z,r,_⟩
 ·simp[WI] at l
 ·simp[WI] at l;subst l;rw[x] at r;simp at r;exact k r.2.1
theorem wS{k:U8}{c:U5 U9}(h:w.ownsRow k 3 1 v n (c.map (V4 .i64))):∃ a cap g,v=.slice a n cap/\n=c.length/\(c≠[]->a=Ve ⟨g,0,Vd⟩)/\∀ (i:U8)(l:i<c.length),w.cell? ⟨g,i,Vd⟩=Ve (.int .i64 c[i]):=by
 have m:=h.1;simp at m;rcases h.2 with ⟨rfl,x⟩|⟨g,cap,r,rfl,y,s,D,C,z,t⟩
 ·subst x;have:c=[]:=V9.1 m;subst this;exact⟨Vd,0,0,rfl,rfl,fun h=>Vc rfl h,fun i l=>by simp at l⟩
 ·refine⟨Ve ⟨g,0,Vd⟩,cap,g,rfl,m.symm,fun _=>rfl,fun i l=>?_⟩;have e:(r.toList.take (n*1))[i]?=(c.map (V4 .i64))[i]?:=by rw[t]
  rw[List.getElem?_map,List.getElem?_eq_getElem l,Wu UU] at e;simp only[WJ,Option.map_some] at e;simp[VL,s,e]
def pf(e:aA.aL)(B cap:U8):Array Vi:=#[.int .i64 e.id,.int .i64 e.kind,.string e.aT,.int .i64 e.aH,.slice (Ve ⟨B,0,Vd⟩) e.aK.length cap,.int .i64 e.bY]
def mV(name:U4)(l:U5 aA.aL)(e:aA.aL)(j:U8):U5 U9:=aA.eC name l++(e.aK.take j).map (·.1)
theorem Aw(name:U4)(l:U5 aA.aL)(h:∀ e∈l,aA.Small e):(aA.eC name l).length<=100*l.length:=by
 induction l with
 |nil=>simp[aA.eC]
 |cons e l ih =>
  have i:=ih (fun x c=>h x (by simp[c]));have s:=(h e UV).sl;simp only[aA.eC,V5,V6]
  split <;> simp <;> omega
theorem ET(d:U8)(a:U6 Vl)(cap E:U8)(es:U5 aA.aL)(name:U4)(w:Vh)(h:mg w d a cap E es)(hl:es.length<=1000)(hs:∀ e∈es,aA.Small e):
  Vk prog 240 #[.pointer (Ve ⟨d,0,Vd⟩),.string name] w fun e w'=>∃ v,e=.returned v/\w'.ownsRow w.heap.size 3 1 v (aA.eC name es).length ((aA.eC name es).map (V4 .i64))/\Vj w.heap.size w w':=by
 obtain⟨i0,ae,ac,ab,aa⟩:=info_parts pE;have H:=aC h;have HS:=aC hs;clear h hs
 go_in
 go_wp2_with fail
 go_loopw [5,6,7,8] (fun v i _ _ wx=>∃ k:U8,k<=es.length/\i=.int .i64 k/\wx.ownsRow w.heap.size 3 1 v (aA.eC name (es.take k)).length ((aA.eC name (es.take k)).map (V4 .i64))/\Vj w.heap.size w wx) (fun _ i _ _ _=>es.length-(intOf i).toNat)
 case atStart=>exact⟨0,Wh _,rfl,WK _ _ _ _,Below.refl _ _⟩
 case round =>
  obtain⟨k,hk,rfl,g,t⟩:=hrel;have bl:=Wq k es;have O:=H.out.later t;have cc:=O.c;have sz:=Aw name (es.take k) (fun e he=>HS.out e (Wp he))
  by_cases z:k<es.length
  ·obtain rfl:=H.out.at z;obtain⟨B,N,J⟩:=H.out.r k z;have K:=J.later t;have P:=HS.out es[k] (zg z);have c0:=K.c0;have c1:=K.c1;have c2:=K.c2;have c3:=K.c3;have c4:=K.c4;have c5:=K.c5;have hi:(k:U9)<(es.length:U9):=UU
   have e:aA.eC name (es.take (k+1))=aA.eC name (es.take k)++(if aA.bW es[k].aT name then es[k].aK.map (·.1) else []):=by
    rw[Wg z,aA.Ny];simp[aA.eC]
   have EE:=aC e;have sl:=P.sl;have RS:=aC J.sl;have HB:=aC t;have af:=t.size;have HO:=aC g;clear e K J O P g t
   go_wp2_with fail
   have hX:(wr.alloc (.cells (pf es[k] B N) 58)).heap[wr.heap.size]?=Ve (.cells (pf es[k] B N) 58):=cC _ _;have oX:(wr.alloc (.cells (pf es[k] B N) 58)).ownsRow w.heap.size 3 1 u5 (aA.eC name (es.take k)).length ((aA.eC name (es.take k)).map (V4 .i64)):=eu HO.out ((zr _ _).alloc (zq _) _);have bX:Vj w.heap.size w (wr.alloc (.cells (pf es[k] B N) 58)):=bA HB.out ((zr _ _).alloc (zq _) _) (zq _);simp only[pf] at hX oX bX;have W:=aC (zA hX (zA oX bX));clear hX oX bX c0 c1 c2 c3 c4 c5 cc HB HO;generalize (VK wr _)=X at W ⊢;generalize wr.heap.size=bx at W af ⊢;have Q:∃ q,aA.bW es[k].aT name=q:=⟨_,rfl⟩;obtain⟨q,Q⟩:=Q;have ag:(es[k].aT.toList==name.toList)=q:=Q;have HQ:=aC Q;clear Q
   go_loopw [5,8] (fun v i wx=>∃ j:U8,j<=es[k].aK.length/\(q=Vf->j=0)/\i=.int .i64 j/\wx.ownsRow w.heap.size 3 1 v (mV name (es.take k) es[k] j).length ((mV name (es.take k) es[k] j).map (V4 .i64))/\Vj w.heap.size w wx/\wx.heap[bx]?=Ve (.cells (pf es[k] B N) 58)) (fun _ i _=>es[k].aK.length-(intOf i).toNat)
   case atStart=>exact⟨0,Wh _,fun _=>rfl,rfl,by rw[mV];simpa using W.out.2.1,W.out.2.2,W.out.1⟩
   case round =>
    obtain⟨j,hj,y,rfl,g,t,s⟩:=hrel;have b4:wr.cell? ⟨bx,4,Vd⟩=Ve (.slice (Ve ⟨B,0,Vd⟩) es[k].aK.length N):=by simp[VL,s,pf]
    have b2:wr.cell? ⟨bx,2,Vd⟩=Ve (.string es[k].aT):=by simp[VL,s,pf]
    have m:=aC (zA g (zA t s));have T:=t.size
    by_cases C:q=Vg/\j<es[k].aK.length
    ·obtain⟨rfl,S⟩:=C;have r1:=(RS.out.later t j S).1;have ad:(j:U9)<(es[k].aK.length:U9):=UU
     have V:mV name (es.take k) es[k] (j+1)=mV name (es.take k) es[k] j++[es[k].aK[j].1]:=by
      unfold mV;rw[Wg S,Wr,VZ];rfl
     have ES:=aC V
     have ai:(mV name (es.take k) es[k] j).length<=100*k+100:=by
      unfold mV;have:=Wq j es[k].aK;simp only[V5,WL];omega
     have R:=iu g s UW;have Y:=aC R;clear V t s R y
     go_wp2_with (first
      |(at_builtin;refine wpList_append_own _ rfl _ _ 38 rfl w.heap.size 3 i0 (.int .i64 0) 1 8 underlying38 ae ac ab aa rfl UW _ _ _ rfl (g.alloc _) ⟨wr.heap.size,0,Vd⟩ 1 1 [.int .i64 es[k].aK[j].1] rfl rfl ?c1 ?c2 ?c3 ?c4 ?c5 ?_))
     case c1=>exact WM (cs:=#[.int .i64 es[k].aK[j].1]) (cC wr _)
     case c2=>simp[WN]
     case c3=>unfold maxLen;omega
     case c4=>omega
     case c5=>simp;omega
     intro v' w' x l _;have U:Vj w.heap.size w w':=(m.out.2.1.alloc T _).grown l U0 (fun k hk=>jE m.out.1 hk)
     have I:w'.heap[bx]?=Ve (.cells (pf es[k] B N) 58):=by
      have l1:bx<wr.heap.size:=by
       by_cases O:bx<wr.heap.size
       ·exact O
       ·have:=m.out.2.2;rw[WD UU] at this;cases this
      rw[l.block bx U0 (fun e=>Y.out e.symm)];exact (Below.heap_alloc wr _ bx l1).trans m.out.2.2
     have HK:Hid (w'.ownsRow w.heap.size 3 1 v' (mV name (es.take k) es[k] (j+1)).length ((mV name (es.take k) es[k] (j+1)).map (V4 .i64))):=by
      show w'.ownsRow _ _ _ _ _ _;rw[ES.out,Wr,V5];exact x
     have Z:=aC (zA U I);clear x l U I g m Y r1 b4 b2
     go_wp2
     go_roundw
     case rel=>exact⟨j+1,by omega,fun e=>(by cases e),by go_num,HK.out,Z.out.1,Z.out.2⟩
     case measure=>simp[intOf];omega
    ·have D:mV name (es.take k) es[k] j=aA.eC name (es.take (k+1)):=by
      rw[EE.out,mV,HQ.out]
      cases q with
      |false=>rw[y rfl];simp
      |true =>
       have:es[k].aK.take j=es[k].aK:=Wi (by have:¬ j<es[k].aK.length:=fun h=>C ⟨rfl,h⟩;omega);rw[this];rfl
     have HK:Hid (wr.ownsRow w.heap.size 3 1 u5 (aA.eC name (es.take (k+1))).length ((aA.eC name (es.take (k+1))).map (V4 .i64))):=by
      show wr.ownsRow _ _ _ _ _ _;rw[<- D];exact g
     clear g t s D
     have M:q=Vf\/(q=Vg/\¬ (j:U9)<(es[k].aK.length:U9)):=by
      cases q with
      |false=>exact .inl rfl
      |true=>exact .inr ⟨rfl,fun h=>C ⟨rfl,by omega⟩⟩
     clear C;rcases M with rfl|⟨rfl,ad⟩
     ·obtain rfl:=y rfl;clear y
      by_cases hz:(0:U9)<(es[k].aK.length:U9)
      all_goals
       go_wp2
       go_roundw
       case rel=>exact⟨k+1,by omega,by go_num,HK.out,m.out.2.1⟩
       case measure=>simp[intOf];omega
     ·clear y
      go_wp2
      go_roundw
      case rel=>exact⟨k+1,by omega,by go_num,HK.out,m.out.2.1⟩
      case measure=>simp[intOf];omega
  ·have e:es.take k=es:=Wi UU;have hi:¬ (k:U9)<(es.length:U9):=UU
   rw[e] at g;have HB:=aC (zA g t);clear t O g
   go_wp2
   go_ret;exact⟨_,rfl,HB.out.1,HB.out.2⟩
namespace aA
def bJ(name:U4):U5 (U4 × U9)->U9
 |[]=>0
 |t :: r=>if bW t.1 name then t.2 else bJ name r
def px(c:U9)(name:U4)(aH:U9)(L:U5 (U9 × U9))(es:U5 aL)(x:U9):U7:=decide (0<cP L x) && decide (c<bP name x es+cP L x*aH)
def ov(c:U9)(name:U4)(aH:U9)(L:U5 (U9 × U9))(es:U5 aL)(l:U5 U9):U7:=l.all fun x=>!px c name aH L es x
def dG(ts:U5 (U4 × U9))(es:U5 aL)(name:U4)(aH:U9)(L:U5 (U9 × U9)):U7:=ov (bJ name ts) name aH L es (eC name es++L.map (·.1))
end aA
structure oN(w:Vh)(d:U8)(a:U6 Vl)(cap G:U8)(ts:U5 (U4 × U9)):Prop where
 c:w.cell? ⟨d,0,Vd⟩=Ve (.slice a ts.length cap)
 a:ts≠[]->a=Ve ⟨G,0,Vd⟩
 r:∀ (i:U8) (h:i<ts.length),w.cell? ⟨G,i*2,Vd⟩=Ve (.string ts[i].1)/\w.cell? ⟨G,i*2+1,Vd⟩=Ve (.int .i64 ts[i].2)
theorem oN.later{G:U8}(h:oN w d a cap G ts)(k:Vj w.heap.size w w'):oN w' d a cap G ts :=
 ⟨aN k h.c,h.a,fun i g=>⟨aN k (h.r i g).1,aN k (h.r i g).2⟩⟩
theorem oN.at{G:U8}(h:oN w d a cap G ts)(c:i<ts.length):a=Ve ⟨G,0,Vd⟩:=h.a (by intro e;simp[e] at c)
theorem Ar(d:U8)(a:U6 Vl)(cap G:U8)(ts:U5 (U4 × U9))(name:U4)(w:Vh)(h:oN w d a cap G ts)(D:ts.length<=1000):
  Vk prog 229 #[.pointer (Ve ⟨d,0,Vd⟩),.string name] w fun e w'=>e=.returned (.int .i64 (aA.bJ name ts))/\w'=w:=by
 have H:=aC h;have J:=h.c;clear h
 go_in
 go_wp2_with fail
 go_loop [5] (fun i=>∃ k:U8,k<=ts.length/\i=.int .i64 k/\aA.bJ name ts=aA.bJ name (ts.drop k)) (fun i=>ts.length-(intOf i).toNat)
 case atStart=>exact⟨0,Wh _,rfl,rfl⟩
 case round =>
  obtain⟨k,I,rfl,x⟩:=hrel;have t:=aC x;clear x
  by_cases g:k<ts.length
  ·obtain rfl:=H.out.at g;obtain⟨M,K⟩:=H.out.r k g;have C:(k:U9)<(ts.length:U9):=UU
   have y:aA.bJ name (ts.drop k)=if aA.bW ts[k].1 name then ts[k].2 else aA.bJ name (ts.drop (k+1)):=by rw[WQ g];rfl
   have z:=aC y;clear y
   cases l:aA.bW ts[k].1 name
   ·have s:(ts[k].1.toList==name.toList)=Vf:=l;have m:Hid (aA.bJ name ts=aA.bJ name (ts.drop (k+1))):=by show aA.bJ name ts=_;rw[t.out,z.out,l];rfl
    clear l
    go_wp2
    go_round
    case rel=>exact⟨k+1,by omega,by go_num,m.out⟩
    case measure=>simp[intOf];omega
   ·have s:(ts[k].1.toList==name.toList)=Vg:=l;have m:Hid (aA.bJ name ts=ts[k].2):=by show aA.bJ name ts=_;rw[t.out,z.out,l];rfl
    clear l
    go_wp2
    go_ret;exact⟨gL m.out.symm,rfl⟩
  ·have e:ts.drop k=[]:=WS UU;have m:Hid (aA.bJ name ts=0):=by show aA.bJ name ts=0;rw[t.out,e];rfl
   have C:¬ (k:U9)<(ts.length:U9):=UU
   clear e
   go_wp2
   go_ret;exact⟨gL m.out.symm,rfl⟩
theorem DV(d:U8)(a:U6 Vl)(cap E:U8)(es:U5 aA.aL)(at_:U6 Vl)(ct G:U8)(ts:U5 (U4 × U9))(name:U4)(aH:U9)(B cb:U8)(L:U5 (U9 × U9))(w:Vh)(h:mg w d a cap E es)(ht:oN w d at_ ct G ts)(hL:fY w B L)(hl:es.length<=1000)(ai:ts.length<=1000)(R:∀ e∈es,aA.Small e)(au:L.length<=100)(P:0<=aH)(ag:aH<=9):
  Vk prog 182 #[.pointer (Ve ⟨d,0,Vd⟩),.string name,.int .i64 aH,.slice (Ve ⟨B,0,Vd⟩) L.length cb] w fun e w'=>e=.returned (.bool (aA.dG ts es name aH L))/\Vj w.heap.size w w':=by
 obtain⟨i0,ak,af,ae,ad⟩:=info_parts pE;have ST:=aC (ET d a cap E es name w h hl R);have UN:=aC (fun w' (k:Vj w.heap.size w w')=>Ar d at_ ct G ts name w' (ht.later k) ai);have TM:=aC (fun t w' (k:Vj w.heap.size w w')=>Ex B cb L t w' (hL.later k) UU);have TK:=aC (fun t w' (k:Vj w.heap.size w w')=>Ew d a cap E es name t w' (h.later k) hl R);have sz:=Aw name es R;have HL:=aC hL;have ao:=aC (fun t=>aA.Ev name t es R);have K:aA.dG ts es name aH L=aA.ov (aA.bJ name ts) name aH L es (aA.eC name es++L.map (·.1)):=rfl;rw[K];obtain⟨l,D⟩:∃ l,aA.eC name es++L.map (·.1)=l:=⟨_,rfl⟩
 have ar:l.length<=100100:=by
  rw[<- D];simp only[V5,WL];omega
 rw[D];have ac:=aC D;generalize aA.bJ name ts=most at *;clear h ht R hL K D
 go_in
 go_wp2_with fail
 refine ST.out.mono ?_;rintro e w1 ⟨v1,rfl,T,W⟩;have O1:=aC (zA T W);clear ST T W
 go_wp2_with fail
 go_loopw [9,10] (fun v i wx=>∃ k:U8,k<=L.length/\i=.int .i64 k/\wx.ownsRow w.heap.size 3 1 v (aA.eC name es++(L.take k).map (·.1)).length ((aA.eC name es++(L.take k).map (·.1)).map (V4 .i64))/\Vj w.heap.size w wx) (fun _ i _=>L.length-(intOf i).toNat)
 case atStart=>exact⟨0,Wh _,rfl,by simpa using O1.out.1,O1.out.2⟩
 case round =>
  obtain⟨k,hk,rfl,c,r⟩:=hrel;have J:=aC (zA c r);have al:=r.size
  by_cases U:k<L.length
  ·have r1:=(HL.out.later r k U).1;have M:(k:U9)<(L.length:U9):=UU
   have aa:aA.eC name es++(L.take (k+1)).map (·.1)=(aA.eC name es++(L.take k).map (·.1))++[L[k].1]:=by
    rw[Wg U,Wr,VZ];rfl
   have ES:=aC aa
   have av:(aA.eC name es++(L.take k).map (·.1)).length<=100100:=by
    have:=Wq k L;simp only[V5,WL];omega
   clear aa r
   go_wp2_with (first
    |(at_builtin;refine wpList_append_own _ rfl _ _ 38 rfl w.heap.size 3 i0 (.int .i64 0) 1 8 underlying38 ak af ae ad rfl UW _ _ _ rfl (c.alloc _) ⟨wr.heap.size,0,Vd⟩ 1 1 [.int .i64 L[k].1] rfl rfl (WM (cs:=#[.int .i64 L[k].1]) (cC wr _)) U2 U1 UU U0 ?_;intro v' w' s y _))
   have X:Vj w.heap.size w w':=(J.out.2.alloc al _).grown y U0 (fun k hk=>jE J.out.1 hk)
   have HK:Hid (w'.ownsRow w.heap.size 3 1 v' (aA.eC name es++(L.take (k+1)).map (·.1)).length ((aA.eC name es++(L.take (k+1)).map (·.1)).map (V4 .i64))):=by
    show w'.ownsRow _ _ _ _ _ _;rw[ES.out,Wr,V5];exact s
   have aq:=aC X;clear s y X c J r1
   go_wp2
   go_roundw
   case rel=>exact⟨k+1,by omega,by go_num,HK.out,aq.out⟩
   case measure=>simp[intOf];omega
  ·have e:L.take k=L:=Wi UU;have M:¬ (k:U9)<(L.length:U9):=UU
   rw[e,ac.out] at c;obtain⟨a2,c2,g2,rfl,aj,Z,S⟩:=wS c;have R2:=aC (zA Z (zA S r));clear c r e J Z S aj O1 ac
   go_wp2_with fail
   refine (UN.out _ R2.out.2.2).mono ?_;rintro e w2 ⟨rfl,rfl⟩;clear UN
   go_wp2_with fail
   go_loopw [12,13] (fun i _ wx=>∃ j:U8,j<=l.length/\i=.int .i64 j/\aA.ov most name aH L es (l.take j)=Vg/\Vj w2.heap.size w2 wx) (fun i _ _=>l.length-(intOf i).toNat)
   case atStart=>exact⟨0,Wh _,rfl,by simp[aA.ov],Below.refl _ _⟩
   case round =>
    obtain⟨j,hj,rfl,hf,r⟩:=hrel;have HF:=aC hf;have V:=bA R2.out.2.2 r (zq _);have g:=aC V;have HB:=aC r;clear hf V
    by_cases I:j<l.length
    ·obtain rfl:=R2.out.1 (by intro e;simp[e] at I);have c0:=aN r (R2.out.2.1 j I);have M:(j:U9)<(l.length:U9):=UU
     have Q:aA.ov most name aH L es (l.take (j+1))=(aA.ov most name aH L es (l.take j) && !aA.px most name aH L es l[j]):=by
      unfold aA.ov;rw[Wg I,Wj];simp
     have ab:=aC Q;have m:=aC (TM.out l[j]);have C:=aC (TK.out l[j]);have an:=aA.pR L l[j];have aw:=ao.out l[j]
     have Y:Hid (aA.px most name aH L es l[j]=Vg->aA.ov most name aH L es l=Vf):=by
      intro ho;unfold aA.ov;rw[List.all_eq_false];exact⟨l[j],List.getElem_mem I,by simp[ho]⟩
     have x:aA.px most name aH L es l[j]=(decide (0<aA.cP L l[j]) && decide (most<aA.bP name l[j] es+aA.cP L l[j]*aH)):=rfl;have m0:0<=aA.cP L l[j]*aH:=Wc an.1 P;have m1:aA.cP L l[j]*aH<=900:=by have:aA.cP L l[j]*aH<=100*9:=Wf UU ag P UU;omega
     generalize aA.cP L l[j]=n at *;generalize aA.bP name l[j] es=tk at *;have N:=aC x;clear Q x r
     by_cases hn:0<n
     ·by_cases hm:most<tk+n*aH
      ·have HO:Hid (aA.px most name aH L es l[j]=Vg):=by show _=Vg;rw[N.out];simp[hn,hm]
       go_wp2_with fail
       refine (m.out _ g.out).mono ?_;rintro e w3 ⟨rfl,rfl⟩
       go_wp2_with fail
       refine (C.out _ g.out).mono ?_;rintro e w4 ⟨rfl,z⟩;have O:=aC (bA g.out z (zq _));clear z m C TM TK
       go_wp2
       go_ret;exact⟨oa (Y.out HO.out).symm,O.out⟩
      ·have HO:Hid (aA.px most name aH L es l[j]=Vf):=by show _=Vf;rw[N.out];simp[hm]
       go_wp2_with fail
       refine (m.out _ g.out).mono ?_;rintro e w3 ⟨rfl,rfl⟩
       go_wp2_with fail
       refine (C.out _ g.out).mono ?_;rintro e w4 ⟨rfl,z⟩;have O:=aC (bA HB.out z (zq _));clear z m C TM TK
       go_wp2
       go_roundw
       case rel=>exact⟨j+1,by omega,by go_num,by rw[ab.out,HF.out,HO.out];rfl,O.out⟩
       case measure=>simp[intOf];omega
     ·have HO:Hid (aA.px most name aH L es l[j]=Vf):=by show _=Vf;rw[N.out];simp[hn]
      go_wp2_with fail
      refine (m.out _ g.out).mono ?_;rintro e w3 ⟨rfl,rfl⟩;clear m C TM TK
      go_wp2
      go_roundw
      case rel=>exact⟨j+1,by omega,by go_num,by rw[ab.out,HF.out,HO.out];rfl,HB.out⟩
      case measure=>simp[intOf];omega
    ·have e:l.take j=l:=Wi UU;have M:¬ (j:U9)<(l.length:U9):=UU
     rw[e] at HF;clear e r
     go_wp2
     go_ret;exact⟨oa HF.out.symm,g.out⟩
namespace aA
def jo(id:U9):U5 aL->U9->U9
 |[],_=>-1
 |e :: r,i=>if e.id=id then i else jo id r (i+1)
def eh(es:U5 aL):U9:=((es.filter fun e=>e.kind==3).length:U9)
def dH(ts:U5 (U4 × U9))(name:U4)(aH:U9):U9:=if bJ name ts=0 then 3 else if bJ name ts<aH then 7 else 0
end aA
def dN(x:aA.aL × U8 × U8):U5 Vi:=[.int .i64 x.1.id,.int .i64 x.1.kind,.string x.1.aT,.int .i64 x.1.aH,.slice (Ve ⟨x.2.1,0,Vd⟩) x.1.aK.length x.2.2,.int .i64 x.1.bY]
structure pV(w:Vh)(d:U8)(a:U6 Vl)(cap E:U8)(xs:U5 (aA.aL × U8 × U8)):Prop where
 c:w.cell? ⟨d,1,Vd⟩=Ve (.slice a xs.length cap)
 a:xs≠[]->a=Ve ⟨E,0,Vd⟩
 r:∀ (i:U8) (h:i<xs.length),RE w E i xs[i].1 xs[i].2.1 xs[i].2.2
theorem pV.de{g:U5 (aA.aL × U8 × U8)}(h:pV w d a cap E g):mg w d a cap E (g.map (·.1)) :=
 ⟨by rw[WL];exact h.c,fun l=>h.a (by intro e;simp[e] at l),fun i m=>by
  have k:i<g.length:=by simpa using m
  exact⟨g[i].2.1,g[i].2.2,by simpa using h.r i k⟩⟩
theorem pV.later{xs:U5 (aA.aL × U8 × U8)}(h:pV w d a cap E xs)(k:Vj w.heap.size w w'):pV w' d a cap E xs:=⟨aN k h.c,h.a,fun i g=>(h.r i g).later k⟩
theorem pV.at{c:U5 (aA.aL × U8 × U8)}(h:pV w d a cap E c)(g:i<c.length):a=Ve ⟨E,0,Vd⟩:=h.a (by intro e;simp[e] at g)
theorem Ml(d:U8)(a:U6 Vl)(cap E:U8)(es:U5 aA.aL)(id:U9)(w:Vh)(h:mg w d a cap E es)(I:es.length<=1000):
  Vk prog 233 #[.pointer (Ve ⟨d,0,Vd⟩),.int .i64 id] w fun e w'=>e=.returned (.int .i64 (aA.jo id es 0))/\w'=w:=by
 have H:=aC h;have M:=h.c;clear h
 go_in
 go_wp2_with fail
 go_loop [5] (fun i=>∃ k:U8,k<=es.length/\i=.int .i64 k/\aA.jo id es 0=aA.jo id (es.drop k) k) (fun i=>es.length-(intOf i).toNat)
 case atStart=>exact⟨0,Wh _,rfl,rfl⟩
 case round =>
  obtain⟨k,J,rfl,x⟩:=hrel;have t:=aC x;clear x
  by_cases g:k<es.length
  ·obtain rfl:=H.out.at g;obtain⟨B,K,y⟩:=H.out.r k g;have N:=y.c0;have D:(k:U9)<(es.length:U9):=UU
   have z:aA.jo id (es.drop k) k=if es[k].id=id then (k:U9) else aA.jo id (es.drop (k+1)) (k+1):=by rw[WQ g];rfl
   have C:=aC z;clear z y
   by_cases l:es[k].id=id
   ·have s:(es[k].id==id)=Vg:=by simp[l]
    have m:Hid (aA.jo id es 0=k):=by show aA.jo id es 0=k;rw[t.out,C.out,Vb l]
    clear l
    go_wp2
    go_ret;exact⟨gL m.out.symm,rfl⟩
   ·have s:(es[k].id==id)=Vf:=by simp[l]
    have m:Hid (aA.jo id es 0=aA.jo id (es.drop (k+1)) ((k+1:U8):U9)):=by show aA.jo id es 0=_;rw[t.out,C.out,Va l];rfl
    clear l
    go_wp2
    go_round
    case rel=>exact⟨k+1,by omega,by go_num,m.out⟩
    case measure=>simp[intOf];omega
  ·have e:es.drop k=[]:=WS UU;have m:Hid (aA.jo id es 0=-1):=by show aA.jo id es 0=-1;rw[t.out,e];rfl
   have D:¬ (k:U9)<(es.length:U9):=UU
   clear e
   go_wp2
   go_ret;exact⟨gL m.out.symm,rfl⟩
theorem Nf(d:U8)(a:U6 Vl)(cap E:U8)(es:U5 aA.aL)(w:Vh)(h:mg w d a cap E es)(z:es.length<=1000):
  Vk prog 231 #[.pointer (Ve ⟨d,0,Vd⟩)] w fun e w'=>e=.returned (.int .i64 (aA.eh es))/\w'=w:=by
 have H:=aC h;have I:=h.c;clear h
 go_in
 go_wp2_with fail
 go_loop [3,4] (fun n i=>∃ k:U8,k<=es.length/\i=.int .i64 k/\n=.int .i64 (aA.eh (es.take k))) (fun _ i=>es.length-(intOf i).toNat)
 case atStart=>exact⟨0,Wh _,rfl,rfl⟩
 case round =>
  obtain⟨k,C,rfl,rfl⟩:=hrel
  have K:0<=aA.eh (es.take k)/\aA.eh (es.take k)<=k:=by
   unfold aA.eh;have:=WH (fun e:aA.aL=>e.kind==3) (es.take k);have:=Wq k es;omega
  by_cases g:k<es.length
  ·obtain rfl:=H.out.at g;obtain⟨B,D,s⟩:=H.out.r k g;have J:=s.c1;have y:(k:U9)<(es.length:U9):=UU
   have t:aA.eh (es.take (k+1))=aA.eh (es.take k)+if es[k].kind==3 then 1 else 0:=by
    unfold aA.eh;rw[Wg g,VP,V5]
    cases l:(es[k].kind==3) <;> simp[l]
   have x:=aC t;clear t s;generalize aA.eh (es.take k)=n at *
   cases l:(es[k].kind==3)
   ·have m:Hid (aA.eh (es.take (k+1))=n):=by show _=n;rw[x.out,l];simp
    go_wp2
    go_round
    case rel=>exact⟨k+1,by omega,by go_num,by rw[m.out]⟩
    case measure=>simp[intOf];omega
   ·have m:Hid (aA.eh (es.take (k+1))=n+1):=by show _=n+1;rw[x.out,l];simp
    go_wp2
    go_round
    case rel=>exact⟨k+1,by omega,by go_num,by rw[m.out]⟩
    case measure=>simp[intOf];omega
  ·have e:es.take k=es:=Wi UU;have y:¬ (k:U9)<(es.length:U9):=UU
   go_wp2
   go_ret;exact⟨gL (by first|rfl|rw[e]),rfl⟩
theorem MQ(d:U8)(a:U6 Vl)(cap G:U8)(ts:U5 (U4 × U9))(name:U4)(aH:U9)(w:Vh)(h:oN w d a cap G ts)(x:ts.length<=1000):
  Vk prog 230 #[.pointer (Ve ⟨d,0,Vd⟩),.string name,.int .i64 aH] w fun e w'=>e=.returned (.int .i64 (aA.dH ts name aH))/\w'=w:=by
 have m:=aC (Ar d a cap G ts name w h x);have g:Hid (aA.dH ts name aH=if aA.bJ name ts=0 then 3 else if aA.bJ name ts<aH then 7 else 0):=rfl;generalize aA.bJ name ts=n at *;generalize aA.dH ts name aH=r at *;clear h
 by_cases c:n=0
 ·have k:Hid (r=3):=by show r=3;rw[g.out,Vb c]
  have l:(n==0)=Vg:=by simp[c]
  clear c g
  go_in
  go_wp2_with fail
  refine m.out.mono ?_;rintro e s ⟨rfl,rfl⟩
  go_wp2
  go_ret;exact⟨gL k.out.symm,rfl⟩
 ·have l:(n==0)=Vf:=by simp[c]
  by_cases t:n<aH
  ·have k:Hid (r=7):=by show r=7;rw[g.out,Va c,Vb t]
   clear c g
   go_in
   go_wp2_with fail
   refine m.out.mono ?_;rintro e s ⟨rfl,rfl⟩
   go_wp2
   go_ret;exact⟨gL k.out.symm,rfl⟩
  ·have k:Hid (r=0):=by show r=0;rw[g.out,Va c,Va t]
   clear c g
   go_in
   go_wp2_with fail
   refine m.out.mono ?_;rintro e s ⟨rfl,rfl⟩
   go_wp2
   go_ret;exact⟨gL k.out.symm,rfl⟩
theorem wO:(prog.info? 58).map (fun i=>(i.zero,i.size,i.bytes))=Ve (Ve (.agg #[.int .i64 0,.int .i64 0,.string ⟨#[]⟩,.int .i64 0,.slice Vd 0 0,.int .i64 0]),6,72):=UZ
def iS(id:U9)(c:U5 (aA.aL × U8 × U8)):U5 (aA.aL × U8 × U8):=c.filter fun x=>x.1.id != id
theorem wV(x:aA.aL × U8 × U8):(dN x).length=6:=rfl
theorem Ec(c:U5 (aA.aL × U8 × U8)):(c.flatMap dN).length=c.length*6:=by
 induction c with
 |nil=>rfl
 |cons x c ih=>simp only[Wv,V5,V6,ih,wV];omega
theorem wR{r:U8}{c:U5 (aA.aL × U8 × U8)}(h:w.ownsRow r 58 6 v n (c.flatMap dN))(t:∀ x∈c,fY w x.2.1 x.1.aK):∃ a cap g,v=.slice a n cap/\n=c.length/\(c≠[]->a=Ve ⟨g,0,Vd⟩)/\∀ (i:U8)(s:i<c.length),RE w g i c[i].1 c[i].2.1 c[i].2.2:=by
 have I:=h.1;rw[Ec] at I;have C:n=c.length:=UU
 rcases h.2 with ⟨rfl,M⟩|⟨g,cap,z,rfl,P,J,S,R,Q,K⟩
 ·subst M;have:c=[]:=V9.1 C.symm;subst this;exact⟨Vd,0,0,rfl,rfl,fun h=>Vc rfl h,fun i s=>by simp at s⟩
 ·refine⟨Ve ⟨g,0,Vd⟩,cap,g,rfl,C,fun _=>rfl,fun i s=>?_⟩
  have k:∀ (j:U8) (u:Vi),j<6->(dN c[i])[j]?=Ve u->w.cell? ⟨g,i*6+j,Vd⟩=Ve u:=by
   intro j u O D
   have N:(c.flatMap dN)[i*6+j]?=Ve u:=by
    have l:c=c.take i++c[i] :: c.drop (i+1):=by rw[Ww,Wb]
    rw[l,Wx,Wv];have m:((c.take i).flatMap dN).length=i*6:=by rw[Ec,Wy UU]
    rw[Wz UU,m,WB,Wt (by rw[wV];omega)];exact D
   have y:(z.toList.take (n*6))[i*6+j]?=Ve u:=by rw[K];exact N
   rw[Wu UU] at y;simp only[WJ] at y;simp[VL,J,y]
  exact⟨k 0 _ UU rfl,k 1 _ UU rfl,k 2 _ UU rfl,k 3 _ UU rfl,k 4 _ UU rfl,k 5 _ UU rfl,t _ (zg s)⟩
theorem Nh(d:U8)(a:U6 Vl)(cap E:U8)(xs:U5 (aA.aL × U8 × U8))(id:U9)(w:Vh)(h:pV w d a cap E xs)(hl:xs.length<=1000):
  Vk prog 234 #[.pointer (Ve ⟨d,0,Vd⟩),.int .i64 id] w fun e w'=>∃ v,e=.returned v/\w'.ownsRow w.heap.size 58 6 v (iS id xs).length ((iS id xs).flatMap dN)/\Vj w.heap.size w w':=by
 obtain⟨U,N,M,K,J⟩:=info_parts wO;have H:=aC h;clear h
 go_in
 go_wp2_with fail
 go_loopw [5,6] (fun v i wx=>∃ k:U8,k<=xs.length/\i=.int .i64 k/\wx.ownsRow w.heap.size 58 6 v (iS id (xs.take k)).length ((iS id (xs.take k)).flatMap dN)/\Vj w.heap.size w wx) (fun _ i _=>xs.length-(intOf i).toNat)
 case atStart=>exact⟨0,Wh _,rfl,WK _ _ _ _,Below.refl _ _⟩
 case round =>
  obtain⟨k,R,rfl,g,z⟩:=hrel;have D:=H.out.later z;have W:=D.c;have l:=aC (zA g z);have O:=z.size
  have bl:(iS id (xs.take k)).length<=k:=by
   have:=WH (fun x:aA.aL × U8 × U8=>x.1.id != id) (xs.take k);have:=Wq k xs;unfold iS;omega
  by_cases y:k<xs.length
  ·obtain rfl:=H.out.at y;have t:=D.r k y;have c0:=t.c0;have c1:=t.c1;have c2:=t.c2;have Z:=t.c3;have Y:=t.c4;have X:=t.c5;have V:(k:U9)<(xs.length:U9):=UU
   have S:iS id (xs.take (k+1))=iS id (xs.take k)++if xs[k].1.id != id then [xs[k]] else []:=by
    unfold iS;rw[Wg y,VP]
    cases I:(xs[k].1.id != id) <;> simp[I]
   have T:=aC S;clear S t D
   cases I:(xs[k].1.id != id)
   ·have P:Hid (iS id (xs.take (k+1))=iS id (xs.take k)):=by show _=_;rw[T.out,I];simp
    clear g z
    go_wp2
    go_roundw
    case rel=>exact⟨k+1,by omega,by go_num,by rw[P.out];exact l.out.1,l.out.2⟩
    case measure=>simp[intOf];omega
   ·have P:Hid (iS id (xs.take (k+1))=iS id (xs.take k)++[xs[k]]):=by show _=_;rw[T.out,I];simp
    clear z
    go_wp2_with (first
     |(at_builtin;refine wpList_append_own _ rfl _ _ 34 rfl w.heap.size 58 U _ 6 72 underlying34 N M K J rfl UW _ _ _ rfl (g.alloc _) ⟨wr.heap.size,0,Vd⟩ 1 1 (dN xs[k]) rfl rfl (WM (cs:=(dN xs[k]).toArray) (cC wr _)) (by simp[dN,WN]) U1 UU U0 ?_;intro v' w' m s _))
    have C:Vj w.heap.size w w':=(l.out.2.alloc O _).grown s U0 (fun k R=>jE l.out.1 R)
    have HK:Hid (w'.ownsRow w.heap.size 58 6 v' (iS id (xs.take (k+1))).length ((iS id (xs.take (k+1))).flatMap dN)):=by
     show w'.ownsRow _ _ _ _ _ _;rw[P.out,Wx,V5]
     simpa using m
    have Q:=aC C;clear m s C g l c0 c1 c2 Z Y X W
    go_wp2
    go_roundw
    case rel=>exact⟨k+1,by omega,by go_num,HK.out,Q.out⟩
    case measure=>simp[intOf];omega
  ·have e:xs.take k=xs:=Wi UU;have V:¬ (k:U9)<(xs.length:U9):=UU
   rw[e] at l;clear g z D e
   go_wp2
   go_ret;exact⟨_,rfl,l.out.1,l.out.2⟩
def jq(t:U4 × U9):U5 Vi:=[.string t.1,.int .i64 t.2]
structure RD(w:Vh)(d:U8)(ts:U5 (U4 × U9))(xs:U5 (aA.aL × U8 × U8))(given now:U9)(F:U5 U8):Prop where
 tv:∃ v,w.cell? ⟨d,0,Vd⟩=Ve v/\w.ownsRow 0 315 2 v ts.length (ts.flatMap jq)/\∀ k,v.ownBlock=Ve k->k∈F/\k≠d
 ev:∃ v,w.cell? ⟨d,1,Vd⟩=Ve v/\w.ownsRow 0 58 6 v xs.length (xs.flatMap dN)/\∀ k,v.ownBlock=Ve k->k∈F/\k≠d
 c2:w.cell? ⟨d,2,Vd⟩=Ve (.int .i64 given)
 c3:w.cell? ⟨d,3,Vd⟩=Ve (.int .i64 now)
 fz:∀ o,w.frozen? ⟨d,o,Vd⟩=Vf
 dF:d∈F
 sp:∀ x∈xs,fY w x.2.1 x.1.aK/\x.2.1 ∉ F/\x.2.1<w.heap.size
theorem RD.dx{xs:U5 (aA.aL × U8 × U8)}(h:RD w d ts xs given now F):∃ a cap E,pV w d a cap E xs:=by
 obtain⟨v,c,m,_⟩:=h.ev;obtain⟨a,cap,g,rfl,s,r,l⟩:=wR m (fun x k=>(h.sp x k).1);exact⟨a,cap,g,c,r,l⟩
theorem Me(ts:U5 (U4 × U9)):(ts.flatMap jq).length=ts.length*2:=by
 induction ts with
 |nil=>rfl
 |cons x xs ih=>simp only[Wv,V5,V6,ih,jq,Wa];omega
theorem RD.dt{y:U5 (aA.aL × U8 × U8)}(h:RD w d ts y given now F):∃ a cap G,oN w d a cap G ts:=by
 obtain⟨v,c,t,_⟩:=h.tv;have K:=t.1;rcases t.2 with ⟨rfl,I⟩|⟨g,cap,s,rfl,N,C,Q,P,O,D⟩
 ·have:ts=[]:=V9.1 I;subst this;exact⟨Vd,0,0,c,fun h=>Vc rfl h,fun i x=>by simp at x⟩
 ·refine⟨Ve ⟨g,0,Vd⟩,cap,g,c,fun _=>rfl,fun i x=>?_⟩
  have l:∀ (j:U8) (u:Vi),j<2->(jq ts[i])[j]?=Ve u->w.cell? ⟨g,i*2+j,Vd⟩=Ve u:=by
   intro j u M z
   have J:(ts.flatMap jq)[i*2+j]?=Ve u:=by
    have k:ts=ts.take i++ts[i] :: ts.drop (i+1):=by rw[Ww,Wb]
    rw[k,Wx,Wv];have m:((ts.take i).flatMap jq).length=i*2:=by rw[Me,Wy UU]
    rw[Wz UU,m,WB,Wt (by simp[jq];omega)];exact z
   have r:(s.toList.take (ts.length*2))[i*2+j]?=Ve u:=by rw[D];exact J
   rw[Wu UU] at r;simp only[WJ] at r;simp[VL,C,r]
  exact⟨l 0 _ UU rfl,l 1 _ UU rfl⟩
theorem dO{c size:U8}{xs:U5 Vi}(h:w.ownsRow c e size v n xs)(k:aF G w w')(x:∀ b,v.ownBlock=Ve b->b ∉ G):w'.ownsRow c e size v n xs:=by
 refine⟨h.1,?_⟩;rcases h.2 with z|⟨g,cap,r,s,y,m,rest⟩
 ·exact .inl z
 ·refine .inr ⟨g,cap,r,s,y,?_,rest⟩
  have l:g<w.heap.size:=by
   by_cases t:g<w.heap.size
   ·exact t
   ·rw[WD UU] at m;cases m
  rw[k.block g l (x g (by rw[s];rfl))];exact m
theorem RD.off{l:U5 (aA.aL × U8 × U8)}(h:RD w d ts l given now F)(k:aF G w w')(r:∀ x∈F,x ∉ G)(z:∀ x∈l,x.2.1 ∉ G):RD w' d ts l given now F:=by
 have c:d ∉ G:=r d h.dF;obtain⟨y,J,I,t⟩:=h.tv;obtain⟨v2,D,C,s⟩:=h.ev
 exact⟨⟨y,k.cell c J,dO I k (fun b m=>r b (t b m).1),t⟩,⟨v2,k.cell c D,dO C k (fun b m=>r b (s b m).1),s⟩,k.cell c h.c2,k.cell c h.c3,
  fun o=>(k.frozen c (Vr _ _ h.c2)).trans (h.fz o),h.dF,fun x g=>⟨(h.sp x g).1.off k (z x g),(h.sp x g).2.1,Wk (h.sp x g).2.2 k.size⟩⟩
def rP(c n:U9):Vi:=.agg #[.int .i64 c,.int .i64 0,.int .i64 n,.slice Vd 0 0,.slice Vd 0 0,.slice Vd 0 0,.slice Vd 0 0]
def lE(w:Vh)(d o:U8)(v:Vi)(g:U5 Hp.Hi)(w':Vh):Prop :=
 ∃ v',HP w' d o v' g/\(∀ b,v'.ownBlock=Ve b->v.ownBlock=Ve b\/w.heap.size<=b)/\aF (d :: v.ownBlock.toList) w w'/\(∀ c,c≠o->w'.cell? ⟨d,c,Vd⟩=w.cell? ⟨d,c,Vd⟩)/\∀ c,w'.frozen? ⟨d,c,Vd⟩=w.frozen? ⟨d,c,Vd⟩
theorem Sp{m:U5 Hp.Hi}(h:m.length=n+1)(a b c:Vi):(((m.flatMap iv).set (n*3) a).set (n*3+1) b).set (n*3+2) c=(m.take n).flatMap iv++[a,b,c]:=by
 have k:n<m.length:=UU
 have g:((m.take n).flatMap iv).length=n*3:=by rw[yb,Wy UU]
 conv=>lhs;rw[Cr k,Wx,Wv]
 rw[WC _ _ UU,WC _ _ UU,WC _ _ UU,g];rw[show n*3-n*3=0 from by omega,show n*3+1-n*3=1 from by omega,show n*3+2-n*3=2 from by omega];have e:m.drop (n+1)=[]:=WS UU;simp[iv,e]
def vB(w:Vh)(H p n:U8)(x:Hp.Hi):Vh :=
 (((((w.setCell ⟨H,p*3,Vd⟩ (.int .i64 x.t)).setCell ⟨H,p*3+1,Vd⟩ (.int .i64 x.n)).setCell ⟨H,p*3+2,Vd⟩ (.pointer (Ve ⟨x.v,0,Vd⟩))).setCell ⟨H,n*3,Vd⟩ (.int .i64 0)).setCell ⟨H,n*3+1,Vd⟩ (.int .i64 0)).setCell ⟨H,n*3+2,Vd⟩ (.pointer Vd)
theorem S6(w:Vh)(H p n:U8)(x:Hp.Hi):aF [H] w (vB w H p n x):=(ub _ _ _ _ _ _ _ _).trans (ub _ _ _ _ _ _ _ _)
theorem HP.vB{l:U5 Hp.Hi}(h:HP w d o (.slice (Ve ⟨H,0,Vd⟩) l.length cap) l)(m:l.length=n+1)(y:p<l.length):
  HP ((vB w H p n (Hp.at_ l n)).setCell ⟨d,o,Vd⟩ (.slice (Ve ⟨H,0,Vd⟩) n cap)) d o (.slice (Ve ⟨H,0,Vd⟩) (Hp.cut l p).length cap) (Hp.cut l p):=by
 have g:d≠H:=fun e=>h.ne (by rw[e];rfl)
 have k:=S6 w H p n (Hp.at_ l n);have z:=k.cell (by simpa using g) h.c;have a:=h.put y (Hp.at_ l n);have e:Hp.cut l p=(l.set p (Hp.at_ l n)).take n:=by unfold Hp.cut;rw[m];rfl
 have r:(Hp.cut l p).length=n:=by rw[Hp.pN,m];rfl
 have s:(l.set p (Hp.at_ l n)).length=n+1:=by simpa using m
 have b:=(((a.own.stored (n*3) (.int .i64 0)).1.stored (n*3+1) (.int .i64 0)).1.stored (n*3+2) (.pointer Vd)).1;rw[Sp s,s,<- e] at b;have C:=ownsRow_pop (by rw[yb,r]) b;refine⟨?_,?_,h.ne,?_⟩
 ·rw[r];exact zm _ _ _ z
 ·rw[r];exact dO C (aF.aY d _ o _) (fun x t=>by simp;rintro rfl;exact g (by simpa[WI] using t.symm))
 ·exact (zF ..).trans ((k.frozen (by simpa using g) (Vr _ _ h.c)).trans h.fz)
theorem lE.of{g:Vh}{l1 m:U5 Hp.Hi}(s:v.ownBlock=Ve H)(C:d<w.heap.size)(k:d≠H)(t:aF [d,H] w g)(D:∀ c,c≠o->g.cell? ⟨d,c,Vd⟩=w.cell? ⟨d,c,Vd⟩)(z:∀ c,g.frozen? ⟨d,c,Vd⟩=w.frozen? ⟨d,c,Vd⟩)(l:kS g w2 d o H l1.length cap l1 m):lE w d o v m w2:=by
 have h:w2.heap[d]?=g.heap[d]?:=l.off.block d (zL C t.size) (by simpa using k);refine⟨_,l.hp,fun b h=>.inl (by rw[s];exact h),?_,fun c y=>(zo h).trans (D c y),fun c=>?_⟩
 ·rw[s];exact t.trans' l.off (fun x r=>.inl (by simp at r;simp[r]))
 ·exact (WU h).trans (z c)
theorem Up(d o:U8)(v:Vi)(l:U5 Hp.Hi)(p:U8)(w:Vh)(h:HP w d o v l)(hh:Hp.gH l)(N:p<l.length)(hl:l.length<=1000):
  Vk prog 204 #[.pointer (Ve ⟨d,o,Vd⟩),.int .i64 p] w fun e w'=>e=.returned (.tuple #[])/\∃ r,lE w d o v r w'/\Hp.gH r/\l.Perm (Hp.at_ l p :: r):=by
 obtain⟨H,cap,rfl⟩:=h.form UU;obtain⟨n,U⟩:∃ n,l.length=n+1:=⟨l.length-1,by omega⟩;have c:=h.c;have m:d≠H:=fun e=>h.ne (by rw[e];rfl)
 obtain⟨a0,a1,a2⟩:=h.at N;obtain⟨b0,b1,b2⟩:=h.at (i:=n) UU;have fz:∀ k,w.frozen? ⟨H,k,Vd⟩=Vf:=fun k=>h.own.frozenAt k
 have fd:=h.fz;have W:=aC (h.vB U N);have e0:=(h.put N (Hp.at_ l n)).at (i:=n) U0;have ee:Hp.at_ (l.set p (Hp.at_ l n)) n=Hp.at_ l n:=by rw[Hp.xx];split <;> rfl
 rw[ee] at e0;obtain⟨y0,y1,y2⟩:=e0;clear ee;have i1:(p:U9)<(l.length:U9):=UU
 have HH:=aC h;clear h;rw[U] at c i1;generalize hx:Hp.at_ l n=x at *
 go_in
 go_upto_region 1 with fail
 go_big_region
 have K:aF [H] w (((w.setCell ⟨H,p*3,Vd⟩ (.int .i64 x.t)).setCell ⟨H,p*3+1,Vd⟩ (.int .i64 x.n)).setCell ⟨H,p*3+2,Vd⟩ (.pointer (Ve ⟨x.v,0,Vd⟩))):=ub _ _ _ _ _ _ _ _;have c1:=K.cell (by simpa using m) c;have S:=(K.frozen (o:=o) (by simpa using m) (Vr _ _ c)).trans fd;have aa:∀ k,(((w.setCell ⟨H,p*3,Vd⟩ (.int .i64 x.t)).setCell ⟨H,p*3+1,Vd⟩ (.int .i64 x.n)).setCell ⟨H,p*3+2,Vd⟩ (.pointer (Ve ⟨x.v,0,Vd⟩))).frozen? ⟨H,k,Vd⟩=Vf:=fun k=>by simp[World.frozen?_setCell,fz]
 unfold vB at W;generalize hX:(((w.setCell ⟨H,p*3,Vd⟩ (.int .i64 x.t)).setCell ⟨H,p*3+1,Vd⟩ (.int .i64 x.n)).setCell ⟨H,p*3+2,Vd⟩ (.pointer (Ve ⟨x.v,0,Vd⟩)))=X at *;clear hX;have J:=ub X H (n*3) (n*3+1) (n*3+2) (.int .i64 0) (.int .i64 0) (.pointer Vd);have c2:=J.cell (by simpa using m) c1;have ab:=(J.frozen (o:=o) (by simpa using m) (Vr _ _ c1)).trans S
 go_upto_region 3 with fail
 generalize hY:((X.setCell ⟨H,n*3,Vd⟩ (.int .i64 0)).setCell ⟨H,n*3+1,Vd⟩ (.int .i64 0)).setCell ⟨H,n*3+2,Vd⟩ (.pointer Vd)=Y at *;clear hY
 have R:n+1<=cap:=by
  have h:=HH.out.own.2;rcases h with ⟨h0,_⟩|⟨g,ac,ae,hv,_,_,h1,_⟩
  ·cases h0
  ·cases hv;omega
 have C:(n:U9)<=(cap:U9):=UU
 have oo:aF [d,H] w (Y.setCell ⟨d,o,Vd⟩ (.slice (Ve ⟨H,0,Vd⟩) n cap)):=((K.trans J).mono UV).setCell (.inl UV) _ _;have s:d<w.heap.size:=Vr _ _ c
 have Q:∀ y,y≠o->(Y.setCell ⟨d,o,Vd⟩ (.slice (Ve ⟨H,0,Vd⟩) n cap)).cell? ⟨d,y,Vd⟩=w.cell? ⟨d,y,Vd⟩:=fun y ho =>
  (zS _ _ _ _ (by have:=ho;simp)).trans (zo ((K.trans J).block d s (by simpa using m)))
 have P:∀ y,(Y.setCell ⟨d,o,Vd⟩ (.slice (Ve ⟨H,0,Vd⟩) n cap)).frozen? ⟨d,y,Vd⟩=w.frozen? ⟨d,y,Vd⟩:=fun y =>
  (zF ..).trans (WU ((K.trans J).block d s (by simpa using m)))
 have D:=aC (zA oo (zA Q P));have el:(Hp.cut l p).length=n:=by rw[Hp.pN,U];rfl
 clear oo Q P K J c c1 a0 a1 a2 b0 b1 b2 y0 y1 y2 fz aa fd S
 by_cases ad:p<n
 ·have O:(p:U9)<(n:U9):=UU
  go_upto_region 5 with fail
  generalize hZ:Y.setCell ⟨d,o,Vd⟩ (.slice (Ve ⟨H,0,Vd⟩) n cap)=Z at *;have SK:=aC (PZ d o H cap (Hp.cut l p) p Z.drew (W.out.off (G:=[]) (aF.refl _ _).drew UV UV) UU (Hp.Pj hh UU) UU);clear hZ R C c2 ab
  go_wp2_with fail
  refine SK.out.mono ?_;rintro e w4 ⟨rfl,l2,T,r2⟩;have V:=aC T;have z:=T.len;have RS:=aC (Gx d o H cap l2 p w4 (by rw[z];exact T.hp) UU r2 UU);clear T r2 SK
  go_wp2_with fail
  refine RS.out.mono ?_;rintro e w5 ⟨rfl,l3,I,r3⟩
  have HF:Hid (∃ r,lE w d o (.slice (Ve ⟨H,0,Vd⟩) l.length cap) r w5/\Hp.gH r/\l.Perm (Hp.at_ l p :: r)):=by
   refine⟨l3,lE.of (l1:=Hp.cut l p) rfl s m D.out.1 D.out.2.1 D.out.2.2 ⟨by rw[el,<- el,<- z];exact I.hp,by rw[I.len,z],I.perm.trans V.out.perm,((aF.refl [H] Z).drew).trans (V.out.off.trans I.off)⟩,r3,?_⟩;exact (Hp.Gp N).trans ((I.perm.trans V.out.perm).symm.cons _)
  clear I r3 V RS
  go_wp2
  go_end0
  exact⟨rfl,HF.out⟩
 ·have O:¬ ((p:U9)<(n:U9)):=UU
  have M:p=n:=UU
  have HF:Hid (∃ r,lE w d o (.slice (Ve ⟨H,0,Vd⟩) l.length cap) r (Y.setCell ⟨d,o,Vd⟩ (.slice (Ve ⟨H,0,Vd⟩) n cap)).drew/\Hp.gH r/\l.Perm (Hp.at_ l p :: r)):=by
   refine⟨Hp.cut l p,lE.of (l1:=Hp.cut l p) rfl s m D.out.1 D.out.2.1 D.out.2.2 ⟨W.out.off (G:=[]) (aF.refl _ _).drew UV UV,rfl,.refl _,(aF.refl _ _).drew⟩,?_,Hp.Gp N⟩;rw[M,show n=l.length-1 by omega];exact Hp.Ph hh
  clear W D U hx M el
  go_wp2
  go_end0
  exact⟨rfl,HF.out⟩
def sZ(w:Vh)(d:U8)(ts:U5 (U4 × U9))(c:U5 (aA.aL × U8 × U8))(given now:U9)(F:U5 U8)(w':Vh):Prop :=
 ∃ F',RD w' d ts c given now F'/\(∀ k∈F',k∈F\/w.heap.size<=k)/\aF F w w'
theorem RD.nt{m:U5 (aA.aL × U8 × U8)}(h:RD w d ts m given now F)(g:U9):RD (w.setCell ⟨d,2,Vd⟩ (.int .i64 g)) d ts m g now F:=by
 obtain⟨t,D,C,s⟩:=h.tv;obtain⟨v2,z,y,r⟩:=h.ev;have k:aF [d] w (w.setCell ⟨d,2,Vd⟩ (.int .i64 g)):=aF.aY ..
 exact⟨⟨t,(zS _ _ _ _ UV).trans D,dO C k (fun b l=>by simpa using (s b l).2),s⟩,⟨v2,(zS _ _ _ _ UV).trans z,dO y k (fun b l=>by simpa using (r b l).2),r⟩,VF _ _ _ h.c2,(zS _ _ _ _ UV).trans h.c3,
  fun o=>(zF ..).trans (h.fz o),h.dF,fun x c=>⟨(h.sp x c).1.off k (by simp;intro e;exact (h.sp x c).2.1 (e ▸ h.dF)),(h.sp x c).2.1,Wk (h.sp x c).2.2 k.size⟩⟩
theorem eV{c size:U8}{m:U5 Vi}(h:w.ownsRow c e size v n m)(k:v.ownBlock=Ve b):b<w.heap.size:=by
 rcases h.2 with ⟨rfl,_⟩|⟨g,cap,s,rfl,_,l,_⟩
 ·simp[WI] at k
 ·simp[WI] at k;subst k
  by_cases r:g<w.heap.size
  ·exact r
  ·rw[WD UU] at l;cases l
theorem aF.grown{w'':Vh}{row:U6 U8}(h:aF F w w')(g:w'.grownBy w'' row)(r:∀ k,row=Ve k->k∈F\/w.heap.size<=k):aF F w w'' :=
 ⟨g.os.trans h.os,g.tape.trans h.tape,g.output.trans h.output,Vq h.size g.size,fun k c l=>(g.block k (zL c h.size) (fun e=>by rcases r k e.symm with m|m;exact l m;omega)).trans (h.block k c l)⟩
theorem RD.kQ{Y:Vh}{c:U5 (aA.aL × U8 × U8)}{g:U8}{x:aA.aL × U8 × U8}(h:RD Y d ts c given now F)(cv:Y.cell? ⟨d,1,Vd⟩=Ve v)(ho:Y.ownsRow 0 58 6 v c.length (c.flatMap dN))(r:∀ k,v.ownBlock=Ve k->k∈F/\k≠d)(k:aF (v.ownBlock.toList) Y w5)(N:w5.ownsRow 0 58 6 (.slice (Ve ⟨g,0,Vd⟩) (c.length+1) cap) (c.length+1) (c.flatMap dN++dN x))(S:v.ownBlock=Ve g\/Y.heap.size<=g)(Z:fY Y x.2.1 x.1.aK)(K:x.2.1 ∉ F)(J:x.2.1<Y.heap.size):
  RD (w5.setCell ⟨d,1,Vd⟩ (.slice (Ve ⟨g,0,Vd⟩) (c.length+1) cap)) d ts (c++[x]) given now (g :: F)/\aF (d :: v.ownBlock.toList) Y (w5.setCell ⟨d,1,Vd⟩ (.slice (Ve ⟨g,0,Vd⟩) (c.length+1) cap)):=by
 obtain⟨R,a1,V,Q⟩:=h.tv;have t:=Vr _ _ h.c2;have t:d<Y.heap.size:=t
 have z:g≠d:=by
  rcases S with e|e
  ·exact (r g e).2
  ·omega
 have s:d ∉ v.ownBlock.toList:=by
  intro e;have:v.ownBlock=Ve d:=by simpa using e
  exact (r d this).2 rfl
 have M:∀ b,R.ownBlock=Ve b->b ∉ d :: v.ownBlock.toList:=by
  intro b m e;rcases VA.1 e with e|e
  ·exact (Q b m).2 e
  ·have e:v.ownBlock=Ve b:=by simpa using e
   rcases ho.2 with ⟨rfl,_⟩|⟨g',U,ab,rfl,_,hh,_⟩
   ·simp[WI] at e
   ·simp[WI] at e;subst e;exact iu V hh UW m
 have O:∀ y,y ∉ F->y ∉ d :: v.ownBlock.toList:=by
  intro y l e;rcases VA.1 e with rfl|e
  ·exact l h.dF
  ·exact l (r y (by simpa using e)).1
 have C:aF (d :: v.ownBlock.toList) Y (w5.setCell ⟨d,1,Vd⟩ (.slice (Ve ⟨g,0,Vd⟩) (c.length+1) cap)):=(k.mono (by intro y l;exact WV _ l)).setCell (.inl UV) _ _
 have I:∀ y∈c++[x],fY Y y.2.1 y.1.aK/\y.2.1 ∉ F/\y.2.1<Y.heap.size:=by
  intro y l;rcases VB.1 l with l|l
  ·exact h.sp y l
  ·have:y=x:=by simpa using l
   subst this;exact⟨Z,K,J⟩
 have P:∀ o u,Y.cell? ⟨d,o,Vd⟩=Ve u->o≠1->(w5.setCell ⟨d,1,Vd⟩ (.slice (Ve ⟨g,0,Vd⟩) (c.length+1) cap)).cell? ⟨d,o,Vd⟩=Ve u:=by
  intro o u hu aa;exact (zS _ _ _ _ UV).trans (k.cell s hu)
 refine⟨⟨⟨R,P 0 _ a1 UU,dO V C M,fun b m=>⟨WV _ (Q b m).1,(Q b m).2⟩⟩,⟨_,VF _ _ _ (k.cell s cv),?_,?_⟩,P 2 _ h.c2 UU,P 3 _ h.c3 UU,fun o=>(zF ..).trans ((k.frozen s t).trans (h.fz o)),WV _ h.dF,?_⟩,C⟩
 ·rw[Wx,V5];have e1:([x].flatMap dN)=dN x:=UV
  rw[e1];exact dO N (aF.aY ..) (fun b m=>by simp[WI] at m;subst m;simpa using z)
 ·intro b m;simp[WI] at m;subst m;exact⟨by simp,z⟩
 ·intro y l;obtain⟨X,D,W⟩:=I y l;refine⟨X.off C (O _ D),fun e=>?_,Wk W C.size⟩;rcases VA.1 e with e|e
  ·rcases S with T|T
   ·exact D (e ▸ (r g T).1)
   ·omega
  ·exact D e
end Go.Proofs.YtfigmlfdnickmaaGreatDoor
