import Derived.Test.YtfigmlfdnickmaaGreatDoorL01
import Derived.Lib.SmallJoins
import Derived.OwnWalk
import Derived.Deep.AppendLies
import Derived.Deep.CutRange
import Derived.Deep.RegionLaw
set_option maxRecDepth 100000
set_option maxHeartbeats 8000000
open Go.Proofs.Tryz
open _root_ renaming ByteArray->XK,List->XL,Option->XM,Bool->XN,Nat->XP,Int->XQ,if_neg->XR,if_pos->XS,absurd->XT,Int->N,Nat->M,List->J
open Option renaming none->XU,some->XV,none->Z,some->U
open Bool renaming false->XW,true->XX
open Go renaming World->XY,Value->XZ,Calls->X4,Addr->X5
open Go.RowKit renaming Below->X0
open List renaming nodup_cons->Yx,nodup_append->YC,mem_append->Yv,mem_cons->Yu,length_append->YZ,length_cons->Y0,length->Y4,cons_append->YH,length_eq_zero_iff->Y6,filter_append->YJ,length_nil->Y7,take_append_drop->Y8,take_succ_eq_append_getElem->Zc,take_of_length_le->Ze,all_append->Zf,mem_map->Zh,take_sublist->Zi,mem_of_mem_take->Zj,length_take_le->Zk,map_append->Zl,getD->Zm,getElem?_append_left->Zn,getElem?_take_of_lt->Zo,flatMap_cons->Zp,getElem_cons_drop->Zq,flatMap_append->Zr,length_take_of_le->Zs,getElem?_append_right->Zt,set_append_right->Zv,length_set->Zx,length_filter_le->ZA,append_assoc->YU,length_map->ZE,drop_eq_getElem_cons->ZH,drop_eq_nil_of_le->ZI
open And renaming intro->Yz
open Go.World renaming block_lt_of_cell?->Yl,alloc->YD,cell?->YF,ownsRow_nil->ZD,news_of_block->ZF,frozen?_of_block->ZJ
open Int renaming mul_add->Y5,mul_nonneg->Y9,mul_nonpos_of_nonpos_of_nonneg->Za,mul_le_mul->Zb
open Nat renaming zero_le->Zd,lt_of_lt_of_le->Zg,le_trans->Yk,add_sub_cancel_left->Zu,zero_mul->Zy
open Go.IntKind renaming i64->Yf,i64->Y
open List.Sublist renaming nodup->YN
open Array renaming getElem?_eq_none->Zw,getElem?_toList->ZC
open Go.Value renaming int->X7,ownBlock->ZB,oneCell'->ZG,pointer->X8,slice->X9,tuple->Yc,int->V
open Go.Exit renaming inBlock->Zz
open Go.Ending renaming returned->Yg
open Go.Obj renaming cells->Yh
namespace Go.Proofs.YtfigmlfdnickmaaGreatDoor
variable{name:XK}{given id:XQ}{ts:XL (XK × XQ)}{L:XL (XQ × XQ)}{A A':XL XN->XQ}{F F' Fl Fr Fs G:XL XP}{B E H b cap d e eb f i j n o p q tb:XP}{a pl pr u ul us:XM X5}{v:XZ}{w w' w2 w4 wx wy:XY}
open Go.RowKit
def vl(w:XY)(F:J M)(c:aF.S)(e:Ending)(w':XY):Prop :=
 ∃ (u:XM X5) (F':J M),e=Yg u/\dK w' c u F'/\(∀ k∈F',k∈F\/w<=k)/\aH F w w'
theorem cW.A4{x:aF.It}{l r D:aF.S}(h:cW w b x l r pl pr Fl Fr)(C:b ∉ G)(P:∀ y∈Fr,y ∉ G)(I:dK w2 D u F')(s:∀ k∈F',k∈G\/w<=k)(m:aH G w w2):
  cW (w2.setCell (b,6) u) b x D r u pr F' Fr/\(∀ k∈b :: (F'++Fr),k∈b :: (G++Fr)\/w<=k)/\aH (b :: (G++Fr)) w (w2.setCell (b,6) u):=by
 let⟨n1,n2,n3,n4,n5,n6,n7,n8⟩:=h.parts;have g:=h.lt;refine⟨cW.lg (h.n.off m C) (m.cell C h.c7) I (h.r.off m P) ?_,fun k c=>?_,?_⟩
 .refine Yx.2 ⟨fun e=>?_,YC.2 ⟨I.nodup,n8,fun y t z K e=>?_⟩⟩
  .rcases Yv.1 e with e|e
   .rcases s b e with e|e
    .exact C e
    .have:=g b XA;omega
   .exact n2 e
  .subst e;rcases s y t with e|e
   .exact P y K e
   .have:=g y (by simp[K]);omega
 .rcases Yu.1 c with rfl|c
  .exact .inl XA
  .rcases Yv.1 c with c|c
   .rcases s k c with e|e
    .exact .inl (by simp[e])
    .exact .inr e
   .exact .inl (by simp[c])
 .exact (m.mono (by intro y t;simp[t])).setCell (.inl XA) _ _
theorem cW.A3{x:aF.It}{l r D:aF.S}(h:cW w b x l r pl pr Fl Fr)(C:b ∉ G)(K:∀ y∈Fl,y ∉ G)(I:dK w2 D u F')(t:∀ k∈F',k∈G\/w<=k)(m:aH G w w2):
  cW (w2.setCell (b,7) u) b x l D pl u Fl F'/\(∀ k∈b :: (Fl++F'),k∈b :: (Fl++G)\/w<=k)/\aH (b :: (Fl++G)) w (w2.setCell (b,7) u):=by
 let⟨n1,n2,n3,n4,n5,n6,n7,n8⟩:=h.parts;have g:=h.lt;refine⟨cW.jR (h.n.off m C) (m.cell C h.c6) (h.l.off m K) I ?_,fun k c=>?_,?_⟩
 .refine Yx.2 ⟨fun e=>?_,YC.2 ⟨n7,I.nodup,fun y s z P e=>?_⟩⟩
  .rcases Yv.1 e with e|e
   .exact n1 e
   .rcases t b e with e|e
    .exact C e
    .have:=g b XA;omega
  .subst e;rcases t y P with e|e
   .exact K y s e
   .have:=g y (by simp[s]);omega
 .rcases Yu.1 c with rfl|c
  .exact .inl XA
  .rcases Yv.1 c with c|c
   .exact .inl (by simp[c])
   .rcases t k c with e|e
    .exact .inl (by simp[e])
    .exact .inr e
 .exact (m.mono (by intro y s;simp[s])).setCell (.inl XA) _ _
theorem size_put(x:aF.It):∀ t:aF.S,aF.size (aF.put x t)<=aF.size t+1
 |.nil=>by
  rw[<- aF.nS,aF.put,aF.ou];simp[aF.cH,aF.size]
 |.node y l r=>by
  have g:=size_put x l;have c:=size_put x r;rw[<- aF.nS] at g c;rw[<- aF.nS,aF.put];have k:=aF.nS l;have h:=aF.nS r
  split
  .rw[aF.ou];simp only[YZ,Y0,aF.size];omega
  .split
   .rw[aF.ou];simp only[YZ,Y0,aF.size];omega
   .rw[aF.ou];simp only[YZ,Y0,aF.size];omega
theorem RO(x:aF.It):∀ (t:aF.S)(u:XM X5)(F:J M)(c:M)(w:XY),dK w t u F->cW w c x .nil .nil Z Z [] []->c ∉ F->aF.size t<=10000->(∀ z∈aF.cH t,¬ (z.f=x.f/\z.n=x.n)) ->
  X4 prog 220 #[u,c] w (vl w (c :: F) (aF.put x t)):=by
 intro t
 induction t with
 |nil =>
  intro u F c w h hb _ _ _;obtain⟨hu,rfl⟩:=h
  cases hu
  have T:=aC (uz w c x .nil .nil Z Z [] [] hb (by simp[aF.ht]) (by simp[aF.ht]));clear hb
  go_in
  go_wp21
  refine T.mono ?_;rintro e w2 ⟨u2,F2,rfl,P,K,m⟩;have HK:Hid (vl w [c] (aF.put x .nil) (Yg u2) w2):=⟨u2,F2,rfl,P,fun k Q=>.inl (K k Q),m⟩;clear P K m T
  go_wp21
  go_ret;exact HK
 |node y l r ihl ihr =>
  intro u F c w h hb R ag s;have ae:=aC ihl;have ad:=aC ihr;clear ihl ihr;obtain⟨b,pl,pr,Fl,Fr,rfl,rfl,hh,_,_⟩:=h.half;have af:¬ (y.f=x.f/\y.n=x.n):=s y (by simp[aF.cH]);have sl:=size_put x l;have sr:=size_put x r;have hs:aF.size (.node y l r)=1+aF.size l+aF.size r:=rfl
  have ab:aF.side x.f x.n y<0\/0<aF.side x.f x.n y:=by
   by_cases a:aF.side x.f x.n y<0
   .exact .inl a
   .refine .inr ?_;rw[aF.uo] at a;rw[aF.xL];omega
  have a0:=hb.n.c0;have a2:=hb.n.c2;have CM:=aC (fun w' k'=>Lm b y x.f x.n w' (hh.n.off (G:=[]) k' XA));rcases ab with a|a
  .have ep:aF.put x (.node y l r)=aF.gL y (aF.put x l) r:=by rw[aF.put,XS a]
   rw[ep]
   have PT:Hid (∀ w2,X0 w w w2->X4 prog 220 #[pl,c] w2 (vl w2 (c :: Fl) (aF.put x l))) :=
    fun w2 kb=>ae pl Fl c w2 (hh.l.later kb) (hb.same (aH.aD kb)) (fun e=>R (by simp[e])) O (fun z hz=>s z (by simp[aF.cH,hz]))
   have HH:=aC (fun w2 (kb:X0 w w w2)=>hh.same (aH.aD kb))
   have C:b ∉ c :: Fl:=by
    simp only[Yu,not_or];exact⟨fun e=>R (by simp[e]),hh.parts.1⟩
   have ac:∀ y∈Fr,y ∉ c :: Fl:=by
    intro y hy;simp only[Yu,not_or];exact⟨fun e=>R (by simp[<- e,hy]),hh.parts.2.2.2.2.1 y hy⟩
   have X:aF.ht (aF.put x l)<=30000:=by have:=aF.nu (aF.put x l);omega
   have W:aF.ht r<=30000:=by have:=aF.nu r;omega
   clear hh hb ae ad s hs sl sr af ep
   go_in
   go_upto_region 3 with fail
   go_region_held3 (fun w'=>w'.cell? (c,0)=U (V Y x.f)/\w'.cell? (c,2)=U (V Y x.n)/\X0 w w w')
    (first
     |exact⟨a0,a2,dV _⟩
     |(go_split_ands;exact⟨aR I XD,aR I XD,bM XD I aI⟩))
    (first
     |(go_at_call 263;go_split_ands;refine aK (CM _ (aH.aD XD)) fun w2 I=>?_))
   have hB:X0 w w w2:=by go_split_ands;assumption
   have D:=HH w2 hB;have c6:=D.c6;have T:=aC hB;have g:=aC D;clear hB D HH CM a0 a2
   go_wp21
   refine (PT _ T).mono ?_;rintro e w3 ⟨u3,F3,rfl,P,K,m⟩;obtain⟨m1,m2,m3⟩:=g.A4 C ac P K m;have d6:=m.cell (o:=6) C c6;have f6:=(m.frozen (o:=6) C g.n.lt).trans (g.n.fz 6);have aa:=aC (Yz m1 (Yz m2 m3));clear m1 m2 m3 P K m c6 PT g
   go_wp21
   refine (uz _ b y (aF.put x l) r _ _ _ _ aa.1 X W).mono ?_;rintro e w4 ⟨u4,F4,rfl,P,K,m⟩
   have HK:Hid (vl w (c :: (b :: (Fl++Fr))) (aF.gL y (aF.put x l) r) (Yg u4) w4):=by
    have z1:=T.size;have z2:=aa.2.1;refine⟨u4,F4,rfl,P,fun k Q=>?_,?_⟩
    .have:=z2 k (K k Q);simp only[Yu,Yv] at this ⊢
     grind
    .have o1:aH (c :: (b :: (Fl++Fr))) w _:=(aH.aD T).trans (aa.2.2.mono (by intro k Q;simp only[Yu,Yv] at Q ⊢;grind));refine o1.trans' m (fun k Q=>?_);have:=z2 k Q;simp only[Yu,Yv] at this ⊢
     grind
   clear P K m aa T d6 f6
   go_wp21
   go_ret;exact HK
  .have a':¬ aF.side x.f x.n y<0:=O
   have ep:aF.put x (.node y l r)=aF.gL y l (aF.put x r):=by rw[aF.put,XR a',XS a]
   rw[ep]
   have PT:Hid (∀ w2,X0 w w w2->X4 prog 220 #[pr,c] w2 (vl w2 (c :: Fr) (aF.put x r))) :=
    fun w2 kb=>ad pr Fr c w2 (hh.r.later kb) (hb.same (aH.aD kb)) (fun e=>R (by simp[e])) O (fun z hz=>s z (by simp[aF.cH,hz]))
   have HH:=aC (fun w2 (kb:X0 w w w2)=>hh.same (aH.aD kb))
   have C:b ∉ c :: Fr:=by
    simp only[Yu,not_or];exact⟨fun e=>R (by simp[e]),hh.parts.2.1⟩
   have ac:∀ y∈Fl,y ∉ c :: Fr:=by
    intro y hy;simp only[Yu,not_or];exact⟨fun e=>R (by simp[<- e,hy]),hh.parts.2.2.2.2.2.1 y hy⟩
   have X:aF.ht (aF.put x r)<=30000:=by have:=aF.nu (aF.put x r);omega
   have W:aF.ht l<=30000:=by have:=aF.nu l;omega
   clear hh hb ae ad s hs sl sr af ep
   go_in
   go_upto_region 3 with fail
   go_region_held3 (fun w'=>w'.cell? (c,0)=U (V Y x.f)/\w'.cell? (c,2)=U (V Y x.n)/\X0 w w w')
    (first
     |exact⟨a0,a2,dV _⟩
     |(go_split_ands;exact⟨aR I XD,aR I XD,bM XD I aI⟩))
    (first
     |(go_at_call 263;go_split_ands;refine aK (CM _ (aH.aD XD)) fun w2 I=>?_))
   have hB:X0 w w w2:=by go_split_ands;assumption
   have D:=HH w2 hB;have c6:=D.c7;have T:=aC hB;have g:=aC D;clear hB D HH CM a0 a2
   go_wp21
   refine (PT _ T).mono ?_;rintro e w3 ⟨u3,F3,rfl,P,K,m⟩;obtain⟨m1,m2,m3⟩:=g.A3 C ac P K m;have d6:=m.cell (o:=7) C c6;have f6:=(m.frozen (o:=7) C g.n.lt).trans (g.n.fz 7);have aa:=aC (Yz m1 (Yz m2 m3));clear m1 m2 m3 P K m c6 PT g
   go_wp21
   refine (uz _ b y l (aF.put x r) _ _ _ _ aa.1 W X).mono ?_;rintro e w4 ⟨u4,F4,rfl,P,K,m⟩
   have HK:Hid (vl w (c :: (b :: (Fl++Fr))) (aF.gL y l (aF.put x r)) (Yg u4) w4):=by
    have z1:=T.size;have z2:=aa.2.1;refine⟨u4,F4,rfl,P,fun k Q=>?_,?_⟩
    .have:=z2 k (K k Q);simp only[Yu,Yv] at this ⊢
     grind
    .have o1:aH (c :: (b :: (Fl++Fr))) w _:=(aH.aD T).trans (aa.2.2.mono (by intro k Q;simp only[Yu,Yv] at Q ⊢;grind));refine o1.trans' m (fun k Q=>?_);have:=z2 k Q;simp only[Yu,Yv] at this ⊢
     grind
   clear P K m aa T d6 f6
   go_wp21
   go_ret;exact HK
theorem KG(x:aF.It)(l r:aF.S):aF.size (aF.mv x l r)=aF.size l+aF.size r:=by
 have:=congrArg Y4 (aF.Ez x l r);simp only[Y0,YZ,aF.nS] at this;omega
def CF(w:XY)(F:J M)(x:aF.It)(g:aF.S)(e:Ending)(w':XY):Prop :=
 ∃ (c:M) (u:XM X5) (F':J M),e=Yg (Yc #[c,u])/\gZ w' c x/\dK w' g u F'/\c ∉ F'/\c∈F/\(∀ k∈F',k∈F)/\aH F w w'
theorem WV:∀ (l:aF.S)(x:aF.It)(r:aF.S)(u:XM X5)(F:J M)(w:XY),dK w (.node x l r) u F->aF.size l<=10000->aF.size r<=10000 ->
  X4 prog 307 #[u] w (CF w F (aF.po x l r) (aF.mv x l r)):=by
 intro l
 induction l with
 |nil =>
  intro x r u F w h _ _;obtain⟨b,pl,pr,Fl,Fr,rfl,rfl,g,_,_⟩:=h.half;obtain⟨hp,rfl⟩:=g.l
  cases hp
  have c6:=g.c6;have c7:=g.c7
  have HK:Hid (CF w (b :: ([]++Fr)) x r (Yg (Yc #[b,pr])) w.drew):=by
   have ho:aH [] w w.drew:=(aH.refl _ _).drew;exact⟨b,pr,Fr,rfl,g.n.off ho XA,g.r.same ho,g.parts.2.1,by simp,fun k t=>by simp[t],(aH.refl _ _).drew⟩
  clear h g
  go_in
  go_wp21
  go_region_held3 (fun w'=>w'.cell? (b,7)=U ↑pr) (exact c7) (fail)
  go_wp21
  go_ret2;exact HK
 |node y a c ihl _ =>
  intro x r u F w h ab aa;have IH:=aC ihl;clear ihl;obtain⟨b,pl,pr,Fl,Fr,rfl,rfl,g,_,_⟩:=h.half;have es:aF.size (.node y a c)=1+aF.size a+aF.size c:=rfl;have TK:=aC (IH y c pl Fl w g.l O O);obtain⟨bl,pa,pb,Fa,Fb,rfl,ac,_,_,_⟩:=g.l.half;clear ac;have c6:=g.c6;have e1:=KG y a c;have e2:=aF.nu (aF.mv y a c);have e3:=aF.nu r;have g1:aF.ht (aF.mv y a c)<=30000:=O
  have g2:aF.ht r<=30000:=O
  have C:=aC g;have eF:aF.po x (.node y a c) r=aF.po y a c:=rfl;have eR:aF.mv x (.node y a c) r=aF.gL x (aF.mv y a c) r:=rfl;rw[eF,eR];generalize aF.po y a c=fx at *;generalize aF.mv y a c=tx at *;clear h g es e1 e2 e3 IH ab aa eF eR
  go_in
  go_wp21
  refine TK.mono ?_;rintro e w1 ⟨z,u1,F1,rfl,t1,t2,P,D,K,I⟩;obtain⟨T,m2,R⟩:=C.s9 t2 (fun k t=>.inl (K k t)) I;have d6:=I.cell (o:=6) C.parts.1 c6;have f6:=(I.frozen (o:=6) C.parts.1 C.n.lt).trans (C.n.fz 6);have m:z≠b:=by rintro rfl;exact C.parts.1 D
  have s:z ∉ Fr:=fun e=>C.parts.2.2.2.2.1 z e D
  have Q:gZ (w1.setCell (b,6) u1) z fx:=t1.off (aH.bD ..) (by simpa using m);have ad:=aC (Yz T (Yz R (Yz Q (Yz P (Yz D (Yz K (Yz m s)))))));clear T m2 R Q t1 t2 P D K I m s TK c6
  go_wp21
  refine (uz _ b x tx r _ _ _ _ ad.1 g1 g2).mono ?_;rintro e w4 ⟨u4,F4,rfl,k1,X,W⟩
  have HK:Hid (CF w (b :: (Fl++Fr)) fx (aF.gL x tx r) (Yg (Yc #[z,u4])) w4):=by
   obtain⟨T,R,Q,P,D,K,m,s⟩:=ad;have hn:z ∉ b :: (F1++Fr):=by simp only[Yu,Yv,not_or];exact⟨m,P,s⟩
   refine⟨z,u4,F4,rfl,Q.off W hn,k1,fun e=>hn (X _ e),by simp[D],fun k t=>?_,R.trans' W (fun k t=>?_)⟩
   .have:=X k t;simp only[Yu,Yv] at this ⊢
    grind
   .simp only[Yu,Yv] at t ⊢
    grind
  clear k1 X W ad d6 f6
  go_wp21
  go_ret2;exact HK
theorem UX(l:aF.S)(u:XM X5)(F:J M)(w:XY)(h:dK w l u F):
  X4 prog 297 #[u,X8 Z] w (mA w F l):=by
 go_in
 go_wp21
 go_ret;exact⟨u,F,rfl,h,fun _ c=>c,aH.refl _ _⟩
theorem UW(l r:aF.S)(pl pr:XM X5)(Fl Fr:J M)(w:XY)(hl:dK w l pl Fl)(K:dK w r pr Fr)(hd:∀ k∈Fl,k ∉ Fr)(X:aF.size l<=10000)(W:aF.size r<=10000):
  X4 prog 297 #[pl,pr] w (mA w (Fl++Fr) (aF.mu l r)):=by
 cases r with
 |nil =>
  obtain⟨hp,rfl⟩:=K
  cases hp
  rw[List.append_nil];exact UX l pl Fl w hl
 |node y a c =>
  have es:aF.size (.node y a c)=1+aF.size a+aF.size c:=rfl;have TK:=aC (WV a y c pr Fr w K O O);obtain⟨br,pa,pb,Fa,Fb,rfl,aa,_,_,_⟩:=K.half;clear aa;have e1:=KG y a c;have e2:=aF.nu (aF.mv y a c);have e3:=aF.nu l;have g1:aF.ht (aF.mv y a c)<=30000:=O
  have g2:aF.ht l<=30000:=O
  have eR:aF.mu l (.node y a c)=aF.gL (aF.po y a c) l (aF.mv y a c):=rfl;rw[eR];generalize aF.po y a c=fx at *;generalize aF.mv y a c=tx at *;have HL:=aC hl;have P:=aC hd;clear hl K hd es e1 e2 e3 eR X W
  go_in
  go_wp21
  refine TK.mono ?_;rintro e w1 ⟨h,u1,F1,rfl,z,T,R,x,D,Q⟩;have t:=HL.off Q P;have s:h ∉ Fl:=fun e=>P h e x
  have C:∀ k∈Fl,k ∉ F1:=fun k g e=>P k g (D k e)
  obtain⟨y6,d6⟩:=z.c6;obtain⟨y7,d7⟩:=z.c7;have f6:=z.fz 6;have f7:=z.fz 7;have nd:(h :: (Fl++F1)).Nodup:=Yx.2 ⟨by simp only[Yv,not_or];exact⟨s,R⟩,YC.2 ⟨t.nodup,T.nodup,fun p hp q hq e=>C p hp (e ▸ hq)⟩⟩
  have h1:cW ((w1.setCell (h,6) pl).setCell (h,7) u1) h fx l tx pl u1 Fl F1 :=
   cW.jR (z.uN pl) (zm _ _ _ d6) (t.off (aH.bD ..) (fun k g=>by simp;rintro rfl;exact s g)) (T.off (aH.bD ..) (fun k g=>by simp;rintro rfl;exact R g)) nd
  have I:aH (Fl++Fr) w ((w1.setCell (h,6) pl).setCell (h,7) u1) :=
   ((Q.mono (by intro k g;simp[g])).setCell (.inl (by simp[x])) _ _).setCell (.inl (by simp[x])) _ _
  have ab:=aC (Yz h1 (Yz I (Yz x D)));clear h1 I z T R x D Q nd C s t TK HL P
  go_wp21
  refine (uz _ h fx l tx _ _ _ _ ab.1 g2 g1).mono ?_;rintro e w4 ⟨u4,F4,rfl,k1,k2,k3⟩
  have HK:Hid (mA w (Fl++Fr) (aF.gL fx l tx) (Yg u4) w4):=by
   obtain⟨h1,I,x,D⟩:=ab
   have m:∀ k∈h :: (Fl++F1),k∈Fl++Fr:=by
    intro k g;simp only[Yu,Yv] at g ⊢
    grind
   exact⟨u4,F4,rfl,k1,fun k g=>m k (k2 k g),I.trans' k3 (fun k g=>.inl (m k g))⟩
  clear k1 k2 k3 ab d6 d7 f6 f7
  go_wp21
  go_ret;exact HK
theorem Wq(l r:aF.S):aF.size (aF.mu l r)=aF.size l+aF.size r:=by
 have:=congrArg Y4 (aF.Lt l r);simp only[YZ,aF.nS] at this;omega
theorem JH(x:aF.It)(l r:aF.S):aF.size (aF.gL x l r)=1+aF.size l+aF.size r:=by
 have:=congrArg Y4 (aF.ou x l r);simp only[YZ,Y0,aF.nS] at this;omega
theorem xT(f n:N):∀ t:aF.S,aF.size (aF.drop f n t)<=aF.size t
 |.nil=>by simp[aF.drop]
 |.node y l r=>by
  have g:=xT f n l;have c:=xT f n r;rw[aF.drop]
  split
  .rw[JH];simp only[aF.size];omega
  .split
   .rw[JH];simp only[aF.size];omega
   .rw[Wq];simp only[aF.size];omega
theorem Sb(f n:N):∀ (t:aF.S)(u:XM X5)(F:J M)(w:XY),dK w t u F->aF.size t<=10000 ->
  X4 prog 280 #[u,f,n] w (mA w F (aF.drop f n t)):=by
 intro t
 induction t with
 |nil =>
  intro u F w h _;obtain⟨hu,rfl⟩:=h
  cases hu
  go_in
  go_wp21
  go_ret;exact⟨Z,[],rfl,⟨rfl,rfl⟩,fun _ c=>c,aH.refl _ _⟩
 |node y l r ihl ihr =>
  intro u F w h ac;have aa:=aC ihl;have X:=aC ihr;clear ihl ihr;obtain⟨b,pl,pr,Fl,Fr,rfl,rfl,D,_,_⟩:=h.half;have hs:aF.size (.node y l r)=1+aF.size l+aF.size r:=rfl;have sl:=xT f n l;have sr:=xT f n r;have CM:=aC (fun w' k'=>Lm b y f n w' (D.n.off (G:=[]) k' XA));have HH:=aC (fun w2 (kb:X0 w w w2)=>D.same (aH.aD kb))
  by_cases a:aF.side f n y<0
  .have ep:aF.drop f n (.node y l r)=aF.gL y (aF.drop f n l) r:=by rw[aF.drop,XS a]
   rw[ep];have DR:=aC (fun w2 (kb:X0 w w w2)=>aa pl Fl w2 (D.l.later kb) O);have Q:b ∉ Fl:=D.parts.1;have P:aF.ht (aF.drop f n l)<=30000:=by have:=aF.nu (aF.drop f n l);omega
   have K:aF.ht r<=30000:=by have:=aF.nu r;omega
   clear D h aa X hs sl sr ep
   go_in
   go_wp21
   refine aK (CM _ (aH.refl _ _)) fun w2 I=>?_;have z:=HH w2 I;have W:=z.c6;have R:=aC I;have m:=aC z;clear I z HH CM
   go_wp21
   refine (DR _ R).mono ?_;rintro e w3 ⟨u3,F3,rfl,C,x,g⟩;obtain⟨m1,m2,T⟩:=m.s9 C (fun k c=>.inl (x k c)) g;have d6:=g.cell (o:=6) Q W;have f6:=(g.frozen (o:=6) Q m.n.lt).trans (m.n.fz 6);have ab:=aC (Yz m1 (Yz x T));clear m1 m2 T C x g W DR m
   go_wp21
   refine (uz _ b y (aF.drop f n l) r _ _ _ _ ab.1 P K).mono ?_;rintro e w4 ⟨u4,F4,rfl,C,x,g⟩
   have HK:Hid (mA w (b :: (Fl++Fr)) (aF.gL y (aF.drop f n l) r) (Yg u4) w4):=by
    obtain⟨m1,m2,T⟩:=ab
    have s:∀ k∈b :: (F3++Fr),k∈b :: (Fl++Fr):=by
     intro k c;simp only[Yu,Yv] at c ⊢
     grind
    exact⟨u4,F4,rfl,C,fun k c=>s k (x k c),((aH.aD R).trans T).trans' g (fun k c=>.inl (s k c))⟩
   clear C x g ab R d6 f6
   go_wp21
   go_ret;exact HK
  .by_cases a2:0<aF.side f n y
   .have ep:aF.drop f n (.node y l r)=aF.gL y l (aF.drop f n r):=by rw[aF.drop,XR a,XS a2]
    rw[ep];have DR:=aC (fun w2 (kb:X0 w w w2)=>X pr Fr w2 (D.r.later kb) O);have Q:b ∉ Fr:=D.parts.2.1;have P:aF.ht (aF.drop f n r)<=30000:=by have:=aF.nu (aF.drop f n r);omega
    have K:aF.ht l<=30000:=by have:=aF.nu l;omega
    clear D h aa X hs sl sr ep
    go_in
    go_wp21
    refine aK (CM _ (aH.refl _ _)) fun w2 I=>?_;have z:=HH w2 I;have W:=z.c7;have R:=aC I;have m:=aC z;clear I z HH CM
    go_wp21
    refine (DR _ R).mono ?_;rintro e w3 ⟨u3,F3,rfl,C,x,g⟩;obtain⟨m1,m2,T⟩:=m.vM C (fun k c=>.inl (x k c)) g;have d6:=g.cell (o:=7) Q W;have f6:=(g.frozen (o:=7) Q m.n.lt).trans (m.n.fz 7);have ab:=aC (Yz m1 (Yz x T));clear m1 m2 T C x g W DR m
    go_wp21
    refine (uz _ b y l (aF.drop f n r) _ _ _ _ ab.1 K P).mono ?_;rintro e w4 ⟨u4,F4,rfl,C,x,g⟩
    have HK:Hid (mA w (b :: (Fl++Fr)) (aF.gL y l (aF.drop f n r)) (Yg u4) w4):=by
     obtain⟨m1,m2,T⟩:=ab
     have s:∀ k∈b :: (Fl++F3),k∈b :: (Fl++Fr):=by
      intro k c;simp only[Yu,Yv] at c ⊢
      grind
     exact⟨u4,F4,rfl,C,fun k c=>s k (x k c),((aH.aD R).trans T).trans' g (fun k c=>.inl (s k c))⟩
    clear C x g ab R d6 f6
    go_wp21
    go_ret;exact HK
   .have ep:aF.drop f n (.node y l r)=aF.mu l r:=by rw[aF.drop,XR a,XR a2]
    rw[ep];have JN:=aC (fun w2 (kb:X0 w w w2)=>UW l r pl pr Fl Fr w2 (D.l.later kb) (D.r.later kb) D.parts.2.2.2.2.2.1 O O)
    have NB:Hid (b ∉ Fl++Fr):=by
     have h1:=D.parts.1;have h2:=D.parts.2.1;show b ∉ Fl++Fr;simp only[Yv,not_or];exact⟨h1,h2⟩
    clear D h aa X hs sl sr ep
    go_in
    go_wp21
    refine aK (CM _ (aH.refl _ _)) fun w2 I=>?_;have W:=(HH w2 I).c6;have c7:=(HH w2 I).c7;have R:=aC I;clear I CM HH
    go_upto_region 4 with fail
    go_region_held3 (fun w'=>w'.cell? (b,6)=U ↑pl/\w'.cell? (b,7)=U ↑pr)
     (first
      |exact⟨W,c7⟩
      |exact⟨k9,k8⟩)
     (first
      |(go_at_call 297;refine (JN _ (bM R (dV _) aI)).mono ?_;rintro e w3 ⟨u3,F3,rfl,C,x,g⟩;have k9:=g.cell (o:=6) NB W;have k8:=g.cell (o:=7) NB c7))
    have HK:Hid (mA w (b :: (Fl++Fr)) (aF.mu l r) (Yg u3) w3) :=
     ⟨u3,F3,rfl,C,fun k c=>by have:=x k c;simp only[Yu];exact .inr this,(aH.aD (F:=b :: (Fl++Fr)) R).trans ((aH.refl (b :: (Fl++Fr)) w2).drew.trans (g.mono (fun k c=>by simp only[Yu];exact .inr c)))⟩
    clear C x g k8 k9 R JN W c7
    go_wp21
    go_ret;exact HK
def rn(w:XY)(tb o:M)(F:J M)(h:aF.S)(w':XY):Prop :=
 ∃ (g:XM X5) (F':J M),w'.cell? ⟨tb,o,Z⟩=U (X8 g)/\dK w' h (X8 g) F'/\(∀ k∈F',k∈F\/w.heap.size<=k)/\aH (tb :: F) w w'/\(∀ c,c≠o->w'.cell? ⟨tb,c,Z⟩=w.cell? ⟨tb,c,Z⟩)/\∀ c,w'.frozen? ⟨tb,c,Z⟩=w.frozen? ⟨tb,c,Z⟩
theorem JO{w5:XY}{F5:J M}{t:aF.S}{u5:XM X5}(s:X0 w w w4)(l:tb<w)(R:tb ∉ F)(r:∀ k∈G,k∈F\/w<=k)(Q:dK w5 t u5 F5)(z:∀ k∈F5,k∈G\/w4<=k)(y:aH G w4 w5)(D:w5.cell? (tb,o)=U v):rn w tb o F t (w5.setCell (tb,o) u5):=by
 have W:=s.size;have K:aH [] w w4:=aH.aD s;have c:tb ∉ G:=fun e=>by rcases r tb e with h|h;exact R h;omega
 have m:tb ∉ F5:=fun e=>by rcases z tb e with h|h;exact c h;omega
 have C:w5.heap[tb]?=w.heap[tb]?:=(y.block tb O c).trans (K.block tb l XA);refine⟨u5,F5,World.cell?_setCell_same _ _ _ D,Q.off (aH.bD ..) (fun x g=>by simp;rintro rfl;exact m g),fun k T=>?_,?_,fun P X=>?_,fun P=>?_⟩
 .rcases z k T with h|h
  .exact r k h
  .exact .inr O
 .have I:aH (tb :: F) w w5:=(aH.aD (F:=tb :: F) s).trans' y (fun x g=>by rcases r x g with h|h;exact .inl (by simp[h]);exact .inr h);exact I.setCell (.inl XA) _ _
 .exact (aZ XA).trans (zo (w:=w) C)
 .refine (zF ..).trans ?_;simp only[World.frozen?,C]
theorem Up(w:XY)(f t n:N)(v:M):cW (w.alloc (Yh #[f,t,n,v,V Y 0,V Y 0,X8 Z,X8 Z] 304)) w ⟨f,t,n,v⟩ .nil .nil Z Z [] [] :=
 ⟨⟨by simp,by simp,by simp,by simp,⟨0,by simp⟩,⟨0,by simp⟩,⟨Z,by simp⟩,⟨Z,by simp⟩,fun o=>World.frozen?_alloc_new w _ _ o⟩,by simp,by simp,⟨rfl,rfl⟩,⟨rfl,rfl⟩,by simp⟩
theorem Rr(t:aF.S)(tb o:M)(u:XM X5)(F:J M)(x:aF.It)(w:XY)(c:w.cell? (tb,o)=U ↑u)(fz:w.frozen? (tb,o)=XW)(R:tb ∉ F)(h:dK w t u F)(X:aF.size t<=10000)(l:∀ z∈aF.cH t,¬ (z.f=x.f/\z.n=x.n)):
  X4 prog 159 #[X8 (U ⟨tb,o,Z⟩),V Y x.f,x.t,V Y x.n,x.v] w fun e w'=>e=Yg (Yc #[])/\rn w tb o F (aF.put x t) w':=by
 have m:=Yl _ _ c;have g:=h.lt;have s:X0 w.heap.size w (w.alloc (Yh #[V Y x.f,V Y x.t,V Y x.n,X8 (U ⟨x.v,0,Z⟩),V Y 0,V Y 0,X8 Z,X8 Z] 304)):=bC;have T:=aC (RO x t u F w.heap.size _ (h.later s) (Up w x.f x.t x.n x.v) (fun e=>by have:=g _ e;omega) X l);have W:=aC s;have K:=aR s c;have I:(w.alloc (Yh #[V Y x.f,V Y x.t,V Y x.n,X8 (U ⟨x.v,0,Z⟩),V Y 0,V Y 0,X8 Z,X8 Z] 304)).frozen? ⟨tb,o,Z⟩=XW:=((aH.aD (F:=[]) s).frozen XA m).trans fz;have r:tb ∉ w.heap.size :: F:=by simp only[Yu,not_or];exact⟨by simp at m;omega,R⟩
 have C:=aC (Yz K I);have HF:Hid (∀ k∈F,k<w):=g;clear h s g K I l
 go_in
 go_wp21
 refine T.mono ?_;rintro e w3 ⟨u3,F3,rfl,Q,P,y⟩;have d:=y.cell r C.1;have f':=(y.frozen (o:=o) r (Yl _ _ C.1)).trans C.2;have HK:=aC (JO W m R (fun k D=>by rcases Yu.1 D with rfl|D;exact .inr aI;exact .inl D) Q P y d);clear Q P y C W T
 go_wp21
 go_end0
 exact⟨rfl,HK⟩
theorem Ss(t:aF.S)(tb o:M)(u:XM X5)(F:J M)(f n:N)(w:XY)(c:w.cell? (tb,o)=U ↑u)(C:w.frozen? (tb,o)=XW)(m:tb ∉ F)(h:dK w t u F)(z:aF.size t<=10000):
  X4 prog 253 #[X8 (U ⟨tb,o,Z⟩),f,n] w fun e w'=>e=Yg (Yc #[])/\rn w tb o F (aF.drop f n t) w':=by
 have g:=Yl _ _ c;have y:=aC (Sb f n t u F w h z);clear h
 go_in
 go_wp21
 refine y.mono ?_;rintro e w3 ⟨u3,K,rfl,x,s,l⟩;have d:=l.cell m c;have I:=(l.frozen (o:=o) m g).trans C;have D:=aC (JO fo g m (fun k r=>.inl r) x (fun k r=>.inl (s k r)) l d);clear x s l y
 go_wp21
 go_end0
 exact⟨rfl,D⟩
def kh(A:J XN->N):aJ.T:=aJ.canon 20 A 0 1048320
def gF:J (N × N)->J XN->N
 |[],_=>0
 |s :: r,p=>aJ.ir 0 1048320 s.1 s.2 p+gF r p
def cS(A:J XN->N)(L:J (N × N))(x:N)(p:J XN):N:=A p+x*gF L p
theorem KB(L c:J (N × N))(p:J XN):gF (L++c) p=gF L p+gF c p:=by
 induction L with
 |nil=>simp[gF]
 |cons s r ih=>simp only[YH,gF,ih];omega
theorem wZ(L:J (N × N))(p:J XN):0<=gF L p/\gF L p<=L.length:=by
 induction L with
 |nil=>simp[gF]
 |cons s r ih =>
  have:=aJ.Cz p 0 1048320 s.1 s.2;simp only[gF,Y0];omega
theorem I7(A:J XN->N)(x:N):cS A [] x=A:=by funext p;simp[cS,gF]
theorem J7(A:J XN->N)(L:J (N × N))(s:N × N)(x:N):cS A (L++[s]) x=fun p=>cS A L x p+x*aJ.ir 0 1048320 s.1 s.2 p:=by
 funext p;simp only[cS,KB,gF,Int.add_zero,Y5];omega
theorem Tc(A:J XN->N)(a b x:N)(h:a<b):aJ.gP 20 (kh A) 0 1048320 a b x=kh (fun p=>A p+x*aJ.ir 0 1048320 a b p) :=
 aJ.U9 20 A 0 1048320 a b x O XC h
theorem Cr{a:N}{l r:aJ.T}(m:-1000000<=a/\a<=1000000)(k:LB l)(h:LB r)(g:-100000000<=a+max (aJ.top l) (aJ.top r)/\a+max (aJ.top l) (aJ.top r)<=100000000)(c:-100000000<=a+min (aJ.bot l) (aJ.bot r)/\a+min (aJ.bot l) (aJ.bot r)<=100000000):LB (aJ.mk a l r):=by
 unfold aJ.mk;split
 .trivial
 .exact⟨m,g,c,k,h⟩
theorem CR(a:N)(l r:aJ.T):aJ.top (aJ.mk a l r)=a+max (aJ.top l) (aJ.top r)/\aJ.bot (aJ.mk a l r)=a+min (aJ.bot l) (aJ.bot r):=by
 unfold aJ.mk;split
 .rename_i h
  rw[aJ.sR h.2.1,aJ.sR h.2.2,h.1];simp[aJ.top,aJ.bot]
 .exact⟨rfl,rfl⟩
theorem Sx:∀ (n:M)(A:J XN->N)(c g:N),(∀ p,0<=A p/\A p<=1000000)->n<=50->LB (aJ.canon n A c g)/\(0<=aJ.top (aJ.canon n A c g)/\aJ.top (aJ.canon n A c g)<=1000000*(n+1))/\(0<=aJ.bot (aJ.canon n A c g)/\aJ.bot (aJ.canon n A c g)<=1000000*(n+1)):=by
 intro n
 induction n with
 |zero =>
  intro A c g h _;have k:=h [];simp only[aJ.canon];have e:=CR (A []) .nil .nil;simp only[aJ.top,aJ.bot] at e;rw[e.1,e.2];refine⟨Cr O trivial trivial ?_ ?_,?_,?_⟩ <;> simp[aJ.top,aJ.bot] <;> omega
 |succ n ih =>
  intro A c g h l;have k:=h [];simp only[aJ.canon]
  split
  .have e:=CR (A []) .nil .nil;simp only[aJ.top,aJ.bot] at e;rw[e.1,e.2];refine⟨Cr O trivial trivial ?_ ?_,?_,?_⟩ <;> simp[aJ.top,aJ.bot] <;> omega
  .let⟨b1,b2,b3⟩:=ih (fun p=>A (XW :: p)) c (aJ.aY c g) (fun p=>h _) O;let⟨b4,b5,b6⟩:=ih (fun p=>A (XX :: p)) (aJ.aY c g) g (fun p=>h _) O;have e:=CR (A []) (aJ.canon n (fun p=>A (XW :: p)) c (aJ.aY c g)) (aJ.canon n (fun p=>A (XX :: p)) (aJ.aY c g) g);rw[e.1,e.2];exact⟨Cr O b1 b4 O O,O,O⟩
theorem xp(h:∀ p,0<=A p/\A p<=1000000):LB (kh A):=(Sx 20 A 0 1048320 h O).1
theorem Aj(h:∀ p,0<=A p):aJ.Good (kh A) 0 1048320:=aJ.Vf 20 A 0 1048320 h
def pS(A:J XN->N)(x:N):N:=aJ.eD (kh A) 0 1048320 x
theorem Lc(A:J XN->N)(L:J (N × N))(u x:N)(C:0<=x)(y:x<1048320)(r:∀ s∈L,s.1<s.2):pS (cS A L u) x=pS A x+u*((L.filter fun s=>decide (s.1<=x) && decide (x<s.2)).length:N):=by
 have k:∀ (n:M) (c:J (N × N)),c.length=n->(∀ s∈c,s.1<s.2)->pS (cS A c u) x=pS A x+u*((c.filter fun s=>decide (s.1<=x) && decide (x<s.2)).length:N):=by
  intro n
  induction n with
  |zero =>
   intro c h _;rw[Y6.1 h,I7];simp
  |succ n ih =>
   intro c h l;obtain⟨K,s,rfl⟩:∃ K s,c=K++[s]:=⟨c.dropLast,c.getLast (by intro e;simp[e] at h),(List.dropLast_concat_getLast _).symm⟩;have t:K.length=n:=by simpa using h
   rw[J7];have e:=aJ.Xa 20 (cS A K u) 0 1048320 s.1 s.2 u x C y XC (l s XA);have D:pS (fun p=>cS A K u p+u*aJ.ir 0 1048320 s.1 s.2 p) x=pS (cS A K u) x+if s.1<=x/\x<s.2 then u else 0:=e
   rw[D,ih K t (fun z m=>l z (by simp[m])),YJ]
   by_cases g:s.1<=x/\x<s.2
   .rw[XS g];have:([s].filter fun s=>decide (s.1<=x) && decide (x<s.2))=[s]:=by simp[g.1,g.2]
    rw[this];simp only[YZ,Y0,Y7];rw[show ((((K.filter fun s=>decide (s.1<=x) && decide (x<s.2)).length+(0+1):M)):N)=((K.filter fun s=>decide (s.1<=x) && decide (x<s.2)).length:N)+1 from by omega,Y5];omega
   .rw[XR g];have:([s].filter fun s=>decide (s.1<=x) && decide (x<s.2))=[]:=by simp;omega
    rw[this];simp
 exact k L.length L rfl r
structure TH(w:XY)(tb:M)(name:XK)(aM:N)(A:J XN->N)(T:aF.S)(ul us:XM X5)(Fl Fs:J M):Prop where
 c0:w.cell? (tb,0)=U ↑name
 c1:w.cell? (tb,1)=U ↑aM
 c2:w.cell? (tb,2)=U ↑ul
 c3:w.cell? (tb,3)=U ↑us
 fz:∀ o,w.frozen? ⟨tb,o,Z⟩=XW
 lv:dO w (kh A) ul Fl
 sp:dK w T us Fs
 nl:tb ∉ Fl
 ns:tb ∉ Fs
 dj:∀ k∈Fl,k ∉ Fs
theorem TH.lt{aM:N}{T:aF.S}(h:TH w tb name aM A T ul us Fl Fs):∀ k∈tb :: (Fl++Fs),k<w:=by
 intro k c;rcases Yu.1 c with rfl|c
 .exact Yl _ _ h.c0
 .rcases Yv.1 c with c|c
  .exact h.lv.lt k c
  .exact h.sp.lt k c
theorem TH.off{aM:N}{T:aF.S}(h:TH w tb name aM A T ul us Fl Fs)(k:aH G w w')(l:∀ x∈tb :: (Fl++Fs),x ∉ G):TH w' tb name aM A T ul us Fl Fs:=by
 have c:=l tb XA;exact⟨k.cell c h.c0,k.cell c h.c1,k.cell c h.c2,k.cell c h.c3,fun o=>(k.frozen c (h.lt tb XA)).trans (h.fz o),h.lv.off k (fun x g=>l x (by simp[g])),h.sp.off k (fun x g=>l x (by simp[g])),h.nl,h.ns,h.dj⟩
theorem TH.same{aM:N}{T:aF.S}(h:TH w tb name aM A T ul us Fl Fs)(k:aH [] w w'):TH w' tb name aM A T ul us Fl Fs:=h.off k XA
theorem TH.added{aM:N}{T:aF.S}(h:TH w tb name aM A T ul us Fl Fs)(k:ub w tb 2 Fl (kh A') w'):∃ r l,TH w' tb name aM A' T r us l Fs/\(∀ k∈l,k∈Fl\/w<=k)/\aH (tb :: Fl) w w':=by
 let⟨u',F',k1,k2,k3,k4,k5,k6⟩:=k;have c:=h.lt;refine⟨u',F',⟨(k5 0 O).trans h.c0,(k5 1 O).trans h.c1,k1,(k5 3 O).trans h.c3,fun o=>(k6 o).trans (h.fz o),k2,h.sp.off k4 (fun x m=>?_),fun e=>?_,h.ns,fun x m s=>?_⟩,k3,k4⟩
 .simp only[Yu,not_or];exact⟨fun e=>h.ns (e ▸ m),fun e=>h.dj x e m⟩
 .rcases k3 tb e with g|g
  .exact h.nl g
  .have:=c tb XA;omega
 .rcases k3 x m with g|g
  .exact h.dj x g s
  .have:=c x (by simp[s]);omega
theorem TH.mS{aM:N}{T s:aF.S}(h:TH w tb name aM A T ul us Fl Fs)(k:rn w tb 3 Fs s w'):∃ r m,TH w' tb name aM A s ul r Fl m/\(∀ k∈m,k∈Fs\/w<=k)/\aH (tb :: Fs) w w':=by
 let⟨u',F',k1,k2,k3,k4,k5,k6⟩:=k;have g:=h.lt;refine⟨u',F',⟨(k5 0 O).trans h.c0,(k5 1 O).trans h.c1,(k5 2 O).trans h.c2,k1,fun o=>(k6 o).trans (h.fz o),h.lv.off k4 (fun x c=>?_),k2,h.nl,fun e=>?_,fun x c t=>?_⟩,k3,k4⟩
 .simp only[Yu,not_or];exact⟨fun e=>h.nl (e ▸ c),fun e=>h.dj x c e⟩
 .rcases k3 tb e with l|l
  .exact h.ns l
  .have:=g tb XA;omega
 .rcases k3 x t with l|l
  .exact h.dj x c l
  .have:=g x (by simp[c]);omega
def SL(w:XY)(B:M)(L:J (N × N)):Prop:=∀ (i:M)(h:i<L.length),w.cell? (B,i*2)=U (V Y L[i].1)/\w.cell? (B,i*2+1)=U (V Y L[i].2)
theorem SL.off(h:SL w B L)(k:aH G w w')(g:B ∉ G):SL w' B L:=fun i c=>⟨k.cell g (h i c).1,k.cell g (h i c).2⟩
def pN(L:J (N × N)):Prop:=∀ s∈L,0<=s.1/\s.1<s.2/\s.2<=1048320
theorem Rs{x:N}(h:∀ p,0<=A p/\A p<=500000)(s:∀ p,0<=cS A L x p)(r:-9<=x)(c:x<=9)(y:L.length<=100)(k:M):∀ p,0<=cS A (L.take k) x p/\cS A (L.take k) x p<=1000000:=by
 intro p;have C:=h p;have m:=s p;have e:gF L p=gF (L.take k) p+gF (L.drop k) p:=by rw[<- KB,Y8]
 have g:=wZ (L.take k) p;have t:=wZ (L.drop k) p;have z:((L.take k).length:N)<=100:=by have:=List.length_take_le' k L;omega
 unfold cS at m ⊢;rw[e,Y5] at m;constructor
 .by_cases l:0<=x
  .have:=Y9 l g.1;omega
  .have:x*gF (L.drop k) p<=0:=Za O t.1;omega
 .by_cases l:0<=x
  .have:x*gF (L.take k) p<=9*100:=Zb c O g.1 O;omega
  .have:x*gF (L.take k) p<=0:=Za O g.1;omega
structure uP(w wx:XY)(tb B:M)(name:XK)(aM:N)(A:J XN->N)(T:aF.S)(us:XM X5)(Fl Fs:J M)(L:J (N × N)):Prop where
 th:∃ (ul:XM X5) (Fl':J M),TH wx tb name aM A T ul us Fl' Fs/\∀ k∈Fl',k∈Fl\/w<=k
 off:aH (tb :: Fl) w wx
 sl:SL wx B L
 ok:pN L
 nb:B ∉ tb :: Fl
 lt:B<w
theorem ub.off{c:aJ.T}(h:ub w tb o F c w'):aH (tb :: F) w w':=by
 let⟨_,_,_,_,_,h,_⟩:=h;exact h
theorem uP.step{wr X:XY}{aM:N}{T:aF.S}{Fl':J M}(h:uP w wr tb B name aM A T us Fl Fs L)(g:aH [] wr X)(r:TH X tb name aM A T ul us Fl' Fs)(l:∀ k∈Fl',k∈Fl\/w<=k)(m:ub X tb 2 Fl' (kh A') w4):uP w w4 tb B name aM A' T us Fl Fs L:=by
 let⟨ul2,Fl2,t1,t2,t3⟩:=r.added m;have x:=h.off.size;have t:=g.size
 have s:B ∉ tb :: Fl':=by
  intro e;rcases Yu.1 e with e|e
  .exact h.nb (by simp[e])
  .rcases l B e with e|e
   .exact h.nb (by simp[e])
   .have:=h.lt;omega
 refine⟨⟨ul2,Fl2,t1,fun k c=>?_⟩,(h.off.trans' g XA).trans' t3 (fun k c=>?_),(h.sl.off g XA).off t3 s,h.ok,h.nb,h.lt⟩
 .rcases t2 k c with e|e
  .exact l k e
  .exact .inr O
 .rcases Yu.1 c with rfl|c
  .exact .inl XA
  .rcases l k c with e|e
   .exact .inl (by simp[e])
   .exact .inr e
theorem Uu(tb:M)(name:XK)(aM:N)(A:J XN->N)(T:aF.S)(us:XM X5)(Fs:J M)(L:J (N × N))(x:N)(k:M)(s:k<L.length)(g:∀ (k:M)(p:J XN),0<=cS A (L.take k) x p/\cS A (L.take k) x p<=1000000)(c:0<=L[k].1/\L[k].1<L[k].2/\L[k].2<=1048320)(r:-9<=x)(m:x<=9)(ul:XM X5)(Fl:J M):
  ∀ W,TH W tb name aM (cS A (L.take k) x) T ul us Fl Fs->X4 prog 219 #[X8 (U ⟨tb,2,Z⟩),.agg #[V Y L[k].1,V Y L[k].2],x] W fun e w'=>e=Yg (Yc #[])/\ub W tb 2 Fl (kh (cS A (L.take (k+1)) x)) w':=by
 intro W h
 have e:cS A (L.take (k+1)) x=fun p=>cS A (L.take k) x p+x*aJ.ir 0 1048320 L[k].1 L[k].2 p:=by
  rw[Zc s,J7]
 have l:aJ.gP 20 (kh (cS A (L.take k) x)) 0 1048320 L[k].1 L[k].2 x=kh (cS A (L.take (k+1)) x):=by rw[e];exact Tc _ _ _ _ c.2.1
 rw[<- l];exact Rq _ tb 2 ul Fl _ _ x W h.c2 (h.fz 2) h.nl h.lv c.2.1 O O (xp (g k)) (by rw[l];exact xp (g (k+1)))
theorem SZ(w:XY)(tb B cap:M)(name:XK)(aM:N)(A:J XN->N)(T:aF.S)(ul us:XM X5)(Fl Fs:J M)(L:J (N × N))(x:N)(h:TH w tb name aM A T ul us Fl Fs)(hs:SL w B L)(C:pN L)(hb:B ∉ tb :: Fl)(hB:B<w)(g:∀ p,0<=A p/\A p<=500000)(I:∀ p,0<=cS A L x p)(z:-9<=x)(y:x<=9)(hL:L.length<=100):
  X4 prog 157 #[tb,X9 B L.length cap,x] w fun e w'=>e=Yg (Yc #[])/\(∃ W Fl',TH w' tb name aM (cS A L x) T W us Fl' Fs/\∀ k∈Fl',k∈Fl\/w<=k)/\aH (tb :: Fl) w w':=by
 have aa:=aC (Rs g I z y hL);have h0:uP w w tb B name aM (cS A (L.take 0) x) T us Fl Fs L:=⟨⟨ul,Fl,by rw[List.take_zero,I7];exact h,fun k hk=>.inl hk⟩,aH.refl _ _,hs,C,hb,hB⟩;have H0:=aC h0;clear h hs C hb g I h0 ul
 go_in
 go_wp21
 go_loopw [7,10] (fun _ i wx=>∃ k:M,k<=L.length/\i=V Y k/\uP w wx tb B name aM (cS A (L.take k) x) T us Fl Fs L) (fun _ i _=>L.length-(intOf i).toNat)
 .exact⟨0,Zd _,rfl,H0⟩
 .obtain⟨k,hk,rfl,g⟩:=hrel
  by_cases m:k<L.length
  .have c:=g.sl k m;have r:=aC g;obtain⟨c1,c2⟩:=c;clear g;have hi:(k:N)<(L.length:N):=O
   obtain⟨ul,Fl',hT,l⟩:=r.th;have CA:=aC (Uu tb name aM A T us Fs L x k m aa.out (r.ok L[k] (zg m)) z y ul Fl');have Q:=aC hT;have HS:=aC l;clear hT l
   go_upto_region 3 with fail
   have hX:aH [] wr (wr.alloc (Yh #[V Y L[k].1,V Y L[k].2] 60)):=(aH.refl _ _).alloc _;have t:(wr.alloc (Yh #[V Y L[k].1,V Y L[k].2] 60)).cell? (wr,0)=U (V Y L[k].1):=XA
   have s:(wr.alloc (Yh #[V Y L[k].1,V Y L[k].2] 60)).cell? (wr,1)=U (V Y L[k].2):=XA
   have K:=aC hX;have D:wr.heap.size ∉ tb :: Fl':=fun e=>by have:=Q.lt wr (by simp only[Yu,Yv] at e ⊢;grind);omega
   have R:=aC D;clear hX D c1 c2;generalize (YD wr (Yh #[V Y L[k].1,V Y L[k].2] 60))=X at t s K ⊢;generalize wr=bx at t s R ⊢
   go_region_held3 (fun w'=>w'.cell? (bx,0)=U (V Y L[k].1)/\w'.cell? (bx,1)=U (V Y L[k].2))
    (first
     |exact⟨t,s⟩
     |exact⟨m1,m2⟩)
    (first
     |(go_at_call 219;refine aK (CA _ (Q.same (K.drew))) fun w4 P=>?_;have m1:=P.off.cell (o:=0) R t;have m2:=P.off.cell (o:=1) R s))
   have HK:Hid (uP w w4 tb B name aM (cS A (L.take (k+1)) x) T us Fl Fs L):=r.step (K.drew) (Q.same K.drew) HS P;clear r Q HS CA K R m1 m2 t s P
   go_wp21
   go_roundw
   .exact⟨k+1,O,by go_num,HK⟩
   .simp[intOf];omega
  .have e:L.take k=L:=Ze O;rw[e] at g;have r:=aC g;clear g;have hi:¬ (k:N)<(L.length:N):=O
   go_wp21
   go_end0
   exact⟨rfl,r.th,r.off⟩
def tT(A:J XN->N)(s:N × N):N:=aJ.gu (kh A) 0 1048320 s.1 s.2
def lP(A:J XN->N)(aM:N)(L:J (N × N)):XN:=L.all fun s=>decide (tT A s<=aM)
theorem Dx{s:N × N}(c:∀ p,0<=A p)(k:0<=s.1)(g:s.1<s.2)(h:s.2<=1048320):(∀ x,s.1<=x->x<s.2->pS A x<=tT A s)/\∃ x,s.1<=x/\x<s.2/\pS A x=tT A s:=by
 let⟨_,k1,x,k2,k3,k4,k5,k6⟩:=aJ.Jz (kh A) 0 1048320 s.1 s.2 O g (Aj c) (aJ.nw.2 O);exact⟨fun x a b=>k1 x O O a b,x,k4,k5,k6⟩
theorem JU(w:XY)(tb B cap:M)(name:XK)(aM:N)(A:J XN->N)(T:aF.S)(ul us:XM X5)(Fl Fs:J M)(L:J (N × N))(h:TH w tb name aM A T ul us Fl Fs)(Q:SL w B L)(g:pN L)(I:∀ p,0<=A p/\A p<=1000000)(hL:L.length<=100):
  X4 prog 158 #[tb,X9 B L.length cap] w fun e w'=>e=Yg (lP A aM L)/\X0 w w w':=by
 have CM:=aC (fun (W:XY) (k:X0 w w W) (s:N × N) (h1:s.1<s.2)=>I5 (kh A) tb 2 ul Fl s.1 s.2 W (aR k h.c2) (h.lv.later k) (xp I) (Aj (fun p=>(I p).1)) h1);have HS:=aC Q;have HO:=aC g;have cu:=h.c1;clear h Q g I
 go_in
 go_wp21
 go_loopw [6,9] (fun _ i wx=>∃ k:M,k<=L.length/\i=V Y k/\lP A aM (L.take k)=XX/\X0 w w wx) (fun _ i _=>L.length-(intOf i).toNat)
 .exact⟨0,Zd _,rfl,by simp[lP],Below.refl _ _⟩
 .obtain⟨k,hk,rfl,R,r⟩:=hrel;have K:=aC R;clear R
  by_cases l:k<L.length
  .have c1:=aR r (HS k l).1;have c2:=aR r (HS k l).2;have t:=aR r cu;have hi:(k:N)<(L.length:N):=O
   have HB:=aC r;clear r
   have et:lP A aM (L.take (k+1))=(lP A aM (L.take k) && decide (tT A L[k]<=aM)):=by
    unfold lP;rw[Zc l,Zf];simp
   have ET:=aC et;have g:=HO L[k] (zg l);clear et
   go_upto_region 4 with fail
   have D:X0 wr wr (wr.alloc (Yh #[V Y L[k].1,V Y L[k].2] 60)):=bC;have y:(wr.alloc (Yh #[V Y L[k].1,V Y L[k].2] 60)).cell? (wr,0)=U (V Y L[k].1):=XA
   have x:(wr.alloc (Yh #[V Y L[k].1,V Y L[k].2] 60)).cell? (wr,1)=U (V Y L[k].2):=XA
   have C:=aR D t;have z:=aC (bM HB D aI);clear D c1 c2 t;generalize (YD wr (Yh #[V Y L[k].1,V Y L[k].2] 60))=X at y x C z ⊢;generalize wr=bx at y x ⊢;have P:=aC (fun W k'=>CM W k' L[k] g.2.1);generalize em:aJ.gu (kh A) 0 1048320 L[k].1 L[k].2=m at P;have EM:Hid (tT A L[k]=m):=em;clear em
   by_cases hc:m<=aM
   all_goals
    go_region_held3 (fun w'=>w'.cell? (bx,0)=U (V Y L[k].1)/\w'.cell? (bx,1)=U (V Y L[k].2)/\w'.cell? (tb,1)=U ↑aM/\X0 X X w')
     (first
      |exact⟨y,x,C,dV _⟩
      |(go_split_ands;exact⟨aR c XD,aR c XD,aR c XD,bM XD c aI⟩))
     (first
      |(go_at_call 153;go_split_ands;refine aK (P _ (bM z XD aI)) fun w4 c=>?_))
    have HF:=aC (bM z (by go_split_ands;assumption:X0 X X w4) aI);clear CM P z HB y x C c
    go_wp21
   .go_roundw
    .exact⟨k+1,O,by go_num,by rw[ET,K,EM];simpa using hc,HF⟩
    .simp[intOf];omega
   .go_ret;refine⟨pv ?_,HF⟩;have:lP A aM L=(lP A aM (L.take (k+1)) && lP A aM (L.drop (k+1))):=by unfold lP;rw[<- Zf,Y8]
    rw[this,ET,K,EM];have hd:decide (m<=aM)=XW:=decide_eq_false O;rw[hd];rfl
  .have e:L.take k=L:=Ze O;have hi:¬ (k:N)<(L.length:N):=O
   go_wp21
   go_ret;exact⟨pv (by rw[<- e];exact K.symm),r⟩
structure iE(w:XY)(eb:M)(id:N)(tb:M)(aM:N)(B cap:M)(L:J (N × N)):Prop where
 c0:w.cell? (eb,0)=U ↑id
 c1:w.cell? (eb,2)=U ↑tb
 c2:w.cell? (eb,3)=U ↑aM
 c3:w.cell? (eb,4)=U (X9 B L.length cap)
 sl:SL w B L
 lt:B<w
theorem iE.off{aM:N}(h:iE w eb id tb aM B cap L)(k:aH G w w')(c:eb ∉ G)(g:B ∉ G):iE w' eb id tb aM B cap L :=
 ⟨k.cell c h.c0,k.cell c h.c1,k.cell c h.c2,k.cell c h.c3,h.sl.off k g,Zg h.lt k.size⟩
structure gB(w wx:XY)(tb:M)(name:XK)(aM:N)(A:J XN->N)(T:aF.S)(F:J M):Prop where
 th:∃ (ul us:XM X5) (Fl Fs:J M),TH wx tb name aM A T ul us Fl Fs/\∀ k∈Fl++Fs,k∈F\/w<=k
 off:aH (tb :: F) w wx
theorem gB.later{aM:N}{T:aF.S}(h:gB w wx tb name aM A T F)(k:aH [] wx wy):gB w wy tb name aM A T F:=by
 let⟨ul,us,Fl,Fs,h1,h2⟩:=h.th;exact⟨⟨ul,us,Fl,Fs,h1.same k,h2⟩,h.off.trans' k XA⟩
theorem gB.tV{aM:N}{T:aF.S}(h:gB w wx tb name aM A T F)(m:∀ k∈Fl++Fs,k∈F\/w<=k)(k:∃ l g,TH wy tb name aM A' T l us g Fs/\∀ k∈g,k∈Fl\/wx<=k)(r:aH (tb :: Fl) wx wy):gB w wy tb name aM A' T F:=by
 let⟨l,g,t1,t2⟩:=k;have z:=h.off.size;refine⟨⟨l,us,g,Fs,t1,fun k c=>?_⟩,h.off.trans' r (fun k c=>?_)⟩
 .rcases Yv.1 c with c|c
  .rcases t2 k c with e|e
   .exact m k (by simp[e])
   .exact .inr O
  .exact m k (by simp[c])
 .rcases Yu.1 c with rfl|c
  .exact .inl XA
  .rcases m k (by simp[c]) with e|e
   .exact .inl (by simp[e])
   .exact .inr e
theorem gB.mS{aM:N}{T l:aF.S}(h:gB w wx tb name aM A T F)(m:TH wx tb name aM A T ul us Fl Fs)(g:∀ k∈Fl++Fs,k∈F\/w<=k)(k:rn wx tb 3 Fs l wy):gB w wy tb name aM A l F:=by
 let⟨us',Fs',t1,t2,t3⟩:=m.mS k;have z:=h.off.size;refine⟨⟨ul,us',Fl,Fs',t1,fun k c=>?_⟩,h.off.trans' t3 (fun k c=>?_)⟩
 .rcases Yv.1 c with c|c
  .exact g k (by simp[c])
  .rcases t2 k c with e|e
   .exact g k (by simp[e])
   .exact .inr O
 .rcases Yu.1 c with rfl|c
  .exact .inl XA
  .rcases g k (by simp[c]) with e|e
   .exact .inl (by simp[e])
   .exact .inr e
def kG(id:N)(eb:M)(s:N × N):aF.It:=⟨s.1,s.2,id,eb⟩
def ia(id:N)(eb:M):aF.S->J (N × N)->aF.S
 |T,[]=>T
 |T,s :: r=>ia id eb (aF.put (kG id eb s) T) r
def ku(id:N):aF.S->J (N × N)->aF.S
 |T,[]=>T
 |T,s :: r=>ku id (aF.drop s.1 id T) r
theorem Km(id:N)(eb:M)(s:N × N):∀ (L:J (N × N))(T:aF.S),ia id eb T (L++[s])=aF.put (kG id eb s) (ia id eb T L)
 |[],T=>rfl
 |t :: L,T=>by simp only[YH,ia];exact Km id eb s L _
theorem KU(id:N)(s:N × N):∀ (L:J (N × N))(T:aF.S),ku id T (L++[s])=aF.drop s.1 id (ku id T L)
 |[],T=>rfl
 |t :: L,T=>by simp only[YH,ku];exact KU id s L _
def Ia(id:N)(eb:M):J aF.It->J (N × N)->J aF.It
 |l,[]=>l
 |l,s :: r=>Ia id eb (aF.ins (kG id eb s) l) r
theorem Da(id:N)(eb:M):∀ (L:J (N × N))(T:aF.S),aF.Ord (aF.cH T)->(∀ z∈aF.cH T,z.n=id->∀ s∈L,z.f≠s.1)->(L.map (·.1)).Nodup ->
  aF.Ord (aF.cH (ia id eb T L))/\aF.cH (ia id eb T L)=Ia id eb (aF.cH T) L/\(∀ z,z∈aF.cH (ia id eb T L)↔z∈aF.cH T\/∃ s∈L,z=kG id eb s)/\aF.size (ia id eb T L)=aF.size T+L.length
 |[],T,h,_,_=>⟨h,rfl,fun z=>by simp[ia],by simp[ia]⟩
 |s :: r,T,h,hn,hd=>by
  have l:∀ z∈aF.cH T,¬ (z.f=(kG id eb s).f/\z.n=(kG id eb s).n):=fun z c e=>hn z c e.2 s XA e.1
  have g:=aF.D7 (kG id eb s) T h l;have m:aF.Ord (aF.cH (aF.put (kG id eb s) T)):=by rw[g];exact aF.IU h l
  simp only[List.map_cons,Yx] at hd
  have k:∀ z∈aF.cH (aF.put (kG id eb s) T),z.n=id->∀ t∈r,z.f≠t.1:=by
   intro z c x t ht;rw[g,aF.zY] at c;rcases c with rfl|c
   .intro e;exact hd.1 (Zh.2 ⟨t,ht,e.symm⟩)
   .exact hn z c x t (by simp[ht])
  let⟨k1,k2,k3,k4⟩:=Da id eb r _ m k hd.2;refine⟨k1,by rw[ia,k2,g];rfl,fun z=>?_,?_⟩
  .rw[ia,k3,g,aF.zY];constructor
   .rintro ((h|h)|⟨t,ht,h⟩)
    .exact .inr ⟨s,by simp,h⟩
    .exact .inl h
    .exact .inr ⟨t,by simp[ht],h⟩
   .rintro (h|⟨t,ht,h⟩)
    .exact .inl (.inr h)
    .rcases Yu.1 ht with rfl|ht
     .exact .inl (.inl h)
     .exact .inr ⟨t,ht,h⟩
  .rw[ia,k4,<- aF.nS,<- aF.nS,g,aF.Lb,Y0];omega
theorem Dn(id:N):∀ (L:J (N × N))(T:aF.S),aF.Ord (aF.cH T) ->
  aF.Ord (aF.cH (ku id T L))/\aF.cH (ku id T L)=(aF.cH T).filter (fun z=>L.all fun s=>aF.oi s.1 id z)/\aF.size (ku id T L)<=aF.size T
 |[],T,h=>⟨h,(List.filter_eq_self.2 (fun _ _=>rfl)).symm,Nat.le_refl _⟩
 |s :: r,T,h=>by
  have c:=aF.Ey s.1 id T h;have g:aF.Ord (aF.cH (aF.drop s.1 id T)):=by rw[c];exact aF.Lf _ h
  let⟨k1,k2,k3⟩:=Dn id r _ g;refine⟨k1,?_,Yk k3 (xT _ _ _)⟩;rw[ku,k2,c,List.filter_filter]
  congr 1
  funext z
  simp only[List.all_cons];exact Bool.and_comm _ _
theorem J6(A:J XN->N)(L:J (N × N))(u:N):cS (cS A L u) L (-u)=A:=by
 funext p;unfold cS;rw[Int.neg_mul];omega
structure ze(w:XY)(tb eb B cap:M)(name:XK)(aM:N)(A:J XN->N)(T:aF.S)(F:J M)(id u:N)(L:J (N × N)):Prop where
 th:∃ (ul us:XM X5) (Fl Fs:J M),TH w tb name aM A T ul us Fl Fs/\∀ k∈Fl++Fs,k∈F
 en:iE w eb id tb u B cap L
 ne:eb ∉ tb :: F
 nb:B ∉ tb :: F
 ok:pN L
 bd:∀ p,0<=A p/\A p<=400000
 u1:1<=u
 u2:u<=9
 ll:L.length<=100
structure QF(w wx:XY)(tb eb B cap:M)(name:XK)(aM:N)(A:J XN->N)(T:aF.S)(F:J M)(id u:N)(L:J (N × N)):Prop where
 now:gB w wx tb name aM A T F
 en:iE wx eb id tb u B cap L
theorem gB.pair{aM:N}{T:aF.S}{u:N}(h:gB w wx tb name aM A T F)(c:iE w eb id tb u B cap L)(k:eb ∉ tb :: F)(g:B ∉ tb :: F):QF w wx tb eb B cap name aM A T F id u L:=⟨h,c.off h.off k g⟩
theorem Im{u:N}(h:∀ p,0<=A p/\A p<=400000)(u1:1<=u)(u2:u<=9)(g:L.length<=100):∀ p,0<=cS A L u p/\cS A L u p<=500000:=by
 intro p;have a:=h p;have b:=wZ L p;have c:0<=u*gF L p:=Y9 O b.1;have d:u*gF L p<=9*100:=Zb u2 O b.1 O;unfold cS;omega
theorem zR(w:XY)(tb eb B cap:M)(name:XK)(aM:N)(A z:J XN->N)(T:aF.S)(F:J M)(id u x:N)(L:J (N × N))(y:iE w eb id tb u B cap L)(l:eb ∉ tb :: F)(c:B ∉ tb :: F)(k:pN L)(K:∀ p,0<=A p/\A p<=500000)(r:∀ p,0<=cS A L x p)(h:-9<=x)(g:x<=9)(I:L.length<=100)(P:cS A L x=z)(wx:XY)(m:gB w wx tb name aM A T F):
  X4 prog 157 #[tb,X9 B L.length cap,x] wx fun e w'=>e=Yg (Yc #[])/\gB w w' tb name aM z T F:=by
 let⟨ul,us,Fl,Fs,h1,h2⟩:=m.th;have t:=m.pair y l c
 have D:B ∉ tb :: Fl:=by
  intro e;rcases Yu.1 e with e|e
  .exact c (by simp[e])
  .rcases h2 B (by simp[e]) with e|e
   .exact c (by simp[e])
   .have:=y.lt;omega
 refine aK (SZ wx tb B cap name aM A T ul us Fl Fs L x h1 t.en.sl k D t.en.lt K r h g I) ?_;rintro w' ⟨s,C⟩;rw[P] at s;exact⟨rfl,m.tV h2 s C⟩
theorem Rw(w:XY)(tb eb B cap:M)(name:XK)(aM:N)(A:J XN->N)(T:aF.S)(F:J M)(id u:N)(L:J (N × N))(h:ze w tb eb B cap name aM A T F id u L)(m:lP (cS A L u) aM L=XW):
  X4 prog 104 #[tb,eb] w fun e w'=>e=Yg XW/\gB w w' tb name aM A T F:=by
 have c:=Im h.bd h.u1 h.u2 h.ll;have C1:=aC (zR w tb eb B cap name aM A (cS A L u) T F id u u L h.en h.ne h.nb h.ok (fun p=>⟨(h.bd p).1,by have:=(h.bd p).2;omega⟩) (fun p=>(c p).1) (by have:=h.u1;omega) h.u2 h.ll rfl);have X:=aC (zR w tb eb B cap name aM (cS A L u) A T F id u (-u) L h.en h.ne h.nb h.ok c (fun p=>by rw[J6];exact (h.bd p).1) (by have:=h.u2;omega) (by have:=h.u1;omega) h.ll (J6 A L u))
 have W:Hid (∀ wx,gB w wx tb name aM (cS A L u) T F->X4 prog 158 #[tb,X9 B L.length cap] wx fun e w'=>e=Yg XW/\gB w w' tb name aM (cS A L u) T F):=by
  intro wx l;obtain⟨ul,us,Fl,Fs,t,y⟩:=l.th;refine aK (JU wx tb B cap name aM _ T ul us Fl Fs L t (l.pair h.en h.ne h.nb).en.sl h.ok (fun p=>⟨(c p).1,by have:=(c p).2;omega⟩) h.ll) fun w' hb=>?_;rw[m];exact⟨rfl,l.later (aH.aD hb)⟩
 have P:Hid (∀ wx A',gB w wx tb name aM A' T F->wx.cell? (eb,4)=U (X9 B L.length cap)/\wx.cell? (eb,3)=U ↑u) :=
  fun wx A' l=>⟨(l.pair h.en h.ne h.nb).en.c3,(l.pair h.en h.ne h.nb).en.c2⟩
 have r:gB w w.drew tb name aM A T F:=by
  obtain⟨ul,us,Fl,Fs,t,y⟩:=h.th;exact⟨⟨ul,us,Fl,Fs,t.same (aH.refl _ _).drew,fun k hk=>.inl (y k hk)⟩,(aH.refl _ _).drew⟩
 have K:=aC r;have D:=h.en.c3;have I:=h.en.c2;have u1:=h.u1;have u2:=h.u2;have x:Y.wrap (-u)=-u:=cT O O;clear h c m r
 go_in
 go_upto_region 1 with fail
 go_region_held3 (fun w'=>w'.cell? (eb,4)=U (X9 B L.length cap)/\w'.cell? (eb,3)=U ↑u)
  (first
   |exact⟨D,I⟩
   |exact P _ _ g)
  (first
   |(go_at_call 157;refine aK (C1 _ K) fun w4 g=>?_))
 obtain⟨d3,d2⟩:=P _ _ g;have R:=aC g;clear g C1 K D I
 go_wp21
 refine aK (W _ R) fun w5 s=>?_;obtain⟨z,C⟩:=P _ _ s;have Q:=aC (s.later (aH.refl _ _).drew);have K3:=aC s;clear s W d3 d2
 go_upto_region 3 with fail
 go_region_held3 (fun w'=>w'.cell? (eb,4)=U (X9 B L.length cap)/\w'.cell? (eb,3)=U ↑u)
  (first
   |exact⟨z,C⟩
   |exact P _ _ g)
  (first
   |(go_at_call 157;refine aK (X _ Q) fun w6 g=>?_))
 have K4:=aC g;clear g X R Q K3 z C P
 go_wp21
 go_ret;exact⟨rfl,K4⟩
structure zv(T:aF.S)(id:N)(L:J (N × N)):Prop where
 od:aF.Ord (aF.cH T)
 sz:aF.size T<=9000
 no:∀ z∈aF.cH T,z.n=id->∀ s∈L,z.f≠s.1
 nd:(L.map (·.1)).Nodup
theorem rn.off{c:aF.S}(h:rn w tb o F c w'):aH (tb :: F) w w':=by
 let⟨_,_,_,_,_,h,_⟩:=h;exact h
theorem Tq(tb eb:M)(name:XK)(aM:N)(A:J XN->N)(T:aF.S)(id:N)(L:J (N × N))(g:zv T id L)(R:L.length<=100)(k:M)(C:k<L.length)(ul us:XM X5)(Fl Fs:J M)(wx:XY)(r:TH wx tb name aM A (ia id eb T (L.take k)) ul us Fl Fs):
  X4 prog 159 #[X8 (U ⟨tb,3,Z⟩),V Y L[k].1,V Y L[k].2,id,eb] wx fun e w'=>e=Yg (Yc #[])/\rn wx tb 3 Fs (ia id eb T (L.take (k+1))) w':=by
 have x:((L.take k).map (·.1)).Nodup:=YN ((Zi k L).map _) g.nd;let⟨p1,_,p3,p4⟩:=Da id eb (L.take k) T g.od (fun z h P s t=>g.no z h P s (Zj t)) x;have D:=Zk k L;have y:(L.take k).length<=100:=O
 have e:ia id eb T (L.take (k+1))=aF.put (kG id eb L[k]) (ia id eb T (L.take k)):=by rw[Zc C,Km]
 have h:=g.sz
 have l:∀ z∈aF.cH (ia id eb T (L.take k)),¬ (z.f=(kG id eb L[k]).f/\z.n=(kG id eb L[k]).n):=by
  intro z h ⟨I,Q⟩;rcases (p3 z).1 h with h|⟨s,t,rfl⟩
  .exact g.no z h Q L[k] (zg C) I
  .have W:=g.nd
   have c:(L.take (k+1)).map (·.1)=(L.take k).map (·.1)++[L[k].1]:=by rw[Zc C,Zl];rfl
   have m:((L.take (k+1)).map (·.1)).Nodup:=YN ((Zi (k+1) L).map _) g.nd;rw[c,YC] at m;exact m.2.2 s.1 (Zh.2 ⟨s,t,rfl⟩) L[k].1 XA I
 refine aK (Rr (ia id eb T (L.take k)) tb 3 us Fs (kG id eb L[k]) wx r.c3 (r.fz 3) r.ns r.sp O l) fun w' K=>?_;rw[e];exact⟨rfl,K⟩
theorem Uc(tb:M)(name:XK)(aM:N)(A:J XN->N)(T:aF.S)(id:N)(L:J (N × N))(h:aF.Ord (aF.cH T))(m:aF.size T<=9000)(k:M)(l:k<L.length)(ul us:XM X5)(Fl Fs:J M)(wx:XY)(c:TH wx tb name aM A (ku id T (L.take k)) ul us Fl Fs):
  X4 prog 253 #[X8 (U ⟨tb,3,Z⟩),V Y L[k].1,id] wx fun e w'=>e=Yg (Yc #[])/\rn wx tb 3 Fs (ku id T (L.take (k+1))) w':=by
 let⟨_,_,p3⟩:=Dn id (L.take k) T h;have e:ku id T (L.take (k+1))=aF.drop L[k].1 id (ku id T (L.take k)):=by rw[Zc l,KU]
 refine aK (Ss (ku id T (L.take k)) tb 3 us Fs L[k].1 id wx c.c3 (c.fz 3) c.ns c.sp O) fun w' g=>?_;rw[e];exact⟨rfl,g⟩
theorem S3(w:XY)(tb eb B cap:M)(name:XK)(aM:N)(A:J XN->N)(T:aF.S)(F:J M)(id u:N)(L:J (N × N))(h:ze w tb eb B cap name aM A T F id u L)(hr:zv T id L)(r:lP (cS A L u) aM L=XX):
  X4 prog 104 #[tb,eb] w fun e w'=>e=Yg XX/\gB w w' tb name aM (cS A L u) (ia id eb T L) F:=by
 have c:=Im h.bd h.u1 h.u2 h.ll;have C1:=aC (zR w tb eb B cap name aM A (cS A L u) T F id u u L h.en h.ne h.nb h.ok (fun p=>⟨(h.bd p).1,by have:=(h.bd p).2;omega⟩) (fun p=>(c p).1) (by have:=h.u1;omega) h.u2 h.ll rfl)
 have CH:Hid (∀ wx,gB w wx tb name aM (cS A L u) T F->X4 prog 158 #[tb,X9 B L.length cap] wx fun e w'=>e=Yg XX/\gB w w' tb name aM (cS A L u) T F):=by
  intro wx l;obtain⟨ul,us,Fl,Fs,y,Q⟩:=l.th;refine aK (JU wx tb B cap name aM _ T ul us Fl Fs L y (l.pair h.en h.ne h.nb).en.sl h.ok (fun p=>⟨(c p).1,by have:=(c p).2;omega⟩) h.ll) fun w' hb=>?_;rw[r];exact⟨rfl,l.later (aH.aD hb)⟩
 have P:Hid (∀ wx A' x,gB w wx tb name aM A' x F->iE wx eb id tb u B cap L):=fun wx A' x l=>(l.pair h.en h.ne h.nb).en
 have PC:Hid (∀ wx A' x,gB w wx tb name aM A' x F->wx.cell? (eb,4)=U (X9 B L.length cap)/\wx.cell? (eb,3)=U ↑u):=fun wx A' x l=>⟨(P wx A' x l).c3,(P wx A' x l).c2⟩
 have K:gB w w.drew tb name aM A T F:=by
  obtain⟨ul,us,Fl,Fs,y,Q⟩:=h.th;exact⟨⟨ul,us,Fl,Fs,y.same (aH.refl _ _).drew,fun k hk=>.inl (Q k hk)⟩,(aH.refl _ _).drew⟩
 have N0:=aC K;have CP:=aC (fun k hk ul us Fl Fs wx l=>Tq tb eb name aM (cS A L u) T id L hr h.ll k hk ul us Fl Fs wx l);have c3:=h.en.c3;have c2:=h.en.c2;have ll:=h.ll;have R:=aC (Yz h.ne h.nb);have aa:Hid (eb<w):=Yl _ _ h.en.c0;clear h c r K hr;generalize cS A L u=A1 at *
 go_in
 go_upto_region 1 with fail
 go_region_held3 (fun w'=>w'.cell? (eb,4)=U (X9 B L.length cap)/\w'.cell? (eb,3)=U ↑u)
  (first
   |exact⟨c3,c2⟩
   |exact PC _ _ _ g)
  (first
   |(go_at_call 157;refine aK (C1 _ N0) fun w4 g=>?_))
 obtain⟨d3,d2⟩:=PC _ _ _ g;have K1:=aC g;clear g C1 N0 c3 c2
 go_wp21
 refine aK (CH _ K1) fun w5 k2=>?_;obtain⟨f3,f2⟩:=PC _ _ _ k2;have K3:=aC k2;clear k2 CH d3 d2 K1
 go_wp21
 go_loopw [6,40] (fun _ i wx=>∃ k:M,k<=L.length/\i=V Y k/\gB w wx tb name aM A1 (ia id eb T (L.take k)) F) (fun _ i _=>L.length-(intOf i).toNat)
 .exact⟨0,Zd _,rfl,K3⟩
 .obtain⟨k,hk,rfl,t⟩:=hrel;clear f3 f2
  by_cases s:k<L.length
  .have he:=P _ _ _ t;have c1:=(he.sl k s).1;have c2:=(he.sl k s).2;have c0:=he.c0;have hi:(k:N)<(L.length:N):=O
   obtain⟨ul,us,Fl,Fs,y,Q⟩:=t.th;have HN:=aC t;have H1:=aC y;have H2:=aC Q;clear he t y Q
   go_upto_region 8 with fail
   have hX:aH [] wr (wr.alloc (Yh #[V Y L[k].1,V Y L[k].2] 60)):=(aH.refl _ _).alloc _;have C:(wr.alloc (Yh #[V Y L[k].1,V Y L[k].2] 60)).cell? (wr,0)=U (V Y L[k].1):=XA
   have z:(wr.alloc (Yh #[V Y L[k].1,V Y L[k].2] 60)).cell? (wr,1)=U (V Y L[k].2):=XA
   have x2:=hX.cell XA c0;have NX:=aC (HN.later hX.drew);have TX:=aC (H1.same hX.drew);have PX:=aC (CP k s _ _ _ _ _ TX);have I:wr.heap.size ∉ tb :: Fs:=fun e=>by have:=H1.lt wr (by simp only[Yu,Yv] at e ⊢;grind);omega
   have m:=aC I
   have D:eb ∉ tb :: Fs:=by
    intro e;rcases Yu.1 e with e|e
    .exact R.1 (by simp[e])
    .rcases H2 eb (by simp[e]) with e|e
     .exact R.1 (by simp[e])
     .have:=aa.out;omega
   have W:=aC D;clear hX c0 c1 c2 I D HN;generalize (YD wr (Yh #[V Y L[k].1,V Y L[k].2] 60))=X at C z x2 NX TX PX ⊢;generalize wr=bx at C z m ⊢
   go_region_held3 (fun w'=>w'.cell? (bx,0)=U (V Y L[k].1)/\w'.cell? (bx,1)=U (V Y L[k].2)/\w'.cell? (eb,0)=U ↑id)
    (first
     |exact⟨C,z,x2⟩
     |exact⟨g.off.cell m C,g.off.cell m z,g.off.cell W x2⟩)
    (first
     |(go_at_call 159;refine PX.mono ?_;rintro e w6 ⟨rfl,g⟩))
   have HK:=aC (NX.mS TX H2 g);clear g NX TX PX H1 H2 m W CP PC P C z x2
   go_wp21
   go_roundw
   .exact⟨k+1,O,by go_num,HK⟩
   .simp[intOf];omega
  .have e:L.take k=L:=Ze O;rw[e] at t;have HN:=aC t;have hi:¬ (k:N)<(L.length:N):=O
   clear t
   go_wp21
   go_ret;exact⟨rfl,HN⟩
theorem Wn(w:XY)(tb eb B cap:M)(name:XK)(aM:N)(A:J XN->N)(T:aF.S)(F:J M)(id u:N)(L:J (N × N))(h:ze w tb eb B cap name aM A T F id u L)(ho:aF.Ord (aF.cH T))(hz:aF.size T<=9000)(hA:∀ p,0<=cS A L (-u) p):
  X4 prog 205 #[tb,eb] w fun e w'=>e=Yg (Yc #[])/\gB w w' tb name aM (cS A L (-u)) (ku id T L) F:=by
 have C1:=aC (zR w tb eb B cap name aM A (cS A L (-u)) T F id u (-u) L h.en h.ne h.nb h.ok (fun p=>⟨(h.bd p).1,by have:=(h.bd p).2;omega⟩) hA (by have:=h.u2;omega) (by have:=h.u1;omega) h.ll rfl);have P:Hid (∀ wx A' r,gB w wx tb name aM A' r F->iE wx eb id tb u B cap L):=fun wx A' r s=>(s.pair h.en h.ne h.nb).en
 have PC:Hid (∀ wx A' r,gB w wx tb name aM A' r F->wx.cell? (eb,4)=U (X9 B L.length cap)/\wx.cell? (eb,3)=U ↑u):=fun wx A' r s=>⟨(P wx A' r s).c3,(P wx A' r s).c2⟩
 have C:gB w w.drew tb name aM A T F:=by
  obtain⟨ul,us,Fl,Fs,h1,h2⟩:=h.th;exact⟨⟨ul,us,Fl,Fs,h1.same (aH.refl _ _).drew,fun k R=>.inl (h2 k R)⟩,(aH.refl _ _).drew⟩
 have N0:=aC C;have CP:=aC (fun k R ul us Fl Fs wx s=>Uc tb name aM (cS A L (-u)) T id L ho hz k R ul us Fl Fs wx s);have c3:=h.en.c3;have c2:=h.en.c2;have ll:=h.ll;have u1:=h.u1;have u2:=h.u2;have aa:Y.wrap (-u)=-u:=cT O O;have D:=aC (Yz h.ne h.nb);have K:Hid (eb<w):=Yl _ _ h.en.c0;clear h C ho hz hA;generalize cS A L (-u)=A1 at *
 go_in
 go_upto_region 0 with fail
 go_region_held3 (fun w'=>w'.cell? (eb,4)=U (X9 B L.length cap)/\w'.cell? (eb,3)=U ↑u)
  (first
   |exact⟨c3,c2⟩
   |exact PC _ _ _ c)
  (first
   |(go_at_call 157;refine aK (C1 _ N0) fun w4 c=>?_))
 obtain⟨f3,f2⟩:=PC _ _ _ c;have K3:=aC c;clear c C1 N0 c3 c2
 go_wp21
 go_loopw [5,22] (fun _ i wx=>∃ k:M,k<=L.length/\i=V Y k/\gB w wx tb name aM A1 (ku id T (L.take k)) F) (fun _ i _=>L.length-(intOf i).toNat)
 .exact⟨0,Zd _,rfl,K3⟩
 .obtain⟨k,R,rfl,m⟩:=hrel;clear f3 f2
  by_cases l:k<L.length
  .have W:=P _ _ _ m;have c1:=(W.sl k l).1;have c2:=(W.sl k l).2;have c0:=W.c0;have hi:(k:N)<(L.length:N):=O
   obtain⟨ul,us,Fl,Fs,h1,h2⟩:=m.th;have HN:=aC m;have H1:=aC h1;have H2:=aC h2;clear W m h1 h2
   go_upto_region 4 with fail
   have hX:aH [] wr (wr.alloc (Yh #[V Y L[k].1,V Y L[k].2] 60)):=(aH.refl _ _).alloc _;have x:(wr.alloc (Yh #[V Y L[k].1,V Y L[k].2] 60)).cell? (wr,0)=U (V Y L[k].1):=XA
   have t:(wr.alloc (Yh #[V Y L[k].1,V Y L[k].2] 60)).cell? (wr,1)=U (V Y L[k].2):=XA
   have Q:=hX.cell XA c0;have NX:=aC (HN.later hX.drew);have TX:=aC (H1.same hX.drew);have PX:=aC (CP k l _ _ _ _ _ TX);have z:wr.heap.size ∉ tb :: Fs:=fun e=>by have:=H1.lt wr (by simp only[Yu,Yv] at e ⊢;grind);omega
   have g:=aC z
   have y:eb ∉ tb :: Fs:=by
    intro e;rcases Yu.1 e with e|e
    .exact D.1 (by simp[e])
    .rcases H2 eb (by simp[e]) with e|e
     .exact D.1 (by simp[e])
     .have:=K.out;omega
   have I:=aC y;clear hX c0 c1 c2 z y HN;generalize (YD wr (Yh #[V Y L[k].1,V Y L[k].2] 60))=X at x t Q NX TX PX ⊢;generalize wr=bx at x t g ⊢
   go_region_held3 (fun w'=>w'.cell? (bx,0)=U (V Y L[k].1)/\w'.cell? (bx,1)=U (V Y L[k].2)/\w'.cell? (eb,0)=U ↑id)
    (first
     |exact⟨x,t,Q⟩
     |exact⟨c.off.cell g x,c.off.cell g t,c.off.cell I Q⟩)
    (first
     |(go_at_call 253;refine PX.mono ?_;rintro e w6 ⟨rfl,c⟩))
   have HK:=aC (NX.mS TX H2 c);clear c NX TX PX H1 H2 g I CP PC P x t Q
   go_wp21
   go_roundw
   .exact⟨k+1,O,by go_num,HK⟩
   .simp[intOf];omega
  .have e:L.take k=L:=Ze O;rw[e] at m;have HN:=aC m;have hi:¬ (k:N)<(L.length:N):=O
   clear m
   go_wp21
   go_end0
   exact⟨rfl,HN⟩
namespace Hp
structure Hi where
 t:N
 n:N
 v:M
def ahead(x y:Hi):Prop:=x.t<y.t\/(x.t=y.t/\x.n<y.n)
instance (x y:Hi):Decidable (ahead x y):=by unfold ahead;infer_instance
theorem xP{x y z:Hi}(h:¬ ahead x y)(k:¬ ahead y z):¬ ahead x z:=by unfold ahead at *;omega
theorem CJ{x y:Hi}(h:ahead x y):¬ ahead y x:=by unfold ahead at *;omega
theorem JC(x:Hi):¬ ahead x x:=by unfold ahead;omega
def at_(l:J Hi)(i:M):Hi:=l.getD i ⟨0,0,0⟩
theorem oq{l:J Hi}(h:i<l.length):at_ l i=l[i]:=by simp[at_,Zm,h]
theorem zC{l:J Hi}{x:Hi}:at_ (l.set i x) j=if i=j/\i<l.length then x else at_ l j:=by
 unfold at_ Zm;rw[List.getElem?_set]
 by_cases h:i=j
 .subst h
  by_cases k:i<l.length
  .simp[k]
  .simp[k]
 .simp[h]
def par(i:M):M:=(i-1) / 2
def ok(l:J Hi)(i:M):Prop:=¬ ahead (at_ l i) (at_ l (par i))
def gO(l:J Hi):Prop:=∀ i,0<i->i<l.length->ok l i
def swap(l:J Hi)(i j:M):J Hi:=(l.set i (at_ l j)).set j (at_ l i)
theorem sU{l:J Hi}:(swap l i j).length=l.length:=by simp[swap]
theorem Ae{l:J Hi}(g:i<l.length)(c:j<l.length):(swap l i j).Perm l:=by
 unfold swap;rw[oq g,oq c];exact List.set_set_perm g c
theorem pt{l:J Hi}(m:i<l.length)(h:j<l.length)(k:M):at_ (swap l i j) k=if k=j then at_ l i else if k=i then at_ l j else at_ l k:=by
 unfold swap;rw[zC,zC]
 by_cases g:k=j
 .subst g;rw[XS ⟨rfl,by simpa using h⟩,XS rfl]
 .rw[XR (fun e=>g e.1.symm),XR g]
  by_cases c:k=i
  .subst c;rw[XS ⟨rfl,m⟩,XS rfl]
  .rw[XR (fun e=>c e.1.symm),XR c]
theorem C0{l:J Hi}(h:gO l):∀ i,i<l.length->¬ ahead (at_ l i) (at_ l 0):=by
 intro i
 induction i using Nat.strongRecOn with
 |_ i ih =>
  intro g
  by_cases c:i=0
  .subst c;exact JC _
  .have:=h i O g;exact xP this (ih (par i) (by unfold par;omega) (by unfold par;omega))
structure qa(l:J Hi)(p:M):Prop where
 o:∀ i,0<i->i<l.length->i≠p->ok l i
 c:0<p->∀ i,0<i->i<l.length->par i=p->¬ ahead (at_ l i) (at_ l (par p))
theorem qa.done{l:J Hi}(h:qa l p)(k:p=0\/¬ ahead (at_ l p) (at_ l (par p))):gO l:=by
 intro i g c
 by_cases e:i=p
 .subst e;rcases k with k|k
  .omega
  .exact k
 .exact h.o i g c e
theorem qa.step{l:J Hi}(h:qa l p)(x:p<l.length)(K:0<p)(k:ahead (at_ l p) (at_ l (par p))):qa (swap l p (par p)) (par p):=by
 have P:par p<p:=by unfold par;omega
 have m:par p<l.length:=O
 refine⟨fun i t r y=>?_,fun D i t r C=>?_⟩
 .rw[sU] at r;unfold ok;rw[pt x m,pt x m,XR y]
  by_cases e:i=p
  .subst e;rw[XS rfl,XS rfl];exact CJ k
  .rw[XR e]
   by_cases s:par i=par p
   .rw[XS s];have:=h.o i t r e;unfold ok at this;rw[s] at this;exact xP this (CJ k)
   .rw[XR s]
    by_cases z:par i=p
    .rw[XS z];exact h.c K i t r z
    .rw[XR z];exact h.o i t r e
 .rw[sU] at r
  have I:par (par p)<par p:=by
   have:par (par p)=(par p-1) / 2:=rfl;omega
  rw[pt x m,pt x m,XR (show par (par p)≠par p by omega),XR (show par (par p)≠p by omega)];have g:=h.o (par p) D m O;unfold ok at g
  by_cases e:i=par p
  .rw[e] at C;omega
  .rw[XR e]
   by_cases s:i=p
   .subst s;rw[XS rfl];exact g
   .rw[XR s];have:=h.o i t r s;unfold ok at this;rw[C] at this;exact xP this g
theorem SC{l:J Hi}{x:Hi}(h:gO l):qa (l++[x]) l.length:=by
 have e:∀ i,i<l.length->at_ (l++[x]) i=at_ l i:=by
  intro i c;unfold at_ Zm;rw[Zn c]
 refine⟨fun i g c k=>?_,fun _ i g c m=>?_⟩
 .simp at c;unfold ok;rw[e i O,e (par i) (by unfold par;omega)];exact h i g O
 .simp at c;unfold par at m;omega
structure sP(l:J Hi)(q p:M):Prop where
 qp:q<=p
 a:∀ i,0<i->i<l.length->i≠q->par i≠p->ok l i
 b:0<p->∀ i,0<i->i<l.length->par i=p->¬ ahead (at_ l i) (at_ l (par p))
 d:p≠q->0<q->ok l q
theorem sP.done{l:J Hi}(h:sP l q p)(y:q<l.length)(k:∀ i,0<i->i<l.length->par i=p->¬ ahead (at_ l i) (at_ l p)):qa l q:=by
 have o:∀ i,0<i->i<l.length->i≠q->ok l i:=by
  intro i c g m
  by_cases e:par i=p
  .unfold ok;rw[e];exact k i c g e
  .exact h.a i c g m e
 refine⟨o,fun t i c g r=>?_⟩
 by_cases e:p=q
 .subst e;exact h.b t i c g r
 .have x:=h.d e t;have s:=o i c g (by intro e;subst e;unfold par at r;omega);unfold ok at x s;rw[r] at s;exact xP s x
theorem sP.step{l:J Hi}{c:M}(h:sP l q p)(K:0<c)(m:c<l.length)(g:par c=p)(k:ahead (at_ l c) (at_ l p))(P:∀ i,0<i->i<l.length->par i=p->¬ ahead (at_ l i) (at_ l c)):sP (swap l p c) q c:=by
 have R:p<c:=by unfold par at g;omega
 have r:p<l.length:=O
 have T:=h.qp;refine⟨O,fun i t s y z=>?_,fun _ i t s D=>?_,fun _ C=>?_⟩
 .rw[sU] at s;unfold ok;rw[pt r m,pt r m,XR z]
  by_cases e:i=c
  .subst e;rw[XS rfl,XS g];exact CJ k
  .rw[XR e]
   by_cases I:i=p
   .subst I;have:par i<i:=by unfold par;omega
    rw[XS rfl,XR O];exact h.b t c K m g
   .rw[XR I]
    by_cases x:par i=p
    .rw[XS x];exact P i t s x
    .rw[XR x];exact h.a i t s y x
 .rw[sU] at s;have S:c<i:=by unfold par at D;omega
  rw[pt r m,pt r m,XR O,XR O,XR (show par c≠c by omega),XS g];have:=h.a i t s O O;unfold ok at this;rw[D] at this;exact this
 .unfold ok;have Q:par q<q:=by unfold par;omega
  rw[pt r m,pt r m,XR (show q≠c by omega),XR (show par q≠c by omega),XR (show par q≠p by omega)]
  by_cases e:q=p
  .subst e;rw[XS rfl];exact h.b C c K m g
  .rw[XR e];exact h.d O C
def cut(l:J Hi)(p:M):J Hi:=(l.set p (at_ l (l.length-1))).take (l.length-1)
theorem qZ{l:J Hi}:(cut l p).length=l.length-1:=by simp[cut]
theorem tY{l:J Hi}(g:i<l.length-1):at_ (cut l p) i=if i=p then at_ l (l.length-1) else at_ l i:=by
 have e:at_ (cut l p) i=at_ (l.set p (at_ l (l.length-1))) i:=by
  unfold cut;show (List.take _ _).getD i _=(l.set p (at_ l (l.length-1))).getD i _;unfold Zm;rw[Zo g]
 rw[e,zC]
 by_cases c:i=p
 .subst c;rw[XS ⟨rfl,O⟩,XS rfl]
 .rw[XR (fun e=>c e.1.symm),XR c]
theorem Ja{l:J Hi}(h:p<l.length):l.Perm (at_ l p :: cut l p):=by
 have k:l.length-1<l.length:=O
 have r:=(Ae (l:=l) (i:=p) (j:=l.length-1) h k).symm;have g:(swap l p (l.length-1)).length=l.length:=sU
 have e:swap l p (l.length-1)=cut l p++[at_ l p]:=by
  refine List.ext_getElem (by rw[g,YZ,qZ];simp;omega) (fun i m x=>?_);rw[g] at m;have t:=pt h k i;rw[oq (by rw[g];exact m)] at t;rw[t]
  by_cases c:i=l.length-1
  .rw[XS c,List.getElem_append_right (by rw[qZ];omega)];simp
  .rw[XR c,List.getElem_append_left (by rw[qZ];omega)];have s:=tY (l:=l) (p:=p) (i:=i) O;rw[oq (by rw[qZ];omega)] at s;rw[s]
 rw[e] at r;exact r.trans (List.perm_append_comm.trans XA)
theorem RZ{l:J Hi}(h:gO l):gO (cut l (l.length-1)):=by
 intro i g c;rw[qZ] at c;unfold ok;rw[tY c,tY (show par i<l.length-1 by unfold par;omega),XR O,XR (show par i≠l.length-1 by unfold par;omega)];exact h i g O
theorem R9{l:J Hi}(h:gO l)(C:p<l.length-1):sP (cut l p) p p:=by
 refine⟨zq _,fun i g c r m=>?_,fun z i g c x=>?_,fun e=>XT rfl e⟩
 .rw[qZ] at c;unfold ok;rw[tY c,tY (show par i<l.length-1 by unfold par;omega),XR r,XR m];exact h i g O
 .rw[qZ] at c;have s:i≠p:=by intro e;subst e;unfold par at x;omega
  have k:par p≠p:=by unfold par;omega
  rw[tY c,tY (show par p<l.length-1 by unfold par;omega),XR s,XR k];have t:=h i g O;have y:=h p z O;unfold ok at t y;rw[x] at t;exact xP t y
end Hp
def jb(x:Hp.Hi):J XZ:=[x.t,V Y x.n,x.v]
theorem Ai(l:J Hp.Hi):(l.flatMap jb).length=l.length*3:=by
 induction l with
 |nil=>rfl
 |cons x l ih=>simp only[Zp,YZ,Y0,ih,jb,Y7];omega
theorem EH{l:J Hp.Hi}(h:i<l.length):l=l.take i++l[i] :: l.drop (i+1):=by rw[Zq,Y8]
theorem vx{l:J Hp.Hi}(h:i<l.length)(g:j<3):(l.flatMap jb)[i*3+j]?=(jb l[i])[j]?:=by
 conv=>lhs;rw[EH h,Zr,Zp]
 have c:((l.take i).flatMap jb).length=i*3:=by rw[Ai,Zs O]
 rw[Zt O,c,Zu,Zn (by simp[jb];omega)]
theorem Ui{l:J Hp.Hi}(h:i<l.length)(x:Hp.Hi):(((l.flatMap jb).set (i*3) x.t).set (i*3+1) (V Y x.n)).set (i*3+2) x.v=(l.set i x).flatMap jb:=by
 have c:((l.take i).flatMap jb).length=i*3:=by rw[Ai,Zs O]
 conv=>lhs;rw[EH h,Zr,Zp]
 rw[Zv _ _ O,Zv _ _ O,Zv _ _ O,c];rw[show i*3-i*3=0 from by omega,show i*3+1-i*3=1 from by omega,show i*3+2-i*3=2 from by omega]
 conv=>rhs;rw[List.set_eq_take_append_cons_drop,XS h,Zr,Zp]
 simp[jb]
structure HP(w:XY)(d o:M)(v:XZ)(l:J Hp.Hi):Prop where
 c:w.cell? (d,o)=U v
 own:w.ownsRow 0 286 3 v l.length (l.flatMap jb)
 ne:v.ownBlock≠U d
 fz:w.frozen? (d,o)=XW
theorem HP.form{l:J Hp.Hi}(h:HP w d o v l)(c:0<l.length):∃ H cap,v=X9 (U ⟨H,0,Z⟩) l.length cap:=by
 let⟨H,cap,e⟩:=Joins.ownsRow_form h.own c;exact⟨H,cap,e⟩
theorem HP.at{l:J Hp.Hi}(h:HP w d o (X9 H l.length cap) l)(c:i<l.length):w.cell? (H,i*3)=U (V Y (Hp.at_ l i).t)/\w.cell? (H,i*3+1)=U (V Y (Hp.at_ l i).n)/\w.cell? (H,i*3+2)=U (X8 (U ⟨(Hp.at_ l i).v,0,Z⟩)):=by
 rw[Hp.oq c];refine⟨?_,?_,?_⟩
 .exact (h.own.cellAt (i*3) O).trans (vx c (j:=0) O)
 .exact (h.own.cellAt (i*3+1) O).trans (vx c (j:=1) O)
 .exact (h.own.cellAt (i*3+2) O).trans (vx c (j:=2) O)
theorem HP.off{l:J Hp.Hi}(h:HP w d o v l)(k:aH G w w')(x:d ∉ G)(C:∀ b,v.ownBlock=U b->b ∉ G):HP w' d o v l:=by
 refine⟨k.cell x h.c,⟨h.own.1,?_⟩,h.ne,(k.frozen x (Yl _ _ h.c)).trans h.fz⟩;rcases h.own.2 with D|⟨g,cap,s,t,z,r,rest⟩
 .exact .inl D
 .refine .inr ⟨g,cap,s,t,z,?_,rest⟩
  have m:g<w:=by
   by_cases y:g<w
   .exact y
   .rw[Zw O] at r;cases r
  rw[k.block g m (C g (by rw[t];rfl))];exact r
theorem HP.later{l:J Hp.Hi}(h:HP w d o v l)(k:X0 w w w'):HP w' d o v l:=h.off (G:=[]) (aH.aD k) XA XA
theorem HP.put{l:J Hp.Hi}(h:HP w d o (X9 H l.length cap) l)(m:i<l.length)(x:Hp.Hi):HP (((w.setCell (H,i*3) x.t).setCell (H,i*3+1) (V Y x.n)).setCell (H,i*3+2) x.v) d o (X9 H (l.set i x).length cap) (l.set i x):=by
 have g:d≠H:=fun e=>h.ne (by rw[e];rfl)
 have k:aH [H] w (((w.setCell (H,i*3) x.t).setCell (H,i*3+1) (V Y x.n)).setCell (H,i*3+2) x.v) :=
  (((aH.refl [H] w).setCell (.inl XA) _ _).setCell (.inl XA) _ _).setCell (.inl XA) _ _
 refine⟨?_,?_,h.ne,?_⟩
 .rw[Zx];exact k.cell (by simpa using g) h.c
 .rw[Zx,<- Ui m x];exact ((((h.own.stored (i*3) x.t).1).stored (i*3+1) (V Y x.n)).1.stored (i*3+2) x.v).1
 .exact (k.frozen (by simpa using g) (Yl _ _ h.c)).trans h.fz
theorem vt(w:XY)(H i j m:M)(a b c:XZ):aH [H] w (((w.setCell (H,i) a).setCell (H,j) b).setCell (H,m) c) :=
 (((aH.refl [H] w).setCell (.inl XA) _ _).setCell (.inl XA) _ _).setCell (.inl XA) _ _
theorem HP.qn{l:J Hp.Hi}(h:HP w d o (X9 H l.length cap) l)(m:i<l.length)(k:j<l.length){x y:Hp.Hi}(g:Hp.at_ l i=x)(c:Hp.at_ l j=y):
  HP ((((((w.setCell (H,i*3) y.t).setCell (H,i*3+1) (V Y y.n)).setCell (H,i*3+2) y.v).setCell (H,j*3) x.t).setCell (H,j*3+1) (V Y x.n)).setCell (H,j*3+2) x.v) d o (X9 H l.length cap) (Hp.swap l i j)
  /\ aH [H] w ((((((w.setCell (H,i*3) y.t).setCell (H,i*3+1) (V Y y.n)).setCell (H,i*3+2) y.v).setCell (H,j*3) x.t).setCell (H,j*3+1) (V Y x.n)).setCell (H,j*3+2) x.v):=by
 refine⟨?_,(vt _ _ _ _ _ _ _ _).trans (vt _ _ _ _ _ _ _ _)⟩;have a:=(h.put m y).put (i:=j) (by simpa using k) x;subst g c;have e:((l.set i (Hp.at_ l j)).set j (Hp.at_ l i)).length=l.length:=XA
 rw[e] at a;exact a
def iH(x:Hp.Hi)(t n:N):N:=qq (mK x.t t) (mK x.n n)
theorem Rk(x y:Hp.Hi):iH x y.t y.n<0↔Hp.ahead x y:=by
 unfold iH qq mK Hp.ahead
 split <;> split <;> (repeat split) <;> omega
theorem JT(x:Hp.Hi)(t n:N):iH x t n=0↔x.t=t/\x.n=n:=by
 unfold iH qq mK
 split <;> split <;> (repeat split) <;> omega
theorem Ls(x:Hp.Hi)(t n:N)(w:XY):
  X4 prog 203 #[.agg #[V Y x.t,V Y x.n,X8 (U ⟨x.v,0,Z⟩)],V Y t,V Y n] w fun e w'=>e=Yg (V Y (iH x t n))/\X0 w.heap.size w w':=by
 unfold iH;have HP:=aC (fun w'=>Ay x.t t w');have r:=aC (fun w'=>Ay x.n n w');generalize mK x.t t=p at *;generalize mK x.n n=q at *
 go_in
 have g:X0 w.heap.size w (w.alloc (Yh #[V Y x.t,V Y x.n,X8 (U ⟨x.v,0,Z⟩)] 286)):=(zr _ _).alloc (zq _) _;have l:(w.alloc (Yh #[V Y x.t,V Y x.n,X8 (U ⟨x.v,0,Z⟩)] 286)).cell? ⟨w.heap.size,0,Z⟩=U (V Y x.t):=XA
 have k:(w.alloc (Yh #[V Y x.t,V Y x.n,X8 (U ⟨x.v,0,Z⟩)] 286)).cell? ⟨w.heap.size,1,Z⟩=U (V Y x.n):=XA
 go_upto_region 1 with fail
 generalize (YD w (Yh #[V Y x.t,V Y x.n,X8 (U ⟨x.v,0,Z⟩)] 286))=X at l k g ⊢;generalize c:w.heap.size=b at l k g ⊢;have m:=aC c;clear c
 go_region_held3 (fun w'=>w'.cell? ⟨b,0,Z⟩=U (V Y x.t)/\w'.cell? ⟨b,1,Z⟩=U (V Y x.n)/\X0 b w w')
  (first
   |exact⟨l,k,g.drew⟩
   |(go_split_ands;refine⟨?_,?_,?_⟩ <;> assumption)
   |(go_split_ands;exact⟨aR ((zr _ _).alloc (zq _) _) XD,aR ((zr _ _).alloc (zq _) _) XD,bM XD ((zr _ _).alloc (zq _) _) (by rw[m.out];exact zq _)⟩))
  (first
   |(go_at_call_of 251 (V Y t);refine (HP.out _).mono ?_;rintro e w' ⟨rfl,rfl⟩)
   |(go_at_call_of 251 (V Y n);refine (r.out _).mono ?_;rintro e w' ⟨rfl,rfl⟩)
   |(go_at_call 250;refine (Ij _ p q _ XA XA).mono ?_;rintro e w' ⟨rfl,rfl⟩))
 all_goals
  have s:Hid (X0 w.heap.size w (World.drew (YD X (Yh #[V Y p,V Y q] 3)))):=by
   have h:=bM g ((zr X.heap.size X).alloc (zq _) (Yh #[V Y p,V Y q] 3)) (by rw[m.out];exact zq _);rw[m.out];exact h.drew
  go_wp2
  go_ret;exact⟨rfl,s.out⟩
def uQ(x y:Hp.Hi):XN:=decide (iH x y.t y.n<0)
theorem Et{x y:Hp.Hi}:uQ x y=XX↔Hp.ahead x y:=by unfold uQ;rw[decide_eq_true_iff,Rk]
theorem Kz{x y:Hp.Hi}:uQ x y=XW↔¬ Hp.ahead x y:=by rw[<- Et];simp
def zf(l:J Hp.Hi):N:=if l.length=0 then 0 else (Hp.at_ l 0).t
def uL(l:J Hp.Hi):XN:=!(l.length==0)
theorem Dt{l:J Hp.Hi}(h:0<l.length):zf l=(Hp.at_ l 0).t:=by rw[zf,XR O]
theorem Ds{l:J Hp.Hi}(h:0<l.length):uL l=XX:=by unfold uL;simp;intro e;simp[e] at h
theorem KZ(d o:M)(v:XZ)(l:J Hp.Hi)(w:XY)(h:HP w d o v l):
  X4 prog 155 #[X8 (U ⟨d,o,Z⟩)] w fun e w'=>e=Yg (Yc #[V Y (zf l),uL l])/\w'=w:=by
 have c:=h.c
 by_cases m:l=[]
 .subst m
  have r:∃ a cap,v=X9 a 0 cap:=by
   rcases h.own.2 with ⟨rfl,_⟩|⟨g,cap,_,rfl,_⟩
   .exact⟨_,_,rfl⟩
   .exact⟨_,_,rfl⟩
  obtain⟨a,cap,rfl⟩:=r;clear h
  go_in
  go_wp21
  go_ret2;exact⟨rfl,rfl⟩
 .have k:0<l.length:=List.length_pos_iff.2 m;obtain⟨H,cap,rfl⟩:=h.form k;have s:=(h.at k).1;simp only[Zy] at s;have t:¬ ((l.length:N)=0):=O
  have E:=aC (Yz (Dt k) (Ds k));clear h
  go_in
  go_wp21
  go_ret2;exact⟨by rw[E.1,E.2];rfl,rfl⟩
theorem Li(d o:M)(v:XZ)(l:J Hp.Hi)(i j:M)(w:XY)(h:HP w d o v l)(m:i<l.length)(k:j<l.length)(C:l.length<=1000):
  X4 prog 274 #[X8 (U ⟨d,o,Z⟩),V Y i,V Y j] w fun e w'=>e=Yg (uQ (Hp.at_ l i) (Hp.at_ l j))/\X0 w w w':=by
 obtain⟨H,cap,rfl⟩:=h.form O;have c:=h.c;let⟨a0,a1,a2⟩:=h.at m;let⟨b0,b1,b2⟩:=h.at k;have s:=aC (fun w'=>Ls (Hp.at_ l i) (Hp.at_ l j).t (Hp.at_ l j).n w');have z:(i:N)<(l.length:N):=O
 have j1:(j:N)<(l.length:N):=O
 clear h;generalize Hp.at_ l i=x at *;generalize Hp.at_ l j=y at *
 go_in
 go_upto_region 1 with fail
 go_region_held3 (fun w'=>w'.cell? (d,o)=U (X9 H l.length cap)/\w'.cell? (H,i*3)=U ↑x.t/\w'.cell? (H,i*3+1)=U (V Y x.n)/\w'.cell? (H,i*3+2)=U ↑x.v/\w'.cell? (H,j*3)=U ↑y.t/\w'.cell? (H,j*3+1)=U (V Y y.n))
  (first
   |exact⟨c,a0,a1,a2,b0,b1⟩
   |exact⟨aR g c,aR g a0,aR g a1,aR g a2,aR g b0,aR g b1⟩)
  (first
   |(go_at_call 203;refine aK (s _) fun w4 g=>?_))
 have r:Hid (X0 w w w4):=bM (dV w) g aI;clear g
 go_wp21
 go_ret;exact⟨rfl,r⟩
theorem D6(d o H cap:M)(l:J Hp.Hi)(i j:M)(w:XY)(h:HP w d o (X9 H l.length cap) l)(m:i<l.length)(g:j<l.length)(s:i≠j):
  X4 prog 275 #[X8 (U ⟨d,o,Z⟩),V Y i,V Y j] w fun e w'=>e=Yg (Yc #[])/\HP w' d o (X9 H l.length cap) (Hp.swap l i j)/\aH [H] w w':=by
 have c:=h.c;let⟨a0,a1,a2⟩:=h.at m;let⟨b0,b1,b2⟩:=h.at g;have z:∀ k,w.frozen? (H,k)=XW:=fun k=>h.own.frozenAt k
 have t:(i:N)<(l.length:N):=O
 have j1:(j:N)<(l.length:N):=O
 have r:=aC (h.qn m g rfl rfl);clear h;generalize Hp.at_ l i=x at *;generalize Hp.at_ l j=y at *
 go_in
 go_upto_region 0 with fail
 go_big_region
 go_end0
 exact⟨rfl,r.1.off (G:=[]) ((aH.refl _ _).drew) XA XA,r.2.drew⟩
structure mw(w wx:XY)(d o H n cap:M)(l l':J Hp.Hi):Prop where
 hp:HP wx d o (X9 H n cap) l'
 len:l'.length=n
 perm:l'.Perm l
 off:aH [H] w wx
theorem mw.new{l:J Hp.Hi}(h:HP w d o (X9 H l.length cap) l):mw w w d o H l.length cap l l:=⟨h,rfl,.refl _,aH.refl _ _⟩
theorem mw.later{l l':J Hp.Hi}(h:mw w wx d o H n cap l l')(k:X0 wx wx wy):mw w wy d o H n cap l l' :=
 ⟨h.hp.later k,h.len,h.perm,h.off.trans' (aH.aD (F:=[]) k) XA⟩
theorem Jh(d o H cap:M)(l:J Hp.Hi)(p:M)(w:XY)(h:HP w d o (X9 H l.length cap) l)(R:p<l.length)(m:Hp.qa l p)(hl:l.length<=1000):
  X4 prog 248 #[X8 (U ⟨d,o,Z⟩),V Y p] w fun e w'=>e=Yg (Yc #[])/\∃ l',mw w w' d o H l.length cap l l'/\Hp.gO l':=by
 have W:=aC (mw.new h);have X:=aC m;clear h m
 go_in
 go_wp21
 go_loopw [1] (fun v wx=>∃ (q:M) (l':J Hp.Hi),v=V Y q/\q<l.length/\Hp.qa l' q/\mw w wx d o H l.length cap l l') (fun v _=>(intOf v).toNat)
 .exact⟨p,l,rfl,R,X,W⟩
 .obtain⟨q,l',rfl,hq,m,ht⟩:=hrel
  by_cases S:0<q
  .have i0:(0:N)<(q:N):=O
   have I:=aC ht;have r:=aC m
   have ea:((((q:N)-1).tdiv 2))=((Hp.par q:M):N):=by
    unfold Hp.par;rw[Int.tdiv_eq_ediv_of_nonneg O];omega
   have ew:Y.wrap ((q:N)-1)=(q:N)-1:=cT O O;have Q:Hp.par q<q:=by unfold Hp.par;omega
   have K:=aC (fun wy (k:X0 wr wr wy)=>Li d o _ l' q (Hp.par q) wy (ht.hp.later k) (by rw[ht.len];omega) (by rw[ht.len];omega) (by rw[ht.len];omega));clear m ht
   go_wp21
   refine aK (K _ fo) fun w4 z=>?_;have c:=aC (I.later z);clear K I z
   cases C:uQ (Hp.at_ l' q) (Hp.at_ l' (Hp.par q))
   .have t:=aC (Yz c (r.done (.inr (Kz.1 C))));clear c r
    go_wp21
    (try simp only[Zz,Exit.then]);refine bodyPost_ret (results_none rfl _ _ _) rfl ?_
    exact⟨rfl,l',t⟩
   .have g:=c.len;have D:=aC (D6 d o H cap l' q (Hp.par q) w4 (by rw[g];exact c.hp) O O O);have HS:=aC (r.step O S (Et.1 C));have s:=aC g;clear r g
    go_wp21
    refine D.mono ?_;rintro e P ⟨rfl,y,x⟩
    have HN:Hid (mw w P d o H l.length cap l (Hp.swap l' q (Hp.par q))) :=
     ⟨by rw[<- s];exact y,Hp.sU.trans s,(Hp.Ae (by rw[s];omega) (by rw[s];omega)).trans c.perm,c.off.trans x⟩
    clear y x D c
    go_wp21
    go_roundw
    .exact⟨Hp.par q,_,rfl,O,HS,HN⟩
    .simp[intOf];omega
  .have T:q=0:=O
   subst T;have t:=aC (Yz ht (m.done (.inl rfl)));clear m ht
   go_wp21
   go_end0
   exact⟨rfl,l',t⟩
structure om(l:J Hp.Hi)(q f b:M):Prop where
 b0:2*q+1<=b
 b1:b<=2*q+3
 f1:f<l.length
 ff:f=q\/(2*q+1<=f/\f<b/\Hp.ahead (Hp.at_ l f) (Hp.at_ l q))
 no:∀ i,2*q+1<=i->i<b->i<l.length->¬ Hp.ahead (Hp.at_ l i) (Hp.at_ l f)
theorem om.new{l:J Hp.Hi}(h:q<l.length):om l q q (2*q+1):=⟨O,O,h,.inl rfl,fun i g c _=>by omega⟩
theorem om.A6{l:J Hp.Hi}(h:om l q f b)(s:b<=2*q+2)(k:¬ Hp.ahead (Hp.at_ l b) (Hp.at_ l f)):om l q f (b+1):=by
 refine⟨by have:=h.b0;omega,O,h.f1,?_,fun i g t c=>?_⟩
 .rcases h.ff with e|⟨r,x,m⟩
  .exact .inl e
  .exact .inr ⟨r,O,m⟩
 .by_cases e:i=b
  .subst e;exact k
  .exact h.no i g O c
theorem om.yes{l:J Hp.Hi}(h:om l q f b)(r:b<=2*q+2)(c:b<l.length)(k:Hp.ahead (Hp.at_ l b) (Hp.at_ l f)):om l q b (b+1):=by
 have t:=h.b0;refine⟨O,O,c,.inr ⟨O,O,?_⟩,fun i m s g=>?_⟩
 .rcases h.ff with e|⟨z,y,x⟩
  .rw[<- e];exact k
  .unfold Hp.ahead at *;omega
 .by_cases e:i=b
  .subst e;exact Hp.JC _
  .have:=h.no i m O g;unfold Hp.ahead at *;omega
theorem om.all{l:J Hp.Hi}(h:om l q f b)(k:¬ b<=2*q+2\/¬ b<l.length):∀ i,0<i->i<l.length->Hp.par i=q->¬ Hp.ahead (Hp.at_ l i) (Hp.at_ l f):=by
 intro i m g c;have:=h.b0;unfold Hp.par at c;exact h.no i O O g
theorem SQ(d o H cap:M)(l:J Hp.Hi)(p:M)(w:XY)(h:HP w d o (X9 H l.length cap) l)(hp:p<l.length)(S:Hp.sP l p p)(hl:l.length<=1000):
  X4 prog 252 #[X8 (U ⟨d,o,Z⟩),V Y p] w fun e w'=>e=Yg (Yc #[])/\∃ r,mw w w' d o H l.length cap l r/\Hp.qa r p:=by
 have T0:=aC (mw.new h);have R0:=aC S;clear h S
 go_in
 go_wp21
 go_loopw [1] (fun v wx=>∃ (q:M) (r:J Hp.Hi),v=V Y q/\q<l.length/\Hp.sP r p q/\mw w wx d o H l.length cap l r) (fun v _=>l.length-(intOf v).toNat)
 .exact⟨p,l,rfl,hp,R0,T0⟩
 .obtain⟨q,r,rfl,hq,S,ht⟩:=hrel;have P:=aC ht;have I:=aC S;clear S ht;have w1:Y.wrap (2*(q:N))=2*(q:N):=cT O O;have w2:Y.wrap (2*(q:N)+1)=2*(q:N)+1:=cT O O;have w3:Y.wrap (2*(q:N)+2)=2*(q:N)+2:=cT O O
  go_wp21
  go_loopw [4,5] (fun vf vb wx=>∃ f b:M,vf=V Y f/\vb=V Y b/\om r q f b/\mw w wx d o H l.length cap l r) (fun _ vb _=>2*q+3-(intOf vb).toNat)
  .exact⟨q,2*q+1,rfl,by simp,om.new (by rw[P.len];exact hq),P⟩
  .obtain⟨f,b,rfl,rfl,t,ht⟩:=hrel;have k:=ht.len;have hc:=ht.hp.c
   by_cases W:b<=2*q+2
   .have b1:(b:N)<=2*(q:N)+2:=O
    by_cases ad:b<l.length
    .have b2:(b:N)<(l.length:N):=O
     have fb:=t.f1;have AH:=aC (Li d o _ r b f wr ht.hp O O O);have m:=aC ht;have D:=aC t;have hw:Y.wrap ((b:N)+1)=((b+1:M):N):=by rw[cT O O];omega
     clear ht t
     go_wp21
     refine AH.mono ?_;rintro e w4 ⟨rfl,k1⟩;have aa:=aC (m.later k1);clear AH m k1
     cases hb:uQ (Hp.at_ r b) (Hp.at_ r f)
     .have K:=aC (D.A6 W (Kz.1 hb));clear D
      go_wp21
      go_roundw
      .exact⟨f,b+1,rfl,rfl,K,aa⟩
      .simp[intOf];omega
     .have K:=aC (D.yes W O (Et.1 hb));clear D
      go_wp21
      go_roundw
      .exact⟨b,b+1,rfl,rfl,K,aa⟩
      .simp[intOf];omega
    .have b2:¬ ((b:N)<(l.length:N)):=O
     have g:=aC (t.all O);have x:=t.ff;have s:=t.f1;have ab:=I.qp;have m:=aC ht;have y:=aC k
     by_cases z:f=q
     .subst z;have HF:=aC (Yz ht (I.done O g));clear ht t g x s m P I y k
      go_wp21
      (try simp only[Zz,Exit.then]);refine bodyPost_ret (results_none rfl _ _ _) rfl ?_
      exact⟨rfl,r,HF⟩
     .have T:¬ ((f:N)=(q:N)):=O
      have ac:2*q+1<=f:=O
      have X:=aC (D6 d o H cap r q f wr (by rw[k];exact ht.hp) O O O);have C:Hp.ahead (Hp.at_ r f) (Hp.at_ r q):=by rcases x with e|e;exact XT e z;exact e.2.2
      have D:=aC (I.step (c:=f) O s (by unfold Hp.par;have:=t.ff;have:=t.b1;omega) C g);clear ht t g x C k
      go_wp21
      refine X.mono ?_;rintro e w5 ⟨rfl,R,Q⟩
      have K:Hid (mw w w5 d o H l.length cap l (Hp.swap r q f)) :=
       ⟨by rw[<- y];exact R,Hp.sU.trans y,(Hp.Ae (by rw[y];omega) s).trans m.perm,m.off.trans Q⟩
      clear R Q X m P
      go_wp21
      go_roundw
      .exact⟨f,_,rfl,by rw[<- y];exact s,D,K⟩
      .have:=y;simp[intOf];omega
   .have b1:¬ ((b:N)<=2*(q:N)+2):=O
    have g:=aC (t.all O);have x:=t.ff;have s:=t.f1;have ab:=I.qp;have m:=aC ht;have y:=aC k
    by_cases z:f=q
    .subst z;have HF:=aC (Yz ht (I.done O g));clear ht t g x s m P I y k
     go_wp21
     (try simp only[Zz,Exit.then]);refine bodyPost_ret (results_none rfl _ _ _) rfl ?_
     exact⟨rfl,r,HF⟩
    .have T:¬ ((f:N)=(q:N)):=O
     have ac:2*q+1<=f:=O
     have X:=aC (D6 d o H cap r q f wr (by rw[k];exact ht.hp) O O O);have C:Hp.ahead (Hp.at_ r f) (Hp.at_ r q):=by rcases x with e|e;exact XT e z;exact e.2.2
     have D:=aC (I.step (c:=f) O s (by unfold Hp.par;have:=t.ff;have:=t.b1;omega) C g);clear ht t g x C k
     go_wp21
     refine X.mono ?_;rintro e w5 ⟨rfl,R,Q⟩
     have K:Hid (mw w w5 d o H l.length cap l (Hp.swap r q f)) :=
      ⟨by rw[<- y];exact R,Hp.sU.trans y,(Hp.Ae (by rw[y];omega) s).trans m.perm,m.off.trans Q⟩
     clear R Q X m P
     go_wp21
     go_roundw
     .exact⟨f,_,rfl,by rw[<- y];exact s,D,K⟩
     .have:=y;simp[intOf];omega
namespace aA
structure aO where
 id:N
 kind:N
 bA:XK
 aM:N
 aQ:J (N × N)
 bP:N
def hasB(t:N)(s:N × N):XN:=decide (s.1<=t) && decide (t<s.2)
def dH(L:J (N × N))(t:N):N:=((L.filter (hasB t)).length:N)
def cO(a b:XK):XN:=a.toList==b.toList
def cN(name:XK)(e:aO):XN:=cO e.bA name && (e.kind != 3)
def bZ(name:XK)(t:N):J aO->N
 |[]=>0
 |e :: r=>(if cN name e then dH e.aQ t*e.aM else 0)+bZ name t r
def eW(name:XK):J aO->J N
 |[]=>[]
 |e :: r=>(if cO e.bA name then e.aQ.map (·.1) else [])++eW name r
theorem rm(L:J (N × N))(t:N):0<=dH L t/\dH L t<=L.length:=by
 unfold dH;have:=ZA (hasB t) L;omega
theorem PY(L:J (N × N))(s:N × N)(t:N):dH (L++[s]) t=dH L t+if hasB t s then 1 else 0:=by
 unfold dH;rw[YJ,YZ]
 cases h:hasB t s <;> simp[h]
theorem vF(name:XK)(t:N)(l r:J aO):bZ name t (l++r)=bZ name t l+bZ name t r:=by
 induction l with
 |nil=>simp[bZ]
 |cons e l ih=>simp only[YH,bZ,ih];omega
theorem Ql(name:XK)(l r:J aO):eW name (l++r)=eW name l++eW name r:=by
 induction l with
 |nil=>rfl
 |cons e l ih=>simp only[YH,eW,ih,YU]
structure Small(e:aO):Prop where
 u0:0<=e.aM
 u1:e.aM<=9
 sl:e.aQ.length<=100
theorem G7(name:XK)(t:N)(l:J aO)(h:∀ e∈l,Small e):0<=bZ name t l/\bZ name t l<=900*l.length:=by
 induction l with
 |nil=>simp[bZ]
 |cons e l ih =>
  have i:=ih (fun x g=>h x (by simp[g]));have s:=h e XA;have b:=rm e.aQ t;have u0:=s.u0;have u1:=s.u1;have k:=s.sl;have c:0<=dH e.aQ t*e.aM:=Y9 b.1 s.u0;have d:dH e.aQ t*e.aM<=100*9:=Zb O s.u1 s.u0 O;simp only[bZ,Y0]
  split <;> omega
end aA
def gS(w:XY)(B:M)(L:J (N × N)):Prop:=∀ (i:M)(h:i<L.length),w.cell? (B,i*2)=U (V Y L[i].1)/\w.cell? (B,i*2+1)=U (V Y L[i].2)
theorem gS.off(h:gS w B L)(k:aH G w w')(g:B ∉ G):gS w' B L:=fun i c=>⟨k.cell g (h i c).1,k.cell g (h i c).2⟩
theorem gS.later(h:gS w B L)(k:X0 w w w'):gS w' B L:=h.off (G:=[]) (aH.aD k) XA
structure RE(w:XY)(E i:M)(e:aA.aO)(B cap:M):Prop where
 c0:w.cell? (E,i*6)=U ↑e.id
 c1:w.cell? (E,i*6+1)=U ↑e.kind
 c2:w.cell? (E,i*6+2)=U ↑e.bA
 c3:w.cell? (E,i*6+3)=U ↑e.aM
 c4:w.cell? (E,i*6+4)=U (X9 B e.aQ.length cap)
 c5:w.cell? (E,i*6+5)=U ↑e.bP
 sl:gS w B e.aQ
theorem RE.later{e:aA.aO}(h:RE w E i e B cap)(k:X0 w w w'):RE w' E i e B cap:=by
 have o:aH [] w w':=aH.aD k;exact⟨o.cell XA h.c0,o.cell XA h.c1,o.cell XA h.c2,o.cell XA h.c3,o.cell XA h.c4,o.cell XA h.c5,h.sl.off o XA⟩
structure nz(w:XY)(d:M)(a:XM X5)(cap E:M)(es:J aA.aO):Prop where
 c:w.cell? (d,1)=U (X9 a es.length cap)
 a:es≠[]->a=U ⟨E,0,Z⟩
 r:∀ (i:M) (h:i<es.length),∃ B cap,RE w E i es[i] B cap
theorem nz.later{es:J aA.aO}(h:nz w d a cap E es)(k:X0 w w w'):nz w' d a cap E es :=
 ⟨(aH.aD (F:=[]) k).cell XA h.c,h.a,fun i g=>by let⟨B,c,r⟩:=h.r i g;exact⟨B,c,r.later k⟩⟩
theorem nz.at{es:J aA.aO}(h:nz w d a cap E es)(c:i<es.length):a=U ⟨E,0,Z⟩:=h.a (by intro e;simp[e] at c)
theorem G9(B cap:M)(L:J (N × N))(t:N)(w:XY)(h:gS w B L)(x:L.length<=100000):
  X4 prog 241 #[X9 B L.length cap,t] w fun e w'=>e=Yg (V Y (aA.dH L t))/\w'=w:=by
 have r:=aC h;clear h
 go_in
 go_wp21
 go_loop [5,6] (fun n i=>∃ k:M,k<=L.length/\i=V Y k/\n=V Y (aA.dH (L.take k) t)) (fun _ i=>L.length-(intOf i).toNat)
 .exact⟨0,Zd _,rfl,by simp[aA.dH]⟩
 .obtain⟨k,y,rfl,rfl⟩:=hrel;have I:=aA.rm (L.take k) t;have D:=Zk k L
  by_cases c:k<L.length
  .have C:=(r k c).1;have z:=(r k c).2;have s:(k:N)<(L.length:N):=O
   have e:aA.dH (L.take (k+1)) t=aA.dH (L.take k) t+if aA.hasB t L[k] then 1 else 0:=by rw[Zc c,aA.PY]
   have E:=aC e;clear e;generalize aA.dH (L.take k) t=n at *
   by_cases m:L[k].1<=t
   .by_cases l:t<L[k].2
    .have g:Hid (aA.hasB t L[k]=XX):=by show aA.hasB t L[k]=XX;simp[aA.hasB,m,l]
     go_wp21
     go_round
     .exact⟨k+1,O,by go_num,by rw[E,g.out];rfl⟩
     .simp[intOf];omega
    .have g:Hid (aA.hasB t L[k]=XW):=by show aA.hasB t L[k]=XW;simp[aA.hasB,l]
     go_wp21
     go_round
     .exact⟨k+1,O,by go_num,by rw[E,g.out];simp⟩
     .simp[intOf];omega
   .have g:Hid (aA.hasB t L[k]=XW):=by show aA.hasB t L[k]=XW;simp[aA.hasB,m]
    go_wp21
    go_round
    .exact⟨k+1,O,by go_num,by rw[E,g.out];simp⟩
    .simp[intOf];omega
  .have e:L.take k=L:=Ze O;have s:¬ (k:N)<(L.length:N):=O
   go_wp21
   go_ret;exact⟨iy (by first|rfl|rw[e]),rfl⟩
theorem G8(d:M)(a:XM X5)(cap E:M)(es:J aA.aO)(name:XK)(t:N)(w:XY)(h:nz w d a cap E es)(hl:es.length<=1000)(Q:∀ e∈es,aA.Small e):
  X4 prog 242 #[d,name,t] w fun e w'=>e=Yg (V Y (aA.bZ name t es))/\X0 w w w':=by
 have H:=aC h;have S:=aC Q;clear h Q
 go_in
 go_wp21
 go_loopw [7,8,9,10] (fun n i _ _ wx=>∃ k:M,k<=es.length/\i=V Y k/\n=V Y (aA.bZ name t (es.take k))/\X0 w w wx) (fun _ i _ _ _=>es.length-(intOf i).toNat)
 .exact⟨0,Zd _,rfl,by simp[aA.bZ],Below.refl _ _⟩
 .obtain⟨k,hk,rfl,rfl,x⟩:=hrel;have bd:=aA.G7 name t (es.take k) (fun e X=>S e (Zj X));have bl:=Zk k es;have D:=H.later x;have cc:=D.c
  by_cases m:k<es.length
  .obtain rfl:=H.at m;obtain⟨B,cp,s⟩:=D.r k m;have l:=S es[k] (zg m);have c0:=s.c0;have c1:=s.c1;have c2:=s.c2;have c3:=s.c3;have c4:=s.c4;have c5:=s.c5;have W:(k:N)<(es.length:N):=O
   have e:aA.bZ name t (es.take (k+1))=aA.bZ name t (es.take k)+(if aA.cN name es[k] then aA.dH es[k].aQ t*es[k].aM else 0):=by
    rw[Zc m,aA.vF];simp[aA.bZ]
   have P:=aC e;have tb:=aA.rm es[k].aQ t;have u0:=l.u0;have u1:=l.u1;have sl:=l.sl;have m0:0<=aA.dH es[k].aQ t*es[k].aM:=Y9 tb.1 u0;have m1:aA.dH es[k].aQ t*es[k].aM<=900:=by have:aA.dH es[k].aQ t*es[k].aM<=100*9:=Zb O u1 u0 O;omega
   have RS:=aC s.sl;clear e s D l;generalize aA.bZ name t (es.take k)=n at *
   cases y:aA.cO es[k].bA name
   .have C:Hid (aA.cN name es[k]=XW):=by show aA.cN name es[k]=XW;simp[aA.cN,y]
    have I:(es[k].bA.toList==name.toList)=XW:=y;have z:=aC x;clear x y
    go_wp21
    go_roundw
    .exact⟨k+1,O,by go_num,by rw[P,C.out];simp,bM z bC aI⟩
    .simp[intOf];omega
   .have I:(es[k].bA.toList==name.toList)=XX:=y;have z:=aC x
    by_cases g:es[k].kind=3
    .have K:(es[k].kind != 3)=XW:=by simp[g]
     have C:Hid (aA.cN name es[k]=XW):=by show aA.cN name es[k]=XW;simp[aA.cN,g]
     clear x y g
     go_wp21
     go_roundw
     .exact⟨k+1,O,by go_num,by rw[P,C.out];simp,bM z bC aI⟩
     .simp[intOf];omega
    .have K:(es[k].kind != 3)=XX:=by simp[g]
     have C:Hid (aA.cN name es[k]=XX):=by show aA.cN name es[k]=XX;simp[aA.cN,y,g]
     clear x y g;have R:=aC (fun w' (T:X0 wr wr w')=>G9 B cp es[k].aQ t w' (RS.later T) O)
     have EN:Hid (n+aA.dH es[k].aQ t*es[k].aM=n+if aA.cN name es[k] then aA.dH es[k].aQ t*es[k].aM else 0):=by
      show n+_=n+_;rw[C.out];rfl
     generalize aA.dH es[k].aQ t=q at *
     go_wp21
     refine aX (R _ bC) ?_;clear R
     go_wp21
     go_roundw
     .exact⟨k+1,O,by go_num,by rw[P,<- EN],bM z bC aI⟩
     .simp[intOf];omega
  .have e:es.take k=es:=Ze O;have W:¬ (k:N)<(es.length:N):=O
   have z:=aC x;clear x D
   go_wp21
   go_ret;exact⟨iy (by first|rfl|rw[e]),z⟩
theorem pg:(prog.info? 3).map (fun i=>(i.zero,i.size,i.bytes))=U (U (V Y 0),1,8):=XF
theorem gi{c size:M}{m:J XZ}(h:w.ownsRow c e size v n m){k:M}(l:v.ownBlock=U k):c<=k:=by
 rcases h.2 with ⟨rfl,_⟩|⟨g,cap,r,rfl,s,_⟩
 .simp[ZB] at l
 .simp[ZB] at l;omega
theorem tJ{k c size:M}{xs:J XZ}(h:w.ownsRow k e size v n xs)(s:c<=k):w.ownsRow c e size v n xs:=by
 refine⟨h.1,?_⟩;rcases h.2 with t|⟨g,cap,l,m,r,rest⟩
 .exact .inl t
 .exact .inr ⟨g,cap,l,m,Yk s r,rest⟩
theorem eQ{c size:M}{xs:J XZ}(h:w.ownsRow c e size v n xs)(x:X0 w w w'):w'.ownsRow c e size v n xs:=by
 refine⟨h.1,?_⟩;rcases h.2 with y|⟨g,cap,m,s,t,l,rest⟩
 .exact .inl y
 .refine .inr ⟨g,cap,m,s,t,?_,rest⟩
  have k:g<w:=by
   by_cases r:g<w
   .exact r
   .rw[Zw O] at l;cases l
  rw[x.block g k];exact l
theorem cP(w:XY)(o:Obj):(w.alloc o).heap[w.heap.size]?=U o:=heap_alloc_new w o
theorem ja{c size:M}{s:J XZ}(h:w.ownsRow c e size v n s){cs:Array XZ}{t:TypeId}{m:M × M}(x:w.heap[b]?=U (Yh cs t m))(k:t≠e):v.ownBlock≠U b:=by
 intro l;rcases h.2 with ⟨rfl,_⟩|⟨g,cap,y,rfl,z,r,_⟩
 .simp[ZB] at l
 .simp[ZB] at l;subst l;rw[x] at r;simp at r;exact k r.2.1
theorem yO{k:M}{c:J N}(h:w.ownsRow k 3 1 v n (c.map (V Y))):∃ a cap g,v=X9 a n cap/\n=c.length/\(c≠[]->a=U ⟨g,0,Z⟩)/\∀ (i:M)(l:i<c.length),w.cell? (g,i)=U (V Y c[i]):=by
 have m:=h.1;simp at m;rcases h.2 with ⟨rfl,x⟩|⟨g,cap,r,rfl,y,s,D,C,z,t⟩
 .subst x;have:c=[]:=Y6.1 m;subst this;exact⟨Z,0,0,rfl,rfl,fun h=>XT rfl h,fun i l=>by simp at l⟩
 .refine⟨U ⟨g,0,Z⟩,cap,g,rfl,m.symm,fun _=>rfl,fun i l=>?_⟩;have e:(r.toList.take (n*1))[i]?=(c.map (V Y))[i]?:=by rw[t]
  rw[List.getElem?_map,List.getElem?_eq_getElem l,Zo O] at e;simp only[ZC,Option.map_some] at e;simp[YF,s,e]
def qx(e:aA.aO)(B cap:M):Array XZ:=#[e.id,e.kind,e.bA,e.aM,X9 B e.aQ.length cap,e.bP]
def oa(name:XK)(l:J aA.aO)(e:aA.aO)(j:M):J N:=aA.eW name l++(e.aQ.take j).map (·.1)
theorem Cj(name:XK)(l:J aA.aO)(h:∀ e∈l,aA.Small e):(aA.eW name l).length<=100*l.length:=by
 induction l with
 |nil=>simp[aA.eW]
 |cons e l ih =>
  have i:=ih (fun x c=>h x (by simp[c]));have s:=(h e XA).sl;simp only[aA.eW,YZ,Y0]
  split <;> simp <;> omega
theorem Hq(d:M)(a:XM X5)(cap E:M)(es:J aA.aO)(name:XK)(w:XY)(h:nz w d a cap E es)(hl:es.length<=1000)(hs:∀ e∈es,aA.Small e):
  X4 prog 240 #[d,name] w fun e w'=>∃ v,e=Yg v/\w'.ownsRow w 3 1 v (aA.eW name es).length ((aA.eW name es).map (V Y))/\X0 w w w':=by
 obtain⟨i0,an,ak,aj,ai⟩:=info_parts pg;have H:=aC h;have HS:=aC hs;clear h hs
 go_in
 go_wp21
 go_loopw [5,6,7,8] (fun v i _ _ wx=>∃ k:M,k<=es.length/\i=V Y k/\wx.ownsRow w 3 1 v (aA.eW name (es.take k)).length ((aA.eW name (es.take k)).map (V Y))/\X0 w w wx) (fun _ i _ _ _=>es.length-(intOf i).toNat)
 .exact⟨0,Zd _,rfl,ZD _ _ _ _,Below.refl _ _⟩
 .obtain⟨k,hk,rfl,g,t⟩:=hrel;have bl:=Zk k es;have S:=H.later t;have cc:=S.c;have sz:=Cj name (es.take k) (fun e he=>HS e (Zj he))
  by_cases z:k<es.length
  .obtain rfl:=H.at z;obtain⟨B,R,K⟩:=H.r k z;have P:=K.later t;have T:=HS es[k] (zg z);have c0:=P.c0;have c1:=P.c1;have c2:=P.c2;have c3:=P.c3;have c4:=P.c4;have c5:=P.c5;have hi:(k:N)<(es.length:N):=O
   have e:aA.eW name (es.take (k+1))=aA.eW name (es.take k)++(if aA.cO es[k].bA name then es[k].aQ.map (·.1) else []):=by
    rw[Zc z,aA.Ql];simp[aA.eW]
   have EE:=aC e;have sl:=T.sl;have RS:=aC K.sl;have HB:=aC t;have ao:=t.size;have HO:=aC g;clear e P K S T g t
   go_wp21
   have hX:(wr.alloc (Yh (qx es[k] B R) 58)).heap[wr.heap.size]?=U (Yh (qx es[k] B R) 58):=cP _ _;have oX:(wr.alloc (Yh (qx es[k] B R) 58)).ownsRow w.heap.size 3 1 u5 (aA.eW name (es.take k)).length ((aA.eW name (es.take k)).map (V Y)):=eQ HO.out bC;have bX:X0 w.heap.size w (wr.alloc (Yh (qx es[k] B R) 58)):=bM HB.out bC aI;simp only[qx] at hX oX bX;have HX:=aC (Yz hX (Yz oX bX));clear hX oX bX c0 c1 c2 c3 c4 c5 cc HB HO;generalize (YD wr _)=X at HX ⊢;generalize wr.heap.size=bx at HX ao ⊢;have W:∃ q,aA.cO es[k].bA name=q:=⟨_,rfl⟩;obtain⟨q,W⟩:=W;have aq:(es[k].bA.toList==name.toList)=q:=W;have HQ:=aC W;clear W
   go_loopw [5,8] (fun v i wx=>∃ j:M,j<=es[k].aQ.length/\(q=XW->j=0)/\i=V Y j/\wx.ownsRow w 3 1 v (oa name (es.take k) es[k] j).length ((oa name (es.take k) es[k] j).map (V Y))/\X0 w w wx/\wx.heap[bx]?=U (Yh (qx es[k] B R) 58)) (fun _ i _=>es[k].aQ.length-(intOf i).toNat)
   .exact⟨0,Zd _,fun _=>rfl,rfl,by rw[oa];simpa using HX.out.2.1,HX.2.2,HX.1⟩
   .obtain⟨j,hj,y,rfl,g,t,s⟩:=hrel;have b4:wr.cell? (bx,4)=U (X9 B es[k].aQ.length R):=by simp[YF,s,qx]
    have b2:wr.cell? (bx,2)=U (.string es[k].bA):=by simp[YF,s,qx]
    have m:=aC (Yz g (Yz t s));have ac:=t.size
    by_cases C:q=XX/\j<es[k].aQ.length
    .obtain⟨rfl,ab⟩:=C;have r1:=(RS.later t j ab).1;have al:(j:N)<(es[k].aQ.length:N):=O
     have ae:oa name (es.take k) es[k] (j+1)=oa name (es.take k) es[k] j++[es[k].aQ[j].1]:=by
      unfold oa;rw[Zc ab,Zl,YU];rfl
     have ES:=aC ae
     have ar:(oa name (es.take k) es[k] j).length<=100*k+100:=by
      unfold oa;have:=Zk j es[k].aQ;simp only[YZ,ZE];omega
     have aa:=ja g s XC;have af:=aC aa;clear ae t s aa y
     go_wp2_with (first
      |(at_builtin;refine wpList_append_own _ rfl _ _ 38 rfl w 3 i0 (V Y 0) 1 8 underlying38 an ak aj ai rfl XC _ _ _ rfl (g.alloc _) (wr,0) 1 1 [V Y es[k].aQ[j].1] rfl rfl ?c1 ?c2 ?c3 ?c4 ?c5 ?_))
     .exact ZF (cs:=#[V Y es[k].aQ[j].1]) (cP wr _)
     .simp[ZG]
     .unfold maxLen;omega
     .omega
     .simp;omega
     intro v' w' x l _;have ad:X0 w w w':=(m.2.1.alloc ac _).grown l XG (fun k hk=>gi m.1 hk)
     have I:w'.heap[bx]?=U (Yh (qx es[k] B R) 58):=by
      have l1:bx<wr:=by
       by_cases S:bx<wr
       .exact S
       .have:=m.2.2;rw[Zw O] at this;cases this
      rw[l.block bx XG (fun e=>af e.symm)];exact (Below.heap_alloc wr _ bx l1).trans m.2.2
     have HK:Hid (w'.ownsRow w 3 1 v' (oa name (es.take k) es[k] (j+1)).length ((oa name (es.take k) es[k] (j+1)).map (V Y))):=by
      show w'.ownsRow _ _ _ _ _ _;rw[ES,Zl,YZ];exact x
     have ag:=aC (Yz ad I);clear x l ad I g m af r1 b4 b2
     go_wp21
     go_roundw
     .exact⟨j+1,O,fun e=>(by cases e),by go_num,HK,ag.1,ag.2⟩
     .simp[intOf];omega
    .have D:oa name (es.take k) es[k] j=aA.eW name (es.take (k+1)):=by
      rw[EE,oa,HQ]
      cases q with
      |false=>rw[y rfl];simp
      |true =>
       have:es[k].aQ.take j=es[k].aQ:=Ze (by have:¬ j<es[k].aQ.length:=fun h=>C ⟨rfl,h⟩;omega);rw[this];rfl
     have HK:Hid (wr.ownsRow w 3 1 u5 (aA.eW name (es.take (k+1))).length ((aA.eW name (es.take (k+1))).map (V Y))):=by
      show wr.ownsRow _ _ _ _ _ _;rw[<- D];exact g
     clear g t s D
     have Q:q=XW\/(q=XX/\¬ (j:N)<(es[k].aQ.length:N)):=by
      cases q with
      |false=>exact .inl rfl
      |true=>exact .inr ⟨rfl,fun h=>C ⟨rfl,O⟩⟩
     clear C;rcases Q with rfl|⟨rfl,al⟩
     .obtain rfl:=y rfl;clear y
      by_cases hz:(0:N)<(es[k].aQ.length:N)
      all_goals
       go_wp21
       go_roundw
       .exact⟨k+1,O,by go_num,HK,m.2.1⟩
       .simp[intOf];omega
     .clear y
      go_wp21
      go_roundw
      .exact⟨k+1,O,by go_num,HK,m.2.1⟩
      .simp[intOf];omega
  .have e:es.take k=es:=Ze O;have hi:¬ (k:N)<(es.length:N):=O
   rw[e] at g;have HB:=aC (Yz g t);clear t S g
   go_wp21
   go_ret;exact⟨_,rfl,HB.1,HB.2⟩
namespace aA
def bW(name:XK):J (XK × N)->N
 |[]=>0
 |t :: r=>if cO t.1 name then t.2 else bW name r
def qJ(c:N)(name:XK)(aM:N)(L:J (N × N))(es:J aO)(x:N):XN:=decide (0<dH L x) && decide (c<bZ name x es+dH L x*aM)
def pM(c:N)(name:XK)(aM:N)(L:J (N × N))(es:J aO)(l:J N):XN:=l.all fun x=>!qJ c name aM L es x
def eo(ts:J (XK × N))(es:J aO)(name:XK)(aM:N)(L:J (N × N)):XN:=pM (bW name ts) name aM L es (eW name es++L.map (·.1))
end aA
structure qh(w:XY)(d:M)(a:XM X5)(cap G:M)(ts:J (XK × N)):Prop where
 c:w.cell? (d,0)=U (X9 a ts.length cap)
 a:ts≠[]->a=U ⟨G,0,Z⟩
 r:∀ (i:M) (h:i<ts.length),w.cell? (G,i*2)=U (.string ts[i].1)/\w.cell? (G,i*2+1)=U (V Y ts[i].2)
theorem qh.later{G:M}(h:qh w d a cap G ts)(k:X0 w w w'):qh w' d a cap G ts :=
 ⟨aR k h.c,h.a,fun i g=>⟨aR k (h.r i g).1,aR k (h.r i g).2⟩⟩
theorem qh.at{G:M}(h:qh w d a cap G ts)(c:i<ts.length):a=U ⟨G,0,Z⟩:=h.a (by intro e;simp[e] at c)
theorem Ce(d:M)(a:XM X5)(cap G:M)(ts:J (XK × N))(name:XK)(w:XY)(h:qh w d a cap G ts)(D:ts.length<=1000):
  X4 prog 229 #[d,name] w fun e w'=>e=Yg (V Y (aA.bW name ts))/\w'=w:=by
 have H:=aC h;have K:=h.c;clear h
 go_in
 go_wp21
 go_loop [5] (fun i=>∃ k:M,k<=ts.length/\i=V Y k/\aA.bW name ts=aA.bW name (ts.drop k)) (fun i=>ts.length-(intOf i).toNat)
 .exact⟨0,Zd _,rfl,rfl⟩
 .obtain⟨k,I,rfl,x⟩:=hrel;have t:=aC x;clear x
  by_cases g:k<ts.length
  .obtain rfl:=H.at g;let⟨c0,c1⟩:=H.r k g;have C:(k:N)<(ts.length:N):=O
   have y:aA.bW name (ts.drop k)=if aA.cO ts[k].1 name then ts[k].2 else aA.bW name (ts.drop (k+1)):=by rw[ZH g];rfl
   have z:=aC y;clear y
   cases l:aA.cO ts[k].1 name
   .have s:(ts[k].1.toList==name.toList)=XW:=l;have m:Hid (aA.bW name ts=aA.bW name (ts.drop (k+1))):=by show aA.bW name ts=_;rw[t,z,l];rfl
    clear l
    go_wp21
    go_round
    .exact⟨k+1,O,by go_num,m⟩
    .simp[intOf];omega
   .have s:(ts[k].1.toList==name.toList)=XX:=l;have m:Hid (aA.bW name ts=ts[k].2):=by show aA.bW name ts=_;rw[t,z,l];rfl
    clear l
    go_wp21
    go_ret;exact⟨iy m.symm,rfl⟩
  .have e:ts.drop k=[]:=ZI O;have m:Hid (aA.bW name ts=0):=by show aA.bW name ts=0;rw[t,e];rfl
   have C:¬ (k:N)<(ts.length:N):=O
   clear e
   go_wp21
   go_ret;exact⟨iy m.symm,rfl⟩
theorem Gx(d:M)(a:XM X5)(cap E:M)(es:J aA.aO)(at_:XM X5)(ct G:M)(ts:J (XK × N))(name:XK)(aM:N)(B cb:M)(L:J (N × N))(w:XY)(h:nz w d a cap E es)(ht:qh w d at_ ct G ts)(hL:gS w B L)(hl:es.length<=1000)(au:ts.length<=1000)(X:∀ e∈es,aA.Small e)(a7:L.length<=100)(T:0<=aM)(ar:aM<=9):
  X4 prog 182 #[X8 (U ⟨d,0,Z⟩),.string name,V Y aM,X9 (U ⟨B,0,Z⟩) L.length cb] w fun e w'=>e=Yg (.bool (aA.eo ts es name aM L))/\X0 w.heap.size w w':=by
 obtain⟨i0,aw,aq,ao,an⟩:=info_parts pg;have ST:=aC (Hq d a cap E es name w h hl X);have UN:=aC (fun w' (k:X0 w.heap.size w w')=>Ce d at_ ct G ts name w' (ht.later k) au);have TM:=aC (fun t w' (k:X0 w.heap.size w w')=>G9 B cb L t w' (hL.later k) O);have TK:=aC (fun t w' (k:X0 w.heap.size w w')=>G8 d a cap E es name t w' (h.later k) hl X);have sz:=Cj name es X;have HL:=aC hL;have az:=aC (fun t=>aA.G7 name t es X);have P:aA.eo ts es name aM L=aA.pM (aA.bW name ts) name aM L es (aA.eW name es++L.map (·.1)):=rfl;rw[P];obtain⟨l,D⟩:∃ l,aA.eW name es++L.map (·.1)=l:=⟨_,rfl⟩
 have a4:l.length<=100100:=by
  rw[<- D];simp only[YZ,ZE];omega
 rw[D];have al:=aC D;generalize aA.bW name ts=most at *;clear h ht X hL P D
 go_in
 go_wp2_with fail
 refine ST.out.mono ?_;rintro e w1 ⟨v1,rfl,ab,ae⟩;have O1:=aC (Yz ab ae);clear ST ab ae
 go_wp2_with fail
 go_loopw [9,10] (fun v i wx=>∃ k:M,k<=L.length/\i=V Y k/\wx.ownsRow w.heap.size 3 1 v (aA.eW name es++(L.take k).map (·.1)).length ((aA.eW name es++(L.take k).map (·.1)).map (V Y))/\X0 w.heap.size w wx) (fun _ i _=>L.length-(intOf i).toNat)
 case atStart=>exact⟨0,Zd _,rfl,by simpa using O1.out.1,O1.out.2⟩
 case round =>
  obtain⟨k,hk,rfl,c,r⟩:=hrel;have K:=aC (Yz c r);have ax:=r.size
  by_cases ac:k<L.length
  .have r1:=(HL.out.later r k ac).1;have Q:(k:N)<(L.length:N):=O
   have aj:aA.eW name es++(L.take (k+1)).map (·.1)=(aA.eW name es++(L.take k).map (·.1))++[L[k].1]:=by
    rw[Zc ac,Zl,YU];rfl
   have ES:=aC aj
   have a8:(aA.eW name es++(L.take k).map (·.1)).length<=100100:=by
    have:=Zk k L;simp only[YZ,ZE];omega
   clear aj r
   go_wp2_with (first
    |(at_builtin;refine wpList_append_own _ rfl _ _ 38 rfl w.heap.size 3 i0 (V Y 0) 1 8 underlying38 aw aq ao an rfl XC _ _ _ rfl (c.alloc _) ⟨wr.heap.size,0,Z⟩ 1 1 [V Y L[k].1] rfl rfl (ZF (cs:=#[V Y L[k].1]) (cP wr _)) XI XH O XG ?_;intro v' w' s y _))
   have af:X0 w.heap.size w w':=(K.out.2.alloc ax _).grown y XG (fun k hk=>gi K.out.1 hk)
   have HK:Hid (w'.ownsRow w.heap.size 3 1 v' (aA.eW name es++(L.take (k+1)).map (·.1)).length ((aA.eW name es++(L.take (k+1)).map (·.1)).map (V Y))):=by
    show w'.ownsRow _ _ _ _ _ _;rw[ES.out,Zl,YZ];exact s
   have a3:=aC af;clear s y af c K r1
   go_wp2
   go_roundw
   case rel=>exact⟨k+1,by omega,by go_num,HK.out,a3.out⟩
   case measure=>simp[intOf];omega
  .have e:L.take k=L:=Ze O;have Q:¬ (k:N)<(L.length:N):=O
   rw[e,al.out] at c;obtain⟨a2,c2,g2,rfl,av,ai,aa⟩:=yO c;have R2:=aC (Yz ai (Yz aa r));clear c r e K ai aa av O1 al
   go_wp2_with fail
   refine (UN.out _ R2.out.2.2).mono ?_;rintro e w2 ⟨rfl,rfl⟩;clear UN
   go_wp2_with fail
   go_loopw [12,13] (fun i _ wx=>∃ j:M,j<=l.length/\i=V Y j/\aA.pM most name aM L es (l.take j)=XX/\X0 w2.heap.size w2 wx) (fun i _ _=>l.length-(intOf i).toNat)
   case atStart=>exact⟨0,Zd _,rfl,by simp[aA.pM],Below.refl _ _⟩
   case round =>
    obtain⟨j,hj,rfl,hf,r⟩:=hrel;have HF:=aC hf;have ad:=bM R2.out.2.2 r (zq _);have g:=aC ad;have HB:=aC r;clear hf ad
    by_cases I:j<l.length
    .obtain rfl:=R2.out.1 (by intro e;simp[e] at I);have c0:=aR r (R2.out.2.1 j I);have Q:(j:N)<(l.length:N):=O
     have W:aA.pM most name aM L es (l.take (j+1))=(aA.pM most name aM L es (l.take j) && !aA.qJ most name aM L es l[j]):=by
      unfold aA.pM;rw[Zc I,Zf];simp
     have ak:=aC W;have m:=aC (TM.out l[j]);have C:=aC (TK.out l[j]);have ay:=aA.rm L l[j];have a9:=az.out l[j]
     have ag:Hid (aA.qJ most name aM L es l[j]=XX->aA.pM most name aM L es l=XW):=by
      intro ho;unfold aA.pM;rw[List.all_eq_false];exact⟨l[j],List.getElem_mem I,by simp[ho]⟩
     have x:aA.qJ most name aM L es l[j]=(decide (0<aA.dH L l[j]) && decide (most<aA.bZ name l[j] es+aA.dH L l[j]*aM)):=rfl;have m0:0<=aA.dH L l[j]*aM:=Y9 ay.1 T;have m1:aA.dH L l[j]*aM<=900:=by have:aA.dH L l[j]*aM<=100*9:=Zb O ar T O;omega
     generalize aA.dH L l[j]=n at *;generalize aA.bZ name l[j] es=tk at *;have R:=aC x;clear W x r
     by_cases hn:0<n
     .by_cases hm:most<tk+n*aM
      .have HO:Hid (aA.qJ most name aM L es l[j]=XX):=by show _=XX;rw[R.out];simp[hn,hm]
       go_wp2_with fail
       refine (m.out _ g.out).mono ?_;rintro e w3 ⟨rfl,rfl⟩
       go_wp2_with fail
       refine (C.out _ g.out).mono ?_;rintro e w4 ⟨rfl,z⟩;have S:=aC (bM g.out z (zq _));clear z m C TM TK
       go_wp2
       go_ret;exact⟨pv (ag.out HO.out).symm,S.out⟩
      .have HO:Hid (aA.qJ most name aM L es l[j]=XW):=by show _=XW;rw[R.out];simp[hm]
       go_wp2_with fail
       refine (m.out _ g.out).mono ?_;rintro e w3 ⟨rfl,rfl⟩
       go_wp2_with fail
       refine (C.out _ g.out).mono ?_;rintro e w4 ⟨rfl,z⟩;have S:=aC (bM HB.out z (zq _));clear z m C TM TK
       go_wp2
       go_roundw
       case rel=>exact⟨j+1,by omega,by go_num,by rw[ak.out,HF.out,HO.out];rfl,S.out⟩
       case measure=>simp[intOf];omega
     .have HO:Hid (aA.qJ most name aM L es l[j]=XW):=by show _=XW;rw[R.out];simp[hn]
      go_wp2_with fail
      refine (m.out _ g.out).mono ?_;rintro e w3 ⟨rfl,rfl⟩;clear m C TM TK
      go_wp2
      go_roundw
      case rel=>exact⟨j+1,by omega,by go_num,by rw[ak.out,HF.out,HO.out];rfl,HB.out⟩
      case measure=>simp[intOf];omega
    .have e:l.take j=l:=Ze O;have Q:¬ (j:N)<(l.length:N):=O
     rw[e] at HF;clear e r
     go_wp2
     go_ret;exact⟨pv HF.out.symm,g.out⟩
namespace aA
def kc(id:N):J aO->N->N
 |[],_=>-1
 |e :: r,i=>if e.id=id then i else kc id r (i+1)
def eM(es:J aO):N:=((es.filter fun e=>e.kind==3).length:N)
def eB(ts:J (XK × N))(name:XK)(aM:N):N:=if bW name ts=0 then 3 else if bW name ts<aM then 7 else 0
end aA
def eH(x:aA.aO × M × M):J XZ:=[x.1.id,x.1.kind,x.1.bA,x.1.aM,X9 x.2.1 x.1.aQ.length x.2.2,x.1.bP]
structure rD(w:XY)(d:M)(a:XM X5)(cap E:M)(xs:J (aA.aO × M × M)):Prop where
 c:w.cell? (d,1)=U (X9 a xs.length cap)
 a:xs≠[]->a=U ⟨E,0,Z⟩
 r:∀ (i:M) (h:i<xs.length),RE w E i xs[i].1 xs[i].2.1 xs[i].2.2
theorem rD.de{g:J (aA.aO × M × M)}(h:rD w d a cap E g):nz w d a cap E (g.map (·.1)) :=
 ⟨by rw[ZE];exact h.c,fun l=>h.a (by intro e;simp[e] at l),fun i m=>by
  have k:i<g.length:=by simpa using m
  exact⟨g[i].2.1,g[i].2.2,by simpa using h.r i k⟩⟩
theorem rD.later{xs:J (aA.aO × M × M)}(h:rD w d a cap E xs)(k:X0 w w w'):rD w' d a cap E xs:=⟨aR k h.c,h.a,fun i g=>(h.r i g).later k⟩
theorem rD.at{c:J (aA.aO × M × M)}(h:rD w d a cap E c)(g:i<c.length):a=U ⟨E,0,Z⟩:=h.a (by intro e;simp[e] at g)
theorem OZ(d:M)(a:XM X5)(cap E:M)(es:J aA.aO)(id:N)(w:XY)(h:nz w d a cap E es)(D:es.length<=1000):
  X4 prog 233 #[d,id] w fun e w'=>e=Yg (V Y (aA.kc id es 0))/\w'=w:=by
 have H:=aC h;have K:=h.c;clear h
 go_in
 go_wp21
 go_loop [5] (fun i=>∃ k:M,k<=es.length/\i=V Y k/\aA.kc id es 0=aA.kc id (es.drop k) k) (fun i=>es.length-(intOf i).toNat)
 .exact⟨0,Zd _,rfl,rfl⟩
 .obtain⟨k,I,rfl,x⟩:=hrel;have t:=aC x;clear x
  by_cases g:k<es.length
  .obtain rfl:=H.at g;let⟨B,cp,hr⟩:=H.r k g;have P:=hr.c0;have C:(k:N)<(es.length:N):=O
   have y:aA.kc id (es.drop k) k=if es[k].id=id then (k:N) else aA.kc id (es.drop (k+1)) (k+1):=by rw[ZH g];rfl
   have z:=aC y;clear y hr
   by_cases l:es[k].id=id
   .have s:(es[k].id==id)=XX:=by simp[l]
    have m:Hid (aA.kc id es 0=k):=by show aA.kc id es 0=k;rw[t,z,XS l]
    clear l
    go_wp21
    go_ret;exact⟨iy m.symm,rfl⟩
   .have s:(es[k].id==id)=XW:=by simp[l]
    have m:Hid (aA.kc id es 0=aA.kc id (es.drop (k+1)) ((k+1:M):N)):=by show aA.kc id es 0=_;rw[t,z,XR l];rfl
    clear l
    go_wp21
    go_round
    .exact⟨k+1,O,by go_num,m⟩
    .simp[intOf];omega
  .have e:es.drop k=[]:=ZI O;have m:Hid (aA.kc id es 0=-1):=by show aA.kc id es 0=-1;rw[t,e];rfl
   have C:¬ (k:N)<(es.length:N):=O
   clear e
   go_wp21
   go_ret;exact⟨iy m.symm,rfl⟩
theorem P4(d:M)(a:XM X5)(cap E:M)(es:J aA.aO)(w:XY)(h:nz w d a cap E es)(y:es.length<=1000):
  X4 prog 231 #[d] w fun e w'=>e=Yg (V Y (aA.eM es))/\w'=w:=by
 have H:=aC h;have C:=h.c;clear h
 go_in
 go_wp21
 go_loop [3,4] (fun n i=>∃ k:M,k<=es.length/\i=V Y k/\n=V Y (aA.eM (es.take k))) (fun _ i=>es.length-(intOf i).toNat)
 .exact⟨0,Zd _,rfl,rfl⟩
 .obtain⟨k,z,rfl,rfl⟩:=hrel
  have I:0<=aA.eM (es.take k)/\aA.eM (es.take k)<=k:=by
   unfold aA.eM;have:=ZA (fun e:aA.aO=>e.kind==3) (es.take k);have:=Zk k es;omega
  by_cases g:k<es.length
  .obtain rfl:=H.at g;let⟨B,cp,hr⟩:=H.r k g;have D:=hr.c1;have x:(k:N)<(es.length:N):=O
   have s:aA.eM (es.take (k+1))=aA.eM (es.take k)+if es[k].kind==3 then 1 else 0:=by
    unfold aA.eM;rw[Zc g,YJ,YZ]
    cases l:(es[k].kind==3) <;> simp[l]
   have t:=aC s;clear s hr;generalize aA.eM (es.take k)=n at *
   cases l:(es[k].kind==3)
   .have m:Hid (aA.eM (es.take (k+1))=n):=by show _=n;rw[t,l];simp
    go_wp21
    go_round
    .exact⟨k+1,O,by go_num,by rw[m]⟩
    .simp[intOf];omega
   .have m:Hid (aA.eM (es.take (k+1))=n+1):=by show _=n+1;rw[t,l];simp
    go_wp21
    go_round
    .exact⟨k+1,O,by go_num,by rw[m]⟩
    .simp[intOf];omega
  .have e:es.take k=es:=Ze O;have x:¬ (k:N)<(es.length:N):=O
   go_wp21
   go_ret;exact⟨iy (by first|rfl|rw[e]),rfl⟩
theorem Pv(d:M)(a:XM X5)(cap G:M)(ts:J (XK × N))(name:XK)(aM:N)(w:XY)(h:qh w d a cap G ts)(x:ts.length<=1000):
  X4 prog 230 #[d,name,aM] w fun e w'=>e=Yg (V Y (aA.eB ts name aM))/\w'=w:=by
 have m:=aC (Ce d a cap G ts name w h x);have g:Hid (aA.eB ts name aM=if aA.bW name ts=0 then 3 else if aA.bW name ts<aM then 7 else 0):=rfl;generalize aA.bW name ts=n at *;generalize aA.eB ts name aM=r at *;clear h
 by_cases c:n=0
 .have k:Hid (r=3):=by show r=3;rw[g,XS c]
  have l:(n==0)=XX:=by simp[c]
  clear c g
  go_in
  go_wp21
  refine m.mono ?_;rintro e s ⟨rfl,rfl⟩
  go_wp21
  go_ret;exact⟨iy k.out.symm,rfl⟩
 .have l:(n==0)=XW:=by simp[c]
  by_cases t:n<aM
  .have k:Hid (r=7):=by show r=7;rw[g,XR c,XS t]
   clear c g
   go_in
   go_wp21
   refine m.mono ?_;rintro e s ⟨rfl,rfl⟩
   go_wp21
   go_ret;exact⟨iy k.out.symm,rfl⟩
  .have k:Hid (r=0):=by show r=0;rw[g,XR c,XR t]
   clear c g
   go_in
   go_wp21
   refine m.mono ?_;rintro e s ⟨rfl,rfl⟩
   go_wp21
   go_ret;exact⟨iy k.out.symm,rfl⟩
theorem yK:(prog.info? 58).map (fun i=>(i.zero,i.size,i.bytes))=U (U (.agg #[V Y 0,V Y 0,.string ⟨#[]⟩,V Y 0,(),V Y 0]),6,72):=XF
def gD(id:N)(c:J (aA.aO × M × M)):J (aA.aO × M × M):=c.filter fun x=>x.1.id != id
theorem yQ(x:aA.aO × M × M):(eH x).length=6:=rfl
theorem GH(c:J (aA.aO × M × M)):(c.flatMap eH).length=c.length*6:=by
 induction c with
 |nil=>rfl
 |cons x c ih=>simp only[Zp,YZ,Y0,ih,yQ];omega
theorem yN{r:M}{c:J (aA.aO × M × M)}(h:w.ownsRow r 58 6 v n (c.flatMap eH))(t:∀ x∈c,gS w x.2.1 x.1.aQ):∃ a cap g,v=X9 a n cap/\n=c.length/\(c≠[]->a=U ⟨g,0,Z⟩)/\∀ (i:M)(s:i<c.length),RE w g i c[i].1 c[i].2.1 c[i].2.2:=by
 have I:=h.1;rw[GH] at I;have C:n=c.length:=O
 rcases h.2 with ⟨rfl,Q⟩|⟨g,cap,z,rfl,T,K,h1,X,W,P⟩
 .subst Q;have:c=[]:=Y6.1 C.symm;subst this;exact⟨Z,0,0,rfl,rfl,fun h=>XT rfl h,fun i s=>by simp at s⟩
 .refine⟨U ⟨g,0,Z⟩,cap,g,rfl,C,fun _=>rfl,fun i s=>?_⟩
  have k:∀ (j:M) (u:XZ),j<6->(eH c[i])[j]?=U u->w.cell? (g,i*6+j)=U u:=by
   intro j u S D
   have R:(c.flatMap eH)[i*6+j]?=U u:=by
    have l:c=c.take i++c[i] :: c.drop (i+1):=by rw[Zq,Y8]
    rw[l,Zr,Zp];have m:((c.take i).flatMap eH).length=i*6:=by rw[GH,Zs O]
    rw[Zt O,m,Zu,Zn (by rw[yQ];omega)];exact D
   have y:(z.toList.take (n*6))[i*6+j]?=U u:=by rw[P];exact R
   rw[Zo O] at y;simp only[ZC] at y;simp[YF,K,y]
  exact⟨k 0 _ O rfl,k 1 _ O rfl,k 2 _ O rfl,k 3 _ O rfl,k 4 _ O rfl,k 5 _ O rfl,t _ (zg s)⟩
theorem P7(d:M)(a:XM X5)(cap E:M)(xs:J (aA.aO × M × M))(id:N)(w:XY)(h:rD w d a cap E xs)(hl:xs.length<=1000):
  X4 prog 234 #[X8 (U ⟨d,0,Z⟩),V Y id] w fun e w'=>∃ v,e=Yg v/\w'.ownsRow w.heap.size 58 6 v (gD id xs).length ((gD id xs).flatMap eH)/\X0 w.heap.size w w':=by
 obtain⟨i0,R,Q,P,K⟩:=info_parts yK;have H:=aC h;clear h
 go_in
 go_wp2_with fail
 go_loopw [5,6] (fun v i wx=>∃ k:M,k<=xs.length/\i=V Y k/\wx.ownsRow w.heap.size 58 6 v (gD id (xs.take k)).length ((gD id (xs.take k)).flatMap eH)/\X0 w.heap.size w wx) (fun _ i _=>xs.length-(intOf i).toNat)
 case atStart=>exact⟨0,Zd _,rfl,ZD _ _ _ _,Below.refl _ _⟩
 case round =>
  obtain⟨k,X,rfl,g,z⟩:=hrel;have D:=H.out.later z;have cc:=D.c;have l:=aC (Yz g z);have S:=z.size
  have bl:(gD id (xs.take k)).length<=k:=by
   have:=ZA (fun x:aA.aO × M × M=>x.1.id != id) (xs.take k);have:=Zk k xs;unfold gD;omega
  by_cases y:k<xs.length
  .obtain rfl:=H.out.at y;have t:=D.r k y;have c0:=t.c0;have c1:=t.c1;have c2:=t.c2;have c3:=t.c3;have c4:=t.c4;have c5:=t.c5;have hi:(k:N)<(xs.length:N):=O
   have ed:gD id (xs.take (k+1))=gD id (xs.take k)++if xs[k].1.id != id then [xs[k]] else []:=by
    unfold gD;rw[Zc y,YJ]
    cases I:(xs[k].1.id != id) <;> simp[I]
   have ED:=aC ed;clear ed t D
   cases I:(xs[k].1.id != id)
   .have T:Hid (gD id (xs.take (k+1))=gD id (xs.take k)):=by show _=_;rw[ED.out,I];simp
    clear g z
    go_wp2
    go_roundw
    case rel=>exact⟨k+1,by omega,by go_num,by rw[T.out];exact l.out.1,l.out.2⟩
    case measure=>simp[intOf];omega
   .have T:Hid (gD id (xs.take (k+1))=gD id (xs.take k)++[xs[k]]):=by show _=_;rw[ED.out,I];simp
    clear z
    go_wp2_with (first
     |(at_builtin;refine wpList_append_own _ rfl _ _ 34 rfl w.heap.size 58 i0 _ 6 72 underlying34 R Q P K rfl XC _ _ _ rfl (g.alloc _) ⟨wr.heap.size,0,Z⟩ 1 1 (eH xs[k]) rfl rfl (ZF (cs:=(eH xs[k]).toArray) (cP wr _)) (by simp[eH,ZG]) XH O XG ?_;intro v' w' m s _))
    have C:X0 w.heap.size w w':=(l.out.2.alloc S _).grown s XG (fun k X=>gi l.out.1 X)
    have HK:Hid (w'.ownsRow w.heap.size 58 6 v' (gD id (xs.take (k+1))).length ((gD id (xs.take (k+1))).flatMap eH)):=by
     show w'.ownsRow _ _ _ _ _ _;rw[T.out,Zr,YZ]
     simpa using m
    have W:=aC C;clear m s C g l c0 c1 c2 c3 c4 c5 cc
    go_wp2
    go_roundw
    case rel=>exact⟨k+1,by omega,by go_num,HK.out,W.out⟩
    case measure=>simp[intOf];omega
  .have e:xs.take k=xs:=Ze O;have hi:¬ (k:N)<(xs.length:N):=O
   rw[e] at l;clear g z D e
   go_wp2
   go_ret;exact⟨_,rfl,l.out.1,l.out.2⟩
def ke(t:XK × N):J XZ:=[t.1,V Y t.2]
structure RD(w:XY)(d:M)(ts:J (XK × N))(xs:J (aA.aO × M × M))(given now:N)(F:J M):Prop where
 tv:∃ v,w.cell? (d,0)=U v/\w.ownsRow 0 315 2 v ts.length (ts.flatMap ke)/\∀ k,v.ownBlock=U k->k∈F/\k≠d
 ev:∃ v,w.cell? (d,1)=U v/\w.ownsRow 0 58 6 v xs.length (xs.flatMap eH)/\∀ k,v.ownBlock=U k->k∈F/\k≠d
 c2:w.cell? (d,2)=U ↑given
 c3:w.cell? (d,3)=U ↑now
 fz:∀ o,w.frozen? ⟨d,o,Z⟩=XW
 dF:d∈F
 sp:∀ x∈xs,gS w x.2.1 x.1.aQ/\x.2.1 ∉ F/\x.2.1<w
theorem RD.dx{xs:J (aA.aO × M × M)}{now:N}(h:RD w d ts xs given now F):∃ a cap E,rD w d a cap E xs:=by
 let⟨v,c,ho,_⟩:=h.ev;obtain⟨a,cap,g,rfl,r,m,l⟩:=yN ho (fun x k=>(h.sp x k).1);exact⟨a,cap,g,c,m,l⟩
theorem OQ(ts:J (XK × N)):(ts.flatMap ke).length=ts.length*2:=by
 induction ts with
 |nil=>rfl
 |cons x xs ih=>simp only[Zp,YZ,Y0,ih,ke,Y7];omega
theorem RD.dt{x:J (aA.aO × M × M)}{now:N}(h:RD w d ts x given now F):∃ a cap G,qh w d a cap G ts:=by
 let⟨v,c,ho,_⟩:=h.tv;have K:=ho.1;rcases ho.2 with ⟨rfl,D⟩|⟨g,cap,s,rfl,Q,z,T,S,R,C⟩
 .have:ts=[]:=Y6.1 D;subst this;exact⟨Z,0,0,c,fun h=>XT rfl h,fun i t=>by simp at t⟩
 .refine⟨U ⟨g,0,Z⟩,cap,g,c,fun _=>rfl,fun i t=>?_⟩
  have l:∀ (j:M) (u:XZ),j<2->(ke ts[i])[j]?=U u->w.cell? (g,i*2+j)=U u:=by
   intro j u P y
   have I:(ts.flatMap ke)[i*2+j]?=U u:=by
    have k:ts=ts.take i++ts[i] :: ts.drop (i+1):=by rw[Zq,Y8]
    rw[k,Zr,Zp];have m:((ts.take i).flatMap ke).length=i*2:=by rw[OQ,Zs O]
    rw[Zt O,m,Zu,Zn (by simp[ke];omega)];exact y
   have r:(s.toList.take (ts.length*2))[i*2+j]?=U u:=by rw[C];exact I
   rw[Zo O] at r;simp only[ZC] at r;simp[YF,z,r]
  exact⟨l 0 _ O rfl,l 1 _ O rfl⟩
theorem cV{c size:M}{xs:J XZ}(h:w.ownsRow c e size v n xs)(k:aH G w w')(x:∀ b,v.ownBlock=U b->b ∉ G):w'.ownsRow c e size v n xs:=by
 refine⟨h.1,?_⟩;rcases h.2 with z|⟨g,cap,r,s,y,m,rest⟩
 .exact .inl z
 .refine .inr ⟨g,cap,r,s,y,?_,rest⟩
  have l:g<w:=by
   by_cases t:g<w
   .exact t
   .rw[Zw O] at m;cases m
  rw[k.block g l (x g (by rw[s];rfl))];exact m
theorem RD.off{l:J (aA.aO × M × M)}{now:N}(h:RD w d ts l given now F)(k:aH G w w')(r:∀ x∈F,x ∉ G)(s:∀ x∈l,x.2.1 ∉ G):RD w' d ts l given now F:=by
 have c:d ∉ G:=r d h.dF;let⟨v1,a1,a2,a3⟩:=h.tv;let⟨v2,b1,b2,b3⟩:=h.ev
 exact⟨⟨v1,k.cell c a1,cV a2 k (fun b m=>r b (a3 b m).1),a3⟩,⟨v2,k.cell c b1,cV b2 k (fun b m=>r b (b3 b m).1),b3⟩,k.cell c h.c2,k.cell c h.c3,
  fun o=>(k.frozen c (Yl _ _ h.c2)).trans (h.fz o),h.dF,fun x g=>⟨(h.sp x g).1.off k (s x g),(h.sp x g).2.1,Zg (h.sp x g).2.2 k.size⟩⟩
def tA(c n:N):XZ:=.agg #[c,V Y 0,n,(),(),(),()]
def mz(w:XY)(d o:M)(v:XZ)(g:J Hp.Hi)(w':XY):Prop :=
 ∃ v',HP w' d o v' g/\(∀ b,v'.ownBlock=U b->v.ownBlock=U b\/w.heap.size<=b)/\aH (d :: v.ownBlock.toList) w w'/\(∀ c,c≠o->w'.cell? ⟨d,c,Z⟩=w.cell? ⟨d,c,Z⟩)/\∀ c,w'.frozen? ⟨d,c,Z⟩=w.frozen? ⟨d,c,Z⟩
theorem Vn{m:J Hp.Hi}(h:m.length=n+1)(a b c:XZ):(((m.flatMap jb).set (n*3) a).set (n*3+1) b).set (n*3+2) c=(m.take n).flatMap jb++[a,b,c]:=by
 have k:n<m.length:=O
 have g:((m.take n).flatMap jb).length=n*3:=by rw[Ai,Zs O]
 conv=>lhs;rw[EH k,Zr,Zp]
 rw[Zv _ _ O,Zv _ _ O,Zv _ _ O,g];rw[show n*3-n*3=0 from by omega,show n*3+1-n*3=1 from by omega,show n*3+2-n*3=2 from by omega];have e:m.drop (n+1)=[]:=ZI O;simp[jb,e]
def xv(w:XY)(H p n:M)(x:Hp.Hi):XY :=
 (((((w.setCell (H,p*3) x.t).setCell (H,p*3+1) (V Y x.n)).setCell (H,p*3+2) x.v).setCell (H,n*3) (V Y 0)).setCell (H,n*3+1) (V Y 0)).setCell (H,n*3+2) (X8 Z)
theorem VP(w:XY)(H p n:M)(x:Hp.Hi):aH [H] w (xv w H p n x):=(vt _ _ _ _ _ _ _ _).trans (vt _ _ _ _ _ _ _ _)
theorem HP.xv{l:J Hp.Hi}(h:HP w d o (X9 (U ⟨H,0,Z⟩) l.length cap) l)(m:l.length=n+1)(y:p<l.length):
  HP ((xv w H p n (Hp.at_ l n)).setCell ⟨d,o,Z⟩ (X9 (U ⟨H,0,Z⟩) n cap)) d o (X9 (U ⟨H,0,Z⟩) (Hp.cut l p).length cap) (Hp.cut l p):=by
 have g:d≠H:=fun e=>h.ne (by rw[e];rfl)
 have k:=VP w H p n (Hp.at_ l n);have z:=k.cell (by simpa using g) h.c;have a:=h.put y (Hp.at_ l n);have e:Hp.cut l p=(l.set p (Hp.at_ l n)).take n:=by unfold Hp.cut;rw[m];rfl
 have r:(Hp.cut l p).length=n:=by rw[Hp.qZ,m];rfl
 have s:(l.set p (Hp.at_ l n)).length=n+1:=by simpa using m
 have b:=(((a.own.stored (n*3) (V Y 0)).1.stored (n*3+1) (V Y 0)).1.stored (n*3+2) (X8 Z)).1;rw[Vn s,s,<- e] at b;have C:=ownsRow_pop (by rw[Ai,r]) b;refine⟨?_,?_,h.ne,?_⟩
 .rw[r];exact zm _ _ _ z
 .rw[r];exact cV C (aH.bD d _ o _) (fun x t=>by simp;rintro rfl;exact g (by simpa[ZB] using t.symm))
 .exact (zF ..).trans ((k.frozen (by simpa using g) (Yl _ _ h.c)).trans h.fz)
theorem mz.of{g:XY}{l1 m:J Hp.Hi}(s:v.ownBlock=U H)(C:d<w.heap.size)(k:d≠H)(t:aH [d,H] w g)(D:∀ c,c≠o->g.cell? ⟨d,c,Z⟩=w.cell? ⟨d,c,Z⟩)(z:∀ c,g.frozen? ⟨d,c,Z⟩=w.frozen? ⟨d,c,Z⟩)(l:mw g w2 d o H l1.length cap l1 m):mz w d o v m w2:=by
 have h:w2.heap[d]?=g.heap[d]?:=l.off.block d (zL C t.size) (by simpa using k);refine⟨_,l.hp,fun b h=>.inl (by rw[s];exact h),?_,fun c y=>(zo h).trans (D c y),fun c=>?_⟩
 .rw[s];exact t.trans' l.off (fun x r=>.inl (by simp at r;simp[r]))
 .exact (ZJ h).trans (z c)
theorem KD(d o:M)(v:XZ)(l:J Hp.Hi)(p:M)(w:XY)(h:HP w d o v l)(hh:Hp.gO l)(R:p<l.length)(hl:l.length<=1000):
  X4 prog 204 #[X8 (U ⟨d,o,XU⟩),V Yf p] w fun e w'=>e=Yg (Yc #[])/\∃ r,mz w d o v r w'/\Hp.gO r/\l.Perm (Hp.at_ l p :: r):=by
 obtain⟨H,cap,rfl⟩:=h.form O;obtain⟨n,hn⟩:∃ n,l.length=n+1:=⟨l.length-1,by omega⟩;have c:=h.c;have m:d≠H:=fun e=>h.ne (by rw[e];rfl)
 obtain⟨a0,a1,a2⟩:=h.at R;obtain⟨b0,b1,b2⟩:=h.at (i:=n) O;have fz:∀ k,w.frozen? ⟨H,k,XU⟩=XW:=fun k=>h.own.frozenAt k
 have fd:=h.fz;have CL:=aC (h.xv hn R);have e0:=(h.put R (Hp.at_ l n)).at (i:=n) XG;have ee:Hp.at_ (l.set p (Hp.at_ l n)) n=Hp.at_ l n:=by rw[Hp.zC];split <;> rfl
 rw[ee] at e0;obtain⟨y0,y1,y2⟩:=e0;clear ee;have i1:(p:N)<(l.length:N):=O
 have HH:=aC h;clear h;rw[hn] at c i1;generalize hx:Hp.at_ l n=x at *
 go_in
 go_upto_region 1 with fail
 go_big_region
 have P:aH [H] w (((w.setCell ⟨H,p*3,XU⟩ (V Yf x.t)).setCell ⟨H,p*3+1,XU⟩ (V Yf x.n)).setCell ⟨H,p*3+2,XU⟩ (X8 (U ⟨x.v,0,XU⟩))):=vt _ _ _ _ _ _ _ _;have c1:=P.cell (by simpa using m) c;have ab:=(P.frozen (o:=o) (by simpa using m) (Yl _ _ c)).trans fd;have ac:∀ k,(((w.setCell ⟨H,p*3,XU⟩ (V Yf x.t)).setCell ⟨H,p*3+1,XU⟩ (V Yf x.n)).setCell ⟨H,p*3+2,XU⟩ (X8 (U ⟨x.v,0,XU⟩))).frozen? ⟨H,k,XU⟩=XW:=fun k=>by simp[World.frozen?_setCell,fz]
 unfold xv at CL;generalize hX:(((w.setCell ⟨H,p*3,XU⟩ (V Yf x.t)).setCell ⟨H,p*3+1,XU⟩ (V Yf x.n)).setCell ⟨H,p*3+2,XU⟩ (X8 (U ⟨x.v,0,XU⟩)))=X at *;clear hX;have K:=vt X H (n*3) (n*3+1) (n*3+2) (V Yf 0) (V Yf 0) (X8 XU);have c2:=K.cell (by simpa using m) c1;have ad:=(K.frozen (o:=o) (by simpa using m) (Yl _ _ c1)).trans ab
 go_upto_region 3 with fail
 generalize hY:((X.setCell ⟨H,n*3,XU⟩ (V Yf 0)).setCell ⟨H,n*3+1,XU⟩ (V Yf 0)).setCell ⟨H,n*3+2,XU⟩ (X8 XU)=Y at *;clear hY
 have aa:n+1<=cap:=by
  have h:=HH.out.own.2;rcases h with ⟨h0,_⟩|⟨g,ae,ag,hv,_,_,h1,_⟩
  .cases h0
  .cases hv;omega
 have C:(n:N)<=(cap:N):=O
 have oo:aH [d,H] w (Y.setCell ⟨d,o,XU⟩ (X9 (U ⟨H,0,XU⟩) n cap)):=((P.trans K).mono XA).setCell (.inl XA) _ _;have s:d<w.heap.size:=Yl _ _ c
 have W:∀ y,y≠o->(Y.setCell ⟨d,o,XU⟩ (X9 (U ⟨H,0,XU⟩) n cap)).cell? ⟨d,y,XU⟩=w.cell? ⟨d,y,XU⟩:=fun y ho =>
  (zS _ _ _ _ (by have:=ho;simp)).trans (zo ((P.trans K).block d s (by simpa using m)))
 have T:∀ y,(Y.setCell ⟨d,o,XU⟩ (X9 (U ⟨H,0,XU⟩) n cap)).frozen? ⟨d,y,XU⟩=w.frozen? ⟨d,y,XU⟩:=fun y =>
  (zF ..).trans (ZJ ((P.trans K).block d s (by simpa using m)))
 have D:=aC (Yz oo (Yz W T));have el:(Hp.cut l p).length=n:=by rw[Hp.qZ,hn];rfl
 clear oo W T P K c c1 a0 a1 a2 b0 b1 b2 y0 y1 y2 fz ac fd ab
 by_cases af:p<n
 .have S:(p:N)<(n:N):=O
  go_upto_region 5 with fail
  generalize hZ:Y.setCell ⟨d,o,XU⟩ (X9 (U ⟨H,0,XU⟩) n cap)=Z at *;have SK:=aC (SQ d o H cap (Hp.cut l p) p Z.drew (CL.out.off (G:=[]) (aH.refl _ _).drew XA XA) O (Hp.R9 hh O) O);clear hZ aa C c2 ad
  go_wp2_with fail
  refine SK.out.mono ?_;rintro e w4 ⟨rfl,l2,t2,r2⟩;have T2:=aC t2;have z:=t2.len;have RS:=aC (Jh d o H cap l2 p w4 (by rw[z];exact t2.hp) O r2 O);clear t2 r2 SK
  go_wp2_with fail
  refine RS.out.mono ?_;rintro e w5 ⟨rfl,l3,I,r3⟩
  have HF:Hid (∃ r,mz w d o (X9 (U ⟨H,0,XU⟩) l.length cap) r w5/\Hp.gO r/\l.Perm (Hp.at_ l p :: r)):=by
   refine⟨l3,mz.of (l1:=Hp.cut l p) rfl s m D.out.1 D.out.2.1 D.out.2.2 ⟨by rw[el,<- el,<- z];exact I.hp,by rw[I.len,z],I.perm.trans T2.out.perm,((aH.refl [H] Z).drew).trans (T2.out.off.trans I.off)⟩,r3,?_⟩;exact (Hp.Ja R).trans ((I.perm.trans T2.out.perm).symm.cons _)
  clear I r3 T2 RS
  go_wp2
  go_end0
  exact⟨rfl,HF.out⟩
 .have S:¬ ((p:N)<(n:N)):=O
  have Q:p=n:=O
  have HF:Hid (∃ r,mz w d o (X9 (U ⟨H,0,XU⟩) l.length cap) r (Y.setCell ⟨d,o,XU⟩ (X9 (U ⟨H,0,XU⟩) n cap)).drew/\Hp.gO r/\l.Perm (Hp.at_ l p :: r)):=by
   refine⟨Hp.cut l p,mz.of (l1:=Hp.cut l p) rfl s m D.out.1 D.out.2.1 D.out.2.2 ⟨CL.out.off (G:=[]) (aH.refl _ _).drew XA XA,rfl,.refl _,(aH.refl _ _).drew⟩,?_,Hp.Ja R⟩;rw[Q,show n=l.length-1 by omega];exact Hp.RZ hh
  clear CL D hn hx Q el
  go_wp2
  go_end0
  exact⟨rfl,HF.out⟩
theorem Vu(d o:M)(v:XZ)(l:J Hp.Hi)(t:N)(w:XY)(h:HP w d o v l)(I:Hp.gO l)(D:l.length<=1000):
  X4 prog 218 #[X8 (U ⟨d,o,Z⟩),t] w fun e w' =>
   ((l.length=0\/t<(Hp.at_ l 0).t)/\e=Yg (Yc #[X8 Z,XW])/\w'=w) \/
   ((0<l.length/\(Hp.at_ l 0).t<=t)/\e=Yg (Yc #[X8 (U ⟨(Hp.at_ l 0).v,0,Z⟩),XX])/\∃ x,mz w d o v x w'/\Hp.gO x/\l.Perm (Hp.at_ l 0 :: x)):=by
 have m:=aC (KZ d o v l w h)
 by_cases r:l.length=0
 .have z:uL l=XW:=by simp[uL,r]
  rw[z] at m;have s:Hid (l.length=0\/t<(Hp.at_ l 0).t):=.inl r;clear h z r
  go_in
  go_wp21
  refine m.mono ?_;rintro e y ⟨rfl,rfl⟩
  go_wp21
  go_ret2;exact .inl ⟨s,rfl,rfl⟩
 .have g:0<l.length:=O
  rw[Ds g,Dt g] at m
  by_cases ht:t<(Hp.at_ l 0).t
  .have s:Hid (l.length=0\/t<(Hp.at_ l 0).t):=.inr ht;clear h r
   go_in
   go_wp21
   refine m.mono ?_;rintro e y ⟨rfl,rfl⟩
   go_wp21
   go_ret2;exact .inl ⟨s,rfl,rfl⟩
  .obtain⟨H,cap,rfl⟩:=h.form g;have c:=h.c;let⟨a0,a1,a2⟩:=h.at g;simp only[Zy,Nat.zero_add] at a0 a1 a2;have C:=aC (KD d o _ l 0 w h I g D);have s:Hid (0<l.length/\(Hp.at_ l 0).t<=t):=⟨g,O⟩;have P:(0:N)<(l.length:N):=O
   clear h r
   go_in
   go_wp21
   refine m.mono ?_;rintro e y ⟨rfl,rfl⟩
   go_wp21
   refine C.mono ?_;rintro e w2 ⟨rfl,k⟩;have K:=aC k;clear k C m
   go_wp21
   go_ret2;exact .inr ⟨s,rfl,K⟩
end Go.Proofs.YtfigmlfdnickmaaGreatDoor
