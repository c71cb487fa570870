import Derived.Test.YtolaacmheeaadaaGreatDoorL01
import Derived.Lib.SmallJoins
import Derived.Deep.AppendLies
import Derived.Deep.RegionLaw
set_option maxRecDepth 100000
set_option maxHeartbeats 8000000
open Go.Proofs.Tryz
open _root_ renaming ByteArray->Us,List->Ut,Option->Uu,Bool->Uv,Nat->Uw,Int->Ux,if_neg->Uy,if_pos->Uz,absurd->UA,Int->N,Nat->M,List->J
open Option renaming none->UB,some->UC,none->Z,some->U
open Bool renaming false->UD,true->UE
open Go renaming World->UF,Value->UG,Calls->UI,Addr->UJ
open Go.RowKit renaming Below->UH
open List renaming nodup_cons->Vd,nodup_append->Vi,mem_append->Vb,mem_cons->Va,length_append->VA,length_cons->VB,length->VD,cons_append->Vm,length_eq_zero_iff->VF,filter_append->Vo,length_nil->VG,take_append_drop->VH,take_succ_eq_append_getElem->VL,take_of_length_le->VN,all_append->VO,mem_map->VQ,take_sublist->VR,mem_of_mem_take->VS,length_take_le->VT,map_append->VU,getElem?_append_left->VV,flatMap_cons->VW,flatMap_append->VX,length_take_of_le->VY,getElem?_append_right->VZ,set_append_right->V2,length_set->V5,append_assoc->V8,getElem?_take_of_lt->Wa,length_map->We,drop_eq_getElem_cons->Wh,drop_eq_nil_of_le->Wi,length_filter_le->Wj
open And renaming intro->Vf
open Go.World renaming block_lt_of_cell?->U1,alloc->Vj,cell?->Vk,ownsRow_nil->Wc,news_of_block->Wf,frozen?_of_block->Wk
open Int renaming mul_add->VE,mul_nonneg->VI,mul_nonpos_of_nonpos_of_nonneg->VJ,mul_le_mul->VK
open Nat renaming zero_le->VM,lt_of_lt_of_le->VP,le_trans->U0,add_sub_cancel_left->V1,zero_mul->V6
open Go.IntKind renaming i64->UV,i64->Y
open List.Sublist renaming nodup->Vs
open Array renaming getElem?_eq_none->V4,getElem?_toList->Wb
open Go.Value renaming int->UL,ownBlock->V9,oneCell'->Wg,pointer->UM,slice->UO,tuple->US,int->V
open Go.Exit renaming inBlock->V7
open Go.Ending renaming returned->UW
open Go.Obj renaming cells->UX
namespace Go.Proofs.YtolaacmheeaadaaGreatDoor
variable{name:Us}{given id:Ux}{ts:Ut (Us × Ux)}{L:Ut (Ux × Ux)}{A A':Ut Uv->Ux}{F F' Fl Fr Fs G:Ut Uw}{B E H b cap d e eb f i j n o p q tb:Uw}{a pl pr u ul us:Uu UJ}{v:UG}{w w' w2 w4 wx wy:UF}
open Go.RowKit
def wA(w:UF)(F:J M)(c:aF.S)(e:Ending)(w':UF):Prop :=∃ (u:Uu UJ) (F':J M),e=UW u/\eB w' c u F'/\(∀ k∈F',k∈F\/w<=k)/\aH F w w'
theorem dO.BQ{x:aF.It}{l r C:aF.S}(h:dO w b x l r pl pr Fl Fr)(t:b ∉ G)(K:∀ y∈Fr,y ∉ G)(D:eB w2 C u F')(s:∀ k∈F',k∈G\/w<=k)(m:aH G w w2):dO (w2.setCell (b,6) u) b x C r u pr F' Fr/\(∀ k∈b :: (F'++Fr),k∈b :: (G++Fr)\/w<=k)/\aH (b :: (G++Fr)) w (w2.setCell (b,6) u):=by
 let⟨n1,n2,n3,n4,n5,n6,n7,n8⟩:=h.parts;have g:=h.lt;refine⟨dO.mI (h.n.off m t) (m.cell t h.c7) D (h.r.off m K) ?_,fun k c=>?_,?_⟩
 .refine Vd.2 ⟨fun e=>?_,Vi.2 ⟨D.nodup,n8,fun y P z I e=>?_⟩⟩
  .rcases Vb.1 e with e|e
   .rcases s b e with e|e
    .exact t e
    .have:=g b Ui;omega
   .exact n2 e
  .subst e;rcases s y P with e|e
   .exact K y I e
   .have:=g y (by simp[I]);omega
 .rcases Va.1 c with rfl|c
  .exact .inl Ui
  .rcases Vb.1 c with c|c
   .rcases s k c with e|e
    .exact .inl (by simp[e])
    .exact .inr e
   .exact .inl (by simp[c])
 .exact (m.mono Uo).setCell (.inl Ui) _ _
theorem dO.BO{x:aF.It}{l r C:aF.S}(h:dO w b x l r pl pr Fl Fr)(t:b ∉ G)(K:∀ y∈Fl,y ∉ G)(D:eB w2 C u F')(s:∀ k∈F',k∈G\/w<=k)(m:aH G w w2):dO (w2.setCell (b,7) u) b x l C pl u Fl F'/\(∀ k∈b :: (Fl++F'),k∈b :: (Fl++G)\/w<=k)/\aH (b :: (Fl++G)) w (w2.setCell (b,7) u):=by
 let⟨n1,n2,n3,n4,n5,n6,n7,n8⟩:=h.parts;have g:=h.lt;refine⟨dO.lA (h.n.off m t) (m.cell t h.c6) (h.l.off m K) D ?_,fun k c=>?_,?_⟩
 .refine Vd.2 ⟨fun e=>?_,Vi.2 ⟨n7,D.nodup,fun y I z P e=>?_⟩⟩
  .rcases Vb.1 e with e|e
   .exact n1 e
   .rcases s b e with e|e
    .exact t e
    .have:=g b Ui;omega
  .subst e;rcases s y P with e|e
   .exact K y I e
   .have:=g y (by simp[I]);omega
 .rcases Va.1 c with rfl|c
  .exact .inl Ui
  .rcases Vb.1 c with c|c
   .exact .inl (by simp[c])
   .rcases s k c with e|e
    .exact .inl (by simp[e])
    .exact .inr e
 .exact (m.mono Uo).setCell (.inl Ui) _ _
theorem size_put(x:aF.It):∀ t:aF.S,aF.size (aF.put x t)<=aF.size t+1
 |.nil=>by rw[<- aF.pg,aF.put,aF.pS];simp[aF.cT,aF.size]
 |.node y l r=>by
  have g:=size_put x l;have c:=size_put x r;rw[<- aF.pg] at g c;rw[<- aF.pg,aF.put];have k:=aF.pg l;have h:=aF.pg r;split
  .rw[aF.pS];simp only[VA,VB,aF.size];omega
  .split
   .rw[aF.pS];simp only[VA,VB,aF.size];omega
   .rw[aF.pS];simp only[VA,VB,aF.size];omega
theorem c4R(x:aF.It):∀ (t:aF.S)(u:Uu UJ)(F:J M)(c:M)(w:UF),eB w t u F->dO w c x .nil .nil Z Z [] []->c ∉ F->aF.size t<=10000->(∀ z∈aF.cT t,¬ (z.f=x.f/\z.n=x.n)) ->UI prog 207 #[u,c] w (wA w (c :: F) (aF.put x t)):=by
 intro t;induction t with
 |nil =>
  intro u F c w h hb _ _ _;obtain⟨hu,rfl⟩:=h
  cases hu;have T:=aB (vv w c x .nil .nil Z Z [] [] hb (by simp[aF.ht]) (by simp[aF.ht]));clear hb;go_in;go_wp21;refine T.mono ?_;rintro e w2 ⟨u2,F2,rfl,P,K,m⟩;have HK:Hid (wA w [c] (aF.put x .nil) (UW u2) w2):=⟨u2,F2,rfl,P,fun k Q=>.inl (K k Q),m⟩;clear P K m T;go_wp21;go_ret;exact HK
 |node y l r ihl ihr =>
  intro u F c w h hb R ag s;have ae:=aB ihl;have ad:=aB ihr;clear ihl ihr;obtain⟨b,pl,pr,Fl,Fr,rfl,rfl,hh,_,_⟩:=h.half;have af:=s y (by simp[aF.cT]);have sl:=size_put x l;have sr:=size_put x r;have hs:aF.size (.node y l r)=1+aF.size l+aF.size r:=rfl;have ab:aF.side x.f x.n y<0\/0<aF.side x.f x.n y:=by
   by_cases a:aF.side x.f x.n y<0
   .exact .inl a
   .refine .inr ?_;rw[aF.wL] at a;rw[aF.Bd];omega
  have a0:=hb.n.c0;have a2:=hb.n.c2;have CM:=aB (fun w' k'=>Mx b y x.f x.n w' (hh.n.off (G:=[]) k' Ui));rcases ab with a|a
  .have ep:aF.put x (.node y l r)=aF.iM y (aF.put x l) r:=by rw[aF.put,Uz a]
   rw[ep];have PT:Hid (∀ w2,UH w w w2->UI prog 207 #[pl,c] w2 (wA w2 (c :: Fl) (aF.put x l))) :=fun w2 kb=>ae pl Fl c w2 (hh.l.later kb) (hb.same (aH.aD kb)) (fun e=>R (by simp[e])) O (fun z hz=>s z (by simp[aF.cT,hz]))
   have HH:=aB (fun w2 (kb:UH w w w2)=>hh.same (aH.aD kb));have C:b ∉ c :: Fl:=by simp only[Va,not_or];exact⟨fun e=>R (by simp[e]),hh.parts.1⟩
   have ac:∀ y∈Fr,y ∉ c :: Fl:=by intro y hy;simp only[Va,not_or];exact⟨fun e=>R (by simp[<- e,hy]),hh.parts.2.2.2.2.1 y hy⟩
   have X:aF.ht (aF.put x l)<=30000:=by have:=aF.oH (aF.put x l);omega
   have W:aF.ht r<=30000:=by have:=aF.oH r;omega
   clear hh hb ae ad s hs sl sr af ep;go_in;go_upto_region 3 with fail;go_region_held3 (fun w'=>w'.cell? (c,0)=U (V Y x.f)/\w'.cell? (c,2)=U (V Y x.n)/\UH w w w')
    (first
     |exact⟨a0,a2,eN _⟩
     |(go_split_ands;exact⟨aT I Uk,aT I Uk,bU Uk I aJ⟩))
    (first
     |(go_at_call 233;go_split_ands;refine aK (CM _ (aH.aD Uk)) fun w2 I=>?_))
   have hB:UH w w w2:=by go_split_ands;assumption
   have D:=HH w2 hB;have c6:=D.c6;have T:=aB hB;have g:=aB D;clear hB D HH CM a0 a2;go_wp21;refine (PT _ T).mono ?_;rintro e w3 ⟨u3,F3,rfl,P,K,m⟩;obtain⟨m1,m2,m3⟩:=g.BQ C ac P K m;have d6:=m.cell (o:=6) C c6;have f6:=(m.frozen (o:=6) C g.n.lt).trans (g.n.fz 6);have aa:=aB (Vf m1 (Vf m2 m3));clear m1 m2 m3 P K m c6 PT g;go_wp21;refine (vv _ b y (aF.put x l) r _ _ _ _ aa.1 X W).mono ?_;rintro e w4 ⟨u4,F4,rfl,P,K,m⟩;have HK:Hid (wA w (c :: (b :: (Fl++Fr))) (aF.iM y (aF.put x l) r) (UW u4) w4):=by
    have z1:=T.size;have z2:=aa.2.1;refine⟨u4,F4,rfl,P,fun k Q=>?_,?_⟩
    .have:=z2 k (K k Q);simp only[Va,Vb] at this ⊢
     grind
    .have o1:aH (c :: (b :: (Fl++Fr))) w _:=(aH.aD T).trans (aa.2.2.mono (by intro k Q;simp only[Va,Vb] at Q ⊢;grind));refine o1.trans' m (fun k Q=>?_);have:=z2 k Q;simp only[Va,Vb] at this ⊢
     grind
   clear P K m aa T d6 f6;go_wp21;go_ret;exact HK
  .have a':¬ aF.side x.f x.n y<0:=O
   have ep:aF.put x (.node y l r)=aF.iM y l (aF.put x r):=by rw[aF.put,Uy a',Uz a]
   rw[ep];have PT:Hid (∀ w2,UH w w w2->UI prog 207 #[pr,c] w2 (wA w2 (c :: Fr) (aF.put x r))) :=fun w2 kb=>ad pr Fr c w2 (hh.r.later kb) (hb.same (aH.aD kb)) (fun e=>R (by simp[e])) O (fun z hz=>s z (by simp[aF.cT,hz]))
   have HH:=aB (fun w2 (kb:UH w w w2)=>hh.same (aH.aD kb));have C:b ∉ c :: Fr:=by simp only[Va,not_or];exact⟨fun e=>R (by simp[e]),hh.parts.2.1⟩
   have ac:∀ y∈Fl,y ∉ c :: Fr:=by intro y hy;simp only[Va,not_or];exact⟨fun e=>R (by simp[<- e,hy]),hh.parts.2.2.2.2.2.1 y hy⟩
   have X:aF.ht (aF.put x r)<=30000:=by have:=aF.oH (aF.put x r);omega
   have W:aF.ht l<=30000:=by have:=aF.oH l;omega
   clear hh hb ae ad s hs sl sr af ep;go_in;go_upto_region 3 with fail;go_region_held3 (fun w'=>w'.cell? (c,0)=U (V Y x.f)/\w'.cell? (c,2)=U (V Y x.n)/\UH w w w')
    (first
     |exact⟨a0,a2,eN _⟩
     |(go_split_ands;exact⟨aT I Uk,aT I Uk,bU Uk I aJ⟩))
    (first
     |(go_at_call 233;go_split_ands;refine aK (CM _ (aH.aD Uk)) fun w2 I=>?_))
   have hB:UH w w w2:=by go_split_ands;assumption
   have D:=HH w2 hB;have c6:=D.c7;have T:=aB hB;have g:=aB D;clear hB D HH CM a0 a2;go_wp21;refine (PT _ T).mono ?_;rintro e w3 ⟨u3,F3,rfl,P,K,m⟩;obtain⟨m1,m2,m3⟩:=g.BO C ac P K m;have d6:=m.cell (o:=7) C c6;have f6:=(m.frozen (o:=7) C g.n.lt).trans (g.n.fz 7);have aa:=aB (Vf m1 (Vf m2 m3));clear m1 m2 m3 P K m c6 PT g;go_wp21;refine (vv _ b y l (aF.put x r) _ _ _ _ aa.1 W X).mono ?_;rintro e w4 ⟨u4,F4,rfl,P,K,m⟩;have HK:Hid (wA w (c :: (b :: (Fl++Fr))) (aF.iM y l (aF.put x r)) (UW u4) w4):=by
    have z1:=T.size;have z2:=aa.2.1;refine⟨u4,F4,rfl,P,fun k Q=>?_,?_⟩
    .have:=z2 k (K k Q);simp only[Va,Vb] at this ⊢
     grind
    .have o1:aH (c :: (b :: (Fl++Fr))) w _:=(aH.aD T).trans (aa.2.2.mono (by intro k Q;simp only[Va,Vb] at Q ⊢;grind));refine o1.trans' m (fun k Q=>?_);have:=z2 k Q;simp only[Va,Vb] at this ⊢
     grind
   clear P K m aa T d6 f6;go_wp21;go_ret;exact HK
theorem L3(x:aF.It)(l r:aF.S):aF.size (aF.nC x l r)=aF.size l+aF.size r:=by have:=congrArg VD (aF.FX x l r);simp only[VB,VA,aF.pg] at this;omega
def DB(w:UF)(F:J M)(x:aF.It)(g:aF.S)(e:Ending)(w':UF):Prop :=∃ (c:M) (u:Uu UJ) (F':J M),e=UW (US #[c,u])/\je w' c x/\eB w' g u F'/\c ∉ F'/\c∈F/\(∀ k∈F',k∈F)/\aH F w w'
theorem b1w:∀ (l:aF.S)(x:aF.It)(r:aF.S)(u:Uu UJ)(F:J M)(w:UF),eB w (.node x l r) u F->aF.size l<=10000->aF.size r<=10000 ->UI prog 269 #[u] w (DB w F (aF.qF x l r) (aF.nC x l r)):=by
 intro l;induction l with
 |nil =>
  intro x r u F w h _ _;obtain⟨b,pl,pr,Fl,Fr,rfl,rfl,g,_,_⟩:=h.half;obtain⟨hp,rfl⟩:=g.l
  cases hp;have c6:=g.c6;have c7:=g.c7;have HK:Hid (DB w (b :: ([]++Fr)) x r (UW (US #[b,pr])) w.drew):=by have ho:aH [] w w.drew:=(aH.refl _ _).drew;exact⟨b,pr,Fr,rfl,g.n.off ho Ui,g.r.same ho,g.parts.2.1,by simp,fun k t=>by simp[t],(aH.refl _ _).drew⟩
  clear h g;go_in;go_wp21;go_region_held3 (fun w'=>w'.cell? (b,7)=U ↑pr) (exact c7) (fail);go_wp21;go_ret2;exact HK
 |node y a c ihl _ =>
  intro x r u F w h ab aa;have IH:=aB ihl;clear ihl;obtain⟨b,pl,pr,Fl,Fr,rfl,rfl,g,_,_⟩:=h.half;have es:aF.size (.node y a c)=1+aF.size a+aF.size c:=rfl;have TK:=aB (IH y c pl Fl w g.l O O);obtain⟨bl,pa,pb,Fa,Fb,rfl,ac,_,_,_⟩:=g.l.half;clear ac;have c6:=g.c6;have e1:=L3 y a c;have e2:=aF.oH (aF.nC y a c);have e3:=aF.oH r;have g1:aF.ht (aF.nC y a c)<=30000:=O;have g2:aF.ht r<=30000:=O;have C:=aB g;have eF:aF.qF x (.node y a c) r=aF.qF y a c:=rfl;have eR:aF.nC x (.node y a c) r=aF.iM x (aF.nC y a c) r:=rfl;rw[eF,eR];generalize aF.qF y a c=fx at *;generalize aF.nC y a c=tx at *;clear h g es e1 e2 e3 IH ab aa eF eR;go_in;go_wp21;refine TK.mono ?_;rintro e w1 ⟨z,u1,F1,rfl,t1,t2,P,D,K,I⟩;obtain⟨T,m2,R⟩:=C.ui t2 (fun k t=>.inl (K k t)) I;have d6:=I.cell (o:=6) C.parts.1 c6;have f6:=(I.frozen (o:=6) C.parts.1 C.n.lt).trans (C.n.fz 6);have m:z≠b:=by rintro rfl;exact C.parts.1 D
  have s:z ∉ Fr:=fun e=>C.parts.2.2.2.2.1 z e D;have Q:je (w1.setCell (b,6) u1) z fx:=t1.off (aH.bM ..) (by simpa using m);have ad:=aB (Vf T (Vf R (Vf Q (Vf P (Vf D (Vf K (Vf m s)))))));clear T m2 R Q t1 t2 P D K I m s TK c6;go_wp21;refine (vv _ b x tx r _ _ _ _ ad.1 g1 g2).mono ?_;rintro e w4 ⟨u4,F4,rfl,k1,X,W⟩;have HK:Hid (DB w (b :: (Fl++Fr)) fx (aF.iM x tx r) (UW (US #[z,u4])) w4):=by
   obtain⟨T,R,Q,P,D,K,m,s⟩:=ad;have hn:z ∉ b :: (F1++Fr):=by simp only[Va,Vb,not_or];exact⟨m,P,s⟩
   refine⟨z,u4,F4,rfl,Q.off W hn,k1,fun e=>hn (X _ e),by simp[D],fun k t=>?_,R.trans' W (fun k t=>?_)⟩
   .have:=X k t;simp only[Va,Vb] at this ⊢
    grind
   .simp only[Va,Vb] at t ⊢
    grind
  clear k1 X W ad d6 f6;go_wp21;go_ret2;exact HK
theorem b8m(l:aF.S)(u:Uu UJ)(F:J M)(w:UF)(h:eB w l u F):UI prog 261 #[u,UM Z] w (nH w F l):=by
 go_in;go_wp21;go_ret;exact⟨u,F,rfl,h,fun _ c=>c,aH.refl _ _⟩
theorem b8n(l r:aF.S)(pl pr:Uu UJ)(Fl Fr:J M)(w:UF)(hl:eB w l pl Fl)(K:eB w r pr Fr)(hd:∀ k∈Fl,k ∉ Fr)(X:aF.size l<=10000)(W:aF.size r<=10000):UI prog 261 #[pl,pr] w (nH w (Fl++Fr) (aF.nB l r)):=by
 cases r with
 |nil =>
  obtain⟨hp,rfl⟩:=K
  cases hp;rw[List.append_nil];exact b8m l pl Fl w hl
 |node y a c =>
  have es:aF.size (.node y a c)=1+aF.size a+aF.size c:=rfl;have TK:=aB (b1w a y c pr Fr w K O O);obtain⟨br,pa,pb,Fa,Fb,rfl,aa,_,_,_⟩:=K.half;clear aa;have e1:=L3 y a c;have e2:=aF.oH (aF.nC y a c);have e3:=aF.oH l;have g1:aF.ht (aF.nC y a c)<=30000:=O;have g2:aF.ht l<=30000:=O;have eR:aF.nB l (.node y a c)=aF.iM (aF.qF y a c) l (aF.nC y a c):=rfl;rw[eR];generalize aF.qF y a c=fx at *;generalize aF.nC y a c=tx at *;have HL:=aB hl;have P:=aB hd;clear hl K hd es e1 e2 e3 eR X W;go_in;go_wp21;refine TK.mono ?_;rintro e w1 ⟨h,u1,F1,rfl,z,T,R,x,D,Q⟩;have t:=HL.off Q P;have s:h ∉ Fl:=fun e=>P h e x;have C:∀ k∈Fl,k ∉ F1:=fun k g e=>P k g (D k e);obtain⟨y6,d6⟩:=z.c6;obtain⟨y7,d7⟩:=z.c7;have f6:=z.fz 6;have f7:=z.fz 7;have nd:(h :: (Fl++F1)).Nodup:=Vd.2 ⟨by simp only[Vb,not_or];exact⟨s,R⟩,Vi.2 ⟨t.nodup,T.nodup,fun p hp q hq e=>C p hp (e ▸ hq)⟩⟩;have h1:dO ((w1.setCell (h,6) pl).setCell (h,7) u1) h fx l tx pl u1 Fl F1 :=dO.lA (z.vS pl) (zm _ _ _ d6) (t.off (aH.bM ..) (fun k g=>by simp;rintro rfl;exact s g)) (T.off (aH.bM ..) (fun k g=>by simp;rintro rfl;exact R g)) nd
  have I:aH (Fl++Fr) w ((w1.setCell (h,6) pl).setCell (h,7) u1) :=((Q.mono (by intro k g;simp[g])).setCell (.inl (by simp[x])) _ _).setCell (.inl (by simp[x])) _ _
  have ab:=aB (Vf h1 (Vf I (Vf x D)));clear h1 I z T R x D Q nd C s t TK HL P;go_wp21;refine (vv _ h fx l tx _ _ _ _ ab.1 g2 g1).mono ?_;rintro e w4 ⟨u4,F4,rfl,k1,k2,k3⟩;have HK:Hid (nH w (Fl++Fr) (aF.iM fx l tx) (UW u4) w4):=by
   obtain⟨h1,I,x,D⟩:=ab;have m:∀ k∈h :: (Fl++F1),k∈Fl++Fr:=by intro k g;simp only[Va,Vb] at g ⊢;grind
   exact⟨u4,F4,rfl,k1,fun k g=>m k (k2 k g),I.trans' k3 (fun k g=>.inl (m k g))⟩
  clear k1 k2 k3 ab d6 d7 f6 f7;go_wp21;go_ret;exact HK
theorem b4D(l r:aF.S):aF.size (aF.nB l r)=aF.size l+aF.size r:=by have:=congrArg VD (aF.MI l r);simp only[VA,aF.pg] at this;omega
theorem KE(x:aF.It)(l r:aF.S):aF.size (aF.iM x l r)=1+aF.size l+aF.size r:=by have:=congrArg VD (aF.pS x l r);simp only[VA,VB,aF.pg] at this;omega
theorem yY(f n:N):∀ t:aF.S,aF.size (aF.drop f n t)<=aF.size t
 |.nil=>by simp[aF.drop]
 |.node y l r=>by
  have g:=yY f n l;have c:=yY f n r;rw[aF.drop];split
  .rw[KE];simp only[aF.size];omega
  .split
   .rw[KE];simp only[aF.size];omega
   .rw[b4D];simp only[aF.size];omega
theorem c3t(f n:N):∀ (t:aF.S)(u:Uu UJ)(F:J M)(w:UF),eB w t u F->aF.size t<=10000 ->UI prog 246 #[u,f,n] w (nH w F (aF.drop f n t)):=by
 intro t;induction t with
 |nil =>
  intro u F w h _;obtain⟨hu,rfl⟩:=h
  cases hu;go_in;go_wp21;go_ret;exact⟨Z,[],rfl,⟨rfl,rfl⟩,fun _ c=>c,aH.refl _ _⟩
 |node y l r ihl ihr =>
  intro u F w h ac;have aa:=aB ihl;have X:=aB ihr;clear ihl ihr;obtain⟨b,pl,pr,Fl,Fr,rfl,rfl,D,_,_⟩:=h.half;have hs:aF.size (.node y l r)=1+aF.size l+aF.size r:=rfl;have sl:=yY f n l;have sr:=yY f n r;have CM:=aB (fun w' k'=>Mx b y f n w' (D.n.off (G:=[]) k' Ui));have HH:=aB (fun w2 (kb:UH w w w2)=>D.same (aH.aD kb));by_cases a:aF.side f n y<0
  .have ep:aF.drop f n (.node y l r)=aF.iM y (aF.drop f n l) r:=by rw[aF.drop,Uz a]
   rw[ep];have DR:=aB (fun w2 (kb:UH w w w2)=>aa pl Fl w2 (D.l.later kb) O);have Q:=D.parts.1;have P:aF.ht (aF.drop f n l)<=30000:=by have:=aF.oH (aF.drop f n l);omega
   have K:aF.ht r<=30000:=by have:=aF.oH r;omega
   clear D h aa X hs sl sr ep;go_in;go_wp21;refine aK (CM _ (aH.refl _ _)) fun w2 I=>?_;have z:=HH w2 I;have W:=z.c6;have R:=aB I;have m:=aB z;clear I z HH CM;go_wp21;refine (DR _ R).mono ?_;rintro e w3 ⟨u3,F3,rfl,C,x,g⟩;obtain⟨m1,m2,T⟩:=m.ui C (fun k c=>.inl (x k c)) g;have d6:=g.cell (o:=6) Q W;have f6:=(g.frozen (o:=6) Q m.n.lt).trans (m.n.fz 6);have ab:=aB (Vf m1 (Vf x T));clear m1 m2 T C x g W DR m;go_wp21;refine (vv _ b y (aF.drop f n l) r _ _ _ _ ab.1 P K).mono ?_;rintro e w4 ⟨u4,F4,rfl,C,x,g⟩;have HK:Hid (nH w (b :: (Fl++Fr)) (aF.iM y (aF.drop f n l) r) (UW u4) w4):=by
    obtain⟨m1,m2,T⟩:=ab;have s:∀ k∈b :: (F3++Fr),k∈b :: (Fl++Fr):=by intro k c;simp only[Va,Vb] at c ⊢;grind
    exact⟨u4,F4,rfl,C,fun k c=>s k (x k c),((aH.aD R).trans T).trans' g (fun k c=>.inl (s k c))⟩
   clear C x g ab R d6 f6;go_wp21;go_ret;exact HK
  .by_cases a2:0<aF.side f n y
   .have ep:aF.drop f n (.node y l r)=aF.iM y l (aF.drop f n r):=by rw[aF.drop,Uy a,Uz a2]
    rw[ep];have DR:=aB (fun w2 (kb:UH w w w2)=>X pr Fr w2 (D.r.later kb) O);have Q:=D.parts.2.1;have P:aF.ht (aF.drop f n r)<=30000:=by have:=aF.oH (aF.drop f n r);omega
    have K:aF.ht l<=30000:=by have:=aF.oH l;omega
    clear D h aa X hs sl sr ep;go_in;go_wp21;refine aK (CM _ (aH.refl _ _)) fun w2 I=>?_;have z:=HH w2 I;have W:=z.c7;have R:=aB I;have m:=aB z;clear I z HH CM;go_wp21;refine (DR _ R).mono ?_;rintro e w3 ⟨u3,F3,rfl,C,x,g⟩;obtain⟨m1,m2,T⟩:=m.xe C (fun k c=>.inl (x k c)) g;have d6:=g.cell (o:=7) Q W;have f6:=(g.frozen (o:=7) Q m.n.lt).trans (m.n.fz 7);have ab:=aB (Vf m1 (Vf x T));clear m1 m2 T C x g W DR m;go_wp21;refine (vv _ b y l (aF.drop f n r) _ _ _ _ ab.1 K P).mono ?_;rintro e w4 ⟨u4,F4,rfl,C,x,g⟩;have HK:Hid (nH w (b :: (Fl++Fr)) (aF.iM y l (aF.drop f n r)) (UW u4) w4):=by
     obtain⟨m1,m2,T⟩:=ab;have s:∀ k∈b :: (Fl++F3),k∈b :: (Fl++Fr):=by intro k c;simp only[Va,Vb] at c ⊢;grind
     exact⟨u4,F4,rfl,C,fun k c=>s k (x k c),((aH.aD R).trans T).trans' g (fun k c=>.inl (s k c))⟩
    clear C x g ab R d6 f6;go_wp21;go_ret;exact HK
   .have ep:aF.drop f n (.node y l r)=aF.nB l r:=by rw[aF.drop,Uy a,Uy a2]
    rw[ep];have JN:=aB (fun w2 (kb:UH w w w2)=>b8n l r pl pr Fl Fr w2 (D.l.later kb) (D.r.later kb) D.parts.2.2.2.2.2.1 O O);have NB:Hid (b ∉ Fl++Fr):=by have h1:=D.parts.1;have h2:=D.parts.2.1;show b ∉ Fl++Fr;simp only[Vb,not_or];exact⟨h1,h2⟩
    clear D h aa X hs sl sr ep;go_in;go_wp21;refine aK (CM _ (aH.refl _ _)) fun w2 I=>?_;have W:=(HH w2 I).c6;have c7:=(HH w2 I).c7;have R:=aB I;clear I CM HH;go_upto_region 4 with fail;go_region_held3 (fun w'=>w'.cell? (b,6)=U ↑pl/\w'.cell? (b,7)=U ↑pr)
     (first
      |exact⟨W,c7⟩
      |exact⟨k9,k8⟩)
     (first
      |(go_at_call 261;refine (JN _ (bU R (eN _) aJ)).mono ?_;rintro e w3 ⟨u3,F3,rfl,C,x,g⟩;have k9:=g.cell (o:=6) NB W;have k8:=g.cell (o:=7) NB c7))
    have HK:Hid (nH w (b :: (Fl++Fr)) (aF.nB l r) (UW u3) w3) :=⟨u3,F3,rfl,C,fun k c=>by have:=x k c;simp only[Va];exact .inr this,(aH.aD (F:=b :: (Fl++Fr)) R).trans ((aH.refl (b :: (Fl++Fr)) w2).drew.trans (g.mono (fun k c=>by simp only[Va];exact .inr c)))⟩
    clear C x g k8 k9 R JN W c7;go_wp21;go_ret;exact HK
def sK(w:UF)(tb o:M)(F:J M)(h:aF.S)(w':UF):Prop :=∃ (g:Uu UJ) (F':J M),w'.cell? ⟨tb,o,Z⟩=U (UM g)/\eB w' h (UM g) F'/\(∀ k∈F',k∈F\/w.heap.size<=k)/\aH (tb :: F) w w'/\(∀ c,c≠o->w'.cell? ⟨tb,c,Z⟩=w.cell? ⟨tb,c,Z⟩)/\∀ c,w'.frozen? ⟨tb,c,Z⟩=w.frozen? ⟨tb,c,Z⟩
theorem KO{w5:UF}{F5:J M}{m:aF.S}{u5:Uu UJ}(l:UH w w w4)(c:tb<w)(X:tb ∉ F)(R:∀ k∈G,k∈F\/w<=k)(I:eB w5 m u5 F5)(D:∀ k∈F5,k∈G\/w4<=k)(r:aH G w4 w5)(t:w5.cell? (tb,o)=U v):sK w tb o F m (w5.setCell (tb,o) u5):=by
 have T:=l.size;have z:aH [] w w4:=aH.aD l;have g:tb ∉ G:=fun e=>by grind
 have P:tb ∉ F5:=fun e=>by grind
 have s:w5.heap[tb]?=w.heap[tb]?:=(r.block tb O g).trans (z.block tb c Ui);refine⟨u5,F5,World.cell?_setCell_same _ _ _ t,I.off (aH.bM ..) (fun x K=>by grind),fun k Q=>?_,?_,fun C W=>?_,fun C=>?_⟩
 .rcases D k Q with h|h
  .exact R k h
  .exact .inr O
 .have y:aH (tb :: F) w w5:=(aH.aD (F:=tb :: F) l).trans' r (fun x K=>by grind);exact y.setCell (.inl Ui) _ _
 .exact (bC Ui).trans (zo (w:=w) s)
 .refine (zF ..).trans ?_;simp only[World.frozen?,s]
theorem b9x(w:UF)(f t n:N)(v:M):dO (w.alloc (UX #[f,t,n,v,V Y 0,V Y 0,UM Z,UM Z] 296)) w ⟨f,t,n,v⟩ .nil .nil Z Z [] [] :=⟨⟨by simp,by simp,by simp,by simp,⟨0,by simp⟩,⟨0,by simp⟩,⟨Z,by simp⟩,⟨Z,by simp⟩,fun o=>World.frozen?_alloc_new w _ _ o⟩,by simp,by simp,⟨rfl,rfl⟩,⟨rfl,rfl⟩,by simp⟩
theorem TY(t:aF.S)(tb o:M)(u:Uu UJ)(F:J M)(x:aF.It)(w:UF)(c:w.cell? (tb,o)=U ↑u)(fz:w.frozen? (tb,o)=UD)(R:tb ∉ F)(h:eB w t u F)(X:aF.size t<=10000)(l:∀ z∈aF.cT t,¬ (z.f=x.f/\z.n=x.n)):UI prog 164 #[UM (U ⟨tb,o,Z⟩),V Y x.f,x.t,V Y x.n,x.v] w fun e w'=>e=UW (US #[])/\sK w tb o F (aF.put x t) w':=by
 have m:=U1 _ _ c;have g:=h.lt;have s:UH w.heap.size w (w.alloc (UX #[V Y x.f,V Y x.t,V Y x.n,UM (U ⟨x.v,0,Z⟩),V Y 0,V Y 0,UM Z,UM Z] 296)):=aS;have T:=aB (c4R x t u F w.heap.size _ (h.later s) (b9x w x.f x.t x.n x.v) (fun e=>by have:=g _ e;omega) X l);have W:=aB s;have K:=aT s c;have I:(w.alloc (UX #[V Y x.f,V Y x.t,V Y x.n,UM (U ⟨x.v,0,Z⟩),V Y 0,V Y 0,UM Z,UM Z] 296)).frozen? ⟨tb,o,Z⟩=UD:=((aH.aD (F:=[]) s).frozen Ui m).trans fz;have r:tb ∉ w.heap.size :: F:=by simp only[Va,not_or];exact⟨by simp at m;omega,R⟩
 have C:=aB (Vf K I);have HF:Hid (∀ k∈F,k<w):=g;clear h s g K I l;go_in;go_wp21;refine T.mono ?_;rintro e w3 ⟨u3,F3,rfl,Q,P,y⟩;have d:=y.cell r C.1;have f':=(y.frozen (o:=o) r (U1 _ _ C.1)).trans C.2;have HK:=aB (KO W m R (fun k D=>by rcases Va.1 D with rfl|D;exact .inr aJ;exact .inl D) Q P y d);clear Q P y C W T;go_wp21;go_end0;exact⟨rfl,HK⟩
theorem c3N(t:aF.S)(tb o:M)(u:Uu UJ)(F:J M)(f n:N)(w:UF)(c:w.cell? (tb,o)=U ↑u)(C:w.frozen? (tb,o)=UD)(m:tb ∉ F)(h:eB w t u F)(z:aF.size t<=10000):UI prog 223 #[UM (U ⟨tb,o,Z⟩),f,n] w fun e w'=>e=UW (US #[])/\sK w tb o F (aF.drop f n t) w':=by
 have g:=U1 _ _ c;have y:=aB (c3t f n t u F w h z);clear h;go_in;go_wp21;refine y.mono ?_;rintro e w3 ⟨u3,K,rfl,x,s,l⟩;have d:=l.cell m c;have I:=(l.frozen (o:=o) m g).trans C;have D:=aB (KO fI g m (fun k r=>.inl r) x (fun k r=>.inl (s k r)) l d);clear x s l y;go_wp21;go_end0;exact⟨rfl,D⟩
def lL(A:J Uv->N):aL.T:=aL.canon 20 A 0 1048320
def iC:J (N × N)->J Uv->N
 |[],_=>0
 |s :: r,p=>aL.ju 0 1048320 s.1 s.2 p+iC r p
def dK(A:J Uv->N)(L:J (N × N))(x:N)(p:J Uv):N:=A p+x*iC L p
theorem LR(L c:J (N × N))(p:J Uv):iC (L++c) p=iC L p+iC c p:=by
 induction L with
 |nil=>simp[iC]
 |cons s r ih=>simp only[Vm,iC,ih];omega
theorem yj(L:J (N × N))(p:J Uv):0<=iC L p/\iC L p<=L.length:=by
 induction L with
 |nil=>simp[iC]
 |cons s r ih =>have:=aL.Dw p 0 1048320 s.1 s.2;simp only[iC,VB];omega
theorem J0(A:J Uv->N)(x:N):dK A [] x=A:=by funext p;simp[dK,iC]
theorem Li(A:J Uv->N)(L:J (N × N))(s:N × N)(x:N):dK A (L++[s]) x=fun p=>dK A L x p+x*aL.ju 0 1048320 s.1 s.2 p:=by funext p;simp only[dK,LR,iC,Int.add_zero,VE];omega
theorem c2S(A:J Uv->N)(a b x:N)(h:a<b):aL.iQ 20 (lL A) 0 1048320 a b x=lL (fun p=>A p+x*aL.ju 0 1048320 a b p) :=aL.b8T 20 A 0 1048320 a b x O Uj h
theorem Dp{a:N}{l r:aL.T}(m:-1000000<=a/\a<=1000000)(k:LB l)(h:LB r)(g:-100000000<=a+max (aL.top l) (aL.top r)/\a+max (aL.top l) (aL.top r)<=100000000)(c:-100000000<=a+min (aL.bot l) (aL.bot r)/\a+min (aL.bot l) (aL.bot r)<=100000000):LB (aL.mk a l r):=by grind[LB,aL.top,aL.bot,aL.mk]
theorem DP(a:N)(l r:aL.T):aL.top (aL.mk a l r)=a+max (aL.top l) (aL.top r)/\aL.bot (aL.mk a l r)=a+min (aL.bot l) (aL.bot r):=by
 unfold aL.mk;split
 .rename_i h
  rw[aL.tV h.2.1,aL.tV h.2.2,h.1];simp[aL.top,aL.bot]
 .exact⟨rfl,rfl⟩
theorem c3E:∀ (n:M)(A:J Uv->N)(c g:N),(∀ p,0<=A p/\A p<=1000000)->n<=50->LB (aL.canon n A c g)/\(0<=aL.top (aL.canon n A c g)/\aL.top (aL.canon n A c g)<=1000000*(n+1))/\(0<=aL.bot (aL.canon n A c g)/\aL.bot (aL.canon n A c g)<=1000000*(n+1)):=by
 intro n;induction n with
 |zero =>intro A c g h _;have k:=h [];simp only[aL.canon];have e:=DP (A []) .nil .nil;simp only[aL.top,aL.bot] at e;rw[e.1,e.2];refine⟨Dp O trivial trivial ?_ ?_,?_,?_⟩ <;> simp[aL.top,aL.bot] <;> omega
 |succ n ih =>
  intro A c g h l;have k:=h [];simp only[aL.canon];split
  .have e:=DP (A []) .nil .nil;simp only[aL.top,aL.bot] at e;rw[e.1,e.2];refine⟨Dp O trivial trivial ?_ ?_,?_,?_⟩ <;> simp[aL.top,aL.bot] <;> omega
  .let⟨b1,b2,b3⟩:=ih (fun p=>A (UD :: p)) c (aL.bA c g) (fun p=>h _) O;let⟨b4,b5,b6⟩:=ih (fun p=>A (UE :: p)) (aL.bA c g) g (fun p=>h _) O;have e:=DP (A []) (aL.canon n (fun p=>A (UD :: p)) c (aL.bA c g)) (aL.canon n (fun p=>A (UE :: p)) (aL.bA c g) g);rw[e.1,e.2];exact⟨Dp O b1 b4 O O,O,O⟩
theorem yr(h:∀ p,0<=A p/\A p<=1000000):LB (lL A):=(c3E 20 A 0 1048320 h O).1
theorem Bb(h:∀ p,0<=A p):aL.Good (lL A) 0 1048320:=aL.b8K 20 A 0 1048320 h
def rh(A:J Uv->N)(x:N):N:=aL.fh (lL A) 0 1048320 x
theorem Mo(A:J Uv->N)(L:J (N × N))(u x:N)(C:0<=x)(y:x<1048320)(r:∀ s∈L,s.1<s.2):rh (dK A L u) x=rh A x+u*((L.filter fun s=>decide (s.1<=x) && decide (x<s.2)).length:N):=by
 have g:∀ (n:M) (c:J (N × N)),c.length=n->(∀ s∈c,s.1<s.2)->rh (dK A c u) x=rh A x+u*((c.filter fun s=>decide (s.1<=x) && decide (x<s.2)).length:N):=by
  intro n;induction n with
  |zero =>intro c l _;rw[VF.1 l,J0];simp
  |succ n ih =>
   intro c l h;obtain⟨K,s,rfl⟩:∃ K s,c=K++[s]:=⟨c.dropLast,c.getLast Uo,(List.dropLast_concat_getLast _).symm⟩;have t:K.length=n:=Uo;rw[Li];have e:=aL.b1L 20 (dK A K u) 0 1048320 s.1 s.2 u x C y Uj (h s Ui);have D:rh (fun p=>dK A K u p+u*aL.ju 0 1048320 s.1 s.2 p) x=rh (dK A K u) x+if s.1<=x/\x<s.2 then u else 0:=e;rw[D,ih K t (fun z m=>h z (by simp[m])),Vo];by_cases k:s.1<=x/\x<s.2
   .rw[Uz k];have:([s].filter fun s=>decide (s.1<=x) && decide (x<s.2))=[s]:=Uo
    rw[this];simp only[VA,VB,VG];rw[show ((((K.filter fun s=>decide (s.1<=x) && decide (x<s.2)).length+(0+1):M)):N)=((K.filter fun s=>decide (s.1<=x) && decide (x<s.2)).length:N)+1 from by omega,VE];omega
   .rw[Uy k];have:([s].filter fun s=>decide (s.1<=x) && decide (x<s.2))=[]:=Uo
    rw[this];simp
 exact g L.length L rfl r
structure TH(w:UF)(tb:M)(name:Us)(aN:N)(A:J Uv->N)(T:aF.S)(ul us:Uu UJ)(Fl Fs:J M):Prop where
 c0:w.cell? (tb,0)=U ↑name
 c1:w.cell? (tb,1)=U ↑aN
 c2:w.cell? (tb,2)=U ↑ul
 c3:w.cell? (tb,3)=U ↑us
 fz:∀ o,w.frozen? ⟨tb,o,Z⟩=UD
 lv:eC w (lL A) ul Fl
 sp:eB w T us Fs
 nl:tb ∉ Fl
 ns:tb ∉ Fs
 dj:∀ k∈Fl,k ∉ Fs
theorem TH.lt{aN:N}{T:aF.S}(h:TH w tb name aN A T ul us Fl Fs):∀ k∈tb :: (Fl++Fs),k<w:=by
 intro k c;rcases Va.1 c with rfl|c
 .exact U1 _ _ h.c0
 .rcases Vb.1 c with c|c
  .exact h.lv.lt k c
  .exact h.sp.lt k c
theorem TH.off{aN:N}{T:aF.S}(h:TH w tb name aN A T ul us Fl Fs)(k:aH G w w')(l:∀ x∈tb :: (Fl++Fs),x ∉ G):TH w' tb name aN A T ul us Fl Fs:=by have c:=l tb Ui;exact⟨k.cell c h.c0,k.cell c h.c1,k.cell c h.c2,k.cell c h.c3,fun o=>(k.frozen c (h.lt tb Ui)).trans (h.fz o),h.lv.off k (fun x g=>l x (by simp[g])),h.sp.off k (fun x g=>l x (by simp[g])),h.nl,h.ns,h.dj⟩
theorem TH.same{aN:N}{T:aF.S}(h:TH w tb name aN A T ul us Fl Fs)(k:aH [] w w'):TH w' tb name aN A T ul us Fl Fs:=h.off k Ui
theorem TH.added{aN:N}{T:aF.S}(h:TH w tb name aN A T ul us Fl Fs)(k:uU w tb 2 Fl (lL A') w'):∃ r l,TH w' tb name aN A' T r us l Fs/\(∀ k∈l,k∈Fl\/w<=k)/\aH (tb :: Fl) w w':=by
 let⟨u',F',k1,k2,k3,k4,k5,k6⟩:=k;have c:=h.lt;refine⟨u',F',⟨(k5 0 O).trans h.c0,(k5 1 O).trans h.c1,k1,(k5 3 O).trans h.c3,fun o=>(k6 o).trans (h.fz o),k2,h.sp.off k4 (fun x m=>?_),fun e=>?_,h.ns,fun x m s=>?_⟩,k3,k4⟩
 .simp only[Va,not_or];exact⟨fun e=>h.ns (e ▸ m),fun e=>h.dj x e m⟩
 .rcases k3 tb e with g|g
  .exact h.nl g
  .have:=c tb Ui;omega
 .rcases k3 x m with g|g
  .exact h.dj x g s
  .have:=c x (by simp[s]);omega
theorem TH.ob{aN:N}{T s:aF.S}(h:TH w tb name aN A T ul us Fl Fs)(k:sK w tb 3 Fs s w'):∃ r m,TH w' tb name aN A s ul r Fl m/\(∀ k∈m,k∈Fs\/w<=k)/\aH (tb :: Fs) w w':=by
 let⟨u',F',k1,k2,k3,k4,k5,k6⟩:=k;have g:=h.lt;refine⟨u',F',⟨(k5 0 O).trans h.c0,(k5 1 O).trans h.c1,(k5 2 O).trans h.c2,k1,fun o=>(k6 o).trans (h.fz o),h.lv.off k4 (fun x c=>?_),k2,h.nl,fun e=>?_,fun x c t=>?_⟩,k3,k4⟩
 .simp only[Va,not_or];exact⟨fun e=>h.nl (e ▸ c),fun e=>h.dj x c e⟩
 .rcases k3 tb e with l|l
  .exact h.ns l
  .have:=g tb Ui;omega
 .rcases k3 x t with l|l
  .exact h.dj x c l
  .have:=g x (by simp[c]);omega
def SL(w:UF)(B:M)(L:J (N × N)):Prop:=∀ (i:M)(h:i<L.length),w.cell? (B,i*2)=U (V Y L[i].1)/\w.cell? (B,i*2+1)=U (V Y L[i].2)
theorem SL.off(h:SL w B L)(k:aH G w w')(g:B ∉ G):SL w' B L:=fun i c=>⟨k.cell g (h i c).1,k.cell g (h i c).2⟩
def qV(L:J (N × N)):Prop:=∀ s∈L,0<=s.1/\s.1<s.2/\s.2<=1048320
theorem T3{x:N}(h:∀ p,0<=A p/\A p<=500000)(s:∀ p,0<=dK A L x p)(r:-9<=x)(c:x<=9)(y:L.length<=100)(k:M):∀ p,0<=dK A (L.take k) x p/\dK A (L.take k) x p<=1000000:=by
 intro p;have C:=h p;have m:=s p;have e:iC L p=iC (L.take k) p+iC (L.drop k) p:=by rw[<- LR,VH]
 have g:=yj (L.take k) p;have t:=yj (L.drop k) p;have z:((L.take k).length:N)<=100:=Uo;unfold dK at m ⊢;rw[e,VE] at m;constructor
 .by_cases l:0<=x
  .have:=VI l g.1;omega
  .have:x*iC (L.drop k) p<=0:=VJ O t.1;omega
 .by_cases l:0<=x
  .have:x*iC (L.take k) p<=9*100:=VK c O g.1 O;omega
  .have:x*iC (L.take k) p<=0:=VJ O g.1;omega
structure ym(w wx:UF)(tb B:M)(name:Us)(aN:N)(A:J Uv->N)(T:aF.S)(us:Uu UJ)(Fl Fs:J M)(L:J (N × N)):Prop where
 th:∃ (ul:Uu UJ) (Fl':J M),TH wx tb name aN A T ul us Fl' Fs/\∀ k∈Fl',k∈Fl\/w<=k
 off:aH (tb :: Fl) w wx
 sl:SL wx B L
 ok:qV L
 nb:B ∉ tb :: Fl
 lt:B<w
theorem uU.off{c:aL.T}(h:uU w tb o F c w'):aH (tb :: F) w w':=by let⟨_,_,_,_,_,h,_⟩:=h;exact h
theorem ym.step{wr X:UF}{aN:N}{T:aF.S}{Fl':J M}(h:ym w wr tb B name aN A T us Fl Fs L)(g:aH [] wr X)(r:TH X tb name aN A T ul us Fl' Fs)(l:∀ k∈Fl',k∈Fl\/w<=k)(m:uU X tb 2 Fl' (lL A') w4):ym w w4 tb B name aN A' T us Fl Fs L:=by
 let⟨ul2,Fl2,t1,t2,t3⟩:=r.added m;have x:=h.off.size;have t:=g.size;have s:B ∉ tb :: Fl':=by
  intro e;rcases Va.1 e with e|e
  .exact h.nb (by simp[e])
  .rcases l B e with e|e
   .exact h.nb (by simp[e])
   .have:=h.lt;omega
 refine⟨⟨ul2,Fl2,t1,fun k c=>?_⟩,(h.off.trans' g Ui).trans' t3 (fun k c=>?_),(h.sl.off g Ui).off t3 s,h.ok,h.nb,h.lt⟩
 .rcases t2 k c with e|e
  .exact l k e
  .exact .inr O
 .rcases Va.1 c with rfl|c
  .exact .inl Ui
  .rcases l k c with e|e
   .exact .inl (by simp[e])
   .exact .inr e
theorem b9q(tb:M)(name:Us)(aN:N)(A:J Uv->N)(T:aF.S)(us:Uu UJ)(Fs:J M)(L:J (N × N))(x:N)(k:M)(s:k<L.length)(g:∀ (k:M)(p:J Uv),0<=dK A (L.take k) x p/\dK A (L.take k) x p<=1000000)(c:0<=L[k].1/\L[k].1<L[k].2/\L[k].2<=1048320)(r:-9<=x)(m:x<=9)(ul:Uu UJ)(Fl:J M):∀ W,TH W tb name aN (dK A (L.take k) x) T ul us Fl Fs->UI prog 206 #[UM (U ⟨tb,2,Z⟩),.agg #[V Y L[k].1,V Y L[k].2],x] W fun e w'=>e=UW (US #[])/\uU W tb 2 Fl (lL (dK A (L.take (k+1)) x)) w':=by
 intro W h;have e:dK A (L.take (k+1)) x=fun p=>dK A (L.take k) x p+x*aL.ju 0 1048320 L[k].1 L[k].2 p:=by rw[VL s,Li]
 have l:aL.iQ 20 (lL (dK A (L.take k) x)) 0 1048320 L[k].1 L[k].2 x=lL (dK A (L.take (k+1)) x):=by rw[e];exact c2S _ _ _ _ c.2.1
 rw[<- l];exact TW _ tb 2 ul Fl _ _ x W h.c2 (h.fz 2) h.nl h.lv c.2.1 O O (yr (g k)) (by rw[l];exact yr (g (k+1)))
theorem c2i(w:UF)(tb B cap:M)(name:Us)(aN:N)(A:J Uv->N)(T:aF.S)(ul us:Uu UJ)(Fl Fs:J M)(L:J (N × N))(x:N)(h:TH w tb name aN A T ul us Fl Fs)(hs:SL w B L)(C:qV L)(hb:B ∉ tb :: Fl)(hB:B<w)(g:∀ p,0<=A p/\A p<=500000)(I:∀ p,0<=dK A L x p)(z:-9<=x)(y:x<=9)(hL:L.length<=100):UI prog 162 #[tb,UO B L.length cap,x] w fun e w'=>e=UW (US #[])/\(∃ W Fl',TH w' tb name aN (dK A L x) T W us Fl' Fs/\∀ k∈Fl',k∈Fl\/w<=k)/\aH (tb :: Fl) w w':=by
 have aa:=aB (T3 g I z y hL);have h0:ym w w tb B name aN (dK A (L.take 0) x) T us Fl Fs L:=⟨⟨ul,Fl,by rw[List.take_zero,J0];exact h,fun k hk=>.inl hk⟩,aH.refl _ _,hs,C,hb,hB⟩;have H0:=aB h0;clear h hs C hb g I h0 ul;go_in;go_wp21;go_loopw [7,10] (fun _ i wx=>∃ k:M,k<=L.length/\i=V Y k/\ym w wx tb B name aN (dK A (L.take k) x) T us Fl Fs L) (fun _ i _=>L.length-(intOf i).toNat)
 .exact⟨0,VM _,rfl,H0⟩
 .obtain⟨k,hk,rfl,g⟩:=hrel
  by_cases m:k<L.length
  .have c:=g.sl k m;have r:=aB g;obtain⟨c1,c2⟩:=c;clear g;have hi:(k:N)<(L.length:N):=O
   obtain⟨ul,Fl',hT,l⟩:=r.th;have CA:=aB (b9q tb name aN A T us Fs L x k m aa.out (r.ok L[k] (zg m)) z y ul Fl');have Q:=aB hT;have HS:=aB l;clear hT l;go_upto_region 3 with fail;have hX:aH [] wr (wr.alloc (UX #[V Y L[k].1,V Y L[k].2] 83)):=(aH.refl _ _).alloc _;have t:(wr.alloc (UX #[V Y L[k].1,V Y L[k].2] 83)).cell? (wr,0)=U (V Y L[k].1):=Ui;have s:(wr.alloc (UX #[V Y L[k].1,V Y L[k].2] 83)).cell? (wr,1)=U (V Y L[k].2):=Ui;have K:=aB hX;have D:wr.heap.size ∉ tb :: Fl':=fun e=>by have:=Q.lt wr (by simp only[Va,Vb] at e ⊢;grind);omega
   have R:=aB D;clear hX D c1 c2;generalize (Vj wr (UX #[V Y L[k].1,V Y L[k].2] 83))=X at t s K ⊢;generalize wr=bx at t s R ⊢;go_region_held3 (fun w'=>w'.cell? (bx,0)=U (V Y L[k].1)/\w'.cell? (bx,1)=U (V Y L[k].2))
    (first
     |exact⟨t,s⟩
     |exact⟨m1,m2⟩)
    (first
     |(go_at_call 206;refine aK (CA _ (Q.same (K.drew))) fun w4 P=>?_;have m1:=P.off.cell (o:=0) R t;have m2:=P.off.cell (o:=1) R s))
   have HK:=r.step (K.drew) (Q.same K.drew) HS P;clear r Q HS CA K R m1 m2 t s P;go_wp21;go_roundw
   .exact⟨k+1,O,by go_num,HK⟩
   .simp[intOf];omega
  .have e:L.take k=L:=VN O;rw[e] at g;have r:=aB g;clear g;have hi:¬ (k:N)<(L.length:N):=O
   go_wp21;go_end0;exact⟨rfl,r.th,r.off⟩
def uM(A:J Uv->N)(s:N × N):N:=aL.ie (lL A) 0 1048320 s.1 s.2
def mX(A:J Uv->N)(aN:N)(L:J (N × N)):Uv:=L.all fun s=>decide (uM A s<=aN)
theorem EH{s:N × N}(c:∀ p,0<=A p)(k:0<=s.1)(g:s.1<s.2)(h:s.2<=1048320):(∀ x,s.1<=x->x<s.2->rh A x<=uM A s)/\∃ x,s.1<=x/\x<s.2/\rh A x=uM A s:=by let⟨_,k1,x,k2,k3,k4,k5,k6⟩:=aL.Kw (lL A) 0 1048320 s.1 s.2 O g (Bb c) (aL.oI.2 O);exact⟨fun x a b=>k1 x O O a b,x,k4,k5,k6⟩
theorem KX(w:UF)(tb B cap:M)(name:Us)(aN:N)(A:J Uv->N)(T:aF.S)(ul us:Uu UJ)(Fl Fs:J M)(L:J (N × N))(h:TH w tb name aN A T ul us Fl Fs)(Q:SL w B L)(g:qV L)(I:∀ p,0<=A p/\A p<=1000000)(hL:L.length<=100):UI prog 163 #[tb,UO B L.length cap] w fun e w'=>e=UW (mX A aN L)/\UH w w w':=by
 have CM:=aB (fun (W:UF) (k:UH w w W) (s:N × N) (h1:s.1<s.2)=>JY (lL A) tb 2 ul Fl s.1 s.2 W (aT k h.c2) (h.lv.later k) (yr I) (Bb (fun p=>(I p).1)) h1);have HS:=aB Q;have HO:=aB g;have cu:=h.c1;clear h Q g I;go_in;go_wp21;go_loopw [6,9] (fun _ i wx=>∃ k:M,k<=L.length/\i=V Y k/\mX A aN (L.take k)=UE/\UH w w wx) (fun _ i _=>L.length-(intOf i).toNat)
 .exact⟨0,VM _,rfl,by simp[mX],Below.refl _ _⟩
 .obtain⟨k,hk,rfl,R,r⟩:=hrel;have K:=aB R;clear R
  by_cases l:k<L.length
  .have c1:=aT r (HS k l).1;have c2:=aT r (HS k l).2;have t:=aT r cu;have hi:(k:N)<(L.length:N):=O
   have HB:=aB r;clear r;have et:mX A aN (L.take (k+1))=(mX A aN (L.take k) && decide (uM A L[k]<=aN)):=by unfold mX;rw[VL l,VO];simp
   have ET:=aB et;have g:=HO L[k] (zg l);clear et;go_upto_region 4 with fail;have D:UH wr wr (wr.alloc (UX #[V Y L[k].1,V Y L[k].2] 83)):=aS;have y:(wr.alloc (UX #[V Y L[k].1,V Y L[k].2] 83)).cell? (wr,0)=U (V Y L[k].1):=Ui;have x:(wr.alloc (UX #[V Y L[k].1,V Y L[k].2] 83)).cell? (wr,1)=U (V Y L[k].2):=Ui;have C:=aT D t;have z:=aB (bU HB D aJ);clear D c1 c2 t;generalize (Vj wr (UX #[V Y L[k].1,V Y L[k].2] 83))=X at y x C z ⊢;generalize wr=bx at y x ⊢;have P:=aB (fun W k'=>CM W k' L[k] g.2.1);generalize em:aL.ie (lL A) 0 1048320 L[k].1 L[k].2=m at P;have EM:Hid (uM A L[k]=m):=em;clear em;by_cases hc:m<=aN;all_goals
    go_region_held3 (fun w'=>w'.cell? (bx,0)=U (V Y L[k].1)/\w'.cell? (bx,1)=U (V Y L[k].2)/\w'.cell? (tb,1)=U ↑aN/\UH X X w')
     (first
      |exact⟨y,x,C,eN _⟩
      |(go_split_ands;exact⟨aT c Uk,aT c Uk,aT c Uk,bU Uk c aJ⟩))
     (first
      |(go_at_call 158;go_split_ands;refine aK (P _ (bU z Uk aJ)) fun w4 c=>?_))
    have HF:=aB (bU z (by go_split_ands;assumption:UH X X w4) aJ);clear CM P z HB y x C c;go_wp21
   .go_roundw
    .exact⟨k+1,O,by go_num,by rw[ET,K,EM];simpa using hc,HF⟩
    .simp[intOf];omega
   .go_ret;refine⟨qH ?_,HF⟩;have:mX A aN L=(mX A aN (L.take (k+1)) && mX A aN (L.drop (k+1))):=by unfold mX;rw[<- VO,VH]
    rw[this,ET,K,EM];have hd:decide (m<=aN)=UD:=decide_eq_false O;rw[hd];rfl
  .have e:L.take k=L:=VN O;have hi:¬ (k:N)<(L.length:N):=O
   go_wp21;go_ret;exact⟨qH (by rw[<- e];exact K.symm),r⟩
structure jG(w:UF)(eb:M)(id:N)(tb:M)(aN:N)(B cap:M)(L:J (N × N)):Prop where
 c0:w.cell? (eb,0)=U ↑id
 c1:w.cell? (eb,2)=U ↑tb
 c2:w.cell? (eb,3)=U ↑aN
 c3:w.cell? (eb,4)=U (UO B L.length cap)
 sl:SL w B L
 lt:B<w
theorem jG.off{aN:N}(h:jG w eb id tb aN B cap L)(k:aH G w w')(c:eb ∉ G)(g:B ∉ G):jG w' eb id tb aN B cap L :=⟨k.cell c h.c0,k.cell c h.c1,k.cell c h.c2,k.cell c h.c3,h.sl.off k g,VP h.lt k.size⟩
structure iy(w wx:UF)(tb:M)(name:Us)(aN:N)(A:J Uv->N)(T:aF.S)(F:J M):Prop where
 th:∃ (ul us:Uu UJ) (Fl Fs:J M),TH wx tb name aN A T ul us Fl Fs/\∀ k∈Fl++Fs,k∈F\/w<=k
 off:aH (tb :: F) w wx
theorem iy.later{aN:N}{T:aF.S}(h:iy w wx tb name aN A T F)(k:aH [] wx wy):iy w wy tb name aN A T F:=by let⟨ul,us,Fl,Fs,h1,h2⟩:=h.th;exact⟨⟨ul,us,Fl,Fs,h1.same k,h2⟩,h.off.trans' k Ui⟩
theorem iy.uO{aN:N}{T:aF.S}(h:iy w wx tb name aN A T F)(m:∀ k∈Fl++Fs,k∈F\/w<=k)(k:∃ l g,TH wy tb name aN A' T l us g Fs/\∀ k∈g,k∈Fl\/wx<=k)(r:aH (tb :: Fl) wx wy):iy w wy tb name aN A' T F:=by
 let⟨l,g,t1,t2⟩:=k;have z:=h.off.size;refine⟨⟨l,us,g,Fs,t1,fun k c=>?_⟩,h.off.trans' r (fun k c=>?_)⟩
 .rcases Vb.1 c with c|c
  .rcases t2 k c with e|e
   .exact m k (by simp[e])
   .exact .inr O
  .exact m k (by simp[c])
 .rcases Va.1 c with rfl|c
  .exact .inl Ui
  .rcases m k (by simp[c]) with e|e
   .exact .inl (by simp[e])
   .exact .inr e
theorem iy.ob{aN:N}{T l:aF.S}(h:iy w wx tb name aN A T F)(m:TH wx tb name aN A T ul us Fl Fs)(g:∀ k∈Fl++Fs,k∈F\/w<=k)(k:sK wx tb 3 Fs l wy):iy w wy tb name aN A l F:=by
 let⟨us',Fs',t1,t2,t3⟩:=m.ob k;have z:=h.off.size;refine⟨⟨ul,us',Fl,Fs',t1,fun k c=>?_⟩,h.off.trans' t3 (fun k c=>?_)⟩
 .rcases Vb.1 c with c|c
  .exact g k (by simp[c])
  .rcases t2 k c with e|e
   .exact g k (by simp[e])
   .exact .inr O
 .rcases Va.1 c with rfl|c
  .exact .inl Ui
  .rcases g k (by simp[c]) with e|e
   .exact .inl (by simp[e])
   .exact .inr e
def mg(id:N)(eb:M)(s:N × N):aF.It:=⟨s.1,s.2,id,eb⟩
def jj(id:N)(eb:M):aF.S->J (N × N)->aF.S
 |T,[]=>T
 |T,s :: r=>jj id eb (aF.put (mg id eb s) T) r
def lQ(id:N):aF.S->J (N × N)->aF.S
 |T,[]=>T
 |T,s :: r=>lQ id (aF.drop s.1 id T) r
theorem Ly(id:N)(eb:M)(s:N × N):∀ (L:J (N × N))(T:aF.S),jj id eb T (L++[s])=aF.put (mg id eb s) (jj id eb T L)
 |[],T=>rfl
 |t :: L,T=>by simp only[Vm,jj];exact Ly id eb s L _
theorem Mc(id:N)(s:N × N):∀ (L:J (N × N))(T:aF.S),lQ id T (L++[s])=aF.drop s.1 id (lQ id T L)
 |[],T=>rfl
 |t :: L,T=>by simp only[Vm,lQ];exact Mc id s L _
def Jf(id:N)(eb:M):J aF.It->J (N × N)->J aF.It
 |l,[]=>l
 |l,s :: r=>Jf id eb (aF.ins (mg id eb s) l) r
theorem Ef(id:N)(eb:M):∀ (L:J (N × N))(T:aF.S),aF.Ord (aF.cT T)->(∀ z∈aF.cT T,z.n=id->∀ s∈L,z.f≠s.1)->(L.map (·.1)).Nodup ->aF.Ord (aF.cT (jj id eb T L))/\aF.cT (jj id eb T L)=Jf id eb (aF.cT T) L/\(∀ z,z∈aF.cT (jj id eb T L)↔z∈aF.cT T\/∃ s∈L,z=mg id eb s)/\aF.size (jj id eb T L)=aF.size T+L.length
 |[],T,h,_,_=>⟨h,rfl,fun z=>by simp[jj],by simp[jj]⟩
 |s :: r,T,h,hn,hd=>by
  have l:∀ z∈aF.cT T,¬ (z.f=(mg id eb s).f/\z.n=(mg id eb s).n):=fun z c e=>hn z c e.2 s Ui e.1;have g:=aF.Fj (mg id eb s) T h l;have m:aF.Ord (aF.cT (aF.put (mg id eb s) T)):=by rw[g];exact aF.JQ h l
  simp only[List.map_cons,Vd] at hd;have k:∀ z∈aF.cT (aF.put (mg id eb s) T),z.n=id->∀ t∈r,z.f≠t.1:=by
   intro z c x t ht;rw[g,aF.AX] at c;rcases c with rfl|c
   .intro e;exact hd.1 (VQ.2 ⟨t,ht,e.symm⟩)
   .exact hn z c x t (by simp[ht])
  let⟨k1,k2,k3,k4⟩:=Ef id eb r _ m k hd.2;refine⟨k1,by rw[jj,k2,g];rfl,fun z=>?_,?_⟩
  .rw[jj,k3,g,aF.AX];constructor
   .rintro ((h|h)|⟨t,ht,h⟩)
    .exact .inr ⟨s,by simp,h⟩
    .exact .inl h
    .exact .inr ⟨t,by simp[ht],h⟩
   .rintro (h|⟨t,ht,h⟩)
    .exact .inl (.inr h)
    .rcases Va.1 ht with rfl|ht
     .exact .inl (.inl h)
     .exact .inr ⟨t,ht,h⟩
  .rw[jj,k4,<- aF.pg,<- aF.pg,g,aF.Mn,VB];omega
theorem Es(id:N):∀ (L:J (N × N))(T:aF.S),aF.Ord (aF.cT T) ->aF.Ord (aF.cT (lQ id T L))/\aF.cT (lQ id T L)=(aF.cT T).filter (fun z=>L.all fun s=>aF.pN s.1 id z)/\aF.size (lQ id T L)<=aF.size T
 |[],T,h=>⟨h,(List.filter_eq_self.2 (fun _ _=>rfl)).symm,Nat.le_refl _⟩
 |s :: r,T,h=>by
  have c:=aF.FW s.1 id T h;have g:aF.Ord (aF.cT (aF.drop s.1 id T)):=by rw[c];exact aF.Mr _ h
  let⟨k1,k2,k3⟩:=Es id r _ g;refine⟨k1,?_,U0 k3 (yY _ _ _)⟩;rw[lQ,k2,c,List.filter_filter];congr 1;funext z;simp only[List.all_cons];exact Bool.and_comm _ _
theorem Lh(A:J Uv->N)(L:J (N × N))(u:N):dK (dK A L u) L (-u)=A:=by funext p;unfold dK;rw[Int.neg_mul];omega
structure Ap(w:UF)(tb eb B cap:M)(name:Us)(aN:N)(A:J Uv->N)(T:aF.S)(F:J M)(id u:N)(L:J (N × N)):Prop where
 th:∃ (ul us:Uu UJ) (Fl Fs:J M),TH w tb name aN A T ul us Fl Fs/\∀ k∈Fl++Fs,k∈F
 en:jG w eb id tb u B cap L
 ne:eb ∉ tb :: F
 nb:B ∉ tb :: F
 ok:qV L
 bd:∀ p,0<=A p/\A p<=400000
 u1:1<=u
 u2:u<=9
 ll:L.length<=100
structure S8(w wx:UF)(tb eb B cap:M)(name:Us)(aN:N)(A:J Uv->N)(T:aF.S)(F:J M)(id u:N)(L:J (N × N)):Prop where
 now:iy w wx tb name aN A T F
 en:jG wx eb id tb u B cap L
theorem iy.pair{aN:N}{T:aF.S}{u:N}(h:iy w wx tb name aN A T F)(c:jG w eb id tb u B cap L)(k:eb ∉ tb :: F)(g:B ∉ tb :: F):S8 w wx tb eb B cap name aN A T F id u L:=⟨h,c.off h.off k g⟩
theorem Jo{u:N}(h:∀ p,0<=A p/\A p<=400000)(u1:1<=u)(u2:u<=9)(g:L.length<=100):∀ p,0<=dK A L u p/\dK A L u p<=500000:=by intro p;have a:=h p;have b:=yj L p;have c:0<=u*iC L p:=VI O b.1;have d:u*iC L p<=9*100:=VK u2 O b.1 O;unfold dK;omega
theorem AM(w:UF)(tb eb B cap:M)(name:Us)(aN:N)(A z:J Uv->N)(T:aF.S)(F:J M)(id u x:N)(L:J (N × N))(y:jG w eb id tb u B cap L)(l:eb ∉ tb :: F)(c:B ∉ tb :: F)(k:qV L)(K:∀ p,0<=A p/\A p<=500000)(r:∀ p,0<=dK A L x p)(h:-9<=x)(g:x<=9)(I:L.length<=100)(P:dK A L x=z)(wx:UF)(m:iy w wx tb name aN A T F):UI prog 162 #[tb,UO B L.length cap,x] wx fun e w'=>e=UW (US #[])/\iy w w' tb name aN z T F:=by
 let⟨ul,us,Fl,Fs,h1,h2⟩:=m.th;have t:=m.pair y l c;have D:B ∉ tb :: Fl:=by
  intro e;rcases Va.1 e with e|e
  .exact c (by simp[e])
  .rcases h2 B (by simp[e]) with e|e
   .exact c (by simp[e])
   .have:=y.lt;omega
 refine aK (c2i wx tb B cap name aN A T ul us Fl Fs L x h1 t.en.sl k D t.en.lt K r h g I) ?_;rintro w' ⟨s,C⟩;rw[P] at s;exact⟨rfl,m.uO h2 s C⟩
theorem Ub(w:UF)(tb eb B cap:M)(name:Us)(aN:N)(A:J Uv->N)(T:aF.S)(F:J M)(id u:N)(L:J (N × N))(h:Ap w tb eb B cap name aN A T F id u L)(m:mX (dK A L u) aN L=UD):UI prog 112 #[tb,eb] w fun e w'=>e=UW UD/\iy w w' tb name aN A T F:=by
 have c:=Jo h.bd h.u1 h.u2 h.ll;have C1:=aB (AM w tb eb B cap name aN A (dK A L u) T F id u u L h.en h.ne h.nb h.ok (fun p=>⟨(h.bd p).1,by have:=(h.bd p).2;omega⟩) (fun p=>(c p).1) (by have:=h.u1;omega) h.u2 h.ll rfl);have X:=aB (AM w tb eb B cap name aN (dK A L u) A T F id u (-u) L h.en h.ne h.nb h.ok c (fun p=>by rw[Lh];exact (h.bd p).1) (by have:=h.u2;omega) (by have:=h.u1;omega) h.ll (Lh A L u));have W:Hid (∀ wx,iy w wx tb name aN (dK A L u) T F->UI prog 163 #[tb,UO B L.length cap] wx fun e w'=>e=UW UD/\iy w w' tb name aN (dK A L u) T F):=by intro wx l;obtain⟨ul,us,Fl,Fs,t,y⟩:=l.th;refine aK (KX wx tb B cap name aN _ T ul us Fl Fs L t (l.pair h.en h.ne h.nb).en.sl h.ok (fun p=>⟨(c p).1,by have:=(c p).2;omega⟩) h.ll) fun w' hb=>?_;rw[m];exact⟨rfl,l.later (aH.aD hb)⟩
 have P:Hid (∀ wx A',iy w wx tb name aN A' T F->wx.cell? (eb,4)=U (UO B L.length cap)/\wx.cell? (eb,3)=U ↑u) :=fun wx A' l=>⟨(l.pair h.en h.ne h.nb).en.c3,(l.pair h.en h.ne h.nb).en.c2⟩
 have r:iy w w.drew tb name aN A T F:=by obtain⟨ul,us,Fl,Fs,t,y⟩:=h.th;exact⟨⟨ul,us,Fl,Fs,t.same (aH.refl _ _).drew,fun k hk=>.inl (y k hk)⟩,(aH.refl _ _).drew⟩
 have K:=aB r;have D:=h.en.c3;have I:=h.en.c2;have u1:=h.u1;have u2:=h.u2;have x:Y.wrap (-u)=-u:=dJ O O;clear h c m r;go_in;go_upto_region 1 with fail;go_region_held3 (fun w'=>w'.cell? (eb,4)=U (UO B L.length cap)/\w'.cell? (eb,3)=U ↑u)
  (first
   |exact⟨D,I⟩
   |exact P _ _ g)
  (first
   |(go_at_call 162;refine aK (C1 _ K) fun w4 g=>?_))
 obtain⟨d3,d2⟩:=P _ _ g;have R:=aB g;clear g C1 K D I;go_wp21;refine aK (W _ R) fun w5 s=>?_;obtain⟨z,C⟩:=P _ _ s;have Q:=aB (s.later (aH.refl _ _).drew);have K3:=aB s;clear s W d3 d2;go_upto_region 3 with fail;go_region_held3 (fun w'=>w'.cell? (eb,4)=U (UO B L.length cap)/\w'.cell? (eb,3)=U ↑u)
  (first
   |exact⟨z,C⟩
   |exact P _ _ g)
  (first
   |(go_at_call 162;refine aK (X _ Q) fun w6 g=>?_))
 have K4:=aB g;clear g X R Q K3 z C P;go_wp21;go_ret;exact⟨rfl,K4⟩
structure Av(T:aF.S)(id:N)(L:J (N × N)):Prop where
 od:aF.Ord (aF.cT T)
 sz:aF.size T<=9000
 no:∀ z∈aF.cT T,z.n=id->∀ s∈L,z.f≠s.1
 nd:(L.map (·.1)).Nodup
theorem sK.off{c:aF.S}(h:sK w tb o F c w'):aH (tb :: F) w w':=by let⟨_,_,_,_,_,h,_⟩:=h;exact h
theorem c2A(tb eb:M)(name:Us)(aN:N)(A:J Uv->N)(T:aF.S)(id:N)(L:J (N × N))(g:Av T id L)(R:L.length<=100)(k:M)(C:k<L.length)(ul us:Uu UJ)(Fl Fs:J M)(wx:UF)(r:TH wx tb name aN A (jj id eb T (L.take k)) ul us Fl Fs):UI prog 164 #[UM (U ⟨tb,3,Z⟩),V Y L[k].1,V Y L[k].2,id,eb] wx fun e w'=>e=UW (US #[])/\sK wx tb 3 Fs (jj id eb T (L.take (k+1))) w':=by
 have x:=Vs ((VR k L).map _) g.nd;let⟨p1,_,p3,p4⟩:=Ef id eb (L.take k) T g.od (fun z h P s t=>g.no z h P s (VS t)) x;have D:=VT k L;have y:(L.take k).length<=100:=O;have e:jj id eb T (L.take (k+1))=aF.put (mg id eb L[k]) (jj id eb T (L.take k)):=by rw[VL C,Ly]
 have h:=g.sz;have l:∀ z∈aF.cT (jj id eb T (L.take k)),¬ (z.f=(mg id eb L[k]).f/\z.n=(mg id eb L[k]).n):=by
  intro z h ⟨I,Q⟩;rcases (p3 z).1 h with h|⟨s,t,rfl⟩
  .exact g.no z h Q L[k] (zg C) I
  .have W:=g.nd
   have c:(L.take (k+1)).map (·.1)=(L.take k).map (·.1)++[L[k].1]:=by rw[VL C,VU];rfl
   have m:=Vs ((VR (k+1) L).map _) g.nd;rw[c,Vi] at m;exact m.2.2 s.1 (VQ.2 ⟨s,t,rfl⟩) L[k].1 Ui I
 refine aK (TY (jj id eb T (L.take k)) tb 3 us Fs (mg id eb L[k]) wx r.c3 (r.fz 3) r.ns r.sp O l) fun w' K=>?_;rw[e];exact⟨rfl,K⟩
theorem c0X(tb:M)(name:Us)(aN:N)(A:J Uv->N)(T:aF.S)(id:N)(L:J (N × N))(h:aF.Ord (aF.cT T))(m:aF.size T<=9000)(k:M)(l:k<L.length)(ul us:Uu UJ)(Fl Fs:J M)(wx:UF)(c:TH wx tb name aN A (lQ id T (L.take k)) ul us Fl Fs):UI prog 223 #[UM (U ⟨tb,3,Z⟩),V Y L[k].1,id] wx fun e w'=>e=UW (US #[])/\sK wx tb 3 Fs (lQ id T (L.take (k+1))) w':=by
 let⟨_,_,p3⟩:=Es id (L.take k) T h;have e:lQ id T (L.take (k+1))=aF.drop L[k].1 id (lQ id T (L.take k)):=by rw[VL l,Mc]
 refine aK (c3N (lQ id T (L.take k)) tb 3 us Fs L[k].1 id wx c.c3 (c.fz 3) c.ns c.sp O) fun w' g=>?_;rw[e];exact⟨rfl,g⟩
theorem c2f(w:UF)(tb eb B cap:M)(name:Us)(aN:N)(A:J Uv->N)(T:aF.S)(F:J M)(id u:N)(L:J (N × N))(h:Ap w tb eb B cap name aN A T F id u L)(hr:Av T id L)(r:mX (dK A L u) aN L=UE):UI prog 112 #[tb,eb] w fun e w'=>e=UW UE/\iy w w' tb name aN (dK A L u) (jj id eb T L) F:=by
 have c:=Jo h.bd h.u1 h.u2 h.ll;have C1:=aB (AM w tb eb B cap name aN A (dK A L u) T F id u u L h.en h.ne h.nb h.ok (fun p=>⟨(h.bd p).1,by have:=(h.bd p).2;omega⟩) (fun p=>(c p).1) (by have:=h.u1;omega) h.u2 h.ll rfl);have CH:Hid (∀ wx,iy w wx tb name aN (dK A L u) T F->UI prog 163 #[tb,UO B L.length cap] wx fun e w'=>e=UW UE/\iy w w' tb name aN (dK A L u) T F):=by intro wx l;obtain⟨ul,us,Fl,Fs,y,Q⟩:=l.th;refine aK (KX wx tb B cap name aN _ T ul us Fl Fs L y (l.pair h.en h.ne h.nb).en.sl h.ok (fun p=>⟨(c p).1,by have:=(c p).2;omega⟩) h.ll) fun w' hb=>?_;rw[r];exact⟨rfl,l.later (aH.aD hb)⟩
 have P:Hid (∀ wx A' x,iy w wx tb name aN A' x F->jG wx eb id tb u B cap L):=fun wx A' x l=>(l.pair h.en h.ne h.nb).en;have PC:Hid (∀ wx A' x,iy w wx tb name aN A' x F->wx.cell? (eb,4)=U (UO B L.length cap)/\wx.cell? (eb,3)=U ↑u):=fun wx A' x l=>⟨(P wx A' x l).c3,(P wx A' x l).c2⟩;have K:iy w w.drew tb name aN A T F:=by obtain⟨ul,us,Fl,Fs,y,Q⟩:=h.th;exact⟨⟨ul,us,Fl,Fs,y.same (aH.refl _ _).drew,fun k hk=>.inl (Q k hk)⟩,(aH.refl _ _).drew⟩
 have N0:=aB K;have CP:=aB (fun k hk ul us Fl Fs wx l=>c2A tb eb name aN (dK A L u) T id L hr h.ll k hk ul us Fl Fs wx l);have c3:=h.en.c3;have c2:=h.en.c2;have ll:=h.ll;have R:=aB (Vf h.ne h.nb);have aa:Hid (eb<w):=U1 _ _ h.en.c0;clear h c r K hr;generalize dK A L u=A1 at *;go_in;go_upto_region 1 with fail;go_region_held3 (fun w'=>w'.cell? (eb,4)=U (UO B L.length cap)/\w'.cell? (eb,3)=U ↑u)
  (first
   |exact⟨c3,c2⟩
   |exact PC _ _ _ g)
  (first
   |(go_at_call 162;refine aK (C1 _ N0) fun w4 g=>?_))
 obtain⟨d3,d2⟩:=PC _ _ _ g;have K1:=aB g;clear g C1 N0 c3 c2;go_wp21;refine aK (CH _ K1) fun w5 k2=>?_;obtain⟨f3,f2⟩:=PC _ _ _ k2;have K3:=aB k2;clear k2 CH d3 d2 K1;go_wp21;go_loopw [6,40] (fun _ i wx=>∃ k:M,k<=L.length/\i=V Y k/\iy w wx tb name aN A1 (jj id eb T (L.take k)) F) (fun _ i _=>L.length-(intOf i).toNat)
 .exact⟨0,VM _,rfl,K3⟩
 .obtain⟨k,hk,rfl,t⟩:=hrel;clear f3 f2
  by_cases s:k<L.length
  .have he:=P _ _ _ t;have c1:=(he.sl k s).1;have c2:=(he.sl k s).2;have c0:=he.c0;have hi:(k:N)<(L.length:N):=O
   obtain⟨ul,us,Fl,Fs,y,Q⟩:=t.th;have HN:=aB t;have H1:=aB y;have H2:=aB Q;clear he t y Q;go_upto_region 8 with fail;have hX:aH [] wr (wr.alloc (UX #[V Y L[k].1,V Y L[k].2] 83)):=(aH.refl _ _).alloc _;have C:(wr.alloc (UX #[V Y L[k].1,V Y L[k].2] 83)).cell? (wr,0)=U (V Y L[k].1):=Ui;have z:(wr.alloc (UX #[V Y L[k].1,V Y L[k].2] 83)).cell? (wr,1)=U (V Y L[k].2):=Ui;have x2:=hX.cell Ui c0;have NX:=aB (HN.later hX.drew);have TX:=aB (H1.same hX.drew);have PX:=aB (CP k s _ _ _ _ _ TX);have I:wr.heap.size ∉ tb :: Fs:=fun e=>by have:=H1.lt wr (by simp only[Va,Vb] at e ⊢;grind);omega
   have m:=aB I;have D:eb ∉ tb :: Fs:=by
    intro e;rcases Va.1 e with e|e
    .exact R.1 (by simp[e])
    .rcases H2 eb (by simp[e]) with e|e
     .exact R.1 (by simp[e])
     .have:=aa.out;omega
   have W:=aB D;clear hX c0 c1 c2 I D HN;generalize (Vj wr (UX #[V Y L[k].1,V Y L[k].2] 83))=X at C z x2 NX TX PX ⊢;generalize wr=bx at C z m ⊢;go_region_held3 (fun w'=>w'.cell? (bx,0)=U (V Y L[k].1)/\w'.cell? (bx,1)=U (V Y L[k].2)/\w'.cell? (eb,0)=U ↑id)
    (first
     |exact⟨C,z,x2⟩
     |exact⟨g.off.cell m C,g.off.cell m z,g.off.cell W x2⟩)
    (first
     |(go_at_call 164;refine PX.mono ?_;rintro e w6 ⟨rfl,g⟩))
   have HK:=aB (NX.ob TX H2 g);clear g NX TX PX H1 H2 m W CP PC P C z x2;go_wp21;go_roundw
   .exact⟨k+1,O,by go_num,HK⟩
   .simp[intOf];omega
  .have e:L.take k=L:=VN O;rw[e] at t;have HN:=aB t;have hi:¬ (k:N)<(L.length:N):=O
   clear t;go_wp21;go_ret;exact⟨rfl,HN⟩
theorem b4K(w:UF)(tb eb B cap:M)(name:Us)(aN:N)(A:J Uv->N)(T:aF.S)(F:J M)(id u:N)(L:J (N × N))(h:Ap w tb eb B cap name aN A T F id u L)(ho:aF.Ord (aF.cT T))(hz:aF.size T<=9000)(hA:∀ p,0<=dK A L (-u) p):UI prog 192 #[tb,eb] w fun e w'=>e=UW (US #[])/\iy w w' tb name aN (dK A L (-u)) (lQ id T L) F:=by
 have C1:=aB (AM w tb eb B cap name aN A (dK A L (-u)) T F id u (-u) L h.en h.ne h.nb h.ok (fun p=>⟨(h.bd p).1,by have:=(h.bd p).2;omega⟩) hA (by have:=h.u2;omega) (by have:=h.u1;omega) h.ll rfl);have P:Hid (∀ wx A' r,iy w wx tb name aN A' r F->jG wx eb id tb u B cap L):=fun wx A' r s=>(s.pair h.en h.ne h.nb).en;have PC:Hid (∀ wx A' r,iy w wx tb name aN A' r F->wx.cell? (eb,4)=U (UO B L.length cap)/\wx.cell? (eb,3)=U ↑u):=fun wx A' r s=>⟨(P wx A' r s).c3,(P wx A' r s).c2⟩;have C:iy w w.drew tb name aN A T F:=by obtain⟨ul,us,Fl,Fs,h1,h2⟩:=h.th;exact⟨⟨ul,us,Fl,Fs,h1.same (aH.refl _ _).drew,fun k R=>.inl (h2 k R)⟩,(aH.refl _ _).drew⟩
 have N0:=aB C;have CP:=aB (fun k R ul us Fl Fs wx s=>c0X tb name aN (dK A L (-u)) T id L ho hz k R ul us Fl Fs wx s);have c3:=h.en.c3;have c2:=h.en.c2;have ll:=h.ll;have u1:=h.u1;have u2:=h.u2;have aa:Y.wrap (-u)=-u:=dJ O O;have D:=aB (Vf h.ne h.nb);have K:Hid (eb<w):=U1 _ _ h.en.c0;clear h C ho hz hA;generalize dK A L (-u)=A1 at *;go_in;go_upto_region 0 with fail;go_region_held3 (fun w'=>w'.cell? (eb,4)=U (UO B L.length cap)/\w'.cell? (eb,3)=U ↑u)
  (first
   |exact⟨c3,c2⟩
   |exact PC _ _ _ c)
  (first
   |(go_at_call 162;refine aK (C1 _ N0) fun w4 c=>?_))
 obtain⟨f3,f2⟩:=PC _ _ _ c;have K3:=aB c;clear c C1 N0 c3 c2;go_wp21;go_loopw [5,22] (fun _ i wx=>∃ k:M,k<=L.length/\i=V Y k/\iy w wx tb name aN A1 (lQ id T (L.take k)) F) (fun _ i _=>L.length-(intOf i).toNat)
 .exact⟨0,VM _,rfl,K3⟩
 .obtain⟨k,R,rfl,m⟩:=hrel;clear f3 f2
  by_cases l:k<L.length
  .have W:=P _ _ _ m;have c1:=(W.sl k l).1;have c2:=(W.sl k l).2;have c0:=W.c0;have hi:(k:N)<(L.length:N):=O
   obtain⟨ul,us,Fl,Fs,h1,h2⟩:=m.th;have HN:=aB m;have H1:=aB h1;have H2:=aB h2;clear W m h1 h2;go_upto_region 4 with fail;have hX:aH [] wr (wr.alloc (UX #[V Y L[k].1,V Y L[k].2] 83)):=(aH.refl _ _).alloc _;have x:(wr.alloc (UX #[V Y L[k].1,V Y L[k].2] 83)).cell? (wr,0)=U (V Y L[k].1):=Ui;have t:(wr.alloc (UX #[V Y L[k].1,V Y L[k].2] 83)).cell? (wr,1)=U (V Y L[k].2):=Ui;have Q:=hX.cell Ui c0;have NX:=aB (HN.later hX.drew);have TX:=aB (H1.same hX.drew);have PX:=aB (CP k l _ _ _ _ _ TX);have z:wr.heap.size ∉ tb :: Fs:=fun e=>by have:=H1.lt wr (by simp only[Va,Vb] at e ⊢;grind);omega
   have g:=aB z;have y:eb ∉ tb :: Fs:=by
    intro e;rcases Va.1 e with e|e
    .exact D.1 (by simp[e])
    .rcases H2 eb (by simp[e]) with e|e
     .exact D.1 (by simp[e])
     .have:=K.out;omega
   have I:=aB y;clear hX c0 c1 c2 z y HN;generalize (Vj wr (UX #[V Y L[k].1,V Y L[k].2] 83))=X at x t Q NX TX PX ⊢;generalize wr=bx at x t g ⊢;go_region_held3 (fun w'=>w'.cell? (bx,0)=U (V Y L[k].1)/\w'.cell? (bx,1)=U (V Y L[k].2)/\w'.cell? (eb,0)=U ↑id)
    (first
     |exact⟨x,t,Q⟩
     |exact⟨c.off.cell g x,c.off.cell g t,c.off.cell I Q⟩)
    (first
     |(go_at_call 223;refine PX.mono ?_;rintro e w6 ⟨rfl,c⟩))
   have HK:=aB (NX.ob TX H2 c);clear c NX TX PX H1 H2 g I CP PC P x t Q;go_wp21;go_roundw
   .exact⟨k+1,O,by go_num,HK⟩
   .simp[intOf];omega
  .have e:L.take k=L:=VN O;rw[e] at m;have HN:=aB m;have hi:¬ (k:N)<(L.length:N):=O
   clear m;go_wp21;go_end0;exact⟨rfl,HN⟩
namespace Hp
structure Hi where
 t:N
 n:N
 v:M
def ahead(x y:Hi):Prop:=x.t<y.t\/(x.t=y.t/\x.n<y.n)
instance (x y:Hi):Decidable (ahead x y):=by unfold ahead;infer_instance
theorem yV{x y z:Hi}(h:¬ ahead x y)(k:¬ ahead y z):¬ ahead x z:=by unfold ahead at *;omega
theorem DH{x y:Hi}(h:ahead x y):¬ ahead y x:=by unfold ahead at *;omega
theorem Ky(x:Hi):¬ ahead x x:=by unfold ahead;omega
def at_(l:J Hi)(i:M):Hi:=l.getD i ⟨0,0,0⟩
theorem pQ{l:J Hi}(h:i<l.length):at_ l i=l[i]:=by simp[at_,List.getD,h]
theorem b7r{l:J Hi}{x:Hi}:at_ (l.set i x) j=if i=j/\i<l.length then x else at_ l j:=by grind[at_]
def par(i:M):M:=(i-1) / 2
def ok(l:J Hi)(i:M):Prop:=¬ ahead (at_ l i) (at_ l (par i))
def iP(l:J Hi):Prop:=∀ i,0<i->i<l.length->ok l i
def swap(l:J Hi)(i j:M):J Hi:=(l.set i (at_ l j)).set j (at_ l i)
theorem tY{l:J Hi}:(swap l i j).length=l.length:=by simp[swap]
theorem A7{l:J Hi}(g:i<l.length)(c:j<l.length):(swap l i j).Perm l:=by unfold swap;rw[pQ g,pQ c];exact List.set_set_perm g c
theorem qG{l:J Hi}(g:i<l.length)(c:j<l.length)(k:M):at_ (swap l i j) k=if k=j then at_ l i else if k=i then at_ l j else at_ l k:=by grind[at_,swap]
theorem D9{l:J Hi}(h:iP l):∀ i,i<l.length->¬ ahead (at_ l i) (at_ l 0):=by
 intro i;induction i using Nat.strongRecOn with
 |_ i ih =>intro g;by_cases c:i=0;subst c;exact Ky _;have:=h i O g;exact yV this (ih (par i) (by unfold par;omega) (by unfold par;omega))
structure rF(l:J Hi)(p:M):Prop where
 o:∀ i,0<i->i<l.length->i≠p->ok l i
 c:0<p->∀ i,0<i->i<l.length->par i=p->¬ ahead (at_ l i) (at_ l (par p))
theorem rF.done{l:J Hi}(h:rF l p)(k:p=0\/¬ ahead (at_ l p) (at_ l (par p))):iP l:=by
 intro i g c;by_cases e:i=p
 .subst e;rcases k with k|k
  .omega
  .exact k
 .exact h.o i g c e
theorem rF.step{l:J Hi}(h:rF l p)(x:p<l.length)(K:0<p)(k:ahead (at_ l p) (at_ l (par p))):rF (swap l p (par p)) (par p):=by
 have P:par p<p:=by unfold par;omega
 have m:par p<l.length:=O;refine⟨fun i t r y=>?_,fun D i t r C=>?_⟩
 .rw[tY] at r;unfold ok;rw[qG x m,qG x m,Uy y]
  by_cases e:i=p
  .subst e;rw[Uz rfl,Uz rfl];exact DH k
  .rw[Uy e]
   by_cases s:par i=par p
   .rw[Uz s];have:=h.o i t r e;unfold ok at this;rw[s] at this;exact yV this (DH k)
   .rw[Uy s]
    by_cases z:par i=p
    .rw[Uz z];exact h.c K i t r z
    .rw[Uy z];exact h.o i t r e
 .rw[tY] at r
  have I:par (par p)<par p:=by have:par (par p)=(par p-1) / 2:=rfl;omega
  rw[qG x m,qG x m,Uy (show par (par p)≠par p by omega),Uy (show par (par p)≠p by omega)];have g:=h.o (par p) D m O;unfold ok at g;by_cases e:i=par p
  .rw[e] at C;omega
  .rw[Uy e]
   by_cases s:i=p
   .subst s;rw[Uz rfl];exact g
   .rw[Uy s];have:=h.o i t r s;unfold ok at this;rw[C] at this;exact yV this g
theorem c2v{l:J Hi}{x:Hi}(h:iP l):rF (l++[x]) l.length:=by
 have e:∀ i,i<l.length->at_ (l++[x]) i=at_ l i:=by intro i c;unfold at_ List.getD;rw[VV c]
 refine⟨fun i g c k=>?_,fun _ i g c m=>?_⟩;simp at c;unfold ok;rw[e i O,e (par i) (by unfold par;omega)];exact h i g O;simp at c;unfold par at m;omega
structure tR(l:J Hi)(q p:M):Prop where
 qp:q<=p
 a:∀ i,0<i->i<l.length->i≠q->par i≠p->ok l i
 b:0<p->∀ i,0<i->i<l.length->par i=p->¬ ahead (at_ l i) (at_ l (par p))
 d:p≠q->0<q->ok l q
theorem tR.done{l:J Hi}(h:tR l q p)(y:q<l.length)(k:∀ i,0<i->i<l.length->par i=p->¬ ahead (at_ l i) (at_ l p)):rF l q:=by
 have o:∀ i,0<i->i<l.length->i≠q->ok l i:=by intro i c g m;by_cases e:par i=p;unfold ok;rw[e];exact k i c g e;exact h.a i c g m e
 refine⟨o,fun t i c g r=>?_⟩;by_cases e:p=q;subst e;exact h.b t i c g r;have x:=h.d e t;have s:=o i c g (by intro e;subst e;unfold par at r;omega);unfold ok at x s;rw[r] at s;exact yV s x
theorem tR.step{l:J Hi}{c:M}(h:tR l q p)(K:0<c)(m:c<l.length)(g:par c=p)(k:ahead (at_ l c) (at_ l p))(P:∀ i,0<i->i<l.length->par i=p->¬ ahead (at_ l i) (at_ l c)):tR (swap l p c) q c:=by
 have R:p<c:=by unfold par at g;omega
 have r:p<l.length:=O;have T:=h.qp;refine⟨O,fun i t s y z=>?_,fun _ i t s D=>?_,fun _ C=>?_⟩
 .rw[tY] at s;unfold ok;rw[qG r m,qG r m,Uy z]
  by_cases e:i=c
  .subst e;rw[Uz rfl,Uz g];exact DH k
  .rw[Uy e]
   by_cases I:i=p
   .subst I;have:par i<i:=by unfold par;omega
    rw[Uz rfl,Uy O];exact h.b t c K m g
   .rw[Uy I]
    by_cases x:par i=p
    .rw[Uz x];exact P i t s x
    .rw[Uy x];exact h.a i t s y x
 .rw[tY] at s;have S:c<i:=by unfold par at D;omega
  rw[qG r m,qG r m,Uy O,Uy O,Uy (show par c≠c by omega),Uz g];have:=h.a i t s O O;unfold ok at this;rw[D] at this;exact this
 .unfold ok;have Q:par q<q:=by unfold par;omega
  rw[qG r m,qG r m,Uy (show q≠c by omega),Uy (show par q≠c by omega),Uy (show par q≠p by omega)];by_cases e:q=p
  .subst e;rw[Uz rfl];exact h.b C c K m g
  .rw[Uy e];exact h.d O C
def cut(l:J Hi)(p:M):J Hi:=(l.set p (at_ l (l.length-1))).take (l.length-1)
theorem tU{l:J Hi}:(cut l p).length=l.length-1:=by simp[cut]
theorem uR{l:J Hi}(c:i<l.length-1):at_ (cut l p) i=if i=p then at_ l (l.length-1) else at_ l i:=by grind[at_,cut]
theorem J4{l:J Hi}(h:p<l.length):l.Perm (at_ l p :: cut l p):=by
 have k:l.length-1<l.length:=O;have m:=(A7 (l:=l) (i:=p) (j:=l.length-1) h k).symm;have g:(swap l p (l.length-1)).length=l.length:=tY;have e:swap l p (l.length-1)=cut l p++[at_ l p]:=by
  refine List.ext_getElem (by rw[g,VA,tU];simp;omega) (fun i t x=>?_);rw[g] at t;have s:=qG h k i;rw[pQ Uo] at s;rw[s];by_cases c:i=l.length-1
  .rw[Uz c,List.getElem_append_right (by rw[tU];omega)];simp
  .rw[Uy c,List.getElem_append_left (by rw[tU];omega)];have r:=uR (l:=l) (p:=p) (i:=i) O;rw[pQ (by rw[tU];omega)] at r;rw[r]
 rw[e] at m;exact m.trans (List.perm_append_comm.trans Ui)
theorem c3y{l:J Hi}(h:iP l):iP (cut l (l.length-1)):=by intro i g c;rw[tU] at c;unfold ok;rw[uR c,uR (show par i<l.length-1 by unfold par;omega),Uy O,Uy (show par i≠l.length-1 by unfold par;omega)];exact h i g O
theorem c3x{l:J Hi}(h:iP l)(C:p<l.length-1):tR (cut l p) p p:=by
 refine⟨zq _,fun i g c r m=>?_,fun z i g c x=>?_,fun e=>UA rfl e⟩
 .rw[tU] at c;unfold ok;rw[uR c,uR (show par i<l.length-1 by unfold par;omega),Uy r,Uy m];exact h i g O
 .rw[tU] at c;have s:i≠p:=by intro e;subst e;unfold par at x;omega
  have k:par p≠p:=by unfold par;omega
  rw[uR c,uR (show par p<l.length-1 by unfold par;omega),Uy s,Uy k];have t:=h i g O;have y:=h p z O;unfold ok at t y;rw[x] at t;exact yV t y
end Hp
def kr(x:Hp.Hi):J UG:=[x.t,V Y x.n,x.v]
theorem Ba(l:J Hp.Hi):(l.flatMap kr).length=l.length*3:=by
 induction l with
 |nil=>rfl
 |cons x l ih=>simp only[VW,VA,VB,ih,kr,VG];omega
theorem FY{l:J Hp.Hi}(h:i<l.length):l=l.take i++l[i] :: l.drop (i+1):=by rw[List.getElem_cons_drop,VH]
theorem wJ{l:J Hp.Hi}(h:i<l.length)(g:j<3):(l.flatMap kr)[i*3+j]?=(kr l[i])[j]?:=by
 conv=>lhs;rw[FY h,VX,VW]
 have c:((l.take i).flatMap kr).length=i*3:=by rw[Ba,VY O]
 rw[VZ O,c,V1,VV (by simp[kr];omega)]
theorem c0M{l:J Hp.Hi}(h:i<l.length)(x:Hp.Hi):(((l.flatMap kr).set (i*3) x.t).set (i*3+1) (V Y x.n)).set (i*3+2) x.v=(l.set i x).flatMap kr:=by
 have c:((l.take i).flatMap kr).length=i*3:=by rw[Ba,VY O]
 conv=>lhs;rw[FY h,VX,VW]
 rw[V2 _ _ O,V2 _ _ O,V2 _ _ O,c];rw[show i*3-i*3=0 from by omega,show i*3+1-i*3=1 from by omega,show i*3+2-i*3=2 from by omega];conv=>rhs;rw[List.set_eq_take_append_cons_drop,Uz h,VX,VW]
 simp[kr]
structure HP(w:UF)(d o:M)(v:UG)(l:J Hp.Hi):Prop where
 c:w.cell? (d,o)=U v
 own:w.ownsRow 0 278 3 v l.length (l.flatMap kr)
 ne:v.ownBlock≠U d
 fz:w.frozen? (d,o)=UD
theorem HP.form{l:J Hp.Hi}(h:HP w d o v l)(c:0<l.length):∃ H cap,v=UO (U ⟨H,0,Z⟩) l.length cap:=by let⟨H,cap,e⟩:=Joins.ownsRow_form h.own c;exact⟨H,cap,e⟩
theorem HP.at{l:J Hp.Hi}(h:HP w d o (UO H l.length cap) l)(c:i<l.length):w.cell? (H,i*3)=U (V Y (Hp.at_ l i).t)/\w.cell? (H,i*3+1)=U (V Y (Hp.at_ l i).n)/\w.cell? (H,i*3+2)=U (UM (U ⟨(Hp.at_ l i).v,0,Z⟩)):=by rw[Hp.pQ c];refine⟨?_,?_,?_⟩;exact (h.own.cellAt (i*3) O).trans (wJ c (j:=0) O);exact (h.own.cellAt (i*3+1) O).trans (wJ c (j:=1) O);exact (h.own.cellAt (i*3+2) O).trans (wJ c (j:=2) O)
theorem HP.off{l:J Hp.Hi}(h:HP w d o v l)(k:aH G w w')(x:d ∉ G)(C:∀ b,v.ownBlock=U b->b ∉ G):HP w' d o v l:=by
 refine⟨k.cell x h.c,⟨h.own.1,?_⟩,h.ne,(k.frozen x (U1 _ _ h.c)).trans h.fz⟩;rcases h.own.2 with D|⟨g,cap,s,t,z,r,rest⟩
 .exact .inl D
 .refine .inr ⟨g,cap,s,t,z,?_,rest⟩
  have m:g<w:=by
   by_cases y:g<w
   .exact y
   .rw[V4 O] at r;cases r
  rw[k.block g m (C g (by rw[t];rfl))];exact r
theorem HP.later{l:J Hp.Hi}(h:HP w d o v l)(k:UH w w w'):HP w' d o v l:=h.off (G:=[]) (aH.aD k) Ui Ui
theorem HP.put{l:J Hp.Hi}(h:HP w d o (UO H l.length cap) l)(m:i<l.length)(x:Hp.Hi):HP (((w.setCell (H,i*3) x.t).setCell (H,i*3+1) (V Y x.n)).setCell (H,i*3+2) x.v) d o (UO H (l.set i x).length cap) (l.set i x):=by
 have g:d≠H:=fun e=>h.ne (by rw[e];rfl);have k:aH [H] w (((w.setCell (H,i*3) x.t).setCell (H,i*3+1) (V Y x.n)).setCell (H,i*3+2) x.v) :=(((aH.refl [H] w).setCell (.inl Ui) _ _).setCell (.inl Ui) _ _).setCell (.inl Ui) _ _
 refine⟨?_,?_,h.ne,?_⟩
 .rw[V5];exact k.cell Uo h.c
 .rw[V5,<- c0M m x];exact ((((h.own.stored (i*3) x.t).1).stored (i*3+1) (V Y x.n)).1.stored (i*3+2) x.v).1
 .exact (k.frozen Uo (U1 _ _ h.c)).trans h.fz
theorem wF(w:UF)(H i j m:M)(a b c:UG):aH [H] w (((w.setCell (H,i) a).setCell (H,j) b).setCell (H,m) c) :=(((aH.refl [H] w).setCell (.inl Ui) _ _).setCell (.inl Ui) _ _).setCell (.inl Ui) _ _
theorem HP.rO{l:J Hp.Hi}(h:HP w d o (UO H l.length cap) l)(k:i<l.length)(m:j<l.length){x y:Hp.Hi}(g:Hp.at_ l i=x)(c:Hp.at_ l j=y):
  HP ((((((w.setCell (H,i*3) y.t).setCell (H,i*3+1) (V Y y.n)).setCell (H,i*3+2) y.v).setCell (H,j*3) x.t).setCell (H,j*3+1) (V Y x.n)).setCell (H,j*3+2) x.v) d o (UO H l.length cap) (Hp.swap l i j)
  /\ aH [H] w ((((((w.setCell (H,i*3) y.t).setCell (H,i*3+1) (V Y y.n)).setCell (H,i*3+2) y.v).setCell (H,j*3) x.t).setCell (H,j*3+1) (V Y x.n)).setCell (H,j*3+2) x.v):=by
 refine⟨?_,(wF _ _ _ _ _ _ _ _).trans (wF _ _ _ _ _ _ _ _)⟩;have a:=(h.put k y).put (i:=j) Uo x;subst g c;have e:((l.set i (Hp.at_ l j)).set j (Hp.at_ l i)).length=l.length:=Ui;rw[e] at a;exact a
def jM(x:Hp.Hi)(t n:N):N:=rQ (nS x.t t) (nS x.n n)
theorem TP(x y:Hp.Hi):jM x y.t y.n<0↔Hp.ahead x y:=by unfold jM rQ nS Hp.ahead;split <;> split <;> (repeat split) <;> omega
theorem KW(x:Hp.Hi)(t n:N):jM x t n=0↔x.t=t/\x.n=n:=by unfold jM rQ nS;split <;> split <;> (repeat split) <;> omega
theorem MH(x:Hp.Hi)(t n:N)(w:UF):UI prog 190 #[.agg #[V Y x.t,V Y x.n,UM (U ⟨x.v,0,Z⟩)],V Y t,V Y n] w fun e w'=>e=UW (V Y (jM x t n))/\UH w.heap.size w w':=by
 unfold jM;have HP:=aB (fun w'=>Bt x.t t w');have r:=aB (fun w'=>Bt x.n n w');generalize nS x.t t=p at *;generalize nS x.n n=q at *;go_in;have g:UH w.heap.size w (w.alloc (UX #[V Y x.t,V Y x.n,UM (U ⟨x.v,0,Z⟩)] 278)):=(zr _ _).alloc (zq _) _;have l:(w.alloc (UX #[V Y x.t,V Y x.n,UM (U ⟨x.v,0,Z⟩)] 278)).cell? ⟨w.heap.size,0,Z⟩=U (V Y x.t):=Ui;have k:(w.alloc (UX #[V Y x.t,V Y x.n,UM (U ⟨x.v,0,Z⟩)] 278)).cell? ⟨w.heap.size,1,Z⟩=U (V Y x.n):=Ui;go_upto_region 1 with fail;generalize (Vj w (UX #[V Y x.t,V Y x.n,UM (U ⟨x.v,0,Z⟩)] 278))=X at l k g ⊢;generalize c:w.heap.size=b at l k g ⊢;have m:=aB c;clear c;go_region_held3 (fun w'=>w'.cell? ⟨b,0,Z⟩=U (V Y x.t)/\w'.cell? ⟨b,1,Z⟩=U (V Y x.n)/\UH b w w')
  (first
   |exact⟨l,k,g.drew⟩
   |(go_split_ands;refine⟨?_,?_,?_⟩ <;> assumption)
   |(go_split_ands;exact⟨aT ((zr _ _).alloc (zq _) _) Uk,aT ((zr _ _).alloc (zq _) _) Uk,bU Uk ((zr _ _).alloc (zq _) _) (by rw[m.out];exact zq _)⟩))
  (first
   |(go_at_call_of 221 (V Y t);refine (HP.out _).mono ?_;rintro e w' ⟨rfl,rfl⟩)
   |(go_at_call_of 221 (V Y n);refine (r.out _).mono ?_;rintro e w' ⟨rfl,rfl⟩)
   |(go_at_call 220;refine (Jm _ p q _ Ui Ui).mono ?_;rintro e w' ⟨rfl,rfl⟩))
 all_goals
  have s:Hid (UH w.heap.size w (World.drew (Vj X (UX #[V Y p,V Y q] 3)))):=by have h:=bU g ((zr X.heap.size X).alloc (zq _) (UX #[V Y p,V Y q] 3)) (by rw[m.out];exact zq _);rw[m.out];exact h.drew
  go_wp2;go_ret;exact⟨rfl,s.out⟩
def vV(x y:Hp.Hi):Uv:=decide (jM x y.t y.n<0)
theorem FP{x y:Hp.Hi}:vV x y=UE↔Hp.ahead x y:=by unfold vV;rw[decide_eq_true_iff,TP]
theorem LP{x y:Hp.Hi}:vV x y=UD↔¬ Hp.ahead x y:=by rw[<- FP];simp
def Aq(l:J Hp.Hi):N:=if l.length=0 then 0 else (Hp.at_ l 0).t
def vR(l:J Hp.Hi):Uv:=!(l.length==0)
theorem Ey{l:J Hp.Hi}(h:0<l.length):Aq l=(Hp.at_ l 0).t:=by rw[Aq,Uy O]
theorem Ex{l:J Hp.Hi}(h:0<l.length):vR l=UE:=by unfold vR;simp;intro e;simp[e] at h
theorem Mh(d o:M)(v:UG)(l:J Hp.Hi)(w:UF)(h:HP w d o v l):UI prog 160 #[UM (U ⟨d,o,Z⟩)] w fun e w'=>e=UW (US #[V Y (Aq l),vR l])/\w'=w:=by
 have c:=h.c;by_cases m:l=[]
 .subst m
  have r:∃ a cap,v=UO a 0 cap:=by
   rcases h.own.2 with ⟨rfl,_⟩|⟨g,cap,_,rfl,_⟩
   .exact⟨_,_,rfl⟩
   .exact⟨_,_,rfl⟩
  obtain⟨a,cap,rfl⟩:=r;clear h;go_in;go_wp21;go_ret2;exact⟨rfl,rfl⟩
 .have k:=List.length_pos_iff.2 m;obtain⟨H,cap,rfl⟩:=h.form k;have s:=(h.at k).1;simp only[V6] at s;have t:¬ ((l.length:N)=0):=O
  have E:=aB (Vf (Ey k) (Ex k));clear h;go_in;go_wp21;go_ret2;exact⟨by rw[E.1,E.2];rfl,rfl⟩
theorem Mu(d o:M)(v:UG)(l:J Hp.Hi)(i j:M)(w:UF)(h:HP w d o v l)(m:i<l.length)(k:j<l.length)(C:l.length<=1000):UI prog 240 #[UM (U ⟨d,o,Z⟩),V Y i,V Y j] w fun e w'=>e=UW (vV (Hp.at_ l i) (Hp.at_ l j))/\UH w w w':=by
 obtain⟨H,cap,rfl⟩:=h.form O;have c:=h.c;let⟨a0,a1,a2⟩:=h.at m;let⟨b0,b1,b2⟩:=h.at k;have s:=aB (fun w'=>MH (Hp.at_ l i) (Hp.at_ l j).t (Hp.at_ l j).n w');have z:(i:N)<(l.length:N):=O;have j1:(j:N)<(l.length:N):=O;clear h;generalize Hp.at_ l i=x at *;generalize Hp.at_ l j=y at *;go_in;go_upto_region 1 with fail;go_region_held3 (fun w'=>w'.cell? (d,o)=U (UO H l.length cap)/\w'.cell? (H,i*3)=U ↑x.t/\w'.cell? (H,i*3+1)=U (V Y x.n)/\w'.cell? (H,i*3+2)=U ↑x.v/\w'.cell? (H,j*3)=U ↑y.t/\w'.cell? (H,j*3+1)=U (V Y y.n))
  (first
   |exact⟨c,a0,a1,a2,b0,b1⟩
   |exact⟨aT g c,aT g a0,aT g a1,aT g a2,aT g b0,aT g b1⟩)
  (first
   |(go_at_call 190;refine aK (s _) fun w4 g=>?_))
 have r:=bU (eN w) g aJ;clear g;go_wp21;go_ret;exact⟨rfl,r⟩
theorem Fi(d o H cap:M)(l:J Hp.Hi)(i j:M)(w:UF)(h:HP w d o (UO H l.length cap) l)(m:i<l.length)(g:j<l.length)(s:i≠j):UI prog 241 #[UM (U ⟨d,o,Z⟩),V Y i,V Y j] w fun e w'=>e=UW (US #[])/\HP w' d o (UO H l.length cap) (Hp.swap l i j)/\aH [H] w w':=by
 have c:=h.c;let⟨a0,a1,a2⟩:=h.at m;let⟨b0,b1,b2⟩:=h.at g;have z:∀ k,w.frozen? (H,k)=UD:=fun k=>h.own.frozenAt k;have t:(i:N)<(l.length:N):=O;have j1:(j:N)<(l.length:N):=O;have r:=aB (h.rO m g rfl rfl);clear h;generalize Hp.at_ l i=x at *;generalize Hp.at_ l j=y at *;go_in;go_upto_region 0 with fail;go_big_region;go_end0;exact⟨rfl,r.1.off (G:=[]) ((aH.refl _ _).drew) Ui Ui,r.2.drew⟩
structure nD(w wx:UF)(d o H n cap:M)(l l':J Hp.Hi):Prop where
 hp:HP wx d o (UO H n cap) l'
 len:l'.length=n
 perm:l'.Perm l
 off:aH [H] w wx
theorem nD.new{l:J Hp.Hi}(h:HP w d o (UO H l.length cap) l):nD w w d o H l.length cap l l:=⟨h,rfl,.refl _,aH.refl _ _⟩
theorem nD.later{l l':J Hp.Hi}(h:nD w wx d o H n cap l l')(k:UH wx wx wy):nD w wy d o H n cap l l' :=⟨h.hp.later k,h.len,h.perm,h.off.trans' (aH.aD (F:=[]) k) Ui⟩
theorem Ke(d o H cap:M)(l:J Hp.Hi)(p:M)(w:UF)(h:HP w d o (UO H l.length cap) l)(R:p<l.length)(m:Hp.rF l p)(hl:l.length<=1000):UI prog 218 #[UM (U ⟨d,o,Z⟩),V Y p] w fun e w'=>e=UW (US #[])/\∃ l',nD w w' d o H l.length cap l l'/\Hp.iP l':=by
 have W:=aB (nD.new h);have X:=aB m;clear h m;go_in;go_wp21;go_loopw [1] (fun v wx=>∃ (q:M) (l':J Hp.Hi),v=V Y q/\q<l.length/\Hp.rF l' q/\nD w wx d o H l.length cap l l') (fun v _=>(intOf v).toNat)
 .exact⟨p,l,rfl,R,X,W⟩
 .obtain⟨q,l',rfl,hq,m,ht⟩:=hrel
  by_cases S:0<q
  .have i0:(0:N)<(q:N):=O
   have I:=aB ht;have r:=aB m;have ea:((((q:N)-1).tdiv 2))=((Hp.par q:M):N):=by unfold Hp.par;rw[Int.tdiv_eq_ediv_of_nonneg O];omega
   have ew:Y.wrap ((q:N)-1)=(q:N)-1:=dJ O O;have Q:Hp.par q<q:=by unfold Hp.par;omega
   have K:=aB (fun wy (k:UH wr wr wy)=>Mu d o _ l' q (Hp.par q) wy (ht.hp.later k) (by rw[ht.len];omega) (by rw[ht.len];omega) (by rw[ht.len];omega));clear m ht;go_wp21;refine aK (K _ fI) fun w4 z=>?_;have c:=aB (I.later z);clear K I z
   cases C:vV (Hp.at_ l' q) (Hp.at_ l' (Hp.par q))
   .have t:=aB (Vf c (r.done (.inr (LP.1 C))));clear c r
    go_wp21;(try simp only[V7,Exit.then]);refine bodyPost_ret (results_none rfl _ _ _) rfl ?_;exact⟨rfl,l',t⟩
   .have g:=c.len;have D:=aB (Fi d o H cap l' q (Hp.par q) w4 (by rw[g];exact c.hp) O O O);have HS:=aB (r.step O S (FP.1 C));have s:=aB g;clear r g
    go_wp21;refine D.mono ?_;rintro e P ⟨rfl,y,x⟩;have HN:Hid (nD w P d o H l.length cap l (Hp.swap l' q (Hp.par q))) :=⟨by rw[<- s];exact y,Hp.tY.trans s,(Hp.A7 (by rw[s];omega) (by rw[s];omega)).trans c.perm,c.off.trans x⟩
    clear y x D c;go_wp21;go_roundw
    .exact⟨Hp.par q,_,rfl,O,HS,HN⟩
    .simp[intOf];omega
  .have T:q=0:=O
   subst T;have t:=aB (Vf ht (m.done (.inl rfl)));clear m ht;go_wp21;go_end0;exact⟨rfl,l',t⟩
structure pP(l:J Hp.Hi)(q f b:M):Prop where
 b0:2*q+1<=b
 b1:b<=2*q+3
 f1:f<l.length
 ff:f=q\/(2*q+1<=f/\f<b/\Hp.ahead (Hp.at_ l f) (Hp.at_ l q))
 no:∀ i,2*q+1<=i->i<b->i<l.length->¬ Hp.ahead (Hp.at_ l i) (Hp.at_ l f)
theorem pP.new{l:J Hp.Hi}(h:q<l.length):pP l q q (2*q+1):=⟨O,O,h,.inl rfl,fun i g c _=>by omega⟩
theorem pP.BS{l:J Hp.Hi}(h:pP l q f b)(s:b<=2*q+2)(k:¬ Hp.ahead (Hp.at_ l b) (Hp.at_ l f)):pP l q f (b+1):=by
 refine⟨by have:=h.b0;omega,O,h.f1,?_,fun i g t c=>?_⟩
 .rcases h.ff with e|⟨r,x,m⟩
  .exact .inl e
  .exact .inr ⟨r,O,m⟩
 .by_cases e:i=b
  .subst e;exact k
  .exact h.no i g O c
theorem pP.yes{l:J Hp.Hi}(h:pP l q f b)(r:b<=2*q+2)(c:b<l.length)(k:Hp.ahead (Hp.at_ l b) (Hp.at_ l f)):pP l q b (b+1):=by
 have t:=h.b0;refine⟨O,O,c,.inr ⟨O,O,?_⟩,fun i m s g=>?_⟩
 .rcases h.ff with e|⟨z,y,x⟩
  .rw[<- e];exact k
  .unfold Hp.ahead at *;omega
 .by_cases e:i=b
  .subst e;exact Hp.Ky _
  .have:=h.no i m O g;unfold Hp.ahead at *;omega
theorem pP.all{l:J Hp.Hi}(h:pP l q f b)(k:¬ b<=2*q+2\/¬ b<l.length):∀ i,0<i->i<l.length->Hp.par i=q->¬ Hp.ahead (Hp.at_ l i) (Hp.at_ l f):=by intro i m g c;have:=h.b0;unfold Hp.par at c;exact h.no i O O g
theorem c2m(d o H cap:M)(l:J Hp.Hi)(p:M)(w:UF)(h:HP w d o (UO H l.length cap) l)(hp:p<l.length)(S:Hp.tR l p p)(hl:l.length<=1000):UI prog 222 #[UM (U ⟨d,o,Z⟩),V Y p] w fun e w'=>e=UW (US #[])/\∃ r,nD w w' d o H l.length cap l r/\Hp.rF r p:=by
 have T0:=aB (nD.new h);have R0:=aB S;clear h S;go_in;go_wp21;go_loopw [1] (fun v wx=>∃ (q:M) (r:J Hp.Hi),v=V Y q/\q<l.length/\Hp.tR r p q/\nD w wx d o H l.length cap l r) (fun v _=>l.length-(intOf v).toNat)
 .exact⟨p,l,rfl,hp,R0,T0⟩
 .obtain⟨q,r,rfl,hq,S,ht⟩:=hrel;have P:=aB ht;have I:=aB S;clear S ht;have w1:Y.wrap (2*(q:N))=2*(q:N):=dJ O O;have w2:Y.wrap (2*(q:N)+1)=2*(q:N)+1:=dJ O O;have w3:Y.wrap (2*(q:N)+2)=2*(q:N)+2:=dJ O O
  go_wp21;go_loopw [4,5] (fun vf vb wx=>∃ f b:M,vf=V Y f/\vb=V Y b/\pP r q f b/\nD w wx d o H l.length cap l r) (fun _ vb _=>2*q+3-(intOf vb).toNat)
  .exact⟨q,2*q+1,rfl,by simp,pP.new (by rw[P.len];exact hq),P⟩
  .obtain⟨f,b,rfl,rfl,t,ht⟩:=hrel;have k:=ht.len;have hc:=ht.hp.c
   by_cases W:b<=2*q+2
   .have b1:(b:N)<=2*(q:N)+2:=O
    by_cases ad:b<l.length
    .have b2:(b:N)<(l.length:N):=O
     have fb:=t.f1;have AH:=aB (Mu d o _ r b f wr ht.hp O O O);have m:=aB ht;have D:=aB t;have hw:Y.wrap ((b:N)+1)=((b+1:M):N):=by rw[dJ O O];omega
     clear ht t;go_wp21;refine AH.mono ?_;rintro e w4 ⟨rfl,k1⟩;have aa:=aB (m.later k1);clear AH m k1
     cases hb:vV (Hp.at_ r b) (Hp.at_ r f)
     .have K:=aB (D.BS W (LP.1 hb));clear D
      go_wp21;go_roundw
      .exact⟨f,b+1,rfl,rfl,K,aa⟩
      .simp[intOf];omega
     .have K:=aB (D.yes W O (FP.1 hb));clear D
      go_wp21;go_roundw
      .exact⟨b,b+1,rfl,rfl,K,aa⟩
      .simp[intOf];omega
    .have b2:¬ ((b:N)<(l.length:N)):=O
     have g:=aB (t.all O);have x:=t.ff;have s:=t.f1;have ab:=I.qp;have m:=aB ht;have y:=aB k;by_cases z:f=q
     .subst z;have HF:=aB (Vf ht (I.done O g));clear ht t g x s m P I y k
      go_wp21;(try simp only[V7,Exit.then]);refine bodyPost_ret (results_none rfl _ _ _) rfl ?_;exact⟨rfl,r,HF⟩
     .have T:¬ ((f:N)=(q:N)):=O
      have ac:2*q+1<=f:=O;have X:=aB (Fi d o H cap r q f wr (by rw[k];exact ht.hp) O O O);have C:Hp.ahead (Hp.at_ r f) (Hp.at_ r q):=by rcases x with e|e;exact UA e z;exact e.2.2
      have D:=aB (I.step (c:=f) O s (by unfold Hp.par;have:=t.ff;have:=t.b1;omega) C g);clear ht t g x C k;go_wp21;refine X.mono ?_;rintro e w5 ⟨rfl,R,Q⟩;have K:Hid (nD w w5 d o H l.length cap l (Hp.swap r q f)) :=⟨by rw[<- y];exact R,Hp.tY.trans y,(Hp.A7 (by rw[y];omega) s).trans m.perm,m.off.trans Q⟩
      clear R Q X m P;go_wp21;go_roundw
      .exact⟨f,_,rfl,by rw[<- y];exact s,D,K⟩
      .have:=y;simp[intOf];omega
   .have b1:¬ ((b:N)<=2*(q:N)+2):=O
    have g:=aB (t.all O);have x:=t.ff;have s:=t.f1;have ab:=I.qp;have m:=aB ht;have y:=aB k;by_cases z:f=q
    .subst z;have HF:=aB (Vf ht (I.done O g));clear ht t g x s m P I y k
     go_wp21;(try simp only[V7,Exit.then]);refine bodyPost_ret (results_none rfl _ _ _) rfl ?_;exact⟨rfl,r,HF⟩
    .have T:¬ ((f:N)=(q:N)):=O
     have ac:2*q+1<=f:=O;have X:=aB (Fi d o H cap r q f wr (by rw[k];exact ht.hp) O O O);have C:Hp.ahead (Hp.at_ r f) (Hp.at_ r q):=by rcases x with e|e;exact UA e z;exact e.2.2
     have D:=aB (I.step (c:=f) O s (by unfold Hp.par;have:=t.ff;have:=t.b1;omega) C g);clear ht t g x C k;go_wp21;refine X.mono ?_;rintro e w5 ⟨rfl,R,Q⟩;have K:Hid (nD w w5 d o H l.length cap l (Hp.swap r q f)) :=⟨by rw[<- y];exact R,Hp.tY.trans y,(Hp.A7 (by rw[y];omega) s).trans m.perm,m.off.trans Q⟩
     clear R Q X m P;go_wp21;go_roundw
     .exact⟨f,_,rfl,by rw[<- y];exact s,D,K⟩
     .have:=y;simp[intOf];omega
namespace aA
structure aQ where
 id:N
 kind:N
 bH:Us
 aN:N
 aR:J (N × N)
 bY:N
def hasB(t:N)(s:N × N):Uv:=decide (s.1<=t) && decide (t<s.2)
def eM(L:J (N × N))(t:N):N:=((L.filter (hasB t)).length:N)
def dI(a b:Us):Uv:=a.toList==b.toList
def dB(name:Us)(e:aQ):Uv:=dI e.bH name && (e.kind != 3)
def cM(name:Us)(t:N):J aQ->N
 |[]=>0
 |e :: r=>(if dB name e then eM e.aR t*e.aN else 0)+cM name t r
def fW(name:Us):J aQ->J N
 |[]=>[]
 |e :: r=>(if dI e.bH name then e.aR.map (·.1) else [])++fW name r
theorem sJ(L:J (N × N))(t:N):0<=eM L t/\eM L t<=L.length:=by grind[eM]
theorem Si(L:J (N × N))(s:N × N)(t:N):eM (L++[s]) t=eM L t+if hasB t s then 1 else 0:=by grind[eM,hasB]
theorem wR(name:Us)(t:N)(l r:J aQ):cM name t (l++r)=cM name t l+cM name t r:=by
 induction l with
 |nil=>simp[cM]
 |cons e l ih=>simp only[Vm,cM,ih];omega
theorem SB(name:Us)(l r:J aQ):fW name (l++r)=fW name l++fW name r:=by
 induction l with
 |nil=>rfl
 |cons e l ih=>simp only[Vm,fW,ih,V8]
structure Small(e:aQ):Prop where
 u0:0<=e.aN
 u1:e.aN<=9
 sl:e.aR.length<=100
theorem IG(name:Us)(t:N)(l:J aQ)(h:∀ e∈l,Small e):0<=cM name t l/\cM name t l<=900*l.length:=by
 induction l with
 |nil=>simp[cM]
 |cons e l ih =>have i:=ih (fun x g=>h x (by simp[g]));have s:=h e Ui;have b:=sJ e.aR t;have u0:=s.u0;have u1:=s.u1;have k:=s.sl;have c:0<=eM e.aR t*e.aN:=VI b.1 s.u0;have d:eM e.aR t*e.aN<=100*9:=VK O s.u1 s.u0 O;simp only[cM,VB];split <;> omega
end aA
def iW(w:UF)(B:M)(L:J (N × N)):Prop:=∀ (i:M)(h:i<L.length),w.cell? (B,i*2)=U (V Y L[i].1)/\w.cell? (B,i*2+1)=U (V Y L[i].2)
theorem iW.off(h:iW w B L)(k:aH G w w')(g:B ∉ G):iW w' B L:=fun i c=>⟨k.cell g (h i c).1,k.cell g (h i c).2⟩
theorem iW.later(h:iW w B L)(k:UH w w w'):iW w' B L:=h.off (G:=[]) (aH.aD k) Ui
structure RE(w:UF)(E i:M)(e:aA.aQ)(B cap:M):Prop where
 c0:w.cell? (E,i*6)=U ↑e.id
 c1:w.cell? (E,i*6+1)=U ↑e.kind
 c2:w.cell? (E,i*6+2)=U ↑e.bH
 c3:w.cell? (E,i*6+3)=U ↑e.aN
 c4:w.cell? (E,i*6+4)=U (UO B e.aR.length cap)
 c5:w.cell? (E,i*6+5)=U ↑e.bY
 sl:iW w B e.aR
theorem RE.later{e:aA.aQ}(h:RE w E i e B cap)(k:UH w w w'):RE w' E i e B cap:=by have o:aH [] w w':=aH.aD k;exact⟨o.cell Ui h.c0,o.cell Ui h.c1,o.cell Ui h.c2,o.cell Ui h.c3,o.cell Ui h.c4,o.cell Ui h.c5,h.sl.off o Ui⟩
structure oJ(w:UF)(d:M)(a:Uu UJ)(cap E:M)(es:J aA.aQ):Prop where
 c:w.cell? (d,1)=U (UO a es.length cap)
 a:es≠[]->a=U ⟨E,0,Z⟩
 r:∀ (i:M) (h:i<es.length),∃ B cap,RE w E i es[i] B cap
theorem oJ.later{es:J aA.aQ}(h:oJ w d a cap E es)(k:UH w w w'):oJ w' d a cap E es :=⟨(aH.aD (F:=[]) k).cell Ui h.c,h.a,fun i g=>by let⟨B,c,r⟩:=h.r i g;exact⟨B,c,r.later k⟩⟩
theorem oJ.at{es:J aA.aQ}(h:oJ w d a cap E es)(c:i<es.length):a=U ⟨E,0,Z⟩:=h.a Uo
theorem IJ(B cap:M)(L:J (N × N))(t:N)(w:UF)(h:iW w B L)(x:L.length<=100000):UI prog 128 #[UO B L.length cap,t] w fun e w'=>e=UW (V Y (aA.eM L t))/\w'=w:=by
 have r:=aB h;clear h;go_in;go_wp21;go_loop [5,6] (fun n i=>∃ k:M,k<=L.length/\i=V Y k/\n=V Y (aA.eM (L.take k) t)) (fun _ i=>L.length-(intOf i).toNat)
 .exact⟨0,VM _,rfl,by simp[aA.eM]⟩
 .obtain⟨k,y,rfl,rfl⟩:=hrel;have I:=aA.sJ (L.take k) t;have D:=VT k L
  by_cases c:k<L.length
  .have C:=(r k c).1;have z:=(r k c).2;have s:(k:N)<(L.length:N):=O
   have e:aA.eM (L.take (k+1)) t=aA.eM (L.take k) t+if aA.hasB t L[k] then 1 else 0:=by rw[VL c,aA.Si]
   have E:=aB e;clear e;generalize aA.eM (L.take k) t=n at *;by_cases m:L[k].1<=t
   .by_cases l:t<L[k].2
    .have g:Hid (aA.hasB t L[k]=UE):=by show aA.hasB t L[k]=UE;simp[aA.hasB,m,l]
     go_wp21;go_round
     .exact⟨k+1,O,by go_num,by rw[E,g.out];rfl⟩
     .simp[intOf];omega
    .have g:Hid (aA.hasB t L[k]=UD):=by show aA.hasB t L[k]=UD;simp[aA.hasB,l]
     go_wp21;go_round
     .exact⟨k+1,O,by go_num,by rw[E,g.out];simp⟩
     .simp[intOf];omega
   .have g:Hid (aA.hasB t L[k]=UD):=by show aA.hasB t L[k]=UD;simp[aA.hasB,m]
    go_wp21;go_round
    .exact⟨k+1,O,by go_num,by rw[E,g.out];simp⟩
    .simp[intOf];omega
  .have e:L.take k=L:=VN O;have s:¬ (k:N)<(L.length:N):=O
   go_wp21;go_ret;exact⟨jy (by first|rfl|rw[e]),rfl⟩
theorem II(d:M)(a:Uu UJ)(cap E:M)(es:J aA.aQ)(name:Us)(t:N)(w:UF)(h:oJ w d a cap E es)(hl:es.length<=1000)(Q:∀ e∈es,aA.Small e):UI prog 129 #[d,name,t] w fun e w'=>e=UW (V Y (aA.cM name t es))/\UH w w w':=by
 have H:=aB h;have S:=aB Q;clear h Q;go_in;go_wp21;go_loopw [7,8,9,10] (fun n i _ _ wx=>∃ k:M,k<=es.length/\i=V Y k/\n=V Y (aA.cM name t (es.take k))/\UH w w wx) (fun _ i _ _ _=>es.length-(intOf i).toNat)
 .exact⟨0,VM _,rfl,by simp[aA.cM],Below.refl _ _⟩
 .obtain⟨k,hk,rfl,rfl,x⟩:=hrel;have bd:=aA.IG name t (es.take k) (fun e X=>S e (VS X));have bl:=VT k es;have D:=H.later x;have cc:=D.c
  by_cases m:k<es.length
  .obtain rfl:=H.at m;obtain⟨B,cp,s⟩:=D.r k m;have l:=S es[k] (zg m);have c0:=s.c0;have c1:=s.c1;have c2:=s.c2;have c3:=s.c3;have c4:=s.c4;have c5:=s.c5;have W:(k:N)<(es.length:N):=O
   have e:aA.cM name t (es.take (k+1))=aA.cM name t (es.take k)+(if aA.dB name es[k] then aA.eM es[k].aR t*es[k].aN else 0):=by rw[VL m,aA.wR];simp[aA.cM]
   have P:=aB e;have tb:=aA.sJ es[k].aR t;have u0:=l.u0;have u1:=l.u1;have sl:=l.sl;have m0:0<=aA.eM es[k].aR t*es[k].aN:=VI tb.1 u0;have m1:aA.eM es[k].aR t*es[k].aN<=900:=by have:aA.eM es[k].aR t*es[k].aN<=100*9:=VK O u1 u0 O;omega
   have RS:=aB s.sl;clear e s D l;generalize aA.cM name t (es.take k)=n at *
   cases y:aA.dI es[k].bH name
   .have C:Hid (aA.dB name es[k]=UD):=by show aA.dB name es[k]=UD;simp[aA.dB,y]
    have I:(es[k].bH.toList==name.toList)=UD:=y;have z:=aB x;clear x y;go_wp21;go_roundw
    .exact⟨k+1,O,by go_num,by rw[P,C.out];simp,bU z aS aJ⟩
    .simp[intOf];omega
   .have I:(es[k].bH.toList==name.toList)=UE:=y;have z:=aB x
    by_cases g:es[k].kind=3
    .have K:(es[k].kind != 3)=UD:=by simp[g]
     have C:Hid (aA.dB name es[k]=UD):=by show aA.dB name es[k]=UD;simp[aA.dB,g]
     clear x y g;go_wp21;go_roundw
     .exact⟨k+1,O,by go_num,by rw[P,C.out];simp,bU z aS aJ⟩
     .simp[intOf];omega
    .have K:(es[k].kind != 3)=UE:=by simp[g]
     have C:Hid (aA.dB name es[k]=UE):=by show aA.dB name es[k]=UE;simp[aA.dB,y,g]
     clear x y g;have R:=aB (fun w' (T:UH wr wr w')=>IJ B cp es[k].aR t w' (RS.later T) O);have EN:Hid (n+aA.eM es[k].aR t*es[k].aN=n+if aA.dB name es[k] then aA.eM es[k].aR t*es[k].aN else 0):=by show n+_=n+_;rw[C.out];rfl
     generalize aA.eM es[k].aR t=q at *;go_wp21;refine aY (R _ aS) ?_;clear R;go_wp21;go_roundw
     .exact⟨k+1,O,by go_num,by rw[P,<- EN],bU z aS aJ⟩
     .simp[intOf];omega
  .have e:es.take k=es:=VN O;have W:¬ (k:N)<(es.length:N):=O
   have z:=aB x;clear x D;go_wp21;go_ret;exact⟨jy (by first|rfl|rw[e]),z⟩
theorem qC:(prog.info? 3).map (fun i=>(i.zero,i.size,i.bytes))=U (U (V Y 0),1,8):=Um
theorem gU{c size:M}{m:J UG}(h:w.ownsRow c e size v n m){k:M}(l:v.ownBlock=U k):c<=k:=by
 rcases h.2 with ⟨rfl,_⟩|⟨g,cap,r,rfl,s,_⟩
 .simp[V9] at l
 .simp[V9] at l;omega
theorem uC{c base' size:M}{xs:J UG}(h:w.ownsRow c e size v n xs)(r:base'<=c):w.ownsRow base' e size v n xs:=by
 refine⟨h.1,?_⟩;rcases h.2 with s|⟨g,cap,k,l,m,rest⟩
 .exact .inl s
 .exact .inr ⟨g,cap,k,l,U0 r m,rest⟩
theorem fG{c size:M}{xs:J UG}(h:w.ownsRow c e size v n xs)(x:UH w w w'):w'.ownsRow c e size v n xs:=by
 refine⟨h.1,?_⟩;rcases h.2 with y|⟨g,cap,m,s,t,l,rest⟩
 .exact .inl y
 .refine .inr ⟨g,cap,m,s,t,?_,rest⟩
  have k:g<w:=by
   by_cases r:g<w
   .exact r
   .rw[V4 O] at l;cases l
  rw[x.block g k];exact l
theorem dH(w:UF)(o:Obj):(w.alloc o).heap[w.heap.size]?=U o:=heap_alloc_new w o
theorem ki{c size:M}{s:J UG}(h:w.ownsRow c e size v n s){cs:Array UG}{t:TypeId}{m:M × M}(x:w.heap[b]?=U (UX cs t m))(k:t≠e):v.ownBlock≠U b:=by
 intro l;rcases h.2 with ⟨rfl,_⟩|⟨g,cap,y,rfl,z,r,_⟩
 .simp[V9] at l
 .simp[V9] at l;subst l;rw[x] at r;simp at r;exact k r.2.1
theorem Ae{k:M}{c:J N}(h:w.ownsRow k 3 1 v n (c.map (V Y))):∃ a cap g,v=UO a n cap/\n=c.length/\(c≠[]->a=U ⟨g,0,Z⟩)/\∀ (i:M)(m:i<c.length),w.cell? (g,i)=U (V Y c[i]):=by
 have l:=h.1;simp at l;rcases h.2 with ⟨rfl,x⟩|⟨g,cap,r,rfl,y,s,D,C,z,t⟩
 .subst x;have:c=[]:=VF.1 l;subst this;exact⟨Z,0,0,rfl,rfl,fun h=>UA rfl h,fun i m=>by grind⟩
 .refine⟨U ⟨g,0,Z⟩,cap,g,rfl,l.symm,fun _=>rfl,fun i m=>?_⟩;have e:(r.toList.take (n*1))[i]?=(c.map (V Y))[i]?:=by rw[t]
  rw[List.getElem?_map,List.getElem?_eq_getElem m,Wa O] at e;simp only[Wb,Option.map_some] at e;simp[Vk,s,e]
def rW(e:aA.aQ)(B cap:M):Array UG:=#[e.id,e.kind,e.bH,e.aN,UO B e.aR.length cap,e.bY]
def pI(name:Us)(l:J aA.aQ)(e:aA.aQ)(j:M):J N:=aA.fW name l++(e.aR.take j).map (·.1)
theorem Df(name:Us)(l:J aA.aQ)(h:∀ e∈l,aA.Small e):(aA.fW name l).length<=100*l.length:=by
 induction l with
 |nil=>simp[aA.fW]
 |cons e l ih =>have i:=ih (fun x c=>h x (by simp[c]));have s:=(h e Ui).sl;simp only[aA.fW,VA,VB];split <;> simp <;> omega
theorem I0(d:M)(a:Uu UJ)(cap E:M)(es:J aA.aQ)(name:Us)(w:UF)(h:oJ w d a cap E es)(hl:es.length<=1000)(hs:∀ e∈es,aA.Small e):UI prog 127 #[d,name] w fun e w'=>∃ v,e=UW v/\w'.ownsRow w 3 1 v (aA.fW name es).length ((aA.fW name es).map (V Y))/\UH w w w':=by
 obtain⟨i0,an,ak,aj,ai⟩:=info_parts qC;have H:=aB h;have HS:=aB hs;clear h hs;go_in;go_wp21;go_loopw [5,6,7,8] (fun v i _ _ wx=>∃ k:M,k<=es.length/\i=V Y k/\wx.ownsRow w 3 1 v (aA.fW name (es.take k)).length ((aA.fW name (es.take k)).map (V Y))/\UH w w wx) (fun _ i _ _ _=>es.length-(intOf i).toNat)
 .exact⟨0,VM _,rfl,Wc _ _ _ _,Below.refl _ _⟩
 .obtain⟨k,hk,rfl,g,t⟩:=hrel;have bl:=VT k es;have S:=H.later t;have cc:=S.c;have sz:=Df name (es.take k) (fun e he=>HS e (VS he))
  by_cases z:k<es.length
  .obtain rfl:=H.at z;obtain⟨B,R,K⟩:=H.r k z;have P:=K.later t;have T:=HS es[k] (zg z);have c0:=P.c0;have c1:=P.c1;have c2:=P.c2;have c3:=P.c3;have c4:=P.c4;have c5:=P.c5;have hi:(k:N)<(es.length:N):=O
   have e:aA.fW name (es.take (k+1))=aA.fW name (es.take k)++(if aA.dI es[k].bH name then es[k].aR.map (·.1) else []):=by rw[VL z,aA.SB];simp[aA.fW]
   have EE:=aB e;have sl:=T.sl;have RS:=aB K.sl;have HB:=aB t;have ao:=t.size;have HO:=aB g;clear e P K S T g t;go_wp21;have hX:(wr.alloc (UX (rW es[k] B R) 85)).heap[wr.heap.size]?=U (UX (rW es[k] B R) 85):=dH _ _;have oX:(wr.alloc (UX (rW es[k] B R) 85)).ownsRow w.heap.size 3 1 u5 (aA.fW name (es.take k)).length ((aA.fW name (es.take k)).map (V Y)):=fG HO.out aS;have bX:UH w.heap.size w (wr.alloc (UX (rW es[k] B R) 85)):=bU HB.out aS aJ;simp only[rW] at hX oX bX;have HX:=aB (Vf hX (Vf oX bX));clear hX oX bX c0 c1 c2 c3 c4 c5 cc HB HO;generalize (Vj wr _)=X at HX ⊢;generalize wr.heap.size=bx at HX ao ⊢;have W:∃ q,aA.dI es[k].bH name=q:=⟨_,rfl⟩;obtain⟨q,W⟩:=W;have aq:(es[k].bH.toList==name.toList)=q:=W;have HQ:=aB W;clear W;go_loopw [5,8] (fun v i wx=>∃ j:M,j<=es[k].aR.length/\(q=UD->j=0)/\i=V Y j/\wx.ownsRow w 3 1 v (pI name (es.take k) es[k] j).length ((pI name (es.take k) es[k] j).map (V Y))/\UH w w wx/\wx.heap[bx]?=U (UX (rW es[k] B R) 85)) (fun _ i _=>es[k].aR.length-(intOf i).toNat)
   .exact⟨0,VM _,fun _=>rfl,rfl,by rw[pI];simpa using HX.out.2.1,HX.2.2,HX.1⟩
   .obtain⟨j,hj,y,rfl,g,t,s⟩:=hrel;have b4:wr.cell? (bx,4)=U (UO B es[k].aR.length R):=by simp[Vk,s,rW]
    have b2:wr.cell? (bx,2)=U (.string es[k].bH):=by simp[Vk,s,rW]
    have m:=aB (Vf g (Vf t s));have ac:=t.size;by_cases C:q=UE/\j<es[k].aR.length
    .obtain⟨rfl,ab⟩:=C;have r1:=(RS.later t j ab).1;have al:(j:N)<(es[k].aR.length:N):=O
     have ae:pI name (es.take k) es[k] (j+1)=pI name (es.take k) es[k] j++[es[k].aR[j].1]:=by unfold pI;rw[VL ab,VU,V8];rfl
     have ES:=aB ae;have ar:(pI name (es.take k) es[k] j).length<=100*k+100:=by unfold pI;have:=VT j es[k].aR;simp only[VA,We];omega
     have aa:=ki g s Uj;have af:=aB aa;clear ae t s aa y;go_wp2_with (first
      |(at_builtin;refine wpList_append_own _ rfl _ _ 53 rfl w 3 i0 (V Y 0) 1 8 underlying53 an ak aj ai rfl Uj _ _ _ rfl (g.alloc _) (wr,0) 1 1 [V Y es[k].aR[j].1] rfl rfl ?c1 ?c2 ?c3 ?c4 ?c5 ?_))
     .exact Wf (cs:=#[V Y es[k].aR[j].1]) (dH wr _)
     .simp[Wg]
     .unfold maxLen;omega
     .omega
     .simp;omega
     intro v' w' x l _;have ad:UH w w w':=(m.2.1.alloc ac _).grown l Un (fun k hk=>gU m.1 hk);have I:w'.heap[bx]?=U (UX (rW es[k] B R) 85):=by
      have l1:bx<wr:=by
       by_cases S:bx<wr
       .exact S
       .have:=m.2.2;rw[V4 O] at this;cases this
      rw[l.block bx Un (fun e=>af e.symm)];exact (Below.heap_alloc wr _ bx l1).trans m.2.2
     have HK:Hid (w'.ownsRow w 3 1 v' (pI name (es.take k) es[k] (j+1)).length ((pI name (es.take k) es[k] (j+1)).map (V Y))):=by show w'.ownsRow _ _ _ _ _ _;rw[ES,VU,VA];exact x
     have ag:=aB (Vf ad I);clear x l ad I g m af r1 b4 b2;go_wp21;go_roundw
     .exact⟨j+1,O,fun e=>(by cases e),by go_num,HK,ag.1,ag.2⟩
     .simp[intOf];omega
    .have D:pI name (es.take k) es[k] j=aA.fW name (es.take (k+1)):=by
      rw[EE,pI,HQ]
      cases q with
      |false=>rw[y rfl];simp
      |true =>have:es[k].aR.take j=es[k].aR:=VN (by have:¬ j<es[k].aR.length:=fun h=>C ⟨rfl,h⟩;omega);rw[this];rfl
     have HK:Hid (wr.ownsRow w 3 1 u5 (aA.fW name (es.take (k+1))).length ((aA.fW name (es.take (k+1))).map (V Y))):=by show wr.ownsRow _ _ _ _ _ _;rw[<- D];exact g
     clear g t s D;have Q:q=UD\/(q=UE/\¬ (j:N)<(es[k].aR.length:N)):=by
      cases q with
      |false=>exact .inl rfl
      |true=>exact .inr ⟨rfl,fun h=>C ⟨rfl,O⟩⟩
     clear C;rcases Q with rfl|⟨rfl,al⟩
     .obtain rfl:=y rfl;clear y
      by_cases hz:(0:N)<(es[k].aR.length:N);all_goals
       go_wp21;go_roundw
       .exact⟨k+1,O,by go_num,HK,m.2.1⟩
       .simp[intOf];omega
     .clear y
      go_wp21;go_roundw
      .exact⟨k+1,O,by go_num,HK,m.2.1⟩
      .simp[intOf];omega
  .have e:es.take k=es:=VN O;have hi:¬ (k:N)<(es.length:N):=O
   rw[e] at g;have HB:=aB (Vf g t);clear t S g;go_wp21;go_ret;exact⟨_,rfl,HB.1,HB.2⟩
namespace aA
def cI(name:Us):J (Us × N)->N
 |[]=>0
 |t :: r=>if dI t.1 name then t.2 else cI name r
def sq(c:N)(name:Us)(aN:N)(L:J (N × N))(es:J aQ)(x:N):Uv:=decide (0<eM L x) && decide (c<cM name x es+eM L x*aN)
def qU(c:N)(name:Us)(aN:N)(L:J (N × N))(es:J aQ)(l:J N):Uv:=l.all fun x=>!sq c name aN L es x
def eT(ts:J (Us × N))(es:J aQ)(name:Us)(aN:N)(L:J (N × N)):Uv:=qU (cI name ts) name aN L es (fW name es++L.map (·.1))
end aA
structure rJ(w:UF)(d:M)(a:Uu UJ)(cap G:M)(ts:J (Us × N)):Prop where
 c:w.cell? (d,0)=U (UO a ts.length cap)
 a:ts≠[]->a=U ⟨G,0,Z⟩
 r:∀ (i:M) (h:i<ts.length),w.cell? (G,i*2)=U (.string ts[i].1)/\w.cell? (G,i*2+1)=U (V Y ts[i].2)
theorem rJ.later{G:M}(h:rJ w d a cap G ts)(k:UH w w w'):rJ w' d a cap G ts :=⟨aT k h.c,h.a,fun i g=>⟨aT k (h.r i g).1,aT k (h.r i g).2⟩⟩
theorem rJ.at{G:M}(h:rJ w d a cap G ts)(c:i<ts.length):a=U ⟨G,0,Z⟩:=h.a Uo
theorem C8(d:M)(a:Uu UJ)(cap G:M)(ts:J (Us × N))(name:Us)(w:UF)(h:rJ w d a cap G ts)(D:ts.length<=1000):UI prog 116 #[d,name] w fun e w'=>e=UW (V Y (aA.cI name ts))/\w'=w:=by
 have H:=aB h;have K:=h.c;clear h;go_in;go_wp21;go_loop [5] (fun i=>∃ k:M,k<=ts.length/\i=V Y k/\aA.cI name ts=aA.cI name (ts.drop k)) (fun i=>ts.length-(intOf i).toNat)
 .exact⟨0,VM _,rfl,rfl⟩
 .obtain⟨k,I,rfl,x⟩:=hrel;have t:=aB x;clear x
  by_cases g:k<ts.length
  .obtain rfl:=H.at g;let⟨c0,c1⟩:=H.r k g;have C:(k:N)<(ts.length:N):=O
   have y:aA.cI name (ts.drop k)=if aA.dI ts[k].1 name then ts[k].2 else aA.cI name (ts.drop (k+1)):=by rw[Wh g];rfl
   have z:=aB y;clear y
   cases l:aA.dI ts[k].1 name
   .have s:(ts[k].1.toList==name.toList)=UD:=l;have m:Hid (aA.cI name ts=aA.cI name (ts.drop (k+1))):=by show aA.cI name ts=_;rw[t,z,l];rfl
    clear l;go_wp21;go_round
    .exact⟨k+1,O,by go_num,m⟩
    .simp[intOf];omega
   .have s:(ts[k].1.toList==name.toList)=UE:=l;have m:Hid (aA.cI name ts=ts[k].2):=by show aA.cI name ts=_;rw[t,z,l];rfl
    clear l;go_wp21;go_ret;exact⟨jy m.symm,rfl⟩
  .have e:ts.drop k=[]:=Wi O;have m:Hid (aA.cI name ts=0):=by show aA.cI name ts=0;rw[t,e];rfl
   have C:¬ (k:N)<(ts.length:N):=O;clear e;go_wp21;go_ret;exact⟨jy m.symm,rfl⟩
theorem Ia(d:M)(a:Uu UJ)(cap E:M)(es:J aA.aQ)(at_:Uu UJ)(ct G:M)(ts:J (Us × N))(name:Us)(aN:N)(B cb:M)(L:J (N × N))(w:UF)(h:oJ w d a cap E es)(ht:rJ w d at_ ct G ts)(hL:iW w B L)(hl:es.length<=1000)(au:ts.length<=1000)(X:∀ e∈es,aA.Small e)(a7:L.length<=100)(T:0<=aN)(ar:aN<=9):UI prog 74 #[UM (U ⟨d,0,Z⟩),.string name,V Y aN,UO (U ⟨B,0,Z⟩) L.length cb] w fun e w'=>e=UW (.bool (aA.eT ts es name aN L))/\UH w.heap.size w w':=by
 obtain⟨i0,aw,aq,ao,an⟩:=info_parts qC;have ST:=aB (I0 d a cap E es name w h hl X);have UN:=aB (fun w' (k:UH w.heap.size w w')=>C8 d at_ ct G ts name w' (ht.later k) au);have TM:=aB (fun t w' (k:UH w.heap.size w w')=>IJ B cb L t w' (hL.later k) O);have TK:=aB (fun t w' (k:UH w.heap.size w w')=>II d a cap E es name t w' (h.later k) hl X);have sz:=Df name es X;have HL:=aB hL;have az:=aB (fun t=>aA.IG name t es X);have P:aA.eT ts es name aN L=aA.qU (aA.cI name ts) name aN L es (aA.fW name es++L.map (·.1)):=rfl;rw[P];obtain⟨l,D⟩:∃ l,aA.fW name es++L.map (·.1)=l:=⟨_,rfl⟩;have a4:l.length<=100100:=by rw[<- D];simp only[VA,We];omega
 rw[D];have al:=aB D;generalize aA.cI name ts=most at *;clear h ht X hL P D;go_in;go_wp2_with fail;refine ST.out.mono ?_;rintro e w1 ⟨v1,rfl,ab,ae⟩;have O1:=aB (Vf ab ae);clear ST ab ae;go_wp2_with fail;go_loopw [9,10] (fun v i wx=>∃ k:M,k<=L.length/\i=V Y k/\wx.ownsRow w.heap.size 3 1 v (aA.fW name es++(L.take k).map (·.1)).length ((aA.fW name es++(L.take k).map (·.1)).map (V Y))/\UH w.heap.size w wx) (fun _ i _=>L.length-(intOf i).toNat)
 case atStart=>exact⟨0,VM _,rfl,by simpa using O1.out.1,O1.out.2⟩
 case round =>
  obtain⟨k,hk,rfl,c,r⟩:=hrel;have K:=aB (Vf c r);have ax:=r.size;by_cases ac:k<L.length
  .have r1:=(HL.out.later r k ac).1;have Q:(k:N)<(L.length:N):=O
   have aj:aA.fW name es++(L.take (k+1)).map (·.1)=(aA.fW name es++(L.take k).map (·.1))++[L[k].1]:=by rw[VL ac,VU,V8];rfl
   have ES:=aB aj;have a8:(aA.fW name es++(L.take k).map (·.1)).length<=100100:=by have:=VT k L;simp only[VA,We];omega
   clear aj r;go_wp2_with (first
    |(at_builtin;refine wpList_append_own _ rfl _ _ 53 rfl w.heap.size 3 i0 (V Y 0) 1 8 underlying53 aw aq ao an rfl Uj _ _ _ rfl (c.alloc _) ⟨wr.heap.size,0,Z⟩ 1 1 [V Y L[k].1] rfl rfl (Wf (cs:=#[V Y L[k].1]) (dH wr _)) Uq Up O Un ?_;intro v' w' s y _))
   have af:UH w.heap.size w w':=(K.out.2.alloc ax _).grown y Un (fun k hk=>gU K.out.1 hk);have HK:Hid (w'.ownsRow w.heap.size 3 1 v' (aA.fW name es++(L.take (k+1)).map (·.1)).length ((aA.fW name es++(L.take (k+1)).map (·.1)).map (V Y))):=by show w'.ownsRow _ _ _ _ _ _;rw[ES.out,VU,VA];exact s
   have a3:=aB af;clear s y af c K r1;go_wp2;go_roundw
   case rel=>exact⟨k+1,by omega,by go_num,HK.out,a3.out⟩
   case measure=>simp[intOf];omega
  .have e:L.take k=L:=VN O;have Q:¬ (k:N)<(L.length:N):=O
   rw[e,al.out] at c;obtain⟨a2,c2,g2,rfl,av,ai,aa⟩:=Ae c;have R2:=aB (Vf ai (Vf aa r));clear c r e K ai aa av O1 al;go_wp2_with fail;refine (UN.out _ R2.out.2.2).mono ?_;rintro e w2 ⟨rfl,rfl⟩;clear UN;go_wp2_with fail;go_loopw [12,13] (fun i _ wx=>∃ j:M,j<=l.length/\i=V Y j/\aA.qU most name aN L es (l.take j)=UE/\UH w2.heap.size w2 wx) (fun i _ _=>l.length-(intOf i).toNat)
   case atStart=>exact⟨0,VM _,rfl,by simp[aA.qU],Below.refl _ _⟩
   case round =>
    obtain⟨j,hj,rfl,hf,r⟩:=hrel;have HF:=aB hf;have ad:=bU R2.out.2.2 r (zq _);have g:=aB ad;have HB:=aB r;clear hf ad;by_cases I:j<l.length
    .obtain rfl:=R2.out.1 (by intro e;simp[e] at I);have c0:=aT r (R2.out.2.1 j I);have Q:(j:N)<(l.length:N):=O
     have W:aA.qU most name aN L es (l.take (j+1))=(aA.qU most name aN L es (l.take j) && !aA.sq most name aN L es l[j]):=by unfold aA.qU;rw[VL I,VO];simp
     have ak:=aB W;have m:=aB (TM.out l[j]);have C:=aB (TK.out l[j]);have ay:=aA.sJ L l[j];have a9:=az.out l[j];have ag:Hid (aA.sq most name aN L es l[j]=UE->aA.qU most name aN L es l=UD):=by intro ho;unfold aA.qU;rw[List.all_eq_false];exact⟨l[j],List.getElem_mem I,by simp[ho]⟩
     have x:aA.sq most name aN L es l[j]=(decide (0<aA.eM L l[j]) && decide (most<aA.cM name l[j] es+aA.eM L l[j]*aN)):=rfl;have m0:0<=aA.eM L l[j]*aN:=VI ay.1 T;have m1:aA.eM L l[j]*aN<=900:=by have:aA.eM L l[j]*aN<=100*9:=VK O ar T O;omega
     generalize aA.eM L l[j]=n at *;generalize aA.cM name l[j] es=tk at *;have R:=aB x;clear W x r;by_cases hn:0<n
     .by_cases hm:most<tk+n*aN
      .have HO:Hid (aA.sq most name aN L es l[j]=UE):=by show _=UE;rw[R.out];simp[hn,hm]
       go_wp2_with fail;refine (m.out _ g.out).mono ?_;rintro e w3 ⟨rfl,rfl⟩;go_wp2_with fail;refine (C.out _ g.out).mono ?_;rintro e w4 ⟨rfl,z⟩;have S:=aB (bU g.out z (zq _));clear z m C TM TK;go_wp2;go_ret;exact⟨qH (ag.out HO.out).symm,S.out⟩
      .have HO:Hid (aA.sq most name aN L es l[j]=UD):=by show _=UD;rw[R.out];simp[hm]
       go_wp2_with fail;refine (m.out _ g.out).mono ?_;rintro e w3 ⟨rfl,rfl⟩;go_wp2_with fail;refine (C.out _ g.out).mono ?_;rintro e w4 ⟨rfl,z⟩;have S:=aB (bU HB.out z (zq _));clear z m C TM TK;go_wp2;go_roundw
       case rel=>exact⟨j+1,by omega,by go_num,by rw[ak.out,HF.out,HO.out];rfl,S.out⟩
       case measure=>simp[intOf];omega
     .have HO:Hid (aA.sq most name aN L es l[j]=UD):=by show _=UD;rw[R.out];simp[hn]
      go_wp2_with fail;refine (m.out _ g.out).mono ?_;rintro e w3 ⟨rfl,rfl⟩;clear m C TM TK;go_wp2;go_roundw
      case rel=>exact⟨j+1,by omega,by go_num,by rw[ak.out,HF.out,HO.out];rfl,HB.out⟩
      case measure=>simp[intOf];omega
    .have e:l.take j=l:=VN O;have Q:¬ (j:N)<(l.length:N):=O
     rw[e] at HF;clear e r;go_wp2;go_ret;exact⟨qH HF.out.symm,g.out⟩
namespace aA
def lH(id:N):J aQ->N->N
 |[],_=>-1
 |e :: r,i=>if e.id=id then i else lH id r (i+1)
def fH(es:J aQ):N:=((es.filter fun e=>e.kind==3).length:N)
def eW(ts:J (Us × N))(name:Us)(aN:N):N:=if cI name ts=0 then 3 else if cI name ts<aN then 7 else 0
end aA
def fg(x:aA.aQ × M × M):J UG:=[x.1.id,x.1.kind,x.1.bH,x.1.aN,UO x.2.1 x.1.aR.length x.2.2,x.1.bY]
structure sN(w:UF)(d:M)(a:Uu UJ)(cap E:M)(xs:J (aA.aQ × M × M)):Prop where
 c:w.cell? (d,1)=U (UO a xs.length cap)
 a:xs≠[]->a=U ⟨E,0,Z⟩
 r:∀ (i:M) (h:i<xs.length),RE w E i xs[i].1 xs[i].2.1 xs[i].2.2
theorem sN.de{g:J (aA.aQ × M × M)}(h:sN w d a cap E g):oJ w d a cap E (g.map (·.1)) :=
 ⟨by rw[We];exact h.c,fun l=>h.a Uo,fun i m=>by have k:i<g.length:=Uo;exact⟨g[i].2.1,g[i].2.2,by simpa using h.r i k⟩⟩
theorem sN.later{xs:J (aA.aQ × M × M)}(h:sN w d a cap E xs)(k:UH w w w'):sN w' d a cap E xs:=⟨aT k h.c,h.a,fun i g=>(h.r i g).later k⟩
theorem sN.at{c:J (aA.aQ × M × M)}(h:sN w d a cap E c)(g:i<c.length):a=U ⟨E,0,Z⟩:=h.a Uo
theorem Ri(d:M)(a:Uu UJ)(cap E:M)(es:J aA.aQ)(id:N)(w:UF)(h:oJ w d a cap E es)(D:es.length<=1000):UI prog 120 #[d,id] w fun e w'=>e=UW (V Y (aA.lH id es 0))/\w'=w:=by
 have H:=aB h;have K:=h.c;clear h;go_in;go_wp21;go_loop [5] (fun i=>∃ k:M,k<=es.length/\i=V Y k/\aA.lH id es 0=aA.lH id (es.drop k) k) (fun i=>es.length-(intOf i).toNat)
 .exact⟨0,VM _,rfl,rfl⟩
 .obtain⟨k,I,rfl,x⟩:=hrel;have t:=aB x;clear x
  by_cases g:k<es.length
  .obtain rfl:=H.at g;let⟨B,cp,hr⟩:=H.r k g;have P:=hr.c0;have C:(k:N)<(es.length:N):=O
   have y:aA.lH id (es.drop k) k=if es[k].id=id then (k:N) else aA.lH id (es.drop (k+1)) (k+1):=by rw[Wh g];rfl
   have z:=aB y;clear y hr;by_cases l:es[k].id=id
   .have s:(es[k].id==id)=UE:=by simp[l]
    have m:Hid (aA.lH id es 0=k):=by show aA.lH id es 0=k;rw[t,z,Uz l]
    clear l;go_wp21;go_ret;exact⟨jy m.symm,rfl⟩
   .have s:(es[k].id==id)=UD:=by simp[l]
    have m:Hid (aA.lH id es 0=aA.lH id (es.drop (k+1)) ((k+1:M):N)):=by show aA.lH id es 0=_;rw[t,z,Uy l];rfl
    clear l;go_wp21;go_round
    .exact⟨k+1,O,by go_num,m⟩
    .simp[intOf];omega
  .have e:es.drop k=[]:=Wi O;have m:Hid (aA.lH id es 0=-1):=by show aA.lH id es 0=-1;rw[t,e];rfl
   have C:¬ (k:N)<(es.length:N):=O;clear e;go_wp21;go_ret;exact⟨jy m.symm,rfl⟩
theorem Sl(d:M)(a:Uu UJ)(cap E:M)(es:J aA.aQ)(w:UF)(h:oJ w d a cap E es)(y:es.length<=1000):UI prog 118 #[d] w fun e w'=>e=UW (V Y (aA.fH es))/\w'=w:=by
 have H:=aB h;have C:=h.c;clear h;go_in;go_wp21;go_loop [3,4] (fun n i=>∃ k:M,k<=es.length/\i=V Y k/\n=V Y (aA.fH (es.take k))) (fun _ i=>es.length-(intOf i).toNat)
 .exact⟨0,VM _,rfl,rfl⟩
 .obtain⟨k,z,rfl,rfl⟩:=hrel
  have I:0<=aA.fH (es.take k)/\aA.fH (es.take k)<=k:=by unfold aA.fH;have:=Wj (fun e:aA.aQ=>e.kind==3) (es.take k);have:=VT k es;omega
  by_cases g:k<es.length
  .obtain rfl:=H.at g;let⟨B,cp,hr⟩:=H.r k g;have D:=hr.c1;have x:(k:N)<(es.length:N):=O
   have s:aA.fH (es.take (k+1))=aA.fH (es.take k)+if es[k].kind==3 then 1 else 0:=by
    unfold aA.fH;rw[VL g,Vo,VA]
    cases l:(es[k].kind==3) <;> simp[l]
   have t:=aB s;clear s hr;generalize aA.fH (es.take k)=n at *
   cases l:(es[k].kind==3)
   .have m:Hid (aA.fH (es.take (k+1))=n):=by show _=n;rw[t,l];simp
    go_wp21;go_round
    .exact⟨k+1,O,by go_num,by rw[m]⟩
    .simp[intOf];omega
   .have m:Hid (aA.fH (es.take (k+1))=n+1):=by show _=n+1;rw[t,l];simp
    go_wp21;go_round
    .exact⟨k+1,O,by go_num,by rw[m]⟩
    .simp[intOf];omega
  .have e:es.take k=es:=VN O;have x:¬ (k:N)<(es.length:N):=O
   go_wp21;go_ret;exact⟨jy (by first|rfl|rw[e]),rfl⟩
theorem RJ(d:M)(a:Uu UJ)(cap G:M)(ts:J (Us × N))(name:Us)(aN:N)(w:UF)(h:rJ w d a cap G ts)(x:ts.length<=1000):UI prog 117 #[d,name,aN] w fun e w'=>e=UW (V Y (aA.eW ts name aN))/\w'=w:=by
 have m:=aB (C8 d a cap G ts name w h x);have g:Hid (aA.eW ts name aN=if aA.cI name ts=0 then 3 else if aA.cI name ts<aN then 7 else 0):=rfl;generalize aA.cI name ts=n at *;generalize aA.eW ts name aN=r at *;clear h;by_cases c:n=0
 .have k:Hid (r=3):=by show r=3;rw[g,Uz c]
  have l:(n==0)=UE:=by simp[c]
  clear c g;go_in;go_wp21;refine m.mono ?_;rintro e s ⟨rfl,rfl⟩;go_wp21;go_ret;exact⟨jy k.out.symm,rfl⟩
 .have l:(n==0)=UD:=by simp[c]
  by_cases t:n<aN
  .have k:Hid (r=7):=by show r=7;rw[g,Uy c,Uz t]
   clear c g;go_in;go_wp21;refine m.mono ?_;rintro e s ⟨rfl,rfl⟩;go_wp21;go_ret;exact⟨jy k.out.symm,rfl⟩
  .have k:Hid (r=0):=by show r=0;rw[g,Uy c,Uy t]
   clear c g;go_in;go_wp21;refine m.mono ?_;rintro e s ⟨rfl,rfl⟩;go_wp21;go_ret;exact⟨jy k.out.symm,rfl⟩
theorem zZ:(prog.info? 85).map (fun i=>(i.zero,i.size,i.bytes))=U (U (.agg #[V Y 0,V Y 0,.string ⟨#[]⟩,V Y 0,(),V Y 0]),6,72):=Um
def iB(id:N)(c:J (aA.aQ × M × M)):J (aA.aQ × M × M):=c.filter fun x=>x.1.id != id
theorem Dd(x:aA.aQ × M × M):(fg x).length=6:=rfl
theorem Il(c:J (aA.aQ × M × M)):(c.flatMap fg).length=c.length*6:=by
 induction c with
 |nil=>rfl
 |cons x c ih=>simp only[VW,VA,VB,ih,Dd];omega
theorem xJ{r:M}{c:J (aA.aQ × M × M)}(h:w.ownsRow r 85 6 v n (c.flatMap fg))(s:∀ x∈c,iW w x.2.1 x.1.aR):∃ a cap g,v=UO a n cap/\n=c.length/\(c≠[]->a=U ⟨g,0,Z⟩)/\∀ (i:M)(t:i<c.length),RE w g i c[i].1 c[i].2.1 c[i].2.2:=by
 have I:=h.1;rw[Il] at I;have C:n=c.length:=O;rcases h.2 with ⟨rfl,P⟩|⟨g,cap,z,rfl,R,K,X,W,T,S⟩
 .subst P;have:c=[]:=VF.1 C.symm;subst this;exact⟨Z,0,0,rfl,rfl,fun h=>UA rfl h,fun i t=>by grind⟩
 .refine⟨U ⟨g,0,Z⟩,cap,g,rfl,C,fun _=>rfl,fun i t=>?_⟩
  have k:∀ (j:M) (u:UG),j<6->(fg c[i])[j]?=U u->w.cell? (g,i*6+j)=U u:=by
   intro j u Q D;have e1:(c.flatMap fg)[i*6+j]?=U u:=by
    have l:c=c.take i++c[i] :: c.drop (i+1):=by simp_all
    rw[l,VX,VW];have m:((c.take i).flatMap fg).length=i*6:=by rw[Il,VY O]
    rw[VZ O,m,V1,VV Uo];exact D
   have y:(z.toList.take (n*6))[i*6+j]?=U u:=Uo;rw[Wa O] at y;simp only[Wb] at y;simp[Vk,K,y]
  exact⟨k 0 _ O rfl,k 1 _ O rfl,k 2 _ O rfl,k 3 _ O rfl,k 4 _ O rfl,k 5 _ O rfl,s _ (zg t)⟩
theorem Sn(d:M)(a:Uu UJ)(cap E:M)(xs:J (aA.aQ × M × M))(id:N)(w:UF)(h:sN w d a cap E xs)(hl:xs.length<=1000):UI prog 121 #[UM (U ⟨d,0,Z⟩),V Y id] w fun e w'=>∃ v,e=UW v/\w'.ownsRow w.heap.size 85 6 v (iB id xs).length ((iB id xs).flatMap fg)/\UH w.heap.size w w':=by
 obtain⟨i0,R,Q,P,K⟩:=info_parts zZ;have H:=aB h;clear h;go_in;go_wp2_with fail;go_loopw [5,6] (fun v i wx=>∃ k:M,k<=xs.length/\i=V Y k/\wx.ownsRow w.heap.size 85 6 v (iB id (xs.take k)).length ((iB id (xs.take k)).flatMap fg)/\UH w.heap.size w wx) (fun _ i _=>xs.length-(intOf i).toNat)
 case atStart=>exact⟨0,VM _,rfl,Wc _ _ _ _,Below.refl _ _⟩
 case round =>
  obtain⟨k,X,rfl,g,z⟩:=hrel;have D:=H.out.later z;have cc:=D.c;have l:=aB (Vf g z);have S:=z.size;have bl:(iB id (xs.take k)).length<=k:=by have:=Wj (fun x:aA.aQ × M × M=>x.1.id != id) (xs.take k);have:=VT k xs;unfold iB;omega
  by_cases y:k<xs.length
  .obtain rfl:=H.out.at y;have t:=D.r k y;have c0:=t.c0;have c1:=t.c1;have c2:=t.c2;have c3:=t.c3;have c4:=t.c4;have c5:=t.c5;have hi:(k:N)<(xs.length:N):=O
   have ed:iB id (xs.take (k+1))=iB id (xs.take k)++if xs[k].1.id != id then [xs[k]] else []:=by
    unfold iB;rw[VL y,Vo]
    cases I:(xs[k].1.id != id) <;> simp[I]
   have ED:=aB ed;clear ed t D
   cases I:(xs[k].1.id != id)
   .have T:Hid (iB id (xs.take (k+1))=iB id (xs.take k)):=by show _=_;rw[ED.out,I];simp
    clear g z;go_wp2;go_roundw
    case rel=>exact⟨k+1,by omega,by go_num,by rw[T.out];exact l.out.1,l.out.2⟩
    case measure=>simp[intOf];omega
   .have T:Hid (iB id (xs.take (k+1))=iB id (xs.take k)++[xs[k]]):=by show _=_;rw[ED.out,I];simp
    clear z;go_wp2_with (first
     |(at_builtin;refine wpList_append_own _ rfl _ _ 43 rfl w.heap.size 85 i0 _ 6 72 underlying43 R Q P K rfl Uj _ _ _ rfl (g.alloc _) ⟨wr.heap.size,0,Z⟩ 1 1 (fg xs[k]) rfl rfl (Wf (cs:=(fg xs[k]).toArray) (dH wr _)) (by simp[fg,Wg]) Up O Un ?_;intro v' w' m s _))
    have C:UH w.heap.size w w':=(l.out.2.alloc S _).grown s Un (fun k X=>gU l.out.1 X);have HK:Hid (w'.ownsRow w.heap.size 85 6 v' (iB id (xs.take (k+1))).length ((iB id (xs.take (k+1))).flatMap fg)):=by show w'.ownsRow _ _ _ _ _ _;rw[T.out,VX,VA];simpa using m
    have W:=aB C;clear m s C g l c0 c1 c2 c3 c4 c5 cc;go_wp2;go_roundw
    case rel=>exact⟨k+1,by omega,by go_num,HK.out,W.out⟩
    case measure=>simp[intOf];omega
  .have e:xs.take k=xs:=VN O;have hi:¬ (k:N)<(xs.length:N):=O
   rw[e] at l;clear g z D e;go_wp2;go_ret;exact⟨_,rfl,l.out.1,l.out.2⟩
def mc(t:Us × N):J UG:=[t.1,V Y t.2]
structure RD(w:UF)(d:M)(ts:J (Us × N))(xs:J (aA.aQ × M × M))(given now:N)(F:J M):Prop where
 tv:∃ v,w.cell? (d,0)=U v/\w.ownsRow 0 201 2 v ts.length (ts.flatMap mc)/\∀ k,v.ownBlock=U k->k∈F/\k≠d
 ev:∃ v,w.cell? (d,1)=U v/\w.ownsRow 0 85 6 v xs.length (xs.flatMap fg)/\∀ k,v.ownBlock=U k->k∈F/\k≠d
 c2:w.cell? (d,2)=U ↑given
 c3:w.cell? (d,3)=U ↑now
 fz:∀ o,w.frozen? ⟨d,o,Z⟩=UD
 dF:d∈F
 sp:∀ x∈xs,iW w x.2.1 x.1.aR/\x.2.1 ∉ F/\x.2.1<w
theorem RD.dx{xs:J (aA.aQ × M × M)}{now:N}(h:RD w d ts xs given now F):∃ a cap E,sN w d a cap E xs:=by let⟨v,c,ho,_⟩:=h.ev;obtain⟨a,cap,g,rfl,r,m,l⟩:=xJ ho (fun x k=>(h.sp x k).1);exact⟨a,cap,g,c,m,l⟩
theorem Rb(ts:J (Us × N)):(ts.flatMap mc).length=ts.length*2:=by
 induction ts with
 |nil=>rfl
 |cons x xs ih=>simp only[VW,VA,VB,ih,mc,VG];omega
theorem RD.dt{t:J (aA.aQ × M × M)}{now:N}(h:RD w d ts t given now F):∃ a cap G,rJ w d a cap G ts:=by
 let⟨v,c,ho,_⟩:=h.tv;have D:=ho.1;rcases ho.2 with ⟨rfl,C⟩|⟨g,cap,s,rfl,K,z,S,R,Q,P⟩
 .have:ts=[]:=VF.1 C;subst this;exact⟨Z,0,0,c,fun h=>UA rfl h,fun i y=>by grind⟩
 .refine⟨U ⟨g,0,Z⟩,cap,g,c,fun _=>rfl,fun i y=>?_⟩
  have l:∀ (j:M) (u:UG),j<2->(mc ts[i])[j]?=U u->w.cell? (g,i*2+j)=U u:=by
   intro j u I x;have T:(ts.flatMap mc)[i*2+j]?=U u:=by
    have k:ts=ts.take i++ts[i] :: ts.drop (i+1):=by simp_all
    rw[k,VX,VW];have m:((ts.take i).flatMap mc).length=i*2:=by rw[Rb,VY O]
    rw[VZ O,m,V1,VV Uo];exact x
   have r:(s.toList.take (ts.length*2))[i*2+j]?=U u:=Uo;rw[Wa O] at r;simp only[Wb] at r;simp[Vk,z,r]
  exact⟨l 0 _ O rfl,l 1 _ O rfl⟩
theorem dL{c size:M}{xs:J UG}(h:w.ownsRow c e size v n xs)(k:aH G w w')(x:∀ b,v.ownBlock=U b->b ∉ G):w'.ownsRow c e size v n xs:=by
 refine⟨h.1,?_⟩;rcases h.2 with z|⟨g,cap,r,s,y,m,rest⟩
 .exact .inl z
 .refine .inr ⟨g,cap,r,s,y,?_,rest⟩
  have l:g<w:=by
   by_cases t:g<w
   .exact t
   .rw[V4 O] at m;cases m
  rw[k.block g l (x g (by rw[s];rfl))];exact m
theorem RD.off{l:J (aA.aQ × M × M)}{now:N}(h:RD w d ts l given now F)(k:aH G w w')(r:∀ x∈F,x ∉ G)(s:∀ x∈l,x.2.1 ∉ G):RD w' d ts l given now F:=by
 have c:=r d h.dF;let⟨v1,a1,a2,a3⟩:=h.tv;let⟨v2,b1,b2,b3⟩:=h.ev;exact⟨⟨v1,k.cell c a1,dL a2 k (fun b m=>r b (a3 b m).1),a3⟩,⟨v2,k.cell c b1,dL b2 k (fun b m=>r b (b3 b m).1),b3⟩,k.cell c h.c2,k.cell c h.c3,fun o=>(k.frozen c (U1 _ _ h.c2)).trans (h.fz o),h.dF,fun x g=>⟨(h.sp x g).1.off k (s x g),(h.sp x g).2.1,VP (h.sp x g).2.2 k.size⟩⟩
def uw(c n:N):UG:=.agg #[c,V Y 0,n,(),(),(),()]
def nG(w:UF)(d o:M)(v:UG)(g:J Hp.Hi)(w':UF):Prop :=∃ v',HP w' d o v' g/\(∀ b,v'.ownBlock=U b->v.ownBlock=U b\/w.heap.size<=b)/\aH (d :: v.ownBlock.toList) w w'/\(∀ c,c≠o->w'.cell? ⟨d,c,Z⟩=w.cell? ⟨d,c,Z⟩)/\∀ c,w'.frozen? ⟨d,c,Z⟩=w.frozen? ⟨d,c,Z⟩
theorem b8B{m:J Hp.Hi}(h:m.length=n+1)(a b c:UG):(((m.flatMap kr).set (n*3) a).set (n*3+1) b).set (n*3+2) c=(m.take n).flatMap kr++[a,b,c]:=by
 have k:n<m.length:=O;have g:((m.take n).flatMap kr).length=n*3:=by rw[Ba,VY O]
 conv=>lhs;rw[FY k,VX,VW]
 rw[V2 _ _ O,V2 _ _ O,V2 _ _ O,g];rw[show n*3-n*3=0 from by omega,show n*3+1-n*3=1 from by omega,show n*3+2-n*3=2 from by omega];have e:m.drop (n+1)=[]:=Wi O;simp[kr,e]
def yv(w:UF)(H p n:M)(x:Hp.Hi):UF :=(((((w.setCell (H,p*3) x.t).setCell (H,p*3+1) (V Y x.n)).setCell (H,p*3+2) x.v).setCell (H,n*3) (V Y 0)).setCell (H,n*3+1) (V Y 0)).setCell (H,n*3+2) (UM Z)
theorem b5u(w:UF)(H p n:M)(x:Hp.Hi):aH [H] w (yv w H p n x):=(wF _ _ _ _ _ _ _ _).trans (wF _ _ _ _ _ _ _ _)
theorem HP.yv{l:J Hp.Hi}(h:HP w d o (UO (U ⟨H,0,Z⟩) l.length cap) l)(y:l.length=n+1)(t:p<l.length):HP ((yv w H p n (Hp.at_ l n)).setCell ⟨d,o,Z⟩ (UO (U ⟨H,0,Z⟩) n cap)) d o (UO (U ⟨H,0,Z⟩) (Hp.cut l p).length cap) (Hp.cut l p):=by
 have g:d≠H:=fun e=>h.ne (by rw[e];rfl);have k:=b5u w H p n (Hp.at_ l n);have z:=k.cell Uo h.c;have a:=h.put t (Hp.at_ l n);have e:Hp.cut l p=(l.set p (Hp.at_ l n)).take n:=by unfold Hp.cut;rw[y];rfl
 have m:(Hp.cut l p).length=n:=Uo;have r:(l.set p (Hp.at_ l n)).length=n+1:=Uo;have b:=(((a.own.stored (n*3) (V Y 0)).1.stored (n*3+1) (V Y 0)).1.stored (n*3+2) (UM Z)).1;rw[b8B r,r,<- e] at b;have C:=ownsRow_pop (by rw[Ba,m]) b;refine⟨?_,?_,h.ne,?_⟩;rw[m];exact zm _ _ _ z;rw[m];exact dL C (aH.bM d _ o _) (fun x s=>by simp;rintro rfl;exact g (by simpa[V9] using s.symm));exact (zF ..).trans ((k.frozen Uo (U1 _ _ h.c)).trans h.fz)
theorem nG.of{g:UF}{l1 l:J Hp.Hi}(m:v.ownBlock=U H)(z:d<w.heap.size)(t:d≠H)(r:aH [d,H] w g)(C:∀ c,c≠o->g.cell? ⟨d,c,Z⟩=w.cell? ⟨d,c,Z⟩)(y:∀ c,g.frozen? ⟨d,c,Z⟩=w.frozen? ⟨d,c,Z⟩)(k:nD g w2 d o H l1.length cap l1 l):nG w d o v l w2:=by
 have h:=k.off.block d (zL z r.size) Uo;refine⟨_,k.hp,fun b h=>.inl (by rw[m];exact h),?_,fun c s=>(zo h).trans (C c s),fun c=>?_⟩
 .rw[m];exact r.trans' k.off (fun x D=>.inl Uo)
 .exact (Wk h).trans (y c)
theorem LY(d o:M)(v:UG)(l:J Hp.Hi)(p:M)(w:UF)(h:HP w d o v l)(hh:Hp.iP l)(R:p<l.length)(hl:l.length<=1000):UI prog 191 #[UM (U ⟨d,o,UB⟩),V UV p] w fun e w'=>e=UW (US #[])/\∃ r,nG w d o v r w'/\Hp.iP r/\l.Perm (Hp.at_ l p :: r):=by
 obtain⟨H,cap,rfl⟩:=h.form O;obtain⟨n,hn⟩:∃ n,l.length=n+1:=⟨l.length-1,by omega⟩;have c:=h.c;have m:d≠H:=fun e=>h.ne (by rw[e];rfl);obtain⟨a0,a1,a2⟩:=h.at R;obtain⟨b0,b1,b2⟩:=h.at (i:=n) O;have fz:∀ k,w.frozen? ⟨H,k,UB⟩=UD:=fun k=>h.own.frozenAt k;have fd:=h.fz;have CL:=aB (h.yv hn R);have e0:=(h.put R (Hp.at_ l n)).at (i:=n) Un;have ee:Hp.at_ (l.set p (Hp.at_ l n)) n=Hp.at_ l n:=by rw[Hp.b7r];split <;> rfl
 rw[ee] at e0;obtain⟨y0,y1,y2⟩:=e0;clear ee;have i1:(p:N)<(l.length:N):=O;have HH:=aB h;clear h;rw[hn] at c i1;generalize hx:Hp.at_ l n=x at *;go_in;go_upto_region 1 with fail;go_big_region;have P:aH [H] w (((w.setCell ⟨H,p*3,UB⟩ (V UV x.t)).setCell ⟨H,p*3+1,UB⟩ (V UV x.n)).setCell ⟨H,p*3+2,UB⟩ (UM (U ⟨x.v,0,UB⟩))):=wF _ _ _ _ _ _ _ _;have c1:=P.cell (by simpa using m) c;have ab:=(P.frozen (o:=o) (by simpa using m) (U1 _ _ c)).trans fd;have ac:∀ k,(((w.setCell ⟨H,p*3,UB⟩ (V UV x.t)).setCell ⟨H,p*3+1,UB⟩ (V UV x.n)).setCell ⟨H,p*3+2,UB⟩ (UM (U ⟨x.v,0,UB⟩))).frozen? ⟨H,k,UB⟩=UD:=fun k=>by simp[World.frozen?_setCell,fz]
 unfold yv at CL;generalize hX:(((w.setCell ⟨H,p*3,UB⟩ (V UV x.t)).setCell ⟨H,p*3+1,UB⟩ (V UV x.n)).setCell ⟨H,p*3+2,UB⟩ (UM (U ⟨x.v,0,UB⟩)))=X at *;clear hX;have K:=wF X H (n*3) (n*3+1) (n*3+2) (V UV 0) (V UV 0) (UM UB);have c2:=K.cell (by simpa using m) c1;have ad:=(K.frozen (o:=o) (by simpa using m) (U1 _ _ c1)).trans ab;go_upto_region 3 with fail;generalize hY:((X.setCell ⟨H,n*3,UB⟩ (V UV 0)).setCell ⟨H,n*3+1,UB⟩ (V UV 0)).setCell ⟨H,n*3+2,UB⟩ (UM UB)=Y at *;clear hY;have aa:n+1<=cap:=by
  have h:=HH.out.own.2;rcases h with ⟨h0,_⟩|⟨g,ae,ag,hv,_,_,h1,_⟩
  .cases h0
  .cases hv;omega
 have C:(n:N)<=(cap:N):=O;have oo:aH [d,H] w (Y.setCell ⟨d,o,UB⟩ (UO (U ⟨H,0,UB⟩) n cap)):=((P.trans K).mono Ui).setCell (.inl Ui) _ _;have s:d<w.heap.size:=U1 _ _ c;have W:∀ y,y≠o->(Y.setCell ⟨d,o,UB⟩ (UO (U ⟨H,0,UB⟩) n cap)).cell? ⟨d,y,UB⟩=w.cell? ⟨d,y,UB⟩:=fun y ho =>(zS _ _ _ _ (by have:=ho;simp)).trans (zo ((P.trans K).block d s (by simpa using m)))
 have T:∀ y,(Y.setCell ⟨d,o,UB⟩ (UO (U ⟨H,0,UB⟩) n cap)).frozen? ⟨d,y,UB⟩=w.frozen? ⟨d,y,UB⟩:=fun y =>(zF ..).trans (Wk ((P.trans K).block d s (by simpa using m)))
 have D:=aB (Vf oo (Vf W T));have el:(Hp.cut l p).length=n:=by rw[Hp.tU,hn];rfl
 clear oo W T P K c c1 a0 a1 a2 b0 b1 b2 y0 y1 y2 fz ac fd ab;by_cases af:p<n
 .have S:(p:N)<(n:N):=O
  go_upto_region 5 with fail;generalize hZ:Y.setCell ⟨d,o,UB⟩ (UO (U ⟨H,0,UB⟩) n cap)=Z at *;have SK:=aB (c2m d o H cap (Hp.cut l p) p Z.drew (CL.out.off (G:=[]) (aH.refl _ _).drew Ui Ui) O (Hp.c3x hh O) O);clear hZ aa C c2 ad;go_wp2_with fail;refine SK.out.mono ?_;rintro e w4 ⟨rfl,l2,t2,r2⟩;have T2:=aB t2;have z:=t2.len;have RS:=aB (Ke d o H cap l2 p w4 (by rw[z];exact t2.hp) O r2 O);clear t2 r2 SK;go_wp2_with fail;refine RS.out.mono ?_;rintro e w5 ⟨rfl,l3,I,r3⟩;have HF:Hid (∃ r,nG w d o (UO (U ⟨H,0,UB⟩) l.length cap) r w5/\Hp.iP r/\l.Perm (Hp.at_ l p :: r)):=by refine⟨l3,nG.of (l1:=Hp.cut l p) rfl s m D.out.1 D.out.2.1 D.out.2.2 ⟨by rw[el,<- el,<- z];exact I.hp,by rw[I.len,z],I.perm.trans T2.out.perm,((aH.refl [H] Z).drew).trans (T2.out.off.trans I.off)⟩,r3,?_⟩;exact (Hp.J4 R).trans ((I.perm.trans T2.out.perm).symm.cons _)
  clear I r3 T2 RS;go_wp2;go_end0;exact⟨rfl,HF.out⟩
 .have S:¬ ((p:N)<(n:N)):=O
  have Q:p=n:=O;have HF:Hid (∃ r,nG w d o (UO (U ⟨H,0,UB⟩) l.length cap) r (Y.setCell ⟨d,o,UB⟩ (UO (U ⟨H,0,UB⟩) n cap)).drew/\Hp.iP r/\l.Perm (Hp.at_ l p :: r)):=by refine⟨Hp.cut l p,nG.of (l1:=Hp.cut l p) rfl s m D.out.1 D.out.2.1 D.out.2.2 ⟨CL.out.off (G:=[]) (aH.refl _ _).drew Ui Ui,rfl,.refl _,(aH.refl _ _).drew⟩,?_,Hp.J4 R⟩;rw[Q,show n=l.length-1 by omega];exact Hp.c3y hh
  clear CL D hn hx Q el;go_wp2;go_end0;exact⟨rfl,HF.out⟩
theorem b7P(d o:M)(v:UG)(l:J Hp.Hi)(t:N)(w:UF)(h:HP w d o v l)(I:Hp.iP l)(D:l.length<=1000):
  UI prog 205 #[UM (U ⟨d,o,Z⟩),t] w fun e w' =>
   ((l.length=0\/t<(Hp.at_ l 0).t)/\e=UW (US #[UM Z,UD])/\w'=w) \/
   ((0<l.length/\(Hp.at_ l 0).t<=t)/\e=UW (US #[UM (U ⟨(Hp.at_ l 0).v,0,Z⟩),UE])/\∃ x,nG w d o v x w'/\Hp.iP x/\l.Perm (Hp.at_ l 0 :: x)):=by
 have m:=aB (Mh d o v l w h);by_cases r:l.length=0
 .have z:vR l=UD:=by simp[vR,r]
  rw[z] at m;have s:Hid (l.length=0\/t<(Hp.at_ l 0).t):=.inl r;clear h z r;go_in;go_wp21;refine m.mono ?_;rintro e y ⟨rfl,rfl⟩;go_wp21;go_ret2;exact .inl ⟨s,rfl,rfl⟩
 .have g:0<l.length:=O
  rw[Ex g,Ey g] at m;by_cases ht:t<(Hp.at_ l 0).t
  .have s:Hid (l.length=0\/t<(Hp.at_ l 0).t):=.inr ht;clear h r
   go_in;go_wp21;refine m.mono ?_;rintro e y ⟨rfl,rfl⟩;go_wp21;go_ret2;exact .inl ⟨s,rfl,rfl⟩
  .obtain⟨H,cap,rfl⟩:=h.form g;have c:=h.c;let⟨a0,a1,a2⟩:=h.at g;simp only[V6,Nat.zero_add] at a0 a1 a2;have C:=aB (LY d o _ l 0 w h I g D);have s:Hid (0<l.length/\(Hp.at_ l 0).t<=t):=⟨g,O⟩;have P:(0:N)<(l.length:N):=O
   clear h r;go_in;go_wp21;refine m.mono ?_;rintro e y ⟨rfl,rfl⟩;go_wp21;refine C.mono ?_;rintro e w2 ⟨rfl,k⟩;have K:=aB k;clear k C m;go_wp21;go_ret2;exact .inr ⟨s,rfl,K⟩
end Go.Proofs.YtolaacmheeaadaaGreatDoor
