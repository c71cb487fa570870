import Derived.Test.YtfigmlfdnickmaaGreatDoorL08
import Derived.BigQuiet
set_option maxRecDepth 100000
set_option maxHeartbeats 8000000
open Go.Proofs.Tryz
open _root_ renaming ByteArray->U4,List->U5,Option->U6,Bool->U7,Nat->U8,Int->U9,if_neg->Va,if_pos->Vb,absurd->Vc
open Option renaming none->Vd,some->Ve,mem_toList->WW
open Bool renaming false->Vf,true->Vg,eq_iff_iff->Xc,true_and->YX
open Go renaming World->Vh,Value->Vi,Calls->Vk,TypeId->Vm,Value->Zg
open Go.RowKit renaming Below->Vj
open ByteArray renaming empty->YN
open List renaming map->ZI,map_append->Wr,mem_cons->VA,not_mem_nil->Z4,mem_cons_self->Ye,mem_append->VB,length_map->WL,length_set->WE,set_append->Z8,getElem_of_mem->XZ,mem_map->Wm,length_append->V5,length_cons->V6,drop_eq_getElem_cons->WQ,getElem?_append_right->Wz,getElem?_eq_getElem->Xb,mem_append_right->YC,append_assoc->VZ,drop_eq_nil_of_le->WS,append_nil->X5,mem_filter->XF,mem_singleton->YD,map_cons->XS,nodup_cons->VE,mem_cons_of_mem->WV,replicate->Yu,getElem?_append_left->Wt,getElem?_eq_some_iff->ZS,mem_append_left->YB,length->V7
open Prod renaming ext->Z5
open Go.World renaming size_alloc->WX,setCell->VH,block_lt_of_cell?->Vr,news_of_block->WM,cell?->VL,frozen?->Vs,ownsRow_nil->WK
open Array renaming getElem?_eq_none->WD,getElem?_eq_some_iff->Y9
open Go.Value renaming oneCell'->WN,int->V4,ownBlock->WI,slice->Ze
open Go.Value.slice renaming injEq->Yr
open Option.some renaming injEq->Z6,inj->WY
open Go.Addr.mk renaming injEq->Z7
open Nat renaming add_sub_cancel_left->WB,lt_of_lt_of_le->Wk,le_trans->Vq,zero_le->Wh,sub_self->Zs
open Go.Code renaming wp->Za
open Go.IntKind renaming i64->Vp
namespace Go.Proofs.YtfigmlfdnickmaaGreatDoor
variable{k:U4}{fr given mi mn now pc ti un:U9}{P:U9->U5 Zg}{ts:U5 (U4 × U9)}{xs' ys:U5 (aA.aL × U8 × U8)}{ps:U5 (U5 U4)}{H R q ws:U5 U4}{acc:U5 U9}{F G:U5 U8}{pat:U5 Zg}{B E Q cap d g i j n z:U8}{st:U8 × U7}{o:Obj}{a a0 a1 a2 a3 a4 a5 c l r r' u v:Zg}{W Z Z' Z3 w w' w0 w9 wr:Vh}
open Go.RowKit
theorem pd{Q:U5 U4}{s:U4}(h:aQ ws ((Q++s :: R).map aV) (0,Vf)=(n,Vf))(V:U4->U9):bT ws (aQ ws (Q.map aV) (0,Vf)) (aV s) V=V (ws.getD Q.length YN):=by
 rw[zE h];unfold bT fg;rw[Vb (uK h)]
theorem jZ{Q:U5 U4}{s:U4}(h:aQ ws ((Q++s :: R).map aV) (0,Vf)=(n,Vf)):aV s (ws.getD Q.length YN)=Vg:=(mC (uK h)).2.2
theorem Ks:jY.map aV=[bE iW,eo]:=by
 simp only[jY,ZI,qd,gZ iW UY]
theorem Ku:ln.map aV=[bE ix,eo,aB.dU]:=by
 simp only[ln,ZI,qd,C7,gZ ix UY]
theorem Kt:mw.map aV=[bE jI,eo]:=by
 simp only[mw,ZI,qd,gZ jI UY]
theorem Kg:iM.map aV=[bE iT,eo]:=by
 simp only[iM,ZI,qd,gZ iT UY]
theorem Kh:mQ.map aV=[bE js,aB.cM]:=by
 simp only[mQ,ZI,wu,gZ js UY]
theorem Kc:bU.map aV=[bE cV,aB.cM,bE ej,aB.dA,bE fS,eJ]:=by
 simp only[bU,ZI,wu,C6,ta,gZ cV UY,gZ ej UY,gZ fS UY]
inductive wv (ws:U5 U4) (c:U8):U9->U9->U5 U9->U5 U4->Prop where
 |daily (h0:ws.getD c YN=iW) (h:eo (ws.getD (c+1) YN)=Vg):wv ws c 1 (cL (ws.getD (c+1) YN)) [] jY
 |weekly (acc:U5 U9) (h0:ws.getD c YN=ix) (h:eo (ws.getD (c+1) YN)=Vg) (ho:aB.iq (ws.getD (c+2) YN)=Ve acc):wv ws c 2 (cL (ws.getD (c+1) YN)) acc ln
 |monthly (h0:ws.getD c YN=jI) (h:eo (ws.getD (c+1) YN)=Vg):wv ws c 3 (cL (ws.getD (c+1) YN)) [] mw
inductive wq (ws:U5 U4) (d:U8):U9->U9->U5 U4->Prop where
 |times (h0:ws.getD d YN=iT) (h:eo (ws.getD (d+1) YN)=Vg):wq ws d (cL (ws.getD (d+1) YN)) 0 iM
 |til (h0:ws.getD d YN=js) (h:aB.cM (ws.getD (d+1) YN)=Vg):wq ws d 0 (fT (ws.getD (d+1) YN)) mQ
structure C5(ws:U5 U4)(d:U8)(fr mn mi:U9):Prop where
 h0:ws.getD d YN=cV
 h1:aB.cM (ws.getD (d+1) YN)=Vg
 h2:ws.getD (d+2) YN=ej
 h3:aB.dA (ws.getD (d+3) YN)=Vg
 h4:ws.getD (d+4) YN=fS
 h5:eJ (ws.getD (d+5) YN)=Vg
 UT:fr=fT (ws.getD (d+1) YN)
 UQ:mn=aB.fo (ws.getD (d+3) YN)
 UR:mi=cL (ws.getD (d+5) YN)
structure C8(H ws:U5 U4)(pc ev:U9)(acc:U5 U9)(fr mn mi ti un:U9)(K E:U5 U4):Prop where
 US:wv ws H.length pc ev acc K
 aS:C5 ws (H.length+K.length) fr mn mi
 end_:wq ws (H.length+K.length+6) ti un E
theorem uO{x y:U4}{wr:U7}(h:bD ws n wr x=Vg)(f:aV y x=Vf):eA ws n Vf (aV y)=Vf:=by
 obtain⟨_,_,p⟩:=mC (nF ws n wr x ▸ h);have e:=oj p;exact Du (by rw[e];exact f)
theorem Kd:∀ f∈gY,f≠jY->aV (f.headD YN) iW=Vf:=UY
theorem Km:∀ f∈gY,f≠ln->aV (f.headD YN) ix=Vf:=UY
theorem Ke:∀ f∈gY,f≠mw->aV (f.headD YN) jI=Vf:=UY
theorem Kf:∀ f∈ends,f≠iM->aV (f.headD YN) iT=Vf:=UY
theorem Kl:∀ f∈ends,f≠mQ->aV (f.headD YN) js=Vf:=UY
theorem zO{K E:U5 U4}{s:U8 × U7}(O:s=aQ ws ((H++K).map aV) (0,Vf))(h:aQ ws ((H++K++bU++E).map aV) (0,Vf)=(n,Vf)):
  C5 ws (H.length+K.length) (bT ws (aQ ws [bE cV] s) aB.cM fT) (bT ws (aQ ws [bE cV,aB.cM,bE ej] s) aB.dA aB.fo) (bT ws (aQ ws [bE cV,aB.cM,bE ej,aB.dA,bE fS] s) eJ cL):=by
 have U:=gZ cV UY;have T:=gZ ej UY;have S:=gZ fS UY;have Y:H++K++bU++E=(H++K)++cV :: ([hH,ej,jC,fS,gj]++E):=by simp[bU]
 have C:H++K++bU++E=(H++K++[cV])++hH :: ([ej,jC,fS,gj]++E):=by simp[bU]
 have X:H++K++bU++E=(H++K++[cV,hH])++ej :: ([jC,fS,gj]++E):=by simp[bU]
 have A:H++K++bU++E=(H++K++[cV,hH,ej])++jC :: ([fS,gj]++E):=by simp[bU]
 have V:H++K++bU++E=(H++K++[cV,hH,ej,jC])++fS :: ([gj]++E):=by simp[bU]
 have y:H++K++bU++E=(H++K++[cV,hH,ej,jC,fS])++gj :: E:=by simp[bU]
 have N:(H++K).length=H.length+K.length:=UV
 have l1:(H++K++[cV]).length=H.length+K.length+1:=by simp;omega
 have M:(H++K++[cV,hH]).length=H.length+K.length+2:=by simp;omega
 have J:(H++K++[cV,hH,ej]).length=H.length+K.length+3:=by simp;omega
 have I:(H++K++[cV,hH,ej,jC]).length=H.length+K.length+4:=by simp;omega
 have D:(H++K++[cV,hH,ej,jC,fS]).length=H.length+K.length+5:=by simp;omega
 have a0:=jZ (Y ▸ h);have a1:=jZ (C ▸ h);have a2:=jZ (X ▸ h);have a3:=jZ (A ▸ h);have a4:=jZ (V ▸ h);have a5:=jZ (y ▸ h);have v1:=pd (C ▸ h) fT;have p:=pd (A ▸ h) aB.fo;have f:=pd (y ▸ h) cL;rw[Wr,kG,<- O] at v1 p f;simp only[ZI,U,T,S,wu,C6,ta] at a0 a1 a2 a3 a4 a5 v1 p f;rw[N] at a0;rw[l1] at a1 v1;rw[M] at a2;rw[J] at a3 p;rw[I] at a4;rw[D] at a5 f;exact⟨oj a0,a1,oj a2,a3,oj a4,a5,v1,p,f⟩
theorem Ah{K:U5 U4}{s s':U8 × U7}(T:K∈gY)(N:aQ ws (H.map aV) (0,Vf)=(n,Vf))
  (O:∀ K2∈gY,K2≠K->eA ws n Vf (aV (K2.headD YN))=Vf) (hs:s=aQ ws ((H++K).map aV) (0,Vf)) (Y:nP ws (mD ws s) ti un s'):
  ∃ E,Sum (jj H) ws s' (H++K++bU++E)/\(s'.2=Vf->aQ ws ((H++K++bU++E).map aV) (0,Vf)=s'/\wq ws (H.length+K.length+6) ti un E):=by
 have D:mD ws s=aQ ws ((H++K++bU).map aV) (0,Vf):=by
  unfold mD;rw[<- Kc,Wr (l₁:=H++K),kG,<- hs]
 obtain⟨m,b,A⟩:∃ m b,aQ ws ((H++K++bU).map aV) (0,Vf)=(m,b):=⟨_,_,rfl⟩;have X:(H++K++bU).length=H.length+K.length+6:=by simp[bU];omega
 rw[D,A] at Y
 cases Y with
 |times h =>
  have S:b=Vf:=(mC (nF ws m b iT ▸ h)).1;subst S
  have f:aQ ws ((H++K++bU++iM).map aV) (0,Vf)=aQ ws [eo] (dV (m,Vf)):=by
   rw[Wr,kG,A,Kg,nM h];rfl
  refine⟨iM,Dr T (by simp[ends]) N O A (fun M y C=>uO h (Kf M y C)) f,fun I=>⟨f,?_⟩⟩;obtain⟨l,p⟩:∃ l,aQ ws ((H++K++bU++iM).map aV) (0,Vf)=(l,Vf):=⟨_,by rw[f];exact Z5 rfl I⟩;have J:H++K++bU++iM=(H++K++bU++[iT])++hI :: []:=by simp[iM]
  have V:H++K++bU++iM=(H++K++bU)++iT :: [hI]:=by simp[iM]
  have a0:=jZ (V ▸ p);have a1:=jZ (J ▸ p);have v1:=pd (J ▸ p) cL;rw[Wr,kG,A] at v1;have lt:=gZ iT UY;simp only[ZI,lt,qd] at a0 a1 v1;have U:aQ ws [bE iT] (m,Vf)=dV (m,Vf):=(nM h).symm;rw[U] at v1;have l1:(H++K++bU++[iT]).length=H.length+K.length+6+1:=by simp[bU];omega
  rw[l1] at a1 v1;rw[X] at a0;rw[v1];exact .times (oj a0) a1
 |til h1 h =>
  have S:b=Vf:=(mC (nF ws m b js ▸ h)).1;subst S
  have f:aQ ws ((H++K++bU++mQ).map aV) (0,Vf)=aQ ws [aB.cM] (dV (m,Vf)):=by
   rw[Wr,kG,A,Kh,nM h];rfl
  refine⟨mQ,Dr T (by simp[ends]) N O A (fun M y C=>uO h (Kl M y C)) f,fun I=>⟨f,?_⟩⟩;obtain⟨l,p⟩:∃ l,aQ ws ((H++K++bU++mQ).map aV) (0,Vf)=(l,Vf):=⟨_,by rw[f];exact Z5 rfl I⟩;have J:H++K++bU++mQ=(H++K++bU++[js])++hH :: []:=by simp[mQ]
  have V:H++K++bU++mQ=(H++K++bU)++js :: [hH]:=by simp[mQ]
  have a0:=jZ (V ▸ p);have a1:=jZ (J ▸ p);have v1:=pd (J ▸ p) fT;rw[Wr,kG,A] at v1;have lt:=gZ js UY;simp only[ZI,lt,wu] at a0 a1 v1;have U:aQ ws [bE js] (m,Vf)=dV (m,Vf):=(nM h).symm;rw[U] at v1;have l1:(H++K++bU++[js]).length=H.length+K.length+6+1:=by simp[bU];omega
  rw[l1] at a1 v1;rw[X] at a0;rw[v1];exact .til (oj a0) a1
 |none h1 h =>
  refine⟨iM,Kr T N O A ?_,fun I=>Vc I UV⟩;intro M y;simp only[ends,VA,Z4,or_false] at y;rcases y with rfl|rfl
  ·show eA ws m b (aV iT)=Vf;rw[gZ iT UY];exact h1
  ·show eA ws m b (aV js)=Vf;rw[gZ js UY];exact h
theorem wN{ev:U9}{s':U8 × U7}(X:km ws (aQ ws (H.map aV) (0,Vf)) pc ev acc fr mn mi ti un s'):
  ∃ q,Sum (jj H) ws s' q/\(s'.2=Vf->∃ K E,q=H++K++bU++E/\aQ ws (q.map aV) (0,Vf)=s'/\C8 H ws pc ev acc fr mn mi ti un K E):=by
 obtain⟨n,b,D⟩:∃ n b,aQ ws (H.map aV) (0,Vf)=(n,b):=⟨_,_,rfl⟩;rw[D] at X
 cases X with
 |mk s _ _ _ hp he =>
  cases hp with
  |daily h =>
   have T:b=Vf:=(mC (nF ws n b iW ▸ h)).1;subst T
   have I:aQ ws [eo] (dV (n,Vf))=aQ ws ((H++jY).map aV) (0,Vf):=by
    rw[Wr,kG,D,Ks,nM h];rfl
   obtain⟨E,M,A⟩:=Ah (K:=jY) (by simp[gY]) D (fun N y C=>uO h (Kd N y C)) I he;refine⟨_,M,fun p=>⟨jY,E,rfl,(A p).1,?_,?_,(A p).2⟩⟩
   ·have f:aQ ws ((H++jY++bU++E).map aV) (0,Vf)=(s'.1,Vf):=by rw[(A p).1];exact Z5 rfl p
    have V:H++jY++bU++E=H++iW :: ([hI]++bU++E):=by simp[jY]
    have J:H++jY++bU++E=(H++[iW])++hI :: (bU++E):=by simp[jY]
    have a0:=jZ (V ▸ f);have a1:=jZ (J ▸ f);have v1:=pd (J ▸ f) cL;have lt:=gZ iW UY;rw[Wr,kG,D] at v1;simp only[ZI,lt,qd] at a0 a1 v1;have U:aQ ws [bE iW] (n,Vf)=dV (n,Vf):=(nM h).symm;rw[U] at v1;have l1:(H++[iW]).length=H.length+1:=UV
    rw[l1] at a1 v1;rw[v1];exact .daily (oj a0) a1
   ·exact zO (E:=E) (n:=s'.1) I (by rw[(A p).1];exact Z5 rfl p)
  |weekly h1 h acc ha =>
   have T:b=Vf:=(mC (nF ws n b ix ▸ h)).1;subst T
   have I:aQ ws [eo,aB.dU] (dV (n,Vf))=aQ ws ((H++ln).map aV) (0,Vf):=by
    rw[Wr,kG,D,Ku,nM h];rfl
   obtain⟨E,M,A⟩:=Ah (K:=ln) (by simp[gY]) D (fun N y C=>uO h (Km N y C)) I he;refine⟨_,M,fun p=>⟨ln,E,rfl,(A p).1,?_,?_,(A p).2⟩⟩
   ·have f:aQ ws ((H++ln++bU++E).map aV) (0,Vf)=(s'.1,Vf):=by rw[(A p).1];exact Z5 rfl p
    have V:H++ln++bU++E=H++ix :: ([hI,lk]++bU++E):=by simp[ln]
    have J:H++ln++bU++E=(H++[ix])++hI :: ([lk]++bU++E):=by simp[ln]
    have Y:H++ln++bU++E=(H++[ix,hI])++lk :: (bU++E):=by simp[ln]
    have a0:=jZ (V ▸ f);have a1:=jZ (J ▸ f);have a2:=uK (Y ▸ f);have O:=zE (Y ▸ f);have v1:=pd (J ▸ f) cL;have lt:=gZ ix UY;rw[Wr,kG,D] at v1 O;simp only[ZI,lt,qd,C7] at a0 a1 a2 O v1;have U:aQ ws [bE ix] (n,Vf)=dV (n,Vf):=(nM h).symm;have e4:aQ ws [bE ix,eo] (n,Vf)=aQ ws [eo] (dV (n,Vf)):=by rw[nM h];rfl
    rw[U] at v1;rw[e4] at O;have l1:(H++[ix]).length=H.length+1:=UV
    have l2:(H++[ix,hI]).length=H.length+2:=UV
    rw[l1] at a1 v1;rw[l2] at a2 O;rw[O] at ha;rw[v1];exact .weekly acc (oj a0) a1 (ha a2)
   ·exact zO (E:=E) (n:=s'.1) I (by rw[(A p).1];exact Z5 rfl p)
  |monthly h1 h1' h =>
   have T:b=Vf:=(mC (nF ws n b jI ▸ h)).1;subst T
   have I:aQ ws [eo] (dV (n,Vf))=aQ ws ((H++mw).map aV) (0,Vf):=by
    rw[Wr,kG,D,Kt,nM h];rfl
   obtain⟨E,M,A⟩:=Ah (K:=mw) (by simp[gY]) D (fun N y C=>uO h (Ke N y C)) I he;refine⟨_,M,fun p=>⟨mw,E,rfl,(A p).1,?_,?_,(A p).2⟩⟩
   ·have f:aQ ws ((H++mw++bU++E).map aV) (0,Vf)=(s'.1,Vf):=by rw[(A p).1];exact Z5 rfl p
    have V:H++mw++bU++E=H++jI :: ([hI]++bU++E):=by simp[mw]
    have J:H++mw++bU++E=(H++[jI])++hI :: (bU++E):=by simp[mw]
    have a0:=jZ (V ▸ f);have a1:=jZ (J ▸ f);have v1:=pd (J ▸ f) cL;have lt:=gZ jI UY;rw[Wr,kG,D] at v1;simp only[ZI,lt,qd] at a0 a1 v1;have U:aQ ws [bE jI] (n,Vf)=dV (n,Vf):=(nM h).symm;rw[U] at v1;have l1:(H++[jI]).length=H.length+1:=UV
    rw[l1] at a1 v1;rw[v1];exact .monthly (oj a0) a1
   ·exact zO (E:=E) (n:=s'.1) I (by rw[(A p).1];exact Z5 rfl p)
  |none h1 p h =>
   have S:mD ws (n,Vg)=(n,Vg):=by unfold mD;exact qt ws _ n
   have M:Sum (jj H) ws (n,Vg) (H++jY++bU++iM):=by
    refine Ky D ?_;intro N y;simp only[gY,VA,Z4,or_false] at y;rcases y with rfl|rfl|rfl
    ·show eA ws n b (aV iW)=Vf;rw[gZ iW UY];exact h1
    ·show eA ws n b (aV ix)=Vf;rw[gZ ix UY];exact p
    ·show eA ws n b (aV jI)=Vf;rw[gZ jI UY];exact h
   rw[S] at he
   cases he with
   |times h=>exact Vc (mC (nF ws n Vg iT ▸ h)).1 UW
   |til _ h=>exact Vc (mC (nF ws n Vg js ▸ h)).1 UW
   |none _ _=>exact⟨_,M,fun p=>Vc p UV⟩
theorem lO{Q:U5 U4}{s:U4}(h:bD ws 0 Vf k=Vg)(p:jD k=Vg)(f:aQ ws ((k :: (Q++s :: R)).map aV) (0,Vf)=(n,Vf))(V:U4->U9):bT ws (aQ ws (Q.map aV) (1,Vf)) (aV s) V=V (ws.getD (Q.length+1) YN):=by
 rw[kC h p];exact pd (Q:=k :: Q) f V
theorem lq(Q:U5 U4){s:U4}(f:aQ ws ((k :: (Q++s :: R)).map aV) (0,Vf)=(n,Vf)):aV s (ws.getD (Q.length+1) YN)=Vg:=jZ (Q:=k :: Q) f
theorem rL(f:aQ ws ((k :: cD :: R).map aV) (0,Vf)=(n,Vf)):gV ws (1,Vf)=ws.getD 1 YN:=by
 have h:=uK (Q:=[k]) (s:=cD) (R:=R) f;rw[gS] at h;have p:=(mC h).2.2;unfold gV mq;rw[Vb (show eA ws 1 Vf (fun s=>aB.fa s.data.toList)=Vg from h)];exact KU p
structure Full(s:U4)(p:U5 U4):Prop where
 sc:jk s=(Ve p,0)
 all:aQ (aB.aP s) (p.map aV) (0,Vf)=(p.length,Vf)
 len:(aB.aP s).length=p.length
theorem uM{s:U4}(h:bD (aB.aP s) 0 Vf k=Vg)(J:mB.filter (nI k)=ps)(C:Sum ps (aB.aP s) st q)(f:aQ (aB.aP s) (q.map aV) (0,Vf)=st)(D:st.2=Vf)(A:cB (aB.aP s).length st.1 st.2=Vf):Full s q:=by
 obtain⟨t,ht⟩:=zR h;obtain⟨n,b⟩:=st;have I:=C.at_;have M:=(rV q (aB.aP s)).2;have N:¬ n<(aB.aP s).length:=by simpa[cB,show b=Vf from D] using A
 have y:b=Vf:=D;subst y;have p:=qk f;refine⟨(EH ht).trans (by rw[J];exact C.yes rfl A),by rw[f,p],?_⟩;have:pre q (aB.aP s)=n:=I;omega
theorem uN{s:U4}(h:bD (aB.aP s) 0 Vf k=Vg)(f:mB.filter (nI k)=ps)(y:Sum ps (aB.aP s) st q)(p:st.2=Vg\/cB (aB.aP s).length st.1 st.2=Vg):jk s=(Vd,st.1):=by
 obtain⟨t,ht⟩:=zR h;rw[EH ht,f];exact y.no p
theorem KN(h:bD ws 0 Vf k=Vg):ws.getD 0 YN=k:=by
 obtain⟨t,ht⟩:=zR h;rw[ht];rfl
def qm(s:U4)(st:U8 × U7):Prop:=st.2=Vg\/cB (aB.aP s).length st.1 st.2=Vg->jk s=(Vd,st.1)
theorem Lu{s:U4}(h:bD (aB.aP s) 0 Vf ic=Vg){ev:U9}(p:km (aB.aP s) (aQ (aB.aP s) [bI,dE] (1,Vf)) pc ev acc fr mn mi ti un st):qm s st:=by
 have y:jD ic=Vg:=UY
 have A:mB.filter (nI ic)=jj mz:=UY
 have f:aQ (aB.aP s) (mz.map aV) (0,Vf)=(aQ (aB.aP s) [bI,dE] (1,Vf)):=by
  unfold mz;rw[<- kC h y];simp only[ZI,gS,lN]
 rw[<- f] at p;obtain⟨q,C,D⟩:=wN p;exact uN h A C
theorem Lm{s:U4}(h:bD (aB.aP s) 0 Vf iZ=Vg){ev:U9}(p:km (aB.aP s) (1,Vf) pc ev acc fr mn mi ti un st):qm s st:=by
 have y:jD iZ=Vg:=UY
 have A:mB.filter (nI iZ)=jj nC:=UY
 have f:aQ (aB.aP s) (nC.map aV) (0,Vf)=(1,Vf):=by
  unfold nC;rw[<- kC h y];rfl
 rw[<- f] at p;obtain⟨q,C,D⟩:=wN p;exact uN h A C
structure uB(w:Vh)(b:U8)(x:aA.aL × U8 × U8):Prop where
 c0:w.cell? ⟨b,0,Vd⟩=Ve (.int .i64 x.1.id)
 c1:w.cell? ⟨b,1,Vd⟩=Ve (.int .i64 x.1.kind)
 c2:w.cell? ⟨b,2,Vd⟩=Ve (.string x.1.aT)
 c3:w.cell? ⟨b,3,Vd⟩=Ve (.int .i64 x.1.aH)
 c4:w.cell? ⟨b,4,Vd⟩=Ve (.slice (Ve ⟨x.2.1,0,Vd⟩) x.1.aK.length x.2.2)
 c5:w.cell? ⟨b,5,Vd⟩=Ve (.int .i64 x.1.bY)
theorem uB.off{b:U8}{x:aA.aL × U8 × U8}(h:uB w b x)(k:aF G w w')(f:b ∉ G):uB w' b x :=
 ⟨k.cell f h.c0,k.cell f h.c1,k.cell f h.c2,k.cell f h.c3,k.cell f h.c4,k.cell f h.c5⟩
theorem Dy(d:U8)(ts:U5 (U4 × U9))(xs:U5 (aA.aL × U8 × U8))(given now:U9)(F:U5 U8)(x:aA.aL × U8 × U8)(w:Vh)(h:RD w d ts xs given now F)(hx:fY w x.2.1 x.1.aK)(ae:x.2.1 ∉ F)(I:x.2.1<w.heap.size)(hF:∀ k∈F,k<w.heap.size)(hl:xs.length<=1000)(a9:0<=given)(a8:given<=1000):
  Vk prog 232 #[.pointer (Ve ⟨d,0,Vd⟩),.agg (dN x).toArray] w fun e w'=>e=.returned (rP 0 (given+1))/\sZ w d ts (xs++[({ x.1 with id:=given+1 },x.2)]) (given+1) now F w':=by
 obtain⟨i0,ax,av,au,ar⟩:=info_parts wO;have hd:d<w.heap.size:=hF d h.dF;have H:=aC h;have HX:=aC (zA hx (zA ae I));simp only[dN];clear h hx ae I
 go_in
 go_upto_region 1 with fail
 have oX:aF [] w ((w.alloc (.cells #[.int .i64 x.1.id,.int .i64 x.1.kind,.string x.1.aT,.int .i64 x.1.aH,.slice (Ve ⟨x.2.1,0,Vd⟩) x.1.aK.length x.2.2,.int .i64 x.1.bY] 58)).alloc (.cells #[.int .i64 0,.int .i64 0,.int .i64 0,.slice Vd 0 0,.slice Vd 0 0,.slice Vd 0 0,.slice Vd 0 0] 40)):=((aF.refl _ _).alloc _).alloc _;have bX:uB ((w.alloc (.cells #[.int .i64 x.1.id,.int .i64 x.1.kind,.string x.1.aT,.int .i64 x.1.aH,.slice (Ve ⟨x.2.1,0,Vd⟩) x.1.aK.length x.2.2,.int .i64 x.1.bY] 58)).alloc (.cells #[.int .i64 0,.int .i64 0,.int .i64 0,.slice Vd 0 0,.slice Vd 0 0,.slice Vd 0 0,.slice Vd 0 0] 40)) w.heap.size x:=⟨by simp,by simp,by simp,by simp,by simp,by simp⟩
 have rX:((w.alloc (.cells #[.int .i64 x.1.id,.int .i64 x.1.kind,.string x.1.aT,.int .i64 x.1.aH,.slice (Ve ⟨x.2.1,0,Vd⟩) x.1.aK.length x.2.2,.int .i64 x.1.bY] 58)).alloc (.cells #[.int .i64 0,.int .i64 0,.int .i64 0,.slice Vd 0 0,.slice Vd 0 0,.slice Vd 0 0,.slice Vd 0 0] 40)).heap[w.heap.size+1]?=Ve (.cells #[.int .i64 0,.int .i64 0,.int .i64 0,.slice Vd 0 0,.slice Vd 0 0,.slice Vd 0 0,.slice Vd 0 0] 40):=by
  have:=cC (w.alloc (.cells #[.int .i64 x.1.id,.int .i64 x.1.kind,.string x.1.aT,.int .i64 x.1.aH,.slice (Ve ⟨x.2.1,0,Vd⟩) x.1.aK.length x.2.2,.int .i64 x.1.bY] 58)) (.cells #[.int .i64 0,.int .i64 0,.int .i64 0,.slice Vd 0 0,.slice Vd 0 0,.slice Vd 0 0,.slice Vd 0 0] 40)
  rwa [WX] at this
 have fX:((w.alloc (.cells #[.int .i64 x.1.id,.int .i64 x.1.kind,.string x.1.aT,.int .i64 x.1.aH,.slice (Ve ⟨x.2.1,0,Vd⟩) x.1.aK.length x.2.2,.int .i64 x.1.bY] 58)).alloc (.cells #[.int .i64 0,.int .i64 0,.int .i64 0,.slice Vd 0 0,.slice Vd 0 0,.slice Vd 0 0,.slice Vd 0 0] 40)).frozen? ⟨w.heap.size,0,Vd⟩=Vf:=by
  have a:=World.frozen?_alloc_new w #[.int .i64 x.1.id,.int .i64 x.1.kind,.string x.1.aT,.int .i64 x.1.aH,.slice (Ve ⟨x.2.1,0,Vd⟩) x.1.aK.length x.2.2,.int .i64 x.1.bY] 58 0;exact (((aF.refl [] (w.alloc (.cells #[.int .i64 x.1.id,.int .i64 x.1.kind,.string x.1.aT,.int .i64 x.1.aH,.slice (Ve ⟨x.2.1,0,Vd⟩) x.1.aK.length x.2.2,.int .i64 x.1.bY] 58))).alloc (.cells #[.int .i64 0,.int .i64 0,.int .i64 0,.slice Vd 0 0,.slice Vd 0 0,.slice Vd 0 0,.slice Vd 0 0] 40)).frozen UV UV).trans a
 have T:=aC (zA oX (zA bX (zA rX fX)));clear oX bX rX fX;generalize (World.alloc _ (.cells #[.int .i64 0,.int .i64 0,.int .i64 0,.slice Vd 0 0,.slice Vd 0 0,.slice Vd 0 0,.slice Vd 0 0] 40))=X at T ⊢;obtain⟨N,hN⟩:∃ N,N=w.heap.size:=⟨_,rfl⟩;rw[<- hN] at T ⊢;have al:d≠N:=UU
 have HN:=aC hN;clear hN hd;have rd:=H.out.off T.out.1 UV UV;have c2:=rd.c2;have f2:=rd.fz 2;have fN:=T.out.2.2.2;have n0:=T.out.2.1.c0;have U:=aC rd;clear rd
 go_upto_region 3 with fail
 have an:N ∉ F:=fun e=>by have:=hF N e;have:=HN.out;omega
 have oY:aF F X ((X.setCell ⟨d,2,Vd⟩ (.int .i64 (given+1))).setCell ⟨N,0,Vd⟩ (.int .i64 (given+1)))\/True:=.inr trivial;have kN:aF [N] (X.setCell ⟨d,2,Vd⟩ (.int .i64 (given+1))) ((X.setCell ⟨d,2,Vd⟩ (.int .i64 (given+1))).setCell ⟨N,0,Vd⟩ (.int .i64 (given+1))):=aF.aY ..;have kd:aF [d] X (X.setCell ⟨d,2,Vd⟩ (.int .i64 (given+1))):=aF.aY ..
 have ac:RD ((X.setCell ⟨d,2,Vd⟩ (.int .i64 (given+1))).setCell ⟨N,0,Vd⟩ (.int .i64 (given+1))) d ts xs (given+1) now F :=
  (U.out.nt (given+1)).off kN (fun y D=>by simp;rintro rfl;exact an D) (fun y D=>by
   have h1:=(H.out.sp y D).2.2;have h2:=HN.out
   simp;omega)
 have wY:aF F w ((X.setCell ⟨d,2,Vd⟩ (.int .i64 (given+1))).setCell ⟨N,0,Vd⟩ (.int .i64 (given+1))) :=
  ((T.out.1.mono UV).setCell (.inl H.out.dF) _ _).setCell (.inr (by have:=HN.out;omega)) _ _
 have A:=T.out.2.1.off kd (by simp;exact fun e=>al e.symm)
 have aq:uB ((X.setCell ⟨d,2,Vd⟩ (.int .i64 (given+1))).setCell ⟨N,0,Vd⟩ (.int .i64 (given+1))) N ({ x.1 with id:=given+1 },x.2) :=
  ⟨zm _ _ _ A.c0,(zS _ _ _ _ UV).trans A.c1,(zS _ _ _ _ UV).trans A.c2,(zS _ _ _ _ UV).trans A.c3,(zS _ _ _ _ UV).trans A.c4,(zS _ _ _ _ UV).trans A.c5⟩
 have S:N+1<X.heap.size:=by
  by_cases hx:N+1<X.heap.size
  ·exact hx
  ·have:=T.out.2.2.1;rw[WD UU] at this;cases this
 have rY:((X.setCell ⟨d,2,Vd⟩ (.int .i64 (given+1))).setCell ⟨N,0,Vd⟩ (.int .i64 (given+1))).heap[N+1]?=Ve (.cells #[.int .i64 0,.int .i64 0,.int .i64 0,.slice Vd 0 0,.slice Vd 0 0,.slice Vd 0 0,.slice Vd 0 0] 40):=by
  rw[kN.block (N+1) (zL S kd.size) UV,kd.block (N+1) S (by simp;have:=hF d H.out.dF;have:=HN.out;omega)];exact T.out.2.2.1
 have p:=aC (zA ac (zA wY (zA aq rY)));clear oY kN kd ac wY A aq rY S c2 f2 fN n0 T U;generalize (VH _ ⟨N,0,Vd⟩ (.int .i64 (given+1)))=Y at p ⊢;obtain⟨v,cv,ho,V⟩:=p.out.1.ev;have b0:=p.out.2.2.1.c0;have b1:=p.out.2.2.1.c1;have b2:=p.out.2.2.1.c2;have b3:=p.out.2.2.1.c3;have b4:=p.out.2.2.1.c4;have b5:=p.out.2.2.1.c5;have f1:=p.out.1.fz 1;have ay:d<Y.heap.size:=Vr _ _ cv;have a6:N<Y.heap.size:=Vr _ _ b0;have f:=aC (zA ho V)
 have ak:d ∉ v.ownBlock.toList:=by
  intro e;have:v.ownBlock=Ve d:=by simpa using e
  exact (V d this).2 rfl
 have ab:=aC ak;clear ho V ak;simp only at b0 b1 b2 b3 b4 b5
 go_cut [24] from 17 to 26 (fun _ wx=>∃ g cap w5,aF (v.ownBlock.toList) Y w5/\w5.ownsRow 0 58 6 (.slice (Ve ⟨g,0,Vd⟩) (xs.length+1) cap) (xs.length+1) (xs.flatMap dN++dN ({ x.1 with id:=given+1 },x.2))/\(v.ownBlock=Ve g\/Y.heap.size<=g)/\wx=w5.setCell ⟨d,1,Vd⟩ (.slice (Ve ⟨g,0,Vd⟩) (xs.length+1) cap))
 case first =>
  go_region_law (first
   |(refine step_append_lies _ rfl _ _ 34 rfl 0 58 i0 _ 6 72 underlying34 ax av au ar rfl UW v xs.length (xs.flatMap dN) rfl (eu f.out.1 (((zr _ _).alloc (zq _) _).drew)) ⟨Y.heap.size,0,Vd⟩ 1 1 (dN ({ x.1 with id:=given+1 },x.2)) rfl rfl (WM (cs:=(dN ({ x.1 with id:=given+1 },x.2)).toArray) (cC Y _)) (by simp[dN,WN]) UU U1 UU (zN _) (Y.heap.size+1) UV ?_;intro g cap w1 aw aa O a7;have kk:aF (v.ownBlock.toList) Y w1:=aF.grown (((aF.refl _ Y).alloc _).drew) aa (fun k J=>.inl (by simp[J]));have z1:=kk.cell ab.out cv;have z2:=(kk.frozen (o:=1) ab.out (Vr _ _ cv)).trans f1))
  all_goals
   go_wp2
   go_meet
   exact⟨g,cap,w1,kk,aw,O.imp id (fun e=>by omega),rfl⟩
 case rest =>
  obtain⟨g,cap,w5,kk,ag,O,rfl⟩:=hcut;have ad:fY Y x.2.1 x.1.aK:=HX.out.1.off p.out.2.1 HX.out.2.1;have I:x.2.1<Y.heap.size:=zL HX.out.2.2 p.out.2.1.size;obtain⟨rz,oz⟩:=RD.kQ (x:=({ x.1 with id:=given+1 },x.2)) p.out.1 cv f.out.1 f.out.2 kk ag O ad HX.out.2.1 I
  have az:N ∉ d :: v.ownBlock.toList:=by
   intro e;rcases VA.1 e with e|e
   ·exact al e.symm
   ·exact an (f.out.2 N (by simpa using e)).1
  have S:N+1 ∉ d :: v.ownBlock.toList:=by
   intro e;have h2:=HN.out;rcases VA.1 e with e|e
   ·have:=hF d H.out.dF;omega
   ·have:=hF (N+1) (f.out.2 (N+1) (by simpa using e)).1;omega
  have n0:=oz.cell az b0
  have ai:N+1<Y.heap.size:=by
   by_cases hx:N+1<Y.heap.size
   ·exact hx
   ·have:=p.out.2.2.2;rw[WD UU] at this;cases this
  have af:=(oz.block (N+1) ai S).trans p.out.2.2.2;have C:=aC (zA rz (zA oz af));clear rz oz af kk ag ad I b0 b1 b2 b3 b4 b5 f1 cv ay a6 ab;have HG:Hid (g∈g :: F):=Ye ..;generalize (VH w5 ⟨d,1,Vd⟩ (.slice (Ve ⟨g,0,Vd⟩) (xs.length+1) cap))=Z at C n0 ⊢;have q0:Z.cell? ⟨N+1,0,Vd⟩=Ve (.int .i64 0):=by simp[VL,C.out.2.2]
  have q1:Z.cell? ⟨N+1,1,Vd⟩=Ve (.int .i64 0):=by simp[VL,C.out.2.2]
  have q2:Z.cell? ⟨N+1,2,Vd⟩=Ve (.int .i64 0):=by simp[VL,C.out.2.2]
  have q3:Z.cell? ⟨N+1,3,Vd⟩=Ve (.slice Vd 0 0):=by simp[VL,C.out.2.2]
  have q4:Z.cell? ⟨N+1,4,Vd⟩=Ve (.slice Vd 0 0):=by simp[VL,C.out.2.2]
  have q5:Z.cell? ⟨N+1,5,Vd⟩=Ve (.slice Vd 0 0):=by simp[VL,C.out.2.2]
  have q6:Z.cell? ⟨N+1,6,Vd⟩=Ve (.slice Vd 0 0):=by simp[VL,C.out.2.2]
  have fq:∀ o,Z.frozen? ⟨N+1,o,Vd⟩=Vf:=fun o=>by simp[Vs,C.out.2.2]
  have M:aF [N+1] Z (((((((Z.setCell ⟨N+1,0,Vd⟩ (.int .i64 0)).setCell ⟨N+1,1,Vd⟩ (.int .i64 0)).setCell ⟨N+1,2,Vd⟩ (.int .i64 (given+1))).setCell ⟨N+1,3,Vd⟩ (.slice Vd 0 0)).setCell ⟨N+1,4,Vd⟩ (.slice Vd 0 0)).setCell ⟨N+1,5,Vd⟩ (.slice Vd 0 0)).setCell ⟨N+1,6,Vd⟩ (.slice Vd 0 0)) :=
   (((((((aF.refl [N+1] Z).setCell (.inl UV) _ _).setCell (.inl UV) _ _).setCell (.inl UV) _ _).setCell (.inl UV) _ _).setCell (.inl UV) _ _).setCell (.inl UV) _ _).setCell (.inl UV) _ _
  have aj:∀ k∈g :: F,k∈F\/w.heap.size<=k:=by
   intro k J;rcases VA.1 J with rfl|J
   ·rcases O with e|e
    ·exact .inl (f.out.2 k e).1
    ·have:=p.out.2.1.size;exact .inr UU
   ·exact .inl J
  have ao:Hid (sZ w d ts (xs++[({ x.1 with id:=given+1 },x.2)]) (given+1) now F (((((((Z.setCell ⟨N+1,0,Vd⟩ (.int .i64 0)).setCell ⟨N+1,1,Vd⟩ (.int .i64 0)).setCell ⟨N+1,2,Vd⟩ (.int .i64 (given+1))).setCell ⟨N+1,3,Vd⟩ (.slice Vd 0 0)).setCell ⟨N+1,4,Vd⟩ (.slice Vd 0 0)).setCell ⟨N+1,5,Vd⟩ (.slice Vd 0 0)).setCell ⟨N+1,6,Vd⟩ (.slice Vd 0 0))):=by
   have ba:=HN.out;refine⟨g :: F,C.out.1.off M (fun y D=>?_) (fun y D=>?_),aj,?_⟩
   ·simp;rintro rfl;rcases VA.1 D with e|e
    ·rcases O with e2|e2
     ·have:=hF g (f.out.2 g e2).1;omega
     ·omega
    ·have:=hF _ e;omega
   ·simp;intro e;rcases VB.1 D with D|D
    ·have:=(H.out.sp y D).2.2;omega
    ·have:y=({ x.1 with id:=given+1 },x.2):=by simpa using D
     subst this;have:=HX.out.2.2;have e':x.2.1=N+1:=e;omega
   ·refine (p.out.2.1.trans' C.out.2.1 (fun k J=>?_)).trans' M (fun k J=>by simp at J;exact .inr UU);rcases VA.1 J with rfl|J
    ·exact .inl H.out.dF
    ·exact .inl (f.out.2 k (by simpa using J)).1
  clear M aj HG C f p H HX
  go_wp2_with fail
  exact bodyPost_ret (v:=rP 0 (given+1)) (by simp[results,results232,go_sem,rP,q0,q1,q2,q3,q4,q5,q6]) rfl ⟨rfl,ao.out⟩
open aA (aL St ec bJ dG dH)
structure EB(e:aL):Prop where
 u0:1<=e.aH
 u1:e.aH<=9
 sl:e.aK.length<=40
 s0:e.aK≠[]
 so:∀ s∈e.aK,0<=s.2/\s.2<=2000000
theorem EB.small{e:aL}(h:EB e):aA.Small e:=⟨by have:=h.u0;omega,h.u1,by have:=h.sl;omega⟩
theorem EB.book{e:aL}(h:EB e):EB (aA.cS e):=⟨h.u0,h.u1,h.sl,h.s0,h.so⟩
structure DD(w:Vh)(d:U8)(s:St)(xs:U5 (aL × U8 × U8))(F:U5 U8):Prop where
 rd:RD w d s.ts xs s.given s.now F
 es:xs.map (·.1)=s.es
 lt:∀ k∈F,k<w.heap.size
 tl:s.ts.length<=4
 el:s.es.length<=60
 en:∀ e∈s.es,EB e
variable {w w':Vh}{d:U8}{s:St}{xs:U5 (aL × U8 × U8)}{F:U5 U8}
theorem DD.len(h:DD w d s xs F):xs.length=s.es.length:=by rw[<- h.es,WL]
theorem DD.off(h:DD w d s xs F)(k:aF G w w')(y:∀ x∈F,x ∉ G)(p:∀ x∈xs,x.2.1 ∉ G):DD w' d s xs F :=
 ⟨h.rd.off k y p,h.es,fun x f=>zL (h.lt x f) k.size,h.tl,h.el,h.en⟩
theorem DD.later(h:DD w d s xs F)(k:Vj w.heap.size w w'):DD w' d s xs F:=h.off (G:=[]) (aF.aD k) UV UV
theorem DD.de(h:DD w d s xs F):∃ a cap E,mg w d a cap E s.es:=by
 obtain⟨a,cap,E,k⟩:=h.rd.dx;exact⟨a,cap,E,h.es ▸ k.de⟩
theorem DD.small(h:DD w d s xs F):∀ e∈s.es,aA.Small e:=fun e f=>(h.en e f).small
theorem DD.aH(h:DD w d s xs F)(name:U4):
  Vk prog 229 #[.pointer (Ve ⟨d,0,Vd⟩),.string name] w fun e w'=>e=.returned (.int .i64 (bJ name s.ts))/\w'=w:=by
 obtain⟨a,c,G,ht⟩:=h.rd.dt;exact Ar d a c G s.ts name w ht (by have:=h.tl;omega)
theorem DD.asked(h:DD w d s xs F)(name:U4)(u:U9):
  Vk prog 230 #[.pointer (Ve ⟨d,0,Vd⟩),.string name,.int .i64 u] w fun e w'=>e=.returned (.int .i64 (dH s.ts name u))/\w'=w:=by
 obtain⟨a,c,G,ht⟩:=h.rd.dt;exact MQ d a c G s.ts name u w ht (by have:=h.tl;omega)
theorem DD.fits(h:DD w d s xs F)(name:U4){u:U9}{cb:U8}{L:U5 (U9 × U9)}(y:fY w B L)(f:L.length<=100)(C:0<=u)(A:u<=9):
  Vk prog 182 #[.pointer (Ve ⟨d,0,Vd⟩),.string name,.int .i64 u,.slice (Ve ⟨B,0,Vd⟩) L.length cb] w fun e w'=>e=.returned (.bool (dG s.ts s.es name u L))/\Vj w.heap.size w w':=by
 obtain⟨a,c,G,ht⟩:=h.rd.dt;obtain⟨b,q,E,p⟩:=h.de;exact DV d b q E s.es a c G s.ts name u B cb L w p ht y (by have:=h.el;omega) (by have:=h.tl;omega) h.small f C A
theorem DD.cY(h:DD w d s xs F)(name:U4)(fr til:U9):
  Vk prog 236 #[.pointer (Ve ⟨d,0,Vd⟩),.string name,.int .i64 fr,.int .i64 til] w fun e w'=>e=.returned (.int .i64 (aA.lH name s.es fr til))/\Vj w.heap.size w w':=by
 obtain⟨b,q,E,f⟩:=h.de;exact Lw d b q E s.es name fr til w f (by have:=h.el;omega) h.small
theorem DD.find(h:DD w d s xs F)(name:U4)(u long fr til:U9)(p:0<=u)(f:u<=9)(A:0<=long)(y:long<=2000000)(D:0<=fr)(C:fr<=2000000):
  Vk prog 237 #[.pointer (Ve ⟨d,0,Vd⟩),.string name,.int .i64 u,.int .i64 long,.int .i64 fr,.int .i64 til] w fun e w'=>e=.returned (.int .i64 (aA.iY s.ts s.es name u long fr til))/\Vj w.heap.size w w':=by
 obtain⟨a,c,G,ht⟩:=h.rd.dt;obtain⟨b,q,E,I⟩:=h.de;exact Lv d b q E s.es a c G s.ts name u long fr til w I ht (by have:=h.el;omega) (by have:=h.tl;omega) h.small (fun e J=>(h.en e J).so) p f A y D C
theorem DD.place(h:DD w d s xs F)(id:U9):
  Vk prog 233 #[.pointer (Ve ⟨d,0,Vd⟩),.int .i64 id] w fun e w'=>e=.returned (.int .i64 (aA.jo id s.es 0))/\w'=w:=by
 obtain⟨b,q,E,f⟩:=h.de;exact Ml d b q E s.es id w f (by have:=h.el;omega)
theorem DD.waiting(h:DD w d s xs F):
  Vk prog 231 #[.pointer (Ve ⟨d,0,Vd⟩)] w fun e w'=>e=.returned (.int .i64 (aA.eh s.es))/\w'=w:=by
 obtain⟨b,q,E,f⟩:=h.de;exact Nf d b q E s.es w f (by have:=h.el;omega)
theorem DD.oP(h:DD w d s xs F)(id:U9):
  Vk prog 234 #[.pointer (Ve ⟨d,0,Vd⟩),.int .i64 id] w fun e w'=>∃ v,e=.returned v/\w'.ownsRow w.heap.size 58 6 v (iS id xs).length ((iS id xs).flatMap dN)/\Vj w.heap.size w w':=by
 obtain⟨a,c,E,k⟩:=h.rd.dx;exact Nh d a c E xs id w k (by have:=h.el;have:=h.len;omega)
structure ER(w:Vh)(d E cap:U8)(a:U6 Addr)(xs:U5 (aL × U8 × U8)):Prop where
 c:w.cell? ⟨d,1,Vd⟩=Ve (.slice a xs.length cap)
 a:∀ i,i<xs.length->a=Ve ⟨E,0,Vd⟩
 r:∀ (i:U8) (h:i<xs.length),RE w E i xs[i].1 xs[i].2.1 xs[i].2.2
 f:∀ o,0<xs.length->w.frozen? ⟨E,o,Vd⟩=Vf
theorem DD.er(h:DD w d s xs F):∃ a cap E,ER w d E cap a xs:=by
 obtain⟨v,c,p,_⟩:=h.rd.ev;obtain⟨a,cap,g,rfl,N,y,C⟩:=wR p (fun x A=>(h.rd.sp x A).1);refine⟨a,cap,g,c,fun i I=>y (by intro e;simp[e] at I),C,fun o D=>?_⟩;obtain rfl:=y (by intro e;simp[e] at D);rcases p.2 with ⟨f,_⟩|⟨O,S,M,f,_,J,_⟩
 ·cases f
 ·simp only[Yr,Z6,Z7] at f;obtain⟨⟨rfl,_⟩,_⟩:=f;simp[Vs,J]
theorem ER.later{a:U6 Addr}(h:ER w d E cap a xs)(k:Vj w.heap.size w w'):ER w' d E cap a xs :=
 ⟨aN k h.c,h.a,fun i y=>(h.r i y).later k,fun o p=>((aF.aD (F:=[]) k).frozen UV (Vr _ _ (h.r 0 p).c0)).trans (h.f o p)⟩
theorem gC{e size:U8}{l:U5 Vi}(h:w.ownsRow B e size v n l):∃ a cap,v=.slice a n cap:=by
 rcases h.2 with ⟨rfl,rfl⟩|⟨g,cap,_,rfl,_⟩
 ·exact⟨Vd,0,rfl⟩
 ·exact⟨_,cap,rfl⟩
theorem zk{f:Array Oper}{rest:U5 Oper}{o:Oper}{a:Act}{Q:Exit->Act->Vh->Prop}(J:o.guard=Vd)(x y:Operand)(T:o.op=.call { callee:=.builtin .append,args:=#[x,y],argTypes:=#[38,38] }){l:U5 U9}(p:W.ownsRow B 3 1 v l.length (l.map (V4 .i64)))(z:U9){M:Vm}{mk:U8 × U8}(S:a.eval x=v)(O:a.eval y=.slice (Ve ⟨W.heap.size,0,Vd⟩) 1 1)(Y:l.length<=1000000)(hB:B<=W.heap.size)
  (h:∀ v' w',w'.ownsRow B 3 1 v' (l++[z]).length ((l++[z]).map (V4 .i64))->aF v.ownBlock.toList W w'->wpList prog f Q rest (a.put o.dst v') w'):
  wpList prog f Q (o :: rest) a (W.alloc (.cells #[.int .i64 z] M mk)):=by
 obtain⟨N,I,D,C,A⟩:=info_parts pE;refine wpList_append_own _ J x y 38 T B 3 N (.int .i64 0) 1 8 underlying38 I D C A rfl UW v l.length (l.map (V4 .i64)) S (p.alloc _) ⟨W.heap.size,0,Vd⟩ 1 1 [.int .i64 z] O rfl (WM (cs:=#[.int .i64 z]) (cC W _)) U2 U1 UU U0 ?_;intro v' w' X V _;refine h v' w' (by simpa using X) (((aF.refl _ W).alloc _).grown V (fun k U=>.inl (by simp[U])))
theorem lR{b:U8}{cs:Array Vi}{t:Vm}{q:U8 × U8}(h:W.heap[b]?=Ve (.cells cs t q))(v:Vi):(W.setCell ⟨b,i,Vd⟩ v).heap[b]?=Ve (.cells (cs.setIfInBounds i v) t q):=by
 obtain⟨f,p⟩:=Y9.1 h;show (W.heap.modify b _)[b]?=_;rw[Array.getElem?_eq_getElem (by rw[Array.size_modify];exact f),Array.getElem_modify_self,p];rfl
theorem nN{e:U8}{xs:U5 Vi}(h:W.ownsRow B e z v n xs){b:U8}(I:v.ownBlock=Ve b)(o:U8)(x:Vi):(W.setCell ⟨b,o,Vd⟩ x).ownsRow B e z v n (xs.set o x):=by
 obtain⟨f,N⟩:=h;rcases N with ⟨rfl,rfl⟩|⟨g,cap,D,rfl,M,J,y,C,A,p⟩
 ·cases I
 ·have O:g=b:=by simpa[WI] using I
  subst O;refine⟨by rw[WE];exact f,.inr ⟨g,cap,D.setIfInBounds o x,rfl,M,lR J x,y,C,by rw[Array.size_setIfInBounds];exact A,?_⟩⟩;rw[Array.toList_setIfInBounds,List.take_set,p]
theorem Ed:∀ (xs:U5 (aA.aL × U8 × U8))(k:U8)(f:k<xs.length),((xs.flatMap dN).set (k*6+1) (.int .i64 1)).set (k*6+5) (.int .i64 0)=(xs.set k (aA.cS xs[k].1,xs[k].2)).flatMap dN
 |[],k,f=>Vc f UV
 |x :: r,0,_=>by simp[dN,aA.cS]
 |x :: r,k+1,f=>by
  have ih:=Ed r k (by simpa using f);have p:(k+1)*6+1=(dN x).length+(k*6+1):=by rw[wV];omega
  have h:(k+1)*6+5=(dN x).length+(k*6+5):=by rw[wV];omega
  rw[List.flatMap_cons,p,h,Z8,Va UU,WB,Z8,Va UU,WB,ih];rfl
theorem RD.dZ{xs:U5 (aA.aL × U8 × U8)}(h:RD w d ts xs given now F)(T:w.cell? ⟨d,1,Vd⟩=Ve (.slice (Ve ⟨E,0,Vd⟩) xs.length cap))(k:U8)(O:k<xs.length):
  RD ((w.setCell ⟨E,k*6+1,Vd⟩ (.int .i64 1)).setCell ⟨E,k*6+5,Vd⟩ (.int .i64 0)) d ts (xs.set k (aA.cS xs[k].1,xs[k].2)) given now F/\E∈F/\E≠d:=by
 obtain⟨v1,a1,a2,a3⟩:=h.tv;obtain⟨v2,b1,X,V⟩:=h.ev;obtain rfl:v2=.slice (Ve ⟨E,0,Vd⟩) xs.length cap:=WY (b1.symm.trans T);obtain⟨U,C⟩:=V E rfl;have k1:aF [E] w (w.setCell ⟨E,k*6+1,Vd⟩ (.int .i64 1)):=aF.aY ..;have k2:aF [E] (w.setCell ⟨E,k*6+1,Vd⟩ (.int .i64 1)) ((w.setCell ⟨E,k*6+1,Vd⟩ (.int .i64 1)).setCell ⟨E,k*6+5,Vd⟩ (.int .i64 0)):=aF.aY ..;have f:=k1.trans k2;have A:d ∉ [E]:=by simp;exact fun e=>C e.symm
 have Y:=nN X (b:=E) rfl (k*6+1) (.int .i64 1);have N:=nN Y (b:=E) rfl (k*6+5) (.int .i64 0);rw[Ed xs k O] at N
 have J:v1.ownBlock≠Ve E:=by
  intro e;rcases X.2 with ⟨I,_⟩|⟨g,cp,aa,I,_,hh,_⟩
  ·cases I
  ·simp only[Yr,Z6,Z7] at I;obtain⟨⟨rfl,_⟩,_⟩:=I;exact iu a2 hh UW e
 refine⟨⟨⟨v1,f.cell A a1,dO a2 f (fun b M=>by simp;intro e;subst e;exact J M),a3⟩,⟨_,f.cell A T,by rw[WE];exact N,fun b M=>V b M⟩,f.cell A h.c2,f.cell A h.c3,fun o=>(f.frozen A (Vr _ _ h.c2)).trans (h.fz o),h.dF,fun x hx=>?_⟩,U,C⟩;obtain⟨j,S,rfl⟩:=XZ hx;rw[WE] at S;have p:∀ y∈xs,fY ((w.setCell ⟨E,k*6+1,Vd⟩ (.int .i64 1)).setCell ⟨E,k*6+5,Vd⟩ (.int .i64 0)) y.2.1 y.1.aK/\y.2.1 ∉ F/\y.2.1<((w.setCell ⟨E,k*6+1,Vd⟩ (.int .i64 1)).setCell ⟨E,k*6+5,Vd⟩ (.int .i64 0)).heap.size:=fun y D=>⟨(h.sp y D).1.off f (by simp;intro e;exact (h.sp y D).2.1 (e ▸ U)),(h.sp y D).2.1,Wk (h.sp y D).2.2 f.size⟩
 rw[List.getElem_set]
 split
 ·exact p xs[k] (zg O)
 ·exact p xs[j] (zg S)
theorem DD.dZ{s:aA.St}{xs:U5 (aA.aL × U8 × U8)}(h:DD w d s xs F){a:U6 Addr}(A:ER w d E cap a xs){k:U8}(p:k<xs.length){es':U5 aA.aL}(y:s.es.set k (aA.cS xs[k].1)=es'):
  DD ((w.setCell ⟨E,k*6+1,Vd⟩ (.int .i64 1)).setCell ⟨E,k*6+5,Vd⟩ (.int .i64 0)) d { s with es:=es' } (xs.set k (aA.cS xs[k].1,xs[k].2)) F/\E∈F/\E≠d:=by
 obtain rfl:=A.a k p;obtain⟨D,C⟩:=h.rd.dZ A.c k p;refine⟨⟨D,?_,fun x f=>zL (h.lt x f) (Vq (aF.aY E w _ _).size (aF.aY E _ _ _).size),h.tl,?_,?_⟩,C⟩
 ·show _=es';rw[List.map_set,h.es,y]
 ·show es'.length<=60;rw[<- y,WE];exact h.el
 ·intro e f;rw[<- y] at f;rcases List.mem_or_eq_of_mem_set f with f|rfl
  ·exact h.en e f
  ·exact (h.en _ (h.es ▸ Wm.2 ⟨_,List.getElem_mem p,rfl⟩)).book
def nG(x:aA.aL × U8 × U8):Obj:=.cells #[.int .i64 x.1.id,.int .i64 x.1.kind,.string x.1.aT,.int .i64 x.1.aH,.slice (Ve ⟨x.2.1,0,Vd⟩) x.1.aK.length x.2.2,.int .i64 x.1.bY] 58
def Li(ys xs:U5 (aA.aL × U8 × U8)):Prop:=∀ x∈ys,∃ z∈xs,x.2.1=z.2.1
theorem Ct(ts:U5 (U4 × U9)):∀ (r d:U5 aA.aL),(aA.dQ ts d r).1.length=d.length+r.length/\(aA.dQ ts d r).2.length<=r.length
 |[],d=>by simp[aA.dQ]
 |e :: r,d=>by
  have a:=Ct ts r (d++[aA.cS e]);have b:=Ct ts r (d++[e]);rw[aA.dQ];simp only[V5,V6,List.length_nil] at a b ⊢
  split
  ·simp only[V6];omega
  ·omega
theorem MK{s:aA.St}{xs:U5 (aA.aL × U8 × U8)}(h:DD w d s xs F):
  Vk prog 118 #[.pointer (Ve ⟨d,0,Vd⟩)] w fun e w'=>∃ v,e=.returned v/\w'.ownsRow w.heap.size 3 1 v (aA.ey s.ts s.es).2.length ((aA.ey s.ts s.es).2.map (V4 .i64))/\(∃ xs',DD w' d { s with es:=(aA.ey s.ts s.es).1 } xs' F/\Li xs' xs)/\aF F w w':=by
 obtain⟨i0,aq,an,al,ak⟩:=info_parts pE;have H:=aC h;have au:=h.el;clear h
 go_in
 go_wp2_with fail
 go_loopw [3,4,5,6] (fun v i _ _ wx=>∃ k:U8,k<=s.es.length/\i=.int .i64 k/\∃ (p:U5 aA.aL) (A:U5 U9) (ys:U5 (aA.aL × U8 × U8)),p.length=k/\(∀ y∈ys,∃ z∈xs,y.2.1=z.2.1)/\DD wx d { s with es:=p++s.es.drop k } ys F/\wx.ownsRow w.heap.size 3 1 v A.length (A.map (V4 .i64))/\A.length<=k/\aA.ey s.ts s.es=((aA.dQ s.ts p (s.es.drop k)).1,A++(aA.dQ s.ts p (s.es.drop k)).2)/\aF F w wx) (fun _ i _ _ _=>s.es.length-(intOf i).toNat)
 case atStart=>exact⟨0,Wh _,rfl,[],[],xs,rfl,fun y V=>⟨y,V,rfl⟩,H.out,WK _ _ _ _,Wh _,by simp[aA.ey],aF.refl _ _⟩
 case round =>
  obtain⟨k,hk,rfl,p,A,ys,ab,N,hd,T,ar,ac,Y⟩:=hrel;obtain⟨a,cap,E,hr⟩:=hd.er;have cc:=hr.c;have ag:ys.length=s.es.length:=by have:=hd.len;simp only[V5,List.length_drop] at this;omega
  rw[ag] at cc;have I:=aC (zA hd (zA hr (zA T (zA ac Y))));have ao:=Y.size
  by_cases aj:k<s.es.length
  ·have C:k<ys.length:=UU
   obtain rfl:=hr.a k C;have r0:=hr.r k C;have c0:=r0.c0;have c1:=r0.c1;have c2:=r0.c2;have c3:=r0.c3;have c4:=r0.c4;have c5:=r0.c5;have hi:(k:U9)<(s.es.length:U9):=UU
   have aa:=WQ aj
   have ad:ys[k].1=s.es[k]:=by
    have e1:(ys.map (·.1))[k]'(by simpa using C)=ys[k].1:=List.getElem_map ..
    have e2:(ys.map (·.1))[k]?=Ve s.es[k]:=by rw[hd.es];show (p++s.es.drop k)[k]?=_;rw[Wz UU,ab,Zs,aa];rfl
    rw[Xb (by simpa using C),Z6] at e2;exact e1.symm.trans e2
   have af:=hd.en s.es[k] (by show _∈p++s.es.drop k;rw[aa];exact YC _ (Ye ..));have M:=aC (zA ad (zA aa af));have fE:=fun o=>hr.f o UU
   clear hd hr T ac Y r0 ad aa af
   have U:∀ (e:aA.aL) (g2:U5 U9),aA.dQ s.ts p (s.es[k] :: s.es.drop (k+1))=((aA.dQ s.ts (p++[e]) (s.es.drop (k+1))).1,g2++(aA.dQ s.ts (p++[e]) (s.es.drop (k+1))).2)->aA.ey s.ts s.es=((aA.dQ s.ts (p++[e]) (s.es.drop (k+1))).1,(A++g2)++(aA.dQ s.ts (p++[e]) (s.es.drop (k+1))).2):=by
    intro e g2 h1;have h2:=I.out.2.2.2.1;rw[M.out.2.1,h1] at h2;rw[h2];simp
   have NX:=aC U;clear U
   have S:aA.dQ s.ts p (s.es[k] :: s.es.drop (k+1))=aA.dQ s.ts (p++[s.es[k]]) (s.es.drop (k+1))->∀ wx,Vj wr.heap.size wr wx->∃ J:U8,J<=s.es.length/\(V4 .i64 ((k:U9)+1))=.int .i64 J/\∃ (p:U5 aA.aL) (A:U5 U9) (ys:U5 (aA.aL × U8 × U8)),p.length=J/\(∀ y∈ys,∃ z∈xs,y.2.1=z.2.1)/\DD wx d { s with es:=p++s.es.drop J } ys F/\wx.ownsRow w.heap.size 3 1 u3 A.length (A.map (V4 .i64))/\A.length<=J/\aA.ey s.ts s.es=((aA.dQ s.ts p (s.es.drop J)).1,A++(aA.dQ s.ts p (s.es.drop J)).2)/\aF F w wx:=by
    intro h1 wx hb;refine⟨k+1,by omega,rfl,p++[s.es[k]],A,ys,by simp[ab],N,?_,eu I.out.2.2.1 hb,by omega,by have:=NX.out s.es[k] [] (by rw[h1];simp);simpa using this,I.out.2.2.2.2.trans (aF.aD hb)⟩;have:=I.out.1.later hb;rw[M.out.2.1] at this
    simpa using this
   have ST:=aC S;clear S
   by_cases O:s.es[k].kind=3
   ·have hq:(ys[k].1.kind != 3)=Vf:=by rw[M.out.1];simp[O]
    have hX:Vj wr.heap.size wr (wr.alloc (nG ys[k])):=(zr _ _).alloc (zq _) _;have hE:(wr.alloc (nG ys[k])).heap[wr.heap.size]?=Ve (nG ys[k]):=cC _ _;have RS:=aC (I.out.2.1.r k C).sl;have K3:=aC O;clear O
    go_upto_region 7 with fail
    change Za _ _ _ _ (wr.alloc (nG ys[k]));have HX:=aC (zA hX hE);have f0:=rQ hE;have f2:=rR hE;have f3:=rS hE;have f4:=rT hE;have cX:=aN hX cc;have x1:=aN hX c1;have x5:=aN hX c5;clear hX hE c0 c2 c3 c4 c5 cc;generalize wr.alloc (nG ys[k])=X at *;have DX:=aC (I.out.1.later HX.out.1);have FT:=aC (DX.out.fits (u:=ys[k].1.aH) (cb:=ys[k].2.2) ys[k].1.aT (RS.out.later HX.out.1) (by rw[M.out.1];have:=M.out.2.2.sl;omega) (by rw[M.out.1];have:=M.out.2.2.u0;omega) (by rw[M.out.1];exact M.out.2.2.u1))
    go_wp2_with fail
    refine FT.out.mono ?_;rintro e w4 ⟨rfl,D⟩;have HB:=aC D;have B4:=aC (bA HX.out.1 D (zq _));have e4:Hid (s.ts=s.ts/\p++s.es.drop k=p++s.es[k] :: s.es.drop (k+1)):=⟨rfl,by rw[M.out.2.1]⟩
    cases hf:aA.dG s.ts (p++s.es.drop k) ys[k].1.aT ys[k].1.aH ys[k].1.aK
    ·have hg:Hid (aA.dQ s.ts p (s.es[k] :: s.es.drop (k+1))=aA.dQ s.ts (p++[s.es[k]]) (s.es.drop (k+1))):=by
      show _=_;rw[aA.dQ,Va];rintro ⟨_,h2⟩;rw[M.out.1,e4.out.2,h2] at hf
      cases hf
     clear hf D
     go_wp2
     go_roundw
     case rel=>exact ST.out hg.out _ B4.out
     case measure=>simp[intOf];omega
    ·have hg:Hid (aA.dQ s.ts p (s.es[k] :: s.es.drop (k+1))=((aA.dQ s.ts (p++[aA.cS s.es[k]]) (s.es.drop (k+1))).1,[s.es[k].id]++(aA.dQ s.ts (p++[aA.cS s.es[k]]) (s.es.drop (k+1))).2)):=by
      show _=_;rw[aA.dQ,Vb ⟨K3.out,by rw[M.out.1,e4.out.2] at hf;exact hf⟩];rfl
     have f0:=aN D f0;have cX:=aN D cX;have x1:=aN D x1;have x5:=aN D x5;have hN:wr.heap.size<w4.heap.size:=Vr _ _ f0;have R4:=aC (I.out.2.1.later B4.out);have gE:=fun o=>R4.out.f o UU
     have av:E<wr.heap.size:=Vr _ _ c1;have ax:E≠wr.heap.size:=UU
     clear hf D fE
     have bk:=(I.out.1.later B4.out).dZ R4.out C (es':=(p++[aA.cS s.es[k]])++s.es.drop (k+1)) (by
      show (p++s.es.drop k).set k _=_
      rw[e4.out.2,M.out.1,Z8,Va UU,ab,Zs,VZ];rfl)
     have BK:=aC bk;clear bk;have aw:=BK.out.2.2;have kE:aF F w4 ((w4.setCell ⟨E,k*6+1,Vd⟩ (.int .i64 1)).setCell ⟨E,k*6+5,Vd⟩ (.int .i64 0)):=((aF.refl F w4).setCell (.inl BK.out.2.1) _ _).setCell (.inl BK.out.2.1) _ _;have g0:=(zS _ ⟨E,k*6+5,Vd⟩ ⟨wr.heap.size,0,Vd⟩ (.int .i64 0) UV).trans ((zS w4 ⟨E,k*6+1,Vd⟩ ⟨wr.heap.size,0,Vd⟩ (.int .i64 1) UV).trans f0);have oz:=dO (eu I.out.2.2.1 B4.out) kE (fun b hb hF=>by have:=H.out.lt b hF;have:=jE I.out.2.2.1 hb;omega);have fz:=(I.out.2.2.2.2.trans (aF.aD B4.out)).trans kE;have HZ:=aC (zA BK.out.1 (zA oz fz));have hZ:=fz.size;clear kE oz fz BK
     go_upto_region 11 with fail
     generalize (VH (VH w4 _ _) _ _)=Z at *
     go_wp2_with (first|(at_builtin;refine zk rfl _ _ rfl HZ.out.2.1 ys[k].1.id rfl rfl UU hZ ?_;intro v' w' ai ae))
     go_roundw
     case rel =>
      have h1:∀ b,u3.ownBlock=Ve b->w.heap.size<=b:=fun b hb=>jE I.out.2.2.1 hb
      refine⟨k+1,by omega,by go_num,p++[aA.cS s.es[k]],A++[ys[k].1.id],_,by simp[ab],fun y V=>?_,HZ.out.1.off ae (fun x hx e=>?_) (fun y V e=>?_),ai,by simp;omega,by rw[M.out.1];exact NX.out _ _ hg.out,HZ.out.2.2.trans' ae (fun x hx=>.inr (h1 x (by simpa using hx)))⟩
      ·rcases List.mem_or_eq_of_mem_set V with V|rfl
       ·exact N y V
       ·exact N ys[k] (zg C)
      ·have:=h1 x (by simpa using e);have:=H.out.lt x hx;omega
      ·have:=h1 y.2.1 (by simpa using e)
       have:∃ z∈xs,y.2.1=z.2.1:=by
        rcases List.mem_or_eq_of_mem_set V with V|rfl
        ·exact N y V
        ·exact N ys[k] (zg C)
       obtain⟨z,hz,e⟩:=this;have:=(H.out.rd.sp z hz).2.2;omega
     case measure=>simp[intOf];omega
   ·have hq:(ys[k].1.kind != 3)=Vg:=by rw[M.out.1];simp[O]
    have hg:Hid (aA.dQ s.ts p (s.es[k] :: s.es.drop (k+1))=aA.dQ s.ts (p++[s.es[k]]) (s.es.drop (k+1))):=by
     show _=_;rw[aA.dQ,Va (fun h=>O h.1)]
    clear O
    go_wp2
    go_roundw
    case rel=>exact ST.out hg.out _ ((zr _ _).alloc (zq _) _)
    case measure=>simp[intOf];omega
  ·have hi:¬ (k:U9)<(s.es.length:U9):=UU
   have e:s.es.drop k=[]:=WS UU
   have HG:Hid (aA.ey s.ts s.es=(p,A)):=by
    have:=I.out.2.2.2.1;rw[e] at this;exact this.trans (by simp[aA.dQ])
   have HF:Hid (DD wr d { s with es:=p } ys F):=by
    have:=I.out.1;rw[e,X5] at this;exact this
   clear hd hr T ac Y
   go_wp2
   go_ret;rw[HG.out];exact⟨u3,rfl,I.out.2.2.1,⟨ys,HF.out,N⟩,I.out.2.2.2.2⟩
open aA (aL St bO aU)
structure pj(w:Vh)(v1 v2 v4:Vi)(p:bO):Prop where
 en:∃ l,EV w v1 l/\l.map (·.1)=p.entries
 da:NV w v2 p.days
 ed:NV w v4 p.ended
def dK(w:Vh)(d:U8)(F:U5 U8)(xs:U5 (aL × U8 × U8))(q:St × bO)(e:Ending)(w':Vh):Prop :=
 ∃ (v1 v2 f p:Vi) (xs':U5 (aL × U8 × U8)) (F' G:U5 U8),e=.returned (bC q.2.err 0 q.2.n v1 v2 f p)/\(∀ h,(∀ b∈G,h.heap[b]?=w'.heap[b]?)->pj h v1 v2 p q.2) /\
  w'.ownsRow w.heap.size 3 1 f q.2.granted.length (q.2.granted.map (V4 .i64))/\DD w' d q.1 xs' F'/\(∀ k∈F',k∈F\/w.heap.size<=k)/\aF F w w' /\
  (∀ b∈G,w.heap.size<=b/\b<w'.heap.size/\b ∉ F'/\f.ownBlock≠Ve b)/\(∀ b,f.ownBlock=Ve b->b ∉ F'/\∀ x∈xs',x.2.1≠b)/\∀ x∈xs',(∃ y∈xs,x.2.1=y.2.1)\/w.heap.size<=x.2.1
abbrev aR:Vi:=.slice Vd 0 0
theorem NV.nil(w:Vh):NV w aR []:=⟨⟨_,_,rfl⟩,fun k f=>by simp at f⟩
theorem EV.nil(w:Vh):EV w aR []:=⟨⟨_,_,rfl⟩,fun k f=>by simp at f,by simp⟩
theorem pj.nil(w:Vh){e a n:U9}{g:U5 U9}:pj w aR aR aR ⟨e,a,n,[],[],g,[]⟩:=⟨⟨[],EV.nil w,rfl⟩,NV.nil w,NV.nil w⟩
variable {w Z:Vh}{d:U8}{s s':St}{xs:U5 (aL × U8 × U8)}{F F':U5 U8}
theorem DD.plain(h:DD Z d s' xs' F')(D:∀ k∈F',k∈F\/w.heap.size<=k)(k:aF F w Z)(A:∀ x∈xs',(∃ y∈xs,x.2.1=y.2.1)\/w.heap.size<=x.2.1)(f n:U9):dK w d F xs (s',⟨f,0,n,[],[],[],[]⟩) (.returned (bC f 0 n aR aR aR aR)) Z :=
 ⟨aR,aR,aR,aR,xs',F',[],rfl,fun p _=>pj.nil p,WK _ _ _ _,h,D,k,by simp,fun b C=>by simp[WI] at C,A⟩
theorem DD.mu(h:DD Z d s' xs' F')(M:∀ k∈F',k∈F\/w.heap.size<=k)(k:aF F w Z)(J:w.heap.size<=Q)(C:Q ∉ F')(A:∀ x∈xs',x.2.1≠Q)(I:∀ x∈xs',(∃ y∈xs,x.2.1=y.2.1)\/w.heap.size<=x.2.1)(D n:U9)(a b c e f g i:Vi):dK w d F xs (s',⟨D,0,n,[],[],[],[]⟩) (.returned (bC D 0 n aR aR aR aR)) (cK Z Q a b c e f g i) :=
 (h.off (lF Z Q a b c e f g i) (fun x p e=>C (by simp at e;exact e ▸ p)) (fun x p e=>A x p (by simpa using e))).plain M (k.trans' (lF ..) (fun x p=>by simp at p;exact .inr (p ▸ J))) I D n
theorem DD.said(h:DD w d s xs F)(k:Vj w.heap.size w Z)(A:w.heap.size<=Q)(y n:U9)(a b c e f g i:Vi):dK w d F xs (s,⟨y,0,n,[],[],[],[]⟩) (.returned (bC y 0 n aR aR aR aR)) (cK Z Q a b c e f g i) :=
 (h.later k).mu (fun _ p=>.inl p) (aF.aD k) A (fun p=>by have:=h.lt Q p;omega) (fun x p e=>by have:=(h.rd.sp x p).2.2;omega) (fun x p=>.inl ⟨x,p,rfl⟩) y n a b c e f g i
theorem DD.fresh(h:DD w d s xs F){es':U5 aL}(I:Z.ownsRow B 58 6 v ys.length (ys.flatMap dN))(U:w.heap.size<=B)(k:Vj w.heap.size w Z)(N:∀ y∈ys,y∈xs)(X:ys.length<=xs.length)(J:ys.map (·.1)=es'):
  DD (Z.setCell ⟨d,1,Vd⟩ v) d { s with es:=es' } ys (v.ownBlock.toList++F):=by
 have A:=h.later k;have f:∀ b,v.ownBlock=Ve b->w.heap.size<=b/\b<Z.heap.size:=fun b f=>⟨Vq U (jE I f),eV I f⟩
 have Y:d<w.heap.size:=h.lt d h.rd.dF;have C:aF [d] Z (Z.setCell ⟨d,1,Vd⟩ v):=aF.aY ..;obtain⟨v1,a1,a2,a3⟩:=A.rd.tv;obtain⟨v2,V,b2,b3⟩:=A.rd.ev
 refine⟨⟨⟨v1,(zS _ _ _ _ UV).trans a1,dO a2 C (fun b f e=>(a3 b f).2 (by simpa using e)),fun b f=>⟨YC _ (a3 b f).1,(a3 b f).2⟩⟩,⟨v,World.cell?_setCell_same _ _ _ V,uV (dO I C (fun b D e=>by have:=(f b D).1;simp at e;omega)) (zN _),fun b D=>⟨by simp[D],fun e=>by have:=(f b D).1;omega⟩⟩,
  (zS _ _ _ _ UV).trans A.rd.c2,(zS _ _ _ _ UV).trans A.rd.c3,fun o=>(zF ..).trans (A.rd.fz o),YC _ h.rd.dF,fun x p=>?_⟩,J,fun x p=>?_,h.tl,?_,fun e p=>?_⟩
 ·obtain⟨S,M,O⟩:=h.rd.sp x (N x p);refine⟨((S.later k).off C (by simp;rintro rfl;exact M h.rd.dF)),fun e=>?_,Wk (zL O k.size) C.size⟩;rcases VB.1 e with e|e
  ·have:=(f _ (by simpa using e)).1;omega
  ·exact M e
 ·refine Wk ?_ C.size;rcases VB.1 p with e|e
  ·exact (f x (by simpa using e)).2
  ·exact A.lt x e
 ·show es'.length<=60;have:=h.len;have:=h.el;rw[<- J,WL];omega
 ·rw[<- J] at p;obtain⟨y,T,rfl⟩:=Wm.1 p;exact h.en _ (h.es ▸ Wm.2 ⟨y,N y T,rfl⟩)
theorem aF.Q9(h:aF [] w w'):Vj w.heap.size w w':=⟨h.os,h.tape,h.output,h.size,fun k f=>h.block k f UV⟩
theorem Dq{f:Array Oper}{rest:U5 Oper}{o:Oper}{a:Act}{Q:Exit->Act->Vh->Prop}(N:o.guard=Vd)(x y:Operand)(X:o.op=.call { callee:=.builtin .append,args:=#[x,y],argTypes:=#[56,56] }){l:U5 (U9 × U9)}(p:W.ownsRow B 60 2 v l.length (l.flatMap iF))(C A:U9){S:Vm}{mk:U8 × U8}(V:a.eval x=v)(U:a.eval y=.slice (Ve ⟨W.heap.size,0,Vd⟩) 1 1)(hl:l.length<=1000000)(hB:B<=W.heap.size)
  (h:∀ g cap w',w'.ownsRow B 60 2 (.slice (Ve ⟨g,0,Vd⟩) (l.length+1) cap) (l.length+1) ((l++[(C,A)]).flatMap iF)->aF v.ownBlock.toList W w'->wpList prog f Q rest (a.put o.dst (.slice (Ve ⟨g,0,Vd⟩) (l.length+1) cap)) w'):
  wpList prog f Q (o :: rest) a (W.alloc (.cells #[.int .i64 C,.int .i64 A] S mk)):=by
 obtain⟨T,M,J,I,D⟩:=info_parts vj;refine wpList_append_own _ N x y 56 X B 60 T _ 2 16 underlying56 M J I D rfl UW v l.length (l.flatMap iF) V (p.alloc _) ⟨W.heap.size,0,Vd⟩ 1 1 [.int .i64 C,.int .i64 A] U rfl (WM (cs:=#[.int .i64 C,.int .i64 A]) (cC W _)) U2 U1 UU U0 ?_;intro v' w' O h2 _;rcases O.2 with ⟨_,h0⟩|⟨g,cap,_,rfl,_⟩
 ·omega
 ·refine h g cap w' (by rw[List.flatMap_append];exact O) (((aF.refl _ W).alloc _).grown h2 (fun k Y=>.inl (by simp[Y])))
theorem RD.trim(h:RD w d ts xs given now F):RD w d ts xs given now (F.filter fun k=>decide (k<w.heap.size)):=by
 obtain⟨v1,a1,a2,a3⟩:=h.tv;obtain⟨v2,C,A,y⟩:=h.ev;refine⟨⟨v1,a1,a2,fun k f=>⟨XF.2 ⟨(a3 k f).1,by simpa using eV a2 f⟩,(a3 k f).2⟩⟩,⟨v2,C,A,fun k f=>⟨XF.2 ⟨(y k f).1,by simpa using eV A f⟩,(y k f).2⟩⟩,h.c2,h.c3,h.fz,XF.2 ⟨h.dF,?_⟩,fun x p=>⟨(h.sp x p).1,fun e=>(h.sp x p).2.1 (XF.1 e).1,(h.sp x p).2.2⟩⟩;have:=Vr _ _ h.c2
 simpa using this
theorem DD.kQ{Y:Vh}(h:DD Y d s xs F){x:aL × U8 × U8}(f:EB x.1)(I:s.es.length<60)(k:sZ Y d s.ts (xs++[({ x.1 with id:=s.given+1 },x.2)]) (s.given+1) s.now F Z):
  ∃ F',DD Z d (aA.jz s x.1).1 (xs++[({ x.1 with id:=s.given+1 },x.2)]) F'/\(∀ k∈F',k∈F\/Y.heap.size<=k)/\aF F Y Z:=by
 obtain⟨F',D,C,A⟩:=k;refine⟨_,⟨D.trim,?_,fun k y=>by simpa using (XF.1 y).2,h.tl,?_,fun e p=>?_⟩,fun k y=>C k (XF.1 y).1,A⟩
 ·simp[aA.jz,h.es]
 ·simp[aA.jz];omega
 ·simp only[aA.jz,VB,YD] at p;rcases p with p|rfl
  ·exact h.en e p
  ·exact⟨f.u0,f.u1,f.sl,f.s0,f.so⟩
structure KP(w wx:Vh)(L:U5 (U8 × Obj)):Prop where
 bl:Vj w.heap.size w wx
 kb:∀ q∈L,wx.heap[q.1]?=Ve q.2
 lo:∀ q∈L,w.heap.size<=q.1
 nd:(L.map (·.1)).Nodup
variable {w wx wy:Vh}{L L':U5 (U8 × Obj)}{b:U8}{o:Obj}{cs:Array Vi}{t:Vm}{m:U8 × U8}
theorem KP.nil(w:Vh):KP w w []:=⟨zr _ _,by simp,by simp,by simp⟩
theorem KP.lt(h:KP w wx L){q:U8 × Obj}(f:q∈L):q.1<wx.heap.size:=(Y9.1 (h.kb q f)).1
theorem KP.later(h:KP w wx L)(k:Vj wx.heap.size wx wy):KP w wy L:=⟨bA h.bl k (zq _),fun q f=>(k.block _ (h.lt f)).trans (h.kb q f),h.lo,h.nd⟩
theorem KP.alloc(h:KP w wx L)(o:Obj):KP w (wx.alloc o) ((wx.heap.size,o) :: L):=by
 have k:=h.later ((zr _ _).alloc (zq _) o);refine⟨k.bl,fun q f=>?_,fun q f=>?_,?_⟩
 ·rcases VA.1 f with rfl|f
  ·exact cC _ _
  ·exact k.kb q f
 ·rcases VA.1 f with rfl|f
  ·exact h.bl.size
  ·exact h.lo q f
 ·rw[XS,VE];refine⟨fun e=>?_,h.nd⟩;obtain⟨q,f,e⟩:=Wm.1 e;have:=h.lt f;omega
theorem KP.put(h:KP w wx ((b,.cells cs t m) :: L))(i:U8)(v:Vi):KP w (wx.setCell ⟨b,i,Vd⟩ v) ((b,.cells (cs.setIfInBounds i v) t m) :: L):=by
 have k:aF [b] wx (wx.setCell ⟨b,i,Vd⟩ v):=aF.aY ..;have y:=h.lo _ (Ye ..);have p:=h.nd;rw[XS,VE] at p;refine⟨h.bl.setCell y v,fun q f=>?_,fun q f=>?_,h.nd⟩
 ·rcases VA.1 f with rfl|f
  ·exact lR (h.kb _ (Ye ..)) v
  ·refine (k.block _ (h.lt (WV _ f)) (fun e=>p.1 (Wm.2 ⟨q,f,?_⟩))).trans (h.kb q (WV _ f))
   simpa using e
 ·rcases VA.1 f with rfl|f
  ·exact y
  ·exact h.lo q (WV _ f)
theorem KP.perm(h:KP w wx L)(p:L.Perm L'):KP w wx L':=⟨h.bl,fun q f=>h.kb q (p.mem_iff.2 f),fun q f=>h.lo q (p.mem_iff.2 f),(p.map _).nodup_iff.1 h.nd⟩
theorem KP.less(h:KP w wx L)(p:L'.Sublist L):KP w wx L':=⟨h.bl,fun q f=>h.kb q (p.subset f),fun q f=>h.lo q (p.subset f),h.nd.sublist (p.map _)⟩
theorem KP.swap{q r:U8 × Obj}(h:KP w wx (q :: r :: L)):KP w wx (r :: q :: L):=h.perm (List.Perm.swap ..)
theorem KP.cell(h:KP w wx L)(p:(b,Obj.cells cs t m)∈L)(i:U8)(f:cs[i]?=Ve v):wx.cell? ⟨b,i,Vd⟩=Ve v:=by
 have:=h.kb _ p;simp only at this;simp[VL,this,f]
theorem KP.frozen(h:KP w wx L)(f:(b,Obj.cells cs t)∈L)(i:U8):wx.frozen? ⟨b,i,Vd⟩=Vf:=by
 have:=h.kb _ f;simp only at this;simp[Vs,this]
theorem KP.pe(h:KP w wx ((b,.cells #[a0,a1,a2,a3,a4,a5] t m) :: L))(v0 v1 v2 y p f:Vi):KP w ((((((wx.setCell ⟨b,0,Vd⟩ v0).setCell ⟨b,1,Vd⟩ v1).setCell ⟨b,2,Vd⟩ v2).setCell ⟨b,3,Vd⟩ y).setCell ⟨b,4,Vd⟩ p).setCell ⟨b,5,Vd⟩ f) ((b,.cells #[v0,v1,v2,y,p,f] t m) :: L):=by
 have:=(((((h.put 0 v0).put 1 v1).put 2 v2).put 3 y).put 4 p).put 5 f
 simpa using this
theorem KP.hc(h:KP w wx ((b,.cells cs t m) :: L))(i:U8)(f:cs[i]?=Ve v):wx.cell? ⟨b,i,Vd⟩=Ve v:=h.cell (Ye ..) i f
theorem KP.hf(h:KP w wx ((b,.cells cs t) :: L))(i:U8):wx.frozen? ⟨b,i,Vd⟩=Vf:=h.frozen (Ye ..) i
theorem KP.og(h:KP w wx ((b,.cells #[a0,a1,a2,a3,a4,a5] t m) :: L)):wx.cell? ⟨b,0,Vd⟩=Ve a0/\wx.cell? ⟨b,1,Vd⟩=Ve a1/\wx.cell? ⟨b,2,Vd⟩=Ve a2/\wx.cell? ⟨b,3,Vd⟩=Ve a3/\wx.cell? ⟨b,4,Vd⟩=Ve a4/\wx.cell? ⟨b,5,Vd⟩=Ve a5 :=
 ⟨h.hc 0 rfl,h.hc 1 rfl,h.hc 2 rfl,h.hc 3 rfl,h.hc 4 rfl,h.hc 5 rfl⟩
theorem zB{w4:Vh}(h:Vj (W.alloc o).drew.heap.size (W.alloc o).drew w4):w4.heap[W.heap.size]?=Ve o:=(h.block _ UV).trans (cC _ _)
open aA (aL)
theorem NV.at_{m:U9}(h:NV w u (Yu n m)){k:U8}(f:k<n):∃ g cap,u=.slice (Ve ⟨g,0,Vd⟩) n cap/\w.cell? ⟨g,k,Vd⟩=Ve (.int .i64 m):=by
 obtain⟨g,cap,e,a⟩:=h.cell k (by simpa using f);rw[List.getElem_replicate] at a;rw[List.length_replicate] at e;exact⟨g,cap,e,a⟩
theorem SV.at_{m:U9}(h:SV w u (Yu n (m,m))){k:U8}(f:k<n):∃ g cap,u=.slice (Ve ⟨g,0,Vd⟩) n cap/\w.cell? ⟨g,k*2,Vd⟩=Ve (.int .i64 m)/\w.cell? ⟨g,k*2+1,Vd⟩=Ve (.int .i64 m):=by
 obtain⟨g,cap,e,a,b⟩:=h.cell k (by simpa using f);rw[List.getElem_replicate] at a b;rw[List.length_replicate] at e;exact⟨g,cap,e,a,b⟩
def wo(m:U9):aL:={ id:=m,kind:=0,aT:=⟨#[]⟩,aH:=m,aK:=[],bY:=0 }
theorem EV.at_{m:U9}(h:EV w u (Yu n (wo m,.slice Vd 0 0))){k:U8}(f:k<n):∃ g cap,u=.slice (Ve ⟨g,0,Vd⟩) n cap/\w.cell? ⟨g,k*6,Vd⟩=Ve (.int .i64 m)/\w.cell? ⟨g,k*6+1,Vd⟩=Ve (.int .i64 0)/\w.cell? ⟨g,k*6+2,Vd⟩=Ve (.string ⟨#[]⟩)/\w.cell? ⟨g,k*6+3,Vd⟩=Ve (.int .i64 m)/\w.cell? ⟨g,k*6+4,Vd⟩=Ve (.slice Vd 0 0)/\w.cell? ⟨g,k*6+5,Vd⟩=Ve (.int .i64 0):=by
 obtain⟨g,cap,e,a⟩:=h.cell k (by simpa using f);rw[List.getElem_replicate] at a;rw[List.length_replicate] at e;exact⟨g,cap,e,a⟩
theorem xc(n:U8)(m:U9)(u:Vi)(w:Vh)(p:NV w u (Yu n m))(I:n<=1000000):
  Vk prog 56 #[u,.int .i64 m] w fun e w'=>e=.returned (.bool Vg)/\Vj w.heap.size w w':=by
 obtain⟨a,M,rfl⟩:=p.form;have C:=aC p;clear p;rw[List.length_replicate];rw[List.length_replicate] at C
 go_in
 go_wp2_with fail
 go_loopw [5] (fun v wr=>∃ k:U8,k<=n/\v=.int .i64 k/\Vj w.heap.size w wr) (fun v _=>n-(intOf v).toNat)
 case atStart=>exact⟨0,Wh _,rfl,Below.refl _ _⟩
 case round =>
  obtain⟨k,J,rfl,h⟩:=hrel;have A:=aC h;clear h
  by_cases y:k<n
  ·have f:(k:U9)<(n:U9):=UU
   obtain⟨g,cap,e,a0⟩:=(C.out.later A.out).at_ y;simp only[Yr,true_and] at e;obtain⟨rfl,rfl⟩:=e;have D:(m != m)=Vf:=UV
   go_wp2
   go_roundw
   case rel=>exact⟨k+1,by omega,by go_num,A.out⟩
   case measure=>simp[intOf];omega
  ·have f:¬ (k:U9)<(n:U9):=UU
   go_wp2
   go_ret;exact⟨rfl,A.out⟩
theorem xg(n:U8)(m:U9)(u:Vi)(w:Vh)(p:SV w u (Yu n (m,m)))(I:n<=1000000):
  Vk prog 57 #[u,.int .i64 m] w fun e w'=>e=.returned (.bool Vg)/\Vj w.heap.size w w':=by
 obtain⟨a,M,rfl⟩:=p.form;have C:=aC p;clear p;rw[List.length_replicate];rw[List.length_replicate] at C
 go_in
 go_wp2_with fail
 go_loopw [5] (fun v wr=>∃ k:U8,k<=n/\v=.int .i64 k/\Vj w.heap.size w wr) (fun v _=>n-(intOf v).toNat)
 case atStart=>exact⟨0,Wh _,rfl,Below.refl _ _⟩
 case round =>
  obtain⟨k,J,rfl,h⟩:=hrel;have A:=aC h;clear h
  by_cases y:k<n
  ·have f:(k:U9)<(n:U9):=UU
   obtain⟨g,cap,e,a0,a1⟩:=(C.out.later A.out).at_ y;simp only[Yr,true_and] at e;obtain⟨rfl,rfl⟩:=e;have D:(m != m)=Vf:=UV
   go_wp2
   go_roundw
   case rel=>exact⟨k+1,by omega,by go_num,A.out⟩
   case measure=>simp[intOf];omega
  ·have f:¬ (k:U9)<(n:U9):=UU
   go_wp2
   go_ret;exact⟨rfl,A.out⟩
theorem xj(n:U8)(m:U9)(u:Vi)(w:Vh)(p:EV w u (Yu n (wo m,.slice Vd 0 0)))(I:n<=1000000):
  Vk prog 58 #[u,.int .i64 m] w fun e w'=>e=.returned (.bool Vg)/\Vj w.heap.size w w':=by
 obtain⟨a,M,rfl⟩:=p.form;have C:=aC p;clear p;rw[List.length_replicate];rw[List.length_replicate] at C
 go_in
 go_wp2_with fail
 go_loopw [5] (fun v wr=>∃ k:U8,k<=n/\v=.int .i64 k/\Vj w.heap.size w wr) (fun v _=>n-(intOf v).toNat)
 case atStart=>exact⟨0,Wh _,rfl,Below.refl _ _⟩
 case round =>
  obtain⟨k,J,rfl,h⟩:=hrel;have A:=aC h;clear h
  by_cases y:k<n
  ·have f:(k:U9)<(n:U9):=UU
   obtain⟨g,cap,e,a0,a1,a2,a3,a4,a5⟩:=(C.out.later A.out).at_ y;simp only[Yr,true_and] at e;obtain⟨rfl,rfl⟩:=e;have D:(m != m)=Vf:=UV
   go_wp2
   go_roundw
   case rel=>exact⟨k+1,by omega,by go_num,A.out⟩
   case measure=>simp[intOf];omega
  ·have f:¬ (k:U9)<(n:U9):=UU
   go_wp2
   go_ret;exact⟨rfl,A.out⟩
theorem NA{P:Program}(w:Vh)(t ty:Vm)(C:U8)(e:Vm)(i:TypeInfo)(z:Vi)(size D:U8)(ht:P.underlying t=Ve (.slice e))(hi:P.info? e=Ve i)(hz:i.zero=Ve z)
  (I:i.size=size) (ag:i.bytes=D) (an:z.cells.size=size) (aq:0<size)
  (v:Vi) (n:U8) (xs:U5 Vi) (h:w.ownsRow C e size v n xs)
  (Y:Addr) (m c:U8) (f:U5 Vi) (hl:f.length=m*size) (p:∀ j u,f[j]?=Ve u->w.cell? (Y.add j)=Ve u) (h1:∀ u∈f,u.oneCell'=Vg)
  (hm:0<m) (aj:n+m<=maxLen) (y:(n+m)*D<=140737488355328) (U:C<=w.heap.size):
  ∃ g cap w',(Builtin.append_ #[t,t] ty #[v,.slice (Ve Y) m c]).run P w=.ok (.slice (Ve ⟨g,0,Vd⟩) (n+m) cap) w' /\
   w'.ownsRow C e size (.slice (Ve ⟨g,0,Vd⟩) (n+m) cap) (n+m) (xs++f)/\w.grownBy w' v.ownBlock/\(v.ownBlock=Ve g\/(g=w.heap.size/\w.grownBy w' Vd))/\g<w'.heap.size/\w'.ownsRow C e size v n xs:=by
 obtain⟨g,cap,w',O,h2,h3,_,T⟩:=run_append_lies (P:=P) w t ty C e i z size D ht hi hz I ag an aq v n xs h Y m c f hl p h1 hm aj y U _ rfl;refine⟨g,cap,w',O,h2,h3,?_⟩;subst I;subst ag;have al:n+m<=9223372036854775807:=by simp only[maxLen] at aj;omega
 rcases h.2 with ⟨rfl,rfl⟩|⟨V,A,X,rfl,ai,hg,ab,af,ae,N⟩
 ·have M:=run_append_nil (P:=P) w t ty e i z ht hi hz Y m c f hl p UU UU (by have hb:=y;simp only[Nat.zero_add] at hb;omega);rw[M] at O
  injection O with e1 e2
  subst e2
  injection e1 with e3 e4 e5
  injection e3 with e6
  injection e6 with e7
  exact⟨.inr ⟨e7.symm,⟨rfl,rfl,rfl,by simp,fun k hk _=>((zr w.drew.heap.size w.drew).alloc (zq _) _).block k hk⟩⟩,T,⟨h.1,.inl ⟨rfl,rfl⟩⟩⟩
 ·by_cases J:n+m<=A
  ·have ac:n*i.size+f.length<=X.size:=by rw[hl,ae,<- Nat.add_mul];exact Nat.mul_le_mul_right _ J
   have M:=run_append_room (P:=P) w t ty e i ht hi V n A X hg Y m c f hl p h1 J ac;rw[M] at O
   injection O with e1 e2
   injection e1 with e3 e4 e5
   injection e3 with e6
   injection e6 with e7
   subst e7 e5;refine⟨.inl rfl,T,⟨h.1,?_⟩⟩;rcases h2.2 with ⟨h0,_⟩|⟨g1,av,ak,aa,ay,au,aw,ax,ar,ao⟩
   ·cases h0
   ·simp only[Yr,Z6,Z7,and_true,true_and] at aa;obtain⟨rfl,rfl⟩:=aa;refine .inr ⟨V,A,ak,rfl,ai,au,ab,af,ar,?_⟩;have:=congrArg (List.take (n*i.size)) ao;rw[List.take_take,Nat.min_eq_left (Nat.mul_le_mul_right _ UU),<- h.1,List.take_left] at this;rw[<- h.1];exact this
  ·have S:∀ j u,xs[j]?=Ve u->w.cell? ((⟨V,0,Vd⟩:Addr).add j)=Ve u:=h.cells (g:=V) rfl;have M:=run_append_grow (P:=P) w t ty e i z ht hi hz ⟨V,0,Vd⟩ n A xs h.1 S Y m c f hl p UU UU (growslice_fits UU y);rw[M] at O
   injection O with e1 e2
   subst e2
   injection e1 with e3 e4 e5
   injection e3 with e6
   injection e6 with e7
   refine⟨.inr ⟨e7.symm,⟨rfl,rfl,rfl,by simp,fun k hk _=>((zr w.drew.heap.size w.drew).alloc (zq _) _).block k hk⟩⟩,T,⟨h.1,.inr ⟨V,A,X,rfl,ai,?_,ab,af,ae,N⟩⟩⟩;exact (((zr w.drew.heap.size w.drew).alloc (zq _) _).block V (Y9.1 hg).1).trans hg
theorem uE(g j:U8):(⟨g,0,Vd⟩:Addr).add j=⟨g,j,Vd⟩:=by unfold Addr.add;split <;> simp_all
def rp(pat:U5 Vi)(j:U8):U5 Vi:=(Yu j pat).flatten
theorem zU(pat:U5 Vi):rp pat 0=[]:=rfl
theorem oq(pat:U5 Vi)(j:U8):(rp pat j).length=j*pat.length:=by simp[rp]
theorem uP(pat:U5 Vi)(j k:U8):rp pat (j+k)=rp pat j++rp pat k:=by
 unfold rp;rw[<- List.replicate_append_replicate,List.flatten_append]
theorem Dt(pat:U5 Vi):rp pat 1=pat:=by simp[rp]
theorem zT(pat:U5 Vi)(j:U8):rp pat (j+1)=rp pat j++pat:=by rw[uP,Dt]
theorem wG(pat:U5 Vi){k o:U8}(h:k<j)(f:o<pat.length):(rp pat j)[k*pat.length+o]?=pat[o]?:=by
 have e:j=k+(1+(j-k-1)):=UU
 rw[e,uP,uP,Dt,Wz (by rw[oq];omega),oq,WB,Wt f]
theorem K7(h:(rp pat j)[i]?=Ve v)(f:j<=n):(rp pat n)[i]?=Ve v:=by
 have e:n=j+(n-j):=UU
 rw[e,uP,Wt (ZS.1 h).1];exact h
structure Fu(pat:U5 Vi)(w:Vh)(u:Vi)(j:U8):Prop where
 form:∃ a cap,u=.slice a j cap
 cell:∀ i v,(rp pat j)[i]?=Ve v->∃ g cap,u=.slice (Ve ⟨g,0,Vd⟩) j cap/\w.cell? ⟨g,i,Vd⟩=Ve v
variable {w w':Vh}{pat:U5 Vi}{u:Vi}{j:U8}
theorem Fu.jh{e:U8}(h:w.ownsRow B e pat.length u j (rp pat j)):Fu pat w u j:=by
 rcases h.2 with ⟨rfl,rfl⟩|⟨g,cap,p,rfl,_⟩
 ·exact⟨⟨_,_,rfl⟩,fun i v f=>by simp[rp] at f⟩
 ·exact⟨⟨_,_,rfl⟩,fun i v f=>⟨g,cap,rfl,(uE g i) ▸ h.cells (g:=g) rfl i v f⟩⟩
theorem Fu.gk(h:Fu pat w u j)(k:∀ b,u.ownBlock=Ve b->b<w.heap.size->w'.heap[b]?=w.heap[b]?):Fu pat w' u j :=
 ⟨h.form,fun i v f=>by
  obtain⟨g,cap,rfl,c⟩:=h.cell i v f
  exact⟨g,cap,rfl,(zo (k g U3 (Vr _ _ c))).trans c⟩⟩
theorem Fu.off(h:Fu pat w u j)(k:aF G w w')(y:∀ b,u.ownBlock=Ve b->b ∉ G):Fu pat w' u j:=h.gk fun b p f=>k.block b f (y b p)
theorem Fu.later(h:Fu pat w u j)(k:Vj w.heap.size w w'):Fu pat w' u j:=h.gk fun b _ f=>k.block b f
abbrev kF(m:U9):U5 Vi:=[.int .i64 m]
abbrev kf(m:U9):U5 Vi:=[.int .i64 m,.int .i64 m]
abbrev iP(m:U9):U5 Vi:=[.int .i64 m,.int .i64 0,.string ⟨#[]⟩,.int .i64 m,.slice Vd 0 0,.int .i64 0]
theorem Fu.nv{m:U9}(h:Fu (kF m) w u j):NV w u (Yu j m):=by
 refine⟨by simpa using h.form,fun k f=>?_⟩;rw[List.length_replicate] at f;obtain⟨g,cap,rfl,c⟩:=h.cell _ _ (wG (kF m) f (o:=0) UV);exact⟨g,cap,by simp,by simpa using c⟩
theorem Fu.sv{m:U9}(h:Fu (kf m) w u j):SV w u (Yu j (m,m)):=by
 refine⟨by simpa using h.form,fun k f=>?_⟩;rw[List.length_replicate] at f;obtain⟨g,cap,rfl,c⟩:=h.cell _ _ (wG (kf m) f (o:=0) UV);obtain⟨A,p,e,y⟩:=h.cell _ _ (wG (kf m) f (o:=1) UV);simp only[Yr,Z6,Z7,and_true,true_and] at e;obtain⟨rfl,rfl⟩:=e;exact⟨g,cap,by simp,by simpa using c,by simpa using y⟩
theorem Fu.ev{m:U9}(h:Fu (iP m) w u j):EV w u (Yu j (wo m,.slice Vd 0 0)):=by
 refine⟨by simpa using h.form,fun k y=>?_,fun p C=>?_⟩
 ·rw[List.length_replicate] at y;have at_:∀ (o:U8) (v:Vi),(iP m)[o]?=Ve v->∃ g cap,u=.slice (Ve ⟨g,0,Vd⟩) j cap/\w.cell? ⟨g,k*6+o,Vd⟩=Ve v:=fun o v f=>h.cell _ _ ((wG (iP m) y (o:=o) (ZS.1 f).1).trans f)
  obtain⟨g,cap,rfl,D⟩:=at_ 0 _ rfl
  have at':∀ (o:U8) (v:Vi),(iP m)[o]?=Ve v->w.cell? ⟨g,k*6+o,Vd⟩=Ve v:=fun o v f=>by
   obtain⟨J,A,e,I⟩:=at_ o v f;simp only[Yr,Z6,Z7,and_true,true_and] at e;obtain⟨rfl,rfl⟩:=e;exact I
  refine⟨g,cap,by simp,?_⟩;rw[List.getElem_replicate];exact⟨D,at' 1 _ rfl,at' 2 _ rfl,at' 3 _ rfl,at' 4 _ rfl,at' 5 _ rfl⟩
 ·rw[List.eq_of_mem_replicate C];exact⟨⟨_,_,rfl⟩,fun k y=>by simp[wo] at y⟩
theorem pt{I:Array Oper}{rest:U5 Oper}{o:Oper}{a:Act}{Q:Exit->Act->Vh->Prop}(ab:o.guard=Vd)(x y:Operand)(t:Vm)(ho:o.op=.call { callee:=.builtin .append,args:=#[x,y],argTypes:=#[t,t] })
  (pat:U5 Vi) {B e:U8}{i:TypeInfo}{z:Vi}(f:U8) (ht:prog.underlying t=Ve (.slice e)) (hi:prog.info? e=Ve i) (hz:i.zero=Ve z) (C:i.size=pat.length) (ad:i.bytes=f) (N:f<=72) (U:z.cells.size=pat.length) (Y:0<pat.length) (X:∀ u∈pat,u.oneCell'=Vg)
  {v:Vi}{n:U8}(M:W.ownsRow B e pat.length v n (rp pat n)) {m c:U8}{cs:Array Vi}{S:Vm}{mk:U8 × U8}(ac:cs.toList=rp pat m) (hm:0<m) (ae:m<=3) (hs:a.eval x=v) (hx:a.eval y=.slice (Ve ⟨W.heap.size,0,Vd⟩) m c) (hl:n<=1000000) (hB:B<=W.heap.size)
  (h:∀ g cap w',w'.ownsRow B e pat.length (.slice (Ve ⟨g,0,Vd⟩) (n+m) cap) (n+m) (rp pat (n+m))->w'.ownsRow B e pat.length v n (rp pat n)->(∀ u j,j<=n+m->Fu pat W u j->Fu pat w' u j)->aF v.ownBlock.toList W w'->(v.ownBlock=Ve g\/W.heap.size<=g)->wpList prog I Q rest (a.put o.dst (.slice (Ve ⟨g,0,Vd⟩) (n+m) cap)) w'):
  wpList prog I Q (o :: rest) a (W.alloc (.cells cs S mk)):=by
 refine wpList_plain ab fun K hK=>?_
 have p:=WM (cs:=cs) (cC W (.cells cs S mk));rw[ac] at p
 obtain⟨g,cap,w',hr,h2,h3,A,_,h6⟩:=NA (P:=prog) (W.alloc (.cells cs S mk)) t o.type B e i z pat.length f ht hi hz C ad U Y v n (rp pat n) (M.alloc _) ⟨W.heap.size,0,Vd⟩ m c (rp pat m) (oq ..) p (fun q hq=>by
  unfold rp at hq;obtain⟨q',h7,h8⟩:=List.mem_flatten.1 hq;rw[List.eq_of_mem_replicate h7] at h8
  exact X q h8) hm U1 (Vq (Nat.mul_le_mul (show n+m<=1000003 by omega) N) UW) U0
 rw[<- uP] at h2;unfold Oper.wp execOp;simp only[ho,resolve,invoke,builtin,Sem.run_bind,Sem.run_pure,Result.andThen_ok,List.map_toArray,XS,List.map_nil,hs,hx,hr];refine hK _ _ (h g cap w' h2 h6 (fun u j hj V=>?_) (((aF.refl _ W).alloc _).grown h3 (fun k hk=>.inl (by simp[hk]))) ?_)
 ·rcases A with A|⟨_,A⟩
  ·refine⟨V.form,fun T v' J=>?_⟩;obtain⟨D,O,rfl,cc⟩:=V.cell T v' J;refine⟨D,O,rfl,?_⟩
   by_cases e1:D=g
   ·subst e1;exact (uE D T) ▸ h2.cells (g:=D) rfl T v' (K7 J hj)
   ·have aa:D<W.heap.size:=Vr _ _ cc;refine (zo (w:=W) ?_).trans cc;exact (h3.block D (by rw[WX];omega) (by rw[A];simpa using e1)).trans (((zr W.heap.size W).alloc (zq _) _).block D aa)
  ·exact V.gk fun b _ hl=>(A.block b (by rw[WX];omega) UV).trans (((zr W.heap.size W).alloc (zq _) _).block b hl)
 ·rcases A with A|⟨A,_⟩
  ·exact .inl A
  ·exact .inr (by rw[A];simp)
abbrev KL:=Vi × Vi × Vi × Vi × U9
def fu(x:KL):U5 Vi:=[x.1,x.2.1,x.2.2.1,x.2.2.2.1,.int .i64 x.2.2.2.2]
def fO(x:KL):U5 U8:=x.1.ownBlock.toList++(x.2.1.ownBlock.toList++(x.2.2.1.ownBlock.toList++x.2.2.2.1.ownBlock.toList))
def K4(P:U9->U5 Vi)(w:Vh)(x:KL):Prop :=
 ∃ j,j<=900000/\Fu (P x.2.2.2.2) w x.1 j/\Fu (P x.2.2.2.2) w x.2.1 (j+1)/\Fu (P x.2.2.2.2) w x.2.2.1 (j+2)/\Fu (P x.2.2.2.2) w x.2.2.2.1 (j+3)
theorem K4.off{x:KL}(h:K4 P w x)(k:aF G w w')(p:∀ b∈fO x,b ∉ G):K4 P w' x:=by
 obtain⟨j,y,I,D,C,A⟩:=h;exact⟨j,y,I.off k fun b f=>p b (by simp[fO,f]),D.off k fun b f=>p b (by simp[fO,f]),C.off k fun b f=>p b (by simp[fO,f]),A.off k fun b f=>p b (by simp[fO,f])⟩
structure lr(P:U9->U5 Vi)(t:Vm)(K:U5 U8)(w:Vh)(r:Vi)(X:U5 KL):Prop where
 own:w.ownsRow 0 t 5 r X.length (X.flatMap fu)
 four:∀ x∈X,K4 P w x
 bl:∀ x∈X,∀ b∈fO x,b∈K
theorem lr.off{t:Vm}{K:U5 U8}{X:U5 KL}(h:lr P t K w r X)(k:aF G w w')(p:∀ b,r.ownBlock=Ve b->b ∉ G)(A:∀ b∈K,b ∉ G):lr P t K w' r X :=
 ⟨dO h.own k p,fun x f=>(h.four x f).off k fun b y=>A b (h.bl x f b y),h.bl⟩
theorem lr.wide{t:Vm}{K K':U5 U8}{X:U5 KL}(h:lr P t K w r X)(y:∀ b∈K,b∈K'):lr P t K' w r X :=
 ⟨h.own,h.four,fun x f b p=>y b (h.bl x f b p)⟩
theorem lr.snoc{t:Vm}{K:U5 U8}{X:U5 KL}{x:KL}(h:lr P t K w r X)(C:K4 P w x)(k:aF r.ownBlock.toList w w')(I:∀ b∈K,r.ownBlock≠Ve b)(A:∀ b∈fO x,r.ownBlock≠Ve b)
  (D:w'.ownsRow 0 t 5 r' (X.length+1) (X.flatMap fu++fu x)):lr P t (fO x++K) w' r' (X++[x]):=by
 refine⟨by simpa using D,fun y f=>?_,fun y f b p=>?_⟩
 ·rcases VB.1 f with f|f
  ·exact (h.four y f).off k fun b p e=>I b (h.bl y f b p) (by simpa using e)
  ·rw[YD.1 f];exact C.off k fun b p e=>A b p (by simpa using e)
 ·rcases VB.1 f with f|f
  ·exact YC _ (h.bl y f b p)
  ·rw[YD.1 f] at p;exact YB _ p
abbrev tI:Vm:=111
abbrev tS:Vm:=114
abbrev tE:Vm:=117
structure BR(w:Vh)(K:U5 U8)(r1 r2 r3:Vi)(X1 X2 X3:U5 KL):Prop where
 b1:lr kF tI K w r1 X1
 b2:lr kf tS K w r2 X2
 b3:lr iP tE K w r3 X3
 kb:∀ b∈K,b<w.heap.size/\r1.ownBlock≠Ve b/\r2.ownBlock≠Ve b/\r3.ownBlock≠Ve b
structure BK(w:Vh)(B:U8)(v0 v1:Vi)(K:U5 U8)(r1 r2 r3:Vi)(X1 X2 X3:U5 KL):Prop where
 hb:w.heap[B]?=Ve (.cells #[v0,v1,r1,r2,r3] 86)
 br:BR w K r1 r2 r3 X1 X2 X3
 bK:B ∉ K
variable {w w':Vh}{B:U8}{v0 v1 r1 r2 r3 r':Vi}{K G:U5 U8}{X1 X2 X3:U5 KL}{x:KL}
theorem pq{y p s1 A D C U T:U8}{u1 u2:Vi}{l1 I:U5 Vi}(O:w.ownsRow U y s1 u1 D l1)(N:w.ownsRow T p A u2 C I)(f:p≠y){b:U8}(M:u1.ownBlock=Ve b):u2.ownBlock≠Ve b:=by
 intro h;rcases N.2 with ⟨rfl,_⟩|⟨g,cap,S,rfl,_,J,_⟩
 ·simp[WI] at h
 ·simp[WI] at h;subst h;exact iu O J f M
theorem BR.off(h:BR w K r1 r2 r3 X1 X2 X3)(k:aF G w w')(C:∀ b,r1.ownBlock=Ve b->b ∉ G)(A:∀ b,r2.ownBlock=Ve b->b ∉ G)(y:∀ b,r3.ownBlock=Ve b->b ∉ G)(f:∀ b∈K,b ∉ G):BR w' K r1 r2 r3 X1 X2 X3 :=
 ⟨h.b1.off k C f,h.b2.off k A f,h.b3.off k y f,fun b p=>⟨zL (h.kb b p).1 k.size,(h.kb b p).2⟩⟩
def bM(B:U8)(r1 r2 r3:Vi):U5 U8:=B :: (r1.ownBlock.toList++(r2.ownBlock.toList++r3.ownBlock.toList))
theorem BK.off(h:BK w B v0 v1 K r1 r2 r3 X1 X2 X3)(k:aF G w w')(p:∀ b∈bM B r1 r2 r3,b ∉ G)(y:∀ b∈K,b ∉ G):BK w' B v0 v1 K r1 r2 r3 X1 X2 X3 :=
 ⟨(k.block B (Y9.1 h.hb).1 (p B (by simp[bM]))).trans h.hb,h.br.off k (fun b f=>p b (by simp[bM,f])) (fun b f=>p b (by simp[bM,f])) (fun b f=>p b (by simp[bM,f])) y,h.bK⟩
theorem BK.later(h:BK w B v0 v1 K r1 r2 r3 X1 X2 X3)(k:Vj w.heap.size w w'):BK w' B v0 v1 K r1 r2 r3 X1 X2 X3:=h.off (G:=[]) (aF.aD k) UV UV
theorem BK.cells(h:BK w B v0 v1 K r1 r2 r3 X1 X2 X3):w.cell? ⟨B,0,Vd⟩=Ve v0/\w.cell? ⟨B,1,Vd⟩=Ve v1/\w.cell? ⟨B,2,Vd⟩=Ve r1/\w.cell? ⟨B,3,Vd⟩=Ve r2/\w.cell? ⟨B,4,Vd⟩=Ve r3/\∀ o,w.frozen? ⟨B,o,Vd⟩=Vf:=by
 have:=h.hb;refine⟨?_,?_,?_,?_,?_,fun o=>?_⟩ <;> simp[VL,Vs,this]
theorem BK.ke(h:BK w B v0 v1 K r1 r2 r3 X1 X2 X3):(∃ a c,r1=.slice a X1.length c)/\(∃ a c,r2=.slice a X2.length c)/\∃ a c,r3=.slice a X3.length c:=⟨gC h.br.b1.own,gC h.br.b2.own,gC h.br.b3.own⟩
def s7(w:Vh)(r r':Vi):Prop:=∀ b,r'.ownBlock=Ve b->r.ownBlock=Ve b\/w.heap.size<=b
theorem BK.BN(h:BK w B v0 v1 K r1 r2 r3 X1 X2 X3)(hx:K4 kF w x)(p:∀ b∈fO x,b<w.heap.size/\b ∉ bM B r1 r2 r3)(k:aF r1.ownBlock.toList w w')(U:w'.ownsRow 0 tI 5 r' (X1.length+1) (X1.flatMap fu++fu x))(C:s7 w r1 r'):
  BK (w'.setCell ⟨B,2,Vd⟩ r') B v0 v1 (fO x++K) r' r2 r3 (X1++[x]) X2 X3/\aF (bM B r1 r2 r3) w (w'.setCell ⟨B,2,Vd⟩ r'):=by
 have D:=(Y9.1 h.hb).1;have M:r1.ownBlock≠Ve B:=iu h.br.b1.own h.hb UW;have J:r2.ownBlock≠Ve B:=iu h.br.b2.own h.hb UW;have I:r3.ownBlock≠Ve B:=iu h.br.b3.own h.hb UW;have A:w'.heap[B]?=Ve (.cells #[v0,v1,r1,r2,r3] 86):=(k.block B D (by simpa using M)).trans h.hb;have N:r'.ownBlock≠Ve B:=iu U A UW;have n2:∀ b,r2.ownBlock=Ve b->b ∉ r1.ownBlock.toList:=fun b f e=>pq h.br.b2.own h.br.b1.own UW f (by simpa using e)
 have n3:∀ b,r3.ownBlock=Ve b->b ∉ r1.ownBlock.toList:=fun b f e=>pq h.br.b3.own h.br.b1.own UW f (by simpa using e)
 have S:∀ b∈K,b ∉ r1.ownBlock.toList:=fun b f e=>(h.br.kb b f).2.1 (by simpa using e)
 have s1:=h.br.b1.snoc hx k (fun b f=>(h.br.kb b f).2.1) (fun b f e=>(p b f).2 (by simp[bM,e])) U;have X:=(h.br.b2.off k n2 S).wide (K':=fO x++K) (fun b f=>YC _ f);have V:=(h.br.b3.off k n3 S).wide (K':=fO x++K) (fun b f=>YC _ f);have kd:aF [B] w' (w'.setCell ⟨B,2,Vd⟩ r'):=aF.aY ..
 have O:∀ b∈fO x++K,b≠B:=fun b f e=>by
  rcases VB.1 f with f|f
  ·exact (p b f).2 (by simp[bM,e])
  ·exact h.bK (e ▸ f)
 have br:BR w' (fO x++K) r' r2 r3 (X1++[x]) X2 X3:=by
  refine⟨s1,X,V,fun b f=>?_⟩;rcases VB.1 f with f|f
  ·refine⟨zL (p b f).1 k.size,fun e=>?_,fun e=>(p b f).2 (by simp[bM,e]),fun e=>(p b f).2 (by simp[bM,e])⟩;rcases C b e with e|e
   ·exact (p b f).2 (by simp[bM,e])
   ·have:=(p b f).1;omega
  ·obtain⟨q1,q2,q3,Y⟩:=h.br.kb b f;refine⟨zL q1 k.size,fun e=>?_,q3,Y⟩;rcases C b e with e|e
   ·exact q2 e
   ·omega
 refine⟨⟨by rw[lR A];rfl,br.off kd (fun b f e=>N (by simp at e;exact e ▸ f)) (fun b f e=>J (by simp at e;exact e ▸ f)) (fun b f e=>I (by simp at e;exact e ▸ f)) (fun b f e=>O b f (by simpa using e)),fun e=>O B e rfl⟩,?_⟩;exact (k.mono fun y T=>by simp at T;simp[bM,T]).setCell (.inl (by simp[bM])) _ _
theorem BK.BM(h:BK w B v0 v1 K r1 r2 r3 X1 X2 X3)(hx:K4 kf w x)(p:∀ b∈fO x,b<w.heap.size/\b ∉ bM B r1 r2 r3)(k:aF r2.ownBlock.toList w w')(U:w'.ownsRow 0 tS 5 r' (X2.length+1) (X2.flatMap fu++fu x))(C:s7 w r2 r'):
  BK (w'.setCell ⟨B,3,Vd⟩ r') B v0 v1 (fO x++K) r1 r' r3 X1 (X2++[x]) X3/\aF (bM B r1 r2 r3) w (w'.setCell ⟨B,3,Vd⟩ r'):=by
 have D:=(Y9.1 h.hb).1;have M:r1.ownBlock≠Ve B:=iu h.br.b1.own h.hb UW;have J:r2.ownBlock≠Ve B:=iu h.br.b2.own h.hb UW;have I:r3.ownBlock≠Ve B:=iu h.br.b3.own h.hb UW;have A:w'.heap[B]?=Ve (.cells #[v0,v1,r1,r2,r3] 86):=(k.block B D (by simpa using J)).trans h.hb;have N:r'.ownBlock≠Ve B:=iu U A UW;have n1:∀ b,r1.ownBlock=Ve b->b ∉ r2.ownBlock.toList:=fun b f e=>pq h.br.b1.own h.br.b2.own UW f (by simpa using e)
 have n3:∀ b,r3.ownBlock=Ve b->b ∉ r2.ownBlock.toList:=fun b f e=>pq h.br.b3.own h.br.b2.own UW f (by simpa using e)
 have S:∀ b∈K,b ∉ r2.ownBlock.toList:=fun b f e=>(h.br.kb b f).2.2.1 (by simpa using e)
 have X:=h.br.b2.snoc hx k (fun b f=>(h.br.kb b f).2.2.1) (fun b f e=>(p b f).2 (by simp[bM,e])) U;have s1:=(h.br.b1.off k n1 S).wide (K':=fO x++K) (fun b f=>YC _ f);have V:=(h.br.b3.off k n3 S).wide (K':=fO x++K) (fun b f=>YC _ f);have kd:aF [B] w' (w'.setCell ⟨B,3,Vd⟩ r'):=aF.aY ..
 have O:∀ b∈fO x++K,b≠B:=fun b f e=>by
  rcases VB.1 f with f|f
  ·exact (p b f).2 (by simp[bM,e])
  ·exact h.bK (e ▸ f)
 have br:BR w' (fO x++K) r1 r' r3 X1 (X2++[x]) X3:=by
  refine⟨s1,X,V,fun b f=>?_⟩;rcases VB.1 f with f|f
  ·refine⟨zL (p b f).1 k.size,fun e=>(p b f).2 (by simp[bM,e]),fun e=>?_,fun e=>(p b f).2 (by simp[bM,e])⟩;rcases C b e with e|e
   ·exact (p b f).2 (by simp[bM,e])
   ·have:=(p b f).1;omega
  ·obtain⟨q1,q2,q3,Y⟩:=h.br.kb b f;refine⟨zL q1 k.size,q2,fun e=>?_,Y⟩;rcases C b e with e|e
   ·exact q3 e
   ·omega
 refine⟨⟨by rw[lR A];rfl,br.off kd (fun b f e=>M (by simp at e;exact e ▸ f)) (fun b f e=>N (by simp at e;exact e ▸ f)) (fun b f e=>I (by simp at e;exact e ▸ f)) (fun b f e=>O b f (by simpa using e)),fun e=>O B e rfl⟩,?_⟩;exact (k.mono fun y T=>by simp at T;simp[bM,T]).setCell (.inl (by simp[bM])) _ _
theorem BK.BL(h:BK w B v0 v1 K r1 r2 r3 X1 X2 X3)(hx:K4 iP w x)(p:∀ b∈fO x,b<w.heap.size/\b ∉ bM B r1 r2 r3)(k:aF r3.ownBlock.toList w w')(U:w'.ownsRow 0 tE 5 r' (X3.length+1) (X3.flatMap fu++fu x))(C:s7 w r3 r'):
  BK (w'.setCell ⟨B,4,Vd⟩ r') B v0 v1 (fO x++K) r1 r2 r' X1 X2 (X3++[x])/\aF (bM B r1 r2 r3) w (w'.setCell ⟨B,4,Vd⟩ r'):=by
 have D:=(Y9.1 h.hb).1;have M:r1.ownBlock≠Ve B:=iu h.br.b1.own h.hb UW;have J:r2.ownBlock≠Ve B:=iu h.br.b2.own h.hb UW;have I:r3.ownBlock≠Ve B:=iu h.br.b3.own h.hb UW;have A:w'.heap[B]?=Ve (.cells #[v0,v1,r1,r2,r3] 86):=(k.block B D (by simpa using I)).trans h.hb;have N:r'.ownBlock≠Ve B:=iu U A UW;have n1:∀ b,r1.ownBlock=Ve b->b ∉ r3.ownBlock.toList:=fun b f e=>pq h.br.b1.own h.br.b3.own UW f (by simpa using e)
 have n2:∀ b,r2.ownBlock=Ve b->b ∉ r3.ownBlock.toList:=fun b f e=>pq h.br.b2.own h.br.b3.own UW f (by simpa using e)
 have S:∀ b∈K,b ∉ r3.ownBlock.toList:=fun b f e=>(h.br.kb b f).2.2.2 (by simpa using e)
 have V:=h.br.b3.snoc hx k (fun b f=>(h.br.kb b f).2.2.2) (fun b f e=>(p b f).2 (by simp[bM,e])) U;have s1:=(h.br.b1.off k n1 S).wide (K':=fO x++K) (fun b f=>YC _ f);have X:=(h.br.b2.off k n2 S).wide (K':=fO x++K) (fun b f=>YC _ f);have kd:aF [B] w' (w'.setCell ⟨B,4,Vd⟩ r'):=aF.aY ..
 have O:∀ b∈fO x++K,b≠B:=fun b f e=>by
  rcases VB.1 f with f|f
  ·exact (p b f).2 (by simp[bM,e])
  ·exact h.bK (e ▸ f)
 have br:BR w' (fO x++K) r1 r2 r' X1 X2 (X3++[x]):=by
  refine⟨s1,X,V,fun b f=>?_⟩;rcases VB.1 f with f|f
  ·refine⟨zL (p b f).1 k.size,fun e=>(p b f).2 (by simp[bM,e]),fun e=>(p b f).2 (by simp[bM,e]),fun e=>?_⟩;rcases C b e with e|e
   ·exact (p b f).2 (by simp[bM,e])
   ·have:=(p b f).1;omega
  ·obtain⟨q1,q2,q3,Y⟩:=h.br.kb b f;refine⟨zL q1 k.size,q2,q3,fun e=>?_⟩;rcases C b e with e|e
   ·exact Y e
   ·omega
 refine⟨⟨by rw[lR A];rfl,br.off kd (fun b f e=>M (by simp at e;exact e ▸ f)) (fun b f e=>J (by simp at e;exact e ▸ f)) (fun b f e=>N (by simp at e;exact e ▸ f)) (fun b f e=>O b f (by simpa using e)),fun e=>O B e rfl⟩,?_⟩;exact (k.mono fun y T=>by simp at T;simp[bM,T]).setCell (.inl (by simp[bM])) _ _
theorem Au(l:U5 U9)(u v:Vi)(w:Vh)(C:NV w u l)(A:NV w v l)(N:l.length<=1000000):
  Vk prog 120 #[u,v] w fun e w'=>e=.returned (.bool Vg)/\Vj w.heap.size w w':=by
 obtain⟨a,U,rfl⟩:=C.form;obtain⟨b,cb,rfl⟩:=A.form;have M:=aC C;have J:=aC A;clear C A;have S:((l.length:U9) != (l.length:U9))=Vf:=UV
 go_in
 go_wp2_with fail
 go_loopw [5] (fun v wr=>∃ k:U8,k<=l.length/\v=.int .i64 k/\Vj w.heap.size w wr) (fun v _=>l.length-(intOf v).toNat)
 case atStart=>exact⟨0,Wh _,rfl,Below.refl _ _⟩
 case round =>
  obtain⟨k,O,rfl,p⟩:=hrel;have y:=aC p;clear p
  by_cases h:k<l.length
  ·have f:(k:U9)<(l.length:U9):=UU
   obtain⟨g,cap,e,a0⟩:=(M.out.later y.out).cell k h;simp only[Yr,true_and] at e;obtain⟨rfl,rfl⟩:=e;obtain⟨T,I,e,V⟩:=(J.out.later y.out).cell k h;simp only[Yr,true_and] at e;obtain⟨rfl,rfl⟩:=e;generalize l[k]=x at *
   go_upto_region 6 with fail
   go_big_region
   have D:=aC (y.out.drew);clear y
   go_wp2
   go_roundw
   case rel=>exact⟨k+1,by omega,by go_num,D.out⟩
   case measure=>simp[intOf];omega
  ·have f:¬ (k:U9)<(l.length:U9):=UU
   go_wp2
   go_ret;exact⟨rfl,y.out⟩
theorem Ni(L:U5 (U9 × U9))(u v:Vi)(w:Vh)(D:SV w u L)(C:SV w v L)(O:L.length<=1000000):
  Vk prog 183 #[u,v] w fun e w'=>e=.returned (.bool Vg)/\Vj w.heap.size w w':=by
 obtain⟨a,V,rfl⟩:=D.form;obtain⟨b,cb,rfl⟩:=C.form;have N:=aC D;have M:=aC C;clear D C;have T:((L.length:U9) != (L.length:U9))=Vf:=UV
 go_in
 go_wp2_with fail
 go_loopw [5] (fun v wr=>∃ k:U8,k<=L.length/\v=.int .i64 k/\Vj w.heap.size w wr) (fun v _=>L.length-(intOf v).toNat)
 case atStart=>exact⟨0,Wh _,rfl,Below.refl _ _⟩
 case round =>
  obtain⟨k,S,rfl,p⟩:=hrel;have A:=aC p;clear p
  by_cases h:k<L.length
  ·have f:(k:U9)<(L.length:U9):=UU
   obtain⟨g,cap,e,a0,a1⟩:=(N.out.later A.out).cell k h;simp only[Yr,true_and] at e;obtain⟨rfl,rfl⟩:=e;obtain⟨U,J,e,Y,X⟩:=(M.out.later A.out).cell k h;simp only[Yr,true_and] at e;obtain⟨rfl,rfl⟩:=e;generalize L[k].1=x at *;generalize L[k].2=y at *
   go_upto_region 6 with fail
   go_big_region
   have I:=aC (A.out.drew);clear A
   go_wp2
   go_roundw
   case rel=>exact⟨k+1,by omega,by go_num,I.out⟩
   case measure=>simp[intOf];omega
  ·have f:¬ (k:U9)<(L.length:U9):=UU
   go_wp2
   go_ret;exact⟨rfl,A.out⟩
theorem rW(h:Vj B w w')(n:U8):Vj B w (w'.drewN n):=⟨h.os,h.tape,h.output,h.size,h.block⟩
theorem Nx(l m:U5 (aL × Vi))(u v:Vi)(w:Vh)(hu:EV w u l)(hv:EV w v m)(he:l.map (·.1)=m.map (·.1))(hl:l.length<=1000)(hs:∀ p∈l,p.1.aK.length<=1000):
  Vk prog 119 #[u,v] w fun e w'=>e=.returned (.bool Vg)/\Vj w.heap.size w w':=by
 obtain⟨a,ca,rfl⟩:=hu.form;obtain⟨b,cb,rfl⟩:=hv.form;have M:m.length=l.length:=by have:=congrArg V7 he;simpa using this.symm
 have AT:Hid (∀ (k:U8) (h:k<l.length) (h':k<m.length),m[k].1=l[k].1):=fun k h h'=>by
  have:=congrArg (fun x=>x[k]?) he;simp only[List.getElem?_map,Xb h,Xb h',Option.map_some] at this;exact (WY this).symm
 have HU:=aC hu;have HV:=aC hv;have HS:=aC hs;rw[M];clear hu hv he hs;have hb:((l.length:U9) != (l.length:U9))=Vf:=UV
 go_in
 go_wp2_with fail
 go_loopw [5,6] (fun v _ wr=>∃ k:U8,k<=l.length/\v=.int .i64 k/\Vj w.heap.size w wr) (fun v _ _=>l.length-(intOf v).toNat)
 case atStart=>exact⟨0,Wh _,rfl,Below.refl _ _⟩
 case round =>
  obtain⟨k,hk,rfl,N⟩:=hrel;have I:=aC N;clear N
  by_cases A:k<l.length
  ·have J:(k:U9)<(l.length:U9):=UU
   have D:k<m.length:=UU
   obtain⟨g,cap,e,a0,a1,a2,a3,a4,a5⟩:=(HU.out.later I.out).cell k A;simp only[Yr,true_and] at e;obtain⟨rfl,rfl⟩:=e;obtain⟨y,aa,e,b0,b1,Y,X,V,U⟩:=(HV.out.later I.out).cell k D;simp only[Yr,true_and] at e;obtain⟨rfl,rfl⟩:=e;have s1:=(HU.out.later I.out).sp l[k] (zg A);have T:=(HV.out.later I.out).sp m[k] (zg D);rw[AT.out k A D] at b0 b1 Y X U T;have SP:=aC (fun f (q:Vj wr.heap.size wr f)=>Ni l[k].1.aK l[k].2 m[k].2 f (s1.later q) (T.later q) (by have:=HS.out l[k] (zg A);omega));obtain⟨f1,f2,e1⟩:=s1.form;obtain⟨f3,f4,e2⟩:=T.form;rw[e1] at a4 SP;rw[e2] at V SP;clear s1 T e1 e2;generalize l[k].1=x at *;have n0:(x.id != x.id)=Vf:=UV
   have n1:(x.kind != x.kind)=Vf:=UV
   have n3:(x.aH != x.aH)=Vf:=UV
   have n5:(x.bY != x.bY)=Vf:=UV
   have S:=aC (I.out.drew);have SS:Hid (∀ f,Vj wr.drew.heap.size wr.drew f->f.cell? ⟨g,k*6,Vd⟩=Ve (.int .i64 x.id)/\f.cell? ⟨g,k*6+1,Vd⟩=Ve (.int .i64 x.kind)/\f.cell? ⟨g,k*6+2,Vd⟩=Ve (.string x.aT)/\f.cell? ⟨g,k*6+3,Vd⟩=Ve (.int .i64 x.aH)/\f.cell? ⟨g,k*6+4,Vd⟩=Ve (.slice f1 x.aK.length f2)/\f.cell? ⟨g,k*6+5,Vd⟩=Ve (.int .i64 x.bY)/\f.cell? ⟨y,k*6,Vd⟩=Ve (.int .i64 x.id)/\f.cell? ⟨y,k*6+1,Vd⟩=Ve (.int .i64 x.kind)/\f.cell? ⟨y,k*6+2,Vd⟩=Ve (.string x.aT)/\f.cell? ⟨y,k*6+3,Vd⟩=Ve (.int .i64 x.aH)/\f.cell? ⟨y,k*6+4,Vd⟩=Ve (.slice f3 x.aK.length f4)/\f.cell? ⟨y,k*6+5,Vd⟩=Ve (.int .i64 x.bY)):=fun f q=>⟨aN q a0,aN q a1,aN q a2,aN q a3,aN q a4,aN q a5,aN q b0,aN q b1,aN q Y,aN q X,aN q V,aN q U⟩
   clear I
   go_upto_region 6 with fail
   go_region_held3 (fun f=>f.cell? ⟨g,k*6,Vd⟩=Ve (.int .i64 x.id)/\f.cell? ⟨g,k*6+1,Vd⟩=Ve (.int .i64 x.kind)/\f.cell? ⟨g,k*6+2,Vd⟩=Ve (.string x.aT)/\f.cell? ⟨g,k*6+3,Vd⟩=Ve (.int .i64 x.aH)/\f.cell? ⟨g,k*6+4,Vd⟩=Ve (.slice f1 x.aK.length f2)/\f.cell? ⟨g,k*6+5,Vd⟩=Ve (.int .i64 x.bY)/\f.cell? ⟨y,k*6,Vd⟩=Ve (.int .i64 x.id)/\f.cell? ⟨y,k*6+1,Vd⟩=Ve (.int .i64 x.kind)/\f.cell? ⟨y,k*6+2,Vd⟩=Ve (.string x.aT)/\f.cell? ⟨y,k*6+3,Vd⟩=Ve (.int .i64 x.aH)/\f.cell? ⟨y,k*6+4,Vd⟩=Ve (.slice f3 x.aK.length f4)/\f.cell? ⟨y,k*6+5,Vd⟩=Ve (.int .i64 x.bY))
    (first
     |with_reducible exact SS.out _ C.out
     |exact⟨a0,a1,a2,a3,a4,a5,b0,b1,Y,X,V,U⟩)
    (first
     |(go_at_call 183;refine (SP.out _ (dM _)).mono ?_;rintro e w6 ⟨rfl,O⟩;have C:=aC O;clear O))
   have HF:Hid (Vj w.heap.size w w6):=bA S.out C.out (zq _);obtain⟨c0,c1,c2,c3,c4,c5,d0,d1,d2,d3,d4,d5⟩:=SS.out _ C.out;clear C S SS SP a0 a1 a2 a3 a4 a5 b0 b1 Y X V U;have n2:(x.aT.toList != x.aT.toList)=Vf:=UV
   have ab:(x.aT.toList==x.aT.toList)=Vg:=UV
   go_upto_region 7 with fail
   go_quiet (fail)
   go_wp2
   go_roundw
   case rel=>exact⟨k+1,by omega,by go_num,rW HF.out _⟩
   case measure=>simp[intOf];omega
  ·have J:¬ (k:U9)<(l.length:U9):=UU
   go_wp2
   go_ret;exact⟨rfl,I.out⟩
variable {w:Vh}{B:U8}{v0 v1 r1 r2 r3:Vi}{K:U5 U8}{X1 X2 X3:U5 KL}
abbrev wH(X1 X2 X3:U5 KL):U9:=-1000-(X1.length:U9)-X2.length-X3.length
theorem Ai(h:BK w B v0 v1 K r1 r2 r3 X1 X2 X3)(M:X1.length<=1000000000)(J:X2.length<=1000000000)(I:X3.length<=1000000000):
  Vk prog 184 #[.pointer (Ve ⟨B,2,Vd⟩)] w fun e w'=>e=.returned (.int .i64 (wH X1 X2 X3))/\Vj w.heap.size w w':=by
 obtain⟨_,_,S,O,N,_⟩:=h.cells;obtain⟨⟨a1,y,rfl⟩,⟨a2,p,rfl⟩,a3,f,rfl⟩:=h.ke;have T:=aC h;clear h;have D:Vp.wrap (-1000-(X1.length:U9))=-1000-(X1.length:U9):=wm UU UU;have C:Vp.wrap (-1000-(X1.length:U9)-X2.length)=-1000-(X1.length:U9)-X2.length:=wm UU UU;have A:Vp.wrap (-1000-(X1.length:U9)-X2.length-X3.length)=-1000-(X1.length:U9)-X2.length-X3.length:=wm UU UU
 go_in
 go_upto_region 1 with fail
 go_quiet (fail)
 go_wp2
 go_ret;exact⟨rfl,rW (zr _ _) _⟩
variable {w:Vh}{B:U8}{v0 v1 r1 r2 r3:Vi}{K:U5 U8}{X1 X2 X3:U5 KL}
theorem LM:(prog.info? tI).map (fun i=>(i.zero,i.size,i.bytes))=Ve (Ve (.agg #[.slice Vd 0 0,.slice Vd 0 0,.slice Vd 0 0,.slice Vd 0 0,.int .i64 0]),5,104):=UZ
theorem pv{A e:U8}{xs:U5 Vi}(h:W.ownsRow A e z v n xs){k:U8}(f:k<xs.length):∃ g cap u,v=.slice (Ve ⟨g,0,Vd⟩) n cap/\W.cell? ⟨g,k,Vd⟩=Ve u/\∀ o,W.frozen? ⟨g,o,Vd⟩=Vf:=by
 rcases h.2 with ⟨rfl,rfl⟩|⟨g,cap,y,rfl,_,p,_⟩
 ·have:=h.1;rw[Nat.zero_mul] at this;omega
 ·exact⟨g,cap,xs[k],rfl,(uE g k) ▸ h.cells (g:=g) rfl k xs[k] (Xb f),fun o=>by simp[Vs,p]⟩
theorem KB{m:U9}{xs:U5 Vi}{k:U8}(h:k<xs.length):(rp (kF m) k++xs.drop k).set k (.int .i64 m)=rp (kF m) (k+1)++xs.drop (k+1):=by
 have f:(rp (kF m) k).length=k:=by rw[oq];simp
 rw[Z8,Va UU,f,Zs,WQ h,zT,VZ];rfl
def qo(w:Vh)(B:U8)(v0 v1:Vi)(K:U5 U8)(r1 r2 r3:Vi)(l:Vi)(n:U8)(w':Vh):Prop :=
 ∃ K' p h f C A y,BK w' B v0 v1 K' p h f C A y/\C.length+A.length+y.length=n+1/\aF (l.ownBlock.toList++bM B r1 r2 r3) w w'/\(∀ b∈K',b∈K\/l.ownBlock=Ve b\/w.heap.size<=b)/\(∀ b∈bM B p h f,b∈bM B r1 r2 r3\/w.heap.size<=b)
structure KS(pat:U5 Vi)(e:Vm)(w0 Z:Vh)(l:Vi)(n Q:U8)(o:Obj):Prop where
 own:Z.ownsRow 0 e pat.length l n (rp pat n)
 hq:Z.heap[Q]?=Ve o
 lo:w0.heap.size<=Q
 off:aF l.ownBlock.toList w0 Z
 lt:∀ b,l.ownBlock=Ve b->b<w0.heap.size
theorem KS.put{e:Vm}{cs:Array Vi}{t:Vm}(h:KS pat e w0 Z l n Q (.cells cs t))(k:aF l.ownBlock.toList Z Z')(y:Z'.ownsRow 0 e pat.length l n (rp pat n))(i:U8)(v:Vi):KS pat e w0 (Z'.setCell ⟨Q,i,Vd⟩ v) l n Q (.cells (cs.setIfInBounds i v) t):=by
 have f:Q ∉ l.ownBlock.toList:=fun e=>by have:=h.lt Q (by simpa using e);have:=h.lo;omega
 have p:aF [Q] Z' (Z'.setCell ⟨Q,i,Vd⟩ v):=aF.aY ..;refine⟨dO y p (fun b A e=>f (by simp at e;subst e;simpa using A)),lR ((k.block Q (Y9.1 h.hq).1 f).trans h.hq) v,h.lo,(h.off.trans k).setCell (.inr h.lo) _ _,h.lt⟩
theorem KS.at_{e:Vm}{cs:Array Vi}{t:Vm}(h:KS pat e w0 Z l n Q (.cells cs t))(k:aF l.ownBlock.toList Z Z'):Z'.heap[Q]?=Ve (.cells cs t)/\∀ o,Z'.frozen? ⟨Q,o,Vd⟩=Vf:=by
 have f:Q ∉ l.ownBlock.toList:=fun e=>by have:=h.lt Q (by simpa using e);have:=h.lo;omega
 have e:=(k.block Q (Y9.1 h.hq).1 f).trans h.hq;exact⟨e,fun o=>by simp[Vs,e]⟩
structure KF(pat:U5 Vi)(e:Vm)(w0 Z:Vh)(l:Vi)(n Q:U8)(o:Obj)(us:U5 (Vi × U8)):Prop where
 ks:KS pat e w0 Z l n Q o
 fs:∀ p∈us,Fu pat Z p.1 p.2/\∀ b,p.1.ownBlock=Ve b->b≠Q/\b<Z.heap.size/\(l.ownBlock=Ve b\/w0.heap.size<=b)
theorem KF.put{e:Vm}{m:U8}{cs:Array Vi}{t:Vm}{J:U5 (Vi × U8)}(h:KF pat e w0 Z l n Q (.cells cs t) J)(N:Z'.ownsRow 0 e pat.length (.slice (Ve ⟨g,0,Vd⟩) (n+m) cap) (n+m) (rp pat (n+m)))(M:Z'.ownsRow 0 e pat.length l n (rp pat n))(U:∀ u j,j<=n+m->Fu pat Z u j->Fu pat Z' u j)(O:aF l.ownBlock.toList Z Z')(y:l.ownBlock=Ve g\/Z.heap.size<=g)(T:∀ p∈J,p.2<=n+m)(i:U8):
  KF pat e w0 (Z'.setCell ⟨Q,i,Vd⟩ (.slice (Ve ⟨g,0,Vd⟩) (n+m) cap)) l n Q (.cells (cs.setIfInBounds i (.slice (Ve ⟨g,0,Vd⟩) (n+m) cap)) t) ((.slice (Ve ⟨g,0,Vd⟩) (n+m) cap,n+m) :: J):=by
 have C:aF [Q] Z' (Z'.setCell ⟨Q,i,Vd⟩ (.slice (Ve ⟨g,0,Vd⟩) (n+m) cap)):=aF.aY ..;have X:Q<Z.heap.size:=(Y9.1 h.ks.hq).1;have V:=h.ks.off.size
 have I:g≠Q/\g<Z'.heap.size/\(l.ownBlock=Ve g\/w0.heap.size<=g):=by
  refine⟨?_,eV N U3,y.imp id fun e=>by omega⟩;rcases y with e|e
  ·have:=h.ks.lt g e;have:=h.ks.lo;omega
  ·omega
 refine⟨h.ks.put O M i _,fun p D=>?_⟩;rcases VA.1 D with rfl|D
 ·refine⟨(Fu.jh N).off C (fun b f e=>?_),fun b f=>?_⟩
  ·simp[WI] at f e;exact I.1 (f.trans e)
  ·simp[WI] at f;subst f;exact⟨I.1,Wk I.2.1 C.size,I.2.2⟩
 ·obtain⟨S,A⟩:=h.fs p D;exact⟨(U _ _ (T p D) S).off C (fun b f e=>(A b f).1 (by simpa using e)),fun b f=>⟨(A b f).1,Wk (zL (A b f).2.1 O.size) C.size,(A b f).2.2⟩⟩
theorem BK.lt(h:BK w B v0 v1 K r1 r2 r3 X1 X2 X3):∀ b∈bM B r1 r2 r3,b<w.heap.size:=fun b f=>by
 simp only[bM,VA,VB,WW] at f;rcases f with rfl|f|f|f
 ·exact (Y9.1 h.hb).1
 ·exact eV h.br.b1.own f
 ·exact eV h.br.b2.own f
 ·exact eV h.br.b3.own f
theorem KF.blocks{e:Vm}{b:Vi}{m:U9}(h:KF pat e wr Z3 l n Q o [(c,n+3),(b,n+2),(a,n+1),(l,n)]):∀ q∈fO (l,a,b,c,m),q<Z3.heap.size/\(l.ownBlock=Ve q\/wr.heap.size<=q):=fun q f=>by
 simp only[fO,VB,WW] at f;rcases f with f|f|f|f
 ·exact ((h.fs (l,n) UV).2 q f).2
 ·exact ((h.fs (a,n+1) UV).2 q f).2
 ·exact ((h.fs (b,n+2) UV).2 q f).2
 ·exact ((h.fs (c,n+3) UV).2 q f).2
theorem KF.k4{e:Vm}{b:Vi}{m:U9}(f:KF (P m) e wr Z3 l n Q o [(c,n+3),(b,n+2),(a,n+1),(l,n)])(h:n<=900000):K4 P Z3 (l,a,b,c,m) :=
 ⟨n,h,(f.fs (l,n) UV).1,(f.fs (a,n+1) UV).1,(f.fs (b,n+2) UV).1,(f.fs (c,n+3) UV).1⟩
theorem BK.kept{b p h f:Vi}{m:U9}{e:Vm}{J I D:U5 KL}(T:KF pat e wr Z3 l n Q o [(c,n+3),(b,n+2),(a,n+1),(l,n)])(N:aF l.ownBlock.toList w Z3)(U:w.heap.size<=wr.heap.size)(S:J.length+I.length+D.length=X1.length+X2.length+X3.length+1)
  (O:∀ q∈bM B p h f,q∈bM B r1 r2 r3\/Z3.heap.size<=q) (M:BK w9 B v0 v1 (fO (l,a,b,c,m)++K) p h f J I D/\aF (bM B r1 r2 r3) Z3 w9):qo w B v0 v1 K r1 r2 r3 l (X1.length+X2.length+X3.length) w9:=by
 refine⟨_,p,h,f,J,I,D,M.1,S,(N.mono fun y C=>YB _ C).trans (M.2.mono fun y C=>YC _ C),fun q A=>?_,fun q A=>(O q A).imp id fun e=>by have:=N.size;omega⟩;rcases VB.1 A with A|A
 ·rcases (T.blocks q A).2 with e|e
  ·exact .inr (.inl e)
  ·exact .inr (.inr UU)
 ·exact .inl A
theorem BK.apart{b:Vi}{m:U9}{e:Vm}(h:BK w B v0 v1 K r1 r2 r3 X1 X2 X3)(y:KF pat e wr Z3 l n Q o [(c,n+3),(b,n+2),(a,n+1),(l,n)])(C:w.heap.size<=wr.heap.size)(f:∀ b,l.ownBlock=Ve b->b ∉ K/\b ∉ bM B r1 r2 r3):∀ q∈fO (l,a,b,c,m),q<Z3.heap.size/\q ∉ bM B r1 r2 r3:=fun q p=>by
 refine⟨(y.blocks q p).1,fun e=>?_⟩;rcases (y.blocks q p).2 with A|A
 ·exact (f q A).2 e
 ·have:=h.lt q e;omega
theorem BK.uw{b:Vi}{m:U9}{e:Vm}(h:BK w B v0 v1 K r1 r2 r3 X1 X2 X3)(M:BK Z3 B v0 v1 K r1 r2 r3 X1 X2 X3)(A:KF (kF m) e wr Z3 l n Q o [(c,n+3),(b,n+2),(a,n+1),(l,n)])(J:n<=900000)(N:aF l.ownBlock.toList w Z3)(C:w.heap.size<=wr.heap.size)(y:∀ b,l.ownBlock=Ve b->b ∉ K/\b ∉ bM B r1 r2 r3)
  (I:aF r1.ownBlock.toList Z3 w9) (D:w9.ownsRow 0 tI 5 r' (X1.length+1) (X1.flatMap fu++fu (l,a,b,c,m))) (p:s7 Z3 r1 r'):qo w B v0 v1 K r1 r2 r3 l (X1.length+X2.length+X3.length) (w9.setCell ⟨B,2,Vd⟩ r') :=
 BK.kept A N C U0 (fun q f=>by
  simp only[bM,VA,VB,WW] at f ⊢;rcases f with rfl|f|f|f
  ·exact .inl (.inl rfl)
  ·exact (p q f).imp (fun e=>.inr (.inl e)) id
  ·exact .inl (.inr (.inr (.inl f)))
  ·exact .inl (.inr (.inr (.inr f)))) (M.BN (A.k4 (P:=kF) J) (h.apart A C y) I D p)
theorem Np(h:BK w B v0 v1 K r1 r2 r3 X1 X2 X3)(h1:X1.length<=1000000000)(h2:X2.length<=1000000000)(h3:X3.length<=1000000000){xs:U5 Vi}(hl:w.ownsRow 0 3 1 l n xs)(hn:n<=900000)(ac:∀ b,l.ownBlock=Ve b->b ∉ K/\b ∉ bM B r1 r2 r3):
  Vk prog 123 #[.pointer (Ve ⟨B,2,Vd⟩),l] w fun e w'=>e=.returned (.tuple #[])/\qo w B v0 v1 K r1 r2 r3 l (X1.length+X2.length+X3.length) w':=by
 obtain⟨i0,N,J,I,D⟩:=info_parts pE;obtain⟨j0,aq,an,al,ak⟩:=info_parts LM;obtain⟨a,y,rfl⟩:=gC hl;have HB:=aC h;have HL:=aC hl;have HK:=aC ac;have a7:=aC (fun b (f:(Ze a n y).ownBlock=Ve b)=>eV hl f);have ax:xs.length=n:=by have:=hl.1;omega
 clear h hl ac
 go_in
 go_upto_region 2 with (first|(go_at_call 184;refine (Ai HB.out h1 h2 h3).mono ?_;rintro e w1 ⟨rfl,f⟩;have H1:=aC f;clear f))
 generalize ay:wH X1 X2 X3=m;have av:=aC (eu HL.out H1.out)
 go_loopw [5] (fun v wr=>∃ k:U8,k<=n/\v=.int .i64 k/\wr.ownsRow 0 3 1 (.slice a n y) n (rp (kF m) k++xs.drop k)/\aF (Ze a n y).ownBlock.toList w1 wr) (fun v _=>n-(intOf v).toNat)
 case atStart=>exact⟨0,Wh _,rfl,by simpa[zU] using av.out,aF.refl _ _⟩
 case round =>
  obtain⟨k,hk,rfl,A,M⟩:=hrel;have HO:=aC (zA A M)
  by_cases az:k<n
  ·have ab:(k:U9)<(n:U9):=UU
   obtain⟨g,cap,u,e,c0,fz⟩:=pv A (k:=k) (by rw[V5,oq,List.length_drop];simp;omega);simp only[Yr,true_and] at e;obtain⟨rfl,rfl⟩:=e;have f0:=fz k;clear A M
   go_wp2
   go_roundw
   case rel =>
    refine⟨k+1,by omega,by go_num,?_,HO.out.2.setCell (.inl U3) _ _⟩;have:=nN HO.out.1 (b:=g) rfl k (.int .i64 m);rw[KB UU] at this;exact this
   case measure=>simp[intOf];omega
  ·have ab:¬ (k:U9)<(n:U9):=UU
   have ao:k=n:=UU
   subst ao
   have HR:Hid (wr.ownsRow 0 3 1 (.slice a k y) k (rp (kF m) k)):=by
    have:=HO.out.1;rw[WS UU,X5] at this;exact this
   clear A M
   go_upto_region 6 with fail
   change Za _ _ _ _ (wr.alloc (.cells #[.slice a k y,.slice Vd 0 0,.slice Vd 0 0,.slice Vd 0 0,.int .i64 m] tI))
   have S0:Hid (KS (kF m) 3 wr (wr.alloc (.cells #[.slice a k y,.slice Vd 0 0,.slice Vd 0 0,.slice Vd 0 0,.int .i64 m] tI)) (.slice a k y) k wr.heap.size (.cells #[.slice a k y,.slice Vd 0 0,.slice Vd 0 0,.slice Vd 0 0,.int .i64 m] tI)) :=
    ⟨HR.out.alloc _,cC _ _,Nat.le_refl _,(aF.refl _ _).alloc _,fun b f=>eV HR.out f⟩
   have U:Hid (KF (kF m) 3 wr (wr.alloc (.cells #[.slice a k y,.slice Vd 0 0,.slice Vd 0 0,.slice Vd 0 0,.int .i64 m] tI)) (.slice a k y) k wr.heap.size (.cells #[.slice a k y,.slice Vd 0 0,.slice Vd 0 0,.slice Vd 0 0,.int .i64 m] tI) [(.slice a k y,k)]) :=
    ⟨S0.out,fun p hp=>by
     rw[YD.1 hp]
     exact⟨Fu.jh S0.out.own,fun b f=>⟨by have:=S0.out.lt b f;omega,eV S0.out.own f,.inl f⟩⟩⟩
   clear S0;generalize wr.alloc (.cells #[.slice a k y,.slice Vd 0 0,.slice Vd 0 0,.slice Vd 0 0,.int .i64 m] tI)=Z0 at U ⊢
   go_upto_region 7 with (first|(at_builtin;go_loud (refine pt rfl _ _ 38 rfl (kF m) 8 underlying38 N J I D UW rfl UV U2 U.out.ks.own (m:=1) (cs:=#[.int .i64 m]) (by simp[rp]) UW UW rfl rfl UU (zN _) ?_);intro g6 c6 w6 o6 aa f6 k6 ai;have q6:=aZ (U.out.ks.at_ k6).1 1 rfl;have z6:=(U.out.ks.at_ k6).2 1))
   have T:=aC (U.out.put o6 aa f6 k6 ai UV 1);generalize w6.setCell ⟨wr.heap.size,1,Vd⟩ (.slice (Ve ⟨g6,0,Vd⟩) (k+1) c6)=Z1 at T ⊢;clear o6 aa f6 k6 ai q6 z6 U
   go_upto_region 8 with (first|(at_builtin;go_loud (refine pt rfl _ _ 38 rfl (kF m) 8 underlying38 N J I D UW rfl UV U2 T.out.ks.own (m:=2) (cs:=#[.int .i64 m,.int .i64 m]) (by simp[rp]) UW UW rfl rfl UU (zN _) ?_);intro g7 c7 w7 o7 Y f7 k7 ag;have q7:=aZ (T.out.ks.at_ k7).1 2 rfl;have z7:=(T.out.ks.at_ k7).2 2))
   have S:=aC (T.out.put o7 Y f7 k7 ag UV 2);generalize w7.setCell ⟨wr.heap.size,2,Vd⟩ (.slice (Ve ⟨g7,0,Vd⟩) (k+2) c7)=Z2 at S ⊢;clear o7 Y f7 k7 ag q7 z7 T
   go_upto_region 9 with (first|(at_builtin;go_loud (refine pt rfl _ _ 38 rfl (kF m) 8 underlying38 N J I D UW rfl UV U2 S.out.ks.own (m:=3) (cs:=#[.int .i64 m,.int .i64 m,.int .i64 m]) (by simp[rp]) UW UW rfl rfl UU (zN _) ?_);intro g8 c8 w8 o8 X f8 k8 af;have q8:=aZ (S.out.ks.at_ k8).1 3 rfl;have z8:=(S.out.ks.at_ k8).2 3))
   have C:=aC (S.out.put o8 X f8 k8 af UV 3);generalize w8.setCell ⟨wr.heap.size,3,Vd⟩ (.slice (Ve ⟨g8,0,Vd⟩) (k+3) c8)=Z3 at C ⊢;clear o8 X f8 k8 af q8 z8 S;have R3:aF (Ze a k y).ownBlock.toList w Z3:=(aF.aD H1.out).trans (HO.out.2.trans C.out.ks.off);have aj:=aC (fun b (f:b∈(Ze a k y).ownBlock.toList)=>HK.out b (by simpa using f));have V:=aC (HB.out.off R3 (fun b f e=>(aj.out b e).2 f) (fun b f e=>(aj.out b e).1 f));have au:=aC R3;obtain⟨_,_,d2,_,_,ae⟩:=V.out.cells;obtain⟨⟨ra,rc,er⟩,_,_⟩:=V.out.ke;subst er;have fB:=ae 2;have s0:=aZ C.out.ks.hq 0 rfl;have s1:=aZ C.out.ks.hq 1 rfl;have s2:=aZ C.out.ks.hq 2 rfl;have s3:=aZ C.out.ks.hq 3 rfl;have s4:=aZ C.out.ks.hq 4 rfl;have a6:∀ o,(Z3.alloc o).cell? ⟨B,2,Vd⟩=Ve (.slice ra X1.length rc):=fun o=>aN ((zr _ Z3).alloc (zq _) o) d2
   have DD:=aC (fun o=>eu V.out.br.b1.own (((zr _ Z3).alloc (zq _) o).drew));have ad:(Ze ra X1.length rc).ownBlock≠Ve B:=iu V.out.br.b1.own V.out.hb UW;clear R3 ae
   go_region_law (first
    |(refine step_append_lies _ rfl _ _ 80 rfl 0 tI j0 _ 5 104 underlying80 aq an al ak rfl UW (.slice ra X1.length rc) X1.length (X1.flatMap fu) rfl (DD.out _) ⟨Z3.heap.size,0,Vd⟩ 1 1 (fu (.slice a k y,.slice (Ve ⟨g6,0,Vd⟩) (k+1) c6,.slice (Ve ⟨g7,0,Vd⟩) (k+2) c7,.slice (Ve ⟨g8,0,Vd⟩) (k+3) c8,m)) rfl rfl (WM (cs:=(fu (.slice a k y,.slice (Ve ⟨g6,0,Vd⟩) (k+1) c6,.slice (Ve ⟨g7,0,Vd⟩) (k+2) c7,.slice (Ve ⟨g8,0,Vd⟩) (k+3) c8,m)).toArray) (cC Z3 _)) (by simp[fu,WN]) UU U1 UU (zN _) (Z3.heap.size+1) UV ?_;intro g9 c9 w9 o9 O ar aw;have k9:aF ((Ze ra X1.length rc).ownBlock.toList) Z3 w9:=aF.grown (((aF.refl _ Z3).alloc _).drew) O (fun k hk=>.inl (by simp[hk]));have d9:=k9.cell (fun e=>ad (by simpa using e)) d2;have f9:=(k9.frozen (fun e=>ad (by simpa using e)) (Vr _ _ d2)).trans fB))
   all_goals
    go_wp2_with fail
    (try simp only[Exit.inBlock,Exit.then]);refine bodyPost_end (results_none rfl _ _ _) rfl ?_
    refine⟨rfl,HB.out.uw V.out C.out hn au.out (Vq H1.out.size HO.out.2.size) HK.out k9 o9 (fun b f=>by
     simp[WI] at f;subst f
     exact ar.imp id (fun e=>by omega))⟩
def rK(n:U9):U4:=if n=1 then ⟨#[100,97,105,108,121]⟩ else if n=2 then ⟨#[119,101,101,107,108,121]⟩ else ⟨#[109,111,110,116,104,108,121]⟩
def pY(r:Rd.bL):Array Vi:=#[.string (rK r.pc),.int .i64 r.ev,.bool (aI r.acc 0),.bool (aI r.acc 1),.bool (aI r.acc 2),.bool (aI r.acc 3),.bool (aI r.acc 4),.bool (aI r.acc 5),.bool (aI r.acc 6),.int .i64 r.fr,.int .i64 r.mn,.int .i64 r.mi,.int .i64 r.ti,.int .i64 r.un]
def mO(r:Rd.bL):Vi:=.agg (pY r)
theorem Kb(x n:U9):(x.tmod n==0)=decide (x % n=0):=by
 rw[Xc,beq_iff_eq,decide_eq_true_eq,<- Int.dvd_iff_tmod_eq_zero,Int.dvd_iff_emod_eq_zero]
def gW(r:Rd.bL):Obj:=.cells (pY r) 273
theorem nw{r:Rd.bL}(h:W.heap[Q]?=Ve (gW r)):(W.cell? ⟨Q,0,Vd⟩=Ve (.string (rK r.pc))/\W.cell? ⟨Q,1,Vd⟩=Ve (.int .i64 r.ev)/\W.cell? ⟨Q,9,Vd⟩=Ve (.int .i64 r.fr)/\W.cell? ⟨Q,10,Vd⟩=Ve (.int .i64 r.mn)/\W.cell? ⟨Q,11,Vd⟩=Ve (.int .i64 r.mi)/\W.cell? ⟨Q,12,Vd⟩=Ve (.int .i64 r.ti)/\W.cell? ⟨Q,13,Vd⟩=Ve (.int .i64 r.un))/\∀ j,j<7->W.cell? ⟨Q,2+j,Vd⟩=Ve (.bool (aI r.acc j)):=by
 refine⟨⟨aZ h 0 rfl,aZ h 1 rfl,aZ h 9 rfl,aZ h 10 rfl,aZ h 11 rfl,aZ h 12 rfl,aZ h 13 rfl⟩,fun j f=>?_⟩;rcases (show j=0\/j=1\/j=2\/j=3\/j=4\/j=5\/j=6 by omega) with rfl|rfl|rfl|rfl|rfl|rfl|rfl
 all_goals exact aZ h _ rfl
theorem Kj(r:Rd.bL)(y:Rd.fw r)(d:U9)(h0:r.fr<=d)(S:d<728)(w:Vh):
  Vk prog 239 #[mO r,.int .i64 d] w fun e w'=>e=.returned (.bool (Rd.has r d))/\Vj w.heap.size w w':=by
 have T:=y.f0;have e1:=y.e1;have e2:=y.e2;have f1:=y.f1;have hz:(r.ev==0)=Vf:=by rw[beq_eq_false_iff_ne];omega
 have A:=aC (zA ((zr _ w).alloc (zq _) (gW r)) (cC w (gW r)));have J:r.pc=1\/r.pc=2\/r.pc=3:=by have:=y.CZ;have:=y.CY;omega
 have h:∀ x:U9,0<=x->0<=x % r.ev/\x % r.ev<100:=fun x _=>⟨Int.emod_nonneg _ UU,Int.lt_of_lt_of_le (Int.emod_lt_of_pos _ UU) UU⟩
 rcases J with f|f|f
 ·have e:Rd.has r d=((d-r.fr) % r.ev==0):=by unfold Rd.has;rw[Vb f];rfl
  have D:Vp.wrap (d-r.fr)=d-r.fr:=cG UU UU;have I:=h (d-r.fr) UU;have O:Vp.wrap ((d-r.fr) % r.ev)=(d-r.fr) % r.ev:=cG UU UU;rw[e];have HP:Hid (rK r.pc=⟨#[100,97,105,108,121]⟩):=by rw[Hid,f];rfl
  clear f;simp only[mO,pY]
  go_in
  go_upto_region 1 with fail
  change Za _ _ _ _ (w.alloc (gW r));obtain⟨⟨C,X,V,_⟩,_⟩:=nw A.out.2;rw[HP.out] at C;generalize w.alloc (gW r)=W at *;clear I e h
  go_wp2
  go_ret;exact⟨rfl,A.out.1⟩
 ·obtain⟨j,N⟩:∃ j:U8,d % 7=j:=⟨(d % 7).toNat,by omega⟩;have M:j<7:=UU
  obtain⟨Y,p⟩:∃ b,aI r.acc j=b:=⟨_,rfl⟩;have e:Rd.has r d=(Y && ((d / 7-r.fr / 7) % r.ev==0)):=by unfold Rd.has;rw[Va UU,Vb f,N,p];rfl
  have q1:d.tmod 7=j:=by rw[Int.tmod_eq_emod_of_nonneg UU];exact N
  have q2:d.tdiv 7=d / 7:=Int.tdiv_eq_ediv_of_nonneg UU;have q3:r.fr.tdiv 7=r.fr / 7:=Int.tdiv_eq_ediv_of_nonneg T;have w0:Vp.wrap (j:U9)=j:=cG UU UU;have D:Vp.wrap (d / 7)=d / 7:=cG UU UU;have O:Vp.wrap (r.fr / 7)=r.fr / 7:=cG UU UU;have w3:Vp.wrap (d / 7-r.fr / 7)=d / 7-r.fr / 7:=cG UU UU;have I:=h (d / 7-r.fr / 7) UU;have w4:Vp.wrap ((d / 7-r.fr / 7) % r.ev)=(d / 7-r.fr / 7) % r.ev:=cG UU UU;have ab:¬ (j:U9)<0:=UU
  have aa:(j:U9)<7:=UU
  have HP:Hid (rK r.pc=⟨#[119,101,101,107,108,121]⟩):=by rw[Hid,f];rfl
  clear f I h N;simp only[mO,pY]
  cases Y
  all_goals
   simp only[Bool.false_and,YX] at e;rw[e]
   go_in
   go_upto_region 1 with fail
   change Za _ _ _ _ (w.alloc (gW r));obtain⟨⟨C,X,V,_⟩,U⟩:=nw A.out.2;rw[HP.out] at C;have cj:=U j M;clear U;rw[p] at cj;generalize w.alloc (gW r)=W at *;clear e p
   go_wp2
   go_ret;exact⟨rfl,A.out.1⟩
 ·obtain⟨_,_,y1,y2⟩:=Rd.pI (x:=d) UU S;obtain⟨_,_,z1,z2⟩:=Rd.pI T f1
  have e:Rd.has r d=((Cal.dT r.fr==Cal.dT d) && ((12*Cal.yT d+Cal.mT d-12*Cal.yT r.fr-Cal.mT r.fr).tmod r.ev==0)):=by
   rw[Kb];unfold Rd.has;rw[Va UU,Va UU]
   congr 1
   rw[Xc,decide_eq_true_eq,beq_iff_eq];exact eq_comm
  have D1:=aC (fun W=>zJ r.fr W UU UU);have D2:=aC (fun W=>zJ d W UU UU);rw[e];clear e;obtain⟨m1,m2⟩:1<=Cal.mT d/\Cal.mT d<=12:=by have:=(Cal.tC d UU UU).1;exact⟨((Cal.gO _ _ _).1 this).2.2.1,((Cal.gO _ _ _).1 this).2.2.2.1⟩
  obtain⟨m3,m4⟩:1<=Cal.mT r.fr/\Cal.mT r.fr<=12:=by have:=(Cal.tC r.fr UU UU).1;exact⟨((Cal.gO _ _ _).1 this).2.2.1,((Cal.gO _ _ _).1 this).2.2.2.1⟩
  generalize Cal.yT d=yd at *;generalize Cal.mT d=md at *;generalize Cal.dT d=dd at *;generalize Cal.yT r.fr=yf at *;generalize Cal.mT r.fr=mf at *;generalize Cal.dT r.fr=df at *;have D:Vp.wrap (12*yd)=12*yd:=cG UU UU;have O:Vp.wrap (12*yd+md)=12*yd+md:=cG UU UU;have w3:Vp.wrap (12*yf)=12*yf:=cG UU UU;have w4:Vp.wrap (12*yd+md-12*yf)=12*yd+md-12*yf:=cG UU UU;have w5:Vp.wrap (12*yd+md-12*yf-mf)=12*yd+md-12*yf-mf:=cG UU UU
  have w6:Vp.wrap ((12*yd+md-12*yf-mf).tmod r.ev)=(12*yd+md-12*yf-mf).tmod r.ev:=by
   have S:=Int.tmod_lt_of_pos (12*yd+md-12*yf-mf) (show 0<r.ev by omega);have h2:=Int.lt_tmod_of_pos (12*yd+md-12*yf-mf) (show 0<r.ev by omega);exact cG UU UU
  generalize hx:12*yd+md-12*yf-mf=x at *;have HP:Hid (rK r.pc=⟨#[109,111,110,116,104,108,121]⟩):=by rw[Hid,f];rfl
  clear f;simp only[mO,pY]
  cases hd:df==dd
  all_goals
   simp only[Bool.false_and,YX]
   go_in
   go_upto_region 1 with fail
   change Za _ _ _ _ (w.alloc (gW r));obtain⟨⟨C,X,V,_⟩,_⟩:=nw A.out.2;rw[HP.out] at C;generalize w.alloc (gW r)=W at *
   go_upto_region 7 with (first|(go_at_call 73;refine (D1.out _).mono ?_;rintro e D ⟨rfl,rfl⟩))
   go_upto_region 8 with (first|(go_at_call 73;refine (D2.out _).mono ?_;rintro e D ⟨rfl,rfl⟩))
   go_wp2
   go_ret;exact⟨rfl,A.out.1⟩
def jX(ws:U8->U4)(i k:U8)(pc:U9)(acc:U5 U9)(tm:U7):Rd.bL:=⟨pc,bF (ws (i+1)) 1 7,acc,eU (ws (k+1)),gT (ws (k+3)),bF (ws (k+5)) 1 7,if tm then bF (ws (k+7)) 1 7 else 0,if tm then 0 else eU (ws (k+7))⟩
structure rH(ws:U8->U4)(i k:U8)(pc:U9)(acc:U5 U9)(tm:U7):Prop where
 hp:ws i=rK pc
 h3:pc=1\/pc=2\/pc=3
 hk:(pc=2/\k=i+2+1/\aB.dU (ws (i+2))=Vg/\aB.iq (ws (i+2))=Ve acc)\/(pc≠2/\k=i+2/\acc=[])
 ht:((ws (k+6)).toList==[116,105,109,101,115])=tm
inductive iD (ws:U5 U4):U5 U4->aA.fJ->Prop where
 |aT:iD ws [ky,cD,eN] (.aT (ws.getD 1 YN) (bF (ws.getD 2 YN) 1 7))
 |book:iD ws [kr,cD,eN,bG,bG] (.enter 1 (ws.getD 1 YN) (bF (ws.getD 2 YN) 1 7) (cZ (ws.getD 3 YN)) (cZ (ws.getD 4 YN)) 0)
 |hold:iD ws [qD,cD,eN,bG,bG,gj] (.enter 2 (ws.getD 1 YN) (bF (ws.getD 2 YN) 1 7) (cZ (ws.getD 3 YN)) (cZ (ws.getD 4 YN)) (bF (ws.getD 5 YN) 1 7))
 |wait:iD ws [qG,cD,eN,bG,bG,gj] (.enter 3 (ws.getD 1 YN) (bF (ws.getD 2 YN) 1 7) (cZ (ws.getD 3 YN)) (cZ (ws.getD 4 YN)) (bF (ws.getD 5 YN) 1 7))
 |confirm:iD ws [qU,mv] (.confirm (bF (ws.getD 1 YN) 1 7))
 |cancel:iD ws [ku,mv] (.cancel (bF (ws.getD 1 YN) 1 7))
 |list0:iD ws [dY,cD] (.list (ws.getD 1 YN) 0 1048320)
 |list1:iD ws [dY,cD,bG,bG] (.list (ws.getD 1 YN) (cZ (ws.getD 2 YN)) (cZ (ws.getD 3 YN)))
 |cY:iD ws [kn,cD,bG,bG] (.cY (ws.getD 1 YN) (cZ (ws.getD 2 YN)) (cZ (ws.getD 3 YN)))
 |find:iD ws [kl,cD,eN,gj,bG,bG] (.find (ws.getD 1 YN) (bF (ws.getD 2 YN) 1 7) (bF (ws.getD 3 YN) 1 7) (cZ (ws.getD 4 YN)) (cZ (ws.getD 5 YN)))
 |tick:iD ws [qF,gj] (.tick (bF (ws.getD 1 YN) 1 7))
 |waiting:iD ws [qP] .waiting
 |clock:iD ws [kM] .clock
 |series {K E:U5 U4}{k:U8}{pc:U9}{acc:U5 U9}{tm:U7}(hr:rH (ws.getD · YN) 3 k pc acc tm) (hn:k+7<(mz++K++bU++E).length):iD ws (mz++K++bU++E) (.series (ws.getD 1 YN) (bF (ws.getD 2 YN) 1 7) (jX (ws.getD · YN) 3 k pc acc tm))
 |expand {K E:U5 U4}{k:U8}{pc:U9}{acc:U5 U9}{tm:U7}(hr:rH (ws.getD · YN) 1 k pc acc tm) (hn:k+7<(nC++K++bU++E).length):iD ws (nC++K++bU++E) (.expand (jX (ws.getD · YN) 1 k pc acc tm))
def nE(s:U4)(v:Vi)(st:U8 × U7):Prop:=qm s st/\(st.2=Vf->cB (aB.aP s).length st.1 st.2=Vf->∃ q l,Full s q/\iD (aB.aP s) q l/\LV v l/\aA.jA l)
theorem qs{x:U4}(h:bB x=Vg):cZ x=dL x:=by unfold cZ dL;rw[Vb h,Vb h]
theorem wB{x:U4}(h:dE x=Vg):bF x 1 7=cL x:=wJ (An h).1
theorem Dg{x:U4}(h:eJ x=Vg):bF x 1 7=cL x:=wJ (An h).1
theorem te{s:U4}(h:bD (aB.aP s) 0 Vf k=Vg)(p:mB.filter (nI k)=[q])(f:aQ (aB.aP s) (q.map aV) (0,Vf)=st):qm s st/\(st.2=Vf->cB (aB.aP s).length st.1 st.2=Vf->Full s q) :=
 ⟨uN h p (DH f),uM h p (DH f) f⟩
theorem rM{s f:U4}(p:Full s (f :: cD :: R)):((aB.aP s).getD 1 YN).size<=1000:=by
 have h:=lq [] p.all;rw[gS] at h;exact UL h
theorem Mv{s:U4}(h:bD (aB.aP s) 0 Vf ky=Vg):nE s (.iface 149 (.agg #[.string (gV (aB.aP s) (1,Vf)),.int .i64 (bT (aB.aP s) (aQ (aB.aP s) [bI] (1,Vf)) dE cL)])) (aQ (aB.aP s) [bI,dE] (1,Vf)):=by
 have A:jD ky=Vg:=UY
 have K:=te (q:=[ky,cD,eN]) h UY (by rw[<- kC h A]);simp only[ZI,gS,lN] at K;refine⟨K.1,fun C y=>⟨_,_,K.2 C y,.aT,?_⟩⟩;have f:=K.2 C y;have v1:=lO (Q:=[cD]) (s:=eN) (R:=[]) h A f.all cL;have p:=lq [cD] (s:=eN) (R:=[]) f.all;simp only[ZI,V7,gS,lN] at v1 p;rw[rL f.all,v1,wB p];exact⟨.aT _ (rM f) _,sk p⟩
theorem Ly{s:U4}(h:bD (aB.aP s) 0 Vf kr=Vg):nE s (.iface 154 (.agg #[.string (gV (aB.aP s) (1,Vf)),.int .i64 (bT (aB.aP s) (aQ (aB.aP s) [bI] (1,Vf)) dE cL),.int .i64 (bT (aB.aP s) (aQ (aB.aP s) [bI,dE] (1,Vf)) bB dL),.int .i64 (bT (aB.aP s) (aQ (aB.aP s) [bI,dE,bB] (1,Vf)) bB dL)])) (aQ (aB.aP s) [bI,dE,bB,bB] (1,Vf)):=by
 have p:jD kr=Vg:=UY
 have K:=te (q:=[kr,cD,eN,bG,bG]) h UY (by rw[<- kC h p]);simp only[ZI,gS,lN,mS] at K;refine⟨K.1,fun J I=>⟨_,_,K.2 J I,.book,?_⟩⟩;have f:=K.2 J I;have v1:=lO (Q:=[cD]) (s:=eN) (R:=[bG,bG]) h p f.all cL;have C:=lq [cD] (s:=eN) (R:=[bG,bG]) f.all;simp only[ZI,V7,gS,lN] at v1 C;have v2:=lO (Q:=[cD,eN]) (s:=bG) (R:=[bG]) h p f.all dL;have A:=lq [cD,eN] (s:=bG) (R:=[bG]) f.all;simp only[ZI,V7,gS,lN,mS] at v2 A;have D:=lO (Q:=[cD,eN,bG]) (s:=bG) (R:=[]) h p f.all dL;have y:=lq [cD,eN,bG] (s:=bG) (R:=[]) f.all;simp only[ZI,V7,gS,lN,mS] at D y;rw[rL f.all,v1,v2,D,wB C,qs A,qs y];exact⟨.book _ (rM f) _ _ _,⟨.inl ⟨rfl,rfl⟩,(sk C).1,(sk C).2,(kV A).1,(kV A).2,(kV y).1,(kV y).2⟩⟩
theorem MD{s:U4}(h:bD (aB.aP s) 0 Vf ku=Vg):nE s (.iface 168 (.agg #[.int .i64 (bT (aB.aP s) (1,Vf) oi cL)])) (aQ (aB.aP s) [oi] (1,Vf)):=by
 have p:jD ku=Vg:=UY
 have K:=te (q:=[ku,mv]) h UY (by rw[<- kC h p]);simp only[ZI,Di] at K;refine⟨K.1,fun A f=>⟨_,_,K.2 A f,.cancel,?_⟩⟩;have y:=K.2 A f;have v0:=lO (Q:=[]) (s:=mv) (R:=[]) h p y.all cL;have C:=lq [] (s:=mv) (R:=[]) y.all;simp only[ZI,V7,UG,Di] at v0 C;rw[v0,wJ C];exact⟨.cancel _,N5 _⟩
theorem LC{s:U4}(h:bD (aB.aP s) 0 Vf kn=Vg):nE s (.iface 176 (.agg #[.string (gV (aB.aP s) (1,Vf)),.int .i64 (bT (aB.aP s) (aQ (aB.aP s) [bI] (1,Vf)) bB dL),.int .i64 (bT (aB.aP s) (aQ (aB.aP s) [bI,bB] (1,Vf)) bB dL)])) (aQ (aB.aP s) [bI,bB,bB] (1,Vf)):=by
 have A:jD kn=Vg:=UY
 have K:=te (q:=[kn,cD,bG,bG]) h UY (by rw[<- kC h A]);simp only[ZI,gS,mS] at K;refine⟨K.1,fun D C=>⟨_,_,K.2 D C,.cY,?_⟩⟩;have f:=K.2 D C;have v1:=lO (Q:=[cD]) (s:=bG) (R:=[bG]) h A f.all dL;have y:=lq [cD] (s:=bG) (R:=[bG]) f.all;simp only[ZI,V7,gS,mS] at v1 y;have v2:=lO (Q:=[cD,bG]) (s:=bG) (R:=[]) h A f.all dL;have p:=lq [cD,bG] (s:=bG) (R:=[]) f.all;simp only[ZI,V7,gS,mS] at v2 p;rw[rL f.all,v1,v2,qs y,qs p];exact⟨.cY _ (rM f) _ _,⟨(kV y).1,(kV y).2,(kV p).1,(kV p).2⟩⟩
theorem Lr{s:U4}(h:bD (aB.aP s) 0 Vf kl=Vg):nE s (.iface 178 (.agg #[.string (gV (aB.aP s) (1,Vf)),.int .i64 (bT (aB.aP s) (aQ (aB.aP s) [bI] (1,Vf)) dE cL),.int .i64 (bT (aB.aP s) (aQ (aB.aP s) [bI,dE] (1,Vf)) eJ cL),.int .i64 (bT (aB.aP s) (aQ (aB.aP s) [bI,dE,eJ] (1,Vf)) bB dL),.int .i64 (bT (aB.aP s) (aQ (aB.aP s) [bI,dE,eJ,bB] (1,Vf)) bB dL)])) (aQ (aB.aP s) [bI,dE,eJ,bB,bB] (1,Vf)):=by
 have p:jD kl=Vg:=UY
 have K:=te (q:=[kl,cD,eN,gj,bG,bG]) h UY (by rw[<- kC h p]);simp only[ZI,gS,lN,ta,mS] at K;refine⟨K.1,fun N M=>⟨_,_,K.2 N M,.find,?_⟩⟩;have f:=K.2 N M;have v1:=lO (Q:=[cD]) (s:=eN) (R:=[gj,bG,bG]) h p f.all cL;have D:=lq [cD] (s:=eN) (R:=[gj,bG,bG]) f.all;simp only[ZI,V7,gS,lN] at v1 D;have v2:=lO (Q:=[cD,eN]) (s:=gj) (R:=[bG,bG]) h p f.all cL;have C:=lq [cD,eN] (s:=gj) (R:=[bG,bG]) f.all;simp only[ZI,V7,gS,lN,ta] at v2 C;have J:=lO (Q:=[cD,eN,gj]) (s:=bG) (R:=[bG]) h p f.all dL;have A:=lq [cD,eN,gj] (s:=bG) (R:=[bG]) f.all;simp only[ZI,V7,gS,lN,ta,mS] at J A;have I:=lO (Q:=[cD,eN,gj,bG]) (s:=bG) (R:=[]) h p f.all dL;have y:=lq [cD,eN,gj,bG] (s:=bG) (R:=[]) f.all;simp only[ZI,V7,gS,lN,ta,mS] at I y;rw[rL f.all,v1,v2,J,I,wB D,Dg C,qs A,qs y];exact⟨.find _ (rM f) _ _ _ _,⟨(sk D).1,(sk D).2,(A2 C).1,(A2 C).2,(kV A).1,(kV A).2,(kV y).1,(kV y).2⟩⟩
theorem L3{s:U4}(h:bD (aB.aP s) 0 Vf kM=Vg):nE s (.iface 183 (.agg #[])) (1,Vf):=by
 have p:jD kM=Vg:=UY
 have K:=te (q:=[kM]) h UY (by rw[<- kC h p]);refine⟨K.1,fun y f=>⟨_,_,K.2 y f,.clock,?_⟩⟩;exact⟨.clock,trivial⟩
theorem L9{s:U4}(h:bD (aB.aP s) 0 Vf dY=Vg)(J:cB (aB.aP s).length (aQ (aB.aP s) [bI] (1,Vf)).1 (aQ (aB.aP s) [bI] (1,Vf)).2=Vf):nE s (.iface 170 (.agg #[.string (gV (aB.aP s) (1,Vf)),.bool Vf,.int .i64 0,.int .i64 0])) (aQ (aB.aP s) [bI] (1,Vf)):=by
 have M:jD dY=Vg:=UY
 have y:mB.filter (nI dY)=[[dY,cD],[dY,cD,bG,bG]]:=UY
 have f:aQ (aB.aP s) ([dY,cD].map aV) (0,Vf)=aQ (aB.aP s) [bI] (1,Vf):=by rw[<- kC h M];simp only[ZI,gS]
 have A:=Mt f J;have I:=f;have K:qm s _/\(_->_->Full s _):=⟨uN h y A,uM h y A I⟩;refine⟨K.1,fun D p=>⟨_,_,K.2 D p,.list0,?_⟩⟩;have C:=K.2 D p;rw[rL C.all];exact⟨.list _ (rM C) Vf 0 0 0 1048320 rfl rfl,⟨by omega,by omega,by omega,by omega⟩⟩
theorem Ma{s:U4}(h:bD (aB.aP s) 0 Vf dY=Vg)(O:cB (aB.aP s).length (aQ (aB.aP s) [bI] (1,Vf)).1 (aQ (aB.aP s) [bI] (1,Vf)).2=Vg):nE s (.iface 170 (.agg #[.string (gV (aB.aP s) (1,Vf)),.bool Vg,.int .i64 (bT (aB.aP s) (aQ (aB.aP s) [bI] (1,Vf)) bB dL),.int .i64 (bT (aB.aP s) (aQ (aB.aP s) [bI,bB] (1,Vf)) bB dL)])) (aQ (aB.aP s) [bI,bB,bB] (1,Vf)):=by
 have p:jD dY=Vg:=UY
 have J:mB.filter (nI dY)=[[dY,cD],[dY,cD,bG,bG]]:=UY
 have C:aQ (aB.aP s) ([dY,cD].map aV) (0,Vf)=aQ (aB.aP s) [bI] (1,Vf):=by rw[<- kC h p];simp only[ZI,gS]
 have D:aQ (aB.aP s) ([dY,cD,bG,bG].map aV) (0,Vf)=aQ (aB.aP s) [bI,bB,bB] (1,Vf):=by rw[<- kC h p];simp only[ZI,gS,mS]
 have M:=Mu C O D;have K:qm s _/\(_->_->Full s _):=⟨uN h J M,uM h J M D⟩;refine⟨K.1,fun N I=>⟨_,_,K.2 N I,.list1,?_⟩⟩;have f:=K.2 N I;have v1:=lO (Q:=[cD]) (s:=bG) (R:=[bG]) h p f.all dL;have A:=lq [cD] (s:=bG) (R:=[bG]) f.all;simp only[ZI,V7,gS,mS] at v1 A;have v2:=lO (Q:=[cD,bG]) (s:=bG) (R:=[]) h p f.all dL;have y:=lq [cD,bG] (s:=bG) (R:=[]) f.all;simp only[ZI,V7,gS,mS] at v2 y;rw[rL f.all,v1,v2,qs A,qs y];exact⟨.list _ (rM f) Vg _ _ _ _ rfl rfl,⟨(kV A).1,(kV A).2,(kV y).1,(kV y).2⟩⟩
theorem oZ{x:U4}(h:eo x=Vg):bF x 1 7=cL x:=wJ (An h).1
theorem wt{x:U4}(h:aB.cM x=Vg):eU x=fT x:=by
 unfold fT eU;rw[Vb h];simp only[aB.cM,decide_eq_true_eq] at h;rw[Vb ⟨h.1,h.2.1,by omega⟩]
theorem CX{K E:U5 U4}{ev:U9}(h:C8 H ws pc ev acc fr mn mi ti un K E):∃ k tm,rH (ws.getD · YN) H.length k pc acc tm/\jX (ws.getD · YN) H.length k pc acc tm=⟨pc,ev,acc,fr,mn,mi,ti,un⟩/\k+7<(H++K++bU++E).length:=by
 obtain⟨I,⟨k0,D,Y,C,X,A,rfl,rfl,rfl⟩,p⟩:=h
 have f:∀ {k:U8}{tm:U7},k=H.length+K.length->pc=1\/pc=2\/pc=3->ws.getD H.length YN=rK pc->bF (ws.getD (H.length+1) YN) 1 7=ev->((pc=2/\k=H.length+2+1/\aB.dU (ws.getD (H.length+2) YN)=Vg/\aB.iq (ws.getD (H.length+2) YN)=Ve acc)\/(pc≠2/\k=H.length+2/\acc=[]))->E.length=2->((ws.getD (k+6) YN).toList==[116,105,109,101,115])=tm->(if tm then bF (ws.getD (k+7) YN) 1 7 else 0)=ti->(if tm then 0 else eU (ws.getD (k+7) YN))=un->_:=fun {k tm} y S V U T O N M J=>(⟨k,tm,⟨V,S,T,N⟩,by
  subst y M J U
  simp only[jX,wt D,Dg A,gT,C,if_true],by subst y;simp[bU,O];omega⟩:∃ k tm,rH (ws.getD · YN) H.length k pc acc tm/\jX (ws.getD · YN) H.length k pc acc tm=⟨pc,ev,acc,fT (ws.getD (H.length+K.length+1) YN),aB.fo (ws.getD (H.length+K.length+3) YN),cL (ws.getD (H.length+K.length+5) YN),ti,un⟩/\k+7<(H++K++bU++E).length)
 cases I with
 |daily p0 p1=>cases p with
  |times q0 q1=>exact f (tm:=Vg) rfl UU (p0.trans UY) (oZ p1) (.inr ⟨by omega,rfl,rfl⟩) rfl (by rw[q0];decide +kernel) (oZ q1) rfl
  |til q0 q1=>exact f (tm:=Vf) rfl UU (p0.trans UY) (oZ p1) (.inr ⟨by omega,rfl,rfl⟩) rfl (by rw[q0];decide +kernel) rfl (wt q1)
 |weekly acc p0 p1 p2=>cases p with
  |times q0 q1=>exact f (tm:=Vg) rfl UU (p0.trans UY) (oZ p1) (.inl ⟨rfl,rfl,by rw[aB.dU,p2];rfl,p2⟩) rfl (by rw[q0];decide +kernel) (oZ q1) rfl
  |til q0 q1=>exact f (tm:=Vf) rfl UU (p0.trans UY) (oZ p1) (.inl ⟨rfl,rfl,by rw[aB.dU,p2];rfl,p2⟩) rfl (by rw[q0];decide +kernel) rfl (wt q1)
 |monthly p0 p1=>cases p with
  |times q0 q1=>exact f (tm:=Vg) rfl UU (p0.trans UY) (oZ p1) (.inr ⟨by omega,rfl,rfl⟩) rfl (by rw[q0];decide +kernel) (oZ q1) rfl
  |til q0 q1=>exact f (tm:=Vf) rfl UU (p0.trans UY) (oZ p1) (.inr ⟨by omega,rfl,rfl⟩) rfl (by rw[q0];decide +kernel) rfl (wt q1)
theorem Kx{s:U4}(h:bD (aB.aP s) 0 Vf ic=Vg){ev:U9}(p:km (aB.aP s) (aQ (aB.aP s) [bI,dE] (1,Vf)) pc ev acc fr mn mi ti un st):nE s (.iface 165 (.agg #[.string (gV (aB.aP s) (1,Vf)),.int .i64 (bT (aB.aP s) (aQ (aB.aP s) [bI] (1,Vf)) dE cL),.int .i64 pc,.int .i64 ev,.bool (aI acc 0),.bool (aI acc 1),.bool (aI acc 2),.bool (aI acc 3),.bool (aI acc 4),.bool (aI acc 5),.bool (aI acc 6),.int .i64 fr,.int .i64 mn,.int .i64 mi,.int .i64 ti,.int .i64 un])) st:=by
 refine⟨Lu h p,fun D N=>?_⟩;have I:jD ic=Vg:=UY
 have S:mB.filter (nI ic)=jj mz:=UY
 have C:aQ (aB.aP s) (mz.map aV) (0,Vf)=(aQ (aB.aP s) [bI,dE] (1,Vf)):=by
  unfold mz;rw[<- kC h I];simp only[ZI,gS,lN]
 have X:=(Ii p D).2;rw[<- C] at p;obtain⟨q,T,O⟩:=wN p;obtain⟨K,E,rfl,M,U⟩:=O D;have J:=uM h S T M D N;have V:mz++K++bU++E=ic :: ([cD]++eN :: (K++bU++E)):=by simp[mz]
 have f:=J;rw[V] at f;have v1:=lO (Q:=[cD]) (s:=eN) (R:=K++bU++E) h I f.all cL;have y:=lq (ws:=aB.aP s) [cD] (k:=ic) (s:=eN) (R:=K++bU++E) f.all;simp only[ZI,V7,gS,lN] at v1 y;obtain⟨k,tm,r1,r2,r3⟩:=CX U;refine⟨_,_,J,.series r1 r3,?_⟩;rw[rL (R:=eN :: (K++bU++E)) f.all,v1,wB y];have A:jX (fun j=>(aB.aP s).getD j YN) 3 k pc acc tm=_:=r2;rw[A];exact⟨.series _ (rM f) _ ⟨pc,ev,acc,fr,mn,mi,ti,un⟩,(sk y).1,(sk y).2,X⟩
theorem Kw{s:U4}(h:bD (aB.aP s) 0 Vf iZ=Vg){ev:U9}(f:km (aB.aP s) (1,Vf) pc ev acc fr mn mi ti un st):nE s (.iface 180 (.agg #[.int .i64 pc,.int .i64 ev,.bool (aI acc 0),.bool (aI acc 1),.bool (aI acc 2),.bool (aI acc 3),.bool (aI acc 4),.bool (aI acc 5),.bool (aI acc 6),.int .i64 fr,.int .i64 mn,.int .i64 mi,.int .i64 ti,.int .i64 un])) st:=by
 refine⟨Lm h f,fun A D=>?_⟩;have I:jD iZ=Vg:=UY
 have M:mB.filter (nI iZ)=jj nC:=UY
 have y:aQ (aB.aP s) (nC.map aV) (0,Vf)=(1,Vf):=by
  unfold nC;rw[<- kC h I];rfl
 have T:=(Ii f A).2;rw[<- y] at f;obtain⟨q,N,J⟩:=wN f;obtain⟨K,E,rfl,C,O⟩:=J A;have S:=uM h M N C A D;obtain⟨k,tm,r1,r2,r3⟩:=CX O;refine⟨_,_,S,.expand r1 r3,?_⟩;have p:jX (fun j=>(aB.aP s).getD j YN) 1 k pc acc tm=_:=r2;rw[p];exact⟨.expand ⟨pc,ev,acc,fr,mn,mi,ti,un⟩,T⟩
theorem Dp(ws:U5 U4)(st:U8 × U7):∃ pc ev acc fr mn mi ti un s,km ws st pc ev acc fr mn mi ti un s:=by
 have y:∃ pc ev acc s,nW ws st pc ev acc s:=by
  cases f:bD ws st.1 st.2 iW
  ·cases p:bD ws st.1 st.2 ix
   ·cases D:bD ws st.1 st.2 jI
    ·exact⟨_,_,_,_,.none f p D⟩
    ·exact⟨_,_,_,_,.monthly f p D⟩
   ·refine⟨_,_,(aB.iq (ws.getD (aQ ws [eo] (dV st)).1 YN)).getD [],_,.weekly f p _ fun h=>?_⟩;have C:=(mC h).2.2;rw[aB.dU,Option.isSome_iff_exists] at C;obtain⟨a,I⟩:=C;rw[I];rfl
  ·exact⟨_,_,_,_,.daily f⟩
 obtain⟨pc,ev,acc,s,y⟩:=y
 have A:∃ ti un s',nP ws (mD ws s) ti un s':=by
  cases f:bD ws (mD ws s).1 (mD ws s).2 iT
  ·cases p:bD ws (mD ws s).1 (mD ws s).2 js
   ·exact⟨_,_,_,.none f p⟩
   ·exact⟨_,_,_,.til f p⟩
  ·exact⟨_,_,_,.times f⟩
 obtain⟨ti,un,s',A⟩:=A;exact⟨_,_,_,_,_,_,_,_,_,.mk pc ev acc s ti un s' y A⟩
theorem KW{f:Array Oper}{rest:U5 Oper}{o:Oper}{a:Act}{Q:Exit->Act->Vh->Prop}(J:o.guard=Vd)(x y:Operand)(T:o.op=.call { callee:=.builtin .append,args:=#[x,y],argTypes:=#[34,34] }){l:U5 (aL × U8 × U8)}(p:W.ownsRow B 58 6 v l.length (l.flatMap dN))(z:aL × U8 × U8){M:Vm}{mk:U8 × U8}(S:a.eval x=v)(O:a.eval y=.slice (Ve ⟨W.heap.size,0,Vd⟩) 1 1)(hl:l.length<=1000000)(hB:B<=W.heap.size)
  (h:∀ g cap w',w'.ownsRow B 58 6 (.slice (Ve ⟨g,0,Vd⟩) (l.length+1) cap) (l.length+1) ((l++[z]).flatMap dN)->aF v.ownBlock.toList W w'->(v.ownBlock=Ve g\/W.heap.size<=g)->wpList prog f Q rest (a.put o.dst (.slice (Ve ⟨g,0,Vd⟩) (l.length+1) cap)) w'):
  wpList prog f Q (o :: rest) a (W.alloc (.cells #[.int .i64 z.1.id,.int .i64 z.1.kind,.string z.1.aT,.int .i64 z.1.aH,.slice (Ve ⟨z.2.1,0,Vd⟩) z.1.aK.length z.2.2,.int .i64 z.1.bY] M mk)):=by
 obtain⟨N,I,D,C,A⟩:=info_parts wO;refine wpList_append_lies _ J x y 34 T B 58 N _ 6 72 underlying34 I D C A rfl UW v l.length (l.flatMap dN) S (p.alloc _) ⟨W.heap.size,0,Vd⟩ 1 1 (dN z) O rfl (WM (cs:=(dN z).toArray) (cC W _)) (by simp[dN,WN]) UU U1 UU U0 (W.heap.size+1) UV ?_;intro g cap w' Y X V _;have e2:(l++[z]).flatMap dN=l.flatMap dN++dN z:=UV
 have:=h g cap w';rw[e2] at this;exact this Y (((aF.refl _ W).alloc _).grown X (fun k U=>.inl (by simp[U]))) (V.imp id (fun e=>by omega))
theorem nK.snoc{X:Vh}{y:aL × U8 × U8}(h:nK w X v ys)(N:fY X y.2.1 y.1.aK/\w.heap.size<=y.2.1/\y.2.1<X.heap.size/\v.ownBlock≠Ve y.2.1)(O:w'.ownsRow w.heap.size 58 6 (.slice (Ve ⟨g,0,Vd⟩) (ys.length+1) cap) (ys.length+1) ((ys++[y]).flatMap dN))(k:aF v.ownBlock.toList X w')(A:v.ownBlock=Ve g\/X.heap.size<=g):nK w w' (.slice (Ve ⟨g,0,Vd⟩) (ys.length+1) cap) (ys++[y]):=by
 refine⟨by rw[V5];exact O,fun z f=>?_,⟨k.os.trans h.bw.os,k.tape.trans h.bw.tape,k.output.trans h.bw.output,Vq h.bw.size k.size,fun b D=>(k.block b (zL D h.bw.size) (fun e=>?_)).trans (h.bw.block b D)⟩⟩
 ·have p:fY X z.2.1 z.1.aK/\w.heap.size<=z.2.1/\z.2.1<X.heap.size/\v.ownBlock≠Ve z.2.1:=by
   rcases VB.1 f with f|f
   ·exact h.sl z f
   ·have:z=y:=by simpa using f
    subst this;exact N
  obtain⟨M,J,I,C⟩:=p;refine⟨M.off k (by simpa using fun e=>C e),J,Wk I k.size,?_⟩;simp only[WI,ne_eq,Z6];rintro rfl;rcases A with e|e
  ·exact C e
  ·omega
 ·have:=jE h.own (k:=b) (by simpa using e);omega
def po(w:Vh)(v:Vi)(es:U5 aL)(w':Vh):Prop :=
 ∃ (l:U5 (aL × Vi)) (G:U5 U8),l.map (·.1)=es/\(∀ f,(∀ b∈G,f.heap[b]?=w'.heap[b]?)->EV f v l)/\(∀ b∈G,w.heap.size<=b/\b<w'.heap.size)/\Vj w.heap.size w w'
def zy(y:aL × U8 × U8):aL × Vi:=(y.1,.slice (Ve ⟨y.2.1,0,Vd⟩) y.1.aK.length y.2.2)
theorem fY.sv{L:U5 (U9 × U9)}(h:fY w B L):SV w (.slice (Ve ⟨B,0,Vd⟩) L.length cap) L:=⟨⟨_,_,rfl⟩,fun k f=>⟨B,cap,rfl,h k f⟩⟩
theorem Lk{a:U6 Addr}{zs:U5 (aL × U8 × U8)}(X:zs≠[]->a=Ve ⟨g,0,Vd⟩)(J:∀ (i:U8)(I:i<zs.length),RE w' g i zs[i].1 zs[i].2.1 zs[i].2.2)(U:zs≠[]->w.heap.size<=g/\g<w'.heap.size)(V:∀ z∈zs,w.heap.size<=z.2.1/\z.2.1<w'.heap.size)(k:Vj w.heap.size w w'):po w (.slice a zs.length cap) (zs.map (·.1)) w':=by
 refine⟨zs.map zy,(if zs=[] then [] else [g])++zs.map (·.2.1),by simp[zy,Function.comp_def],fun N Y=>?_,fun b A=>?_,k⟩
 ·have y:∀ b o u,b∈(if zs=[] then [] else [g])++zs.map (·.2.1)->w'.cell? ⟨b,o,Vd⟩=Ve u->N.cell? ⟨b,o,Vd⟩=Ve u:=fun b o u A O=>(zo (Y b A)).trans O
  refine⟨⟨a,cap,by simp⟩,fun i I=>?_,fun p S=>?_⟩
  ·have D:i<zs.length:=by simpa using I
   have C:zs≠[]:=by rintro rfl;simp at D
   have q:=J i D
   have f:g∈(if zs=[] then [] else [g])++zs.map (·.2.1):=by simp[C]
   refine⟨g,cap,by rw[X C];simp,?_⟩;simp only[List.getElem_map,zy];exact⟨y _ _ _ f q.c0,y _ _ _ f q.c1,y _ _ _ f q.c2,y _ _ _ f q.c3,y _ _ _ f q.c4,y _ _ _ f q.c5⟩
  ·obtain⟨z,h,rfl⟩:=Wm.1 S;obtain⟨i,I,rfl⟩:=XZ h;refine fY.sv (fun j T=>?_);have q:=(J i I).sl j T;have M:zs[i].2.1∈(if zs=[] then [] else [g])++zs.map (·.2.1):=YC _ (Wm.2 ⟨_,h,rfl⟩);exact⟨y _ _ _ M q.1,y _ _ _ M q.2⟩
 ·rcases VB.1 A with e|e
  ·by_cases h:zs=[]
   ·simp[h] at e
   ·simp[h] at e;subst e;exact U h
  ·obtain⟨z,h,rfl⟩:=Wm.1 e;exact V z h
theorem dK.up{X:Vh}{q:St × bO}{e:Ending}(h:dK X d F ys q e Z)(kX:Vj w.heap.size w X)(hQ:w.heap.size<=Q)(V:Q<X.heap.size)(hF:∀ k∈F,k<w.heap.size)(hY:∀ y∈ys,y.2.1<w.heap.size)(h7:Q7 X Q):
  ∃ (a1 a2 a3 a4:U6 Addr) (n1 n2 n3 n4 O N M J:U8),e=.returned (bC q.2.err 0 q.2.n (.slice a1 n1 O) (.slice a2 n2 N) (.slice a3 n3 M) (.slice a4 n4 J))/\Q7 Z Q/\dK w d F ys q e (cK Z Q (.int .i64 q.2.err) (.int .i64 0) (.int .i64 q.2.n) (.slice a1 n1 O) (.slice a2 n2 N) (.slice a3 n3 M) (.slice a4 n4 J)):=by
 obtain⟨v1,v2,v3,v4,xs,F',G,he,hT,h3,hD,D,hO,Y,ab,hS⟩:=h;have T:=hT Z (fun _ _=>rfl);obtain⟨l,hl,_⟩:=T.en;obtain⟨a1,O,e1⟩:=hl.form;obtain⟨a2,N,I⟩:=T.da.form;obtain⟨a3,M,e3⟩:=gC h3;obtain⟨a4,J,e4⟩:=T.ed.form;subst e1 I e3 e4;have C:Q ∉ F:=fun e=>by have:=hF Q e;omega
 have U:=kX.size;refine⟨a1,a2,a3,a4,_,_,_,_,O,N,M,J,he,h7.later (hO.block Q V C),?_⟩;have A:=lF Z Q (.int .i64 q.2.err) (.int .i64 0) (.int .i64 q.2.n) (.slice a1 l.length O) (.slice a2 q.2.days.length N) (.slice a3 q.2.granted.length M) (.slice a4 q.2.ended.length J);have S:∀ x,X.heap.size<=x->x ∉ [Q]:=fun x S e=>by simp at e;omega
 have aa:∀ x∈F',x ∉ [Q]:=fun x f=>by
  rcases D x f with e|e
  ·intro I;simp at I;exact C (I ▸ e)
  ·exact S x e
 have hd:=hD.rd;refine⟨_,_,_,_,xs,F',G,he,fun w2 h2=>hT w2 (fun b p=>(h2 b p).trans (A.block b (Y b p).2.1 (S b (Y b p).1))),uV (dO h3 A (fun b p=>S b (jE h3 p))) U,hD.off A aa (fun x f e=>?_),fun k hk=>(D k hk).imp id (fun e=>by omega),((aF.aD kX).trans hO).trans' A (fun x f=>.inr (by simp at f;omega)),fun b p=>?_,ab,fun x f=>(hS x f).imp id (fun e=>by omega)⟩
 ·have I:x.2.1=Q:=by simpa using e
  rcases hS x f with ⟨y,hy,e3⟩|e3
  ·have:=hY y hy;omega
  ·omega
 ·obtain⟨g1,g2,g3,g4⟩:=Y b p;exact⟨by omega,Wk g2 A.size,g3,g4⟩
def om:U5 (U4 × U8):=[(⟨#[116,104,105,110,103]⟩,172),(⟨#[98,111,111,107]⟩,173),(⟨#[104,111,108,100]⟩,173),(⟨#[119,97,105,116]⟩,173),(⟨#[115,101,114,105,101,115]⟩,174),(⟨#[99,111,110,102,105,114,109]⟩,175),(⟨#[99,97,110,99,101,108]⟩,175),(⟨#[108,105,115,116]⟩,177),(⟨#[112,101,97,107]⟩,177),(⟨#[102,105,110,100]⟩,178)]
theorem qw{s:St}{xs:U5 (aL × U8 × U8)}(h:DD w d s xs F){f:U8}{kw:U4}{c:U8}{q:St × bO}(hn:0<n)(I:w.cell? ⟨g,0,Vd⟩=Ve (.string kw))(D:(kw,f)∈om)(C:∀ X,Vj w.heap.size w X->Vk prog f #[.pointer (Ve ⟨d,0,Vd⟩),.slice (Ve ⟨g,0,Vd⟩) n c] X (dK X d F xs q)):
  Vk prog 117 #[.pointer (Ve ⟨d,0,Vd⟩),.slice (Ve ⟨g,0,Vd⟩) n c] w (dK w d F xs q):=by
 have A:=aC ((KP.nil w).alloc aX);have J:=aC (zA h.lt (fun y hy=>(h.rd.sp y hy).2.2));have i0:(0:U9)<(n:U9):=UU
 have N:=aN A.out.bl I;have hQ:w.heap.size<(w.alloc aX).heap.size:=UV
 have M:=aC (C _ A.out.bl);clear h C I;simp only[om,VA,Prod.mk.injEq,Z4,or_false] at D;rcases D with ⟨rfl,rfl⟩|⟨rfl,rfl⟩|⟨rfl,rfl⟩|⟨rfl,rfl⟩|⟨rfl,rfl⟩|⟨rfl,rfl⟩|⟨rfl,rfl⟩|⟨rfl,rfl⟩|⟨rfl,rfl⟩|⟨rfl,rfl⟩
 all_goals
  go_in
  go_upto_region 1 with fail
  change Za _ _ _ _ (w.alloc aX);generalize w.alloc aX=X at *
  go_wp2_with fail
  refine M.out.mono ?_;intro e w2 p;obtain⟨a1,a2,a3,a4,n1,n2,n3,n4,c1,c2,c3,c4,rfl,h7,p⟩:=p.up A.out.bl (zq _) hQ J.out.1 J.out.2 (Q7.of (A.out.kb (w.heap.size,aX) UV));have HA:=aC p;obtain⟨q0,Y,V,U,T,S,O,fq⟩:=h7;clear p N M;simp only[bC]
  go_wp2_with fail
  exact cO results117 ⟨q0,Y,V,U,T,S,O,fq⟩ HA.out
theorem M9{s:St}{xs:U5 (aL × U8 × U8)}(h:DD w d s xs F){c:U8}(V:0<n)(p:w.cell? ⟨g,0,Vd⟩=Ve (.string ⟨#[99,108,111,99,107]⟩)):
  Vk prog 117 #[.pointer (Ve ⟨d,0,Vd⟩),.slice (Ve ⟨g,0,Vd⟩) n c] w (dK w d F xs (aU s .clock)):=by
 have f:=aC ((KP.nil w).alloc aX);have H:=aC h;have U:(0:U9)<(n:U9):=UU
 have S:=aN f.out.bl p;have T:=(h.later f.out.bl).rd.c3;have O:Hid (dK w d F xs (aU s .clock) (.returned (bC 0 0 s.now aR aR aR aR)) (cK (w.alloc aX) w.heap.size (.int .i64 0) (.int .i64 0) (.int .i64 s.now) aR aR aR aR)):=h.said f.out.bl (zq _) 0 s.now _ _ _ _ _ _ _;clear h p
 go_in
 go_upto_region 1 with fail
 change Za _ _ _ _ (w.alloc aX);generalize w.alloc aX=X at *;obtain⟨M,J,I,D,C,A,y,N⟩:=Q7.of (f.out.kb (w.heap.size,aX) UV)
 go_wp2_with fail
 exact cO results117 ⟨M,J,I,D,C,A,y,N⟩ O.out
open aA (aL St bO aU ey)
def oO(w:Vh)(d:U8)(F:U5 U8)(xs:U5 (aL × U8 × U8))(q:St × bO)(e:Ending)(w':Vh):Prop :=
 ∃ (v1 v2 h f:Vi) (xs':U5 (aL × U8 × U8)) (F':U5 U8),e=.returned (bC q.2.err q.2.at_ q.2.n v1 v2 h f)/\pj w' v1 v2 f q.2/\NV w' h q.2.granted/\DD w' d q.1 xs' F'/\(∀ k∈F',k∈F\/w.heap.size<=k)/\aF F w w'/\∀ x∈xs',(∃ y∈xs,x.2.1=y.2.1)\/w.heap.size<=x.2.1
theorem NV.own{l:U5 U9}(h:w.ownsRow B 3 1 v n (l.map (V4 .i64))):NV w v l:=by
 obtain⟨a,cap,g,rfl,rfl,y,p⟩:=wS h;exact⟨⟨_,_,rfl⟩,fun k f=>⟨g,cap,by rw[y (by intro e;simp[e] at f)],p k f⟩⟩
theorem pj.gr{v1 v2 f:Vi}{p:bO}(h:pj w v1 v2 f p)(g:U5 U9):pj w v1 v2 f { p with granted:=g }:=⟨h.en,h.da,h.ed⟩
def fin(q:St × bO):St × bO:=if q.2.err≠0 then q else ({ q.1 with es:=(ey q.1.ts q.1.es).1 },{ q.2 with granted:=q.2.granted++(ey q.1.ts q.1.es).2 })
theorem EA{s:St}{xs:U5 (aL × U8 × U8)}(h:DD w d s xs F)(t:U4){p at_:U9}(J:p≠0)(M:∀ X,Vk prog 78 #[.string t] X fun e w'=>e=.returned (.tuple #[.slice Vd 0 0,.slice Vd 0 0,.int .i64 p,.int .i64 at_])/\Vj X.heap.size X w'):
  Vk prog 75 #[.pointer (Ve ⟨d,0,Vd⟩),.string t] w (oO w d F xs (s,⟨p,at_,0,[],[],[],[]⟩)):=by
 have A:=aC ((KP.nil w).alloc aX);have H:=aC h;have RD:=aC M;have aa:(p != 0)=Vg:=by simpa using J
 clear h M J
 go_in
 go_upto_region 1 with fail
 change Za _ _ _ _ (w.alloc aX);generalize w.alloc aX=X at *
 go_wp2_with fail
 refine (RD.out _).mono ?_;rintro e D ⟨rfl,y⟩;replace A:=aC (A.out.later y)
 have HF:Hid (oO w d F xs (s,⟨p,at_,0,[],[],[],[]⟩) (.returned (bC p at_ 0 aR aR aR aR)) (cK D w.heap.size (.int .i64 p) (.int .i64 at_) (.int .i64 0) aR aR aR aR)):=by
  have I:=lF D w.heap.size (.int .i64 p) (.int .i64 at_) (.int .i64 0) aR aR aR aR;have C:∀ x,x<w.heap.size->x ∉ [w.heap.size]:=fun x C e=>by simp at e;omega
  exact⟨aR,aR,aR,aR,xs,F,rfl,pj.nil _,NV.nil _,(H.out.later A.out.bl).off I (fun x f=>C x (H.out.lt x f)) (fun x f=>C _ (H.out.rd.sp x f).2.2),fun _ f=>.inl f,(aF.aD A.out.bl).trans' I (fun x f=>.inr (by simp at f;omega)),fun x f=>.inl ⟨x,f,rfl⟩⟩
 obtain⟨Y,V,U,T,S,O,N,fq⟩:=Q7.of (A.out.kb (w.heap.size,aX) UV);clear y
 go_wp2_with fail
 exact cO results75 ⟨Y,V,U,T,S,O,N,fq⟩ HF.out
theorem MT{s:St}{xs:U5 (aL × U8 × U8)}(h:DD w d s xs F)(t:U4)(ht:t.size<=160){p:U5 U4}(hp:jk t=(Ve p,0))(aw:0<(aB.aP t).length){q:St × bO}(h0:q.2.at_=0)(hg:q.2.granted.length<=50000)
  (C:∀ X g c,Vj w.heap.size w X->(∀ (j:U8) (hj:j<(aB.aP t).length),X.cell? ⟨g,j,Vd⟩=Ve (.string (aB.aP t)[j]))->Vk prog 117 #[.pointer (Ve ⟨d,0,Vd⟩),.slice (Ve ⟨g,0,Vd⟩) (aB.aP t).length c] X (dK X d F xs q)):
  Vk prog 75 #[.pointer (Ve ⟨d,0,Vd⟩),.string t] w (oO w d F xs (fin q)):=by
 have P0:=aC ((KP.nil w).alloc aX);have H:=aC h;have HC:=aC C;have HP:=aC hp;clear h C hp
 go_in
 go_upto_region 1 with fail
 change Za _ _ _ _ (w.alloc aX);generalize w.alloc aX=X at *
 go_wp2_with fail
 refine (Av t X ht).mono ?_;rintro e w1 ⟨hr,an⟩;rcases hr with ⟨p',a,b,c,d',g,h',ag,rfl,ra,rb⟩|⟨m,ag,rfl⟩
 case' inr=>rw[HP.out] at ag;cases ag
 obtain rfl:=ra.at_ aw;replace P0:=aC (P0.out.later an);have DC:=aC (HC.out w1 g c P0.out.bl ra.cells);clear an ra rb ag
 go_wp2_with fail
 refine DC.out.mono ?_;intro e w2 hA;have az:w.heap.size<w1.heap.size:=P0.out.lt (q:=(w.heap.size,aX)) UV;have h7:=Q7.of (P0.out.kb (w.heap.size,aX) UV);obtain⟨v1,v2,v3,v4,xs',F',G,rfl,hT,h3,hD,D,hO,hG,M,hS⟩:=hA;have T:=hT w2 (fun _ _=>rfl);obtain⟨l,hl,_⟩:=T.en;obtain⟨a1,c1,rfl⟩:=hl.form;obtain⟨a2,c2,rfl⟩:=T.da.form;obtain⟨a3,c3,rfl⟩:=gC h3;obtain⟨a4,c4,rfl⟩:=T.ed.form;have aq:w.heap.size ∉ F:=fun e=>by have:=H.out.lt _ e;omega
 have a8:=hO.size;have ad:w.heap.size ∉ F':=fun e=>by rcases D _ e with e|e;exact aq e;omega
 have ae:=h7.later (hO.block _ az aq)
 have N:∀ x∈xs',x.2.1≠w.heap.size/\x.2.1<w2.heap.size:=fun x f=>⟨fun e=>by
  rcases hS x f with ⟨y,hy,e2⟩|e2
  ·have:=(H.out.rd.sp y hy).2.2;omega
  ·omega,(hD.rd.sp x f).2.2⟩
 have O:∀ x∈xs',(∃ y∈xs,x.2.1=y.2.1)\/w.heap.size<=x.2.1:=fun x f=>(hS x f).imp id (fun e=>by omega)
 have aa:aF F w w2:=(aF.aD P0.out.bl).trans hO;have KR:=(KP.nil w2).alloc (.cells #[.int .i64 q.2.err,.int .i64 0,.int .i64 q.2.n,.slice a1 l.length c1,.slice a2 q.2.days.length c2,.slice a3 q.2.granted.length c3,.slice a4 q.2.ended.length c4] 40);have bc:w2.heap.size<(w2.alloc (.cells #[.int .i64 q.2.err,.int .i64 0,.int .i64 q.2.n,.slice a1 l.length c1,.slice a2 q.2.days.length c2,.slice a3 q.2.granted.length c3,.slice a4 q.2.ended.length c4] 40)).heap.size:=UV
 have A:=aC (zA hT (zA h3 (zA hD (zA D (zA hO (zA hG (zA M (zA N (zA O (zA aa ae))))))))));clear T hl hT h3 hD D hO hG M hS N O aa ae h7 DC HC;simp only[bC]
 go_upto_region 5 with fail
 have HK:=aC KR;have r0:=KR.hc 0 rfl;have r1:=KR.hc 1 rfl;have r2:=KR.hc 2 rfl;have r3:=KR.hc 3 rfl;have r4:=KR.hc 4 rfl;have r5:=KR.hc 5 rfl;have r6:=KR.hc 6 rfl;have rf:=KR.hf;clear KR;generalize w2.alloc _=Z at *;have V:=HK.out.bl;have Q2:=aC (A.out.2.2.2.2.2.2.2.2.2.2.later (V.block _ UU));have DZ:=aC (A.out.2.2.1.later V);have WZ:=aC (A.out.2.2.2.2.2.2.2.2.2.1.trans (aF.aD V))
 by_cases he:q.2.err=0
 ·have ay:(q.2.err != 0)=Vf:=by simp[he]
  have GR:=aC (MK DZ.out);have E9:Hid (fin q=({ q.1 with es:=(ey q.1.ts q.1.es).1 },{ q.2 with granted:=q.2.granted++(ey q.1.ts q.1.es).2 })):=by show _=_;unfold fin;rw[Va (by simp[he])]
  have ax:Hid ((ey q.1.ts q.1.es).2.length<=60):=by
   have:=(Ct q.1.ts q.1.es []).2;have:=DZ.out.el;show (aA.dQ _ _ _).2.length<=60;omega
  have HE:=aC he;clear he V
  go_wp2_with fail
  refine GR.out.mono ?_;rintro e w3 ⟨v5,rfl,h5,⟨al,ar,au⟩,J⟩;obtain⟨a5,c5,rfl⟩:=gC h5;obtain⟨hT,h3,hD,D,hO,hG,M,N,O,aa,ae⟩:=A.out;have V:=HK.out.bl;have aj:w2.heap.size ∉ F':=fun e=>by have:=hD.lt _ e;omega
  have av:=dO (eu h3 V) J (fun b I=>(M b I).1);have ba:=J.size;have n3:eD w3 w1.heap.size (fun _=>Vd) (.slice a3 q.2.granted.length c3) q.2.granted:=⟨av,fun _ _=>rfl⟩;have n5:eD w3 w1.heap.size (fun _=>Vd) (.slice a5 (ey q.1.ts q.1.es).2.length c5) (ey q.1.ts q.1.es).2:=⟨uV h5 UU,fun _ _=>rfl⟩;obtain⟨v6,w4,ab,n6,ac,ao⟩:=n3.append n5 UU (fun _ _=>rfl) (by have:=ax.out;omega);obtain⟨a6,c6,rfl⟩:=gC n6.own;have U:∀ b,(Ze a3 q.2.granted.length c3).ownBlock=Ve b->w1.heap.size<=b/\b<w2.heap.size:=fun b I=>⟨jE h3 I,eV h3 I⟩
  have k4:aF (Ze a3 q.2.granted.length c3).ownBlock.toList w3 w4:=(aF.refl _ w3).grown ac (fun k hk=>.inl (by simp[hk]));have S:∀ x∈(Ze a3 q.2.granted.length c3).ownBlock.toList,(Ze a3 q.2.granted.length c3).ownBlock=Ve x:=fun x f=>by simpa using f
  have bR:w4.heap[w2.heap.size]?=Z.heap[w2.heap.size]?:=(k4.block _ UU (fun e=>by have:=(U _ (S _ e)).2;omega)).trans (J.block _ UU aj);have bQ:w4.heap[w.heap.size]?=Z.heap[w.heap.size]?:=(k4.block _ UU (fun e=>by have:=(U _ (S _ e)).1;omega)).trans (J.block _ UU ad);have s0:=(zo (a:=⟨w2.heap.size,0,Vd⟩) bR).trans r0;have s1:=(zo (a:=⟨w2.heap.size,1,Vd⟩) bR).trans r1;have s2:=(zo (a:=⟨w2.heap.size,2,Vd⟩) bR).trans r2;have s3:=(zo (a:=⟨w2.heap.size,3,Vd⟩) bR).trans r3;have s4:=(zo (a:=⟨w2.heap.size,4,Vd⟩) bR).trans r4;have s5:=(zo (a:=⟨w2.heap.size,5,Vd⟩) bR).trans r5;have s6:=(zo (a:=⟨w2.heap.size,6,Vd⟩) bR).trans r6;have t5:=(zo (a:=⟨w2.heap.size,5,Vd⟩) (J.block _ UU aj)).trans r5;have sf:w4.frozen? ⟨w2.heap.size,5,Vd⟩=Vf:=by have:=rf 5;simp only[Vs,bR];exact this
  have bf:w2.heap.size≠w.heap.size:=UU
  obtain⟨q0,q1,q2,q3,q4,q5,q6,fq⟩:=Q2.out.later bQ;obtain⟨N6,ak⟩:∃ N6,N6=(q.2.granted++(ey q.1.ts q.1.es).2).length:=⟨_,rfl⟩
  have HF:Hid (∀ Y,Y=w4.setCell ⟨w2.heap.size,5,Vd⟩ (.slice a6 N6 c6)->oO w d F xs ({ q.1 with es:=(ey q.1.ts q.1.es).1 },{ q.2 with granted:=q.2.granted++(ey q.1.ts q.1.es).2 }) (.returned (bC q.2.err 0 q.2.n (.slice a1 l.length c1) (.slice a2 q.2.days.length c2) (.slice a6 N6 c6) (.slice a4 q.2.ended.length c4))) (cK Y w.heap.size (.int .i64 q.2.err) (.int .i64 0) (.int .i64 q.2.n) (.slice a1 l.length c1) (.slice a2 q.2.days.length c2) (.slice a6 N6 c6) (.slice a4 q.2.ended.length c4))):=by
   rw[ak];rintro Y rfl;have k5:aF [w2.heap.size] w4 (w4.setCell ⟨w2.heap.size,5,Vd⟩ (.slice a6 (q.2.granted++(ey q.1.ts q.1.es).2).length c6)):=aF.aY ..;have k7:=lF (w4.setCell ⟨w2.heap.size,5,Vd⟩ (.slice a6 (q.2.granted++(ey q.1.ts q.1.es).2).length c6)) w.heap.size (.int .i64 q.2.err) (.int .i64 0) (.int .i64 q.2.n) (.slice a1 l.length c1) (.slice a2 q.2.days.length c2) (.slice a6 (q.2.granted++(ey q.1.ts q.1.es).2).length c6) (.slice a4 q.2.ended.length c4);have af:=(k5.mono (G:=[w2.heap.size,w.heap.size]) UV).trans (k7.mono UV);have a9:=k4.size;have n7:∀ x,x∈[w2.heap.size,w.heap.size]->x=w2.heap.size\/x=w.heap.size:=fun x f=>by simpa using f
   have ai:∀ x∈al,∃ z∈xs',x.2.1=z.2.1:=au
   have a7:=(ar.off k4 (fun x f e=>(M x (S x e)).1 f) (fun x f e=>by
    obtain⟨z,hz,e2⟩:=ai x f
    exact (M _ (S _ e)).2 z hz e2.symm)).off af (fun x f e=>by
     rcases n7 x e with rfl|rfl
     ·exact aj f
     ·exact ad f) (fun x f e=>by
     obtain⟨z,hz,e2⟩:=ai x f;have:=N z hz
     rcases n7 _ e with e3|e3 <;> omega)
   refine⟨_,_,_,_,al,F',by rw[h0],(hT _ (fun b I=>?_)).gr _,NV.own (dO n6.own af (fun b I e=>?_)),a7,fun k hk=>(D k hk).imp id (fun e=>by omega),(((WZ.out.trans' J (fun x f=>(D x f).imp id (fun e=>by omega))).trans' k4 (fun x f=>.inr (by have:=(U x (S x f)).1;omega))).trans' af (fun x f=>.inr (by rcases n7 x f with e|e <;> omega))),fun x f=>?_⟩
   ·obtain⟨g1,g2,g3,g4⟩:=hG b I;refine (af.block b UU (fun e=>by rcases n7 b e with e|e <;> omega)).trans ((k4.block b UU (fun e=>g4 (S b e))).trans ((J.block b UU g3).trans (V.block b g2)))
   ·have h8:b<w2.heap.size/\w1.heap.size<=b\/w3.heap.size<=b:=by
     rcases ao with e2|e2
     ·rw[e2] at I;exact .inl ⟨(U b I).2,(U b I).1⟩
     ·rw[e2] at I;simp only[Z6] at I;exact .inr UU
    rcases n7 b e with e|e <;> omega
   ·obtain⟨z,hz,e2⟩:=ai x f;rw[e2];exact O z hz
  rw[<- ak] at ab;have HR:=aC ab;clear hT h3 hD D hO hG M N O aa ae av n3 n5 n6 ac ao U k4 S bR bQ ab h5 ar au J A r0 r1 r2 r3 r4 r5 r6 rf V ak
  go_wp2_with (first|(at_builtin;refine NC rfl _ _ 38 _ rfl (HR.out _) ?_))
  exact bodyPost_ret (v:=bC q.2.err 0 q.2.n (.slice a1 l.length c1) (.slice a2 q.2.days.length c2) (.slice a6 N6 c6) (.slice a4 q.2.ended.length c4)) (by simp[results,results75,go_sem,bC,q0,q1,q2,q3,q4,q5,q6]) rfl (by rw[E9.out];exact HF.out _ rfl)
 ·have ay:(q.2.err != 0)=Vg:=by simpa using he
  have E9:Hid (fin q=q):=by show _=_;unfold fin;rw[Vb he]
  have HF:Hid (oO w d F xs q (.returned (bC q.2.err 0 q.2.n (.slice a1 l.length c1) (.slice a2 q.2.days.length c2) (.slice a3 q.2.granted.length c3) (.slice a4 q.2.ended.length c4))) (cK Z w.heap.size (.int .i64 q.2.err) (.int .i64 0) (.int .i64 q.2.n) (.slice a1 l.length c1) (.slice a2 q.2.days.length c2) (.slice a3 q.2.granted.length c3) (.slice a4 q.2.ended.length c4))):=by
   have k7:=lF Z w.heap.size (.int .i64 q.2.err) (.int .i64 0) (.int .i64 q.2.n) (.slice a1 l.length c1) (.slice a2 q.2.days.length c2) (.slice a3 q.2.granted.length c3) (.slice a4 q.2.ended.length c4);obtain⟨hT,h3,hD,D,hO,hG,M,N,O,aa,ae⟩:=A.out;refine⟨_,_,_,_,xs',F',by rw[h0],hT _ (fun b I=>(k7.block b (zL (hG b I).2.1 V.size) (fun e=>by have:=(hG b I).1;simp at e;omega)).trans (V.block b (hG b I).2.1)),NV.own (dO (eu h3 V) k7 (fun b I e=>by have:=jE h3 I;simp at e;omega)),DZ.out.off k7 (fun x f e=>ad (by simp at e;exact e ▸ f)) (fun x f e=>(N x f).1 (by simpa using e)),fun k hk=>(D k hk).imp id (fun e=>by omega),WZ.out.trans' k7 (fun x f=>.inr (by simp at f;omega)),O⟩
  obtain⟨q0,q1,q2,q3,q4,q5,q6,fq⟩:=Q2.out;clear he A
  go_wp2_with fail
  exact cO results75 ⟨q0,q1,q2,q3,q4,q5,q6,fq⟩ (by rw[E9.out];exact HF.out)
end Go.Proofs.YtfigmlfdnickmaaGreatDoor
