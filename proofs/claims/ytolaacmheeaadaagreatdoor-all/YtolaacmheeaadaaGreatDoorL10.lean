import Derived.Test.YtolaacmheeaadaaGreatDoorL09
set_option maxRecDepth 100000
set_option maxHeartbeats 8000000
open Go.Proofs.Tryz
open _root_ renaming ByteArray->Us,List->Ut,Nat->Uw,Int->Ux,if_neg->Uy,absurd->UA,Int->N,Nat->M,List->J
open Option renaming none->UB,some->UC,some->U
open Bool renaming false->UD,true->UE
open Go renaming World->UF,Value->UG,Calls->UI,TypeId->UK
open Go.RowKit renaming Below->UH
open ByteArray renaming empty->Ym
open List renaming map->ZA,map_append->VU,mem_cons->Va,not_mem_nil->ZH,length->VD,mem_cons_self->XF,mem_append->Vb,length_map->We,set_append->ZK,length_set->V5,mem_or_eq_of_mem_set->ZL,mem_map->VQ,length_append->VA,length_cons->VB,getElem?_append_right->VZ,getElem?_eq_getElem->Wx,mem_append_right->X7,mem_filter->Xb,mem_singleton->X9,map_cons->Xl,nodup_cons->Vd,mem_cons_of_mem->Wm,replicate->XV,getElem_replicate->ZM,length_replicate->ZN,getElem?_append_left->VV,getElem?_eq_some_iff->Zt,eq_of_mem_replicate->ZP
open And renaming intro->Vf
open Go.World renaming size_alloc->Wp,setCell->Vg,block_lt_of_cell?->U1,news_of_block->Wf,cell?->Vk,frozen?->U2,ownsRow_nil->Wc
open Array renaming getElem?_eq_none->V4,getElem?_eq_some_iff->YC
open Go.Value.slice renaming injEq->XS
open Option.some renaming injEq->ZI,inj->Wq
open Go.Addr.mk renaming injEq->ZJ
open Go.Value renaming int->UL,ownBlock->V9,slice->UO,string->UQ,agg->UT,iface->UU,int->V
open Nat renaming add_sub_cancel_left->V1,lt_of_lt_of_le->VP,le_trans->U0,zero_le->VM,sub_self->YX,mul_le_mul_right->ZO
open Go.IntKind renaming i64->UV,i64->Y
open Go.Ending renaming returned->UW
open Go.Obj renaming cells->UX
namespace Go.Proofs.YtolaacmheeaadaaGreatDoor
variable{k:Us}{fr given mi mn pc ti un:Ux}{P:Ux->Ut UG}{ts:Ut (Us × Ux)}{xs':Ut (aA.aQ × Uw × Uw)}{ps:Ut (Ut Us)}{H Q R q ws:Ut Us}{acc:Ut Ux}{F G K:Ut Uw}{B E b cap d e i j n:Uw}{st:Uw × Bool}{a0 a1 a2 a3 a4 a5 r u v:UG}{W w w':UF}
open Go.RowKit
theorem rU{s:Us}(h:aP ws ((Q++s :: R).map bG) (0,UD)=(n,UD))(a:Us->N):bV ws (aP ws (Q.map bG) (0,UD)) (bG s) a=a (ws.getD Q.length Ym):=by rw[Ck h];unfold bV gS;rw[if_pos (xF h)]
theorem mL{s:Us}(h:aP ws ((Q++s :: R).map bG) (0,UD)=(n,UD)):bG s (ws.getD Q.length Ym)=UE:=(oQ (xF h)).2.2
theorem Pe:na.map bG=[cH fZ,eP]:=by simp only[na,ZA,sU,jI fZ Ul]
theorem Pg:oN.map bG=[cH fU,eP,Txt.fC]:=by simp only[oN,ZA,sU,Gz,jI fU Ul]
theorem Pf:px.map bG=[cH gg,eP]:=by simp only[px,ZA,sU,jI gg Ul]
theorem OB:lF.map bG=[cH eV,eP]:=by simp only[lF,ZA,sU,jI eV Ul]
theorem OC:qg.map bG=[cH fe,Txt.cU]:=by simp only[qg,ZA,zy,jI fe Ul]
theorem Ow:cW.map bG=[cH cC,Txt.cU,cH cO,Txt.dZ,cH dA,dM]:=by simp only[cW,ZA,zy,Gy,jt,jI cC Ul,jI cO Ul,jI dA Ul]
inductive zC (ws:Ut Us) (c:Uw):Ux->Ux->Ut Ux->Ut Us->Prop where
 |daily (h0:ws.getD c Ym=fZ) (h:eP (ws.getD (c+1) Ym)=UE):zC ws c 1 (bD (ws.getD (c+1) Ym)) [] na
 |weekly (acc:Ut Ux) (h0:ws.getD c Ym=fU) (h:eP (ws.getD (c+1) Ym)=UE) (ho:Txt.jf (ws.getD (c+2) Ym)=UC acc):zC ws c 2 (bD (ws.getD (c+1) Ym)) acc oN
 |monthly (h0:ws.getD c Ym=gg) (h:eP (ws.getD (c+1) Ym)=UE):zC ws c 3 (bD (ws.getD (c+1) Ym)) [] px
inductive zw (ws:Ut Us) (d:Uw):Ux->Ux->Ut Us->Prop where
 |times (h0:ws.getD d Ym=eV) (h:eP (ws.getD (d+1) Ym)=UE):zw ws d (bD (ws.getD (d+1) Ym)) 0 lF
 |til (h0:ws.getD d Ym=fe) (h:Txt.cU (ws.getD (d+1) Ym)=UE):zw ws d 0 (dV (ws.getD (d+1) Ym)) qg
structure Gx(ws:J Us)(d:M)(fr mn mi:N):Prop where
 h0:ws.getD d Ym=cC
 h1:Txt.cU (ws.getD (d+1) Ym)=UE
 h2:ws.getD (d+2) Ym=cO
 h3:Txt.dZ (ws.getD (d+3) Ym)=UE
 h4:ws.getD (d+4) Ym=dA
 h5:dM (ws.getD (d+5) Ym)=UE
 fr_:fr=dV (ws.getD (d+1) Ym)
 mn_:mn=Txt.eA (ws.getD (d+3) Ym)
 mi_:mi=bD (ws.getD (d+5) Ym)
structure GB(H ws:J Us)(pc ev:N)(acc:J N)(fr mn mi ti un:N)(K E:J Us):Prop where
 h7p:zC ws H.length pc ev acc K
 bA:Gx ws (H.length+K.length) fr mn mi
 end_:zw ws (H.length+K.length+6) ti un E
theorem xH{x y:Us}{wr:Bool}(h:bP ws n wr x=UE)(a:bG y x=UD):fQ ws n UD (bG y)=UD:=by let⟨_,_,h2⟩:=oQ (qi ws n wr x ▸ h);have e:=qQ h2;exact G8 (by rw[e];exact a)
theorem Oy:∀ a∈jR,a≠na->bG (a.headD Ym) fZ=UD:=Ul
theorem OM:∀ a∈jR,a≠oN->bG (a.headD Ym) fU=UD:=Ul
theorem Oz:∀ a∈jR,a≠px->bG (a.headD Ym) gg=UD:=Ul
theorem OA:∀ a∈ends,a≠lF->bG (a.headD Ym) eV=UD:=Ul
theorem OL:∀ a∈ends,a≠qg->bG (a.headD Ym) fe=UD:=Ul
theorem Cs{K E:J Us}{s:M × Bool}(D:s=aP ws ((H++K).map bG) (0,UD))(h:aP ws ((H++K++cW++E).map bG) (0,UD)=(n,UD)):Gx ws (H.length+K.length) (bV ws (aP ws [cH cC] s) Txt.cU dV) (bV ws (aP ws [cH cC,Txt.cU,cH cO] s) Txt.dZ Txt.eA) (bV ws (aP ws [cH cC,Txt.cU,cH cO,Txt.dZ,cH dA] s) dM bD):=by
 have T:=jI cC Ul;have S:=jI cO Ul;have I:=jI dA Ul;have e0:H++K++cW++E=(H++K)++cC :: ([fY,cO,iq,dA,cD]++E):=by simp[cW]
 have l:H++K++cW++E=(H++K++[cC])++fY :: ([cO,iq,dA,cD]++E):=Uo;have e2:H++K++cW++E=(H++K++[cC,fY])++cO :: ([iq,dA,cD]++E):=Uo;have g:H++K++cW++E=(H++K++[cC,fY,cO])++iq :: ([dA,cD]++E):=Uo;have X:H++K++cW++E=(H++K++[cC,fY,cO,iq])++dA :: ([cD]++E):=Uo;have f:H++K++cW++E=(H++K++[cC,fY,cO,iq,dA])++cD :: E:=Uo;have C:(H++K).length=H.length+K.length:=Ui;have l1:(H++K++[cC]).length=H.length+K.length+1:=Uo;have A:(H++K++[cC,fY]).length=H.length+K.length+2:=Uo;have z:(H++K++[cC,fY,cO]).length=H.length+K.length+3:=Uo;have y:(H++K++[cC,fY,cO,iq]).length=H.length+K.length+4:=Uo;have p:(H++K++[cC,fY,cO,iq,dA]).length=H.length+K.length+5:=Uo;have a0:=mL (e0 ▸ h);have a1:=mL (l ▸ h);have a2:=mL (e2 ▸ h);have a3:=mL (g ▸ h);have a4:=mL (X ▸ h);have a5:=mL (f ▸ h);have v1:=rU (l ▸ h) dV;have c:=rU (g ▸ h) Txt.eA;have a:=rU (f ▸ h) bD;rw[VU,nh,<- D] at v1 c a;simp only[ZA,T,S,I,zy,Gy,jt] at a0 a1 a2 a3 a4 a5 v1 c a;rw[C] at a0;rw[l1] at a1 v1;rw[A] at a2;rw[z] at a3 c;rw[y] at a4;rw[p] at a5 a;exact⟨qQ a0,a1,qQ a2,a3,qQ a4,a5,v1,c,a⟩
theorem CS{K:J Us}{s s':M × Bool}(T:K∈jR)(D:aP ws (H.map bG) (0,UD)=(n,UD))
  (I:∀ K2∈jR,K2≠K->fQ ws n UD (bG (K2.headD Ym))=UD) (hs:s=aP ws ((H++K).map bG) (0,UD)) (he:qw ws (oT ws s) ti un s'):
  ∃ E,Sum (kG H) ws s' (H++K++cW++E)/\(s'.2=UD->aP ws ((H++K++cW++E).map bG) (0,UD)=s'/\zw ws (H.length+K.length+6) ti un E):=by
 have y:oT ws s=aP ws ((H++K++cW).map bG) (0,UD):=by unfold oT;rw[<- Ow,VU (l₁:=H++K),nh,<- hs]
 obtain⟨m,b,g⟩:∃ m b,aP ws ((H++K++cW).map bG) (0,UD)=(m,b):=⟨_,_,rfl⟩;have hl:(H++K++cW).length=H.length+K.length+6:=by simp[cW];omega
 rw[y,g] at he
 cases he with
 |times h =>
  have S:=(oQ (qi ws m b eV ▸ h)).1;subst S;have a:aP ws ((H++K++cW++lF).map bG) (0,UD)=aP ws [eP] (gB (m,UD)):=by rw[VU,nh,g,OB,qq h];rfl
  refine⟨lF,GY T (by simp[ends]) D I g (fun C f p=>xH h (OA C f p)) a,fun z=>⟨a,?_⟩⟩;obtain⟨l,c⟩:∃ l,aP ws ((H++K++cW++lF).map bG) (0,UD)=(l,UD):=⟨_,by rw[a];exact Prod.ext rfl z⟩;have A:H++K++cW++lF=(H++K++cW++[eV])++fS :: []:=by simp[lF]
  have e0:H++K++cW++lF=(H++K++cW)++eV :: [fS]:=Uo;have a0:=mL (e0 ▸ c);have a1:=mL (A ▸ c);have v1:=rU (A ▸ c) bD;rw[VU,nh,g] at v1;have lt:=jI eV Ul;simp only[ZA,lt,sU] at a0 a1 v1;have X:aP ws [cH eV] (m,UD)=gB (m,UD):=(qq h).symm;rw[X] at v1;have l1:(H++K++cW++[eV]).length=H.length+K.length+6+1:=Uo;rw[l1] at a1 v1;rw[hl] at a0;rw[v1];exact .times (qQ a0) a1
 |til h1 h =>
  have S:=(oQ (qi ws m b fe ▸ h)).1;subst S;have a:aP ws ((H++K++cW++qg).map bG) (0,UD)=aP ws [Txt.cU] (gB (m,UD)):=by rw[VU,nh,g,OC,qq h];rfl
  refine⟨qg,GY T (by simp[ends]) D I g (fun C f p=>xH h (OL C f p)) a,fun z=>⟨a,?_⟩⟩;obtain⟨l,c⟩:∃ l,aP ws ((H++K++cW++qg).map bG) (0,UD)=(l,UD):=⟨_,by rw[a];exact Prod.ext rfl z⟩;have A:H++K++cW++qg=(H++K++cW++[fe])++fY :: []:=by simp[qg]
  have e0:H++K++cW++qg=(H++K++cW)++fe :: [fY]:=Uo;have a0:=mL (e0 ▸ c);have a1:=mL (A ▸ c);have v1:=rU (A ▸ c) dV;rw[VU,nh,g] at v1;have lt:=jI fe Ul;simp only[ZA,lt,zy] at a0 a1 v1;have X:aP ws [cH fe] (m,UD)=gB (m,UD):=(qq h).symm;rw[X] at v1;have l1:(H++K++cW++[fe]).length=H.length+K.length+6+1:=Uo;rw[l1] at a1 v1;rw[hl] at a0;rw[v1];exact .til (qQ a0) a1
 |none h1 h =>
  refine⟨lF,Pd T D I g ?_,fun z=>UA z Ui⟩;intro C f;simp only[ends,Va,ZH,or_false] at f;rcases f with rfl|rfl
  .show fQ ws m b (bG eV)=UD;rw[jI eV Ul];exact h1
  .show fQ ws m b (bG fe)=UD;rw[jI fe Ul];exact h
theorem vJ{ev:N}{s':M × Bool}(X:lO ws (aP ws (H.map bG) (0,UD)) pc ev acc fr mn mi ti un s'):∃ q,Sum (kG H) ws s' q/\(s'.2=UD->∃ K E,q=H++K++cW++E/\aP ws (q.map bG) (0,UD)=s'/\GB H ws pc ev acc fr mn mi ti un K E):=by
 obtain⟨n,b,l⟩:∃ n b,aP ws (H.map bG) (0,UD)=(n,b):=⟨_,_,rfl⟩;rw[l] at X
 cases X with
 |mk s _ _ _ hp he =>
  cases hp with
  |daily h =>
   have I:b=UD:=(oQ (qi ws n b fZ ▸ h)).1;subst I;have p:aP ws [eP] (gB (n,UD))=aP ws ((H++na).map bG) (0,UD):=by rw[VU,nh,l,Pe,qq h];rfl
   let⟨E,z,hg⟩:=CS (K:=na) (by simp[jR]) l (fun A c g=>xH h (Oy A c g)) p he;refine⟨_,z,fun f=>⟨na,E,rfl,(hg f).1,?_,?_,(hg f).2⟩⟩
   .have a:aP ws ((H++na++cW++E).map bG) (0,UD)=(s'.1,UD):=Uo
    have T:H++na++cW++E=H++fZ :: ([fS]++cW++E):=by simp[na]
    have y:H++na++cW++E=(H++[fZ])++fS :: (cW++E):=Uo;have a0:=mL (T ▸ a);have a1:=mL (y ▸ a);have v1:=rU (y ▸ a) bD;have lt:=jI fZ Ul;rw[VU,nh,l] at v1;simp only[ZA,lt,sU] at a0 a1 v1;have S:aP ws [cH fZ] (n,UD)=gB (n,UD):=(qq h).symm;rw[S] at v1;have l1:(H++[fZ]).length=H.length+1:=Ui;rw[l1] at a1 v1;rw[v1];exact .daily (qQ a0) a1
   .exact Cs (E:=E) (n:=s'.1) p Uo
  |weekly h1 h acc ha =>
   have I:b=UD:=(oQ (qi ws n b fU ▸ h)).1;subst I;have p:aP ws [eP,Txt.fC] (gB (n,UD))=aP ws ((H++oN).map bG) (0,UD):=by rw[VU,nh,l,Pg,qq h];rfl
   let⟨E,z,hg⟩:=CS (K:=oN) (by simp[jR]) l (fun A c g=>xH h (OM A c g)) p he;refine⟨_,z,fun f=>⟨oN,E,rfl,(hg f).1,?_,?_,(hg f).2⟩⟩
   .have a:aP ws ((H++oN++cW++E).map bG) (0,UD)=(s'.1,UD):=Uo
    have T:H++oN++cW++E=H++fU :: ([fS,kB]++cW++E):=by simp[oN]
    have y:H++oN++cW++E=(H++[fU])++fS :: ([kB]++cW++E):=Uo;have e2:H++oN++cW++E=(H++[fU,fS])++kB :: (cW++E):=Uo;have a0:=mL (T ▸ a);have a1:=mL (y ▸ a);have a2:=xF (e2 ▸ a);have C:=Ck (e2 ▸ a);have v1:=rU (y ▸ a) bD;have lt:=jI fU Ul;rw[VU,nh,l] at v1 C;simp only[ZA,lt,sU,Gz] at a0 a1 a2 C v1;have S:aP ws [cH fU] (n,UD)=gB (n,UD):=(qq h).symm;have e4:aP ws [cH fU,eP] (n,UD)=aP ws [eP] (gB (n,UD)):=by rw[qq h];rfl
    rw[S] at v1;rw[e4] at C;have l1:(H++[fU]).length=H.length+1:=Ui;have l2:(H++[fU,fS]).length=H.length+2:=Ui;rw[l1] at a1 v1;rw[l2] at a2 C;rw[C] at ha;rw[v1];exact .weekly acc (qQ a0) a1 (ha a2)
   .exact Cs (E:=E) (n:=s'.1) p Uo
  |monthly h1 h1' h =>
   have I:b=UD:=(oQ (qi ws n b gg ▸ h)).1;subst I;have p:aP ws [eP] (gB (n,UD))=aP ws ((H++px).map bG) (0,UD):=by rw[VU,nh,l,Pf,qq h];rfl
   let⟨E,z,hg⟩:=CS (K:=px) (by simp[jR]) l (fun A c g=>xH h (Oz A c g)) p he;refine⟨_,z,fun f=>⟨px,E,rfl,(hg f).1,?_,?_,(hg f).2⟩⟩
   .have a:aP ws ((H++px++cW++E).map bG) (0,UD)=(s'.1,UD):=Uo
    have T:H++px++cW++E=H++gg :: ([fS]++cW++E):=by simp[px]
    have y:H++px++cW++E=(H++[gg])++fS :: (cW++E):=Uo;have a0:=mL (T ▸ a);have a1:=mL (y ▸ a);have v1:=rU (y ▸ a) bD;have lt:=jI gg Ul;rw[VU,nh,l] at v1;simp only[ZA,lt,sU] at a0 a1 v1;have S:aP ws [cH gg] (n,UD)=gB (n,UD):=(qq h).symm;rw[S] at v1;have l1:(H++[gg]).length=H.length+1:=Ui;rw[l1] at a1 v1;rw[v1];exact .monthly (qQ a0) a1
   .exact Cs (E:=E) (n:=s'.1) p Uo
  |none h1 f h =>
   have D:oT ws (n,UE)=(n,UE):=by unfold oT;exact td ws _ n
   have z:Sum (kG H) ws (n,UE) (H++na++cW++lF):=by
    refine Pq l ?_;intro A c;simp only[jR,Va,ZH,or_false] at c;rcases c with rfl|rfl|rfl
    .show fQ ws n b (bG fZ)=UD;rw[jI fZ Ul];exact h1
    .show fQ ws n b (bG fU)=UD;rw[jI fU Ul];exact f
    .show fQ ws n b (bG gg)=UD;rw[jI gg Ul];exact h
   rw[D] at he
   cases he with
   |times h=>exact UA (oQ (qi ws n UE eV ▸ h)).1 Uj
   |til _ h=>exact UA (oQ (qi ws n UE fe ▸ h)).1 Uj
   |none _ _=>exact⟨_,z,fun f=>UA f Ui⟩
theorem fF{s:Us}(h:bP ws 0 UD k=UE)(f:fl k=UE)(a:aP ws ((k :: (Q++s :: R)).map bG) (0,UD)=(n,UD))(c:Us->N):bV ws (aP ws (Q.map bG) (1,UD)) (bG s) c=c (ws.getD (Q.length+1) Ym):=by rw[fp h f];exact rU (Q:=k :: Q) a c
theorem fw(Q:J Us){s:Us}(a:aP ws ((k :: (Q++s :: R)).map bG) (0,UD)=(n,UD)):bG s (ws.getD (Q.length+1) Ym)=UE:=mL (Q:=k :: Q) a
theorem lY(a:aP ws ((k :: bF :: R).map bG) (0,UD)=(n,UD)):gW ws (1,UD)=ws.getD 1 Ym:=by have h:=xF (Q:=[k]) (s:=bF) (R:=R) a;rw[dQ] at h;have c:=(oQ h).2.2;unfold gW oL;rw[if_pos (show fQ ws 1 UD (fun s=>Txt.gP s.data.toList)=UE from h)];exact PM c
structure Full(s:Us)(p:J Us):Prop where
 sc:kH s=(U p,0)
 all:aP (Txt.aC s) (p.map bG) (0,UD)=(p.length,UD)
 len:(Txt.aC s).length=p.length
theorem lj{s:Us}(h:bP (Txt.aC s) 0 UD k=UE)(z:fV.filter (gk k)=ps)(l:Sum ps (Txt.aC s) st q)(a:aP (Txt.aC s) (q.map bG) (0,UD)=st)(p:st.2=UD)(g:dN (Txt.aC s).length st.1 st.2=UD):Full s q:=by
 let⟨t,ht⟩:=Cw h;let⟨n,b⟩:=st;have y:=l.at_;have A:=(uB q (Txt.aC s)).2;have C:¬ n<(Txt.aC s).length:=by simpa[dN,show b=UD from p] using g
 have f:=p;subst f;have c:=sY a;refine⟨(IR ht).trans (by rw[z];exact l.yes rfl g),by rw[a,c],?_⟩;have:pre q (Txt.aC s)=n:=y;omega
theorem lZ{s:Us}(h:bP (Txt.aC s) 0 UD k=UE)(a:fV.filter (gk k)=ps)(f:Sum ps (Txt.aC s) st q)(c:st.2=UE\/dN (Txt.aC s).length st.1 st.2=UE):kH s=(UB,st.1):=by let⟨t,ht⟩:=Cw h;rw[IR ht,a];exact f.no c
theorem js(h:bP ws 0 UD k=UE):ws.getD 0 Ym=k:=by let⟨t,ht⟩:=Cw h;rw[ht];rfl
theorem jA{s:Us}{p xs:J Us}(f:Full s p)(c:p.length=n)(a:(List.range n).map (fun j=>aZ (p.getD j Ym) ((Txt.aC s).getD j Ym))=xs):nj p (Txt.aC s) (Txt.aC s).length=jn xs:=by rw[GF,f.len,c,a]
def lh(s:Us)(st:M × Bool):Prop:=st.2=UE\/dN (Txt.aC s).length st.1 st.2=UE->kH s=(UB,st.1)
def nk(s:Us)(v:UG)(st:M × Bool):Prop:=st.2=UD->dN (Txt.aC s).length st.1 st.2=UD->∃ p xs,kH s=(U p,0)/\PW v xs/\0<xs.length/\xs.length<=20/\nj p (Txt.aC s) (Txt.aC s).length=jn xs
theorem O6{s:Us}(h:bP (Txt.aC s) 0 UD ix=UE):lh s (aP (Txt.aC s) [bJ,cF] (1,UD)):=by
 have c:fl ix=UE:=Ul;have f:fV.filter (gk ix)=[[ix,bF,bW]]:=Ul;have a:aP (Txt.aC s) ([ix,bF,bW].map bG) (0,UD)=aP (Txt.aC s) [bJ,cF] (1,UD):=by rw[<- fp h c];simp only[ZA,dQ,fo]
 exact lZ h f (jJ a)
theorem O7{s:Us}(h:bP (Txt.aC s) 0 UD ix=UE):nk s (UU 143 (UT #[gW (Txt.aC s) (1,UD),V Y (bV (Txt.aC s) (aP (Txt.aC s) [bJ] (1,UD)) cF bD)])) (aP (Txt.aC s) [bJ,cF] (1,UD)):=by
 intro y l;have f:fl ix=UE:=Ul;have p:fV.filter (gk ix)=[[ix,bF,bW]]:=Ul;have a:aP (Txt.aC s) ([ix,bF,bW].map bG) (0,UD)=aP (Txt.aC s) [bJ,cF] (1,UD):=by rw[<- fp h f];simp only[ZA,dQ,fo]
 have c:=lj h p (jJ a) a y l;have v0:=lY c.all;have v1:=fF (Q:=[bF]) (s:=bW) (R:=[]) h f c.all bD;have g:=fw [bF] (s:=bW) (R:=[]) c.all;simp only[ZA,VD,dQ,fo] at v1 g;rw[v0,v1];refine⟨_,[ix,((Txt.aC s).getD 1 Ym),Txt.bE (bD ((Txt.aC s).getD 2 Ym))],c.sc,.bH _ _ (cY ((Txt.aC s).getD 2 Ym)).1 (cY ((Txt.aC s).getD 2 Ym)).2,by simp,by simp,jA (n:=3) c rfl ?_⟩;show [aZ ix ((Txt.aC s).getD 0 Ym),aZ bF ((Txt.aC s).getD 1 Ym),aZ bW ((Txt.aC s).getD 2 Ym)]=_;rw[cZ ix _ f,js h,n9,pU _ g]
theorem Oh{s:Us}(h:bP (Txt.aC s) 0 UD iO=UE):lh s (aP (Txt.aC s) [bJ,cF,bB,bB] (1,UD)):=by
 have c:fl iO=UE:=Ul;have f:fV.filter (gk iO)=[[iO,bF,bW,aU,aU]]:=Ul;have a:aP (Txt.aC s) ([iO,bF,bW,aU,aU].map bG) (0,UD)=aP (Txt.aC s) [bJ,cF,bB,bB] (1,UD):=by rw[<- fp h c];simp only[ZA,dQ,fo,fM]
 exact lZ h f (jJ a)
theorem Oi{s:Us}(h:bP (Txt.aC s) 0 UD iO=UE):nk s (UU 148 (UT #[gW (Txt.aC s) (1,UD),V Y (bV (Txt.aC s) (aP (Txt.aC s) [bJ] (1,UD)) cF bD),V Y (bV (Txt.aC s) (aP (Txt.aC s) [bJ,cF] (1,UD)) bB cL),V Y (bV (Txt.aC s) (aP (Txt.aC s) [bJ,cF,bB] (1,UD)) bB cL)])) (aP (Txt.aC s) [bJ,cF,bB,bB] (1,UD)):=by
 intro C z;have f:fl iO=UE:=Ul;have A:fV.filter (gk iO)=[[iO,bF,bW,aU,aU]]:=Ul;have c:aP (Txt.aC s) ([iO,bF,bW,aU,aU].map bG) (0,UD)=aP (Txt.aC s) [bJ,cF,bB,bB] (1,UD):=by rw[<- fp h f];simp only[ZA,dQ,fo,fM]
 have a:=lj h A (jJ c) c C z;have v0:=lY a.all;have v1:=fF (Q:=[bF]) (s:=bW) (R:=[aU,aU]) h f a.all bD;have y:=fw [bF] (s:=bW) (R:=[aU,aU]) a.all;simp only[ZA,VD,dQ,fo] at v1 y;have v2:=fF (Q:=[bF,bW]) (s:=aU) (R:=[aU]) h f a.all cL;have p:=fw [bF,bW] (s:=aU) (R:=[aU]) a.all;simp only[ZA,VD,dQ,fo,fM] at v2 p;have g:=fF (Q:=[bF,bW,aU]) (s:=aU) (R:=[]) h f a.all cL;have l:=fw [bF,bW,aU] (s:=aU) (R:=[]) a.all;simp only[ZA,VD,dQ,fo,fM] at g l;rw[v0,v1,v2,g];refine⟨_,[iO,((Txt.aC s).getD 1 Ym),Txt.bE (bD ((Txt.aC s).getD 2 Ym)),dU (cL ((Txt.aC s).getD 3 Ym)),dU (cL ((Txt.aC s).getD 4 Ym))],a.sc,.book _ _ _ _ (cY ((Txt.aC s).getD 2 Ym)).1 (cY ((Txt.aC s).getD 2 Ym)).2 (jK ((Txt.aC s).getD 3 Ym)).1 (jK ((Txt.aC s).getD 3 Ym)).2 (jK ((Txt.aC s).getD 4 Ym)).1 (jK ((Txt.aC s).getD 4 Ym)).2,by simp,by simp,jA (n:=5) a rfl ?_⟩;show [aZ iO ((Txt.aC s).getD 0 Ym),aZ bF ((Txt.aC s).getD 1 Ym),aZ bW ((Txt.aC s).getD 2 Ym),aZ aU ((Txt.aC s).getD 3 Ym),aZ aU ((Txt.aC s).getD 4 Ym)]=_;rw[cZ iO _ f,js h,n9,pU _ y,ph _ p,ph _ l]
theorem Oq{s:Us}(h:bP (Txt.aC s) 0 UD iE=UE):lh s (aP (Txt.aC s) [bJ,cF,bB,bB,dM] (1,UD)):=by
 have c:fl iE=UE:=Ul;have f:fV.filter (gk iE)=[[iE,bF,bW,aU,aU,cD]]:=Ul;have a:aP (Txt.aC s) ([iE,bF,bW,aU,aU,cD].map bG) (0,UD)=aP (Txt.aC s) [bJ,cF,bB,bB,dM] (1,UD):=by rw[<- fp h c];simp only[ZA,dQ,fo,fM,jt]
 exact lZ h f (jJ a)
theorem Ot{s:Us}(h:bP (Txt.aC s) 0 UD iE=UE):nk s (UU 150 (UT #[gW (Txt.aC s) (1,UD),V Y (bV (Txt.aC s) (aP (Txt.aC s) [bJ] (1,UD)) cF bD),V Y (bV (Txt.aC s) (aP (Txt.aC s) [bJ,cF] (1,UD)) bB cL),V Y (bV (Txt.aC s) (aP (Txt.aC s) [bJ,cF,bB] (1,UD)) bB cL),V Y (bV (Txt.aC s) (aP (Txt.aC s) [bJ,cF,bB,bB] (1,UD)) dM bD)])) (aP (Txt.aC s) [bJ,cF,bB,bB,dM] (1,UD)):=by
 intro I C;have c:fl iE=UE:=Ul;have D:fV.filter (gk iE)=[[iE,bF,bW,aU,aU,cD]]:=Ul;have f:aP (Txt.aC s) ([iE,bF,bW,aU,aU,cD].map bG) (0,UD)=aP (Txt.aC s) [bJ,cF,bB,bB,dM] (1,UD):=by rw[<- fp h c];simp only[ZA,dQ,fo,fM,jt]
 have a:=lj h D (jJ f) f I C;have v0:=lY a.all;have v1:=fF (Q:=[bF]) (s:=bW) (R:=[aU,aU,cD]) h c a.all bD;have A:=fw [bF] (s:=bW) (R:=[aU,aU,cD]) a.all;simp only[ZA,VD,dQ,fo] at v1 A;have v2:=fF (Q:=[bF,bW]) (s:=aU) (R:=[aU,cD]) h c a.all cL;have z:=fw [bF,bW] (s:=aU) (R:=[aU,cD]) a.all;simp only[ZA,VD,dQ,fo,fM] at v2 z;have l:=fF (Q:=[bF,bW,aU]) (s:=aU) (R:=[cD]) h c a.all cL;have y:=fw [bF,bW,aU] (s:=aU) (R:=[cD]) a.all;simp only[ZA,VD,dQ,fo,fM] at l y;have g:=fF (Q:=[bF,bW,aU,aU]) (s:=cD) (R:=[]) h c a.all bD;have p:=fw [bF,bW,aU,aU] (s:=cD) (R:=[]) a.all;simp only[ZA,VD,dQ,fo,fM,jt] at g p;rw[v0,v1,v2,l,g];refine⟨_,[iE,((Txt.aC s).getD 1 Ym),Txt.bE (bD ((Txt.aC s).getD 2 Ym)),dU (cL ((Txt.aC s).getD 3 Ym)),dU (cL ((Txt.aC s).getD 4 Ym)),Txt.bE (bD ((Txt.aC s).getD 5 Ym))],a.sc,.hold _ _ _ _ _ (cY ((Txt.aC s).getD 2 Ym)).1 (cY ((Txt.aC s).getD 2 Ym)).2 (jK ((Txt.aC s).getD 3 Ym)).1 (jK ((Txt.aC s).getD 3 Ym)).2 (jK ((Txt.aC s).getD 4 Ym)).1 (jK ((Txt.aC s).getD 4 Ym)).2 (cY ((Txt.aC s).getD 5 Ym)).1 (cY ((Txt.aC s).getD 5 Ym)).2,by simp,by simp,jA (n:=6) a rfl ?_⟩;show [aZ iE ((Txt.aC s).getD 0 Ym),aZ bF ((Txt.aC s).getD 1 Ym),aZ bW ((Txt.aC s).getD 2 Ym),aZ aU ((Txt.aC s).getD 3 Ym),aZ aU ((Txt.aC s).getD 4 Ym),aZ cD ((Txt.aC s).getD 5 Ym)]=_;rw[cZ iE _ c,js h,n9,pU _ A,ph _ z,ph _ y,nc _ p]
theorem OV{s:Us}(h:bP (Txt.aC s) 0 UD iF=UE):lh s (aP (Txt.aC s) [bJ,cF,bB,bB,dM] (1,UD)):=by
 have c:fl iF=UE:=Ul;have f:fV.filter (gk iF)=[[iF,bF,bW,aU,aU,cD]]:=Ul;have a:aP (Txt.aC s) ([iF,bF,bW,aU,aU,cD].map bG) (0,UD)=aP (Txt.aC s) [bJ,cF,bB,bB,dM] (1,UD):=by rw[<- fp h c];simp only[ZA,dQ,fo,fM,jt]
 exact lZ h f (jJ a)
theorem OX{s:Us}(h:bP (Txt.aC s) 0 UD iF=UE):nk s (UU 151 (UT #[gW (Txt.aC s) (1,UD),V Y (bV (Txt.aC s) (aP (Txt.aC s) [bJ] (1,UD)) cF bD),V Y (bV (Txt.aC s) (aP (Txt.aC s) [bJ,cF] (1,UD)) bB cL),V Y (bV (Txt.aC s) (aP (Txt.aC s) [bJ,cF,bB] (1,UD)) bB cL),V Y (bV (Txt.aC s) (aP (Txt.aC s) [bJ,cF,bB,bB] (1,UD)) dM bD)])) (aP (Txt.aC s) [bJ,cF,bB,bB,dM] (1,UD)):=by
 intro I C;have c:fl iF=UE:=Ul;have D:fV.filter (gk iF)=[[iF,bF,bW,aU,aU,cD]]:=Ul;have f:aP (Txt.aC s) ([iF,bF,bW,aU,aU,cD].map bG) (0,UD)=aP (Txt.aC s) [bJ,cF,bB,bB,dM] (1,UD):=by rw[<- fp h c];simp only[ZA,dQ,fo,fM,jt]
 have a:=lj h D (jJ f) f I C;have v0:=lY a.all;have v1:=fF (Q:=[bF]) (s:=bW) (R:=[aU,aU,cD]) h c a.all bD;have A:=fw [bF] (s:=bW) (R:=[aU,aU,cD]) a.all;simp only[ZA,VD,dQ,fo] at v1 A;have v2:=fF (Q:=[bF,bW]) (s:=aU) (R:=[aU,cD]) h c a.all cL;have z:=fw [bF,bW] (s:=aU) (R:=[aU,cD]) a.all;simp only[ZA,VD,dQ,fo,fM] at v2 z;have l:=fF (Q:=[bF,bW,aU]) (s:=aU) (R:=[cD]) h c a.all cL;have y:=fw [bF,bW,aU] (s:=aU) (R:=[cD]) a.all;simp only[ZA,VD,dQ,fo,fM] at l y;have g:=fF (Q:=[bF,bW,aU,aU]) (s:=cD) (R:=[]) h c a.all bD;have p:=fw [bF,bW,aU,aU] (s:=cD) (R:=[]) a.all;simp only[ZA,VD,dQ,fo,fM,jt] at g p;rw[v0,v1,v2,l,g];refine⟨_,[iF,((Txt.aC s).getD 1 Ym),Txt.bE (bD ((Txt.aC s).getD 2 Ym)),dU (cL ((Txt.aC s).getD 3 Ym)),dU (cL ((Txt.aC s).getD 4 Ym)),Txt.bE (bD ((Txt.aC s).getD 5 Ym))],a.sc,.wait _ _ _ _ _ (cY ((Txt.aC s).getD 2 Ym)).1 (cY ((Txt.aC s).getD 2 Ym)).2 (jK ((Txt.aC s).getD 3 Ym)).1 (jK ((Txt.aC s).getD 3 Ym)).2 (jK ((Txt.aC s).getD 4 Ym)).1 (jK ((Txt.aC s).getD 4 Ym)).2 (cY ((Txt.aC s).getD 5 Ym)).1 (cY ((Txt.aC s).getD 5 Ym)).2,by simp,by simp,jA (n:=6) a rfl ?_⟩;show [aZ iF ((Txt.aC s).getD 0 Ym),aZ bF ((Txt.aC s).getD 1 Ym),aZ bW ((Txt.aC s).getD 2 Ym),aZ aU ((Txt.aC s).getD 3 Ym),aZ aU ((Txt.aC s).getD 4 Ym),aZ cD ((Txt.aC s).getD 5 Ym)]=_;rw[cZ iF _ c,js h,n9,pU _ A,ph _ z,ph _ y,nc _ p]
theorem P4{s:Us}(h:bP (Txt.aC s) 0 UD iU=UE):lh s (aP (Txt.aC s) [jQ] (1,UD)):=by
 have c:fl iU=UE:=Ul;have f:fV.filter (gk iU)=[[iU,gT]]:=Ul;have a:aP (Txt.aC s) ([iU,gT].map bG) (0,UD)=aP (Txt.aC s) [jQ] (1,UD):=by rw[<- fp h c];simp only[ZA,qP]
 exact lZ h f (jJ a)
theorem Qg{s:Us}(h:bP (Txt.aC s) 0 UD iU=UE):nk s (UU 160 (UT #[V Y (bV (Txt.aC s) (1,UD) jQ bD)])) (aP (Txt.aC s) [jQ] (1,UD)):=by
 intro y l;have f:fl iU=UE:=Ul;have p:fV.filter (gk iU)=[[iU,gT]]:=Ul;have a:aP (Txt.aC s) ([iU,gT].map bG) (0,UD)=aP (Txt.aC s) [jQ] (1,UD):=by rw[<- fp h f];simp only[ZA,qP]
 have c:=lj h p (jJ a) a y l;have v0:=fF (Q:=[]) (s:=gT) (R:=[]) h f c.all bD;have g:=fw [] (s:=gT) (R:=[]) c.all;simp only[ZA,VD,wC,qP] at v0 g;rw[v0];refine⟨_,[iU,Txt.bE (bD ((Txt.aC s).getD 1 Ym))],c.sc,.bL _ (cY ((Txt.aC s).getD 1 Ym)).1 (cY ((Txt.aC s).getD 1 Ym)).2,by simp,by simp,jA (n:=2) c rfl ?_⟩;show [aZ iU ((Txt.aC s).getD 0 Ym),aZ gT ((Txt.aC s).getD 1 Ym)]=_;rw[cZ iU _ f,js h,Gq _ g]
theorem Ps{s:Us}(h:bP (Txt.aC s) 0 UD iR=UE):lh s (aP (Txt.aC s) [jQ] (1,UD)):=by
 have c:fl iR=UE:=Ul;have f:fV.filter (gk iR)=[[iR,gT]]:=Ul;have a:aP (Txt.aC s) ([iR,gT].map bG) (0,UD)=aP (Txt.aC s) [jQ] (1,UD):=by rw[<- fp h c];simp only[ZA,qP]
 exact lZ h f (jJ a)
theorem Pt{s:Us}(h:bP (Txt.aC s) 0 UD iR=UE):nk s (UU 161 (UT #[V Y (bV (Txt.aC s) (1,UD) jQ bD)])) (aP (Txt.aC s) [jQ] (1,UD)):=by
 intro y l;have f:fl iR=UE:=Ul;have p:fV.filter (gk iR)=[[iR,gT]]:=Ul;have a:aP (Txt.aC s) ([iR,gT].map bG) (0,UD)=aP (Txt.aC s) [jQ] (1,UD):=by rw[<- fp h f];simp only[ZA,qP]
 have c:=lj h p (jJ a) a y l;have v0:=fF (Q:=[]) (s:=gT) (R:=[]) h f c.all bD;have g:=fw [] (s:=gT) (R:=[]) c.all;simp only[ZA,VD,wC,qP] at v0 g;rw[v0];refine⟨_,[iR,Txt.bE (bD ((Txt.aC s).getD 1 Ym))],c.sc,.cancel _ (cY ((Txt.aC s).getD 1 Ym)).1 (cY ((Txt.aC s).getD 1 Ym)).2,by simp,by simp,jA (n:=2) c rfl ?_⟩;show [aZ iR ((Txt.aC s).getD 0 Ym),aZ gT ((Txt.aC s).getD 1 Ym)]=_;rw[cZ iR _ f,js h,Gq _ g]
theorem QG{s:Us}(h:bP (Txt.aC s) 0 UD iT=UE):lh s (1,UD):=by
 have c:fl iT=UE:=Ul;have f:fV.filter (gk iT)=[[iT]]:=Ul;have a:aP (Txt.aC s) ([iT].map bG) (0,UD)=(1,UD):=by rw[<- fp h c];rfl
 exact lZ h f (jJ a)
theorem QH{s:Us}(h:bP (Txt.aC s) 0 UD iT=UE):nk s (UU 166 (UT #[])) (1,UD):=by
 intro p g;have c:fl iT=UE:=Ul;have l:fV.filter (gk iT)=[[iT]]:=Ul;have a:aP (Txt.aC s) ([iT].map bG) (0,UD)=(1,UD):=by rw[<- fp h c];rfl
 have f:=lj h l (jJ a) a p g;refine⟨_,[iT],f.sc,.waiting  ,by simp,by simp,jA (n:=1) f rfl ?_⟩;show [aZ iT ((Txt.aC s).getD 0 Ym)]=_;rw[cZ iT _ c,js h]
theorem Ou{s:Us}(h:bP (Txt.aC s) 0 UD iu=UE):lh s (aP (Txt.aC s) [bJ,bB,bB] (1,UD)):=by
 have c:fl iu=UE:=Ul;have f:fV.filter (gk iu)=[[iu,bF,aU,aU]]:=Ul;have a:aP (Txt.aC s) ([iu,bF,aU,aU].map bG) (0,UD)=aP (Txt.aC s) [bJ,bB,bB] (1,UD):=by rw[<- fp h c];simp only[ZA,dQ,fM]
 exact lZ h f (jJ a)
theorem Ov{s:Us}(h:bP (Txt.aC s) 0 UD iu=UE):nk s (UU 169 (UT #[gW (Txt.aC s) (1,UD),V Y (bV (Txt.aC s) (aP (Txt.aC s) [bJ] (1,UD)) bB cL),V Y (bV (Txt.aC s) (aP (Txt.aC s) [bJ,bB] (1,UD)) bB cL)])) (aP (Txt.aC s) [bJ,bB,bB] (1,UD)):=by
 intro z p;have f:fl iu=UE:=Ul;have y:fV.filter (gk iu)=[[iu,bF,aU,aU]]:=Ul;have c:aP (Txt.aC s) ([iu,bF,aU,aU].map bG) (0,UD)=aP (Txt.aC s) [bJ,bB,bB] (1,UD):=by rw[<- fp h f];simp only[ZA,dQ,fM]
 have a:=lj h y (jJ c) c z p;have v0:=lY a.all;have v1:=fF (Q:=[bF]) (s:=aU) (R:=[aU]) h f a.all cL;have l:=fw [bF] (s:=aU) (R:=[aU]) a.all;simp only[ZA,VD,dQ,fM] at v1 l;have v2:=fF (Q:=[bF,aU]) (s:=aU) (R:=[]) h f a.all cL;have g:=fw [bF,aU] (s:=aU) (R:=[]) a.all;simp only[ZA,VD,dQ,fM] at v2 g;rw[v0,v1,v2];refine⟨_,[iu,((Txt.aC s).getD 1 Ym),dU (cL ((Txt.aC s).getD 2 Ym)),dU (cL ((Txt.aC s).getD 3 Ym))],a.sc,.ef _ _ _ (jK ((Txt.aC s).getD 2 Ym)).1 (jK ((Txt.aC s).getD 2 Ym)).2 (jK ((Txt.aC s).getD 3 Ym)).1 (jK ((Txt.aC s).getD 3 Ym)).2,by simp,by simp,jA (n:=4) a rfl ?_⟩;show [aZ iu ((Txt.aC s).getD 0 Ym),aZ bF ((Txt.aC s).getD 1 Ym),aZ aU ((Txt.aC s).getD 2 Ym),aZ aU ((Txt.aC s).getD 3 Ym)]=_;rw[cZ iu _ f,js h,n9,ph _ l,ph _ g]
theorem On{s:Us}(h:bP (Txt.aC s) 0 UD ir=UE):lh s (aP (Txt.aC s) [bJ,cF,dM,bB,bB] (1,UD)):=by
 have c:fl ir=UE:=Ul;have f:fV.filter (gk ir)=[[ir,bF,bW,cD,aU,aU]]:=Ul;have a:aP (Txt.aC s) ([ir,bF,bW,cD,aU,aU].map bG) (0,UD)=aP (Txt.aC s) [bJ,cF,dM,bB,bB] (1,UD):=by rw[<- fp h c];simp only[ZA,dQ,fo,jt,fM]
 exact lZ h f (jJ a)
theorem Oo{s:Us}(h:bP (Txt.aC s) 0 UD ir=UE):nk s (UU 171 (UT #[gW (Txt.aC s) (1,UD),V Y (bV (Txt.aC s) (aP (Txt.aC s) [bJ] (1,UD)) cF bD),V Y (bV (Txt.aC s) (aP (Txt.aC s) [bJ,cF] (1,UD)) dM bD),V Y (bV (Txt.aC s) (aP (Txt.aC s) [bJ,cF,dM] (1,UD)) bB cL),V Y (bV (Txt.aC s) (aP (Txt.aC s) [bJ,cF,dM,bB] (1,UD)) bB cL)])) (aP (Txt.aC s) [bJ,cF,dM,bB,bB] (1,UD)):=by
 intro I C;have c:fl ir=UE:=Ul;have D:fV.filter (gk ir)=[[ir,bF,bW,cD,aU,aU]]:=Ul;have f:aP (Txt.aC s) ([ir,bF,bW,cD,aU,aU].map bG) (0,UD)=aP (Txt.aC s) [bJ,cF,dM,bB,bB] (1,UD):=by rw[<- fp h c];simp only[ZA,dQ,fo,jt,fM]
 have a:=lj h D (jJ f) f I C;have v0:=lY a.all;have v1:=fF (Q:=[bF]) (s:=bW) (R:=[cD,aU,aU]) h c a.all bD;have A:=fw [bF] (s:=bW) (R:=[cD,aU,aU]) a.all;simp only[ZA,VD,dQ,fo] at v1 A;have v2:=fF (Q:=[bF,bW]) (s:=cD) (R:=[aU,aU]) h c a.all bD;have z:=fw [bF,bW] (s:=cD) (R:=[aU,aU]) a.all;simp only[ZA,VD,dQ,fo,jt] at v2 z;have l:=fF (Q:=[bF,bW,cD]) (s:=aU) (R:=[aU]) h c a.all cL;have y:=fw [bF,bW,cD] (s:=aU) (R:=[aU]) a.all;simp only[ZA,VD,dQ,fo,jt,fM] at l y;have g:=fF (Q:=[bF,bW,cD,aU]) (s:=aU) (R:=[]) h c a.all cL;have p:=fw [bF,bW,cD,aU] (s:=aU) (R:=[]) a.all;simp only[ZA,VD,dQ,fo,jt,fM] at g p;rw[v0,v1,v2,l,g];refine⟨_,[ir,((Txt.aC s).getD 1 Ym),Txt.bE (bD ((Txt.aC s).getD 2 Ym)),Txt.bE (bD ((Txt.aC s).getD 3 Ym)),dU (cL ((Txt.aC s).getD 4 Ym)),dU (cL ((Txt.aC s).getD 5 Ym))],a.sc,.find _ _ _ _ _ (cY ((Txt.aC s).getD 2 Ym)).1 (cY ((Txt.aC s).getD 2 Ym)).2 (cY ((Txt.aC s).getD 3 Ym)).1 (cY ((Txt.aC s).getD 3 Ym)).2 (jK ((Txt.aC s).getD 4 Ym)).1 (jK ((Txt.aC s).getD 4 Ym)).2 (jK ((Txt.aC s).getD 5 Ym)).1 (jK ((Txt.aC s).getD 5 Ym)).2,by simp,by simp,jA (n:=6) a rfl ?_⟩;show [aZ ir ((Txt.aC s).getD 0 Ym),aZ bF ((Txt.aC s).getD 1 Ym),aZ bW ((Txt.aC s).getD 2 Ym),aZ cD ((Txt.aC s).getD 3 Ym),aZ aU ((Txt.aC s).getD 4 Ym),aZ aU ((Txt.aC s).getD 5 Ym)]=_;rw[cZ ir _ c,js h,n9,pU _ A,nc _ z,ph _ y,ph _ p]
theorem B7{s:Us}(h:bP (Txt.aC s) 0 UD ja=UE):lh s (aP (Txt.aC s) [dM] (1,UD)):=by
 have c:fl ja=UE:=Ul;have f:fV.filter (gk ja)=[[ja,cD]]:=Ul;have a:aP (Txt.aC s) ([ja,cD].map bG) (0,UD)=aP (Txt.aC s) [dM] (1,UD):=by rw[<- fp h c];simp only[ZA,jt]
 exact lZ h f (jJ a)
theorem OJ{s:Us}(h:bP (Txt.aC s) 0 UD ja=UE):nk s (UU 175 (UT #[V Y (bV (Txt.aC s) (1,UD) dM bD)])) (aP (Txt.aC s) [dM] (1,UD)):=by
 intro y l;have f:fl ja=UE:=Ul;have p:fV.filter (gk ja)=[[ja,cD]]:=Ul;have a:aP (Txt.aC s) ([ja,cD].map bG) (0,UD)=aP (Txt.aC s) [dM] (1,UD):=by rw[<- fp h f];simp only[ZA,jt]
 have c:=lj h p (jJ a) a y l;have v0:=fF (Q:=[]) (s:=cD) (R:=[]) h f c.all bD;have g:=fw [] (s:=cD) (R:=[]) c.all;simp only[ZA,VD,wC,jt] at v0 g;rw[v0];refine⟨_,[ja,Txt.bE (bD ((Txt.aC s).getD 1 Ym))],c.sc,.tick _ (cY ((Txt.aC s).getD 1 Ym)).1 (cY ((Txt.aC s).getD 1 Ym)).2,by simp,by simp,jA (n:=2) c rfl ?_⟩;show [aZ ja ((Txt.aC s).getD 0 Ym),aZ cD ((Txt.aC s).getD 1 Ym)]=_;rw[cZ ja _ f,js h,nc _ g]
theorem OR{s:Us}(h:bP (Txt.aC s) 0 UD iN=UE):lh s (1,UD):=by
 have c:fl iN=UE:=Ul;have f:fV.filter (gk iN)=[[iN]]:=Ul;have a:aP (Txt.aC s) ([iN].map bG) (0,UD)=(1,UD):=by rw[<- fp h c];rfl
 exact lZ h f (jJ a)
theorem OS{s:Us}(h:bP (Txt.aC s) 0 UD iN=UE):nk s (UU 176 (UT #[])) (1,UD):=by
 intro p g;have c:fl iN=UE:=Ul;have l:fV.filter (gk iN)=[[iN]]:=Ul;have a:aP (Txt.aC s) ([iN].map bG) (0,UD)=(1,UD):=by rw[<- fp h c];rfl
 have f:=lj h l (jJ a) a p g;refine⟨_,[iN],f.sc,.clock  ,by simp,by simp,jA (n:=1) f rfl ?_⟩;show [aZ iN ((Txt.aC s).getD 0 Ym)]=_;rw[cZ iN _ c,js h]
theorem O8{s:Us}(h:bP (Txt.aC s) 0 UD dC=UE)(c:dN (Txt.aC s).length (aP (Txt.aC s) [bJ] (1,UD)).1 (aP (Txt.aC s) [bJ] (1,UD)).2=UD):lh s (aP (Txt.aC s) [bJ] (1,UD)):=by
 have f:fl dC=UE:=Ul;have g:fV.filter (gk dC)=[[dC,bF],[dC,bF,aU,aU]]:=Ul;have a:aP (Txt.aC s) ([dC,bF].map bG) (0,UD)=aP (Txt.aC s) [bJ] (1,UD):=by rw[<- fp h f];simp only[ZA,dQ]
 exact lZ h g (Cm a c)
theorem O9{s:Us}(h:bP (Txt.aC s) 0 UD dC=UE)(l:dN (Txt.aC s).length (aP (Txt.aC s) [bJ] (1,UD)).1 (aP (Txt.aC s) [bJ] (1,UD)).2=UD):nk s (UU 163 (UT #[gW (Txt.aC s) (1,UD),UD,V Y 0,V Y 0])) (aP (Txt.aC s) [bJ] (1,UD)):=by
 intro y g;have f:fl dC=UE:=Ul;have p:fV.filter (gk dC)=[[dC,bF],[dC,bF,aU,aU]]:=Ul;have a:aP (Txt.aC s) ([dC,bF].map bG) (0,UD)=aP (Txt.aC s) [bJ] (1,UD):=by rw[<- fp h f];simp only[ZA,dQ]
 have c:=lj h p (Cm a l) a y g;have v0:=lY c.all;rw[v0];refine⟨_,[dC,((Txt.aC s).getD 1 Ym)],c.sc,.list0 _ _ _,by simp,by simp,jA (n:=2) c rfl ?_⟩;show [aZ dC ((Txt.aC s).getD 0 Ym),aZ bF ((Txt.aC s).getD 1 Ym)]=_;rw[cZ dC _ f,js h,n9]
theorem Pa{s:Us}(h:bP (Txt.aC s) 0 UD dC=UE)(g:dN (Txt.aC s).length (aP (Txt.aC s) [bJ] (1,UD)).1 (aP (Txt.aC s) [bJ] (1,UD)).2=UE):lh s (aP (Txt.aC s) [bJ,bB,bB] (1,UD)):=by
 have f:fl dC=UE:=Ul;have l:fV.filter (gk dC)=[[dC,bF],[dC,bF,aU,aU]]:=Ul;have c:aP (Txt.aC s) ([dC,bF].map bG) (0,UD)=aP (Txt.aC s) [bJ] (1,UD):=by rw[<- fp h f];simp only[ZA,dQ]
 have a:aP (Txt.aC s) ([dC,bF,aU,aU].map bG) (0,UD)=aP (Txt.aC s) [bJ,bB,bB] (1,UD):=by rw[<- fp h f];simp only[ZA,dQ,fM]
 exact lZ h l (Cn c g a)
theorem Pb{s:Us}(h:bP (Txt.aC s) 0 UD dC=UE)(z:dN (Txt.aC s).length (aP (Txt.aC s) [bJ] (1,UD)).1 (aP (Txt.aC s) [bJ] (1,UD)).2=UE):nk s (UU 163 (UT #[gW (Txt.aC s) (1,UD),UE,V Y (bV (Txt.aC s) (aP (Txt.aC s) [bJ] (1,UD)) bB cL),V Y (bV (Txt.aC s) (aP (Txt.aC s) [bJ,bB] (1,UD)) bB cL)])) (aP (Txt.aC s) [bJ,bB,bB] (1,UD)):=by
 intro C y;have f:fl dC=UE:=Ul;have A:fV.filter (gk dC)=[[dC,bF],[dC,bF,aU,aU]]:=Ul;have g:aP (Txt.aC s) ([dC,bF].map bG) (0,UD)=aP (Txt.aC s) [bJ] (1,UD):=by rw[<- fp h f];simp only[ZA,dQ]
 have a:aP (Txt.aC s) ([dC,bF,aU,aU].map bG) (0,UD)=aP (Txt.aC s) [bJ,bB,bB] (1,UD):=by rw[<- fp h f];simp only[ZA,dQ,fM]
 have c:=lj h A (Cn g z a) a C y;have v0:=lY c.all;have v1:=fF (Q:=[bF]) (s:=aU) (R:=[aU]) h f c.all cL;have p:=fw [bF] (s:=aU) (R:=[aU]) c.all;simp only[ZA,VD,dQ,fM] at v1 p;have v2:=fF (Q:=[bF,aU]) (s:=aU) (R:=[]) h f c.all cL;have l:=fw [bF,aU] (s:=aU) (R:=[]) c.all;simp only[ZA,VD,dQ,fM] at v2 l;rw[v0,v1,v2];refine⟨_,[dC,((Txt.aC s).getD 1 Ym),dU (cL ((Txt.aC s).getD 2 Ym)),dU (cL ((Txt.aC s).getD 3 Ym))],c.sc,.list1 _ _ _ (jK ((Txt.aC s).getD 2 Ym)).1 (jK ((Txt.aC s).getD 2 Ym)).2 (jK ((Txt.aC s).getD 3 Ym)).1 (jK ((Txt.aC s).getD 3 Ym)).2,by simp,by simp,jA (n:=4) c rfl ?_⟩;show [aZ dC ((Txt.aC s).getD 0 Ym),aZ bF ((Txt.aC s).getD 1 Ym),aZ aU ((Txt.aC s).getD 2 Ym),aZ aU ((Txt.aC s).getD 3 Ym)]=_;rw[cZ dC _ f,js h,n9,ph _ p,ph _ l]
theorem vH{w:Us}(h:eP w=UE):0<bD w:=by have:=(uA h).2.1;omega
theorem pD(w:Us):Txt.eA w<1440:=by have:=(Txt.mR w).2;omega
theorem gM(w:Us):0<=dV w/\dV w<=728:=by
 unfold dV
 cases h:Txt.cU w
 .simp
 .unfold Txt.cU at h;have:=of_decide_eq_true h;simp only[if_true];omega
theorem Hd{s:Us}(h:bP (Txt.aC s) 0 UD eQ=UE){ev:N}(c:lO (Txt.aC s) (aP (Txt.aC s) [bJ,cF] (1,UD)) pc ev acc fr mn mi ti un st):lh s st:=by
 have f:fl eQ=UE:=Ul;have g:fV.filter (gk eQ)=kG lf:=Ul;have a:aP (Txt.aC s) (lf.map bG) (0,UD)=(aP (Txt.aC s) [bJ,cF] (1,UD)):=by unfold lf;rw[<- fp h f];simp only[ZA,dQ,fo]
 rw[<- a] at c;let⟨q,hS,hg⟩:=vJ c;exact lZ h g hS
theorem Pu{s:Us}(h:bP (Txt.aC s) 0 UD eQ=UE){ev:N}(hr:lO (Txt.aC s) (aP (Txt.aC s) [bJ,cF] (1,UD)) pc ev acc fr mn mi ti un st):nk s (UU 158 (UT #[gW (Txt.aC s) (1,UD),V Y (bV (Txt.aC s) (aP (Txt.aC s) [bJ] (1,UD)) cF bD),pc,ev,aI acc 0,aI acc 1,aI acc 2,aI acc 3,aI acc 4,aI acc 5,aI acc 6,fr,mn,mi,ti,un])) st:=by
 intro h2 hm;have I:fl eQ=UE:=Ul;have hf:fV.filter (gk eQ)=kG lf:=Ul;have aa:aP (Txt.aC s) (lf.map bG) (0,UD)=(aP (Txt.aC s) [bJ,cF] (1,UD)):=by unfold lf;rw[<- fp h I];simp only[ZA,dQ,fo]
 rw[<- aa] at hr;obtain⟨q,hS,hg⟩:=vJ hr;obtain⟨K,E,rfl,hq,hG⟩:=hg h2;have a:=lj h hf hS hq h2 hm;have e0:lf++K++cW++E=eQ :: bF :: (bW :: (K++cW++E)):=by simp[lf]
 have e1:lf++K++cW++E=eQ :: ([bF]++bW :: (K++cW++E)):=by simp[lf]
 have v0:=lY (ws:=Txt.aC s) (R:=bW :: (K++cW++E)) (k:=eQ) (by rw[<- e0];exact a.all);have v1:=fF (Q:=[bF]) (s:=bW) (R:=K++cW++E) h I (by rw[<- e1];exact a.all) bD;have T:=fw (ws:=Txt.aC s) [bF] (k:=eQ) (s:=bW) (R:=K++cW++E) (by rw[<- e1];exact a.all);simp only[ZA,VD,dQ,fo] at v1 T;rw[v0,v1];clear hr hg hS hq aa;obtain⟨S,⟨k0,k1,k2,k3,k4,X,rfl,rfl,rfl⟩,A⟩:=hG
 cases S with
 |daily p0 p1 =>
  cases A with
  |times q0 q1 =>have D:((Txt.aC s).getD 3 Ym)=fZ:=p0;have C:eP ((Txt.aC s).getD 4 Ym)=UE:=p1;have z:((Txt.aC s).getD 5 Ym)=cC:=k0;have s1:Txt.cU ((Txt.aC s).getD 6 Ym)=UE:=k1;have y:((Txt.aC s).getD 7 Ym)=cO:=k2;have p:Txt.dZ ((Txt.aC s).getD 8 Ym)=UE:=k3;have l:((Txt.aC s).getD 9 Ym)=dA:=k4;have g:dM ((Txt.aC s).getD 10 Ym)=UE:=X;have f:((Txt.aC s).getD 11 Ym)=eV:=q0;have c:eP ((Txt.aC s).getD 12 Ym)=UE:=q1;refine⟨_,[eQ,((Txt.aC s).getD 1 Ym),Txt.bE (bD ((Txt.aC s).getD 2 Ym))]++([fZ,Txt.bE (bD ((Txt.aC s).getD 4 Ym))]++gL (dV ((Txt.aC s).getD 6 Ym)) (Txt.eA ((Txt.aC s).getD 8 Ym)) (bD ((Txt.aC s).getD 10 Ym))++[eV,Txt.bE (bD ((Txt.aC s).getD 12 Ym))]),a.sc,.series _ _ _ _ _ _ _ _ _ _ _ (cY _).1 (cY _).2 (.mk _ _ _ _ _ _ _ _ _ _ (.daily _ _ (cY _).1 (cY _).2) (.times _ _ (vH c) (cY _).2) (gM _).1 (gM _).2 (Txt.mR _).1 (pD _) (cY _).1 (cY _).2),by simp,by simp[gL],jA (n:=13) a rfl ?_⟩;show [aZ eQ ((Txt.aC s).getD 0 Ym),aZ bF ((Txt.aC s).getD 1 Ym),aZ bW ((Txt.aC s).getD 2 Ym),aZ fZ ((Txt.aC s).getD 3 Ym),aZ fS ((Txt.aC s).getD 4 Ym),aZ cC ((Txt.aC s).getD 5 Ym),aZ fY ((Txt.aC s).getD 6 Ym),aZ cO ((Txt.aC s).getD 7 Ym),aZ iq ((Txt.aC s).getD 8 Ym),aZ dA ((Txt.aC s).getD 9 Ym),aZ cD ((Txt.aC s).getD 10 Ym),aZ eV ((Txt.aC s).getD 11 Ym),aZ fS ((Txt.aC s).getD 12 Ym)]=[eQ,((Txt.aC s).getD 1 Ym),Txt.bE (bD ((Txt.aC s).getD 2 Ym)),fZ,Txt.bE (bD ((Txt.aC s).getD 4 Ym)),cC,fO (dV ((Txt.aC s).getD 6 Ym)),cO,jg (Txt.eA ((Txt.aC s).getD 8 Ym)),dA,Txt.bE (bD ((Txt.aC s).getD 10 Ym)),eV,Txt.bE (bD ((Txt.aC s).getD 12 Ym))];rw[cZ eQ _ I,js h,n9,pU _ T,cZ fZ _ Ul,D,lU _ C,cZ cC _ Ul,z,lV,ma _ s1,cZ cO _ Ul,y,pj,pB _ p,cZ dA _ Ul,l,nc _ g,cZ eV _ Ul,f,lU _ c]
  |til q0 q1 =>have D:((Txt.aC s).getD 3 Ym)=fZ:=p0;have C:eP ((Txt.aC s).getD 4 Ym)=UE:=p1;have z:((Txt.aC s).getD 5 Ym)=cC:=k0;have s1:Txt.cU ((Txt.aC s).getD 6 Ym)=UE:=k1;have y:((Txt.aC s).getD 7 Ym)=cO:=k2;have p:Txt.dZ ((Txt.aC s).getD 8 Ym)=UE:=k3;have l:((Txt.aC s).getD 9 Ym)=dA:=k4;have g:dM ((Txt.aC s).getD 10 Ym)=UE:=X;have f:((Txt.aC s).getD 11 Ym)=fe:=q0;have c:Txt.cU ((Txt.aC s).getD 12 Ym)=UE:=q1;refine⟨_,[eQ,((Txt.aC s).getD 1 Ym),Txt.bE (bD ((Txt.aC s).getD 2 Ym))]++([fZ,Txt.bE (bD ((Txt.aC s).getD 4 Ym))]++gL (dV ((Txt.aC s).getD 6 Ym)) (Txt.eA ((Txt.aC s).getD 8 Ym)) (bD ((Txt.aC s).getD 10 Ym))++[fe,fO (dV ((Txt.aC s).getD 12 Ym))]),a.sc,.series _ _ _ _ _ _ _ _ _ _ _ (cY _).1 (cY _).2 (.mk _ _ _ _ _ _ _ _ _ _ (.daily _ _ (cY _).1 (cY _).2) (.til _ (gM _).1 (gM _).2) (gM _).1 (gM _).2 (Txt.mR _).1 (pD _) (cY _).1 (cY _).2),by simp,by simp[gL],jA (n:=13) a rfl ?_⟩;show [aZ eQ ((Txt.aC s).getD 0 Ym),aZ bF ((Txt.aC s).getD 1 Ym),aZ bW ((Txt.aC s).getD 2 Ym),aZ fZ ((Txt.aC s).getD 3 Ym),aZ fS ((Txt.aC s).getD 4 Ym),aZ cC ((Txt.aC s).getD 5 Ym),aZ fY ((Txt.aC s).getD 6 Ym),aZ cO ((Txt.aC s).getD 7 Ym),aZ iq ((Txt.aC s).getD 8 Ym),aZ dA ((Txt.aC s).getD 9 Ym),aZ cD ((Txt.aC s).getD 10 Ym),aZ fe ((Txt.aC s).getD 11 Ym),aZ fY ((Txt.aC s).getD 12 Ym)]=[eQ,((Txt.aC s).getD 1 Ym),Txt.bE (bD ((Txt.aC s).getD 2 Ym)),fZ,Txt.bE (bD ((Txt.aC s).getD 4 Ym)),cC,fO (dV ((Txt.aC s).getD 6 Ym)),cO,jg (Txt.eA ((Txt.aC s).getD 8 Ym)),dA,Txt.bE (bD ((Txt.aC s).getD 10 Ym)),fe,fO (dV ((Txt.aC s).getD 12 Ym))];rw[cZ eQ _ I,js h,n9,pU _ T,cZ fZ _ Ul,D,lU _ C,cZ cC _ Ul,z,lV,ma _ s1,cZ cO _ Ul,y,pj,pB _ p,cZ dA _ Ul,l,nc _ g,cZ fe _ Ul,f,lV,ma _ c]
 |weekly acc p0 p1 p2 =>
  cases A with
  |times q0 q1 =>have D:((Txt.aC s).getD 3 Ym)=fU:=p0;have C:eP ((Txt.aC s).getD 4 Ym)=UE:=p1;have g2:Txt.jf ((Txt.aC s).getD 5 Ym)=U acc:=p2;have z:((Txt.aC s).getD 6 Ym)=cC:=k0;have s1:Txt.cU ((Txt.aC s).getD 7 Ym)=UE:=k1;have y:((Txt.aC s).getD 8 Ym)=cO:=k2;have p:Txt.dZ ((Txt.aC s).getD 9 Ym)=UE:=k3;have l:((Txt.aC s).getD 10 Ym)=dA:=k4;have g:dM ((Txt.aC s).getD 11 Ym)=UE:=X;have f:((Txt.aC s).getD 12 Ym)=eV:=q0;have c:eP ((Txt.aC s).getD 13 Ym)=UE:=q1;refine⟨_,[eQ,((Txt.aC s).getD 1 Ym),Txt.bE (bD ((Txt.aC s).getD 2 Ym))]++([fU,Txt.bE (bD ((Txt.aC s).getD 4 Ym)),nK acc]++gL (dV ((Txt.aC s).getD 7 Ym)) (Txt.eA ((Txt.aC s).getD 9 Ym)) (bD ((Txt.aC s).getD 11 Ym))++[eV,Txt.bE (bD ((Txt.aC s).getD 13 Ym))]),a.sc,.series _ _ _ _ _ _ _ _ _ _ _ (cY _).1 (cY _).2 (.mk _ _ _ _ _ _ _ _ _ _ (.weekly _ _ (cY _).1 (cY _).2 (zK g2) (zU acc)) (.times _ _ (vH c) (cY _).2) (gM _).1 (gM _).2 (Txt.mR _).1 (pD _) (cY _).1 (cY _).2),by simp,by simp[gL],jA (n:=14) a rfl ?_⟩;show [aZ eQ ((Txt.aC s).getD 0 Ym),aZ bF ((Txt.aC s).getD 1 Ym),aZ bW ((Txt.aC s).getD 2 Ym),aZ fU ((Txt.aC s).getD 3 Ym),aZ fS ((Txt.aC s).getD 4 Ym),aZ kB ((Txt.aC s).getD 5 Ym),aZ cC ((Txt.aC s).getD 6 Ym),aZ fY ((Txt.aC s).getD 7 Ym),aZ cO ((Txt.aC s).getD 8 Ym),aZ iq ((Txt.aC s).getD 9 Ym),aZ dA ((Txt.aC s).getD 10 Ym),aZ cD ((Txt.aC s).getD 11 Ym),aZ eV ((Txt.aC s).getD 12 Ym),aZ fS ((Txt.aC s).getD 13 Ym)]=[eQ,((Txt.aC s).getD 1 Ym),Txt.bE (bD ((Txt.aC s).getD 2 Ym)),fU,Txt.bE (bD ((Txt.aC s).getD 4 Ym)),nK acc,cC,fO (dV ((Txt.aC s).getD 7 Ym)),cO,jg (Txt.eA ((Txt.aC s).getD 9 Ym)),dA,Txt.bE (bD ((Txt.aC s).getD 11 Ym)),eV,Txt.bE (bD ((Txt.aC s).getD 13 Ym))];rw[cZ eQ _ I,js h,n9,pU _ T,cZ fU _ Ul,D,lU _ C,zn,zT g2,cZ cC _ Ul,z,lV,ma _ s1,cZ cO _ Ul,y,pj,pB _ p,cZ dA _ Ul,l,nc _ g,cZ eV _ Ul,f,lU _ c]
  |til q0 q1 =>have D:((Txt.aC s).getD 3 Ym)=fU:=p0;have C:eP ((Txt.aC s).getD 4 Ym)=UE:=p1;have g2:Txt.jf ((Txt.aC s).getD 5 Ym)=U acc:=p2;have z:((Txt.aC s).getD 6 Ym)=cC:=k0;have s1:Txt.cU ((Txt.aC s).getD 7 Ym)=UE:=k1;have y:((Txt.aC s).getD 8 Ym)=cO:=k2;have p:Txt.dZ ((Txt.aC s).getD 9 Ym)=UE:=k3;have l:((Txt.aC s).getD 10 Ym)=dA:=k4;have g:dM ((Txt.aC s).getD 11 Ym)=UE:=X;have f:((Txt.aC s).getD 12 Ym)=fe:=q0;have c:Txt.cU ((Txt.aC s).getD 13 Ym)=UE:=q1;refine⟨_,[eQ,((Txt.aC s).getD 1 Ym),Txt.bE (bD ((Txt.aC s).getD 2 Ym))]++([fU,Txt.bE (bD ((Txt.aC s).getD 4 Ym)),nK acc]++gL (dV ((Txt.aC s).getD 7 Ym)) (Txt.eA ((Txt.aC s).getD 9 Ym)) (bD ((Txt.aC s).getD 11 Ym))++[fe,fO (dV ((Txt.aC s).getD 13 Ym))]),a.sc,.series _ _ _ _ _ _ _ _ _ _ _ (cY _).1 (cY _).2 (.mk _ _ _ _ _ _ _ _ _ _ (.weekly _ _ (cY _).1 (cY _).2 (zK g2) (zU acc)) (.til _ (gM _).1 (gM _).2) (gM _).1 (gM _).2 (Txt.mR _).1 (pD _) (cY _).1 (cY _).2),by simp,by simp[gL],jA (n:=14) a rfl ?_⟩;show [aZ eQ ((Txt.aC s).getD 0 Ym),aZ bF ((Txt.aC s).getD 1 Ym),aZ bW ((Txt.aC s).getD 2 Ym),aZ fU ((Txt.aC s).getD 3 Ym),aZ fS ((Txt.aC s).getD 4 Ym),aZ kB ((Txt.aC s).getD 5 Ym),aZ cC ((Txt.aC s).getD 6 Ym),aZ fY ((Txt.aC s).getD 7 Ym),aZ cO ((Txt.aC s).getD 8 Ym),aZ iq ((Txt.aC s).getD 9 Ym),aZ dA ((Txt.aC s).getD 10 Ym),aZ cD ((Txt.aC s).getD 11 Ym),aZ fe ((Txt.aC s).getD 12 Ym),aZ fY ((Txt.aC s).getD 13 Ym)]=[eQ,((Txt.aC s).getD 1 Ym),Txt.bE (bD ((Txt.aC s).getD 2 Ym)),fU,Txt.bE (bD ((Txt.aC s).getD 4 Ym)),nK acc,cC,fO (dV ((Txt.aC s).getD 7 Ym)),cO,jg (Txt.eA ((Txt.aC s).getD 9 Ym)),dA,Txt.bE (bD ((Txt.aC s).getD 11 Ym)),fe,fO (dV ((Txt.aC s).getD 13 Ym))];rw[cZ eQ _ I,js h,n9,pU _ T,cZ fU _ Ul,D,lU _ C,zn,zT g2,cZ cC _ Ul,z,lV,ma _ s1,cZ cO _ Ul,y,pj,pB _ p,cZ dA _ Ul,l,nc _ g,cZ fe _ Ul,f,lV,ma _ c]
 |monthly p0 p1 =>
  cases A with
  |times q0 q1 =>have D:((Txt.aC s).getD 3 Ym)=gg:=p0;have C:eP ((Txt.aC s).getD 4 Ym)=UE:=p1;have z:((Txt.aC s).getD 5 Ym)=cC:=k0;have s1:Txt.cU ((Txt.aC s).getD 6 Ym)=UE:=k1;have y:((Txt.aC s).getD 7 Ym)=cO:=k2;have p:Txt.dZ ((Txt.aC s).getD 8 Ym)=UE:=k3;have l:((Txt.aC s).getD 9 Ym)=dA:=k4;have g:dM ((Txt.aC s).getD 10 Ym)=UE:=X;have f:((Txt.aC s).getD 11 Ym)=eV:=q0;have c:eP ((Txt.aC s).getD 12 Ym)=UE:=q1;refine⟨_,[eQ,((Txt.aC s).getD 1 Ym),Txt.bE (bD ((Txt.aC s).getD 2 Ym))]++([gg,Txt.bE (bD ((Txt.aC s).getD 4 Ym))]++gL (dV ((Txt.aC s).getD 6 Ym)) (Txt.eA ((Txt.aC s).getD 8 Ym)) (bD ((Txt.aC s).getD 10 Ym))++[eV,Txt.bE (bD ((Txt.aC s).getD 12 Ym))]),a.sc,.series _ _ _ _ _ _ _ _ _ _ _ (cY _).1 (cY _).2 (.mk _ _ _ _ _ _ _ _ _ _ (.monthly _ _ (cY _).1 (cY _).2) (.times _ _ (vH c) (cY _).2) (gM _).1 (gM _).2 (Txt.mR _).1 (pD _) (cY _).1 (cY _).2),by simp,by simp[gL],jA (n:=13) a rfl ?_⟩;show [aZ eQ ((Txt.aC s).getD 0 Ym),aZ bF ((Txt.aC s).getD 1 Ym),aZ bW ((Txt.aC s).getD 2 Ym),aZ gg ((Txt.aC s).getD 3 Ym),aZ fS ((Txt.aC s).getD 4 Ym),aZ cC ((Txt.aC s).getD 5 Ym),aZ fY ((Txt.aC s).getD 6 Ym),aZ cO ((Txt.aC s).getD 7 Ym),aZ iq ((Txt.aC s).getD 8 Ym),aZ dA ((Txt.aC s).getD 9 Ym),aZ cD ((Txt.aC s).getD 10 Ym),aZ eV ((Txt.aC s).getD 11 Ym),aZ fS ((Txt.aC s).getD 12 Ym)]=[eQ,((Txt.aC s).getD 1 Ym),Txt.bE (bD ((Txt.aC s).getD 2 Ym)),gg,Txt.bE (bD ((Txt.aC s).getD 4 Ym)),cC,fO (dV ((Txt.aC s).getD 6 Ym)),cO,jg (Txt.eA ((Txt.aC s).getD 8 Ym)),dA,Txt.bE (bD ((Txt.aC s).getD 10 Ym)),eV,Txt.bE (bD ((Txt.aC s).getD 12 Ym))];rw[cZ eQ _ I,js h,n9,pU _ T,cZ gg _ Ul,D,lU _ C,cZ cC _ Ul,z,lV,ma _ s1,cZ cO _ Ul,y,pj,pB _ p,cZ dA _ Ul,l,nc _ g,cZ eV _ Ul,f,lU _ c]
  |til q0 q1 =>have D:((Txt.aC s).getD 3 Ym)=gg:=p0;have C:eP ((Txt.aC s).getD 4 Ym)=UE:=p1;have z:((Txt.aC s).getD 5 Ym)=cC:=k0;have s1:Txt.cU ((Txt.aC s).getD 6 Ym)=UE:=k1;have y:((Txt.aC s).getD 7 Ym)=cO:=k2;have p:Txt.dZ ((Txt.aC s).getD 8 Ym)=UE:=k3;have l:((Txt.aC s).getD 9 Ym)=dA:=k4;have g:dM ((Txt.aC s).getD 10 Ym)=UE:=X;have f:((Txt.aC s).getD 11 Ym)=fe:=q0;have c:Txt.cU ((Txt.aC s).getD 12 Ym)=UE:=q1;refine⟨_,[eQ,((Txt.aC s).getD 1 Ym),Txt.bE (bD ((Txt.aC s).getD 2 Ym))]++([gg,Txt.bE (bD ((Txt.aC s).getD 4 Ym))]++gL (dV ((Txt.aC s).getD 6 Ym)) (Txt.eA ((Txt.aC s).getD 8 Ym)) (bD ((Txt.aC s).getD 10 Ym))++[fe,fO (dV ((Txt.aC s).getD 12 Ym))]),a.sc,.series _ _ _ _ _ _ _ _ _ _ _ (cY _).1 (cY _).2 (.mk _ _ _ _ _ _ _ _ _ _ (.monthly _ _ (cY _).1 (cY _).2) (.til _ (gM _).1 (gM _).2) (gM _).1 (gM _).2 (Txt.mR _).1 (pD _) (cY _).1 (cY _).2),by simp,by simp[gL],jA (n:=13) a rfl ?_⟩;show [aZ eQ ((Txt.aC s).getD 0 Ym),aZ bF ((Txt.aC s).getD 1 Ym),aZ bW ((Txt.aC s).getD 2 Ym),aZ gg ((Txt.aC s).getD 3 Ym),aZ fS ((Txt.aC s).getD 4 Ym),aZ cC ((Txt.aC s).getD 5 Ym),aZ fY ((Txt.aC s).getD 6 Ym),aZ cO ((Txt.aC s).getD 7 Ym),aZ iq ((Txt.aC s).getD 8 Ym),aZ dA ((Txt.aC s).getD 9 Ym),aZ cD ((Txt.aC s).getD 10 Ym),aZ fe ((Txt.aC s).getD 11 Ym),aZ fY ((Txt.aC s).getD 12 Ym)]=[eQ,((Txt.aC s).getD 1 Ym),Txt.bE (bD ((Txt.aC s).getD 2 Ym)),gg,Txt.bE (bD ((Txt.aC s).getD 4 Ym)),cC,fO (dV ((Txt.aC s).getD 6 Ym)),cO,jg (Txt.eA ((Txt.aC s).getD 8 Ym)),dA,Txt.bE (bD ((Txt.aC s).getD 10 Ym)),fe,fO (dV ((Txt.aC s).getD 12 Ym))];rw[cZ eQ _ I,js h,n9,pU _ T,cZ gg _ Ul,D,lU _ C,cZ cC _ Ul,z,lV,ma _ s1,cZ cO _ Ul,y,pj,pB _ p,cZ dA _ Ul,l,nc _ g,cZ fe _ Ul,f,lV,ma _ c]
theorem Hb{s:Us}(h:bP (Txt.aC s) 0 UD fA=UE){ev:N}(c:lO (Txt.aC s) (1,UD) pc ev acc fr mn mi ti un st):lh s st:=by
 have f:fl fA=UE:=Ul;have g:fV.filter (gk fA)=kG og:=Ul;have a:aP (Txt.aC s) (og.map bG) (0,UD)=(1,UD):=by unfold og;rw[<- fp h f];rfl
 rw[<- a] at c;let⟨q,hS,hg⟩:=vJ c;exact lZ h g hS
theorem Pn{s:Us}(h:bP (Txt.aC s) 0 UD fA=UE){ev:N}(hr:lO (Txt.aC s) (1,UD) pc ev acc fr mn mi ti un st):nk s (UU 173 (UT #[pc,ev,aI acc 0,aI acc 1,aI acc 2,aI acc 3,aI acc 4,aI acc 5,aI acc 6,fr,mn,mi,ti,un])) st:=by
 intro h2 hm;have S:fl fA=UE:=Ul;have hf:fV.filter (gk fA)=kG og:=Ul;have aa:aP (Txt.aC s) (og.map bG) (0,UD)=(1,UD):=by unfold og;rw[<- fp h S];rfl
 rw[<- aa] at hr;obtain⟨q,hS,hg⟩:=vJ hr;obtain⟨K,E,rfl,hq,hG⟩:=hg h2;have c:=lj h hf hS hq h2 hm;clear hr hg hS hq aa;obtain⟨I,⟨k0,k1,k2,k3,X,T,rfl,rfl,rfl⟩,A⟩:=hG
 cases I with
 |daily p0 p1 =>
  cases A with
  |times q0 q1 =>have D:((Txt.aC s).getD 1 Ym)=fZ:=p0;have C:eP ((Txt.aC s).getD 2 Ym)=UE:=p1;have z:((Txt.aC s).getD 3 Ym)=cC:=k0;have s1:Txt.cU ((Txt.aC s).getD 4 Ym)=UE:=k1;have y:((Txt.aC s).getD 5 Ym)=cO:=k2;have p:Txt.dZ ((Txt.aC s).getD 6 Ym)=UE:=k3;have l:((Txt.aC s).getD 7 Ym)=dA:=X;have g:dM ((Txt.aC s).getD 8 Ym)=UE:=T;have f:((Txt.aC s).getD 9 Ym)=eV:=q0;have a:eP ((Txt.aC s).getD 10 Ym)=UE:=q1;refine⟨_,[fA]++([fZ,Txt.bE (bD ((Txt.aC s).getD 2 Ym))]++gL (dV ((Txt.aC s).getD 4 Ym)) (Txt.eA ((Txt.aC s).getD 6 Ym)) (bD ((Txt.aC s).getD 8 Ym))++[eV,Txt.bE (bD ((Txt.aC s).getD 10 Ym))]),c.sc,.expand _ _ _ _ _ _ _ _ _ (.mk _ _ _ _ _ _ _ _ _ _ (.daily _ _ (cY _).1 (cY _).2) (.times _ _ (vH a) (cY _).2) (gM _).1 (gM _).2 (Txt.mR _).1 (pD _) (cY _).1 (cY _).2),by simp,by simp[gL],jA (n:=11) c rfl ?_⟩;show [aZ fA ((Txt.aC s).getD 0 Ym),aZ fZ ((Txt.aC s).getD 1 Ym),aZ fS ((Txt.aC s).getD 2 Ym),aZ cC ((Txt.aC s).getD 3 Ym),aZ fY ((Txt.aC s).getD 4 Ym),aZ cO ((Txt.aC s).getD 5 Ym),aZ iq ((Txt.aC s).getD 6 Ym),aZ dA ((Txt.aC s).getD 7 Ym),aZ cD ((Txt.aC s).getD 8 Ym),aZ eV ((Txt.aC s).getD 9 Ym),aZ fS ((Txt.aC s).getD 10 Ym)]=[fA,fZ,Txt.bE (bD ((Txt.aC s).getD 2 Ym)),cC,fO (dV ((Txt.aC s).getD 4 Ym)),cO,jg (Txt.eA ((Txt.aC s).getD 6 Ym)),dA,Txt.bE (bD ((Txt.aC s).getD 8 Ym)),eV,Txt.bE (bD ((Txt.aC s).getD 10 Ym))];rw[cZ fA _ S,js h,cZ fZ _ Ul,D,lU _ C,cZ cC _ Ul,z,lV,ma _ s1,cZ cO _ Ul,y,pj,pB _ p,cZ dA _ Ul,l,nc _ g,cZ eV _ Ul,f,lU _ a]
  |til q0 q1 =>have D:((Txt.aC s).getD 1 Ym)=fZ:=p0;have C:eP ((Txt.aC s).getD 2 Ym)=UE:=p1;have z:((Txt.aC s).getD 3 Ym)=cC:=k0;have s1:Txt.cU ((Txt.aC s).getD 4 Ym)=UE:=k1;have y:((Txt.aC s).getD 5 Ym)=cO:=k2;have p:Txt.dZ ((Txt.aC s).getD 6 Ym)=UE:=k3;have l:((Txt.aC s).getD 7 Ym)=dA:=X;have g:dM ((Txt.aC s).getD 8 Ym)=UE:=T;have f:((Txt.aC s).getD 9 Ym)=fe:=q0;have a:Txt.cU ((Txt.aC s).getD 10 Ym)=UE:=q1;refine⟨_,[fA]++([fZ,Txt.bE (bD ((Txt.aC s).getD 2 Ym))]++gL (dV ((Txt.aC s).getD 4 Ym)) (Txt.eA ((Txt.aC s).getD 6 Ym)) (bD ((Txt.aC s).getD 8 Ym))++[fe,fO (dV ((Txt.aC s).getD 10 Ym))]),c.sc,.expand _ _ _ _ _ _ _ _ _ (.mk _ _ _ _ _ _ _ _ _ _ (.daily _ _ (cY _).1 (cY _).2) (.til _ (gM _).1 (gM _).2) (gM _).1 (gM _).2 (Txt.mR _).1 (pD _) (cY _).1 (cY _).2),by simp,by simp[gL],jA (n:=11) c rfl ?_⟩;show [aZ fA ((Txt.aC s).getD 0 Ym),aZ fZ ((Txt.aC s).getD 1 Ym),aZ fS ((Txt.aC s).getD 2 Ym),aZ cC ((Txt.aC s).getD 3 Ym),aZ fY ((Txt.aC s).getD 4 Ym),aZ cO ((Txt.aC s).getD 5 Ym),aZ iq ((Txt.aC s).getD 6 Ym),aZ dA ((Txt.aC s).getD 7 Ym),aZ cD ((Txt.aC s).getD 8 Ym),aZ fe ((Txt.aC s).getD 9 Ym),aZ fY ((Txt.aC s).getD 10 Ym)]=[fA,fZ,Txt.bE (bD ((Txt.aC s).getD 2 Ym)),cC,fO (dV ((Txt.aC s).getD 4 Ym)),cO,jg (Txt.eA ((Txt.aC s).getD 6 Ym)),dA,Txt.bE (bD ((Txt.aC s).getD 8 Ym)),fe,fO (dV ((Txt.aC s).getD 10 Ym))];rw[cZ fA _ S,js h,cZ fZ _ Ul,D,lU _ C,cZ cC _ Ul,z,lV,ma _ s1,cZ cO _ Ul,y,pj,pB _ p,cZ dA _ Ul,l,nc _ g,cZ fe _ Ul,f,lV,ma _ a]
 |weekly acc p0 p1 p2 =>
  cases A with
  |times q0 q1 =>have D:((Txt.aC s).getD 1 Ym)=fU:=p0;have C:eP ((Txt.aC s).getD 2 Ym)=UE:=p1;have g2:Txt.jf ((Txt.aC s).getD 3 Ym)=U acc:=p2;have z:((Txt.aC s).getD 4 Ym)=cC:=k0;have s1:Txt.cU ((Txt.aC s).getD 5 Ym)=UE:=k1;have y:((Txt.aC s).getD 6 Ym)=cO:=k2;have p:Txt.dZ ((Txt.aC s).getD 7 Ym)=UE:=k3;have l:((Txt.aC s).getD 8 Ym)=dA:=X;have g:dM ((Txt.aC s).getD 9 Ym)=UE:=T;have f:((Txt.aC s).getD 10 Ym)=eV:=q0;have a:eP ((Txt.aC s).getD 11 Ym)=UE:=q1;refine⟨_,[fA]++([fU,Txt.bE (bD ((Txt.aC s).getD 2 Ym)),nK acc]++gL (dV ((Txt.aC s).getD 5 Ym)) (Txt.eA ((Txt.aC s).getD 7 Ym)) (bD ((Txt.aC s).getD 9 Ym))++[eV,Txt.bE (bD ((Txt.aC s).getD 11 Ym))]),c.sc,.expand _ _ _ _ _ _ _ _ _ (.mk _ _ _ _ _ _ _ _ _ _ (.weekly _ _ (cY _).1 (cY _).2 (zK g2) (zU acc)) (.times _ _ (vH a) (cY _).2) (gM _).1 (gM _).2 (Txt.mR _).1 (pD _) (cY _).1 (cY _).2),by simp,by simp[gL],jA (n:=12) c rfl ?_⟩;show [aZ fA ((Txt.aC s).getD 0 Ym),aZ fU ((Txt.aC s).getD 1 Ym),aZ fS ((Txt.aC s).getD 2 Ym),aZ kB ((Txt.aC s).getD 3 Ym),aZ cC ((Txt.aC s).getD 4 Ym),aZ fY ((Txt.aC s).getD 5 Ym),aZ cO ((Txt.aC s).getD 6 Ym),aZ iq ((Txt.aC s).getD 7 Ym),aZ dA ((Txt.aC s).getD 8 Ym),aZ cD ((Txt.aC s).getD 9 Ym),aZ eV ((Txt.aC s).getD 10 Ym),aZ fS ((Txt.aC s).getD 11 Ym)]=[fA,fU,Txt.bE (bD ((Txt.aC s).getD 2 Ym)),nK acc,cC,fO (dV ((Txt.aC s).getD 5 Ym)),cO,jg (Txt.eA ((Txt.aC s).getD 7 Ym)),dA,Txt.bE (bD ((Txt.aC s).getD 9 Ym)),eV,Txt.bE (bD ((Txt.aC s).getD 11 Ym))];rw[cZ fA _ S,js h,cZ fU _ Ul,D,lU _ C,zn,zT g2,cZ cC _ Ul,z,lV,ma _ s1,cZ cO _ Ul,y,pj,pB _ p,cZ dA _ Ul,l,nc _ g,cZ eV _ Ul,f,lU _ a]
  |til q0 q1 =>have D:((Txt.aC s).getD 1 Ym)=fU:=p0;have C:eP ((Txt.aC s).getD 2 Ym)=UE:=p1;have g2:Txt.jf ((Txt.aC s).getD 3 Ym)=U acc:=p2;have z:((Txt.aC s).getD 4 Ym)=cC:=k0;have s1:Txt.cU ((Txt.aC s).getD 5 Ym)=UE:=k1;have y:((Txt.aC s).getD 6 Ym)=cO:=k2;have p:Txt.dZ ((Txt.aC s).getD 7 Ym)=UE:=k3;have l:((Txt.aC s).getD 8 Ym)=dA:=X;have g:dM ((Txt.aC s).getD 9 Ym)=UE:=T;have f:((Txt.aC s).getD 10 Ym)=fe:=q0;have a:Txt.cU ((Txt.aC s).getD 11 Ym)=UE:=q1;refine⟨_,[fA]++([fU,Txt.bE (bD ((Txt.aC s).getD 2 Ym)),nK acc]++gL (dV ((Txt.aC s).getD 5 Ym)) (Txt.eA ((Txt.aC s).getD 7 Ym)) (bD ((Txt.aC s).getD 9 Ym))++[fe,fO (dV ((Txt.aC s).getD 11 Ym))]),c.sc,.expand _ _ _ _ _ _ _ _ _ (.mk _ _ _ _ _ _ _ _ _ _ (.weekly _ _ (cY _).1 (cY _).2 (zK g2) (zU acc)) (.til _ (gM _).1 (gM _).2) (gM _).1 (gM _).2 (Txt.mR _).1 (pD _) (cY _).1 (cY _).2),by simp,by simp[gL],jA (n:=12) c rfl ?_⟩;show [aZ fA ((Txt.aC s).getD 0 Ym),aZ fU ((Txt.aC s).getD 1 Ym),aZ fS ((Txt.aC s).getD 2 Ym),aZ kB ((Txt.aC s).getD 3 Ym),aZ cC ((Txt.aC s).getD 4 Ym),aZ fY ((Txt.aC s).getD 5 Ym),aZ cO ((Txt.aC s).getD 6 Ym),aZ iq ((Txt.aC s).getD 7 Ym),aZ dA ((Txt.aC s).getD 8 Ym),aZ cD ((Txt.aC s).getD 9 Ym),aZ fe ((Txt.aC s).getD 10 Ym),aZ fY ((Txt.aC s).getD 11 Ym)]=[fA,fU,Txt.bE (bD ((Txt.aC s).getD 2 Ym)),nK acc,cC,fO (dV ((Txt.aC s).getD 5 Ym)),cO,jg (Txt.eA ((Txt.aC s).getD 7 Ym)),dA,Txt.bE (bD ((Txt.aC s).getD 9 Ym)),fe,fO (dV ((Txt.aC s).getD 11 Ym))];rw[cZ fA _ S,js h,cZ fU _ Ul,D,lU _ C,zn,zT g2,cZ cC _ Ul,z,lV,ma _ s1,cZ cO _ Ul,y,pj,pB _ p,cZ dA _ Ul,l,nc _ g,cZ fe _ Ul,f,lV,ma _ a]
 |monthly p0 p1 =>
  cases A with
  |times q0 q1 =>have D:((Txt.aC s).getD 1 Ym)=gg:=p0;have C:eP ((Txt.aC s).getD 2 Ym)=UE:=p1;have z:((Txt.aC s).getD 3 Ym)=cC:=k0;have s1:Txt.cU ((Txt.aC s).getD 4 Ym)=UE:=k1;have y:((Txt.aC s).getD 5 Ym)=cO:=k2;have p:Txt.dZ ((Txt.aC s).getD 6 Ym)=UE:=k3;have l:((Txt.aC s).getD 7 Ym)=dA:=X;have g:dM ((Txt.aC s).getD 8 Ym)=UE:=T;have f:((Txt.aC s).getD 9 Ym)=eV:=q0;have a:eP ((Txt.aC s).getD 10 Ym)=UE:=q1;refine⟨_,[fA]++([gg,Txt.bE (bD ((Txt.aC s).getD 2 Ym))]++gL (dV ((Txt.aC s).getD 4 Ym)) (Txt.eA ((Txt.aC s).getD 6 Ym)) (bD ((Txt.aC s).getD 8 Ym))++[eV,Txt.bE (bD ((Txt.aC s).getD 10 Ym))]),c.sc,.expand _ _ _ _ _ _ _ _ _ (.mk _ _ _ _ _ _ _ _ _ _ (.monthly _ _ (cY _).1 (cY _).2) (.times _ _ (vH a) (cY _).2) (gM _).1 (gM _).2 (Txt.mR _).1 (pD _) (cY _).1 (cY _).2),by simp,by simp[gL],jA (n:=11) c rfl ?_⟩;show [aZ fA ((Txt.aC s).getD 0 Ym),aZ gg ((Txt.aC s).getD 1 Ym),aZ fS ((Txt.aC s).getD 2 Ym),aZ cC ((Txt.aC s).getD 3 Ym),aZ fY ((Txt.aC s).getD 4 Ym),aZ cO ((Txt.aC s).getD 5 Ym),aZ iq ((Txt.aC s).getD 6 Ym),aZ dA ((Txt.aC s).getD 7 Ym),aZ cD ((Txt.aC s).getD 8 Ym),aZ eV ((Txt.aC s).getD 9 Ym),aZ fS ((Txt.aC s).getD 10 Ym)]=[fA,gg,Txt.bE (bD ((Txt.aC s).getD 2 Ym)),cC,fO (dV ((Txt.aC s).getD 4 Ym)),cO,jg (Txt.eA ((Txt.aC s).getD 6 Ym)),dA,Txt.bE (bD ((Txt.aC s).getD 8 Ym)),eV,Txt.bE (bD ((Txt.aC s).getD 10 Ym))];rw[cZ fA _ S,js h,cZ gg _ Ul,D,lU _ C,cZ cC _ Ul,z,lV,ma _ s1,cZ cO _ Ul,y,pj,pB _ p,cZ dA _ Ul,l,nc _ g,cZ eV _ Ul,f,lU _ a]
  |til q0 q1 =>have D:((Txt.aC s).getD 1 Ym)=gg:=p0;have C:eP ((Txt.aC s).getD 2 Ym)=UE:=p1;have z:((Txt.aC s).getD 3 Ym)=cC:=k0;have s1:Txt.cU ((Txt.aC s).getD 4 Ym)=UE:=k1;have y:((Txt.aC s).getD 5 Ym)=cO:=k2;have p:Txt.dZ ((Txt.aC s).getD 6 Ym)=UE:=k3;have l:((Txt.aC s).getD 7 Ym)=dA:=X;have g:dM ((Txt.aC s).getD 8 Ym)=UE:=T;have f:((Txt.aC s).getD 9 Ym)=fe:=q0;have a:Txt.cU ((Txt.aC s).getD 10 Ym)=UE:=q1;refine⟨_,[fA]++([gg,Txt.bE (bD ((Txt.aC s).getD 2 Ym))]++gL (dV ((Txt.aC s).getD 4 Ym)) (Txt.eA ((Txt.aC s).getD 6 Ym)) (bD ((Txt.aC s).getD 8 Ym))++[fe,fO (dV ((Txt.aC s).getD 10 Ym))]),c.sc,.expand _ _ _ _ _ _ _ _ _ (.mk _ _ _ _ _ _ _ _ _ _ (.monthly _ _ (cY _).1 (cY _).2) (.til _ (gM _).1 (gM _).2) (gM _).1 (gM _).2 (Txt.mR _).1 (pD _) (cY _).1 (cY _).2),by simp,by simp[gL],jA (n:=11) c rfl ?_⟩;show [aZ fA ((Txt.aC s).getD 0 Ym),aZ gg ((Txt.aC s).getD 1 Ym),aZ fS ((Txt.aC s).getD 2 Ym),aZ cC ((Txt.aC s).getD 3 Ym),aZ fY ((Txt.aC s).getD 4 Ym),aZ cO ((Txt.aC s).getD 5 Ym),aZ iq ((Txt.aC s).getD 6 Ym),aZ dA ((Txt.aC s).getD 7 Ym),aZ cD ((Txt.aC s).getD 8 Ym),aZ fe ((Txt.aC s).getD 9 Ym),aZ fY ((Txt.aC s).getD 10 Ym)]=[fA,gg,Txt.bE (bD ((Txt.aC s).getD 2 Ym)),cC,fO (dV ((Txt.aC s).getD 4 Ym)),cO,jg (Txt.eA ((Txt.aC s).getD 6 Ym)),dA,Txt.bE (bD ((Txt.aC s).getD 8 Ym)),fe,fO (dV ((Txt.aC s).getD 10 Ym))];rw[cZ fA _ S,js h,cZ gg _ Ul,D,lU _ C,cZ cC _ Ul,z,lV,ma _ s1,cZ cO _ Ul,y,pj,pB _ p,cZ dA _ Ul,l,nc _ g,cZ fe _ Ul,f,lV,ma _ a]
def zz:J Us:=[ix,iO,iE,iF,eQ,iU,iR,dC,iT,iu,ir,fA,ja,iN]
theorem N5:∀ p∈fV,∃ k∈zz,p.headD Ym=k:=Ul
theorem Po:∀ k∈zz,fl k=UE:=Ul
theorem nothing{s:Us}(h:∀ k∈zz,bP (Txt.aC s) 0 UD k=UD):kH s=(UB,0):=by
 unfold kH;rw[GZ,C5 _ (fun _=>UD) fV 0]
 .have:fV.filter (fun _=>UD)=[]:=Ui
  rw[this];rfl
 .intro p g _;have c:=G4 p g;refine⟨?_,c⟩;let⟨k,hh,hke⟩:=N5 p g;rw[<- hke] at hh
  match p,c,hh with
  |x :: p',_,hh =>
   have f:=h x hh;have y:=jI x (Po x hh);match hw:Txt.aC s with
   |[]=>rfl
   |a :: t =>
    rw[hw] at f;have e:bG x a=UD:=by rw[y];have l:fQ (a :: t) 0 UD (cH x)=UD:=f;unfold fQ dN at l;simpa using l
    rw[pre,e];rfl
theorem G7{s:Us}(c:jq (Txt.aC s) v st):lh s st:=by
 cases c with
 |bH h=>exact O6 h
 |book h=>exact Oh h
 |hold h=>exact Oq h
 |wait h=>exact OV h
 |series h _ _ _ _ _ _ _ _ _ hr=>exact Hd h hr
 |bL h=>exact P4 h
 |cancel h=>exact Ps h
 |list0 h hm=>exact O8 h hm
 |list1 h hm=>exact Pa h hm
 |waiting h=>exact QG h
 |ef h=>exact Ou h
 |find h=>exact On h
 |expand h _ _ _ _ _ _ _ _ _ hr=>exact Hb h hr
 |tick h=>exact B7 h
 |clock h=>exact OR h
 |none h0 h1 h2 h3 h4 h5 h6 h7 h8 h9 h10 h11 h12 h13 =>intro _;refine nothing ?_;intro k a;simp only[zz,Va,ZH,or_false] at a;rcases a with rfl|rfl|rfl|rfl|rfl|rfl|rfl|rfl|rfl|rfl|rfl|rfl|rfl|rfl <;> assumption
theorem Ok{s:Us}(a:jq (Txt.aC s) v st):nk s v st:=by
 cases a with
 |bH h=>exact O7 h
 |book h=>exact Oi h
 |hold h=>exact Ot h
 |wait h=>exact OX h
 |series h _ _ _ _ _ _ _ _ _ hr=>exact Pu h hr
 |bL h=>exact Qg h
 |cancel h=>exact Pt h
 |list0 h hm=>exact O9 h hm
 |list1 h hm=>exact Pb h hm
 |waiting h=>exact QH h
 |ef h=>exact Ov h
 |find h=>exact Oo h
 |expand h _ _ _ _ _ _ _ _ _ hr=>exact Pn h hr
 |tick h=>exact OJ h
 |clock h=>exact OS h
 |none=>intro c;exact UA c Uj
structure xw(w:UF)(b:M)(x:aA.aQ × M × M):Prop where
 c0:w.cell? (b,0)=U ↑x.1.id
 c1:w.cell? (b,1)=U ↑x.1.kind
 c2:w.cell? (b,2)=U ↑x.1.bH
 c3:w.cell? (b,3)=U ↑x.1.aN
 c4:w.cell? (b,4)=U (UO x.2.1 x.1.aR.length x.2.2)
 c5:w.cell? (b,5)=U ↑x.1.bY
theorem xw.off{x:aA.aQ × M × M}(h:xw w b x)(k:aH G w w')(a:b ∉ G):xw w' b x :=⟨k.cell a h.c0,k.cell a h.c1,k.cell a h.c2,k.cell a h.c3,k.cell a h.c4,k.cell a h.c5⟩
theorem Hj(d:M)(ts:J (Us × Ux))(xs:J (aA.aQ × M × M))(given now:Ux)(F:J M)(x:aA.aQ × M × M)(w:UF)(h:RD w d ts xs given now F)(hx:iW w x.2.1 x.1.aR)(ag:x.2.1 ∉ F)(A:x.2.1<w.heap.size)(hF:∀ k∈F,k<w.heap.size)(hl:xs.length<=1000)(bf:0<=given)(bc:given<=1000):UI prog 119 #[.pointer (U ⟨d,0,UB⟩),.agg (fg x).toArray] w fun e w'=>e=UW (uw 0 (given+1))/\vz w d ts (xs++[({ x.1 with id:=given+1 },x.2)]) (given+1) now F w':=by
 obtain⟨i0,az,ax,aw,av⟩:=info_parts zZ;have hd:d<w.heap.size:=hF d h.dF;have H:=aB h;have HX:=aB (Vf hx (Vf ag A));simp only[fg];clear h hx ag A;go_in;go_upto_region 1 with fail;have oX:aH [] w ((w.alloc (UX #[V UV x.1.id,V UV x.1.kind,UQ x.1.bH,V UV x.1.aN,UO (U ⟨x.2.1,0,UB⟩) x.1.aR.length x.2.2,V UV x.1.bY] 85)).alloc (UX #[V UV 0,V UV 0,V UV 0,UO UB 0 0,UO UB 0 0,UO UB 0 0,UO UB 0 0] 74)):=((aH.refl _ _).alloc _).alloc _;have bX:xw ((w.alloc (UX #[V UV x.1.id,V UV x.1.kind,UQ x.1.bH,V UV x.1.aN,UO (U ⟨x.2.1,0,UB⟩) x.1.aR.length x.2.2,V UV x.1.bY] 85)).alloc (UX #[V UV 0,V UV 0,V UV 0,UO UB 0 0,UO UB 0 0,UO UB 0 0,UO UB 0 0] 74)) w.heap.size x:=⟨by simp,by simp,by simp,by simp,by simp,by simp⟩;have rX:((w.alloc (UX #[V UV x.1.id,V UV x.1.kind,UQ x.1.bH,V UV x.1.aN,UO (U ⟨x.2.1,0,UB⟩) x.1.aR.length x.2.2,V UV x.1.bY] 85)).alloc (UX #[V UV 0,V UV 0,V UV 0,UO UB 0 0,UO UB 0 0,UO UB 0 0,UO UB 0 0] 74)).heap[w.heap.size+1]?=U (UX #[V UV 0,V UV 0,V UV 0,UO UB 0 0,UO UB 0 0,UO UB 0 0,UO UB 0 0] 74):=by have:=dH (w.alloc (UX #[V UV x.1.id,V UV x.1.kind,UQ x.1.bH,V UV x.1.aN,UO (U ⟨x.2.1,0,UB⟩) x.1.aR.length x.2.2,V UV x.1.bY] 85)) (UX #[V UV 0,V UV 0,V UV 0,UO UB 0 0,UO UB 0 0,UO UB 0 0,UO UB 0 0] 74);rwa [Wp] at this
 have fX:((w.alloc (UX #[V UV x.1.id,V UV x.1.kind,UQ x.1.bH,V UV x.1.aN,UO (U ⟨x.2.1,0,UB⟩) x.1.aR.length x.2.2,V UV x.1.bY] 85)).alloc (UX #[V UV 0,V UV 0,V UV 0,UO UB 0 0,UO UB 0 0,UO UB 0 0,UO UB 0 0] 74)).frozen? ⟨w.heap.size,0,UB⟩=UD:=by have a:=World.frozen?_alloc_new w #[V UV x.1.id,V UV x.1.kind,UQ x.1.bH,V UV x.1.aN,UO (U ⟨x.2.1,0,UB⟩) x.1.aR.length x.2.2,V UV x.1.bY] 85 0;exact (((aH.refl [] (w.alloc (UX #[V UV x.1.id,V UV x.1.kind,UQ x.1.bH,V UV x.1.aN,UO (U ⟨x.2.1,0,UB⟩) x.1.aR.length x.2.2,V UV x.1.bY] 85))).alloc (UX #[V UV 0,V UV 0,V UV 0,UO UB 0 0,UO UB 0 0,UO UB 0 0,UO UB 0 0] 74)).frozen Ui Ui).trans a
 have T:=aB (Vf oX (Vf bX (Vf rX fX)));clear oX bX rX fX;generalize (World.alloc _ (UX #[V UV 0,V UV 0,V UV 0,UO UB 0 0,UO UB 0 0,UO UB 0 0,UO UB 0 0] 74))=X at T ⊢;obtain⟨N,hN⟩:∃ N,N=w.heap.size:=⟨_,rfl⟩;rw[<- hN] at T ⊢;have ao:d≠N:=O;have HN:=aB hN;clear hN hd;have rd:=H.out.off T.out.1 Ui Ui;have c2:=rd.c2;have f2:=rd.fz 2;have fN:=T.out.2.2.2;have n0:=T.out.2.1.c0;have aa:=aB rd;clear rd;go_upto_region 3 with fail;have aq:N ∉ F:=fun e=>by have:=hF N e;have:=HN.out;omega
 have oY:aH F X ((X.setCell ⟨d,2,UB⟩ (V UV (given+1))).setCell ⟨N,0,UB⟩ (V UV (given+1)))\/True:=.inr trivial;have kN:aH [N] (X.setCell ⟨d,2,UB⟩ (V UV (given+1))) ((X.setCell ⟨d,2,UB⟩ (V UV (given+1))).setCell ⟨N,0,UB⟩ (V UV (given+1))):=aH.bM ..;have kd:aH [d] X (X.setCell ⟨d,2,UB⟩ (V UV (given+1))):=aH.bM ..;have ae:RD ((X.setCell ⟨d,2,UB⟩ (V UV (given+1))).setCell ⟨N,0,UB⟩ (V UV (given+1))) d ts xs (given+1) now F :=
  (aa.out.pX (given+1)).off kN (fun y z=>by simp;rintro rfl;exact aq z) (fun y z=>by have h1:=(H.out.sp y z).2.2;have h2:=HN.out;simp;omega)
 have wY:aH F w ((X.setCell ⟨d,2,UB⟩ (V UV (given+1))).setCell ⟨N,0,UB⟩ (V UV (given+1))) :=((T.out.1.mono Ui).setCell (.inl H.out.dF) _ _).setCell (.inr (by have:=HN.out;omega)) _ _
 have l:=T.out.2.1.off kd (by simp;exact fun e=>ao e.symm);have au:xw ((X.setCell ⟨d,2,UB⟩ (V UV (given+1))).setCell ⟨N,0,UB⟩ (V UV (given+1))) N ({ x.1 with id:=given+1 },x.2) :=⟨zm _ _ _ l.c0,(zS _ _ _ _ Ui).trans l.c1,(zS _ _ _ _ Ui).trans l.c2,(zS _ _ _ _ Ui).trans l.c3,(zS _ _ _ _ Ui).trans l.c4,(zS _ _ _ _ Ui).trans l.c5⟩
 have S:N+1<X.heap.size:=by
  by_cases hx:N+1<X.heap.size
  .exact hx
  .have:=T.out.2.2.1;rw[V4 O] at this;cases this
 have rY:((X.setCell ⟨d,2,UB⟩ (V UV (given+1))).setCell ⟨N,0,UB⟩ (V UV (given+1))).heap[N+1]?=U (UX #[V UV 0,V UV 0,V UV 0,UO UB 0 0,UO UB 0 0,UO UB 0 0,UO UB 0 0] 74):=by rw[kN.block (N+1) (zL S kd.size) Ui,kd.block (N+1) S (by simp;have:=hF d H.out.dF;have:=HN.out;omega)];exact T.out.2.2.1
 have f:=aB (Vf ae (Vf wY (Vf au rY)));clear oY kN kd ae wY l au rY S c2 f2 fN n0 T aa;generalize (Vg _ ⟨N,0,UB⟩ (V UV (given+1)))=Y at f ⊢;obtain⟨v,cv,ho,ab⟩:=f.out.1.ev;have b0:=f.out.2.2.1.c0;have b1:=f.out.2.2.1.c1;have b2:=f.out.2.2.1.c2;have b3:=f.out.2.2.1.c3;have b4:=f.out.2.2.1.c4;have b5:=f.out.2.2.1.c5;have f1:=f.out.1.fz 1;have a7:d<Y.heap.size:=U1 _ _ cv;have a9:N<Y.heap.size:=U1 _ _ b0;have c:=aB (Vf ho ab);have an:d ∉ v.ownBlock.toList:=by
  intro e;have:v.ownBlock=U d:=by simpa using e
  exact (ab d this).2 rfl
 have ad:=aB an;clear ho ab an;simp only at b0 b1 b2 b3 b4 b5;go_cut [24] from 17 to 26 (fun _ wx=>∃ g cap w5,aH (v.ownBlock.toList) Y w5/\w5.ownsRow 0 85 6 (UO (U ⟨g,0,UB⟩) (xs.length+1) cap) (xs.length+1) (xs.flatMap fg++fg ({ x.1 with id:=given+1 },x.2))/\(v.ownBlock=U g\/Y.heap.size<=g)/\wx=w5.setCell ⟨d,1,UB⟩ (UO (U ⟨g,0,UB⟩) (xs.length+1) cap))
 case first =>
  go_region_law (first
   |(refine step_append_lies _ rfl _ _ 43 rfl 0 85 i0 _ 6 72 underlying43 az ax aw av rfl Uj v xs.length (xs.flatMap fg) rfl (fG c.out.1 (((zr _ _).alloc (zq _) _).drew)) ⟨Y.heap.size,0,UB⟩ 1 1 (fg ({ x.1 with id:=given+1 },x.2)) rfl rfl (Wf (cs:=(fg ({ x.1 with id:=given+1 },x.2)).toArray) (dH Y _)) (by simp[fg,Value.oneCell']) O Up O (zN _) (Y.heap.size+1) Ui ?_;intro g cap w1 ay ac I ba;have kk:aH (v.ownBlock.toList) Y w1:=aH.grown (((aH.refl _ Y).alloc _).drew) ac (fun k C=>.inl (by simp[C]));have z1:=kk.cell ad.out cv;have z2:=(kk.frozen (o:=1) ad.out (U1 _ _ cv)).trans f1))
  all_goals go_wp2;go_meet;exact⟨g,cap,w1,kk,ay,I.imp id (fun e=>by omega),rfl⟩
 case rest =>
  obtain⟨g,cap,w5,kk,aj,I,rfl⟩:=hcut;have af:iW Y x.2.1 x.1.aR:=HX.out.1.off f.out.2.1 HX.out.2.1;have A:x.2.1<Y.heap.size:=zL HX.out.2.2 f.out.2.1.size;obtain⟨rz,oz⟩:=RD.nB (x:=({ x.1 with id:=given+1 },x.2)) f.out.1 cv c.out.1 c.out.2 kk aj I af HX.out.2.1 A;have a8:N ∉ d :: v.ownBlock.toList:=by
   intro e;rcases Va.1 e with e|e
   .exact ao e.symm
   .exact aq (c.out.2 N (by simpa using e)).1
  have S:N+1 ∉ d :: v.ownBlock.toList:=by
   intro e;have h2:=HN.out;rcases Va.1 e with e|e
   .have:=hF d H.out.dF;omega
   .have:=hF (N+1) (c.out.2 (N+1) (by simpa using e)).1;omega
  have n0:=oz.cell a8 b0;have ak:N+1<Y.heap.size:=by
   by_cases hx:N+1<Y.heap.size
   .exact hx
   .have:=f.out.2.2.2;rw[V4 O] at this;cases this
  have ai:=(oz.block (N+1) ak S).trans f.out.2.2.2;have p:=aB (Vf rz (Vf oz ai));clear rz oz ai kk aj af A b0 b1 b2 b3 b4 b5 f1 cv a7 a9 ad;have HG:Hid (g∈g :: F):=XF ..;generalize (Vg w5 ⟨d,1,UB⟩ (UO (U ⟨g,0,UB⟩) (xs.length+1) cap))=Z at p n0 ⊢;have q0:Z.cell? ⟨N+1,0,UB⟩=U (V UV 0):=by simp[Vk,p.out.2.2]
  have q1:Z.cell? ⟨N+1,1,UB⟩=U (V UV 0):=by simp[Vk,p.out.2.2]
  have q2:Z.cell? ⟨N+1,2,UB⟩=U (V UV 0):=by simp[Vk,p.out.2.2]
  have q3:Z.cell? ⟨N+1,3,UB⟩=U (UO UB 0 0):=by simp[Vk,p.out.2.2]
  have q4:Z.cell? ⟨N+1,4,UB⟩=U (UO UB 0 0):=by simp[Vk,p.out.2.2]
  have q5:Z.cell? ⟨N+1,5,UB⟩=U (UO UB 0 0):=by simp[Vk,p.out.2.2]
  have q6:Z.cell? ⟨N+1,6,UB⟩=U (UO UB 0 0):=by simp[Vk,p.out.2.2]
  have fq:∀ o,Z.frozen? ⟨N+1,o,UB⟩=UD:=fun o=>by simp[U2,p.out.2.2]
  have D:aH [N+1] Z (((((((Z.setCell ⟨N+1,0,UB⟩ (V UV 0)).setCell ⟨N+1,1,UB⟩ (V UV 0)).setCell ⟨N+1,2,UB⟩ (V UV (given+1))).setCell ⟨N+1,3,UB⟩ (UO UB 0 0)).setCell ⟨N+1,4,UB⟩ (UO UB 0 0)).setCell ⟨N+1,5,UB⟩ (UO UB 0 0)).setCell ⟨N+1,6,UB⟩ (UO UB 0 0)) :=(((((((aH.refl [N+1] Z).setCell (.inl Ui) _ _).setCell (.inl Ui) _ _).setCell (.inl Ui) _ _).setCell (.inl Ui) _ _).setCell (.inl Ui) _ _).setCell (.inl Ui) _ _).setCell (.inl Ui) _ _
  have al:∀ k∈g :: F,k∈F\/w.heap.size<=k:=by
   intro k C;rcases Va.1 C with rfl|C
   .rcases I with e|e
    .exact .inl (c.out.2 k e).1
    .have:=f.out.2.1.size;exact .inr O
   .exact .inl C
  have ar:Hid (vz w d ts (xs++[({ x.1 with id:=given+1 },x.2)]) (given+1) now F (((((((Z.setCell ⟨N+1,0,UB⟩ (V UV 0)).setCell ⟨N+1,1,UB⟩ (V UV 0)).setCell ⟨N+1,2,UB⟩ (V UV (given+1))).setCell ⟨N+1,3,UB⟩ (UO UB 0 0)).setCell ⟨N+1,4,UB⟩ (UO UB 0 0)).setCell ⟨N+1,5,UB⟩ (UO UB 0 0)).setCell ⟨N+1,6,UB⟩ (UO UB 0 0))):=by
   have bg:=HN.out;refine⟨g :: F,p.out.1.off D (fun y z=>?_) (fun y z=>?_),al,?_⟩
   .simp;rintro rfl;rcases Va.1 z with e|e
    .rcases I with e2|e2
     .have:=hF g (c.out.2 g e2).1;omega
     .omega
    .have:=hF _ e;omega
   .simp;intro e;rcases Vb.1 z with z|z
    .have:=(H.out.sp y z).2.2;omega
    .have:y=({ x.1 with id:=given+1 },x.2):=by simpa using z
     subst this;have:=HX.out.2.2;have e':x.2.1=N+1:=e;omega
   .refine (f.out.2.1.trans' p.out.2.1 (fun k C=>?_)).trans' D (fun k C=>by simp at C;exact .inr O);rcases Va.1 C with rfl|C
    .exact .inl H.out.dF
    .exact .inl (c.out.2 k (by simpa using C)).1
  clear D al HG p c f H HX;go_wp2_with fail;exact bodyPost_ret (v:=uw 0 (given+1)) (by simp[results,results119,go_sem,uw,q0,q1,q2,q3,q4,q5,q6]) rfl ⟨rfl,ar.out⟩
open aA (aQ St eS cI eT eW)
structure EB(e:aQ):Prop where
 u0:1<=e.aN
 u1:e.aN<=9
 sl:e.aR.length<=40
 s0:e.aR≠[]
 so:∀ s∈e.aR,0<=s.2/\s.2<=2000000
theorem EB.small{e:aQ}(h:EB e):aA.Small e:=⟨by have:=h.u0;omega,h.u1,by have:=h.sl;omega⟩
theorem EB.book{e:aQ}(h:EB e):EB (aA.ek e):=⟨h.u0,h.u1,h.sl,h.s0,h.so⟩
structure DD(w:UF)(d:M)(s:St)(xs:J (aQ × M × M))(F:J M):Prop where
 rd:RD w d s.ts xs s.given s.now F
 es:xs.map (·.1)=s.es
 lt:∀ k∈F,k<w
 tl:s.ts.length<=4
 el:s.es.length<=60
 en:∀ e∈s.es,EB e
variable {w w':UF}{d:Uw}{s:St}{xs:Ut (aQ × Uw × Uw)}{F:Ut Uw}
theorem DD.len(h:DD w d s xs F):xs.length=s.es.length:=by rw[<- h.es,We]
theorem DD.off(h:DD w d s xs F)(k:aH G w w')(f:∀ x∈F,x ∉ G)(c:∀ x∈xs,x.2.1 ∉ G):DD w' d s xs F :=⟨h.rd.off k f c,h.es,fun x a=>zL (h.lt x a) k.size,h.tl,h.el,h.en⟩
theorem DD.later(h:DD w d s xs F)(k:UH w w w'):DD w' d s xs F:=h.off (G:=[]) (aH.aD k) Ui Ui
theorem DD.de(h:DD w d s xs F):∃ a cap E,oJ w d a cap E s.es:=by let⟨a,cap,E,k⟩:=h.rd.dx;exact⟨a,cap,E,h.es ▸ k.de⟩
theorem DD.small(h:DD w d s xs F):∀ e∈s.es,aA.Small e:=fun e a=>(h.en e a).small
theorem DD.aN(h:DD w d s xs F)(name:Us):UI prog 116 #[d,name] w fun e w'=>e=UW (V Y (cI name s.ts))/\w'=w:=by
 let⟨a,c,G,ht⟩:=h.rd.dt;exact C8 d a c G s.ts name w ht (by have:=h.tl;omega)
theorem DD.asked(h:DD w d s xs F)(name:Us)(u:N):UI prog 117 #[d,name,u] w fun e w'=>e=UW (V Y (eW s.ts name u))/\w'=w:=by
 let⟨a,c,G,ht⟩:=h.rd.dt;exact RJ d a c G s.ts name u w ht (by have:=h.tl;omega)
theorem DD.fits(h:DD w d s xs F)(name:Us){u:N}{cb:M}{L:J (N × N)}(g:iW w B L)(f:L.length<=100)(p:0<=u)(l:u<=9):UI prog 74 #[d,name,u,UO B L.length cb] w fun e w'=>e=UW (eT s.ts s.es name u L)/\UH w w w':=by
 let⟨a,c,G,ht⟩:=h.rd.dt;let⟨b,q,E,he⟩:=h.de;exact Ia d b q E s.es a c G s.ts name u B cb L w he ht g (by have:=h.el;omega) (by have:=h.tl;omega) h.small f p l
theorem DD.ef(h:DD w d s xs F)(name:Us)(fr til:N):UI prog 123 #[d,name,fr,til] w fun e w'=>e=UW (V Y (aA.nZ name s.es fr til))/\UH w w w':=by
 let⟨b,q,E,he⟩:=h.de;exact Qu d b q E s.es name fr til w he (by have:=h.el;omega) h.small
theorem DD.find(h:DD w d s xs F)(name:Us)(u long fr til:N)(g:0<=u)(f:u<=9)(p:0<=long)(l:long<=2000000)(z:0<=fr)(y:fr<=2000000):UI prog 124 #[d,name,u,long,fr,til] w fun e w'=>e=UW (V Y (aA.kP s.ts s.es name u long fr til))/\UH w w w':=by
 let⟨a,c,G,ht⟩:=h.rd.dt;let⟨b,q,E,he⟩:=h.de;exact Qt d b q E s.es a c G s.ts name u long fr til w he ht (by have:=h.el;omega) (by have:=h.tl;omega) h.small (fun e A=>(h.en e A).so) g f p l z y
theorem DD.place(h:DD w d s xs F)(id:N):UI prog 120 #[d,id] w fun e w'=>e=UW (V Y (aA.lH id s.es 0))/\w'=w:=by
 let⟨b,q,E,he⟩:=h.de;exact Ri d b q E s.es id w he (by have:=h.el;omega)
theorem DD.waiting(h:DD w d s xs F):UI prog 118 #[d] w fun e w'=>e=UW (V Y (aA.fH s.es))/\w'=w:=by
 let⟨b,q,E,he⟩:=h.de;exact Sl d b q E s.es w he (by have:=h.el;omega)
theorem DD.oa(h:DD w d s xs F)(id:N):UI prog 121 #[d,id] w fun e w'=>∃ v,e=UW v/\w'.ownsRow w 85 6 v (iB id xs).length ((iB id xs).flatMap fg)/\UH w w w':=by
 let⟨a,c,E,k⟩:=h.rd.dx;exact Sn d a c E xs id w k (by have:=h.el;have:=h.len;omega)
structure ER(w:UF)(d E cap:M)(a:Option Addr)(xs:J (aQ × M × M)):Prop where
 c:w.cell? (d,1)=U (UO a xs.length cap)
 a:∀ i,i<xs.length->a=U ⟨E,0,UB⟩
 r:∀ (i:M) (h:i<xs.length),RE w E i xs[i].1 xs[i].2.1 xs[i].2.2
 f:∀ o,0<xs.length->w.frozen? ⟨E,o,UB⟩=UD
theorem DD.er(h:DD w d s xs F):∃ a cap E,ER w d E cap a xs:=by
 let⟨v,c,ho,_⟩:=h.rd.ev;obtain⟨a,cap,g,rfl,C,l,y⟩:=xJ ho (fun x p=>(h.rd.sp x p).1);refine⟨a,cap,g,c,fun i I=>l Uo,y,fun o D=>?_⟩;obtain rfl:=l Uo;rcases ho.2 with ⟨f,_⟩|⟨S,T,A,f,_,z,_⟩
 .cases f
 .simp only[XS,ZI,ZJ] at f;obtain⟨⟨rfl,_⟩,_⟩:=f;simp[U2,z]
theorem ER.later{a:Option Addr}(h:ER w d E cap a xs)(k:UH w w w'):ER w' d E cap a xs :=⟨aT k h.c,h.a,fun i l=>(h.r i l).later k,fun o g=>((aH.aD (F:=[]) k).frozen Ui (U1 _ _ (h.r 0 g).c0)).trans (h.f o g)⟩
theorem iD{size:M}{l:J UG}(h:w.ownsRow B e size v n l):∃ a cap,v=UO a n cap:=by
 rcases h.2 with ⟨rfl,rfl⟩|⟨g,cap,_,rfl,_⟩
 .exact⟨UB,0,rfl⟩
 .exact⟨_,cap,rfl⟩
theorem zI{c:Array Oper}{rest:J Oper}{o:Oper}{a:Act}{Q:Exit->Act->UF->Prop}(g:o.guard=UB)(x y:Operand)(D:o.op=.call { callee:=.builtin .append,args:=#[x,y],argTypes:=#[53,53] }){l:J N}(f:W.ownsRow B 3 1 v l.length (l.map (V Y)))(z:N){p:UK}{mk:M × M}(C:a.eval x=v)(A:a.eval y=UO W 1 1)(T:l.length<=1000000)(X:B<=W)
  (h:∀ v' w',w'.ownsRow B 3 1 v' (l++[z]).length ((l++[z]).map (V Y))->aH v.ownBlock.toList W w'->wpList prog c Q rest (a.put o.dst v') w'):
  wpList prog c Q (o :: rest) a (W.alloc (UX #[z] p mk)):=by
 let⟨i0,hi0,hz0,hz1,hz2⟩:=info_parts qC;refine wpList_append_own _ g x y 53 D B 3 i0 (V Y 0) 1 8 underlying53 hi0 hz0 hz1 hz2 rfl Uj v l.length (l.map (V Y)) C (f.alloc _) (W,0) 1 1 [z] A rfl (Wf (cs:=#[z]) (dH W _)) Uq Up O Un ?_;intro v' w' h1 S _;refine h v' w' Uo (((aH.refl _ W).alloc _).grown S (fun k I=>.inl (by simp[I])))
theorem nw{cs:Array UG}{t:UK}{q:M × M}(h:W.heap[b]?=U (UX cs t q))(v:UG):(W.setCell (b,i) v).heap[b]?=U (UX (cs.setIfInBounds i v) t q):=by let⟨hlt,hk⟩:=YC.1 h;show (W.heap.modify b _)[b]?=_;rw[Array.getElem?_eq_getElem Uo,Array.getElem_modify_self,hk];rfl
theorem qt{z:M}{xs:J UG}(h:W.ownsRow B e z v n xs)(p:v.ownBlock=U b)(o:M)(x:UG):(W.setCell (b,o) x).ownsRow B e z v n (xs.set o x):=by
 let⟨hlen,h2⟩:=h;rcases h2 with ⟨rfl,rfl⟩|⟨g,cap,l,rfl,C,y,c,f,A,a⟩
 .cases p
 .have D:g=b:=by simpa[V9] using p
  subst D;refine⟨by grind,.inr ⟨g,cap,l.setIfInBounds o x,rfl,C,nw y x,c,f,by grind,?_⟩⟩;rw[Array.toList_setIfInBounds,List.take_set,a]
theorem Im:∀ (xs:J (aA.aQ × M × M))(k:M)(a:k<xs.length),((xs.flatMap fg).set (k*6+1) (V Y 1)).set (k*6+5) (V Y 0)=(xs.set k (aA.ek xs[k].1,xs[k].2)).flatMap fg
 |[],k,a=>UA a Ui
 |x :: r,0,_=>by simp[fg,aA.ek]
 |x :: r,k+1,a=>by
  have ih:=Im r k (bZ a);have f:(k+1)*6+1=(fg x).length+(k*6+1):=by rw[Dd];omega
  have c:(k+1)*6+5=(fg x).length+(k*6+5):=by rw[Dd];omega
  rw[List.flatMap_cons,f,c,ZK,Uy O,V1,ZK,Uy O,V1,ih];rfl
theorem RD.fc{xs:J (aA.aQ × M × M)}{now:N}(h:RD w d ts xs given now F)(C:w.cell? (d,1)=U (UO E xs.length cap))(k:M)(z:k<xs.length):RD ((w.setCell (E,k*6+1) (V Y 1)).setCell (E,k*6+5) (V Y 0)) d ts (xs.set k (aA.ek xs[k].1,xs[k].2)) given now F/\E∈F/\E≠d:=by
 let⟨v1,a1,a2,a3⟩:=h.tv;let⟨v2,b1,b2,b3⟩:=h.ev;obtain rfl:v2=UO E xs.length cap:=Wq (b1.symm.trans C);let⟨hE,hEd⟩:=b3 E rfl;have X:aH [E] w (w.setCell (E,k*6+1) (V Y 1)):=aH.bM ..;have T:aH [E] (w.setCell (E,k*6+1) (V Y 1)) ((w.setCell (E,k*6+1) (V Y 1)).setCell (E,k*6+5) (V Y 0)):=aH.bM ..;have a:=X.trans T;have f:d ∉ [E]:=Uo;have S:=qt b2 (b:=E) rfl (k*6+1) (V Y 1);have I:=qt S (b:=E) rfl (k*6+5) (V Y 0);rw[Im xs k z] at I;have aa:v1.ownBlock≠U E:=by
  intro e;rcases b2.2 with ⟨p,_⟩|⟨g,cp,ab,p,_,hh,_⟩
  .cases p
  .simp only[XS,ZI,ZJ] at p;obtain⟨⟨rfl,_⟩,_⟩:=p;exact ki a2 hh Uj e
 refine⟨⟨⟨v1,a.cell f a1,dL a2 a (fun b D=>by grind),a3⟩,⟨_,a.cell f C,by grind,fun b D=>b3 b D⟩,a.cell f h.c2,a.cell f h.c3,fun o=>(a.frozen f (U1 _ _ h.c2)).trans (h.fz o),h.dF,fun x hx=>?_⟩,hE,hEd⟩;obtain⟨j,A,rfl⟩:=List.getElem_of_mem hx;rw[V5] at A;have c:∀ y∈xs,iW ((w.setCell (E,k*6+1) (V Y 1)).setCell (E,k*6+5) (V Y 0)) y.2.1 y.1.aR/\y.2.1 ∉ F/\y.2.1<((w.setCell (E,k*6+1) (V Y 1)).setCell (E,k*6+5) (V Y 0)).heap.size:=fun y l=>⟨(h.sp y l).1.off a (by simp;intro e;exact (h.sp y l).2.1 (e ▸ hE)),(h.sp y l).2.1,VP (h.sp y l).2.2 a.size⟩;rw[List.getElem_set];split
 .exact c xs[k] (zg z)
 .exact c xs[j] (zg A)
theorem DD.fc{s:aA.St}{xs:J (aA.aQ × M × M)}(h:DD w d s xs F){a:Option Addr}(p:ER w d E cap a xs){k:M}(g:k<xs.length){es':J aA.aQ}(l:s.es.set k (aA.ek xs[k].1)=es'):DD ((w.setCell (E,k*6+1) (V Y 1)).setCell (E,k*6+5) (V Y 0)) d { s with es:=es' } (xs.set k (aA.ek xs[k].1,xs[k].2)) F/\E∈F/\E≠d:=by
 obtain rfl:=p.a k g;let⟨h1,h2⟩:=h.rd.fc p.c k g;refine⟨⟨h1,?_,fun x f=>zL (h.lt x f) (U0 (aH.bM E w _ _).size (aH.bM E _ _ _).size),h.tl,?_,?_⟩,h2⟩
 .show _=es';rw[List.map_set,h.es,l]
 .show es'.length<=60;rw[<- l,V5];exact h.el
 .intro e f;rw[<- l] at f;rcases ZL f with f|rfl
  .exact h.en e f
  .exact (h.en _ (h.es ▸ VQ.2 ⟨_,List.getElem_mem g,rfl⟩)).book
def kg(x:aA.aQ × M × M):Obj:=UX #[x.1.id,x.1.kind,x.1.bH,x.1.aN,UO x.2.1 x.1.aR.length x.2.2,x.1.bY] 85
def Cf(ys xs:J (aA.aQ × M × M)):Prop:=∀ x∈ys,∃ z∈xs,x.2.1=z.2.1
theorem uV(ts:J (Us × N)):∀ (r d:J aA.aQ),(aA.eU ts d r).1.length=d.length+r.length/\(aA.eU ts d r).2.length<=r.length
 |[],d=>by simp[aA.eU]
 |e :: r,d=>by have a:=uV ts r (d++[aA.ek e]);have b:=uV ts r (d++[e]);rw[aA.eU];simp only[VA,VB,List.length_nil] at a b ⊢;split;simp only[VB];omega;omega
theorem Hw{s:aA.St}{xs:J (aA.aQ × M × M)}(h:DD w d s xs F):UI prog 39 #[d] w fun e w'=>∃ v,e=UW v/\w'.ownsRow w 3 1 v (aA.dS s.ts s.es).2.length ((aA.dS s.ts s.es).2.map (V Y))/\(∃ xs',DD w' d { s with es:=(aA.dS s.ts s.es).1 } xs' F/\Cf xs' xs)/\aH F w w':=by
 obtain⟨i0,aw,au,ar,aq⟩:=info_parts qC;have H:=aB h;have ay:=h.el;clear h;go_in;go_wp21;go_loopw [3,4,5,6] (fun v i _ _ wx=>∃ k:M,k<=s.es.length/\i=V Y k/\∃ (g:J aA.aQ) (l:J N) (ys:J (aA.aQ × M × M)),g.length=k/\(∀ y∈ys,∃ z∈xs,y.2.1=z.2.1)/\DD wx d { s with es:=g++s.es.drop k } ys F/\wx.ownsRow w 3 1 v l.length (l.map (V Y))/\l.length<=k/\aA.dS s.ts s.es=((aA.eU s.ts g (s.es.drop k)).1,l++(aA.eU s.ts g (s.es.drop k)).2)/\aH F w wx) (fun _ i _ _ _=>s.es.length-(intOf i).toNat)
 .exact⟨0,VM _,rfl,[],[],xs,rfl,fun y hy=>⟨y,hy,rfl⟩,H,Wc _ _ _ _,VM _,by simp[aA.dS],aH.refl _ _⟩
 .obtain⟨k,hk,rfl,g,l,ys,af,S,hd,ab,ax,ag,ad⟩:=hrel;obtain⟨a,cap,E,hr⟩:=hd.er;have cc:=hr.c;have al:ys.length=s.es.length:=by have:=hd.len;simp only[VA,List.length_drop] at this;omega
  rw[al] at cc;have C:=aB (Vf hd (Vf hr (Vf ab (Vf ag ad))));have av:=ad.size;by_cases ao:k<s.es.length
  .have p:k<ys.length:=O
   obtain rfl:=hr.a k p;have r0:=hr.r k p;have c0:=r0.c0;have c1:=r0.c1;have c2:=r0.c2;have c3:=r0.c3;have c4:=r0.c4;have c5:=r0.c5;have hi:(k:N)<(s.es.length:N):=O;have ae:=List.drop_eq_getElem_cons ao;have ai:ys[k].1=s.es[k]:=by
    have e1:(ys.map (·.1))[k]'(by simpa using p)=ys[k].1:=List.getElem_map ..;have e2:(ys.map (·.1))[k]?=U s.es[k]:=by rw[hd.es];show (g++s.es.drop k)[k]?=_;rw[VZ O,af,YX,ae];rfl
    rw[Wx (by simpa using p),ZI] at e2;exact e1.symm.trans e2
   have ak:=hd.en s.es[k] (by show _∈g++s.es.drop k;rw[ae];exact X7 _ (XF ..));have I:=aB (Vf ai (Vf ae ak));have fE:=fun o=>hr.f o O;clear hd hr ab ag ad r0 ai ae ak;have ac:∀ (e:aA.aQ) (g2:J N),aA.eU s.ts g (s.es[k] :: s.es.drop (k+1))=((aA.eU s.ts (g++[e]) (s.es.drop (k+1))).1,g2++(aA.eU s.ts (g++[e]) (s.es.drop (k+1))).2)->aA.dS s.ts s.es=((aA.eU s.ts (g++[e]) (s.es.drop (k+1))).1,(l++g2)++(aA.eU s.ts (g++[e]) (s.es.drop (k+1))).2):=by intro e g2 h1;have h2:=C.2.2.2.1;rw[I.2.1,h1] at h2;rw[h2];simp
   have NX:=aB ac;clear ac;have aa:aA.eU s.ts g (s.es[k] :: s.es.drop (k+1))=aA.eU s.ts (g++[s.es[k]]) (s.es.drop (k+1))->∀ wx,UH wr wr wx->∃ D:M,D<=s.es.length/\(V Y ((k:N)+1))=V Y D/\∃ (g:J aA.aQ) (l:J N) (ys:J (aA.aQ × M × M)),g.length=D/\(∀ y∈ys,∃ z∈xs,y.2.1=z.2.1)/\DD wx d { s with es:=g++s.es.drop D } ys F/\wx.ownsRow w 3 1 u3 l.length (l.map (V Y))/\l.length<=D/\aA.dS s.ts s.es=((aA.eU s.ts g (s.es.drop D)).1,l++(aA.eU s.ts g (s.es.drop D)).2)/\aH F w wx:=by intro h1 wx hb;refine⟨k+1,O,rfl,g++[s.es[k]],l,ys,by simp[af],S,?_,fG C.2.2.1 hb,O,by have:=NX s.es[k] [] (by rw[h1];simp);simpa using this,C.2.2.2.2.trans (aH.aD hb)⟩;have:=C.1.later hb;rw[I.2.1] at this;simpa using this
   have ST:=aB aa;clear aa;by_cases T:s.es[k].kind=3
   .have hq:(ys[k].1.kind != 3)=UD:=by rw[I.1];simp[T]
    have hX:UH wr.heap.size wr (wr.alloc (kg ys[k])):=aS;have hE:(wr.alloc (kg ys[k])).heap[wr.heap.size]?=U (kg ys[k]):=dH _ _;have RS:=aB (C.out.2.1.r k p).sl;have K3:=aB T;clear T;go_upto_region 7 with fail;change Code.wp _ _ _ _ (wr.alloc (kg ys[k]));have HX:=aB (Vf hX hE);have f0:=ta hE;have f2:=ux hE;have f3:=uy hE;have f4:=uz hE;have cX:=aT hX cc;have x1:=aT hX c1;have x5:=aT hX c5;clear hX hE c0 c2 c3 c4 c5 cc;generalize wr.alloc (kg ys[k])=X at *;have DX:=aB (C.1.later HX.1);have FT:=aB (DX.fits (u:=ys[k].1.aN) (cb:=ys[k].2.2) ys[k].1.bH (RS.later HX.1) (by rw[I.1];have:=I.2.2.sl;omega) (by rw[I.1];have:=I.2.2.u0;omega) (by rw[I.1];exact I.2.2.u1));go_wp21;refine FT.mono ?_;rintro e w4 ⟨rfl,A⟩;have HB:=aB A;have B4:=aB (bU HX.1 A aJ);have e4:Hid (s.ts=s.ts/\g++s.es.drop k=g++s.es[k] :: s.es.drop (k+1)):=⟨rfl,by rw[I.2.1]⟩
    cases hf:aA.eT s.ts (g++s.es.drop k) ys[k].1.bH ys[k].1.aN ys[k].1.aR
    .have hg:Hid (aA.eU s.ts g (s.es[k] :: s.es.drop (k+1))=aA.eU s.ts (g++[s.es[k]]) (s.es.drop (k+1))):=by
      show _=_;rw[aA.eU,Uy];rintro ⟨_,h2⟩;rw[I.1,e4.out.2,h2] at hf
      cases hf
     clear hf A;go_wp21;go_roundw
     .exact ST hg.out _ B4
     .simp[intOf];omega
    .have hg:Hid (aA.eU s.ts g (s.es[k] :: s.es.drop (k+1))=((aA.eU s.ts (g++[aA.ek s.es[k]]) (s.es.drop (k+1))).1,[s.es[k].id]++(aA.eU s.ts (g++[aA.ek s.es[k]]) (s.es.drop (k+1))).2)):=by show _=_;rw[aA.eU,if_pos ⟨K3,by rw[I.1,e4.out.2] at hf;exact hf⟩];rfl
     have f0:=aT A f0;have cX:=aT A cX;have x1:=aT A x1;have x5:=aT A x5;have hN:wr<w4.heap.size:=U1 _ _ f0;have R4:=aB (C.2.1.later B4);have gE:=fun o=>R4.f o O;have az:E<wr:=U1 _ _ c1;have a8:E≠wr:=O;clear hf A fE;have bk:=(C.1.later B4).fc R4 p (es':=(g++[aA.ek s.es[k]])++s.es.drop (k+1)) (by show (g++s.es.drop k).set k _=_;rw[e4.out.2,I.1,ZK,Uy O,af,YX,List.append_assoc];rfl)
     have BK:=aB bk;clear bk;have a7:=BK.2.2;have kE:aH F w4 ((w4.setCell (E,k*6+1) (V Y 1)).setCell (E,k*6+5) (V Y 0)):=((aH.refl F w4).setCell (.inl BK.2.1) _ _).setCell (.inl BK.2.1) _ _;have g0:=(zS _ (E,k*6+5) (wr,0) (V Y 0) Ui).trans ((zS w4 (E,k*6+1) (wr,0) (V Y 1) Ui).trans f0);have oz:=dL (fG C.2.2.1 B4) kE (fun b hb hF=>by have:=H.lt b hF;have:=gU C.2.2.1 hb;omega);have fz:=(C.2.2.2.2.trans (aH.aD B4)).trans kE;have HZ:=aB (Vf BK.1 (Vf oz fz));have hZ:=fz.size;clear kE oz fz BK;go_upto_region 11 with fail;generalize (Vg (Vg w4 _ _) _ _)=Z at *;go_wp2_with (first|(at_builtin;refine zI rfl _ _ rfl HZ.2.1 ys[k].1.id rfl rfl O hZ ?_;intro v' w' an aj));go_roundw
     .have h1:∀ b,u3.ownBlock=U b->w<=b:=fun b hb=>gU C.2.2.1 hb
      refine⟨k+1,O,by go_num,g++[aA.ek s.es[k]],l++[ys[k].1.id],_,by simp[af],fun y hy=>?_,HZ.1.off aj (fun x hx e=>?_) (fun y hy e=>?_),an,by simp;omega,by rw[I.1];exact NX _ _ hg.out,HZ.2.2.trans' aj (fun x hx=>.inr (h1 x (by simpa using hx)))⟩
      .rcases ZL hy with hy|rfl
       .exact S y hy
       .exact S ys[k] (zg p)
      .have:=h1 x (by simpa using e);have:=H.lt x hx;omega
      .have:=h1 y.2.1 (by simpa using e)
       have:∃ z∈xs,y.2.1=z.2.1:=by
        rcases ZL hy with hy|rfl
        .exact S y hy
        .exact S ys[k] (zg p)
       obtain⟨z,hz,e⟩:=this;have:=(H.rd.sp z hz).2.2;omega
     .simp[intOf];omega
   .have hq:(ys[k].1.kind != 3)=UE:=by rw[I.1];simp[T]
    have hg:Hid (aA.eU s.ts g (s.es[k] :: s.es.drop (k+1))=aA.eU s.ts (g++[s.es[k]]) (s.es.drop (k+1))):=by show _=_;rw[aA.eU,Uy (fun h=>T h.1)]
    clear T;go_wp21;go_roundw
    .exact ST hg.out _ aS
    .simp[intOf];omega
  .have hi:¬ (k:N)<(s.es.length:N):=O
   have e:s.es.drop k=[]:=List.drop_eq_nil_of_le O;have HG:Hid (aA.dS s.ts s.es=(g,l)):=by have:=C.2.2.2.1;rw[e] at this;exact this.trans (by simp[aA.eU])
   have HF:Hid (DD wr d { s with es:=g } ys F):=by have:=C.1;rw[e,List.append_nil] at this;exact this
   clear hd hr ab ag ad;go_wp21;go_ret;rw[HG];exact⟨u3,rfl,C.2.2.1,⟨ys,HF,S⟩,C.2.2.2.2⟩
open aA (aQ St bS aX)
structure se(w:UF)(v1 v2 v4:UG)(p:bS):Prop where
 en:∃ l,EV w v1 l/\l.map (·.1)=p.entries
 da:NV w v2 p.days
 ed:NV w v4 p.ended
def eK(w:UF)(d:M)(F:J M)(xs:J (aQ × M × M))(q:St × bS)(e:Ending)(w':UF):Prop :=
 ∃ (v1 v2 a f:UG) (xs':J (aQ × M × M)) (F' G:J M),e=UW (bT q.2.err 0 q.2.n v1 v2 a f)/\(∀ c,(∀ b∈G,c.heap[b]?=w'.heap[b]?)->se c v1 v2 f q.2) /\
  w'.ownsRow w 3 1 a q.2.granted.length (q.2.granted.map (V Y))/\DD w' d q.1 xs' F'/\(∀ k∈F',k∈F\/w<=k)/\aH F w w' /\
  (∀ b∈G,w<=b/\b<w'/\b ∉ F'/\a.ownBlock≠U b)/\(∀ b,a.ownBlock=U b->b ∉ F'/\∀ x∈xs',x.2.1≠b)/\∀ x∈xs',(∃ y∈xs,x.2.1=y.2.1)\/w<=x.2.1
abbrev aV:UG:=UO UB 0 0
theorem NV.nil(w:UF):NV w aV []:=⟨⟨_,_,rfl⟩,fun k a=>by simp at a⟩
theorem EV.nil(w:UF):EV w aV []:=⟨⟨_,_,rfl⟩,fun k a=>by grind,by simp⟩
theorem se.nil(w:UF){e a n:N}{g:J N}:se w aV aV aV ⟨e,a,n,[],[],g,[]⟩:=⟨⟨[],EV.nil w,rfl⟩,NV.nil w,NV.nil w⟩
variable {w Z:UF}{d:Uw}{s s':St}{xs:Ut (aQ × Uw × Uw)}{F F':Ut Uw}
theorem DD.plain(h:DD Z d s' xs' F')(l:∀ k∈F',k∈F\/w<=k)(k:aH F w Z)(f:∀ x∈xs',(∃ y∈xs,x.2.1=y.2.1)\/w<=x.2.1)(a n:N):eK w d F xs (s',⟨a,0,n,[],[],[],[]⟩) (UW (bT a 0 n aV aV aV aV)) Z :=⟨aV,aV,aV,aV,xs',F',[],rfl,fun c _=>se.nil c,Wc _ _ _ _,h,l,k,by simp,fun b g=>by simp[V9] at g,f⟩
theorem DD.oM(h:DD Z d s' xs' F')(D:∀ k∈F',k∈F\/w<=k)(k:aH F w Z){Q:M}(I:w<=Q)(z:Q ∉ F')(p:∀ x∈xs',x.2.1≠Q)(C:∀ x∈xs',(∃ y∈xs,x.2.1=y.2.1)\/w<=x.2.1)(A n:N)(a b c e f g i:UG):eK w d F xs (s',⟨A,0,n,[],[],[],[]⟩) (UW (bT A 0 n aV aV aV aV)) (dE Z Q a b c e f g i) :=(h.off (mY Z Q a b c e f g i) (fun x l e=>z Uo) (fun x l e=>p x l (bZ e))).plain D (k.trans' (mY ..) (fun x l=>by grind)) C A n
theorem DD.said(h:DD w d s xs F)(k:UH w w Z){Q:M}(y:w<=Q)(p n:N)(a b c e f g i:UG):eK w d F xs (s,⟨p,0,n,[],[],[],[]⟩) (UW (bT p 0 n aV aV aV aV)) (dE Z Q a b c e f g i) :=(h.later k).oM (fun _ l=>.inl l) (aH.aD k) y (fun l=>by have:=h.lt Q l;omega) (fun x l e=>by have:=(h.rd.sp x l).2.2;omega) (fun x l=>.inl ⟨x,l,rfl⟩) p n a b c e f g i
theorem DD.fresh(h:DD w d s xs F){ys:J (aQ × M × M)}{es':J aQ}(l:Z.ownsRow B 85 6 v ys.length (ys.flatMap fg))(D:w<=B)(k:UH w w Z)(z:∀ y∈ys,y∈xs)(I:ys.length<=xs.length)(p:ys.map (·.1)=es'):DD (Z.setCell (d,1) v) d { s with es:=es' } ys (v.ownBlock.toList++F):=by
 have f:=h.later k;have a:∀ b,v.ownBlock=U b->w<=b/\b<Z:=fun b a=>⟨U0 D (gU l a),fT l a⟩;have S:d<w:=h.lt d h.rd.dF;have g:aH [d] Z (Z.setCell (d,1) v):=aH.bM ..;let⟨v1,a1,a2,a3⟩:=f.rd.tv;let⟨v2,b1,b2,b3⟩:=f.rd.ev;refine⟨⟨⟨v1,(bC Ui).trans a1,dL a2 g (fun b a e=>(a3 b a).2 (by simpa using e)),fun b a=>⟨X7 _ (a3 b a).1,(a3 b a).2⟩⟩,⟨v,World.cell?_setCell_same _ _ _ b1,uC (dL l g (fun b A e=>by grind)) (zN _),fun b A=>⟨by simp[A],fun e=>by grind⟩⟩,(bC Ui).trans f.rd.c2,(bC Ui).trans f.rd.c3,fun o=>(zF ..).trans (f.rd.fz o),X7 _ h.rd.dF,fun x c=>?_⟩,p,fun x c=>?_,h.tl,?_,fun e c=>?_⟩
 .let⟨x1,x2,x3⟩:=h.rd.sp x (z x c);refine⟨((x1.later k).off g (by simp;rintro rfl;exact x2 h.rd.dF)),fun e=>?_,VP (zL x3 k.size) g.size⟩;rcases Vb.1 e with e|e
  .have:=(a _ (by simpa using e)).1;omega
  .exact x2 e
 .refine VP ?_ g.size;rcases Vb.1 c with e|e
  .exact (a x (by simpa using e)).2
  .exact f.lt x e
 .show es'.length<=60;have:=h.len;have:=h.el;rw[<- p,We];omega
 .rw[<- p] at c;obtain⟨y,C,rfl⟩:=VQ.1 c;exact h.en _ (h.es ▸ VQ.2 ⟨y,z y C,rfl⟩)
theorem aH.blw(h:aH [] w w'):UH w w w':=⟨h.os,h.tape,h.output,h.size,fun k a=>h.block k a Ui⟩
theorem GU{c:Array Oper}{rest:J Oper}{o:Oper}{a:Act}{Q:Exit->Act->UF->Prop}(A:o.guard=UB)(x y:Operand)(T:o.op=.call { callee:=.builtin .append,args:=#[x,y],argTypes:=#[57,57] }){l:J (N × N)}(f:W.ownsRow B 83 2 v l.length (l.flatMap lr))(z p:N){D:UK}{mk:M × M}(S:a.eval x=v)(I:a.eval y=UO W 1 1)(hl:l.length<=1000000)(hB:B<=W)
  (h:∀ g cap w',w'.ownsRow B 83 2 (UO g (l.length+1) cap) (l.length+1) ((l++[(z,p)]).flatMap lr)->aH v.ownBlock.toList W w'->wpList prog c Q rest (a.put o.dst (UO (U ⟨g,0,UB⟩) (l.length+1) cap)) w'):
  wpList prog c Q (o :: rest) a (W.alloc (UX #[z,p] D mk)):=by
 let⟨i0,hi0,hz0,hz1,hz2⟩:=info_parts xX;refine wpList_append_own _ A x y 57 T B 83 i0 _ 2 16 underlying57 hi0 hz0 hz1 hz2 rfl Uj v l.length (l.flatMap lr) S (f.alloc _) (W,0) 1 1 [z,p] I rfl (Wf (cs:=#[z,p]) (dH W _)) Uq Up O Un ?_;intro v' w' C h2 _;rcases C.2 with ⟨_,h0⟩|⟨g,cap,_,rfl,_⟩
 .omega
 .refine h g cap w' (by rw[List.flatMap_append];exact C) (((aH.refl _ W).alloc _).grown h2 (fun k X=>.inl (by simp[X])))
theorem RD.trim{now:N}(h:RD w d ts xs given now F):RD w d ts xs given now (F.filter fun k=>decide (k<w)):=by let⟨v1,a1,a2,a3⟩:=h.tv;let⟨v2,b1,b2,b3⟩:=h.ev;refine⟨⟨v1,a1,a2,fun k a=>⟨Xb.2 ⟨(a3 k a).1,by simpa using fT a2 a⟩,(a3 k a).2⟩⟩,⟨v2,b1,b2,fun k a=>⟨Xb.2 ⟨(b3 k a).1,by simpa using fT b2 a⟩,(b3 k a).2⟩⟩,h.c2,h.c3,h.fz,Xb.2 ⟨h.dF,?_⟩,fun x c=>⟨(h.sp x c).1,fun e=>(h.sp x c).2.1 (Xb.1 e).1,(h.sp x c).2.2⟩⟩;have:=U1 _ _ h.c2;simpa using this
theorem DD.nB{f:UF}(h:DD f d s xs F){x:aQ × M × M}(a:EB x.1)(l:s.es.length<60)(k:vz f d s.ts (xs++[({ x.1 with id:=s.given+1 },x.2)]) (s.given+1) s.now F Z):∃ F',DD Z d (aA.lS s x.1).1 (xs++[({ x.1 with id:=s.given+1 },x.2)]) F'/\(∀ k∈F',k∈F\/f<=k)/\aH F f Z:=by
 let⟨F',h1,h2,h3⟩:=k;refine⟨_,⟨h1.trim,?_,fun k g=>by grind,h.tl,?_,fun e c=>?_⟩,fun k g=>h2 k (Xb.1 g).1,h3⟩
 .simp[aA.lS,h.es]
 .simp[aA.lS];omega
 .simp only[aA.lS,Vb,X9] at c;rcases c with c|rfl
  .exact h.en e c
  .exact⟨a.u0,a.u1,a.sl,a.s0,a.so⟩
structure KP(w wx:UF)(L:J (M × Obj)):Prop where
 bl:UH w w wx
 kb:∀ q∈L,wx.heap[q.1]?=U q.2
 lo:∀ q∈L,w<=q.1
 nd:(L.map (·.1)).Nodup
variable {w wx wy:UF}{L L':Ut (Uw × Obj)}{b:Uw}{o:Obj}{cs:Array UG}{t:UK}{m:Uw × Uw}
theorem KP.nil(w:UF):KP w w []:=⟨zr _ _,by simp,by simp,by simp⟩
theorem KP.lt(h:KP w wx L){q:M × Obj}(a:q∈L):q.1<wx:=(YC.1 (h.kb q a)).1
theorem KP.later(h:KP w wx L)(k:UH wx wx wy):KP w wy L:=⟨bU h.bl k aJ,fun q a=>(k.block _ (h.lt a)).trans (h.kb q a),h.lo,h.nd⟩
theorem KP.alloc(h:KP w wx L)(o:Obj):KP w (wx.alloc o) ((wx,o) :: L):=by
 have k:=h.later (fI.alloc aJ o);refine⟨k.bl,fun q a=>?_,fun q a=>?_,?_⟩
 .rcases Va.1 a with rfl|a
  .exact dH _ _
  .exact k.kb q a
 .rcases Va.1 a with rfl|a
  .exact h.bl.size
  .exact h.lo q a
 .rw[Xl,Vd];refine⟨fun e=>?_,h.nd⟩;let⟨q,a,e⟩:=VQ.1 e;have:=h.lt a;omega
theorem KP.put(h:KP w wx ((b,UX cs t m) :: L))(i:M)(v:UG):KP w (wx.setCell (b,i) v) ((b,UX (cs.setIfInBounds i v) t m) :: L):=by
 have k:aH [b] wx (wx.setCell (b,i) v):=aH.bM ..;have f:=h.lo _ (XF ..);have c:=h.nd;rw[Xl,Vd] at c;refine⟨h.bl.setCell f v,fun q a=>?_,fun q a=>?_,h.nd⟩
 .rcases Va.1 a with rfl|a
  .exact nw (h.kb _ (XF ..)) v
  .refine (k.block _ (h.lt (Wm _ a)) (fun e=>c.1 (VQ.2 ⟨q,a,?_⟩))).trans (h.kb q (Wm _ a))
   simpa using e
 .rcases Va.1 a with rfl|a
  .exact f
  .exact h.lo q (Wm _ a)
theorem KP.perm(h:KP w wx L)(p:L.Perm L'):KP w wx L':=⟨h.bl,fun q a=>h.kb q (p.mem_iff.2 a),fun q a=>h.lo q (p.mem_iff.2 a),(p.map _).nodup_iff.1 h.nd⟩
theorem KP.less(h:KP w wx L)(p:L'.Sublist L):KP w wx L':=⟨h.bl,fun q a=>h.kb q (p.subset a),fun q a=>h.lo q (p.subset a),h.nd.sublist (p.map _)⟩
theorem KP.swap{q r:M × Obj}(h:KP w wx (q :: r :: L)):KP w wx (r :: q :: L):=h.perm (List.Perm.swap ..)
theorem KP.cell(h:KP w wx L)(c:(b,Obj.cells cs t m)∈L)(i:M)(a:cs[i]?=U v):wx.cell? (b,i)=U v:=by have:=h.kb _ c;simp only at this;simp[Vk,this,a]
theorem KP.frozen(h:KP w wx L)(a:(b,Obj.cells cs t)∈L)(i:M):wx.frozen? (b,i)=UD:=by have:=h.kb _ a;simp only at this;simp[U2,this]
theorem KP.rV(h:KP w wx ((b,UX #[a0,a1,a2,a3,a4,a5] t m) :: L))(v0 v1 v2 f c a:UG):KP w ((((((wx.setCell (b,0) v0).setCell (b,1) v1).setCell (b,2) v2).setCell (b,3) f).setCell (b,4) c).setCell (b,5) a) ((b,UX #[v0,v1,v2,f,c,a] t m) :: L):=by have:=(((((h.put 0 v0).put 1 v1).put 2 v2).put 3 f).put 4 c).put 5 a;simpa using this
theorem KP.hc(h:KP w wx ((b,UX cs t m) :: L))(i:M)(a:cs[i]?=U v):wx.cell? (b,i)=U v:=h.cell (XF ..) i a
theorem KP.hf(h:KP w wx ((b,UX cs t) :: L))(i:M):wx.frozen? (b,i)=UD:=h.frozen (XF ..) i
theorem KP.qN(h:KP w wx ((b,UX #[a0,a1,a2,a3,a4,a5] t m) :: L)):wx.cell? (b,0)=U a0/\wx.cell? (b,1)=U a1/\wx.cell? (b,2)=U a2/\wx.cell? (b,3)=U a3/\wx.cell? (b,4)=U a4/\wx.cell? (b,5)=U a5 :=⟨h.hc 0 rfl,h.hc 1 rfl,h.hc 2 rfl,h.hc 3 rfl,h.hc 4 rfl,h.hc 5 rfl⟩
theorem Ci{w4:UF}{o:Obj}(h:UH (W.alloc o).drew.heap.size (W.alloc o).drew w4):w4.heap[W.heap.size]?=U o:=(h.block _ Ui).trans (dH _ _)
open aA (aQ)
theorem NV.at_{m:N}(h:NV w u (XV n m)){k:M}(c:k<n):∃ g cap,u=UO (U ⟨g,0,UB⟩) n cap/\w.cell? (g,k)=U ↑m:=by let⟨g,cap,e,a⟩:=h.cell k Uo;rw[ZM] at a;rw[ZN] at e;exact⟨g,cap,e,a⟩
theorem SV.at_{m:N}(h:SV w u (XV n (m,m))){k:M}(c:k<n):∃ g cap,u=UO (U ⟨g,0,UB⟩) n cap/\w.cell? (g,k*2)=U ↑m/\w.cell? (g,k*2+1)=U ↑m:=by let⟨g,cap,e,a,b⟩:=h.cell k (bZ c);rw[ZM] at a b;rw[ZN] at e;exact⟨g,cap,e,a,b⟩
def zv(m:N):aQ:={ id:=m,kind:=0,bH:=⟨#[]⟩,aN:=m,aR:=[],bY:=0 }
theorem EV.at_{m:N}(h:EV w u (XV n (zv m,()))){k:M}(c:k<n):∃ g cap,u=UO (U ⟨g,0,UB⟩) n cap/\w.cell? (g,k*6)=U ↑m/\w.cell? (g,k*6+1)=U (V Y 0)/\w.cell? (g,k*6+2)=U (UQ ⟨#[]⟩)/\w.cell? (g,k*6+3)=U ↑m/\w.cell? (g,k*6+4)=U ↑()/\w.cell? (g,k*6+5)=U (V Y 0):=by let⟨g,cap,e,a⟩:=h.cell k (bZ c);rw[ZM] at a;rw[ZN] at e;exact⟨g,cap,e,a⟩
theorem Al(n:M)(m:N)(u:UG)(w:UF)(h:NV w u (XV n m))(A:n<=1000000):UI prog 14 #[u,m] w fun e w'=>e=UW UE/\UH w w w':=by
 obtain⟨a,D,rfl⟩:=h.form;have y:=aB h;clear h;rw[ZN];rw[ZN] at y;go_in;go_wp21;go_loopw [5] (fun v wr=>∃ k:M,k<=n/\v=V Y k/\UH w w wr) (fun v _=>n-(intOf v).toNat)
 .exact⟨0,VM _,rfl,Below.refl _ _⟩
 .obtain⟨k,C,rfl,f⟩:=hrel;have p:=aB f;clear f
  by_cases l:k<n
  .have c:(k:N)<(n:N):=O
   let⟨g,cap,e,a0⟩:=(y.later p).at_ l;simp only[XS,true_and] at e;obtain⟨rfl,rfl⟩:=e;have z:(m != m)=UD:=Ui;go_wp21;go_roundw
   .exact⟨k+1,O,by go_num,p⟩
   .simp[intOf];omega
  .have c:¬ (k:N)<(n:N):=O
   go_wp21;go_ret;exact⟨rfl,p⟩
theorem An(n:M)(m:N)(u:UG)(w:UF)(h:SV w u (XV n (m,m)))(A:n<=1000000):UI prog 15 #[u,m] w fun e w'=>e=UW UE/\UH w w w':=by
 obtain⟨a,D,rfl⟩:=h.form;have y:=aB h;clear h;rw[ZN];rw[ZN] at y;go_in;go_wp21;go_loopw [5] (fun v wr=>∃ k:M,k<=n/\v=V Y k/\UH w w wr) (fun v _=>n-(intOf v).toNat)
 .exact⟨0,VM _,rfl,Below.refl _ _⟩
 .obtain⟨k,C,rfl,f⟩:=hrel;have p:=aB f;clear f
  by_cases l:k<n
  .have c:(k:N)<(n:N):=O
   let⟨g,cap,e,a0,a1⟩:=(y.later p).at_ l;simp only[XS,true_and] at e;obtain⟨rfl,rfl⟩:=e;have z:(m != m)=UD:=Ui;go_wp21;go_roundw
   .exact⟨k+1,O,by go_num,p⟩
   .simp[intOf];omega
  .have c:¬ (k:N)<(n:N):=O
   go_wp21;go_ret;exact⟨rfl,p⟩
theorem Ao(n:M)(m:N)(u:UG)(w:UF)(h:EV w u (XV n (zv m,())))(A:n<=1000000):UI prog 16 #[u,m] w fun e w'=>e=UW UE/\UH w w w':=by
 obtain⟨a,D,rfl⟩:=h.form;have y:=aB h;clear h;rw[ZN];rw[ZN] at y;go_in;go_wp21;go_loopw [5] (fun v wr=>∃ k:M,k<=n/\v=V Y k/\UH w w wr) (fun v _=>n-(intOf v).toNat)
 .exact⟨0,VM _,rfl,Below.refl _ _⟩
 .obtain⟨k,C,rfl,f⟩:=hrel;have p:=aB f;clear f
  by_cases l:k<n
  .have c:(k:N)<(n:N):=O
   let⟨g,cap,e,a0,a1,a2,a3,a4,a5⟩:=(y.later p).at_ l;simp only[XS,true_and] at e;obtain⟨rfl,rfl⟩:=e;have z:(m != m)=UD:=Ui;go_wp21;go_roundw
   .exact⟨k+1,O,by go_num,p⟩
   .simp[intOf];omega
  .have c:¬ (k:N)<(n:N):=O
   go_wp21;go_ret;exact⟨rfl,p⟩
theorem SF{P:Program}(w:UF)(t ty:UK)(p:M)(e:UK)(i:TypeInfo)(z:UG)(size y:M)(ht:P.underlying t=U (.slice e))(hi:P.info? e=U i)(hz:i.zero=U z)
  (C:i.size=size) (ai:i.bytes=y) (ao:z.cells.size=size) (ar:0<size)
  (v:UG) (n:M) (xs:J UG) (f:w.ownsRow p e size v n xs)
  (ad:Addr) (m c:M) (a:J UG) (hl:a.length=m*size) (h:∀ j u,a[j]?=U u->w.cell? (ad.add j)=U u) (h1:∀ u∈a,u.oneCell'=UE)
  (hm:0<m) (ak:n+m<=maxLen) (A:(n+m)*y<=140737488355328) (X:p<=w):
  ∃ g cap w',(Builtin.append_ #[t,t] ty #[v,UO (U ad) m c]).run P w=.ok (UO (U ⟨g,0,UB⟩) (n+m) cap) w' /\w'.ownsRow p e size (UO g (n+m) cap) (n+m) (xs++a)/\w.grownBy w' v.ownBlock/\(v.ownBlock=U g\/(g=w/\w.grownBy w' UB))/\g<w'/\w'.ownsRow p e size v n xs:=by
 let⟨g,cap,w',hr,h2,h3,_,hlt⟩:=run_append_lies (P:=P) w t ty p e i z size y ht hi hz C ai ao ar v n xs f ad m c a hl h h1 hm ak A X _ rfl;refine⟨g,cap,w',hr,h2,h3,?_⟩;subst C;subst ai;have an:n+m<=9223372036854775807:=by simp only[maxLen] at ak;omega
 rcases f.2 with ⟨rfl,rfl⟩|⟨g0,l,aa,rfl,aj,hg,ac,ag,af,S⟩
 .have I:=run_append_nil (P:=P) w t ty e i z ht hi hz ad m c a hl h O O Uo;rw[I] at hr
  injection hr with e1 e2;subst e2;injection e1 with e3 e4 e5;injection e3 with e6;injection e6 with e7;exact⟨.inr ⟨e7.symm,⟨rfl,rfl,rfl,by simp,fun k hk _=>((zr w.drew.heap.size w.drew).alloc aJ _).block k hk⟩⟩,hlt,⟨f.1,.inl ⟨rfl,rfl⟩⟩⟩
 .by_cases D:n+m<=l
  .have ae:n*i.size+a.length<=aa.size:=by rw[hl,af,<- Nat.add_mul];exact ZO _ D
   have I:=run_append_room (P:=P) w t ty e i ht hi g0 n l aa hg ad m c a hl h h1 D ae;rw[I] at hr;injection hr with e1 e2;injection e1 with e3 e4 e5;injection e3 with e6;injection e6 with e7;subst e7 e5;refine⟨.inl rfl,hlt,⟨f.1,?_⟩⟩;rcases h2.2 with ⟨h0,_⟩|⟨g1,aw,al,ab,az,av,ax,ay,au,aq⟩
   .cases h0
   .simp only[XS,ZI,ZJ,and_true,true_and] at ab;obtain⟨rfl,rfl⟩:=ab;refine .inr ⟨g0,l,al,rfl,aj,av,ac,ag,au,?_⟩;have:=congrArg (List.take (n*i.size)) aq;rw[List.take_take,Nat.min_eq_left (ZO _ O),<- f.1,List.take_left] at this;rw[<- f.1];exact this
  .have T:=f.cells (g:=g0) rfl;have I:=run_append_grow (P:=P) w t ty e i z ht hi hz (g0,0) n l xs f.1 T ad m c a hl h O O (growslice_fits O A);rw[I] at hr
   injection hr with e1 e2;subst e2;injection e1 with e3 e4 e5;injection e3 with e6;injection e6 with e7;refine⟨.inr ⟨e7.symm,⟨rfl,rfl,rfl,by simp,fun k hk _=>((zr w.drew.heap.size w.drew).alloc aJ _).block k hk⟩⟩,hlt,⟨f.1,.inr ⟨g0,l,aa,rfl,aj,?_,ac,ag,af,S⟩⟩⟩;exact (((zr w.drew.heap.size w.drew).alloc aJ _).block g0 (YC.1 hg).1).trans hg
theorem xz(g j:M):((g,0):Addr).add j=(g,j):=by unfold Addr.add;split <;> simp_all
def rp(pat:J UG)(j:M):J UG:=(XV j pat).flatten
theorem Cy(pat:J UG):rp pat 0=[]:=rfl
theorem qS(pat:J UG)(j:M):(rp pat j).length=j*pat.length:=by simp[rp]
theorem xI(pat:J UG)(j k:M):rp pat (j+k)=rp pat j++rp pat k:=by unfold rp;rw[<- List.replicate_append_replicate,List.flatten_append]
theorem G6(pat:J UG):rp pat 1=pat:=by simp[rp]
theorem Cx(pat:J UG)(j:M):rp pat (j+1)=rp pat j++pat:=by rw[xI,G6]
theorem zO(pat:J UG){k o:M}(c:k<j)(a:o<pat.length):(rp pat j)[k*pat.length+o]?=pat[o]?:=by have e:j=k+(1+(j-k-1)):=O;rw[e,xI,xI,G6,VZ (by rw[qS];omega),qS,V1,VV a]
theorem P9{pat:J UG}(h:(rp pat j)[i]?=U v)(a:j<=n):(rp pat n)[i]?=U v:=by have e:n=j+(n-j):=O;rw[e,xI,VV (Zt.1 h).1];exact h
structure Fu(pat:J UG)(w:UF)(u:UG)(j:M):Prop where
 form:∃ a cap,u=UO a j cap
 cell:∀ i v,(rp pat j)[i]?=U v->∃ g cap,u=UO (U ⟨g,0,UB⟩) j cap/\w.cell? ⟨g,i,UB⟩=U v
variable {w w':UF}{pat:Ut UG}{u:UG}{j:Uw}
theorem Fu.lD(h:w.ownsRow B e pat.length u j (rp pat j)):Fu pat w u j:=by
 rcases h.2 with ⟨rfl,rfl⟩|⟨g,cap,c,rfl,_⟩
 .exact⟨⟨_,_,rfl⟩,fun i v a=>by simp[rp] at a⟩
 .exact⟨⟨_,_,rfl⟩,fun i v a=>⟨g,cap,rfl,(xz g i) ▸ h.cells (g:=g) rfl i v a⟩⟩
theorem Fu.ji(h:Fu pat w u j)(k:∀ b,u.ownBlock=U b->b<w->w'.heap[b]?=w.heap[b]?):Fu pat w' u j :=
 ⟨h.form,fun i v a=>by obtain⟨g,cap,rfl,c⟩:=h.cell i v a;exact⟨g,cap,rfl,(zo (k g Ur (U1 _ _ c))).trans c⟩⟩
theorem Fu.off(h:Fu pat w u j)(k:aH G w w')(f:∀ b,u.ownBlock=U b->b ∉ G):Fu pat w' u j:=h.ji fun b c a=>k.block b a (f b c)
theorem Fu.later(h:Fu pat w u j)(k:UH w w w'):Fu pat w' u j:=h.ji fun b _ a=>k.block b a
abbrev ng(m:N):J UG:=[m]
abbrev mO(m:N):J UG:=[m,m]
abbrev ln(m:N):J UG:=[m,V Y 0,UQ ⟨#[]⟩,m,(),V Y 0]
theorem Fu.nv{m:N}(h:Fu (ng m) w u j):NV w u (XV j m):=by refine⟨by simpa using h.form,fun k a=>?_⟩;rw[ZN] at a;obtain⟨g,cap,rfl,c⟩:=h.cell _ _ (zO (ng m) a (o:=0) Ui);exact⟨g,cap,by simp,by grind⟩
theorem Fu.sv{m:N}(h:Fu (mO m) w u j):SV w u (XV j (m,m)):=by refine⟨by simpa using h.form,fun k a=>?_⟩;rw[ZN] at a;obtain⟨g,cap,rfl,c⟩:=h.cell _ _ (zO (mO m) a (o:=0) Ui);let⟨g',cap',e,c'⟩:=h.cell _ _ (zO (mO m) a (o:=1) Ui);simp only[XS,ZI,ZJ,and_true,true_and] at e;obtain⟨rfl,rfl⟩:=e;exact⟨g,cap,by simp,by simpa using c,by simpa using c'⟩
theorem Fu.ev{m:N}(h:Fu (ln m) w u j):EV w u (XV j (zv m,UO UB 0 0)):=by
 refine⟨by simpa using h.form,fun k a=>?_,fun p f=>?_⟩
 .rw[ZN] at a;have at_:∀ (o:M) (v:UG),(ln m)[o]?=U v->∃ g cap,u=UO (U ⟨g,0,UB⟩) j cap/\w.cell? ⟨g,k*6+o,UB⟩=U v:=fun o v c=>h.cell _ _ ((zO (ln m) a (o:=o) (Zt.1 c).1).trans c)
  obtain⟨g,cap,rfl,l⟩:=at_ 0 _ rfl;have at':∀ (o:M) (v:UG),(ln m)[o]?=U v->w.cell? ⟨g,k*6+o,UB⟩=U v:=fun o v c=>by grind
  refine⟨g,cap,by simp,?_⟩;rw[ZM];exact⟨l,at' 1 _ rfl,at' 2 _ rfl,at' 3 _ rfl,at' 4 _ rfl,at' 5 _ rfl⟩
 .rw[ZP f];exact⟨⟨_,_,rfl⟩,fun k a=>by simp[zv] at a⟩
theorem si{D:Array Oper}{rest:J Oper}{o:Oper}{a:Act}{Q:Exit->Act->UF->Prop}(ae:o.guard=UB)(x y:Operand)(t:UK)(ho:o.op=.call { callee:=.builtin .append,args:=#[x,y],argTypes:=#[t,t] })
  (pat:J UG) {B e:M}{i:TypeInfo}{z:UG}(f:M) (ht:prog.underlying t=U (.slice e)) (hi:prog.info? e=U i) (hz:i.zero=U z) (A:i.size=pat.length) (ag:i.bytes=f) (T:f<=72) (aa:z.cells.size=pat.length) (ac:0<pat.length) (ab:∀ u∈pat,u.oneCell'=UE)
  {v:UG}{n:M}(S:W.ownsRow B e pat.length v n (rp pat n)) {m c:M}{cs:Array UG}{ty:UK}{mk:M × M}(af:cs.toList=rp pat m) (hm:0<m) (ai:m<=3) (hs:a.eval x=v) (hx:a.eval y=UO W m c) (hl:n<=1000000) (hB:B<=W)
  (h:∀ g cap w',w'.ownsRow B e pat.length (UO g (n+m) cap) (n+m) (rp pat (n+m))->w'.ownsRow B e pat.length v n (rp pat n)->(∀ u j,j<=n+m->Fu pat W u j->Fu pat w' u j)->aH v.ownBlock.toList W w'->(v.ownBlock=U g\/W<=g)->wpList prog D Q rest (a.put o.dst (UO g (n+m) cap)) w'):
  wpList prog D Q (o :: rest) a (W.alloc (UX cs ty mk)):=by
 refine wpList_plain ae fun K hK=>?_;have l:=Wf (cs:=cs) (dH W (UX cs ty mk));rw[af] at l;obtain⟨g,cap,w',hr,h2,h3,p,_,h6⟩:=SF (P:=prog) (W.alloc (UX cs ty mk)) t o.type B e i z pat.length f ht hi hz A ag aa ac v n (rp pat n) (S.alloc _) (W,0) m c (rp pat m) (qS ..) l (fun q hq=>by unfold rp at hq;obtain⟨q',h7,h8⟩:=List.mem_flatten.1 hq;rw[ZP h7] at h8;exact ab q h8) hm Up (U0 (Nat.mul_le_mul (show n+m<=1000003 by omega) T) Uj) Un
 rw[<- xI] at h2;unfold Oper.wp execOp;simp only[ho,resolve,invoke,builtin,Sem.run_bind,Sem.run_pure,Result.andThen_ok,List.map_toArray,Xl,List.map_nil,hs,hx,hr];refine hK _ _ (h g cap w' h2 h6 (fun u j hj hu=>?_) (((aH.refl _ W).alloc _).grown h3 (fun k hk=>.inl (by simp[hk]))) ?_)
 .rcases p with p|⟨_,p⟩
  .refine⟨hu.form,fun i' v' I=>?_⟩;obtain⟨C,X,rfl,cc⟩:=hu.cell i' v' I;refine⟨C,X,rfl,?_⟩
   by_cases e1:C=g
   .subst e1;exact (xz C i') ▸ h2.cells (g:=C) rfl i' v' (P9 I hj)
   .have ad:C<W:=U1 _ _ cc;refine (zo (w:=W) ?_).trans cc;exact (h3.block C (by rw[Wp];omega) (by rw[p];simpa using e1)).trans (((zr W W).alloc aJ _).block C ad)
  .exact hu.ji fun b _ hl=>(p.block b (by rw[Wp];omega) Ui).trans (((zr W W).alloc aJ _).block b hl)
 .rcases p with p|⟨p,_⟩
  .exact .inl p
  .exact .inr (by rw[p];simp)
abbrev KL:=UG × UG × UG × UG × N
def gZ(x:KL):J UG:=[x.1,x.2.1,x.2.2.1,x.2.2.2.1,V Y x.2.2.2.2]
def iL(x:KL):J M:=x.1.ownBlock.toList++(x.2.1.ownBlock.toList++(x.2.2.1.ownBlock.toList++x.2.2.2.1.ownBlock.toList))
def K4(P:N->J UG)(w:UF)(x:KL):Prop :=∃ j,j<=900000/\Fu (P x.2.2.2.2) w x.1 j/\Fu (P x.2.2.2.2) w x.2.1 (j+1)/\Fu (P x.2.2.2.2) w x.2.2.1 (j+2)/\Fu (P x.2.2.2.2) w x.2.2.2.1 (j+3)
theorem K4.off{x:KL}(h:K4 P w x)(k:aH G w w')(c:∀ b∈iL x,b ∉ G):K4 P w' x:=by let⟨j,hj,h1,h2,h3,h4⟩:=h;exact⟨j,hj,h1.off k fun b a=>c b (by simp[iL,a]),h2.off k fun b a=>c b (by simp[iL,a]),h3.off k fun b a=>c b (by simp[iL,a]),h4.off k fun b a=>c b (by simp[iL,a])⟩
structure nM(P:N->J UG)(t:UK)(K:J M)(w:UF)(r:UG)(X:J KL):Prop where
 own:w.ownsRow 0 t 5 r X.length (X.flatMap gZ)
 four:∀ x∈X,K4 P w x
 bl:∀ x∈X,∀ b∈iL x,b∈K
theorem nM.off{t:UK}{X:J KL}(h:nM P t K w r X)(k:aH G w w')(c:∀ b,r.ownBlock=U b->b ∉ G)(g:∀ b∈K,b ∉ G):nM P t K w' r X :=⟨dL h.own k c,fun x a=>(h.four x a).off k fun b f=>g b (h.bl x a b f),h.bl⟩
theorem nM.wide{t:UK}{K':J M}{X:J KL}(h:nM P t K w r X)(f:∀ b∈K,b∈K'):nM P t K' w r X :=⟨h.own,h.four,fun x a b c=>f b (h.bl x a b c)⟩
theorem nM.snoc{t:UK}{r':UG}{X:J KL}{x:KL}(h:nM P t K w r X)(g:K4 P w x)(k:aH r.ownBlock.toList w w')(l:∀ b∈K,r.ownBlock≠U b)(f:∀ b∈iL x,r.ownBlock≠U b)(p:w'.ownsRow 0 t 5 r' (X.length+1) (X.flatMap gZ++gZ x)):nM P t (iL x++K) w' r' (X++[x]):=by
 refine⟨by grind,fun y a=>?_,fun y a b c=>?_⟩
 .rcases Vb.1 a with a|a
  .exact (h.four y a).off k fun b c e=>l b (h.bl y a b c) Uo
  .rw[X9.1 a];exact g.off k fun b c e=>f b c Uo
 .rcases Vb.1 a with a|a
  .exact X7 _ (h.bl y a b c)
  .rw[X9.1 a] at c;exact List.mem_append_left _ c
abbrev tI:UK:=55
abbrev tS:UK:=59
abbrev tE:UK:=62
structure BR(w:UF)(K:J M)(r1 r2 r3:UG)(X1 X2 X3:J KL):Prop where
 b1:nM ng tI K w r1 X1
 b2:nM mO tS K w r2 X2
 b3:nM ln tE K w r3 X3
 kb:∀ b∈K,b<w/\r1.ownBlock≠U b/\r2.ownBlock≠U b/\r3.ownBlock≠U b
structure BK(w:UF)(B:M)(v0 v1:UG)(K:J M)(r1 r2 r3:UG)(X1 X2 X3:J KL):Prop where
 hb:w.heap[B]?=U (UX #[v0,v1,r1,r2,r3] 34)
 br:BR w K r1 r2 r3 X1 X2 X3
 bK:B ∉ K
variable {w w':UF}{B:Uw}{v0 v1 r1 r2 r3 r':UG}{K G:Ut Uw}{X1 X2 X3:Ut KL}{x:KL}
theorem sg{h f s1 l y p X T:M}{u1 u2:UG}{l1 z:J UG}(I:w.ownsRow X h s1 u1 y l1)(D:w.ownsRow T f l u2 p z)(a:f≠h)(C:u1.ownBlock=U b):u2.ownBlock≠U b:=by
 intro c;rcases D.2 with ⟨rfl,_⟩|⟨g,cap,S,rfl,_,A,_⟩
 .simp[V9] at c
 .simp[V9] at c;subst c;exact ki I A a C
theorem BR.off(h:BR w K r1 r2 r3 X1 X2 X3)(k:aH G w w')(l:∀ b,r1.ownBlock=U b->b ∉ G)(g:∀ b,r2.ownBlock=U b->b ∉ G)(f:∀ b,r3.ownBlock=U b->b ∉ G)(a:∀ b∈K,b ∉ G):BR w' K r1 r2 r3 X1 X2 X3 :=⟨h.b1.off k l a,h.b2.off k g a,h.b3.off k f a,fun b c=>⟨zL (h.kb b c).1 k.size,(h.kb b c).2⟩⟩
def cQ(B:M)(r1 r2 r3:UG):J M:=B :: (r1.ownBlock.toList++(r2.ownBlock.toList++r3.ownBlock.toList))
theorem BK.off(h:BK w B v0 v1 K r1 r2 r3 X1 X2 X3)(k:aH G w w')(c:∀ b∈cQ B r1 r2 r3,b ∉ G)(f:∀ b∈K,b ∉ G):BK w' B v0 v1 K r1 r2 r3 X1 X2 X3 :=⟨(k.block B (YC.1 h.hb).1 (c B (by simp[cQ]))).trans h.hb,h.br.off k (fun b a=>c b (by simp[cQ,a])) (fun b a=>c b (by simp[cQ,a])) (fun b a=>c b (by simp[cQ,a])) f,h.bK⟩
theorem BK.later(h:BK w B v0 v1 K r1 r2 r3 X1 X2 X3)(k:UH w w w'):BK w' B v0 v1 K r1 r2 r3 X1 X2 X3:=h.off (G:=[]) (aH.aD k) Ui Ui
theorem BK.cells(h:BK w B v0 v1 K r1 r2 r3 X1 X2 X3):w.cell? (B,0)=U v0/\w.cell? (B,1)=U v1/\w.cell? (B,2)=U r1/\w.cell? (B,3)=U r2/\w.cell? (B,4)=U r3/\∀ o,w.frozen? ⟨B,o,UB⟩=UD:=by have:=h.hb;refine⟨?_,?_,?_,?_,?_,fun o=>?_⟩ <;> simp[Vk,U2,this]
theorem BK.mN(h:BK w B v0 v1 K r1 r2 r3 X1 X2 X3):(∃ a c,r1=UO a X1.length c)/\(∃ a c,r2=UO a X2.length c)/\∃ a c,r3=UO a X3.length c:=⟨iD h.br.b1.own,iD h.br.b2.own,iD h.br.b3.own⟩
def vA(w:UF)(r r':UG):Prop:=∀ b,r'.ownBlock=U b->r.ownBlock=U b\/w<=b
theorem BK.Fe(h:BK w B v0 v1 K r1 r2 r3 X1 X2 X3)(hx:K4 ng w x)(c:∀ b∈iL x,b<w/\b ∉ cQ B r1 r2 r3)(k:aH r1.ownBlock.toList w w')(S:w'.ownsRow 0 tI 5 r' (X1.length+1) (X1.flatMap gZ++gZ x))(g:vA w r1 r'):BK (w'.setCell (B,2) r') B v0 v1 (iL x++K) r' r2 r3 (X1++[x]) X2 X3/\aH (cQ B r1 r2 r3) w (w'.setCell (B,2) r'):=by
 have l:=(YC.1 h.hb).1;have aa:r1.ownBlock≠U B:=ki h.br.b1.own h.hb Uj;have z:r2.ownBlock≠U B:=ki h.br.b2.own h.hb Uj;have p:r3.ownBlock≠U B:=ki h.br.b3.own h.hb Uj;have f:w'.heap[B]?=U (UX #[v0,v1,r1,r2,r3] 34):=(k.block B l Uo).trans h.hb;have A:r'.ownBlock≠U B:=ki S f Uj;have n2:∀ b,r2.ownBlock=U b->b ∉ r1.ownBlock.toList:=fun b a e=>sg h.br.b2.own h.br.b1.own Uj a Uo;have n3:∀ b,r3.ownBlock=U b->b ∉ r1.ownBlock.toList:=fun b a e=>sg h.br.b3.own h.br.b1.own Uj a Uo;have D:∀ b∈K,b ∉ r1.ownBlock.toList:=fun b a e=>(h.br.kb b a).2.1 Uo;have s1:=h.br.b1.snoc hx k (fun b a=>(h.br.kb b a).2.1) (fun b a e=>(c b a).2 (by simp[cQ,e])) S;have X:=(h.br.b2.off k n2 D).wide (K':=iL x++K) (fun b a=>X7 _ a);have T:=(h.br.b3.off k n3 D).wide (K':=iL x++K) (fun b a=>X7 _ a);have kd:aH [B] w' (w'.setCell (B,2) r'):=aH.bM ..;have C:∀ b∈iL x++K,b≠B:=fun b a e=>by
  rcases Vb.1 a with a|a
  .exact (c b a).2 (by simp[cQ,e])
  .exact h.bK (e ▸ a)
 have br:BR w' (iL x++K) r' r2 r3 (X1++[x]) X2 X3:=by
  refine⟨s1,X,T,fun b a=>?_⟩;rcases Vb.1 a with a|a
  .refine⟨zL (c b a).1 k.size,fun e=>?_,fun e=>(c b a).2 (by simp[cQ,e]),fun e=>(c b a).2 (by simp[cQ,e])⟩;rcases g b e with e|e
   .exact (c b a).2 (by simp[cQ,e])
   .have:=(c b a).1;omega
  .let⟨q1,q2,q3,q4⟩:=h.br.kb b a;refine⟨zL q1 k.size,fun e=>?_,q3,q4⟩;rcases g b e with e|e
   .exact q2 e
   .omega
 refine⟨⟨by rw[nw f];rfl,br.off kd (fun b a e=>A Uo) (fun b a e=>z Uo) (fun b a e=>p Uo) (fun b a e=>C b a Uo),fun e=>C B e rfl⟩,?_⟩;exact (k.mono fun y I=>by simp at I;simp[cQ,I]).setCell (.inl (by simp[cQ])) _ _
theorem BK.Fc(h:BK w B v0 v1 K r1 r2 r3 X1 X2 X3)(hx:K4 mO w x)(c:∀ b∈iL x,b<w/\b ∉ cQ B r1 r2 r3)(k:aH r2.ownBlock.toList w w')(S:w'.ownsRow 0 tS 5 r' (X2.length+1) (X2.flatMap gZ++gZ x))(g:vA w r2 r'):BK (w'.setCell (B,3) r') B v0 v1 (iL x++K) r1 r' r3 X1 (X2++[x]) X3/\aH (cQ B r1 r2 r3) w (w'.setCell (B,3) r'):=by
 have l:=(YC.1 h.hb).1;have z:r1.ownBlock≠U B:=ki h.br.b1.own h.hb Uj;have aa:r2.ownBlock≠U B:=ki h.br.b2.own h.hb Uj;have p:r3.ownBlock≠U B:=ki h.br.b3.own h.hb Uj;have f:w'.heap[B]?=U (UX #[v0,v1,r1,r2,r3] 34):=(k.block B l Uo).trans h.hb;have A:r'.ownBlock≠U B:=ki S f Uj;have n1:∀ b,r1.ownBlock=U b->b ∉ r2.ownBlock.toList:=fun b a e=>sg h.br.b1.own h.br.b2.own Uj a (by simpa using e);have n3:∀ b,r3.ownBlock=U b->b ∉ r2.ownBlock.toList:=fun b a e=>sg h.br.b3.own h.br.b2.own Uj a (by simpa using e);have D:∀ b∈K,b ∉ r2.ownBlock.toList:=fun b a e=>(h.br.kb b a).2.2.1 (by simpa using e);have X:=h.br.b2.snoc hx k (fun b a=>(h.br.kb b a).2.2.1) (fun b a e=>(c b a).2 (by simp[cQ,e])) S;have s1:=(h.br.b1.off k n1 D).wide (K':=iL x++K) (fun b a=>X7 _ a);have T:=(h.br.b3.off k n3 D).wide (K':=iL x++K) (fun b a=>X7 _ a);have kd:aH [B] w' (w'.setCell (B,3) r'):=aH.bM ..;have C:∀ b∈iL x++K,b≠B:=fun b a e=>by
  rcases Vb.1 a with a|a
  .exact (c b a).2 (by simp[cQ,e])
  .exact h.bK (e ▸ a)
 have br:BR w' (iL x++K) r1 r' r3 X1 (X2++[x]) X3:=by
  refine⟨s1,X,T,fun b a=>?_⟩;rcases Vb.1 a with a|a
  .refine⟨zL (c b a).1 k.size,fun e=>(c b a).2 (by simp[cQ,e]),fun e=>?_,fun e=>(c b a).2 (by simp[cQ,e])⟩;rcases g b e with e|e
   .exact (c b a).2 (by simp[cQ,e])
   .have:=(c b a).1;omega
  .let⟨q1,q2,q3,q4⟩:=h.br.kb b a;refine⟨zL q1 k.size,q2,fun e=>?_,q4⟩;rcases g b e with e|e
   .exact q3 e
   .omega
 refine⟨⟨by rw[nw f];rfl,br.off kd (fun b a e=>z Uo) (fun b a e=>A Uo) (fun b a e=>p Uo) (fun b a e=>C b a (by simpa using e)),fun e=>C B e rfl⟩,?_⟩;exact (k.mono fun y I=>by simp at I;simp[cQ,I]).setCell (.inl (by simp[cQ])) _ _
theorem BK.EY(h:BK w B v0 v1 K r1 r2 r3 X1 X2 X3)(hx:K4 ln w x)(c:∀ b∈iL x,b<w/\b ∉ cQ B r1 r2 r3)(k:aH r3.ownBlock.toList w w')(S:w'.ownsRow 0 tE 5 r' (X3.length+1) (X3.flatMap gZ++gZ x))(g:vA w r3 r'):BK (w'.setCell (B,4) r') B v0 v1 (iL x++K) r1 r2 r' X1 X2 (X3++[x])/\aH (cQ B r1 r2 r3) w (w'.setCell (B,4) r'):=by
 have l:=(YC.1 h.hb).1;have z:r1.ownBlock≠U B:=ki h.br.b1.own h.hb Uj;have p:r2.ownBlock≠U B:=ki h.br.b2.own h.hb Uj;have aa:r3.ownBlock≠U B:=ki h.br.b3.own h.hb Uj;have f:w'.heap[B]?=U (UX #[v0,v1,r1,r2,r3] 34):=(k.block B l Uo).trans h.hb;have A:r'.ownBlock≠U B:=ki S f Uj;have n1:∀ b,r1.ownBlock=U b->b ∉ r3.ownBlock.toList:=fun b a e=>sg h.br.b1.own h.br.b3.own Uj a (by simpa using e);have n2:∀ b,r2.ownBlock=U b->b ∉ r3.ownBlock.toList:=fun b a e=>sg h.br.b2.own h.br.b3.own Uj a (by simpa using e);have D:∀ b∈K,b ∉ r3.ownBlock.toList:=fun b a e=>(h.br.kb b a).2.2.2 (by simpa using e);have T:=h.br.b3.snoc hx k (fun b a=>(h.br.kb b a).2.2.2) (fun b a e=>(c b a).2 (by simp[cQ,e])) S;have s1:=(h.br.b1.off k n1 D).wide (K':=iL x++K) (fun b a=>X7 _ a);have X:=(h.br.b2.off k n2 D).wide (K':=iL x++K) (fun b a=>X7 _ a);have kd:aH [B] w' (w'.setCell (B,4) r'):=aH.bM ..;have C:∀ b∈iL x++K,b≠B:=fun b a e=>by
  rcases Vb.1 a with a|a
  .exact (c b a).2 (by simp[cQ,e])
  .exact h.bK (e ▸ a)
 have br:BR w' (iL x++K) r1 r2 r' X1 X2 (X3++[x]):=by
  refine⟨s1,X,T,fun b a=>?_⟩;rcases Vb.1 a with a|a
  .refine⟨zL (c b a).1 k.size,fun e=>(c b a).2 (by simp[cQ,e]),fun e=>(c b a).2 (by simp[cQ,e]),fun e=>?_⟩;rcases g b e with e|e
   .exact (c b a).2 (by simp[cQ,e])
   .have:=(c b a).1;omega
  .let⟨q1,q2,q3,q4⟩:=h.br.kb b a;refine⟨zL q1 k.size,q2,q3,fun e=>?_⟩;rcases g b e with e|e
   .exact q4 e
   .omega
 refine⟨⟨by rw[nw f];rfl,br.off kd (fun b a e=>z Uo) (fun b a e=>p Uo) (fun b a e=>A Uo) (fun b a e=>C b a (by simpa using e)),fun e=>C B e rfl⟩,?_⟩;exact (k.mono fun y I=>by simp at I;simp[cQ,I]).setCell (.inl (by simp[cQ])) _ _
theorem Dc(l:J N)(u v:UG)(w:UF)(z:NV w u l)(y:NV w v l)(I:l.length<=1000000):UI prog 41 #[u,v] w fun e w'=>e=UW UE/\UH w w w':=by
 obtain⟨a,X,rfl⟩:=z.form;obtain⟨b,cb,rfl⟩:=y.form;have D:=aB z;have C:=aB y;clear z y;have T:((l.length:N) != (l.length:N))=UD:=Ui;go_in;go_wp21;go_loopw [5] (fun v wr=>∃ k:M,k<=l.length/\v=V Y k/\UH w w wr) (fun v _=>l.length-(intOf v).toNat)
 .exact⟨0,VM _,rfl,Below.refl _ _⟩
 .obtain⟨k,S,rfl,h⟩:=hrel;have p:=aB h;clear h
  by_cases f:k<l.length
  .have c:(k:N)<(l.length:N):=O
   let⟨g,cap,e,a0⟩:=(D.later p).cell k f;simp only[XS,true_and] at e;obtain⟨rfl,rfl⟩:=e;let⟨g2,cap2,e,b0⟩:=(C.later p).cell k f;simp only[XS,true_and] at e;obtain⟨rfl,rfl⟩:=e;generalize l[k]=x at *;go_upto_region 6 with fail;go_big_region;have A:=aB (p.drew);clear p;go_wp21;go_roundw
   .exact⟨k+1,O,by go_num,A⟩
   .simp[intOf];omega
  .have c:¬ (k:N)<(l.length:N):=O
   go_wp21;go_ret;exact⟨rfl,p⟩
theorem Sp(L:J (N × N))(u v:UG)(w:UF)(z:SV w u L)(p:SV w v L)(I:L.length<=1000000):UI prog 75 #[u,v] w fun e w'=>e=UW UE/\UH w w w':=by
 obtain⟨a,X,rfl⟩:=z.form;obtain⟨b,cb,rfl⟩:=p.form;have D:=aB z;have C:=aB p;clear z p;have T:((L.length:N) != (L.length:N))=UD:=Ui;go_in;go_wp21;go_loopw [5] (fun v wr=>∃ k:M,k<=L.length/\v=V Y k/\UH w w wr) (fun v _=>L.length-(intOf v).toNat)
 .exact⟨0,VM _,rfl,Below.refl _ _⟩
 .obtain⟨k,S,rfl,h⟩:=hrel;have l:=aB h;clear h
  by_cases f:k<L.length
  .have c:(k:N)<(L.length:N):=O
   let⟨g,cap,e,a0,a1⟩:=(D.later l).cell k f;simp only[XS,true_and] at e;obtain⟨rfl,rfl⟩:=e;let⟨g2,cap2,e,b0,b1⟩:=(C.later l).cell k f;simp only[XS,true_and] at e;obtain⟨rfl,rfl⟩:=e;generalize L[k].1=x at *;generalize L[k].2=y at *;go_upto_region 6 with fail;go_big_region;have A:=aB (l.drew);clear l;go_wp21;go_roundw
   .exact⟨k+1,O,by go_num,A⟩
   .simp[intOf];omega
  .have c:¬ (k:N)<(L.length:N):=O
   go_wp21;go_ret;exact⟨rfl,l⟩
theorem ou(h:UH B w w')(n:M):UH B w (w'.drewN n):=⟨h.os,h.tape,h.output,h.size,h.block⟩
theorem SA(l m:J (aQ × UG))(u v:UG)(w:UF)(hu:EV w u l)(hv:EV w v m)(he:l.map (·.1)=m.map (·.1))(hl:l.length<=1000)(hs:∀ p∈l,p.1.aR.length<=1000):UI prog 40 #[u,v] w fun e w'=>e=UW (.bool UE)/\UH w.heap.size w w':=by
 obtain⟨a,ca,rfl⟩:=hu.form;obtain⟨b,cb,rfl⟩:=hv.form;have I:m.length=l.length:=by have:=congrArg VD he;simpa using this.symm
 have AT:Hid (∀ (k:M) (h:k<l.length) (h':k<m.length),m[k].1=l[k].1):=fun k h h'=>by have:=congrArg (fun x=>x[k]?) he;simp only[List.getElem?_map,Wx h,Wx h',Option.map_some] at this;exact (Wq this).symm
 have HU:=aB hu;have HV:=aB hv;have HS:=aB hs;rw[I];clear hu hv he hs;have hb:((l.length:N) != (l.length:N))=UD:=Ui;go_in;go_wp2_with fail;go_loopw [5,6] (fun v _ wr=>∃ k:M,k<=l.length/\v=V Y k/\UH w.heap.size w wr) (fun v _ _=>l.length-(intOf v).toNat)
 case atStart=>exact⟨0,VM _,rfl,Below.refl _ _⟩
 case round =>
  obtain⟨k,hk,rfl,S⟩:=hrel;have C:=aB S;clear S;by_cases y:k<l.length
  .have D:(k:N)<(l.length:N):=O
   have A:k<m.length:=O;obtain⟨g,cap,e,a0,a1,a2,a3,a4,a5⟩:=(HU.out.later C.out).cell k y;simp only[XS,true_and] at e;obtain⟨rfl,rfl⟩:=e;obtain⟨f,aa,e,b0,b1,b2,b3,b4,b5⟩:=(HV.out.later C.out).cell k A;simp only[XS,true_and] at e;obtain⟨rfl,rfl⟩:=e;have s1:=(HU.out.later C.out).sp l[k] (zg y);have s2:=(HV.out.later C.out).sp m[k] (zg A);rw[AT.out k y A] at b0 b1 b2 b3 b5 s2;have SP:=aB (fun c (q:UH wr.heap.size wr c)=>Sp l[k].1.aR l[k].2 m[k].2 c (s1.later q) (s2.later q) (by have:=HS.out l[k] (zg y);omega));obtain⟨f1,f2,e1⟩:=s1.form;obtain⟨f3,f4,e2⟩:=s2.form;rw[e1] at a4 SP;rw[e2] at b4 SP;clear s1 s2 e1 e2;generalize l[k].1=x at *;have n0:(x.id != x.id)=UD:=Ui;have n1:(x.kind != x.kind)=UD:=Ui;have n3:(x.aN != x.aN)=UD:=Ui;have n5:(x.bY != x.bY)=UD:=Ui;have X:=aB (C.out.drew);have SS:Hid (∀ c,UH wr.drew.heap.size wr.drew c->c.cell? ⟨g,k*6,UB⟩=U (V Y x.id)/\c.cell? ⟨g,k*6+1,UB⟩=U (V Y x.kind)/\c.cell? ⟨g,k*6+2,UB⟩=U (UQ x.bH)/\c.cell? ⟨g,k*6+3,UB⟩=U (V Y x.aN)/\c.cell? ⟨g,k*6+4,UB⟩=U (UO f1 x.aR.length f2)/\c.cell? ⟨g,k*6+5,UB⟩=U (V Y x.bY)/\c.cell? ⟨f,k*6,UB⟩=U (V Y x.id)/\c.cell? ⟨f,k*6+1,UB⟩=U (V Y x.kind)/\c.cell? ⟨f,k*6+2,UB⟩=U (UQ x.bH)/\c.cell? ⟨f,k*6+3,UB⟩=U (V Y x.aN)/\c.cell? ⟨f,k*6+4,UB⟩=U (UO f3 x.aR.length f4)/\c.cell? ⟨f,k*6+5,UB⟩=U (V Y x.bY)):=fun c q=>⟨aT q a0,aT q a1,aT q a2,aT q a3,aT q a4,aT q a5,aT q b0,aT q b1,aT q b2,aT q b3,aT q b4,aT q b5⟩;clear C;go_upto_region 6 with fail;go_region_held3 (fun c=>c.cell? ⟨g,k*6,UB⟩=U (V Y x.id)/\c.cell? ⟨g,k*6+1,UB⟩=U (V Y x.kind)/\c.cell? ⟨g,k*6+2,UB⟩=U (UQ x.bH)/\c.cell? ⟨g,k*6+3,UB⟩=U (V Y x.aN)/\c.cell? ⟨g,k*6+4,UB⟩=U (UO f1 x.aR.length f2)/\c.cell? ⟨g,k*6+5,UB⟩=U (V Y x.bY)/\c.cell? ⟨f,k*6,UB⟩=U (V Y x.id)/\c.cell? ⟨f,k*6+1,UB⟩=U (V Y x.kind)/\c.cell? ⟨f,k*6+2,UB⟩=U (UQ x.bH)/\c.cell? ⟨f,k*6+3,UB⟩=U (V Y x.aN)/\c.cell? ⟨f,k*6+4,UB⟩=U (UO f3 x.aR.length f4)/\c.cell? ⟨f,k*6+5,UB⟩=U (V Y x.bY))
    (first
     |with_reducible exact SS.out _ z.out
     |exact⟨a0,a1,a2,a3,a4,a5,b0,b1,b2,b3,b4,b5⟩)
    (first
     |(go_at_call 75;refine (SP.out _ (eN _)).mono ?_;rintro e w6 ⟨rfl,T⟩;have z:=aB T;clear T))
   have HF:Hid (UH w.heap.size w w6):=bU X.out z.out (zq _);obtain⟨c0,c1,c2,c3,c4,c5,d0,d1,d2,d3,d4,d5⟩:=SS.out _ z.out;clear z X SS SP a0 a1 a2 a3 a4 a5 b0 b1 b2 b3 b4 b5;have n2:(x.bH.toList != x.bH.toList)=UD:=Ui;have ab:(x.bH.toList==x.bH.toList)=UE:=Ui;go_upto_region 7 with fail;go_quiet (fail);go_wp2;go_roundw
   case rel=>exact⟨k+1,by omega,by go_num,ou HF.out _⟩
   case measure=>simp[intOf];omega
  .have D:¬ (k:N)<(l.length:N):=O
   go_wp2;go_ret;exact⟨rfl,C.out⟩
variable {w:UF}{B:Uw}{v0 v1 r1 r2 r3:UG}{K:Ut Uw}{X1 X2 X3:Ut KL}
abbrev zP(X1 X2 X3:J KL):N:=-1000-(X1.length:N)-X2.length-X3.length
theorem CU(h:BK w B v0 v1 K r1 r2 r3 X1 X2 X3)(A:X1.length<=1000000000)(z:X2.length<=1000000000)(y:X3.length<=1000000000):UI prog 76 #[.pointer (U ⟨B,2,UB⟩)] w fun e w'=>e=UW (V Y (zP X1 X2 X3))/\UH w w w':=by
 let⟨_,_,c2,c3,c4,_⟩:=h.cells;obtain⟨⟨a1,f,rfl⟩,⟨a2,c,rfl⟩,a3,a,rfl⟩:=h.mN;have C:=aB h;clear h;have p:Y.wrap (-1000-(X1.length:N))=-1000-(X1.length:N):=zk O O;have l:Y.wrap (-1000-(X1.length:N)-X2.length)=-1000-(X1.length:N)-X2.length:=zk O O;have g:Y.wrap (-1000-(X1.length:N)-X2.length-X3.length)=-1000-(X1.length:N)-X2.length-X3.length:=zk O O;go_in;go_upto_region 1 with fail;go_quiet (fail);go_wp21;go_ret;exact⟨rfl,ou fI _⟩
end Go.Proofs.YtolaacmheeaadaaGreatDoor
