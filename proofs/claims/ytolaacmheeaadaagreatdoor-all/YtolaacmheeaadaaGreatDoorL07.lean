import Derived.Test.YtolaacmheeaadaaGreatDoorL06
import Derived.RangeFuncBound
import Derived.RangeFuncBox
import Derived.OwnWalkIn
import Derived.TacticsInMore
import Derived.LoopNIn
import Derived.LoopIn
set_option maxRecDepth 100000
set_option maxHeartbeats 8000000
open Go.Proofs.Tryz
open _root_ renaming ByteArray->Us,List->Ut,Option->Uu,Nat->Uw,Int->Ux,if_neg->Uy,if_pos->Uz,Int->N,Nat->M,List->J
open Option renaming none->UB,some->UC,none->YH,mem_toList->Wn,some->U
open Bool renaming false->UD,true->UE
open Go renaming World->UF,Value->UG,Calls->UI
open Go.RowKit renaming Below->UH
open Nat renaming lt_of_lt_of_le->VP,le_trans->U0,le_succ->YK,reduceAdd->YQ,reduceSub->YR,sub_self->YX
open List renaming length_map->We,length_append->VA,mem_append->Vb,map_append->VU,nodup_append->Vi,mem_map->VQ,mem_singleton->X9,find?_eq_none->XL,getElem_append_left->YI,pairwise_singleton->YL,size_toArray->YP,length_cons->VB,length_nil->VG,push_toArray->YU,append_toArray->YV,nil_append->YW,cons_append->Vm,append_nil->Xu,append_assoc->V8,takeWhile_cons->Y5,take_of_length_le->VN,getLast?_eq_some_getLast->Y7,getLastD_eq_getLast?->Y8,length_take->XW
open Go.Code renaming wp->YD
open Go.World renaming block_lt_of_cell?->U1,size_alloc->Wp,cell?->Vk,alloc_heap_new->Y0,ownsRow_nil->Wc
open Go.Instr renaming mapUpdate->YJ,lookup->Yi
open Option.some renaming inj->Wq
open Go.IntKind renaming i64->UV
open And renaming intro->Vf
open Go.Value renaming slice->UO,ownBlock->V9,int->UL,pointer->UM,string->UQ,bool->UR,tuple->US,agg->UT,iface->UU,int->V
open List.Pairwise renaming nil->Xt
open Int renaming tmod_eq_emod_of_nonneg->YM
open Go.Oper renaming semAt_some->YN
open Array renaming replicate_succ->YS,replicate_zero->YT,getElem?_eq_some_iff->YC
open Go.Fence renaming wide->YZ
open Go.Boxed renaming new->Y4
open Go.KeepsFrom renaming refl->Y6
open Go.Ending renaming returned->UW
open Go.Obj renaming cells->UX
namespace Go.Proofs.YtolaacmheeaadaaGreatDoor
variable{name:Us}{a fr k la long mo til u x:Ux}{p:Ux->Bool}{l:Ut Ux}{xs:Ut UG}{B Bn Q b d e i m n n' n₀:Uw}{c1 aM:Uw->Uu bO}{r rw_:Raw}{s:aA.St}{v:UG}{W Y Z w w' w1 wx:UF}
open Go.RowKit
open aA (aQ St eD kept fc ek ec jw dB dI jC eS jr cA Inv)
def jO(s:St)(e:aQ):St × aA.bS :=
 if s.given=60\/e.kind=3/\aA.fH s.es=6 then (s,.error 5)
 else if e.kind≠3/\aA.eT s.ts s.es e.bH e.aN e.aR=UD then (s,.error 8)
 else aA.lS s e
def nY(w:UF)(B:M)(d:M)(aM:M->Uu bO)(q:St × aA.bS)(v:UG)(w':UF):Prop :=∃ (g n:N) (f:Raw) (c:M->Uu bO),v=bT g 0 n () () () ()/\q.2=⟨g,0,n,[],[],[],[]⟩/\DK w' d f c/\Of q.1 f/\Wl f/\Hl f/\Step anyS B aM c w w'
theorem ve{j:M->Uu bO}{t:St}{o:Raw}(E:DK Z d o j)(D:Of t o)(C:Wl o)(A:Hl o)(z:Step anyS B aM j w Z)(G:B<=Q)(F:j Q=UB)(q n:N)(a b c e f g i:UG):nY w B d aM (t,⟨q,0,n,[],[],[],[]⟩) (bT q 0 n () () () ()) (dE Z Q a b c e f g i):=by
 have k:=mY Z Q a b c e f g i;have st:Step anyS B j j Z (dE Z Q a b c e f g i):=⟨⟨_,k,fun x y=>.inr Uo⟩,fun _ _ h=>h,fun _ _ h=>.inl h⟩;exact⟨q,n,o,j,rfl,rfl,E.off k (fun x y=>by grind),D,C,A,z.trans st⟩
def EG.num(g:EG)(n:N):EG:={ g with e:={ g.e with id:=n } }
theorem kv.num{g:EG}(h:kv w g)(c:g.eb≠g.B)(n:N):kv (w.setCell (g.eb,0) n) (g.num n):=by have k:=aH.bM g.eb w 0 n;have f:=h.lt;refine⟨⟨zm _ _ _ h.en.c0,(bC Ui).trans h.en.c1,(bC Ui).trans h.en.c2,(bC Ui).trans h.en.c3,h.en.sl.off k Uo,VP h.en.lt k.size⟩,(bC Ui).trans h.k,(bC Ui).trans h.u,fun o=>(zF ..).trans (h.fz o),?_⟩;let⟨cs,e⟩:=h.bl;exact⟨_,heap_setCell_same _ _ _ _ _ _ e⟩
theorem Wl.fH(h:Wl r)(c:Of s r):aA.fH s.es=(r.wl.length:N):=by unfold aA.fH;rw[h,We,<- c.es,List.filter_map,We];rfl
theorem b8G(h:eH w d s r aM){g:EG}(T:kv w g)(R:B<=w)(q:s.given=60\/g.e.kind=3/\aA.fH s.es=6):UI prog 149 #[d,g.eb] w fun e w'=>∃ v,e=UW v/\nY w B d aM (jO s g.e) v w':=by
 have I:UH w w (w.alloc bI):=aS;have t:Hid (Q7 (w.alloc bI) w):=Q7.of (dH w bI);have cg:=(h.dk.later I).c1;rw[h.of.given] at cg;have ck:=(T.off (G:=[]) (aH.aD I) Ui Ui).k;have S:Hid (jO s g.e=(s,aA.bS.error 5)):=Uz q;obtain⟨v4,c4,o,P⟩:=(h.dk.later I).wa;obtain⟨a,cap,rfl⟩:=lz o;have aa:=h.wl.fH h.of;have c:=aB h;have f:=aB I;clear o P h I T;go_in;go_upto_region 1 with fail;change YD _ _ _ _ (w.alloc bI);generalize w.alloc bI=X at *;rcases q with q|⟨q,hw⟩
 .rw[q] at cg
  go_wp21;refine aK (ly 5 X) fun w1 j=>?_;have H:=j.block w (U1 _ _ t.q0);have L:Hid (nY w B d aM (jO s g.e) (bT 5 0 0 () () () ()) (dE w1 w (V UV 5) (V UV 0) (V UV 0) () () () ())):=by rw[S];exact ve (c.dk.later (f.trans (j.mono f.size))) c.of c.wl c.hl (Step.below (f.trans (j.mono f.size))) R (c.dk.none aJ) 5 0 _ _ _ _ _ _ _
  obtain⟨F,E,D,C,A,z,y,K⟩:=t.later H;simp only[bT];go_wp21;exact cV results149 ⟨F,E,D,C,A,z,y,K⟩ ⟨_,rfl,L⟩
 .by_cases ab:s.given<60
  .rw[q] at ck;rw[show r.wl.length=6 by omega] at c4
   go_wp21;refine aK (ly 5 X) fun w1 j=>?_;have H:=j.block w (U1 _ _ t.q0);have L:Hid (nY w B d aM (jO s g.e) (bT 5 0 0 () () () ()) (dE w1 w (V UV 5) (V UV 0) (V UV 0) () () () ())):=by rw[S];exact ve (c.dk.later (f.trans (j.mono f.size))) c.of c.wl c.hl (Step.below (f.trans (j.mono f.size))) R (c.dk.none aJ) 5 0 _ _ _ _ _ _ _
   obtain⟨F,E,D,C,A,z,y,K⟩:=t.later H;simp only[bT];go_wp21;exact cV results149 ⟨F,E,D,C,A,z,y,K⟩ ⟨_,rfl,L⟩
  .go_wp21
   refine aK (ly 5 X) fun w1 j=>?_;have H:=j.block w (U1 _ _ t.q0);have L:Hid (nY w B d aM (jO s g.e) (bT 5 0 0 () () () ()) (dE w1 w (V UV 5) (V UV 0) (V UV 0) () () () ())):=by rw[S];exact ve (c.dk.later (f.trans (j.mono f.size))) c.of c.wl c.hl (Step.below (f.trans (j.mono f.size))) R (c.dk.none aJ) 5 0 _ _ _ _ _ _ _
   obtain⟨F,E,D,C,A,z,y,K⟩:=t.later H;simp only[bT];go_wp21;exact cV results149 ⟨F,E,D,C,A,z,y,K⟩ ⟨_,rfl,L⟩
theorem DK.xk(h:DK w d r aM){f:Lit->Uu M}(z:w.cell? ⟨d,3,YH⟩=U (.map (U m)))(C:aM m=U .me)(T:∀ id,f (lM id)=jc r.eg id){g:EG}(L:kv w g)(D:aM g.eb=YH)(S:aM g.B=YH)(h3:B<=g.eb)(h4:B<=g.B)(h5:g.eb≠g.B)(y:∀ x∈r.eg,x.e.id≠g.e.id)(p:gO prog 3 w' m n' (Go.Proofs.YtolaacmheeaadaaGreatDoor.nI f (lM g.e.id) (U g.eb)) (if (f (lM g.e.id)).isSome then r.eg.length else r.eg.length+1))(o:w.grownBy w' (U m)):∃ q,DK w' d { r with eg:=r.eg++[g] } q/\Step (·=.me) B aM q w w'/\∀ k,aM k=YH->k≠g.eb->k≠g.B->q k=YH:=by
 have k:aH [m] w w':=⟨o.os,o.tape,o.output,o.size,fun i H hn=>o.block i H (by simpa using hn)⟩;have fp:Step (·=.me) B aM (jD aM [g.eb] .ent) w w':=wO k (fun x j=>.inl ⟨_,by simp at j;subst j;exact C,rfl⟩) (fun x j _=>by simp at j;omega);have R:jD aM [g.eb] .ent g.B=YH:=by unfold jD;rw[S];simp only;rw[Uy (by simpa using Ne.symm h5)]
 have F:Step (·=.me) B (jD aM [g.eb] .ent) (jD (jD aM [g.eb] .ent) [g.B] .span) w' w':=wO (G:=[]) (aH.refl _ _) Ui (fun x j _=>by simp at j;omega);have st:=fp.trans F;obtain⟨b1,b2,X,b4,E⟩:=h.base st Ui;have I:jD (jD aM [g.eb] .ent) [g.B] .span g.eb=U .ent:=Fp (wE Ui (fun c' z=>by rw[D] at z;cases z));have K:jD (jD aM [g.eb] .ent) [g.B] .span g.B=U .span:=wE Ui (fun c' z=>by rw[R] at z;cases z);have t:g.eb≠m/\g.B≠m:=⟨fun e=>(by rw[e,C] at D;cases D),fun e=>(by rw[e,C] at S;cases S)⟩;refine⟨_,⟨b1,b2,h.sS st (E 2) Ui,⟨m,nI f (lM g.e.id) (U g.eb),(E 3).trans z,st.ji _ _ C,?_,fun x=>?_⟩,h.sO st (E 4) Ui,h.sT st (E 5) (X 5) Ui,fun i H=>h.rN st i H Ui,fun x j=>?_,?_,?_,X,b4,fun x c j=>?_⟩,st,fun x j n1 n2=>?_⟩
 .rw[T,Fw y] at p;show gO _ _ _ _ (r.eg++[g]).length _ (r.eg++[g]).length;rw[VA];exact p.tight
 .show nI f (lM g.e.id) (U g.eb) (lM x)=jc (r.eg++[g]) x;rw[KG y]
  by_cases e:x=g.e.id
  .rw[e,vo,Uz rfl]
  .rw[vt f _ (fun e2=>e (Kt e2)),Uy e,T]
 .rcases Vb.1 j with j|j
  .exact h.sZ st Ui Ui x j
  .have:x=g:=by simpa using j
   subst this;exact⟨L.off k (by simpa using t.1) (by simpa using t.2),I,K⟩
 .show ((r.eg++[g]).map (·.eb)).Nodup;rw[VU,Vi];refine⟨h.nd,by simp,fun a P b A e=>?_⟩;obtain⟨x,j,rfl⟩:=VQ.1 P;have:=(h.en x j).2.1;simp at A;rw[e,A,D] at this;cases this
 .show ((r.eg++[g]).map (·.e.id)).Nodup;rw[VU,Vi];refine⟨h.ni,by simp,fun a P b A e=>?_⟩;obtain⟨x,j,rfl⟩:=VQ.1 P;simp at A;exact y x j (by rw[e,A])
 .rcases rI j with e|⟨_,e,_⟩
  .rcases rI e with e|⟨_,e,_⟩
   .exact zL (h.lt x c e) st.size
   .simp at e;subst e;exact zL L.lt st.size
  .simp at e;subst e;exact zL L.en.lt st.size
 .cases e:jD (jD aM [g.eb] .ent) [g.B] .span x with
  |none=>rfl
  |some c =>
   rcases rI e with e|⟨_,e,_⟩
   .rcases rI e with e|⟨_,e,_⟩
    .rw[j] at e;cases e
    .exact absurd (X9.1 e) n1
   .exact absurd (X9.1 e) n2
theorem DK.xj(h:DK w d r aM){f:Lit->Uu M}(E:w.cell? ⟨d,2,YH⟩=U (.map (U m)))(K:aM m=U .mt)(hf:∀ n,f (oV n)=mh r.tg n){t:TG}(ht:TH w t.tb t.name t.aN t.A t.T YH YH [] [])(R:aM t.tb=YH)(h3:B<=t.tb)(z:∀ x∈r.tg,x.name≠t.name)(p:gO prog 9 w' m n' (Go.Proofs.YtolaacmheeaadaaGreatDoor.nI f (oV t.name) (U t.tb)) (if (f (oV t.name)).isSome then r.tg.length else r.tg.length+1))(j:w.grownBy w' (U m)):∃ o,DK w' d { r with tg:=r.tg++[t] } o/\Step (·=.mt) B aM o w w'/\∀ k,aM k=YH->k≠t.tb->o k=YH:=by
 have k:aH [m] w w':=⟨j.os,j.tape,j.output,j.size,fun i P hn=>j.block i P (by simpa using hn)⟩;have st:Step (·=.mt) B aM (jD aM [t.tb] (.bH r.tg.length)) w w':=wO k (fun x g=>.inl ⟨_,by simp at g;subst g;exact K,rfl⟩) (fun x g _=>by simp at g;omega);obtain⟨b1,b2,b3,b4,F⟩:=h.base st Ui;have C:t.tb≠m:=fun e=>by rw[e,K] at R;cases R
 have I:jD aM [t.tb] (.bH r.tg.length) t.tb=U (.bH r.tg.length):=wE Ui (fun c' E=>by rw[R] at E;cases E);have q:mh r.tg t.name=YH:=by rw[vq];have:r.tg.find? (fun y=>aA.dI y.name t.name)=YH:=XL.2 (fun y hy=>by rw[Bool.not_eq_true,sL];exact z y hy);rw[this];rfl
 refine⟨_,⟨b1,b2,⟨m,nI f (oV t.name) (U t.tb),(F 2).trans E,st.ji _ _ K,?_,fun x=>?_⟩,h.uk st (F 3) Ui,h.sO st (F 4) Ui,h.sT st (F 5) (b3 5) Ui,fun i P=>?_,h.sZ st Ui Ui,h.nd,h.ni,b3,b4,fun x c g=>?_⟩,st,fun x g n1=>?_⟩
 .rw[hf,q] at p;show gO _ _ _ _ (r.tg++[t]).length _ (r.tg++[t]).length;rw[VA];exact p.tight
 .show nI f (oV t.name) (U t.tb) (oV x)=mh (r.tg++[t]) x;rw[b9k z]
  by_cases e:x=t.name
  .rw[e,vo,Uz rfl]
  .rw[vt f _ (fun D=>e (c2N D)),Uy e,hf]
 .have L:i<r.tg.length+1:=by simpa using P
  by_cases e:i<r.tg.length
  .have D:(r.tg++[t])[i]'(by simpa using L)=r.tg[i]:=YI e;show ∃ H G X S,TH w' (r.tg++[t])[i].tb _ _ _ _ H G X S/\_;rw[D];exact h.rN st i e Ui
  .have e3:i=r.tg.length:=O
   subst e3;have D:(r.tg++[t])[r.tg.length]'Ui=t:=Ui;show ∃ H G X S,TH w' (r.tg++[t])[r.tg.length].tb _ _ _ _ H G X S/\_;rw[D];refine⟨YH,YH,[],[],ht.off k (fun x g=>by simp at g;subst g;simpa using C),fun x g=>by simp at g;subst g;exact I⟩
 .rcases rI g with e|⟨_,e,_⟩
  .exact zL (h.lt x c e) st.size
  .simp at e;subst e;exact zL (ht.lt _ Ui) st.size
 .cases e:jD aM [t.tb] (.bH r.tg.length) x with
  |none=>rfl
  |some c =>
   rcases rI e with e|⟨_,e,_⟩
   .rw[g] at e;cases e
   .exact absurd (X9.1 e) n1
structure Gn(w T:UF)(B d Q:M)(s:St)(r:Raw)(aM:M->Uu bO)(g:EG)(r1:Raw)(c1:M->Uu bO):Prop where
 dk:DK T d r1 c1
 en:kv T (g.num (s.given+1))
 ce:c1 g.eb=UB
 cb:c1 g.B=UB
 st:Step anyS B aM c1 w T
 q7:Q7 T Q
 qc:c1 Q=UB
 of:Of (aA.lS s g.e).1 { r1 with given:=s.given+1,eg:=r1.eg++[g.num (s.given+1)] }
 wl:Wl { r1 with given:=s.given+1,eg:=r1.eg++[g.num (s.given+1)] }
 eg:r1.eg=r.eg
 hl:r1.hl=r.hl
def TL(w T:UF)(B d Q:M)(s:St)(r:Raw)(aM:M->Uu bO)(g:EG):Prop:=∃ c c1,Gn w T B d Q s r aM g c c1
structure nA(w:UF)(B d:M)(s:St)(r:Raw)(aM:M->Uu bO)(g:EG)(i:M):Prop where
 ds:eH w d s r aM
 en:kv w g
 ce:aM g.eb=UB
 cb:aM g.B=UB
 be:B<=g.eb
 bb:B<=g.B
 ne:g.eb≠g.B
 hB:B<=w
 hi:i<r.tg.length
 name:r.tg[i].name=g.e.bH
 tb:g.tb=r.tg[i].tb
 ok:jr s.now g.e
theorem nA.num{g:EG}(h:nA w B d s r aM g i)(n:N):jr s.now (g.num n).e:=⟨h.ok.u1,h.ok.u9,h.ok.sl,h.ok.s0,h.ok.sp,h.ok.ri,h.ok.kd⟩
theorem nA.fresh{g:EG}(h:nA w B d s r aM g i):∀ x∈r.eg,x.e.id≠(g.num (s.given+1)).e.id:=fun x c e=>by have:=(h.ds.inv.mZ _ (h.ds.of.mem c)).2;simp only[EG.num] at e;omega
structure Di(w Y:UF)(B d Q:M)(s:St)(r:Raw)(aM:M->Uu bO)(g:EG):Prop where
 dk:DK Y d r aM
 en:kv Y (g.num (s.given+1))
 st:Step anyS B aM aM w Y
 q7:Q7 Y Q
 ql:Q<Y
 qc:aM Q=UB
theorem nA.rR{g:EG}(h:nA w B d s r aM g i):Di w ((w.alloc bI).setCell (g.eb,0) (V UV (s.given+1))) B d w s r aM g:=by have f:UH w w (w.alloc bI):=aS;have o:=(h.en.off (G:=[]) (aH.aD f) Ui Ui);have k:=aH.bM g.eb (w.alloc bI) 0 (V UV (s.given+1));have j:=h.en.lt;refine⟨(h.ds.dk.later f).off k (fun x c=>?_),o.num h.ne _,(Step.below f).trans ⟨⟨_,k,fun x c=>.inr ?_⟩,fun _ _ h=>h,fun _ _ h=>.inl h⟩,(Q7.of (dH w bI)).later (k.block _ Ui Uo),VP Ui k.size,h.ds.dk.none aJ⟩;have:x=g.eb:=X9.1 c;subst this;exact h.ce;have:x=g.eb:=X9.1 c;subst this;exact⟨h.ce,h.be⟩
theorem nA.BH{g:EG}(h:nA w B d s r aM g i)(y:Di w Y B d Q s r aM g)(q:g.e.kind≠3)(t:DK w1 d (r.eI i ((r.tg[i]'h.hi).with (dK (r.tg[i]'h.hi).A g.e.aR g.e.aN) (jj (s.given+1) g.eb (r.tg[i]'h.hi).T g.e.aR))) c1)(f:Step (·=.bH i) Y aM c1 Y w1):TL w w1 B d Q s r aM g:=by have j:=y.en.lt;have c:=y.en.en.lt;have o:=(h.ds.of.comes h.ds.inv.tn (g:=g.num (s.given+1)) h.fresh q h.ok.ri h.hi h.name h.tb (s.given+1)).1;refine⟨_,c1,t,f.vI y.en (.inr ⟨h.ce,j⟩) (.inr ⟨h.cb,c⟩),f.dY h.ce j,f.dY h.cb c,y.st.trans (f.any (U0 h.hB y.st.size)),y.q7.later (f.cS y.ql y.qc y.ql),f.dY y.qc y.ql,?_,?_,rfl,rfl⟩;exact⟨o.now,o.given,o.ts,o.es,o.th,o.tb⟩;exact h.ds.wl.comes (g:=g.num (s.given+1)) q
theorem nA.waits{g:EG}(h:nA w B d s r aM g i)(y:Di w Y B d Q s r aM g)(t:g.e.kind=3)(z:DK w1 d { r with wl:=r.wl++[g.eb] } c1)(j:Step (fun c=>c=.wa\/c=.desk) Y aM c1 Y w1):TL w w1 B d Q s r aM g:=by have q:=y.en.lt;have f:=y.en.en.lt;have o:=h.ds.of.nP (g:=g.num (s.given+1)) h.fresh t h.hi h.name h.tb (s.given+1);refine⟨_,c1,z,j.vI y.en (.inr ⟨h.ce,q⟩) (.inr ⟨h.cb,f⟩),j.dY h.ce q,j.dY h.cb f,y.st.trans (j.any (U0 h.hB y.st.size)),y.q7.later (j.cS y.ql y.qc y.ql),j.dY y.qc y.ql,?_,?_,rfl,rfl⟩;exact⟨o.now,o.given,o.ts,o.es,o.th,o.tb⟩;exact h.ds.wl.nP (g:=g.num (s.given+1)) t
structure TL2(w T:UF)(B d Q:M)(s:St)(r:Raw)(aM:M->Uu bO)(g:EG)(r2:Raw)(c2:M->Uu bO):Prop where
 dk:DK T d r2 c2
 mem:g.num (s.given+1)∈r2.eg
 st:Step anyS B aM c2 w T
 q7:Q7 T Q
 ql:Q<T
 qc:c2 Q=UB
 of:Of (aA.lS s g.e).1 r2
 wl:Wl r2
 eg:r2.eg=r.eg++[g.num (s.given+1)]
 hl:r2.hl=r.hl
theorem Gn.store{T:UF}{g:EG}{C:Raw}(t:Gn w T B d w s r aM g C c1)(a:nA w B d s r aM g i):
  ∃ m,(T.setCell (d,1) (V UV (s.given+1))).cell? (d,3)=U (.map (U m))/\(T.setCell (d,1) (V UV (s.given+1))).cell? (g.eb,0)=U (V UV (s.given+1)) /\∃ w3,(YJ 87 (.map (U m)) (V UV (s.given+1)) g.eb).run prog (T.setCell (d,1) (V UV (s.given+1))).drew=.ok () w3/\∃ S c2,TL2 w w3 B d w s r aM g S c2:=by
 obtain⟨h,c⟩:=t.dk.pW (s.given+1);have z:=t.dk.dc;have E:g.eb≠d:=fun e=>by have:=t.ce;rw[e,z] at this;cases this
 have F:g.B≠d:=fun e=>by have:=t.cb;rw[e,z] at this;cases this
 have k0:=aH.bM d T 1 (V UV (s.given+1));have A:=t.en.off k0 (by simpa[EG.num] using E) (by simpa[EG.num] using F);have y:=t.q7.later (c.cS (U1 _ _ t.q7.q0) t.qc (U1 _ _ t.q7.q0));have j:=t.st.trans (c.any (U0 a.hB t.st.size));generalize T.setCell (d,1) (V UV (s.given+1))=T1 at *;obtain⟨m,f,R,P,a3,a4⟩:=h.me;have ab:=a.ds.inv.g0;have aa:=a.ds.inv.g1;have kk:=yq (n:=s.given+1) O O;have L:C.eg.length<=60:=by
  have h2:r.eg.length=s.es.length:=by rw[<- a.ds.of.es];simp
  have h3:=kS a.ds.bA;rw[t.eg];omega
 obtain⟨w3,o,X,K⟩:=(a3.block (w':=T1.drew) rfl).mG yh underlying87 (by unfold maxLen;show C.eg.length<_;omega) kk (by unfold lM;trivial) g.eb;have d1:=h.later (eN T1);have I:=A.off (G:=[]) (aH.aD (eN T1)) Ui Ui;obtain⟨c2,e1,e2,e3⟩:=d1.xk (g:=g.num (s.given+1)) (B:=B) R P a4 I t.ce t.cb a.be a.bb a.ne (fun x hx=>a.fresh x (by rw[<- t.eg];exact hx)) X K;have D:=U1 _ _ y.q0;have H:w≠m:=fun e=>by have:=t.qc;rw[e,P] at this;cases this
 have hb:=K.block _ D (fun e=>H (Wq e));have q:=y.later hb;refine⟨m,R,A.en.c0,w3,o,_,c2,e1,List.mem_append_right _ (X9.2 rfl),(j.trans (Step.below (eN T1))).trans (e2.mono (fun _ _=>trivial) aJ),q,U1 _ _ q.q0,?_,t.of,t.wl,?_,t.hl⟩;exact e3 _ t.qc (fun e=>by have:=a.en.lt;rw[show (g.num (s.given+1)).eb=g.eb from rfl] at e;omega) (fun e=>by have:=a.en.en.lt;rw[show (g.num (s.given+1)).B=g.B from rfl] at e;omega);show C.eg++[_]=_;rw[t.eg]
theorem J5(h:DK w d r aM)(o:Hp.iP r.hl)(hl:r.hl.length<=900)(g:EG):UI prog 185 #[UM (U ⟨d,5,UB⟩),g.e.bY,g.e.id,g.eb] w fun e w'=>e=UW (US #[])/\∃ (j:J Hp.Hi) (f:M->Uu bO),Hp.iP j/\j.Perm (r.hl++[jW g])/\DK w' d { r with hl:=j } f/\Step (fun c=>c=.he\/c=.desk) w aM f w w':=by
 let⟨v,a1,a2⟩:=h.he;refine aK (c3d d 5 v r.hl (jW g) w a1 o hl) ?_;rintro w' ⟨j,p,t,q⟩;let⟨f,k1,k2⟩:=h.heap a2 p;exact⟨rfl,j,f,t,q,k1,k2⟩
theorem b8F{g:EG}(h:nA w B d s r aM g i)(ae:s.given<60)(hk:g.e.kind≠3):UI prog 149 #[d,g.eb] w fun e w'=>∃ v,e=UW v/\nY w B d aM (jO s g.e) v w':=by
 have hX:UH w w (w.alloc bI):=aS;have y:=aB h.rR;have cg:=(h.ds.dk.later hX).c1;rw[h.ds.of.given] at cg;have F:=(h.en.off (G:=[]) (aH.aD hX) Ui Ui);have ck:=F.k;have ci:=F.en.c0;have fi:=F.fz 0;have ct:=F.en.c1;have af:=h.ds.inv.g0;have ac:UV.wrap (s.given+1)=s.given+1:=dJ O O;have HN:Hid (r.hl.length<=900):=by
  have h1:=h.ds.hl.len;have h2:r.eg.length=s.es.length:=by rw[<- h.ds.of.es];simp
  have h3:=kS h.ds.bA;show _<=_;omega
 have f:=aB h;have ad:(g.e.kind==3)=UD:=by simpa using hk
 have hm:=h.ds.bA;have hi:=h.hi;have E:=Lg hm h.ds.of (e:=(g.num (s.given+1)).e) h.ok.sp h.ok.u1 hi h.name;have c:=Ec hm h.ds.of (h.num (s.given+1)) hi;have D:=EF hm h.ds.of hi;have H:=(h.ds.of.comes h.ds.inv.tn (g:=g.num (s.given+1)) h.fresh hk h.ok.ri hi h.name h.tb (s.given+1)).2;have R:=aB (Vf E (Vf c (Vf D H)));clear h hX F hm E c D H;go_in;go_upto_region 1 with fail;change YD _ _ _ _ (w.alloc bI);generalize w.alloc bI=X at *;go_upto_region 6 with fail;have cy:(X.setCell (g.eb,0) (V UV (s.given+1))).cell? (g.eb,2)=U ↑g.tb:=y.en.en.c1;generalize X.setCell (g.eb,0) (V UV (s.given+1))=Y at y cy ⊢;clear cg ck ci fi ct
 cases c:aA.eT s.ts s.es g.e.bH g.e.aN g.e.aR with
 |false =>
  have HD:Hid (jO s g.e=(s,aA.bS.error 8)):=by unfold jO;rw[Uy O,Uz ⟨hk,c⟩];rfl
  have TA:=aB (J6 y.dk i f.hi y.en f.tb (by show aM g.eb≠_;rw[f.ce];simp) (by show aM g.B≠_;rw[f.cb];simp) R.2.1 (by rw[R.1];exact c));clear c;go_wp21;refine TA.mono ?_;rintro e I ⟨rfl,P,C,z⟩;have Q1:Hid (Q7 I w.heap.size/\P w=UB):=⟨y.q7.later (z.cS y.ql y.qc y.ql),z.dY y.qc y.ql⟩;have P1:Hid (DK I d r P/\Step anyS B aM P w I):=⟨C,y.st.trans (z.any (U0 f.hB y.st.size))⟩;clear C z TA cy;go_wp21;refine aK (ly 8 I) fun w1 hb=>?_;have hq:=hb.block w (U1 _ _ Q1.1.q0);have HF:Hid (nY w B d aM (jO s g.e) (bT 8 0 0 () () () ()) (dE w1 w (V UV 8) (V UV 0) (V UV 0) () () () ())):=by rw[HD];exact ve (P1.1.later hb) f.ds.of f.ds.wl f.ds.hl (P1.2.trans (Step.below hb)) f.hB Q1.2 8 0 _ _ _ _ _ _ _
  obtain⟨q0,C,z,q3,q4,q5,q6,fq⟩:=Q1.1.later hq;simp only[bT];go_wp21;exact cV results149 ⟨q0,C,z,q3,q4,q5,q6,fq⟩ ⟨_,rfl,HF⟩
 |true =>
  have HD:Hid (jO s g.e=aA.lS s g.e):=by unfold jO;rw[Uy O,Uy (by rw[c];simp)];rfl
  have TA:=aB (Lq y.dk i f.hi y.en f.tb (by show aM g.eb≠_;rw[f.ce];simp) (by show aM g.B≠_;rw[f.cb];simp) R.2.1 ⟨R.2.2.1.1,R.2.2.1.2,R.2.2.2,F8 f.ok.ri⟩ (by rw[R.1];exact c));clear c;go_wp21;refine TA.mono ?_;rintro e I ⟨rfl,P,C,z⟩;have TT:Hid (TL w I B d w s r aM g):=f.BH y hk C z;clear C z TA cy P;by_cases K:g.e.kind=1
  .obtain⟨r1,c1,A⟩:=TT;have P:I.cell? (g.eb,0)=U (V UV (s.given+1)):=A.en.en.c0;have d1:=A.dk.c1;have f1:=A.dk.fz 1;obtain⟨m,s1,T,w3,q,r2,c2,S⟩:=A.store f;have j:=aB S;clear A S
   go_upto_region 9 with fail;generalize I.setCell (d,1) (V UV (s.given+1))=T1 at s1 T q ⊢;clear P d1 f1;go_big_region;clear q s1 T;obtain⟨L,e2,e3⟩:=j.dk.en _ j.mem;have k0:w3.cell? (g.eb,0)=U (V UV (s.given+1)):=L.en.c0;have k1:w3.cell? (g.eb,1)=U ↑g.e.kind:=L.k;have k5:w3.cell? (g.eb,5)=U ↑g.e.bY:=L.u;clear L e2 e3;have aa:(g.e.kind != 1)=UD:=by simpa using K
   have HF:Hid (nY w B d aM (jO s g.e) (bT 0 0 (s.given+1) () () () ()) (dE w3 w (V UV 0) (V UV 0) (V UV (s.given+1)) () () () ())):=by rw[HD];have t:=j.out;refine ve t.dk t.of t.wl ?_ t.st f.hB t.qc 0 (s.given+1) _ _ _ _ _ _ _;have hh:=f.ds.hl.uF (g:=g.num (s.given+1)) K;unfold Hl at hh ⊢;rw[t.eg,t.hl];exact hh
   obtain⟨q0,C,z,q3,q4,q5,q6,fq⟩:=j.q7;go_wp21;exact cV results149 ⟨q0,C,z,q3,q4,q5,q6,fq⟩ ⟨_,rfl,HF⟩
  .obtain⟨r1,c1,A⟩:=TT;have P:I.cell? (g.eb,0)=U (V UV (s.given+1)):=A.en.en.c0;have d1:=A.dk.c1;have f1:=A.dk.fz 1;obtain⟨m,s1,T,w3,q,r2,c2,S⟩:=A.store f;have j:=aB S;clear A S
   go_upto_region 9 with fail;generalize I.setCell (d,1) (V UV (s.given+1))=T1 at s1 T q ⊢;clear P d1 f1;go_big_region;clear q s1 T;obtain⟨L,e2,e3⟩:=j.dk.en _ j.mem;have k0:w3.cell? (g.eb,0)=U (V UV (s.given+1)):=L.en.c0;have k1:w3.cell? (g.eb,1)=U ↑g.e.kind:=L.k;have k5:w3.cell? (g.eb,5)=U ↑g.e.bY:=L.u;clear L e2 e3;have aa:(g.e.kind != 1)=UE:=by simpa using K
   have PU:=aB (fun wx (k:UH w3 w3 wx)=>J5 (j.dk.later k) (by rw[j.hl];exact f.ds.hl.1) (by rw[j.hl];exact HN) (g.num (s.given+1)));go_upto_region 11 with fail;go_region_held3 (fun w'=>w'.cell? (g.eb,0)=U (V UV (s.given+1))/\w'.cell? (g.eb,5)=U ↑g.e.bY)
    (first
     |exact⟨k0,k5⟩
     |exact⟨((p3.en _ j.mem).1).en.c0,((p3.en _ j.mem).1).u⟩)
    (first
     |(go_at_call 185;refine aK (PU _ (eN w3)) ?_;rintro w4 ⟨l',c3,p1,p2,p3,p4⟩))
   have ab:w4.cell? (g.eb,0)=U (V UV (s.given+1)):=((p3.en _ j.mem).1).en.c0;have hq:=p4.cS j.ql j.qc j.ql;have HF:Hid (nY w B d aM (jO s g.e) (bT 0 0 (s.given+1) () () () ()) (dE w4 w (V UV 0) (V UV 0) (V UV (s.given+1)) () () () ())):=by rw[HD];have t:=j.out;have o:=t.of;refine ve p3 ⟨o.now,o.given,o.ts,o.es,o.th,o.tb⟩ t.wl ?_ ((t.st.trans (Step.below (eN w3))).trans (p4.any (U0 f.hB t.st.size))) f.hB (p4.dY t.qc t.ql) 0 (s.given+1) _ _ _ _ _ _ _;have hh:=f.ds.hl.comes (g:=g.num (s.given+1)) K p1 (by rw[<- t.hl];exact p2);unfold Hl at hh ⊢;show _/\List.Perm l' ((r2.eg.filter _).map _);rw[t.eg];exact hh
   clear p1 p2 p3 p4 PU k0 k1 k5;obtain⟨q0,C,z,q3,q4,q5,q6,fq⟩:=j.q7.later hq;go_wp21;exact cV results149 ⟨q0,C,z,q3,q4,q5,q6,fq⟩ ⟨_,rfl,HF⟩
theorem S9:(prog.info? 194).map (fun i=>(i.zero,i.size,i.bytes))=U (U (UM UB),1,8):=Um
theorem b8E{g:EG}(h:nA w B d s r aM g i)(an:s.given<60)(P:g.e.kind=3)(aj:r.wl.length<6):UI prog 149 #[d,g.eb] w fun e w'=>∃ v,e=UW v/\nY w B d aM (jO s g.e) v w':=by
 have hX:UH w.heap.size w (w.alloc bI):=(zr _ _).alloc (zq _) _;have YY:=aB h.rR;have cg:=(h.ds.dk.later hX).c1;rw[h.ds.of.given] at cg;have q:=(h.en.off (G:=[]) (aH.aD hX) Ui Ui);have ck:=q.k;have ci:=q.en.c0;have fi:=q.fz 0;have ct:=q.en.c1;have ao:=h.ds.inv.g0;have ak:UV.wrap (s.given+1)=s.given+1:=dJ O O;have HN:Hid (r.hl.length<=900):=by
  have h1:=h.ds.hl.len;have h2:r.eg.length=s.es.length:=by rw[<- h.ds.of.es];simp
  have h3:=kS h.ds.bA;show _<=_;omega
 have H:=aB h;obtain⟨i0,ad,ac,ab,aa⟩:=info_parts S9;obtain⟨v4,c4,f,E⟩:=h.rR.dk.wa;have ae:(w.alloc bI).cell? ⟨d,4,UB⟩=U v4:=by rw[<- c4];exact (zS _ _ _ _ Ui).symm
 obtain⟨a,cap,rfl⟩:=lz f;have ai:=h.ds.wl.fH h.ds.of;have T:=h.rR.dk.fz 4;have O4:=aB (Vf f E);have R:=U1 _ _ c4;have D:d ∉ (UO a r.wl.length cap).ownBlock.toList:=fun e=>by have:=E _ (Wn.1 e);rw[h.ds.dk.dc] at this;cases this
 rw[P] at ck;clear h hX q f E;go_in;go_upto_region 1 with fail;change YD _ _ _ _ (w.alloc bI);generalize w.alloc bI=X at *;have HD:Hid (jO s g.e=aA.lS s g.e):=by unfold jO;rw[Uy O,Uy (by simp[P])];rfl
 go_upto_region 5 with fail;generalize X.setCell ⟨g.eb,0,UB⟩ (V UV (s.given+1))=Y at *;clear cg ck ci fi ct ae;go_upto_region 8 with (first
  |(at_builtin;refine wpList_append_lies _ rfl _ _ 88 rfl 0 194 i0 _ 1 8 underlying88 ad ac ab aa rfl Uj _ _ _ rfl (O4.out.1.alloc _) ⟨Y.heap.size,0,UB⟩ 1 1 [jX g.eb] rfl rfl (World.news_of_block (cs:=#[jX g.eb]) (dH Y _)) (by simp[jX,Value.oneCell']) O Up O Ui (Y.heap.size+1) Ui ?_;intro F t w1 z j S al;have kk:aH ((UO a r.wl.length cap).ownBlock.toList) Y w1:=aH.grown ((aH.refl _ Y).alloc _) j (fun k P=>.inl (Wn.2 P));have z1:=kk.cell D c4;have z2:=(kk.frozen (o:=4) D R).trans T;clear j))
 have A:(UO a r.wl.length cap).ownBlock=U F\/F=Y.heap.size+1:=S;have SW:=aB (YY.out.dk.lC (wl':=r.wl++[g.eb]) (v':=UO (U ⟨F,0,UB⟩) (r.wl.length+1) t) O4.out.2 kk (by rw[VA,VU];exact z) (fun b hb=>by
  have:F=b:=by simpa[V9] using hb
  subst this;rcases A with e|e
  .exact .inl e
  .exact .inr O))
 have TT:Hid (TL w (w1.setCell ⟨d,4,UB⟩ (UO (U ⟨F,0,UB⟩) (r.wl.length+1) t)) B d w.heap.size s r aM g):=by obtain⟨c1,q1,q2⟩:=SW.out;exact H.out.waits YY.out P q1 q2
 clear z kk S A z1 z2 SW O4 c4 T;have L:g.e.kind≠1:=O;clear D R;generalize w1.setCell ⟨d,4,UB⟩ (UO (U ⟨F,0,UB⟩) (r.wl.length+1) t)=w0 at TT ⊢;obtain⟨r1,c1,I⟩:=TT.out;have c0:w0.cell? ⟨g.eb,0,UB⟩=U (V UV (s.given+1)):=I.en.en.c0;have d1:=I.dk.c1;have f1:=I.dk.fz 1;obtain⟨m,s1,s2,w3,y,r2,c2,t2⟩:=I.store H.out;have c:=aB t2;clear I t2;go_upto_region 9 with fail;generalize w0.setCell ⟨d,1,UB⟩ (V UV (s.given+1))=T1 at s1 s2 y ⊢;clear c0 d1 f1;go_big_region;clear y s1 s2;obtain⟨e1,e2,e3⟩:=c.out.dk.en _ c.out.mem;have k0:w3.cell? ⟨g.eb,0,UB⟩=U (V UV (s.given+1)):=e1.en.c0;have k1:w3.cell? ⟨g.eb,1,UB⟩=U (V UV g.e.kind):=e1.k;have k5:w3.cell? ⟨g.eb,5,UB⟩=U (V UV g.e.bY):=e1.u;clear e1 e2 e3;have af:(g.e.kind != 1)=UE:=by simpa using L
 have PU:=aB (fun wx (k:UH w3.heap.size w3 wx)=>J5 (c.out.dk.later k) (by rw[c.out.hl];exact H.out.ds.hl.1) (by rw[c.out.hl];exact HN.out) (g.num (s.given+1)));go_upto_region 11 with fail;go_region_held3 (fun w'=>w'.cell? ⟨g.eb,0,UB⟩=U (V UV (s.given+1))/\w'.cell? ⟨g.eb,5,UB⟩=U (V UV g.e.bY))
  (first
   |exact⟨k0,k5⟩
   |exact⟨((K.en _ c.out.mem).1).en.c0,((K.en _ c.out.mem).1).u⟩)
  (first
   |(go_at_call 185;refine (PU.out _ (eN w3)).mono ?_;rintro e w4 ⟨rfl,l',c3,p1,p2,K,p4⟩))
 have ag:w4.cell? ⟨g.eb,0,UB⟩=U (V UV (s.given+1)):=((K.en _ c.out.mem).1).en.c0;have hq:=p4.cS c.out.ql c.out.qc c.out.ql;have HF:Hid (nY w B d aM (jO s g.e) (bT 0 0 (s.given+1) (UO UB 0 0) (UO UB 0 0) (UO UB 0 0) (UO UB 0 0)) (dE w4 w.heap.size (V UV 0) (V UV 0) (V UV (s.given+1)) (UO UB 0 0) (UO UB 0 0) (UO UB 0 0) (UO UB 0 0))):=by rw[HD.out];have C:=c.out;have o:=C.of;refine ve K ⟨o.now,o.given,o.ts,o.es,o.th,o.tb⟩ C.wl ?_ ((C.st.trans (Step.below (eN w3))).trans (p4.any (U0 H.out.hB C.st.size))) H.out.hB (p4.dY C.qc C.ql) 0 (s.given+1) _ _ _ _ _ _ _;have hh:=H.out.ds.hl.comes (g:=g.num (s.given+1)) L p1 (by rw[<- C.hl];exact p2);unfold Hl at hh ⊢;show _/\List.Perm l' ((r2.eg.filter _).map _);rw[C.eg];exact hh
 clear p1 p2 K p4 PU k0 k1 k5;obtain⟨q0,q1,q2,q3,q4,q5,q6,fq⟩:=c.out.q7.later hq;go_wp2_with fail;exact cV results149 ⟨q0,q1,q2,q3,q4,q5,q6,fq⟩ ⟨_,rfl,HF.out⟩
theorem Fx{g:EG}(h:nA w B d s r aM g i):UI prog 149 #[d,g.eb] w fun e w'=>∃ v,e=UW v/\nY w B d aM (jO s g.e) v w':=by
 by_cases q:s.given=60\/g.e.kind=3/\aA.fH s.es=6
 .exact b8G h.ds h.en h.hB q
 .have o:=h.ds.inv.g1;have j:=h.ds.inv.wa;have f:=h.ds.wl.fH h.ds.of
  by_cases c:g.e.kind=3
  .exact b8E h O c O
  .exact b8F h O c
theorem M5(h:gH s name u fr til≠0):aA.aX s (.enter k name u fr til long)=(s,aA.bS.error (gH s name u fr til)):=by
 have e:aA.qK s k name u fr til long=gH s name u fr til:=by
  unfold aA.qK gH at *;by_cases c:aA.eW s.ts name u≠0
  .rw[Uz c,Uz c]
  .rw[Uy c] at h ⊢;rw[Uy c]
   by_cases f:til<=fr
   .rw[Uz f,Uz (.inl f)]
   .rw[Uy f] at h;omega
 simp only[aA.aX,e];rw[Uz h]
theorem uc(h:gH s name u fr til=0):aA.eW s.ts name u=0/\fr<til:=by grind[gH,aA.eW]
theorem a9H(h:gH s name u fr til=0)(c:1048320<s.now+long):aA.aX s (.enter k name u fr til long)=(s,aA.bS.error 6):=by
 let⟨h1,h2⟩:=uc h;have e:aA.qK s k name u fr til long=6:=by unfold aA.qK;rw[Uy O,Uz (.inr c)]
 simp only[aA.aX,e];rw[Uz O]
theorem Mb(h:gH s name u fr til=0)(y:s.now+long<=1048320):aA.aX s (.enter k name u fr til long)=jO s (aA.qE s k name u fr til long):=by
 let⟨h1,h2⟩:=uc h;simp only[aA.aX];unfold aA.qK jO;rw[Uy (c:=aA.eW s.ts name u≠0) O,Uy (c:=til<=fr\/1048320<s.now+long) O];have t:(aA.qE s k name u fr til long).kind=k:=rfl;have q:(aA.qE s k name u fr til long).bH=name:=rfl;have o:(aA.qE s k name u fr til long).aN=u:=rfl;have es:(aA.qE s k name u fr til long).aR=[(fr,til)]:=rfl;rw[t,q,o,es];by_cases f:s.given=60
 .simp[f]
 .by_cases g:k=3
  .by_cases j:aA.fH s.es=6
   .simp[f,g,j]
   .simp[f,g,j]
  .cases aA.eT s.ts s.es name u [(fr,til)] <;> simp[f,g]
def Jg(k:N)(name:Us)(u fr til un:N)(c f:M):EG:=⟨⟨0,k,name,u,[(fr,til)],un⟩,c+1,c,1,f⟩
theorem eH.asks(h:eH w d s r aM)(y:UH w.heap.size w w1){un:N}(A:i<r.tg.length)(c:r.tg[i].name=name)(ok:jr s.now ⟨0,k,name,u,[(fr,til)],un⟩):nA ((w1.alloc (UX #[V UV fr,V UV til] 83)).alloc (UX #[V UV 0,V UV k,UM (U ⟨r.tg[i].tb,0,UB⟩),V UV u,UO (U ⟨w1.heap.size,0,UB⟩) 1 1,V UV un] 197)) w1.heap.size d s r aM (Jg k name u fr til un w1.heap.size r.tg[i].tb) i:=by
 have t:UH w1.heap.size w1 ((w1.alloc (UX #[V UV fr,V UV til] 83)).alloc (UX #[V UV 0,V UV k,UM (U ⟨r.tg[i].tb,0,UB⟩),V UV u,UO (U ⟨w1.heap.size,0,UB⟩) 1 1,V UV un] 197)):=((zr _ _).alloc (zq _) _).alloc Ui _;have g:=h.dk.later y;have eb:((w1.alloc (UX #[V UV fr,V UV til] 83)).alloc (UX #[V UV 0,V UV k,UM (U ⟨r.tg[i].tb,0,UB⟩),V UV u,UO (U ⟨w1.heap.size,0,UB⟩) 1 1,V UV un] 197)).heap[w1.heap.size+1]?=U (UX #[V UV 0,V UV k,UM (U ⟨r.tg[i].tb,0,UB⟩),V UV u,UO (U ⟨w1.heap.size,0,UB⟩) 1 1,V UV un] 197 (0,0)):=by have:=dH (w1.alloc (UX #[V UV fr,V UV til] 83)) (UX #[V UV 0,V UV k,UM (U ⟨r.tg[i].tb,0,UB⟩),V UV u,UO (U ⟨w1.heap.size,0,UB⟩) 1 1,V UV un] 197);rwa [Wp] at this
 have q:((w1.alloc (UX #[V UV fr,V UV til] 83)).alloc (UX #[V UV 0,V UV k,UM (U ⟨r.tg[i].tb,0,UB⟩),V UV u,UO (U ⟨w1.heap.size,0,UB⟩) 1 1,V UV un] 197)).heap[w1.heap.size]?=U (UX #[V UV fr,V UV til] 83 (0,0)) :=(Below.heap_alloc _ _ _ Ui).trans (dH w1 _)
 have C:((w1.alloc (UX #[V UV fr,V UV til] 83)).alloc (UX #[V UV 0,V UV k,UM (U ⟨r.tg[i].tb,0,UB⟩),V UV u,UO (U ⟨w1.heap.size,0,UB⟩) 1 1,V UV un] 197)).heap.size=w1.heap.size+2:=Ui;generalize (w1.alloc (UX #[V UV fr,V UV til] 83)).alloc (UX #[V UV 0,V UV k,UM (U ⟨r.tg[i].tb,0,UB⟩),V UV u,UO (U ⟨w1.heap.size,0,UB⟩) 1 1,V UV un] 197)=Z at *;refine⟨⟨g.later t,h.of,h.wl,h.hl,h.inv⟩,⟨⟨?_,?_,?_,?_,fun j z=>?_,?_⟩,?_,?_,fun o=>frozen_of_row _ _ _ _ _ eb,⟨_,eb⟩⟩,g.none (YK _),g.none (zq _),YK _,Nat.le_refl _,(by show w1.heap.size+1≠w1.heap.size;omega),t.size,A,c,rfl,ok⟩
 .show Z.cell? ⟨w1.heap.size+1,0,UB⟩=_;simp only[Vk,eb];rfl
 .show Z.cell? ⟨w1.heap.size+1,2,UB⟩=_;simp only[Vk,eb];rfl
 .show Z.cell? ⟨w1.heap.size+1,3,UB⟩=_;simp only[Vk,eb];rfl
 .show Z.cell? ⟨w1.heap.size+1,4,UB⟩=_;simp only[Vk,eb];rfl
 .have f:j=0:=by simp[Jg] at z;omega
  subst f;constructor
  .show Z.cell? ⟨w1.heap.size,0,UB⟩=_;simp only[Vk,q];rfl
  .show Z.cell? ⟨w1.heap.size,1,UB⟩=_;simp only[Vk,q];rfl
 .show w1.heap.size<_;omega
 .show Z.cell? ⟨w1.heap.size+1,1,UB⟩=_;simp only[Vk,eb];rfl
 .show Z.cell? ⟨w1.heap.size+1,5,UB⟩=_;simp only[Vk,eb];rfl
theorem nY.uN{t:UF}{q:St × aA.bS}(h:nY Z B d aM q v t)(st:Step anyS w aM aM w Z)(K:w<=B)(I:w<=Q)(o:Q<B)(z:aM Q=UB)(A:Q7 Z Q):∃ j n:N,v=bT j 0 n () () () ()/\Q7 t Q/\∀ a b c e f g i,eu w d aM q (bT j 0 n () () () ()) (dE t Q a b c e f g i):=by
 obtain⟨j,n,L,C,rfl,P,G,F,E,D,y⟩:=h;have H:=U1 _ _ A.q0;refine⟨j,n,rfl,A.later (y.cS H z o),fun a b c e f g i=>?_⟩;have:q=(q.1,⟨j,0,n,[],[],[],[]⟩):=Uo;rw[this];exact wH G F E D (st.trans (y.any K)) I (y.dY z o) j n a b c e f g i
theorem c3F(h:eH w d s r aM)(name:Us)(hn:name.size<=1000)(u fr til:N)(z:aA.ke (.enter 1 name u fr til 0)):UI prog 100 #[d,UT #[name,u,fr,til]] w fun e w'=>∃ v,e=UW v/\eu w d aM (aA.aX s (.enter 1 name u fr til 0)) v w':=by
 obtain⟨T,j,c,aa⟩:=qR w (UX #[name,u,fr,til] 148);have AK:=aB (wM (h.dk.later T) h.of h.bA name hn u fr til);have A:=aB h;have t:=aB (Vf T j);have xa:=bN c 0 rfl;have F:=bN c 1 rfl;have E:=bN c 2 rfl;have D:=bN c 3 rfl;clear h T j c;go_in;go_upto_region 1 with fail;change YD _ _ _ _ ((w.alloc (UX #[name,u,fr,til] 148)).alloc bI);generalize (w.alloc (UX #[name,u,fr,til] 148)).alloc bI=X at *;go_wp21;refine AK.mono ?_;rintro e w1 ⟨hp,f⟩;have y:=t.1.trans (f.mono t.1.size);have QX:=(Q7.of t.2).later (f.block _ aa);rcases hp with ⟨g,rfl⟩|⟨g,i,hi,e1,e2,rfl⟩
 .have HD:=aB (M5 (k:=1) (long:=0) g);generalize gH s name u fr til=o at *;have ab:(o != 0)=UE:=bZ g
  clear g AK t f xa F E D;go_wp21;refine aK (ly o w1) fun w2 S=>?_;have C:=aB (A.refuse y QX S HD);obtain⟨R,P,L,K,I,H,G,fq⟩:=C.1;simp only[bT];go_wp21;exact cV results100 ⟨R,P,L,K,I,H,G,fq⟩ ⟨_,rfl,C.2⟩
 .have HD:=aB (Mb (k:=1) (long:=0) g (by have:=A.inv.n1;omega));have y1:=(zo (w:=X) (a:=(w,1)) (f.block w O)).trans F;have y2:=(zo (w:=X) (a:=(w,2)) (f.block w O)).trans E;have y3:=(zo (w:=X) (a:=(w,3)) (f.block w O)).trans D;have EN:=aB (Fx (A.asks y (k:=1) (u:=u) (fr:=fr) (til:=til) (un:=0) hi e1 ⟨z.2.1,z.2.2.1,(by show 1<=40;omega),Ui,(by intro q hq;have:q=(fr,til):=X9.1 hq;subst this;have:=(uc g).2;exact⟨z.2.2.2.1,this,z.2.2.2.2.2.2⟩),YL _ _,.inl ⟨rfl,rfl⟩⟩));have AL:Hid (UH w1 w1 ((w1.alloc (UX #[fr,til] 83)).alloc (UX #[V UV 0,V UV 1,UM (U ⟨r.tg[i].tb,0,UB⟩),u,UO w1 1 1,V UV 0] 197))):=aS.alloc Ui _;have QL:Hid (w+1<w1.heap.size):=U1 _ _ QX.q0;clear g AK t f xa F E D e1 e2
  go_wp21;refine EN.mono ?_;rintro e w2 ⟨v,rfl,ep⟩;obtain⟨o,n,rfl,q7,hf⟩:=ep.uN (Q:=(w.heap.size+1)) (Step.below (y.trans (AL.mono y.size))) y.size O QL (A.dk.none O) (QX.later (AL.block _ QL));have C:Hid (eu w d aM (aA.aX s (.enter 1 name u fr til 0)) (bT o 0 n () () () ()) (dE w2 (w.heap.size+1) (V UV o) (V UV 0) (V UV n) () () () ())):=by rw[HD];exact hf _ _ _ _ _ _ _
  clear ep hf EN;obtain⟨R,P,L,K,I,H,G,fq⟩:=q7;simp only[bT];go_wp21;exact cV results100 ⟨R,P,L,K,I,H,G,fq⟩ ⟨_,rfl,C⟩
theorem MF(h:eH w d s r aM)(k:N)(hk:k=2\/k=3)(name:Us)(hn:name.size<=1000)(u fr til long:N)(K:aA.ke (.enter k name u fr til long)):UI prog 150 #[d,k,UT #[name,u,fr,til],long] w fun e w'=>∃ v,e=UW v/\eu w d aM (aA.aX s (.enter k name u fr til long)) v w':=by
 obtain⟨hX,L,c,aa⟩:=qR w (UX #[name,u,fr,til] 145);have x0:=bN c 0 rfl;have x1:=bN c 1 rfl;have x2:=bN c 2 rfl;have T:=bN c 3 rfl;have AK:=aB (wM (h.dk.later hX) h.of h.bA name hn u fr til);have j:=aB h;have A:=aB (Vf hX L);clear h hX L c;go_in;go_upto_region 1 with fail;change YD _ _ _ _ ((w.alloc (UX #[name,u,fr,til] 145)).alloc bI);generalize (w.alloc (UX #[name,u,fr,til] 145)).alloc bI=X at *;go_wp21;refine AK.mono ?_;rintro e w1 ⟨hp,g⟩;have z:=A.1.trans (g.mono A.1.size);have QX:=(Q7.of A.2).later (g.block _ aa);have ac:1<=long/\long<=1048320:=by
  rcases K.1 with ⟨e,_⟩|⟨_,e⟩
  .omega
  .exact e
 rcases hp with ⟨f,rfl⟩|⟨f,i,hi,e1,e2,rfl⟩
 .have S:=aB (M5 (k:=k) (long:=long) f);generalize gH s name u fr til=R at *;have ad:(R != 0)=UE:=bZ f
  clear f AK A g x0 x1 x2 T;go_wp21;refine aK (ly R w1) fun w2 t=>?_;have y:=aB (j.refuse z QX t S);obtain⟨I,H,G,F,E,D,C,P⟩:=y.1;simp only[bT];go_wp21;exact cV results150 ⟨I,H,G,F,E,D,C,P⟩ ⟨_,rfl,y.2⟩
 .have cn:=(j.dk.later z).c0;rw[j.of.now] at cn;have h0:=j.inv.n0;have h9:=j.inv.n1;have ab:UV.wrap (s.now+long)=s.now+long:=dJ O O
  by_cases o:1048320<s.now+long
  .have S:=aB (a9H (k:=k) (long:=long) f o);clear f AK A g x0 x1 x2 T e1 e2
   go_wp21;refine aK (ly 6 w1) fun w2 t=>?_;have y:=aB (j.refuse z QX t S);obtain⟨I,H,G,F,E,D,C,P⟩:=y.1;simp only[bT];go_wp21;exact cV results150 ⟨I,H,G,F,E,D,C,P⟩ ⟨_,rfl,y.2⟩
  .have S:Hid (aA.aX s (.enter k name u fr til long)=jO s ⟨0,k,name,u,[(fr,til)],s.now+long⟩):=by rw[Hid,Mb (k:=k) (long:=long) f O];unfold aA.qE;rw[Uy O]
   have y1:=(zo (w:=X) (a:=(w,1)) (g.block w O)).trans x1;have y2:=(zo (w:=X) (a:=(w,2)) (g.block w O)).trans x2;have y3:=(zo (w:=X) (a:=(w,3)) (g.block w O)).trans T;have EN:=aB (Fx (j.asks z (k:=k) (u:=u) (fr:=fr) (til:=til) (un:=s.now+long) hi e1 ⟨K.2.1,K.2.2.1,(by show 1<=40;omega),Ui,(by intro q hq;have:q=(fr,til):=X9.1 hq;subst this;have:=(uc f).2;exact⟨K.2.2.2.1,this,K.2.2.2.2.2.2⟩),YL _ _,.inr ⟨hk,(by show s.now<s.now+long;omega),(by show s.now+long<=1048320;omega),rfl⟩⟩));have AL:Hid (UH w1 w1 ((w1.alloc (UX #[fr,til] 83)).alloc (UX #[V UV 0,k,UM (U ⟨r.tg[i].tb,0,UB⟩),u,UO w1 1 1,V UV (s.now+long)] 197))):=aS.alloc Ui _;have QL:Hid (w+1<w1.heap.size):=U1 _ _ QX.q0;clear f AK A g x0 x1 x2 T e1 e2;go_wp21;refine EN.mono ?_;rintro e w2 ⟨v,rfl,ep⟩;obtain⟨R,n,rfl,q7,hf⟩:=ep.uN (Q:=(w.heap.size+1)) (Step.below (z.trans (AL.mono z.size))) z.size O QL (j.dk.none O) (QX.later (AL.block _ QL));have y:Hid (eu w d aM (aA.aX s (.enter k name u fr til long)) (bT R 0 n () () () ()) (dE w2 (w.heap.size+1) (V UV R) (V UV 0) (V UV n) () () () ())):=by rw[S];exact hf _ _ _ _ _ _ _
   clear ep hf EN;obtain⟨I,H,G,F,E,D,C,P⟩:=q7;simp only[bT];go_wp21;exact cV results150 ⟨I,H,G,F,E,D,C,P⟩ ⟨_,rfl,y⟩
theorem c3c(h:eH w d s r aM)(name:Us)(G:name.size<=1000)(u fr til long:N)(H:aA.ke (.enter 2 name u fr til long)):UI prog 101 #[d,UT #[name,u,fr,til,long]] w fun e w'=>∃ v,e=UW v/\eu w d aM (aA.aX s (.enter 2 name u fr til long)) v w':=by
 let⟨hX,hXQ,hXb,hNX⟩:=qR w (UX #[name,u,fr,til,long] 150);have z:=bN hXb 0 rfl;have y:=bN hXb 1 rfl;have t:=bN hXb 2 rfl;have q:=bN hXb 3 rfl;have o:=bN hXb 4 rfl;have j:=aB (MF (w:=((w.alloc (UX #[name,u,fr,til,long] 150)).alloc bI)) ⟨h.dk.later hX,h.of,h.wl,h.hl,h.inv⟩ 2 O name G u fr til long H);have HH:=aB h;have g:=aB (Vf hX hXQ);clear h hX hXQ hXb;go_in;go_upto_region 1 with fail;change YD _ _ _ _ ((w.alloc (UX #[name,u,fr,til,long] 150)).alloc bI);generalize (w.alloc (UX #[name,u,fr,til,long] 150)).alloc bI=X at *;go_wp21;refine j.mono ?_;rintro e w2 ⟨v,rfl,f⟩;obtain⟨I,at_,n,a1,T,S,R,F,E,D,C,c1,P,L,K,rfl,A,c⟩:=f.up g.1 (Q:=w.heap.size+1) O hNX (HH.dk.none O) (Q7.of g.2);have HF:=aB (c (V UV I) (V UV at_) (V UV n) (UO a1 F c1) (UO T E P) (UO S D L) (UO R C K));clear f c j z y t q o;let⟨q0,q1,q2,q3,q4,q5,q6,fq⟩:=A;simp only[bT];go_wp21;exact cV results101 ⟨q0,q1,q2,q3,q4,q5,q6,fq⟩ ⟨_,rfl,HF⟩
theorem c1W(h:eH w d s r aM)(name:Us)(G:name.size<=1000)(u fr til long:N)(H:aA.ke (.enter 3 name u fr til long)):UI prog 102 #[d,UT #[name,u,fr,til,long]] w fun e w'=>∃ v,e=UW v/\eu w d aM (aA.aX s (.enter 3 name u fr til long)) v w':=by
 let⟨hX,hXQ,hXb,hNX⟩:=qR w (UX #[name,u,fr,til,long] 151);have z:=bN hXb 0 rfl;have y:=bN hXb 1 rfl;have t:=bN hXb 2 rfl;have q:=bN hXb 3 rfl;have o:=bN hXb 4 rfl;have j:=aB (MF (w:=((w.alloc (UX #[name,u,fr,til,long] 151)).alloc bI)) ⟨h.dk.later hX,h.of,h.wl,h.hl,h.inv⟩ 3 O name G u fr til long H);have HH:=aB h;have g:=aB (Vf hX hXQ);clear h hX hXQ hXb;go_in;go_upto_region 1 with fail;change YD _ _ _ _ ((w.alloc (UX #[name,u,fr,til,long] 151)).alloc bI);generalize (w.alloc (UX #[name,u,fr,til,long] 151)).alloc bI=X at *;go_wp21;refine j.mono ?_;rintro e w2 ⟨v,rfl,f⟩;obtain⟨I,at_,n,a1,T,S,R,F,E,D,C,c1,P,L,K,rfl,A,c⟩:=f.up g.1 (Q:=w.heap.size+1) O hNX (HH.dk.none O) (Q7.of g.2);have HF:=aB (c (V UV I) (V UV at_) (V UV n) (UO a1 F c1) (UO T E P) (UO S D L) (UO R C K));clear f c j z y t q o;let⟨q0,q1,q2,q3,q4,q5,q6,fq⟩:=A;simp only[bT];go_wp21;exact cV results102 ⟨q0,q1,q2,q3,q4,q5,q6,fq⟩ ⟨_,rfl,HF⟩
theorem eH.levels(h:eH w d s r aM)(c:i<r.tg.length):∀ p,0<=ec r.tg[i].name s.es p/\ec r.tg[i].name s.es p<=1000000:=fun p=>by have g:=aA.wu r.tg[i].name p s.es h.bA.small;have f:=kS h.bA;omega
theorem c1l(h:eH w d s r aM)(k:UH w w wx)(c:i<r.tg.length){b:N}(t:0<=a)(j:a<b)(q:b<=1048320):UI prog 158 #[UM (U ⟨r.tg[i].tb,2,UB⟩),UT #[a,b]] wx fun e w'=>e=UW (V UV (aA.nZ r.tg[i].name s.es a b))/\UH wx wx w':=by
 let⟨ul,us,Fl,Fs,t1,t2⟩:=(h.dk.later k).th i c;have g:=h.levels c;have e:=aA.c0m (name:=r.tg[i].name) h.bA.small (F7 h.bA) t j q;unfold uM at e;have f:=t1.lv;rw[(h.of.th i c).1] at f;refine aK (JY (lL (ec r.tg[i].name s.es)) _ 2 ul Fl a b wx t1.c2 f (yr g) (Bb (fun p=>(g p).1)) j) fun w' o=>?_;exact⟨by rw[<- e],o⟩
theorem c1k(h:eH w d s r aM)(k:UH w w wx)(c:i<r.tg.length){b:N}(z:0<=a)(F:a<b)(y:b<=1048320)(t:1<=long)(E:long<=1048320)(C:0<=u):UI prog 159 #[UM (U ⟨r.tg[i].tb,2,UB⟩),UT #[a,b],long,V UV (r.tg[i].aN-u)] wx fun e w'=>∃ q:Uu N,e=UW (lg q)/\aA.kP s.ts s.es r.tg[i].name u long a b=aA.Jt q/\UH wx wx w':=by
 let⟨ul,us,Fl,Fs,t1,t2⟩:=(h.dk.later k).th i c;have o:=h.levels c;have g:=t1.lv;rw[(h.of.th i c).1] at g;have f:aA.cI r.tg[i].name s.ts=r.tg[i].aN:=by have A:=FE h.bA.tn (i:=i) (by rw[<- h.of.len];exact c);rw[h.of.mE c] at A;exact A
 refine (c3K (lL (ec r.tg[i].name s.es)) _ 2 ul Fl a b long (r.tg[i].aN-u) wx t1.c2 g (yr o) (Bb (fun p=>(o p).1)) z F y t E).mono ?_;rintro G w' ⟨q,rfl,j,D⟩;rw[<- f] at j;exact⟨q,rfl,aA.b9G h.bA.small (F7 h.bA) z y C t j,D⟩
theorem b2e(g:eS s)(h:gH s name 0 fr til≠0):aA.aX s (.ef name fr til)=(s,aA.bS.error (gH s name 0 fr til)):=by
 have o:=aA.Ge g.tu name;simp only[aA.aX];unfold gH aA.eW at *;by_cases c:aA.cI name s.ts=0
 .rw[Uz c];simp[c]
 .have j:¬ (aA.cI name s.ts<0):=O
  simp only[c,j] at h ⊢;by_cases f:til<=fr
  .simp[f]
  .simp[f] at h
theorem c1a(h:gH s name 0 fr til=0):aA.aX s (.ef name fr til)=(s,aA.bS.num (aA.nZ name s.es fr til)):=by
 let⟨h1,h2⟩:=uc h;have c:aA.cI name s.ts≠0:=fun e=>by unfold aA.eW at h1;rw[Uz e] at h1;omega
 simp only[aA.aX];rw[Uy c,Uy O]
theorem TC(c:Array UG)(w:UF):(callFunc 158 c).run prog w=.ok (.enter 158 c) w:=Um
theorem c2D(h:eH w d s r aM)(name:Us)(hn:name.size<=1000)(fr til:N)(hl:aA.ke (.ef name fr til)):UI prog 108 #[d,UT #[name,fr,til]] w fun e w'=>∃ v,e=UW v/\eu w d aM (aA.aX s (.ef name fr til)) v w':=by
 obtain⟨P,q,f,R⟩:=qR w (UX #[name,fr,til] 169);have x0:=bN f 0 rfl;have D:=bN f 1 rfl;have C:=bN f 2 rfl;have AK:=aB (wM (h.dk.later P) h.of h.bA name hn 0 fr til);have y:=aB h;have t:=aB (Vf P q);clear h P q f;go_in;go_upto_region 1 with fail;change YD _ _ _ _ ((w.alloc (UX #[name,fr,til] 169)).alloc bI);generalize (w.alloc (UX #[name,fr,til] 169)).alloc bI=X at *;go_wp21;refine AK.mono ?_;rintro e w1 ⟨hp,o⟩;have A:=t.1.trans (o.mono t.1.size);have T:=(Q7.of t.2).later (o.block _ R);rcases hp with ⟨j,rfl⟩|⟨j,i,hi,e1,e2,rfl⟩
 .have z:=aB (b2e y.bA j);generalize gH s name 0 fr til=er at *;have aa:(er != 0)=UE:=bZ j
  clear j AK t o x0 D C;go_wp21;refine aK (ly er w1) fun g c=>?_;have HF:=aB (y.refuse A T c z);obtain⟨L,K,I,H,G,F,E,S⟩:=HF.1;simp only[bT];go_wp21;exact cV results108 ⟨L,K,I,H,G,F,E,S⟩ ⟨_,rfl,HF.2⟩
 .have z:=aB (c1a j);have y1:=(zo (w:=X) (a:=(w,1)) (o.block w O)).trans D;have y2:=(zo (w:=X) (a:=(w,2)) (o.block w O)).trans C;have MC:=aB (c1l y (wx:=w1.drew) A.drew hi hl.1 (uc j).2 hl.2.2.2);rw[e1] at MC;have AF:Hid (∀ g,UH w1.drew.heap.size w1.drew g->Q7 g (w.heap.size+1)/\eu w d aM (aA.aX s (.ef name fr til)) (bT 0 0 (aA.nZ name s.es fr til) () () () ()) (dE g (w.heap.size+1) (V UV 0) (V UV 0) (V UV (aA.nZ name s.es fr til)) () () () ())):=fun g k2=>⟨T.later (k2.block _ (U1 _ _ T.q0)),by rw[z];exact y.said (A.drew.trans (k2.mono A.size)) O 0 (aA.nZ name s.es fr til) _ _ _ _ _ _ _⟩
  clear j AK t o x0 D C e1 e2 z;generalize (aA.nZ name s.es fr til)=nn at *;go_upto_region 4 with fail;go_region_law (first
   |(refine rH (by rfl) 158 _ _ (by rfl) _ (by simp[Act.eval]) (TC _ _) MC ?_;rintro e g ⟨rfl,c⟩;refine⟨_,rfl,?_⟩;have FF:=aB (AF g c);obtain⟨⟨L,K,I,H,G,F,E,S⟩,_⟩:=AF g c))
  all_goals go_wp21;exact cV results108 ⟨L,K,I,H,G,F,E,S⟩ ⟨_,rfl,FF.2⟩
theorem b2f(h:gH s name u fr til≠0):aA.aX s (.find name u long fr til)=(s,aA.bS.error (gH s name u fr til)):=by
 simp only[aA.aX];unfold gH at *;by_cases c:aA.eW s.ts name u≠0
 .rw[Uz c,Uz c]
 .rw[Uy c] at h ⊢;rw[Uy c]
  by_cases f:til<=fr
  .rw[Uz f,Uz f]
  .rw[Uy f] at h;omega
theorem c1b(h:gH s name u fr til=0):aA.aX s (.find name u long fr til)=(s,aA.bS.num (aA.kP s.ts s.es name u long fr til)):=by grind[gH,aA.aX,aA.bS.num,aA.kP]
theorem c3j(h:eH w d s r aM)(name:Us)(hn:name.size<=1000)(u long fr til:N)(j:aA.ke (.find name u long fr til)):UI prog 109 #[d,UT #[name,u,long,fr,til]] w fun e w'=>∃ v,e=UW v/\eu w d aM (aA.aX s (.find name u long fr til)) v w':=by
 obtain⟨hX,K,g,ac⟩:=qR w (UX #[name,u,long,fr,til] 171);have x0:=bN g 0 rfl;have x1:=bN g 1 rfl;have x2:=bN g 2 rfl;have x3:=bN g 3 rfl;have x4:=bN g 4 rfl;have AK:=aB (wM (h.dk.later hX) h.of h.bA name hn u fr til);have y:=aB h;have P:=aB (Vf hX K);clear h hX K g;go_in;go_upto_region 1 with fail;change YD _ _ _ _ ((w.alloc (UX #[name,u,long,fr,til] 171)).alloc bI);generalize (w.alloc (UX #[name,u,long,fr,til] 171)).alloc bI=X at *;go_wp21;refine AK.mono ?_;rintro e w1 ⟨hp,o⟩;have R:Hid (UH w w w1):=P.1.trans (o.mono P.1.size);have QX:Hid (Q7 w1 (w.heap.size+1)):=(Q7.of P.2).later (o.block _ ac);rcases hp with ⟨t,rfl⟩|⟨t,i,hi,e1,e2,rfl⟩
 .have HD:=aB (b2f (long:=long) t);generalize gH s name u fr til=er at *;have ae:(er != 0)=UE:=by simpa using t
  clear t AK P o x0 x1 x2 x3 x4;go_wp21;refine aK (ly er w1) fun c f=>?_;have HF:=aB (y.refuse R QX f HD);obtain⟨H,G,F,E,D,C,A,L⟩:=HF.1;simp only[bT];go_wp21;exact cV results109 ⟨H,G,F,E,D,C,A,L⟩ ⟨_,rfl,HF.2⟩
 .have HD:=aB (c1b (long:=long) t);have y1:=(zo (w:=X) (a:=(w,1)) (o.block w O)).trans x1;have y2:=(zo (w:=X) (a:=(w,2)) (o.block w O)).trans x2;have y3:=(zo (w:=X) (a:=(w,3)) (o.block w O)).trans x3;have y4:=(zo (w:=X) (a:=(w,4)) (o.block w O)).trans x4;obtain⟨ul,us,Fl,Fs,t1,t2⟩:=(y.dk.later R).th i hi;have cu:=t1.c1
  have aa:1<=r.tg[i].aN/\r.tg[i].aN<=9:=by
   have ab:(r.tg[i].name,r.tg[i].aN)∈s.ts:=by rw[<- y.of.mE hi];exact zg _
   exact y.inv.tu _ ab
  have ad:UV.wrap (r.tg[i].aN-u)=r.tg[i].aN-u:=dJ (by have:=j.1;have:=j.2.1;omega) (by have:=j.1;omega);have RC:=aB (c1k y (wx:=w1.drew) R.drew (u:=u) hi j.2.2.2.2.1 (uc t).2 j.2.2.2.2.2.2.2 j.2.2.1 j.2.2.2.1 (by have:=j.1;omega));rw[e1] at RC;have RD:Hid (UI prog 159 #[UM (U ⟨r.tg[i].tb,2,UB⟩),UT #[fr,til],long,V UV (r.tg[i].aN-u)] w1.drew fun e w'=>∃ (x:N) (T:Bool),e=UW (US #[x,T])/\aA.kP s.ts s.es name u long fr til=(if T then x else -1)/\UH w1.drew.heap.size w1.drew w'):=by
   refine RC.mono ?_;rintro e w' ⟨q,rfl,I,f⟩
   cases q with
   |none=>exact⟨0,UD,rfl,I,f⟩
   |some x=>exact⟨x,UE,rfl,I,f⟩
  have z:Hid (∀ c S,UH w1.drew.heap.size w1.drew c->(aA.kP s.ts s.es name u long fr til)=S->Q7 c (w.heap.size+1)/\eu w d aM (aA.aX s (.find name u long fr til)) (bT 0 0 S () () () ()) (dE c (w.heap.size+1) (V UV 0) (V UV 0) (V UV S) () () () ())):=fun c S k2 e=>⟨QX.later (k2.block _ (U1 _ _ QX.q0)),by rw[HD,<- e];exact y.said (R.drew.trans (k2.mono R.size)) O 0 (aA.kP s.ts s.es name u long fr til) _ _ _ _ _ _ _⟩;clear t AK P o x0 x1 x2 x3 x4 e1 e2 HD t1 t2 aa RC;generalize r.tg[i].aN=un at *;generalize r.tg[i].tb=tb at *;go_upto_region 4 with fail;have AC:Hid (∀ c,UH w1.drew.heap.size w1.drew c->c.cell? (w,1)=U ↑u/\c.cell? (w,2)=U ↑long/\c.cell? (w,3)=U ↑fr/\c.cell? (w,4)=U ↑til/\c.cell? (tb,1)=U (V UV un)):=fun c k=>⟨aT k y1,aT k y2,aT k y3,aT k y4,aT k cu⟩;go_region_held3 (fun w'=>w'.cell? (w,1)=U ↑u/\w'.cell? (w,2)=U ↑long/\w'.cell? (w,3)=U ↑fr/\w'.cell? (w,4)=U ↑til/\w'.cell? (tb,1)=U (V UV un))
   (first
    |exact⟨y1,y2,y3,y4,cu⟩
    |exact AC _ f)
   (first
    |(go_at_call 159;refine RD.mono ?_;rintro e c ⟨x,T,rfl,I,f⟩))
  have HB:=aB f
  cases T;all_goals have HQ:=aB I;clear I f AC y1 y2 y3 y4 cu
  .have FF:=aB (z c (-1) HB HQ);obtain⟨⟨H,G,F,E,D,C,A,L⟩,_⟩:=z c (-1) HB HQ;clear z RD
   go_wp21;exact cV results109 ⟨H,G,F,E,D,C,A,L⟩ ⟨_,rfl,FF.2⟩
  .have FF:=aB (z c x HB HQ);obtain⟨⟨H,G,F,E,D,C,A,L⟩,_⟩:=z c x HB HQ;clear z RD
   go_wp21;exact cV results109 ⟨H,G,F,E,D,C,A,L⟩ ⟨_,rfl,FF.2⟩
theorem yz.uN{n:N}(h:yz w d s aM n v w')(G:s.now+n<=1048320):eu w d aM (aA.aX s (.tick n)) v w':=by
 obtain⟨q,f,j,o,rfl,F,E,D,C,A,z,y,t⟩:=h;refine⟨q,f,F,E,D,C,A,(),(),j,o,[],?_,?_,iw.nil _ _ _,?_,z,y,(fun b g=>⟨Ur,Ur,t b g,Ui⟩),fun b g=>by cases g⟩;all_goals
  have c:(aA.aX s (.tick n)).2.err=0/\(aA.aX s (.tick n)).2.at_=0/\(aA.aX s (.tick n)).2.n=s.now+n/\(aA.aX s (.tick n)).2.entries=[]/\(aA.aX s (.tick n)).2.days=[]:=by show ((if 1048320<s.now+n then _ else _:St × aA.bS)).2.err=0/\((if 1048320<s.now+n then _ else _:St × aA.bS)).2.at_=0/\((if 1048320<s.now+n then _ else _:St × aA.bS)).2.n=s.now+n/\((if 1048320<s.now+n then _ else _:St × aA.bS)).2.entries=[]/\((if 1048320<s.now+n then _ else _:St × aA.bS)).2.days=[];rw[Uy O];exact⟨rfl,rfl,rfl,rfl,rfl⟩
 .rw[c.1,c.2.1,c.2.2.1]
 .rw[c.2.2.2.1];rfl
 .rw[c.2.2.2.2];exact eO.nil _ _ _
theorem b9i(h:eH w d s r aM)(n:N)(E:1<=n/\n<=1048320)(c:1048320<s.now+n):UI prog 111 #[d,UT #[n]] w fun e w'=>∃ v,e=UW v/\eu w d aM (aA.aX s (.tick n)) v w':=by
 let⟨hX,hXQ,hXb,_⟩:=qR w (UX #[n] 175);have q:=bN hXb 0 rfl;have j:=(h.dk.later hX).c0;rw[h.of.now] at j;have G:=h.inv.n0;have F:=h.inv.n1;have t:UV.wrap (s.now+n)=s.now+n:=dJ O O;have z:=aB h;have g:=aB (Vf hX hXQ);have A:Hid (aA.aX s (.tick n)=(s,aA.bS.error 6)):=by show (if 1048320<s.now+n then _ else _)=_;rw[Uz c]
 clear h hX hXQ hXb;go_in;go_upto_region 1 with fail;change YD _ _ _ _ ((w.alloc (UX #[n] 175)).alloc bI);generalize (w.alloc (UX #[n] 175)).alloc bI=X at *;have y:Hid (Q7 X.drew (w.heap.size+1)):=Q7.of g.2;have C:Hid (UH w w X.drew):=g.1.drew;clear g;go_big_region;clear j q;go_wp21;refine aK (ly 6 X.drew) fun D f=>?_;have o:=aB (z.refuse C y f A);let⟨q0,q1,q2,q3,q4,q5,q6,fq⟩:=o.1;simp only[bT];go_wp21;exact cV results111 ⟨q0,q1,q2,q3,q4,q5,q6,fq⟩ ⟨_,rfl,o.2⟩
theorem c2a(h:eH w d s r aM)(n:N)(f:1<=n/\n<=1048320):UI prog 111 #[d,UT #[n]] w fun e w'=>∃ v,e=UW v/\eu w d aM (aA.aX s (.tick n)) v w':=by
 by_cases c:s.now+n<=1048320
 .refine (c1Z h.dk h.of h.wl h.hl h.inv n f c).mono ?_;rintro e w' ⟨v,rfl,g⟩;exact⟨v,rfl,g.uN c⟩
 .exact b9i h n f O
theorem FQ:∀ (n:M)(c f:N),aL.canon n (fun _=>0) c f=.nil
 |0,_,_=>by simp[aL.canon,aL.mk,aL.isNil]
 |n+1,c,f=>by simp only[aL.canon];have h:=FQ n c (aL.bA c f);have g:=FQ n (aL.bA c f) f;rw[h,g];simp[aL.mk,aL.isNil]
theorem c0x:lL (fun _=>0)=.nil:=FQ 20 0 1048320
theorem LF{name:Us}:∀ {es:J aQ},(∀ e∈es,dB name e=UD)->ec name es=fun _=>0
 |[],_=>by funext p;rfl
 |e :: es,h=>by funext p;have ih:=congrFun (LF (name:=name) (es:=es) (fun x c=>h x (List.mem_cons_of_mem _ c))) p;simp only[ec,h e List.mem_cons_self,ih];rfl
theorem Of.bH(h:Of s r){c:M}(y:∀ t∈r.tg,t.name≠name):Of { s with ts:=s.ts++[(name,u)] } { r with tg:=r.tg++[⟨name,u,c,fun _=>0,.nil⟩] }:=by
 have j:∀ e∈s.es,dB name e=UD:=fun e D=>by obtain⟨g,C,rfl⟩:=h.get D;let⟨i,q,e1,f⟩:=h.tb g C;have:dI g.e.bH name=UD:=sL.2 (fun o=>y _ (zg q) Uo);simp[dB,this]
 refine⟨h.now,h.given,by show (r.tg++[_]).map _=_;rw[VU,h.ts];rfl,h.es,fun i q=>?_,fun g C=>?_⟩
 .have G:i<r.tg.length+1:=Uo
  by_cases e:i<r.tg.length
  .have f:(r.tg++[(⟨name,u,c,fun _=>0,.nil⟩:TG)])[i]'Uo=r.tg[i]:=YI e;show (r.tg++[(⟨name,u,c,fun _=>0,.nil⟩:TG)])[i].A=ec (r.tg++[(⟨name,u,c,fun _=>0,.nil⟩:TG)])[i].name s.es/\jw (r.tg++[(⟨name,u,c,fun _=>0,.nil⟩:TG)])[i].name s.es (kM r.eg) (r.tg++[(⟨name,u,c,fun _=>0,.nil⟩:TG)])[i].T;rw[f];exact h.th i e
  .have o:i=r.tg.length:=O
   subst o;have f:(r.tg++[(⟨name,u,c,fun _=>0,.nil⟩:TG)])[r.tg.length]'Ui=⟨name,u,c,fun _=>0,.nil⟩:=Ui;show (r.tg++[(⟨name,u,c,fun _=>0,.nil⟩:TG)])[r.tg.length].A=ec (r.tg++[(⟨name,u,c,fun _=>0,.nil⟩:TG)])[r.tg.length].name s.es/\jw (r.tg++[(⟨name,u,c,fun _=>0,.nil⟩:TG)])[r.tg.length].name s.es (kM r.eg) (r.tg++[(⟨name,u,c,fun _=>0,.nil⟩:TG)])[r.tg.length].T;rw[f];refine⟨(LF j).symm,Xt,fun z=>?_⟩;constructor
   .intro F;simp[aF.cT] at F
   .rintro ⟨e,D,E,_⟩;rw[j e D] at E;cases E
 .let⟨i,q,e1,f⟩:=h.tb g C;have o:(r.tg++[(⟨name,u,c,fun _=>0,.nil⟩:TG)])[i]'Uo=r.tg[i]:=YI q;refine⟨i,Uo,?_,?_⟩
  .exact (congrArg TG.name o).trans e1
  .exact f.trans (congrArg TG.tb o).symm
theorem KJ(h:mh r.tg name=UB):∀ t∈r.tg,t.name≠name:=by
 intro t ht e;rw[vq] at h
 cases c:r.tg.find? fun t=>dI t.name name with
 |none=>exact (XL.1 c t ht) (vk.2 e)
 |some y=>rw[c] at h;cases h
theorem eH.BU(h:eH w d s r aM)(k:UH w w w1)(L:name.size<=1000)(ht:mh r.tg name=UB)(hl:r.tg.length<4)(E:Q7 w1 (w.heap.size+1)):∃ m,w1.cell? ⟨d,2,UB⟩=U (.map (U m))/\∃ w3,(YJ 86 (.map (U m)) (UQ name) (UM (U ⟨w1.heap.size,0,UB⟩))).run prog (w1.alloc (UX #[UQ name,V UV u,UM UB,UM UB] 233)).drew=.ok () w3/\Q7 w3 (w.heap.size+1)/\∀ a b c e f g i,eu w d aM ({ s with ts:=s.ts++[(name,u)] },aA.bS.num 0) (bT 0 0 0 (UO UB 0 0) (UO UB 0 0) (UO UB 0 0) (UO UB 0 0)) (dE w3 (w.heap.size+1) a b c e f g i):=by
 have F:=h.dk.later k;have y:UH w1.heap.size w1 (w1.alloc (UX #[UQ name,V UV u,UM UB,UM UB] 233)).drew:=((zr _ _).alloc (zq _) _).drew;have H:=F.later y;have R:=dH w1 (UX #[UQ name,V UV u,UM UB,UM UB] 233);have j:(w1.alloc (UX #[UQ name,V UV u,UM UB,UM UB] 233)).drew.heap[w1.heap.size]?=U (UX #[UQ name,V UV u,UM UB,UM UB] 233 (0,0)):=R;have q:Q7 (w1.alloc (UX #[UQ name,V UV u,UM UB,UM UB] 233)).drew (w.heap.size+1):=E.later (y.block _ (U1 _ _ E.q0));have K:w.heap.size+1<w1.heap.size:=U1 _ _ E.q0;obtain⟨m0,_,G,_⟩:=F.mt;obtain⟨m,f,I,a2,X,T⟩:=H.mt;have P:m0=m:=by have e:=y.cell (p:=(d,2)) (U1 _ _ G);rw[G,I] at e;injection e with e;injection e with e;injection e with e;exact e.symm
 subst P;refine⟨m0,G,?_⟩;generalize (w1.alloc (UX #[name,u,UM UB,UM UB] 233)).drew=Z at *;let⟨w3,hrun,p1,p2⟩:=X.mG DE underlying86 Up (Ea L) (by unfold oV;trivial) w1;have S:TH Z w1 name u (fun _=>0) .nil UB UB [] []:=by
  refine⟨?_,?_,?_,?_,fun o=>frozen_of_row _ _ _ _ _ j,?_,⟨rfl,rfl⟩,by simp,by simp,by simp⟩
  .simp only[Vk,j];rfl
  .simp only[Vk,j];rfl
  .simp only[Vk,j];rfl
  .simp only[Vk,j];rfl
  .rw[c0x];exact⟨rfl,rfl⟩
 let⟨c2,e1,e2,e3⟩:=H.xj (t:=⟨name,u,w1,fun _=>0,.nil⟩) (B:=w1) I a2 T S (F.none aJ) aJ (KJ ht) p1 p2;have A:aM (w.heap.size+1)=UB:=h.dk.none O;have C:w+1≠m0:=fun e=>by grind
 have z:w+1<Z.heap.size:=U1 _ _ q.q0;have D:w3.heap[w.heap.size+1]?=Z.heap[w.heap.size+1]?:=p2.block _ z (fun e=>C (Wq e));refine⟨w3,hrun,q.later D,fun a b c e f g i=>wH e1 (h.of.bH (KJ ht)) h.wl h.hl (((Step.below k).trans (Step.below y)).trans (e2.any k.size)) O (e3 _ A Uo) 0 0 a b c e f g i⟩
theorem Uf(w:UF):(zeroValue 195).run prog w=.ok (UM UB) w:=by simp[go_sem]
theorem b9j(h:eH w d s r aM)(name:Us)(hn:name.size<=1000)(u:N):UI prog 99 #[d,UT #[name,u]] w fun e w'=>∃ v,e=UW v/\eu w d aM (aA.aX s (.bH name u)) v w':=by
 obtain⟨hX,K,t,_⟩:=qR w (UX #[name,u] 143);have T:=bN t 0 rfl;have S:=bN t 1 rfl;have j:=aB h;have z:=aB (Vf hX K);clear h hX K t;go_in;go_upto_region 1 with fail;change YD _ _ _ _ ((w.alloc (UX #[name,u] 143)).alloc bI);generalize (w.alloc (UX #[name,u] 143)).alloc bI=X at *;have hx:=j.dk.later z.1;obtain⟨m,f,a1,a2,P,a4⟩:=hx.mt;have c:=(P.block (w':=X.drew) rfl).look DE underlying86 (Uf X.drew) (Ea hn);have o:=(P.block (w':=X.drew) rfl).len underlying86;rw[a4 name] at c;have QX:Hid (Q7 X.drew (w.heap.size+1)):=Q7.of z.2;have BX:Hid (UH w w X.drew):=z.1.drew;have aa:=j.inv.tl;rw[<- j.of.len] at aa
 cases ht:mh r.tg name with
 |some b =>
  rw[ht] at c;have g:(Yi 86 (.map (U m)) name UD).run prog X.drew=.ok b X.drew:=c;have R:Hid (aA.aX s (.bH name u)=(s,aA.bS.error 4)):=by
   obtain⟨i,hi,e1,e2,e3⟩:=LK j.of j.inv.tn ht;have ab:(r.tg[i].name,r.tg[i].aN)∈s.ts:=by rw[<- j.of.mE hi];exact zg _
   have:=(j.inv.tu _ ab).1;simp only[Hid,aA.aX];rw[Uz (by rw[e3];omega)]
  clear c P a4 ht hx z o;go_big_region;clear g T S a1;go_wp21;refine aK (ly 4 X.drew) fun w2 q=>?_;have y:=aB (j.refuse BX QX q R);obtain⟨H,G,F,E,D,C,A,L⟩:=y.1;simp only[bT];go_wp21;exact cV results99 ⟨H,G,F,E,D,C,A,L⟩ ⟨_,rfl,y.2⟩
 |none =>
  rw[ht] at c;have g:(Yi 86 (.map (U m)) name UD).run prog X.drew=.ok (UM UB) X.drew:=c;have af:=LJ j.of ht;have b1:X.drew.cell? (d,2)=U (.map (U m)):=a1;have z0:X.drew.cell? (w,0)=U ↑name:=T;have z1:X.drew.cell? (w,1)=U ↑u:=S;by_cases h4:r.tg.length=4
  .rw[h4] at o
   have R:Hid (aA.aX s (.bH name u)=(s,aA.bS.error 5)):=by simp only[Hid,aA.aX];rw[Uy O,Uz (by rw[<- j.of.len];exact h4)]
   clear c P a4 ht hx z;go_big_region;clear g T S a1;generalize X.drew=Y at *;go_wp21;refine aK (ly 5 Y) fun w2 q=>?_;have y:=aB (j.refuse BX QX q R);obtain⟨H,G,F,E,D,C,A,L⟩:=y.1;simp only[bT];go_wp21;exact cV results99 ⟨H,G,F,E,D,C,A,L⟩ ⟨_,rfl,y.2⟩
  .have R:Hid (aA.aX s (.bH name u)=({ s with ts:=s.ts++[(name,u)] },aA.bS.num 0)):=by simp only[Hid,aA.aX];rw[Uy O,Uy (by rw[<- j.of.len];exact h4)]
   have HT:=aB ht;have ag:(r.tg.length:N)<4:=O;clear c P a4 ht hx z;go_big_region;clear g T S a1;generalize X.drew=Y at *;go_wp21;refine aK (Ll name Y O) fun w1 hb=>?_;have ac:w+1<Y.heap.size:=U1 _ _ QX.q0;obtain⟨m2,g1,w3,I,q7,hf⟩:=j.BU (u:=u) (BX.trans (hb.mono BX.size)) hn HT O (QX.later (hb.block _ ac));have g2:w1.cell? (w,1)=U ↑u:=aT hb z1;have y:Hid (eu w d aM (aA.aX s (.bH name u)) (bT 0 0 0 () () () ()) (dE w3 (w.heap.size+1) (V UV 0) (V UV 0) (V UV 0) () () () ())):=by rw[R];exact hf _ _ _ _ _ _ _
   have ka:UH w1 w1 (w1.alloc (UX #[name,u,UM UB,UM UB] 233)):=aS;have ae:=aT ka g1;have ad:=aT ka g2;clear hf hb o z0 z1 b1 ka;go_upto_region 6 with fail;go_big_region;clear I g1 g2 ae ad;obtain⟨H,G,F,E,D,C,A,L⟩:=q7;go_wp21;exact cV results99 ⟨H,G,F,E,D,C,A,L⟩ ⟨_,rfl,y⟩
theorem b3V(h:eH w d s r aM)(name:Us)(t:name.size<=1000)(u:N):UI prog 62 #[d,UU 143 (UT #[name,u])] w fun e w'=>∃ v,e=UW v/\eu w d aM (aA.aX s (.bH name u)) v w':=by
 have f:=aB (h.pv (UX #[name,u] 143));have g:=aB (b9j f.1 name t u);clear h;unfold bI at g f;have c:=oj underlying143;go_in;go_wp21;refine g.mono ?_;rintro e z ⟨v,rfl,o⟩;obtain⟨G,at_,A,S,R,P,L,F,E,D,C,c1,K,I,H,rfl,q,j⟩:=o.pq f.2;have y:=aB j;clear o j g c;let⟨q0,q1,q2,q3,q4,q5,q6,fq⟩:=q;simp only[bT];go_wp21;exact cV results62 ⟨q0,q1,q2,q3,q4,q5,q6,fq⟩ ⟨_,rfl,y⟩
theorem b5G(h:eH w d s r aM)(name:Us)(y:name.size<=1000)(u fr til:N)(z:aA.ke (.enter 1 name u fr til 0)):UI prog 62 #[d,UU 148 (UT #[name,u,fr,til])] w fun e w'=>∃ v,e=UW v/\eu w d aM (aA.aX s (.enter 1 name u fr til 0)) v w':=by
 have g:=aB (h.pv (UX #[name,u,fr,til] 148));have j:=aB (c3F g.1 name y u fr til z);clear h;unfold bI at j g;have f:=oS 148 Uj;have c:=oj underlying148;go_in;go_wp21;refine j.mono ?_;rintro e C ⟨v,rfl,q⟩;obtain⟨I,at_,D,X,T,S,R,H,G,F,E,c1,P,L,K,rfl,t,o⟩:=q.pq g.2;have A:=aB o;clear q o j f c;let⟨q0,q1,q2,q3,q4,q5,q6,fq⟩:=t;simp only[bT];go_wp21;exact cV results62 ⟨q0,q1,q2,q3,q4,q5,q6,fq⟩ ⟨_,rfl,A⟩
theorem b5E(h:eH w d s r aM)(name:Us)(z:name.size<=1000)(u fr til long:N)(A:aA.ke (.enter 2 name u fr til long)):UI prog 62 #[d,UU 150 (UT #[name,u,fr,til,long])] w fun e w'=>∃ v,e=UW v/\eu w d aM (aA.aX s (.enter 2 name u fr til long)) v w':=by
 have j:=aB (h.pv (UX #[name,u,fr,til,long] 150));have o:=aB (c3c j.1 name z u fr til long A);clear h;unfold bI at o j;have f:=oS 150 Uj;have g:=pG 150 Uj;have c:=oj underlying150;go_in;go_wp21;refine o.mono ?_;rintro e D ⟨v,rfl,t⟩;obtain⟨K,at_,E,a1,X,T,S,I,H,G,F,c1,R,P,L,rfl,y,q⟩:=t.pq j.2;have C:=aB q;clear t q o f g c;let⟨q0,q1,q2,q3,q4,q5,q6,fq⟩:=y;simp only[bT];go_wp21;exact cV results62 ⟨q0,q1,q2,q3,q4,q5,q6,fq⟩ ⟨_,rfl,C⟩
theorem b5A(h:eH w d s r aM)(name:Us)(A:name.size<=1000)(u fr til long:N)(C:aA.ke (.enter 3 name u fr til long)):UI prog 62 #[d,UU 151 (UT #[name,u,fr,til,long])] w fun e w'=>∃ v,e=UW v/\eu w d aM (aA.aX s (.enter 3 name u fr til long)) v w':=by
 have o:=aB (h.pv (UX #[name,u,fr,til,long] 151));have q:=aB (c1W o.1 name A u fr til long C);clear h;unfold bI at q o;have f:=oS 151 Uj;have j:=pG 151 Uj;have g:=qs 151 Uj;have c:=oj underlying151;go_in;go_wp21;refine q.mono ?_;rintro e E ⟨v,rfl,y⟩;obtain⟨L,at_,F,a1,a2,X,T,K,I,H,G,c1,S,R,P,rfl,z,t⟩:=y.pq o.2;have D:=aB t;clear y t q f j g c;let⟨q0,q1,q2,q3,q4,q5,q6,fq⟩:=z;simp only[bT];go_wp21;exact cV results62 ⟨q0,q1,q2,q3,q4,q5,q6,fq⟩ ⟨_,rfl,D⟩
theorem b0l(h:eH w d s r aM)(id:N)(t:0<=id/\id<=9999999):UI prog 62 #[d,UU 160 (UT #[id])] w fun e w'=>∃ v,e=UW v/\eu w d aM (aA.aX s (.bL id)) v w':=by
 have y:=aB (h.pv (UX #[id] 160));have z:=aB (b5s y.1 id t);clear h;unfold bI at z y;have g:=oS 160 Uj;have q:=pG 160 Uj;have o:=qs 160 Uj;have j:=qT 160 Uj;have f:=sk 160 Uj;have c:=oj underlying160;go_in;go_wp21;refine z.mono ?_;rintro e F ⟨v,rfl,C⟩;obtain⟨P,at_,G,a1,a2,a3,X,L,K,I,H,c1,T,S,R,rfl,D,A⟩:=C.pq y.2;have E:=aB A;clear C A z g q o j f c;let⟨q0,q1,q2,q3,q4,q5,q6,fq⟩:=D;simp only[bT];go_wp21;exact cV results62 ⟨q0,q1,q2,q3,q4,q5,q6,fq⟩ ⟨_,rfl,E⟩
theorem b2n(h:eH w d s r aM)(id:N)(y:0<=id/\id<=9999999):UI prog 62 #[d,UU 161 (UT #[id])] w fun e w'=>∃ v,e=UW v/\eu w d aM (aA.aX s (.cancel id)) v w':=by
 have z:=aB (h.pv (UX #[id] 161));have A:=aB (b8L z.1 id y);clear h;unfold bI at A z;have j:=oS 161 Uj;have t:=pG 161 Uj;have q:=qs 161 Uj;have o:=qT 161 Uj;have g:=sk 161 Uj;have f:=te 161 Uj;have c:=oj underlying161;go_in;go_wp21;refine A.mono ?_;rintro e G ⟨v,rfl,D⟩;obtain⟨R,at_,H,a1,a2,a3,a4,P,L,K,I,c1,X,T,S,rfl,E,C⟩:=D.pq z.2;have F:=aB C;clear D C A j t q o g f c;let⟨q0,q1,q2,q3,q4,q5,q6,fq⟩:=E;simp only[bT];go_wp21;exact cV results62 ⟨q0,q1,q2,q3,q4,q5,q6,fq⟩ ⟨_,rfl,F⟩
theorem b5C(h:eH w d s r aM)(name:Us)(H:name.size<=1000)(fr til:N)(I:aA.ke (.ef name fr til)):UI prog 62 #[d,UU 169 (UT #[name,fr,til])] w fun e w'=>∃ v,e=UW v/\eu w d aM (aA.aX s (.ef name fr til)) v w':=by
 have C:=aB (h.pv (UX #[name,fr,til] 169));have D:=aB (c2D C.1 name H fr til I);clear h;unfold bI at D C;have q:=oS 169 Uj;have A:=pG 169 Uj;have z:=qs 169 Uj;have t:=qT 169 Uj;have g:=sk 169 Uj;have f:=te 169 Uj;have j:=uD 169 Uj;have y:=vL 169 Uj;have c:=xT 169 Uj;have o:=oj underlying169;go_in;go_wp21;refine D.mono ?_;rintro e L ⟨v,rfl,F⟩;obtain⟨er,at_,P,a1,a2,a3,a4,X,T,S,R,c1,c2,c3,c4,rfl,G,E⟩:=F.pq C.2;have K:=aB E;clear F E D q A z t g f j y c o;let⟨q0,q1,q2,q3,q4,q5,q6,fq⟩:=G;simp only[bT];go_wp21;exact cV results62 ⟨q0,q1,q2,q3,q4,q5,q6,fq⟩ ⟨_,rfl,K⟩
theorem b5F(h:eH w d s r aM)(name:Us)(I:name.size<=1000)(u long fr til:N)(K:aA.ke (.find name u long fr til)):UI prog 62 #[d,UU 171 (UT #[name,u,long,fr,til])] w fun e w'=>∃ v,e=UW v/\eu w d aM (aA.aX s (.find name u long fr til)) v w':=by
 have D:=aB (h.pv (UX #[name,u,long,fr,til] 171));have E:=aB (c3j D.1 name I u long fr til K);clear h;unfold bI at E D;have q:=oS 171 Uj;have C:=pG 171 Uj;have A:=qs 171 Uj;have t:=qT 171 Uj;have g:=sk 171 Uj;have f:=te 171 Uj;have j:=uD 171 Uj;have z:=vL 171 Uj;have c:=xT 171 Uj;have y:=zY 171 Uj;have o:=oj underlying171;go_in;go_wp21;refine E.mono ?_;rintro e P ⟨v,rfl,G⟩;obtain⟨er,at_,R,a1,a2,a3,a4,n1,X,T,S,c1,c2,c3,c4,rfl,H,F⟩:=G.pq D.2;have L:=aB F;clear G F E q C A t g f j z c y o;let⟨q0,q1,q2,q3,q4,q5,q6,fq⟩:=H;simp only[bT];go_wp21;exact cV results62 ⟨q0,q1,q2,q3,q4,q5,q6,fq⟩ ⟨_,rfl,L⟩
theorem b5B(h:eH w d s r aM)(n:N)(L:1<=n/\n<=1048320):UI prog 62 #[d,UU 175 (UT #[n])] w fun e w'=>∃ v,e=UW v/\eu w d aM (aA.aX s (.tick n)) v w':=by
 have F:=aB (h.pv (UX #[n] 175));have G:=aB (c2a F.1 n L);clear h;unfold bI at G F;have t:=oS 175 Uj;have E:=pG 175 Uj;have C:=qs 175 Uj;have y:=qT 175 Uj;have g:=sk 175 Uj;have f:=te 175 Uj;have o:=uD 175 Uj;have A:=vL 175 Uj;have c:=xT 175 Uj;have z:=zY 175 Uj;have D:=Cv 175 Uj;have j:=IV 175 Uj;have q:=oj underlying175;go_in;go_wp21;refine G.mono ?_;rintro e R ⟨v,rfl,I⟩;obtain⟨er,at_,S,a1,a2,a3,a4,n1,n2,X,T,c1,c2,c3,c4,rfl,K,H⟩:=I.pq F.2;have P:=aB H;clear I H G t E C y g f o A c z D j q;let⟨q0,q1,q2,q3,q4,q5,q6,fq⟩:=K;simp only[bT];go_wp21;exact cV results62 ⟨q0,q1,q2,q3,q4,q5,q6,fq⟩ ⟨_,rfl,P⟩
theorem b1Q(y m:N)(w:UF)(ht:hI w):UI prog 258 #[y,m] w fun e w'=>e=UW (Rd.reached y m)/\w'=w:=by
 cases h:Cal.ok y m 1
 .have c:=aB (AZ y m 1 w ht h);have e:Rd.reached y m=UD:=by unfold Rd.reached;rw[h];rfl
  rw[e];clear h ht e;go_in;go_wp21;refine c.mono ?_;rintro e w1 ⟨rfl,rfl⟩;go_wp21;go_ret;exact⟨rfl,rfl⟩
 .have c:=aB (A5 y m 1 w ht h);have e:Rd.reached y m=decide (Cal.num y m 1<728):=by unfold Rd.reached;rw[h];rfl
  rw[e];clear h ht e;generalize Cal.num y m 1=z at *;go_in;go_wp21;refine c.mono ?_;rintro e w1 ⟨rfl,rfl⟩;go_wp21;go_ret;exact⟨rfl,rfl⟩
theorem Lb(y m ev:N)(w:UF)(E:0<=y)(D:y<=100000)(C:1<=m)(A:m<=12)(z:1<=ev)(t:ev<=99):UI prog 259 #[y,m,ev] w fun e w'=>e=UW (US #[V UV (Rd.pR y m ev),V UV (Rd.oE m ev)])/\w'=w:=by
 have q:UV.wrap (m-1)=m-1:=dJ O O;have o:UV.wrap (m-1+ev)=m-1+ev:=dJ O O;have j:UV.wrap ((m-1+ev).tdiv 12)=(m-1+ev) / 12:=by rw[Int.tdiv_eq_ediv_of_nonneg O];exact dJ O O
 have h:UV.wrap (y+(m-1+ev) / 12)=y+(m-1+ev) / 12:=dJ O O;have g:(m-1+ev).tmod 12=(m-1+ev) % 12:=YM O;have f:UV.wrap ((m-1+ev) % 12)=(m-1+ev) % 12:=dJ O O;have c:UV.wrap ((m-1+ev) % 12+1)=(m-1+ev) % 12+1:=dJ O O;unfold Rd.pR Rd.oE;go_in;go_wp21;go_ret2;simp
def kc(r:Rd.cP):UG:=UT #[V UV r.pc,V UV r.ev,aI r.acc 0,aI r.acc 1,aI r.acc 2,aI r.acc 3,aI r.acc 4,aI r.acc 5,aI r.acc 6,V UV r.fr,r.mn,r.mi,r.ti,r.un]
def mu(r:Rd.cP)(d:N):N × N:=(d*1440+r.mn,d*1440+r.mn+r.mi)
theorem L4(r:Rd.cP)(c:Rd.hH r)(d:N)(A:0<=d)(z:d<100000)(w:UF):UI prog 187 #[kc r,d] w fun e w'=>e=UW (UT #[V UV (mu r d).1,V UV (mu r d).2])/\UH w w w':=by
 have h:=c.m0;have g:=c.m1;have y:=c.i1;have t:=c.i2;have q:UV.wrap (d*1440)=d*1440:=dJ O O;have o:UV.wrap (d*1440+r.mn)=d*1440+r.mn:=dJ O O;have j:UV.wrap (d*1440+r.mn+r.mi)=d*1440+r.mn+r.mi:=dJ O O;have f:Hid (UH w w ((w.alloc (UX #[V UV r.pc,V UV r.ev,aI r.acc 0,aI r.acc 1,aI r.acc 2,aI r.acc 3,aI r.acc 4,aI r.acc 5,aI r.acc 6,V UV r.fr,r.mn,r.mi,r.ti,r.un] 155)).alloc (UX #[V UV (d*1440+r.mn),V UV (d*1440+r.mn+r.mi)] 83))):=aS.alloc Ui _;clear c;unfold kc;go_in;go_wp21;exact bodyPost_ret (v:=UT #[V UV (d*1440+r.mn),V UV (d*1440+r.mn+r.mi)]) (by simp[results,results187,go_sem]) rfl ⟨rfl,f⟩
def cR(r:Rd.cP):Obj:=(UX #[V UV r.pc,V UV r.ev,aI r.acc 0,aI r.acc 1,aI r.acc 2,aI r.acc 3,aI r.acc 4,aI r.acc 5,aI r.acc 6,V UV r.fr,r.mn,r.mi,r.ti,r.un] 155 (0,0))
theorem vY{r:Rd.cP}(h:w.heap[b]?=U (cR r)):w.cell? (b,0)=U (V UV r.pc):=by unfold cR at h;simp only[Vk,h];rfl
theorem rG{r:Rd.cP}(h:w.heap[b]?=U (cR r)):w.cell? (b,1)=U (V UV r.ev):=by unfold cR at h;simp only[Vk,h];rfl
theorem vZ{r:Rd.cP}(h:w.heap[b]?=U (cR r)):w.cell? (b,2)=U (UR (aI r.acc 0)):=by unfold cR at h;simp only[Vk,h];rfl
theorem v7{r:Rd.cP}(h:w.heap[b]?=U (cR r)):w.cell? (b,3)=U (UR (aI r.acc 1)):=by unfold cR at h;simp only[Vk,h];rfl
theorem wb{r:Rd.cP}(h:w.heap[b]?=U (cR r)):w.cell? (b,4)=U (UR (aI r.acc 2)):=by unfold cR at h;simp only[Vk,h];rfl
theorem wg{r:Rd.cP}(h:w.heap[b]?=U (cR r)):w.cell? (b,5)=U (UR (aI r.acc 3)):=by unfold cR at h;simp only[Vk,h];rfl
theorem wh{r:Rd.cP}(h:w.heap[b]?=U (cR r)):w.cell? (b,6)=U (UR (aI r.acc 4)):=by unfold cR at h;simp only[Vk,h];rfl
theorem wk{r:Rd.cP}(h:w.heap[b]?=U (cR r)):w.cell? (b,7)=U (UR (aI r.acc 5)):=by unfold cR at h;simp only[Vk,h];rfl
theorem wm{r:Rd.cP}(h:w.heap[b]?=U (cR r)):w.cell? (b,8)=U (UR (aI r.acc 6)):=by unfold cR at h;simp only[Vk,h];rfl
theorem sI{r:Rd.cP}(h:w.heap[b]?=U (cR r)):w.cell? (b,9)=U (V UV r.fr):=by unfold cR at h;simp only[Vk,h];rfl
theorem yM{r:Rd.cP}(h:w.heap[b]?=U (cR r)):w.cell? (b,10)=U ↑r.mn:=by unfold cR at h;simp only[Vk,h];rfl
theorem yN{r:Rd.cP}(h:w.heap[b]?=U (cR r)):w.cell? (b,11)=U ↑r.mi:=by unfold cR at h;simp only[Vk,h];rfl
theorem yO{r:Rd.cP}(h:w.heap[b]?=U (cR r)):w.cell? (b,12)=U ↑r.ti:=by unfold cR at h;simp only[Vk,h];rfl
theorem yP{r:Rd.cP}(h:w.heap[b]?=U (cR r)):w.cell? (b,13)=U ↑r.un:=by unfold cR at h;simp only[Vk,h];rfl
open Go.RowKit Go.Shelf
attribute [local go_sem] YN
def RK(n₀ Bn:M)(W c:UF):Prop:=UH n₀ W c/\c.heap[Bn]?=W.heap[Bn]?
theorem c1j(F:Fence)(n:M)(T:F.fn 260)(A:F.round=UB)(hn:1<=n)(l Bn n₀:M)(r:Rd.cP)(q:Rd.hH r)(y H:J N->UF->Prop)
  (P:∀ pre x W,y pre W->pre.length<(Rd.kK r.ev 800 r.fr).length->YieldAt F (n-1) prog l #[V UV x] W fun e h =>(e=UW UE/\y (pre++[x]) h/\RK n₀ Bn W h)\/(e=UW UD/\H (pre++[x]) h))
  (W:UF) (D:W.heap[Bn]?=U (cR r)) (X:y [] W):
  CallsIn F n prog 260 #[.func (.yield l) #[] #[],Bn] W fun e h=>(∃ v,e=UW v) /\((∃ ys,ys=Rd.kK r.ev 800 r.fr/\y ys h)\/(∃ pre,pre <+: Rd.kK r.ev 800 r.fr/\H pre h)):=by
 have c9:=sI D;have e1:=q.e1;have e2:=q.e2;have f0:=q.f0;have f1:=q.f1;clear q;generalize R:Rd.kK r.ev 800 r.fr=S at *;refine callsIn_of_wp func260 rfl T ?_ A;simp only[ntmps260,YP,VB,VG,YQ,YR,YS,YT,YU,YV,YW,Vm];gi_wp2;gi_loopw [3] (fun v wr=>∃ (d:N) (f:M) (pre:J N),v=V UV d/\S=pre++Rd.kK r.ev f d/\0<=d/\d<=10000/\728<=d+f/\y pre wr/\wr.heap[Bn]?=U (cR r)) (fun v _=>(20000-intOf v).toNat)
 .exact⟨r.fr,800,[],rfl,R.symm,f0,O,O,X,D⟩
 .obtain⟨d,f,pre,rfl,c,L,K,I,G,E⟩:=hrel
  by_cases j:d<728
  .obtain⟨g,rfl⟩:∃ g,f=g+1:=⟨f-1,O⟩;have z:Rd.kK r.ev (g+1) d=d :: Rd.kK r.ev g (d+r.ev):=by simp[Rd.kK,j]
   rw[z] at c;have k1:UV.wrap (d+r.ev)=d+r.ev:=dJ O O;let⟨fn,tmps,assign,body,hy,hRd⟩:=P pre d wr G (by rw[c];simp);gi_wp2;refine hRd.mono ?_;rintro e W3 (⟨rfl,C,o⟩|⟨rfl,t⟩)
   .have c1:=rG (o.2.trans E)
    gi_wp2;go_roundw
    .exact⟨d+r.ev,g,pre++[d],by simp,by simp[c],O,O,O,C,o.2.trans E⟩
    .simp[intOf];omega
   .gi_wp2
    refine bodyPost_ret (results_none rfl _ _ _) rfl ?_;exact⟨⟨_,rfl⟩,.inr ⟨pre++[d],⟨Rd.kK r.ev g (d+r.ev),by simp[c]⟩,t⟩⟩
  .have z:Rd.kK r.ev f d=[]:=by cases f <;> simp[Rd.kK,j]
   rw[z,Xu] at c;subst c;gi_wp2;go_end0;exact⟨⟨_,rfl⟩,.inl G⟩
attribute [local go_sem] YN
theorem JT{r:Rd.cP}(h:w.heap[b]?=U (cR r)):∀ i:M,i<7->w.cell? (b,2+i)=U (UR (aI r.acc i))
 |0,_=>vZ h
 |1,_=>v7 h
 |2,_=>wb h
 |3,_=>wg h
 |4,_=>wh h
 |5,_=>wk h
 |6,_=>wm h
 |i+7,hi=>by omega
theorem b7E(F:Fence)(n:M)(h6:F.fn 256)(ab:F.round=UB)(hn:1<=n)(l Bn n₀:M)(r:Rd.cP)(hf:Rd.hH r)(L Jx:J N->UF->Prop)
  (hY:∀ pre x W,L pre W->pre.length<(Rd.ku r.acc r.fr r.ev 800 (r.fr-r.fr % 7)).length->YieldAt F (n-1) prog l #[V UV x] W fun e P =>(e=UW UE/\L (pre++[x]) P/\RK n₀ Bn W P)\/(e=UW UD/\Jx (pre++[x]) P))
  (W:UF) (hr:W.heap[Bn]?=U (cR r)) (h0:L [] W):
  CallsIn F n prog 256 #[.func (.yield l) #[] #[],Bn] W fun e P=>(∃ v,e=UW v) /\((∃ ys,ys=Rd.ku r.acc r.fr r.ev 800 (r.fr-r.fr % 7)/\L ys P)\/(∃ pre,pre <+: Rd.ku r.acc r.fr r.ev 800 (r.fr-r.fr % 7)/\Jx pre P)):=by
 have c9:=sI hr;have e1:=hf.e1;have e2:=hf.e2;have f0:=hf.f0;have f1:=hf.f1;clear hf;have m1:r.fr.tmod 7=r.fr % 7:=YM f0;have m2:UV.wrap (r.fr % 7)=r.fr % 7:=dJ O O;have m3:UV.wrap (r.fr-r.fr % 7)=r.fr-r.fr % 7:=dJ O O;have m4:UV.wrap (r.ev*7)=r.ev*7:=dJ O O;generalize hS:Rd.ku r.acc r.fr r.ev 800 (r.fr-r.fr % 7)=S at *;refine callsIn_of_wp func256 rfl h6 ?_ ab;simp only[ntmps256,YP,VB,VG,YQ,YR,YS,YT,YU,YV,YW,Vm];gi_wp2;gi_loopw [3] (fun v wr=>∃ (d:N) (f:M) (pre:J N),v=V UV d/\S=pre++Rd.ku r.acc r.fr r.ev f d/\0<=d/\d<=10000/\r.fr<d+7/\728<=d+f/\L pre wr/\wr.heap[Bn]?=U (cR r)) (fun v _=>(20000-intOf v).toNat)
 .exact⟨r.fr-r.fr % 7,800,[],rfl,hS.symm,O,O,O,O,h0,hr⟩
 .obtain⟨c,f,pre,rfl,z,af,ae,ac,ad,hJ,hR⟩:=hrel;clear c9 hr h0
  by_cases X:c<728
  .obtain⟨D,rfl⟩:∃ D,f=D+1:=⟨f-1,O⟩;have q1:Rd.ku r.acc r.fr r.ev (D+1) c=Rd.qY r.acc r.fr c++Rd.ku r.acc r.fr r.ev D (c+r.ev*7):=by simp[Rd.ku,X]
   rw[q1] at z;have k1:UV.wrap (c+r.ev*7)=c+r.ev*7:=dJ O O;have k2:UV.wrap (c+7)=c+7:=dJ O O;have c9:=sI hR;by_cases hm:r.fr<=c
   .have A:Rd.qY r.acc r.fr c=Rd.iV (fun d=>aI r.acc (d-c)) (7-0) (c+((0:M):N)):=by unfold Rd.qY;rw[show max c r.fr=c from by omega,show (c+7-c).toNat=7 from by omega];simp
    gi_wp2;gi_loopw [4] (fun v wr=>∃ (i:M) (g:J N),v=V UV (c+i)/\i<=7/\g++Rd.iV (fun d=>aI r.acc (d-c)) (7-i) (c+i)=pre++Rd.qY r.acc r.fr c/\L g wr/\wr.heap[Bn]?=U (cR r)) (fun v _=>(c+7-intOf v).toNat)
    .exact⟨0,pre,(by first|(simp;done)|(simp;omega)),O,by rw[A],hJ,hR⟩
    .obtain⟨i,g,rfl,hi,o,q,j⟩:=hrel;clear hJ hR c9
     by_cases G:i<7
     .have t:c+(i:N)<c+7:=O
      have T:=JT j i G;have k3:UV.wrap (c+(i:N)-c)=i:=by rw[show c+(i:N)-c=i from by omega];exact dJ O O
      have k4:UV.wrap (c+(i:N)+1)=c+i+1:=dJ O O;have hp:c+(i:N)-c=i:=O;have q5:Rd.iV (fun d=>aI r.acc (d-c)) (7-i) (c+i)=(if aI r.acc i then [c+(i:N)] else [])++Rd.iV (fun d=>aI r.acc (d-c)) (7-(i+1)) (c+((i+1:M):N)):=by rw[show 7-i=(7-(i+1))+1 from by omega,Rd.iV,hp,show c+((i+1:M):N)=c+i+1 from by omega];split <;> simp
      rw[q5] at o
      cases hb:aI r.acc i
      .rw[hb] at T o
       gi_wp2;refine⟨fun _ h=>(by cases h),?_⟩;gi_wp2;go_roundw
       .exact⟨i+1,g,by simp;omega,O,by simpa using o,q,j⟩
       .simp[intOf];omega
      .rw[hb] at T o;obtain⟨fn,R,C,aa,hy,I⟩:=hY g (c+i) wr q (by rw[z,<- V8,<- o];simp)
       gi_wp2;refine I.mono ?_;rintro e W3 (⟨rfl,K,E⟩|⟨rfl,y⟩)
       .gi_wp2
        go_roundw
        .exact⟨i+1,g++[c+(i:N)],by simp;omega,O,by simpa using o,K,E.2.trans j⟩
        .simp[intOf];omega
       .gi_wp2
        refine bodyPost_ret (results_none rfl _ _ _) rfl ?_;exact⟨⟨_,rfl⟩,.inr ⟨g++[c+(i:N)],⟨Rd.iV (fun d=>aI r.acc (d-c)) (7-(i+1)) (c+((i+1:M):N))++Rd.ku r.acc r.fr r.ev D (c+r.ev*7),by rw[z,<- V8,<- V8,<- o];simp⟩,y⟩⟩
     .have t:¬ c+(i:N)<c+7:=O
      have c1:=rG j;have e7:i=7:=O;subst e7;simp only[YX,Rd.iV,Xu] at o;gi_wp2;go_roundw
      .exact⟨c+r.ev*7,D,g,by simp,by rw[z,o,V8],O,O,O,O,q,j⟩
      .simp[intOf];omega
   .have H:r.fr=c+((r.fr-c).toNat:N):=O
    have A:Rd.qY r.acc r.fr c=Rd.iV (fun d=>aI r.acc (d-c)) (7-(r.fr-c).toNat) (c+((r.fr-c).toNat:N)):=by unfold Rd.qY;rw[<- H,show max c r.fr=r.fr from by omega,show (c+7-r.fr).toNat=7-(r.fr-c).toNat from by omega]
    have HW:=aB (Vf H A);clear H A;gi_wp2;gi_loopw [4] (fun v wr=>∃ (i:M) (g:J N),v=V UV (c+i)/\i<=7/\g++Rd.iV (fun d=>aI r.acc (d-c)) (7-i) (c+i)=pre++Rd.qY r.acc r.fr c/\L g wr/\wr.heap[Bn]?=U (cR r)) (fun v _=>(c+7-intOf v).toNat)
    .exact⟨(r.fr-c).toNat,pre,(by first|(rw[<- HW.1];done)|(rw[<- HW.1];congr 1;omega)),O,by rw[HW.2],hJ,hR⟩
    .obtain⟨i,g,rfl,hi,o,q,j⟩:=hrel;clear hJ hR c9
     by_cases G:i<7
     .have t:c+(i:N)<c+7:=O
      have T:=JT j i G;have k3:UV.wrap (c+(i:N)-c)=i:=by rw[show c+(i:N)-c=i from by omega];exact dJ O O
      have k4:UV.wrap (c+(i:N)+1)=c+i+1:=dJ O O;have hp:c+(i:N)-c=i:=O;have q5:Rd.iV (fun d=>aI r.acc (d-c)) (7-i) (c+i)=(if aI r.acc i then [c+(i:N)] else [])++Rd.iV (fun d=>aI r.acc (d-c)) (7-(i+1)) (c+((i+1:M):N)):=by rw[show 7-i=(7-(i+1))+1 from by omega,Rd.iV,hp,show c+((i+1:M):N)=c+i+1 from by omega];split <;> simp
      rw[q5] at o
      cases hb:aI r.acc i
      .rw[hb] at T o
       gi_wp2;refine⟨fun _ h=>(by cases h),?_⟩;gi_wp2;go_roundw
       .exact⟨i+1,g,by simp;omega,O,by simpa using o,q,j⟩
       .simp[intOf];omega
      .rw[hb] at T o;obtain⟨fn,R,C,aa,hy,I⟩:=hY g (c+i) wr q (by rw[z,<- V8,<- o];simp)
       gi_wp2;refine I.mono ?_;rintro e W3 (⟨rfl,K,E⟩|⟨rfl,y⟩)
       .gi_wp2
        go_roundw
        .exact⟨i+1,g++[c+(i:N)],by simp;omega,O,by simpa using o,K,E.2.trans j⟩
        .simp[intOf];omega
       .gi_wp2
        refine bodyPost_ret (results_none rfl _ _ _) rfl ?_;exact⟨⟨_,rfl⟩,.inr ⟨g++[c+(i:N)],⟨Rd.iV (fun d=>aI r.acc (d-c)) (7-(i+1)) (c+((i+1:M):N))++Rd.ku r.acc r.fr r.ev D (c+r.ev*7),by rw[z,<- V8,<- V8,<- o];simp⟩,y⟩⟩
     .have t:¬ c+(i:N)<c+7:=O
      have c1:=rG j;have e7:i=7:=O;subst e7;simp only[YX,Rd.iV,Xu] at o;gi_wp2;go_roundw
      .exact⟨c+r.ev*7,D,g,by simp,by rw[z,o,V8],O,O,O,O,q,j⟩
      .simp[intOf];omega
  .have q1:Rd.ku r.acc r.fr r.ev f c=[]:=by cases f <;> simp[Rd.ku,X]
   rw[q1,Xu] at z;subst z;gi_wp2;go_end0;exact⟨⟨_,rfl⟩,.inl hJ⟩
attribute [local go_sem] YN
theorem sM(h:hI w)(k:UH n₀ w w')(c:10<=n₀):hI w':=by let⟨a0,a1,a2,a3,a4,a5,a6,a7,a8,a9,a10,a11⟩:=h;refine⟨?_,?_,?_,?_,?_,?_,?_,?_,?_,?_,?_,?_⟩;all_goals (refine (k.cell Uo).trans ?_;assumption)
theorem b4V(n:M)(hn:1<=n)(l Bn n₀:M)(ac:10<=n₀)(r:Rd.cP)(H:Rd.hH r)(R Jx:J N->UF->Prop)
  (hY:∀ pre x W,R pre W->pre.length<(Rd.kL (Cal.dT r.fr) r.ev 100 (Cal.yT r.fr) (Cal.mT r.fr)).length->YieldAt YZ (n-1) prog l #[V UV x] W fun e F =>(e=UW UE/\R (pre++[x]) F/\RK n₀ Bn W F)\/(e=UW UD/\Jx (pre++[x]) F))
  (W:UF) (ht:hI W) (hr:W.heap[Bn]?=U (cR r)) (h0:R [] W):
  CallsIn YZ n prog 257 #[.func (.yield l) #[] #[],Bn] W fun e F=>(∃ v,e=UW v) /\((∃ ys,ys=Rd.kL (Cal.dT r.fr) r.ev 100 (Cal.yT r.fr) (Cal.mT r.fr)/\R ys F)\/(∃ pre,pre <+: Rd.kL (Cal.dT r.fr) r.ev 100 (Cal.yT r.fr) (Cal.mT r.fr)/\Jx pre F)):=by
 have c9:=sI hr;have e1:=H.e1;have e2:=H.e2;have f0:=H.f0;have f1:=H.f1;clear H;obtain⟨mo,mn,my,mm⟩:=Rd.sB f0 f1;obtain⟨g1,g2,g3,g4,g5,g6⟩:=(Cal.jx _ _ _).1 mo;have HD:Hid (∀ y m d:N,Cal.ok y m d=UE->Cal.num y m d=r.fr->y=Cal.yT r.fr/\m=Cal.mT r.fr/\d=Cal.dT r.fr):=fun y m d h k=>Cal.xV y m d r.fr h k;have DA:=aB (D7 r.fr W ht O O);clear mo mn g5 g6;generalize hS:Rd.kL (Cal.dT r.fr) r.ev 100 (Cal.yT r.fr) (Cal.mT r.fr)=S at *;generalize Cal.dT r.fr=dt at *;generalize Cal.yT r.fr=y0 at *;generalize Cal.mT r.fr=m0 at *;refine callsIn_of_wp func257 rfl trivial ?_ rfl;simp only[ntmps257,YP,VB,VG,YQ,YR,YS,YT,YU,YV,YW,Vm];gi_wp2_with (first
  |((try refine⟨trivial,?_⟩);gi_at_call 34;refine (callsIn_wide.2 DA).mono ?_;rintro e w1 ⟨y,m,d,rfl,j,t,rfl⟩;obtain⟨rfl,rfl,rfl⟩:=HD y m d j t))
 clear DA HD c9 j t;gi_loopw [3,4] (fun v u wr=>∃ (y m:N) (f:M) (pre:J N),v=V UV y/\u=V UV m/\S=pre++Rd.kL d r.ev f y m/\2024<=y/\y<=2034/\1<=m/\m<=12/\24312<12*y+m+f/\R pre wr/\wr.heap[Bn]?=U (cR r)/\hI wr) (fun v u _=>(30000-(12*intOf v+intOf u)).toNat)
 case atStart=>exact⟨y,m,100,[],rfl,rfl,hS.symm,O,O,O,O,O,h0,hr,ht⟩
 case round =>
  obtain⟨g,c,f,pre,rfl,rfl,o,a1,a2,a3,a4,a5,hJ,T,K⟩:=hrel;clear hr h0 ht;have P:=aB (b1Q g c wr K);have q:=Rd.ML (y:=g) (m:=c) a1 O a3 a4;by_cases A:Rd.reached g c=UE
  .have af:=q.1 A;obtain⟨D,rfl⟩:∃ D,f=D+1:=⟨f-1,O⟩;have E:Rd.kL d r.ev (D+1) g c=Rd.sG g c d++Rd.kL d r.ev D (Rd.pR g c r.ev) (Rd.oE c r.ev):=by simp[Rd.kL,A]
   obtain⟨l1,l2,l3⟩:=Rd.EA (y:=g) (m:=c) (ev:=r.ev);rw[E] at o;rw[A] at P
   cases j:Cal.ok g c d
   .have DY:=aB (AZ g c d wr K j);have LA:=aB (Lb g c r.ev wr O O a3 a4 e1 e2);have G:Rd.sG g c d=[]:=by simp[Rd.sG,j]
    have c1:=rG T;rw[G,YW] at o;clear q A E G;generalize Rd.pR g c r.ev=y2 at *;generalize Rd.oE c r.ev=m2 at *;gi_wp2_with (first
     |((try refine⟨trivial,?_⟩);gi_at_call 258;refine (callsIn_wide.2 P).mono ?_;rintro e w1 ⟨rfl,rfl⟩)
     |((try refine⟨trivial,?_⟩);gi_at_call 30;refine (callsIn_wide.2 DY).mono ?_;rintro e w1 ⟨rfl,rfl⟩))
    refine⟨fun _ h=>(by cases h),?_⟩;gi_wp2_with (first
     |((try refine⟨trivial,?_⟩);gi_at_call 259;refine (callsIn_wide.2 LA).mono ?_;rintro e w1 ⟨rfl,rfl⟩))
    go_roundw
    case rel=>exact⟨y2,m2,D,pre,rfl,rfl,o,by omega,by omega,l2,l3,by omega,hJ,T,K⟩
    case measure=>simp[intOf];omega
   .have DY:=aB (A5 g c d wr K j);have G:Rd.sG g c d=[Cal.num g c d]:=by simp[Rd.sG,j]
    rw[G] at o;clear q A E G;generalize Cal.num g c d=z at *;have LA:=aB (fun w=>Lb g c r.ev w O O a3 a4 e1 e2);generalize Rd.pR g c r.ev=y2 at *;generalize Rd.oE c r.ev=m2 at *;obtain⟨fn,ad,X,ae,hy,aa⟩:=hY pre z wr hJ (by rw[o];simp);gi_wp2_with (first
     |((try refine⟨trivial,?_⟩);gi_at_call 258;refine (callsIn_wide.2 P).mono ?_;rintro e w1 ⟨rfl,rfl⟩)
     |((try refine⟨trivial,?_⟩);gi_at_call 30;refine (callsIn_wide.2 DY).mono ?_;rintro e w1 ⟨rfl,rfl⟩))
    refine aa.mono ?_;rintro e W3 (⟨rfl,ab,C⟩|⟨rfl,L⟩)
    .have c1:=rG (C.2.trans T)
     gi_wp2_with (first
      |((try refine⟨trivial,?_⟩);gi_at_call 259;refine (callsIn_wide.2 (LA W3)).mono ?_;rintro e w2 ⟨rfl,rfl⟩))
     go_roundw
     case rel=>exact⟨y2,m2,D,pre++[z],rfl,rfl,by simp[o],O,O,l2,l3,O,ab,C.2.trans T,sM K C.1 ac⟩
     case measure=>simp[intOf];omega
    .gi_wp2
     refine bodyPost_ret (results_none rfl _ _ _) rfl ?_;exact⟨⟨_,rfl⟩,.inr ⟨pre++[z],⟨Rd.kL d r.ev D y2 m2,by simp[o]⟩,L⟩⟩
  .have E:Rd.kL d r.ev f g c=[]:=by cases f <;> simp[Rd.kL,A]
   have I:Rd.reached g c=UD:=bZ A;rw[E,Xu] at o;subst o;rw[I] at P;clear q E A I;gi_wp2_with (first
    |((try refine⟨trivial,?_⟩);gi_at_call 258;refine (callsIn_wide.2 P).mono ?_;rintro e w1 ⟨rfl,rfl⟩))
   go_end0;exact⟨⟨_,rfl⟩,.inl ⟨_,rfl,hJ⟩⟩
theorem c1i(r:Rd.cP)(w:UF):UI prog 244 #[kc r] w fun e w'=>e=UW (.func (.func 260) #[] #[w])/\w'=w.alloc (cR r):=by
 unfold kc;go_in;go_wp21;exact bodyPost_ret (v:=.func (.func 260) #[] #[w]) (by simp[results,results244,go_sem]) rfl ⟨rfl,rfl⟩
theorem b7D(r:Rd.cP)(w:UF):UI prog 242 #[kc r] w fun e w'=>e=UW (.func (.func 256) #[] #[w])/\w'=w.alloc (cR r):=by
 unfold kc;go_in;go_wp21;exact bodyPost_ret (v:=.func (.func 256) #[] #[w]) (by simp[results,results242,go_sem]) rfl ⟨rfl,rfl⟩
theorem b4U(r:Rd.cP)(w:UF):UI prog 243 #[kc r] w fun e w'=>e=UW (.func (.func 257) #[] #[w])/\w'=w.alloc (cR r):=by
 unfold kc;go_in;go_wp21;exact bodyPost_ret (v:=.func (.func 257) #[] #[w]) (by simp[results,results243,go_sem]) rfl ⟨rfl,rfl⟩
def kF(r:Rd.cP):M:=if r.pc=2 then 256 else if r.pc=3 then 257 else 260
theorem Mz(r:Rd.cP)(w:UF):UI prog 219 #[kc r] w fun e w'=>e=UW (.func (.func (kF r)) #[] #[UM (U ⟨w.heap.size+1,0,UB⟩)])/\w'=(w.alloc (cR r)).alloc (cR r):=by
 have C:=aB (b7D r (w.alloc (cR r)));have D:=aB (b4U r (w.alloc (cR r)));have E:=aB (c1i r (w.alloc (cR r)));have c:=Y0 w (cR r);have F:(w.alloc (cR r)).heap.size=w.heap.size+1:=Ui;have x0:=vY c;have T:=rG c;have S:=vZ c;have R:=v7 c;have P:=wb c;have L:=wg c;have K:=wh c;have I:=wk c;have H:=wm c;have G:=sI c;have y:=yM c;have t:=yN c;have q:=yO c;have o:=yP c;rw[F] at C D E;clear c F;unfold kc at *;obtain⟨X,A⟩:∃ X,X=w.alloc (cR r):=⟨_,rfl⟩;rw[<- A] at C D E x0 T S R P L K I H G y t q o;have h:=aB A;clear A;by_cases g:r.pc=2
 .have hb:(r.pc==2)=UE:=bZ g
  have f:kF r=256:=by unfold kF;rw[Uz g]
  rw[f];clear f g;go_in;go_upto_region 1 with fail;change YD _ _ _ _ (w.alloc (cR r));rw[<- h];go_wp2_with (first
   |(go_at_call 242;refine C.mono ?_;rintro e w1 ⟨rfl,rfl⟩))
  exact bodyPost_ret (v:=.func (.func 256) #[] #[UM (U ⟨w.heap.size+1,0,UB⟩)]) (by simp[results,results219,go_sem]) rfl ⟨rfl,by rw[h.out]⟩
 .have hb:(r.pc==2)=UD:=bZ g
  by_cases j:r.pc=3
  .have z:(r.pc==3)=UE:=bZ j
   have f:kF r=257:=by unfold kF;rw[Uy g,Uz j]
   rw[f];clear f j;go_in;go_upto_region 1 with fail;change YD _ _ _ _ (w.alloc (cR r));rw[<- h];go_wp2_with (first
    |(go_at_call 243;refine D.mono ?_;rintro e w1 ⟨rfl,rfl⟩))
   exact bodyPost_ret (v:=.func (.func 257) #[] #[UM (U ⟨w.heap.size+1,0,UB⟩)]) (by simp[results,results219,go_sem]) rfl ⟨rfl,by rw[h.out]⟩
  .have z:(r.pc==3)=UD:=bZ j
   have f:kF r=260:=by unfold kF;rw[Uy g,Uy j]
   rw[f];clear f;go_in;go_upto_region 1 with fail;change YD _ _ _ _ (w.alloc (cR r));rw[<- h];go_wp2_with (first
    |(go_at_call 244;refine E.mono ?_;rintro e w1 ⟨rfl,rfl⟩))
   exact bodyPost_ret (v:=.func (.func 260) #[] #[UM (U ⟨w.heap.size+1,0,UB⟩)]) (by simp[results,results219,go_sem]) rfl ⟨rfl,by rw[h.out]⟩
theorem Kq(n:M)(q:1<=n)(Bn n₀:M)(y:10<=n₀)(r:Rd.cP)(t:Rd.hH r)(w:UF)(G:Bn<w)(F:n₀<=w)(ht:hI w)(E:w.heap[Bn]?=U (cR r)):SeqStopsK YZ n prog (kF r) #[Bn] (fun x:N=>#[V UV x]) (RK n₀ Bn) (fun ys=>ys=Rd.seq r) (fun pre=>pre <+: Rd.seq r) (Rd.seq r).length w:=by
 intro l C A W D _ _ f z;have c:=(D.block Bn G).trans E;have o:=sM ht D O;by_cases g:r.pc=2
 .have h:kF r=256:=by unfold kF;rw[Uz g]
  have es:Rd.seq r=Rd.ku r.acc r.fr r.ev 800 (r.fr-r.fr % 7):=by unfold Rd.seq;rw[Uz g]
  rw[es] at f ⊢;rw[h];exact b7E YZ n trivial rfl q l Bn n₀ r t C A f W c z
 .by_cases j:r.pc=3
  .have h:kF r=257:=by unfold kF;rw[Uy g,Uz j]
   have es:Rd.seq r=Rd.kL (Cal.dT r.fr) r.ev 100 (Cal.yT r.fr) (Cal.mT r.fr):=by unfold Rd.seq;rw[Uy g,Uz j]
   rw[es] at f ⊢;rw[h];exact b4V n q l Bn n₀ y r t C A f W o c z
  .have h:kF r=260:=by unfold kF;rw[Uy g,Uy j]
   have es:Rd.seq r=Rd.kK r.ev 800 r.fr:=by unfold Rd.seq;rw[Uy g,Uy j]
   rw[es] at f ⊢;rw[h];exact c1j YZ n trivial rfl q l Bn n₀ r t C A f W c z
attribute [local go_sem] YN
structure FD(w W:UF)(r:Rd.cP)(la mo:N)(pre:J N):Prop where
 l:Boxed W (w.heap.size+1) 3 la
 m:Boxed W (w.heap.size+2) 3 mo
 d:∃ v,Boxed W (w.heap.size+3) 53 v/\W.ownsRow (w.heap.size+6) 3 1 v pre.length (pre.map (V UV))
 ru:W.heap[w.heap.size+5]?=U (cR r)
 bl:UH w w W
 sz:w+6<=W.heap.size
 le:∀ x∈pre,x<=la
 ml:(pre.length:N)<=mo
theorem A9{c:UF}{row:Uu M}{t:TypeId}(h:Boxed W B t v)(g:W.grownBy c row)(f:∀ r,row=U r->∃ o:Obj,W.heap[r]?=U o/\o.isCells=UD):Boxed c B t v :=
 h.kept g (fun e=>by let⟨o,ho,hc⟩:=f B e.symm;rw[show W.heap[B]?=_ from h] at ho;cases ho;cases hc)
theorem AA(w:UF)(r:Rd.cP)(la mo:N)(t:w<=B):OwnFrom B (fun pre W=>FD w W r la mo pre):=by
 intro pre W A row h f c;have j:∀ r,row=U r->∃ o:Obj,W.heap[r]?=U o/\o.isCells=UD:=fun r e=>(c r e).2;let⟨v,hv,ho⟩:=h.d;refine⟨A9 h.l f j,A9 h.m f j,⟨v,A9 hv f j,ho.kept f ?_⟩,(f.block _ (by have:=h.sz;omega) (fun e=>?_)).trans h.ru,h.bl.grown f h.bl.size (fun k e=>U0 t (c k e).1),U0 h.sz f.size,h.le,h.ml⟩
 .rcases ho.2 with ⟨rfl,_⟩|⟨g,cap,z,rfl,_,q,_⟩
  .exact .inl rfl
  .refine .inr fun y=>?_
   let⟨o,ho,hc⟩:=j g (by simpa[V9] using y.symm);rw[q] at ho;cases ho;cases hc
 .let⟨o,ho,hc⟩:=j _ e.symm;rw[h.ru] at ho;cases ho;cases hc
theorem JL{r:Rd.cP}{pre:J N}(h:FD w W r la mo pre)(P:Boxed W (w.heap.size+3) 53 v)(F:W.ownsRow (w.heap.size+6) 3 1 v pre.length (pre.map (V UV))){c:Obj}{v':UG}(f:w1.ownsRow (w.heap.size+6) 3 1 v' (pre.length+1) (pre.map (V UV)++[V UV x]))(D:(W.alloc c).grownBy w1 v.ownBlock)(T:x<=la)(hm:(pre.length:N)+1<=mo):Boxed w1 (w.heap.size+3) 53 v/\KeepsFrom (w.heap.size+6) W (w1.setCell ⟨w.heap.size+3,0,UB⟩ v')/\RK w.heap.size (w.heap.size+5) W (w1.setCell ⟨w.heap.size+3,0,UB⟩ v')/\FD w (w1.setCell ⟨w.heap.size+3,0,UB⟩ v') r la mo (pre++[x]):=by
 have X:=h.sz;have S:∀ b,v.ownBlock=U b->w.heap.size+6<=b:=fun b q=>(F.lt b q).1;have L:∀ b,v'.ownBlock=U b->w.heap.size+6<=b:=fun b q=>(f.lt b q).1;have t:∀ b,b<w.heap.size+6->w1.heap[b]?=W.heap[b]?:=fun b q =>(D.block b Un (fun e=>by grind)).trans (Below.heap_alloc W c b O)
 have C:∀ b,b≠w.heap.size+3->(w1.setCell ⟨w.heap.size+3,0,UB⟩ v').heap[b]?=w1.heap[b]?:=fun b q=>Below.heap_setCell _ _ _ b q;have A:Boxed w1 (w.heap.size+3) 53 v:=(t _ O).trans P;have K:W.heap.size<=w1.heap.size:=by have:=D.size;simp at this;omega
 have I:UH w.heap.size W (w1.setCell ⟨w.heap.size+3,0,UB⟩ v'):=(((zr _ W).alloc O c).grown D Un (fun j e=>by grind)).setCell (p:=⟨w.heap.size+3,0,UB⟩) Uo v';refine⟨A,?_,⟨I,(C _ O).trans (t _ O)⟩,⟨((C _ O).trans (t _ O)).trans h.l,((C _ O).trans (t _ O)).trans h.m,⟨v',A.set v',?_⟩,((C _ O).trans (t _ O)).trans h.ru,h.bl.trans I,?_,?_,?_⟩⟩
 .refine (((KeepsOthers.alloc W c).trans (KeepsOthers.of_grownBy D fun j o H G=>?_)).trans (KeepsOthers.setCell _ _ _)).from _
  rcases (F.alloc c).2 with ⟨rfl,_⟩|⟨g,cap,R,rfl,_,E,_⟩
  .simp[V9] at H
  .obtain rfl:g=j:=by simpa[V9] using H
   rw[E] at G;cases G;rfl
 .have:=f.kept (grownBy_setCell' w1 (w.heap.size+3) v') (.inr (fun e=>by grind))
  simpa using this
 .have:=(grownBy_setCell' w1 (w.heap.size+3) v').size;omega
 .intro y z;rcases Vb.1 z with z|z
  .exact h.le y z
  .simp at z;omega
 .simp;omega
structure BG(w Y:UF)(r:Rd.cP)(la mo:N):Prop where
 ru:Y.heap[w.heap.size]?=U (cR r)
 l:Boxed Y (w.heap.size+1) 3 la
 m:Boxed Y (w.heap.size+2) 3 mo
 d:Boxed Y (w.heap.size+3) 53 ()
 bl:UH w w Y
 sz:Y=w.heap.size+4
theorem Hc(w:UF)(r:Rd.cP)(la mo:N):BG w ((((w.alloc (cR r)).alloc (UX #[la] 3)).alloc (UX #[mo] 3)).alloc (UX #[()] 53)) r la mo:=by have j:=Y0 w (cR r);have g:=Y4 (w.alloc (cR r)) 3 la;have f:=Y4 ((w.alloc (cR r)).alloc (UX #[la] 3)) 3 mo;have c:=Y4 (((w.alloc (cR r)).alloc (UX #[la] 3)).alloc (UX #[mo] 3)) 53 ();simp only[Wp] at g f c;have k:∀ (W:UF) (o:Obj) (b:M) (x:Obj),W.heap[b]?=U x->(W.alloc o).heap[b]?=U x:=fun W o b x h=>(Below.heap_alloc W o b (YC.1 h).1).trans h;exact⟨k _ _ _ _ (k _ _ _ _ (k _ _ _ _ j)),(g.alloc _).alloc _,f.alloc _,c,((((zr _ w).alloc aJ _).alloc Ui _).alloc Uo _).alloc Uo _,by simp⟩
theorem SI(w:UF)(r:Rd.cP)(la mo:N):BG w (((((w.alloc (cR r)).alloc (UX #[la] 3)).alloc (UX #[mo] 3)).drew).alloc (UX #[()] 53)) r la mo:=by let⟨h1,h2,h3,h4,h5,h6⟩:=Hc w r la mo;exact⟨h1,h2,h3,h4,h5.drew,h6⟩
theorem Kl{r:Rd.cP}(g:Boxed Y (w.heap.size+1) 3 la)(f:Boxed Y (w.heap.size+2) 3 mo)(h:Boxed Y (w.heap.size+3) 53 ())(j:UH w w Y)(c:Y=w.heap.size+4)(o:0<=mo):FD w ((Y.alloc (cR r)).alloc (cR r)) r la mo []:=by have b:=Y0 (Y.alloc (cR r)) (cR r);rw[Wp,c] at b;exact⟨(g.alloc _).alloc _,(f.alloc _).alloc _,⟨_,(h.alloc _).alloc _,Wc _ _ _ _⟩,b,(j.alloc O _).alloc Un _,by simp;omega,by simp,by grind⟩
theorem RK.trans{A B C:UF}(h:RK n₀ Bn A B)(k:RK n₀ Bn B C):RK n₀ Bn A C:=⟨h.1.trans k.1,k.2.trans h.2⟩
theorem RK.put(f:n₀<=w)(t:Bn<w)(W:UF)(l:M)(o c:Obj)(g:w<=l)(h:W.heap[l]?=U o)(q:o.isCells=UD)(j:o.isWalk=UD):RK n₀ Bn W (W.putObj l c) :=⟨belowK_b f W l o c g h q j,(grownBy_putObj' W l c).block Bn (by have:=(YC.1 h).1;omega) (fun e=>by grind)⟩
theorem K9(r:Rd.cP)(c:Array UG)(w:UF):(callFunc (kF r) c).run prog w=.ok (.enter (kF r) c) w:=by
 unfold kF;split
 .exact enters_of func256 Um rfl c w
 .split
  .exact enters_of func257 Um rfl c w
  .exact enters_of func260 Um rfl c w
theorem sy{size:M}(h:w.ownsRow B e size v n xs):∃ a cap,v=UO a n cap:=by
 rcases h.2 with ⟨rfl,c⟩|⟨g,cap,_,rfl,_⟩
 .rw[c];exact⟨_,_,rfl⟩
 .exact⟨_,_,rfl⟩
theorem yt{C size:M}(h:w.ownsRow B e size v n xs)(f:C<=B):w.ownsRow C e size v n xs :=⟨h.1,h.2.imp id (fun ⟨g,cap,c,q,o,j⟩=>⟨g,cap,c,q,U0 f o,j⟩)⟩
theorem uX{k:M}(h:∀ x∈l,p x=UE)(f:l.length<=k):(l.takeWhile p).take k=l:=by
 have e:l.takeWhile p=l:=by
  induction l with
  |nil=>rfl
  |cons a l ih=>rw[Y5,h a Ui,Uz rfl,ih (fun x c=>h x (by simp[c])) Uo]
 rw[e,VN f]
theorem LH{pre rest:J N}{k:M}(h:∀ y∈pre,p y=UE)(f:pre.length<=k)(c:p x=UD\/pre.length=k):((pre++x :: rest).takeWhile p).take k=pre:=by
 have e:(pre++x :: rest).takeWhile p=pre++(x :: rest).takeWhile p:=List.takeWhile_append_of_pos h;rw[e];rcases c with c|c
 .rw[Y5,c];simp[VN f]
 .rw[<- c,List.take_left]
def vx(r:Rd.cP):N:=if 0<r.ti then 727 else r.un
def vw(r:Rd.cP):N:=if 0<r.ti then r.ti else 41
theorem Bx(r:Rd.cP):Rd.ig r=((Rd.seq r).takeWhile (fun d=>decide (d<=vx r))).take (vw r).toNat:=by unfold Rd.ig vx vw;split;rfl;rfl
theorem b2a(r:Rd.cP)(hf:Rd.hH r)(w:UF)(ht:hI w)(T:10<=w.heap.size):UI prog 186 #[kc r] w fun e w'=>∃ v,e=UW v/\w'.ownsRow w 3 1 v (Rd.ig r).length ((Rd.ig r).map (V UV))/\UH w w w':=by
 obtain⟨i0,aq,ao,an,al⟩:=info_parts qC;have t1:=hf.t1;refine (callsIn_wide (n:=3)).1 ?_;unfold kc;refine callsIn_of_wp_marks func186 rfl trivial ?_ rfl;simp only[ntmps186,YP,VB,VG,YQ,YR,YS,YT,YU,YV,YW,Vm];refine wpIn_wide.2 ?_;by_cases S:0<r.ti
 .have R:vx r=727/\vw r=r.ti:=by unfold vx vw;rw[Uz S,Uz S];exact⟨rfl,rfl⟩
  have HY:Hid (BG w (((((w.alloc (cR r)).alloc (UX #[V UV 727] 3)).alloc (UX #[V UV r.ti] 3)).drew).alloc (UX #[UO UB 0 0] 53)) r 727 r.ti):=SI w r 727 r.ti;have EL:=aB R;clear R;go_upto_region 4 with fail;go_region;go_upto_region 5 with fail;change YD _ _ _ _ (((((w.alloc (cR r)).alloc (UX #[V UV 727] 3)).alloc (UX #[V UV r.ti] 3)).drew).alloc (UX #[UO UB 0 0] 53));generalize ((((w.alloc (cR r)).alloc (UX #[V UV 727] 3)).alloc (UX #[V UV r.ti] 3)).drew).alloc (UX #[UO UB 0 0] 53)=Y at HY ⊢;obtain⟨g,I,H,L,P,F⟩:=HY.out;have EN:=aB (Mz r Y);have HZ:=aB (Kl (r:=r) I H L P F);have TZ:Hid (hI ((Y.alloc (cR r)).alloc (cR r))):=sM ht (HZ.out O).bl T;rw[F] at EN;unfold kc at EN;have x0:=vY g;have x1:=rG g;have x2:=vZ g;have x3:=v7 g;have x4:=wb g;have x5:=wg g;have x6:=wh g;have x7:=wk g;have x8:=wm g;have x9:=sI g;have ad:=yM g;have ac:=yN g;have ab:=yO g;have aa:=yP g;clear g I H L P HY;go_wp2_with (first
   |(go_at_call 219;refine EN.mono ?_;rintro e w1 ⟨rfl,rfl⟩))
  clear EN x0 x1 x2 x3 x4 x5 x6 x7 x8 x9 ad ac ab aa;have ai:((Y.alloc (cR r)).alloc (cR r)).heap.size=w.heap.size+6:=by simp[F]
  generalize (Y.alloc (cR r)).alloc (cR r)=Z at HZ TZ ai ⊢;have hF:=HZ O;have HS:=aB (Kq 2 O (w.heap.size+5) w.heap.size T r hf Z O O TZ hF.ru);refine (wpIn_wide (n:=3)).1 ?_;refine wpIn_rangeFunc_ownG rfl O (gf:=kF r) (lb:=#[UM (U ⟨w.heap.size+5,0,UB⟩)]) rfl trivial (K9 r) HS (fun h k=>RK.trans h k) (RK.put O O) fI (fun _=>rfl)
   (fun pre W=>FD w W r 727 r.ti pre) (fun c q W=>c=.exit 0/\∃ pre x,q=pre++[x]/\FD w W r 727 r.ti pre/\(727<x\/(pre.length:N)=r.ti))
   (AA w r 727 r.ti O) (fun c s A B row hs hg hr=>by obtain⟨e,pre,x,e2,h,h3⟩:=hs;exact⟨e,pre,x,e2,AA w r 727 r.ti O pre A B row h hg hr,h3⟩) hF
   (fun x=>{ tmps:=#[UT #[V UV r.pc,V UV r.ev,UR (aI r.acc 0),UR (aI r.acc 1),UR (aI r.acc 2),UR (aI r.acc 3),UR (aI r.acc 4),UR (aI r.acc 5),UR (aI r.acc 6),V UV r.fr,V UV r.mn,V UV r.mi,V UV r.ti,V UV r.un],UM (U ⟨w.heap.size,0,UB⟩),UO UB 0 0,UM (U ⟨w.heap.size+1,0,UB⟩),UM (U ⟨w.heap.size+1+1,0,UB⟩),UM (U ⟨w.heap.size+1+1+1,0,UB⟩),V UV x,UM (U ⟨w.heap.size,13,UB⟩),V UV r.un,UM (U ⟨w.heap.size,12,UB⟩),V UV r.ti,UR UE,UM (U ⟨w.heap.size,12,UB⟩),V UV r.ti,UT #[V UV r.pc,V UV r.ev,UR (aI r.acc 0),UR (aI r.acc 1),UR (aI r.acc 2),UR (aI r.acc 3),UR (aI r.acc 4),UR (aI r.acc 5),UR (aI r.acc 6),V UV r.fr,V UV r.mn,V UV r.mi,V UV r.ti,V UV r.un],.func (.func (kF r)) #[] #[UM (U ⟨w.heap.size+5,0,UB⟩)],V UV x,undef,undef,undef,undef,undef,undef,undef,undef,undef,undef,undef,undef,undef,undef],defers:=[] }) ?assign ?body ?done ?stop
  case assign =>intro l x W K o;gi_wp2;exact o
  case body =>
   rintro l pre x W h aw;obtain⟨v,t,f⟩:=h.d;have az:=h.l.cell;have ay:=h.m.cell;have a3:=t.cell;have av:=h.ml;have HI:=aB h;obtain⟨a0,z,rfl⟩:=sy f;have au:w.heap.size+6<=W.heap.size:=h.sz;by_cases c1:727<x
   .clear h f t
    gi_wp2;exact⟨Y6 _ _,rfl,pre,x,rfl,HI,.inl c1⟩
   .by_cases X:(pre.length:N)=r.ti
    .have ak:((pre.length:N)==r.ti)=UE:=by simpa using X
     have C2:=aB X;clear h f t X;gi_wp2;exact⟨Y6 _ _,rfl,pre,x,rfl,HI,.inr C2⟩
    .have ak:((pre.length:N)==r.ti)=UD:=by simpa using X
     clear h;gi_wp2_with (first
      |(gi_at_builtin;refine wpListIn_append_own _ rfl _ _ 53 rfl (w.heap.size+6) 3 i0 (V UV 0) 1 8 underlying53 aq ao an al rfl Uj _ _ _ rfl (f.alloc _) ⟨W.heap.size,0,UB⟩ 1 1 [V UV x] rfl rfl (cell_one_new _ _ _) Uq Up O Un ?_;intro v' w1 j E _;obtain⟨g',ar,rfl⟩:=ownsRow_succ j;obtain⟨G,af,ae,ag⟩:=JL HI t f j E O O;have a4:=G.cell;have ax:=G.frozen))
     exact⟨af,ae,ag⟩
  case done =>
   rintro D ys W hD rfl h o;have ED:Hid (Rd.ig r=Rd.seq r):=by show Rd.ig r=Rd.seq r;have h0:=h.ml;rw[Bx,EL.1,EL.2];exact uX (fun y hy=>by simpa using h.le y hy) O
   obtain⟨v,t,f⟩:=h.d;have hc:=t.cell;have hb:=h.bl;obtain⟨a0,z,rfl⟩:=sy f;clear h;go_wp2_with fail;refine⟨by simp,.inl ⟨_,_,rfl,run_takeDeferred o,?_⟩⟩;refine⟨_,results_tmp rfl _ _ _,_,rfl,?_,hb.trans (belowK_b (w:=w) aJ W D _ _ O o rfl rfl)⟩;rw[ED];exact ownsRow_putObj (yt f O) _ o rfl
  case stop =>
   rintro D c q W hD aj ⟨rfl,pre,x,rfl,h,hx⟩ o;have ED:Hid (Rd.ig r=pre):=by obtain⟨rest,C⟩:=aj;show Rd.ig r=pre;have h0:=h.ml;rw[Bx,EL.1,EL.2,<- C,V8];exact LH (fun y hy=>by simpa using h.le y hy) O (hx.imp (fun e=>by simpa using e) (fun e=>by omega))
   obtain⟨v,t,f⟩:=h.d;have hc:=t.cell;have hb:=h.bl;obtain⟨a0,z,rfl⟩:=sy f;clear h;refine wpIn_wide.2 ?_;go_wp2_with fail;refine⟨by simp,.inl ⟨_,_,rfl,run_takeDeferred o,?_⟩⟩;refine⟨_,results_tmp rfl _ _ _,_,rfl,?_,hb.trans (belowK_b (w:=w) aJ W D _ _ O o rfl rfl)⟩;rw[ED];exact ownsRow_putObj (yt f O) _ o rfl
 .have R:vx r=r.un/\vw r=41:=by unfold vx vw;rw[Uy S,Uy S];exact⟨rfl,rfl⟩
  have HY:Hid (BG w ((((w.alloc (cR r)).alloc (UX #[V UV r.un] 3)).alloc (UX #[V UV 41] 3)).alloc (UX #[UO UB 0 0] 53)) r r.un 41):=Hc w r r.un 41;have EL:=aB R;clear R;go_upto_region 5 with fail;change YD _ _ _ _ ((((w.alloc (cR r)).alloc (UX #[V UV r.un] 3)).alloc (UX #[V UV 41] 3)).alloc (UX #[UO UB 0 0] 53));generalize (((w.alloc (cR r)).alloc (UX #[V UV r.un] 3)).alloc (UX #[V UV 41] 3)).alloc (UX #[UO UB 0 0] 53)=Y at HY ⊢;obtain⟨g,I,H,L,P,F⟩:=HY.out;have EN:=aB (Mz r Y);have HZ:=aB (Kl (r:=r) I H L P F);have TZ:Hid (hI ((Y.alloc (cR r)).alloc (cR r))):=sM ht (HZ.out O).bl T;rw[F] at EN;unfold kc at EN;have x0:=vY g;have x1:=rG g;have x2:=vZ g;have x3:=v7 g;have x4:=wb g;have x5:=wg g;have x6:=wh g;have x7:=wk g;have x8:=wm g;have x9:=sI g;have ad:=yM g;have ac:=yN g;have ab:=yO g;have aa:=yP g;clear g I H L P HY;go_wp2_with (first
   |(go_at_call 219;refine EN.mono ?_;rintro e w1 ⟨rfl,rfl⟩))
  clear EN x0 x1 x2 x3 x4 x5 x6 x7 x8 x9 ad ac ab aa;have ai:((Y.alloc (cR r)).alloc (cR r)).heap.size=w.heap.size+6:=by simp[F]
  generalize (Y.alloc (cR r)).alloc (cR r)=Z at HZ TZ ai ⊢;have hF:=HZ O;have HS:=aB (Kq 2 O (w.heap.size+5) w.heap.size T r hf Z O O TZ hF.ru);refine (wpIn_wide (n:=3)).1 ?_;refine wpIn_rangeFunc_ownG rfl O (gf:=kF r) (lb:=#[UM (U ⟨w.heap.size+5,0,UB⟩)]) rfl trivial (K9 r) HS (fun h k=>RK.trans h k) (RK.put O O) fI (fun _=>rfl)
   (fun pre W=>FD w W r r.un 41 pre) (fun c q W=>c=.exit 0/\∃ pre x,q=pre++[x]/\FD w W r r.un 41 pre/\(r.un<x\/(pre.length:N)=41))
   (AA w r r.un 41 O) (fun c s A B row hs hg hr=>by obtain⟨e,pre,x,e2,h,h3⟩:=hs;exact⟨e,pre,x,e2,AA w r r.un 41 O pre A B row h hg hr,h3⟩) hF
   (fun x=>{ tmps:=#[UT #[V UV r.pc,V UV r.ev,UR (aI r.acc 0),UR (aI r.acc 1),UR (aI r.acc 2),UR (aI r.acc 3),UR (aI r.acc 4),UR (aI r.acc 5),UR (aI r.acc 6),V UV r.fr,V UV r.mn,V UV r.mi,V UV r.ti,V UV r.un],UM (U ⟨w.heap.size,0,UB⟩),UO UB 0 0,UM (U ⟨w.heap.size+1,0,UB⟩),UM (U ⟨w.heap.size+1+1,0,UB⟩),UM (U ⟨w.heap.size+1+1+1,0,UB⟩),V UV x,UM (U ⟨w.heap.size,13,UB⟩),V UV r.un,UM (U ⟨w.heap.size,12,UB⟩),V UV r.ti,UR UD,undef,undef,UT #[V UV r.pc,V UV r.ev,UR (aI r.acc 0),UR (aI r.acc 1),UR (aI r.acc 2),UR (aI r.acc 3),UR (aI r.acc 4),UR (aI r.acc 5),UR (aI r.acc 6),V UV r.fr,V UV r.mn,V UV r.mi,V UV r.ti,V UV r.un],.func (.func (kF r)) #[] #[UM (U ⟨w.heap.size+5,0,UB⟩)],V UV x,undef,undef,undef,undef,undef,undef,undef,undef,undef,undef,undef,undef,undef,undef],defers:=[] }) ?assign ?body ?done ?stop
  case assign =>intro l x W K o;gi_wp2;exact o
  case body =>
   rintro l pre x W h aw;obtain⟨v,t,f⟩:=h.d;have az:=h.l.cell;have ay:=h.m.cell;have a3:=t.cell;have av:=h.ml;have HI:=aB h;obtain⟨a0,z,rfl⟩:=sy f;have au:w.heap.size+6<=W.heap.size:=h.sz;by_cases c1:r.un<x
   .clear h f t
    gi_wp2;exact⟨Y6 _ _,rfl,pre,x,rfl,HI,.inl c1⟩
   .by_cases X:(pre.length:N)=41
    .have ak:((pre.length:N)==41)=UE:=by simpa using X
     have C2:=aB X;clear h f t X;gi_wp2;exact⟨Y6 _ _,rfl,pre,x,rfl,HI,.inr C2⟩
    .have ak:((pre.length:N)==41)=UD:=by simpa using X
     clear h;gi_wp2_with (first
      |(gi_at_builtin;refine wpListIn_append_own _ rfl _ _ 53 rfl (w.heap.size+6) 3 i0 (V UV 0) 1 8 underlying53 aq ao an al rfl Uj _ _ _ rfl (f.alloc _) ⟨W.heap.size,0,UB⟩ 1 1 [V UV x] rfl rfl (cell_one_new _ _ _) Uq Up O Un ?_;intro v' w1 j E _;obtain⟨g',ar,rfl⟩:=ownsRow_succ j;obtain⟨G,af,ae,ag⟩:=JL HI t f j E O O;have a4:=G.cell;have ax:=G.frozen))
     exact⟨af,ae,ag⟩
  case done =>
   rintro D ys W hD rfl h o;have ED:Hid (Rd.ig r=Rd.seq r):=by show Rd.ig r=Rd.seq r;have h0:=h.ml;rw[Bx,EL.1,EL.2];exact uX (fun y hy=>by simpa using h.le y hy) O
   obtain⟨v,t,f⟩:=h.d;have hc:=t.cell;have hb:=h.bl;obtain⟨a0,z,rfl⟩:=sy f;clear h;go_wp2_with fail;refine⟨by simp,.inl ⟨_,_,rfl,run_takeDeferred o,?_⟩⟩;refine⟨_,results_tmp rfl _ _ _,_,rfl,?_,hb.trans (belowK_b (w:=w) aJ W D _ _ O o rfl rfl)⟩;rw[ED];exact ownsRow_putObj (yt f O) _ o rfl
  case stop =>
   rintro D c q W hD aj ⟨rfl,pre,x,rfl,h,hx⟩ o;have ED:Hid (Rd.ig r=pre):=by obtain⟨rest,C⟩:=aj;show Rd.ig r=pre;have h0:=h.ml;rw[Bx,EL.1,EL.2,<- C,V8];exact LH (fun y hy=>by simpa using h.le y hy) O (hx.imp (fun e=>by simpa using e) (fun e=>by omega))
   obtain⟨v,t,f⟩:=h.d;have hc:=t.cell;have hb:=h.bl;obtain⟨a0,z,rfl⟩:=sy f;clear h;refine wpIn_wide.2 ?_;go_wp2_with fail;refine⟨by simp,.inl ⟨_,_,rfl,run_takeDeferred o,?_⟩⟩;refine⟨_,results_tmp rfl _ _ _,_,rfl,?_,hb.trans (belowK_b (w:=w) aJ W D _ _ O o rfl rfl)⟩;rw[ED];exact ownsRow_putObj (yt f O) _ o rfl
def gi(r:Rd.cP):J N:=if Rd.gR r=0 then Rd.ig r else []
theorem b1Z{r:Rd.cP}(h:Rd.hH r)(c:x∈Rd.ig r):0<=x/\x<728:=by have f:=h.f0;rw[Rd.Ln h] at c;split at c;have:=Rd.uZ h c;omega;have:=Rd.uZ h (List.mem_of_mem_take c);omega
theorem c2W(h:l≠[]):l[l.length-1]?=U (l.getLastD 0):=by rw[<- List.getLast?_eq_getElem?,Y7 h,Y8,Y7 h];rfl
theorem c3i(r:Rd.cP)(h:Rd.hH r):(Rd.ig r).length<=99:=by have:=h.t1;unfold Rd.ig;split;rw[XW];omega;rw[XW];omega
theorem Tn{size:M}(h:w.ownsRow B e size v n xs)(k:UH w w w'):w'.ownsRow B e size v n xs:=by refine⟨h.1,h.2.imp id (fun ⟨g,cap,c,q,o,f,j⟩=>⟨g,cap,c,q,o,(k.block g (YC.1 f).1).trans f,j⟩)⟩
theorem DQ{size:M}(h:w.ownsRow B e size v n xs):w.drew.ownsRow B e size v n xs:=⟨h.1,h.2⟩
theorem JW(r:Rd.cP)(hf:Rd.hH r)(w:UF)(ht:hI w)(af:10<=w.heap.size):UI prog 152 #[kc r] w fun e w'=>∃ v,e=UW (US #[v,V UV (Rd.gR r)])/\w'.ownsRow w 3 1 v (gi r).length ((gi r).map (V UV))/\UH w w w':=by
 have hX:UH w w (w.alloc (cR r)):=aS;have f:=Y0 w (cR r);have hs:(w.alloc (cR r)).heap.size=w.heap.size+1:=Ui;have FI:=aB (b2a r hf (w.alloc (cR r)) (sM ht hX af) (by rw[hs];omega));have x0:=vY f;have x1:=rG f;have x2:=vZ f;have x3:=v7 f;have x4:=wb f;have x5:=wg f;have x6:=wh f;have x7:=wk f;have x8:=wm f;have x9:=sI f;have ad:=yM f;have ac:=yN f;have ab:=yO f;have aa:=yP f;have HX:=aB (Vf hX (Vf hs f));have aj:=c3i r hf;have HF:=aB hf;have C:Hid (Rd.gR r=if 40<r.ti then 11 else if 40<(Rd.ig r).length then 11 else if Rd.ig r=[]\/((Rd.ig r).length:N)<r.ti then 6 else if Rd.oC r ((Rd.ig r).getLastD 0) then 6 else 0):=rfl;have E:Hid (gi r=if Rd.gR r=0 then Rd.ig r else []):=rfl;have t1:=hf.t1;clear hX f hs ht hf;unfold kc at *;by_cases c1:40<r.ti
 .have c:Rd.gR r=11:=by rw[C,Uz c1]
  have o:gi r=[]:=by rw[E,c];simp
  rw[c,o];clear FI C E c o;go_in;go_upto_region 1 with fail;change YD _ _ _ _ (w.alloc (cR r));generalize w.alloc (cR r)=X at *;go_wp21;exact bodyPost_ret (v:=US #[(),V UV 11]) (by simp[results,results152,go_sem]) rfl ⟨_,rfl,Wc _ _ _ _,HX.1⟩
 .rw[Uy c1] at C
  go_in;go_upto_region 1 with fail;change YD _ _ _ _ (w.alloc (cR r));generalize w.alloc (cR r)=X at *;go_upto_region 4 with (first
   |(go_at_call 186;refine FI.mono ?_;rintro e w1 ⟨v,rfl,own,g⟩))
  obtain⟨a,cap,rfl⟩:=sy own;have F:Hid (UH w w w1):=HX.1.trans (g.mono (by rw[HX.2.1];omega));have OW:Hid (w1.ownsRow w 3 1 (UO a (Rd.ig r).length cap) (Rd.ig r).length ((Rd.ig r).map (V UV))):=yt own (by rw[HX.2.1];omega);have MB:Hid (∀ x∈Rd.ig r,0<=x/\x<728):=fun x hx=>b1Z HF hx;have y0:=aT g x0;have y1:=aT g x1;have T:=aT g x2;have S:=aT g x3;have R:=aT g x4;have P:=aT g x5;have K:=aT g x6;have I:=aT g x7;have H:=aT g x8;have G:=aT g x9;have y:=aT g ad;have t:=aT g ac;have D:=aT g ab;have q:=aT g aa;clear FI x0 x1 x2 x3 x4 x5 x6 x7 x8 x9 ad ac ab aa own g HX;generalize Rd.ig r=L at *;by_cases A:40<L.length
  .have c:Hid (Rd.gR r=11):=by show Rd.gR r=11;rw[C,Uz A]
   have o:Hid (gi r=[]):=by show gi r=[];rw[E,c.out];simp
   have ai:(40:N)<(L.length:N):=O;clear y0 y1 T S R P K I H G y t D q A;go_wp21;exact bodyPost_ret (v:=US #[(),V UV 11]) (by simp[results,results152,go_sem]) rfl ⟨_,by rw[c.out],by rw[o.out];exact Wc _ _ _ _,F⟩
  .have ai:¬ (40:N)<(L.length:N):=O
   by_cases z:L=[]
   .have c:Hid (Rd.gR r=6):=by show Rd.gR r=6;rw[C,Uy A,Uz (.inl z)]
    have o:Hid (gi r=[]):=by show gi r=[];rw[E,c.out];simp
    have ag:((L.length:N)==0)=UE:=by rw[z];rfl
    clear y0 y1 T S R P K I H G y t q z A;go_wp21;exact bodyPost_ret (v:=US #[(),V UV 6]) (by simp[results,results152,go_sem]) rfl ⟨_,by rw[c.out],by rw[o.out];exact Wc _ _ _ _,F⟩
   .have h0:=List.length_pos_iff.2 z;have ag:((L.length:N)==0)=UD:=by simp;omega
    by_cases c4:(L.length:N)<r.ti
    .have c:Hid (Rd.gR r=6):=by show Rd.gR r=6;rw[C,Uy A,Uz (.inr c4)]
     have o:Hid (gi r=[]):=by show gi r=[];rw[E,c.out];simp
     clear y0 y1 T S R P K I H G y t q z A;go_wp21;exact bodyPost_ret (v:=US #[(),V UV 6]) (by simp[results,results152,go_sem]) rfl ⟨_,by rw[c.out],by rw[o.out];exact Wc _ _ _ _,F⟩
    .obtain⟨Hh,ak,e0⟩:=Joins.ownsRow_form OW O;simp only[Value.slice.injEq,true_and] at e0;obtain⟨rfl,rfl⟩:=e0;have a0:=OW.cellAt (L.length-1) O;rw[List.getElem?_map,c2W z,Option.map_some] at a0;have hl:=MB (L.getLastD 0) (by rw[Y8,Y7 z];exact List.getLast_mem z);have SO:=aB (L4 r HF (L.getLastD 0) hl.1 O w1.drew);have ae:Hid (Rd.gR r=if Rd.oC r (L.getLastD 0) then 6 else 0):=by show Rd.gR r=_;rw[C,Uy A,Uy (by rintro (h|h) <;> contradiction)]
     have LB:Hid (Rd.oC r (L.getLastD 0)=decide (1048320<(mu r (L.getLastD 0)).2)):=rfl;have k1:UV.wrap ((L.length:N)-1)=((L.length-1:M):N):=by rw[show (L.length:N)-1=((L.length-1:M):N) from by omega];exact dJ O O
     have k2:((L.length-1:M):N)<(L.length:N):=O;generalize (mu r (L.getLastD 0)).2=til at *;generalize (mu r (L.getLastD 0)).1=fro at *;generalize L.getLastD 0=ld at *;unfold kc at SO;clear z hl A MB C;have al:∀ w:UF,(Instr.field 83 (UT #[V UV fro,til]) 1).run prog w=.ok til w:=fun _=>by kernel_rfl
     by_cases c5:1048320<til
     .have c:Hid (Rd.gR r=6):=by show Rd.gR r=6;rw[ae,LB];simp[c5]
      have o:Hid (gi r=[]):=by show gi r=[];rw[E,c.out];simp
      go_upto_region 9 with fail;go_region_with (first
       |(go_at_call 187;refine SO.mono ?_;rintro e w2 ⟨rfl,j⟩))
      all_goals have BF:=F.drew.trans (j.mono F.size);clear j y0 y1 T S R P K I H G y t D q a0;go_wp21;exact bodyPost_ret (v:=US #[(),V UV 6]) (by simp[results,results152,go_sem]) rfl ⟨_,by rw[c.out],by rw[o.out];exact Wc _ _ _ _,BF⟩
     .have c:Hid (Rd.gR r=0):=by show Rd.gR r=0;rw[ae,LB];simp[c5]
      have o:Hid (gi r=L):=by show gi r=L;rw[E,c.out];simp
      go_upto_region 9 with fail;go_region_with (first
       |(go_at_call 187;refine SO.mono ?_;rintro e w2 ⟨rfl,j⟩))
      all_goals have BF:Hid (UH w w w2/\w2.ownsRow w 3 1 (UO Hh L.length cap) L.length (L.map (V UV))):=⟨F.drew.trans (j.mono F.size),Tn (w:=w1.drew) (DQ OW) j⟩;clear j y0 y1 T S R P K I H G y t D q a0;go_wp21;exact bodyPost_ret (v:=US #[UO Hh L.length cap,V UV 0]) (by simp[results,results152,go_sem]) rfl ⟨_,by rw[c.out],by rw[o.out];exact BF.2,BF.1⟩
theorem eH.sA(h:eH w d s r aM)(k:UH w w Z)(z:w<=Q){q:UG}(own:Z.ownsRow (Q+1) 3 1 q l.length (l.map (V UV)))(n:N)(a b c e f g i:UG):eu w d aM (s,⟨0,0,n,[],l,[],[]⟩) (bT 0 0 n () q () ()) (dE Z Q a b c e f g i):=by
 have o:=mY Z Q a b c e f g i;have y:=h.dk.later k;have nq:∀ b,Q<=b->aM b=UB:=fun b j=>h.dk.none O;have st:Step anyS w aM aM Z (dE Z Q a b c e f g i):=⟨⟨_,o,fun x t=>.inr Uo⟩,fun _ _ h=>h,fun _ _ h=>.inl h⟩;have rp:mV Z (Q+1) aM (bT 0 0 n () q () ()) ⟨0,0,n,[],l,[],[]⟩ :=⟨_,_,_,_,[],rfl,rfl,iw.nil _ _ _,⟨own,fun b j=>nq b (by have:=(own.lt b j).1;omega)⟩,eO.nil _ _ _,eO.nil _ _ _,(fun b j=>by cases j),fun b _=>by simp[V9]⟩
 exact⟨r,aM,y.off o (fun x t=>by grind),h.of,h.wl,h.hl,(Step.below k).trans st,(rp.off o (fun x t=>by grind)).base O⟩
theorem a9G{r:Rd.cP}(c:Rd.hH r)(h:Rd.gR r≠0):aA.aX s (.expand r)=(s,aA.bS.error (Rd.gR r)):=by have e:=(Rd.sF c).1;simp only[aA.aX];rw[<- e,Uz h]
theorem b5n{r:Rd.cP}(c:Rd.hH r)(h:Rd.gR r=0):aA.aX s (.expand r)=(s,⟨0,0,((gi r).length:N),[],gi r,[],[]⟩):=by
 let⟨e1,e2⟩:=Rd.sF c;have g:=(e2 Uo).1;have f:gi r=Rd.cN r:=by unfold gi;rw[Uz h,g]
 simp only[aA.aX];rw[<- e1,Uy O,f];rfl
theorem c0R(w:UF)(r:Rd.cP):let X:=((w.alloc (UX #[V UV r.pc,V UV r.ev,aI r.acc 0,aI r.acc 1,aI r.acc 2,aI r.acc 3,aI r.acc 4,aI r.acc 5,aI r.acc 6,V UV r.fr,r.mn,r.mi,r.ti,r.un] 173)).alloc bI);UH w w X/\X.heap[w.heap.size+1]?=U bI/\X=w.heap.size+2/\X.heap[w.heap.size]?=U (UX #[V UV r.pc,V UV r.ev,aI r.acc 0,aI r.acc 1,aI r.acc 2,aI r.acc 3,aI r.acc 4,aI r.acc 5,aI r.acc 6,V UV r.fr,r.mn,r.mi,r.ti,r.un] 173 (0,0)):=by let⟨h1,h2⟩:=BA (w:=w) (UX #[V UV r.pc,V UV r.ev,aI r.acc 0,aI r.acc 1,aI r.acc 2,aI r.acc 3,aI r.acc 4,aI r.acc 5,aI r.acc 6,V UV r.fr,r.mn,r.mi,r.ti,r.un] 173);exact⟨h1,h2,by simp,(Below.heap_alloc _ _ _ Ui).trans (Y0 w _)⟩
theorem b8D(h:eH w d s rw_ aM)(ht:hI w)(aa:10<=w.heap.size)(r:Rd.cP)(z:Rd.hH r):UI prog 110 #[UT #[V UV r.pc,V UV r.ev,aI r.acc 0,aI r.acc 1,aI r.acc 2,aI r.acc 3,aI r.acc 4,aI r.acc 5,aI r.acc 6,V UV r.fr,r.mn,r.mi,r.ti,r.un]] w fun e w'=>∃ v,e=UW v/\eu w d aM (aA.aX s (.expand r)) v w':=by
 obtain⟨hX,y,o,j⟩:=c0R w r;have DY:=aB (JW r z ((w.alloc (UX #[V UV r.pc,V UV r.ev,aI r.acc 0,aI r.acc 1,aI r.acc 2,aI r.acc 3,aI r.acc 4,aI r.acc 5,aI r.acc 6,V UV r.fr,r.mn,r.mi,r.ti,r.un] 173)).alloc bI) (sM ht hX aa) (by rw[o];omega));have HE:=aB (a9G (s:=s) z);have HO:=aB (b5n (s:=s) z);have HH:=aB h;have t:=aB (Vf hX (Vf y o));have x0:=bN j 0 rfl;have x1:=bN j 1 rfl;have x2:=bN j 2 rfl;have x3:=bN j 3 rfl;have x4:=bN j 4 rfl;have x5:=bN j 5 rfl;have x6:=bN j 6 rfl;have x7:=bN j 7 rfl;have x8:=bN j 8 rfl;have x9:=bN j 9 rfl;have F:=bN j 10 rfl;have E:=bN j 11 rfl;have D:=bN j 12 rfl;have C:=bN j 13 rfl;unfold kc at DY;clear h hX y o j z ht;go_in;go_upto_region 1 with fail;change YD _ _ _ _ ((w.alloc (UX #[V UV r.pc,V UV r.ev,aI r.acc 0,aI r.acc 1,aI r.acc 2,aI r.acc 3,aI r.acc 4,aI r.acc 5,aI r.acc 6,V UV r.fr,r.mn,r.mi,r.ti,r.un] 173)).alloc bI);generalize ((w.alloc (UX #[V UV r.pc,V UV r.ev,aI r.acc 0,aI r.acc 1,aI r.acc 2,aI r.acc 3,aI r.acc 4,aI r.acc 5,aI r.acc 6,V UV r.fr,r.mn,r.mi,r.ti,r.un] 173)).alloc bI)=X at *;go_upto_region 2 with (first
  |(go_at_call 152;refine DY.mono ?_;rintro e w1 ⟨da,rfl,own,hb⟩))
 obtain⟨a1,cap,rfl⟩:=sy own;have BX:=t.1.trans (hb.mono t.1.size);have QX:=(Q7.of t.2.1).later (hb.block _ (by rw[t.2.2];omega));have OW:Hid (w1.ownsRow (w.heap.size+1+1) 3 1 (UO a1 (gi r).length cap) (gi r).length ((gi r).map (V UV))):=by have:=own;rw[t.2.2] at this;exact this
 clear DY x0 x1 x2 x3 x4 x5 x6 x7 x8 x9 F E D C own hb t;by_cases q:Rd.gR r=0
 .have A:=aB (HO q);have T:(Rd.gR r != 0)=UD:=bZ q
  have AF:Hid (∀ a b c e f g i,eu w d aM (aA.aX s (.expand r)) (bT 0 0 ((gi r).length:N) () (UO a1 (gi r).length cap) () ()) (dE w1 (w.heap.size+1) a b c e f g i)):=fun a b c e f g i=>by rw[A];exact HH.sA BX O OW _ a b c e f g i
  clear HE HO A OW;generalize (gi r).length=nn at *;generalize Rd.gR r=er at *;subst q;obtain⟨R,P,L,K,I,H,G,fq⟩:=QX;go_wp21;exact cV results110 ⟨R,P,L,K,I,H,G,fq⟩ ⟨_,rfl,AF _ _ _ _ _ _ _⟩
 .have A:=aB (HE q);have T:(Rd.gR r != 0)=UE:=bZ q
  clear HE HO OW q;generalize Rd.gR r=er at *;go_wp21;refine aK (ly er w1) fun w2 S=>?_;have HF:=aB (HH.refuse BX QX S A);obtain⟨R,P,L,K,I,H,G,fq⟩:=HF.1;simp only[bT];go_wp21;exact cV results110 ⟨R,P,L,K,I,H,G,fq⟩ ⟨_,rfl,HF.2⟩
theorem b2m(h:eH w d s rw_ aM)(ht:hI w)(E:10<=w.heap.size)(r:Rd.cP)(G:Rd.hH r):UI prog 62 #[d,UU 173 (UT #[V UV r.pc,V UV r.ev,aI r.acc 0,aI r.acc 1,aI r.acc 2,aI r.acc 3,aI r.acc 4,aI r.acc 5,aI r.acc 6,V UV r.fr,r.mn,r.mi,r.ti,r.un])] w fun e w'=>∃ v,e=UW v/\eu w d aM (aA.aX s (.expand r)) v w':=by
 have F:=aB (h.pv (UX #[V UV r.pc,V UV r.ev,aI r.acc 0,aI r.acc 1,aI r.acc 2,aI r.acc 3,aI r.acc 4,aI r.acc 5,aI r.acc 6,V UV r.fr,r.mn,r.mi,r.ti,r.un] 173));have H:=aB (b8D F.1 (sM ht F.2.1 E) (U0 E F.2.1.size) r G);clear h;unfold bI at H F;have q:=oS 173 Uj;have D:=pG 173 Uj;have A:=qs 173 Uj;have t:=qT 173 Uj;have j:=sk 173 Uj;have g:=te 173 Uj;have o:=uD 173 Uj;have z:=vL 173 Uj;have f:=xT 173 Uj;have y:=zY 173 Uj;have C:=Cv 173 Uj;have c:=oj underlying173;go_in;go_wp21;refine H.mono ?_;rintro e P ⟨v,rfl,I⟩;obtain⟨er,at_,R,a1,a2,a3,a4,n1,X,T,S,c1,c2,c3,c4,rfl,K,G⟩:=I.pq F.2;have L:=aB G;clear I G H q D A t j g o z f y C c;let⟨q0,q1,q2,q3,q4,q5,q6,fq⟩:=K;simp only[bT];go_wp21;exact cV results62 ⟨q0,q1,q2,q3,q4,q5,q6,fq⟩ ⟨_,rfl,L⟩
theorem Jp:∀ (L:J (N × N))(j:M)(u:UG),(L.flatMap ia)[j]?=U u->∃ (i:M)(h:i<L.length),(j=i*2/\u=V UV L[i].1)\/(j=i*2+1/\u=V UV L[i].2)
 |[],j,u,h=>by grind
 |p :: L,0,u,h=>by refine⟨0,by simp,.inl ⟨rfl,?_⟩⟩;simp[ia] at h;exact h.symm
 |p :: L,1,u,h=>by refine⟨0,by simp,.inr ⟨rfl,?_⟩⟩;simp[ia] at h;exact h.symm
 |p :: L,j+2,u,h=>by
  have c:(L.flatMap ia)[j]?=U u:=by simpa[ia] using h
  let⟨i,hi,e⟩:=Jp L j u c;refine⟨i+1,by grind,?_⟩;rcases e with ⟨g,f⟩|⟨g,f⟩
  .exact .inl ⟨O,by grind⟩
  .exact .inr ⟨O,by grind⟩
theorem Me(L:J (N × N)):(L.flatMap ia).length=L.length*2:=by
 induction L with
 |nil=>rfl
 |cons p L ih=>simp[ia,ih];omega
theorem b8A(L:J (N × N)):∀ u∈L.flatMap ia,u.oneCell'=UE:=by intro u c;let⟨p,_,hp⟩:=List.mem_flatMap.1 c;simp[ia] at hp;rcases hp with rfl|rfl <;> rfl
theorem b4C(w:UF)(B cap:M)(L:J (N × N))(o:SL w B L)(D:L.length<=100):UI prog 197 #[UO B L.length cap] w fun e w'=>∃ v,e=UW v/\w'.ownsRow w 83 2 v L.length (L.flatMap ia)/\UH w w w':=by
 let⟨i0,hi0,hz0,hz1,hz2⟩:=info_parts xX;have z:∀ (w:UF) (a:Uu Addr) (n c n' h:M),(binOp .eql 57 (UO a n c) (UO UB n' h)).run prog w=.ok a.isNone w:=fun w a n c n' h=>Lib.run_eql_slice_nil w _ _ a n c n' h underlying57;have y:=aB o;clear o;go_in;go_wp2_with (at_builtin;refine wpList_append_own _ rfl _ _ 57 rfl w 83 i0 _ 2 16 underlying57 hi0 hz0 hz1 hz2 rfl Uj _ _ _ rfl (World.ownsRow_made w #[] 0 aJ (zN _) rfl) (B,0) L.length cap (L.flatMap ia) rfl ?qc1 ?qc2 ?qc3 ?qc4 ?qc5 ?qc6 ?_)
 .exact Me L
 .intro j u C;rw[Addr.add_lit];refine Lib.cell?_alloc_some _ ?_;obtain⟨i,t,⟨rfl,rfl⟩|⟨rfl,rfl⟩⟩:=Jp L j u C
  .have:=(y i t).1
   simpa using this
  .have:=(y i t).2
   simpa using this
 .exact b8A L
 .unfold maxLen;omega
 .omega
 .simp
 intro v' w1 g f q;go_wp2;go_ret;refine⟨v',rfl,by simpa using g,?_⟩;exact ((zr _ w).alloc aJ _).grown f Ui (by intro k A;simp[V9] at A;omega)
end Go.Proofs.YtolaacmheeaadaaGreatDoor
