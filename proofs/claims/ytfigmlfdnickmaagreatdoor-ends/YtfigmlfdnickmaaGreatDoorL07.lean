import Derived.Test.YtfigmlfdnickmaaGreatDoorL06
import Derived.Deep.CutRange
import Derived.RangeFuncKeeps
import Derived.RangeFuncBound
import Derived.RangeFuncLeaves
import Derived.RangeFuncBox
import Derived.Shelf.Abstract
import Derived.OwnWalkIn
import Derived.TacticsInMore
import Derived.LoopNIn
import Derived.LoopIn
import Derived.Deep.RegionWith
import Derived.Deep.RegionHeld3
import Derived.Maps.AppendAt
import Derived.Deep.AppendLies
import Derived.Lib.SmallJoins
import Derived.Lib.SliceRun
set_option maxRecDepth 100000
set_option maxHeartbeats 8000000
open Go.Proofs.Tryz
open _root_ renaming ByteArray->XK,List->XL,Option->XM,Nat->XP,Int->XQ,if_neg->XR,if_pos->XS,Int->N,Nat->M,List->J
open Option renaming none->XU,some->XV,mem_toList->ZL,some->U
open Bool renaming false->XW,true->XX
open Go renaming World->XY,Value->XZ,Calls->X4
open Go.RowKit renaming Below->X0
open List renaming length_append->YZ,mem_append->Yv,map_append->Zl,nodup_append->YC,mem_map->Zh,length_cons->Y0,length_nil->Y7,cons_append->YH,append_assoc->YU,take_of_length_le->Ze
open Nat renaming le_trans->Yk
open Go.World renaming block_lt_of_cell?->Yl,size_alloc->ZM,cell?->YF,ownsRow_nil->ZD
open Option.some renaming inj->ZN
open Go.IntKind renaming i64->Yf
open And renaming intro->Yz
open Go.Value renaming slice->X9,ownBlock->ZB,int->X7,pointer->X8,string->Ya,bool->Yb,tuple->Yc,agg->Yd,iface->Ye,int->V
open Go.Ending renaming returned->Yg
open Go.Obj renaming cells->Yh
namespace Go.Proofs.YtfigmlfdnickmaaGreatDoor
variable{name:XK}{g:EG}{a fr k la long mo til u x:XQ}{p:XQ->Bool}{l:XL XQ}{xs:XL XZ}{B Bn Q b d e i m n n' n₀:XP}{c1 aN:XP->XM bH}{r rw_:Raw}{s:aA.St}{v:XZ}{W Y Z w w' w1 wx:XY}
open Go.RowKit
theorem DK.vR(h:DK w d r aN){f:Lit->XM M}(z:w.cell? ⟨d,3,Option.none⟩=U (.map (U m)))(C:aN m=U .me)(T:∀ id,f (ki id)=gW r.eg id)(L:iF w g)(D:aN g.eb=Option.none)(S:aN g.B=Option.none)(h3:B<=g.eb)(h4:B<=g.B)(h5:g.eb≠g.B)(y:∀ x∈r.eg,x.e.id≠g.e.id)(p:fO prog 3 w' m n' (Go.Proofs.YtfigmlfdnickmaaGreatDoor.mC f (ki g.e.id) (U g.eb)) (if (f (ki g.e.id)).isSome then r.eg.length else r.eg.length+1))(o:w.grownBy w' (U m)):
  ∃ q,DK w' d { r with eg:=r.eg++[g] } q/\Step (·=.me) B aN q w w'/\∀ k,aN k=Option.none->k≠g.eb->k≠g.B->q k=Option.none:=by
 have k:aH [m] w w':=⟨o.os,o.tape,o.output,o.size,fun i H hn=>o.block i H (by simpa using hn)⟩;have jP:Step (·=.me) B aN (iA aN [g.eb] .ent) w w':=vB k (fun x j=>.inl ⟨_,by simp at j;subst j;exact C,rfl⟩) (fun x j _=>by simp at j;omega)
 have R:iA aN [g.eb] .ent g.B=Option.none:=by
  unfold iA;rw[S];simp only;rw[XR (by simpa using Ne.symm h5)]
 have F:Step (·=.me) B (iA aN [g.eb] .ent) (iA (iA aN [g.eb] .ent) [g.B] .span) w' w':=vB (G:=[]) (aH.refl _ _) XA (fun x j _=>by simp at j;omega);have st:=jP.trans F;obtain⟨b1,b2,X,b4,E⟩:=h.base st XA;have I:iA (iA aN [g.eb] .ent) [g.B] .span g.eb=U .ent:=Eb (vq XA (fun c' z=>by rw[D] at z;cases z));have K:iA (iA aN [g.eb] .ent) [g.B] .span g.B=U .span:=vq XA (fun c' z=>by rw[R] at z;cases z);have t:g.eb≠m/\g.B≠m:=⟨fun e=>(by rw[e,C] at D;cases D),fun e=>(by rw[e,C] at S;cases S)⟩;refine⟨_,⟨b1,b2,h.rI st (E 2) XA,⟨m,mC f (ki g.e.id) (U g.eb),(E 3).trans z,st.hI _ _ C,?_,fun x=>?_⟩,h.rE st (E 4) XA,h.rJ st (E 5) (X 5) XA,fun i H=>h.qm st i H XA,fun x j=>?_,?_,?_,X,b4,fun x c j=>?_⟩,st,fun x j n1 n2=>?_⟩
 .rw[T,Ef y] at p;show fO _ _ _ _ (r.eg++[g]).length _ (r.eg++[g]).length;rw[YZ];exact p.tight
 .show mC f (ki g.e.id) (U g.eb) (ki x)=gW (r.eg++[g]) x;rw[JI y]
  by_cases e:x=g.e.id
  .rw[e,uu,XS rfl]
  .rw[ux f _ (fun e2=>e (Jv e2)),XR e,T]
 .rcases Yv.1 j with j|j
  .exact h.rV st XA XA x j
  .have:x=g:=by simpa using j
   subst this;exact⟨L.off k (by simpa using t.1) (by simpa using t.2),I,K⟩
 .show ((r.eg++[g]).map (·.eb)).Nodup;rw[Zl,YC];refine⟨h.nd,by simp,fun a P b A e=>?_⟩;obtain⟨x,j,rfl⟩:=Zh.1 P;have:=(h.en x j).2.1;simp at A;rw[e,A,D] at this;cases this
 .show ((r.eg++[g]).map (·.e.id)).Nodup;rw[Zl,YC];refine⟨h.ni,by simp,fun a P b A e=>?_⟩;obtain⟨x,j,rfl⟩:=Zh.1 P;simp at A;exact y x j (by rw[e,A])
 .rcases qg j with e|⟨_,e,_⟩
  .rcases qg e with e|⟨_,e,_⟩
   .exact zL (h.lt x c e) st.size
   .simp at e;subst e;exact zL L.lt st.size
  .simp at e;subst e;exact zL L.en.lt st.size
 .cases e:iA (iA aN [g.eb] .ent) [g.B] .span x with
  |none=>rfl
  |some c =>
   rcases qg e with e|⟨_,e,_⟩
   .rcases qg e with e|⟨_,e,_⟩
    .rw[j] at e;cases e
    .exact absurd (List.mem_singleton.1 e) n1
   .exact absurd (List.mem_singleton.1 e) n2
theorem DK.vQ(h:DK w d r aN){f:Lit->XM M}(F:w.cell? ⟨d,2,Option.none⟩=U (.map (U m)))(L:aN m=U .mt)(hf:∀ n,f (nN n)=kH r.tg n){t:TG}(ht:TH w t.tb t.name t.aM t.A t.T Option.none Option.none [] [])(S:aN t.tb=Option.none)(h3:B<=t.tb)(C:∀ x∈r.tg,x.name≠t.name)(p:fO prog 9 w' m n' (Go.Proofs.YtfigmlfdnickmaaGreatDoor.mC f (nN t.name) (U t.tb)) (if (f (nN t.name)).isSome then r.tg.length else r.tg.length+1))(o:w.grownBy w' (U m)):
  ∃ q,DK w' d { r with tg:=r.tg++[t] } q/\Step (·=.mt) B aN q w w'/\∀ k,aN k=Option.none->k≠t.tb->q k=Option.none:=by
 have k:aH [m] w w':=⟨o.os,o.tape,o.output,o.size,fun i R hn=>o.block i R (by simpa using hn)⟩;have st:Step (·=.mt) B aN (iA aN [t.tb] (.bA r.tg.length)) w w':=vB k (fun x j=>.inl ⟨_,by simp at j;subst j;exact L,rfl⟩) (fun x j _=>by simp at j;omega);obtain⟨b1,b2,b3,b4,G⟩:=h.base st XA;have D:t.tb≠m:=fun e=>by rw[e,L] at S;cases S
 have K:iA aN [t.tb] (.bA r.tg.length) t.tb=U (.bA r.tg.length):=vq XA (fun c' F=>by rw[S] at F;cases F)
 have z:kH r.tg t.name=Option.none:=by
  rw[uw];have:r.tg.find? (fun y=>aA.cO y.name t.name)=Option.none:=List.find?_eq_none.2 (fun y hy=>by rw[Bool.not_eq_true,ry];exact C y hy);rw[this];rfl
 refine⟨_,⟨b1,b2,⟨m,mC f (nN t.name) (U t.tb),(G 2).trans F,st.hI _ _ L,?_,fun x=>?_⟩,h.tc st (G 3) XA,h.rE st (G 4) XA,h.rJ st (G 5) (b3 5) XA,fun i R=>?_,h.rV st XA XA,h.nd,h.ni,b3,b4,fun x c j=>?_⟩,st,fun x j n1=>?_⟩
 .rw[hf,z] at p;show fO _ _ _ _ (r.tg++[t]).length _ (r.tg++[t]).length;rw[YZ];exact p.tight
 .show mC f (nN t.name) (U t.tb) (nN x)=kH (r.tg++[t]) x;rw[Uw C]
  by_cases e:x=t.name
  .rw[e,uu,XS rfl]
  .rw[ux f _ (fun E=>e (Te E)),XR e,hf]
 .have P:i<r.tg.length+1:=by simpa using R
  by_cases e:i<r.tg.length
  .have E:(r.tg++[t])[i]'(by simpa using P)=r.tg[i]:=List.getElem_append_left e;show ∃ I H Fl X,TH w' (r.tg++[t])[i].tb _ _ _ _ I H Fl X/\_;rw[E];exact h.qm st i e XA
  .have e3:i=r.tg.length:=O
   subst e3;have E:(r.tg++[t])[r.tg.length]'XA=t:=XA
   show ∃ I H Fl X,TH w' (r.tg++[t])[r.tg.length].tb _ _ _ _ I H Fl X/\_;rw[E];refine⟨Option.none,Option.none,[],[],ht.off k (fun x j=>by simp at j;subst j;simpa using D),fun x j=>by simp at j;subst j;exact K⟩
 .rcases qg j with e|⟨_,e,_⟩
  .exact zL (h.lt x c e) st.size
  .simp at e;subst e;exact zL (ht.lt _ XA) st.size
 .cases e:iA aN [t.tb] (.bA r.tg.length) x with
  |none=>rfl
  |some c =>
   rcases qg e with e|⟨_,e,_⟩
   .rw[j] at e;cases e
   .exact absurd (List.mem_singleton.1 e) n1
open aA (aO St dL kept eA dI dE im cN cO iu dZ ie bO Inv)
structure Fv(w T:XY)(B d Q:M)(s:St)(r:Raw)(aN:M->XM bH)(g:EG)(r1:Raw)(c1:M->XM bH):Prop where
 dk:DK T d r1 c1
 en:iF T (g.num (s.given+1))
 ce:c1 g.eb=XU
 cb:c1 g.B=XU
 st:Step anyS B aN c1 w T
 q7:Q7 T Q
 qc:c1 Q=XU
 of:Of (aA.kB s g.e).1 { r1 with given:=s.given+1,eg:=r1.eg++[g.num (s.given+1)] }
 wl:Wl { r1 with given:=s.given+1,eg:=r1.eg++[g.num (s.given+1)] }
 eg:r1.eg=r.eg
 hl:r1.hl=r.hl
def TL(w T:XY)(B d Q:M)(s:St)(r:Raw)(aN:M->XM bH)(g:EG):Prop:=∃ c c1,Fv w T B d Q s r aN g c c1
structure mj(w:XY)(B d:M)(s:St)(r:Raw)(aN:M->XM bH)(g:EG)(i:M):Prop where
 ds:eh w d s r aN
 en:iF w g
 ce:aN g.eb=XU
 cb:aN g.B=XU
 be:B<=g.eb
 bb:B<=g.B
 ne:g.eb≠g.B
 hB:B<=w
 hi:i<r.tg.length
 name:r.tg[i].name=g.e.bA
 tb:g.tb=r.tg[i].tb
 ok:ie s.now g.e
theorem mj.num(h:mj w B d s r aN g i)(n:N):ie s.now (g.num n).e:=⟨h.ok.u1,h.ok.u9,h.ok.sl,h.ok.s0,h.ok.sp,h.ok.ri,h.ok.kd⟩
theorem mj.fresh(h:mj w B d s r aN g i):∀ x∈r.eg,x.e.id≠(g.num (s.given+1)).e.id:=fun x c e=>by
 have:=(h.ds.inv.lS _ (h.ds.of.mem c)).2;simp only[EG.num] at e;omega
structure Cl(w Y:XY)(B d Q:M)(s:St)(r:Raw)(aN:M->XM bH)(g:EG):Prop where
 dk:DK Y d r aN
 en:iF Y (g.num (s.given+1))
 st:Step anyS B aN aN w Y
 q7:Q7 Y Q
 ql:Q<Y
 qc:aN Q=XU
theorem mj.qs(h:mj w B d s r aN g i):Cl w ((w.alloc bB).setCell (g.eb,0) (V Yf (s.given+1))) B d w s r aN g:=by
 have f:X0 w w (w.alloc bB):=bC;have o:=(h.en.off (G:=[]) (aH.aD f) XA XA);have k:=aH.bD g.eb (w.alloc bB) 0 (V Yf (s.given+1));have j:=h.en.lt;refine⟨(h.ds.dk.later f).off k (fun x c=>?_),o.num h.ne _,(Step.below f).trans ⟨⟨_,k,fun x c=>.inr ?_⟩,fun _ _ h=>h,fun _ _ h=>.inl h⟩,(Q7.of (cP w bB)).later (k.block _ XA XG),Nat.lt_of_lt_of_le XA k.size,h.ds.dk.none aI⟩
 .have:x=g.eb:=List.mem_singleton.1 c;subst this;exact h.ce
 .have:x=g.eb:=List.mem_singleton.1 c;subst this;exact⟨h.ce,h.be⟩
theorem mj.AW(h:mj w B d s r aN g i)(y:Cl w Y B d Q s r aN g)(q:g.e.kind≠3)(t:DK w1 d (r.dU i ((r.tg[i]'h.hi).with (cS (r.tg[i]'h.hi).A g.e.aQ g.e.aM) (ia (s.given+1) g.eb (r.tg[i]'h.hi).T g.e.aQ))) c1)(f:Step (·=.bA i) Y aN c1 Y w1):TL w w1 B d Q s r aN g:=by
 have j:=y.en.lt;have c:=y.en.en.lt;have o:=(h.ds.of.comes h.ds.inv.tn (g:=g.num (s.given+1)) h.fresh q h.ok.ri h.hi h.name h.tb (s.given+1)).1;refine⟨_,c1,t,f.uG y.en (.inr ⟨h.ce,j⟩) (.inr ⟨h.cb,c⟩),f.dG h.ce j,f.dG h.cb c,y.st.trans (f.any (Yk h.hB y.st.size)),y.q7.later (f.cF y.ql y.qc y.ql),f.dG y.qc y.ql,?_,?_,rfl,rfl⟩
 .exact⟨o.now,o.given,o.ts,o.es,o.th,o.tb⟩
 .exact h.ds.wl.comes (g:=g.num (s.given+1)) q
theorem mj.waits(h:mj w B d s r aN g i)(y:Cl w Y B d Q s r aN g)(t:g.e.kind=3)(z:DK w1 d { r with wl:=r.wl++[g.eb] } c1)(j:Step (fun c=>c=.wa\/c=.desk) Y aN c1 Y w1):TL w w1 B d Q s r aN g:=by
 have q:=y.en.lt;have f:=y.en.en.lt;have o:=h.ds.of.mJ (g:=g.num (s.given+1)) h.fresh t h.hi h.name h.tb (s.given+1);refine⟨_,c1,z,j.uG y.en (.inr ⟨h.ce,q⟩) (.inr ⟨h.cb,f⟩),j.dG h.ce q,j.dG h.cb f,y.st.trans (j.any (Yk h.hB y.st.size)),y.q7.later (j.cF y.ql y.qc y.ql),j.dG y.qc y.ql,?_,?_,rfl,rfl⟩
 .exact⟨o.now,o.given,o.ts,o.es,o.th,o.tb⟩
 .exact h.ds.wl.mJ (g:=g.num (s.given+1)) t
structure Xu(w T:XY)(B d Q:M)(s:St)(r:Raw)(aN:M->XM bH)(g:EG)(r2:Raw)(c2:M->XM bH):Prop where
 dk:DK T d r2 c2
 mem:g.num (s.given+1)∈r2.eg
 st:Step anyS B aN c2 w T
 q7:Q7 T Q
 ql:Q<T
 qc:c2 Q=XU
 of:Of (aA.kB s g.e).1 r2
 wl:Wl r2
 eg:r2.eg=r.eg++[g.num (s.given+1)]
 hl:r2.hl=r.hl
theorem Fv.store{T:XY}{C:Raw}(t:Fv w T B d w s r aN g C c1)(a:mj w B d s r aN g i):
  ∃ m,(T.setCell (d,1) (V Yf (s.given+1))).cell? (d,3)=U (.map (U m))/\(T.setCell (d,1) (V Yf (s.given+1))).cell? (g.eb,0)=U (V Yf (s.given+1)) /\
   ∃ w3,(Instr.mapUpdate 138 (.map (U m)) (V Yf (s.given+1)) g.eb).run prog (T.setCell (d,1) (V Yf (s.given+1))).drew=.ok () w3/\∃ S c2,Xu w w3 B d w s r aN g S c2:=by
 obtain⟨h,c⟩:=t.dk.oA (s.given+1);have z:=t.dk.dc;have E:g.eb≠d:=fun e=>by have:=t.ce;rw[e,z] at this;cases this
 have F:g.B≠d:=fun e=>by have:=t.cb;rw[e,z] at this;cases this
 have k0:=aH.bD d T 1 (V Yf (s.given+1));have A:iF (T.setCell (d,1) (V Yf (s.given+1))) (g.num (s.given+1)):=t.en.off k0 (by simpa[EG.num] using E) (by simpa[EG.num] using F);have y:Q7 (T.setCell (d,1) (V Yf (s.given+1))) w.heap.size:=t.q7.later (c.cF (Yl _ _ t.q7.q0) t.qc (Yl _ _ t.q7.q0));have j:Step anyS B aN c1 w (T.setCell (d,1) (V Yf (s.given+1))):=t.st.trans (c.any (Yk a.hB t.st.size));generalize T.setCell (d,1) (V Yf (s.given+1))=T1 at *;obtain⟨m,f,R,P,a3,a4⟩:=h.me;have ab:=a.ds.inv.g0;have aa:=a.ds.inv.g1;have kk:=xl (n:=s.given+1) O O
 have L:C.eg.length<=60:=by
  have h2:r.eg.length=s.es.length:=by rw[<- a.ds.of.es];simp
  have h3:=jM a.ds.aY;rw[t.eg];omega
 obtain⟨w3,o,X,K⟩:=(a3.block (w':=T1.drew) rfl).kV wW underlying138 (by unfold maxLen;show C.eg.length<_;omega) kk (by unfold ki;trivial) g.eb;have d1:=h.later (dV T1);have I:iF T1.drew (g.num (s.given+1)):=A.off (G:=[]) (aH.aD (dV T1)) XA XA;obtain⟨c2,e1,e2,e3⟩:=d1.vR (g:=g.num (s.given+1)) (B:=B) R P a4 I t.ce t.cb a.be a.bb a.ne (fun x hx=>a.fresh x (by rw[<- t.eg];exact hx)) X K;have D:w<T1.drew.heap.size:=Yl _ _ y.q0;have H:w≠m:=fun e=>by have:=t.qc;rw[e,P] at this;cases this
 have hb:w3.heap[w.heap.size]?=T1.heap[w.heap.size]?:=K.block _ D (fun e=>H (ZN e));have q:=y.later hb;refine⟨m,R,A.en.c0,w3,o,_,c2,e1,List.mem_append_right _ (List.mem_singleton.2 rfl),(j.trans (Step.below (dV T1))).trans (e2.mono (fun _ _=>trivial) aI),q,Yl _ _ q.q0,?_,t.of,t.wl,?_,t.hl⟩
 .exact e3 _ t.qc (fun e=>by have:=a.en.lt;rw[show (g.num (s.given+1)).eb=g.eb from rfl] at e;omega) (fun e=>by have:=a.en.en.lt;rw[show (g.num (s.given+1)).B=g.B from rfl] at e;omega)
 .show C.eg++[_]=_;rw[t.eg]
theorem Jb(h:DK w d r aN)(o:Hp.gO r.hl)(hl:r.hl.length<=900)(g:EG):
  X4 prog 198 #[X8 (U ⟨d,5,XU⟩),g.e.bP,g.e.id,g.eb] w fun e w'=>e=Yg (Yc #[])/\∃ (j:J Hp.Hi) (f:M->XM bH),Hp.gO j/\j.Perm (r.hl++[iR g])/\DK w' d { r with hl:=j } f/\Step (fun c=>c=.he\/c=.desk) w aN f w w':=by
 let⟨v,a1,a2⟩:=h.he;refine aK (Sp d 5 v r.hl (iR g) w a1 o hl) ?_;rintro w' ⟨j,p,t,q⟩;let⟨f,k1,k2⟩:=h.heap a2 p;exact⟨rfl,j,f,t,q,k1,k2⟩
theorem Vk(h:mj w B d s r aN g i)(ae:s.given<60)(hk:g.e.kind≠3):
  X4 prog 144 #[d,g.eb] w fun e w'=>∃ v,e=Yg v/\mP w B d aN (iI s g.e) v w':=by
 have hX:X0 w w (w.alloc bB):=bC;have y:=aC h.qs;have cg:=(h.ds.dk.later hX).c1;rw[h.ds.of.given] at cg;have F:=(h.en.off (G:=[]) (aH.aD hX) XA XA);have ck:=F.k;have ci:=F.en.c0;have fi:=F.fz 0;have ct:=F.en.c1;have af:=h.ds.inv.g0;have ac:Yf.wrap (s.given+1)=s.given+1:=cT O O
 have HN:Hid (r.hl.length<=900):=by
  have h1:=h.ds.hl.len;have h2:r.eg.length=s.es.length:=by rw[<- h.ds.of.es];simp
  have h3:=jM h.ds.aY;show _<=_;omega
 have f:=aC h;have ad:(g.e.kind==3)=XW:=by simpa using hk
 have hm:=h.ds.aY;have hi:=h.hi;have E:=J5 hm h.ds.of (e:=(g.num (s.given+1)).e) h.ok.sp h.ok.u1 hi h.name;have c:=C7 hm h.ds.of (h.num (s.given+1)) hi;have D:=Dw hm h.ds.of hi;have H:=(h.ds.of.comes h.ds.inv.tn (g:=g.num (s.given+1)) h.fresh hk h.ok.ri hi h.name h.tb (s.given+1)).2;have R:=aC (Yz E (Yz c (Yz D H)));clear h hX F hm E c D H
 go_in
 go_upto_region 1 with fail
 change Code.wp _ _ _ _ (w.alloc bB);generalize w.alloc bB=X at *
 go_upto_region 6 with fail
 have cy:(X.setCell (g.eb,0) (V Yf (s.given+1))).cell? (g.eb,2)=U ↑g.tb:=y.en.en.c1;generalize X.setCell (g.eb,0) (V Yf (s.given+1))=Y at y cy ⊢;clear cg ck ci fi ct
 cases c:aA.eo s.ts s.es g.e.bA g.e.aM g.e.aQ with
 |false =>
  have HD:Hid (iI s g.e=(s,aA.bI.error 8)):=by
   unfold iI;rw[XR O,XS ⟨hk,c⟩];rfl
  have TA:=aC (Jc y.dk i f.hi y.en f.tb (by show aN g.eb≠_;rw[f.ce];simp) (by show aN g.B≠_;rw[f.cb];simp) R.2.1 (by rw[R.1];exact c));clear c
  go_wp21
  refine TA.mono ?_;rintro e I ⟨rfl,P,C,z⟩;have Q1:Hid (Q7 I w.heap.size/\P w=XU):=⟨y.q7.later (z.cF y.ql y.qc y.ql),z.dG y.qc y.ql⟩;have P1:Hid (DK I d r P/\Step anyS B aN P w I):=⟨C,y.st.trans (z.any (Yk f.hB y.st.size))⟩;clear C z TA cy
  go_wp21
  refine aK (jN 8 I) fun w1 hb=>?_;have hq:=hb.block w (Yl _ _ Q1.1.q0)
  have HF:Hid (mP w B d aN (iI s g.e) (bJ 8 0 0 () () () ()) (cR w1 w (V Yf 8) (V Yf 0) (V Yf 0) () () () ())):=by
   rw[HD];exact uj (P1.1.later hb) f.ds.of f.ds.wl f.ds.hl (P1.2.trans (Step.below hb)) f.hB Q1.2 8 0 _ _ _ _ _ _ _
  obtain⟨q0,C,z,q3,q4,q5,q6,fq⟩:=Q1.1.later hq;simp only[bJ]
  go_wp21
  exact cL results144 ⟨q0,C,z,q3,q4,q5,q6,fq⟩ ⟨_,rfl,HF⟩
 |true =>
  have HD:Hid (iI s g.e=aA.kB s g.e):=by
   unfold iI;rw[XR O,XR (by rw[c];simp)];rfl
  have TA:=aC (Ke y.dk i f.hi y.en f.tb (by show aN g.eb≠_;rw[f.ce];simp) (by show aN g.B≠_;rw[f.cb];simp) R.2.1 ⟨R.2.2.1.1,R.2.2.1.2,R.2.2.2,EP f.ok.ri⟩ (by rw[R.1];exact c));clear c
  go_wp21
  refine TA.mono ?_;rintro e I ⟨rfl,P,C,z⟩;have TT:Hid (TL w I B d w s r aN g):=f.AW y hk C z;clear C z TA cy P
  by_cases K:g.e.kind=1
  .obtain⟨r1,c1,A⟩:=TT;have P:I.cell? (g.eb,0)=U (V Yf (s.given+1)):=A.en.en.c0;have d1:=A.dk.c1;have f1:=A.dk.fz 1;obtain⟨m,s1,T,w3,q,r2,c2,S⟩:=A.store f;have j:=aC S;clear A S
   go_upto_region 9 with fail
   generalize I.setCell (d,1) (V Yf (s.given+1))=T1 at s1 T q ⊢;clear P d1 f1
   go_big_region
   clear q s1 T;obtain⟨L,e2,e3⟩:=j.dk.en _ j.mem;have k0:w3.cell? (g.eb,0)=U (V Yf (s.given+1)):=L.en.c0;have k1:w3.cell? (g.eb,1)=U ↑g.e.kind:=L.k;have k5:w3.cell? (g.eb,5)=U ↑g.e.bP:=L.u;clear L e2 e3;have aa:(g.e.kind != 1)=XW:=by simpa using K
   have HF:Hid (mP w B d aN (iI s g.e) (bJ 0 0 (s.given+1) () () () ()) (cR w3 w (V Yf 0) (V Yf 0) (V Yf (s.given+1)) () () () ())):=by
    rw[HD];have t:=j.out;refine uj t.dk t.of t.wl ?_ t.st f.hB t.qc 0 (s.given+1) _ _ _ _ _ _ _;have hh:=f.ds.hl.tM (g:=g.num (s.given+1)) K;unfold Hl at hh ⊢;rw[t.eg,t.hl];exact hh
   obtain⟨q0,C,z,q3,q4,q5,q6,fq⟩:=j.q7
   go_wp21
   exact cL results144 ⟨q0,C,z,q3,q4,q5,q6,fq⟩ ⟨_,rfl,HF⟩
  .obtain⟨r1,c1,A⟩:=TT;have P:I.cell? (g.eb,0)=U (V Yf (s.given+1)):=A.en.en.c0;have d1:=A.dk.c1;have f1:=A.dk.fz 1;obtain⟨m,s1,T,w3,q,r2,c2,S⟩:=A.store f;have j:=aC S;clear A S
   go_upto_region 9 with fail
   generalize I.setCell (d,1) (V Yf (s.given+1))=T1 at s1 T q ⊢;clear P d1 f1
   go_big_region
   clear q s1 T;obtain⟨L,e2,e3⟩:=j.dk.en _ j.mem;have k0:w3.cell? (g.eb,0)=U (V Yf (s.given+1)):=L.en.c0;have k1:w3.cell? (g.eb,1)=U ↑g.e.kind:=L.k;have k5:w3.cell? (g.eb,5)=U ↑g.e.bP:=L.u;clear L e2 e3;have aa:(g.e.kind != 1)=XX:=by simpa using K
   have PU:=aC (fun wx (k:X0 w3 w3 wx)=>Jb (j.dk.later k) (by rw[j.hl];exact f.ds.hl.1) (by rw[j.hl];exact HN) (g.num (s.given+1)))
   go_upto_region 11 with fail
   go_region_held3 (fun w'=>w'.cell? (g.eb,0)=U (V Yf (s.given+1))/\w'.cell? (g.eb,5)=U ↑g.e.bP)
    (first
     |exact⟨k0,k5⟩
     |exact⟨((p3.en _ j.mem).1).en.c0,((p3.en _ j.mem).1).u⟩)
    (first
     |(go_at_call 198;refine aK (PU _ (dV w3)) ?_;rintro w4 ⟨l',c3,p1,p2,p3,p4⟩))
   have ab:w4.cell? (g.eb,0)=U (V Yf (s.given+1)):=((p3.en _ j.mem).1).en.c0;have hq:=p4.cF j.ql j.qc j.ql
   have HF:Hid (mP w B d aN (iI s g.e) (bJ 0 0 (s.given+1) () () () ()) (cR w4 w (V Yf 0) (V Yf 0) (V Yf (s.given+1)) () () () ())):=by
    rw[HD];have t:=j.out;have o:=t.of;refine uj p3 ⟨o.now,o.given,o.ts,o.es,o.th,o.tb⟩ t.wl ?_ ((t.st.trans (Step.below (dV w3))).trans (p4.any (Yk f.hB t.st.size))) f.hB (p4.dG t.qc t.ql) 0 (s.given+1) _ _ _ _ _ _ _;have hh:=f.ds.hl.comes (g:=g.num (s.given+1)) K p1 (by rw[<- t.hl];exact p2);unfold Hl at hh ⊢;show _/\List.Perm l' ((r2.eg.filter _).map _);rw[t.eg];exact hh
   clear p1 p2 p3 p4 PU k0 k1 k5;obtain⟨q0,C,z,q3,q4,q5,q6,fq⟩:=j.q7.later hq
   go_wp21
   exact cL results144 ⟨q0,C,z,q3,q4,q5,q6,fq⟩ ⟨_,rfl,HF⟩
theorem QG:(prog.info? 197).map (fun i=>(i.zero,i.size,i.bytes))=U (U (X8 XU),1,8):=XF
theorem Vl(h:mj w B d s r aN g i)(an:s.given<60)(P:g.e.kind=3)(aj:r.wl.length<6):
  X4 prog 144 #[X8 (U ⟨d,0,XU⟩),X8 (U ⟨g.eb,0,XU⟩)] w fun e w'=>∃ v,e=Yg v/\mP w B d aN (iI s g.e) v w':=by
 have hX:X0 w.heap.size w (w.alloc bB):=(zr _ _).alloc (zq _) _;have YY:=aC h.qs;have cg:=(h.ds.dk.later hX).c1;rw[h.ds.of.given] at cg;have q:=(h.en.off (G:=[]) (aH.aD hX) XA XA);have ck:=q.k;have ci:=q.en.c0;have fi:=q.fz 0;have ct:=q.en.c1;have ao:=h.ds.inv.g0;have ak:Yf.wrap (s.given+1)=s.given+1:=cT O O
 have HN:Hid (r.hl.length<=900):=by
  have h1:=h.ds.hl.len;have h2:r.eg.length=s.es.length:=by rw[<- h.ds.of.es];simp
  have h3:=jM h.ds.aY;show _<=_;omega
 have H:=aC h;obtain⟨i0,ad,ac,ab,aa⟩:=info_parts QG;obtain⟨v4,c4,f,E⟩:=h.qs.dk.wa
 have ae:(w.alloc bB).cell? ⟨d,4,XU⟩=U v4:=by
  rw[<- c4];exact (zS _ _ _ _ XA).symm
 obtain⟨a,cap,rfl⟩:=lR f;have ai:=h.ds.wl.eM h.ds.of;have T:=h.qs.dk.fz 4;have O4:=aC (Yz f E);have R:=Yl _ _ c4;have D:d ∉ (X9 a r.wl.length cap).ownBlock.toList:=fun e=>by have:=E _ (ZL.1 e);rw[h.ds.dk.dc] at this;cases this
 rw[P] at ck;clear h hX q f E
 go_in
 go_upto_region 1 with fail
 change Code.wp _ _ _ _ (w.alloc bB);generalize w.alloc bB=X at *
 have HD:Hid (iI s g.e=aA.kB s g.e):=by
  unfold iI;rw[XR O,XR (by simp[P])];rfl
 go_upto_region 5 with fail
 generalize X.setCell ⟨g.eb,0,XU⟩ (V Yf (s.given+1))=Y at *;clear cg ck ci fi ct ae
 go_upto_region 8 with (first
  |(at_builtin;refine wpList_append_lies _ rfl _ _ 139 rfl 0 197 i0 _ 1 8 underlying139 ad ac ab aa rfl XC _ _ _ rfl (O4.out.1.alloc _) ⟨Y.heap.size,0,XU⟩ 1 1 [kr g.eb] rfl rfl (World.news_of_block (cs:=#[kr g.eb]) (cP Y _)) (by simp[kr,Value.oneCell']) O XH O XA (Y.heap.size+1) XA ?_;intro F t w1 z j S al;have kk:aH ((X9 a r.wl.length cap).ownBlock.toList) Y w1:=aH.grown ((aH.refl _ Y).alloc _) j (fun k P=>.inl (ZL.2 P));have z1:=kk.cell D c4;have z2:=(kk.frozen (o:=4) D R).trans T;clear j))
 have A:(X9 a r.wl.length cap).ownBlock=U F\/F=Y.heap.size+1:=S
 have SW:=aC (YY.out.dk.jS (wl':=r.wl++[g.eb]) (v':=X9 (U ⟨F,0,XU⟩) (r.wl.length+1) t) O4.out.2 kk (by rw[YZ,Zl];exact z) (fun b hb=>by
  have:F=b:=by simpa[ZB] using hb
  subst this;rcases A with e|e
  .exact .inl e
  .exact .inr O))
 have TT:Hid (TL w (w1.setCell ⟨d,4,XU⟩ (X9 (U ⟨F,0,XU⟩) (r.wl.length+1) t)) B d w.heap.size s r aN g):=by
  obtain⟨c1,q1,q2⟩:=SW.out;exact H.out.waits YY.out P q1 q2
 clear z kk S A z1 z2 SW O4 c4 T;have L:g.e.kind≠1:=O
 clear D R;generalize w1.setCell ⟨d,4,XU⟩ (X9 (U ⟨F,0,XU⟩) (r.wl.length+1) t)=w0 at TT ⊢;obtain⟨r1,c1,I⟩:=TT.out;have c0:w0.cell? ⟨g.eb,0,XU⟩=U (V Yf (s.given+1)):=I.en.en.c0;have d1:=I.dk.c1;have f1:=I.dk.fz 1;obtain⟨m,s1,s2,w3,y,r2,c2,t2⟩:=I.store H.out;have c:=aC t2;clear I t2
 go_upto_region 9 with fail
 generalize w0.setCell ⟨d,1,XU⟩ (V Yf (s.given+1))=T1 at s1 s2 y ⊢;clear c0 d1 f1
 go_big_region
 clear y s1 s2;obtain⟨e1,e2,e3⟩:=c.out.dk.en _ c.out.mem;have k0:w3.cell? ⟨g.eb,0,XU⟩=U (V Yf (s.given+1)):=e1.en.c0;have k1:w3.cell? ⟨g.eb,1,XU⟩=U (V Yf g.e.kind):=e1.k;have k5:w3.cell? ⟨g.eb,5,XU⟩=U (V Yf g.e.bP):=e1.u;clear e1 e2 e3;have af:(g.e.kind != 1)=XX:=by simpa using L
 have PU:=aC (fun wx (k:X0 w3.heap.size w3 wx)=>Jb (c.out.dk.later k) (by rw[c.out.hl];exact H.out.ds.hl.1) (by rw[c.out.hl];exact HN.out) (g.num (s.given+1)))
 go_upto_region 11 with fail
 go_region_held3 (fun w'=>w'.cell? ⟨g.eb,0,XU⟩=U (V Yf (s.given+1))/\w'.cell? ⟨g.eb,5,XU⟩=U (V Yf g.e.bP))
  (first
   |exact⟨k0,k5⟩
   |exact⟨((K.en _ c.out.mem).1).en.c0,((K.en _ c.out.mem).1).u⟩)
  (first
   |(go_at_call 198;refine (PU.out _ (dV w3)).mono ?_;rintro e w4 ⟨rfl,l',c3,p1,p2,K,p4⟩))
 have ag:w4.cell? ⟨g.eb,0,XU⟩=U (V Yf (s.given+1)):=((K.en _ c.out.mem).1).en.c0;have hq:=p4.cF c.out.ql c.out.qc c.out.ql
 have HF:Hid (mP w B d aN (iI s g.e) (bJ 0 0 (s.given+1) (X9 XU 0 0) (X9 XU 0 0) (X9 XU 0 0) (X9 XU 0 0)) (cR w4 w.heap.size (V Yf 0) (V Yf 0) (V Yf (s.given+1)) (X9 XU 0 0) (X9 XU 0 0) (X9 XU 0 0) (X9 XU 0 0))):=by
  rw[HD.out];have C:=c.out;have o:=C.of;refine uj K ⟨o.now,o.given,o.ts,o.es,o.th,o.tb⟩ C.wl ?_ ((C.st.trans (Step.below (dV w3))).trans (p4.any (Yk H.out.hB C.st.size))) H.out.hB (p4.dG C.qc C.ql) 0 (s.given+1) _ _ _ _ _ _ _;have hh:=H.out.ds.hl.comes (g:=g.num (s.given+1)) L p1 (by rw[<- C.hl];exact p2);unfold Hl at hh ⊢;show _/\List.Perm l' ((r2.eg.filter _).map _);rw[C.eg];exact hh
 clear p1 p2 K p4 PU k0 k1 k5;obtain⟨q0,q1,q2,q3,q4,q5,q6,fq⟩:=c.out.q7.later hq
 go_wp2_with fail
 exact cL results144 ⟨q0,q1,q2,q3,q4,q5,q6,fq⟩ ⟨_,rfl,HF.out⟩
theorem Eg(h:mj w B d s r aN g i):
  X4 prog 144 #[d,g.eb] w fun e w'=>∃ v,e=Yg v/\mP w B d aN (iI s g.e) v w':=by
 by_cases q:s.given=60\/g.e.kind=3/\aA.eM s.es=6
 .exact Vj h.ds h.en h.hB q
 .have o:=h.ds.inv.g1;have j:=h.ds.inv.wa;have f:=h.ds.wl.eM h.ds.of
  by_cases c:g.e.kind=3
  .exact Vl h O c O
  .exact Vk h O c
theorem LQ(h:fS s name u fr til≠0):aA.aV s (.enter k name u fr til long)=(s,aA.bI.error (fS s name u fr til)):=by
 have e:aA.py s k name u fr til long=fS s name u fr til:=by
  unfold aA.py fS at *
  by_cases c:aA.eB s.ts name u≠0
  .rw[XS c,XS c]
  .rw[XR c] at h ⊢;rw[XR c]
   by_cases f:til<=fr
   .rw[XS f,XS (.inl f)]
   .rw[XR f] at h;omega
 simp only[aA.aV,e];rw[XS h]
theorem rC(h:fS s name u fr til=0):aA.eB s.ts name u=0/\fr<til:=by
 unfold fS at h
 by_cases c:aA.eB s.ts name u≠0
 .rw[XS c] at h;omega
 .rw[XR c] at h
  by_cases f:til<=fr
  .rw[XS f] at h;omega
  .omega
theorem Xg(h:fS s name u fr til=0)(c:1048320<s.now+long):aA.aV s (.enter k name u fr til long)=(s,aA.bI.error 6):=by
 let⟨h1,h2⟩:=rC h
 have e:aA.py s k name u fr til long=6:=by
  unfold aA.py;rw[XR O,XS (.inr c)]
 simp only[aA.aV,e];rw[XS O]
theorem KT(h:fS s name u fr til=0)(z:s.now+long<=1048320):aA.aV s (.enter k name u fr til long)=iI s (aA.pj s k name u fr til long):=by
 let⟨h1,h2⟩:=rC h;simp only[aA.aV];unfold aA.py iI;rw[XR (c:=aA.eB s.ts name u≠0) O,XR (c:=til<=fr\/1048320<s.now+long) O];have y:(aA.pj s k name u fr til long).kind=k:=rfl;have t:(aA.pj s k name u fr til long).bA=name:=rfl;have q:(aA.pj s k name u fr til long).aM=u:=rfl;have es:(aA.pj s k name u fr til long).aQ=[(fr,til)]:=rfl;rw[y,t,q,es]
 by_cases f:s.given=60
 .simp[f]
 .by_cases j:k=3
  .by_cases o:aA.eM s.es=6
   .simp[f,j,o]
   .simp[f,j,o]
  .cases aA.eo s.ts s.es name u [(fr,til)] <;> simp[f,j]
def Ib(k:N)(name:XK)(u fr til un:N)(c f:M):EG:=⟨⟨0,k,name,u,[(fr,til)],un⟩,c+1,c,1,f⟩
theorem eh.asks(h:eh w d s r aN)(z:X0 w.heap.size w w1){un:N}(C:i<r.tg.length)(c:r.tg[i].name=name)(ok:ie s.now ⟨0,k,name,u,[(fr,til)],un⟩):
  mj ((w1.alloc (Yh #[V Yf fr,V Yf til] 60)).alloc (Yh #[V Yf 0,V Yf k,X8 (U ⟨r.tg[i].tb,0,XU⟩),V Yf u,X9 (U ⟨w1.heap.size,0,XU⟩) 1 1,V Yf un] 200)) w1.heap.size d s r aN (Ib k name u fr til un w1.heap.size r.tg[i].tb) i:=by
 have y:X0 w1.heap.size w1 ((w1.alloc (Yh #[V Yf fr,V Yf til] 60)).alloc (Yh #[V Yf 0,V Yf k,X8 (U ⟨r.tg[i].tb,0,XU⟩),V Yf u,X9 (U ⟨w1.heap.size,0,XU⟩) 1 1,V Yf un] 200)):=((zr _ _).alloc (zq _) _).alloc XA _;have q:=h.dk.later z
 have eb:((w1.alloc (Yh #[V Yf fr,V Yf til] 60)).alloc (Yh #[V Yf 0,V Yf k,X8 (U ⟨r.tg[i].tb,0,XU⟩),V Yf u,X9 (U ⟨w1.heap.size,0,XU⟩) 1 1,V Yf un] 200)).heap[w1.heap.size+1]?=U (Yh #[V Yf 0,V Yf k,X8 (U ⟨r.tg[i].tb,0,XU⟩),V Yf u,X9 (U ⟨w1.heap.size,0,XU⟩) 1 1,V Yf un] 200 (0,0)):=by
  have:=cP (w1.alloc (Yh #[V Yf fr,V Yf til] 60)) (Yh #[V Yf 0,V Yf k,X8 (U ⟨r.tg[i].tb,0,XU⟩),V Yf u,X9 (U ⟨w1.heap.size,0,XU⟩) 1 1,V Yf un] 200)
  rwa [ZM] at this
 have t:((w1.alloc (Yh #[V Yf fr,V Yf til] 60)).alloc (Yh #[V Yf 0,V Yf k,X8 (U ⟨r.tg[i].tb,0,XU⟩),V Yf u,X9 (U ⟨w1.heap.size,0,XU⟩) 1 1,V Yf un] 200)).heap[w1.heap.size]?=U (Yh #[V Yf fr,V Yf til] 60 (0,0)) :=
  (Below.heap_alloc _ _ _ XA).trans (cP w1 _)
 have D:((w1.alloc (Yh #[V Yf fr,V Yf til] 60)).alloc (Yh #[V Yf 0,V Yf k,X8 (U ⟨r.tg[i].tb,0,XU⟩),V Yf u,X9 (U ⟨w1.heap.size,0,XU⟩) 1 1,V Yf un] 200)).heap.size=w1.heap.size+2:=XA
 generalize (w1.alloc (Yh #[V Yf fr,V Yf til] 60)).alloc (Yh #[V Yf 0,V Yf k,X8 (U ⟨r.tg[i].tb,0,XU⟩),V Yf u,X9 (U ⟨w1.heap.size,0,XU⟩) 1 1,V Yf un] 200)=Z at *;refine⟨⟨q.later y,h.of,h.wl,h.hl,h.inv⟩,⟨⟨?_,?_,?_,?_,fun j A=>?_,?_⟩,?_,?_,fun o=>frozen_of_row _ _ _ _ _ eb,⟨_,eb⟩⟩,q.none (Nat.le_succ _),q.none (zq _),Nat.le_succ _,Nat.le_refl _,(by show w1.heap.size+1≠w1.heap.size;omega),y.size,C,c,rfl,ok⟩
 .show Z.cell? ⟨w1.heap.size+1,0,XU⟩=_;simp only[YF,eb];rfl
 .show Z.cell? ⟨w1.heap.size+1,2,XU⟩=_;simp only[YF,eb];rfl
 .show Z.cell? ⟨w1.heap.size+1,3,XU⟩=_;simp only[YF,eb];rfl
 .show Z.cell? ⟨w1.heap.size+1,4,XU⟩=_;simp only[YF,eb];rfl
 .have f:j=0:=by simp[Ib] at A;omega
  subst f;constructor
  .show Z.cell? ⟨w1.heap.size,0,XU⟩=_;simp only[YF,t];rfl
  .show Z.cell? ⟨w1.heap.size,1,XU⟩=_;simp only[YF,t];rfl
 .show w1.heap.size<_;omega
 .show Z.cell? ⟨w1.heap.size+1,1,XU⟩=_;simp only[YF,eb];rfl
 .show Z.cell? ⟨w1.heap.size+1,5,XU⟩=_;simp only[YF,eb];rfl
theorem mP.tU{t:XY}{q:St × aA.bI}(h:mP Z B d aN q v t)(st:Step anyS w aN aN w Z)(K:w<=B)(I:w<=Q)(o:Q<B)(z:aN Q=XU)(A:Q7 Z Q):
  ∃ j n:N,v=bJ j 0 n () () () ()/\Q7 t Q/\∀ a b c e f g i,dS w d aN q (bJ j 0 n () () () ()) (cR t Q a b c e f g i):=by
 obtain⟨j,n,P,C,rfl,L,G,F,E,D,y⟩:=h;have H:=Yl _ _ A.q0;refine⟨j,n,rfl,A.later (y.cF H z o),fun a b c e f g i=>?_⟩;have:q=(q.1,⟨j,0,n,[],[],[],[]⟩):=by rw[<- L]
 rw[this];exact vv G F E D (st.trans (y.any K)) I (y.dG z o) j n a b c e f g i
theorem Sw(h:eh w d s r aN)(name:XK)(hn:name.size<=1000)(u fr til:N)(A:aA.iV (.enter 1 name u fr til 0)):
  X4 prog 92 #[d,Yd #[name,u,fr,til]] w fun e w'=>∃ v,e=Yg v/\dS w d aN (aA.aV s (.enter 1 name u fr til 0)) v w':=by
 obtain⟨hX,o,c,aa⟩:=qA w (Yh #[name,u,fr,til] 154);have AK:=aC (vz (h.dk.later hX) h.of h.aY name hn u fr til);have C:=aC h;have y:=aC (Yz hX o);have xa:=bG c 0 rfl;have G:=bG c 1 rfl;have F:=bG c 2 rfl;have E:=bG c 3 rfl;clear h hX o c
 go_in
 go_upto_region 1 with fail
 change Code.wp _ _ _ _ ((w.alloc (Yh #[name,u,fr,til] 154)).alloc bB);generalize (w.alloc (Yh #[name,u,fr,til] 154)).alloc bB=X at *
 go_wp21
 refine AK.mono ?_;rintro e w1 ⟨hp,f⟩;have z:Hid (X0 w w w1):=y.1.trans (f.mono y.1.size);have QX:Hid (Q7 w1 (w.heap.size+1)):=(Q7.of y.2).later (f.block _ aa);rcases hp with ⟨j,rfl⟩|⟨j,i,hi,e1,e2,rfl⟩
 .have HD:=aC (LQ (k:=1) (long:=0) j);generalize fS s name u fr til=t at *;have ab:(t != 0)=XX:=by simpa using j
  clear j AK y f xa G F E
  go_wp21
  refine aK (jN t w1) fun w2 T=>?_;have D:=aC (C.refuse z QX T HD);obtain⟨S,R,P,L,K,I,H,fq⟩:=D.1;simp only[bJ]
  go_wp21
  exact cL results92 ⟨S,R,P,L,K,I,H,fq⟩ ⟨_,rfl,D.2⟩
 .have HD:=aC (KT (k:=1) (long:=0) j (by have:=C.inv.n1;omega));have y1:=(zo (w:=X) (a:=(w,1)) (f.block w O)).trans G;have y2:=(zo (w:=X) (a:=(w,2)) (f.block w O)).trans F;have y3:=(zo (w:=X) (a:=(w,3)) (f.block w O)).trans E;have EN:=aC (Eg (C.asks z (k:=1) (u:=u) (fr:=fr) (til:=til) (un:=0) hi e1 ⟨A.2.1,A.2.2.1,(by show 1<=40;omega),XA,(by intro q hq;have:q=(fr,til):=List.mem_singleton.1 hq;subst this;have:=(rC j).2;exact⟨A.2.2.2.1,this,A.2.2.2.2.2.2⟩),List.pairwise_singleton _ _,.inl ⟨rfl,rfl⟩⟩));have AL:Hid (X0 w1 w1 ((w1.alloc (Yh #[fr,til] 60)).alloc (Yh #[V Yf 0,V Yf 1,X8 (U ⟨r.tg[i].tb,0,XU⟩),u,X9 w1 1 1,V Yf 0] 200))):=bC.alloc XA _;have QL:Hid (w+1<w1.heap.size):=Yl _ _ QX.q0;clear j AK y f xa G F E e1 e2
  go_wp21
  refine EN.mono ?_;rintro e w2 ⟨v,rfl,ep⟩;obtain⟨t,n,rfl,q7,hf⟩:=ep.tU (Q:=(w.heap.size+1)) (Step.below (z.trans (AL.mono z.size))) z.size O QL (C.dk.none O) (QX.later (AL.block _ QL))
  have D:Hid (dS w d aN (aA.aV s (.enter 1 name u fr til 0)) (bJ t 0 n () () () ()) (cR w2 (w.heap.size+1) (V Yf t) (V Yf 0) (V Yf n) () () () ())):=by
   rw[HD];exact hf _ _ _ _ _ _ _
  clear ep hf EN;obtain⟨S,R,P,L,K,I,H,fq⟩:=q7;simp only[bJ]
  go_wp21
  exact cL results92 ⟨S,R,P,L,K,I,H,fq⟩ ⟨_,rfl,D⟩
theorem Xl(h:eh w d s r aN)(k:N)(hk:k=2\/k=3)(name:XK)(hn:name.size<=1000)(u fr til long:N)(L:aA.iV (.enter k name u fr til long)):
  X4 prog 145 #[d,k,Yd #[name,u,fr,til],long] w fun e w'=>∃ v,e=Yg v/\dS w d aN (aA.aV s (.enter k name u fr til long)) v w':=by
 obtain⟨hX,P,c,aa⟩:=qA w (Yh #[name,u,fr,til] 151);have x0:=bG c 0 rfl;have x1:=bG c 1 rfl;have x2:=bG c 2 rfl;have x3:=bG c 3 rfl;have AK:=aC (vz (h.dk.later hX) h.of h.aY name hn u fr til);have o:=aC h;have C:=aC (Yz hX P);clear h hX P c
 go_in
 go_upto_region 1 with fail
 change Code.wp _ _ _ _ ((w.alloc (Yh #[name,u,fr,til] 151)).alloc bB);generalize (w.alloc (Yh #[name,u,fr,til] 151)).alloc bB=X at *
 go_wp21
 refine AK.mono ?_;rintro e w1 ⟨hp,j⟩;have A:Hid (X0 w w w1):=C.1.trans (j.mono C.1.size);have QX:Hid (Q7 w1 (w.heap.size+1)):=(Q7.of C.2).later (j.block _ aa)
 have ac:1<=long/\long<=1048320:=by
  rcases L.1 with ⟨e,_⟩|⟨_,e⟩
  .omega
  .exact e
 rcases hp with ⟨f,rfl⟩|⟨f,i,hi,e1,e2,rfl⟩
 .have T:=aC (LQ (k:=k) (long:=long) f);generalize fS s name u fr til=S at *;have ad:(S != 0)=XX:=by simpa using f
  clear f AK C j x0 x1 x2 x3
  go_wp21
  refine aK (jN S w1) fun w2 y=>?_;have z:=aC (o.refuse A QX y T);obtain⟨K,I,H,G,F,E,D,R⟩:=z.1;simp only[bJ]
  go_wp21
  exact cL results145 ⟨K,I,H,G,F,E,D,R⟩ ⟨_,rfl,z.2⟩
 .have cn:=(o.dk.later A).c0;rw[o.of.now] at cn;have h0:=o.inv.n0;have h9:=o.inv.n1;have ab:Yf.wrap (s.now+long)=s.now+long:=cT O O
  by_cases t:1048320<s.now+long
  .have T:=aC (Xg (k:=k) (long:=long) f t);clear f AK C j x0 x1 x2 x3 e1 e2
   go_wp21
   refine aK (jN 6 w1) fun w2 y=>?_;have z:=aC (o.refuse A QX y T);obtain⟨K,I,H,G,F,E,D,R⟩:=z.1;simp only[bJ]
   go_wp21
   exact cL results145 ⟨K,I,H,G,F,E,D,R⟩ ⟨_,rfl,z.2⟩
  .have T:Hid (aA.aV s (.enter k name u fr til long)=iI s ⟨0,k,name,u,[(fr,til)],s.now+long⟩):=by
    rw[Hid,KT (k:=k) (long:=long) f O];unfold aA.pj;rw[XR O]
   have y1:=(zo (w:=X) (a:=(w,1)) (j.block w O)).trans x1;have y2:=(zo (w:=X) (a:=(w,2)) (j.block w O)).trans x2;have y3:=(zo (w:=X) (a:=(w,3)) (j.block w O)).trans x3;have EN:=aC (Eg (o.asks A (k:=k) (u:=u) (fr:=fr) (til:=til) (un:=s.now+long) hi e1 ⟨L.2.1,L.2.2.1,(by show 1<=40;omega),XA,(by intro q hq;have:q=(fr,til):=List.mem_singleton.1 hq;subst this;have:=(rC f).2;exact⟨L.2.2.2.1,this,L.2.2.2.2.2.2⟩),List.pairwise_singleton _ _,.inr ⟨hk,(by show s.now<s.now+long;omega),(by show s.now+long<=1048320;omega),rfl⟩⟩));have AL:Hid (X0 w1 w1 ((w1.alloc (Yh #[fr,til] 60)).alloc (Yh #[V Yf 0,k,X8 (U ⟨r.tg[i].tb,0,XU⟩),u,X9 w1 1 1,V Yf (s.now+long)] 200))):=bC.alloc XA _;have QL:Hid (w+1<w1.heap.size):=Yl _ _ QX.q0;clear f AK C j x0 x1 x2 x3 e1 e2
   go_wp21
   refine EN.mono ?_;rintro e w2 ⟨v,rfl,ep⟩;obtain⟨S,n,rfl,q7,hf⟩:=ep.tU (Q:=(w.heap.size+1)) (Step.below (A.trans (AL.mono A.size))) A.size O QL (o.dk.none O) (QX.later (AL.block _ QL))
   have z:Hid (dS w d aN (aA.aV s (.enter k name u fr til long)) (bJ S 0 n () () () ()) (cR w2 (w.heap.size+1) (V Yf S) (V Yf 0) (V Yf n) () () () ())):=by
    rw[T];exact hf _ _ _ _ _ _ _
   clear ep hf EN;obtain⟨K,I,H,G,F,E,D,R⟩:=q7;simp only[bJ]
   go_wp21
   exact cL results145 ⟨K,I,H,G,F,E,D,R⟩ ⟨_,rfl,z⟩
theorem Sq(h:eh w d s r aN)(name:XK)(H:name.size<=1000)(u fr til long:N)(I:aA.iV (.enter 2 name u fr til long)):
  X4 prog 93 #[d,Yd #[name,u,fr,til,long]] w fun e w'=>∃ v,e=Yg v/\dS w d aN (aA.aV s (.enter 2 name u fr til long)) v w':=by
 let⟨hX,hXQ,hXb,hNX⟩:=qA w (Yh #[name,u,fr,til,long] 156);have A:=bG hXb 0 rfl;have z:=bG hXb 1 rfl;have y:=bG hXb 2 rfl;have t:=bG hXb 3 rfl;have q:=bG hXb 4 rfl;have o:=aC (Xl (w:=((w.alloc (Yh #[name,u,fr,til,long] 156)).alloc bB)) ⟨h.dk.later hX,h.of,h.wl,h.hl,h.inv⟩ 2 O name H u fr til long I);have HH:=aC h;have j:=aC (Yz hX hXQ);clear h hX hXQ hXb
 go_in
 go_upto_region 1 with fail
 change Code.wp _ _ _ _ ((w.alloc (Yh #[name,u,fr,til,long] 156)).alloc bB);generalize (w.alloc (Yh #[name,u,fr,til,long] 156)).alloc bB=X at *
 go_wp21
 refine o.mono ?_;rintro e w2 ⟨v,rfl,f⟩;obtain⟨K,at_,n,a1,a2,T,S,G,F,E,D,c1,R,P,L,rfl,C,c⟩:=f.up j.1 (Q:=w.heap.size+1) O hNX (HH.dk.none O) (Q7.of j.2);have HF:=aC (c (V Yf K) (V Yf at_) (V Yf n) (X9 a1 G c1) (X9 a2 F R) (X9 T E P) (X9 S D L));clear f c o A z y t q;let⟨q0,q1,q2,q3,q4,q5,q6,fq⟩:=C;simp only[bJ]
 go_wp21
 exact cL results93 ⟨q0,q1,q2,q3,q4,q5,q6,fq⟩ ⟨_,rfl,HF⟩
theorem eh.levels(h:eh w d s r aN)(c:i<r.tg.length):∀ p,0<=dE r.tg[i].name s.es p/\dE r.tg[i].name s.es p<=1000000:=fun p=>by
 have j:=aA.vh r.tg[i].name p s.es h.aY.small;have f:=jM h.aY;omega
theorem Ty(h:eh w d s r aN)(k:X0 w w wx)(c:i<r.tg.length){b:N}(y:0<=a)(o:a<b)(t:b<=1048320):
  X4 prog 153 #[X8 (U ⟨r.tg[i].tb,2,XU⟩),Yd #[a,b]] wx fun e w'=>e=Yg (V Yf (aA.mQ r.tg[i].name s.es a b))/\X0 wx wx w':=by
 let⟨ul,us,Fl,Fs,t1,t2⟩:=(h.dk.later k).th i c;have j:=h.levels c;have e:=aA.T3 (name:=r.tg[i].name) h.aY.small (EO h.aY) y o t;unfold tT at e;have f:=t1.lv;rw[(h.of.th i c).1] at f;refine aK (I5 (kh (dE r.tg[i].name s.es)) _ 2 ul Fl a b wx t1.c2 f (xp j) (Aj (fun p=>(j p).1)) o) fun w' q=>?_;exact⟨by rw[<- e],q⟩
theorem Tz(h:eh w d s r aN)(k:X0 w w wx)(c:i<r.tg.length){b:N}(A:0<=a)(G:a<b)(z:b<=1048320)(y:1<=long)(F:long<=1048320)(D:0<=u):
  X4 prog 154 #[X8 (U ⟨r.tg[i].tb,2,XU⟩),Yd #[a,b],long,V Yf (r.tg[i].aM-u)] wx fun e w'=>∃ q:XM N,e=Yg (jx q)/\aA.jH s.ts s.es r.tg[i].name u long a b=aA.Is q/\X0 wx wx w':=by
 let⟨ul,us,Fl,Fs,t1,t2⟩:=(h.dk.later k).th i c;have t:=h.levels c;have j:=t1.lv;rw[(h.of.th i c).1] at j
 have f:aA.bW r.tg[i].name s.ts=r.tg[i].aM:=by
  have C:=El h.aY.tn (i:=i) (by rw[<- h.of.len];exact c);rw[h.of.kU c] at C;exact C
 refine (Su (kh (dE r.tg[i].name s.es)) _ 2 ul Fl a b long (r.tg[i].aM-u) wx t1.c2 j (xp t) (Aj (fun p=>(t p).1)) A G z y F).mono ?_;rintro H w' ⟨q,rfl,o,E⟩;rw[<- f] at o;exact⟨q,rfl,aA.UK h.aY.small (EO h.aY) A z D y o,E⟩
theorem WK(j:dZ s)(h:fS s name 0 fr til≠0):aA.aV s (.dN name fr til)=(s,aA.bI.error (fS s name 0 fr til)):=by
 have q:=aA.Ff j.tu name;simp only[aA.aV];unfold fS aA.eB at *
 by_cases c:aA.bW name s.ts=0
 .rw[XS c];simp[c]
 .have o:¬ (aA.bW name s.ts<0):=O
  simp only[c,o] at h ⊢
  by_cases f:til<=fr
  .simp[f]
  .simp[f] at h
theorem TJ(h:fS s name 0 fr til=0):aA.aV s (.dN name fr til)=(s,aA.bI.num (aA.mQ name s.es fr til)):=by
 let⟨h1,h2⟩:=rC h;have c:aA.bW name s.ts≠0:=fun e=>by unfold aA.eB at h1;rw[XS e] at h1;omega
 simp only[aA.aV];rw[XR c,XR O]
theorem Rf(c:Array XZ)(w:XY):(callFunc 153 c).run prog w=.ok (.enter 153 c) w:=XF
theorem To(h:eh w d s r aN)(name:XK)(hn:name.size<=1000)(fr til:N)(hl:aA.iV (.dN name fr til)):
  X4 prog 100 #[d,Yd #[name,fr,til]] w fun e w'=>∃ v,e=Yg v/\dS w d aN (aA.aV s (.dN name fr til)) v w':=by
 obtain⟨R,t,f,S⟩:=qA w (Yh #[name,fr,til] 176);have x0:=bG f 0 rfl;have E:=bG f 1 rfl;have D:=bG f 2 rfl;have AK:=aC (vz (h.dk.later R) h.of h.aY name hn 0 fr til);have z:=aC h;have y:=aC (Yz R t);clear h R t f
 go_in
 go_upto_region 1 with fail
 change Code.wp _ _ _ _ ((w.alloc (Yh #[name,fr,til] 176)).alloc bB);generalize (w.alloc (Yh #[name,fr,til] 176)).alloc bB=X at *
 go_wp21
 refine AK.mono ?_;rintro e w1 ⟨hp,q⟩;have C:Hid (X0 w w w1):=y.1.trans (q.mono y.1.size);have QX:Hid (Q7 w1 (w.heap.size+1)):=(Q7.of y.2).later (q.block _ S);rcases hp with ⟨o,rfl⟩|⟨o,i,hi,e1,e2,rfl⟩
 .have A:=aC (WK z.aY o);generalize fS s name 0 fr til=er at *;have aa:(er != 0)=XX:=by simpa using o
  clear o AK y q x0 E D
  go_wp21
  refine aK (jN er w1) fun j c=>?_;have HF:=aC (z.refuse C QX c A);obtain⟨P,L,K,I,H,G,F,T⟩:=HF.1;simp only[bJ]
  go_wp21
  exact cL results100 ⟨P,L,K,I,H,G,F,T⟩ ⟨_,rfl,HF.2⟩
 .have A:=aC (TJ o);have y1:=(zo (w:=X) (a:=(w,1)) (q.block w O)).trans E;have y2:=(zo (w:=X) (a:=(w,2)) (q.block w O)).trans D;have MC:=aC (Ty z (wx:=w1.drew) C.drew hi hl.1 (rC o).2 hl.2.2.2);rw[e1] at MC;have AF:Hid (∀ j,X0 w1.drew.heap.size w1.drew j->Q7 j (w.heap.size+1)/\dS w d aN (aA.aV s (.dN name fr til)) (bJ 0 0 (aA.mQ name s.es fr til) () () () ()) (cR j (w.heap.size+1) (V Yf 0) (V Yf 0) (V Yf (aA.mQ name s.es fr til)) () () () ())):=fun j k2=>⟨QX.later (k2.block _ (Yl _ _ QX.q0)),by rw[A];exact z.said (C.drew.trans (k2.mono C.size)) O 0 (aA.mQ name s.es fr til) _ _ _ _ _ _ _⟩
  clear o AK y q x0 E D e1 e2 A;generalize (aA.mQ name s.es fr til)=nn at *
  go_upto_region 4 with fail
  go_region_law (first
   |(refine qe (by rfl) 153 _ _ (by rfl) _ (by simp[Act.eval]) (Rf _ _) MC ?_;rintro e j ⟨rfl,c⟩;refine⟨_,rfl,?_⟩;have FF:=aC (AF j c);obtain⟨⟨P,L,K,I,H,G,F,T⟩,_⟩:=AF j c))
  all_goals
   go_wp21
   exact cL results100 ⟨P,L,K,I,H,G,F,T⟩ ⟨_,rfl,FF.2⟩
theorem WJ(h:fS s name u fr til≠0):aA.aV s (.find name u long fr til)=(s,aA.bI.error (fS s name u fr til)):=by
 simp only[aA.aV];unfold fS at *
 by_cases c:aA.eB s.ts name u≠0
 .rw[XS c,XS c]
 .rw[XR c] at h ⊢;rw[XR c]
  by_cases f:til<=fr
  .rw[XS f,XS f]
  .rw[XR f] at h;omega
theorem TI(h:fS s name u fr til=0):aA.aV s (.find name u long fr til)=(s,aA.bI.num (aA.jH s.ts s.es name u long fr til)):=by
 let⟨h1,h2⟩:=rC h;simp only[aA.aV];rw[XR O,XR O]
theorem Sj(h:eh w d s r aN)(name:XK)(hn:name.size<=1000)(u long fr til:N)(o:aA.iV (.find name u long fr til)):
  X4 prog 101 #[d,Yd #[name,u,long,fr,til]] w fun e w'=>∃ v,e=Yg v/\dS w d aN (aA.aV s (.find name u long fr til)) v w':=by
 obtain⟨hX,L,j,ac⟩:=qA w (Yh #[name,u,long,fr,til] 178);have x0:=bG j 0 rfl;have x1:=bG j 1 rfl;have x2:=bG j 2 rfl;have x3:=bG j 3 rfl;have x4:=bG j 4 rfl;have AK:=aC (vz (h.dk.later hX) h.of h.aY name hn u fr til);have z:=aC h;have R:=aC (Yz hX L);clear h hX L j
 go_in
 go_upto_region 1 with fail
 change Code.wp _ _ _ _ ((w.alloc (Yh #[name,u,long,fr,til] 178)).alloc bB);generalize (w.alloc (Yh #[name,u,long,fr,til] 178)).alloc bB=X at *
 go_wp21
 refine AK.mono ?_;rintro e w1 ⟨hp,t⟩;have S:Hid (X0 w w w1):=R.1.trans (t.mono R.1.size);have QX:Hid (Q7 w1 (w.heap.size+1)):=(Q7.of R.2).later (t.block _ ac);rcases hp with ⟨y,rfl⟩|⟨y,i,hi,e1,e2,rfl⟩
 .have HD:=aC (WJ (long:=long) y);generalize fS s name u fr til=er at *;have ae:(er != 0)=XX:=by simpa using y
  clear y AK R t x0 x1 x2 x3 x4
  go_wp21
  refine aK (jN er w1) fun c f=>?_;have HF:=aC (z.refuse S QX f HD);obtain⟨I,H,G,F,E,D,C,P⟩:=HF.1;simp only[bJ]
  go_wp21
  exact cL results101 ⟨I,H,G,F,E,D,C,P⟩ ⟨_,rfl,HF.2⟩
 .have HD:=aC (TI (long:=long) y);have y1:=(zo (w:=X) (a:=(w,1)) (t.block w O)).trans x1;have y2:=(zo (w:=X) (a:=(w,2)) (t.block w O)).trans x2;have y3:=(zo (w:=X) (a:=(w,3)) (t.block w O)).trans x3;have y4:=(zo (w:=X) (a:=(w,4)) (t.block w O)).trans x4;obtain⟨ul,us,Fl,Fs,t1,t2⟩:=(z.dk.later S).th i hi;have cu:=t1.c1
  have aa:1<=r.tg[i].aM/\r.tg[i].aM<=9:=by
   have ab:(r.tg[i].name,r.tg[i].aM)∈s.ts:=by rw[<- z.of.kU hi];exact zg _
   exact z.inv.tu _ ab
  have ad:Yf.wrap (r.tg[i].aM-u)=r.tg[i].aM-u:=cT (by have:=o.1;have:=o.2.1;omega) (by have:=o.1;omega);have RC:=aC (Tz z (wx:=w1.drew) S.drew (u:=u) hi o.2.2.2.2.1 (rC y).2 o.2.2.2.2.2.2.2 o.2.2.1 o.2.2.2.1 (by have:=o.1;omega));rw[e1] at RC
  have RD:Hid (X4 prog 154 #[X8 (U ⟨r.tg[i].tb,2,XU⟩),Yd #[fr,til],long,V Yf (r.tg[i].aM-u)] w1.drew fun e w'=>∃ (x:N) (bq:Bool),e=Yg (Yc #[x,bq])/\aA.jH s.ts s.es name u long fr til=(if bq then x else -1)/\X0 w1.drew.heap.size w1.drew w'):=by
   refine RC.mono ?_;rintro e w' ⟨q,rfl,K,f⟩
   cases q with
   |none=>exact⟨0,XW,rfl,K,f⟩
   |some x=>exact⟨x,XX,rfl,K,f⟩
  have A:Hid (∀ c T,X0 w1.drew.heap.size w1.drew c->(aA.jH s.ts s.es name u long fr til)=T->Q7 c (w.heap.size+1)/\dS w d aN (aA.aV s (.find name u long fr til)) (bJ 0 0 T () () () ()) (cR c (w.heap.size+1) (V Yf 0) (V Yf 0) (V Yf T) () () () ())):=fun c T k2 e=>⟨QX.later (k2.block _ (Yl _ _ QX.q0)),by rw[HD,<- e];exact z.said (S.drew.trans (k2.mono S.size)) O 0 (aA.jH s.ts s.es name u long fr til) _ _ _ _ _ _ _⟩
  clear y AK R t x0 x1 x2 x3 x4 e1 e2 HD t1 t2 aa RC;generalize r.tg[i].aM=un at *;generalize r.tg[i].tb=tb at *
  go_upto_region 4 with fail
  have AC:Hid (∀ c,X0 w1.drew.heap.size w1.drew c->c.cell? (w,1)=U ↑u/\c.cell? (w,2)=U ↑long/\c.cell? (w,3)=U ↑fr/\c.cell? (w,4)=U ↑til/\c.cell? (tb,1)=U (V Yf un)):=fun c k=>⟨aR k y1,aR k y2,aR k y3,aR k y4,aR k cu⟩
  go_region_held3 (fun w'=>w'.cell? (w,1)=U ↑u/\w'.cell? (w,2)=U ↑long/\w'.cell? (w,3)=U ↑fr/\w'.cell? (w,4)=U ↑til/\w'.cell? (tb,1)=U (V Yf un))
   (first
    |exact⟨y1,y2,y3,y4,cu⟩
    |exact AC _ f)
   (first
    |(go_at_call 154;refine RD.mono ?_;rintro e c ⟨x,bq,rfl,K,f⟩))
  have HB:=aC f
  cases bq
  all_goals
   have HQ:=aC K;clear K f AC y1 y2 y3 y4 cu
  .have FF:=aC (A c (-1) HB HQ);obtain⟨⟨I,H,G,F,E,D,C,P⟩,_⟩:=A c (-1) HB HQ;clear A RD
   go_wp21
   exact cL results101 ⟨I,H,G,F,E,D,C,P⟩ ⟨_,rfl,FF.2⟩
  .have FF:=aC (A c x HB HQ);obtain⟨⟨I,H,G,F,E,D,C,P⟩,_⟩:=A c x HB HQ;clear A RD
   go_wp21
   exact cL results101 ⟨I,H,G,F,E,D,C,P⟩ ⟨_,rfl,FF.2⟩
theorem xy.tU{n:N}(h:xy w d s aN n v w')(H:s.now+n<=1048320):dS w d aN (aA.aV s (.tick n)) v w':=by
 obtain⟨t,f,o,q,rfl,G,F,E,D,C,A,z,y⟩:=h;refine⟨t,f,G,F,E,D,C,(),(),o,q,[],?_,?_,ik.nil _ _ _,?_,A,z,(fun b j=>⟨XJ,XJ,y b j,XA⟩),fun b j=>by cases j⟩
 all_goals
  have c:(aA.aV s (.tick n)).2.err=0/\(aA.aV s (.tick n)).2.at_=0/\(aA.aV s (.tick n)).2.n=s.now+n/\(aA.aV s (.tick n)).2.entries=[]/\(aA.aV s (.tick n)).2.days=[]:=by
   show ((if 1048320<s.now+n then _ else _:St × aA.bI)).2.err=0/\((if 1048320<s.now+n then _ else _:St × aA.bI)).2.at_=0/\((if 1048320<s.now+n then _ else _:St × aA.bI)).2.n=s.now+n/\((if 1048320<s.now+n then _ else _:St × aA.bI)).2.entries=[]/\((if 1048320<s.now+n then _ else _:St × aA.bI)).2.days=[];rw[XR O];exact⟨rfl,rfl,rfl,rfl,rfl⟩
 .rw[c.1,c.2.1,c.2.2.1]
 .rw[c.2.2.2.1];rfl
 .rw[c.2.2.2.2];exact dY.nil _ _ _
theorem Uy(h:eh w d s r aN)(n:N)(F:1<=n/\n<=1048320)(c:1048320<s.now+n):
  X4 prog 103 #[d,Yd #[n]] w fun e w'=>∃ v,e=Yg v/\dS w d aN (aA.aV s (.tick n)) v w':=by
 let⟨hX,hXQ,hXb,_⟩:=qA w (Yh #[n] 182);have t:=bG hXb 0 rfl;have o:=(h.dk.later hX).c0;rw[h.of.now] at o;have H:=h.inv.n0;have G:=h.inv.n1;have y:Yf.wrap (s.now+n)=s.now+n:=cT O O;have A:=aC h;have j:=aC (Yz hX hXQ)
 have C:Hid (aA.aV s (.tick n)=(s,aA.bI.error 6)):=by
  show (if 1048320<s.now+n then _ else _)=_;rw[XS c]
 clear h hX hXQ hXb
 go_in
 go_upto_region 1 with fail
 change Code.wp _ _ _ _ ((w.alloc (Yh #[n] 182)).alloc bB);generalize (w.alloc (Yh #[n] 182)).alloc bB=X at *;have z:Hid (Q7 X.drew (w.heap.size+1)):=Q7.of j.2;have D:Hid (X0 w w X.drew):=j.1.drew;clear j
 go_big_region
 clear o t
 go_wp21
 refine aK (jN 6 X.drew) fun E f=>?_;have q:=aC (A.refuse D z f C);let⟨q0,q1,q2,q3,q4,q5,q6,fq⟩:=q.1;simp only[bJ]
 go_wp21
 exact cL results103 ⟨q0,q1,q2,q3,q4,q5,q6,fq⟩ ⟨_,rfl,q.2⟩
theorem S7(h:eh w d s r aN)(n:N)(f:1<=n/\n<=1048320):
  X4 prog 103 #[d,Yd #[n]] w fun e w'=>∃ v,e=Yg v/\dS w d aN (aA.aV s (.tick n)) v w':=by
 by_cases c:s.now+n<=1048320
 .refine (TO h.dk h.of h.wl h.hl h.inv n f c).mono ?_;rintro e w' ⟨v,rfl,j⟩;exact⟨v,rfl,j.tU c⟩
 .exact Uy h n f O
theorem Ev:∀ (n:M)(c f:N),aJ.canon n (fun _=>0) c f=.nil
 |0,_,_=>by simp[aJ.canon,aJ.mk,aJ.isNil]
 |n+1,c,f=>by
  simp only[aJ.canon];have j:=Ev n c (aJ.aY c f);have h:=Ev n (aJ.aY c f) f;rw[j,h];simp[aJ.mk,aJ.isNil]
theorem TV:kh (fun _=>0)=.nil:=Ev 20 0 1048320
theorem Kq{name:XK}:∀ {es:J aO},(∀ e∈es,cN name e=XW)->dE name es=fun _=>0
 |[],_=>by funext p;rfl
 |e :: es,h=>by
  funext p
  have ih:=congrFun (Kq (name:=name) (es:=es) (fun x c=>h x (List.mem_cons_of_mem _ c))) p;simp only[dE,h e List.mem_cons_self,ih];rfl
theorem Of.bA(h:Of s r){c:M}(y:∀ t∈r.tg,t.name≠name):Of { s with ts:=s.ts++[(name,u)] } { r with tg:=r.tg++[⟨name,u,c,fun _=>0,.nil⟩] }:=by
 have o:∀ e∈s.es,cN name e=XW:=fun e E=>by
  obtain⟨g,D,rfl⟩:=h.get E;let⟨i,q,e1,j⟩:=h.tb g D;have:cO g.e.bA name=XW:=ry.2 (fun f=>y _ (zg q) (by rw[e1,f]));simp[cN,this]
 refine⟨h.now,h.given,by show (r.tg++[_]).map _=_;rw[Zl,h.ts];rfl,h.es,fun i q=>?_,fun g D=>?_⟩
 .have C:i<r.tg.length+1:=by simpa using q
  by_cases e:i<r.tg.length
  .have j:(r.tg++[(⟨name,u,c,fun _=>0,.nil⟩:TG)])[i]'(by simpa using C)=r.tg[i]:=List.getElem_append_left e;show (r.tg++[(⟨name,u,c,fun _=>0,.nil⟩:TG)])[i].A=dE (r.tg++[(⟨name,u,c,fun _=>0,.nil⟩:TG)])[i].name s.es/\im (r.tg++[(⟨name,u,c,fun _=>0,.nil⟩:TG)])[i].name s.es (jr r.eg) (r.tg++[(⟨name,u,c,fun _=>0,.nil⟩:TG)])[i].T;rw[j];exact h.th i e
  .have f:i=r.tg.length:=O
   subst f;have j:(r.tg++[(⟨name,u,c,fun _=>0,.nil⟩:TG)])[r.tg.length]'XA=⟨name,u,c,fun _=>0,.nil⟩:=XA
   show (r.tg++[(⟨name,u,c,fun _=>0,.nil⟩:TG)])[r.tg.length].A=dE (r.tg++[(⟨name,u,c,fun _=>0,.nil⟩:TG)])[r.tg.length].name s.es/\im (r.tg++[(⟨name,u,c,fun _=>0,.nil⟩:TG)])[r.tg.length].name s.es (jr r.eg) (r.tg++[(⟨name,u,c,fun _=>0,.nil⟩:TG)])[r.tg.length].T;rw[j];refine⟨(Kq o).symm,List.Pairwise.nil,fun z=>?_⟩;constructor
   .intro G;simp[aF.cH] at G
   .rintro ⟨e,E,F,_⟩;rw[o e E] at F;cases F
 .let⟨i,q,e1,j⟩:=h.tb g D;have f:(r.tg++[(⟨name,u,c,fun _=>0,.nil⟩:TG)])[i]'XG=r.tg[i]:=List.getElem_append_left q;refine⟨i,(by show i<(r.tg++[_]).length;simp;omega),?_,?_⟩
  .exact (congrArg TG.name f).trans e1
  .exact j.trans (congrArg TG.tb f).symm
theorem JL(h:kH r.tg name=XU):∀ t∈r.tg,t.name≠name:=by
 intro t ht e;rw[uw] at h
 cases c:r.tg.find? fun t=>cO t.name name with
 |none=>exact (List.find?_eq_none.1 c t ht) (um.2 e)
 |some y=>rw[c] at h;cases h
theorem eh.A7(h:eh w d s r aN)(k:X0 w w w1)(T:name.size<=1000)(ht:kH r.tg name=XU)(hl:r.tg.length<4)(F:Q7 w1 (w.heap.size+1)):
  ∃ m,w1.cell? (d,2)=U (.map (U m))/\∃ w3,(Instr.mapUpdate 137 (.map (U m)) name w1).run prog (w1.alloc (Yh #[name,u,X8 XU,X8 XU] 243)).drew=.ok () w3/\Q7 w3 (w.heap.size+1)/\∀ a b c e f g i,dS w d aN ({ s with ts:=s.ts++[(name,u)] },aA.bI.num 0) (bJ 0 0 0 () () () ()) (cR w3 (w.heap.size+1) a b c e f g i):=by
 have G:=h.dk.later k;have A:X0 w1.heap.size w1 (w1.alloc (Yh #[name,V Yf u,X8 XU,X8 XU] 243)).drew:=bC.drew;have K:=G.later A;have hb:=cP w1 (Yh #[name,V Yf u,X8 XU,X8 XU] 243);have j:(w1.alloc (Yh #[name,V Yf u,X8 XU,X8 XU] 243)).drew.heap[w1.heap.size]?=U (Yh #[name,V Yf u,X8 XU,X8 XU] 243 (0,0)):=hb;have z:Q7 (w1.alloc (Yh #[name,V Yf u,X8 XU,X8 XU] 243)).drew (w.heap.size+1):=F.later (A.block _ (Yl _ _ F.q0));have S:w.heap.size+1<w1.heap.size:=Yl _ _ F.q0;obtain⟨m0,_,H,_⟩:=G.mt;obtain⟨m,f,P,L,a3,a4⟩:=K.mt
 have X:m0=m:=by
  have e:=A.cell (p:=(d,2)) (Yl _ _ H);rw[H,P] at e
  injection e with e;injection e with e;injection e with e
  exact e.symm
 subst X;refine⟨m0,H,?_⟩;generalize (w1.alloc (Yh #[name,u,X8 XU,X8 XU] 243)).drew=Z at *;obtain⟨w3,y,R,I⟩:=a3.kV CG underlying137 XH (C5 T) (by unfold nN;trivial) w1
 have hT:TH Z w1 name u (fun _=>0) .nil XU XU [] []:=by
  refine⟨?_,?_,?_,?_,fun o=>frozen_of_row _ _ _ _ _ j,?_,⟨rfl,rfl⟩,by simp,by simp,by simp⟩
  .simp only[YF,j];rfl
  .simp only[YF,j];rfl
  .simp only[YF,j];rfl
  .simp only[YF,j];rfl
  .rw[TV];exact⟨rfl,rfl⟩
 obtain⟨c2,e1,e2,e3⟩:=K.vQ (t:=⟨name,u,w1,fun _=>0,.nil⟩) (B:=w1) P L a4 hT (G.none aI) aI (JL ht) R I;have q:aN (w.heap.size+1)=XU:=h.dk.none O;have D:w+1≠m0:=fun e=>by rw[e,L] at q;cases q
 have C:w+1<Z.heap.size:=Yl _ _ z.q0;have E:w3.heap[w.heap.size+1]?=Z.heap[w.heap.size+1]?:=I.block _ C (fun e=>D (ZN e));refine⟨w3,y,z.later E,fun a b c e f g i=>vv e1 (h.of.bA (JL ht)) h.wl h.hl (((Step.below k).trans (Step.below A)).trans (e2.any k.size)) O (e3 _ q (by show w+1≠w1.heap.size;omega)) 0 0 a b c e f g i⟩
theorem RA(w:XY):(zeroValue 198).run prog w=.ok (X8 XU) w:=by simp[go_sem]
theorem Ux(h:eh w d s r aN)(name:XK)(hn:name.size<=1000)(u:N):
  X4 prog 91 #[d,Yd #[name,u]] w fun e w'=>∃ v,e=Yg v/\dS w d aN (aA.aV s (.bA name u)) v w':=by
 obtain⟨hX,L,y,_⟩:=qA w (Yh #[name,u] 149);have x0:=bG y 0 rfl;have T:=bG y 1 rfl;have o:=aC h;have A:=aC (Yz hX L);clear h hX L y
 go_in
 go_upto_region 1 with fail
 change Code.wp _ _ _ _ ((w.alloc (Yh #[name,u] 149)).alloc bB);generalize (w.alloc (Yh #[name,u] 149)).alloc bB=X at *;have hx:=o.dk.later A.1;obtain⟨m,f,a1,a2,R,a4⟩:=hx.mt;have c:=(R.block (w':=X.drew) rfl).look CG underlying137 (RA X.drew) (C5 hn);have q:=(R.block (w':=X.drew) rfl).len underlying137;rw[a4 name] at c;have QX:Hid (Q7 X.drew (w.heap.size+1)):=Q7.of A.2;have BX:Hid (X0 w w X.drew):=A.1.drew;have aa:=o.inv.tl;rw[<- o.of.len] at aa
 cases ht:kH r.tg name with
 |some b =>
  rw[ht] at c;have j:(Instr.lookup 137 (.map (U m)) name XW).run prog X.drew=.ok b X.drew:=c
  have S:Hid (aA.aV s (.bA name u)=(s,aA.bI.error 4)):=by
   obtain⟨i,hi,e1,e2,e3⟩:=Ku o.of o.inv.tn ht;have ab:(r.tg[i].name,r.tg[i].aM)∈s.ts:=by rw[<- o.of.kU hi];exact zg _
   have:=(o.inv.tu _ ab).1;simp only[Hid,aA.aV];rw[XS (by rw[e3];omega)]
  clear c R a4 ht hx A q
  go_big_region
  clear j x0 T a1
  go_wp21
  refine aK (jN 4 X.drew) fun w2 t=>?_;have z:=aC (o.refuse BX QX t S);obtain⟨I,H,G,F,E,D,C,P⟩:=z.1;simp only[bJ]
  go_wp21
  exact cL results91 ⟨I,H,G,F,E,D,C,P⟩ ⟨_,rfl,z.2⟩
 |none =>
  rw[ht] at c;have j:(Instr.lookup 137 (.map (U m)) name XW).run prog X.drew=.ok (X8 XU) X.drew:=c;have af:=Kt o.of ht;have b1:X.drew.cell? (d,2)=U (.map (U m)):=a1;have z0:X.drew.cell? (w,0)=U ↑name:=x0;have z1:X.drew.cell? (w,1)=U ↑u:=T
  by_cases h4:r.tg.length=4
  .rw[h4] at q
   have S:Hid (aA.aV s (.bA name u)=(s,aA.bI.error 5)):=by
    simp only[Hid,aA.aV];rw[XR O,XS (by rw[<- o.of.len];exact h4)]
   clear c R a4 ht hx A
   go_big_region
   clear j x0 T a1;generalize X.drew=Y at *
   go_wp21
   refine aK (jN 5 Y) fun w2 t=>?_;have z:=aC (o.refuse BX QX t S);obtain⟨I,H,G,F,E,D,C,P⟩:=z.1;simp only[bJ]
   go_wp21
   exact cL results91 ⟨I,H,G,F,E,D,C,P⟩ ⟨_,rfl,z.2⟩
  .have S:Hid (aA.aV s (.bA name u)=({ s with ts:=s.ts++[(name,u)] },aA.bI.num 0)):=by
    simp only[Hid,aA.aV];rw[XR O,XR (by rw[<- o.of.len];exact h4)]
   have HT:=aC ht;have ag:(r.tg.length:N)<4:=O
   clear c R a4 ht hx A
   go_big_region
   clear j x0 T a1;generalize X.drew=Y at *
   go_wp21
   refine aK (Ka name Y O) fun w1 hb=>?_;have ac:w+1<Y.heap.size:=Yl _ _ QX.q0;obtain⟨m2,g1,w3,K,q7,hf⟩:=o.A7 (u:=u) (BX.trans (hb.mono BX.size)) hn HT O (QX.later (hb.block _ ac));have g2:w1.cell? (w,1)=U ↑u:=aR hb z1;have z:Hid (dS w d aN (aA.aV s (.bA name u)) (bJ 0 0 0 () () () ()) (cR w3 (w.heap.size+1) (V Yf 0) (V Yf 0) (V Yf 0) () () () ())):=by rw[S];exact hf _ _ _ _ _ _ _
   have ka:X0 w1 w1 (w1.alloc (Yh #[name,u,X8 XU,X8 XU] 243)):=bC;have ae:=aR ka g1;have ad:=aR ka g2;clear hf hb q z0 z1 b1 ka
   go_upto_region 6 with fail
   go_big_region
   clear K g1 g2 ae ad;obtain⟨I,H,G,F,E,D,C,P⟩:=q7
   go_wp21
   exact cL results91 ⟨I,H,G,F,E,D,C,P⟩ ⟨_,rfl,z⟩
theorem Ww(h:eh w d s r aN)(name:XK)(y:name.size<=1000)(u:N):
  X4 prog 64 #[d,Ye 149 (Yd #[name,u])] w fun e w'=>∃ v,e=Yg v/\dS w d aN (aA.aV s (.bA name u)) v w':=by
 have f:=aC (h.oF (Yh #[name,u] 149));have j:=aC (Ux f.1 name y u);clear h;unfold bB at j f;have c:=nY underlying149
 go_in
 go_wp21
 refine j.mono ?_;rintro e A ⟨v,rfl,q⟩;obtain⟨H,at_,C,T,S,R,P,G,F,E,D,c1,L,K,I,rfl,t,o⟩:=q.ow f.2;have z:=aC o;clear q o j c;let⟨q0,q1,q2,q3,q4,q5,q6,fq⟩:=t;simp only[bJ]
 go_wp21
 exact cL results64 ⟨q0,q1,q2,q3,q4,q5,q6,fq⟩ ⟨_,rfl,z⟩
theorem VZ(h:eh w d s r aN)(name:XK)(z:name.size<=1000)(u fr til:N)(A:aA.iV (.enter 1 name u fr til 0)):
  X4 prog 64 #[d,Ye 154 (Yd #[name,u,fr,til])] w fun e w'=>∃ v,e=Yg v/\dS w d aN (aA.aV s (.enter 1 name u fr til 0)) v w':=by
 have j:=aC (h.oF (Yh #[name,u,fr,til] 154));have o:=aC (Sw j.1 name z u fr til A);clear h;unfold bB at o j;have f:=oS 154 XC;have c:=nY underlying154
 go_in
 go_wp21
 refine o.mono ?_;rintro e D ⟨v,rfl,t⟩;obtain⟨K,at_,E,a1,X,T,S,I,H,G,F,c1,R,P,L,rfl,y,q⟩:=t.ow j.2;have C:=aC q;clear t q o f c;let⟨q0,q1,q2,q3,q4,q5,q6,fq⟩:=y;simp only[bJ]
 go_wp21
 exact cL results64 ⟨q0,q1,q2,q3,q4,q5,q6,fq⟩ ⟨_,rfl,C⟩
theorem V2(h:eh w d s r aN)(name:XK)(A:name.size<=1000)(u fr til long:N)(C:aA.iV (.enter 2 name u fr til long)):
  X4 prog 64 #[d,Ye 156 (Yd #[name,u,fr,til,long])] w fun e w'=>∃ v,e=Yg v/\dS w d aN (aA.aV s (.enter 2 name u fr til long)) v w':=by
 have o:=aC (h.oF (Yh #[name,u,fr,til,long] 156));have q:=aC (Sq o.1 name A u fr til long C);clear h;unfold bB at q o;have f:=oS 156 XC;have j:=pI 156 XC;have c:=nY underlying156
 go_in
 go_wp21
 refine q.mono ?_;rintro e E ⟨v,rfl,y⟩;obtain⟨L,at_,F,a1,a2,X,T,K,I,H,G,c1,S,R,P,rfl,z,t⟩:=y.ow o.2;have D:=aC t;clear y t q f j c;let⟨q0,q1,q2,q3,q4,q5,q6,fq⟩:=z;simp only[bJ]
 go_wp21
 exact cL results64 ⟨q0,q1,q2,q3,q4,q5,q6,fq⟩ ⟨_,rfl,D⟩
theorem Xb(h:eh w d s r aN)(id:N)(y:0<=id/\id<=9999999):
  X4 prog 64 #[d,Ye 167 (Yd #[id])] w fun e w'=>∃ v,e=Yg v/\dS w d aN (aA.aV s (.bF id)) v w':=by
 have z:=aC (h.oF (Yh #[id] 167));have A:=aC (VQ z.1 id y);clear h;unfold bB at A z;have j:=oS 167 XC;have t:=pI 167 XC;have q:=qH 167 XC;have o:=qG 167 XC;have f:=sk 167 XC;have c:=nY underlying167
 go_in
 go_wp21
 refine A.mono ?_;rintro e G ⟨v,rfl,D⟩;obtain⟨R,at_,H,a1,a2,a3,a4,P,L,K,I,c1,X,T,S,rfl,E,C⟩:=D.ow z.2;have F:=aC C;clear D C A j t q o f c;let⟨q0,q1,q2,q3,q4,q5,q6,fq⟩:=E;simp only[bJ]
 go_wp21
 exact cL results64 ⟨q0,q1,q2,q3,q4,q5,q6,fq⟩ ⟨_,rfl,F⟩
theorem WG(h:eh w d s r aN)(id:N)(z:0<=id/\id<=9999999):
  X4 prog 64 #[d,Ye 168 (Yd #[id])] w fun e w'=>∃ v,e=Yg v/\dS w d aN (aA.aV s (.cancel id)) v w':=by
 have A:=aC (h.oF (Yh #[id] 168));have C:=aC (Ve A.1 id z);clear h;unfold bB at C A;have o:=oS 168 XC;have y:=pI 168 XC;have t:=qH 168 XC;have q:=qG 168 XC;have j:=sk 168 XC;have f:=tK 168 XC;have c:=nY underlying168
 go_in
 go_wp21
 refine C.mono ?_;rintro e H ⟨v,rfl,E⟩;obtain⟨S,at_,I,a1,a2,a3,a4,R,P,L,K,c1,c2,X,T,rfl,F,D⟩:=E.ow A.2;have G:=aC D;clear E D C o y t q j f c;let⟨q0,q1,q2,q3,q4,q5,q6,fq⟩:=F;simp only[bJ]
 go_wp21
 exact cL results64 ⟨q0,q1,q2,q3,q4,q5,q6,fq⟩ ⟨_,rfl,G⟩
theorem V5(h:eh w d s r aN)(name:XK)(I:name.size<=1000)(fr til:N)(K:aA.iV (.dN name fr til)):
  X4 prog 64 #[d,Ye 176 (Yd #[name,fr,til])] w fun e w'=>∃ v,e=Yg v/\dS w d aN (aA.aV s (.dN name fr til)) v w':=by
 have D:=aC (h.oF (Yh #[name,fr,til] 176));have E:=aC (To D.1 name I fr til K);clear h;unfold bB at E D;have t:=oS 176 XC;have C:=pI 176 XC;have A:=qH 176 XC;have y:=qG 176 XC;have j:=sk 176 XC;have f:=tK 176 XC;have o:=uI 176 XC;have z:=wI 176 XC;have c:=wN 176 XC;have q:=nY underlying176
 go_in
 go_wp21
 refine E.mono ?_;rintro e P ⟨v,rfl,G⟩;obtain⟨er,at_,R,a1,a2,a3,a4,n1,X,T,S,c1,c2,c3,c4,rfl,H,F⟩:=G.ow D.2;have L:=aC F;clear G F E t C A y j f o z c q;let⟨q0,q1,q2,q3,q4,q5,q6,fq⟩:=H;simp only[bJ]
 go_wp21
 exact cL results64 ⟨q0,q1,q2,q3,q4,q5,q6,fq⟩ ⟨_,rfl,L⟩
theorem V1(h:eh w d s r aN)(name:XK)(K:name.size<=1000)(u long fr til:N)(L:aA.iV (.find name u long fr til)):
  X4 prog 64 #[d,Ye 178 (Yd #[name,u,long,fr,til])] w fun e w'=>∃ v,e=Yg v/\dS w d aN (aA.aV s (.find name u long fr til)) v w':=by
 have E:=aC (h.oF (Yh #[name,u,long,fr,til] 178));have F:=aC (Sj E.1 name K u long fr til L);clear h;unfold bB at F E;have t:=oS 178 XC;have D:=pI 178 XC;have C:=qH 178 XC;have y:=qG 178 XC;have j:=sk 178 XC;have f:=tK 178 XC;have o:=uI 178 XC;have A:=wI 178 XC;have c:=wN 178 XC;have z:=yI 178 XC;have q:=nY underlying178
 go_in
 go_wp21
 refine F.mono ?_;rintro e R ⟨v,rfl,H⟩;obtain⟨er,at_,S,a1,a2,a3,a4,n1,n2,X,T,c1,c2,c3,c4,rfl,I,G⟩:=H.ow E.2;have P:=aC G;clear H G F t D C y j f o A c z q;let⟨q0,q1,q2,q3,q4,q5,q6,fq⟩:=I;simp only[bJ]
 go_wp21
 exact cL results64 ⟨q0,q1,q2,q3,q4,q5,q6,fq⟩ ⟨_,rfl,P⟩
theorem V6(h:eh w d s r aN)(n:N)(P:1<=n/\n<=1048320):
  X4 prog 64 #[d,Ye 182 (Yd #[n])] w fun e w'=>∃ v,e=Yg v/\dS w d aN (aA.aV s (.tick n)) v w':=by
 have G:=aC (h.oF (Yh #[n] 182));have H:=aC (S7 G.1 n P);clear h;unfold bB at H G;have y:=oS 182 XC;have F:=pI 182 XC;have D:=qH 182 XC;have z:=qG 182 XC;have j:=sk 182 XC;have f:=tK 182 XC;have q:=uI 182 XC;have C:=wI 182 XC;have c:=wN 182 XC;have A:=yI 182 XC;have E:=BB 182 XC;have o:=Hj 182 XC;have t:=nY underlying182
 go_in
 go_wp21
 refine H.mono ?_;rintro e S ⟨v,rfl,K⟩;obtain⟨er,at_,T,a1,a2,a3,a4,n1,n2,n3,X,c1,c2,c3,c4,rfl,L,I⟩:=K.ow G.2;have R:=aC I;clear K I H y F D z j f q C c A E o t;let⟨q0,q1,q2,q3,q4,q5,q6,fq⟩:=L;simp only[bJ]
 go_wp21
 exact cL results64 ⟨q0,q1,q2,q3,q4,q5,q6,fq⟩ ⟨_,rfl,R⟩
theorem W9(y m:N)(w:XY)(ht:ig w):
  X4 prog 294 #[y,m] w fun e w'=>e=Yg (Rd.reached y m)/\w'=w:=by
 cases h:Cal.ok y m 1
 .have c:=aC (Ed y m 1 w ht h);have e:Rd.reached y m=XW:=by unfold Rd.reached;rw[h];rfl
  rw[e];clear h ht e
  go_in
  go_wp21
  refine c.mono ?_;rintro e w1 ⟨rfl,rfl⟩
  go_wp21
  go_ret;exact⟨rfl,rfl⟩
 .have c:=aC (Eu y m 1 w ht h);have e:Rd.reached y m=decide (Cal.num y m 1<728):=by unfold Rd.reached;rw[h];rfl
  rw[e];clear h ht e;generalize Cal.num y m 1=z at *
  go_in
  go_wp21
  refine c.mono ?_;rintro e w1 ⟨rfl,rfl⟩
  go_wp21
  go_ret;exact⟨rfl,rfl⟩
theorem J0(y m ev:N)(w:XY)(F:0<=y)(E:y<=100000)(D:1<=m)(C:m<=12)(A:1<=ev)(z:ev<=99):
  X4 prog 295 #[y,m,ev] w fun e w'=>e=Yg (Yc #[V Yf (Rd.ot y m ev),V Yf (Rd.nk m ev)])/\w'=w:=by
 have t:Yf.wrap (m-1)=m-1:=cT O O;have q:Yf.wrap (m-1+ev)=m-1+ev:=cT O O;have o:Yf.wrap ((m-1+ev).tdiv 12)=(m-1+ev) / 12:=by rw[Int.tdiv_eq_ediv_of_nonneg O];exact cT O O
 have j:Yf.wrap (y+(m-1+ev) / 12)=y+(m-1+ev) / 12:=cT O O;have h:(m-1+ev).tmod 12=(m-1+ev) % 12:=Int.tmod_eq_emod_of_nonneg O;have f:Yf.wrap ((m-1+ev) % 12)=(m-1+ev) % 12:=cT O O;have c:Yf.wrap ((m-1+ev) % 12+1)=(m-1+ev) % 12+1:=cT O O;unfold Rd.ot Rd.nk
 go_in
 go_wp21
 go_ret2;simp
def iU(r:Rd.cA):XZ:=Yd #[V Yf r.pc,V Yf r.ev,aL r.acc 0,aL r.acc 1,aL r.acc 2,aL r.acc 3,aL r.acc 4,aL r.acc 5,aL r.acc 6,V Yf r.fr,r.mn,r.mi,r.ti,r.un]
def kL(r:Rd.cA)(d:N):N × N:=(d*1440+r.mn,d*1440+r.mn+r.mi)
theorem KH(r:Rd.cA)(c:Rd.fY r)(d:N)(C:0<=d)(A:d<100000)(w:XY):
  X4 prog 200 #[iU r,d] w fun e w'=>e=Yg (Yd #[V Yf (kL r d).1,V Yf (kL r d).2])/\X0 w w w':=by
 have j:=c.m0;have h:=c.m1;have z:=c.i1;have y:=c.i2;have t:Yf.wrap (d*1440)=d*1440:=cT O O;have q:Yf.wrap (d*1440+r.mn)=d*1440+r.mn:=cT O O;have o:Yf.wrap (d*1440+r.mn+r.mi)=d*1440+r.mn+r.mi:=cT O O;have f:Hid (X0 w w ((w.alloc (Yh #[V Yf r.pc,V Yf r.ev,aL r.acc 0,aL r.acc 1,aL r.acc 2,aL r.acc 3,aL r.acc 4,aL r.acc 5,aL r.acc 6,V Yf r.fr,r.mn,r.mi,r.ti,r.un] 162)).alloc (Yh #[V Yf (d*1440+r.mn),V Yf (d*1440+r.mn+r.mi)] 60))):=bC.alloc XA _;clear c;unfold iU
 go_in
 go_wp21
 exact bodyPost_ret (v:=Yd #[V Yf (d*1440+r.mn),V Yf (d*1440+r.mn+r.mi)]) (by simp[results,results200,go_sem]) rfl ⟨rfl,f⟩
def cD(r:Rd.cA):Obj:=(Yh #[V Yf r.pc,V Yf r.ev,aL r.acc 0,aL r.acc 1,aL r.acc 2,aL r.acc 3,aL r.acc 4,aL r.acc 5,aL r.acc 6,V Yf r.fr,r.mn,r.mi,r.ti,r.un] 162 (0,0))
theorem uS{r:Rd.cA}(h:w.heap[b]?=U (cD r)):w.cell? (b,0)=U (V Yf r.pc):=by unfold cD at h;simp only[YF,h];rfl
theorem qd{r:Rd.cA}(h:w.heap[b]?=U (cD r)):w.cell? (b,1)=U (V Yf r.ev):=by unfold cD at h;simp only[YF,h];rfl
theorem uT{r:Rd.cA}(h:w.heap[b]?=U (cD r)):w.cell? (b,2)=U (Yb (aL r.acc 0)):=by unfold cD at h;simp only[YF,h];rfl
theorem uU{r:Rd.cA}(h:w.heap[b]?=U (cD r)):w.cell? (b,3)=U (Yb (aL r.acc 1)):=by unfold cD at h;simp only[YF,h];rfl
theorem uV{r:Rd.cA}(h:w.heap[b]?=U (cD r)):w.cell? (b,4)=U (Yb (aL r.acc 2)):=by unfold cD at h;simp only[YF,h];rfl
theorem uW{r:Rd.cA}(h:w.heap[b]?=U (cD r)):w.cell? (b,5)=U (Yb (aL r.acc 3)):=by unfold cD at h;simp only[YF,h];rfl
theorem uX{r:Rd.cA}(h:w.heap[b]?=U (cD r)):w.cell? (b,6)=U (Yb (aL r.acc 4)):=by unfold cD at h;simp only[YF,h];rfl
theorem uY{r:Rd.cA}(h:w.heap[b]?=U (cD r)):w.cell? (b,7)=U (Yb (aL r.acc 5)):=by unfold cD at h;simp only[YF,h];rfl
theorem uZ{r:Rd.cA}(h:w.heap[b]?=U (cD r)):w.cell? (b,8)=U (Yb (aL r.acc 6)):=by unfold cD at h;simp only[YF,h];rfl
theorem rj{r:Rd.cA}(h:w.heap[b]?=U (cD r)):w.cell? (b,9)=U (V Yf r.fr):=by unfold cD at h;simp only[YF,h];rfl
theorem xH{r:Rd.cA}(h:w.heap[b]?=U (cD r)):w.cell? (b,10)=U ↑r.mn:=by unfold cD at h;simp only[YF,h];rfl
theorem xI{r:Rd.cA}(h:w.heap[b]?=U (cD r)):w.cell? (b,11)=U ↑r.mi:=by unfold cD at h;simp only[YF,h];rfl
theorem xJ{r:Rd.cA}(h:w.heap[b]?=U (cD r)):w.cell? (b,12)=U ↑r.ti:=by unfold cD at h;simp only[YF,h];rfl
theorem xK{r:Rd.cA}(h:w.heap[b]?=U (cD r)):w.cell? (b,13)=U ↑r.un:=by unfold cD at h;simp only[YF,h];rfl
open Go.RowKit Go.Shelf
attribute [local go_sem] Oper.semAt_some
def RK(n₀ Bn:M)(W c:XY):Prop:=X0 n₀ W c/\c.heap[Bn]?=W.heap[Bn]?
theorem TC(F:Fence)(n:M)(X:F.fn 296)(C:F.round=XU)(hn:1<=n)(l Bn n₀:M)(r:Rd.cA)(t:Rd.fY r)(z I:J N->XY->Prop)
  (R:∀ pre x W,z pre W->pre.length<(Rd.jo r.ev 800 r.fr).length->YieldAt F (n-1) prog l #[V Yf x] W fun e j =>
   (e=Yg XX/\z (pre++[x]) j/\RK n₀ Bn W j)\/(e=Yg XW/\I (pre++[x]) j))
  (W:XY) (E:W.heap[Bn]?=U (cD r)) (h0:z [] W):
  CallsIn F n prog 296 #[.func (.yield l) #[] #[],Bn] W fun e j=>(∃ v,e=Yg v) /\
   ((∃ ys,ys=Rd.jo r.ev 800 r.fr/\z ys j)\/(∃ pre,pre <+: Rd.jo r.ev 800 r.fr/\I pre j)):=by
 have c9:=rj E;have e1:=t.e1;have e2:=t.e2;have f0:=t.f0;have f1:=t.f1;clear t;generalize T:Rd.jo r.ev 800 r.fr=S at *;refine callsIn_of_wp func296 rfl X ?_ C;simp only[ntmps296,List.size_toArray,Y0,Y7,Nat.reduceAdd,Nat.reduceSub,Array.replicate_succ,Array.replicate_zero,List.push_toArray,List.append_toArray,List.nil_append,YH]
 gi_wp2
 gi_loopw [3] (fun v wr=>∃ (d:N) (f:M) (pre:J N),v=V Yf d/\S=pre++Rd.jo r.ev f d/\0<=d/\d<=10000/\728<=d+f/\z pre wr/\wr.heap[Bn]?=U (cD r)) (fun v _=>(20000-intOf v).toNat)
 .exact⟨r.fr,800,[],rfl,T.symm,f0,O,O,h0,E⟩
 .obtain⟨d,f,pre,rfl,c,P,L,K,H,G⟩:=hrel
  by_cases o:d<728
  .obtain⟨h,rfl⟩:∃ h,f=h+1:=⟨f-1,O⟩;have A:Rd.jo r.ev (h+1) d=d :: Rd.jo r.ev h (d+r.ev):=by simp[Rd.jo,o]
   rw[A] at c;have k1:Yf.wrap (d+r.ev)=d+r.ev:=cT O O;let⟨fn,tmps,assign,body,hy,hRd⟩:=R pre d wr H (by rw[c];simp)
   gi_wp2
   refine hRd.mono ?_;rintro e W3 (⟨rfl,D,q⟩|⟨rfl,y⟩)
   .have c1:=qd (q.2.trans G)
    gi_wp2
    go_roundw
    .exact⟨d+r.ev,h,pre++[d],by simp,by simp[c],O,O,O,D,q.2.trans G⟩
    .simp[intOf];omega
   .gi_wp2
    refine bodyPost_ret (results_none rfl _ _ _) rfl ?_;exact⟨⟨_,rfl⟩,.inr ⟨pre++[d],⟨Rd.jo r.ev h (d+r.ev),by simp[c]⟩,y⟩⟩
  .have A:Rd.jo r.ev f d=[]:=by cases f <;> simp[Rd.jo,o]
   rw[A,List.append_nil] at c;subst c
   gi_wp2
   go_end0
   exact⟨⟨_,rfl⟩,.inl H⟩
attribute [local go_sem] Oper.semAt_some
theorem IY{r:Rd.cA}(h:w.heap[b]?=U (cD r)):∀ i:M,i<7->w.cell? (b,2+i)=U (Yb (aL r.acc i))
 |0,_=>uT h
 |1,_=>uU h
 |2,_=>uV h
 |3,_=>uW h
 |4,_=>uX h
 |5,_=>uY h
 |6,_=>uZ h
 |i+7,hi=>by omega
theorem VB(F:Fence)(n:M)(h6:F.fn 292)(ac:F.round=XU)(hn:1<=n)(l Bn n₀:M)(r:Rd.cA)(hf:Rd.fY r)(P Jx:J N->XY->Prop)
  (hY:∀ pre x W,P pre W->pre.length<(Rd.jc r.acc r.fr r.ev 800 (r.fr-r.fr % 7)).length->YieldAt F (n-1) prog l #[V Yf x] W fun e R =>
   (e=Yg XX/\P (pre++[x]) R/\RK n₀ Bn W R)\/(e=Yg XW/\Jx (pre++[x]) R))
  (W:XY) (hr:W.heap[Bn]?=U (cD r)) (h0:P [] W):
  CallsIn F n prog 292 #[.func (.yield l) #[] #[],Bn] W fun e R=>(∃ v,e=Yg v) /\
   ((∃ ys,ys=Rd.jc r.acc r.fr r.ev 800 (r.fr-r.fr % 7)/\P ys R)\/(∃ pre,pre <+: Rd.jc r.acc r.fr r.ev 800 (r.fr-r.fr % 7)/\Jx pre R)):=by
 have c9:=rj hr;have e1:=hf.e1;have e2:=hf.e2;have f0:=hf.f0;have f1:=hf.f1;clear hf;have m1:r.fr.tmod 7=r.fr % 7:=Int.tmod_eq_emod_of_nonneg f0;have m2:Yf.wrap (r.fr % 7)=r.fr % 7:=cT O O;have m3:Yf.wrap (r.fr-r.fr % 7)=r.fr-r.fr % 7:=cT O O;have m4:Yf.wrap (r.ev*7)=r.ev*7:=cT O O;generalize hS:Rd.jc r.acc r.fr r.ev 800 (r.fr-r.fr % 7)=S at *;refine callsIn_of_wp func292 rfl h6 ?_ ac;simp only[ntmps292,List.size_toArray,Y0,Y7,Nat.reduceAdd,Nat.reduceSub,Array.replicate_succ,Array.replicate_zero,List.push_toArray,List.append_toArray,List.nil_append,YH]
 gi_wp2
 gi_loopw [3] (fun v wr=>∃ (d:N) (f:M) (pre:J N),v=V Yf d/\S=pre++Rd.jc r.acc r.fr r.ev f d/\0<=d/\d<=10000/\r.fr<d+7/\728<=d+f/\P pre wr/\wr.heap[Bn]?=U (cD r)) (fun v _=>(20000-intOf v).toNat)
 .exact⟨r.fr-r.fr % 7,800,[],rfl,hS.symm,O,O,O,O,h0,hr⟩
 .obtain⟨c,f,pre,rfl,A,ag,af,ad,ae,hJ,hR⟩:=hrel;clear c9 hr h0
  by_cases aa:c<728
  .obtain⟨E,rfl⟩:∃ E,f=E+1:=⟨f-1,O⟩;have q1:Rd.jc r.acc r.fr r.ev (E+1) c=Rd.pQ r.acc r.fr c++Rd.jc r.acc r.fr r.ev E (c+r.ev*7):=by simp[Rd.jc,aa]
   rw[q1] at A;have k1:Yf.wrap (c+r.ev*7)=c+r.ev*7:=cT O O;have k2:Yf.wrap (c+7)=c+7:=cT O O;have c9:=rj hR
   by_cases hm:r.fr<=c
   .have C:Rd.pQ r.acc r.fr c=Rd.gR (fun d=>aL r.acc (d-c)) (7-0) (c+((0:M):N)):=by unfold Rd.pQ;rw[show max c r.fr=c from by omega,show (c+7-c).toNat=7 from by omega];simp
    gi_wp2
    gi_loopw [4] (fun v wr=>∃ (i:M) (j:J N),v=V Yf (c+i)/\i<=7/\j++Rd.gR (fun d=>aL r.acc (d-c)) (7-i) (c+i)=pre++Rd.pQ r.acc r.fr c/\P j wr/\wr.heap[Bn]?=U (cD r)) (fun v _=>(c+7-intOf v).toNat)
    .exact⟨0,pre,(by first|(simp;done)|(simp;omega)),O,by rw[C],hJ,hR⟩
    .obtain⟨i,j,rfl,hi,q,t,o⟩:=hrel;clear hJ hR c9
     by_cases H:i<7
     .have y:c+(i:N)<c+7:=O
      have X:=IY o i H;have k3:Yf.wrap (c+(i:N)-c)=i:=by rw[show c+(i:N)-c=i from by omega];exact cT O O
      have k4:Yf.wrap (c+(i:N)+1)=c+i+1:=cT O O;have hp:c+(i:N)-c=i:=O
      have q5:Rd.gR (fun d=>aL r.acc (d-c)) (7-i) (c+i)=(if aL r.acc i then [c+(i:N)] else [])++Rd.gR (fun d=>aL r.acc (d-c)) (7-(i+1)) (c+((i+1:M):N)):=by
       rw[show 7-i=(7-(i+1))+1 from by omega,Rd.gR,hp,show c+((i+1:M):N)=c+i+1 from by omega]
       split <;> simp
      rw[q5] at q
      cases hb:aL r.acc i
      .rw[hb] at X q
       gi_wp2
       refine⟨fun _ h=>(by cases h),?_⟩
       gi_wp2
       go_roundw
       .exact⟨i+1,j,by simp;omega,O,by simpa using q,t,o⟩
       .simp[intOf];omega
      .rw[hb] at X q;obtain⟨fn,T,D,ab,hy,K⟩:=hY j (c+i) wr t (by rw[A,<- YU,<- q];simp)
       gi_wp2
       refine K.mono ?_;rintro e W3 (⟨rfl,L,G⟩|⟨rfl,z⟩)
       .gi_wp2
        go_roundw
        .exact⟨i+1,j++[c+(i:N)],by simp;omega,O,by simpa using q,L,G.2.trans o⟩
        .simp[intOf];omega
       .gi_wp2
        refine bodyPost_ret (results_none rfl _ _ _) rfl ?_;exact⟨⟨_,rfl⟩,.inr ⟨j++[c+(i:N)],⟨Rd.gR (fun d=>aL r.acc (d-c)) (7-(i+1)) (c+((i+1:M):N))++Rd.jc r.acc r.fr r.ev E (c+r.ev*7),by rw[A,<- YU,<- YU,<- q];simp⟩,z⟩⟩
     .have y:¬ c+(i:N)<c+7:=O
      have c1:=qd o;have e7:i=7:=O
      subst e7;simp only[Nat.sub_self,Rd.gR,List.append_nil] at q
      gi_wp2
      go_roundw
      .exact⟨c+r.ev*7,E,j,by simp,by rw[A,q,YU],O,O,O,O,t,o⟩
      .simp[intOf];omega
   .have I:r.fr=c+((r.fr-c).toNat:N):=O
    have C:Rd.pQ r.acc r.fr c=Rd.gR (fun d=>aL r.acc (d-c)) (7-(r.fr-c).toNat) (c+((r.fr-c).toNat:N)):=by unfold Rd.pQ;rw[<- I,show max c r.fr=r.fr from by omega,show (c+7-r.fr).toNat=7-(r.fr-c).toNat from by omega]
    have HW:=aC (Yz I C);clear I C
    gi_wp2
    gi_loopw [4] (fun v wr=>∃ (i:M) (j:J N),v=V Yf (c+i)/\i<=7/\j++Rd.gR (fun d=>aL r.acc (d-c)) (7-i) (c+i)=pre++Rd.pQ r.acc r.fr c/\P j wr/\wr.heap[Bn]?=U (cD r)) (fun v _=>(c+7-intOf v).toNat)
    .exact⟨(r.fr-c).toNat,pre,(by first|(rw[<- HW.1];done)|(rw[<- HW.1];congr 1;omega)),O,by rw[HW.2],hJ,hR⟩
    .obtain⟨i,j,rfl,hi,q,t,o⟩:=hrel;clear hJ hR c9
     by_cases H:i<7
     .have y:c+(i:N)<c+7:=O
      have X:=IY o i H;have k3:Yf.wrap (c+(i:N)-c)=i:=by rw[show c+(i:N)-c=i from by omega];exact cT O O
      have k4:Yf.wrap (c+(i:N)+1)=c+i+1:=cT O O;have hp:c+(i:N)-c=i:=O
      have q5:Rd.gR (fun d=>aL r.acc (d-c)) (7-i) (c+i)=(if aL r.acc i then [c+(i:N)] else [])++Rd.gR (fun d=>aL r.acc (d-c)) (7-(i+1)) (c+((i+1:M):N)):=by
       rw[show 7-i=(7-(i+1))+1 from by omega,Rd.gR,hp,show c+((i+1:M):N)=c+i+1 from by omega]
       split <;> simp
      rw[q5] at q
      cases hb:aL r.acc i
      .rw[hb] at X q
       gi_wp2
       refine⟨fun _ h=>(by cases h),?_⟩
       gi_wp2
       go_roundw
       .exact⟨i+1,j,by simp;omega,O,by simpa using q,t,o⟩
       .simp[intOf];omega
      .rw[hb] at X q;obtain⟨fn,T,D,ab,hy,K⟩:=hY j (c+i) wr t (by rw[A,<- YU,<- q];simp)
       gi_wp2
       refine K.mono ?_;rintro e W3 (⟨rfl,L,G⟩|⟨rfl,z⟩)
       .gi_wp2
        go_roundw
        .exact⟨i+1,j++[c+(i:N)],by simp;omega,O,by simpa using q,L,G.2.trans o⟩
        .simp[intOf];omega
       .gi_wp2
        refine bodyPost_ret (results_none rfl _ _ _) rfl ?_;exact⟨⟨_,rfl⟩,.inr ⟨j++[c+(i:N)],⟨Rd.gR (fun d=>aL r.acc (d-c)) (7-(i+1)) (c+((i+1:M):N))++Rd.jc r.acc r.fr r.ev E (c+r.ev*7),by rw[A,<- YU,<- YU,<- q];simp⟩,z⟩⟩
     .have y:¬ c+(i:N)<c+7:=O
      have c1:=qd o;have e7:i=7:=O
      subst e7;simp only[Nat.sub_self,Rd.gR,List.append_nil] at q
      gi_wp2
      go_roundw
      .exact⟨c+r.ev*7,E,j,by simp,by rw[A,q,YU],O,O,O,O,t,o⟩
      .simp[intOf];omega
  .have q1:Rd.jc r.acc r.fr r.ev f c=[]:=by cases f <;> simp[Rd.jc,aa]
   rw[q1,List.append_nil] at A;subst A
   gi_wp2
   go_end0
   exact⟨⟨_,rfl⟩,.inl hJ⟩
attribute [local go_sem] Oper.semAt_some
theorem rA(h:ig w)(k:X0 n₀ w w')(c:10<=n₀):ig w':=by
 let⟨a0,a1,a2,a3,a4,a5,a6,a7,a8,a9,a10,a11⟩:=h;refine⟨?_,?_,?_,?_,?_,?_,?_,?_,?_,?_,?_,?_⟩
 all_goals (refine (k.cell (by show 1<n₀;omega)).trans ?_;assumption)
theorem Wk(n:M)(hn:1<=n)(l Bn n₀:M)(ad:10<=n₀)(r:Rd.cA)(I:Rd.fY r)(T Jx:J N->XY->Prop)
  (hY:∀ pre x W,T pre W->pre.length<(Rd.jq (Cal.dT r.fr) r.ev 100 (Cal.yT r.fr) (Cal.mT r.fr)).length->YieldAt Fence.wide (n-1) prog l #[V Yf x] W fun e G =>
   (e=Yg XX/\T (pre++[x]) G/\RK n₀ Bn W G)\/(e=Yg XW/\Jx (pre++[x]) G))
  (W:XY) (ht:ig W) (hr:W.heap[Bn]?=U (cD r)) (h0:T [] W):
  CallsIn Fence.wide n prog 293 #[.func (.yield l) #[] #[],Bn] W fun e G=>(∃ v,e=Yg v) /\
   ((∃ ys,ys=Rd.jq (Cal.dT r.fr) r.ev 100 (Cal.yT r.fr) (Cal.mT r.fr)/\T ys G)\/(∃ pre,pre <+: Rd.jq (Cal.dT r.fr) r.ev 100 (Cal.yT r.fr) (Cal.mT r.fr)/\Jx pre G)):=by
 have c9:=rj hr;have e1:=I.e1;have e2:=I.e2;have f0:=I.f0;have f1:=I.f1;clear I;obtain⟨mo,mn,my,mm⟩:=Rd.qU f0 f1;obtain⟨g1,g2,g3,g4,g5,g6⟩:=(Cal.iB _ _ _).1 mo;have HD:Hid (∀ y m d:N,Cal.ok y m d=XX->Cal.num y m d=r.fr->y=Cal.yT r.fr/\m=Cal.mT r.fr/\d=Cal.dT r.fr):=fun y m d h k=>Cal.Cu y m d r.fr h k
 have DA:=aC (VN r.fr W ht O O);clear mo mn g5 g6;generalize hS:Rd.jq (Cal.dT r.fr) r.ev 100 (Cal.yT r.fr) (Cal.mT r.fr)=S at *;generalize Cal.dT r.fr=dt at *;generalize Cal.yT r.fr=y0 at *;generalize Cal.mT r.fr=m0 at *;refine callsIn_of_wp func293 rfl trivial ?_ rfl;simp only[ntmps293,List.size_toArray,Y0,Y7,Nat.reduceAdd,Nat.reduceSub,Array.replicate_succ,Array.replicate_zero,List.push_toArray,List.append_toArray,List.nil_append,YH]
 gi_wp2_with (first
  |((try refine⟨trivial,?_⟩);gi_at_call 116;refine (callsIn_wide.2 DA).mono ?_;rintro e w1 ⟨y,m,d,rfl,o,A,rfl⟩;obtain⟨rfl,rfl,rfl⟩:=HD y m d o A))
 clear DA HD c9 o A
 gi_loopw [3,4] (fun v u wr=>∃ (y m:N) (f:M) (pre:J N),v=V Yf y/\u=V Yf m/\S=pre++Rd.jq d r.ev f y m/\2024<=y/\y<=2034/\1<=m/\m<=12/\24312<12*y+m+f/\T pre wr/\wr.heap[Bn]?=U (cD r)/\ig wr) (fun v u _=>(30000-(12*intOf v+intOf u)).toNat)
 case atStart=>exact⟨y,m,100,[],rfl,rfl,hS.symm,O,O,O,O,O,h0,hr,ht⟩
 case round =>
  obtain⟨j,c,f,pre,rfl,rfl,q,a1,a2,a3,a4,a5,hJ,X,L⟩:=hrel;clear hr h0 ht;have R:=aC (W9 j c wr L);have t:=Rd.Lw (y:=j) (m:=c) a1 O a3 a4
  by_cases C:Rd.reached j c=XX
  .have ag:=t.1 C;obtain⟨E,rfl⟩:∃ E,f=E+1:=⟨f-1,O⟩;have F:Rd.jq d r.ev (E+1) j c=Rd.re j c d++Rd.jq d r.ev E (Rd.ot j c r.ev) (Rd.nk c r.ev):=by simp[Rd.jq,C]
   obtain⟨l1,l2,l3⟩:=Rd.Dv (y:=j) (m:=c) (ev:=r.ev);rw[F] at q;rw[C] at R
   cases o:Cal.ok j c d
   .have DY:=aC (Ed j c d wr L o);have LA:=aC (J0 j c r.ev wr O O a3 a4 e1 e2);have H:Rd.re j c d=[]:=by simp[Rd.re,o]
    have c1:=qd X;rw[H,List.nil_append] at q;clear t C F H;generalize Rd.ot j c r.ev=y2 at *;generalize Rd.nk c r.ev=m2 at *
    gi_wp2_with (first
     |((try refine⟨trivial,?_⟩);gi_at_call 294;refine (callsIn_wide.2 R).mono ?_;rintro e w1 ⟨rfl,rfl⟩)
     |((try refine⟨trivial,?_⟩);gi_at_call 112;refine (callsIn_wide.2 DY).mono ?_;rintro e w1 ⟨rfl,rfl⟩))
    refine⟨fun _ h=>(by cases h),?_⟩
    gi_wp2_with (first
     |((try refine⟨trivial,?_⟩);gi_at_call 295;refine (callsIn_wide.2 LA).mono ?_;rintro e w1 ⟨rfl,rfl⟩))
    go_roundw
    case rel=>exact⟨y2,m2,E,pre,rfl,rfl,q,by omega,by omega,l2,l3,by omega,hJ,X,L⟩
    case measure=>simp[intOf];omega
   .have DY:=aC (Eu j c d wr L o);have H:Rd.re j c d=[Cal.num j c d]:=by simp[Rd.re,o]
    rw[H] at q;clear t C F H;generalize Cal.num j c d=z at *;have LA:=aC (fun w=>J0 j c r.ev w O O a3 a4 e1 e2);generalize Rd.ot j c r.ev=y2 at *;generalize Rd.nk c r.ev=m2 at *;obtain⟨fn,ae,aa,af,hy,ab⟩:=hY pre z wr hJ (by rw[q];simp)
    gi_wp2_with (first
     |((try refine⟨trivial,?_⟩);gi_at_call 294;refine (callsIn_wide.2 R).mono ?_;rintro e w1 ⟨rfl,rfl⟩)
     |((try refine⟨trivial,?_⟩);gi_at_call 112;refine (callsIn_wide.2 DY).mono ?_;rintro e w1 ⟨rfl,rfl⟩))
    refine ab.mono ?_;rintro e W3 (⟨rfl,ac,D⟩|⟨rfl,P⟩)
    .have c1:=qd (D.2.trans X)
     gi_wp2_with (first
      |((try refine⟨trivial,?_⟩);gi_at_call 295;refine (callsIn_wide.2 (LA W3)).mono ?_;rintro e w2 ⟨rfl,rfl⟩))
     go_roundw
     case rel=>exact⟨y2,m2,E,pre++[z],rfl,rfl,by simp[q],O,O,l2,l3,O,ac,D.2.trans X,rA L D.1 ad⟩
     case measure=>simp[intOf];omega
    .gi_wp2
     refine bodyPost_ret (results_none rfl _ _ _) rfl ?_;exact⟨⟨_,rfl⟩,.inr ⟨pre++[z],⟨Rd.jq d r.ev E y2 m2,by simp[q]⟩,P⟩⟩
  .have F:Rd.jq d r.ev f j c=[]:=by cases f <;> simp[Rd.jq,C]
   have K:Rd.reached j c=XW:=by simpa using C
   rw[F,List.append_nil] at q;subst q;rw[K] at R;clear t F C K
   gi_wp2_with (first
    |((try refine⟨trivial,?_⟩);gi_at_call 294;refine (callsIn_wide.2 R).mono ?_;rintro e w1 ⟨rfl,rfl⟩))
   go_end0
   exact⟨⟨_,rfl⟩,.inl ⟨_,rfl,hJ⟩⟩
theorem TF(r:Rd.cA)(w:XY):
  X4 prog 278 #[iU r] w fun e w'=>e=Yg (.func (.func 296) #[] #[w])/\w'=w.alloc (cD r):=by
 unfold iU
 go_in
 go_wp21
 exact bodyPost_ret (v:=.func (.func 296) #[] #[w]) (by simp[results,results278,go_sem]) rfl ⟨rfl,rfl⟩
theorem VD(r:Rd.cA)(w:XY):
  X4 prog 276 #[iU r] w fun e w'=>e=Yg (.func (.func 292) #[] #[w])/\w'=w.alloc (cD r):=by
 unfold iU
 go_in
 go_wp21
 exact bodyPost_ret (v:=.func (.func 292) #[] #[w]) (by simp[results,results276,go_sem]) rfl ⟨rfl,rfl⟩
theorem Wm(r:Rd.cA)(w:XY):
  X4 prog 277 #[iU r] w fun e w'=>e=Yg (.func (.func 293) #[] #[w])/\w'=w.alloc (cD r):=by
 unfold iU
 go_in
 go_wp21
 exact bodyPost_ret (v:=.func (.func 293) #[] #[w]) (by simp[results,results277,go_sem]) rfl ⟨rfl,rfl⟩
def jg(r:Rd.cA):M:=if r.pc=2 then 292 else if r.pc=3 then 293 else 296
theorem Lo(r:Rd.cA)(w:XY):
  X4 prog 249 #[iU r] w fun e w'=>e=Yg (.func (.func (jg r)) #[] #[X8 (U ⟨w.heap.size+1,0,XU⟩)])/\w'=(w.alloc (cD r)).alloc (cD r):=by
 have D:=aC (VD r (w.alloc (cD r)));have E:=aC (Wm r (w.alloc (cD r)));have F:=aC (TF r (w.alloc (cD r)));have c:=World.alloc_heap_new w (cD r);have G:(w.alloc (cD r)).heap.size=w.heap.size+1:=XA
 have x0:=uS c;have x1:=qd c;have T:=uT c;have S:=uU c;have R:=uV c;have P:=uW c;have L:=uX c;have K:=uY c;have I:=uZ c;have H:=rj c;have z:=xH c;have y:=xI c;have t:=xJ c;have q:=xK c;rw[G] at D E F;clear c G;unfold iU at *;obtain⟨X,C⟩:∃ X,X=w.alloc (cD r):=⟨_,rfl⟩;rw[<- C] at D E F x0 x1 T S R P L K I H z y t q;have j:=aC C;clear C
 by_cases h:r.pc=2
 .have hb:(r.pc==2)=XX:=by simpa using h
  have f:jg r=292:=by unfold jg;rw[XS h]
  rw[f];clear f h
  go_in
  go_upto_region 1 with fail
  change Code.wp _ _ _ _ (w.alloc (cD r));rw[<- j]
  go_wp2_with (first
   |(go_at_call 276;refine D.mono ?_;rintro e w1 ⟨rfl,rfl⟩))
  exact bodyPost_ret (v:=.func (.func 292) #[] #[X8 (U ⟨w.heap.size+1,0,XU⟩)]) (by simp[results,results249,go_sem]) rfl ⟨rfl,by rw[j.out]⟩
 .have hb:(r.pc==2)=XW:=by simpa using h
  by_cases o:r.pc=3
  .have A:(r.pc==3)=XX:=by simpa using o
   have f:jg r=293:=by unfold jg;rw[XR h,XS o]
   rw[f];clear f o
   go_in
   go_upto_region 1 with fail
   change Code.wp _ _ _ _ (w.alloc (cD r));rw[<- j]
   go_wp2_with (first
    |(go_at_call 277;refine E.mono ?_;rintro e w1 ⟨rfl,rfl⟩))
   exact bodyPost_ret (v:=.func (.func 293) #[] #[X8 (U ⟨w.heap.size+1,0,XU⟩)]) (by simp[results,results249,go_sem]) rfl ⟨rfl,by rw[j.out]⟩
  .have A:(r.pc==3)=XW:=by simpa using o
   have f:jg r=296:=by unfold jg;rw[XR h,XR o]
   rw[f];clear f
   go_in
   go_upto_region 1 with fail
   change Code.wp _ _ _ _ (w.alloc (cD r));rw[<- j]
   go_wp2_with (first
    |(go_at_call 278;refine F.mono ?_;rintro e w1 ⟨rfl,rfl⟩))
   exact bodyPost_ret (v:=.func (.func 296) #[] #[X8 (U ⟨w.heap.size+1,0,XU⟩)]) (by simp[results,results249,go_sem]) rfl ⟨rfl,by rw[j.out]⟩
theorem Js(n:M)(t:1<=n)(Bn n₀:M)(z:10<=n₀)(r:Rd.cA)(y:Rd.fY r)(w:XY)(H:Bn<w)(G:n₀<=w)(ht:ig w)(F:w.heap[Bn]?=U (cD r)):
  SeqStopsK Fence.wide n prog (jg r) #[Bn] (fun x:N=>#[V Yf x]) (RK n₀ Bn) (fun ys=>ys=Rd.seq r) (fun pre=>pre <+: Rd.seq r) (Rd.seq r).length w:=by
 intro l D C W E _ _ f A;have c:W.heap[Bn]?=U (cD r):=(E.block Bn H).trans F;have q:ig W:=rA ht E O
 by_cases h:r.pc=2
 .have j:jg r=292:=by unfold jg;rw[XS h]
  have es:Rd.seq r=Rd.jc r.acc r.fr r.ev 800 (r.fr-r.fr % 7):=by unfold Rd.seq;rw[XS h]
  rw[es] at f ⊢;rw[j];exact VB Fence.wide n trivial rfl t l Bn n₀ r y D C f W c A
 .by_cases o:r.pc=3
  .have j:jg r=293:=by unfold jg;rw[XR h,XS o]
   have es:Rd.seq r=Rd.jq (Cal.dT r.fr) r.ev 100 (Cal.yT r.fr) (Cal.mT r.fr):=by unfold Rd.seq;rw[XR h,XS o]
   rw[es] at f ⊢;rw[j];exact Wk n t l Bn n₀ z r y D C f W q c A
  .have j:jg r=296:=by unfold jg;rw[XR h,XR o]
   have es:Rd.seq r=Rd.jo r.ev 800 r.fr:=by unfold Rd.seq;rw[XR h,XR o]
   rw[es] at f ⊢;rw[j];exact TC Fence.wide n trivial rfl t l Bn n₀ r y D C f W c A
attribute [local go_sem] Oper.semAt_some
structure FD(w W:XY)(r:Rd.cA)(la mo:N)(pre:J N):Prop where
 l:Boxed W (w.heap.size+1) 3 la
 m:Boxed W (w.heap.size+2) 3 mo
 d:∃ v,Boxed W (w.heap.size+3) 38 v/\W.ownsRow (w.heap.size+6) 3 1 v pre.length (pre.map (V Yf))
 ru:W.heap[w.heap.size+5]?=U (cD r)
 bl:X0 w w W
 sz:w+6<=W.heap.size
 le:∀ x∈pre,x<=la
 ml:(pre.length:N)<=mo
theorem Ag{c:XY}{row:XM M}{t:TypeId}(h:Boxed W B t v)(j:W.grownBy c row)(f:∀ r,row=U r->∃ o:Obj,W.heap[r]?=U o/\o.isCells=XW):Boxed c B t v :=
 h.kept j (fun e=>by
  let⟨o,ho,hc⟩:=f B e.symm
  rw[show W.heap[B]?=_ from h] at ho;cases ho;cases hc)
theorem zH(w:XY)(r:Rd.cA)(la mo:N)(t:w<=B):OwnFrom B (fun pre W=>FD w W r la mo pre):=by
 intro pre W A row h f c;have j:∀ r,row=U r->∃ o:Obj,W.heap[r]?=U o/\o.isCells=XW:=fun r e=>(c r e).2
 let⟨v,hv,ho⟩:=h.d;refine⟨Ag h.l f j,Ag h.m f j,⟨v,Ag hv f j,ho.kept f ?_⟩,(f.block _ (by have:=h.sz;omega) (fun e=>?_)).trans h.ru,h.bl.grown f h.bl.size (fun k e=>Yk t (c k e).1),Yk h.sz f.size,h.le,h.ml⟩
 .rcases ho.2 with ⟨rfl,_⟩|⟨g,cap,z,rfl,_,q,_⟩
  .exact .inl rfl
  .refine .inr fun y=>?_
   let⟨o,ho,hc⟩:=j g (by simpa[ZB] using y.symm);rw[q] at ho;cases ho;cases hc
 .let⟨o,ho,hc⟩:=j _ e.symm;rw[h.ru] at ho;cases ho;cases hc
theorem IL{r:Rd.cA}{pre:J N}(h:FD w W r la mo pre)(R:Boxed W (w.heap.size+3) 38 v)(H:W.ownsRow (w.heap.size+6) 3 1 v pre.length (pre.map (V Yf))){c:Obj}{v':XZ}(f:w1.ownsRow (w.heap.size+6) 3 1 v' (pre.length+1) (pre.map (V Yf)++[V Yf x]))(D:(W.alloc c).grownBy w1 v.ownBlock)(T:x<=la)(hm:(pre.length:N)+1<=mo):
  Boxed w1 (w.heap.size+3) 38 v/\KeepsFrom (w.heap.size+6) W (w1.setCell (w.heap.size+3,0) v')/\RK w (w.heap.size+5) W (w1.setCell (w.heap.size+3,0) v')/\FD w (w1.setCell (w.heap.size+3,0) v') r la mo (pre++[x]):=by
 have X:=h.sz;have G:∀ b,v.ownBlock=U b->w.heap.size+6<=b:=fun b q=>(H.lt b q).1
 have E:∀ b,v'.ownBlock=U b->w.heap.size+6<=b:=fun b q=>(f.lt b q).1
 have t:∀ b,b<w.heap.size+6->w1.heap[b]?=W.heap[b]?:=fun b q =>
  (D.block b XG (fun e=>by have:=G b e.symm;omega)).trans (Below.heap_alloc W c b O)
 have C:∀ b,b≠w.heap.size+3->(w1.setCell ⟨w.heap.size+3,0,XU⟩ v').heap[b]?=w1.heap[b]?:=fun b q=>Below.heap_setCell _ _ _ b q
 have A:Boxed w1 (w.heap.size+3) 38 v:=(t _ O).trans R;have P:W.heap.size<=w1.heap.size:=by have:=D.size;simp at this;omega
 have L:X0 w.heap.size W (w1.setCell ⟨w.heap.size+3,0,XU⟩ v'):=(((zr _ W).alloc O c).grown D XG (fun j e=>by have:=G j e;omega)).setCell (p:=⟨w.heap.size+3,0,XU⟩) (by show w.heap.size<=w.heap.size+3;omega) v';refine⟨A,?_,⟨L,(C _ O).trans (t _ O)⟩,⟨((C _ O).trans (t _ O)).trans h.l,((C _ O).trans (t _ O)).trans h.m,⟨v',A.set v',?_⟩,((C _ O).trans (t _ O)).trans h.ru,h.bl.trans L,?_,?_,?_⟩⟩
 .refine (((KeepsOthers.alloc W c).trans (KeepsOthers.of_grownBy D fun j o K I=>?_)).trans (KeepsOthers.setCell _ _ _)).from _
  rcases (H.alloc c).2 with ⟨rfl,_⟩|⟨g,cap,S,rfl,_,F,_⟩
  .simp[ZB] at K
  .obtain rfl:g=j:=by simpa[ZB] using K
   rw[F] at I;cases I;rfl
 .have:=f.kept (grownBy_setCell' w1 (w.heap.size+3) v') (.inr (fun e=>by have:=E _ e;omega))
  simpa using this
 .have:=(grownBy_setCell' w1 (w.heap.size+3) v').size;omega
 .intro y z;rcases Yv.1 z with z|z
  .exact h.le y z
  .simp at z;omega
 .simp;omega
structure AU(w Y:XY)(r:Rd.cA)(la mo:N):Prop where
 ru:Y.heap[w.heap.size]?=U (cD r)
 l:Boxed Y (w.heap.size+1) 3 la
 m:Boxed Y (w.heap.size+2) 3 mo
 d:Boxed Y (w.heap.size+3) 38 ()
 bl:X0 w w Y
 sz:Y=w.heap.size+4
theorem Gg(w:XY)(r:Rd.cA)(la mo:N):AU w ((((w.alloc (cD r)).alloc (Yh #[la] 3)).alloc (Yh #[mo] 3)).alloc (Yh #[()] 38)) r la mo:=by
 have q:=World.alloc_heap_new w (cD r);have j:=Boxed.new (w.alloc (cD r)) 3 la;have f:=Boxed.new ((w.alloc (cD r)).alloc (Yh #[la] 3)) 3 mo;have c:=Boxed.new (((w.alloc (cD r)).alloc (Yh #[la] 3)).alloc (Yh #[mo] 3)) 38 ();simp only[ZM] at j f c;have k:∀ (W:XY) (o:Obj) (b:M) (x:Obj),W.heap[b]?=U x->(W.alloc o).heap[b]?=U x:=fun W o b x h=>(Below.heap_alloc W o b (Array.getElem?_eq_some_iff.1 h).1).trans h
 exact⟨k _ _ _ _ (k _ _ _ _ (k _ _ _ _ q)),(j.alloc _).alloc _,f.alloc _,c,((((zr _ w).alloc aI _).alloc XA _).alloc XG _).alloc XG _,by simp⟩
theorem Qr(w:XY)(r:Rd.cA)(la mo:N):AU w (((((w.alloc (cD r)).alloc (Yh #[la] 3)).alloc (Yh #[mo] 3)).drew).alloc (Yh #[()] 38)) r la mo:=by
 let⟨h1,h2,h3,h4,h5,h6⟩:=Gg w r la mo;exact⟨h1,h2,h3,h4,h5.drew,h6⟩
theorem Jo{r:Rd.cA}(h:Boxed Y (w.heap.size+1) 3 la)(f:Boxed Y (w.heap.size+2) 3 mo)(j:Boxed Y (w.heap.size+3) 38 ())(o:X0 w w Y)(c:Y=w.heap.size+4)(q:0<=mo):FD w ((Y.alloc (cD r)).alloc (cD r)) r la mo []:=by
 have b:=World.alloc_heap_new (Y.alloc (cD r)) (cD r);rw[ZM,c] at b;exact⟨(h.alloc _).alloc _,(f.alloc _).alloc _,⟨_,(j.alloc _).alloc _,ZD _ _ _ _⟩,b,(o.alloc O _).alloc XG _,by simp;omega,by simp,by simpa using q⟩
theorem RK.trans{A B C:XY}(h:RK n₀ Bn A B)(k:RK n₀ Bn B C):RK n₀ Bn A C:=⟨h.1.trans k.1,k.2.trans h.2⟩
theorem RK.put(f:n₀<=w)(y:Bn<w)(W:XY)(l:M)(o c:Obj)(j:w<=l)(h:W.heap[l]?=U o)(t:o.isCells=XW)(q:o.isWalk=XW):RK n₀ Bn W (W.putObj l c) :=
 ⟨belowK_b f W l o c j h t q,(grownBy_putObj' W l c).block Bn (by have:=(Array.getElem?_eq_some_iff.1 h).1;omega) (fun e=>by cases e;omega)⟩
theorem JY(r:Rd.cA)(c:Array XZ)(w:XY):(callFunc (jg r) c).run prog w=.ok (.enter (jg r) c) w:=by
 unfold jg
 split
 .exact enters_of func292 XF rfl c w
 .split
  .exact enters_of func293 XF rfl c w
  .exact enters_of func296 XF rfl c w
theorem qQ{size:M}(h:w.ownsRow B e size v n xs):∃ a cap,v=X9 a n cap:=by
 rcases h.2 with ⟨rfl,c⟩|⟨g,cap,_,rfl,_⟩
 .rw[c];exact⟨_,_,rfl⟩
 .exact⟨_,_,rfl⟩
theorem xq{C size:M}(h:w.ownsRow B e size v n xs)(f:C<=B):w.ownsRow C e size v n xs :=
 ⟨h.1,h.2.imp id (fun ⟨g,cap,c,q,o,j⟩=>⟨g,cap,c,q,Yk f o,j⟩)⟩
theorem uh{k:M}(h:∀ x∈l,p x=XX)(c:l.length<=k):(l.takeWhile p).take k=l:=by
 have e:l.takeWhile p=l:=by
  induction l with
  |nil=>rfl
  |cons a l ih=>rw[List.takeWhile_cons,h a XA,XS rfl,ih (fun x f=>h x (by simp[f])) (by simp at c;omega)]
 rw[e,Ze c]
theorem Ks{pre rest:J N}{k:M}(h:∀ y∈pre,p y=XX)(f:pre.length<=k)(c:p x=XW\/pre.length=k):((pre++x :: rest).takeWhile p).take k=pre:=by
 have e:(pre++x :: rest).takeWhile p=pre++(x :: rest).takeWhile p:=List.takeWhile_append_of_pos h;rw[e];rcases c with c|c
 .rw[List.takeWhile_cons,c];simp[Ze f]
 .rw[<- c,List.take_left]
def uB(r:Rd.cA):N:=if 0<r.ti then 727 else r.un
def uA(r:Rd.cA):N:=if 0<r.ti then r.ti else 41
theorem AE(r:Rd.cA):Rd.gv r=((Rd.seq r).takeWhile (fun d=>decide (d<=uB r))).take (uA r).toNat:=by
 unfold Rd.gv uB uA
 split
 .rfl
 .rfl
theorem WL(r:Rd.cA)(hf:Rd.fY r)(w:XY)(ht:ig w)(X:10<=w.heap.size):
  X4 prog 199 #[iU r] w fun e w'=>∃ v,e=Yg v/\w'.ownsRow w 3 1 v (Rd.gv r).length ((Rd.gv r).map (V Yf))/\X0 w w w':=by
 obtain⟨i0,aq,ao,an,al⟩:=info_parts pg;have t1:=hf.t1;refine (callsIn_wide (n:=3)).1 ?_;unfold iU;refine callsIn_of_wp_marks func199 rfl trivial ?_ rfl;simp only[ntmps199,List.size_toArray,Y0,Y7,Nat.reduceAdd,Nat.reduceSub,Array.replicate_succ,Array.replicate_zero,List.push_toArray,List.append_toArray,List.nil_append,YH];refine wpIn_wide.2 ?_
 by_cases T:0<r.ti
 .have S:uB r=727/\uA r=r.ti:=by unfold uB uA;rw[XS T,XS T];exact⟨rfl,rfl⟩
  have HY:Hid (AU w (((((w.alloc (cD r)).alloc (Yh #[V Yf 727] 3)).alloc (Yh #[V Yf r.ti] 3)).drew).alloc (Yh #[X9 XU 0 0] 38)) r 727 r.ti):=Qr w r 727 r.ti;have EL:=aC S;clear S
  go_upto_region 4 with fail
  go_region
  go_upto_region 5 with fail
  change Code.wp _ _ _ _ (((((w.alloc (cD r)).alloc (Yh #[V Yf 727] 3)).alloc (Yh #[V Yf r.ti] 3)).drew).alloc (Yh #[X9 XU 0 0] 38));generalize ((((w.alloc (cD r)).alloc (Yh #[V Yf 727] 3)).alloc (Yh #[V Yf r.ti] 3)).drew).alloc (Yh #[X9 XU 0 0] 38)=Y at HY ⊢;obtain⟨j,L,I,P,R,G⟩:=HY.out;have EN:=aC (Lo r Y);have HZ:=aC (Jo (r:=r) L I P R G);have TZ:Hid (ig ((Y.alloc (cD r)).alloc (cD r))):=rA ht (HZ.out O).bl X;rw[G] at EN;unfold iU at EN;have x0:=uS j;have x1:=qd j;have x2:=uT j;have x3:=uU j;have x4:=uV j;have x5:=uW j;have x6:=uX j;have x7:=uY j;have x8:=uZ j;have x9:=rj j;have ad:=xH j;have ac:=xI j;have ab:=xJ j;have aa:=xK j;clear j L I P R HY
  go_wp2_with (first
   |(go_at_call 249;refine EN.mono ?_;rintro e w1 ⟨rfl,rfl⟩))
  clear EN x0 x1 x2 x3 x4 x5 x6 x7 x8 x9 ad ac ab aa;have ai:((Y.alloc (cD r)).alloc (cD r)).heap.size=w.heap.size+6:=by simp[G]
  generalize (Y.alloc (cD r)).alloc (cD r)=Z at HZ TZ ai ⊢;have hF:=HZ O;have HS:=aC (Js 2 O (w.heap.size+5) w.heap.size X r hf Z O O TZ hF.ru);refine (wpIn_wide (n:=3)).1 ?_
  refine wpIn_rangeFunc_ownG rfl O (gf:=jg r) (lb:=#[X8 (U ⟨w.heap.size+5,0,XU⟩)]) rfl trivial (JY r) HS (fun h k=>RK.trans h k) (RK.put O O) fo (fun _=>rfl)
   (fun pre W=>FD w W r 727 r.ti pre) (fun c t W=>c=.exit 0/\∃ pre x,t=pre++[x]/\FD w W r 727 r.ti pre/\(727<x\/(pre.length:N)=r.ti))
   (zH w r 727 r.ti O) (fun c s A B row hs hg hr=>by obtain⟨e,pre,x,e2,h,h3⟩:=hs;exact⟨e,pre,x,e2,zH w r 727 r.ti O pre A B row h hg hr,h3⟩) hF
   (fun x=>{ tmps:=#[Yd #[V Yf r.pc,V Yf r.ev,Yb (aL r.acc 0),Yb (aL r.acc 1),Yb (aL r.acc 2),Yb (aL r.acc 3),Yb (aL r.acc 4),Yb (aL r.acc 5),Yb (aL r.acc 6),V Yf r.fr,V Yf r.mn,V Yf r.mi,V Yf r.ti,V Yf r.un],X8 (U ⟨w.heap.size,0,XU⟩),X9 XU 0 0,X8 (U ⟨w.heap.size+1,0,XU⟩),X8 (U ⟨w.heap.size+1+1,0,XU⟩),X8 (U ⟨w.heap.size+1+1+1,0,XU⟩),V Yf x,X8 (U ⟨w.heap.size,13,XU⟩),V Yf r.un,X8 (U ⟨w.heap.size,12,XU⟩),V Yf r.ti,Yb XX,X8 (U ⟨w.heap.size,12,XU⟩),V Yf r.ti,Yd #[V Yf r.pc,V Yf r.ev,Yb (aL r.acc 0),Yb (aL r.acc 1),Yb (aL r.acc 2),Yb (aL r.acc 3),Yb (aL r.acc 4),Yb (aL r.acc 5),Yb (aL r.acc 6),V Yf r.fr,V Yf r.mn,V Yf r.mi,V Yf r.ti,V Yf r.un],.func (.func (jg r)) #[] #[X8 (U ⟨w.heap.size+5,0,XU⟩)],V Yf x,undef,undef,undef,undef,undef,undef,undef,undef,undef,undef,undef,undef,undef,undef],defers:=[] }) ?assign ?body ?done ?stop
  case assign =>
   intro l x W K q
   gi_wp2
   exact q
  case body =>
   rintro l pre x W h aw;obtain⟨v,z,f⟩:=h.d;have az:=h.l.cell;have ay:=h.m.cell;have a3:=z.cell;have av:=h.ml;have HI:=aC h;obtain⟨a0,C,rfl⟩:=qQ f;have au:w.heap.size+6<=W.heap.size:=h.sz
   by_cases c1:727<x
   .clear h f z
    gi_wp2
    exact⟨KeepsFrom.refl _ _,rfl,pre,x,rfl,HI,.inl c1⟩
   .by_cases c2:(pre.length:N)=r.ti
    .have ak:((pre.length:N)==r.ti)=XX:=by simpa using c2
     have C2:=aC c2;clear h f z c2
     gi_wp2
     exact⟨KeepsFrom.refl _ _,rfl,pre,x,rfl,HI,.inr C2⟩
    .have ak:((pre.length:N)==r.ti)=XW:=by simpa using c2
     clear h
     gi_wp2_with (first
      |(gi_at_builtin;refine wpListIn_append_own _ rfl _ _ 38 rfl (w.heap.size+6) 3 i0 (V Yf 0) 1 8 underlying38 aq ao an al rfl XC _ _ _ rfl (f.alloc _) ⟨W.heap.size,0,XU⟩ 1 1 [V Yf x] rfl rfl (cell_one_new _ _ _) XI XH O XG ?_;intro v' w1 o F _;obtain⟨g',ar,rfl⟩:=ownsRow_succ o;obtain⟨H,af,ae,ag⟩:=IL HI z f o F O O;have a4:=H.cell;have ax:=H.frozen))
     exact⟨af,ae,ag⟩
  case done =>
   rintro D ys W hD rfl h q
   have ED:Hid (Rd.gv r=Rd.seq r):=by
    show Rd.gv r=Rd.seq r;have h0:=h.ml;rw[AE,EL.1,EL.2];exact uh (fun y hy=>by simpa using h.le y hy) O
   obtain⟨v,z,f⟩:=h.d;have hc:=z.cell;have hb:=h.bl;obtain⟨a0,C,rfl⟩:=qQ f;clear h
   go_wp2_with fail
   refine⟨by simp,.inl ⟨_,_,rfl,run_takeDeferred q,?_⟩⟩;refine⟨_,results_tmp rfl _ _ _,_,rfl,?_,hb.trans (belowK_b (w:=w) aI W D _ _ O q rfl rfl)⟩;rw[ED];exact ownsRow_putObj (xq f O) _ q rfl
  case stop =>
   rintro D c t W hD aj ⟨rfl,pre,x,rfl,h,hx⟩ q
   have ED:Hid (Rd.gv r=pre):=by
    obtain⟨rest,E⟩:=aj;show Rd.gv r=pre;have h0:=h.ml;rw[AE,EL.1,EL.2,<- E,YU];exact Ks (fun y hy=>by simpa using h.le y hy) O (hx.imp (fun e=>by simpa using e) (fun e=>by omega))
   obtain⟨v,z,f⟩:=h.d;have hc:=z.cell;have hb:=h.bl;obtain⟨a0,C,rfl⟩:=qQ f;clear h;refine wpIn_wide.2 ?_
   go_wp2_with fail
   refine⟨by simp,.inl ⟨_,_,rfl,run_takeDeferred q,?_⟩⟩;refine⟨_,results_tmp rfl _ _ _,_,rfl,?_,hb.trans (belowK_b (w:=w) aI W D _ _ O q rfl rfl)⟩;rw[ED];exact ownsRow_putObj (xq f O) _ q rfl
 .have S:uB r=r.un/\uA r=41:=by unfold uB uA;rw[XR T,XR T];exact⟨rfl,rfl⟩
  have HY:Hid (AU w ((((w.alloc (cD r)).alloc (Yh #[V Yf r.un] 3)).alloc (Yh #[V Yf 41] 3)).alloc (Yh #[X9 XU 0 0] 38)) r r.un 41):=Gg w r r.un 41;have EL:=aC S;clear S
  go_upto_region 5 with fail
  change Code.wp _ _ _ _ ((((w.alloc (cD r)).alloc (Yh #[V Yf r.un] 3)).alloc (Yh #[V Yf 41] 3)).alloc (Yh #[X9 XU 0 0] 38));generalize (((w.alloc (cD r)).alloc (Yh #[V Yf r.un] 3)).alloc (Yh #[V Yf 41] 3)).alloc (Yh #[X9 XU 0 0] 38)=Y at HY ⊢;obtain⟨j,L,I,P,R,G⟩:=HY.out;have EN:=aC (Lo r Y);have HZ:=aC (Jo (r:=r) L I P R G);have TZ:Hid (ig ((Y.alloc (cD r)).alloc (cD r))):=rA ht (HZ.out O).bl X;rw[G] at EN;unfold iU at EN;have x0:=uS j;have x1:=qd j;have x2:=uT j;have x3:=uU j;have x4:=uV j;have x5:=uW j;have x6:=uX j;have x7:=uY j;have x8:=uZ j;have x9:=rj j;have ad:=xH j;have ac:=xI j;have ab:=xJ j;have aa:=xK j;clear j L I P R HY
  go_wp2_with (first
   |(go_at_call 249;refine EN.mono ?_;rintro e w1 ⟨rfl,rfl⟩))
  clear EN x0 x1 x2 x3 x4 x5 x6 x7 x8 x9 ad ac ab aa;have ai:((Y.alloc (cD r)).alloc (cD r)).heap.size=w.heap.size+6:=by simp[G]
  generalize (Y.alloc (cD r)).alloc (cD r)=Z at HZ TZ ai ⊢;have hF:=HZ O;have HS:=aC (Js 2 O (w.heap.size+5) w.heap.size X r hf Z O O TZ hF.ru);refine (wpIn_wide (n:=3)).1 ?_
  refine wpIn_rangeFunc_ownG rfl O (gf:=jg r) (lb:=#[X8 (U ⟨w.heap.size+5,0,XU⟩)]) rfl trivial (JY r) HS (fun h k=>RK.trans h k) (RK.put O O) fo (fun _=>rfl)
   (fun pre W=>FD w W r r.un 41 pre) (fun c t W=>c=.exit 0/\∃ pre x,t=pre++[x]/\FD w W r r.un 41 pre/\(r.un<x\/(pre.length:N)=41))
   (zH w r r.un 41 O) (fun c s A B row hs hg hr=>by obtain⟨e,pre,x,e2,h,h3⟩:=hs;exact⟨e,pre,x,e2,zH w r r.un 41 O pre A B row h hg hr,h3⟩) hF
   (fun x=>{ tmps:=#[Yd #[V Yf r.pc,V Yf r.ev,Yb (aL r.acc 0),Yb (aL r.acc 1),Yb (aL r.acc 2),Yb (aL r.acc 3),Yb (aL r.acc 4),Yb (aL r.acc 5),Yb (aL r.acc 6),V Yf r.fr,V Yf r.mn,V Yf r.mi,V Yf r.ti,V Yf r.un],X8 (U ⟨w.heap.size,0,XU⟩),X9 XU 0 0,X8 (U ⟨w.heap.size+1,0,XU⟩),X8 (U ⟨w.heap.size+1+1,0,XU⟩),X8 (U ⟨w.heap.size+1+1+1,0,XU⟩),V Yf x,X8 (U ⟨w.heap.size,13,XU⟩),V Yf r.un,X8 (U ⟨w.heap.size,12,XU⟩),V Yf r.ti,Yb XW,undef,undef,Yd #[V Yf r.pc,V Yf r.ev,Yb (aL r.acc 0),Yb (aL r.acc 1),Yb (aL r.acc 2),Yb (aL r.acc 3),Yb (aL r.acc 4),Yb (aL r.acc 5),Yb (aL r.acc 6),V Yf r.fr,V Yf r.mn,V Yf r.mi,V Yf r.ti,V Yf r.un],.func (.func (jg r)) #[] #[X8 (U ⟨w.heap.size+5,0,XU⟩)],V Yf x,undef,undef,undef,undef,undef,undef,undef,undef,undef,undef,undef,undef,undef,undef],defers:=[] }) ?assign ?body ?done ?stop
  case assign =>
   intro l x W K q
   gi_wp2
   exact q
  case body =>
   rintro l pre x W h aw;obtain⟨v,z,f⟩:=h.d;have az:=h.l.cell;have ay:=h.m.cell;have a3:=z.cell;have av:=h.ml;have HI:=aC h;obtain⟨a0,C,rfl⟩:=qQ f;have au:w.heap.size+6<=W.heap.size:=h.sz
   by_cases c1:r.un<x
   .clear h f z
    gi_wp2
    exact⟨KeepsFrom.refl _ _,rfl,pre,x,rfl,HI,.inl c1⟩
   .by_cases c2:(pre.length:N)=41
    .have ak:((pre.length:N)==41)=XX:=by simpa using c2
     have C2:=aC c2;clear h f z c2
     gi_wp2
     exact⟨KeepsFrom.refl _ _,rfl,pre,x,rfl,HI,.inr C2⟩
    .have ak:((pre.length:N)==41)=XW:=by simpa using c2
     clear h
     gi_wp2_with (first
      |(gi_at_builtin;refine wpListIn_append_own _ rfl _ _ 38 rfl (w.heap.size+6) 3 i0 (V Yf 0) 1 8 underlying38 aq ao an al rfl XC _ _ _ rfl (f.alloc _) ⟨W.heap.size,0,XU⟩ 1 1 [V Yf x] rfl rfl (cell_one_new _ _ _) XI XH O XG ?_;intro v' w1 o F _;obtain⟨g',ar,rfl⟩:=ownsRow_succ o;obtain⟨H,af,ae,ag⟩:=IL HI z f o F O O;have a4:=H.cell;have ax:=H.frozen))
     exact⟨af,ae,ag⟩
  case done =>
   rintro D ys W hD rfl h q
   have ED:Hid (Rd.gv r=Rd.seq r):=by
    show Rd.gv r=Rd.seq r;have h0:=h.ml;rw[AE,EL.1,EL.2];exact uh (fun y hy=>by simpa using h.le y hy) O
   obtain⟨v,z,f⟩:=h.d;have hc:=z.cell;have hb:=h.bl;obtain⟨a0,C,rfl⟩:=qQ f;clear h
   go_wp2_with fail
   refine⟨by simp,.inl ⟨_,_,rfl,run_takeDeferred q,?_⟩⟩;refine⟨_,results_tmp rfl _ _ _,_,rfl,?_,hb.trans (belowK_b (w:=w) aI W D _ _ O q rfl rfl)⟩;rw[ED];exact ownsRow_putObj (xq f O) _ q rfl
  case stop =>
   rintro D c t W hD aj ⟨rfl,pre,x,rfl,h,hx⟩ q
   have ED:Hid (Rd.gv r=pre):=by
    obtain⟨rest,E⟩:=aj;show Rd.gv r=pre;have h0:=h.ml;rw[AE,EL.1,EL.2,<- E,YU];exact Ks (fun y hy=>by simpa using h.le y hy) O (hx.imp (fun e=>by simpa using e) (fun e=>by omega))
   obtain⟨v,z,f⟩:=h.d;have hc:=z.cell;have hb:=h.bl;obtain⟨a0,C,rfl⟩:=qQ f;clear h;refine wpIn_wide.2 ?_
   go_wp2_with fail
   refine⟨by simp,.inl ⟨_,_,rfl,run_takeDeferred q,?_⟩⟩;refine⟨_,results_tmp rfl _ _ _,_,rfl,?_,hb.trans (belowK_b (w:=w) aI W D _ _ O q rfl rfl)⟩;rw[ED];exact ownsRow_putObj (xq f O) _ q rfl
def fw(r:Rd.cA):J N:=if Rd.fT r=0 then Rd.gv r else []
theorem W6{r:Rd.cA}(h:Rd.fY r)(c:x∈Rd.gv r):0<=x/\x<728:=by
 have f:=h.f0;rw[Rd.Kb h] at c
 split at c
 .have:=Rd.ui h c;omega
 .have:=Rd.ui h (List.mem_of_mem_take c);omega
theorem S9(h:l≠[]):l[l.length-1]?=U (l.getLastD 0):=by
 rw[<- List.getLast?_eq_getElem?,List.getLast?_eq_some_getLast h,List.getLastD_eq_getLast?,List.getLast?_eq_some_getLast h];rfl
theorem Sk(r:Rd.cA)(h:Rd.fY r):(Rd.gv r).length<=99:=by
 have:=h.t1;unfold Rd.gv
 split
 .rw[List.length_take];omega
 .rw[List.length_take];omega
theorem QW{size:M}(h:w.ownsRow B e size v n xs)(k:X0 w w w'):w'.ownsRow B e size v n xs:=by
 refine⟨h.1,h.2.imp id (fun ⟨g,cap,c,q,o,f,j⟩=>⟨g,cap,c,q,o,(k.block g (Array.getElem?_eq_some_iff.1 f).1).trans f,j⟩)⟩
theorem CS{size:M}(h:w.ownsRow B e size v n xs):w.drew.ownsRow B e size v n xs:=⟨h.1,h.2⟩
theorem I3(r:Rd.cA)(hf:Rd.fY r)(w:XY)(ht:ig w)(af:10<=w.heap.size):
  X4 prog 147 #[iU r] w fun e w'=>∃ v,e=Yg (Yc #[v,V Yf (Rd.fT r)])/\w'.ownsRow w 3 1 v (fw r).length ((fw r).map (V Yf))/\X0 w w w':=by
 have hX:X0 w w (w.alloc (cD r)):=bC;have f:=World.alloc_heap_new w (cD r);have hs:(w.alloc (cD r)).heap.size=w.heap.size+1:=XA
 have FI:=aC (WL r hf (w.alloc (cD r)) (rA ht hX af) (by rw[hs];omega));have x0:=uS f;have x1:=qd f;have x2:=uT f;have x3:=uU f;have x4:=uV f;have x5:=uW f;have x6:=uX f;have x7:=uY f;have x8:=uZ f;have x9:=rj f;have ad:=xH f;have ac:=xI f;have ab:=xJ f;have aa:=xK f;have HX:=aC (Yz hX (Yz hs f));have aj:=Sk r hf;have HF:=aC hf;have D:Hid (Rd.fT r=if 40<r.ti then 11 else if 40<(Rd.gv r).length then 11 else if Rd.gv r=[]\/((Rd.gv r).length:N)<r.ti then 6 else if Rd.nh r ((Rd.gv r).getLastD 0) then 6 else 0):=rfl;have F:Hid (fw r=if Rd.fT r=0 then Rd.gv r else []):=rfl;have t1:=hf.t1;clear hX f hs ht hf;unfold iU at *
 by_cases c1:40<r.ti
 .have c:Rd.fT r=11:=by rw[D,XS c1]
  have q:fw r=[]:=by rw[F,c];simp
  rw[c,q];clear FI D F c q
  go_in
  go_upto_region 1 with fail
  change Code.wp _ _ _ _ (w.alloc (cD r));generalize w.alloc (cD r)=X at *
  go_wp21
  exact bodyPost_ret (v:=Yc #[(),V Yf 11]) (by simp[results,results147,go_sem]) rfl ⟨_,rfl,ZD _ _ _ _,HX.1⟩
 .rw[XR c1] at D
  go_in
  go_upto_region 1 with fail
  change Code.wp _ _ _ _ (w.alloc (cD r));generalize w.alloc (cD r)=X at *
  go_upto_region 4 with (first
   |(go_at_call 199;refine FI.mono ?_;rintro e w1 ⟨v,rfl,own,j⟩))
  obtain⟨a,cap,rfl⟩:=qQ own;have G:Hid (X0 w w w1):=HX.1.trans (j.mono (by rw[HX.2.1];omega));have OW:Hid (w1.ownsRow w 3 1 (X9 a (Rd.gv r).length cap) (Rd.gv r).length ((Rd.gv r).map (V Yf))):=xq own (by rw[HX.2.1];omega);have MB:Hid (∀ x∈Rd.gv r,0<=x/\x<728):=fun x hx=>W6 HF hx
  have y0:=aR j x0;have y1:=aR j x1;have y2:=aR j x2;have T:=aR j x3;have S:=aR j x4;have R:=aR j x5;have P:=aR j x6;have K:=aR j x7;have I:=aR j x8;have H:=aR j x9;have z:=aR j ad;have y:=aR j ac;have E:=aR j ab;have t:=aR j aa;clear FI x0 x1 x2 x3 x4 x5 x6 x7 x8 x9 ad ac ab aa own j HX;generalize Rd.gv r=L at *
  by_cases C:40<L.length
  .have c:Hid (Rd.fT r=11):=by show Rd.fT r=11;rw[D,XS C]
   have q:Hid (fw r=[]):=by show fw r=[];rw[F,c.out];simp
   have ai:(40:N)<(L.length:N):=O
   clear y0 y1 y2 T S R P K I H z y E t C
   go_wp21
   exact bodyPost_ret (v:=Yc #[(),V Yf 11]) (by simp[results,results147,go_sem]) rfl ⟨_,by rw[c.out],by rw[q.out];exact ZD _ _ _ _,G⟩
  .have ai:¬ (40:N)<(L.length:N):=O
   by_cases A:L=[]
   .have c:Hid (Rd.fT r=6):=by show Rd.fT r=6;rw[D,XR C,XS (.inl A)]
    have q:Hid (fw r=[]):=by show fw r=[];rw[F,c.out];simp
    have ag:((L.length:N)==0)=XX:=by rw[A];rfl
    clear y0 y1 y2 T S R P K I H z y t A C
    go_wp21
    exact bodyPost_ret (v:=Yc #[(),V Yf 6]) (by simp[results,results147,go_sem]) rfl ⟨_,by rw[c.out],by rw[q.out];exact ZD _ _ _ _,G⟩
   .have h0:0<L.length:=List.length_pos_iff.2 A;have ag:((L.length:N)==0)=XW:=by simp;omega
    by_cases c4:(L.length:N)<r.ti
    .have c:Hid (Rd.fT r=6):=by show Rd.fT r=6;rw[D,XR C,XS (.inr c4)]
     have q:Hid (fw r=[]):=by show fw r=[];rw[F,c.out];simp
     clear y0 y1 y2 T S R P K I H z y t A C
     go_wp21
     exact bodyPost_ret (v:=Yc #[(),V Yf 6]) (by simp[results,results147,go_sem]) rfl ⟨_,by rw[c.out],by rw[q.out];exact ZD _ _ _ _,G⟩
    .obtain⟨Hh,ak,e0⟩:=Joins.ownsRow_form OW O;simp only[Value.slice.injEq,true_and] at e0;obtain⟨rfl,rfl⟩:=e0;have a0:=OW.cellAt (L.length-1) O;rw[List.getElem?_map,S9 A,Option.map_some] at a0;have hl:=MB (L.getLastD 0) (by rw[List.getLastD_eq_getLast?,List.getLast?_eq_some_getLast A];exact List.getLast_mem A);have SO:=aC (KH r HF (L.getLastD 0) hl.1 O w1.drew);have ae:Hid (Rd.fT r=if Rd.nh r (L.getLastD 0) then 6 else 0):=by show Rd.fT r=_;rw[D,XR C,XR (by rintro (h|h) <;> contradiction)]
     have LB:Hid (Rd.nh r (L.getLastD 0)=decide (1048320<(kL r (L.getLastD 0)).2)):=rfl;have k1:Yf.wrap ((L.length:N)-1)=((L.length-1:M):N):=by rw[show (L.length:N)-1=((L.length-1:M):N) from by omega];exact cT O O
     have k2:((L.length-1:M):N)<(L.length:N):=O
     generalize (kL r (L.getLastD 0)).2=til at *;generalize (kL r (L.getLastD 0)).1=fro at *;generalize L.getLastD 0=ld at *;unfold iU at SO;clear A hl C MB D;have al:∀ w:XY,(Instr.field 60 (Yd #[V Yf fro,til]) 1).run prog w=.ok til w:=fun _=>by kernel_rfl
     by_cases c5:1048320<til
     .have c:Hid (Rd.fT r=6):=by show Rd.fT r=6;rw[ae,LB];simp[c5]
      have q:Hid (fw r=[]):=by show fw r=[];rw[F,c.out];simp
      go_upto_region 9 with fail
      go_region_with (first
       |(go_at_call 200;refine SO.mono ?_;rintro e w2 ⟨rfl,o⟩))
      all_goals
       have BF:Hid (X0 w w w2):=G.drew.trans (o.mono G.size);clear o y0 y1 y2 T S R P K I H z y E t a0
       go_wp21
       exact bodyPost_ret (v:=Yc #[(),V Yf 6]) (by simp[results,results147,go_sem]) rfl ⟨_,by rw[c.out],by rw[q.out];exact ZD _ _ _ _,BF⟩
     .have c:Hid (Rd.fT r=0):=by show Rd.fT r=0;rw[ae,LB];simp[c5]
      have q:Hid (fw r=L):=by show fw r=L;rw[F,c.out];simp
      go_upto_region 9 with fail
      go_region_with (first
       |(go_at_call 200;refine SO.mono ?_;rintro e w2 ⟨rfl,o⟩))
      all_goals
       have BF:Hid (X0 w w w2/\w2.ownsRow w 3 1 (X9 Hh L.length cap) L.length (L.map (V Yf))):=⟨G.drew.trans (o.mono G.size),QW (w:=w1.drew) (CS OW) o⟩;clear o y0 y1 y2 T S R P K I H z y E t a0
       go_wp21
       exact bodyPost_ret (v:=Yc #[X9 Hh L.length cap,V Yf 0]) (by simp[results,results147,go_sem]) rfl ⟨_,by rw[c.out],by rw[q.out];exact BF.2,BF.1⟩
theorem eh.qR(h:eh w d s r aN)(k:X0 w w Z)(y:w<=Q){t:XZ}(own:Z.ownsRow (Q+1) 3 1 t l.length (l.map (V Yf)))(n:N)(a b c e f g i:XZ):
  dS w d aN (s,⟨0,0,n,[],l,[],[]⟩) (bJ 0 0 n () t () ()) (cR Z Q a b c e f g i):=by
 have q:=lQ Z Q a b c e f g i;have z:=h.dk.later k;have nq:∀ b,Q<=b->aN b=XU:=fun b o=>h.dk.none O
 have st:Step anyS w aN aN Z (cR Z Q a b c e f g i):=⟨⟨_,q,fun x j=>.inr (by have:x=Q:=List.mem_singleton.1 j;subst this;exact⟨nq _ aI,y⟩)⟩,fun _ _ h=>h,fun _ _ h=>.inl h⟩
 have rp:lK Z (Q+1) aN (bJ 0 0 n () t () ()) ⟨0,0,n,[],l,[],[]⟩ :=
  ⟨_,_,_,_,[],rfl,rfl,ik.nil _ _ _,⟨own,fun b o=>nq b (by have:=(own.lt b o).1;omega)⟩,dY.nil _ _ _,dY.nil _ _ _,(fun b o=>by cases o),fun b _=>by simp[ZB]⟩
 exact⟨r,aN,z.off q (fun x j=>by have:x=Q:=List.mem_singleton.1 j;subst this;exact nq _ aI),h.of,h.wl,h.hl,(Step.below k).trans st,(rp.off q (fun x j=>by have:x=Q:=List.mem_singleton.1 j;omega)).base O⟩
theorem Xh{r:Rd.cA}(c:Rd.fY r)(h:Rd.fT r≠0):aA.aV s (.expand r)=(s,aA.bI.error (Rd.fT r)):=by
 have e:=(Rd.qY c).1;simp only[aA.aV];rw[<- e,XS h]
theorem VT{r:Rd.cA}(c:Rd.fY r)(h:Rd.fT r=0):aA.aV s (.expand r)=(s,⟨0,0,((fw r).length:N),[],fw r,[],[]⟩):=by
 let⟨e1,e2⟩:=Rd.qY c;have j:=(e2 (by rw[<- e1];exact h)).1;have f:fw r=Rd.bY r:=by unfold fw;rw[XS h,j]
 simp only[aA.aV];rw[<- e1,XR O,f];rfl
theorem Uf(w:XY)(r:Rd.cA):let X:=((w.alloc (Yh #[V Yf r.pc,V Yf r.ev,aL r.acc 0,aL r.acc 1,aL r.acc 2,aL r.acc 3,aL r.acc 4,aL r.acc 5,aL r.acc 6,V Yf r.fr,r.mn,r.mi,r.ti,r.un] 180)).alloc bB);X0 w w X/\X.heap[w.heap.size+1]?=U bB/\X=w.heap.size+2/\X.heap[w.heap.size]?=U (Yh #[V Yf r.pc,V Yf r.ev,aL r.acc 0,aL r.acc 1,aL r.acc 2,aL r.acc 3,aL r.acc 4,aL r.acc 5,aL r.acc 6,V Yf r.fr,r.mn,r.mi,r.ti,r.un] 180 (0,0)):=by
 let⟨h1,h2⟩:=AM (w:=w) (Yh #[V Yf r.pc,V Yf r.ev,aL r.acc 0,aL r.acc 1,aL r.acc 2,aL r.acc 3,aL r.acc 4,aL r.acc 5,aL r.acc 6,V Yf r.fr,r.mn,r.mi,r.ti,r.un] 180);exact⟨h1,h2,by simp,(Below.heap_alloc _ _ _ XA).trans (World.alloc_heap_new w _)⟩
theorem Vm(h:eh w d s rw_ aN)(ht:ig w)(aa:10<=w.heap.size)(r:Rd.cA)(z:Rd.fY r):
  X4 prog 102 #[Yd #[V Yf r.pc,V Yf r.ev,aL r.acc 0,aL r.acc 1,aL r.acc 2,aL r.acc 3,aL r.acc 4,aL r.acc 5,aL r.acc 6,V Yf r.fr,r.mn,r.mi,r.ti,r.un]] w fun e w'=>∃ v,e=Yg v/\dS w d aN (aA.aV s (.expand r)) v w':=by
 obtain⟨hX,y,o,j⟩:=Uf w r;have DY:=aC (I3 r z ((w.alloc (Yh #[V Yf r.pc,V Yf r.ev,aL r.acc 0,aL r.acc 1,aL r.acc 2,aL r.acc 3,aL r.acc 4,aL r.acc 5,aL r.acc 6,V Yf r.fr,r.mn,r.mi,r.ti,r.un] 180)).alloc bB) (rA ht hX aa) (by rw[o];omega));have HE:=aC (Xh (s:=s) z);have HO:=aC (VT (s:=s) z);have HH:=aC h;have t:=aC (Yz hX (Yz y o));have x0:=bG j 0 rfl;have x1:=bG j 1 rfl;have x2:=bG j 2 rfl;have x3:=bG j 3 rfl;have x4:=bG j 4 rfl;have x5:=bG j 5 rfl;have x6:=bG j 6 rfl;have x7:=bG j 7 rfl;have x8:=bG j 8 rfl;have x9:=bG j 9 rfl;have F:=bG j 10 rfl;have E:=bG j 11 rfl;have D:=bG j 12 rfl;have C:=bG j 13 rfl;unfold iU at DY;clear h hX y o j z ht
 go_in
 go_upto_region 1 with fail
 change Code.wp _ _ _ _ ((w.alloc (Yh #[V Yf r.pc,V Yf r.ev,aL r.acc 0,aL r.acc 1,aL r.acc 2,aL r.acc 3,aL r.acc 4,aL r.acc 5,aL r.acc 6,V Yf r.fr,r.mn,r.mi,r.ti,r.un] 180)).alloc bB);generalize ((w.alloc (Yh #[V Yf r.pc,V Yf r.ev,aL r.acc 0,aL r.acc 1,aL r.acc 2,aL r.acc 3,aL r.acc 4,aL r.acc 5,aL r.acc 6,V Yf r.fr,r.mn,r.mi,r.ti,r.un] 180)).alloc bB)=X at *
 go_upto_region 2 with (first
  |(go_at_call 147;refine DY.mono ?_;rintro e w1 ⟨da,rfl,own,hb⟩))
 obtain⟨a1,cap,rfl⟩:=qQ own;have BX:Hid (X0 w w w1):=t.1.trans (hb.mono t.1.size);have QX:Hid (Q7 w1 (w.heap.size+1)):=(Q7.of t.2.1).later (hb.block _ (by rw[t.2.2];omega));have OW:Hid (w1.ownsRow (w.heap.size+1+1) 3 1 (X9 a1 (fw r).length cap) (fw r).length ((fw r).map (V Yf))):=by have:=own;rw[t.2.2] at this;exact this
 clear DY x0 x1 x2 x3 x4 x5 x6 x7 x8 x9 F E D C own hb t
 by_cases q:Rd.fT r=0
 .have A:=aC (HO q);have T:(Rd.fT r != 0)=XW:=by simpa using q
  have AF:Hid (∀ a b c e f g i,dS w d aN (aA.aV s (.expand r)) (bJ 0 0 ((fw r).length:N) () (X9 a1 (fw r).length cap) () ()) (cR w1 (w.heap.size+1) a b c e f g i)):=fun a b c e f g i=>by rw[A];exact HH.qR BX O OW _ a b c e f g i
  clear HE HO A OW;generalize (fw r).length=nn at *;generalize Rd.fT r=er at *;subst q;obtain⟨R,P,L,K,I,H,G,fq⟩:=QX
  go_wp21
  exact cL results102 ⟨R,P,L,K,I,H,G,fq⟩ ⟨_,rfl,AF _ _ _ _ _ _ _⟩
 .have A:=aC (HE q);have T:(Rd.fT r != 0)=XX:=by simpa using q
  clear HE HO OW q;generalize Rd.fT r=er at *
  go_wp21
  refine aK (jN er w1) fun w2 S=>?_;have HF:=aC (HH.refuse BX QX S A);obtain⟨R,P,L,K,I,H,G,fq⟩:=HF.1;simp only[bJ]
  go_wp21
  exact cL results102 ⟨R,P,L,K,I,H,G,fq⟩ ⟨_,rfl,HF.2⟩
theorem WH(h:eh w d s rw_ aN)(ht:ig w)(F:10<=w.heap.size)(r:Rd.cA)(H:Rd.fY r):
  X4 prog 64 #[d,Ye 180 (Yd #[V Yf r.pc,V Yf r.ev,aL r.acc 0,aL r.acc 1,aL r.acc 2,aL r.acc 3,aL r.acc 4,aL r.acc 5,aL r.acc 6,V Yf r.fr,r.mn,r.mi,r.ti,r.un])] w fun e w'=>∃ v,e=Yg v/\dS w d aN (aA.aV s (.expand r)) v w':=by
 have G:=aC (h.oF (Yh #[V Yf r.pc,V Yf r.ev,aL r.acc 0,aL r.acc 1,aL r.acc 2,aL r.acc 3,aL r.acc 4,aL r.acc 5,aL r.acc 6,V Yf r.fr,r.mn,r.mi,r.ti,r.un] 180));have I:=aC (Vm G.1 (rA ht G.2.1 F) (Yk F G.2.1.size) r H);clear h;unfold bB at I G;have t:=oS 180 XC;have E:=pI 180 XC;have C:=qH 180 XC;have y:=qG 180 XC;have o:=sk 180 XC;have j:=tK 180 XC;have q:=uI 180 XC;have A:=wI 180 XC;have f:=wN 180 XC;have z:=yI 180 XC;have D:=BB 180 XC;have c:=nY underlying180
 go_in
 go_wp21
 refine I.mono ?_;rintro e R ⟨v,rfl,K⟩;obtain⟨er,at_,S,a1,a2,a3,a4,n1,n2,X,T,c1,c2,c3,c4,rfl,L,H⟩:=K.ow G.2;have P:=aC H;clear K H I t E C y o j q A f z D c;let⟨q0,q1,q2,q3,q4,q5,q6,fq⟩:=L;simp only[bJ]
 go_wp21
 exact cL results64 ⟨q0,q1,q2,q3,q4,q5,q6,fq⟩ ⟨_,rfl,P⟩
theorem Io:∀ (L:J (N × N))(j:M)(u:XZ),(L.flatMap gk)[j]?=U u->∃ (i:M)(h:i<L.length),(j=i*2/\u=V Yf L[i].1)\/(j=i*2+1/\u=V Yf L[i].2)
 |[],j,u,h=>by simp at h
 |p :: L,0,u,h=>by
  refine⟨0,by simp,.inl ⟨rfl,?_⟩⟩;simp[gk] at h;exact h.symm
 |p :: L,1,u,h=>by
  refine⟨0,by simp,.inr ⟨rfl,?_⟩⟩;simp[gk] at h;exact h.symm
 |p :: L,j+2,u,h=>by
  have f:(L.flatMap gk)[j]?=U u:=by simpa[gk] using h
  let⟨i,hi,e⟩:=Io L j u f;refine⟨i+1,by simp;omega,?_⟩;rcases e with ⟨o,c⟩|⟨o,c⟩
  .exact .inl ⟨O,by simpa using c⟩
  .exact .inr ⟨O,by simpa using c⟩
theorem KW(L:J (N × N)):(L.flatMap gk).length=L.length*2:=by
 induction L with
 |nil=>rfl
 |cons p L ih=>simp[gk,ih];omega
theorem Vo(L:J (N × N)):∀ u∈L.flatMap gk,u.oneCell'=XX:=by
 intro u c;let⟨p,_,hp⟩:=List.mem_flatMap.1 c;simp[gk] at hp;rcases hp with rfl|rfl <;> rfl
theorem Wr(w:XY)(B cap:M)(L:J (N × N))(q:SL w B L)(E:L.length<=100):
  X4 prog 210 #[X9 B L.length cap] w fun e w'=>∃ v,e=Yg v/\w'.ownsRow w 60 2 v L.length (L.flatMap gk)/\X0 w w w':=by
 let⟨i0,hi0,hz0,hz1,hz2⟩:=info_parts wS;have A:∀ (w:XY) (a:XM Addr) (n c n' o:M),(binOp .eql 56 (X9 a n c) (X9 XU n' o)).run prog w=.ok a.isNone w:=fun w a n c n' o=>Lib.run_eql_slice_nil w _ _ a n c n' o underlying56
 have z:=aC q;clear q
 go_in
 go_wp2_with (at_builtin;refine wpList_append_own _ rfl _ _ 56 rfl w 60 i0 _ 2 16 underlying56 hi0 hz0 hz1 hz2 rfl XC _ _ _ rfl (World.ownsRow_made w #[] 0 aI (zN _) rfl) (B,0) L.length cap (L.flatMap gk) rfl ?qc1 ?qc2 ?qc3 ?qc4 ?qc5 ?qc6 ?_)
 .exact KW L
 .intro j u D;rw[Addr.add_lit];refine Lib.cell?_alloc_some _ ?_;obtain⟨i,y,⟨rfl,rfl⟩|⟨rfl,rfl⟩⟩:=Io L j u D
  .have:=(z i y).1
   simpa using this
  .have:=(z i y).2
   simpa using this
 .exact Vo L
 .unfold maxLen;omega
 .omega
 .simp
 intro v' w1 h f t;go_wp2;go_ret;refine⟨v',rfl,by simpa using h,?_⟩;exact ((zr _ w).alloc aI _).grown f XA (by intro k C;simp[ZB] at C;omega)
def jJ:Obj:=Yh #[V Yf 0,V Yf 0,ByteArray.empty,V Yf 0,(),V Yf 0] 58 (0,0)
def qS(e:aO)(v:XZ):XZ:=Yd #[e.id,e.kind,e.bA,e.aM,v,e.bP]
def uN(Z:XY)(Q:M)(a b c d e f:XZ):XY:=(((((Z.setCell (Q,0) a).setCell (Q,1) b).setCell (Q,2) c).setCell (Q,3) d).setCell (Q,4) e).setCell (Q,5) f
theorem Jm(Z:XY)(Q:M)(a b c d e f:XZ):aH [Q] Z (uN Z Q a b c d e f) :=
 ((((((aH.refl [Q] Z).setCell (.inl XA) _ _).setCell (.inl XA) _ _).setCell (.inl XA) _ _).setCell (.inl XA) _ _).setCell (.inl XA) _ _).setCell (.inl XA) _ _
def Dh(w:XY)(e:aO)(v:XZ)(w':XY):Prop:=∃ sp,v=qS e sp/\w'.ownsRow w 60 2 sp e.aQ.length (e.aQ.flatMap gk)/\X0 w w w'
theorem Qt(h:w.heap[Q]?=U jJ):w.cell? (Q,0)=U (V Yf 0):=by unfold jJ at h;simp only[YF,h];rfl
theorem Qu(h:w.heap[Q]?=U jJ):w.cell? (Q,1)=U (V Yf 0):=by unfold jJ at h;simp only[YF,h];rfl
theorem Qv(h:w.heap[Q]?=U jJ):w.cell? (Q,2)=U ↑ByteArray.empty:=by unfold jJ at h;simp only[YF,h];rfl
theorem Qw(h:w.heap[Q]?=U jJ):w.cell? (Q,3)=U (V Yf 0):=by unfold jJ at h;simp only[YF,h];rfl
theorem Qx(h:w.heap[Q]?=U jJ):w.cell? (Q,4)=U ↑():=by unfold jJ at h;simp only[YF,h];rfl
theorem Qy(h:w.heap[Q]?=U jJ):w.cell? (Q,5)=U (V Yf 0):=by unfold jJ at h;simp only[YF,h];rfl
theorem Qz(h:w.heap[Q]?=U jJ):∀ o,w.frozen? ⟨Q,o,XU⟩=XW:=fun o=>frozen_of_row _ Q o _ _ h
theorem S5(w:XY)(g:EG)(h:iF w g)(L:w.cell? ⟨g.tb,0,XU⟩=U (Ya g.e.bA))(hL:g.e.aQ.length<=100):
  X4 prog 152 #[X8 (U ⟨g.eb,0,XU⟩)] w fun e w'=>∃ v,e=Yg v/\Dh w g.e v w':=by
 have H:X0 w.heap.size w (w.alloc jJ):=(zr _ _).alloc (zq _) _;have hq:=cP w jJ;have y:=h.off (G:=[]) (aH.aD H) XA XA;have c0:=y.en.c0;have c1:=y.k;have c2:=y.en.c1;have T:=y.en.c2;have S:=y.en.c3;have R:=y.u;have P:=aR H L;have CL:=aC (Wr (w.alloc jJ).drew g.B g.cap g.e.aQ (y.en.sl.off (G:=[]) (aH.aD (dV _)) XA) hL);have I:=aC (Yz H hq);have q:g.eb≠w.heap.size/\g.tb≠w.heap.size:=⟨by have:=h.lt;omega,by have z:g.tb<w.heap.size:=Yl _ _ L;omega⟩;clear h L H hq y
 go_in
 go_upto_region 1 with fail
 change Code.wp _ _ _ _ (w.alloc jJ);have K:w.heap.size<(w.alloc jJ).heap.size:=XA
 generalize w.alloc jJ=X at *;have AC:Hid (∀ w2,X0 X.drew.heap.size X.drew w2->w2.cell? ⟨g.eb,0,XU⟩=U (V Yf g.e.id)/\w2.cell? ⟨g.eb,1,XU⟩=U (V Yf g.e.kind)/\w2.cell? ⟨g.eb,2,XU⟩=U (X8 (U ⟨g.tb,0,XU⟩))/\w2.cell? ⟨g.eb,3,XU⟩=U (V Yf g.e.aM)/\w2.cell? ⟨g.eb,4,XU⟩=U (X9 (U ⟨g.B,0,XU⟩) g.e.aQ.length g.cap)/\w2.cell? ⟨g.eb,5,XU⟩=U (V Yf g.e.bP)/\w2.cell? ⟨g.tb,0,XU⟩=U (Ya g.e.bA)):=fun w2 k=>⟨aR k c0,aR k c1,aR k c2,aR k T,aR k S,aR k R,aR k P⟩
 have AQ:Hid (∀ w2,X0 X.drew.heap.size X.drew w2->w2.heap[w.heap.size]?=U jJ):=fun w2 k=>(k.block _ K).trans I.out.2
 have AS:Hid (∀ w2 a b c d e f,X0 X.drew.heap.size X.drew w2->((((((w2.setCell ⟨w.heap.size,0,XU⟩ a).setCell ⟨w.heap.size,1,XU⟩ b).setCell ⟨w.heap.size,2,XU⟩ c).setCell ⟨w.heap.size,3,XU⟩ d).setCell ⟨w.heap.size,4,XU⟩ e).setCell ⟨w.heap.size,5,XU⟩ f).cell? ⟨g.eb,0,XU⟩=U (V Yf g.e.id)/\((((((w2.setCell ⟨w.heap.size,0,XU⟩ a).setCell ⟨w.heap.size,1,XU⟩ b).setCell ⟨w.heap.size,2,XU⟩ c).setCell ⟨w.heap.size,3,XU⟩ d).setCell ⟨w.heap.size,4,XU⟩ e).setCell ⟨w.heap.size,5,XU⟩ f).cell? ⟨g.eb,1,XU⟩=U (V Yf g.e.kind)/\((((((w2.setCell ⟨w.heap.size,0,XU⟩ a).setCell ⟨w.heap.size,1,XU⟩ b).setCell ⟨w.heap.size,2,XU⟩ c).setCell ⟨w.heap.size,3,XU⟩ d).setCell ⟨w.heap.size,4,XU⟩ e).setCell ⟨w.heap.size,5,XU⟩ f).cell? ⟨g.eb,2,XU⟩=U (X8 (U ⟨g.tb,0,XU⟩))/\((((((w2.setCell ⟨w.heap.size,0,XU⟩ a).setCell ⟨w.heap.size,1,XU⟩ b).setCell ⟨w.heap.size,2,XU⟩ c).setCell ⟨w.heap.size,3,XU⟩ d).setCell ⟨w.heap.size,4,XU⟩ e).setCell ⟨w.heap.size,5,XU⟩ f).cell? ⟨g.eb,3,XU⟩=U (V Yf g.e.aM)/\((((((w2.setCell ⟨w.heap.size,0,XU⟩ a).setCell ⟨w.heap.size,1,XU⟩ b).setCell ⟨w.heap.size,2,XU⟩ c).setCell ⟨w.heap.size,3,XU⟩ d).setCell ⟨w.heap.size,4,XU⟩ e).setCell ⟨w.heap.size,5,XU⟩ f).cell? ⟨g.eb,4,XU⟩=U (X9 (U ⟨g.B,0,XU⟩) g.e.aQ.length g.cap)/\((((((w2.setCell ⟨w.heap.size,0,XU⟩ a).setCell ⟨w.heap.size,1,XU⟩ b).setCell ⟨w.heap.size,2,XU⟩ c).setCell ⟨w.heap.size,3,XU⟩ d).setCell ⟨w.heap.size,4,XU⟩ e).setCell ⟨w.heap.size,5,XU⟩ f).cell? ⟨g.eb,5,XU⟩=U (V Yf g.e.bP)/\((((((w2.setCell ⟨w.heap.size,0,XU⟩ a).setCell ⟨w.heap.size,1,XU⟩ b).setCell ⟨w.heap.size,2,XU⟩ c).setCell ⟨w.heap.size,3,XU⟩ d).setCell ⟨w.heap.size,4,XU⟩ e).setCell ⟨w.heap.size,5,XU⟩ f).cell? ⟨g.tb,0,XU⟩=U (Ya g.e.bA)):=fun w2 a b c d e f k=>by
  have o:=Jm w2 w.heap.size a b c d e f;obtain⟨k0,k1,k2,k3,k4,k5,k6⟩:=AC.out w2 k;exact⟨o.cell (by simpa using q.1) k0,o.cell (by simpa using q.1) k1,o.cell (by simpa using q.1) k2,o.cell (by simpa using q.1) k3,o.cell (by simpa using q.1) k4,o.cell (by simpa using q.1) k5,o.cell (by simpa using q.2) k6⟩
 clear q
 go_region_held3 (fun w'=>w'.cell? ⟨g.eb,0,XU⟩=U (V Yf g.e.id)/\w'.cell? ⟨g.eb,1,XU⟩=U (V Yf g.e.kind)/\w'.cell? ⟨g.eb,2,XU⟩=U (X8 (U ⟨g.tb,0,XU⟩))/\w'.cell? ⟨g.eb,3,XU⟩=U (V Yf g.e.aM)/\w'.cell? ⟨g.eb,4,XU⟩=U (X9 (U ⟨g.B,0,XU⟩) g.e.aQ.length g.cap)/\w'.cell? ⟨g.eb,5,XU⟩=U (V Yf g.e.bP)/\w'.cell? ⟨g.tb,0,XU⟩=U (Ya g.e.bA))
  (first
   |with_reducible exact AS.out _ _ _ _ _ _ _ t
   |with_reducible exact AC.out _ t
   |exact⟨c0,c1,c2,T,S,R,P⟩)
  (first
   |(go_at_call 210;refine CL.out.mono ?_;rintro e w2 ⟨v,rfl,E,t⟩;obtain⟨D,C,rfl⟩:=lR E;have j:=AQ.out w2 t;have q0:=Qt j;have q1:=Qu j;have q2:=Qv j;have q3:=Qw j;have q4:=Qx j;have q5:=Qy j;have fq:=Qz j;clear j))
 have HF:Hid (Dh w g.e (qS g.e (X9 D g.e.aQ.length C)) (uN w2 w.heap.size (V Yf g.e.id) (V Yf g.e.kind) (Ya g.e.bA) (V Yf g.e.aM) (X9 D g.e.aQ.length C) (V Yf g.e.bP))):=by
  have A:=I.out.1.size;have k:=Jm w2 w.heap.size (V Yf g.e.id) (V Yf g.e.kind) (Ya g.e.bA) (V Yf g.e.aM) (X9 D g.e.aQ.length C) (V Yf g.e.bP);have z:X0 w.heap.size w w2:=I.out.1.drew.trans (t.mono A);refine⟨_,rfl,cV (Joins.ownsRow_le E A) k (fun b F y=>?_),?_⟩
  .have:=(E.lt b F).1;have e:b=w.heap.size:=List.mem_singleton.1 y;have aa:w.heap.size<X.drew.heap.size:=K;omega
  .exact⟨k.os.trans z.os,k.tape.trans z.tape,k.output.trans z.output,Yk z.size k.size,fun b F=>(k.block b (zL F z.size) XG).trans (z.block b F)⟩
 clear E t CL AC AQ AS c0 c1 c2 T S R P I K
 go_wp2_with fail
 exact bodyPost_ret (v:=qS g.e (X9 D g.e.aQ.length C)) (by simp[results,results152,go_sem,qS,q0,q1,q2,q3,q4,q5]) rfl ⟨_,rfl,HF.out⟩
theorem VJ:(prog.info? 58).map (fun i=>(i.zero,i.size,i.bytes))=U (U (Yd #[V Yf 0,V Yf 0,ByteArray.empty,V Yf 0,(),V Yf 0]),6,72):=XF
theorem eh.mU(h:eh w d s r aN)(k:X0 w w wx)(c:g∈r.eg):
  X4 prog 152 #[g.eb] wx fun e w'=>∃ v,e=Yg v/\Dh wx g.e v w':=by
 have j:=h.dk.later k;let⟨i,hi,e1,e2⟩:=h.of.tb g c;let⟨ul,us,Fl,Fs,t1,_⟩:=j.th i hi;have f:=t1.c0;rw[e1,<- e2] at f;exact S5 wx g (j.en g c).1 f (by have:=(h.inv.en _ (h.of.mem c)).sl;omega)
theorem sS:∀ {l:J (aO × XZ)}{k:M}(f:k<l.length){j:M}(_:j<6),(l.flatMap gA)[k*6+j]?=(gA l[k])[j]?
 |p :: l,0,f,j,hj=>by
  have e:(p :: l).flatMap gA=gA p++l.flatMap gA:=XA
  rw[e,List.getElem?_append_left (by simp[gA];omega)];simp
 |p :: l,k+1,f,j,hj=>by
  have c:k<l.length:=by simpa using f
  have e:(p :: l).flatMap gA=gA p++l.flatMap gA:=XA
  have h:(gA p).length=6:=rfl;rw[e,List.getElem?_append_right (by rw[h];omega),h,show (k+1)*6+j-6=k*6+j by omega,sS c hj];simp
theorem UT(eb:M)(id:N)(x:aO)(a:XM Addr)(n c:M)(w:XY)(h:w.cell? (eb,0)=U ↑id):
  X4 prog 209 #[eb,qS x (X9 a n c)] w fun e w'=>e=Yg (x.id==id)/\X0 w w w':=by
 have f:X0 w w (w.alloc (Yh #[x.id,x.kind,x.bA,x.aM,X9 a n c,x.bP] 58)):=bC;have q:(w.alloc (Yh #[x.id,x.kind,x.bA,x.aM,X9 a n c,x.bP] 58)).cell? (w,0)=U ↑x.id:=XA
 have o:=aR f h;have j:=aC f;clear f h;unfold qS
 go_in
 go_upto_region 1 with fail
 generalize w.alloc (Yh #[x.id,x.kind,x.bA,x.aM,X9 a n c,x.bP] 58)=X at *
 go_big_region
 go_wp21
 go_ret;exact⟨rfl,j.drew⟩
theorem W8(l:J (aO × XZ))(v:XZ)(B eb:M)(id:N)(w:XY)(own:w.ownsRow B 58 6 v l.length (l.flatMap gA))(X:∀ p∈l,∃ a n c,p.2=X9 a n c)(hc:w.cell? (eb,0)=U ↑id)(hl:l.length<=1000):
  X4 prog 256 #[v,.func (.func 209) #[eb] #[]] w fun e w'=>e=Yg (V Yf (fI (fun p:aO × XZ=>p.1.id==id) l 0))/\X0 w w w':=by
 obtain⟨a,cap,rfl⟩:=lR own;have CC:=aC hc;have HS:=aC X;have A:=aC own;clear hc X own
 go_in
 go_wp21
 go_loopw [8] (fun i wx=>∃ k:M,k<=l.length/\i=V Yf k/\fI (fun p:aO × XZ=>p.1.id==id) l 0=fI (fun p:aO × XZ=>p.1.id==id) (l.drop k) k/\X0 w w wx) (fun i _=>l.length-(intOf i).toNat)
 .exact⟨0,Nat.zero_le _,rfl,rfl,Below.refl _ _⟩
 .obtain⟨k,hk,rfl,E,z⟩:=hrel;have R:=aC E;have T:=aC z
  by_cases h:k<l.length
  .have hi:(k:N)<(l.length:N):=O
   obtain⟨H,aa,e1⟩:=Joins.ownsRow_form A O;simp only[Value.slice.injEq,true_and] at e1;obtain⟨rfl,rfl⟩:=e1;have f:=eQ A z;have P:=(f.cellAt (k*6) O).trans (sS h (j:=0) O);have L:=(f.cellAt (k*6+1) O).trans (sS h (j:=1) O);have K:=(f.cellAt (k*6+2) O).trans (sS h (j:=2) O);have I:=(f.cellAt (k*6+3) O).trans (sS h (j:=3) O);have D:=(f.cellAt (k*6+4) O).trans (sS h (j:=4) O);have G:=(f.cellAt (k*6+5) O).trans (sS h (j:=5) O);simp only[gA,List.getElem?_cons_zero,List.getElem?_cons_succ] at P L K I D G;obtain⟨sa,sn,sc,y⟩:=HS l[k] (zg h);rw[y] at D;have o:=aC (UT eb id l[k].1 sa sn sc wr (aR z CC));have ed:fI (fun p:aO × XZ=>p.1.id==id) (l.drop k) k=if l[k].1.id==id then (k:N) else fI (fun p:aO × XZ=>p.1.id==id) (l.drop (k+1)) ((k+1:M):N):=by rw[List.drop_eq_getElem_cons h];rfl
   have ED:=aC ed;clear ed f z E y
   cases q:(l[k].1.id==id)
   .have C:Hid (fI (fun p:aO × XZ=>p.1.id==id) l 0=fI (fun p:aO × XZ=>p.1.id==id) (l.drop (k+1)) ((k+1:M):N)):=by show _=_;rw[R,ED,q];rfl
    rw[q] at o;clear q;unfold qS at o
    go_wp21
    refine o.mono ?_;rintro e w1 ⟨rfl,t⟩;have S:=aC (bM T t aI);clear t P L K I D G o
    go_wp21
    go_roundw
    .exact⟨k+1,O,by go_num,C,S⟩
    .simp[intOf];omega
   .have C:Hid (fI (fun p:aO × XZ=>p.1.id==id) l 0=k):=by show _=_;rw[R,ED,q];rfl
    rw[q] at o;clear q;unfold qS at o
    go_wp21
    refine o.mono ?_;rintro e w1 ⟨rfl,t⟩;have S:=aC (bM T t aI);clear t P L K I D G o
    go_wp21
    go_ret;exact⟨iy C.symm,S⟩
  .have F:k=l.length:=O
   have hi:¬ ((k:N)<(l.length:N)):=O
   have C:Hid (fI (fun p:aO × XZ=>p.1.id==id) l 0=-1):=by show _=_;rw[R,F,List.drop_length];rfl
   clear E z
   go_wp21
   go_ret;exact⟨iy C.symm,T⟩
theorem Xk(l:J (aO × XZ))(v:XZ)(B eb:M)(id:N)(w:XY)(own:w.ownsRow B 58 6 v l.length (l.flatMap gA))(y:∀ p∈l,∃ a n c,p.2=X9 a n c)(A:w.cell? (eb,0)=U ↑id)(E:l.length<=1000):
  X4 prog 208 #[v,.func (.func 209) #[eb] #[]] w fun e w'=>e=Yg (l.any (fun p:aO × XZ=>p.1.id==id))/\X0 w w w':=by
 have C:=aC (W8 l v B eb id w own y A E)
 have f:(decide ((0:N)<=fI (fun p:aO × XZ=>p.1.id==id) l 0))=l.any (fun p:aO × XZ=>p.1.id==id):=by
  rcases xC (fun p:aO × XZ=>p.1.id==id) l 0 with ⟨o,j⟩|⟨k,h,o,j,_⟩
  .rw[o];have:l.any (fun p:aO × XZ=>p.1.id==id)=XW:=List.any_eq_false.2 (fun x D=>by rw[j x D];simp);rw[this];rfl
  .have:l.any (fun p:aO × XZ=>p.1.id==id)=XX:=List.any_eq_true.2 ⟨_,List.getElem_mem h,j⟩;rw[this,o];exact decide_eq_true O
 have q:=aC f;clear f own y A
 go_in
 go_wp21
 refine C.mono ?_;rintro e w1 ⟨rfl,t⟩;have F:=aC t;clear t C;generalize fI (fun p:aO × XZ=>p.1.id==id) l 0=z at *
 go_wp21
 go_ret;exact⟨by rw[q];rfl,F⟩
end Go.Proofs.YtfigmlfdnickmaaGreatDoor
