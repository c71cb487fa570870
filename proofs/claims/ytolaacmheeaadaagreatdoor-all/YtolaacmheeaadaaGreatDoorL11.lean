import Derived.Test.YtolaacmheeaadaaGreatDoorL10
set_option maxRecDepth 100000
set_option maxHeartbeats 8000000
open Go.Proofs.Tryz
open _root_ renaming ByteArray->Us,List->Ut,Option->Uu,Nat->Uw,Int->Ux,if_neg->Uy,if_pos->Uz,Int->N,Nat->M,List->J
open Option renaming none->UB,some->UC,mem_toList->Wn,some->U
open Bool renaming false->UD,true->UE,eq_iff_iff->Wy,false_and->ZS,true_and->Ys
open Go renaming World->UF,Value->UG,Calls->UI,TypeId->UK,Value->Ya
open Go.RowKit renaming Below->UH
open Nat renaming zero_mul->V6,sub_self->YX,lt_of_lt_of_le->VP,zero_le->VM,le_refl->UY,le_trans->U0,add_sub_cancel_left->V1,lt_or_ge->ZU
open Go.World renaming frozen?->U2,news_of_block->Wf,block_lt_of_cell?->U1,ownsRow_nil->Wc
open List renaming set_append->ZK,drop_eq_getElem_cons->Wh,append_assoc->V8,mem_cons->Va,mem_append->Vb,mem_append_left->X6,mem_append_right->X7,length_append->VA,length_drop->ZQ,drop_eq_nil_of_le->Wi,append_nil->Xu,mem_singleton->X9,map->ZA,length->VD,mem_map->VQ,take_succ_eq_append_getElem->VL,map_append->VU,filter_append->Vo,mem_flatMap->ZG,flatMap_cons->VW,getElem?_append_right->VZ,length_cons->VB,length_nil->VG,getElem_cons_succ->ZT,getElem?_eq_some_iff->Zt,getElem?_set->ZV,length_set->V5,mem_cons_of_mem->Wm,mem_cons_self->XF,getElem?_append_left->VV
open Array renaming getElem?_eq_some_iff->YC
open Go.Value renaming ownBlock->V9,slice->UO,oneCell'->Wg,int->UL,pointer->UM,string->UQ,tuple->US,agg->UT,iface->UU,int->V
open And renaming intro->Vf
open Go.Value.slice renaming injEq->XS
open Go.Code renaming wp->YD
open Go.Exit renaming inBlock->V7
open Go.IntKind renaming i64->UV,i64->Y
open Int renaming tdiv_eq_ediv_of_nonneg->ZR
open ByteArray renaming empty->Ym
open Option.some renaming injEq->ZI
open Go.Addr.mk renaming injEq->ZJ
open Classical renaming em->ZW
open Go.Ending renaming returned->UW
open Go.Obj renaming cells->UX
namespace Go.Proofs.YtolaacmheeaadaaGreatDoor
variable{s x:Us}{fr mi mn pc ti un:Ux}{P:Ux->Ut Ya}{ys:Ut (aA.aQ × Uw × Uw)}{acc:Ut Ux}{F:Ut Uw}{pat xs:Ut Ya}{B Q b0 cap n p z:Uw}{st:Uw × Bool}{aM:Uw->Uu bO}{o:Obj}{a b c r' u v:Ya}{W X Z Z' Z3 w w' w0 w9 wr:UF}
open Go.RowKit
variable {w:UF}{B:Uw}{v0 v1 r1 r2 r3:UG}{K:Ut Uw}{X1 X2 X3:Ut KL}
theorem QK:(prog.info? tI).map (fun i=>(i.zero,i.size,i.bytes))=U (U (UT #[(),(),(),(),V Y 0]),5,104):=Um
theorem sj{e:M}(h:W.ownsRow b0 e z v n xs){k:M}(f:k<xs.length):∃ g cap u,v=UO (U ⟨g,0,UB⟩) n cap/\W.cell? (g,k)=U u/\∀ o,W.frozen? ⟨g,o,UB⟩=UD:=by
 rcases h.2 with ⟨rfl,rfl⟩|⟨g,cap,q,rfl,_,j,_⟩
 .have:=h.1;rw[V6] at this;omega
 .exact⟨g,cap,xs[k],rfl,(xz g k) ▸ h.cells (g:=g) rfl k xs[k] (List.getElem?_eq_getElem f),fun o=>by simp[U2,j]⟩
theorem Pv{m:N}{k:M}(h:k<xs.length):(rp (ng m) k++xs.drop k).set k m=rp (ng m) (k+1)++xs.drop (k+1):=by
 have f:(rp (ng m) k).length=k:=by rw[qS];simp
 rw[ZK,Uy O,f,YX,Wh h,Cx,V8];rfl
def s9(w:UF)(B:M)(v0 v1:UG)(K:J M)(r1 r2 r3:UG)(l:UG)(n:M)(w':UF):Prop :=∃ K' j h f Y1 Y2 Y3,BK w' B v0 v1 K' j h f Y1 Y2 Y3/\Y1.length+Y2.length+Y3.length=n+1/\aH (l.ownBlock.toList++cQ B r1 r2 r3) w w'/\(∀ b∈K',b∈K\/l.ownBlock=U b\/w<=b)/\(∀ b∈cQ B j h f,b∈cQ B r1 r2 r3\/w<=b)
structure KS(pat:J UG)(e:UK)(w0 Z:UF)(l:UG)(n Q:M)(o:Obj):Prop where
 own:Z.ownsRow 0 e pat.length l n (rp pat n)
 hq:Z.heap[Q]?=U o
 lo:w0<=Q
 off:aH l.ownBlock.toList w0 Z
 lt:∀ b,l.ownBlock=U b->b<w0
theorem KS.put{e:UK}{l:UG}{cs:Array UG}{t:UK}(h:KS pat e w0 Z l n Q (UX cs t))(k:aH l.ownBlock.toList Z Z')(q:Z'.ownsRow 0 e pat.length l n (rp pat n))(i:M)(v:UG):KS pat e w0 (Z'.setCell (Q,i) v) l n Q (UX (cs.setIfInBounds i v) t):=by
 have f:Q ∉ l.ownBlock.toList:=fun e=>by have:=h.lt Q Uo;have:=h.lo;omega
 have j:aH [Q] Z' (Z'.setCell ⟨Q,i,UB⟩ v):=aH.bM ..;refine⟨dL q j (fun b r e=>f Uo),nw ((k.block Q (YC.1 h.hq).1 f).trans h.hq) v,h.lo,(h.off.trans k).setCell (.inr h.lo) _ _,h.lt⟩
theorem KS.at_{e:UK}{l:UG}{cs:Array UG}{t:UK}(h:KS pat e w0 Z l n Q (UX cs t))(k:aH l.ownBlock.toList Z Z'):Z'.heap[Q]?=U (UX cs t)/\∀ o,Z'.frozen? ⟨Q,o,UB⟩=UD:=by
 have f:Q ∉ l.ownBlock.toList:=fun e=>by have:=h.lt Q Uo;have:=h.lo;omega
 have e:=(k.block Q (YC.1 h.hq).1 f).trans h.hq;exact⟨e,fun o=>by simp[U2,e]⟩
structure KF(pat:J UG)(e:UK)(w0 Z:UF)(l:UG)(n Q:M)(o:Obj)(us:J (UG × M)):Prop where
 ks:KS pat e w0 Z l n Q o
 fs:∀ p∈us,Fu pat Z p.1 p.2/\∀ b,p.1.ownBlock=U b->b≠Q/\b<Z/\(l.ownBlock=U b\/w0<=b)
theorem KF.put{e:UK}{l:UG}{m g:M}{cs:Array UG}{t:UK}{C:J (UG × M)}(h:KF pat e w0 Z l n Q (UX cs t) C)(H:Z'.ownsRow 0 e pat.length (UO g (n+m) cap) (n+m) (rp pat (n+m)))(E:Z'.ownsRow 0 e pat.length l n (rp pat n))(S:∀ u j,j<=n+m->Fu pat Z u j->Fu pat Z' u j)(I:aH l.ownBlock.toList Z Z')(q:l.ownBlock=U g\/Z<=g)(R:∀ p∈C,p.2<=n+m)(i:M):KF pat e w0 (Z'.setCell (Q,i) (UO g (n+m) cap)) l n Q (UX (cs.setIfInBounds i (UO g (n+m) cap)) t) ((UO g (n+m) cap,n+m) :: C):=by
 have r:aH [Q] Z' (Z'.setCell (Q,i) (UO g (n+m) cap)):=aH.bM ..;have hQ:=(YC.1 h.ks.hq).1;have T:=h.ks.off.size;have A:g≠Q/\g<Z'/\(l.ownBlock=U g\/w0<=g):=by
  refine⟨?_,fT H Ur,q.imp id fun e=>by omega⟩;rcases q with e|e
  .have:=h.ks.lt g e;have:=h.ks.lo;omega
  .omega
 refine⟨h.ks.put I E i _,fun p y=>?_⟩;rcases Va.1 y with rfl|y
 .refine⟨(Fu.lD H).off r (fun b f e=>?_),fun b f=>?_⟩
  .simp[V9] at f e;exact A.1 (f.trans e)
  .simp[V9] at f;subst f;exact⟨A.1,VP A.2.1 r.size,A.2.2⟩
 .let⟨p1,p2⟩:=h.fs p y;exact⟨(S _ _ (R p y) p1).off r (fun b f e=>(p2 b f).1 Uo),fun b f=>⟨(p2 b f).1,VP (zL (p2 b f).2.1 I.size) r.size,(p2 b f).2.2⟩⟩
theorem BK.lt(h:BK w B v0 v1 K r1 r2 r3 X1 X2 X3):∀ b∈cQ B r1 r2 r3,b<w:=fun b f=>by
 simp only[cQ,Va,Vb,Wn] at f;rcases f with rfl|f|f|f
 .exact (YC.1 h.hb).1
 .exact fT h.br.b1.own f
 .exact fT h.br.b2.own f
 .exact fT h.br.b3.own f
theorem KF.blocks{e:UK}{l:UG}{m:N}(h:KF pat e wr Z3 l n Q o [(c,n+3),(b,n+2),(a,n+1),(l,n)]):∀ q∈iL (l,a,b,c,m),q<Z3/\(l.ownBlock=U q\/wr<=q):=fun q f=>by
 simp only[iL,Vb,Wn] at f;rcases f with f|f|f|f
 .exact ((h.fs (l,n) Ui).2 q f).2
 .exact ((h.fs (a,n+1) Ui).2 q f).2
 .exact ((h.fs (b,n+2) Ui).2 q f).2
 .exact ((h.fs (c,n+3) Ui).2 q f).2
theorem KF.k4{e:UK}{l:UG}{m:N}(f:KF (P m) e wr Z3 l n Q o [(c,n+3),(b,n+2),(a,n+1),(l,n)])(h:n<=900000):K4 P Z3 (l,a,b,c,m) :=⟨n,h,(f.fs (l,n) Ui).1,(f.fs (a,n+1) Ui).1,(f.fs (b,n+2) Ui).1,(f.fs (c,n+3) Ui).1⟩
theorem BK.kept{l j h f:UG}{m:N}{e:UK}{Y1 Y2 Y3:J KL}(I:KF pat e wr Z3 l n Q o [(c,n+3),(b,n+2),(a,n+1),(l,n)])(C:aH l.ownBlock.toList w Z3)(R:w<=wr.heap.size)(H:Y1.length+Y2.length+Y3.length=X1.length+X2.length+X3.length+1)(E:∀ q∈cQ B j h f,q∈cQ B r1 r2 r3\/Z3<=q) (A:BK w9 B v0 v1 (iL (l,a,b,c,m)++K) j h f Y1 Y2 Y3/\aH (cQ B r1 r2 r3) Z3 w9):s9 w B v0 v1 K r1 r2 r3 l (X1.length+X2.length+X3.length) w9:=by
 refine⟨_,j,h,f,Y1,Y2,Y3,A.1,H,(C.mono fun y t=>X6 _ t).trans (A.2.mono fun y t=>X7 _ t),fun q r=>?_,fun q r=>(E q r).imp id fun e=>by have:=C.size;omega⟩;rcases Vb.1 r with r|r
 .rcases (I.blocks q r).2 with e|e
  .exact .inr (.inl e)
  .exact .inr (.inr O)
 .exact .inl r
theorem BK.apart{l:UG}{m:N}{e:UK}(h:BK w B v0 v1 K r1 r2 r3 X1 X2 X3)(r:KF pat e wr Z3 l n Q o [(c,n+3),(b,n+2),(a,n+1),(l,n)])(y:w<=wr.heap.size)(f:∀ b,l.ownBlock=U b->b ∉ K/\b ∉ cQ B r1 r2 r3):∀ q∈iL (l,a,b,c,m),q<Z3/\q ∉ cQ B r1 r2 r3:=fun q j=>by
 refine⟨(r.blocks q j).1,fun e=>?_⟩;rcases (r.blocks q j).2 with t|t
 .exact (f q t).2 e
 .have:=h.lt q e;omega
theorem BK.xh{l:UG}{m:N}{e:UK}(h:BK w B v0 v1 K r1 r2 r3 X1 X2 X3)(H:BK Z3 B v0 v1 K r1 r2 r3 X1 X2 X3)(t:KF (ng m) e wr Z3 l n Q o [(c,n+3),(b,n+2),(a,n+1),(l,n)])(E:n<=900000)(I:aH l.ownBlock.toList w Z3)(y:w<=wr.heap.size)(r:∀ b,l.ownBlock=U b->b ∉ K/\b ∉ cQ B r1 r2 r3)(C:aH r1.ownBlock.toList Z3 w9) (A:w9.ownsRow 0 tI 5 r' (X1.length+1) (X1.flatMap gZ++gZ (l,a,b,c,m))) (j:vA Z3 r1 r'):s9 w B v0 v1 K r1 r2 r3 l (X1.length+X2.length+X3.length) (w9.setCell (B,2) r') :=
 BK.kept t I y Uo (fun q f=>by
  simp only[cQ,Va,Vb,Wn] at f ⊢;rcases f with rfl|f|f|f
  .exact .inl (.inl rfl)
  .exact (j q f).imp (fun e=>.inr (.inl e)) id
  .exact .inl (.inr (.inr (.inl f)))
  .exact .inl (.inr (.inr (.inr f)))) (H.Fe (t.k4 (P:=ng) E) (h.apart t y r) C A j)
theorem Su(h:BK w B v0 v1 K r1 r2 r3 X1 X2 X3)(h1:X1.length<=1000000000)(h2:X2.length<=1000000000)(h3:X3.length<=1000000000){l:UG}(hl:w.ownsRow 0 3 1 l n xs)(hn:n<=900000)(ae:∀ b,l.ownBlock=U b->b ∉ K/\b ∉ cQ B r1 r2 r3):UI prog 44 #[UM (U ⟨B,2,UB⟩),l] w fun e w'=>e=UW (US #[])/\s9 w B v0 v1 K r1 r2 r3 l (X1.length+X2.length+X3.length) w':=by
 obtain⟨i0,E,A,y,t⟩:=info_parts qC;obtain⟨j0,au,aq,ao,an⟩:=info_parts QK;obtain⟨a,j,rfl⟩:=iD hl;have HB:=aB h;have HL:=aB hl;have HK:=aB ae;have a8:=aB (fun b (f:(UO a n j).ownBlock=U b)=>fT hl f);have az:xs.length=n:=by have:=hl.1;omega
 clear h hl ae;go_in;go_upto_region 2 with (first|(go_at_call 76;refine aK (CU HB h1 h2 h3) fun w1 f=>?_;have H1:=aB f;clear f));generalize a3:zP X1 X2 X3=m;have ax:=aB (fG HL H1);go_loopw [5] (fun v wr=>∃ k:M,k<=n/\v=V Y k/\wr.ownsRow 0 3 1 (UO a n j) n (rp (ng m) k++xs.drop k)/\aH (UO a n j).ownBlock.toList w1 wr) (fun v _=>n-(intOf v).toNat)
 .exact⟨0,VM _,rfl,by simpa[Cy] using ax.out,aH.refl _ _⟩
 .obtain⟨k,hk,rfl,q,C⟩:=hrel;have HO:=aB (Vf q C)
  by_cases a4:k<n
  .have ad:(k:N)<(n:N):=O
   obtain⟨g,cap,u,e,c0,fz⟩:=sj q (k:=k) (by rw[VA,qS,ZQ];simp;omega);simp only[XS,true_and] at e;obtain⟨rfl,rfl⟩:=e;have f0:=fz k;clear q C;go_wp21;go_roundw
   .refine⟨k+1,O,by go_num,?_,HO.2.setCell (.inl Ur) _ _⟩;have:=qt HO.1 (b:=g) rfl k (V Y m);rw[Pv O] at this;exact this
   .simp[intOf];omega
  .have ad:¬ (k:N)<(n:N):=O
   have ar:k=n:=O;subst ar;have HR:Hid (wr.ownsRow 0 3 1 (UO a k j) k (rp (ng m) k)):=by have:=HO.1;rw[Wi O,Xu] at this;exact this
   clear q C;go_upto_region 6 with fail;change YD _ _ _ _ (wr.alloc (UX #[UO a k j,(),(),(),V Y m] tI));have S0:Hid (KS (ng m) 3 wr (wr.alloc (UX #[UO a k j,(),(),(),V Y m] tI)) (UO a k j) k wr (UX #[UO a k j,(),(),(),V Y m] tI)) :=⟨HR.alloc _,dH _ _,UY _,(aH.refl _ _).alloc _,fun b f=>fT HR f⟩
   have S:Hid (KF (ng m) 3 wr (wr.alloc (UX #[UO a k j,(),(),(),V Y m] tI)) (UO a k j) k wr (UX #[UO a k j,(),(),(),V Y m] tI) [(UO a k j,k)]) :=
    ⟨S0,fun p hp=>by rw[X9.1 hp];exact⟨Fu.lD S0.own,fun b f=>⟨by have:=S0.lt b f;omega,fT S0.own f,.inl f⟩⟩⟩
   clear S0;generalize wr.alloc (UX #[UO a k j,(),(),(),V Y m] tI)=Z0 at S ⊢;go_upto_region 7 with (first|(at_builtin;go_loud (refine si rfl _ _ 53 rfl (ng m) 8 underlying53 E A y t Uj rfl Ui Uq S.ks.own (m:=1) (cs:=#[V Y m]) (by simp[rp]) Uj Uj rfl rfl O (zN _) ?_);intro g6 c6 w6 o6 ac f6 k6 ak;have q6:=bN (S.ks.at_ k6).1 1 rfl;have z6:=(S.ks.at_ k6).2 1));have R:=aB (S.put o6 ac f6 k6 ak Ui 1);generalize w6.setCell (wr,1) (UO g6 (k+1) c6)=Z1 at R ⊢;clear o6 ac f6 k6 ak q6 z6 S;go_upto_region 8 with (first|(at_builtin;go_loud (refine si rfl _ _ 53 rfl (ng m) 8 underlying53 E A y t Uj rfl Ui Uq R.ks.own (m:=2) (cs:=#[V Y m,V Y m]) (by simp[rp]) Uj Uj rfl rfl O (zN _) ?_);intro g7 c7 w7 o7 ab f7 k7 aj;have q7:=bN (R.ks.at_ k7).1 2 rfl;have z7:=(R.ks.at_ k7).2 2));have I:=aB (R.put o7 ab f7 k7 aj Ui 2);generalize w7.setCell (wr,2) (UO g7 (k+2) c7)=Z2 at I ⊢;clear o7 ab f7 k7 aj q7 z7 R;go_upto_region 9 with (first|(at_builtin;go_loud (refine si rfl _ _ 53 rfl (ng m) 8 underlying53 E A y t Uj rfl Ui Uq I.ks.own (m:=3) (cs:=#[V Y m,V Y m,V Y m]) (by simp[rp]) Uj Uj rfl rfl O (zN _) ?_);intro g8 c8 w8 o8 aa f8 k8 ai;have q8:=bN (I.ks.at_ k8).1 3 rfl;have z8:=(I.ks.at_ k8).2 3));have r:=aB (I.put o8 aa f8 k8 ai Ui 3);generalize w8.setCell (wr,3) (UO g8 (k+3) c8)=Z3 at r ⊢;clear o8 aa f8 k8 ai q8 z8 I;have R3:aH (UO a k j).ownBlock.toList w Z3:=(aH.aD H1).trans (HO.2.trans r.ks.off);have al:=aB (fun b (f:b∈(UO a k j).ownBlock.toList)=>HK b (by simpa using f));have T:=aB (HB.off R3 (fun b f e=>(al b e).2 f) (fun b f e=>(al b e).1 f));have aw:=aB R3;obtain⟨_,_,d2,_,_,ag⟩:=T.cells;obtain⟨⟨ra,rc,er⟩,_,_⟩:=T.mN;subst er;have fB:=ag 2;have s0:=bN r.ks.hq 0 rfl;have s1:=bN r.ks.hq 1 rfl;have s2:=bN r.ks.hq 2 rfl;have s3:=bN r.ks.hq 3 rfl;have s4:=bN r.ks.hq 4 rfl;have a7:∀ o,(Z3.alloc o).cell? (B,2)=U (UO ra X1.length rc):=fun o=>aT ((zr _ Z3).alloc aJ o) d2;have DD:=aB (fun o=>fG T.br.b1.own (((zr _ Z3).alloc aJ o).drew));have af:(UO ra X1.length rc).ownBlock≠U B:=ki T.br.b1.own T.hb Uj;clear R3 ag;go_region_law (first
    |(refine step_append_lies _ rfl _ _ 28 rfl 0 tI j0 _ 5 104 underlying28 au aq ao an rfl Uj (UO ra X1.length rc) X1.length (X1.flatMap gZ) rfl (DD.out _) ⟨Z3.heap.size,0,UB⟩ 1 1 (gZ (UO a k j,UO (U ⟨g6,0,UB⟩) (k+1) c6,UO (U ⟨g7,0,UB⟩) (k+2) c7,UO (U ⟨g8,0,UB⟩) (k+3) c8,m)) rfl rfl (Wf (cs:=(gZ (UO a k j,UO (U ⟨g6,0,UB⟩) (k+1) c6,UO (U ⟨g7,0,UB⟩) (k+2) c7,UO (U ⟨g8,0,UB⟩) (k+3) c8,m)).toArray) (dH Z3 _)) (by simp[gZ,Wg]) O Up O (zN _) (Z3.heap.size+1) Ui ?_;intro g9 c9 w9 o9 H av ay;have k9:aH ((UO ra X1.length rc).ownBlock.toList) Z3 w9:=aH.grown (((aH.refl _ Z3).alloc _).drew) H (fun k hk=>.inl (by simp[hk]));have d9:=k9.cell (fun e=>af (by simpa using e)) d2;have f9:=(k9.frozen (fun e=>af (by simpa using e)) (U1 _ _ d2)).trans fB))
   all_goals
    go_wp21;(try simp only[V7,Exit.then]);refine bodyPost_end (results_none rfl _ _ _) rfl ?_;refine⟨rfl,HB.xh T r hn aw (U0 H1.size HO.2.size) HK k9 o9 (fun b f=>by simp[V9] at f;subst f;exact av.imp id (fun e=>by omega))⟩
def uu(n:N):Us:=if n=1 then ⟨#[100,97,105,108,121]⟩ else if n=2 then ⟨#[119,101,101,107,108,121]⟩ else ⟨#[109,111,110,116,104,108,121]⟩
def sP(r:Rd.cP):Array UG:=#[uu r.pc,V Y r.ev,aI r.acc 0,aI r.acc 1,aI r.acc 2,aI r.acc 3,aI r.acc 4,aI r.acc 5,aI r.acc 6,V Y r.fr,r.mn,r.mi,r.ti,r.un]
def pt(r:Rd.cP):UG:=.agg (sP r)
theorem NY(x n:N):(x.tmod n==0)=decide (x % n=0):=by rw[Wy,beq_iff_eq,decide_eq_true_eq,<- Int.dvd_iff_tmod_eq_zero,Int.dvd_iff_emod_eq_zero]
def jP(r:Rd.cP):Obj:=UX (sP r) 127
theorem pZ{r:Rd.cP}(h:W.heap[Q]?=U (jP r)):(W.cell? (Q,0)=U (UQ (uu r.pc))/\W.cell? (Q,1)=U (V Y r.ev)/\W.cell? (Q,9)=U (V Y r.fr)/\W.cell? (Q,10)=U ↑r.mn/\W.cell? (Q,11)=U ↑r.mi/\W.cell? (Q,12)=U ↑r.ti/\W.cell? (Q,13)=U ↑r.un)/\∀ j,j<7->W.cell? ⟨Q,2+j,UB⟩=U (.bool (aI r.acc j)):=by refine⟨⟨bN h 0 rfl,bN h 1 rfl,bN h 9 rfl,bN h 10 rfl,bN h 11 rfl,bN h 12 rfl,bN h 13 rfl⟩,fun j f=>?_⟩;rcases (show j=0\/j=1\/j=2\/j=3\/j=4\/j=5\/j=6 by omega) with rfl|rfl|rfl|rfl|rfl|rfl|rfl;all_goals exact bN h _ rfl
theorem OG(r:Rd.cP)(t:Rd.hH r)(d:N)(h0:r.fr<=d)(R:d<728)(w:UF):UI prog 126 #[pt r,d] w fun e w'=>e=UW (Rd.has r d)/\UH w w w':=by
 have S:=t.f0;have e1:=t.e1;have e2:=t.e2;have f1:=t.f1;have hz:(r.ev==0)=UD:=by rw[beq_eq_false_iff_ne];omega
 have y:=aB (Vf ((zr _ w).alloc (zq _) (jP r)) (dH w (jP r)));have E:r.pc=1\/r.pc=2\/r.pc=3:=by have:=t.Gv;have:=t.Gu;omega
 have h:∀ x:N,0<=x->0<=x % r.ev/\x % r.ev<100:=fun x _=>⟨Int.emod_nonneg _ O,Int.lt_of_lt_of_le (Int.emod_lt_of_pos _ O) O⟩;rcases E with f|f|f
 .have e:Rd.has r d=((d-r.fr) % r.ev==0):=by unfold Rd.has;rw[Uz f];rfl
  have w1:Y.wrap (d-r.fr)=d-r.fr:=dJ O O;have C:=h (d-r.fr) O;have w2:Y.wrap ((d-r.fr) % r.ev)=(d-r.fr) % r.ev:=dJ O O;rw[e];have HP:Hid (uu r.pc=⟨#[100,97,105,108,121]⟩):=by rw[Hid,f];rfl
  clear f;simp only[pt,sP];go_in;go_upto_region 1 with fail;change YD _ _ _ _ (w.alloc (jP r));obtain⟨⟨A,c1,c9,_⟩,_⟩:=pZ y.2;rw[HP] at A;generalize w.alloc (jP r)=W at *;clear C e h;go_wp2;go_ret;exact⟨rfl,y.1⟩
 .obtain⟨j,I⟩:∃ j:M,d % 7=j:=⟨(d % 7).toNat,O⟩;have H:j<7:=O
  obtain⟨bj,q⟩:∃ b,aI r.acc j=b:=⟨_,rfl⟩;have e:Rd.has r d=(bj && ((d / 7-r.fr / 7) % r.ev==0)):=by unfold Rd.has;rw[Uy O,Uz f,I,q];rfl
  have q1:d.tmod 7=j:=by rw[Int.tmod_eq_emod_of_nonneg O];exact I
  have q2:d.tdiv 7=d / 7:=ZR O;have q3:r.fr.tdiv 7=r.fr / 7:=ZR S;have w0:Y.wrap (j:N)=j:=dJ O O;have w1:Y.wrap (d / 7)=d / 7:=dJ O O;have w2:Y.wrap (r.fr / 7)=r.fr / 7:=dJ O O;have w3:Y.wrap (d / 7-r.fr / 7)=d / 7-r.fr / 7:=dJ O O;have C:=h (d / 7-r.fr / 7) O;have w4:Y.wrap ((d / 7-r.fr / 7) % r.ev)=(d / 7-r.fr / 7) % r.ev:=dJ O O;have ab:¬ (j:N)<0:=O;have aa:(j:N)<7:=O;have HP:Hid (uu r.pc=⟨#[119,101,101,107,108,121]⟩):=by rw[Hid,f];rfl
  clear f C h I;simp only[pt,sP]
  cases bj;all_goals simp only[ZS,Ys] at e;rw[e];go_in;go_upto_region 1 with fail;change YD _ _ _ _ (w.alloc (jP r));obtain⟨⟨A,c1,c9,_⟩,T⟩:=pZ y.2;rw[HP] at A;have cj:=T j H;clear T;rw[q] at cj;generalize w.alloc (jP r)=W at *;clear e q;go_wp2;go_ret;exact⟨rfl,y.1⟩
 .obtain⟨_,_,y1,y2⟩:=Rd.sB (x:=d) O R;obtain⟨_,_,z1,z2⟩:=Rd.sB S f1
  have e:Rd.has r d=((Cal.dT r.fr==Cal.dT d) && ((12*Cal.yT d+Cal.mT d-12*Cal.yT r.fr-Cal.mT r.fr).tmod r.ev==0)):=by rw[NY];unfold Rd.has;rw[Uy O,Uy O];congr 1;rw[Wy,decide_eq_true_eq,beq_iff_eq];exact eq_comm
  have D1:=aB (fun W=>Cp r.fr W O O);have D2:=aB (fun W=>Cp d W O O);rw[e];clear e;obtain⟨m1,m2⟩:1<=Cal.mT d/\Cal.mT d<=12:=by have:=(Cal.vQ d O O).1;exact⟨((Cal.jx _ _ _).1 this).2.2.1,((Cal.jx _ _ _).1 this).2.2.2.1⟩
  obtain⟨m3,m4⟩:1<=Cal.mT r.fr/\Cal.mT r.fr<=12:=by have:=(Cal.vQ r.fr O O).1;exact⟨((Cal.jx _ _ _).1 this).2.2.1,((Cal.jx _ _ _).1 this).2.2.2.1⟩
  generalize Cal.yT d=yd at *;generalize Cal.mT d=md at *;generalize Cal.dT d=dd at *;generalize Cal.yT r.fr=yf at *;generalize Cal.mT r.fr=mf at *;generalize Cal.dT r.fr=df at *;have w1:Y.wrap (12*yd)=12*yd:=dJ O O;have w2:Y.wrap (12*yd+md)=12*yd+md:=dJ O O;have w3:Y.wrap (12*yf)=12*yf:=dJ O O;have w4:Y.wrap (12*yd+md-12*yf)=12*yd+md-12*yf:=dJ O O;have w5:Y.wrap (12*yd+md-12*yf-mf)=12*yd+md-12*yf-mf:=dJ O O;have w6:Y.wrap ((12*yd+md-12*yf-mf).tmod r.ev)=(12*yd+md-12*yf-mf).tmod r.ev:=by have R:=Int.tmod_lt_of_pos (12*yd+md-12*yf-mf) (show 0<r.ev by omega);have h2:=Int.lt_tmod_of_pos (12*yd+md-12*yf-mf) (show 0<r.ev by omega);exact dJ O O
  generalize hx:12*yd+md-12*yf-mf=x at *;have HP:Hid (uu r.pc=⟨#[109,111,110,116,104,108,121]⟩):=by rw[Hid,f];rfl
  clear f;simp only[pt,sP]
  cases hd:df==dd;all_goals simp only[ZS,Ys];go_in;go_upto_region 1 with fail;change YD _ _ _ _ (w.alloc (jP r));obtain⟨⟨A,c1,c9,_⟩,_⟩:=pZ y.2;rw[HP] at A;generalize w.alloc (jP r)=W at *;go_upto_region 7 with (first|(go_at_call 21;refine (D1 _).mono ?_;rintro e w1 ⟨rfl,rfl⟩));go_upto_region 8 with (first|(go_at_call 21;refine (D2 _).mono ?_;rintro e w1 ⟨rfl,rfl⟩));go_wp2;go_ret;exact⟨rfl,y.out.1⟩
def mK(ws:M->Us)(i k:M)(pc:N)(acc:J N)(tm:Bool):Rd.cP:=⟨pc,cB (ws (i+1)) 1 7,acc,gK (ws (k+1)),jL (ws (k+3)),cB (ws (k+5)) 1 7,if tm then cB (ws (k+7)) 1 7 else 0,if tm then 0 else gK (ws (k+7))⟩
structure uo(ws:M->Us)(i k:M)(pc:N)(acc:J N)(tm:Bool):Prop where
 hp:ws i=uu pc
 h3:pc=1\/pc=2\/pc=3
 hk:(pc=2/\k=i+2+1/\Txt.fC (ws (i+2))=UE/\Txt.jf (ws (i+2))=U acc)\/(pc≠2/\k=i+2/\acc=[])
 ht:((ws (k+6)).toList==[116,105,109,101,115])=tm
inductive mb (ws:Ut Us):Ut Us->aA.jb->Prop where
 |bH:mb ws [ix,bF,bW] (.bH (ws.getD 1 Ym) (cB (ws.getD 2 Ym) 1 7))
 |book:mb ws [iO,bF,bW,aU,aU] (.enter 1 (ws.getD 1 Ym) (cB (ws.getD 2 Ym) 1 7) (eJ (ws.getD 3 Ym)) (eJ (ws.getD 4 Ym)) 0)
 |hold:mb ws [iE,bF,bW,aU,aU,cD] (.enter 2 (ws.getD 1 Ym) (cB (ws.getD 2 Ym) 1 7) (eJ (ws.getD 3 Ym)) (eJ (ws.getD 4 Ym)) (cB (ws.getD 5 Ym) 1 7))
 |wait:mb ws [iF,bF,bW,aU,aU,cD] (.enter 3 (ws.getD 1 Ym) (cB (ws.getD 2 Ym) 1 7) (eJ (ws.getD 3 Ym)) (eJ (ws.getD 4 Ym)) (cB (ws.getD 5 Ym) 1 7))
 |bL:mb ws [iU,gT] (.bL (cB (ws.getD 1 Ym) 1 7))
 |cancel:mb ws [iR,gT] (.cancel (cB (ws.getD 1 Ym) 1 7))
 |list0:mb ws [dC,bF] (.list (ws.getD 1 Ym) 0 1048320)
 |list1:mb ws [dC,bF,aU,aU] (.list (ws.getD 1 Ym) (eJ (ws.getD 2 Ym)) (eJ (ws.getD 3 Ym)))
 |ef:mb ws [iu,bF,aU,aU] (.ef (ws.getD 1 Ym) (eJ (ws.getD 2 Ym)) (eJ (ws.getD 3 Ym)))
 |find:mb ws [ir,bF,bW,cD,aU,aU] (.find (ws.getD 1 Ym) (cB (ws.getD 2 Ym) 1 7) (cB (ws.getD 3 Ym) 1 7) (eJ (ws.getD 4 Ym)) (eJ (ws.getD 5 Ym)))
 |tick:mb ws [ja,cD] (.tick (cB (ws.getD 1 Ym) 1 7))
 |waiting:mb ws [iT] .waiting
 |clock:mb ws [iN] .clock
 |series {K E:Ut Us}{k:Uw}{pc:Ux}{acc:Ut Ux}{tm:Bool}(hr:uo (ws.getD · Ym) 3 k pc acc tm) (hn:k+7<(lf++K++cW++E).length):mb ws (lf++K++cW++E) (.series (ws.getD 1 Ym) (cB (ws.getD 2 Ym) 1 7) (mK (ws.getD · Ym) 3 k pc acc tm))
 |expand {K E:Ut Us}{k:Uw}{pc:Ux}{acc:Ut Ux}{tm:Bool}(hr:uo (ws.getD · Ym) 1 k pc acc tm) (hn:k+7<(og++K++cW++E).length):mb ws (og++K++cW++E) (.expand (mK (ws.getD · Ym) 1 k pc acc tm))
def nf(s:Us)(v:UG)(st:M × Bool):Prop:=lh s st/\(st.2=UD->dN (Txt.aC s).length st.1 st.2=UD->∃ q l,Full s q/\mb (Txt.aC s) q l/\LV v l/\aA.ke l)
theorem pE(h:bB x=UE):eJ x=cL x:=by unfold eJ cL;rw[Uz h,Uz h]
theorem vy(h:cF x=UE):cB x 1 7=bD x:=rZ (uA h).1
theorem xv(h:dM x=UE):cB x 1 7=bD x:=rZ (uA h).1
theorem qn{k:Us}{q:J Us}(h:bP (Txt.aC s) 0 UD k=UE)(j:fV.filter (gk k)=[q])(f:aP (Txt.aC s) (q.map bG) (0,UD)=st):lh s st/\(st.2=UD->dN (Txt.aC s).length st.1 st.2=UD->Full s q) :=⟨lZ h j (jJ f),lj h j (jJ f) f⟩
theorem sb{f:Us}{R:J Us}(j:Full s (f :: bF :: R)):((Txt.aC s).getD 1 Ym).size<=1000:=by have h:=fw [] j.all;rw[dQ] at h;exact a4o h
theorem Rn(h:bP (Txt.aC s) 0 UD ix=UE):nf s (UU 143 (UT #[gW (Txt.aC s) (1,UD),V Y (bV (Txt.aC s) (aP (Txt.aC s) [bJ] (1,UD)) cF bD)])) (aP (Txt.aC s) [bJ,cF] (1,UD)):=by have t:fl ix=UE:=Ul;have K:=qn (q:=[ix,bF,bW]) h Ul (by rw[<- fp h t]);simp only[ZA,dQ,fo] at K;refine⟨K.1,fun y r=>⟨_,_,K.2 y r,.bH,?_⟩⟩;have f:=K.2 y r;have v1:=fF (Q:=[bF]) (s:=bW) (R:=[]) h t f.all bD;have j:=fw [bF] (s:=bW) (R:=[]) f.all;simp only[ZA,VD,dQ,fo] at v1 j;rw[lY f.all,v1,vy j];exact⟨.bH _ (sb f) _,qz j⟩
theorem Qx(h:bP (Txt.aC s) 0 UD iO=UE):nf s (UU 148 (UT #[gW (Txt.aC s) (1,UD),V Y (bV (Txt.aC s) (aP (Txt.aC s) [bJ] (1,UD)) cF bD),V Y (bV (Txt.aC s) (aP (Txt.aC s) [bJ,cF] (1,UD)) bB cL),V Y (bV (Txt.aC s) (aP (Txt.aC s) [bJ,cF,bB] (1,UD)) bB cL)])) (aP (Txt.aC s) [bJ,cF,bB,bB] (1,UD)):=by have j:fl iO=UE:=Ul;have K:=qn (q:=[iO,bF,bW,aU,aU]) h Ul (by rw[<- fp h j]);simp only[ZA,dQ,fo,fM] at K;refine⟨K.1,fun E C=>⟨_,_,K.2 E C,.book,?_⟩⟩;have f:=K.2 E C;have v1:=fF (Q:=[bF]) (s:=bW) (R:=[aU,aU]) h j f.all bD;have y:=fw [bF] (s:=bW) (R:=[aU,aU]) f.all;simp only[ZA,VD,dQ,fo] at v1 y;have v2:=fF (Q:=[bF,bW]) (s:=aU) (R:=[aU]) h j f.all cL;have t:=fw [bF,bW] (s:=aU) (R:=[aU]) f.all;simp only[ZA,VD,dQ,fo,fM] at v2 t;have A:=fF (Q:=[bF,bW,aU]) (s:=aU) (R:=[]) h j f.all cL;have r:=fw [bF,bW,aU] (s:=aU) (R:=[]) f.all;simp only[ZA,VD,dQ,fo,fM] at A r;rw[lY f.all,v1,v2,A,vy y,pE t,pE r];exact⟨.book _ (sb f) _ _ _,⟨.inl ⟨rfl,rfl⟩,(qz y).1,(qz y).2,(jN t).1,(jN t).2,(jN r).1,(jN r).2⟩⟩
theorem Og(h:bP (Txt.aC s) 0 UD iE=UE):nf s (UU 150 (UT #[gW (Txt.aC s) (1,UD),V Y (bV (Txt.aC s) (aP (Txt.aC s) [bJ] (1,UD)) cF bD),V Y (bV (Txt.aC s) (aP (Txt.aC s) [bJ,cF] (1,UD)) bB cL),V Y (bV (Txt.aC s) (aP (Txt.aC s) [bJ,cF,bB] (1,UD)) bB cL),V Y (bV (Txt.aC s) (aP (Txt.aC s) [bJ,cF,bB,bB] (1,UD)) dM bD)])) (aP (Txt.aC s) [bJ,cF,bB,bB,dM] (1,UD)):=by have j:fl iE=UE:=Ul;have K:=qn (q:=[iE,bF,bW,aU,aU,cD]) h Ul (by rw[<- fp h j]);simp only[ZA,dQ,fo,fM,jt] at K;refine⟨K.1,fun I H=>⟨_,_,K.2 I H,.hold,?_⟩⟩;have f:=K.2 I H;have v1:=fF (Q:=[bF]) (s:=bW) (R:=[aU,aU,cD]) h j f.all bD;have y:=fw [bF] (s:=bW) (R:=[aU,aU,cD]) f.all;simp only[ZA,VD,dQ,fo] at v1 y;have v2:=fF (Q:=[bF,bW]) (s:=aU) (R:=[aU,cD]) h j f.all cL;have t:=fw [bF,bW] (s:=aU) (R:=[aU,cD]) f.all;simp only[ZA,VD,dQ,fo,fM] at v2 t;have E:=fF (Q:=[bF,bW,aU]) (s:=aU) (R:=[cD]) h j f.all cL;have r:=fw [bF,bW,aU] (s:=aU) (R:=[cD]) f.all;simp only[ZA,VD,dQ,fo,fM] at E r;have C:=fF (Q:=[bF,bW,aU,aU]) (s:=cD) (R:=[]) h j f.all bD;have A:=fw [bF,bW,aU,aU] (s:=cD) (R:=[]) f.all;simp only[ZA,VD,dQ,fo,fM,jt] at C A;rw[lY f.all,v1,v2,E,C,vy y,pE t,pE r,xv A];exact⟨.hold _ (sb f) _ _ _ _,⟨.inr ⟨.inl rfl,vT A⟩,(qz y).1,(qz y).2,(jN t).1,(jN t).2,(jN r).1,(jN r).2⟩⟩
theorem Oa(h:bP (Txt.aC s) 0 UD iF=UE):nf s (UU 151 (UT #[gW (Txt.aC s) (1,UD),V Y (bV (Txt.aC s) (aP (Txt.aC s) [bJ] (1,UD)) cF bD),V Y (bV (Txt.aC s) (aP (Txt.aC s) [bJ,cF] (1,UD)) bB cL),V Y (bV (Txt.aC s) (aP (Txt.aC s) [bJ,cF,bB] (1,UD)) bB cL),V Y (bV (Txt.aC s) (aP (Txt.aC s) [bJ,cF,bB,bB] (1,UD)) dM bD)])) (aP (Txt.aC s) [bJ,cF,bB,bB,dM] (1,UD)):=by have j:fl iF=UE:=Ul;have K:=qn (q:=[iF,bF,bW,aU,aU,cD]) h Ul (by rw[<- fp h j]);simp only[ZA,dQ,fo,fM,jt] at K;refine⟨K.1,fun I H=>⟨_,_,K.2 I H,.wait,?_⟩⟩;have f:=K.2 I H;have v1:=fF (Q:=[bF]) (s:=bW) (R:=[aU,aU,cD]) h j f.all bD;have y:=fw [bF] (s:=bW) (R:=[aU,aU,cD]) f.all;simp only[ZA,VD,dQ,fo] at v1 y;have v2:=fF (Q:=[bF,bW]) (s:=aU) (R:=[aU,cD]) h j f.all cL;have t:=fw [bF,bW] (s:=aU) (R:=[aU,cD]) f.all;simp only[ZA,VD,dQ,fo,fM] at v2 t;have E:=fF (Q:=[bF,bW,aU]) (s:=aU) (R:=[cD]) h j f.all cL;have r:=fw [bF,bW,aU] (s:=aU) (R:=[cD]) f.all;simp only[ZA,VD,dQ,fo,fM] at E r;have C:=fF (Q:=[bF,bW,aU,aU]) (s:=cD) (R:=[]) h j f.all bD;have A:=fw [bF,bW,aU,aU] (s:=cD) (R:=[]) f.all;simp only[ZA,VD,dQ,fo,fM,jt] at C A;rw[lY f.all,v1,v2,E,C,vy y,pE t,pE r,xv A];exact⟨.wait _ (sb f) _ _ _ _,⟨.inr ⟨.inr rfl,vT A⟩,(qz y).1,(qz y).2,(jN t).1,(jN t).2,(jN r).1,(jN r).2⟩⟩
theorem PH(h:bP (Txt.aC s) 0 UD iU=UE):nf s (UU 160 (UT #[V Y (bV (Txt.aC s) (1,UD) jQ bD)])) (aP (Txt.aC s) [jQ] (1,UD)):=by have j:fl iU=UE:=Ul;have K:=qn (q:=[iU,gT]) h Ul (by rw[<- fp h j]);simp only[ZA,qP] at K;refine⟨K.1,fun t f=>⟨_,_,K.2 t f,.bL,?_⟩⟩;have r:=K.2 t f;have v0:=fF (Q:=[]) (s:=gT) (R:=[]) h j r.all bD;have y:=fw [] (s:=gT) (R:=[]) r.all;simp only[ZA,VD,wC,qP] at v0 y;rw[v0,rZ y];exact⟨.bL _,Ji _⟩
theorem Ru(h:bP (Txt.aC s) 0 UD iR=UE):nf s (UU 161 (UT #[V Y (bV (Txt.aC s) (1,UD) jQ bD)])) (aP (Txt.aC s) [jQ] (1,UD)):=by have j:fl iR=UE:=Ul;have K:=qn (q:=[iR,gT]) h Ul (by rw[<- fp h j]);simp only[ZA,qP] at K;refine⟨K.1,fun t f=>⟨_,_,K.2 t f,.cancel,?_⟩⟩;have r:=K.2 t f;have v0:=fF (Q:=[]) (s:=gT) (R:=[]) h j r.all bD;have y:=fw [] (s:=gT) (R:=[]) r.all;simp only[ZA,VD,wC,qP] at v0 y;rw[v0,rZ y];exact⟨.cancel _,Ji _⟩
theorem QA(h:bP (Txt.aC s) 0 UD iu=UE):nf s (UU 169 (UT #[gW (Txt.aC s) (1,UD),V Y (bV (Txt.aC s) (aP (Txt.aC s) [bJ] (1,UD)) bB cL),V Y (bV (Txt.aC s) (aP (Txt.aC s) [bJ,bB] (1,UD)) bB cL)])) (aP (Txt.aC s) [bJ,bB,bB] (1,UD)):=by have t:fl iu=UE:=Ul;have K:=qn (q:=[iu,bF,aU,aU]) h Ul (by rw[<- fp h t]);simp only[ZA,dQ,fM] at K;refine⟨K.1,fun A y=>⟨_,_,K.2 A y,.ef,?_⟩⟩;have f:=K.2 A y;have v1:=fF (Q:=[bF]) (s:=aU) (R:=[aU]) h t f.all cL;have r:=fw [bF] (s:=aU) (R:=[aU]) f.all;simp only[ZA,VD,dQ,fM] at v1 r;have v2:=fF (Q:=[bF,aU]) (s:=aU) (R:=[]) h t f.all cL;have j:=fw [bF,aU] (s:=aU) (R:=[]) f.all;simp only[ZA,VD,dQ,fM] at v2 j;rw[lY f.all,v1,v2,pE r,pE j];exact⟨.ef _ (sb f) _ _,⟨(jN r).1,(jN r).2,(jN j).1,(jN j).2⟩⟩
theorem Qq(h:bP (Txt.aC s) 0 UD ir=UE):nf s (UU 171 (UT #[gW (Txt.aC s) (1,UD),V Y (bV (Txt.aC s) (aP (Txt.aC s) [bJ] (1,UD)) cF bD),V Y (bV (Txt.aC s) (aP (Txt.aC s) [bJ,cF] (1,UD)) dM bD),V Y (bV (Txt.aC s) (aP (Txt.aC s) [bJ,cF,dM] (1,UD)) bB cL),V Y (bV (Txt.aC s) (aP (Txt.aC s) [bJ,cF,dM,bB] (1,UD)) bB cL)])) (aP (Txt.aC s) [bJ,cF,dM,bB,bB] (1,UD)):=by have j:fl ir=UE:=Ul;have K:=qn (q:=[ir,bF,bW,cD,aU,aU]) h Ul (by rw[<- fp h j]);simp only[ZA,dQ,fo,jt,fM] at K;refine⟨K.1,fun I H=>⟨_,_,K.2 I H,.find,?_⟩⟩;have f:=K.2 I H;have v1:=fF (Q:=[bF]) (s:=bW) (R:=[cD,aU,aU]) h j f.all bD;have A:=fw [bF] (s:=bW) (R:=[cD,aU,aU]) f.all;simp only[ZA,VD,dQ,fo] at v1 A;have v2:=fF (Q:=[bF,bW]) (s:=cD) (R:=[aU,aU]) h j f.all bD;have y:=fw [bF,bW] (s:=cD) (R:=[aU,aU]) f.all;simp only[ZA,VD,dQ,fo,jt] at v2 y;have E:=fF (Q:=[bF,bW,cD]) (s:=aU) (R:=[aU]) h j f.all cL;have t:=fw [bF,bW,cD] (s:=aU) (R:=[aU]) f.all;simp only[ZA,VD,dQ,fo,jt,fM] at E t;have C:=fF (Q:=[bF,bW,cD,aU]) (s:=aU) (R:=[]) h j f.all cL;have r:=fw [bF,bW,cD,aU] (s:=aU) (R:=[]) f.all;simp only[ZA,VD,dQ,fo,jt,fM] at C r;rw[lY f.all,v1,v2,E,C,vy A,xv y,pE t,pE r];exact⟨.find _ (sb f) _ _ _ _,⟨(qz A).1,(qz A).2,(vT y).1,(vT y).2,(jN t).1,(jN t).2,(jN r).1,(jN r).2⟩⟩
theorem Ol(h:bP (Txt.aC s) 0 UD ja=UE):nf s (UU 175 (UT #[V Y (bV (Txt.aC s) (1,UD) dM bD)])) (aP (Txt.aC s) [dM] (1,UD)):=by have r:fl ja=UE:=Ul;have K:=qn (q:=[ja,cD]) h Ul (by rw[<- fp h r]);simp only[ZA,jt] at K;refine⟨K.1,fun y j=>⟨_,_,K.2 y j,.tick,?_⟩⟩;have t:=K.2 y j;have v0:=fF (Q:=[]) (s:=cD) (R:=[]) h r t.all bD;have f:=fw [] (s:=cD) (R:=[]) t.all;simp only[ZA,VD,wC,jt] at v0 f;rw[v0,xv f];exact⟨.tick _,vT f⟩
theorem PE(h:bP (Txt.aC s) 0 UD iT=UE):nf s (UU 166 (UT #[])) (1,UD):=by have j:fl iT=UE:=Ul;have K:=qn (q:=[iT]) h Ul (by rw[<- fp h j]);refine⟨K.1,fun r f=>⟨_,_,K.2 r f,.waiting,?_⟩⟩;exact⟨.waiting,trivial⟩
theorem QS(h:bP (Txt.aC s) 0 UD iN=UE):nf s (UU 176 (UT #[])) (1,UD):=by have j:fl iN=UE:=Ul;have K:=qn (q:=[iN]) h Ul (by rw[<- fp h j]);refine⟨K.1,fun r f=>⟨_,_,K.2 r f,.clock,?_⟩⟩;exact⟨.clock,trivial⟩
theorem Q6(h:bP (Txt.aC s) 0 UD dC=UE)(C:dN (Txt.aC s).length (aP (Txt.aC s) [bJ] (1,UD)).1 (aP (Txt.aC s) [bJ] (1,UD)).2=UD):nf s (UU 163 (UT #[gW (Txt.aC s) (1,UD),UD,V Y 0,V Y 0])) (aP (Txt.aC s) [bJ] (1,UD)):=by
 have E:fl dC=UE:=Ul;have q:fV.filter (gk dC)=[[dC,bF],[dC,bF,aU,aU]]:=Ul;have f:aP (Txt.aC s) ([dC,bF].map bG) (0,UD)=aP (Txt.aC s) [bJ] (1,UD):=by rw[<- fp h E];simp only[ZA,dQ]
 have r:=Cm f C;have A:=f;have K:lh s _/\(_->_->Full s _):=⟨lZ h q r,lj h q r A⟩;refine⟨K.1,fun y j=>⟨_,_,K.2 y j,.list0,?_⟩⟩;have t:=K.2 y j;rw[lY t.all];exact⟨.list _ (sb t) UD 0 0 0 1048320 rfl rfl,⟨O,O,O,O⟩⟩
theorem Q8(h:bP (Txt.aC s) 0 UD dC=UE)(I:dN (Txt.aC s).length (aP (Txt.aC s) [bJ] (1,UD)).1 (aP (Txt.aC s) [bJ] (1,UD)).2=UE):nf s (UU 163 (UT #[gW (Txt.aC s) (1,UD),UE,V Y (bV (Txt.aC s) (aP (Txt.aC s) [bJ] (1,UD)) bB cL),V Y (bV (Txt.aC s) (aP (Txt.aC s) [bJ,bB] (1,UD)) bB cL)])) (aP (Txt.aC s) [bJ,bB,bB] (1,UD)):=by
 have j:fl dC=UE:=Ul;have C:fV.filter (gk dC)=[[dC,bF],[dC,bF,aU,aU]]:=Ul;have t:aP (Txt.aC s) ([dC,bF].map bG) (0,UD)=aP (Txt.aC s) [bJ] (1,UD):=by rw[<- fp h j];simp only[ZA,dQ]
 have y:aP (Txt.aC s) ([dC,bF,aU,aU].map bG) (0,UD)=aP (Txt.aC s) [bJ,bB,bB] (1,UD):=by rw[<- fp h j];simp only[ZA,dQ,fM]
 have E:=Cn t I y;have K:lh s _/\(_->_->Full s _):=⟨lZ h C E,lj h C E y⟩;refine⟨K.1,fun H A=>⟨_,_,K.2 H A,.list1,?_⟩⟩;have f:=K.2 H A;have v1:=fF (Q:=[bF]) (s:=aU) (R:=[aU]) h j f.all cL;have r:=fw [bF] (s:=aU) (R:=[aU]) f.all;simp only[ZA,VD,dQ,fM] at v1 r;have v2:=fF (Q:=[bF,aU]) (s:=aU) (R:=[]) h j f.all cL;have q:=fw [bF,aU] (s:=aU) (R:=[]) f.all;simp only[ZA,VD,dQ,fM] at v2 q;rw[lY f.all,v1,v2,pE r,pE q];exact⟨.list _ (sb f) UE _ _ _ _ rfl rfl,⟨(jN r).1,(jN r).2,(jN q).1,(jN q).2⟩⟩
theorem rT(h:eP x=UE):cB x 1 7=bD x:=rZ (uA h).1
theorem zx(h:Txt.cU x=UE):gK x=dV x:=by grind[dV,gK,Txt.cU]
theorem Gt{H ws K E:J Us}{ev:N}(h:GB H ws pc ev acc fr mn mi ti un K E):∃ k tm,uo (ws.getD · Ym) H.length k pc acc tm/\mK (ws.getD · Ym) H.length k pc acc tm=⟨pc,ev,acc,fr,mn,mi,ti,un⟩/\k+7<(H++K++cW++E).length:=by
 obtain⟨A,⟨k0,y,k2,t,k4,r,rfl,rfl,rfl⟩,j⟩:=h;have f:∀ {k:M}{tm:Bool},k=H.length+K.length->pc=1\/pc=2\/pc=3->ws.getD H.length Ym=uu pc->cB (ws.getD (H.length+1) Ym) 1 7=ev->((pc=2/\k=H.length+2+1/\Txt.fC (ws.getD (H.length+2) Ym)=UE/\Txt.jf (ws.getD (H.length+2) Ym)=U acc)\/(pc≠2/\k=H.length+2/\acc=[]))->E.length=2->((ws.getD (k+6) Ym).toList==[116,105,109,101,115])=tm->(if tm then cB (ws.getD (k+7) Ym) 1 7 else 0)=ti->(if tm then 0 else gK (ws.getD (k+7) Ym))=un->_:=fun {k tm} q T h0 h1 h2 S R I C=>(⟨k,tm,⟨h0,T,h2,R⟩,by subst q I C h1;simp only[mK,zx y,xv r,jL,t,if_true],by subst q;simp[cW,S];omega⟩:∃ k tm,uo (ws.getD · Ym) H.length k pc acc tm/\mK (ws.getD · Ym) H.length k pc acc tm=⟨pc,ev,acc,dV (ws.getD (H.length+K.length+1) Ym),Txt.eA (ws.getD (H.length+K.length+3) Ym),bD (ws.getD (H.length+K.length+5) Ym),ti,un⟩/\k+7<(H++K++cW++E).length)
 cases A with
 |daily p0 p1=>cases j with
  |times q0 q1=>exact f (tm:=UE) rfl O (p0.trans Ul) (rT p1) (.inr ⟨O,rfl,rfl⟩) rfl (by rw[q0];decide +kernel) (rT q1) rfl
  |til q0 q1=>exact f (tm:=UD) rfl O (p0.trans Ul) (rT p1) (.inr ⟨O,rfl,rfl⟩) rfl (by rw[q0];decide +kernel) rfl (zx q1)
 |weekly acc p0 p1 p2=>cases j with
  |times q0 q1=>exact f (tm:=UE) rfl O (p0.trans Ul) (rT p1) (.inl ⟨rfl,rfl,by rw[Txt.fC,p2];rfl,p2⟩) rfl (by rw[q0];decide +kernel) (rT q1) rfl
  |til q0 q1=>exact f (tm:=UD) rfl O (p0.trans Ul) (rT p1) (.inl ⟨rfl,rfl,by rw[Txt.fC,p2];rfl,p2⟩) rfl (by rw[q0];decide +kernel) rfl (zx q1)
 |monthly p0 p1=>cases j with
  |times q0 q1=>exact f (tm:=UE) rfl O (p0.trans Ul) (rT p1) (.inr ⟨O,rfl,rfl⟩) rfl (by rw[q0];decide +kernel) (rT q1) rfl
  |til q0 q1=>exact f (tm:=UD) rfl O (p0.trans Ul) (rT p1) (.inr ⟨O,rfl,rfl⟩) rfl (by rw[q0];decide +kernel) rfl (zx q1)
theorem Pp(h:bP (Txt.aC s) 0 UD eQ=UE){ev:N}(r:lO (Txt.aC s) (aP (Txt.aC s) [bJ,cF] (1,UD)) pc ev acc fr mn mi ti un st):nf s (UU 158 (UT #[gW (Txt.aC s) (1,UD),V Y (bV (Txt.aC s) (aP (Txt.aC s) [bJ] (1,UD)) cF bD),pc,ev,aI acc 0,aI acc 1,aI acc 2,aI acc 3,aI acc 4,aI acc 5,aI acc 6,fr,mn,mi,ti,un])) st:=by
 refine⟨Hd h r,fun C T=>?_⟩;have H:fl eQ=UE:=Ul;have hf:fV.filter (gk eQ)=kG lf:=Ul;have A:aP (Txt.aC s) (lf.map bG) (0,UD)=(aP (Txt.aC s) [bJ,cF] (1,UD)):=by unfold lf;rw[<- fp h H];simp only[ZA,dQ,fo]
 have FI:=(Lz r C).2;rw[<- A] at r;let⟨q,hS,hg⟩:=vJ r;obtain⟨K,E,rfl,S,hG⟩:=hg C;have I:=lj h hf hS S C T;have e1:lf++K++cW++E=eQ :: ([bF]++bW :: (K++cW++E)):=by simp[lf]
 have f:=I;rw[e1] at f;have v1:=fF (Q:=[bF]) (s:=bW) (R:=K++cW++E) h H f.all bD;have t:=fw (ws:=Txt.aC s) [bF] (k:=eQ) (s:=bW) (R:=K++cW++E) f.all;simp only[ZA,VD,dQ,fo] at v1 t;let⟨k,tm,r1,r2,r3⟩:=Gt hG;refine⟨_,_,I,.series r1 r3,?_⟩;rw[lY (R:=bW :: (K++cW++E)) f.all,v1,vy t];have y:mK (fun j=>(Txt.aC s).getD j Ym) 3 k pc acc tm=_:=r2;rw[y];exact⟨.series _ (sb f) _ ⟨pc,ev,acc,fr,mn,mi,ti,un⟩,(qz t).1,(qz t).2,FI⟩
theorem Pm(h:bP (Txt.aC s) 0 UD fA=UE){ev:N}(f:lO (Txt.aC s) (1,UD) pc ev acc fr mn mi ti un st):nf s (UU 173 (UT #[pc,ev,aI acc 0,aI acc 1,aI acc 2,aI acc 3,aI acc 4,aI acc 5,aI acc 6,fr,mn,mi,ti,un])) st:=by
 refine⟨Hb h f,fun y C=>?_⟩;have H:fl fA=UE:=Ul;have I:fV.filter (gk fA)=kG og:=Ul;have t:aP (Txt.aC s) (og.map bG) (0,UD)=(1,UD):=by unfold og;rw[<- fp h H];rfl
 have T:=(Lz f y).2;rw[<- t] at f;let⟨q,hS,hg⟩:=vJ f;obtain⟨K,E,rfl,A,R⟩:=hg y;have S:=lj h I hS A y C;let⟨k,tm,r1,r2,r3⟩:=Gt R;refine⟨_,_,S,.expand r1 r3,?_⟩;have r:mK (fun j=>(Txt.aC s).getD j Ym) 1 k pc acc tm=_:=r2;rw[r];exact⟨.expand ⟨pc,ev,acc,fr,mn,mi,ti,un⟩,T⟩
theorem GS(ws:J Us)(st:M × Bool):∃ pc ev acc fr mn mi ti un s,lO ws st pc ev acc fr mn mi ti un s:=by
 have q:∃ pc ev acc s,qD ws st pc ev acc s:=by
  cases f:bP ws st.1 st.2 fZ
  .cases j:bP ws st.1 st.2 fU
   .cases y:bP ws st.1 st.2 gg
    .exact⟨_,_,_,_,.none f j y⟩
    .exact⟨_,_,_,_,.monthly f j y⟩
   .refine⟨_,_,(Txt.jf (ws.getD (aP ws [eP] (gB st)).1 Ym)).getD [],_,.weekly f j _ fun h=>?_⟩;have t:=(oQ h).2.2;rw[Txt.fC,Option.isSome_iff_exists] at t;let⟨a,ha⟩:=t;rw[ha];rfl
  .exact⟨_,_,_,_,.daily f⟩
 let⟨pc,ev,acc,s,q⟩:=q;have r:∃ ti un s',qw ws (oT ws s) ti un s':=by
  cases f:bP ws (oT ws s).1 (oT ws s).2 eV
  .cases j:bP ws (oT ws s).1 (oT ws s).2 fe
   .exact⟨_,_,_,.none f j⟩
   .exact⟨_,_,_,.til f j⟩
  .exact⟨_,_,_,.times f⟩
 let⟨ti,un,s',r⟩:=r;exact⟨_,_,_,_,_,_,_,_,_,.mk pc ev acc s ti un s' q r⟩
open aA (aQ St bS aX)
theorem GQ{f:Array Oper}{rest:J Oper}{o:Oper}{a:Act}{Q:Exit->Act->UF->Prop}(C:o.guard=UB)(x y:Operand)(S:o.op=.call { callee:=.builtin .append,args:=#[x,y],argTypes:=#[43,43] }){l:J (aQ × M × M)}(j:W.ownsRow B 85 6 v l.length (l.flatMap fg))(z:aQ × M × M){E:UK}{mk:M × M}(R:a.eval x=v)(I:a.eval y=UO W 1 1)(hl:l.length<=1000000)(hB:B<=W)
  (h:∀ g cap w',w'.ownsRow B 85 6 (UO g (l.length+1) cap) (l.length+1) ((l++[z]).flatMap fg)->aH v.ownBlock.toList W w'->(v.ownBlock=U g\/W<=g)->wpList prog f Q rest (a.put o.dst (UO g (l.length+1) cap)) w'):
  wpList prog f Q (o :: rest) a (W.alloc (UX #[z.1.id,z.1.kind,z.1.bH,z.1.aN,UO z.2.1 z.1.aR.length z.2.2,z.1.bY] E mk)):=by
 obtain⟨H,A,t,r,q⟩:=info_parts zZ;refine wpList_append_lies _ C x y 43 S B 85 H _ 6 72 underlying43 A t r q rfl Uj v l.length (l.flatMap fg) R (j.alloc _) ⟨W.heap.size,0,UB⟩ 1 1 (fg z) I rfl (Wf (cs:=(fg z).toArray) (dH W _)) (by simp[fg,Wg]) O Up O Un (W.heap.size+1) Ui ?_;intro g cap w' h1 h2 h3 _;have e2:(l++[z]).flatMap fg=l.flatMap fg++fg z:=Ui;have:=h g cap w';rw[e2] at this;exact this h1 (((aH.refl _ W).alloc _).grown h2 (fun k T=>.inl (by simp[T]))) (h3.imp id (fun e=>by omega))
theorem ot.snoc{y:aQ × M × M}{g:M}(h:ot w X v ys)(t:iW X y.2.1 y.1.aR/\w<=y.2.1/\y.2.1<X/\v.ownBlock≠U y.2.1)(A:w'.ownsRow w 85 6 (UO g (ys.length+1) cap) (ys.length+1) ((ys++[y]).flatMap fg))(k:aH v.ownBlock.toList X w')(q:v.ownBlock=U g\/X<=g):ot w w' (UO g (ys.length+1) cap) (ys++[y]):=by
 refine⟨by grind,fun z f=>?_,⟨k.os.trans h.bw.os,k.tape.trans h.bw.tape,k.output.trans h.bw.output,U0 h.bw.size k.size,fun b r=>(k.block b (zL r h.bw.size) (fun e=>?_)).trans (h.bw.block b r)⟩⟩
 .have j:iW X z.2.1 z.1.aR/\w<=z.2.1/\z.2.1<X/\v.ownBlock≠U z.2.1:=by
   rcases Vb.1 f with f|f
   .exact h.sl z f
   .have:z=y:=Uo
    subst this;exact t
  let⟨z1,z2,z3,z4⟩:=j;refine⟨z1.off k Uo,z2,VP z3 k.size,?_⟩;simp only[V9,ne_eq,ZI];rintro rfl;rcases q with e|e
  .exact z4 e
  .omega
 .have:=gU h.own (k:=b) Uo;omega
def pC(w:UF)(v:UG)(es:J aQ)(w':UF):Prop :=∃ (l:J (aQ × UG)) (G:J M),l.map (·.1)=es/\(∀ w2,(∀ b∈G,w2.heap[b]?=w'.heap[b]?)->EV w2 v l)/\(∀ b∈G,w<=b/\b<w')/\UH w w w'
def Cg(y:aQ × M × M):aQ × UG:=(y.1,UO y.2.1 y.1.aR.length y.2.2)
theorem iW.sv{L:J (N × N)}(h:iW w B L):SV w (UO B L.length cap) L:=⟨⟨_,_,rfl⟩,fun k f=>⟨B,cap,rfl,h k f⟩⟩
theorem G9{g:M}{a:Uu Addr}{zs:J (aQ × M × M)}(ha:zs≠[]->a=U ⟨g,0,UB⟩)(E:∀ (i:M)(y:i<zs.length),RE w' g i zs[i].1 zs[i].2.1 zs[i].2.2)(T:zs≠[]->w<=g/\g<w')(hb:∀ z∈zs,w<=z.2.1/\z.2.1<w')(k:UH w w w'):pC w (UO a zs.length cap) (zs.map (·.1)) w':=by
 refine⟨zs.map Cg,(if zs=[] then [] else [g])++zs.map (·.2.1),by simp[Cg,Function.comp_def],fun w2 hG=>?_,fun b t=>?_,k⟩
 .have r:∀ b o u,b∈(if zs=[] then [] else [g])++zs.map (·.2.1)->w'.cell? ⟨b,o,UB⟩=U u->w2.cell? ⟨b,o,UB⟩=U u:=fun b o u t I=>(zo (hG b t)).trans I
  refine⟨⟨a,cap,by simp⟩,fun i y=>?_,fun p R=>?_⟩
  .have C:i<zs.length:=bZ y
   have A:zs≠[]:=Uo;have q:=E i C;have f:g∈(if zs=[] then [] else [g])++zs.map (·.2.1):=by simp[A]
   refine⟨g,cap,by grind,?_⟩;simp only[List.getElem_map,Cg];exact⟨r _ _ _ f q.c0,r _ _ _ f q.c1,r _ _ _ f q.c2,r _ _ _ f q.c3,r _ _ _ f q.c4,r _ _ _ f q.c5⟩
  .obtain⟨z,h,rfl⟩:=VQ.1 R;obtain⟨i,y,rfl⟩:=List.getElem_of_mem h;refine iW.sv (fun j S=>?_);have q:=(E i y).sl j S;have H:zs[i].2.1∈(if zs=[] then [] else [g])++zs.map (·.2.1):=X7 _ (VQ.2 ⟨_,h,rfl⟩);exact⟨r _ _ _ H q.1,r _ _ _ H q.2⟩
 .rcases Vb.1 t with e|e
  .by_cases h:zs=[]
   .simp[h] at e
   .simp[h] at e;subst e;exact T h
  .obtain⟨z,h,rfl⟩:=VQ.1 e;exact hb z h
theorem ot.told(h:ot w w' v ys):pC w v (ys.map (·.1)) w':=by obtain⟨a,cap,g,rfl,_,q,t⟩:=xJ h.own (fun y r=>(h.sl y r).1);refine G9 q t (fun f=>?_) (fun z j=>⟨(h.sl z j).2.1,(h.sl z j).2.2.1⟩) h.bw;obtain rfl:=q f;exact⟨gU h.own rfl,fT h.own rfl⟩
theorem Pj{d:M}{s:St}{xs:J (aQ × M × M)}(h:DD w d s xs F):UI prog 71 #[d] w fun e w'=>∃ v,e=UW v/\pC w v (s.es.filter fun e=>e.kind==3) w':=by
 have H:=aB h;have ab:=h.len;have ad:=h.el;clear h;go_in;go_wp21;go_loopw [3,4] (fun v i wx=>∃ k:M,k<=xs.length/\i=V Y k/\∃ ys,ot w wx v ys/\ys.length<=k/\ys.map (·.1)=((xs.take k).map (·.1)).filter fun e=>e.kind==3) (fun _ i _=>xs.length-(intOf i).toNat)
 .exact⟨0,VM _,rfl,[],⟨Wc _ _ _ _,by simp,Below.refl _ _⟩,by simp,by simp⟩
 .obtain⟨k,hk,rfl,ys,T,ac,f⟩:=hrel;have hD:=H.later T.bw;obtain⟨a,cap,E,C⟩:=hD.er;have cc:=C.c;have A:=aB (Vf T f)
  by_cases j:k<xs.length
  .obtain rfl:=C.a k j;have q:=C.r k j;have c0:=q.c0;have c1:=q.c1;have c2:=q.c2;have c3:=q.c3;have c4:=q.c4;have c5:=q.c5;have hi:(k:N)<(xs.length:N):=O
   have y:=H.en xs[k].1 (H.es ▸ VQ.2 ⟨_,List.getElem_mem j,rfl⟩);have CP:=aB (Hu xs[k] wr q.sl (by have:=y.s0;exact List.length_pos_iff.2 this) (by have:=y.sl;omega));have ht:(xs.take (k+1)).map (·.1)=(xs.take k).map (·.1)++[xs[k].1]:=by rw[VL j,VU];rfl
   have HT:=aB ht;clear T f hD C q ht y
   cases hq:(xs[k].1.kind==3)
   .have HQ:=aB hq
    go_wp2;go_roundw
    case rel=>exact⟨k+1,by omega,by go_num,ys,A.out.1,by omega,by rw[HT.out,Vo,A.out.2];simp[HQ.out]⟩
    .simp[intOf];omega
   .have HQ:=aB hq
    go_wp21;refine CP.mono ?_;rintro e w4 ⟨gq,cq,rfl,q1,q2,q3,S⟩;simp only[fg];have R4:=aB (A.1.later S);have R:u3.ownBlock≠U gq:=fun e=>by have:=fT A.1.own e;omega
    have Q4:=aB (Vf q1 (Vf (U0 A.1.bw.size q2) (Vf q3 R)));have aa:=R4.bw.size;clear S q1 q2 q3 R c0 c1 c2 c3 c4 c5 cc CP hq;go_wp2_with (first|(at_builtin;refine GQ rfl _ _ rfl R4.own (xs[k].1,gq,cq) rfl rfl O aa ?_;intro g5 c5 w5 I k5 t));have R5:=aB (R4.snoc Q4.out I k5 t);clear I k5 t;go_roundw
    .exact⟨k+1,O,by go_num,_,R5,by simp;omega,by rw[VU,A.2,HT,Vo];simp[HQ.out]⟩
    .simp[intOf];omega
  .have e:xs.take k=xs:=List.take_of_length_le O;have hi:¬ (k:N)<(xs.length:N):=O
   have HF:Hid (pC w u3 (s.es.filter fun e=>e.kind==3) wr):=by have:=T.told;rw[f,e,H.es] at this;exact this
   clear T f hD C e;go_wp21;go_ret;exact⟨_,rfl,HF⟩
theorem eK.up{d:M}{q:St × bS}{e:Ending}(h:eK X d F ys q e Z)(kX:UH w w X)(hQ:w<=Q)(ab:Q<X)(hF:∀ k∈F,k<w)(hY:∀ y∈ys,y.2.1<w)(h7:Q7 X Q):∃ (S R I H:Uu Addr) (n1 n2 n3 n4 E C A t:M),e=UW (bT q.2.err 0 q.2.n (UO S n1 E) (UO R n2 C) (UO I n3 A) (UO H n4 t))/\Q7 Z Q/\eK w d F ys q e (dE Z Q q.2.err (V Y 0) (V Y q.2.n) (UO S n1 E) (UO R n2 C) (UO I n3 A) (UO H n4 t)):=by
 let⟨v1,v2,v3,v4,xs,F',G,he,hT,h3,hD,hF',hO,hG,h3F,hS⟩:=h;have T:=hT Z (fun _ _=>rfl);let⟨l,hl,_⟩:=T.en;let⟨S,E,e1⟩:=hl.form;let⟨R,C,e2⟩:=T.da.form;let⟨I,A,e3⟩:=iD h3;obtain⟨H,t,e4⟩:=T.ed.form;subst e1 e2 e3 e4;have ac:Q ∉ F:=fun e=>by grind
 have aa:=kX.size;refine⟨S,R,I,H,_,_,_,_,E,C,A,t,he,h7.later (hO.block Q ab ac),?_⟩;have r:=mY Z Q (V Y q.2.err) (V Y 0) (V Y q.2.n) (UO S l.length E) (UO R q.2.days.length C) (UO I q.2.granted.length A) (UO H q.2.ended.length t);have hx:∀ x,X.heap.size<=x->x ∉ [Q]:=fun x hx e=>by grind
 have ad:∀ x∈F',x ∉ [Q]:=fun x f=>by grind
 have hd:=hD.rd;refine⟨_,_,_,_,xs,F',G,he,fun w2 h2=>hT w2 (fun b j=>(h2 b j).trans (r.block b (hG b j).2.1 (hx b (hG b j).1))),uC (dL h3 r (fun b j=>hx b (gU h3 j))) aa,hD.off r ad (fun x f e=>?_),fun k hk=>(hF' k hk).imp id (fun e=>by omega),((aH.aD kX).trans hO).trans' r (fun x f=>.inr Uo),fun b j=>?_,h3F,fun x f=>(hS x f).imp id (fun e=>by omega)⟩
 .have e2:x.2.1=Q:=bZ e
  rcases hS x f with ⟨y,hy,e3⟩|e3
  .have:=hY y hy;omega
  .omega
 .let⟨g1,g2,g3,g4⟩:=hG b j;exact⟨O,VP g2 r.size,g3,g4⟩
def oP:J (Us × M):=[(⟨#[116,104,105,110,103]⟩,64),(⟨#[98,111,111,107]⟩,65),(⟨#[104,111,108,100]⟩,65),(⟨#[119,97,105,116]⟩,65),(⟨#[115,101,114,105,101,115]⟩,66),(⟨#[99,111,110,102,105,114,109]⟩,67),(⟨#[99,97,110,99,101,108]⟩,67),(⟨#[108,105,115,116]⟩,69),(⟨#[112,101,97,107]⟩,69),(⟨#[102,105,110,100]⟩,70)]
theorem qu{d:M}{s:St}{xs:J (aQ × M × M)}(h:DD w d s xs F){f:M}{kw:Us}{g c:M}{q:St × bS}(hn:0<n)(A:w.cell? (g,0)=U ↑kw)(t:(kw,f)∈oP)(C:∀ X,UH w w X->UI prog f #[d,UO g n c] X (eK X d F xs q)):UI prog 38 #[d,UO g n c] w (eK w d F xs q):=by
 have r:=aB ((KP.nil w).alloc bI);have E:=aB (Vf h.lt (fun y R=>(h.rd.sp y R).2.2));have i0:(0:N)<(n:N):=O;have I:=aT r.bl A;have S:w<(w.alloc bI).heap.size:=Ui;have H:=aB (C _ r.bl);clear h C A;simp only[oP,Va,Prod.mk.injEq,List.not_mem_nil,or_false] at t;rcases t with ⟨rfl,rfl⟩|⟨rfl,rfl⟩|⟨rfl,rfl⟩|⟨rfl,rfl⟩|⟨rfl,rfl⟩|⟨rfl,rfl⟩|⟨rfl,rfl⟩|⟨rfl,rfl⟩|⟨rfl,rfl⟩|⟨rfl,rfl⟩;all_goals go_in;go_upto_region 1 with fail;change YD _ _ _ _ (w.alloc bI);generalize w.alloc bI=X at *;go_wp21;refine H.mono ?_;intro e w2 j;obtain⟨a1,a2,a3,a4,n1,n2,n3,n4,c1,c2,c3,c4,rfl,T,j⟩:=j.up r.bl aJ S E.1 E.2 (Q7.of (r.kb (w,bI) Ui));have HA:=aB j;let⟨q0,q1,q2,q3,q4,q5,q6,fq⟩:=T;clear j I H;simp only[bT];go_wp21;exact cV results38 ⟨q0,q1,q2,q3,q4,q5,q6,fq⟩ HA
theorem Se{d:M}{s:St}{xs:J (aQ × M × M)}(h:DD w d s xs F){g c:M}(A:0<n)(j:w.cell? (g,0)=U (UQ ⟨#[99,108,111,99,107]⟩)):UI prog 38 #[d,UO g n c] w (eK w d F xs (aX s .clock)):=by
 have f:=aB ((KP.nil w).alloc bI);have H:=aB h;have y:(0:N)<(n:N):=O;have r:=aT f.bl j;have t:=(h.later f.bl).rd.c3;have q:Hid (eK w d F xs (aX s .clock) (UW (bT 0 0 s.now aV aV aV aV)) (dE (w.alloc bI) w (V Y 0) (V Y 0) (V Y s.now) aV aV aV aV)):=h.said f.bl aJ 0 s.now _ _ _ _ _ _ _;clear h j;go_in;go_upto_region 1 with fail;change YD _ _ _ _ (w.alloc bI);generalize w.alloc bI=X at *;let⟨q0,q1,q2,q3,q4,q5,q6,fq⟩:=Q7.of (f.kb (w,bI) Ui);go_wp21;exact cV results38 ⟨q0,q1,q2,q3,q4,q5,q6,fq⟩ q
open aA (aQ St bS aX dS)
def rK(w:UF)(d:M)(F:J M)(xs:J (aQ × M × M))(q:St × bS)(e:Ending)(w':UF):Prop :=∃ (v1 v2 j h:UG) (f:J (aQ × M × M)) (r:J M),e=UW (bT q.2.err q.2.at_ q.2.n v1 v2 j h)/\se w' v1 v2 h q.2/\NV w' j q.2.granted/\DD w' d q.1 f r/\(∀ k∈r,k∈F\/w<=k)/\aH F w w'/\∀ x∈f,(∃ y∈xs,x.2.1=y.2.1)\/w<=x.2.1
theorem NV.own{l:J N}(h:w.ownsRow B 3 1 v n (l.map (V Y))):NV w v l:=by obtain⟨a,cap,g,rfl,rfl,q,j⟩:=Ae h;exact⟨⟨_,_,rfl⟩,fun k f=>⟨g,cap,by rw[q Uo],j k f⟩⟩
theorem se.gr{v1 v2 f:UG}{p:bS}(h:se w v1 v2 f p)(g:J N):se w v1 v2 f { p with granted:=g }:=⟨h.en,h.da,h.ed⟩
def fin(q:St × bS):St × bS:=if q.2.err≠0 then q else ({ q.1 with es:=(dS q.1.ts q.1.es).1 },{ q.2 with granted:=q.2.granted++(dS q.1.ts q.1.es).2 })
theorem IM{d:M}{s:St}{xs:J (aQ × M × M)}(h:DD w d s xs F)(t:Us){j at_:N}(C:j≠0)(E:∀ X,UI prog 28 #[t] X fun e w'=>e=UW (US #[(),(),j,at_])/\UH X X w'):UI prog 25 #[d,t] w (rK w d F xs (s,⟨j,at_,0,[],[],[],[]⟩)):=by
 have r:=aB ((KP.nil w).alloc bI);have H:=aB h;have RD:=aB E;have I:(j != 0)=UE:=bZ C;clear h E C;go_in;go_upto_region 1 with fail;change YD _ _ _ _ (w.alloc bI);generalize w.alloc bI=X at *;go_wp21;refine aK (RD _) fun w1 q=>?_;replace r:=aB (r.later q);have R:Hid (rK w d F xs (s,⟨j,at_,0,[],[],[],[]⟩) (UW (bT j at_ 0 aV aV aV aV)) (dE w1 w j at_ (V Y 0) aV aV aV aV)):=by
  have A:=mY w1 w.heap.size (V Y j) (V Y at_) (V Y 0) aV aV aV aV;have y:∀ x,x<w.heap.size->x ∉ [w.heap.size]:=fun x y e=>by simp at e;omega
  exact⟨aV,aV,aV,aV,xs,F,rfl,se.nil _,NV.nil _,(H.later r.bl).off A (fun x f=>y x (H.out.lt x f)) (fun x f=>y _ (H.rd.sp x f).2.2),fun _ f=>.inl f,(aH.aD r.bl).trans' A (fun x f=>.inr (by simp at f;omega)),fun x f=>.inl ⟨x,f,rfl⟩⟩
 let⟨q0,q1,q2,q3,q4,q5,q6,fq⟩:=Q7.of (r.kb (w,bI) Ui);clear q;go_wp21;exact cV results25 ⟨q0,q1,q2,q3,q4,q5,q6,fq⟩ R
theorem RN{d:M}{s:St}{xs:J (aQ × M × M)}(h:DD w d s xs F)(t:Us)(ht:t.size<=160){p:J Us}(hp:kH t=(U p,0))(a7:0<(Txt.aC t).length){q:St × bS}(h0:q.2.at_=0)(hg:q.2.granted.length<=50000)
  (C:∀ X g c,UH w.heap.size w X->(∀ (j:M) (hj:j<(Txt.aC t).length),X.cell? ⟨g,j,UB⟩=U (UQ (Txt.aC t)[j]))->UI prog 38 #[UM (U ⟨d,0,UB⟩),UO (U ⟨g,0,UB⟩) (Txt.aC t).length c] X (eK X d F xs q)):
  UI prog 25 #[UM (U ⟨d,0,UB⟩),UQ t] w (rK w d F xs (fin q)):=by
 have P0:=aB ((KP.nil w).alloc bI);have H:=aB h;have HC:=aB C;have HP:=aB hp;clear h C hp;go_in;go_upto_region 1 with fail;change YD _ _ _ _ (w.alloc bI);generalize w.alloc bI=X at *;go_wp2_with fail;refine (De t X ht).mono ?_;rintro e w1 ⟨hr,ar⟩;rcases hr with ⟨p',a,b,c,d',g,h',ak,rfl,ra,rb⟩|⟨m,ak,rfl⟩
 case' inr=>rw[HP.out] at ak;cases ak
 obtain rfl:=ra.at_ a7;replace P0:=aB (P0.out.later ar);have DC:=aB (HC.out w1 g c P0.out.bl ra.cells);clear ar ra rb ak;go_wp2_with fail;refine DC.out.mono ?_;intro e w2 hA;have ba:=P0.out.lt (q:=(w.heap.size,bI)) Ui;have h7:=Q7.of (P0.out.kb (w.heap.size,bI) Ui);obtain⟨v1,v2,v3,v4,al,F',G,rfl,hT,h3,hD,r,hO,hG,R,hS⟩:=hA;have T:=hT w2 (fun _ _=>rfl);obtain⟨l,hl,_⟩:=T.en;obtain⟨a1,c1,rfl⟩:=hl.form;obtain⟨a2,c2,rfl⟩:=T.da.form;obtain⟨a3,c3,rfl⟩:=iD h3;obtain⟨a4,c4,rfl⟩:=T.ed.form;have av:w.heap.size ∉ F:=fun e=>by have:=H.out.lt _ e;omega
 have bg:=hO.size;have ag:w.heap.size ∉ F':=fun e=>by rcases r _ e with e|e;exact av e;omega
 have ai:=h7.later (hO.block _ ba av);have S:∀ x∈al,x.2.1≠w.heap.size/\x.2.1<w2.heap.size:=fun x f=>⟨fun e=>by
  rcases hS x f with ⟨y,hy,e2⟩|e2
  .have:=(H.out.rd.sp y hy).2.2;omega
  .omega,(hD.rd.sp x f).2.2⟩
 have aa:∀ x∈al,(∃ y∈xs,x.2.1=y.2.1)\/w.heap.size<=x.2.1:=fun x f=>(hS x f).imp id (fun e=>by omega);have ad:=(aH.aD P0.out.bl).trans hO;have KR:=(KP.nil w2).alloc (UX #[V Y q.2.err,V Y 0,V Y q.2.n,UO a1 l.length c1,UO a2 q.2.days.length c2,UO a3 q.2.granted.length c3,UO a4 q.2.ended.length c4] 74);have bj:w2.heap.size<(w2.alloc (UX #[V Y q.2.err,V Y 0,V Y q.2.n,UO a1 l.length c1,UO a2 q.2.days.length c2,UO a3 q.2.granted.length c3,UO a4 q.2.ended.length c4] 74)).heap.size:=Ui;have A:=aB (Vf hT (Vf h3 (Vf hD (Vf r (Vf hO (Vf hG (Vf R (Vf S (Vf aa (Vf ad ai))))))))));clear T hl hT h3 hD r hO hG R hS S aa ad ai h7 DC HC;simp only[bT];go_upto_region 5 with fail;have HK:=aB KR;have r0:=KR.hc 0 rfl;have r1:=KR.hc 1 rfl;have r2:=KR.hc 2 rfl;have r3:=KR.hc 3 rfl;have r4:=KR.hc 4 rfl;have r5:=KR.hc 5 rfl;have r6:=KR.hc 6 rfl;have rf:=KR.hf;clear KR;generalize w2.alloc _=Z at *;have kZ:=HK.out.bl;have Q2:=aB (A.out.2.2.2.2.2.2.2.2.2.2.later (kZ.block _ O));have DZ:=aB (A.out.2.2.1.later kZ);have WZ:=aB (A.out.2.2.2.2.2.2.2.2.2.1.trans (aH.aD kZ));by_cases he:q.2.err=0
 .have a9:(q.2.err != 0)=UD:=by simp[he]
  have GR:=aB (Hw DZ.out);have E9:Hid (fin q=({ q.1 with es:=(dS q.1.ts q.1.es).1 },{ q.2 with granted:=q.2.granted++(dS q.1.ts q.1.es).2 })):=by show _=_;unfold fin;rw[Uy (by simp[he])]
  have a8:Hid ((dS q.1.ts q.1.es).2.length<=60):=by have:=(uV q.1.ts q.1.es []).2;have:=DZ.out.el;show (aA.eU _ _ _).2.length<=60;omega
  have HE:=aB he;clear he kZ;go_wp2_with fail;refine GR.out.mono ?_;rintro e w3 ⟨v5,rfl,h5,⟨az,aw,ax⟩,I⟩;obtain⟨a5,c5,rfl⟩:=iD h5;obtain⟨hT,h3,hD,r,hO,hG,R,S,aa,ad,ai⟩:=A.out;have kZ:=HK.out.bl;have ao:w2.heap.size ∉ F':=fun e=>by have:=hD.lt _ e;omega
  have ay:=dL (fG h3 kZ) I (fun b E=>(R b E).1);have bi:=I.size;have n3:eO w3 w1.heap.size (fun _=>UB) (UO a3 q.2.granted.length c3) q.2.granted:=⟨ay,fun _ _=>rfl⟩;have n5:eO w3 w1.heap.size (fun _=>UB) (UO a5 (dS q.1.ts q.1.es).2.length c5) (dS q.1.ts q.1.es).2:=⟨uC h5 O,fun _ _=>rfl⟩;obtain⟨v6,w4,ae,n6,af,au⟩:=n3.append n5 O (fun _ _=>rfl) (by have:=a8.out;omega);obtain⟨a6,c6,rfl⟩:=iD n6.own;have ac:∀ b,(UO a3 q.2.granted.length c3).ownBlock=U b->w1.heap.size<=b/\b<w2.heap.size:=fun b E=>⟨gU h3 E,fT h3 E⟩;have k4:aH (UO a3 q.2.granted.length c3).ownBlock.toList w3 w4:=(aH.refl _ w3).grown af (fun k hk=>.inl (by simp[hk]));have ab:∀ x∈(UO a3 q.2.granted.length c3).ownBlock.toList,(UO a3 q.2.granted.length c3).ownBlock=U x:=fun x f=>by simpa using f
  have bR:=(k4.block _ O (fun e=>by have:=(ac _ (ab _ e)).2;omega)).trans (I.block _ O ao);have bQ:=(k4.block _ O (fun e=>by have:=(ac _ (ab _ e)).1;omega)).trans (I.block _ O ag);have s0:=(zo (a:=⟨w2.heap.size,0,UB⟩) bR).trans r0;have s1:=(zo (a:=⟨w2.heap.size,1,UB⟩) bR).trans r1;have s2:=(zo (a:=⟨w2.heap.size,2,UB⟩) bR).trans r2;have s3:=(zo (a:=⟨w2.heap.size,3,UB⟩) bR).trans r3;have s4:=(zo (a:=⟨w2.heap.size,4,UB⟩) bR).trans r4;have s5:=(zo (a:=⟨w2.heap.size,5,UB⟩) bR).trans r5;have s6:=(zo (a:=⟨w2.heap.size,6,UB⟩) bR).trans r6;have t5:=(zo (a:=⟨w2.heap.size,5,UB⟩) (I.block _ O ao)).trans r5;have sf:w4.frozen? ⟨w2.heap.size,5,UB⟩=UD:=by have:=rf 5;simp only[U2,bR];exact this
  have bm:w2.heap.size≠w.heap.size:=O;obtain⟨q0,q1,q2,q3,q4,q5,q6,fq⟩:=Q2.out.later bQ;obtain⟨N6,aq⟩:∃ N6,N6=(q.2.granted++(dS q.1.ts q.1.es).2).length:=⟨_,rfl⟩;have HF:Hid (∀ bf,bf=w4.setCell ⟨w2.heap.size,5,UB⟩ (UO a6 N6 c6)->rK w d F xs ({ q.1 with es:=(dS q.1.ts q.1.es).1 },{ q.2 with granted:=q.2.granted++(dS q.1.ts q.1.es).2 }) (UW (bT q.2.err 0 q.2.n (UO a1 l.length c1) (UO a2 q.2.days.length c2) (UO a6 N6 c6) (UO a4 q.2.ended.length c4))) (dE bf w.heap.size (V Y q.2.err) (V Y 0) (V Y q.2.n) (UO a1 l.length c1) (UO a2 q.2.days.length c2) (UO a6 N6 c6) (UO a4 q.2.ended.length c4))):=by
   rw[aq];rintro bf rfl;have k5:aH [w2.heap.size] w4 (w4.setCell ⟨w2.heap.size,5,UB⟩ (UO a6 (q.2.granted++(dS q.1.ts q.1.es).2).length c6)):=aH.bM ..;have k7:=mY (w4.setCell ⟨w2.heap.size,5,UB⟩ (UO a6 (q.2.granted++(dS q.1.ts q.1.es).2).length c6)) w.heap.size (V Y q.2.err) (V Y 0) (V Y q.2.n) (UO a1 l.length c1) (UO a2 q.2.days.length c2) (UO a6 (q.2.granted++(dS q.1.ts q.1.es).2).length c6) (UO a4 q.2.ended.length c4);have aj:=(k5.mono (G:=[w2.heap.size,w.heap.size]) Ui).trans (k7.mono Ui);have bh:=k4.size;have n7:∀ x,x∈[w2.heap.size,w.heap.size]->x=w2.heap.size\/x=w.heap.size:=fun x f=>by simpa using f
   have an:=ax;have bc:=(aw.off k4 (fun x f e=>(R x (ab x e)).1 f) (fun x f e=>by
    obtain⟨z,hz,e2⟩:=an x f;exact (R _ (ab _ e)).2 z hz e2.symm)).off aj (fun x f e=>by
     rcases n7 x e with rfl|rfl
     .exact ao f
     .exact ag f) (fun x f e=>by
     obtain⟨z,hz,e2⟩:=an x f;have:=S z hz;rcases n7 _ e with e3|e3 <;> omega)
   refine⟨_,_,_,_,az,F',by rw[h0],(hT _ (fun b E=>?_)).gr _,NV.own (dL n6.own aj (fun b E e=>?_)),bc,fun k hk=>(r k hk).imp id (fun e=>by omega),(((WZ.out.trans' I (fun x f=>(r x f).imp id (fun e=>by omega))).trans' k4 (fun x f=>.inr (by have:=(ac x (ab x f)).1;omega))).trans' aj (fun x f=>.inr (by rcases n7 x f with e|e <;> omega))),fun x f=>?_⟩
   .obtain⟨g1,g2,g3,g4⟩:=hG b E;refine (aj.block b O (fun e=>by rcases n7 b e with e|e <;> omega)).trans ((k4.block b O (fun e=>g4 (ab b e))).trans ((I.block b O g3).trans (kZ.block b g2)))
   .have h8:b<w2.heap.size/\w1.heap.size<=b\/w3.heap.size<=b:=by
     rcases au with e2|e2
     .rw[e2] at E;exact .inl ⟨(ac b E).2,(ac b E).1⟩
     .rw[e2] at E;simp only[ZI] at E;exact .inr O
    rcases n7 b e with e|e <;> omega
   .obtain⟨z,hz,e2⟩:=an x f;rw[e2];exact aa z hz
  rw[<- aq] at ae;have HR:=aB ae;clear hT h3 hD r hO hG R S aa ad ai ay n3 n5 n6 af au ac k4 ab bR bQ ae h5 aw ax I A r0 r1 r2 r3 r4 r5 r6 rf kZ aq;go_wp2_with (first|(at_builtin;refine Ja rfl _ _ 53 _ rfl (HR.out _) ?_));exact bodyPost_ret (v:=bT q.2.err 0 q.2.n (UO a1 l.length c1) (UO a2 q.2.days.length c2) (UO a6 N6 c6) (UO a4 q.2.ended.length c4)) (by simp[results,results25,go_sem,bT,q0,q1,q2,q3,q4,q5,q6]) rfl (by rw[E9.out];exact HF.out _ rfl)
 .have a9:(q.2.err != 0)=UE:=bZ he
  have E9:Hid (fin q=q):=by show _=_;unfold fin;rw[Uz he]
  have HF:Hid (rK w d F xs q (UW (bT q.2.err 0 q.2.n (UO a1 l.length c1) (UO a2 q.2.days.length c2) (UO a3 q.2.granted.length c3) (UO a4 q.2.ended.length c4))) (dE Z w.heap.size (V Y q.2.err) (V Y 0) (V Y q.2.n) (UO a1 l.length c1) (UO a2 q.2.days.length c2) (UO a3 q.2.granted.length c3) (UO a4 q.2.ended.length c4))):=by have k7:=mY Z w.heap.size (V Y q.2.err) (V Y 0) (V Y q.2.n) (UO a1 l.length c1) (UO a2 q.2.days.length c2) (UO a3 q.2.granted.length c3) (UO a4 q.2.ended.length c4);obtain⟨hT,h3,hD,r,hO,hG,R,S,aa,ad,ai⟩:=A.out;refine⟨_,_,_,_,al,F',by rw[h0],hT _ (fun b E=>(k7.block b (zL (hG b E).2.1 kZ.size) (fun e=>by have:=(hG b E).1;simp at e;omega)).trans (kZ.block b (hG b E).2.1)),NV.own (dL (fG h3 kZ) k7 (fun b E e=>by have:=gU h3 E;simp at e;omega)),DZ.out.off k7 (fun x f e=>ag (by simp at e;exact e ▸ f)) (fun x f e=>(S x f).1 (bZ e)),fun k hk=>(r k hk).imp id (fun e=>by omega),WZ.out.trans' k7 (fun x f=>.inr (by simp at f;omega)),aa⟩
  obtain⟨q0,q1,q2,q3,q4,q5,q6,fq⟩:=Q2.out;clear he A;go_wp2_with fail;exact cV results25 ⟨q0,q1,q2,q3,q4,q5,q6,fq⟩ (by rw[E9.out];exact HF.out)
variable {w:UF}{B:Uw}{v0 v1 r1 r2 r3:UG}{K:Ut Uw}{X1 X2 X3:Ut KL}
theorem RQ:(prog.info? tS).map (fun i=>(i.zero,i.size,i.bytes))=U (U (UT #[(),(),(),(),V Y 0]),5,104):=Um
theorem Pw{m:N}{k:M}(h:k*2+1<xs.length):((rp (mO m) k++xs.drop (k*2)).set (k*2) m).set (k*2+1) m=rp (mO m) (k+1)++xs.drop ((k+1)*2):=by
 have f:(rp (mO m) k).length=k*2:=by rw[qS];simp
 have j:(k+1)*2=k*2+1+1:=O;rw[ZK,Uy O,ZK,Uy O,f,YX,V1,Wh O,Wh h,Cx,V8,j];rfl
theorem BK.iX{l:UG}{m:N}{e:UK}(h:BK w B v0 v1 K r1 r2 r3 X1 X2 X3)(H:BK Z3 B v0 v1 K r1 r2 r3 X1 X2 X3)(t:KF (mO m) e wr Z3 l n Q o [(c,n+3),(b,n+2),(a,n+1),(l,n)])(E:n<=900000)(I:aH l.ownBlock.toList w Z3)(y:w<=wr.heap.size)(r:∀ b,l.ownBlock=U b->b ∉ K/\b ∉ cQ B r1 r2 r3)(C:aH r2.ownBlock.toList Z3 w9) (A:w9.ownsRow 0 tS 5 r' (X2.length+1) (X2.flatMap gZ++gZ (l,a,b,c,m))) (j:vA Z3 r2 r'):s9 w B v0 v1 K r1 r2 r3 l (X1.length+X2.length+X3.length) (w9.setCell (B,3) r') :=
 BK.kept t I y Uo (fun q f=>by
  simp only[cQ,Va,Vb,Wn] at f ⊢;rcases f with rfl|f|f|f
  .exact .inl (.inl rfl)
  .exact .inl (.inr (.inl f))
  .exact (j q f).imp (fun e=>.inr (.inr (.inl e))) id
  .exact .inl (.inr (.inr (.inr f)))) (H.Fc (t.k4 (P:=mO) E) (h.apart t y r) C A j)
theorem Sv(h:BK w B v0 v1 K r1 r2 r3 X1 X2 X3)(h1:X1.length<=1000000000)(h2:X2.length<=1000000000)(h3:X3.length<=1000000000){l:UG}(hl:w.ownsRow 0 83 2 l n xs)(hn:n<=900000)(ae:∀ b,l.ownBlock=U b->b ∉ K/\b ∉ cQ B r1 r2 r3):UI prog 42 #[UM (U ⟨B,2,UB⟩),l] w fun e w'=>e=UW (US #[])/\s9 w B v0 v1 K r1 r2 r3 l (X1.length+X2.length+X3.length) w':=by
 obtain⟨i0,R,I,H,E⟩:=info_parts xX;obtain⟨j0,au,aq,ao,an⟩:=info_parts RQ;obtain⟨a,j,rfl⟩:=iD hl;have HB:=aB h;have HL:=aB hl;have HK:=aB ae;have ax:=aB (fun b (f:(UO a n j).ownBlock=U b)=>fT hl f);have a4:xs.length=n*2:=hl.1;clear h hl ae;go_in;go_upto_region 3 with (first|(go_at_call 76;refine aK (CU HB h1 h2 h3) fun w1 f=>?_;have H1:=aB f;clear f));generalize a7:zP X1 X2 X3=m;change YD _ _ _ _ (w1.alloc (UX #[V Y m,V Y m] 83));have HW:=aB (bU H1 ((zr _ w1).alloc aJ (UX #[V Y m,V Y m] 83)) aJ);have hS:w1.heap.size ∉ (UO a n j).ownBlock.toList:=fun e=>by have:=ax _ (by simpa using e);have:=H1.size;omega
 have BX:Hid (∀ Z,aH (UO a n j).ownBlock.toList (w1.alloc (UX #[V Y m,V Y m] 83)) Z->Z.cell? (w1,0)=U (V Y m)/\Z.cell? (w1,1)=U (V Y m)):=fun Z k=>⟨k.cell hS (bN (dH w1 _) 0 rfl),k.cell hS (bN (dH w1 _) 1 rfl)⟩;clear hS;generalize w1.alloc (UX #[V Y m,V Y m] 83)=W1 at HW BX ⊢;generalize w1=S at BX ⊢;have ay:=aB (fG HL HW);go_loopw [6] (fun v wr=>∃ k:M,k<=n/\v=V Y k/\wr.ownsRow 0 83 2 (UO a n j) n (rp (mO m) k++xs.drop (k*2))/\aH (UO a n j).ownBlock.toList W1 wr) (fun v _=>n-(intOf v).toNat)
 .exact⟨0,VM _,rfl,by simpa[Cy] using ay.out,aH.refl _ _⟩
 .obtain⟨k,hk,rfl,q,r⟩:=hrel;have t:=aB (Vf q r)
  by_cases a8:k<n
  .have ad:(k:N)<(n:N):=O
   obtain⟨C,A⟩:=BX _ r;obtain⟨g,cap,u,e,c0,fz⟩:=sj q (k:=k*2) (by rw[VA,qS,ZQ];simp;omega);obtain⟨g',a3,u',e',c1,_⟩:=sj q (k:=k*2+1) (by rw[VA,qS,ZQ];simp;omega);rw[e] at e';simp only[XS,ZI,ZJ,and_true,true_and] at e';obtain⟨rfl,rfl⟩:=e';simp only[XS,true_and] at e;obtain⟨rfl,rfl⟩:=e;have f0:=fz (k*2);have f1:=fz (k*2+1);clear q r;go_wp21;go_roundw
   .refine⟨k+1,O,by go_num,?_,(t.2.setCell (.inl Ur) _ _).setCell (.inl Ur) _ _⟩;have:=qt (qt t.1 (b:=g) rfl (k*2) (V Y m)) (b:=g) rfl (k*2+1) (V Y m);rw[Pw O] at this;exact this
   .simp[intOf];omega
  .have ad:¬ (k:N)<(n:N):=O
   have ar:k=n:=O;subst ar;have HR:Hid (wr.ownsRow 0 83 2 (UO a k j) k (rp (mO m) k)):=by have:=t.1;rw[Wi O,Xu] at this;exact this
   clear q r;obtain⟨C,A⟩:=BX _ t.2;go_upto_region 7 with fail;change YD _ _ _ _ (wr.alloc (UX #[UO a k j,(),(),(),V Y m] tS));have S0:Hid (KS (mO m) 83 wr (wr.alloc (UX #[UO a k j,(),(),(),V Y m] tS)) (UO a k j) k wr (UX #[UO a k j,(),(),(),V Y m] tS)) :=⟨HR.alloc _,dH _ _,UY _,(aH.refl _ _).alloc _,fun b f=>fT HR f⟩
   have T0:Hid (KF (mO m) 83 wr (wr.alloc (UX #[UO a k j,(),(),(),V Y m] tS)) (UO a k j) k wr (UX #[UO a k j,(),(),(),V Y m] tS) [(UO a k j,k)]) :=
    ⟨S0,fun p hp=>by rw[X9.1 hp];exact⟨Fu.lD S0.own,fun b f=>⟨by have:=S0.lt b f;omega,fT S0.own f,.inl f⟩⟩⟩
   clear S0;generalize wr.alloc (UX #[UO a k j,(),(),(),V Y m] tS)=Z0 at T0 ⊢;obtain⟨C,A⟩:=BX _ (t.2.trans T0.ks.off);go_upto_region 8 with (first|(at_builtin;go_loud (refine si rfl _ _ 57 rfl (mO m) 16 underlying57 R I H E Uj rfl Ui Uq T0.ks.own (m:=1) (cs:=#[V Y m,V Y m]) (by simp[rp]) Uj Uj rfl rfl O (zN _) ?_);intro g6 c6 w6 o6 ac f6 k6 ak;have q6:=bN (T0.ks.at_ k6).1 1 rfl;have z6:=(T0.ks.at_ k6).2 1));have T1:=aB (T0.put o6 ac f6 k6 ak Ui 1);generalize w6.setCell (wr,1) (UO g6 (k+1) c6)=Z1 at T1 ⊢;clear C A o6 ac f6 k6 ak q6 z6 T0;obtain⟨C,A⟩:=BX _ (t.2.trans T1.ks.off);go_upto_region 9 with (first|(at_builtin;go_loud (refine si rfl _ _ 57 rfl (mO m) 16 underlying57 R I H E Uj rfl Ui Uq T1.ks.own (m:=2) (cs:=#[V Y m,V Y m,V Y m,V Y m]) (by simp[rp]) Uj Uj rfl rfl O (zN _) ?_);intro g7 c7 w7 o7 ab f7 k7 aj;have q7:=bN (T1.ks.at_ k7).1 2 rfl;have z7:=(T1.ks.at_ k7).2 2));have T2:=aB (T1.put o7 ab f7 k7 aj Ui 2);generalize w7.setCell (wr,2) (UO g7 (k+2) c7)=Z2 at T2 ⊢;clear C A o7 ab f7 k7 aj q7 z7 T1;obtain⟨C,A⟩:=BX _ (t.2.trans T2.ks.off);go_upto_region 10 with (first|(at_builtin;go_loud (refine si rfl _ _ 57 rfl (mO m) 16 underlying57 R I H E Uj rfl Ui Uq T2.ks.own (m:=3) (cs:=#[V Y m,V Y m,V Y m,V Y m,V Y m,V Y m]) (by simp[rp]) Uj Uj rfl rfl O (zN _) ?_);intro g8 c8 w8 o8 aa f8 k8 ai;have q8:=bN (T2.ks.at_ k8).1 3 rfl;have z8:=(T2.ks.at_ k8).2 3));have y:=aB (T2.put o8 aa f8 k8 ai Ui 3);generalize w8.setCell (wr,3) (UO g8 (k+3) c8)=Z3 at y ⊢;clear C A o8 aa f8 k8 ai q8 z8 T2;have R3:aH (UO a k j).ownBlock.toList w Z3:=(aH.aD HW).trans (t.2.trans y.ks.off);have al:=aB (fun b (f:b∈(UO a k j).ownBlock.toList)=>HK b (by simpa using f));have B3:=aB (HB.off R3 (fun b f e=>(al b e).2 f) (fun b f e=>(al b e).1 f));have aw:=aB R3;obtain⟨_,_,_,d2,_,ag⟩:=B3.cells;obtain⟨_,⟨ra,rc,er⟩,_⟩:=B3.mN;subst er;have fB:=ag 3;have s0:=bN y.ks.hq 0 rfl;have s1:=bN y.ks.hq 1 rfl;have s2:=bN y.ks.hq 2 rfl;have s3:=bN y.ks.hq 3 rfl;have s4:=bN y.ks.hq 4 rfl;have a9:∀ o,(Z3.alloc o).cell? (B,3)=U (UO ra X2.length rc):=fun o=>aT ((zr _ Z3).alloc aJ o) d2;have DD:=aB (fun o=>fG B3.br.b2.own (((zr _ Z3).alloc aJ o).drew));have af:(UO ra X2.length rc).ownBlock≠U B:=ki B3.br.b2.own B3.hb Uj;clear R3 ag;go_region_law (first
    |(refine step_append_lies _ rfl _ _ 29 rfl 0 tS j0 _ 5 104 underlying29 au aq ao an rfl Uj (UO ra X2.length rc) X2.length (X2.flatMap gZ) rfl (DD.out _) ⟨Z3.heap.size,0,UB⟩ 1 1 (gZ (UO a k j,UO (U ⟨g6,0,UB⟩) (k+1) c6,UO (U ⟨g7,0,UB⟩) (k+2) c7,UO (U ⟨g8,0,UB⟩) (k+3) c8,m)) rfl rfl (Wf (cs:=(gZ (UO a k j,UO (U ⟨g6,0,UB⟩) (k+1) c6,UO (U ⟨g7,0,UB⟩) (k+2) c7,UO (U ⟨g8,0,UB⟩) (k+3) c8,m)).toArray) (dH Z3 _)) (by simp[gZ,Wg]) O Up O (zN _) (Z3.heap.size+1) Ui ?_;intro g9 c9 w9 o9 T av az;have k9:aH ((UO ra X2.length rc).ownBlock.toList) Z3 w9:=aH.grown (((aH.refl _ Z3).alloc _).drew) T (fun k hk=>.inl (by simp[hk]));have d9:=k9.cell (fun e=>af (by simpa using e)) d2;have f9:=(k9.frozen (fun e=>af (by simpa using e)) (U1 _ _ d2)).trans fB))
   all_goals
    go_wp21;(try simp only[V7,Exit.then]);refine bodyPost_end (results_none rfl _ _ _) rfl ?_;refine⟨rfl,HB.iX B3 y hn aw (U0 HW.size t.2.size) HK k9 o9 (fun b f=>by simp[V9] at f;subst f;exact av.imp id (fun e=>by omega))⟩
variable {w:UF}{B:Uw}{v0 v1 r1 r2 r3:UG}{K:Ut Uw}{X1 X2 X3:Ut KL}
theorem Ss:(prog.info? tE).map (fun i=>(i.zero,i.size,i.bytes))=U (U (UT #[(),(),(),(),V Y 0]),5,104):=Um
theorem RP:(prog.info? 85).map (fun i=>(i.zero,i.size,i.bytes))=U (U (UT #[V Y 0,V Y 0,UQ ⟨#[]⟩,V Y 0,(),V Y 0]),6,72):=Um
theorem Px{m:N}{k:M}(j:k*6+5<xs.length):((((((rp (ln m) k++xs.drop (k*6)).set (k*6) m).set (k*6+1) (V Y 0)).set (k*6+2) (UQ ⟨#[]⟩)).set (k*6+3) m).set (k*6+4) ()).set (k*6+5) (V Y 0)=rp (ln m) (k+1)++xs.drop ((k+1)*6):=by
 have f:(rp (ln m) k).length=k*6:=by rw[qS];simp
 have h:(k+1)*6=k*6+1+1+1+1+1+1:=O;rw[Wh (show k*6<xs.length by omega),Wh (show k*6+1<xs.length by omega),Wh (show k*6+1+1<xs.length by omega),Wh (show k*6+1+1+1<xs.length by omega),Wh (show k*6+1+1+1+1<xs.length by omega),Wh (show k*6+1+1+1+1+1<xs.length by omega),Cx,V8,h];generalize rp (ln m) k=A at *;subst_vars;simp only[<- f,ZK,Nat.lt_irrefl,if_false,YX,Nat.not_lt_of_le (Nat.le_add_right _ _),V1];rfl
theorem BK.xg{l:UG}{m:N}{e:UK}(h:BK w B v0 v1 K r1 r2 r3 X1 X2 X3)(H:BK Z3 B v0 v1 K r1 r2 r3 X1 X2 X3)(t:KF (ln m) e wr Z3 l n Q o [(c,n+3),(b,n+2),(a,n+1),(l,n)])(E:n<=900000)(I:aH l.ownBlock.toList w Z3)(y:w<=wr.heap.size)(r:∀ b,l.ownBlock=U b->b ∉ K/\b ∉ cQ B r1 r2 r3)(C:aH r3.ownBlock.toList Z3 w9) (A:w9.ownsRow 0 tE 5 r' (X3.length+1) (X3.flatMap gZ++gZ (l,a,b,c,m))) (j:vA Z3 r3 r'):s9 w B v0 v1 K r1 r2 r3 l (X1.length+X2.length+X3.length) (w9.setCell (B,4) r') :=
 BK.kept t I y Uo (fun q f=>by
  simp only[cQ,Va,Vb,Wn] at f ⊢;rcases f with rfl|f|f|f
  .exact .inl (.inl rfl)
  .exact .inl (.inr (.inl f))
  .exact .inl (.inr (.inr (.inl f)))
  .exact (j q f).imp (fun e=>.inr (.inr (.inr e))) id) (H.EY (t.k4 (P:=ln) E) (h.apart t y r) C A j)
theorem SC(h:BK w B v0 v1 K r1 r2 r3 X1 X2 X3)(h1:X1.length<=1000000000)(h2:X2.length<=1000000000)(h3:X3.length<=1000000000){l:UG}(hl:w.ownsRow 0 85 6 l n xs)(hn:n<=900000)(ak:∀ b,l.ownBlock=U b->b ∉ K/\b ∉ cQ B r1 r2 r3):UI prog 43 #[UM (U ⟨B,2,UB⟩),l] w fun e w'=>e=UW (US #[])/\s9 w B v0 v1 K r1 r2 r3 l (X1.length+X2.length+X3.length) w':=by
 obtain⟨i0,ad,ac,ab,aa⟩:=info_parts RP;obtain⟨j0,az,ax,aw,av⟩:=info_parts Ss;obtain⟨a,r,rfl⟩:=iD hl;have HB:=aB h;have HL:=aB hl;have HK:=aB ak;have a7:=aB (fun b (j:(UO a n r).ownBlock=U b)=>fT hl j);have bc:xs.length=n*6:=hl.1;clear h hl ak;go_in;go_upto_region 3 with (first|(go_at_call 76;refine aK (CU HB h1 h2 h3) fun w1 j=>?_;have H1:=aB j;clear j));generalize bf:zP X1 X2 X3=m;change YD _ _ _ _ (w1.alloc (UX #[V Y m,V Y 0,UQ ⟨#[]⟩,V Y m,(),V Y 0] 85));have HW:=aB (bU H1 ((zr _ w1).alloc aJ (UX #[V Y m,V Y 0,UQ ⟨#[]⟩,V Y m,(),V Y 0] 85)) aJ);have hS:w1.heap.size ∉ (UO a n r).ownBlock.toList:=fun e=>by have:=a7 _ (by simpa using e);have:=H1.size;omega
 have BX:Hid (∀ Z,aH (UO a n r).ownBlock.toList (w1.alloc (UX #[V Y m,V Y 0,UQ ⟨#[]⟩,V Y m,(),V Y 0] 85)) Z->Z.cell? (w1,0)=U (V Y m)/\Z.cell? (w1,1)=U (V Y 0)/\Z.cell? (w1,2)=U (UQ ⟨#[]⟩)/\Z.cell? (w1,3)=U (V Y m)/\Z.cell? (w1,4)=U ↑()/\Z.cell? (w1,5)=U (V Y 0)):=fun Z k=>⟨k.cell hS (bN (dH w1 _) 0 rfl),k.cell hS (bN (dH w1 _) 1 rfl),k.cell hS (bN (dH w1 _) 2 rfl),k.cell hS (bN (dH w1 _) 3 rfl),k.cell hS (bN (dH w1 _) 4 rfl),k.cell hS (bN (dH w1 _) 5 rfl)⟩;clear hS;generalize w1.alloc (UX #[V Y m,V Y 0,UQ ⟨#[]⟩,V Y m,(),V Y 0] 85)=W1 at HW BX ⊢;generalize w1=S at BX ⊢;have a8:=aB (fG HL HW);go_loopw [6] (fun v wr=>∃ k:M,k<=n/\v=V Y k/\wr.ownsRow 0 85 6 (UO a n r) n (rp (ln m) k++xs.drop (k*6))/\aH (UO a n r).ownBlock.toList W1 wr) (fun v _=>n-(intOf v).toNat)
 .exact⟨0,VM _,rfl,by simpa[Cy] using a8.out,aH.refl _ _⟩
 .obtain⟨k,hk,rfl,f,y⟩:=hrel;have A:=aB (Vf f y)
  by_cases bg:k<n
  .have aj:(k:N)<(n:N):=O
   obtain⟨y0,T,R,I,H,E⟩:=BX _ y;have ba:(rp (ln m) k++xs.drop (k*6)).length=n*6:=by rw[VA,qS,ZQ];simp;omega
   obtain⟨g,cap,u,e,c0,fz⟩:=sj f (k:=k*6) O;obtain⟨g',t,u1,q,c1,_⟩:=sj f (k:=k*6+1) O;rw[e] at q;simp only[XS,ZI,ZJ,and_true,true_and] at q;obtain⟨rfl,rfl⟩:=q;obtain⟨g',t,u2,q,c2,_⟩:=sj f (k:=k*6+2) O;rw[e] at q;simp only[XS,ZI,ZJ,and_true,true_and] at q;obtain⟨rfl,rfl⟩:=q;obtain⟨g',t,u3,q,c3,_⟩:=sj f (k:=k*6+3) O;rw[e] at q;simp only[XS,ZI,ZJ,and_true,true_and] at q;obtain⟨rfl,rfl⟩:=q;obtain⟨g',t,u4,q,c4,_⟩:=sj f (k:=k*6+4) O;rw[e] at q;simp only[XS,ZI,ZJ,and_true,true_and] at q;obtain⟨rfl,rfl⟩:=q;obtain⟨g',t,u5,q,c5,_⟩:=sj f (k:=k*6+5) O;rw[e] at q;simp only[XS,ZI,ZJ,and_true,true_and] at q;obtain⟨rfl,rfl⟩:=q;simp only[XS,true_and] at e;obtain⟨rfl,rfl⟩:=e;have f0:=fz (k*6);have f1:=fz (k*6+1);have f2:=fz (k*6+2);have f3:=fz (k*6+3);have f4:=fz (k*6+4);have f5:=fz (k*6+5);clear f y;go_wp21;go_roundw
   .refine⟨k+1,O,by go_num,?_,(((((A.2.setCell (.inl Ur) _ _).setCell (.inl Ur) _ _).setCell (.inl Ur) _ _).setCell (.inl Ur) _ _).setCell (.inl Ur) _ _).setCell (.inl Ur) _ _⟩;have:=(qt (qt (qt (qt (qt (qt A.1 (b:=g) rfl (k*6) (V Y m)) (b:=g) rfl (k*6+1) (V Y 0)) (b:=g) rfl (k*6+2) (UQ ⟨#[]⟩)) (b:=g) rfl (k*6+3) (V Y m)) (b:=g) rfl (k*6+4) ()) (b:=g) rfl (k*6+5) (V Y 0));rw[Px O] at this;exact this
   .simp[intOf];omega
  .have aj:¬ (k:N)<(n:N):=O
   have ay:k=n:=O;subst ay;have HR:Hid (wr.ownsRow 0 85 6 (UO a k r) k (rp (ln m) k)):=by have:=A.1;rw[Wi O,Xu] at this;exact this
   clear f y;obtain⟨y0,T,R,I,H,E⟩:=BX _ A.2;go_upto_region 7 with fail;change YD _ _ _ _ (wr.alloc (UX #[UO a k r,(),(),(),V Y m] tE));have S0:Hid (KS (ln m) 85 wr (wr.alloc (UX #[UO a k r,(),(),(),V Y m] tE)) (UO a k r) k wr (UX #[UO a k r,(),(),(),V Y m] tE)) :=⟨HR.alloc _,dH _ _,UY _,(aH.refl _ _).alloc _,fun b j=>fT HR j⟩
   have T0:Hid (KF (ln m) 85 wr (wr.alloc (UX #[UO a k r,(),(),(),V Y m] tE)) (UO a k r) k wr (UX #[UO a k r,(),(),(),V Y m] tE) [(UO a k r,k)]) :=
    ⟨S0,fun p hp=>by rw[X9.1 hp];exact⟨Fu.lD S0.own,fun b j=>⟨by have:=S0.lt b j;omega,fT S0.own j,.inl j⟩⟩⟩
   clear S0;generalize wr.alloc (UX #[UO a k r,(),(),(),V Y m] tE)=Z0 at T0 ⊢;obtain⟨y0,T,R,I,H,E⟩:=BX _ (A.2.trans T0.ks.off);go_upto_region 8 with (first|(at_builtin;go_loud (refine si rfl _ _ 43 rfl (ln m) 72 underlying43 ad ac ab aa Uj rfl Ui Uq T0.ks.own (m:=1) (cs:=#[V Y m,V Y 0,UQ ⟨#[]⟩,V Y m,(),V Y 0]) (by simp[rp]) Uj Uj rfl rfl O (zN _) ?_);intro g6 c6 w6 o6 ai f6 k6 ar;have q6:=bN (T0.ks.at_ k6).1 1 rfl;have z6:=(T0.ks.at_ k6).2 1));have T1:=aB (T0.put o6 ai f6 k6 ar Ui 1);generalize w6.setCell (wr,1) (UO g6 (k+1) c6)=Z1 at T1 ⊢;clear y0 T R I H E o6 ai f6 k6 ar q6 z6 T0;obtain⟨y0,T,R,I,H,E⟩:=BX _ (A.2.trans T1.ks.off);go_upto_region 9 with (first|(at_builtin;go_loud (refine si rfl _ _ 43 rfl (ln m) 72 underlying43 ad ac ab aa Uj rfl Ui Uq T1.ks.own (m:=2) (cs:=#[V Y m,V Y 0,UQ ⟨#[]⟩,V Y m,(),V Y 0,V Y m,V Y 0,UQ ⟨#[]⟩,V Y m,(),V Y 0]) (by simp[rp]) Uj Uj rfl rfl O (zN _) ?_);intro g7 c7 w7 o7 ag f7 k7 aq;have q7:=bN (T1.ks.at_ k7).1 2 rfl;have z7:=(T1.ks.at_ k7).2 2));have T2:=aB (T1.put o7 ag f7 k7 aq Ui 2);generalize w7.setCell (wr,2) (UO g7 (k+2) c7)=Z2 at T2 ⊢;clear y0 T R I H E o7 ag f7 k7 aq q7 z7 T1;obtain⟨y0,T,R,I,H,E⟩:=BX _ (A.2.trans T2.ks.off);go_upto_region 10 with (first|(at_builtin;go_loud (refine si rfl _ _ 43 rfl (ln m) 72 underlying43 ad ac ab aa Uj rfl Ui Uq T2.ks.own (m:=3) (cs:=#[V Y m,V Y 0,UQ ⟨#[]⟩,V Y m,(),V Y 0,V Y m,V Y 0,UQ ⟨#[]⟩,V Y m,(),V Y 0,V Y m,V Y 0,UQ ⟨#[]⟩,V Y m,(),V Y 0]) (by simp[rp]) Uj Uj rfl rfl O (zN _) ?_);intro g8 c8 w8 o8 af f8 k8 ao;have q8:=bN (T2.ks.at_ k8).1 3 rfl;have z8:=(T2.ks.at_ k8).2 3));have C:=aB (T2.put o8 af f8 k8 ao Ui 3);generalize w8.setCell (wr,3) (UO g8 (k+3) c8)=Z3 at C ⊢;clear y0 T R I H E o8 af f8 k8 ao q8 z8 T2;have R3:aH (UO a k r).ownBlock.toList w Z3:=(aH.aD HW).trans (A.2.trans C.ks.off);have au:=aB (fun b (j:b∈(UO a k r).ownBlock.toList)=>HK b (by simpa using j));have B3:=aB (HB.off R3 (fun b j e=>(au b e).2 j) (fun b j e=>(au b e).1 j));have a4:=aB R3;obtain⟨_,_,_,_,d2,an⟩:=B3.cells;obtain⟨_,_,ra,rc,er⟩:=B3.mN;subst er;have fB:=an 4;have s0:=bN C.ks.hq 0 rfl;have s1:=bN C.ks.hq 1 rfl;have s2:=bN C.ks.hq 2 rfl;have s3:=bN C.ks.hq 3 rfl;have s4:=bN C.ks.hq 4 rfl;have bh:∀ o,(Z3.alloc o).cell? (B,4)=U (UO ra X3.length rc):=fun o=>aT ((zr _ Z3).alloc aJ o) d2;have DD:=aB (fun o=>fG B3.br.b3.own (((zr _ Z3).alloc aJ o).drew));have al:(UO ra X3.length rc).ownBlock≠U B:=ki B3.br.b3.own B3.hb Uj;clear R3 an;go_region_law (first
    |(refine step_append_lies _ rfl _ _ 30 rfl 0 tE j0 _ 5 104 underlying30 az ax aw av rfl Uj (UO ra X3.length rc) X3.length (X3.flatMap gZ) rfl (DD.out _) ⟨Z3.heap.size,0,UB⟩ 1 1 (gZ (UO a k r,UO (U ⟨g6,0,UB⟩) (k+1) c6,UO (U ⟨g7,0,UB⟩) (k+2) c7,UO (U ⟨g8,0,UB⟩) (k+3) c8,m)) rfl rfl (Wf (cs:=(gZ (UO a k r,UO (U ⟨g6,0,UB⟩) (k+1) c6,UO (U ⟨g7,0,UB⟩) (k+2) c7,UO (U ⟨g8,0,UB⟩) (k+3) c8,m)).toArray) (dH Z3 _)) (by simp[gZ,Wg]) O Up O (zN _) (Z3.heap.size+1) Ui ?_;intro g9 c9 w9 o9 ae a3 a9;have k9:aH ((UO ra X3.length rc).ownBlock.toList) Z3 w9:=aH.grown (((aH.refl _ Z3).alloc _).drew) ae (fun k hk=>.inl (by simp[hk]));have d9:=k9.cell (fun e=>al (by simpa using e)) d2;have f9:=(k9.frozen (fun e=>al (by simpa using e)) (U1 _ _ d2)).trans fB))
   all_goals
    go_wp21;(try simp only[V7,Exit.then]);refine bodyPost_end (results_none rfl _ _ _) rfl ?_;refine⟨rfl,HB.xg B3 C hn a4 (U0 HW.size A.2.size) HK k9 o9 (fun b j=>by simp[V9] at j;subst j;exact a3.imp id (fun e=>by omega))⟩
open aA (aQ)
variable {w w1 w2:UF}{B:Uw}{v0 v1 r1 r2 r3 q1 q2 q3:UG}{K K1 L:Ut Uw}{X1 X2 X3 Y1 Y2 Y3:Ut KL}{m:Uw}
structure mD(w:UF)(B:M)(v0 v1:UG)(K:J M)(r1 r2 r3:UG)(L:J M)(m:M)(w1:UF)(K1:J M)(q1 q2 q3:UG)(Y1 Y2 Y3:J KL):Prop where
 bk:BK w1 B v0 v1 K1 q1 q2 q3 Y1 Y2 Y3
 len:Y1.length+Y2.length+Y3.length=m
 off:aH (L++cQ B r1 r2 r3) w w1
 kk:∀ b∈K1,b∈K\/b∈L\/w<=b
 rr:∀ b∈cQ B q1 q2 q3,b∈cQ B r1 r2 r3\/w<=b
theorem mD.refl(h:BK w B v0 v1 K r1 r2 r3 X1 X2 X3):mD w B v0 v1 K r1 r2 r3 [] (X1.length+X2.length+X3.length) w K r1 r2 r3 X1 X2 X3:=⟨h,rfl,aH.refl _ _,fun _ f=>.inl f,fun _ f=>.inl f⟩
theorem mD.step(h:mD w B v0 v1 K r1 r2 r3 L m w1 K1 q1 q2 q3 Y1 Y2 Y3){l:UG}(k:s9 w1 B v0 v1 K1 q1 q2 q3 l (Y1.length+Y2.length+Y3.length) w2):∃ C r q j A y Z3,mD w B v0 v1 K r1 r2 r3 (L++l.ownBlock.toList) (m+1) w2 C r q j A y Z3:=by
 let⟨C,r,q,j,A,y,Z3,k1,k2,k3,k4,k5⟩:=k;have E:=h.off.size;refine⟨C,r,q,j,A,y,Z3,k1,by rw[k2,h.len],?_,fun b t=>?_,fun b t=>?_⟩
 .refine (h.off.mono fun x f=>?_).trans' k3 fun x f=>?_
  .rcases Vb.1 f with f|f
   .exact X6 _ (X6 _ f)
   .exact X7 _ f
  .rcases Vb.1 f with f|f
   .exact .inl (X6 _ (X7 _ f))
   .exact (h.rr x f).imp (fun e=>X7 _ e) id
 .rcases k4 b t with e|e|e
  .rcases h.kk b e with e|e|e
   .exact .inl e
   .exact .inr (.inl (X6 _ e))
   .exact .inr (.inr e)
  .exact .inr (.inl (X7 _ Uo))
  .exact .inr (.inr O)
 .rcases k5 b t with e|e
  .exact h.rr b e
  .exact .inr O
theorem mD.free(h:mD w B v0 v1 K r1 r2 r3 L m w1 K1 q1 q2 q3 Y1 Y2 Y3){l:UG}(f:∀ b,l.ownBlock=U b->b<w/\b ∉ K/\b ∉ cQ B r1 r2 r3/\b ∉ L):∀ b,l.ownBlock=U b->b ∉ K1/\b ∉ cQ B q1 q2 q3:=fun b j=>by
 let⟨h1,h2,h3,h4⟩:=f b j;refine⟨fun e=>?_,fun e=>?_⟩
 .rcases h.kk b e with e|e|e
  .exact h2 e
  .exact h4 e
  .omega
 .rcases h.rr b e with e|e
  .exact h3 e
  .omega
theorem mD.own(h:mD w B v0 v1 K r1 r2 r3 L m w1 K1 q1 q2 q3 Y1 Y2 Y3){l:UG}{t:M}(f:w.ownsRow 0 t z l n xs)(j:∀ b,l.ownBlock=U b->b<w/\b ∉ K/\b ∉ cQ B r1 r2 r3/\b ∉ L):w1.ownsRow 0 t z l n xs :=dL f h.off fun b q e=>by grind
theorem mD.um(h:mD w B v0 v1 K r1 r2 r3 L m w1 K1 q1 q2 q3 Y1 Y2 Y3)(f:m<=1000000000):Y1.length<=1000000000/\Y2.length<=1000000000/\Y3.length<=1000000000:=by have:=h.len;omega
structure jS(w:UF)(K:J M)(N:J M)(u1 u2 u3 u4:UG)(l:J (aQ × UG))(d g e:J Ux):Prop where
 en:w.ownsRow 0 85 6 u1 l.length (l.flatMap gv)
 sp:∀ p∈l,w.ownsRow 0 83 2 p.2 p.1.aR.length (p.1.aR.flatMap ia)
 da:w.ownsRow 0 3 1 u2 d.length (d.map (V Y))
 gr:w.ownsRow 0 3 1 u3 g.length (g.map (V Y))
 ed:w.ownsRow 0 3 1 u4 e.length (e.map (V Y))
 pw:l.Pairwise fun p q=>∀ b,p.2.ownBlock=U b->q.2.ownBlock≠U b
 dg:∀ b,u2.ownBlock=U b->u3.ownBlock≠U b/\u4.ownBlock≠U b
 ge:∀ b,u3.ownBlock=U b->u4.ownBlock≠U b
 no:∀ b,(u1.ownBlock=U b\/u2.ownBlock=U b\/u3.ownBlock=U b\/u4.ownBlock=U b\/∃ p∈l,p.2.ownBlock=U b)->b ∉ K/\b ∉ N
def kV(l:J (aQ × UG)):J M:=l.flatMap fun p=>p.2.ownBlock.toList
def lW(u1 u2 u3 u4:UG)(l:J (aQ × UG)):J M:=kV l++u1.ownBlock.toList++u2.ownBlock.toList++u3.ownBlock.toList++u4.ownBlock.toList
theorem xN{l:J (aQ × UG)}{b:M}(h:b∈kV l):∃ p∈l,p.2.ownBlock=U b:=by let⟨p,hp,hb⟩:=ZG.1 h;exact⟨p,hp,by grind⟩
theorem Qb{l:J (aQ × UG)}{k:M}(f:k<l.length):(l.flatMap gv)[k*6+4]?=U (l[k]).2:=by
 induction l generalizing k with
 |nil=>simp at f
 |cons a r ih =>
  cases k with
  |zero=>simp[gv]
  |succ k =>have:=ih (k:=k) Uo;rw[VW,VZ (by simp[gv];omega)];simp only[gv,VB,VG,ZT];rw[<- this];congr 1;omega
section
variable {u1 u2 u3 u4:UG}{l:Ut (aQ × UG)}{d g e:Ut Ux}
theorem jS.Nf(h:jS w K (cQ B r1 r2 r3) u1 u2 u3 u4 l d g e){k:M}(q:k<l.length):∀ b,(l[k]).2.ownBlock=U b->b<w/\b ∉ K/\b ∉ cQ B r1 r2 r3/\b ∉ kV (l.take k):=fun b f=>by have j:=zg q;let⟨n1,n2⟩:=h.no b (.inr (.inr (.inr (.inr ⟨_,j,f⟩))));refine⟨fT (h.sp _ j) f,n1,n2,fun r=>?_⟩;let⟨p,hp,hpb⟩:=xN r;obtain⟨i,t,rfl⟩:=List.mem_iff_getElem.1 hp;rw[List.length_take] at t;rw[List.getElem_take] at hpb;exact List.pairwise_iff_getElem.1 h.pw i k O q O b hpb f
theorem jS.Ig(h:jS w K (cQ B r1 r2 r3) u1 u2 u3 u4 l d g e):∀ b,u1.ownBlock=U b->b<w/\b ∉ K/\b ∉ cQ B r1 r2 r3/\b ∉ kV l:=fun b f=>by let⟨n1,n2⟩:=h.no b (.inl f);refine⟨fT h.en f,n1,n2,fun j=>?_⟩;let⟨p,hp,hpb⟩:=xN j;exact sg h.en (h.sp p hp) Uj f hpb
theorem jS.BI(h:jS w K (cQ B r1 r2 r3) u1 u2 u3 u4 l d g e)(j:w.ownsRow 0 3 1 u n xs){b:M}(q:u.ownBlock=U b):b ∉ kV l++u1.ownBlock.toList:=fun f=>by
 rcases Vb.1 f with f|f
 .let⟨p,hp,hpb⟩:=xN f;exact sg j (h.sp p hp) Uj q hpb
 .exact sg j h.en Uj q Uo
theorem jS.Sz(h:jS w K (cQ B r1 r2 r3) u1 u2 u3 u4 l d g e):∀ b,u2.ownBlock=U b->b<w/\b ∉ K/\b ∉ cQ B r1 r2 r3/\b ∉ kV l++u1.ownBlock.toList:=fun b f=>by let⟨n1,n2⟩:=h.no b (.inr (.inl f));exact⟨fT h.da f,n1,n2,h.BI h.da f⟩
theorem jS.OQ(h:jS w K (cQ B r1 r2 r3) u1 u2 u3 u4 l d g e):∀ b,u3.ownBlock=U b->b<w/\b ∉ K/\b ∉ cQ B r1 r2 r3/\b ∉ kV l++u1.ownBlock.toList++u2.ownBlock.toList:=fun b j=>by
 let⟨n1,n2⟩:=h.no b (.inr (.inr (.inl j)));refine⟨fT h.gr j,n1,n2,fun f=>?_⟩;rcases Vb.1 f with f|f
 .exact h.BI h.gr j f
 .exact (h.dg b Uo).1 j
theorem jS.Sc(h:jS w K (cQ B r1 r2 r3) u1 u2 u3 u4 l d g e):∀ b,u4.ownBlock=U b->b<w/\b ∉ K/\b ∉ cQ B r1 r2 r3/\b ∉ kV l++u1.ownBlock.toList++u2.ownBlock.toList++u3.ownBlock.toList:=fun b j=>by
 let⟨n1,n2⟩:=h.no b (.inr (.inr (.inr (.inl j))));refine⟨fT h.ed j,n1,n2,fun f=>?_⟩;rcases Vb.1 f with f|f
 .rcases Vb.1 f with f|f
  .exact h.BI h.ed j f
  .exact (h.dg b Uo).2 j
 .exact h.ge b Uo j
theorem jS.later(h:jS w K L u1 u2 u3 u4 l d g e)(k:UH w w w1):jS w1 K L u1 u2 u3 u4 l d g e :=⟨fG h.en k,fun p f=>fG (h.sp p f) k,fG h.da k,fG h.gr k,fG h.ed k,h.pw,h.dg,h.ge,h.no⟩
theorem jS.lt(h:jS w K L u1 u2 u3 u4 l d g e):∀ b∈lW u1 u2 u3 u4 l,b<w:=fun b f=>by
 simp only[lW,Vb,Wn] at f;rcases f with (((f|f)|f)|f)|f
 .let⟨p,hp,hpb⟩:=xN f;exact fT (h.sp p hp) hpb
 .exact fT h.en f
 .exact fT h.da f
 .exact fT h.gr f
 .exact fT h.ed f
theorem uv{t:M}(h:W.ownsRow b0 t z v n xs){k:M}(f:xs[k]?=U u):∃ g cap,v=UO (U ⟨g,0,UB⟩) n cap/\W.cell? (g,k)=U u:=by
 rcases h.2 with ⟨rfl,rfl⟩|⟨g,cap,j,rfl,_,q,_⟩
 .have:=h.1;rw[V6,List.length_eq_zero_iff] at this;simp[this] at f
 .exact⟨g,cap,rfl,(xz g k) ▸ h.cells (g:=g) rfl k u f⟩
theorem QJ{l:J (aQ × UG)}{k:M}(f:k<l.length):kV (l.take (k+1))=kV (l.take k)++(l[k]).2.ownBlock.toList:=by unfold kV;rw[VL f,List.flatMap_append];simp
theorem Ht{l:J (aQ × UG)}{k b:M}(h:b∈kV (l.take k)):b∈kV l:=by grind[kV]
def kh(f at_ n:N)(u1 u2 u3 u4:UG):Obj:=UX #[f,at_,n,u1,u2,u3,u4] 74 (0,0)
theorem mD.box(h:mD w B v0 v1 K r1 r2 r3 L m w1 K1 q1 q2 q3 Y1 Y2 Y3)(f:w.heap[Q]?=U o)(j:Q ∉ L)(q:Q ∉ cQ B r1 r2 r3):w1.heap[Q]?=U o :=(h.off.block Q (YC.1 f).1 (fun e=>by grind)).trans f
theorem mD.down(k:UH w w X)(h:mD X B v0 v1 K r1 r2 r3 L m w1 K1 q1 q2 q3 Y1 Y2 Y3):mD w B v0 v1 K r1 r2 r3 L m w1 K1 q1 q2 q3 Y1 Y2 Y3 :=⟨h.bk,h.len,(aH.aD k).trans h.off,fun b f=>(h.kk b f).imp id (Or.imp id fun e=>U0 k.size e),fun b f=>(h.rr b f).imp id fun e=>U0 k.size e⟩
def kJ(X:UF)(B:M)(v0 v1:UG)(K:J M)(r1 r2 r3:UG)(L:J M)(m:M)(wr:UF):Prop:=∃ t j h f r q Z3,mD X B v0 v1 K r1 r2 r3 L m wr t j h f r q Z3
theorem kJ.ints(h:kJ w B v0 v1 K r1 r2 r3 L m w1)(r:m<=1000000000)(j:w.ownsRow 0 3 1 u n xs)(q:n<=900000)(f:∀ b,u.ownBlock=U b->b<w/\b ∉ K/\b ∉ cQ B r1 r2 r3/\b ∉ L):UI prog 44 #[UM (U ⟨B,2,UB⟩),u] w1 fun e w'=>e=UW (US #[])/\kJ w B v0 v1 K r1 r2 r3 (L++u.ownBlock.toList) (m+1) w':=by
 let⟨K1,q1,q2,q3,Y1,Y2,Y3,k⟩:=h;let⟨y1,y2,y3⟩:=k.um r;refine aK (Su k.bk y1 y2 y3 (k.own j f) q (k.free f)) fun w2 t=>?_;exact⟨rfl,k.step t⟩
theorem kJ.aR(h:kJ w B v0 v1 K r1 r2 r3 L m w1)(r:m<=1000000000)(j:w.ownsRow 0 83 2 u n xs)(q:n<=900000)(f:∀ b,u.ownBlock=U b->b<w/\b ∉ K/\b ∉ cQ B r1 r2 r3/\b ∉ L):UI prog 42 #[UM (U ⟨B,2,UB⟩),u] w1 fun e w'=>e=UW (US #[])/\kJ w B v0 v1 K r1 r2 r3 (L++u.ownBlock.toList) (m+1) w':=by
 let⟨K1,q1,q2,q3,Y1,Y2,Y3,k⟩:=h;let⟨y1,y2,y3⟩:=k.um r;refine aK (Sv k.bk y1 y2 y3 (k.own j f) q (k.free f)) fun w2 t=>?_;exact⟨rfl,k.step t⟩
theorem kJ.entries(h:kJ w B v0 v1 K r1 r2 r3 L m w1)(r:m<=1000000000)(j:w.ownsRow 0 85 6 u n xs)(q:n<=900000)(f:∀ b,u.ownBlock=U b->b<w/\b ∉ K/\b ∉ cQ B r1 r2 r3/\b ∉ L):UI prog 43 #[UM (U ⟨B,2,UB⟩),u] w1 fun e w'=>e=UW (US #[])/\kJ w B v0 v1 K r1 r2 r3 (L++u.ownBlock.toList) (m+1) w':=by
 let⟨K1,q1,q2,q3,Y1,Y2,Y3,k⟩:=h;let⟨y1,y2,y3⟩:=k.um r;refine aK (SC k.bk y1 y2 y3 (k.own j f) q (k.free f)) fun w2 t=>?_;exact⟨rfl,k.step t⟩
theorem QM(h:BK w B v0 v1 K r1 r2 r3 X1 X2 X3)(hm:X1.length+X2.length+X3.length+l.length+4<=1000000000)(R:jS w K (cQ B r1 r2 r3) u1 u2 u3 u4 l d g e)(hl:l.length<=1000)(hs:∀ p∈l,p.1.aR.length<=900000)(hd:d.length<=900000)(hg:g.length<=900000)(he:e.length<=900000)(I at_ n:N):UI prog 27 #[UM (U ⟨B,2,UB⟩),bT I at_ n u1 u2 u3 u4] w fun x w'=>x=UW (US #[])/\kJ w B v0 v1 K r1 r2 r3 (lW u1 u2 u3 u4 l) (X1.length+X2.length+X3.length+l.length+4) w':=by
 have kW:UH w w (w.alloc (kh I at_ n u1 u2 u3 u4)):=(zr _ _).alloc (zq _) _;have hQ:=dH w (kh I at_ n u1 u2 u3 u4);obtain⟨j,f,rfl⟩:=iD R.en;obtain⟨t,r,rfl⟩:=iD R.da;obtain⟨A,y,rfl⟩:=iD R.gr;obtain⟨E,C,rfl⟩:=iD R.ed;have RW:=aB (R.later kW);have HS:=aB (Vf hs (Vf hd (Vf hg he)));have BX:Hid (∀ T,(∀ b∈T,b∈lW (UO j l.length f) (UO t d.length r) (UO A g.length y) (UO E e.length C) l)->∀ m' W,kJ (w.alloc (kh I at_ n (UO j l.length f) (UO t d.length r) (UO A g.length y) (UO E e.length C))) B v0 v1 K r1 r2 r3 T m' W->W.cell? (w,3)=U (UO j l.length f)/\W.cell? (w,4)=U (UO t d.length r)/\W.cell? (w,5)=U (UO A g.length y)/\W.cell? (w,6)=U (UO E e.length C)):=fun T hL m' W k=>by obtain⟨K1,q1,q2,q3,Y1,Y2,Y3,k⟩:=k;have q:=k.box hQ (fun hx=>by have:=R.lt _ (hL _ hx);omega) (fun hx=>by have:=h.lt _ hx;omega);exact⟨bN q 3 rfl,bN q 4 rfl,bN q 5 rfl,bN q 6 rfl⟩
 have G0:Hid (kJ (w.alloc (kh I at_ n (UO j l.length f) (UO t d.length r) (UO A g.length y) (UO E e.length C))) B v0 v1 K r1 r2 r3 [] (X1.length+X2.length+X3.length) (w.alloc (kh I at_ n (UO j l.length f) (UO t d.length r) (UO A g.length y) (UO E e.length C)))):=⟨_,_,_,_,_,_,_,mD.refl (h.later kW)⟩;have DN:Hid (∀ T m' W,kJ (w.alloc (kh I at_ n (UO j l.length f) (UO t d.length r) (UO A g.length y) (UO E e.length C))) B v0 v1 K r1 r2 r3 T m' W->kJ w B v0 v1 K r1 r2 r3 T m' W):=fun T m' W ⟨K1,q1,q2,q3,Y1,Y2,Y3,k⟩=>⟨K1,q1,q2,q3,Y1,Y2,Y3,k.down kW⟩;clear kW hQ h R hs hd hg he;simp only[bT];go_in;go_upto_region 1 with fail;change YD _ _ _ _ (w.alloc (kh I at_ n (UO j l.length f) (UO t d.length r) (UO A g.length y) (UO E e.length C)));generalize w.alloc (kh I at_ n (UO j l.length f) (UO t d.length r) (UO A g.length y) (UO E e.length C))=X at RW BX G0 DN ⊢;generalize hM:X1.length+X2.length+X3.length=M at *;have af:Hid (∀ k,∀ b∈kV (l.take k),b∈lW (UO j l.length f) (UO t d.length r) (UO A g.length y) (UO E e.length C) l):=fun k b q=>by simp only[lW,Vb];exact .inl (.inl (.inl (.inl (Ht q))))
 go_wp2_with fail;go_loopw [4] (fun v wr=>∃ k:Uw,k<=l.length/\v=V Y k/\kJ X B v0 v1 K r1 r2 r3 (kV (l.take k)) (M+k) wr) (fun v _=>l.length-(intOf v).toNat)
 case atStart=>exact⟨0,VM _,rfl,by simpa[kV] using G0.out⟩
 case round =>
  obtain⟨k,hk,rfl,S⟩:=hrel;have HK:=aB S;obtain⟨x3,_,_,_⟩:=BX _ (af.out k) _ _ S;clear S;by_cases H:k<l.length
  .have ad:(k:N)<(l.length:N):=O
   have SP:=aB (kJ.aR HK O (RW.sp _ (zg H)) (HS.1 _ (zg H)) (RW.Nf H));have EC:∃ g cap,(UO j l.length f)=UO (U ⟨g,0,UB⟩) l.length cap/\wr.cell? ⟨g,k*6+4,UB⟩=U (l[k]).2:=by
    obtain⟨K1,q1,q2,q3,Y1,Y2,Y3,kk⟩:=HK;exact uv (kk.own RW.en fun b q=>by obtain⟨y1,y2,y3,y4⟩:=RW.Ig b q;exact⟨y1,y2,y3,fun hx=>y4 (Ht hx)⟩) (Qb H)
   obtain⟨g0,ag,e0,y4⟩:=EC;simp only[XS,true_and] at e0;obtain⟨rfl,rfl⟩:=e0;go_wp2_with (first
    |(go_at_call 42;refine SP.mono ?_;rintro e w1 ⟨rfl,h1⟩;have H1:=aB h1;clear h1))
   go_roundw
   case rel=>exact⟨k+1,by omega,by go_num,by rw[QJ H,<- Nat.add_assoc];exact H1.out⟩
   .simp[intOf];omega
  .have ad:¬ (k:N)<(l.length:N):=O
   have ae:k=l.length:=O;subst ae;rw[List.take_length] at HK;have ac:Hid (∀ b∈kV l++(UO j l.length f).ownBlock.toList,b∈lW (UO j l.length f) (UO t d.length r) (UO A g.length y) (UO E e.length C) l):=fun b q=>by unfold lW;exact X6 _ (X6 _ (X6 _ q))
   have ab:Hid (∀ b∈kV l++(UO j l.length f).ownBlock.toList++(UO t d.length r).ownBlock.toList,b∈lW (UO j l.length f) (UO t d.length r) (UO A g.length y) (UO E e.length C) l):=fun b q=>by unfold lW;exact X6 _ (X6 _ q)
   have aa:Hid (∀ b∈kV l++(UO j l.length f).ownBlock.toList++(UO t d.length r).ownBlock.toList++(UO A g.length y).ownBlock.toList,b∈lW (UO j l.length f) (UO t d.length r) (UO A g.length y) (UO E e.length C) l):=fun b q=>by unfold lW;exact X6 _ q
   have C1:=aB (kJ.entries HK O RW.en O RW.Ig);go_upto_region 6 with (first|(go_at_call 43;refine C1.mono ?_;rintro e1 w1 ⟨rfl,h1⟩;have H1:=aB h1;clear h1));obtain⟨_,x4,_,_⟩:=BX _ ac.out _ _ H1;have C2:=aB (kJ.ints H1 O RW.da HS.2.1 RW.Sz);clear x3 C1;go_upto_region 7 with (first|(go_at_call 44;refine C2.mono ?_;rintro e1 w2 ⟨rfl,h2⟩;have H2:=aB h2;clear h2));obtain⟨_,_,x5,_⟩:=BX _ ab.out _ _ H2;have C3:=aB (kJ.ints H2 O RW.gr HS.2.2.1 RW.OQ);clear x4 C2;go_upto_region 8 with (first|(go_at_call 44;refine C3.mono ?_;rintro e1 w3 ⟨rfl,h3⟩;have H3:=aB h3;clear h3));obtain⟨_,_,_,x6⟩:=BX _ aa.out _ _ H3;have C4:=aB (kJ.ints H3 O RW.ed HS.2.2.2 RW.Sc);clear x5 C3;go_wp2_with (first|(go_at_call 44;refine C4.mono ?_;rintro e1 w4 ⟨rfl,h4⟩;have H4:=aB h4;clear h4));(try simp only[V7,Exit.then]);refine bodyPost_end (results_none rfl _ _ _) rfl ?_;exact⟨rfl,by rw[hM];exact DN _ _ _ H4⟩
end
open aA (aQ St bS Inv)
inductive Tg
 |no|pr (i:Uw)|dc (i:Uw)|xs|ys|bk|kp
structure Dk where
 p:M
 d:M
 s:St
 r:Raw
 aM:M->Uu bO
 dd:M
 xs:J (aQ × M × M)
 F:J M
structure zE(w:UF)(tg:M->Tg)(i:M)(k:Dk):Prop where
 bd:BD w k.p k.d k.s k.r k.aM
 dd:DD w k.dd k.s k.xs k.F
 pp:tg k.p=.pr i
 pc:∀ b c,k.aM b=U c->tg b=.pr i
 df:∀ b∈k.F,tg b=.dc i
 ds:∀ x∈k.xs,tg x.2.1=.dc i
structure oO(w:UF)(tg:M->Tg)(D:J Dk):Prop where
 at_:∀ (i:M) (k:Dk),D[i]?=U k->zE w tg i k
 env:Env w
 lt:∀ b,tg b≠.no->b<w
 gl:∀ b,b<10->tg b=.no
variable {w w1 w2 w':UF}{tg tg':Uw->Tg}{i:Uw}{k:Dk}{D:Ut Dk}{G:Ut Uw}
theorem aH.qM(h:aH G w w')(f:10<=w.heap.size)(r:∀ b∈G,10<=b):UH 10 w w':=⟨h.os,h.tape,h.output,h.size,fun b q=>h.block b O fun j=>by grind⟩
theorem BD.off{d:M}{s:St}{r:Raw}(h:BD w p d s r aM)(k:aH G w w')(j:∀ b∈G,aM b=UB/\b≠p)(q:Env w'):BD w' p d s r aM :=⟨(k.block p (YC.1 h.pc).1 fun f=>(j p f).2 rfl).trans h.pc,h.pn,⟨h.ds.dk.off k fun x f=>(j x f).1,h.ds.of,h.ds.wl,h.ds.hl,h.ds.inv⟩,q,h.gl⟩
theorem zE.off(h:zE w tg i k)(y:aH G w w')(q:∀ b∈G,tg b≠.pr i/\tg b≠.dc i)(A:Env w')(ht:∀ b,tg b≠.no->tg' b=tg b):zE w' tg' i k:=by
 have e:∀ {b t},tg b=t->t≠.no->tg' b=t:=fun E H=>(ht _ Uo).trans E;refine⟨h.bd.off y (fun b f=>⟨?_,fun eb=>(q b f).1 (eb ▸ h.pp)⟩) A,h.dd.off y (fun x j r=>(q x r).2 (h.df x j)) (fun x j r=>(q _ r).2 (h.ds x j)),e h.pp Ui,fun b c f=>e (h.pc b c f) Ui,fun b f=>e (h.df b f) Ui,fun x j=>e (h.ds x j) Ui⟩
 cases C:k.aM b with
 |none=>rfl
 |some c=>exact ((q b f).1 (h.pc b c C)).elim
theorem oO.off(h:oO w tg D)(j:aH G w w')(r:∀ b∈G,(∀ i,tg b≠.pr i/\tg b≠.dc i)/\10<=b)(ht:∀ b,tg b≠.no->tg' b=tg b)(t:∀ b,tg' b≠.no->b<w')(A:∀ b,b<10->tg' b=.no):oO w' tg' D:=by have q:=h.env.qM (j.qM h.env.size fun b f=>(r b f).2);exact⟨fun i k y=>(h.at_ i k y).off j (fun b f=>(r b f).1 i) q ht,q,t,A⟩
theorem oO.later(h:oO w tg D)(k:UH w w w'):oO w' tg D :=h.off (G:=[]) (aH.aD k) Ui (fun _ _=>rfl) (fun b f=>zL (h.lt b f) k.size) h.gl
theorem oO.doc(h:oO w tg D)(t:D[i]?=U k){q:St × bS}(P:oA w k.p k.d k.aM q v w1):DD w1 k.dd k.s k.xs k.F:=by
 let⟨r',col',bd,st,_⟩:=P;let⟨G,ko,hG⟩:=st.off;have K:=h.at_ i k t;have f:∀ b,tg b=.dc i->b ∉ G:=fun b y j=>by
  rcases hG b j with ⟨c,r,_⟩|⟨_,r⟩
  .have:=K.pc b c r;rw[y] at this;cases this
  .have:=h.lt b Uo;omega
 exact K.dd.off ko (fun x j=>f x (K.df x j)) (fun x j=>f _ (K.ds x j))
open Classical in
theorem oO.both(h:oO w tg D)(hi:D[i]?=U k){q:St × bS}{e:Ending}(P:oA w k.p k.d k.aM q v w1)(Q:rK w1 k.dd k.F k.xs q e w2):
  ∃ (k':Dk) (tg':M->Tg),oO w2 tg' (D.set i k')/\k'.p=k.p/\k'.dd=k.dd/\k'.s=q.1/\(∀ b,tg b≠.no->tg' b=tg b)/\(∀ b,tg' b≠.no->tg b≠.no\/w.heap.size<=b)/\(∃ G,aH G w w2/\∀ b∈G,tg b=.pr i\/tg b=.dc i\/w.heap.size<=b)/\∃ (u1 u2 u3 u4:UG) (l:J (aQ × UG)),v=bT q.2.err q.2.at_ q.2.n u1 u2 u3 u4/\l.map (·.1)=q.2.entries/\jS w2 [] [] u1 u2 u3 u4 l q.2.days q.2.granted q.2.ended/\∀ b∈lW u1 u2 u3 u4 l,tg' b=.no/\w.heap.size<=b:=by
 have ao:=h.doc hi P;obtain⟨r',col',bd,st,u1,u2,u3,u4,l,rfl,hl,R,I,e3,e4,e5,e6⟩:=P;obtain⟨v1,v2,v3,v4,C,F',_,_,_,dd,hF,kd,A⟩:=Q;have K:=h.at_ i k hi;have ak:i<D.length:=(Zt.1 hi).1;obtain⟨G,ko,hG⟩:=st.off;have s1:=ko.size;have s2:=kd.size;have ar:=h.env.size
 -- what lies in the document's desk
 have ad:∀ b∈F',tg b=.dc i\/w1.heap.size<=b:=fun b f=>(hF b f).imp (K.df b) id
 have ab:∀ x∈C,tg x.2.1=.dc i\/w1.heap.size<=x.2.1:=fun x ai=>by
  rcases A x ai with ⟨y,hy,e⟩|e
  .exact .inl (by rw[e];exact K.ds y hy)
  .exact .inr e
 have ac:∀ b c,col' b=U c->tg b=.pr i\/(w.heap.size<=b/\b<w1.heap.size):=fun b c r=>by
  rcases st.new b c r with e|e
  .exact .inl (K.pc b c e)
  .refine .inr ⟨e,?_⟩;rcases ZU b w1.heap.size with e' |e'
   .exact e'
   .rw[bd.ds.dk.none e'] at r;cases r
 let tn:M->Tg:=fun b=>if b<w.heap.size then tg b else if col' b≠UB then .pr i else if b∈F'\/∃ x∈C,x.2.1=b then .dc i else .no
 have T:∀ b,b<w.heap.size->tn b=tg b:=fun b f=>Uz f
 have E:∀ b,tg b≠.no->tn b=tg b:=fun b f=>T b (h.lt b f)
 have ag:∀ b c,col' b=U c->tn b=.pr i:=fun b c r=>by
  rcases ac b c r with e|⟨e,_⟩
  .rw[E b (by rw[e];simp),e]
  .show (if _ then _ else _)=_;rw[Uy O,Uz (by rw[r];simp)]
 have aa:∀ b,(b∈F'\/∃ x∈C,x.2.1=b)->tn b=.dc i:=fun b f=>by
  have al:tg b=.dc i\/w1.heap.size<=b:=by
   rcases f with f|⟨x,A,rfl⟩
   .exact ad b f
   .exact ab x A
  rcases al with e|e
  .rw[E b (by rw[e];simp),e]
  .show (if _ then _ else _)=_;rw[Uy O,Uy (by simpa using bd.ds.dk.none e),Uz f]
 have af:∀ b,w.heap.size<=b->b<w1.heap.size->col' b=UB->tn b=.no:=fun b h1 h2 h3=>by
  show (if _ then _ else _)=_;rw[Uy O,Uy (by simpa using h3),Uy ?_];rintro (f|⟨x,A,rfl⟩)
  .rcases ad b f with e|e
   .have:=h.lt b (by rw[e];simp);omega
   .omega
  .rcases ab x A with e|e
   .have:=h.lt _ (by rw[e];simp);omega
   .omega
 have aq:∀ b∈k.F,tg b=.dc i:=K.df
 have ae:∀ b∈k.F,10<=b:=fun b f=>by
  rcases ZU b 10 with e|e
  .have:=h.gl b e;rw[K.df b f] at this;cases this
  .exact e
 have au:∀ b∈G,10<=b:=fun b f=>by
  rcases hG b f with ⟨c,r,_⟩|⟨_,r⟩
  .rcases ZU b 10 with e|e
   .rw[K.bd.gl b e] at r;cases r
   .exact e
  .omega
 have H:Env w2:=bd.env.qM (kd.qM O ae);have kW:aH (G++k.F) w w2:=(ko.mono fun x A=>X6 _ A).trans' kd fun x A=>.inl (X7 _ A)
 have GT:∀ b∈G++k.F,tg b=.pr i\/tg b=.dc i\/w.heap.size<=b:=fun b f=>by
  rcases Vb.1 f with f|f
  .rcases hG b f with ⟨c,r,_⟩|⟨_,r⟩
   .exact .inl (K.pc b c r)
   .exact .inr (.inr r)
  .exact .inr (.inl (K.df b f))
 have an:BD w2 k.p k.d q.1 r' col':=bd.off kd (fun b f=>by
  have ht:=K.df b f;refine⟨?_,fun e=>by have:=K.pp;rw[<- e,ht] at this;cases this⟩
  cases r:col' b with
  |none=>rfl
  |some c =>
   rcases ac b c r with e|e
   .rw[ht] at e;cases e
   .have:=h.lt b (by rw[ht];simp);omega) H
 -- the answer's rows
 have row:∀ {u:UG}{t z n:M}{xs:J UG},w1.ownsRow w.heap.size t z u n xs->(∀ b,u.ownBlock=U b->col' b=UB)->w2.ownsRow 0 t z u n xs/\∀ b,u.ownBlock=U b->tn b=.no/\w.heap.size<=b:=fun ho hn=>by
  have lt:∀ b,_=U b->w.heap.size<=b/\b<w1.heap.size:=fun b f=>ho.lt b f
  refine⟨uC (dL ho kd fun b f A=>?_) (zN _),fun b f=>⟨af b (lt b f).1 (lt b f).2 (hn b f),(lt b f).1⟩⟩;have:=h.lt b (by rw[K.df b A];simp);have:=(lt b f).1;omega
 have R1:=row R.own R.no;have RS:=fun p (hp:p∈l)=>row (R.sp p hp).1.own (R.sp p hp).1.no
 have R2:=row I.own I.no;have R3:=row e3.own e3.no;have R4:=row e4.own e4.no;refine⟨⟨k.p,k.d,q.1,r',col',k.dd,C,F'⟩,tn,⟨fun j kj hj=>?_,H,fun b f=>?_,fun b f=>?_⟩,rfl,rfl,rfl,E,fun b f=>?_,⟨_,kW,GT⟩,u1,u2,u3,u4,l,rfl,hl,⟨R1.1,fun p hp=>(RS p hp).1,R2.1,R3.1,R4.1,R.pw,fun b f=>⟨fun e=>(e5 b e).2.1 f,e6 b f⟩,fun b f=>(e5 b f).2.2.1,fun _ _=>by simp⟩,fun b f=>?_⟩
 .rw[ZV] at hj
  by_cases e:i=j
  .subst e;rw[Uz rfl,Uz ak] at hj
   cases hj
   exact⟨an,dd,(E _ (by rw[K.pp];simp)).trans K.pp,ag,fun b f=>aa b (.inl f),fun x A=>aa _ (.inr ⟨x,A,rfl⟩)⟩
  .rw[Uy e] at hj;refine (h.at_ j kj hj).off kW (fun b f=>?_) H E;rcases GT b f with R|R|R
   .rw[R];exact⟨fun I=>e (by injection I),by simp⟩
   .rw[R];exact⟨by simp,fun I=>e (by injection I)⟩
   .have:tg b=.no:=by
     rcases ZW (tg b=.no) with I|I
     .exact I
     .have:=h.lt b I;omega
    rw[this];simp
 .rcases ZU b w.heap.size with e|e
  .omega
  .have S:(if b<w.heap.size then tg b else if col' b≠UB then Tg.pr i else if b∈F'\/∃ x∈C,x.2.1=b then Tg.dc i else Tg.no)≠.no:=f;rw[Uy O] at S
   by_cases r:col' b≠UB
   .rcases ZU b w1.heap.size with e' |e'
    .omega
    .exact (r (bd.ds.dk.none e')).elim
   .rw[Uy r] at S
    by_cases hf:b∈F'\/∃ x∈C,x.2.1=b
    .rcases hf with hf|⟨x,A,rfl⟩
     .exact dd.lt b hf
     .exact (dd.rd.sp x A).2.2
    .rw[Uy hf] at S;exact (S rfl).elim
 .rw[T b O];exact h.gl b f
 .rcases ZU b w.heap.size with e|e
  .exact .inl (by rw[<- T b e];exact f)
  .exact .inr e
 .simp only[lW,Vb,Wn] at f;rcases f with (((f|f)|f)|f)|f
  .obtain⟨p,hp,aj⟩:=xN f;exact (RS p hp).2 b aj
  .exact R1.2 b f
  .exact R2.2 b f
  .exact R3.2 b f
  .exact R4.2 b f
structure LX(w0 w:UF)(B n:M)(tg:M->Tg)(D:J Dk)(K:J M)(v0 v1 r1 r2 r3:UG)(X1 X2 X3:J KL):Prop where
 ds:oO w tg D
 bk:BK w B v0 v1 K r1 r2 r3 X1 X2 X3
 len:X1.length+X2.length+X3.length<=n
 xo:w.ownsRow 0 39 1 v0 D.length (D.map fun k=>UM (U ⟨k.p,0,UB⟩))
 yo:w.ownsRow 0 41 1 v1 D.length (D.map fun k=>UM (U ⟨k.dd,0,UB⟩))
 tb:∀ b∈cQ B r1 r2 r3,tg b=.bk
 tk:∀ b∈K,tg b=.kp
 tx:∀ b,v0.ownBlock=U b->tg b=.xs
 ty:∀ b,v1.ownBlock=U b->tg b=.ys
 d3:D.length<=3
 bl:UH w0 w0 w
 lo:∀ b,tg b≠.no->w0<=b
 rL:10<=w0.heap.size
def LW(w0 w:UF)(B n:M):Prop:=∃ tg D K v0 v1 r1 r2 r3 X1 X2 X3,LX w0 w B n tg D K v0 v1 r1 r2 r3 X1 X2 X3
section
variable {w0 w3 w4:UF}{B n:Uw}{K:Ut Uw}{v0 v1 r1 r2 r3:UG}{X1 X2 X3:Ut KL}
theorem LX.later(h:LX w0 w B n tg D K v0 v1 r1 r2 r3 X1 X2 X3)(k:UH w w w'):LX w0 w' B n tg D K v0 v1 r1 r2 r3 X1 X2 X3 :=⟨h.ds.later k,h.bk.later k,h.len,fG h.xo k,fG h.yo k,h.tb,h.tk,h.tx,h.ty,h.d3,h.bl.trans (k.mono h.bl.size),h.lo,h.rL⟩
theorem LW.later(h:LW w0 w B n)(k:UH w w w'):LW w0 w' B n:=by let⟨tg,D,K,v0,v1,r1,r2,r3,X1,X2,X3,h⟩:=h;exact⟨tg,D,K,v0,v1,r1,r2,r3,X1,X2,X3,h.later k⟩
theorem LW.more{m:M}(h:LW w0 w B n)(k:n<=m):LW w0 w B m:=by let⟨tg,D,K,v0,v1,r1,r2,r3,X1,X2,X3,h⟩:=h;exact⟨tg,D,K,v0,v1,r1,r2,r3,X1,X2,X3,⟨h.ds,h.bk,U0 h.len k,h.xo,h.yo,h.tb,h.tk,h.tx,h.ty,h.d3,h.bl,h.lo,h.rL⟩⟩
theorem Hs{α β:Type}(f:α->β){l:J α}{i:M}{a b:α}(h:l[i]?=U a)(e:f b=f a):(l.set i b).map f=l.map f:=by rw[List.map_set,e];obtain⟨r,rfl⟩:=Zt.1 h;apply List.ext_getElem?;intro j;rw[ZV];by_cases q:i=j;subst q;simp[r];rw[Uy q]
theorem Below.nL{f:M}(h:aH G w w')(r:f<=w)(t:∀ b∈G,f<=b):UH f w w':=⟨h.os,h.tape,h.output,h.size,fun b q=>h.block b O fun j=>by grind⟩
theorem LX.both(h:LX w0 w B n tg D K v0 v1 r1 r2 r3 X1 X2 X3)(C:D[i]?=U k){q:St × bS}{e:Ending}(P:oA w k.p k.d k.aM q v w1)(Q:rK w1 k.dd k.F k.xs q e w2):∃ (A:Dk) (tg':M->Tg),LX w0 w2 B n tg' (D.set i A) K v0 v1 r1 r2 r3 X1 X2 X3/\∃ (u1 u2 u3 u4:UG) (l:J (aQ × UG)),v=bT q.2.err q.2.at_ q.2.n u1 u2 u3 u4/\l.map (·.1)=q.2.entries/\jS w2 K (cQ B r1 r2 r3) u1 u2 u3 u4 l q.2.days q.2.granted q.2.ended/\∀ b∈lW u1 u2 u3 u4 l,tg' b=.no/\w0<=b:=by
 let⟨A,tg',d',e1,e2,_,t1,t2,⟨G,ko,hG⟩,u1,u2,u3,u4,l,hv,hl,hr,hn⟩:=h.ds.both C P Q;have j:∀ {b t},tg b=t->t≠.no->(∀ i,t≠.pr i)->(∀ i,t≠.dc i)->b ∉ G/\tg' b=t:=fun {b t} I h2 h3 h4=>by
  refine⟨fun hx=>?_,(t1 b Uo).trans I⟩;rcases hG b hx with e|e|e
  .exact h3 _ (I.symm.trans e)
  .exact h4 _ (I.symm.trans e)
  .have:=h.ds.lt b Uo;omega
 have y:∀ b∈cQ B r1 r2 r3,b ∉ G/\tg' b=.bk:=fun b f=>j (h.tb b f) Ui Ui Ui;have r:∀ b∈K,b ∉ G/\tg' b=.kp:=fun b f=>j (h.tk b f) Ui Ui Ui;have S:∀ b,v0.ownBlock=U b->b ∉ G/\tg' b=.xs:=fun b f=>j (h.tx b f) Ui Ui Ui;have R:∀ b,v1.ownBlock=U b->b ∉ G/\tg' b=.ys:=fun b f=>j (h.ty b f) Ui Ui Ui;have E:=h.bl.size;have G0:∀ b∈G,w0<=b:=fun b f=>by
  rcases hG b f with e|e|e
  .exact h.lo b (by rw[e];simp)
  .exact h.lo b (by rw[e];simp)
  .omega
 refine⟨A,tg',⟨d',h.bk.off ko (fun b f=>(y b f).1) (fun b f=>(r b f).1),h.len,?_,?_,fun b f=>(y b f).2,fun b f=>(r b f).2,fun b f=>(S b f).2,fun b f=>(R b f).2,by simpa using h.d3,h.bl.trans (Below.nL ko E G0),fun b f=>?_,h.rL⟩,u1,u2,u3,u4,l,hv,hl,?_,fun b f=>⟨(hn b f).1,by grind⟩⟩
 .rw[V5,Hs (fun k:Dk=>UM (U ⟨k.p,0,UB⟩)) C (by rw[e1])];exact dL h.xo ko fun b f=>(S b f).1
 .rw[V5,Hs (fun k:Dk=>UM (U ⟨k.dd,0,UB⟩)) C (by rw[e2])];exact dL h.yo ko fun b f=>(R b f).1
 .rcases t2 b f with e|e
  .exact h.lo b e
  .omega
 .refine⟨hr.en,hr.sp,hr.da,hr.gr,hr.ed,hr.pw,hr.dg,hr.ge,fun b f=>?_⟩
  have H:b∈lW u1 u2 u3 u4 l:=by
   simp only[lW,Vb,Wn];rcases f with f|f|f|f|⟨p,hp,f⟩
   .exact .inl (.inl (.inl (.inr f)))
   .exact .inl (.inl (.inr f))
   .exact .inl (.inr f)
   .exact .inr f
   .exact .inl (.inl (.inl (.inl (ZG.2 ⟨p,hp,by simpa using f⟩))))
  have T:=(hn b H).1;refine⟨fun e=>?_,fun e=>?_⟩
  .have:=(r b e).2;rw[T] at this;cases this
  .have:=(y b e).2;rw[T] at this;cases this
open Classical in
theorem LX.kept(h:LX w0 w B n tg D K v0 v1 r1 r2 r3 X1 X2 X3){L:J M}{m:M}(hm:m<=n)(S:∀ b∈L,tg b=.no/\w0.heap.size<=b)(k:kJ w B v0 v1 K r1 r2 r3 L m w4):LW w0 w4 B n:=by
 obtain⟨K',E,C,p3,Z1,Z2,Z3,r⟩:=k
 let A:M->Tg:=fun b=>if tg b≠.no then tg b else if b∈K' then .kp else if b∈cQ B E C p3 then .bk else .no
 have t:∀ b,tg b≠.no->A b=tg b:=fun b f=>Uz f
 have T:∀ b∈K',A b=.kp:=fun b f=>by
  by_cases e:tg b≠.no
  .rw[t b e];rcases r.kk b f with j|j|j
   .exact h.tk b j
   .exact (e (S b j).1).elim
   .have:=h.ds.lt b e;omega
  .show (if _ then _ else _)=_;rw[Uy e,Uz f]
 have aa:∀ b∈cQ B E C p3,A b=.bk:=fun b f=>by
  by_cases e:tg b≠.no
  .rw[t b e];rcases r.rr b f with j|j
   .exact h.tb b j
   .have:=h.ds.lt b e;omega
  .show (if _ then _ else _)=_;rw[Uy e,Uy ?_,Uz f];intro hk;have R:=f;simp only[cQ,Va,Vb,Wn] at R;have q:=r.bk.br.kb b hk;rcases R with rfl|j|j|j
   .exact r.bk.bK hk
   .exact q.2.1 j
   .exact q.2.2.1 j
   .exact q.2.2.2 j
 have G0:∀ b∈L++cQ B r1 r2 r3,w0.heap.size<=b:=fun b f=>by
  rcases Vb.1 f with f|f
  .exact (S b f).2
  .exact h.lo b (by rw[h.tb b f];simp)
 have ad:=h.ds.env.size;have ab:=h.bl.size
 have GT:∀ b∈L++cQ B r1 r2 r3,tg b=.no\/tg b=.bk:=fun b f=>by
  rcases Vb.1 f with f|f
  .exact .inl (S b f).1
  .exact .inr (h.tb b f)
 have ac:∀ b∈L++cQ B r1 r2 r3,10<=b:=fun b f=>by
  have h1:=G0 b f;have h2:=h.rL;omega
 have kx:∀ b,v0.ownBlock=U b->b ∉ L++cQ B r1 r2 r3:=fun b f hx=>by
  have:=h.tx b f;rcases GT b hx with e|e <;> rw[this] at e <;> cases e
 have ky:∀ b,v1.ownBlock=U b->b ∉ L++cQ B r1 r2 r3:=fun b f hx=>by
  have:=h.ty b f;rcases GT b hx with e|e <;> rw[this] at e <;> cases e
 have H:∀ b,A b≠.no->tg b≠.no\/b∈K'\/b∈cQ B E C p3:=fun b f=>by
  have y:(if tg b≠.no then tg b else if b∈K' then Tg.kp else if b∈cQ B E C p3 then Tg.bk else Tg.no)≠.no:=f
  by_cases e:tg b≠.no
  .exact .inl e
  .rw[Uy e] at y
   by_cases j:b∈K'
   .exact .inr (.inl j)
   .rw[Uy j] at y
    by_cases e2:b∈cQ B E C p3
    .exact .inr (.inr e2)
    .rw[Uy e2] at y;exact (y rfl).elim
 have I:∀ b,A b≠.no->w0.heap.size<=b:=fun b f=>by
  rcases H b f with e|e|e
  .exact h.lo b e
  .rcases r.kk b e with e|e|e
   .exact h.lo b (by rw[h.tk b e];simp)
   .exact (S b e).2
   .omega
  .rcases r.rr b e with e|e
   .exact h.lo b (by rw[h.tb b e];simp)
   .omega
 refine⟨A,D,K',v0,v1,E,C,p3,Z1,Z2,Z3,⟨h.ds.off r.off (fun b f=>⟨fun i=>?_,ac b f⟩) t (fun b f=>?_) (fun b f=>?_),r.bk,by rw[r.len];exact hm,dL h.xo r.off kx,dL h.yo r.off ky,aa,T,fun b f=>(t b (by rw[h.tx b f];simp)).trans (h.tx b f),fun b f=>(t b (by rw[h.ty b f];simp)).trans (h.ty b f),h.d3,h.bl.trans (Below.nL r.off ab G0),I,h.rL⟩⟩
 .rcases GT b f with e|e <;> rw[e] <;> simp
 .rcases H b f with e|e|e
  .exact zL (h.ds.lt b e) r.off.size
  .exact (r.bk.br.kb b e).1
  .exact r.bk.lt b e
 .rcases ZW (A b=.no) with e|e
  .exact e
  .have h1:=I b e;have h2:=h.rL;omega
end
theorem Ib{q:Array Oper}{rest:J Oper}{o:Oper}{a:Act}{Q:Exit->Act->UF->Prop}(I:o.guard=UB)(x y:Operand)(t:UK)(ho:o.op=.call { callee:=.builtin .append,args:=#[x,y],argTypes:=#[t,t] })
  {B e:M}{i:TypeInfo}{z:UG}(size f:M) (ht:prog.underlying t=U (.slice e)) (hi:prog.info? e=U i) (T:i.zero=U z) (j:i.size=size) (R:i.bytes=f) (A:f<=104) (C:z.cells.size=size) (H:0<size)
  {v:UG}{n:M}{xs:J UG}(r:W.ownsRow B e size v n xs) {cs:Array UG}{S:UK}{mk:M × M}(aa:cs.toList.length=size) (E:∀ u∈cs.toList,u.oneCell'=UE) (hs:a.eval x=v) (hx:a.eval y=UO W 1 1) (hl:n<=2000000) (hB:B<=W)
  (h:∀ g cap w',w'.ownsRow B e size (UO g (n+1) cap) (n+1) (xs++cs.toList)->aH v.ownBlock.toList W w'->(v.ownBlock=U g\/W<=g)->wpList prog q Q rest (a.put o.dst (UO g (n+1) cap)) w'):
  wpList prog q Q (o :: rest) a (W.alloc (UX cs S mk)):=by
 refine wpList_append_lies _ I x y t ho B e i z size f ht hi T j R C H v n xs hs (r.alloc _) (W,0) 1 1 cs.toList hx O (Wf (cs:=cs) (dH W _)) E O Up (U0 (Nat.mul_le_mul (show n+1<=2000001 by omega) A) Uj) Un (W.heap.size+1) Ui ?_;intro g cap w' h1 h2 h3 _;exact h g cap w' h1 (((aH.refl _ W).alloc _).grown h2 (fun k hk=>.inl (by simp[hk]))) (h3.imp id (fun e=>by omega))
def zD:Obj:=UX #[(),(),V Y 0,V Y 0] 45
theorem DD.zero(h:w.heap[Q]?=U zD):DD w Q jz [] [Q]:=by have q:=(YC.1 h).1;have c:∀ (i:M) {v:UG},#[UO UB 0 0,(),V Y 0,V Y 0][i]?=U v->w.cell? (Q,i)=U v:=fun i _ j=>bN h i j;refine⟨⟨⟨_,c 0 rfl,Wc _ _ _ _,fun k f=>by cases f⟩,⟨_,c 1 rfl,Wc _ _ _ _,fun k f=>by cases f⟩,c 2 rfl,c 3 rfl,fun o=>by simp[U2,h,zD],by simp,by simp⟩,rfl,fun k f=>by grind,by simp[jz],by simp[jz],by simp[jz]⟩
section
variable {w0 w w1 w2 w3 w5:UF}{B n:Uw}{tg:Uw->Tg}{D:Ut Dk}{K:Ut Uw}{v0 v1 r1 r2 r3 v0' v1':UG}{X1 X2 X3:Ut KL}
theorem BK.bM(h:BK w B v0 v1 K r1 r2 r3 X1 X2 X3)(v:UG):BK (w.setCell (B,0) v) B v v1 K r1 r2 r3 X1 X2 X3:=by
 have q:aH [B] w (w.setCell (B,0) v):=aH.bM ..;have j:∀ {t:M}{r:UG}{n:M}{xs:J UG},w.ownsRow 0 t 5 r n xs->34≠t->∀ b,r.ownBlock=U b->b ∉ [B]:=fun y ht b f e=>by rw[X9.1 e] at f;exact ki y h.hb ht f
 exact⟨by rw[nw h.hb];rfl,h.br.off q (j h.br.b1.own Uj) (j h.br.b2.own Uj) (j h.br.b3.own Uj) (fun b f e=>h.bK (X9.1 e ▸ f)),h.bK⟩
theorem BK.pY(h:BK w B v0 v1 K r1 r2 r3 X1 X2 X3)(v:UG):BK (w.setCell (B,1) v) B v0 v K r1 r2 r3 X1 X2 X3:=by
 have q:aH [B] w (w.setCell (B,1) v):=aH.bM ..;have j:∀ {t:M}{r:UG}{n:M}{xs:J UG},w.ownsRow 0 t 5 r n xs->34≠t->∀ b,r.ownBlock=U b->b ∉ [B]:=fun y ht b f e=>by rw[X9.1 e] at f;exact ki y h.hb ht f
 exact⟨by rw[nw h.hb];rfl,h.br.off q (j h.br.b1.own Uj) (j h.br.b2.own Uj) (j h.br.b3.own Uj) (fun b f e=>h.bK (X9.1 e ▸ f)),h.bK⟩
theorem LX.xB(h:LX w0 w B n tg D K v0 v1 r1 r2 r3 X1 X2 X3):∀ b,v0.ownBlock=U b->b ∉ cQ B r1 r2 r3/\b ∉ K/\v1.ownBlock≠U b/\b≠B:=fun b f=>by have ht:=h.tx b f;refine⟨fun e=>?_,fun e=>?_,fun e=>?_,fun e=>?_⟩;have:=h.tb b e;rw[ht] at this;cases this;have:=h.tk b e;rw[ht] at this;cases this;have:=h.ty b e;rw[ht] at this;cases this;have:=h.tb b (by rw[e];simp[cQ]);rw[ht] at this;cases this
theorem LX.yB(h:LX w0 w B n tg D K v0 v1 r1 r2 r3 X1 X2 X3):∀ b,v1.ownBlock=U b->b ∉ cQ B r1 r2 r3/\b ∉ K/\v0.ownBlock≠U b/\b≠B:=fun b f=>by have ht:=h.ty b f;refine⟨fun e=>?_,fun e=>?_,fun e=>?_,fun e=>?_⟩;have:=h.tb b e;rw[ht] at this;cases this;have:=h.tk b e;rw[ht] at this;cases this;have:=h.tx b e;rw[ht] at this;cases this;have:=h.tb b (by rw[e];simp[cQ]);rw[ht] at this;cases this
theorem LX.bt(h:LX w0 w B n tg D K v0 v1 r1 r2 r3 X1 X2 X3):tg B=.bk/\B<w:=⟨h.tb B (by simp[cQ]),h.bk.lt B (by simp[cQ])⟩
open Classical in
theorem LX.begin(h:LX w0 w B n tg D K v0 v1 r1 r2 r3 X1 X2 X3)(hD:D.length<3){d:M}(bd:BD w1 p d jz pJ aM)(k1:UH w.heap.size w w1)(hc:∀ b,b<w.heap.size->aM b=UB)(hp:w.heap.size<=p)
  (k2:aH v0.ownBlock.toList w1 w2) (o2:w2.ownsRow 0 39 1 v0' (D.length+1) ((D.map fun k=>UM (U ⟨k.p,0,UB⟩))++[UM (U ⟨p,0,UB⟩)])) (a2:∀ b,v0'.ownBlock=U b->v0.ownBlock=U b\/w1.heap.size<=b)
  (e3:w3=w2.setCell ⟨B,0,UB⟩ v0') (k5:aH v1.ownBlock.toList (w3.alloc zD) w5) (o5:w5.ownsRow 0 41 1 v1' (D.length+1) ((D.map fun k=>UM (U ⟨k.dd,0,UB⟩))++[UM (U ⟨w3.heap.size,0,UB⟩)])) (a5:∀ b,v1'.ownBlock=U b->v1.ownBlock=U b\/(w3.alloc zD).heap.size<=b):
  LW w0 (w5.setCell ⟨B,1,UB⟩ v1') B n:=by
 obtain⟨tB,lB⟩:=h.bt;have s1:=k1.size;have s2:=k2.size;have af:aH [B] w2 w3:=by rw[e3];exact aH.bM ..
 have s3:w3.heap.size=w2.heap.size:=by rw[e3];simp[World.setCell]
 have k4:UH w3.heap.size w3 (w3.alloc zD):=(zr _ _).alloc (zq _) _;have s4:(w3.alloc zD).heap.size=w3.heap.size+1:=Ui
 have s5:=k5.size;have C:aH [B] w5 (w5.setCell ⟨B,1,UB⟩ v1'):=aH.bM ..;have s6:=C.size;have ab:∀ b,v0.ownBlock=U b->b<w.heap.size:=fun b f=>h.ds.lt b (by rw[h.tx b f];simp)
 have H:∀ b,v1.ownBlock=U b->b<w.heap.size:=fun b f=>h.ds.lt b (by rw[h.ty b f];simp)
 have an:p<w1.heap.size:=(YC.1 bd.pc).1
 have R:∀ b c,aM b=U c->w.heap.size<=b/\b<w1.heap.size:=fun b c f=>by
  refine⟨?_,?_⟩
  .rcases ZU b w.heap.size with e|e
   .rw[hc b e] at f;cases f
   .exact e
  .rcases ZU b w1.heap.size with e|e
   .exact e
   .rw[bd.ds.dk.none e] at f;cases f
 have t:∀ b,v0'.ownBlock=U b->b<w2.heap.size:=fun b f=>fT o2 f
 have aa:∀ b,v1'.ownBlock=U b->b<w5.heap.size:=fun b f=>fT o5 f
 -- all that changes
 have kA:aH (B :: (v0.ownBlock.toList++v1.ownBlock.toList)) w1 (w5.setCell ⟨B,1,UB⟩ v1'):=by
  refine ((((k2.mono fun x j=>?_).trans (af.mono fun x j=>?_)).trans (aH.aD k4)).trans (k5.mono fun x j=>?_)).trans (C.mono fun x j=>?_)
  .exact Wm _ (X6 _ j)
  .rw[X9.1 j];exact XF ..
  .exact Wm _ (X7 _ j)
  .rw[X9.1 j];exact XF ..
 have kW:=(aH.aD (F:=B :: (v0.ownBlock.toList++v1.ownBlock.toList)) k1).trans kA
 have GT:∀ b∈B :: (v0.ownBlock.toList++v1.ownBlock.toList),(tg b=.bk\/tg b=.xs\/tg b=.ys)/\b<w.heap.size:=fun b f=>by
  simp only[Va,Vb,Wn] at f;rcases f with rfl|f|f
  .exact⟨.inl tB,lB⟩
  .exact⟨.inr (.inl (h.tx b f)),ab b f⟩
  .exact⟨.inr (.inr (h.ty b f)),H b f⟩
 have GN:∀ b∈B :: (v0.ownBlock.toList++v1.ownBlock.toList),tg b≠.no:=fun b f=>by
  rcases (GT b f).1 with e|e|e <;> rw[e] <;> simp
 have av:∀ b∈B :: (v0.ownBlock.toList++v1.ownBlock.toList),10<=b:=fun b f=>by
  rcases ZU b 10 with e|e
  .exact (GN b f (h.ds.gl b e)).elim
  .exact e
 let A:M->Tg:=fun b=>if tg b≠.no then tg b else if b=w3.heap.size then .dc D.length else if v0'.ownBlock=U b then .xs else if v1'.ownBlock=U b then .ys else if aM b≠UB\/b=p then .pr D.length else .no
 have y:∀ b,tg b≠.no->A b=tg b:=fun b f=>Uz f
 have I:∀ b,w.heap.size<=b->¬ tg b≠.no:=fun b f e=>by have:=h.ds.lt b e;omega
 have al:A w3.heap.size=.dc D.length:=by
  show (if _ then _ else _)=_;rw[Uy (I _ O),Uz rfl]
 have ak:∀ b,v0'.ownBlock=U b->A b=.xs:=fun b f=>by
  rcases a2 b f with e|e
  .rw[y b (by rw[h.tx b e];simp),h.tx b e]
  .show (if _ then _ else _)=_;rw[Uy (I _ O),Uy (by have:=t b f;omega),Uz f]
 have aj:∀ b,v1'.ownBlock=U b->A b=.ys:=fun b f=>by
  rcases a5 b f with e|e
  .rw[y b (by rw[h.ty b e];simp),h.ty b e]
  .show (if _ then _ else _)=_;rw[Uy (I _ O),Uy O,Uy (fun j=>by have:=t b j;omega),Uz f]
 have ac:∀ b,w.heap.size<=b->b<w1.heap.size->(aM b≠UB\/b=p)->A b=.pr D.length:=fun b h1 h2 f=>by
  show (if _ then _ else _)=_;rw[Uy (I _ h1),Uy O,Uy (fun j=>?_),Uy (fun j=>?_),Uz f]
  .rcases a5 b j with e|e
   .have:=H b e;omega
   .omega
  .rcases a2 b j with e|e
   .have:=ab b e;omega
   .omega
 have ad:∀ b,A b≠.no->(tg b≠.no\/w.heap.size<=b)/\b<(w5.setCell ⟨B,1,UB⟩ v1').heap.size:=fun b f=>by
  have r:(if tg b≠.no then tg b else if b=w3.heap.size then Tg.dc D.length else if v0'.ownBlock=U b then Tg.xs else if v1'.ownBlock=U b then Tg.ys else if aM b≠UB\/b=p then Tg.pr D.length else Tg.no)≠.no:=f
  by_cases e:tg b≠.no
  .exact⟨.inl e,by have:=h.ds.lt b e;omega⟩
  rw[Uy e] at r
  by_cases e1:b=w3.heap.size
  .exact⟨.inr O,by omega⟩
  rw[Uy e1] at r
  by_cases e2:v0'.ownBlock=U b
  .refine⟨?_,by have:=t b e2;omega⟩;rcases a2 b e2 with q|q
   .exact .inl (by rw[h.tx b q];simp)
   .exact .inr O
  rw[Uy e2] at r
  by_cases e3:v1'.ownBlock=U b
  .refine⟨?_,by have:=aa b e3;omega⟩;rcases a5 b e3 with q|q
   .exact .inl (by rw[h.ty b q];simp)
   .exact .inr O
  rw[Uy e3] at r
  by_cases e4:aM b≠UB\/b=p
  .rcases e4 with q|q
   .cases T:aM b with
    |none=>exact (q T).elim
    |some c=>exact⟨.inr (R b c T).1,by have:=(R b c T).2;omega⟩
   .exact⟨.inr O,by omega⟩
  .rw[Uy e4] at r;exact (r rfl).elim
 have ao:=h.bl.size
 have ae:∀ b,A b≠.no->w0.heap.size<=b:=fun b f=>by
  rcases (ad b f).1 with e|e
  .exact h.lo b e
  .omega
 have ar:∀ b,b<10->A b=.no:=fun b f=>by
  rcases ZW (A b=.no) with e|e
  .exact e
  .have h1:=ae b e;have h2:=h.rL;omega
 have E:oO (w5.setCell ⟨B,1,UB⟩ v1') A D:=h.ds.off kW (fun b f=>⟨fun i=>by rcases (GT b f).1 with e|e|e <;> rw[e] <;> simp,av b f⟩) y (fun b f=>(ad b f).2) ar;have au:BD (w5.setCell ⟨B,1,UB⟩ v1') p d jz pJ aM:=bd.off kA (fun b f=>⟨hc b (GT b f).2,by have:=(GT b f).2;omega⟩) E.env;have aq:w5.heap[w3.heap.size]?=U zD:=(k5.block _ O (fun e=>by have:=H _ (Wn.1 e);omega)).trans (dH w3 _);have hQ:(w5.setCell ⟨B,1,UB⟩ v1').heap[w3.heap.size]?=U zD:=(C.block _ O (fun e=>by have:=X9.1 e;omega)).trans aq;have b2:BK w2 B v0 v1 K r1 r2 r3 X1 X2 X3:=(h.bk.later k1).off k2 (fun b f e=>(h.xB b (Wn.1 e)).1 f) (fun b f e=>(h.xB b (Wn.1 e)).2.1 f);have b3:BK w3 B v0' v1 K r1 r2 r3 X1 X2 X3:=by rw[e3];exact b2.bM v0'
 have b5:BK w5 B v0' v1 K r1 r2 r3 X1 X2 X3:=(b3.later k4).off k5 (fun b f e=>(h.yB b (Wn.1 e)).1 f) (fun b f e=>(h.yB b (Wn.1 e)).2.1 f)
 have nx:∀ b,v0'.ownBlock=U b->b≠B/\v1.ownBlock≠U b:=fun b f=>by
  rcases a2 b f with e|e
  .exact⟨(h.xB b e).2.2.2,(h.xB b e).2.2.1⟩
  .exact⟨by omega,fun e1=>by have:=H b e1;omega⟩
 have ny:∀ b,v1'.ownBlock=U b->b≠B:=fun b f=>by
  rcases a5 b f with e|e
  .exact (h.yB b e).2.2.2
  .omega
 have ai:(w5.setCell ⟨B,1,UB⟩ v1').ownsRow 0 39 1 v0' (D.length+1) ((D.map fun k=>UM (U ⟨k.p,0,UB⟩))++[UM (U ⟨p,0,UB⟩)]) :=
  dL (dL (fG (dL o2 af fun b f e=>(nx b f).1 (X9.1 e)) k4) k5 fun b f e=>(nx b f).2 (Wn.1 e)) C fun b f e=>(nx b f).1 (X9.1 e)
 have ag:(w5.setCell ⟨B,1,UB⟩ v1').ownsRow 0 41 1 v1' (D.length+1) ((D.map fun k=>UM (U ⟨k.dd,0,UB⟩))++[UM (U ⟨w3.heap.size,0,UB⟩)]) :=
  dL o5 C fun b f e=>ny b f (X9.1 e)
 refine⟨A,D++[⟨p,d,jz,pJ,aM,w3.heap.size,[],[w3.heap.size]⟩],K,v0',v1',r1,r2,r3,X1,X2,X3,⟨⟨fun i k S=>?_,E.env,E.lt,E.gl⟩,b5.pY v1',h.len,by simpa using ai,by simpa using ag,fun b f=>(y b (by rw[h.tb b f];simp)).trans (h.tb b f),fun b f=>(y b (by rw[h.tk b f];simp)).trans (h.tk b f),ak,aj,by simp;omega,h.bl.trans (Below.nL kW ao fun b f=>h.lo b (GN b f)),ae,h.rL⟩⟩;rcases ZU i D.length with e|e
 .rw[VV e] at S;exact E.at_ i k S
 .rw[VZ e] at S
  have hi:i-D.length=0:=by
   rcases Nat.eq_zero_or_pos (i-D.length) with q|q
   .exact q
   .rw[List.getElem?_eq_none Un] at S;cases S
  rw[hi] at S;have:i=D.length:=O
  subst this;simp only[List.getElem?_cons_zero,ZI] at S;subst S;exact⟨au,DD.zero hQ,ac p hp an (.inr rfl),fun b c f=>ac b (R b c f).1 (R b c f).2 (.inl (fun e=>by rw[show aM b=U c from f] at e;cases e)),fun b f=>by rw[X9.1 f];exact al,fun x j=>by cases j⟩
theorem PI:(prog.info? 39).map (fun i=>(i.zero,i.size,i.bytes))=U (U (UM UB),1,8):=Um
theorem PJ:(prog.info? 41).map (fun i=>(i.zero,i.size,i.bytes))=U (U (UM UB),1,8):=Um
theorem I3(h:LW w0 w B n):UI prog 5 #[B] w fun e w'=>e=UW UE/\LW w0 w' B n:=by
 obtain⟨i0,al,ai,ag,af⟩:=info_parts PI;obtain⟨j0,ak,ae,ad,ac⟩:=info_parts PJ;obtain⟨tg,D,K,v0,v1,r1,r2,r3,X1,X2,X3,R⟩:=h;have NE:=aB (Rw w R.ds.env);obtain⟨a0,c0,rfl⟩:=iD R.xo;obtain⟨H,E,rfl⟩:=iD R.yo;have t:=aB R;clear R;go_in;go_upto_region 4 with (first|(go_at_call 8;refine NE.mono ?_;rintro e w1 ⟨p,d,aM,rfl,bd,k1,hc,hp⟩;have y:=aB (Vf bd (Vf k1 (Vf hc hp)));clear bd k1 hc hp));obtain⟨x0,x1,_,_,_,fz⟩:=(t.bk.later y.2.1).cells;by_cases hD:D.length<3
 .have an:(D.length:N)<3:=O
  have XO:=aB (fG t.xo y.2.1);have f0:=fz 0;have f:Hid (B ∉ (UO a0 D.length c0).ownBlock.toList):=fun e=>(t.xB B (Wn.1 e)).2.2.2 rfl;have S:Hid (B ∉ (UO H D.length E).ownBlock.toList):=fun e=>(t.yB B (Wn.1 e)).2.2.2 rfl;have LB:Hid (B<w1):=U1 _ _ x0;go_upto_region 6 with (first|(at_builtin;go_loud (refine Ib rfl _ _ 26 rfl 1 8 underlying26 al ai ag af Uj rfl Uj XO (cs:=#[p]) rfl Uq rfl rfl O (zN _) ?_);intro j q w2 o2 C a2;have y0:=C.cell f.out x0;have z0:=(C.frozen f.out LB).trans f0;have y1:=C.cell f.out x1;have z1:=(C.frozen (o:=1) f.out LB).trans (fz 1)));have T:=aB (Vf C (Vf o2 a2));have q1:(w2.setCell (B,0) (UO j (D.length+1) q)).cell? (B,1)=U (UO H D.length E):=by rw[World.cell?_setCell_other _ _ _ _ Ui];exact y1
  have z3:(w2.setCell (B,0) (UO j (D.length+1) q)).frozen? (B,1)=UD:=by rw[World.frozen?_setCell];exact z1
  clear C o2 a2 x0 x1 y0 y1 z0 z1 f0;have aj:Hid (∃ w3,w3=w2.setCell (B,0) (UO j (D.length+1) q)):=⟨_,rfl⟩;have YO:Hid (((w2.setCell (B,0) (UO j (D.length+1) q)).alloc zD).ownsRow 0 41 1 (UO H D.length E) D.length (D.map fun k=>UM (U ⟨k.dd,0,UB⟩))) :=(dL (dL (fG t.yo y.2.1) T.1 fun b r e=>(t.yB b r).2.2.1 (Wn.1 e)) (aH.bM B w2 0 _) fun b r e=>(t.yB b r).2.2.2 (X9.1 e)).alloc _
  have aa:Hid (∀ v1' w5,aH (UO H D.length E).ownBlock.toList ((w2.setCell (B,0) (UO j (D.length+1) q)).alloc zD) w5->w5.ownsRow 0 41 1 v1' (D.length+1) ((D.map fun k=>UM (U ⟨k.dd,0,UB⟩))++[UM (U ⟨(w2.setCell (B,0) (UO j (D.length+1) q)).heap.size,0,UB⟩)])->(∀ b,v1'.ownBlock=U b->(UO H D.length E).ownBlock=U b\/((w2.setCell (B,0) (UO j (D.length+1) q)).alloc zD).heap.size<=b)->LW w0 (w5.setCell (B,1) v1') B n):=fun v1' w5 A o5 a5 =>t.begin hD y.1 y.2.1 y.2.2.1 y.2.2.2 T.1 T.2.1 (fun b r=>by simp[V9] at r;subst r;exact T.2.2) rfl A o5 a5
  clear aj;have I:((w2.setCell (B,0) (UO j (D.length+1) q)).alloc zD).cell? (B,1)=U (UO H D.length E):=aT aS q1;have ab:((w2.setCell (B,0) (UO j (D.length+1) q)).alloc zD).frozen? (B,1)=UD:=by have e:=((zr (w2.setCell (B,0) (UO j (D.length+1) q)).heap.size _).alloc aJ zD).block B (U1 _ _ q1);simp only[U2,e] at z3 ⊢;exact z3
  generalize w2.setCell (B,0) (UO j (D.length+1) q)=w3 at *;clear T XO y NE LB f fz;have ao:Hid (B<(w3.alloc zD).heap.size):=U1 _ _ I;go_upto_region 7 with (first|(at_builtin;go_loud (refine Ib (W:=w3.alloc zD) rfl _ _ 27 rfl 1 8 underlying27 ak ae ad ac Uj rfl Uj YO (cs:=#[w3]) rfl Uq rfl (by simp[Act.eval]) O (zN _) ?_);intro g5 c5 w5 o5 A a5;have y1:=A.cell S.out I;have z1:=(A.frozen S.out ao.out).trans ab));have HF:=aB (aa _ _ A o5 (fun b r=>by simp[V9] at r;subst r;exact a5));clear A o5 a5 y1 z1 aa YO;go_wp21;go_ret;exact⟨rfl,HF⟩
 .have an:¬ (D.length:N)<3:=O
  go_wp21;go_ret;exact⟨rfl,_,_,_,_,_,_,_,_,_,_,_,t.later y.2.1⟩
end
variable {w w1 w2:UF}{B:Uw}{v0 v1 r1 r2 r3:UG}{K:Ut Uw}{X1 X2 X3:Ut KL}
theorem Pz{X:J KL}{k:M}(h:k<X.length)(o:M)(f:o<5):(X.flatMap gZ)[k*5+o]?=(gZ X[k])[o]?:=by
 induction X generalizing k with
 |nil=>simp at h
 |cons a r ih =>
  cases k with
  |zero=>rw[VW,V6,Nat.zero_add,VV (by simpa[gZ] using f)];rfl
  |succ k =>have:=ih (k:=k) Uo;rw[VW,VZ (by simp[gZ];omega)];simp only[gZ,VB,VG,ZT] at this ⊢;rw[<- this];congr 1;omega
theorem nM.look{t:UK}{r:UG}{X:J KL}(h:nM P t K w r X){k:M}(hk:k<X.length):∃ (g cap:M)(R I H E:Uu Addr)(j A y q f:M)(m:N),r=UO g X.length cap/\w.cell? (g,k*5)=U (UO R j A)/\w.cell? (g,k*5+1)=U (UO I (j+1) y)/\w.cell? (g,k*5+2)=U (UO H (j+2) q)/\w.cell? (g,k*5+3)=U (UO E (j+3) f)/\w.cell? (g,k*5+4)=U ↑m /\j<=900000/\Fu (P m) w (UO R j A) j/\Fu (P m) w (UO I (j+1) y) (j+1)/\Fu (P m) w (UO H (j+2) q) (j+2)/\Fu (P m) w (UO E (j+3) f) (j+3):=by
 let⟨j,hj,f1,f2,f3,f4⟩:=h.four _ (zg hk);let⟨R,A,e1⟩:=f1.form;let⟨I,y,e2⟩:=f2.form;let⟨H,q,e3⟩:=f3.form;obtain⟨E,f,e4⟩:=f4.form;have c:∀ o v,o<5->(gZ X[k])[o]?=U v->∃ g cap,r=UO (U ⟨g,0,UB⟩) X.length cap/\w.cell? ⟨g,k*5+o,UB⟩=U v:=fun o v ho hv=>by
  have hc:=(Pz hk o ho).trans hv;rcases h.own.2 with ⟨rfl,hn⟩|⟨g,cap,aa,rfl,_,hh,_⟩
  .omega
  .exact⟨g,cap,rfl,(xz g (k*5+o)) ▸ h.own.cells (g:=g) rfl _ v hc⟩
 obtain⟨g,cap,rfl,S⟩:=c 0 _ Uj rfl;have C:∀ o v,o<5->(gZ X[k])[o]?=U v->w.cell? ⟨g,k*5+o,UB⟩=U v:=fun o v ho hv=>by grind
 have y1:=C 1 _ Uj rfl;have y2:=C 2 _ Uj rfl;have T:=C 3 _ Uj rfl;have y4:=C 4 _ Uj rfl;rw[Nat.add_zero] at S;rw[e1] at S f1;rw[e2] at y1 f2;rw[e3] at y2 f3;rw[e4] at T f4;exact⟨g,cap,R,I,H,E,j,A,y,q,f,_,rfl,S,y1,y2,T,y4,hj,f1,f2,f3,f4⟩
def pK(t:UK)(a b c d e:UG):Obj:=UX #[a,b,c,d,e] t
theorem Q9(h:BK w B v0 v1 K r1 r2 r3 X1 X2 X3)(hm:X1.length+X2.length+X3.length<=1000000000):UI prog 7 #[UM (U ⟨B,2,UB⟩)] w fun e w'=>e=UW UE/\UH w w w':=by
 have HB:=aB h;obtain⟨⟨p1,s1,e1⟩,⟨p2,s2,e2⟩,p3,s3,e3⟩:=h.mN;subst e1 e2 e3;clear h;go_in;go_wp21;have ad:Hid (UH w w w):=zr _ _;go_loopw [3] (fun v wr=>∃ k:M,k<=X1.length/\v=V Y k/\UH w w wr) (fun v _=>X1.length-(intOf v).toNat)
 .exact⟨0,VM _,rfl,ad⟩
 .obtain⟨k,hk,rfl,t⟩:=hrel;have HR:=aB t;have f:=HB.later t;obtain⟨_,_,d2,d3,d4,_⟩:=f.cells;clear t
  by_cases aa:k<X1.length
  .have r:(k:N)<(X1.length:N):=O
   obtain⟨g,cap,a1,a2,T,S,j,R,I,H,E,m,e,y0,y1,y2,y3,y4,hj,f1,f2,f3,f4⟩:=f.br.b1.look aa;simp only[XS,true_and] at e;obtain⟨rfl,rfl⟩:=e;have FF:=aB (fun W (A:UH wr wr W)=>Vf (Al j m _ W (f1.later A).nv O) (Vf (Al (j+1) m _ W (f2.later A).nv O) (Vf (Al (j+2) m _ W (f3.later A).nv O) (Al (j+3) m _ W (f4.later A).nv O))));clear f1 f2 f3 f4 f;go_upto_region 5 with fail;change YD _ _ _ _ (wr.alloc (pK tI (UO a1 j R) (UO a2 (j+1) I) (UO T (j+2) H) (UO S (j+3) E) (V Y m)));have q:=aB (Vf ((zr _ wr).alloc aJ (pK tI (UO a1 j R) (UO a2 (j+1) I) (UO T (j+2) H) (UO S (j+3) E) (V Y m))) (dH wr (pK tI (UO a1 j R) (UO a2 (j+1) I) (UO T (j+2) H) (UO S (j+3) E) (V Y m))));generalize wr.alloc (pK tI (UO a1 j R) (UO a2 (j+1) I) (UO T (j+2) H) (UO S (j+3) E) (V Y m))=Z0 at q ⊢;have CL:Hid (∀ W,UH Z0 Z0 W->W.cell? (wr,0)=U (UO a1 j R)/\W.cell? (wr,1)=U (UO a2 (j+1) I)/\W.cell? (wr,2)=U (UO T (j+2) H)/\W.cell? (wr,3)=U (UO S (j+3) E)/\W.cell? (wr,4)=U (V Y m)):=fun W A=>by have C:=(A.block _ (YC.1 q.2).1).trans q.2;exact⟨bN C 0 rfl,bN C 1 rfl,bN C 2 rfl,bN C 3 rfl,bN C 4 rfl⟩
   clear y0 y1 y2 y3 y4 d2 d3 d4;obtain⟨x0,_,_,_,y⟩:=CL _ fI;go_upto_region 6 with (first|(go_at_call 14;refine (FF _ q.1).1.mono ?_;rintro e w1 ⟨rfl,h1⟩;have B1:=aB h1;clear h1));clear x0 y;obtain⟨_,x1,_,_,y⟩:=CL _ B1;go_upto_region 7 with (first|(go_at_call 14;refine (FF _ (bU q.1 B1 aJ)).2.1.mono ?_;rintro e w2 ⟨rfl,h2⟩;have B2:=aB (bU B1 h2 aJ);clear h2));clear x1 y;obtain⟨_,_,x2,_,y⟩:=CL _ B2;go_upto_region 8 with (first|(go_at_call 14;refine (FF _ (bU q.1 B2 aJ)).2.2.1.mono ?_;rintro e w3 ⟨rfl,h3⟩;have B3:=aB (bU B2 h3 aJ);clear h3));clear x2 y;obtain⟨_,_,_,x3,y⟩:=CL _ B3;go_upto_region 9 with (first|(go_at_call 14;refine (FF _ (bU q.1 B3 aJ)).2.2.2.mono ?_;rintro e w4 ⟨rfl,h4⟩;have B4:=aB (bU B3 h4 aJ);clear h4));go_wp21;go_roundw
   .exact⟨k+1,O,by go_num,bU HR (bU q.1 B4 aJ) aJ⟩
   .simp[intOf];omega
  .have r:¬ (k:N)<(X1.length:N):=O
   clear f;go_wp21;have ac:=aB HR;clear d2 d3 d4 aa r hk HR;go_loopw [9] (fun v wr=>∃ k:M,k<=X2.length/\v=V Y k/\UH w w wr) (fun v _=>X2.length-(intOf v).toNat)
   .exact⟨0,VM _,rfl,ac⟩
   .obtain⟨k,hk,rfl,t⟩:=hrel;have HR:=aB t;have f:=HB.later t;obtain⟨_,_,d2,d3,d4,_⟩:=f.cells;clear t
    by_cases aa:k<X2.length
    .have r:(k:N)<(X2.length:N):=O
     obtain⟨g,cap,a1,a2,T,S,j,R,I,H,E,m,e,y0,y1,y2,y3,y4,hj,f1,f2,f3,f4⟩:=f.br.b2.look aa;simp only[XS,true_and] at e;obtain⟨rfl,rfl⟩:=e;have FF:=aB (fun W (A:UH wr wr W)=>Vf (An j m _ W (f1.later A).sv O) (Vf (An (j+1) m _ W (f2.later A).sv O) (Vf (An (j+2) m _ W (f3.later A).sv O) (An (j+3) m _ W (f4.later A).sv O))));clear f1 f2 f3 f4 f;go_upto_region 15 with fail;change YD _ _ _ _ (wr.alloc (pK tS (UO a1 j R) (UO a2 (j+1) I) (UO T (j+2) H) (UO S (j+3) E) (V Y m)));have q:=aB (Vf ((zr _ wr).alloc aJ (pK tS (UO a1 j R) (UO a2 (j+1) I) (UO T (j+2) H) (UO S (j+3) E) (V Y m))) (dH wr (pK tS (UO a1 j R) (UO a2 (j+1) I) (UO T (j+2) H) (UO S (j+3) E) (V Y m))));generalize wr.alloc (pK tS (UO a1 j R) (UO a2 (j+1) I) (UO T (j+2) H) (UO S (j+3) E) (V Y m))=Z0 at q ⊢;have CL:Hid (∀ W,UH Z0 Z0 W->W.cell? (wr,0)=U (UO a1 j R)/\W.cell? (wr,1)=U (UO a2 (j+1) I)/\W.cell? (wr,2)=U (UO T (j+2) H)/\W.cell? (wr,3)=U (UO S (j+3) E)/\W.cell? (wr,4)=U (V Y m)):=fun W A=>by have C:=(A.block _ (YC.1 q.2).1).trans q.2;exact⟨bN C 0 rfl,bN C 1 rfl,bN C 2 rfl,bN C 3 rfl,bN C 4 rfl⟩
     clear y0 y1 y2 y3 y4 d2 d3 d4;obtain⟨x0,_,_,_,y⟩:=CL _ fI;go_upto_region 16 with (first|(go_at_call 15;refine (FF _ q.1).1.mono ?_;rintro e w1 ⟨rfl,h1⟩;have B1:=aB h1;clear h1));clear x0 y;obtain⟨_,x1,_,_,y⟩:=CL _ B1;go_upto_region 17 with (first|(go_at_call 15;refine (FF _ (bU q.1 B1 aJ)).2.1.mono ?_;rintro e w2 ⟨rfl,h2⟩;have B2:=aB (bU B1 h2 aJ);clear h2));clear x1 y;obtain⟨_,_,x2,_,y⟩:=CL _ B2;go_upto_region 18 with (first|(go_at_call 15;refine (FF _ (bU q.1 B2 aJ)).2.2.1.mono ?_;rintro e w3 ⟨rfl,h3⟩;have B3:=aB (bU B2 h3 aJ);clear h3));clear x2 y;obtain⟨_,_,_,x3,y⟩:=CL _ B3;go_upto_region 19 with (first|(go_at_call 15;refine (FF _ (bU q.1 B3 aJ)).2.2.2.mono ?_;rintro e w4 ⟨rfl,h4⟩;have B4:=aB (bU B3 h4 aJ);clear h4));go_wp21;go_roundw
     .exact⟨k+1,O,by go_num,bU HR (bU q.1 B4 aJ) aJ⟩
     .simp[intOf];omega
    .have r:¬ (k:N)<(X2.length:N):=O
     clear f;go_wp21;have ab:=aB HR;clear d2 d3 d4 aa r hk HR;go_loopw [15] (fun v wr=>∃ k:M,k<=X3.length/\v=V Y k/\UH w w wr) (fun v _=>X3.length-(intOf v).toNat)
     .exact⟨0,VM _,rfl,ab⟩
     .obtain⟨k,hk,rfl,t⟩:=hrel;have HR:=aB t;have f:=HB.later t;obtain⟨_,_,d2,d3,d4,_⟩:=f.cells;clear t
      by_cases aa:k<X3.length
      .have r:(k:N)<(X3.length:N):=O
       obtain⟨g,cap,a1,a2,T,S,j,R,I,H,E,m,e,y0,y1,y2,y3,y4,hj,f1,f2,f3,f4⟩:=f.br.b3.look aa;simp only[XS,true_and] at e;obtain⟨rfl,rfl⟩:=e;have FF:=aB (fun W (A:UH wr wr W)=>Vf (Ao j m _ W (f1.later A).ev O) (Vf (Ao (j+1) m _ W (f2.later A).ev O) (Vf (Ao (j+2) m _ W (f3.later A).ev O) (Ao (j+3) m _ W (f4.later A).ev O))));clear f1 f2 f3 f4 f;go_upto_region 25 with fail;change YD _ _ _ _ (wr.alloc (pK tE (UO a1 j R) (UO a2 (j+1) I) (UO T (j+2) H) (UO S (j+3) E) (V Y m)));have q:=aB (Vf ((zr _ wr).alloc aJ (pK tE (UO a1 j R) (UO a2 (j+1) I) (UO T (j+2) H) (UO S (j+3) E) (V Y m))) (dH wr (pK tE (UO a1 j R) (UO a2 (j+1) I) (UO T (j+2) H) (UO S (j+3) E) (V Y m))));generalize wr.alloc (pK tE (UO a1 j R) (UO a2 (j+1) I) (UO T (j+2) H) (UO S (j+3) E) (V Y m))=Z0 at q ⊢;have CL:Hid (∀ W,UH Z0 Z0 W->W.cell? (wr,0)=U (UO a1 j R)/\W.cell? (wr,1)=U (UO a2 (j+1) I)/\W.cell? (wr,2)=U (UO T (j+2) H)/\W.cell? (wr,3)=U (UO S (j+3) E)/\W.cell? (wr,4)=U (V Y m)):=fun W A=>by have C:=(A.block _ (YC.1 q.2).1).trans q.2;exact⟨bN C 0 rfl,bN C 1 rfl,bN C 2 rfl,bN C 3 rfl,bN C 4 rfl⟩
       clear y0 y1 y2 y3 y4 d2 d3 d4;obtain⟨x0,_,_,_,y⟩:=CL _ fI;go_upto_region 26 with (first|(go_at_call 16;refine (FF _ q.1).1.mono ?_;rintro e w1 ⟨rfl,h1⟩;have B1:=aB h1;clear h1));clear x0 y;obtain⟨_,x1,_,_,y⟩:=CL _ B1;go_upto_region 27 with (first|(go_at_call 16;refine (FF _ (bU q.1 B1 aJ)).2.1.mono ?_;rintro e w2 ⟨rfl,h2⟩;have B2:=aB (bU B1 h2 aJ);clear h2));clear x1 y;obtain⟨_,_,x2,_,y⟩:=CL _ B2;go_upto_region 28 with (first|(go_at_call 16;refine (FF _ (bU q.1 B2 aJ)).2.2.1.mono ?_;rintro e w3 ⟨rfl,h3⟩;have B3:=aB (bU B2 h3 aJ);clear h3));clear x2 y;obtain⟨_,_,_,x3,y⟩:=CL _ B3;go_upto_region 29 with (first|(go_at_call 16;refine (FF _ (bU q.1 B3 aJ)).2.2.2.mono ?_;rintro e w4 ⟨rfl,h4⟩;have B4:=aB (bU B3 h4 aJ);clear h4));go_wp21;go_roundw
       .exact⟨k+1,O,by go_num,bU HR (bU q.1 B4 aJ) aJ⟩
       .simp[intOf];omega
      .have r:¬ (k:N)<(X3.length:N):=O
       clear f;go_wp21;go_ret;exact⟨rfl,HR⟩
structure wW where
 k:N
 a:N
 y:N
 m:N
 d:N
 s:Us
structure B9(x:wW):Prop where
 a1:-9223372036854775808<=x.a
 a2:x.a<=9223372036854775807
 d1:-9223372036854775808<=x.d
 d2:x.d<=9223372036854775807
 sz:x.s.size<=2000000
def vD(w:UF)(b o:M)(x:wW):Prop:=w.cell? (b,o)=U (V Y x.k)/\w.cell? (b,o+1)=U (V Y x.a)/\w.cell? (b,o+2)=U ↑x.y/\w.cell? (b,o+3)=U (V Y x.m)/\w.cell? (b,o+4)=U (V Y x.d)/\w.cell? (b,o+5)=U ↑x.s
theorem vD.later{b o:M}{x:wW}(h:vD w b o x)(k:UH w w w'):vD w' b o x:=by let⟨h0,h1,h2,h3,h4,h5⟩:=h;exact⟨aT k h0,aT k h1,aT k h2,aT k h3,aT k h4,aT k h5⟩
section
variable {w0 w w':UF}{B n:Uw}
theorem LW.env(h:LW w0 w B n):Env w:=by let⟨tg,D,K,v0,v1,r1,r2,r3,X1,X2,X3,h⟩:=h;exact h.ds.env
theorem LW.bl(h:LW w0 w B n):UH w0 w0 w:=by let⟨tg,D,K,v0,v1,r1,r2,r3,X1,X2,X3,h⟩:=h;exact h.bl
theorem LW.looks(h:LW w0 w B n)(q:n<=900000000):UI prog 7 #[UM (U ⟨B,2,UB⟩)] w fun e w'=>e=UW UE/\LW w0 w' B n:=by have j:=h;let⟨tg,D,K,v0,v1,r1,r2,r3,X1,X2,X3,h⟩:=h;refine aK (Q9 h.bk (by have:=h.len;omega)) fun w1 f=>?_;exact⟨rfl,j.later f⟩
def zW:Obj:=UX #[(),(),(),(),()] 34
theorem LW.start(j:Env w):LW w (w.alloc zW) w 0:=by
 have f:UH w w (w.alloc zW):=aS;have r:(w.alloc zW).heap.size=w.heap.size+1:=Ui;have h:=j.size;have row:∀ {P:N->J UG}{t:UK},nM P t [] (w.alloc zW) () []:=⟨Wc _ _ _ _,by simp,by simp⟩;have q:∀ b∈cQ w () () (),b=w:=fun b f=>by simpa[cQ,V9] using f
 refine⟨fun b=>if b=w then .bk else .no,[],[],(),(),(),(),(),[],[],[],⟨⟨fun i k y=>by grind,j.later f,fun b f=>?_,fun b f=>Uy O⟩,⟨dH w _,⟨row,row,row,by simp⟩,by simp⟩,by simp,Wc _ _ _ _,Wc _ _ _ _,fun b f=>Uz (q b f),by simp,fun b f=>(by cases f),fun b f=>(by cases f),by simp,f,fun b f=>?_,h⟩⟩
 .by_cases e:b=w
  .omega
  .exact (f (Uy e)).elim
 .by_cases e:b=w
  .omega
  .exact (f (Uy e)).elim
def qO(x:wW):Obj:=UX #[V Y x.k,V Y x.a,x.y,V Y x.m,V Y x.d,x.s] 37
def CQ(w:UF)(j:Uu Addr)(h:M):Prop:=∀ i,i<h->∃ b f x,j=U ⟨b,f,UB⟩/\vD w b (f+i*6) x/\B9 x
end
end Go.Proofs.YtolaacmheeaadaaGreatDoor
