import Derived.Test.YtolaacmheeaadaaGreatDoorL07
import Derived.Shelf.RegionOpen
import Derived.RangeFuncCalls
set_option maxRecDepth 100000
set_option maxHeartbeats 8000000
open Go.Proofs.Tryz
open _root_ renaming ByteArray->Us,List->Ut,Option->Uu,Bool->Uv,Nat->Uw,Int->Ux,if_neg->Uy,if_pos->Uz,absurd->UA,Int->N,Nat->M,List->J
open Option renaming none->UB,some->UC,mem_toList->Wn,map->Y9,none->Z,some->U
open Bool renaming false->UD,true->UE,and_eq_true->Wu
open Go renaming World->UF,Value->UG,Calls->UI,Addr->UJ,Value->Ya
open Go.RowKit renaming Below->UH
open ByteArray renaming empty->Ym,size_append->Zm
open Go.World renaming cell?->Vk,block_lt_of_cell?->U1,news_of_block->Wf,size_alloc->Wp
open And renaming intro->Vf
open Go.Code renaming wp->YD
open Go.Joins renaming ownsRow_le->Yb,ownsRow_form->XR
open List renaming mem_singleton->X9,length_append->VA,flatMap_append->VX,mem_append->Vb,pairwise_append->W8,pairwise_singleton->YL,length_map->We,length_filter_le->Wj,mem_filter->Xb,getElem?_map->XT,getElem?_eq_getElem->Wx,map_append->VU,take_succ_eq_append_getElem->VL,getElem?_append_right->VZ,drop_eq_getElem_cons->Wh,any_eq_false->Za,any_eq_true->Xd,getElem_mem->Zb,take_length->Zc,map_eq_nil_iff->Zd,size_toArray->YP,length_cons->VB,length_nil->VG,push_toArray->YU,append_toArray->YV,nil_append->YW,cons_append->Vm,map_eq_append_iff->Ze,append_assoc->V8,getElem_of_mem->Xs,getElem_append_left->YI,getElem_append_right->Zf,mem_map->VQ,replicate->XV,replicate_succ'->Zn,length_singleton->Zp
open Nat renaming le_trans->U0,zero_le->VM,reduceAdd->YQ,reduceSub->YR,le_refl->UY
open Go.Value renaming ownBlock->V9,oneCell'->Wg,slice->UO,string->UQ,int->UL,pointer->UM,bool->UR,agg->UT,iface->UU,int->V
open Go.Value.slice renaming injEq->XS
open Go.Oper renaming semAt_some->YN
open Array renaming replicate_succ->YS,replicate_zero->YT,getElem?_eq_some_iff->YC,getElem?_eq_none->V4
open Go.Fence renaming wide->YZ
open Go.Boxed renaming new->Y4
open Go.Region renaming wanted->Ye
open Go.CallsIn renaming inRound->Zg
open Go.AllReadyIn renaming cons->Zh,nil->Zi
open Go.ByteArray renaming toList_eq->Zj
open Go.Lib renaming decDigits->Zk,itoa->Zl
open UInt8 renaming ofNat->Zo
open Go.Op renaming stringOp->Zq
open Int renaming natCast_nonneg->Yz
open Go.Addr renaming add->Zr
open Go.Exit renaming inBlock->V7
open Go.IntKind renaming i64->UV,i64->Y
open Go.Ending renaming returned->UW
open Go.Obj renaming cells->UX
variable{name x:Us}{e:Go.Proofs.YtolaacmheeaadaaGreatDoor.aA.aQ}{ev' fr mi mn pc pc' ti ti' til u un un':Ux}{l tl:Ut (Go.Proofs.YtolaacmheeaadaaGreatDoor.aA.aQ × Ya)}{L:Ut (Ux × Ux)}{p ws:Ut Us}{acc acc':Ut Ux}{xs:Ut Ya}{B Q b c1 cap d g i k m mm n n₀:Uw}{s' st:Uw × Uv}{aM:Uw->Uu Go.Proofs.YtolaacmheeaadaaGreatDoor.bO}{a1:Uu Go.Addr}{r rw_:Go.Proofs.YtolaacmheeaadaaGreatDoor.Raw}{s:Go.Proofs.YtolaacmheeaadaaGreatDoor.aA.St}{v v':Ya}{W W' w w' w1 w2 w3 wx:Go.World}
namespace Go.Proofs.YtolaacmheeaadaaGreatDoor
open Go.RowKit
open aA (aQ St eD kept fc ek ec jw dB dI jC eS jr cA Inv)
def lu:Obj:=UX #[V Y 0,V Y 0,Ym,V Y 0,(),V Y 0] 85 (0,0)
def rn(e:aQ)(v:UG):UG:=UT #[e.id,e.kind,e.bH,e.aN,v,e.bY]
def vS(h:UF)(Q:M)(a b c d e f:UG):UF:=(((((h.setCell (Q,0) a).setCell (Q,1) b).setCell (Q,2) c).setCell (Q,3) d).setCell (Q,4) e).setCell (Q,5) f
theorem Kj(h:UF)(Q:M)(a b c d e f:UG):aH [Q] h (vS h Q a b c d e f) :=((((((aH.refl [Q] h).setCell (.inl Ui) _ _).setCell (.inl Ui) _ _).setCell (.inl Ui) _ _).setCell (.inl Ui) _ _).setCell (.inl Ui) _ _).setCell (.inl Ui) _ _
def Em(w:UF)(e:aQ)(v:UG)(w':UF):Prop:=∃ sp,v=rn e sp/\w'.ownsRow w 83 2 sp e.aR.length (e.aR.flatMap ia)/\UH w w w'
theorem SM(h:w.heap[Q]?=U lu):w.cell? (Q,0)=U (V Y 0):=by unfold lu at h;simp only[Vk,h];rfl
theorem SN(h:w.heap[Q]?=U lu):w.cell? (Q,1)=U (V Y 0):=by unfold lu at h;simp only[Vk,h];rfl
theorem SQ(h:w.heap[Q]?=U lu):w.cell? (Q,2)=U ↑Ym:=by unfold lu at h;simp only[Vk,h];rfl
theorem SU(h:w.heap[Q]?=U lu):w.cell? (Q,3)=U (V Y 0):=by unfold lu at h;simp only[Vk,h];rfl
theorem SX(h:w.heap[Q]?=U lu):w.cell? (Q,4)=U ↑():=by unfold lu at h;simp only[Vk,h];rfl
theorem SY(h:w.heap[Q]?=U lu):w.cell? (Q,5)=U (V Y 0):=by unfold lu at h;simp only[Vk,h];rfl
theorem SZ(h:w.heap[Q]?=U lu):∀ o,w.frozen? ⟨Q,o,Z⟩=UD:=fun o=>frozen_of_row _ Q o _ _ h
theorem c2d(w:UF)(g:EG)(h:kv w g)(P:w.cell? ⟨g.tb,0,Z⟩=U (UQ g.e.bH))(hL:g.e.aR.length<=100):UI prog 157 #[UM (U ⟨g.eb,0,Z⟩)] w fun e w'=>∃ v,e=UW v/\Em w g.e v w':=by
 have H:UH w.heap.size w (w.alloc lu):=(zr _ _).alloc (zq _) _;have hq:=dH w lu;have y:=h.off (G:=[]) (aH.aD H) Ui Ui;have c0:=y.en.c0;have c1:=y.k;have c2:=y.en.c1;have c3:=y.en.c2;have T:=y.en.c3;have S:=y.u;have R:=aT H P;have CL:=aB (b4C (w.alloc lu).drew g.B g.cap g.e.aR (y.en.sl.off (G:=[]) (aH.aD (eN _)) Ui) hL);have I:=aB (Vf H hq);have q:g.eb≠w.heap.size/\g.tb≠w.heap.size:=⟨by have:=h.lt;omega,by have z:g.tb<w.heap.size:=U1 _ _ P;omega⟩;clear h P H hq y;go_in;go_upto_region 1 with fail;change YD _ _ _ _ (w.alloc lu);have K:w.heap.size<(w.alloc lu).heap.size:=Ui;generalize w.alloc lu=X at *;have AC:Hid (∀ w2,UH X.drew.heap.size X.drew w2->w2.cell? ⟨g.eb,0,Z⟩=U (V Y g.e.id)/\w2.cell? ⟨g.eb,1,Z⟩=U (V Y g.e.kind)/\w2.cell? ⟨g.eb,2,Z⟩=U (UM (U ⟨g.tb,0,Z⟩))/\w2.cell? ⟨g.eb,3,Z⟩=U (V Y g.e.aN)/\w2.cell? ⟨g.eb,4,Z⟩=U (UO (U ⟨g.B,0,Z⟩) g.e.aR.length g.cap)/\w2.cell? ⟨g.eb,5,Z⟩=U (V Y g.e.bY)/\w2.cell? ⟨g.tb,0,Z⟩=U (UQ g.e.bH)):=fun w2 k=>⟨aT k c0,aT k c1,aT k c2,aT k c3,aT k T,aT k S,aT k R⟩;have AQ:Hid (∀ w2,UH X.drew.heap.size X.drew w2->w2.heap[w.heap.size]?=U lu):=fun w2 k=>(k.block _ K).trans I.out.2;have AS:Hid (∀ w2 a b c d e f,UH X.drew.heap.size X.drew w2->((((((w2.setCell ⟨w.heap.size,0,Z⟩ a).setCell ⟨w.heap.size,1,Z⟩ b).setCell ⟨w.heap.size,2,Z⟩ c).setCell ⟨w.heap.size,3,Z⟩ d).setCell ⟨w.heap.size,4,Z⟩ e).setCell ⟨w.heap.size,5,Z⟩ f).cell? ⟨g.eb,0,Z⟩=U (V Y g.e.id)/\((((((w2.setCell ⟨w.heap.size,0,Z⟩ a).setCell ⟨w.heap.size,1,Z⟩ b).setCell ⟨w.heap.size,2,Z⟩ c).setCell ⟨w.heap.size,3,Z⟩ d).setCell ⟨w.heap.size,4,Z⟩ e).setCell ⟨w.heap.size,5,Z⟩ f).cell? ⟨g.eb,1,Z⟩=U (V Y g.e.kind)/\((((((w2.setCell ⟨w.heap.size,0,Z⟩ a).setCell ⟨w.heap.size,1,Z⟩ b).setCell ⟨w.heap.size,2,Z⟩ c).setCell ⟨w.heap.size,3,Z⟩ d).setCell ⟨w.heap.size,4,Z⟩ e).setCell ⟨w.heap.size,5,Z⟩ f).cell? ⟨g.eb,2,Z⟩=U (UM (U ⟨g.tb,0,Z⟩))/\((((((w2.setCell ⟨w.heap.size,0,Z⟩ a).setCell ⟨w.heap.size,1,Z⟩ b).setCell ⟨w.heap.size,2,Z⟩ c).setCell ⟨w.heap.size,3,Z⟩ d).setCell ⟨w.heap.size,4,Z⟩ e).setCell ⟨w.heap.size,5,Z⟩ f).cell? ⟨g.eb,3,Z⟩=U (V Y g.e.aN)/\((((((w2.setCell ⟨w.heap.size,0,Z⟩ a).setCell ⟨w.heap.size,1,Z⟩ b).setCell ⟨w.heap.size,2,Z⟩ c).setCell ⟨w.heap.size,3,Z⟩ d).setCell ⟨w.heap.size,4,Z⟩ e).setCell ⟨w.heap.size,5,Z⟩ f).cell? ⟨g.eb,4,Z⟩=U (UO (U ⟨g.B,0,Z⟩) g.e.aR.length g.cap)/\((((((w2.setCell ⟨w.heap.size,0,Z⟩ a).setCell ⟨w.heap.size,1,Z⟩ b).setCell ⟨w.heap.size,2,Z⟩ c).setCell ⟨w.heap.size,3,Z⟩ d).setCell ⟨w.heap.size,4,Z⟩ e).setCell ⟨w.heap.size,5,Z⟩ f).cell? ⟨g.eb,5,Z⟩=U (V Y g.e.bY)/\((((((w2.setCell ⟨w.heap.size,0,Z⟩ a).setCell ⟨w.heap.size,1,Z⟩ b).setCell ⟨w.heap.size,2,Z⟩ c).setCell ⟨w.heap.size,3,Z⟩ d).setCell ⟨w.heap.size,4,Z⟩ e).setCell ⟨w.heap.size,5,Z⟩ f).cell? ⟨g.tb,0,Z⟩=U (UQ g.e.bH)):=fun w2 a b c d e f k=>by have o:=Kj w2 w.heap.size a b c d e f;obtain⟨k0,k1,k2,k3,k4,k5,k6⟩:=AC.out w2 k;exact⟨o.cell (bZ q.1) k0,o.cell (bZ q.1) k1,o.cell (bZ q.1) k2,o.cell (bZ q.1) k3,o.cell (bZ q.1) k4,o.cell (bZ q.1) k5,o.cell (bZ q.2) k6⟩
 clear q;go_region_held3 (fun w'=>w'.cell? ⟨g.eb,0,Z⟩=U (V Y g.e.id)/\w'.cell? ⟨g.eb,1,Z⟩=U (V Y g.e.kind)/\w'.cell? ⟨g.eb,2,Z⟩=U (UM (U ⟨g.tb,0,Z⟩))/\w'.cell? ⟨g.eb,3,Z⟩=U (V Y g.e.aN)/\w'.cell? ⟨g.eb,4,Z⟩=U (UO (U ⟨g.B,0,Z⟩) g.e.aR.length g.cap)/\w'.cell? ⟨g.eb,5,Z⟩=U (V Y g.e.bY)/\w'.cell? ⟨g.tb,0,Z⟩=U (UQ g.e.bH))
  (first
   |with_reducible exact AS.out _ _ _ _ _ _ _ t
   |with_reducible exact AC.out _ t
   |exact⟨c0,c1,c2,c3,T,S,R⟩)
  (first
   |(go_at_call 197;refine CL.out.mono ?_;rintro e w2 ⟨v,rfl,E,t⟩;obtain⟨D,C,rfl⟩:=lz E;have j:=AQ.out w2 t;have q0:=SM j;have q1:=SN j;have q2:=SQ j;have q3:=SU j;have q4:=SX j;have q5:=SY j;have fq:=SZ j;clear j))
 have HF:Hid (Em w g.e (rn g.e (UO D g.e.aR.length C)) (vS w2 w.heap.size (V Y g.e.id) (V Y g.e.kind) (UQ g.e.bH) (V Y g.e.aN) (UO D g.e.aR.length C) (V Y g.e.bY))):=by
  have A:=I.out.1.size;have k:=Kj w2 w.heap.size (V Y g.e.id) (V Y g.e.kind) (UQ g.e.bH) (V Y g.e.aN) (UO D g.e.aR.length C) (V Y g.e.bY);have z:=I.out.1.drew.trans (t.mono A);refine⟨_,rfl,dL (Yb E A) k (fun b F y=>?_),?_⟩
  .have:=(E.lt b F).1;have e:b=w.heap.size:=X9.1 y;have aa:w.heap.size<X.drew.heap.size:=K;omega
  .exact⟨k.os.trans z.os,k.tape.trans z.tape,k.output.trans z.output,U0 z.size k.size,fun b F=>(k.block b (zL F z.size) Un).trans (z.block b F)⟩
 clear E t CL AC AQ AS c0 c1 c2 c3 T S R I K;go_wp2_with fail;exact bodyPost_ret (v:=rn g.e (UO D g.e.aR.length C)) (by simp[results,results157,go_sem,rn,q0,q1,q2,q3,q4,q5]) rfl ⟨_,rfl,HF.out⟩
theorem Kp:(prog.info? 85).map (fun i=>(i.zero,i.size,i.bytes))=U (U (UT #[V Y 0,V Y 0,Ym,V Y 0,(),V Y 0]),6,72):=Um
theorem iw.snoc(h:iw wx B aM v l){sp:UG}(A:w2.ownsRow wx 83 2 sp e.aR.length (e.aR.flatMap ia))(k:UH wx wx w2)(H:B<=wx)(D:∀ b,wx.heap.size<=b->aM b=Z)(C:aH v.ownBlock.toList w2 w3){c:M}(z:w3.ownsRow B 85 6 (UO c (l.length+1) cap) (l.length+1) (l.flatMap gv++gv (e,sp)))(t:v.ownBlock=U c\/w2<=c):iw w3 B aM (UO c (l.length+1) cap) (l++[(e,sp)]):=by
 have G:=k.size;refine⟨?_,fun b a=>?_,fun p o=>?_,?_⟩
 .rw[VA,VX];have:[(e,sp)].flatMap gv=gv (e,sp):=Ui
  rw[this];exact z
 .have:c=b:=by simpa[V9] using a
  subst this;rcases t with j|j
  .exact h.no c j
  .exact D c O
 .rcases Vb.1 o with o|o
  .let⟨s1,s2⟩:=h.sp p o;refine⟨⟨dL (fG s1.own k) C (fun b a f=>s2 b a (Wn.1 f)),s1.no⟩,fun b a f=>?_⟩;have:c=b:=by simpa[V9] using f
   subst this;rcases t with j|j
   .exact s2 c a j
   .have:=(s1.own.lt c a).2;omega
  .have:p=(e,sp):=X9.1 o;subst this;have y:∀ b,v.ownBlock=U b->b<wx:=fun b a=>(h.own.lt b a).2
   refine⟨⟨dL (Yb A H) C (fun b a f=>?_),fun b a=>D b (A.lt b a).1⟩,fun b a f=>?_⟩
   .have E:=(A.lt b a).1;have I:=y b (Wn.1 f);omega
   .have:c=b:=by simpa[V9] using f
    subst this;have E:=A.lt c a;rcases t with j|j
    .have:=y c j;omega
    .omega
 .refine W8.2 ⟨h.pw,YL _ _,fun p o q F b a f=>?_⟩;rw[X9.1 F] at f;have E:=(A.lt b f).1;have I:=((h.sp p o).1.own.lt b a).2;omega
theorem eH.kU(h:eH w d s r aM)(k:UH w w wx){g:EG}(a:g∈r.eg):UI prog 157 #[g.eb] wx fun e w'=>∃ v,e=UW v/\Em wx g.e v w':=by
 have f:=h.dk.later k;let⟨i,hi,e1,e2⟩:=h.of.tb g a;let⟨ul,us,Fl,Fs,t1,_⟩:=f.th i hi;have c:=t1.c0;rw[e1,<- e2] at c;exact c2d wx g (f.en g a).1 c (by have:=(h.inv.en _ (h.of.mem a)).sl;omega)
def mq(g:EG):Uv:=g.e.kind==3
def WT(w wx:UF)(r:Raw)(aM:M->Uu bO)(k:M)(v:UG):Prop:=∃ l,l.map (·.1)=((r.eg.filter mq).take k).map (·.e)/\iw wx w aM v l/\UH w w wx
theorem a8L(h:eH w d s r aM):UI prog 107 #[UM (U ⟨d,0,Z⟩)] w fun e w'=>∃ v,e=UW v/\WT w w' r aM (r.eg.filter mq).length v:=by
 obtain⟨i0,af,ac,ab,aa⟩:=info_parts Kp;obtain⟨v4,c4,c,ag⟩:=h.dk.wa;have ad:r.wl.length=(r.eg.filter mq).length:=by rw[h.wl,We];rfl
 have al:(r.eg.filter mq).length<=60:=by
  have h1:=Wj mq r.eg;have C:=kS h.bA;have h3:r.eg.length=s.es.length:=by rw[<- h.of.es];simp
  omega
 rw[ad] at c;obtain⟨a,cap,rfl⟩:=lz c;have G0:Hid (WT w w r aM 0 (UO Z 0 0)):=⟨[],rfl,iw.nil _ _ _,Below.refl _ _⟩;have HH:=aB h;have O4:=aB c;clear h c ag;go_in;go_wp2_with fail;clear c4;go_loopw [3,5,11] (fun vg _ T wx=>∃ k:M,k<=(r.eg.filter mq).length/\T=V Y k/\WT w wx r aM k vg) (fun _ _ T _=>(r.eg.filter mq).length-(intOf T).toNat)
 case atStart=>exact⟨0,VM _,rfl,G0.out⟩
 case round =>
  obtain⟨k,hk,rfl,l,E,X,j⟩:=hrel;by_cases z:k<(r.eg.filter mq).length
  .have F:(k:N)<((r.eg.filter mq).length:N):=O
   have hg:=(Xb.1 (zg z)).1;have D:l.length=k:=by have:=congrArg List.length E;rw[We,We,List.length_take] at this;omega
   have row:=fG O4.out j;obtain⟨Hh,ak,P⟩:=XR row O;simp only[XS,true_and] at P;obtain⟨rfl,rfl⟩:=P;have R:=row.cellAt k O;have H:(r.wl.map jX)[k]?=U (jX (r.eg.filter mq)[k].eb):=by rw[HH.out.wl,XT,XT];show Y9 jX (Y9 _ (r.eg.filter mq)[k]?)=_;rw[Wx z];rfl
   rw[H] at R;unfold jX at R;have TE:=aB (HH.out.kU j hg);have S:=aB (Vf E (Vf X (Vf j D)));have aj:l.length<=60:=O;obtain⟨g,A⟩:∃ g,g=(r.eg.filter mq)[k]:=⟨_,rfl⟩;rw[<- A] at TE R;have GE:=aB A;clear A H row E X j D hg;go_wp2_with fail;refine TE.out.mono ?_;rintro e w2 ⟨v,rfl,sp,rfl,ho,o⟩;obtain⟨sa,sc,rfl⟩:=lz ho;have RW:=aB (fG S.out.2.1.own o);have SR:=aB (Vf ho o);have an:=U0 S.out.2.2.1.size o.size;clear ho o TE R;simp only[rn];go_wp2_with (first
    |(at_builtin;refine wpList_append_lies _ rfl _ _ 43 rfl w.heap.size 85 i0 _ 6 72 underlying43 af ac ab aa rfl Uj _ _ _ rfl (RW.out.alloc _) ⟨w2.heap.size,0,Z⟩ 1 1 (gv (g.e,UO sa g.e.aR.length sc)) rfl rfl (Wf (cs:=(gv (g.e,UO sa g.e.aR.length sc)).toArray) (dH w2 _)) (by simp[gv,Wg]) O Up O Un (w2.heap.size+1) Ui ?_;intro g2 I w3 q f G ai))
   have y:=aH.grown ((aH.refl _ w2).alloc _) f (fun k hk=>.inl (Wn.2 hk));have t:=G;have HN:Hid (WT w w3 r aM (k+1) (UO (U ⟨g2,0,Z⟩) (l.length+1) I)):=by
    obtain⟨P,H,K,e4⟩:=S.out;obtain⟨s1,s2⟩:=SR.out;refine⟨l++[(g.e,UO sa g.e.aR.length sc)],?_,H.snoc s1 s2 K.size (fun b j=>HH.out.dk.none (U0 K.size j)) y q (t.imp id (fun e=>by omega)),?_⟩
    .rw[VU,VL z,VU,P,<- GE.out];rfl
    .have C:=K.trans (s2.mono K.size);exact⟨y.os.trans C.os,y.tape.trans C.tape,y.output.trans C.output,U0 C.size y.size,fun b j=>(y.block b (zL j C.size) (fun hx=>by have:=(H.own.lt b (Wn.1 hx)).1;omega)).trans (C.block b j)⟩
   clear q f G y t S SR RW;go_wp2;go_roundw
   case rel=>exact⟨k+1,by omega,by go_num,HN.out⟩
   case measure=>simp[intOf];omega
  .have ae:k=(r.eg.filter mq).length:=O
   have F:¬ ((k:N)<((r.eg.filter mq).length:N)):=O;have HF:Hid (WT w wr r aM (r.eg.filter mq).length u3):=⟨l,by rw[<- ae];exact E,X,j⟩;clear E X j;go_wp2;go_ret;exact⟨_,rfl,HF.out⟩
theorem tW:∀ {l:J (aQ × UG)}{k:M}(c:k<l.length){j:M}(_:j<6),(l.flatMap gv)[k*6+j]?=(gv l[k])[j]?
 |p :: l,0,c,j,hj=>by have e:(p :: l).flatMap gv=gv p++l.flatMap gv:=Ui;rw[e,List.getElem?_append_left (by simp[gv];omega)];simp
 |p :: l,k+1,c,j,hj=>by have a:k<l.length:=Uo;have e:(p :: l).flatMap gv=gv p++l.flatMap gv:=Ui;have f:(gv p).length=6:=rfl;rw[e,VZ Uo,f,show (k+1)*6+j-6=k*6+j by omega,tW a hj];simp
theorem b8q(eb:M)(id:N)(x:aQ)(a:Uu UJ)(n c:M)(w:UF)(h:w.cell? (eb,0)=U ↑id):UI prog 196 #[eb,rn x (UO a n c)] w fun e w'=>e=UW (x.id==id)/\UH w w w':=by
 have f:UH w w (w.alloc (UX #[x.id,x.kind,x.bH,x.aN,UO a n c,x.bY] 85)):=aS;have q:(w.alloc (UX #[x.id,x.kind,x.bH,x.aN,UO a n c,x.bY] 85)).cell? (w,0)=U ↑x.id:=Ui;have o:=aT f h;have j:=aB f;clear f h;unfold rn;go_in;go_upto_region 1 with fail;generalize w.alloc (UX #[x.id,x.kind,x.bH,x.aN,UO a n c,x.bY] 85)=X at *;go_big_region;go_wp21;go_ret;exact⟨rfl,j.drew⟩
theorem b1T(l:J (aQ × UG))(v:UG)(B eb:M)(id:N)(w:UF)(own:w.ownsRow B 85 6 v l.length (l.flatMap gv))(X:∀ p∈l,∃ a n c,p.2=UO a n c)(hc:w.cell? (eb,0)=U ↑id)(hl:l.length<=1000):UI prog 226 #[v,.func (.func 196) #[eb] #[]] w fun e w'=>e=UW (V Y (gn (fun p:aQ × UG=>p.1.id==id) l 0))/\UH w w w':=by
 obtain⟨a,cap,rfl⟩:=lz own;have CC:=aB hc;have HS:=aB X;have A:=aB own;clear hc X own;go_in;go_wp21;go_loopw [8] (fun i wx=>∃ k:M,k<=l.length/\i=V Y k/\gn (fun p:aQ × UG=>p.1.id==id) l 0=gn (fun p:aQ × UG=>p.1.id==id) (l.drop k) k/\UH w w wx) (fun i _=>l.length-(intOf i).toNat)
 .exact⟨0,VM _,rfl,rfl,Below.refl _ _⟩
 .obtain⟨k,hk,rfl,E,z⟩:=hrel;have R:=aB E;have T:=aB z
  by_cases h:k<l.length
  .have hi:(k:N)<(l.length:N):=O
   obtain⟨H,aa,e1⟩:=XR A O;simp only[XS,true_and] at e1;obtain⟨rfl,rfl⟩:=e1;have f:=fG A z;have P:=(f.cellAt (k*6) O).trans (tW h (j:=0) O);have a1:=(f.cellAt (k*6+1) O).trans (tW h (j:=1) O);have K:=(f.cellAt (k*6+2) O).trans (tW h (j:=2) O);have I:=(f.cellAt (k*6+3) O).trans (tW h (j:=3) O);have D:=(f.cellAt (k*6+4) O).trans (tW h (j:=4) O);have G:=(f.cellAt (k*6+5) O).trans (tW h (j:=5) O);simp only[gv,List.getElem?_cons_zero,List.getElem?_cons_succ] at P a1 K I D G;obtain⟨sa,sn,sc,y⟩:=HS l[k] (zg h);rw[y] at D;have o:=aB (b8q eb id l[k].1 sa sn sc wr (aT z CC));have ed:gn (fun p:aQ × UG=>p.1.id==id) (l.drop k) k=if l[k].1.id==id then (k:N) else gn (fun p:aQ × UG=>p.1.id==id) (l.drop (k+1)) ((k+1:M):N):=by rw[Wh h];rfl
   have ED:=aB ed;clear ed f z E y
   cases q:(l[k].1.id==id)
   .have C:Hid (gn (fun p:aQ × UG=>p.1.id==id) l 0=gn (fun p:aQ × UG=>p.1.id==id) (l.drop (k+1)) ((k+1:M):N)):=by show _=_;rw[R,ED,q];rfl
    rw[q] at o;clear q;unfold rn at o;go_wp21;refine o.mono ?_;rintro e w1 ⟨rfl,t⟩;have S:=aB (bU T t aJ);clear t P a1 K I D G o;go_wp21;go_roundw
    .exact⟨k+1,O,by go_num,C,S⟩
    .simp[intOf];omega
   .have C:Hid (gn (fun p:aQ × UG=>p.1.id==id) l 0=k):=by show _=_;rw[R,ED,q];rfl
    rw[q] at o;clear q;unfold rn at o;go_wp21;refine o.mono ?_;rintro e w1 ⟨rfl,t⟩;have S:=aB (bU T t aJ);clear t P a1 K I D G o;go_wp21;go_ret;exact⟨jy C.symm,S⟩
  .have F:k=l.length:=O
   have hi:¬ ((k:N)<(l.length:N)):=O;have C:Hid (gn (fun p:aQ × UG=>p.1.id==id) l 0=-1):=by show _=_;rw[R,F,List.drop_length];rfl
   clear E z;go_wp21;go_ret;exact⟨jy C.symm,T⟩
theorem a8q(l:J (aQ × UG))(v:UG)(B eb:M)(id:N)(w:UF)(own:w.ownsRow B 85 6 v l.length (l.flatMap gv))(y:∀ p∈l,∃ a n c,p.2=UO a n c)(A:w.cell? (eb,0)=U ↑id)(E:l.length<=1000):UI prog 195 #[v,.func (.func 196) #[eb] #[]] w fun e w'=>e=UW (l.any (fun p:aQ × UG=>p.1.id==id))/\UH w w w':=by
 have C:=aB (b1T l v B eb id w own y A E);have f:(decide ((0:N)<=gn (fun p:aQ × UG=>p.1.id==id) l 0))=l.any (fun p:aQ × UG=>p.1.id==id):=by
  rcases yG (fun p:aQ × UG=>p.1.id==id) l 0 with ⟨o,j⟩|⟨k,h,o,j,_⟩
  .rw[o];have:l.any (fun p:aQ × UG=>p.1.id==id)=UD:=Za.2 (fun x D=>by rw[j x D];simp);rw[this];rfl
  .have:l.any (fun p:aQ × UG=>p.1.id==id)=UE:=Xd.2 ⟨_,Zb h,j⟩;rw[this,o];exact decide_eq_true O
 have q:=aB f;clear f own y A;go_in;go_wp21;refine C.mono ?_;rintro e w1 ⟨rfl,t⟩;have F:=aB t;clear t C;generalize gn (fun p:aQ × UG=>p.1.id==id) l 0=z at *;go_wp21;go_ret;exact⟨by rw[q];rfl,F⟩
structure Dj(w wx:UF)(r:Rd.cP)(days:J N)(k:M)(v:UG):Prop where
 own:wx.ownsRow w 83 2 v k ((((days.take k).map (mu r))).flatMap ia)
 bl:UH w w wx
 ru:wx.heap[w.heap.size]?=U (cR r)
 ne:v.ownBlock≠U w.heap.size
theorem c1E(r:Rd.cP)(hf:Rd.hH r)(c:J N)(hd:∀ d∈c,0<=d/\d<100000)(hl:c.length<=100)(v:UG)(B:M)(w:UF)(own:w.ownsRow B 3 1 v c.length (c.map (Value.int Y))):UI prog 153 #[kc r,v] w fun e w'=>∃ v',e=UW v'/\w'.ownsRow w.heap.size 83 2 v' c.length ((c.map (mu r)).flatMap ia)/\UH w.heap.size w w':=by
 obtain⟨i0,F,D,C,A⟩:=info_parts xX;obtain⟨a,cap,rfl⟩:=lz own;have hX:UH w.heap.size w (w.alloc (cR r)):=(zr _ _).alloc (zq _) _;have hr:=dH w (cR r);have hs:(w.alloc (cR r)).heap.size=w.heap.size+1:=Ui;have HX:=aB (Vf hX (Vf hr hs));have OW:=aB own;have HD:=aB (Vf hd hf);clear own hX hr hd hf hs;unfold kc;go_in;go_upto_region 1 with fail;change YD _ _ _ _ (w.alloc (cR r));generalize w.alloc (cR r)=X at *;go_wp2_with (first
  |(at_make;refine wpList_make_own _ rfl _ _ 57 rfl w.heap.size 83 i0 _ 2 underlying57 F D C .i64 .i64 (c.length:N) c.length rfl rfl rfl (by rw[A];omega) Up (by have:=HX.out.1.size;omega) ?_;intro w1 h f))
 have S0:Hid (Dj w w1 r c 0 (UO (U ⟨X.heap.size,0,Z⟩) 0 c.length)):=by
  obtain⟨P,x2,x3⟩:=HX.out;refine⟨by simpa using h,P.grown f P.size (fun k e=>by cases e),(f.block _ O Ui).trans x2,fun e=>?_⟩;have:X.heap.size=w.heap.size:=by simpa[V9] using e
  omega
 clear h f;go_loopw [5,7,13] (fun vs _ vi wx=>∃ k:M,k<=c.length/\vi=V Y k/\Dj w wx r c k vs) (fun _ _ vi _=>c.length-(intOf vi).toNat)
 case atStart=>exact⟨0,VM _,rfl,S0.out⟩
 case round =>
  obtain⟨k,hk,rfl,S⟩:=hrel;by_cases j:k<c.length
  .have E:(k:N)<(c.length:N):=O
   have row:=fG OW.out S.bl;obtain⟨Hh,ai,H⟩:=XR row O;simp only[XS,true_and] at H;obtain⟨rfl,rfl⟩:=H;have a0:=row.cellAt k O;rw[XT,Wx j,Option.map_some] at a0;have SO:=aB (L4 r HD.out.2 c[k] (HD.out.1 _ (zg j)).1 (HD.out.1 _ (zg j)).2 wr);have x0:=vY S.ru;have P:=rG S.ru;have x2:=vZ S.ru;have x3:=v7 S.ru;have x4:=wb S.ru;have x5:=wg S.ru;have x6:=wh S.ru;have x7:=wk S.ru;have x8:=wm S.ru;have x9:=sI S.ru;have ad:=yM S.ru;have ac:=yN S.ru;have ab:=yO S.ru;have aa:=yP S.ru;have T:=aB S;unfold kc at SO;clear S row;go_wp2_with fail;refine SO.out.mono ?_;rintro e w2 ⟨rfl,q⟩;have RW:=aB (fG T.out.own q);have K:=aB q;have aj:w.heap.size<=w2.heap.size:=U0 T.out.bl.size q.size;clear q SO a0 x0 P x2 x3 x4 x5 x6 x7 x8 x9 ad ac ab aa;go_wp2_with (first
    |(at_builtin;refine wpList_append_lies _ rfl _ _ 57 rfl w.heap.size 83 i0 _ 2 16 underlying57 F D C A rfl Uj _ _ _ rfl (RW.out.alloc _) ⟨w2.heap.size,0,Z⟩ 1 1 (ia (mu r c[k])) rfl rfl (Wf (cs:=(ia (mu r c[k])).toArray) (dH w2 _)) (by simp[ia,Wg]) O Up O Un (w2.heap.size+1) Ui ?_;intro R I w3 h f G ag))
   have y:aH u5.ownBlock.toList w2 w3:=aH.grown ((aH.refl _ w2).alloc _) f (fun k hk=>.inl (Wn.2 hk));have t:u5.ownBlock=U R\/R=w2.heap.size+1:=G;have HN:Hid (Dj w w3 r c (k+1) (UO (U ⟨R,0,Z⟩) (k+1) I)):=by
    have S:=T.out;have z:UH w.heap.size w w2:=S.bl.trans (K.out.mono S.bl.size);have ae:w.heap.size<wr.heap.size:=by have:=vY S.ru;exact U1 _ _ this
    refine⟨?_,⟨y.os.trans z.os,y.tape.trans z.tape,y.output.trans z.output,U0 z.size y.size,fun b hb=>(y.block b (zL hb z.size) (fun hx=>by have:=(S.own.lt b (Wn.1 hx)).1;omega)).trans (z.block b hb)⟩,?_,fun e=>?_⟩
    .rw[VL j,VU,VX];have:([c[k]].map (mu r)).flatMap ia=ia (mu r c[k]):=Ui
     rw[this];exact h
    .exact ((y.block _ (by have:=K.out.size;omega) (fun hx=>S.ne (Wn.1 hx))).trans (K.out.block _ ae)).trans S.ru
    .have:R=w.heap.size:=by simpa[V9] using e
     rcases t with H|H
     .exact S.ne (by rw[H,this])
     .have:=K.out.size;omega
   clear h f G y t T RW K;go_wp2;go_roundw
   case rel=>exact⟨k+1,by omega,by go_num,HN.out⟩
   case measure=>simp[intOf];omega
  .have af:k=c.length:=O
   have E:¬ ((k:N)<(c.length:N)):=O;have HF:Hid (wr.ownsRow w.heap.size 83 2 u5 c.length ((c.map (mu r)).flatMap ia)/\UH w.heap.size w wr):=by have o:=S.own;rw[af,Zc] at o;exact⟨o,S.bl⟩
   clear S;go_wp2;go_ret;exact⟨_,rfl,HF.out⟩
theorem a9F{q:Rd.cP}(h:aA.eW s.ts name u≠0):aA.aX s (.series name u q)=(s,aA.bS.error (aA.eW s.ts name u)):=by
 have e:aA.oG s name u q=aA.eW s.ts name u:=by unfold aA.oG;rw[Uz h]
 simp only[aA.aX];rw[e,Uz h]
theorem a9E{q:Rd.cP}(c:Rd.hH q)(h:aA.eW s.ts name u=0)(a:Rd.gR q≠0):aA.aX s (.series name u q)=(s,aA.bS.error (Rd.gR q)):=by
 have f:=(Rd.sF c).1;have e:aA.oG s name u q=Rd.gR q:=by unfold aA.oG;rw[Uy O,<- f,Uz a]
 simp only[aA.aX];rw[e,Uz a]
theorem b5m{q:Rd.cP}(f:Rd.hH q)(h:aA.eW s.ts name u=0)(j:Rd.gR q=0):aA.aX s (.series name u q)=jO s ⟨0,1,name,u,(gi q).map (mu q),0⟩:=by
 let⟨e1,e2⟩:=Rd.sF f;have t:=(e2 Uo).1;have o:(gi q).map (mu q)=Rd.jd q (Rd.cN q):=by unfold gi;rw[Uz j,t];rfl
 simp only[aA.aX];unfold aA.oG jO;rw[Uy (c:=aA.eW s.ts name u≠0) O,<- e1,Uy (c:=Rd.gR q≠0) O,o];by_cases a:s.given=60
 .simp[a]
 .cases aA.eT s.ts s.es name u (Rd.jd q (Rd.cN q)) <;> simp[a]
theorem Ls:∀ (i:M)(h:i<L.length),(L.flatMap ia)[i*2]?=U (V Y L[i].1)/\(L.flatMap ia)[i*2+1]?=U (V Y L[i].2):=by
 induction L with
 |nil=>intro i h;simp at h
 |cons a L ih =>
  intro i h
  cases i with
  |zero=>exact⟨rfl,rfl⟩
  |succ i =>
   let⟨h1,h2⟩:=ih i Uo;have e:(a :: L).flatMap ia=[V Y a.1,V Y a.2]++L.flatMap ia:=rfl;rw[e,show (i+1)*2=2+i*2 from by omega,show 2+i*2+1=2+(i*2+1) from by omega];constructor
   .rw[VZ Ui];simpa using h1
   .rw[VZ Ui];simpa using h2
theorem eH.yn(h:eH w d s r aM)(z:UH w w w3){y:M}(D:i<r.tg.length)(c:r.tg[i].name=name)(row:w3.ownsRow y 83 2 (UO g n cap) n (L.flatMap ia))(A:n=L.length)(E:B<=y)(H:w<=B)(ok:jr s.now ⟨0,1,name,u,L,0⟩):nA (w3.alloc (UX #[V Y 0,V Y 1,UM (U ⟨r.tg[i].tb,0,UB⟩),u,UO g n cap,V Y 0] 197)) B d s r aM ⟨⟨0,1,name,u,L,0⟩,w3,g,cap,r.tg[i].tb⟩ i:=by
 have q:UH w3 w3 (w3.alloc (UX #[V Y 0,V Y 1,UM (U ⟨r.tg[i].tb,0,UB⟩),u,UO g n cap,V Y 0] 197)):=aS;have t:=h.dk.later z;have eb:=dH w3 (UX #[V Y 0,V Y 1,UM (U ⟨r.tg[i].tb,0,UB⟩),u,UO g n cap,V Y 0] 197);have I:=row.lt g rfl;have G:(w3.alloc (UX #[V Y 0,V Y 1,UM (U ⟨r.tg[i].tb,0,UB⟩),u,UO g n cap,V Y 0] 197)).heap.size=w3.heap.size+1:=Ui;have a:=fG row q;generalize w3.alloc (UX #[V Y 0,V Y 1,UM (U ⟨r.tg[i].tb,0,UB⟩),u,UO g n cap,V Y 0] 197)=Z at *;refine⟨⟨t.later q,h.of,h.wl,h.hl,h.inv⟩,⟨⟨?_,?_,?_,?_,fun j C=>?_,?_⟩,?_,?_,fun o=>frozen_of_row _ _ _ _ _ eb,⟨_,eb⟩⟩,t.none aJ,h.dk.none Uo,Uo,Uo,Uo,O,D,c,rfl,ok⟩
 .show Z.cell? (w3,0)=_;simp only[Vk,eb];rfl
 .show Z.cell? (w3,2)=_;simp only[Vk,eb];rfl
 .show Z.cell? (w3,3)=_;simp only[Vk,eb];rfl
 .show Z.cell? (w3,4)=U (UO g L.length cap);rw[<- A];simp only[Vk,eb];rfl
 .have f:j<L.length:=C;let⟨f1,f2⟩:=Ls j f;have F:=a.cellAt (j*2) O;have c1:=a.cellAt (j*2+1) O;exact⟨F.trans f1,c1.trans f2⟩
 .show g<_;omega
 .show Z.cell? (w3,1)=_;simp only[Vk,eb];rfl
 .show Z.cell? (w3,5)=_;simp only[Vk,eb];rfl
theorem b9z(w:UF)(name:Us)(u:N)(q:Rd.cP):let X:=((w.alloc (UX #[name,u,V Y q.pc,V Y q.ev,aI q.acc 0,aI q.acc 1,aI q.acc 2,aI q.acc 3,aI q.acc 4,aI q.acc 5,aI q.acc 6,V Y q.fr,q.mn,q.mi,q.ti,q.un] 158)).alloc bI);UH w w X/\X.heap[w.heap.size+1]?=U bI/\X=w.heap.size+2/\X.heap[w.heap.size]?=U (UX #[name,u,V Y q.pc,V Y q.ev,aI q.acc 0,aI q.acc 1,aI q.acc 2,aI q.acc 3,aI q.acc 4,aI q.acc 5,aI q.acc 6,V Y q.fr,q.mn,q.mi,q.ti,q.un] 158 (0,0)):=by let⟨h1,h2⟩:=BA (w:=w) (UX #[name,u,V Y q.pc,V Y q.ev,aI q.acc 0,aI q.acc 1,aI q.acc 2,aI q.acc 3,aI q.acc 4,aI q.acc 5,aI q.acc 6,V Y q.fr,q.mn,q.mi,q.ti,q.un] 158);exact⟨h1,h2,by simp,(Below.heap_alloc _ _ _ Ui).trans (dH w _)⟩
theorem c3m(a:Array UG)(w:UF):(callFunc 153 a).run prog w=.ok (.enter 153 a) w:=Um
theorem c3n(a:Array UG)(w:UF):(callFunc 149 a).run prog w=.ok (.enter 149 a) w:=Um
theorem b7T(h:eH w d s r aM)(ht:hI w)(aj:10<=w.heap.size)(name:Us)(hn:name.size<=1000)(u:N)(q:Rd.cP)(hl:aA.ke (.series name u q)):UI prog 103 #[d,UT #[name,u,V Y q.pc,V Y q.ev,aI q.acc 0,aI q.acc 1,aI q.acc 2,aI q.acc 3,aI q.acc 4,aI q.acc 5,aI q.acc 6,V Y q.fr,q.mn,q.mi,q.ti,q.un]] w fun e w'=>∃ v,e=UW v/\eu w d aM (aA.aX s (.series name u q)) v w':=by
 obtain⟨hX,ad,R,c⟩:=b9z w name u q;obtain⟨ai,ag,K⟩:=hl;have HV:=aB (Mi (h.dk.later hX) h.of h.bA name hn u);have DY:=aB (JW q K ((w.alloc (UX #[name,u,V Y q.pc,V Y q.ev,aI q.acc 0,aI q.acc 1,aI q.acc 2,aI q.acc 3,aI q.acc 4,aI q.acc 5,aI q.acc 6,V Y q.fr,q.mn,q.mi,q.ti,q.un] 158)).alloc bI) (sM ht hX aj) (by rw[R];omega));have HH:=aB h;have HX:=aB (Vf hX (Vf ad R));have HA:=aB (a9F (s:=s) (name:=name) (u:=u) (q:=q));have HE:=aB (a9E (s:=s) (name:=name) (u:=u) K);have HO:=aB (b5m (s:=s) (name:=name) (u:=u) K);have t:=aB K;have x0:=bN c 0 rfl;have x1:=bN c 1 rfl;have x2:=bN c 2 rfl;have x3:=bN c 3 rfl;have x4:=bN c 4 rfl;have x5:=bN c 5 rfl;have x6:=bN c 6 rfl;have x7:=bN c 7 rfl;have x8:=bN c 8 rfl;have x9:=bN c 9 rfl;have E:=bN c 10 rfl;have D:=bN c 11 rfl;have C:=bN c 12 rfl;have A:=bN c 13 rfl;have z:=bN c 14 rfl;have y:=bN c 15 rfl;unfold kc at DY;clear h hX ad R c K ht;go_in;go_upto_region 1 with fail;change YD _ _ _ _ ((w.alloc (UX #[name,u,V Y q.pc,V Y q.ev,aI q.acc 0,aI q.acc 1,aI q.acc 2,aI q.acc 3,aI q.acc 4,aI q.acc 5,aI q.acc 6,V Y q.fr,q.mn,q.mi,q.ti,q.un] 158)).alloc bI);generalize ((w.alloc (UX #[name,u,V Y q.pc,V Y q.ev,aI q.acc 0,aI q.acc 1,aI q.acc 2,aI q.acc 3,aI q.acc 4,aI q.acc 5,aI q.acc 6,V Y q.fr,q.mn,q.mi,q.ti,q.un] 158)).alloc bI)=X at *;have BX:=HX.1;have QX:=Q7.of HX.2.1;go_wp21;refine HV.mono ?_;rintro e w1 ⟨hp,rfl⟩;rcases hp with ⟨P,rfl⟩|⟨P,i,hi,e1,e2,rfl⟩
 .have HD:=aB (HA P);generalize aA.eW s.ts name u=G at *;have ac:(G != 0)=UE:=bZ P
  clear P HV HX DY HE HO HA x0 x1 x2 x3 x4 x5 x6 x7 x8 x9 E D C A z y;go_wp21;refine aK (ly G w1) fun w9 S=>?_;have HF:=aB (HH.refuse BX QX S HD);obtain⟨q0,q1,q2,q3,q4,q5,q6,fq⟩:=HF.1;simp only[bT];go_wp21;exact cV results103 ⟨q0,q1,q2,q3,q4,q5,q6,fq⟩ ⟨_,rfl,HF.2⟩
 .go_wp21
  refine DY.mono ?_;rintro e w2 ⟨da,rfl,own,a⟩;have j:=BX.trans (a.mono BX.size);have I:=QX.later (a.block _ (U1 _ _ QX.q0));obtain⟨a1,af,rfl⟩:=sy own;by_cases F:Rd.gR q=0
  .have HD:=aB (HO P F);have ac:(Rd.gR q != 0)=UD:=bZ F
   obtain⟨T,ae⟩:=Rd.sF t;have H:=ae (by rw[<- T];exact F);have o:gi q=Rd.cN q:=by unfold gi;rw[Uz F,H.1]
   have OK:Hid (jr s.now ⟨0,1,name,u,(gi q).map (mu q),0⟩):=by
    obtain⟨p1,p2,p3,p4⟩:=aA.Rd.mH t (by rw[<- T];exact F);have e4:(gi q).map (mu q)=Rd.jd q (Rd.cN q):=by rw[o];rfl
    show jr _ _;rw[e4];exact⟨ai,ag,p4,p3,p1,p2,.inl ⟨rfl,rfl⟩⟩
   have ab:0<(gi q).length:=List.length_pos_iff.2 (by rw[o];exact H.2.1);have au:(gi q).length<=40:=by rw[o];exact H.2.2.1
   have SP:=aB (c1E q t (gi q) (fun d hd=>by rw[o] at hd;have:=Rd.uZ t hd;have:=t.f0;omega) O (UO a1 (gi q).length af) w1 w2.drew (DQ own));have aa:w+2<=w2.drew.heap.size:=by have:=a.size;have:=HX.2.2;show w+2<=w2.heap.size;omega
   have AS:=aB (fun (w3:UF) (g cap:M) (f:UH w2.drew.heap.size w2.drew w3) (row:w3.ownsRow w2.drew.heap.size 83 2 (UO g (gi q).length cap) (gi q).length (((gi q).map (mu q)).flatMap ia)) =>Fx (HH.yn (j.drew.trans (f.mono j.size)) (B:=w.heap.size+2) hi e1 row Ui aa O OK))
   have AP:=aB (fun (w3 w4:UF) (g cap:M) (v:UG) (f:UH w2.drew.heap.size w2.drew w3) (ep:nY (w3.alloc (UX #[V Y 0,V Y 1,UM (U ⟨r.tg[i].tb,0,Z⟩),u,UO g (gi q).length cap,V Y 0] 197)) (w.heap.size+2) d aM (jO s ⟨0,1,name,u,(gi q).map (mu q),0⟩) v w4) =>ep.uN (w:=w) (Q:=w.heap.size+1) (Step.below ((j.drew.trans (f.mono j.size)).trans (((zr w3 w3).alloc aJ _).mono (j.drew.trans (f.mono j.size)).size))) O O O (HH.dk.none O) ((I.later (w':=w2.drew) rfl).later (((Below.heap_alloc w3 _ _ (zL (U1 _ _ I.q0) f.size))).trans (f.block _ (U1 _ _ I.q0)))))
   have y1:=aT a x1;have y2:=aT a x2;have y3:=aT a x3;have y4:=aT a x4;have y5:=aT a x5;have y6:=aT a x6;have y7:=aT a x7;have y8:=aT a x8;have y9:=aT a x9;have ar:=aT a E;have aq:=aT a D;have ao:=aT a C;have an:=aT a A;have al:=aT a z;have ak:=aT a y;unfold kc at SP;clear HV DY HE HO HA HX own a H o T ae OK P x0 x1 x2 x3 x4 x5 x6 x7 x8 x9 E D C A z y BX QX;generalize Rd.gR q=G at *;subst F;go_upto_region 7 with fail;go_region_law (first
    |(refine rH (by rfl) 153 _ _ (by rfl) _ (by simp[Act.eval]) (c3m _ _) SP ?_;rintro e w3 ⟨v',rfl,row,f⟩;refine⟨_,rfl,?_⟩;obtain⟨g,cap,rfl⟩:=XR row ab;have z1:=aT f y1;have EN:=aB (AS w3 g cap f row);have AQ:=aB (fun w4 v ep=>AP w3 w4 g cap v f ep);clear SP AS AP row)
    |(refine rH (by rfl) 149 _ _ (by rfl) _ (by simp[Act.eval]) (c3n _ _) EN ?_;rintro e w4 ⟨v,rfl,ep⟩;refine⟨_,rfl,?_⟩;obtain⟨G,nn,rfl,q7,K⟩:=AQ w4 v ep;have HF:Hid (eu w d aM (aA.aX s (.series name u q)) (bT G 0 nn () () () ()) (dE w4 (w.heap.size+1) (V Y G) (V Y 0) (V Y nn) () () () ())):=(by rw[HD];exact K _ _ _ _ _ _ _);obtain⟨q0,q1,q2,q3,q4,q5,q6,fq⟩:=q7;clear ep K EN AQ;simp only[bT]))
   all_goals go_wp21;exact cV results103 ⟨q0,q1,q2,q3,q4,q5,q6,fq⟩ ⟨_,rfl,HF⟩
  .have HD:=aB (HE P F);generalize Rd.gR q=G at *;have ac:(G != 0)=UE:=bZ F
   clear P HV HX DY HE HO HA x0 x1 x2 x3 x4 x5 x6 x7 x8 x9 E D C A z y own a F;go_wp21;refine aK (ly G w2) fun w9 S=>?_;have HF:=aB (HH.refuse j I S HD);obtain⟨q0,q1,q2,q3,q4,q5,q6,fq⟩:=HF.1;simp only[bT];go_wp21;exact cV results103 ⟨q0,q1,q2,q3,q4,q5,q6,fq⟩ ⟨_,rfl,HF.2⟩
theorem b2l(h:eH w d s rw_ aM)(ht:hI w)(q:10<=w.heap.size)(name:Us)(D:name.size<=1000)(u:N)(r:Rd.cP)(E:aA.ke (.series name u r)):UI prog 62 #[d,UU 158 (UT #[name,u,V Y r.pc,V Y r.ev,aI r.acc 0,aI r.acc 1,aI r.acc 2,aI r.acc 3,aI r.acc 4,aI r.acc 5,aI r.acc 6,V Y r.fr,r.mn,r.mi,r.ti,r.un])] w fun e w'=>∃ v,e=UW v/\eu w d aM (aA.aX s (.series name u r)) v w':=by
 have t:=aB (h.pv (UX #[name,u,V Y r.pc,V Y r.ev,aI r.acc 0,aI r.acc 1,aI r.acc 2,aI r.acc 3,aI r.acc 4,aI r.acc 5,aI r.acc 6,V Y r.fr,r.mn,r.mi,r.ti,r.un] 158));have y:=aB (b7T t.1 (sM ht t.2.1 q) (U0 q t.2.1.size) name D u r E);clear h;unfold bI at y t;have c:=oS 158 Uj;have o:=pG 158 Uj;have j:=qs 158 Uj;have f:=qT 158 Uj;have a:=oj underlying158;go_in;go_wp21;refine y.mono ?_;rintro e w2 ⟨v,rfl,A⟩;obtain⟨R,at_,G,a1,a2,a3,a4,P,K,I,H,c1,X,T,S,rfl,C,z⟩:=A.pq t.2;have F:=aB z;clear A z y c o j f a;let⟨q0,q1,q2,q3,q4,q5,q6,fq⟩:=C;simp only[bT];go_wp21;exact cV results62 ⟨q0,q1,q2,q3,q4,q5,q6,fq⟩ ⟨_,rfl,F⟩
theorem eH.iG{j:UF}(h:eH w d s r aM)(k:UH w w j)(C:w<=Q){t:UG}(z:iw j (Q+1) aM t l)(a b c e f g i:UG):eu w d aM (s,⟨0,0,0,l.map (·.1),[],[],[]⟩) (bT 0 0 0 t () () ()) (dE j Q a b c e f g i):=by
 have q:=mY j Q a b c e f g i;have A:=h.dk.later k;have nq:∀ b,Q<=b->aM b=Z:=fun b o=>h.dk.none O;have st:Step anyS w aM aM j (dE j Q a b c e f g i):=⟨⟨_,q,fun x y=>.inr Uo⟩,fun _ _ h=>h,fun _ _ h=>.inl h⟩;have rp:mV j (Q+1) aM (bT 0 0 0 t () () ()) ⟨0,0,0,l.map (·.1),[],[],[]⟩ :=⟨_,_,_,_,l,rfl,rfl,z,eO.nil _ _ _,eO.nil _ _ _,eO.nil _ _ _,(fun b o=>by cases o),fun b o=>by cases o⟩
 exact⟨r,aM,A.off q (fun x y=>by grind),h.of,h.wl,h.hl,(Step.below k).trans st,(rp.off q (fun x y=>by grind)).base O⟩
theorem b8Y(h:Of s r):(r.eg.filter mq).map (·.e)=s.es.filter fun e=>e.kind==3:=by rw[<- h.es,List.filter_map];rfl
theorem b0k(h:eH w d s rw_ aM):UI prog 62 #[d,UU 166 (UT #[])] w fun e w'=>∃ v,e=UW v/\eu w d aM (aA.aX s .waiting) v w':=by
 have G:UH w.heap.size w ((w.alloc (UX #[V Y 0,V Y 0,V Y 0,UO Z 0 0,UO Z 0 0,UO Z 0 0,UO Z 0 0] 74)).alloc (UX #[] 166)):=((zr _ _).alloc (zq _) _).alloc Ui _;have K:((w.alloc (UX #[V Y 0,V Y 0,V Y 0,UO Z 0 0,UO Z 0 0,UO Z 0 0,UO Z 0 0] 74)).alloc (UX #[] 166)).heap[w.heap.size]?=U bI:=(Below.heap_alloc _ _ _ Ui).trans (dH w bI);have I:((w.alloc (UX #[V Y 0,V Y 0,V Y 0,UO Z 0 0,UO Z 0 0,UO Z 0 0,UO Z 0 0] 74)).alloc (UX #[] 166)).heap.size=w.heap.size+2:=Ui;have R:=aB (a8L (w:=((w.alloc (UX #[V Y 0,V Y 0,V Y 0,(),(),(),()] 74)).alloc (UX #[] 166))) (s:=s) ⟨h.dk.later G,h.of,h.wl,h.hl,h.inv⟩);have E:=aB (Vf G (Vf (Q7.of K) I));have HD:Hid (aA.aX s .waiting=(s,⟨0,0,0,(rw_.eg.filter mq).map (·.e),[],[],[]⟩)):=by show _=_;rw[b8Y h.of];rfl
 clear G K I;have X:=aB h;clear h;have y:=oS 166 Uj;have D:=pG 166 Uj;have C:=qs 166 Uj;have z:=qT 166 Uj;have q:=sk 166 Uj;have o:=te 166 Uj;have t:=uD 166 Uj;have A:=vL 166 Uj;have j:=oj underlying166;go_in;go_wp21;refine R.mono ?_;rintro e w2 ⟨v,rfl,l,P,H,F⟩;obtain⟨a1,c1,rfl⟩:=lz H.own;have S:=E.2.1.later (F.block w (by rw[E.2.2];omega));have HF:Hid (∀ a b c e f g i,eu w d aM (aA.aX s .waiting) (bT 0 0 0 (UO a1 l.length c1) () () ()) (dE w2 w a b c e f g i)):=fun a b c e f g i=>by
  have T:l.map (·.1)=(rw_.eg.filter mq).map (·.e):=by rw[P,Zc]
  rw[HD,<- T];exact X.iG (E.1.trans (F.mono E.1.size)) aJ (H.base (by rw[E.2.2];omega)) a b c e f g i
 clear R H P F y D C z q o t A j;let⟨q0,q1,q2,q3,q4,q5,q6,fq⟩:=S;go_wp21;exact cV results62 ⟨q0,q1,q2,q3,q4,q5,q6,fq⟩ ⟨_,rfl,HF _ _ _ _ _ _ _⟩
theorem b3W(h:eH w d s rw_ aM):UI prog 62 #[d,UU 176 (UT #[])] w fun e w'=>∃ v,e=UW v/\eu w d aM (aA.aX s .clock) v w':=by
 have K:UH w.heap.size w ((w.alloc (UX #[V Y 0,V Y 0,V Y 0,(),(),(),()] 74)).alloc (UX #[] 176)):=aS.alloc Ui _;have P:((w.alloc (UX #[V Y 0,V Y 0,V Y 0,(),(),(),()] 74)).alloc (UX #[] 176)).heap[w.heap.size]?=U bI:=(Below.heap_alloc _ _ _ Ui).trans (dH w bI);have R:=(h.dk.later K).c0;rw[h.of.now] at R;have T:=aB K;have HH:=aB h;have S:=Q7.of P;have HD:Hid (aA.aX s .clock=(s,⟨0,0,s.now,[],[],[],[]⟩)):=rfl;clear K P h;have A:=oS 176 Uj;have I:=pG 176 Uj;have G:=qs 176 Uj;have C:=qT 176 Uj;have t:=sk 176 Uj;have o:=te 176 Uj;have z:=uD 176 Uj;have F:=vL 176 Uj;have j:=xT 176 Uj;have E:=zY 176 Uj;have H:=Cv 176 Uj;have y:=IV 176 Uj;have D:=Rt 176 Uj;have q:=oj underlying176;go_in;go_upto_region 43 with fail;change YD _ _ _ _ ((w.alloc (UX #[V Y 0,V Y 0,V Y 0,(),(),(),()] 74)).alloc (UX #[] 176));generalize ((w.alloc (UX #[V Y 0,V Y 0,V Y 0,(),(),(),()] 74)).alloc (UX #[] 176))=X at *;have HF:Hid (∀ a b c e f g i,eu w d aM (aA.aX s .clock) (bT 0 0 s.now () () () ()) (dE X w a b c e f g i)):=fun a b c e f g i=>by rw[HD];exact HH.said T aJ 0 s.now a b c e f g i
 clear A I G C t o z F j E H y D q;let⟨q0,q1,q2,q3,q4,q5,q6,fq⟩:=S;go_wp21;exact cV results62 ⟨q0,q1,q2,q3,q4,q5,q6,fq⟩ ⟨_,rfl,HF _ _ _ _ _ _ _⟩
open Go.RowKit Go.Shelf
attribute [local go_sem] YN
theorem b2Q{F:Fence}(a:F.depth=Z)(k:M):F.room k:=fun d h=>by grind
theorem RoundIn.jV{F:Fence}(t:F.depth=Z){q:M}{P:Program}{l:M}{f:FuncId}{j:Array UG}{a o:Code}{R:Ending->UF->Prop}(h:RoundIn F m P l f j a o w R):RoundIn F q P l f j a o w R:=⟨h.1,fun c cs _=>h.2 c cs (b2Q t _)⟩
theorem YieldAt.jV{F:Fence}(f:F.depth=Z)(c:M){P:Program}{l:M}{a:Array UG}{R:Ending->UF->Prop}(h:YieldAt F m P l a W R):YieldAt F c P l a W R:=by let⟨fn,tmps,assign,body,hy,hR⟩:=h;exact⟨fn,tmps,assign,body,hy,RoundIn.jV f hR⟩
theorem je.gV{x:aF.It}(h:je w b x)(k:UH n₀ w w')(a:b<n₀):je w' b x :=⟨(k.cell (p:=(b,0)) a).trans h.c0,(k.cell (p:=(b,1)) a).trans h.c1,(k.cell (p:=(b,2)) a).trans h.c2,(k.cell (p:=(b,3)) a).trans h.c3,h.c4.imp (fun _=>(k.cell (p:=(b,4)) a).trans),h.c5.imp (fun _=>(k.cell (p:=(b,5)) a).trans),h.c6.imp (fun _=>(k.cell (p:=(b,6)) a).trans),h.c7.imp (fun _=>(k.cell (p:=(b,7)) a).trans),fun o=>(k.frozen (p:=(b,o)) a).trans (h.fz o)⟩
theorem eB.gV{n₀:M}{w w':UF}(k:UH n₀ w w'):∀ {t:aF.S}{p:UG}{F:J M},eB w t p F->(∀ i∈F,i<n₀)->eB w' t p F
 |.nil,p,F,c,_=>c
 |.node a l r,p,F,c,hd=>by obtain⟨b,o,j,G,E,rfl,n,D,C,A,z,y,c,rfl,q⟩:=c;have f:=hd b Ui;exact⟨b,o,j,G,E,rfl,n.gV k f,(k.cell (p:=(b,4)) f).trans D,(k.cell (p:=(b,5)) f).trans C,(k.cell (p:=(b,6)) f).trans A,(k.cell (p:=(b,7)) f).trans z,eB.gV k y (fun i h=>hd i (by simp[h])),eB.gV k c (fun i h=>hd i (by simp[h])),rfl,q⟩
theorem b8b(F:Fence)(hd:F.depth=Z)(h6:F.fn 225)(X:F.round=Z)(l n₀ a3:M)(a b:N){Q:aF.It->Prop}(ag Jx:J {x:aF.It // Q x}->UF->Prop)
  (hY:∀ m pre x W,ag pre W->pre.length<a3->YieldAt F m prog l #[x.1.v] W fun e W' =>(e=UW UE/\ag (pre++[x]) W'/\UH n₀ W W')\/(e=UW UD/\Jx (pre++[x]) W')) (t:aF.S):
  ∀ (n:M) (p:Uu UJ) (G:J M) (pre ys:J {x:aF.It // Q x}) (W:UF),eB W t p G->(∀ i∈G,i<n₀)->ys.map (·.1)=aF.meet a b t->ag pre W->pre.length+ys.length<=a3 ->
   CallsIn F n prog 225 #[p,a,b,.func (.yield l) #[] #[]] W fun e W' =>(e=UW UE/\ag (pre++ys) W'/\UH n₀ W W')\/(e=UW UD/\∃ q,q <+: ys/\Jx (pre++q) W'):=by
 induction t with
 |nil =>
  intro n p G pre ys W ht _ I hJ _;obtain⟨hp,_⟩:=ht
  cases hp;obtain rfl:ys=[]:=Zd.1 (I.trans rfl);refine callsIn_of_wp func225 rfl h6 ?_ X;simp only[ntmps225,YP,VB,VG,YQ,YR,YS,YT,YU,YV,YW,Vm];gi_wp2;go_ret;exact .inl ⟨rfl,by simpa using hJ,Below.refl _ _⟩
 |node x tl tr ihl ihr =>
  intro n p G pre ys W ht hG I hJ hN;obtain⟨o,pl,pr,Fl,Fr,rfl,rfl,P,c4,_⟩:=ht.half;have E:∀ k:M,(F.depth.isSome=UE->1<=k):=fun k h=>by rw[hd] at h;cases h
  have hb:=hG o Ui;have an:∀ i∈Fl,i<n₀:=fun i hi=>hG i (by simp[hi]);have aa:∀ i∈Fr,i<n₀:=fun i hi=>hG i (by simp[hi]);generalize ao:aF.late (.node x tl tr)=la at c4;by_cases q1:la<=a
  .obtain rfl:ys=[]:=by
    have:aF.meet a b (.node x tl tr)=[]:=by rw[aF.meet,ao,Uz q1]
    exact Zd.1 (I.trans this)
   refine callsIn_of_wp func225 rfl h6 ?_ X;simp only[ntmps225,YP,VB,VG,YQ,YR,YS,YT,YU,YV,YW,Vm];gi_wp2;go_ret;exact .inl ⟨rfl,by simpa using hJ,Below.refl _ _⟩
  .have em:aF.meet a b (.node x tl tr)=aF.meet a b tl++if b<=x.f then [] else (if a<x.t then [x] else [])++aF.meet a b tr:=by rw[aF.meet,ao,Uy q1]
   rw[em] at I;obtain⟨D,y2,rfl,aj,C⟩:=Ze.1 I;clear em I;simp only[VA] at hN;have c0:=P.n.c0;have c1:=P.n.c1;have c3:=P.n.c3;have c6:=P.c6;have c7:=P.c7;by_cases q2:b<=x.f
   .rw[Uz q2] at C;obtain rfl:y2=[]:=Zd.1 C
    have A:=(ihl (n-1) pl Fl pre D W P.l an aj hJ (bZ hN)).mono (R':=fun e j =>(e=UW UE/\ag (pre++D) j/\UH n₀ W j/\j.cell? (o,0)=U (V Y x.f))\/(e=UW UD/\∃ q,q <+: D/\Jx (pre++q) j))
     (fun e j h=>h.elim (fun ⟨he,hj,c⟩=>.inl ⟨he,hj,c,(c.cell (p:=(o,0)) hb).trans c0⟩) .inr)
    clear ihl ihr P ht;refine callsIn_of_wp func225 rfl h6 ?_ X;simp only[ntmps225,YP,VB,VG,YQ,YR,YS,YT,YU,YV,YW,Vm];gi_wp2_with (first
     |((try refine⟨E _,?_⟩);gi_at_call 225;refine A.mono ?_;clear A;rintro e j (⟨rfl,al,c,aq⟩|⟨rfl,q,hq,T⟩)))
    .go_ret;exact .inl ⟨rfl,by simpa using al,c⟩
    .go_ret;exact .inr ⟨rfl,q,by simpa using hq,T⟩
   .rw[Uy q2] at C;have a7:x.f<b:=O
    obtain⟨y3,y4,rfl,K,ai⟩:=Ze.1 C;clear C;simp only[VA] at hN;by_cases q3:a<x.t
    .rw[Uz q3] at K
     obtain⟨y,rfl,av⟩:∃ y:{x:aF.It // Q x},y3=[y]/\y.1=x:=by
      rcases y3 with _|⟨y,_|⟨z,r⟩⟩
      .simp at K
      .exact⟨y,rfl,by simpa using K⟩
      .simp at K
     subst av;simp only[VB,VG] at hN;have C:∀ j,ag (pre++D) j->UH n₀ W j->YieldAt F (n-1) prog l #[y.1.v] j fun e R =>(e=UW UE/\ag (pre++D++[y]) R/\UH n₀ W R/\R.cell? (o,7)=U ↑pr/\eB R tr pr Fr)\/(e=UW UD/\Jx (pre++D++[y]) R):=fun j al c =>
      YieldAt.mono (hY (n-1) _ y j al Un) fun e R h=>h.elim (fun ⟨he,hj,H⟩=>.inl ⟨he,hj,c.trans H,((c.trans H).cell (p:=(o,7)) hb).trans c7,P.r.gV (c.trans H) aa⟩) .inr
     have A:=(ihl (n-1) pl Fl pre D W P.l an aj hJ O).mono (R':=fun e j =>
       (e=UW UE/\j.cell? (o,0)=U (V Y y.1.f)/\j.cell? (o,1)=U ↑y.1.t/\j.cell? (o,3)=U ↑y.1.v/\YieldAt F (n-1) prog l #[y.1.v] j fun e R =>(e=UW UE/\ag (pre++D++[y]) R/\UH n₀ W R/\R.cell? (o,7)=U ↑pr/\eB R tr pr Fr)\/(e=UW UD/\Jx (pre++D++[y]) R)) \/
       (e=UW UD/\∃ q,q <+: D/\Jx (pre++q) j))
      (fun e j h=>h.elim (fun ⟨he,hj,c⟩=>.inl ⟨he,(c.cell (p:=(o,0)) hb).trans c0,(c.cell (p:=(o,1)) hb).trans c1,(c.cell (p:=(o,3)) hb).trans c3,C j hj c⟩) .inr)
     clear C ihl P ht;refine callsIn_of_wp func225 rfl h6 ?_ X;simp only[ntmps225,YP,VB,VG,YQ,YR,YS,YT,YU,YV,YW,Vm];gi_wp2_with (first
      |((try refine⟨E _,?_⟩);gi_at_call 225;refine A.mono ?_;clear A;rintro e j (⟨rfl,aq,ax,a8,fn,ay,ar,az,hy,hR⟩|⟨rfl,q,hq,T⟩))
      |((try refine⟨E _,?_⟩);refine hR.mono ?_;clear hR;rintro e R (⟨rfl,af,H,aw,ac⟩|⟨rfl,au⟩))
      |((try refine⟨E _,?_⟩);gi_at_call 225;refine (ihr (n-1) pr Fr _ y4 _ ac aa ai af Un).mono ?_;rintro e W3 (⟨rfl,ae,ad⟩|⟨rfl,q,hq,ab⟩)))
     .go_ret;exact .inl ⟨rfl,by simpa[V8] using ae,H.trans ad⟩
     .go_ret;obtain⟨r,ak⟩:=hq;exact .inr ⟨rfl,D++y :: q,⟨r,by simp[<- ak]⟩,by simpa[V8] using ab⟩
     .go_ret;exact .inr ⟨rfl,D++[y],⟨y4,by simp⟩,by simpa[V8] using au⟩
     .go_ret;exact .inr ⟨rfl,q,hq.trans ⟨_,rfl⟩,T⟩
    .rw[Uy q3] at K;obtain rfl:y3=[]:=Zd.1 K;have a4:x.t<=a:=O
     simp only[VG] at hN;have A:=(ihl (n-1) pl Fl pre D W P.l an aj hJ O).mono (R':=fun e j =>
       (e=UW UE/\j.cell? (o,0)=U (V Y x.f)/\j.cell? (o,1)=U ↑x.t/\j.cell? (o,7)=U ↑pr/\eB j tr pr Fr/\ag (pre++D) j/\UH n₀ W j) \/
       (e=UW UD/\∃ q,q <+: D/\Jx (pre++q) j))
      (fun e j h=>h.elim (fun ⟨he,hj,c⟩=>.inl ⟨he,(c.cell (p:=(o,0)) hb).trans c0,(c.cell (p:=(o,1)) hb).trans c1,(c.cell (p:=(o,7)) hb).trans c7,P.r.gV c aa,hj,c⟩) .inr)
     clear ihl P ht;refine callsIn_of_wp func225 rfl h6 ?_ X;simp only[ntmps225,YP,VB,VG,YQ,YR,YS,YT,YU,YV,YW,Vm];gi_wp2_with (first
      |((try refine⟨E _,?_⟩);gi_at_call 225;refine A.mono ?_;clear A;rintro e j (⟨rfl,aq,ax,aw,ac,af,H⟩|⟨rfl,q,hq,T⟩))
      |((try refine⟨E _,?_⟩);gi_at_call 225;refine (ihr (n-1) pr Fr _ y4 _ ac aa ai af Un).mono ?_;rintro e W3 (⟨rfl,ae,ad⟩|⟨rfl,q,hq,ab⟩)))
     .refine⟨fun _ h=>(by cases h),?_⟩
      gi_wp2_with (first
       |((try refine⟨E _,?_⟩);gi_at_call 225;refine (ihr (n-1) pr Fr _ y4 _ ac aa ai af Un).mono ?_;rintro e W3 (⟨rfl,ae,ad⟩|⟨rfl,q,hq,ab⟩)))
      .go_ret;exact .inl ⟨rfl,by simpa[V8] using ae,H.trans ad⟩
      .go_ret;obtain⟨r,ak⟩:=hq;exact .inr ⟨rfl,D++q,⟨r,by simp[<- ak]⟩,by simpa[V8] using ab⟩
     .go_ret;exact .inr ⟨rfl,q,hq.trans ⟨_,rfl⟩,T⟩
theorem b3x(W:UF):W.grownBy W.drew Z:=⟨rfl,rfl,rfl,UY _,fun _ _ _=>rfl⟩
theorem b4b(l B1 X T n₀:M)(E o:M)(A:Uu UJ)(a b:N)(t:aF.S)(G:J M){Q:aF.It->Prop}(xs:J {x:aF.It // Q x})(f:xs.map (·.1)=aF.meet a b t)(c z:J {x:aF.It // Q x}->UF->Prop)
  (H:∀ m pre x W,c pre W->pre.length<xs.length->YieldAt YZ m prog l #[x.1.v] W fun e W' =>(e=UW UE/\c (pre++[x]) W'/\UH n₀ W W')\/(e=UW UD/\z (pre++[x]) W'))
  (y:∀ pre W,c pre W->c pre W.drew)
  (W:UF) (ac:W.cell? (B1,0)=U (UM (U ⟨E,o,Z⟩))) (ab:W.cell? (X,0)=U ↑a) (aa:W.cell? (T,0)=U ↑b) (hc:W.cell? (E,o)=U ↑A) (I:eB W t A G) (K:∀ i∈G,i<n₀) (P:c [] W):
  UI prog 224 #[.func (.yield l) #[] #[],B1,X,T] W fun e W'=>(∃ v,e=UW v) /\((∃ ys,ys=xs/\c ys W')\/(∃ pre,pre <+: xs/\z pre W')):=by
 have F:=callsIn_wide.1 (b8b YZ rfl trivial rfl l n₀ xs.length a b c z H t 0 A G [] xs W.drew (I.same (aH.refl _ _).drew) K f (y _ _ P) Ui);have C:=aB (F.mono (R':=fun e W'=>(∃ R,e=UW R)/\((∃ ys,ys=xs/\c ys W')\/(∃ pre,pre <+: xs/\z pre W'))) (fun e W' h=>h.elim (fun ⟨D,hj,_⟩=>⟨⟨_,D⟩,.inl ⟨_,rfl,by simpa using hj⟩⟩) (fun ⟨D,q,hq,hx⟩=>⟨⟨_,D⟩,.inr ⟨q,hq,by simpa using hx⟩⟩)))
 clear F H y P f I K;go_in;go_upto_region 0 with fail;go_region_with (first
  |(go_at_call 225;refine C.out.mono ?_;rintro e W1 ⟨⟨R,rfl⟩,j⟩))
 all_goals go_wp21;go_end0;exact⟨⟨_,rfl⟩,j⟩
open aA (aQ St eD kept fc ek ec jw dB dI jC eS jr cA Inv uniq wG A8)
def QI(r:Raw)(x:aF.It):Prop:=∃ g∈r.eg,x.v=g.eb/\x.n=g.e.id
theorem b8d(f:Of s r)(j:(r.eg.map (·.e.id)).Nodup)(o:i<r.tg.length){a b:N}{z:aF.It}(c:z∈aF.meet a b r.tg[i].T):QI r z:=by let⟨_,h1,h2⟩:=f.th i o;rw[aF.AW a b _ h1] at c;obtain⟨e,q,_,sp,_,rfl⟩:=(h2 z).1 (Xb.1 c).1;obtain⟨g,h,rfl⟩:=f.get q;exact⟨g,h,Eo j h,rfl⟩
def Aw(r:Raw):(l:J aF.It)->(∀ z∈l,QI r z)->J {x:aF.It // QI r x}
 |[],_=>[]
 |z :: l,h=>⟨z,h z Ui⟩ :: Aw r l (fun y a=>h y (by simp[a]))
theorem Lu(r:Raw):∀ (l:J aF.It)(h:∀ z∈l,QI r z),(Aw r l h).map (·.1)=l
 |[],_=>rfl
 |z :: l,h=>by simp[Aw,Lu r l]
structure mj(s:St)(M:J aF.It)(l:J (aQ × UG)):Prop where
 len:l.length=(uniq M).length
 at_:∀ (i:Uw) (h:i<l.length),l[i].1∈s.es/\l[i].1.id=((uniq M)[i]'Uh).n
 nd:(l.map (·.1.id)).Nodup
theorem mj.nil(s:St):mj s [] []:=⟨rfl,fun i h=>by grind,by simp⟩
theorem mj.any{c:J aF.It}(h:mj s c l)(n:N):l.any (fun p=>p.1.id==n)=(uniq c).any (fun u=>decide (u.n=n)):=by
 rw[Bool.eq_iff_iff,Xd,Xd];constructor
 .rintro ⟨p,o,e⟩;obtain⟨i,a,rfl⟩:=Xs o;have:=h.at_ i a;exact⟨_,Zb (by have:=h.len;omega:i<(uniq c).length),by simpa[<- this.2] using e⟩
 .rintro ⟨u,j,e⟩;obtain⟨i,a,rfl⟩:=Xs j;have f:i<l.length:=by rw[h.len];exact a
  have:=h.at_ i f;exact⟨_,Zb f,by grind⟩
theorem mj.Ni{M:J aF.It}(h:mj s M l){z:aF.It}(c:l.any (fun p=>p.1.id==z.n)=UE):mj s (M++[z]) l:=by
 have e:uniq (M++[z])=uniq M:=by rw[A8];unfold wG;rw[<- h.any z.n,c];rfl
 exact⟨by rw[e];exact h.len,fun i a=>by have:=h.at_ i a;simp only[e];exact this,h.nd⟩
theorem mj.uj{f:J aF.It}(h:mj s f l){z:aF.It}(q:uniq (f++[z])=uniq f++[z])(y:e∈s.es)(t:e.id=z.n){sp:UG}(o:i<(l++[(e,sp)]).length):(l++[(e,sp)])[i].1∈s.es/\(l++[(e,sp)])[i].1.id=((uniq (f++[z]))[i]'(by rw[q];have:=h.len;simp at o ⊢;omega)).n:=by
 have c:=h.len;simp only[q];rw[VA] at o;by_cases a:i<l.length
 .rw[YI a,YI O];exact h.at_ i a
 .have j:i=l.length:=Uo
  subst j;rw[Zf aJ,Zf O];simp[c,y,t]
theorem mj.new{a:J aF.It}(h:mj s a l){z:aF.It}(o:l.any (fun p=>p.1.id==z.n)=UD)(C:e∈s.es)(f:e.id=z.n)(sp:UG):mj s (a++[z]) (l++[(e,sp)]):=by
 have D:uniq (a++[z])=uniq a++[z]:=by rw[A8];unfold wG;rw[<- h.any z.n,o];rfl
 have j:=h.len;refine⟨by grind,fun i A=>?_,?_⟩
 .exact mj.uj h D C f A
 .rw[VU,List.nodup_append];refine⟨h.nd,by simp,fun x q y E=>?_⟩;obtain⟨p,t,rfl⟩:=VQ.1 q;have:y=e.id:=Uo
  subst this;intro c;have:=Za.1 o p t;simp[c,f] at this
theorem Kx:∀ {l m:J N},l.Nodup->(∀ x∈l,x∈m)->l.length<=m.length
 |[],_,_,_=>zN _
 |a :: l,m,hn,h=>by rw[List.nodup_cons] at hn;have c:=h a Ui;have:=Kx (l:=l) (m:=m.erase a) hn.2 (fun x f=>(List.mem_erase_of_ne (show x≠a from fun e=>hn.1 Uo)).2 (h x (by simp[f])));rw[List.length_erase_of_mem c] at this;have:=List.length_pos_of_mem c;simp;omega
theorem mj.small{j:J aF.It}(h:mj s j l):l.length<=s.es.length:=by
 have:=Kx (m:=s.es.map (·.id)) h.nd (fun x a=>by obtain⟨p,c,rfl⟩:=VQ.1 a;obtain⟨i,f,rfl⟩:=Xs c;exact VQ.2 ⟨_,(h.at_ i f).1,rfl⟩)
 simpa using this
theorem Ee{e size:M}(h:w.ownsRow B e size v n xs)(c:v.ownBlock=U b):∃ cs k,w.heap[b]?=U (UX cs e k):=by
 rcases h.2 with ⟨rfl,_⟩|⟨g,cap,f,rfl,_,a,_⟩
 .cases c
 .obtain rfl:g=b:=by simpa[V9] using c
  exact⟨_,_,a⟩
theorem iw.wX(h:iw wx B aM v l){sp:UG}(z:w2.ownsRow wx 83 2 sp e.aR.length (e.aR.flatMap ia))(k:UH wx wx w2)(F:B<=wx)(E:∀ b,B<=b->aM b=Z)(D:aH v.ownBlock.toList w2 w3)(f:w3.ownsRow B 85 6 v' (l.length+1) (l.flatMap gv++gv (e,sp))):iw w3 B aM v' (l++[(e,sp)]):=by
 have t:∀ b,v.ownBlock=U b->b<wx:=fun b a=>(h.own.lt b a).2;have A:∀ p∈l,w3.ownsRow B 83 2 p.2 p.1.aR.length (p.1.aR.flatMap ia):=fun p c=>dL (fG (h.sp p c).1.own k) D (fun b a j=>(h.sp p c).2 b a (Wn.1 j));have o:=dL (Yb z F) D (fun b a j=>by have H:=(z.lt b a).1;have G:=t b (Wn.1 j);omega);have C:∀ {q:UG}{n:M}{xs:J UG},w3.ownsRow B 83 2 q n xs->∀ b,q.ownBlock=U b->v'.ownBlock≠U b:=fun y b a j=>by let⟨c1,k1,e1⟩:=Ee y a;let⟨c2,k2,e2⟩:=Ee f j;have:=e1.symm.trans e2;simp at this
 refine⟨?_,fun b a=>E b (f.lt b a).1,fun p c=>?_,?_⟩
 .rw[VA,VX];have:[(e,sp)].flatMap gv=gv (e,sp):=Ui
  rw[this];exact f
 .rcases Vb.1 c with c|c
  .exact⟨⟨A p c,(h.sp p c).1.no⟩,C (A p c)⟩
  .have:p=(e,sp):=X9.1 c;subst this;exact⟨⟨o,fun b a=>E b (o.lt b a).1⟩,C o⟩
 .refine W8.2 ⟨h.pw,YL _ _,fun p c q y b a j=>?_⟩;rw[X9.1 y] at j;have H:=(z.lt b j).1;have G:=((h.sp p c).1.own.lt b a).2;omega
theorem b5L(p:Uu UJ)(a b:N)(w:UF):UI prog 194 #[p,a,b] w fun e w'=>e=UW (.func (.func 224) #[] #[w,UM (U ⟨w.heap.size+1,0,Z⟩),UM (U ⟨w.heap.size+2,0,Z⟩)])/\w'=((w.alloc (UX #[p] 293)).alloc (UX #[a] 3)).alloc (UX #[b] 3):=by
 go_in;go_wp21;go_ret;exact⟨rfl,rfl⟩
theorem b8c(n:M)(r:Raw)(A z y n₀ f o:M)(h:Uu UJ)(a b:N)(t:aF.S)(G:J M)(xs:J {x:aF.It // QI r x})(j:xs.map (·.1)=aF.meet a b t)(w:UF)(T:w.cell? (A,0)=U (UM (U ⟨f,o,Z⟩)))(R:w.cell? (z,0)=U ↑a)(P:w.cell? (y,0)=U ↑b)(F:w.cell? (f,o)=U ↑h)(I:eB w t h G)(C:∀ i∈G,i<n₀)(D:n₀<=w):SeqStopsK YZ n prog 224 #[A,z,y] (fun x:{x:aF.It // QI r x}=>#[Value.pointer (U ⟨x.1.v,0,Z⟩)]) (UH n₀) (fun ys=>ys=xs) (fun pre=>pre <+: xs) xs.length w:=by
 intro l aa Jx W c K _ H X;refine callsIn_wide.2 ?_;exact b4b l A z y n₀ f o h a b t G xs j aa Jx (fun m pre x W' q E=>YieldAt.jV rfl m (H pre x W' q E)) (fun pre W' q=>K pre W' _ Z q (b3x W') (fun r e=>by cases e)) W (aT c T) (aT c R) (aT c P) (aT c F) (I.gV (c.mono D) C) C X
open aA (aQ St eD kept fc ek ec jw dB dI jC eS jr cA Inv uniq)
attribute [local go_sem] YN
structure LI(w W:UF)(s:St)(aM:Uw->Uu bO)(M:J aF.It):Prop where
 bx:∃ v l,Boxed W (w.heap.size+1) 43 v/\iw W (w.heap.size+5) aM v l/\mj s M l
 bl:UH w w W
 sz:w+5<=W.heap.size
theorem Kb{row:Uu M}{e size:M}(h:W.ownsRow B e size v n xs)(f:W.grownBy W' row)(c:∀ r,row=U r->∃ o:Obj,W.heap[r]?=U o/\o.isCells=UD):W'.ownsRow B e size v n xs:=by
 refine h.kept f ?_;rcases h.2 with ⟨rfl,_⟩|⟨g,cap,q,rfl,_,a,_⟩
 .exact .inl rfl
 .refine .inr fun j=>?_
  let⟨o,ho,hc⟩:=c g (by simpa[V9] using j.symm);rw[a] at ho;cases ho;cases hc
theorem Tc(w:UF)(s:St)(r:Raw)(aM:M->Uu bO)(q:w<=B):OwnFrom B (fun (pre:J {x:aF.It // QI r x}) W=>LI w W s aM (pre.map (·.1))):=by intro pre W W' row h c a;have f:∀ r,row=U r->∃ o:Obj,W.heap[r]?=U o/\o.isCells=UD:=fun r e=>(a r e).2;let⟨v,l,hv,er,tl⟩:=h.bx;exact⟨⟨v,l,A9 hv c f,⟨Kb er.own c f,er.no,fun p j=>⟨⟨Kb (er.sp p j).1.own c f,(er.sp p j).1.no⟩,(er.sp p j).2⟩,er.pw⟩,tl⟩,h.bl.grown c h.bl.size (fun k e=>U0 q (a k e).1),U0 h.sz c.size⟩
theorem b8k(h:UH W W W'):KeepsFrom B W W':=⟨h.size,fun k _ _ a _=>(h.block k (YC.1 a).1).trans a⟩
theorem b7J(X:UF)(p x y:UG)(a c f:TypeId):UH X X (((X.alloc (UX #[p] a)).alloc (UX #[x] c)).alloc (UX #[y] f)).drew/\(((X.alloc (UX #[p] a)).alloc (UX #[x] c)).alloc (UX #[y] f)).drew.cell? (X,0)=U p/\(((X.alloc (UX #[p] a)).alloc (UX #[x] c)).alloc (UX #[y] f)).drew.cell? (X.heap.size+1,0)=U x/\(((X.alloc (UX #[p] a)).alloc (UX #[x] c)).alloc (UX #[y] f)).drew.cell? (X.heap.size+2,0)=U y/\(((X.alloc (UX #[p] a)).alloc (UX #[x] c)).alloc (UX #[y] f)).drew.heap.size=X.heap.size+3:=by have o:=Y4 X a p;have j:=Y4 (X.alloc (UX #[p] a)) c x;have h:=Y4 ((X.alloc (UX #[p] a)).alloc (UX #[x] c)) f y;simp only[Wp] at j h;exact⟨((((zr _ X).alloc aJ _).alloc Ui _).alloc Un _).drew,((o.alloc _).alloc _).cell,(j.alloc _).cell,h.cell,by simp_all⟩
theorem a1Z{F:Fence}{P:Program}(w:UF){y:Array Oper}{o:Oper}{a:Act}{K:Act->UF->Prop}{Q:Exit->Act->UF->Prop}{E:Prop}
  (T:o.guard=Z) (s x:Operand) (t:TypeId) (C:o.op=Op.call { callee:=Callee.builtin Builtin.append,args:=#[s,x],argTypes:=#[t,t] })
  (q:M) (e:TypeId) (i:TypeInfo) (z:UG) (size h:M) (h1:P.underlying t=U (.slice e)) (h2:P.info? e=U i) (h3:i.zero=U z) (h4:i.size=size) (h5:i.bytes=h) (h6:z.cells.size=size) (h7:0<size)
  (v:UG) (k:M) (xs:J UG) (R:a.eval s=v) (A:w.ownsRow q e size v k xs) (G:UJ) (m c:M) (f:J UG) (H:a.eval x=UO (U G) m c) (S:f.length=m*size)
  (X:∀ j u,f[j]?=U u->w.cell? (G.add j)=U u) (D:∀ u∈f,u.oneCell'=UE) (b1:k+m<=maxLen) (b2:(k+m)*h<=140737488355328) (b3:q<=w)
  (hK:∀ v' w',w'.ownsRow q e size v' (k+m) (xs++f)->w.grownBy w' v.ownBlock->K (a.put o.dst v') w'):
  if Ye o (yielded y a.tmps)=UE then Oper.wpIn F n P o a w K Q else E:=by
 have I:Ye o (yielded y a.tmps)=UE:=by simp[Ye,T]
 rw[Uz I];let⟨v',w',hrun,r1,r2,r3⟩:=run_append_own (P:=P) w q t o.type e i z size h h1 h2 h3 h4 h5 h6 h7 v k xs A G m c f S X D b1 b2 b3;unfold Oper.wpIn;refine⟨?_,?_⟩;simp[Oper.about,C,resolve,Target.leads,Sem.run_pure];rw[Oper.semAt_plain F _ _ Uo];simp[execOp,C,resolve,invoke,builtin,R,H,hrun,Result.andThen];exact hK v' w' r1 r2
theorem a6Y(h:W.cell? (b,i)=U v)(o:Obj):(W.alloc o).cell? (b,i)=U v:=(zo (w:=W) (Below.heap_alloc _ o _ (U1 _ _ h))).trans h
theorem b6K{A:J aF.It}(h:LI w W s aM A)(t:Boxed W (w.heap.size+1) 43 (UO a1 tl.length c1))(z:iw W (w.heap.size+5) aM (UO a1 tl.length c1) tl)(j:UH W W w1)(f:UH w1.drew.heap.size w1.drew w2)(o:Obj)(a:(w2.alloc o).grownBy w3 (UO a1 tl.length c1).ownBlock):Boxed w3 (w.heap.size+1) 43 (UO a1 tl.length c1):=by
 have C:=h.sz;have q:UH W W w1.drew:=j.drew;have c:UH W W w2:=q.trans (f.mono q.size);have y:Boxed w2 (w.heap.size+1) 43 (UO a1 tl.length c1):=(c.block _ O).trans t;exact (y.alloc o).kept a (fun e=>by have:=(z.own.lt _ e.symm).1;omega)
theorem b6J{T:J aF.It}(h:LI w W s aM T)(hv:Boxed W (w.heap.size+1) 43 (UO a1 tl.length c1))(R:iw W (w.heap.size+5) aM (UO a1 tl.length c1) tl)(G:mj s T tl)(P:UH W W w1){sp:UG}(ho:w2.ownsRow w1.drew.heap.size 83 2 sp e.aR.length (e.aR.flatMap ia))(K:UH w1.drew.heap.size w1.drew w2)(o:Obj)
  (t:(w2.alloc o).grownBy w3 (UO a1 tl.length c1).ownBlock) (D:w3.ownsRow (w.heap.size+5) 85 6 v' (tl.length+1) (tl.flatMap gv++gv (e,sp))) (hc:∀ b,w.heap.size<=b->aM b=Z) {z:aF.It}(ha:tl.any (fun p=>p.1.id==z.n)=UD) (he:e∈s.es) (hn:e.id=z.n):
  KeepsFrom B W (w3.setCell ⟨w.heap.size+1,0,Z⟩ v')/\UH w.heap.size W (w3.setCell ⟨w.heap.size+1,0,Z⟩ v')/\LI w (w3.setCell ⟨w.heap.size+1,0,Z⟩ v') s aM (T++[z]):=by
 have X:=h.sz;have H:=P.drew;have a:=H.trans (K.mono H.size);have c:=aH.grown ((aH.refl _ w2).alloc _) t (fun k f=>.inl (Wn.2 f));have E3:=R.wX (Yb ho H.size) a X (fun b y=>hc b O) c D;have aa:∀ b,(UO a1 tl.length c1).ownBlock=U b->w+5<=b:=fun b y=>(R.own.lt b y).1;have A:=aH.bM (w.heap.size+1) w3 0 v';have bk:∀ b,b<W.heap.size->b≠w.heap.size+1->(UO a1 tl.length c1).ownBlock≠U b->(w3.setCell ⟨w.heap.size+1,0,Z⟩ v').heap[b]?=W.heap[b]?:=fun b y h1 h2=>by rw[A.block b (zL (zL y a.size) c.size) (fun C=>h1 (X9.1 C)),c.block b (zL y a.size) (fun C=>h2 (Wn.1 C)),a.block b y]
 have I:Boxed w3 (w.heap.size+1) 43 (UO a1 tl.length c1):=(c.block _ (by have:=a.size;omega) (fun C=>by grind)).trans ((a.block _ O).trans hv);have j:W<=(w3.setCell (w.heap.size+1,0) v').heap.size:=U0 a.size (U0 c.size A.size);have F:UH w W (w3.setCell (w.heap.size+1,0) v'):=⟨A.os.trans (c.os.trans a.os),A.tape.trans (c.tape.trans a.tape),A.output.trans (c.output.trans a.output),j,fun b y=>bk b O O (fun C=>by grind)⟩;refine⟨⟨j,fun k o' _ f E=>(bk k (YC.1 f).1 (fun S=>?_) (fun S=>?_)).trans f⟩,F,⟨⟨v',tl++[(e,sp)],I.set v',E3.off A (fun x C=>by grind),G.new ha he hn sp⟩,h.bl.trans F,U0 X j⟩⟩
 .subst S;rw[show W.heap[w.heap.size+1]?=_ from hv] at f
  cases f;cases E
 .let⟨cs,q,e2⟩:=Ee R.own S;rw[e2] at f
  cases f;cases E
def Jk(Q:Exit->Act->UF->Prop):Exit->Act->UF->Prop
 |.panic _,_,_=>False
 |.normal,a,w=>Q .normal a w
 |.ret,a,w=>Q .ret a w
 |.exit i,a,w=>Q (.exit i) a w
 |.goto t,a,w=>Q (.goto t) a w
 |.outgrown,a,w=>Q .outgrown a w
theorem c2H{Q:Exit->Act->UF->Prop}:∀ e a w,Jk Q e a w->Q e a w
 |.panic _,_,_,h=>h.elim
 |.normal,_,_,h=>h
 |.ret,_,_,h=>h
 |.exit _,_,_,h=>h
 |.goto _,_,_,h=>h
 |.outgrown,_,_,h=>h
theorem c0k{Q:Exit->Act->UF->Prop}{a:Act}(h:Q .ret a w):Jk Q .ret a w:=h
theorem Lt(h:eH w d s r aM)(hi:i<r.tg.length)(a b:N):UI prog 156 #[UM (U ⟨r.tg[i].tb,0,UB⟩),UT #[V Y a,V Y b]] w fun e w'=>∃ v l,e=UW v/\l.map (·.1)=aA.nE r.tg[i].name a b s.es/\iw w' w.heap.size aM v l/\UH w.heap.size w w':=by
 obtain⟨i0,an,ak,aj,ai⟩:=info_parts Kp;obtain⟨ul,us,Fl,Fs,th,aw⟩:=h.dk.th i hi;have S:=aB h;have a3:r.tg[i].tb<w.heap.size:=U1 _ _ th.c0;have xa:((w.alloc (UX #[V Y a,V Y b] 83)).alloc (UX #[UO UB 0 0] 43)).cell? ⟨w.heap.size,0,UB⟩=U (V Y a):=Ui;have xb:((w.alloc (UX #[V Y a,V Y b] 83)).alloc (UX #[UO UB 0 0] 43)).cell? ⟨w.heap.size,1,UB⟩=U (V Y b):=Ui;have bt:=Y4 (w.alloc (UX #[V Y a,V Y b] 83)) 43 (UO UB 0 0);have hX:UH w.heap.size w ((w.alloc (UX #[V Y a,V Y b] 83)).alloc (UX #[UO UB 0 0] 43)):=((zr _ _).alloc (zq _) _).alloc Ui _;have ac:((w.alloc (UX #[V Y a,V Y b] 83)).alloc (UX #[UO UB 0 0] 43)).heap.size=w.heap.size+2:=Ui;rw[Wp] at bt;have HX:=aB (Vf hX (Vf ac bt));have HT:=aB th;clear h th hX bt;refine (callsIn_wide (n:=3)).1 ?_;refine callsIn_of_wp_marks func156 rfl trivial ?_ rfl;simp only[ntmps156,YP,VB,VG,YQ,YR,YS,YT,YU,YV,YW,Vm];refine wpIn_wide.2 (Code.wp_mono c2H ?_);generalize r.tg[i].tb=tb at *;go_upto_region 2 with fail;change YD _ _ _ _ ((w.alloc (UX #[V Y a,V Y b] 83)).alloc (UX #[UO UB 0 0] 43));generalize (w.alloc (UX #[V Y a,V Y b] 83)).alloc (UX #[UO UB 0 0] 43)=X at *;have ME:=aB (b5L (U ⟨tb,3,UB⟩) a b X.drew);have aq:X.drew.heap.size=w.heap.size+2:=ac;rw[aq] at ME;go_region_with (first
  |(go_at_call 194;refine ME.out.mono ?_;rintro e w1 ⟨rfl,rfl⟩))
 all_goals
  obtain⟨k0,z1,z2,z3,z4⟩:=b7J X (UM (U ⟨tb,3,UB⟩)) (V Y a) (V Y b) 293 3 3;rw[ac] at z1 z2 z3 z4;go_wp2_with fail;generalize (((X.alloc (UX #[UM (U ⟨tb,3,UB⟩)] 293)).alloc (UX #[V Y a] 3)).alloc (UX #[V Y b] 3)).drew=Z at *;have BZ:UH w.heap.size w Z:=HX.out.1.trans (k0.mono HX.out.1.size);have L0:Hid (LI w Z s aM ([]:J aF.It)):=⟨⟨_,[],(k0.block _ O).trans HX.out.2.2,iw.nil _ _ _,mj.nil s⟩,BZ,by omega⟩;have H:=Lu r (aF.meet a b r.tg[i].T) (fun z hz=>b8d S.out.of S.out.dk.ni hi hz);generalize Aw r (aF.meet a b r.tg[i].T) _=xs at H;have MS:=aB (b8c 2 r (w.heap.size+2) (w.heap.size+2+1) (w.heap.size+2+2) w.heap.size tb 3 us a b r.tg[i].T Fs xs H Z z1 z2 z3 (aT BZ HT.out.c3) (HT.out.sp.gV BZ (fun k hk=>HT.out.lt k (by simp[hk]))) (fun k hk=>HT.out.lt k (by simp[hk])) O);have au:=aB H;have h5:w.heap.size<=Z.heap.size:=O;clear k0 z1 z2 z3 H xa xb ME;refine (wpIn_wide (n:=3)).1 ?_;refine wpIn_rangeFunc_ownG rfl O (gf:=224) (lb:=#[UM (U ⟨w.heap.size+2,0,UB⟩),UM (U ⟨w.heap.size+2+1,0,UB⟩),UM (U ⟨w.heap.size+2+2,0,UB⟩)]) rfl trivial (enters_of func224 Um rfl) MS.out belowK_t (belowK_b h5) (zr _ _) (fun _=>rfl)
   (fun pre W=>LI w W s aM (pre.map (·.1))) (fun _ _ _=>False) (Tc w s r aM h5) (fun _ _ _ _ _ hs _ _=>hs) L0.out
   (fun x=>{ tmps:=#[UM (U ⟨tb,0,UB⟩),UT #[V Y a,V Y b],undef,UM (U ⟨w.heap.size,0,UB⟩),UO UB 0 0,UM (U ⟨w.heap.size+1,0,UB⟩),UM (U ⟨x.1.v,0,UB⟩),UM (U ⟨tb,0,UB⟩),UM (U ⟨tb,0,UB⟩),UM (U ⟨tb,3,UB⟩),UM (U ⟨w.heap.size,0,UB⟩),V Y a,UM (U ⟨w.heap.size,1,UB⟩),V Y b,.func (.func 224) #[] #[UM (U ⟨w.heap.size+2,0,UB⟩),UM (U ⟨w.heap.size+2+1,0,UB⟩),UM (U ⟨w.heap.size+2+2,0,UB⟩)],UM (U ⟨x.1.v,0,UB⟩),undef,undef,undef,undef,undef,undef,undef,undef,undef,undef,undef],defers:=[] }) ?assign ?body ?done ?stop
  case assign =>intro l x W K f;gi_wp2;exact f
  case body =>
   rintro l pre x W h ba;obtain⟨g,hg,ev,en⟩:=x.2;obtain⟨v,tl,hv,P,t⟩:=h.bx;obtain⟨a1,c1,rfl⟩:=lz P.own;have ao:=hv.cell;have a8:=U0 t.small (kS S.out.bA);have dW:=S.out.dk.later h.bl;have CT:=aB (a8q tl _ (w.heap.size+5) g.eb g.e.id W P.own (fun p hp=>by obtain⟨x1,x2,x3⟩:=lz (P.sp p hp).1.own;exact⟨x1,_,x2,x3⟩) (dW.en g hg).1.en.c0 O);have R:=aB (Vf h (Vf hv (Vf P t)));have a7:=h.sz;have TE:=aB (fun W' (k:UH w.heap.size w W')=>S.out.kU k hg);clear h hv P t dW;rw[<- ev] at CT;simp only[<- ev] at TE;have ad:=aB (Vf ev en);clear ev en
   cases A:tl.any (fun p=>p.1.id==g.e.id)
   .rw[A] at CT
    gi_wp2;refine⟨trivial,?_⟩;refine (Zg l (callsIn_wide.2 CT.out)).mono ?_;rintro e w1 ⟨rfl,q⟩;gi_wp2;have ae:prog.follows .mixedOrders=UE:=Um;have F:Hid (UH w.heap.size w w1/\UH W.heap.size W w1):=⟨R.out.1.bl.trans (q.mono R.out.1.bl.size),q⟩;have ag:=aT q ao;have ar:=aB (TE.out w1.drew F.out.1.drew);clear TE CT q;refine wpIn_region_any ae ?_;change wpAnyIn _ _ _ _ _ _ _ _ _ (World.drew _);refine wpAnyIn_ready (rs:=[0,1]) Um Ui ?_;refine Zh rfl (fun K f=>?_) (Zh rfl (fun K f=>?_) Zi);go_simp;refine f _ _ ?_;clear f K;refine wpAnyIn_ready (rs:=[1]) Um Ui ?_;refine Zh rfl (fun K f=>?_) Zi;go_simp;refine f _ _ ?_;clear f K;refine wpAnyIn_ready (rs:=[2]) Um Ui ?_;refine Zh rfl (fun K f=>?_) Zi;rotate_left;go_simp;refine f _ _ ?_;clear f K;refine wpAnyIn_ready (rs:=[0,2]) Um Ui ?_;refine Zh rfl (fun K f=>?_) (Zh rfl (fun K f=>?_) Zi);go_simp;refine f _ _ ?_;clear f K;refine wpAnyIn_ready (rs:=[2]) Um Ui ?_;refine Zh rfl (fun K f=>?_) Zi;all_goals go_simp;refine⟨trivial,(Zg l (callsIn_wide.2 ar.out)).mono ?_⟩;rintro e w2 ⟨v2,rfl,a4,rfl,ab,E⟩;refine f _ _ ?_;clear f K;obtain⟨sa,sc,rfl⟩:=lz ab;simp only[rn];have af:w2.cell? ⟨w.heap.size+1,0,UB⟩=U (UO a1 tl.length c1):=aT E ag;have a9:w.heap.size+5<=w2.heap.size:=U0 (U0 R.out.1.sz F.out.2.size) E.size;have OW:=aB (fG (fG R.out.2.2.1.own F.out.2.drew) E);have S2:=aB (Vf ab E);clear ab E
    rotate_left;refine wpAnyIn_ready (rs:=[0,3]) Um Ui ?_;refine Zh rfl (fun K f=>?_) (Zh rfl (fun K f=>?_) Zi);go_simp;refine f _ _ ?_;clear f K;refine wpAnyIn_ready (rs:=[3]) Um Ui ?_;refine Zh rfl (fun K f=>?_) Zi;rotate_left 2;refine wpAnyIn_ready (rs:=[3]) Um Ui ?_;refine Zh rfl (fun K f=>?_) Zi;rotate_left;refine wpAnyIn_ready (rs:=[3]) Um Ui ?_;refine Zh rfl (fun K f=>?_) Zi;rotate_left;all_goals go_simp;refine f _ _ ?_;clear f K;have aa:=a6Y af (UX #[V Y g.e.id,V Y g.e.kind,UQ g.e.bH,V Y g.e.aN,UO sa g.e.aR.length sc,V Y g.e.bY] 85);obtain⟨V3,I⟩:∃ V3,V3=w2.alloc (UX #[V Y g.e.id,V Y g.e.kind,UQ g.e.bH,V Y g.e.aN,UO sa g.e.aR.length sc,V Y g.e.bY] 85):=⟨_,rfl⟩;rw[<- I] at aa;rw[<- I];have AV:Hid (V3=w2.alloc (UX (gv (g.e,UO sa g.e.aR.length sc)).toArray 85)):=aB I;clear I
    rotate_left;refine wpAnyIn_ready (rs:=[0]) Um Ui ?_;refine Zh rfl (fun K f=>?_) Zi;go_simp;refine f _ _ ?_;clear f K;all_goals refine wpAnyIn_ready (rs:=[4]) Um Ui ?_;refine Zh rfl (fun K f=>?_) Zi;refine a1Z V3 rfl (.tmp 21) (.tmp 24) 43 rfl (w.heap.size+5) 85 i0 _ 6 72 underlying43 an ak aj ai rfl Uj (UO a1 tl.length c1) tl.length (tl.flatMap gv) rfl (by rw[AV.out];exact OW.out.alloc _) ⟨w2.heap.size,0,UB⟩ 1 1 (gv (g.e,UO sa g.e.aR.length sc)) rfl rfl (by rw[AV.out];exact Wf (cs:=(gv (g.e,UO sa g.e.aR.length sc)).toArray) (dH w2 _)) (by simp[gv,Wg]) Up O (by rw[AV.out];simp;omega) ?_;intro v3 w3 y o;obtain⟨az,ay,rfl⟩:=lz y;refine f _ _ ?_;clear f K;rw[AV.out] at o;have BX:=b6K R.out.1 R.out.2.1 R.out.2.2.1 F.out.2 S2.out.2 _ o;have ax:=BX.cell;have av:=BX.frozen;have G3:=aB (Vf y o);clear y o BX AV aa;refine wpAnyIn_ready (rs:=[5]) Um Ui ?_;refine Zh rfl (fun K f=>?_) Zi;go_simp;refine f _ _ ?_;clear f K;refine wpAnyIn_done Um ?_ _;have C:=R.out;have hL:=b6J (B:=Z.heap.size) C.1 C.2.1 C.2.2.1 C.2.2.2 F.out.2 S2.out.1 S2.out.2 _ G3.out.2 G3.out.1 (fun b hb=>S.out.dk.none hb) (z:=x.1) (by rw[ad.out.2];exact A) (S.out.of.mem hg) ad.out.2.symm;refine⟨hL.1,hL.2.1,?_⟩;show LI w _ s aM (List.map (fun x=>x.val) (pre++[x]));rw[VU];exact hL.2.2
   .rw[A] at CT
    gi_wp2;refine⟨trivial,?_⟩;refine (Zg l (callsIn_wide.2 CT.out)).mono ?_;rintro e w1 ⟨rfl,q⟩;gi_wp2;have C:=R.out;exact⟨b8k q,q.mono C.1.bl.size,⟨⟨_,tl,(q.block _ C.2.1.lt).trans C.2.1,C.2.2.1.later q,by have:=C.2.2.2.Ni (z:=x.1) (by rw[ad.out.2];exact A);simpa using this⟩,C.1.bl.trans (q.mono C.1.bl.size),U0 C.1.sz q.size⟩⟩
  case done =>
   rintro D ys W hD rfl h f;obtain⟨v,tl,hv,P,t⟩:=h.bx;have hc:=hv.cell;obtain⟨a1,c1,rfl⟩:=lz P.own;have HF:Hid (tl.map (·.1)=aA.nE r.tg[i].name a b s.es):=by
    rw[au.out] at t;have it:=(S.out.of.th i hi).2;have G:=S.out.inv;obtain⟨p1,p2⟩:=aA.Uc (ys:=tl.map (·.1)) (a:=a) (b:=b) it G.ids (fun e he=>(G.en e he).ri) (fun e he sp hs=>((G.en e he).sp sp hs).1) (by rw[We];exact t.len) (fun j hj=>by
     have al:j<tl.length:=by simpa using hj
     have:=t.at_ j al;simpa using this)
    exact aA.Lc G.ids p1 p2
   have HE:Hid (iw W w.heap.size aM (UO a1 tl.length c1) tl/\UH w.heap.size w W):=⟨P.base O,h.bl⟩;clear h P t hv;go_wp2_with fail;refine c0k ?_;refine⟨by simp,.inl ⟨_,_,rfl,run_takeDeferred f,?_⟩⟩;have kp:UH W.heap.size W (W.putObj D (.deferred UB))->True:=fun _=>trivial;refine⟨_,results_tmp rfl _ _ _,_,tl,rfl,HF.out,?_,HE.out.2.trans (belowK_b (w:=w) (zq _) W D _ _ O f rfl rfl)⟩;exact⟨ownsRow_putObj HE.out.1.own _ f rfl,HE.out.1.no,fun p hp=>⟨⟨ownsRow_putObj (HE.out.1.sp p hp).1.own _ f rfl,(HE.out.1.sp p hp).1.no⟩,(HE.out.1.sp p hp).2⟩,HE.out.1.pw⟩
  case stop =>rintro D c pre W _ _ h _;exact h.elim
theorem MZ(f:eS s)(h:gH s name 0 fr til≠0):aA.aX s (.list name fr til)=(s,aA.bS.error (gH s name 0 fr til)):=by
 have o:=aA.Ge f.tu name;simp only[aA.aX];unfold gH aA.eW at *;by_cases a:aA.cI name s.ts=0
 .rw[Uz a];simp[a]
 .have j:¬ (aA.cI name s.ts<0):=O
  simp only[a,j] at h ⊢;by_cases c:til<=fr
  .simp[c]
  .simp[c] at h
theorem Lp(h:gH s name 0 fr til=0):aA.aX s (.list name fr til)=(s,⟨0,0,0,aA.nE name fr til s.es,[],[],[]⟩):=by
 let⟨h1,h2⟩:=uc h;have a:aA.cI name s.ts≠0:=fun e=>by unfold aA.eW at h1;rw[Uz e] at h1;omega
 simp only[aA.aX];rw[Uy a,Uy O];rfl
theorem Ld(name:Us)(c:Uv)(fr til a b:N):UH w w (((w.alloc (UX #[name,c,fr,til] 163)).alloc bI).alloc (UX #[a,b] 83))/\(((w.alloc (UX #[name,c,fr,til] 163)).alloc bI).alloc (UX #[a,b] 83)).heap[w.heap.size+1]?=U bI/\(((w.alloc (UX #[name,c,fr,til] 163)).alloc bI).alloc (UX #[a,b] 83)).cell? (w.heap.size+1+1,0)=U ↑a/\(((w.alloc (UX #[name,c,fr,til] 163)).alloc bI).alloc (UX #[a,b] 83)).cell? (w.heap.size+1+1,1)=U ↑b/\(((w.alloc (UX #[name,c,fr,til] 163)).alloc bI).alloc (UX #[a,b] 83)).heap.size=w.heap.size+3:=by have h:=dH (w.alloc (UX #[name,c,fr,til] 163)) bI;have f:=dH ((w.alloc (UX #[name,c,fr,til] 163)).alloc bI) (UX #[a,b] 83);rw[Wp] at h;rw[Wp,Wp] at f;refine⟨(aS.alloc Ui _).alloc Uo _,(Below.heap_alloc _ _ _ Uo).trans h,?_,?_,by simp_all⟩;simp only[Vk,f];rfl;simp only[Vk,f];rfl
theorem c2Q(h:eH w d s r aM)(name:Us)(hn:name.size<=1000)(wi:Uv)(fr til:N):UI prog 106 #[d,UT #[name,wi,fr,til]] w fun e w'=>∃ v,e=UW v/\eu w d aM (aA.aX s (.list name (if wi then fr else 0) (if wi then til else 1048320))) v w':=by
 have o:=aB h;clear h
 cases wi
 .simp only[reduceIte,Bool.false_eq_true];obtain⟨hX,A,D,C,aa⟩:=Ld (w:=w) name UD fr til 0 1048320;have G:=aB (wM (o.dk.later hX) o.of o.bA name hn 0 0 1048320);have z:=aB (Vf hX A);clear hX A
  go_in;unfold bI at G z D C aa;go_upto_region 9 with fail;generalize (((w.alloc (UX #[name,UD,fr,til] 163)).alloc (UX #[V Y 0,V Y 0,V Y 0,(),(),(),()] 74)).alloc (UX #[V Y 0,V Y 1048320] 83))=X at *;refine G.mono ?_;rintro e w1 ⟨hp,q⟩;have F:=z.1.trans (q.mono z.1.size);have QX:=(Q7.of z.2).later (q.block _ O);rcases hp with ⟨t,rfl⟩|⟨t,i,hi,e1,e2,rfl⟩
  .have HD:=aB (MZ o.bA t);generalize gH s name 0 0 1048320=y at *;have ac:(y != 0)=UE:=bZ t
   clear t G z q D C;go_wp21;refine aK (ly y w1) fun w2 j=>?_;have E:=aB (o.refuse F QX j HD);obtain⟨T,S,R,P,K,I,H,fq⟩:=E.1;simp only[bT];go_wp21;exact cV results106 ⟨T,S,R,P,K,I,H,fq⟩ ⟨_,rfl,E.2⟩
  .have HD:=aB (Lp t);have y1:=aT q D;have y2:=aT q C;have ab:w+3<=w1.heap.size:=by have:=q.size;omega
   have TL:=aB (Lt (w:=w1) (s:=s) ⟨o.dk.later F,o.of,o.wl,o.hl,o.inv⟩ hi 0 1048320);rw[e1] at TL;clear t G z q D C e1 e2;go_wp21;refine TL.mono ?_;rintro e w2 ⟨v,l,rfl,hl,y,j⟩;obtain⟨a1,c1,rfl⟩:=lz y.own;have hq:=j.block (w.heap.size+1) (U1 _ _ QX.q0);have E:Hid (∀ a b c e f g i,eu w d aM (aA.aX s (.list name 0 1048320)) (bT 0 0 0 (UO a1 l.length c1) () () ()) (dE w2 (w.heap.size+1) a b c e f g i)):=fun a b c e f g i=>by rw[HD,<- hl];exact o.iG (F.trans (j.mono F.size)) O (y.base O) a b c e f g i
   obtain⟨T,S,R,P,K,I,H,fq⟩:=QX.later hq;clear TL y hl j hq;go_wp21;exact cV results106 ⟨T,S,R,P,K,I,H,fq⟩ ⟨_,rfl,E _ _ _ _ _ _ _⟩
 .simp only[if_true];obtain⟨hX,A,D,C,aa⟩:=Ld (w:=w) name UE fr til fr til;have G:=aB (wM (o.dk.later hX) o.of o.bA name hn 0 fr til);have z:=aB (Vf hX A);clear hX A
  go_in;unfold bI at G z D C aa;go_upto_region 9 with fail;generalize (((w.alloc (UX #[name,UE,fr,til] 163)).alloc (UX #[V Y 0,V Y 0,V Y 0,(),(),(),()] 74)).alloc (UX #[fr,til] 83))=X at *;refine G.mono ?_;rintro e w1 ⟨hp,q⟩;have F:=z.1.trans (q.mono z.1.size);have QX:=(Q7.of z.2).later (q.block _ O);rcases hp with ⟨t,rfl⟩|⟨t,i,hi,e1,e2,rfl⟩
  .have HD:=aB (MZ o.bA t);generalize gH s name 0 fr til=y at *;have ac:(y != 0)=UE:=bZ t
   clear t G z q D C;go_wp21;refine aK (ly y w1) fun w2 j=>?_;have E:=aB (o.refuse F QX j HD);obtain⟨T,S,R,P,K,I,H,fq⟩:=E.1;simp only[bT];go_wp21;exact cV results106 ⟨T,S,R,P,K,I,H,fq⟩ ⟨_,rfl,E.2⟩
  .have HD:=aB (Lp t);have y1:=aT q D;have y2:=aT q C;have ab:w+3<=w1.heap.size:=by have:=q.size;omega
   have TL:=aB (Lt (w:=w1) (s:=s) ⟨o.dk.later F,o.of,o.wl,o.hl,o.inv⟩ hi fr til);rw[e1] at TL;clear t G z q D C e1 e2;go_wp21;refine TL.mono ?_;rintro e w2 ⟨v,l,rfl,hl,y,j⟩;obtain⟨a1,c1,rfl⟩:=lz y.own;have hq:=j.block (w.heap.size+1) (U1 _ _ QX.q0);have E:Hid (∀ a b c e f g i,eu w d aM (aA.aX s (.list name fr til)) (bT 0 0 0 (UO a1 l.length c1) () () ()) (dE w2 (w.heap.size+1) a b c e f g i)):=fun a b c e f g i=>by rw[HD,<- hl];exact o.iG (F.trans (j.mono F.size)) O (y.base O) a b c e f g i
   obtain⟨T,S,R,P,K,I,H,fq⟩:=QX.later hq;clear TL y hl j hq;go_wp21;exact cV results106 ⟨T,S,R,P,K,I,H,fq⟩ ⟨_,rfl,E _ _ _ _ _ _ _⟩
theorem b5D(h:eH w d s rw_ aM)(name:Us)(K:name.size<=1000)(A:Uv)(fr til a b:N)(G:(if A then fr else 0)=a)(F:(if A then til else 1048320)=b):UI prog 62 #[d,UU 163 (UT #[name,A,fr,til])] w fun e w'=>∃ v,e=UW v/\eu w d aM (aA.aX s (.list name a b)) v w':=by
 have D:=aB (h.pv (UX #[name,A,fr,til] 163));have C:=aB (c2Q D.1 name K A fr til);rw[G,F] at C;clear h G F;unfold bI at C D;have q:=oS 163 Uj;have z:=pG 163 Uj;have y:=qs 163 Uj;have t:=qT 163 Uj;have f:=sk 163 Uj;have c:=te 163 Uj;have j:=uD 163 Uj;have o:=oj underlying163;go_in;go_wp21;refine C.mono ?_;rintro e w2 ⟨v,rfl,H⟩;obtain⟨er,at_,R,a1,a2,a3,a4,n1,X,T,S,c1,c2,c3,c4,rfl,I,E⟩:=H.pq D.2;have P:=aB E;clear H E C q z y t f c j o;let⟨q0,q1,q2,q3,q4,q5,q6,fq⟩:=I;simp only[bT];go_wp21;exact cV results62 ⟨q0,q1,q2,q3,q4,q5,q6,fq⟩ ⟨_,rfl,P⟩
namespace aA
theorem FZ(ts:J (Us × N)):∀ (r a:J aQ),(eU ts a r).2.length<=r.length
 |[],a=>by simp[eU]
 |e :: r,a=>by simp only[eU];split;show ((eU ts (a++[ek e]) r).2.length+1)<=_;have:=FZ ts r (a++[ek e]);simp;omega;have:=FZ ts r (a++[e]);simp;omega
theorem Ay(ts:J (Us × N))(es:J aQ):(dS ts es).2.length<=es.length:=FZ ts es []
theorem L6(ts:J (Us × Ux))(tq:Ux)(N:M):∀ (k:M)(es:J aQ)(now:Ux),es.length<=N->(gd ts k es now tq).2.2.length<=k*N
 |0,es,now,_=>by simp[gd]
 |k+1,es,now,h=>by
  simp only[gd];split
  .have a:(es.filter fun e=>!cA (eL tq es) e).length<=N:=U0 (Wj _ _) h;have f:=Ay ts (es.filter fun e=>!cA (eL tq es) e);have c:=L6 ts tq N k (dS ts (es.filter fun e=>!cA (eL tq es) e)).1 (eL tq es) (by rw[yD];exact a);rw[VA,Nat.succ_mul];omega
  .simp
theorem Dr(h:eS s)(l:jb):(aX s l).2.granted.length<=50000:=by
 have a:=kS h
 cases l with
 |tick n =>simp only[aX];split;simp[bS.error];have c:=L6 s.ts (s.now+n) 60 (s.es.length+1) s.es s.now a;show (gd s.ts (s.es.length+1) s.es s.now (s.now+n)).2.2.length<=50000;have:(s.es.length+1)*60<=61*60:=Nat.mul_le_mul_right _ O;omega
 |bL id=>simp only[aX];split <;> (try split) <;> simp[bS.error,bS.num]
 |cancel id=>simp only[aX];split <;> simp[bS.error,bS.num]
 |waiting=>simp[aX,bS.num]
 |clock=>simp[aX,bS.num]
 |bH=>simp only[aX];split <;> (try split) <;> simp[bS.error,bS.num]
 |enter=>simp only[aX,lS];split <;> simp[bS.error,bS.num]
 |series=>simp only[aX,lS];split <;> simp[bS.error,bS.num]
 |list=>simp only[aX];split <;> (try split) <;> simp[bS.error,bS.num]
 |ef=>simp only[aX];split <;> (try split) <;> simp[bS.error,bS.num]
 |find=>simp only[aX];split <;> (try split) <;> simp[bS.error,bS.num]
 |expand=>simp only[aX];split <;> simp[bS.error,bS.num]
end aA
inductive LV:UG->aA.jb->Prop where
 |bH (name:Us) (hn:name.size<=1000) (u:Ux):LV (UU 143 (UT #[UQ name,UL UV u])) (.bH name u)
 |book (name:Us) (hn:name.size<=1000) (u fr til:Ux):LV (UU 148 (UT #[UQ name,UL UV u,UL UV fr,UL UV til])) (.enter 1 name u fr til 0)
 |hold (name:Us) (hn:name.size<=1000) (u fr til long:Ux):LV (UU 150 (UT #[UQ name,UL UV u,UL UV fr,UL UV til,UL UV long])) (.enter 2 name u fr til long)
 |wait (name:Us) (hn:name.size<=1000) (u fr til long:Ux):LV (UU 151 (UT #[UQ name,UL UV u,UL UV fr,UL UV til,UL UV long])) (.enter 3 name u fr til long)
 |series (name:Us) (hn:name.size<=1000) (u:Ux) (r:Rd.cP):LV (UU 158 (UT #[UQ name,UL UV u,UL UV r.pc,UL UV r.ev,UR (aI r.acc 0),UR (aI r.acc 1),UR (aI r.acc 2),UR (aI r.acc 3),UR (aI r.acc 4),UR (aI r.acc 5),UR (aI r.acc 6),UL UV r.fr,UL UV r.mn,UL UV r.mi,UL UV r.ti,UL UV r.un])) (.series name u r)
 |bL (id:Ux):LV (UU 160 (UT #[UL UV id])) (.bL id)
 |cancel (id:Ux):LV (UU 161 (UT #[UL UV id])) (.cancel id)
 |list (name:Us) (hn:name.size<=1000) (wi:Uv) (fr til a b:Ux) (ha:(if wi then fr else 0)=a) (hb:(if wi then til else 1048320)=b):LV (UU 163 (UT #[UQ name,UR wi,UL UV fr,UL UV til])) (.list name a b)
 |waiting:LV (UU 166 (UT #[])) (.waiting)
 |ef (name:Us) (hn:name.size<=1000) (fr til:Ux):LV (UU 169 (UT #[UQ name,UL UV fr,UL UV til])) (.ef name fr til)
 |find (name:Us) (hn:name.size<=1000) (u long fr til:Ux):LV (UU 171 (UT #[UQ name,UL UV u,UL UV long,UL UV fr,UL UV til])) (.find name u long fr til)
 |expand (r:Rd.cP):LV (UU 173 (UT #[UL UV r.pc,UL UV r.ev,UR (aI r.acc 0),UR (aI r.acc 1),UR (aI r.acc 2),UR (aI r.acc 3),UR (aI r.acc 4),UR (aI r.acc 5),UR (aI r.acc 6),UL UV r.fr,UL UV r.mn,UL UV r.mi,UL UV r.ti,UL UV r.un])) (.expand r)
 |tick (n:Ux):LV (UU 175 (UT #[UL UV n])) (.tick n)
 |clock:LV (UU 176 (UT #[])) (.clock)
theorem b8R(h:eH w d s rw_ aM)(ht:hI w)(j:10<=w.heap.size){f:UG}{l:aA.jb}(o:LV f l)(c:aA.ke l):UI prog 62 #[d,f] w fun e w'=>∃ v,e=UW v/\eu w d aM (aA.aX s l) v w':=by
 cases o with
 |bH name hn u=>exact b3V h name hn u
 |book name hn u fr til=>exact b5G h name hn u fr til c
 |hold name hn u fr til long=>exact b5E h name hn u fr til long c
 |wait name hn u fr til long=>exact b5A h name hn u fr til long c
 |series name hn u r=>exact b2l h ht j name hn u r c
 |bL id=>exact b0l h id c
 |cancel id=>exact b2n h id c
 |list name hn wi fr til a b ha hb=>exact b5D h name hn wi fr til a b ha hb
 |waiting=>exact b0k h
 |ef name hn fr til=>exact b5C h name hn fr til c
 |find name hn u long fr til=>exact b5F h name hn u long fr til c
 |expand r=>exact b2m h ht j r c
 |tick n=>exact b5B h n c
 |clock=>exact b3W h
theorem qQ{s:Us}(h:cH x s=UE):s=x:=by have e:=eq_of_beq h;rw[Zj,Zj] at e;exact Txt.nT e
theorem Jr{B:Us->Uv}(h:n<ws.length)(a:B (ws.getD n Ym)=UE):gG ws B (n,UD)=(n+1,UD):=by simp only[gG,fP,fL,fQ,dN,a,h,decide_true,Bool.not_false,Bool.and_self,if_true]
theorem wC(ws:J Us)(st:M × Uv):aP ws [] st=st:=rfl
theorem KT{B:Us->Uv}{wr:Uv}(h:fQ ws n wr B=UE):wr=UD/\n<ws.length/\B (ws.getD n Ym)=UE:=by unfold fQ dN at h;simp only[Wu,Bool.not_eq_true',decide_eq_true_eq] at h;exact⟨h.1.1,h.1.2,h.2⟩
theorem Fz{B:Us->Uv}(h:(gG ws B st).2=UD):fQ ws st.1 st.2 B=UE:=by
 unfold gG fL at h
 cases e:fQ ws st.1 st.2 B
 .rw[e] at h;simp at h
 .rfl
theorem mC{B:Us->Uv}(h:(gG ws B st).2=UD):st.2=UD:=(KT (Fz h)).1
theorem ud{B:Us->Uv}(h:(gG ws B st).2=UD):∃ x,B x=UE/\∀ a,bV ws st B a=a x:=by have t:=Fz h;exact⟨_,(KT t).2.2,fun a=>by unfold bV gS;rw[t];rfl⟩
theorem qz(h:cF x=UE):1<=bD x/\bD x<=9:=by unfold cF gy at h;simp only[Wu,decide_eq_true_eq] at h;exact⟨h.1.2,h.2⟩
theorem vT(h:dM x=UE):1<=bD x/\bD x<=1048320:=by unfold dM gy at h;simp only[Wu,decide_eq_true_eq] at h;exact⟨h.1.2,h.2⟩
theorem As(h:eP x=UE):1<=bD x/\bD x<=99:=by unfold eP gy at h;simp only[Wu,decide_eq_true_eq] at h;exact⟨h.1.2,h.2⟩
theorem Ji(x:Us):0<=bD x/\bD x<=9999999:=Txt.lT _
theorem jN(h:bB x=UE):0<=cL x/\cL x<=1048320:=by grind[bB,cL]
theorem JD(h:Txt.cU x=UE):0<=dV x/\dV x<728:=by grind[dV,Txt.cU]
theorem Td(h:Txt.dZ x=UE):0<=Txt.eA x/\Txt.eA x<1440:=by unfold Txt.eA;rw[Uz h];unfold Txt.dZ at h;let⟨_,_,_,_,h1,h2⟩:=of_decide_eq_true h;have:=Txt.lT (Txt.part x 0 2);have:=Txt.lT (Txt.part x 3 5);omega
theorem a4o(h:bJ x=UE):x.size<=1000:=by
 unfold bJ Txt.gP at h;rw[Wu] at h;have:=of_decide_eq_true h.1;have e:x.size=x.data.toList.length:=by simp_all
 omega
theorem J8{s:M × Uv}(h:qw ws st ti un s)(f:s.2=UD):st.2=UD/\0<=ti/\ti<=99/\0<=un/\un<728:=by
 cases h with
 |times h =>have a:=f;let⟨x,hx,hv⟩:=ud a;have:=As hx;have c:=mC a;rw[hv bD];exact⟨c,O,O,O,O⟩
 |til h1 h =>have a:=f;let⟨x,hx,hv⟩:=ud a;have:=JD hx;have c:=mC a;rw[hv dV];exact⟨c,O,O,O,O⟩
 |none h1 h=>cases f
theorem b9P{ev:N}{s:M × Uv}(h:qD ws st pc ev acc s)(f:s.2=UD):st.2=UD/\1<=pc/\pc<=3/\1<=ev/\ev<=99:=by
 cases h with
 |daily h =>have a:=f;let⟨x,hx,hv⟩:=ud a;have:=As hx;have c:=mC a;rw[hv bD];exact⟨c,O,O,O,O⟩
 |weekly h1 h acc ha =>have a:=f;have j:=mC a;let⟨x,hx,hv⟩:=ud j;have:=As hx;have c:=mC j;rw[hv bD];exact⟨c,O,O,O,O⟩
 |monthly g1 g2 g =>have a:=f;let⟨x,hx,hv⟩:=ud a;have:=As hx;have c:=mC a;rw[hv bD];exact⟨c,O,O,O,O⟩
 |none g1 g2 g=>cases f
theorem FK{ev:N}{s:M × Uv}(h:lO ws st pc ev acc fr mn mi ti un s):∃ a,qD ws st pc ev acc a/\qw ws (oT ws a) ti un s/\fr=bV ws (aP ws [cH cC] a) Txt.cU dV/\mn=bV ws (aP ws [cH cC,Txt.cU,cH cO] a) Txt.dZ Txt.eA/\mi=bV ws (aP ws [cH cC,Txt.cU,cH cO,Txt.dZ,cH dA] a) dM bD:=by
 cases h;exact⟨_,by assumption,by assumption,rfl,rfl,rfl⟩
theorem Lz{ev:N}{s:M × Uv}(h:lO ws st pc ev acc fr mn mi ti un s)(E:s.2=UD):st.2=UD/\Rd.hH ⟨pc,ev,acc,fr,mn,mi,ti,un⟩:=by obtain⟨a,C,D,rfl,rfl,rfl⟩:=FK h;let⟨hm,t0,t1,u0,u1⟩:=J8 D E;have c:=hm;have y:=mC c;have f:=mC y;have z:=mC f;have j:=mC z;have A:=mC j;let⟨hs,p1,p3,e1,e2⟩:=b9P C (mC A);let⟨xi,hi,vi⟩:=ud c;let⟨xm,hx,vm⟩:=ud f;let⟨xd,hd,vd⟩:=ud j;have t:=vT hi;have q:=Td hx;have o:=JD hd;refine⟨hs,⟨p1,p3,e1,e2,?_,?_,?_,?_,?_,?_,t0,t1,u0,u1⟩⟩;show 0<=bV ws (gG ws (cH cC) a) Txt.cU dV;rw[vd];exact o.1;show bV ws (gG ws (cH cC) a) Txt.cU dV<728;rw[vd];exact o.2;show 0<=bV ws (gG ws (cH cO) (gG ws Txt.cU (gG ws (cH cC) a))) Txt.dZ Txt.eA;rw[vm];exact q.1;show bV ws (gG ws (cH cO) (gG ws Txt.cU (gG ws (cH cC) a))) Txt.dZ Txt.eA<1440;rw[vm];exact q.2;show 1<=bV ws (gG ws (cH dA) (gG ws Txt.dZ (gG ws (cH cO) (gG ws Txt.cU (gG ws (cH cC) a))))) dM bD;rw[vi];exact t.1;show bV ws (gG ws (cH dA) (gG ws Txt.dZ (gG ws (cH cO) (gG ws Txt.cU (gG ws (cH cC) a))))) dM bD<=1048320;rw[vi];exact t.2
def uJ:UG->M
 |.iface t _=>t
 |_=>0
def Gs:J (Us × M):=[(ix,143),(iO,148),(iE,150),(iF,151),(eQ,158),(iU,160),(iR,161),(dC,163),(iT,166),(iu,169),(ir,171),(fA,173),(ja,175),(iN,176)]
def kT(f:Us->Uv):M:=((Gs.find? fun p=>f p.1).map (·.2)).getD 0
theorem nW(h:bP ws 0 UD x=UE):kT (bP ws 0 UD)=kT (fun y=>x.toList==y.toList):=by grind[bP,kT]
theorem jq.tag{s:M × Uv}(h:jq ws v s):uJ v=kT (bP ws 0 UD):=by
 cases h with
 |none h0 h1 h2 h3 h4 h5 h6 h7 h8 h9 h10 h11 h12 h13=>simp[uJ,kT,Gs,h0,h1,h2,h3,h4,h5,h6,h7,h8,h9,h10,h11,h12,h13]
 |bH h=>rw[nW h];exact (by decide +kernel:143=kT (fun y=>ix.toList==y.toList))
 |book h=>rw[nW h];exact (by decide +kernel:148=kT (fun y=>iO.toList==y.toList))
 |hold h=>rw[nW h];exact (by decide +kernel:150=kT (fun y=>iE.toList==y.toList))
 |wait h=>rw[nW h];exact (by decide +kernel:151=kT (fun y=>iF.toList==y.toList))
 |series h=>rw[nW h];exact (by decide +kernel:158=kT (fun y=>eQ.toList==y.toList))
 |bL h=>rw[nW h];exact (by decide +kernel:160=kT (fun y=>iU.toList==y.toList))
 |cancel h=>rw[nW h];exact (by decide +kernel:161=kT (fun y=>iR.toList==y.toList))
 |list0 h=>rw[nW h];exact (by decide +kernel:163=kT (fun y=>dC.toList==y.toList))
 |list1 h=>rw[nW h];exact (by decide +kernel:163=kT (fun y=>dC.toList==y.toList))
 |waiting h=>rw[nW h];exact (by decide +kernel:166=kT (fun y=>iT.toList==y.toList))
 |ef h=>rw[nW h];exact (by decide +kernel:169=kT (fun y=>iu.toList==y.toList))
 |find h=>rw[nW h];exact (by decide +kernel:171=kT (fun y=>ir.toList==y.toList))
 |expand h=>rw[nW h];exact (by decide +kernel:173=kT (fun y=>fA.toList==y.toList))
 |tick h=>rw[nW h];exact (by decide +kernel:175=kT (fun y=>ja.toList==y.toList))
 |clock h=>rw[nW h];exact (by decide +kernel:176=kT (fun y=>iN.toList==y.toList))
theorem Tz{s:M × Uv}(h:qw ws st ti un s)(a:qw ws st ti' un' s'):s=s'/\ti=ti'/\un=un':=by
 cases h <;> cases a <;> first|exact⟨rfl,rfl,rfl⟩|(simp_all;done)
theorem c2F{ev:N}{s:M × Uv}(h:qD ws st pc ev acc s)(a:qD ws st pc' ev' acc' s'):s=s'/\pc=pc'/\ev=ev'/\(s.2=UD->acc=acc'):=by
 cases h with
 |daily h=>cases a <;> first|exact⟨rfl,rfl,rfl,fun _=>rfl⟩|(simp_all;done)
 |monthly h1 c h=>cases a <;> first|exact⟨rfl,rfl,rfl,fun _=>rfl⟩|(simp_all;done)
 |none h1 c h=>cases a <;> first|exact⟨rfl,rfl,rfl,fun _=>rfl⟩|(simp_all;done)
 |weekly h1 h acc ha =>
  cases a with
  |daily g=>rw[g] at h1;cases h1
  |weekly g1 g acc' ga =>refine⟨rfl,rfl,rfl,fun c=>?_⟩;have t:=Fz (B:=Txt.fC) (st:=aP ws [eP] (gB st)) c;exact Option.some.inj ((ha t).symm.trans (ga t))
  |monthly g1 g2 g=>rw[h] at g2;cases g2
  |none g1 g2 g=>rw[h] at g2;cases g2
theorem Kf{ev:N}{s:M × Uv}{f a c:N}(h:lO ws st pc ev acc fr mn mi ti un s)(E:lO ws st pc' ev' acc' f a c ti' un' s'):s=s'/\pc=pc'/\ev=ev'/\(s.2=UD->acc=acc')/\fr=f/\mn=a/\mi=c/\ti=ti'/\un=un':=by
 obtain⟨F,z,q,rfl,rfl,rfl⟩:=FK h;obtain⟨t,j,o,rfl,rfl,rfl⟩:=FK E;obtain⟨rfl,rfl,rfl,C⟩:=c2F z j;obtain⟨rfl,rfl,rfl⟩:=Tz q o;refine⟨rfl,rfl,rfl,fun D=>C ?_,rfl,rfl,rfl,rfl,rfl⟩;have A:=(J8 q D).1;have y:=A;exact mC (mC (mC (mC (mC (mC y)))))
theorem A0{s:M × Uv}(c:jq ws v s)(a:jq ws v' s'):s=s'/\(s.2=UD->v=v'):=by
 have e:=c.tag.trans a.tag.symm
 cases c with
 |series h pc ev acc fr mn mi ti un s hr =>
  cases a with
  |series h' pc' ev' acc' fr' mn' mi' ti' un' s' hr' =>obtain⟨rfl,rfl,rfl,f,rfl,rfl,rfl,rfl,rfl⟩:=Kf hr hr';exact⟨rfl,fun a=>by grind⟩
  |_=>exact UA e (by simp[uJ])
 |expand h pc ev acc fr mn mi ti un s hr =>
  cases a with
  |expand h' pc' ev' acc' fr' mn' mi' ti' un' s' hr' =>obtain⟨rfl,rfl,rfl,f,rfl,rfl,rfl,rfl,rfl⟩:=Kf hr hr';exact⟨rfl,fun a=>by grind⟩
  |_=>exact UA e (by simp[uJ])
 |list0 h hm =>
  cases a with
  |list0 h' hm'=>exact⟨rfl,fun _=>rfl⟩
  |list1 h' hm'=>rw[hm] at hm';cases hm'
  |_=>exact UA e (by simp[uJ])
 |list1 h hm =>
  cases a with
  |list0 h' hm'=>rw[hm] at hm';cases hm'
  |list1 h' hm'=>exact⟨rfl,fun _=>rfl⟩
  |_=>exact UA e (by simp[uJ])
 |_=>cases a <;> first|exact⟨rfl,fun _=>rfl⟩|exact UA e (by simp[uJ])
theorem Fy{t:Us}{e e':Ending}(h:pO t e)(c:pO t e'):e=e':=by
 cases h with
 |long h =>
  cases c with
  |long c=>rfl
  |bad c=>omega
  |sd c=>omega
 |bad h v st hl f =>
  cases c with
  |long c=>omega
  |bad c v' st' hl' a=>obtain⟨rfl,_⟩:=A0 hl hl';rfl
  |sd c v' st' hl' h2 a =>
   obtain⟨rfl,_⟩:=A0 hl hl';rcases f with f|f
   .rw[h2] at f;cases f
   .rw[a] at f;cases f
 |sd h v st hl h2 f =>
  cases c with
  |long c=>omega
  |bad c v' st' hl' a =>
   obtain⟨rfl,_⟩:=A0 hl hl';rcases a with a |a
   .rw[h2] at a;cases a
   .rw[f] at a;cases a
  |sd c v' st' hl' h2' a=>obtain⟨rfl,j⟩:=A0 hl hl';rw[j h2]
def Dq(t:Us):(N × N) ⊕ aA.jb->Prop
 |.inl (er,at_)=>er≠0/\(er=1/\at_=0\/er=2/\0<=at_)/\∀ e,pO t e->e=UW (.tuple #[.nilIface,V Y er,V Y at_])
 |.inr l=>∃ a,(∀ e,pO t e->e=UW (.tuple #[a,V Y 0,V Y 0]))/\LV a l/\aA.ke l
end Go.Proofs.YtolaacmheeaadaaGreatDoor
namespace Go.Proofs.YtolaacmheeaadaaGreatDoor.Txt
open Go
theorem KA:∀ (k u:M),u<10 ^ (k+1)->(Zk u).length<=k+1
 |0,u,h=>by rw[Zk];simp at h;rw[dif_pos h];simp
 |k+1,u,h=>by rw[Zk];split;simp;have:=KA k (u / 10) Uo;simp;omega
def bE(n:N):Us:=⟨(Zl n).toArray⟩
theorem BE(n:N)(a:0<=n)(h:n<=9999999):(bE n).size<=7:=by rw[<- iK];unfold bE Zl;rw[Uy O];have:=KA 6 n.toNat O;simpa using this
def pz:M->Us->Us
 |0,t=>t
 |k+1,t=>pz k (⟨#[48]⟩++t)
def jU(n:N)(size:M):Us:=pz (size-(bE n).size) (bE n)
theorem Ab:∀ (k:M)(t:Us),(pz k t).size=k+t.size
 |0,t=>by simp[pz]
 |k+1,t=>by rw[pz,Ab k];have:(⟨#[48]⟩++t:Us).size=1+t.size:=Zm;omega
theorem nO(n:N)(size:M)(a:0<=n)(h:n<=9999999):(jU n size).size<=size+7:=by unfold jU;rw[Ab];have:=BE n a h;omega
theorem Aa:∀ (k:M)(t:Us),(pz k t).data.toList=XV k 48++t.data.toList
 |0,t=>rfl
 |k+1,t=>by rw[pz,Aa k,qI];rw[show (ByteArray.mk #[48]).data.toList=[48] from rfl,<- V8];congr 1;rw[Zn]
theorem Da(c:UInt8)(h:tc c=UE)(u:M)(a:(u:N)=(c.toNat:N)-48):Zo (48+u)=c:=by have:=(rB c).1 h;apply UInt8.toNat_inj.1;rw[UInt8.toNat_ofNat'];omega
theorem Dy(u:M)(h:u<10):Zk u=[Zo (48+u)]:=by rw[Zk,dif_pos h]
theorem Tx(u:M)(h:¬ u<10):Zk u=Zk (u / 10)++[Zo (48+u % 10)]:=by rw[Zk,dif_neg h]
theorem Ij:∀ (n:M)(l:J UInt8),l.length=n+1->iI l=UE->XV (n+1-(Zk (jB l).toNat).length) 48++Zk (jB l).toNat=l/\0<=jB l/\(Zk (jB l).toNat).length<=n+1
 |0,l,hl,hd=>by
  match l,hl with
  |[c],_ =>
   simp only[iI,List.all_cons,List.all_nil,Bool.and_true] at hd;have q:=(rB c).1 hd;have e:jB [c]=(c.toNat:N)-48:=by simp[jB]
   rw[e,Dy _ O];refine⟨?_,O,by simp⟩;simp only[Zp,Nat.sub_self,List.replicate_zero,YW];rw[Da c hd _ O]
 |n+1,l,hl,hd=>by
  obtain⟨m,c,rfl⟩:∃ m c,l=m++[c]:=by have f:l≠[]:=Uo;exact⟨l.dropLast,l.getLast f,(List.dropLast_concat_getLast f).symm⟩
  rw[yI,Wu] at hd;have q:=(rB c).1 hd.2;have h:m.length=n+1:=Uo;let⟨i1,i2,i3⟩:=Ij n m h hd.1;rw[Lw];let⟨a,ha⟩:=Int.eq_ofNat_of_zero_le i2;rw[ha] at i1 i3 ⊢;simp only[Int.toNat_natCast] at i1 i3;have t:((a:N)*10+((c.toNat:N)-48)).toNat=a*10+(c.toNat-48):=O;rw[t];have j:c.toNat-48<10:=O;by_cases o:a=0
  .subst o;have y:(0:M)*10+(c.toNat-48)=c.toNat-48:=O
   rw[y,Dy _ j,Da c hd.2 _ O];refine⟨?_,O,by simp⟩;rw[Dy 0 O] at i1;simp only[Zp] at i1 ⊢;rw[show n+1+1-1=n+1 from by omega];rw[<- i1];congr 1;rw[show n+1-1=n from by omega,Zn];rfl
  .rw[Tx _ O,show (a*10+(c.toNat-48)) / 10=a from by omega,show (a*10+(c.toNat-48)) % 10=c.toNat-48 from by omega,Da c hd.2 _ O];refine⟨?_,O,by grind⟩;rw[VA,Zp,show n+1+1-((Zk a).length+1)=n+1-(Zk a).length from by omega,<- V8,i1]
theorem Q0(t:Us)(n:M)(h:t.size=n+1)(c:iI t.data.toList=UE):jU (jB t.data.toList) (n+1)=t:=by
 let⟨h1,h2,_⟩:=Ij n t.data.toList (by simp_all) c;apply nT;unfold jU;have e:bE (jB t.data.toList)=⟨(Zk (jB t.data.toList).toNat).toArray⟩:=by unfold bE Zl;rw[Uy O]
 rw[Aa,e];have a:(ByteArray.mk (Zk (jB t.data.toList).toNat).toArray).size=(Zk (jB t.data.toList).toNat).length:=by rw[<- iK]
 rw[a];exact h1
end Go.Proofs.YtolaacmheeaadaaGreatDoor.Txt
namespace Go.Proofs.YtolaacmheeaadaaGreatDoor
open Go.RowKit
theorem b8w(w:UF)(k:M)(a:Array Obj):UH w w (Sort.grow (w.drewN k) a) :=⟨rfl,rfl,rfl,by simp_all,fun j c=>by simp only[Sort.grow,World.heap_drewN];rw[Array.getElem?_append_left c]⟩
theorem Dv(n:N)(w:UF)(c:Env w)(h:-9223372036854775808<=n)(f:n<=9223372036854775807):UI prog 48 #[n] w fun e w'=>e=UW (Txt.bE n)/\UH w w w':=by
 refine aK (strconv_Itoa n h f w c.pow) ?_;rintro w' ⟨k,a,rfl⟩;exact⟨rfl,b8w w k a⟩
end Go.Proofs.YtolaacmheeaadaaGreatDoor
namespace Go.Proofs.YtolaacmheeaadaaGreatDoor.Txt
open Go
theorem a1l(s:Us):s.data.toList.length=s.size:=by rw[Array.length_toList];rfl
end Go.Proofs.YtolaacmheeaadaaGreatDoor.Txt
namespace Go.Proofs.YtolaacmheeaadaaGreatDoor.Txt
open Go
end Go.Proofs.YtolaacmheeaadaaGreatDoor.Txt
namespace Go.Proofs.YtolaacmheeaadaaGreatDoor
open Go.RowKit
theorem zk{x:N}(c:-9223372036854775808<=x)(a:x<=9223372036854775807):IntKind.i64.wrap x=x:=by rw[IntKind.wrap_i64];omega
def nX(c n:N):N:=(if c<0 then -(c+1) else c) % n
theorem M0{c n:N}(a:1<=n):0<=nX c n/\nX c n<n:=⟨Int.emod_nonneg _ O,Int.emod_lt_of_pos _ O⟩
open aA (aQ St eD kept fc ek ec jw dB dI jC eS jr cA Inv)
def mM(w:Us)(a c:N):Uv:=decide (a<=cB w 1 7/\cB w 1 7<=c)
def bG(a w:Us):Uv :=
 if a.toList==[78,65,77,69] then Txt.gP w.data.toList else
 if a.toList==[85,78,73,84,83] then mM w 1 9 else
 if a.toList==[77,73,78,85,84,69,83] then mM w 1 1048320 else
 if a.toList==[69,86,69,82,89] then mM w 1 99 else
 if a.toList==[73,68] then decide (0<=cB w 1 7) else
 if a.toList==[84,73,77,69] then decide (0<=eJ w) else
 if a.toList==[68,65,84,69] then decide (0<=gK w/\gK w<728) else
 if a.toList==[77,73,78,85,84,69] then decide (0<=jL w) else
 if a.toList==[79,78] then Txt.fC w else
 a.toList==w.toList
theorem Qr(c w:Us)(W:UF)(f:w.size<=160):UI prog 47 #[UQ c,UQ w] W fun e w'=>e=UW (UR (bG c w))/\UH W.heap.size W w':=by
 cases q:(c.toList==[78,65,77,69])
 case true =>go_in;go_wp2_with fail;refine (gC w 1 7 W f O O).mono ?_;rintro e w1 ⟨rfl,a⟩;go_wp2_with fail;refine (Rm w _ f).mono ?_;rintro e w2 ⟨rfl,rfl⟩;go_wp2;go_ret;exact⟨fJ (by simp[bG,q]),a⟩
 cases c1:(c.toList==[85,78,73,84,83])
 case true =>
  have o:Hid (bG c w=mM w 1 9):=by show bG c w=_;simp[bG,q,c1]
  by_cases z:1<=cB w 1 7
  .by_cases y:cB w 1 7<=9
   .go_in
    go_wp2_with fail;refine (gC w 1 7 W f O O).mono ?_;rintro e w1 ⟨rfl,a⟩;go_wp2;go_ret;exact⟨fJ (by rw[o.out,mM,decide_eq_true ⟨z,y⟩]),a⟩
   .go_in
    go_wp2_with fail;refine (gC w 1 7 W f O O).mono ?_;rintro e w1 ⟨rfl,a⟩;go_wp2;go_ret;exact⟨fJ (by rw[o.out,mM,decide_eq_false O];simp;omega),a⟩
  .go_in
   go_wp2_with fail;refine (gC w 1 7 W f O O).mono ?_;rintro e w1 ⟨rfl,a⟩;go_wp2;go_ret;exact⟨fJ (by rw[o.out,mM,decide_eq_false O]),a⟩
 cases t:(c.toList==[77,73,78,85,84,69,83])
 case true =>
  have o:Hid (bG c w=mM w 1 1048320):=by show bG c w=_;simp[bG,q,c1,t]
  by_cases z:1<=cB w 1 7
  .by_cases y:cB w 1 7<=1048320
   .go_in
    go_wp2_with fail;refine (gC w 1 7 W f O O).mono ?_;rintro e w1 ⟨rfl,a⟩;go_wp2;go_ret;exact⟨fJ (by rw[o.out,mM,decide_eq_true ⟨z,y⟩]),a⟩
   .go_in
    go_wp2_with fail;refine (gC w 1 7 W f O O).mono ?_;rintro e w1 ⟨rfl,a⟩;go_wp2;go_ret;exact⟨fJ (by rw[o.out,mM,decide_eq_false O];simp;omega),a⟩
  .go_in
   go_wp2_with fail;refine (gC w 1 7 W f O O).mono ?_;rintro e w1 ⟨rfl,a⟩;go_wp2;go_ret;exact⟨fJ (by rw[o.out,mM,decide_eq_false O]),a⟩
 cases A:(c.toList==[69,86,69,82,89])
 case true =>
  have o:Hid (bG c w=mM w 1 99):=by show bG c w=_;simp[bG,q,c1,t,A]
  by_cases z:1<=cB w 1 7
  .by_cases y:cB w 1 7<=99
   .go_in
    go_wp2_with fail;refine (gC w 1 7 W f O O).mono ?_;rintro e w1 ⟨rfl,a⟩;go_wp2;go_ret;exact⟨fJ (by rw[o.out,mM,decide_eq_true ⟨z,y⟩]),a⟩
   .go_in
    go_wp2_with fail;refine (gC w 1 7 W f O O).mono ?_;rintro e w1 ⟨rfl,a⟩;go_wp2;go_ret;exact⟨fJ (by rw[o.out,mM,decide_eq_false O];simp;omega),a⟩
  .go_in
   go_wp2_with fail;refine (gC w 1 7 W f O O).mono ?_;rintro e w1 ⟨rfl,a⟩;go_wp2;go_ret;exact⟨fJ (by rw[o.out,mM,decide_eq_false O]),a⟩
 cases C:(c.toList==[73,68])
 case true =>go_in;go_wp2_with fail;refine (gC w 1 7 W f O O).mono ?_;rintro e w1 ⟨rfl,a⟩;go_wp2;go_ret;exact⟨fJ (by simp[bG,q,c1,t,A,C]),a⟩
 cases D:(c.toList==[84,73,77,69])
 case true =>go_in;go_wp2_with fail;refine (gC w 1 7 W f O O).mono ?_;rintro e w1 ⟨rfl,a⟩;go_wp2_with fail;refine (tj w _ f).mono ?_;rintro e w2 ⟨rfl,h⟩;have j:=a.trans (h.mono a.size);go_wp2;go_ret;exact⟨fJ (by simp[bG,q,c1,t,A,C,D]),j⟩
 cases E:(c.toList==[68,65,84,69])
 case true =>
  have o:Hid (bG c w=decide (0<=gK w/\gK w<728)):=by show bG c w=_;simp[bG,q,c1,t,A,C,D,E]
  by_cases z:0<=gK w
  .by_cases y:gK w<728
   .go_in
    go_wp2_with fail;refine (gC w 1 7 W f O O).mono ?_;rintro e w1 ⟨rfl,a⟩;go_wp2_with fail;refine (xQ w _ f).mono ?_;rintro e w2 ⟨rfl,h⟩;have j:=a.trans (h.mono a.size);go_wp2;go_ret;exact⟨fJ (by rw[o.out,decide_eq_true ⟨z,y⟩]),j⟩
   .go_in
    go_wp2_with fail;refine (gC w 1 7 W f O O).mono ?_;rintro e w1 ⟨rfl,a⟩;go_wp2_with fail;refine (xQ w _ f).mono ?_;rintro e w2 ⟨rfl,h⟩;have j:=a.trans (h.mono a.size);go_wp2;go_ret;exact⟨fJ (by rw[o.out,decide_eq_false O];simp;omega),j⟩
  .go_in
   go_wp2_with fail;refine (gC w 1 7 W f O O).mono ?_;rintro e w1 ⟨rfl,a⟩;go_wp2_with fail;refine (xQ w _ f).mono ?_;rintro e w2 ⟨rfl,h⟩;have j:=a.trans (h.mono a.size);go_wp2;go_ret;exact⟨fJ (by rw[o.out,decide_eq_false O]),j⟩
 cases F:(c.toList==[77,73,78,85,84,69])
 case true =>go_in;go_wp2_with fail;refine (gC w 1 7 W f O O).mono ?_;rintro e w1 ⟨rfl,a⟩;go_wp2_with fail;refine (Do w _ f).mono ?_;rintro e w2 ⟨rfl,h⟩;have j:=a.trans (h.mono a.size);go_wp2;go_ret;exact⟨fJ (by simp[bG,q,c1,t,A,C,D,E,F]),j⟩
 cases G:(c.toList==[79,78])
 case true =>go_in;go_wp2_with fail;refine (gC w 1 7 W f O O).mono ?_;rintro e w1 ⟨rfl,a⟩;go_wp2_with fail;refine (Cd w _ f).mono ?_;rintro e w2 ⟨⟨acc,rfl,_⟩,h⟩;have j:=a.trans (h.mono a.size);unfold gD;go_wp2;go_ret;exact⟨fJ (by simp[bG,q,c1,t,A,C,D,E,F,G]),j.alloc (U0 a.size h.size) _⟩
 go_in;go_wp2_with fail;refine (gC w 1 7 W f O O).mono ?_;rintro e w1 ⟨rfl,a⟩;go_wp2;go_ret;exact⟨fJ (by simp[bG,q,c1,t,A,C,D,E,F,G]),a⟩
def lG(i:M):Us:=match i with|0=>⟨#[100,97,105,108,121,32,69,86,69,82,89]⟩|1=>⟨#[119,101,101,107,108,121,32,69,86,69,82,89,32,79,78]⟩|_=>⟨#[109,111,110,116,104,108,121,32,69,86,69,82,89]⟩
def om(i:M):Us:=match i with|0=>⟨#[116,105,109,101,115,32,69,86,69,82,89]⟩|_=>⟨#[117,110,116,105,108,32,68,65,84,69]⟩
def GM:Us:=⟨#[32,102,114,111,109,32,68,65,84,69,32,97,116,32,77,73,78,85,84,69,32,102,111,114,32,77,73,78,85,84,69,83,32]⟩
def xD(ahead:Us)(i k:M):Us:=ahead++⟨#[32]⟩++lG i++GM++om k
def nu(ahead:Us)(n:M):J Us:=(List.range n).map fun j=>xD ahead (j / 2) (j % 2)
theorem Sf(ahead:Us)(n:M):nu ahead (n+1)=nu ahead n++[xD ahead (n / 2) (n % 2)]:=by simp[nu,List.range_succ]
theorem IC(i:M):(lG i).size<=15:=by unfold lG;split <;> decide
theorem Ii(i:M):(om i).size<=11:=by unfold om;split <;> decide
theorem vM(a b:Us)(m n:M)(f:a.size<=m)(c:b.size<=n):(a++b).size<=m+n:=Uo
theorem Ac(a b:Us)(m n:M)(f:a.size<=m)(c:b.size<=n)(h:m+n<=1000):∀ wx,(Zq .add a b).run prog wx=.ok (a++b) wx:=by intro wx;apply run_string_add_sum;omega
theorem ov{a base' e size:M}(h:w.ownsRow a e size v n xs)(o:base'<=a):w.ownsRow base' e size v n xs:=by
 refine⟨h.1,?_⟩;rcases h.2 with q|⟨g,cap,c,f,j,rest⟩
 .exact .inl q
 .exact .inr ⟨g,cap,c,f,U0 o j,rest⟩
theorem IQ(ahead:Us)(w:UF)(C:ahead.size<=20):UI prog 77 #[ahead] w fun e w'=>∃ v,e=UW v/\w'.ownsRow w 9 1 v 6 ((nu ahead 6).map UQ)/\UH w w w':=by
 obtain⟨i0,T,K,I,H⟩:=info_parts qm;go_in;go_wp2;obtain⟨W,y⟩:∃ W,W=(w.alloc (UX #[lG 0,lG 1,lG 2] 9)).alloc (UX #[om 0,om 1] 9):=⟨_,rfl⟩;simp only[lG,om] at y;rw[<- y];have hB:UH w w W:=by rw[y];exact aS.alloc Ui _
 have hZ:w+2=W.heap.size:=by rw[y];simp
 have cK:∀ i,i<3->W.cell? (w,i)=U (UQ (lG i)):=fun i hi=>by rw[y];rcases (show i=0\/i=1\/i=2 by omega) with rfl|rfl|rfl <;> simp[lG]
 have cE:∀ i,i<2->W.cell? (w.heap.size+1,i)=U (UQ (om i)):=fun i hi=>by rw[y];rcases (show i=0\/i=1 by omega) with rfl|rfl <;> simp[om]
 have CK:=hide cK;have CE:=hide cE;clear y cK cE;go_loopw [3,6,7] (fun v i _ wx=>∃ a:M,a<=3/\i=V Y a/\wx.ownsRow (w.heap.size+2) 9 1 v (2*a) ((nu ahead (2*a)).map UQ)/\UH (w.heap.size+2) W wx) (fun _ i _ _=>3-(intOf i).toNat)
 .exact⟨0,O,rfl,World.ownsRow_nil _ _ _ _,Below.refl _ _⟩
 .obtain⟨a,ad,rfl,o,q⟩:=hrel
  by_cases P:a<3
  .have i1:(0:N)<=(a:N):=Yz _;have i2:(a:N)<3:=O
   go_wp2;obtain⟨X,z⟩:∃ X:UF,X=wr:=⟨_,rfl⟩;rw[<- z] at o q ⊢;clear z;go_loopw [3,7] (fun v k wx=>∃ b:M,b<=2/\k=V Y b/\wx.ownsRow (w.heap.size+2) 9 1 v (2*a+b) ((nu ahead (2*a+b)).map UQ)/\UH (w.heap.size+2) W wx) (fun _ k _=>2-(intOf k).toNat)
   .exact⟨0,O,rfl,o,q⟩
   .obtain⟨b,ac,rfl,c,f⟩:=hrel
    by_cases R:b<2
    .have G:=IC a;have ez:=Ii b;have c1:wr.cell? (w,a)=U (UQ (lG a)):=(f.cell (p:=(w,a)) Ui).trans (aO CK a P);have c2:wr.cell? (w.heap.size+1,b)=U (UQ (om b)):=(f.cell (p:=(w.heap.size+1,b)) Ui).trans (aO CE b R);have i3:(0:N)<=(b:N):=Yz _;have i4:(b:N)<2:=O
     have F:u3.ownBlock≠U w.heap.size:=fun e=>by have:=lI c e;omega
     have E:u3.ownBlock≠U (w.heap.size+1):=fun e=>by have:=lI c e;omega
     have ab:=f.size;have s1:∀ wx,(Zq .add ahead ⟨#[32]⟩).run prog wx=.ok (UQ (ahead++⟨#[32]⟩)) wx:=Ac ahead _ 20 1 C Uj Uj;have s2:∀ wx,(Zq .add (ahead++⟨#[32]⟩) (lG a)).run prog wx=.ok (UQ (ahead++⟨#[32]⟩++lG a)) wx:=Ac _ _ 21 15 (vM _ _ 20 1 C Uj) G Uj;have s3:∀ wx,(Zq .add (ahead++⟨#[32]⟩++lG a) ⟨#[32,102,114,111,109,32,68,65,84,69,32,97,116,32,77,73,78,85,84,69,32,102,111,114,32,77,73,78,85,84,69,83,32]⟩).run prog wx=.ok (UQ (ahead++⟨#[32]⟩++lG a++⟨#[32,102,114,111,109,32,68,65,84,69,32,97,116,32,77,73,78,85,84,69,32,102,111,114,32,77,73,78,85,84,69,83,32]⟩)) wx:=Ac _ _ 36 33 (vM _ _ 21 15 (vM _ _ 20 1 C Uj) G) Uj Uj;have s4:∀ wx,(Zq .add (ahead++⟨#[32]⟩++lG a++⟨#[32,102,114,111,109,32,68,65,84,69,32,97,116,32,77,73,78,85,84,69,32,102,111,114,32,77,73,78,85,84,69,83,32]⟩) (om b)).run prog wx=.ok (UQ (ahead++⟨#[32]⟩++lG a++⟨#[32,102,114,111,109,32,68,65,84,69,32,97,116,32,77,73,78,85,84,69,32,102,111,114,32,77,73,78,85,84,69,83,32]⟩++om b)) wx:=Ac _ _ 69 11 (vM _ _ 36 33 (vM _ _ 21 15 (vM _ _ 20 1 C Uj) G) Uj) ez Uj;go_wp21;go_region_held3 (fun w'=>w'.cell? (w,a)=U (UQ (lG a))/\w'.cell? (w.heap.size+1,b)=U (UQ (om b)))
      (first
       |go_keep
       |(
        go_split_ands;refine⟨?_,?_⟩
        ·(rw[h.cell_far _ Un (Ne.symm F)];assumption)
        ·(rw[h.cell_far _ Un (Ne.symm E)];assumption)))
      ((refine step_append_lies _ (by rfl) _ _ _ (by rfl) (w.heap.size+2) 9 i0 _ 1 16 underlying78 T K I H rfl O u3 (2*a+b) ((nu ahead (2*a+b)).map UQ) (by rfl) ((c.alloc _).drew) (wr,0) 1 1 [ahead++⟨#[32]⟩++lG a++⟨#[32,102,114,111,109,32,68,65,84,69,32,97,116,32,77,73,78,85,84,69,32,102,111,114,32,77,73,78,85,84,69,83,32]⟩++om b] (by rfl) (by rfl) (Wf (cs:=#[ahead++⟨#[32]⟩++lG a++⟨#[32,102,114,111,109,32,68,65,84,69,32,97,116,32,77,73,78,85,84,69,32,102,111,114,32,77,73,78,85,84,69,83,32]⟩++om b]) (t:=9) (fr:=(0,0)) (heap_alloc_new wr _)) Uq O Up O Un (wr.heap.size+1) Ui ?_;intro g cap w1 j h ae aa))
     have A:UH (w.heap.size+2) W w1:=by
      first
       |exact ((f.alloc O _).drew).grown h Un (fun k S=>lI c S)
       |exact (f.alloc O _).grown h Un (fun k S=>lI c S)
     have D:Hid (w1.ownsRow (w.heap.size+2) 9 1 (UO g (2*a+b+1) cap) (2*a+(b+1)) ((nu ahead (2*a+(b+1))).map UQ)):=by show w1.ownsRow _ _ _ _ _ _;rw[show 2*a+(b+1)=2*a+b+1 from by omega,Sf,show (2*a+b) / 2=a from by omega,show (2*a+b) % 2=b from by omega,VU];exact j
     clear j;go_wp2;refine⟨?_,?_⟩
     .first|exact⟨b+1,O,by go_num,D,A⟩|((repeat apply Exists.intro);exact⟨⟨b+1,O,by go_num,D,A⟩,rfl⟩)
     .simp[intOf];omega
    .obtain rfl:b=2:=O
     have D:Hid (wr.ownsRow (w.heap.size+2) 9 1 u3 (2*(a+1)) ((nu ahead (2*(a+1))).map UQ)):=by show wr.ownsRow _ _ _ _ _ _;rw[show 2*(a+1)=2*a+2 from by omega];exact c
     clear c;go_wp2;exact⟨⟨a+1,O,by go_num,D,f⟩,by simp[intOf];omega⟩
  .obtain rfl:a=3:=O
   go_wp2;go_ret;exact⟨_,rfl,ov o O,hB.trans (q.mono O)⟩
def xC:J Us:=[⟨#[116,104,105,110,103,32,78,65,77,69,32,85,78,73,84,83]⟩,⟨#[98,111,111,107,32,78,65,77,69,32,85,78,73,84,83,32,84,73,77,69,32,84,73,77,69]⟩,⟨#[104,111,108,100,32,78,65,77,69,32,85,78,73,84,83,32,84,73,77,69,32,84,73,77,69,32,77,73,78,85,84,69,83]⟩,⟨#[119,97,105,116,32,78,65,77,69,32,85,78,73,84,83,32,84,73,77,69,32,84,73,77,69,32,77,73,78,85,84,69,83]⟩,⟨#[99,111,110,102,105,114,109,32,73,68]⟩,⟨#[99,97,110,99,101,108,32,73,68]⟩,⟨#[108,105,115,116,32,78,65,77,69]⟩,⟨#[108,105,115,116,32,78,65,77,69,32,84,73,77,69,32,84,73,77,69]⟩,⟨#[119,97,105,116,105,110,103]⟩,⟨#[112,101,97,107,32,78,65,77,69,32,84,73,77,69,32,84,73,77,69]⟩,⟨#[102,105,110,100,32,78,65,77,69,32,85,78,73,84,83,32,77,73,78,85,84,69,83,32,84,73,77,69,32,84,73,77,69]⟩,⟨#[116,105,99,107,32,77,73,78,85,84,69,83]⟩,⟨#[99,108,111,99,107]⟩]
def xy:Us:=⟨#[115,101,114,105,101,115,32,78,65,77,69,32,85,78,73,84,83]⟩
def zG:Us:=⟨#[101,120,112,97,110,100]⟩
def nm:J Us:=xC++nu xy 6++nu zG 6
theorem nR{a e size:M}(h:w.ownsRow a e size v n xs)(t:UH w w w'):w'.ownsRow a e size v n xs:=by
 refine⟨h.1,?_⟩;rcases h.2 with y|⟨g,cap,f,j,q,c,rest⟩
 .exact .inl y
 .refine .inr ⟨g,cap,f,j,q,?_,rest⟩
  have:g<w:=by
   by_cases o:g<w
   .exact o
   .rw[V4 O] at c;cases c
  rw[t.block g this];exact c
theorem vK{a e:M}(h:w.ownsRow a e 1 v n xs)(E:0<n):∃ g cap,v=UO (U ⟨g,0,Z⟩) n cap/\a<=g/\g<w/\∀ j u,xs[j]?=U u->w.cell? (Zr (g,0) j)=U u:=by
 rcases h.2 with ⟨_,H⟩|⟨g,cap,t,y,A,q,F,_,D,ht⟩
 .omega
 .have f:g<w:=by
   by_cases f:g<w
   .exact f
   .rw[V4 O] at q;cases q
  refine⟨g,cap,y,A,f,fun j u o=>?_⟩;have C:Zr (g,0) j=(g,j):=by
   unfold Zr;split
   .subst_vars;rfl
   .simp
  have z:j<n:=by have G:=h.1;have:=(List.getElem?_eq_some_iff.1 o).1;omega
  have c:t[j]?=U u:=by rw[<- ht,List.getElem?_take,Uz O] at o;simpa using o
  rw[C];simp[Vk,q,c]
theorem Sq(w:UF):UI prog 46 #[] w fun e w'=>∃ v,e=UW v/\w'.ownsRow w 9 1 v 25 (nm.map UQ)/\UH w w w':=by
 obtain⟨i0,hi,z,y,t⟩:=info_parts qm;go_in;go_wp2_with fail;obtain⟨W,K⟩:∃ W,W=w.alloc (UX #[UQ ⟨#[116,104,105,110,103,32,78,65,77,69,32,85,78,73,84,83]⟩,UQ ⟨#[98,111,111,107,32,78,65,77,69,32,85,78,73,84,83,32,84,73,77,69,32,84,73,77,69]⟩,UQ ⟨#[104,111,108,100,32,78,65,77,69,32,85,78,73,84,83,32,84,73,77,69,32,84,73,77,69,32,77,73,78,85,84,69,83]⟩,UQ ⟨#[119,97,105,116,32,78,65,77,69,32,85,78,73,84,83,32,84,73,77,69,32,84,73,77,69,32,77,73,78,85,84,69,83]⟩,UQ ⟨#[99,111,110,102,105,114,109,32,73,68]⟩,UQ ⟨#[99,97,110,99,101,108,32,73,68]⟩,UQ ⟨#[108,105,115,116,32,78,65,77,69]⟩,UQ ⟨#[108,105,115,116,32,78,65,77,69,32,84,73,77,69,32,84,73,77,69]⟩,UQ ⟨#[119,97,105,116,105,110,103]⟩,UQ ⟨#[112,101,97,107,32,78,65,77,69,32,84,73,77,69,32,84,73,77,69]⟩,UQ ⟨#[102,105,110,100,32,78,65,77,69,32,85,78,73,84,83,32,77,73,78,85,84,69,83,32,84,73,77,69,32,84,73,77,69]⟩,UQ ⟨#[116,105,99,107,32,77,73,78,85,84,69,83]⟩,UQ ⟨#[99,108,111,99,107]⟩] 9):=⟨_,rfl⟩;rw[<- K];have hB:UH w w W:=by rw[K];exact (zr _ _).alloc (zq _) _
 have q:W.ownsRow w 9 1 (UO w 13 13) 13 (xC.map UQ):=by refine⟨rfl,.inr ⟨w,13,#[UQ ⟨#[116,104,105,110,103,32,78,65,77,69,32,85,78,73,84,83]⟩,UQ ⟨#[98,111,111,107,32,78,65,77,69,32,85,78,73,84,83,32,84,73,77,69,32,84,73,77,69]⟩,UQ ⟨#[104,111,108,100,32,78,65,77,69,32,85,78,73,84,83,32,84,73,77,69,32,84,73,77,69,32,77,73,78,85,84,69,83]⟩,UQ ⟨#[119,97,105,116,32,78,65,77,69,32,85,78,73,84,83,32,84,73,77,69,32,84,73,77,69,32,77,73,78,85,84,69,83]⟩,UQ ⟨#[99,111,110,102,105,114,109,32,73,68]⟩,UQ ⟨#[99,97,110,99,101,108,32,73,68]⟩,UQ ⟨#[108,105,115,116,32,78,65,77,69]⟩,UQ ⟨#[108,105,115,116,32,78,65,77,69,32,84,73,77,69,32,84,73,77,69]⟩,UQ ⟨#[119,97,105,116,105,110,103]⟩,UQ ⟨#[112,101,97,107,32,78,65,77,69,32,84,73,77,69,32,84,73,77,69]⟩,UQ ⟨#[102,105,110,100,32,78,65,77,69,32,85,78,73,84,83,32,77,73,78,85,84,69,83,32,84,73,77,69,32,84,73,77,69]⟩,UQ ⟨#[116,105,99,107,32,77,73,78,85,84,69,83]⟩,UQ ⟨#[99,108,111,99,107]⟩],rfl,UY _,?_,UY _,by decide,rfl,rfl⟩⟩;rw[K];exact heap_alloc_new w _
 clear K;refine (IQ _ W Uj).mono ?_;rintro e w1 ⟨v1,rfl,o1,b1⟩;obtain⟨g1,I,rfl,ad,ab,S⟩:=vK o1 O;have a:=nR q b1;have G:=hB.trans (b1.mono hB.size);have D:=G.size;clear o1 q hB;go_wp2_with (first
  |(at_builtin;refine wpList_append_own _ rfl _ _ 78 rfl w 9 i0 (UQ ⟨#[]⟩) 1 16 underlying78 hi z y t rfl Uj _ 13 (xC.map UQ) rfl a (g1,0) 6 I ((nu xy 6).map UQ) rfl rfl ?c1 ?c2 ?c3 ?c4 ?c5 ?_))
 case c1=>exact S
 case c2=>intro u A;simp only[VQ] at A;obtain⟨x,_,rfl⟩:=A;rfl
 case c3=>decide
 case c4=>decide
 case c5=>exact D
 intro v2 w2 o f _;have F:=G.grown f D (fun k P=>lI a P);have T:=F.size;clear f a;go_wp2_with fail;refine (IQ _ w2 Uj).mono ?_;rintro e w3 ⟨v3,rfl,o3,b3⟩;obtain⟨g3,H,rfl,ac,aa,R⟩:=vK o3 O;have j:=nR o b3;have E:=F.trans (b3.mono T);have C:=E.size;clear o3 o;go_wp2_with (first
  |(at_builtin;refine wpList_append_own _ rfl _ _ 78 rfl w 9 i0 (UQ ⟨#[]⟩) 1 16 underlying78 hi z y t rfl Uj v2 (13+6) (xC.map UQ++(nu xy 6).map UQ) rfl j (g3,0) 6 H ((nu zG 6).map UQ) rfl rfl ?c1 ?c2 ?c3 ?c4 ?c5 ?_))
 case c1=>exact R
 case c2=>intro u A;simp only[VQ] at A;obtain⟨x,_,rfl⟩:=A;rfl
 case c3=>decide
 case c4=>decide
 case c5=>exact C
 intro v4 w4 h c _;have X:=E.grown c C (fun k P=>lI j P);have HO:Hid (w4.ownsRow w 9 1 v4 25 (nm.map UQ)):=by show w4.ownsRow _ _ _ _ _ _;rw[nm,VU,VU];exact h
 clear h c;go_wp2;go_ret;exact⟨v4,rfl,HO,X⟩
def pre:J Us->J Us->M
 |s :: p,w :: ws=>if bG s w then pre p ws+1 else 0
 |_,_=>0
theorem uB:∀ (p ws:J Us),pre p ws<=p.length/\pre p ws<=ws.length
 |[],_=>by simp[pre]
 |_ :: _,[]=>by simp[pre]
 |s :: p,w :: ws=>by unfold pre;have:=uB p ws;split <;> simp <;> omega
theorem Ad:∀ (p ws:J Us)(n:M)(c:n<p.length)(a:n<ws.length),n<pre p ws->bG p[n] ws[n]=UE
 |[],_,_,c,_,_=>by grind
 |_ :: _,[],_,_,a,_=>by grind
 |s :: p,w :: ws,0,_,_,h=>by unfold pre at h;split at h;assumption;omega
 |s :: p,w :: ws,n+1,c,a,h=>by unfold pre at h;split at h;exact Ad p ws n Uo Uo O;omega
theorem Ip:∀ (p ws:J Us)(n:M)(f:n<p.length)(c:n<ws.length),n=pre p ws->bG p[n] ws[n]=UD
 |[],_,_,f,_,_=>by grind
 |_ :: _,[],_,_,c,_=>by grind
 |s :: p,w :: ws,0,_,_,h=>by
  unfold pre at h
  cases a:bG s w
  .exact a
  .rw[Uz a] at h;omega
 |s :: p,w :: ws,n+1,f,c,h=>by unfold pre at h;split at h;exact Ip p ws n Uo Uo O;omega
theorem QC(f:n<p.length)(c:n<ws.length)(h:n<=pre p ws)(a:bG p[n] ws[n]=UE):n+1<=pre p ws:=by by_cases e:n=pre p ws;have:=Ip p ws n f c e;rw[a] at this;cases this;omega
theorem QB(f:n<p.length)(c:n<ws.length)(h:n<=pre p ws)(a:bG p[n] ws[n]=UD):n=pre p ws:=by by_cases e:n=pre p ws;exact e;have:=Ad p ws n f c O;rw[a] at this;cases this
def scan:J (J Us)->J Us->M->Uu (J Us) × M
 |[],_,m=>(Z,m)
 |p :: ps,ws,m=>if pre p ws=p.length/\pre p ws=ws.length then (U p,0) else scan ps ws (if m<pre p ws then pre p ws else m)
def py:J (J Us):=nm.map Txt.aC
theorem Rg:py.length=25:=by simp[py,nm,xC,nu]
def kH(s:Us):Uu (J Us) × M:=scan py (Txt.aC s) 0
theorem IY:∀ x∈nm,x.size<=160:=by
 intro x f;have c:∀ a k,(xD xy a k).size<=160/\(xD zG a k).size<=160:=fun a k=>by have q:=IC a;have o:=Ii k;have h:GM.size=33:=Uj;have z:xy.size=17:=Uj;have y:zG.size=6:=Uj;have t:(⟨#[32]⟩:Us).size=1:=Uj;unfold xD;simp only[Zm];omega
 unfold nm nu at f;simp only[Vb,VQ] at f;rcases f with (f|⟨j,_,rfl⟩)|⟨j,_,rfl⟩
 .revert x;decide
 .exact (c _ _).1
 .exact (c _ _).2
theorem C9(s:Us):(Txt.aC s).length<=s.size+1:=by rw[Txt.El,VA];have:=Txt.xZ s s.size;split <;> simp <;> omega
structure Row(w:UF)(a:Uu UJ)(g:M)(xs:J Us):Prop where
 at_:0<xs.length->a=U ⟨g,0,Z⟩
 cells:∀ (j:M) (h:j<xs.length),w.cell? (g,j)=U (UQ xs[j])
theorem Row.later{a:Uu UJ}{xs:J Us}(h:Row w a g xs)(f:UH w w wx):Row wx a g xs :=⟨h.at_,fun j c=>cell_later f (h.cells j c)⟩
theorem xK{f:M}{xs:J Us}(h:w.ownsRow f 9 1 v n (xs.map UQ))(t:n=xs.length):∃ a cap g,v=UO a xs.length cap/\Row w a g xs:=by
 subst t;by_cases q:0<xs.length
 .let⟨g,cap,o,_,_,hc⟩:=vK h q;refine⟨U ⟨g,0,Z⟩,cap,g,o,fun _=>rfl,fun j c=>?_⟩;have:=hc j (UQ xs[j]) (by simp[c])
  have y:Zr (g,0) j=(g,j):=by
   unfold Zr;split
   .subst_vars;rfl
   .simp
  rwa [y] at this
 .rcases h.2 with ⟨o,A⟩|⟨g,cap,z,o,_⟩
  .exact⟨Z,0,0,by grind,fun h=>UA h q,fun j c=>UA c O⟩
  .exact⟨_,cap,g,o,fun h=>UA h q,fun j c=>UA c O⟩
def DJ:UG->M
 |.bool UE=>1
 |_=>0
theorem Rr{s:Us}{q:J Us}(f:k<nm.length)(a:q=Txt.aC nm[k])(h:kH s=scan (py.drop k) (Txt.aC s) mm):kH s=if pre q (Txt.aC s)=q.length/\pre q (Txt.aC s)=(Txt.aC s).length then (U q,0) else scan (py.drop (k+1)) (Txt.aC s) (if mm<pre q (Txt.aC s) then pre q (Txt.aC s) else mm):=by
 have c:k<py.length:=by unfold py;simpa using f
 rw[h,Wh c];have e:py[k]=q:=by rw[a];exact List.getElem_map ..
 rw[e,scan]
theorem QF{s:Us}(a:25<=k)(h:kH s=scan (py.drop k) (Txt.aC s) mm):kH s=(Z,mm):=by rw[h,List.drop_of_length_le (by rw[Rg];exact a)];rfl
def RR(s:Us)(w':UF)(e:Ending):Prop :=
 (∃ (p:J Us) (a b:Uu UJ) (c d g h:M),kH s=(U p,0)/\e=UW (.tuple #[UO a (Txt.aC s).length c,UO b p.length d,V Y 0,V Y 0])/\Row w' a g (Txt.aC s)/\Row w' b h p) \/
 (∃ m:M,kH s=(Z,m)/\e=UW (.tuple #[(),(),V Y 2,V Y m]))
theorem De(s:Us)(w:UF)(hs:s.size<=160):UI prog 28 #[s] w fun e w'=>RR s w' e/\UH w w w':=by
 have ao:=C9 s;have aq:(s.size:N)<=160:=O;go_in;go_wp21;refine (IL s w hs).mono ?_;rintro e w1 ⟨v1,rfl,o1,b1⟩;obtain⟨aw,cw,gw,rfl,T⟩:=xK o1 rfl;go_wp21;refine (Sq w1).mono ?_;rintro e w2 ⟨v2,rfl,o2,b2⟩;obtain⟨ap,cp,gp,rfl,F⟩:=xK o2 Uj;have S:=T.later b2;have af:=b1.trans (b2.mono b1.size);clear o1 o2 T b1 b2;obtain rfl:=F.at_ Uj;rw[show nm.length=25 from by decide];go_wp2;go_loopw [8,9,10,11,12] (fun m i _ _ _ wx=>∃ k mm:M,k<=25/\mm<=161/\i=V Y k/\m=V Y mm/\kH s=scan (py.drop k) (Txt.aC s) mm/\Row wx aw gw (Txt.aC s)/\Row wx gp gp nm/\UH w w wx) (fun _ i _ _ _ _=>25-(intOf i).toNat)
 .exact⟨0,0,O,O,rfl,rfl,rfl,S,F,af⟩
 .obtain⟨k,mm,hk,au,rfl,rfl,ac,rw,rp,A⟩:=hrel;have ag:=hide ac;clear ac S F af
  by_cases aj:k<25
  .have hi:(k:N)<25:=O
   have z:k<nm.length:=by rw[show nm.length=25 from by decide];exact aj
   have hc:=rp.cells k z;go_wp21;refine (IL _ _ (IY _ (zg z))).mono ?_;rintro e w3 ⟨v3,rfl,o3,b3⟩;obtain⟨ax,cx,gx,rfl,rx⟩:=xK o3 rfl;have R:=rw.later b3;have aa:=rp.later b3;have C:=A.trans (b3.mono A.size);obtain⟨q,hq⟩:∃ q,q=Txt.aC nm[k]:=⟨_,rfl⟩;rw[<- hq] at rx ⊢;have HQ:=hide hq;have ar:q.length<=161:=by rw[hq];have:=C9 nm[k];have:=IY _ (zg z);omega
   clear hq o3 rw rp A b3 hc;go_wp2;go_loopw [11,12] (fun n mo wx=>∃ (n':M) (a:Uv),n=V Y n'/\mo=UR a/\n'<=pre q (Txt.aC s)/\(a=UD->n'=pre q (Txt.aC s))/\Row wx aw gw (Txt.aC s)/\Row wx gp gp nm/\Row wx ax gx q/\UH w w wx) (fun n mo _=>DJ mo+(q.length-(intOf n).toNat))
   .exact⟨0,UE,rfl,rfl,VM _,fun h=>UA h Uj,R,aa,rx,C⟩
   .obtain⟨n',a,rfl,rfl,hn,ae,o,E,y,t⟩:=hrel;have an:=uB q (Txt.aC s)
    have H:(a=UE/\n'<q.length/\n'<(Txt.aC s).length)\/a=UD\/(a=UE/\¬ n'<q.length)\/(a=UE/\n'<q.length/\¬ n'<(Txt.aC s).length):=by
     cases a
     .simp
     .simp;omega
    have al:=hide ae;clear ae R aa rx C;rcases H with ⟨rfl,h1,h2⟩|G
    .obtain rfl:=y.at_ O;obtain rfl:=o.at_ O;have c1:=y.cells n' h1;have c2:=o.cells n' h2;have j1:(n':N)<(q.length:N):=O
     have j2:(n':N)<((Txt.aC s).length:N):=O;have j0:(0:N)<=(n':N):=Yz _;have ab:(Txt.aC s)[n'].size<=160:=U0 (ya s _ (zg h2)) hs;have ak:=hide ab;clear ab;go_wp21;go_region_held3 (fun w'=>w'.cell? (gx,n')=U (UQ q[n'])/\w'.cell? (gw,n')=U (UQ (Txt.aC s)[n']))
      (first
       |go_keep
       |(
        go_split_ands;refine⟨?_,?_⟩
        .exact cell_later f Uk
        .exact cell_later f Uk))
      ((go_at_call 47;refine aK (Qr _ _ _ (aO ak)) fun w4 f=>?_))
     have j:UH wr wr w4:=⟨f.os,f.tape,f.output,f.size,f.block⟩;have D:=t.trans (j.mono t.size);have P:=o.later j;have X:=E.later j;have K:=y.later j
     cases hf:bG q[n'] (Txt.aC s)[n']
     .have HP:=hide (QB h1 h2 hn hf);go_wp2;exact⟨⟨n',UD,rfl,rfl,hn,fun _=>aO HP,P,X,K,D⟩,by simp[DJ,intOf]⟩
     .have HP:=hide (QC h1 h2 hn hf);go_wp2;exact⟨⟨n'+1,UE,by go_num,rfl,aO HP,fun h=>UA h Uj,P,X,K,D⟩,by simp[DJ,intOf];omega⟩
    .have ad:n'=pre q (Txt.aC s):=by
      rcases G with h|⟨_,h⟩|⟨_,_,h⟩
      .exact aO al h
      .omega
      .omega
     have I:=hide (Rr z (aO HQ) (aO ag));rw[<- ad] at I;clear ad;by_cases c:n'=q.length/\n'=(Txt.aC s).length
     .obtain⟨f1,f2⟩:=c;have HR:Hid (kH s=(U q,0)):=(aO I).trans (Uz ⟨f1,f2⟩);have g1:((n':N)==(q.length:N))=UE:=beq_iff_eq.2 O;have g2:((n':N)==((Txt.aC s).length:N))=UE:=beq_iff_eq.2 O;have F1:=hide f1;have F2:=hide f2;clear f1 f2;rcases G with rfl|⟨rfl,hx⟩|⟨rfl,hx,hy⟩
      all_goals go_wp2;(try simp only[V7,Exit.then]);refine bodyPost_ret (oW rfl _ _ _) rfl ?_;exact⟨.inl ⟨q,aw,ax,cw,cx,gw,gx,HR,rfl,o,y⟩,t⟩
     .have HR:Hid (kH s=scan (py.drop (k+1)) (Txt.aC s) (if mm<n' then n' else mm)):=(aO I).trans (Uy c)
      have hg:((n':N)==(q.length:N))=UD\/(((n':N)==(q.length:N))=UE/\((n':N)==((Txt.aC s).length:N))=UD):=by
       by_cases e:n'=q.length
       .right;exact⟨beq_iff_eq.2 O,beq_eq_false_iff_ne.2 O⟩
       .left;exact beq_eq_false_iff_ne.2 O
      clear c;have ai:mm<n'\/¬ mm<n':=O;rcases G with rfl|⟨rfl,hx⟩|⟨rfl,hx,hy⟩;all_goals rcases hg with g1|⟨g1,g2⟩
      all_goals rcases ai with hm|hm
      all_goals
       go_wp2;first
        |exact⟨⟨k+1,n',O,O,by go_num,rfl,HR.trans (by rw[Uz hm]),o,E,t⟩,by simp[intOf];omega⟩
        |exact⟨⟨k+1,mm,O,O,by go_num,rfl,HR.trans (by rw[Uy hm]),o,E,t⟩,by simp[intOf];omega⟩
  .have HE:=hide (QF O (aO ag));go_wp2
   (try simp only[V7,Exit.then]);refine bodyPost_ret (oW rfl _ _ _) rfl ?_;exact⟨.inr ⟨mm,aO HE,rfl⟩,A⟩
theorem zX{a b:Us}(h:a=b):Ending.returned a=UW b:=by rw[h]
def GV:UG->M
 |.string s=>s.size
 |_=>0
theorem H6(j:M)(t:Us):(⟨#[48]⟩:Us)++Txt.pz j t=Txt.pz (j+1) t:=by apply Txt.nT;rw[Txt.qI,Txt.Aa,Txt.Aa,List.replicate_succ];rfl
theorem xx(n:N)(size:M)(w:UF)(o:Env w)(C:0<=n)(A:n<=9999999)(I:size<=9):UI prog 51 #[n,V Y size] w fun e w'=>e=UW (Txt.jU n size)/\UH w w w':=by
 have H:=Txt.BE n C A;have F:=hide o;clear o;go_in;go_wp21;refine aK (Dv n w (aO F) O O) fun w1 f=>?_;go_wp2;go_loop [5] (fun t=>∃ j:M,j<=size-(Txt.bE n).size/\t=UQ (Txt.pz j (Txt.bE n))) (fun t=>size-GV t)
 .exact⟨0,VM _,rfl⟩
 .obtain⟨j,K,rfl⟩:=hrel;have a:=Txt.Ab j (Txt.bE n);have y:=hide a;have G:(Txt.pz j (Txt.bE n)).size<=20:=O
  clear a;by_cases z:(Txt.pz j (Txt.bE n)).size<size
  .have c:((Txt.pz j (Txt.bE n)).size:N)<(size:N):=O
   have D:=hide (H6 j (Txt.bE n));have h:Hid (((⟨#[48]⟩:Us)++Txt.pz j (Txt.bE n)).size=1+(Txt.pz j (Txt.bE n)).size):=Zm;go_wp2;go_round
   .exact⟨j+1,by have:=aO y;omega,by rw[aO D]⟩
   .have q:=aO h;show size-((⟨#[48]⟩:Us)++Txt.pz j (Txt.bE n)).size<size-(Txt.pz j (Txt.bE n)).size;omega
  .have c:¬ ((Txt.pz j (Txt.bE n)).size:N)<(size:N):=O
   have E:Hid (Txt.jU n size=Txt.pz j (Txt.bE n)):=by show Txt.jU n size=_;unfold Txt.jU;rw[show size-(Txt.bE n).size=j from by have:=aO y;omega]
   go_wp2;go_ret;exact⟨zX (by rw[E]),f⟩
theorem nz(n:N)(w:UF)(c:Env w)(h:-9223372036854775808<=n)(f:n<=9223372036854775807):UI prog 289 #[n] w fun e w'=>e=UW (Txt.bE n)/\UH w w w':=by
 have j:=hide c;clear c;go_in;go_wp21;refine aK (Dv n w (aO j) h f) fun w1 a=>?_;go_wp2;go_ret;exact⟨rfl,a⟩
theorem xR(n:N)(size:M)(w:UF)(o:Env w)(C:0<=n)(A:n<=9999999)(I:size<=9):UI prog 295 #[n,V Y size] w fun e w'=>e=UW (Txt.jU n size)/\UH w w w':=by
 have H:=Txt.BE n C A;have F:=hide o;clear o;go_in;go_wp21;refine aK (nz n w (aO F) O O) fun w1 f=>?_;go_wp2;go_loop [5] (fun t=>∃ j:M,j<=size-(Txt.bE n).size/\t=UQ (Txt.pz j (Txt.bE n))) (fun t=>size-GV t)
 .exact⟨0,VM _,rfl⟩
 .obtain⟨j,K,rfl⟩:=hrel;have a:=Txt.Ab j (Txt.bE n);have y:=hide a;have G:(Txt.pz j (Txt.bE n)).size<=20:=O
  clear a;by_cases z:(Txt.pz j (Txt.bE n)).size<size
  .have c:((Txt.pz j (Txt.bE n)).size:N)<(size:N):=O
   have D:=hide (H6 j (Txt.bE n));have h:Hid (((⟨#[48]⟩:Us)++Txt.pz j (Txt.bE n)).size=1+(Txt.pz j (Txt.bE n)).size):=Zm;go_wp2;go_round
   .exact⟨j+1,by have:=aO y;omega,by rw[aO D]⟩
   .have q:=aO h;show size-((⟨#[48]⟩:Us)++Txt.pz j (Txt.bE n)).size<size-(Txt.pz j (Txt.bE n)).size;omega
  .have c:¬ ((Txt.pz j (Txt.bE n)).size:N)<(size:N):=O
   have E:Hid (Txt.jU n size=Txt.pz j (Txt.bE n)):=by show Txt.jU n size=_;unfold Txt.jU;rw[show size-(Txt.bE n).size=j from by have:=aO y;omega]
   go_wp2;go_ret;exact⟨zX (by rw[E]),f⟩
def vF(y m d:N):Us:=Txt.jU y 4++⟨#[45]⟩++Txt.jU m 2++⟨#[45]⟩++Txt.jU d 2
def jg(n:N):Us:=Txt.jU (n / 60) 2++⟨#[58]⟩++Txt.jU (n % 60) 2
theorem Dh(n:N)(w:UF)(h:Env w)(y:0<=n)(t:n<1440):UI prog 294 #[n] w fun e w'=>e=UW (jg n)/\UH w w w':=by
 have j:=hide h;have q:=Txt.nO (n / 60) 2 O O;have o:=Txt.nO (n % 60) 2 O O;clear h;go_in;go_wp21;refine aK (xR (n / 60) 2 w (aO j) O O O) fun w1 a=>?_;go_wp21;refine aK (xR (n % 60) 2 w1 ((aO j).later a) O O O) fun w2 f=>?_;have c:=a.trans (f.mono a.size);go_wp2;go_ret;exact⟨rfl,c⟩
theorem Sk(n:N)(w:UF)(z:Env w)(C:-738885<=n)(A:n<=2913173):UI prog 293 #[n] w fun e w'=>(∃ y m d,e=UW (vF y m d)/\Cal.ok y m d=UE/\Cal.num y m d=n)/\UH w w w':=by
 have o:=hide z;clear z;go_in;go_wp21;refine (D7 n w (aO o).jH C A).mono ?_;rintro e w1 ⟨y,m,d,rfl,f,c,rfl⟩;have D:=hide f;have E:=hide c;let⟨y1,y2,m1,m2,d1,d2⟩:=(Cal.jx y m d).1 f;have I:=Cal.pL y m;have H:=Txt.nO y 4 O O;have G:=Txt.nO m 2 O O;have F:=Txt.nO d 2 O O;clear f c;go_wp21;refine aK (xR y 4 _ (aO o) O O O) fun w2 h=>?_;go_wp21;refine aK (xR m 2 _ ((aO o).later h) O O O) fun w3 t=>?_;have a:=h.trans (t.mono h.size);go_wp21;refine aK (xR d 2 _ ((aO o).later a) O O O) fun w4 q=>?_;have j:=a.trans (q.mono a.size);go_wp2;go_ret;exact⟨⟨y,m,d,rfl,aO D,aO E⟩,j⟩
end Go.Proofs.YtolaacmheeaadaaGreatDoor
