import Derived.Test.YtolaacmheeaadaaGreatDoorL07
import Derived.Shelf.RegionOpen
import Derived.RangeFuncCalls
set_option maxRecDepth 100000
set_option maxHeartbeats 8000000
open Go.Proofs.Tryz
open _root_ renaming ByteArray->Xm,List->Xn,Option->Xo,Bool->Xp,Nat->Xq,Int->Xr,if_neg->Xs,if_pos->Xt,absurd->Xu,Int->N,Nat->M,List->J
open Option renaming none->Xv,some->Xw,mem_toList->Zl,none->Z,some->U
open Bool renaming false->Xx,true->Xy,and_eq_true->Zr
open Go renaming World->Xz,Value->XA,Calls->XD,Addr->XE
open Go.RowKit renaming Below->XC
open Go.World renaming cell?->Yh,block_lt_of_cell?->XV,news_of_block->Ze,size_alloc->Zm
open And renaming intro->Yc
open Nat renaming le_trans->XU,zero_le->YJ,le_refl->XS
open List renaming length_append->Yx,flatMap_append->YV,mem_append->X8,pairwise_append->ZT,length_map->Zd,length_filter_le->Zi,mem_filter->ZW,getElem?_eq_getElem->Zu,map_append->YS,take_succ_eq_append_getElem->YI,getElem?_append_right->YX,drop_eq_getElem_cons->Zg,any_eq_true->ZY,length_cons->Yy,length_nil->YC,cons_append->Yj,append_assoc->Y8,mem_map->YN
open Go.Value renaming ownBlock->Y9,oneCell'->Zf,slice->XI,string->XJ,int->XG,pointer->XH,bool->XK,agg->XM,iface->XN,int->V
open Array renaming getElem?_eq_none->Y4
open Go.Exit renaming inBlock->Y7
open Go.IntKind renaming i64->XP,i64->Y
open Go.Ending renaming returned->XQ
open Go.Obj renaming cells->XR
variable{name x:Xm}{e:Go.Proofs.YtolaacmheeaadaaGreatDoor.aA.aQ}{ev' fr mi mn pc pc' ti ti' til u un un':Xr}{l tl:Xn (Go.Proofs.YtolaacmheeaadaaGreatDoor.aA.aQ × Go.Value)}{L:Xn (Xr × Xr)}{p ws:Xn Xm}{acc acc':Xn Xr}{xs:Xn Go.Value}{B Q b c1 cap d g i k m mm n n₀:Xq}{s' st:Xq × Xp}{aM:Xq->Xo Go.Proofs.YtolaacmheeaadaaGreatDoor.bO}{a1:Xo Go.Addr}{r rw_:Go.Proofs.YtolaacmheeaadaaGreatDoor.Raw}{s:Go.Proofs.YtolaacmheeaadaaGreatDoor.aA.St}{v v':Go.Value}{W W' w w' w1 w2 w3 wx:Go.World}
namespace Go.Proofs.YtolaacmheeaadaaGreatDoor
open Go.RowKit
open aA (aQ St eD kept fc ek ec jw dB dI jC eS jr cA Inv)
def lu:Obj:=XR #[V Y 0,V Y 0,ByteArray.empty,V Y 0,(),V Y 0] 85 (0,0)
def ry(e:aQ)(v:XA):XA:=XM #[e.id,e.kind,e.bH,e.aN,v,e.bZ]
def vQ(h:Xz)(Q:M)(a b c d e f:XA):Xz:=(((((h.setCell (Q,0) a).setCell (Q,1) b).setCell (Q,2) c).setCell (Q,3) d).setCell (Q,4) e).setCell (Q,5) f
theorem Kh(h:Xz)(Q:M)(a b c d e f:XA):aH [Q] h (vQ h Q a b c d e f) :=((((((aH.refl [Q] h).setCell (.inl Xc) _ _).setCell (.inl Xc) _ _).setCell (.inl Xc) _ _).setCell (.inl Xc) _ _).setCell (.inl Xc) _ _).setCell (.inl Xc) _ _
def El(w:Xz)(e:aQ)(v:XA)(w':Xz):Prop:=∃ sp,v=ry e sp/\w'.ownsRow w 83 2 sp e.aR.length (e.aR.flatMap ia)/\XC w w w'
theorem SI(h:w.heap[Q]?=U lu):w.cell? (Q,0)=U (V Y 0):=by unfold lu at h;simp only[Yh,h];rfl
theorem SJ(h:w.heap[Q]?=U lu):w.cell? (Q,1)=U (V Y 0):=by unfold lu at h;simp only[Yh,h];rfl
theorem SM(h:w.heap[Q]?=U lu):w.cell? (Q,2)=U ↑ByteArray.empty:=by unfold lu at h;simp only[Yh,h];rfl
theorem SN(h:w.heap[Q]?=U lu):w.cell? (Q,3)=U (V Y 0):=by unfold lu at h;simp only[Yh,h];rfl
theorem SQ(h:w.heap[Q]?=U lu):w.cell? (Q,4)=U ↑():=by unfold lu at h;simp only[Yh,h];rfl
theorem SU(h:w.heap[Q]?=U lu):w.cell? (Q,5)=U (V Y 0):=by unfold lu at h;simp only[Yh,h];rfl
theorem SX(h:w.heap[Q]?=U lu):∀ o,w.frozen? ⟨Q,o,Z⟩=Xx:=fun o=>frozen_of_row _ Q o _ _ h
theorem Va(w:Xz)(g:EG)(h:kv w g)(hn:w.cell? ⟨g.tb,0,Z⟩=U (XJ g.e.bH))(hL:g.e.aR.length<=100):XD prog 157 #[XH (U ⟨g.eb,0,Z⟩)] w fun e w'=>∃ v,e=XQ v/\El w g.e v w':=by
 have K:XC w.heap.size w (w.alloc lu):=(zr _ _).alloc (zq _) _;have hq:=dH w lu;have y:=h.off (G:=[]) (aH.aD K) Xc Xc;have c0:=y.en.c0;have c1:=y.k;have c2:=y.en.c1;have T:=y.en.c2;have S:=y.en.c3;have R:=y.u;have P:=aT K hn;have CL:=aB (b4C (w.alloc lu).drew g.B g.cap g.e.aR (y.en.sl.off (G:=[]) (aH.aD (eN _)) Xc) hL);have H:=aB (Yc K hq);have q:g.eb≠w.heap.size/\g.tb≠w.heap.size:=⟨by have:=h.lt;omega,by have z:g.tb<w.heap.size:=XV _ _ hn;omega⟩;go_in;go_upto_region 1 with fail;change Code.wp _ _ _ _ (w.alloc lu);have I:w.heap.size<(w.alloc lu).heap.size:=Xc;generalize w.alloc lu=X at *;have AC:Hid (∀ w2,XC X.drew.heap.size X.drew w2->w2.cell? ⟨g.eb,0,Z⟩=U (V Y g.e.id)/\w2.cell? ⟨g.eb,1,Z⟩=U (V Y g.e.kind)/\w2.cell? ⟨g.eb,2,Z⟩=U (XH (U ⟨g.tb,0,Z⟩))/\w2.cell? ⟨g.eb,3,Z⟩=U (V Y g.e.aN)/\w2.cell? ⟨g.eb,4,Z⟩=U (XI (U ⟨g.B,0,Z⟩) g.e.aR.length g.cap)/\w2.cell? ⟨g.eb,5,Z⟩=U (V Y g.e.bZ)/\w2.cell? ⟨g.tb,0,Z⟩=U (XJ g.e.bH)):=fun w2 k=>⟨aT k c0,aT k c1,aT k c2,aT k T,aT k S,aT k R,aT k P⟩;have AQ:Hid (∀ w2,XC X.drew.heap.size X.drew w2->w2.heap[w.heap.size]?=U lu):=fun w2 k=>(k.block _ I).trans H.out.2;have AS:Hid (∀ w2 a b c d e f,XC X.drew.heap.size X.drew w2->((((((w2.setCell ⟨w.heap.size,0,Z⟩ a).setCell ⟨w.heap.size,1,Z⟩ b).setCell ⟨w.heap.size,2,Z⟩ c).setCell ⟨w.heap.size,3,Z⟩ d).setCell ⟨w.heap.size,4,Z⟩ e).setCell ⟨w.heap.size,5,Z⟩ f).cell? ⟨g.eb,0,Z⟩=U (V Y g.e.id)/\((((((w2.setCell ⟨w.heap.size,0,Z⟩ a).setCell ⟨w.heap.size,1,Z⟩ b).setCell ⟨w.heap.size,2,Z⟩ c).setCell ⟨w.heap.size,3,Z⟩ d).setCell ⟨w.heap.size,4,Z⟩ e).setCell ⟨w.heap.size,5,Z⟩ f).cell? ⟨g.eb,1,Z⟩=U (V Y g.e.kind)/\((((((w2.setCell ⟨w.heap.size,0,Z⟩ a).setCell ⟨w.heap.size,1,Z⟩ b).setCell ⟨w.heap.size,2,Z⟩ c).setCell ⟨w.heap.size,3,Z⟩ d).setCell ⟨w.heap.size,4,Z⟩ e).setCell ⟨w.heap.size,5,Z⟩ f).cell? ⟨g.eb,2,Z⟩=U (XH (U ⟨g.tb,0,Z⟩))/\((((((w2.setCell ⟨w.heap.size,0,Z⟩ a).setCell ⟨w.heap.size,1,Z⟩ b).setCell ⟨w.heap.size,2,Z⟩ c).setCell ⟨w.heap.size,3,Z⟩ d).setCell ⟨w.heap.size,4,Z⟩ e).setCell ⟨w.heap.size,5,Z⟩ f).cell? ⟨g.eb,3,Z⟩=U (V Y g.e.aN)/\((((((w2.setCell ⟨w.heap.size,0,Z⟩ a).setCell ⟨w.heap.size,1,Z⟩ b).setCell ⟨w.heap.size,2,Z⟩ c).setCell ⟨w.heap.size,3,Z⟩ d).setCell ⟨w.heap.size,4,Z⟩ e).setCell ⟨w.heap.size,5,Z⟩ f).cell? ⟨g.eb,4,Z⟩=U (XI (U ⟨g.B,0,Z⟩) g.e.aR.length g.cap)/\((((((w2.setCell ⟨w.heap.size,0,Z⟩ a).setCell ⟨w.heap.size,1,Z⟩ b).setCell ⟨w.heap.size,2,Z⟩ c).setCell ⟨w.heap.size,3,Z⟩ d).setCell ⟨w.heap.size,4,Z⟩ e).setCell ⟨w.heap.size,5,Z⟩ f).cell? ⟨g.eb,5,Z⟩=U (V Y g.e.bZ)/\((((((w2.setCell ⟨w.heap.size,0,Z⟩ a).setCell ⟨w.heap.size,1,Z⟩ b).setCell ⟨w.heap.size,2,Z⟩ c).setCell ⟨w.heap.size,3,Z⟩ d).setCell ⟨w.heap.size,4,Z⟩ e).setCell ⟨w.heap.size,5,Z⟩ f).cell? ⟨g.tb,0,Z⟩=U (XJ g.e.bH)):=fun w2 a b c d e f k=>by have o:=Kh w2 w.heap.size a b c d e f;obtain⟨k0,k1,k2,k3,k4,k5,k6⟩:=AC.out w2 k;exact⟨o.cell (bV q.1) k0,o.cell (bV q.1) k1,o.cell (bV q.1) k2,o.cell (bV q.1) k3,o.cell (bV q.1) k4,o.cell (bV q.1) k5,o.cell (bV q.2) k6⟩
 clear q;go_region_held3 (fun w'=>w'.cell? ⟨g.eb,0,Z⟩=U (V Y g.e.id)/\w'.cell? ⟨g.eb,1,Z⟩=U (V Y g.e.kind)/\w'.cell? ⟨g.eb,2,Z⟩=U (XH (U ⟨g.tb,0,Z⟩))/\w'.cell? ⟨g.eb,3,Z⟩=U (V Y g.e.aN)/\w'.cell? ⟨g.eb,4,Z⟩=U (XI (U ⟨g.B,0,Z⟩) g.e.aR.length g.cap)/\w'.cell? ⟨g.eb,5,Z⟩=U (V Y g.e.bZ)/\w'.cell? ⟨g.tb,0,Z⟩=U (XJ g.e.bH))
  (first
   |with_reducible exact AS.out _ _ _ _ _ _ _ t
   |with_reducible exact AC.out _ t
   |exact⟨c0,c1,c2,T,S,R,P⟩)
  (first
   |(go_at_call 197;refine CL.out.mono ?_;rintro e w2 ⟨v,rfl,E,t⟩;obtain⟨D,C,rfl⟩:=lz E;have j:=AQ.out w2 t;have q0:=SI j;have q1:=SJ j;have q2:=SM j;have q3:=SN j;have q4:=SQ j;have q5:=SU j;have fq:=SX j;clear j))
 have HF:Hid (El w g.e (ry g.e (XI D g.e.aR.length C)) (vQ w2 w.heap.size (V Y g.e.id) (V Y g.e.kind) (XJ g.e.bH) (V Y g.e.aN) (XI D g.e.aR.length C) (V Y g.e.bZ))):=by
  have A:=H.out.1.size;have k:=Kh w2 w.heap.size (V Y g.e.id) (V Y g.e.kind) (XJ g.e.bH) (V Y g.e.aN) (XI D g.e.aR.length C) (V Y g.e.bZ);have z:=H.out.1.drew.trans (t.mono A);refine⟨_,rfl,dL (Joins.ownsRow_le E A) k (fun b F y=>?_),?_⟩
  .have:=(E.lt b F).1;have e:b=w.heap.size:=List.mem_singleton.1 y;have aa:w.heap.size<X.drew.heap.size:=I;omega
  .exact⟨k.os.trans z.os,k.tape.trans z.tape,k.output.trans z.output,XU z.size k.size,fun b F=>(k.block b (zL F z.size) Xh).trans (z.block b F)⟩
 clear E t CL AC AQ AS c0 c1 c2 T S R P H I;go_wp2_with fail;exact bodyPost_ret (v:=ry g.e (XI D g.e.aR.length C)) (by simp[results,results157,go_sem,ry,q0,q1,q2,q3,q4,q5]) rfl ⟨_,rfl,HF.out⟩
theorem Kn:(prog.info? 85).map (fun i=>(i.zero,i.size,i.bytes))=U (U (XM #[V Y 0,V Y 0,ByteArray.empty,V Y 0,(),V Y 0]),6,72):=Xg
theorem iw.snoc(h:iw wx B aM v l){sp:XA}(A:w2.ownsRow wx 83 2 sp e.aR.length (e.aR.flatMap ia))(k:XC wx wx w2)(H:B<=wx)(D:∀ b,wx.heap.size<=b->aM b=Z)(C:aH v.ownBlock.toList w2 w3){c:M}(z:w3.ownsRow B 85 6 (XI c (l.length+1) cap) (l.length+1) (l.flatMap gv++gv (e,sp)))(t:v.ownBlock=U c\/w2<=c):iw w3 B aM (XI c (l.length+1) cap) (l++[(e,sp)]):=by
 have G:=k.size;refine⟨?_,fun b a=>?_,fun p o=>?_,?_⟩
 .rw[Yx,YV];have:[(e,sp)].flatMap gv=gv (e,sp):=Xc
  rw[this];exact z
 .have:c=b:=by simpa[Y9] using a
  subst this;rcases t with j|j
  .exact h.no c j
  .exact D c O
 .rcases X8.1 o with o|o
  .let⟨s1,s2⟩:=h.sp p o;refine⟨⟨dL (fH s1.own k) C (fun b a f=>s2 b a (Zl.1 f)),s1.no⟩,fun b a f=>?_⟩;have:c=b:=by simpa[Y9] using f
   subst this;rcases t with j|j
   .exact s2 c a j
   .have:=(s1.own.lt c a).2;omega
  .have:p=(e,sp):=List.mem_singleton.1 o;subst this;have y:∀ b,v.ownBlock=U b->b<wx:=fun b a=>(h.own.lt b a).2
   refine⟨⟨dL (Joins.ownsRow_le A H) C (fun b a f=>?_),fun b a=>D b (A.lt b a).1⟩,fun b a f=>?_⟩
   .have E:=(A.lt b a).1;have I:=y b (Zl.1 f);omega
   .have:c=b:=by simpa[Y9] using f
    subst this;have E:=A.lt c a;rcases t with j|j
    .have:=y c j;omega
    .omega
 .refine ZT.2 ⟨h.pw,List.pairwise_singleton _ _,fun p o q F b a f=>?_⟩;rw[List.mem_singleton.1 F] at f;have E:=(A.lt b f).1;have I:=((h.sp p o).1.own.lt b a).2;omega
theorem eH.kU(h:eH w d s r aM)(k:XC w w wx){g:EG}(a:g∈r.eg):XD prog 157 #[g.eb] wx fun e w'=>∃ v,e=XQ v/\El wx g.e v w':=by
 have f:=h.dk.later k;let⟨i,hi,e1,e2⟩:=h.of.tb g a;let⟨ul,us,Fl,Fs,t1,_⟩:=f.th i hi;have c:=t1.c0;rw[e1,<- e2] at c;exact Va wx g (f.en g a).1 c (by have:=(h.inv.en _ (h.of.mem a)).sl;omega)
def mq(g:EG):Xp:=g.e.kind==3
def WT(w wx:Xz)(r:Raw)(aM:M->Xo bO)(k:M)(v:XA):Prop:=∃ l,l.map (·.1)=((r.eg.filter mq).take k).map (·.e)/\iw wx w aM v l/\XC w w wx
theorem a8L(h:eH w d s r aM):XD prog 107 #[XH (U ⟨d,0,Z⟩)] w fun e w'=>∃ v,e=XQ v/\WT w w' r aM (r.eg.filter mq).length v:=by
 obtain⟨i0,af,ac,ab,aa⟩:=info_parts Kn;obtain⟨v4,c4,c,ag⟩:=h.dk.wa;have ad:r.wl.length=(r.eg.filter mq).length:=by rw[h.wl,Zd];rfl
 have al:(r.eg.filter mq).length<=60:=by
  have h1:=Zi mq r.eg;have C:=kS h.bA;have h3:r.eg.length=s.es.length:=by rw[<- h.of.es];simp
  omega
 rw[ad] at c;obtain⟨a,cap,rfl⟩:=lz c;have G0:Hid (WT w w r aM 0 (XI Z 0 0)):=⟨[],rfl,iw.nil _ _ _,Below.refl _ _⟩;have HH:=aB h;have O4:=aB c;clear h c ag;go_in;go_wp2_with fail;clear c4;go_loopw [3,5,11] (fun vg _ T wx=>∃ k:M,k<=(r.eg.filter mq).length/\T=V Y k/\WT w wx r aM k vg) (fun _ _ T _=>(r.eg.filter mq).length-(intOf T).toNat)
 case atStart=>exact⟨0,YJ _,rfl,G0.out⟩
 case round =>
  obtain⟨k,hk,rfl,l,E,X,j⟩:=hrel;by_cases z:k<(r.eg.filter mq).length
  .have F:(k:N)<((r.eg.filter mq).length:N):=O
   have hg:=(ZW.1 (zg z)).1;have D:l.length=k:=by have:=congrArg List.length E;rw[Zd,Zd,List.length_take] at this;omega
   have row:=fH O4.out j;obtain⟨Hh,ak,P⟩:=Joins.ownsRow_form row O;simp only[Value.slice.injEq,true_and] at P;obtain⟨rfl,rfl⟩:=P;have R:=row.cellAt k O;have H:(r.wl.map jX)[k]?=U (jX (r.eg.filter mq)[k].eb):=by rw[HH.out.wl,List.getElem?_map,List.getElem?_map];show Option.map jX (Option.map _ (r.eg.filter mq)[k]?)=_;rw[Zu z];rfl
   rw[H] at R;unfold jX at R;have TE:=aB (HH.out.kU j hg);have S:=aB (Yc E (Yc X (Yc j D)));have aj:l.length<=60:=O;obtain⟨g,A⟩:∃ g,g=(r.eg.filter mq)[k]:=⟨_,rfl⟩;rw[<- A] at TE R;have GE:=aB A;clear A H row E X j D hg;go_wp2_with fail;refine TE.out.mono ?_;rintro e w2 ⟨v,rfl,sp,rfl,ho,o⟩;obtain⟨sa,sc,rfl⟩:=lz ho;have RW:=aB (fH S.out.2.1.own o);have SR:=aB (Yc ho o);have an:=XU S.out.2.2.1.size o.size;clear ho o TE R;simp only[ry];go_wp2_with (first
    |(at_builtin;refine wpList_append_lies _ rfl _ _ 43 rfl w.heap.size 85 i0 _ 6 72 underlying43 af ac ab aa rfl Xd _ _ _ rfl (RW.out.alloc _) ⟨w2.heap.size,0,Z⟩ 1 1 (gv (g.e,XI sa g.e.aR.length sc)) rfl rfl (Ze (cs:=(gv (g.e,XI sa g.e.aR.length sc)).toArray) (dH w2 _)) (by simp[gv,Zf]) O Xj O Xh (w2.heap.size+1) Xc ?_;intro g2 I w3 q f G ai))
   have y:=aH.grown ((aH.refl _ w2).alloc _) f (fun k hk=>.inl (Zl.2 hk));have t:=G;have HN:Hid (WT w w3 r aM (k+1) (XI (U ⟨g2,0,Z⟩) (l.length+1) I)):=by
    obtain⟨P,H,K,e4⟩:=S.out;obtain⟨s1,s2⟩:=SR.out;refine⟨l++[(g.e,XI sa g.e.aR.length sc)],?_,H.snoc s1 s2 K.size (fun b j=>HH.out.dk.none (XU K.size j)) y q (t.imp id (fun e=>by omega)),?_⟩
    .rw[YS,YI z,YS,P,<- GE.out];rfl
    .have C:=K.trans (s2.mono K.size);exact⟨y.os.trans C.os,y.tape.trans C.tape,y.output.trans C.output,XU C.size y.size,fun b j=>(y.block b (zL j C.size) (fun hx=>by have:=(H.own.lt b (Zl.1 hx)).1;omega)).trans (C.block b j)⟩
   clear q f G y t S SR RW;go_wp2;go_roundw
   case rel=>exact⟨k+1,by omega,by go_num,HN.out⟩
   case measure=>simp[intOf];omega
  .have ae:k=(r.eg.filter mq).length:=O
   have F:¬ ((k:N)<((r.eg.filter mq).length:N)):=O;have HF:Hid (WT w wr r aM (r.eg.filter mq).length u3):=⟨l,by rw[<- ae];exact E,X,j⟩;clear E X j;go_wp2;go_ret;exact⟨_,rfl,HF.out⟩
theorem tV:∀ {l:J (aQ × XA)}{k:M}(c:k<l.length){j:M}(_:j<6),(l.flatMap gv)[k*6+j]?=(gv l[k])[j]?
 |p :: l,0,c,j,hj=>by have e:(p :: l).flatMap gv=gv p++l.flatMap gv:=Xc;rw[e,List.getElem?_append_left (by simp[gv];omega)];simp
 |p :: l,k+1,c,j,hj=>by have a:k<l.length:=Xi;have e:(p :: l).flatMap gv=gv p++l.flatMap gv:=Xc;have f:(gv p).length=6:=rfl;rw[e,YX Xi,f,show (k+1)*6+j-6=k*6+j by omega,tV a hj];simp
theorem WH(eb:M)(id:N)(x:aQ)(a:Xo XE)(n c:M)(w:Xz)(h:w.cell? (eb,0)=U ↑id):XD prog 196 #[eb,ry x (XI a n c)] w fun e w'=>e=XQ (x.id==id)/\XC w w w':=by
 have f:XC w w (w.alloc (XR #[x.id,x.kind,x.bH,x.aN,XI a n c,x.bZ] 85)):=aS;have q:(w.alloc (XR #[x.id,x.kind,x.bH,x.aN,XI a n c,x.bZ] 85)).cell? (w,0)=U ↑x.id:=Xc;have o:=aT f h;have j:=aB f;unfold ry;go_in;go_upto_region 1 with fail;generalize w.alloc (XR #[x.id,x.kind,x.bH,x.aN,XI a n c,x.bZ] 85)=X at *;go_big_region;go_wp21;go_ret;exact⟨rfl,j.drew⟩
theorem b1T(l:J (aQ × XA))(v:XA)(B eb:M)(id:N)(w:Xz)(own:w.ownsRow B 85 6 v l.length (l.flatMap gv))(X:∀ p∈l,∃ a n c,p.2=XI a n c)(hc:w.cell? (eb,0)=U ↑id)(hl:l.length<=1000):XD prog 226 #[v,.func (.func 196) #[eb] #[]] w fun e w'=>e=XQ (V Y (gn (fun p:aQ × XA=>p.1.id==id) l 0))/\XC w w w':=by
 obtain⟨a,cap,rfl⟩:=lz own;have CC:=aB hc;have HS:=aB X;have A:=aB own;clear hc X own;go_in;go_wp21;go_loopw [8] (fun i wx=>∃ k:M,k<=l.length/\i=V Y k/\gn (fun p:aQ × XA=>p.1.id==id) l 0=gn (fun p:aQ × XA=>p.1.id==id) (l.drop k) k/\XC w w wx) (fun i _=>l.length-(intOf i).toNat)
 .exact⟨0,YJ _,rfl,rfl,Below.refl _ _⟩
 .obtain⟨k,hk,rfl,E,z⟩:=hrel;have R:=aB E;have T:=aB z
  by_cases h:k<l.length
  .have hi:(k:N)<(l.length:N):=O
   obtain⟨H,aa,e1⟩:=Joins.ownsRow_form A O;simp only[Value.slice.injEq,true_and] at e1;obtain⟨rfl,rfl⟩:=e1;have f:=fH A z;have P:=(f.cellAt (k*6) O).trans (tV h (j:=0) O);have a1:=(f.cellAt (k*6+1) O).trans (tV h (j:=1) O);have K:=(f.cellAt (k*6+2) O).trans (tV h (j:=2) O);have I:=(f.cellAt (k*6+3) O).trans (tV h (j:=3) O);have D:=(f.cellAt (k*6+4) O).trans (tV h (j:=4) O);have G:=(f.cellAt (k*6+5) O).trans (tV h (j:=5) O);simp only[gv,List.getElem?_cons_zero,List.getElem?_cons_succ] at P a1 K I D G;obtain⟨sa,sn,sc,y⟩:=HS l[k] (zg h);rw[y] at D;have o:=aB (WH eb id l[k].1 sa sn sc wr (aT z CC));have ed:gn (fun p:aQ × XA=>p.1.id==id) (l.drop k) k=if l[k].1.id==id then (k:N) else gn (fun p:aQ × XA=>p.1.id==id) (l.drop (k+1)) ((k+1:M):N):=by rw[Zg h];rfl
   have ED:=aB ed;clear ed f z E y
   cases q:(l[k].1.id==id)
   .have C:Hid (gn (fun p:aQ × XA=>p.1.id==id) l 0=gn (fun p:aQ × XA=>p.1.id==id) (l.drop (k+1)) ((k+1:M):N)):=by show _=_;rw[R,ED,q];rfl
    rw[q] at o;clear q;unfold ry at o;go_wp21;refine o.mono ?_;rintro e w1 ⟨rfl,t⟩;have S:=aB (bU T t aJ);clear t P a1 K I D G o;go_wp21;go_roundw
    .exact⟨k+1,O,by go_num,C,S⟩
    .simp[intOf];omega
   .have C:Hid (gn (fun p:aQ × XA=>p.1.id==id) l 0=k):=by show _=_;rw[R,ED,q];rfl
    rw[q] at o;clear q;unfold ry at o;go_wp21;refine o.mono ?_;rintro e w1 ⟨rfl,t⟩;have S:=aB (bU T t aJ);clear t P a1 K I D G o;go_wp21;go_ret;exact⟨jy C.symm,S⟩
  .have F:k=l.length:=O
   have hi:¬ ((k:N)<(l.length:N)):=O;have C:Hid (gn (fun p:aQ × XA=>p.1.id==id) l 0=-1):=by show _=_;rw[R,F,List.drop_length];rfl
   clear E z;go_wp21;go_ret;exact⟨jy C.symm,T⟩
theorem a8q(l:J (aQ × XA))(v:XA)(B eb:M)(id:N)(w:Xz)(own:w.ownsRow B 85 6 v l.length (l.flatMap gv))(y:∀ p∈l,∃ a n c,p.2=XI a n c)(A:w.cell? (eb,0)=U ↑id)(E:l.length<=1000):XD prog 195 #[v,.func (.func 196) #[eb] #[]] w fun e w'=>e=XQ (l.any (fun p:aQ × XA=>p.1.id==id))/\XC w w w':=by
 have C:=aB (b1T l v B eb id w own y A E);have f:(decide ((0:N)<=gn (fun p:aQ × XA=>p.1.id==id) l 0))=l.any (fun p:aQ × XA=>p.1.id==id):=by
  rcases yE (fun p:aQ × XA=>p.1.id==id) l 0 with ⟨o,j⟩|⟨k,h,o,j,_⟩
  .rw[o];have:l.any (fun p:aQ × XA=>p.1.id==id)=Xx:=List.any_eq_false.2 (fun x D=>by rw[j x D];simp);rw[this];rfl
  .have:l.any (fun p:aQ × XA=>p.1.id==id)=Xy:=ZY.2 ⟨_,List.getElem_mem h,j⟩;rw[this,o];exact decide_eq_true O
 have q:=aB f;clear f own y A;go_in;go_wp21;refine C.mono ?_;rintro e w1 ⟨rfl,t⟩;have F:=aB t;clear t C;generalize gn (fun p:aQ × XA=>p.1.id==id) l 0=z at *;go_wp21;go_ret;exact⟨by rw[q];rfl,F⟩
structure Di(w wx:Xz)(r:Rd.cP)(days:J N)(k:M)(v:XA):Prop where
 own:wx.ownsRow w 83 2 v k ((((days.take k).map (mu r))).flatMap ia)
 bl:XC w w wx
 ru:wx.heap[w.heap.size]?=U (cR r)
 ne:v.ownBlock≠U w.heap.size
theorem VL(r:Rd.cP)(hf:Rd.hH r)(c:J N)(hd:∀ d∈c,0<=d/\d<100000)(hl:c.length<=100)(v:XA)(B:M)(w:Xz)(own:w.ownsRow B 3 1 v c.length (c.map (Value.int Y))):XD prog 153 #[kc r,v] w fun e w'=>∃ v',e=XQ v'/\w'.ownsRow w.heap.size 83 2 v' c.length ((c.map (mu r)).flatMap ia)/\XC w.heap.size w w':=by
 obtain⟨i0,F,D,C,A⟩:=info_parts xW;obtain⟨a,cap,rfl⟩:=lz own;have hX:XC w.heap.size w (w.alloc (cR r)):=(zr _ _).alloc (zq _) _;have hr:=dH w (cR r);have hs:(w.alloc (cR r)).heap.size=w.heap.size+1:=Xc;have HX:=aB (Yc hX (Yc hr hs));have OW:=aB own;have HD:=aB (Yc hd hf);clear own hX hr hd hf hs;unfold kc;go_in;go_upto_region 1 with fail;change Code.wp _ _ _ _ (w.alloc (cR r));generalize w.alloc (cR r)=X at *;go_wp2_with (first
  |(at_make;refine wpList_make_own _ rfl _ _ 57 rfl w.heap.size 83 i0 _ 2 underlying57 F D C .i64 .i64 (c.length:N) c.length rfl rfl rfl (by rw[A];omega) Xj (by have:=HX.out.1.size;omega) ?_;intro w1 h f))
 have S0:Hid (Di w w1 r c 0 (XI (U ⟨X.heap.size,0,Z⟩) 0 c.length)):=by
  obtain⟨P,x2,x3⟩:=HX.out;refine⟨by simpa using h,P.grown f P.size (fun k e=>by cases e),(f.block _ O Xc).trans x2,fun e=>?_⟩;have:X.heap.size=w.heap.size:=by simpa[Y9] using e
  omega
 clear h f;go_loopw [5,7,13] (fun vs _ vi wx=>∃ k:M,k<=c.length/\vi=V Y k/\Di w wx r c k vs) (fun _ _ vi _=>c.length-(intOf vi).toNat)
 case atStart=>exact⟨0,YJ _,rfl,S0.out⟩
 case round =>
  obtain⟨k,hk,rfl,S⟩:=hrel;by_cases j:k<c.length
  .have E:(k:N)<(c.length:N):=O
   have row:=fH OW.out S.bl;obtain⟨Hh,ai,H⟩:=Joins.ownsRow_form row O;simp only[Value.slice.injEq,true_and] at H;obtain⟨rfl,rfl⟩:=H;have a0:=row.cellAt k O;rw[List.getElem?_map,Zu j,Option.map_some] at a0;have SO:=aB (LZ r HD.out.2 c[k] (HD.out.1 _ (zg j)).1 (HD.out.1 _ (zg j)).2 wr);have x0:=vW S.ru;have P:=rH S.ru;have x2:=vX S.ru;have x3:=vY S.ru;have x4:=vZ S.ru;have x5:=v7 S.ru;have x6:=wb S.ru;have x7:=wg S.ru;have x8:=wh S.ru;have x9:=sJ S.ru;have ad:=yL S.ru;have ac:=yM S.ru;have ab:=yN S.ru;have aa:=yO S.ru;have T:=aB S;unfold kc at SO;clear S row;go_wp2_with fail;refine SO.out.mono ?_;rintro e w2 ⟨rfl,q⟩;have RW:=aB (fH T.out.own q);have K:=aB q;have aj:w.heap.size<=w2.heap.size:=XU T.out.bl.size q.size;clear q SO a0 x0 P x2 x3 x4 x5 x6 x7 x8 x9 ad ac ab aa;go_wp2_with (first
    |(at_builtin;refine wpList_append_lies _ rfl _ _ 57 rfl w.heap.size 83 i0 _ 2 16 underlying57 F D C A rfl Xd _ _ _ rfl (RW.out.alloc _) ⟨w2.heap.size,0,Z⟩ 1 1 (ia (mu r c[k])) rfl rfl (Ze (cs:=(ia (mu r c[k])).toArray) (dH w2 _)) (by simp[ia,Zf]) O Xj O Xh (w2.heap.size+1) Xc ?_;intro R I w3 h f G ag))
   have y:aH u5.ownBlock.toList w2 w3:=aH.grown ((aH.refl _ w2).alloc _) f (fun k hk=>.inl (Zl.2 hk));have t:u5.ownBlock=U R\/R=w2.heap.size+1:=G;have HN:Hid (Di w w3 r c (k+1) (XI (U ⟨R,0,Z⟩) (k+1) I)):=by
    have S:=T.out;have z:XC w.heap.size w w2:=S.bl.trans (K.out.mono S.bl.size);have ae:w.heap.size<wr.heap.size:=by have:=vW S.ru;exact XV _ _ this
    refine⟨?_,⟨y.os.trans z.os,y.tape.trans z.tape,y.output.trans z.output,XU z.size y.size,fun b hb=>(y.block b (zL hb z.size) (fun hx=>by have:=(S.own.lt b (Zl.1 hx)).1;omega)).trans (z.block b hb)⟩,?_,fun e=>?_⟩
    .rw[YI j,YS,YV];have:([c[k]].map (mu r)).flatMap ia=ia (mu r c[k]):=Xc
     rw[this];exact h
    .exact ((y.block _ (by have:=K.out.size;omega) (fun hx=>S.ne (Zl.1 hx))).trans (K.out.block _ ae)).trans S.ru
    .have:R=w.heap.size:=by simpa[Y9] using e
     rcases t with H|H
     .exact S.ne (by rw[H,this])
     .have:=K.out.size;omega
   clear h f G y t T RW K;go_wp2;go_roundw
   case rel=>exact⟨k+1,by omega,by go_num,HN.out⟩
   case measure=>simp[intOf];omega
  .have af:k=c.length:=O
   have E:¬ ((k:N)<(c.length:N)):=O;have HF:Hid (wr.ownsRow w.heap.size 83 2 u5 c.length ((c.map (mu r)).flatMap ia)/\XC w.heap.size w wr):=by have o:=S.own;rw[af,List.take_length] at o;exact⟨o,S.bl⟩
   clear S;go_wp2;go_ret;exact⟨_,rfl,HF.out⟩
theorem a9F{q:Rd.cP}(h:aA.eW s.ts name u≠0):aA.aX s (.series name u q)=(s,aA.bS.error (aA.eW s.ts name u)):=by
 have e:aA.oG s name u q=aA.eW s.ts name u:=by unfold aA.oG;rw[Xt h]
 simp only[aA.aX];rw[e,Xt h]
theorem a9E{q:Rd.cP}(c:Rd.hH q)(h:aA.eW s.ts name u=0)(a:Rd.gR q≠0):aA.aX s (.series name u q)=(s,aA.bS.error (Rd.gR q)):=by
 have f:=(Rd.sG c).1;have e:aA.oG s name u q=Rd.gR q:=by unfold aA.oG;rw[Xs O,<- f,Xt a]
 simp only[aA.aX];rw[e,Xt a]
theorem b5m{q:Rd.cP}(f:Rd.hH q)(h:aA.eW s.ts name u=0)(j:Rd.gR q=0):aA.aX s (.series name u q)=jN s ⟨0,1,name,u,(gi q).map (mu q),0⟩:=by
 let⟨e1,e2⟩:=Rd.sG f;have t:=(e2 Xi).1;have o:(gi q).map (mu q)=Rd.jd q (Rd.cN q):=by unfold gi;rw[Xt j,t];rfl
 simp only[aA.aX];unfold aA.oG jN;rw[Xs (c:=aA.eW s.ts name u≠0) O,<- e1,Xs (c:=Rd.gR q≠0) O,o];by_cases a:s.given=60
 .simp[a]
 .cases aA.eT s.ts s.es name u (Rd.jd q (Rd.cN q)) <;> simp[a]
theorem Lq:∀ (i:M)(h:i<L.length),(L.flatMap ia)[i*2]?=U (V Y L[i].1)/\(L.flatMap ia)[i*2+1]?=U (V Y L[i].2):=by
 induction L with
 |nil=>intro i h;simp at h
 |cons a L ih =>
  intro i h
  cases i with
  |zero=>exact⟨rfl,rfl⟩
  |succ i =>
   let⟨h1,h2⟩:=ih i Xi;have e:(a :: L).flatMap ia=[V Y a.1,V Y a.2]++L.flatMap ia:=rfl;rw[e,show (i+1)*2=2+i*2 from by omega,show 2+i*2+1=2+(i*2+1) from by omega];constructor
   .rw[YX Xc];simpa using h1
   .rw[YX Xc];simpa using h2
theorem eH.ym(h:eH w d s r aM)(z:XC w w w3){y:M}(D:i<r.tg.length)(c:r.tg[i].name=name)(row:w3.ownsRow y 83 2 (XI g n cap) n (L.flatMap ia))(A:n=L.length)(E:B<=y)(H:w<=B)(ok:jr s.now ⟨0,1,name,u,L,0⟩):nw (w3.alloc (XR #[V Y 0,V Y 1,XH (U ⟨r.tg[i].tb,0,Xv⟩),u,XI g n cap,V Y 0] 197)) B d s r aM ⟨⟨0,1,name,u,L,0⟩,w3,g,cap,r.tg[i].tb⟩ i:=by
 have q:XC w3 w3 (w3.alloc (XR #[V Y 0,V Y 1,XH (U ⟨r.tg[i].tb,0,Xv⟩),u,XI g n cap,V Y 0] 197)):=aS;have t:=h.dk.later z;have eb:=dH w3 (XR #[V Y 0,V Y 1,XH (U ⟨r.tg[i].tb,0,Xv⟩),u,XI g n cap,V Y 0] 197);have I:=row.lt g rfl;have G:(w3.alloc (XR #[V Y 0,V Y 1,XH (U ⟨r.tg[i].tb,0,Xv⟩),u,XI g n cap,V Y 0] 197)).heap.size=w3.heap.size+1:=Xc;have a:=fH row q;generalize w3.alloc (XR #[V Y 0,V Y 1,XH (U ⟨r.tg[i].tb,0,Xv⟩),u,XI g n cap,V Y 0] 197)=Z at *;refine⟨⟨t.later q,h.of,h.wl,h.hl,h.inv⟩,⟨⟨?_,?_,?_,?_,fun j C=>?_,?_⟩,?_,?_,fun o=>frozen_of_row _ _ _ _ _ eb,⟨_,eb⟩⟩,t.none aJ,h.dk.none Xi,Xi,Xi,Xi,O,D,c,rfl,ok⟩
 .show Z.cell? (w3,0)=_;simp only[Yh,eb];rfl
 .show Z.cell? (w3,2)=_;simp only[Yh,eb];rfl
 .show Z.cell? (w3,3)=_;simp only[Yh,eb];rfl
 .show Z.cell? (w3,4)=U (XI g L.length cap);rw[<- A];simp only[Yh,eb];rfl
 .have f:j<L.length:=C;let⟨f1,f2⟩:=Lq j f;have F:=a.cellAt (j*2) O;have c1:=a.cellAt (j*2+1) O;exact⟨F.trans f1,c1.trans f2⟩
 .show g<_;omega
 .show Z.cell? (w3,1)=_;simp only[Yh,eb];rfl
 .show Z.cell? (w3,5)=_;simp only[Yh,eb];rfl
theorem V8(w:Xz)(name:Xm)(u:N)(q:Rd.cP):let X:=((w.alloc (XR #[name,u,V Y q.pc,V Y q.ev,aI q.acc 0,aI q.acc 1,aI q.acc 2,aI q.acc 3,aI q.acc 4,aI q.acc 5,aI q.acc 6,V Y q.fr,q.mn,q.mi,q.ti,q.un] 158)).alloc bI);XC w w X/\X.heap[w.heap.size+1]?=U bI/\X=w.heap.size+2/\X.heap[w.heap.size]?=U (XR #[name,u,V Y q.pc,V Y q.ev,aI q.acc 0,aI q.acc 1,aI q.acc 2,aI q.acc 3,aI q.acc 4,aI q.acc 5,aI q.acc 6,V Y q.fr,q.mn,q.mi,q.ti,q.un] 158 (0,0)):=by let⟨h1,h2⟩:=Bz (w:=w) (XR #[name,u,V Y q.pc,V Y q.ev,aI q.acc 0,aI q.acc 1,aI q.acc 2,aI q.acc 3,aI q.acc 4,aI q.acc 5,aI q.acc 6,V Y q.fr,q.mn,q.mi,q.ti,q.un] 158);exact⟨h1,h2,by simp,(Below.heap_alloc _ _ _ Xc).trans (dH w _)⟩
theorem UA(a:Array XA)(w:Xz):(callFunc 153 a).run prog w=.ok (.enter 153 a) w:=Xg
theorem Uz(a:Array XA)(w:Xz):(callFunc 149 a).run prog w=.ok (.enter 149 a) w:=Xg
theorem b7T(h:eH w d s r aM)(ht:hI w)(aj:10<=w.heap.size)(name:Xm)(hn:name.size<=1000)(u:N)(q:Rd.cP)(hl:aA.ke (.series name u q)):XD prog 103 #[d,XM #[name,u,V Y q.pc,V Y q.ev,aI q.acc 0,aI q.acc 1,aI q.acc 2,aI q.acc 3,aI q.acc 4,aI q.acc 5,aI q.acc 6,V Y q.fr,q.mn,q.mi,q.ti,q.un]] w fun e w'=>∃ v,e=XQ v/\eu w d aM (aA.aX s (.series name u q)) v w':=by
 obtain⟨hX,ad,R,c⟩:=V8 w name u q;obtain⟨ai,ag,K⟩:=hl;have HV:=aB (Mg (h.dk.later hX) h.of h.bA name hn u);have DY:=aB (JU q K ((w.alloc (XR #[name,u,V Y q.pc,V Y q.ev,aI q.acc 0,aI q.acc 1,aI q.acc 2,aI q.acc 3,aI q.acc 4,aI q.acc 5,aI q.acc 6,V Y q.fr,q.mn,q.mi,q.ti,q.un] 158)).alloc bI) (sN ht hX aj) (by rw[R];omega));have HH:=aB h;have HX:=aB (Yc hX (Yc ad R));have HA:=aB (a9F (s:=s) (name:=name) (u:=u) (q:=q));have HE:=aB (a9E (s:=s) (name:=name) (u:=u) K);have HO:=aB (b5m (s:=s) (name:=name) (u:=u) K);have t:=aB K;have x0:=bN c 0 rfl;have x1:=bN c 1 rfl;have x2:=bN c 2 rfl;have x3:=bN c 3 rfl;have x4:=bN c 4 rfl;have x5:=bN c 5 rfl;have x6:=bN c 6 rfl;have x7:=bN c 7 rfl;have x8:=bN c 8 rfl;have x9:=bN c 9 rfl;have E:=bN c 10 rfl;have D:=bN c 11 rfl;have C:=bN c 12 rfl;have A:=bN c 13 rfl;have z:=bN c 14 rfl;have y:=bN c 15 rfl;unfold kc at DY;clear h hX ad R c K ht;go_in;go_upto_region 1 with fail;change Code.wp _ _ _ _ ((w.alloc (XR #[name,u,V Y q.pc,V Y q.ev,aI q.acc 0,aI q.acc 1,aI q.acc 2,aI q.acc 3,aI q.acc 4,aI q.acc 5,aI q.acc 6,V Y q.fr,q.mn,q.mi,q.ti,q.un] 158)).alloc bI);generalize ((w.alloc (XR #[name,u,V Y q.pc,V Y q.ev,aI q.acc 0,aI q.acc 1,aI q.acc 2,aI q.acc 3,aI q.acc 4,aI q.acc 5,aI q.acc 6,V Y q.fr,q.mn,q.mi,q.ti,q.un] 158)).alloc bI)=X at *;have BX:=HX.1;have QX:=Q7.of HX.2.1;go_wp21;refine HV.mono ?_;rintro e w1 ⟨hp,rfl⟩;rcases hp with ⟨P,rfl⟩|⟨P,i,hi,e1,e2,rfl⟩
 .have HD:=aB (HA P);generalize aA.eW s.ts name u=G at *;have ac:(G != 0)=Xy:=bV P
  clear P HV HX DY HE HO HA x0 x1 x2 x3 x4 x5 x6 x7 x8 x9 E D C A z y;go_wp21;refine aK (ly G w1) fun w9 S=>?_;have HF:=aB (HH.refuse BX QX S HD);obtain⟨q0,q1,q2,q3,q4,q5,q6,fq⟩:=HF.1;simp only[bT];go_wp21;exact cV results103 ⟨q0,q1,q2,q3,q4,q5,q6,fq⟩ ⟨_,rfl,HF.2⟩
 .go_wp21
  refine DY.mono ?_;rintro e w2 ⟨da,rfl,own,a⟩;have j:=BX.trans (a.mono BX.size);have I:=QX.later (a.block _ (XV _ _ QX.q0));obtain⟨a1,af,rfl⟩:=sA own;by_cases F:Rd.gR q=0
  .have HD:=aB (HO P F);have ac:(Rd.gR q != 0)=Xx:=bV F
   obtain⟨T,ae⟩:=Rd.sG t;have H:=ae (by rw[<- T];exact F);have o:gi q=Rd.cN q:=by unfold gi;rw[Xt F,H.1]
   have OK:Hid (jr s.now ⟨0,1,name,u,(gi q).map (mu q),0⟩):=by
    obtain⟨p1,p2,p3,p4⟩:=aA.Rd.mH t (by rw[<- T];exact F);have e4:(gi q).map (mu q)=Rd.jd q (Rd.cN q):=by rw[o];rfl
    show jr _ _;rw[e4];exact⟨ai,ag,p4,p3,p1,p2,.inl ⟨rfl,rfl⟩⟩
   have ab:0<(gi q).length:=List.length_pos_iff.2 (by rw[o];exact H.2.1);have au:(gi q).length<=40:=by rw[o];exact H.2.2.1
   have SP:=aB (VL q t (gi q) (fun d hd=>by rw[o] at hd;have:=Rd.uX t hd;have:=t.f0;omega) O (XI a1 (gi q).length af) w1 w2.drew (DP own));have aa:w+2<=w2.drew.heap.size:=by have:=a.size;have:=HX.2.2;show w+2<=w2.heap.size;omega
   have AS:=aB (fun (w3:Xz) (g cap:M) (f:XC w2.drew.heap.size w2.drew w3) (row:w3.ownsRow w2.drew.heap.size 83 2 (XI g (gi q).length cap) (gi q).length (((gi q).map (mu q)).flatMap ia)) =>Fv (HH.ym (j.drew.trans (f.mono j.size)) (B:=w.heap.size+2) hi e1 row Xc aa O OK))
   have AP:=aB (fun (w3 w4:Xz) (g cap:M) (v:XA) (f:XC w2.drew.heap.size w2.drew w3) (ep:nX (w3.alloc (XR #[V Y 0,V Y 1,XH (U ⟨r.tg[i].tb,0,Z⟩),u,XI g (gi q).length cap,V Y 0] 197)) (w.heap.size+2) d aM (jN s ⟨0,1,name,u,(gi q).map (mu q),0⟩) v w4) =>ep.uL (w:=w) (Q:=w.heap.size+1) (Step.below ((j.drew.trans (f.mono j.size)).trans (((zr w3 w3).alloc aJ _).mono (j.drew.trans (f.mono j.size)).size))) O O O (HH.dk.none O) ((I.later (w':=w2.drew) rfl).later (((Below.heap_alloc w3 _ _ (zL (XV _ _ I.q0) f.size))).trans (f.block _ (XV _ _ I.q0)))))
   have y1:=aT a x1;have y2:=aT a x2;have y3:=aT a x3;have y4:=aT a x4;have y5:=aT a x5;have y6:=aT a x6;have y7:=aT a x7;have y8:=aT a x8;have y9:=aT a x9;have ar:=aT a E;have aq:=aT a D;have ao:=aT a C;have an:=aT a A;have al:=aT a z;have ak:=aT a y;unfold kc at SP;clear HV DY HE HO HA HX own a H o T ae OK P x0 x1 x2 x3 x4 x5 x6 x7 x8 x9 E D C A z y BX QX;generalize Rd.gR q=G at *;subst F;go_upto_region 7 with fail;go_region_law (first
    |(refine rI (by rfl) 153 _ _ (by rfl) _ (by simp[Act.eval]) (UA _ _) SP ?_;rintro e w3 ⟨v',rfl,row,f⟩;refine⟨_,rfl,?_⟩;obtain⟨g,cap,rfl⟩:=Joins.ownsRow_form row ab;have z1:=aT f y1;have EN:=aB (AS w3 g cap f row);have AQ:=aB (fun w4 v ep=>AP w3 w4 g cap v f ep);clear SP AS AP row)
    |(refine rI (by rfl) 149 _ _ (by rfl) _ (by simp[Act.eval]) (Uz _ _) EN ?_;rintro e w4 ⟨v,rfl,ep⟩;refine⟨_,rfl,?_⟩;obtain⟨G,nn,rfl,q7,K⟩:=AQ w4 v ep;have HF:Hid (eu w d aM (aA.aX s (.series name u q)) (bT G 0 nn () () () ()) (dE w4 (w.heap.size+1) (V Y G) (V Y 0) (V Y nn) () () () ())):=(by rw[HD];exact K _ _ _ _ _ _ _);obtain⟨q0,q1,q2,q3,q4,q5,q6,fq⟩:=q7;clear ep K EN AQ;simp only[bT]))
   all_goals go_wp21;exact cV results103 ⟨q0,q1,q2,q3,q4,q5,q6,fq⟩ ⟨_,rfl,HF⟩
  .have HD:=aB (HE P F);generalize Rd.gR q=G at *;have ac:(G != 0)=Xy:=bV F
   clear P HV HX DY HE HO HA x0 x1 x2 x3 x4 x5 x6 x7 x8 x9 E D C A z y own a F;go_wp21;refine aK (ly G w2) fun w9 S=>?_;have HF:=aB (HH.refuse j I S HD);obtain⟨q0,q1,q2,q3,q4,q5,q6,fq⟩:=HF.1;simp only[bT];go_wp21;exact cV results103 ⟨q0,q1,q2,q3,q4,q5,q6,fq⟩ ⟨_,rfl,HF.2⟩
theorem b2l(h:eH w d s rw_ aM)(ht:hI w)(q:10<=w.heap.size)(name:Xm)(D:name.size<=1000)(u:N)(r:Rd.cP)(E:aA.ke (.series name u r)):XD prog 62 #[d,XN 158 (XM #[name,u,V Y r.pc,V Y r.ev,aI r.acc 0,aI r.acc 1,aI r.acc 2,aI r.acc 3,aI r.acc 4,aI r.acc 5,aI r.acc 6,V Y r.fr,r.mn,r.mi,r.ti,r.un])] w fun e w'=>∃ v,e=XQ v/\eu w d aM (aA.aX s (.series name u r)) v w':=by
 have t:=aB (h.pt (XR #[name,u,V Y r.pc,V Y r.ev,aI r.acc 0,aI r.acc 1,aI r.acc 2,aI r.acc 3,aI r.acc 4,aI r.acc 5,aI r.acc 6,V Y r.fr,r.mn,r.mi,r.ti,r.un] 158));have y:=aB (b7T t.1 (sN ht t.2.1 q) (XU q t.2.1.size) name D u r E);clear h;unfold bI at y t;have c:=oS 158 Xd;have o:=pF 158 Xd;have j:=qs 158 Xd;have f:=qU 158 Xd;have a:=oi underlying158;go_in;go_wp21;refine y.mono ?_;rintro e w2 ⟨v,rfl,A⟩;obtain⟨R,at_,G,a1,a2,a3,a4,P,K,I,H,c1,X,T,S,rfl,C,z⟩:=A.po t.2;have F:=aB z;clear A z y c o j f a;let⟨q0,q1,q2,q3,q4,q5,q6,fq⟩:=C;simp only[bT];go_wp21;exact cV results62 ⟨q0,q1,q2,q3,q4,q5,q6,fq⟩ ⟨_,rfl,F⟩
theorem eH.iH{j:Xz}(h:eH w d s r aM)(k:XC w w j)(C:w<=Q){t:XA}(z:iw j (Q+1) aM t l)(a b c e f g i:XA):eu w d aM (s,⟨0,0,0,l.map (·.1),[],[],[]⟩) (bT 0 0 0 t () () ()) (dE j Q a b c e f g i):=by
 have q:=mY j Q a b c e f g i;have A:=h.dk.later k;have nq:∀ b,Q<=b->aM b=Z:=fun b o=>h.dk.none O;have st:Step anyS w aM aM j (dE j Q a b c e f g i):=⟨⟨_,q,fun x y=>.inr Xi⟩,fun _ _ h=>h,fun _ _ h=>.inl h⟩;have rp:mV j (Q+1) aM (bT 0 0 0 t () () ()) ⟨0,0,0,l.map (·.1),[],[],[]⟩ :=⟨_,_,_,_,l,rfl,rfl,z,eO.nil _ _ _,eO.nil _ _ _,eO.nil _ _ _,(fun b o=>by cases o),fun b o=>by cases o⟩
 exact⟨r,aM,A.off q (fun x y=>by grind),h.of,h.wl,h.hl,(Step.below k).trans st,(rp.off q (fun x y=>by grind)).base O⟩
theorem W6(h:Of s r):(r.eg.filter mq).map (·.e)=s.es.filter fun e=>e.kind==3:=by rw[<- h.es,List.filter_map];rfl
theorem b0k(h:eH w d s rw_ aM):XD prog 62 #[d,XN 166 (XM #[])] w fun e w'=>∃ v,e=XQ v/\eu w d aM (aA.aX s .waiting) v w':=by
 have G:XC w.heap.size w ((w.alloc (XR #[V Y 0,V Y 0,V Y 0,XI Z 0 0,XI Z 0 0,XI Z 0 0,XI Z 0 0] 74)).alloc (XR #[] 166)):=((zr _ _).alloc (zq _) _).alloc Xc _;have K:((w.alloc (XR #[V Y 0,V Y 0,V Y 0,XI Z 0 0,XI Z 0 0,XI Z 0 0,XI Z 0 0] 74)).alloc (XR #[] 166)).heap[w.heap.size]?=U bI:=(Below.heap_alloc _ _ _ Xc).trans (dH w bI);have I:((w.alloc (XR #[V Y 0,V Y 0,V Y 0,XI Z 0 0,XI Z 0 0,XI Z 0 0,XI Z 0 0] 74)).alloc (XR #[] 166)).heap.size=w.heap.size+2:=Xc;have R:=aB (a8L (w:=((w.alloc (XR #[V Y 0,V Y 0,V Y 0,(),(),(),()] 74)).alloc (XR #[] 166))) (s:=s) ⟨h.dk.later G,h.of,h.wl,h.hl,h.inv⟩);have E:=aB (Yc G (Yc (Q7.of K) I));have HD:Hid (aA.aX s .waiting=(s,⟨0,0,0,(rw_.eg.filter mq).map (·.e),[],[],[]⟩)):=by show _=_;rw[W6 h.of];rfl
 clear G K I;have X:=aB h;have y:=oS 166 Xd;have D:=pF 166 Xd;have C:=qs 166 Xd;have z:=qU 166 Xd;have q:=sq 166 Xd;have o:=te 166 Xd;have t:=uC 166 Xd;have A:=vJ 166 Xd;have j:=oi underlying166;go_in;go_wp21;refine R.mono ?_;rintro e w2 ⟨v,rfl,l,P,H,F⟩;obtain⟨a1,c1,rfl⟩:=lz H.own;have S:=E.2.1.later (F.block w (by rw[E.2.2];omega));have HF:Hid (∀ a b c e f g i,eu w d aM (aA.aX s .waiting) (bT 0 0 0 (XI a1 l.length c1) () () ()) (dE w2 w a b c e f g i)):=fun a b c e f g i=>by
  have T:l.map (·.1)=(rw_.eg.filter mq).map (·.e):=by rw[P,List.take_length]
  rw[HD,<- T];exact X.iH (E.1.trans (F.mono E.1.size)) aJ (H.base (by rw[E.2.2];omega)) a b c e f g i
 clear R H P F y D C z q o t A j;let⟨q0,q1,q2,q3,q4,q5,q6,fq⟩:=S;go_wp21;exact cV results62 ⟨q0,q1,q2,q3,q4,q5,q6,fq⟩ ⟨_,rfl,HF _ _ _ _ _ _ _⟩
theorem b3W(h:eH w d s rw_ aM):XD prog 62 #[d,XN 176 (XM #[])] w fun e w'=>∃ v,e=XQ v/\eu w d aM (aA.aX s .clock) v w':=by
 have K:XC w.heap.size w ((w.alloc (XR #[V Y 0,V Y 0,V Y 0,(),(),(),()] 74)).alloc (XR #[] 176)):=aS.alloc Xc _;have P:((w.alloc (XR #[V Y 0,V Y 0,V Y 0,(),(),(),()] 74)).alloc (XR #[] 176)).heap[w.heap.size]?=U bI:=(Below.heap_alloc _ _ _ Xc).trans (dH w bI);have R:=(h.dk.later K).c0;rw[h.of.now] at R;have T:=aB K;have HH:=aB h;have S:=Q7.of P;have HD:Hid (aA.aX s .clock=(s,⟨0,0,s.now,[],[],[],[]⟩)):=rfl;clear K P h;have A:=oS 176 Xd;have I:=pF 176 Xd;have G:=qs 176 Xd;have C:=qU 176 Xd;have t:=sq 176 Xd;have o:=te 176 Xd;have z:=uC 176 Xd;have F:=vJ 176 Xd;have j:=xR 176 Xd;have E:=zX 176 Xd;have H:=Cu 176 Xd;have y:=IR 176 Xd;have D:=Rr 176 Xd;have q:=oi underlying176;go_in;go_upto_region 43 with fail;change Code.wp _ _ _ _ ((w.alloc (XR #[V Y 0,V Y 0,V Y 0,(),(),(),()] 74)).alloc (XR #[] 176));generalize ((w.alloc (XR #[V Y 0,V Y 0,V Y 0,(),(),(),()] 74)).alloc (XR #[] 176))=X at *;have HF:Hid (∀ a b c e f g i,eu w d aM (aA.aX s .clock) (bT 0 0 s.now () () () ()) (dE X w a b c e f g i)):=fun a b c e f g i=>by rw[HD];exact HH.said T aJ 0 s.now a b c e f g i
 clear A I G C t o z F j E H y D q;let⟨q0,q1,q2,q3,q4,q5,q6,fq⟩:=S;go_wp21;exact cV results62 ⟨q0,q1,q2,q3,q4,q5,q6,fq⟩ ⟨_,rfl,HF _ _ _ _ _ _ _⟩
open Go.RowKit Go.Shelf
attribute [local go_sem] Oper.semAt_some
theorem b2Q{F:Fence}(a:F.depth=Z)(k:M):F.room k:=fun d h=>by grind
theorem RoundIn.jV{F:Fence}(t:F.depth=Z){q:M}{P:Program}{l:M}{f:FuncId}{j:Array XA}{a o:Code}{R:Ending->Xz->Prop}(h:RoundIn F m P l f j a o w R):RoundIn F q P l f j a o w R:=⟨h.1,fun c cs _=>h.2 c cs (b2Q t _)⟩
theorem YieldAt.jV{F:Fence}(f:F.depth=Z)(c:M){P:Program}{l:M}{a:Array XA}{R:Ending->Xz->Prop}(h:YieldAt F m P l a W R):YieldAt F c P l a W R:=by let⟨fn,tmps,assign,body,hy,hR⟩:=h;exact⟨fn,tmps,assign,body,hy,RoundIn.jV f hR⟩
theorem je.gV{x:aF.It}(h:je w b x)(k:XC n₀ w w')(a:b<n₀):je w' b x :=⟨(k.cell (p:=(b,0)) a).trans h.c0,(k.cell (p:=(b,1)) a).trans h.c1,(k.cell (p:=(b,2)) a).trans h.c2,(k.cell (p:=(b,3)) a).trans h.c3,h.c4.imp (fun _=>(k.cell (p:=(b,4)) a).trans),h.c5.imp (fun _=>(k.cell (p:=(b,5)) a).trans),h.c6.imp (fun _=>(k.cell (p:=(b,6)) a).trans),h.c7.imp (fun _=>(k.cell (p:=(b,7)) a).trans),fun o=>(k.frozen (p:=(b,o)) a).trans (h.fz o)⟩
theorem eB.gV{n₀:M}{w w':Xz}(k:XC n₀ w w'):∀ {t:aF.S}{p:XA}{F:J M},eB w t p F->(∀ i∈F,i<n₀)->eB w' t p F
 |.nil,p,F,c,_=>c
 |.node a l r,p,F,c,hd=>by obtain⟨b,o,j,G,E,rfl,n,D,C,A,z,y,c,rfl,q⟩:=c;have f:=hd b Xc;exact⟨b,o,j,G,E,rfl,n.gV k f,(k.cell (p:=(b,4)) f).trans D,(k.cell (p:=(b,5)) f).trans C,(k.cell (p:=(b,6)) f).trans A,(k.cell (p:=(b,7)) f).trans z,eB.gV k y (fun i h=>hd i (by simp[h])),eB.gV k c (fun i h=>hd i (by simp[h])),rfl,q⟩
theorem WY(F:Fence)(hd:F.depth=Z)(h6:F.fn 225)(X:F.round=Z)(l n₀ a3:M)(a b:N){Q:aF.It->Prop}(ag Jx:J {x:aF.It // Q x}->Xz->Prop)
  (hY:∀ m pre x W,ag pre W->pre.length<a3->YieldAt F m prog l #[x.1.v] W fun e W' =>(e=XQ Xy/\ag (pre++[x]) W'/\XC n₀ W W')\/(e=XQ Xx/\Jx (pre++[x]) W')) (t:aF.S):
  ∀ (n:M) (p:Xo XE) (G:J M) (pre ys:J {x:aF.It // Q x}) (W:Xz),eB W t p G->(∀ i∈G,i<n₀)->ys.map (·.1)=aF.meet a b t->ag pre W->pre.length+ys.length<=a3 ->
   CallsIn F n prog 225 #[p,a,b,.func (.yield l) #[] #[]] W fun e W' =>(e=XQ Xy/\ag (pre++ys) W'/\XC n₀ W W')\/(e=XQ Xx/\∃ q,q <+: ys/\Jx (pre++q) W'):=by
 induction t with
 |nil =>
  intro n p G pre ys W ht _ I hJ _;obtain⟨hp,_⟩:=ht
  cases hp;obtain rfl:ys=[]:=List.map_eq_nil_iff.1 (I.trans rfl);refine callsIn_of_wp func225 rfl h6 ?_ X;simp only[ntmps225,List.size_toArray,Yy,YC,Nat.reduceAdd,Nat.reduceSub,Array.replicate_succ,Array.replicate_zero,List.push_toArray,List.append_toArray,List.nil_append,Yj];gi_wp2;go_ret;exact .inl ⟨rfl,by simpa using hJ,Below.refl _ _⟩
 |node x tl tr ihl ihr =>
  intro n p G pre ys W ht hG I hJ hN;obtain⟨o,pl,pr,Fl,Fr,rfl,rfl,P,c4,_⟩:=ht.half;have E:∀ k:M,(F.depth.isSome=Xy->1<=k):=fun k h=>by rw[hd] at h;cases h
  have hb:=hG o Xc;have an:∀ i∈Fl,i<n₀:=fun i hi=>hG i (by simp[hi]);have aa:∀ i∈Fr,i<n₀:=fun i hi=>hG i (by simp[hi]);generalize ao:aF.late (.node x tl tr)=la at c4;by_cases q1:la<=a
  .obtain rfl:ys=[]:=by
    have:aF.meet a b (.node x tl tr)=[]:=by rw[aF.meet,ao,Xt q1]
    exact List.map_eq_nil_iff.1 (I.trans this)
   refine callsIn_of_wp func225 rfl h6 ?_ X;simp only[ntmps225,List.size_toArray,Yy,YC,Nat.reduceAdd,Nat.reduceSub,Array.replicate_succ,Array.replicate_zero,List.push_toArray,List.append_toArray,List.nil_append,Yj];gi_wp2;go_ret;exact .inl ⟨rfl,by simpa using hJ,Below.refl _ _⟩
  .have em:aF.meet a b (.node x tl tr)=aF.meet a b tl++if b<=x.f then [] else (if a<x.t then [x] else [])++aF.meet a b tr:=by rw[aF.meet,ao,Xs q1]
   rw[em] at I;obtain⟨D,y2,rfl,aj,C⟩:=List.map_eq_append_iff.1 I;clear em I;simp only[Yx] at hN;have c0:=P.n.c0;have c1:=P.n.c1;have c3:=P.n.c3;have c6:=P.c6;have c7:=P.c7;by_cases q2:b<=x.f
   .rw[Xt q2] at C;obtain rfl:y2=[]:=List.map_eq_nil_iff.1 C
    have A:=(ihl (n-1) pl Fl pre D W P.l an aj hJ (bV hN)).mono (R':=fun e j =>(e=XQ Xy/\ag (pre++D) j/\XC n₀ W j/\j.cell? (o,0)=U (V Y x.f))\/(e=XQ Xx/\∃ q,q <+: D/\Jx (pre++q) j))
     (fun e j h=>h.elim (fun ⟨he,hj,c⟩=>.inl ⟨he,hj,c,(c.cell (p:=(o,0)) hb).trans c0⟩) .inr)
    clear ihl ihr P ht;refine callsIn_of_wp func225 rfl h6 ?_ X;simp only[ntmps225,List.size_toArray,Yy,YC,Nat.reduceAdd,Nat.reduceSub,Array.replicate_succ,Array.replicate_zero,List.push_toArray,List.append_toArray,List.nil_append,Yj];gi_wp2_with (first
     |((try refine⟨E _,?_⟩);gi_at_call 225;refine A.mono ?_;clear A;rintro e j (⟨rfl,al,c,aq⟩|⟨rfl,q,hq,T⟩)))
    .go_ret;exact .inl ⟨rfl,by simpa using al,c⟩
    .go_ret;exact .inr ⟨rfl,q,by simpa using hq,T⟩
   .rw[Xs q2] at C;have a7:x.f<b:=O
    obtain⟨y3,y4,rfl,K,ai⟩:=List.map_eq_append_iff.1 C;clear C;simp only[Yx] at hN;by_cases q3:a<x.t
    .rw[Xt q3] at K
     obtain⟨y,rfl,av⟩:∃ y:{x:aF.It // Q x},y3=[y]/\y.1=x:=by
      rcases y3 with _|⟨y,_|⟨z,r⟩⟩
      .simp at K
      .exact⟨y,rfl,by simpa using K⟩
      .simp at K
     subst av;simp only[Yy,YC] at hN;have C:∀ j,ag (pre++D) j->XC n₀ W j->YieldAt F (n-1) prog l #[y.1.v] j fun e R =>(e=XQ Xy/\ag (pre++D++[y]) R/\XC n₀ W R/\R.cell? (o,7)=U ↑pr/\eB R tr pr Fr)\/(e=XQ Xx/\Jx (pre++D++[y]) R):=fun j al c =>
      YieldAt.mono (hY (n-1) _ y j al Xh) fun e R h=>h.elim (fun ⟨he,hj,H⟩=>.inl ⟨he,hj,c.trans H,((c.trans H).cell (p:=(o,7)) hb).trans c7,P.r.gV (c.trans H) aa⟩) .inr
     have A:=(ihl (n-1) pl Fl pre D W P.l an aj hJ O).mono (R':=fun e j =>
       (e=XQ Xy/\j.cell? (o,0)=U (V Y y.1.f)/\j.cell? (o,1)=U ↑y.1.t/\j.cell? (o,3)=U ↑y.1.v/\YieldAt F (n-1) prog l #[y.1.v] j fun e R =>(e=XQ Xy/\ag (pre++D++[y]) R/\XC n₀ W R/\R.cell? (o,7)=U ↑pr/\eB R tr pr Fr)\/(e=XQ Xx/\Jx (pre++D++[y]) R)) \/
       (e=XQ Xx/\∃ q,q <+: D/\Jx (pre++q) j))
      (fun e j h=>h.elim (fun ⟨he,hj,c⟩=>.inl ⟨he,(c.cell (p:=(o,0)) hb).trans c0,(c.cell (p:=(o,1)) hb).trans c1,(c.cell (p:=(o,3)) hb).trans c3,C j hj c⟩) .inr)
     clear C ihl P ht;refine callsIn_of_wp func225 rfl h6 ?_ X;simp only[ntmps225,List.size_toArray,Yy,YC,Nat.reduceAdd,Nat.reduceSub,Array.replicate_succ,Array.replicate_zero,List.push_toArray,List.append_toArray,List.nil_append,Yj];gi_wp2_with (first
      |((try refine⟨E _,?_⟩);gi_at_call 225;refine A.mono ?_;clear A;rintro e j (⟨rfl,aq,ax,a8,fn,ay,ar,az,hy,hR⟩|⟨rfl,q,hq,T⟩))
      |((try refine⟨E _,?_⟩);refine hR.mono ?_;clear hR;rintro e R (⟨rfl,af,H,aw,ac⟩|⟨rfl,au⟩))
      |((try refine⟨E _,?_⟩);gi_at_call 225;refine (ihr (n-1) pr Fr _ y4 _ ac aa ai af Xh).mono ?_;rintro e W3 (⟨rfl,ae,ad⟩|⟨rfl,q,hq,ab⟩)))
     .go_ret;exact .inl ⟨rfl,by simpa[Y8] using ae,H.trans ad⟩
     .go_ret;obtain⟨r,ak⟩:=hq;exact .inr ⟨rfl,D++y :: q,⟨r,by simp[<- ak]⟩,by simpa[Y8] using ab⟩
     .go_ret;exact .inr ⟨rfl,D++[y],⟨y4,by simp⟩,by simpa[Y8] using au⟩
     .go_ret;exact .inr ⟨rfl,q,hq.trans ⟨_,rfl⟩,T⟩
    .rw[Xs q3] at K;obtain rfl:y3=[]:=List.map_eq_nil_iff.1 K;have a4:x.t<=a:=O
     simp only[YC] at hN;have A:=(ihl (n-1) pl Fl pre D W P.l an aj hJ O).mono (R':=fun e j =>
       (e=XQ Xy/\j.cell? (o,0)=U (V Y x.f)/\j.cell? (o,1)=U ↑x.t/\j.cell? (o,7)=U ↑pr/\eB j tr pr Fr/\ag (pre++D) j/\XC n₀ W j) \/
       (e=XQ Xx/\∃ q,q <+: D/\Jx (pre++q) j))
      (fun e j h=>h.elim (fun ⟨he,hj,c⟩=>.inl ⟨he,(c.cell (p:=(o,0)) hb).trans c0,(c.cell (p:=(o,1)) hb).trans c1,(c.cell (p:=(o,7)) hb).trans c7,P.r.gV c aa,hj,c⟩) .inr)
     clear ihl P ht;refine callsIn_of_wp func225 rfl h6 ?_ X;simp only[ntmps225,List.size_toArray,Yy,YC,Nat.reduceAdd,Nat.reduceSub,Array.replicate_succ,Array.replicate_zero,List.push_toArray,List.append_toArray,List.nil_append,Yj];gi_wp2_with (first
      |((try refine⟨E _,?_⟩);gi_at_call 225;refine A.mono ?_;clear A;rintro e j (⟨rfl,aq,ax,aw,ac,af,H⟩|⟨rfl,q,hq,T⟩))
      |((try refine⟨E _,?_⟩);gi_at_call 225;refine (ihr (n-1) pr Fr _ y4 _ ac aa ai af Xh).mono ?_;rintro e W3 (⟨rfl,ae,ad⟩|⟨rfl,q,hq,ab⟩)))
     .refine⟨fun _ h=>(by cases h),?_⟩
      gi_wp2_with (first
       |((try refine⟨E _,?_⟩);gi_at_call 225;refine (ihr (n-1) pr Fr _ y4 _ ac aa ai af Xh).mono ?_;rintro e W3 (⟨rfl,ae,ad⟩|⟨rfl,q,hq,ab⟩)))
      .go_ret;exact .inl ⟨rfl,by simpa[Y8] using ae,H.trans ad⟩
      .go_ret;obtain⟨r,ak⟩:=hq;exact .inr ⟨rfl,D++q,⟨r,by simp[<- ak]⟩,by simpa[Y8] using ab⟩
     .go_ret;exact .inr ⟨rfl,q,hq.trans ⟨_,rfl⟩,T⟩
theorem b3x(W:Xz):W.grownBy W.drew Z:=⟨rfl,rfl,rfl,XS _,fun _ _ _=>rfl⟩
theorem b4b(l B1 X T n₀:M)(E o:M)(A:Xo XE)(a b:N)(t:aF.S)(G:J M){Q:aF.It->Prop}(xs:J {x:aF.It // Q x})(f:xs.map (·.1)=aF.meet a b t)(c z:J {x:aF.It // Q x}->Xz->Prop)
  (H:∀ m pre x W,c pre W->pre.length<xs.length->YieldAt Fence.wide m prog l #[x.1.v] W fun e W' =>(e=XQ Xy/\c (pre++[x]) W'/\XC n₀ W W')\/(e=XQ Xx/\z (pre++[x]) W'))
  (y:∀ pre W,c pre W->c pre W.drew)
  (W:Xz) (ac:W.cell? (B1,0)=U (XH (U ⟨E,o,Z⟩))) (ab:W.cell? (X,0)=U ↑a) (aa:W.cell? (T,0)=U ↑b) (hc:W.cell? (E,o)=U ↑A) (I:eB W t A G) (K:∀ i∈G,i<n₀) (P:c [] W):
  XD prog 224 #[.func (.yield l) #[] #[],B1,X,T] W fun e W'=>(∃ v,e=XQ v) /\((∃ ys,ys=xs/\c ys W')\/(∃ pre,pre <+: xs/\z pre W')):=by
 have F:=callsIn_wide.1 (WY Fence.wide rfl trivial rfl l n₀ xs.length a b c z H t 0 A G [] xs W.drew (I.same (aH.refl _ _).drew) K f (y _ _ P) Xc);have C:=aB (F.mono (R':=fun e W'=>(∃ R,e=XQ R)/\((∃ ys,ys=xs/\c ys W')\/(∃ pre,pre <+: xs/\z pre W'))) (fun e W' h=>h.elim (fun ⟨D,hj,_⟩=>⟨⟨_,D⟩,.inl ⟨_,rfl,by simpa using hj⟩⟩) (fun ⟨D,q,hq,hx⟩=>⟨⟨_,D⟩,.inr ⟨q,hq,by simpa using hx⟩⟩)))
 clear F H y P f I K;go_in;go_upto_region 0 with fail;go_region_with (first
  |(go_at_call 225;refine C.out.mono ?_;rintro e W1 ⟨⟨R,rfl⟩,j⟩))
 all_goals go_wp21;go_end0;exact⟨⟨_,rfl⟩,j⟩
open aA (aQ St eD kept fc ek ec jw dB dI jC eS jr cA Inv uniq wE A7)
def QI(r:Raw)(x:aF.It):Prop:=∃ g∈r.eg,x.v=g.eb/\x.n=g.e.id
theorem WW(f:Of s r)(j:(r.eg.map (·.e.id)).Nodup)(o:i<r.tg.length){a b:N}{z:aF.It}(c:z∈aF.meet a b r.tg[i].T):QI r z:=by let⟨_,h1,h2⟩:=f.th i o;rw[aF.AU a b _ h1] at c;obtain⟨e,q,_,sp,_,rfl⟩:=(h2 z).1 (ZW.1 c).1;obtain⟨g,h,rfl⟩:=f.get q;exact⟨g,h,En j h,rfl⟩
def Av(r:Raw):(l:J aF.It)->(∀ z∈l,QI r z)->J {x:aF.It // QI r x}
 |[],_=>[]
 |z :: l,h=>⟨z,h z Xc⟩ :: Av r l (fun y a=>h y (by simp[a]))
theorem Ls(r:Raw):∀ (l:J aF.It)(h:∀ z∈l,QI r z),(Av r l h).map (·.1)=l
 |[],_=>rfl
 |z :: l,h=>by simp[Av,Ls r l]
structure mj(s:St)(M:J aF.It)(l:J (aQ × XA)):Prop where
 len:l.length=(uniq M).length
 at_:∀ (i:Xq) (h:i<l.length),l[i].1∈s.es/\l[i].1.id=((uniq M)[i]'Xb).n
 nd:(l.map (·.1.id)).Nodup
theorem mj.nil(s:St):mj s [] []:=⟨rfl,fun i h=>by grind,by simp⟩
theorem mj.any{c:J aF.It}(h:mj s c l)(n:N):l.any (fun p=>p.1.id==n)=(uniq c).any (fun u=>decide (u.n=n)):=by
 rw[Bool.eq_iff_iff,ZY,ZY];constructor
 .rintro ⟨p,o,e⟩;obtain⟨i,a,rfl⟩:=List.getElem_of_mem o;have:=h.at_ i a;exact⟨_,List.getElem_mem (by have:=h.len;omega:i<(uniq c).length),by simpa[<- this.2] using e⟩
 .rintro ⟨u,j,e⟩;obtain⟨i,a,rfl⟩:=List.getElem_of_mem j;have f:i<l.length:=by rw[h.len];exact a
  have:=h.at_ i f;exact⟨_,List.getElem_mem f,by grind⟩
theorem mj.Ng{M:J aF.It}(h:mj s M l){z:aF.It}(c:l.any (fun p=>p.1.id==z.n)=Xy):mj s (M++[z]) l:=by
 have e:uniq (M++[z])=uniq M:=by rw[A7];unfold wE;rw[<- h.any z.n,c];rfl
 exact⟨by rw[e];exact h.len,fun i a=>by have:=h.at_ i a;simp only[e];exact this,h.nd⟩
theorem mj.ui{f:J aF.It}(h:mj s f l){z:aF.It}(q:uniq (f++[z])=uniq f++[z])(y:e∈s.es)(t:e.id=z.n){sp:XA}(o:i<(l++[(e,sp)]).length):(l++[(e,sp)])[i].1∈s.es/\(l++[(e,sp)])[i].1.id=((uniq (f++[z]))[i]'(by rw[q];have:=h.len;simp at o ⊢;omega)).n:=by
 have c:=h.len;simp only[q];rw[Yx] at o;by_cases a:i<l.length
 .rw[List.getElem_append_left a,List.getElem_append_left O];exact h.at_ i a
 .have j:i=l.length:=Xi
  subst j;rw[List.getElem_append_right aJ,List.getElem_append_right O];simp[c,y,t]
theorem mj.new{a:J aF.It}(h:mj s a l){z:aF.It}(o:l.any (fun p=>p.1.id==z.n)=Xx)(C:e∈s.es)(f:e.id=z.n)(sp:XA):mj s (a++[z]) (l++[(e,sp)]):=by
 have D:uniq (a++[z])=uniq a++[z]:=by rw[A7];unfold wE;rw[<- h.any z.n,o];rfl
 have j:=h.len;refine⟨by grind,fun i A=>?_,?_⟩
 .exact mj.ui h D C f A
 .rw[YS,List.nodup_append];refine⟨h.nd,by simp,fun x q y E=>?_⟩;obtain⟨p,t,rfl⟩:=YN.1 q;have:y=e.id:=Xi
  subst this;intro c;have:=List.any_eq_false.1 o p t;simp[c,f] at this
theorem Kv:∀ {l m:J N},l.Nodup->(∀ x∈l,x∈m)->l.length<=m.length
 |[],_,_,_=>zN _
 |a :: l,m,hn,h=>by rw[List.nodup_cons] at hn;have c:=h a Xc;have:=Kv (l:=l) (m:=m.erase a) hn.2 (fun x f=>(List.mem_erase_of_ne (show x≠a from fun e=>hn.1 Xi)).2 (h x (by simp[f])));rw[List.length_erase_of_mem c] at this;have:=List.length_pos_of_mem c;simp;omega
theorem mj.small{j:J aF.It}(h:mj s j l):l.length<=s.es.length:=by
 have:=Kv (m:=s.es.map (·.id)) h.nd (fun x a=>by obtain⟨p,c,rfl⟩:=YN.1 a;obtain⟨i,f,rfl⟩:=List.getElem_of_mem c;exact YN.2 ⟨_,(h.at_ i f).1,rfl⟩)
 simpa using this
theorem Ed{e size:M}(h:w.ownsRow B e size v n xs)(c:v.ownBlock=U b):∃ cs k,w.heap[b]?=U (XR cs e k):=by
 rcases h.2 with ⟨rfl,_⟩|⟨g,cap,f,rfl,_,a,_⟩
 .cases c
 .obtain rfl:g=b:=by simpa[Y9] using c
  exact⟨_,_,a⟩
theorem iw.wW(h:iw wx B aM v l){sp:XA}(z:w2.ownsRow wx 83 2 sp e.aR.length (e.aR.flatMap ia))(k:XC wx wx w2)(F:B<=wx)(E:∀ b,B<=b->aM b=Z)(D:aH v.ownBlock.toList w2 w3)(f:w3.ownsRow B 85 6 v' (l.length+1) (l.flatMap gv++gv (e,sp))):iw w3 B aM v' (l++[(e,sp)]):=by
 have t:∀ b,v.ownBlock=U b->b<wx:=fun b a=>(h.own.lt b a).2;have A:∀ p∈l,w3.ownsRow B 83 2 p.2 p.1.aR.length (p.1.aR.flatMap ia):=fun p c=>dL (fH (h.sp p c).1.own k) D (fun b a j=>(h.sp p c).2 b a (Zl.1 j));have o:=dL (Joins.ownsRow_le z F) D (fun b a j=>by have H:=(z.lt b a).1;have G:=t b (Zl.1 j);omega);have C:∀ {q:XA}{n:M}{xs:J XA},w3.ownsRow B 83 2 q n xs->∀ b,q.ownBlock=U b->v'.ownBlock≠U b:=fun y b a j=>by let⟨c1,k1,e1⟩:=Ed y a;let⟨c2,k2,e2⟩:=Ed f j;have:=e1.symm.trans e2;simp at this
 refine⟨?_,fun b a=>E b (f.lt b a).1,fun p c=>?_,?_⟩
 .rw[Yx,YV];have:[(e,sp)].flatMap gv=gv (e,sp):=Xc
  rw[this];exact f
 .rcases X8.1 c with c|c
  .exact⟨⟨A p c,(h.sp p c).1.no⟩,C (A p c)⟩
  .have:p=(e,sp):=List.mem_singleton.1 c;subst this;exact⟨⟨o,fun b a=>E b (o.lt b a).1⟩,C o⟩
 .refine ZT.2 ⟨h.pw,List.pairwise_singleton _ _,fun p c q y b a j=>?_⟩;rw[List.mem_singleton.1 y] at j;have H:=(z.lt b j).1;have G:=((h.sp p c).1.own.lt b a).2;omega
theorem b5L(p:Xo XE)(a b:N)(w:Xz):XD prog 194 #[p,a,b] w fun e w'=>e=XQ (.func (.func 224) #[] #[w,XH (U ⟨w.heap.size+1,0,Z⟩),XH (U ⟨w.heap.size+2,0,Z⟩)])/\w'=((w.alloc (XR #[p] 293)).alloc (XR #[a] 3)).alloc (XR #[b] 3):=by
 go_in;go_wp21;go_ret;exact⟨rfl,rfl⟩
theorem WX(n:M)(r:Raw)(A z y n₀ f o:M)(h:Xo XE)(a b:N)(t:aF.S)(G:J M)(xs:J {x:aF.It // QI r x})(j:xs.map (·.1)=aF.meet a b t)(w:Xz)(T:w.cell? (A,0)=U (XH (U ⟨f,o,Z⟩)))(R:w.cell? (z,0)=U ↑a)(P:w.cell? (y,0)=U ↑b)(F:w.cell? (f,o)=U ↑h)(I:eB w t h G)(C:∀ i∈G,i<n₀)(D:n₀<=w):SeqStopsK Fence.wide n prog 224 #[A,z,y] (fun x:{x:aF.It // QI r x}=>#[Value.pointer (U ⟨x.1.v,0,Z⟩)]) (XC n₀) (fun ys=>ys=xs) (fun pre=>pre <+: xs) xs.length w:=by
 intro l aa Jx W c K _ H X;refine callsIn_wide.2 ?_;exact b4b l A z y n₀ f o h a b t G xs j aa Jx (fun m pre x W' q E=>YieldAt.jV rfl m (H pre x W' q E)) (fun pre W' q=>K pre W' _ Z q (b3x W') (fun r e=>by cases e)) W (aT c T) (aT c R) (aT c P) (aT c F) (I.gV (c.mono D) C) C X
open aA (aQ St eD kept fc ek ec jw dB dI jC eS jr cA Inv uniq)
attribute [local go_sem] Oper.semAt_some
structure LI(w W:Xz)(s:St)(aM:Xq->Xo bO)(M:J aF.It):Prop where
 bx:∃ v l,Boxed W (w.heap.size+1) 43 v/\iw W (w.heap.size+5) aM v l/\mj s M l
 bl:XC w w W
 sz:w+5<=W.heap.size
theorem J9{row:Xo M}{e size:M}(h:W.ownsRow B e size v n xs)(f:W.grownBy W' row)(c:∀ r,row=U r->∃ o:Obj,W.heap[r]?=U o/\o.isCells=Xx):W'.ownsRow B e size v n xs:=by
 refine h.kept f ?_;rcases h.2 with ⟨rfl,_⟩|⟨g,cap,q,rfl,_,a,_⟩
 .exact .inl rfl
 .refine .inr fun j=>?_
  let⟨o,ho,hc⟩:=c g (by simpa[Y9] using j.symm);rw[a] at ho;cases ho;cases hc
theorem Ta(w:Xz)(s:St)(r:Raw)(aM:M->Xo bO)(q:w<=B):OwnFrom B (fun (pre:J {x:aF.It // QI r x}) W=>LI w W s aM (pre.map (·.1))):=by intro pre W W' row h c a;have f:∀ r,row=U r->∃ o:Obj,W.heap[r]?=U o/\o.isCells=Xx:=fun r e=>(a r e).2;let⟨v,l,hv,er,tl⟩:=h.bx;exact⟨⟨v,l,A8 hv c f,⟨J9 er.own c f,er.no,fun p j=>⟨⟨J9 (er.sp p j).1.own c f,(er.sp p j).1.no⟩,(er.sp p j).2⟩,er.pw⟩,tl⟩,h.bl.grown c h.bl.size (fun k e=>XU q (a k e).1),XU h.sz c.size⟩
theorem WM(h:XC W W W'):KeepsFrom B W W':=⟨h.size,fun k _ _ a _=>(h.block k (Array.getElem?_eq_some_iff.1 a).1).trans a⟩
theorem b7J(X:Xz)(p x y:XA)(a c f:TypeId):XC X X (((X.alloc (XR #[p] a)).alloc (XR #[x] c)).alloc (XR #[y] f)).drew/\(((X.alloc (XR #[p] a)).alloc (XR #[x] c)).alloc (XR #[y] f)).drew.cell? (X,0)=U p/\(((X.alloc (XR #[p] a)).alloc (XR #[x] c)).alloc (XR #[y] f)).drew.cell? (X.heap.size+1,0)=U x/\(((X.alloc (XR #[p] a)).alloc (XR #[x] c)).alloc (XR #[y] f)).drew.cell? (X.heap.size+2,0)=U y/\(((X.alloc (XR #[p] a)).alloc (XR #[x] c)).alloc (XR #[y] f)).drew.heap.size=X.heap.size+3:=by have o:=Boxed.new X a p;have j:=Boxed.new (X.alloc (XR #[p] a)) c x;have h:=Boxed.new ((X.alloc (XR #[p] a)).alloc (XR #[x] c)) f y;simp only[Zm] at j h;exact⟨((((zr _ X).alloc aJ _).alloc Xc _).alloc Xh _).drew,((o.alloc _).alloc _).cell,(j.alloc _).cell,h.cell,by simp_all⟩
theorem a1Z{F:Fence}{P:Program}(w:Xz){y:Array Oper}{o:Oper}{a:Act}{K:Act->Xz->Prop}{Q:Exit->Act->Xz->Prop}{E:Prop}
  (T:o.guard=Z) (s x:Operand) (t:TypeId) (C:o.op=Op.call { callee:=Callee.builtin Builtin.append,args:=#[s,x],argTypes:=#[t,t] })
  (q:M) (e:TypeId) (i:TypeInfo) (z:XA) (size h:M) (h1:P.underlying t=U (.slice e)) (h2:P.info? e=U i) (h3:i.zero=U z) (h4:i.size=size) (h5:i.bytes=h) (h6:z.cells.size=size) (h7:0<size)
  (v:XA) (k:M) (xs:J XA) (R:a.eval s=v) (A:w.ownsRow q e size v k xs) (G:XE) (m c:M) (f:J XA) (H:a.eval x=XI (U G) m c) (S:f.length=m*size)
  (X:∀ j u,f[j]?=U u->w.cell? (G.add j)=U u) (D:∀ u∈f,u.oneCell'=Xy) (b1:k+m<=maxLen) (b2:(k+m)*h<=140737488355328) (b3:q<=w)
  (hK:∀ v' w',w'.ownsRow q e size v' (k+m) (xs++f)->w.grownBy w' v.ownBlock->K (a.put o.dst v') w'):
  if Region.wanted o (yielded y a.tmps)=Xy then Oper.wpIn F n P o a w K Q else E:=by
 have I:Region.wanted o (yielded y a.tmps)=Xy:=by simp[Region.wanted,T]
 rw[Xt I];let⟨v',w',hrun,r1,r2,r3⟩:=run_append_own (P:=P) w q t o.type e i z size h h1 h2 h3 h4 h5 h6 h7 v k xs A G m c f S X D b1 b2 b3;unfold Oper.wpIn;refine⟨?_,?_⟩;simp[Oper.about,C,resolve,Target.leads,Sem.run_pure];rw[Oper.semAt_plain F _ _ Xi];simp[execOp,C,resolve,invoke,builtin,R,H,hrun,Result.andThen];exact hK v' w' r1 r2
theorem a6Y(h:W.cell? (b,i)=U v)(o:Obj):(W.alloc o).cell? (b,i)=U v:=(zo (w:=W) (Below.heap_alloc _ o _ (XV _ _ h))).trans h
theorem b6K{A:J aF.It}(h:LI w W s aM A)(t:Boxed W (w.heap.size+1) 43 (XI a1 tl.length c1))(z:iw W (w.heap.size+5) aM (XI a1 tl.length c1) tl)(j:XC W W w1)(f:XC w1.drew.heap.size w1.drew w2)(o:Obj)(a:(w2.alloc o).grownBy w3 (XI a1 tl.length c1).ownBlock):Boxed w3 (w.heap.size+1) 43 (XI a1 tl.length c1):=by
 have C:=h.sz;have q:XC W W w1.drew:=j.drew;have c:XC W W w2:=q.trans (f.mono q.size);have y:Boxed w2 (w.heap.size+1) 43 (XI a1 tl.length c1):=(c.block _ O).trans t;exact (y.alloc o).kept a (fun e=>by have:=(z.own.lt _ e.symm).1;omega)
theorem b6J{T:J aF.It}(h:LI w W s aM T)(hv:Boxed W (w.heap.size+1) 43 (XI a1 tl.length c1))(R:iw W (w.heap.size+5) aM (XI a1 tl.length c1) tl)(G:mj s T tl)(P:XC W W w1){sp:XA}(ho:w2.ownsRow w1.drew.heap.size 83 2 sp e.aR.length (e.aR.flatMap ia))(K:XC w1.drew.heap.size w1.drew w2)(o:Obj)
  (t:(w2.alloc o).grownBy w3 (XI a1 tl.length c1).ownBlock) (D:w3.ownsRow (w.heap.size+5) 85 6 v' (tl.length+1) (tl.flatMap gv++gv (e,sp))) (hc:∀ b,w.heap.size<=b->aM b=Z) {z:aF.It}(ha:tl.any (fun p=>p.1.id==z.n)=Xx) (he:e∈s.es) (hn:e.id=z.n):
  KeepsFrom B W (w3.setCell ⟨w.heap.size+1,0,Z⟩ v')/\XC w.heap.size W (w3.setCell ⟨w.heap.size+1,0,Z⟩ v')/\LI w (w3.setCell ⟨w.heap.size+1,0,Z⟩ v') s aM (T++[z]):=by
 have X:=h.sz;have H:=P.drew;have a:=H.trans (K.mono H.size);have c:=aH.grown ((aH.refl _ w2).alloc _) t (fun k f=>.inl (Zl.2 f));have E3:=R.wW (Joins.ownsRow_le ho H.size) a X (fun b y=>hc b O) c D;have aa:∀ b,(XI a1 tl.length c1).ownBlock=U b->w+5<=b:=fun b y=>(R.own.lt b y).1;have A:=aH.bM (w.heap.size+1) w3 0 v';have bk:∀ b,b<W.heap.size->b≠w.heap.size+1->(XI a1 tl.length c1).ownBlock≠U b->(w3.setCell ⟨w.heap.size+1,0,Z⟩ v').heap[b]?=W.heap[b]?:=fun b y h1 h2=>by rw[A.block b (zL (zL y a.size) c.size) (fun C=>h1 (List.mem_singleton.1 C)),c.block b (zL y a.size) (fun C=>h2 (Zl.1 C)),a.block b y]
 have I:Boxed w3 (w.heap.size+1) 43 (XI a1 tl.length c1):=(c.block _ (by have:=a.size;omega) (fun C=>by grind)).trans ((a.block _ O).trans hv);have j:W<=(w3.setCell (w.heap.size+1,0) v').heap.size:=XU a.size (XU c.size A.size);have F:XC w W (w3.setCell (w.heap.size+1,0) v'):=⟨A.os.trans (c.os.trans a.os),A.tape.trans (c.tape.trans a.tape),A.output.trans (c.output.trans a.output),j,fun b y=>bk b O O (fun C=>by grind)⟩;refine⟨⟨j,fun k o' _ f E=>(bk k (Array.getElem?_eq_some_iff.1 f).1 (fun S=>?_) (fun S=>?_)).trans f⟩,F,⟨⟨v',tl++[(e,sp)],I.set v',E3.off A (fun x C=>by grind),G.new ha he hn sp⟩,h.bl.trans F,XU X j⟩⟩
 .subst S;rw[show W.heap[w.heap.size+1]?=_ from hv] at f
  cases f;cases E
 .let⟨cs,q,e2⟩:=Ed R.own S;rw[e2] at f
  cases f;cases E
def Ji(Q:Exit->Act->Xz->Prop):Exit->Act->Xz->Prop
 |.panic _,_,_=>False
 |.normal,a,w=>Q .normal a w
 |.ret,a,w=>Q .ret a w
 |.exit i,a,w=>Q (.exit i) a w
 |.goto t,a,w=>Q (.goto t) a w
 |.outgrown,a,w=>Q .outgrown a w
theorem Vp{Q:Exit->Act->Xz->Prop}:∀ e a w,Ji Q e a w->Q e a w
 |.panic _,_,_,h=>h.elim
 |.normal,_,_,h=>h
 |.ret,_,_,h=>h
 |.exit _,_,_,h=>h
 |.goto _,_,_,h=>h
 |.outgrown,_,_,h=>h
theorem VS{Q:Exit->Act->Xz->Prop}{a:Act}(h:Q .ret a w):Ji Q .ret a w:=h
theorem Lr(h:eH w d s r aM)(hi:i<r.tg.length)(a b:N):XD prog 156 #[XH (U ⟨r.tg[i].tb,0,Xv⟩),XM #[V Y a,V Y b]] w fun e w'=>∃ v l,e=XQ v/\l.map (·.1)=aA.nC r.tg[i].name a b s.es/\iw w' w.heap.size aM v l/\XC w.heap.size w w':=by
 obtain⟨i0,an,ak,aj,ai⟩:=info_parts Kn;obtain⟨ul,us,Fl,Fs,th,aw⟩:=h.dk.th i hi;have S:=aB h;have a3:r.tg[i].tb<w.heap.size:=XV _ _ th.c0;have xa:((w.alloc (XR #[V Y a,V Y b] 83)).alloc (XR #[XI Xv 0 0] 43)).cell? ⟨w.heap.size,0,Xv⟩=U (V Y a):=Xc;have xb:((w.alloc (XR #[V Y a,V Y b] 83)).alloc (XR #[XI Xv 0 0] 43)).cell? ⟨w.heap.size,1,Xv⟩=U (V Y b):=Xc;have bt:=Boxed.new (w.alloc (XR #[V Y a,V Y b] 83)) 43 (XI Xv 0 0);have hX:XC w.heap.size w ((w.alloc (XR #[V Y a,V Y b] 83)).alloc (XR #[XI Xv 0 0] 43)):=((zr _ _).alloc (zq _) _).alloc Xc _;have ac:((w.alloc (XR #[V Y a,V Y b] 83)).alloc (XR #[XI Xv 0 0] 43)).heap.size=w.heap.size+2:=Xc;rw[Zm] at bt;have HX:=aB (Yc hX (Yc ac bt));have HT:=aB th;clear h th hX bt;refine (callsIn_wide (n:=3)).1 ?_;refine callsIn_of_wp_marks func156 rfl trivial ?_ rfl;simp only[ntmps156,List.size_toArray,Yy,YC,Nat.reduceAdd,Nat.reduceSub,Array.replicate_succ,Array.replicate_zero,List.push_toArray,List.append_toArray,List.nil_append,Yj];refine wpIn_wide.2 (Code.wp_mono Vp ?_);generalize r.tg[i].tb=tb at *;go_upto_region 2 with fail;change Code.wp _ _ _ _ ((w.alloc (XR #[V Y a,V Y b] 83)).alloc (XR #[XI Xv 0 0] 43));generalize (w.alloc (XR #[V Y a,V Y b] 83)).alloc (XR #[XI Xv 0 0] 43)=X at *;have ME:=aB (b5L (U ⟨tb,3,Xv⟩) a b X.drew);have aq:X.drew.heap.size=w.heap.size+2:=ac;rw[aq] at ME;go_region_with (first
  |(go_at_call 194;refine ME.out.mono ?_;rintro e w1 ⟨rfl,rfl⟩))
 all_goals
  obtain⟨k0,z1,z2,z3,z4⟩:=b7J X (XH (U ⟨tb,3,Xv⟩)) (V Y a) (V Y b) 293 3 3;rw[ac] at z1 z2 z3 z4;go_wp2_with fail;generalize (((X.alloc (XR #[XH (U ⟨tb,3,Xv⟩)] 293)).alloc (XR #[V Y a] 3)).alloc (XR #[V Y b] 3)).drew=Z at *;have BZ:XC w.heap.size w Z:=HX.out.1.trans (k0.mono HX.out.1.size);have L0:Hid (LI w Z s aM ([]:J aF.It)):=⟨⟨_,[],(k0.block _ O).trans HX.out.2.2,iw.nil _ _ _,mj.nil s⟩,BZ,by omega⟩;have H:=Ls r (aF.meet a b r.tg[i].T) (fun z hz=>WW S.out.of S.out.dk.ni hi hz);generalize Av r (aF.meet a b r.tg[i].T) _=xs at H;have MS:=aB (WX 2 r (w.heap.size+2) (w.heap.size+2+1) (w.heap.size+2+2) w.heap.size tb 3 us a b r.tg[i].T Fs xs H Z z1 z2 z3 (aT BZ HT.out.c3) (HT.out.sp.gV BZ (fun k hk=>HT.out.lt k (by simp[hk]))) (fun k hk=>HT.out.lt k (by simp[hk])) O);have au:=aB H;have h5:w.heap.size<=Z.heap.size:=O;clear k0 z1 z2 z3 H xa xb ME;refine (wpIn_wide (n:=3)).1 ?_;refine wpIn_rangeFunc_ownG rfl O (gf:=224) (lb:=#[XH (U ⟨w.heap.size+2,0,Xv⟩),XH (U ⟨w.heap.size+2+1,0,Xv⟩),XH (U ⟨w.heap.size+2+2,0,Xv⟩)]) rfl trivial (enters_of func224 Xg rfl) MS.out belowK_t (belowK_b h5) (zr _ _) (fun _=>rfl)
   (fun pre W=>LI w W s aM (pre.map (·.1))) (fun _ _ _=>False) (Ta w s r aM h5) (fun _ _ _ _ _ hs _ _=>hs) L0.out
   (fun x=>{ tmps:=#[XH (U ⟨tb,0,Xv⟩),XM #[V Y a,V Y b],undef,XH (U ⟨w.heap.size,0,Xv⟩),XI Xv 0 0,XH (U ⟨w.heap.size+1,0,Xv⟩),XH (U ⟨x.1.v,0,Xv⟩),XH (U ⟨tb,0,Xv⟩),XH (U ⟨tb,0,Xv⟩),XH (U ⟨tb,3,Xv⟩),XH (U ⟨w.heap.size,0,Xv⟩),V Y a,XH (U ⟨w.heap.size,1,Xv⟩),V Y b,.func (.func 224) #[] #[XH (U ⟨w.heap.size+2,0,Xv⟩),XH (U ⟨w.heap.size+2+1,0,Xv⟩),XH (U ⟨w.heap.size+2+2,0,Xv⟩)],XH (U ⟨x.1.v,0,Xv⟩),undef,undef,undef,undef,undef,undef,undef,undef,undef,undef,undef],defers:=[] }) ?assign ?body ?done ?stop
  case assign =>intro l x W K f;gi_wp2;exact f
  case body =>
   rintro l pre x W h ba;obtain⟨g,hg,ev,en⟩:=x.2;obtain⟨v,tl,hv,P,t⟩:=h.bx;obtain⟨a1,c1,rfl⟩:=lz P.own;have ao:=hv.cell;have a8:=XU t.small (kS S.out.bA);have dW:=S.out.dk.later h.bl;have CT:=aB (a8q tl _ (w.heap.size+5) g.eb g.e.id W P.own (fun p hp=>by obtain⟨x1,x2,x3⟩:=lz (P.sp p hp).1.own;exact⟨x1,_,x2,x3⟩) (dW.en g hg).1.en.c0 O);have R:=aB (Yc h (Yc hv (Yc P t)));have a7:=h.sz;have TE:=aB (fun W' (k:XC w.heap.size w W')=>S.out.kU k hg);clear h hv P t dW;rw[<- ev] at CT;simp only[<- ev] at TE;have ad:=aB (Yc ev en);clear ev en
   cases A:tl.any (fun p=>p.1.id==g.e.id)
   .rw[A] at CT
    gi_wp2;refine⟨trivial,?_⟩;refine (CallsIn.inRound l (callsIn_wide.2 CT.out)).mono ?_;rintro e w1 ⟨rfl,q⟩;gi_wp2;have ae:prog.follows .mixedOrders=Xy:=Xg;have F:Hid (XC w.heap.size w w1/\XC W.heap.size W w1):=⟨R.out.1.bl.trans (q.mono R.out.1.bl.size),q⟩;have ag:=aT q ao;have ar:=aB (TE.out w1.drew F.out.1.drew);clear TE CT q;refine wpIn_region_any ae ?_;change wpAnyIn _ _ _ _ _ _ _ _ _ (World.drew _);refine wpAnyIn_ready (rs:=[0,1]) Xg Xc ?_;refine AllReadyIn.cons rfl (fun K f=>?_) (AllReadyIn.cons rfl (fun K f=>?_) AllReadyIn.nil);go_simp;refine f _ _ ?_;clear f K;refine wpAnyIn_ready (rs:=[1]) Xg Xc ?_;refine AllReadyIn.cons rfl (fun K f=>?_) AllReadyIn.nil;go_simp;refine f _ _ ?_;clear f K;refine wpAnyIn_ready (rs:=[2]) Xg Xc ?_;refine AllReadyIn.cons rfl (fun K f=>?_) AllReadyIn.nil;rotate_left;go_simp;refine f _ _ ?_;clear f K;refine wpAnyIn_ready (rs:=[0,2]) Xg Xc ?_;refine AllReadyIn.cons rfl (fun K f=>?_) (AllReadyIn.cons rfl (fun K f=>?_) AllReadyIn.nil);go_simp;refine f _ _ ?_;clear f K;refine wpAnyIn_ready (rs:=[2]) Xg Xc ?_;refine AllReadyIn.cons rfl (fun K f=>?_) AllReadyIn.nil;all_goals go_simp;refine⟨trivial,(CallsIn.inRound l (callsIn_wide.2 ar.out)).mono ?_⟩;rintro e w2 ⟨v2,rfl,a4,rfl,ab,E⟩;refine f _ _ ?_;clear f K;obtain⟨sa,sc,rfl⟩:=lz ab;simp only[ry];have af:w2.cell? ⟨w.heap.size+1,0,Xv⟩=U (XI a1 tl.length c1):=aT E ag;have a9:w.heap.size+5<=w2.heap.size:=XU (XU R.out.1.sz F.out.2.size) E.size;have OW:=aB (fH (fH R.out.2.2.1.own F.out.2.drew) E);have S2:=aB (Yc ab E);clear ab E
    rotate_left;refine wpAnyIn_ready (rs:=[0,3]) Xg Xc ?_;refine AllReadyIn.cons rfl (fun K f=>?_) (AllReadyIn.cons rfl (fun K f=>?_) AllReadyIn.nil);go_simp;refine f _ _ ?_;clear f K;refine wpAnyIn_ready (rs:=[3]) Xg Xc ?_;refine AllReadyIn.cons rfl (fun K f=>?_) AllReadyIn.nil;rotate_left 2;refine wpAnyIn_ready (rs:=[3]) Xg Xc ?_;refine AllReadyIn.cons rfl (fun K f=>?_) AllReadyIn.nil;rotate_left;refine wpAnyIn_ready (rs:=[3]) Xg Xc ?_;refine AllReadyIn.cons rfl (fun K f=>?_) AllReadyIn.nil;rotate_left;all_goals go_simp;refine f _ _ ?_;clear f K;have aa:=a6Y af (XR #[V Y g.e.id,V Y g.e.kind,XJ g.e.bH,V Y g.e.aN,XI sa g.e.aR.length sc,V Y g.e.bZ] 85);obtain⟨V3,I⟩:∃ V3,V3=w2.alloc (XR #[V Y g.e.id,V Y g.e.kind,XJ g.e.bH,V Y g.e.aN,XI sa g.e.aR.length sc,V Y g.e.bZ] 85):=⟨_,rfl⟩;rw[<- I] at aa;rw[<- I];have AV:Hid (V3=w2.alloc (XR (gv (g.e,XI sa g.e.aR.length sc)).toArray 85)):=aB I;clear I
    rotate_left;refine wpAnyIn_ready (rs:=[0]) Xg Xc ?_;refine AllReadyIn.cons rfl (fun K f=>?_) AllReadyIn.nil;go_simp;refine f _ _ ?_;clear f K;all_goals refine wpAnyIn_ready (rs:=[4]) Xg Xc ?_;refine AllReadyIn.cons rfl (fun K f=>?_) AllReadyIn.nil;refine a1Z V3 rfl (.tmp 21) (.tmp 24) 43 rfl (w.heap.size+5) 85 i0 _ 6 72 underlying43 an ak aj ai rfl Xd (XI a1 tl.length c1) tl.length (tl.flatMap gv) rfl (by rw[AV.out];exact OW.out.alloc _) ⟨w2.heap.size,0,Xv⟩ 1 1 (gv (g.e,XI sa g.e.aR.length sc)) rfl rfl (by rw[AV.out];exact Ze (cs:=(gv (g.e,XI sa g.e.aR.length sc)).toArray) (dH w2 _)) (by simp[gv,Zf]) Xj O (by rw[AV.out];simp;omega) ?_;intro v3 w3 y o;obtain⟨az,ay,rfl⟩:=lz y;refine f _ _ ?_;clear f K;rw[AV.out] at o;have BX:=b6K R.out.1 R.out.2.1 R.out.2.2.1 F.out.2 S2.out.2 _ o;have ax:=BX.cell;have av:=BX.frozen;have G3:=aB (Yc y o);clear y o BX AV aa;refine wpAnyIn_ready (rs:=[5]) Xg Xc ?_;refine AllReadyIn.cons rfl (fun K f=>?_) AllReadyIn.nil;go_simp;refine f _ _ ?_;clear f K;refine wpAnyIn_done Xg ?_ _;have C:=R.out;have hL:=b6J (B:=Z.heap.size) C.1 C.2.1 C.2.2.1 C.2.2.2 F.out.2 S2.out.1 S2.out.2 _ G3.out.2 G3.out.1 (fun b hb=>S.out.dk.none hb) (z:=x.1) (by rw[ad.out.2];exact A) (S.out.of.mem hg) ad.out.2.symm;refine⟨hL.1,hL.2.1,?_⟩;show LI w _ s aM (List.map (fun x=>x.val) (pre++[x]));rw[YS];exact hL.2.2
   .rw[A] at CT
    gi_wp2;refine⟨trivial,?_⟩;refine (CallsIn.inRound l (callsIn_wide.2 CT.out)).mono ?_;rintro e w1 ⟨rfl,q⟩;gi_wp2;have C:=R.out;exact⟨WM q,q.mono C.1.bl.size,⟨⟨_,tl,(q.block _ C.2.1.lt).trans C.2.1,C.2.2.1.later q,by have:=C.2.2.2.Ng (z:=x.1) (by rw[ad.out.2];exact A);simpa using this⟩,C.1.bl.trans (q.mono C.1.bl.size),XU C.1.sz q.size⟩⟩
  case done =>
   rintro D ys W hD rfl h f;obtain⟨v,tl,hv,P,t⟩:=h.bx;have hc:=hv.cell;obtain⟨a1,c1,rfl⟩:=lz P.own;have HF:Hid (tl.map (·.1)=aA.nC r.tg[i].name a b s.es):=by
    rw[au.out] at t;have it:=(S.out.of.th i hi).2;have G:=S.out.inv;obtain⟨p1,p2⟩:=aA.Ua (ys:=tl.map (·.1)) (a:=a) (b:=b) it G.ids (fun e he=>(G.en e he).ri) (fun e he sp hs=>((G.en e he).sp sp hs).1) (by rw[Zd];exact t.len) (fun j hj=>by
     have al:j<tl.length:=by simpa using hj
     have:=t.at_ j al;simpa using this)
    exact aA.La G.ids p1 p2
   have HE:Hid (iw W w.heap.size aM (XI a1 tl.length c1) tl/\XC w.heap.size w W):=⟨P.base O,h.bl⟩;clear h P t hv;go_wp2_with fail;refine VS ?_;refine⟨by simp,.inl ⟨_,_,rfl,run_takeDeferred f,?_⟩⟩;have kp:XC W.heap.size W (W.putObj D (.deferred Xv))->True:=fun _=>trivial;refine⟨_,results_tmp rfl _ _ _,_,tl,rfl,HF.out,?_,HE.out.2.trans (belowK_b (w:=w) (zq _) W D _ _ O f rfl rfl)⟩;exact⟨ownsRow_putObj HE.out.1.own _ f rfl,HE.out.1.no,fun p hp=>⟨⟨ownsRow_putObj (HE.out.1.sp p hp).1.own _ f rfl,(HE.out.1.sp p hp).1.no⟩,(HE.out.1.sp p hp).2⟩,HE.out.1.pw⟩
  case stop =>rintro D c pre W _ _ h _;exact h.elim
theorem MX(f:eS s)(h:gH s name 0 fr til≠0):aA.aX s (.list name fr til)=(s,aA.bS.error (gH s name 0 fr til)):=by
 have o:=aA.Gc f.tu name;simp only[aA.aX];unfold gH aA.eW at *;by_cases a:aA.cI name s.ts=0
 .rw[Xt a];simp[a]
 .have j:¬ (aA.cI name s.ts<0):=O
  simp only[a,j] at h ⊢;by_cases c:til<=fr
  .simp[c]
  .simp[c] at h
theorem Ln(h:gH s name 0 fr til=0):aA.aX s (.list name fr til)=(s,⟨0,0,0,aA.nC name fr til s.es,[],[],[]⟩):=by
 let⟨h1,h2⟩:=ub h;have a:aA.cI name s.ts≠0:=fun e=>by unfold aA.eW at h1;rw[Xt e] at h1;omega
 simp only[aA.aX];rw[Xs a,Xs O];rfl
theorem Lb(name:Xm)(c:Xp)(fr til a b:N):XC w w (((w.alloc (XR #[name,c,fr,til] 163)).alloc bI).alloc (XR #[a,b] 83))/\(((w.alloc (XR #[name,c,fr,til] 163)).alloc bI).alloc (XR #[a,b] 83)).heap[w.heap.size+1]?=U bI/\(((w.alloc (XR #[name,c,fr,til] 163)).alloc bI).alloc (XR #[a,b] 83)).cell? (w.heap.size+1+1,0)=U ↑a/\(((w.alloc (XR #[name,c,fr,til] 163)).alloc bI).alloc (XR #[a,b] 83)).cell? (w.heap.size+1+1,1)=U ↑b/\(((w.alloc (XR #[name,c,fr,til] 163)).alloc bI).alloc (XR #[a,b] 83)).heap.size=w.heap.size+3:=by have h:=dH (w.alloc (XR #[name,c,fr,til] 163)) bI;have f:=dH ((w.alloc (XR #[name,c,fr,til] 163)).alloc bI) (XR #[a,b] 83);rw[Zm] at h;rw[Zm,Zm] at f;refine⟨(aS.alloc Xc _).alloc Xi _,(Below.heap_alloc _ _ _ Xi).trans h,?_,?_,by simp_all⟩;simp only[Yh,f];rfl;simp only[Yh,f];rfl
theorem Vi(h:eH w d s r aM)(name:Xm)(hn:name.size<=1000)(wi:Xp)(fr til:N):XD prog 106 #[d,XM #[name,wi,fr,til]] w fun e w'=>∃ v,e=XQ v/\eu w d aM (aA.aX s (.list name (if wi then fr else 0) (if wi then til else 1048320))) v w':=by
 have o:=aB h;clear h
 cases wi
 .simp only[reduceIte,Bool.false_eq_true];obtain⟨hX,A,D,C,aa⟩:=Lb (w:=w) name Xx fr til 0 1048320;have G:=aB (wK (o.dk.later hX) o.of o.bA name hn 0 0 1048320);have z:=aB (Yc hX A);clear hX A
  go_in;unfold bI at G z D C aa;go_upto_region 9 with fail;generalize (((w.alloc (XR #[name,Xx,fr,til] 163)).alloc (XR #[V Y 0,V Y 0,V Y 0,(),(),(),()] 74)).alloc (XR #[V Y 0,V Y 1048320] 83))=X at *;refine G.mono ?_;rintro e w1 ⟨hp,q⟩;have F:=z.1.trans (q.mono z.1.size);have QX:=(Q7.of z.2).later (q.block _ O);rcases hp with ⟨t,rfl⟩|⟨t,i,hi,e1,e2,rfl⟩
  .have HD:=aB (MX o.bA t);generalize gH s name 0 0 1048320=y at *;have ac:(y != 0)=Xy:=bV t
   clear t G z q D C;go_wp21;refine aK (ly y w1) fun w2 j=>?_;have E:=aB (o.refuse F QX j HD);obtain⟨T,S,R,P,K,I,H,fq⟩:=E.1;simp only[bT];go_wp21;exact cV results106 ⟨T,S,R,P,K,I,H,fq⟩ ⟨_,rfl,E.2⟩
  .have HD:=aB (Ln t);have y1:=aT q D;have y2:=aT q C;have ab:w+3<=w1.heap.size:=by have:=q.size;omega
   have TL:=aB (Lr (w:=w1) (s:=s) ⟨o.dk.later F,o.of,o.wl,o.hl,o.inv⟩ hi 0 1048320);rw[e1] at TL;clear t G z q D C e1 e2;go_wp21;refine TL.mono ?_;rintro e w2 ⟨v,l,rfl,hl,y,j⟩;obtain⟨a1,c1,rfl⟩:=lz y.own;have hq:=j.block (w.heap.size+1) (XV _ _ QX.q0);have E:Hid (∀ a b c e f g i,eu w d aM (aA.aX s (.list name 0 1048320)) (bT 0 0 0 (XI a1 l.length c1) () () ()) (dE w2 (w.heap.size+1) a b c e f g i)):=fun a b c e f g i=>by rw[HD,<- hl];exact o.iH (F.trans (j.mono F.size)) O (y.base O) a b c e f g i
   obtain⟨T,S,R,P,K,I,H,fq⟩:=QX.later hq;clear TL y hl j hq;go_wp21;exact cV results106 ⟨T,S,R,P,K,I,H,fq⟩ ⟨_,rfl,E _ _ _ _ _ _ _⟩
 .simp only[if_true];obtain⟨hX,A,D,C,aa⟩:=Lb (w:=w) name Xy fr til fr til;have G:=aB (wK (o.dk.later hX) o.of o.bA name hn 0 fr til);have z:=aB (Yc hX A);clear hX A
  go_in;unfold bI at G z D C aa;go_upto_region 9 with fail;generalize (((w.alloc (XR #[name,Xy,fr,til] 163)).alloc (XR #[V Y 0,V Y 0,V Y 0,(),(),(),()] 74)).alloc (XR #[fr,til] 83))=X at *;refine G.mono ?_;rintro e w1 ⟨hp,q⟩;have F:=z.1.trans (q.mono z.1.size);have QX:=(Q7.of z.2).later (q.block _ O);rcases hp with ⟨t,rfl⟩|⟨t,i,hi,e1,e2,rfl⟩
  .have HD:=aB (MX o.bA t);generalize gH s name 0 fr til=y at *;have ac:(y != 0)=Xy:=bV t
   clear t G z q D C;go_wp21;refine aK (ly y w1) fun w2 j=>?_;have E:=aB (o.refuse F QX j HD);obtain⟨T,S,R,P,K,I,H,fq⟩:=E.1;simp only[bT];go_wp21;exact cV results106 ⟨T,S,R,P,K,I,H,fq⟩ ⟨_,rfl,E.2⟩
  .have HD:=aB (Ln t);have y1:=aT q D;have y2:=aT q C;have ab:w+3<=w1.heap.size:=by have:=q.size;omega
   have TL:=aB (Lr (w:=w1) (s:=s) ⟨o.dk.later F,o.of,o.wl,o.hl,o.inv⟩ hi fr til);rw[e1] at TL;clear t G z q D C e1 e2;go_wp21;refine TL.mono ?_;rintro e w2 ⟨v,l,rfl,hl,y,j⟩;obtain⟨a1,c1,rfl⟩:=lz y.own;have hq:=j.block (w.heap.size+1) (XV _ _ QX.q0);have E:Hid (∀ a b c e f g i,eu w d aM (aA.aX s (.list name fr til)) (bT 0 0 0 (XI a1 l.length c1) () () ()) (dE w2 (w.heap.size+1) a b c e f g i)):=fun a b c e f g i=>by rw[HD,<- hl];exact o.iH (F.trans (j.mono F.size)) O (y.base O) a b c e f g i
   obtain⟨T,S,R,P,K,I,H,fq⟩:=QX.later hq;clear TL y hl j hq;go_wp21;exact cV results106 ⟨T,S,R,P,K,I,H,fq⟩ ⟨_,rfl,E _ _ _ _ _ _ _⟩
theorem b5D(h:eH w d s rw_ aM)(name:Xm)(F:name.size<=1000)(q:Xp)(fr til a b:N)(I:(if q then fr else 0)=a)(H:(if q then til else 1048320)=b):XD prog 62 #[d,XN 163 (XM #[name,q,fr,til])] w fun e w'=>∃ v,e=XQ v/\eu w d aM (aA.aX s (.list name a b)) v w':=by
 have C:=aB (h.pt (XR #[name,q,fr,til] 163));have D:=aB (Vi C.1 name F q fr til);rw[I,H] at D;unfold bI at D C;have t:=oS 163 Xd;have A:=pF 163 Xd;have z:=qs 163 Xd;have y:=qU 163 Xd;have f:=sq 163 Xd;have c:=te 163 Xd;have j:=uC 163 Xd;have o:=oi underlying163;go_in;go_wp21;refine D.mono ?_;rintro e w2 ⟨v,rfl,K⟩;obtain⟨er,at_,R,a1,a2,a3,a4,n1,X,T,S,c1,c2,c3,c4,rfl,E,G⟩:=K.po C.2;have P:=aB G;let⟨q0,q1,q2,q3,q4,q5,q6,fq⟩:=E;simp only[bT];go_wp21;exact cV results62 ⟨q0,q1,q2,q3,q4,q5,q6,fq⟩ ⟨_,rfl,P⟩
namespace aA
theorem FX(ts:J (Xm × N)):∀ (r a:J aQ),(eU ts a r).2.length<=r.length
 |[],a=>by simp[eU]
 |e :: r,a=>by simp only[eU];split;show ((eU ts (a++[ek e]) r).2.length+1)<=_;have:=FX ts r (a++[ek e]);simp;omega;have:=FX ts r (a++[e]);simp;omega
theorem Ax(ts:J (Xm × N))(es:J aQ):(dS ts es).2.length<=es.length:=FX ts es []
theorem L4(ts:J (Xm × Xr))(tq:Xr)(N:M):∀ (k:M)(es:J aQ)(now:Xr),es.length<=N->(gd ts k es now tq).2.2.length<=k*N
 |0,es,now,_=>by simp[gd]
 |k+1,es,now,h=>by
  simp only[gd];split
  .have a:(es.filter fun e=>!cA (eL tq es) e).length<=N:=XU (Zi _ _) h;have f:=Ax ts (es.filter fun e=>!cA (eL tq es) e);have c:=L4 ts tq N k (dS ts (es.filter fun e=>!cA (eL tq es) e)).1 (eL tq es) (by rw[yz];exact a);rw[Yx,Nat.succ_mul];omega
  .simp
theorem Dq(h:eS s)(l:jb):(aX s l).2.granted.length<=50000:=by
 have a:=kS h
 cases l with
 |tick n =>simp only[aX];split;simp[bS.error];have c:=L4 s.ts (s.now+n) 60 (s.es.length+1) s.es s.now a;show (gd s.ts (s.es.length+1) s.es s.now (s.now+n)).2.2.length<=50000;have:(s.es.length+1)*60<=61*60:=Nat.mul_le_mul_right _ O;omega
 |bL id=>simp only[aX];split <;> (try split) <;> simp[bS.error,bS.num]
 |cancel id=>simp only[aX];split <;> simp[bS.error,bS.num]
 |waiting=>simp[aX,bS.num]
 |clock=>simp[aX,bS.num]
 |bH=>simp only[aX];split <;> (try split) <;> simp[bS.error,bS.num]
 |enter=>simp only[aX,lS];split <;> simp[bS.error,bS.num]
 |series=>simp only[aX,lS];split <;> simp[bS.error,bS.num]
 |list=>simp only[aX];split <;> (try split) <;> simp[bS.error,bS.num]
 |ef=>simp only[aX];split <;> (try split) <;> simp[bS.error,bS.num]
 |find=>simp only[aX];split <;> (try split) <;> simp[bS.error,bS.num]
 |expand=>simp only[aX];split <;> simp[bS.error,bS.num]
end aA
inductive LV:XA->aA.jb->Prop where
 |bH (name:Xm) (hn:name.size<=1000) (u:Xr):LV (XN 143 (XM #[XJ name,XG XP u])) (.bH name u)
 |book (name:Xm) (hn:name.size<=1000) (u fr til:Xr):LV (XN 148 (XM #[XJ name,XG XP u,XG XP fr,XG XP til])) (.enter 1 name u fr til 0)
 |hold (name:Xm) (hn:name.size<=1000) (u fr til long:Xr):LV (XN 150 (XM #[XJ name,XG XP u,XG XP fr,XG XP til,XG XP long])) (.enter 2 name u fr til long)
 |wait (name:Xm) (hn:name.size<=1000) (u fr til long:Xr):LV (XN 151 (XM #[XJ name,XG XP u,XG XP fr,XG XP til,XG XP long])) (.enter 3 name u fr til long)
 |series (name:Xm) (hn:name.size<=1000) (u:Xr) (r:Rd.cP):LV (XN 158 (XM #[XJ name,XG XP u,XG XP r.pc,XG XP r.ev,XK (aI r.acc 0),XK (aI r.acc 1),XK (aI r.acc 2),XK (aI r.acc 3),XK (aI r.acc 4),XK (aI r.acc 5),XK (aI r.acc 6),XG XP r.fr,XG XP r.mn,XG XP r.mi,XG XP r.ti,XG XP r.un])) (.series name u r)
 |bL (id:Xr):LV (XN 160 (XM #[XG XP id])) (.bL id)
 |cancel (id:Xr):LV (XN 161 (XM #[XG XP id])) (.cancel id)
 |list (name:Xm) (hn:name.size<=1000) (wi:Xp) (fr til a b:Xr) (ha:(if wi then fr else 0)=a) (hb:(if wi then til else 1048320)=b):LV (XN 163 (XM #[XJ name,XK wi,XG XP fr,XG XP til])) (.list name a b)
 |waiting:LV (XN 166 (XM #[])) (.waiting)
 |ef (name:Xm) (hn:name.size<=1000) (fr til:Xr):LV (XN 169 (XM #[XJ name,XG XP fr,XG XP til])) (.ef name fr til)
 |find (name:Xm) (hn:name.size<=1000) (u long fr til:Xr):LV (XN 171 (XM #[XJ name,XG XP u,XG XP long,XG XP fr,XG XP til])) (.find name u long fr til)
 |expand (r:Rd.cP):LV (XN 173 (XM #[XG XP r.pc,XG XP r.ev,XK (aI r.acc 0),XK (aI r.acc 1),XK (aI r.acc 2),XK (aI r.acc 3),XK (aI r.acc 4),XK (aI r.acc 5),XK (aI r.acc 6),XG XP r.fr,XG XP r.mn,XG XP r.mi,XG XP r.ti,XG XP r.un])) (.expand r)
 |tick (n:Xr):LV (XN 175 (XM #[XG XP n])) (.tick n)
 |clock:LV (XN 176 (XM #[])) (.clock)
theorem W8(h:eH w d s rw_ aM)(ht:hI w)(j:10<=w.heap.size){f:XA}{l:aA.jb}(o:LV f l)(c:aA.ke l):XD prog 62 #[d,f] w fun e w'=>∃ v,e=XQ v/\eu w d aM (aA.aX s l) v w':=by
 cases o with
 |bH name hn u=>exact b3V h name hn u
 |book name hn u fr til=>exact b5G h name hn u fr til c
 |hold name hn u fr til long=>exact b5E h name hn u fr til long c
 |wait name hn u fr til long=>exact b5A h name hn u fr til long c
 |series name hn u r=>exact b2l h ht j name hn u r c
 |bL id=>exact b0l h id c
 |cancel id=>exact b2n h id c
 |list name hn wi fr til a b ha hb=>exact b5D h name hn wi fr til a b ha hb
 |waiting=>exact b0k h
 |ef name hn fr til=>exact b5C h name hn fr til c
 |find name hn u long fr til=>exact b5F h name hn u long fr til c
 |expand r=>exact b2m h ht j r c
 |tick n=>exact b5B h n c
 |clock=>exact b3W h
theorem qR{s:Xm}(h:cH x s=Xy):s=x:=by have e:=eq_of_beq h;rw[ByteArray.toList_eq,ByteArray.toList_eq] at e;exact Txt.nS e
theorem Jp{B:Xm->Xp}(h:n<ws.length)(a:B (ws.getD n ByteArray.empty)=Xy):gG ws B (n,Xx)=(n+1,Xx):=by simp only[gG,fP,fL,fQ,dN,a,h,decide_true,Bool.not_false,Bool.and_self,if_true]
theorem wA(ws:J Xm)(st:M × Xp):aP ws [] st=st:=rfl
theorem KO{B:Xm->Xp}{wr:Xp}(h:fQ ws n wr B=Xy):wr=Xx/\n<ws.length/\B (ws.getD n ByteArray.empty)=Xy:=by unfold fQ dN at h;simp only[Zr,Bool.not_eq_true',decide_eq_true_eq] at h;exact⟨h.1.1,h.1.2,h.2⟩
theorem Fx{B:Xm->Xp}(h:(gG ws B st).2=Xx):fQ ws st.1 st.2 B=Xy:=by
 unfold gG fL at h
 cases e:fQ ws st.1 st.2 B
 .rw[e] at h;simp at h
 .rfl
theorem mC{B:Xm->Xp}(h:(gG ws B st).2=Xx):st.2=Xx:=(KO (Fx h)).1
theorem uc{B:Xm->Xp}(h:(gG ws B st).2=Xx):∃ x,B x=Xy/\∀ a,bW ws st B a=a x:=by have t:=Fx h;exact⟨_,(KO t).2.2,fun a=>by unfold bW gS;rw[t];rfl⟩
theorem qz(h:cF x=Xy):1<=bD x/\bD x<=9:=by unfold cF gy at h;simp only[Zr,decide_eq_true_eq] at h;exact⟨h.1.2,h.2⟩
theorem vR(h:dM x=Xy):1<=bD x/\bD x<=1048320:=by unfold dM gy at h;simp only[Zr,decide_eq_true_eq] at h;exact⟨h.1.2,h.2⟩
theorem Ar(h:eP x=Xy):1<=bD x/\bD x<=99:=by unfold eP gy at h;simp only[Zr,decide_eq_true_eq] at h;exact⟨h.1.2,h.2⟩
theorem Jg(x:Xm):0<=bD x/\bD x<=9999999:=Txt.lT _
theorem jM(h:bB x=Xy):0<=cL x/\cL x<=1048320:=by grind[bB,cL]
theorem JB(h:Txt.cU x=Xy):0<=dV x/\dV x<728:=by grind[dV,Txt.cU]
theorem Tb(h:Txt.dZ x=Xy):0<=Txt.eA x/\Txt.eA x<1440:=by unfold Txt.eA;rw[Xt h];unfold Txt.dZ at h;let⟨_,_,_,_,h1,h2⟩:=of_decide_eq_true h;have:=Txt.lT (Txt.part x 0 2);have:=Txt.lT (Txt.part x 3 5);omega
theorem a4o(h:bJ x=Xy):x.size<=1000:=by
 unfold bJ Txt.gP at h;rw[Zr] at h;have:=of_decide_eq_true h.1;have e:x.size=x.data.toList.length:=by simp_all
 omega
theorem J6{s:M × Xp}(h:qw ws st ti un s)(f:s.2=Xx):st.2=Xx/\0<=ti/\ti<=99/\0<=un/\un<728:=by
 cases h with
 |times h =>have a:=f;let⟨x,hx,hv⟩:=uc a;have:=Ar hx;have c:=mC a;rw[hv bD];exact⟨c,O,O,O,O⟩
 |til h1 h =>have a:=f;let⟨x,hx,hv⟩:=uc a;have:=JB hx;have c:=mC a;rw[hv dV];exact⟨c,O,O,O,O⟩
 |none h1 h=>cases f
theorem Wv{ev:N}{s:M × Xp}(h:qD ws st pc ev acc s)(f:s.2=Xx):st.2=Xx/\1<=pc/\pc<=3/\1<=ev/\ev<=99:=by
 cases h with
 |daily h =>have a:=f;let⟨x,hx,hv⟩:=uc a;have:=Ar hx;have c:=mC a;rw[hv bD];exact⟨c,O,O,O,O⟩
 |weekly h1 h acc ha =>have a:=f;have j:=mC a;let⟨x,hx,hv⟩:=uc j;have:=Ar hx;have c:=mC j;rw[hv bD];exact⟨c,O,O,O,O⟩
 |monthly g1 g2 g =>have a:=f;let⟨x,hx,hv⟩:=uc a;have:=Ar hx;have c:=mC a;rw[hv bD];exact⟨c,O,O,O,O⟩
 |none g1 g2 g=>cases f
theorem FG{ev:N}{s:M × Xp}(h:lO ws st pc ev acc fr mn mi ti un s):∃ a,qD ws st pc ev acc a/\qw ws (oT ws a) ti un s/\fr=bW ws (aP ws [cH cC] a) Txt.cU dV/\mn=bW ws (aP ws [cH cC,Txt.cU,cH cO] a) Txt.dZ Txt.eA/\mi=bW ws (aP ws [cH cC,Txt.cU,cH cO,Txt.dZ,cH dA] a) dM bD:=by
 cases h;exact⟨_,by assumption,by assumption,rfl,rfl,rfl⟩
theorem Lx{ev:N}{s:M × Xp}(h:lO ws st pc ev acc fr mn mi ti un s)(E:s.2=Xx):st.2=Xx/\Rd.hH ⟨pc,ev,acc,fr,mn,mi,ti,un⟩:=by obtain⟨a,C,D,rfl,rfl,rfl⟩:=FG h;let⟨hm,t0,t1,u0,u1⟩:=J6 D E;have c:=hm;have y:=mC c;have f:=mC y;have z:=mC f;have j:=mC z;have A:=mC j;let⟨hs,p1,p3,e1,e2⟩:=Wv C (mC A);let⟨xi,hi,vi⟩:=uc c;let⟨xm,hx,vm⟩:=uc f;let⟨xd,hd,vd⟩:=uc j;have t:=vR hi;have q:=Tb hx;have o:=JB hd;refine⟨hs,⟨p1,p3,e1,e2,?_,?_,?_,?_,?_,?_,t0,t1,u0,u1⟩⟩;show 0<=bW ws (gG ws (cH cC) a) Txt.cU dV;rw[vd];exact o.1;show bW ws (gG ws (cH cC) a) Txt.cU dV<728;rw[vd];exact o.2;show 0<=bW ws (gG ws (cH cO) (gG ws Txt.cU (gG ws (cH cC) a))) Txt.dZ Txt.eA;rw[vm];exact q.1;show bW ws (gG ws (cH cO) (gG ws Txt.cU (gG ws (cH cC) a))) Txt.dZ Txt.eA<1440;rw[vm];exact q.2;show 1<=bW ws (gG ws (cH dA) (gG ws Txt.dZ (gG ws (cH cO) (gG ws Txt.cU (gG ws (cH cC) a))))) dM bD;rw[vi];exact t.1;show bW ws (gG ws (cH dA) (gG ws Txt.dZ (gG ws (cH cO) (gG ws Txt.cU (gG ws (cH cC) a))))) dM bD<=1048320;rw[vi];exact t.2
def uH:XA->M
 |.iface t _=>t
 |_=>0
def Gp:J (Xm × M):=[(ix,143),(iO,148),(iF,150),(iG,151),(eQ,158),(iU,160),(iR,161),(dC,163),(iT,166),(iu,169),(ir,171),(fA,173),(ja,175),(iN,176)]
def kT(f:Xm->Xp):M:=((Gp.find? fun p=>f p.1).map (·.2)).getD 0
theorem nV(h:bP ws 0 Xx x=Xy):kT (bP ws 0 Xx)=kT (fun y=>x.toList==y.toList):=by grind[bP,kT]
theorem jq.tag{s:M × Xp}(h:jq ws v s):uH v=kT (bP ws 0 Xx):=by
 cases h with
 |none h0 h1 h2 h3 h4 h5 h6 h7 h8 h9 h10 h11 h12 h13=>simp[uH,kT,Gp,h0,h1,h2,h3,h4,h5,h6,h7,h8,h9,h10,h11,h12,h13]
 |bH h=>rw[nV h];exact (by decide +kernel:143=kT (fun y=>ix.toList==y.toList))
 |book h=>rw[nV h];exact (by decide +kernel:148=kT (fun y=>iO.toList==y.toList))
 |hold h=>rw[nV h];exact (by decide +kernel:150=kT (fun y=>iF.toList==y.toList))
 |wait h=>rw[nV h];exact (by decide +kernel:151=kT (fun y=>iG.toList==y.toList))
 |series h=>rw[nV h];exact (by decide +kernel:158=kT (fun y=>eQ.toList==y.toList))
 |bL h=>rw[nV h];exact (by decide +kernel:160=kT (fun y=>iU.toList==y.toList))
 |cancel h=>rw[nV h];exact (by decide +kernel:161=kT (fun y=>iR.toList==y.toList))
 |list0 h=>rw[nV h];exact (by decide +kernel:163=kT (fun y=>dC.toList==y.toList))
 |list1 h=>rw[nV h];exact (by decide +kernel:163=kT (fun y=>dC.toList==y.toList))
 |waiting h=>rw[nV h];exact (by decide +kernel:166=kT (fun y=>iT.toList==y.toList))
 |ef h=>rw[nV h];exact (by decide +kernel:169=kT (fun y=>iu.toList==y.toList))
 |find h=>rw[nV h];exact (by decide +kernel:171=kT (fun y=>ir.toList==y.toList))
 |expand h=>rw[nV h];exact (by decide +kernel:173=kT (fun y=>fA.toList==y.toList))
 |tick h=>rw[nV h];exact (by decide +kernel:175=kT (fun y=>ja.toList==y.toList))
 |clock h=>rw[nV h];exact (by decide +kernel:176=kT (fun y=>iN.toList==y.toList))
theorem Tx{s:M × Xp}(h:qw ws st ti un s)(a:qw ws st ti' un' s'):s=s'/\ti=ti'/\un=un':=by
 cases h <;> cases a <;> first|exact⟨rfl,rfl,rfl⟩|(simp_all;done)
theorem Vq{ev:N}{s:M × Xp}(h:qD ws st pc ev acc s)(a:qD ws st pc' ev' acc' s'):s=s'/\pc=pc'/\ev=ev'/\(s.2=Xx->acc=acc'):=by
 cases h with
 |daily h=>cases a <;> first|exact⟨rfl,rfl,rfl,fun _=>rfl⟩|(simp_all;done)
 |monthly h1 c h=>cases a <;> first|exact⟨rfl,rfl,rfl,fun _=>rfl⟩|(simp_all;done)
 |none h1 c h=>cases a <;> first|exact⟨rfl,rfl,rfl,fun _=>rfl⟩|(simp_all;done)
 |weekly h1 h acc ha =>
  cases a with
  |daily g=>rw[g] at h1;cases h1
  |weekly g1 g acc' ga =>refine⟨rfl,rfl,rfl,fun c=>?_⟩;have t:=Fx (B:=Txt.fF) (st:=aP ws [eP] (gB st)) c;exact Option.some.inj ((ha t).symm.trans (ga t))
  |monthly g1 g2 g=>rw[h] at g2;cases g2
  |none g1 g2 g=>rw[h] at g2;cases g2
theorem Kd{ev:N}{s:M × Xp}{f a c:N}(h:lO ws st pc ev acc fr mn mi ti un s)(E:lO ws st pc' ev' acc' f a c ti' un' s'):s=s'/\pc=pc'/\ev=ev'/\(s.2=Xx->acc=acc')/\fr=f/\mn=a/\mi=c/\ti=ti'/\un=un':=by
 obtain⟨F,z,q,rfl,rfl,rfl⟩:=FG h;obtain⟨t,j,o,rfl,rfl,rfl⟩:=FG E;obtain⟨rfl,rfl,rfl,C⟩:=Vq z j;obtain⟨rfl,rfl,rfl⟩:=Tx q o;refine⟨rfl,rfl,rfl,fun D=>C ?_,rfl,rfl,rfl,rfl,rfl⟩;have A:=(J6 q D).1;have y:=A;exact mC (mC (mC (mC (mC (mC y)))))
theorem AZ{s:M × Xp}(c:jq ws v s)(a:jq ws v' s'):s=s'/\(s.2=Xx->v=v'):=by
 have e:=c.tag.trans a.tag.symm
 cases c with
 |series h pc ev acc fr mn mi ti un s hr =>
  cases a with
  |series h' pc' ev' acc' fr' mn' mi' ti' un' s' hr' =>obtain⟨rfl,rfl,rfl,f,rfl,rfl,rfl,rfl,rfl⟩:=Kd hr hr';exact⟨rfl,fun a=>by grind⟩
  |_=>exact Xu e (by simp[uH])
 |expand h pc ev acc fr mn mi ti un s hr =>
  cases a with
  |expand h' pc' ev' acc' fr' mn' mi' ti' un' s' hr' =>obtain⟨rfl,rfl,rfl,f,rfl,rfl,rfl,rfl,rfl⟩:=Kd hr hr';exact⟨rfl,fun a=>by grind⟩
  |_=>exact Xu e (by simp[uH])
 |list0 h hm =>
  cases a with
  |list0 h' hm'=>exact⟨rfl,fun _=>rfl⟩
  |list1 h' hm'=>rw[hm] at hm';cases hm'
  |_=>exact Xu e (by simp[uH])
 |list1 h hm =>
  cases a with
  |list0 h' hm'=>rw[hm] at hm';cases hm'
  |list1 h' hm'=>exact⟨rfl,fun _=>rfl⟩
  |_=>exact Xu e (by simp[uH])
 |_=>cases a <;> first|exact⟨rfl,fun _=>rfl⟩|exact Xu e (by simp[uH])
theorem Fw{t:Xm}{e e':Ending}(h:pN t e)(c:pN t e'):e=e':=by
 cases h with
 |long h =>
  cases c with
  |long c=>rfl
  |bad c=>omega
  |sd c=>omega
 |bad h v st hl f =>
  cases c with
  |long c=>omega
  |bad c v' st' hl' a=>obtain⟨rfl,_⟩:=AZ hl hl';rfl
  |sd c v' st' hl' h2 a =>
   obtain⟨rfl,_⟩:=AZ hl hl';rcases f with f|f
   .rw[h2] at f;cases f
   .rw[a] at f;cases f
 |sd h v st hl h2 f =>
  cases c with
  |long c=>omega
  |bad c v' st' hl' a =>
   obtain⟨rfl,_⟩:=AZ hl hl';rcases a with a |a
   .rw[h2] at a;cases a
   .rw[f] at a;cases a
  |sd c v' st' hl' h2' a=>obtain⟨rfl,j⟩:=AZ hl hl';rw[j h2]
def Dp(t:Xm):(N × N) ⊕ aA.jb->Prop
 |.inl (er,at_)=>er≠0/\(er=1/\at_=0\/er=2/\0<=at_)/\∀ e,pN t e->e=XQ (.tuple #[.nilIface,V Y er,V Y at_])
 |.inr l=>∃ a,(∀ e,pN t e->e=XQ (.tuple #[a,V Y 0,V Y 0]))/\LV a l/\aA.ke l
end Go.Proofs.YtolaacmheeaadaaGreatDoor
namespace Go.Proofs.YtolaacmheeaadaaGreatDoor.Txt
open Go
theorem Ky:∀ (k u:M),u<10 ^ (k+1)->(Lib.decDigits u).length<=k+1
 |0,u,h=>by rw[Lib.decDigits];simp at h;rw[dif_pos h];simp
 |k+1,u,h=>by rw[Lib.decDigits];split;simp;have:=Ky k (u / 10) Xi;simp;omega
def bE(n:N):Xm:=⟨(Lib.itoa n).toArray⟩
theorem BC(n:N)(a:0<=n)(h:n<=9999999):(bE n).size<=7:=by rw[<- iL];unfold bE Lib.itoa;rw[Xs O];have:=Ky 6 n.toNat O;simpa using this
def pz:M->Xm->Xm
 |0,t=>t
 |k+1,t=>pz k (⟨#[48]⟩++t)
def jU(n:N)(size:M):Xm:=pz (size-(bE n).size) (bE n)
theorem Aa:∀ (k:M)(t:Xm),(pz k t).size=k+t.size
 |0,t=>by simp[pz]
 |k+1,t=>by rw[pz,Aa k];have:(⟨#[48]⟩++t:Xm).size=1+t.size:=ByteArray.size_append;omega
theorem nN(n:N)(size:M)(a:0<=n)(h:n<=9999999):(jU n size).size<=size+7:=by unfold jU;rw[Aa];have:=BC n a h;omega
theorem zZ:∀ (k:M)(t:Xm),(pz k t).data.toList=List.replicate k 48++t.data.toList
 |0,t=>rfl
 |k+1,t=>by rw[pz,zZ k,qI];rw[show (ByteArray.mk #[48]).data.toList=[48] from rfl,<- Y8];congr 1;rw[List.replicate_succ']
theorem C9(c:UInt8)(h:tc c=Xy)(u:M)(a:(u:N)=(c.toNat:N)-48):UInt8.ofNat (48+u)=c:=by have:=(rC c).1 h;apply UInt8.toNat_inj.1;rw[UInt8.toNat_ofNat'];omega
theorem Dx(u:M)(h:u<10):Lib.decDigits u=[UInt8.ofNat (48+u)]:=by rw[Lib.decDigits,dif_pos h]
theorem Tv(u:M)(h:¬ u<10):Lib.decDigits u=Lib.decDigits (u / 10)++[UInt8.ofNat (48+u % 10)]:=by rw[Lib.decDigits,dif_neg h]
theorem Ih:∀ (n:M)(l:J UInt8),l.length=n+1->iJ l=Xy->List.replicate (n+1-(Lib.decDigits (jB l).toNat).length) 48++Lib.decDigits (jB l).toNat=l/\0<=jB l/\(Lib.decDigits (jB l).toNat).length<=n+1
 |0,l,hl,hd=>by
  match l,hl with
  |[c],_ =>
   simp only[iJ,List.all_cons,List.all_nil,Bool.and_true] at hd;have q:=(rC c).1 hd;have e:jB [c]=(c.toNat:N)-48:=by simp[jB]
   rw[e,Dx _ O];refine⟨?_,O,by simp⟩;simp only[List.length_singleton,Nat.sub_self,List.replicate_zero,List.nil_append];rw[C9 c hd _ O]
 |n+1,l,hl,hd=>by
  obtain⟨m,c,rfl⟩:∃ m c,l=m++[c]:=by have f:l≠[]:=Xi;exact⟨l.dropLast,l.getLast f,(List.dropLast_concat_getLast f).symm⟩
  rw[yH,Zr] at hd;have q:=(rC c).1 hd.2;have h:m.length=n+1:=Xi;let⟨i1,i2,i3⟩:=Ih n m h hd.1;rw[Lu];let⟨a,ha⟩:=Int.eq_ofNat_of_zero_le i2;rw[ha] at i1 i3 ⊢;simp only[Int.toNat_natCast] at i1 i3;have t:((a:N)*10+((c.toNat:N)-48)).toNat=a*10+(c.toNat-48):=O;rw[t];have j:c.toNat-48<10:=O;by_cases o:a=0
  .subst o;have y:(0:M)*10+(c.toNat-48)=c.toNat-48:=O
   rw[y,Dx _ j,C9 c hd.2 _ O];refine⟨?_,O,by simp⟩;rw[Dx 0 O] at i1;simp only[List.length_singleton] at i1 ⊢;rw[show n+1+1-1=n+1 from by omega];rw[<- i1];congr 1;rw[show n+1-1=n from by omega,List.replicate_succ'];rfl
  .rw[Tv _ O,show (a*10+(c.toNat-48)) / 10=a from by omega,show (a*10+(c.toNat-48)) % 10=c.toNat-48 from by omega,C9 c hd.2 _ O];refine⟨?_,O,by grind⟩;rw[Yx,List.length_singleton,show n+1+1-((Lib.decDigits a).length+1)=n+1-(Lib.decDigits a).length from by omega,<- Y8,i1]
theorem QY(t:Xm)(n:M)(h:t.size=n+1)(c:iJ t.data.toList=Xy):jU (jB t.data.toList) (n+1)=t:=by
 let⟨h1,h2,_⟩:=Ih n t.data.toList (by simp_all) c;apply nS;unfold jU;have e:bE (jB t.data.toList)=⟨(Lib.decDigits (jB t.data.toList).toNat).toArray⟩:=by unfold bE Lib.itoa;rw[Xs O]
 rw[zZ,e];have a:(ByteArray.mk (Lib.decDigits (jB t.data.toList).toNat).toArray).size=(Lib.decDigits (jB t.data.toList).toNat).length:=by rw[<- iL]
 rw[a];exact h1
end Go.Proofs.YtolaacmheeaadaaGreatDoor.Txt
namespace Go.Proofs.YtolaacmheeaadaaGreatDoor
open Go.RowKit
theorem WB(w:Xz)(k:M)(a:Array Obj):XC w w (Sort.grow (w.drewN k) a) :=⟨rfl,rfl,rfl,by simp_all,fun j c=>by simp only[Sort.grow,World.heap_drewN];rw[Array.getElem?_append_left c]⟩
theorem Du(n:N)(w:Xz)(c:Env w)(h:-9223372036854775808<=n)(f:n<=9223372036854775807):XD prog 48 #[n] w fun e w'=>e=XQ (Txt.bE n)/\XC w w w':=by
 refine aK (strconv_Itoa n h f w c.pow) ?_;rintro w' ⟨k,a,rfl⟩;exact⟨rfl,WB w k a⟩
end Go.Proofs.YtolaacmheeaadaaGreatDoor
namespace Go.Proofs.YtolaacmheeaadaaGreatDoor.Txt
open Go
theorem a1l(s:Xm):s.data.toList.length=s.size:=by rw[Array.length_toList];rfl
end Go.Proofs.YtolaacmheeaadaaGreatDoor.Txt
namespace Go.Proofs.YtolaacmheeaadaaGreatDoor.Txt
open Go
end Go.Proofs.YtolaacmheeaadaaGreatDoor.Txt
namespace Go.Proofs.YtolaacmheeaadaaGreatDoor
open Go.RowKit
theorem zj{x:N}(c:-9223372036854775808<=x)(a:x<=9223372036854775807):IntKind.i64.wrap x=x:=by rw[IntKind.wrap_i64];omega
def nW(c n:N):N:=(if c<0 then -(c+1) else c) % n
theorem MY{c n:N}(a:1<=n):0<=nW c n/\nW c n<n:=⟨Int.emod_nonneg _ O,Int.emod_lt_of_pos _ O⟩
open aA (aQ St eD kept fc ek ec jw dB dI jC eS jr cA Inv)
def mM(w:Xm)(a c:N):Xp:=decide (a<=cB w 1 7/\cB w 1 7<=c)
def bG(a w:Xm):Xp :=
 if a.toList==[78,65,77,69] then Txt.gP w.data.toList else
 if a.toList==[85,78,73,84,83] then mM w 1 9 else
 if a.toList==[77,73,78,85,84,69,83] then mM w 1 1048320 else
 if a.toList==[69,86,69,82,89] then mM w 1 99 else
 if a.toList==[73,68] then decide (0<=cB w 1 7) else
 if a.toList==[84,73,77,69] then decide (0<=eJ w) else
 if a.toList==[68,65,84,69] then decide (0<=gK w/\gK w<728) else
 if a.toList==[77,73,78,85,84,69] then decide (0<=jK w) else
 if a.toList==[79,78] then Txt.fF w else
 a.toList==w.toList
theorem Qp(c w:Xm)(W:Xz)(f:w.size<=160):XD prog 47 #[XJ c,XJ w] W fun e w'=>e=XQ (XK (bG c w))/\XC W.heap.size W w':=by
 cases q:(c.toList==[78,65,77,69])
 case true =>go_in;go_wp2_with fail;refine (gC w 1 7 W f O O).mono ?_;rintro e w1 ⟨rfl,a⟩;go_wp2_with fail;refine (Rk w _ f).mono ?_;rintro e w2 ⟨rfl,rfl⟩;go_wp2;go_ret;exact⟨fJ (by simp[bG,q]),a⟩
 cases c1:(c.toList==[85,78,73,84,83])
 case true =>
  have o:Hid (bG c w=mM w 1 9):=by show bG c w=_;simp[bG,q,c1]
  by_cases z:1<=cB w 1 7
  .by_cases y:cB w 1 7<=9
   .go_in
    go_wp2_with fail;refine (gC w 1 7 W f O O).mono ?_;rintro e w1 ⟨rfl,a⟩;go_wp2;go_ret;exact⟨fJ (by rw[o.out,mM,decide_eq_true ⟨z,y⟩]),a⟩
   .go_in
    go_wp2_with fail;refine (gC w 1 7 W f O O).mono ?_;rintro e w1 ⟨rfl,a⟩;go_wp2;go_ret;exact⟨fJ (by rw[o.out,mM,decide_eq_false O];simp;omega),a⟩
  .go_in
   go_wp2_with fail;refine (gC w 1 7 W f O O).mono ?_;rintro e w1 ⟨rfl,a⟩;go_wp2;go_ret;exact⟨fJ (by rw[o.out,mM,decide_eq_false O]),a⟩
 cases t:(c.toList==[77,73,78,85,84,69,83])
 case true =>
  have o:Hid (bG c w=mM w 1 1048320):=by show bG c w=_;simp[bG,q,c1,t]
  by_cases z:1<=cB w 1 7
  .by_cases y:cB w 1 7<=1048320
   .go_in
    go_wp2_with fail;refine (gC w 1 7 W f O O).mono ?_;rintro e w1 ⟨rfl,a⟩;go_wp2;go_ret;exact⟨fJ (by rw[o.out,mM,decide_eq_true ⟨z,y⟩]),a⟩
   .go_in
    go_wp2_with fail;refine (gC w 1 7 W f O O).mono ?_;rintro e w1 ⟨rfl,a⟩;go_wp2;go_ret;exact⟨fJ (by rw[o.out,mM,decide_eq_false O];simp;omega),a⟩
  .go_in
   go_wp2_with fail;refine (gC w 1 7 W f O O).mono ?_;rintro e w1 ⟨rfl,a⟩;go_wp2;go_ret;exact⟨fJ (by rw[o.out,mM,decide_eq_false O]),a⟩
 cases A:(c.toList==[69,86,69,82,89])
 case true =>
  have o:Hid (bG c w=mM w 1 99):=by show bG c w=_;simp[bG,q,c1,t,A]
  by_cases z:1<=cB w 1 7
  .by_cases y:cB w 1 7<=99
   .go_in
    go_wp2_with fail;refine (gC w 1 7 W f O O).mono ?_;rintro e w1 ⟨rfl,a⟩;go_wp2;go_ret;exact⟨fJ (by rw[o.out,mM,decide_eq_true ⟨z,y⟩]),a⟩
   .go_in
    go_wp2_with fail;refine (gC w 1 7 W f O O).mono ?_;rintro e w1 ⟨rfl,a⟩;go_wp2;go_ret;exact⟨fJ (by rw[o.out,mM,decide_eq_false O];simp;omega),a⟩
  .go_in
   go_wp2_with fail;refine (gC w 1 7 W f O O).mono ?_;rintro e w1 ⟨rfl,a⟩;go_wp2;go_ret;exact⟨fJ (by rw[o.out,mM,decide_eq_false O]),a⟩
 cases C:(c.toList==[73,68])
 case true =>go_in;go_wp2_with fail;refine (gC w 1 7 W f O O).mono ?_;rintro e w1 ⟨rfl,a⟩;go_wp2;go_ret;exact⟨fJ (by simp[bG,q,c1,t,A,C]),a⟩
 cases D:(c.toList==[84,73,77,69])
 case true =>go_in;go_wp2_with fail;refine (gC w 1 7 W f O O).mono ?_;rintro e w1 ⟨rfl,a⟩;go_wp2_with fail;refine (tj w _ f).mono ?_;rintro e w2 ⟨rfl,h⟩;have j:=a.trans (h.mono a.size);go_wp2;go_ret;exact⟨fJ (by simp[bG,q,c1,t,A,C,D]),j⟩
 cases E:(c.toList==[68,65,84,69])
 case true =>
  have o:Hid (bG c w=decide (0<=gK w/\gK w<728)):=by show bG c w=_;simp[bG,q,c1,t,A,C,D,E]
  by_cases z:0<=gK w
  .by_cases y:gK w<728
   .go_in
    go_wp2_with fail;refine (gC w 1 7 W f O O).mono ?_;rintro e w1 ⟨rfl,a⟩;go_wp2_with fail;refine (xO w _ f).mono ?_;rintro e w2 ⟨rfl,h⟩;have j:=a.trans (h.mono a.size);go_wp2;go_ret;exact⟨fJ (by rw[o.out,decide_eq_true ⟨z,y⟩]),j⟩
   .go_in
    go_wp2_with fail;refine (gC w 1 7 W f O O).mono ?_;rintro e w1 ⟨rfl,a⟩;go_wp2_with fail;refine (xO w _ f).mono ?_;rintro e w2 ⟨rfl,h⟩;have j:=a.trans (h.mono a.size);go_wp2;go_ret;exact⟨fJ (by rw[o.out,decide_eq_false O];simp;omega),j⟩
  .go_in
   go_wp2_with fail;refine (gC w 1 7 W f O O).mono ?_;rintro e w1 ⟨rfl,a⟩;go_wp2_with fail;refine (xO w _ f).mono ?_;rintro e w2 ⟨rfl,h⟩;have j:=a.trans (h.mono a.size);go_wp2;go_ret;exact⟨fJ (by rw[o.out,decide_eq_false O]),j⟩
 cases F:(c.toList==[77,73,78,85,84,69])
 case true =>go_in;go_wp2_with fail;refine (gC w 1 7 W f O O).mono ?_;rintro e w1 ⟨rfl,a⟩;go_wp2_with fail;refine (Dn w _ f).mono ?_;rintro e w2 ⟨rfl,h⟩;have j:=a.trans (h.mono a.size);go_wp2;go_ret;exact⟨fJ (by simp[bG,q,c1,t,A,C,D,E,F]),j⟩
 cases G:(c.toList==[79,78])
 case true =>go_in;go_wp2_with fail;refine (gC w 1 7 W f O O).mono ?_;rintro e w1 ⟨rfl,a⟩;go_wp2_with fail;refine (Cc w _ f).mono ?_;rintro e w2 ⟨⟨acc,rfl,_⟩,h⟩;have j:=a.trans (h.mono a.size);unfold gD;go_wp2;go_ret;exact⟨fJ (by simp[bG,q,c1,t,A,C,D,E,F,G]),j.alloc (XU a.size h.size) _⟩
 go_in;go_wp2_with fail;refine (gC w 1 7 W f O O).mono ?_;rintro e w1 ⟨rfl,a⟩;go_wp2;go_ret;exact⟨fJ (by simp[bG,q,c1,t,A,C,D,E,F,G]),a⟩
def lG(i:M):Xm:=match i with|0=>⟨#[100,97,105,108,121,32,69,86,69,82,89]⟩|1=>⟨#[119,101,101,107,108,121,32,69,86,69,82,89,32,79,78]⟩|_=>⟨#[109,111,110,116,104,108,121,32,69,86,69,82,89]⟩
def oj(i:M):Xm:=match i with|0=>⟨#[116,105,109,101,115,32,69,86,69,82,89]⟩|_=>⟨#[117,110,116,105,108,32,68,65,84,69]⟩
def GK:Xm:=⟨#[32,102,114,111,109,32,68,65,84,69,32,97,116,32,77,73,78,85,84,69,32,102,111,114,32,77,73,78,85,84,69,83,32]⟩
def xA(ahead:Xm)(i k:M):Xm:=ahead++⟨#[32]⟩++lG i++GK++oj k
def np(ahead:Xm)(n:M):J Xm:=(List.range n).map fun j=>xA ahead (j / 2) (j % 2)
theorem Sd(ahead:Xm)(n:M):np ahead (n+1)=np ahead n++[xA ahead (n / 2) (n % 2)]:=by simp[np,List.range_succ]
theorem IA(i:M):(lG i).size<=15:=by unfold lG;split <;> decide
theorem Ig(i:M):(oj i).size<=11:=by unfold oj;split <;> decide
theorem vK(a b:Xm)(m n:M)(f:a.size<=m)(c:b.size<=n):(a++b).size<=m+n:=Xi
theorem Ab(a b:Xm)(m n:M)(f:a.size<=m)(c:b.size<=n)(h:m+n<=1000):∀ wx,(Op.stringOp .add a b).run prog wx=.ok (a++b) wx:=by intro wx;apply run_string_add_sum;omega
theorem ov{a base' e size:M}(h:w.ownsRow a e size v n xs)(o:base'<=a):w.ownsRow base' e size v n xs:=by
 refine⟨h.1,?_⟩;rcases h.2 with q|⟨g,cap,c,f,j,rest⟩
 .exact .inl q
 .exact .inr ⟨g,cap,c,f,XU o j,rest⟩
theorem IM(ahead:Xm)(w:Xz)(C:ahead.size<=20):XD prog 77 #[ahead] w fun e w'=>∃ v,e=XQ v/\w'.ownsRow w 9 1 v 6 ((np ahead 6).map XJ)/\XC w w w':=by
 obtain⟨i0,T,K,I,H⟩:=info_parts qm;go_in;go_wp2;obtain⟨W,y⟩:∃ W,W=(w.alloc (XR #[lG 0,lG 1,lG 2] 9)).alloc (XR #[oj 0,oj 1] 9):=⟨_,rfl⟩;simp only[lG,oj] at y;rw[<- y];have hB:XC w w W:=by rw[y];exact aS.alloc Xc _
 have hZ:w+2=W.heap.size:=by rw[y];simp
 have cK:∀ i,i<3->W.cell? (w,i)=U (XJ (lG i)):=fun i hi=>by rw[y];rcases (show i=0\/i=1\/i=2 by omega) with rfl|rfl|rfl <;> simp[lG]
 have cE:∀ i,i<2->W.cell? (w.heap.size+1,i)=U (XJ (oj i)):=fun i hi=>by rw[y];rcases (show i=0\/i=1 by omega) with rfl|rfl <;> simp[oj]
 have CK:=hide cK;have CE:=hide cE;clear y cK cE;go_loopw [3,6,7] (fun v i _ wx=>∃ a:M,a<=3/\i=V Y a/\wx.ownsRow (w.heap.size+2) 9 1 v (2*a) ((np ahead (2*a)).map XJ)/\XC (w.heap.size+2) W wx) (fun _ i _ _=>3-(intOf i).toNat)
 .exact⟨0,O,rfl,World.ownsRow_nil _ _ _ _,Below.refl _ _⟩
 .obtain⟨a,ad,rfl,o,q⟩:=hrel
  by_cases P:a<3
  .have i1:(0:N)<=(a:N):=Int.natCast_nonneg _;have i2:(a:N)<3:=O
   go_wp2;obtain⟨X,z⟩:∃ X:Xz,X=wr:=⟨_,rfl⟩;rw[<- z] at o q ⊢;clear z;go_loopw [3,7] (fun v k wx=>∃ b:M,b<=2/\k=V Y b/\wx.ownsRow (w.heap.size+2) 9 1 v (2*a+b) ((np ahead (2*a+b)).map XJ)/\XC (w.heap.size+2) W wx) (fun _ k _=>2-(intOf k).toNat)
   .exact⟨0,O,rfl,o,q⟩
   .obtain⟨b,ac,rfl,c,f⟩:=hrel
    by_cases R:b<2
    .have G:=IA a;have ez:=Ig b;have c1:wr.cell? (w,a)=U (XJ (lG a)):=(f.cell (p:=(w,a)) Xc).trans (aO CK a P);have c2:wr.cell? (w.heap.size+1,b)=U (XJ (oj b)):=(f.cell (p:=(w.heap.size+1,b)) Xc).trans (aO CE b R);have i3:(0:N)<=(b:N):=Int.natCast_nonneg _;have i4:(b:N)<2:=O
     have F:u3.ownBlock≠U w.heap.size:=fun e=>by have:=lI c e;omega
     have E:u3.ownBlock≠U (w.heap.size+1):=fun e=>by have:=lI c e;omega
     have ab:=f.size;have s1:∀ wx,(Op.stringOp .add ahead ⟨#[32]⟩).run prog wx=.ok (XJ (ahead++⟨#[32]⟩)) wx:=Ab ahead _ 20 1 C Xd Xd;have s2:∀ wx,(Op.stringOp .add (ahead++⟨#[32]⟩) (lG a)).run prog wx=.ok (XJ (ahead++⟨#[32]⟩++lG a)) wx:=Ab _ _ 21 15 (vK _ _ 20 1 C Xd) G Xd;have s3:∀ wx,(Op.stringOp .add (ahead++⟨#[32]⟩++lG a) ⟨#[32,102,114,111,109,32,68,65,84,69,32,97,116,32,77,73,78,85,84,69,32,102,111,114,32,77,73,78,85,84,69,83,32]⟩).run prog wx=.ok (XJ (ahead++⟨#[32]⟩++lG a++⟨#[32,102,114,111,109,32,68,65,84,69,32,97,116,32,77,73,78,85,84,69,32,102,111,114,32,77,73,78,85,84,69,83,32]⟩)) wx:=Ab _ _ 36 33 (vK _ _ 21 15 (vK _ _ 20 1 C Xd) G) Xd Xd;have s4:∀ wx,(Op.stringOp .add (ahead++⟨#[32]⟩++lG a++⟨#[32,102,114,111,109,32,68,65,84,69,32,97,116,32,77,73,78,85,84,69,32,102,111,114,32,77,73,78,85,84,69,83,32]⟩) (oj b)).run prog wx=.ok (XJ (ahead++⟨#[32]⟩++lG a++⟨#[32,102,114,111,109,32,68,65,84,69,32,97,116,32,77,73,78,85,84,69,32,102,111,114,32,77,73,78,85,84,69,83,32]⟩++oj b)) wx:=Ab _ _ 69 11 (vK _ _ 36 33 (vK _ _ 21 15 (vK _ _ 20 1 C Xd) G) Xd) ez Xd;go_wp21;go_region_held3 (fun w'=>w'.cell? (w,a)=U (XJ (lG a))/\w'.cell? (w.heap.size+1,b)=U (XJ (oj b)))
      (first
       |go_keep
       |(
        go_split_ands;refine⟨?_,?_⟩
        ·(rw[h.cell_far _ Xh (Ne.symm F)];assumption)
        ·(rw[h.cell_far _ Xh (Ne.symm E)];assumption)))
      ((refine step_append_lies _ (by rfl) _ _ _ (by rfl) (w.heap.size+2) 9 i0 _ 1 16 underlying78 T K I H rfl O u3 (2*a+b) ((np ahead (2*a+b)).map XJ) (by rfl) ((c.alloc _).drew) (wr,0) 1 1 [ahead++⟨#[32]⟩++lG a++⟨#[32,102,114,111,109,32,68,65,84,69,32,97,116,32,77,73,78,85,84,69,32,102,111,114,32,77,73,78,85,84,69,83,32]⟩++oj b] (by rfl) (by rfl) (Ze (cs:=#[ahead++⟨#[32]⟩++lG a++⟨#[32,102,114,111,109,32,68,65,84,69,32,97,116,32,77,73,78,85,84,69,32,102,111,114,32,77,73,78,85,84,69,83,32]⟩++oj b]) (t:=9) (fr:=(0,0)) (heap_alloc_new wr _)) Xk O Xj O Xh (wr.heap.size+1) Xc ?_;intro g cap w1 j h ae aa))
     have A:XC (w.heap.size+2) W w1:=by
      first
       |exact ((f.alloc O _).drew).grown h Xh (fun k S=>lI c S)
       |exact (f.alloc O _).grown h Xh (fun k S=>lI c S)
     have D:Hid (w1.ownsRow (w.heap.size+2) 9 1 (XI g (2*a+b+1) cap) (2*a+(b+1)) ((np ahead (2*a+(b+1))).map XJ)):=by show w1.ownsRow _ _ _ _ _ _;rw[show 2*a+(b+1)=2*a+b+1 from by omega,Sd,show (2*a+b) / 2=a from by omega,show (2*a+b) % 2=b from by omega,YS];exact j
     clear j;go_wp2;refine⟨?_,?_⟩
     .first|exact⟨b+1,O,by go_num,D,A⟩|((repeat apply Exists.intro);exact⟨⟨b+1,O,by go_num,D,A⟩,rfl⟩)
     .simp[intOf];omega
    .obtain rfl:b=2:=O
     have D:Hid (wr.ownsRow (w.heap.size+2) 9 1 u3 (2*(a+1)) ((np ahead (2*(a+1))).map XJ)):=by show wr.ownsRow _ _ _ _ _ _;rw[show 2*(a+1)=2*a+2 from by omega];exact c
     clear c;go_wp2;exact⟨⟨a+1,O,by go_num,D,f⟩,by simp[intOf];omega⟩
  .obtain rfl:a=3:=O
   go_wp2;go_ret;exact⟨_,rfl,ov o O,hB.trans (q.mono O)⟩
def xz:J Xm:=[⟨#[116,104,105,110,103,32,78,65,77,69,32,85,78,73,84,83]⟩,⟨#[98,111,111,107,32,78,65,77,69,32,85,78,73,84,83,32,84,73,77,69,32,84,73,77,69]⟩,⟨#[104,111,108,100,32,78,65,77,69,32,85,78,73,84,83,32,84,73,77,69,32,84,73,77,69,32,77,73,78,85,84,69,83]⟩,⟨#[119,97,105,116,32,78,65,77,69,32,85,78,73,84,83,32,84,73,77,69,32,84,73,77,69,32,77,73,78,85,84,69,83]⟩,⟨#[99,111,110,102,105,114,109,32,73,68]⟩,⟨#[99,97,110,99,101,108,32,73,68]⟩,⟨#[108,105,115,116,32,78,65,77,69]⟩,⟨#[108,105,115,116,32,78,65,77,69,32,84,73,77,69,32,84,73,77,69]⟩,⟨#[119,97,105,116,105,110,103]⟩,⟨#[112,101,97,107,32,78,65,77,69,32,84,73,77,69,32,84,73,77,69]⟩,⟨#[102,105,110,100,32,78,65,77,69,32,85,78,73,84,83,32,77,73,78,85,84,69,83,32,84,73,77,69,32,84,73,77,69]⟩,⟨#[116,105,99,107,32,77,73,78,85,84,69,83]⟩,⟨#[99,108,111,99,107]⟩]
def xw:Xm:=⟨#[115,101,114,105,101,115,32,78,65,77,69,32,85,78,73,84,83]⟩
def zE:Xm:=⟨#[101,120,112,97,110,100]⟩
def nk:J Xm:=xz++np xw 6++np zE 6
theorem nQ{a e size:M}(h:w.ownsRow a e size v n xs)(t:XC w w w'):w'.ownsRow a e size v n xs:=by
 refine⟨h.1,?_⟩;rcases h.2 with y|⟨g,cap,f,j,q,c,rest⟩
 .exact .inl y
 .refine .inr ⟨g,cap,f,j,q,?_,rest⟩
  have:g<w:=by
   by_cases o:g<w
   .exact o
   .rw[Y4 O] at c;cases c
  rw[t.block g this];exact c
theorem vI{a e:M}(h:w.ownsRow a e 1 v n xs)(E:0<n):∃ g cap,v=XI (U ⟨g,0,Z⟩) n cap/\a<=g/\g<w/\∀ j u,xs[j]?=U u->w.cell? (Addr.add (g,0) j)=U u:=by
 rcases h.2 with ⟨_,H⟩|⟨g,cap,t,y,A,q,F,_,D,ht⟩
 .omega
 .have f:g<w:=by
   by_cases f:g<w
   .exact f
   .rw[Y4 O] at q;cases q
  refine⟨g,cap,y,A,f,fun j u o=>?_⟩;have C:Addr.add (g,0) j=(g,j):=by
   unfold Addr.add;split
   .subst_vars;rfl
   .simp
  have z:j<n:=by have G:=h.1;have:=(List.getElem?_eq_some_iff.1 o).1;omega
  have c:t[j]?=U u:=by rw[<- ht,List.getElem?_take,Xt O] at o;simpa using o
  rw[C];simp[Yh,q,c]
theorem Sn(w:Xz):XD prog 46 #[] w fun e w'=>∃ v,e=XQ v/\w'.ownsRow w 9 1 v 25 (nk.map XJ)/\XC w w w':=by
 obtain⟨i0,hi,y,t,q⟩:=info_parts qm;go_in;go_wp2_with fail;obtain⟨W,K⟩:∃ W,W=w.alloc (XR #[XJ ⟨#[116,104,105,110,103,32,78,65,77,69,32,85,78,73,84,83]⟩,XJ ⟨#[98,111,111,107,32,78,65,77,69,32,85,78,73,84,83,32,84,73,77,69,32,84,73,77,69]⟩,XJ ⟨#[104,111,108,100,32,78,65,77,69,32,85,78,73,84,83,32,84,73,77,69,32,84,73,77,69,32,77,73,78,85,84,69,83]⟩,XJ ⟨#[119,97,105,116,32,78,65,77,69,32,85,78,73,84,83,32,84,73,77,69,32,84,73,77,69,32,77,73,78,85,84,69,83]⟩,XJ ⟨#[99,111,110,102,105,114,109,32,73,68]⟩,XJ ⟨#[99,97,110,99,101,108,32,73,68]⟩,XJ ⟨#[108,105,115,116,32,78,65,77,69]⟩,XJ ⟨#[108,105,115,116,32,78,65,77,69,32,84,73,77,69,32,84,73,77,69]⟩,XJ ⟨#[119,97,105,116,105,110,103]⟩,XJ ⟨#[112,101,97,107,32,78,65,77,69,32,84,73,77,69,32,84,73,77,69]⟩,XJ ⟨#[102,105,110,100,32,78,65,77,69,32,85,78,73,84,83,32,77,73,78,85,84,69,83,32,84,73,77,69,32,84,73,77,69]⟩,XJ ⟨#[116,105,99,107,32,77,73,78,85,84,69,83]⟩,XJ ⟨#[99,108,111,99,107]⟩] 9):=⟨_,rfl⟩;rw[<- K];have hB:XC w w W:=by rw[K];exact (zr _ _).alloc (zq _) _
 have A:W.ownsRow w 9 1 (XI w 13 13) 13 (xz.map XJ):=by refine⟨rfl,.inr ⟨w,13,#[XJ ⟨#[116,104,105,110,103,32,78,65,77,69,32,85,78,73,84,83]⟩,XJ ⟨#[98,111,111,107,32,78,65,77,69,32,85,78,73,84,83,32,84,73,77,69,32,84,73,77,69]⟩,XJ ⟨#[104,111,108,100,32,78,65,77,69,32,85,78,73,84,83,32,84,73,77,69,32,84,73,77,69,32,77,73,78,85,84,69,83]⟩,XJ ⟨#[119,97,105,116,32,78,65,77,69,32,85,78,73,84,83,32,84,73,77,69,32,84,73,77,69,32,77,73,78,85,84,69,83]⟩,XJ ⟨#[99,111,110,102,105,114,109,32,73,68]⟩,XJ ⟨#[99,97,110,99,101,108,32,73,68]⟩,XJ ⟨#[108,105,115,116,32,78,65,77,69]⟩,XJ ⟨#[108,105,115,116,32,78,65,77,69,32,84,73,77,69,32,84,73,77,69]⟩,XJ ⟨#[119,97,105,116,105,110,103]⟩,XJ ⟨#[112,101,97,107,32,78,65,77,69,32,84,73,77,69,32,84,73,77,69]⟩,XJ ⟨#[102,105,110,100,32,78,65,77,69,32,85,78,73,84,83,32,77,73,78,85,84,69,83,32,84,73,77,69,32,84,73,77,69]⟩,XJ ⟨#[116,105,99,107,32,77,73,78,85,84,69,83]⟩,XJ ⟨#[99,108,111,99,107]⟩],rfl,XS _,?_,XS _,by decide,rfl,rfl⟩⟩;rw[K];exact heap_alloc_new w _
 clear K;refine (IM _ W Xd).mono ?_;rintro e w1 ⟨v1,rfl,o1,b1⟩;obtain⟨g1,I,rfl,ad,ab,S⟩:=vI o1 O;have h:=nQ A b1;have G:=hB.trans (b1.mono hB.size);have D:=G.size;go_wp2_with (first
  |(at_builtin;refine wpList_append_own _ rfl _ _ 78 rfl w 9 i0 (XJ ⟨#[]⟩) 1 16 underlying78 hi y t q rfl Xd _ 13 (xz.map XJ) rfl h (g1,0) 6 I ((np xw 6).map XJ) rfl rfl ?c1 ?c2 ?c3 ?c4 ?c5 ?_))
 case c1=>exact S
 case c2=>intro u z;simp only[YN] at z;obtain⟨x,_,rfl⟩:=z;rfl
 case c3=>decide
 case c4=>decide
 case c5=>exact D
 intro v2 w2 o j _;have F:=G.grown j D (fun k P=>lI h P);have T:=F.size;go_wp2_with fail;refine (IM _ w2 Xd).mono ?_;rintro e w3 ⟨v3,rfl,o3,b3⟩;obtain⟨g3,H,rfl,ac,aa,R⟩:=vI o3 O;have f:=nQ o b3;have E:=F.trans (b3.mono T);have C:=E.size;go_wp2_with (first
  |(at_builtin;refine wpList_append_own _ rfl _ _ 78 rfl w 9 i0 (XJ ⟨#[]⟩) 1 16 underlying78 hi y t q rfl Xd v2 (13+6) (xz.map XJ++(np xw 6).map XJ) rfl f (g3,0) 6 H ((np zE 6).map XJ) rfl rfl ?c1 ?c2 ?c3 ?c4 ?c5 ?_))
 case c1=>exact R
 case c2=>intro u z;simp only[YN] at z;obtain⟨x,_,rfl⟩:=z;rfl
 case c3=>decide
 case c4=>decide
 case c5=>exact C
 intro v4 w4 c a _;have X:=E.grown a C (fun k P=>lI f P);have HO:Hid (w4.ownsRow w 9 1 v4 25 (nk.map XJ)):=by show w4.ownsRow _ _ _ _ _ _;rw[nk,YS,YS];exact c
 clear c a;go_wp2;go_ret;exact⟨v4,rfl,HO,X⟩
def pre:J Xm->J Xm->M
 |s :: p,w :: ws=>if bG s w then pre p ws+1 else 0
 |_,_=>0
theorem uA:∀ (p ws:J Xm),pre p ws<=p.length/\pre p ws<=ws.length
 |[],_=>by simp[pre]
 |_ :: _,[]=>by simp[pre]
 |s :: p,w :: ws=>by unfold pre;have:=uA p ws;split <;> simp <;> omega
theorem Ac:∀ (p ws:J Xm)(n:M)(c:n<p.length)(a:n<ws.length),n<pre p ws->bG p[n] ws[n]=Xy
 |[],_,_,c,_,_=>by grind
 |_ :: _,[],_,_,a,_=>by grind
 |s :: p,w :: ws,0,_,_,h=>by unfold pre at h;split at h;assumption;omega
 |s :: p,w :: ws,n+1,c,a,h=>by unfold pre at h;split at h;exact Ac p ws n Xi Xi O;omega
theorem Im:∀ (p ws:J Xm)(n:M)(f:n<p.length)(c:n<ws.length),n=pre p ws->bG p[n] ws[n]=Xx
 |[],_,_,f,_,_=>by grind
 |_ :: _,[],_,_,c,_=>by grind
 |s :: p,w :: ws,0,_,_,h=>by
  unfold pre at h
  cases a:bG s w
  .exact a
  .rw[Xt a] at h;omega
 |s :: p,w :: ws,n+1,f,c,h=>by unfold pre at h;split at h;exact Im p ws n Xi Xi O;omega
theorem QA(f:n<p.length)(c:n<ws.length)(h:n<=pre p ws)(a:bG p[n] ws[n]=Xy):n+1<=pre p ws:=by by_cases e:n=pre p ws;have:=Im p ws n f c e;rw[a] at this;cases this;omega
theorem Qz(f:n<p.length)(c:n<ws.length)(h:n<=pre p ws)(a:bG p[n] ws[n]=Xx):n=pre p ws:=by by_cases e:n=pre p ws;exact e;have:=Ac p ws n f c O;rw[a] at this;cases this
def scan:J (J Xm)->J Xm->M->Xo (J Xm) × M
 |[],_,m=>(Z,m)
 |p :: ps,ws,m=>if pre p ws=p.length/\pre p ws=ws.length then (U p,0) else scan ps ws (if m<pre p ws then pre p ws else m)
def px:J (J Xm):=nk.map Txt.aC
theorem Re:px.length=25:=by simp[px,nk,xz,np]
def kH(s:Xm):Xo (J Xm) × M:=scan px (Txt.aC s) 0
theorem IV:∀ x∈nk,x.size<=160:=by
 intro x f;have c:∀ a k,(xA xw a k).size<=160/\(xA zE a k).size<=160:=fun a k=>by have q:=IA a;have o:=Ig k;have h:GK.size=33:=Xd;have z:xw.size=17:=Xd;have y:zE.size=6:=Xd;have t:(⟨#[32]⟩:Xm).size=1:=Xd;unfold xA;simp only[ByteArray.size_append];omega
 unfold nk np at f;simp only[X8,YN] at f;rcases f with (f|⟨j,_,rfl⟩)|⟨j,_,rfl⟩
 .revert x;decide
 .exact (c _ _).1
 .exact (c _ _).2
theorem C8(s:Xm):(Txt.aC s).length<=s.size+1:=by rw[Txt.Ek,Yx];have:=Txt.xY s s.size;split <;> simp <;> omega
structure Row(w:Xz)(a:Xo XE)(g:M)(xs:J Xm):Prop where
 at_:0<xs.length->a=U ⟨g,0,Z⟩
 cells:∀ (j:M) (h:j<xs.length),w.cell? (g,j)=U (XJ xs[j])
theorem Row.later{a:Xo XE}{xs:J Xm}(h:Row w a g xs)(f:XC w w wx):Row wx a g xs :=⟨h.at_,fun j c=>cell_later f (h.cells j c)⟩
theorem xI{f:M}{xs:J Xm}(h:w.ownsRow f 9 1 v n (xs.map XJ))(t:n=xs.length):∃ a cap g,v=XI a xs.length cap/\Row w a g xs:=by
 subst t;by_cases q:0<xs.length
 .let⟨g,cap,o,_,_,hc⟩:=vI h q;refine⟨U ⟨g,0,Z⟩,cap,g,o,fun _=>rfl,fun j c=>?_⟩;have:=hc j (XJ xs[j]) (by simp[c])
  have y:Addr.add (g,0) j=(g,j):=by
   unfold Addr.add;split
   .subst_vars;rfl
   .simp
  rwa [y] at this
 .rcases h.2 with ⟨o,A⟩|⟨g,cap,z,o,_⟩
  .exact⟨Z,0,0,by grind,fun h=>Xu h q,fun j c=>Xu c O⟩
  .exact⟨_,cap,g,o,fun h=>Xu h q,fun j c=>Xu c O⟩
def DI:XA->M
 |.bool Xy=>1
 |_=>0
theorem Rp{s:Xm}{q:J Xm}(f:k<nk.length)(a:q=Txt.aC nk[k])(h:kH s=scan (px.drop k) (Txt.aC s) mm):kH s=if pre q (Txt.aC s)=q.length/\pre q (Txt.aC s)=(Txt.aC s).length then (U q,0) else scan (px.drop (k+1)) (Txt.aC s) (if mm<pre q (Txt.aC s) then pre q (Txt.aC s) else mm):=by
 have c:k<px.length:=by unfold px;simpa using f
 rw[h,Zg c];have e:px[k]=q:=by rw[a];exact List.getElem_map ..
 rw[e,scan]
theorem QD{s:Xm}(a:25<=k)(h:kH s=scan (px.drop k) (Txt.aC s) mm):kH s=(Z,mm):=by rw[h,List.drop_of_length_le (by rw[Re];exact a)];rfl
def RR(s:Xm)(w':Xz)(e:Ending):Prop :=
 (∃ (p:J Xm) (a b:Xo XE) (c d g h:M),kH s=(U p,0)/\e=XQ (.tuple #[XI a (Txt.aC s).length c,XI b p.length d,V Y 0,V Y 0])/\Row w' a g (Txt.aC s)/\Row w' b h p) \/
 (∃ m:M,kH s=(Z,m)/\e=XQ (.tuple #[(),(),V Y 2,V Y m]))
theorem Dd(s:Xm)(w:Xz)(hs:s.size<=160):XD prog 28 #[s] w fun e w'=>RR s w' e/\XC w w w':=by
 have ao:=C8 s;have aq:(s.size:N)<=160:=O;go_in;go_wp21;refine (IJ s w hs).mono ?_;rintro e w1 ⟨v1,rfl,o1,b1⟩;obtain⟨aw,cw,gw,rfl,T⟩:=xI o1 rfl;go_wp21;refine (Sn w1).mono ?_;rintro e w2 ⟨v2,rfl,o2,b2⟩;obtain⟨ap,cp,gp,rfl,F⟩:=xI o2 Xd;have S:=T.later b2;have af:=b1.trans (b2.mono b1.size);clear o1 o2 T b1 b2;obtain rfl:=F.at_ Xd;rw[show nk.length=25 from by decide];go_wp2;go_loopw [8,9,10,11,12] (fun m i _ _ _ wx=>∃ k mm:M,k<=25/\mm<=161/\i=V Y k/\m=V Y mm/\kH s=scan (px.drop k) (Txt.aC s) mm/\Row wx aw gw (Txt.aC s)/\Row wx gp gp nk/\XC w w wx) (fun _ i _ _ _ _=>25-(intOf i).toNat)
 .exact⟨0,0,O,O,rfl,rfl,rfl,S,F,af⟩
 .obtain⟨k,mm,hk,au,rfl,rfl,ac,rw,rp,A⟩:=hrel;have ag:=hide ac;clear ac S F af
  by_cases aj:k<25
  .have hi:(k:N)<25:=O
   have z:k<nk.length:=by rw[show nk.length=25 from by decide];exact aj
   have hc:=rp.cells k z;go_wp21;refine (IJ _ _ (IV _ (zg z))).mono ?_;rintro e w3 ⟨v3,rfl,o3,b3⟩;obtain⟨ax,cx,gx,rfl,rx⟩:=xI o3 rfl;have R:=rw.later b3;have aa:=rp.later b3;have C:=A.trans (b3.mono A.size);obtain⟨q,hq⟩:∃ q,q=Txt.aC nk[k]:=⟨_,rfl⟩;rw[<- hq] at rx ⊢;have HQ:=hide hq;have ar:q.length<=161:=by rw[hq];have:=C8 nk[k];have:=IV _ (zg z);omega
   clear hq o3 rw rp A b3 hc;go_wp2;go_loopw [11,12] (fun n mo wx=>∃ (n':M) (a:Xp),n=V Y n'/\mo=XK a/\n'<=pre q (Txt.aC s)/\(a=Xx->n'=pre q (Txt.aC s))/\Row wx aw gw (Txt.aC s)/\Row wx gp gp nk/\Row wx ax gx q/\XC w w wx) (fun n mo _=>DI mo+(q.length-(intOf n).toNat))
   .exact⟨0,Xy,rfl,rfl,YJ _,fun h=>Xu h Xd,R,aa,rx,C⟩
   .obtain⟨n',a,rfl,rfl,hn,ae,o,E,y,t⟩:=hrel;have an:=uA q (Txt.aC s)
    have H:(a=Xy/\n'<q.length/\n'<(Txt.aC s).length)\/a=Xx\/(a=Xy/\¬ n'<q.length)\/(a=Xy/\n'<q.length/\¬ n'<(Txt.aC s).length):=by
     cases a
     .simp
     .simp;omega
    have al:=hide ae;clear ae R aa rx C;rcases H with ⟨rfl,h1,h2⟩|G
    .obtain rfl:=y.at_ O;obtain rfl:=o.at_ O;have c1:=y.cells n' h1;have c2:=o.cells n' h2;have j1:(n':N)<(q.length:N):=O
     have j2:(n':N)<((Txt.aC s).length:N):=O;have j0:(0:N)<=(n':N):=Int.natCast_nonneg _;have ab:(Txt.aC s)[n'].size<=160:=XU (xZ s _ (zg h2)) hs;have ak:=hide ab;clear ab;go_wp21;go_region_held3 (fun w'=>w'.cell? (gx,n')=U (XJ q[n'])/\w'.cell? (gw,n')=U (XJ (Txt.aC s)[n']))
      (first
       |go_keep
       |(
        go_split_ands;refine⟨?_,?_⟩
        .exact cell_later f Xe
        .exact cell_later f Xe))
      ((go_at_call 47;refine aK (Qp _ _ _ (aO ak)) fun w4 f=>?_))
     have j:XC wr wr w4:=⟨f.os,f.tape,f.output,f.size,f.block⟩;have D:=t.trans (j.mono t.size);have P:=o.later j;have X:=E.later j;have K:=y.later j
     cases hf:bG q[n'] (Txt.aC s)[n']
     .have HP:=hide (Qz h1 h2 hn hf);go_wp2;exact⟨⟨n',Xx,rfl,rfl,hn,fun _=>aO HP,P,X,K,D⟩,by simp[DI,intOf]⟩
     .have HP:=hide (QA h1 h2 hn hf);go_wp2;exact⟨⟨n'+1,Xy,by go_num,rfl,aO HP,fun h=>Xu h Xd,P,X,K,D⟩,by simp[DI,intOf];omega⟩
    .have ad:n'=pre q (Txt.aC s):=by
      rcases G with h|⟨_,h⟩|⟨_,_,h⟩
      .exact aO al h
      .omega
      .omega
     have I:=hide (Rp z (aO HQ) (aO ag));rw[<- ad] at I;clear ad;by_cases c:n'=q.length/\n'=(Txt.aC s).length
     .obtain⟨f1,f2⟩:=c;have HR:Hid (kH s=(U q,0)):=(aO I).trans (Xt ⟨f1,f2⟩);have g1:((n':N)==(q.length:N))=Xy:=beq_iff_eq.2 O;have g2:((n':N)==((Txt.aC s).length:N))=Xy:=beq_iff_eq.2 O;have F1:=hide f1;have F2:=hide f2;clear f1 f2;rcases G with rfl|⟨rfl,hx⟩|⟨rfl,hx,hy⟩
      all_goals go_wp2;(try simp only[Y7,Exit.then]);refine bodyPost_ret (oW rfl _ _ _) rfl ?_;exact⟨.inl ⟨q,aw,ax,cw,cx,gw,gx,HR,rfl,o,y⟩,t⟩
     .have HR:Hid (kH s=scan (px.drop (k+1)) (Txt.aC s) (if mm<n' then n' else mm)):=(aO I).trans (Xs c)
      have hg:((n':N)==(q.length:N))=Xx\/(((n':N)==(q.length:N))=Xy/\((n':N)==((Txt.aC s).length:N))=Xx):=by
       by_cases e:n'=q.length
       .right;exact⟨beq_iff_eq.2 O,beq_eq_false_iff_ne.2 O⟩
       .left;exact beq_eq_false_iff_ne.2 O
      clear c;have ai:mm<n'\/¬ mm<n':=O;rcases G with rfl|⟨rfl,hx⟩|⟨rfl,hx,hy⟩;all_goals rcases hg with g1|⟨g1,g2⟩
      all_goals rcases ai with hm|hm
      all_goals
       go_wp2;first
        |exact⟨⟨k+1,n',O,O,by go_num,rfl,HR.trans (by rw[Xt hm]),o,E,t⟩,by simp[intOf];omega⟩
        |exact⟨⟨k+1,mm,O,O,by go_num,rfl,HR.trans (by rw[Xs hm]),o,E,t⟩,by simp[intOf];omega⟩
  .have HE:=hide (QD O (aO ag));go_wp2
   (try simp only[Y7,Exit.then]);refine bodyPost_ret (oW rfl _ _ _) rfl ?_;exact⟨.inr ⟨mm,aO HE,rfl⟩,A⟩
theorem zV{a b:Xm}(h:a=b):Ending.returned a=XQ b:=by rw[h]
def GS:XA->M
 |.string s=>s.size
 |_=>0
theorem Hy(j:M)(t:Xm):(⟨#[48]⟩:Xm)++Txt.pz j t=Txt.pz (j+1) t:=by apply Txt.nS;rw[Txt.qI,Txt.zZ,Txt.zZ,List.replicate_succ];rfl
theorem xv(n:N)(size:M)(w:Xz)(o:Env w)(C:0<=n)(A:n<=9999999)(I:size<=9):XD prog 51 #[n,V Y size] w fun e w'=>e=XQ (Txt.jU n size)/\XC w w w':=by
 have H:=Txt.BC n C A;have F:=hide o;clear o;go_in;go_wp21;refine aK (Du n w (aO F) O O) fun w1 f=>?_;go_wp2;go_loop [5] (fun t=>∃ j:M,j<=size-(Txt.bE n).size/\t=XJ (Txt.pz j (Txt.bE n))) (fun t=>size-GS t)
 .exact⟨0,YJ _,rfl⟩
 .obtain⟨j,K,rfl⟩:=hrel;have a:=Txt.Aa j (Txt.bE n);have y:=hide a;have G:(Txt.pz j (Txt.bE n)).size<=20:=O
  clear a;by_cases z:(Txt.pz j (Txt.bE n)).size<size
  .have c:((Txt.pz j (Txt.bE n)).size:N)<(size:N):=O
   have D:=hide (Hy j (Txt.bE n));have h:Hid (((⟨#[48]⟩:Xm)++Txt.pz j (Txt.bE n)).size=1+(Txt.pz j (Txt.bE n)).size):=ByteArray.size_append;go_wp2;go_round
   .exact⟨j+1,by have:=aO y;omega,by rw[aO D]⟩
   .have q:=aO h;show size-((⟨#[48]⟩:Xm)++Txt.pz j (Txt.bE n)).size<size-(Txt.pz j (Txt.bE n)).size;omega
  .have c:¬ ((Txt.pz j (Txt.bE n)).size:N)<(size:N):=O
   have E:Hid (Txt.jU n size=Txt.pz j (Txt.bE n)):=by show Txt.jU n size=_;unfold Txt.jU;rw[show size-(Txt.bE n).size=j from by have:=aO y;omega]
   go_wp2;go_ret;exact⟨zV (by rw[E]),f⟩
theorem nu(n:N)(w:Xz)(c:Env w)(h:-9223372036854775808<=n)(f:n<=9223372036854775807):XD prog 289 #[n] w fun e w'=>e=XQ (Txt.bE n)/\XC w w w':=by
 have j:=hide c;clear c;go_in;go_wp21;refine aK (Du n w (aO j) h f) fun w1 a=>?_;go_wp2;go_ret;exact⟨rfl,a⟩
theorem xP(n:N)(size:M)(w:Xz)(z:Env w)(C:0<=n)(A:n<=9999999)(I:size<=9):XD prog 295 #[n,V Y size] w fun e w'=>e=XQ (Txt.jU n size)/\XC w w w':=by
 have H:=Txt.BC n C A;have F:=hide z;go_in;go_wp21;refine aK (nu n w (aO F) O O) fun w1 f=>?_;go_wp2;go_loop [5] (fun t=>∃ j:M,j<=size-(Txt.bE n).size/\t=XJ (Txt.pz j (Txt.bE n))) (fun t=>size-GS t)
 .exact⟨0,YJ _,rfl⟩
 .obtain⟨j,K,rfl⟩:=hrel;have a:=Txt.Aa j (Txt.bE n);have o:=hide a;have G:(Txt.pz j (Txt.bE n)).size<=20:=O
  clear a;by_cases y:(Txt.pz j (Txt.bE n)).size<size
  .have c:((Txt.pz j (Txt.bE n)).size:N)<(size:N):=O
   have D:=hide (Hy j (Txt.bE n));have h:Hid (((⟨#[48]⟩:Xm)++Txt.pz j (Txt.bE n)).size=1+(Txt.pz j (Txt.bE n)).size):=ByteArray.size_append;go_wp2;go_round
   .exact⟨j+1,by have:=aO o;omega,by rw[aO D]⟩
   .have q:=aO h;show size-((⟨#[48]⟩:Xm)++Txt.pz j (Txt.bE n)).size<size-(Txt.pz j (Txt.bE n)).size;omega
  .have c:¬ ((Txt.pz j (Txt.bE n)).size:N)<(size:N):=O
   have E:Hid (Txt.jU n size=Txt.pz j (Txt.bE n)):=by show Txt.jU n size=_;unfold Txt.jU;rw[show size-(Txt.bE n).size=j from by have:=aO o;omega]
   go_wp2;go_ret;exact⟨zV (by rw[E]),f⟩
def vC(y m d:N):Xm:=Txt.jU y 4++⟨#[45]⟩++Txt.jU m 2++⟨#[45]⟩++Txt.jU d 2
def jg(n:N):Xm:=Txt.jU (n / 60) 2++⟨#[58]⟩++Txt.jU (n % 60) 2
theorem Dg(n:N)(w:Xz)(h:Env w)(y:0<=n)(t:n<1440):XD prog 294 #[n] w fun e w'=>e=XQ (jg n)/\XC w w w':=by
 have j:=hide h;have q:=Txt.nN (n / 60) 2 O O;have o:=Txt.nN (n % 60) 2 O O;clear h;go_in;go_wp21;refine aK (xP (n / 60) 2 w (aO j) O O O) fun w1 a=>?_;go_wp21;refine aK (xP (n % 60) 2 w1 ((aO j).later a) O O O) fun w2 f=>?_;have c:=a.trans (f.mono a.size);go_wp2;go_ret;exact⟨rfl,c⟩
theorem Si(n:N)(w:Xz)(z:Env w)(C:-738885<=n)(A:n<=2913173):XD prog 293 #[n] w fun e w'=>(∃ y m d,e=XQ (vC y m d)/\Cal.ok y m d=Xy/\Cal.num y m d=n)/\XC w w w':=by
 have o:=hide z;go_in;go_wp21;refine (D6 n w (aO o).jO C A).mono ?_;rintro e w1 ⟨y,m,d,rfl,f,h,rfl⟩;have D:=hide f;have E:=hide h;let⟨y1,y2,m1,m2,d1,d2⟩:=(Cal.jx y m d).1 f;have I:=Cal.pK y m;have H:=Txt.nN y 4 O O;have G:=Txt.nN m 2 O O;have F:=Txt.nN d 2 O O;go_wp21;refine aK (xP y 4 _ (aO o) O O O) fun w2 c=>?_;go_wp21;refine aK (xP m 2 _ ((aO o).later c) O O O) fun w3 t=>?_;have a:=c.trans (t.mono c.size);go_wp21;refine aK (xP d 2 _ ((aO o).later a) O O O) fun w4 q=>?_;have j:=a.trans (q.mono a.size);go_wp2;go_ret;exact⟨⟨y,m,d,rfl,aO D,aO E⟩,j⟩
end Go.Proofs.YtolaacmheeaadaaGreatDoor
