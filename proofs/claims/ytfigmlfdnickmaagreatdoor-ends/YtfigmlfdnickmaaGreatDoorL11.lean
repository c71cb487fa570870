import Derived.Test.YtfigmlfdnickmaaGreatDoorL10
import Derived.BigQuiet
import Derived.Deep.CutBlock
set_option maxRecDepth 100000
set_option maxHeartbeats 8000000
open Go.Proofs.Tryz
open _root_ renaming ByteArray->XK,List->XL,Bool->XN,Nat->XP,Int->XQ,if_neg->XR,if_pos->XS,Nat->M,List->J
open Option renaming none->XU,some->XV,mem_toList->ZL,some->U
open Bool renaming false->XW,true->XX,false_eq_true->Yr
open Go renaming World->XY,Value->XZ,Calls->X4
open Go.RowKit renaming Below->X0
open Go.Value renaming int->X7,ownBlock->ZB,slice->X9,pointer->X8,string->Ya,bool->Yb,int->V
open And renaming intro->Yz
open Nat renaming zero_le->Zd,lt_of_lt_of_le->Zg,le_trans->Yk,le_refl->Yi
open Go.World renaming ownsRow_nil->ZD,cell?_setCell_same->Yy,block_lt_of_cell?->Yl,news_of_block->ZF,frozen?->Ym,setCell->YA,cell?->YF
open Go.IntKind renaming i64->Yf,i64->Y
open List renaming length_eq_zero_iff->Y6,getElem?_eq_getElem->ZV,take_succ_eq_append_getElem->Zc,mem_append->Yv,take_of_length_le->Ze,mem_cons_of_mem->ZK,mem_cons->Yu,length_append->YZ,mem_map->Zh,map_append->Zl,length_filter_le->ZA,append_assoc->YU,length_map->ZE,filter_append->YJ
open Go.Ending renaming returned->Yg
open Go.Obj renaming cells->Yh
namespace Go.Proofs.YtfigmlfdnickmaaGreatDoor
variable{tm:XN}{ft kw name tt ut:XK}{fr id pc tq:XQ}{ts:XL (XK × XQ)}{es:XL aA.aO}{acc l:XL XQ}{F G:XL XP}{O Q b c d g k n:XP}{ws:XP->XK}{s:aA.St}{v:XZ}{W Z w w' wx:XY}
open Go.RowKit
def ji(r:Rd.cA):M->J XQ
 |0=>[]
 |k+1=>Rd.wV r (ji r k) (r.fr+k)
theorem FW(r:Rd.cA):∀ n k:M,Rd.pY r n (r.fr+k) (ji r k)=ji r (k+n)
 |0,k=>rfl
 |n+1,k=>by
  have:=FW r n (k+1);rw[Rd.pY,show k+(n+1)=k+1+n by omega,<- this];simp only[ji];rw[show r.fr+(k:XQ)+1=r.fr+((k+1:M):XQ) by omega]
theorem Bv{r:Rd.cA}:ji r (728-r.fr).toNat=Rd.bY r:=by
 have:=FW r (728-r.fr).toNat 0;rw[Nat.zero_add] at this;rw[<- this];simp[Rd.bY,ji]
theorem Bw(r:Rd.cA):∀ k,(ji r k).length<=k
 |0=>zq _
 |k+1=>by
  have:=Bw r k;simp only[ji,Rd.wV]
  split
  .simp;omega
  .omega
theorem Ba{N:M}(h:aH G w w')(j:N<=w)(f:∀ b∈G,N<=b):X0 N w w':=⟨h.os,h.tape,h.output,h.size,fun b i=>h.block b Xz fun a=>by have:=f b a;omega⟩
def rQ(r:Rd.cA)(w:XY)(e:Ending)(w':XY):Prop:=X0 w w w'/\((Rd.gQ r=0/\∃ v,e=Yg (.tuple #[v,V Y 0])/\w'.ownsRow w 3 1 v (Rd.bY r).length ((Rd.bY r).map (V Y)))\/(Rd.gQ r≠0/\e=Yg (.tuple #[(),V Y (Rd.gQ r)])))
theorem rQ.err{r:Rd.cA}{n:XQ}(f:X0 w w w')(h:Rd.gQ r=n)(a:n≠0):rQ r w (Yg (.tuple #[(),n])) w':=⟨f,.inr ⟨by rw[h];exact a,by rw[h]⟩⟩
theorem Gi(r:Rd.cA)(R:Rd.fY r)(w:XY):X4 prog 181 #[nU r] w (rQ r w):=by
 have f0:=R.f0;have f1:=R.f1;have t0:=R.t0;have HF:=aC R;have BX:=aC (Yz ((zr _ w).alloc aI (iJ r)) (cP w (iJ r)));have HS:=aC (fun d (h0:r.fr<=d) (h1:d<728) W=>MP r R d h0 h1 W);simp only[nU,rF] at HS ⊢;clear R
 go_in
 go_upto_region 1 with fail
 change Code.wp _ _ _ _ (w.alloc (iJ r));generalize w.alloc (iJ r)=W0 at *;have CL:Hid (∀ W,X0 W0 W0 W->W.heap[w.heap.size]?=U (iJ r)):=fun W k=>(k.block _ (Array.getElem?_eq_some_iff.1 BX.2).1).trans BX.2
 obtain⟨⟨c0,c1,c9,o,j,h,B⟩,_⟩:=oD BX.2
 go_wp21
 clear c0 c1 c9 o j h B
 go_loopw [4,5,6] (fun v d _ wr=>∃ k:M,k<=(728-r.fr).toNat/\d=V Y (r.fr+k)/\wr.ownsRow W0 3 1 v (ji r k).length ((ji r k).map (V Y))/\X0 W0 W0 wr) (fun _ d _ _=>(728-intOf d).toNat)
 .exact⟨0,Zd _,by simp,ZD _ _ _ _,Below.refl _ _⟩
 .obtain⟨k,hk,rfl,ho,f⟩:=hrel;have z:=aC (Yz ho f);obtain⟨va,vc,rfl⟩:=gj ho;clear ho f
  by_cases a:r.fr+k<728
  .obtain⟨⟨c0,c1,c9,o,j,h,B⟩,D⟩:=oD (CL _ z.2);have j0:=D 0 Xz;have j1:=D 1 Xz;have j2:=D 2 Xz;have j3:=D 3 Xz;have j4:=D 4 Xz;have j5:=D 5 Xz;have j6:=D 6 Xz;clear D;have wd:Y.wrap (r.fr+k+1)=r.fr+k+1:=cT Xz Xz
   go_upto_region 6 with (first|(go_at_call 239;refine aK (HS (r.fr+k) Xz a _) fun w1 ab=>?_;have B1:=aC ab;clear ab))
   have I:=aC (eQ z.1 B1);have BK:=aC (bM z.2 B1 aI);have t:=Bw r k;clear c0 c1 c9 o j h B j0 j1 j2 j3 j4 j5 j6;obtain⟨⟨_,_,_,_,_,h,B⟩,_⟩:=oD (CL _ BK)
   cases p:Rd.has r (r.fr+k)
   .have HN:Hid (ji r (k+1)=ji r k):=XR (fun e=>by rw[p] at e;exact absurd e.1 XA);clear p
    go_wp21
    exact⟨⟨k+1,Xz,by go_num,by rw[HN];exact I,BK⟩,by simp[intOf];omega⟩
   .by_cases ht:r.ti=0
    .have ae:(r.ti==0)=XX:=by simp[ht]
     have T:¬ (0:XQ)<r.ti:=Xz
     by_cases hu:r.fr+k<=r.un
     .have HY:Hid (ji r (k+1)=ji r k++[r.fr+k]):=XS ⟨p,.inl ⟨ht,hu⟩⟩;clear p
      go_wp2_with (first|(at_builtin;refine yt rfl _ _ rfl I (r.fr+k) rfl rfl Xz (by have:=z.2.size;have:=B1.size;omega) ?_;intro v' w2 o2 k2))
      exact⟨⟨k+1,Xz,by go_num,by rw[HY];exact o2,BK.trans (Ba k2 BK.size fun b p=>(I.lt b (ZL.1 p)).1)⟩,by simp[intOf];omega⟩
     .have HN:Hid (ji r (k+1)=ji r k):=XR (fun e=>by rcases e.2 with q|q <;> omega);clear p
      go_wp21
      exact⟨⟨k+1,Xz,by go_num,by rw[HN];exact I,BK⟩,by simp[intOf];omega⟩
    .have ae:(r.ti==0)=XW:=by simp[ht]
     have T:(0:XQ)<r.ti:=Xz
     by_cases hu:((ji r k).length:XQ)<r.ti
     .have HY:Hid (ji r (k+1)=ji r k++[r.fr+k]):=XS ⟨p,.inr ⟨T,hu⟩⟩;clear p
      go_wp2_with (first|(at_builtin;refine yt rfl _ _ rfl I (r.fr+k) rfl rfl Xz (by have:=z.2.size;have:=B1.size;omega) ?_;intro v' w2 o2 k2))
      exact⟨⟨k+1,Xz,by go_num,by rw[HY];exact o2,BK.trans (Ba k2 BK.size fun b p=>(I.lt b (ZL.1 p)).1)⟩,by simp[intOf];omega⟩
     .have HN:Hid (ji r (k+1)=ji r k):=XR (fun e=>by rcases e.2 with q|q <;> omega);clear p
      go_wp21
      exact⟨⟨k+1,Xz,by go_num,by rw[HN];exact I,BK⟩,by simp[intOf];omega⟩
  .have H:k=(728-r.fr).toNat:=Xz
   rw[H,Bv] at z;have t:=Bw r (728-r.fr).toNat;rw[H,Bv];rw[Bv] at t;have B0:=aC (bM BX.1 z.2 aI);obtain⟨⟨_,_,_,o,j,h,_⟩,_⟩:=oD (CL _ z.2);clear hk H a;have af:(Rd.bY r).length<=728:=Xz
   clear t
   by_cases ac:40<(Rd.bY r).length
   .have C:(40:XQ)<((Rd.bY r).length:XQ):=Xz
    have A:Hid (Rd.gQ r=11):=XS (.inl ac)
    go_wp21
    go_ret2;exact rQ.err B0 A XC
   have C:¬ (40:XQ)<((Rd.bY r).length:XQ):=Xz
   by_cases ht:40<r.ti
   .have A:Hid (Rd.gQ r=11):=XS (.inr ht)
    go_wp21
    go_ret2;exact rQ.err B0 A XC
   have K:Hid (¬ (40<(Rd.bY r).length\/40<r.ti)):=by rw[Hid];omega
   by_cases hz:(Rd.bY r).length=0
   .have S:(((Rd.bY r).length:XQ)==0)=XX:=by simp[hz]
    have A:Hid (Rd.gQ r=6):=(XR K).trans (XS (.inl (Y6.1 hz)))
    go_wp21
    go_ret2;exact rQ.err B0 A XC
   have S:(((Rd.bY r).length:XQ)==0)=XW:=by rw[beq_eq_false_iff_ne];omega
   by_cases P:((Rd.bY r).length:XQ)<r.ti
   .have A:Hid (Rd.gQ r=6):=(XR K).trans (XS (.inr P))
    go_wp21
    go_ret2;exact rQ.err B0 A XC
   have A:Hid (Rd.gQ r=if (Rd.bY r).any (Rd.nh r) then 6 else 0):=(XR K).trans (XR (by
    rintro (e|e)
    .exact hz (by rw[e];rfl)
    .exact P e))
   have ag:0<(Rd.bY r).length:=Xz
   go_wp21
   have MM:=aC (fun i (hi:i<(Rd.bY r).length)=>Yz (Rd.ui HF (zg hi)) (Yz HF.m0 (Yz HF.m1 (Yz HF.i1 HF.i2))));clear HS o j h ac ht hz P S C;obtain⟨ad,hV⟩:∃ ad,ad=wr:=⟨_,rfl⟩;subst hV
   go_loopw [7] (fun v wx=>∃ i:M,i<=(Rd.bY r).length/\v=V Y i/\(∀ x∈(Rd.bY r).take i,Rd.nh r x=XW)/\X0 ad ad wx) (fun v _=>(Rd.bY r).length-(intOf v).toNat)
   .exact⟨0,Zd _,rfl,by simp,Below.refl _ _⟩
   .obtain⟨i,hi,rfl,X,f⟩:=hrel;have E:=aC (Yz X (Yz f (bM B0 f aI)));clear X f
    by_cases a:i<(Rd.bY r).length
    .have aa:(i:XQ)<((Rd.bY r).length:XQ):=Xz
     obtain⟨g,cap,e,y⟩:=qz z.1 (k:=i) (u:=V Y (Rd.bY r)[i]) (by rw[List.getElem?_map,ZV a];rfl);simp only[Value.slice.injEq,true_and] at e;obtain⟨rfl,rfl⟩:=e;have y':=aR E.2.1 y;clear y;obtain⟨⟨_,_,_,o,j,_⟩,_⟩:=oD (CL _ (bM z.2 E.2.1 aI));obtain⟨⟨m1,m2⟩,m3,m4,m5,m6⟩:=MM i a
     have HT:Hid (∀ x∈(Rd.bY r).take (i+1),x∈(Rd.bY r).take i\/x=(Rd.bY r)[i]):=fun x hx=>by
      rw[Zc a] at hx;exact (Yv.1 hx).imp id List.mem_singleton.1
     have HM:Hid ((Rd.bY r)[i]∈Rd.bY r):=zg a;generalize (Rd.bY r)[i]=x at *;have w1:Y.wrap (1440*x)=1440*x:=cT Xz Xz;have w2:Y.wrap (1440*x+r.mn)=1440*x+r.mn:=cT Xz Xz;have w3:Y.wrap (1440*x+r.mn+r.mi)=1440*x+r.mn+r.mi:=cT Xz Xz
     by_cases ai:(1048320:XQ)<1440*x+r.mn+r.mi
     .have HX:Hid (Rd.gQ r=6):=A.trans (XS (List.any_eq_true.2 ⟨x,HM,decide_eq_true Xz⟩))
      go_upto_region 15 with fail
      go_quiet (fail)
      go_wp21
      go_ret2;exact rQ.err (lY E.2.2 _) HX XC
     .go_upto_region 15 with fail
      go_quiet (fail)
      go_wp21
      exact⟨⟨i+1,Xz,by go_num,fun y hy=>by
       rcases HT y hy with e|e
       .exact E.1 y e
       .rw[e];exact decide_eq_false Xz,lY E.2.1 _⟩,by simp[intOf];omega⟩
    .have aa:¬ (i:XQ)<((Rd.bY r).length:XQ):=Xz
     have HX:Hid (Rd.gQ r=0):=A.trans (XR (by
      rw[List.any_eq_true];rintro ⟨x,hx,P⟩;rw[E.1 x (by rw[Ze Xz];exact hx)] at P
      cases P))
     go_wp21
     go_ret2;exact⟨E.2.2,.inl ⟨HX,_,rfl,tJ (eQ z.1 E.2.1) BX.1.size⟩⟩
open aA (aO St bI aV)
theorem OS:(prog.info? 315).map (fun i=>(i.zero,i.size,i.bytes))=U (U (.agg #[Ya ⟨#[]⟩,V Y 0]),2,24):=XF
theorem G6(a:Array XZ)(w:XY):(callFunc 126 a).run prog w=.ok (.enter 126 a) w:=XF
theorem DD.qk{Y j:XY}{xs:J (aO × M × M)}{cap:M}{t:XK × XQ}(h:DD Y d s xs F)(cv:Y.cell? (d,0)=U v)(ho:Y.ownsRow 0 315 2 v s.ts.length (s.ts.flatMap ke))(p:∀ k,v.ownBlock=U k->k∈F/\k≠d)(k:aH (v.ownBlock.toList) Y j)(z:j.ownsRow 0 315 2 (X9 g (s.ts.length+1) cap) (s.ts.length+1) (s.ts.flatMap ke++ke t))(R:v.ownBlock=U g\/Y<=g)(hl:s.ts.length<4):
  DD (j.setCell (d,0) (X9 g (s.ts.length+1) cap)) d { s with ts:=s.ts++[t] } xs (g :: F)/\aH F Y (j.setCell (d,0) (X9 g (s.ts.length+1) cap)):=by
 obtain⟨v2,b1,X,K⟩:=h.rd.ev;have E:d<Y:=h.lt d h.rd.dF
 have A:g≠d:=by
  rcases R with e|e
  .exact (p g e).2
  .omega
 have f:∀ y∈v.ownBlock.toList,y∈F/\y≠d:=fun y a=>p y (by simpa using a)
 have q:d ∉ v.ownBlock.toList:=fun e=>(f d e).2 rfl
 have P:aH [d] j (j.setCell (d,0) (X9 g (s.ts.length+1) cap)):=aH.bD ..;have r:aH (d :: v.ownBlock.toList) Y (j.setCell (d,0) (X9 g (s.ts.length+1) cap)):=(k.mono (by intro y a;exact ZK _ a)).setCell (.inl XA) _ _
 have H:∀ y,y ∉ F->y ∉ d :: v.ownBlock.toList:=by
  intro y a e;rcases Yu.1 e with rfl|e
  .exact a h.rd.dF
  .exact a (f y e).1
 have D:∀ b,v2.ownBlock=U b->b ∉ d :: v.ownBlock.toList:=by
  intro b i e;rcases Yu.1 e with e|e
  .exact (K b i).2 e
  .have e:v.ownBlock=U b:=by simpa using e
   rcases ho.2 with ⟨rfl,_⟩|⟨g',T,aa,rfl,_,hh,_⟩
   .simp[ZB] at e
   .simp[ZB] at e;subst e;exact ja X hh XC i
 have I:∀ o u,Y.cell? (d,o)=U u->o≠0->(j.setCell (d,0) (X9 g (s.ts.length+1) cap)).cell? (d,o)=U u:=fun o u hu _=>(aZ XA).trans (k.cell q hu)
 refine⟨⟨⟨⟨_,Yy _ _ _ (k.cell q cv),?_,fun b i=>?_⟩,⟨v2,I 1 _ b1 Xz,cV X r D,fun b i=>⟨ZK _ (K b i).1,(K b i).2⟩⟩,I 2 _ h.rd.c2 Xz,I 3 _ h.rd.c3 Xz,fun o=>(zF ..).trans ((k.frozen q E).trans (h.rd.fz o)),ZK _ h.rd.dF,fun y a=>?_⟩,h.es,fun x C=>?_,?_,h.el,h.en⟩,r.mono (fun y a=>?_)⟩
 .have e1:(s.ts++[t]).flatMap ke=s.ts.flatMap ke++ke t:=XA
  rw[e1,YZ];exact cV z P (fun b i=>by simp[ZB] at i;subst i;simpa using A)
 .simp[ZB] at i;subst i;exact⟨by simp,A⟩
 .obtain⟨y1,B,y3⟩:=h.rd.sp y a;refine⟨y1.off r (H _ B),fun e=>?_,Zg y3 r.size⟩;rcases Yu.1 e with e|e
  .rcases R with S|S
   .exact B (e ▸ (p g S).1)
   .omega
  .exact B e
 .rcases Yu.1 C with rfl|C
  .exact zL (fe z rfl) P.size
  .exact zL (h.lt x C) r.size
 .simp;omega
 .rcases Yu.1 a with rfl|a
  .exact h.rd.dF
  .exact (f y a).1
theorem PN{xs:J (aO × M × M)}(h:DD w d s xs F)(hl:2<n)(z2:ut.size<=160)(au:0<=aA.bW name s.ts)(h1:w.cell? (g,1)=U ↑name)(h2:w.cell? (g,2)=U ↑ut):
  X4 prog 172 #[d,X9 g n c] w (ec w d F xs (aV s (.bA name (bT ut 1 7)))):=by
 obtain⟨ti,an,ak,aj,ai⟩:=info_parts OS;have t:=aC ((KP.nil w).alloc bB);have H:=aC h;have D0:=aC (h.later t.bl);have i1:(1:XQ)<(n:XQ):=Xz
 have i2:(2:XQ)<(n:XQ):=Xz
 have y1:=aR t.bl h1;have y2:=aR t.bl h2;have UN:=aC (D0.aM name);have NM:=aC (fun wx=>fH ut 1 7 wx z2 Xz Xz);have HD:Hid (aV s (.bA name (bT ut 1 7))=if aA.bW name s.ts≠0 then (s,.error 4) else if s.ts.length=4 then (s,.error 5) else ({ s with ts:=s.ts++[(name,bT ut 1 7)] },.num 0)):=rfl;clear h
 go_in
 go_upto_region 1 with fail
 change Code.wp _ _ _ _ (w.alloc bB);generalize w.alloc bB=X at *;generalize bT ut 1 7=u at *;generalize aA.bW name s.ts=un at *
 go_wp21
 refine UN.mono ?_;rintro e r ⟨rfl,rfl⟩;clear UN;have Q1:=aC (Q7.of (t.kb (w,bB) XA));obtain⟨v,cv,ho,aa⟩:=D0.rd.tv;obtain⟨C,a,rfl⟩:=gj ho
 by_cases a1:0<un
 .have HF:Hid (ec w d F xs (aV s (.bA name u)) (Yg (bJ 4 0 0 aT aT aT aT)) (cR r w (V Y 4) (V Y 0) (V Y 0) aT aT aT aT)):=by
   show ec w d F xs _ _ _;rw[HD,XS Xz];exact H.said t.bl aI 4 0 _ _ _ _ _ _ _
  obtain⟨T,S,R,P,K,I,E,fq⟩:=Q1
  go_wp21
  exact cL results172 ⟨T,S,R,P,K,I,E,fq⟩ HF
 .by_cases a2:s.ts.length=4
  .have HF:Hid (ec w d F xs (aV s (.bA name u)) (Yg (bJ 5 0 0 aT aT aT aT)) (cR r w (V Y 5) (V Y 0) (V Y 0) aT aT aT aT)):=by
    show ec w d F xs _ _ _;rw[HD,XR Xz,XS a2];exact H.said t.bl aI 5 0 _ _ _ _ _ _ _
   have ag:((s.ts.length:XQ)==4)=XX:=by simp;omega
   obtain⟨T,S,R,P,K,I,E,fq⟩:=Q1
   go_wp21
   exact cL results172 ⟨T,S,R,P,K,I,E,fq⟩ HF
  .have ag:((s.ts.length:XQ)==4)=XW:=by simp;omega
   have al:s.ts.length<4:=by have:=H.tl;omega
   have E9:Hid (aV s (.bA name u)=({ s with ts:=s.ts++[(name,u)] },⟨0,0,0,[],[],[],[]⟩)):=by
    show _=_;rw[HD,XR Xz,XR a2];rfl
   have fd:=D0.rd.fz 0;have D:=aC (Yz ho aa);clear ho aa a2 HD
   go_upto_region 6 with fail
   go_cut [34] from 21 to 37 (fun _ wx=>∃ q B af w5,X0 r.heap.size r af/\aH ((X9 C s.ts.length a).ownBlock.toList) af w5/\w5.ownsRow 0 315 2 (X9 (U ⟨q,0,XU⟩) (s.ts.length+1) B) (s.ts.length+1) (s.ts.flatMap ke++ke (name,u))/\((X9 C s.ts.length a).ownBlock=U q\/af.heap.size<=q)/\wx=w5.setCell ⟨d,0,XU⟩ (X9 (U ⟨q,0,XU⟩) (s.ts.length+1) B))
   .go_region_law (first
     |(refine qe (by rfl) 126 _ _ (by rfl) _ (by simp[Act.eval]) (G6 _ _) (NM _) ?_;rintro e w4 ⟨rfl,ad⟩;refine⟨_,rfl,?_⟩;have f:X0 r r w4:=bM (dV r) ad aI;have z:=aR f cv;have ay:∀ o,(w4.alloc o).cell? (d,0)=U (X9 C s.ts.length a):=(fun o=>aR bC z);have ar:=aR f y1;have aq:=(f.frozen (Yl _ _ cv)).trans fd;clear ad)
     |(refine step_append_lies _ rfl _ _ 103 rfl 0 315 ti _ 2 24 underlying103 an ak aj ai rfl XC (X9 C s.ts.length a) s.ts.length (s.ts.flatMap ke) rfl (eQ D.out.1 (bM f bC aI)) ⟨w4.heap.size,0,XU⟩ 1 1 (ke (name,u)) rfl rfl (ZF (cs:=(ke (name,u)).toArray) (cP w4 _)) (by simp[ke,Value.oneCell']) Xz XH Xz (zN _) (w4.heap.size+1) XA ?_;intro q B w5 j y p aw;have kk:aH ((X9 C s.ts.length a).ownBlock.toList) w4 w5:=aH.grown ((aH.refl _ w4).alloc _) y (fun k hk=>.inl (by simp[hk]));have ac:d ∉ (X9 C s.ts.length a).ownBlock.toList:=(fun e=>(D.out.2 d (by simpa using e)).2 rfl);have z1:=kk.cell ac z;have z2:=(kk.frozen (o:=0) ac (Yl _ _ z)).trans aq))
    all_goals
     go_wp21
     go_meet
     exact⟨q,B,w4,w5,f,kk,j,p.imp id (fun e=>by omega),rfl⟩
   case rest =>
    obtain⟨q,B,af,w5,A,k5,j,p,rfl⟩:=hcut;obtain⟨hJ,hO⟩:=(D0.out.later A).qk (aR A cv) (eQ D.out.1 A) D.out.2 k5 j p al;have ae:w.heap.size ∉ F:=fun e=>by have:=H.out.lt _ e;omega
    have hQ:w<r.heap.size:=Yl _ _ Q1.q0;have ax:=A.size;have ao:=hO.block w Xz ae;have Q2:=aC ((Q1.later (A.block _ hQ)).later ao)
    have ab:∀ x∈q :: F,x∈F\/af.heap.size<=x:=fun x i=>by
     rcases Yu.1 i with rfl|i
     .exact p.imp (fun e=>(D.out.2 x e).1) id
     .exact .inl i
    have hz:=t.bl.size;have hw:aH F w (w5.setCell (d,0) (X9 q (s.ts.length+1) B)):=((aH.aD t.bl).trans (aH.aD A)).trans hO;generalize w5.setCell (d,0) _=Z at *
    have HF:Hid (ec w d F xs ({ s with ts:=s.ts++[(name,u)] },⟨0,0,0,[],[],[],[]⟩) (Yg (bJ 0 0 0 aT aT aT aT)) (cR Z w (V Y 0) (V Y 0) (V Y 0) aT aT aT aT)):=by
     refine hJ.nD (fun x i=>(ab x i).imp id (fun e=>by omega)) hw aI (fun e=>?_) (fun x i e=>?_) (fun x i=>.inl ⟨x,i,rfl⟩) 0 0 _ _ _ _ _ _ _
     .rcases ab _ e with e|e
      .exact ae e
      .omega
     .have:=(H.rd.sp x i).2.2;omega
    obtain⟨T,S,R,P,K,I,E,fq⟩:=Q2;clear hJ hO hw D k5 j cv
    go_wp21
    exact cL results172 ⟨T,S,R,P,K,I,E,fq⟩ (by rw[E9];exact HF)
theorem NA(a:Array XZ)(w:XY):(callFunc 237 a).run prog w=.ok (.enter 237 a) w:=XF
theorem Pq{xs:J (aO × M × M)}(h:DD w d s xs F){lt:XK}(hn:5<n)(z2:ut.size<=160)(z3:lt.size<=160)(z4:ft.size<=160)(z5:tt.size<=160)(hu:0<=bT ut 1 7/\bT ut 1 7<=9)(P:0<=bT lt 1 7/\bT lt 1 7<=1048320)(R:0<=dX ft/\dX ft<=1048320)(h1:w.cell? ⟨g,1,XU⟩=U (Ya name))(h2:w.cell? ⟨g,2,XU⟩=U (Ya ut))(h3:w.cell? ⟨g,3,XU⟩=U (Ya lt))(h4:w.cell? ⟨g,4,XU⟩=U (Ya ft))(h5:w.cell? ⟨g,5,XU⟩=U (Ya tt)):
  X4 prog 178 #[X8 (U ⟨d,0,XU⟩),X9 (U ⟨g,0,XU⟩) n c] w (ec w d F xs (aV s (.find name (bT ut 1 7) (bT lt 1 7) (dX ft) (dX tt)))):=by
 have a:=aC ((KP.nil w).alloc bB);have H:=aC h;have i1:(1:XQ)<(n:XQ):=Xz
 have i2:(2:XQ)<(n:XQ):=Xz
 have i3:(3:XQ)<(n:XQ):=Xz
 have i4:(4:XQ)<(n:XQ):=Xz
 have i5:(5:XQ)<(n:XQ):=Xz
 have y2:=aR a.out.bl h2;have N1:=aC (fun wx=>fH ut 1 7 wx z2 Xz Xz);have N2:=aC (fun wx=>fH lt 1 7 wx z3 Xz Xz);have T1:=aC (fun wx=>sj ft wx z4);have T2:=aC (fun wx=>sj tt wx z5);have K:Hid (aV s (.find name (bT ut 1 7) (bT lt 1 7) (dX ft) (dX tt))=if aA.eB s.ts name (bT ut 1 7)≠0 then (s,.error (aA.eB s.ts name (bT ut 1 7))) else if dX tt<=dX ft then (s,.error 6) else (s,.num (aA.jH s.ts s.es name (bT ut 1 7) (bT lt 1 7) (dX ft) (dX tt)))):=rfl;clear h
 go_in
 go_upto_region 1 with fail
 change Code.wp _ _ _ _ (w.alloc bB);generalize w.alloc bB=X at *;generalize aV s _=D at *;generalize bT ut 1 7=u at *;generalize bT lt 1 7=lo at *;generalize dX ft=fr at *;generalize dX tt=til at *
 go_wp2_with fail
 refine (N1.out _).mono ?_;rintro e w1 ⟨rfl,f⟩;replace a:=aC (a.out.later f);have y4:=aR a.out.bl h4;clear f y2
 go_wp2_with fail
 refine (T1.out _).mono ?_;rintro e w2 ⟨rfl,f⟩;replace a:=aC (a.out.later f);have y5:=aR a.out.bl h5;clear f y4
 go_wp2_with fail
 refine (T2.out _).mono ?_;rintro e w3 ⟨rfl,f⟩;replace a:=aC (a.out.later f);have y1:=aR a.out.bl h1;have y3:=aR a.out.bl h3;clear f y5 N1 T1 T2 X;have D0:=aC (H.out.later a.out.bl);have AK:=aC (D0.out.asked name u);have hQ:w.heap.size<w3.heap.size:=a.out.lt (q:=(w.heap.size,bB)) XA;have S:=aC (Q7.of (a.out.kb (w.heap.size,bB) XA));generalize aA.eB s.ts name u=an at *
 go_wp2_with fail
 refine AK.out.mono ?_;rintro e w4 ⟨rfl,rfl⟩;clear AK
 have j:Hid (∀ E,D=(s,.error E)->ec w d F xs D (Yg (bJ E 0 0 aT aT aT aT)) (cR w4 w.heap.size (V Y E) (V Y 0) (V Y 0) aT aT aT aT)):=fun E e=>by
  rw[e];exact H.out.said a.out.bl (zq _) E 0 _ _ _ _ _ _ _
 by_cases I:an=0
 .subst I
  by_cases a2:til<=fr
  .have T:=aC (j.out 6 (by rw[K.out];simp[a2]));obtain⟨z,y,x,t,r,p,o,C⟩:=S.out
   go_wp2_with fail
   exact cL results178 ⟨z,y,x,t,r,p,o,C⟩ T.out
  .have E9:Hid (D=(s,.num (aA.jH s.ts s.es name u lo fr til))):=by show _=_;rw[K.out,XR XA,XR a2]
   have FN:Hid (∀ wx,X0 w4.heap.size w4 wx->X4 prog 237 #[X8 (U ⟨d,0,XU⟩),Ya name,V Y u,V Y lo,V Y fr,V Y til] wx fun e w'=>e=Yg (V Y (aA.jH s.ts s.es name u lo fr til))/\X0 wx.heap.size wx w'):=fun wx k=>(D0.out.later k).find name u lo fr til hu.1 hu.2 P.1 Xz R.1 Xz
   have AF:Hid (∀ wx,X0 w4.heap.size w4 wx->Q7 wx w.heap.size/\ec w d F xs D (Yg (bJ 0 0 (aA.jH s.ts s.es name u lo fr til) aT aT aT aT)) (cR wx w.heap.size (V Y 0) (V Y 0) (V Y (aA.jH s.ts s.es name u lo fr til)) aT aT aT aT)):=fun wx k=>⟨S.out.later (k.block _ hQ),by rw[E9.out];exact H.out.said (bM a.out.bl k (zq _)) (zq _) 0 _ _ _ _ _ _ _ _⟩
   generalize aA.jH s.ts s.es name u lo fr til=fv at *;clear j E9 K
   go_upto_region 9 with fail
   go_region_law (first
    |(refine qe (by rfl) 126 _ _ (by rfl) _ (by simp[Act.eval]) (G6 _ _) (N2.out _) ?_;rintro e w5 ⟨rfl,B⟩;refine⟨_,rfl,?_⟩;have i:X0 w4.heap.size w4 w5:=bM (dV w4) B (zq _);have ab:=aR i y1;clear B)
    |(refine qe (by rfl) 237 _ _ (by rfl) _ (by simp[Act.eval]) (NA _ _) (FN.out _ i) ?_;rintro e w6 ⟨rfl,A⟩;refine⟨_,rfl,?_⟩;have FF:=aC (AF.out w6 (bM i A (zq _)));obtain⟨⟨z,y,x,t,r,p,o,C⟩,_⟩:=FF.out;clear A))
   all_goals
    go_wp2_with fail
    exact cL results178 ⟨z,y,x,t,r,p,o,C⟩ FF.out.2
 .have T:=aC (j.out an (by rw[K.out,XS I]));have ac:(an==0)=XW:=by simpa using I
  have aa:(an != 0)=XX:=by simpa using I
  obtain⟨z,y,x,t,r,p,o,C⟩:=S.out;clear I
  go_wp2_with fail
  exact cL results178 ⟨z,y,x,t,r,p,o,C⟩ T.out
def lh(kw:XK)(ev:XQ)(m:XQ->XN)(fr mn mi ti un:XQ):Obj:=Yh #[kw,ev,m 0,m 1,m 2,m 3,m 4,m 5,m 6,fr,mn,mi,ti,un] 273
abbrev s8(kw:XK)(ev:XQ):Obj:=lh kw ev (fun _=>XW) 0 0 0 0 0
theorem oH{ev mn mi ti un:XQ}{m:XQ->XN}(h:W.heap[b]?=U (lh kw ev m fr mn mi ti un)):(W.cell? (b,0)=U ↑kw/\W.cell? (b,1)=U ↑ev/\W.cell? (b,2)=U (Yb (m 0))/\W.cell? (b,3)=U (Yb (m 1))/\W.cell? (b,4)=U (Yb (m 2))/\W.cell? (b,5)=U (Yb (m 3))/\W.cell? (b,6)=U (Yb (m 4))/\W.cell? (b,7)=U (Yb (m 5))/\W.cell? (b,8)=U (Yb (m 6))/\W.cell? (b,9)=U ↑fr/\W.cell? (b,10)=U ↑mn/\W.cell? (b,11)=U ↑mi/\W.cell? (b,12)=U ↑ti/\W.cell? (b,13)=U ↑un)/\∀ o,W.frozen? ⟨b,o,XU⟩=XW :=
 ⟨⟨bG h 0 rfl,bG h 1 rfl,bG h 2 rfl,bG h 3 rfl,bG h 4 rfl,bG h 5 rfl,bG h 6 rfl,bG h 7 rfl,bG h 8 rfl,bG h 9 rfl,bG h 10 rfl,bG h 11 rfl,bG h 12 rfl,bG h 13 rfl⟩,fun o=>by simp[Ym,h,lh]⟩
theorem KP.nP{L:J (M × Obj)}{o:Obj}(h:KP w W ((b,o) :: L)):W.heap[b]?=U o:=h.kb _ (List.mem_cons_self ..)
theorem KP.rH{L:J (M × Obj)}{t:TypeId}{m:M × M}{X T S R P K I H E D C B A z:XZ}(h:KP w wx ((b,Yh #[X,T,S,R,P,K,I,H,E,D,C,B,A,z] t m) :: L))(y x v2 u r v5 v6 q p o j i f a:XZ):KP w ((((((((((((((wx.setCell (b,0) y).setCell (b,1) x).setCell (b,2) v2).setCell (b,3) u).setCell (b,4) r).setCell (b,5) v5).setCell (b,6) v6).setCell (b,7) q).setCell (b,8) p).setCell (b,9) o).setCell (b,10) j).setCell (b,11) i).setCell (b,12) f).setCell (b,13) a) ((b,Yh #[y,x,v2,u,r,v5,v6,q,p,o,j,i,f,a] t m) :: L):=by
 have:=(((((((((((((h.put 0 y).put 1 x).put 2 v2).put 3 u).put 4 r).put 5 v5).put 6 v6).put 7 q).put 8 p).put 9 o).put 10 j).put 11 i).put 12 f).put 13 a;simp only[List.setIfInBounds_toArray,List.set_cons_zero,List.set_cons_succ] at this;exact this
section
variable {w W:XY}{L:XL (XP × Obj)}{b:XP}{kw:XK}{ev fr mn mi ti un:XQ}{m:XQ->XN}
theorem KP.Ma(h:KP w W ((b,lh kw ev m fr mn mi ti un) :: L))(x:XQ):KP w (W.setCell (b,9) x) ((b,lh kw ev m x mn mi ti un) :: L):=KP.put h 9 _
theorem KP.A2(h:KP w W ((b,lh kw ev m fr mn mi ti un) :: L))(x:XQ):KP w (W.setCell (b,10) x) ((b,lh kw ev m fr x mi ti un) :: L):=KP.put h 10 _
theorem KP.A0(h:KP w W ((b,lh kw ev m fr mn mi ti un) :: L))(x:XQ):KP w (W.setCell (b,11) x) ((b,lh kw ev m fr mn x ti un) :: L):=KP.put h 11 _
theorem KP.AZ(h:KP w W ((b,lh kw ev m fr mn mi ti un) :: L))(x:XQ):KP w (W.setCell (b,12) x) ((b,lh kw ev m fr mn mi x un) :: L):=KP.put h 12 _
theorem KP.AY(h:KP w W ((b,lh kw ev m fr mn mi ti un) :: L))(x:XQ):KP w (W.setCell (b,13) x) ((b,lh kw ev m fr mn mi ti x) :: L):=KP.put h 13 _
theorem KP.L9(h:KP w W ((b,lh kw ev m fr mn mi ti un) :: L))(q:XQ->XN):KP w (((((((W.setCell (b,2) (q 0)).setCell (b,3) (q 1)).setCell (b,4) (q 2)).setCell (b,5) (q 3)).setCell (b,6) (q 4)).setCell (b,7) (q 5)).setCell (b,8) (q 6)) ((b,lh kw ev q fr mn mi ti un) :: L):=by
 have:=((((((KP.put h 2 (q 0)).put 3 (q 1)).put 4 (q 2)).put 5 (q 3)).put 6 (q 4)).put 7 (q 5)).put 8 (q 6);simp only[List.setIfInBounds_toArray,List.set_cons_zero,List.set_cons_succ] at this;exact this
end
theorem GP{i:M}(hc:∀ j,j<n->w.cell? ⟨g,j,XU⟩=U (Ya (ws j)))(hz:∀ j,(ws j).size<=160)(hi:i<=10)(hr:te ws i k pc acc tm)(hn:k+7<n):
  X4 prog 180 #[X9 (U ⟨g,0,XU⟩) n c,V Yf i] w fun e w'=>e=Yg (nU (lj ws i k pc acc tm))/\X0 w.heap.size w w':=by
 have NM:=aC (fun j wx=>fH (ws j) 1 7 wx (hz j) Xz Xz);have DT:=aC (fun j wx=>wK (ws j) wx (hz j));have CK:=aC (fun j wx=>Cq (ws j) wx (hz j));have ON:=aC (fun j wx=>Bh (ws j) wx (hz j));have S:=aC ((KP.nil w).alloc (s8 ⟨#[]⟩ 0));obtain⟨hp,h3,hk,ht⟩:=hr;have r:Hid (∀ W,X0 w.heap.size w W->∀ j,j<n->W.cell? ⟨g,j,XU⟩=U (Ya (ws j))):=fun W kW j hj=>aR kW (hc j hj)
 have WR:Hid (∀ j:M,j<30->Yf.wrap ((j:XQ))=(j:XQ)):=fun j hj=>cT Xz Xz
 have n0:(i:XQ)<(n:XQ):=Xz
 have n1:(i:XQ)+1<(n:XQ):=Xz
 have q1:(0:XQ)<=(i:XQ)+1:=Xz
 have v1:Yf.wrap ((i:XQ)+1)=(i:XQ)+1:=cT Xz Xz;have v2:Yf.wrap ((i:XQ)+2)=(i:XQ)+2:=cT Xz Xz;have E:=aC (Yz hp (Yz h3 (Yz hk ht)));have ae:i+2<=k/\k<=i+3:=Xz
 clear hc hp h3 hk ht
 go_in
 go_upto_region 1 with fail
 change Code.wp _ _ _ _ (w.alloc (s8 ⟨#[]⟩ 0));generalize w.alloc (s8 ⟨#[]⟩ 0)=X at *;have y0:=r.out _ S.out.bl i Xz;have T:=r.out _ S.out.bl (i+1) Xz;have N1:=aC (fun wx=>NM.out (i+1) wx)
 have HE:Hid (nU (lj ws i k pc acc tm)=.agg #[Ya (ws i),V Yf (bT (ws (i+1)) 1 7),Yb (aL acc 0),Yb (aL acc 1),Yb (aL acc 2),Yb (aL acc 3),Yb (aL acc 4),Yb (aL acc 5),Yb (aL acc 6),V Yf (fM (ws (k+1))),V Yf (iG (ws (k+3))),V Yf (bT (ws (k+5)) 1 7),V Yf (if tm then bT (ws (k+7)) 1 7 else 0),V Yf (if tm then 0 else fM (ws (k+7)))]):=by
  rw[E.out.1];rfl
 generalize ws i=kw at *;generalize bT (ws (i+1)) 1 7=ev at *;generalize ws (i+1)=ew at *
 go_cut [5] from 8 to 18 (fun v5 wx=>∃ b,v5=X8 (U ⟨b,0,XU⟩)/\KP w wx [(b,s8 kw ev),(w.heap.size,s8 ⟨#[]⟩ 0)])
 case first =>
  have yA:∀ o,(X.alloc o).cell? ⟨g,i,XU⟩=U (Ya kw):=fun o=>aR ((zr _ _).alloc (zq _) _) y0
  have yB:∀ o,(X.alloc o).cell? ⟨g,i+1,XU⟩=U (Ya ew):=fun o=>aR ((zr _ _).alloc (zq _) _) T
  go_region_with (first
   |(go_at_call 126;refine (N1.out _).mono ?_;rintro e w4 ⟨rfl,p⟩;have PB:=aC (((S.out.alloc _).later (dV _)).later p);obtain⟨⟨b0,b1,b2,b3,b4,b5,b6,b7,b8,b9,aj,ai,ag,af⟩,h⟩:=oH (kw:=⟨#[]⟩) (ev:=0) (m:=fun _=>XW) (fr:=0) (mn:=0) (mi:=0) (ti:=0) (un:=0) (Bm p);have kX:X0 X.heap.size X w4:=bM ((zr _ _).alloc (zq _) _).drew p XA;have H:=aR kX y0)
   |(go_at_call 126;refine (N1.out _).mono ?_;rintro e w4 ⟨rfl,p⟩;have kX:X0 X.heap.size X w4:=bM (dV X) p (zq _);have H:=aR kX y0;have yC:∀ o,(w4.alloc o).cell? ⟨g,i,XU⟩=U (Ya kw):=fun o=>aR ((zr _ _).alloc (zq _) _) H))
  all_goals
   go_wp2
   go_meet
   first
    |(
     have PB:=PB.out.rH (Ya kw) (V Yf ev) (Yb XW) (Yb XW) (Yb XW) (Yb XW) (Yb XW) (Yb XW) (Yb XW) (V Yf 0) (V Yf 0) (V Yf 0) (V Yf 0) (V Yf 0)
     exact⟨_,rfl,PB⟩)
    |exact⟨_,rfl,(S.out.later kX).alloc _⟩
 case rest =>
  obtain⟨b,rfl,R⟩:=hcut;have HP:=aC R;clear R y0 T S n0 n1 q1 v1;obtain⟨⟨c0,_⟩,_⟩:=oH HP.out.nP
  go_upto_if 23 with fail
  go_cut [1] (fun v wx=>v=V Yf k/\KP w wx [(b,lh kw ev (aL acc) 0 0 0 0 0),(w.heap.size,s8 ⟨#[]⟩ 0)])
  case first =>
   rcases E.out.2.2.1 with ⟨u,x,K,I⟩|⟨u,x,P⟩
   .have HO:=aC (Yz K I);have hw:(kw.toList==[119,101,101,107,108,121])=XX:=by rw[E.out.1,u];decide +kernel
    clear K I;subst x;rw[hw];have y2:=r.out _ HP.out.bl (i+2) Xz;have n2:(i:XQ)+2<(n:XQ):=Xz
    have p2:(0:XQ)<=(i:XQ)+2:=Xz
    have v3:Yf.wrap ((i:XQ)+3)=(i:XQ)+3:=cT Xz Xz
    go_upto_region 5 with (first|(go_at_call 129;refine (ON.out (i+2) _).mono ?_;rintro e q ⟨⟨a,rfl,ha⟩,f⟩;obtain rfl:a=acc:=Option.some.inj ((ha HO.out.1).symm.trans HO.out.2);replace HP:=aC (HP.out.later f);clear f ha y2;simp only[fP]))
    have t:=cP q (Yh #[Yb (aL a 0),Yb (aL a 1),Yb (aL a 2),Yb (aL a 3),Yb (aL a 4),Yb (aL a 5),Yb (aL a 6)] 159);have a0:=bG t 0 rfl;have a1:=bG t 1 rfl;have a2:=bG t 2 rfl;have a3:=bG t 3 rfl;have a4:=bG t 4 rfl;have a5:=bG t 5 rfl;have a6:=bG t 6 rfl;replace HP:=aC (HP.out.later ((zr _ q).alloc (zq _) (Yh #[Yb (aL a 0),Yb (aL a 1),Yb (aL a 2),Yb (aL a 3),Yb (aL a 4),Yb (aL a 5),Yb (aL a 6)] 159)));obtain⟨⟨_,_,c2,c3,c4,c5,c6,c7,c8,_⟩,h⟩:=oH HP.out.nP;clear t c0
    go_wp2
    go_meet
    exact⟨by simp,HP.out.L9 (aL a)⟩
   .have hw:(kw.toList==[119,101,101,107,108,121])=XW:=by
     rw[E.out.1];rcases E.out.2.1 with e|e|e
     .rw[e];decide +kernel
     .exact (u e).elim
     .rw[e];decide +kernel
    subst x P;rw[hw]
    go_wp2
    go_meet
    exact⟨by simp,HP.out⟩
  case rest =>
   obtain⟨rfl,R⟩:=hcut;replace HP:=aC R;clear R c0;have w1:Yf.wrap ((k:XQ)+1)=(k:XQ)+1:=cT Xz Xz;have m1:(k:XQ)+1<(n:XQ):=Xz
   have p1:(0:XQ)<=(k:XQ)+1:=Xz
   have w3:Yf.wrap ((k:XQ)+3)=(k:XQ)+3:=cT Xz Xz;have m3:(k:XQ)+3<(n:XQ):=Xz
   have p3:(0:XQ)<=(k:XQ)+3:=Xz
   have w5:Yf.wrap ((k:XQ)+5)=(k:XQ)+5:=cT Xz Xz;have m5:(k:XQ)+5<(n:XQ):=Xz
   have p5:(0:XQ)<=(k:XQ)+5:=Xz
   have w6:Yf.wrap ((k:XQ)+6)=(k:XQ)+6:=cT Xz Xz;have m6:(k:XQ)+6<(n:XQ):=Xz
   have p6:(0:XQ)<=(k:XQ)+6:=Xz
   have w7:Yf.wrap ((k:XQ)+7)=(k:XQ)+7:=cT Xz Xz;have m7:(k:XQ)+7<(n:XQ):=Xz
   have p7:(0:XQ)<=(k:XQ)+7:=Xz
   have T:=r.out _ HP.out.bl (k+1) Xz
   go_upto_region 8 with (first|(go_at_call 187;refine (DT.out (k+1) _).mono ?_;rintro e q ⟨rfl,f⟩;replace HP:=aC (HP.out.later f);obtain⟨⟨_,_,_,_,_,_,_,_,_,D,_⟩,h⟩:=oH HP.out.nP;have y:=h 9;clear f h T))
   replace HP:=aC (HP.out.Ma (fM (ws (k+1))));generalize q.setCell ⟨b,9,XU⟩ (V Yf (fM (ws (k+1))))=Z9 at HP ⊢;clear D y;have y3:=r.out _ HP.out.bl (k+3) Xz
   go_upto_region 9 with (first|(go_at_call 188;refine (CK.out (k+3) _).mono ?_;rintro e q ⟨rfl,f⟩;replace HP:=aC (HP.out.later f);obtain⟨⟨_,_,_,_,_,_,_,_,_,_,D,_⟩,h⟩:=oH HP.out.nP;have y:=h 10;clear f h y3))
   replace HP:=aC (HP.out.A2 (iG (ws (k+3))));generalize q.setCell ⟨b,10,XU⟩ (V Yf (iG (ws (k+3))))=Z10 at HP ⊢;clear D y;have y5:=r.out _ HP.out.bl (k+5) Xz
   go_upto_region 10 with (first|(go_at_call 126;refine (NM.out (k+5) _).mono ?_;rintro e q ⟨rfl,f⟩;replace HP:=aC (HP.out.later f);obtain⟨⟨_,_,_,_,_,_,_,_,_,_,_,D,_⟩,h⟩:=oH HP.out.nP;have y:=h 11;clear f h y5))
   replace HP:=aC (HP.out.A0 (bT (ws (k+5)) 1 7));generalize q.setCell ⟨b,11,XU⟩ (V Yf (bT (ws (k+5)) 1 7))=Z11 at HP ⊢;clear D y;have y6:=r.out _ HP.out.bl (k+6) Xz;have y7:=r.out _ HP.out.bl (k+7) Xz;have ht:=E.out.2.2.2
   go_upto_if 62 with fail
   go_cut [] (fun wx=>KP w wx [(b,lh kw ev (aL acc) (fM (ws (k+1))) (iG (ws (k+3))) (bT (ws (k+5)) 1 7) (if tm then bT (ws (k+7)) 1 7 else 0) (if tm then 0 else fM (ws (k+7)))),(w.heap.size,s8 ⟨#[]⟩ 0)])
   case first =>
    cases tm
    .go_wp2_with (first|(go_at_call 187;refine (DT.out (k+7) _).mono ?_;rintro e q ⟨rfl,f⟩;replace HP:=aC (HP.out.later f);obtain⟨⟨_,_,_,_,_,_,_,_,_,_,_,_,_,D⟩,h⟩:=oH HP.out.nP;have y:=h 13;clear f h y6 y7))
     go_meet
     exact HP.out.AY (fM (ws (k+7)))
    .go_wp2_with (first|(go_at_call 126;refine (NM.out (k+7) _).mono ?_;rintro e q ⟨rfl,f⟩;replace HP:=aC (HP.out.later f);obtain⟨⟨_,_,_,_,_,_,_,_,_,_,_,_,D,_⟩,h⟩:=oH HP.out.nP;have y:=h 12;clear f h y6 y7))
     go_meet
     exact HP.out.AZ (bT (ws (k+7)) 1 7)
   case rest =>
    have HP:=aC hcut;clear hcut y6 y7 ht;generalize fM (ws (k+1))=fr at *;generalize iG (ws (k+3))=mn at *;generalize bT (ws (k+5)) 1 7=mi at *;generalize (if tm then bT (ws (k+7)) 1 7 else 0)=ti at *;generalize (if tm then 0 else fM (ws (k+7)))=un at *;obtain⟨⟨c0,c1,c2,c3,c4,c5,c6,c7,c8,c9,ad,ac,ab,aa⟩,_⟩:=oH HP.out.nP;obtain⟨⟨d0,d1,d2,d3,d4,d5,d6,d7,d8,d9,C,B,A,z⟩,df⟩:=oH HP.out.swap.nP
    go_wp2_with fail
    have HF:=aC (HP.out.swap.rH (Ya kw) (V Yf ev) (Yb (aL acc 0)) (Yb (aL acc 1)) (Yb (aL acc 2)) (Yb (aL acc 3)) (Yb (aL acc 4)) (Yb (aL acc 5)) (Yb (aL acc 6)) (V Yf fr) (V Yf mn) (V Yf mi) (V Yf ti) (V Yf un));clear d0 d1 d2 d3 d4 d5 d6 d7 d8 d9 C B A z c0 c1 c2 c3 c4 c5 c6 c7 c8 c9 ad ac ab aa df;generalize ((((((((((((((wc.setCell ⟨w.heap.size,0,XU⟩ (Ya kw)).setCell ⟨w.heap.size,1,XU⟩ (V Yf ev)).setCell ⟨w.heap.size,2,XU⟩ (Yb (aL acc 0))).setCell ⟨w.heap.size,3,XU⟩ (Yb (aL acc 1))).setCell ⟨w.heap.size,4,XU⟩ (Yb (aL acc 2))).setCell ⟨w.heap.size,5,XU⟩ (Yb (aL acc 3))).setCell ⟨w.heap.size,6,XU⟩ (Yb (aL acc 4))).setCell ⟨w.heap.size,7,XU⟩ (Yb (aL acc 5))).setCell ⟨w.heap.size,8,XU⟩ (Yb (aL acc 6))).setCell ⟨w.heap.size,9,XU⟩ (V Yf fr)).setCell ⟨w.heap.size,10,XU⟩ (V Yf mn)).setCell ⟨w.heap.size,11,XU⟩ (V Yf mi)).setCell ⟨w.heap.size,12,XU⟩ (V Yf ti)).setCell ⟨w.heap.size,13,XU⟩ (V Yf un))=Y at HF ⊢;obtain⟨⟨d0,d1,d2,d3,d4,d5,d6,d7,d8,d9,C,B,A,z⟩,_⟩:=oH (kw:=kw) (ev:=ev) (m:=aL acc) (fr:=fr) (mn:=mn) (mi:=mi) (ti:=ti) (un:=un) HF.out.nP;exact bodyPost_ret (v:=.agg #[Ya kw,V Yf ev,Yb (aL acc 0),Yb (aL acc 1),Yb (aL acc 2),Yb (aL acc 3),Yb (aL acc 4),Yb (aL acc 5),Yb (aL acc 6),V Yf fr,V Yf mn,V Yf mi,V Yf ti,V Yf un]) (by simp[results,results180,go_sem,d0,d1,d2,d3,d4,d5,d6,d7,d8,d9,C,B,A,z]) rfl ⟨by rw[HE.out],HF.out.bl⟩
def oJ(k:XQ)(name:XK)(u:XQ)(v:XZ)(t:XQ):Obj:=Yh #[V Y 0,k,name,u,v,t] 58 (0,0)
structure Be(w:XY)(g n:M)(kw:XK)(k long:XQ):Prop where
 ho:(kw.toList==[104,111,108,100])=decide (k=2)
 wa:(kw.toList==[119,97,105,116])=decide (k=3)
 lo:(k=1/\long=0)\/((k=2\/k=3)/\5<n/\∃ t:XK,t.size<=160/\w.cell? (g,5)=U ↑t/\bT t 1 7=long)
 l0:0<=long/\long<=1048320
theorem Gs{xs:J (aO × M × M)}(h:DD w d s xs F)(hg:0<=s.given/\s.given<=60)(bg:(s.es.length:XQ)<=s.given)(hn:0<=s.now/\s.now<=1048320){k long:XQ}(hk:Be w g n kw k long)(hl:4<n)(z2:ut.size<=160)(z3:ft.size<=160)(z4:tt.size<=160)(hu:1<=bT ut 1 7/\bT ut 1 7<=9)(ay:0<=dX tt/\dX tt<=1048320)(h0:w.cell? ⟨g,0,XU⟩=U (Ya kw))(h1:w.cell? ⟨g,1,XU⟩=U (Ya name))(h2:w.cell? ⟨g,2,XU⟩=U (Ya ut))(h3:w.cell? ⟨g,3,XU⟩=U (Ya ft))(h4:w.cell? ⟨g,4,XU⟩=U (Ya tt)):
  X4 prog 173 #[X8 (U ⟨d,0,XU⟩),X9 (U ⟨g,0,XU⟩) n c] w (ec w d F xs (aV s (.enter k name (bT ut 1 7) (dX ft) (dX tt) long))):=by
 have R:=aC ((KP.nil w).alloc bB);have H:=aC h;have HK:=aC hk;have i0:(0:XQ)<(n:XQ):=Xz
 have i1:(1:XQ)<(n:XQ):=Xz
 have i2:(2:XQ)<(n:XQ):=Xz
 have i3:(3:XQ)<(n:XQ):=Xz
 have i4:(4:XQ)<(n:XQ):=Xz
 have y0:=aR R.out.bl h0;have y1:=aR R.out.bl h1;have y2:=aR R.out.bl h2;have y3:=aR R.out.bl h3;have y4:=aR R.out.bl h4;clear h hk
 go_in
 go_upto_region 1 with fail
 change Code.wp _ _ _ _ (w.alloc bB);generalize w.alloc bB=X at *;have NM:=aC (fun wx=>fH ut 1 7 wx z2 Xz Xz);generalize bT ut 1 7=u at *
 go_cut [5] from 12 to 19 (fun v5 wx=>∃ b,v5=X8 (U ⟨b,0,XU⟩)/\KP w wx [(b,oJ 1 name u aT 0),(w.heap.size,bB)])
 case first =>
  have a9:∀ o,(X.alloc o).cell? ⟨g,1,XU⟩=U (Ya name):=fun o=>aR ((zr _ _).alloc (zq _) _) y1
  have a8:∀ o,(X.alloc o).cell? ⟨g,2,XU⟩=U (Ya ut):=fun o=>aR ((zr _ _).alloc (zq _) _) y2
  go_region_with (first
   |(go_at_call 126;refine (NM.out _).mono ?_;rintro e w4 ⟨rfl,z⟩;have PB:=aC (((R.out.alloc _).later (dV _)).later z);have bz:=Bm z;have b0:=sg bz;have b1:=rZ bz;have b2:=tC bz;have b3:=tD bz;have b4:=tF bz;have b5:=sb bz;have bf:=wq bz;have kX:X0 X.heap.size X w4:=bM ((zr _ _).alloc (zq _) _).drew z (zq _);have af:=aR kX y1;clear z)
   |(go_at_call 126;refine (NM.out _).mono ?_;rintro e w4 ⟨rfl,z⟩;have kX:X0 X.heap.size X w4:=bM (dV X) z (zq _);have af:=aR kX y1;have yB:∀ o,(w4.alloc o).cell? ⟨g,1,XU⟩=U (Ya name):=fun o=>aR ((zr _ _).alloc (zq _) _) af))
  all_goals
   go_wp2
   go_meet
   first
    |(
     have PB:=PB.out.qw (V Yf 0) (V Yf 1) (Ya name) (V Yf u) aT (V Yf 0)
     exact⟨_,rfl,PB⟩)
    |exact⟨_,rfl,(R.out.later kX).alloc _⟩
 case rest =>
  obtain⟨b,rfl,D⟩:=hcut;have HP:=aC D;have y3:=aR D.bl h3;clear D y0 y1 y2 y4 R NM
  go_wp2_with fail
  refine (sj ft _ z3).mono ?_;rintro e w2 ⟨rfl,P⟩;replace HP:=aC (HP.out.later P);have y4:=aR HP.out.bl h4;clear P y3
  go_wp2_with fail
  refine (sj tt _ z4).mono ?_;rintro e w3 ⟨rfl,P⟩;replace HP:=aC (HP.out.later P);clear P y4;generalize dX ft=fr at *;generalize dX tt=til at *;obtain⟨T,hT⟩:∃ T,T=if k=1 then 0 else s.now+long:=⟨_,rfl⟩
  have HT:=aC hT;clear hT;have hD:=H.out.later HP.out.bl;have n3:=hD.rd.c3;have HD:=aC hD;clear hD;have y0:=aR HP.out.bl h0;have b1:=HP.out.hc 1 rfl;have b5:=HP.out.hc 5 rfl;have bf:=HP.out.hf;have bh:=HK.out.l0;have k2:=HK.out.ho;have k3:=HK.out.wa;have c0:Hid (0<=til/\til<=1048320):=ay;have HE:Hid (∃ i,i=aA.py s k name u fr til long):=⟨_,rfl⟩;obtain⟨i,al⟩:=HE.out;have ae:=aC al;clear al HE;obtain⟨NL,ac⟩:∃ NL,NL=s.now+long:=⟨_,rfl⟩;have aq:=aC ac;have iE:Hid (i=if aA.eB s.ts name u≠0 then aA.eB s.ts name u else if til<=fr\/1048320<NL then 6 else if s.given=60 then 5 else if k=3 then (if aA.eM s.es=6 then 5 else 0) else if aA.eo s.ts s.es name u [(fr,til)] then 0 else 8):=by rw[ac];exact ae.out
  have ar:Hid ((i≠0->aV s (.enter k name u fr til long)=(s,⟨i,0,0,[],[],[],[]⟩))/\(i=0->aV s (.enter k name u fr til long)=aA.kB s ⟨0,k,name,u,[(fr,til)],T⟩)):=by
   have e2:=ae.out;have e3:=HT.out;refine⟨fun h=>?_,fun h=>?_⟩
   .simp only[aV,<- e2,h,ne_eq,not_false_eq_true,if_true];rfl
   .simp only[aV,<- e2,h,ne_eq,not_true_eq_false,if_false];rw[e3];rfl
  have au:Hid (i=0->s.given≠60):=by
   intro p e2;have:=iE.out;rw[p,e2] at this
   split at this
   .omega
   .split at this <;> simp at this
  clear ac ae;rcases HK.out.lo with ⟨j,rfl⟩|⟨j,h5,t,ht,c5,ai⟩
  case' inl =>
   have a:Hid (KP w w3 [(b,oJ k name u aT T),(w.heap.size,bB)]):=by rw[HT.out,XS j,j];exact HP.out
   rw[j] at k2 k3;simp only[show ((1:XQ)=2)=False from by simp,show ((1:XQ)=3)=False from by simp,decide_false] at k2 k3;clear HP b5 n3 HD
   go_upto_region 13 with fail
   generalize w3=Z at *;clear b1 bf
  case' inr =>
   have az:k≠1:=Xz
   have i5:(5:XQ)<(n:XQ):=Xz
   have a3:Hid (T=s.now+long):=by show _=_;rw[HT.out,XR az]
   have NM:=aC (fun wx=>fH t 1 7 wx ht Xz Xz);rw[ai] at NM;have a:=aC (HP.out.put 1 (V Yf k));have a7:=aR a.out.bl c5;clear c5 HP HD n3 b5 ai;rcases j with j|j
   all_goals
    rw[j] at k2 k3 a a7;simp only[show ((3:XQ)=2)=False from by simp,show ((2:XQ)=3)=False from by simp,decide_false,decide_true] at k2 k3
    go_upto_region 11 with fail
    generalize w3.setCell _ _=Z0 at *
    go_wp2_with fail
    refine (NM.out _).mono ?_;rintro e w5 ⟨rfl,P⟩;replace a:=aC (a.out.later P);have n3:=(H.out.later a.out.bl).rd.c3;have b5:=a.out.hc 5 rfl;have bf:=a.out.hf;clear P
    go_upto_region 13 with fail
    replace a:Hid (KP w (w5.setCell ⟨b,5,XU⟩ (V Yf (s.now+long))) [(b,oJ k name u aT T),(w.heap.size,bB)]):=by rw[j,a3.out];exact a.out.put 5 _
    clear b5 bf n3 b1;generalize w5.setCell _ _=Z at *
  all_goals
   clear j;obtain⟨vN,ab⟩:∃ v,v=aT:=⟨_,rfl⟩;have ON:Hid (Z.ownsRow Z.heap.size 60 2 vN ([]:J (XQ × XQ)).length (([]:J (XQ × XQ)).flatMap jn)/\vN.ownBlock=XU):=by rw[ab];exact⟨ZD Z Z.heap.size _ _,rfl⟩
   rw[<- ab] at a;clear ab;have b4:=a.out.hc 4 rfl;have bf:=a.out.hf 4;have hZ:=a.out.bl.size;have bm:b<Z.heap.size:=a.out.lt (List.mem_cons_self ..);have bq:w.heap.size<Z.heap.size:=a.out.lt (q:=(w.heap.size,bB)) XA
   go_wp2_with (first|(at_builtin;refine Ga rfl _ _ rfl ON.out.1 fr til rfl rfl XA (zq _) ?_;intro gs cs w6 B aa;have y:X0 Z.heap.size Z w6:=(by rw[ON.out.2] at aa;exact aH.Um aa);have b4:=aR y b4;have bf:=(aC ((a.out.later y).hf 4)).out;have b2:=(a.out.later y).hc 2 rfl;have b3:=(a.out.later y).hc 3 rfl))
   replace a:Hid (KP w (w6.setCell ⟨b,4,XU⟩ (X9 (U ⟨gs,0,XU⟩) 1 cs)) [(b,oJ k name u (X9 (U ⟨gs,0,XU⟩) 1 cs) T),(w.heap.size,bB)]):=(a.out.later y).put 4 _;have bi:Z.heap.size<=gs:=gi B rfl;have f:gs<w6.heap.size:=fe B rfl;have RS:Hid (gS (w6.setCell ⟨b,4,XU⟩ (X9 (U ⟨gs,0,XU⟩) 1 cs)) gs [(fr,til)]):=(Bz B).2.off (aH.bD ..) XG;have ag:(w6.setCell ⟨b,4,XU⟩ (X9 (U ⟨gs,0,XU⟩) 1 cs)).heap.size=w6.heap.size:=XA
   clear b4 bf B aa y b2 b3;rw[<- ag] at f;clear ag;generalize w6.setCell ⟨b,4,XU⟩ _=Y at *;have DY:=aC (H.out.later a.out.bl);obtain⟨_,b1,b2,b3,b4,_⟩:=a.out.pC;have n2:=DY.out.rd.c2;have n3:=DY.out.rd.c3;have AK:=aC (DY.out.asked name u);have WA:=aC DY.out.waiting;have FT:=aC (DY.out.fits (u:=u) (cb:=cs) name RS.out XA Xz hu.2);refine AK.out.mono ?_;rintro e w7 ⟨rfl,rfl⟩;clear AK;generalize aA.eB s.ts name u=an at *;generalize aA.eM s.es=wn at *;generalize aA.eo s.ts s.es name u [(fr,til)]=fb at *
   go_upto_block 1 with fail
   go_cut [9,10,11] from 65 to 104 (fun v9 _ _ wx=>v9=V Yf i/\KP w wx [(b,oJ k name u (X9 (U ⟨gs,0,XU⟩) 1 cs) T),(w.heap.size,bB)]/\gS wx gs [(fr,til)]/\gs<wx.heap.size)
   case first =>
    by_cases S:an=0
    .subst S
     by_cases q2:til<=fr
     .have p:i=6:=by rw[iE.out];simp[q2]
      go_wp2
      go_meet
      exact⟨by rw[p],a.out,RS.out,f⟩
     .by_cases A:1048320<NL
      .have p:i=6:=by rw[iE.out];simp[A]
       rw[aq.out] at A
       try simp only[Int.add_zero] at A
       try (exfalso;omega)
       all_goals
        go_wp2
        go_meet
        exact⟨by rw[p],a.out,RS.out,f⟩
      .rw[XR XA,XR (by simp only[not_or];exact⟨q2,A⟩)] at iE;rw[aq.out] at A
       try simp only[Int.add_zero] at A
       by_cases K:s.given=60
       .have p:i=5:=by rw[iE.out,XS K]
        have ax:(s.given==60)=XX:=by simpa using K
        go_wp2
        go_meet
        exact⟨by rw[p],a.out,RS.out,f⟩
       .rw[XR K] at iE;have ax:(s.given==60)=XW:=by simpa using K
        by_cases I:k=3
        .skip
         all_goals
          rw[XS I] at iE;have aw:(k==3)=XX:=by simpa using I
          by_cases E:wn=6
          .have p:i=5:=by rw[iE.out,XS E]
           have av:(wn==6)=XX:=by simpa using E
           go_wp2_with fail
           refine WA.out.mono ?_;rintro e w8 ⟨rfl,rfl⟩
           go_wp2
           go_meet
           exact⟨by rw[p],a.out,RS.out,f⟩
          .have p:i=0:=by rw[iE.out,XR E]
           have av:(wn==6)=XW:=by simpa using E
           go_wp2_with fail
           refine WA.out.mono ?_;rintro e w8 ⟨rfl,rfl⟩
           go_wp2
           go_meet
           exact⟨by rw[p],a.out,RS.out,f⟩
        .skip
         all_goals
          rw[XR I] at iE;have aw:(k==3)=XW:=by simpa using I
          go_wp2_with fail
          refine FT.out.mono ?_;rintro e w8 ⟨rfl,C⟩;have L8:=aC (Yz (a.out.later C) (Yz (RS.out.later C) (zL f C.size)));clear C
          cases fb
          .have p:i=8:=by rw[iE.out];rfl
           go_wp2
           go_meet
           exact⟨by rw[p],L8.out⟩
          .have p:i=0:=by rw[iE.out];rfl
           go_wp2
           go_meet
           exact⟨by rw[p],L8.out⟩
    .have p:i=an:=by rw[iE.out,XS S]
     have ba:(an != 0)=XX:=by simpa using S
     go_wp2
     go_meet
     exact⟨by rw[p],a.out,RS.out,f⟩
   case rest =>
    obtain⟨rfl,D,hR,ak⟩:=hcut;have DC:=aC (H.out.later D.bl);have Q1:=aC (Q7.of (D.kb (w.heap.size,bB) XA));have HP:=aC (Yz D (Yz hR ak));obtain⟨x0,x1,x2,x3,x4,x5⟩:=D.pC;clear D hR ak b1 b2 b3 b4 n2 n3 WA FT iE
    by_cases he:i=0
    .subst he;have E9:=aC (ar.out.2 rfl)
     have aj:Hid (s.es.length<60):=by
      show _<_;have:=au.out rfl;omega
     have JN:Hid (X4 prog 232 #[X8 (U ⟨d,0,XU⟩),.agg #[V Yf 0,V Yf k,Ya name,V Yf u,X9 (U ⟨gs,0,XU⟩) 1 cs,V Yf T]] wc fun e w'=>e=Yg (tA 0 (s.given+1))/\uC wc d s.ts (xs++[(⟨s.given+1,k,name,u,[(fr,til)],T⟩,gs,cs)]) (s.given+1) s.now F w'):=(Gj d s.ts xs s.given s.now F (⟨0,k,name,u,[(fr,til)],T⟩,gs,cs) wc DC.out.rd HP.out.2.1 (fun e=>by have:=H.out.lt gs e;omega) HP.out.2.2 DC.out.lt (by have:=H.out.len;have:=H.out.el;omega) hg.1 Xz)
     go_wp2_with fail
     refine JN.out.mono ?_;rintro e w8 ⟨rfl,hj⟩;obtain⟨F',hJ,ad,hO⟩:=DC.out.mu (x:=(⟨0,k,name,u,[(fr,til)],T⟩,gs,cs)) ⟨hu.1,hu.2,by simp,by simp,by simp;omega⟩ aj.out hj;have ao:w.heap.size ∉ F:=fun e=>by have:=H.out.lt _ e;omega
     have a4:=hO.block w.heap.size (Yl _ _ Q1.out.q0) ao;have bc:=HP.out.1.bl.size;have bn:w.heap.size<wc.heap.size:=Yl _ _ Q1.out.q0
     have HF:Hid (ec w d F xs (aA.kB s ⟨0,k,name,u,[(fr,til)],T⟩) (Yg (bJ 0 0 (s.given+1) aT aT aT aT)) (cR w8 w.heap.size (V Yf 0) (V Yf 0) (V Yf (s.given+1)) aT aT aT aT)):=by
      refine hJ.nD (fun x r=>(ad x r).imp id (fun e=>by omega)) ((aH.aD HP.out.1.bl).trans hO) (zq _) (fun e=>?_) (fun x r e=>?_) (fun x r=>?_) 0 (s.given+1) _ _ _ _ _ _ _
      .rcases ad _ e with e|e
       .exact ao e
       .omega
      .rcases Yv.1 r with r|r
       .have:=(H.out.rd.sp x r).2.2;omega
       .simp only[List.mem_singleton] at r;subst r;simp only at e;omega
      .rcases Yv.1 r with r|r
       .exact .inl ⟨x,r,rfl⟩
       .simp only[List.mem_singleton] at r;subst r;exact .inr (by simp only;omega)
     obtain⟨q0,S,q2,A,K,I,E,fq⟩:=Q1.out.later a4;simp only[tA];clear hJ ad hO hj JN
     go_wp2_with fail
     exact cL results173 ⟨q0,S,q2,A,K,I,E,fq⟩ (by rw[E9.out];exact HF.out)
    .have bj:(i != 0)=XX:=by simpa using he
     have HF:Hid (ec w d F xs (s,⟨i,0,0,[],[],[],[]⟩) (Yg (bJ i 0 0 aT aT aT aT)) (cR wc w.heap.size (V Yf i) (V Yf 0) (V Yf 0) aT aT aT aT)):=H.out.said HP.out.1.bl (zq _) i 0 (V Yf i) (V Yf 0) (V Yf 0) aT aT aT aT;have E9:=aC (ar.out.1 he);obtain⟨q0,S,q2,A,K,I,E,fq⟩:=Q1.out;clear he
     go_wp2_with fail
     exact cL results173 ⟨q0,S,q2,A,K,I,E,fq⟩ (by rw[E9.out];exact HF.out)
theorem KP.off{f:XY}{L:J (M × Obj)}(h:KP w wx L)(k:aH G wx f)(j:∀ x∈G,w<=x)(i:∀ q∈L,q.1 ∉ G):KP w f L :=
 ⟨h.bl.trans (Ba k h.bl.size j),fun q a=>(k.block _ (h.lt a) (i q a)).trans (h.kb q a),h.lo,h.nd⟩
theorem KP.tail{q:M × Obj}{L:J (M × Obj)}(h:KP w wx (q :: L)):KP w wx L:=h.less (List.sublist_cons_self ..)
theorem DD.qt{wc p:XY}{xs:J (aO × M × M)}(H:DD w d s xs F){e:aO}{q cs:M}(r:X0 w w wc)(y:w<q)(z:w<wc.heap.size)(h:EB e)(t:s.es.length<60)(u:uC wc d s.ts (xs++[({ e with id:=s.given+1 },q,cs)]) (s.given+1) s.now F p)(a b c f g i j:XZ):
  ec w d F xs (aA.kB s e) (Yg (bJ 0 0 (s.given+1) aT aT aT aT)) (cR p w a b c f g i j)/\p.heap[w.heap.size]?=wc.heap[w.heap.size]?:=by
 let⟨F',hJ,hF',hO⟩:=(H.later r).mu (x:=(e,q,cs)) h t u;have o:w.heap.size ∉ F:=fun e=>by have:=H.lt _ e;omega
 refine⟨hJ.nD (fun x h=>(hF' x h).imp id (fun e=>by omega)) ((aH.aD r).trans hO) aI (fun e=>?_) (fun x h e=>?_) (fun x h=>?_) 0 (s.given+1) _ _ _ _ _ _ _,hO.block _ z o⟩
 .rcases hF' _ e with e|e
  .exact o e
  .omega
 .rcases Yv.1 h with h|h
  .have:=(H.rd.sp x h).2.2;omega
  .rw[List.mem_singleton.1 h] at e;simp only at e;omega
 .rcases Yv.1 h with h|h
  .exact .inl ⟨x,h,rfl⟩
  .rw[List.mem_singleton.1 h];exact .inr (by simp only;omega)
theorem Ob{xs:J (aO × M × M)}(h:DD w d s xs F)(hg:0<=s.given/\s.given<=60)(bs:(s.es.length:XQ)<=s.given)(hc:∀ j,j<n->w.cell? ⟨g,j,XU⟩=U (Ya (ws j)))(f:∀ j,(ws j).size<=160)(hr:te ws 3 k pc acc tm)(hn:k+7<n)(hu:1<=bT (ws 2) 1 7/\bT (ws 2) 1 7<=9)(hf:Rd.fY (lj ws 3 k pc acc tm)):
  X4 prog 174 #[X8 (U ⟨d,0,XU⟩),X9 (U ⟨g,0,XU⟩) n c] w (ec w d F xs (aV s (.series (ws 1) (bT (ws 2) 1 7) (lj ws 3 k pc acc tm)))):=by
 have P0:=aC ((KP.nil w).alloc bB);have H:=aC h;have RL:Hid (∀ W,X0 w.heap.size w W->X4 prog 180 #[X9 (U ⟨g,0,XU⟩) n c,X7 Y 3] W fun e w'=>e=Yg (nU (lj ws 3 k pc acc tm))/\X0 W.heap.size W w'):=fun W kW=>GP (i:=3) (fun j hj=>aR kW (hc j hj)) f Xz hr hn
 have DY:=aC (fun W=>Gi _ hf W);have hk:3+2<=k:=by rcases hr.hk with e|e <;> omega
 have i1:(1:XQ)<(n:XQ):=Xz
 have i2:(2:XQ)<(n:XQ):=Xz
 have y1:=aR P0.out.bl (hc 1 Xz);have y2:=aR P0.out.bl (hc 2 Xz);have NM:=aC (fun wx=>fH (ws 2) 1 7 wx (f 2) Xz Xz);generalize bT (ws 2) 1 7=u at *;generalize ws 1=name at *;generalize ws 2=ut at *;generalize lj ws 3 k pc acc tm=q at *;simp only[nU,rF] at RL DY;have B:=aC (Yz hf (Rd.qY hf).2);clear h hc f hr hf hk hn
 go_in
 go_upto_region 1 with fail
 change Code.wp _ _ _ _ (w.alloc bB);generalize w.alloc bB=X at *
 go_cut [5] from 12 to 19 (fun v5 wx=>∃ b,v5=X8 (U ⟨b,0,XU⟩)/\KP w wx [(b,oJ 1 name u aT 0),(w.heap.size,bB)])
 case first =>
  have bn:∀ o,(X.alloc o).cell? ⟨g,1,XU⟩=U (Ya name):=fun o=>aR ((zr _ _).alloc (zq _) _) y1
  have bm:∀ o,(X.alloc o).cell? ⟨g,2,XU⟩=U (Ya ut):=fun o=>aR ((zr _ _).alloc (zq _) _) y2
  go_region_with (first
   |(go_at_call 126;refine (NM.out _).mono ?_;rintro e w4 ⟨rfl,A⟩;have PB:=aC (((P0.out.alloc _).later (dV _)).later A);have bz:=Bm A;have b0:=sg bz;have b1:=rZ bz;have b2:=tC bz;have b3:=tD bz;have b4:=tF bz;have b5:=sb bz;have bf:=wq bz;have kX:X0 X.heap.size X w4:=bM ((zr _ _).alloc (zq _) _).drew A (zq _);have ag:=aR kX y1;clear A)
   |(go_at_call 126;refine (NM.out _).mono ?_;rintro e w4 ⟨rfl,A⟩;have kX:X0 X.heap.size X w4:=bM (dV X) A (zq _);have ag:=aR kX y1;have yB:∀ o,(w4.alloc o).cell? ⟨g,1,XU⟩=U (Ya name):=fun o=>aR ((zr _ _).alloc (zq _) _) ag))
  all_goals
   go_wp2
   go_meet
   first
    |(
     have PB:=PB.out.qw (X7 Y 0) (X7 Y 1) (Ya name) (X7 Y u) aT (X7 Y 0)
     exact⟨_,rfl,PB⟩)
    |exact⟨_,rfl,(P0.out.later kX).alloc _⟩
 case rest =>
  obtain⟨b,rfl,hP⟩:=hcut;have HP:=aC hP;clear hP y1 y2 P0 NM;obtain⟨_,_,b2,b3,_,_⟩:=HP.out.pC;have AK:=aC ((H.out.later HP.out.bl).asked name u);have SD:Hid (∀ er Z,KP w Z [(w.heap.size,bB)]->aV s (.series name u q)=(s,bI.error er)->ec w d F xs (aV s (.series name u q)) (Yg (bJ er 0 0 aT aT aT aT)) (cR Z w.heap.size (X7 Y er) (X7 Y 0) (X7 Y 0) aT aT aT aT)/\Q7 Z w.heap.size):=fun er Z k e=>⟨by rw[e];exact H.out.said k.bl (zq _) er 0 _ _ _ _ _ _ _,Q7.of k.nP⟩
  have D1:Hid (aA.eB s.ts name u≠0->aV s (.series name u q)=(s,bI.error (aA.eB s.ts name u))):=fun e=>by simp only[aV,aA.np,XS e]
  have D2:Hid (aA.eB s.ts name u=0->Rd.gQ q≠0->aV s (.series name u q)=(s,bI.error (Rd.gQ q))):=fun e e2=>by simp only[aV,aA.np,e,ne_eq,not_true_eq_false,if_false,e2,not_false_eq_true,if_true]
  have D3:Hid (aA.eB s.ts name u=0->Rd.gQ q=0->s.given=60->aV s (.series name u q)=(s,bI.error 5)):=fun e e2 e3=>by simp[aV,aA.np,e,e2,e3]
  have D4:Hid (aA.eB s.ts name u=0->Rd.gQ q=0->s.given≠60->aV s (.series name u q)=if aA.eo s.ts s.es name u (Rd.gY q (Rd.bY q)) then aA.kB s ⟨0,1,name,u,Rd.gY q (Rd.bY q),0⟩ else (s,bI.error 8)):=fun e e2 e3=>by
   simp only[aV,aA.np,e,e2,e3,ne_eq,not_true_eq_false,if_false]
   cases aA.eo s.ts s.es name u (Rd.gY q (Rd.bY q)) <;> simp
  go_wp2_with fail
  refine AK.out.mono ?_;rintro e w7 ⟨rfl,rfl⟩;clear AK;generalize aA.eB s.ts name u=an at *
  by_cases t:an=0
  case neg =>
   have bq:(an != 0)=XX:=by simpa using t
   have E:=aC (SD.out an _ HP.out.tail (D1.out t));clear t;obtain⟨P,t,K,I,r,D,C,T⟩:=E.out.2
   go_wp2_with fail
   exact cL results174 ⟨P,t,K,I,r,D,C,T⟩ E.out.1
  subst t;clear D1 b2 b3
  go_wp2_with fail
  refine (RL.out _ HP.out.bl).mono ?_;rintro e w2 ⟨rfl,hb⟩;replace HP:=aC ((HP.out.later hb).alloc (iJ q));clear hb RL
  go_upto_region 6 with fail
  change Code.wp _ _ _ _ (w2.alloc (iJ q));obtain⟨rb,ai⟩:∃ rb,rb=w2.heap.size:=⟨_,rfl⟩;rw[<- ai] at HP ⊢;generalize w2.alloc (iJ q)=W at *;obtain⟨⟨c0,c1,c9,ae,aa,ba,a9⟩,cJ⟩:=oD HP.out.nP;have j0:=cJ 0 Xz;have j1:=cJ 1 Xz;have j2:=cJ 2 Xz;have j3:=cJ 3 Xz;have j4:=cJ 4 Xz;have j5:=cJ 5 Xz;have j6:=cJ 6 Xz;have b6:b<W.heap.size:=HP.out.lt (q:=(b,oJ 1 name u aT 0)) XA;clear cJ ai
  go_wp2_with fail
  refine (DY.out _).mono ?_;rintro e w3 ⟨au,hd⟩;replace HP:=aC (HP.out.later au);clear c0 c1 c9 ae aa ba a9 j0 j1 j2 j3 j4 j5 j6 DY;rcases hd with ⟨he,v,rfl,ho⟩|⟨he,rfl⟩
  case inr =>
   have E:=aC (SD.out (Rd.gQ q) _ HP.out.tail.tail (D2.out XA he));generalize Rd.gQ q=er at *;have bv:(er != 0)=XX:=by simpa using he
   obtain⟨P,t,K,I,r,D,C,T⟩:=E.out.2;clear he
   go_wp2_with fail
   exact cL results174 ⟨P,t,K,I,r,D,C,T⟩ E.out.1
  obtain⟨_,ax,bi,p⟩:=B.out.2 he;have HO:=aC ho;have LT:=aC p;have HD:=aC he;have MM:=aC (fun i (hi:i<(Rd.bY q).length)=>Yz (Rd.ui B.out.1 (zg hi)) (Yz B.out.1.m0 (Yz B.out.1.m1 (Yz B.out.1.i1 B.out.1.i2))));obtain⟨va,vc,rfl⟩:=gj ho;have LB:=aC (Yz (HP.out.lo (b,oJ 1 name u aT 0) XA) (Yz (HP.out.lt (q:=(b,oJ 1 name u aT 0)) XA) (Yz (HP.out.lt (q:=(rb,iJ q)) XA) (Yz (HP.out.lt (q:=(w.heap.size,bB)) XA) HP.out.bl.size))))
  have bg:Hid (∀ x∈Rd.gY q (Rd.bY q),0<=x.2/\x.2<=2000000):=fun x hx=>by
   obtain⟨y,hy,rfl⟩:=Zh.1 hx;have:=Rd.ui B.out.1 hy;have:=p y hy;have:=B.out.1.f0;have:=B.out.1.m0;have:=B.out.1.i1;simp only;omega
  clear ho p he au;have ay:0<(Rd.bY q).length:=List.length_pos_iff.2 ax
  go_wp2_with fail
  generalize w3=V at *;obtain⟨V0,a8⟩:∃ V0,V0=V:=⟨_,rfl⟩;subst a8
  go_loopw [9,10] (fun vi _ wr=>∃ (i:M) (vs:XZ),i<=(Rd.bY q).length/\vi=X7 Y i/\KP w wr [(b,oJ 1 name u vs 0),(rb,iJ q),(w.heap.size,bB)]/\wr.ownsRow V0.heap.size 60 2 vs (Rd.gY q ((Rd.bY q).take i)).length ((Rd.gY q ((Rd.bY q).take i)).flatMap jn)/\aH [b] V0 wr) (fun vi _ _=>(Rd.bY q).length-(intOf vi).toNat)
  case atStart=>exact⟨0,aT,Zd _,rfl,HP.out.swap,ZD _ _ _ _,aH.refl _ _⟩
  case round =>
   obtain⟨i,vs,hi,rfl,hP,ab,ac⟩:=hrel;have a:=aC (Yz hP (Yz ab ac));clear hP ab ac
   by_cases ad:i<(Rd.bY q).length
   .have ak:(i:XQ)<((Rd.bY q).length:XQ):=Xz
    obtain⟨g2,cap,e,y⟩:=qz HO.out (k:=i) (u:=X7 Y (Rd.bY q)[i]) (by rw[List.getElem?_map,ZV ad];rfl);simp only[Value.slice.injEq,true_and] at e;obtain⟨rfl,rfl⟩:=e;have a4:g2 ∉ [b]:=by have:=gi HO.out (k:=g2) rfl;simp;omega
    have y':=a.out.2.2.cell a4 y;obtain⟨_,_,_,_,b4,_⟩:=a.out.1.pC;obtain⟨⟨_,_,_,ae,aa,_⟩,_⟩:=oD (a.out.1.kb (rb,iJ q) XA);obtain⟨⟨m1,m2⟩,m3,m4,m5,m6⟩:=MM.out i ad;have bu:=B.out.1.f0
    have HT:Hid (Rd.gY q ((Rd.bY q).take (i+1))=Rd.gY q ((Rd.bY q).take i)++[(1440*(Rd.bY q)[i]+q.mn,1440*(Rd.bY q)[i]+q.mn+q.mi)]):=by
     show _=_;simp only[Rd.gY];rw[Zc ad,Zl];simp only[List.map_cons,List.map_nil,Int.mul_comm 1440]
    have az:(Rd.gY q ((Rd.bY q).take i)).length<=1000000:=by simp[Rd.gY];omega
    clear y;generalize (Rd.bY q)[i]=x at *;have w1:Y.wrap (1440*x)=1440*x:=cT Xz Xz;have w2:Y.wrap (1440*x+q.mn)=1440*x+q.mn:=cT Xz Xz;have w3:Y.wrap (1440*x+q.mn+q.mi)=1440*x+q.mn+q.mi:=cT Xz Xz
    go_upto_region 12 with fail
    go_quiet (fail)
    go_upto_region 13 with fail
    generalize av:World.drewN wr _=Wd at *
    have kd:Hid (X0 wr.heap.size wr Wd):=by
     rw[<- av];exact lY (zr _ _) _
    clear av;have bc:=aR kd.out b4;have bj:=aR kd.out aa;have NB:Hid (∀ z∈vs.ownBlock.toList,V0.heap.size<=z):=fun z f=>gi a.out.2.1 (ZL.1 f)
    have ar:b ∉ vs.ownBlock.toList:=fun e=>by have:=NB.out b e;have:=LB.out.2.1;omega
    have PD:=aC (a.out.1.later kd.out);have OD:=aC (eQ a.out.2.1 kd.out);have a7:V0.heap.size<=Wd.heap.size:=Yk a.out.2.2.size kd.out.size;clear b4 ae aa
    go_wp2_with (first|(at_builtin;refine Ga rfl _ _ rfl OD.out (1440*x+q.mn) (1440*x+q.mn+q.mi) rfl rfl az a7 ?_;intro gs cs w6 aj R;have b4:=R.cell ar bc;have bf:=(R.frozen (o:=4) ar (PD.out.lt (q:=(b,oJ 1 name u vs 0)) XA)).trans (PD.out.hf 4)))
    have P6:=aC (PD.out.off R (fun z f=>Yk LB.out.2.2.2.2 (NB.out z f)) (fun z f e=>by
     have:=NB.out _ e;have:=LB.out;simp only[Yu,List.not_mem_nil,or_false] at f
     rcases f with rfl|rfl|rfl <;> simp only at this <;> omega))
    have ao:V0.heap.size<=gs:=gi aj rfl;refine⟨⟨i+1,_,by omega,by go_num,P6.out.put 4 _,?_,?_⟩,by simp[intOf];omega⟩
    .rw[HT.out,YZ]
     exact cV aj (aH.bD ..) (fun z f e=>by
      simp only[ZB,Option.some.injEq] at f;simp only[List.mem_singleton] at e;have:=LB.out.2.1
      omega)
    .exact ((a.out.2.2.trans' (aH.aD kd.out) (fun z f=>.inl f)).trans' R (fun z f=>.inr (NB.out z f))).setCell (.inl XA) _ _
   .have a3:i=(Rd.bY q).length:=Xz
    subst a3;have ak:¬ (((Rd.bY q).length:M):XQ)<((Rd.bY q).length:XQ):=Xz
    have hL:(Rd.gY q (Rd.bY q)).length=(Rd.bY q).length:=by simp[Rd.gY]
    rw[List.take_length] at a;have bh:=aC (D4.out XA HD.out);have af:Hid ((Rd.gY q (Rd.bY q)).length<=40/\Rd.gY q (Rd.bY q)≠[]):=⟨by omega,fun e=>by rw[e] at hL;simp at hL;omega⟩;generalize Rd.gY q (Rd.bY q)=L at *;rcases a.out.2.1.2 with ⟨_,h0⟩|⟨gs,cs,_,rfl,_⟩
    .omega
    clear hL;obtain⟨b0,b1,b2,b3,b4,b5⟩:=a.out.1.pC;have DW:=aC (H.out.later a.out.1.bl);have n2:=DW.out.rd.c2;have RS:=aC (Bz a.out.2.1).2;have ao:V0.heap.size<=gs:=gi a.out.2.1 rfl;have al:gs<wr.heap.size:=fe a.out.2.1 rfl
    by_cases r:s.given=60
    .have aw:(s.given==60)=XX:=by simpa using r
     have E:=aC (SD.out 5 _ a.out.1.tail.tail (D3.out XA HD.out r));obtain⟨P,t,K,I,r,D,C,T⟩:=E.out.2
     go_wp2_with fail
     exact cL results174 ⟨P,t,K,I,r,D,C,T⟩ E.out.1
    .have aw:(s.given==60)=XW:=by simpa using r
     have FT:=aC (DW.out.fits (u:=u) (cb:=cs) name RS.out (by have:=af.out.1;omega) Xz hu.2);have DF:=aC (bh.out r);generalize aA.eo s.ts s.es name u L=fb at *
     go_wp2_with fail
     refine FT.out.mono ?_;rintro e w8 ⟨rfl,S⟩;have K8:=aC (a.out.1.later S);have R8:=aC (Yz (RS.out.later S) (Yz (zL al S.size) ao));clear S
     cases fb
     .have E:=aC (SD.out 8 _ K8.out.tail.tail (DF.out.trans XA));obtain⟨P,t,K,I,r,D,C,T⟩:=E.out.2
      go_wp2_with fail
      exact cL results174 ⟨P,t,K,I,r,D,C,T⟩ E.out.1
     .have aq:Hid (s.es.length<60):=by
       show _<_;omega
      have DC:=aC (H.out.later K8.out.bl);have JN:Hid (X4 prog 232 #[X8 (U ⟨d,0,XU⟩),.agg #[X7 Y 0,X7 Y 1,Ya name,X7 Y u,X9 (U ⟨gs,0,XU⟩) L.length cs,X7 Y 0]] w8 fun e w'=>e=Yg (tA 0 (s.given+1))/\uC w8 d s.ts (xs++[(⟨s.given+1,1,name,u,L,0⟩,gs,cs)]) (s.given+1) s.now F w'):=(Gj d s.ts xs s.given s.now F (⟨0,1,name,u,L,0⟩,gs,cs) w8 DC.out.rd R8.out.1 (fun e=>by have:=H.out.lt gs e;have:=LB.out.2.2.2.2;omega) R8.out.2.1 DC.out.lt (by have:=H.out.len;have:=H.out.el;omega) hg.1 Xz);obtain⟨x0,x1,x2,x3,x4,x5⟩:=K8.out.pC;have Q1:=aC (Q7.of (K8.out.kb (w.heap.size,bB) XA));clear b0 b1 b2 b3 b4 b5 n2
      go_wp2_with fail
      refine JN.out.mono ?_;rintro e w9 ⟨rfl,hj⟩;have JA:=aC (H.out.qt (e:=⟨0,1,name,u,L,0⟩) K8.out.bl (by have:=LB.out.2.2.2.1;omega) (K8.out.lt (q:=(w.heap.size,bB)) XA) ⟨hu.1,hu.2,af.out.1,af.out.2,bg.out⟩ aq.out hj (X7 Y 0) (X7 Y 0) (X7 Y (s.given+1)) aT aT aT aT);obtain⟨P,t,K,I,r,D,C,T⟩:=Q1.out.later JA.out.2;simp only[tA];clear hj JN x0 x1 x2 x3 x4 x5
      go_wp2_with fail
      exact cL results174 ⟨P,t,K,I,r,D,C,T⟩ (by rw[DF.out];exact JA.out.1)
theorem DD.days{xs:J (aO × M × M)}(h:DD w d s xs F)(q:X0 w w Z){B:M}(p:Z.ownsRow B 3 1 v l.length (l.map (V Y)))(H:w<=Q)(I:Q<B)(n:XQ)(a b c e f g i:XZ):
  ec w d F xs (s,{ bI.num n with days:=l }) (Yg (bJ 0 0 n aT v aT aT)) (cR Z Q a b c e f g i):=by
 have o:=lQ Z Q a b c e f g i;have u:∀ x,x<w.heap.size->x ∉ [Q]:=fun x j e=>by simp at e;omega
 have t:∀ x∈v.ownBlock.toList,B<=x/\x<Z:=fun x j=>⟨gi p (ZL.1 j),fe p (ZL.1 j)⟩
 refine⟨aT,v,aT,aT,xs,F,v.ownBlock.toList,rfl,fun E C=>⟨⟨[],EV.nil _,rfl⟩,⟨(NV.own p).form,fun k A=>?_⟩,NV.nil _⟩,ZD _ _ _ _,(h.later q).off o (fun x j=>u x (h.lt x j)) (fun x j=>u _ (h.rd.sp x j).2.2),fun _ j=>.inl j,(aH.aD q).trans' o (fun x j=>.inr (by simp at j;omega)),fun x j=>?_,fun x j=>by simp[ZB] at j,fun x j=>.inl ⟨x,j,rfl⟩⟩
 .obtain⟨y,cap,z,D⟩:=(NV.own p).cell k A;have r:y∈v.ownBlock.toList:=by rw[z];simp[ZB]
  have:=t y r;exact⟨y,cap,z,(zo ((C y r).trans (o.block y this.2 XG))).trans D⟩
 .have:=t x j;exact⟨Xz,Zg this.2 o.size,fun e=>by have:=h.lt x e;omega,by simp[ZB]⟩
theorem OA{xs:J (aO × M × M)}(h:DD w d s xs F)(y:∀ j,j<n->w.cell? (g,j)=U (Ya (ws j)))(hz:∀ j,(ws j).size<=160)(hr:te ws 1 k pc acc tm)(hn:k+7<n)(h0:ws 0=⟨#[101,120,112,97,110,100]⟩)(x:Rd.fY (lj ws 1 k pc acc tm)):
  X4 prog 117 #[d,X9 g n c] w (ec w d F xs (aV s (.expand (lj ws 1 k pc acc tm)))):=by
 have r:=aC ((KP.nil w).alloc bB);have H:=aC h;have RL:Hid (∀ W,X0 w w W->X4 prog 180 #[X9 g n c,V Y 1] W fun e w'=>e=Yg (nU (lj ws 1 k pc acc tm))/\X0 W W w'):=fun W kW=>GP (i:=1) (fun j hj=>aR kW (y j hj)) hz Xz hr hn
 have E:=aC (fun W=>Gi _ x W);have i0:(0:XQ)<(n:XQ):=Xz
 have I:=aR r.bl (y 0 Xz);rw[h0] at I;generalize lj ws 1 k pc acc tm=q at *;simp only[nU,rF] at RL E;have ES:=aC (Rd.qY x).2;clear h y hz hr x hn h0
 go_in
 go_upto_region 1 with fail
 change Code.wp _ _ _ _ (w.alloc bB);generalize w.alloc bB=X at *
 go_wp21
 refine aK (RL _ r.bl) fun t hb=>?_;have HP:=aC ((r.later hb).alloc (iJ q));clear hb RL r I
 go_upto_region 24 with fail
 change Code.wp _ _ _ _ (t.alloc (iJ q));obtain⟨K,p⟩:∃ K,K=t.heap.size:=⟨_,rfl⟩;rw[<- p] at HP ⊢;generalize t.alloc (iJ q)=W at *;obtain⟨⟨c0,c1,c9,C,B,A,z⟩,a⟩:=oD HP.out.nP;have j0:=a 0 Xz;have j1:=a 1 Xz;have j2:=a 2 Xz;have j3:=a 3 Xz;have j4:=a 4 Xz;have j5:=a 5 Xz;have j6:=a 6 Xz;have hQ:w.heap.size<W.heap.size:=HP.out.lt (q:=(w.heap.size,bB)) XA;clear a p
 go_wp21
 refine (E _).mono ?_;rintro e w3 ⟨f,hd⟩;replace HP:=aC (HP.later f);clear c0 c1 c9 C B A z j0 j1 j2 j3 j4 j5 j6 E;obtain⟨q0,q1,q2,T,S,R,P,fq⟩:=Q7.of (HP.kb (w,bB) XA);rcases hd with ⟨o,v,rfl,u⟩|⟨o,rfl⟩
 .have aa:(Rd.bY q).length<=40:=(ES o).2.2.1
  have D:Hid (ec w d F xs (aV s (.expand q)) (Yg (bJ 0 0 (Rd.bY q).length aT v aT aT)) (cR w3 w (V Y 0) (V Y 0) (V Y (Rd.bY q).length) aT v aT aT)):=by
   have e:aV s (.expand q)=(s,{ bI.num (Rd.bY q).length with days:=Rd.bY q }):=by simp[aV,o]
   rw[e];exact H.out.days HP.out.bl u (zq _) hQ _ _ _ _ _ _ _ _
  obtain⟨va,vc,rfl⟩:=gj u;clear u o f;generalize (Rd.bY q).length=m at *
  go_wp21
  exact cL results117 ⟨q0,q1,q2,T,S,R,P,fq⟩ D
 .have D:Hid (ec w d F xs (aV s (.expand q)) (Yg (bJ (Rd.gQ q) 0 0 aT aT aT aT)) (cR w3 w (V Y (Rd.gQ q)) (V Y 0) (V Y 0) aT aT aT aT)):=by
   have e:aV s (.expand q)=(s,bI.error (Rd.gQ q)):=by simp[aV,o]
   rw[e];exact H.said HP.bl aI _ 0 _ _ _ _ _ _ _
  clear o f;generalize Rd.gQ q=er at *
  go_wp21
  exact cL results117 ⟨q0,q1,q2,T,S,R,P,fq⟩ D
namespace aA
theorem GC(tq:XQ)(e:aO):∀ l:J aO,dP tq (l++[e])=if e.kind≠1/\e.bP<dP tq l then e.bP else dP tq l
 |[]=>rfl
 |a :: l=>by
  have ih:=GC tq e l;have f:dP tq (a :: l++[e])=if a.kind≠1/\a.bP<dP tq (l++[e]) then a.bP else dP tq (l++[e]):=rfl
  have h:dP tq (a :: l)=if a.kind≠1/\a.bP<dP tq l then a.bP else dP tq l:=rfl
  rw[f,ih];generalize dP tq (a :: l)=y at *;generalize dP tq l=x at *;subst h
  by_cases p:a.kind=1 <;> by_cases q:e.kind=1 <;> simp only[p,q,ne_eq,not_true_eq_false,not_false_eq_true,true_and,false_and,if_false] <;> (repeat' split) <;> omega
theorem FH{α:Type}(f:α->XQ):∀ {l:J α},(l.map f).Nodup->∀ x∈l,∀ y∈l,f x=f y->x=y
 |a :: l,h,x,hx,y,hy,e=>by
  rw[List.map_cons,List.nodup_cons] at h;rcases Yu.1 hx with rfl|j <;> rcases Yu.1 hy with rfl|i
  .rfl
  .exact (h.1 (e ▸ Zh.2 ⟨y,i,rfl⟩)).elim
  .exact (h.1 (e ▸ Zh.2 ⟨x,j,rfl⟩)).elim
  .exact FH f h.2 x j y i e
theorem MD{α:Type}(f:α->XQ)(p:α->XN){l:J α}(h:(l.map f).Nodup):l.filter (fun x=>!((l.filter p).map f).contains (f x))=l.filter fun x=>!p x:=by
 refine List.filter_congr fun x a=>?_
 congr 1
 rw[Bool.eq_iff_iff,List.contains_iff_mem,Zh];constructor
 .rintro ⟨y,i,e⟩;let⟨hy1,hy2⟩:=List.mem_filter.1 i;rw[<- FH f h y hy1 x a e];exact hy2
 .intro j;exact⟨x,List.mem_filter.2 ⟨a,j⟩,rfl⟩
theorem MR(es:J aO)(L:J XQ)(z:XQ):es.filter (fun e=>!(L++[z]).contains e.id)=(es.filter (fun e=>!L.contains e.id)).filter (fun e=>e.id != z):=by
 rw[List.filter_filter];refine List.filter_congr fun e _=>?_
 by_cases f:e.id∈L <;> by_cases a:e.id=z <;> simp[f,a]
theorem MG{now:XQ}(h:now<tq):fg ts (k+1) es now tq=((fg ts k (dB ts (es.filter fun e=>!bO (dP tq es) e)).1 (dP tq es) tq).1,(es.filter (bO (dP tq es))).map (·.id)++(fg ts k (dB ts (es.filter fun e=>!bO (dP tq es) e)).1 (dP tq es) tq).2.1,(dB ts (es.filter fun e=>!bO (dP tq es) e)).2++(fg ts k (dB ts (es.filter fun e=>!bO (dP tq es) e)).1 (dP tq es) tq).2.2):=by
 simp only[fg,XS h]
theorem MY{now:XQ}(h:¬ now<tq):fg ts k es now tq=(es,[],[]):=by
 cases k with
 |zero=>rfl
 |succ k=>simp only[fg,XR h]
theorem FV(tq:XQ):∀ es:J aO,dP tq es<=tq/\(∀ e∈es,e.kind≠1->dP tq es<=e.bP)/\(dP tq es=tq\/∃ e∈es,bO (dP tq es) e=XX)
 |[]=>⟨Int.le_refl _,by simp,.inl rfl⟩
 |a :: l=>by
  let⟨i1,i2,i3⟩:=FV tq l;simp only[dP]
  split
  .rename_i h
   refine⟨Xz,fun e f i=>?_,.inr ⟨a,List.mem_cons_self,by simp[bO,h.1]⟩⟩;rcases Yu.1 f with rfl|f
   .omega
   .have:=i2 e f i;omega
  .rename_i h
   refine⟨i1,fun e f i=>?_,i3.imp id fun ⟨e,f,j⟩=>⟨e,ZK _ f,j⟩⟩;rcases Yu.1 f with rfl|f
   .rcases Int.lt_or_le e.bP (dP tq l) with q|q
    .exact (h ⟨i,q⟩).elim
    .exact q
   .exact i2 e f i
end aA
open aA (aO St bI dB)
def rG(tq:XQ)(v5 v6:XZ):Obj:=Yh #[V Y 0,V Y 0,tq,aT,aT,v5,v6] 40 (0,0)
structure gy(w:XY)(d:M)(F:J M)(xs:J (aO × M × M))(tq:XQ)(s:St)(gr en:J XQ)(ys:J (aO × M × M))(F':J M)(v5 v6:XZ)(N:M)(wr:XY):Prop where
 dd:DD wr d s ys F'
 hF:∀ k∈F',k<N/\(k∈F\/w+2<=k)
 off:aH F w wr
 bo:Bj ys xs
 kb:wr.heap[w.heap.size+1]?=U (rG tq v5 v6)
 kq:wr.heap[w.heap.size]?=U bB
 r5:wr.ownsRow (w.heap.size+2) 3 1 v5 gr.length (gr.map (V Y))
 r6:wr.ownsRow (w.heap.size+2) 3 1 v6 en.length (en.map (V Y))
 a5:∀ k,v5.ownBlock=U k->k<N/\k ∉ F'/\v6.ownBlock≠U k
 a6:∀ k,v6.ownBlock=U k->k<N/\k ∉ F'
 hN:w+2<=N/\N<=wr
 hx:∀ x∈xs,x.2.1<w
 hf:∀ k∈F,k<w
section
variable {w wr w':XY}{d:XP}{F:XL XP}{xs ys:XL (aO × XP × XP)}{tq:XQ}{s:St}{gr en:XL XQ}{F':XL XP}{v5 v6:XZ}{N:XP}
theorem gy.sp(h:gy w d F xs tq s gr en ys F' v5 v6 N wr):∀ x∈ys,x.2.1<w:=fun x a=>by
 let⟨z,hz,e⟩:=h.bo x a;rw[e];exact h.hx z hz
theorem gy.nF(h:gy w d F xs tq s gr en ys F' v5 v6 N wr)(a:w<=k)(f:k<w+2):k ∉ F':=fun e=>by
 rcases (h.hF k e).2 with q|q
 .have:=h.hf k q;omega
 .omega
theorem gy.new(h:gy w d F xs tq s gr en ys F' v5 v6 N wr)(k:aH G wr w')(o:∀ x∈G,N<=x):gy w d F xs tq s gr en ys F' v5 v6 N w':=by
 have a:∀ x,x<N->x ∉ G:=fun x f e=>by have:=o x e;omega
 have j:=h.hN;exact⟨h.dd.off k (fun x f=>a x (h.hF x f).1) (fun x f=>a _ (by have:=h.sp x f;omega)),h.hF,h.off.trans' k (fun x f=>.inr (by have:=o x f;omega)),h.bo,(k.block _ Xz (a _ Xz)).trans h.kb,(k.block _ Xz (a _ Xz)).trans h.kq,cV h.r5 k (fun b i=>a b (h.a5 b i).1),cV h.r6 k (fun b i=>a b (h.a6 b i).1),h.a5,h.a6,⟨j.1,Yk j.2 k.size⟩,h.hx,h.hf⟩
theorem gy.later(h:gy w d F xs tq s gr en ys F' v5 v6 N wr)(k:X0 wr wr w'):gy w d F xs tq s gr en ys F' v5 v6 N w':=h.new (G:=[]) (aH.aD k) XA
theorem gy.own(h:gy w d F xs tq s gr en ys F' v5 v6 N wr){i:St}{zs:J (aO × M × M)}(k:aH F' wr w')(o:DD w' d i zs F')(a:Bj zs ys):gy w d F xs tq i gr en zs F' v5 v6 N w':=by
 have j:=h.hN
 exact⟨o,h.hF,h.off.trans' k (fun x f=>(h.hF x f).2.imp id (fun e=>by omega)),fun x f=>by
  let⟨y,hy,e⟩:=a x f;let⟨z,hz,e2⟩:=h.bo y hy
  exact⟨z,hz,e.trans e2⟩,(k.block _ Xz (h.nF Xz Xz)).trans h.kb,(k.block _ Xz (h.nF Xz Xz)).trans h.kq,cV h.r5 k (fun b a=>(h.a5 b a).2.1),cV h.r6 k (fun b a=>(h.a6 b a).2),h.a5,h.a6,⟨j.1,Yk j.2 k.size⟩,h.hx,h.hf⟩
theorem DD.now(h:DD wr d s ys F')(t:XQ):DD (wr.setCell (d,3) t) d { s with now:=t } ys F':=by
 have k:aH [d] wr (wr.setCell (d,3) t):=aH.bD ..;let⟨v1,a1,a2,a3⟩:=h.rd.tv;let⟨v2,b1,b2,b3⟩:=h.rd.ev
 exact⟨⟨⟨v1,(aZ XA).trans a1,cV a2 k (fun b f=>by simpa using (a3 b f).2),a3⟩,⟨v2,(aZ XA).trans b1,cV b2 k (fun b f=>by simpa using (b3 b f).2),b3⟩,(aZ XA).trans h.rd.c2,Yy _ _ _ h.rd.c3,
  fun o=>(zF ..).trans (h.rd.fz o),h.rd.dF,fun x a=>⟨(h.rd.sp x a).1.off k (by simp;intro e;exact (h.rd.sp x a).2.1 (e ▸ h.rd.dF)),(h.rd.sp x a).2.1,Zg (h.rd.sp x a).2.2 k.size⟩⟩,h.es,fun x a=>zL (h.lt x a) k.size,h.tl,h.el,h.en⟩
theorem gy.now(h:gy w d F xs tq s gr en ys F' v5 v6 N wr)(t:XQ):gy w d F xs tq { s with now:=t } gr en ys F' v5 v6 N (wr.setCell (d,3) t) :=
 h.own ((aH.bD d wr 3 _).mono (fun x a=>by rw[List.mem_singleton.1 a];exact h.dd.rd.dF)) (h.dd.now t) (fun x a=>⟨x,a,rfl⟩)
theorem gy.wo(h:gy w d F xs tq s gr en ys F' v5 v6 N wr)(r:Z.ownsRow wr 58 6 v (gD id ys).length ((gD id ys).flatMap eH))(k:X0 wr wr Z):
  gy w d F xs tq { s with es:=s.es.filter fun e=>e.id != id } gr en (gD id ys) (v.ownBlock.toList++F') v5 v6 (Z.setCell (d,1) v).heap.size (Z.setCell (d,1) v):=by
 have C:=h.hN;have j:=h.later k;have p:∀ b∈v.ownBlock.toList,wr<=b/\b<Z:=fun b a=>⟨gi r (ZL.1 a),fe r (ZL.1 a)⟩
 have i:aH [d] Z (Z.setCell (d,1) v):=aH.bD ..;have t:d∈F':=h.dd.rd.dF;have z:=h.dd.fresh (s:=s) (es':=s.es.filter fun e=>e.id != id) r aI k (fun y u=>(List.mem_filter.1 u).1) (ZA ..) (by rw[<- h.dd.es,gD,List.filter_map];rfl);have B:(Z.setCell (d,1) v).heap.size=Z.heap.size:=XA
 have A:=k.size;have o:∀ x,x ∉ F'->x ∉ [d]:=fun x f e=>f (by rw[List.mem_singleton.1 e];exact t)
 refine⟨z,fun x f=>?_,j.off.trans' i (fun x f=>by rw[List.mem_singleton.1 f];exact (h.hF d t).2.imp (fun q=>q) (fun e=>by omega)),fun x f=>h.bo x (List.mem_filter.1 f).1,(i.block _ Xz (o _ (h.nF Xz Xz))).trans j.kb,(i.block _ Xz (o _ (h.nF Xz Xz))).trans j.kq,cV j.r5 i (fun b a=>o b (h.a5 b a).2.1),cV j.r6 i (fun b a=>o b (h.a6 b a).2),fun b a=>?_,fun b a=>?_,⟨Xz,Yi _⟩,h.hx,h.hf⟩
 .rcases Yv.1 f with e|e
  .have:=p x e;exact⟨Xz,.inr Xz⟩
  .have:=h.hF x e;exact⟨Xz,this.2⟩
 .let⟨p1,p2,p3⟩:=h.a5 b a;refine⟨Xz,fun e=>?_,p3⟩;rcases Yv.1 e with e|e
  .have:=p b e;omega
  .exact p2 e
 .let⟨p1,p2⟩:=h.a6 b a;refine⟨Xz,fun e=>?_⟩;rcases Yv.1 e with e|e
  .have:=p b e;omega
  .exact p2 e
theorem gy.DH(h:gy w d F xs tq s gr en ys F' v5 v6 N wr)(r:w'.ownsRow (w.heap.size+2) 3 1 v (en++l).length ((en++l).map (V Y)))(k:aH v6.ownBlock.toList wr w')(o:∀ b,v.ownBlock=U b->v6.ownBlock=U b\/wr<=b):
  gy w d F xs tq s gr (en++l) ys F' v5 v (w'.setCell (w.heap.size+1,6) v).heap.size (w'.setCell (w.heap.size+1,6) v):=by
 have D:=h.hN;have t:∀ b∈v6.ownBlock.toList,w+2<=b/\b<N/\b ∉ F':=fun b f=>⟨gi h.r6 (ZL.1 f),h.a6 b (ZL.1 f)⟩
 have j:aH [w.heap.size+1] w' (w'.setCell (w.heap.size+1,6) v):=aH.bD ..;have C:(w'.setCell (w.heap.size+1,6) v).heap.size=w'.heap.size:=XA
 have B:=k.size;have p:∀ x,x<w.heap.size+2->x ∉ v6.ownBlock.toList:=fun x a e=>by have:=t x e;omega
 have i:∀ x,x≠w.heap.size+1->x ∉ [w.heap.size+1]:=fun x a e=>a (List.mem_singleton.1 e)
 have u:∀ b,v.ownBlock=U b->w+2<=b/\b<w':=fun b f=>⟨gi r f,fe r f⟩
 refine⟨(h.dd.off k (fun x a e=>(t x e).2.2 a) (fun x a=>p _ (by have:=h.sp x a;omega))).off j (fun x a=>i x (fun e=>h.nF (k:=x) Xz Xz a)) (fun x a=>i _ (by have:=h.sp x a;omega)),fun x a=>?_,(h.off.trans' k (fun x a=>.inr (by have:=t x a;omega))).trans' j (fun x a=>.inr (by have:=List.mem_singleton.1 a;omega)),h.bo,?_,(j.block _ Xz (i _ Xz)).trans ((k.block _ Xz (p _ Xz)).trans h.kq),cV (cV h.r5 k (fun b f e=>(h.a5 b f).2.2 (ZL.1 e))) j (fun b f=>i b (by have:=gi h.r5 f;omega)),cV r j (fun b f=>i b (by have:=(u b f).1;omega)),fun b f=>?_,fun b f=>?_,⟨Xz,Yi _⟩,h.hx,h.hf⟩
 .have:=h.hF x a;exact⟨Xz,this.2⟩
 .exact mc ((k.block _ Xz (p _ Xz)).trans h.kb) v
 .obtain⟨A,z,y⟩:=h.a5 b f;refine⟨Xz,z,fun e=>?_⟩;rcases o b e with q|q
  .exact y q
  .omega
 .have:=u b f;refine⟨Xz,fun e=>?_⟩;rcases o b f with q|q
  .exact (h.a6 b q).2 e
  .have:=h.hF b e;omega
theorem gy.DI(h:gy w d F xs tq s gr en ys F' v5 v6 N wr)(t:w'.ownsRow (w.heap.size+2) 3 1 v (gr++l).length ((gr++l).map (V Y)))(k:aH v5.ownBlock.toList wr w')(o:∀ b,v.ownBlock=U b->v5.ownBlock=U b\/wr<=b):
  gy w d F xs tq s (gr++l) en ys F' v v6 (w'.setCell (w.heap.size+1,5) v).heap.size (w'.setCell (w.heap.size+1,5) v):=by
 have A:=h.hN;have p:∀ b∈v5.ownBlock.toList,w+2<=b/\b<N/\b ∉ F'/\v6.ownBlock≠U b:=fun b a=>⟨gi h.r5 (ZL.1 a),h.a5 b (ZL.1 a)⟩
 have j:aH [w.heap.size+1] w' (w'.setCell (w.heap.size+1,5) v):=aH.bD ..;have z:(w'.setCell (w.heap.size+1,5) v).heap.size=w'.heap.size:=XA
 have y:=k.size;have r:∀ x,x<w.heap.size+2->x ∉ v5.ownBlock.toList:=fun x f e=>by have:=p x e;omega
 have i:∀ x,x≠w.heap.size+1->x ∉ [w.heap.size+1]:=fun x f e=>f (List.mem_singleton.1 e)
 have u:∀ b,v.ownBlock=U b->w+2<=b/\b<w':=fun b a=>⟨gi t a,fe t a⟩
 refine⟨(h.dd.off k (fun x f e=>(p x e).2.2.1 f) (fun x f=>r _ (by have:=h.sp x f;omega))).off j (fun x f=>i x (fun e=>h.nF (k:=x) Xz Xz f)) (fun x f=>i _ (by have:=h.sp x f;omega)),fun x f=>?_,(h.off.trans' k (fun x f=>.inr (by have:=p x f;omega))).trans' j (fun x f=>.inr (by have:=List.mem_singleton.1 f;omega)),h.bo,?_,(j.block _ Xz (i _ Xz)).trans ((k.block _ Xz (r _ Xz)).trans h.kq),cV t j (fun b a=>i b (by have:=(u b a).1;omega)),cV (cV h.r6 k (fun b a e=>(p b e).2.2.2 a)) j (fun b a=>i b (by have:=gi h.r6 a;omega)),fun b a=>?_,fun b a=>?_,⟨by omega,Yi _⟩,h.hx,h.hf⟩
 .have:=h.hF x f;exact⟨Xz,this.2⟩
 .exact mc ((k.block _ Xz (r _ Xz)).trans h.kb) v
 .have:=u b a;refine⟨Xz,fun e=>?_,fun e=>?_⟩
  .rcases o b a with q|q
   .exact (h.a5 b q).2.1 e
   .have:=h.hF b e;omega
  .rcases o b a with q|q
   .exact (h.a5 b q).2.2 e
   .have:=(h.a6 b e).1;omega
 .let⟨p1,p2⟩:=h.a6 b a;exact⟨Xz,p2⟩
theorem gy.tU(h:gy w d F xs tq s gr en ys F' v5 v6 N wr)(a b c e f g i:XZ):ec w d F xs (s,{ bI.num tq with granted:=gr,ended:=en }) (Yg (bJ 0 0 tq aT aT v5 v6)) (cR wr w.heap.size a b c e f g i):=by
 have o:=lQ wr w.heap.size a b c e f g i;have I:=h.hN;have r:∀ x,x≠w.heap.size->x ∉ [w.heap.size]:=fun x j q=>j (List.mem_singleton.1 q)
 have u:∀ y∈v6.ownBlock.toList,w.heap.size+2<=y/\y<wr.heap.size:=fun y p=>⟨gi h.r6 (ZL.1 p),fe h.r6 (ZL.1 p)⟩
 refine⟨aT,aT,v5,v6,ys,F',v6.ownBlock.toList,rfl,fun H D=>⟨⟨[],EV.nil _,rfl⟩,NV.nil _,⟨(NV.own h.r6).form,fun k t=>?_⟩⟩,tJ (cV h.r5 o (fun b C=>r b (by have:=gi h.r5 C;omega))) Xz,h.dd.off o (fun x j=>r x (fun e=>h.nF (k:=x) Xz Xz j)) (fun x j=>r _ (by have:=h.sp x j;omega)),fun k t=>(h.hF k t).2.imp (fun q=>q) (fun q=>by omega),h.off.trans' o (fun x j=>.inr (by have:=List.mem_singleton.1 j;omega)),fun x j=>?_,fun x j=>⟨(h.a5 x j).2.1,fun z B q=>by have:=h.sp z B;have:=gi h.r5 j;omega⟩,fun x j=>.inl (h.bo x j)⟩
 .obtain⟨y,cap,A,E⟩:=(NV.own h.r6).cell k t;have p:y∈v6.ownBlock.toList:=by rw[A];simp[ZB]
  have:=u y p;exact⟨y,cap,A,(zo ((D y p).trans (o.block y Xz (r y Xz)))).trans E⟩
 .have:=u x j;exact⟨by omega,Zg this.2 o.size,(h.a6 x (ZL.1 j)).2,fun q=>(h.a5 x q).2.2 (ZL.1 j)⟩
end
open aA (aO St bI aV dB fg dP bO Inv)
structure vJ(s:St)(tq:XQ)(es:J aO)(now:XQ)(gr en:J XQ)(k:M):Prop where
 eq:fg s.ts (s.es.length+1) s.es s.now tq=((fg s.ts k es now tq).1,en++(fg s.ts k es now tq).2.1,gr++(fg s.ts k es now tq).2.2)
 lk:now<tq->es.length<k
 kk:k<=61
 nt:now<=tq
 iv:Inv ⟨s.ts,es,s.given,now⟩
 gl:gr.length+60*k<=3660
 el:en.length+es.length<=60
theorem vJ.step{now:XQ}{gr en:J XQ}(h:vJ s tq es now gr en k)(f:now<tq)(B:tq<=1048320){t:XQ}(ht:t=dP tq es):
  now<t/\∃ k',vJ s tq (dB s.ts (es.filter fun e=>!bO t e)).1 t (gr++(dB s.ts (es.filter fun e=>!bO t e)).2) (en++(es.filter (bO t)).map (·.id)) k':=by
 have C:=h.lk f;obtain⟨k,rfl⟩:∃ j,k=j+1:=⟨k-1,Xz⟩;let⟨i1,i2,i3⟩:=aA.FV tq es;rw[<- ht] at i1 i2 i3
 have i:∀ e∈es,bO t e=XX->now<t:=fun e p i=>by
  unfold bO at i;rw[Bool.and_eq_true,decide_eq_true_iff] at i;have o:e.kind≠1:=by simpa using i.1
  rcases (h.iv.en e p).kd with q|q
  .exact (o q.1).elim
  .have:=q.2.1;simp only at this;omega
 have a:now<t:=by
  rcases i3 with e|⟨e,p,q⟩
  .omega
  .exact i e p q
 have E:=aA.B9 (bO t) es;have D:=aA.zy s.ts (es.filter fun e=>!bO t e);have z:=aA.xz s.ts (es.filter fun e=>!bO t e);have g:=h.gl;have e:=h.el;have A:=h.kk;refine⟨a,k,?_,fun q=>?_,Xz,i1,(aA.ID h.iv a Xz i2).1,?_,?_⟩
 .have r:=h.eq;rw[aA.MG f,<- ht] at r;simp only[YU];exact r
 .rcases i3 with e|⟨x,y,u⟩
  .omega
  .have:0<(es.filter (bO t)).length:=List.length_pos_of_mem (List.mem_filter.2 ⟨y,u⟩);omega
 .rw[YZ];omega
 .rw[YZ,ZE,z];omega
def vW(w:XY)(d:M):XQ:=intOf ((w.cell? (d,3)).getD undef)
theorem MZ{xs:J (aO × M × M)}(h:DD w d s xs F)(hi:Inv s){n:XQ}(hn:1<=n/\n<=1048320):
  X4 prog 176 #[X8 (U ⟨d,0,XU⟩),V Yf n] w (ec w d F xs (aV s (.tick n))):=by
 have P0:=aC ((KP.nil w).alloc bB);have H:=aC h;have HI:=aC hi;have n0:=hi.n0;have n1:=hi.n1;have c3:=(h.later P0.out.bl).rd.c3;have wt:Yf.wrap (s.now+n)=s.now+n:=cT Xz Xz;clear h hi
 go_in
 go_upto_region 1 with fail
 change Code.wp _ _ _ _ (w.alloc bB);have P:(w.alloc bB).heap.size=w.heap.size+1:=XA
 generalize w.alloc bB=X at *
 by_cases ht:1048320<s.now+n
 .have HF:Hid (ec w d F xs (aV s (.tick n)) (Yg (bJ 6 0 0 aT aT aT aT)) (cR X w.heap.size (V Yf 6) (V Yf 0) (V Yf 0) aT aT aT aT)):=by
   have e:aV s (.tick n)=(s,bI.error 6):=by simp[aV,ht]
   rw[e];exact H.out.said P0.out.bl (zq _) 6 0 _ _ _ _ _ _ _
  obtain⟨q0,q1,q2,q3,q4,q5,q6,fq⟩:=Q7.of (P0.out.kb (w.heap.size,bB) XA)
  go_wp2_with fail
  exact cL results176 ⟨q0,q1,q2,q3,q4,q5,q6,fq⟩ HF.out
 have HD:Hid (aV s (.tick n)=({ s with es:=(fg s.ts (s.es.length+1) s.es s.now (s.now+n)).1,now:=s.now+n },{ bI.num (s.now+n) with granted:=(fg s.ts (s.es.length+1) s.es s.now (s.now+n)).2.2,ended:=(fg s.ts (s.es.length+1) s.es s.now (s.now+n)).2.1 })):=by
  show _=_;simp[aV,ht]
 have HM:Hid (vJ s (s.now+n) s.es s.now [] [] (s.es.length+1)):=by
  have:=H.out.el;exact⟨by simp,fun _=>by omega,by omega,by omega,HI.out,by simp;omega,by simp;omega⟩
 go_upto_region 4 with fail
 have P1:=aC (P0.out.alloc (rG (s.now+n) aT aT));have cj:(X.alloc (rG (s.now+n) aT aT)).heap.size=w.heap.size+2:=by simp;omega
 go_upto_region 5 with fail
 change Code.wp _ _ _ _ (X.alloc (rG (s.now+n) aT aT));rw[P] at P1;generalize X.alloc (rG (s.now+n) aT aT)=Y at *;clear wt;generalize s.now+n=tq at *
 have T0:Hid (gy w d F xs tq s [] [] xs F aT aT (w.heap.size+2) Y) :=
  ⟨H.out.later P1.out.bl,fun k hk=>⟨by have:=H.out.lt k hk;omega,.inl hk⟩,aH.aD P1.out.bl,fun x hx=>⟨x,hx,rfl⟩,P1.out.kb (w.heap.size+1,rG tq aT aT) XA,P1.out.kb (w.heap.size,bB) XA,ZD _ _ _ _,ZD _ _ _ _,fun k hk=>by simp[ZB] at hk,fun k hk=>by simp[ZB] at hk,⟨zq _,by omega⟩,fun x hx=>(H.out.rd.sp x hx).2.2,H.out.lt⟩
 clear P0 P1 c3 P cj
 go_loopw [7,8,9,10,11,12,13,14] (fun _ _ _ _ _ _ _ _ wr=>∃ (es:J aO) (now:XQ) (gr en:J XQ) (k:M) (ys:J (aO × M × M)) (F':J M) (v5 v6:XZ) (N:M),gy w d F xs tq ⟨s.ts,es,s.given,now⟩ gr en ys F' v5 v6 N wr/\vJ s tq es now gr en k) (fun _ _ _ _ _ _ _ _ wr=>(tq-vW wr d).toNat)
 case atStart=>exact⟨_,_,_,_,_,_,_,_,_,_,T0.out,HM.out⟩
 case round =>
  obtain⟨es,now,gr,en,k,ys,F',v5,v6,N,hT,hM⟩:=hrel;have HT:=aC hT;have HK:=aC hM;clear hT hM T0 HM;have c3:=HT.out.dd.rd.c3;have fz:=HT.out.dd.rd.fz;obtain⟨a5,p5,rfl⟩:=gj HT.out.r5;obtain⟨a6,p6,rfl⟩:=gj HT.out.r6
  by_cases bf:now<tq
  .have ct:Hid (vW wr d=now):=by
    show _=_;unfold vW;rw[HT.out.dd.rd.c3];rfl
   go_upto_region 7 with fail
   have T1:=aC (HT.out.now tq);generalize YA wr _ _=W1 at *;clear HT c3 fz
   go_wp2_with fail
   go_loopw [7,8] (fun vi _ wx=>∃ i:M,i<=es.length/\vi=V Yf i/\gy w d F xs tq ⟨s.ts,es,s.given,dP tq (es.take i)⟩ gr en ys F' (X9 a5 gr.length p5) (X9 a6 en.length p6) N wx) (fun vi _ _=>es.length-(intOf vi).toNat)
   case atStart=>exact⟨0,Zd _,rfl,T1.out⟩
   case round =>
    obtain⟨i,aq,rfl,bn⟩:=hrel;have R:=aC bn;clear bn T1;obtain⟨a,cap,E,hr⟩:=R.out.dd.er;have ad:ys.length=es.length:=R.out.dd.len;have cc:=hr.c;rw[ad] at cc;have m3:=R.out.dd.rd.c3;have fz:=R.out.dd.rd.fz 3
    by_cases hi:i<es.length
    .have au:(i:XQ)<(es.length:XQ):=Xz
     have K:i<ys.length:=Xz
     obtain rfl:=hr.a i K;have D:=hr.r i K;have c0:=D.c0;have c1:=D.c1;have c2:=D.c2;have c3:=D.c3;have c4:=D.c4;have c5:=D.c5
     have HY:Hid (ys[i].1=es[i]):=by
      show _=_;have e:=congrArg (fun l=>l[i]?) R.out.dd.es
      simpa[hi,K] using e
     have f:Hid (dP tq (es.take (i+1))=if es[i].kind≠1/\es[i].bP<dP tq (es.take i) then es[i].bP else dP tq (es.take i)):=by
      show _=_;rw[Zc hi,aA.GC]
     have hX:X0 wr.heap.size wr (wr.alloc (iY ys[i])):=(zr _ _).alloc (zq _) _;have hE:(wr.alloc (iY ys[i])).heap[wr.heap.size]?=U (iY ys[i]):=cP _ _
     have p:Hid (i+1<=es.length/\es.length-(i+1)<es.length-i):=by
      rw[Hid];omega
     have bg:i<100:=by have:es.length<=60:=R.out.dd.el;omega
     have wi:Yf.wrap ((i:XQ)+1)=(i:XQ)+1:=cT Xz Xz;clear D hr
     go_upto_region 11 with fail
     change Code.wp _ _ _ _ (wr.alloc (iY ys[i]));have f1:=rZ hE;have f5:=sb hE;have x3:=aR hX m3;have I:=aC (R.out.later hX);have xf:=I.out.dd.rd.fz 3;clear hE c0 c1 c2 c3 c4 c5 cc m3 fz R hX;generalize wr.alloc (iY ys[i])=X at *;rw[HY.out] at f1 f5;clear HY;generalize es[i].kind=kd at *;generalize es[i].bP=tl at *;generalize dP tq (es.take i)=m at *;simp only at x3
     by_cases T:kd=1
     .have S:(kd != 1)=XW:=by simp[T]
      have NX:Hid (dP tq (es.take (i+1))=m):=f.out.trans (XR (fun e=>e.1 T));clear T f
      go_big_region
      go_wp2_with fail
      exact⟨⟨i+1,p.out.1,by go_num,by rw[NX.out];exact I.out.later (lY (zr _ _) _)⟩,by have:=p.out.2;simp[intOf];omega⟩
     .have S:(kd != 1)=XX:=by simp[T]
      by_cases b2:tl<m
      .have NX:Hid (dP tq (es.take (i+1))=tl):=f.out.trans (XS ⟨T,b2⟩);clear T f
       go_big_region
       go_wp2_with fail
       exact⟨⟨i+1,p.out.1,by go_num,by rw[NX.out];exact (I.out.later (lY (zr _ _) _)).now tl⟩,by have:=p.out.2;simp[intOf];omega⟩
      .have NX:Hid (dP tq (es.take (i+1))=m):=f.out.trans (XR (fun e=>b2 e.2));clear T f
       go_big_region
       go_wp2_with fail
       exact⟨⟨i+1,p.out.1,by go_num,by rw[NX.out];exact I.out.later (lY (zr _ _) _)⟩,by have:=p.out.2;simp[intOf];omega⟩
    .have ar:i=es.length:=Xz
     subst ar;have au:¬ ((es.length:M):XQ)<(es.length:XQ):=Xz
     rw[List.take_length] at R;clear m3 fz aq;obtain⟨t,ht⟩:∃ t,t=dP tq es:=⟨_,rfl⟩;have cr:=aC ht;rw[<- ht] at R;clear ht
     go_upto_region 14 with fail
     have dp:=R.out.hN.2;have cq:Hid (w.heap.size+2<=wr.heap.size):=Yk R.out.hN.1 R.out.hN.2;obtain⟨a9,hV⟩:∃ a9,a9=wr:=⟨_,rfl⟩;subst hV;clear cc hr
     go_wp2_with fail
     go_loopw [9,10,11] (fun v9 vi _ wx=>∃ i:M,i<=es.length/\vi=V Yf i/\gy w d F xs tq ⟨s.ts,es,s.given,t⟩ gr en ys F' (X9 a5 gr.length p5) (X9 a6 en.length p6) N wx/\a9.heap.size<=wx.heap.size/\wx.ownsRow a9.heap.size 3 1 v9 (((es.take i).filter (bO t)).map (·.id)).length ((((es.take i).filter (bO t)).map (·.id)).map (V Yf))) (fun _ vi _ _=>es.length-(intOf vi).toNat)
     case atStart=>exact⟨0,Zd _,rfl,R.out,Yi _,ZD _ _ _ _⟩
     case round =>
      obtain⟨i,aq,rfl,bm,ae,ab⟩:=hrel;have I:=aC bm;have OW:=aC ab;clear bm R;obtain⟨va,vc,rfl⟩:=gj ab;clear ab;obtain⟨a,cap,E,hr⟩:=I.out.dd.er;have ad:ys.length=es.length:=I.out.dd.len;have cc:=hr.c;rw[ad] at cc;have m3:=I.out.dd.rd.c3
      by_cases hi:i<es.length
      .have au:(i:XQ)<(es.length:XQ):=Xz
       have K:i<ys.length:=Xz
       obtain rfl:=hr.a i K;have D:=hr.r i K;have c0:=D.c0;have c1:=D.c1;have c2:=D.c2;have c3:=D.c3;have c4:=D.c4;have c5:=D.c5
       have HY:Hid (ys[i].1=es[i]):=by
        show _=_;have e:=congrArg (fun l=>l[i]?) I.out.dd.es
        simpa[hi,K] using e
       have f:Hid (((es.take (i+1)).filter (bO t)).map (·.id)=((es.take i).filter (bO t)).map (·.id)++(if bO t es[i] then [es[i].id] else [])):=by
        show _=_;rw[Zc hi,YJ,Zl]
        congr 1
        by_cases q:bO t es[i]=XX
        .simp[q]
        .simp[q]
       have hX:X0 wr.heap.size wr (wr.alloc (iY ys[i])):=(zr _ _).alloc (zq _) _;have hE:(wr.alloc (iY ys[i])).heap[wr.heap.size]?=U (iY ys[i]):=cP _ _;have P:wr.heap.size<=(wr.alloc (iY ys[i])).heap.size:=hX.size
       have p:Hid (i+1<=es.length/\es.length-(i+1)<es.length-i):=by
        rw[Hid];omega
       have bv:es.length<=60:=I.out.dd.el
       have ca:(((es.take i).filter (bO t)).map (·.id)).length<=1000000:=by
        have:=ZA (bO t) (es.take i);rw[ZE];rw[List.length_take] at this;omega
       have bg:i<100:=Xz
       have wi:Yf.wrap ((i:XQ)+1)=(i:XQ)+1:=cT Xz Xz;clear D hr
       go_upto_region 18 with fail
       change Code.wp _ _ _ _ (wr.alloc (iY ys[i]));have f0:=sg hE;have f1:=rZ hE;have f5:=sb hE;have x3:=aR hX m3;have T4:=aC (I.out.later hX);have O4:=aC (eQ OW.out hX);clear hE c0 c1 c2 c3 c4 c5 cc m3 I OW hX;generalize wr.alloc (iY ys[i])=X at *;rw[HY.out] at f0 f1 f5;clear HY bv;have EB:Hid (bO t es[i]=((es[i].kind != 1) && decide (es[i].bP=t))):=rfl;generalize bO t es[i]=eb at *;generalize es[i].id=ei at *;generalize es[i].kind=kd at *;generalize es[i].bP=tl at *;generalize ((es.take i).filter (bO t)).map (·.id)=L at *;simp only at x3
       by_cases T:kd=1
       .have S:(kd != 1)=XW:=by simp[T]
        have NX:Hid (((es.take (i+1)).filter (bO t)).map (·.id)=L):=by
         show _=_;rw[f.out,EB.out,S];simp
        clear T f EB
        go_big_region
        go_wp2_with fail
        exact⟨⟨i+1,p.out.1,by go_num,T4.out.later (lY (zr _ _) _),Yk ae P,by rw[NX.out];exact eQ O4.out (lY (zr _ _) _)⟩,by have:=p.out.2;simp[intOf];omega⟩
       .have S:(kd != 1)=XX:=by simp[T]
        by_cases b2:tl=t
        .have cp:(tl==t)=XX:=by simp[b2]
         have NX:Hid (((es.take (i+1)).filter (bO t)).map (·.id)=L++[ei]):=by
          show _=_;rw[f.out,EB.out,S];simp[b2]
         have NB:Hid (∀ x∈(X9 va L.length vc).ownBlock.toList,N<=x):=fun x hx=>by
          have:=gi O4.out (ZL.1 hx);omega
         clear T b2 f EB
         go_big_region
         go_wp2_with (first|(at_builtin;refine yt rfl _ _ rfl (eQ O4.out (lY (zr _ _) _)) ei rfl rfl ca (Yk ae P) ?_;intro v' w2 o2 k2))
         exact⟨⟨i+1,p.out.1,by go_num,(T4.out.later (lY (zr _ _) _)).new k2 NB.out,Yk (Yk ae P) k2.size,by rw[NX.out];exact o2⟩,by have:=p.out.2;simp[intOf];omega⟩
        .have cp:(tl==t)=XW:=by simp[b2]
         have NX:Hid (((es.take (i+1)).filter (bO t)).map (·.id)=L):=by
          show _=_;rw[f.out,EB.out,S];simp[b2]
         clear T b2 f EB
         go_big_region
         go_wp2_with fail
         exact⟨⟨i+1,p.out.1,by go_num,T4.out.later (lY (zr _ _) _),Yk ae P,by rw[NX.out];exact eQ O4.out (lY (zr _ _) _)⟩,by have:=p.out.2;simp[intOf];omega⟩
      .have ar:i=es.length:=Xz
       subst ar;have au:¬ ((es.length:M):XQ)<(es.length:XQ):=Xz
       rw[List.take_length] at OW ⊢;clear m3 aq hr;obtain⟨L,hL⟩:∃ L,L=(es.filter (bO t)).map (·.id):=⟨_,rfl⟩;have HL:=aC hL;rw[<- hL] at OW ⊢
       have bv:L.length<=60:=by
        have h1:es.length<=60:=I.out.dd.el;have h2:=ZA (bO t) es;rw[hL,ZE];omega
       clear hL;have bz:Hid (∀ b,(X9 va L.length vc).ownBlock=U b->a9.heap.size<=b/\b<wr.heap.size):=fun b A=>⟨gi OW.out A,fe OW.out A⟩
       obtain⟨i0,cg,b9,b8,b7⟩:=info_parts pg
       go_upto_region 20 with fail
       obtain⟨c8,hU⟩:∃ c8,c8=wr:=⟨_,rfl⟩;subst hU;clear cc ad
       go_wp2_with fail
       go_loopw [12,13] (fun vj _ wx=>∃ (j:M) (zs:J (aO × M × M)) (G:J M) (v6:XZ) (c9:M),j<=L.length/\vj=V Yf j/\gy w d F xs tq ⟨s.ts,es.filter (fun e=>!(L.take j).contains e.id),s.given,t⟩ gr (en++L.take j) zs G (X9 a5 gr.length p5) v6 c9 wx/\wx.ownsRow a9.heap.size 3 1 (X9 va L.length vc) L.length (L.map (V Yf))/\(∀ b,(X9 va L.length vc).ownBlock=U b->b ∉ G/\v6.ownBlock≠U b)) (fun vj _ _=>L.length-(intOf vj).toNat)
       case atStart =>
        refine⟨0,ys,F',X9 a6 en.length p6,N,Zd _,rfl,?_,OW.out,fun b A=>⟨fun e=>?_,fun e=>?_⟩⟩
        .simp only[List.take_zero,List.contains_nil,Bool.not_false,List.append_nil];rw[List.filter_eq_self.2 (fun _ _=>rfl)];exact I.out
        .have:=(I.out.hF b e).1;have:=(bz.out b A).1;omega
        .have:=(I.out.a6 b e).1;have:=(bz.out b A).1;omega
       case round =>
        obtain⟨j,zs,G,v6,c9,di,rfl,bj,al,bc⟩:=hrel;have T5:=aC bj;have RW:=aC al;have NE:=aC bc;clear bj al bc;obtain⟨C,B,rfl⟩:=gj T5.out.r6
        by_cases hj:j<L.length
        .have cf:(j:XQ)<(L.length:XQ):=Xz
         obtain⟨g2,cz,e,y⟩:=qz RW.out (k:=j) (u:=V Yf L[j]) (by rw[List.getElem?_map,ZV hj];rfl);simp only[Value.slice.injEq,true_and] at e;obtain⟨rfl,rfl⟩:=e;have WO:=aC (T5.out.dd.mR L[j])
         go_wp2_with fail
         refine WO.out.mono ?_;rintro e w2 ⟨vE,rfl,af,ai⟩;have T6:=aC (T5.out.wo af ai);obtain⟨aE,cE,rfl⟩:=gj af;have D5:=(T5.out.later ai).dd.rd;obtain⟨v0,cm,_⟩:=D5.ev;have ck:=D5.fz 1;have R6:Hid ((w2.setCell ⟨d,1,XU⟩ (X9 aE (gD L[j] zs).length cE)).ownsRow a9.heap.size 3 1 (X9 (U ⟨g2,0,XU⟩) L.length vc) L.length (L.map (V Yf))):=cV (eQ RW.out ai) (aH.bD ..) (fun b A e=>(NE.out b A).1 (by rw[List.mem_singleton.1 e];exact T5.out.dd.rd.dF))
         have ay:Hid (∀ b,(X9 (U ⟨g2,0,XU⟩) L.length vc).ownBlock=U b->b ∉ (X9 aE (gD L[j] zs).length cE).ownBlock.toList++G/\(X9 C (en++L.take j).length B).ownBlock≠U b):=fun b A=>⟨fun e=>by
          rcases Yv.1 e with e|e
          .have:=gi af (ZL.1 e);have:=fe RW.out A;omega
          .exact (NE.out b A).1 e,(NE.out b A).2⟩
         obtain⟨dq,cn,e2,y2⟩:=qz R6.out (k:=j) (u:=V Yf L[j]) (by rw[List.getElem?_map,ZV hj];rfl);simp only[Value.slice.injEq,Option.some.injEq,Addr.mk.injEq,true_and,and_true] at e2;obtain⟨rfl,rfl⟩:=e2;have an:=bG T6.out.kb 6 rfl;have cl:(w2.setCell ⟨d,1,XU⟩ (X9 aE (gD L[j] zs).length cE)).frozen? ⟨w.heap.size+1,6,XU⟩=XW:=by have:=T6.out.kb;simp[Ym,this,rG]
         have b5:Hid (L.take (j+1)=L.take j++[L[j]]):=Zc hj
         have a4:Hid ((en++L.take j).length<=1000):=by
          have:=HK.out.el;rw[Hid,YZ,List.length_take];omega
         obtain⟨K6,aj⟩:∃ K6,K6=(en++L.take j).length:=⟨_,rfl⟩;have ak:=aC aj;rw[<- aj] at an a4;have R5:Hid ((w2.setCell ⟨d,1,XU⟩ (X9 aE (gD L[j] zs).length cE)).ownsRow (w.heap.size+2) 3 1 (X9 C K6 B) K6 ((en++L.take j).map (V Yf))):=by rw[aj];exact T6.out.r6
         have a3:Hid (es.filter (fun e=>!(L.take (j+1)).contains e.id)=(es.filter (fun e=>!(L.take j).contains e.id)).filter (fun e=>e.id != L[j])):=by
          show _=_;rw[b5.out];exact aA.MR ..
         have HJ:Hid (j+1<=L.length/\L.length-(j+1)<L.length-j):=by
          rw[Hid];omega
         have cy:j<100:=Xz
         have ch:w.heap.size+2<=(w2.setCell ⟨d,1,XU⟩ (X9 aE (gD L[j] zs).length cE)).heap.size:=T6.out.hN.1;clear WO y af ai D5 T5 RW NE aj
         go_upto_region 25 with fail
         clear cm ck;generalize YA w2 _ _=Z at *;generalize L[j]=z at *;have zA:∀ o,(Z.alloc o).cell? ⟨w.heap.size+1,6,XU⟩=U (X9 C K6 B):=fun o=>aR ((zr _ _).alloc (zq _) _) an
         have zB:∀ o,(Z.alloc o).drew.cell? ⟨w.heap.size+1,6,XU⟩=U (X9 C K6 B):=zA
         have b4:Hid (w.heap.size+1 ∉ (X9 C K6 B).ownBlock.toList):=fun e=>by
          have:=gi R5.out (ZL.1 e);omega
         go_region_law (first
          |(refine step_append_lies _ rfl (.tmp 119) (.tmp 124) 38 rfl (w.heap.size+2) 3 i0 _ 1 8 underlying38 cg b9 b8 b7 rfl XC (X9 C K6 B) K6 ((en++L.take j).map (V Yf)) rfl (CS (R5.out.alloc _)) ⟨Z.heap.size,0,XU⟩ 1 1 [V Yf z] rfl rfl (ZF (cs:=#[V Yf z]) (cP Z _)) XI Xz (by have:=a4.out;unfold maxLen;omega) (by have:=a4.out;omega) (Yk ch ((zr _ Z).alloc (zq _) _).size) _ rfl ?_;intro g3 c3 w3 o3 k3 bh cx;have kO:aH (X9 C K6 B).ownBlock.toList Z w3:=(((aH.refl _ Z).alloc _).drew).grown k3 (fun k hk=>.inl (by simp[hk]));have s6:=kO.cell b4.out an;have sf:=(kO.frozen (o:=6) b4.out Xz).trans cl))
         all_goals
          go_wp2_with fail
          have HV:Hid (∀ b,(X9 (U ⟨g3,0,XU⟩) (K6+1) c3).ownBlock=U b->(X9 C (en++L.take j).length B).ownBlock=U b\/Z.heap.size<=b):=fun b A=>by
           have e1:g3=b:=by simpa[ZB] using A
           rcases bh with q|q
           .left;rw[<- e1,<- q,ak.out]
           .right;have:(Z.alloc (Yh #[V Yf z] 3)).drew.heap.size=Z.heap.size+1:=XA
            omega
          refine⟨⟨j+1,gD z zs,(X9 aE (gD z zs).length cE).ownBlock.toList++G,X9 (U ⟨g3,0,XU⟩) (K6+1) c3,(w3.setCell ⟨w.heap.size+1,6,XU⟩ (X9 (U ⟨g3,0,XU⟩) (K6+1) c3)).heap.size,HJ.out.1,by go_num,?_,?_,?_⟩,by have:=HJ.out.2;simp[intOf];omega⟩
          .rw[a3.out,b5.out,<- YU];exact T6.out.DH (l:=[z]) (by rw[YZ,<- ak.out,Zl];exact o3) (by rw[<- ak.out];exact kO) HV.out
          .exact cV (cV R6.out kO (fun b A e=>(ay.out b A).2 (by rw[<- ak.out];exact ZL.1 e))) (aH.bD ..) (fun b A e=>by
            have:=gi R6.out A;have:=List.mem_singleton.1 e;have:=cq.out
            omega)
          .intro b A;refine⟨(ay.out b A).1,fun e=>?_⟩;rcases HV.out b e with q|q
           .exact (ay.out b A).2 q
           .have:=fe R6.out A;omega
        .have cd:j=L.length:=Xz
         subst cd;have cf:¬ ((L.length:M):XQ)<(L.length:XQ):=Xz
         rw[List.take_length] at T5
         have a3:Hid (es.filter (fun e=>!L.contains e.id)=es.filter fun e=>!bO t e):=by
          show _=_;rw[HL.out];exact aA.MD (fun e:aO=>e.id) (bO t) (HK.out.iv.ids.imp (fun h=>by omega))
         rw[a3.out] at T5;have GR:=aC (Gt T5.out.dd)
         go_wp2_with fail
         refine GR.out.mono ?_;rintro e w3 ⟨v5,rfl,h5,⟨ba,bs,bu⟩,av⟩;have T6:=aC (T5.out.own av bs bu);obtain⟨gs,ag⟩:∃ gs,gs=(dB s.ts (es.filter fun e=>!bO t e)).2:=⟨_,rfl⟩;have cw:=aC ag;have ax:w3.ownsRow wr.heap.size 3 1 v5 gs.length (gs.map (V Yf)):=by rw[ag];exact h5
         have dn:gs.length<=60:=by
          have h1:=aA.zy s.ts (es.filter fun e=>!bO t e);have h2:=ZA (fun e=>!bO t e) es;have h3:=HK.out.el;rw[ag];omega
         have dm:gr.length<=3660:=by have:=HK.out.gl;omega
         clear h5 ag;obtain⟨a7,p7,rfl⟩:=gj ax;have n3:dY w3 (w.heap.size+2) (fun _=>XU) (X9 a5 gr.length p5) gr:=⟨T6.out.r5,fun _ _=>rfl⟩;have dh:=T5.out.hN;have n5:dY w3 (w.heap.size+2) (fun _=>XU) (X9 a7 gs.length p7) gs:=⟨tJ ax Xz,fun _ _=>rfl⟩;have db:=av.size;obtain⟨v8,w4,aa,n8,ac,bi⟩:=n3.append n5 Xz (fun _ _=>rfl) Xz;obtain⟨a8,p8,rfl⟩:=gj n8.own;have k4:aH (X9 a5 gr.length p5).ownBlock.toList w3 w4:=(aH.refl _ w3).grown ac (fun k hk=>.inl (by simp[hk]))
         have az:w.heap.size+1 ∉ (X9 a5 gr.length p5).ownBlock.toList:=fun e=>by
          have:=gi T6.out.r5 (ZL.1 e);omega
         have b6:=bG T6.out.kb 5 rfl;have s5:=k4.cell az b6
         have dr:w4.frozen? ⟨w.heap.size+1,5,XU⟩=XW:=by
          refine (k4.frozen (o:=5) az Xz).trans ?_;have:=T6.out.kb;simp[Ym,this,rG]
         have T7:=aC (T6.out.DI (l:=gs) n8.own k4 (fun b A=>by
          rcases bi with q|q
          .exact .inl (q ▸ A)
          .rw[q] at A;simp only[Option.some.injEq] at A
           exact .inr Xz))
         obtain⟨N8,aw⟩:∃ N8,N8=(gr++gs).length:=⟨_,rfl⟩;rw[<- aw] at aa;have HR:=aC aa;obtain⟨ao,k2,bq⟩:=HK.out.step bf Xz cr.out
         have cv:Hid (vJ s tq (dB s.ts (es.filter fun e=>!bO t e)).1 t (gr++gs) (en++L) k2):=by
          rw[cw.out,HL.out];exact bq
         have T8:Hid (gy w d F xs tq ⟨s.ts,(dB s.ts (es.filter fun e=>!bO t e)).1,s.given,t⟩ (gr++gs) (en++L) ba G (X9 a8 N8 p8) (X9 C (en++L).length B) (w4.setCell ⟨w.heap.size+1,5,XU⟩ (X9 a8 N8 p8)).heap.size (w4.setCell ⟨w.heap.size+1,5,XU⟩ (X9 a8 N8 p8))):=by
          rw[aw];exact T7.out
         have cu:Hid ((tq-t).toNat<(tq-now).toNat):=by
          rw[Hid];omega
         clear bq T7 n3 n5 ac bi k4 az aa aw n8 av bs bu ax
         go_wp2_with (first|(at_builtin;refine Hz rfl _ _ 38 _ rfl (HR.out _) ?_))
         refine⟨⟨_,t,_,_,k2,ba,G,_,_,_,T8.out,cv.out⟩,?_⟩
         have e8:vW (w4.setCell ⟨w.heap.size+1,5,XU⟩ (X9 a8 N8 p8)) d=t:=by
          unfold vW;rw[T8.out.dd.rd.c3];rfl
         rw[e8,ct.out];exact cu.out
  .have ao:now=tq:=by have:=HK.out.nt;omega
   have HF:Hid (ec w d F xs (aV s (.tick n)) (Yg (bJ 0 0 tq aT aT (X9 a5 gr.length p5) (X9 a6 en.length p6))) (cR wr w.heap.size (V Yf 0) (V Yf 0) (V Yf tq) aT aT (X9 a5 gr.length p5) (X9 a6 en.length p6))):=by
    have e:=HK.out.eq;rw[aA.MY bf] at e;rw[HD.out,e,<- ao];simp only[List.append_nil];have:=HT.out.tU (V Yf 0) (V Yf 0) (V Yf now) aT aT (X9 a5 gr.length p5) (X9 a6 en.length p6);rw[<- ao] at this;exact this
   obtain⟨q0,q1,q2,q3,q4,q5,q6,fq⟩:=Q7.of HT.out.kq;have kb:=HT.out.kb;have D:=bG kb 0 rfl;have r1:=bG kb 1 rfl;have r2:=bG kb 2 rfl;have r3:=bG kb 3 rfl;have r4:=bG kb 4 rfl;have r5:=bG kb 5 rfl;have r6:=bG kb 6 rfl;clear kb
   go_wp2_with fail
   exact cL results176 ⟨q0,q1,q2,q3,q4,q5,q6,fq⟩ HF.out
open aA (aO St bI aV lC gd)
theorem O8{α:Type}(fs:J XQ)(ys:J α)(h:fs.length=ys.length):∃ zs:J α,zs.length=ys.length/\∀ (i:M)(o:i<ys.length),zs[cZ.lz fs i]?=U ys[i]:=by
 have f:∀ p:Fin ys.length,∃ i,i<ys.length/\cZ.lz fs i=p.1:=fun p=>by
  let⟨i,h1,a⟩:=cZ.yS fs (k:=p.1) (by rw[h];exact p.2);exact⟨i,Xz,a⟩
 refine⟨List.ofFn fun p:Fin ys.length=>ys[Classical.choose (f p)]'(Classical.choose_spec (f p)).1,by simp,fun i o=>?_⟩;have j:cZ.lz fs i<ys.length:=by rw[<- h];exact cZ.BI fs Xz
 rw[List.getElem?_ofFn,dif_pos j,Option.some.injEq];have a:=Classical.choose_spec (f ⟨cZ.lz fs i,j⟩);have e:=cZ.BS (fs:=fs) (by rw[h];exact a.1) Xz a.2;simp only[e]
def qw(cs:Array XZ)(p:M)(a b c d e f:XZ):Array XZ:=(((((cs.setIfInBounds (p*6) a).setIfInBounds (p*6+1) b).setIfInBounds (p*6+2) c).setIfInBounds (p*6+3) d).setIfInBounds (p*6+4) e).setIfInBounds (p*6+5) f
theorem Om(cs:Array XZ)(p:M)(a b c d e f:XZ)(i:p*6+5<cs.size)(q j:M)(o:j<6):(qw cs p a b c d e f)[q*6+j]?=if q=p then [a,b,c,d,e,f][j]? else cs[q*6+j]?:=by
 unfold qw
 by_cases h:q=p
 .subst h;rw[XS rfl];rcases (show j=0\/j=1\/j=2\/j=3\/j=4\/j=5 by omega) with rfl|rfl|rfl|rfl|rfl|rfl
  all_goals
   simp only[Array.getElem?_setIfInBounds,Array.size_setIfInBounds];simp
   try omega
 .rw[XR h];simp only[Array.getElem?_setIfInBounds,Array.size_setIfInBounds];rw[XR Xz,XR Xz,XR Xz,XR Xz,XR Xz,XR Xz]
theorem O7(cs:Array XZ)(p:M)(a b c d e f:XZ):(qw cs p a b c d e f).size=cs.size:=by simp[qw]
theorem O6{cs:Array XZ}{t:TypeId}{m:M × M}(h:W.heap[O]?=U (Yh cs t m))(p:M)(a b c d e f:XZ):((((((W.setCell (O,p*6) a).setCell (O,p*6+1) b).setCell (O,p*6+2) c).setCell (O,p*6+3) d).setCell (O,p*6+4) e).setCell (O,p*6+5) f).heap[O]?=U (Yh (qw cs p a b c d e f) t m) :=
 mc (mc (mc (mc (mc (mc h a) b) c) d) e) f
theorem oO.off{wr:XY}{ys:J (aO × M × M)}(h:oO w wr v ys)(k:aH [O] wr wx)(i:wr<=O):oO w wx v ys:=by
 refine⟨cV h.own k (fun b a e=>by have:=fe h.own a;simp at e;omega),fun y f=>?_,⟨k.os.trans h.bw.os,k.tape.trans h.bw.tape,k.output.trans h.bw.output,Yk h.bw.size k.size,fun b a=>(k.block b (zL a h.bw.size) (fun e=>by have:=h.bw.size;simp at e;omega)).trans (h.bw.block b a)⟩⟩;let⟨y1,y2,y3,y4⟩:=h.sl y f;exact⟨y1.off k XG,y2,Zg y3 k.size,y4⟩
theorem GZ{xs:J (aO × M × M)}(h:DD w d s xs F)(bi:aA.dL s.es)(name:XK)(fr til:XQ):
  X4 prog 235 #[X8 (U ⟨d,0,XU⟩),Ya name,V Y fr,V Y til] w fun e w'=>∃ v,e=Yg v/\qC w v (aA.lO name fr til s.es) w':=by
 obtain⟨i0,bz,bn,bm,bj⟩:=info_parts yK;have H:=aC h;have cj:=h.len;have cv:=h.el;clear h
 go_in
 go_wp2_with fail
 go_loopw [9,10,11,12] (fun v i _ _ wx=>∃ k:M,k<=xs.length/\i=V Y k/\∃ ys,oO w wx v ys/\ys.length<=k/\(∀ y∈ys,EB y.1)/\ys.map (·.1)=((xs.take k).map (·.1)).filter (lC name fr til)) (fun _ i _ _ _=>xs.length-(intOf i).toNat)
 case atStart=>exact⟨0,Zd _,rfl,[],⟨ZD _ _ _ _,by simp,Below.refl _ _⟩,by simp,by simp,by simp⟩
 case round =>
  obtain⟨k,hk,rfl,ys,hR,cp,af,aa⟩:=hrel;have hD:=H.out.later hR.bw;obtain⟨a,cap,E,hr⟩:=hD.er;have cc:=hr.c;have HR:=aC (Yz hR (Yz aa af))
  by_cases ag:k<xs.length
  .obtain rfl:=hr.a k ag;have f:=hr.r k ag;have c0:=f.c0;have c1:=f.c1;have c2:=f.c2;have c3:=f.c3;have c4:=f.c4;have c5:=f.c5;have D:(k:XQ)<(xs.length:XQ):=Xz
   have aj:=H.out.en xs[k].1 (H.out.es ▸ Zh.2 ⟨_,List.getElem_mem ag,rfl⟩);have hX:X0 wr.heap.size wr (wr.alloc (iY xs[k])):=(zr _ _).alloc (zq _) _;have hE:(wr.alloc (iY xs[k])).heap[wr.heap.size]?=U (iY xs[k]):=cP _ _
   have ht:(xs.take (k+1)).map (·.1)=(xs.take k).map (·.1)++[xs[k].1]:=by rw[Zc ag,Zl];rfl
   have HT:=aC ht;have RX:=aC (Yz (hR.later hX) (Yz (f.sl.later hX) (Yz aj hX)));have a9:0<xs[k].1.aQ.length/\xs[k].1.aQ.length<=1000:=⟨List.length_pos_iff.2 aj.s0,by have:=aj.sl;omega⟩;have FA:=aC (Cd xs[k] fr til _ RX.out.2.1 Xz)
   have a8:lC name fr til xs[k].1=XW->ys.map (·.1)=((xs.take (k+1)).map (·.1)).filter (lC name fr til):=fun h=>by rw[ht,YJ,aa];simp[h]
   have ST:=aC a8
   go_upto_region 6 with fail
   change Code.wp _ _ _ _ (wr.alloc (iY xs[k]));have f0:=sg hE;have f1:=rZ hE;have f2:=tC hE;have f3:=tD hE;have f4:=tF hE;have f5:=sb hE;have hN:wr.heap.size<(wr.alloc (iY xs[k])).heap.size:=XA
   clear hR aa af hD hr f ht aj hX c0 c1 c2 c3 c4 c5 cc a8;generalize wr.alloc (iY xs[k])=X at *
   go_wp2_with fail
   refine FA.out.mono ?_;rintro e w4 ⟨rfl,A⟩;have bb:=(A.block wr.heap.size hN).trans hE;have R4:=aC (Yz (RX.out.1.later A) (RX.out.2.1.later A));have f0:=sg bb;have f1:=rZ bb;have f2:=tC bb;have f3:=tD bb;have f4:=tF bb;have f5:=sb bb;have ak:Hid (lC name fr til xs[k].1=((xs[k].1.bA.toList==name.toList) && (xs[k].1.kind != 3) && decide (0<=gd fr til xs[k].1.aQ))):=rfl;generalize gd fr til xs[k].1.aQ=ff at *;clear A FA hE
   have bf:lC name fr til xs[k].1=XW->∃ ae:M,ae<=xs.length/\(V Y ((k:XQ)+1))=V Y ae/\∃ ys,oO w w4 u9 ys/\ys.length<=ae/\(∀ y∈ys,EB y.1)/\ys.map (·.1)=((xs.take ae).map (·.1)).filter (lC name fr til) :=
    fun h=>⟨k+1,by omega,rfl,ys,R4.out.1,by omega,HR.out.2.2,ST.out h⟩
   have NO:=aC bf;clear bf
   cases q1:(xs[k].1.bA.toList==name.toList)
   .have N1:=aC (NO.out (by rw[ak.out,q1];rfl))
    go_wp2
    go_roundw
    case rel=>exact N1.out
    case measure=>simp[intOf];omega
   .cases q2:(xs[k].1.kind != 3)
    .have N1:=aC (NO.out (by rw[ak.out,q2];simp))
     go_wp2
     go_roundw
     case rel=>exact N1.out
     case measure=>simp[intOf];omega
    .by_cases q3:0<=ff
     .have S1:Hid (lC name fr til xs[k].1=XX):=by show _=_;rw[ak.out,q1,q2];simpa using q3
      have CP:=aC (Pn xs[k] w4 R4.out.2 a9.1 a9.2)
      go_wp2_with fail
      refine CP.out.mono ?_;rintro e w5 ⟨gq,cq,rfl,a1,a2,a3,K⟩;simp only[eH];have R5:=aC (R4.out.1.later K);have bg:u9.ownBlock≠U gq:=fun e=>by have:=fe R4.out.1.own e;omega
      have Q5:=aC (Yz a1 (Yz (Yk R4.out.1.bw.size a2) (Yz a3 bg)));have b7:=R5.out.bw.size;clear K a1 a2 a3 bg f0 f1 f2 f3 f4 f5 CP q1 q2 bb
      go_wp2_with (first|(at_builtin;refine Nw rfl _ _ rfl R5.out.own (xs[k].1,gq,cq) rfl rfl Xz b7 ?_;intro g6 c6 w6 bc k6 aq))
      have R6:=aC (R5.out.snoc Q5.out bc k6 aq);clear bc k6 aq;go_roundw
      case rel =>
       refine⟨k+1,by omega,by go_num,_,R6.out,by simp;omega,fun y hy=>?_,by rw[Zl,HR.out.2.1,HT.out,YJ];simp[S1.out]⟩;rcases Yv.1 hy with hy|hy
       .exact HR.out.2.2 y hy
       .have:y=(xs[k].1,gq,cq):=by simpa using hy
        subst this;exact RX.out.2.2.1
      case measure=>simp[intOf];omega
     .have N1:=aC (NO.out (by rw[ak.out];simp;omega))
      go_wp2
      go_roundw
      case rel=>exact N1.out
      case measure=>simp[intOf];omega
  .have e:xs.take k=xs:=Ze Xz;have D:¬ (k:XQ)<(xs.length:XQ):=Xz
   have b5:ys.map (·.1)=s.es.filter (lC name fr til):=by rw[aa,e,H.out.es]
   have cn:ys.length<=60:=Xz
   obtain⟨ay,cy,rfl⟩:=gj hR.own;have u:=aC (Yz hR (Yz b5 af));clear hR aa af hD hr e HR
   by_cases S:ys.length=0
   .have h0:ys=[]:=Y6.1 S
    have HF:Hid (qC w aT (aA.lO name fr til s.es) wr):=by
     refine⟨[],[],?_,fun w2 _=>EV.nil w2,by simp,u.out.1.bw⟩;have:=u.out.2.1;rw[h0] at this;unfold aA.lO;rw[<- this];rfl
    have bq:((ys.length:XQ)==0)=XX:=by simp[S]
    go_wp2
    go_ret;exact⟨_,rfl,HF.out⟩
   .have bq:((ys.length:XQ)==0)=XW:=by simp[S]
    have bh:0<ys.length:=Xz
    have av:=run_make (P:=prog) wr 34 58 i0 _ underlying34 bz bn .i64 .i64 ys.length ys.length Xz (Int.le_refl _) (by rw[bj];omega) Xz;simp only[Int.toNat_natCast] at av;obtain⟨C,ad⟩:∃ C,C=madeCells (Value.agg #[V Y 0,V Y 0,Ya ⟨#[]⟩,V Y 0,X9 XU 0 0,V Y 0]).cells (ys.length*i0.size):=⟨_,rfl⟩;rw[<- ad] at av;have b6:C.size=ys.length*6:=by rw[ad,size_madeCells,bm]
    clear ad;obtain⟨a',cm,gl,he,_,ha,_⟩:=yN u.out.1.own (fun y hy=>(u.out.1.sl y hy).1);simp only[Value.slice.injEq,true_and] at he;obtain⟨rfl,rfl⟩:=he;obtain rfl:=ha (by intro e;simp[e] at bh)
    have al:Hid (∀ wx,aH [wr.heap.size] wr wx->∀ (i:M) (D:i<ys.length),RE wx gl i ys[i].1 ys[i].2.1 ys[i].2.2):=fun wx k=>by
     have R:=u.out.1.off k (zq _);obtain⟨a2,c2,g2,he,_,b8,bs⟩:=yN R.own (fun y hy=>(R.sl y hy).1);have:=b8 (by intro e;simp[e] at bh);simp only[Value.slice.injEq,this,Option.some.injEq,Addr.mk.injEq] at he;obtain⟨⟨rfl,_⟩,_⟩:=he;exact bs
    obtain⟨fs,aw⟩:∃ fs,fs=aA.oP fr til (ys.map (·.1)):=⟨_,rfl⟩
    have FS:Hid (fs.length=ys.length/\∀ (i:M) (D:i<ys.length),fs.getD i 0=gd fr til ys[i].1.aQ):=by
     rw[aw];refine⟨by simp[aA.oP],fun i D=>?_⟩;rw[aA.Cg (by simpa using D)];simp
    have cg:=aC aw;have YE:Hid (∀ (i:M) (D:i<ys.length),ys[i].1.aQ.length<=1000):=fun i D=>by have:=(u.out.2.2 ys[i] (zg D)).sl;omega
    clear aw ha
    go_upto_region 12 with fail
    have hO:=cP wr (Yh C 58);have kO:aH [wr.heap.size] wr (wr.alloc (Yh C 58)):=(aH.refl _ _).alloc _;have OO:=aC (Yz kO hO);clear av kO hO cc;generalize wr.alloc (Yh C 58)=Wo at *;have b4:gl<wr.heap.size:=fe u.out.1.own rfl;obtain⟨O,az⟩:∃ O,O=wr.heap.size:=⟨_,rfl⟩;rw[<- az] at OO al b4 ⊢;have a4:=aC az;clear az;obtain⟨W1,b9⟩:∃ W1,W1=wr:=⟨_,rfl⟩;subst b9
    go_wp2_with fail
    go_loopw [14,15,16,17,18] (fun i _ _ _ _ wx=>∃ j:M,j<=ys.length/\i=V Y j/\∃ cs,aH [O] W1 wx/\wx.heap[O]?=U (Yh cs 58)/\cs.size=ys.length*6/\∀ (j':M) (_:j'<j) (hl:j'<ys.length) (c:M),c<6->cs[cZ.lz fs j'*6+c]?=(eH ys[j'])[c]?) (fun i _ _ _ _ _=>ys.length-(intOf i).toNat)
    case atStart=>exact⟨0,Zd _,rfl,C,OO.out.1,OO.out.2,b6,fun j' h=>by omega⟩
    case round =>
     obtain⟨j,hj,rfl,cs,o,t,ab,x⟩:=hrel;have HC:=aC (Yz o (Yz t (Yz ab x)))
     by_cases I:j<ys.length
     .have f:=al.out _ o j I;have c0:=f.c0;have c1:=f.c1;have c2:=f.c2;have c3:=f.c3;have c4:=f.c4;have c5:=f.c5;have bv:(j:XQ)<(ys.length:XQ):=Xz
      have FA:=aC (Cd ys[j] fr til _ f.sl (by have:=YE.out j I;omega));have FJ:=FS.out.2 j I;rw[<- FJ] at FA;clear o t ab x f FJ
      go_wp2_with fail
      refine FA.out.mono ?_;rintro e w4 ⟨rfl,A⟩;have H4:Hid (aH [O] W1 w4/\w4.heap[O]?=U (Yh cs 58)):=⟨HC.out.1.trans (aH.aD A),(A.block _ (Array.getElem?_eq_some_iff.1 HC.out.2.1).1).trans HC.out.2.1⟩;obtain⟨fj,ax⟩:∃ fj,fj=fs.getD j 0:=⟨_,rfl⟩;rw[<- ax];have ch:=aC ax;clear A FA c0 c1 c2 c3 c4 c5 ax
      go_wp2_with fail
      go_loopw [15,17,18] (fun at_ i _ wx=>∃ q:M,q<=ys.length/\i=V Y q/\at_=V Y (cZ.upto fs j q:M)/\aH [O] W1 wx/\wx.heap[O]?=U (Yh cs 58)) (fun _ i _ _=>ys.length-(intOf i).toNat)
      case atStart=>exact⟨0,Zd _,rfl,rfl,H4.out⟩
      case round =>
       obtain⟨q,hq,rfl,rfl,o,t⟩:=hrel;have cr:=cZ.BJ fs j q
       by_cases au:q<ys.length
       .have f:=al.out _ o q au;have c0:=f.c0;have c1:=f.c1;have c2:=f.c2;have c3:=f.c3;have c4:=f.c4;have c5:=f.c5;have bu:(q:XQ)<(ys.length:XQ):=Xz
        have FA:=aC (Cd ys[q] fr til _ f.sl (by have:=YE.out q au;omega));have FJ:=FS.out.2 q au;rw[<- FJ] at FA;have UP:Hid (cZ.upto fs j (q+1)=cZ.upto fs j q+if cZ.before fs q j then 1 else 0):=cZ.wL fs j q;have BF:Hid (cZ.before fs q j=(decide (fs.getD q 0<fj) || (decide (fs.getD q 0=fj) && decide (q<j)))):=by show _=_;rw[ch.out];rfl
        have HO:=aC (Yz o t);clear o t f FJ
        go_wp2_with fail
        refine FA.out.mono ?_;rintro e w5 ⟨rfl,K⟩;have H5:Hid (aH [O] W1 w5/\w5.heap[O]?=U (Yh cs 58)):=⟨HO.out.1.trans (aH.aD K),(K.block _ (Array.getElem?_eq_some_iff.1 HO.out.2).1).trans HO.out.2⟩;generalize fs.getD q 0=fq at *;generalize cZ.upto fs j q=uq at *;clear K FA c0 c1 c2 c3 c4 c5;have an:cZ.before fs q j=XX->∃ B:M,B<=ys.length/\(V Y ((q:XQ)+1))=V Y B/\(V Y ((uq:XQ)+1))=V Y (cZ.upto fs j B:M)/\aH [O] W1 w5/\w5.heap[O]?=U (Yh cs 58):=fun h=>⟨q+1,by omega,rfl,by rw[UP.out,h];rfl,H5.out⟩
        have ao:cZ.before fs q j=XW->∃ B:M,B<=ys.length/\(V Y ((q:XQ)+1))=V Y B/\(V Y (uq:XQ))=V Y (cZ.upto fs j B:M)/\aH [O] W1 w5/\w5.heap[O]?=U (Yh cs 58):=fun h=>⟨q+1,by omega,rfl,by rw[UP.out,h];rfl,H5.out⟩
        have HY:=aC an;have HN:=aC ao;clear an ao
        by_cases a1:fq<fj
        .have Y1:=aC (HY.out (by rw[BF.out];simp[a1]))
         go_wp2
         go_roundw
         case rel=>exact Y1.out
         case measure=>simp[intOf];omega
        .by_cases a2:fq=fj
         .have cf:(fq==fj)=XX:=by simpa using a2
          by_cases a3:q<j
          .have Y1:=aC (HY.out (by rw[BF.out];simp[a2,a3]));have cd:(q:XQ)<(j:XQ):=Xz
           clear a2
           go_wp2
           go_roundw
           case rel=>exact Y1.out
           case measure=>simp[intOf];omega
          .have Y1:=aC (HN.out (by rw[BF.out];simp[a1,a3]));have cd:¬ (q:XQ)<(j:XQ):=Xz
           clear a2
           go_wp2
           go_roundw
           case rel=>exact Y1.out
           case measure=>simp[intOf];omega
         .have cf:(fq==fj)=XW:=by simpa using a2
          have Y1:=aC (HN.out (by rw[BF.out];simp[a1,a2]));clear a2
          go_wp2
          go_roundw
          case rel=>exact Y1.out
          case measure=>simp[intOf];omega
       .have e:cZ.upto fs j q=cZ.lz fs j:=by unfold cZ.lz;rw[FS.out.1,show q=ys.length by omega]
        have bu:¬ (q:XQ)<(ys.length:XQ):=Xz
        have ba:=cZ.BI fs (i:=j) (by rw[FS.out.1];exact I);rw[FS.out.1] at ba;rw[e];have f:=al.out _ o j I;have c0:=f.c0;have c1:=f.c1;have c2:=f.c2;have c3:=f.c3;have c4:=f.c4;have c5:=f.c5;have ab:=HC.out.2.2.1;have cu:(j:XQ)<(ys.length:XQ):=Xz
        obtain⟨p,hp⟩:∃ p,p=cZ.lz fs j:=⟨_,rfl⟩;rw[<- hp] at ba ⊢;have HP:=aC hp;have ct:(p:XQ)<(ys.length:XQ):=Xz
        have oc:∀ c,c<6->∃ v,wr.cell? ⟨O,p*6+c,XU⟩=U v:=fun c hc=>by
         have h9:p*6+c<cs.size:=Xz
         exact⟨cs[p*6+c],by simp[YF,t,h9]⟩
        obtain⟨v0,o0⟩:=oc 0 Xz;obtain⟨v1,o1⟩:=oc 1 Xz;obtain⟨v2,o2⟩:=oc 2 Xz;obtain⟨v3,o3⟩:=oc 3 Xz;obtain⟨v4,o4⟩:=oc 4 Xz;obtain⟨v5,o5⟩:=oc 5 Xz;rw[Nat.add_zero] at o0;have of:=wq t;have ck:gl≠O:=by have:=a4.out;omega
        have HO:=aC (Yz o t);clear o t f hp oc e ab
        go_wp2
        go_roundw
        case rel =>
         refine⟨j+1,by omega,by go_num,qw cs p (V Y ys[j].1.id) (V Y ys[j].1.kind) (Ya ys[j].1.bA) (V Y ys[j].1.aM) (X9 (U ⟨ys[j].2.1,0,XU⟩) ys[j].1.aQ.length ys[j].2.2) (V Y ys[j].1.bP),((((((HO.out.1.setCell (.inl XA) _ _).setCell (.inl XA) _ _).setCell (.inl XA) _ _).setCell (.inl XA) _ _).setCell (.inl XA) _ _).setCell (.inl XA) _ _),O6 HO.out.2 p _ _ _ _ _ _,by rw[O7];exact HC.out.2.2.1,fun j' h1 h2 c h3=>?_⟩;rw[Om _ _ _ _ _ _ _ _ (by have:=HC.out.2.2.1;omega) _ _ h3]
         by_cases e1:j'=j
         .subst e1;rw[HP.out,XS rfl];rfl
         .rw[XR,HC.out.2.2.2 j' Xz h2 c h3];intro e2;rw[HP.out] at e2;exact e1 (cZ.BS (fs:=fs) (by rw[FS.out.1];exact h2) (by rw[FS.out.1];exact I) e2)
        case measure=>simp[intOf];omega
     .have bv:¬ (j:XQ)<(ys.length:XQ):=Xz
      have HF:Hid (qC w (X9 (U ⟨O,0,XU⟩) ys.length ys.length) (aA.lO name fr til s.es) wr):=by
       obtain⟨zs,a7,ar⟩:=O8 fs ys FS.out.1;have R:=u.out.1.off o (by rw[a4.out];exact zq _)
       have ac:∀ z∈zs,z∈ys:=fun z S=>by
        obtain⟨p,hp,rfl⟩:=List.getElem_of_mem S;obtain⟨i,D,e⟩:=cZ.yS fs (k:=p) (by rw[FS.out.1];omega);have:=ar i (by rw[<- FS.out.1];exact D);rw[e,ZV hp,Option.some.injEq] at this;rw[this];exact zg _
       have ca:O<wr.heap.size:=(Array.getElem?_eq_some_iff.1 t).1;have T:=NU (w:=w) (w':=wr) (g:=O) (cap:=ys.length) (a:=U ⟨O,0,XU⟩) (zs:=zs) (fun _=>rfl) (fun p hp=>?_) (fun _=>⟨by have:=u.out.1.bw.size;have:=a4.out;omega,ca⟩) (fun z S=>⟨(R.sl z (ac z S)).2.1,(R.sl z (ac z S)).2.2.1⟩) R.bw
       .rw[a7] at T;have e1:=aA.J1 (name:=name) (a:=fr) (b:=til) (es:=s.es) (out:=zs.map (·.1)) bi
        obtain⟨p1,p2⟩:=aA.Pf (a:=fr) (b:=til) (l:=ys.map (·.1)) (out:=zs.map (·.1)) (by rw[u.out.2.1];exact aA.xQ _ bi) (by simp[a7]) (fun i D=>by
         have ai:i<ys.length:=by simpa using D
         rw[<- cg.out,List.getElem?_map,ar i ai];simp)
        rw[e1 p1 (fun e=>by rw[p2 e,u.out.2.1])] at T;exact T
       .obtain⟨i,D,e⟩:=cZ.yS fs (k:=p) (by rw[FS.out.1];omega);have ai:i<ys.length:=by rw[<- FS.out.1];exact D
        have S:=ar i ai;rw[e,ZV hp,Option.some.injEq] at S
        have cl:∀ c,c<6->wr.cell? ⟨O,p*6+c,XU⟩=(eH zs[p])[c]?:=fun c hc=>by
         have:=x i Xz ai c hc;rw[e] at this;rw[S,<- this];simp[YF,t]
        exact⟨cl 0 Xz,cl 1 Xz,cl 2 Xz,cl 3 Xz,cl 4 Xz,cl 5 Xz,(R.sl zs[p] (ac _ (zg hp))).1⟩
      clear o t ab x
      go_wp2
      go_ret;exact⟨_,rfl,HF.out⟩
theorem DD.mU{X:XY}{xs:J (aO × M × M)}(h:DD w d s xs F)(r:X0 w w X)(T:qC X v es Z)(E:w<=Q)(B:Q<X)(a b c e f g i:XZ):ec w d F xs (s,{ bI.num 0 with entries:=es }) (Yg (bJ 0 0 0 v aT aT aT)) (cR Z Q a b c e f g i):=by
 obtain⟨l,G,A,C,q,z⟩:=T;have o:=lQ Z Q a b c e f g i;have kw:X0 w.heap.size w Z:=bM r z aI;have t:∀ x,x<w.heap.size->x ∉ [Q]:=fun x j e=>by simp at e;omega
 have p:∀ x∈G,x ∉ [Q]:=fun x j e=>by have:=(q x j).1;simp at e;omega
 refine⟨v,aT,aT,aT,xs,F,G,rfl,fun y u=>⟨⟨l,C y (fun x j=>(u x j).trans (o.block x (q x j).2 (p x j))),A⟩,NV.nil _,NV.nil _⟩,ZD _ _ _ _,(h.later kw).off o (fun x j=>t x (h.lt x j)) (fun x j=>t _ (h.rd.sp x j).2.2),fun _ j=>.inl j,(aH.aD kw).trans' o (fun x j=>.inr (by simp at j;omega)),fun x j=>?_,fun x j=>by simp[ZB] at j,fun x j=>.inl ⟨x,j,rfl⟩⟩;have D:=q x j;have u:=r.size;exact⟨Xz,Zg D.2 o.size,fun e=>by have:=h.lt x e;omega,by simp[ZB]⟩
theorem qC.bw(h:qC w v es w'):X0 w w w':=by let⟨_,_,_,_,_,k⟩:=h;exact k
theorem qC.form(h:qC w v es w'):∃ a cap,v=X9 a es.length cap:=by
 let⟨l,G,hl,hE,_⟩:=h;let⟨a,c,e⟩:=(hE w' (fun _ _=>rfl)).form;exact⟨a,c,by rw[<- hl,ZE];exact e⟩
def Bb(b:XN)(name:XK)(fr til:XQ):aA.gn:=if b then .list name fr til else .dN name fr til
def Nb(w:XY)(g n:M)(b:XN)(fr til:XQ):Prop:=(n=2/\b=XX/\fr=0/\til=1048320)\/(3<n/\∃ t u:XK,t.size<=160/\u.size<=160/\w.cell? (g,2)=U ↑t/\w.cell? (g,3)=U ↑u/\dX t=fr/\dX u=til)
theorem B8{xs:J (aO × M × M)}(h:DD w d s xs F)(S:aA.dL s.es){b:XN}{til:XQ}(hb:(kw.toList==[108,105,115,116])=b)(hn:1<n)(ht:Nb w g n b fr til)(h0:w.cell? (g,0)=U ↑kw)(h1:w.cell? (g,1)=U ↑name):
  X4 prog 177 #[d,X9 g n c] w (ec w d F xs (aV s (Bb b name fr til))):=by
 have a:=aC ((KP.nil w).alloc bB);have H:=aC h;have i0:(0:XQ)<(n:XQ):=Xz
 have i1:(1:XQ)<(n:XQ):=Xz
 have y0:=aR a.bl h0;have y1:=aR a.bl h1;have E:w<(w.alloc bB).heap.size:=XA
 have P:Hid (aV s (Bb b name fr til)=if aA.bW name s.ts=0 then (s,.error 3) else if til<=fr then (s,.error 6) else if b then (s,{ bI.num 0 with entries:=aA.lO name fr til s.es }) else (s,.num (aA.mQ name s.es fr til))):=by
  show _=_
  cases b <;> rfl
 clear h
 go_in
 go_upto_region 1 with fail
 change Code.wp _ _ _ _ (w.alloc bB);generalize w.alloc bB=X at *;generalize aV s (Bb b name fr til)=D at *;rcases ht with ⟨rfl,rfl,rfl,rfl⟩|⟨h3,t,u,zt,zu,ct,cu,rfl,rfl⟩
 .have R:=aC (H.later a.bl);have UN:=aC (R.aM name);have LS:=aC (GZ R S name 0 1048320);have K:=aC (Q7.of (a.kb (w,bB) XA));generalize aA.bW name s.ts=un at *
  go_wp21
  refine UN.mono ?_;rintro e w3 ⟨rfl,rfl⟩
  by_cases f:un=0
  .have A:Hid (ec w d F xs D (Yg (bJ 3 0 0 aT aT aT aT)) (cR w3 w (V Y 3) (V Y 0) (V Y 0) aT aT aT aT)):=by
    show ec w d F xs _ _ _;rw[P,XS f];exact H.said a.bl aI 3 0 _ _ _ _ _ _ _
   have I:(un==0)=XX:=by simpa using f
   obtain⟨y,x,r,p,o,j,i,z⟩:=K;clear f
   go_wp21
   exact cL results177 ⟨y,x,r,p,o,j,i,z⟩ A
  .have I:(un==0)=XW:=by simpa using f
   have E9:Hid (D=(s,{ bI.num 0 with entries:=aA.lO name 0 1048320 s.es })):=by show _=_;rw[P,XR f];rfl
   clear f
   go_wp21
   refine LS.mono ?_;rintro e w4 ⟨v,rfl,B⟩;obtain⟨al,cl,hv⟩:=B.form
   have A:Hid (ec w d F xs D (Yg (bJ 0 0 0 v aT aT aT)) (cR w4 w (V Y 0) (V Y 0) (V Y 0) v aT aT aT)):=by
    show ec w d F xs _ _ _;rw[E9];exact H.mU a.bl B aI E _ _ _ _ _ _ _
   obtain⟨y,x,r,p,o,j,i,z⟩:=K.later (B.bw.block _ E);clear B;subst hv
   go_wp21
   exact cL results177 ⟨y,x,r,p,o,j,i,z⟩ A
 .have i2:(2:XQ)<(n:XQ):=Xz
  have i3:(3:XQ)<(n:XQ):=Xz
  have c2:=aR a.bl ct;have T1:=aC (fun wx=>sj t wx zt);have T2:=aC (fun wx=>sj u wx zu);generalize dX t=fr at *;generalize dX u=til at *
  go_wp21
  refine aK (T1 _) fun w1 aa=>?_;replace a:=aC (a.later aa);have c3:=aR a.bl cu;clear aa y0 y1 c2 E
  go_wp21
  refine aK (T2 _) fun w2 T=>?_;replace a:=aC (a.later T);have y0:=aR a.bl h0;have y1:=aR a.bl h1;have E:w<w2.heap.size:=a.lt (q:=(w,bB)) XA;clear T c3 T1 T2 X;have R:=aC (H.later a.bl);have UN:=aC (R.aM name);have LS:=aC (GZ R S name fr til);have PK:=aC (R.dN name fr til);have K:=aC (Q7.of (a.kb (w,bB) XA));generalize aA.bW name s.ts=un at *;generalize aA.mQ name s.es fr til=pk at *
  go_wp21
  refine UN.mono ?_;rintro e w3 ⟨rfl,rfl⟩
  by_cases f:un=0
  .have A:Hid (ec w d F xs D (Yg (bJ 3 0 0 aT aT aT aT)) (cR w3 w (V Y 3) (V Y 0) (V Y 0) aT aT aT aT)):=by
    show ec w d F xs _ _ _;rw[P,XS f];exact H.said a.bl aI 3 0 _ _ _ _ _ _ _
   have I:(un==0)=XX:=by simpa using f
   obtain⟨y,x,r,p,o,j,i,z⟩:=K;clear f
   go_wp21
   exact cL results177 ⟨y,x,r,p,o,j,i,z⟩ A
  .have I:(un==0)=XW:=by simpa using f
   by_cases a2:til<=fr
   .have A:Hid (ec w d F xs D (Yg (bJ 6 0 0 aT aT aT aT)) (cR w3 w (V Y 6) (V Y 0) (V Y 0) aT aT aT aT)):=by
     show ec w d F xs _ _ _;rw[P,XR f,XS a2];exact H.said a.bl aI 6 0 _ _ _ _ _ _ _
    obtain⟨y,x,r,p,o,j,i,z⟩:=K;clear f
    go_wp21
    exact cL results177 ⟨y,x,r,p,o,j,i,z⟩ A
   .cases b
    .have E9:Hid (D=(s,.num pk)):=by show _=_;rw[P,XR f,XR a2];rfl
     clear f
     go_wp21
     refine PK.mono ?_;rintro e w4 ⟨rfl,C⟩;have B4:=aC (bM a.bl C aI)
     have A:Hid (ec w d F xs D (Yg (bJ 0 0 pk aT aT aT aT)) (cR w4 w (V Y 0) (V Y 0) (V Y pk) aT aT aT aT)):=by
      show ec w d F xs _ _ _;rw[E9];exact H.said B4 aI 0 pk _ _ _ _ _ _ _
     obtain⟨y,x,r,p,o,j,i,z⟩:=K.later (C.block _ E);clear C
     go_wp21
     exact cL results177 ⟨y,x,r,p,o,j,i,z⟩ A
    .have E9:Hid (D=(s,{ bI.num 0 with entries:=aA.lO name fr til s.es })):=by show _=_;rw[P,XR f,XR a2];rfl
     clear f
     go_wp21
     refine LS.mono ?_;rintro e w4 ⟨v,rfl,B⟩;obtain⟨al,cl,hv⟩:=B.form
     have A:Hid (ec w d F xs D (Yg (bJ 0 0 0 v aT aT aT)) (cR w4 w (V Y 0) (V Y 0) (V Y 0) v aT aT aT)):=by
      show ec w d F xs _ _ _;rw[E9];exact H.mU a.bl B aI E _ _ _ _ _ _ _
     obtain⟨y,x,r,p,o,j,i,z⟩:=K.later (B.bw.block _ E);clear B;subst hv
     go_wp21
     exact cL results177 ⟨y,x,r,p,o,j,i,z⟩ A
open aA (aO St bI aV Inv)
theorem M7{xs:J (aO × M × M)}(h:DD w d s xs F)(B:Inv s){t:XK}(hn:1<n)(p:w.cell? (g,0)=U (Ya ⟨#[116,105,99,107]⟩))(o:w.cell? (g,1)=U ↑t)(ht:t.size<=160)(j:1<=bT t 1 7/\bT t 1 7<=1048320):
  X4 prog 117 #[d,X9 g n c] w (ec w d F xs (aV s (.tick (bT t 1 7)))):=by
 have a:=aC ((KP.nil w).alloc bB);have H:=aC h;have r:=aC (Yz h.lt (fun y A=>(h.rd.sp y A).2.2));have i0:(0:XQ)<(n:XQ):=Xz
 have T:(1:XQ)<(n:XQ):=Xz
 have x:=aR a.bl p;have u:=aR a.bl o;clear h p o
 go_in
 go_upto_region 1 with fail
 change Code.wp _ _ _ _ (w.alloc bB);generalize w.alloc bB=X at *
 go_wp21
 refine aK (fH t 1 7 X ht Xz Xz) fun z f=>?_;replace a:=aC (a.later f);have TK:=aC (MZ (H.later a.bl) B j);have C:w<z.heap.size:=a.lt (q:=(w,bB)) XA;clear f x u j;generalize bT t 1 7=m at *
 go_wp21
 refine TK.mono ?_;intro e I i;obtain⟨a1,a2,a3,a4,S,R,P,K,c1,c2,c3,c4,rfl,D,i⟩:=i.up a.bl aI C r.1 r.2 (Q7.of (a.kb (w,bB) XA));have E:=aC i;let⟨q0,q1,q2,q3,q4,q5,q6,fq⟩:=D;clear i TK;simp only[bJ]
 go_wp21
 exact cL results117 ⟨q0,q1,q2,q3,q4,q5,q6,fq⟩ E
theorem Ho:∀ (es:J aO)(id i:XQ),0<=i->(aA.kc id es i=-1/\aA.lL id es=XU)\/∃ k:M,∃ h:k<es.length,aA.kc id es i=i+k/\aA.lL id es=U es[k]/\es[k].id=id
 |[],id,i,_=>.inl ⟨rfl,rfl⟩
 |e :: r,id,i,h0=>by
  unfold aA.kc aA.lL
  by_cases h:e.id=id
  .refine .inr ⟨0,by simp,?_⟩;simp[h]
  .rcases Ho r id (i+1) Xz with ⟨f,a⟩|⟨k,j,f,a,o⟩
   .refine .inl ?_;rw[XR h];simp only[List.find?_cons,h,decide_false];exact⟨f,a⟩
   .refine .inr ⟨k+1,by simpa using j,?_⟩;rw[XR h];simp only[List.find?_cons,h,decide_false];exact⟨by rw[f];push_cast;omega,a,o⟩
theorem Ps(h:aA.dL es)(j:k<es.length):es.set k (aA.dI es[k])=aA.eA es[k].id es:=by
 unfold aA.eA;apply List.ext_getElem XA;intro i a o;rw[List.getElem_set,List.getElem_map];simp only[List.length_set] at a
 split
 .rename_i e;subst e;simp
 .rename_i e
  rw[XR];intro p;have:=(List.pairwise_iff_getElem.1 h);rcases Nat.lt_or_gt_of_ne e with f|f
  .have:=this k i (by simpa using j) (by simpa using a) f;simp only[List.getElem_map] at this;omega
  .have:=this i k (by simpa using a) (by simpa using j) f;simp only[List.getElem_map] at this;omega
theorem NP{xs:J (aO × M × M)}:(gD id xs).map (·.1)=aA.kept id (xs.map (·.1)):=by
 unfold gD aA.kept;rw[List.filter_map]
 congr 1
def oL(b:XN)(id:XQ):aA.gn:=if b then .cancel id else .bF id
theorem Gh{xs:J (aO × M × M)}(h:DD w d s xs F)(af:aA.dL s.es)(b:XN){t:XK}(hk:(kw.toList==[99,97,110,99,101,108])=b)(ht:t.size<=160)(hn:1<n)(c0:w.cell? ⟨g,0,XU⟩=U (Ya kw))(c1:w.cell? ⟨g,1,XU⟩=U (Ya t)):
  X4 prog 175 #[X8 (U ⟨d,0,XU⟩),X9 (U ⟨g,0,XU⟩) n c] w (ec w d F xs (aV s (oL b (bT t 1 7)))):=by
 have hX:X0 w.heap.size w (w.alloc bB):=(zr _ _).alloc (zq _) _;have hQ:=cP w bB;have H:=aC h;have HX:=aC (Yz hX hQ);have x0:=aR hX c0;have x1:=aR hX c1;have ak:(1:XQ)<(n:XQ):=Xz
 have aj:(0:XQ)<(n:XQ):=Xz
 clear hX hQ c0 c1 h
 go_in
 go_upto_region 1 with fail
 change Code.wp _ _ _ _ (w.alloc bB);generalize w.alloc bB=X at *
 go_wp2_with fail
 refine (fH t 1 7 X ht Xz Xz).mono ?_;rintro e w1 ⟨rfl,A⟩;have B1:=aC (bM HX.out.1 A (zq _));have D1:=aC (H.out.later B1.out);have PL:=aC (D1.out.place (bT t 1 7));have PF:=aC (Ho s.es (bT t 1 7) 0 (Int.le_refl _));have x0:=aR A x0;have Q1:=aC ((Q7.of HX.out.2).later (A.block _ (Array.getElem?_eq_some_iff.1 HX.out.2).1));clear A HX x1;generalize bT t 1 7=id at *
 go_wp2_with fail
 refine PL.out.mono ?_;rintro e z ⟨rfl,rfl⟩;clear PL;obtain⟨u,R,P,K,I,D,C,S⟩:=Q1.out;rcases PF.out with ⟨e1,e2⟩|⟨k,ad,e1,e2,e3⟩
 .have hp:aA.kc id s.es 0<0:=Xz
  have HF:Hid (ec w d F xs (aV s (oL b id)) (Yg (bJ 9 0 0 aT aT aT aT)) (cR z w.heap.size (V Y 9) (V Y 0) (V Y 0) aT aT aT aT)):=by
   have:=H.out.said B1.out (zq _) 9 0 (V Y 9) (V Y 0) (V Y 0) aT aT aT aT;show ec w d F xs _ _ _
   cases b <;> (simp only[oL,aV,e2,Yr,if_true,if_false];exact this)
  clear e1 e2 PF;generalize aA.kc id s.es 0=pl at *
  go_wp2_with fail
  exact cL results175 ⟨u,R,P,K,I,D,C,S⟩ HF.out
 .rw[Int.zero_add] at e1;rw[e1];have hp:¬ ((k:XQ)<0):=Xz
  have j:k<xs.length:=by have:=H.out.len;omega
  have al:(k:XQ)<(s.es.length:XQ):=Xz
  have ai:(0:XQ)<=(k:XQ):=Xz
  clear e1 PF;obtain⟨a,cap,E,T⟩:=D1.out.er;obtain rfl:=T.a k j;have cc:=T.c;rw[H.out.len] at cc;have r1:=(T.r k j).c1;have r5:=(T.r k j).c5
  have i:xs[k].1=s.es[k]:=by
   have e:(xs.map (·.1))[k]?=U s.es[k]:=by rw[H.out.es];simp[ad]
   rw[ZV (by simpa using j),Option.some.injEq,List.getElem_map] at e;exact e
  have fE:=fun o=>T.f o Xz
  have HR:=aC T;have B:=aC (Yz e2 (Yz e3 i));clear e2 e3 T
  cases b
  .rw[i] at r1 r5
   by_cases p:s.es[k].kind=2
   .have hq:(s.es[k].kind != 2)=XW:=by simp[p]
    have bk:=D1.out.eA HR.out j (es':=aA.eA id s.es) (by rw[i,Ps af ad,B.out.2.1]);have aa:=bk.2.1;have an:=bk.2.2;have kE:aH F z ((z.setCell ⟨E,k*6+1,XU⟩ (V Y 1)).setCell ⟨E,k*6+5,XU⟩ (V Y 0)):=((aH.refl F z).setCell (.inl aa) _ _).setCell (.inl aa) _ _;have ao:E≠w.heap.size:=by have:=H.out.lt E aa;omega
    have hw:aH F w ((z.setCell ⟨E,k*6+1,XU⟩ (V Y 1)).setCell ⟨E,k*6+5,XU⟩ (V Y 0)):=(aH.aD B1.out).trans kE
    have HD:Hid (aV s (oL XW id)=({ s with es:=aA.eA id s.es },⟨0,0,0,[],[],[],[]⟩)):=by
     show _=_;simp[oL,aV,B.out.1,p,bI.num]
    have ae:w.heap.size ∉ F:=fun e=>by have:=H.out.lt _ e;omega
    have Q2:=aC (Q1.out.later (kE.block _ (Yl _ _ u) ae));have HB:=aC (Yz bk.1 hw);clear bk kE hw p u R P K I D C S
    go_upto_region 12 with fail
    generalize (YA (YA z _ _) _ _)=Z at *
    have HF:Hid (ec w d F xs (aV s (oL XW id)) (Yg (bJ 0 0 0 aT aT aT aT)) (cR Z w.heap.size (V Y 0) (V Y 0) (V Y 0) aT aT aT aT)):=by
     show ec w d F xs _ _ _;rw[HD.out];refine HB.out.1.nD (fun _ i=>.inl i) HB.out.2 (zq _) ae (fun x i e=>?_) (fun x i=>.inl ?_) 0 0 _ _ _ _ _ _ _
     rotate_left
     .rcases List.mem_or_eq_of_mem_set i with i|rfl
      .exact⟨x,i,rfl⟩
      .exact⟨xs[k],List.getElem_mem j,rfl⟩
     have:x.2.1<w.heap.size:=by
      rcases List.mem_or_eq_of_mem_set i with i|rfl
      .exact (H.out.rd.sp x i).2.2
      .exact (H.out.rd.sp xs[k] (zg j)).2.2
     omega
    obtain⟨u,R,P,K,I,D,C,S⟩:=Q2.out;clear HB Q2
    go_wp2_with fail
    exact cL results175 ⟨u,R,P,K,I,D,C,S⟩ HF.out
   .have hq:(s.es[k].kind != 2)=XX:=by simp[p]
    have HF:Hid (ec w d F xs (aV s (oL XW id)) (Yg (bJ 10 0 0 aT aT aT aT)) (cR z w.heap.size (V Y 10) (V Y 0) (V Y 0) aT aT aT aT)):=by
     have:=H.out.said B1.out (zq _) 10 0 (V Y 10) (V Y 0) (V Y 0) aT aT aT aT;show ec w d F xs _ _ _;simp only[oL,aV,B.out.1,Yr,if_false,p,ne_eq,not_false_eq_true,if_true];exact this
    clear p
    go_wp2_with fail
    exact cL results175 ⟨u,R,P,K,I,D,C,S⟩ HF.out
  .have WO:=aC (D1.out.mR id)
   have HD:Hid (aV s (oL XX id)=({ s with es:=aA.kept id s.es },⟨0,0,0,[],[],[],[]⟩)):=by
    show _=_;simp[oL,aV,B.out.1,bI.num]
   clear r1 r5 cc fE
   go_wp2_with fail
   refine WO.out.mono ?_;rintro e w3 ⟨vr,rfl,ho,q⟩;obtain⟨av,cv,ab⟩:=gj ho;have FR:=aC (D1.out.fresh ho (zq _) q (fun y hy=>(List.mem_filter.1 hy).1) (ZA ..) (NP.trans (by rw[H.out.es])));have D3:=D1.out.later q;obtain⟨v2,y1,_⟩:=D3.rd.ev;have fy:=D3.rd.fz 1;have ag:d≠w.heap.size:=by have:=H.out.lt d H.out.rd.dF;omega
   have kd:aH [d] w3 (w3.setCell ⟨d,1,XU⟩ vr):=aH.bD ..;have Q3:=aC ((Q1.out.later (q.block _ (Yl _ _ u))).later (kd.block _ (zL (Yl _ _ u) q.size) (by simp;exact fun e=>ag e.symm)));have HO:=aC (Yz (((aH.aD (F:=F) B1.out).trans (aH.aD q)).setCell (.inl H.out.rd.dF) 1 vr) ho);have hz:=B1.out.size;have ac:=Yl _ _ u;have ac:w.heap.size<z.heap.size:=ac;clear ho q D3 kd;rw[ab] at FR Q3 HO ⊢;clear ab u R P K I D C S
   go_upto_region 12 with fail
   generalize (YA w3 ⟨d,1,XU⟩ _)=Z at *
   have HF:Hid (ec w d F xs (aV s (oL XX id)) (Yg (bJ 0 0 0 aT aT aT aT)) (cR Z w.heap.size (V Y 0) (V Y 0) (V Y 0) aT aT aT aT)):=by
    show ec w d F xs _ _ _;rw[HD.out];have hv:∀ b,(X9 av (gD id xs).length cv).ownBlock=U b->z.heap.size<=b:=fun b hb=>gi HO.out.2 hb
    refine FR.out.nD (fun x i=>?_) HO.out.1 (zq _) (fun i=>?_) (fun x i e=>?_) (fun x i=>.inl ⟨x,(List.mem_filter.1 i).1,rfl⟩) 0 0 _ _ _ _ _ _ _
    .rcases Yv.1 i with e|e
     .have:=hv x (by simpa using e);exact .inr Xz
     .exact .inl e
    .rcases Yv.1 i with e|e
     .have:=hv _ (by simpa using e);omega
     .have:=H.out.lt _ e;omega
    .have:=(H.out.rd.sp x ((List.mem_filter.1 i).1)).2.2;omega
   obtain⟨u,R,P,K,I,D,C,S⟩:=Q3.out;clear FR Q3 HO
   go_wp2_with fail
   exact cL results175 ⟨u,R,P,K,I,D,C,S⟩ HF.out
end Go.Proofs.YtfigmlfdnickmaaGreatDoor
