import Derived.Test.YtolaacmheeaadaaGreatDoorL11
set_option maxRecDepth 100000
set_option maxHeartbeats 8000000
open Go.Proofs.Tryz
open _root_ renaming ByteArray->Us,List->Ut,Bool->Uv,Nat->Uw,Int->Ux,if_neg->Uy,if_pos->Uz,Nat->M,List->J
open Option renaming none->UB,some->UC,mem_toList->Wn,some->U
open Bool renaming false->UD,true->UE,false_eq_true->U7
open Go renaming World->UF,Value->UG,Calls->UI
open Go.RowKit renaming Below->UH
open List renaming mem_cons->Va,getElem?_cons_zero->ZX,getElem?_cons_succ->ZY,range->Xm,length_map->We,mem_map->VQ,length_eq_zero_iff->VF,getElem?_map->XT,getElem?_eq_getElem->Wx,take_succ_eq_append_getElem->VL,mem_append->Vb,mem_singleton->X9,any_eq_true->Xd,take_of_length_le->VN,mem_cons_of_mem->Wm,length_append->VA,mem_cons_self->XF,setIfInBounds_toArray->Z6,set_cons_zero->Z7,set_cons_succ->Z8,length_pos_iff->Yg,map_append->VU,map_cons->Xl,take_length->Zc,filter_congr->X0,mem_filter->Xb,length_filter_le->Wj,filter_map->XX,append_assoc->V8,filter_append->Vo,length_take->XW,append_nil->Xu,getElem_mem->Zb,find?_cons->XP,mem_or_eq_of_mem_set->ZL
open Go.Addr renaming add->Zr
open Go.DataW renaming trod_int->ZZ
open Go.World renaming cells?_some->Z4,ownsRow_nil->Wc,cell?_setCell_same->Ve,block_lt_of_cell?->U1,news_of_block->Wf,frozen?->U2,setCell->Vg,cell?->Vk
open Go.Value renaming cells->Z5,int->UL,ownBlock->V9,slice->UO,pointer->UM,string->UQ,bool->UR,int->V
open And renaming intro->Vf
open Go.Code renaming wp->YD
open Array renaming getElem?_eq_some_iff->YC
open Nat renaming zero_le->VM,lt_of_lt_of_le->VP,le_trans->U0,le_refl->UY
open Go.IntKind renaming i64->UV,i64->Y
open Go.Value.slice renaming injEq->XS
open Go.Act renaming eval->Yf
open Int renaming add_zero->Yj,le_refl->W5
open Option.some renaming injEq->ZI
open Go.Addr.mk renaming injEq->ZJ
open Go.Ending renaming returned->UW
open Go.Obj renaming cells->UX
variable{held tm:Uv}{ft kw name tt ut:Us}{fr id pc tq:Ux}{ts:Ut (Us × Ux)}{es:Ut Go.Proofs.YtolaacmheeaadaaGreatDoor.aA.aQ}{acc l:Ut Ux}{F G:Ut Uw}{O Q b c d g k n:Uw}{spare:Uw->Uv}{ws:Uw->Us}{s:Go.Proofs.YtolaacmheeaadaaGreatDoor.aA.St}{v:Go.Value}{W Z w w' wx:Go.World}
namespace Go.Proofs.YtolaacmheeaadaaGreatDoor.uptoLaw
open Go.ChangeShapes Go.WideShapes Go.ChangeAt Go.RowKit
theorem Qy{H:Type}(d:DataW H):1<=Rows.uptoBulk d:=by
 cases d with
 |lit l=>cases l <;> simp[Rows.uptoBulk]
 |_=>simp[Rows.uptoBulk]
theorem Ic{H:Type}:∀ l:J (DataW H),l.length<=Rows.uptoBulkAll l
 |[]=>zN _
 |d :: r=>by have:=Ic r;have:=Qy d;simp only[Rows.uptoBulkAll,List.length_cons];omega
theorem Ie{H:Type}{d:DataW H}:∀ {l:J (DataW H)},d∈l->Rows.uptoBulk d<=Rows.uptoBulkAll l
 |a :: r,h=>by
  simp only[Rows.uptoBulkAll];rcases Va.1 h with rfl|h
  .omega
  .have:=Ie h;omega
theorem P8{H:Type}{p:TypeId × UG->H}{i:M}{f:M}{cs:J UG}{x:DataW H × J MemPlace}(k:M)(R:W.cells? i (Zr (b,f) (k*6)) 6=U cs) (h:DataW.trod p prog W i spare held n 37 cs=U x):∃ o:wW,vD W b (f+k*6) o/\-9223372036854775808<=o.a/\o.a<=9223372036854775807/\-9223372036854775808<=o.d/\o.d<=9223372036854775807/\o.s.size<=Rows.uptoBulk x.1:=by
 let⟨xs,n',_,hx,hlen,hxl,hf⟩:=DataW.trod_struct underlying37 h;rw[datesLaw.Cu] at hlen;obtain⟨c0,c1,c2,c3,c4,c5,rfl⟩:=datesLaw.qN hlen;obtain⟨x0,x1,x2,x3,X,T,rfl⟩:=datesLaw.qN (show xs.length=6 from hxl);have I:=hf 0 _ rfl;have E:=hf 1 _ rfl;have D:=hf 2 _ rfl;have C:=hf 3 _ rfl;have B:=hf 4 _ rfl;have A:=hf 5 _ rfl;simp only[List.getElem_toArray,List.getElem_cons_zero,List.getElem_cons_succ,datesLaw.c3D,datesLaw.DU,List.drop,List.take,ZX,ZY] at I E D C B A;let⟨i0,e0,_,_⟩:=ZZ underlying3 I;let⟨i1,e1,_,w1⟩:=ZZ underlying3 E;let⟨i2,e2,_,_⟩:=ZZ underlying3 D;let⟨i3,e3,_,_⟩:=ZZ underlying3 C;let⟨i4,e4,_,w4⟩:=ZZ underlying3 B;let⟨i5,e5,d5,_⟩:=DataW.trod_string underlying9 A;simp only[List.cons.injEq,and_true] at e0 e1 e2 e3 e4 e5;subst e0 e1 e2 e3 e4 e5;let⟨_,_,hcs⟩:=Z4 R;have z:=hcs 0 Uj;have y:=hcs 1 Uj;have u:=hcs 2 Uj;have t:=hcs 3 Uj;have r:=hcs 4 Uj;have q:=hcs 5 Uj;have P:=bounds_i64 w1;have K:=bounds_i64 w4;have S:∀ j,Zr (Zr (b,f) (k*6)) j=(b,f+k*6+j):=fun j=>by rw[Deep.add_add,Zr];simp[Nat.add_assoc]
 simp only[S,ZX,ZY] at z y u t r q;refine⟨⟨i0,i1,i2,i3,i4,i5⟩,⟨z,y,u,t,r,q⟩,P.1,P.2,K.1,K.2,?_⟩;have hz:=Txt.a1l i5;rw[hx,d5];simp only[List.map,Rows.uptoBulk,Rows.uptoBulkAll];omega
theorem script{H:Type}{x:TypeId × UG->H}{u:M}{A:Option Addr}{f t:M}{d:DataW H}{B:J MemPlace}(h:DataW.Trod x prog W u spare held 22 (UO A f t) d B)(z:Rows.uptoBulk d<=1048576):CQ W A f/\f<=1900000:=by
 let⟨fuel,hf⟩:=h;rcases Deep.open_slice underlying22 hf with ⟨p,_⟩|⟨a,l,c,m,n,D,Pl,p,_,S,R,E,C,r⟩
 .simp[Z5] at p;obtain⟨rfl,rfl,rfl⟩:=p;exact⟨fun i y=>by omega,Uh⟩
 .simp[Z5] at p;obtain⟨rfl,rfl,rfl⟩:=p;have K:d=.slice ((Xm f).map D) ((Xm (m-f)).map fun j=>D (f+j)):=congrArg Prod.fst C;rw[K] at z;simp only[Rows.uptoBulk] at z;have P:=Ic ((Xm f).map D);rw[We,List.length_range] at P;refine⟨fun i y=>?_,Uh⟩;have I:f<=m:=Uo
  let⟨b,off,spot⟩:=a;let⟨cs,hc,ht⟩:=r i Uh;have q:spot=UB:=by let⟨cs,hc,_⟩:=r 0 Uh;let⟨_,hn,hcc⟩:=Z4 hc;rw[datesLaw.Cu] at hn hcc;obtain⟨c0,c1,c2,c3,c4,X,rfl⟩:=datesLaw.qN hn;have g:=hcc 0 Uj;simpa[Zr] using World.cell?_spot g
  subst q;rw[datesLaw.Cu] at hc;let⟨o,o1,o2,o3,o5,o6,o4⟩:=P8 i hc ht;have T:=Ie (d:=D i) (l:=(Xm f).map D) (VQ.2 ⟨i,List.mem_range.2 y,rfl⟩);exact⟨b,off,o,rfl,o1,o2,o3,o5,o6,by grind⟩
end Go.Proofs.YtolaacmheeaadaaGreatDoor.uptoLaw
namespace Go.Proofs.YtolaacmheeaadaaGreatDoor
namespace aA
structure OH(s:St)(r:bS):Prop where
 en:r.entries.length<=60
 es:∀ e∈r.entries,e∈s.es
 da:r.days.length<=60
 gr:r.granted.length<=100000
 ed:r.ended.length<=60
 er:r.err≠0->r.entries=[]/\r.days=[]/\r.granted=[]/\r.ended=[]
theorem QQ(h:Inv s){l:jb}(i:ke l):OH s (jE s l).2:=by
 let⟨⟨a,b,c,d⟩,e⟩:=Sg h i;refine⟨a,b,c,e,d,fun f=>?_⟩;unfold jE at f ⊢;split at f
 .rename_i q
  rw[Uz q,b8H q];exact⟨rfl,rfl,rfl,rfl⟩
 .rename_i q
  exact absurd f q
end aA
open Go.RowKit
def kI(r:Rd.cP):M->J Ux
 |0=>[]
 |k+1=>Rd.yg r (kI r k) (r.fr+k)
theorem GL(r:Rd.cP):∀ n k:M,Rd.rD r n (r.fr+k) (kI r k)=kI r (k+n)
 |0,k=>rfl
 |n+1,k=>by have:=GL r n (k+1);rw[Rd.rD,show k+(n+1)=k+1+n by omega,<- this];simp only[kI];rw[show r.fr+(k:Ux)+1=r.fr+((k+1:M):Ux) by omega]
theorem Cq{r:Rd.cP}:kI r (728-r.fr).toNat=Rd.cN r:=by have:=GL r (728-r.fr).toNat 0;rw[Nat.zero_add] at this;rw[<- this];simp[Rd.cN,kI]
theorem Cr(r:Rd.cP):∀ k,(kI r k).length<=k
 |0=>zq _
 |k+1=>by have:=Cr r k;simp only[kI,Rd.yg];split;simp;omega;omega
theorem B6{N:M}(h:aH G w w')(i:N<=w)(j:∀ b∈G,N<=b):UH N w w':=⟨h.os,h.tape,h.output,h.size,fun b f=>h.block b Uh fun a=>by grind⟩
def sX(r:Rd.cP)(w:UF)(e:Ending)(w':UF):Prop:=UH w w w'/\((Rd.iS r=0/\∃ v,e=UW (.tuple #[v,V Y 0])/\w'.ownsRow w 3 1 v (Rd.cN r).length ((Rd.cN r).map (V Y)))\/(Rd.iS r≠0/\e=UW (.tuple #[(),V Y (Rd.iS r)])))
theorem sX.err{r:Rd.cP}{n:Ux}(a:UH w w w')(h:Rd.iS r=n)(f:n≠0):sX r w (UW (.tuple #[(),n])) w':=⟨a,.inr ⟨by grind,by rw[h]⟩⟩
theorem Hg(r:Rd.cP)(R:Rd.hH r)(w:UF):UI prog 73 #[pt r] w (sX r w):=by
 have f0:=R.f0;have f1:=R.f1;have t0:=R.t0;have HF:=aB R;have BX:=aB (Vf ((zr _ w).alloc aJ (jP r)) (dH w (jP r)));have HS:=aB (fun d (h0:r.fr<=d) (h1:d<728) W=>OG r R d h0 h1 W);simp only[pt,sP] at HS ⊢;clear R;go_in;go_upto_region 1 with fail;change YD _ _ _ _ (w.alloc (jP r));generalize w.alloc (jP r)=W0 at *;have CL:Hid (∀ W,UH W0 W0 W->W.heap[w.heap.size]?=U (jP r)):=fun W k=>(k.block _ (YC.1 BX.2).1).trans BX.2;obtain⟨⟨c0,c1,c9,o,j,h,B⟩,_⟩:=pZ BX.2;go_wp21;clear c0 c1 c9 o j h B;go_loopw [4,5,6] (fun v d _ wr=>∃ k:M,k<=(728-r.fr).toNat/\d=V Y (r.fr+k)/\wr.ownsRow W0 3 1 v (kI r k).length ((kI r k).map (V Y))/\UH W0 W0 wr) (fun _ d _ _=>(728-intOf d).toNat)
 .exact⟨0,VM _,by simp,Wc _ _ _ _,Below.refl _ _⟩
 .obtain⟨k,hk,rfl,ho,f⟩:=hrel;have z:=aB (Vf ho f);obtain⟨va,vc,rfl⟩:=iD ho;clear ho f
  by_cases a:r.fr+k<728
  .obtain⟨⟨c0,c1,c9,o,j,h,B⟩,D⟩:=pZ (CL _ z.2);have j0:=D 0 Uh;have j1:=D 1 Uh;have j2:=D 2 Uh;have j3:=D 3 Uh;have j4:=D 4 Uh;have j5:=D 5 Uh;have j6:=D 6 Uh;clear D;have wd:Y.wrap (r.fr+k+1)=r.fr+k+1:=dJ Uh Uh
   go_upto_region 6 with (first|(go_at_call 126;refine aK (HS (r.fr+k) Uh a _) fun w1 ab=>?_;have B1:=aB ab;clear ab));have I:=aB (fG z.1 B1);have BK:=aB (bU z.2 B1 aJ);have t:=Cr r k;clear c0 c1 c9 o j h B j0 j1 j2 j3 j4 j5 j6;obtain⟨⟨_,_,_,_,_,h,B⟩,_⟩:=pZ (CL _ BK)
   cases p:Rd.has r (r.fr+k)
   .have HN:Hid (kI r (k+1)=kI r k):=Uy (fun e=>by rw[p] at e;exact absurd e.1 Ui);clear p
    go_wp21;exact⟨⟨k+1,Uh,by go_num,by rw[HN];exact I,BK⟩,by simp[intOf];omega⟩
   .by_cases ht:r.ti=0
    .have ae:(r.ti==0)=UE:=by simp[ht]
     have T:¬ (0:Ux)<r.ti:=Uh;by_cases hu:r.fr+k<=r.un
     .have HY:Hid (kI r (k+1)=kI r k++[r.fr+k]):=Uz ⟨p,.inl ⟨ht,hu⟩⟩;clear p
      go_wp2_with (first|(at_builtin;refine zI rfl _ _ rfl I (r.fr+k) rfl rfl Uh (by have:=z.2.size;have:=B1.size;omega) ?_;intro v' w2 o2 k2));exact⟨⟨k+1,Uh,by go_num,by rw[HY];exact o2,BK.trans (B6 k2 BK.size fun b p=>(I.lt b (Wn.1 p)).1)⟩,by simp[intOf];omega⟩
     .have HN:Hid (kI r (k+1)=kI r k):=Uy (fun e=>by rcases e.2 with q|q <;> omega);clear p
      go_wp21;exact⟨⟨k+1,Uh,by go_num,by rw[HN];exact I,BK⟩,by simp[intOf];omega⟩
    .have ae:(r.ti==0)=UD:=by simp[ht]
     have T:(0:Ux)<r.ti:=Uh;by_cases hu:((kI r k).length:Ux)<r.ti
     .have HY:Hid (kI r (k+1)=kI r k++[r.fr+k]):=Uz ⟨p,.inr ⟨T,hu⟩⟩;clear p
      go_wp2_with (first|(at_builtin;refine zI rfl _ _ rfl I (r.fr+k) rfl rfl Uh (by have:=z.2.size;have:=B1.size;omega) ?_;intro v' w2 o2 k2));exact⟨⟨k+1,Uh,by go_num,by rw[HY];exact o2,BK.trans (B6 k2 BK.size fun b p=>(I.lt b (Wn.1 p)).1)⟩,by simp[intOf];omega⟩
     .have HN:Hid (kI r (k+1)=kI r k):=Uy (fun e=>by rcases e.2 with q|q <;> omega);clear p
      go_wp21;exact⟨⟨k+1,Uh,by go_num,by rw[HN];exact I,BK⟩,by simp[intOf];omega⟩
  .have H:k=(728-r.fr).toNat:=Uh
   rw[H,Cq] at z;have t:=Cr r (728-r.fr).toNat;rw[H,Cq];rw[Cq] at t;have B0:=aB (bU BX.1 z.2 aJ);obtain⟨⟨_,_,_,o,j,h,_⟩,_⟩:=pZ (CL _ z.2);clear hk H a;have af:(Rd.cN r).length<=728:=Uh;clear t;by_cases ac:40<(Rd.cN r).length
   .have C:(40:Ux)<((Rd.cN r).length:Ux):=Uh
    have A:Hid (Rd.iS r=11):=Uz (.inl ac);go_wp21;go_ret2;exact sX.err B0 A Uj
   have C:¬ (40:Ux)<((Rd.cN r).length:Ux):=Uh;by_cases ht:40<r.ti
   .have A:Hid (Rd.iS r=11):=Uz (.inr ht)
    go_wp21;go_ret2;exact sX.err B0 A Uj
   have K:Hid (¬ (40<(Rd.cN r).length\/40<r.ti)):=by rw[Hid];omega
   by_cases hz:(Rd.cN r).length=0
   .have S:(((Rd.cN r).length:Ux)==0)=UE:=by simp[hz]
    have A:Hid (Rd.iS r=6):=(Uy K).trans (Uz (.inl (VF.1 hz)));go_wp21;go_ret2;exact sX.err B0 A Uj
   have S:(((Rd.cN r).length:Ux)==0)=UD:=by rw[beq_eq_false_iff_ne];omega
   by_cases P:((Rd.cN r).length:Ux)<r.ti
   .have A:Hid (Rd.iS r=6):=(Uy K).trans (Uz (.inr P))
    go_wp21;go_ret2;exact sX.err B0 A Uj
   have A:Hid (Rd.iS r=if (Rd.cN r).any (Rd.oC r) then 6 else 0):=(Uy K).trans (Uy (by
    rintro (e|e)
    .exact hz (by rw[e];rfl)
    .exact P e))
   have ag:0<(Rd.cN r).length:=Uh;go_wp21;have MM:=aB (fun i (hi:i<(Rd.cN r).length)=>Vf (Rd.uZ HF (zg hi)) (Vf HF.m0 (Vf HF.m1 (Vf HF.i1 HF.i2))));clear HS o j h ac ht hz P S C;obtain⟨ad,hV⟩:∃ ad,ad=wr:=⟨_,rfl⟩;subst hV;go_loopw [7] (fun v wx=>∃ i:M,i<=(Rd.cN r).length/\v=V Y i/\(∀ x∈(Rd.cN r).take i,Rd.oC r x=UD)/\UH ad ad wx) (fun v _=>(Rd.cN r).length-(intOf v).toNat)
   .exact⟨0,VM _,rfl,by simp,Below.refl _ _⟩
   .obtain⟨i,hi,rfl,X,f⟩:=hrel;have E:=aB (Vf X (Vf f (bU B0 f aJ)));clear X f
    by_cases a:i<(Rd.cN r).length
    .have aa:(i:Ux)<((Rd.cN r).length:Ux):=Uh
     obtain⟨g,cap,e,y⟩:=uv z.1 (k:=i) (u:=V Y (Rd.cN r)[i]) (by rw[XT,Wx a];rfl);simp only[XS,true_and] at e;obtain⟨rfl,rfl⟩:=e;have y':=aT E.2.1 y;clear y;obtain⟨⟨_,_,_,o,j,_⟩,_⟩:=pZ (CL _ (bU z.2 E.2.1 aJ));obtain⟨⟨m1,m2⟩,m3,m4,m5,m6⟩:=MM i a;have HT:Hid (∀ x∈(Rd.cN r).take (i+1),x∈(Rd.cN r).take i\/x=(Rd.cN r)[i]):=fun x hx=>by rw[VL a] at hx;exact (Vb.1 hx).imp id X9.1
     have HM:Hid ((Rd.cN r)[i]∈Rd.cN r):=zg a;generalize (Rd.cN r)[i]=x at *;have w1:Y.wrap (1440*x)=1440*x:=dJ Uh Uh;have w2:Y.wrap (1440*x+r.mn)=1440*x+r.mn:=dJ Uh Uh;have w3:Y.wrap (1440*x+r.mn+r.mi)=1440*x+r.mn+r.mi:=dJ Uh Uh;by_cases ai:(1048320:Ux)<1440*x+r.mn+r.mi
     .have HX:Hid (Rd.iS r=6):=A.trans (Uz (Xd.2 ⟨x,HM,decide_eq_true Uh⟩))
      go_upto_region 15 with fail;go_quiet (fail);go_wp21;go_ret2;exact sX.err (ou E.2.2 _) HX Uj
     .go_upto_region 15 with fail
      go_quiet (fail);go_wp21;exact⟨⟨i+1,Uh,by go_num,fun y hy=>by
       rcases HT y hy with e|e
       .exact E.1 y e
       .rw[e];exact decide_eq_false Uh,ou E.2.1 _⟩,by simp[intOf];omega⟩
    .have aa:¬ (i:Ux)<((Rd.cN r).length:Ux):=Uh
     have HX:Hid (Rd.iS r=0):=A.trans (Uy (by
      rw[Xd];rintro ⟨x,hx,P⟩;rw[E.1 x (by rw[VN Uh];exact hx)] at P
      cases P))
     go_wp21;go_ret2;exact⟨E.2.2,.inl ⟨HX,_,rfl,uC (fG z.1 E.2.1) BX.1.size⟩⟩
open aA (aQ St bS aX)
theorem Rc:(prog.info? 201).map (fun i=>(i.zero,i.size,i.bytes))=U (U (.agg #[UQ ⟨#[]⟩,V Y 0]),2,24):=Um
theorem IF(a:Array UG)(w:UF):(callFunc 49 a).run prog w=.ok (.enter 49 a) w:=Um
theorem DD.rM{Y j:UF}{xs:J (aQ × M × M)}{cap:M}{t:Us × Ux}(h:DD Y d s xs F)(cv:Y.cell? (d,0)=U v)(S:Y.ownsRow 0 201 2 v s.ts.length (s.ts.flatMap mc))(r:∀ k,v.ownBlock=U k->k∈F/\k≠d)(k:aH (v.ownBlock.toList) Y j)(z:j.ownsRow 0 201 2 (UO g (s.ts.length+1) cap) (s.ts.length+1) (s.ts.flatMap mc++mc t))(X:v.ownBlock=U g\/Y<=g)(hl:s.ts.length<4):DD (j.setCell (d,0) (UO g (s.ts.length+1) cap)) d { s with ts:=s.ts++[t] } xs (g :: F)/\aH F Y (j.setCell (d,0) (UO g (s.ts.length+1) cap)):=by
 let⟨v2,b1,b2,b3⟩:=h.rd.ev;have D:d<Y:=h.lt d h.rd.dF;have A:g≠d:=Uo;have a:∀ y∈v.ownBlock.toList,y∈F/\y≠d:=fun y i=>r y Uo;have p:d ∉ v.ownBlock.toList:=fun e=>(a d e).2 rfl;have I:aH [d] j (j.setCell (d,0) (UO g (s.ts.length+1) cap)):=aH.bM ..;have q:aH (d :: v.ownBlock.toList) Y (j.setCell (d,0) (UO g (s.ts.length+1) cap)):=(k.mono Uo).setCell (.inl Ui) _ _;have E:∀ y,y ∉ F->y ∉ d :: v.ownBlock.toList:=by
  intro y i e;rcases Va.1 e with rfl|e
  .exact i h.rd.dF
  .exact i (a y e).1
 have C:∀ b,v2.ownBlock=U b->b ∉ d :: v.ownBlock.toList:=by
  intro b f e;rcases Va.1 e with e|e
  .exact (b3 b f).2 e
  .have e:v.ownBlock=U b:=Uo
   rcases S.2 with ⟨rfl,_⟩|⟨g',P,aa,rfl,_,T,_⟩
   .simp[V9] at e
   .simp[V9] at e;subst e;exact ki b2 T Uj f
 have H:∀ o u,Y.cell? (d,o)=U u->o≠0->(j.setCell (d,0) (UO g (s.ts.length+1) cap)).cell? (d,o)=U u:=fun o u R _=>(bC Ui).trans (k.cell p R);refine⟨⟨⟨⟨_,Ve _ _ _ (k.cell p cv),?_,fun b f=>?_⟩,⟨v2,H 1 _ b1 Uh,dL b2 q C,fun b f=>⟨Wm _ (b3 b f).1,(b3 b f).2⟩⟩,H 2 _ h.rd.c2 Uh,H 3 _ h.rd.c3 Uh,fun o=>(zF ..).trans ((k.frozen p D).trans (h.rd.fz o)),Wm _ h.rd.dF,fun y i=>?_⟩,h.es,fun x B=>?_,?_,h.el,h.en⟩,q.mono (fun y i=>?_)⟩
 .have e1:(s.ts++[t]).flatMap mc=s.ts.flatMap mc++mc t:=Ui
  rw[e1,VA];exact dL z I (fun b f=>by simp[V9] at f;subst f;simpa using A)
 .simp[V9] at f;subst f;exact⟨by simp,A⟩
 .let⟨y1,y2,y3⟩:=h.rd.sp y i;refine⟨y1.off q (E _ y2),fun e=>?_,VP y3 q.size⟩;rcases Va.1 e with e|e
  .rcases X with K|K
   .exact y2 (e ▸ (r g K).1)
   .omega
  .exact y2 e
 .rcases Va.1 B with rfl|B
  .exact zL (fT z rfl) I.size
  .exact zL (h.lt x B) q.size
 .simp;omega
 .rcases Va.1 i with rfl|i
  .exact h.rd.dF
  .exact (a y i).1
theorem RZ{xs:J (aQ × M × M)}(h:DD w d s xs F)(hl:2<n)(z2:ut.size<=160)(au:0<=aA.cI name s.ts)(h1:w.cell? (g,1)=U ↑name)(h2:w.cell? (g,2)=U ↑ut):UI prog 64 #[d,UO g n c] w (eK w d F xs (aX s (.bH name (cB ut 1 7)))):=by
 obtain⟨ti,an,ak,aj,ai⟩:=info_parts Rc;have t:=aB ((KP.nil w).alloc bI);have H:=aB h;have D0:=aB (h.later t.bl);have i1:(1:Ux)<(n:Ux):=Uh;have i2:(2:Ux)<(n:Ux):=Uh;have y1:=aT t.bl h1;have y2:=aT t.bl h2;have UN:=aB (D0.aN name);have NM:=aB (fun wx=>gC ut 1 7 wx z2 Uh Uh);have HD:Hid (aX s (.bH name (cB ut 1 7))=if aA.cI name s.ts≠0 then (s,.error 4) else if s.ts.length=4 then (s,.error 5) else ({ s with ts:=s.ts++[(name,cB ut 1 7)] },.num 0)):=rfl;clear h;go_in;go_upto_region 1 with fail;change YD _ _ _ _ (w.alloc bI);generalize w.alloc bI=X at *;generalize cB ut 1 7=u at *;generalize aA.cI name s.ts=un at *;go_wp21;refine UN.mono ?_;rintro e r ⟨rfl,rfl⟩;clear UN;have Q1:=aB (Q7.of (t.kb (w,bI) Ui));obtain⟨v,cv,ho,aa⟩:=D0.rd.tv;obtain⟨C,a,rfl⟩:=iD ho;by_cases a1:0<un
 .have HF:Hid (eK w d F xs (aX s (.bH name u)) (UW (bT 4 0 0 aV aV aV aV)) (dE r w (V Y 4) (V Y 0) (V Y 0) aV aV aV aV)):=by show eK w d F xs _ _ _;rw[HD,Uz Uh];exact H.said t.bl aJ 4 0 _ _ _ _ _ _ _
  obtain⟨T,S,R,P,K,I,E,fq⟩:=Q1;go_wp21;exact cV results64 ⟨T,S,R,P,K,I,E,fq⟩ HF
 .by_cases a2:s.ts.length=4
  .have HF:Hid (eK w d F xs (aX s (.bH name u)) (UW (bT 5 0 0 aV aV aV aV)) (dE r w (V Y 5) (V Y 0) (V Y 0) aV aV aV aV)):=by show eK w d F xs _ _ _;rw[HD,Uy Uh,Uz a2];exact H.said t.bl aJ 5 0 _ _ _ _ _ _ _
   have ag:((s.ts.length:Ux)==4)=UE:=by simp;omega
   obtain⟨T,S,R,P,K,I,E,fq⟩:=Q1;go_wp21;exact cV results64 ⟨T,S,R,P,K,I,E,fq⟩ HF
  .have ag:((s.ts.length:Ux)==4)=UD:=by simp;omega
   have al:s.ts.length<4:=by have:=H.tl;omega
   have E9:Hid (aX s (.bH name u)=({ s with ts:=s.ts++[(name,u)] },⟨0,0,0,[],[],[],[]⟩)):=by show _=_;rw[HD,Uy Uh,Uy a2];rfl
   have fd:=D0.rd.fz 0;have D:=aB (Vf ho aa);clear ho aa a2 HD;go_upto_region 6 with fail;go_cut [34] from 21 to 37 (fun _ wx=>∃ q B af w5,UH r.heap.size r af/\aH ((UO C s.ts.length a).ownBlock.toList) af w5/\w5.ownsRow 0 201 2 (UO (U ⟨q,0,UB⟩) (s.ts.length+1) B) (s.ts.length+1) (s.ts.flatMap mc++mc (name,u))/\((UO C s.ts.length a).ownBlock=U q\/af.heap.size<=q)/\wx=w5.setCell ⟨d,0,UB⟩ (UO (U ⟨q,0,UB⟩) (s.ts.length+1) B))
   .go_region_law (first
     |(refine rH (by rfl) 49 _ _ (by rfl) _ (by simp[Yf]) (IF _ _) (NM _) ?_;rintro e w4 ⟨rfl,ad⟩;refine⟨_,rfl,?_⟩;have f:UH r r w4:=bU (eN r) ad aJ;have z:=aT f cv;have ay:∀ o,(w4.alloc o).cell? (d,0)=U (UO C s.ts.length a):=(fun o=>aT aS z);have ar:=aT f y1;have aq:=(f.frozen (U1 _ _ cv)).trans fd;clear ad)
     |(refine step_append_lies _ rfl _ _ 42 rfl 0 201 ti _ 2 24 underlying42 an ak aj ai rfl Uj (UO C s.ts.length a) s.ts.length (s.ts.flatMap mc) rfl (fG D.out.1 (bU f aS aJ)) ⟨w4.heap.size,0,UB⟩ 1 1 (mc (name,u)) rfl rfl (Wf (cs:=(mc (name,u)).toArray) (dH w4 _)) (by simp[mc,Value.oneCell']) Uh Up Uh (zN _) (w4.heap.size+1) Ui ?_;intro q B w5 j y p aw;have kk:aH ((UO C s.ts.length a).ownBlock.toList) w4 w5:=aH.grown ((aH.refl _ w4).alloc _) y (fun k hk=>.inl (by simp[hk]));have ac:d ∉ (UO C s.ts.length a).ownBlock.toList:=(fun e=>(D.out.2 d (by simpa using e)).2 rfl);have z1:=kk.cell ac z;have z2:=(kk.frozen (o:=0) ac (U1 _ _ z)).trans aq))
    all_goals go_wp21;go_meet;exact⟨q,B,w4,w5,f,kk,j,p.imp id (fun e=>by omega),rfl⟩
   case rest =>
    obtain⟨q,B,af,w5,A,k5,j,p,rfl⟩:=hcut;obtain⟨hJ,hO⟩:=(D0.out.later A).rM (aT A cv) (fG D.out.1 A) D.out.2 k5 j p al;have ae:w.heap.size ∉ F:=fun e=>by have:=H.out.lt _ e;omega
    have hQ:w<r.heap.size:=U1 _ _ Q1.q0;have ax:=A.size;have ao:=hO.block w Uh ae;have Q2:=aB ((Q1.later (A.block _ hQ)).later ao);have ab:∀ x∈q :: F,x∈F\/af.heap.size<=x:=fun x i=>by
     rcases Va.1 i with rfl|i
     .exact p.imp (fun e=>(D.out.2 x e).1) id
     .exact .inl i
    have hz:=t.bl.size;have hw:aH F w (w5.setCell (d,0) (UO q (s.ts.length+1) B)):=((aH.aD t.bl).trans (aH.aD A)).trans hO;generalize w5.setCell (d,0) _=Z at *;have HF:Hid (eK w d F xs ({ s with ts:=s.ts++[(name,u)] },⟨0,0,0,[],[],[],[]⟩) (UW (bT 0 0 0 aV aV aV aV)) (dE Z w (V Y 0) (V Y 0) (V Y 0) aV aV aV aV)):=by
     refine hJ.oM (fun x i=>(ab x i).imp id (fun e=>by omega)) hw aJ (fun e=>?_) (fun x i e=>?_) (fun x i=>.inl ⟨x,i,rfl⟩) 0 0 _ _ _ _ _ _ _
     .rcases ab _ e with e|e
      .exact ae e
      .omega
     .have:=(H.rd.sp x i).2.2;omega
    obtain⟨T,S,R,P,K,I,E,fq⟩:=Q2;clear hJ hO hw D k5 j cv;go_wp21;exact cV results64 ⟨T,S,R,P,K,I,E,fq⟩ (by rw[E9];exact HF)
theorem P5(a:Array UG)(w:UF):(callFunc 124 a).run prog w=.ok (.enter 124 a) w:=Um
theorem Rx{xs:J (aQ × M × M)}(h:DD w d s xs F){lt:Us}(hn:5<n)(z2:ut.size<=160)(z3:lt.size<=160)(z4:ft.size<=160)(z5:tt.size<=160)(hu:0<=cB ut 1 7/\cB ut 1 7<=9)(P:0<=cB lt 1 7/\cB lt 1 7<=1048320)(R:0<=eJ ft/\eJ ft<=1048320)(h1:w.cell? ⟨g,1,UB⟩=U (UQ name))(h2:w.cell? ⟨g,2,UB⟩=U (UQ ut))(h3:w.cell? ⟨g,3,UB⟩=U (UQ lt))(h4:w.cell? ⟨g,4,UB⟩=U (UQ ft))(h5:w.cell? ⟨g,5,UB⟩=U (UQ tt)):UI prog 70 #[UM (U ⟨d,0,UB⟩),UO (U ⟨g,0,UB⟩) n c] w (eK w d F xs (aX s (.find name (cB ut 1 7) (cB lt 1 7) (eJ ft) (eJ tt)))):=by
 have a:=aB ((KP.nil w).alloc bI);have H:=aB h;have i1:(1:Ux)<(n:Ux):=Uh;have i2:(2:Ux)<(n:Ux):=Uh;have i3:(3:Ux)<(n:Ux):=Uh;have i4:(4:Ux)<(n:Ux):=Uh;have i5:(5:Ux)<(n:Ux):=Uh;have y2:=aT a.out.bl h2;have N1:=aB (fun wx=>gC ut 1 7 wx z2 Uh Uh);have N2:=aB (fun wx=>gC lt 1 7 wx z3 Uh Uh);have T1:=aB (fun wx=>tj ft wx z4);have T2:=aB (fun wx=>tj tt wx z5);have K:Hid (aX s (.find name (cB ut 1 7) (cB lt 1 7) (eJ ft) (eJ tt))=if aA.eW s.ts name (cB ut 1 7)≠0 then (s,.error (aA.eW s.ts name (cB ut 1 7))) else if eJ tt<=eJ ft then (s,.error 6) else (s,.num (aA.kP s.ts s.es name (cB ut 1 7) (cB lt 1 7) (eJ ft) (eJ tt)))):=rfl;clear h;go_in;go_upto_region 1 with fail;change YD _ _ _ _ (w.alloc bI);generalize w.alloc bI=X at *;generalize aX s _=D at *;generalize cB ut 1 7=u at *;generalize cB lt 1 7=lo at *;generalize eJ ft=fr at *;generalize eJ tt=til at *;go_wp2_with fail;refine (N1.out _).mono ?_;rintro e w1 ⟨rfl,f⟩;replace a:=aB (a.out.later f);have y4:=aT a.out.bl h4;clear f y2;go_wp2_with fail;refine (T1.out _).mono ?_;rintro e w2 ⟨rfl,f⟩;replace a:=aB (a.out.later f);have y5:=aT a.out.bl h5;clear f y4;go_wp2_with fail;refine (T2.out _).mono ?_;rintro e w3 ⟨rfl,f⟩;replace a:=aB (a.out.later f);have y1:=aT a.out.bl h1;have y3:=aT a.out.bl h3;clear f y5 N1 T1 T2 X;have D0:=aB (H.out.later a.out.bl);have AK:=aB (D0.out.asked name u);have hQ:=a.out.lt (q:=(w.heap.size,bI)) Ui;have S:=aB (Q7.of (a.out.kb (w.heap.size,bI) Ui));generalize aA.eW s.ts name u=an at *;go_wp2_with fail;refine AK.out.mono ?_;rintro e w4 ⟨rfl,rfl⟩;clear AK;have j:Hid (∀ E,D=(s,.error E)->eK w d F xs D (UW (bT E 0 0 aV aV aV aV)) (dE w4 w.heap.size (V Y E) (V Y 0) (V Y 0) aV aV aV aV)):=fun E e=>by rw[e];exact H.out.said a.out.bl (zq _) E 0 _ _ _ _ _ _ _
 by_cases I:an=0
 .subst I
  by_cases a2:til<=fr
  .have T:=aB (j.out 6 (by rw[K.out];simp[a2]));obtain⟨z,y,x,t,r,p,o,C⟩:=S.out
   go_wp2_with fail;exact cV results70 ⟨z,y,x,t,r,p,o,C⟩ T.out
  .have E9:Hid (D=(s,.num (aA.kP s.ts s.es name u lo fr til))):=by show _=_;rw[K.out,Uy Ui,Uy a2]
   have FN:Hid (∀ wx,UH w4.heap.size w4 wx->UI prog 124 #[UM (U ⟨d,0,UB⟩),UQ name,V Y u,V Y lo,V Y fr,V Y til] wx fun e w'=>e=UW (V Y (aA.kP s.ts s.es name u lo fr til))/\UH wx.heap.size wx w'):=fun wx k=>(D0.out.later k).find name u lo fr til hu.1 hu.2 P.1 Uh R.1 Uh;have AF:Hid (∀ wx,UH w4.heap.size w4 wx->Q7 wx w.heap.size/\eK w d F xs D (UW (bT 0 0 (aA.kP s.ts s.es name u lo fr til) aV aV aV aV)) (dE wx w.heap.size (V Y 0) (V Y 0) (V Y (aA.kP s.ts s.es name u lo fr til)) aV aV aV aV)):=fun wx k=>⟨S.out.later (k.block _ hQ),by rw[E9.out];exact H.out.said (bU a.out.bl k (zq _)) (zq _) 0 _ _ _ _ _ _ _ _⟩;generalize aA.kP s.ts s.es name u lo fr til=fv at *;clear j E9 K;go_upto_region 9 with fail;go_region_law (first
    |(refine rH (by rfl) 49 _ _ (by rfl) _ (by simp[Yf]) (IF _ _) (N2.out _) ?_;rintro e w5 ⟨rfl,B⟩;refine⟨_,rfl,?_⟩;have i:=bU (eN w4) B (zq _);have ab:=aT i y1;clear B)
    |(refine rH (by rfl) 124 _ _ (by rfl) _ (by simp[Yf]) (P5 _ _) (FN.out _ i) ?_;rintro e w6 ⟨rfl,A⟩;refine⟨_,rfl,?_⟩;have FF:=aB (AF.out w6 (bU i A (zq _)));obtain⟨⟨z,y,x,t,r,p,o,C⟩,_⟩:=FF.out;clear A))
   all_goals go_wp2_with fail;exact cV results70 ⟨z,y,x,t,r,p,o,C⟩ FF.out.2
 .have T:=aB (j.out an (by rw[K.out,Uz I]));have ac:(an==0)=UD:=bZ I
  have aa:(an != 0)=UE:=bZ I;obtain⟨z,y,x,t,r,p,o,C⟩:=S.out;clear I;go_wp2_with fail;exact cV results70 ⟨z,y,x,t,r,p,o,C⟩ T.out
def mJ(kw:Us)(ev:Ux)(m:Ux->Uv)(fr mn mi ti un:Ux):Obj:=UX #[kw,ev,m 0,m 1,m 2,m 3,m 4,m 5,m 6,fr,mn,mi,ti,un] 127
abbrev ug(kw:Us)(ev:Ux):Obj:=mJ kw ev (fun _=>UD) 0 0 0 0 0
theorem qe{ev mn mi ti un:Ux}{m:Ux->Uv}(h:W.heap[b]?=U (mJ kw ev m fr mn mi ti un)):(W.cell? (b,0)=U ↑kw/\W.cell? (b,1)=U ↑ev/\W.cell? (b,2)=U (UR (m 0))/\W.cell? (b,3)=U (UR (m 1))/\W.cell? (b,4)=U (UR (m 2))/\W.cell? (b,5)=U (UR (m 3))/\W.cell? (b,6)=U (UR (m 4))/\W.cell? (b,7)=U (UR (m 5))/\W.cell? (b,8)=U (UR (m 6))/\W.cell? (b,9)=U ↑fr/\W.cell? (b,10)=U ↑mn/\W.cell? (b,11)=U ↑mi/\W.cell? (b,12)=U ↑ti/\W.cell? (b,13)=U ↑un)/\∀ o,W.frozen? ⟨b,o,UB⟩=UD :=⟨⟨bN h 0 rfl,bN h 1 rfl,bN h 2 rfl,bN h 3 rfl,bN h 4 rfl,bN h 5 rfl,bN h 6 rfl,bN h 7 rfl,bN h 8 rfl,bN h 9 rfl,bN h 10 rfl,bN h 11 rfl,bN h 12 rfl,bN h 13 rfl⟩,fun o=>by simp[U2,h,mJ]⟩
theorem KP.oZ{L:J (M × Obj)}{o:Obj}(h:KP w W ((b,o) :: L)):W.heap[b]?=U o:=h.kb _ (XF ..)
theorem KP.sR{L:J (M × Obj)}{t:TypeId}{m:M × M}{X T S R P K I H E D C B A z:UG}(h:KP w wx ((b,UX #[X,T,S,R,P,K,I,H,E,D,C,B,A,z] t m) :: L))(y x v2 u r v5 v6 q p o j i f a:UG):KP w ((((((((((((((wx.setCell (b,0) y).setCell (b,1) x).setCell (b,2) v2).setCell (b,3) u).setCell (b,4) r).setCell (b,5) v5).setCell (b,6) v6).setCell (b,7) q).setCell (b,8) p).setCell (b,9) o).setCell (b,10) j).setCell (b,11) i).setCell (b,12) f).setCell (b,13) a) ((b,UX #[y,x,v2,u,r,v5,v6,q,p,o,j,i,f,a] t m) :: L):=by have:=(((((((((((((h.put 0 y).put 1 x).put 2 v2).put 3 u).put 4 r).put 5 v5).put 6 v6).put 7 q).put 8 p).put 9 o).put 10 j).put 11 i).put 12 f).put 13 a;simp only[Z6,Z7,Z8] at this;exact this
section
variable {w W:UF}{L:Ut (Uw × Obj)}{b:Uw}{kw:Us}{ev fr mn mi ti un:Ux}{m:Ux->Uv}
theorem KP.Nh(h:KP w W ((b,mJ kw ev m fr mn mi ti un) :: L))(x:Ux):KP w (W.setCell (b,9) x) ((b,mJ kw ev m x mn mi ti un) :: L):=KP.put h 9 _
theorem KP.BN(h:KP w W ((b,mJ kw ev m fr mn mi ti un) :: L))(x:Ux):KP w (W.setCell (b,10) x) ((b,mJ kw ev m fr x mi ti un) :: L):=KP.put h 10 _
theorem KP.BM(h:KP w W ((b,mJ kw ev m fr mn mi ti un) :: L))(x:Ux):KP w (W.setCell (b,11) x) ((b,mJ kw ev m fr mn x ti un) :: L):=KP.put h 11 _
theorem KP.BL(h:KP w W ((b,mJ kw ev m fr mn mi ti un) :: L))(x:Ux):KP w (W.setCell (b,12) x) ((b,mJ kw ev m fr mn mi x un) :: L):=KP.put h 12 _
theorem KP.BJ(h:KP w W ((b,mJ kw ev m fr mn mi ti un) :: L))(x:Ux):KP w (W.setCell (b,13) x) ((b,mJ kw ev m fr mn mi ti x) :: L):=KP.put h 13 _
theorem KP.Ng(h:KP w W ((b,mJ kw ev m fr mn mi ti un) :: L))(q:Ux->Uv):KP w (((((((W.setCell (b,2) (q 0)).setCell (b,3) (q 1)).setCell (b,4) (q 2)).setCell (b,5) (q 3)).setCell (b,6) (q 4)).setCell (b,7) (q 5)).setCell (b,8) (q 6)) ((b,mJ kw ev q fr mn mi ti un) :: L):=by have:=((((((KP.put h 2 (q 0)).put 3 (q 1)).put 4 (q 2)).put 5 (q 3)).put 6 (q 4)).put 7 (q 5)).put 8 (q 6);simp only[Z6,Z7,Z8] at this;exact this
end
theorem Ir{i:M}(hc:∀ j,j<n->w.cell? ⟨g,j,UB⟩=U (UQ (ws j)))(hz:∀ j,(ws j).size<=160)(hi:i<=10)(hr:uo ws i k pc acc tm)(hn:k+7<n):UI prog 72 #[UO (U ⟨g,0,UB⟩) n c,V UV i] w fun e w'=>e=UW (pt (mK ws i k pc acc tm))/\UH w.heap.size w w':=by
 have NM:=aB (fun j wx=>gC (ws j) 1 7 wx (hz j) Uh Uh);have DT:=aB (fun j wx=>xQ (ws j) wx (hz j));have CK:=aB (fun j wx=>Do (ws j) wx (hz j));have ON:=aB (fun j wx=>Cd (ws j) wx (hz j));have S:=aB ((KP.nil w).alloc (ug ⟨#[]⟩ 0));obtain⟨hp,h3,hk,ht⟩:=hr;have r:Hid (∀ W,UH w.heap.size w W->∀ j,j<n->W.cell? ⟨g,j,UB⟩=U (UQ (ws j))):=fun W kW j hj=>aT kW (hc j hj);have WR:Hid (∀ j:M,j<30->UV.wrap ((j:Ux))=(j:Ux)):=fun j hj=>dJ Uh Uh;have n0:(i:Ux)<(n:Ux):=Uh;have n1:(i:Ux)+1<(n:Ux):=Uh;have q1:(0:Ux)<=(i:Ux)+1:=Uh;have v1:UV.wrap ((i:Ux)+1)=(i:Ux)+1:=dJ Uh Uh;have v2:UV.wrap ((i:Ux)+2)=(i:Ux)+2:=dJ Uh Uh;have E:=aB (Vf hp (Vf h3 (Vf hk ht)));have ae:i+2<=k/\k<=i+3:=Uh;clear hc hp h3 hk ht;go_in;go_upto_region 1 with fail;change YD _ _ _ _ (w.alloc (ug ⟨#[]⟩ 0));generalize w.alloc (ug ⟨#[]⟩ 0)=X at *;have y0:=r.out _ S.out.bl i Uh;have T:=r.out _ S.out.bl (i+1) Uh;have N1:=aB (fun wx=>NM.out (i+1) wx);have HE:Hid (pt (mK ws i k pc acc tm)=.agg #[UQ (ws i),V UV (cB (ws (i+1)) 1 7),UR (aI acc 0),UR (aI acc 1),UR (aI acc 2),UR (aI acc 3),UR (aI acc 4),UR (aI acc 5),UR (aI acc 6),V UV (gK (ws (k+1))),V UV (jL (ws (k+3))),V UV (cB (ws (k+5)) 1 7),V UV (if tm then cB (ws (k+7)) 1 7 else 0),V UV (if tm then 0 else gK (ws (k+7)))]):=by rw[E.out.1];rfl
 generalize ws i=kw at *;generalize cB (ws (i+1)) 1 7=ev at *;generalize ws (i+1)=ew at *;go_cut [5] from 8 to 18 (fun v5 wx=>∃ b,v5=UM (U ⟨b,0,UB⟩)/\KP w wx [(b,ug kw ev),(w.heap.size,ug ⟨#[]⟩ 0)])
 case first =>
  have yA:∀ o,(X.alloc o).cell? ⟨g,i,UB⟩=U (UQ kw):=fun o=>aT ((zr _ _).alloc (zq _) _) y0;have yB:∀ o,(X.alloc o).cell? ⟨g,i+1,UB⟩=U (UQ ew):=fun o=>aT ((zr _ _).alloc (zq _) _) T;go_region_with (first
   |(go_at_call 49;refine (N1.out _).mono ?_;rintro e w4 ⟨rfl,p⟩;have PB:=aB (((S.out.alloc _).later (eN _)).later p);obtain⟨⟨b0,b1,b2,b3,b4,b5,b6,b7,b8,b9,aj,ai,ag,af⟩,h⟩:=qe (kw:=⟨#[]⟩) (ev:=0) (m:=fun _=>UD) (fr:=0) (mn:=0) (mi:=0) (ti:=0) (un:=0) (Ci p);have kX:UH X.heap.size X w4:=bU ((zr _ _).alloc (zq _) _).drew p Ui;have H:=aT kX y0)
   |(go_at_call 49;refine (N1.out _).mono ?_;rintro e w4 ⟨rfl,p⟩;have kX:UH X.heap.size X w4:=bU (eN X) p (zq _);have H:=aT kX y0;have yC:∀ o,(w4.alloc o).cell? ⟨g,i,UB⟩=U (UQ kw):=fun o=>aT ((zr _ _).alloc (zq _) _) H))
  all_goals
   go_wp2;go_meet;first
    |(have PB:=PB.out.sR (UQ kw) (V UV ev) (UR UD) (UR UD) (UR UD) (UR UD) (UR UD) (UR UD) (UR UD) (V UV 0) (V UV 0) (V UV 0) (V UV 0) (V UV 0);exact⟨_,rfl,PB⟩)
    |exact⟨_,rfl,(S.out.later kX).alloc _⟩
 case rest =>
  obtain⟨b,rfl,R⟩:=hcut;have HP:=aB R;clear R y0 T S n0 n1 q1 v1;obtain⟨⟨c0,_⟩,_⟩:=qe HP.out.oZ;go_upto_if 23 with fail;go_cut [1] (fun v wx=>v=V UV k/\KP w wx [(b,mJ kw ev (aI acc) 0 0 0 0 0),(w.heap.size,ug ⟨#[]⟩ 0)])
  case first =>
   rcases E.out.2.2.1 with ⟨u,x,K,I⟩|⟨u,x,P⟩
   .have HO:=aB (Vf K I);have hw:(kw.toList==[119,101,101,107,108,121])=UE:=by rw[E.out.1,u];decide +kernel
    clear K I;subst x;rw[hw];have y2:=r.out _ HP.out.bl (i+2) Uh;have n2:(i:Ux)+2<(n:Ux):=Uh;have p2:(0:Ux)<=(i:Ux)+2:=Uh;have v3:UV.wrap ((i:Ux)+3)=(i:Ux)+3:=dJ Uh Uh;go_upto_region 5 with (first|(go_at_call 52;refine (ON.out (i+2) _).mono ?_;rintro e q ⟨⟨a,rfl,ha⟩,f⟩;obtain rfl:a=acc:=Option.some.inj ((ha HO.out.1).symm.trans HO.out.2);replace HP:=aB (HP.out.later f);clear f ha y2;simp only[gD]));have t:=dH q (UX #[UR (aI a 0),UR (aI a 1),UR (aI a 2),UR (aI a 3),UR (aI a 4),UR (aI a 5),UR (aI a 6)] 116);have a0:=bN t 0 rfl;have a1:=bN t 1 rfl;have a2:=bN t 2 rfl;have a3:=bN t 3 rfl;have a4:=bN t 4 rfl;have a5:=bN t 5 rfl;have a6:=bN t 6 rfl;replace HP:=aB (HP.out.later ((zr _ q).alloc (zq _) (UX #[UR (aI a 0),UR (aI a 1),UR (aI a 2),UR (aI a 3),UR (aI a 4),UR (aI a 5),UR (aI a 6)] 116)));obtain⟨⟨_,_,c2,c3,c4,c5,c6,c7,c8,_⟩,h⟩:=qe HP.out.oZ;clear t c0;go_wp2;go_meet;exact⟨by simp,HP.out.Ng (aI a)⟩
   .have hw:(kw.toList==[119,101,101,107,108,121])=UD:=by
     rw[E.out.1];rcases E.out.2.1 with e|e|e
     .rw[e];decide +kernel
     .exact (u e).elim
     .rw[e];decide +kernel
    subst x P;rw[hw];go_wp2;go_meet;exact⟨by simp,HP.out⟩
  case rest =>
   obtain⟨rfl,R⟩:=hcut;replace HP:=aB R;clear R c0;have w1:UV.wrap ((k:Ux)+1)=(k:Ux)+1:=dJ Uh Uh;have m1:(k:Ux)+1<(n:Ux):=Uh;have p1:(0:Ux)<=(k:Ux)+1:=Uh;have w3:UV.wrap ((k:Ux)+3)=(k:Ux)+3:=dJ Uh Uh;have m3:(k:Ux)+3<(n:Ux):=Uh;have p3:(0:Ux)<=(k:Ux)+3:=Uh;have w5:UV.wrap ((k:Ux)+5)=(k:Ux)+5:=dJ Uh Uh;have m5:(k:Ux)+5<(n:Ux):=Uh;have p5:(0:Ux)<=(k:Ux)+5:=Uh;have w6:UV.wrap ((k:Ux)+6)=(k:Ux)+6:=dJ Uh Uh;have m6:(k:Ux)+6<(n:Ux):=Uh;have p6:(0:Ux)<=(k:Ux)+6:=Uh;have w7:UV.wrap ((k:Ux)+7)=(k:Ux)+7:=dJ Uh Uh;have m7:(k:Ux)+7<(n:Ux):=Uh;have p7:(0:Ux)<=(k:Ux)+7:=Uh;have T:=r.out _ HP.out.bl (k+1) Uh;go_upto_region 8 with (first|(go_at_call 79;refine (DT.out (k+1) _).mono ?_;rintro e q ⟨rfl,f⟩;replace HP:=aB (HP.out.later f);obtain⟨⟨_,_,_,_,_,_,_,_,_,D,_⟩,h⟩:=qe HP.out.oZ;have y:=h 9;clear f h T));replace HP:=aB (HP.out.Nh (gK (ws (k+1))));generalize q.setCell ⟨b,9,UB⟩ (V UV (gK (ws (k+1))))=Z9 at HP ⊢;clear D y;have y3:=r.out _ HP.out.bl (k+3) Uh;go_upto_region 9 with (first|(go_at_call 80;refine (CK.out (k+3) _).mono ?_;rintro e q ⟨rfl,f⟩;replace HP:=aB (HP.out.later f);obtain⟨⟨_,_,_,_,_,_,_,_,_,_,D,_⟩,h⟩:=qe HP.out.oZ;have y:=h 10;clear f h y3));replace HP:=aB (HP.out.BN (jL (ws (k+3))));generalize q.setCell ⟨b,10,UB⟩ (V UV (jL (ws (k+3))))=Z10 at HP ⊢;clear D y;have y5:=r.out _ HP.out.bl (k+5) Uh;go_upto_region 10 with (first|(go_at_call 49;refine (NM.out (k+5) _).mono ?_;rintro e q ⟨rfl,f⟩;replace HP:=aB (HP.out.later f);obtain⟨⟨_,_,_,_,_,_,_,_,_,_,_,D,_⟩,h⟩:=qe HP.out.oZ;have y:=h 11;clear f h y5));replace HP:=aB (HP.out.BM (cB (ws (k+5)) 1 7));generalize q.setCell ⟨b,11,UB⟩ (V UV (cB (ws (k+5)) 1 7))=Z11 at HP ⊢;clear D y;have y6:=r.out _ HP.out.bl (k+6) Uh;have y7:=r.out _ HP.out.bl (k+7) Uh;have ht:=E.out.2.2.2;go_upto_if 62 with fail;go_cut [] (fun wx=>KP w wx [(b,mJ kw ev (aI acc) (gK (ws (k+1))) (jL (ws (k+3))) (cB (ws (k+5)) 1 7) (if tm then cB (ws (k+7)) 1 7 else 0) (if tm then 0 else gK (ws (k+7)))),(w.heap.size,ug ⟨#[]⟩ 0)])
   case first =>
    cases tm
    .go_wp2_with (first|(go_at_call 79;refine (DT.out (k+7) _).mono ?_;rintro e q ⟨rfl,f⟩;replace HP:=aB (HP.out.later f);obtain⟨⟨_,_,_,_,_,_,_,_,_,_,_,_,_,D⟩,h⟩:=qe HP.out.oZ;have y:=h 13;clear f h y6 y7))
     go_meet;exact HP.out.BJ (gK (ws (k+7)))
    .go_wp2_with (first|(go_at_call 49;refine (NM.out (k+7) _).mono ?_;rintro e q ⟨rfl,f⟩;replace HP:=aB (HP.out.later f);obtain⟨⟨_,_,_,_,_,_,_,_,_,_,_,_,D,_⟩,h⟩:=qe HP.out.oZ;have y:=h 12;clear f h y6 y7))
     go_meet;exact HP.out.BL (cB (ws (k+7)) 1 7)
   case rest =>have HP:=aB hcut;clear hcut y6 y7 ht;generalize gK (ws (k+1))=fr at *;generalize jL (ws (k+3))=mn at *;generalize cB (ws (k+5)) 1 7=mi at *;generalize (if tm then cB (ws (k+7)) 1 7 else 0)=ti at *;generalize (if tm then 0 else gK (ws (k+7)))=un at *;obtain⟨⟨c0,c1,c2,c3,c4,c5,c6,c7,c8,c9,ad,ac,ab,aa⟩,_⟩:=qe HP.out.oZ;obtain⟨⟨d0,d1,d2,d3,d4,d5,d6,d7,d8,d9,C,B,A,z⟩,df⟩:=qe HP.out.swap.oZ;go_wp2_with fail;have HF:=aB (HP.out.swap.sR (UQ kw) (V UV ev) (UR (aI acc 0)) (UR (aI acc 1)) (UR (aI acc 2)) (UR (aI acc 3)) (UR (aI acc 4)) (UR (aI acc 5)) (UR (aI acc 6)) (V UV fr) (V UV mn) (V UV mi) (V UV ti) (V UV un));clear d0 d1 d2 d3 d4 d5 d6 d7 d8 d9 C B A z c0 c1 c2 c3 c4 c5 c6 c7 c8 c9 ad ac ab aa df;generalize ((((((((((((((wc.setCell ⟨w.heap.size,0,UB⟩ (UQ kw)).setCell ⟨w.heap.size,1,UB⟩ (V UV ev)).setCell ⟨w.heap.size,2,UB⟩ (UR (aI acc 0))).setCell ⟨w.heap.size,3,UB⟩ (UR (aI acc 1))).setCell ⟨w.heap.size,4,UB⟩ (UR (aI acc 2))).setCell ⟨w.heap.size,5,UB⟩ (UR (aI acc 3))).setCell ⟨w.heap.size,6,UB⟩ (UR (aI acc 4))).setCell ⟨w.heap.size,7,UB⟩ (UR (aI acc 5))).setCell ⟨w.heap.size,8,UB⟩ (UR (aI acc 6))).setCell ⟨w.heap.size,9,UB⟩ (V UV fr)).setCell ⟨w.heap.size,10,UB⟩ (V UV mn)).setCell ⟨w.heap.size,11,UB⟩ (V UV mi)).setCell ⟨w.heap.size,12,UB⟩ (V UV ti)).setCell ⟨w.heap.size,13,UB⟩ (V UV un))=Y at HF ⊢;obtain⟨⟨d0,d1,d2,d3,d4,d5,d6,d7,d8,d9,C,B,A,z⟩,_⟩:=qe (kw:=kw) (ev:=ev) (m:=aI acc) (fr:=fr) (mn:=mn) (mi:=mi) (ti:=ti) (un:=un) HF.out.oZ;exact bodyPost_ret (v:=.agg #[UQ kw,V UV ev,UR (aI acc 0),UR (aI acc 1),UR (aI acc 2),UR (aI acc 3),UR (aI acc 4),UR (aI acc 5),UR (aI acc 6),V UV fr,V UV mn,V UV mi,V UV ti,V UV un]) (by simp[results,results72,go_sem,d0,d1,d2,d3,d4,d5,d6,d7,d8,d9,C,B,A,z]) rfl ⟨by rw[HE.out],HF.out.bl⟩
def qh(k:Ux)(name:Us)(u:Ux)(v:UG)(t:Ux):Obj:=UX #[V Y 0,k,name,u,v,t] 85 (0,0)
structure zH(w:UF)(g n:M)(kw:Us)(k long:Ux):Prop where
 ho:(kw.toList==[104,111,108,100])=decide (k=2)
 wa:(kw.toList==[119,97,105,116])=decide (k=3)
 lo:(k=1/\long=0)\/((k=2\/k=3)/\5<n/\∃ t:Us,t.size<=160/\w.cell? (g,5)=U ↑t/\cB t 1 7=long)
 l0:0<=long/\long<=1048320
theorem Co{xs:J (aQ × M × M)}(h:DD w d s xs F)(hg:0<=s.given/\s.given<=60)(bg:(s.es.length:Ux)<=s.given)(hn:0<=s.now/\s.now<=1048320){k long:Ux}(hk:zH w g n kw k long)(hl:4<n)(z2:ut.size<=160)(z3:ft.size<=160)(z4:tt.size<=160)(hu:1<=cB ut 1 7/\cB ut 1 7<=9)(ay:0<=eJ tt/\eJ tt<=1048320)(h0:w.cell? ⟨g,0,UB⟩=U (UQ kw))(h1:w.cell? ⟨g,1,UB⟩=U (UQ name))(h2:w.cell? ⟨g,2,UB⟩=U (UQ ut))(h3:w.cell? ⟨g,3,UB⟩=U (UQ ft))(h4:w.cell? ⟨g,4,UB⟩=U (UQ tt)):UI prog 65 #[UM (U ⟨d,0,UB⟩),UO (U ⟨g,0,UB⟩) n c] w (eK w d F xs (aX s (.enter k name (cB ut 1 7) (eJ ft) (eJ tt) long))):=by
 have R:=aB ((KP.nil w).alloc bI);have H:=aB h;have HK:=aB hk;have i0:(0:Ux)<(n:Ux):=Uh;have i1:(1:Ux)<(n:Ux):=Uh;have i2:(2:Ux)<(n:Ux):=Uh;have i3:(3:Ux)<(n:Ux):=Uh;have i4:(4:Ux)<(n:Ux):=Uh;have y0:=aT R.out.bl h0;have y1:=aT R.out.bl h1;have y2:=aT R.out.bl h2;have y3:=aT R.out.bl h3;have y4:=aT R.out.bl h4;clear h hk;go_in;go_upto_region 1 with fail;change YD _ _ _ _ (w.alloc bI);generalize w.alloc bI=X at *;have NM:=aB (fun wx=>gC ut 1 7 wx z2 Uh Uh);generalize cB ut 1 7=u at *;go_cut [5] from 12 to 19 (fun v5 wx=>∃ b,v5=UM (U ⟨b,0,UB⟩)/\KP w wx [(b,qh 1 name u aV 0),(w.heap.size,bI)])
 case first =>
  have a9:∀ o,(X.alloc o).cell? ⟨g,1,UB⟩=U (UQ name):=fun o=>aT ((zr _ _).alloc (zq _) _) y1;have a8:∀ o,(X.alloc o).cell? ⟨g,2,UB⟩=U (UQ ut):=fun o=>aT ((zr _ _).alloc (zq _) _) y2;go_region_with (first
   |(go_at_call 49;refine (NM.out _).mono ?_;rintro e w4 ⟨rfl,z⟩;have PB:=aB (((R.out.alloc _).later (eN _)).later z);have bz:=Ci z;have b0:=ta bz;have b1:=s7 bz;have b2:=ux bz;have b3:=uy bz;have b4:=uz bz;have b5:=s8 bz;have bf:=xE bz;have kX:UH X.heap.size X w4:=bU ((zr _ _).alloc (zq _) _).drew z (zq _);have af:=aT kX y1;clear z)
   |(go_at_call 49;refine (NM.out _).mono ?_;rintro e w4 ⟨rfl,z⟩;have kX:UH X.heap.size X w4:=bU (eN X) z (zq _);have af:=aT kX y1;have yB:∀ o,(w4.alloc o).cell? ⟨g,1,UB⟩=U (UQ name):=fun o=>aT ((zr _ _).alloc (zq _) _) af))
  all_goals
   go_wp2;go_meet;first
    |(have PB:=PB.out.rV (V UV 0) (V UV 1) (UQ name) (V UV u) aV (V UV 0);exact⟨_,rfl,PB⟩)
    |exact⟨_,rfl,(R.out.later kX).alloc _⟩
 case rest =>
  obtain⟨b,rfl,D⟩:=hcut;have HP:=aB D;have y3:=aT D.bl h3;clear D y0 y1 y2 y4 R NM;go_wp2_with fail;refine (tj ft _ z3).mono ?_;rintro e w2 ⟨rfl,P⟩;replace HP:=aB (HP.out.later P);have y4:=aT HP.out.bl h4;clear P y3;go_wp2_with fail;refine (tj tt _ z4).mono ?_;rintro e w3 ⟨rfl,P⟩;replace HP:=aB (HP.out.later P);clear P y4;generalize eJ ft=fr at *;generalize eJ tt=til at *;obtain⟨T,hT⟩:∃ T,T=if k=1 then 0 else s.now+long:=⟨_,rfl⟩;have HT:=aB hT;clear hT;have hD:=H.out.later HP.out.bl;have n3:=hD.rd.c3;have HD:=aB hD;clear hD;have y0:=aT HP.out.bl h0;have b1:=HP.out.hc 1 rfl;have b5:=HP.out.hc 5 rfl;have bf:=HP.out.hf;have bh:=HK.out.l0;have k2:=HK.out.ho;have k3:=HK.out.wa;have c0:Hid (0<=til/\til<=1048320):=ay;have HE:Hid (∃ i,i=aA.qK s k name u fr til long):=⟨_,rfl⟩;obtain⟨i,al⟩:=HE.out;have ae:=aB al;clear al HE;obtain⟨NL,ac⟩:∃ NL,NL=s.now+long:=⟨_,rfl⟩;have aq:=aB ac;have jG:Hid (i=if aA.eW s.ts name u≠0 then aA.eW s.ts name u else if til<=fr\/1048320<NL then 6 else if s.given=60 then 5 else if k=3 then (if aA.fH s.es=6 then 5 else 0) else if aA.eT s.ts s.es name u [(fr,til)] then 0 else 8):=by rw[ac];exact ae.out
  have ar:Hid ((i≠0->aX s (.enter k name u fr til long)=(s,⟨i,0,0,[],[],[],[]⟩))/\(i=0->aX s (.enter k name u fr til long)=aA.lS s ⟨0,k,name,u,[(fr,til)],T⟩)):=by
   have e2:=ae.out;have e3:=HT.out;refine⟨fun h=>?_,fun h=>?_⟩
   .simp only[aX,<- e2,h,ne_eq,not_false_eq_true,if_true];rfl
   .simp only[aX,<- e2,h,ne_eq,not_true_eq_false,if_false];rw[e3];rfl
  have au:Hid (i=0->s.given≠60):=by
   intro p e2;have:=jG.out;rw[p,e2] at this;split at this
   .omega
   .split at this <;> simp at this
  clear ac ae;rcases HK.out.lo with ⟨j,rfl⟩|⟨j,h5,t,ht,c5,ai⟩
  case' inl =>
   have a:Hid (KP w w3 [(b,qh k name u aV T),(w.heap.size,bI)]):=by rw[HT.out,Uz j,j];exact HP.out
   rw[j] at k2 k3;simp only[show ((1:Ux)=2)=False from by simp,show ((1:Ux)=3)=False from by simp,decide_false] at k2 k3;clear HP b5 n3 HD;go_upto_region 13 with fail;generalize w3=Z at *;clear b1 bf
  case' inr =>
   have az:k≠1:=Uh;have i5:(5:Ux)<(n:Ux):=Uh;have a3:Hid (T=s.now+long):=by show _=_;rw[HT.out,Uy az]
   have NM:=aB (fun wx=>gC t 1 7 wx ht Uh Uh);rw[ai] at NM;have a:=aB (HP.out.put 1 (V UV k));have a7:=aT a.out.bl c5;clear c5 HP HD n3 b5 ai;rcases j with j|j;all_goals
    rw[j] at k2 k3 a a7;simp only[show ((3:Ux)=2)=False from by simp,show ((2:Ux)=3)=False from by simp,decide_false,decide_true] at k2 k3;go_upto_region 11 with fail;generalize w3.setCell _ _=Z0 at *;go_wp2_with fail;refine (NM.out _).mono ?_;rintro e w5 ⟨rfl,P⟩;replace a:=aB (a.out.later P);have n3:=(H.out.later a.out.bl).rd.c3;have b5:=a.out.hc 5 rfl;have bf:=a.out.hf;clear P;go_upto_region 13 with fail;replace a:Hid (KP w (w5.setCell ⟨b,5,UB⟩ (V UV (s.now+long))) [(b,qh k name u aV T),(w.heap.size,bI)]):=by rw[j,a3.out];exact a.out.put 5 _
    clear b5 bf n3 b1;generalize w5.setCell _ _=Z at *
  all_goals
   clear j;obtain⟨vN,ab⟩:∃ v,v=aV:=⟨_,rfl⟩;have ON:Hid (Z.ownsRow Z.heap.size 83 2 vN ([]:J (Ux × Ux)).length (([]:J (Ux × Ux)).flatMap lr)/\vN.ownBlock=UB):=by rw[ab];exact⟨Wc Z Z.heap.size _ _,rfl⟩
   rw[<- ab] at a;clear ab;have b4:=a.out.hc 4 rfl;have bf:=a.out.hf 4;have hZ:=a.out.bl.size;have bm:b<Z.heap.size:=a.out.lt (XF ..);have bq:w.heap.size<Z.heap.size:=a.out.lt (q:=(w.heap.size,bI)) Ui;go_wp2_with (first|(at_builtin;refine GU rfl _ _ rfl ON.out.1 fr til rfl rfl Ui (zq _) ?_;intro gs cs w6 B aa;have y:UH Z.heap.size Z w6:=(by rw[ON.out.2] at aa;exact aH.blw aa);have b4:=aT y b4;have bf:=(aB ((a.out.later y).hf 4)).out;have b2:=(a.out.later y).hc 2 rfl;have b3:=(a.out.later y).hc 3 rfl));replace a:Hid (KP w (w6.setCell ⟨b,4,UB⟩ (UO (U ⟨gs,0,UB⟩) 1 cs)) [(b,qh k name u (UO (U ⟨gs,0,UB⟩) 1 cs) T),(w.heap.size,bI)]):=(a.out.later y).put 4 _;have bi:Z.heap.size<=gs:=gU B rfl;have f:gs<w6.heap.size:=fT B rfl;have RS:Hid (iW (w6.setCell ⟨b,4,UB⟩ (UO (U ⟨gs,0,UB⟩) 1 cs)) gs [(fr,til)]):=(Ct B).2.off (aH.bM ..) Un;have ag:(w6.setCell ⟨b,4,UB⟩ (UO (U ⟨gs,0,UB⟩) 1 cs)).heap.size=w6.heap.size:=Ui;clear b4 bf B aa y b2 b3;rw[<- ag] at f;clear ag;generalize w6.setCell ⟨b,4,UB⟩ _=Y at *;have DY:=aB (H.out.later a.out.bl);obtain⟨_,b1,b2,b3,b4,_⟩:=a.out.qN;have n2:=DY.out.rd.c2;have n3:=DY.out.rd.c3;have AK:=aB (DY.out.asked name u);have WA:=aB DY.out.waiting;have FT:=aB (DY.out.fits (u:=u) (cb:=cs) name RS.out Ui Uh hu.2);refine AK.out.mono ?_;rintro e w7 ⟨rfl,rfl⟩;clear AK;generalize aA.eW s.ts name u=an at *;generalize aA.fH s.es=wn at *;generalize aA.eT s.ts s.es name u [(fr,til)]=fb at *;go_upto_block 1 with fail;go_cut [9,10,11] from 65 to 104 (fun v9 _ _ wx=>v9=V UV i/\KP w wx [(b,qh k name u (UO (U ⟨gs,0,UB⟩) 1 cs) T),(w.heap.size,bI)]/\iW wx gs [(fr,til)]/\gs<wx.heap.size)
   case first =>
    by_cases S:an=0
    .subst S
     by_cases q2:til<=fr
     .have p:i=6:=by rw[jG.out];simp[q2]
      go_wp2;go_meet;exact⟨by rw[p],a.out,RS.out,f⟩
     .by_cases A:1048320<NL
      .have p:i=6:=by rw[jG.out];simp[A]
       rw[aq.out] at A;try simp only[Yj] at A
       try (exfalso;omega)
       all_goals go_wp2;go_meet;exact⟨by rw[p],a.out,RS.out,f⟩
      .rw[Uy Ui,Uy (by simp only[not_or];exact⟨q2,A⟩)] at jG;rw[aq.out] at A
       try simp only[Yj] at A
       by_cases K:s.given=60
       .have p:i=5:=by rw[jG.out,Uz K]
        have ax:(s.given==60)=UE:=by simpa using K
        go_wp2;go_meet;exact⟨by rw[p],a.out,RS.out,f⟩
       .rw[Uy K] at jG;have ax:(s.given==60)=UD:=by simpa using K
        by_cases I:k=3
        .skip
         all_goals
          rw[Uz I] at jG;have aw:(k==3)=UE:=by simpa using I
          by_cases E:wn=6
          .have p:i=5:=by rw[jG.out,Uz E]
           have av:(wn==6)=UE:=by simpa using E
           go_wp2_with fail;refine WA.out.mono ?_;rintro e w8 ⟨rfl,rfl⟩;go_wp2;go_meet;exact⟨by rw[p],a.out,RS.out,f⟩
          .have p:i=0:=by rw[jG.out,Uy E]
           have av:(wn==6)=UD:=by simpa using E
           go_wp2_with fail;refine WA.out.mono ?_;rintro e w8 ⟨rfl,rfl⟩;go_wp2;go_meet;exact⟨by rw[p],a.out,RS.out,f⟩
        .skip
         all_goals
          rw[Uy I] at jG;have aw:(k==3)=UD:=by simpa using I
          go_wp2_with fail;refine FT.out.mono ?_;rintro e w8 ⟨rfl,C⟩;have L8:=aB (Vf (a.out.later C) (Vf (RS.out.later C) (zL f C.size)));clear C
          cases fb
          .have p:i=8:=by rw[jG.out];rfl
           go_wp2;go_meet;exact⟨by rw[p],L8.out⟩
          .have p:i=0:=by rw[jG.out];rfl
           go_wp2;go_meet;exact⟨by rw[p],L8.out⟩
    .have p:i=an:=by rw[jG.out,Uz S]
     have ba:(an != 0)=UE:=by simpa using S
     go_wp2;go_meet;exact⟨by rw[p],a.out,RS.out,f⟩
   case rest =>
    obtain⟨rfl,D,hR,ak⟩:=hcut;have DC:=aB (H.out.later D.bl);have Q1:=aB (Q7.of (D.kb (w.heap.size,bI) Ui));have HP:=aB (Vf D (Vf hR ak));obtain⟨x0,x1,x2,x3,x4,x5⟩:=D.qN;clear D hR ak b1 b2 b3 b4 n2 n3 WA FT jG;by_cases he:i=0
    .subst he;have E9:=aB (ar.out.2 rfl)
     have aj:Hid (s.es.length<60):=by show _<_;have:=au.out rfl;omega
     have JN:Hid (UI prog 119 #[UM (U ⟨d,0,UB⟩),.agg #[V UV 0,V UV k,UQ name,V UV u,UO (U ⟨gs,0,UB⟩) 1 cs,V UV T]] wc fun e w'=>e=UW (uw 0 (s.given+1))/\vz wc d s.ts (xs++[(⟨s.given+1,k,name,u,[(fr,til)],T⟩,gs,cs)]) (s.given+1) s.now F w'):=(Hj d s.ts xs s.given s.now F (⟨0,k,name,u,[(fr,til)],T⟩,gs,cs) wc DC.out.rd HP.out.2.1 (fun e=>by have:=H.out.lt gs e;omega) HP.out.2.2 DC.out.lt (by have:=H.out.len;have:=H.out.el;omega) hg.1 Uh);go_wp2_with fail;refine JN.out.mono ?_;rintro e w8 ⟨rfl,hj⟩;obtain⟨F',hJ,ad,hO⟩:=DC.out.nB (x:=(⟨0,k,name,u,[(fr,til)],T⟩,gs,cs)) ⟨hu.1,hu.2,by simp,by simp,by simp;omega⟩ aj.out hj;have ao:w.heap.size ∉ F:=fun e=>by have:=H.out.lt _ e;omega
     have a4:=hO.block w.heap.size (U1 _ _ Q1.out.q0) ao;have bc:=HP.out.1.bl.size;have bn:w.heap.size<wc.heap.size:=U1 _ _ Q1.out.q0;have HF:Hid (eK w d F xs (aA.lS s ⟨0,k,name,u,[(fr,til)],T⟩) (UW (bT 0 0 (s.given+1) aV aV aV aV)) (dE w8 w.heap.size (V UV 0) (V UV 0) (V UV (s.given+1)) aV aV aV aV)):=by
      refine hJ.oM (fun x r=>(ad x r).imp id (fun e=>by omega)) ((aH.aD HP.out.1.bl).trans hO) (zq _) (fun e=>?_) (fun x r e=>?_) (fun x r=>?_) 0 (s.given+1) _ _ _ _ _ _ _
      .rcases ad _ e with e|e
       .exact ao e
       .omega
      .rcases Vb.1 r with r|r
       .have:=(H.out.rd.sp x r).2.2;omega
       .simp only[X9] at r;subst r;simp only at e;omega
      .rcases Vb.1 r with r|r
       .exact .inl ⟨x,r,rfl⟩
       .simp only[X9] at r;subst r;exact .inr (by simp only;omega)
     obtain⟨q0,S,q2,A,K,I,E,fq⟩:=Q1.out.later a4;simp only[uw];clear hJ ad hO hj JN;go_wp2_with fail;exact cV results65 ⟨q0,S,q2,A,K,I,E,fq⟩ (by rw[E9.out];exact HF.out)
    .have bj:(i != 0)=UE:=by simpa using he
     have HF:Hid (eK w d F xs (s,⟨i,0,0,[],[],[],[]⟩) (UW (bT i 0 0 aV aV aV aV)) (dE wc w.heap.size (V UV i) (V UV 0) (V UV 0) aV aV aV aV)):=H.out.said HP.out.1.bl (zq _) i 0 (V UV i) (V UV 0) (V UV 0) aV aV aV aV;have E9:=aB (ar.out.1 he);obtain⟨q0,S,q2,A,K,I,E,fq⟩:=Q1.out;clear he;go_wp2_with fail;exact cV results65 ⟨q0,S,q2,A,K,I,E,fq⟩ (by rw[E9.out];exact HF.out)
theorem KP.off{f:UF}{L:J (M × Obj)}(h:KP w wx L)(k:aH G wx f)(j:∀ x∈G,w<=x)(i:∀ q∈L,q.1 ∉ G):KP w f L :=⟨h.bl.trans (B6 k h.bl.size j),fun q a=>(k.block _ (h.lt a) (i q a)).trans (h.kb q a),h.lo,h.nd⟩
theorem KP.tail{q:M × Obj}{L:J (M × Obj)}(h:KP w wx (q :: L)):KP w wx L:=h.less (List.sublist_cons_self ..)
theorem DD.rS{wc p:UF}{xs:J (aQ × M × M)}(H:DD w d s xs F){e:aQ}{q cs:M}(r:UH w w wc)(y:w<q)(z:w<wc.heap.size)(h:EB e)(t:s.es.length<60)(u:vz wc d s.ts (xs++[({ e with id:=s.given+1 },q,cs)]) (s.given+1) s.now F p)(a b c f g i j:UG):eK w d F xs (aA.lS s e) (UW (bT 0 0 (s.given+1) aV aV aV aV)) (dE p w a b c f g i j)/\p.heap[w.heap.size]?=wc.heap[w.heap.size]?:=by
 let⟨F',hJ,hF',hO⟩:=(H.later r).nB (x:=(e,q,cs)) h t u;have o:w.heap.size ∉ F:=fun e=>by have:=H.lt _ e;omega
 refine⟨hJ.oM (fun x h=>(hF' x h).imp id (fun e=>by omega)) ((aH.aD r).trans hO) aJ (fun e=>?_) (fun x h e=>?_) (fun x h=>?_) 0 (s.given+1) _ _ _ _ _ _ _,hO.block _ z o⟩
 .rcases hF' _ e with e|e
  .exact o e
  .omega
 .rcases Vb.1 h with h|h
  .have:=(H.rd.sp x h).2.2;omega
  .rw[X9.1 h] at e;simp only at e;omega
 .rcases Vb.1 h with h|h
  .exact .inl ⟨x,h,rfl⟩
  .rw[X9.1 h];exact .inr Uo
theorem Qs{xs:J (aQ × M × M)}(h:DD w d s xs F)(hg:0<=s.given/\s.given<=60)(bs:(s.es.length:Ux)<=s.given)(hc:∀ j,j<n->w.cell? ⟨g,j,UB⟩=U (UQ (ws j)))(f:∀ j,(ws j).size<=160)(hr:uo ws 3 k pc acc tm)(hn:k+7<n)(hu:1<=cB (ws 2) 1 7/\cB (ws 2) 1 7<=9)(hf:Rd.hH (mK ws 3 k pc acc tm)):UI prog 66 #[UM (U ⟨d,0,UB⟩),UO (U ⟨g,0,UB⟩) n c] w (eK w d F xs (aX s (.series (ws 1) (cB (ws 2) 1 7) (mK ws 3 k pc acc tm)))):=by
 have P0:=aB ((KP.nil w).alloc bI);have H:=aB h;have RL:Hid (∀ W,UH w.heap.size w W->UI prog 72 #[UO (U ⟨g,0,UB⟩) n c,UL Y 3] W fun e w'=>e=UW (pt (mK ws 3 k pc acc tm))/\UH W.heap.size W w'):=fun W kW=>Ir (i:=3) (fun j hj=>aT kW (hc j hj)) f Uh hr hn;have DY:=aB (fun W=>Hg _ hf W);have hk:3+2<=k:=by rcases hr.hk with e|e <;> omega
 have i1:(1:Ux)<(n:Ux):=Uh;have i2:(2:Ux)<(n:Ux):=Uh;have y1:=aT P0.out.bl (hc 1 Uh);have y2:=aT P0.out.bl (hc 2 Uh);have NM:=aB (fun wx=>gC (ws 2) 1 7 wx (f 2) Uh Uh);generalize cB (ws 2) 1 7=u at *;generalize ws 1=name at *;generalize ws 2=ut at *;generalize mK ws 3 k pc acc tm=q at *;simp only[pt,sP] at RL DY;have B:=aB (Vf hf (Rd.sF hf).2);clear h hc f hr hf hk hn;go_in;go_upto_region 1 with fail;change YD _ _ _ _ (w.alloc bI);generalize w.alloc bI=X at *;go_cut [5] from 12 to 19 (fun v5 wx=>∃ b,v5=UM (U ⟨b,0,UB⟩)/\KP w wx [(b,qh 1 name u aV 0),(w.heap.size,bI)])
 case first =>
  have bn:∀ o,(X.alloc o).cell? ⟨g,1,UB⟩=U (UQ name):=fun o=>aT ((zr _ _).alloc (zq _) _) y1;have bm:∀ o,(X.alloc o).cell? ⟨g,2,UB⟩=U (UQ ut):=fun o=>aT ((zr _ _).alloc (zq _) _) y2;go_region_with (first
   |(go_at_call 49;refine (NM.out _).mono ?_;rintro e w4 ⟨rfl,A⟩;have PB:=aB (((P0.out.alloc _).later (eN _)).later A);have bz:=Ci A;have b0:=ta bz;have b1:=s7 bz;have b2:=ux bz;have b3:=uy bz;have b4:=uz bz;have b5:=s8 bz;have bf:=xE bz;have kX:UH X.heap.size X w4:=bU ((zr _ _).alloc (zq _) _).drew A (zq _);have ag:=aT kX y1;clear A)
   |(go_at_call 49;refine (NM.out _).mono ?_;rintro e w4 ⟨rfl,A⟩;have kX:UH X.heap.size X w4:=bU (eN X) A (zq _);have ag:=aT kX y1;have yB:∀ o,(w4.alloc o).cell? ⟨g,1,UB⟩=U (UQ name):=fun o=>aT ((zr _ _).alloc (zq _) _) ag))
  all_goals
   go_wp2;go_meet;first
    |(have PB:=PB.out.rV (UL Y 0) (UL Y 1) (UQ name) (UL Y u) aV (UL Y 0);exact⟨_,rfl,PB⟩)
    |exact⟨_,rfl,(P0.out.later kX).alloc _⟩
 case rest =>
  obtain⟨b,rfl,hP⟩:=hcut;have HP:=aB hP;clear hP y1 y2 P0 NM;obtain⟨_,_,b2,b3,_,_⟩:=HP.out.qN;have AK:=aB ((H.out.later HP.out.bl).asked name u);have SD:Hid (∀ er Z,KP w Z [(w.heap.size,bI)]->aX s (.series name u q)=(s,bS.error er)->eK w d F xs (aX s (.series name u q)) (UW (bT er 0 0 aV aV aV aV)) (dE Z w.heap.size (UL Y er) (UL Y 0) (UL Y 0) aV aV aV aV)/\Q7 Z w.heap.size):=fun er Z k e=>⟨by rw[e];exact H.out.said k.bl (zq _) er 0 _ _ _ _ _ _ _,Q7.of k.oZ⟩;have D1:Hid (aA.eW s.ts name u≠0->aX s (.series name u q)=(s,bS.error (aA.eW s.ts name u))):=fun e=>by simp only[aX,aA.oG,Uz e]
  have D2:Hid (aA.eW s.ts name u=0->Rd.iS q≠0->aX s (.series name u q)=(s,bS.error (Rd.iS q))):=fun e e2=>by simp only[aX,aA.oG,e,ne_eq,not_true_eq_false,if_false,e2,not_false_eq_true,if_true]
  have D3:Hid (aA.eW s.ts name u=0->Rd.iS q=0->s.given=60->aX s (.series name u q)=(s,bS.error 5)):=fun e e2 e3=>by simp[aX,aA.oG,e,e2,e3]
  have D4:Hid (aA.eW s.ts name u=0->Rd.iS q=0->s.given≠60->aX s (.series name u q)=if aA.eT s.ts s.es name u (Rd.jd q (Rd.cN q)) then aA.lS s ⟨0,1,name,u,Rd.jd q (Rd.cN q),0⟩ else (s,bS.error 8)):=fun e e2 e3=>by
   simp only[aX,aA.oG,e,e2,e3,ne_eq,not_true_eq_false,if_false]
   cases aA.eT s.ts s.es name u (Rd.jd q (Rd.cN q)) <;> simp
  go_wp2_with fail;refine AK.out.mono ?_;rintro e w7 ⟨rfl,rfl⟩;clear AK;generalize aA.eW s.ts name u=an at *;by_cases t:an=0
  case neg =>
   have bq:(an != 0)=UE:=by simpa using t
   have E:=aB (SD.out an _ HP.out.tail (D1.out t));clear t;obtain⟨P,t,K,I,r,D,C,T⟩:=E.out.2;go_wp2_with fail;exact cV results66 ⟨P,t,K,I,r,D,C,T⟩ E.out.1
  subst t;clear D1 b2 b3;go_wp2_with fail;refine (RL.out _ HP.out.bl).mono ?_;rintro e w2 ⟨rfl,hb⟩;replace HP:=aB ((HP.out.later hb).alloc (jP q));clear hb RL;go_upto_region 6 with fail;change YD _ _ _ _ (w2.alloc (jP q));obtain⟨rb,ai⟩:∃ rb,rb=w2.heap.size:=⟨_,rfl⟩;rw[<- ai] at HP ⊢;generalize w2.alloc (jP q)=W at *;obtain⟨⟨c0,c1,c9,ae,aa,ba,a9⟩,cJ⟩:=pZ HP.out.oZ;have j0:=cJ 0 Uh;have j1:=cJ 1 Uh;have j2:=cJ 2 Uh;have j3:=cJ 3 Uh;have j4:=cJ 4 Uh;have j5:=cJ 5 Uh;have j6:=cJ 6 Uh;have b6:b<W.heap.size:=HP.out.lt (q:=(b,qh 1 name u aV 0)) Ui;clear cJ ai;go_wp2_with fail;refine (DY.out _).mono ?_;rintro e w3 ⟨au,hd⟩;replace HP:=aB (HP.out.later au);clear c0 c1 c9 ae aa ba a9 j0 j1 j2 j3 j4 j5 j6 DY;rcases hd with ⟨he,v,rfl,ho⟩|⟨he,rfl⟩
  case inr =>
   have E:=aB (SD.out (Rd.iS q) _ HP.out.tail.tail (D2.out Ui he));generalize Rd.iS q=er at *;have bv:(er != 0)=UE:=by simpa using he
   obtain⟨P,t,K,I,r,D,C,T⟩:=E.out.2;clear he;go_wp2_with fail;exact cV results66 ⟨P,t,K,I,r,D,C,T⟩ E.out.1
  obtain⟨_,ax,bi,p⟩:=B.out.2 he;have HO:=aB ho;have LT:=aB p;have HD:=aB he;have MM:=aB (fun i (hi:i<(Rd.cN q).length)=>Vf (Rd.uZ B.out.1 (zg hi)) (Vf B.out.1.m0 (Vf B.out.1.m1 (Vf B.out.1.i1 B.out.1.i2))));obtain⟨va,vc,rfl⟩:=iD ho;have LB:=aB (Vf (HP.out.lo (b,qh 1 name u aV 0) Ui) (Vf (HP.out.lt (q:=(b,qh 1 name u aV 0)) Ui) (Vf (HP.out.lt (q:=(rb,jP q)) Ui) (Vf (HP.out.lt (q:=(w.heap.size,bI)) Ui) HP.out.bl.size))));have bg:Hid (∀ x∈Rd.jd q (Rd.cN q),0<=x.2/\x.2<=2000000):=fun x hx=>by obtain⟨y,hy,rfl⟩:=VQ.1 hx;have:=Rd.uZ B.out.1 hy;have:=p y hy;have:=B.out.1.f0;have:=B.out.1.m0;have:=B.out.1.i1;simp only;omega
  clear ho p he au;have ay:0<(Rd.cN q).length:=Yg.2 ax;go_wp2_with fail;generalize w3=V at *;obtain⟨V0,a8⟩:∃ V0,V0=V:=⟨_,rfl⟩;subst a8;go_loopw [9,10] (fun vi _ wr=>∃ (i:M) (vs:UG),i<=(Rd.cN q).length/\vi=UL Y i/\KP w wr [(b,qh 1 name u vs 0),(rb,jP q),(w.heap.size,bI)]/\wr.ownsRow V0.heap.size 83 2 vs (Rd.jd q ((Rd.cN q).take i)).length ((Rd.jd q ((Rd.cN q).take i)).flatMap lr)/\aH [b] V0 wr) (fun vi _ _=>(Rd.cN q).length-(intOf vi).toNat)
  case atStart=>exact⟨0,aV,VM _,rfl,HP.out.swap,Wc _ _ _ _,aH.refl _ _⟩
  case round =>
   obtain⟨i,vs,hi,rfl,hP,ab,ac⟩:=hrel;have a:=aB (Vf hP (Vf ab ac));clear hP ab ac;by_cases ad:i<(Rd.cN q).length
   .have ak:(i:Ux)<((Rd.cN q).length:Ux):=Uh
    obtain⟨g2,cap,e,y⟩:=uv HO.out (k:=i) (u:=UL Y (Rd.cN q)[i]) (by rw[XT,Wx ad];rfl);simp only[XS,true_and] at e;obtain⟨rfl,rfl⟩:=e;have a4:g2 ∉ [b]:=by have:=gU HO.out (k:=g2) rfl;simp;omega
    have y':=a.out.2.2.cell a4 y;obtain⟨_,_,_,_,b4,_⟩:=a.out.1.qN;obtain⟨⟨_,_,_,ae,aa,_⟩,_⟩:=pZ (a.out.1.kb (rb,jP q) Ui);obtain⟨⟨m1,m2⟩,m3,m4,m5,m6⟩:=MM.out i ad;have bu:=B.out.1.f0;have HT:Hid (Rd.jd q ((Rd.cN q).take (i+1))=Rd.jd q ((Rd.cN q).take i)++[(1440*(Rd.cN q)[i]+q.mn,1440*(Rd.cN q)[i]+q.mn+q.mi)]):=by show _=_;simp only[Rd.jd];rw[VL ad,VU];simp only[Xl,List.map_nil,Int.mul_comm 1440]
    have az:(Rd.jd q ((Rd.cN q).take i)).length<=1000000:=by simp[Rd.jd];omega
    clear y;generalize (Rd.cN q)[i]=x at *;have w1:Y.wrap (1440*x)=1440*x:=dJ Uh Uh;have w2:Y.wrap (1440*x+q.mn)=1440*x+q.mn:=dJ Uh Uh;have w3:Y.wrap (1440*x+q.mn+q.mi)=1440*x+q.mn+q.mi:=dJ Uh Uh;go_upto_region 12 with fail;go_quiet (fail);go_upto_region 13 with fail;generalize av:World.drewN wr _=Wd at *;have kd:Hid (UH wr.heap.size wr Wd):=by rw[<- av];exact ou (zr _ _) _
    clear av;have bc:=aT kd.out b4;have bj:=aT kd.out aa;have NB:Hid (∀ z∈vs.ownBlock.toList,V0.heap.size<=z):=fun z f=>gU a.out.2.1 (Wn.1 f);have ar:b ∉ vs.ownBlock.toList:=fun e=>by have:=NB.out b e;have:=LB.out.2.1;omega
    have PD:=aB (a.out.1.later kd.out);have OD:=aB (fG a.out.2.1 kd.out);have a7:V0.heap.size<=Wd.heap.size:=U0 a.out.2.2.size kd.out.size;clear b4 ae aa;go_wp2_with (first|(at_builtin;refine GU rfl _ _ rfl OD.out (1440*x+q.mn) (1440*x+q.mn+q.mi) rfl rfl az a7 ?_;intro gs cs w6 aj R;have b4:=R.cell ar bc;have bf:=(R.frozen (o:=4) ar (PD.out.lt (q:=(b,qh 1 name u vs 0)) Ui)).trans (PD.out.hf 4)));have P6:=aB (PD.out.off R (fun z f=>U0 LB.out.2.2.2.2 (NB.out z f)) (fun z f e=>by have:=NB.out _ e;have:=LB.out;simp only[Va,List.not_mem_nil,or_false] at f;rcases f with rfl|rfl|rfl <;> simp only at this <;> omega))
    have ao:V0.heap.size<=gs:=gU aj rfl;refine⟨⟨i+1,_,by omega,by go_num,P6.out.put 4 _,?_,?_⟩,by simp[intOf];omega⟩
    .rw[HT.out,VA]
     exact dL aj (aH.bM ..) (fun z f e=>by simp only[V9,ZI] at f;simp only[X9] at e;have:=LB.out.2.1;omega)
    .exact ((a.out.2.2.trans' (aH.aD kd.out) (fun z f=>.inl f)).trans' R (fun z f=>.inr (NB.out z f))).setCell (.inl Ui) _ _
   .have a3:i=(Rd.cN q).length:=Uh
    subst a3;have ak:¬ (((Rd.cN q).length:M):Ux)<((Rd.cN q).length:Ux):=Uh;have hL:(Rd.jd q (Rd.cN q)).length=(Rd.cN q).length:=by simp[Rd.jd]
    rw[Zc] at a;have bh:=aB (D4.out Ui HD.out);have af:Hid ((Rd.jd q (Rd.cN q)).length<=40/\Rd.jd q (Rd.cN q)≠[]):=⟨by omega,fun e=>by rw[e] at hL;simp at hL;omega⟩;generalize Rd.jd q (Rd.cN q)=L at *;rcases a.out.2.1.2 with ⟨_,h0⟩|⟨gs,cs,_,rfl,_⟩
    .omega
    clear hL;obtain⟨b0,b1,b2,b3,b4,b5⟩:=a.out.1.qN;have DW:=aB (H.out.later a.out.1.bl);have n2:=DW.out.rd.c2;have RS:=aB (Ct a.out.2.1).2;have ao:V0.heap.size<=gs:=gU a.out.2.1 rfl;have al:gs<wr.heap.size:=fT a.out.2.1 rfl;by_cases r:s.given=60
    .have aw:(s.given==60)=UE:=by simpa using r
     have E:=aB (SD.out 5 _ a.out.1.tail.tail (D3.out Ui HD.out r));obtain⟨P,t,K,I,r,D,C,T⟩:=E.out.2;go_wp2_with fail;exact cV results66 ⟨P,t,K,I,r,D,C,T⟩ E.out.1
    .have aw:(s.given==60)=UD:=by simpa using r
     have FT:=aB (DW.out.fits (u:=u) (cb:=cs) name RS.out (by have:=af.out.1;omega) Uh hu.2);have DF:=aB (bh.out r);generalize aA.eT s.ts s.es name u L=fb at *;go_wp2_with fail;refine FT.out.mono ?_;rintro e w8 ⟨rfl,S⟩;have K8:=aB (a.out.1.later S);have R8:=aB (Vf (RS.out.later S) (Vf (zL al S.size) ao));clear S
     cases fb
     .have E:=aB (SD.out 8 _ K8.out.tail.tail (DF.out.trans Ui));obtain⟨P,t,K,I,r,D,C,T⟩:=E.out.2
      go_wp2_with fail;exact cV results66 ⟨P,t,K,I,r,D,C,T⟩ E.out.1
     .have aq:Hid (s.es.length<60):=by show _<_;omega
      have DC:=aB (H.out.later K8.out.bl);have JN:Hid (UI prog 119 #[UM (U ⟨d,0,UB⟩),.agg #[UL Y 0,UL Y 1,UQ name,UL Y u,UO (U ⟨gs,0,UB⟩) L.length cs,UL Y 0]] w8 fun e w'=>e=UW (uw 0 (s.given+1))/\vz w8 d s.ts (xs++[(⟨s.given+1,1,name,u,L,0⟩,gs,cs)]) (s.given+1) s.now F w'):=(Hj d s.ts xs s.given s.now F (⟨0,1,name,u,L,0⟩,gs,cs) w8 DC.out.rd R8.out.1 (fun e=>by have:=H.out.lt gs e;have:=LB.out.2.2.2.2;omega) R8.out.2.1 DC.out.lt (by have:=H.out.len;have:=H.out.el;omega) hg.1 Uh);obtain⟨x0,x1,x2,x3,x4,x5⟩:=K8.out.qN;have Q1:=aB (Q7.of (K8.out.kb (w.heap.size,bI) Ui));clear b0 b1 b2 b3 b4 b5 n2;go_wp2_with fail;refine JN.out.mono ?_;rintro e w9 ⟨rfl,hj⟩;have JA:=aB (H.out.rS (e:=⟨0,1,name,u,L,0⟩) K8.out.bl (by have:=LB.out.2.2.2.1;omega) (K8.out.lt (q:=(w.heap.size,bI)) Ui) ⟨hu.1,hu.2,af.out.1,af.out.2,bg.out⟩ aq.out hj (UL Y 0) (UL Y 0) (UL Y (s.given+1)) aV aV aV aV);obtain⟨P,t,K,I,r,D,C,T⟩:=Q1.out.later JA.out.2;simp only[uw];clear hj JN x0 x1 x2 x3 x4 x5;go_wp2_with fail;exact cV results66 ⟨P,t,K,I,r,D,C,T⟩ (by rw[DF.out];exact JA.out.1)
theorem DD.days{xs:J (aQ × M × M)}(h:DD w d s xs F)(q:UH w.heap.size w Z){B:M}(p:Z.ownsRow B 3 1 v l.length (l.map (V Y)))(H:w.heap.size<=Q)(I:Q<B)(n:Ux)(a b c e f g i:UG):eK w d F xs (s,{ bS.num n with days:=l }) (UW (bT 0 0 n aV v aV aV)) (dE Z Q a b c e f g i):=by
 have o:=mY Z Q a b c e f g i;have u:∀ x,x<w.heap.size->x ∉ [Q]:=fun x j e=>by grind
 have t:∀ x∈v.ownBlock.toList,B<=x/\x<Z.heap.size:=fun x j=>⟨gU p (Wn.1 j),fT p (Wn.1 j)⟩;refine⟨aV,v,aV,aV,xs,F,v.ownBlock.toList,rfl,fun E C=>⟨⟨[],EV.nil _,rfl⟩,⟨(NV.own p).form,fun k A=>?_⟩,NV.nil _⟩,Wc _ _ _ _,(h.later q).off o (fun x j=>u x (h.lt x j)) (fun x j=>u _ (h.rd.sp x j).2.2),fun _ j=>.inl j,(aH.aD q).trans' o (fun x j=>.inr Uo),fun x j=>?_,fun x j=>by simp[V9] at j,fun x j=>.inl ⟨x,j,rfl⟩⟩
 .obtain⟨y,cap,z,D⟩:=(NV.own p).cell k A;have r:y∈v.ownBlock.toList:=by rw[z];simp[V9]
  have:=t y r;exact⟨y,cap,z,(zo ((C y r).trans (o.block y this.2 Un))).trans D⟩
 .have:=t x j;exact⟨by omega,VP this.2 o.size,fun e=>by have:=h.lt x e;omega,by simp[V9]⟩
theorem QR{xs:J (aQ × M × M)}(h:DD w d s xs F)(y:∀ j,j<n->w.cell? (g,j)=U (UQ (ws j)))(hz:∀ j,(ws j).size<=160)(hr:uo ws 1 k pc acc tm)(hn:k+7<n)(h0:ws 0=⟨#[101,120,112,97,110,100]⟩)(x:Rd.hH (mK ws 1 k pc acc tm)):UI prog 38 #[d,UO g n c] w (eK w d F xs (aX s (.expand (mK ws 1 k pc acc tm)))):=by
 have r:=aB ((KP.nil w).alloc bI);have H:=aB h;have RL:Hid (∀ W,UH w w W->UI prog 72 #[UO g n c,V Y 1] W fun e w'=>e=UW (pt (mK ws 1 k pc acc tm))/\UH W W w'):=fun W kW=>Ir (i:=1) (fun j hj=>aT kW (y j hj)) hz Uh hr hn;have E:=aB (fun W=>Hg _ x W);have i0:(0:Ux)<(n:Ux):=Uh;have I:=aT r.bl (y 0 Uh);rw[h0] at I;generalize mK ws 1 k pc acc tm=q at *;simp only[pt,sP] at RL E;have ES:=aB (Rd.sF x).2;clear h y hz hr x hn h0;go_in;go_upto_region 1 with fail;change YD _ _ _ _ (w.alloc bI);generalize w.alloc bI=X at *;go_wp21;refine aK (RL _ r.bl) fun t hb=>?_;have HP:=aB ((r.later hb).alloc (jP q));clear hb RL r I;go_upto_region 24 with fail;change YD _ _ _ _ (t.alloc (jP q));obtain⟨K,p⟩:∃ K,K=t.heap.size:=⟨_,rfl⟩;rw[<- p] at HP ⊢;generalize t.alloc (jP q)=W at *;obtain⟨⟨c0,c1,c9,C,B,A,z⟩,a⟩:=pZ HP.out.oZ;have j0:=a 0 Uh;have j1:=a 1 Uh;have j2:=a 2 Uh;have j3:=a 3 Uh;have j4:=a 4 Uh;have j5:=a 5 Uh;have j6:=a 6 Uh;have hQ:=HP.out.lt (q:=(w.heap.size,bI)) Ui;clear a p;go_wp21;refine (E _).mono ?_;rintro e w3 ⟨f,hd⟩;replace HP:=aB (HP.later f);clear c0 c1 c9 C B A z j0 j1 j2 j3 j4 j5 j6 E;obtain⟨q0,q1,q2,T,S,R,P,fq⟩:=Q7.of (HP.kb (w,bI) Ui);rcases hd with ⟨o,v,rfl,u⟩|⟨o,rfl⟩
 .have aa:=(ES o).2.2.1
  have D:Hid (eK w d F xs (aX s (.expand q)) (UW (bT 0 0 (Rd.cN q).length aV v aV aV)) (dE w3 w (V Y 0) (V Y 0) (V Y (Rd.cN q).length) aV v aV aV)):=by
   have e:aX s (.expand q)=(s,{ bS.num (Rd.cN q).length with days:=Rd.cN q }):=by simp[aX,o]
   rw[e];exact H.out.days HP.out.bl u (zq _) hQ _ _ _ _ _ _ _ _
  obtain⟨va,vc,rfl⟩:=iD u;clear u o f;generalize (Rd.cN q).length=m at *;go_wp21;exact cV results38 ⟨q0,q1,q2,T,S,R,P,fq⟩ D
 .have D:Hid (eK w d F xs (aX s (.expand q)) (UW (bT (Rd.iS q) 0 0 aV aV aV aV)) (dE w3 w (V Y (Rd.iS q)) (V Y 0) (V Y 0) aV aV aV aV)):=by
   have e:aX s (.expand q)=(s,bS.error (Rd.iS q)):=by simp[aX,o]
   rw[e];exact H.said HP.bl aJ _ 0 _ _ _ _ _ _ _
  clear o f;generalize Rd.iS q=er at *;go_wp21;exact cV results38 ⟨q0,q1,q2,T,S,R,P,fq⟩ D
namespace aA
theorem Ih(tq:Ux)(e:aQ):∀ l:J aQ,eL tq (l++[e])=if e.kind≠1/\e.bY<eL tq l then e.bY else eL tq l
 |[]=>rfl
 |a :: l=>by have ih:=Ih tq e l;have f:eL tq (a :: l++[e])=if a.kind≠1/\a.bY<eL tq (l++[e]) then a.bY else eL tq (l++[e]):=rfl;have h:eL tq (a :: l)=if a.kind≠1/\a.bY<eL tq l then a.bY else eL tq l:=rfl;rw[f,ih];generalize eL tq (a :: l)=y at *;generalize eL tq l=x at *;subst h;by_cases p:a.kind=1 <;> by_cases q:e.kind=1 <;> simp only[p,q,ne_eq,not_true_eq_false,not_false_eq_true,true_and,false_and,if_false] <;> (repeat' split) <;> omega
theorem GA{α:Type}(f:α->Ux):∀ {l:J α},(l.map f).Nodup->∀ x∈l,∀ y∈l,f x=f y->x=y
 |a :: l,h,x,hx,y,hy,e=>by
  rw[Xl,List.nodup_cons] at h;rcases Va.1 hx with rfl|j <;> rcases Va.1 hy with rfl|i
  .rfl
  .exact (h.1 (e ▸ VQ.2 ⟨y,i,rfl⟩)).elim
  .exact (h.1 (e ▸ VQ.2 ⟨x,j,rfl⟩)).elim
  .exact GA f h.2 x j y i e
theorem Oj{α:Type}(f:α->Ux)(p:α->Uv){l:J α}(h:(l.map f).Nodup):l.filter (fun x=>!((l.filter p).map f).contains (f x))=l.filter fun x=>!p x:=by refine X0 fun x a=>?_;congr 1;rw[Bool.eq_iff_iff,List.contains_iff_mem,VQ];constructor;rintro ⟨y,i,e⟩;let⟨hy1,hy2⟩:=Xb.1 i;rw[<- GA f h y hy1 x a e];exact hy2;intro j;exact⟨x,Xb.2 ⟨a,j⟩,rfl⟩
theorem OI(es:J aQ)(L:J Ux)(z:Ux):es.filter (fun e=>!(L++[z]).contains e.id)=(es.filter (fun e=>!L.contains e.id)).filter (fun e=>e.id != z):=by rw[List.filter_filter];refine X0 fun e _=>?_;by_cases f:e.id∈L <;> by_cases a:e.id=z <;> simp[f,a]
theorem Om{now:Ux}(h:now<tq):gd ts (k+1) es now tq=((gd ts k (dS ts (es.filter fun e=>!cA (eL tq es) e)).1 (eL tq es) tq).1,(es.filter (cA (eL tq es))).map (·.id)++(gd ts k (dS ts (es.filter fun e=>!cA (eL tq es) e)).1 (eL tq es) tq).2.1,(dS ts (es.filter fun e=>!cA (eL tq es) e)).2++(gd ts k (dS ts (es.filter fun e=>!cA (eL tq es) e)).1 (eL tq es) tq).2.2):=by simp only[gd,Uz h]
theorem B7{now:Ux}(h:¬ now<tq):gd ts k es now tq=(es,[],[]):=by
 cases k with
 |zero=>rfl
 |succ k=>simp only[gd,Uy h]
theorem GK(tq:Ux):∀ es:J aQ,eL tq es<=tq/\(∀ e∈es,e.kind≠1->eL tq es<=e.bY)/\(eL tq es=tq\/∃ e∈es,cA (eL tq es) e=UE)
 |[]=>⟨W5 _,by simp,.inl rfl⟩
 |a :: l=>by
  let⟨i1,i2,i3⟩:=GK tq l;simp only[eL];split
  .rename_i h
   refine⟨Uh,fun e f i=>?_,.inr ⟨a,XF,by simp[cA,h.1]⟩⟩;rcases Va.1 f with rfl|f
   .omega
   .have:=i2 e f i;omega
  .rename_i h
   refine⟨i1,fun e f i=>?_,i3.imp id fun ⟨e,f,j⟩=>⟨e,Wm _ f,j⟩⟩;rcases Va.1 f with rfl|f
   .rcases Int.lt_or_le e.bY (eL tq l) with q|q
    .exact (h ⟨i,q⟩).elim
    .exact q
   .exact i2 e f i
end aA
open aA (aQ St bS dS)
def sQ(tq:Ux)(v5 v6:UG):Obj:=UX #[V Y 0,V Y 0,tq,aV,aV,v5,v6] 74 (0,0)
structure ik(w:UF)(d:M)(F:J M)(xs:J (aQ × M × M))(tq:Ux)(s:St)(gr en:J Ux)(ys:J (aQ × M × M))(F':J M)(v5 v6:UG)(N:M)(wr:UF):Prop where
 dd:DD wr d s ys F'
 hF:∀ k∈F',k<N/\(k∈F\/w+2<=k)
 off:aH F w wr
 bo:Cf ys xs
 kb:wr.heap[w.heap.size+1]?=U (sQ tq v5 v6)
 kq:wr.heap[w.heap.size]?=U bI
 r5:wr.ownsRow (w.heap.size+2) 3 1 v5 gr.length (gr.map (V Y))
 r6:wr.ownsRow (w.heap.size+2) 3 1 v6 en.length (en.map (V Y))
 a5:∀ k,v5.ownBlock=U k->k<N/\k ∉ F'/\v6.ownBlock≠U k
 a6:∀ k,v6.ownBlock=U k->k<N/\k ∉ F'
 hN:w+2<=N/\N<=wr
 hx:∀ x∈xs,x.2.1<w
 hf:∀ k∈F,k<w
section
variable {w wr w':UF}{d:Uw}{F:Ut Uw}{xs ys:Ut (aQ × Uw × Uw)}{tq:Ux}{s:St}{gr en:Ut Ux}{F':Ut Uw}{v5 v6:UG}{N:Uw}
theorem ik.sp(h:ik w d F xs tq s gr en ys F' v5 v6 N wr):∀ x∈ys,x.2.1<w:=fun x a=>by let⟨z,hz,e⟩:=h.bo x a;rw[e];exact h.hx z hz
theorem ik.nF(h:ik w d F xs tq s gr en ys F' v5 v6 N wr)(a:w<=k)(f:k<w+2):k ∉ F':=fun e=>by
 rcases (h.hF k e).2 with q|q
 .have:=h.hf k q;omega
 .omega
theorem ik.new(h:ik w d F xs tq s gr en ys F' v5 v6 N wr)(k:aH G wr w')(o:∀ x∈G,N<=x):ik w d F xs tq s gr en ys F' v5 v6 N w':=by
 have a:∀ x,x<N->x ∉ G:=fun x f e=>by grind
 have j:=h.hN;exact⟨h.dd.off k (fun x f=>a x (h.hF x f).1) (fun x f=>a _ (by have:=h.sp x f;omega)),h.hF,h.off.trans' k (fun x f=>.inr Uo),h.bo,(k.block _ Uh (a _ Uh)).trans h.kb,(k.block _ Uh (a _ Uh)).trans h.kq,dL h.r5 k (fun b i=>a b (h.a5 b i).1),dL h.r6 k (fun b i=>a b (h.a6 b i).1),h.a5,h.a6,⟨j.1,U0 j.2 k.size⟩,h.hx,h.hf⟩
theorem ik.later(h:ik w d F xs tq s gr en ys F' v5 v6 N wr)(k:UH wr wr w'):ik w d F xs tq s gr en ys F' v5 v6 N w':=h.new (G:=[]) (aH.aD k) Ui
theorem ik.own(h:ik w d F xs tq s gr en ys F' v5 v6 N wr){i:St}{zs:J (aQ × M × M)}(k:aH F' wr w')(o:DD w' d i zs F')(a:Cf zs ys):ik w d F xs tq i gr en zs F' v5 v6 N w':=by
 have j:=h.hN;exact⟨o,h.hF,h.off.trans' k (fun x f=>(h.hF x f).2.imp id (fun e=>by omega)),fun x f=>by let⟨y,hy,e⟩:=a x f;let⟨z,hz,e2⟩:=h.bo y hy;exact⟨z,hz,e.trans e2⟩,(k.block _ Uh (h.nF Uh Uh)).trans h.kb,(k.block _ Uh (h.nF Uh Uh)).trans h.kq,dL h.r5 k (fun b a=>(h.a5 b a).2.1),dL h.r6 k (fun b a=>(h.a6 b a).2),h.a5,h.a6,⟨j.1,U0 j.2 k.size⟩,h.hx,h.hf⟩
theorem DD.now(h:DD wr d s ys F')(t:Ux):DD (wr.setCell (d,3) t) d { s with now:=t } ys F':=by
 have k:aH [d] wr (wr.setCell (d,3) t):=aH.bM ..;let⟨v1,a1,a2,a3⟩:=h.rd.tv;let⟨v2,b1,b2,b3⟩:=h.rd.ev;exact⟨⟨⟨v1,(bC Ui).trans a1,dL a2 k (fun b f=>by grind),a3⟩,⟨v2,(bC Ui).trans b1,dL b2 k (fun b f=>by grind),b3⟩,(bC Ui).trans h.rd.c2,Ve _ _ _ h.rd.c3,fun o=>(zF ..).trans (h.rd.fz o),h.rd.dF,fun x a=>⟨(h.rd.sp x a).1.off k (by simp;intro e;exact (h.rd.sp x a).2.1 (e ▸ h.rd.dF)),(h.rd.sp x a).2.1,VP (h.rd.sp x a).2.2 k.size⟩⟩,h.es,fun x a=>zL (h.lt x a) k.size,h.tl,h.el,h.en⟩
theorem ik.now(h:ik w d F xs tq s gr en ys F' v5 v6 N wr)(t:Ux):ik w d F xs tq { s with now:=t } gr en ys F' v5 v6 N (wr.setCell (d,3) t) :=h.own ((aH.bM d wr 3 _).mono (fun x a=>by rw[X9.1 a];exact h.dd.rd.dF)) (h.dd.now t) (fun x a=>⟨x,a,rfl⟩)
theorem ik.wo(h:ik w d F xs tq s gr en ys F' v5 v6 N wr)(r:Z.ownsRow wr 85 6 v (iB id ys).length ((iB id ys).flatMap fg))(k:UH wr wr Z):ik w d F xs tq { s with es:=s.es.filter fun e=>e.id != id } gr en (iB id ys) (v.ownBlock.toList++F') v5 v6 (Z.setCell (d,1) v).heap.size (Z.setCell (d,1) v):=by
 have C:=h.hN;have j:=h.later k;have p:∀ b∈v.ownBlock.toList,wr<=b/\b<Z:=fun b a=>⟨gU r (Wn.1 a),fT r (Wn.1 a)⟩;have i:aH [d] Z (Z.setCell (d,1) v):=aH.bM ..;have u:d∈F':=h.dd.rd.dF;have z:=h.dd.fresh (s:=s) (es':=s.es.filter fun e=>e.id != id) r aJ k (fun y t=>(Xb.1 t).1) (Wj ..) (by rw[<- h.dd.es,iB,XX];rfl);have B:(Z.setCell (d,1) v).heap.size=Z.heap.size:=Ui;have A:=k.size;have o:∀ x,x ∉ F'->x ∉ [d]:=fun x f e=>f Uo;refine⟨z,fun x f=>?_,j.off.trans' i (fun x f=>by rw[X9.1 f];exact (h.hF d u).2.imp (fun q=>q) (fun e=>by omega)),fun x f=>h.bo x (Xb.1 f).1,(i.block _ Uh (o _ (h.nF Uh Uh))).trans j.kb,(i.block _ Uh (o _ (h.nF Uh Uh))).trans j.kq,dL j.r5 i (fun b a=>o b (h.a5 b a).2.1),dL j.r6 i (fun b a=>o b (h.a6 b a).2),fun b a=>?_,fun b a=>?_,⟨Uh,UY _⟩,h.hx,h.hf⟩
 .rcases Vb.1 f with e|e
  .have:=p x e;exact⟨Uh,.inr Uh⟩
  .have:=h.hF x e;exact⟨Uh,this.2⟩
 .let⟨p1,p2,p3⟩:=h.a5 b a;refine⟨Uh,fun e=>?_,p3⟩;rcases Vb.1 e with e|e
  .have:=p b e;omega
  .exact p2 e
 .let⟨p1,p2⟩:=h.a6 b a;refine⟨Uh,fun e=>?_⟩;rcases Vb.1 e with e|e
  .have:=p b e;omega
  .exact p2 e
theorem ik.EU(h:ik w d F xs tq s gr en ys F' v5 v6 N wr)(r:w'.ownsRow (w.heap.size+2) 3 1 v (en++l).length ((en++l).map (V Y)))(k:aH v6.ownBlock.toList wr w')(o:∀ b,v.ownBlock=U b->v6.ownBlock=U b\/wr<=b):ik w d F xs tq s gr (en++l) ys F' v5 v (w'.setCell (w.heap.size+1,6) v).heap.size (w'.setCell (w.heap.size+1,6) v):=by
 have A:=h.hN;have u:∀ b∈v6.ownBlock.toList,w+2<=b/\b<N/\b ∉ F':=fun b a=>⟨gU h.r6 (Wn.1 a),h.a6 b (Wn.1 a)⟩;have j:aH [w.heap.size+1] w' (w'.setCell (w.heap.size+1,6) v):=aH.bM ..;have z:(w'.setCell (w.heap.size+1,6) v).heap.size=w'.heap.size:=Ui;have y:=k.size;have p:∀ x,x<w.heap.size+2->x ∉ v6.ownBlock.toList:=fun x f e=>by grind
 have i:∀ x,x≠w.heap.size+1->x ∉ [w.heap.size+1]:=fun x f e=>f (X9.1 e);have t:∀ b,v.ownBlock=U b->w+2<=b/\b<w':=fun b a=>⟨gU r a,fT r a⟩;refine⟨(h.dd.off k (fun x f e=>(u x e).2.2 f) (fun x f=>p _ (by have:=h.sp x f;omega))).off j (fun x f=>i x (fun e=>h.nF (k:=x) Uh Uh f)) (fun x f=>i _ (by have:=h.sp x f;omega)),fun x f=>?_,(h.off.trans' k (fun x f=>.inr Uo)).trans' j (fun x f=>.inr Uo),h.bo,?_,(j.block _ Uh (i _ Uh)).trans ((k.block _ Uh (p _ Uh)).trans h.kq),dL (dL h.r5 k (fun b a e=>(h.a5 b a).2.2 (Wn.1 e))) j (fun b a=>i b (by have:=gU h.r5 a;omega)),dL r j (fun b a=>i b Uo),fun b a=>?_,fun b a=>?_,⟨by omega,UY _⟩,h.hx,h.hf⟩
 .have:=h.hF x f;exact⟨Uh,this.2⟩
 .exact nw ((k.block _ Uh (p _ Uh)).trans h.kb) v
 .let⟨p1,p2,p3⟩:=h.a5 b a;refine⟨Uh,p2,fun e=>?_⟩;rcases o b e with q|q
  .exact p3 q
  .omega
 .have:=t b a;refine⟨Uh,fun e=>?_⟩;rcases o b a with q|q
  .exact (h.a6 b q).2 e
  .have:=h.hF b e;omega
theorem ik.EW(h:ik w d F xs tq s gr en ys F' v5 v6 N wr)(r:w'.ownsRow (w.heap.size+2) 3 1 v (gr++l).length ((gr++l).map (V Y)))(k:aH v5.ownBlock.toList wr w')(o:∀ b,v.ownBlock=U b->v5.ownBlock=U b\/wr<=b):ik w d F xs tq s (gr++l) en ys F' v v6 (w'.setCell (w.heap.size+1,5) v).heap.size (w'.setCell (w.heap.size+1,5) v):=by
 have A:=h.hN;have t:∀ b∈v5.ownBlock.toList,w+2<=b/\b<N/\b ∉ F'/\v6.ownBlock≠U b:=fun b a=>⟨gU h.r5 (Wn.1 a),h.a5 b (Wn.1 a)⟩;have j:aH [w.heap.size+1] w' (w'.setCell (w.heap.size+1,5) v):=aH.bM ..;have z:(w'.setCell (w.heap.size+1,5) v).heap.size=w'.heap.size:=Ui;have y:=k.size;have p:∀ x,x<w.heap.size+2->x ∉ v5.ownBlock.toList:=fun x f e=>by grind
 have i:∀ x,x≠w.heap.size+1->x ∉ [w.heap.size+1]:=fun x f e=>f (X9.1 e);have u:∀ b,v.ownBlock=U b->w+2<=b/\b<w':=fun b a=>⟨gU r a,fT r a⟩;refine⟨(h.dd.off k (fun x f e=>(t x e).2.2.1 f) (fun x f=>p _ (by have:=h.sp x f;omega))).off j (fun x f=>i x (fun e=>h.nF (k:=x) Uh Uh f)) (fun x f=>i _ (by have:=h.sp x f;omega)),fun x f=>?_,(h.off.trans' k (fun x f=>.inr Uo)).trans' j (fun x f=>.inr Uo),h.bo,?_,(j.block _ Uh (i _ Uh)).trans ((k.block _ Uh (p _ Uh)).trans h.kq),dL r j (fun b a=>i b Uo),dL (dL h.r6 k (fun b a e=>(t b e).2.2.2 a)) j (fun b a=>i b (by have:=gU h.r6 a;omega)),fun b a=>?_,fun b a=>?_,⟨by omega,UY _⟩,h.hx,h.hf⟩
 .have:=h.hF x f;exact⟨Uh,this.2⟩
 .exact nw ((k.block _ Uh (p _ Uh)).trans h.kb) v
 .have:=u b a;refine⟨Uh,fun e=>?_,fun e=>?_⟩
  .rcases o b a with q|q
   .exact (h.a5 b q).2.1 e
   .have:=h.hF b e;omega
  .rcases o b a with q|q
   .exact (h.a5 b q).2.2 e
   .have:=(h.a6 b e).1;omega
 .let⟨p1,p2⟩:=h.a6 b a;exact⟨Uh,p2⟩
theorem ik.uN(h:ik w d F xs tq s gr en ys F' v5 v6 N wr)(a b c e f g i:UG):eK w d F xs (s,{ bS.num tq with granted:=gr,ended:=en }) (UW (bT 0 0 tq aV aV v5 v6)) (dE wr w.heap.size a b c e f g i):=by
 have o:=mY wr w.heap.size a b c e f g i;have I:=h.hN;have r:∀ x,x≠w.heap.size->x ∉ [w.heap.size]:=fun x j q=>j (X9.1 q);have u:∀ y∈v6.ownBlock.toList,w.heap.size+2<=y/\y<wr.heap.size:=fun y p=>⟨gU h.r6 (Wn.1 p),fT h.r6 (Wn.1 p)⟩;refine⟨aV,aV,v5,v6,ys,F',v6.ownBlock.toList,rfl,fun H D=>⟨⟨[],EV.nil _,rfl⟩,NV.nil _,⟨(NV.own h.r6).form,fun k t=>?_⟩⟩,uC (dL h.r5 o (fun b C=>r b (by have:=gU h.r5 C;omega))) Uh,h.dd.off o (fun x j=>r x (fun e=>h.nF (k:=x) Uh Uh j)) (fun x j=>r _ (by have:=h.sp x j;omega)),fun k t=>(h.hF k t).2.imp (fun q=>q) (fun q=>by omega),h.off.trans' o (fun x j=>.inr Uo),fun x j=>?_,fun x j=>⟨(h.a5 x j).2.1,fun z B q=>by have:=h.sp z B;have:=gU h.r5 j;omega⟩,fun x j=>.inl (h.bo x j)⟩
 .obtain⟨y,cap,A,E⟩:=(NV.own h.r6).cell k t;have p:y∈v6.ownBlock.toList:=by rw[A];simp[V9]
  have:=u y p;exact⟨y,cap,A,(zo ((D y p).trans (o.block y Uh (r y Uh)))).trans E⟩
 .have:=u x j;exact⟨by omega,VP this.2 o.size,(h.a6 x (Wn.1 j)).2,fun q=>(h.a5 x q).2.2 (Wn.1 j)⟩
end
open aA (aQ St bS aX dS gd eL cA Inv)
structure wU(s:St)(tq:Ux)(es:J aQ)(now:Ux)(gr en:J Ux)(k:M):Prop where
 eq:gd s.ts (s.es.length+1) s.es s.now tq=((gd s.ts k es now tq).1,en++(gd s.ts k es now tq).2.1,gr++(gd s.ts k es now tq).2.2)
 lk:now<tq->es.length<k
 kk:k<=61
 nt:now<=tq
 iv:Inv ⟨s.ts,es,s.given,now⟩
 gl:gr.length+60*k<=3660
 el:en.length+es.length<=60
theorem wU.step{now:Ux}{gr en:J Ux}(h:wU s tq es now gr en k)(f:now<tq)(B:tq<=1048320){t:Ux}(ht:t=eL tq es):now<t/\∃ k',wU s tq (dS s.ts (es.filter fun e=>!cA t e)).1 t (gr++(dS s.ts (es.filter fun e=>!cA t e)).2) (en++(es.filter (cA t)).map (·.id)) k':=by
 have C:=h.lk f;obtain⟨k,rfl⟩:∃ j,k=j+1:=⟨k-1,Uh⟩;let⟨i1,i2,i3⟩:=aA.GK tq es;rw[<- ht] at i1 i2 i3;have o:∀ e∈es,cA t e=UE->now<t:=fun e y o=>by
  unfold cA at o;rw[Bool.and_eq_true,decide_eq_true_iff] at o;have i:e.kind≠1:=Uo;rcases (h.iv.en e y).kd with q|q
  .exact (i q.1).elim
  .have:=q.2.1;simp only at this;omega
 have a:now<t:=Uo;have E:=aA.CZ (cA t) es;have D:=aA.Ay s.ts (es.filter fun e=>!cA t e);have z:=aA.yD s.ts (es.filter fun e=>!cA t e);have g:=h.gl;have e:=h.el;have A:=h.kk;refine⟨a,k,?_,fun q=>?_,Uh,i1,(aA.JE h.iv a Uh i2).1,?_,?_⟩
 .have p:=h.eq;rw[aA.Om f,<- ht] at p;simp only[V8];exact p
 .rcases i3 with e|⟨x,u,r⟩
  .omega
  .have:0<(es.filter (cA t)).length:=List.length_pos_of_mem (Xb.2 ⟨u,r⟩);omega
 .rw[VA];omega
 .rw[VA,We,z];omega
def xu(w:UF)(d:M):Ux:=intOf ((w.cell? (d,3)).getD undef)
theorem Pc{xs:J (aQ × M × M)}(h:DD w d s xs F)(hi:Inv s){n:Ux}(hn:1<=n/\n<=1048320):UI prog 68 #[UM (U ⟨d,0,UB⟩),V UV n] w (eK w d F xs (aX s (.tick n))):=by
 have P0:=aB ((KP.nil w).alloc bI);have H:=aB h;have HI:=aB hi;have n0:=hi.n0;have n1:=hi.n1;have c3:=(h.later P0.out.bl).rd.c3;have wt:UV.wrap (s.now+n)=s.now+n:=dJ Uh Uh;clear h hi;go_in;go_upto_region 1 with fail;change YD _ _ _ _ (w.alloc bI);have P:(w.alloc bI).heap.size=w.heap.size+1:=Ui;generalize w.alloc bI=X at *;by_cases ht:1048320<s.now+n
 .have HF:Hid (eK w d F xs (aX s (.tick n)) (UW (bT 6 0 0 aV aV aV aV)) (dE X w.heap.size (V UV 6) (V UV 0) (V UV 0) aV aV aV aV)):=by
   have e:aX s (.tick n)=(s,bS.error 6):=by simp[aX,ht]
   rw[e];exact H.out.said P0.out.bl (zq _) 6 0 _ _ _ _ _ _ _
  obtain⟨q0,q1,q2,q3,q4,q5,q6,fq⟩:=Q7.of (P0.out.kb (w.heap.size,bI) Ui);go_wp2_with fail;exact cV results68 ⟨q0,q1,q2,q3,q4,q5,q6,fq⟩ HF.out
 have HD:Hid (aX s (.tick n)=({ s with es:=(gd s.ts (s.es.length+1) s.es s.now (s.now+n)).1,now:=s.now+n },{ bS.num (s.now+n) with granted:=(gd s.ts (s.es.length+1) s.es s.now (s.now+n)).2.2,ended:=(gd s.ts (s.es.length+1) s.es s.now (s.now+n)).2.1 })):=by show _=_;simp[aX,ht]
 have HM:Hid (wU s (s.now+n) s.es s.now [] [] (s.es.length+1)):=by have:=H.out.el;exact⟨by simp,fun _=>by omega,by omega,by omega,HI.out,by simp;omega,by simp;omega⟩
 go_upto_region 4 with fail;have P1:=aB (P0.out.alloc (sQ (s.now+n) aV aV));have cj:(X.alloc (sQ (s.now+n) aV aV)).heap.size=w.heap.size+2:=by simp;omega
 go_upto_region 5 with fail;change YD _ _ _ _ (X.alloc (sQ (s.now+n) aV aV));rw[P] at P1;generalize X.alloc (sQ (s.now+n) aV aV)=Y at *;clear wt;generalize s.now+n=tq at *;have T0:Hid (ik w d F xs tq s [] [] xs F aV aV (w.heap.size+2) Y) :=⟨H.out.later P1.out.bl,fun k hk=>⟨by have:=H.out.lt k hk;omega,.inl hk⟩,aH.aD P1.out.bl,fun x hx=>⟨x,hx,rfl⟩,P1.out.kb (w.heap.size+1,sQ tq aV aV) Ui,P1.out.kb (w.heap.size,bI) Ui,Wc _ _ _ _,Wc _ _ _ _,fun k hk=>by simp[V9] at hk,fun k hk=>by simp[V9] at hk,⟨zq _,by omega⟩,fun x hx=>(H.out.rd.sp x hx).2.2,H.out.lt⟩
 clear P0 P1 c3 P cj;go_loopw [7,8,9,10,11,12,13,14] (fun _ _ _ _ _ _ _ _ wr=>∃ (es:J aQ) (now:Ux) (gr en:J Ux) (k:M) (ys:J (aQ × M × M)) (F':J M) (v5 v6:UG) (N:M),ik w d F xs tq ⟨s.ts,es,s.given,now⟩ gr en ys F' v5 v6 N wr/\wU s tq es now gr en k) (fun _ _ _ _ _ _ _ _ wr=>(tq-xu wr d).toNat)
 case atStart=>exact⟨_,_,_,_,_,_,_,_,_,_,T0.out,HM.out⟩
 case round =>
  obtain⟨es,now,gr,en,k,ys,F',v5,v6,N,hT,hM⟩:=hrel;have HT:=aB hT;have HK:=aB hM;clear hT hM T0 HM;have c3:=HT.out.dd.rd.c3;have fz:=HT.out.dd.rd.fz;obtain⟨a5,p5,rfl⟩:=iD HT.out.r5;obtain⟨a6,p6,rfl⟩:=iD HT.out.r6;by_cases bf:now<tq
  .have ct:Hid (xu wr d=now):=by show _=_;unfold xu;rw[HT.out.dd.rd.c3];rfl
   go_upto_region 7 with fail;have T1:=aB (HT.out.now tq);generalize Vg wr _ _=W1 at *;clear HT c3 fz;go_wp2_with fail;go_loopw [7,8] (fun vi _ wx=>∃ i:M,i<=es.length/\vi=V UV i/\ik w d F xs tq ⟨s.ts,es,s.given,eL tq (es.take i)⟩ gr en ys F' (UO a5 gr.length p5) (UO a6 en.length p6) N wx) (fun vi _ _=>es.length-(intOf vi).toNat)
   case atStart=>exact⟨0,VM _,rfl,T1.out⟩
   case round =>
    obtain⟨i,aq,rfl,bn⟩:=hrel;have R:=aB bn;clear bn T1;obtain⟨a,cap,E,hr⟩:=R.out.dd.er;have ad:ys.length=es.length:=R.out.dd.len;have cc:=hr.c;rw[ad] at cc;have m3:=R.out.dd.rd.c3;have fz:=R.out.dd.rd.fz 3;by_cases hi:i<es.length
    .have au:(i:Ux)<(es.length:Ux):=Uh
     have K:i<ys.length:=Uh;obtain rfl:=hr.a i K;have D:=hr.r i K;have c0:=D.c0;have c1:=D.c1;have c2:=D.c2;have c3:=D.c3;have c4:=D.c4;have c5:=D.c5;have HY:Hid (ys[i].1=es[i]):=by show _=_;have e:=congrArg (fun l=>l[i]?) R.out.dd.es;simpa[hi,K] using e
     have f:Hid (eL tq (es.take (i+1))=if es[i].kind≠1/\es[i].bY<eL tq (es.take i) then es[i].bY else eL tq (es.take i)):=by show _=_;rw[VL hi,aA.Ih]
     have hX:UH wr.heap.size wr (wr.alloc (kg ys[i])):=(zr _ _).alloc (zq _) _;have hE:(wr.alloc (kg ys[i])).heap[wr.heap.size]?=U (kg ys[i]):=dH _ _;have p:Hid (i+1<=es.length/\es.length-(i+1)<es.length-i):=by rw[Hid];omega
     have bg:i<100:=by have:es.length<=60:=R.out.dd.el;omega
     have wi:UV.wrap ((i:Ux)+1)=(i:Ux)+1:=dJ Uh Uh;clear D hr;go_upto_region 11 with fail;change YD _ _ _ _ (wr.alloc (kg ys[i]));have f1:=s7 hE;have f5:=s8 hE;have x3:=aT hX m3;have I:=aB (R.out.later hX);have xf:=I.out.dd.rd.fz 3;clear hE c0 c1 c2 c3 c4 c5 cc m3 fz R hX;generalize wr.alloc (kg ys[i])=X at *;rw[HY.out] at f1 f5;clear HY;generalize es[i].kind=kd at *;generalize es[i].bY=tl at *;generalize eL tq (es.take i)=m at *;simp only at x3;by_cases T:kd=1
     .have S:(kd != 1)=UD:=by simp[T]
      have NX:Hid (eL tq (es.take (i+1))=m):=f.out.trans (Uy (fun e=>e.1 T));clear T f;go_big_region;go_wp2_with fail;exact⟨⟨i+1,p.out.1,by go_num,by rw[NX.out];exact I.out.later (ou (zr _ _) _)⟩,by have:=p.out.2;simp[intOf];omega⟩
     .have S:(kd != 1)=UE:=by simp[T]
      by_cases b2:tl<m
      .have NX:Hid (eL tq (es.take (i+1))=tl):=f.out.trans (Uz ⟨T,b2⟩);clear T f
       go_big_region;go_wp2_with fail;exact⟨⟨i+1,p.out.1,by go_num,by rw[NX.out];exact (I.out.later (ou (zr _ _) _)).now tl⟩,by have:=p.out.2;simp[intOf];omega⟩
      .have NX:Hid (eL tq (es.take (i+1))=m):=f.out.trans (Uy (fun e=>b2 e.2));clear T f
       go_big_region;go_wp2_with fail;exact⟨⟨i+1,p.out.1,by go_num,by rw[NX.out];exact I.out.later (ou (zr _ _) _)⟩,by have:=p.out.2;simp[intOf];omega⟩
    .have ar:i=es.length:=Uh
     subst ar;have au:¬ ((es.length:M):Ux)<(es.length:Ux):=Uh;rw[Zc] at R;clear m3 fz aq;obtain⟨t,ht⟩:∃ t,t=eL tq es:=⟨_,rfl⟩;have cr:=aB ht;rw[<- ht] at R;clear ht;go_upto_region 14 with fail;have dp:=R.out.hN.2;have cq:Hid (w.heap.size+2<=wr.heap.size):=U0 R.out.hN.1 R.out.hN.2;obtain⟨a9,hV⟩:∃ a9,a9=wr:=⟨_,rfl⟩;subst hV;clear cc hr;go_wp2_with fail;go_loopw [9,10,11] (fun v9 vi _ wx=>∃ i:M,i<=es.length/\vi=V UV i/\ik w d F xs tq ⟨s.ts,es,s.given,t⟩ gr en ys F' (UO a5 gr.length p5) (UO a6 en.length p6) N wx/\a9.heap.size<=wx.heap.size/\wx.ownsRow a9.heap.size 3 1 v9 (((es.take i).filter (cA t)).map (·.id)).length ((((es.take i).filter (cA t)).map (·.id)).map (V UV))) (fun _ vi _ _=>es.length-(intOf vi).toNat)
     case atStart=>exact⟨0,VM _,rfl,R.out,UY _,Wc _ _ _ _⟩
     case round =>
      obtain⟨i,aq,rfl,bm,ae,ab⟩:=hrel;have I:=aB bm;have OW:=aB ab;clear bm R;obtain⟨va,vc,rfl⟩:=iD ab;clear ab;obtain⟨a,cap,E,hr⟩:=I.out.dd.er;have ad:ys.length=es.length:=I.out.dd.len;have cc:=hr.c;rw[ad] at cc;have m3:=I.out.dd.rd.c3;by_cases hi:i<es.length
      .have au:(i:Ux)<(es.length:Ux):=Uh
       have K:i<ys.length:=Uh;obtain rfl:=hr.a i K;have D:=hr.r i K;have c0:=D.c0;have c1:=D.c1;have c2:=D.c2;have c3:=D.c3;have c4:=D.c4;have c5:=D.c5;have HY:Hid (ys[i].1=es[i]):=by show _=_;have e:=congrArg (fun l=>l[i]?) I.out.dd.es;simpa[hi,K] using e
       have f:Hid (((es.take (i+1)).filter (cA t)).map (·.id)=((es.take i).filter (cA t)).map (·.id)++(if cA t es[i] then [es[i].id] else [])):=by
        show _=_;rw[VL hi,Vo,VU];congr 1;by_cases q:cA t es[i]=UE
        .simp[q]
        .simp[q]
       have hX:UH wr.heap.size wr (wr.alloc (kg ys[i])):=(zr _ _).alloc (zq _) _;have hE:(wr.alloc (kg ys[i])).heap[wr.heap.size]?=U (kg ys[i]):=dH _ _;have P:wr.heap.size<=(wr.alloc (kg ys[i])).heap.size:=hX.size;have p:Hid (i+1<=es.length/\es.length-(i+1)<es.length-i):=by rw[Hid];omega
       have bv:es.length<=60:=I.out.dd.el;have ca:(((es.take i).filter (cA t)).map (·.id)).length<=1000000:=by have:=Wj (cA t) (es.take i);rw[We];rw[XW] at this;omega
       have bg:i<100:=Uh;have wi:UV.wrap ((i:Ux)+1)=(i:Ux)+1:=dJ Uh Uh;clear D hr;go_upto_region 18 with fail;change YD _ _ _ _ (wr.alloc (kg ys[i]));have f0:=ta hE;have f1:=s7 hE;have f5:=s8 hE;have x3:=aT hX m3;have T4:=aB (I.out.later hX);have O4:=aB (fG OW.out hX);clear hE c0 c1 c2 c3 c4 c5 cc m3 I OW hX;generalize wr.alloc (kg ys[i])=X at *;rw[HY.out] at f0 f1 f5;clear HY bv;have EB:Hid (cA t es[i]=((es[i].kind != 1) && decide (es[i].bY=t))):=rfl;generalize cA t es[i]=eb at *;generalize es[i].id=ei at *;generalize es[i].kind=kd at *;generalize es[i].bY=tl at *;generalize ((es.take i).filter (cA t)).map (·.id)=L at *;simp only at x3;by_cases T:kd=1
       .have S:(kd != 1)=UD:=by simp[T]
        have NX:Hid (((es.take (i+1)).filter (cA t)).map (·.id)=L):=by show _=_;rw[f.out,EB.out,S];simp
        clear T f EB;go_big_region;go_wp2_with fail;exact⟨⟨i+1,p.out.1,by go_num,T4.out.later (ou (zr _ _) _),U0 ae P,by rw[NX.out];exact fG O4.out (ou (zr _ _) _)⟩,by have:=p.out.2;simp[intOf];omega⟩
       .have S:(kd != 1)=UE:=by simp[T]
        by_cases b2:tl=t
        .have cp:(tl==t)=UE:=by simp[b2]
         have NX:Hid (((es.take (i+1)).filter (cA t)).map (·.id)=L++[ei]):=by show _=_;rw[f.out,EB.out,S];simp[b2]
         have NB:Hid (∀ x∈(UO va L.length vc).ownBlock.toList,N<=x):=fun x hx=>by have:=gU O4.out (Wn.1 hx);omega
         clear T b2 f EB;go_big_region;go_wp2_with (first|(at_builtin;refine zI rfl _ _ rfl (fG O4.out (ou (zr _ _) _)) ei rfl rfl ca (U0 ae P) ?_;intro v' w2 o2 k2));exact⟨⟨i+1,p.out.1,by go_num,(T4.out.later (ou (zr _ _) _)).new k2 NB.out,U0 (U0 ae P) k2.size,by rw[NX.out];exact o2⟩,by have:=p.out.2;simp[intOf];omega⟩
        .have cp:(tl==t)=UD:=by simp[b2]
         have NX:Hid (((es.take (i+1)).filter (cA t)).map (·.id)=L):=by show _=_;rw[f.out,EB.out,S];simp[b2]
         clear T b2 f EB;go_big_region;go_wp2_with fail;exact⟨⟨i+1,p.out.1,by go_num,T4.out.later (ou (zr _ _) _),U0 ae P,by rw[NX.out];exact fG O4.out (ou (zr _ _) _)⟩,by have:=p.out.2;simp[intOf];omega⟩
      .have ar:i=es.length:=Uh
       subst ar;have au:¬ ((es.length:M):Ux)<(es.length:Ux):=Uh;rw[Zc] at OW ⊢;clear m3 aq hr;obtain⟨L,hL⟩:∃ L,L=(es.filter (cA t)).map (·.id):=⟨_,rfl⟩;have HL:=aB hL;rw[<- hL] at OW ⊢;have bv:L.length<=60:=by have h1:es.length<=60:=I.out.dd.el;have h2:=Wj (cA t) es;rw[hL,We];omega
       clear hL;have bz:Hid (∀ b,(UO va L.length vc).ownBlock=U b->a9.heap.size<=b/\b<wr.heap.size):=fun b A=>⟨gU OW.out A,fT OW.out A⟩;obtain⟨i0,cg,b9,b8,b7⟩:=info_parts qC;go_upto_region 20 with fail;obtain⟨c8,hU⟩:∃ c8,c8=wr:=⟨_,rfl⟩;subst hU;clear cc ad;go_wp2_with fail;go_loopw [12,13] (fun vj _ wx=>∃ (j:M) (zs:J (aQ × M × M)) (G:J M) (v6:UG) (c9:M),j<=L.length/\vj=V UV j/\ik w d F xs tq ⟨s.ts,es.filter (fun e=>!(L.take j).contains e.id),s.given,t⟩ gr (en++L.take j) zs G (UO a5 gr.length p5) v6 c9 wx/\wx.ownsRow a9.heap.size 3 1 (UO va L.length vc) L.length (L.map (V UV))/\(∀ b,(UO va L.length vc).ownBlock=U b->b ∉ G/\v6.ownBlock≠U b)) (fun vj _ _=>L.length-(intOf vj).toNat)
       case atStart =>
        refine⟨0,ys,F',UO a6 en.length p6,N,VM _,rfl,?_,OW.out,fun b A=>⟨fun e=>?_,fun e=>?_⟩⟩
        .simp only[List.take_zero,List.contains_nil,Bool.not_false,Xu];rw[List.filter_eq_self.2 (fun _ _=>rfl)];exact I.out
        .have:=(I.out.hF b e).1;have:=(bz.out b A).1;omega
        .have:=(I.out.a6 b e).1;have:=(bz.out b A).1;omega
       case round =>
        obtain⟨j,zs,G,v6,c9,di,rfl,bj,al,bc⟩:=hrel;have T5:=aB bj;have RW:=aB al;have NE:=aB bc;clear bj al bc;obtain⟨C,B,rfl⟩:=iD T5.out.r6;by_cases hj:j<L.length
        .have cf:(j:Ux)<(L.length:Ux):=Uh
         obtain⟨g2,cz,e,y⟩:=uv RW.out (k:=j) (u:=V UV L[j]) (by rw[XT,Wx hj];rfl);simp only[XS,true_and] at e;obtain⟨rfl,rfl⟩:=e;have WO:=aB (T5.out.dd.oa L[j]);go_wp2_with fail;refine WO.out.mono ?_;rintro e w2 ⟨vE,rfl,af,ai⟩;have T6:=aB (T5.out.wo af ai);obtain⟨aE,cE,rfl⟩:=iD af;have D5:=(T5.out.later ai).dd.rd;obtain⟨v0,cm,_⟩:=D5.ev;have ck:=D5.fz 1;have R6:Hid ((w2.setCell ⟨d,1,UB⟩ (UO aE (iB L[j] zs).length cE)).ownsRow a9.heap.size 3 1 (UO (U ⟨g2,0,UB⟩) L.length vc) L.length (L.map (V UV))):=dL (fG RW.out ai) (aH.bM ..) (fun b A e=>(NE.out b A).1 (by rw[X9.1 e];exact T5.out.dd.rd.dF));have ay:Hid (∀ b,(UO (U ⟨g2,0,UB⟩) L.length vc).ownBlock=U b->b ∉ (UO aE (iB L[j] zs).length cE).ownBlock.toList++G/\(UO C (en++L.take j).length B).ownBlock≠U b):=fun b A=>⟨fun e=>by
          rcases Vb.1 e with e|e
          .have:=gU af (Wn.1 e);have:=fT RW.out A;omega
          .exact (NE.out b A).1 e,(NE.out b A).2⟩
         obtain⟨dq,cn,e2,y2⟩:=uv R6.out (k:=j) (u:=V UV L[j]) (by rw[XT,Wx hj];rfl);simp only[XS,ZI,ZJ,true_and,and_true] at e2;obtain⟨rfl,rfl⟩:=e2;have an:=bN T6.out.kb 6 rfl;have cl:(w2.setCell ⟨d,1,UB⟩ (UO aE (iB L[j] zs).length cE)).frozen? ⟨w.heap.size+1,6,UB⟩=UD:=by have:=T6.out.kb;simp[U2,this,sQ]
         have b5:Hid (L.take (j+1)=L.take j++[L[j]]):=VL hj;have a4:Hid ((en++L.take j).length<=1000):=by have:=HK.out.el;rw[Hid,VA,XW];omega
         obtain⟨K6,aj⟩:∃ K6,K6=(en++L.take j).length:=⟨_,rfl⟩;have ak:=aB aj;rw[<- aj] at an a4;have R5:Hid ((w2.setCell ⟨d,1,UB⟩ (UO aE (iB L[j] zs).length cE)).ownsRow (w.heap.size+2) 3 1 (UO C K6 B) K6 ((en++L.take j).map (V UV))):=by rw[aj];exact T6.out.r6
         have a3:Hid (es.filter (fun e=>!(L.take (j+1)).contains e.id)=(es.filter (fun e=>!(L.take j).contains e.id)).filter (fun e=>e.id != L[j])):=by show _=_;rw[b5.out];exact aA.OI ..
         have HJ:Hid (j+1<=L.length/\L.length-(j+1)<L.length-j):=by rw[Hid];omega
         have cy:j<100:=Uh;have ch:w.heap.size+2<=(w2.setCell ⟨d,1,UB⟩ (UO aE (iB L[j] zs).length cE)).heap.size:=T6.out.hN.1;clear WO y af ai D5 T5 RW NE aj;go_upto_region 25 with fail;clear cm ck;generalize Vg w2 _ _=Z at *;generalize L[j]=z at *;have zA:∀ o,(Z.alloc o).cell? ⟨w.heap.size+1,6,UB⟩=U (UO C K6 B):=fun o=>aT ((zr _ _).alloc (zq _) _) an;have zB:∀ o,(Z.alloc o).drew.cell? ⟨w.heap.size+1,6,UB⟩=U (UO C K6 B):=zA;have b4:Hid (w.heap.size+1 ∉ (UO C K6 B).ownBlock.toList):=fun e=>by have:=gU R5.out (Wn.1 e);omega
         go_region_law (first
          |(refine step_append_lies _ rfl (.tmp 119) (.tmp 124) 53 rfl (w.heap.size+2) 3 i0 _ 1 8 underlying53 cg b9 b8 b7 rfl Uj (UO C K6 B) K6 ((en++L.take j).map (V UV)) rfl (DQ (R5.out.alloc _)) ⟨Z.heap.size,0,UB⟩ 1 1 [V UV z] rfl rfl (Wf (cs:=#[V UV z]) (dH Z _)) Uq Uh (by have:=a4.out;unfold maxLen;omega) (by have:=a4.out;omega) (U0 ch ((zr _ Z).alloc (zq _) _).size) _ rfl ?_;intro g3 c3 w3 o3 k3 bh cx;have kO:aH (UO C K6 B).ownBlock.toList Z w3:=(((aH.refl _ Z).alloc _).drew).grown k3 (fun k hk=>.inl (by simp[hk]));have s6:=kO.cell b4.out an;have sf:=(kO.frozen (o:=6) b4.out Uh).trans cl))
         all_goals
          go_wp2_with fail;have HV:Hid (∀ b,(UO (U ⟨g3,0,UB⟩) (K6+1) c3).ownBlock=U b->(UO C (en++L.take j).length B).ownBlock=U b\/Z.heap.size<=b):=fun b A=>by
           have e1:g3=b:=by simpa[V9] using A
           rcases bh with q|q
           .left;rw[<- e1,<- q,ak.out]
           .right;have:(Z.alloc (UX #[V UV z] 3)).drew.heap.size=Z.heap.size+1:=Ui
            omega
          refine⟨⟨j+1,iB z zs,(UO aE (iB z zs).length cE).ownBlock.toList++G,UO (U ⟨g3,0,UB⟩) (K6+1) c3,(w3.setCell ⟨w.heap.size+1,6,UB⟩ (UO (U ⟨g3,0,UB⟩) (K6+1) c3)).heap.size,HJ.out.1,by go_num,?_,?_,?_⟩,by have:=HJ.out.2;simp[intOf];omega⟩
          .rw[a3.out,b5.out,<- V8];exact T6.out.EU (l:=[z]) (by rw[VA,<- ak.out,VU];exact o3) (by rw[<- ak.out];exact kO) HV.out
          .exact dL (dL R6.out kO (fun b A e=>(ay.out b A).2 (by rw[<- ak.out];exact Wn.1 e))) (aH.bM ..) (fun b A e=>by have:=gU R6.out A;have:=X9.1 e;have:=cq.out;omega)
          .intro b A;refine⟨(ay.out b A).1,fun e=>?_⟩;rcases HV.out b e with q|q
           .exact (ay.out b A).2 q
           .have:=fT R6.out A;omega
        .have cd:j=L.length:=Uh
         subst cd;have cf:¬ ((L.length:M):Ux)<(L.length:Ux):=Uh;rw[Zc] at T5;have a3:Hid (es.filter (fun e=>!L.contains e.id)=es.filter fun e=>!cA t e):=by show _=_;rw[HL.out];exact aA.Oj (fun e:aQ=>e.id) (cA t) (HK.out.iv.ids.imp (fun h=>by omega))
         rw[a3.out] at T5;have GR:=aB (Hw T5.out.dd);go_wp2_with fail;refine GR.out.mono ?_;rintro e w3 ⟨v5,rfl,h5,⟨ba,bs,bu⟩,av⟩;have T6:=aB (T5.out.own av bs bu);obtain⟨gs,ag⟩:∃ gs,gs=(dS s.ts (es.filter fun e=>!cA t e)).2:=⟨_,rfl⟩;have cw:=aB ag;have ax:w3.ownsRow wr.heap.size 3 1 v5 gs.length (gs.map (V UV)):=by rw[ag];exact h5
         have dn:gs.length<=60:=by have h1:=aA.Ay s.ts (es.filter fun e=>!cA t e);have h2:=Wj (fun e=>!cA t e) es;have h3:=HK.out.el;rw[ag];omega
         have dm:gr.length<=3660:=by have:=HK.out.gl;omega
         clear h5 ag;obtain⟨a7,p7,rfl⟩:=iD ax;have n3:eO w3 (w.heap.size+2) (fun _=>UB) (UO a5 gr.length p5) gr:=⟨T6.out.r5,fun _ _=>rfl⟩;have dh:=T5.out.hN;have n5:eO w3 (w.heap.size+2) (fun _=>UB) (UO a7 gs.length p7) gs:=⟨uC ax Uh,fun _ _=>rfl⟩;have db:=av.size;obtain⟨v8,w4,aa,n8,ac,bi⟩:=n3.append n5 Uh (fun _ _=>rfl) Uh;obtain⟨a8,p8,rfl⟩:=iD n8.own;have k4:aH (UO a5 gr.length p5).ownBlock.toList w3 w4:=(aH.refl _ w3).grown ac (fun k hk=>.inl (by simp[hk]));have az:w.heap.size+1 ∉ (UO a5 gr.length p5).ownBlock.toList:=fun e=>by have:=gU T6.out.r5 (Wn.1 e);omega
         have b6:=bN T6.out.kb 5 rfl;have s5:=k4.cell az b6;have dr:w4.frozen? ⟨w.heap.size+1,5,UB⟩=UD:=by refine (k4.frozen (o:=5) az Uh).trans ?_;have:=T6.out.kb;simp[U2,this,sQ]
         have T7:=aB (T6.out.EW (l:=gs) n8.own k4 (fun b A=>by
          rcases bi with q|q
          .exact .inl (q ▸ A)
          .rw[q] at A;simp only[ZI] at A
           exact .inr Uh))
         obtain⟨N8,aw⟩:∃ N8,N8=(gr++gs).length:=⟨_,rfl⟩;rw[<- aw] at aa;have HR:=aB aa;obtain⟨ao,k2,bq⟩:=HK.out.step bf Uh cr.out;have cv:Hid (wU s tq (dS s.ts (es.filter fun e=>!cA t e)).1 t (gr++gs) (en++L) k2):=by rw[cw.out,HL.out];exact bq
         have T8:Hid (ik w d F xs tq ⟨s.ts,(dS s.ts (es.filter fun e=>!cA t e)).1,s.given,t⟩ (gr++gs) (en++L) ba G (UO a8 N8 p8) (UO C (en++L).length B) (w4.setCell ⟨w.heap.size+1,5,UB⟩ (UO a8 N8 p8)).heap.size (w4.setCell ⟨w.heap.size+1,5,UB⟩ (UO a8 N8 p8))):=by rw[aw];exact T7.out
         have cu:Hid ((tq-t).toNat<(tq-now).toNat):=by rw[Hid];omega
         clear bq T7 n3 n5 ac bi k4 az aa aw n8 av bs bu ax;go_wp2_with (first|(at_builtin;refine Ja rfl _ _ 53 _ rfl (HR.out _) ?_));refine⟨⟨_,t,_,_,k2,ba,G,_,_,_,T8.out,cv.out⟩,?_⟩;have e8:xu (w4.setCell ⟨w.heap.size+1,5,UB⟩ (UO a8 N8 p8)) d=t:=by unfold xu;rw[T8.out.dd.rd.c3];rfl
         rw[e8,ct.out];exact cu.out
  .have ao:now=tq:=by have:=HK.out.nt;omega
   have HF:Hid (eK w d F xs (aX s (.tick n)) (UW (bT 0 0 tq aV aV (UO a5 gr.length p5) (UO a6 en.length p6))) (dE wr w.heap.size (V UV 0) (V UV 0) (V UV tq) aV aV (UO a5 gr.length p5) (UO a6 en.length p6))):=by have e:=HK.out.eq;rw[aA.B7 bf] at e;rw[HD.out,e,<- ao];simp only[Xu];have:=HT.out.uN (V UV 0) (V UV 0) (V UV now) aV aV (UO a5 gr.length p5) (UO a6 en.length p6);rw[<- ao] at this;exact this
   obtain⟨q0,q1,q2,q3,q4,q5,q6,fq⟩:=Q7.of HT.out.kq;have kb:=HT.out.kb;have D:=bN kb 0 rfl;have r1:=bN kb 1 rfl;have r2:=bN kb 2 rfl;have r3:=bN kb 3 rfl;have r4:=bN kb 4 rfl;have r5:=bN kb 5 rfl;have r6:=bN kb 6 rfl;clear kb;go_wp2_with fail;exact cV results68 ⟨q0,q1,q2,q3,q4,q5,q6,fq⟩ HF.out
open aA (aQ St bS aX mS gY)
theorem Rl{α:Type}(fs:J Ux)(ys:J α)(j:fs.length=ys.length):∃ zs:J α,zs.length=ys.length/\∀ (i:M)(o:i<ys.length),zs[dP.mP fs i]?=U ys[i]:=by
 have a:∀ p:Fin ys.length,∃ i,i<ys.length/\dP.mP fs i=p.1:=fun p=>by let⟨i,h1,f⟩:=dP.Ag fs (k:=p.1) Uo;exact⟨i,Uh,f⟩
 refine⟨List.ofFn fun p:Fin ys.length=>ys[Classical.choose (a p)]'(Classical.choose_spec (a p)).1,by simp,fun i o=>?_⟩;have h:dP.mP fs i<ys.length:=by rw[<- j];exact dP.CD fs Uh
 rw[List.getElem?_ofFn,dif_pos h,ZI];have f:=Classical.choose_spec (a ⟨dP.mP fs i,h⟩);have e:=dP.CR (fs:=fs) Uo Uh f.2;simp only[e]
def rV(cs:Array UG)(p:M)(a b c d e f:UG):Array UG:=(((((cs.setIfInBounds (p*6) a).setIfInBounds (p*6+1) b).setIfInBounds (p*6+2) c).setIfInBounds (p*6+3) d).setIfInBounds (p*6+4) e).setIfInBounds (p*6+5) f
theorem QD(cs:Array UG)(p:M)(a b c d e f:UG)(i:p*6+5<cs.size)(q j:M)(o:j<6):(rV cs p a b c d e f)[q*6+j]?=if q=p then [a,b,c,d,e,f][j]? else cs[q*6+j]?:=by
 unfold rV;by_cases h:q=p
 .subst h;rw[Uz rfl];rcases (show j=0\/j=1\/j=2\/j=3\/j=4\/j=5 by omega) with rfl|rfl|rfl|rfl|rfl|rfl
  all_goals simp only[Array.getElem?_setIfInBounds,Array.size_setIfInBounds];simp;try omega
 .rw[Uy h];simp only[Array.getElem?_setIfInBounds,Array.size_setIfInBounds];rw[Uy Uh,Uy Uh,Uy Uh,Uy Uh,Uy Uh,Uy Uh]
theorem Rk(cs:Array UG)(p:M)(a b c d e f:UG):(rV cs p a b c d e f).size=cs.size:=by simp[rV]
theorem Rj{cs:Array UG}{t:TypeId}{m:M × M}(h:W.heap[O]?=U (UX cs t m))(p:M)(a b c d e f:UG):((((((W.setCell (O,p*6) a).setCell (O,p*6+1) b).setCell (O,p*6+2) c).setCell (O,p*6+3) d).setCell (O,p*6+4) e).setCell (O,p*6+5) f).heap[O]?=U (UX (rV cs p a b c d e f) t m) :=nw (nw (nw (nw (nw (nw h a) b) c) d) e) f
theorem ot.off{wr:UF}{ys:J (aQ × M × M)}(h:ot w wr v ys)(k:aH [O] wr wx)(i:wr<=O):ot w wx v ys:=by refine⟨dL h.own k (fun b a e=>by have:=fT h.own a;simp at e;omega),fun y f=>?_,⟨k.os.trans h.bw.os,k.tape.trans h.bw.tape,k.output.trans h.bw.output,U0 h.bw.size k.size,fun b a=>(k.block b (zL a h.bw.size) (fun e=>by have:=h.bw.size;simp at e;omega)).trans (h.bw.block b a)⟩⟩;let⟨y1,y2,y3,y4⟩:=h.sl y f;exact⟨y1.off k Uo,y2,VP y3 k.size,y4⟩
theorem ID{xs:J (aQ × M × M)}(h:DD w d s xs F)(bi:aA.eD s.es)(name:Us)(fr til:Ux):UI prog 122 #[UM (U ⟨d,0,UB⟩),UQ name,V Y fr,V Y til] w fun e w'=>∃ v,e=UW v/\pC w v (aA.nE name fr til s.es) w':=by
 obtain⟨i0,bz,bn,bm,bj⟩:=info_parts zZ;have H:=aB h;have cj:=h.len;have cv:=h.el;clear h;go_in;go_wp2_with fail;go_loopw [9,10,11,12] (fun v i _ _ wx=>∃ k:M,k<=xs.length/\i=V Y k/\∃ ys,ot w wx v ys/\ys.length<=k/\(∀ y∈ys,EB y.1)/\ys.map (·.1)=((xs.take k).map (·.1)).filter (mS name fr til)) (fun _ i _ _ _=>xs.length-(intOf i).toNat)
 case atStart=>exact⟨0,VM _,rfl,[],⟨Wc _ _ _ _,by simp,Below.refl _ _⟩,by simp,by simp,by simp⟩
 case round =>
  obtain⟨k,hk,rfl,ys,hR,cp,af,aa⟩:=hrel;have hD:=H.out.later hR.bw;obtain⟨a,cap,E,hr⟩:=hD.er;have cc:=hr.c;have HR:=aB (Vf hR (Vf aa af));by_cases ag:k<xs.length
  .obtain rfl:=hr.a k ag;have f:=hr.r k ag;have c0:=f.c0;have c1:=f.c1;have c2:=f.c2;have c3:=f.c3;have c4:=f.c4;have c5:=f.c5;have D:(k:Ux)<(xs.length:Ux):=Uh
   have aj:=H.out.en xs[k].1 (H.out.es ▸ VQ.2 ⟨_,Zb ag,rfl⟩);have hX:UH wr.heap.size wr (wr.alloc (kg xs[k])):=(zr _ _).alloc (zq _) _;have hE:(wr.alloc (kg xs[k])).heap[wr.heap.size]?=U (kg xs[k]):=dH _ _;have ht:(xs.take (k+1)).map (·.1)=(xs.take k).map (·.1)++[xs[k].1]:=by rw[VL ag,VU];rfl
   have HT:=aB ht;have RX:=aB (Vf (hR.later hX) (Vf (f.sl.later hX) (Vf aj hX)));have a9:0<xs[k].1.aR.length/\xs[k].1.aR.length<=1000:=⟨Yg.2 aj.s0,by have:=aj.sl;omega⟩;have FA:=aB (C6 xs[k] fr til _ RX.out.2.1 Uh);have a8:mS name fr til xs[k].1=UD->ys.map (·.1)=((xs.take (k+1)).map (·.1)).filter (mS name fr til):=fun h=>by rw[ht,Vo,aa];simp[h]
   have ST:=aB a8;go_upto_region 6 with fail;change YD _ _ _ _ (wr.alloc (kg xs[k]));have f0:=ta hE;have f1:=s7 hE;have f2:=ux hE;have f3:=uy hE;have f4:=uz hE;have f5:=s8 hE;have hN:wr.heap.size<(wr.alloc (kg xs[k])).heap.size:=Ui;clear hR aa af hD hr f ht aj hX c0 c1 c2 c3 c4 c5 cc a8;generalize wr.alloc (kg xs[k])=X at *;go_wp2_with fail;refine FA.out.mono ?_;rintro e w4 ⟨rfl,A⟩;have bb:=(A.block wr.heap.size hN).trans hE;have R4:=aB (Vf (RX.out.1.later A) (RX.out.2.1.later A));have f0:=ta bb;have f1:=s7 bb;have f2:=ux bb;have f3:=uy bb;have f4:=uz bb;have f5:=s8 bb;have ak:Hid (mS name fr til xs[k].1=((xs[k].1.bH.toList==name.toList) && (xs[k].1.kind != 3) && decide (0<=gY fr til xs[k].1.aR))):=rfl;generalize gY fr til xs[k].1.aR=ff at *;clear A FA hE;have bf:mS name fr til xs[k].1=UD->∃ ae:M,ae<=xs.length/\(V Y ((k:Ux)+1))=V Y ae/\∃ ys,ot w w4 u9 ys/\ys.length<=ae/\(∀ y∈ys,EB y.1)/\ys.map (·.1)=((xs.take ae).map (·.1)).filter (mS name fr til) :=fun h=>⟨k+1,by omega,rfl,ys,R4.out.1,by omega,HR.out.2.2,ST.out h⟩
   have NO:=aB bf;clear bf
   cases q1:(xs[k].1.bH.toList==name.toList)
   .have N1:=aB (NO.out (by rw[ak.out,q1];rfl))
    go_wp2;go_roundw
    case rel=>exact N1.out
    case measure=>simp[intOf];omega
   .cases q2:(xs[k].1.kind != 3)
    .have N1:=aB (NO.out (by rw[ak.out,q2];simp))
     go_wp2;go_roundw
     case rel=>exact N1.out
     case measure=>simp[intOf];omega
    .by_cases q3:0<=ff
     .have S1:Hid (mS name fr til xs[k].1=UE):=by show _=_;rw[ak.out,q1,q2];simpa using q3
      have CP:=aB (Hu xs[k] w4 R4.out.2 a9.1 a9.2);go_wp2_with fail;refine CP.out.mono ?_;rintro e w5 ⟨gq,cq,rfl,a1,a2,a3,K⟩;simp only[fg];have R5:=aB (R4.out.1.later K);have bg:u9.ownBlock≠U gq:=fun e=>by have:=fT R4.out.1.own e;omega
      have Q5:=aB (Vf a1 (Vf (U0 R4.out.1.bw.size a2) (Vf a3 bg)));have b7:=R5.out.bw.size;clear K a1 a2 a3 bg f0 f1 f2 f3 f4 f5 CP q1 q2 bb;go_wp2_with (first|(at_builtin;refine GQ rfl _ _ rfl R5.out.own (xs[k].1,gq,cq) rfl rfl Uh b7 ?_;intro g6 c6 w6 bc k6 aq));have R6:=aB (R5.out.snoc Q5.out bc k6 aq);clear bc k6 aq;go_roundw
      case rel =>
       refine⟨k+1,by omega,by go_num,_,R6.out,by simp;omega,fun y hy=>?_,by rw[VU,HR.out.2.1,HT.out,Vo];simp[S1.out]⟩;rcases Vb.1 hy with hy|hy
       .exact HR.out.2.2 y hy
       .have:y=(xs[k].1,gq,cq):=by simpa using hy
        subst this;exact RX.out.2.2.1
      case measure=>simp[intOf];omega
     .have N1:=aB (NO.out (by rw[ak.out];simp;omega))
      go_wp2;go_roundw
      case rel=>exact N1.out
      case measure=>simp[intOf];omega
  .have e:xs.take k=xs:=VN Uh;have D:¬ (k:Ux)<(xs.length:Ux):=Uh
   have b5:ys.map (·.1)=s.es.filter (mS name fr til):=by rw[aa,e,H.out.es]
   have cn:ys.length<=60:=Uh;obtain⟨ay,cy,rfl⟩:=iD hR.own;have u:=aB (Vf hR (Vf b5 af));clear hR aa af hD hr e HR;by_cases S:ys.length=0
   .have h0:ys=[]:=VF.1 S
    have HF:Hid (pC w aV (aA.nE name fr til s.es) wr):=by refine⟨[],[],?_,fun w2 _=>EV.nil w2,by simp,u.out.1.bw⟩;have:=u.out.2.1;rw[h0] at this;unfold aA.nE;rw[<- this];rfl
    have bq:((ys.length:Ux)==0)=UE:=by simp[S]
    go_wp2;go_ret;exact⟨_,rfl,HF.out⟩
   .have bq:((ys.length:Ux)==0)=UD:=by simp[S]
    have bh:0<ys.length:=Uh;have av:=run_make (P:=prog) wr 43 85 i0 _ underlying43 bz bn .i64 .i64 ys.length ys.length Uh (W5 _) (by rw[bj];omega) Uh;simp only[Int.toNat_natCast] at av;obtain⟨C,ad⟩:∃ C,C=madeCells (Value.agg #[V Y 0,V Y 0,UQ ⟨#[]⟩,V Y 0,UO UB 0 0,V Y 0]).cells (ys.length*i0.size):=⟨_,rfl⟩;rw[<- ad] at av;have b6:C.size=ys.length*6:=by rw[ad,size_madeCells,bm]
    clear ad;obtain⟨a',cm,gl,he,_,ha,_⟩:=xJ u.out.1.own (fun y hy=>(u.out.1.sl y hy).1);simp only[XS,true_and] at he;obtain⟨rfl,rfl⟩:=he;obtain rfl:=ha (by intro e;simp[e] at bh);have al:Hid (∀ wx,aH [wr.heap.size] wr wx->∀ (i:M) (D:i<ys.length),RE wx gl i ys[i].1 ys[i].2.1 ys[i].2.2):=fun wx k=>by have R:=u.out.1.off k (zq _);obtain⟨a2,c2,g2,he,_,b8,bs⟩:=xJ R.own (fun y hy=>(R.sl y hy).1);have:=b8 (by intro e;simp[e] at bh);simp only[XS,this,ZI,ZJ] at he;obtain⟨⟨rfl,_⟩,_⟩:=he;exact bs
    obtain⟨fs,aw⟩:∃ fs,fs=aA.qo fr til (ys.map (·.1)):=⟨_,rfl⟩;have FS:Hid (fs.length=ys.length/\∀ (i:M) (D:i<ys.length),fs.getD i 0=gY fr til ys[i].1.aR):=by rw[aw];refine⟨by simp[aA.qo],fun i D=>?_⟩;rw[aA.Db (by simpa using D)];simp
    have cg:=aB aw;have YE:Hid (∀ (i:M) (D:i<ys.length),ys[i].1.aR.length<=1000):=fun i D=>by have:=(u.out.2.2 ys[i] (zg D)).sl;omega
    clear aw ha;go_upto_region 12 with fail;have hO:=dH wr (UX C 85);have kO:aH [wr.heap.size] wr (wr.alloc (UX C 85)):=(aH.refl _ _).alloc _;have OO:=aB (Vf kO hO);clear av kO hO cc;generalize wr.alloc (UX C 85)=Wo at *;have b4:gl<wr.heap.size:=fT u.out.1.own rfl;obtain⟨O,az⟩:∃ O,O=wr.heap.size:=⟨_,rfl⟩;rw[<- az] at OO al b4 ⊢;have a4:=aB az;clear az;obtain⟨W1,b9⟩:∃ W1,W1=wr:=⟨_,rfl⟩;subst b9;go_wp2_with fail;go_loopw [14,15,16,17,18] (fun i _ _ _ _ wx=>∃ j:M,j<=ys.length/\i=V Y j/\∃ cs,aH [O] W1 wx/\wx.heap[O]?=U (UX cs 85)/\cs.size=ys.length*6/\∀ (j':M) (_:j'<j) (hl:j'<ys.length) (c:M),c<6->cs[dP.mP fs j'*6+c]?=(fg ys[j'])[c]?) (fun i _ _ _ _ _=>ys.length-(intOf i).toNat)
    case atStart=>exact⟨0,VM _,rfl,C,OO.out.1,OO.out.2,b6,fun j' h=>by omega⟩
    case round =>
     obtain⟨j,hj,rfl,cs,o,t,ab,x⟩:=hrel;have HC:=aB (Vf o (Vf t (Vf ab x)));by_cases I:j<ys.length
     .have f:=al.out _ o j I;have c0:=f.c0;have c1:=f.c1;have c2:=f.c2;have c3:=f.c3;have c4:=f.c4;have c5:=f.c5;have bv:(j:Ux)<(ys.length:Ux):=Uh
      have FA:=aB (C6 ys[j] fr til _ f.sl (by have:=YE.out j I;omega));have FJ:=FS.out.2 j I;rw[<- FJ] at FA;clear o t ab x f FJ;go_wp2_with fail;refine FA.out.mono ?_;rintro e w4 ⟨rfl,A⟩;have H4:Hid (aH [O] W1 w4/\w4.heap[O]?=U (UX cs 85)):=⟨HC.out.1.trans (aH.aD A),(A.block _ (YC.1 HC.out.2.1).1).trans HC.out.2.1⟩;obtain⟨fj,ax⟩:∃ fj,fj=fs.getD j 0:=⟨_,rfl⟩;rw[<- ax];have ch:=aB ax;clear A FA c0 c1 c2 c3 c4 c5 ax;go_wp2_with fail;go_loopw [15,17,18] (fun at_ i _ wx=>∃ q:M,q<=ys.length/\i=V Y q/\at_=V Y (dP.upto fs j q:M)/\aH [O] W1 wx/\wx.heap[O]?=U (UX cs 85)) (fun _ i _ _=>ys.length-(intOf i).toNat)
      case atStart=>exact⟨0,VM _,rfl,rfl,H4.out⟩
      case round =>
       obtain⟨q,hq,rfl,rfl,o,t⟩:=hrel;have cr:=dP.IB fs j q;by_cases au:q<ys.length
       .have f:=al.out _ o q au;have c0:=f.c0;have c1:=f.c1;have c2:=f.c2;have c3:=f.c3;have c4:=f.c4;have c5:=f.c5;have bu:(q:Ux)<(ys.length:Ux):=Uh
        have FA:=aB (C6 ys[q] fr til _ f.sl (by have:=YE.out q au;omega));have FJ:=FS.out.2 q au;rw[<- FJ] at FA;have UP:Hid (dP.upto fs j (q+1)=dP.upto fs j q+if dP.before fs q j then 1 else 0):=dP.Ai fs j q;have BF:Hid (dP.before fs q j=(decide (fs.getD q 0<fj) || (decide (fs.getD q 0=fj) && decide (q<j)))):=by show _=_;rw[ch.out];rfl
        have HO:=aB (Vf o t);clear o t f FJ;go_wp2_with fail;refine FA.out.mono ?_;rintro e w5 ⟨rfl,K⟩;have H5:Hid (aH [O] W1 w5/\w5.heap[O]?=U (UX cs 85)):=⟨HO.out.1.trans (aH.aD K),(K.block _ (YC.1 HO.out.2).1).trans HO.out.2⟩;generalize fs.getD q 0=fq at *;generalize dP.upto fs j q=uq at *;clear K FA c0 c1 c2 c3 c4 c5;have an:dP.before fs q j=UE->∃ B:M,B<=ys.length/\(V Y ((q:Ux)+1))=V Y B/\(V Y ((uq:Ux)+1))=V Y (dP.upto fs j B:M)/\aH [O] W1 w5/\w5.heap[O]?=U (UX cs 85):=fun h=>⟨q+1,by omega,rfl,by rw[UP.out,h];rfl,H5.out⟩;have ao:dP.before fs q j=UD->∃ B:M,B<=ys.length/\(V Y ((q:Ux)+1))=V Y B/\(V Y (uq:Ux))=V Y (dP.upto fs j B:M)/\aH [O] W1 w5/\w5.heap[O]?=U (UX cs 85):=fun h=>⟨q+1,by omega,rfl,by rw[UP.out,h];rfl,H5.out⟩;have HY:=aB an;have HN:=aB ao;clear an ao;by_cases a1:fq<fj
        .have Y1:=aB (HY.out (by rw[BF.out];simp[a1]))
         go_wp2;go_roundw
         case rel=>exact Y1.out
         case measure=>simp[intOf];omega
        .by_cases a2:fq=fj
         .have cf:(fq==fj)=UE:=by simpa using a2
          by_cases a3:q<j
          .have Y1:=aB (HY.out (by rw[BF.out];simp[a2,a3]));have cd:(q:Ux)<(j:Ux):=Uh
           clear a2;go_wp2;go_roundw
           case rel=>exact Y1.out
           case measure=>simp[intOf];omega
          .have Y1:=aB (HN.out (by rw[BF.out];simp[a1,a3]));have cd:¬ (q:Ux)<(j:Ux):=Uh
           clear a2;go_wp2;go_roundw
           case rel=>exact Y1.out
           case measure=>simp[intOf];omega
         .have cf:(fq==fj)=UD:=by simpa using a2
          have Y1:=aB (HN.out (by rw[BF.out];simp[a1,a2]));clear a2;go_wp2;go_roundw
          case rel=>exact Y1.out
          case measure=>simp[intOf];omega
       .have e:dP.upto fs j q=dP.mP fs j:=by unfold dP.mP;rw[FS.out.1,show q=ys.length by omega]
        have bu:¬ (q:Ux)<(ys.length:Ux):=Uh;have ba:=dP.CD fs (i:=j) (by rw[FS.out.1];exact I);rw[FS.out.1] at ba;rw[e];have f:=al.out _ o j I;have c0:=f.c0;have c1:=f.c1;have c2:=f.c2;have c3:=f.c3;have c4:=f.c4;have c5:=f.c5;have ab:=HC.out.2.2.1;have cu:(j:Ux)<(ys.length:Ux):=Uh;obtain⟨p,hp⟩:∃ p,p=dP.mP fs j:=⟨_,rfl⟩;rw[<- hp] at ba ⊢;have HP:=aB hp;have ct:(p:Ux)<(ys.length:Ux):=Uh;have oc:∀ c,c<6->∃ v,wr.cell? ⟨O,p*6+c,UB⟩=U v:=fun c hc=>by have h9:p*6+c<cs.size:=Uh;exact⟨cs[p*6+c],by simp[Vk,t,h9]⟩
        obtain⟨v0,o0⟩:=oc 0 Uh;obtain⟨v1,o1⟩:=oc 1 Uh;obtain⟨v2,o2⟩:=oc 2 Uh;obtain⟨v3,o3⟩:=oc 3 Uh;obtain⟨v4,o4⟩:=oc 4 Uh;obtain⟨v5,o5⟩:=oc 5 Uh;rw[Nat.add_zero] at o0;have of:=xE t;have ck:gl≠O:=by have:=a4.out;omega
        have HO:=aB (Vf o t);clear o t f hp oc e ab;go_wp2;go_roundw
        case rel =>
         refine⟨j+1,by omega,by go_num,rV cs p (V Y ys[j].1.id) (V Y ys[j].1.kind) (UQ ys[j].1.bH) (V Y ys[j].1.aN) (UO (U ⟨ys[j].2.1,0,UB⟩) ys[j].1.aR.length ys[j].2.2) (V Y ys[j].1.bY),((((((HO.out.1.setCell (.inl Ui) _ _).setCell (.inl Ui) _ _).setCell (.inl Ui) _ _).setCell (.inl Ui) _ _).setCell (.inl Ui) _ _).setCell (.inl Ui) _ _),Rj HO.out.2 p _ _ _ _ _ _,by rw[Rk];exact HC.out.2.2.1,fun j' h1 h2 c h3=>?_⟩;rw[QD _ _ _ _ _ _ _ _ (by have:=HC.out.2.2.1;omega) _ _ h3];by_cases e1:j'=j
         .subst e1;rw[HP.out,Uz rfl];rfl
         .rw[Uy,HC.out.2.2.2 j' Uh h2 c h3];intro e2;rw[HP.out] at e2;exact e1 (dP.CR (fs:=fs) (by rw[FS.out.1];exact h2) (by rw[FS.out.1];exact I) e2)
        case measure=>simp[intOf];omega
     .have bv:¬ (j:Ux)<(ys.length:Ux):=Uh
      have HF:Hid (pC w (UO (U ⟨O,0,UB⟩) ys.length ys.length) (aA.nE name fr til s.es) wr):=by
       obtain⟨zs,a7,ar⟩:=Rl fs ys FS.out.1;have R:=u.out.1.off o (by rw[a4.out];exact zq _);have ac:∀ z∈zs,z∈ys:=fun z S=>by obtain⟨p,hp,rfl⟩:=List.getElem_of_mem S;obtain⟨i,D,e⟩:=dP.Ag fs (k:=p) (by rw[FS.out.1];omega);have:=ar i (by rw[<- FS.out.1];exact D);rw[e,Wx hp,ZI] at this;rw[this];exact zg _
       have ca:O<wr.heap.size:=(YC.1 t).1;have T:=G9 (w:=w) (w':=wr) (g:=O) (cap:=ys.length) (a:=U ⟨O,0,UB⟩) (zs:=zs) (fun _=>rfl) (fun p hp=>?_) (fun _=>⟨by have:=u.out.1.bw.size;have:=a4.out;omega,ca⟩) (fun z S=>⟨(R.sl z (ac z S)).2.1,(R.sl z (ac z S)).2.2.1⟩) R.bw
       .rw[a7] at T;have e1:=aA.Lc (name:=name) (a:=fr) (b:=til) (es:=s.es) (out:=zs.map (·.1)) bi
        obtain⟨p1,p2⟩:=aA.Rp (a:=fr) (b:=til) (l:=ys.map (·.1)) (out:=zs.map (·.1)) (by rw[u.out.2.1];exact aA.Bh _ bi) (by simp[a7]) (fun i D=>by
         have ai:i<ys.length:=by simpa using D
         rw[<- cg.out,XT,ar i ai];simp)
        rw[e1 p1 (fun e=>by rw[p2 e,u.out.2.1])] at T;exact T
       .obtain⟨i,D,e⟩:=dP.Ag fs (k:=p) (by rw[FS.out.1];omega);have ai:i<ys.length:=by rw[<- FS.out.1];exact D
        have S:=ar i ai;rw[e,Wx hp,ZI] at S;have cl:∀ c,c<6->wr.cell? ⟨O,p*6+c,UB⟩=(fg zs[p])[c]?:=fun c hc=>by have:=x i Uh ai c hc;rw[e] at this;rw[S,<- this];simp[Vk,t]
        exact⟨cl 0 Uh,cl 1 Uh,cl 2 Uh,cl 3 Uh,cl 4 Uh,cl 5 Uh,(R.sl zs[p] (ac _ (zg hp))).1⟩
      clear o t ab x;go_wp2;go_ret;exact⟨_,rfl,HF.out⟩
theorem DD.kU{X:UF}{xs:J (aQ × M × M)}(h:DD w d s xs F)(q:UH w w X)(T:pC X v es Z)(A:w<=Q)(y:Q<X)(a b c e f g i:UG):eK w d F xs (s,{ bS.num 0 with entries:=es }) (UW (bT 0 0 0 v aV aV aV)) (dE Z Q a b c e f g i):=by
 let⟨l,G,hl,hE,hG,kZ⟩:=T;have o:=mY Z Q a b c e f g i;have kw:=bU q kZ aJ;have r:∀ x,x<w.heap.size->x ∉ [Q]:=fun x j e=>by grind
 have p:∀ x∈G,x ∉ [Q]:=fun x j e=>by grind
 refine⟨v,aV,aV,aV,xs,F,G,rfl,fun u t=>⟨⟨l,hE u (fun x j=>(t x j).trans (o.block x (hG x j).2 (p x j))),hl⟩,NV.nil _,NV.nil _⟩,Wc _ _ _ _,(h.later kw).off o (fun x j=>r x (h.lt x j)) (fun x j=>r _ (h.rd.sp x j).2.2),fun _ j=>.inl j,(aH.aD kw).trans' o (fun x j=>.inr Uo),fun x j=>?_,fun x j=>by simp[V9] at j,fun x j=>.inl ⟨x,j,rfl⟩⟩;have z:=hG x j;have t:=q.size;exact⟨by omega,VP z.2 o.size,fun e=>by have:=h.lt x e;omega,by simp[V9]⟩
theorem pC.bw(h:pC w v es w'):UH w w w':=by let⟨_,_,_,_,_,k⟩:=h;exact k
theorem pC.form(h:pC w v es w'):∃ a cap,v=UO a es.length cap:=by let⟨l,G,hl,hE,_⟩:=h;let⟨a,c,e⟩:=(hE w' (fun _ _=>rfl)).form;exact⟨a,c,by grind⟩
def B8(b:Uv)(name:Us)(fr til:Ux):aA.jb:=if b then .list name fr til else .ef name fr til
def Pr(w:UF)(g n:M)(b:Uv)(fr til:Ux):Prop:=(n=2/\b=UE/\fr=0/\til=1048320)\/(3<n/\∃ t u:Us,t.size<=160/\u.size<=160/\w.cell? (g,2)=U ↑t/\w.cell? (g,3)=U ↑u/\eJ t=fr/\eJ u=til)
theorem CX{xs:J (aQ × M × M)}(h:DD w d s xs F)(S:aA.eD s.es){b:Uv}{til:Ux}(hb:(kw.toList==[108,105,115,116])=b)(hn:1<n)(ht:Pr w g n b fr til)(h0:w.cell? (g,0)=U ↑kw)(h1:w.cell? (g,1)=U ↑name):UI prog 69 #[d,UO g n c] w (eK w d F xs (aX s (B8 b name fr til))):=by
 have a:=aB ((KP.nil w).alloc bI);have H:=aB h;have i0:(0:Ux)<(n:Ux):=Uh;have i1:(1:Ux)<(n:Ux):=Uh;have y0:=aT a.bl h0;have y1:=aT a.bl h1;have E:w<(w.alloc bI).heap.size:=Ui;have P:Hid (aX s (B8 b name fr til)=if aA.cI name s.ts=0 then (s,.error 3) else if til<=fr then (s,.error 6) else if b then (s,{ bS.num 0 with entries:=aA.nE name fr til s.es }) else (s,.num (aA.nZ name s.es fr til))):=by
  show _=_
  cases b <;> rfl
 clear h;go_in;go_upto_region 1 with fail;change YD _ _ _ _ (w.alloc bI);generalize w.alloc bI=X at *;generalize aX s (B8 b name fr til)=D at *;rcases ht with ⟨rfl,rfl,rfl,rfl⟩|⟨h3,t,u,zt,zu,ct,cu,rfl,rfl⟩
 .have R:=aB (H.later a.bl);have UN:=aB (R.aN name);have LS:=aB (ID R S name 0 1048320);have K:=aB (Q7.of (a.kb (w,bI) Ui));generalize aA.cI name s.ts=un at *
  go_wp21;refine UN.mono ?_;rintro e w3 ⟨rfl,rfl⟩;by_cases f:un=0
  .have A:Hid (eK w d F xs D (UW (bT 3 0 0 aV aV aV aV)) (dE w3 w (V Y 3) (V Y 0) (V Y 0) aV aV aV aV)):=by show eK w d F xs _ _ _;rw[P,Uz f];exact H.said a.bl aJ 3 0 _ _ _ _ _ _ _
   have I:(un==0)=UE:=bZ f;obtain⟨y,x,r,p,o,j,i,z⟩:=K;clear f;go_wp21;exact cV results69 ⟨y,x,r,p,o,j,i,z⟩ A
  .have I:(un==0)=UD:=bZ f
   have E9:Hid (D=(s,{ bS.num 0 with entries:=aA.nE name 0 1048320 s.es })):=by show _=_;rw[P,Uy f];rfl
   clear f;go_wp21;refine LS.mono ?_;rintro e w4 ⟨v,rfl,B⟩;obtain⟨al,cl,hv⟩:=B.form;have A:Hid (eK w d F xs D (UW (bT 0 0 0 v aV aV aV)) (dE w4 w (V Y 0) (V Y 0) (V Y 0) v aV aV aV)):=by show eK w d F xs _ _ _;rw[E9];exact H.kU a.bl B aJ E _ _ _ _ _ _ _
   obtain⟨y,x,r,p,o,j,i,z⟩:=K.later (B.bw.block _ E);clear B;subst hv;go_wp21;exact cV results69 ⟨y,x,r,p,o,j,i,z⟩ A
 .have i2:(2:Ux)<(n:Ux):=Uh
  have i3:(3:Ux)<(n:Ux):=Uh;have c2:=aT a.bl ct;have T1:=aB (fun wx=>tj t wx zt);have T2:=aB (fun wx=>tj u wx zu);generalize eJ t=fr at *;generalize eJ u=til at *;go_wp21;refine aK (T1 _) fun w1 aa=>?_;replace a:=aB (a.later aa);have c3:=aT a.bl cu;clear aa y0 y1 c2 E;go_wp21;refine aK (T2 _) fun w2 T=>?_;replace a:=aB (a.later T);have y0:=aT a.bl h0;have y1:=aT a.bl h1;have E:=a.lt (q:=(w,bI)) Ui;clear T c3 T1 T2 X;have R:=aB (H.later a.bl);have UN:=aB (R.aN name);have LS:=aB (ID R S name fr til);have PK:=aB (R.ef name fr til);have K:=aB (Q7.of (a.kb (w,bI) Ui));generalize aA.cI name s.ts=un at *;generalize aA.nZ name s.es fr til=pk at *;go_wp21;refine UN.mono ?_;rintro e w3 ⟨rfl,rfl⟩;by_cases f:un=0
  .have A:Hid (eK w d F xs D (UW (bT 3 0 0 aV aV aV aV)) (dE w3 w (V Y 3) (V Y 0) (V Y 0) aV aV aV aV)):=by show eK w d F xs _ _ _;rw[P,Uz f];exact H.said a.bl aJ 3 0 _ _ _ _ _ _ _
   have I:(un==0)=UE:=bZ f;obtain⟨y,x,r,p,o,j,i,z⟩:=K;clear f;go_wp21;exact cV results69 ⟨y,x,r,p,o,j,i,z⟩ A
  .have I:(un==0)=UD:=bZ f
   by_cases a2:til<=fr
   .have A:Hid (eK w d F xs D (UW (bT 6 0 0 aV aV aV aV)) (dE w3 w (V Y 6) (V Y 0) (V Y 0) aV aV aV aV)):=by show eK w d F xs _ _ _;rw[P,Uy f,Uz a2];exact H.said a.bl aJ 6 0 _ _ _ _ _ _ _
    obtain⟨y,x,r,p,o,j,i,z⟩:=K;clear f;go_wp21;exact cV results69 ⟨y,x,r,p,o,j,i,z⟩ A
   .cases b
    .have E9:Hid (D=(s,.num pk)):=by show _=_;rw[P,Uy f,Uy a2];rfl
     clear f;go_wp21;refine PK.mono ?_;rintro e w4 ⟨rfl,C⟩;have B4:=aB (bU a.bl C aJ);have A:Hid (eK w d F xs D (UW (bT 0 0 pk aV aV aV aV)) (dE w4 w (V Y 0) (V Y 0) (V Y pk) aV aV aV aV)):=by show eK w d F xs _ _ _;rw[E9];exact H.said B4 aJ 0 pk _ _ _ _ _ _ _
     obtain⟨y,x,r,p,o,j,i,z⟩:=K.later (C.block _ E);clear C;go_wp21;exact cV results69 ⟨y,x,r,p,o,j,i,z⟩ A
    .have E9:Hid (D=(s,{ bS.num 0 with entries:=aA.nE name fr til s.es })):=by show _=_;rw[P,Uy f,Uy a2];rfl
     clear f;go_wp21;refine LS.mono ?_;rintro e w4 ⟨v,rfl,B⟩;obtain⟨al,cl,hv⟩:=B.form;have A:Hid (eK w d F xs D (UW (bT 0 0 0 v aV aV aV)) (dE w4 w (V Y 0) (V Y 0) (V Y 0) v aV aV aV)):=by show eK w d F xs _ _ _;rw[E9];exact H.kU a.bl B aJ E _ _ _ _ _ _ _
     obtain⟨y,x,r,p,o,j,i,z⟩:=K.later (B.bw.block _ E);clear B;subst hv;go_wp21;exact cV results69 ⟨y,x,r,p,o,j,i,z⟩ A
open aA (aQ St bS aX Inv)
theorem Pk{xs:J (aQ × M × M)}(h:DD w d s xs F)(A:Inv s){t:Us}(hn:1<n)(p:w.cell? (g,0)=U (UQ ⟨#[116,105,99,107]⟩))(o:w.cell? (g,1)=U ↑t)(ht:t.size<=160)(j:1<=cB t 1 7/\cB t 1 7<=1048320):UI prog 38 #[d,UO g n c] w (eK w d F xs (aX s (.tick (cB t 1 7)))):=by
 have a:=aB ((KP.nil w).alloc bI);have H:=aB h;have r:=aB (Vf h.lt (fun y z=>(h.rd.sp y z).2.2));have i0:(0:Ux)<(n:Ux):=Uh;have T:(1:Ux)<(n:Ux):=Uh;have x:=aT a.bl p;have u:=aT a.bl o;clear h p o;go_in;go_upto_region 1 with fail;change YD _ _ _ _ (w.alloc bI);generalize w.alloc bI=X at *;go_wp21;refine aK (gC t 1 7 X ht Uh Uh) fun I f=>?_;replace a:=aB (a.later f);have TK:=aB (Pc (H.later a.bl) A j);have B:=a.lt (q:=(w,bI)) Ui;clear f x u j;generalize cB t 1 7=m at *;go_wp21;refine TK.mono ?_;intro e E i;obtain⟨a1,a2,a3,a4,S,R,P,K,c1,c2,c3,c4,rfl,C,i⟩:=i.up a.bl aJ B r.1 r.2 (Q7.of (a.kb (w,bI) Ui));have D:=aB i;let⟨q0,q1,q2,q3,q4,q5,q6,fq⟩:=C;clear i TK;simp only[bT];go_wp21;exact cV results38 ⟨q0,q1,q2,q3,q4,q5,q6,fq⟩ D
theorem QU{xs:J (aQ × M × M)}(h:DD w d s xs F)(r:0<n)(j:w.cell? (g,0)=U (UQ ⟨#[119,97,105,116,105,110,103]⟩)):UI prog 38 #[d,UO g n c] w (eK w d F xs (aX s .waiting)):=by
 have f:=aB ((KP.nil w).alloc bI);have H:=aB h;have q:(0:Ux)<(n:Ux):=Uh;have p:=aT f.bl j;have i:w<(w.alloc bI).heap.size:=Ui;have WT:=aB (Pj (H.later f.bl));clear h j;go_in;go_upto_region 1 with fail;change YD _ _ _ _ (w.alloc bI);generalize w.alloc bI=X at *;go_wp21;refine WT.mono ?_;rintro e w4 ⟨v,rfl,a⟩;let⟨al,cl,hv⟩:=a.form;have o:Hid (eK w d F xs (aX s .waiting) (UW (bT 0 0 0 v aV aV aV)) (dE w4 w (V Y 0) (V Y 0) (V Y 0) v aV aV aV)):=H.kU f.bl a aJ i _ _ _ _ _ _ _;let⟨q0,q1,q2,q3,q4,q5,q6,fq⟩:=(Q7.of (f.kb (w,bI) Ui)).later (a.bw.block _ i);clear a;subst hv;go_wp21;exact cV results38 ⟨q0,q1,q2,q3,q4,q5,q6,fq⟩ o
theorem IZ:∀ (es:J aQ)(id i:Ux),0<=i->(aA.lH id es i=-1/\aA.mW id es=UB)\/∃ k:M,∃ h:k<es.length,aA.lH id es i=i+k/\aA.mW id es=U es[k]/\es[k].id=id
 |[],id,i,_=>.inl ⟨rfl,rfl⟩
 |e :: r,id,i,h0=>by
  unfold aA.lH aA.mW;by_cases h:e.id=id
  .refine .inr ⟨0,by simp,?_⟩;simp[h]
  .rcases IZ r id (i+1) Uh with ⟨f,a⟩|⟨k,o,f,a,j⟩
   .refine .inl ?_;rw[Uy h];simp only[XP,h,decide_false];exact⟨f,a⟩
   .refine .inr ⟨k+1,by grind,?_⟩;rw[Uy h];simp only[XP,h,decide_false];exact⟨by grind,a,j⟩
theorem RG(h:aA.eD es)(j:k<es.length):es.set k (aA.ek es[k])=aA.fc es[k].id es:=by
 unfold aA.fc;apply List.ext_getElem Ui;intro i f o;rw[List.getElem_set,List.getElem_map];simp only[List.length_set] at f;split
 .rename_i e;subst e;simp
 .rename_i e
  rw[Uy];intro p;have:=(List.pairwise_iff_getElem.1 h);rcases Nat.lt_or_gt_of_ne e with a|a
  .have:=this k i Uo Uo a;simp only[List.getElem_map] at this;omega
  .have:=this i k Uo Uo a;simp only[List.getElem_map] at this;omega
theorem Qh{xs:J (aQ × M × M)}:(iB id xs).map (·.1)=aA.kept id (xs.map (·.1)):=by unfold iB aA.kept;rw[XX];congr 1
def qj(b:Uv)(id:Ux):aA.jb:=if b then .cancel id else .bL id
theorem Hf{xs:J (aQ × M × M)}(h:DD w d s xs F)(af:aA.eD s.es)(b:Uv){t:Us}(hk:(kw.toList==[99,97,110,99,101,108])=b)(ht:t.size<=160)(hn:1<n)(c0:w.cell? ⟨g,0,UB⟩=U (UQ kw))(c1:w.cell? ⟨g,1,UB⟩=U (UQ t)):UI prog 67 #[UM (U ⟨d,0,UB⟩),UO (U ⟨g,0,UB⟩) n c] w (eK w d F xs (aX s (qj b (cB t 1 7)))):=by
 have hX:UH w.heap.size w (w.alloc bI):=(zr _ _).alloc (zq _) _;have hQ:=dH w bI;have H:=aB h;have HX:=aB (Vf hX hQ);have x0:=aT hX c0;have x1:=aT hX c1;have ak:(1:Ux)<(n:Ux):=Uh;have aj:(0:Ux)<(n:Ux):=Uh;clear hX hQ c0 c1 h;go_in;go_upto_region 1 with fail;change YD _ _ _ _ (w.alloc bI);generalize w.alloc bI=X at *;go_wp2_with fail;refine (gC t 1 7 X ht Uh Uh).mono ?_;rintro e w1 ⟨rfl,A⟩;have B1:=aB (bU HX.out.1 A (zq _));have D1:=aB (H.out.later B1.out);have PL:=aB (D1.out.place (cB t 1 7));have PF:=aB (IZ s.es (cB t 1 7) 0 (W5 _));have x0:=aT A x0;have Q1:=aB ((Q7.of HX.out.2).later (A.block _ (YC.1 HX.out.2).1));clear A HX x1;generalize cB t 1 7=id at *;go_wp2_with fail;refine PL.out.mono ?_;rintro e z ⟨rfl,rfl⟩;clear PL;obtain⟨u,R,P,K,I,D,C,S⟩:=Q1.out;rcases PF.out with ⟨e1,e2⟩|⟨k,ad,e1,e2,e3⟩
 .have hp:aA.lH id s.es 0<0:=Uh
  have HF:Hid (eK w d F xs (aX s (qj b id)) (UW (bT 9 0 0 aV aV aV aV)) (dE z w.heap.size (V Y 9) (V Y 0) (V Y 0) aV aV aV aV)):=by
   have:=H.out.said B1.out (zq _) 9 0 (V Y 9) (V Y 0) (V Y 0) aV aV aV aV;show eK w d F xs _ _ _
   cases b <;> (simp only[qj,aX,e2,U7,if_true,if_false];exact this)
  clear e1 e2 PF;generalize aA.lH id s.es 0=pl at *;go_wp2_with fail;exact cV results67 ⟨u,R,P,K,I,D,C,S⟩ HF.out
 .rw[Int.zero_add] at e1;rw[e1];have hp:¬ ((k:Ux)<0):=Uh
  have j:k<xs.length:=by have:=H.out.len;omega
  have al:(k:Ux)<(s.es.length:Ux):=Uh;have ai:(0:Ux)<=(k:Ux):=Uh;clear e1 PF;obtain⟨a,cap,E,T⟩:=D1.out.er;obtain rfl:=T.a k j;have cc:=T.c;rw[H.out.len] at cc;have r1:=(T.r k j).c1;have r5:=(T.r k j).c5;have i:xs[k].1=s.es[k]:=by
   have e:(xs.map (·.1))[k]?=U s.es[k]:=by rw[H.out.es];simp[ad]
   rw[Wx (by simpa using j),ZI,List.getElem_map] at e;exact e
  have fE:=fun o=>T.f o Uh;have HR:=aB T;have B:=aB (Vf e2 (Vf e3 i));clear e2 e3 T
  cases b
  .rw[i] at r1 r5
   by_cases p:s.es[k].kind=2
   .have hq:(s.es[k].kind != 2)=UD:=by simp[p]
    have bk:=D1.out.fc HR.out j (es':=aA.fc id s.es) (by rw[i,RG af ad,B.out.2.1]);have aa:=bk.2.1;have an:=bk.2.2;have kE:aH F z ((z.setCell ⟨E,k*6+1,UB⟩ (V Y 1)).setCell ⟨E,k*6+5,UB⟩ (V Y 0)):=((aH.refl F z).setCell (.inl aa) _ _).setCell (.inl aa) _ _;have ao:E≠w.heap.size:=by have:=H.out.lt E aa;omega
    have hw:aH F w ((z.setCell ⟨E,k*6+1,UB⟩ (V Y 1)).setCell ⟨E,k*6+5,UB⟩ (V Y 0)):=(aH.aD B1.out).trans kE;have HD:Hid (aX s (qj UD id)=({ s with es:=aA.fc id s.es },⟨0,0,0,[],[],[],[]⟩)):=by show _=_;simp[qj,aX,B.out.1,p,bS.num]
    have ae:w.heap.size ∉ F:=fun e=>by have:=H.out.lt _ e;omega
    have Q2:=aB (Q1.out.later (kE.block _ (U1 _ _ u) ae));have HB:=aB (Vf bk.1 hw);clear bk kE hw p u R P K I D C S;go_upto_region 12 with fail;generalize (Vg (Vg z _ _) _ _)=Z at *;have HF:Hid (eK w d F xs (aX s (qj UD id)) (UW (bT 0 0 0 aV aV aV aV)) (dE Z w.heap.size (V Y 0) (V Y 0) (V Y 0) aV aV aV aV)):=by
     show eK w d F xs _ _ _;rw[HD.out];refine HB.out.1.oM (fun _ i=>.inl i) HB.out.2 (zq _) ae (fun x i e=>?_) (fun x i=>.inl ?_) 0 0 _ _ _ _ _ _ _;rotate_left
     .rcases ZL i with i|rfl
      .exact⟨x,i,rfl⟩
      .exact⟨xs[k],Zb j,rfl⟩
     have:x.2.1<w.heap.size:=by
      rcases ZL i with i|rfl
      .exact (H.out.rd.sp x i).2.2
      .exact (H.out.rd.sp xs[k] (zg j)).2.2
     omega
    obtain⟨u,R,P,K,I,D,C,S⟩:=Q2.out;clear HB Q2;go_wp2_with fail;exact cV results67 ⟨u,R,P,K,I,D,C,S⟩ HF.out
   .have hq:(s.es[k].kind != 2)=UE:=by simp[p]
    have HF:Hid (eK w d F xs (aX s (qj UD id)) (UW (bT 10 0 0 aV aV aV aV)) (dE z w.heap.size (V Y 10) (V Y 0) (V Y 0) aV aV aV aV)):=by have:=H.out.said B1.out (zq _) 10 0 (V Y 10) (V Y 0) (V Y 0) aV aV aV aV;show eK w d F xs _ _ _;simp only[qj,aX,B.out.1,U7,if_false,p,ne_eq,not_false_eq_true,if_true];exact this
    clear p;go_wp2_with fail;exact cV results67 ⟨u,R,P,K,I,D,C,S⟩ HF.out
  .have WO:=aB (D1.out.oa id)
   have HD:Hid (aX s (qj UE id)=({ s with es:=aA.kept id s.es },⟨0,0,0,[],[],[],[]⟩)):=by show _=_;simp[qj,aX,B.out.1,bS.num]
   clear r1 r5 cc fE;go_wp2_with fail;refine WO.out.mono ?_;rintro e w3 ⟨vr,rfl,ho,q⟩;obtain⟨av,cv,ab⟩:=iD ho;have FR:=aB (D1.out.fresh ho (zq _) q (fun y hy=>(Xb.1 hy).1) (Wj ..) (Qh.trans (by rw[H.out.es])));have D3:=D1.out.later q;obtain⟨v2,y1,_⟩:=D3.rd.ev;have fy:=D3.rd.fz 1;have ag:d≠w.heap.size:=by have:=H.out.lt d H.out.rd.dF;omega
   have kd:aH [d] w3 (w3.setCell ⟨d,1,UB⟩ vr):=aH.bM ..;have Q3:=aB ((Q1.out.later (q.block _ (U1 _ _ u))).later (kd.block _ (zL (U1 _ _ u) q.size) (by simp;exact fun e=>ag e.symm)));have HO:=aB (Vf (((aH.aD (F:=F) B1.out).trans (aH.aD q)).setCell (.inl H.out.rd.dF) 1 vr) ho);have hz:=B1.out.size;have ac:=U1 _ _ u;have ac:w.heap.size<z.heap.size:=ac;clear ho q D3 kd;rw[ab] at FR Q3 HO ⊢;clear ab u R P K I D C S;go_upto_region 12 with fail;generalize (Vg w3 ⟨d,1,UB⟩ _)=Z at *;have HF:Hid (eK w d F xs (aX s (qj UE id)) (UW (bT 0 0 0 aV aV aV aV)) (dE Z w.heap.size (V Y 0) (V Y 0) (V Y 0) aV aV aV aV)):=by
    show eK w d F xs _ _ _;rw[HD.out];have hv:∀ b,(UO av (iB id xs).length cv).ownBlock=U b->z.heap.size<=b:=fun b hb=>gU HO.out.2 hb;refine FR.out.oM (fun x i=>?_) HO.out.1 (zq _) (fun i=>?_) (fun x i e=>?_) (fun x i=>.inl ⟨x,(Xb.1 i).1,rfl⟩) 0 0 _ _ _ _ _ _ _
    .rcases Vb.1 i with e|e
     .have:=hv x (by simpa using e);exact .inr Uh
     .exact .inl e
    .rcases Vb.1 i with e|e
     .have:=hv _ (by simpa using e);omega
     .have:=H.out.lt _ e;omega
    .have:=(H.out.rd.sp x ((Xb.1 i).1)).2.2;omega
   obtain⟨u,R,P,K,I,D,C,S⟩:=Q3.out;clear FR Q3 HO;go_wp2_with fail;exact cV results67 ⟨u,R,P,K,I,D,C,S⟩ HF.out
end Go.Proofs.YtolaacmheeaadaaGreatDoor
