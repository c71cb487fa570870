import Derived.Test.YtfigmlfdnickmaaGreatDoorL09
import Derived.BigQuiet
set_option maxRecDepth 100000
set_option maxHeartbeats 8000000
open Go.Proofs.Tryz
open _root_ renaming ByteArray->XK,List->XL,Option->XM,Bool->XN,Nat->XP,Int->XQ,if_neg->XR,if_pos->XS,Int->N,Nat->M,List->J
open Option renaming none->XU,some->XV,mem_toList->ZL,none->Z,some->U
open Bool renaming false->XW,true->XX,eq_iff_iff->ZW
open Go renaming World->XY,Value->XZ,Calls->X4,TypeId->X6
open Go.RowKit renaming Below->X0
open And renaming intro->Yz
open Go.IntKind renaming i64->Yf,i64->Y
open List renaming length->Y4,length_append->YZ,mem_append->Yv,mem_map->Zh,mem_cons->Yu,drop_eq_getElem_cons->ZH,append_assoc->YU,drop_eq_nil_of_le->ZI,flatMap_cons->Zp,getElem?_append_right->Zt,length_cons->Y0,length_nil->Y7,length_set->Zx,mem_cons_of_mem->ZK,getElem?_append_left->Zn,map_append->Zl
open Go.World renaming news_of_block->ZF,frozen?->Ym,block_lt_of_cell?->Yl,ownsRow_nil->ZD,cell?->YF
open Go.Value renaming oneCell'->ZG,ownBlock->ZB,int->X7,slice->X9,pointer->X8,string->Ya,tuple->Yc,agg->Yd,iface->Ye,int->V
open Nat renaming le_trans->Yk,lt_of_lt_of_le->Zg,add_sub_cancel_left->Zu,zero_le->Zd,le_refl->Yi,zero_mul->Zy
open Go.Exit renaming inBlock->Zz
open Go.Ending renaming returned->Yg
open Go.Obj renaming cells->Yh
variable{held:XN}{s x:XK}{fr mi mn pc ti un:XQ}{ys:XL (Go.Proofs.YtfigmlfdnickmaaGreatDoor.aA.aO × XP × XP)}{acc:XL XQ}{F:XL XP}{xs:XL Go.Value}{B Q b c cap n p t z:XP}{st:XP × XN}{spare:XP->XN}{aN:XP->XM Go.Proofs.YtfigmlfdnickmaaGreatDoor.bH}{o:Go.Obj}{r' u v:Go.Value}{W X Z3 w w' w9 wr:Go.World}
namespace Go.Proofs.YtfigmlfdnickmaaGreatDoor
open Go.RowKit
def tz(n:N):XK:=if n=1 then ⟨#[100,97,105,108,121]⟩ else if n=2 then ⟨#[119,101,101,107,108,121]⟩ else ⟨#[109,111,110,116,104,108,121]⟩
def rF(r:Rd.cA):Array XZ:=#[tz r.pc,V Y r.ev,aL r.acc 0,aL r.acc 1,aL r.acc 2,aL r.acc 3,aL r.acc 4,aL r.acc 5,aL r.acc 6,V Y r.fr,r.mn,r.mi,r.ti,r.un]
def nU(r:Rd.cA):XZ:=Yd (rF r)
theorem Mz(x n:N):(x.tmod n==0)=decide (x % n=0):=by
 rw[ZW,beq_iff_eq,decide_eq_true_eq,<- Int.dvd_iff_tmod_eq_zero,Int.dvd_iff_emod_eq_zero]
def iJ(r:Rd.cA):Obj:=Yh (rF r) 273
theorem oD{r:Rd.cA}(h:W.heap[Q]?=U (iJ r)):(W.cell? (Q,0)=U (Ya (tz r.pc))/\W.cell? (Q,1)=U (V Y r.ev)/\W.cell? (Q,9)=U (V Y r.fr)/\W.cell? (Q,10)=U ↑r.mn/\W.cell? (Q,11)=U ↑r.mi/\W.cell? (Q,12)=U ↑r.ti/\W.cell? (Q,13)=U ↑r.un)/\∀ j,j<7->W.cell? ⟨Q,2+j,Z⟩=U (.bool (aL r.acc j)):=by
 refine⟨⟨bG h 0 rfl,bG h 1 rfl,bG h 9 rfl,bG h 10 rfl,bG h 11 rfl,bG h 12 rfl,bG h 13 rfl⟩,fun j a=>?_⟩;rcases (show j=0\/j=1\/j=2\/j=3\/j=4\/j=5\/j=6 by omega) with rfl|rfl|rfl|rfl|rfl|rfl|rfl
 all_goals exact bG h _ rfl
theorem MP(r:Rd.cA)(q:Rd.fY r)(d:N)(h0:r.fr<=d)(P:d<728)(w:XY):
  X4 prog 239 #[nU r,d] w fun e w'=>e=Yg (Rd.has r d)/\X0 w w w':=by
 have R:=q.f0;have e1:=q.e1;have e2:=q.e2;have f1:=q.f1;have hz:(r.ev==0)=XW:=by rw[beq_eq_false_iff_ne];omega
 have y:=aC (Yz ((zr _ w).alloc (zq _) (iJ r)) (cP w (iJ r)));have E:r.pc=1\/r.pc=2\/r.pc=3:=by have:=q.Fz;have:=q.Fy;omega
 have f:∀ x:N,0<=x->0<=x % r.ev/\x % r.ev<100:=fun x _=>⟨Int.emod_nonneg _ O,Int.lt_of_lt_of_le (Int.emod_lt_of_pos _ O) O⟩
 rcases E with a|a|a
 .have e:Rd.has r d=((d-r.fr) % r.ev==0):=by unfold Rd.has;rw[XS a];rfl
  have w1:Y.wrap (d-r.fr)=d-r.fr:=cT O O;have C:=f (d-r.fr) O;have w2:Y.wrap ((d-r.fr) % r.ev)=(d-r.fr) % r.ev:=cT O O;rw[e];have HP:Hid (tz r.pc=⟨#[100,97,105,108,121]⟩):=by rw[Hid,a];rfl
  clear a;simp only[nU,rF]
  go_in
  go_upto_region 1 with fail
  change Code.wp _ _ _ _ (w.alloc (iJ r));obtain⟨⟨A,c1,T,_⟩,_⟩:=oD y.2;rw[HP] at A;generalize w.alloc (iJ r)=W at *;clear C e f
  go_wp2
  go_ret;exact⟨rfl,y.1⟩
 .obtain⟨j,I⟩:∃ j:M,d % 7=j:=⟨(d % 7).toNat,O⟩;have H:j<7:=O
  obtain⟨bj,h⟩:∃ b,aL r.acc j=b:=⟨_,rfl⟩;have e:Rd.has r d=(bj && ((d / 7-r.fr / 7) % r.ev==0)):=by unfold Rd.has;rw[XR O,XS a,I,h];rfl
  have q1:d.tmod 7=j:=by rw[Int.tmod_eq_emod_of_nonneg O];exact I
  have q2:d.tdiv 7=d / 7:=Int.tdiv_eq_ediv_of_nonneg O;have q3:r.fr.tdiv 7=r.fr / 7:=Int.tdiv_eq_ediv_of_nonneg R;have w0:Y.wrap (j:N)=j:=cT O O;have w1:Y.wrap (d / 7)=d / 7:=cT O O;have w2:Y.wrap (r.fr / 7)=r.fr / 7:=cT O O;have w3:Y.wrap (d / 7-r.fr / 7)=d / 7-r.fr / 7:=cT O O;have C:=f (d / 7-r.fr / 7) O;have w4:Y.wrap ((d / 7-r.fr / 7) % r.ev)=(d / 7-r.fr / 7) % r.ev:=cT O O;have ab:¬ (j:N)<0:=O
  have aa:(j:N)<7:=O
  have HP:Hid (tz r.pc=⟨#[119,101,101,107,108,121]⟩):=by rw[Hid,a];rfl
  clear a C f I;simp only[nU,rF]
  cases bj
  all_goals
   simp only[Bool.false_and,Bool.true_and] at e;rw[e]
   go_in
   go_upto_region 1 with fail
   change Code.wp _ _ _ _ (w.alloc (iJ r));obtain⟨⟨A,c1,T,_⟩,S⟩:=oD y.2;rw[HP] at A;have cj:=S j H;clear S;rw[h] at cj;generalize w.alloc (iJ r)=W at *;clear e h
   go_wp2
   go_ret;exact⟨rfl,y.1⟩
 .obtain⟨_,_,y1,y2⟩:=Rd.qU (x:=d) O P;obtain⟨_,_,z1,z2⟩:=Rd.qU R f1
  have e:Rd.has r d=((Cal.dT r.fr==Cal.dT d) && ((12*Cal.yT d+Cal.mT d-12*Cal.yT r.fr-Cal.mT r.fr).tmod r.ev==0)):=by
   rw[Mz];unfold Rd.has;rw[XR O,XR O]
   congr 1
   rw[ZW,decide_eq_true_eq,beq_iff_eq];exact eq_comm
  have D1:=aC (fun W=>Bu r.fr W O O);have D2:=aC (fun W=>Bu d W O O);rw[e];clear e;obtain⟨m1,m2⟩:1<=Cal.mT d/\Cal.mT d<=12:=by have:=(Cal.uK d O O).1;exact⟨((Cal.iB _ _ _).1 this).2.2.1,((Cal.iB _ _ _).1 this).2.2.2.1⟩
  obtain⟨m3,m4⟩:1<=Cal.mT r.fr/\Cal.mT r.fr<=12:=by have:=(Cal.uK r.fr O O).1;exact⟨((Cal.iB _ _ _).1 this).2.2.1,((Cal.iB _ _ _).1 this).2.2.2.1⟩
  generalize Cal.yT d=yd at *;generalize Cal.mT d=md at *;generalize Cal.dT d=dd at *;generalize Cal.yT r.fr=yf at *;generalize Cal.mT r.fr=mf at *;generalize Cal.dT r.fr=df at *;have w1:Y.wrap (12*yd)=12*yd:=cT O O;have w2:Y.wrap (12*yd+md)=12*yd+md:=cT O O;have w3:Y.wrap (12*yf)=12*yf:=cT O O;have w4:Y.wrap (12*yd+md-12*yf)=12*yd+md-12*yf:=cT O O;have w5:Y.wrap (12*yd+md-12*yf-mf)=12*yd+md-12*yf-mf:=cT O O
  have w6:Y.wrap ((12*yd+md-12*yf-mf).tmod r.ev)=(12*yd+md-12*yf-mf).tmod r.ev:=by
   have P:=Int.tmod_lt_of_pos (12*yd+md-12*yf-mf) (show 0<r.ev by omega);have h2:=Int.lt_tmod_of_pos (12*yd+md-12*yf-mf) (show 0<r.ev by omega);exact cT O O
  generalize hx:12*yd+md-12*yf-mf=x at *;have HP:Hid (tz r.pc=⟨#[109,111,110,116,104,108,121]⟩):=by rw[Hid,a];rfl
  clear a;simp only[nU,rF]
  cases hd:df==dd
  all_goals
   simp only[Bool.false_and,Bool.true_and]
   go_in
   go_upto_region 1 with fail
   change Code.wp _ _ _ _ (w.alloc (iJ r));obtain⟨⟨A,c1,T,_⟩,_⟩:=oD y.2;rw[HP] at A;generalize w.alloc (iJ r)=W at *
   go_upto_region 7 with (first|(go_at_call 73;refine (D1 _).mono ?_;rintro e w1 ⟨rfl,rfl⟩))
   go_upto_region 8 with (first|(go_at_call 73;refine (D2 _).mono ?_;rintro e w1 ⟨rfl,rfl⟩))
   go_wp2
   go_ret;exact⟨rfl,y.out.1⟩
def lj(ws:M->XK)(i k:M)(pc:N)(acc:J N)(tm:XN):Rd.cA:=⟨pc,bT (ws (i+1)) 1 7,acc,fM (ws (k+1)),iG (ws (k+3)),bT (ws (k+5)) 1 7,if tm then bT (ws (k+7)) 1 7 else 0,if tm then 0 else fM (ws (k+7))⟩
structure te(ws:M->XK)(i k:M)(pc:N)(acc:J N)(tm:XN):Prop where
 hp:ws i=tz pc
 h3:pc=1\/pc=2\/pc=3
 hk:(pc=2/\k=i+2+1/\aB.eJ (ws (i+2))=XX/\aB.iX (ws (i+2))=U acc)\/(pc≠2/\k=i+2/\acc=[])
 ht:((ws (k+6)).toList==[116,105,109,101,115])=tm
inductive jj (ws:XL XK):XL XK->aA.gn->Prop where
 |bA:jj ws [lN,cM,eN] (.bA (ws.getD 1 ByteArray.empty) (bT (ws.getD 2 ByteArray.empty) 1 7))
 |book:jj ws [lI,cM,eN,bN,bN] (.enter 1 (ws.getD 1 ByteArray.empty) (bT (ws.getD 2 ByteArray.empty) 1 7) (dX (ws.getD 3 ByteArray.empty)) (dX (ws.getD 4 ByteArray.empty)) 0)
 |hold:jj ws [lF,cM,eN,bN,bN,fp] (.enter 2 (ws.getD 1 ByteArray.empty) (bT (ws.getD 2 ByteArray.empty) 1 7) (dX (ws.getD 3 ByteArray.empty)) (dX (ws.getD 4 ByteArray.empty)) (bT (ws.getD 5 ByteArray.empty) 1 7))
 |wait:jj ws [sE,cM,eN,bN,bN,fp] (.enter 3 (ws.getD 1 ByteArray.empty) (bT (ws.getD 2 ByteArray.empty) 1 7) (dX (ws.getD 3 ByteArray.empty)) (dX (ws.getD 4 ByteArray.empty)) (bT (ws.getD 5 ByteArray.empty) 1 7))
 |bF:jj ws [lM,lT] (.bF (bT (ws.getD 1 ByteArray.empty) 1 7))
 |cancel:jj ws [lJ,lT] (.cancel (bT (ws.getD 1 ByteArray.empty) 1 7))
 |list0:jj ws [eL,cM] (.list (ws.getD 1 ByteArray.empty) 0 1048320)
 |list1:jj ws [eL,cM,bN,bN] (.list (ws.getD 1 ByteArray.empty) (dX (ws.getD 2 ByteArray.empty)) (dX (ws.getD 3 ByteArray.empty)))
 |dN:jj ws [lH,cM,bN,bN] (.dN (ws.getD 1 ByteArray.empty) (dX (ws.getD 2 ByteArray.empty)) (dX (ws.getD 3 ByteArray.empty)))
 |find:jj ws [lD,cM,eN,fp,bN,bN] (.find (ws.getD 1 ByteArray.empty) (bT (ws.getD 2 ByteArray.empty) 1 7) (bT (ws.getD 3 ByteArray.empty) 1 7) (dX (ws.getD 4 ByteArray.empty)) (dX (ws.getD 5 ByteArray.empty)))
 |tick:jj ws [mh,fp] (.tick (bT (ws.getD 1 ByteArray.empty) 1 7))
 |waiting:jj ws [sN] .waiting
 |clock:jj ws [mq] .clock
 |series {K E:XL XK}{k:XP}{pc:XQ}{acc:XL XQ}{tm:XN}(hr:te (ws.getD · ByteArray.empty) 3 k pc acc tm) (hn:k+7<(nG++K++cI++E).length):jj ws (nG++K++cI++E) (.series (ws.getD 1 ByteArray.empty) (bT (ws.getD 2 ByteArray.empty) 1 7) (lj (ws.getD · ByteArray.empty) 3 k pc acc tm))
 |expand {K E:XL XK}{k:XP}{pc:XQ}{acc:XL XQ}{tm:XN}(hr:te (ws.getD · ByteArray.empty) 1 k pc acc tm) (hn:k+7<(oI++K++cI++E).length):jj ws (oI++K++cI++E) (.expand (lj (ws.getD · ByteArray.empty) 1 k pc acc tm))
def mW(s:XK)(v:XZ)(st:M × XN):Prop:=rS s st/\(st.2=XW->cU (aB.aU s).length st.1 st.2=XW->∃ q l,Full s q/\jj (aB.aU s) q l/\LV v l/\aA.iV l)
theorem pG(h:bL x=XX):dX x=eu x:=by unfold dX eu;rw[XS h,XS h]
theorem vX(h:dM x=XX):bT x 1 7=cQ x:=wk (Ca h).1
theorem yn(h:fc x=XX):bT x 1 7=cQ x:=wk (Ca h).1
theorem qF{k:XK}{q:J XK}(h:bS (aB.aU s) 0 XW k=XX)(f:nI.filter (oM k)=[q])(a:aW (aB.aU s) (q.map bE) (0,XW)=st):rS s st/\(st.2=XW->cU (aB.aU s).length st.1 st.2=XW->Full s q) :=
 ⟨wB h f (Gm a),wA h f (Gm a) a⟩
theorem rU{a:XK}{R:J XK}(f:Full s (a :: cM :: R)):((aB.aU s).getD 1 ByteArray.empty).size<=1000:=by
 have h:=jh [] f.all;rw[gU] at h;exact Xs h
theorem Pd(h:bS (aB.aU s) 0 XW lN=XX):mW s (Ye 149 (Yd #[iC (aB.aU s) (1,XW),V Y (cB (aB.aU s) (aW (aB.aU s) [bV] (1,XW)) dM cQ)])) (aW (aB.aU s) [bV,dM] (1,XW)):=by
 have r:jm lN=XX:=XE
 have K:=qF (q:=[lN,cM,eN]) h XE (by rw[<- jP h r]);simp only[List.map,gU,jX] at K;refine⟨K.1,fun y j=>⟨_,_,K.2 y j,.bA,?_⟩⟩;have a:=K.2 y j;have v1:=jy (Q:=[cM]) (s:=eN) (R:=[]) h r a.all cQ;have f:=jh [cM] (s:=eN) (R:=[]) a.all;simp only[List.map,Y4,gU,jX] at v1 f;rw[rT a.all,v1,vX f];exact⟨.bA _ (rU a) _,qO f⟩
theorem Oh(h:bS (aB.aU s) 0 XW lI=XX):mW s (Ye 154 (Yd #[iC (aB.aU s) (1,XW),V Y (cB (aB.aU s) (aW (aB.aU s) [bV] (1,XW)) dM cQ),V Y (cB (aB.aU s) (aW (aB.aU s) [bV,dM] (1,XW)) bL eu),V Y (cB (aB.aU s) (aW (aB.aU s) [bV,dM,bL] (1,XW)) bL eu)])) (aW (aB.aU s) [bV,dM,bL,bL] (1,XW)):=by
 have f:jm lI=XX:=XE
 have K:=qF (q:=[lI,cM,eN,bN,bN]) h XE (by rw[<- jP h f]);simp only[List.map,gU,jX,lU] at K;refine⟨K.1,fun E C=>⟨_,_,K.2 E C,.book,?_⟩⟩;have a:=K.2 E C;have v1:=jy (Q:=[cM]) (s:=eN) (R:=[bN,bN]) h f a.all cQ;have y:=jh [cM] (s:=eN) (R:=[bN,bN]) a.all;simp only[List.map,Y4,gU,jX] at v1 y;have v2:=jy (Q:=[cM,eN]) (s:=bN) (R:=[bN]) h f a.all eu;have r:=jh [cM,eN] (s:=bN) (R:=[bN]) a.all;simp only[List.map,Y4,gU,jX,lU] at v2 r;have A:=jy (Q:=[cM,eN,bN]) (s:=bN) (R:=[]) h f a.all eu;have j:=jh [cM,eN,bN] (s:=bN) (R:=[]) a.all;simp only[List.map,Y4,gU,jX,lU] at A j;rw[rT a.all,v1,v2,A,vX y,pG r,pG j];exact⟨.book _ (rU a) _ _ _,⟨.inl ⟨rfl,rfl⟩,(qO y).1,(qO y).2,(jK r).1,(jK r).2,(jK j).1,(jK j).2⟩⟩
theorem MA(h:bS (aB.aU s) 0 XW lF=XX):mW s (Ye 156 (Yd #[iC (aB.aU s) (1,XW),V Y (cB (aB.aU s) (aW (aB.aU s) [bV] (1,XW)) dM cQ),V Y (cB (aB.aU s) (aW (aB.aU s) [bV,dM] (1,XW)) bL eu),V Y (cB (aB.aU s) (aW (aB.aU s) [bV,dM,bL] (1,XW)) bL eu),V Y (cB (aB.aU s) (aW (aB.aU s) [bV,dM,bL,bL] (1,XW)) fc cQ)])) (aW (aB.aU s) [bV,dM,bL,bL,fc] (1,XW)):=by
 have f:jm lF=XX:=XE
 have K:=qF (q:=[lF,cM,eN,bN,bN,fp]) h XE (by rw[<- jP h f]);simp only[List.map,gU,jX,lU,pE] at K;refine⟨K.1,fun I H=>⟨_,_,K.2 I H,.hold,?_⟩⟩;have a:=K.2 I H;have v1:=jy (Q:=[cM]) (s:=eN) (R:=[bN,bN,fp]) h f a.all cQ;have y:=jh [cM] (s:=eN) (R:=[bN,bN,fp]) a.all;simp only[List.map,Y4,gU,jX] at v1 y;have v2:=jy (Q:=[cM,eN]) (s:=bN) (R:=[bN,fp]) h f a.all eu;have r:=jh [cM,eN] (s:=bN) (R:=[bN,fp]) a.all;simp only[List.map,Y4,gU,jX,lU] at v2 r;have E:=jy (Q:=[cM,eN,bN]) (s:=bN) (R:=[fp]) h f a.all eu;have j:=jh [cM,eN,bN] (s:=bN) (R:=[fp]) a.all;simp only[List.map,Y4,gU,jX,lU] at E j;have C:=jy (Q:=[cM,eN,bN,bN]) (s:=fp) (R:=[]) h f a.all cQ;have A:=jh [cM,eN,bN,bN] (s:=fp) (R:=[]) a.all;simp only[List.map,Y4,gU,jX,lU,pE] at C A;rw[rT a.all,v1,v2,E,C,vX y,pG r,pG j,yn A];exact⟨.hold _ (rU a) _ _ _ _,⟨.inr ⟨.inl rfl,wQ A⟩,(qO y).1,(qO y).2,(jK r).1,(jK r).2,(jK j).1,(jK j).2⟩⟩
theorem Nn(h:bS (aB.aU s) 0 XW lM=XX):mW s (Ye 167 (Yd #[V Y (cB (aB.aU s) (1,XW) nV cQ)])) (aW (aB.aU s) [nV] (1,XW)):=by
 have f:jm lM=XX:=XE
 have K:=qF (q:=[lM,lT]) h XE (by rw[<- jP h f]);simp only[List.map,yp] at K;refine⟨K.1,fun r a=>⟨_,_,K.2 r a,.bF,?_⟩⟩;have j:=K.2 r a;have v0:=jy (Q:=[]) (s:=lT) (R:=[]) h f j.all cQ;have y:=jh [] (s:=lT) (R:=[]) j.all;simp only[List.map,Y4,EF,yp] at v0 y;rw[v0,wk y];exact⟨.bF _,Ie _⟩
theorem Pm(h:bS (aB.aU s) 0 XW lJ=XX):mW s (Ye 168 (Yd #[V Y (cB (aB.aU s) (1,XW) nV cQ)])) (aW (aB.aU s) [nV] (1,XW)):=by
 have f:jm lJ=XX:=XE
 have K:=qF (q:=[lJ,lT]) h XE (by rw[<- jP h f]);simp only[List.map,yp] at K;refine⟨K.1,fun r a=>⟨_,_,K.2 r a,.cancel,?_⟩⟩;have j:=K.2 r a;have v0:=jy (Q:=[]) (s:=lT) (R:=[]) h f j.all cQ;have y:=jh [] (s:=lT) (R:=[]) j.all;simp only[List.map,Y4,EF,yp] at v0 y;rw[v0,wk y];exact⟨.cancel _,Ie _⟩
theorem Oj(h:bS (aB.aU s) 0 XW lH=XX):mW s (Ye 176 (Yd #[iC (aB.aU s) (1,XW),V Y (cB (aB.aU s) (aW (aB.aU s) [bV] (1,XW)) bL eu),V Y (cB (aB.aU s) (aW (aB.aU s) [bV,bL] (1,XW)) bL eu)])) (aW (aB.aU s) [bV,bL,bL] (1,XW)):=by
 have r:jm lH=XX:=XE
 have K:=qF (q:=[lH,cM,bN,bN]) h XE (by rw[<- jP h r]);simp only[List.map,gU,lU] at K;refine⟨K.1,fun A y=>⟨_,_,K.2 A y,.dN,?_⟩⟩;have a:=K.2 A y;have v1:=jy (Q:=[cM]) (s:=bN) (R:=[bN]) h r a.all eu;have j:=jh [cM] (s:=bN) (R:=[bN]) a.all;simp only[List.map,Y4,gU,lU] at v1 j;have v2:=jy (Q:=[cM,bN]) (s:=bN) (R:=[]) h r a.all eu;have f:=jh [cM,bN] (s:=bN) (R:=[]) a.all;simp only[List.map,Y4,gU,lU] at v2 f;rw[rT a.all,v1,v2,pG j,pG f];exact⟨.dN _ (rU a) _ _,⟨(jK j).1,(jK j).2,(jK f).1,(jK f).2⟩⟩
theorem N9(h:bS (aB.aU s) 0 XW lD=XX):mW s (Ye 178 (Yd #[iC (aB.aU s) (1,XW),V Y (cB (aB.aU s) (aW (aB.aU s) [bV] (1,XW)) dM cQ),V Y (cB (aB.aU s) (aW (aB.aU s) [bV,dM] (1,XW)) fc cQ),V Y (cB (aB.aU s) (aW (aB.aU s) [bV,dM,fc] (1,XW)) bL eu),V Y (cB (aB.aU s) (aW (aB.aU s) [bV,dM,fc,bL] (1,XW)) bL eu)])) (aW (aB.aU s) [bV,dM,fc,bL,bL] (1,XW)):=by
 have f:jm lD=XX:=XE
 have K:=qF (q:=[lD,cM,eN,fp,bN,bN]) h XE (by rw[<- jP h f]);simp only[List.map,gU,jX,pE,lU] at K;refine⟨K.1,fun I H=>⟨_,_,K.2 I H,.find,?_⟩⟩;have a:=K.2 I H;have v1:=jy (Q:=[cM]) (s:=eN) (R:=[fp,bN,bN]) h f a.all cQ;have A:=jh [cM] (s:=eN) (R:=[fp,bN,bN]) a.all;simp only[List.map,Y4,gU,jX] at v1 A;have v2:=jy (Q:=[cM,eN]) (s:=fp) (R:=[bN,bN]) h f a.all cQ;have y:=jh [cM,eN] (s:=fp) (R:=[bN,bN]) a.all;simp only[List.map,Y4,gU,jX,pE] at v2 y;have E:=jy (Q:=[cM,eN,fp]) (s:=bN) (R:=[bN]) h f a.all eu;have r:=jh [cM,eN,fp] (s:=bN) (R:=[bN]) a.all;simp only[List.map,Y4,gU,jX,pE,lU] at E r;have C:=jy (Q:=[cM,eN,fp,bN]) (s:=bN) (R:=[]) h f a.all eu;have j:=jh [cM,eN,fp,bN] (s:=bN) (R:=[]) a.all;simp only[List.map,Y4,gU,jX,pE,lU] at C j;rw[rT a.all,v1,v2,E,C,vX A,yn y,pG r,pG j];exact⟨.find _ (rU a) _ _ _ _,⟨(qO A).1,(qO A).2,(wQ y).1,(wQ y).2,(jK r).1,(jK r).2,(jK j).1,(jK j).2⟩⟩
theorem MF(h:bS (aB.aU s) 0 XW mh=XX):mW s (Ye 182 (Yd #[V Y (cB (aB.aU s) (1,XW) fc cQ)])) (aW (aB.aU s) [fc] (1,XW)):=by
 have j:jm mh=XX:=XE
 have K:=qF (q:=[mh,fp]) h XE (by rw[<- jP h j]);simp only[List.map,pE] at K;refine⟨K.1,fun y f=>⟨_,_,K.2 y f,.tick,?_⟩⟩;have r:=K.2 y f;have v0:=jy (Q:=[]) (s:=fp) (R:=[]) h j r.all cQ;have a:=jh [] (s:=fp) (R:=[]) r.all;simp only[List.map,Y4,EF,pE] at v0 a;rw[v0,yn a];exact⟨.tick _,wQ a⟩
theorem OB(h:bS (aB.aU s) 0 XW mq=XX):mW s (Ye 183 (Yd #[])) (1,XW):=by
 have f:jm mq=XX:=XE
 have K:=qF (q:=[mq]) h XE (by rw[<- jP h f]);refine⟨K.1,fun j a=>⟨_,_,K.2 j a,.clock,?_⟩⟩;exact⟨.clock,trivial⟩
theorem OI(h:bS (aB.aU s) 0 XW eL=XX)(C:cU (aB.aU s).length (aW (aB.aU s) [bV] (1,XW)).1 (aW (aB.aU s) [bV] (1,XW)).2=XW):mW s (Ye 170 (Yd #[iC (aB.aU s) (1,XW),XW,V Y 0,V Y 0])) (aW (aB.aU s) [bV] (1,XW)):=by
 have E:jm eL=XX:=XE
 have j:nI.filter (oM eL)=[[eL,cM],[eL,cM,bN,bN]]:=XE
 have a:aW (aB.aU s) ([eL,cM].map bE) (0,XW)=aW (aB.aU s) [bV] (1,XW):=by rw[<- jP h E];simp only[List.map,gU]
 have q:=Pb a C;have A:=a;have K:rS s _/\(_->_->Full s _):=⟨wB h j q,wA h j q A⟩;refine⟨K.1,fun y f=>⟨_,_,K.2 y f,.list0,?_⟩⟩;have r:=K.2 y f;rw[rT r.all];exact⟨.list _ (rU r) XW 0 0 0 1048320 rfl rfl,⟨O,O,O,O⟩⟩
theorem OJ(h:bS (aB.aU s) 0 XW eL=XX)(I:cU (aB.aU s).length (aW (aB.aU s) [bV] (1,XW)).1 (aW (aB.aU s) [bV] (1,XW)).2=XX):mW s (Ye 170 (Yd #[iC (aB.aU s) (1,XW),XX,V Y (cB (aB.aU s) (aW (aB.aU s) [bV] (1,XW)) bL eu),V Y (cB (aB.aU s) (aW (aB.aU s) [bV,bL] (1,XW)) bL eu)])) (aW (aB.aU s) [bV,bL,bL] (1,XW)):=by
 have f:jm eL=XX:=XE
 have C:nI.filter (oM eL)=[[eL,cM],[eL,cM,bN,bN]]:=XE
 have r:aW (aB.aU s) ([eL,cM].map bE) (0,XW)=aW (aB.aU s) [bV] (1,XW):=by rw[<- jP h f];simp only[List.map,gU]
 have y:aW (aB.aU s) ([eL,cM,bN,bN].map bE) (0,XW)=aW (aB.aU s) [bV,bL,bL] (1,XW):=by rw[<- jP h f];simp only[List.map,gU,lU]
 have E:=Pc r I y;have K:rS s _/\(_->_->Full s _):=⟨wB h C E,wA h C E y⟩;refine⟨K.1,fun H A=>⟨_,_,K.2 H A,.list1,?_⟩⟩;have a:=K.2 H A;have v1:=jy (Q:=[cM]) (s:=bN) (R:=[bN]) h f a.all eu;have q:=jh [cM] (s:=bN) (R:=[bN]) a.all;simp only[List.map,Y4,gU,lU] at v1 q;have v2:=jy (Q:=[cM,bN]) (s:=bN) (R:=[]) h f a.all eu;have j:=jh [cM,bN] (s:=bN) (R:=[]) a.all;simp only[List.map,Y4,gU,lU] at v2 j;rw[rT a.all,v1,v2,pG q,pG j];exact⟨.list _ (rU a) XX _ _ _ _ rfl rfl,⟨(jK q).1,(jK q).2,(jK j).1,(jK j).2⟩⟩
theorem qu(h:eT x=XX):bT x 1 7=cQ x:=wk (Ca h).1
theorem yj(h:aB.dC x=XX):fM x=gN x:=by
 unfold gN fM;rw[XS h];simp only[aB.dC,decide_eq_true_eq] at h;rw[XS ⟨h.1,h.2.1,O⟩]
theorem Fx{H ws K E:J XK}{ev:N}(h:FK H ws pc ev acc fr mn mi ti un K E):∃ k tm,te (ws.getD · ByteArray.empty) H.length k pc acc tm/\lj (ws.getD · ByteArray.empty) H.length k pc acc tm=⟨pc,ev,acc,fr,mn,mi,ti,un⟩/\k+7<(H++K++cI++E).length:=by
 obtain⟨A,⟨k0,y,k2,r,k4,q,rfl,rfl,rfl⟩,f⟩:=h
 have a:∀ {k:M}{tm:XN},k=H.length+K.length->pc=1\/pc=2\/pc=3->ws.getD H.length ByteArray.empty=tz pc->bT (ws.getD (H.length+1) ByteArray.empty) 1 7=ev->((pc=2/\k=H.length+2+1/\aB.eJ (ws.getD (H.length+2) ByteArray.empty)=XX/\aB.iX (ws.getD (H.length+2) ByteArray.empty)=U acc)\/(pc≠2/\k=H.length+2/\acc=[]))->E.length=2->((ws.getD (k+6) ByteArray.empty).toList==[116,105,109,101,115])=tm->(if tm then bT (ws.getD (k+7) ByteArray.empty) 1 7 else 0)=ti->(if tm then 0 else fM (ws.getD (k+7) ByteArray.empty))=un->_:=fun {k tm} j S h0 h1 T R P I C=>(⟨k,tm,⟨h0,S,T,P⟩,by
  subst j I C h1
  simp only[lj,yj y,yn q,iG,r,if_true],by subst j;simp[cI,R];omega⟩:∃ k tm,te (ws.getD · ByteArray.empty) H.length k pc acc tm/\lj (ws.getD · ByteArray.empty) H.length k pc acc tm=⟨pc,ev,acc,gN (ws.getD (H.length+K.length+1) ByteArray.empty),aB.fZ (ws.getD (H.length+K.length+3) ByteArray.empty),cQ (ws.getD (H.length+K.length+5) ByteArray.empty),ti,un⟩/\k+7<(H++K++cI++E).length)
 cases A with
 |daily p0 p1=>cases f with
  |times q0 q1=>exact a (tm:=XX) rfl O (p0.trans XE) (qu p1) (.inr ⟨O,rfl,rfl⟩) rfl (by rw[q0];decide +kernel) (qu q1) rfl
  |til q0 q1=>exact a (tm:=XW) rfl O (p0.trans XE) (qu p1) (.inr ⟨O,rfl,rfl⟩) rfl (by rw[q0];decide +kernel) rfl (yj q1)
 |weekly acc p0 p1 p2=>cases f with
  |times q0 q1=>exact a (tm:=XX) rfl O (p0.trans XE) (qu p1) (.inl ⟨rfl,rfl,by rw[aB.eJ,p2];rfl,p2⟩) rfl (by rw[q0];decide +kernel) (qu q1) rfl
  |til q0 q1=>exact a (tm:=XW) rfl O (p0.trans XE) (qu p1) (.inl ⟨rfl,rfl,by rw[aB.eJ,p2];rfl,p2⟩) rfl (by rw[q0];decide +kernel) rfl (yj q1)
 |monthly p0 p1=>cases f with
  |times q0 q1=>exact a (tm:=XX) rfl O (p0.trans XE) (qu p1) (.inr ⟨O,rfl,rfl⟩) rfl (by rw[q0];decide +kernel) (qu q1) rfl
  |til q0 q1=>exact a (tm:=XW) rfl O (p0.trans XE) (qu p1) (.inr ⟨O,rfl,rfl⟩) rfl (by rw[q0];decide +kernel) rfl (yj q1)
theorem M9(h:bS (aB.aU s) 0 XW iS=XX){ev:N}(f:lG (aB.aU s) (aW (aB.aU s) [bV,dM] (1,XW)) pc ev acc fr mn mi ti un st):mW s (Ye 165 (Yd #[iC (aB.aU s) (1,XW),V Y (cB (aB.aU s) (aW (aB.aU s) [bV] (1,XW)) dM cQ),pc,ev,aL acc 0,aL acc 1,aL acc 2,aL acc 3,aL acc 4,aL acc 5,aL acc 6,fr,mn,mi,ti,un])) st:=by
 refine⟨Oc h f,fun C S=>?_⟩;have H:jm iS=XX:=XE
 have T:nI.filter (oM iS)=jV nG:=XE
 have A:aW (aB.aU s) (nG.map bE) (0,XW)=(aW (aB.aU s) [bV,dM] (1,XW)):=by
  unfold nG;rw[<- jP h H];simp only[List.map,gU,jX]
 have FI:=(Kn f C).2;rw[<- A] at f;let⟨q,hS,hg⟩:=yJ f;obtain⟨K,E,rfl,P,hG⟩:=hg C;have I:=wA h T hS P C S;have e1:nG++K++cI++E=iS :: ([cM]++eN :: (K++cI++E)):=by simp[nG]
 have a:=I;rw[e1] at a;have v1:=jy (Q:=[cM]) (s:=eN) (R:=K++cI++E) h H a.all cQ;have r:=jh (ws:=aB.aU s) [cM] (k:=iS) (s:=eN) (R:=K++cI++E) a.all;simp only[List.map,Y4,gU,jX] at v1 r;let⟨k,tm,r1,r2,r3⟩:=Fx hG;refine⟨_,_,I,.series r1 r3,?_⟩;rw[rT (R:=eN :: (K++cI++E)) a.all,v1,vX r];have y:lj (fun j=>(aB.aU s).getD j ByteArray.empty) 3 k pc acc tm=_:=r2;rw[y];exact⟨.series _ (rU a) _ ⟨pc,ev,acc,fr,mn,mi,ti,un⟩,(qO r).1,(qO r).2,FI⟩
theorem M8(h:bS (aB.aU s) 0 XW jI=XX){ev:N}(a:lG (aB.aU s) (1,XW) pc ev acc fr mn mi ti un st):mW s (Ye 180 (Yd #[pc,ev,aL acc 0,aL acc 1,aL acc 2,aL acc 3,aL acc 4,aL acc 5,aL acc 6,fr,mn,mi,ti,un])) st:=by
 refine⟨NZ h a,fun y C=>?_⟩;have H:jm jI=XX:=XE
 have I:nI.filter (oM jI)=jV oI:=XE
 have r:aW (aB.aU s) (oI.map bE) (0,XW)=(1,XW):=by
  unfold oI;rw[<- jP h H];rfl
 have S:=(Kn a y).2;rw[<- r] at a;let⟨q,hS,hg⟩:=yJ a;obtain⟨K,E,rfl,A,P⟩:=hg y;have R:=wA h I hS A y C;let⟨k,tm,r1,r2,r3⟩:=Fx P;refine⟨_,_,R,.expand r1 r3,?_⟩;have f:lj (fun j=>(aB.aU s).getD j ByteArray.empty) 1 k pc acc tm=_:=r2;rw[f];exact⟨.expand ⟨pc,ev,acc,fr,mn,mi,ti,un⟩,S⟩
theorem F9(ws:J XK)(st:M × XN):∃ pc ev acc fr mn mi ti un s,lG ws st pc ev acc fr mn mi ti un s:=by
 have q:∃ pc ev acc s,ph ws st pc ev acc s:=by
  cases f:bS ws st.1 st.2 jG
  .cases j:bS ws st.1 st.2 jd
   .cases A:bS ws st.1 st.2 kI
    .exact⟨_,_,_,_,.none f j A⟩
    .exact⟨_,_,_,_,.monthly f j A⟩
   .refine⟨_,_,(aB.iX (ws.getD (aW ws [eT] (eK st)).1 ByteArray.empty)).getD [],_,.weekly f j _ fun h=>?_⟩;have y:=(nJ h).2.2;rw[aB.eJ,Option.isSome_iff_exists] at y;let⟨a,ha⟩:=y;rw[ha];rfl
  .exact⟨_,_,_,_,.daily f⟩
 let⟨pc,ev,acc,s,q⟩:=q
 have r:∃ ti un s',oU ws (nL ws s) ti un s':=by
  cases f:bS ws (nL ws s).1 (nL ws s).2 jD
  .cases j:bS ws (nL ws s).1 (nL ws s).2 kg
   .exact⟨_,_,_,.none f j⟩
   .exact⟨_,_,_,.til f j⟩
  .exact⟨_,_,_,.times f⟩
 let⟨ti,un,s',r⟩:=r;exact⟨_,_,_,_,_,_,_,_,_,.mk pc ev acc s ti un s' q r⟩
open aA (aO St bI aV)
theorem Nw{f:Array Oper}{rest:J Oper}{o:Oper}{a:Act}{Q:Exit->Act->XY->Prop}(E:o.guard=Z)(x y:Operand)(S:o.op=.call { callee:=.builtin .append,args:=#[x,y],argTypes:=#[34,34] }){l:J (aO × M × M)}(j:W.ownsRow B 58 6 v l.length (l.flatMap eH))(z:aO × M × M){H:X6}{mk:M × M}(R:a.eval x=v)(P:a.eval y=X9 W 1 1)(hl:l.length<=1000000)(hB:B<=W)
  (h:∀ g cap w',w'.ownsRow B 58 6 (X9 g (l.length+1) cap) (l.length+1) ((l++[z]).flatMap eH)->aH v.ownBlock.toList W w'->(v.ownBlock=U g\/W<=g)->wpList prog f Q rest (a.put o.dst (X9 g (l.length+1) cap)) w'):
  wpList prog f Q (o :: rest) a (W.alloc (Yh #[z.1.id,z.1.kind,z.1.bA,z.1.aM,X9 z.2.1 z.1.aQ.length z.2.2,z.1.bP] H mk)):=by
 obtain⟨I,C,A,r,q⟩:=info_parts yK;refine wpList_append_lies _ E x y 34 S B 58 I _ 6 72 underlying34 C A r q rfl XC v l.length (l.flatMap eH) R (j.alloc _) ⟨W.heap.size,0,Z⟩ 1 1 (eH z) P rfl (ZF (cs:=(eH z).toArray) (cP W _)) (by simp[eH,ZG]) O XH O XG (W.heap.size+1) XA ?_;intro g cap w' h1 h2 h3 _;have e2:(l++[z]).flatMap eH=l.flatMap eH++eH z:=XA
 have:=h g cap w';rw[e2] at this;exact this h1 (((aH.refl _ W).alloc _).grown h2 (fun k T=>.inl (by simp[T]))) (h3.imp id (fun e=>by omega))
theorem oO.snoc{y:aO × M × M}{g:M}(h:oO w X v ys)(r:gS X y.2.1 y.1.aQ/\w<=y.2.1/\y.2.1<X/\v.ownBlock≠U y.2.1)(A:w'.ownsRow w 58 6 (X9 g (ys.length+1) cap) (ys.length+1) ((ys++[y]).flatMap eH))(k:aH v.ownBlock.toList X w')(j:v.ownBlock=U g\/X<=g):oO w w' (X9 g (ys.length+1) cap) (ys++[y]):=by
 refine⟨by rw[YZ];exact A,fun z a=>?_,⟨k.os.trans h.bw.os,k.tape.trans h.bw.tape,k.output.trans h.bw.output,Yk h.bw.size k.size,fun b q=>(k.block b (zL q h.bw.size) (fun e=>?_)).trans (h.bw.block b q)⟩⟩
 .have f:gS X z.2.1 z.1.aQ/\w<=z.2.1/\z.2.1<X/\v.ownBlock≠U z.2.1:=by
   rcases Yv.1 a with a|a
   .exact h.sl z a
   .have:z=y:=by simpa using a
    subst this;exact r
  let⟨z1,z2,z3,z4⟩:=f;refine⟨z1.off k (by simpa using fun e=>z4 e),z2,Zg z3 k.size,?_⟩;simp only[ZB,ne_eq,Option.some.injEq];rintro rfl;rcases j with e|e
  .exact z4 e
  .omega
 .have:=gi h.own (k:=b) (by simpa using e);omega
def qC(w:XY)(v:XZ)(es:J aO)(w':XY):Prop :=
 ∃ (l:J (aO × XZ)) (G:J M),l.map (·.1)=es/\(∀ w2,(∀ b∈G,w2.heap[b]?=w'.heap[b]?)->EV w2 v l)/\(∀ b∈G,w<=b/\b<w')/\X0 w w w'
def Bk(y:aO × M × M):aO × XZ:=(y.1,X9 y.2.1 y.1.aQ.length y.2.2)
theorem gS.sv{L:J (N × N)}(h:gS w B L):SV w (X9 B L.length cap) L:=⟨⟨_,_,rfl⟩,fun k a=>⟨B,cap,rfl,h k a⟩⟩
theorem NU{g:M}{a:XM Addr}{zs:J (aO × M × M)}(ha:zs≠[]->a=U ⟨g,0,Z⟩)(H:∀ (i:M)(E:i<zs.length),RE w' g i zs[i].1 zs[i].2.1 zs[i].2.2)(T:zs≠[]->w<=g/\g<w')(hb:∀ z∈zs,w<=z.2.1/\z.2.1<w')(k:X0 w w w'):qC w (X9 a zs.length cap) (zs.map (·.1)) w':=by
 refine⟨zs.map Bk,(if zs=[] then [] else [g])++zs.map (·.2.1),by simp[Bk,Function.comp_def],fun w2 hG=>?_,fun b y=>?_,k⟩
 .have r:∀ b o u,b∈(if zs=[] then [] else [g])++zs.map (·.2.1)->w'.cell? ⟨b,o,Z⟩=U u->w2.cell? ⟨b,o,Z⟩=U u:=fun b o u y P=>(zo (hG b y)).trans P
  refine⟨⟨a,cap,by simp⟩,fun i E=>?_,fun p R=>?_⟩
  .have C:i<zs.length:=by simpa using E
   have A:zs≠[]:=by rintro rfl;simp at C
   have q:=H i C
   have f:g∈(if zs=[] then [] else [g])++zs.map (·.2.1):=by simp[A]
   refine⟨g,cap,by rw[ha A];simp,?_⟩;simp only[List.getElem_map,Bk];exact⟨r _ _ _ f q.c0,r _ _ _ f q.c1,r _ _ _ f q.c2,r _ _ _ f q.c3,r _ _ _ f q.c4,r _ _ _ f q.c5⟩
  .obtain⟨z,h,rfl⟩:=Zh.1 R;obtain⟨i,E,rfl⟩:=List.getElem_of_mem h;refine gS.sv (fun j S=>?_);have q:=(H i E).sl j S;have I:zs[i].2.1∈(if zs=[] then [] else [g])++zs.map (·.2.1):=List.mem_append_right _ (Zh.2 ⟨_,h,rfl⟩);exact⟨r _ _ _ I q.1,r _ _ _ I q.2⟩
 .rcases Yv.1 y with e|e
  .by_cases h:zs=[]
   .simp[h] at e
   .simp[h] at e;subst e;exact T h
  .obtain⟨z,h,rfl⟩:=Zh.1 e;exact hb z h
theorem ec.up{aa:XY}{d:M}{q:St × bI}{e:Ending}(h:ec X d F ys q e aa)(kX:X0 w w X)(hQ:w<=Q)(ac:Q<X)(hF:∀ k∈F,k<w)(hY:∀ y∈ys,y.2.1<w)(h7:Q7 X Q):
  ∃ (a1 a2 S R:XM Addr) (n1 n2 n3 n4 P I H E:M),e=Yg (bJ q.2.err 0 q.2.n (X9 a1 n1 P) (X9 a2 n2 I) (X9 S n3 H) (X9 R n4 E))/\Q7 aa Q/\ec w d F ys q e (cR aa Q q.2.err (V Y 0) (V Y q.2.n) (X9 a1 n1 P) (X9 a2 n2 I) (X9 S n3 H) (X9 R n4 E)):=by
 obtain⟨v1,v2,v3,v4,xs,F',G,he,hT,h3,hD,A,hO,hG,ae,hS⟩:=h;have T:=hT aa (fun _ _=>rfl);obtain⟨l,hl,_⟩:=T.en;obtain⟨a1,P,e1⟩:=hl.form;obtain⟨a2,I,C⟩:=T.da.form;obtain⟨S,H,e3⟩:=gj h3;obtain⟨R,E,e4⟩:=T.ed.form;subst e1 C e3 e4;have r:Q ∉ F:=fun e=>by have:=hF Q e;omega
 have ab:=kX.size;refine⟨a1,a2,S,R,_,_,_,_,P,I,H,E,he,h7.later (hO.block Q ac r),?_⟩;have j:=lQ aa Q (V Y q.2.err) (V Y 0) (V Y q.2.n) (X9 a1 l.length P) (X9 a2 q.2.days.length I) (X9 S q.2.granted.length H) (X9 R q.2.ended.length E);have hx:∀ x,X.heap.size<=x->x ∉ [Q]:=fun x hx e=>by simp at e;omega
 have ad:∀ x∈F',x ∉ [Q]:=fun x a=>by
  rcases A x a with e|e
  .intro C;simp at C;exact r (C ▸ e)
  .exact hx x e
 have hd:=hD.rd;refine⟨_,_,_,_,xs,F',G,he,fun w2 h2=>hT w2 (fun b f=>(h2 b f).trans (j.block b (hG b f).2.1 (hx b (hG b f).1))),tJ (cV h3 j (fun b f=>hx b (gi h3 f))) ab,hD.off j ad (fun x a e=>?_),fun k hk=>(A k hk).imp id (fun e=>by omega),((aH.aD kX).trans hO).trans' j (fun x a=>.inr (by simp at a;omega)),fun b f=>?_,ae,fun x a=>(hS x a).imp id (fun e=>by omega)⟩
 .have C:x.2.1=Q:=by simpa using e
  rcases hS x a with ⟨y,hy,e3⟩|e3
  .have:=hY y hy;omega
  .omega
 .obtain⟨g1,g2,g3,g4⟩:=hG b f;exact⟨O,Zg g2 j.size,g3,g4⟩
def nZ:J (XK × M):=[(⟨#[116,104,105,110,103]⟩,172),(⟨#[98,111,111,107]⟩,173),(⟨#[104,111,108,100]⟩,173),(⟨#[119,97,105,116]⟩,173),(⟨#[115,101,114,105,101,115]⟩,174),(⟨#[99,111,110,102,105,114,109]⟩,175),(⟨#[99,97,110,99,101,108]⟩,175),(⟨#[108,105,115,116]⟩,177),(⟨#[112,101,97,107]⟩,177),(⟨#[102,105,110,100]⟩,178)]
theorem pL{d:M}{s:St}{xs:J (aO × M × M)}(h:DD w d s xs F){f:M}{kw:XK}{g:M}{q:St × bI}(hn:0<n)(A:w.cell? (g,0)=U ↑kw)(r:(kw,f)∈nZ)(C:∀ X,X0 w w X->X4 prog f #[d,X9 g n c] X (ec X d F xs q)):
  X4 prog 117 #[d,X9 g n c] w (ec w d F xs q):=by
 have j:=aC ((KP.nil w).alloc bB);have E:=aC (Yz h.lt (fun y P=>(h.rd.sp y P).2.2));have i0:(0:N)<(n:N):=O
 have I:=aR j.bl A;have R:w<(w.alloc bB).heap.size:=XA
 have H:=aC (C _ j.bl);clear h C A;simp only[nZ,Yu,Prod.mk.injEq,List.not_mem_nil,or_false] at r;rcases r with ⟨rfl,rfl⟩|⟨rfl,rfl⟩|⟨rfl,rfl⟩|⟨rfl,rfl⟩|⟨rfl,rfl⟩|⟨rfl,rfl⟩|⟨rfl,rfl⟩|⟨rfl,rfl⟩|⟨rfl,rfl⟩|⟨rfl,rfl⟩
 all_goals
  go_in
  go_upto_region 1 with fail
  change Code.wp _ _ _ _ (w.alloc bB);generalize w.alloc bB=X at *
  go_wp21
  refine H.mono ?_;intro e w2 a;obtain⟨a1,a2,a3,a4,n1,n2,n3,n4,c1,c2,c3,c4,rfl,S,a⟩:=a.up j.bl aI R E.1 E.2 (Q7.of (j.kb (w,bB) XA));have T:=aC a;let⟨q0,q1,q2,q3,q4,q5,q6,fq⟩:=S;clear a I H;simp only[bJ]
  go_wp21
  exact cL results117 ⟨q0,q1,q2,q3,q4,q5,q6,fq⟩ T
theorem PS{d:M}{s:St}{xs:J (aO × M × M)}(h:DD w d s xs F){g:M}(A:0<n)(f:w.cell? (g,0)=U (Ya ⟨#[99,108,111,99,107]⟩)):
  X4 prog 117 #[d,X9 g n c] w (ec w d F xs (aV s .clock)):=by
 have a:=aC ((KP.nil w).alloc bB);have H:=aC h;have y:(0:N)<(n:N):=O
 have q:=aR a.bl f;have r:=(h.later a.bl).rd.c3;have j:Hid (ec w d F xs (aV s .clock) (Yg (bJ 0 0 s.now aT aT aT aT)) (cR (w.alloc bB) w (V Y 0) (V Y 0) (V Y s.now) aT aT aT aT)):=h.said a.bl aI 0 s.now _ _ _ _ _ _ _;clear h f
 go_in
 go_upto_region 1 with fail
 change Code.wp _ _ _ _ (w.alloc bB);generalize w.alloc bB=X at *;let⟨q0,q1,q2,q3,q4,q5,q6,fq⟩:=Q7.of (a.kb (w,bB) XA)
 go_wp21
 exact cL results117 ⟨q0,q1,q2,q3,q4,q5,q6,fq⟩ j
open aA (aO St bI aV dB)
def qi(w:XY)(d:M)(F:J M)(xs:J (aO × M × M))(q:St × bI)(e:Ending)(w':XY):Prop :=
 ∃ (v1 v2 h f:XZ) (a:J (aO × M × M)) (j:J M),e=Yg (bJ q.2.err q.2.at_ q.2.n v1 v2 h f)/\qB w' v1 v2 f q.2/\NV w' h q.2.granted/\DD w' d q.1 a j/\(∀ k∈j,k∈F\/w<=k)/\aH F w w'/\∀ x∈a,(∃ y∈xs,x.2.1=y.2.1)\/w<=x.2.1
theorem NV.own{l:J N}(h:w.ownsRow B 3 1 v n (l.map (V Y))):NV w v l:=by
 obtain⟨a,cap,g,rfl,rfl,q,j⟩:=yO h;exact⟨⟨_,_,rfl⟩,fun k f=>⟨g,cap,by rw[q (by intro e;simp[e] at f)],j k f⟩⟩
theorem qB.gr{v1 v2 a:XZ}{p:bI}(h:qB w v1 v2 a p)(g:J N):qB w v1 v2 a { p with granted:=g }:=⟨h.en,h.da,h.ed⟩
def fin(q:St × bI):St × bI:=if q.2.err≠0 then q else ({ q.1 with es:=(dB q.1.ts q.1.es).1 },{ q.2 with granted:=q.2.granted++(dB q.1.ts q.1.es).2 })
theorem Hc{d:M}{s:St}{xs:J (aO × M × M)}(h:DD w d s xs F)(t:XK){f at_:N}(A:f≠0)(C:∀ X,X4 prog 78 #[t] X fun e w'=>e=Yg (Yc #[(),(),f,at_])/\X0 X X w'):
  X4 prog 75 #[d,t] w (qi w d F xs (s,⟨f,at_,0,[],[],[],[]⟩)):=by
 have q:=aC ((KP.nil w).alloc bB);have H:=aC h;have RD:=aC C;have E:(f != 0)=XX:=by simpa using A
 clear h C A
 go_in
 go_upto_region 1 with fail
 change Code.wp _ _ _ _ (w.alloc bB);generalize w.alloc bB=X at *
 go_wp21
 refine aK (RD _) fun w1 j=>?_;replace q:=aC (q.later j)
 have I:Hid (qi w d F xs (s,⟨f,at_,0,[],[],[],[]⟩) (Yg (bJ f at_ 0 aT aT aT aT)) (cR w1 w f at_ (V Y 0) aT aT aT aT)):=by
  have y:=lQ w1 w.heap.size (V Y f) (V Y at_) (V Y 0) aT aT aT aT;have r:∀ x,x<w.heap.size->x ∉ [w.heap.size]:=fun x r e=>by simp at e;omega
  exact⟨aT,aT,aT,aT,xs,F,rfl,qB.nil _,NV.nil _,(H.later q.bl).off y (fun x a=>r x (H.out.lt x a)) (fun x a=>r _ (H.rd.sp x a).2.2),fun _ a=>.inl a,(aH.aD q.bl).trans' y (fun x a=>.inr (by simp at a;omega)),fun x a=>.inl ⟨x,a,rfl⟩⟩
 let⟨q0,q1,q2,q3,q4,q5,q6,fq⟩:=Q7.of (q.kb (w,bB) XA);clear j
 go_wp21
 exact cL results75 ⟨q0,q1,q2,q3,q4,q5,q6,fq⟩ I
theorem Px{d:M}{s:St}{xs:J (aO × M × M)}(h:DD w d s xs F)(t:XK)(ht:t.size<=160){p:J XK}(hp:jW t=(U p,0))(az:0<(aB.aU t).length){q:St × bI}(h0:q.2.at_=0)(hg:q.2.granted.length<=50000)
  (C:∀ X g c,X0 w.heap.size w X->(∀ (j:M) (hj:j<(aB.aU t).length),X.cell? ⟨g,j,XU⟩=U (Ya (aB.aU t)[j]))->X4 prog 117 #[X8 (U ⟨d,0,XU⟩),X9 (U ⟨g,0,XU⟩) (aB.aU t).length c] X (ec X d F xs q)):
  X4 prog 75 #[X8 (U ⟨d,0,XU⟩),Ya t] w (qi w d F xs (fin q)):=by
 have P0:=aC ((KP.nil w).alloc bB);have H:=aC h;have HC:=aC C;have HP:=aC hp;clear h C hp
 go_in
 go_upto_region 1 with fail
 change Code.wp _ _ _ _ (w.alloc bB);generalize w.alloc bB=X at *
 go_wp2_with fail
 refine (Ci t X ht).mono ?_;rintro e w1 ⟨hr,ar⟩;rcases hr with ⟨p',a,b,c,d',g,h',ak,rfl,ra,rb⟩|⟨m,ak,rfl⟩
 case' inr=>rw[HP.out] at ak;cases ak
 obtain rfl:=ra.at_ az;replace P0:=aC (P0.out.later ar);have DC:=aC (HC.out w1 g c P0.out.bl ra.cells);clear ar ra rb ak
 go_wp2_with fail
 refine DC.out.mono ?_;intro e w2 hA;have a9:w.heap.size<w1.heap.size:=P0.out.lt (q:=(w.heap.size,bB)) XA;have h7:=Q7.of (P0.out.kb (w.heap.size,bB) XA);obtain⟨v1,v2,v3,v4,ai,F',G,rfl,hT,h3,hD,r,hO,hG,P,hS⟩:=hA;have T:=hT w2 (fun _ _=>rfl);obtain⟨l,hl,_⟩:=T.en;obtain⟨a1,c1,rfl⟩:=hl.form;obtain⟨a2,c2,rfl⟩:=T.da.form;obtain⟨a3,c3,rfl⟩:=gj h3;obtain⟨a4,c4,rfl⟩:=T.ed.form;have av:w.heap.size ∉ F:=fun e=>by have:=H.out.lt _ e;omega
 have bf:=hO.size;have af:w.heap.size ∉ F':=fun e=>by rcases r _ e with e|e;exact av e;omega
 have ag:=h7.later (hO.block _ a9 av)
 have R:∀ x∈ai,x.2.1≠w.heap.size/\x.2.1<w2.heap.size:=fun x f=>⟨fun e=>by
  rcases hS x f with ⟨y,hy,e2⟩|e2
  .have:=(H.out.rd.sp y hy).2.2;omega
  .omega,(hD.rd.sp x f).2.2⟩
 have S:∀ x∈ai,(∃ y∈xs,x.2.1=y.2.1)\/w.heap.size<=x.2.1:=fun x f=>(hS x f).imp id (fun e=>by omega)
 have ac:aH F w w2:=(aH.aD P0.out.bl).trans hO;have KR:=(KP.nil w2).alloc (Yh #[V Y q.2.err,V Y 0,V Y q.2.n,X9 a1 l.length c1,X9 a2 q.2.days.length c2,X9 a3 q.2.granted.length c3,X9 a4 q.2.ended.length c4] 40);have bi:w2.heap.size<(w2.alloc (Yh #[V Y q.2.err,V Y 0,V Y q.2.n,X9 a1 l.length c1,X9 a2 q.2.days.length c2,X9 a3 q.2.granted.length c3,X9 a4 q.2.ended.length c4] 40)).heap.size:=XA
 have A:=aC (Yz hT (Yz h3 (Yz hD (Yz r (Yz hO (Yz hG (Yz P (Yz R (Yz S (Yz ac ag))))))))));clear T hl hT h3 hD r hO hG P hS R S ac ag h7 DC HC;simp only[bJ]
 go_upto_region 5 with fail
 have HK:=aC KR;have r0:=KR.hc 0 rfl;have r1:=KR.hc 1 rfl;have r2:=KR.hc 2 rfl;have r3:=KR.hc 3 rfl;have r4:=KR.hc 4 rfl;have r5:=KR.hc 5 rfl;have r6:=KR.hc 6 rfl;have rf:=KR.hf;clear KR;generalize w2.alloc _=Z at *;have kZ:=HK.out.bl;have Q2:=aC (A.out.2.2.2.2.2.2.2.2.2.2.later (kZ.block _ O));have DZ:=aC (A.out.2.2.1.later kZ);have WZ:=aC (A.out.2.2.2.2.2.2.2.2.2.1.trans (aH.aD kZ))
 by_cases he:q.2.err=0
 .have a8:(q.2.err != 0)=XW:=by simp[he]
  have GR:=aC (Gt DZ.out);have E9:Hid (fin q=({ q.1 with es:=(dB q.1.ts q.1.es).1 },{ q.2 with granted:=q.2.granted++(dB q.1.ts q.1.es).2 })):=by show _=_;unfold fin;rw[XR (by simp[he])]
  have a7:Hid ((dB q.1.ts q.1.es).2.length<=60):=by
   have:=(ue q.1.ts q.1.es []).2;have:=DZ.out.el;show (aA.ey _ _ _).2.length<=60;omega
  have HE:=aC he;clear he kZ
  go_wp2_with fail
  refine GR.out.mono ?_;rintro e w3 ⟨v5,rfl,h5,⟨aq,aw,ax⟩,I⟩;obtain⟨a5,c5,rfl⟩:=gj h5;obtain⟨hT,h3,hD,r,hO,hG,P,R,S,ac,ag⟩:=A.out;have kZ:=HK.out.bl;have an:w2.heap.size ∉ F':=fun e=>by have:=hD.lt _ e;omega
  have ay:=cV (eQ h3 kZ) I (fun b E=>(P b E).1);have bh:=I.size;have n3:dY w3 w1.heap.size (fun _=>XU) (X9 a3 q.2.granted.length c3) q.2.granted:=⟨ay,fun _ _=>rfl⟩;have n5:dY w3 w1.heap.size (fun _=>XU) (X9 a5 (dB q.1.ts q.1.es).2.length c5) (dB q.1.ts q.1.es).2:=⟨tJ h5 O,fun _ _=>rfl⟩;obtain⟨v6,w4,ad,n6,ae,au⟩:=n3.append n5 O (fun _ _=>rfl) (by have:=a7.out;omega);obtain⟨a6,c6,rfl⟩:=gj n6.own;have ab:∀ b,(X9 a3 q.2.granted.length c3).ownBlock=U b->w1.heap.size<=b/\b<w2.heap.size:=fun b E=>⟨gi h3 E,fe h3 E⟩
  have k4:aH (X9 a3 q.2.granted.length c3).ownBlock.toList w3 w4:=(aH.refl _ w3).grown ae (fun k hk=>.inl (by simp[hk]));have aa:∀ x∈(X9 a3 q.2.granted.length c3).ownBlock.toList,(X9 a3 q.2.granted.length c3).ownBlock=U x:=fun x f=>by simpa using f
  have bR:w4.heap[w2.heap.size]?=Z.heap[w2.heap.size]?:=(k4.block _ O (fun e=>by have:=(ab _ (aa _ e)).2;omega)).trans (I.block _ O an);have bQ:w4.heap[w.heap.size]?=Z.heap[w.heap.size]?:=(k4.block _ O (fun e=>by have:=(ab _ (aa _ e)).1;omega)).trans (I.block _ O af);have s0:=(zo (a:=⟨w2.heap.size,0,XU⟩) bR).trans r0;have s1:=(zo (a:=⟨w2.heap.size,1,XU⟩) bR).trans r1;have s2:=(zo (a:=⟨w2.heap.size,2,XU⟩) bR).trans r2;have s3:=(zo (a:=⟨w2.heap.size,3,XU⟩) bR).trans r3;have s4:=(zo (a:=⟨w2.heap.size,4,XU⟩) bR).trans r4;have s5:=(zo (a:=⟨w2.heap.size,5,XU⟩) bR).trans r5;have s6:=(zo (a:=⟨w2.heap.size,6,XU⟩) bR).trans r6;have t5:=(zo (a:=⟨w2.heap.size,5,XU⟩) (I.block _ O an)).trans r5;have sf:w4.frozen? ⟨w2.heap.size,5,XU⟩=XW:=by have:=rf 5;simp only[Ym,bR];exact this
  have bj:w2.heap.size≠w.heap.size:=O
  obtain⟨q0,q1,q2,q3,q4,q5,q6,fq⟩:=Q2.out.later bQ;obtain⟨N6,ao⟩:∃ N6,N6=(q.2.granted++(dB q.1.ts q.1.es).2).length:=⟨_,rfl⟩
  have HF:Hid (∀ bc,bc=w4.setCell ⟨w2.heap.size,5,XU⟩ (X9 a6 N6 c6)->qi w d F xs ({ q.1 with es:=(dB q.1.ts q.1.es).1 },{ q.2 with granted:=q.2.granted++(dB q.1.ts q.1.es).2 }) (Yg (bJ q.2.err 0 q.2.n (X9 a1 l.length c1) (X9 a2 q.2.days.length c2) (X9 a6 N6 c6) (X9 a4 q.2.ended.length c4))) (cR bc w.heap.size (V Y q.2.err) (V Y 0) (V Y q.2.n) (X9 a1 l.length c1) (X9 a2 q.2.days.length c2) (X9 a6 N6 c6) (X9 a4 q.2.ended.length c4))):=by
   rw[ao];rintro bc rfl;have k5:aH [w2.heap.size] w4 (w4.setCell ⟨w2.heap.size,5,XU⟩ (X9 a6 (q.2.granted++(dB q.1.ts q.1.es).2).length c6)):=aH.bD ..;have k7:=lQ (w4.setCell ⟨w2.heap.size,5,XU⟩ (X9 a6 (q.2.granted++(dB q.1.ts q.1.es).2).length c6)) w.heap.size (V Y q.2.err) (V Y 0) (V Y q.2.n) (X9 a1 l.length c1) (X9 a2 q.2.days.length c2) (X9 a6 (q.2.granted++(dB q.1.ts q.1.es).2).length c6) (X9 a4 q.2.ended.length c4);have aj:=(k5.mono (G:=[w2.heap.size,w.heap.size]) XA).trans (k7.mono XA);have bg:=k4.size;have n7:∀ x,x∈[w2.heap.size,w.heap.size]->x=w2.heap.size\/x=w.heap.size:=fun x f=>by simpa using f
   have al:∀ x∈aq,∃ z∈ai,x.2.1=z.2.1:=ax
   have ba:=(aw.off k4 (fun x f e=>(P x (aa x e)).1 f) (fun x f e=>by
    obtain⟨z,hz,e2⟩:=al x f
    exact (P _ (aa _ e)).2 z hz e2.symm)).off aj (fun x f e=>by
     rcases n7 x e with rfl|rfl
     .exact an f
     .exact af f) (fun x f e=>by
     obtain⟨z,hz,e2⟩:=al x f;have:=R z hz
     rcases n7 _ e with e3|e3 <;> omega)
   refine⟨_,_,_,_,aq,F',by rw[h0],(hT _ (fun b E=>?_)).gr _,NV.own (cV n6.own aj (fun b E e=>?_)),ba,fun k hk=>(r k hk).imp id (fun e=>by omega),(((WZ.out.trans' I (fun x f=>(r x f).imp id (fun e=>by omega))).trans' k4 (fun x f=>.inr (by have:=(ab x (aa x f)).1;omega))).trans' aj (fun x f=>.inr (by rcases n7 x f with e|e <;> omega))),fun x f=>?_⟩
   .obtain⟨g1,g2,g3,g4⟩:=hG b E;refine (aj.block b O (fun e=>by rcases n7 b e with e|e <;> omega)).trans ((k4.block b O (fun e=>g4 (aa b e))).trans ((I.block b O g3).trans (kZ.block b g2)))
   .have h8:b<w2.heap.size/\w1.heap.size<=b\/w3.heap.size<=b:=by
     rcases au with e2|e2
     .rw[e2] at E;exact .inl ⟨(ab b E).2,(ab b E).1⟩
     .rw[e2] at E;simp only[Option.some.injEq] at E;exact .inr O
    rcases n7 b e with e|e <;> omega
   .obtain⟨z,hz,e2⟩:=al x f;rw[e2];exact S z hz
  rw[<- ao] at ad;have HR:=aC ad;clear hT h3 hD r hO hG P R S ac ag ay n3 n5 n6 ae au ab k4 aa bR bQ ad h5 aw ax I A r0 r1 r2 r3 r4 r5 r6 rf kZ ao
  go_wp2_with (first|(at_builtin;refine Hz rfl _ _ 38 _ rfl (HR.out _) ?_))
  exact bodyPost_ret (v:=bJ q.2.err 0 q.2.n (X9 a1 l.length c1) (X9 a2 q.2.days.length c2) (X9 a6 N6 c6) (X9 a4 q.2.ended.length c4)) (by simp[results,results75,go_sem,bJ,q0,q1,q2,q3,q4,q5,q6]) rfl (by rw[E9.out];exact HF.out _ rfl)
 .have a8:(q.2.err != 0)=XX:=by simpa using he
  have E9:Hid (fin q=q):=by show _=_;unfold fin;rw[XS he]
  have HF:Hid (qi w d F xs q (Yg (bJ q.2.err 0 q.2.n (X9 a1 l.length c1) (X9 a2 q.2.days.length c2) (X9 a3 q.2.granted.length c3) (X9 a4 q.2.ended.length c4))) (cR Z w.heap.size (V Y q.2.err) (V Y 0) (V Y q.2.n) (X9 a1 l.length c1) (X9 a2 q.2.days.length c2) (X9 a3 q.2.granted.length c3) (X9 a4 q.2.ended.length c4))):=by
   have k7:=lQ Z w.heap.size (V Y q.2.err) (V Y 0) (V Y q.2.n) (X9 a1 l.length c1) (X9 a2 q.2.days.length c2) (X9 a3 q.2.granted.length c3) (X9 a4 q.2.ended.length c4);obtain⟨hT,h3,hD,r,hO,hG,P,R,S,ac,ag⟩:=A.out;refine⟨_,_,_,_,ai,F',by rw[h0],hT _ (fun b E=>(k7.block b (zL (hG b E).2.1 kZ.size) (fun e=>by have:=(hG b E).1;simp at e;omega)).trans (kZ.block b (hG b E).2.1)),NV.own (cV (eQ h3 kZ) k7 (fun b E e=>by have:=gi h3 E;simp at e;omega)),DZ.out.off k7 (fun x f e=>af (by simp at e;exact e ▸ f)) (fun x f e=>(R x f).1 (by simpa using e)),fun k hk=>(r k hk).imp id (fun e=>by omega),WZ.out.trans' k7 (fun x f=>.inr (by simp at f;omega)),S⟩
  obtain⟨q0,q1,q2,q3,q4,q5,q6,fq⟩:=Q2.out;clear he A
  go_wp2_with fail
  exact cL results75 ⟨q0,q1,q2,q3,q4,q5,q6,fq⟩ (by rw[E9.out];exact HF.out)
variable {w:XY}{B:XP}{v0 v1 r1 r2 r3:XZ}{K:XL XP}{X1 X2 X3:XL KL}
theorem PA:(prog.info? tS).map (fun i=>(i.zero,i.size,i.bytes))=U (U (Yd #[(),(),(),(),V Y 0]),5,104):=XF
theorem Nd{m:N}{k:M}(f:k*2+1<xs.length):((rp (ly m) k++xs.drop (k*2)).set (k*2) m).set (k*2+1) m=rp (ly m) (k+1)++xs.drop ((k+1)*2):=by
 have a:(rp (ly m) k).length=k*2:=by rw[pH];simp
 have h:(k+1)*2=k*2+1+1:=O
 rw[List.set_append,XR O,List.set_append,XR O,a,Nat.sub_self,Zu,ZH O,ZH f,BE,YU,h];rfl
theorem BK.gT{l a b c:XZ}{m:N}{e:X6}(h:BK w B v0 v1 K r1 r2 r3 X1 X2 X3)(I:BK Z3 B v0 v1 K r1 r2 r3 X1 X2 X3)(y:KF (ly m) e wr Z3 l n Q o [(c,n+3),(b,n+2),(a,n+1),(l,n)])(H:n<=900000)(R:aH l.ownBlock.toList w Z3)(A:w<=wr.heap.size)(r:∀ b,l.ownBlock=U b->b ∉ K/\b ∉ cC B r1 r2 r3)
  (E:aH r2.ownBlock.toList Z3 w9) (C:w9.ownsRow 0 tS 5 r' (X2.length+1) (X2.flatMap gh++gh (l,a,b,c,m))) (j:uD Z3 r2 r'):sd w B v0 v1 K r1 r2 r3 l (X1.length+X2.length+X3.length) (w9.setCell (B,3) r') :=
 BK.kept y R A XG (fun q f=>by
  simp only[cC,Yu,Yv,ZL] at f ⊢;rcases f with rfl|f|f|f
  .exact .inl (.inl rfl)
  .exact .inl (.inr (.inl f))
  .exact (j q f).imp (fun e=>.inr (.inr (.inl e))) id
  .exact .inl (.inr (.inr (.inr f)))) (I.DM (y.k4 (P:=ly) H) (h.apart y A r) E C j)
theorem Qf(h:BK w B v0 v1 K r1 r2 r3 X1 X2 X3)(h1:X1.length<=1000000000)(h2:X2.length<=1000000000)(h3:X3.length<=1000000000){l:XZ}(hl:w.ownsRow 0 60 2 l n xs)(hn:n<=900000)(ae:∀ b,l.ownBlock=U b->b ∉ K/\b ∉ cC B r1 r2 r3):
  X4 prog 121 #[X8 (U ⟨B,2,Z⟩),l] w fun e w'=>e=Yg (Yc #[])/\sd w B v0 v1 K r1 r2 r3 l (X1.length+X2.length+X3.length) w':=by
 obtain⟨i0,R,P,I,H⟩:=info_parts wS;obtain⟨j0,av,ar,aq,ao⟩:=info_parts PA;obtain⟨a,j,rfl⟩:=gj hl;have HB:=aC h;have HL:=aC hl;have HK:=aC ae;have ay:=aC (fun b (f:(X9 a n j).ownBlock=U b)=>fe hl f);have a7:xs.length=n*2:=hl.1;clear h hl ae
 go_in
 go_upto_region 3 with (first|(go_at_call 184;refine aK (BV HB h1 h2 h3) fun w1 f=>?_;have H1:=aC f;clear f))
 generalize a8:yy X1 X2 X3=m;change Code.wp _ _ _ _ (w1.alloc (Yh #[V Y m,V Y m] 60));have HW:=aC (bM H1 ((zr _ w1).alloc aI (Yh #[V Y m,V Y m] 60)) aI);have hS:w1.heap.size ∉ (X9 a n j).ownBlock.toList:=fun e=>by have:=ay _ (by simpa using e);have:=H1.size;omega
 have BX:Hid (∀ an,aH (X9 a n j).ownBlock.toList (w1.alloc (Yh #[V Y m,V Y m] 60)) an->an.cell? (w1,0)=U (V Y m)/\an.cell? (w1,1)=U (V Y m)):=fun an k=>⟨k.cell hS (bG (cP w1 _) 0 rfl),k.cell hS (bG (cP w1 _) 1 rfl)⟩
 clear hS;generalize w1.alloc (Yh #[V Y m,V Y m] 60)=W1 at HW BX ⊢;generalize w1=S at BX ⊢;have az:=aC (eQ HL HW)
 go_loopw [6] (fun v wr=>∃ k:M,k<=n/\v=V Y k/\wr.ownsRow 0 60 2 (X9 a n j) n (rp (ly m) k++xs.drop (k*2))/\aH (X9 a n j).ownBlock.toList W1 wr) (fun v _=>n-(intOf v).toNat)
 .exact⟨0,Zd _,rfl,by simpa[BG] using az.out,aH.refl _ _⟩
 .obtain⟨k,hk,rfl,q,r⟩:=hrel;have y:=aC (Yz q r)
  by_cases a9:k<n
  .have ad:(k:N)<(n:N):=O
   obtain⟨E,C⟩:=BX _ r;obtain⟨g,cap,u,e,c0,fz⟩:=qI q (k:=k*2) (by rw[YZ,pH,List.length_drop];simp;omega);obtain⟨g',a4,u',e',c1,_⟩:=qI q (k:=k*2+1) (by rw[YZ,pH,List.length_drop];simp;omega);rw[e] at e';simp only[Value.slice.injEq,Option.some.injEq,Addr.mk.injEq,and_true,true_and] at e';obtain⟨rfl,rfl⟩:=e';simp only[Value.slice.injEq,true_and] at e;obtain⟨rfl,rfl⟩:=e;have f0:=fz (k*2);have f1:=fz (k*2+1);clear q r
   go_wp21
   go_roundw
   .refine⟨k+1,O,by go_num,?_,(y.2.setCell (.inl XJ) _ _).setCell (.inl XJ) _ _⟩;have:=oR (oR y.1 (b:=g) rfl (k*2) (V Y m)) (b:=g) rfl (k*2+1) (V Y m);rw[Nd O] at this;exact this
   .simp[intOf];omega
  .have ad:¬ (k:N)<(n:N):=O
   have au:k=n:=O
   subst au
   have HR:Hid (wr.ownsRow 0 60 2 (X9 a k j) k (rp (ly m) k)):=by
    have:=y.1;rw[ZI O,List.append_nil] at this;exact this
   clear q r;obtain⟨E,C⟩:=BX _ y.2
   go_upto_region 7 with fail
   change Code.wp _ _ _ _ (wr.alloc (Yh #[X9 a k j,(),(),(),V Y m] tS))
   have S0:Hid (KS (ly m) 60 wr (wr.alloc (Yh #[X9 a k j,(),(),(),V Y m] tS)) (X9 a k j) k wr (Yh #[X9 a k j,(),(),(),V Y m] tS)) :=
    ⟨HR.alloc _,cP _ _,Yi _,(aH.refl _ _).alloc _,fun b f=>fe HR f⟩
   have T0:Hid (KF (ly m) 60 wr (wr.alloc (Yh #[X9 a k j,(),(),(),V Y m] tS)) (X9 a k j) k wr (Yh #[X9 a k j,(),(),(),V Y m] tS) [(X9 a k j,k)]) :=
    ⟨S0,fun p hp=>by
     rw[List.mem_singleton.1 hp]
     exact⟨Fu.jT S0.own,fun b f=>⟨by have:=S0.lt b f;omega,fe S0.own f,.inl f⟩⟩⟩
   clear S0;generalize wr.alloc (Yh #[X9 a k j,(),(),(),V Y m] tS)=Z0 at T0 ⊢;obtain⟨E,C⟩:=BX _ (y.2.trans T0.ks.off)
   go_upto_region 8 with (first|(at_builtin;go_loud (refine qE rfl _ _ 56 rfl (ly m) 16 underlying56 R P I H XC rfl XA XI T0.ks.own (m:=1) (cs:=#[V Y m,V Y m]) (by simp[rp]) XC XC rfl rfl O (zN _) ?_);intro g6 c6 w6 o6 ac f6 k6 ak;have q6:=bG (T0.ks.at_ k6).1 1 rfl;have z6:=(T0.ks.at_ k6).2 1))
   have T1:=aC (T0.put o6 ac f6 k6 ak XA 1);generalize w6.setCell (wr,1) (X9 g6 (k+1) c6)=Z1 at T1 ⊢;clear E C o6 ac f6 k6 ak q6 z6 T0;obtain⟨E,C⟩:=BX _ (y.2.trans T1.ks.off)
   go_upto_region 9 with (first|(at_builtin;go_loud (refine qE rfl _ _ 56 rfl (ly m) 16 underlying56 R P I H XC rfl XA XI T1.ks.own (m:=2) (cs:=#[V Y m,V Y m,V Y m,V Y m]) (by simp[rp]) XC XC rfl rfl O (zN _) ?_);intro g7 c7 w7 o7 ab f7 k7 aj;have q7:=bG (T1.ks.at_ k7).1 2 rfl;have z7:=(T1.ks.at_ k7).2 2))
   have T2:=aC (T1.put o7 ab f7 k7 aj XA 2);generalize w7.setCell (wr,2) (X9 g7 (k+2) c7)=Z2 at T2 ⊢;clear E C o7 ab f7 k7 aj q7 z7 T1;obtain⟨E,C⟩:=BX _ (y.2.trans T2.ks.off)
   go_upto_region 10 with (first|(at_builtin;go_loud (refine qE rfl _ _ 56 rfl (ly m) 16 underlying56 R P I H XC rfl XA XI T2.ks.own (m:=3) (cs:=#[V Y m,V Y m,V Y m,V Y m,V Y m,V Y m]) (by simp[rp]) XC XC rfl rfl O (zN _) ?_);intro g8 c8 w8 o8 aa f8 k8 ai;have q8:=bG (T2.ks.at_ k8).1 3 rfl;have z8:=(T2.ks.at_ k8).2 3))
   have A:=aC (T2.put o8 aa f8 k8 ai XA 3);generalize w8.setCell (wr,3) (X9 g8 (k+3) c8)=Z3 at A ⊢;clear E C o8 aa f8 k8 ai q8 z8 T2;have R3:aH (X9 a k j).ownBlock.toList w Z3:=(aH.aD HW).trans (y.2.trans A.ks.off);have al:=aC (fun b (f:b∈(X9 a k j).ownBlock.toList)=>HK b (by simpa using f));have B3:=aC (HB.off R3 (fun b f e=>(al b e).2 f) (fun b f e=>(al b e).1 f));have ax:=aC R3;obtain⟨_,_,_,d2,_,ag⟩:=B3.cells;obtain⟨_,⟨ra,rc,er⟩,_⟩:=B3.lu;subst er;have fB:=ag 3;have s0:=bG A.ks.hq 0 rfl;have s1:=bG A.ks.hq 1 rfl;have s2:=bG A.ks.hq 2 rfl;have s3:=bG A.ks.hq 3 rfl;have s4:=bG A.ks.hq 4 rfl;have ba:∀ o,(Z3.alloc o).cell? (B,3)=U (X9 ra X2.length rc):=fun o=>aR ((zr _ Z3).alloc aI o) d2
   have DD:=aC (fun o=>eQ B3.br.b2.own (((zr _ Z3).alloc aI o).drew));have af:(X9 ra X2.length rc).ownBlock≠U B:=ja B3.br.b2.own B3.hb XC;clear R3 ag
   go_region_law (first
    |(refine step_append_lies _ rfl _ _ 81 rfl 0 tS j0 _ 5 104 underlying81 av ar aq ao rfl XC (X9 ra X2.length rc) X2.length (X2.flatMap gh) rfl (DD.out _) ⟨Z3.heap.size,0,Z⟩ 1 1 (gh (X9 a k j,X9 (U ⟨g6,0,Z⟩) (k+1) c6,X9 (U ⟨g7,0,Z⟩) (k+2) c7,X9 (U ⟨g8,0,Z⟩) (k+3) c8,m)) rfl rfl (ZF (cs:=(gh (X9 a k j,X9 (U ⟨g6,0,Z⟩) (k+1) c6,X9 (U ⟨g7,0,Z⟩) (k+2) c7,X9 (U ⟨g8,0,Z⟩) (k+3) c8,m)).toArray) (cP Z3 _)) (by simp[gh,ZG]) O XH O (zN _) (Z3.heap.size+1) XA ?_;intro g9 c9 w9 o9 T aw a3;have k9:aH ((X9 ra X2.length rc).ownBlock.toList) Z3 w9:=aH.grown (((aH.refl _ Z3).alloc _).drew) T (fun k hk=>.inl (by simp[hk]));have d9:=k9.cell (fun e=>af (by simpa using e)) d2;have f9:=(k9.frozen (fun e=>af (by simpa using e)) (Yl _ _ d2)).trans fB))
   all_goals
    go_wp21
    (try simp only[Zz,Exit.then]);refine bodyPost_end (results_none rfl _ _ _) rfl ?_
    refine⟨rfl,HB.gT B3 A hn ax (Yk HW.size y.2.size) HK k9 o9 (fun b f=>by
     simp[ZB] at f;subst f
     exact aw.imp id (fun e=>by omega))⟩
variable {w:XY}{B:XP}{v0 v1 r1 r2 r3:XZ}{K:XL XP}{X1 X2 X3:XL KL}
theorem Qc:(prog.info? tE).map (fun i=>(i.zero,i.size,i.bytes))=U (U (Yd #[(),(),(),(),V Y 0]),5,104):=XF
theorem Pz:(prog.info? 58).map (fun i=>(i.zero,i.size,i.bytes))=U (U (Yd #[V Y 0,V Y 0,Ya ⟨#[]⟩,V Y 0,(),V Y 0]),6,72):=XF
theorem Nf{m:N}{k:M}(h:k*6+5<xs.length):((((((rp (jA m) k++xs.drop (k*6)).set (k*6) m).set (k*6+1) (V Y 0)).set (k*6+2) (Ya ⟨#[]⟩)).set (k*6+3) m).set (k*6+4) ()).set (k*6+5) (V Y 0)=rp (jA m) (k+1)++xs.drop ((k+1)*6):=by
 have a:(rp (jA m) k).length=k*6:=by rw[pH];simp
 have f:(k+1)*6=k*6+1+1+1+1+1+1:=O
 rw[ZH (show k*6<xs.length by omega),ZH (show k*6+1<xs.length by omega),ZH (show k*6+1+1<xs.length by omega),ZH (show k*6+1+1+1<xs.length by omega),ZH (show k*6+1+1+1+1<xs.length by omega),ZH (show k*6+1+1+1+1+1<xs.length by omega),BE,YU,f];generalize rp (jA m) k=A at *
 subst_vars
 simp only[<- a,List.set_append,Nat.lt_irrefl,if_false,Nat.sub_self,Nat.not_lt_of_le (Nat.le_add_right _ _),Zu];rfl
theorem BK.vO{l a b c:XZ}{m:N}{e:X6}(h:BK w B v0 v1 K r1 r2 r3 X1 X2 X3)(I:BK Z3 B v0 v1 K r1 r2 r3 X1 X2 X3)(y:KF (jA m) e wr Z3 l n Q o [(c,n+3),(b,n+2),(a,n+1),(l,n)])(H:n<=900000)(R:aH l.ownBlock.toList w Z3)(A:w<=wr.heap.size)(r:∀ b,l.ownBlock=U b->b ∉ K/\b ∉ cC B r1 r2 r3)
  (E:aH r3.ownBlock.toList Z3 w9) (C:w9.ownsRow 0 tE 5 r' (X3.length+1) (X3.flatMap gh++gh (l,a,b,c,m))) (j:uD Z3 r3 r'):sd w B v0 v1 K r1 r2 r3 l (X1.length+X2.length+X3.length) (w9.setCell (B,4) r') :=
 BK.kept y R A XG (fun q f=>by
  simp only[cC,Yu,Yv,ZL] at f ⊢;rcases f with rfl|f|f|f
  .exact .inl (.inl rfl)
  .exact .inl (.inr (.inl f))
  .exact .inl (.inr (.inr (.inl f)))
  .exact (j q f).imp (fun e=>.inr (.inr (.inr e))) id) (I.DJ (y.k4 (P:=jA) H) (h.apart y A r) E C j)
theorem Qm(h:BK w B v0 v1 K r1 r2 r3 X1 X2 X3)(h1:X1.length<=1000000000)(h2:X2.length<=1000000000)(h3:X3.length<=1000000000){l:XZ}(hl:w.ownsRow 0 58 6 l n xs)(hn:n<=900000)(ak:∀ b,l.ownBlock=U b->b ∉ K/\b ∉ cC B r1 r2 r3):
  X4 prog 122 #[X8 (U ⟨B,2,Z⟩),l] w fun e w'=>e=Yg (Yc #[])/\sd w B v0 v1 K r1 r2 r3 l (X1.length+X2.length+X3.length) w':=by
 obtain⟨i0,ad,ac,ab,aa⟩:=info_parts Pz;obtain⟨j0,az,ax,aw,av⟩:=info_parts Qc;obtain⟨a,r,rfl⟩:=gj hl;have HB:=aC h;have HL:=aC hl;have HK:=aC ak;have a7:=aC (fun b (j:(X9 a n r).ownBlock=U b)=>fe hl j);have bc:xs.length=n*6:=hl.1;clear h hl ak
 go_in
 go_upto_region 3 with (first|(go_at_call 184;refine aK (BV HB h1 h2 h3) fun w1 j=>?_;have H1:=aC j;clear j))
 generalize bf:yy X1 X2 X3=m;change Code.wp _ _ _ _ (w1.alloc (Yh #[V Y m,V Y 0,Ya ⟨#[]⟩,V Y m,(),V Y 0] 58));have HW:=aC (bM H1 ((zr _ w1).alloc aI (Yh #[V Y m,V Y 0,Ya ⟨#[]⟩,V Y m,(),V Y 0] 58)) aI);have hS:w1.heap.size ∉ (X9 a n r).ownBlock.toList:=fun e=>by have:=a7 _ (by simpa using e);have:=H1.size;omega
 have BX:Hid (∀ H,aH (X9 a n r).ownBlock.toList (w1.alloc (Yh #[V Y m,V Y 0,Ya ⟨#[]⟩,V Y m,(),V Y 0] 58)) H->H.cell? (w1,0)=U (V Y m)/\H.cell? (w1,1)=U (V Y 0)/\H.cell? (w1,2)=U (Ya ⟨#[]⟩)/\H.cell? (w1,3)=U (V Y m)/\H.cell? (w1,4)=U ↑()/\H.cell? (w1,5)=U (V Y 0)):=fun H k=>⟨k.cell hS (bG (cP w1 _) 0 rfl),k.cell hS (bG (cP w1 _) 1 rfl),k.cell hS (bG (cP w1 _) 2 rfl),k.cell hS (bG (cP w1 _) 3 rfl),k.cell hS (bG (cP w1 _) 4 rfl),k.cell hS (bG (cP w1 _) 5 rfl)⟩
 clear hS;generalize w1.alloc (Yh #[V Y m,V Y 0,Ya ⟨#[]⟩,V Y m,(),V Y 0] 58)=W1 at HW BX ⊢;generalize w1=S at BX ⊢;have a8:=aC (eQ HL HW)
 go_loopw [6] (fun v wr=>∃ k:M,k<=n/\v=V Y k/\wr.ownsRow 0 58 6 (X9 a n r) n (rp (jA m) k++xs.drop (k*6))/\aH (X9 a n r).ownBlock.toList W1 wr) (fun v _=>n-(intOf v).toNat)
 .exact⟨0,Zd _,rfl,by simpa[BG] using a8.out,aH.refl _ _⟩
 .obtain⟨k,hk,rfl,f,A⟩:=hrel;have C:=aC (Yz f A)
  by_cases bg:k<n
  .have aj:(k:N)<(n:N):=O
   obtain⟨y0,y1,T,R,P,I⟩:=BX _ A;have ba:(rp (jA m) k++xs.drop (k*6)).length=n*6:=by rw[YZ,pH,List.length_drop];simp;omega
   obtain⟨g,cap,u,e,c0,fz⟩:=qI f (k:=k*6) O;obtain⟨g',y,u1,q,c1,_⟩:=qI f (k:=k*6+1) O;rw[e] at q;simp only[Value.slice.injEq,Option.some.injEq,Addr.mk.injEq,and_true,true_and] at q;obtain⟨rfl,rfl⟩:=q;obtain⟨g',y,u2,q,c2,_⟩:=qI f (k:=k*6+2) O;rw[e] at q;simp only[Value.slice.injEq,Option.some.injEq,Addr.mk.injEq,and_true,true_and] at q;obtain⟨rfl,rfl⟩:=q;obtain⟨g',y,u3,q,c3,_⟩:=qI f (k:=k*6+3) O;rw[e] at q;simp only[Value.slice.injEq,Option.some.injEq,Addr.mk.injEq,and_true,true_and] at q;obtain⟨rfl,rfl⟩:=q;obtain⟨g',y,u4,q,c4,_⟩:=qI f (k:=k*6+4) O;rw[e] at q;simp only[Value.slice.injEq,Option.some.injEq,Addr.mk.injEq,and_true,true_and] at q;obtain⟨rfl,rfl⟩:=q;obtain⟨g',y,u5,q,c5,_⟩:=qI f (k:=k*6+5) O;rw[e] at q;simp only[Value.slice.injEq,Option.some.injEq,Addr.mk.injEq,and_true,true_and] at q;obtain⟨rfl,rfl⟩:=q;simp only[Value.slice.injEq,true_and] at e;obtain⟨rfl,rfl⟩:=e;have f0:=fz (k*6);have f1:=fz (k*6+1);have f2:=fz (k*6+2);have f3:=fz (k*6+3);have f4:=fz (k*6+4);have f5:=fz (k*6+5);clear f A
   go_wp21
   go_roundw
   .refine⟨k+1,O,by go_num,?_,(((((C.2.setCell (.inl XJ) _ _).setCell (.inl XJ) _ _).setCell (.inl XJ) _ _).setCell (.inl XJ) _ _).setCell (.inl XJ) _ _).setCell (.inl XJ) _ _⟩;have:=(oR (oR (oR (oR (oR (oR C.1 (b:=g) rfl (k*6) (V Y m)) (b:=g) rfl (k*6+1) (V Y 0)) (b:=g) rfl (k*6+2) (Ya ⟨#[]⟩)) (b:=g) rfl (k*6+3) (V Y m)) (b:=g) rfl (k*6+4) ()) (b:=g) rfl (k*6+5) (V Y 0));rw[Nf O] at this;exact this
   .simp[intOf];omega
  .have aj:¬ (k:N)<(n:N):=O
   have ay:k=n:=O
   subst ay
   have HR:Hid (wr.ownsRow 0 58 6 (X9 a k r) k (rp (jA m) k)):=by
    have:=C.1;rw[ZI O,List.append_nil] at this;exact this
   clear f A;obtain⟨y0,y1,T,R,P,I⟩:=BX _ C.2
   go_upto_region 7 with fail
   change Code.wp _ _ _ _ (wr.alloc (Yh #[X9 a k r,(),(),(),V Y m] tE))
   have S0:Hid (KS (jA m) 58 wr (wr.alloc (Yh #[X9 a k r,(),(),(),V Y m] tE)) (X9 a k r) k wr (Yh #[X9 a k r,(),(),(),V Y m] tE)) :=
    ⟨HR.alloc _,cP _ _,Yi _,(aH.refl _ _).alloc _,fun b j=>fe HR j⟩
   have T0:Hid (KF (jA m) 58 wr (wr.alloc (Yh #[X9 a k r,(),(),(),V Y m] tE)) (X9 a k r) k wr (Yh #[X9 a k r,(),(),(),V Y m] tE) [(X9 a k r,k)]) :=
    ⟨S0,fun p hp=>by
     rw[List.mem_singleton.1 hp]
     exact⟨Fu.jT S0.own,fun b j=>⟨by have:=S0.lt b j;omega,fe S0.own j,.inl j⟩⟩⟩
   clear S0;generalize wr.alloc (Yh #[X9 a k r,(),(),(),V Y m] tE)=Z0 at T0 ⊢;obtain⟨y0,y1,T,R,P,I⟩:=BX _ (C.2.trans T0.ks.off)
   go_upto_region 8 with (first|(at_builtin;go_loud (refine qE rfl _ _ 34 rfl (jA m) 72 underlying34 ad ac ab aa XC rfl XA XI T0.ks.own (m:=1) (cs:=#[V Y m,V Y 0,Ya ⟨#[]⟩,V Y m,(),V Y 0]) (by simp[rp]) XC XC rfl rfl O (zN _) ?_);intro g6 c6 w6 o6 ai f6 k6 ar;have q6:=bG (T0.ks.at_ k6).1 1 rfl;have z6:=(T0.ks.at_ k6).2 1))
   have T1:=aC (T0.put o6 ai f6 k6 ar XA 1);generalize w6.setCell (wr,1) (X9 g6 (k+1) c6)=Z1 at T1 ⊢;clear y0 y1 T R P I o6 ai f6 k6 ar q6 z6 T0;obtain⟨y0,y1,T,R,P,I⟩:=BX _ (C.2.trans T1.ks.off)
   go_upto_region 9 with (first|(at_builtin;go_loud (refine qE rfl _ _ 34 rfl (jA m) 72 underlying34 ad ac ab aa XC rfl XA XI T1.ks.own (m:=2) (cs:=#[V Y m,V Y 0,Ya ⟨#[]⟩,V Y m,(),V Y 0,V Y m,V Y 0,Ya ⟨#[]⟩,V Y m,(),V Y 0]) (by simp[rp]) XC XC rfl rfl O (zN _) ?_);intro g7 c7 w7 o7 ag f7 k7 aq;have q7:=bG (T1.ks.at_ k7).1 2 rfl;have z7:=(T1.ks.at_ k7).2 2))
   have T2:=aC (T1.put o7 ag f7 k7 aq XA 2);generalize w7.setCell (wr,2) (X9 g7 (k+2) c7)=Z2 at T2 ⊢;clear y0 y1 T R P I o7 ag f7 k7 aq q7 z7 T1;obtain⟨y0,y1,T,R,P,I⟩:=BX _ (C.2.trans T2.ks.off)
   go_upto_region 10 with (first|(at_builtin;go_loud (refine qE rfl _ _ 34 rfl (jA m) 72 underlying34 ad ac ab aa XC rfl XA XI T2.ks.own (m:=3) (cs:=#[V Y m,V Y 0,Ya ⟨#[]⟩,V Y m,(),V Y 0,V Y m,V Y 0,Ya ⟨#[]⟩,V Y m,(),V Y 0,V Y m,V Y 0,Ya ⟨#[]⟩,V Y m,(),V Y 0]) (by simp[rp]) XC XC rfl rfl O (zN _) ?_);intro g8 c8 w8 o8 af f8 k8 ao;have q8:=bG (T2.ks.at_ k8).1 3 rfl;have z8:=(T2.ks.at_ k8).2 3))
   have E:=aC (T2.put o8 af f8 k8 ao XA 3);generalize w8.setCell (wr,3) (X9 g8 (k+3) c8)=Z3 at E ⊢;clear y0 y1 T R P I o8 af f8 k8 ao q8 z8 T2;have R3:aH (X9 a k r).ownBlock.toList w Z3:=(aH.aD HW).trans (C.2.trans E.ks.off);have au:=aC (fun b (j:b∈(X9 a k r).ownBlock.toList)=>HK b (by simpa using j));have B3:=aC (HB.off R3 (fun b j e=>(au b e).2 j) (fun b j e=>(au b e).1 j));have a4:=aC R3;obtain⟨_,_,_,_,d2,an⟩:=B3.cells;obtain⟨_,_,ra,rc,er⟩:=B3.lu;subst er;have fB:=an 4;have s0:=bG E.ks.hq 0 rfl;have s1:=bG E.ks.hq 1 rfl;have s2:=bG E.ks.hq 2 rfl;have s3:=bG E.ks.hq 3 rfl;have s4:=bG E.ks.hq 4 rfl;have bh:∀ o,(Z3.alloc o).cell? (B,4)=U (X9 ra X3.length rc):=fun o=>aR ((zr _ Z3).alloc aI o) d2
   have DD:=aC (fun o=>eQ B3.br.b3.own (((zr _ Z3).alloc aI o).drew));have al:(X9 ra X3.length rc).ownBlock≠U B:=ja B3.br.b3.own B3.hb XC;clear R3 an
   go_region_law (first
    |(refine step_append_lies _ rfl _ _ 82 rfl 0 tE j0 _ 5 104 underlying82 az ax aw av rfl XC (X9 ra X3.length rc) X3.length (X3.flatMap gh) rfl (DD.out _) ⟨Z3.heap.size,0,Z⟩ 1 1 (gh (X9 a k r,X9 (U ⟨g6,0,Z⟩) (k+1) c6,X9 (U ⟨g7,0,Z⟩) (k+2) c7,X9 (U ⟨g8,0,Z⟩) (k+3) c8,m)) rfl rfl (ZF (cs:=(gh (X9 a k r,X9 (U ⟨g6,0,Z⟩) (k+1) c6,X9 (U ⟨g7,0,Z⟩) (k+2) c7,X9 (U ⟨g8,0,Z⟩) (k+3) c8,m)).toArray) (cP Z3 _)) (by simp[gh,ZG]) O XH O (zN _) (Z3.heap.size+1) XA ?_;intro g9 c9 w9 o9 ae a3 a9;have k9:aH ((X9 ra X3.length rc).ownBlock.toList) Z3 w9:=aH.grown (((aH.refl _ Z3).alloc _).drew) ae (fun k hk=>.inl (by simp[hk]));have d9:=k9.cell (fun e=>al (by simpa using e)) d2;have f9:=(k9.frozen (fun e=>al (by simpa using e)) (Yl _ _ d2)).trans fB))
   all_goals
    go_wp21
    (try simp only[Zz,Exit.then]);refine bodyPost_end (results_none rfl _ _ _) rfl ?_
    refine⟨rfl,HB.vO B3 E hn a4 (Yk HW.size C.2.size) HK k9 o9 (fun b j=>by
     simp[ZB] at j;subst j
     exact a3.imp id (fun e=>by omega))⟩
open aA (aO)
variable {w w1 w2:XY}{B:XP}{v0 v1 r1 r2 r3 q1 q2 q3:XZ}{K K1 L:XL XP}{X1 X2 X3 Y1 Y2 Y3:XL KL}{m:XP}
structure kT(w:XY)(B:M)(v0 v1:XZ)(K:J M)(r1 r2 r3:XZ)(L:J M)(m:M)(w1:XY)(K1:J M)(q1 q2 q3:XZ)(Y1 Y2 Y3:J KL):Prop where
 bk:BK w1 B v0 v1 K1 q1 q2 q3 Y1 Y2 Y3
 len:Y1.length+Y2.length+Y3.length=m
 off:aH (L++cC B r1 r2 r3) w w1
 kk:∀ b∈K1,b∈K\/b∈L\/w<=b
 rr:∀ b∈cC B q1 q2 q3,b∈cC B r1 r2 r3\/w<=b
theorem kT.refl(h:BK w B v0 v1 K r1 r2 r3 X1 X2 X3):kT w B v0 v1 K r1 r2 r3 [] (X1.length+X2.length+X3.length) w K r1 r2 r3 X1 X2 X3:=⟨h,rfl,aH.refl _ _,fun _ a=>.inl a,fun _ a=>.inl a⟩
theorem kT.step(h:kT w B v0 v1 K r1 r2 r3 L m w1 K1 q1 q2 q3 Y1 Y2 Y3){l:XZ}(k:sd w1 B v0 v1 K1 q1 q2 q3 l (Y1.length+Y2.length+Y3.length) w2):∃ C q j f A y Z3,kT w B v0 v1 K r1 r2 r3 (L++l.ownBlock.toList) (m+1) w2 C q j f A y Z3:=by
 let⟨C,q,j,f,A,y,Z3,k1,k2,k3,k4,k5⟩:=k;have E:=h.off.size;refine⟨C,q,j,f,A,y,Z3,k1,by rw[k2,h.len],?_,fun b r=>?_,fun b r=>?_⟩
 .refine (h.off.mono fun x a=>?_).trans' k3 fun x a=>?_
  .rcases Yv.1 a with a|a
   .exact List.mem_append_left _ (List.mem_append_left _ a)
   .exact List.mem_append_right _ a
  .rcases Yv.1 a with a|a
   .exact .inl (List.mem_append_left _ (List.mem_append_right _ a))
   .exact (h.rr x a).imp (fun e=>List.mem_append_right _ e) id
 .rcases k4 b r with e|e|e
  .rcases h.kk b e with e|e|e
   .exact .inl e
   .exact .inr (.inl (List.mem_append_left _ e))
   .exact .inr (.inr e)
  .exact .inr (.inl (List.mem_append_right _ (by simpa using e)))
  .exact .inr (.inr O)
 .rcases k5 b r with e|e
  .exact h.rr b e
  .exact .inr O
theorem kT.free(h:kT w B v0 v1 K r1 r2 r3 L m w1 K1 q1 q2 q3 Y1 Y2 Y3){l:XZ}(a:∀ b,l.ownBlock=U b->b<w/\b ∉ K/\b ∉ cC B r1 r2 r3/\b ∉ L):∀ b,l.ownBlock=U b->b ∉ K1/\b ∉ cC B q1 q2 q3:=fun b f=>by
 let⟨h1,h2,h3,h4⟩:=a b f;refine⟨fun e=>?_,fun e=>?_⟩
 .rcases h.kk b e with e|e|e
  .exact h2 e
  .exact h4 e
  .omega
 .rcases h.rr b e with e|e
  .exact h3 e
  .omega
theorem kT.own(h:kT w B v0 v1 K r1 r2 r3 L m w1 K1 q1 q2 q3 Y1 Y2 Y3){l:XZ}(j:w.ownsRow 0 t z l n xs)(a:∀ b,l.ownBlock=U b->b<w/\b ∉ K/\b ∉ cC B r1 r2 r3/\b ∉ L):w1.ownsRow 0 t z l n xs :=
 cV j h.off fun b f e=>by
  rcases Yv.1 e with e|e
  .exact (a b f).2.2.2 e
  .exact (a b f).2.2.1 e
theorem kT.td(h:kT w B v0 v1 K r1 r2 r3 L m w1 K1 q1 q2 q3 Y1 Y2 Y3)(a:m<=1000000000):Y1.length<=1000000000/\Y2.length<=1000000000/\Y3.length<=1000000000:=by
 have:=h.len;omega
structure iO(w:XY)(K:J M)(N:J M)(u1 u2 u3 u4:XZ)(l:J (aO × XZ))(d g e:J XQ):Prop where
 en:w.ownsRow 0 58 6 u1 l.length (l.flatMap gA)
 sp:∀ p∈l,w.ownsRow 0 60 2 p.2 p.1.aQ.length (p.1.aQ.flatMap gk)
 da:w.ownsRow 0 3 1 u2 d.length (d.map (V Y))
 gr:w.ownsRow 0 3 1 u3 g.length (g.map (V Y))
 ed:w.ownsRow 0 3 1 u4 e.length (e.map (V Y))
 pw:l.Pairwise fun p q=>∀ b,p.2.ownBlock=U b->q.2.ownBlock≠U b
 dg:∀ b,u2.ownBlock=U b->u3.ownBlock≠U b/\u4.ownBlock≠U b
 ge:∀ b,u3.ownBlock=U b->u4.ownBlock≠U b
 no:∀ b,(u1.ownBlock=U b\/u2.ownBlock=U b\/u3.ownBlock=U b\/u4.ownBlock=U b\/∃ p∈l,p.2.ownBlock=U b)->b ∉ K/\b ∉ N
def jQ(l:J (aO × XZ)):J M:=l.flatMap fun p=>p.2.ownBlock.toList
def kC(u1 u2 u3 u4:XZ)(l:J (aO × XZ)):J M:=jQ l++u1.ownBlock.toList++u2.ownBlock.toList++u3.ownBlock.toList++u4.ownBlock.toList
theorem wH{l:J (aO × XZ)}(h:b∈jQ l):∃ p∈l,p.2.ownBlock=U b:=by
 let⟨p,hp,hb⟩:=List.mem_flatMap.1 h;exact⟨p,hp,by simpa using hb⟩
theorem NJ{l:J (aO × XZ)}{k:M}(f:k<l.length):(l.flatMap gA)[k*6+4]?=U (l[k]).2:=by
 induction l generalizing k with
 |nil=>simp at f
 |cons a r ih =>
  cases k with
  |zero=>simp[gA]
  |succ k =>
   have:=ih (k:=k) (by simpa using f);rw[Zp,Zt (by simp[gA];omega)];simp only[gA,Y0,Y7,List.getElem_cons_succ];rw[<- this]
   congr 1
   omega
section
variable {u1 u2 u3 u4:XZ}{l:XL (aO × XZ)}{d g e:XL XQ}
theorem iO.L7(h:iO w K (cC B r1 r2 r3) u1 u2 u3 u4 l d g e){k:M}(j:k<l.length):∀ b,(l[k]).2.ownBlock=U b->b<w/\b ∉ K/\b ∉ cC B r1 r2 r3/\b ∉ jQ (l.take k):=fun b a=>by
 have f:=zg j;let⟨n1,n2⟩:=h.no b (.inr (.inr (.inr (.inr ⟨_,f,a⟩))));refine⟨fe (h.sp _ f) a,n1,n2,fun q=>?_⟩;let⟨p,hp,hpb⟩:=wH q;obtain⟨i,r,rfl⟩:=List.mem_iff_getElem.1 hp;rw[List.length_take] at r;rw[List.getElem_take] at hpb;exact List.pairwise_iff_getElem.1 h.pw i k O j O b hpb a
theorem iO.GA(h:iO w K (cC B r1 r2 r3) u1 u2 u3 u4 l d g e):∀ b,u1.ownBlock=U b->b<w/\b ∉ K/\b ∉ cC B r1 r2 r3/\b ∉ jQ l:=fun b a=>by
 let⟨n1,n2⟩:=h.no b (.inl a);refine⟨fe h.en a,n1,n2,fun f=>?_⟩;let⟨p,hp,hpb⟩:=wH f;exact qD h.en (h.sp p hp) XC a hpb
theorem iO.AX(h:iO w K (cC B r1 r2 r3) u1 u2 u3 u4 l d g e)(f:w.ownsRow 0 3 1 u n xs)(j:u.ownBlock=U b):b ∉ jQ l++u1.ownBlock.toList:=fun a=>by
 rcases Yv.1 a with a|a
 .let⟨p,hp,hpb⟩:=wH a;exact qD f (h.sp p hp) XC j hpb
 .exact qD f h.en XC j (by simpa using a)
theorem iO.Qj(h:iO w K (cC B r1 r2 r3) u1 u2 u3 u4 l d g e):∀ b,u2.ownBlock=U b->b<w/\b ∉ K/\b ∉ cC B r1 r2 r3/\b ∉ jQ l++u1.ownBlock.toList:=fun b a=>by
 let⟨n1,n2⟩:=h.no b (.inr (.inl a));exact⟨fe h.da a,n1,n2,h.AX h.da a⟩
theorem iO.MV(h:iO w K (cC B r1 r2 r3) u1 u2 u3 u4 l d g e):∀ b,u3.ownBlock=U b->b<w/\b ∉ K/\b ∉ cC B r1 r2 r3/\b ∉ jQ l++u1.ownBlock.toList++u2.ownBlock.toList:=fun b f=>by
 let⟨n1,n2⟩:=h.no b (.inr (.inr (.inl f)));refine⟨fe h.gr f,n1,n2,fun a=>?_⟩;rcases Yv.1 a with a|a
 .exact h.AX h.gr f a
 .exact (h.dg b (by simpa using a)).1 f
theorem iO.PP(h:iO w K (cC B r1 r2 r3) u1 u2 u3 u4 l d g e):∀ b,u4.ownBlock=U b->b<w/\b ∉ K/\b ∉ cC B r1 r2 r3/\b ∉ jQ l++u1.ownBlock.toList++u2.ownBlock.toList++u3.ownBlock.toList:=fun b f=>by
 let⟨n1,n2⟩:=h.no b (.inr (.inr (.inr (.inl f))));refine⟨fe h.ed f,n1,n2,fun a=>?_⟩;rcases Yv.1 a with a|a
 .rcases Yv.1 a with a|a
  .exact h.AX h.ed f a
  .exact (h.dg b (by simpa using a)).2 f
 .exact h.ge b (by simpa using a) f
theorem iO.later(h:iO w K L u1 u2 u3 u4 l d g e)(k:X0 w w w1):iO w1 K L u1 u2 u3 u4 l d g e :=
 ⟨eQ h.en k,fun p a=>eQ (h.sp p a) k,eQ h.da k,eQ h.gr k,eQ h.ed k,h.pw,h.dg,h.ge,h.no⟩
theorem iO.lt(h:iO w K L u1 u2 u3 u4 l d g e):∀ b∈kC u1 u2 u3 u4 l,b<w:=fun b a=>by
 simp only[kC,Yv,ZL] at a;rcases a with (((a|a)|a)|a)|a
 .let⟨p,hp,hpb⟩:=wH a;exact fe (h.sp p hp) hpb
 .exact fe h.en a
 .exact fe h.da a
 .exact fe h.gr a
 .exact fe h.ed a
theorem qz{j:M}(h:W.ownsRow j t z v n xs){k:M}(a:xs[k]?=U u):∃ g cap,v=X9 (U ⟨g,0,Z⟩) n cap/\W.cell? (g,k)=U u:=by
 rcases h.2 with ⟨rfl,rfl⟩|⟨g,cap,f,rfl,_,q,_⟩
 .have:=h.1;rw[Zy,List.length_eq_zero_iff] at this;simp[this] at a
 .exact⟨g,cap,rfl,(wb g k) ▸ h.cells (g:=g) rfl k u a⟩
theorem Ot{l:J (aO × XZ)}{k:M}(a:k<l.length):jQ (l.take (k+1))=jQ (l.take k)++(l[k]).2.ownBlock.toList:=by
 unfold jQ;rw[List.take_succ_eq_append_getElem a,List.flatMap_append];simp
theorem Gq{l:J (aO × XZ)}{k:M}(h:b∈jQ (l.take k)):b∈jQ l:=by
 let⟨p,hp,hb⟩:=List.mem_flatMap.1 h;exact List.mem_flatMap.2 ⟨p,List.mem_of_mem_take hp,hb⟩
def iZ(a at_ n:N)(u1 u2 u3 u4:XZ):Obj:=Yh #[a,at_,n,u1,u2,u3,u4] 40 (0,0)
theorem kT.box(h:kT w B v0 v1 K r1 r2 r3 L m w1 K1 q1 q2 q3 Y1 Y2 Y3)(a:w.heap[Q]?=U o)(f:Q ∉ L)(j:Q ∉ cC B r1 r2 r3):w1.heap[Q]?=U o :=
 (h.off.block Q (Array.getElem?_eq_some_iff.1 a).1 (fun e=>by
  rcases Yv.1 e with e|e
  .exact f e
  .exact j e)).trans a
theorem kT.down(k:X0 w w X)(h:kT X B v0 v1 K r1 r2 r3 L m w1 K1 q1 q2 q3 Y1 Y2 Y3):kT w B v0 v1 K r1 r2 r3 L m w1 K1 q1 q2 q3 Y1 Y2 Y3 :=
 ⟨h.bk,h.len,(aH.aD k).trans h.off,fun b a=>(h.kk b a).imp id (Or.imp id fun e=>Yk k.size e),fun b a=>(h.rr b a).imp id fun e=>Yk k.size e⟩
def jk(X:XY)(B:M)(v0 v1:XZ)(K:J M)(r1 r2 r3:XZ)(L:J M)(m:M)(wr:XY):Prop:=∃ r h f a q j Z3,kT X B v0 v1 K r1 r2 r3 L m wr r h f a q j Z3
theorem jk.ints(h:jk w B v0 v1 K r1 r2 r3 L m w1)(q:m<=1000000000)(f:w.ownsRow 0 3 1 u n xs)(j:n<=900000)(a:∀ b,u.ownBlock=U b->b<w/\b ∉ K/\b ∉ cC B r1 r2 r3/\b ∉ L):
  X4 prog 123 #[X8 (U ⟨B,2,Z⟩),u] w1 fun e w'=>e=Yg (Yc #[])/\jk w B v0 v1 K r1 r2 r3 (L++u.ownBlock.toList) (m+1) w':=by
 let⟨K1,q1,q2,q3,Y1,Y2,Y3,k⟩:=h;let⟨y1,y2,y3⟩:=k.td q;refine aK (Qd k.bk y1 y2 y3 (k.own f a) j (k.free a)) fun w2 r=>?_;exact⟨rfl,k.step r⟩
theorem jk.aQ(h:jk w B v0 v1 K r1 r2 r3 L m w1)(q:m<=1000000000)(f:w.ownsRow 0 60 2 u n xs)(j:n<=900000)(a:∀ b,u.ownBlock=U b->b<w/\b ∉ K/\b ∉ cC B r1 r2 r3/\b ∉ L):
  X4 prog 121 #[X8 (U ⟨B,2,Z⟩),u] w1 fun e w'=>e=Yg (Yc #[])/\jk w B v0 v1 K r1 r2 r3 (L++u.ownBlock.toList) (m+1) w':=by
 let⟨K1,q1,q2,q3,Y1,Y2,Y3,k⟩:=h;let⟨y1,y2,y3⟩:=k.td q;refine aK (Qf k.bk y1 y2 y3 (k.own f a) j (k.free a)) fun w2 r=>?_;exact⟨rfl,k.step r⟩
theorem jk.entries(h:jk w B v0 v1 K r1 r2 r3 L m w1)(q:m<=1000000000)(f:w.ownsRow 0 58 6 u n xs)(j:n<=900000)(a:∀ b,u.ownBlock=U b->b<w/\b ∉ K/\b ∉ cC B r1 r2 r3/\b ∉ L):
  X4 prog 122 #[X8 (U ⟨B,2,Z⟩),u] w1 fun e w'=>e=Yg (Yc #[])/\jk w B v0 v1 K r1 r2 r3 (L++u.ownBlock.toList) (m+1) w':=by
 let⟨K1,q1,q2,q3,Y1,Y2,Y3,k⟩:=h;let⟨y1,y2,y3⟩:=k.td q;refine aK (Qm k.bk y1 y2 y3 (k.own f a) j (k.free a)) fun w2 r=>?_;exact⟨rfl,k.step r⟩
theorem Ov(h:BK w B v0 v1 K r1 r2 r3 X1 X2 X3)(hm:X1.length+X2.length+X3.length+l.length+4<=1000000000)(R:iO w K (cC B r1 r2 r3) u1 u2 u3 u4 l d g e)(hl:l.length<=1000)(hs:∀ p∈l,p.1.aQ.length<=900000)(hd:d.length<=900000)(hg:g.length<=900000)(he:e.length<=900000)(P at_ n:N):
  X4 prog 77 #[X8 (U ⟨B,2,Z⟩),bJ P at_ n u1 u2 u3 u4] w fun x w'=>x=Yg (Yc #[])/\jk w B v0 v1 K r1 r2 r3 (kC u1 u2 u3 u4 l) (X1.length+X2.length+X3.length+l.length+4) w':=by
 have kW:X0 w w (w.alloc (iZ P at_ n u1 u2 u3 u4)):=(zr _ _).alloc (zq _) _;have hQ:=cP w (iZ P at_ n u1 u2 u3 u4);obtain⟨f,a,rfl⟩:=gj R.en;obtain⟨r,q,rfl⟩:=gj R.da;obtain⟨A,y,rfl⟩:=gj R.gr;obtain⟨H,E,rfl⟩:=gj R.ed;have C:=aC (R.later kW);have HS:=aC (Yz hs (Yz hd (Yz hg he)))
 have BX:Hid (∀ T,(∀ b∈T,b∈kC (X9 f l.length a) (X9 r d.length q) (X9 A g.length y) (X9 H e.length E) l)->∀ m' W,jk (w.alloc (iZ P at_ n (X9 f l.length a) (X9 r d.length q) (X9 A g.length y) (X9 H e.length E))) B v0 v1 K r1 r2 r3 T m' W->W.cell? (w,3)=U (X9 f l.length a)/\W.cell? (w,4)=U (X9 r d.length q)/\W.cell? (w,5)=U (X9 A g.length y)/\W.cell? (w,6)=U (X9 H e.length E)):=fun T hL m' W k=>by
  obtain⟨K1,q1,q2,q3,Y1,Y2,Y3,k⟩:=k;have j:=k.box hQ (fun hx=>by have:=R.lt _ (hL _ hx);omega) (fun hx=>by have:=h.lt _ hx;omega);exact⟨bG j 3 rfl,bG j 4 rfl,bG j 5 rfl,bG j 6 rfl⟩
 have G0:Hid (jk (w.alloc (iZ P at_ n (X9 f l.length a) (X9 r d.length q) (X9 A g.length y) (X9 H e.length E))) B v0 v1 K r1 r2 r3 [] (X1.length+X2.length+X3.length) (w.alloc (iZ P at_ n (X9 f l.length a) (X9 r d.length q) (X9 A g.length y) (X9 H e.length E)))):=⟨_,_,_,_,_,_,_,kT.refl (h.later kW)⟩;have DN:Hid (∀ T m' W,jk (w.alloc (iZ P at_ n (X9 f l.length a) (X9 r d.length q) (X9 A g.length y) (X9 H e.length E))) B v0 v1 K r1 r2 r3 T m' W->jk w B v0 v1 K r1 r2 r3 T m' W):=fun T m' W ⟨K1,q1,q2,q3,Y1,Y2,Y3,k⟩=>⟨K1,q1,q2,q3,Y1,Y2,Y3,k.down kW⟩
 clear kW hQ h R hs hd hg he;simp only[bJ]
 go_in
 go_upto_region 1 with fail
 change Code.wp _ _ _ _ (w.alloc (iZ P at_ n (X9 f l.length a) (X9 r d.length q) (X9 A g.length y) (X9 H e.length E)));generalize w.alloc (iZ P at_ n (X9 f l.length a) (X9 r d.length q) (X9 A g.length y) (X9 H e.length E))=X at C BX G0 DN ⊢;generalize hM:X1.length+X2.length+X3.length=M at *
 have af:Hid (∀ k,∀ b∈jQ (l.take k),b∈kC (X9 f l.length a) (X9 r d.length q) (X9 A g.length y) (X9 H e.length E) l):=fun k b j=>by
  simp only[kC,Yv];exact .inl (.inl (.inl (.inl (Gq j))))
 go_wp2_with fail
 go_loopw [4] (fun v wr=>∃ k:XP,k<=l.length/\v=V Y k/\jk X B v0 v1 K r1 r2 r3 (jQ (l.take k)) (M+k) wr) (fun v _=>l.length-(intOf v).toNat)
 case atStart=>exact⟨0,Zd _,rfl,by simpa[jQ] using G0.out⟩
 case round =>
  obtain⟨k,hk,rfl,S⟩:=hrel;have HK:=aC S;obtain⟨x3,_,_,_⟩:=BX _ (af.out k) _ _ S;clear S
  by_cases I:k<l.length
  .have ad:(k:N)<(l.length:N):=O
   have SP:=aC (jk.aQ HK O (C.sp _ (zg I)) (HS.1 _ (zg I)) (C.L7 I))
   have EC:∃ g cap,(X9 f l.length a)=X9 (U ⟨g,0,Z⟩) l.length cap/\wr.cell? ⟨g,k*6+4,Z⟩=U (l[k]).2:=by
    obtain⟨K1,q1,q2,q3,Y1,Y2,Y3,kk⟩:=HK
    exact qz (kk.own C.en fun b j=>by
     obtain⟨y1,y2,y3,y4⟩:=C.GA b j
     exact⟨y1,y2,y3,fun hx=>y4 (Gq hx)⟩) (NJ I)
   obtain⟨g0,ag,e0,y4⟩:=EC;simp only[Value.slice.injEq,true_and] at e0;obtain⟨rfl,rfl⟩:=e0
   go_wp2_with (first
    |(go_at_call 121;refine SP.mono ?_;rintro e w1 ⟨rfl,h1⟩;have H1:=aC h1;clear h1))
   go_roundw
   case rel=>exact⟨k+1,by omega,by go_num,by rw[Ot I,<- Nat.add_assoc];exact H1.out⟩
   .simp[intOf];omega
  .have ad:¬ (k:N)<(l.length:N):=O
   have ae:k=l.length:=O
   subst ae;rw[List.take_length] at HK;have ac:Hid (∀ b∈jQ l++(X9 f l.length a).ownBlock.toList,b∈kC (X9 f l.length a) (X9 r d.length q) (X9 A g.length y) (X9 H e.length E) l):=fun b j=>by unfold kC;exact List.mem_append_left _ (List.mem_append_left _ (List.mem_append_left _ j))
   have ab:Hid (∀ b∈jQ l++(X9 f l.length a).ownBlock.toList++(X9 r d.length q).ownBlock.toList,b∈kC (X9 f l.length a) (X9 r d.length q) (X9 A g.length y) (X9 H e.length E) l):=fun b j=>by unfold kC;exact List.mem_append_left _ (List.mem_append_left _ j)
   have aa:Hid (∀ b∈jQ l++(X9 f l.length a).ownBlock.toList++(X9 r d.length q).ownBlock.toList++(X9 A g.length y).ownBlock.toList,b∈kC (X9 f l.length a) (X9 r d.length q) (X9 A g.length y) (X9 H e.length E) l):=fun b j=>by unfold kC;exact List.mem_append_left _ j
   have C1:=aC (jk.entries HK O C.en O C.GA)
   go_upto_region 6 with (first|(go_at_call 122;refine C1.mono ?_;rintro e1 w1 ⟨rfl,h1⟩;have H1:=aC h1;clear h1))
   obtain⟨_,x4,_,_⟩:=BX _ ac.out _ _ H1;have C2:=aC (jk.ints H1 O C.da HS.2.1 C.Qj);clear x3 C1
   go_upto_region 7 with (first|(go_at_call 123;refine C2.mono ?_;rintro e1 w2 ⟨rfl,h2⟩;have H2:=aC h2;clear h2))
   obtain⟨_,_,x5,_⟩:=BX _ ab.out _ _ H2;have C3:=aC (jk.ints H2 O C.gr HS.2.2.1 C.MV);clear x4 C2
   go_upto_region 8 with (first|(go_at_call 123;refine C3.mono ?_;rintro e1 w3 ⟨rfl,h3⟩;have H3:=aC h3;clear h3))
   obtain⟨_,_,_,x6⟩:=BX _ aa.out _ _ H3;have C4:=aC (jk.ints H3 O C.ed HS.2.2.2 C.PP);clear x5 C3
   go_wp2_with (first|(go_at_call 123;refine C4.mono ?_;rintro e1 w4 ⟨rfl,h4⟩;have H4:=aC h4;clear h4))
   (try simp only[Zz,Exit.then]);refine bodyPost_end (results_none rfl _ _ _) rfl ?_
   exact⟨rfl,by rw[hM];exact DN _ _ _ H4⟩
end
open aA (aO St bI Inv)
inductive Tg
 |no|pr (i:XP)|dc (i:XP)|xs|ys|bk|kp
structure Dk where
 p:M
 d:M
 s:St
 r:Raw
 aN:M->XM bH
 dd:M
 xs:J (aO × M × M)
 F:J M
structure yq(w:XY)(tg:M->Tg)(i:M)(k:Dk):Prop where
 bd:BD w k.p k.d k.s k.r k.aN
 dd:DD w k.dd k.s k.xs k.F
 pp:tg k.p=.pr i
 pc:∀ b c,k.aN b=U c->tg b=.pr i
 df:∀ b∈k.F,tg b=.dc i
 ds:∀ x∈k.xs,tg x.2.1=.dc i
structure nH(w:XY)(tg:M->Tg)(D:J Dk):Prop where
 at_:∀ (i:M) (k:Dk),D[i]?=U k->yq w tg i k
 env:Env w
 lt:∀ b,tg b≠.no->b<w
 gl:∀ b,b<10->tg b=.no
variable {w w1 w2 w':XY}{tg tg':XP->Tg}{i:XP}{k:Dk}{D:XL Dk}{G:XL XP}
theorem aH.pB(h:aH G w w')(j:10<=w.heap.size)(f:∀ b∈G,10<=b):X0 10 w w':=⟨h.os,h.tape,h.output,h.size,fun b q=>h.block b O fun a=>by have:=f b a;omega⟩
theorem BD.off{d:M}{s:St}{r:Raw}(h:BD w p d s r aN)(k:aH G w w')(f:∀ b∈G,aN b=Z/\b≠p)(j:Env w'):BD w' p d s r aN :=
 ⟨(k.block p (Array.getElem?_eq_some_iff.1 h.pc).1 fun a=>(f p a).2 rfl).trans h.pc,h.pn,⟨h.ds.dk.off k fun x a=>(f x a).1,h.ds.of,h.ds.wl,h.ds.hl,h.ds.inv⟩,j,h.gl⟩
theorem yq.off(h:yq w tg i k)(r:aH G w w')(j:∀ b∈G,tg b≠.pr i/\tg b≠.dc i)(A:Env w')(ht:∀ b,tg b≠.no->tg' b=tg b):yq w' tg' i k:=by
 have e:∀ {b t},tg b=t->t≠.no->tg' b=t:=fun y E=>(ht _ (by rw[y];exact E)).trans y
 refine⟨h.bd.off r (fun b a=>⟨?_,fun eb=>(j b a).1 (eb ▸ h.pp)⟩) A,h.dd.off r (fun x f q=>(j x q).2 (h.df x f)) (fun x f q=>(j _ q).2 (h.ds x f)),e h.pp XA,fun b c a=>e (h.pc b c a) XA,fun b a=>e (h.df b a) XA,fun x f=>e (h.ds x f) XA⟩
 cases C:k.aN b with
 |none=>rfl
 |some c=>exact ((j b a).1 (h.pc b c C)).elim
theorem nH.off(h:nH w tg D)(f:aH G w w')(q:∀ b∈G,(∀ i,tg b≠.pr i/\tg b≠.dc i)/\10<=b)(ht:∀ b,tg b≠.no->tg' b=tg b)(r:∀ b,tg' b≠.no->b<w')(A:∀ b,b<10->tg' b=.no):nH w' tg' D:=by
 have j:Env w':=h.env.pB (f.pB h.env.size fun b a=>(q b a).2);exact⟨fun i k y=>(h.at_ i k y).off f (fun b a=>(q b a).1 i) j ht,j,r,A⟩
theorem nH.later(h:nH w tg D)(k:X0 w w w'):nH w' tg D :=
 h.off (G:=[]) (aH.aD k) XA (fun _ _=>rfl) (fun b a=>zL (h.lt b a) k.size) h.gl
theorem nH.doc(h:nH w tg D)(y:D[i]?=U k){q:St × bI}(P:nf w k.p k.d k.aN q v w1):DD w1 k.dd k.s k.xs k.F:=by
 let⟨r',col',bd,st,_⟩:=P;let⟨G,ko,hG⟩:=st.off;have K:=h.at_ i k y
 have a:∀ b,tg b=.dc i->b ∉ G:=fun b r f=>by
  rcases hG b f with ⟨c,j,_⟩|⟨_,j⟩
  .have:=K.pc b c j;rw[r] at this;cases this
  .have:=h.lt b (by rw[r];simp);omega
 exact K.dd.off ko (fun x f=>a x (K.df x f)) (fun x f=>a _ (K.ds x f))
open Classical in
theorem nH.both(h:nH w tg D)(hi:D[i]?=U k){q:St × bI}{e:Ending}(P:nf w k.p k.d k.aN q v w1)(Q:qi w1 k.dd k.F k.xs q e w2):
  ∃ (k':Dk) (tg':M->Tg),nH w2 tg' (D.set i k')/\k'.p=k.p/\k'.dd=k.dd/\k'.s=q.1/\(∀ b,tg b≠.no->tg' b=tg b)/\(∀ b,tg' b≠.no->tg b≠.no\/w.heap.size<=b)/\(∃ G,aH G w w2/\∀ b∈G,tg b=.pr i\/tg b=.dc i\/w.heap.size<=b)/\∃ (u1 u2 u3 u4:XZ) (l:J (aO × XZ)),v=bJ q.2.err q.2.at_ q.2.n u1 u2 u3 u4/\l.map (·.1)=q.2.entries/\iO w2 [] [] u1 u2 u3 u4 l q.2.days q.2.granted q.2.ended/\∀ b∈kC u1 u2 u3 u4 l,tg' b=.no/\w.heap.size<=b:=by
 have ao:=h.doc hi P;obtain⟨r',col',bd,st,u1,u2,u3,u4,l,rfl,hl,I,H,e3,e4,e5,e6⟩:=P;obtain⟨v1,v2,v3,v4,A,F',_,_,_,dd,hF,kd,r⟩:=Q;have K:=h.at_ i k hi;have ak:i<D.length:=(List.getElem?_eq_some_iff.1 hi).1;obtain⟨G,ko,hG⟩:=st.off;have s1:=ko.size;have s2:=kd.size;have ar:=h.env.size
 -- what lies in the document's desk
 have ad:∀ b∈F',tg b=.dc i\/w1.heap.size<=b:=fun b a=>(hF b a).imp (K.df b) id
 have ab:∀ x∈A,tg x.2.1=.dc i\/w1.heap.size<=x.2.1:=fun x ai=>by
  rcases r x ai with ⟨y,hy,e⟩|e
  .exact .inl (by rw[e];exact K.ds y hy)
  .exact .inr e
 have ac:∀ b c,col' b=U c->tg b=.pr i\/(w.heap.size<=b/\b<w1.heap.size):=fun b c f=>by
  rcases st.new b c f with e|e
  .exact .inl (K.pc b c e)
  .refine .inr ⟨e,?_⟩;rcases Nat.lt_or_ge b w1.heap.size with e' |e'
   .exact e'
   .rw[bd.ds.dk.none e'] at f;cases f
 let T:M->Tg:=fun b=>if b<w.heap.size then tg b else if col' b≠Z then .pr i else if b∈F'\/∃ x∈A,x.2.1=b then .dc i else .no
 have S:∀ b,b<w.heap.size->T b=tg b:=fun b a=>XS a
 have C:∀ b,tg b≠.no->T b=tg b:=fun b a=>S b (h.lt b a)
 have ag:∀ b c,col' b=U c->T b=.pr i:=fun b c f=>by
  rcases ac b c f with e|⟨e,_⟩
  .rw[C b (by rw[e];simp),e]
  .show (if _ then _ else _)=_;rw[XR O,XS (by rw[f];simp)]
 have aa:∀ b,(b∈F'\/∃ x∈A,x.2.1=b)->T b=.dc i:=fun b a=>by
  have al:tg b=.dc i\/w1.heap.size<=b:=by
   rcases a with a|⟨x,r,rfl⟩
   .exact ad b a
   .exact ab x r
  rcases al with e|e
  .rw[C b (by rw[e];simp),e]
  .show (if _ then _ else _)=_;rw[XR O,XR (by simpa using bd.ds.dk.none e),XS a]
 have af:∀ b,w.heap.size<=b->b<w1.heap.size->col' b=Z->T b=.no:=fun b h1 h2 h3=>by
  show (if _ then _ else _)=_;rw[XR O,XR (by simpa using h3),XR ?_];rintro (a|⟨x,r,rfl⟩)
  .rcases ad b a with e|e
   .have:=h.lt b (by rw[e];simp);omega
   .omega
  .rcases ab x r with e|e
   .have:=h.lt _ (by rw[e];simp);omega
   .omega
 have aq:∀ b∈k.F,tg b=.dc i:=K.df
 have ae:∀ b∈k.F,10<=b:=fun b a=>by
  rcases Nat.lt_or_ge b 10 with e|e
  .have:=h.gl b e;rw[K.df b a] at this;cases this
  .exact e
 have au:∀ b∈G,10<=b:=fun b a=>by
  rcases hG b a with ⟨c,f,_⟩|⟨_,f⟩
  .rcases Nat.lt_or_ge b 10 with e|e
   .rw[K.bd.gl b e] at f;cases f
   .exact e
  .omega
 have E:Env w2:=bd.env.pB (kd.pB O ae);have kW:aH (G++k.F) w w2:=(ko.mono fun x r=>List.mem_append_left _ r).trans' kd fun x r=>.inl (List.mem_append_right _ r)
 have GT:∀ b∈G++k.F,tg b=.pr i\/tg b=.dc i\/w.heap.size<=b:=fun b a=>by
  rcases Yv.1 a with a|a
  .rcases hG b a with ⟨c,f,_⟩|⟨_,f⟩
   .exact .inl (K.pc b c f)
   .exact .inr (.inr f)
  .exact .inr (.inl (K.df b a))
 have an:BD w2 k.p k.d q.1 r' col':=bd.off kd (fun b a=>by
  have ht:=K.df b a;refine⟨?_,fun e=>by have:=K.pp;rw[<- e,ht] at this;cases this⟩
  cases f:col' b with
  |none=>rfl
  |some c =>
   rcases ac b c f with e|e
   .rw[ht] at e;cases e
   .have:=h.lt b (by rw[ht];simp);omega) E
 -- the answer's rows
 have row:∀ {u:XZ}{t z n:M}{xs:J XZ},w1.ownsRow w.heap.size t z u n xs->(∀ b,u.ownBlock=U b->col' b=Z)->w2.ownsRow 0 t z u n xs/\∀ b,u.ownBlock=U b->T b=.no/\w.heap.size<=b:=fun ho hn=>by
  have lt:∀ b,_=U b->w.heap.size<=b/\b<w1.heap.size:=fun b a=>ho.lt b a
  refine⟨tJ (cV ho kd fun b a r=>?_) (zN _),fun b a=>⟨af b (lt b a).1 (lt b a).2 (hn b a),(lt b a).1⟩⟩;have:=h.lt b (by rw[K.df b r];simp);have:=(lt b a).1;omega
 have R1:=row I.own I.no;have RS:=fun p (hp:p∈l)=>row (I.sp p hp).1.own (I.sp p hp).1.no
 have R2:=row H.own H.no;have R3:=row e3.own e3.no;have R4:=row e4.own e4.no;refine⟨⟨k.p,k.d,q.1,r',col',k.dd,A,F'⟩,T,⟨fun j kj hj=>?_,E,fun b a=>?_,fun b a=>?_⟩,rfl,rfl,rfl,C,fun b a=>?_,⟨_,kW,GT⟩,u1,u2,u3,u4,l,rfl,hl,⟨R1.1,fun p hp=>(RS p hp).1,R2.1,R3.1,R4.1,I.pw,fun b a=>⟨fun e=>(e5 b e).2.1 a,e6 b a⟩,fun b a=>(e5 b a).2.2.1,fun _ _=>by simp⟩,fun b a=>?_⟩
 .rw[List.getElem?_set] at hj
  by_cases e:i=j
  .subst e;rw[XS rfl,XS ak] at hj
   cases hj
   exact⟨an,dd,(C _ (by rw[K.pp];simp)).trans K.pp,ag,fun b a=>aa b (.inl a),fun x r=>aa _ (.inr ⟨x,r,rfl⟩)⟩
  .rw[XR e] at hj;refine (h.at_ j kj hj).off kW (fun b a=>?_) E C;rcases GT b a with I|I|I
   .rw[I];exact⟨fun H=>e (by injection H),by simp⟩
   .rw[I];exact⟨by simp,fun H=>e (by injection H)⟩
   .have:tg b=.no:=by
     rcases Classical.em (tg b=.no) with H|H
     .exact H
     .have:=h.lt b H;omega
    rw[this];simp
 .rcases Nat.lt_or_ge b w.heap.size with e|e
  .omega
  .have R:(if b<w.heap.size then tg b else if col' b≠Z then Tg.pr i else if b∈F'\/∃ x∈A,x.2.1=b then Tg.dc i else Tg.no)≠.no:=a;rw[XR O] at R
   by_cases f:col' b≠Z
   .rcases Nat.lt_or_ge b w1.heap.size with e' |e'
    .omega
    .exact (f (bd.ds.dk.none e')).elim
   .rw[XR f] at R
    by_cases hf:b∈F'\/∃ x∈A,x.2.1=b
    .rcases hf with hf|⟨x,r,rfl⟩
     .exact dd.lt b hf
     .exact (dd.rd.sp x r).2.2
    .rw[XR hf] at R;exact (R rfl).elim
 .rw[S b O];exact h.gl b a
 .rcases Nat.lt_or_ge b w.heap.size with e|e
  .exact .inl (by rw[<- S b e];exact a)
  .exact .inr e
 .simp only[kC,Yv,ZL] at a;rcases a with (((a|a)|a)|a)|a
  .obtain⟨p,hp,aj⟩:=wH a;exact (RS p hp).2 b aj
  .exact R1.2 b a
  .exact R2.2 b a
  .exact R3.2 b a
  .exact R4.2 b a
structure LX(w0 w:XY)(B n:M)(tg:M->Tg)(D:J Dk)(K:J M)(v0 v1 r1 r2 r3:XZ)(X1 X2 X3:J KL):Prop where
 ds:nH w tg D
 bk:BK w B v0 v1 K r1 r2 r3 X1 X2 X3
 len:X1.length+X2.length+X3.length<=n
 xo:w.ownsRow 0 30 1 v0 D.length (D.map fun k=>X8 (U ⟨k.p,0,Z⟩))
 yo:w.ownsRow 0 102 1 v1 D.length (D.map fun k=>X8 (U ⟨k.dd,0,Z⟩))
 tb:∀ b∈cC B r1 r2 r3,tg b=.bk
 tk:∀ b∈K,tg b=.kp
 tx:∀ b,v0.ownBlock=U b->tg b=.xs
 ty:∀ b,v1.ownBlock=U b->tg b=.ys
 d3:D.length<=3
 bl:X0 w0 w0 w
 lo:∀ b,tg b≠.no->w0<=b
 qj:10<=w0.heap.size
def LW(w0 w:XY)(B n:M):Prop:=∃ tg D K v0 v1 r1 r2 r3 X1 X2 X3,LX w0 w B n tg D K v0 v1 r1 r2 r3 X1 X2 X3
section
variable {w0 w3 w4:XY}{B n:XP}{K:XL XP}{v0 v1 r1 r2 r3:XZ}{X1 X2 X3:XL KL}
theorem LX.later(h:LX w0 w B n tg D K v0 v1 r1 r2 r3 X1 X2 X3)(k:X0 w w w'):LX w0 w' B n tg D K v0 v1 r1 r2 r3 X1 X2 X3 :=
 ⟨h.ds.later k,h.bk.later k,h.len,eQ h.xo k,eQ h.yo k,h.tb,h.tk,h.tx,h.ty,h.d3,h.bl.trans (k.mono h.bl.size),h.lo,h.qj⟩
theorem LW.later(h:LW w0 w B n)(k:X0 w w w'):LW w0 w' B n:=by
 let⟨tg,D,K,v0,v1,r1,r2,r3,X1,X2,X3,h⟩:=h;exact⟨tg,D,K,v0,v1,r1,r2,r3,X1,X2,X3,h.later k⟩
theorem LW.more{m:M}(h:LW w0 w B n)(k:n<=m):LW w0 w B m:=by
 let⟨tg,D,K,v0,v1,r1,r2,r3,X1,X2,X3,h⟩:=h;exact⟨tg,D,K,v0,v1,r1,r2,r3,X1,X2,X3,⟨h.ds,h.bk,Yk h.len k,h.xo,h.yo,h.tb,h.tk,h.tx,h.ty,h.d3,h.bl,h.lo,h.qj⟩⟩
theorem Gp{α β:Type}(f:α->β){l:J α}{i:M}{a b:α}(h:l[i]?=U a)(e:f b=f a):(l.set i b).map f=l.map f:=by
 rw[List.map_set,e];obtain⟨r,rfl⟩:=List.getElem?_eq_some_iff.1 h;apply List.ext_getElem?;intro j;rw[List.getElem?_set]
 by_cases q:i=j
 .subst q;simp[r]
 .rw[XR q]
theorem Below.jU{a:M}(h:aH G w w')(r:a<=w)(j:∀ b∈G,a<=b):X0 a w w':=⟨h.os,h.tape,h.output,h.size,fun b q=>h.block b O fun f=>by have:=j b f;omega⟩
theorem LX.both(h:LX w0 w B n tg D K v0 v1 r1 r2 r3 X1 X2 X3)(I:D[i]?=U k){q:St × bI}{e:Ending}(P:nf w k.p k.d k.aN q v w1)(Q:qi w1 k.dd k.F k.xs q e w2):
  ∃ (E:Dk) (tg':M->Tg),LX w0 w2 B n tg' (D.set i E) K v0 v1 r1 r2 r3 X1 X2 X3/\∃ (u1 u2 u3 u4:XZ) (l:J (aO × XZ)),v=bJ q.2.err q.2.at_ q.2.n u1 u2 u3 u4/\l.map (·.1)=q.2.entries/\iO w2 K (cC B r1 r2 r3) u1 u2 u3 u4 l q.2.days q.2.granted q.2.ended/\∀ b∈kC u1 u2 u3 u4 l,tg' b=.no/\w0<=b:=by
 obtain⟨E,tg',d',e1,e2,_,t1,t2,⟨G,y,hG⟩,u1,u2,u3,u4,l,hv,hl,j,H⟩:=h.ds.both I P Q
 have f:∀ {b t},tg b=t->t≠.no->(∀ i,t≠.pr i)->(∀ i,t≠.dc i)->b ∉ G/\tg' b=t:=fun {b t} r h2 h3 h4=>by
  refine⟨fun hx=>?_,(t1 b (by rw[r];exact h2)).trans r⟩;rcases hG b hx with e|e|e
  .exact h3 _ (r.symm.trans e)
  .exact h4 _ (r.symm.trans e)
  .have:=h.ds.lt b (by rw[r];exact h2);omega
 have C:∀ b∈cC B r1 r2 r3,b ∉ G/\tg' b=.bk:=fun b a=>f (h.tb b a) XA XA XA
 have A:∀ b∈K,b ∉ G/\tg' b=.kp:=fun b a=>f (h.tk b a) XA XA XA
 have kx:∀ b,v0.ownBlock=U b->b ∉ G/\tg' b=.xs:=fun b a=>f (h.tx b a) XA XA XA
 have T:∀ b,v1.ownBlock=U b->b ∉ G/\tg' b=.ys:=fun b a=>f (h.ty b a) XA XA XA
 have R:=h.bl.size
 have G0:∀ b∈G,w0<=b:=fun b a=>by
  rcases hG b a with e|e|e
  .exact h.lo b (by rw[e];simp)
  .exact h.lo b (by rw[e];simp)
  .omega
 refine⟨E,tg',⟨d',h.bk.off y (fun b a=>(C b a).1) (fun b a=>(A b a).1),h.len,?_,?_,fun b a=>(C b a).2,fun b a=>(A b a).2,fun b a=>(kx b a).2,fun b a=>(T b a).2,by simpa using h.d3,h.bl.trans (Below.jU y R G0),fun b a=>?_,h.qj⟩,u1,u2,u3,u4,l,hv,hl,?_,fun b a=>⟨(H b a).1,by have:=(H b a).2;omega⟩⟩
 .rw[Zx,Gp (fun k:Dk=>X8 (U ⟨k.p,0,Z⟩)) I (by rw[e1])];exact cV h.xo y fun b a=>(kx b a).1
 .rw[Zx,Gp (fun k:Dk=>X8 (U ⟨k.dd,0,Z⟩)) I (by rw[e2])];exact cV h.yo y fun b a=>(T b a).1
 .rcases t2 b a with e|e
  .exact h.lo b e
  .omega
 .refine⟨j.en,j.sp,j.da,j.gr,j.ed,j.pw,j.dg,j.ge,fun b a=>?_⟩
  have S:b∈kC u1 u2 u3 u4 l:=by
   simp only[kC,Yv,ZL];rcases a with a|a|a|a|⟨p,hp,a⟩
   .exact .inl (.inl (.inl (.inr a)))
   .exact .inl (.inl (.inr a))
   .exact .inl (.inr a)
   .exact .inr a
   .exact .inl (.inl (.inl (.inl (List.mem_flatMap.2 ⟨p,hp,by simpa using a⟩))))
  have h0:=(H b S).1;refine⟨fun e=>?_,fun e=>?_⟩
  .have:=(A b e).2;rw[h0] at this;cases this
  .have:=(C b e).2;rw[h0] at this;cases this
open Classical in
theorem LX.kept(h:LX w0 w B n tg D K v0 v1 r1 r2 r3 X1 X2 X3){L:J M}{m:M}(hm:m<=n)(R:∀ b∈L,tg b=.no/\w0.heap.size<=b)(k:jk w B v0 v1 K r1 r2 r3 L m w4):LW w0 w4 B n:=by
 obtain⟨K',E,C,p3,Z1,Z2,Z3,j⟩:=k
 let A:M->Tg:=fun b=>if tg b≠.no then tg b else if b∈K' then .kp else if b∈cC B E C p3 then .bk else .no
 have r:∀ b,tg b≠.no->A b=tg b:=fun b a=>XS a
 have S:∀ b∈K',A b=.kp:=fun b a=>by
  by_cases e:tg b≠.no
  .rw[r b e];rcases j.kk b a with f|f|f
   .exact h.tk b f
   .exact (e (R b f).1).elim
   .have:=h.ds.lt b e;omega
  .show (if _ then _ else _)=_;rw[XR e,XS a]
 have T:∀ b∈cC B E C p3,A b=.bk:=fun b a=>by
  by_cases e:tg b≠.no
  .rw[r b e];rcases j.rr b a with f|f
   .exact h.tb b f
   .have:=h.ds.lt b e;omega
  .show (if _ then _ else _)=_;rw[XR e,XR ?_,XS a];intro hk;have P:=a;simp only[cC,Yu,Yv,ZL] at P;have q:=j.bk.br.kb b hk;rcases P with rfl|f|f|f
   .exact j.bk.bK hk
   .exact q.2.1 f
   .exact q.2.2.1 f
   .exact q.2.2.2 f
 have G0:∀ b∈L++cC B r1 r2 r3,w0.heap.size<=b:=fun b a=>by
  rcases Yv.1 a with a|a
  .exact (R b a).2
  .exact h.lo b (by rw[h.tb b a];simp)
 have ac:=h.ds.env.size;have aa:=h.bl.size
 have GT:∀ b∈L++cC B r1 r2 r3,tg b=.no\/tg b=.bk:=fun b a=>by
  rcases Yv.1 a with a|a
  .exact .inl (R b a).1
  .exact .inr (h.tb b a)
 have ab:∀ b∈L++cC B r1 r2 r3,10<=b:=fun b a=>by
  have h1:=G0 b a;have h2:=h.qj;omega
 have kx:∀ b,v0.ownBlock=U b->b ∉ L++cC B r1 r2 r3:=fun b a hx=>by
  have:=h.tx b a;rcases GT b hx with e|e <;> rw[this] at e <;> cases e
 have ky:∀ b,v1.ownBlock=U b->b ∉ L++cC B r1 r2 r3:=fun b a hx=>by
  have:=h.ty b a;rcases GT b hx with e|e <;> rw[this] at e <;> cases e
 have H:∀ b,A b≠.no->tg b≠.no\/b∈K'\/b∈cC B E C p3:=fun b a=>by
  have y:(if tg b≠.no then tg b else if b∈K' then Tg.kp else if b∈cC B E C p3 then Tg.bk else Tg.no)≠.no:=a
  by_cases e:tg b≠.no
  .exact .inl e
  .rw[XR e] at y
   by_cases f:b∈K'
   .exact .inr (.inl f)
   .rw[XR f] at y
    by_cases e2:b∈cC B E C p3
    .exact .inr (.inr e2)
    .rw[XR e2] at y;exact (y rfl).elim
 have I:∀ b,A b≠.no->w0.heap.size<=b:=fun b a=>by
  rcases H b a with e|e|e
  .exact h.lo b e
  .rcases j.kk b e with e|e|e
   .exact h.lo b (by rw[h.tk b e];simp)
   .exact (R b e).2
   .omega
  .rcases j.rr b e with e|e
   .exact h.lo b (by rw[h.tb b e];simp)
   .omega
 refine⟨A,D,K',v0,v1,E,C,p3,Z1,Z2,Z3,⟨h.ds.off j.off (fun b a=>⟨fun i=>?_,ab b a⟩) r (fun b a=>?_) (fun b a=>?_),j.bk,by rw[j.len];exact hm,cV h.xo j.off kx,cV h.yo j.off ky,T,S,fun b a=>(r b (by rw[h.tx b a];simp)).trans (h.tx b a),fun b a=>(r b (by rw[h.ty b a];simp)).trans (h.ty b a),h.d3,h.bl.trans (Below.jU j.off aa G0),I,h.qj⟩⟩
 .rcases GT b a with e|e <;> rw[e] <;> simp
 .rcases H b a with e|e|e
  .exact zL (h.ds.lt b e) j.off.size
  .exact (j.bk.br.kb b e).1
  .exact j.bk.lt b e
 .rcases Classical.em (A b=.no) with e|e
  .exact e
  .have h1:=I b e;have h2:=h.qj;omega
end
theorem yG{q:Array Oper}{rest:J Oper}{o:Oper}{a:Act}{Q:Exit->Act->XY->Prop}(I:o.guard=Z)(x y:Operand)(t:X6)(ho:o.op=.call { callee:=.builtin .append,args:=#[x,y],argTypes:=#[t,t] })
  {B e:M}{i:TypeInfo}{z:XZ}(size f:M) (ht:prog.underlying t=U (.slice e)) (hi:prog.info? e=U i) (S:i.zero=U z) (j:i.size=size) (P:i.bytes=f) (A:f<=104) (C:z.cells.size=size) (H:0<size)
  {v:XZ}{n:M}{xs:J XZ}(r:W.ownsRow B e size v n xs) {cs:Array XZ}{R:X6}{mk:M × M}(aa:cs.toList.length=size) (E:∀ u∈cs.toList,u.oneCell'=XX) (hs:a.eval x=v) (T:a.eval y=X9 W 1 1) (hl:n<=2000000) (hB:B<=W)
  (h:∀ g cap w',w'.ownsRow B e size (X9 g (n+1) cap) (n+1) (xs++cs.toList)->aH v.ownBlock.toList W w'->(v.ownBlock=U g\/W<=g)->wpList prog q Q rest (a.put o.dst (X9 g (n+1) cap)) w'):
  wpList prog q Q (o :: rest) a (W.alloc (Yh cs R mk)):=by
 refine wpList_append_lies _ I x y t ho B e i z size f ht hi S j P C H v n xs hs (r.alloc _) (W,0) 1 1 cs.toList T O (ZF (cs:=cs) (cP W _)) E O XH (Yk (Nat.mul_le_mul (show n+1<=2000001 by omega) A) XC) XG (W.heap.size+1) XA ?_;intro g cap w' h1 h2 h3 _;exact h g cap w' h1 (((aH.refl _ W).alloc _).grown h2 (fun k hk=>.inl (by simp[hk]))) (h3.imp id (fun e=>by omega))
def zD:Obj:=Yh #[(),(),V Y 0,V Y 0] 105
theorem DD.zero(h:w.heap[Q]?=U zD):DD w Q iz [] [Q]:=by
 have j:=(Array.getElem?_eq_some_iff.1 h).1;have c:∀ (i:M) {v:XZ},#[X9 Z 0 0,(),V Y 0,V Y 0][i]?=U v->w.cell? (Q,i)=U v:=fun i _ f=>bG h i f
 refine⟨⟨⟨_,c 0 rfl,ZD _ _ _ _,fun k a=>by cases a⟩,⟨_,c 1 rfl,ZD _ _ _ _,fun k a=>by cases a⟩,c 2 rfl,c 3 rfl,fun o=>by simp[Ym,h,zD],by simp,by simp⟩,rfl,fun k a=>by simp at a;omega,by simp[iz],by simp[iz],by simp[iz]⟩
section
variable {w0 w w1 w2 w3 w5:XY}{B n:XP}{tg:XP->Tg}{D:XL Dk}{K:XL XP}{v0 v1 r1 r2 r3 v0' v1':XZ}{X1 X2 X3:XL KL}
theorem BK.bD(h:BK w B v0 v1 K r1 r2 r3 X1 X2 X3)(v:XZ):BK (w.setCell (B,0) v) B v v1 K r1 r2 r3 X1 X2 X3:=by
 have j:aH [B] w (w.setCell (B,0) v):=aH.bD ..
 have f:∀ {t:M}{r:XZ}{n:M}{xs:J XZ},w.ownsRow 0 t 5 r n xs->86≠t->∀ b,r.ownBlock=U b->b ∉ [B]:=fun q ht b a e=>by
  rw[List.mem_singleton.1 e] at a;exact ja q h.hb ht a
 exact⟨by rw[mc h.hb];rfl,h.br.off j (f h.br.b1.own XC) (f h.br.b2.own XC) (f h.br.b3.own XC) (fun b a e=>h.bK (List.mem_singleton.1 e ▸ a)),h.bK⟩
theorem BK.oC(h:BK w B v0 v1 K r1 r2 r3 X1 X2 X3)(v:XZ):BK (w.setCell (B,1) v) B v0 v K r1 r2 r3 X1 X2 X3:=by
 have j:aH [B] w (w.setCell (B,1) v):=aH.bD ..
 have f:∀ {t:M}{r:XZ}{n:M}{xs:J XZ},w.ownsRow 0 t 5 r n xs->86≠t->∀ b,r.ownBlock=U b->b ∉ [B]:=fun q ht b a e=>by
  rw[List.mem_singleton.1 e] at a;exact ja q h.hb ht a
 exact⟨by rw[mc h.hb];rfl,h.br.off j (f h.br.b1.own XC) (f h.br.b2.own XC) (f h.br.b3.own XC) (fun b a e=>h.bK (List.mem_singleton.1 e ▸ a)),h.bK⟩
theorem LX.xB(h:LX w0 w B n tg D K v0 v1 r1 r2 r3 X1 X2 X3):∀ b,v0.ownBlock=U b->b ∉ cC B r1 r2 r3/\b ∉ K/\v1.ownBlock≠U b/\b≠B:=fun b a=>by
 have ht:=h.tx b a;refine⟨fun e=>?_,fun e=>?_,fun e=>?_,fun e=>?_⟩
 .have:=h.tb b e;rw[ht] at this;cases this
 .have:=h.tk b e;rw[ht] at this;cases this
 .have:=h.ty b e;rw[ht] at this;cases this
 .have:=h.tb b (by rw[e];simp[cC]);rw[ht] at this;cases this
theorem LX.yB(h:LX w0 w B n tg D K v0 v1 r1 r2 r3 X1 X2 X3):∀ b,v1.ownBlock=U b->b ∉ cC B r1 r2 r3/\b ∉ K/\v0.ownBlock≠U b/\b≠B:=fun b a=>by
 have ht:=h.ty b a;refine⟨fun e=>?_,fun e=>?_,fun e=>?_,fun e=>?_⟩
 .have:=h.tb b e;rw[ht] at this;cases this
 .have:=h.tk b e;rw[ht] at this;cases this
 .have:=h.tx b e;rw[ht] at this;cases this
 .have:=h.tb b (by rw[e];simp[cC]);rw[ht] at this;cases this
theorem LX.bt(h:LX w0 w B n tg D K v0 v1 r1 r2 r3 X1 X2 X3):tg B=.bk/\B<w:=⟨h.tb B (by simp[cC]),h.bk.lt B (by simp[cC])⟩
open Classical in
theorem LX.begin(h:LX w0 w B n tg D K v0 v1 r1 r2 r3 X1 X2 X3)(hD:D.length<3){d:M}(bd:BD w1 p d iz ob aN)(k1:X0 w.heap.size w w1)(hc:∀ b,b<w.heap.size->aN b=Z)(hp:w.heap.size<=p)
  (k2:aH v0.ownBlock.toList w1 w2) (o2:w2.ownsRow 0 30 1 v0' (D.length+1) ((D.map fun k=>X8 (U ⟨k.p,0,Z⟩))++[X8 (U ⟨p,0,Z⟩)])) (a2:∀ b,v0'.ownBlock=U b->v0.ownBlock=U b\/w1.heap.size<=b)
  (T:w3=w2.setCell ⟨B,0,Z⟩ v0') (k5:aH v1.ownBlock.toList (w3.alloc zD) w5) (o5:w5.ownsRow 0 102 1 v1' (D.length+1) ((D.map fun k=>X8 (U ⟨k.dd,0,Z⟩))++[X8 (U ⟨w3.heap.size,0,Z⟩)])) (a5:∀ b,v1'.ownBlock=U b->v1.ownBlock=U b\/(w3.alloc zD).heap.size<=b):
  LW w0 (w5.setCell ⟨B,1,Z⟩ v1') B n:=by
 obtain⟨tB,lB⟩:=h.bt;have s1:=k1.size;have s2:=k2.size;have af:aH [B] w2 w3:=by rw[T];exact aH.bD ..
 have s3:w3.heap.size=w2.heap.size:=by rw[T];simp[World.setCell]
 have k4:X0 w3.heap.size w3 (w3.alloc zD):=(zr _ _).alloc (zq _) _;have s4:(w3.alloc zD).heap.size=w3.heap.size+1:=XA
 have s5:=k5.size;have C:aH [B] w5 (w5.setCell ⟨B,1,Z⟩ v1'):=aH.bD ..;have s6:=C.size;have ab:∀ b,v0.ownBlock=U b->b<w.heap.size:=fun b a=>h.ds.lt b (by rw[h.tx b a];simp)
 have H:∀ b,v1.ownBlock=U b->b<w.heap.size:=fun b a=>h.ds.lt b (by rw[h.ty b a];simp)
 have an:p<w1.heap.size:=(Array.getElem?_eq_some_iff.1 bd.pc).1
 have P:∀ b c,aN b=U c->w.heap.size<=b/\b<w1.heap.size:=fun b c a=>by
  refine⟨?_,?_⟩
  .rcases Nat.lt_or_ge b w.heap.size with e|e
   .rw[hc b e] at a;cases a
   .exact e
  .rcases Nat.lt_or_ge b w1.heap.size with e|e
   .exact e
   .rw[bd.ds.dk.none e] at a;cases a
 have r:∀ b,v0'.ownBlock=U b->b<w2.heap.size:=fun b a=>fe o2 a
 have aa:∀ b,v1'.ownBlock=U b->b<w5.heap.size:=fun b a=>fe o5 a
 -- all that changes
 have kA:aH (B :: (v0.ownBlock.toList++v1.ownBlock.toList)) w1 (w5.setCell ⟨B,1,Z⟩ v1'):=by
  refine ((((k2.mono fun x f=>?_).trans (af.mono fun x f=>?_)).trans (aH.aD k4)).trans (k5.mono fun x f=>?_)).trans (C.mono fun x f=>?_)
  .exact ZK _ (List.mem_append_left _ f)
  .rw[List.mem_singleton.1 f];exact List.mem_cons_self ..
  .exact ZK _ (List.mem_append_right _ f)
  .rw[List.mem_singleton.1 f];exact List.mem_cons_self ..
 have kW:=(aH.aD (F:=B :: (v0.ownBlock.toList++v1.ownBlock.toList)) k1).trans kA
 have GT:∀ b∈B :: (v0.ownBlock.toList++v1.ownBlock.toList),(tg b=.bk\/tg b=.xs\/tg b=.ys)/\b<w.heap.size:=fun b a=>by
  simp only[Yu,Yv,ZL] at a;rcases a with rfl|a|a
  .exact⟨.inl tB,lB⟩
  .exact⟨.inr (.inl (h.tx b a)),ab b a⟩
  .exact⟨.inr (.inr (h.ty b a)),H b a⟩
 have GN:∀ b∈B :: (v0.ownBlock.toList++v1.ownBlock.toList),tg b≠.no:=fun b a=>by
  rcases (GT b a).1 with e|e|e <;> rw[e] <;> simp
 have av:∀ b∈B :: (v0.ownBlock.toList++v1.ownBlock.toList),10<=b:=fun b a=>by
  rcases Nat.lt_or_ge b 10 with e|e
  .exact (GN b a (h.ds.gl b e)).elim
  .exact e
 let A:M->Tg:=fun b=>if tg b≠.no then tg b else if b=w3.heap.size then .dc D.length else if v0'.ownBlock=U b then .xs else if v1'.ownBlock=U b then .ys else if aN b≠Z\/b=p then .pr D.length else .no
 have y:∀ b,tg b≠.no->A b=tg b:=fun b a=>XS a
 have I:∀ b,w.heap.size<=b->¬ tg b≠.no:=fun b a e=>by have:=h.ds.lt b e;omega
 have al:A w3.heap.size=.dc D.length:=by
  show (if _ then _ else _)=_;rw[XR (I _ O),XS rfl]
 have ak:∀ b,v0'.ownBlock=U b->A b=.xs:=fun b a=>by
  rcases a2 b a with e|e
  .rw[y b (by rw[h.tx b e];simp),h.tx b e]
  .show (if _ then _ else _)=_;rw[XR (I _ O),XR (by have:=r b a;omega),XS a]
 have aj:∀ b,v1'.ownBlock=U b->A b=.ys:=fun b a=>by
  rcases a5 b a with e|e
  .rw[y b (by rw[h.ty b e];simp),h.ty b e]
  .show (if _ then _ else _)=_;rw[XR (I _ O),XR O,XR (fun f=>by have:=r b f;omega),XS a]
 have ac:∀ b,w.heap.size<=b->b<w1.heap.size->(aN b≠Z\/b=p)->A b=.pr D.length:=fun b h1 h2 a=>by
  show (if _ then _ else _)=_;rw[XR (I _ h1),XR O,XR (fun f=>?_),XR (fun f=>?_),XS a]
  .rcases a5 b f with e|e
   .have:=H b e;omega
   .omega
  .rcases a2 b f with e|e
   .have:=ab b e;omega
   .omega
 have ad:∀ b,A b≠.no->(tg b≠.no\/w.heap.size<=b)/\b<(w5.setCell ⟨B,1,Z⟩ v1').heap.size:=fun b a=>by
  have j:(if tg b≠.no then tg b else if b=w3.heap.size then Tg.dc D.length else if v0'.ownBlock=U b then Tg.xs else if v1'.ownBlock=U b then Tg.ys else if aN b≠Z\/b=p then Tg.pr D.length else Tg.no)≠.no:=a
  by_cases e:tg b≠.no
  .exact⟨.inl e,by have:=h.ds.lt b e;omega⟩
  rw[XR e] at j
  by_cases e1:b=w3.heap.size
  .exact⟨.inr O,by omega⟩
  rw[XR e1] at j
  by_cases e2:v0'.ownBlock=U b
  .refine⟨?_,by have:=r b e2;omega⟩;rcases a2 b e2 with q|q
   .exact .inl (by rw[h.tx b q];simp)
   .exact .inr O
  rw[XR e2] at j
  by_cases T:v1'.ownBlock=U b
  .refine⟨?_,by have:=aa b T;omega⟩;rcases a5 b T with q|q
   .exact .inl (by rw[h.ty b q];simp)
   .exact .inr O
  rw[XR T] at j
  by_cases e4:aN b≠Z\/b=p
  .rcases e4 with q|q
   .cases S:aN b with
    |none=>exact (q S).elim
    |some c=>exact⟨.inr (P b c S).1,by have:=(P b c S).2;omega⟩
   .exact⟨.inr O,by omega⟩
  .rw[XR e4] at j;exact (j rfl).elim
 have ao:=h.bl.size
 have ae:∀ b,A b≠.no->w0.heap.size<=b:=fun b a=>by
  rcases (ad b a).1 with e|e
  .exact h.lo b e
  .omega
 have ar:∀ b,b<10->A b=.no:=fun b a=>by
  rcases Classical.em (A b=.no) with e|e
  .exact e
  .have h1:=ae b e;have h2:=h.qj;omega
 have E:nH (w5.setCell ⟨B,1,Z⟩ v1') A D:=h.ds.off kW (fun b a=>⟨fun i=>by rcases (GT b a).1 with e|e|e <;> rw[e] <;> simp,av b a⟩) y (fun b a=>(ad b a).2) ar;have au:BD (w5.setCell ⟨B,1,Z⟩ v1') p d iz ob aN:=bd.off kA (fun b a=>⟨hc b (GT b a).2,by have:=(GT b a).2;omega⟩) E.env;have aq:w5.heap[w3.heap.size]?=U zD:=(k5.block _ O (fun e=>by have:=H _ (ZL.1 e);omega)).trans (cP w3 _);have hQ:(w5.setCell ⟨B,1,Z⟩ v1').heap[w3.heap.size]?=U zD:=(C.block _ O (fun e=>by have:=List.mem_singleton.1 e;omega)).trans aq;have b2:BK w2 B v0 v1 K r1 r2 r3 X1 X2 X3:=(h.bk.later k1).off k2 (fun b a e=>(h.xB b (ZL.1 e)).1 a) (fun b a e=>(h.xB b (ZL.1 e)).2.1 a);have b3:BK w3 B v0' v1 K r1 r2 r3 X1 X2 X3:=by rw[T];exact b2.bD v0'
 have b5:BK w5 B v0' v1 K r1 r2 r3 X1 X2 X3:=(b3.later k4).off k5 (fun b a e=>(h.yB b (ZL.1 e)).1 a) (fun b a e=>(h.yB b (ZL.1 e)).2.1 a)
 have nx:∀ b,v0'.ownBlock=U b->b≠B/\v1.ownBlock≠U b:=fun b a=>by
  rcases a2 b a with e|e
  .exact⟨(h.xB b e).2.2.2,(h.xB b e).2.2.1⟩
  .exact⟨by omega,fun e1=>by have:=H b e1;omega⟩
 have ny:∀ b,v1'.ownBlock=U b->b≠B:=fun b a=>by
  rcases a5 b a with e|e
  .exact (h.yB b e).2.2.2
  .omega
 have ai:(w5.setCell ⟨B,1,Z⟩ v1').ownsRow 0 30 1 v0' (D.length+1) ((D.map fun k=>X8 (U ⟨k.p,0,Z⟩))++[X8 (U ⟨p,0,Z⟩)]) :=
  cV (cV (eQ (cV o2 af fun b a e=>(nx b a).1 (List.mem_singleton.1 e)) k4) k5 fun b a e=>(nx b a).2 (ZL.1 e)) C fun b a e=>(nx b a).1 (List.mem_singleton.1 e)
 have ag:(w5.setCell ⟨B,1,Z⟩ v1').ownsRow 0 102 1 v1' (D.length+1) ((D.map fun k=>X8 (U ⟨k.dd,0,Z⟩))++[X8 (U ⟨w3.heap.size,0,Z⟩)]) :=
  cV o5 C fun b a e=>ny b a (List.mem_singleton.1 e)
 refine⟨A,D++[⟨p,d,iz,ob,aN,w3.heap.size,[],[w3.heap.size]⟩],K,v0',v1',r1,r2,r3,X1,X2,X3,⟨⟨fun i k R=>?_,E.env,E.lt,E.gl⟩,b5.oC v1',h.len,by simpa using ai,by simpa using ag,fun b a=>(y b (by rw[h.tb b a];simp)).trans (h.tb b a),fun b a=>(y b (by rw[h.tk b a];simp)).trans (h.tk b a),ak,aj,by simp;omega,h.bl.trans (Below.jU kW ao fun b a=>h.lo b (GN b a)),ae,h.qj⟩⟩;rcases Nat.lt_or_ge i D.length with e|e
 .rw[Zn e] at R;exact E.at_ i k R
 .rw[Zt e] at R
  have hi:i-D.length=0:=by
   rcases Nat.eq_zero_or_pos (i-D.length) with q|q
   .exact q
   .rw[List.getElem?_eq_none XG] at R;cases R
  rw[hi] at R;have:i=D.length:=O
  subst this;simp only[List.getElem?_cons_zero,Option.some.injEq] at R;subst R;exact⟨au,DD.zero hQ,ac p hp an (.inr rfl),fun b c a=>ac b (P b c a).1 (P b c a).2 (.inl (fun e=>by rw[show aN b=U c from a] at e;cases e)),fun b a=>by rw[List.mem_singleton.1 a];exact al,fun x f=>by cases f⟩
theorem Nr:(prog.info? 30).map (fun i=>(i.zero,i.size,i.bytes))=U (U (X8 Z),1,8):=XF
theorem Ns:(prog.info? 102).map (fun i=>(i.zero,i.size,i.bytes))=U (U (X8 Z),1,8):=XF
theorem Hr(h:LW w0 w B n):X4 prog 40 #[B] w fun e w'=>e=Yg XX/\LW w0 w' B n:=by
 obtain⟨i0,ak,ag,af,ae⟩:=info_parts Nr;obtain⟨j0,aj,ad,ac,ab⟩:=info_parts Ns;obtain⟨tg,D,K,v0,v1,r1,r2,r3,X1,X2,X3,P⟩:=h;have NE:=aC (Pp w P.ds.env);obtain⟨a0,c0,rfl⟩:=gj P.xo;obtain⟨H,E,rfl⟩:=gj P.yo;have r:=aC P;clear P
 go_in
 go_upto_region 4 with (first|(go_at_call 44;refine NE.mono ?_;rintro e w1 ⟨p,d,aN,rfl,bd,k1,hc,hp⟩;have y:=aC (Yz bd (Yz k1 (Yz hc hp)));clear bd k1 hc hp))
 obtain⟨x0,x1,_,_,_,fz⟩:=(r.bk.later y.2.1).cells
 by_cases hD:D.length<3
 .have al:(D.length:N)<3:=O
  have XO:=aC (eQ r.xo y.2.1);have f0:=fz 0;have a:Hid (B ∉ (X9 a0 D.length c0).ownBlock.toList):=fun e=>(r.xB B (ZL.1 e)).2.2.2 rfl
  have R:Hid (B ∉ (X9 H D.length E).ownBlock.toList):=fun e=>(r.yB B (ZL.1 e)).2.2.2 rfl
  have LB:Hid (B<w1):=Yl _ _ x0
  go_upto_region 6 with (first|(at_builtin;go_loud (refine yG rfl _ _ 78 rfl 1 8 underlying78 ak ag af ae XC rfl XC XO (cs:=#[p]) rfl XI rfl rfl O (zN _) ?_);intro f j w2 o2 C a2;have y0:=C.cell a.out x0;have z0:=(C.frozen a.out LB).trans f0;have y1:=C.cell a.out x1;have z1:=(C.frozen (o:=1) a.out LB).trans (fz 1)))
  have S:=aC (Yz C (Yz o2 a2))
  have q1:(w2.setCell (B,0) (X9 f (D.length+1) j)).cell? (B,1)=U (X9 H D.length E):=by
   rw[World.cell?_setCell_other _ _ _ _ XA];exact y1
  have z3:(w2.setCell (B,0) (X9 f (D.length+1) j)).frozen? (B,1)=XW:=by
   rw[World.frozen?_setCell];exact z1
  clear C o2 a2 x0 x1 y0 y1 z0 z1 f0;have ai:Hid (∃ w3,w3=w2.setCell (B,0) (X9 f (D.length+1) j)):=⟨_,rfl⟩
  have YO:Hid (((w2.setCell (B,0) (X9 f (D.length+1) j)).alloc zD).ownsRow 0 102 1 (X9 H D.length E) D.length (D.map fun k=>X8 (U ⟨k.dd,0,Z⟩))) :=
   (cV (cV (eQ r.yo y.2.1) S.1 fun b q e=>(r.yB b q).2.2.1 (ZL.1 e)) (aH.bD B w2 0 _) fun b q e=>(r.yB b q).2.2.2 (List.mem_singleton.1 e)).alloc _
  have T:Hid (∀ v1' w5,aH (X9 H D.length E).ownBlock.toList ((w2.setCell (B,0) (X9 f (D.length+1) j)).alloc zD) w5->w5.ownsRow 0 102 1 v1' (D.length+1) ((D.map fun k=>X8 (U ⟨k.dd,0,Z⟩))++[X8 (U ⟨(w2.setCell (B,0) (X9 f (D.length+1) j)).heap.size,0,Z⟩)])->(∀ b,v1'.ownBlock=U b->(X9 H D.length E).ownBlock=U b\/((w2.setCell (B,0) (X9 f (D.length+1) j)).alloc zD).heap.size<=b)->LW w0 (w5.setCell (B,1) v1') B n):=fun v1' w5 A o5 a5 =>
   r.begin hD y.1 y.2.1 y.2.2.1 y.2.2.2 S.1 S.2.1 (fun b q=>by simp[ZB] at q;subst q;exact S.2.2) rfl A o5 a5
  clear ai;have I:((w2.setCell (B,0) (X9 f (D.length+1) j)).alloc zD).cell? (B,1)=U (X9 H D.length E):=aR bC q1
  have aa:((w2.setCell (B,0) (X9 f (D.length+1) j)).alloc zD).frozen? (B,1)=XW:=by
   have e:=((zr (w2.setCell (B,0) (X9 f (D.length+1) j)).heap.size _).alloc aI zD).block B (Yl _ _ q1);simp only[Ym,e] at z3 ⊢;exact z3
  generalize w2.setCell (B,0) (X9 f (D.length+1) j)=w3 at *;clear S XO y NE LB a fz;have an:Hid (B<(w3.alloc zD).heap.size):=Yl _ _ I
  go_upto_region 7 with (first|(at_builtin;go_loud (refine yG (W:=w3.alloc zD) rfl _ _ 79 rfl 1 8 underlying79 aj ad ac ab XC rfl XC YO (cs:=#[w3]) rfl XI rfl (by simp[Act.eval]) O (zN _) ?_);intro g5 c5 w5 o5 A a5;have y1:=A.cell R.out I;have z1:=(A.frozen R.out an.out).trans aa))
  have HF:=aC (T _ _ A o5 (fun b q=>by simp[ZB] at q;subst q;exact a5));clear A o5 a5 y1 z1 T YO
  go_wp21
  go_ret;exact⟨rfl,HF⟩
 .have al:¬ (D.length:N)<3:=O
  go_wp21
  go_ret;exact⟨rfl,_,_,_,_,_,_,_,_,_,_,_,r.later y.2.1⟩
end
variable {w w1 w2:XY}{B:XP}{v0 v1 r1 r2 r3:XZ}{K:XL XP}{X1 X2 X3:XL KL}
theorem Nh{X:J KL}{k:M}(f:k<X.length)(o:M)(h:o<5):(X.flatMap gh)[k*5+o]?=(gh X[k])[o]?:=by
 induction X generalizing k with
 |nil=>simp at f
 |cons a r ih =>
  cases k with
  |zero=>rw[Zp,Zy,Nat.zero_add,Zn (by simpa[gh] using h)];rfl
  |succ k =>
   have:=ih (k:=k) (by simpa using f);rw[Zp,Zt (by simp[gh];omega)];simp only[gh,Y0,Y7,List.getElem_cons_succ] at this ⊢;rw[<- this]
   congr 1
   omega
theorem mI.look{P:N->J XZ}{t:X6}{r:XZ}{X:J KL}(h:mI P t K w r X){k:M}(hk:k<X.length):∃ (g cap:M)(R I H E:XM Addr)(j A q f a:M)(m:N),r=X9 g X.length cap/\w.cell? (g,k*5)=U (X9 R j A)/\w.cell? (g,k*5+1)=U (X9 I (j+1) q)/\w.cell? (g,k*5+2)=U (X9 H (j+2) f)/\w.cell? (g,k*5+3)=U (X9 E (j+3) a)/\w.cell? (g,k*5+4)=U ↑m /\
  j<=900000/\Fu (P m) w (X9 R j A) j/\Fu (P m) w (X9 I (j+1) q) (j+1)/\Fu (P m) w (X9 H (j+2) f) (j+2)/\Fu (P m) w (X9 E (j+3) a) (j+3):=by
 obtain⟨j,hj,f1,f2,f3,f4⟩:=h.four _ (zg hk);obtain⟨R,A,e1⟩:=f1.form;obtain⟨I,q,e2⟩:=f2.form;obtain⟨H,f,e3⟩:=f3.form;obtain⟨E,a,e4⟩:=f4.form
 have c:∀ o v,o<5->(gh X[k])[o]?=U v->∃ g cap,r=X9 (U ⟨g,0,Z⟩) X.length cap/\w.cell? ⟨g,k*5+o,Z⟩=U v:=fun o v ho T=>by
  have hc:=(Nh hk o ho).trans T;rcases h.own.2 with ⟨rfl,hn⟩|⟨g,cap,ab,rfl,_,hh,_⟩
  .omega
  .exact⟨g,cap,rfl,(wb g (k*5+o)) ▸ h.own.cells (g:=g) rfl _ v hc⟩
 obtain⟨g,cap,rfl,S⟩:=c 0 _ XC rfl
 have C:∀ o v,o<5->(gh X[k])[o]?=U v->w.cell? ⟨g,k*5+o,Z⟩=U v:=fun o v ho T=>by
  obtain⟨g',aa,e,y⟩:=c o v ho T;simp only[Value.slice.injEq,Option.some.injEq,Addr.mk.injEq,and_true,true_and] at e;obtain⟨rfl,rfl⟩:=e;exact y
 have y1:=C 1 _ XC rfl;have y2:=C 2 _ XC rfl;have y3:=C 3 _ XC rfl;have y4:=C 4 _ XC rfl;rw[Nat.add_zero] at S;rw[e1] at S f1;rw[e2] at y1 f2;rw[e3] at y2 f3;rw[e4] at y3 f4;exact⟨g,cap,R,I,H,E,j,A,q,f,a,_,rfl,S,y1,y2,y3,y4,hj,f1,f2,f3,f4⟩
def oe(t:X6)(a b c d e:XZ):Obj:=Yh #[a,b,c,d,e] t
theorem OL(h:BK w B v0 v1 K r1 r2 r3 X1 X2 X3)(hm:X1.length+X2.length+X3.length<=1000000000):
  X4 prog 42 #[X8 (U ⟨B,2,Z⟩)] w fun e w'=>e=Yg XX/\X0 w w w':=by
 have HB:=aC h;obtain⟨⟨p1,s1,e1⟩,⟨p2,s2,e2⟩,p3,s3,e3⟩:=h.lu;subst e1 e2 e3;clear h
 go_in
 go_wp21
 have ad:Hid (X0 w w w):=zr _ _
 go_loopw [3] (fun v wr=>∃ k:M,k<=X1.length/\v=V Y k/\X0 w w wr) (fun v _=>X1.length-(intOf v).toNat)
 .exact⟨0,Zd _,rfl,ad⟩
 .obtain⟨k,hk,rfl,r⟩:=hrel;have HR:=aC r;have a:=HB.later r;obtain⟨_,_,d2,d3,d4,_⟩:=a.cells;clear r
  by_cases aa:k<X1.length
  .have q:(k:N)<(X1.length:N):=O
   obtain⟨g,cap,a1,T,S,R,j,P,I,H,E,m,e,y0,y1,y2,y3,y4,hj,f1,f2,f3,f4⟩:=a.br.b1.look aa;simp only[Value.slice.injEq,true_and] at e;obtain⟨rfl,rfl⟩:=e;have FF:=aC (fun W (A:X0 wr wr W)=>Yz (yW j m _ W (f1.later A).nv O) (Yz (yW (j+1) m _ W (f2.later A).nv O) (Yz (yW (j+2) m _ W (f3.later A).nv O) (yW (j+3) m _ W (f4.later A).nv O))));clear f1 f2 f3 f4 a
   go_upto_region 5 with fail
   change Code.wp _ _ _ _ (wr.alloc (oe tI (X9 a1 j P) (X9 T (j+1) I) (X9 S (j+2) H) (X9 R (j+3) E) (V Y m)));have f:=aC (Yz ((zr _ wr).alloc aI (oe tI (X9 a1 j P) (X9 T (j+1) I) (X9 S (j+2) H) (X9 R (j+3) E) (V Y m))) (cP wr (oe tI (X9 a1 j P) (X9 T (j+1) I) (X9 S (j+2) H) (X9 R (j+3) E) (V Y m))));generalize wr.alloc (oe tI (X9 a1 j P) (X9 T (j+1) I) (X9 S (j+2) H) (X9 R (j+3) E) (V Y m))=Z0 at f ⊢
   have CL:Hid (∀ W,X0 Z0 Z0 W->W.cell? (wr,0)=U (X9 a1 j P)/\W.cell? (wr,1)=U (X9 T (j+1) I)/\W.cell? (wr,2)=U (X9 S (j+2) H)/\W.cell? (wr,3)=U (X9 R (j+3) E)/\W.cell? (wr,4)=U (V Y m)):=fun W A=>by
    have C:=(A.block _ (Array.getElem?_eq_some_iff.1 f.2).1).trans f.2;exact⟨bG C 0 rfl,bG C 1 rfl,bG C 2 rfl,bG C 3 rfl,bG C 4 rfl⟩
   clear y0 y1 y2 y3 y4 d2 d3 d4;obtain⟨x0,_,_,_,y⟩:=CL _ fo
   go_upto_region 6 with (first|(go_at_call 56;refine (FF _ f.1).1.mono ?_;rintro e w1 ⟨rfl,h1⟩;have B1:=aC h1;clear h1))
   clear x0 y;obtain⟨_,x1,_,_,y⟩:=CL _ B1
   go_upto_region 7 with (first|(go_at_call 56;refine (FF _ (bM f.1 B1 aI)).2.1.mono ?_;rintro e w2 ⟨rfl,h2⟩;have B2:=aC (bM B1 h2 aI);clear h2))
   clear x1 y;obtain⟨_,_,x2,_,y⟩:=CL _ B2
   go_upto_region 8 with (first|(go_at_call 56;refine (FF _ (bM f.1 B2 aI)).2.2.1.mono ?_;rintro e w3 ⟨rfl,h3⟩;have B3:=aC (bM B2 h3 aI);clear h3))
   clear x2 y;obtain⟨_,_,_,x3,y⟩:=CL _ B3
   go_upto_region 9 with (first|(go_at_call 56;refine (FF _ (bM f.1 B3 aI)).2.2.2.mono ?_;rintro e w4 ⟨rfl,h4⟩;have B4:=aC (bM B3 h4 aI);clear h4))
   go_wp21
   go_roundw
   .exact⟨k+1,O,by go_num,bM HR (bM f.1 B4 aI) aI⟩
   .simp[intOf];omega
  .have q:¬ (k:N)<(X1.length:N):=O
   clear a
   go_wp21
   have ac:=aC HR;clear d2 d3 d4 aa q hk HR
   go_loopw [9] (fun v wr=>∃ k:M,k<=X2.length/\v=V Y k/\X0 w w wr) (fun v _=>X2.length-(intOf v).toNat)
   .exact⟨0,Zd _,rfl,ac⟩
   .obtain⟨k,hk,rfl,r⟩:=hrel;have HR:=aC r;have a:=HB.later r;obtain⟨_,_,d2,d3,d4,_⟩:=a.cells;clear r
    by_cases aa:k<X2.length
    .have q:(k:N)<(X2.length:N):=O
     obtain⟨g,cap,a1,T,S,R,j,P,I,H,E,m,e,y0,y1,y2,y3,y4,hj,f1,f2,f3,f4⟩:=a.br.b2.look aa;simp only[Value.slice.injEq,true_and] at e;obtain⟨rfl,rfl⟩:=e;have FF:=aC (fun W (A:X0 wr wr W)=>Yz (yY j m _ W (f1.later A).sv O) (Yz (yY (j+1) m _ W (f2.later A).sv O) (Yz (yY (j+2) m _ W (f3.later A).sv O) (yY (j+3) m _ W (f4.later A).sv O))));clear f1 f2 f3 f4 a
     go_upto_region 15 with fail
     change Code.wp _ _ _ _ (wr.alloc (oe tS (X9 a1 j P) (X9 T (j+1) I) (X9 S (j+2) H) (X9 R (j+3) E) (V Y m)));have f:=aC (Yz ((zr _ wr).alloc aI (oe tS (X9 a1 j P) (X9 T (j+1) I) (X9 S (j+2) H) (X9 R (j+3) E) (V Y m))) (cP wr (oe tS (X9 a1 j P) (X9 T (j+1) I) (X9 S (j+2) H) (X9 R (j+3) E) (V Y m))));generalize wr.alloc (oe tS (X9 a1 j P) (X9 T (j+1) I) (X9 S (j+2) H) (X9 R (j+3) E) (V Y m))=Z0 at f ⊢
     have CL:Hid (∀ W,X0 Z0 Z0 W->W.cell? (wr,0)=U (X9 a1 j P)/\W.cell? (wr,1)=U (X9 T (j+1) I)/\W.cell? (wr,2)=U (X9 S (j+2) H)/\W.cell? (wr,3)=U (X9 R (j+3) E)/\W.cell? (wr,4)=U (V Y m)):=fun W A=>by
      have C:=(A.block _ (Array.getElem?_eq_some_iff.1 f.2).1).trans f.2;exact⟨bG C 0 rfl,bG C 1 rfl,bG C 2 rfl,bG C 3 rfl,bG C 4 rfl⟩
     clear y0 y1 y2 y3 y4 d2 d3 d4;obtain⟨x0,_,_,_,y⟩:=CL _ fo
     go_upto_region 16 with (first|(go_at_call 57;refine (FF _ f.1).1.mono ?_;rintro e w1 ⟨rfl,h1⟩;have B1:=aC h1;clear h1))
     clear x0 y;obtain⟨_,x1,_,_,y⟩:=CL _ B1
     go_upto_region 17 with (first|(go_at_call 57;refine (FF _ (bM f.1 B1 aI)).2.1.mono ?_;rintro e w2 ⟨rfl,h2⟩;have B2:=aC (bM B1 h2 aI);clear h2))
     clear x1 y;obtain⟨_,_,x2,_,y⟩:=CL _ B2
     go_upto_region 18 with (first|(go_at_call 57;refine (FF _ (bM f.1 B2 aI)).2.2.1.mono ?_;rintro e w3 ⟨rfl,h3⟩;have B3:=aC (bM B2 h3 aI);clear h3))
     clear x2 y;obtain⟨_,_,_,x3,y⟩:=CL _ B3
     go_upto_region 19 with (first|(go_at_call 57;refine (FF _ (bM f.1 B3 aI)).2.2.2.mono ?_;rintro e w4 ⟨rfl,h4⟩;have B4:=aC (bM B3 h4 aI);clear h4))
     go_wp21
     go_roundw
     .exact⟨k+1,O,by go_num,bM HR (bM f.1 B4 aI) aI⟩
     .simp[intOf];omega
    .have q:¬ (k:N)<(X2.length:N):=O
     clear a
     go_wp21
     have ab:=aC HR;clear d2 d3 d4 aa q hk HR
     go_loopw [15] (fun v wr=>∃ k:M,k<=X3.length/\v=V Y k/\X0 w w wr) (fun v _=>X3.length-(intOf v).toNat)
     .exact⟨0,Zd _,rfl,ab⟩
     .obtain⟨k,hk,rfl,r⟩:=hrel;have HR:=aC r;have a:=HB.later r;obtain⟨_,_,d2,d3,d4,_⟩:=a.cells;clear r
      by_cases aa:k<X3.length
      .have q:(k:N)<(X3.length:N):=O
       obtain⟨g,cap,a1,T,S,R,j,P,I,H,E,m,e,y0,y1,y2,y3,y4,hj,f1,f2,f3,f4⟩:=a.br.b3.look aa;simp only[Value.slice.injEq,true_and] at e;obtain⟨rfl,rfl⟩:=e;have FF:=aC (fun W (A:X0 wr wr W)=>Yz (za j m _ W (f1.later A).ev O) (Yz (za (j+1) m _ W (f2.later A).ev O) (Yz (za (j+2) m _ W (f3.later A).ev O) (za (j+3) m _ W (f4.later A).ev O))));clear f1 f2 f3 f4 a
       go_upto_region 25 with fail
       change Code.wp _ _ _ _ (wr.alloc (oe tE (X9 a1 j P) (X9 T (j+1) I) (X9 S (j+2) H) (X9 R (j+3) E) (V Y m)));have f:=aC (Yz ((zr _ wr).alloc aI (oe tE (X9 a1 j P) (X9 T (j+1) I) (X9 S (j+2) H) (X9 R (j+3) E) (V Y m))) (cP wr (oe tE (X9 a1 j P) (X9 T (j+1) I) (X9 S (j+2) H) (X9 R (j+3) E) (V Y m))));generalize wr.alloc (oe tE (X9 a1 j P) (X9 T (j+1) I) (X9 S (j+2) H) (X9 R (j+3) E) (V Y m))=Z0 at f ⊢
       have CL:Hid (∀ W,X0 Z0 Z0 W->W.cell? (wr,0)=U (X9 a1 j P)/\W.cell? (wr,1)=U (X9 T (j+1) I)/\W.cell? (wr,2)=U (X9 S (j+2) H)/\W.cell? (wr,3)=U (X9 R (j+3) E)/\W.cell? (wr,4)=U (V Y m)):=fun W A=>by
        have C:=(A.block _ (Array.getElem?_eq_some_iff.1 f.2).1).trans f.2;exact⟨bG C 0 rfl,bG C 1 rfl,bG C 2 rfl,bG C 3 rfl,bG C 4 rfl⟩
       clear y0 y1 y2 y3 y4 d2 d3 d4;obtain⟨x0,_,_,_,y⟩:=CL _ fo
       go_upto_region 26 with (first|(go_at_call 58;refine (FF _ f.1).1.mono ?_;rintro e w1 ⟨rfl,h1⟩;have B1:=aC h1;clear h1))
       clear x0 y;obtain⟨_,x1,_,_,y⟩:=CL _ B1
       go_upto_region 27 with (first|(go_at_call 58;refine (FF _ (bM f.1 B1 aI)).2.1.mono ?_;rintro e w2 ⟨rfl,h2⟩;have B2:=aC (bM B1 h2 aI);clear h2))
       clear x1 y;obtain⟨_,_,x2,_,y⟩:=CL _ B2
       go_upto_region 28 with (first|(go_at_call 58;refine (FF _ (bM f.1 B2 aI)).2.2.1.mono ?_;rintro e w3 ⟨rfl,h3⟩;have B3:=aC (bM B2 h3 aI);clear h3))
       clear x2 y;obtain⟨_,_,_,x3,y⟩:=CL _ B3
       go_upto_region 29 with (first|(go_at_call 58;refine (FF _ (bM f.1 B3 aI)).2.2.2.mono ?_;rintro e w4 ⟨rfl,h4⟩;have B4:=aC (bM B3 h4 aI);clear h4))
       go_wp21
       go_roundw
       .exact⟨k+1,O,by go_num,bM HR (bM f.1 B4 aI) aI⟩
       .simp[intOf];omega
      .have q:¬ (k:N)<(X3.length:N):=O
       clear a
       go_wp21
       go_ret;exact⟨rfl,HR⟩
theorem PJ(s:XK)(w:XY)(hs:s.size<=2000000):
  X4 prog 59 #[s] w fun e w'=>∃ v,e=Yg v/\w'.ownsRow w 9 1 v (aB.aU s).length ((aB.aU s).map Ya)/\X0 w w w':=by
 obtain⟨T,hi,E,C,A⟩:=info_parts yH
 go_in
 go_wp2
 go_loopw [3,4,5] (fun v c i wr=>∃ k:M,k<=s.size/\i=V Y k/\c=Ya (aB.fl s k)/\wr.ownsRow w 9 1 v (aB.kF s k).length ((aB.kF s k).map Ya)/\X0 w w wr) (fun _ _ i _=>s.size-(intOf i).toNat)
 case atStart=>exact⟨0,Zd _,rfl,rfl,ZD _ _ _ _,Below.refl _ _⟩
 case round =>
  obtain⟨k,I,rfl,rfl,a,f⟩:=hrel;have cz:=aB.zG s k
  by_cases aa:k<s.size
  .by_cases y:aB.eI s k=32
   .have R:((s[k].toNat:N)==32)=XX:=beq_iff_eq.2 (by rw[<- aB.jL];exact y);have r:=hide (aB.zP s k I y);clear y
    cases P:(aB.fl s k).toList.isEmpty
    .have q:Hid ((aB.fl s k).size≠0):=(yZ P);have S:=aB.sD s k
     go_wp2_with (first
      |(at_builtin;refine wpList_append_own _ rfl _ _ 26 rfl w 9 T (Ya ⟨#[]⟩) 1 16 underlying26 hi E C A rfl XC _ _ _ rfl (a.alloc _) (wr,0) 1 1 [aB.fl s k] rfl rfl ?c1 ?c2 ?c3 ?c4 ?c5 ?_)
      |go_in)
     case c1=>exact cell_one_new _ _ _
     case c2=>intro u H;simp at H;subst H;rfl
     case c3=>unfold maxLen;omega
     case c4=>omega
     case c5=>have:=f.size;simp;omega
     intro v' w1 h j _;go_wp2;refine⟨⟨k+1,O,by go_num,by rw[(aP r).1],?_,?_⟩,by simp[intOf];omega⟩
     .rw[(aP r).2,XR q,Zl,YZ];exact h
     .refine (f.alloc f.size _).grown j (by have:=f.size;simp;omega) (fun k I=>?_);exact pK a I
    .have q:Hid ((aB.fl s k).size=0):=(yU P);go_wp2;exact⟨⟨k+1,O,by go_num,by rw[(aP r).1],by rw[(aP r).2,XS q.out,List.append_nil];exact a,f⟩,by simp[intOf];omega⟩
   .have R:((s[k].toNat:N)==32)=XW:=beq_eq_false_iff_ne.2 (by rw[<- aB.jL];exact y);have r:=hide (aB.zE s k y);clear y;go_wp2;exact⟨⟨k+1,O,by go_num,by rw[(aP r).1],by rw[(aP r).2];exact a,f⟩,by simp[intOf];omega⟩
  .obtain rfl:k=s.size:=O
   have HW:=hide (aB.xe s)
   cases P:(aB.fl s s.size).toList.isEmpty
   .have q:Hid ((aB.fl s s.size).size≠0):=(yZ P);have S:=aB.sD s s.size
    go_wp2_with (first
     |(at_builtin;refine wpList_append_own _ rfl _ _ 26 rfl w 9 T (Ya ⟨#[]⟩) 1 16 underlying26 hi E C A rfl XC _ _ _ rfl (a.alloc _) (wr,0) 1 1 [aB.fl s s.size] rfl rfl ?c1 ?c2 ?c3 ?c4 ?c5 ?_)
     |go_in)
    case c1=>exact cell_one_new _ _ _
    case c2=>intro u H;simp at H;subst H;rfl
    case c3=>unfold maxLen;omega
    case c4=>omega
    case c5=>have:=f.size;simp;omega
    intro v' w1 h j _;go_wp2;go_ret;refine⟨v',rfl,?_,?_⟩
    .rw[aP HW,XR q,Zl,YZ];exact h
    .refine (f.alloc f.size _).grown j (by have:=f.size;simp;omega) (fun k I=>?_);exact pK a I
   .have q:Hid ((aB.fl s s.size).size=0):=(yU P);go_wp2;go_ret;exact⟨_,rfl,by rw[aP HW,XS q.out,List.append_nil];exact a,f⟩
def wF(w:XY)(g:M)(L:J XK):Prop:=∀ (j:M)(a:j<L.length),w.cell? (g,j)=U (Ya L[j])
theorem wF.later{g:M}{L:J XK}(h:wF w g L)(k:X0 w w w'):wF w' g L:=fun j a=>aR k (h j a)
def Nk(s:XK)(L:J XK)(w:XY)(e:Ending)(w':XY):Prop:=∃ b,e=Yg (.bool b)/\(b=XX->∃ k∈L,bS (aB.aU s) 0 XW k=XX)/\X0 w w w'
theorem P9(s:XK)(w:XY)(hs:s.size<=2000000){g:M}{L:J XK}(S:wF w g L)(hl:L.length<=100):
  X4 prog 43 #[s,X9 g L.length c] w (Nk s L w):=by
 have HW:=aC (PJ s w hs);have HL:=aC S;clear S
 go_in
 go_wp2_with (first|(go_at_call 59;refine HW.mono ?_;rintro e w1 ⟨v,rfl,C,R⟩;have I:=aC (Yz C R);obtain⟨va,vc,rfl⟩:=gj C;clear C R))
 have P:=aC (HL.later I.2)
 go_loopw [6] (fun v wr=>∃ k:M,k<=L.length/\v=V Y k/\wr.heap=w1.heap/\X0 w w wr) (fun v _=>L.length-(intOf v).toNat)
 .exact⟨0,Zd _,rfl,rfl,I.2⟩
 .obtain⟨k,hk,rfl,E,h⟩:=hrel;have j:=aC h;clear h
  by_cases f:k<L.length
  .have a:(k:N)<(L.length:N):=O
   by_cases T:0<(aB.aU s).length
   .have H:(0:N)<((aB.aU s).length:N):=O
    let⟨g1,c1,e1,y1⟩:=qz I.1 (k:=0) (u:=Ya ((aB.aU s).getD 0 ByteArray.empty)) (by
     rw[List.getElem?_map,List.getD_eq_getElem?_getD,List.getElem?_eq_getElem T];rfl)
    simp only[Value.slice.injEq,true_and] at e1;obtain⟨rfl,rfl⟩:=e1;have q:wr.cell? (g1,0)=U (Ya ((aB.aU s).getD 0 ByteArray.empty)):=by rw[<- y1];simp only[YF,E]
    have y2:wr.cell? (g,k)=U (Ya L[k]):=by rw[<- P k f];simp only[YF,E]
    clear y1;obtain⟨x,y⟩:∃ x,(aB.aU s).getD 0 ByteArray.empty=x:=⟨_,rfl⟩;obtain⟨z,r⟩:∃ z,L[k]=z:=⟨_,rfl⟩;rw[y] at q;rw[r] at y2;have HZ:Hid (z∈L/\((x.toList==z.toList)=XX->bS (aB.aU s) 0 XW z=XX)):=⟨r ▸ zg f,fun A=>by simp only[bS,cU,y,A];simp[T]⟩;clear y r
    cases A:x.toList==z.toList
    .go_upto_region 5 with fail
     go_quiet (fail)
     go_wp21
     exact⟨⟨k+1,O,by go_num,E,lY j _⟩,by simp[intOf];omega⟩
    .have HI:=aC (HZ.2 A)
     go_upto_region 5 with fail
     go_quiet (fail)
     go_wp21
     go_ret;exact⟨XX,rfl,fun _=>⟨z,HZ.1,HI⟩,lY j _⟩
   .have H:¬ (0:N)<((aB.aU s).length:N):=O
    go_wp21
    go_ret;exact⟨XW,rfl,by simp,j⟩
  .have a:¬ (k:N)<(L.length:N):=O
   go_wp21
   go_ret;exact⟨XW,rfl,by simp,j⟩
structure nA where
 k:N
 a:N
 y:N
 m:N
 d:N
 s:XK
def mE(x:nA):J XZ:=[V Y x.k,V Y x.a,x.y,V Y x.m,V Y x.d,x.s]
structure FY(x:nA):Prop where
 a1:-9223372036854775808<=x.a
 a2:x.a<=9223372036854775807
 sz:x.s.size<=2000000
def tj(w:XY)(b o:M)(x:nA):Prop:=w.cell? (b,o)=U (V Y x.k)/\w.cell? (b,o+1)=U (V Y x.a)/\w.cell? (b,o+2)=U ↑x.y/\w.cell? (b,o+3)=U (V Y x.m)/\w.cell? (b,o+4)=U (V Y x.d)/\w.cell? (b,o+5)=U ↑x.s
theorem tj.later{o:M}{x:nA}(h:tj w b o x)(k:X0 w w w'):tj w' b o x:=by
 let⟨h0,h1,h2,h3,h4,h5⟩:=h;exact⟨aR k h0,aR k h1,aR k h2,aR k h3,aR k h4,aR k h5⟩
theorem Nj{X:J nA}{k:M}(f:k<X.length)(o:M)(h:o<6):(X.flatMap mE)[k*6+o]?=(mE X[k])[o]?:=by
 induction X generalizing k with
 |nil=>simp at f
 |cons a r ih =>
  cases k with
  |zero=>rw[Zp,Zy,Nat.zero_add,Zn (by simpa[mE] using h)];rfl
  |succ k =>
   have:=ih (k:=k) (by simpa using f);rw[Zp,Zt (by simp[mE];omega)];simp only[mE,Y0,Y7,List.getElem_cons_succ] at this ⊢;rw[<- this]
   congr 1
   omega
section
variable {w0 w w':XY}{B n:XP}
theorem LW.env(h:LW w0 w B n):Env w:=by
 let⟨tg,D,K,v0,v1,r1,r2,r3,X1,X2,X3,h⟩:=h;exact h.ds.env
theorem LW.bl(h:LW w0 w B n):X0 w0 w0 w:=by
 let⟨tg,D,K,v0,v1,r1,r2,r3,X1,X2,X3,h⟩:=h;exact h.bl
theorem LW.looks(h:LW w0 w B n)(j:n<=900000000):X4 prog 42 #[X8 (U ⟨B,2,Z⟩)] w fun e w'=>e=Yg XX/\LW w0 w' B n:=by
 have f:=h;let⟨tg,D,K,v0,v1,r1,r2,r3,X1,X2,X3,h⟩:=h;refine aK (OL h.bk (by have:=h.len;omega)) fun w1 a=>?_;exact⟨rfl,f.later a⟩
def zW:Obj:=Yh #[(),(),(),(),()] 86
theorem LW.start(h:Env w):LW w (w.alloc zW) w 0:=by
 have a:X0 w w (w.alloc zW):=bC;have r:(w.alloc zW).heap.size=w.heap.size+1:=XA
 have f:=h.size;have row:∀ {P:N->J XZ}{t:X6},mI P t [] (w.alloc zW) () []:=⟨ZD _ _ _ _,by simp,by simp⟩;have q:∀ b∈cC w () () (),b=w:=fun b a=>by simpa[cC,ZB] using a
 refine⟨fun b=>if b=w then .bk else .no,[],[],(),(),(),(),(),[],[],[],⟨⟨fun i k j=>by simp at j,h.later a,fun b a=>?_,fun b a=>XR O⟩,⟨cP w _,⟨row,row,row,by simp⟩,by simp⟩,by simp,ZD _ _ _ _,ZD _ _ _ _,fun b a=>XS (q b a),by simp,fun b a=>(by cases a),fun b a=>(by cases a),by simp,a,fun b a=>?_,f⟩⟩
 .by_cases e:b=w
  .omega
  .exact (a (XR e)).elim
 .by_cases e:b=w
  .omega
  .exact (a (XR e)).elim
def pD(x:nA):Obj:=Yh #[V Y x.k,V Y x.a,x.y,V Y x.m,V Y x.d,x.s] 89
def BQ(w:XY)(h:XM Addr)(f:M):Prop:=∀ i,i<f->∃ b a x,h=U ⟨b,a,Z⟩/\tj w b (a+i*6) x/\FY x
theorem Nq:(prog.info? 89).map (fun i=>(i.zero,i.size,i.bytes))=U (U (Yd #[V Y 0,V Y 0,V Y 0,V Y 0,V Y 0,Ya ⟨#[]⟩]),6,56):=XF
end
end Go.Proofs.YtfigmlfdnickmaaGreatDoor
namespace Go.Proofs.YtfigmlfdnickmaaGreatDoor.uptoLaw
open Go.ChangeShapes Go.WideShapes Go.ChangeAt Go.RowKit
theorem Oi{H:Type}(d:DataW H):1<=Rows.uptoBulk d:=by
 cases d with
 |lit l=>cases l <;> simp[Rows.uptoBulk]
 |_=>simp[Rows.uptoBulk]
theorem Gy{H:Type}:∀ l:J (DataW H),l.length<=Rows.uptoBulkAll l
 |[]=>zN _
 |d :: r=>by
  have:=Gy r;have:=Oi d;simp only[Rows.uptoBulkAll,Y0];omega
theorem Gz{H:Type}{d:DataW H}:∀ {l:J (DataW H)},d∈l->Rows.uptoBulk d<=Rows.uptoBulkAll l
 |a :: r,h=>by
  simp only[Rows.uptoBulkAll];rcases Yu.1 h with rfl|h
  .omega
  .have:=Gz h;omega
theorem ND{H:Type}{r:X6 × XZ->H}{q:M}{f:M}{cs:J XZ}{x:DataW H × J MemPlace}(k:M)
  (hc:W.cells? q (Addr.add (b,f) (k*6)) 6=U cs) (h:DataW.trod r prog W q spare held n 89 cs=U x):∃ o:nA,tj W b (f+k*6) o/\-9223372036854775808<=o.a/\o.a<=9223372036854775807/\o.s.size<=Rows.uptoBulk x.1:=by
 let⟨xs,n',_,hx,hlen,hxl,hf⟩:=DataW.trod_struct underlying89 h;rw[datesLaw.BA] at hlen;obtain⟨c0,c1,c2,c3,c4,c5,rfl⟩:=datesLaw.pC hlen;obtain⟨x0,x1,x2,x3,x4,x5,rfl⟩:=datesLaw.pC (show xs.length=6 from hxl);have f0:=hf 0 _ rfl;have f1:=hf 1 _ rfl;have f2:=hf 2 _ rfl;have T:=hf 3 _ rfl;have S:=hf 4 _ rfl;have R:=hf 5 _ rfl;simp only[List.getElem_toArray,List.getElem_cons_zero,List.getElem_cons_succ,datesLaw.Sy,datesLaw.CU,List.drop,List.take,List.getElem?_cons_zero,List.getElem?_cons_succ] at f0 f1 f2 T S R;let⟨i0,e0,_,_⟩:=DataW.trod_int underlying3 f0;let⟨i1,e1,_,w1⟩:=DataW.trod_int underlying3 f1;let⟨i2,e2,_,_⟩:=DataW.trod_int underlying3 f2;let⟨i3,e3,_,_⟩:=DataW.trod_int underlying3 T;let⟨i4,e4,_,_⟩:=DataW.trod_int underlying3 S;let⟨i5,e5,d5,_⟩:=DataW.trod_string underlying9 R;simp only[List.cons.injEq,and_true] at e0 e1 e2 e3 e4 e5;subst e0 e1 e2 e3 e4 e5;let⟨_,_,hcs⟩:=World.cells?_some hc;have P:=hcs 0 XC;have I:=hcs 1 XC;have E:=hcs 2 XC;have C:=hcs 3 XC;have A:=hcs 4 XC;have y:=hcs 5 XC;have bd:=bounds_i64 w1;have ad:∀ j,Addr.add (Addr.add (b,f) (k*6)) j=(b,f+k*6+j):=fun j=>by rw[Deep.add_add,Addr.add];simp[Nat.add_assoc]
 simp only[ad,List.getElem?_cons_zero,List.getElem?_cons_succ] at P I E C A y;refine⟨⟨i0,i1,i2,i3,i4,i5⟩,⟨P,I,E,C,A,y⟩,bd.1,bd.2,?_⟩;have hz:=aB.sX i5;rw[hx,d5];simp only[List.map,Rows.uptoBulk,Rows.uptoBulkAll];omega
theorem script{H:Type}{I:X6 × XZ->H}{C:M}{S:XM Addr}{f A:M}{d:DataW H}{T:J MemPlace}(h:DataW.Trod I prog W C spare held 22 (X9 S f A) d T)(R:Rows.uptoBulk d<=1048576):BQ W S f/\f<=1900000:=by
 let⟨fuel,hf⟩:=h;rcases Deep.open_slice underlying22 hf with ⟨q,_⟩|⟨a,l,c,m,n,D,Pl,q,_,hl,hm,E,hx,y⟩
 .simp[Value.cells] at q;obtain⟨rfl,rfl,rfl⟩:=q;exact⟨fun i P=>by omega,O⟩
 .simp[Value.cells] at q;obtain⟨rfl,rfl,rfl⟩:=q;have hd:d=.slice ((List.range f).map D) ((List.range (m-f)).map fun j=>D (f+j)):=congrArg Prod.fst hx;rw[hd] at R;simp only[Rows.uptoBulk] at R;have h1:=Gy ((List.range f).map D);rw[List.length_map,List.length_range] at h1;refine⟨fun i P=>?_,O⟩;have aa:f<=m:=by rw[E];split <;> omega
  let⟨b,off,spot⟩:=a;let⟨cs,hc,ht⟩:=y i O
  have r:spot=Z:=by
   let⟨cs,hc,_⟩:=y 0 O;let⟨_,hn,hcc⟩:=World.cells?_some hc;rw[datesLaw.BA] at hn hcc;obtain⟨c0,c1,c2,c3,c4,c5,rfl⟩:=datesLaw.pC hn;have g:=hcc 0 XC
   simpa[Addr.add] using World.cell?_spot g
  subst r;rw[datesLaw.BA] at hc;let⟨o,o1,o2,o3,o4⟩:=ND i hc ht;have h2:=Gz (d:=D i) (l:=(List.range f).map D) (Zh.2 ⟨i,List.mem_range.2 P,rfl⟩);exact⟨b,off,o,rfl,o1,o2,o3,by simp only at o4;omega⟩
end Go.Proofs.YtfigmlfdnickmaaGreatDoor.uptoLaw
namespace Go.Proofs.YtfigmlfdnickmaaGreatDoor
namespace aA
structure MQ(s:St)(r:bI):Prop where
 en:r.entries.length<=60
 es:∀ e∈r.entries,e∈s.es
 da:r.days.length<=60
 gr:r.granted.length<=100000
 ed:r.ended.length<=60
 er:r.err≠0->r.entries=[]/\r.days=[]/\r.granted=[]/\r.ended=[]
theorem Bp{s:St}(h:Inv s){l:gn}(j:iV l):MQ s (ix s l).2:=by
 let⟨⟨a,b,c,d⟩,e⟩:=PW h j;refine⟨a,b,c,e,d,fun f=>?_⟩;unfold ix at f ⊢
 split at f
 .rename_i q
  rw[XS q,Vi q];exact⟨rfl,rfl,rfl,rfl⟩
 .rename_i q
  exact absurd f q
end aA
def rM:aA.gn->XN
 |.bA ..=>XX
 |.enter k ..=>k==1 || k==2
 |.cancel ..=>XX
 |.list ..=>XX
 |.dN ..=>XX
 |.find ..=>XX
 |.clock=>XX
 |.series ..=>XX
 |.expand ..=>XX
 |.bF ..=>XX
 |.tick ..=>XX
 |_=>XW
end Go.Proofs.YtfigmlfdnickmaaGreatDoor
