import Derived.Test.YtfigmlfdnickmaaGreatDoorL06
import Derived.Deep.CutRange
import Derived.RangeFuncKeeps
import Derived.RangeFuncBound
import Derived.RangeFuncLeaves
import Derived.RangeFuncBox
import Derived.Shelf.Abstract
import Derived.OwnWalkIn
import Derived.TacticsInMore
import Derived.LoopNIn
import Derived.LoopIn
set_option maxRecDepth 100000
set_option maxHeartbeats 8000000
open Go.Proofs.Tryz
open _root_ renaming ByteArray->UU,List->UV,Option->UW,Bool->UX,Nat->UY,Int->UZ,if_neg->U0,if_pos->U1
open Option renaming none->U3,some->U4,none->YV,mem_toList->WI
open Bool renaming false->U5,true->U6,eq_false_or_eq_true->YQ
open Go renaming World->U7,Value->U8,Calls->Va,TypeId->Vc
open Go.RowKit renaming Below->U9
open List renaming mem_map->V9,length_append->VU,mem_singleton->Yo,length_map->Wu,map_append->We,nodup_append->Vy,find?_eq_none->X6,getElem_append_left->YW,size_toArray->Y6,length_cons->VV,length_nil->VZ,push_toArray->Zb,append_toArray->Zc,nil_append->Zd,cons_append->VD,append_nil->XT,append_assoc->VP
open Go.Value renaming string->YK,slice->YZ
open Go.World renaming cell?->VA,block_lt_of_cell?->Vh
open Nat renaming le_trans->Vg,lt_of_lt_of_le->WE,le_refl->Vd,le_succ->Y0,reduceAdd->Y7,reduceSub->Y8,sub_self->Ze
open Array renaming getElem?_eq_some_iff->YR,replicate_succ->Y9,replicate_zero->Za
open Go.Code renaming wp->YS
open Go.Instr renaming typeAssert->YT,lookup->Yu,mapUpdate->YX
open Go.Result renaming andThen->YU
open Option.some renaming inj->WJ
open Go.IntKind renaming i64->Vf
open List.Pairwise renaming nil->XP
open Int renaming tmod_eq_emod_of_nonneg->Y4
open Go.Oper renaming semAt_some->Y5
namespace Go.Proofs.YtfigmlfdnickmaaGreatDoor
variable{name:UU}{a fr k long til u:UZ}{B Q b d i m n' p:UY}{c1 aJ col':UY->UW bB}{r:Raw}{s:aA.St}{v:U8}{Y Z w w' w1 w2 wx:U7}
open Go.RowKit
inductive nL (ws:UV UU) (st:UY × UX):UZ->UZ->UY × UX->Prop where
 |times (h:bD ws st.1 st.2 iT=U6):nL ws st (bT ws (dV st) eu cL) 0 (aQ ws [eu] (dV st))
 |til (h1:bD ws st.1 st.2 iT=U5) (h:bD ws st.1 st.2 js=U6):nL ws st 0 (bT ws (dV st) aB.cM fT) (aQ ws [aB.cM] (dV st))
 |none (h1:bD ws st.1 st.2 iT=U5) (h:bD ws st.1 st.2 js=U5):nL ws st 0 0 (st.1,U6)
theorem Py(R A P:UY)(ws:UV UU)(st:UY × UX)(w:U7)(H ev:UZ)(acc:UV UZ)(fr mn mi:UZ)(h:RS w R A ws st.1 st.2)(J:Env w)(K:10<=R)(g:P≠R)(z:0<ws.length->P≠A)(I:RL w P (rv H ev acc fr mn mi 0 0)):
  Va prog 138 #[.pointer (U4 ⟨R,0,U3⟩),.pointer (U4 ⟨P,0,U3⟩)] w fun e w' =>
   ∃ (ti un:UZ) (s:UY × UX),e=.returned (.tuple #[])/\nL ws st ti un s/\RS w' R A ws s.1 s.2/\RL w' P (rv H ev acc fr mn mi ti un)/\jy R P w w':=by
 have O:=hide J;clear J
 go_in
 go_wp2_with fail
 refine (iJ R A ws st.1 st.2 iT w h).mono ?_;rintro e w1 ⟨rfl,x,D⟩;have j:=D.two P;have l1:=I.kept D g;have T:=hide ((aK O).kept D K);clear h I D
 cases y:bD ws st.1 st.2 iT
 ·rw[y] at x
  go_wp2_with fail
  refine (iJ R A ws st.1 st.2 js w1 x).mono ?_;rintro e w2 ⟨rfl,t,C⟩;have o:=j.trans (C.two P);have F:=l1.kept C g;have S:=hide ((aK T).kept C K);clear x j l1 C
  cases E:bD ws st.1 st.2 js
  ·rw[E] at t;have V:=t.c2;have U:=t.f2;go_wp2
   go_end0
   exact⟨0,0,(st.1,U6),rfl,.none y E,t.bad,F.other g.symm,o.ui _ _⟩
  ·rw[E,U1 rfl] at t
   go_wp2_with fail
   refine (Jh R A ws (st.1+1) st.2 w2 t (aK S)).mono ?_;rintro e L ⟨rfl,G,q⟩;have n:=o.trans (q.two P);have l:=F.kept q g;clear t o F q;have N:=l.c 13 UI;have M:=l.f;go_wp2
   go_end0
   exact⟨0,bT ws (dV st) aB.cM fT,aQ ws [aB.cM] (dV st),rfl,.til y E,G.other g z,PG l _,n.fI _ _⟩
 ·rw[y,U1 rfl] at x
  go_wp2_with fail
  refine (yk 1 99 R A ws (st.1+1) st.2 w1 x).mono ?_;rintro e L ⟨rfl,G,q⟩;have n:=j.trans (q.two P);have l:=l1.kept q g;clear x j l1 q;have N:=l.c 12 UI;have M:=l.f;go_wp2
  go_end0
  exact⟨bT ws (dV st) eu cL,0,aQ ws [eu] (dV st),rfl,.times y,G.other g z,PE l _,n.fI _ _⟩
def mA(ws:UV UU)(s:UY × UX):UY × UX:=aQ ws [bE cV,aB.cM,bE ek,aB.dA,bE fS,eK] s
inductive kl (ws:UV UU) (st:UY × UX):UZ->UZ->UV UZ->UZ->UZ->UZ->UZ->UZ->UY × UX->Prop where
 |mk (pc ev:UZ) (acc:UV UZ) (s:UY × UX) (ti un:UZ) (s':UY × UX) (hp:nS ws st pc ev acc s) (he:nL ws (mA ws s) ti un s'):
   kl ws st pc ev acc (bT ws (aQ ws [bE cV] s) aB.cM fT) (bT ws (aQ ws [bE cV,aB.cM,bE ek] s) aB.dA aB.fo) (bT ws (aQ ws [bE cV,aB.cM,bE ek,aB.dA,bE fS] s) eK cL) ti un s'
theorem RL.fZ{R:UY}{P:UY}{v:UY->U8}(h:RL w P v)(k:jy R Q w w')(l:P≠R)(g:P≠Q):RL w' P v :=
 ⟨fun j n=>(zo (w:=w) (k.block P h.lt l g)).trans (h.c j n),fun j=>(World.frozen?_of_block (w:=w) (k.block P h.lt l g)).trans (h.f j)⟩
def tA(c ev:UZ)(acc:UV UZ)(fr mn mi ti un:UZ):U8 :=
 .agg #[.int .i64 c,.int .i64 ev,.bool (aI acc 0),.bool (aI acc 1),.bool (aI acc 2),.bool (aI acc 3),.bool (aI acc 4),.bool (aI acc 5),.bool (aI acc 6),.int .i64 fr,.int .i64 mn,.int .i64 mi,.int .i64 ti,.int .i64 un]
def Dg(ws:UV UU):Prop:=∀ (R A:UY)(st:UY × UX)(w:U7),RS w R A ws st.1 st.2->Env w->10<=R ->
  Va prog 87 #[.pointer (U4 ⟨R,0,U3⟩)] w fun e w' =>
   ∃ (c ev:UZ) (acc:UV UZ) (fr mn mi ti un:UZ) (s:UY × UX),e=.returned (tA c ev acc fr mn mi ti un)/\kl ws st c ev acc fr mn mi ti un s/\RS w' R A ws s.1 s.2/\Kept R w w'
theorem TV(R A:UY)(ws:UV UU)(st:UY × UX)(w:U7)(h:RS w R A ws st.1 st.2)(he:Env w)(D:10<=R):
  Va prog 87 #[.pointer (U4 ⟨R,0,U3⟩)] w fun e w' =>
   ∃ (I ev:UZ) (acc:UV UZ) (fr mn mi ti un:UZ) (s:UY × UX),e=.returned (tA I ev acc fr mn mi ti un)/\kl ws st I ev acc fr mn mi ti un s/\RS w' R A ws s.1 s.2/\Kept R w w':=by
 have T:=hide he;clear he
 go_in
 go_wp2_with fail
 obtain⟨bj,ae⟩:=h.lt;obtain⟨X,S⟩:∃ X,X=(w.alloc (.cells #[.int .i64 0,.int .i64 0,.bool U5,.bool U5,.bool U5,.bool U5,.bool U5,.bool U5,.bool U5,.int .i64 0,.int .i64 0,.int .i64 0,.int .i64 0,.int .i64 0] 162)).alloc (.cells #[.int .i64 0,.int .i64 0,.bool U5,.bool U5,.bool U5,.bool U5,.bool U5,.bool U5,.bool U5,.int .i64 0,.int .i64 0,.int .i64 0,.int .i64 0,.int .i64 0] 162):=⟨_,rfl⟩;rw[<- S];have hB:U9 w.heap.size w X:=by rw[S];exact ((zr _ _).alloc (zq _) _).alloc UJ _
 have hZ:w.heap.size+2=X.heap.size:=by rw[S];simp
 have gX:RL X w.heap.size (rv 0 0 [] 0 0 0 0 0):=by
  rw[S];refine⟨ov ?_ ?_ ?_ ?_ ?_ ?_ ?_ ?_ ?_ ?_ ?_ ?_ ?_ ?_,fun j=>?_⟩ <;> simp[rv,aI]
 have lX:RL X (w.heap.size+1) (rv 0 0 [] 0 0 0 0 0):=by
  rw[S];refine⟨ov ?_ ?_ ?_ ?_ ?_ ?_ ?_ ?_ ?_ ?_ ?_ ?_ ?_ ?_,fun j=>?_⟩ <;> simp[rv,aI]
 clear S;have eX:=(aK T).later hB;have a8:=(aK T).size;have kX:=Kept.aD (R:=R) hB;have z:w.heap.size+1≠R:=UI
 have C:0<ws.length->w.heap.size+1≠A:=fun hq=>by have:=ae hq;omega
 have l:w.heap.size≠R:=UI
 have t:0<ws.length->w.heap.size≠A:=fun hq=>by have:=ae hq;omega
 obtain⟨P,hP⟩:∃ P,P=w.heap.size+1:=⟨_,rfl⟩;rw[<- hP] at lX z C ⊢;obtain⟨G,hG⟩:∃ G,G=w.heap.size:=⟨_,rfl⟩;rw[<- hG] at gX l t ⊢;have H:G≠P:=UI
 have F:w.heap.size<=P:=UI
 have y:w.heap.size<=G:=UI
 have ad:10<=P:=UI
 clear hP hG;refine (Ro R A P ws st X (h.aD hB) eX D ad z C lX).mono ?_;rintro e w1 ⟨I,ev,acc,s,rfl,hp,h1,l1,k1⟩;have g1:=gX.fZ k1 l H;have kt:=jy.one kX k1 F;have E1:=hide ((aK T).kept kt D);have ar:=hide hp;clear gX lX k1 eX hp h
 go_wp2_with fail
 refine (Bx R A ws _ _ cV w1 h1).mono ?_;rintro e w2 ⟨rfl,an,k2⟩;have h2:RS w2 R A ws (aQ ws [bE cV] s).1 (aQ ws [bE cV] s).2:=an;have l2:=l1.kept k2 z;have g2:=g1.kept k2 l;have ab:=kt.trans k2;have E2:=hide ((aK E1).kept k2 D);clear h1 an l1 g1 kt k2 E1
 go_wp2_with fail
 refine (Jh R A ws _ _ w2 h2 (aK E2)).mono ?_;rintro e w3 ⟨rfl,ak,k3⟩;have h3:RS w3 R A ws (aQ ws [bE cV,aB.cM] s).1 (aQ ws [bE cV,aB.cM] s).2:=ak;have l3:=l2.kept k3 z;have g3:=g2.kept k3 l;have a5:=ab.trans k3;have E3:=hide ((aK E2).kept k3 D);clear h2 ak l2 g2 ab k3 E2;have p3:=l3.c 9 UI;have bi:=l3.f;have h4:=h3.other (b:=P) (o:=9) (v:=.int .i64 (bT ws (aQ ws [bE cV] s) aB.cM fT)) z C;have l4:=O2 l3 (bT ws (aQ ws [bE cV] s) aB.cM fT);have g4:=g3.other (b:=P) (o:=9) (x:=.int .i64 (bT ws (aQ ws [bE cV] s) aB.cM fT)) H.symm;have K:=a5.aO (b:=P) (o:=9) F (.int .i64 (bT ws (aQ ws [bE cV] s) aB.cM fT));have E4:=hide ((aK T).kept K D)
 go_wp2_with fail
 refine (Bx R A ws _ _ ek _ h4).mono ?_;rintro e w5 ⟨rfl,aj,k5⟩;have h5:RS w5 R A ws (aQ ws [bE cV,aB.cM,bE ek] s).1 (aQ ws [bE cV,aB.cM,bE ek] s).2:=aj;have l5:=l4.kept k5 z;have g5:=g4.kept k5 l;have W:=K.trans k5;have E5:=hide ((aK E4).kept k5 D);clear h4 aj l4 g4 K k5 E4
 go_wp2_with fail
 refine (Ui R A ws _ _ w5 h5).mono ?_;rintro e w6 ⟨rfl,ai,k6⟩;have h6:RS w6 R A ws (aQ ws [bE cV,aB.cM,bE ek,aB.dA] s).1 (aQ ws [bE cV,aB.cM,bE ek,aB.dA] s).2:=ai;have l6:=l5.kept k6 z;have g6:=g5.kept k6 l;have a4:=W.trans k6;have E6:=hide ((aK E5).kept k6 D);clear h5 ai l5 g5 W k6 E5;have p6:=l6.c 10 UI;have bh:=l6.f;have h7:=h6.other (b:=P) (o:=10) (v:=.int .i64 (bT ws (aQ ws [bE cV,aB.cM,bE ek] s) aB.dA aB.fo)) z C;have l7:=PA l6 (bT ws (aQ ws [bE cV,aB.cM,bE ek] s) aB.dA aB.fo);have g7:=g6.other (b:=P) (o:=10) (x:=.int .i64 (bT ws (aQ ws [bE cV,aB.cM,bE ek] s) aB.dA aB.fo)) H.symm;have J:=a4.aO (b:=P) (o:=10) F (.int .i64 (bT ws (aQ ws [bE cV,aB.cM,bE ek] s) aB.dA aB.fo));have E7:=hide ((aK T).kept J D)
 go_wp2_with fail
 refine (Bx R A ws _ _ fS _ h7).mono ?_;rintro e w8 ⟨rfl,ag,k8⟩;have h8:RS w8 R A ws (aQ ws [bE cV,aB.cM,bE ek,aB.dA,bE fS] s).1 (aQ ws [bE cV,aB.cM,bE ek,aB.dA,bE fS] s).2:=ag;have l8:=l7.kept k8 z;have g8:=g7.kept k8 l;have V:=J.trans k8;have E8:=hide ((aK E7).kept k8 D);clear h7 ag l7 g7 J k8 E7
 go_wp2_with fail
 refine (vZ R A ws _ _ w8 h8).mono ?_;rintro e w9 ⟨rfl,af,k9⟩;have h9:RS w9 R A ws (aQ ws [bE cV,aB.cM,bE ek,aB.dA,bE fS,eK] s).1 (aQ ws [bE cV,aB.cM,bE ek,aB.dA,bE fS,eK] s).2:=af;have l9:=l8.kept k9 z;have g9:=g8.kept k9 l;have a3:=V.trans k9;have E9:=hide ((aK E8).kept k9 D);clear h8 af l8 g8 V k9 E8;have p9:=l9.c 11 UI;have bg:=l9.f;have ao:=h9.other (b:=P) (o:=11) (v:=.int .i64 (bT ws (aQ ws [bE cV,aB.cM,bE ek,aB.dA,bE fS] s) eK cL)) z C;have U:=PC l9 (bT ws (aQ ws [bE cV,aB.cM,bE ek,aB.dA,bE fS] s) eK cL);have aq:=g9.other (b:=P) (o:=11) (x:=.int .i64 (bT ws (aQ ws [bE cV,aB.cM,bE ek,aB.dA,bE fS] s) eK cL)) H.symm;have E:=a3.aO (b:=P) (o:=11) F (.int .i64 (bT ws (aQ ws [bE cV,aB.cM,bE ek,aB.dA,bE fS] s) eK cL));have av:=hide ((aK T).kept E D)
 go_wp2_with fail
 refine (Py R A P ws (mA ws s) _ I ev acc _ _ _ ao (aK av) D z C U).mono ?_;rintro e g ⟨ti,un,s',rfl,ac,al,n,L⟩;have q:=aq.fZ L l H;have aa:=jy.one E L F;have au:=hide ac;clear ao U aq E L av ac;obtain⟨fr,O⟩:∃ fr,fr=bT ws (aQ ws [bE cV] s) aB.cM fT:=⟨_,rfl⟩;obtain⟨mn,M⟩:∃ mn,mn=bT ws (aQ ws [bE cV,aB.cM,bE ek] s) aB.dA aB.fo:=⟨_,rfl⟩;obtain⟨mi,N⟩:∃ mi,mi=bT ws (aQ ws [bE cV,aB.cM,bE ek,aB.dA,bE fS] s) eK cL:=⟨_,rfl⟩;rw[<- O,<- M,<- N] at n
 have a6:Hid (kl ws st I ev acc fr mn mi ti un s'):=by
  show kl ws st I ev acc fr mn mi ti un s';rw[O,M,N];exact .mk I ev acc s ti un s' ar.y au.y
 clear O M N ar au;have q0:g.cell? ⟨P,0,U3⟩=U4 (.int .i64 I):=n.c 0 UI;have q1:g.cell? ⟨P,1,U3⟩=U4 (.int .i64 ev):=n.c 1 UI;have q2:g.cell? ⟨P,2,U3⟩=U4 (.bool (aI acc 0)):=n.c 2 UI;have q3:g.cell? ⟨P,3,U3⟩=U4 (.bool (aI acc 1)):=n.c 3 UI;have q4:g.cell? ⟨P,4,U3⟩=U4 (.bool (aI acc 2)):=n.c 4 UI;have q5:g.cell? ⟨P,5,U3⟩=U4 (.bool (aI acc 3)):=n.c 5 UI;have q6:g.cell? ⟨P,6,U3⟩=U4 (.bool (aI acc 4)):=n.c 6 UI;have q7:g.cell? ⟨P,7,U3⟩=U4 (.bool (aI acc 5)):=n.c 7 UI;have q8:g.cell? ⟨P,8,U3⟩=U4 (.bool (aI acc 6)):=n.c 8 UI;have q9:g.cell? ⟨P,9,U3⟩=U4 (.int .i64 fr):=n.c 9 UI;have bf:g.cell? ⟨P,10,U3⟩=U4 (.int .i64 mn):=n.c 10 UI;have bc:g.cell? ⟨P,11,U3⟩=U4 (.int .i64 mi):=n.c 11 UI;have ba:g.cell? ⟨P,12,U3⟩=U4 (.int .i64 ti):=n.c 12 UI;have a9:g.cell? ⟨P,13,U3⟩=U4 (.int .i64 un):=n.c 13 UI;have r0:g.cell? ⟨G,0,U3⟩=U4 (.int .i64 0):=q.c 0 UI;have r1:g.cell? ⟨G,1,U3⟩=U4 (.int .i64 0):=q.c 1 UI;have r2:g.cell? ⟨G,2,U3⟩=U4 (.bool U5):=q.c 2 UI;have r3:g.cell? ⟨G,3,U3⟩=U4 (.bool U5):=q.c 3 UI;have r4:g.cell? ⟨G,4,U3⟩=U4 (.bool U5):=q.c 4 UI;have r5:g.cell? ⟨G,5,U3⟩=U4 (.bool U5):=q.c 5 UI;have r6:g.cell? ⟨G,6,U3⟩=U4 (.bool U5):=q.c 6 UI;have r7:g.cell? ⟨G,7,U3⟩=U4 (.bool U5):=q.c 7 UI;have r8:g.cell? ⟨G,8,U3⟩=U4 (.bool U5):=q.c 8 UI;have r9:g.cell? ⟨G,9,U3⟩=U4 (.int .i64 0):=q.c 9 UI;have az:g.cell? ⟨G,10,U3⟩=U4 (.int .i64 0):=q.c 10 UI;have ay:g.cell? ⟨G,11,U3⟩=U4 (.int .i64 0):=q.c 11 UI;have ax:g.cell? ⟨G,12,U3⟩=U4 (.int .i64 0):=q.c 12 UI;have aw:g.cell? ⟨G,13,U3⟩=U4 (.int .i64 0):=q.c 13 UI;have rf:=q.f;have a7:=hide al;clear al n q;go_wp2;refine bodyPost_ret (v:=tA I ev acc fr mn mi ti un) (by simp[results,results87,go_sem,tA,r0,r1,r2,r3,r4,r5,r6,r7,r8,r9,az,ay,ax,aw]) rfl ⟨I,ev,acc,fr,mn,mi,ti,un,s',rfl,a6.y,?_,?_⟩
 ·exact (((((((((((((((aK a7).other l t).other l t).other l t).other l t).other l t).other l t).other l t).other l t).other l t).other l t).other l t).other l t).other l t).other l t)
 ·exact ((((((((((((((aa.aO y _).aO y _).aO y _).aO y _).aO y _).aO y _).aO y _).aO y _).aO y _).aO y _).aO y _).aO y _).aO y _).aO y _)
def kv:UU:=⟨#[116,104,105,110,103]⟩
def kn:UU:=⟨#[98,111,111,107]⟩
def qA:UU:=⟨#[104,111,108,100]⟩
def qD:UU:=⟨#[119,97,105,116]⟩
def ic:UU:=⟨#[115,101,114,105,101,115]⟩
def qR:UU:=⟨#[99,111,110,102,105,114,109]⟩
def kr:UU:=⟨#[99,97,110,99,101,108]⟩
def dY:UU:=⟨#[108,105,115,116]⟩
def qM:UU:=⟨#[119,97,105,116,105,110,103]⟩
def km:UU:=⟨#[112,101,97,107]⟩
def ki:UU:=⟨#[102,105,110,100]⟩
def iZ:UU:=⟨#[101,120,112,97,110,100]⟩
def qC:UU:=⟨#[116,105,99,107]⟩
def kL:UU:=⟨#[99,108,111,99,107]⟩
def oe(s:UU):UX:=aB.isNum s.data.toList
inductive gK (ws:UV UU):U8->UY × UX->Prop where
 |aT (h:bD ws 0 U5 kv=U6):gK ws (.iface 149 (.agg #[.string (gV ws (1,U5)),.int .i64 (bT ws (aQ ws [bI] (1,U5)) dE cL)])) (aQ ws [bI,dE] (1,U5))
 |book (h:bD ws 0 U5 kn=U6):gK ws (.iface 154 (.agg #[.string (gV ws (1,U5)),.int .i64 (bT ws (aQ ws [bI] (1,U5)) dE cL),.int .i64 (bT ws (aQ ws [bI,dE] (1,U5)) bA dL),.int .i64 (bT ws (aQ ws [bI,dE,bA] (1,U5)) bA dL)])) (aQ ws [bI,dE,bA,bA] (1,U5))
 |hold (h:bD ws 0 U5 qA=U6):gK ws (.iface 156 (.agg #[.string (gV ws (1,U5)),.int .i64 (bT ws (aQ ws [bI] (1,U5)) dE cL),.int .i64 (bT ws (aQ ws [bI,dE] (1,U5)) bA dL),.int .i64 (bT ws (aQ ws [bI,dE,bA] (1,U5)) bA dL),.int .i64 (bT ws (aQ ws [bI,dE,bA,bA] (1,U5)) eK cL)])) (aQ ws [bI,dE,bA,bA,eK] (1,U5))
 |wait (h:bD ws 0 U5 qD=U6):gK ws (.iface 157 (.agg #[.string (gV ws (1,U5)),.int .i64 (bT ws (aQ ws [bI] (1,U5)) dE cL),.int .i64 (bT ws (aQ ws [bI,dE] (1,U5)) bA dL),.int .i64 (bT ws (aQ ws [bI,dE,bA] (1,U5)) bA dL),.int .i64 (bT ws (aQ ws [bI,dE,bA,bA] (1,U5)) eK cL)])) (aQ ws [bI,dE,bA,bA,eK] (1,U5))
 |series (h:bD ws 0 U5 ic=U6) (pc ev:UZ) (acc:UV UZ) (fr mn mi ti un:UZ) (s:UY × UX) (hr:kl ws (aQ ws [bI,dE] (1,U5)) pc ev acc fr mn mi ti un s):gK ws (.iface 165 (.agg #[.string (gV ws (1,U5)),.int .i64 (bT ws (aQ ws [bI] (1,U5)) dE cL),.int .i64 pc,.int .i64 ev,.bool (aI acc 0),.bool (aI acc 1),.bool (aI acc 2),.bool (aI acc 3),.bool (aI acc 4),.bool (aI acc 5),.bool (aI acc 6),.int .i64 fr,.int .i64 mn,.int .i64 mi,.int .i64 ti,.int .i64 un])) s
 |confirm (h:bD ws 0 U5 qR=U6):gK ws (.iface 167 (.agg #[.int .i64 (bT ws (1,U5) oe cL)])) (aQ ws [oe] (1,U5))
 |cancel (h:bD ws 0 U5 kr=U6):gK ws (.iface 168 (.agg #[.int .i64 (bT ws (1,U5) oe cL)])) (aQ ws [oe] (1,U5))
 |list0 (h:bD ws 0 U5 dY=U6) (hm:cB ws.length (aQ ws [bI] (1,U5)).1 (aQ ws [bI] (1,U5)).2=U5):gK ws (.iface 170 (.agg #[.string (gV ws (1,U5)),.bool U5,.int .i64 0,.int .i64 0])) (aQ ws [bI] (1,U5))
 |list1 (h:bD ws 0 U5 dY=U6) (hm:cB ws.length (aQ ws [bI] (1,U5)).1 (aQ ws [bI] (1,U5)).2=U6):gK ws (.iface 170 (.agg #[.string (gV ws (1,U5)),.bool U6,.int .i64 (bT ws (aQ ws [bI] (1,U5)) bA dL),.int .i64 (bT ws (aQ ws [bI,bA] (1,U5)) bA dL)])) (aQ ws [bI,bA,bA] (1,U5))
 |waiting (h:bD ws 0 U5 qM=U6):gK ws (.iface 173 (.agg #[])) (1,U5)
 |cY (h:bD ws 0 U5 km=U6):gK ws (.iface 176 (.agg #[.string (gV ws (1,U5)),.int .i64 (bT ws (aQ ws [bI] (1,U5)) bA dL),.int .i64 (bT ws (aQ ws [bI,bA] (1,U5)) bA dL)])) (aQ ws [bI,bA,bA] (1,U5))
 |find (h:bD ws 0 U5 ki=U6):gK ws (.iface 178 (.agg #[.string (gV ws (1,U5)),.int .i64 (bT ws (aQ ws [bI] (1,U5)) dE cL),.int .i64 (bT ws (aQ ws [bI,dE] (1,U5)) eK cL),.int .i64 (bT ws (aQ ws [bI,dE,eK] (1,U5)) bA dL),.int .i64 (bT ws (aQ ws [bI,dE,eK,bA] (1,U5)) bA dL)])) (aQ ws [bI,dE,eK,bA,bA] (1,U5))
 |expand (h:bD ws 0 U5 iZ=U6) (pc ev:UZ) (acc:UV UZ) (fr mn mi ti un:UZ) (s:UY × UX) (hr:kl ws (1,U5) pc ev acc fr mn mi ti un s):gK ws (.iface 180 (.agg #[.int .i64 pc,.int .i64 ev,.bool (aI acc 0),.bool (aI acc 1),.bool (aI acc 2),.bool (aI acc 3),.bool (aI acc 4),.bool (aI acc 5),.bool (aI acc 6),.int .i64 fr,.int .i64 mn,.int .i64 mi,.int .i64 ti,.int .i64 un])) s
 |tick (h:bD ws 0 U5 qC=U6):gK ws (.iface 182 (.agg #[.int .i64 (bT ws (1,U5) eK cL)])) (aQ ws [eK] (1,U5))
 |clock (h:bD ws 0 U5 kL=U6):gK ws (.iface 183 (.agg #[])) (1,U5)
 |none (h0:bD ws 0 U5 kv=U5) (h1:bD ws 0 U5 kn=U5) (h2:bD ws 0 U5 qA=U5) (h3:bD ws 0 U5 qD=U5) (h4:bD ws 0 U5 ic=U5) (h5:bD ws 0 U5 qR=U5) (h6:bD ws 0 U5 kr=U5) (h7:bD ws 0 U5 dY=U5) (h8:bD ws 0 U5 qM=U5) (h9:bD ws 0 U5 km=U5) (h10:bD ws 0 U5 ki=U5) (h11:bD ws 0 U5 iZ=U5) (h12:bD ws 0 U5 qC=U5) (h13:bD ws 0 U5 kL=U5):gK ws .nilIface (0,U6)
theorem MK(R A:UY)(ws:UV UU)(w:U7)(h:RS w R A ws 0 U5)(he:Env w)(f:10<=R)(hP:bD ws 0 U5 ic=U6\/bD ws 0 U5 iZ=U6->Dg ws):
  Va prog 62 #[.pointer (U4 ⟨R,0,U3⟩)] w fun e w' =>
   ∃ (v:U8) (s:UY × UX),e=.returned v/\gK ws v s/\RS w' R A ws s.1 s.2/\Kept R w w':=by
 have t:=hide he;have bo:=hide hP;clear he hP;have k0:=Kept.refl R w;have h0:=h;clear h
 go_in
 go_wp2_with fail
 refine (iJ R A ws 0 U5 kv w h0).mono ?_;rintro e w1 ⟨rfl,h1,c⟩;have k1:=k0.trans c;clear c k0 h0;rcases YQ (bD ws 0 U5 kv) with T|T
 ·rw[T,U1 rfl] at h1;have E1:=hide ((aK t).kept k1 f)
  go_wp2_with fail
  refine (sN R A ws _ _ w1 h1).mono ?_;rintro e cd ⟨rfl,bh,c⟩;have a5:=k1.trans c;have bv:=hide ((aK E1).kept c f);clear c k1 h1 E1
  go_wp2_with fail
  refine (xY R A ws _ _ cd bh).mono ?_;rintro e dr ⟨rfl,cu,c⟩;have cm:=a5.trans c;have d2:=hide ((aK bv).kept c f);clear c a5 bh bv;have g:=hide cm;have j:=hide cu;go_wp2;go_ret;exact⟨_,(aQ ws [bI,dE] (1,U5)),rfl,.aT T,j.y,g.y⟩
 rw[T] at h1 ⊢
 go_wp2_with fail
 refine (iJ R A ws 0 U5 kn w1 h1).mono ?_;rintro e w2 ⟨rfl,h2,c⟩;have k2:=k1.trans c;clear c k1 h1;rcases YQ (bD ws 0 U5 kn) with S|S
 ·rw[S,U1 rfl] at h2;have E2:=hide ((aK t).kept k2 f)
  go_wp2_with fail
  refine (B8 R A ws (1,U5) w2 h2 (aK E2) f).mono ?_;rintro e dq ⟨rfl,ct,c⟩;have cl:=k2.trans c;have d1:=hide ((aK E2).kept c f);clear c k2 h2 E2;have g:=hide cl;have j:=hide ct;go_wp2;go_ret;exact⟨_,(aQ ws [bI,dE,bA,bA] (1,U5)),rfl,.book S,j.y,g.y⟩
 rw[S] at h2 ⊢
 go_wp2_with fail
 refine (iJ R A ws 0 U5 qA w2 h2).mono ?_;rintro e w3 ⟨rfl,h3,c⟩;have k3:=k2.trans c;clear c k2 h2;rcases YQ (bD ws 0 U5 qA) with P|P
 ·rw[P,U1 rfl] at h3;have E3:=hide ((aK t).kept k3 f)
  go_wp2_with fail
  refine (B8 R A ws (1,U5) w3 h3 (aK E3) f).mono ?_;rintro e cc ⟨rfl,bg,c⟩;have a4:=k3.trans c;have bu:=hide ((aK E3).kept c f);clear c k3 h3 E3
  go_wp2_with fail
  refine (vZ R A ws _ _ cc bg).mono ?_;rintro e dp ⟨rfl,cs,c⟩;have ck:=a4.trans c;have d0:=hide ((aK bu).kept c f);clear c a4 bg bu;have g:=hide ck;have j:=hide cs;go_wp2;go_ret;exact⟨_,(aQ ws [bI,dE,bA,bA,eK] (1,U5)),rfl,.hold P,j.y,g.y⟩
 rw[P] at h3 ⊢
 go_wp2_with fail
 refine (iJ R A ws 0 U5 qD w3 h3).mono ?_;rintro e w4 ⟨rfl,h4,c⟩;have k4:=k3.trans c;clear c k3 h3;rcases YQ (bD ws 0 U5 qD) with O|O
 ·rw[O,U1 rfl] at h4;have E4:=hide ((aK t).kept k4 f)
  go_wp2_with fail
  refine (B8 R A ws (1,U5) w4 h4 (aK E4) f).mono ?_;rintro e ca ⟨rfl,bf,c⟩;have a3:=k4.trans c;have bs:=hide ((aK E4).kept c f);clear c k4 h4 E4
  go_wp2_with fail
  refine (vZ R A ws _ _ ca bf).mono ?_;rintro e dn ⟨rfl,cr,c⟩;have cj:=a3.trans c;have dz:=hide ((aK bs).kept c f);clear c a3 bf bs;have g:=hide cj;have j:=hide cr;go_wp2;go_ret;exact⟨_,(aQ ws [bI,dE,bA,bA,eK] (1,U5)),rfl,.wait O,j.y,g.y⟩
 rw[O] at h4 ⊢
 go_wp2_with fail
 refine (iJ R A ws 0 U5 ic w4 h4).mono ?_;rintro e w5 ⟨rfl,h5,c⟩;have k5:=k4.trans c;clear c k4 h4;rcases YQ (bD ws 0 U5 ic) with y|y
 ·rw[y,U1 rfl] at h5;have E5:=hide ((aK t).kept k5 f)
  go_wp2_with fail
  refine (sN R A ws _ _ w5 h5).mono ?_;rintro e b9 ⟨rfl,bc,c⟩;have az:=k5.trans c;have bq:=hide ((aK E5).kept c f);clear c k5 h5 E5
  go_wp2_with fail
  refine (xY R A ws _ _ b9 bc).mono ?_;rintro e b8 ⟨rfl,ba,c⟩;have ay:=az.trans c;have ak:=hide ((aK bq).kept c f);clear c az bc bq
  go_wp2_with fail
  refine (aK bo (.inl y) R A (aQ ws [bI,dE] (1,U5)) b8 ba (aK ak) f).mono ?_;rintro e dm ⟨pc,ev,acc,fr,mn,mi,ti,un,s,rfl,hr,cq,c⟩;have HR:=hide hr;clear hr;simp only[tA];have ch:=ay.trans c;have dy:=hide ((aK ak).kept c f);clear c ay ba ak;have g:=hide ch;have j:=hide cq;go_wp2;go_ret;exact⟨_,s,rfl,.series y pc ev acc fr mn mi ti un s HR.y,j.y,g.y⟩
 rw[y] at h5 ⊢
 go_wp2_with fail
 refine (iJ R A ws 0 U5 qR w5 h5).mono ?_;rintro e w6 ⟨rfl,h6,c⟩;have k6:=k5.trans c;clear c k5 h5;rcases YQ (bD ws 0 U5 qR) with N|N
 ·rw[N,U1 rfl] at h6;have E6:=hide ((aK t).kept k6 f)
  go_wp2_with fail
  refine (F8 R A ws _ _ w6 h6).mono ?_;rintro e di ⟨rfl,cp,c⟩;have cg:=k6.trans c;have dw:=hide ((aK E6).kept c f);clear c k6 h6 E6;have g:=hide cg;have j:=hide cp;go_wp2;go_ret;exact⟨_,(aQ ws [oe] (1,U5)),rfl,.confirm N,j.y,g.y⟩
 rw[N] at h6 ⊢
 go_wp2_with fail
 refine (iJ R A ws 0 U5 kr w6 h6).mono ?_;rintro e w7 ⟨rfl,h7,c⟩;have k7:=k6.trans c;clear c k6 h6;rcases YQ (bD ws 0 U5 kr) with M|M
 ·rw[M,U1 rfl] at h7;have E7:=hide ((aK t).kept k7 f)
  go_wp2_with fail
  refine (F8 R A ws _ _ w7 h7).mono ?_;rintro e dh ⟨rfl,cn,c⟩;have cf:=k7.trans c;have dv:=hide ((aK E7).kept c f);clear c k7 h7 E7;have g:=hide cf;have j:=hide cn;go_wp2;go_ret;exact⟨_,(aQ ws [oe] (1,U5)),rfl,.cancel M,j.y,g.y⟩
 rw[M] at h7 ⊢
 go_wp2_with fail
 refine (iJ R A ws 0 U5 dY w7 h7).mono ?_;rintro e w8 ⟨rfl,h8,c⟩;have k8:=k7.trans c;clear c k7 h7;rcases YQ (bD ws 0 U5 dY) with x|x
 ·rw[x,U1 rfl] at h8;have E8:=hide ((aK t).kept k8 f)
  cases hm:cB ws.length (aQ ws [bI] (1,U5)).1 (aQ ws [bI] (1,U5)).2
  ·go_wp2_with fail
   refine (Rm R A ws (1,U5) w8 h8 hm).mono ?_;rintro e wz ⟨rfl,hz,kz⟩;have g:=hide (k8.trans kz);have j:=hide hz;have HM:=hide hm;clear hz kz hm k8 h8;go_wp2;go_ret;exact⟨_,(aQ ws [bI] (1,U5)),rfl,.list0 x HM.y,j.y,g.y⟩
  ·go_wp2_with fail
   refine (Sl R A ws (1,U5) w8 h8 (aK E8) f hm).mono ?_;rintro e wz ⟨rfl,hz,kz⟩;have g:=hide (k8.trans kz);have j:=hide hz;have HM:=hide hm;clear hz kz hm k8 h8;go_wp2;go_ret;exact⟨_,(aQ ws [bI,bA,bA] (1,U5)),rfl,.list1 x HM.y,j.y,g.y⟩
 rw[x] at h8 ⊢
 go_wp2_with fail
 refine (iJ R A ws 0 U5 qM w8 h8).mono ?_;rintro e w9 ⟨rfl,h9,c⟩;have k9:=k8.trans c;clear c k8 h8;rcases YQ (bD ws 0 U5 qM) with L|L
 ·rw[L,U1 rfl] at h9;have E9:=hide ((aK t).kept k9 f);have g:=hide k9;have j:=hide h9;go_wp2;go_ret;exact⟨_,(1,U5),rfl,.waiting L,j.y,g.y⟩
 rw[L] at h9 ⊢
 go_wp2_with fail
 refine (iJ R A ws 0 U5 km w9 h9).mono ?_;rintro e ax ⟨rfl,F,c⟩;have J:=k9.trans c;clear c k9 h9;rcases YQ (bD ws 0 U5 km) with K|K
 ·rw[K,U1 rfl] at F;have b6:=hide ((aK t).kept J f)
  go_wp2_with fail
  refine (sN R A ws _ _ ax F).mono ?_;rintro e aw ⟨rfl,af,c⟩;have ab:=J.trans c;have V:=hide ((aK b6).kept c f);clear c J F b6
  go_wp2_with fail
  refine (xX R A ws _ _ aw af (aK V) f).mono ?_;rintro e cy ⟨rfl,bn,c⟩;have a9:=ab.trans c;have db:=hide ((aK V).kept c f);clear c ab af V;have g:=hide a9;have j:=hide bn;go_wp2;go_ret;exact⟨_,(aQ ws [bI,bA,bA] (1,U5)),rfl,.cY K,j.y,g.y⟩
 rw[K] at F ⊢
 go_wp2_with fail
 refine (iJ R A ws 0 U5 ki ax F).mono ?_;rintro e av ⟨rfl,E,c⟩;have I:=J.trans c;clear c J F;rcases YQ (bD ws 0 U5 ki) with q|q
 ·rw[q,U1 rfl] at E;have b4:=hide ((aK t).kept I f)
  go_wp2_with fail
  refine (sN R A ws _ _ av E).mono ?_;rintro e au ⟨rfl,ae,c⟩;have aa:=I.trans c;have ai:=hide ((aK b4).kept c f);clear c I E b4
  go_wp2_with fail
  refine (xY R A ws _ _ au ae).mono ?_;rintro e ar ⟨rfl,ad,c⟩;have X:=aa.trans c;have ag:=hide ((aK ai).kept c f);clear c aa ae ai
  go_wp2_with fail
  refine (vZ R A ws _ _ ar ad).mono ?_;rintro e aq ⟨rfl,ac,c⟩;have W:=X.trans c;have U:=hide ((aK ag).kept c f);clear c X ad ag
  go_wp2_with fail
  refine (xX R A ws _ _ aq ac (aK U) f).mono ?_;rintro e cx ⟨rfl,bm,c⟩;have a8:=W.trans c;have c9:=hide ((aK U).kept c f);clear c W ac U;have g:=hide a8;have j:=hide bm;go_wp2;go_ret;exact⟨_,(aQ ws [bI,dE,eK,bA,bA] (1,U5)),rfl,.find q,j.y,g.y⟩
 rw[q] at E ⊢
 go_wp2_with fail
 refine (iJ R A ws 0 U5 iZ av E).mono ?_;rintro e ao ⟨rfl,D,c⟩;have H:=I.trans c;clear c I E;rcases YQ (bD ws 0 U5 iZ) with l|l
 ·rw[l,U1 rfl] at D;have al:=hide ((aK t).kept H f)
  go_wp2_with fail
  refine (aK bo (.inr l) R A (1,U5) ao D (aK al) f).mono ?_;rintro e cw ⟨pc,ev,acc,fr,mn,mi,ti,un,s,rfl,hr,bj,c⟩;have HR:=hide hr;clear hr;simp only[tA];have a7:=H.trans c;have c8:=hide ((aK al).kept c f);clear c H D al;have g:=hide a7;have j:=hide bj;go_wp2;go_ret;exact⟨_,s,rfl,.expand l pc ev acc fr mn mi ti un s HR.y,j.y,g.y⟩
 rw[l] at D ⊢
 go_wp2_with fail
 refine (iJ R A ws 0 U5 qC ao D).mono ?_;rintro e an ⟨rfl,C,c⟩;have G:=H.trans c;clear c H D;rcases YQ (bD ws 0 U5 qC) with o|o
 ·rw[o,U1 rfl] at C;have bz:=hide ((aK t).kept G f)
  go_wp2_with fail
  refine (vZ R A ws _ _ an C).mono ?_;rintro e cv ⟨rfl,bi,c⟩;have a6:=G.trans c;have cz:=hide ((aK bz).kept c f);clear c G C bz;have g:=hide a6;have j:=hide bi;go_wp2;go_ret;exact⟨_,(aQ ws [eK] (1,U5)),rfl,.tick o,j.y,g.y⟩
 rw[o] at C ⊢
 go_wp2_with fail
 refine (iJ R A ws 0 U5 kL an C).mono ?_;rintro e du ⟨rfl,z,c⟩;have aj:=G.trans c;clear c G C;rcases YQ (bD ws 0 U5 kL) with n|n
 ·rw[n,U1 rfl] at z;have d4:=hide ((aK t).kept aj f);have g:=hide aj;have j:=hide z;go_wp2;go_ret;exact⟨_,(1,U5),rfl,.clock n,j.y,g.y⟩
 rw[n] at z ⊢;have c2:=z.c2;have f2:=z.f2;go_wp2;go_ret;exact⟨_,(0,U6),rfl,.none T S P O y N M x L K q l o n,z.bad,aj.setCell _ _⟩
theorem xz(s:UU):∀ x∈aB.aP s,x.size<=s.size:=by
 intro x c;unfold aB.aP at c;simp only[V9] at c;obtain⟨y,_,rfl⟩:=c;have:(s.extract y.1 y.2).size=min y.2 s.size-y.1:=ByteArray.size_extract ..;omega
inductive mY (s:UU):Ending->Prop where
 |long (h:160<s.size):mY s (.returned (.tuple #[.nilIface,.int .i64 1,.int .i64 0]))
 |bad (h:s.size<=160) (v:U8) (st:UY × UX) (hl:gK (aB.aP s) v st) (hb:st.2=U6\/cB (aB.aP s).length st.1 st.2=U6):mY s (.returned (.tuple #[.nilIface,.int .i64 2,.int .i64 st.1]))
 |qj (h:s.size<=160) (v:U8) (st:UY × UX) (hl:gK (aB.aP s) v st) (h2:st.2=U5) (hb:cB (aB.aP s).length st.1 st.2=U5):mY s (.returned (.tuple #[v,.int .i64 0,.int .i64 0]))
theorem Ge(s:UU):∀ k:UY,k<=s.size->(aB.jF s k).length+(if (aB.eH s k).size=0 then 0 else 1)<=k
 |0,_=>by
  have:=aB.qB s 0;have:=aB.xt s 0;rw[U1 UI];omega
 |k+1,hk=>by
  have ih:=Ge s k UI
  by_cases g:aB.dP s k=32
  ·obtain⟨h,c⟩:=aB.xE s k UI g;have e:(if (⟨#[]⟩:UU).size=0 then (0:UY) else 1)=0:=U1 rfl;rw[h,c,e,VU]
   by_cases f:(aB.eH s k).size=0
   ·rw[U1 f] at ih ⊢;simp;omega
   ·rw[U0 f] at ih ⊢;simp;omega
  ·obtain⟨_,c⟩:=aB.xr s k g;rw[c]
   split at ih <;> split <;> omega
theorem Sy(s:UU):(aB.aP s).length<=s.size:=by
 have:=Ge s s.size (zq _);rw[aB.vk,VU]
 split <;> rename_i hc <;> simp[hc] at this ⊢ <;> omega
theorem Rj{j g n cap:UY}{c:UV UU}(h:w.ownsRow j 9 1 (.slice (U4 ⟨g,0,U3⟩) n cap) n (c.map YK)):g<w.heap.size/\∀ (i:UY)(y:i<c.length),w.cell? ⟨g,i,U3⟩=U4 (.string c[i]):=by
 rcases h.2 with ⟨C,_⟩|⟨H,z,q,A,E,o,F,_,D,ht⟩
 ·cases C
 ·cases A
  have l:g<w.heap.size:=by
   by_cases l:g<w.heap.size
   ·exact l
   ·rw[Array.getElem?_eq_none UI] at o;cases o
  refine⟨l,fun i y=>?_⟩;have G:=h.1;have x:(c.map YK).length=c.length:=UJ
  have f:q[i]?=U4 (.string c[i]):=by
   have t:(c.map YK)[i]?=U4 (.string c[i]):=by simp[y]
   rw[<- ht,List.getElem?_take,U1 UI] at t
   simpa using t
  simp[VA,o,f]
theorem Mq(s:UU)(w:U7)(K:Env w)(M:bD (aB.aP s) 0 U5 ic=U6\/bD (aB.aP s) 0 U5 iZ=U6->Dg (aB.aP s)):
  Va prog 45 #[.string s] w fun e w'=>mY s e/\U9 w.heap.size w w':=by
 have HE:=hide K;have ab:=K.size;clear K
 by_cases D:s.size<=160
 ·have I:(s.size:UZ)<=160:=UI
  go_in
  go_wp2_with fail
  refine (Q0 s w D).mono ?_;rintro e w1 ⟨A,rfl,hA,S,L⟩;obtain⟨aa,l⟩:=Rj S;have H:=Sy s;have z:=xz s;obtain⟨ws,f⟩:∃ ws,ws=aB.aP s:=⟨_,rfl⟩;have C:=hide f;rw[<- f] at l H z M ⊢;have O:=hide M;clear f S M;have F:=hide l;have N:=hide z;clear l z
  go_wp2_with fail
  obtain⟨X,G⟩:∃ X,X=w1.alloc (.cells #[.slice (U4 ⟨A,0,U3⟩) ws.length ws.length,.int .i64 0,.bool U5] 123):=⟨_,rfl⟩;rw[<- G];have o:U9 w1.heap.size w1 X:=by rw[G];exact (zr _ _).alloc (zq _) _
  have E:RS X w1.heap.size A ws 0 U5:=by
   refine⟨?_,?_,?_,?_,?_,by omega,fun i hi=>cell_later o (aK F i hi),by omega,Nat.zero_le _,fun x hx=>Vg (aK N x hx) D⟩ <;> (rw[G];simp)
  clear G;have U:=((aK HE).later L).later o;have y:=L.size;refine (MK w1.heap.size A ws X E U UI (aK O)).mono ?_;rintro e w2 ⟨v,st,rfl,T,t,W⟩;have c1:=t.c1;have V:=t.c2;have R:=hide T;have c:U9 w.heap.size w w2:=(L.trans (o.mono y)).trans (W.below y (Vg y o.size));have J:=t.uX;clear T U E o;obtain⟨q,wr⟩:=st;dsimp only at c1 V t J;have g:cB ws.length q wr=U5\/cB ws.length q wr=U6:=by cases cB ws.length q wr <;> simp
  cases wr
  ·rcases g with g|g
   ·have P:=hide g
    go_wp2_with fail
    refine (im w1.heap.size A ws q U5 w2 t).mono ?_;rintro e w3 ⟨rfl,n,j⟩;have h:U9 w.heap.size w w3:=by rw[j];exact⟨c.os,c.tape,c.output,c.size,c.block⟩
    clear j t;rw[g];go_wp2;go_ret3;have f:=C.y;subst f;exact⟨.qj D v (q,U5) R.y rfl P.y,h⟩
   ·have P:=hide g
    go_wp2_with fail
    refine (im w1.heap.size A ws q U5 w2 t).mono ?_;rintro e w3 ⟨rfl,n,j⟩;have h:U9 w.heap.size w w3:=by rw[j];exact⟨c.os,c.tape,c.output,c.size,c.block⟩
    have d1:w3.cell? ⟨w1.heap.size,1,U3⟩=U4 (.int .i64 q):=by rw[j];exact c1
    clear j t c1 V;rw[g];go_wp2
    go_quiet (fail)
    go_wp2;go_ret3;have f:=C.y;subst f;exact⟨.bad D v (q,U5) R.y (.inr P.y),⟨h.os,h.tape,h.output,h.size,h.block⟩⟩
  ·clear t g;go_wp2
   go_quiet (fail)
   go_wp2;go_ret3;have f:=C.y;subst f;exact⟨.bad D v (q,U6) R.y (.inl rfl),⟨c.os,c.tape,c.output,c.size,c.block⟩⟩
 ·have I:¬ (s.size:UZ)<=160:=UI
  go_in
  go_wp2;go_ret3;exact⟨.long UI,Below.refl _ _⟩
theorem SE(s:UU)(w:U7)(c:Env w):
  Va prog 45 #[.string s] w fun e w'=>mY s e/\U9 w.heap.size w w':=Mq s w c (fun _ R A st w h c f=>TV R A _ st w h c f)
open aA (aM St dB kept dZ cS cN gC cA bW gJ ec gD n8 Inv)
theorem Env.n9(h:Env w)(j:U9 10 w wx):Env wx:=by
 obtain⟨m,t⟩:=h.tw;have c:∀ {b:UY}{o:UY}{v:U8},b<10->w.cell? ⟨b,o,U3⟩=U4 v->wx.cell? ⟨b,o,U3⟩=U4 v:=fun g q=>(j.cell (p:=⟨_,_,U3⟩) g).trans q
 have ht:=h.iL;obtain⟨H,G,F,E,D,C,A,z,y,x,n,l⟩:=ht;refine⟨⟨c UK H,c UK G,c UK F,c UK E,c UK D,c UK C,c UK A,c UK z,c UK y,c UK x,c UK n,c UK l⟩,⟨m,c UK t⟩,?_,Vg h.size j.size,c UK h.mo,c UK h.tu,c UK h.we,c UK h.th,c UK h.fr,c UK h.sa,c UK h.su⟩;have f:=h.pow;unfold Lib.TabIs World.var? at f ⊢;simp only[uW,Option.bind_some] at f ⊢;rw[j.block 0 UK];exact f
theorem Step.n9{S:bB->Prop}(h:Step S B aJ col' w w')(t:10<=B)(q:10<=w.heap.size)(l:∀ b,b<10->aJ b=U3):U9 10 w w'/\∀ b,b<10->col' b=U3:=by
 obtain⟨G,f,o⟩:=h.off;refine⟨⟨f.os,f.tape,f.output,f.size,fun b g=>f.block b UI (fun n=>?_)⟩,fun b g=>?_⟩
 ·rcases o b n with ⟨c,e,_⟩|⟨_,e⟩
  ·rw[l b g] at e;cases e
  ·omega
 ·cases e:col' b with
  |none=>rfl
  |some c =>
   rcases h.new b c e with j|j
   ·rw[l b g] at j;cases j
   ·omega
structure BD(w:U7)(p d:UY)(s:St)(r:Raw)(aJ:UY->UW bB):Prop where
 pc:w.heap[p]?=U4 (.cells #[.pointer (U4 ⟨d,0,U3⟩)] 99 (0,0))
 pn:aJ p=U3
 ds:dS w d s r aJ
 env:Env w
 gl:∀ b,b<10->aJ b=U3
def lQ(w:U7)(p d:UY)(aJ:UY->UW bB)(q:St × aA.bO)(v:U8)(w':U7):Prop :=
 ∃ (c:Raw) (col':UY->UW bB),BD w' p d q.1 c col'/\Step anyS w.heap.size aJ col' w w'/\ku w' w.heap.size col' v q.2
def wA(t:UU):Prop:=∀ X,Env X->Va prog 45 #[.string t] X fun e w'=>mY t e/\U9 X.heap.size X w'
theorem LR(h:BD w p d s r aJ)(t:UU)(c:U8)(l:aA.fJ)(K:wA t)(hr:∀ e,mY t e->e=.returned (.tuple #[c,.int .i64 0,.int .i64 0]))(x:aA.ec (aA.aU s l).1)(y:aA.Inv (aA.ig s l).1)(z:(aA.aU s l).2.granted.length<=50000)
  (g:∀ X,gy X->10<=X.heap.size->dS X d s r aJ->Va prog 64 #[.pointer (U4 ⟨d,0,U3⟩),c] X fun e w'=>∃ v,e=.returned v/\dX X d aJ (aA.aU s l) v w'):
  Va prog 21 #[.pointer (U4 ⟨p,0,U3⟩),.string t] w fun e w'=>∃ v,e=.returned v/\lQ w p d aJ (aA.ig s l) v w':=by
 have J:U9 w.heap.size w (w.alloc aW):=(zr _ _).alloc (zq _) _;have hq:=cC w aW;have W:w.heap.size<(w.alloc aW).heap.size:=UJ
 have RD:=aC (K (w.alloc aW) (h.env.later J));have n:=aC (zA J (zA (Q7.of hq) (zA (h.ds.dk.none (zq _)) W)));have HH:=aC h;have HR:=aC hr;have HD:Hid (∀ w1,U9 w.heap.size w w1->Va prog 46 #[.pointer (U4 ⟨d,0,U3⟩),c] w1 fun e w'=>∃ v,e=.returned v/\dX w1 d aJ (aA.ig s l) v w'):=fun w1 k=>On ⟨h.ds.dk.later k,h.ds.of,h.ds.wl,h.ds.hl,h.ds.inv⟩ c l x z (fun X V I=>g X (((h.env.later k).later V).iL) (Vg (Vg h.env.size k.size) V.size) I)
 have HI:=aC y;have f:p<w.heap.size:=(YR.1 h.pc).1;clear h hr g J hq W z x y;generalize aA.ig s l=q at *
 go_in
 go_upto_region 1 with fail
 change YS _ _ _ _ (w.alloc aW);generalize w.alloc aW=X at *
 go_upto_region 2 with (first
  |(go_at_call 45;refine RD.y.mono ?_;rintro e w1 ⟨o,C⟩;obtain rfl:=HR.y _ o))
 have U:Hid (U9 w.heap.size w w1):=n.y.1.trans (C.mono n.y.1.size)
 have pc:w1.cell? ⟨p,0,U3⟩=U4 (.pointer (U4 ⟨d,0,U3⟩)):=by
  have:=(U.y.block p f).trans HH.y.pc;simp[VA,this]
 have DD:=aC (HD.y w1 U.y);have QX:Hid (Q7 w1 w.heap.size/\w.heap.size<w1.heap.size):=⟨n.y.2.1.later (C.block _ n.y.2.2.2),WE n.y.2.2.2 C.size⟩;clear HD RD HR C o
 go_wp2_with fail
 refine DD.y.mono ?_;rintro e w2 ⟨v,rfl,ap⟩;obtain⟨L,at_,D,T,S,R,P,H,G,F,E,c1,O,N,M,rfl,q7,hf⟩:=ap.up U.y (zq _) QX.y.2 n.y.2.2.1 QX.y.1
 have HF:Hid (lQ w p d aJ q (bC L at_ D (.slice T H c1) (.slice S G O) (.slice R F N) (.slice P E M)) (cK w2 w.heap.size (.int .i64 L) (.int .i64 at_) (.int .i64 D) (.slice T H c1) (.slice S G O) (.slice R F N) (.slice P E M))):=by
  obtain⟨r',col',k1,k2,k3,k4,A,k6⟩:=hf (.int .i64 L) (.int .i64 at_) (.int .i64 D) (.slice T H c1) (.slice S G O) (.slice R F N) (.slice P E M);have j:=HH.y;obtain⟨t1,t2⟩:=A.n9 j.env.size j.env.size j.gl;exact⟨r',col',⟨(A.bV f j.pn f).trans j.pc,A.cU j.pn f,⟨k1,k2,k3,k4,HI.y⟩,j.env.n9 t1,t2⟩,A,k6⟩
 clear ap hf DD pc;obtain⟨q0,q1,q2,q3,q4,q5,q6,fq⟩:=q7;simp only[bC]
 go_wp2_with fail
 exact cO results21 ⟨q0,q1,q2,q3,q4,q5,q6,fq⟩ ⟨_,rfl,HF.y⟩
theorem Lq(h:BD w p d s r aJ)(t:UU)(n at_:UZ)(C:wA t)(H:n≠0)(F:∀ e,mY t e->e=.returned (.tuple #[.nilIface,.int .i64 n,.int .i64 at_])):
  Va prog 21 #[.pointer (U4 ⟨p,0,U3⟩),.string t] w fun e w'=>∃ v,e=.returned v/\lQ w p d aJ (s,⟨n,at_,0,[],[],[],[]⟩) v w':=by
 have A:U9 w.heap.size w (w.alloc aW):=(zr _ _).alloc (zq _) _;have G:=cC w aW;have E:w.heap.size<(w.alloc aW).heap.size:=UJ
 have RD:=aC (C (w.alloc aW) (h.env.later A));have y:=aC (zA A (zA (Q7.of G) (zA (h.ds.dk.none (zq _)) E)));have HH:=aC h;have I:=aC F;have q:p<w.heap.size:=(YR.1 h.pc).1;have U:(n != 0)=U6:=by simpa using H
 clear h F A G E H
 go_in
 go_upto_region 1 with fail
 change YS _ _ _ _ (w.alloc aW);generalize w.alloc aW=X at *
 go_upto_region 2 with (first
  |(go_at_call 45;refine RD.y.mono ?_;rintro e w1 ⟨o,l⟩;obtain rfl:=I.y _ o))
 have J:Hid (U9 w.heap.size w w1):=y.y.1.trans (l.mono y.y.1.size);have W:Hid (Q7 w1 w.heap.size):=y.y.2.1.later (l.block _ y.y.2.2.2)
 have HF:Hid (∀ a b c e f g i,lQ w p d aJ (s,⟨n,at_,0,[],[],[],[]⟩) (bC n at_ 0 (.slice U3 0 0) (.slice U3 0 0) (.slice U3 0 0) (.slice U3 0 0)) (cK w1 w.heap.size a b c e f g i)):=fun a b c e f g i=>by
  have j:=HH.y;have D:=lC w1 w.heap.size a b c e f g i;have nq:=j.ds.dk.none (zq w.heap.size);have st:Step anyS w.heap.size aJ aJ w (cK w1 w.heap.size a b c e f g i):=(Step.below J.y).trans ⟨⟨_,D,fun x z=>.inr (by have:x=w.heap.size:=Yo.1 z;subst this;exact⟨nq,Vd _⟩)⟩,fun _ _ h=>h,fun _ _ h=>.inl h⟩;obtain⟨L,K⟩:=st.n9 j.env.size j.env.size j.gl;exact⟨r,aJ,⟨(st.bV q j.pn q).trans j.pc,j.pn,⟨(j.ds.dk.later J.y).off D (fun x z=>by have:x=w.heap.size:=Yo.1 z;subst this;exact nq),j.ds.of,j.ds.wl,j.ds.hl,j.ds.inv⟩,j.env.n9 L,K⟩,st,⟨_,_,_,_,[],rfl,rfl,gI.nil _ _ _,eE.nil _ _ _,eE.nil _ _ _,eE.nil _ _ _,(fun b l=>by cases l),fun b l=>by cases l⟩⟩
 clear RD I l o y;obtain⟨T,S,R,P,O,N,M,V⟩:=W.y
 go_wp2_with fail
 exact cO results21 ⟨T,S,R,P,O,N,M,V⟩ ⟨_,rfl,HF.y _ _ _ _ _ _ _⟩
theorem pe{T:Vc}{fs:Array Field}(f:prog.underlying T=U4 (.struct fs))(c:Vc)(v:U8)(w:U7):(YT (.iface T v) c T U6).run prog w=.ok (.tuple #[v,.bool U6]) w:=by
 simp[YT,go_sem,YU,run_underlying f]
theorem dS.pX{s:aA.St}(h:dS w d s r aJ)(o:Obj):dS ((w.alloc aW).alloc o) d s r aJ/\U9 w.heap.size w ((w.alloc aW).alloc o)/\Q7 ((w.alloc aW).alloc o) w.heap.size/\aJ w.heap.size=U3/\w.heap.size<((w.alloc aW).alloc o).heap.size:=by
 have c:U9 w.heap.size w ((w.alloc aW).alloc o):=((zr _ _).alloc (zq _) _).alloc UJ _;exact⟨⟨h.dk.later c,h.of,h.wl,h.hl,h.inv⟩,c,Q7.of ((Below.heap_alloc _ _ _ UJ).trans (cC w aW)),h.dk.none (zq _),by simp;omega⟩
theorem dX.pT{X:U7}{q:aA.St × aA.bO}(h:dX X d aJ q v w2)(k:U9 w.heap.size w X/\Q7 X w.heap.size/\aJ w.heap.size=U3/\w.heap.size<X.heap.size):
  ∃ (l at_ n:UZ) (C A z y:UW Addr) (j g f c c1 x t o:UY),v=bC l at_ n (.slice C j c1) (.slice A g x) (.slice z f t) (.slice y c o)/\Q7 w2 w.heap.size/\dX w d aJ q v (cK w2 w.heap.size (.int .i64 l) (.int .i64 at_) (.int .i64 n) (.slice C j c1) (.slice A g x) (.slice z f t) (.slice y c o)):=by
 obtain⟨l,at_,n,C,A,z,y,j,g,f,c,c1,x,t,o,e,D,E⟩:=h.up k.1 (zq _) k.2.2.2 k.2.2.1 k.2.1;exact⟨l,at_,n,C,A,z,y,j,g,f,c,c1,x,t,o,e,D,E _ _ _ _ _ _ _⟩
theorem qq(t:Vc)(h:t≠149)(c:Vc)(v:U8)(w:U7):(YT (.iface t v) c 149 U6).run prog w=.ok (.tuple #[.agg #[.string ⟨#[]⟩,.int .i64 0],.bool U5]) w:=by
 simp[YT,go_sem,YU,run_underlying underlying149,h]
theorem rV(t:Vc)(h:t≠154)(c:Vc)(v:U8)(w:U7):(YT (.iface t v) c 154 U6).run prog w=.ok (.tuple #[.agg #[.string ⟨#[]⟩,.int .i64 0,.int .i64 0,.int .i64 0],.bool U5]) w:=by
 simp[YT,go_sem,YU,run_underlying underlying154,h]
theorem rW(t:Vc)(h:t≠156)(c:Vc)(v:U8)(w:U7):(YT (.iface t v) c 156 U6).run prog w=.ok (.tuple #[.agg #[.string ⟨#[]⟩,.int .i64 0,.int .i64 0,.int .i64 0,.int .i64 0],.bool U5]) w:=by
 simp[YT,go_sem,YU,run_underlying underlying156,h]
theorem rU(t:Vc)(h:t≠157)(c:Vc)(v:U8)(w:U7):(YT (.iface t v) c 157 U6).run prog w=.ok (.tuple #[.agg #[.string ⟨#[]⟩,.int .i64 0,.int .i64 0,.int .i64 0,.int .i64 0],.bool U5]) w:=by
 simp[YT,go_sem,YU,run_underlying underlying157,h]
theorem te(t:Vc)(h:t≠165)(c:Vc)(v:U8)(w:U7):(YT (.iface t v) c 165 U6).run prog w=.ok (.tuple #[.agg #[.string ⟨#[]⟩,.int .i64 0,.int .i64 0,.int .i64 0,.bool U5,.bool U5,.bool U5,.bool U5,.bool U5,.bool U5,.bool U5,.int .i64 0,.int .i64 0,.int .i64 0,.int .i64 0,.int .i64 0],.bool U5]) w:=by
 simp[YT,go_sem,YU,run_underlying underlying165,h]
theorem td(t:Vc)(h:t≠167)(c:Vc)(v:U8)(w:U7):(YT (.iface t v) c 167 U6).run prog w=.ok (.tuple #[.agg #[.int .i64 0],.bool U5]) w:=by
 simp[YT,go_sem,YU,run_underlying underlying167,h]
theorem uV(t:Vc)(h:t≠168)(c:Vc)(v:U8)(w:U7):(YT (.iface t v) c 168 U6).run prog w=.ok (.tuple #[.agg #[.int .i64 0],.bool U5]) w:=by
 simp[YT,go_sem,YU,run_underlying underlying168,h]
theorem wO(t:Vc)(h:t≠170)(c:Vc)(v:U8)(w:U7):(YT (.iface t v) c 170 U6).run prog w=.ok (.tuple #[.agg #[.string ⟨#[]⟩,.bool U5,.int .i64 0,.int .i64 0],.bool U5]) w:=by
 simp[YT,go_sem,YU,run_underlying underlying170,h]
theorem wW(t:Vc)(h:t≠173)(c:Vc)(v:U8)(w:U7):(YT (.iface t v) c 173 U6).run prog w=.ok (.tuple #[.agg #[],.bool U5]) w:=by
 simp[YT,go_sem,YU,run_underlying underlying173,h]
theorem zU(t:Vc)(h:t≠176)(c:Vc)(v:U8)(w:U7):(YT (.iface t v) c 176 U6).run prog w=.ok (.tuple #[.agg #[.string ⟨#[]⟩,.int .i64 0,.int .i64 0],.bool U5]) w:=by
 simp[YT,go_sem,YU,run_underlying underlying176,h]
theorem Ec(t:Vc)(h:t≠178)(c:Vc)(v:U8)(w:U7):(YT (.iface t v) c 178 U6).run prog w=.ok (.tuple #[.agg #[.string ⟨#[]⟩,.int .i64 0,.int .i64 0,.int .i64 0,.int .i64 0],.bool U5]) w:=by
 simp[YT,go_sem,YU,run_underlying underlying178,h]
theorem Nh(t:Vc)(h:t≠180)(c:Vc)(v:U8)(w:U7):(YT (.iface t v) c 180 U6).run prog w=.ok (.tuple #[.agg #[.int .i64 0,.int .i64 0,.bool U5,.bool U5,.bool U5,.bool U5,.bool U5,.bool U5,.bool U5,.int .i64 0,.int .i64 0,.int .i64 0,.int .i64 0,.int .i64 0],.bool U5]) w:=by
 simp[YT,go_sem,YU,run_underlying underlying180,h]
theorem Mt(t:Vc)(h:t≠182)(c:Vc)(v:U8)(w:U7):(YT (.iface t v) c 182 U6).run prog w=.ok (.tuple #[.agg #[.int .i64 0],.bool U5]) w:=by
 simp[YT,go_sem,YU,run_underlying underlying182,h]
theorem R9(h:dS w d s r aJ)(id:UZ)(ad:0<=id/\id<=9999999):
  Va prog 97 #[.pointer (U4 ⟨d,0,U3⟩),.agg #[.int .i64 id]] w fun e w'=>∃ v,e=.returned v/\dX w d aJ (aA.aU s (.cancel id)) v w':=by
 obtain⟨hX,aa,V,_⟩:=uL w (.cells #[.int .i64 id] 168);have xi:=aY V 0 rfl;have l:=aC h;have I:=aC (zA hX aa);clear h hX aa V
 go_in
 go_upto_region 1 with fail
 change YS _ _ _ _ ((w.alloc (.cells #[.int .i64 id] 168)).alloc aW);generalize (w.alloc (.cells #[.int .i64 id] 168)).alloc aW=X at I xi ⊢;have t:=l.y.dk.later I.y.1;obtain⟨m,f,a1,a2,a3,a4⟩:=t.me;have kk:=xM (n:=id) UI UI;have c:=(a3.block (w':=X.drew) rfl).look xC underlying138 (Pp X.drew) kk;rw[a4 id] at c;have QX:Hid (Q7 X.drew (w.heap.size+1)):=Q7.of I.y.2;have BX:Hid (U9 w.heap.size w X.drew):=I.y.1.drew
 cases G:gv r.eg id with
 |none =>
  rw[G] at c;have j:(Yu 138 (.map (U4 m)) (.int .i64 id) U5).run prog X.drew=.ok (.pointer U3) X.drew:=c;have HD:Hid (aA.aU s (.cancel id)=(s,aA.bO.error 9)):=by have e:=Uv l.y.of G;simp only[Hid,aA.aU,e]
  clear c a3 a4 G t I
  go_big_region
  clear j xi a1
  go_wp2_with fail
  refine (lF 9 X.drew).mono ?_;rintro e w1 ⟨rfl,hb⟩;have K:=aC (l.y.refuse BX.y QX.y hb HD.y);obtain⟨S,R,P,O,N,M,L,fq⟩:=K.y.1;simp only[bC]
  go_wp2_with fail
  exact cO results97 ⟨S,R,P,O,N,M,L,fq⟩ ⟨_,rfl,K.y.2⟩
 |some b =>
  rw[G] at c;obtain⟨g,A,rfl,rfl⟩:=HJ G;have j:(Yu 138 (.map (U4 m)) (.int .i64 g.e.id) U5).run prog X.drew=.ok (.pointer (U4 ⟨g.eb,0,U3⟩)) X.drew:=c;have hf:=UA l.y.of t.ni A;have ck:X.drew.cell? ⟨g.eb,1,U3⟩=U4 (.int .i64 g.e.kind):=(t.en g A).1.k;have hd:=t.later (dM X);have HD:Hid (aA.aU s (.cancel g.e.id)=({ s with es:=kept g.e.id s.es },aA.bO.num 0)):=by simp only[Hid,aA.aU,hf]
  have hQ:w.heap.size+1<X.drew.heap.size:=Vh _ _ QX.y.q0;have H:aJ (w.heap.size+1)=U3:=l.y.dk.none UI
  by_cases F:g.e.kind=1
  ·have ac:(g.e.kind != 1)=U5:=by simpa using F
   have LV:=aC (IU hd l.y.of l.y.wl l.y.aS A (l.y.hl.nt t.ni A F));have ST:Hid (Step anyS w.heap.size aJ aJ w X.drew):=Step.below BX.y;have Q2:=QX;have q:=hQ;have o:=H;clear c a3 a4 G t I hf F hd A
   go_big_region
   clear j xi a1
   go_wp2_with fail
   refine LV.y.mono ?_;rintro e w2 ⟨rfl,r2,ab,z,y,U,T,C⟩;have hq:=C.bV q o q
   have K:Hid (dX w d aJ (aA.aU s (.cancel g.e.id)) (bC 0 0 0 (.slice U3 0 0) (.slice U3 0 0) (.slice U3 0 0) (.slice U3 0 0)) (cK w2 (w.heap.size+1) (.int .i64 0) (.int .i64 0) (.int .i64 0) (.slice U3 0 0) (.slice U3 0 0) (.slice U3 0 0) (.slice U3 0 0))):=by
    rw[HD.y];exact vL z y U T (ST.y.trans (C.any ST.y.size)) UI (C.cU o q) 0 0 _ _ _ _ _ _ _
   clear z y U T C LV;obtain⟨S,R,P,O,N,M,L,fq⟩:=Q2.y.later hq
   go_wp2_with fail
   exact cO results97 ⟨S,R,P,O,N,M,L,fq⟩ ⟨_,rfl,K.y⟩
  ·have ac:(g.e.kind != 1)=U6:=by simpa using F
   have D:r.hl.length<=1000:=by
    have h1:=l.y.hl.len;have h2:r.eg.length=s.es.length:=by rw[<- l.y.of.es];simp
    have h3:=lY l.y.aS;omega
   have DR:=aC (fun wx (k:U9 X.drew.heap.size X.drew wx)=>Hs (hd.later k) l.y.hl.1 D g.e.bY g.e.id ⟨_,l.y.hl.has A F,rfl,rfl⟩);have c0:X.drew.cell? ⟨g.eb,0,U3⟩=U4 (.int .i64 g.e.id):=(t.en g A).1.en.c0;have c5:X.drew.cell? ⟨g.eb,5,U3⟩=U4 (.int .i64 g.e.bY):=(t.en g A).1.u;have J:=aC (zA A (zA F t.ni));clear c a3 a4 G t I hf F hd A D
   go_big_region
   clear j xi a1
   go_upto_region 5 with fail
   generalize hW:X.drew=W at *
   go_region_held3 (fun w'=>w'.cell? ⟨g.eb,0,U3⟩=U4 (.int .i64 g.e.id)/\w'.cell? ⟨g.eb,5,U3⟩=U4 (.int .i64 g.e.bY))
    (first
     |exact⟨c0,c5⟩
     |exact⟨((z.en g J.y.1).1).en.c0,((z.en g J.y.1).1).u⟩)
    (first
     |(go_at_call 149;refine (DR.y _ (dM W)).mono ?_;rintro e w4 ⟨rfl,x,l',E,k1,k2,k3,k4,z,y⟩))
   have LV:=aC (IU z (s:=s) ⟨l.y.of.now,l.y.of.given,l.y.of.ts,l.y.of.es,l.y.of.th,l.y.of.tb⟩ l.y.wl l.y.aS J.y.1 (l.y.hl.goes J.y.2.2 J.y.1 J.y.2.1 k2 k3 k4));have ST:Hid (Step anyS w.heap.size aJ E w w4):=(Step.below BX.y).trans ((Step.below (dM W)).trans (y.any BX.y.size));have Q2:Hid (Q7 w4 (w.heap.size+1)):=QX.y.later (y.bV (b:=w.heap.size+1) hQ H hQ);have q:w.heap.size+1<w4.heap.size:=Vh _ _ Q2.y.q0;have o:E (w.heap.size+1)=U3:=y.cU H hQ;clear k1 k2 k3 k4 z y DR c0 c5 ck hW
   go_wp2_with fail
   refine LV.y.mono ?_;rintro e w2 ⟨rfl,r2,ab,z,y,U,T,C⟩;have hq:=C.bV q o q
   have K:Hid (dX w d aJ (aA.aU s (.cancel g.e.id)) (bC 0 0 0 (.slice U3 0 0) (.slice U3 0 0) (.slice U3 0 0) (.slice U3 0 0)) (cK w2 (w.heap.size+1) (.int .i64 0) (.int .i64 0) (.int .i64 0) (.slice U3 0 0) (.slice U3 0 0) (.slice U3 0 0) (.slice U3 0 0))):=by
    rw[HD.y];exact vL z y U T (ST.y.trans (C.any ST.y.size)) UI (C.cU o q) 0 0 _ _ _ _ _ _ _
   clear z y U T C LV;obtain⟨S,R,P,O,N,M,L,fq⟩:=Q2.y.later hq
   go_wp2_with fail
   exact cO results97 ⟨S,R,P,O,N,M,L,fq⟩ ⟨_,rfl,K.y⟩
def il(s:St)(e:aM):St × aA.bO :=
 if s.given=60\/e.kind=3/\aA.eh s.es=6 then (s,.error 5)
 else if e.kind≠3/\aA.dG s.ts s.es e.aT e.aH e.aL=U5 then (s,.error 8)
 else aA.jz s e
def lD(w:U7)(B:UY)(d:UY)(aJ:UY->UW bB)(q:St × aA.bO)(v:U8)(w':U7):Prop :=
 ∃ (f n:UZ) (c:Raw) (col':UY->UW bB),v=bC f 0 n (.slice U3 0 0) (.slice U3 0 0) (.slice U3 0 0) (.slice U3 0 0)/\q.2=⟨f,0,n,[],[],[],[]⟩/\DK w' d c col'/\Of q.1 c/\Wl c/\Hl c/\Step anyS B aJ col' w w'
theorem sG{q:St}{j:Raw}(E:DK Z d j col')(D:Of q j)(C:Wl j)(A:Hl j)(z:Step anyS B aJ col' w Z)(y:B<=Q)(t:col' Q=U3)(o n:UZ)(a b c e f g i:U8):
  lD w B d aJ (q,⟨o,0,n,[],[],[],[]⟩) (bC o 0 n (.slice U3 0 0) (.slice U3 0 0) (.slice U3 0 0) (.slice U3 0 0)) (cK Z Q a b c e f g i):=by
 have k:=lC Z Q a b c e f g i;have st:Step anyS B col' col' Z (cK Z Q a b c e f g i):=⟨⟨_,k,fun x l=>.inr (by have:x=Q:=Yo.1 l;subst this;exact⟨t,y⟩)⟩,fun _ _ h=>h,fun _ _ h=>.inl h⟩;exact⟨o,n,j,col',rfl,rfl,E.off k (fun x l=>by have:x=Q:=Yo.1 l;subst this;exact t),D,C,A,z.trans st⟩
def EG.num(g:EG)(n:UZ):EG:={ g with e:={ g.e with id:=n } }
theorem gR.num{g:EG}(h:gR w g)(c:g.eb≠g.B)(n:UZ):gR (w.setCell ⟨g.eb,0,U3⟩ (.int .i64 n)) (g.num n):=by
 have k:=aF.aX g.eb w 0 (.int .i64 n);have f:=h.lt;refine⟨⟨zm _ _ _ h.en.c0,(zS _ _ _ _ UJ).trans h.en.c1,(zS _ _ _ _ UJ).trans h.en.c2,(zS _ _ _ _ UJ).trans h.en.c3,h.en.sl.off k (by simpa using Ne.symm c),WE h.en.lt k.size⟩,(zS _ _ _ _ UJ).trans h.k,(zS _ _ _ _ UJ).trans h.u,fun o=>(zF ..).trans (h.fz o),?_⟩;obtain⟨cs,e⟩:=h.bl;exact⟨_,heap_setCell_same _ _ _ _ _ _ e⟩
theorem Wl.eh(h:Wl r)(c:Of s r):aA.eh s.es=(r.wl.length:UZ):=by
 unfold aA.eh;rw[h,Wu,<- c.es,List.filter_map,Wu];rfl
theorem Sc(h:dS w d s r aJ){g:EG}(L:gR w g)(J:B<=w.heap.size)(n:s.given=60\/g.e.kind=3/\aA.eh s.es=6):
  Va prog 144 #[.pointer (U4 ⟨d,0,U3⟩),.pointer (U4 ⟨g.eb,0,U3⟩)] w fun e w'=>∃ v,e=.returned v/\lD w B d aJ (il s g.e) v w':=by
 have E:U9 w.heap.size w (w.alloc aW):=(zr _ _).alloc (zq _) _;have o:Hid (Q7 (w.alloc aW) w.heap.size):=Q7.of (cC w aW);have M:=(h.dk.later E).c1;rw[h.of.given] at M;have P:=(L.off (G:=[]) (aF.aD E) UJ UJ).k;have K:Hid (il s g.e=(s,aA.bO.error 5)):=U1 n;obtain⟨S,R,l,I⟩:=(h.dk.later E).wa;obtain⟨a,cap,rfl⟩:=iy l;have N:=h.wl.eh h.of;have c:=aC h;have f:=aC E;clear l I h E L
 go_in
 go_upto_region 1 with fail
 change YS _ _ _ _ (w.alloc aW);generalize w.alloc aW=X at *;rcases n with n|⟨n,T⟩
 ·rw[n] at M
  go_wp2_with fail
  refine (lF 5 X).mono ?_;rintro e w1 ⟨rfl,j⟩;have D:=j.block w.heap.size (Vh _ _ o.y.q0)
  have H:Hid (lD w B d aJ (il s g.e) (bC 5 0 0 (.slice U3 0 0) (.slice U3 0 0) (.slice U3 0 0) (.slice U3 0 0)) (cK w1 w.heap.size (.int .i64 5) (.int .i64 0) (.int .i64 0) (.slice U3 0 0) (.slice U3 0 0) (.slice U3 0 0) (.slice U3 0 0))):=by
   rw[K.y];exact sG (c.y.dk.later (f.y.trans (j.mono f.y.size))) c.y.of c.y.wl c.y.hl (Step.below (f.y.trans (j.mono f.y.size))) J (c.y.dk.none (zq _)) 5 0 _ _ _ _ _ _ _
  obtain⟨C,A,z,y,x,t,q,F⟩:=o.y.later D;simp only[bC]
  go_wp2_with fail
  exact cO results144 ⟨C,A,z,y,x,t,q,F⟩ ⟨_,rfl,H.y⟩
 ·by_cases O:s.given<60
  ·rw[n] at P;rw[show r.wl.length=6 by omega] at R
   go_wp2_with fail
   refine (lF 5 X).mono ?_;rintro e w1 ⟨rfl,j⟩;have D:=j.block w.heap.size (Vh _ _ o.y.q0)
   have H:Hid (lD w B d aJ (il s g.e) (bC 5 0 0 (.slice U3 0 0) (.slice U3 0 0) (.slice U3 0 0) (.slice U3 0 0)) (cK w1 w.heap.size (.int .i64 5) (.int .i64 0) (.int .i64 0) (.slice U3 0 0) (.slice U3 0 0) (.slice U3 0 0) (.slice U3 0 0))):=by
    rw[K.y];exact sG (c.y.dk.later (f.y.trans (j.mono f.y.size))) c.y.of c.y.wl c.y.hl (Step.below (f.y.trans (j.mono f.y.size))) J (c.y.dk.none (zq _)) 5 0 _ _ _ _ _ _ _
   obtain⟨C,A,z,y,x,t,q,F⟩:=o.y.later D;simp only[bC]
   go_wp2_with fail
   exact cO results144 ⟨C,A,z,y,x,t,q,F⟩ ⟨_,rfl,H.y⟩
  ·go_wp2_with fail
   refine (lF 5 X).mono ?_;rintro e w1 ⟨rfl,j⟩;have D:=j.block w.heap.size (Vh _ _ o.y.q0)
   have H:Hid (lD w B d aJ (il s g.e) (bC 5 0 0 (.slice U3 0 0) (.slice U3 0 0) (.slice U3 0 0) (.slice U3 0 0)) (cK w1 w.heap.size (.int .i64 5) (.int .i64 0) (.int .i64 0) (.slice U3 0 0) (.slice U3 0 0) (.slice U3 0 0) (.slice U3 0 0))):=by
    rw[K.y];exact sG (c.y.dk.later (f.y.trans (j.mono f.y.size))) c.y.of c.y.wl c.y.hl (Step.below (f.y.trans (j.mono f.y.size))) J (c.y.dk.none (zq _)) 5 0 _ _ _ _ _ _ _
   obtain⟨C,A,z,y,x,t,q,F⟩:=o.y.later D;simp only[bC]
   go_wp2_with fail
   exact cO results144 ⟨C,A,z,y,x,t,q,F⟩ ⟨_,rfl,H.y⟩
theorem DK.ur(h:DK w d r aJ){f:Lit->UW UY}(q:w.cell? ⟨d,3,YV⟩=U4 (.map (U4 m)))(y:aJ m=U4 .me)(L:∀ id,f (ju id)=gv r.eg id){g:EG}(H:gR w g)(z:aJ g.eb=YV)(K:aJ g.B=YV)(h3:B<=g.eb)(X:B<=g.B)(R:g.eb≠g.B)(o:∀ x∈r.eg,x.e.id≠g.e.id)(p:e9 prog 3 w' m n' (Go.Proofs.YtfigmlfdnickmaaGreatDoor.kY f (ju g.e.id) (U4 g.eb)) (if (f (ju g.e.id)).isSome then r.eg.length else r.eg.length+1))(l:w.grownBy w' (U4 m)):
  ∃ col',DK w' d { r with eg:=r.eg++[g] } col'/\Step (·=.me) B aJ col' w w'/\∀ k,aJ k=YV->k≠g.eb->k≠g.B->col' k=YV:=by
 have k:aF [m] w w':=⟨l.os,l.tape,l.output,l.size,fun i D P=>l.block i D (by simpa using P)⟩;have kB:Step (·=.me) B aJ (gN aJ [g.eb] .ent) w w':=uc k (fun x j=>.inl ⟨_,by simp at j;subst j;exact y,rfl⟩) (fun x j _=>by simp at j;omega)
 have J:gN aJ [g.eb] .ent g.B=YV:=by
  unfold gN;rw[K];simp only;rw[U0 (by simpa using Ne.symm R)]
 have C:Step (·=.me) B (gN aJ [g.eb] .ent) (gN (gN aJ [g.eb] .ent) [g.B] .span) w' w':=uc (G:=[]) (aF.refl _ _) UJ (fun x j _=>by simp at j;omega);have st:=kB.trans C;obtain⟨W,V,M,U,A⟩:=h.base st UJ;have E:gN (gN aJ [g.eb] .ent) [g.B] .span g.eb=U4 .ent:=BQ (tW UJ (fun T q=>by rw[z] at q;cases q));have F:gN (gN aJ [g.eb] .ent) [g.B] .span g.B=U4 .span:=tW UJ (fun T q=>by rw[J] at q;cases q);have n:g.eb≠m/\g.B≠m:=⟨fun e=>(by rw[e,y] at z;cases z),fun e=>(by rw[e,y] at K;cases K)⟩;refine⟨_,⟨W,V,h.rB st (A 2) UJ,⟨m,kY f (ju g.e.id) (U4 g.eb),(A 3).trans q,st.gk _ _ y,?_,fun x=>?_⟩,h.rj st (A 4) UJ,h.rD st (A 5) (M 5) UJ,fun i D=>h.pU st i D UJ,fun x j=>?_,?_,?_,M,U,fun x c j=>?_⟩,st,fun x j O N=>?_⟩
 ·rw[L,BV o] at p;show e9 _ _ _ _ (r.eg++[g]).length _ (r.eg++[g]).length;rw[VU];exact p.tight
 ·show kY f (ju g.e.id) (U4 g.eb) (ju x)=gv (r.eg++[g]) x;rw[GQ o]
  by_cases e:x=g.e.id
  ·rw[e,sL,U1 rfl]
  ·rw[sP f _ (fun S=>e (GF S)),U0 e,L]
 ·rcases List.mem_append.1 j with j|j
  ·exact h.rK st UJ UJ x j
  ·have:x=g:=by simpa using j
   subst this;exact⟨H.off k (by simpa using n.1) (by simpa using n.2),E,F⟩
 ·show ((r.eg++[g]).map (·.eb)).Nodup;rw[We,Vy];refine⟨h.nd,by simp,fun a I b t e=>?_⟩;obtain⟨x,j,rfl⟩:=V9.1 I;have:=(h.en x j).2.1;simp at t;rw[e,t,z] at this;cases this
 ·show ((r.eg++[g]).map (·.e.id)).Nodup;rw[We,Vy];refine⟨h.ni,by simp,fun a I b t e=>?_⟩;obtain⟨x,j,rfl⟩:=V9.1 I;simp at t;exact o x j (by rw[e,t])
 ·rcases oI j with e|⟨_,e,_⟩
  ·rcases oI e with e|⟨_,e,_⟩
   ·exact zL (h.lt x c e) st.size
   ·simp at e;subst e;exact zL H.lt st.size
  ·simp at e;subst e;exact zL H.en.lt st.size
 ·cases e:gN (gN aJ [g.eb] .ent) [g.B] .span x with
  |none=>rfl
  |some c =>
   rcases oI e with e|⟨_,e,_⟩
   ·rcases oI e with e|⟨_,e,_⟩
    ·rw[j] at e;cases e
    ·exact absurd (Yo.1 e) O
   ·exact absurd (Yo.1 e) N
theorem DK.uo(h:DK w d r aJ){f:Lit->UW UY}(C:w.cell? ⟨d,2,YV⟩=U4 (.map (U4 m)))(H:aJ m=U4 .mt)(N:∀ n,f (mC n)=jH r.tg n){t:TG}(ht:TH w t.tb t.name t.aH t.A t.T YV YV [] [])(K:aJ t.tb=YV)(h3:B<=t.tb)(o:∀ x∈r.tg,x.name≠t.name)(p:e9 prog 9 w' m n' (Go.Proofs.YtfigmlfdnickmaaGreatDoor.kY f (mC t.name) (U4 t.tb)) (if (f (mC t.name)).isSome then r.tg.length else r.tg.length+1))(j:w.grownBy w' (U4 m)):
  ∃ col',DK w' d { r with tg:=r.tg++[t] } col'/\Step (·=.mt) B aJ col' w w'/\∀ k,aJ k=YV->k≠t.tb->col' k=YV:=by
 have k:aF [m] w w':=⟨j.os,j.tape,j.output,j.size,fun i J S=>j.block i J (by simpa using S)⟩;have st:Step (·=.mt) B aJ (gN aJ [t.tb] (.aT r.tg.length)) w w':=uc k (fun x g=>.inl ⟨_,by simp at g;subst g;exact H,rfl⟩) (fun x g _=>by simp at g;omega);obtain⟨X,W,O,V,D⟩:=h.base st UJ;have q:t.tb≠m:=fun e=>by rw[e,H] at K;cases K
 have G:gN aJ [t.tb] (.aT r.tg.length) t.tb=U4 (.aT r.tg.length):=tW UJ (fun c' C=>by rw[K] at C;cases C)
 have l:jH r.tg t.name=YV:=by
  rw[sO];have:r.tg.find? (fun y=>aA.bW y.name t.name)=YV:=X6.2 (fun y R=>by rw[Bool.not_eq_true,pQ];exact o y R);rw[this];rfl
 refine⟨_,⟨X,W,⟨m,kY f (mC t.name) (U4 t.tb),(D 2).trans C,st.gk _ _ H,?_,fun x=>?_⟩,h.sU st (D 3) UJ,h.rj st (D 4) UJ,h.rD st (D 5) (O 5) UJ,fun i J=>?_,h.rK st UJ UJ,h.nd,h.ni,O,V,fun x c g=>?_⟩,st,fun x g P=>?_⟩
 ·rw[N,l] at p;show e9 _ _ _ _ (r.tg++[t]).length _ (r.tg++[t]).length;rw[VU];exact p.tight
 ·show kY f (mC t.name) (U4 t.tb) (mC x)=jH (r.tg++[t]) x;rw[Rb o]
  by_cases e:x=t.name
  ·rw[e,sL,U1 rfl]
  ·rw[sP f _ (fun z=>e (P9 z)),U0 e,N]
 ·have I:i<r.tg.length+1:=by simpa using J
  by_cases e:i<r.tg.length
  ·have z:(r.tg++[t])[i]'(by simpa using I)=r.tg[i]:=YW e;show ∃ F E M L,TH w' (r.tg++[t])[i].tb _ _ _ _ F E M L/\_;rw[z];exact h.pU st i e UJ
  ·have U:i=r.tg.length:=UI
   subst U;have z:(r.tg++[t])[r.tg.length]'UJ=t:=UJ
   show ∃ F E M L,TH w' (r.tg++[t])[r.tg.length].tb _ _ _ _ F E M L/\_;rw[z];refine⟨YV,YV,[],[],ht.off k (fun x g=>by simp at g;subst g;simpa using q),fun x g=>by simp at g;subst g;exact G⟩
 ·rcases oI g with e|⟨_,e,_⟩
  ·exact zL (h.lt x c e) st.size
  ·simp at e;subst e;exact zL (ht.lt _ UJ) st.size
 ·cases e:gN aJ [t.tb] (.aT r.tg.length) x with
  |none=>rfl
  |some c =>
   rcases oI e with e|⟨_,e,_⟩
   ·rw[g] at e;cases e
   ·exact absurd (Yo.1 e) P
structure CN(w T:U7)(B d Q:UY)(s:St)(r:Raw)(aJ:UY->UW bB)(g:EG)(r1:Raw)(c1:UY->UW bB):Prop where
 dk:DK T d r1 c1
 en:gR T (g.num (s.given+1))
 ce:c1 g.eb=U3
 cb:c1 g.B=U3
 st:Step anyS B aJ c1 w T
 q7:Q7 T Q
 qc:c1 Q=U3
 of:Of (aA.jz s g.e).1 { r1 with given:=s.given+1,eg:=r1.eg++[g.num (s.given+1)] }
 wl:Wl { r1 with given:=s.given+1,eg:=r1.eg++[g.num (s.given+1)] }
 eg:r1.eg=r.eg
 hl:r1.hl=r.hl
def TL(w T:U7)(B d Q:UY)(s:St)(r:Raw)(aJ:UY->UW bB)(g:EG):Prop:=∃ c c1,CN w T B d Q s r aJ g c c1
structure kK(w:U7)(B d:UY)(s:St)(r:Raw)(aJ:UY->UW bB)(g:EG)(i:UY):Prop where
 ds:dS w d s r aJ
 en:gR w g
 ce:aJ g.eb=U3
 cb:aJ g.B=U3
 be:B<=g.eb
 bb:B<=g.B
 ne:g.eb≠g.B
 hB:B<=w.heap.size
 hi:i<r.tg.length
 name:r.tg[i].name=g.e.aT
 tb:g.tb=r.tg[i].tb
 ok:gD s.now g.e
theorem kK.num{g:EG}(h:kK w B d s r aJ g i)(n:UZ):gD s.now (g.num n).e:=⟨h.ok.u1,h.ok.u9,h.ok.sl,h.ok.s0,h.ok.sp,h.ok.ri,h.ok.kd⟩
theorem kK.fresh{g:EG}(h:kK w B d s r aJ g i):∀ x∈r.eg,x.e.id≠(g.num (s.given+1)).e.id:=fun x c e=>by
 have:=(h.ds.inv.mM _ (h.ds.of.mem c)).2;simp only[EG.num] at e;omega
structure As(w Y:U7)(B d Q:UY)(s:St)(r:Raw)(aJ:UY->UW bB)(g:EG):Prop where
 dk:DK Y d r aJ
 en:gR Y (g.num (s.given+1))
 st:Step anyS B aJ aJ w Y
 q7:Q7 Y Q
 ql:Q<Y.heap.size
 qc:aJ Q=U3
theorem kK.oS{g:EG}(h:kK w B d s r aJ g i):As w ((w.alloc aW).setCell ⟨g.eb,0,U3⟩ (.int .i64 (s.given+1))) B d w.heap.size s r aJ g:=by
 have f:U9 w.heap.size w (w.alloc aW):=(zr _ _).alloc (zq _) _;have l:=(h.en.off (G:=[]) (aF.aD f) UJ UJ);have k:=aF.aX g.eb (w.alloc aW) 0 (.int .i64 (s.given+1));have j:=h.en.lt;refine⟨(h.ds.dk.later f).off k (fun x c=>?_),l.num h.ne _,(Step.below f).trans ⟨⟨_,k,fun x c=>.inr ?_⟩,fun _ _ h=>h,fun _ _ h=>.inl h⟩,(Q7.of (cC w aW)).later (k.block _ UJ UQ),WE UJ k.size,h.ds.dk.none (zq _)⟩
 ·have:x=g.eb:=Yo.1 c;subst this;exact h.ce
 ·have:x=g.eb:=Yo.1 c;subst this;exact⟨h.ce,h.be⟩
theorem kK.yI{g:EG}(h:kK w B d s r aJ g i)(y:As w Y B d Q s r aJ g)(l:g.e.kind≠3)(n:DK w1 d (r.cW i ((r.tg[i]'h.hi).with (bZ (r.tg[i]'h.hi).A g.e.aL g.e.aH) (gn (s.given+1) g.eb (r.tg[i]'h.hi).T g.e.aL))) c1)(f:Step (·=.aT i) Y.heap.size aJ c1 Y w1):TL w w1 B d Q s r aJ g:=by
 have j:=y.en.lt;have c:=y.en.en.lt;have o:=(h.ds.of.comes h.ds.inv.tn (g:=g.num (s.given+1)) h.fresh l h.ok.ri h.hi h.name h.tb (s.given+1)).1;refine⟨_,c1,n,f.uE y.en (.inr ⟨h.ce,j⟩) (.inr ⟨h.cb,c⟩),f.cU h.ce j,f.cU h.cb c,y.st.trans (f.any (Vg h.hB y.st.size)),y.q7.later (f.bV y.ql y.qc y.ql),f.cU y.qc y.ql,?_,?_,rfl,rfl⟩
 ·exact⟨o.now,o.given,o.ts,o.es,o.th,o.tb⟩
 ·exact h.ds.wl.comes (g:=g.num (s.given+1)) l
theorem kK.waits{g:EG}(h:kK w B d s r aJ g i)(y:As w Y B d Q s r aJ g)(n:g.e.kind=3)(q:DK w1 d { r with wl:=r.wl++[g.eb] } c1)(j:Step (fun c=>c=.wa\/c=.desk) Y.heap.size aJ c1 Y w1):TL w w1 B d Q s r aJ g:=by
 have l:=y.en.lt;have f:=y.en.en.lt;have o:=h.ds.of.ln (g:=g.num (s.given+1)) h.fresh n h.hi h.name h.tb (s.given+1);refine⟨_,c1,q,j.uE y.en (.inr ⟨h.ce,l⟩) (.inr ⟨h.cb,f⟩),j.cU h.ce l,j.cU h.cb f,y.st.trans (j.any (Vg h.hB y.st.size)),y.q7.later (j.bV y.ql y.qc y.ql),j.cU y.qc y.ql,?_,?_,rfl,rfl⟩
 ·exact⟨o.now,o.given,o.ts,o.es,o.th,o.tb⟩
 ·exact h.ds.wl.ln (g:=g.num (s.given+1)) n
structure UD(w T:U7)(B d Q:UY)(s:St)(r:Raw)(aJ:UY->UW bB)(g:EG)(r2:Raw)(c2:UY->UW bB):Prop where
 dk:DK T d r2 c2
 mem:g.num (s.given+1)∈r2.eg
 st:Step anyS B aJ c2 w T
 q7:Q7 T Q
 ql:Q<T.heap.size
 qc:c2 Q=U3
 of:Of (aA.jz s g.e).1 r2
 wl:Wl r2
 eg:r2.eg=r.eg++[g.num (s.given+1)]
 hl:r2.hl=r.hl
theorem CN.store{T:U7}{g:EG}{A:Raw}(t:CN w T B d w.heap.size s r aJ g A c1)(a:kK w B d s r aJ g i):
  ∃ m,(T.setCell ⟨d,1,U3⟩ (.int .i64 (s.given+1))).cell? ⟨d,3,U3⟩=U4 (.map (U4 m))/\(T.setCell ⟨d,1,U3⟩ (.int .i64 (s.given+1))).cell? ⟨g.eb,0,U3⟩=U4 (.int .i64 (s.given+1)) /\
   ∃ w3,(YX 138 (.map (U4 m)) (.int .i64 (s.given+1)) (.pointer (U4 ⟨g.eb,0,U3⟩))).run prog (T.setCell ⟨d,1,U3⟩ (.int .i64 (s.given+1))).drew=.ok () w3/\∃ M c2,UD w w3 B d w.heap.size s r aJ g M c2:=by
 obtain⟨h,c⟩:=t.dk.nh (s.given+1);have y:=t.dk.dc;have D:g.eb≠d:=fun e=>by have:=t.ce;rw[e,y] at this;cases this
 have E:g.B≠d:=fun e=>by have:=t.cb;rw[e,y] at this;cases this
 have P:=aF.aX d T 1 (.int .i64 (s.given+1));have z:gR (T.setCell ⟨d,1,U3⟩ (.int .i64 (s.given+1))) (g.num (s.given+1)):=t.en.off P (by simpa[EG.num] using D) (by simpa[EG.num] using E);have q:Q7 (T.setCell ⟨d,1,U3⟩ (.int .i64 (s.given+1))) w.heap.size:=t.q7.later (c.bV (Vh _ _ t.q7.q0) t.qc (Vh _ _ t.q7.q0));have j:Step anyS B aJ c1 w (T.setCell ⟨d,1,U3⟩ (.int .i64 (s.given+1))):=t.st.trans (c.any (Vg a.hB t.st.size));generalize T.setCell ⟨d,1,U3⟩ (.int .i64 (s.given+1))=T1 at *;obtain⟨m,f,L,K,a3,a4⟩:=h.me;have U:=a.ds.inv.g0;have S:=a.ds.inv.g1;have O:=xM (n:=s.given+1) UI UI
 have J:A.eg.length<=60:=by
  have h2:r.eg.length=s.es.length:=by rw[<- a.ds.of.es];simp
  have h3:=lY a.ds.aS;rw[t.eg];omega
 obtain⟨w3,l,N,I⟩:=(a3.block (w':=T1.drew) rfl).jT xC underlying138 (by unfold maxLen;show A.eg.length<_;omega) O (by unfold ju;trivial) g.eb;have d1:=h.later (dM T1);have H:gR T1.drew (g.num (s.given+1)):=z.off (G:=[]) (aF.aD (dM T1)) UJ UJ;obtain⟨c2,e1,X,W⟩:=d1.ur (g:=g.num (s.given+1)) (B:=B) L K a4 H t.ce t.cb a.be a.bb a.ne (fun x R=>a.fresh x (by rw[<- t.eg];exact R)) N I;have C:w.heap.size<T1.drew.heap.size:=Vh _ _ q.q0;have F:w.heap.size≠m:=fun e=>by have:=t.qc;rw[e,K] at this;cases this
 have V:w3.heap[w.heap.size]?=T1.heap[w.heap.size]?:=I.block _ C (fun e=>F (WJ e));have o:=q.later V;refine⟨m,L,z.en.c0,w3,l,_,c2,e1,List.mem_append_right _ (Yo.2 rfl),(j.trans (Step.below (dM T1))).trans (X.mono (fun _ _=>trivial) (zq _)),o,Vh _ _ o.q0,?_,t.of,t.wl,?_,t.hl⟩
 ·exact W _ t.qc (fun e=>by have:=a.en.lt;rw[show (g.num (s.given+1)).eb=g.eb from rfl] at e;omega) (fun e=>by have:=a.en.en.lt;rw[show (g.num (s.given+1)).B=g.B from rfl] at e;omega)
 ·show A.eg++[_]=_;rw[t.eg]
theorem Gj(h:DK w d r aJ)(n:Hp.gH r.hl)(hl:r.hl.length<=900)(g:EG):
  Va prog 198 #[.pointer (U4 ⟨d,5,U3⟩),.int .i64 g.e.bY,.int .i64 g.e.id,.pointer (U4 ⟨g.eb,0,U3⟩)] w fun e w'=>e=.returned (.tuple #[])/\∃ (f:UV Hp.Hi) (col':UY->UW bB),Hp.gH f/\f.Perm (r.hl++[kM g])/\DK w' d { r with hl:=f } col'/\Step (fun c=>c=.he\/c=.desk) w.heap.size aJ col' w w':=by
 obtain⟨v,x,t⟩:=h.he;refine (Pn d 5 v r.hl (kM g) w x n hl).mono ?_;rintro e w' ⟨rfl,f,p,q,o⟩;obtain⟨col',l,j⟩:=h.heap t p;exact⟨rfl,f,col',q,o,l,j⟩
theorem Sd{g:EG}(h:kK w B d s r aJ g i)(ad:s.given<60)(hk:g.e.kind≠3):
  Va prog 144 #[.pointer (U4 ⟨d,0,U3⟩),.pointer (U4 ⟨g.eb,0,U3⟩)] w fun e w'=>∃ v,e=.returned v/\lD w B d aJ (il s g.e) v w':=by
 have hX:U9 w.heap.size w (w.alloc aW):=(zr _ _).alloc (zq _) _;have q:=aC h.oS;have cg:=(h.ds.dk.later hX).c1;rw[h.ds.of.given] at cg;have C:=(h.en.off (G:=[]) (aF.aD hX) UJ UJ);have ck:=C.k;have ci:=C.en.c0;have fi:=C.fz 0;have ct:=C.en.c1;have ae:=h.ds.inv.g0;have ab:Vf.wrap (s.given+1)=s.given+1:=cG UI UI
 have HN:Hid (r.hl.length<=900):=by
  have h1:=h.ds.hl.len;have h2:r.eg.length=s.es.length:=by rw[<- h.ds.of.es];simp
  have h3:=lY h.ds.aS;show _<=_;omega
 have f:=aC h;have ac:(g.e.kind==3)=U5:=by simpa using hk
 have hm:=h.ds.aS;have hi:=h.hi;have A:=Hj hm h.ds.of (e:=(g.num (s.given+1)).e) h.ok.sp h.ok.u1 hi h.name;have c:=A9 hm h.ds.of (h.num (s.given+1)) hi;have z:=Bv hm h.ds.of hi;have D:=(h.ds.of.comes h.ds.inv.tn (g:=g.num (s.given+1)) h.fresh hk h.ok.ri hi h.name h.tb (s.given+1)).2;have J:=aC (zA A (zA c (zA z D)));clear h hX C hm A c z D
 go_in
 go_upto_region 1 with fail
 change YS _ _ _ _ (w.alloc aW);generalize w.alloc aW=X at *
 go_upto_region 6 with fail
 have cy:(X.setCell ⟨g.eb,0,U3⟩ (.int .i64 (s.given+1))).cell? ⟨g.eb,2,U3⟩=U4 (.pointer (U4 ⟨g.tb,0,U3⟩)):=q.y.en.en.c1;generalize X.setCell ⟨g.eb,0,U3⟩ (.int .i64 (s.given+1))=Y at q cy ⊢;clear cg ck ci fi ct
 cases c:aA.dG s.ts s.es g.e.aT g.e.aH g.e.aL with
 |false =>
  have HD:Hid (il s g.e=(s,aA.bO.error 8)):=by
   unfold il;rw[U0 UI,U1 ⟨hk,c⟩];rfl
  have W:=aC (Gk q.y.dk i f.y.hi q.y.en f.y.tb (by show aJ g.eb≠_;rw[f.y.ce];simp) (by show aJ g.B≠_;rw[f.y.cb];simp) J.y.2.1 (by rw[J.y.1];exact c));clear c
  go_wp2_with fail
  refine W.y.mono ?_;rintro e E ⟨rfl,I,y,t⟩;have Q1:Hid (Q7 E w.heap.size/\I w.heap.size=U3):=⟨q.y.q7.later (t.bV q.y.ql q.y.qc q.y.ql),t.cU q.y.qc q.y.ql⟩;have P1:Hid (DK E d r I/\Step anyS B aJ I w E):=⟨y,q.y.st.trans (t.any (Vg f.y.hB q.y.st.size))⟩;clear y t W cy
  go_wp2_with fail
  refine (lF 8 E).mono ?_;rintro e w1 ⟨rfl,hb⟩;have hq:=hb.block w.heap.size (Vh _ _ Q1.y.1.q0)
  have HF:Hid (lD w B d aJ (il s g.e) (bC 8 0 0 (.slice U3 0 0) (.slice U3 0 0) (.slice U3 0 0) (.slice U3 0 0)) (cK w1 w.heap.size (.int .i64 8) (.int .i64 0) (.int .i64 0) (.slice U3 0 0) (.slice U3 0 0) (.slice U3 0 0) (.slice U3 0 0))):=by
   rw[HD.y];exact sG (P1.y.1.later hb) f.y.ds.of f.y.ds.wl f.y.ds.hl (P1.y.2.trans (Step.below hb)) f.y.hB Q1.y.2 8 0 _ _ _ _ _ _ _
  obtain⟨R,y,t,P,O,N,M,V⟩:=Q1.y.1.later hq;simp only[bC]
  go_wp2_with fail
  exact cO results144 ⟨R,y,t,P,O,N,M,V⟩ ⟨_,rfl,HF.y⟩
 |true =>
  have HD:Hid (il s g.e=aA.jz s g.e):=by
   unfold il;rw[U0 UI,U0 (by rw[c];simp)];rfl
  have W:=aC (Hu q.y.dk i f.y.hi q.y.en f.y.tb (by show aJ g.eb≠_;rw[f.y.ce];simp) (by show aJ g.B≠_;rw[f.y.cb];simp) J.y.2.1 ⟨J.y.2.2.1.1,J.y.2.2.1.2,J.y.2.2.2,Cq f.y.ok.ri⟩ (by rw[J.y.1];exact c));clear c
  go_wp2_with fail
  refine W.y.mono ?_;rintro e E ⟨rfl,I,y,t⟩;have TT:Hid (TL w E B d w.heap.size s r aJ g):=f.y.yI q.y hk y t;clear y t W cy I
  by_cases F:g.e.kind=1
  ·obtain⟨r1,c1,x⟩:=TT.y;have I:E.cell? ⟨g.eb,0,U3⟩=U4 (.int .i64 (s.given+1)):=x.en.en.c0;have d1:=x.dk.c1;have f1:=x.dk.fz 1;obtain⟨m,s1,L,w3,l,r2,c2,K⟩:=x.store f.y;have j:=aC K;clear x K
   go_upto_region 9 with fail
   generalize E.setCell ⟨d,1,U3⟩ (.int .i64 (s.given+1))=T1 at s1 L l ⊢;clear I d1 f1
   go_big_region
   clear l s1 L;obtain⟨H,e2,e3⟩:=j.y.dk.en _ j.y.mem;have k0:w3.cell? ⟨g.eb,0,U3⟩=U4 (.int .i64 (s.given+1)):=H.en.c0;have k1:w3.cell? ⟨g.eb,1,U3⟩=U4 (.int .i64 g.e.kind):=H.k;have k5:w3.cell? ⟨g.eb,5,U3⟩=U4 (.int .i64 g.e.bY):=H.u;clear H e2 e3;have T:(g.e.kind != 1)=U5:=by simpa using F
   have HF:Hid (lD w B d aJ (il s g.e) (bC 0 0 (s.given+1) (.slice U3 0 0) (.slice U3 0 0) (.slice U3 0 0) (.slice U3 0 0)) (cK w3 w.heap.size (.int .i64 0) (.int .i64 0) (.int .i64 (s.given+1)) (.slice U3 0 0) (.slice U3 0 0) (.slice U3 0 0) (.slice U3 0 0))):=by
    rw[HD.y];have n:=j.y;refine sG n.dk n.of n.wl ?_ n.st f.y.hB n.qc 0 (s.given+1) _ _ _ _ _ _ _;have U:=f.y.ds.hl.rZ (g:=g.num (s.given+1)) F;unfold Hl at U ⊢;rw[n.eg,n.hl];exact U
   obtain⟨R,y,t,P,O,N,M,V⟩:=j.y.q7
   go_wp2_with fail
   exact cO results144 ⟨R,y,t,P,O,N,M,V⟩ ⟨_,rfl,HF.y⟩
  ·obtain⟨r1,c1,x⟩:=TT.y;have I:E.cell? ⟨g.eb,0,U3⟩=U4 (.int .i64 (s.given+1)):=x.en.en.c0;have d1:=x.dk.c1;have f1:=x.dk.fz 1;obtain⟨m,s1,L,w3,l,r2,c2,K⟩:=x.store f.y;have j:=aC K;clear x K
   go_upto_region 9 with fail
   generalize E.setCell ⟨d,1,U3⟩ (.int .i64 (s.given+1))=T1 at s1 L l ⊢;clear I d1 f1
   go_big_region
   clear l s1 L;obtain⟨H,e2,e3⟩:=j.y.dk.en _ j.y.mem;have k0:w3.cell? ⟨g.eb,0,U3⟩=U4 (.int .i64 (s.given+1)):=H.en.c0;have k1:w3.cell? ⟨g.eb,1,U3⟩=U4 (.int .i64 g.e.kind):=H.k;have k5:w3.cell? ⟨g.eb,5,U3⟩=U4 (.int .i64 g.e.bY):=H.u;clear H e2 e3;have T:(g.e.kind != 1)=U6:=by simpa using F
   have PU:=aC (fun wx (k:U9 w3.heap.size w3 wx)=>Gj (j.y.dk.later k) (by rw[j.y.hl];exact f.y.ds.hl.1) (by rw[j.y.hl];exact HN.y) (g.num (s.given+1)))
   go_upto_region 11 with fail
   go_region_held3 (fun w'=>w'.cell? ⟨g.eb,0,U3⟩=U4 (.int .i64 (s.given+1))/\w'.cell? ⟨g.eb,5,U3⟩=U4 (.int .i64 g.e.bY))
    (first
     |exact⟨k0,k5⟩
     |exact⟨((S.en _ j.y.mem).1).en.c0,((S.en _ j.y.mem).1).u⟩)
    (first
     |(go_at_call 198;refine (PU.y _ (dM w3)).mono ?_;rintro e w4 ⟨rfl,l',c3,p1,p2,S,p4⟩))
   have aa:w4.cell? ⟨g.eb,0,U3⟩=U4 (.int .i64 (s.given+1)):=((S.en _ j.y.mem).1).en.c0;have hq:=p4.bV j.y.ql j.y.qc j.y.ql
   have HF:Hid (lD w B d aJ (il s g.e) (bC 0 0 (s.given+1) (.slice U3 0 0) (.slice U3 0 0) (.slice U3 0 0) (.slice U3 0 0)) (cK w4 w.heap.size (.int .i64 0) (.int .i64 0) (.int .i64 (s.given+1)) (.slice U3 0 0) (.slice U3 0 0) (.slice U3 0 0) (.slice U3 0 0))):=by
    rw[HD.y];have n:=j.y;have o:=n.of;refine sG S ⟨o.now,o.given,o.ts,o.es,o.th,o.tb⟩ n.wl ?_ ((n.st.trans (Step.below (dM w3))).trans (p4.any (Vg f.y.hB n.st.size))) f.y.hB (p4.cU n.qc n.ql) 0 (s.given+1) _ _ _ _ _ _ _;have U:=f.y.ds.hl.comes (g:=g.num (s.given+1)) F p1 (by rw[<- n.hl];exact p2);unfold Hl at U ⊢;show _/\List.Perm l' ((r2.eg.filter _).map _);rw[n.eg];exact U
   clear p1 p2 S p4 PU k0 k1 k5;obtain⟨R,y,t,P,O,N,M,V⟩:=j.y.q7.later hq
   go_wp2_with fail
   exact cO results144 ⟨R,y,t,P,O,N,M,V⟩ ⟨_,rfl,HF.y⟩
theorem NT:(prog.info? 197).map (fun i=>(i.zero,i.size,i.bytes))=U4 (U4 (.pointer U3),1,8):=UO
theorem Se{g:EG}(h:kK w B d s r aJ g i)(ai:s.given<60)(I:g.e.kind=3)(ae:r.wl.length<6):
  Va prog 144 #[.pointer (U4 ⟨d,0,U3⟩),.pointer (U4 ⟨g.eb,0,U3⟩)] w fun e w'=>∃ v,e=.returned v/\lD w B d aJ (il s g.e) v w':=by
 have hX:U9 w.heap.size w (w.alloc aW):=(zr _ _).alloc (zq _) _;have YY:=aC h.oS;have cg:=(h.ds.dk.later hX).c1;rw[h.ds.of.given] at cg;have l:=(h.en.off (G:=[]) (aF.aD hX) UJ UJ);have ck:=l.k;have ci:=l.en.c0;have fi:=l.fz 0;have ct:=l.en.c1;have aj:=h.ds.inv.g0;have af:Vf.wrap (s.given+1)=s.given+1:=cG UI UI
 have HN:Hid (r.hl.length<=900):=by
  have h1:=h.ds.hl.len;have h2:r.eg.length=s.es.length:=by rw[<- h.ds.of.es];simp
  have h3:=lY h.ds.aS;show _<=_;omega
 have D:=aC h;obtain⟨i0,W,V,U,T⟩:=info_parts NT;obtain⟨v4,P,f,A⟩:=h.oS.dk.wa
 have aa:(w.alloc aW).cell? ⟨d,4,U3⟩=U4 v4:=by
  rw[<- P];exact (zS _ _ _ _ UJ).symm
 obtain⟨a,cap,rfl⟩:=iy f;have ad:=h.ds.wl.eh h.ds.of;have L:=h.oS.dk.fz 4;have O4:=aC (zA f A);have J:=Vh _ _ P;have z:d ∉ (YZ a r.wl.length cap).ownBlock.toList:=fun e=>by have:=A _ (WI.1 e);rw[h.ds.dk.dc] at this;cases this
 rw[I] at ck;clear h hX l f A
 go_in
 go_upto_region 1 with fail
 change YS _ _ _ _ (w.alloc aW);generalize w.alloc aW=X at *
 have HD:Hid (il s g.e=aA.jz s g.e):=by
  unfold il;rw[U0 UI,U0 (by simp[I])];rfl
 go_upto_region 5 with fail
 generalize X.setCell ⟨g.eb,0,U3⟩ (.int .i64 (s.given+1))=Y at *;clear cg ck ci fi ct aa
 go_upto_region 8 with (first
  |(at_builtin;refine wpList_append_lies _ rfl _ _ 139 rfl 0 197 i0 _ 1 8 underlying139 W V U T rfl UK _ _ _ rfl (O4.y.1.alloc _) ⟨Y.heap.size,0,U3⟩ 1 1 [jw g.eb] rfl rfl (World.news_of_block (cs:=#[jw g.eb]) (cC Y _)) (by simp[jw,Value.oneCell']) UI UR UI UJ (Y.heap.size+1) UJ ?_;intro C n w1 t j K ag;have N:aF ((YZ a r.wl.length cap).ownBlock.toList) Y w1:=aF.grown ((aF.refl _ Y).alloc _) j (fun k I=>.inl (WI.2 I));have z1:=N.cell z P;have z2:=(N.frozen (o:=4) z J).trans L;clear j))
 have x:(YZ a r.wl.length cap).ownBlock=U4 C\/C=Y.heap.size+1:=K
 have SW:=aC (YY.y.dk.jg (wl':=r.wl++[g.eb]) (v':=.slice (U4 ⟨C,0,U3⟩) (r.wl.length+1) n) O4.y.2 N (by rw[VU,We];exact t) (fun b hb=>by
  have:C=b:=by simpa[Value.ownBlock] using hb
  subst this;rcases x with e|e
  ·exact .inl e
  ·exact .inr UI))
 have TT:Hid (TL w (w1.setCell ⟨d,4,U3⟩ (.slice (U4 ⟨C,0,U3⟩) (r.wl.length+1) n)) B d w.heap.size s r aJ g):=by
  obtain⟨c1,S,R⟩:=SW.y;exact D.y.waits YY.y I S R
 clear t N K x z1 z2 SW O4 P L;have H:g.e.kind≠1:=UI
 clear z J;generalize w1.setCell ⟨d,4,U3⟩ (.slice (U4 ⟨C,0,U3⟩) (r.wl.length+1) n)=w0 at TT ⊢;obtain⟨r1,c1,E⟩:=TT.y;have c0:w0.cell? ⟨g.eb,0,U3⟩=U4 (.int .i64 (s.given+1)):=E.en.en.c0;have d1:=E.dk.c1;have f1:=E.dk.fz 1;obtain⟨m,s1,s2,w3,q,r2,c2,t2⟩:=E.store D.y;have c:=aC t2;clear E t2
 go_upto_region 9 with fail
 generalize w0.setCell ⟨d,1,U3⟩ (.int .i64 (s.given+1))=T1 at s1 s2 q ⊢;clear c0 d1 f1
 go_big_region
 clear q s1 s2;obtain⟨O,e2,e3⟩:=c.y.dk.en _ c.y.mem;have k0:w3.cell? ⟨g.eb,0,U3⟩=U4 (.int .i64 (s.given+1)):=O.en.c0;have k1:w3.cell? ⟨g.eb,1,U3⟩=U4 (.int .i64 g.e.kind):=O.k;have k5:w3.cell? ⟨g.eb,5,U3⟩=U4 (.int .i64 g.e.bY):=O.u;clear O e2 e3;have ab:(g.e.kind != 1)=U6:=by simpa using H
 have PU:=aC (fun wx (k:U9 w3.heap.size w3 wx)=>Gj (c.y.dk.later k) (by rw[c.y.hl];exact D.y.ds.hl.1) (by rw[c.y.hl];exact HN.y) (g.num (s.given+1)))
 go_upto_region 11 with fail
 go_region_held3 (fun w'=>w'.cell? ⟨g.eb,0,U3⟩=U4 (.int .i64 (s.given+1))/\w'.cell? ⟨g.eb,5,U3⟩=U4 (.int .i64 g.e.bY))
  (first
   |exact⟨k0,k5⟩
   |exact⟨((F.en _ c.y.mem).1).en.c0,((F.en _ c.y.mem).1).u⟩)
  (first
   |(go_at_call 198;refine (PU.y _ (dM w3)).mono ?_;rintro e w4 ⟨rfl,l',c3,p1,p2,F,M⟩))
 have ac:w4.cell? ⟨g.eb,0,U3⟩=U4 (.int .i64 (s.given+1)):=((F.en _ c.y.mem).1).en.c0;have hq:=M.bV c.y.ql c.y.qc c.y.ql
 have HF:Hid (lD w B d aJ (il s g.e) (bC 0 0 (s.given+1) (.slice U3 0 0) (.slice U3 0 0) (.slice U3 0 0) (.slice U3 0 0)) (cK w4 w.heap.size (.int .i64 0) (.int .i64 0) (.int .i64 (s.given+1)) (.slice U3 0 0) (.slice U3 0 0) (.slice U3 0 0) (.slice U3 0 0))):=by
  rw[HD.y];have y:=c.y;have o:=y.of;refine sG F ⟨o.now,o.given,o.ts,o.es,o.th,o.tb⟩ y.wl ?_ ((y.st.trans (Step.below (dM w3))).trans (M.any (Vg D.y.hB y.st.size))) D.y.hB (M.cU y.qc y.ql) 0 (s.given+1) _ _ _ _ _ _ _;have hh:=D.y.ds.hl.comes (g:=g.num (s.given+1)) H p1 (by rw[<- y.hl];exact p2);unfold Hl at hh ⊢;show _/\List.Perm l' ((r2.eg.filter _).map _);rw[y.eg];exact hh
 clear p1 p2 F M PU k0 k1 k5;obtain⟨q0,S,R,q3,q4,q5,q6,fq⟩:=c.y.q7.later hq
 go_wp2_with fail
 exact cO results144 ⟨q0,S,R,q3,q4,q5,q6,fq⟩ ⟨_,rfl,HF.y⟩
theorem I0{g:EG}(h:kK w B d s r aJ g i):
  Va prog 144 #[.pointer (U4 ⟨d,0,U3⟩),.pointer (U4 ⟨g.eb,0,U3⟩)] w fun e w'=>∃ v,e=.returned v/\lD w B d aJ (il s g.e) v w':=by
 by_cases n:s.given=60\/g.e.kind=3/\aA.eh s.es=6
 ·exact Sc h.ds h.en h.hB n
 ·have l:=h.ds.inv.g1;have j:=h.ds.inv.wa;have f:=h.ds.wl.eh h.ds.of
  by_cases c:g.e.kind=3
  ·exact Se h UI c UI
  ·exact Sd h UI c
theorem Uz(h:fA s name u fr til≠0):aA.aU s (.enter k name u fr til long)=(s,aA.bO.error (fA s name u fr til)):=by
 have e:aA.re s k name u fr til long=fA s name u fr til:=by
  unfold aA.re fA at *
  by_cases c:aA.dH s.ts name u≠0
  ·rw[U1 c,U1 c]
  ·rw[U0 c] at h ⊢;rw[U0 c]
   by_cases f:til<=fr
   ·rw[U1 f,U1 (.inl f)]
   ·rw[U0 f] at h;omega
 simp only[aA.aU,e];rw[U1 h]
theorem sS(h:fA s name u fr til=0):aA.dH s.ts name u=0/\fr<til:=by
 unfold fA at h
 by_cases c:aA.dH s.ts name u≠0
 ·rw[U1 c] at h;omega
 ·rw[U0 c] at h
  by_cases f:til<=fr
  ·rw[U1 f] at h;omega
  ·omega
theorem Uk(h:fA s name u fr til=0)(q:s.now+long<=1048320):aA.aU s (.enter k name u fr til long)=il s (aA.nT s k name u fr til long):=by
 obtain⟨x,t⟩:=sS h;simp only[aA.aU];unfold aA.re il;rw[U0 (c:=aA.dH s.ts name u≠0) UI,U0 (c:=til<=fr\/1048320<s.now+long) UI];have o:(aA.nT s k name u fr til long).kind=k:=rfl;have n:(aA.nT s k name u fr til long).aT=name:=rfl;have l:(aA.nT s k name u fr til long).aH=u:=rfl;have es:(aA.nT s k name u fr til long).aL=[(fr,til)]:=rfl;rw[o,n,l,es]
 by_cases f:s.given=60
 ·simp[f]
 ·by_cases g:k=3
  ·by_cases j:aA.eh s.es=6
   ·simp[f,g,j]
   ·simp[f,g,j]
  ·cases aA.dG s.ts s.es name u [(fr,til)] <;> simp[f,g]
def Fc(k:UZ)(name:UU)(u fr til un:UZ)(N c:UY):EG:=⟨⟨0,k,name,u,[(fr,til)],un⟩,N+1,N,1,c⟩
theorem dS.asks(h:dS w d s r aJ)(q:U9 w.heap.size w w1){un:UZ}(x:i<r.tg.length)(c:r.tg[i].name=name)(ok:gD s.now ⟨0,k,name,u,[(fr,til)],un⟩):
  kK ((w1.alloc (.cells #[.int .i64 fr,.int .i64 til] 60)).alloc (.cells #[.int .i64 0,.int .i64 k,.pointer (U4 ⟨r.tg[i].tb,0,U3⟩),.int .i64 u,.slice (U4 ⟨w1.heap.size,0,U3⟩) 1 1,.int .i64 un] 200)) w1.heap.size d s r aJ (Fc k name u fr til un w1.heap.size r.tg[i].tb) i:=by
 have n:U9 w1.heap.size w1 ((w1.alloc (.cells #[.int .i64 fr,.int .i64 til] 60)).alloc (.cells #[.int .i64 0,.int .i64 k,.pointer (U4 ⟨r.tg[i].tb,0,U3⟩),.int .i64 u,.slice (U4 ⟨w1.heap.size,0,U3⟩) 1 1,.int .i64 un] 200)):=((zr _ _).alloc (zq _) _).alloc UJ _;have g:=h.dk.later q
 have eb:((w1.alloc (.cells #[.int .i64 fr,.int .i64 til] 60)).alloc (.cells #[.int .i64 0,.int .i64 k,.pointer (U4 ⟨r.tg[i].tb,0,U3⟩),.int .i64 u,.slice (U4 ⟨w1.heap.size,0,U3⟩) 1 1,.int .i64 un] 200)).heap[w1.heap.size+1]?=U4 (.cells #[.int .i64 0,.int .i64 k,.pointer (U4 ⟨r.tg[i].tb,0,U3⟩),.int .i64 u,.slice (U4 ⟨w1.heap.size,0,U3⟩) 1 1,.int .i64 un] 200 (0,0)):=by
  have:=cC (w1.alloc (.cells #[.int .i64 fr,.int .i64 til] 60)) (.cells #[.int .i64 0,.int .i64 k,.pointer (U4 ⟨r.tg[i].tb,0,U3⟩),.int .i64 u,.slice (U4 ⟨w1.heap.size,0,U3⟩) 1 1,.int .i64 un] 200)
  rwa [World.size_alloc] at this
 have l:((w1.alloc (.cells #[.int .i64 fr,.int .i64 til] 60)).alloc (.cells #[.int .i64 0,.int .i64 k,.pointer (U4 ⟨r.tg[i].tb,0,U3⟩),.int .i64 u,.slice (U4 ⟨w1.heap.size,0,U3⟩) 1 1,.int .i64 un] 200)).heap[w1.heap.size]?=U4 (.cells #[.int .i64 fr,.int .i64 til] 60 (0,0)) :=
  (Below.heap_alloc _ _ _ UJ).trans (cC w1 _)
 have y:((w1.alloc (.cells #[.int .i64 fr,.int .i64 til] 60)).alloc (.cells #[.int .i64 0,.int .i64 k,.pointer (U4 ⟨r.tg[i].tb,0,U3⟩),.int .i64 u,.slice (U4 ⟨w1.heap.size,0,U3⟩) 1 1,.int .i64 un] 200)).heap.size=w1.heap.size+2:=UJ
 generalize (w1.alloc (.cells #[.int .i64 fr,.int .i64 til] 60)).alloc (.cells #[.int .i64 0,.int .i64 k,.pointer (U4 ⟨r.tg[i].tb,0,U3⟩),.int .i64 u,.slice (U4 ⟨w1.heap.size,0,U3⟩) 1 1,.int .i64 un] 200)=Z at *;refine⟨⟨g.later n,h.of,h.wl,h.hl,h.inv⟩,⟨⟨?_,?_,?_,?_,fun j t=>?_,?_⟩,?_,?_,fun o=>frozen_of_row _ _ _ _ _ eb,⟨_,eb⟩⟩,g.none (Y0 _),g.none (zq _),Y0 _,Vd _,(by show w1.heap.size+1≠w1.heap.size;omega),n.size,x,c,rfl,ok⟩
 ·show Z.cell? ⟨w1.heap.size+1,0,U3⟩=_;simp only[VA,eb];rfl
 ·show Z.cell? ⟨w1.heap.size+1,2,U3⟩=_;simp only[VA,eb];rfl
 ·show Z.cell? ⟨w1.heap.size+1,3,U3⟩=_;simp only[VA,eb];rfl
 ·show Z.cell? ⟨w1.heap.size+1,4,U3⟩=_;simp only[VA,eb];rfl
 ·have f:j=0:=by simp[Fc] at t;omega
  subst f;constructor
  ·show Z.cell? ⟨w1.heap.size,0,U3⟩=_;simp only[VA,l];rfl
  ·show Z.cell? ⟨w1.heap.size,1,U3⟩=_;simp only[VA,l];rfl
 ·show w1.heap.size<_;omega
 ·show Z.cell? ⟨w1.heap.size+1,1,U3⟩=_;simp only[VA,eb];rfl
 ·show Z.cell? ⟨w1.heap.size+1,5,U3⟩=_;simp only[VA,eb];rfl
theorem lD.IL{q:St × aA.bO}(h:lD Z B d aJ q v w2)(st:Step anyS w.heap.size aJ aJ w Z)(F:w.heap.size<=B)(E:w.heap.size<=Q)(l:Q<B)(t:aJ Q=U3)(x:Q7 Z Q):
  ∃ j n:UZ,v=bC j 0 n (.slice U3 0 0) (.slice U3 0 0) (.slice U3 0 0) (.slice U3 0 0)/\Q7 w2 Q/\∀ a b c e f g i,dX w d aJ q (bC j 0 n (.slice U3 0 0) (.slice U3 0 0) (.slice U3 0 0) (.slice U3 0 0)) (cK w2 Q a b c e f g i):=by
 obtain⟨j,n,H,col',rfl,G,C,A,z,y,o⟩:=h;have D:=Vh _ _ x.q0;refine⟨j,n,rfl,x.later (o.bV D t l),fun a b c e f g i=>?_⟩;have:q=(q.1,⟨j,0,n,[],[],[],[]⟩):=by rw[<- G]
 rw[this];exact vL C A z y (st.trans (o.any F)) E (o.cU t l) j n a b c e f g i
theorem Pt(h:dS w d s r aJ)(name:UU)(hn:name.size<=1000)(u fr til:UZ)(x:aA.jA (.enter 1 name u fr til 0)):
  Va prog 92 #[.pointer (U4 ⟨d,0,U3⟩),.agg #[.string name,.int .i64 u,.int .i64 fr,.int .i64 til]] w fun e w'=>∃ v,e=.returned v/\dX w d aJ (aA.aU s (.enter 1 name u fr til 0)) v w':=by
 obtain⟨M,j,c,N⟩:=uL w (.cells #[.string name,.int .i64 u,.int .i64 fr,.int .i64 til] 154);have S:=aC (vM (h.dk.later M) h.of h.aS name hn u fr til);have y:=aC h;have o:=aC (zA M j);have T:=aY c 0 rfl;have D:=aY c 1 rfl;have C:=aY c 2 rfl;have A:=aY c 3 rfl;clear h M j c
 go_in
 go_upto_region 1 with fail
 change YS _ _ _ _ ((w.alloc (.cells #[.string name,.int .i64 u,.int .i64 fr,.int .i64 til] 154)).alloc aW);generalize (w.alloc (.cells #[.string name,.int .i64 u,.int .i64 fr,.int .i64 til] 154)).alloc aW=X at *
 go_wp2_with fail
 refine S.y.mono ?_;rintro e w1 ⟨hp,f⟩;have t:Hid (U9 w.heap.size w w1):=o.y.1.trans (f.mono o.y.1.size);have P:Hid (Q7 w1 (w.heap.size+1)):=(Q7.of o.y.2).later (f.block _ N);rcases hp with ⟨g,rfl⟩|⟨g,i,hi,W,e2,rfl⟩
 ·have R:=aC (Uz (k:=1) (long:=0) g);generalize fA s name u fr til=l at *;have aa:(l != 0)=U6:=by simpa using g
  clear g S o f T D C A
  go_wp2_with fail
  refine (lF l w1).mono ?_;rintro e w2 ⟨rfl,L⟩;have z:=aC (y.y.refuse t.y P.y L R.y);obtain⟨K,J,I,H,G,F,E,O⟩:=z.y.1;simp only[bC]
  go_wp2_with fail
  exact cO results92 ⟨K,J,I,H,G,F,E,O⟩ ⟨_,rfl,z.y.2⟩
 ·have R:=aC (Uk (k:=1) (long:=0) g (by have:=y.y.inv.n1;omega));have y1:=(zo (w:=X) (a:=⟨w.heap.size,1,U3⟩) (f.block w.heap.size UI)).trans D;have y2:=(zo (w:=X) (a:=⟨w.heap.size,2,U3⟩) (f.block w.heap.size UI)).trans C;have y3:=(zo (w:=X) (a:=⟨w.heap.size,3,U3⟩) (f.block w.heap.size UI)).trans A;have EN:=aC (I0 (y.y.asks t.y (k:=1) (u:=u) (fr:=fr) (til:=til) (un:=0) hi W ⟨x.2.1,x.2.2.1,(by show 1<=40;omega),UJ,(by intro q hq;have:q=(fr,til):=Yo.1 hq;subst this;have:=(sS g).2;exact⟨x.2.2.2.1,this,x.2.2.2.2.2.2⟩),List.pairwise_singleton _ _,.inl ⟨rfl,rfl⟩⟩));have AL:Hid (U9 w1.heap.size w1 ((w1.alloc (.cells #[.int .i64 fr,.int .i64 til] 60)).alloc (.cells #[.int .i64 0,.int .i64 1,.pointer (U4 ⟨r.tg[i].tb,0,U3⟩),.int .i64 u,.slice (U4 ⟨w1.heap.size,0,U3⟩) 1 1,.int .i64 0] 200))):=((zr _ _).alloc (zq _) _).alloc UJ _;have QL:Hid (w.heap.size+1<w1.heap.size):=Vh _ _ P.y.q0;clear g S o f T D C A W e2
  go_wp2_with fail
  refine EN.y.mono ?_;rintro e w2 ⟨v,rfl,V⟩;obtain⟨l,n,rfl,q7,U⟩:=V.IL (Q:=(w.heap.size+1)) (Step.below (t.y.trans (AL.y.mono t.y.size))) t.y.size UI QL.y (y.y.dk.none UI) (P.y.later (AL.y.block _ QL.y))
  have z:Hid (dX w d aJ (aA.aU s (.enter 1 name u fr til 0)) (bC l 0 n (.slice U3 0 0) (.slice U3 0 0) (.slice U3 0 0) (.slice U3 0 0)) (cK w2 (w.heap.size+1) (.int .i64 l) (.int .i64 0) (.int .i64 n) (.slice U3 0 0) (.slice U3 0 0) (.slice U3 0 0) (.slice U3 0 0))):=by
   rw[R.y];exact U _ _ _ _ _ _ _
  clear V U EN;obtain⟨K,J,I,H,G,F,E,O⟩:=q7;simp only[bC]
  go_wp2_with fail
  exact cO results92 ⟨K,J,I,H,G,F,E,O⟩ ⟨_,rfl,z.y⟩
theorem dS.levels(h:dS w d s r aJ)(c:i<r.tg.length):∀ p,0<=cN r.tg[i].name s.es p/\cN r.tg[i].name s.es p<=1000000:=fun p=>by
 have g:=aA.tQ r.tg[i].name p s.es h.aS.small;have f:=lY h.aS;omega
theorem Qs(h:dS w d s r aJ)(k:U9 w.heap.size w wx)(c:i<r.tg.length){b:UZ}(t:0<=a)(l:a<b)(q:b<=1048320):
  Va prog 153 #[.pointer (U4 ⟨r.tg[i].tb,2,U3⟩),.agg #[.int .i64 a,.int .i64 b]] wx fun e w'=>e=.returned (.int .i64 (aA.lE r.tg[i].name s.es a b))/\U9 wx.heap.size wx w':=by
 obtain⟨n,y,x,C,f,z⟩:=(h.dk.later k).th i c;have j:=h.levels c;have e:=aA.QG (name:=r.tg[i].name) h.aS.small (Cp h.aS) t l q;unfold sk at e;have g:=f.lv;rw[(h.of.th i c).1] at g;refine (Gd (jt (cN r.tg[i].name s.es)) _ 2 n x a b wx f.c2 g (vq j) (xW (fun p=>(j p).1)) l).mono ?_;rintro A w' ⟨rfl,o⟩;exact⟨by rw[<- e],o⟩
theorem Qt(h:dS w d s r aJ)(k:U9 w.heap.size w wx)(c:i<r.tg.length){b:UZ}(x:0<=a)(E:a<b)(t:b<=1048320)(o:1<=long)(D:long<=1048320)(A:0<=u):
  Va prog 154 #[.pointer (U4 ⟨r.tg[i].tb,2,U3⟩),.agg #[.int .i64 a,.int .i64 b],.int .i64 long,.int .i64 (r.tg[i].aH-u)] wx fun e w'=>∃ q:UW UZ,e=.returned (iN q)/\aA.iY s.ts s.es r.tg[i].name u long a b=aA.Fw q/\U9 wx.heap.size wx w':=by
 obtain⟨z,G,F,J,g,H⟩:=(h.dk.later k).th i c;have n:=h.levels c;have j:=g.lv;rw[(h.of.th i c).1] at j
 have f:aA.bJ r.tg[i].name s.ts=r.tg[i].aH:=by
  have y:=B7 h.aS.tn (i:=i) (by rw[<- h.of.len];exact c);rw[h.of.jS c] at y;exact y
 refine (Pr (jt (cN r.tg[i].name s.es)) _ 2 z F a b long (r.tg[i].aH-u) wx g.c2 j (vq n) (xW (fun p=>(n p).1)) x E t o D).mono ?_;rintro I w' ⟨q,rfl,l,C⟩;rw[<- f] at l;exact⟨q,rfl,aA.Rn h.aS.small (Cp h.aS) x t A o l,C⟩
theorem TQ(g:ec s)(h:fA s name 0 fr til≠0):aA.aU s (.cY name fr til)=(s,aA.bO.error (fA s name 0 fr til)):=by
 have l:=aA.Cy g.tu name;simp only[aA.aU];unfold fA aA.dH at *
 by_cases c:aA.bJ name s.ts=0
 ·rw[U1 c];simp[c]
 ·have j:¬ (aA.bJ name s.ts<0):=UI
  simp only[c,j] at h ⊢
  by_cases f:til<=fr
  ·simp[f]
  ·simp[f] at h
theorem Qx(h:fA s name 0 fr til=0):aA.aU s (.cY name fr til)=(s,aA.bO.num (aA.lE name s.es fr til)):=by
 obtain⟨c,g⟩:=sS h;have f:aA.bJ name s.ts≠0:=fun e=>by unfold aA.dH at c;rw[U1 e] at c;omega
 simp only[aA.aU];rw[U0 f,U0 UI]
theorem Oq(c:Array U8)(w:U7):(callFunc 153 c).run prog w=.ok (.enter 153 c) w:=UO
theorem Qi(h:dS w d s r aJ)(name:UU)(V:name.size<=1000)(fr til:UZ)(O:aA.jA (.cY name fr til)):
  Va prog 100 #[.pointer (U4 ⟨d,0,U3⟩),.agg #[.string name,.int .i64 fr,.int .i64 til]] w fun e w'=>∃ v,e=.returned v/\dX w d aJ (aA.aU s (.cY name fr til)) v w':=by
 obtain⟨H,l,f,I⟩:=uL w (.cells #[.string name,.int .i64 fr,.int .i64 til] 176);have M:=aY f 0 rfl;have y:=aY f 1 rfl;have x:=aY f 2 rfl;have L:=aC (vM (h.dk.later H) h.of h.aS name V 0 fr til);have o:=aC h;have n:=aC (zA H l);clear h H l f
 go_in
 go_upto_region 1 with fail
 change YS _ _ _ _ ((w.alloc (.cells #[.string name,.int .i64 fr,.int .i64 til] 176)).alloc aW);generalize (w.alloc (.cells #[.string name,.int .i64 fr,.int .i64 til] 176)).alloc aW=X at *
 go_wp2_with fail
 refine L.y.mono ?_;rintro e w1 ⟨U,j⟩;have t:Hid (U9 w.heap.size w w1):=n.y.1.trans (j.mono n.y.1.size);have K:Hid (Q7 w1 (w.heap.size+1)):=(Q7.of n.y.2).later (j.block _ I);rcases U with ⟨g,rfl⟩|⟨g,i,W,P,e2,rfl⟩
 ·have q:=aC (TQ o.y.aS g);generalize fA s name 0 fr til=er at *;have aa:(er != 0)=U6:=by simpa using g
  clear g L n j M y x
  go_wp2_with fail
  refine (lF er w1).mono ?_;rintro e w2 ⟨rfl,c⟩;have S:=aC (o.y.refuse t.y K.y c q.y);obtain⟨G,F,E,D,C,A,z,J⟩:=S.y.1;simp only[bC]
  go_wp2_with fail
  exact cO results100 ⟨G,F,E,D,C,A,z,J⟩ ⟨_,rfl,S.y.2⟩
 ·have q:=aC (Qx g);have y1:=(zo (w:=X) (a:=⟨w.heap.size,1,U3⟩) (j.block w.heap.size UI)).trans y;have y2:=(zo (w:=X) (a:=⟨w.heap.size,2,U3⟩) (j.block w.heap.size UI)).trans x;have R:=aC (Qs o.y (wx:=w1.drew) t.y.drew W O.1 (sS g).2 O.2.2.2);rw[P] at R;have T:Hid (∀ w2,U9 w1.drew.heap.size w1.drew w2->Q7 w2 (w.heap.size+1)/\dX w d aJ (aA.aU s (.cY name fr til)) (bC 0 0 (aA.lE name s.es fr til) (.slice U3 0 0) (.slice U3 0 0) (.slice U3 0 0) (.slice U3 0 0)) (cK w2 (w.heap.size+1) (.int .i64 0) (.int .i64 0) (.int .i64 (aA.lE name s.es fr til)) (.slice U3 0 0) (.slice U3 0 0) (.slice U3 0 0) (.slice U3 0 0))):=fun w2 N=>⟨K.y.later (N.block _ (Vh _ _ K.y.q0)),by rw[q.y];exact o.y.said (t.y.drew.trans (N.mono t.y.size)) UI 0 (aA.lE name s.es fr til) _ _ _ _ _ _ _⟩
  clear g L n j M y x P e2 q;generalize (aA.lE name s.es fr til)=nn at *
  go_upto_region 4 with fail
  go_region_law (first
   |(refine qW (by rfl) 153 _ _ (by rfl) _ (by simp[Act.eval]) (Oq _ _) R.y ?_;rintro e w2 ⟨rfl,c⟩;refine⟨_,rfl,?_⟩;have FF:=aC (T.y w2 c);obtain⟨⟨G,F,E,D,C,A,z,J⟩,_⟩:=T.y w2 c))
  all_goals
   go_wp2_with fail
   exact cO results100 ⟨G,F,E,D,C,A,z,J⟩ ⟨_,rfl,FF.y.2⟩
theorem TP(h:fA s name u fr til≠0):aA.aU s (.find name u long fr til)=(s,aA.bO.error (fA s name u fr til)):=by
 simp only[aA.aU];unfold fA at *
 by_cases c:aA.dH s.ts name u≠0
 ·rw[U1 c,U1 c]
 ·rw[U0 c] at h ⊢;rw[U0 c]
  by_cases f:til<=fr
  ·rw[U1 f,U1 f]
  ·rw[U0 f] at h;omega
theorem Qw(h:fA s name u fr til=0):aA.aU s (.find name u long fr til)=(s,aA.bO.num (aA.iY s.ts s.es name u long fr til)):=by
 obtain⟨f,c⟩:=sS h;simp only[aA.aU];rw[U0 UI,U0 UI]
theorem Ph(h:dS w d s r aJ)(name:UU)(hn:name.size<=1000)(u long fr til:UZ)(g:aA.jA (.find name u long fr til)):
  Va prog 101 #[.pointer (U4 ⟨d,0,U3⟩),.agg #[.string name,.int .i64 u,.int .i64 long,.int .i64 fr,.int .i64 til]] w fun e w'=>∃ v,e=.returned v/\dX w d aJ (aA.aU s (.find name u long fr til)) v w':=by
 obtain⟨hX,G,f,ac⟩:=uL w (.cells #[.string name,.int .i64 u,.int .i64 long,.int .i64 fr,.int .i64 til] 178);have x0:=aY f 0 rfl;have x1:=aY f 1 rfl;have W:=aY f 2 rfl;have V:=aY f 3 rfl;have U:=aY f 4 rfl;have AK:=aC (vM (h.dk.later hX) h.of h.aS name hn u fr til);have n:=aC h;have I:=aC (zA hX G);clear h hX G f
 go_in
 go_upto_region 1 with fail
 change YS _ _ _ _ ((w.alloc (.cells #[.string name,.int .i64 u,.int .i64 long,.int .i64 fr,.int .i64 til] 178)).alloc aW);generalize (w.alloc (.cells #[.string name,.int .i64 u,.int .i64 long,.int .i64 fr,.int .i64 til] 178)).alloc aW=X at *
 go_wp2_with fail
 refine AK.y.mono ?_;rintro e w1 ⟨hp,j⟩;have J:Hid (U9 w.heap.size w w1):=I.y.1.trans (j.mono I.y.1.size);have QX:Hid (Q7 w1 (w.heap.size+1)):=(Q7.of I.y.2).later (j.block _ ac);rcases hp with ⟨l,rfl⟩|⟨l,i,hi,e1,e2,rfl⟩
 ·have N:=aC (TP (long:=long) l);generalize fA s name u fr til=er at *;have ae:(er != 0)=U6:=by simpa using l
  clear l AK I j x0 x1 W V U
  go_wp2_with fail
  refine (lF er w1).mono ?_;rintro e w2 ⟨rfl,c⟩;have HF:=aC (n.y.refuse J.y QX.y c N.y);obtain⟨E,D,C,A,z,y,t,H⟩:=HF.y.1;simp only[bC]
  go_wp2_with fail
  exact cO results101 ⟨E,D,C,A,z,y,t,H⟩ ⟨_,rfl,HF.y.2⟩
 ·have N:=aC (Qw (long:=long) l);have T:=(zo (w:=X) (a:=⟨w.heap.size,1,U3⟩) (j.block w.heap.size UI)).trans x1;have S:=(zo (w:=X) (a:=⟨w.heap.size,2,U3⟩) (j.block w.heap.size UI)).trans W;have R:=(zo (w:=X) (a:=⟨w.heap.size,3,U3⟩) (j.block w.heap.size UI)).trans V;have P:=(zo (w:=X) (a:=⟨w.heap.size,4,U3⟩) (j.block w.heap.size UI)).trans U;obtain⟨ul,us,Fl,Fs,t1,t2⟩:=(n.y.dk.later J.y).th i hi;have cu:=t1.c1
  have aa:1<=r.tg[i].aH/\r.tg[i].aH<=9:=by
   have ab:(r.tg[i].name,r.tg[i].aH)∈s.ts:=by rw[<- n.y.of.jS hi];exact zg _
   exact n.y.inv.tu _ ab
  have ad:Vf.wrap (r.tg[i].aH-u)=r.tg[i].aH-u:=cG (by have:=g.1;have:=g.2.1;omega) (by have:=g.1;omega);have RC:=aC (Qt n.y (wx:=w1.drew) J.y.drew (u:=u) hi g.2.2.2.2.1 (sS l).2 g.2.2.2.2.2.2.2 g.2.2.1 g.2.2.2.1 (by have:=g.1;omega));rw[e1] at RC
  have RD:Hid (Va prog 154 #[.pointer (U4 ⟨r.tg[i].tb,2,U3⟩),.agg #[.int .i64 fr,.int .i64 til],.int .i64 long,.int .i64 (r.tg[i].aH-u)] w1.drew fun e w'=>∃ (x:UZ) (L:UX),e=.returned (.tuple #[.int .i64 x,.bool L])/\aA.iY s.ts s.es name u long fr til=(if L then x else -1)/\U9 w1.drew.heap.size w1.drew w'):=by
   refine RC.y.mono ?_;rintro e w' ⟨q,rfl,F,c⟩
   cases q with
   |none=>exact⟨0,U5,rfl,F,c⟩
   |some x=>exact⟨x,U6,rfl,F,c⟩
  have o:Hid (∀ w2 K,U9 w1.drew.heap.size w1.drew w2->(aA.iY s.ts s.es name u long fr til)=K->Q7 w2 (w.heap.size+1)/\dX w d aJ (aA.aU s (.find name u long fr til)) (bC 0 0 K (.slice U3 0 0) (.slice U3 0 0) (.slice U3 0 0) (.slice U3 0 0)) (cK w2 (w.heap.size+1) (.int .i64 0) (.int .i64 0) (.int .i64 K) (.slice U3 0 0) (.slice U3 0 0) (.slice U3 0 0) (.slice U3 0 0))):=fun w2 K k2 e=>⟨QX.y.later (k2.block _ (Vh _ _ QX.y.q0)),by rw[N.y,<- e];exact n.y.said (J.y.drew.trans (k2.mono J.y.size)) UI 0 (aA.iY s.ts s.es name u long fr til) _ _ _ _ _ _ _⟩
  clear l AK I j x0 x1 W V U e1 e2 N t1 t2 aa RC;generalize r.tg[i].aH=un at *;generalize r.tg[i].tb=tb at *
  go_upto_region 4 with fail
  have AC:Hid (∀ w2,U9 w1.drew.heap.size w1.drew w2->w2.cell? ⟨w.heap.size,1,U3⟩=U4 (.int .i64 u)/\w2.cell? ⟨w.heap.size,2,U3⟩=U4 (.int .i64 long)/\w2.cell? ⟨w.heap.size,3,U3⟩=U4 (.int .i64 fr)/\w2.cell? ⟨w.heap.size,4,U3⟩=U4 (.int .i64 til)/\w2.cell? ⟨tb,1,U3⟩=U4 (.int .i64 un)):=fun w2 k=>⟨aN k T,aN k S,aN k R,aN k P,aN k cu⟩
  go_region_held3 (fun w'=>w'.cell? ⟨w.heap.size,1,U3⟩=U4 (.int .i64 u)/\w'.cell? ⟨w.heap.size,2,U3⟩=U4 (.int .i64 long)/\w'.cell? ⟨w.heap.size,3,U3⟩=U4 (.int .i64 fr)/\w'.cell? ⟨w.heap.size,4,U3⟩=U4 (.int .i64 til)/\w'.cell? ⟨tb,1,U3⟩=U4 (.int .i64 un))
   (first
    |exact⟨T,S,R,P,cu⟩
    |exact AC.y _ c)
   (first
    |(go_at_call 154;refine RD.y.mono ?_;rintro e w2 ⟨x,L,rfl,F,c⟩))
  have O:=aC c
  cases L
  all_goals
   have M:=aC F;clear F c AC T S R P cu
  ·have FF:=aC (o.y w2 (-1) O.y M.y);obtain⟨⟨E,D,C,A,z,y,t,H⟩,_⟩:=o.y w2 (-1) O.y M.y;clear o RD
   go_wp2_with fail
   exact cO results101 ⟨E,D,C,A,z,y,t,H⟩ ⟨_,rfl,FF.y.2⟩
  ·have FF:=aC (o.y w2 x O.y M.y);obtain⟨⟨E,D,C,A,z,y,t,H⟩,_⟩:=o.y w2 x O.y M.y;clear o RD
   go_wp2_with fail
   exact cO results101 ⟨E,D,C,A,z,y,t,H⟩ ⟨_,rfl,FF.y.2⟩
theorem Cf:∀ (n:UY)(c f:UZ),aG.canon n (fun _=>0) c f=.nil
 |0,_,_=>by simp[aG.canon,aG.mk,aG.isNil]
 |n+1,c,f=>by
  simp only[aG.canon];have h:=Cf n c (aG.aS c f);have g:=Cf n (aG.aS c f) f;rw[h,g];simp[aG.mk,aG.isNil]
theorem QD:jt (fun _=>0)=.nil:=Cf 20 0 1048320
theorem Ic{name:UU}:∀ {es:UV aM},(∀ e∈es,cA name e=U5)->cN name es=fun _=>0
 |[],_=>by funext p;rfl
 |e :: es,h=>by
  funext p
  have ih:=congrFun (Ic (name:=name) (es:=es) (fun x c=>h x (List.mem_cons_of_mem _ c))) p;simp only[cN,h e List.mem_cons_self,ih];rfl
theorem Of.aT(h:Of s r){c:UY}(o:∀ t∈r.tg,t.name≠name):Of { s with ts:=s.ts++[(name,u)] } { r with tg:=r.tg++[⟨name,u,c,fun _=>0,.nil⟩] }:=by
 have l:∀ e∈s.es,cA name e=U5:=fun e y=>by
  obtain⟨g,x,rfl⟩:=h.get y;obtain⟨i,n,C,j⟩:=h.tb g x;have:bW g.e.aT name=U5:=pQ.2 (fun f=>o _ (zg n) (by rw[C,f]));simp[cA,this]
 refine⟨h.now,h.given,by show (r.tg++[_]).map _=_;rw[We,h.ts];rfl,h.es,fun i n=>?_,fun g x=>?_⟩
 ·have q:i<r.tg.length+1:=by simpa using n
  by_cases e:i<r.tg.length
  ·have j:(r.tg++[(⟨name,u,c,fun _=>0,.nil⟩:TG)])[i]'(by simpa using q)=r.tg[i]:=YW e;show (r.tg++[(⟨name,u,c,fun _=>0,.nil⟩:TG)])[i].A=cN (r.tg++[(⟨name,u,c,fun _=>0,.nil⟩:TG)])[i].name s.es/\gC (r.tg++[(⟨name,u,c,fun _=>0,.nil⟩:TG)])[i].name s.es (iX r.eg) (r.tg++[(⟨name,u,c,fun _=>0,.nil⟩:TG)])[i].T;rw[j];exact h.th i e
  ·have f:i=r.tg.length:=UI
   subst f;have j:(r.tg++[(⟨name,u,c,fun _=>0,.nil⟩:TG)])[r.tg.length]'UJ=⟨name,u,c,fun _=>0,.nil⟩:=UJ
   show (r.tg++[(⟨name,u,c,fun _=>0,.nil⟩:TG)])[r.tg.length].A=cN (r.tg++[(⟨name,u,c,fun _=>0,.nil⟩:TG)])[r.tg.length].name s.es/\gC (r.tg++[(⟨name,u,c,fun _=>0,.nil⟩:TG)])[r.tg.length].name s.es (iX r.eg) (r.tg++[(⟨name,u,c,fun _=>0,.nil⟩:TG)])[r.tg.length].T;rw[j];refine⟨(Ic l).symm,XP,fun z=>?_⟩;constructor
   ·intro E;simp[aE.bS] at E
   ·rintro ⟨e,y,D,_⟩;rw[l e y] at D;cases D
 ·obtain⟨i,n,C,j⟩:=h.tb g x;have f:(r.tg++[(⟨name,u,c,fun _=>0,.nil⟩:TG)])[i]'UQ=r.tg[i]:=YW n;refine⟨i,(by show i<(r.tg++[_]).length;simp;omega),?_,?_⟩
  ·exact (congrArg TG.name f).trans C
  ·exact j.trans (congrArg TG.tb f).symm
theorem GV(h:jH r.tg name=U3):∀ t∈r.tg,t.name≠name:=by
 intro t ht e;rw[sO] at h
 cases c:r.tg.find? fun t=>bW t.name name with
 |none=>exact (X6.1 c t ht) (sI.2 e)
 |some y=>rw[c] at h;cases h
theorem dS.yU(h:dS w d s r aJ)(k:U9 w.heap.size w w1)(L:name.size<=1000)(ht:jH r.tg name=U3)(V:r.tg.length<4)(C:Q7 w1 (w.heap.size+1)):
  ∃ m,w1.cell? ⟨d,2,U3⟩=U4 (.map (U4 m))/\∃ w3,(YX 137 (.map (U4 m)) (.string name) (.pointer (U4 ⟨w1.heap.size,0,U3⟩))).run prog (w1.alloc (.cells #[.string name,.int .i64 u,.pointer U3,.pointer U3] 243)).drew=.ok () w3/\Q7 w3 (w.heap.size+1)/\∀ a b c e f g i,dX w d aJ ({ s with ts:=s.ts++[(name,u)] },aA.bO.num 0) (bC 0 0 0 (.slice U3 0 0) (.slice U3 0 0) (.slice U3 0 0) (.slice U3 0 0)) (cK w3 (w.heap.size+1) a b c e f g i):=by
 have D:=h.dk.later k;have x:U9 w1.heap.size w1 (w1.alloc (.cells #[.string name,.int .i64 u,.pointer U3,.pointer U3] 243)).drew:=((zr _ _).alloc (zq _) _).drew;have G:=D.later x;have N:=cC w1 (.cells #[.string name,.int .i64 u,.pointer U3,.pointer U3] 243);have j:(w1.alloc (.cells #[.string name,.int .i64 u,.pointer U3,.pointer U3] 243)).drew.heap[w1.heap.size]?=U4 (.cells #[.string name,.int .i64 u,.pointer U3,.pointer U3] 243 (0,0)):=N;have q:Q7 (w1.alloc (.cells #[.string name,.int .i64 u,.pointer U3,.pointer U3] 243)).drew (w.heap.size+1):=C.later (x.block _ (Vh _ _ C.q0));have K:w.heap.size+1<w1.heap.size:=Vh _ _ C.q0;obtain⟨m0,_,E,_⟩:=D.mt;obtain⟨m,f,I,H,U,T⟩:=G.mt
 have M:m0=m:=by
  have e:=x.cell (p:=⟨d,2,U3⟩) (Vh _ _ E);rw[E,I] at e
  injection e with e;injection e with e;injection e with e
  exact e.symm
 subst M;refine⟨m0,E,?_⟩;generalize (w1.alloc (.cells #[.string name,.int .i64 u,.pointer U3,.pointer U3] 243)).drew=Z at *;obtain⟨w3,n,J,F⟩:=U.jT AU underlying137 UR (A7 L) (by unfold mC;trivial) w1.heap.size
 have O:TH Z w1.heap.size name u (fun _=>0) .nil U3 U3 [] []:=by
  refine⟨?_,?_,?_,?_,fun o=>frozen_of_row _ _ _ _ _ j,?_,⟨rfl,rfl⟩,by simp,by simp,by simp⟩
  ·simp only[VA,j];rfl
  ·simp only[VA,j];rfl
  ·simp only[VA,j];rfl
  ·simp only[VA,j];rfl
  ·rw[QD];exact⟨rfl,rfl⟩
 obtain⟨W,S,R,P⟩:=G.uo (t:=⟨name,u,w1.heap.size,fun _=>0,.nil⟩) (B:=w1.heap.size) I H T O (D.none (zq _)) (zq _) (GV ht) J F;have l:aJ (w.heap.size+1)=U3:=h.dk.none UI;have z:w.heap.size+1≠m0:=fun e=>by rw[e,H] at l;cases l
 have y:w.heap.size+1<Z.heap.size:=Vh _ _ q.q0;have A:w3.heap[w.heap.size+1]?=Z.heap[w.heap.size+1]?:=F.block _ y (fun e=>z (WJ e));refine⟨w3,n,q.later A,fun a b c e f g i=>vL S (h.of.aT (GV ht)) h.wl h.hl (((Step.below k).trans (Step.below x)).trans (R.any k.size)) UI (P _ l (by show w.heap.size+1≠w1.heap.size;omega)) 0 0 a b c e f g i⟩
theorem OS(w:U7):(zeroValue 198).run prog w=.ok (.pointer U3) w:=by simp[go_sem]
theorem Rc(h:dS w d s r aJ)(name:UU)(hn:name.size<=1000)(u:UZ):
  Va prog 91 #[.pointer (U4 ⟨d,0,U3⟩),.agg #[.string name,.int .i64 u]] w fun e w'=>∃ v,e=.returned v/\dX w d aJ (aA.aU s (.aT name u)) v w':=by
 obtain⟨hX,G,o,_⟩:=uL w (.cells #[.string name,.int .i64 u] 149);have L:=aY o 0 rfl;have K:=aY o 1 rfl;have j:=aC h;have t:=aC (zA hX G);clear h hX G o
 go_in
 go_upto_region 1 with fail
 change YS _ _ _ _ ((w.alloc (.cells #[.string name,.int .i64 u] 149)).alloc aW);generalize (w.alloc (.cells #[.string name,.int .i64 u] 149)).alloc aW=X at *;have M:=j.y.dk.later t.y.1;obtain⟨m,f,P,a2,I,O⟩:=M.mt;have c:=(I.block (w':=X.drew) rfl).look AU underlying137 (OS X.drew) (A7 hn);have l:=(I.block (w':=X.drew) rfl).len underlying137;rw[O name] at c;have R:Hid (Q7 X.drew (w.heap.size+1)):=Q7.of t.y.2;have S:Hid (U9 w.heap.size w X.drew):=t.y.1.drew;have U:=j.y.inv.tl;rw[<- j.y.of.len] at U
 cases ht:jH r.tg name with
 |some b =>
  rw[ht] at c;have g:(Yu 137 (.map (U4 m)) (.string name) U5).run prog X.drew=.ok (.pointer (U4 ⟨b,0,U3⟩)) X.drew:=c
  have J:Hid (aA.aU s (.aT name u)=(s,aA.bO.error 4)):=by
   obtain⟨i,hi,e1,e2,e3⟩:=Ii j.y.of j.y.inv.tn ht;have V:(r.tg[i].name,r.tg[i].aH)∈s.ts:=by rw[<- j.y.of.jS hi];exact zg _
   have:=(j.y.inv.tu _ V).1;simp only[Hid,aA.aU];rw[U1 (by rw[e3];omega)]
  clear c I O ht M t l
  go_big_region
  clear g L K P
  go_wp2_with fail
  refine (lF 4 X.drew).mono ?_;rintro e w2 ⟨rfl,n⟩;have q:=aC (j.y.refuse S.y R.y n J.y);obtain⟨E,D,C,A,z,y,x,H⟩:=q.y.1;simp only[bC]
  go_wp2_with fail
  exact cO results91 ⟨E,D,C,A,z,y,x,H⟩ ⟨_,rfl,q.y.2⟩
 |none =>
  rw[ht] at c;have g:(Yu 137 (.map (U4 m)) (.string name) U5).run prog X.drew=.ok (.pointer U3) X.drew:=c;have ac:=Ih j.y.of ht;have b1:X.drew.cell? ⟨d,2,U3⟩=U4 (.map (U4 m)):=P;have z0:X.drew.cell? ⟨w.heap.size,0,U3⟩=U4 (.string name):=L;have z1:X.drew.cell? ⟨w.heap.size,1,U3⟩=U4 (.int .i64 u):=K
  by_cases h4:r.tg.length=4
  ·rw[h4] at l
   have J:Hid (aA.aU s (.aT name u)=(s,aA.bO.error 5)):=by
    simp only[Hid,aA.aU];rw[U0 UI,U1 (by rw[<- j.y.of.len];exact h4)]
   clear c I O ht M t
   go_big_region
   clear g L K P;generalize X.drew=Y at *
   go_wp2_with fail
   refine (lF 5 Y).mono ?_;rintro e w2 ⟨rfl,n⟩;have q:=aC (j.y.refuse S.y R.y n J.y);obtain⟨E,D,C,A,z,y,x,H⟩:=q.y.1;simp only[bC]
   go_wp2_with fail
   exact cO results91 ⟨E,D,C,A,z,y,x,H⟩ ⟨_,rfl,q.y.2⟩
  ·have J:Hid (aA.aU s (.aT name u)=({ s with ts:=s.ts++[(name,u)] },aA.bO.num 0)):=by
    simp only[Hid,aA.aU];rw[U0 UI,U0 (by rw[<- j.y.of.len];exact h4)]
   have HT:=aC ht;have ad:(r.tg.length:UZ)<4:=UI
   clear c I O ht M t
   go_big_region
   clear g L K P;generalize X.drew=Y at *
   go_wp2_with fail
   refine (Hq name Y UI).mono ?_;rintro e w1 ⟨rfl,N⟩;have W:w.heap.size+1<Y.heap.size:=Vh _ _ R.y.q0;obtain⟨m2,g1,w3,F,q7,hf⟩:=j.y.yU (u:=u) (S.y.trans (N.mono S.y.size)) hn HT.y UI (R.y.later (N.block _ W));have g2:w1.cell? ⟨w.heap.size,1,U3⟩=U4 (.int .i64 u):=aN N z1;have q:Hid (dX w d aJ (aA.aU s (.aT name u)) (bC 0 0 0 (.slice U3 0 0) (.slice U3 0 0) (.slice U3 0 0) (.slice U3 0 0)) (cK w3 (w.heap.size+1) (.int .i64 0) (.int .i64 0) (.int .i64 0) (.slice U3 0 0) (.slice U3 0 0) (.slice U3 0 0) (.slice U3 0 0))):=by rw[J.y];exact hf _ _ _ _ _ _ _
   have T:U9 w1.heap.size w1 (w1.alloc (.cells #[.string name,.int .i64 u,.pointer U3,.pointer U3] 243)):=(zr _ _).alloc (zq _) _;have ab:=aN T g1;have aa:=aN T g2;clear hf N l z0 z1 b1 T
   go_upto_region 6 with fail
   go_big_region
   clear F g1 g2 ab aa;obtain⟨E,D,C,A,z,y,x,H⟩:=q7
   go_wp2_with fail
   exact cO results91 ⟨E,D,C,A,z,y,x,H⟩ ⟨_,rfl,q.y⟩
theorem Tx(h:dS w d s r aJ)(name:UU)(C:name.size<=1000)(u:UZ):
  Va prog 64 #[.pointer (U4 ⟨d,0,U3⟩),.iface 149 (.agg #[.string name,.int .i64 u])] w fun e w'=>∃ v,e=.returned v/\dX w d aJ (aA.aU s (.aT name u)) v w':=by
 have f:=aC (h.pX (.cells #[.string name,.int .i64 u] 149));have g:=aC (Rc f.y.1 name C u);clear h;unfold aW at g f;have c:=pe underlying149
 go_in
 go_wp2_with fail
 refine g.y.mono ?_;rintro e w2 ⟨v,rfl,l⟩;obtain⟨K,at_,F,S,R,P,O,J,I,H,G,c1,N,M,L,rfl,n,j⟩:=l.pT f.y.2;have E:=aC j;clear l j g c;obtain⟨A,z,y,x,t,q,o,D⟩:=n;simp only[bC]
 go_wp2_with fail
 exact cO results64 ⟨A,z,y,x,t,q,o,D⟩ ⟨_,rfl,E.y⟩
theorem S6(h:dS w d s r aJ)(name:UU)(D:name.size<=1000)(u fr til:UZ)(E:aA.jA (.enter 1 name u fr til 0)):
  Va prog 64 #[.pointer (U4 ⟨d,0,U3⟩),.iface 154 (.agg #[.string name,.int .i64 u,.int .i64 fr,.int .i64 til])] w fun e w'=>∃ v,e=.returned v/\dX w d aJ (aA.aU s (.enter 1 name u fr til 0)) v w':=by
 have g:=aC (h.pX (.cells #[.string name,.int .i64 u,.int .i64 fr,.int .i64 til] 154));have j:=aC (Pt g.y.1 name D u fr til E);clear h;unfold aW at j g;have f:=qq 154 UK;have c:=pe underlying154
 go_in
 go_wp2_with fail
 refine j.y.mono ?_;rintro e w2 ⟨v,rfl,n⟩;obtain⟨M,at_,H,U,T,S,R,L,K,J,I,c1,P,O,N,rfl,o,l⟩:=n.pT g.y.2;have G:=aC l;clear n l j f c;obtain⟨C,A,z,y,x,t,q,F⟩:=o;simp only[bC]
 go_wp2_with fail
 exact cO results64 ⟨C,A,z,y,x,t,q,F⟩ ⟨_,rfl,G.y⟩
theorem TJ(h:dS w d s r aJ)(id:UZ)(q:0<=id/\id<=9999999):
  Va prog 64 #[.pointer (U4 ⟨d,0,U3⟩),.iface 168 (.agg #[.int .i64 id])] w fun e w'=>∃ v,e=.returned v/\dX w d aJ (aA.aU s (.cancel id)) v w':=by
 have t:=aC (h.pX (.cells #[.int .i64 id] 168));have x:=aC (R9 t.y.1 id q);clear h;unfold aW at x t;have j:=qq 168 UK;have o:=rV 168 UK;have n:=rW 168 UK;have l:=rU 168 UK;have g:=te 168 UK;have f:=td 168 UK;have c:=pe underlying168
 go_in
 go_wp2_with fail
 refine x.y.mono ?_;rintro e w2 ⟨v,rfl,z⟩;obtain⟨R,at_,L,a1,X,W,V,P,O,N,M,c1,U,T,S,rfl,A,y⟩:=z.pT t.y.2;have K:=aC y;clear z y x j o n l g f c;obtain⟨I,H,G,F,E,D,C,J⟩:=A;simp only[bC]
 go_wp2_with fail
 exact cO results64 ⟨I,H,G,F,E,D,C,J⟩ ⟨_,rfl,K.y⟩
theorem S9(h:dS w d s r aJ)(name:UU)(L:name.size<=1000)(fr til:UZ)(M:aA.jA (.cY name fr til)):
  Va prog 64 #[.pointer (U4 ⟨d,0,U3⟩),.iface 176 (.agg #[.string name,.int .i64 fr,.int .i64 til])] w fun e w'=>∃ v,e=.returned v/\dX w d aJ (aA.aU s (.cY name fr til)) v w':=by
 have y:=aC (h.pX (.cells #[.string name,.int .i64 fr,.int .i64 til] 176));have z:=aC (Qi y.y.1 name L fr til M);clear h;unfold aW at z y;have n:=qq 176 UK;have x:=rV 176 UK;have t:=rW 176 UK;have o:=rU 176 UK;have g:=te 176 UK;have f:=td 176 UK;have j:=uV 176 UK;have q:=wO 176 UK;have c:=wW 176 UK;have l:=pe underlying176
 go_in
 go_wp2_with fail
 refine z.y.mono ?_;rintro e w2 ⟨v,rfl,C⟩;obtain⟨V,at_,P,a1,a2,a3,a4,U,T,S,R,c1,c2,X,W,rfl,D,A⟩:=C.pT y.y.2;have O:=aC A;clear C A z n x t o g f j q c l;obtain⟨K,J,I,H,G,F,E,N⟩:=D;simp only[bC]
 go_wp2_with fail
 exact cO results64 ⟨K,J,I,H,G,F,E,N⟩ ⟨_,rfl,O.y⟩
theorem S7(h:dS w d s r aJ)(name:UU)(M:name.size<=1000)(u long fr til:UZ)(N:aA.jA (.find name u long fr til)):
  Va prog 64 #[.pointer (U4 ⟨d,0,U3⟩),.iface 178 (.agg #[.string name,.int .i64 u,.int .i64 long,.int .i64 fr,.int .i64 til])] w fun e w'=>∃ v,e=.returned v/\dX w d aJ (aA.aU s (.find name u long fr til)) v w':=by
 have z:=aC (h.pX (.cells #[.string name,.int .i64 u,.int .i64 long,.int .i64 fr,.int .i64 til] 178));have A:=aC (Ph z.y.1 name M u long fr til N);clear h;unfold aW at A z;have n:=qq 178 UK;have y:=rV 178 UK;have x:=rW 178 UK;have o:=rU 178 UK;have g:=te 178 UK;have f:=td 178 UK;have j:=uV 178 UK;have t:=wO 178 UK;have c:=wW 178 UK;have q:=zU 178 UK;have l:=pe underlying178
 go_in
 go_wp2_with fail
 refine A.y.mono ?_;rintro e w2 ⟨v,rfl,D⟩;obtain⟨W,at_,R,a1,a2,a3,a4,V,U,T,S,c1,c2,c3,X,rfl,E,C⟩:=D.pT z.y.2;have P:=aC C;clear D C A n y x o g f j t c q l;obtain⟨L,K,J,I,H,G,F,O⟩:=E;simp only[bC]
 go_wp2_with fail
 exact cO results64 ⟨L,K,J,I,H,G,F,O⟩ ⟨_,rfl,P.y⟩
theorem Ud(y m:UZ)(w:U7)(ht:gy w):
  Va prog 294 #[.int .i64 y,.int .i64 m] w fun e w'=>e=.returned (.bool (Rd.reached y m))/\w'=w:=by
 cases h:Cal.ok y m 1
 ·have c:=aC (BS y m 1 w ht h);have e:Rd.reached y m=U5:=by unfold Rd.reached;rw[h];rfl
  rw[e];clear h ht e
  go_in
  go_wp2_with fail
  refine c.y.mono ?_;rintro e w1 ⟨rfl,rfl⟩
  go_wp2
  go_ret;exact⟨rfl,rfl⟩
 ·have c:=aC (Ce y m 1 w ht h);have e:Rd.reached y m=decide (Cal.num y m 1<728):=by unfold Rd.reached;rw[h];rfl
  rw[e];clear h ht e;generalize Cal.num y m 1=z at *
  go_in
  go_wp2_with fail
  refine c.y.mono ?_;rintro e w1 ⟨rfl,rfl⟩
  go_wp2
  go_ret;exact⟨rfl,rfl⟩
theorem Hc(y m ev:UZ)(w:U7)(A:0<=y)(z:y<=100000)(x:1<=m)(t:m<=12)(q:1<=ev)(o:ev<=99):
  Va prog 295 #[.int .i64 y,.int .i64 m,.int .i64 ev] w fun e w'=>e=.returned (.tuple #[.int .i64 (Rd.nc y m ev),.int .i64 (Rd.lU m ev)])/\w'=w:=by
 have n:Vf.wrap (m-1)=m-1:=cG UI UI;have l:Vf.wrap (m-1+ev)=m-1+ev:=cG UI UI;have j:Vf.wrap ((m-1+ev).tdiv 12)=(m-1+ev) / 12:=by rw[Int.tdiv_eq_ediv_of_nonneg UI];exact cG UI UI
 have h:Vf.wrap (y+(m-1+ev) / 12)=y+(m-1+ev) / 12:=cG UI UI;have g:(m-1+ev).tmod 12=(m-1+ev) % 12:=Y4 UI;have f:Vf.wrap ((m-1+ev) % 12)=(m-1+ev) % 12:=cG UI UI;have c:Vf.wrap ((m-1+ev) % 12+1)=(m-1+ev) % 12+1:=cG UI UI;unfold Rd.nc Rd.lU
 go_in
 go_wp2
 go_ret2;simp
def ik(r:Rd.bL):U8:=.agg #[.int .i64 r.pc,.int .i64 r.ev,.bool (aI r.acc 0),.bool (aI r.acc 1),.bool (aI r.acc 2),.bool (aI r.acc 3),.bool (aI r.acc 4),.bool (aI r.acc 5),.bool (aI r.acc 6),.int .i64 r.fr,.int .i64 r.mn,.int .i64 r.mi,.int .i64 r.ti,.int .i64 r.un]
def jL(r:Rd.bL)(d:UZ):UZ × UZ:=(d*1440+r.mn,d*1440+r.mn+r.mi)
theorem Ir(r:Rd.bL)(c:Rd.fw r)(d:UZ)(x:0<=d)(t:d<100000)(w:U7):
  Va prog 200 #[ik r,.int .i64 d] w fun e w'=>e=.returned (.agg #[.int .i64 (jL r d).1,.int .i64 (jL r d).2])/\U9 w.heap.size w w':=by
 have h:=c.m0;have g:=c.m1;have q:=c.i1;have o:=c.i2;have n:Vf.wrap (d*1440)=d*1440:=cG UI UI;have l:Vf.wrap (d*1440+r.mn)=d*1440+r.mn:=cG UI UI;have j:Vf.wrap (d*1440+r.mn+r.mi)=d*1440+r.mn+r.mi:=cG UI UI;have f:Hid (U9 w.heap.size w ((w.alloc (.cells #[.int .i64 r.pc,.int .i64 r.ev,.bool (aI r.acc 0),.bool (aI r.acc 1),.bool (aI r.acc 2),.bool (aI r.acc 3),.bool (aI r.acc 4),.bool (aI r.acc 5),.bool (aI r.acc 6),.int .i64 r.fr,.int .i64 r.mn,.int .i64 r.mi,.int .i64 r.ti,.int .i64 r.un] 162)).alloc (.cells #[.int .i64 (d*1440+r.mn),.int .i64 (d*1440+r.mn+r.mi)] 60))):=((zr _ _).alloc (zq _) _).alloc UJ _;clear c;unfold ik
 go_in
 go_wp2_with fail
 exact bodyPost_ret (v:=.agg #[.int .i64 (d*1440+r.mn),.int .i64 (d*1440+r.mn+r.mi)]) (by simp[results,results200,go_sem]) rfl ⟨rfl,f.y⟩
def bN(r:Rd.bL):Obj:=(.cells #[.int .i64 r.pc,.int .i64 r.ev,.bool (aI r.acc 0),.bool (aI r.acc 1),.bool (aI r.acc 2),.bool (aI r.acc 3),.bool (aI r.acc 4),.bool (aI r.acc 5),.bool (aI r.acc 6),.int .i64 r.fr,.int .i64 r.mn,.int .i64 r.mi,.int .i64 r.ti,.int .i64 r.un] 162 (0,0))
theorem tG{r:Rd.bL}(h:w.heap[b]?=U4 (bN r)):w.cell? ⟨b,0,U3⟩=U4 (.int .i64 r.pc):=by unfold bN at h;simp only[VA,h];rfl
theorem oH{r:Rd.bL}(h:w.heap[b]?=U4 (bN r)):w.cell? ⟨b,1,U3⟩=U4 (.int .i64 r.ev):=by unfold bN at h;simp only[VA,h];rfl
theorem tH{r:Rd.bL}(h:w.heap[b]?=U4 (bN r)):w.cell? ⟨b,2,U3⟩=U4 (.bool (aI r.acc 0)):=by unfold bN at h;simp only[VA,h];rfl
theorem tJ{r:Rd.bL}(h:w.heap[b]?=U4 (bN r)):w.cell? ⟨b,3,U3⟩=U4 (.bool (aI r.acc 1)):=by unfold bN at h;simp only[VA,h];rfl
theorem tK{r:Rd.bL}(h:w.heap[b]?=U4 (bN r)):w.cell? ⟨b,4,U3⟩=U4 (.bool (aI r.acc 2)):=by unfold bN at h;simp only[VA,h];rfl
theorem tL{r:Rd.bL}(h:w.heap[b]?=U4 (bN r)):w.cell? ⟨b,5,U3⟩=U4 (.bool (aI r.acc 3)):=by unfold bN at h;simp only[VA,h];rfl
theorem tM{r:Rd.bL}(h:w.heap[b]?=U4 (bN r)):w.cell? ⟨b,6,U3⟩=U4 (.bool (aI r.acc 4)):=by unfold bN at h;simp only[VA,h];rfl
theorem tN{r:Rd.bL}(h:w.heap[b]?=U4 (bN r)):w.cell? ⟨b,7,U3⟩=U4 (.bool (aI r.acc 5)):=by unfold bN at h;simp only[VA,h];rfl
theorem tO{r:Rd.bL}(h:w.heap[b]?=U4 (bN r)):w.cell? ⟨b,8,U3⟩=U4 (.bool (aI r.acc 6)):=by unfold bN at h;simp only[VA,h];rfl
theorem pN{r:Rd.bL}(h:w.heap[b]?=U4 (bN r)):w.cell? ⟨b,9,U3⟩=U4 (.int .i64 r.fr):=by unfold bN at h;simp only[VA,h];rfl
theorem vF{r:Rd.bL}(h:w.heap[b]?=U4 (bN r)):w.cell? ⟨b,10,U3⟩=U4 (.int .i64 r.mn):=by unfold bN at h;simp only[VA,h];rfl
theorem vG{r:Rd.bL}(h:w.heap[b]?=U4 (bN r)):w.cell? ⟨b,11,U3⟩=U4 (.int .i64 r.mi):=by unfold bN at h;simp only[VA,h];rfl
theorem vH{r:Rd.bL}(h:w.heap[b]?=U4 (bN r)):w.cell? ⟨b,12,U3⟩=U4 (.int .i64 r.ti):=by unfold bN at h;simp only[VA,h];rfl
theorem vI{r:Rd.bL}(h:w.heap[b]?=U4 (bN r)):w.cell? ⟨b,13,U3⟩=U4 (.int .i64 r.un):=by unfold bN at h;simp only[VA,h];rfl
open Go.RowKit Go.Shelf
attribute [local go_sem] Y5
def RK(g f:UY)(W c:U7):Prop:=U9 g W c/\c.heap[f]?=W.heap[f]?
theorem Qu(F:Fence)(n:UY)(V:F.fn 296)(C:F.round=U3)(hn:1<=n)(l z N:UY)(r:Rd.bL)(q:Rd.fw r)(J M:UV UZ->U7->Prop)
  (T:∀ pre x W,J pre W->pre.length<(Rd.iG r.ev 800 r.fr).length->YieldAt F (n-1) prog l #[.int .i64 x] W fun e h =>
   (e=.returned (.bool U6)/\J (pre++[x]) h/\RK N z W h)\/(e=.returned (.bool U5)/\M (pre++[x]) h))
  (W:U7) (H:W.heap[z]?=U4 (bN r)) (X:J [] W):
  CallsIn F n prog 296 #[.func (.yield l) #[] #[],.pointer (U4 ⟨z,0,U3⟩)] W fun e h=>(∃ v,e=.returned v) /\
   ((∃ ys,ys=Rd.iG r.ev 800 r.fr/\J ys h)\/(∃ pre,pre <+: Rd.iG r.ev 800 r.fr/\M pre h)):=by
 have c9:=pN H;have e1:=q.e1;have e2:=q.e2;have f0:=q.f0;have f1:=q.f1;clear q;generalize U:Rd.iG r.ev 800 r.fr=S at *;refine callsIn_of_wp func296 rfl V ?_ C;simp only[ntmps296,Y6,VV,VZ,Y7,Y8,Y9,Za,Zb,Zc,Zd,VD]
 gi_wp2
 gi_loopw [3] (fun v wr=>∃ (d:UZ) (f:UY) (pre:UV UZ),v=.int .i64 d/\S=pre++Rd.iG r.ev f d/\0<=d/\d<=10000/\728<=d+f/\J pre wr/\wr.heap[z]?=U4 (bN r)) (fun v _=>(20000-intOf v).toNat)
 case atStart=>exact⟨r.fr,800,[],rfl,U.symm,f0,by omega,by omega,X,H⟩
 case round =>
  obtain⟨d,f,pre,rfl,c,R,P,O,K,I⟩:=hrel
  by_cases j:d<728
  ·obtain⟨g,rfl⟩:∃ g,f=g+1:=⟨f-1,by omega⟩;have A:Rd.iG r.ev (g+1) d=d :: Rd.iG r.ev g (d+r.ev):=by simp[Rd.iG,j]
   rw[A] at c;have k1:Vf.wrap (d+r.ev)=d+r.ev:=cG UI UI;obtain⟨fn,G,y,L,hy,D⟩:=T pre d wr K (by rw[c];simp)
   gi_wp2
   refine D.mono ?_;rintro e W3 (⟨rfl,E,o⟩|⟨rfl,t⟩)
   ·have c1:=oH (o.2.trans I)
    gi_wp2
    go_roundw
    case rel=>exact⟨d+r.ev,g,pre++[d],by simp,by simp[c],by omega,by omega,by omega,E,o.2.trans I⟩
    case measure=>simp[intOf];omega
   ·gi_wp2
    refine bodyPost_ret (results_none rfl _ _ _) rfl ?_;exact⟨⟨_,rfl⟩,.inr ⟨pre++[d],⟨Rd.iG r.ev g (d+r.ev),by simp[c]⟩,t⟩⟩
  ·have A:Rd.iG r.ev f d=[]:=by cases f <;> simp[Rd.iG,j]
   rw[A,XT] at c;subst c
   gi_wp2
   go_end0
   exact⟨⟨_,rfl⟩,.inl K⟩
attribute [local go_sem] Y5
theorem F9{r:Rd.bL}(h:w.heap[b]?=U4 (bN r)):∀ i:UY,i<7->w.cell? ⟨b,2+i,U3⟩=U4 (.bool (aI r.acc i))
 |0,_=>tH h
 |1,_=>tJ h
 |2,_=>tK h
 |3,_=>tL h
 |4,_=>tM h
 |5,_=>tN h
 |6,_=>tO h
 |i+7,hi=>by omega
theorem Sw(F:Fence)(n:UY)(h6:F.fn 292)(aa:F.round=U3)(hn:1<=n)(l M n₀:UY)(r:Rd.bL)(R:Rd.fw r)(J Jx:UV UZ->U7->Prop)
  (hY:∀ pre x W,J pre W->pre.length<(Rd.iw r.acc r.fr r.ev 800 (r.fr-r.fr % 7)).length->YieldAt F (n-1) prog l #[.int .i64 x] W fun e L =>
   (e=.returned (.bool U6)/\J (pre++[x]) L/\RK n₀ M W L)\/(e=.returned (.bool U5)/\Jx (pre++[x]) L))
  (W:U7) (hr:W.heap[M]?=U4 (bN r)) (h0:J [] W):
  CallsIn F n prog 292 #[.func (.yield l) #[] #[],.pointer (U4 ⟨M,0,U3⟩)] W fun e L=>(∃ v,e=.returned v) /\
   ((∃ ys,ys=Rd.iw r.acc r.fr r.ev 800 (r.fr-r.fr % 7)/\J ys L)\/(∃ pre,pre <+: Rd.iw r.acc r.fr r.ev 800 (r.fr-r.fr % 7)/\Jx pre L)):=by
 have c9:=pN hr;have e1:=R.e1;have e2:=R.e2;have f0:=R.f0;have f1:=R.f1;clear R;have m1:r.fr.tmod 7=r.fr % 7:=Y4 f0;have m2:Vf.wrap (r.fr % 7)=r.fr % 7:=cG UI UI;have m3:Vf.wrap (r.fr-r.fr % 7)=r.fr-r.fr % 7:=cG UI UI;have m4:Vf.wrap (r.ev*7)=r.ev*7:=cG UI UI;generalize hS:Rd.iw r.acc r.fr r.ev 800 (r.fr-r.fr % 7)=S at *;refine callsIn_of_wp func292 rfl h6 ?_ aa;simp only[ntmps292,Y6,VV,VZ,Y7,Y8,Y9,Za,Zb,Zc,Zd,VD]
 gi_wp2
 gi_loopw [3] (fun v wr=>∃ (d:UZ) (f:UY) (pre:UV UZ),v=.int .i64 d/\S=pre++Rd.iw r.acc r.fr r.ev f d/\0<=d/\d<=10000/\r.fr<d+7/\728<=d+f/\J pre wr/\wr.heap[M]?=U4 (bN r)) (fun v _=>(20000-intOf v).toNat)
 case atStart=>exact⟨r.fr-r.fr % 7,800,[],rfl,hS.symm,by omega,by omega,by omega,by omega,h0,hr⟩
 case round =>
  obtain⟨c,f,pre,rfl,z,ae,ad,ab,ac,V,U⟩:=hrel;clear c9 hr h0
  by_cases P:c<728
  ·obtain⟨D,rfl⟩:∃ D,f=D+1:=⟨f-1,by omega⟩;have q1:Rd.iw r.acc r.fr r.ev (D+1) c=Rd.ow r.acc r.fr c++Rd.iw r.acc r.fr r.ev D (c+r.ev*7):=by simp[Rd.iw,P]
   rw[q1] at z;have k1:Vf.wrap (c+r.ev*7)=c+r.ev*7:=cG UI UI;have k2:Vf.wrap (c+7)=c+7:=cG UI UI;have c9:=pN U
   by_cases hm:r.fr<=c
   ·have A:Rd.ow r.acc r.fr c=Rd.fV (fun d=>aI r.acc (d-c)) (7-0) (c+((0:UY):UZ)):=by unfold Rd.ow;rw[show max c r.fr=c from by omega,show (c+7-c).toNat=7 from by omega];simp
    gi_wp2
    gi_loopw [4] (fun v wr=>∃ (i:UY) (g:UV UZ),v=.int .i64 (c+i)/\i<=7/\g++Rd.fV (fun d=>aI r.acc (d-c)) (7-i) (c+i)=pre++Rd.ow r.acc r.fr c/\J g wr/\wr.heap[M]?=U4 (bN r)) (fun v _=>(c+7-intOf v).toNat)
    case atStart=>exact⟨0,pre,(by first|(simp;done)|(simp;omega)),by omega,by rw[A],V,U⟩
    case round =>
     obtain⟨i,g,rfl,hi,o,q,j⟩:=hrel;clear V U c9
     by_cases G:i<7
     ·have t:c+(i:UZ)<c+7:=UI
      have O:=F9 j i G;have k3:Vf.wrap (c+(i:UZ)-c)=i:=by rw[show c+(i:UZ)-c=i from by omega];exact cG UI UI
      have k4:Vf.wrap (c+(i:UZ)+1)=c+i+1:=cG UI UI;have hp:c+(i:UZ)-c=i:=UI
      have q5:Rd.fV (fun d=>aI r.acc (d-c)) (7-i) (c+i)=(if aI r.acc i then [c+(i:UZ)] else [])++Rd.fV (fun d=>aI r.acc (d-c)) (7-(i+1)) (c+((i+1:UY):UZ)):=by
       rw[show 7-i=(7-(i+1))+1 from by omega,Rd.fV,hp,show c+((i+1:UY):UZ)=c+i+1 from by omega]
       split <;> simp
      rw[q5] at o
      cases T:aI r.acc i
      ·rw[T] at O o
       gi_wp2
       refine⟨fun _ h=>(by cases h),?_⟩
       gi_wp2
       go_roundw
       case rel=>exact⟨i+1,g,by simp;omega,by omega,by simpa using o,q,j⟩
       case measure=>simp[intOf];omega
      ·rw[T] at O o;obtain⟨fn,N,C,X,hy,I⟩:=hY g (c+i) wr q (by rw[z,<- VP,<- o];simp)
       gi_wp2
       refine I.mono ?_;rintro e W3 (⟨rfl,K,E⟩|⟨rfl,y⟩)
       ·gi_wp2
        go_roundw
        case rel=>exact⟨i+1,g++[c+(i:UZ)],by simp;omega,by omega,by simpa using o,K,E.2.trans j⟩
        case measure=>simp[intOf];omega
       ·gi_wp2
        refine bodyPost_ret (results_none rfl _ _ _) rfl ?_;exact⟨⟨_,rfl⟩,.inr ⟨g++[c+(i:UZ)],⟨Rd.fV (fun d=>aI r.acc (d-c)) (7-(i+1)) (c+((i+1:UY):UZ))++Rd.iw r.acc r.fr r.ev D (c+r.ev*7),by rw[z,<- VP,<- VP,<- o];simp⟩,y⟩⟩
     ·have t:¬ c+(i:UZ)<c+7:=UI
      have c1:=oH j;have e7:i=7:=UI
      subst e7;simp only[Ze,Rd.fV,XT] at o
      gi_wp2
      go_roundw
      case rel=>exact⟨c+r.ev*7,D,g,by simp,by rw[z,o,VP],by omega,by omega,by omega,by omega,q,j⟩
      case measure=>simp[intOf];omega
   ·have H:r.fr=c+((r.fr-c).toNat:UZ):=UI
    have A:Rd.ow r.acc r.fr c=Rd.fV (fun d=>aI r.acc (d-c)) (7-(r.fr-c).toNat) (c+((r.fr-c).toNat:UZ)):=by unfold Rd.ow;rw[<- H,show max c r.fr=r.fr from by omega,show (c+7-r.fr).toNat=7-(r.fr-c).toNat from by omega]
    have HW:=aC (zA H A);clear H A
    gi_wp2
    gi_loopw [4] (fun v wr=>∃ (i:UY) (g:UV UZ),v=.int .i64 (c+i)/\i<=7/\g++Rd.fV (fun d=>aI r.acc (d-c)) (7-i) (c+i)=pre++Rd.ow r.acc r.fr c/\J g wr/\wr.heap[M]?=U4 (bN r)) (fun v _=>(c+7-intOf v).toNat)
    case atStart=>exact⟨(r.fr-c).toNat,pre,(by first|(rw[<- HW.y.1];done)|(rw[<- HW.y.1];congr 1;omega)),by omega,by rw[HW.y.2],V,U⟩
    case round =>
     obtain⟨i,g,rfl,hi,o,q,j⟩:=hrel;clear V U c9
     by_cases G:i<7
     ·have t:c+(i:UZ)<c+7:=UI
      have O:=F9 j i G;have k3:Vf.wrap (c+(i:UZ)-c)=i:=by rw[show c+(i:UZ)-c=i from by omega];exact cG UI UI
      have k4:Vf.wrap (c+(i:UZ)+1)=c+i+1:=cG UI UI;have hp:c+(i:UZ)-c=i:=UI
      have q5:Rd.fV (fun d=>aI r.acc (d-c)) (7-i) (c+i)=(if aI r.acc i then [c+(i:UZ)] else [])++Rd.fV (fun d=>aI r.acc (d-c)) (7-(i+1)) (c+((i+1:UY):UZ)):=by
       rw[show 7-i=(7-(i+1))+1 from by omega,Rd.fV,hp,show c+((i+1:UY):UZ)=c+i+1 from by omega]
       split <;> simp
      rw[q5] at o
      cases T:aI r.acc i
      ·rw[T] at O o
       gi_wp2
       refine⟨fun _ h=>(by cases h),?_⟩
       gi_wp2
       go_roundw
       case rel=>exact⟨i+1,g,by simp;omega,by omega,by simpa using o,q,j⟩
       case measure=>simp[intOf];omega
      ·rw[T] at O o;obtain⟨fn,N,C,X,hy,I⟩:=hY g (c+i) wr q (by rw[z,<- VP,<- o];simp)
       gi_wp2
       refine I.mono ?_;rintro e W3 (⟨rfl,K,E⟩|⟨rfl,y⟩)
       ·gi_wp2
        go_roundw
        case rel=>exact⟨i+1,g++[c+(i:UZ)],by simp;omega,by omega,by simpa using o,K,E.2.trans j⟩
        case measure=>simp[intOf];omega
       ·gi_wp2
        refine bodyPost_ret (results_none rfl _ _ _) rfl ?_;exact⟨⟨_,rfl⟩,.inr ⟨g++[c+(i:UZ)],⟨Rd.fV (fun d=>aI r.acc (d-c)) (7-(i+1)) (c+((i+1:UY):UZ))++Rd.iw r.acc r.fr r.ev D (c+r.ev*7),by rw[z,<- VP,<- VP,<- o];simp⟩,y⟩⟩
     ·have t:¬ c+(i:UZ)<c+7:=UI
      have c1:=oH j;have e7:i=7:=UI
      subst e7;simp only[Ze,Rd.fV,XT] at o
      gi_wp2
      go_roundw
      case rel=>exact⟨c+r.ev*7,D,g,by simp,by rw[z,o,VP],by omega,by omega,by omega,by omega,q,j⟩
      case measure=>simp[intOf];omega
  ·have q1:Rd.iw r.acc r.fr r.ev f c=[]:=by cases f <;> simp[Rd.iw,P]
   rw[q1,XT] at z;subst z
   gi_wp2
   go_end0
   exact⟨⟨_,rfl⟩,.inl V⟩
end Go.Proofs.YtfigmlfdnickmaaGreatDoor
