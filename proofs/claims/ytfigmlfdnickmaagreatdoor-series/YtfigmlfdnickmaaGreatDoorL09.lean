import Derived.Test.YtfigmlfdnickmaaGreatDoorL08
import Derived.Test.YtfigmlfdnickmaaGreatDoorRows
import Derived.Test.YtfigmlfdnickmaaGreatDoorCards
import Derived.Test.YtfigmlfdnickmaaGreatDoorTie
import Derived.Lib.ItoaNum
import Derived.Deep.RegionHeld3
import Derived.Deep.AppendLies
import Derived.WalkKit
import Derived.ProofKit
import Derived.Deep.DeepWitnessRowRef
import Derived.LaidLaws
import Derived.OpenShut
import Derived.Deep.Slices
import Derived.Deep.DeepHandedRow
import Derived.Lib.LaidTab
import Derived.Lib.LaidU8
import Derived.Shelf.Vars
set_option maxRecDepth 100000
set_option maxHeartbeats 8000000
open Go.Proofs.Tryz
open _root_ renaming ByteArray->UU,List->UV,Option->UW,Bool->UX,Nat->UY,Int->UZ,if_neg->U0,if_pos->U1,absurd->U2
open Option renaming none->U3,some->U4
open Bool renaming false->U5,true->U6,and_eq_true->WN,not_eq_true'->Zz,false_eq_true->Vn
open Go renaming World->U7,Value->U8,Calls->Va,Value->Zf
open Go.RowKit renaming Below->U9
open Go.ByteArray renaming toList_eq->Zy
open ByteArray renaming empty->Yy,size_append->ZC
open Array renaming length_toList->ZA,getElem?_eq_none->Wn
open Option.some renaming inj->WJ
open Go.Lib renaming decDigits->ZB,tabData->ZM
open List renaming append_assoc->VP,getElem?_eq_getElem->WS,drop_eq_getElem_cons->Ws,length_eq_zero_iff->VY,foldl_append->Xs,foldl_cons->Xz,map_append->We,getElem?_eq_some_iff->ZI,getElem?_take->W4,mem_map->V9,drop_of_length_le->ZJ,getD->Wf,mem_cons_self->Yp,mem_cons_of_mem->WH,mem_cons->Vq,mem_singleton->Yo,mem_flatMap->ZP,not_mem_nil->ZQ,map->Zx
open Go.Sort renaming grow->ZD
open ByteArray.mk renaming injEq->ZE
open Prod renaming ext->ZF
open Nat renaming le_trans->Vg,le_refl->Vd,zero_le->V6,le_of_eq->ZO
open Go.Op renaming stringOp->ZG
open Go.Value renaming string->YK
open Int renaming natCast_nonneg->YN
open Go.Addr renaming add->ZH
open Go.Exit renaming inBlock->Wq
open List.Perm renaming refl->ZK
open Go.Joins renaming ownsRow_form->Yc
open Prod.mk renaming inj->ZL
open Go.DataW renaming lit->ZN
namespace Go.Proofs.YtfigmlfdnickmaaGreatDoor
variable{b wr:UX}{a k s sym x:UU}{B:UU->UX}{ev' fr mi mn pc pc' ti ti' un un':UZ}{l:UV (aA.aM × Zf)}{L:UV (UZ × UZ)}{ps:UV (UV UU)}{E H K Q R p q ws:UV UU}{acc acc':UV UZ}{xs:UV Zf}{e g m mm n:UY}{s' st:UY × UX}{v:Zf}{W w w':U7}
namespace aA
theorem Cm(ts:UV (UU × UZ)):∀ (r c:UV aM),(dQ ts c r).2.length<=r.length
 |[],c=>by simp[dQ]
 |e :: r,c=>by
  simp only[dQ]
  split
  ·show ((dQ ts (c++[cS e]) r).2.length+1)<=_;have:=Cm ts r (c++[cS e]);simp;omega
  ·have:=Cm ts r (c++[e]);simp;omega
theorem Rp(ts:UV (UU × UZ))(es:UV aM):(eA ts es).2.length<=es.length:=Cm ts es []
end aA
open Go.RowKit
open aA (aM St dB kept dZ cS cN gC cA bW gJ ec gD n8 Inv)
inductive LV:U8->aA.fJ->Prop where
 |aT (name:UU) (hn:name.size<=1000) (u:UZ):LV (.iface 149 (.agg #[.string name,.int .i64 u])) (.aT name u)
 |book (name:UU) (hn:name.size<=1000) (u fr til:UZ):LV (.iface 154 (.agg #[.string name,.int .i64 u,.int .i64 fr,.int .i64 til])) (.enter 1 name u fr til 0)
 |hold (name:UU) (hn:name.size<=1000) (u fr til long:UZ):LV (.iface 156 (.agg #[.string name,.int .i64 u,.int .i64 fr,.int .i64 til,.int .i64 long])) (.enter 2 name u fr til long)
 |wait (name:UU) (hn:name.size<=1000) (u fr til long:UZ):LV (.iface 157 (.agg #[.string name,.int .i64 u,.int .i64 fr,.int .i64 til,.int .i64 long])) (.enter 3 name u fr til long)
 |series (name:UU) (hn:name.size<=1000) (u:UZ) (r:Rd.bL):LV (.iface 165 (.agg #[.string name,.int .i64 u,.int .i64 r.pc,.int .i64 r.ev,.bool (aI r.acc 0),.bool (aI r.acc 1),.bool (aI r.acc 2),.bool (aI r.acc 3),.bool (aI r.acc 4),.bool (aI r.acc 5),.bool (aI r.acc 6),.int .i64 r.fr,.int .i64 r.mn,.int .i64 r.mi,.int .i64 r.ti,.int .i64 r.un])) (.series name u r)
 |confirm (id:UZ):LV (.iface 167 (.agg #[.int .i64 id])) (.confirm id)
 |cancel (id:UZ):LV (.iface 168 (.agg #[.int .i64 id])) (.cancel id)
 |list (name:UU) (hn:name.size<=1000) (wi:UX) (fr til a b:UZ) (ha:(if wi then fr else 0)=a) (hb:(if wi then til else 1048320)=b):LV (.iface 170 (.agg #[.string name,.bool wi,.int .i64 fr,.int .i64 til])) (.list name a b)
 |waiting:LV (.iface 173 (.agg #[])) (.waiting)
 |cY (name:UU) (hn:name.size<=1000) (fr til:UZ):LV (.iface 176 (.agg #[.string name,.int .i64 fr,.int .i64 til])) (.cY name fr til)
 |find (name:UU) (hn:name.size<=1000) (u long fr til:UZ):LV (.iface 178 (.agg #[.string name,.int .i64 u,.int .i64 long,.int .i64 fr,.int .i64 til])) (.find name u long fr til)
 |expand (r:Rd.bL):LV (.iface 180 (.agg #[.int .i64 r.pc,.int .i64 r.ev,.bool (aI r.acc 0),.bool (aI r.acc 1),.bool (aI r.acc 2),.bool (aI r.acc 3),.bool (aI r.acc 4),.bool (aI r.acc 5),.bool (aI r.acc 6),.int .i64 r.fr,.int .i64 r.mn,.int .i64 r.mi,.int .i64 r.ti,.int .i64 r.un])) (.expand r)
 |tick (n:UZ):LV (.iface 182 (.agg #[.int .i64 n])) (.tick n)
 |clock:LV (.iface 183 (.agg #[])) (.clock)
theorem og(h:bE x s=U6):s=x:=by
 have e:s.toList=x.toList:=eq_of_beq h;rw[Zy,Zy] at e;exact aB.pE e
theorem Fq(h:n<ws.length)(c:B (ws.getD n Yy)=U6):dI ws B (n,U5)=(n+1,U5):=by
 simp only[dI,eo,ei,eB,cB,c,h,decide_true,Bool.not_false,Bool.and_self,if_true]
theorem Uw(ws:UV UU)(st:UY × UX):aQ ws [] st=st:=rfl
theorem GZ(h:eB ws n wr B=U6):wr=U5/\n<ws.length/\B (ws.getD n Yy)=U6:=by
 unfold eB cB at h;simp only[WN,Zz,decide_eq_true_eq] at h;exact⟨h.1.1,h.1.2,h.2⟩
theorem B2(h:(dI ws B st).2=U5):eB ws st.1 st.2 B=U6:=by
 unfold dI ei at h
 cases e:eB ws st.1 st.2 B
 ·rw[e] at h;simp at h
 ·rfl
theorem jQ(h:(dI ws B st).2=U5):st.2=U5:=(GZ (B2 h)).1
theorem rh(h:(dI ws B st).2=U5):∃ x,B x=U6/\∀ V,bT ws st B V=V x:=by
 have t:=B2 h;exact⟨_,(GZ t).2.2,fun V=>by unfold bT fh;rw[t];rfl⟩
theorem sg(h:dE x=U6):1<=cL x/\cL x<=9:=by
 unfold dE eM at h;simp only[WN,decide_eq_true_eq] at h;exact⟨h.1.2,h.2⟩
theorem AW(h:eK x=U6):1<=cL x/\cL x<=1048320:=by
 unfold eK eM at h;simp only[WN,decide_eq_true_eq] at h;exact⟨h.1.2,h.2⟩
theorem xh(h:eu x=U6):1<=cL x/\cL x<=99:=by
 unfold eu eM at h;simp only[WN,decide_eq_true_eq] at h;exact⟨h.1.2,h.2⟩
theorem NS(x:UU):0<=cL x/\cL x<=9999999:=aB.kV _
theorem kU(h:bA x=U6):0<=dL x/\dL x<=1048320:=by
 unfold dL;rw[U1 h];unfold bA at h;simp only[WN,decide_eq_true_eq] at h;exact h.2
theorem FG(h:aB.cM x=U6):0<=fT x/\fT x<728:=by
 unfold fT;rw[U1 h];unfold aB.cM at h;exact (of_decide_eq_true h).2
theorem N3(h:aB.dA x=U6):0<=aB.fo x/\aB.fo x<1440:=by
 unfold aB.fo;rw[U1 h];unfold aB.dA at h;obtain⟨_,_,_,_,d,c⟩:=of_decide_eq_true h;have:=aB.kV (aB.part x 0 2);have:=aB.kV (aB.part x 3 5);omega
theorem UB(h:bI x=U6):x.size<=1000:=by
 unfold bI aB.fc at h;rw[WN] at h;have:=of_decide_eq_true h.1;have e:x.size=x.data.toList.length:=by rw[ZA];rfl
 omega
theorem Gm{s:UY × UX}(h:nL ws st ti un s)(j:s.2=U5):st.2=U5/\0<=ti/\ti<=99/\0<=un/\un<728:=by
 cases h with
 |times h =>
  have c:(dI ws eu (dV st)).2=U5:=j;obtain⟨x,d,f⟩:=rh c;have:=xh d;have i:(dV st).2=U5:=jQ c;rw[f cL];exact⟨i,by omega,by omega,by omega,by omega⟩
 |til h1 h =>
  have c:(dI ws aB.cM (dV st)).2=U5:=j;obtain⟨x,d,f⟩:=rh c;have:=FG d;have i:(dV st).2=U5:=jQ c;rw[f fT];exact⟨i,by omega,by omega,by omega,by omega⟩
 |none h1 h=>cases j
theorem Rk{ev:UZ}{s:UY × UX}(h:nS ws st pc ev acc s)(j:s.2=U5):st.2=U5/\1<=pc/\pc<=3/\1<=ev/\ev<=99:=by
 cases h with
 |daily h =>
  have c:(dI ws eu (dV st)).2=U5:=j;obtain⟨x,d,f⟩:=rh c;have:=xh d;have i:(dV st).2=U5:=jQ c;rw[f cL];exact⟨i,by omega,by omega,by omega,by omega⟩
 |weekly h1 h acc ha =>
  have c:(dI ws aB.dU (dI ws eu (dV st))).2=U5:=j;have o:=jQ c;obtain⟨x,d,f⟩:=rh o;have:=xh d;have i:(dV st).2=U5:=jQ o;rw[f cL];exact⟨i,by omega,by omega,by omega,by omega⟩
 |monthly g1 g2 g =>
  have c:(dI ws eu (dV st)).2=U5:=j;obtain⟨x,d,f⟩:=rh c;have:=xh d;have i:(dV st).2=U5:=jQ c;rw[f cL];exact⟨i,by omega,by omega,by omega,by omega⟩
 |none g1 g2 g=>cases j
theorem Ca{ev:UZ}{s:UY × UX}(h:kl ws st pc ev acc fr mn mi ti un s):∃ c,nS ws st pc ev acc c/\nL ws (mA ws c) ti un s/\fr=bT ws (aQ ws [bE cV] c) aB.cM fT/\mn=bT ws (aQ ws [bE cV,aB.cM,bE ek] c) aB.dA aB.fo/\mi=bT ws (aQ ws [bE cV,aB.cM,bE ek,aB.dA,bE fS] c) eK cL:=by
 cases h
 exact⟨_,by assumption,by assumption,rfl,rfl,rfl⟩
theorem Ia{ev:UZ}{s:UY × UX}(h:kl ws st pc ev acc fr mn mi ti un s)(U:s.2=U5):st.2=U5/\Rd.fw ⟨pc,ev,acc,fr,mn,mi,ti,un⟩:=by
 obtain⟨c,N,S,rfl,rfl,rfl⟩:=Ca h;obtain⟨O,A,z,u0,u1⟩:=Gm S U;have j:(dI ws eK (dI ws (bE fS) (dI ws aB.dA (dI ws (bE ek) (dI ws aB.cM (dI ws (bE cV) c)))))).2=U5:=O;have F:=jQ j;have o:=jQ F;have G:=jQ o;have r:=jQ G;have I:=jQ r;obtain⟨M,D,C,X,V⟩:=Rk N (jQ I);obtain⟨Z,P,f⟩:=rh j;obtain⟨Y,J,d⟩:=rh o;obtain⟨xd,T,i⟩:=rh r;have y:=AW P;have u:=N3 J;have t:=FG T;refine⟨M,⟨D,C,X,V,?_,?_,?_,?_,?_,?_,A,z,u0,u1⟩⟩
 ·show 0<=bT ws (dI ws (bE cV) c) aB.cM fT;rw[i];exact t.1
 ·show bT ws (dI ws (bE cV) c) aB.cM fT<728;rw[i];exact t.2
 ·show 0<=bT ws (dI ws (bE ek) (dI ws aB.cM (dI ws (bE cV) c))) aB.dA aB.fo;rw[d];exact u.1
 ·show bT ws (dI ws (bE ek) (dI ws aB.cM (dI ws (bE cV) c))) aB.dA aB.fo<1440;rw[d];exact u.2
 ·show 1<=bT ws (dI ws (bE fS) (dI ws aB.dA (dI ws (bE ek) (dI ws aB.cM (dI ws (bE cV) c))))) eK cL;rw[f];exact y.1
 ·show bT ws (dI ws (bE fS) (dI ws aB.dA (dI ws (bE ek) (dI ws aB.cM (dI ws (bE cV) c))))) eK cL<=1048320;rw[f];exact y.2
theorem NU(h:bD ws 0 U5 x=U6)(y:UU):bD ws 0 U5 y=(x.toList==y.toList):=by
 unfold bD at h ⊢;rw[WN] at h;have e:=eq_of_beq h.2;rw[h.1,e,Bool.true_and]
def pt:U8->UY
 |.iface t _=>t
 |_=>0
def CO:UV (UU × UY):=[(kv,149),(kn,154),(qA,156),(qD,157),(ic,165),(qR,167),(kr,168),(dY,170),(qM,173),(km,176),(ki,178),(iZ,180),(qC,182),(kL,183)]
def jd(f:UU->UX):UY:=((CO.find? fun p=>f p.1).map (·.2)).getD 0
theorem ly(h:bD ws 0 U5 x=U6):jd (bD ws 0 U5)=jd (fun y=>x.toList==y.toList):=by
 rw[show bD ws 0 U5=fun y=>x.toList==y.toList from funext (NU h)]
theorem gK.tag{s:UY × UX}(h:gK ws v s):pt v=jd (bD ws 0 U5):=by
 cases h with
 |none h0 h1 h2 h3 h4 h5 h6 h7 h8 h9 h10 h11 h12 h13=>simp[pt,jd,CO,h0,h1,h2,h3,h4,h5,h6,h7,h8,h9,h10,h11,h12,h13]
 |aT h=>rw[ly h];exact (by decide +kernel:149=jd (fun y=>kv.toList==y.toList))
 |book h=>rw[ly h];exact (by decide +kernel:154=jd (fun y=>kn.toList==y.toList))
 |hold h=>rw[ly h];exact (by decide +kernel:156=jd (fun y=>qA.toList==y.toList))
 |wait h=>rw[ly h];exact (by decide +kernel:157=jd (fun y=>qD.toList==y.toList))
 |series h=>rw[ly h];exact (by decide +kernel:165=jd (fun y=>ic.toList==y.toList))
 |confirm h=>rw[ly h];exact (by decide +kernel:167=jd (fun y=>qR.toList==y.toList))
 |cancel h=>rw[ly h];exact (by decide +kernel:168=jd (fun y=>kr.toList==y.toList))
 |list0 h=>rw[ly h];exact (by decide +kernel:170=jd (fun y=>dY.toList==y.toList))
 |list1 h=>rw[ly h];exact (by decide +kernel:170=jd (fun y=>dY.toList==y.toList))
 |waiting h=>rw[ly h];exact (by decide +kernel:173=jd (fun y=>qM.toList==y.toList))
 |cY h=>rw[ly h];exact (by decide +kernel:176=jd (fun y=>km.toList==y.toList))
 |find h=>rw[ly h];exact (by decide +kernel:178=jd (fun y=>ki.toList==y.toList))
 |expand h=>rw[ly h];exact (by decide +kernel:180=jd (fun y=>iZ.toList==y.toList))
 |tick h=>rw[ly h];exact (by decide +kernel:182=jd (fun y=>qC.toList==y.toList))
 |clock h=>rw[ly h];exact (by decide +kernel:183=jd (fun y=>kL.toList==y.toList))
theorem Oo{s:UY × UX}(h:nL ws st ti un s)(c:nL ws st ti' un' s'):s=s'/\ti=ti'/\un=un':=by
 cases h <;> cases c <;> first|exact⟨rfl,rfl,rfl⟩|(simp_all;done)
theorem Qh{ev:UZ}{s:UY × UX}(h:nS ws st pc ev acc s)(c:nS ws st pc' ev' acc' s'):s=s'/\pc=pc'/\ev=ev'/\(s.2=U5->acc=acc'):=by
 cases h with
 |daily h=>cases c <;> first|exact⟨rfl,rfl,rfl,fun _=>rfl⟩|(simp_all;done)
 |monthly h1 d h=>cases c <;> first|exact⟨rfl,rfl,rfl,fun _=>rfl⟩|(simp_all;done)
 |none h1 d h=>cases c <;> first|exact⟨rfl,rfl,rfl,fun _=>rfl⟩|(simp_all;done)
 |weekly h1 h acc ha =>
  cases c with
  |daily g=>rw[g] at h1;cases h1
  |weekly g1 g acc' ga =>
   refine⟨rfl,rfl,rfl,fun d=>?_⟩;have t:eB ws (aQ ws [eu] (dV st)).1 (aQ ws [eu] (dV st)).2 aB.dU=U6:=B2 (B:=aB.dU) (st:=aQ ws [eu] (dV st)) d;exact WJ ((ha t).symm.trans (ga t))
  |monthly g1 g2 g=>rw[h] at g2;cases g2
  |none g1 g2 g=>rw[h] at g2;cases g2
theorem Gs{ev:UZ}{s:UY × UX}{f c d:UZ}(h:kl ws st pc ev acc fr mn mi ti un s)(D:kl ws st pc' ev' acc' f c d ti' un' s'):
  s=s'/\pc=pc'/\ev=ev'/\(s.2=U5->acc=acc')/\fr=f/\mn=c/\mi=d/\ti=ti'/\un=un':=by
 obtain⟨t,y,o,rfl,rfl,rfl⟩:=Ca h;obtain⟨r,i,j,rfl,rfl,rfl⟩:=Ca D;obtain⟨rfl,rfl,rfl,A⟩:=Qh y i;obtain⟨rfl,rfl,rfl⟩:=Oo o j;refine⟨rfl,rfl,rfl,fun C=>A ?_,rfl,rfl,rfl,rfl,rfl⟩;have z:=(Gm o C).1;have u:(dI ws eK (dI ws (bE fS) (dI ws aB.dA (dI ws (bE ek) (dI ws aB.cM (dI ws (bE cV) t)))))).2=U5:=z;exact jQ (jQ (jQ (jQ (jQ (jQ u)))))
theorem xN{v':U8}{s:UY × UX}(f:gK ws v s)(c:gK ws v' s'):s=s'/\(s.2=U5->v=v'):=by
 have e:pt v=pt v':=f.tag.trans c.tag.symm
 cases f with
 |series h pc ev acc fr mn mi ti un s hr =>
  cases c with
  |series h' pc' ev' acc' fr' mn' mi' ti' un' s' hr' =>
   obtain⟨rfl,rfl,rfl,d,rfl,rfl,rfl,rfl,rfl⟩:=Gs hr hr';exact⟨rfl,fun c=>by rw[d c]⟩
  |_=>exact U2 e (by simp[pt])
 |expand h pc ev acc fr mn mi ti un s hr =>
  cases c with
  |expand h' pc' ev' acc' fr' mn' mi' ti' un' s' hr' =>
   obtain⟨rfl,rfl,rfl,d,rfl,rfl,rfl,rfl,rfl⟩:=Gs hr hr';exact⟨rfl,fun c=>by rw[d c]⟩
  |_=>exact U2 e (by simp[pt])
 |list0 h hm =>
  cases c with
  |list0 h' hm'=>exact⟨rfl,fun _=>rfl⟩
  |list1 h' hm'=>rw[hm] at hm';cases hm'
  |_=>exact U2 e (by simp[pt])
 |list1 h hm =>
  cases c with
  |list0 h' hm'=>rw[hm] at hm';cases hm'
  |list1 h' hm'=>exact⟨rfl,fun _=>rfl⟩
  |_=>exact U2 e (by simp[pt])
 |_=>cases c <;> first|exact⟨rfl,fun _=>rfl⟩|exact U2 e (by simp[pt])
theorem BW{t:UU}{e e':Ending}(h:mY t e)(d:mY t e'):e=e':=by
 cases h with
 |long h =>
  cases d with
  |long d=>rfl
  |bad d=>omega
  |qj d=>omega
 |bad h v st hl f =>
  cases d with
  |long d=>omega
  |bad d v' st' hl' c=>obtain⟨rfl,_⟩:=xN hl hl';rfl
  |qj d v' st' hl' h2 c =>
   obtain⟨rfl,_⟩:=xN hl hl';rcases f with f|f
   ·rw[h2] at f;cases f
   ·rw[c] at f;cases f
 |qj h v st hl h2 f =>
  cases d with
  |long d=>omega
  |bad d v' st' hl' c =>
   obtain⟨rfl,_⟩:=xN hl hl';rcases c with c |c
   ·rw[h2] at c;cases c
   ·rw[f] at c;cases c
  |qj d v' st' hl' h2' c=>obtain⟨rfl,i⟩:=xN hl hl';rw[i h2]
def Az(t:UU):(UZ × UZ) ⊕ aA.fJ->Prop
 |.inl (er,at_)=>er≠0/\(er=1/\at_=0\/er=2/\0<=at_)/\∀ e,mY t e->e=.returned (.tuple #[.nilIface,.int .i64 er,.int .i64 at_])
 |.inr l=>∃ c,(∀ e,mY t e->e=.returned (.tuple #[c,.int .i64 0,.int .i64 0]))/\LV c l/\aA.jA l
end Go.Proofs.YtfigmlfdnickmaaGreatDoor
namespace Go.Proofs.YtfigmlfdnickmaaGreatDoor.aB
open Go
theorem GL:∀ (k u:UY),u<10 ^ (k+1)->(ZB u).length<=k+1
 |0,u,h=>by rw[ZB];simp at h;rw[dif_pos h];simp
 |k+1,u,h=>by
  rw[ZB]
  split
  ·simp
  ·have:=GL k (u / 10) (by rw[Nat.pow_succ] at h;omega);simp;omega
def gi(n:UZ):UU:=⟨(Lib.itoa n).toArray⟩
theorem CJ(n:UZ)(c:0<=n)(h:n<=9999999):(gi n).size<=7:=by
 rw[<- fM];unfold gi Lib.itoa;rw[U0 UI];have:=GL 6 n.toNat UI
 simpa using this
def pz:UY->UU->UU
 |0,t=>t
 |k+1,t=>pz k (⟨#[48]⟩++t)
def kJ(n:UZ)(size:UY):UU:=pz (size-(gi n).size) (gi n)
theorem zY:∀ (k:UY)(t:UU),(pz k t).size=k+t.size
 |0,t=>by simp[pz]
 |k+1,t=>by
  rw[pz,zY k];have:(⟨#[48]⟩++t:UU).size=1+t.size:=ZC;omega
theorem oj(n:UZ)(size:UY)(c:0<=n)(h:n<=9999999):(kJ n size).size<=size+7:=by
 unfold kJ;rw[zY];have:=CJ n c h;omega
theorem zX:∀ (k:UY)(t:UU),(pz k t).data.toList=List.replicate k 48++t.data.toList
 |0,t=>rfl
 |k+1,t=>by
  rw[pz,zX k,qZ];rw[show (ByteArray.mk #[48]).data.toList=[48] from rfl,<- VP]
  congr 1
  rw[List.replicate_succ']
end Go.Proofs.YtfigmlfdnickmaaGreatDoor.aB
namespace Go.Proofs.YtfigmlfdnickmaaGreatDoor
open Go.RowKit
theorem Rq(w:U7)(k:UY)(c:Array Obj):U9 w.heap.size w (ZD (w.drewN k) c) :=
 ⟨rfl,rfl,rfl,by simp[ZD],fun j d=>by simp only[ZD,World.heap_drewN];rw[Array.getElem?_append_left d]⟩
theorem FB(n:UZ)(w:U7)(d:Env w)(h:-9223372036854775808<=n)(f:n<=9223372036854775807):
  Va prog 47 #[.int .i64 n] w fun e w'=>e=.returned (.string (aB.gi n))/\U9 w.heap.size w w':=by
 refine (strconv_Itoa n h f w d.pow).mono ?_;rintro e w' ⟨rfl,k,c,rfl⟩;exact⟨rfl,Rq w k c⟩
end Go.Proofs.YtfigmlfdnickmaaGreatDoor
namespace Go.Proofs.YtfigmlfdnickmaaGreatDoor.aB
open Go
def nR(x:UV (UV UInt8) × UV UInt8)(c:UInt8):UV (UV UInt8) × UV UInt8:=if c=32 then ((if x.2=[] then x.1 else x.1++[x.2]),[]) else (x.1,x.2++[c])
def Ay(l:UV UInt8):UV (UV UInt8) × UV UInt8:=l.foldl nR ([],[])
def px(x:UV (UV UInt8) × UV UInt8):UV (UV UInt8):=if x.2=[] then x.1 else x.1++[x.2]
def xF(l:UV UInt8):UV (UV UInt8):=px (Ay l)
theorem Qp{b:UU}(h:a.data.toList=b.data.toList):a=b:=by
 cases a;cases b
 simp only[ZE];exact Array.toList_inj.1 h
theorem qY(s:UU):s.data.toList.length=s.size:=by rw[ZA];rfl
theorem Fk(s:UU)(k:UY)(h:k<s.size):dP s k=32↔s.data.toList[k]'(by rw[qY];exact h)=32:=by
 have c:k<s.data.toList.length:=by rw[qY];exact h
 have e:dP s k=((s.data.toList[k]).toNat:UZ):=by
  unfold dP;rw[List.getD_eq_getElem?_getD,WS c];rfl
 rw[e];constructor
 ·intro d;apply UInt8.toNat_inj.1;show (s.data.toList[k]).toNat=32;omega
 ·intro k;rw[k];rfl
theorem Qg(s:UU)(k:UY)(h:k<s.size):(s.extract k (k+1)).data.toList=[s.data.toList[k]'(by rw[qY];exact h)]:=by
 have c:k<s.data.toList.length:=by rw[qY];exact h
 rw[ByteArray.data_extract,Array.toList_extract,List.extract_eq_take_drop];rw[Nat.add_sub_cancel_left,Ws c];simp
theorem vR(b:UU):b.size=0↔b.data.toList=[]:=by
 rw[<- qY];exact VY
theorem FQ(s:UU):∀ k:UY,k<=s.size->(s.data.toList.take k).foldl nR ([],[])=((jF s k).map (·.data.toList),(eH s k).data.toList)
 |0,_=>by
  have i:=qB s 0;have f:=xt s 0;have r:jF s 0=[]:=VY.1 UI;have o:(eH s 0).data.toList=[]:=(vR _).1 UI;simp[r,o]
 |k+1,h=>by
  have ih:=FQ s k UI;have j:k<s.data.toList.length:=by rw[qY];omega
  rw[List.take_succ_eq_append_getElem j,Xs,ih];simp only[Xz,List.foldl_nil];unfold nR
  by_cases c:dP s k=32
  ·rw[U1 ((Fk s k UI).1 c)];obtain⟨i,f⟩:=xE s k UI c;rw[i,f];refine ZF ?_ rfl;show (if (eH s k).data.toList=[] then _ else _)=_
   by_cases d:(eH s k).size=0
   ·rw[U1 ((vR _).1 d),U1 d,List.append_nil]
   ·rw[U0 (fun e=>d ((vR _).2 e)),U0 d,We];rfl
  ·rw[U0 (fun e=>c ((Fk s k UI).2 e))];obtain⟨i,f⟩:=xr s k c;rw[f,<- i,qZ,Qg s k UI]
theorem Sz(s:UU):(aP s).map (·.data.toList)=xF s.data.toList:=by
 have h:=FQ s s.size (zq _);rw[List.take_of_length_le (by rw[qY];exact zq _)] at h;unfold xF Ay px;rw[h,vk,We]
 by_cases d:(eH s s.size).size=0
 ·rw[U1 d,U1 ((vR _).1 d)];simp
 ·rw[U0 d,U0 (fun e=>d ((vR _).2 e))];simp
def yv(w:UV UInt8):UX:=!w.isEmpty && w.all fun c=>decide (c≠32)
theorem Uu{w:UV UInt8}:yv w=U6↔w≠[]/\∀ c∈w,c≠32:=by
 unfold yv;rw[WN,List.all_eq_true];constructor
 ·rintro ⟨h,f⟩;exact⟨fun e=>by simp[e] at h,fun c d=>by simpa using f c d⟩
 ·rintro ⟨h,f⟩;exact⟨by cases w <;> simp at h ⊢,fun c d=>by simpa using f c d⟩
theorem Hx{w:UV UInt8}(h:∀ c∈w,c≠32):∀ x:UV (UV UInt8) × UV UInt8,w.foldl nR x=(x.1,x.2++w):=by
 induction w with
 |nil=>intro x;simp
 |cons c w ih =>
  intro x;rw[Xz];have:nR x c=(x.1,x.2++[c]):=by unfold nR;rw[U0 (h c UJ)]
  rw[this,ih (fun d f=>h d (by simp[f]))];simp
theorem Sn(x:UV (UV UInt8) × UV UInt8):nR x 32=(px x,[]):=by
 unfold nR px;rw[U1 rfl]
end Go.Proofs.YtfigmlfdnickmaaGreatDoor.aB
namespace Go.Proofs.YtfigmlfdnickmaaGreatDoor.aB
open Go
end Go.Proofs.YtfigmlfdnickmaaGreatDoor.aB
namespace Go.Proofs.YtfigmlfdnickmaaGreatDoor
open Go.RowKit
theorem v8{x:UZ}(d:-9223372036854775808<=x)(c:x<=9223372036854775807):IntKind.i64.wrap x=x:=by
 rw[IntKind.wrap_i64];omega
def lz(c n:UZ):UZ:=(if c<0 then -(c+1) else c) % n
theorem Jm{c n:UZ}(d:1<=n):0<=lz c n/\lz c n<n:=⟨Int.emod_nonneg _ UI,Int.emod_lt_of_pos _ UI⟩
open aA (aM St dB kept dZ cS cN gC cA bW gJ ec gD n8 Inv)
def ka(w:UU)(c d:UZ):UX:=decide (c<=bF w 1 7/\bF w 1 7<=d)
def aV(sym w:UU):UX :=
 if sym.toList==[78,65,77,69] then aB.fc w.data.toList else
 if sym.toList==[85,78,73,84,83] then ka w 1 9 else
 if sym.toList==[77,73,78,85,84,69,83] then ka w 1 1048320 else
 if sym.toList==[69,86,69,82,89] then ka w 1 99 else
 if sym.toList==[73,68] then decide (0<=bF w 1 7) else
 if sym.toList==[84,73,77,69] then decide (0<=cZ w) else
 if sym.toList==[68,65,84,69] then decide (0<=eV w/\eV w<728) else
 if sym.toList==[77,73,78,85,84,69] then decide (0<=gT w) else
 if sym.toList==[79,78] then aB.dU w else
 sym.toList==w.toList
theorem Ll(sym w:UU)(W:U7)(d:w.size<=160):
  Va prog 125 #[.string sym,.string w] W fun e w'=>e=.returned (.bool (aV sym w))/\U9 W.heap.size W w':=by
 cases o:(sym.toList==[78,65,77,69])
 case true =>
  go_in
  go_wp2_with fail
  refine (eQ w 1 7 W d UI UI).mono ?_;rintro e i ⟨rfl,c⟩
  go_wp2_with fail
  refine (Mj w _ d).mono ?_;rintro e A ⟨rfl,rfl⟩;go_wp2;go_ret;exact⟨eC (by simp[aV,o]),c⟩
 cases r:(sym.toList==[85,78,73,84,83])
 case true =>
  have j:Hid (aV sym w=ka w 1 9):=by show aV sym w=_;simp[aV,o,r]
  by_cases y:1<=bF w 1 7
  ·by_cases u:bF w 1 7<=9
   ·go_in
    go_wp2_with fail
    refine (eQ w 1 7 W d UI UI).mono ?_;rintro e i ⟨rfl,c⟩;go_wp2;go_ret;exact⟨eC (by rw[j.y,ka,decide_eq_true ⟨y,u⟩]),c⟩
   ·go_in
    go_wp2_with fail
    refine (eQ w 1 7 W d UI UI).mono ?_;rintro e i ⟨rfl,c⟩;go_wp2;go_ret;exact⟨eC (by rw[j.y,ka,decide_eq_false UI];simp;omega),c⟩
  ·go_in
   go_wp2_with fail
   refine (eQ w 1 7 W d UI UI).mono ?_;rintro e i ⟨rfl,c⟩;go_wp2;go_ret;exact⟨eC (by rw[j.y,ka,decide_eq_false UI]),c⟩
 cases t:(sym.toList==[77,73,78,85,84,69,83])
 case true =>
  have j:Hid (aV sym w=ka w 1 1048320):=by show aV sym w=_;simp[aV,o,r,t]
  by_cases y:1<=bF w 1 7
  ·by_cases u:bF w 1 7<=1048320
   ·go_in
    go_wp2_with fail
    refine (eQ w 1 7 W d UI UI).mono ?_;rintro e i ⟨rfl,c⟩;go_wp2;go_ret;exact⟨eC (by rw[j.y,ka,decide_eq_true ⟨y,u⟩]),c⟩
   ·go_in
    go_wp2_with fail
    refine (eQ w 1 7 W d UI UI).mono ?_;rintro e i ⟨rfl,c⟩;go_wp2;go_ret;exact⟨eC (by rw[j.y,ka,decide_eq_false UI];simp;omega),c⟩
  ·go_in
   go_wp2_with fail
   refine (eQ w 1 7 W d UI UI).mono ?_;rintro e i ⟨rfl,c⟩;go_wp2;go_ret;exact⟨eC (by rw[j.y,ka,decide_eq_false UI]),c⟩
 cases z:(sym.toList==[69,86,69,82,89])
 case true =>
  have j:Hid (aV sym w=ka w 1 99):=by show aV sym w=_;simp[aV,o,r,t,z]
  by_cases y:1<=bF w 1 7
  ·by_cases u:bF w 1 7<=99
   ·go_in
    go_wp2_with fail
    refine (eQ w 1 7 W d UI UI).mono ?_;rintro e i ⟨rfl,c⟩;go_wp2;go_ret;exact⟨eC (by rw[j.y,ka,decide_eq_true ⟨y,u⟩]),c⟩
   ·go_in
    go_wp2_with fail
    refine (eQ w 1 7 W d UI UI).mono ?_;rintro e i ⟨rfl,c⟩;go_wp2;go_ret;exact⟨eC (by rw[j.y,ka,decide_eq_false UI];simp;omega),c⟩
  ·go_in
   go_wp2_with fail
   refine (eQ w 1 7 W d UI UI).mono ?_;rintro e i ⟨rfl,c⟩;go_wp2;go_ret;exact⟨eC (by rw[j.y,ka,decide_eq_false UI]),c⟩
 cases C:(sym.toList==[73,68])
 case true =>
  go_in
  go_wp2_with fail
  refine (eQ w 1 7 W d UI UI).mono ?_;rintro e i ⟨rfl,c⟩;go_wp2;go_ret;exact⟨eC (by simp[aV,o,r,t,z,C]),c⟩
 cases D:(sym.toList==[84,73,77,69])
 case true =>
  go_in
  go_wp2_with fail
  refine (eQ w 1 7 W d UI UI).mono ?_;rintro e i ⟨rfl,c⟩
  go_wp2_with fail
  refine (qs w _ d).mono ?_;rintro e A ⟨rfl,f⟩;have h:=c.trans (f.mono c.size);go_wp2;go_ret;exact⟨eC (by simp[aV,o,r,t,z,C,D]),h⟩
 cases F:(sym.toList==[68,65,84,69])
 case true =>
  have j:Hid (aV sym w=decide (0<=eV w/\eV w<728)):=by show aV sym w=_;simp[aV,o,r,t,z,C,D,F]
  by_cases y:0<=eV w
  ·by_cases u:eV w<728
   ·go_in
    go_wp2_with fail
    refine (eQ w 1 7 W d UI UI).mono ?_;rintro e i ⟨rfl,c⟩
    go_wp2_with fail
    refine (uS w _ d).mono ?_;rintro e A ⟨rfl,f⟩;have h:=c.trans (f.mono c.size);go_wp2;go_ret;exact⟨eC (by rw[j.y,decide_eq_true ⟨y,u⟩]),h⟩
   ·go_in
    go_wp2_with fail
    refine (eQ w 1 7 W d UI UI).mono ?_;rintro e i ⟨rfl,c⟩
    go_wp2_with fail
    refine (uS w _ d).mono ?_;rintro e A ⟨rfl,f⟩;have h:=c.trans (f.mono c.size);go_wp2;go_ret;exact⟨eC (by rw[j.y,decide_eq_false UI];simp;omega),h⟩
  ·go_in
   go_wp2_with fail
   refine (eQ w 1 7 W d UI UI).mono ?_;rintro e i ⟨rfl,c⟩
   go_wp2_with fail
   refine (uS w _ d).mono ?_;rintro e A ⟨rfl,f⟩;have h:=c.trans (f.mono c.size);go_wp2;go_ret;exact⟨eC (by rw[j.y,decide_eq_false UI]),h⟩
 cases G:(sym.toList==[77,73,78,85,84,69])
 case true =>
  go_in
  go_wp2_with fail
  refine (eQ w 1 7 W d UI UI).mono ?_;rintro e i ⟨rfl,c⟩
  go_wp2_with fail
  refine (Aw w _ d).mono ?_;rintro e A ⟨rfl,f⟩;have h:=c.trans (f.mono c.size);go_wp2;go_ret;exact⟨eC (by simp[aV,o,r,t,z,C,D,F,G]),h⟩
 cases I:(sym.toList==[79,78])
 case true =>
  go_in
  go_wp2_with fail
  refine (eQ w 1 7 W d UI UI).mono ?_;rintro e i ⟨rfl,c⟩
  go_wp2_with fail
  refine (zh w _ d).mono ?_;rintro e A ⟨⟨acc,rfl,_⟩,f⟩;have h:=c.trans (f.mono c.size);unfold fa;go_wp2;go_ret;exact⟨eC (by simp[aV,o,r,t,z,C,D,F,G,I]),h.alloc (Vg c.size f.size) _⟩
 go_in
 go_wp2_with fail
 refine (eQ w 1 7 W d UI UI).mono ?_;rintro e i ⟨rfl,c⟩;go_wp2;go_ret;exact⟨eC (by simp[aV,o,r,t,z,C,D,F,G,I]),c⟩
def jm(i:UY):UU:=match i with|0=>⟨#[100,97,105,108,121,32,69,86,69,82,89]⟩|1=>⟨#[119,101,101,107,108,121,32,69,86,69,82,89,32,79,78]⟩|_=>⟨#[109,111,110,116,104,108,121,32,69,86,69,82,89]⟩
def lM(i:UY):UU:=match i with|0=>⟨#[116,105,109,101,115,32,69,86,69,82,89]⟩|_=>⟨#[117,110,116,105,108,32,68,65,84,69]⟩
def Dd:UU:=⟨#[32,102,114,111,109,32,68,65,84,69,32,97,116,32,77,73,78,85,84,69,32,102,111,114,32,77,73,78,85,84,69,83,32]⟩
def uC(ahead:UU)(i k:UY):UU:=ahead++⟨#[32]⟩++jm i++Dd++lM k
def kI(ahead:UU)(n:UY):UV UU:=(List.range n).map fun j=>uC ahead (j / 2) (j % 2)
theorem M0(ahead:UU)(n:UY):kI ahead (n+1)=kI ahead n++[uC ahead (n / 2) (n % 2)]:=by
 simp[kI,List.range_succ]
theorem Ej(i:UY):(jm i).size<=15:=by unfold jm;split <;> decide
theorem DU(i:UY):(lM i).size<=11:=by unfold lM;split <;> decide
theorem tc(a b:UU)(m n:UY)(d:a.size<=m)(c:b.size<=n):(a++b).size<=m+n:=by
 have:(a++b).size=a.size+b.size:=ZC;omega
theorem wK(a b:UU)(m n:UY)(d:a.size<=m)(c:b.size<=n)(h:m+n<=1000):∀ wx,(ZG .add a b).run prog wx=.ok (.string (a++b)) wx:=by
 intro wx;apply run_string_add_sum;omega
theorem Nu{d c size:UY}(h:w.ownsRow d e size v n xs)(o:c<=d):w.ownsRow c e size v n xs:=by
 refine⟨h.1,?_⟩;rcases h.2 with r|⟨g,cap,f,i,j,rest⟩
 ·exact .inl r
 ·exact .inr ⟨g,cap,f,i,Vg o j,rest⟩
theorem Ev(ahead:UU)(w:U7)(z:ahead.size<=20):
  Va prog 185 #[.string ahead] w fun e w'=>∃ v,e=.returned v/\w'.ownsRow w.heap.size 9 1 v 6 ((kI ahead 6).map YK)/\U9 w.heap.size w w':=by
 obtain⟨X,P,J,I,G⟩:=info_parts wH
 go_in
 go_wp2;obtain⟨W,r⟩:∃ W,W=(w.alloc (.cells #[.string (jm 0),.string (jm 1),.string (jm 2)] 9)).alloc (.cells #[.string (lM 0),.string (lM 1)] 9):=⟨_,rfl⟩;simp only[jm,lM] at r;rw[<- r];have hB:U9 w.heap.size w W:=by rw[r];exact ((zr _ _).alloc (zq _) _).alloc UJ _
 have hZ:w.heap.size+2=W.heap.size:=by rw[r];simp
 have U:∀ i,i<3->W.cell? ⟨w.heap.size,i,U3⟩=U4 (.string (jm i)):=fun i hi=>by
  rw[r];rcases (show i=0\/i=1\/i=2 by omega) with rfl|rfl|rfl <;> simp[jm]
 have V:∀ i,i<2->W.cell? ⟨w.heap.size+1,i,U3⟩=U4 (.string (lM i)):=fun i hi=>by
  rw[r];rcases (show i=0\/i=1 by omega) with rfl|rfl <;> simp[lM]
 have CK:=hide U;have CE:=hide V;clear r U V
 go_loopw [3,6,7] (fun v i _ wx=>∃ a:UY,a<=3/\i=.int .i64 a/\wx.ownsRow (w.heap.size+2) 9 1 v (2*a) ((kI ahead (2*a)).map YK)/\U9 (w.heap.size+2) W wx) (fun _ i _ _=>3-(intOf i).toNat)
 case atStart=>exact⟨0,by omega,rfl,World.ownsRow_nil _ _ _ _,Below.refl _ _⟩
 case round =>
  obtain⟨a,aa,rfl,j,o⟩:=hrel
  by_cases M:a<3
  ·have i1:(0:UZ)<=(a:UZ):=YN _;have i2:(a:UZ)<3:=UI
   go_wp2;obtain⟨S,u⟩:∃ S:U7,S=wr:=⟨_,rfl⟩;rw[<- u] at j o ⊢;clear u
   go_loopw [3,7] (fun v k wx=>∃ b:UY,b<=2/\k=.int .i64 b/\wx.ownsRow (w.heap.size+2) 9 1 v (2*a+b) ((kI ahead (2*a+b)).map YK)/\U9 (w.heap.size+2) W wx) (fun _ k _=>2-(intOf k).toNat)
   case atStart=>exact⟨0,by omega,rfl,j,o⟩
   case round =>
    obtain⟨b,Z,rfl,c,d⟩:=hrel
    by_cases N:b<2
    ·have F:=Ej a;have ez:=DU b;have c1:wr.cell? ⟨w.heap.size,a,U3⟩=U4 (.string (jm a)):=(d.cell (p:=⟨w.heap.size,a,U3⟩) UJ).trans (aK CK a M);have c2:wr.cell? ⟨w.heap.size+1,b,U3⟩=U4 (.string (lM b)):=(d.cell (p:=⟨w.heap.size+1,b,U3⟩) UJ).trans (aK CE b N);have i3:(0:UZ)<=(b:UZ):=YN _;have i4:(b:UZ)<2:=UI
     have D:u3.ownBlock≠U4 w.heap.size:=fun e=>by have:=om c e;omega
     have C:u3.ownBlock≠U4 (w.heap.size+1):=fun e=>by have:=om c e;omega
     have Y:=d.size;have s1:∀ wx,(ZG .add ahead ⟨#[32]⟩).run prog wx=.ok (.string (ahead++⟨#[32]⟩)) wx:=wK ahead _ 20 1 z UK UK;have s2:∀ wx,(ZG .add (ahead++⟨#[32]⟩) (jm a)).run prog wx=.ok (.string (ahead++⟨#[32]⟩++jm a)) wx:=wK _ _ 21 15 (tc _ _ 20 1 z UK) F UK;have s3:∀ wx,(ZG .add (ahead++⟨#[32]⟩++jm a) ⟨#[32,102,114,111,109,32,68,65,84,69,32,97,116,32,77,73,78,85,84,69,32,102,111,114,32,77,73,78,85,84,69,83,32]⟩).run prog wx=.ok (.string (ahead++⟨#[32]⟩++jm a++⟨#[32,102,114,111,109,32,68,65,84,69,32,97,116,32,77,73,78,85,84,69,32,102,111,114,32,77,73,78,85,84,69,83,32]⟩)) wx:=wK _ _ 36 33 (tc _ _ 21 15 (tc _ _ 20 1 z UK) F) UK UK;have s4:∀ wx,(ZG .add (ahead++⟨#[32]⟩++jm a++⟨#[32,102,114,111,109,32,68,65,84,69,32,97,116,32,77,73,78,85,84,69,32,102,111,114,32,77,73,78,85,84,69,83,32]⟩) (lM b)).run prog wx=.ok (.string (ahead++⟨#[32]⟩++jm a++⟨#[32,102,114,111,109,32,68,65,84,69,32,97,116,32,77,73,78,85,84,69,32,102,111,114,32,77,73,78,85,84,69,83,32]⟩++lM b)) wx:=wK _ _ 69 11 (tc _ _ 36 33 (tc _ _ 21 15 (tc _ _ 20 1 z UK) F) UK) ez UK
     go_wp2_with fail
     go_region_held3 (fun w'=>w'.cell? ⟨w.heap.size,a,U3⟩=U4 (.string (jm a))/\w'.cell? ⟨w.heap.size+1,b,U3⟩=U4 (.string (lM b)))
      (first
       |go_keep
       |(
        go_split_ands
        refine⟨?_,?_⟩
        ·(rw[f.cell_far _ UQ (Ne.symm D)];assumption)
        ·(rw[f.cell_far _ UQ (Ne.symm C)];assumption)))
      ((refine step_append_lies _ (by rfl) _ _ _ (by rfl) (w.heap.size+2) 9 X _ 1 16 underlying26 P J I G rfl UI u3 (2*a+b) ((kI ahead (2*a+b)).map YK) (by rfl) ((c.alloc _).drew) ⟨wr.heap.size,0,U3⟩ 1 1 [.string (ahead++⟨#[32]⟩++jm a++⟨#[32,102,114,111,109,32,68,65,84,69,32,97,116,32,77,73,78,85,84,69,32,102,111,114,32,77,73,78,85,84,69,83,32]⟩++lM b)] (by rfl) (by rfl) (World.news_of_block (cs:=#[.string (ahead++⟨#[32]⟩++jm a++⟨#[32,102,114,111,109,32,68,65,84,69,32,97,116,32,77,73,78,85,84,69,32,102,111,114,32,77,73,78,85,84,69,83,32]⟩++lM b)]) (t:=9) (fr:=(0,0)) (heap_alloc_new wr _)) US UI UR UI UQ (wr.heap.size+1) UJ ?_;intro g cap w1 h f ab T))
     have y:U9 (w.heap.size+2) W w1:=by
      first
       |exact ((d.alloc UI _).drew).grown f UQ (fun k O=>om c O)
       |exact (d.alloc UI _).grown f UQ (fun k O=>om c O)
     have A:Hid (w1.ownsRow (w.heap.size+2) 9 1 (.slice (U4 ⟨g,0,U3⟩) (2*a+b+1) cap) (2*a+(b+1)) ((kI ahead (2*a+(b+1))).map YK)):=by
      show w1.ownsRow _ _ _ _ _ _;rw[show 2*a+(b+1)=2*a+b+1 from by omega,M0,show (2*a+b) / 2=a from by omega,show (2*a+b) % 2=b from by omega,We];exact h
     clear h;go_wp2;refine⟨?_,?_⟩
     ·first|exact⟨b+1,by omega,by go_num,A.y,y⟩|((repeat apply Exists.intro);exact⟨⟨b+1,by omega,by go_num,A.y,y⟩,rfl⟩)
     ·simp[intOf];omega
    ·obtain rfl:b=2:=UI
     have A:Hid (wr.ownsRow (w.heap.size+2) 9 1 u3 (2*(a+1)) ((kI ahead (2*(a+1))).map YK)):=by
      show wr.ownsRow _ _ _ _ _ _;rw[show 2*(a+1)=2*a+2 from by omega];exact c
     clear c;go_wp2;exact⟨⟨a+1,by omega,by go_num,A.y,d⟩,by simp[intOf];omega⟩
  ·obtain rfl:a=3:=UI
   go_wp2;go_ret;exact⟨_,rfl,Nu j UI,hB.trans (o.mono UI)⟩
def uB:UV UU:=[⟨#[116,104,105,110,103,32,78,65,77,69,32,85,78,73,84,83]⟩,⟨#[98,111,111,107,32,78,65,77,69,32,85,78,73,84,83,32,84,73,77,69,32,84,73,77,69]⟩,⟨#[104,111,108,100,32,78,65,77,69,32,85,78,73,84,83,32,84,73,77,69,32,84,73,77,69,32,77,73,78,85,84,69,83]⟩,⟨#[119,97,105,116,32,78,65,77,69,32,85,78,73,84,83,32,84,73,77,69,32,84,73,77,69,32,77,73,78,85,84,69,83]⟩,⟨#[99,111,110,102,105,114,109,32,73,68]⟩,⟨#[99,97,110,99,101,108,32,73,68]⟩,⟨#[108,105,115,116,32,78,65,77,69]⟩,⟨#[108,105,115,116,32,78,65,77,69,32,84,73,77,69,32,84,73,77,69]⟩,⟨#[119,97,105,116,105,110,103]⟩,⟨#[112,101,97,107,32,78,65,77,69,32,84,73,77,69,32,84,73,77,69]⟩,⟨#[102,105,110,100,32,78,65,77,69,32,85,78,73,84,83,32,77,73,78,85,84,69,83,32,84,73,77,69,32,84,73,77,69]⟩,⟨#[116,105,99,107,32,77,73,78,85,84,69,83]⟩,⟨#[99,108,111,99,107]⟩]
def uy:UU:=⟨#[115,101,114,105,101,115,32,78,65,77,69,32,85,78,73,84,83]⟩
def wu:UU:=⟨#[101,120,112,97,110,100]⟩
def kG:UV UU:=uB++kI uy 6++kI wu 6
theorem EZ{c size:UY}(h:w.ownsRow c e size v n xs)(r:U9 w.heap.size w w'):w'.ownsRow c e size v n xs:=by
 refine⟨h.1,?_⟩;rcases h.2 with t|⟨g,cap,f,i,o,d,rest⟩
 ·exact .inl t
 ·refine .inr ⟨g,cap,f,i,o,?_,rest⟩
  have:g<w.heap.size:=by
   by_cases j:g<w.heap.size
   ·exact j
   ·rw[Wn UI] at d;cases d
  rw[r.block g this];exact d
theorem Ai{c:UY}(h:w.ownsRow c e 1 v n xs)(D:0<n):∃ g cap,v=.slice (U4 ⟨g,0,U3⟩) n cap/\c<=g/\g<w.heap.size/\∀ j u,xs[j]?=U4 u->w.cell? (ZH ⟨g,0,U3⟩ j)=U4 u:=by
 rcases h.2 with ⟨_,I⟩|⟨g,cap,r,t,z,o,F,_,C,ht⟩
 ·omega
 ·have f:g<w.heap.size:=by
   by_cases f:g<w.heap.size
   ·exact f
   ·rw[Wn UI] at o;cases o
  refine⟨g,cap,t,z,f,fun j u i=>?_⟩
  have A:ZH ⟨g,0,U3⟩ j=⟨g,j,U3⟩:=by
   unfold ZH;split
   ·subst_vars;rfl
   ·simp
  have y:j<n:=by
   have G:=h.1;have:=(ZI.1 i).1;omega
  have d:r[j]?=U4 u:=by
   rw[<- ht,W4,U1 UI] at i
   simpa using i
  rw[A];simp[World.cell?,o,d]
theorem Nb(w:U7):
  Va prog 124 #[] w fun e w'=>∃ v,e=.returned v/\w'.ownsRow w.heap.size 9 1 v 25 (kG.map YK)/\U9 w.heap.size w w':=by
 obtain⟨Z,hi,y,t,r⟩:=info_parts wH
 go_in
 go_wp2_with fail
 obtain⟨W,M⟩:∃ W,W=w.alloc (.cells #[.string ⟨#[116,104,105,110,103,32,78,65,77,69,32,85,78,73,84,83]⟩,.string ⟨#[98,111,111,107,32,78,65,77,69,32,85,78,73,84,83,32,84,73,77,69,32,84,73,77,69]⟩,.string ⟨#[104,111,108,100,32,78,65,77,69,32,85,78,73,84,83,32,84,73,77,69,32,84,73,77,69,32,77,73,78,85,84,69,83]⟩,.string ⟨#[119,97,105,116,32,78,65,77,69,32,85,78,73,84,83,32,84,73,77,69,32,84,73,77,69,32,77,73,78,85,84,69,83]⟩,.string ⟨#[99,111,110,102,105,114,109,32,73,68]⟩,.string ⟨#[99,97,110,99,101,108,32,73,68]⟩,.string ⟨#[108,105,115,116,32,78,65,77,69]⟩,.string ⟨#[108,105,115,116,32,78,65,77,69,32,84,73,77,69,32,84,73,77,69]⟩,.string ⟨#[119,97,105,116,105,110,103]⟩,.string ⟨#[112,101,97,107,32,78,65,77,69,32,84,73,77,69,32,84,73,77,69]⟩,.string ⟨#[102,105,110,100,32,78,65,77,69,32,85,78,73,84,83,32,77,73,78,85,84,69,83,32,84,73,77,69,32,84,73,77,69]⟩,.string ⟨#[116,105,99,107,32,77,73,78,85,84,69,83]⟩,.string ⟨#[99,108,111,99,107]⟩] 9):=⟨_,rfl⟩;rw[<- M];have U:U9 w.heap.size w W:=by rw[M];exact (zr _ _).alloc (zq _) _
 have o:W.ownsRow w.heap.size 9 1 (.slice (U4 ⟨w.heap.size,0,U3⟩) 13 13) 13 (uB.map YK):=by
  refine⟨rfl,.inr ⟨w.heap.size,13,#[.string ⟨#[116,104,105,110,103,32,78,65,77,69,32,85,78,73,84,83]⟩,.string ⟨#[98,111,111,107,32,78,65,77,69,32,85,78,73,84,83,32,84,73,77,69,32,84,73,77,69]⟩,.string ⟨#[104,111,108,100,32,78,65,77,69,32,85,78,73,84,83,32,84,73,77,69,32,84,73,77,69,32,77,73,78,85,84,69,83]⟩,.string ⟨#[119,97,105,116,32,78,65,77,69,32,85,78,73,84,83,32,84,73,77,69,32,84,73,77,69,32,77,73,78,85,84,69,83]⟩,.string ⟨#[99,111,110,102,105,114,109,32,73,68]⟩,.string ⟨#[99,97,110,99,101,108,32,73,68]⟩,.string ⟨#[108,105,115,116,32,78,65,77,69]⟩,.string ⟨#[108,105,115,116,32,78,65,77,69,32,84,73,77,69,32,84,73,77,69]⟩,.string ⟨#[119,97,105,116,105,110,103]⟩,.string ⟨#[112,101,97,107,32,78,65,77,69,32,84,73,77,69,32,84,73,77,69]⟩,.string ⟨#[102,105,110,100,32,78,65,77,69,32,85,78,73,84,83,32,77,73,78,85,84,69,83,32,84,73,77,69,32,84,73,77,69]⟩,.string ⟨#[116,105,99,107,32,77,73,78,85,84,69,83]⟩,.string ⟨#[99,108,111,99,107]⟩],rfl,Vd _,?_,Vd _,by decide,rfl,rfl⟩⟩;rw[M];exact heap_alloc_new w _
 clear M;refine (Ev _ W UK).mono ?_;rintro e w1 ⟨v1,rfl,Y,b1⟩;obtain⟨g1,J,rfl,ad,ab,P⟩:=Ai Y UI;have c:=EZ o b1;have G:=U.trans (b1.mono U.size);have C:=G.size;clear Y o U
 go_wp2_with (first
  |(at_builtin;refine wpList_append_own _ rfl _ _ 26 rfl w.heap.size 9 Z (.string ⟨#[]⟩) 1 16 underlying26 hi y t r rfl UK _ 13 (uB.map YK) rfl c ⟨g1,0,U3⟩ 6 J ((kI uy 6).map YK) rfl rfl ?c1 ?c2 ?c3 ?c4 ?c5 ?_))
 case c1=>exact P
 case c2=>intro u z;simp only[V9] at z;obtain⟨x,_,rfl⟩:=z;rfl
 case c3=>decide
 case c4=>decide
 case c5=>exact C
 intro v2 w2 j f _;have F:U9 w.heap.size w w2:=G.grown f C (fun k N=>om c N);have S:=F.size;clear f c
 go_wp2_with fail
 refine (Ev _ w2 UK).mono ?_;rintro e w3 ⟨v3,rfl,X,b3⟩;obtain⟨g3,I,rfl,ac,aa,O⟩:=Ai X UI;have i:=EZ j b3;have D:=F.trans (b3.mono S);have A:=D.size;clear X j
 go_wp2_with (first
  |(at_builtin;refine wpList_append_own _ rfl _ _ 26 rfl w.heap.size 9 Z (.string ⟨#[]⟩) 1 16 underlying26 hi y t r rfl UK v2 (13+6) (uB.map YK++(kI uy 6).map YK) rfl i ⟨g3,0,U3⟩ 6 I ((kI wu 6).map YK) rfl rfl ?c1 ?c2 ?c3 ?c4 ?c5 ?_))
 case c1=>exact O
 case c2=>intro u z;simp only[V9] at z;obtain⟨x,_,rfl⟩:=z;rfl
 case c3=>decide
 case c4=>decide
 case c5=>exact A
 intro V w4 h d _;have T:U9 w.heap.size w w4:=D.grown d A (fun k N=>om i N)
 have HO:Hid (w4.ownsRow w.heap.size 9 1 V 25 (kG.map YK)):=by
  show w4.ownsRow _ _ _ _ _ _;rw[kG,We,We];exact h
 clear h d;go_wp2;go_ret;exact⟨V,rfl,HO.y,T⟩
def pre:UV UU->UV UU->UY
 |s :: p,w :: ws=>if aV s w then pre p ws+1 else 0
 |_,_=>0
theorem rS:∀ (p ws:UV UU),pre p ws<=p.length/\pre p ws<=ws.length
 |[],_=>by simp[pre]
 |_ :: _,[]=>by simp[pre]
 |s :: p,w :: ws=>by
  unfold pre;have:=rS p ws
  split <;> simp <;> omega
theorem wL:∀ (p ws:UV UU)(n:UY)(d:n<p.length)(c:n<ws.length),n<pre p ws->aV p[n] ws[n]=U6
 |[],_,_,d,_,_=>by simp at d
 |_ :: _,[],_,_,c,_=>by simp at c
 |s :: p,w :: ws,0,_,_,h=>by
  unfold pre at h
  split at h
  ·assumption
  ·omega
 |s :: p,w :: ws,n+1,d,c,h=>by
  unfold pre at h
  split at h
  ·exact wL p ws n (by simpa using d) (by simpa using c) UI
  ·omega
theorem Ea:∀ (p ws:UV UU)(n:UY)(d:n<p.length)(c:n<ws.length),n=pre p ws->aV p[n] ws[n]=U5
 |[],_,_,d,_,_=>by simp at d
 |_ :: _,[],_,_,c,_=>by simp at c
 |s :: p,w :: ws,0,_,_,h=>by
  unfold pre at h
  cases f:aV s w
  ·exact f
  ·rw[U1 f] at h;omega
 |s :: p,w :: ws,n+1,d,c,h=>by
  unfold pre at h
  split at h
  ·exact Ea p ws n (by simpa using d) (by simpa using c) UI
  ·omega
theorem Lv(f:n<p.length)(d:n<ws.length)(h:n<=pre p ws)(c:aV p[n] ws[n]=U6):n+1<=pre p ws:=by
 by_cases e:n=pre p ws
 ·have:=Ea p ws n f d e;rw[c] at this;cases this
 ·omega
theorem Lu(f:n<p.length)(d:n<ws.length)(h:n<=pre p ws)(c:aV p[n] ws[n]=U5):n=pre p ws:=by
 by_cases e:n=pre p ws
 ·exact e
 ·have:=wL p ws n f d UI;rw[c] at this;cases this
def scan:UV (UV UU)->UV UU->UY->UW (UV UU) × UY
 |[],_,m=>(U3,m)
 |p :: ps,ws,m=>if pre p ws=p.length/\pre p ws=ws.length then (U4 p,0) else scan ps ws (if m<pre p ws then pre p ws else m)
def mO:UV (UV UU):=kG.map aB.aP
theorem Mb:mO.length=25:=by simp[mO,kG,uB,kI]
def jk(s:UU):UW (UV UU) × UY:=scan mO (aB.aP s) 0
theorem EF:∀ x∈kG,x.size<=160:=by
 intro x d
 have c:∀ a k,(uC uy a k).size<=160/\(uC wu a k).size<=160:=fun a k=>by
  have i:=Ej a;have h:=DU k;have f:Dd.size=33:=UK
  have t:uy.size=17:=UK
  have r:wu.size=6:=UK
  have o:(⟨#[32]⟩:UU).size=1:=UK
  unfold uC;simp only[ZC];omega
 unfold kG kI at d;simp only[List.mem_append,V9] at d;rcases d with (d|⟨j,_,rfl⟩)|⟨j,_,rfl⟩
 ·revert x;decide
 ·exact (c _ _).1
 ·exact (c _ _).2
theorem Am(s:UU):(aB.aP s).length<=s.size+1:=by
 rw[aB.vk,List.length_append];have:=aB.qB s s.size
 split <;> simp <;> omega
structure Row(w:U7)(a:UW Addr)(g:UY)(xs:UV UU):Prop where
 at_:0<xs.length->a=U4 ⟨g,0,U3⟩
 cells:∀ (j:UY) (h:j<xs.length),w.cell? ⟨g,j,U3⟩=U4 (.string xs[j])
theorem Row.later{wx:U7}{a:UW Addr}{xs:UV UU}(h:Row w a g xs)(d:U9 w.heap.size w wx):Row wx a g xs :=
 ⟨h.at_,fun j c=>cell_later d (h.cells j c)⟩
theorem Af{f:UY}{xs:UV UU}(h:w.ownsRow f 9 1 v n (xs.map YK))(o:n=xs.length):∃ a cap g,v=.slice a xs.length cap/\Row w a g xs:=by
 subst o
 by_cases i:0<xs.length
 ·obtain⟨g,cap,c,_,_,r⟩:=Ai h i;refine⟨U4 ⟨g,0,U3⟩,cap,g,c,fun _=>rfl,fun j d=>?_⟩;have:=r j (.string xs[j]) (by simp[d])
  have t:ZH ⟨g,0,U3⟩ j=⟨g,j,U3⟩:=by
   unfold ZH;split
   ·subst_vars;rfl
   ·simp
  rwa [t] at this
 ·rcases h.2 with ⟨c,u⟩|⟨g,cap,y,c,_⟩
  ·exact⟨U3,0,0,by rw[c,u],fun h=>U2 h i,fun j d=>U2 d UI⟩
  ·exact⟨_,cap,g,c,fun h=>U2 h i,fun j d=>U2 d UI⟩
def AY:U8->UY
 |.bool U6=>1
 |_=>0
theorem Ms{k:UY}(f:k<kG.length)(c:q=aB.aP kG[k])(h:jk s=scan (mO.drop k) (aB.aP s) mm):
  jk s=if pre q (aB.aP s)=q.length/\pre q (aB.aP s)=(aB.aP s).length then (U4 q,0) else scan (mO.drop (k+1)) (aB.aP s) (if mm<pre q (aB.aP s) then pre q (aB.aP s) else mm):=by
 have d:k<mO.length:=by unfold mO;simpa using f
 rw[h,Ws d];have e:mO[k]=q:=by rw[c];exact List.getElem_map ..
 rw[e,scan]
theorem Ly{k:UY}(c:25<=k)(h:jk s=scan (mO.drop k) (aB.aP s) mm):jk s=(U3,mm):=by
 rw[h,ZJ (by rw[Mb];exact c)];rfl
def RR(s:UU)(w':U7)(e:Ending):Prop :=
 (∃ (p:UV UU) (a b:UW Addr) (c d g h:UY),jk s=(U4 p,0)/\e=.returned (.tuple #[.slice a (aB.aP s).length c,.slice b p.length d,.int .i64 0,.int .i64 0])/\Row w' a g (aB.aP s)/\Row w' b h p) \/
 (∃ m:UY,jk s=(U3,m)/\e=.returned (.tuple #[.slice U3 0 0,.slice U3 0 0,.int .i64 2,.int .i64 m]))
theorem Ap(s:UU)(w:U7)(hs:s.size<=160):
  Va prog 78 #[.string s] w fun e w'=>RR s w' e/\U9 w.heap.size w w':=by
 have ag:=Am s;have ai:(s.size:UZ)<=160:=UI
 go_in
 go_wp2_with fail
 refine (Et s w hs).mono ?_;rintro e w1 ⟨v1,rfl,o1,b1⟩;obtain⟨aw,cw,gw,rfl,P⟩:=Af o1 rfl
 go_wp2_with fail
 refine (Nb w1).mono ?_;rintro e w2 ⟨v2,rfl,o2,b2⟩;obtain⟨ap,cp,gp,rfl,D⟩:=Af o2 UK;have O:=P.later b2;have Z:=b1.trans (b2.mono b1.size);clear o1 o2 P b1 b2;obtain rfl:=D.at_ UK;rw[show kG.length=25 from by decide];go_wp2
 go_loopw [8,9,10,11,12] (fun m i _ _ _ wx=>∃ k mm:UY,k<=25/\mm<=161/\i=.int .i64 k/\m=.int .i64 mm/\jk s=scan (mO.drop k) (aB.aP s) mm/\Row wx aw gw (aB.aP s)/\Row wx (U4 ⟨gp,0,U3⟩) gp kG/\U9 w.heap.size w wx) (fun _ i _ _ _ _=>25-(intOf i).toNat)
 case atStart=>exact⟨0,0,by omega,by omega,rfl,rfl,rfl,O,D,Z⟩
 case round =>
  obtain⟨k,mm,hk,ak,rfl,rfl,V,rw,rp,y⟩:=hrel;have aa:=hide V;clear V O D Z
  by_cases ac:k<25
  ·have hi:(k:UZ)<25:=UI
   have u:k<kG.length:=by rw[show kG.length=25 from by decide];exact ac
   have hc:=rp.cells k u
   go_wp2_with fail
   refine (Et _ _ (EF _ (zg u))).mono ?_;rintro e w3 ⟨v3,rfl,o3,b3⟩;obtain⟨ax,cx,gx,rfl,rx⟩:=Af o3 rfl;have N:=rw.later b3;have T:=rp.later b3;have z:=y.trans (b3.mono y.size);obtain⟨q,hq⟩:∃ q,q=aB.aP kG[k]:=⟨_,rfl⟩;rw[<- hq] at rx ⊢;have HQ:=hide hq;have aj:q.length<=161:=by rw[hq];have:=Am kG[k];have:=EF _ (zg u);omega
   clear hq o3 rw rp y b3 hc;go_wp2
   go_loopw [11,12] (fun n mo wx=>∃ (n':UY) (c:UX),n=.int .i64 n'/\mo=.bool c/\n'<=pre q (aB.aP s)/\(c=U5->n'=pre q (aB.aP s))/\Row wx aw gw (aB.aP s)/\Row wx (U4 ⟨gp,0,U3⟩) gp kG/\Row wx ax gx q/\U9 w.heap.size w wx) (fun n mo _=>AY mo+(q.length-(intOf n).toNat))
   case atStart=>exact⟨0,U6,rfl,rfl,V6 _,fun h=>U2 h UK,N,T,rx,z⟩
   case round =>
    obtain⟨n',c,rfl,rfl,hn,Y,o,C,t,r⟩:=hrel;have af:=rS q (aB.aP s)
    have G:(c=U6/\n'<q.length/\n'<(aB.aP s).length)\/c=U5\/(c=U6/\¬ n'<q.length)\/(c=U6/\n'<q.length/\¬ n'<(aB.aP s).length):=by
     cases c
     ·simp
     ·simp;omega
    have ae:=hide Y;clear Y N T rx z;rcases G with ⟨rfl,h1,h2⟩|F
    ·obtain rfl:=t.at_ UI;obtain rfl:=o.at_ UI;have c1:=t.cells n' h1;have c2:=o.cells n' h2;have j1:(n':UZ)<(q.length:UZ):=UI
     have j2:(n':UZ)<((aB.aP s).length:UZ):=UI
     have j0:(0:UZ)<=(n':UZ):=YN _;have U:(aB.aP s)[n'].size<=160:=Vg (xz s _ (zg h2)) hs;have ad:=hide U;clear U
     go_wp2_with fail
     go_region_held3 (fun w'=>w'.cell? ⟨gx,n',U3⟩=U4 (.string q[n'])/\w'.cell? ⟨gw,n',U3⟩=U4 (.string (aB.aP s)[n']))
      (first
       |go_keep
       |(
        go_split_ands
        refine⟨?_,?_⟩
        ·exact cell_later f UL
        ·exact cell_later f UL))
      ((go_at_call 125;refine (Ll _ _ _ (aK ad)).mono ?_;rintro e w4 ⟨rfl,f⟩))
     have j:U9 wr.heap.size wr w4:=⟨f.os,f.tape,f.output,f.size,f.block⟩;have A:=r.trans (j.mono r.size);have M:=o.later j;have S:=C.later j;have J:=t.later j
     cases hf:aV q[n'] (aB.aP s)[n']
     ·have HP:=hide (Lu h1 h2 hn hf);go_wp2;exact⟨⟨n',U5,rfl,rfl,hn,fun _=>aK HP,M,S,J,A⟩,by simp[AY,intOf]⟩
     ·have HP:=hide (Lv h1 h2 hn hf);go_wp2;exact⟨⟨n'+1,U6,by go_num,rfl,aK HP,fun h=>U2 h UK,M,S,J,A⟩,by simp[AY,intOf];omega⟩
    ·have X:n'=pre q (aB.aP s):=by
      rcases F with h|⟨_,h⟩|⟨_,_,h⟩
      ·exact aK ae h
      ·omega
      ·omega
     have I:=hide (Ms u (aK HQ) (aK aa));rw[<- X] at I;clear X
     by_cases d:n'=q.length/\n'=(aB.aP s).length
     ·obtain⟨f1,f2⟩:=d;have HR:Hid (jk s=(U4 q,0)):=(aK I).trans (U1 ⟨f1,f2⟩);have g1:((n':UZ)==(q.length:UZ))=U6:=beq_iff_eq.2 UI;have g2:((n':UZ)==((aB.aP s).length:UZ))=U6:=beq_iff_eq.2 UI;have F1:=hide f1;have F2:=hide f2;clear f1 f2;rcases F with rfl|⟨rfl,hx⟩|⟨rfl,hx,hy⟩
      all_goals
       go_wp2
       (try simp only[Wq,Exit.then]);refine bodyPost_ret (pA rfl _ _ _) rfl ?_
       exact⟨.inl ⟨q,aw,ax,cw,cx,gw,gx,HR.y,rfl,o,t⟩,r⟩
     ·have HR:Hid (jk s=scan (mO.drop (k+1)) (aB.aP s) (if mm<n' then n' else mm)):=(aK I).trans (U0 d)
      have hg:((n':UZ)==(q.length:UZ))=U5\/(((n':UZ)==(q.length:UZ))=U6/\((n':UZ)==((aB.aP s).length:UZ))=U5):=by
       by_cases e:n'=q.length
       ·right;exact⟨beq_iff_eq.2 UI,beq_eq_false_iff_ne.2 UI⟩
       ·left;exact beq_eq_false_iff_ne.2 UI
      clear d;have ab:mm<n'\/¬ mm<n':=UI
      rcases F with rfl|⟨rfl,hx⟩|⟨rfl,hx,hy⟩
      all_goals rcases hg with g1|⟨g1,g2⟩
      all_goals rcases ab with hm|hm
      all_goals
       go_wp2
       first
        |exact⟨⟨k+1,n',by omega,by omega,by go_num,rfl,HR.y.trans (by rw[U1 hm]),o,C,r⟩,by simp[intOf];omega⟩
        |exact⟨⟨k+1,mm,by omega,by omega,by go_num,rfl,HR.y.trans (by rw[U0 hm]),o,C,r⟩,by simp[intOf];omega⟩
  ·have HE:=hide (Ly UI (aK aa));go_wp2
   (try simp only[Wq,Exit.then]);refine bodyPost_ret (pA rfl _ _ _) rfl ?_
   exact⟨.inr ⟨mm,aK HE,rfl⟩,y⟩
theorem zz{b:UU}(h:a=b):Ending.returned (.string a)=.returned (.string b):=by rw[h]
def KY:U8->UY
 |.string s=>s.size
 |_=>0
theorem MC(j:UY)(t:UU):(⟨#[48]⟩:UU)++aB.pz j t=aB.pz (j+1) t:=by
 apply aB.pE;rw[aB.qZ,aB.zX,aB.zX,List.replicate_succ];rfl
theorem ux(n:UZ)(size:UY)(w:U7)(i:Env w)(y:0<=n)(u:n<=9999999)(I:size<=9):
  Va prog 128 #[.int .i64 n,.int .i64 size] w fun e w'=>e=.returned (.string (aB.kJ n size))/\U9 w.heap.size w w':=by
 have G:=aB.CJ n y u;have C:=hide i;clear i
 go_in
 go_wp2_with fail
 refine (FB n w (aK C) UI UI).mono ?_;rintro e D ⟨rfl,f⟩;go_wp2
 go_loop [5] (fun t=>∃ j:UY,j<=size-(aB.gi n).size/\t=.string (aB.pz j (aB.gi n))) (fun t=>size-KY t)
 case atStart=>exact⟨0,V6 _,rfl⟩
 case round =>
  obtain⟨j,J,rfl⟩:=hrel;have c:=aB.zY j (aB.gi n);have o:=hide c;have F:(aB.pz j (aB.gi n)).size<=20:=UI
  clear c
  by_cases r:(aB.pz j (aB.gi n)).size<size
  ·have d:((aB.pz j (aB.gi n)).size:UZ)<(size:UZ):=UI
   have z:=hide (MC j (aB.gi n));have h:Hid (((⟨#[48]⟩:UU)++aB.pz j (aB.gi n)).size=1+(aB.pz j (aB.gi n)).size):=ZC;go_wp2
   go_round
   case rel=>exact⟨j+1,by have:=aK o;omega,by rw[aK z]⟩
   case measure =>
    have q:=aK h;show size-((⟨#[48]⟩:UU)++aB.pz j (aB.gi n)).size<size-(aB.pz j (aB.gi n)).size;omega
  ·have d:¬ ((aB.pz j (aB.gi n)).size:UZ)<(size:UZ):=UI
   have A:Hid (aB.kJ n size=aB.pz j (aB.gi n)):=by
    show aB.kJ n size=_;unfold aB.kJ;rw[show size-(aB.gi n).size=j from by have:=aK o;omega]
   go_wp2;go_ret;exact⟨zz (by rw[A.y]),f⟩
def wD(y m d:UZ):UU:=aB.kJ y 4++⟨#[45]⟩++aB.kJ m 2++⟨#[45]⟩++aB.kJ d 2
def wP(n:UZ):UU:=aB.kJ (n / 60) 2++⟨#[58]⟩++aB.kJ (n % 60) 2
def Ar(n:UZ):UU:=wD (Cal.yT n) (Cal.mT n) (Cal.dT n)
def sb(t:UZ):UU:=Ar (t / 1440)++⟨#[47]⟩++wP (t % 1440)
theorem LQ(a b c:UU):a++b++c=a++(b++c):=by
 apply aB.pE;simp only[aB.qZ,VP]
theorem MP(y m d:UZ)(h:Cal.ok y m d=U6):(wD y m d).size<=40:=by
 obtain⟨o,j,t,r,C,A⟩:=(Cal.gO y m d).1 h;have z:=Cal.nQ y m;have i:=aB.oj y 4 UI UI;have f:=aB.oj m 2 UI UI;have c:=aB.oj d 2 UI UI;have u:(⟨#[45]⟩:UU).size=1:=UK
 unfold wD;simp only[ZC];omega
theorem Mk(n:UZ)(h:0<=n)(f:n<1440):(wP n).size<=19:=by
 have d:=aB.oj (n / 60) 2 UI UI;have c:=aB.oj (n % 60) 2 UI UI;have i:(⟨#[58]⟩:UU).size=1:=UK
 unfold wP;simp only[ZC];omega
theorem MQ(n:UZ)(d:-738885<=n)(c:n<=2913173):(Ar n).size<=40:=MP _ _ _ (Cal.tt n d c).1
def qm(k:UY):UU:=⟨(eL k).toArray⟩
def iR(acc:UV UZ):UY->UU
 |0=>⟨#[]⟩
 |k+1=>if aI acc k then iR acc k++⟨#[44]⟩++qm k else iR acc k
def yQ(acc:UV UZ):UU:=(iR acc 7).extract 1 (iR acc 7).size
theorem zR(k:UY):(qm k).size=2:=by
 unfold qm eL;split <;> rfl
theorem Ae(acc:UV UZ):∀ k:UY,(iR acc k).size<=3*k
 |0=>zq _
 |k+1=>by
  have ih:=Ae acc k;have n:=zR k;have c:(⟨#[44]⟩:UU).size=1:=UK
  unfold iR
  split
  ·simp only[ZC];omega
  ·omega
theorem EL(acc:UV UZ)(d:UY)(h:aI acc d=U6):∀ k:UY,d<k->1<=(iR acc k).size
 |0,hk=>by omega
 |k+1,hk=>by
  have n:=zR k;unfold iR
  by_cases e:d=k
  ·subst e;rw[U1 h];simp only[ZC];omega
  ·have:=EL acc d h k UI
   split
   ·simp only[ZC];omega
   ·exact this
theorem MR{d:UZ}{r:UV UZ}(h:aB.jM acc d=U4 r)(c:d<=6):∃ x:UY,x<7/\aI r x=U6:=by
 unfold aB.jM at h
 split at h
 ·rename_i hc
  cases h
  exact⟨d.toNat,by omega,by simp[aI,show ((d.toNat:UY):UZ)=d from by omega]⟩
 ·cases h
theorem D9:∀ (l:UV UInt8)(acc r:UV UZ),aB.iz l acc=U4 r->∃ x:UY,x<7/\aI r x=U6
 |[],_,_,h=>by simp[aB.iz] at h
 |[_],_,_,h=>by simp[aB.iz] at h
 |[a,b],acc,r,h=>MR (acc:=acc) (d:=aB.dC [a,b]) h (aB.xj [a,b]).2
 |a :: b :: c :: l,acc,r,h=>by
  unfold aB.iz at h
  split at h
  ·simp only[Option.bind_eq_some_iff] at h;obtain⟨x,_,h⟩:=h;exact D9 l x r h
  ·cases h
theorem K6(h:aB.iq s=U4 acc):1<=(iR acc 7).size:=by
 obtain⟨x,c,d⟩:=D9 _ _ _ h;exact EL acc x d 7 c
def qa(w:UU):UU:=match aB.iq w with|some acc=>yQ acc|none=>⟨#[]⟩
def gF(sym w:UU):UU :=
 if sym.toList==[85,78,73,84,83] then aB.gi (bF w 1 7) else
 if sym.toList==[77,73,78,85,84,69,83] then aB.gi (bF w 1 7) else
 if sym.toList==[69,86,69,82,89] then aB.gi (bF w 1 7) else
 if sym.toList==[73,68] then aB.gi (bF w 1 7) else
 if sym.toList==[84,73,77,69] then sb (cZ w) else
 if sym.toList==[79,78] then qa w else w
theorem Dv(w:UU):-1<=bF w 1 7/\bF w 1 7<=9999999:=by
 rw[uR];have:=aB.kV w.data.toList
 split <;> omega
theorem Dx(w:UU):-1<=cZ w/\cZ w<=1048320:=by
 unfold cZ
 split
 ·rename_i h
  unfold bA at h;simp only[WN,decide_eq_true_eq] at h;omega
 ·omega
theorem zB(n:UZ)(w:U7)(j:-738885<=n)(i:n<=2913173):
  Va prog 73 #[.int .i64 n] w fun e w'=>e=.returned (.tuple #[.int .i64 (Cal.yT n),.int .i64 (Cal.mT n),.int .i64 (Cal.dT n),.int .i64 0])/\w'=w:=by
 refine (M4 n w UI UI).mono ?_;rintro e w' ⟨⟨h,_⟩|⟨_,y,m,d,rfl,f,c⟩,rfl⟩
 ·omega
 ·obtain⟨rfl,rfl,rfl⟩:=Cal.AA y m d n f c;exact⟨rfl,rfl⟩
theorem Mo(t:UZ):aB.kJ (Cal.yT (t / 1440)) 4++⟨#[45]⟩++aB.kJ (Cal.mT (t / 1440)) 2++⟨#[45]⟩++aB.kJ (Cal.dT (t / 1440)) 2++⟨#[47]⟩++aB.kJ (t % 1440 / 60) 2++⟨#[58]⟩++aB.kJ (t % 60) 2=sb t:=by
 unfold sb Ar wD wP;rw[show t % 1440 % 60=t % 60 from by omega];simp only[LQ]
theorem wV(sym w:UU)(W:U7)(i:Env W)(r:w.size<=160)
  (t:(sym.toList==[85,78,73,84,83])=U6\/((sym.toList==[85,78,73,84,83])=U5/\(sym.toList==[77,73,78,85,84,69,83])=U6)\/((sym.toList==[85,78,73,84,83])=U5/\(sym.toList==[77,73,78,85,84,69,83])=U5/\(sym.toList==[69,86,69,82,89])=U6)\/((sym.toList==[85,78,73,84,83])=U5/\(sym.toList==[77,73,78,85,84,69,83])=U5/\(sym.toList==[69,86,69,82,89])=U5/\(sym.toList==[73,68])=U6)):
  Va prog 79 #[.string sym,.string w] W fun e w'=>e=.returned (.string (aB.gi (bF w 1 7)))/\U9 W.heap.size W w':=by
 have y:=hide i;have A:=Dv w;clear i;rcases t with h|⟨h,j⟩|⟨h,j,u⟩|⟨h,j,u,C⟩
 all_goals
  go_in
  go_wp2_with fail
  refine (eQ w 1 7 W r UI UI).mono ?_;rintro e o ⟨rfl,c⟩
  go_wp2_with fail
  refine (FB _ o ((aK y).later c) UI UI).mono ?_;rintro e z ⟨rfl,f⟩;have d:=c.trans (f.mono c.size);go_wp2;go_ret;exact⟨rfl,d⟩
theorem Nl(sym w:UU)(W:U7)
  (j:(sym.toList==[85,78,73,84,83])=U5) (i:(sym.toList==[77,73,78,85,84,69,83])=U5) (h:(sym.toList==[69,86,69,82,89])=U5) (f:(sym.toList==[73,68])=U5) (d:(sym.toList==[84,73,77,69])=U5) (c:(sym.toList==[79,78])=U5):
  Va prog 79 #[.string sym,.string w] W fun e w'=>e=.returned (.string w)/\w'=W:=by
 go_in
 go_wp2;go_ret;exact⟨rfl,rfl⟩
theorem Nj(sym w:UU)(W:U7)(C:Env W)(P:w.size<=160)(ht:0<=cZ w)
  (c0:(sym.toList==[85,78,73,84,83])=U5) (c1:(sym.toList==[77,73,78,85,84,69,83])=U5) (c2:(sym.toList==[69,86,69,82,89])=U5) (c3:(sym.toList==[73,68])=U5) (c4:(sym.toList==[84,73,77,69])=U6):
  Va prog 79 #[.string sym,.string w] W fun e w'=>e=.returned (.string (sb (cZ w)))/\U9 W.heap.size W w':=by
 have T:=hide C;have N:=Dx w;have J:=hide (Mo (cZ w));obtain⟨t,c⟩:∃ t,t=cZ w:=⟨_,rfl⟩;rw[<- c] at ht N J ⊢;have r:=hide c;clear C c;have ⟨hok,_⟩:=Cal.tt (t / 1440) UI UI;obtain⟨y1,y2,m1,m2,d1,d2⟩:=(Cal.gO _ _ _).1 hok;have db:=Cal.nQ (Cal.yT (t / 1440)) (Cal.mT (t / 1440));have Z:=aB.oj (Cal.yT (t / 1440)) 4 UI UI;have Y:=aB.oj (Cal.mT (t / 1440)) 2 UI UI;have X:=aB.oj (Cal.dT (t / 1440)) 2 UI UI;have V:=aB.oj (t % 1440 / 60) 2 UI UI;have U:=aB.oj (t % 60) 2 UI UI;clear hok
 go_in
 go_wp2_with fail
 refine (qs w W P).mono ?_;rintro e M ⟨rfl,d⟩;rw[<- aK r]
 go_wp2_with fail
 refine (zB (t / 1440) M UI UI).mono ?_;rintro e w2 ⟨rfl,rfl⟩;have I:=hide ((aK T).later d)
 go_wp2_with fail
 refine (ux _ 4 _ (aK I) UI UI UI).mono ?_;rintro e w3 ⟨rfl,j⟩;have G:=hide ((aK I).later j)
 go_wp2_with fail
 refine (ux _ 2 _ (aK G) UI UI UI).mono ?_;rintro e w4 ⟨rfl,i⟩;have F:=hide ((aK G).later i)
 go_wp2_with fail
 refine (ux _ 2 _ (aK F) UI UI UI).mono ?_;rintro e w5 ⟨rfl,h⟩;have D:=hide ((aK F).later h)
 go_wp2_with fail
 refine (ux _ 2 _ (aK D) UI UI UI).mono ?_;rintro e w6 ⟨rfl,f⟩;have S:=hide ((aK D).later f)
 go_wp2_with fail
 refine (ux _ 2 _ (aK S) UI UI UI).mono ?_;rintro e w7 ⟨rfl,o⟩;have A:=d.trans (j.mono d.size);have z:=A.trans (i.mono A.size);have y:=z.trans (h.mono z.size);have u:=y.trans (f.mono y.size);have O:=u.trans (o.mono u.size);go_wp2;go_ret;exact⟨zz (aK J),O⟩
theorem LF(k:UY)(h:k<7):[YK ⟨#[109,111]⟩,YK ⟨#[116,117]⟩,YK ⟨#[119,101]⟩,YK ⟨#[116,104]⟩,YK ⟨#[102,114]⟩,YK ⟨#[115,97]⟩,YK ⟨#[115,117]⟩][k]?=U4 (.string (qm k)):=by
 rcases (show k=0\/k=1\/k=2\/k=3\/k=4\/k=5\/k=6 by omega) with rfl|rfl|rfl|rfl|rfl|rfl|rfl <;> rfl
theorem DS.nat{b:UY}(h:DS w b acc)(k:UY)(c:k<7):w.cell? ⟨b,k,U3⟩=U4 (.bool (aI acc k)):=by
 have:=h.at k UI UI
 simpa using this
theorem MU(sym w:UU)(W:U7)(N:w.size<=160)(O:aB.dU w=U6)
  (c0:(sym.toList==[85,78,73,84,83])=U5) (c1:(sym.toList==[77,73,78,85,84,69,83])=U5) (c2:(sym.toList==[69,86,69,82,89])=U5) (c3:(sym.toList==[73,68])=U5) (c4:(sym.toList==[84,73,77,69])=U5) (c5:(sym.toList==[79,78])=U6):
  Va prog 79 #[.string sym,.string w] W fun e w'=>e=.returned (.string (qa w))/\U9 W.heap.size W w':=by
 go_in
 go_wp2_with fail
 refine (zh w W N).mono ?_;rintro e z ⟨⟨acc,rfl,h⟩,t⟩;have G:=hide (h O);have U:=hide (K6 (aK G));have T:Hid (qa w=yQ acc):=by show qa w=_;unfold qa;rw[aK G]
 clear h;unfold fa;go_wp2;obtain⟨X,u⟩:∃ X,X=z.alloc (.cells #[.bool (aI acc 0),.bool (aI acc 1),.bool (aI acc 2),.bool (aI acc 3),.bool (aI acc 4),.bool (aI acc 5),.bool (aI acc 6)] 159):=⟨_,rfl⟩;rw[<- u];have C:U9 W.heap.size W X:=by rw[u];exact t.alloc t.size _
 have S:DS X z.heap.size acc:=by
  rw[u];refine⟨?_,?_,?_,?_,?_,?_,?_,fun j=>?_⟩ <;> simp
 have M:z.heap.size+1=X.heap.size:=by rw[u];simp
 clear u
 go_loopw [12,13] (fun o i wx=>∃ k:UY,k<=7/\i=.int .i64 k/\o=.string (iR acc k)/\DS wx z.heap.size acc/\U9 W.heap.size W wx) (fun _ i _=>7-(intOf i).toNat)
 case atStart=>exact⟨0,by omega,rfl,rfl,S,C⟩
 case round =>
  obtain⟨k,Z,rfl,rfl,D,f⟩:=hrel;have V:=Ae acc k
  by_cases d:k<7
  ·have hi:(k:UZ)<7:=UI
   have P:(0:UZ)<=(k:UZ):=YN _;have F:=D.nat k d;have Y:([YK ⟨#[109,111]⟩,YK ⟨#[116,117]⟩,YK ⟨#[119,101]⟩,YK ⟨#[116,104]⟩,YK ⟨#[102,114]⟩,YK ⟨#[115,97]⟩,YK ⟨#[115,117]⟩][k]'d)=.string (qm k):=WJ ((WS d).symm.trans (LF k d));have J:=zR k;have I:(qm k).size<=2:=UI
   clear J;have c:iR acc (k+1)=if aI acc k then iR acc k++⟨#[44]⟩++qm k else iR acc k:=rfl
   have y:=hide c;clear c
   cases A:aI acc k
   ·rw[A] at F;have r:Hid (iR acc (k+1)=iR acc k):=(aK y).trans (by rw[A];rfl);go_wp2;exact⟨⟨k+1,by omega,by go_num,by rw[r.y],D,f⟩,by simp[intOf];omega⟩
   ·rw[A] at F;have r:Hid (iR acc (k+1)=iR acc k++⟨#[44]⟩++qm k):=(aK y).trans (by rw[A];rfl);go_wp2;exact⟨⟨k+1,by omega,by go_num,by rw[r.y],D.later ((zr _ _).alloc (zq _) _),f.alloc f.size _⟩,by simp[intOf];omega⟩
  ·obtain rfl:k=7:=UI
   have h1:(1:UZ)<=((iR acc 7).size:UZ):=by have:=aK U;omega
   go_wp2;go_ret;exact⟨zz (by rw[T.y];rfl),f⟩
theorem Le{w:UU}(j:(sym.toList==[85,78,73,84,83])=U5)(i:(sym.toList==[77,73,78,85,84,69,83])=U5)(h:(sym.toList==[69,86,69,82,89])=U5)(f:(sym.toList==[73,68])=U5)(d:(sym.toList==[84,73,77,69])=U5)(c:(sym.toList==[79,78])=U5):gF sym w=w:=by
 simp[gF,j,i,h,f,d,c]
theorem D5{w:UU}(h:(sym.toList==[84,73,77,69])=U6)(c:aV sym w=U6):0<=cZ w:=by
 have e:=beq_iff_eq.1 h;unfold aV at c;rw[e] at c
 simpa using c
theorem KD{w:UU}(h:(sym.toList==[79,78])=U6)(c:aV sym w=U6):aB.dU w=U6:=by
 have e:=beq_iff_eq.1 h;unfold aV at c;rw[e] at c
 simpa using c
theorem EU(sym w:UU)(W:U7)(o:Env W)(j:w.size<=160)(t:aV sym w=U6):
  Va prog 79 #[.string sym,.string w] W fun e w'=>e=.returned (.string (gF sym w))/\U9 W.heap.size W w':=by
 cases c:(sym.toList==[85,78,73,84,83])
 case true =>
  rw[show gF sym w=aB.gi (bF w 1 7) from by simp[gF,c]];exact wV sym w W o j (.inl c)
 cases d:(sym.toList==[77,73,78,85,84,69,83])
 case true =>
  rw[show gF sym w=aB.gi (bF w 1 7) from by simp[gF,c,d]];exact wV sym w W o j (.inr (.inl ⟨c,d⟩))
 cases f:(sym.toList==[69,86,69,82,89])
 case true =>
  rw[show gF sym w=aB.gi (bF w 1 7) from by simp[gF,c,d,f]];exact wV sym w W o j (.inr (.inr (.inl ⟨c,d,f⟩)))
 cases h:(sym.toList==[73,68])
 case true =>
  rw[show gF sym w=aB.gi (bF w 1 7) from by simp[gF,c,d,f,h]];exact wV sym w W o j (.inr (.inr (.inr ⟨c,d,f,h⟩)))
 cases i:(sym.toList==[84,73,77,69])
 case true =>
  rw[show gF sym w=sb (cZ w) from by simp[gF,c,d,f,h,i]];exact Nj sym w W o j (D5 i t) c d f h i
 cases r:(sym.toList==[79,78])
 case true =>
  rw[show gF sym w=qa w from by simp[gF,c,d,f,h,i,r]];exact MU sym w W j (KD r t) c d f h i r
 rw[Le c d f h i r];refine (Nl sym w W c d f h i r).mono ?_;rintro e w' ⟨rfl,rfl⟩;exact⟨rfl,Below.refl _ _⟩
open aA (aM)
structure NV(w:U7)(v:U8)(l:UV UZ):Prop where
 form:∃ a cap,v=.slice a l.length cap
 cell:∀ (k:UY) (hk:k<l.length),∃ g cap,v=.slice (U4 ⟨g,0,U3⟩) l.length cap/\w.cell? ⟨g,k,U3⟩=U4 (.int .i64 l[k])
theorem NV.later{l:UV UZ}(h:NV w v l)(k:U9 w.heap.size w w'):NV w' v l :=
 ⟨h.form,fun i c=>by
  obtain⟨g,cap,e,a⟩:=h.cell i c
  exact⟨g,cap,e,aN k a⟩⟩
structure SV(w:U7)(v:U8)(L:UV (UZ × UZ)):Prop where
 form:∃ a cap,v=.slice a L.length cap
 cell:∀ (k:UY) (hk:k<L.length),∃ g cap,v=.slice (U4 ⟨g,0,U3⟩) L.length cap/\w.cell? ⟨g,k*2,U3⟩=U4 (.int .i64 L[k].1)/\w.cell? ⟨g,k*2+1,U3⟩=U4 (.int .i64 L[k].2)
theorem SV.later(h:SV w v L)(k:U9 w.heap.size w w'):SV w' v L :=
 ⟨h.form,fun i c=>by
  obtain⟨g,cap,e,a,b⟩:=h.cell i c
  exact⟨g,cap,e,aN k a,aN k b⟩⟩
structure EV(w:U7)(v:U8)(l:UV (aM × U8)):Prop where
 form:∃ a cap,v=.slice a l.length cap
 cell:∀ (k:UY) (hk:k<l.length),∃ g cap,v=.slice (U4 ⟨g,0,U3⟩) l.length cap/\w.cell? ⟨g,k*6,U3⟩=U4 (.int .i64 l[k].1.id)/\w.cell? ⟨g,k*6+1,U3⟩=U4 (.int .i64 l[k].1.kind)/\w.cell? ⟨g,k*6+2,U3⟩=U4 (.string l[k].1.aT)/\w.cell? ⟨g,k*6+3,U3⟩=U4 (.int .i64 l[k].1.aH)/\w.cell? ⟨g,k*6+4,U3⟩=U4 l[k].2/\w.cell? ⟨g,k*6+5,U3⟩=U4 (.int .i64 l[k].1.bY)
 sp:∀ p∈l,SV w p.2 p.1.aL
theorem EV.later(h:EV w v l)(k:U9 w.heap.size w w'):EV w' v l :=
 ⟨h.form,fun i d=>by
  obtain⟨g,cap,e,u,t,r,o,j,f⟩:=h.cell i d
  exact⟨g,cap,e,aN k u,aN k t,aN k r,aN k o,aN k j,aN k f⟩,fun p c=>(h.sp p c).later k⟩
namespace aA
theorem G7{a b:UZ}{x:aM}:∀ l:UV aM,(nN a b x l).Perm (x :: l)
 |[]=>by simp[nN]
 |y :: r=>by
  simp only[nN]
  split
  ·exact ZK _
  ·exact ((G7 r).cons y).trans (List.Perm.swap x y r)
theorem Ju{a b:UZ}:∀ l:UV aM,(qI a b l).Perm l
 |[]=>ZK _
 |x :: r=>(G7 _).trans ((Ju r).cons x)
end aA
open aA (aM cP hasB)
theorem SV.own{B:UY}(h:w.ownsRow B 60 2 v L.length (L.flatMap fC)):SV w v L:=by
 refine⟨iy h,fun k f=>?_⟩;obtain⟨g,cap,e⟩:=Yc h UI;subst e;obtain⟨j,i⟩:=Hw k f;have o:=Iz L;have d:=h.cellAt (k*2) UI;have c:=h.cellAt (k*2+1) UI;rw[j] at d;rw[i] at c;exact⟨g,cap,rfl,d,c⟩
theorem EV.own{B:UY}(h:w.ownsRow B 58 6 v l.length (l.flatMap ef))(sp:∀ p∈l,SV w p.2 p.1.aL):EV w v l:=by
 refine⟨iy h,fun k d=>?_,sp⟩;obtain⟨g,cap,e⟩:=Yc h UI;subst e
 have at_:∀ j,j<6->w.cell? ⟨g,k*6+j,U3⟩=(ef l[k])[j]?:=fun j f=>by
  have c:=h.cellAt (k*6+j) UI;rw[qT d f] at c;exact c
 exact⟨g,cap,rfl,at_ 0 UI,at_ 1 UI,at_ 2 UI,at_ 3 UI,at_ 4 UI,at_ 5 UI⟩
namespace aA
end aA
namespace aA
end aA
namespace aA
end aA
open aA (aM St dB kept dZ cS cN gC cA bW gJ ec gD n8 Inv bJ kS ig bO)
def iO(p ws:UV UU):UY->UU
 |0=>⟨#[]⟩
 |k+1=>(if 0<k then iO p ws k++⟨#[32]⟩ else iO p ws k)++gF (p.getD k ⟨#[]⟩) (ws.getD k ⟨#[]⟩)
theorem MO(n:UZ)(c:-1<=n)(h:n<=9999999):(aB.gi n).size<=160:=by
 by_cases e:n=-1
 ·subst e;decide +kernel
 ·have:=aB.CJ n UI h;omega
theorem MW(t:UZ)(h:0<=t)(f:t<=1048320):(sb t).size<=160:=by
 have d:=MQ (t / 1440) UI UI;have c:=Mk (t % 1440) UI UI;have i:(⟨#[47]⟩:UU).size=1:=UK
 unfold sb;simp only[ZC];omega
theorem Ma(w:UU):(qa w).size<=160:=by
 unfold qa
 split
 ·rename_i acc _
  have:=Ae acc 7;have e:(yQ acc).size=min (iR acc 7).size (iR acc 7).size-1:=ByteArray.size_extract ..;omega
 ·exact zN _
theorem DH(sym w:UU)(f:w.size<=160)(i:aV sym w=U6):(gF sym w).size<=160:=by
 have d:=Dv w;have c:=MO (bF w 1 7) d.1 d.2;unfold gF
 split
 ·exact c
 ·split
  ·exact c
  ·split
   ·exact c
   ·split
    ·exact c
    ·split
     ·rename_i h;exact MW _ (D5 h i) (Dx w).2
     ·split
      ·exact Ma w
      ·exact f
theorem Ey:∀ (ps:UV (UV UU))(ws:UV UU)(m:UY)(p:UV UU),scan ps ws m=(U4 p,0)->pre p ws=p.length/\pre p ws=ws.length
 |[],_,_,_,h=>by simp[scan] at h
 |q :: ps,ws,m,p,h=>by
  unfold scan at h
  split at h
  ·rename_i hc;simp at h;subst h;exact hc
  ·exact Ey ps ws _ p h
theorem El(p ws:UV UU)(f:pre p ws=p.length)(c:pre p ws=ws.length)(d:∀ x∈ws,x.size<=160):∀ k:UY,k<=ws.length->(iO p ws k).size<=161*k
 |0,_=>zq _
 |k+1,hk=>by
  have ih:=El p ws f c d k UI;have h:=wL p ws k UI UI UI;have j:p.getD k ⟨#[]⟩=p[k]'UI:=by simp[Wf,show k<p.length by omega]
  have i:ws.getD k ⟨#[]⟩=ws[k]'UI:=by simp[Wf,show k<ws.length by omega]
  have z:=DH (p[k]'UI) (ws[k]'UI) (d _ (zg UI)) h;have o:(⟨#[32]⟩:UU).size=1:=UK
  unfold iO;rw[j,i]
  split
  ·simp only[ZC];omega
  ·simp only[ZC];omega
def PR(s:UU)(e:Ending):Prop :=
 (160<s.size/\e=.returned (.tuple #[.string ⟨#[]⟩,.int .i64 1,.int .i64 0])) \/
 (s.size<=160/\((∃ p,jk s=(U4 p,0)/\e=.returned (.tuple #[.string (iO p (aB.aP s) (aB.aP s).length),.int .i64 0,.int .i64 0])) \/
  (∃ m:UY,jk s=(U3,m)/\e=.returned (.tuple #[.string ⟨#[]⟩,.int .i64 2,.int .i64 m]))))
theorem EY(s:UU)(w:U7)(d:160<s.size):
  Va prog 78 #[.string s] w fun e w'=>e=.returned (.tuple #[.slice U3 0 0,.slice U3 0 0,.int .i64 1,.int .i64 0])/\w'=w:=by
 have c:(160:UZ)<(s.size:UZ):=UI
 go_in
 go_wp2
 (try simp only[Wq,Exit.then]);refine bodyPost_ret (pA rfl _ _ _) rfl ?_
 exact⟨rfl,rfl⟩
theorem Ng(s:UU)(w:U7)(he:Env w):
  Va prog 55 #[.string s] w fun e w'=>PR s e/\U9 w.heap.size w w':=by
 by_cases V:s.size<=160
 ·have HE:=hide he;clear he
  go_in
  go_wp2_with fail
  refine (Ap s w V).mono ?_;rintro e w1 ⟨hr,O⟩;rcases hr with ⟨p,a,b,c,d,g,h,r,rfl,ra,rb⟩|⟨m,r,rfl⟩
  ·have ⟨l1,l2⟩:=Ey _ _ _ _ r;have J:=hide r;have aa:=Am s;have X:∀ x∈aB.aP s,x.size<=160:=fun x hx=>Vg (xz s x hx) V
   have Z:=hide (El p (aB.aP s) l1 l2 X);have HW:=hide X;have L1:=hide l1;have L2:=hide l2;have Y:=hide (wL p (aB.aP s));clear r X l1 l2;go_wp2
   go_loopw [9,10,11] (fun o i _ wx=>∃ k:UY,k<=(aB.aP s).length/\i=.int .i64 k/\o=.string (iO p (aB.aP s) k)/\Row wx a g (aB.aP s)/\Row wx b h p/\U9 w.heap.size w wx) (fun _ i _ _=>(aB.aP s).length-(intOf i).toNat)
   case atStart=>exact⟨0,V6 _,rfl,rfl,ra,rb,O⟩
   case round =>
    obtain⟨k,hk,rfl,rfl,z,y,t⟩:=hrel;clear ra rb;have oz:=aK Z k hk
    by_cases A:k<(aB.aP s).length
    ·have G:k<p.length:=by have:=aK L1;have:=aK L2;omega
     obtain rfl:=z.at_ UI;obtain rfl:=y.at_ UI;have k1:=y.cells k G;have k2:=z.cells k A;have j1:(k:UZ)<(p.length:UZ):=UI
     have j2:(k:UZ)<((aB.aP s).length:UZ):=UI
     have j0:(0:UZ)<=(k:UZ):=YN _;have F:(aB.aP s)[k].size<=160:=aK HW _ (zg A);have I:aV p[k] (aB.aP s)[k]=U6:=aK Y k G A (by have:=aK L2;omega);have T:=hide F;have U:=hide I;have wz:=DH _ _ F I
     have S:Hid (iO p (aB.aP s) (k+1)=(if 0<k then iO p (aB.aP s) k++⟨#[32]⟩ else iO p (aB.aP s) k)++gF p[k] (aB.aP s)[k]):=by
      show iO p (aB.aP s) (k+1)=_;rw[iO,show p.getD k ⟨#[]⟩=p[k] from by simp[Wf,G],show (aB.aP s).getD k ⟨#[]⟩=(aB.aP s)[k] from by simp[Wf,A]]
     clear F I;have P:=hide ((aK HE).later t)
     by_cases N:0<k
     ·have j3:(0:UZ)<(k:UZ):=UI
      have M:Hid (iO p (aB.aP s) (k+1)=iO p (aB.aP s) k++⟨#[32]⟩++gF p[k] (aB.aP s)[k]):=S.y.trans (by rw[U1 N])
      go_wp2_with fail
      go_region_held3 (fun w'=>w'.cell? ⟨h,k,U3⟩=U4 (.string p[k])/\w'.cell? ⟨g,k,U3⟩=U4 (.string (aB.aP s)[k]))
       (first
        |go_keep
        |(
         go_split_ands
         refine⟨?_,?_⟩
         ·exact cell_later f UL
         ·exact cell_later f UL))
       ((go_at_call 79;refine (EU _ _ _ ?_ (aK T) (aK U)).mono ?_;exact (aK P).later ⟨rfl,rfl,rfl,Vd _,fun _ _=>rfl⟩;rintro e w4 ⟨rfl,f⟩))
      have j:U9 wr.heap.size wr w4:=⟨f.os,f.tape,f.output,f.size,f.block⟩;have u:=t.trans (j.mono t.size);have D:=z.later j;have C:=y.later j;go_wp2;exact⟨⟨k+1,by omega,by go_num,by rw[M.y],D,C,u⟩,by simp[intOf];omega⟩
     ·have j3:¬ (0:UZ)<(k:UZ):=UI
      have M:Hid (iO p (aB.aP s) (k+1)=iO p (aB.aP s) k++gF p[k] (aB.aP s)[k]):=S.y.trans (by rw[U0 N])
      go_wp2_with fail
      go_region_held3 (fun w'=>w'.cell? ⟨h,k,U3⟩=U4 (.string p[k])/\w'.cell? ⟨g,k,U3⟩=U4 (.string (aB.aP s)[k]))
       (first
        |go_keep
        |(
         go_split_ands
         refine⟨?_,?_⟩
         ·exact cell_later f UL
         ·exact cell_later f UL))
       ((go_at_call 79;refine (EU _ _ _ ?_ (aK T) (aK U)).mono ?_;exact (aK P).later ⟨rfl,rfl,rfl,Vd _,fun _ _=>rfl⟩;rintro e w4 ⟨rfl,f⟩))
      have j:U9 wr.heap.size wr w4:=⟨f.os,f.tape,f.output,f.size,f.block⟩;have u:=t.trans (j.mono t.size);have D:=z.later j;have C:=y.later j;go_wp2;exact⟨⟨k+1,by omega,by go_num,by rw[M.y],D,C,u⟩,by simp[intOf];omega⟩
    ·obtain rfl:k=(aB.aP s).length:=UI
     go_wp2;go_ret3;exact⟨.inr ⟨V,.inl ⟨p,aK J,rfl⟩⟩,t⟩
  ·have J:=hide r;clear r;go_wp2;go_ret3;exact⟨.inr ⟨V,.inr ⟨m,aK J,rfl⟩⟩,O⟩
 ·go_in
  go_wp2_with fail
  refine (EY s w UI).mono ?_;rintro e w1 ⟨rfl,rfl⟩;go_wp2;go_ret3;exact⟨.inl ⟨by omega,rfl⟩,Below.refl _ _⟩
theorem kF(ws:UV UU)(P Q:UV (UU->UX))(st:UY × UX):aQ ws (P++Q) st=aQ ws Q (aQ ws P st):=Xs ..
theorem K0(ws:UV UU)(B:UU->UX)(n:UY):dI ws B (n,U6)=(n,U6):=by simp[dI,eo,ei,eB,cB]
theorem qo(ws:UV UU):∀ (c:UV (UU->UX))(n:UY),aQ ws c (n,U6)=(n,U6)
 |[],_=>rfl
 |B :: c,n=>by
  show aQ ws c (dI ws B (n,U6))=_;rw[K0,qo ws c n]
theorem wF(h:eB ws n U5 B=U5):dI ws B (n,U5)=(n,U6):=by
 simp only[dI,eo,ei,h,if_false,Vn]
theorem Lc(h:¬ n<ws.length):eB ws n U5 B=U5:=by simp[eB,cB,h]
theorem Do(h:B (ws.getD n Yy)=U5):eB ws n U5 B=U5:=by simp only[eB,h,Bool.and_false]
theorem mz(h:eB ws n wr B=U6):wr=U5/\n<ws.length/\B (ws.getD n Yy)=U6:=by
 unfold eB cB at h;simp only[WN,Zz,decide_eq_true_eq] at h;exact⟨h.1.1,h.1.2,h.2⟩
theorem Ee(ws:UV UU):∀ (p:UV UU)(n:UY),n<=ws.length->aQ ws (p.map aV) (n,U5)=(n+pre p (ws.drop n),decide (pre p (ws.drop n)≠p.length))
 |[],n,_=>by simp[pre,aQ]
 |s :: p,n,hn=>by
  show aQ ws (p.map aV) (dI ws (aV s) (n,U5))=_
  by_cases c:n<ws.length
  ·have h:ws.drop n=ws[n] :: ws.drop (n+1):=Ws c;have f:ws.getD n Yy=ws[n]:=pG ws n c
   cases d:aV s ws[n]
   ·rw[wF (Do (by rw[f];exact d)),qo,h,pre,d];simp
   ·rw[Fq c (by rw[f];exact d),Ee ws p (n+1) c,h,pre,d];simp only[if_true];refine ZF ?_ ?_
    ·show n+1+_=n+(_+1);omega
    ·simp
  ·rw[wF (Lc c),qo,ZJ UI];simp[pre]
theorem zf(ws p:UV UU):aQ ws (p.map aV) (0,U5)=(pre p ws,decide (pre p ws≠p.length)):=by
 have:=Ee ws p 0 (zN _)
 simpa using this
theorem nF(h:aQ ws (p.map aV) (0,U5)=(n,b)):pre p ws=n:=by
 rw[zf] at h;exact (ZL h).1
theorem qh(h:aQ ws (p.map aV) (0,U5)=(n,U5)):n=p.length:=by
 rw[zf] at h;obtain⟨d,c⟩:=ZL h;rw[d] at c
 by_cases e:n=p.length
 ·exact e
 ·simp[e] at c
theorem uA(h:aQ ws (p.map aV) (0,U5)=(n,U6)):n<p.length:=by
 have d:=(rS p ws).1;rw[zf] at h;obtain⟨f,c⟩:=ZL h;rw[f] at c d
 by_cases e:n=p.length
 ·simp[e] at c
 ·omega
theorem Dm(R:UV UU)(h:aQ ws (Q.map aV) (0,U5)=(n,U6)):pre (Q++R) ws=n:=by
 apply nF (b:=U6);rw[We,kF,h,qo]
theorem C8(R:UV UU)(h:aQ ws (Q.map aV) (0,U5)=(n,U5))(c:eB ws n U5 (aV s)=U5):pre (Q++s :: R) ws=n:=by
 apply nF (b:=U6);rw[We,kF,h];show aQ ws (R.map aV) (dI ws (aV s) (n,U5))=_;rw[wF c,qo]
theorem zw(h:aQ ws ((Q++R).map aV) (0,U5)=(n,U5)):aQ ws (Q.map aV) (0,U5)=(Q.length,U5):=by
 rw[We,kF] at h;obtain⟨m,b,c⟩:∃ m b,aQ ws (Q.map aV) (0,U5)=(m,b):=⟨_,_,rfl⟩
 cases b
 ·rw[c,qh c]
 ·rw[c,qo] at h;cases h
theorem uF(h:aQ ws ((Q++s :: R).map aV) (0,U5)=(n,U5)):eB ws Q.length U5 (aV s)=U6:=by
 have c:=zw h;rw[We,kF,c] at h
 cases ht:eB ws Q.length U5 (aV s)
 ·have:aQ ws (R.map aV) (dI ws (aV s) (Q.length,U5))=(n,U5):=h;rw[wF ht,qo] at this
  cases this
 ·rfl
structure Sum(ps:UV (UV UU))(ws:UV UU)(st:UY × UX)(q:UV UU):Prop where
 mem:q∈ps
 le:∀ p∈ps,pre p ws<=st.1
 at_:pre q ws=st.1
 bad:st.2=U6->∀ p∈ps,¬ (pre p ws=p.length/\pre p ws=ws.length)
 qj:st.2=U5->pre q ws=q.length/\∀ p∈ps,p≠q->¬ (pre p ws=p.length/\pre p ws=ws.length)
theorem Ex:∀ (ps:UV (UV UU))(ws:UV UU)(m M:UY),(∀ p∈ps,¬ (pre p ws=p.length/\pre p ws=ws.length))->(∀ p∈ps,pre p ws<=M)->m<=M->(m=M\/∃ p∈ps,pre p ws=M)->scan ps ws m=(U3,M)
 |[],_,m,M,_,_,_,h=>by
  rcases h with rfl|⟨p,d,_⟩
  ·rfl
  ·simp at d
 |p :: ps,ws,m,M,h1,h2,h3,h4=>by
  have d:=h2 p (Yp ..);rw[scan,U0 (h1 p (Yp ..))];refine Ex ps ws _ M (fun q c=>h1 q (WH _ c)) (fun q c=>h2 q (WH _ c)) (by split <;> omega) ?_;rcases h4 with rfl|⟨q,c,e⟩
  ·left;rw[U0 UI]
  ·rcases Vq.1 c with rfl|c
   ·left;split <;> omega
   ·exact .inr ⟨q,c,e⟩
theorem Eb:∀ (ps:UV (UV UU))(ws:UV UU)(m:UY)(q:UV UU),q∈ps->pre q ws=q.length/\pre q ws=ws.length->(∀ p∈ps,p≠q->¬ (pre p ws=p.length/\pre p ws=ws.length))->scan ps ws m=(U4 q,0)
 |[],_,_,_,h,_,_=>by simp at h
 |p :: ps,ws,m,q,h,hf,hn=>by
  rw[scan]
  by_cases e:p=q
  ·subst e;rw[U1 hf]
  ·rw[U0 (hn p (Yp ..) e)];rcases Vq.1 h with h|h
   ·exact U2 h.symm e
   ·exact Eb ps ws _ q h hf (fun r c=>hn r (WH _ c))
theorem Sum.yes(h:Sum ps ws st q)(c:st.2=U5)(d:cB ws.length st.1 st.2=U5):scan ps ws 0=(U4 q,0):=by
 obtain⟨i,f⟩:=h.qj c;have j:¬ st.1<ws.length:=by simpa[cB,c] using d
 have:=(rS q ws).2;have:=h.at_;exact Eb ps ws 0 q h.mem ⟨i,by omega⟩ f
theorem Sum.no(h:Sum ps ws st q)(c:st.2=U6\/cB ws.length st.1 st.2=U6):scan ps ws 0=(U3,st.1):=by
 refine Ex ps ws 0 st.1 ?_ h.le (zN _) (.inr ⟨q,h.mem,h.at_⟩);rcases c with c|c
 ·exact h.bad c
 ·have f:=pM c;intro p d e;have:=h.le p d;omega
theorem EP(ws:UV UU)(f:UV UU->UX):∀ (ps:UV (UV UU))(m:UY),(∀ p∈ps,f p=U5->pre p ws=0/\p≠[])->scan ps ws m=scan (ps.filter f) ws m
 |[],_,_=>rfl
 |p :: ps,m,h=>by
  have ih:=fun m=>EP ws f ps m (fun q i=>h q (WH _ i))
  cases d:f p
  ·obtain⟨j,c⟩:=h p (Yp ..) d;rw[List.filter_cons_of_neg (by simp[d]),scan,j,U0,U0 UI,ih];rintro ⟨e,_⟩;exact c (VY.1 e.symm)
  ·rw[List.filter_cons_of_pos d,scan,scan,ih]
def cD:UU:=⟨#[78,65,77,69]⟩
def eO:UU:=⟨#[85,78,73,84,83]⟩
def gj:UU:=⟨#[77,73,78,85,84,69,83]⟩
def hI:UU:=⟨#[69,86,69,82,89]⟩
def mj:UU:=⟨#[73,68]⟩
def bG:UU:=⟨#[84,73,77,69]⟩
def hH:UU:=⟨#[68,65,84,69]⟩
def jC:UU:=⟨#[77,73,78,85,84,69]⟩
def lg:UU:=⟨#[79,78]⟩
theorem Ad(w:UU)(c hi:UZ)(h:0<=c):ka w c hi=eM w c hi:=by
 unfold ka eM;rw[uR]
 cases d:aB.isNum w.data.toList
 ·simp;omega
 ·simp
theorem gS:aV cD=bI:=by
 have c:(cD.toList==[78,65,77,69])=U6:=UM
 funext w;unfold aV;rw[U1 c];rfl
theorem lK:aV eO=dE:=by
 have d:¬ (eO.toList==[78,65,77,69])=U6:=UM
 have c:(eO.toList==[85,78,73,84,83])=U6:=UM
 funext w;unfold aV;rw[U0 d,U1 c];exact Ad w 1 9 UI
theorem s7:aV gj=eK:=by
 have f:¬ (gj.toList==[78,65,77,69])=U6:=UM
 have d:¬ (gj.toList==[85,78,73,84,83])=U6:=UM
 have c:(gj.toList==[77,73,78,85,84,69,83])=U6:=UM
 funext w;unfold aV;rw[U0 f,U0 d,U1 c];exact Ad w 1 1048320 UI
theorem pY:aV hI=eu:=by
 have h:¬ (hI.toList==[78,65,77,69])=U6:=UM
 have f:¬ (hI.toList==[85,78,73,84,83])=U6:=UM
 have d:¬ (hI.toList==[77,73,78,85,84,69,83])=U6:=UM
 have c:(hI.toList==[69,86,69,82,89])=U6:=UM
 funext w;unfold aV;rw[U0 h,U0 f,U0 d,U1 c];exact Ad w 1 99 UI
theorem Dc:aV mj=oe:=by
 have i:¬ (mj.toList==[78,65,77,69])=U6:=UM
 have h:¬ (mj.toList==[85,78,73,84,83])=U6:=UM
 have f:¬ (mj.toList==[77,73,78,85,84,69,83])=U6:=UM
 have d:¬ (mj.toList==[69,86,69,82,89])=U6:=UM
 have c:(mj.toList==[73,68])=U6:=UM
 funext w;unfold aV;rw[U0 i,U0 h,U0 f,U0 d,U1 c,uR]
 have:=aB.kV w.data.toList;unfold oe
 cases j:aB.isNum w.data.toList
 ·simp
 ·simp;omega
theorem mP:aV bG=bA:=by
 have j:¬ (bG.toList==[78,65,77,69])=U6:=UM
 have i:¬ (bG.toList==[85,78,73,84,83])=U6:=UM
 have h:¬ (bG.toList==[77,73,78,85,84,69,83])=U6:=UM
 have f:¬ (bG.toList==[69,86,69,82,89])=U6:=UM
 have d:¬ (bG.toList==[73,68])=U6:=UM
 have c:(bG.toList==[84,73,77,69])=U6:=UM
 funext w;unfold aV;rw[U0 j,U0 i,U0 h,U0 f,U0 d,U1 c]
 unfold cZ
 cases ht:bA w
 ·simp
 ·unfold bA at ht;simp only[WN,decide_eq_true_eq] at ht;simp;omega
theorem wk:aV hH=aB.cM:=by
 have y:¬ (hH.toList==[78,65,77,69])=U6:=UM
 have u:¬ (hH.toList==[85,78,73,84,83])=U6:=UM
 have t:¬ (hH.toList==[77,73,78,85,84,69,83])=U6:=UM
 have r:¬ (hH.toList==[69,86,69,82,89])=U6:=UM
 have o:¬ (hH.toList==[73,68])=U6:=UM
 have j:¬ (hH.toList==[84,73,77,69])=U6:=UM
 have i:(hH.toList==[68,65,84,69])=U6:=UM
 funext w;unfold aV;rw[U0 y,U0 u,U0 t,U0 r,U0 o,U0 j,U1 i]
 unfold eV aB.cM;apply decide_eq_decide.2;constructor
 ·intro h
  split at h
  ·rename_i hc;exact⟨hc.1,hc.2.1,h.2⟩
  ·omega
 ·rintro ⟨f,c,d⟩;rw[U1 ⟨f,c,by omega⟩];exact⟨c,d⟩
theorem CW:aV jC=aB.dA:=by
 have r:¬ (jC.toList==[78,65,77,69])=U6:=UM
 have o:¬ (jC.toList==[85,78,73,84,83])=U6:=UM
 have j:¬ (jC.toList==[77,73,78,85,84,69,83])=U6:=UM
 have i:¬ (jC.toList==[69,86,69,82,89])=U6:=UM
 have h:¬ (jC.toList==[73,68])=U6:=UM
 have f:¬ (jC.toList==[84,73,77,69])=U6:=UM
 have d:¬ (jC.toList==[68,65,84,69])=U6:=UM
 have c:(jC.toList==[77,73,78,85,84,69])=U6:=UM
 funext w;unfold aV;rw[U0 r,U0 o,U0 j,U0 i,U0 h,U0 f,U0 d,U1 c]
 have:=aB.xg w;unfold gT
 cases ht:aB.dA w
 ·simp
 ·simp;omega
theorem CX:aV lg=aB.dU:=by
 have t:¬ (lg.toList==[78,65,77,69])=U6:=UM
 have r:¬ (lg.toList==[85,78,73,84,83])=U6:=UM
 have o:¬ (lg.toList==[77,73,78,85,84,69,83])=U6:=UM
 have j:¬ (lg.toList==[69,86,69,82,89])=U6:=UM
 have i:¬ (lg.toList==[73,68])=U6:=UM
 have h:¬ (lg.toList==[84,73,77,69])=U6:=UM
 have f:¬ (lg.toList==[68,65,84,69])=U6:=UM
 have d:¬ (lg.toList==[77,73,78,85,84,69])=U6:=UM
 have c:(lg.toList==[79,78])=U6:=UM
 funext w;unfold aV;rw[U0 t,U0 r,U0 o,U0 j,U0 i,U0 h,U0 f,U0 d,U1 c]
def jD(x:UU):UX:=!(x.toList==[78,65,77,69]) && !(x.toList==[85,78,73,84,83]) && !(x.toList==[77,73,78,85,84,69,83]) && !(x.toList==[69,86,69,82,89]) && !(x.toList==[73,68]) && !(x.toList==[84,73,77,69]) && !(x.toList==[68,65,84,69]) && !(x.toList==[77,73,78,85,84,69]) && !(x.toList==[79,78])
theorem Me(h:jD x=U6):(x.toList==[78,65,77,69])=U5/\(x.toList==[85,78,73,84,83])=U5/\(x.toList==[77,73,78,85,84,69,83])=U5/\(x.toList==[69,86,69,82,89])=U5/\(x.toList==[73,68])=U5/\(x.toList==[84,73,77,69])=U5/\(x.toList==[68,65,84,69])=U5/\(x.toList==[77,73,78,85,84,69])=U5/\(x.toList==[79,78])=U5:=by
 unfold jD at h;simp only[WN,Zz] at h;obtain⟨⟨⟨⟨⟨⟨⟨⟨u,t⟩,r⟩,o⟩,j⟩,i⟩,f⟩,d⟩,c⟩:=h;exact⟨u,t,r,o,j,i,f,d,c⟩
theorem gZ(x:UU)(h:jD x=U6):aV x=bE x:=by
 obtain⟨u,t,r,o,j,i,f,d,c⟩:=Me h
 funext w
 unfold aV bE;rw[u,t,r,o,j,i,f,d,c];simp only[Vn,if_false];exact BEq.comm
theorem nB(ws:UV UU)(n:UY)(wr:UX)(x:UU):bD ws n wr x=eB ws n wr (bE x):=rfl
theorem nI(h:bD ws st.1 st.2 x=U6):dV st=dI ws (bE x) st:=by
 obtain⟨n,wr⟩:=st;have ht:eB ws n wr (bE x)=U6:=h;simp only[dV,dI,eo,ei,ht,if_true]
theorem wE{w:UU}(h:aB.isNum w.data.toList=U6):bF w 1 7=cL w:=by rw[uR,U1 h];rfl
theorem Ah{w:UU}{c hi:UZ}(h:eM w c hi=U6):aB.isNum w.data.toList=U6/\c<=cL w/\cL w<=hi:=by
 unfold eM at h;simp only[WN,decide_eq_true_eq] at h;exact⟨h.1.1,h.1.2,h.2⟩
theorem KJ{w:UU}(h:bI w=U6):qF w=w:=U1 h
theorem Mx(w:U7)(o:Env w):Va prog 44 #[] w fun e w'=>∃ p d j,e=.returned (.pointer (U4 ⟨p,0,U3⟩))/\BD w' p d gM mS j/\U9 w.heap.size w w'/\(∀ b,b<w.heap.size->j b=U3)/\w.heap.size<=p:=by
 have z:=aC (SU w);have y:=aC o;have t:=o.size;clear o
 go_in
 go_wp2_with (first
  |(go_at_call 60;refine z.y.mono ?_;rintro e c ⟨v,rfl,rfl,h,i⟩))
 have u:Hid (BD (c.alloc (.cells #[.pointer (U4 ⟨w.heap.size+2,0,U3⟩)] 99)) c.heap.size (w.heap.size+2) gM mS (py w.heap.size)/\U9 w.heap.size w (c.alloc (.cells #[.pointer (U4 ⟨w.heap.size+2,0,U3⟩)] 99))/\(∀ b,b<w.heap.size->py w.heap.size b=U3)/\w.heap.size<=c.heap.size):=by
  have k:U9 c.heap.size c (c.alloc (.cells #[.pointer (U4 ⟨w.heap.size+2,0,U3⟩)] 99)):=(zr _ _).alloc (zq _) _;have f:∀ b,b<w.heap.size->py w.heap.size b=U3:=fun b r=>by unfold py;rw[U0 UI,U0 UI,U0 UI]
  exact⟨⟨cC c _,h.dk.none (zq _),⟨h.dk.later k,h.of,h.wl,h.hl,h.inv⟩,(y.y.later i).later k,fun b r=>f b UI⟩,i.trans (k.mono i.size),f,i.size⟩
 clear h i
 go_wp2_with fail
 exact bodyPost_ret (v:=.pointer (U4 ⟨c.heap.size,0,U3⟩)) (by simp[results,results44,go_sem]) rfl ⟨_,_,_,rfl,u.y⟩
end Go.Proofs.YtfigmlfdnickmaaGreatDoor
namespace Go.Proofs.YtfigmlfdnickmaaGreatDoor.Laid
def val:DataW Unit->U8
 |.lit (.int k n)=>.int k n
 |.lit (.string b)=>.string ⟨b.toArray⟩
 |_=>.bool U5
def row:DataW Unit->UV U8
 |.agg l=>l.map val
 |_=>[]
def rows:DataW Unit->UV U8
 |.agg l=>l.flatMap row
 |_=>[]
def text:DataW Unit->U8
 |.iface _ (.ptr (.agg [d]))=>val d
 |_=>.bool U5
def put(l:UV U8):Obj->Obj
 |.cells _ t frozen=>.cells l.toArray t frozen
 |o=>o
def Av(w:U7):U7 :=
 { w with heap:=(((((((((w.heap.modify 1 (put (row Rows.laid_bookings_calendar_monthDays))).modify 0 (put (row Rows.laid_internal_strconv_uint64pow10))).modify 6 (put [.iface 369 (.pointer (U4 ⟨w.heap.size,0,U3⟩))])).modify 7 (put [.iface 369 (.pointer (U4 ⟨w.heap.size+1,0,U3⟩))])).modify 3 (put (row Rows.laid_bookings_lines_weekdays))).modify 4 (put (row Rows.laid_math_bits_deBruijn32tab))).modify 5 (put (row Rows.laid_math_bits_deBruijn64tab))).modify 8 (put (row Rows.laid_unicode_utf8_first))).modify 9 (put (rows Rows.laid_unicode_utf8_acceptRanges))).push (.cells #[text Rows.laid_strconv_ErrSyntax] 371) |>.push (.cells #[text Rows.laid_strconv_ErrRange] 371) }
end Go.Proofs.YtfigmlfdnickmaaGreatDoor.Laid
namespace Go.Proofs.YtfigmlfdnickmaaGreatDoor.datesLaw
open Go.ChangeShapes Go.WideShapes Go.ChangeAt Go.RowKit
theorem own:ownKnob prog.godebug=U3:=UO
theorem OA:laidOutB prog=U6:=UO
theorem Pv:prog.cellsOf 3=1:=UO
theorem A2:prog.cellsOf 9=1:=UO
theorem zI:prog.cellsOf 89=6:=UO
theorem oa{α:Type}{l:UV α}(h:l.length=6):∃ a b c d e f,l=[a,b,c,d,e,f]:=by
 match l,h with
 |[a,b,c,d,e,f],_=>exact⟨a,b,c,d,e,f,rfl⟩
end Go.Proofs.YtfigmlfdnickmaaGreatDoor.datesLaw
namespace Go.Proofs.YtfigmlfdnickmaaGreatDoor.EnvLaid
open Go.ChangeShapes Go.WideShapes Go.ChangeAt Go.RowKit
theorem Ie{P:Program}{name:String}{k:IntKind}{zs:UV UZ}{t e:TypeId}
  (r:P.globalNamed name=U4 g) (d:(P.globals[g]?).map (·.type)=U4 t) (ht:P.underlying t=U4 (.array n e)) (u:P.underlying e=U4 (.int k)) (o:P.cellsOf e=1) (j:P.cellsOf t=n)
  (h:Lib.VarReads P W name (ZM k zs)):Lib.TabIs P W name k zs:=by
 obtain⟨A,z,cs,fuel,p,i,f,c,y⟩:=h;obtain rfl:=WJ (r.symm.trans i);obtain rfl:=WJ (d.symm.trans f);unfold Lib.TabIs;rw[c,<- Lib.cells_of_tab ht u o j y]
theorem Q6{P:Program}{name:String}{zs:UV (UV UInt8)}{t e:TypeId}
  (I:P.globalNamed name=U4 g) (r:(P.globals[g]?).map (·.type)=U4 t) (ht:P.underlying t=U4 (.array n e)) (N:P.underlying e=U4 .string) (D:P.cellsOf e=1)
  (h:Lib.VarReads P W name (.agg (zs.map fun z=>.lit (.string z)))) (i:UY) (z:UV UInt8) (F:zs[i]?=U4 z):W.cell? ⟨g,i,U3⟩=U4 (.string ⟨z.toArray⟩):=by
 obtain⟨Z,X,cs,fuel,p,C,u,f,O⟩:=h;obtain rfl:=WJ (I.symm.trans C);obtain rfl:=WJ (r.symm.trans u);obtain⟨xs,m,_,M,_,J,o⟩:=DataW.trod_array ht O
 have d:zs.map (fun z=>(ZN (.string z):DataW Unit))=xs.map (·.1):=by
  have:=congrArg Prod.fst M
  simpa using this
 have G:zs.length=xs.length:=by
  have:=congrArg List.length d
  simpa using this
 have Y:i<zs.length:=(ZI.1 F).1;have c:xs[i]?=U4 xs[i]:=WS UI;have j:=o i UI;rw[c,D] at j;obtain⟨s,A,y,_⟩:=DataW.trod_string N j
 have V:(xs.map (·.1))[i]?=U4 (ZN (.string z):DataW Unit):=by rw[<- d];simp[F]
 have U:(xs.map (·.1))[i]?=U4 (ZN (.string s.data.toList):DataW Unit):=by simp[c,y]
 have T:z=s.data.toList:=by
  have:=V.symm.trans U
  simpa using this
 have S:cs[i]?=U4 (.string s):=by
  have:=congrArg (·[0]?) A
  simpa[W4,List.getElem?_drop] using this
 rw[World.var?_cell I f i,S,T]
theorem Pm:(prog.globals[0]?).map (·.type)=U4 306:=UO
theorem Px:prog.cellsOf 306=20:=UO
theorem O8:prog.cellsOf 265=1:=UO
theorem Oa : prog.globalNamed "bookings/lines.weekdays" = U4 3 := by kernel_rfl
theorem QS:(prog.globals[3]?).map (·.type)=U4 352:=UO
theorem mB : prog.globalNamed "bookings/calendar.monthDays" = U4 1 := by kernel_rfl
theorem Pk:(prog.globals[1]?).map (·.type)=U4 314:=UO
theorem Pw:prog.cellsOf 314=12:=UO
theorem Ok:prog.cellsOf 3=1:=UO
theorem A2:prog.cellsOf 9=1:=UO
theorem N9 {W: U7} {l: UV (String × DataW Unit)} (hM : laidMet prog l W) (hS : W.ShapedOpen prog) (m1 : ("bookings/calendar.monthDays", Rows.laid_bookings_calendar_monthDays) ∈ l) (m2 : ("internal/strconv.uint64pow10", Rows.laid_internal_strconv_uint64pow10) ∈ l) (m3 : ("bookings/lines.weekdays", Rows.laid_bookings_lines_weekdays) ∈ l) : Env W := by
 have ht : Lib.VarReads prog W "bookings/calendar.monthDays" (ZM .i64 [31, 28, 31, 30, 31, 30, 31, 31, 30, 31, 30, 31]) := Lib.laidMet.reads hM (d := Rows.laid_bookings_calendar_monthDays) m1;have hp : Lib.VarReads prog W "internal/strconv.uint64pow10" (ZM .u64 Lib.pow10Tab) := Lib.laidMet.reads hM (d := Rows.laid_internal_strconv_uint64pow10) m2;have hd : Lib.VarReads prog W "bookings/lines.weekdays" (.agg ([[109, 111], [116, 117], [119, 101], [116, 104], [102, 114], [115, 97], [115, 117]].map fun z => .lit (.string z))) := Lib.laidMet.reads hM (d := Rows.laid_bookings_lines_weekdays) m3;have day:=fun i z hz=>Q6 Oa QS underlying352 underlying9 A2 hd i z hz
 have tb:=Ie mB Pk underlying314 underlying3 Ok Pw ht
 have hsz:10<=W.heap.size:=by
  have h0:(((begin prog (fun _ _=>0) default).world.heap[9]?).bind Obj.row?).isSome=U6:=UO
  obtain⟨⟨zero,t⟩,h1⟩:=Option.isSome_iff_exists.1 h0;obtain⟨cs,hh,_⟩:=hS.1 9 zero t (of_decide_eq_true UO) h1;exact (Array.getElem?_eq_some_iff.1 hh).1
 exact⟨⟨tb.cell mB 0 UK,tb.cell mB 1 UK,tb.cell mB 2 UK,tb.cell mB 3 UK,tb.cell mB 4 UK,tb.cell mB 5 UK,tb.cell mB 6 UK,tb.cell mB 7 UK,tb.cell mB 8 UK,tb.cell mB 9 UK,tb.cell mB 10 UK,tb.cell mB 11 UK⟩,cell_of_shapedOpen_int (zero:=#[.int .i64 0]) (t:=3) hS (of_decide_eq_true UO) UO rfl UO UO underlying3,
  Ie uW Pm underlying306 underlying265 O8 Px hp,hsz,
  day 0 _ rfl,day 1 _ rfl,day 2 _ rfl,day 3 _ rfl,day 4 _ rfl,day 5 _ rfl,day 6 _ rfl⟩
end Go.Proofs.YtfigmlfdnickmaaGreatDoor.EnvLaid
namespace Go.Proofs.YtfigmlfdnickmaaGreatDoor
open Go.RowKit
def bU:UV UU:=[cV,hH,ek,jC,fS,gj]
def jY:UV UU:=[iW,hI]
def lh:UV UU:=[ix,hI,lg]
def mq:UV UU:=[jI,hI]
def iM:UV UU:=[iT,hI]
def mN:UV UU:=[js,hH]
def gY:UV (UV UU):=[jY,lh,mq]
def ends:UV (UV UU):=[iM,mN]
def jj(H:UV UU):UV (UV UU):=gY.flatMap fun K=>ends.map fun E=>H++K++bU++E
def mu:UV UU:=[ic,cD,eO]
def nw:UV UU:=[iZ]
def mw:UV (UV UU):=[[kv,cD,eO],[kn,cD,eO,bG,bG],[qA,cD,eO,bG,bG,gj],[qD,cD,eO,bG,bG,gj],[qR,mj],[kr,mj],[dY,cD],[dY,cD,bG,bG],[qM],[km,cD,bG,bG],[ki,cD,eO,gj,bG,bG],[qC,gj],[kL]]++jj mu++jj nw
theorem K9:mO=mw:=UM
theorem La:∀ p∈mw,p≠[]:=UM
def nE(k:UU)(p:UV UU):UX:=aV (p.headD Yy) k
theorem zJ(h:bD ws 0 U5 k=U6):∃ t,ws=k :: t:=by
 rw[nB] at h;obtain⟨_,d,c⟩:=mz h;have e:=og c
 match ws,d with
 |a :: t,_=>exact⟨t,by rw[show a=k from e]⟩
theorem Ew{t:UV UU}(f:aB.aP s=k :: t):jk s=scan (mw.filter (nE k)) (aB.aP s) 0:=by
 unfold jk;rw[K9,EP _ (nE k) mw 0];intro p h d;have c:=La p h;refine⟨?_,c⟩
 match p,c,d with
 |a :: p',_,d =>
  have e:aV a k=U5:=d;rw[f,pre,e];rfl
theorem kB(h:bD ws 0 U5 k=U6)(c:jD k=U6)(p:UV UU):aQ ws (p.map aV) (1,U5)=aQ ws ((k :: p).map aV) (0,U5):=by
 have e:dI ws (aV k) (0,U5)=(1,U5):=by
  obtain⟨_,f,d⟩:=mz (nB ws 0 U5 k ▸ h);rw[gZ k c];exact Fq f d
 show _=aQ ws (p.map aV) (dI ws (aV k) (0,U5));rw[e]
theorem Dw(h:aQ ws (q.map aV) (0,U5)=st):Sum [q] ws st q:=by
 obtain⟨n,b⟩:=st;have d:=nF h;have one:∀ p∈[q],p=q:=fun p d=>Yo.1 d
 refine⟨Yo.2 rfl,fun p c=>by rw[one p c];exact ZO d,d,fun i p c e=>?_,fun i=>⟨?_,fun p c f=>U2 (one p c) f⟩⟩
 ·cases i
  rw[one p c] at e;have:=uA h;omega
 ·cases i
  rw[d];exact qh h
theorem uG:∀ (Q R ws:UV UU),pre Q ws<=pre (Q++R) ws
 |[],_,_=>by simp[pre]
 |_ :: _,_,[]=>by simp[pre]
 |s :: Q,R,w :: ws=>by
  have:=uG Q R ws;simp only[List.cons_append,pre]
  split <;> omega
theorem Ml(h:aQ ws ([dY,cD].map aV) (0,U5)=st)(o:cB ws.length st.1 st.2=U5):Sum [[dY,cD],[dY,cD,bG,bG]] ws st [dY,cD]:=by
 obtain⟨n,b⟩:=st;have d:=nF h;have u:=(rS [dY,cD,bG,bG] ws).2
 have r:pre [dY,cD,bG,bG] ws<=n:=by
  cases b
  ·have:¬ n<ws.length:=by simpa[cB] using o
   omega
  ·exact ZO (Dm [bG,bG] h)
 have t:n<=2:=by have:=(rS [dY,cD] ws).1;rw[d] at this;exact this
 refine⟨by simp,?_,d,?_,?_⟩
 ·intro p c;rcases Vq.1 c with rfl|c
  ·exact ZO d
  ·rw[Yo.1 c];exact r
 ·intro i p c e
  cases i
  have j:n<2:=uA h;rcases Vq.1 c with rfl|c
  ·rw[d] at e;exact U2 e.1 (by show ¬ n=2;omega)
  ·rw[Yo.1 c] at e;exact U2 e.1 (by show ¬ _=4;omega)
 ·intro i
  cases i
  refine⟨d.trans (qh h),fun p c f e=>?_⟩;rcases Vq.1 c with rfl|c
  ·exact f rfl
  ·rw[Yo.1 c] at e;exact U2 e.1 (by show ¬ _=4;omega)
theorem Mm{d:UY × UX}(h:aQ ws ([dY,cD].map aV) (0,U5)=st)(z:cB ws.length st.1 st.2=U6)(t:aQ ws ([dY,cD,bG,bG].map aV) (0,U5)=d):Sum [[dY,cD],[dY,cD,bG,bG]] ws d [dY,cD,bG,bG]:=by
 obtain⟨n,b⟩:=st;obtain⟨u,D⟩:=d;have A:=nF h;have f:=nF t;have i:=pM z;have o:pre [dY,cD] ws<=pre [dY,cD,bG,bG] ws:=uG [dY,cD] [bG,bG] ws;refine⟨by simp,?_,f,?_,?_⟩
 ·intro p c;rcases Vq.1 c with rfl|c
  ·show _<=u;omega
  ·rw[Yo.1 c];exact ZO f
 ·intro r p c e
  cases r
  have y:u<4:=uA t;rcases Vq.1 c with rfl|c
  ·have:n<ws.length:=i;omega
  ·rw[Yo.1 c] at e;have C:pre [dY,cD,bG,bG] ws=4:=e.1;omega
 ·intro r
  cases r
  refine⟨f.trans (qh t),fun p c j e=>?_⟩;rcases Vq.1 c with rfl|c
  ·have:n<ws.length:=i;omega
  ·exact j (Yo.1 c)
theorem zv(h:p∈jj H):∃ K∈gY,∃ E∈ends,p=H++K++bU++E:=by
 unfold jj at h;simp only[ZP,V9] at h;obtain⟨K,c,E,d,rfl⟩:=h;exact⟨K,c,E,d,rfl⟩
theorem zi(c:K∈gY)(d:E∈ends):H++K++bU++E∈jj H:=by
 unfold jj;simp only[ZP,V9];exact⟨K,c,E,d,rfl⟩
theorem Kp(h:K∈gY):∃ K',K=K.headD Yy :: K':=by
 simp only[gY,Vq,ZQ,or_false] at h;rcases h with rfl|rfl|rfl
 ·exact⟨[hI],rfl⟩
 ·exact⟨[hI,lg],rfl⟩
 ·exact⟨[hI],rfl⟩
theorem Kc(h:E∈ends):∃ E',E=E.headD Yy :: E':=by
 simp only[ends,Vq,ZQ,or_false] at h;rcases h with rfl|rfl
 ·exact⟨[hI],rfl⟩
 ·exact⟨[hH],rfl⟩
theorem zk(f:K∈gY)(c:aQ ws (H.map aV) (0,U5)=(n,U5))(d:eB ws n U5 (aV (K.headD Yy))=U5):pre (H++K++bU++E) ws=n/\n<(H++K++bU++E).length:=by
 obtain⟨K',e⟩:=Kp f;have i:=qh c
 have h:H++K++bU++E=H++K.headD Yy :: (K'++bU++E):=by
  conv=>lhs;rw[e]
  simp
 rw[h];exact⟨C8 _ c d,by simp;omega⟩
theorem C7(f:E∈ends)(c:aQ ws (Q.map aV) (0,U5)=(n,U5))(d:eB ws n U5 (aV (E.headD Yy))=U5):pre (Q++E) ws=n/\n<(Q++E).length:=by
 obtain⟨i,e⟩:=Kc f;have h:=qh c;rw[e];exact⟨C8 _ c d,by simp;omega⟩
theorem CZ(c:aQ ws (Q.map aV) (0,U5)=(n,U6)):pre (Q++E) ws=n/\n<(Q++E).length:=by
 have:=uA c;exact⟨Dm _ c,by simp;omega⟩
theorem Dl(S:K∈gY)(T:E∈ends)(A:aQ ws (H.map aV) (0,U5)=(n,U5))
  (O:∀ u∈gY,u≠K->eB ws n U5 (aV (u.headD Yy))=U5) (C:aQ ws ((H++K++bU).map aV) (0,U5)=(m,U5))
  (P:∀ i∈ends,i≠E->eB ws m U5 (aV (i.headD Yy))=U5) (f:aQ ws ((H++K++bU++E).map aV) (0,U5)=st):Sum (jj H) ws st (H++K++bU++E):=by
 obtain⟨l,b⟩:=st;have j:=nF f
 have M:n<=l:=by
  have t:=uG H (K++bU++E) ws;rw[nF A,<- VP,<- VP,j] at t;exact t
 have N:m<=l:=by
  have t:=uG (H++K++bU) E ws;rw[nF C,j] at t;exact t
 have d:∀ p∈jj H,p=H++K++bU++E\/(pre p ws<=l/\pre p ws<p.length):=by
  intro p c;obtain⟨u,o,i,r,rfl⟩:=zv c
  by_cases G:u=K
  ·subst G
   by_cases F:i=E
   ·subst F;exact .inl rfl
   ·obtain⟨J,I⟩:=C7 r C (P i r F);exact .inr ⟨by omega,by omega⟩
  ·obtain⟨J,I⟩:=zk (E:=i) o A (O u o G);exact .inr ⟨by omega,by omega⟩
 refine⟨zi S T,fun p c=>?_,j,fun z p c e=>?_,fun z=>⟨?_,fun p c y e=>?_⟩⟩
 ·rcases d p c with rfl|h
  ·exact ZO j
  ·exact h.1
 ·cases z
  have D:=uA f;rcases d p c with rfl|h
  ·omega
  ·omega
 ·cases z;exact j.trans (qh f)
 ·rcases d p c with h|h
  ·exact y h
  ·omega
theorem Kl(J:K∈gY)(t:aQ ws (H.map aV) (0,U5)=(n,U5))
  (F:∀ o∈gY,o≠K->eB ws n U5 (aV (o.headD Yy))=U5) (r:aQ ws ((H++K++bU).map aV) (0,U5)=(m,b))
  (G:∀ f∈ends,eB ws m b (aV (f.headD Yy))=U5):Sum (jj H) ws (m,U6) (H++K++bU++iM):=by
 have u:iM∈ends:=by simp[ends]
 have D:n<=m:=by
  have y:=uG H (K++bU) ws;rw[nF t,<- VP,nF r] at y;exact y
 have h:∀ f∈ends,pre (H++K++bU++f) ws=m/\m<(H++K++bU++f).length:=by
  intro f d
  cases b
  ·exact C7 d r (G f d)
  ·exact CZ r
 have i:∀ p∈jj H,pre p ws<=m/\pre p ws<p.length:=by
  intro p c;obtain⟨o,j,f,d,rfl⟩:=zv c
  by_cases z:o=K
  ·subst z;obtain⟨C,A⟩:=h f d;exact⟨by omega,by omega⟩
  ·obtain⟨C,A⟩:=zk (E:=f) j t (F o j z);exact⟨by omega,by omega⟩
 exact⟨zi J u,fun p c=>(i p c).1,(h iM u).1,fun _ p c e=>by have:=i p c;omega,fun I=>U2 I UJ⟩
theorem Ks(o:aQ ws (H.map aV) (0,U5)=(n,b))
  (u:∀ f∈gY,eB ws n b (aV (f.headD Yy))=U5):Sum (jj H) ws (n,U6) (H++jY++bU++iM):=by
 have r:jY∈gY:=by simp[gY]
 have z:iM∈ends:=by simp[ends]
 have h:∀ f∈gY,∀ i:UV UU,pre (H++f++bU++i) ws=n/\n<(H++f++bU++i).length:=by
  intro f d i
  cases b
  ·exact zk d o (u f d)
  ·have t:=CZ (E:=f++bU++i) o;rw[<- VP,<- VP] at t;exact t
 have j:∀ p∈jj H,pre p ws<=n/\pre p ws<p.length:=by
  intro p c;obtain⟨f,d,i,_,rfl⟩:=zv c;obtain⟨C,A⟩:=h f d i;exact⟨by omega,by omega⟩
 exact⟨zi r z,fun p c=>(j p c).1,(h jY r iM).1,fun _ p c e=>by have:=j p c;omega,fun y=>U2 y UJ⟩
theorem oV(h:aQ ws ((Q++s :: R).map aV) (0,U5)=(n,U5))(V:UU->UZ):bT ws (aQ ws (Q.map aV) (0,U5)) (aV s) V=V (ws.getD Q.length Yy):=by
 rw[zw h];unfold bT fh;rw[U1 (uF h)]
theorem jZ(h:aQ ws ((Q++s :: R).map aV) (0,U5)=(n,U5)):aV s (ws.getD Q.length Yy)=U6:=(mz (uF h)).2.2
theorem Km:jY.map aV=[bE iW,eu]:=by
 simp only[jY,Zx,pY,gZ iW UM]
theorem Ko:lh.map aV=[bE ix,eu,aB.dU]:=by
 simp only[lh,Zx,pY,CX,gZ ix UM]
theorem Kn:mq.map aV=[bE jI,eu]:=by
 simp only[mq,Zx,pY,gZ jI UM]
theorem Ka:iM.map aV=[bE iT,eu]:=by
 simp only[iM,Zx,pY,gZ iT UM]
theorem Kb:mN.map aV=[bE js,aB.cM]:=by
 simp only[mN,Zx,wk,gZ js UM]
theorem J6:bU.map aV=[bE cV,aB.cM,bE ek,aB.dA,bE fS,eK]:=by
 simp only[bU,Zx,wk,CW,s7,gZ cV UM,gZ ek UM,gZ fS UM]
inductive wm (ws:UV UU) (c:UY):UZ->UZ->UV UZ->UV UU->Prop where
 |daily (h0:ws.getD c Yy=iW) (h:eu (ws.getD (c+1) Yy)=U6):wm ws c 1 (cL (ws.getD (c+1) Yy)) [] jY
 |weekly (acc:UV UZ) (h0:ws.getD c Yy=ix) (h:eu (ws.getD (c+1) Yy)=U6) (ho:aB.iq (ws.getD (c+2) Yy)=U4 acc):wm ws c 2 (cL (ws.getD (c+1) Yy)) acc lh
 |monthly (h0:ws.getD c Yy=jI) (h:eu (ws.getD (c+1) Yy)=U6):wm ws c 3 (cL (ws.getD (c+1) Yy)) [] mq
inductive wg (ws:UV UU) (d:UY):UZ->UZ->UV UU->Prop where
 |times (h0:ws.getD d Yy=iT) (h:eu (ws.getD (d+1) Yy)=U6):wg ws d (cL (ws.getD (d+1) Yy)) 0 iM
 |til (h0:ws.getD d Yy=js) (h:aB.cM (ws.getD (d+1) Yy)=U6):wg ws d 0 (fT (ws.getD (d+1) Yy)) mN
structure CV(ws:UV UU)(d:UY)(fr mn mi:UZ):Prop where
 h0:ws.getD d Yy=cV
 h1:aB.cM (ws.getD (d+1) Yy)=U6
 h2:ws.getD (d+2) Yy=ek
 h3:aB.dA (ws.getD (d+3) Yy)=U6
 h4:ws.getD (d+4) Yy=fS
 h5:eK (ws.getD (d+5) Yy)=U6
 UH:fr=fT (ws.getD (d+1) Yy)
 UE:mn=aB.fo (ws.getD (d+3) Yy)
 UF:mi=cL (ws.getD (d+5) Yy)
structure CY(H ws:UV UU)(pc ev:UZ)(acc:UV UZ)(fr mn mi ti un:UZ)(K E:UV UU):Prop where
 UG:wm ws H.length pc ev acc K
 aS:CV ws (H.length+K.length) fr mn mi
 end_:wg ws (H.length+K.length+6) ti un E
theorem uJ{y:UU}(h:bD ws n wr x=U6)(c:aV y x=U5):eB ws n U5 (aV y)=U5:=by
 obtain⟨_,_,d⟩:=mz (nB ws n wr x ▸ h);have e:=og d;exact Do (by rw[e];exact c)
theorem J7:∀ c∈gY,c≠jY->aV (c.headD Yy) iW=U5:=UM
theorem Kg:∀ c∈gY,c≠lh->aV (c.headD Yy) ix=U5:=UM
theorem J8:∀ c∈gY,c≠mq->aV (c.headD Yy) jI=U5:=UM
theorem J9:∀ c∈ends,c≠iM->aV (c.headD Yy) iT=U5:=UM
theorem Kf:∀ c∈ends,c≠mN->aV (c.headD Yy) js=U5:=UM
theorem zG{s:UY × UX}(J:s=aQ ws ((H++K).map aV) (0,U5))(h:aQ ws ((H++K++bU++E).map aV) (0,U5)=(n,U5)):
  CV ws (H.length+K.length) (bT ws (aQ ws [bE cV] s) aB.cM fT) (bT ws (aQ ws [bE cV,aB.cM,bE ek] s) aB.dA aB.fo) (bT ws (aQ ws [bE cV,aB.cM,bE ek,aB.dA,bE fS] s) eK cL):=by
 have O:=gZ cV UM;have N:=gZ ek UM;have M:=gZ fS UM;have T:H++K++bU++E=(H++K)++cV :: ([hH,ek,jC,fS,gj]++E):=by simp[bU]
 have A:H++K++bU++E=(H++K++[cV])++hH :: ([ek,jC,fS,gj]++E):=by simp[bU]
 have S:H++K++bU++E=(H++K++[cV,hH])++ek :: ([jC,fS,gj]++E):=by simp[bU]
 have z:H++K++bU++E=(H++K++[cV,hH,ek])++jC :: ([fS,gj]++E):=by simp[bU]
 have P:H++K++bU++E=(H++K++[cV,hH,ek,jC])++fS :: ([gj]++E):=by simp[bU]
 have y:H++K++bU++E=(H++K++[cV,hH,ek,jC,fS])++gj :: E:=by simp[bU]
 have I:(H++K).length=H.length+K.length:=UJ
 have l1:(H++K++[cV]).length=H.length+K.length+1:=by simp;omega
 have G:(H++K++[cV,hH]).length=H.length+K.length+2:=by simp;omega
 have F:(H++K++[cV,hH,ek]).length=H.length+K.length+3:=by simp;omega
 have D:(H++K++[cV,hH,ek,jC]).length=H.length+K.length+4:=by simp;omega
 have C:(H++K++[cV,hH,ek,jC,fS]).length=H.length+K.length+5:=by simp;omega
 have u:=jZ (T ▸ h);have t:=jZ (A ▸ h);have r:=jZ (S ▸ h);have o:=jZ (z ▸ h);have j:=jZ (P ▸ h);have i:=jZ (y ▸ h);have f:=oV (A ▸ h) fT;have d:=oV (z ▸ h) aB.fo;have c:=oV (y ▸ h) cL;rw[We,kF,<- J] at f d c;simp only[Zx,O,N,M,wk,CW,s7] at u t r o j i f d c;rw[I] at u;rw[l1] at t f;rw[G] at r;rw[F] at o d;rw[D] at j;rw[C] at i c;exact⟨og u,t,og r,o,og j,i,f,d,c⟩
theorem Ab{s:UY × UX}(G:K∈gY)(C:aQ ws (H.map aV) (0,U5)=(n,U5))
  (D:∀ O∈gY,O≠K->eB ws n U5 (aV (O.headD Yy))=U5) (P:s=aQ ws ((H++K).map aV) (0,U5)) (N:nL ws (mA ws s) ti un s'):
  ∃ E,Sum (jj H) ws s' (H++K++bU++E)/\(s'.2=U5->aQ ws ((H++K++bU++E).map aV) (0,U5)=s'/\wg ws (H.length+K.length+6) ti un E):=by
 have u:mA ws s=aQ ws ((H++K++bU).map aV) (0,U5):=by
  unfold mA;rw[<- J6,We (l₁:=H++K),kF,<- P]
 obtain⟨m,b,j⟩:∃ m b,aQ ws ((H++K++bU).map aV) (0,U5)=(m,b):=⟨_,_,rfl⟩;have M:(H++K++bU).length=H.length+K.length+6:=by simp[bU];omega
 rw[u,j] at N
 cases N with
 |times h =>
  have F:b=U5:=(mz (nB ws m b iT ▸ h)).1;subst F
  have c:aQ ws ((H++K++bU++iM).map aV) (0,U5)=aQ ws [eu] (dV (m,U5)):=by
   rw[We,kF,j,Ka,nI h];rfl
  refine⟨iM,Dl G (by simp[ends]) C D j (fun A f o=>uJ h (J9 A f o)) c,fun y=>⟨c,?_⟩⟩;obtain⟨l,d⟩:∃ l,aQ ws ((H++K++bU++iM).map aV) (0,U5)=(l,U5):=⟨_,by rw[c];exact ZF rfl y⟩;have z:H++K++bU++iM=(H++K++bU++[iT])++hI :: []:=by simp[iM]
  have J:H++K++bU++iM=(H++K++bU)++iT :: [hI]:=by simp[iM]
  have t:=jZ (J ▸ d);have r:=jZ (z ▸ d);have i:=oV (z ▸ d) cL;rw[We,kF,j] at i;have lt:=gZ iT UM;simp only[Zx,lt,pY] at t r i;have I:aQ ws [bE iT] (m,U5)=dV (m,U5):=(nI h).symm;rw[I] at i;have l1:(H++K++bU++[iT]).length=H.length+K.length+6+1:=by simp[bU];omega
  rw[l1] at r i;rw[M] at t;rw[i];exact .times (og t) r
 |til h1 h =>
  have F:b=U5:=(mz (nB ws m b js ▸ h)).1;subst F
  have c:aQ ws ((H++K++bU++mN).map aV) (0,U5)=aQ ws [aB.cM] (dV (m,U5)):=by
   rw[We,kF,j,Kb,nI h];rfl
  refine⟨mN,Dl G (by simp[ends]) C D j (fun A f o=>uJ h (Kf A f o)) c,fun y=>⟨c,?_⟩⟩;obtain⟨l,d⟩:∃ l,aQ ws ((H++K++bU++mN).map aV) (0,U5)=(l,U5):=⟨_,by rw[c];exact ZF rfl y⟩;have z:H++K++bU++mN=(H++K++bU++[js])++hH :: []:=by simp[mN]
  have J:H++K++bU++mN=(H++K++bU)++js :: [hH]:=by simp[mN]
  have t:=jZ (J ▸ d);have r:=jZ (z ▸ d);have i:=oV (z ▸ d) fT;rw[We,kF,j] at i;have lt:=gZ js UM;simp only[Zx,lt,wk] at t r i;have I:aQ ws [bE js] (m,U5)=dV (m,U5):=(nI h).symm;rw[I] at i;have l1:(H++K++bU++[js]).length=H.length+K.length+6+1:=by simp[bU];omega
  rw[l1] at r i;rw[M] at t;rw[i];exact .til (og t) r
 |none h1 h =>
  refine⟨iM,Kl G C D j ?_,fun y=>U2 y UJ⟩;intro A f;simp only[ends,Vq,ZQ,or_false] at f;rcases f with rfl|rfl
  ·show eB ws m b (aV iT)=U5;rw[gZ iT UM];exact h1
  ·show eB ws m b (aV js)=U5;rw[gZ js UM];exact h
theorem wI{ev:UZ}(N:kl ws (aQ ws (H.map aV) (0,U5)) pc ev acc fr mn mi ti un s'):
  ∃ q,Sum (jj H) ws s' q/\(s'.2=U5->∃ K E,q=H++K++bU++E/\aQ ws (q.map aV) (0,U5)=s'/\CY H ws pc ev acc fr mn mi ti un K E):=by
 obtain⟨n,b,r⟩:∃ n b,aQ ws (H.map aV) (0,U5)=(n,b):=⟨_,_,rfl⟩;rw[r] at N
 cases N with
 |mk s _ _ _ hp he =>
  cases hp with
  |daily h =>
   have G:b=U5:=(mz (nB ws n b iW ▸ h)).1;subst G
   have u:aQ ws [eu] (dV (n,U5))=aQ ws ((H++jY).map aV) (0,U5):=by
    rw[We,kF,r,Km,nI h];rfl
   obtain⟨E,A,j⟩:=Ab (K:=jY) (by simp[gY]) r (fun C i o=>uJ h (J7 C i o)) u he;refine⟨_,A,fun d=>⟨jY,E,rfl,(j d).1,?_,?_,(j d).2⟩⟩
   ·have c:aQ ws ((H++jY++bU++E).map aV) (0,U5)=(s'.1,U5):=by rw[(j d).1];exact ZF rfl d
    have J:H++jY++bU++E=H++iW :: ([hI]++bU++E):=by simp[jY]
    have y:H++jY++bU++E=(H++[iW])++hI :: (bU++E):=by simp[jY]
    have z:=jZ (J ▸ c);have t:=jZ (y ▸ c);have f:=oV (y ▸ c) cL;have lt:=gZ iW UM;rw[We,kF,r] at f;simp only[Zx,lt,pY] at z t f;have I:aQ ws [bE iW] (n,U5)=dV (n,U5):=(nI h).symm;rw[I] at f;have l1:(H++[iW]).length=H.length+1:=UJ
    rw[l1] at t f;rw[f];exact .daily (og z) t
   ·exact zG (E:=E) (n:=s'.1) u (by rw[(j d).1];exact ZF rfl d)
  |weekly h1 h acc ha =>
   have G:b=U5:=(mz (nB ws n b ix ▸ h)).1;subst G
   have u:aQ ws [eu,aB.dU] (dV (n,U5))=aQ ws ((H++lh).map aV) (0,U5):=by
    rw[We,kF,r,Ko,nI h];rfl
   obtain⟨E,A,j⟩:=Ab (K:=lh) (by simp[gY]) r (fun C i o=>uJ h (Kg C i o)) u he;refine⟨_,A,fun d=>⟨lh,E,rfl,(j d).1,?_,?_,(j d).2⟩⟩
   ·have c:aQ ws ((H++lh++bU++E).map aV) (0,U5)=(s'.1,U5):=by rw[(j d).1];exact ZF rfl d
    have J:H++lh++bU++E=H++ix :: ([hI,lg]++bU++E):=by simp[lh]
    have y:H++lh++bU++E=(H++[ix])++hI :: ([lg]++bU++E):=by simp[lh]
    have O:H++lh++bU++E=(H++[ix,hI])++lg :: (bU++E):=by simp[lh]
    have z:=jZ (J ▸ c);have t:=jZ (y ▸ c);have M:=uF (O ▸ c);have D:=zw (O ▸ c);have f:=oV (y ▸ c) cL;have lt:=gZ ix UM;rw[We,kF,r] at f D;simp only[Zx,lt,pY,CX] at z t M D f;have I:aQ ws [bE ix] (n,U5)=dV (n,U5):=(nI h).symm;have S:aQ ws [bE ix,eu] (n,U5)=aQ ws [eu] (dV (n,U5)):=by rw[nI h];rfl
    rw[I] at f;rw[S] at D;have l1:(H++[ix]).length=H.length+1:=UJ
    have P:(H++[ix,hI]).length=H.length+2:=UJ
    rw[l1] at t f;rw[P] at M D;rw[D] at ha;rw[f];exact .weekly acc (og z) t (ha M)
   ·exact zG (E:=E) (n:=s'.1) u (by rw[(j d).1];exact ZF rfl d)
  |monthly h1 h1' h =>
   have G:b=U5:=(mz (nB ws n b jI ▸ h)).1;subst G
   have u:aQ ws [eu] (dV (n,U5))=aQ ws ((H++mq).map aV) (0,U5):=by
    rw[We,kF,r,Kn,nI h];rfl
   obtain⟨E,A,j⟩:=Ab (K:=mq) (by simp[gY]) r (fun C i o=>uJ h (J8 C i o)) u he;refine⟨_,A,fun d=>⟨mq,E,rfl,(j d).1,?_,?_,(j d).2⟩⟩
   ·have c:aQ ws ((H++mq++bU++E).map aV) (0,U5)=(s'.1,U5):=by rw[(j d).1];exact ZF rfl d
    have J:H++mq++bU++E=H++jI :: ([hI]++bU++E):=by simp[mq]
    have y:H++mq++bU++E=(H++[jI])++hI :: (bU++E):=by simp[mq]
    have z:=jZ (J ▸ c);have t:=jZ (y ▸ c);have f:=oV (y ▸ c) cL;have lt:=gZ jI UM;rw[We,kF,r] at f;simp only[Zx,lt,pY] at z t f;have I:aQ ws [bE jI] (n,U5)=dV (n,U5):=(nI h).symm;rw[I] at f;have l1:(H++[jI]).length=H.length+1:=UJ
    rw[l1] at t f;rw[f];exact .monthly (og z) t
   ·exact zG (E:=E) (n:=s'.1) u (by rw[(j d).1];exact ZF rfl d)
  |none h1 d h =>
   have F:mA ws (n,U6)=(n,U6):=by unfold mA;exact qo ws _ n
   have A:Sum (jj H) ws (n,U6) (H++jY++bU++iM):=by
    refine Ks r ?_;intro C i;simp only[gY,Vq,ZQ,or_false] at i;rcases i with rfl|rfl|rfl
    ·show eB ws n b (aV iW)=U5;rw[gZ iW UM];exact h1
    ·show eB ws n b (aV ix)=U5;rw[gZ ix UM];exact d
    ·show eB ws n b (aV jI)=U5;rw[gZ jI UM];exact h
   rw[F] at he
   cases he with
   |times h=>exact U2 (mz (nB ws n U6 iT ▸ h)).1 UK
   |til _ h=>exact U2 (mz (nB ws n U6 js ▸ h)).1 UK
   |none _ _=>exact⟨_,A,fun d=>U2 d UJ⟩
theorem lL(h:bD ws 0 U5 k=U6)(d:jD k=U6)(c:aQ ws ((k :: (Q++s :: R)).map aV) (0,U5)=(n,U5))(V:UU->UZ):bT ws (aQ ws (Q.map aV) (1,U5)) (aV s) V=V (ws.getD (Q.length+1) Yy):=by
 rw[kB h d];exact oV (Q:=k :: Q) c V
theorem lj(Q:UV UU)(c:aQ ws ((k :: (Q++s :: R)).map aV) (0,U5)=(n,U5)):aV s (ws.getD (Q.length+1) Yy)=U6:=jZ (Q:=k :: Q) c
theorem rI(c:aQ ws ((k :: cD :: R).map aV) (0,U5)=(n,U5)):gV ws (1,U5)=ws.getD 1 Yy:=by
 have h:=uF (Q:=[k]) (s:=cD) (R:=R) c;rw[gS] at h;have d:=(mz h).2.2;unfold gV mg;rw[U1 (show eB ws 1 U5 (fun s=>aB.fc s.data.toList)=U6 from h)];exact KJ d
structure Full(s:UU)(p:UV UU):Prop where
 sc:jk s=(U4 p,0)
 all:aQ (aB.aP s) (p.map aV) (0,U5)=(p.length,U5)
 len:(aB.aP s).length=p.length
theorem uH(h:bD (aB.aP s) 0 U5 k=U6)(u:mw.filter (nE k)=ps)(j:Sum ps (aB.aP s) st q)(c:aQ (aB.aP s) (q.map aV) (0,U5)=st)(o:st.2=U5)(i:cB (aB.aP s).length st.1 st.2=U5):Full s q:=by
 obtain⟨t,ht⟩:=zJ h;obtain⟨n,b⟩:=st;have r:=j.at_;have y:=(rS q (aB.aP s)).2;have z:¬ n<(aB.aP s).length:=by simpa[cB,show b=U5 from o] using i
 have f:b=U5:=o;subst f;have d:=qh c;refine⟨(Ew ht).trans (by rw[u];exact j.yes rfl i),by rw[c,d],?_⟩;have:pre q (aB.aP s)=n:=r;omega
theorem uI(h:bD (aB.aP s) 0 U5 k=U6)(c:mw.filter (nE k)=ps)(f:Sum ps (aB.aP s) st q)(d:st.2=U6\/cB (aB.aP s).length st.1 st.2=U6):jk s=(U3,st.1):=by
 obtain⟨t,ht⟩:=zJ h;rw[Ew ht,c];exact f.no d
theorem KE(h:bD ws 0 U5 k=U6):ws.getD 0 Yy=k:=by
 obtain⟨t,ht⟩:=zJ h;rw[ht];rfl
def qi(s:UU)(st:UY × UX):Prop:=st.2=U6\/cB (aB.aP s).length st.1 st.2=U6->jk s=(U3,st.1)
theorem Ln(h:bD (aB.aP s) 0 U5 ic=U6){ev:UZ}(d:kl (aB.aP s) (aQ (aB.aP s) [bI,dE] (1,U5)) pc ev acc fr mn mi ti un st):qi s st:=by
 have f:jD ic=U6:=UM
 have i:mw.filter (nE ic)=jj mu:=UM
 have c:aQ (aB.aP s) (mu.map aV) (0,U5)=(aQ (aB.aP s) [bI,dE] (1,U5)):=by
  unfold mu;rw[<- kB h f];simp only[Zx,gS,lK]
 rw[<- c] at d;obtain⟨q,j,o⟩:=wI d;exact uI h i j
theorem Lf(h:bD (aB.aP s) 0 U5 iZ=U6){ev:UZ}(d:kl (aB.aP s) (1,U5) pc ev acc fr mn mi ti un st):qi s st:=by
 have f:jD iZ=U6:=UM
 have i:mw.filter (nE iZ)=jj nw:=UM
 have c:aQ (aB.aP s) (nw.map aV) (0,U5)=(1,U5):=by
  unfold nw;rw[<- kB h f];rfl
 rw[<- c] at d;obtain⟨q,j,o⟩:=wI d;exact uI h i j
end Go.Proofs.YtfigmlfdnickmaaGreatDoor
