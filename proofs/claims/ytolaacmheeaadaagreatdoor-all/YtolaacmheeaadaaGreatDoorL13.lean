import Derived.Test.YtolaacmheeaadaaGreatDoorL12
set_option maxRecDepth 100000
set_option maxHeartbeats 8000000
open Go.Proofs.Tryz
open _root_ renaming ByteArray->Us,List->Ut,Nat->Uw,Int->Ux,Int->N,Nat->M
open Option renaming none->UB,some->UC,some->U
open Bool renaming false->UD,true->UE
open Go renaming World->UF,Value->UG,Calls->UI
open Go.RowKit renaming Below->UH
open ByteArray renaming empty->Ym
open List renaming mem_map->VQ,length_map->We,getElem?_eq_getElem->Wx,length_cons->VB,length_nil->VG,cons_append->Vm,getElem?_map->XT
open Nat renaming le_trans->U0
open Go.Code renaming wp->YD
open And renaming intro->Vf
open Int renaming tmod_eq_emod_of_nonneg->YM
open Go.IntKind renaming i64->UV,i64->Y
open Array renaming getElem?_eq_some_iff->YC
open List.cons renaming injEq->WY
open Go.Value renaming int->UL,pointer->UM,slice->UO,string->UQ,int->V
open Go.Ending renaming returned->UW
namespace Go.Proofs.YtolaacmheeaadaaGreatDoor
variable{t:Us}{xs:Ut (aA.aQ × Uw × Uw)}{l:Ut (aA.aQ × UG)}{F:Ut Uw}{Q R cap d:Uw}{aM:Uw->Option bO}{a0:Option Addr}{r:Raw}{s:aA.St}{u1 u2 u3 u4 v z1 z2 z3 z4:UG}{w w':UF}
open Go.RowKit
open aA (aQ St bS Inv aX jE)
def GO(t:Us):(N × N) ⊕ aA.jb->Prop
 |.inl (er,at_)=>(160<t.size/\er=1/\at_=0)\/(t.size<=160/\∃ m:M,kH t=(UB,m)/\er=2/\at_=m)
 |.inr l=>t.size<=160/\∃ q,Full t q/\mb (Txt.aC t) q l/\aA.ke l
def np(s:St):(N × N) ⊕ aA.jb->St × bS
 |.inl (er,at_)=>(s,⟨er,at_,0,[],[],[],[]⟩)
 |.inr l=>jE s l
theorem N7(t:Us):∃ v st,jq (Txt.aC t) v st/\nf t v st:=by
 by_cases z:bP (Txt.aC t) 0 UD ix=UE;exact⟨_,_,.bH z,Rn z⟩;by_cases y:bP (Txt.aC t) 0 UD iO=UE;exact⟨_,_,.book y,Qx y⟩;by_cases x:bP (Txt.aC t) 0 UD iE=UE;exact⟨_,_,.hold x,Og x⟩;by_cases u:bP (Txt.aC t) 0 UD iF=UE;exact⟨_,_,.wait u,Oa u⟩;by_cases q:bP (Txt.aC t) 0 UD eQ=UE;let⟨pc,ev,acc,fr,mn,mi,ti,un,st,hr⟩:=GS (Txt.aC t) (aP (Txt.aC t) [bJ,cF] (1,UD));exact⟨_,_,.series q pc ev acc fr mn mi ti un st hr,Pp q hr⟩;by_cases p:bP (Txt.aC t) 0 UD iU=UE;exact⟨_,_,.bL p,PH p⟩;by_cases o:bP (Txt.aC t) 0 UD iR=UE;exact⟨_,_,.cancel o,Ru o⟩;by_cases g:bP (Txt.aC t) 0 UD dC=UE
 .cases h:dN (Txt.aC t).length (aP (Txt.aC t) [bJ] (1,UD)).1 (aP (Txt.aC t) [bJ] (1,UD)).2
  .exact⟨_,_,.list0 g h,Q6 g h⟩
  .exact⟨_,_,.list1 g h,Q8 g h⟩
 by_cases m:bP (Txt.aC t) 0 UD iT=UE;exact⟨_,_,.waiting m,PE m⟩;by_cases j:bP (Txt.aC t) 0 UD iu=UE;exact⟨_,_,.ef j,QA j⟩;by_cases f:bP (Txt.aC t) 0 UD ir=UE;exact⟨_,_,.find f,Qq f⟩;by_cases c:bP (Txt.aC t) 0 UD fA=UE;let⟨pc,ev,acc,fr,mn,mi,ti,un,st,hr⟩:=GS (Txt.aC t) (1,UD);exact⟨_,_,.expand c pc ev acc fr mn mi ti un st hr,Pm c hr⟩;by_cases b:bP (Txt.aC t) 0 UD ja=UE;exact⟨_,_,.tick b,Ol b⟩;by_cases a:bP (Txt.aC t) 0 UD iN=UE;exact⟨_,_,.clock a,QS a⟩;simp only[Bool.not_eq_true] at z y x u q p o g m j f c b a;have A:=jq.none z y x u q p o g m j f c b a;exact⟨_,_,A,G7 A,fun e=>absurd e Uj⟩
theorem N9(t:Us):∃ o,Dq t o/\GO t o:=by
 by_cases b:160<t.size
 .exact⟨.inl (1,0),⟨by decide,.inl ⟨rfl,rfl⟩,fun e a=>Fy a (.long b)⟩,.inl ⟨b,rfl,rfl⟩⟩
 .let⟨v,st,hl,hn,hd⟩:=N7 t
  by_cases c:st.2=UE\/dN (Txt.aC t).length st.1 st.2=UE
  .exact⟨.inl (2,st.1),⟨by decide,.inr ⟨rfl,O⟩,fun e a=>Fy a (.bad O v st hl c)⟩,.inr ⟨O,st.1,hn c,rfl,rfl⟩⟩
  .have g:st.2=UD:=Uo
   have f:dN (Txt.aC t).length st.1 st.2=UD:=Uo;let⟨q,l,x1,x2,x3,x4⟩:=hd g f;exact⟨.inr l,⟨v,fun e a=>Fy a (.sd O v st hl g f),x3,x4⟩,⟨O,q,x1,x2,x4⟩⟩
theorem Qp(t:Us):zM t:=fun X a=>Kd t X a
theorem PN{p:M}(h:BD w p d s r aM)(c:zM t){o:(N × N) ⊕ aA.jb}(ht:Dq t o):UI prog 24 #[p,t] w fun e w'=>∃ v,e=UW v/\oA w p d aM (np s o) v w':=by
 cases o with
 |inl q =>let⟨er,at_⟩:=q;exact Qw h t er at_ c ht.1 ht.2.2
 |inr l =>let⟨line,h1,h2,h3⟩:=ht;exact QW h t line l c h1 (aA.DV h.ds.inv h3) (aA.c2j h.ds.inv h3) (aA.Dr h.ds.inv.bA l) (fun _ ht b a=>b8R a ht b h2 h3)
theorem Hy{X:UF}{g:M}(b:∀ (j:M)(a:j<(Txt.aC t).length),X.cell? (g,j)=U (UQ (Txt.aC t)[j])){j:M}(a:j<(Txt.aC t).length):X.cell? (g,j)=U (UQ ((Txt.aC t).getD j Ym)):=by rw[b j a];simp[List.getD,a]
theorem Full.head{k:Us}{R:Ut Us}(h:Full t (k :: R))(a:fl k=UE):(Txt.aC t).getD 0 Ym=k :=js (by rw[qi,<- jI k a];exact xF (Q:=[]) h.all)
theorem P3(s:St)(l:aA.jb):(aX s l).2.at_=0:=by
 cases l <;> simp only[aX] <;> (repeat' split) <;> rfl
theorem zR(h:Inv s):(s.es.length:N)<=s.given:=by
 have b:=h.ids;have:=EP _ 1 s.given b (fun x a=>by obtain⟨e,c,rfl⟩:=VQ.1 a;have f:=h.mZ e c;omega)
 have:=h.g0;rw[We] at *;omega
theorem Qo(h:DD w d s xs F)(x:Inv s)(hs:t.size<=160){q:Ut Us}{l:aA.jb}(y:Full t q)(hq:mb (Txt.aC t) q l)(E:aA.ke l)(X:UF)(g c:M)(k:UH w w X)(W:∀ (j:M)(A:j<(Txt.aC t).length),X.cell? (g,j)=U (UQ (Txt.aC t)[j])):UI prog 38 #[d,UO g (Txt.aC t).length c] X (eK X d F xs (aX s l)):=by
 have o:=y.len;have u:=h.later k;have z:∀ j,((Txt.aC t).getD j Ym).size<=160:=fun j=>by
  by_cases A:j<(Txt.aC t).length
  .simp only[List.getD,A,Wx,Option.getD_some];exact U0 (ya t _ (zg A)) hs
  .simp[List.getD,A]
 have at_:∀ m,UH X X m->∀ j,j<(Txt.aC t).length->m.cell? (g,j)=U (UQ ((Txt.aC t).getD j Ym)):=fun m a j A=>aT a (Hy W A);have a0:=fun (A:0<(Txt.aC t).length)=>Hy W A;have un:=fun name=>(aA.Ge x.tu name).1
 cases hq with
 |bH =>have p:=y.head Ul;simp only[VB,VG] at o;refine qu u (f:=64) O (a0 O) (by rw[p];simp[oP,ix]) (fun m a=>?_);exact RZ (u.later a) O (z 2) (un _) (at_ m a 1 O) (at_ m a 2 O)
 |book =>have p:=y.head Ul;simp only[VB,VG] at o;obtain⟨_,u1,u2,P,L,H,G⟩:=E;refine qu u (f:=65) O (a0 O) (by rw[p];simp[oP,iO]) (fun m a=>?_);have I:zH m g (Txt.aC t).length ((Txt.aC t).getD 0 Ym) 1 0:=⟨by rw[p];decide +kernel,by rw[p];decide +kernel,.inl ⟨rfl,rfl⟩,O⟩;exact Co (u.later a) ⟨x.g0,x.g1⟩ (zR x) ⟨x.n0,x.n1⟩ I O (z 2) (z 3) (z 4) ⟨u1,u2⟩ ⟨H,G⟩ (at_ m a 0 O) (at_ m a 1 O) (at_ m a 2 O) (at_ m a 3 O) (at_ m a 4 O)
 |cancel =>have p:=y.head Ul;simp only[VB,VG] at o;refine qu u (f:=67) O (a0 O) (by rw[p];simp[oP,iR]) (fun m a=>?_);exact Hf (u.later a) x.ids UE (by rw[p];decide +kernel) (z 1) O (at_ m a 0 O) (at_ m a 1 O)
 |list0 =>have p:=y.head Ul;simp only[VB,VG] at o;refine qu u (f:=69) O (a0 O) (by rw[p];simp[oP,dC]) (fun m a=>?_);exact CX (u.later a) x.ids (b:=UE) (by rw[p];decide +kernel) O (.inl ⟨O,rfl,rfl,rfl⟩) (at_ m a 0 O) (at_ m a 1 O)
 |list1 =>have p:=y.head Ul;simp only[VB,VG] at o;refine qu u (f:=69) O (a0 O) (by rw[p];simp[oP,dC]) (fun m a=>?_);exact CX (u.later a) x.ids (b:=UE) (by rw[p];decide +kernel) O (.inr ⟨O,_,_,z 2,z 3,at_ m a 2 O,at_ m a 3 O,rfl,rfl⟩) (at_ m a 0 O) (at_ m a 1 O)
 |ef =>have p:=y.head Ul;simp only[VB,VG] at o;refine qu u (f:=69) O (a0 O) (by rw[p];simp[oP,iu]) (fun m a=>?_);exact CX (u.later a) x.ids (b:=UD) (by rw[p];decide +kernel) O (.inr ⟨O,_,_,z 2,z 3,at_ m a 2 O,at_ m a 3 O,rfl,rfl⟩) (at_ m a 0 O) (at_ m a 1 O)
 |find =>have p:=y.head Ul;simp only[VB,VG] at o;obtain⟨u1,u2,m1,m2,P,L,H,G⟩:=E;refine qu u (f:=70) O (a0 O) (by rw[p];simp[oP,ir]) (fun m a=>?_);exact Rx (u.later a) O (z 2) (z 3) (z 4) (z 5) ⟨O,u2⟩ ⟨O,m2⟩ ⟨P,L⟩ (at_ m a 1 O) (at_ m a 2 O) (at_ m a 3 O) (at_ m a 4 O) (at_ m a 5 O)
 |clock =>have p:=y.head Ul;simp only[VB,VG] at o;exact Se u O (by rw[a0 O,p];rfl)
 |series hr hn =>have C:=y;simp only[lf,Vm] at C;have p:=C.head Ul;obtain⟨u1,u2,T⟩:=E;refine qu u (f:=66) O (a0 O) (by rw[p];simp[oP,eQ]) (fun m a=>?_);exact Qs (u.later a) ⟨x.g0,x.g1⟩ (zR x) (ws:=fun j=>(Txt.aC t).getD j Ym) (fun j A=>at_ m a j A) z hr O ⟨u1,u2⟩ T
 |expand hr hn =>have C:=y;simp only[og,Vm,List.nil_append] at C;have p:=C.head Ul;exact QR u (ws:=fun j=>(Txt.aC t).getD j Ym) (fun j A=>at_ X fI j A) z hr O p E
 |hold =>have p:=y.head Ul;simp only[VB,VG] at o;obtain⟨S,u1,u2,P,L,H,G⟩:=E;refine qu u (f:=65) O (a0 O) (by rw[p];simp[oP,iE]) (fun m a=>?_);have I:zH m g (Txt.aC t).length ((Txt.aC t).getD 0 Ym) 2 (cB ((Txt.aC t).getD 5 Ym) 1 7):=⟨by rw[p];decide +kernel,by rw[p];decide +kernel,.inr ⟨.inl rfl,O,_,z 5,at_ m a 5 O,rfl⟩,O⟩;exact Co (u.later a) ⟨x.g0,x.g1⟩ (zR x) ⟨x.n0,x.n1⟩ I O (z 2) (z 3) (z 4) ⟨u1,u2⟩ ⟨H,G⟩ (at_ m a 0 O) (at_ m a 1 O) (at_ m a 2 O) (at_ m a 3 O) (at_ m a 4 O)
 |wait =>have p:=y.head Ul;simp only[VB,VG] at o;obtain⟨S,u1,u2,P,L,H,G⟩:=E;refine qu u (f:=65) O (a0 O) (by rw[p];simp[oP,iF]) (fun m a=>?_);have I:zH m g (Txt.aC t).length ((Txt.aC t).getD 0 Ym) 3 (cB ((Txt.aC t).getD 5 Ym) 1 7):=⟨by rw[p];decide +kernel,by rw[p];decide +kernel,.inr ⟨.inr rfl,O,_,z 5,at_ m a 5 O,rfl⟩,O⟩;exact Co (u.later a) ⟨x.g0,x.g1⟩ (zR x) ⟨x.n0,x.n1⟩ I O (z 2) (z 3) (z 4) ⟨u1,u2⟩ ⟨H,G⟩ (at_ m a 0 O) (at_ m a 1 O) (at_ m a 2 O) (at_ m a 3 O) (at_ m a 4 O)
 |waiting =>have p:=y.head Ul;simp only[VB,VG] at o;exact QU u O (by rw[a0 O,p];rfl)
 |bL =>have p:=y.head Ul;simp only[VB,VG] at o;refine qu u (f:=67) O (a0 O) (by rw[p];simp[oP,iU]) (fun m a=>?_);exact Hf (u.later a) x.ids UD (by rw[p];decide +kernel) (z 1) O (at_ m a 0 O) (at_ m a 1 O)
 |tick =>have p:=y.head Ul;simp only[VB,VG] at o;exact Pk u x O (by rw[a0 O,p];rfl) (at_ X fI 1 O) (z 1) E
theorem QE(h:DD w d s xs F)(y:Inv s){o:(N × N) ⊕ aA.jb}(ht:GO t o):UI prog 25 #[d,t] w (rK w d F xs (np s o)):=by
 cases o with
 |inl q =>
  let⟨er,at_⟩:=q;rcases ht with ⟨j,rfl,rfl⟩|⟨j,m,x,rfl,rfl⟩
  .exact IM h t Uj (fun X=>(Jc t X j).mono (by rintro e w1 ⟨rfl,rfl⟩;exact⟨rfl,Below.refl _ _⟩))
  .exact IM h t Uj (fun X=>(De t X j).mono (by
    rintro e w1 ⟨z,C⟩;rcases z with ⟨p,a,b,c,d,g,h,f,_⟩|⟨E,f,rfl⟩
    .rw[x] at f;cases f
    .rw[x] at f;simp only[Prod.mk.injEq,true_and] at f;subst f
     exact⟨rfl,C⟩))
 |inr l =>
  let⟨j,q,h2,h3,h4⟩:=ht;have u:0<(Txt.aC t).length:=by rw[h2.len];cases h3 <;> simp[lf,og]
  exact RN h t j h2.sc u (q:=aX s l) (P3 s l) (aA.Dr y.bA l) (fun X g c k A=>Qo h y j h2 h3 h4 X g c k A)
open aA (aQ bS)
structure sW(w:UF)(p:bS)(v1 v2 v3 v4:UG):Prop where
 en:∃ l,EV w v1 l/\l.map (·.1)=p.entries
 da:NV w v2 p.days
 gr:NV w v3 p.granted
 ed:NV w v4 p.ended
theorem sW.later{p:bS}{v1 v2 a v4:UG}(h:sW w p v1 v2 a v4)(k:UH w w w'):sW w' p v1 v2 a v4:=by let⟨l,h1,h2⟩:=h.en;exact⟨⟨l,h1.later k,h2⟩,h.da.later k,h.gr.later k,h.ed.later k⟩
structure zJ(p:bS):Prop where
 en:p.entries.length<=1000
 sp:∀ e∈p.entries,e.aR.length<=1000
 da:p.days.length<=1000000
 gr:p.granted.length<=1000000
 ed:p.ended.length<=1000000
 er:p.err≠0->p.entries=[]/\p.days=[]/\p.granted=[]/\p.ended=[]
def vC(p:bS)(v1 v2 b a:UG):Obj:=.cells #[p.err,V Y p.at_,V Y p.n,v1,v2,b,a] 74 (0,0)
theorem Sx(w:UF)(p:bS)(g:zJ p)(u1 u2 u3 u4 v1 v2 L I:UG)(a:sW w p u1 u2 u3 u4)(c:sW w p v1 v2 L I):UI prog 26 #[bT p.err p.at_ p.n u1 u2 u3 u4,bT p.err p.at_ p.n v1 v2 L I] w fun e w'=>e=UW UE/\UH w w w':=by
 have G:=aB (((KP.nil w).alloc (vC p u1 u2 u3 u4)).alloc (vC p v1 v2 L I));obtain⟨l,el,E⟩:=a.en;obtain⟨m,em,P⟩:=c.en;obtain⟨a1,c1,e1⟩:=el.form;obtain⟨a2,c2,e2⟩:=a.da.form;obtain⟨a3,c3,e3⟩:=a.gr.form;obtain⟨a4,c4,e4⟩:=a.ed.form;obtain⟨b1,d1,f1⟩:=em.form;obtain⟨b2,d2,f2⟩:=c.da.form;obtain⟨b3,d3,f3⟩:=c.gr.form;obtain⟨b4,d4,f4⟩:=c.ed.form;subst e1 e2 e3 e4 f1 f2 f3 f4;have y:l.length=p.entries.length:=by rw[<- E,We]
 have S:m.length=p.entries.length:=by rw[<- P,We]
 have E1:=aB (fun W (k:UH w w W)=>SA l m _ _ W (el.later k) (em.later k) (by rw[E,P]) (by have:=g.en;omega) (fun q hq=>g.sp q.1 (E ▸ VQ.2 ⟨q,hq,rfl⟩)));have E2:=aB (fun W (k:UH w w W)=>Dc p.days _ _ W (a.da.later k) (c.da.later k) g.da);have E3:=aB (fun W (k:UH w w W)=>Dc p.granted _ _ W (a.gr.later k) (c.gr.later k) g.gr);have E4:=aB (fun W (k:UH w w W)=>Dc p.ended _ _ W (a.ed.later k) (c.ed.later k) g.ed);have ER:Hid (p.err≠0->l.length=0/\p.days.length=0/\p.granted.length=0/\p.ended.length=0):=fun h=>by obtain⟨h1,h2,h3,h4⟩:=g.er h;rw[y,h1,h2,h3,h4];simp
 clear a c el em E P y S g;simp only[bT];go_in;go_upto_region 1 with fail;rw[World.size_alloc] at G;change YD _ _ _ _ ((w.alloc (vC p (UO a1 l.length c1) (UO a2 p.days.length c2) (UO a3 p.granted.length c3) (UO a4 p.ended.length c4))).alloc (vC p (UO b1 m.length d1) (UO b2 p.days.length d2) (UO b3 p.granted.length d3) (UO b4 p.ended.length d4)));generalize (w.alloc (vC p (UO a1 l.length c1) (UO a2 p.days.length c2) (UO a3 p.granted.length c3) (UO a4 p.ended.length c4))).alloc (vC p (UO b1 m.length d1) (UO b2 p.days.length d2) (UO b3 p.granted.length d3) (UO b4 p.ended.length d4))=X at *;have x:Hid (∀ W,UH X X W->(W.cell? (w,3)=U (UO a1 l.length c1)/\W.cell? (w,4)=U (UO a2 p.days.length c2)/\W.cell? (w,5)=U (UO a3 p.granted.length c3)/\W.cell? (w,6)=U (UO a4 p.ended.length c4))/\(W.cell? (w.heap.size+1,3)=U (UO b1 m.length d1)/\W.cell? (w.heap.size+1,4)=U (UO b2 p.days.length d2)/\W.cell? (w.heap.size+1,5)=U (UO b3 p.granted.length d3)/\W.cell? (w.heap.size+1,6)=U (UO b4 p.ended.length d4))/\(W.cell? (w,0)=U ↑p.err/\W.cell? (w,1)=U (V Y p.at_)/\W.cell? (w,2)=U (V Y p.n))/\W.cell? (w.heap.size+1,0)=U ↑p.err/\W.cell? (w.heap.size+1,1)=U (V Y p.at_)/\W.cell? (w.heap.size+1,2)=U (V Y p.n)):=fun W k=>by have f:=G.later k;have a:=(f.swap);exact⟨⟨a.hc 3 rfl,a.hc 4 rfl,a.hc 5 rfl,a.hc 6 rfl⟩,⟨f.hc 3 rfl,f.hc 4 rfl,f.hc 5 rfl,f.hc 6 rfl⟩,⟨a.hc 0 rfl,a.hc 1 rfl,a.hc 2 rfl⟩,f.hc 0 rfl,f.hc 1 rfl,f.hc 2 rfl⟩
 have BX:=aB G.bl;clear G;obtain⟨⟨x3,_,_,_⟩,⟨y3,_,_,_⟩,_⟩:=x X fI;go_wp21;refine aK (E1 _ BX) fun w1 b=>?_;obtain⟨⟨_,x4,_,_⟩,⟨_,y4,_,_⟩,_⟩:=x w1 b;have H:=aB (Vf (bU BX b aJ) b);clear b x3 y3;go_wp21;refine aK (E2 _ H.1) fun w2 u=>?_;have C:=aB (Vf (bU H.1 u aJ) (bU H.2 u aJ));obtain⟨⟨_,_,x5,_⟩,⟨_,_,y5,_⟩,_⟩:=x w2 C.2;clear u x4 y4 H;go_wp21;refine aK (E3 _ C.1) fun w3 o=>?_;have A:=aB (Vf (bU C.1 o aJ) (bU C.2 o aJ));obtain⟨⟨_,_,_,x6⟩,⟨_,_,_,y6⟩,_⟩:=x w3 A.2;clear o x5 y5 C;go_wp21;refine aK (E4 _ A.1) fun w4 j=>?_;have B4:=aB (bU A.1 j aJ);clear x6 y6;obtain⟨⟨x3,x4,x5,x6⟩,_,⟨x0,x1,x2⟩,y0,y1,y2⟩:=x w4 (bU A.2 j aJ);clear j A x E1 E2 E3 E4;by_cases z:p.err=0
 .have T:(p.err==0)=UE:=by simp[z]
  clear z;go_wp21;all_goals go_ret;exact⟨by simp,B4⟩
 .have T:(p.err==0)=UD:=by simp[z]
  obtain⟨h1,h2,h3,h4⟩:=ER z;clear z;go_wp21;all_goals go_ret;exact⟨by simp,B4⟩
open aA (aQ St bS Inv)
theorem Rh(c n:N)(w:UF)(q:-9223372036854775808<=c)(p:c<=9223372036854775807)(f:1<=n)(b:n<=1000000):UI prog 23 #[c,n] w fun e w'=>e=UW (V Y (nX c n))/\w'=w:=by
 have m:(n==0)=UD:=by simp;omega
 have o:=M0 (c:=c) f;by_cases h:c<0
 .have j:=zk O O;have g:=zk O O;have e:(-(c+1)).tmod n=nX c n:=by unfold nX;rw[if_pos h];exact YM O
  have a:Y.wrap (nX c n)=nX c n:=dJ O O;generalize nX c n=v at *;go_in;go_wp21;go_ret;simp_all
 .have e:c.tmod n=nX c n:=by unfold nX;rw[if_neg h];exact YM O
  have a:Y.wrap (nX c n)=nX c n:=dJ O O;generalize nX c n=v at *;go_in;go_wp21;go_ret;simp_all
theorem QP(h:Inv s){o:(N × N) ⊕ aA.jb}(ht:Dq t o):zJ (np s o).2/\(np s o).2.entries.length<=60/\(np s o).2.days.length<=900000/\(np s o).2.granted.length<=900000/\(np s o).2.ended.length<=900000:=by
 cases o with
 |inl q=>exact⟨⟨by simp[np],by simp[np],by simp[np],by simp[np],by simp[np],fun _=>by simp[np]⟩,by simp[np]⟩
 |inr l =>let⟨line,_,_,hl⟩:=ht;have k:=aA.QQ h hl;have:=k.en;have:=k.gr;have:=k.da;have:=k.ed;show zJ (aA.jE s l).2/\(aA.jE s l).2.entries.length<=60/\(aA.jE s l).2.days.length<=900000/\(aA.jE s l).2.granted.length<=900000/\(aA.jE s l).2.ended.length<=900000;refine⟨⟨O,fun e a=>?_,O,O,O,k.er⟩,O,O,O,O⟩;have:=(h.en e (k.es e a)).sl;omega
theorem BD.more{p:M}(h:BD w p d s r aM)(k:UH w w w'):BD w' p d s r aM :=h.off (G:=[]) (aH.aD k) Ui (h.env.later k)
theorem oA.later{w1:UF}{p:M}{q:St × bS}(h:oA w p d aM q v w1)(k:UH w1 w1 w'):oA w p d aM q v w':=by let⟨r',col',bd,st,rp⟩:=h;exact⟨r',col',bd.more k,st.trans (Step.below k),rp.later k⟩
theorem jS.bT{K c:Ut M}{p:bS}(h:jS w K c u1 u2 u3 u4 l p.days p.granted p.ended)(b:l.map (·.1)=p.entries):sW w p u1 u2 u3 u4 :=⟨⟨l,EV.own h.en (fun p a=>SV.own (h.sp p a)),b⟩,NV.own h.da,NV.own h.gr,NV.own h.ed⟩
theorem P7(a:Array UG)(w:UF):(callFunc 27 a).run prog w=.ok (.enter 27 a) w:=Um
section
variable {w0 w w1 w':UF}{B n:Uw}{tg:Uw->Tg}{i:Uw}{k:Dk}{D:Ut Dk}{K:Ut Uw}{v0 v1 r1 r2 r3:UG}{X1 X2 X3:Ut KL}
theorem LX.still(h:LX w0 w B n tg D K v0 v1 r1 r2 r3 X1 X2 X3)(g:D[i]?=U k){q:St × bS}(P:oA w k.p k.d k.aM q v w1){b:M}(m:tg b≠.no)(f:tg b≠.pr i):w1.heap[b]?=w.heap[b]?:=by
 let⟨r',col',_,st,_⟩:=P;have a:=h.ds.lt b m;refine st.cS a ?_ a
 cases j:k.aM b with
 |none=>rfl
 |some c=>exact (f ((h.ds.at_ i k g).pc b c j)).elim
theorem LX.more{m:M}(h:LX w0 w B n tg D K v0 v1 r1 r2 r3 X1 X2 X3)(k:n<=m):LX w0 w B m tg D K v0 v1 r1 r2 r3 X1 X2 X3 :=⟨h.ds,h.bk,U0 h.len k,h.xo,h.yo,h.tb,h.tk,h.tx,h.ty,h.d3,h.bl,h.lo,h.rL⟩
theorem r7{a at_ n:N}(h:w.heap[Q]?=U (kh a at_ n u1 u2 u3 u4)):w.cell? (Q,0)=U ↑a/\w.cell? (Q,1)=U ↑at_/\w.cell? (Q,2)=U ↑n/\w.cell? (Q,3)=U u1/\w.cell? (Q,4)=U u2/\w.cell? (Q,5)=U u3/\w.cell? (Q,6)=U u4 :=⟨bN h 0 rfl,bN h 1 rfl,bN h 2 rfl,bN h 3 rfl,bN h 4 rfl,bN h 5 rfl,bN h 6 rfl⟩
structure Ca(w0 w:UF)(B n:M)(tg:M->Tg)(D:Ut Dk)(K:Ut M)(v0 v1 r1 r2 r3:UG)(X1 X2 X3:Ut KL)(i:M)(k:Dk)(q:St × bS)(Q:M)(u1 u2 u3 u4:UG)(W:UF):Prop where
 lx:LX w0 w B n tg D K v0 v1 r1 r2 r3 X1 X2 X3
 hi:D[i]?=U k
 bp:oA w k.p k.d k.aM q (bT q.2.err q.2.at_ q.2.n u1 u2 u3 u4) W
 hQ:W.heap[Q]?=U (kh q.2.err q.2.at_ q.2.n u1 u2 u3 u4)
 lo:w<=Q
theorem LX.B5(h:LX w0 w B n tg D K v0 v1 r1 r2 r3 X1 X2 X3)(a:D[i]?=U k){q:St × bS}(P:oA w k.p k.d k.aM q (bT q.2.err q.2.at_ q.2.n u1 u2 u3 u4) w1):Ca w0 w B n tg D K v0 v1 r1 r2 r3 X1 X2 X3 i k q w1 u1 u2 u3 u4 (w1.alloc (kh q.2.err q.2.at_ q.2.n u1 u2 u3 u4)) :=⟨h,a,P.later aS,dH _ _,by let⟨_,_,_,st,_⟩:=P;exact st.size⟩
structure vB(w0:UF)(B n:M)(tg:M->Tg)(D:Ut Dk)(K:Ut M)(v0 v1 r1 r2 r3:UG)(X1 X2 X3:Ut KL)(p:bS)(Q R:M)(u1 u2 u3 u4 z1 z2 z3 z4:UG)(l:Ut (aQ × UG))(W:UF):Prop where
 lx:LX w0 W B n tg D K v0 v1 r1 r2 r3 X1 X2 X3
 rl:jS W K (cQ B r1 r2 r3) u1 u2 u3 u4 l p.days p.granted p.ended
 hl:l.map (·.1)=p.entries
 no:∀ b∈lW u1 u2 u3 u4 l,tg b=.no/\w0<=b
 rv:sW W p z1 z2 z3 z4
 hQ:W.heap[Q]?=U (kh p.err p.at_ p.n u1 u2 u3 u4)
 hR:W.heap[R]?=U (kh p.err p.at_ p.n z1 z2 z3 z4)
theorem vB.later{p:bS}(h:vB w0 B n tg D K v0 v1 r1 r2 r3 X1 X2 X3 p Q R u1 u2 u3 u4 z1 z2 z3 z4 l w)(k:UH w w w'):vB w0 B n tg D K v0 v1 r1 r2 r3 X1 X2 X3 p Q R u1 u2 u3 u4 z1 z2 z3 z4 l w' :=⟨h.lx.later k,h.rl.later k,h.hl,h.no,h.rv.later k,(k.block _ (YC.1 h.hQ).1).trans h.hQ,(k.block _ (YC.1 h.hR).1).trans h.hR⟩
theorem Ca.BV{q:St × bS}{W a:UF}(h:Ca w0 w B n tg D K v0 v1 r1 r2 r3 X1 X2 X3 i k q Q u1 u2 u3 u4 W)(P:rK W k.dd k.F k.xs q (UW (bT q.2.err q.2.at_ q.2.n z1 z2 z3 z4)) a):∃ b m l,vB w0 B n b m K v0 v1 r1 r2 r3 X1 X2 X3 q.2 Q a u1 u2 u3 u4 z1 z2 z3 z4 l (a.alloc (kh q.2.err q.2.at_ q.2.n z1 z2 z3 z4)):=by
 let⟨k',b,lx,a1,a2,a3,a4,l,hv,hl,hr,hn⟩:=h.lx.both h.hi h.bp P;simp only[bT,Value.agg.injEq,Array.mk.injEq,WY,true_and,and_true] at hv;obtain⟨rfl,rfl,rfl,rfl⟩:=hv;have c:UH a a (a.alloc (kh q.2.err q.2.at_ q.2.n z1 z2 z3 z4)):=aS;let⟨y1,y2,y3,y4,xs',F',he,tl,nv,_,_,kd,_⟩:=P;simp only[Ending.returned.injEq,bT,Value.agg.injEq,Array.mk.injEq,WY,true_and,and_true] at he;obtain⟨rfl,rfl,rfl,rfl⟩:=he;have f:=(YC.1 h.hQ).1;have g:a.heap[Q]?=U (kh q.2.err q.2.at_ q.2.n u1 u2 u3 u4):=(kd.block Q f (fun j=>by have:=h.lx.ds.lt Q (by rw[(h.lx.ds.at_ i k h.hi).df Q j];simp);have:=h.lo;omega)).trans h.hQ
 exact⟨b,_,l,lx.later c,hr.later c,hl,hn,(sW.mk tl.en tl.da nv tl.ed).later c,(c.block _ Uo).trans g,dH _ _⟩
theorem vB.ji{p:bS}(h:vB w0 B n tg D K v0 v1 r1 r2 r3 X1 X2 X3 p Q R u1 u2 u3 u4 z1 z2 z3 z4 l w)(j:n+64<=900000000)(ok:zJ p)(a:p.entries.length<=60/\p.days.length<=900000/\p.granted.length<=900000/\p.ended.length<=900000):UI prog 27 #[UM (U ⟨B,2,UB⟩),.agg #[p.err,V Y p.at_,V Y p.n,u1,u2,u3,u4]] w fun x w'=>x=UW (.tuple #[])/\LW w0 w' B (n+64):=by
 have f:l.length=p.entries.length:=by rw[<- h.hl,We]
 have b:=h.lx.len;refine (QM h.lx.bk O h.rl O (fun x c=>?_) a.2.1 a.2.2.1 a.2.2.2 p.err p.at_ p.n).mono ?_
 .have:x.1∈p.entries:=by rw[<- h.hl];exact VQ.2 ⟨x,c,rfl⟩
  have:=ok.sp x.1 this;omega
 .rintro e w4 ⟨rfl,g⟩;exact⟨rfl,(h.lx.more (Nat.le_add_right n 64)).kept O h.no g⟩
theorem CN(h:LW w0 w B n){a:N}(h1:-9223372036854775808<=a)(h2:a<=9223372036854775807)(t:Us)(hn:n+64<=900000000):UI prog 12 #[B,a,t] w fun e w'=>e=UW UE/\LW w0 w' B (n+64):=by
 obtain⟨tg,D,K,v0,v1,r1,r2,r3,X1,X2,X3,f⟩:=h;obtain⟨a0,c0,rfl⟩:=iD f.xo;obtain⟨a1,c1,rfl⟩:=iD f.yo;obtain⟨x0,x1,_,_,_,_⟩:=f.bk.cells;have x:=aB f;by_cases hD:D.length=0
 .have ac:((D.length:N)==0)=UE:=by simp[hD]
  clear f hD;go_in;go_wp2;go_ret;exact⟨rfl,_,_,_,_,_,_,_,_,_,_,_,x.more (Nat.le_add_right n 64)⟩
 .have ac:((D.length:N)==0)=UD:=by rw[beq_eq_false_iff_ne];omega
  have ai:=f.d3;have hb:=M0 (c:=a) (n:=D.length) O;obtain⟨j,hj⟩:∃ j:M,nX a D.length=j:=⟨(nX a D.length).toNat,O⟩;have ab:j<D.length:=O;have PK:=aB (Rh a D.length w h1 h2 O O);rw[hj] at PK;clear hb hj hD h1 h2;have g:=Wx ab;generalize D[j]=k at g;obtain⟨g0,q0,e0,y0⟩:=uv f.xo (k:=j) (u:=UM (U ⟨k.p,0,UB⟩)) (by rw[XT,g];rfl);obtain⟨g1,q1,A,y1⟩:=uv f.yo (k:=j) (u:=UM (U ⟨k.dd,0,UB⟩)) (by rw[XT,g];rfl);simp only[Value.slice.injEq,true_and] at e0 A;obtain⟨rfl,rfl⟩:=e0;obtain⟨rfl,rfl⟩:=A;obtain⟨o,hT,z⟩:=N9 t;have DO:=aB (PN (f.ds.at_ j k g).bd (Qp _) hT);have OK:=aB (QP (f.ds.at_ j k g).bd.ds.inv hT);have RD:Hid (∀ W,DD W k.dd k.s k.xs k.F->UI prog 25 #[UM (U ⟨k.dd,0,UB⟩),UQ t] W (rK W k.dd k.F k.xs (np k.s o))):=fun W hW=>QE hW (f.ds.at_ j k g).bd.ds.inv z;have H:=aB (Vf (x.tb B (by simp[cQ])) (x.ty g1 rfl));have HK:=aB g;generalize np k.s o=q at *;clear f hT z g;have ad:(j:N)<(D.length:N):=O;go_in;go_upto_region 4 with (first|(go_at_call 23;refine PK.mono ?_;rintro e w1 ⟨rfl,hw⟩;rw[hw];clear hw w1));go_upto_region 5 with (first|(go_at_call 24;refine DO.mono ?_;rintro e w1 ⟨v,rfl,bp⟩;have BP:=aB bp;obtain⟨r',ae,_,_,u1,u2,u3,u4,L,rfl,aa,A,e2,e3,e4,_,_⟩:=bp;obtain⟨b1,X,rfl⟩:=lz A.own;obtain⟨b2,T,rfl⟩:=e2.slice;obtain⟨b3,S,rfl⟩:=e3.slice;obtain⟨b4,P,rfl⟩:=e4.slice;have z1:=(zo (x.still HK BP (b:=B) (by rw[H.1];simp) (by rw[H.out.1];simp))).trans x1;have z2:=(zo (x.still HK BP (b:=g1) (by rw[H.2];simp) (by rw[H.out.2];simp))).trans y1;clear aa A e2 e3 e4 x0 x1 y0 y1 DO PK;simp only[bT]));have E:=aB (x.B5 HK BP);change YD _ _ _ _ (w1.alloc (kh q.2.err q.2.at_ q.2.n (UO b1 L.length X) (UO b2 q.2.days.length T) (UO b3 q.2.granted.length S) (UO b4 q.2.ended.length P)));have C:=aB (RD _ (E.lx.ds.doc E.hi E.bp));have z3:=aT ((zr _ w1).alloc aJ (kh q.2.err q.2.at_ q.2.n (UO b1 L.length X) (UO b2 q.2.days.length T) (UO b3 q.2.granted.length S) (UO b4 q.2.ended.length P))) z1;have z4:=aT ((zr _ w1).alloc aJ (kh q.2.err q.2.at_ q.2.n (UO b1 L.length X) (UO b2 q.2.days.length T) (UO b3 q.2.granted.length S) (UO b4 q.2.ended.length P))) z2;clear z1 z2 RD BP H x HK;generalize w1.alloc (kh q.2.err q.2.at_ q.2.n (UO b1 L.length X) (UO b2 q.2.days.length T) (UO b3 q.2.granted.length S) (UO b4 q.2.ended.length P))=W1 at *;generalize w1.heap.size=Q at *;go_upto_region 6 with (first|(go_at_call 25;refine C.mono ?_;rintro e w2 dd;have G:=aB dd;obtain⟨y1,y2,y3,y4,af,F',rfl,I,nv,_⟩:=dd;obtain⟨le,ev,_⟩:=I.en;obtain⟨f1,g2,rfl⟩:=ev.form;obtain⟨f2,g3,rfl⟩:=I.da.form;obtain⟨f3,g4,rfl⟩:=nv.form;obtain⟨f4,g5,rfl⟩:=I.ed.form;clear I nv ev z3 z4 C;simp only[bT]));change YD _ _ _ _ (w2.alloc (kh q.2.err q.2.at_ q.2.n (UO f1 le.length g2) (UO f2 q.2.days.length g3) (UO f3 q.2.granted.length g4) (UO f4 q.2.ended.length g5)));obtain⟨ag,D',l,m⟩:=E.BV G;have M2:=aB m;obtain⟨a0,a1,a2,a3,a4,a5,a6⟩:=r7 m.hQ;obtain⟨s0,s1,s2,s3,s4,s5,s6⟩:=r7 m.hR;have SR:=aB (Sx _ q.2 OK.1 _ _ _ _ _ _ _ _ (m.rl.bT m.hl) m.rv);simp only[bT] at SR;clear m E G;generalize w2.alloc (kh q.2.err q.2.at_ q.2.n (UO f1 le.length g2) (UO f2 q.2.days.length g3) (UO f3 q.2.granted.length g4) (UO f4 q.2.ended.length g5))=W2 at *;generalize w2.heap.size=R at *;go_upto_region 7 with (first|(go_at_call 26;refine SR.mono ?_;rintro e w3 ⟨rfl,y⟩;have M3:=aB (M2.later y);clear y a0 a1 a2 a3 a4 a5 a6 s0 s1 s2 s3 s4 s5 s6 SR));obtain⟨a0,a1,a2,a3,a4,a5,a6⟩:=r7 M3.hQ;have KP:=aB ((M3.later (eN w3)).ji hn OK.1 OK.2);clear M2 M3 OK;go_region_law (first
   |(refine rH (by rfl) 27 _ _ (by rfl) _ (by simp[Act.eval]) (P7 _ _) KP ?_;rintro e w4 ⟨rfl,h4⟩;refine⟨_,rfl,?_⟩;have H4:=aB h4;clear h4))
  all_goals go_wp2;go_ret;exact⟨rfl,H4⟩
end
theorem OZ(s:Us)(w:UF)(q:Env w):UI prog 22 #[s] w fun e w'=>PR s e/\UH w w w':=by
 have u:=hide q;clear q;go_in;go_wp21;refine (Kd s w (aO u)).mono ?_;rintro e w1 ⟨A,a⟩
 cases A with
 |long h =>have c:=hide h;clear h;go_wp2;go_ret3;exact⟨.inl ⟨c,rfl⟩,a⟩
 |bad h v st hl hb =>have C:=hide (G7 hl hb);have c:=hide h;clear h hl hb;go_wp2;go_ret3;exact⟨.inr ⟨c,.inr ⟨st.1,C,rfl⟩⟩,a⟩
 |sd h v st hl h2 hb =>
  let⟨p,xs,hsc,hpw,x0,x1,hout⟩:=Ok hl h2 hb;have f:(jn xs).size<=30000:=by have ⟨l1,l2⟩:=CJ _ _ _ _ hsc;have y:=CG p (Txt.aC s) l1 l2 (fun x z=>U0 (ya s x z) h) (Txt.aC s).length aJ;rw[hout] at y;have:=J9 s;omega
  have m:=hide hsc;have b:=hide hout;have c:=hide h;have o:=hide hpw;clear hsc hout h hl h2 hb hpw;go_wp21;refine aK (Rz v xs (aO o) w1 ((aO u).later a) x0 x1 f) fun E j=>?_;have g:=iY a j;go_wp2;go_ret3;exact⟨.inr ⟨c,.inl ⟨p,m,by rw[b];rfl⟩⟩,g⟩
theorem NS{s:Us}{e:Ending}(h:PR s e):∃ (t:Us)(k m:N),e=UW (.tuple #[t,k,m]):=by grind[PR]
theorem NT{s:Us}{e f:Ending}(h:PR s e)(k:PR s f):f=e:=by grind[PR]
theorem Qi(s:Us)(w:UF)(g:Env w):UI prog 11 #[s] w fun e w'=>e=UW UE/\UH w w w':=by
 have j:=hide g;clear g;go_in;go_wp21;refine (OZ s w (aO j)).mono ?_;rintro e w1 ⟨f,a⟩;have o:=hide f;obtain⟨t,k,m,rfl⟩:=NS f;clear f;go_wp21;refine (IP s w1 ((aO j).later a)).mono ?_;rintro e p ⟨h,c⟩;obtain rfl:=NT (aO o) h;have b:=iY a c;clear h o;go_wp2;go_ret;exact⟨fJ Ui,b⟩
theorem O5(p:UG)(a y m d:N)(s:Us)(w:UF)(g:Env w):UI prog 6 #[p,.agg #[V Y 3,a,y,m,d,s]] w fun e w'=>e=UW UE/\UH w w w':=by
 have c:∀ o,UH w w (w.alloc o):=fun o=>fI.alloc aJ o;have f:=hide c;clear c;go_in;go_wp21;refine aK (Qi _ _ (g.later (aO f _))) fun w' b=>?_;go_wp2;go_ret;exact⟨rfl,(aO f _).trans (b.mono Ui)⟩
section
variable {w0 w w':UF}{B n:Uw}
theorem Ob(h:LW w0 w B n)(x:wW)(G:B9 x)(L:1<=x.k)(hk:x.k<=6)(H:n+64<=900000000):UI prog 6 #[B,.agg #[V Y x.k,V Y x.a,x.y,V Y x.m,V Y x.d,x.s]] w fun e w'=>e=UW UE/\LW w0 w' B (n+64):=by
 have X:UH w.heap.size w (w.alloc (qO x)):=aS;have z:=aB (h.later X);have C:=dH w (qO x);have CL:Hid (∀ W,UH (w.alloc (qO x)).heap.size (w.alloc (qO x)) W->W.cell? ⟨w.heap.size,0,UB⟩=U (V Y x.k)/\W.cell? ⟨w.heap.size,1,UB⟩=U (V Y x.a)/\W.cell? ⟨w.heap.size,5,UB⟩=U (UQ x.s)):=fun W k=>by have b:=(k.block _ (YC.1 C).1).trans C;exact⟨bN b 0 rfl,bN b 1 rfl,bN b 5 rfl⟩
 obtain⟨c0,c1,c5⟩:=CL _ fI;have g:=h;have I:x.k=1\/x.k=2\/x.k=3\/x.k=4\/x.k=5\/x.k=6:=O;clear X C h hk L;obtain⟨k,a,y,m,d,s⟩:=x;obtain⟨f,c,S,P,aa⟩:=G;dsimp only at *;rcases I with rfl|rfl|rfl|rfl|rfl|rfl
 .exact (Oc _ _ _ _ _ _ _ g.env.jH).mono (by rintro e w1 ⟨rfl,b⟩;exact⟨rfl,(g.later b).more (Nat.le_add_right n 64)⟩)
 .exact (OP _ _ _ _ _ _ _ g.env.jH S P).mono (by rintro e w1 ⟨rfl,b⟩;exact⟨rfl,(g.later b).more (Nat.le_add_right n 64)⟩)
 .exact (O5 _ _ _ _ _ _ _ g.env).mono (by rintro e w1 ⟨rfl,b⟩;exact⟨rfl,(g.later b).more (Nat.le_add_right n 64)⟩)
 .go_in
  go_upto_region 1 with fail;change YD _ _ _ _ (w.alloc (qO ⟨4,a,y,m,d,s⟩));generalize w.alloc (qO ⟨4,a,y,m,d,s⟩)=W at *;go_wp2_with (first|(go_at_call 5;refine (I3 z).mono ?_;rintro e w1 ⟨rfl,q⟩;have j:=aB q;clear q));go_ret;exact⟨rfl,j.more (Nat.le_add_right n 64)⟩
 .go_in
  go_upto_region 1 with fail;change YD _ _ _ _ (w.alloc (qO ⟨5,a,y,m,d,s⟩));generalize w.alloc (qO ⟨5,a,y,m,d,s⟩)=W at *;go_wp2_with (first|(go_at_call 12;refine (CN z f c _ H).mono ?_;rintro e w1 ⟨rfl,q⟩;have j:=aB q;clear q));go_ret;exact⟨rfl,j⟩
 .have PL:=aB (IP s _ z.env)
  have A:Hid (∀ e,PR s e->∃ t u at_,e=UW (.tuple #[UQ t,V Y u,V Y at_])/\((u=0)\/(u != 0)=UE)):=fun e he=>by
   rcases he with ⟨_,rfl⟩|⟨_,⟨p,E,rfl⟩|⟨m,_,rfl⟩⟩
   .exact⟨_,_,_,rfl,.inr rfl⟩
   .exact⟨_,_,_,rfl,.inl rfl⟩
   .exact⟨_,_,_,rfl,.inr rfl⟩
  go_in;go_upto_region 1 with fail;change YD _ _ _ _ (w.alloc (qO ⟨6,a,y,m,d,s⟩));generalize w.alloc (qO ⟨6,a,y,m,d,s⟩)=W at *;go_upto_region 14 with (first|(go_at_call 13;refine PL.mono ?_;rintro e w1 ⟨E,b⟩;obtain⟨t,u,at_,rfl,hc⟩:=A.out e E;have j:=aB (z.later b);have C1:=aB (CL _ b);have HC:=aB hc;clear E b hc c0 c1 c5));obtain⟨c0,c1,c5⟩:=C1;rcases HC with rfl|he
  .go_wp2_with (first|(go_at_call 12;refine (CN j f c _ H).mono ?_;rintro e w2 ⟨rfl,o⟩;have T:=aB o;clear o))
   go_ret;exact⟨rfl,T⟩
  .go_wp2_with (first|(go_at_call 12;refine (CN j f c _ H).mono ?_;rintro e w2 ⟨rfl,o⟩;have T:=aB o;clear o))
   go_ret;exact⟨rfl,T⟩
theorem Ox(A:Env w){a:M}(y:CQ w a0 a)(hl:a<=1900000):UI prog 4 #[UO a0 a cap,V Y 1,V Y 6] w fun e w'=>e=UW (.bool UE)/\UH w.heap.size w w':=by
 have H:=aB (LW.start A);have I:Hid (∀ W m k,k<a->LW w W w.heap.size m->∃ b c x,a0=U ⟨b,c,UB⟩/\vD W b (c+k*6) x/\B9 x):=fun W m k z E=>by obtain⟨b,c,x,e,h,j⟩:=y k z;exact⟨b,c,x,e,h.later E.bl,j⟩
 clear y A;go_in;go_upto_region 2 with fail;change YD _ _ _ _ (w.alloc zW);generalize w.alloc zW=W at *;go_wp2_with (first|(go_at_call 5;refine (I3 H.out).mono ?_;rintro e w1 ⟨rfl,h⟩;have S:=aB h;clear h));generalize w.heap.size=B at *;go_loopw [9,10,11] (fun v _ _ wr=>∃ k:M,k<=a/\v=V Y k/\LW w wr B (k*64)) (fun v _ _ _=>a-(intOf v).toNat)
 case atStart=>exact⟨0,Nat.zero_le _,rfl,by simpa using S.out⟩
 case round =>
  obtain⟨k,z,rfl,f⟩:=hrel;have o:=aB f;by_cases q:k<a
  .have g:(k:N)<(a:N):=O
   obtain⟨b,c,x,rfl,p,u⟩:=I.out wr _ k q f;obtain⟨o0,o1,o2,o3,o4,X⟩:=p;have G:=aB u;clear u f;by_cases h:x.k<1
   .go_wp2_with fail
    exact⟨⟨k+1,by omega,by go_num,o.out.more O⟩,by simp[intOf];omega⟩
   .by_cases h6:6<x.k
    .go_wp2_with fail
     exact⟨⟨k+1,by omega,by go_num,o.out.more O⟩,by simp[intOf];omega⟩
    .go_wp2_with (first
      |(go_at_call 6;refine (Ob o.out x G.out O O O).mono ?_;rintro e T ⟨rfl,j⟩;have P:=aB j;clear j)
      |(go_at_call 7;refine (P.out.looks O).mono ?_;rintro e w3 ⟨rfl,C⟩;have L:=aB C;clear C))
     exact⟨⟨k+1,by omega,by go_num,by rw[Nat.add_mul,Nat.one_mul];exact L.out⟩,by simp[intOf];omega⟩
  .have g:¬ (k:N)<(a:N):=O
   clear f;go_wp2;go_ret;exact⟨rfl,o.out.bl⟩
theorem OY{a:M}(c:Env w)(b:CQ w a0 a)(f:a<=1900000):UI prog 3 #[UO a0 a cap] w fun e w'=>e=UW UE/\UH w w w':=by
 have HP:=aB (Ox (cap:=cap) c b f);clear c b;go_in;go_wp21;refine HP.mono ?_;rintro e h ⟨rfl,g⟩;go_wp21;go_ret;exact⟨rfl,g⟩
end
end Go.Proofs.YtolaacmheeaadaaGreatDoor
