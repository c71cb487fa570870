import Derived.Test.YtolaacmheeaadaaGreatDoorL12
set_option maxRecDepth 100000
set_option maxHeartbeats 8000000
open Go.Proofs.Tryz
open _root_ renaming ByteArray->Xm,List->Xn,Nat->Xq,Int->Xr,Int->N,Nat->M
open Option renaming none->Xv,some->Xw,some->U
open Bool renaming false->Xx,true->Xy
open Go renaming World->Xz,Value->XA,Calls->XD
open Go.RowKit renaming Below->XC
open List renaming mem_map->YN,length_map->Zd,getElem?_eq_getElem->Zu,length_cons->Yy,length_nil->YC,cons_append->Yj
open Nat renaming le_trans->XU
open And renaming intro->Yc
open Go.IntKind renaming i64->XP,i64->Y
open List.cons renaming injEq->ZO
open Go.Value renaming int->XG,pointer->XH,slice->XI,string->XJ,int->V
open Go.Ending renaming returned->XQ
namespace Go.Proofs.YtolaacmheeaadaaGreatDoor
variable{t:Xm}{xs:Xn (aA.aQ × Xq × Xq)}{l:Xn (aA.aQ × XA)}{F:Xn Xq}{Q R cap d:Xq}{aM:Xq->Option bO}{a0:Option Addr}{r:Raw}{s:aA.St}{u1 u2 u3 u4 v z1 z2 z3 z4:XA}{w w':Xz}
open Go.RowKit
open aA (aQ St bS Inv aX jE)
def GL(t:Xm):(N × N) ⊕ aA.jb->Prop
 |.inl (er,at_)=>(160<t.size/\er=1/\at_=0)\/(t.size<=160/\∃ m:M,kH t=(Xv,m)/\er=2/\at_=m)
 |.inr l=>t.size<=160/\∃ q,Full t q/\mb (Txt.aC t) q l/\aA.ke l
def nm(s:St):(N × N) ⊕ aA.jb->St × bS
 |.inl (er,at_)=>(s,⟨er,at_,0,[],[],[],[]⟩)
 |.inr l=>jE s l
theorem N4(t:Xm):∃ v st,jq (Txt.aC t) v st/\nc t v st:=by
 by_cases z:bP (Txt.aC t) 0 Xx ix=Xy;exact⟨_,_,.bH z,Rl z⟩;by_cases y:bP (Txt.aC t) 0 Xx iO=Xy;exact⟨_,_,.book y,Qv y⟩;by_cases x:bP (Txt.aC t) 0 Xx iF=Xy;exact⟨_,_,.hold x,Od x⟩;by_cases u:bP (Txt.aC t) 0 Xx iG=Xy;exact⟨_,_,.wait u,N7 u⟩;by_cases q:bP (Txt.aC t) 0 Xx eQ=Xy;let⟨pc,ev,acc,fr,mn,mi,ti,un,st,hr⟩:=GP (Txt.aC t) (aP (Txt.aC t) [bJ,cF] (1,Xx));exact⟨_,_,.series q pc ev acc fr mn mi ti un st hr,Pn q hr⟩;by_cases p:bP (Txt.aC t) 0 Xx iU=Xy;exact⟨_,_,.bL p,PE p⟩;by_cases o:bP (Txt.aC t) 0 Xx iR=Xy;exact⟨_,_,.cancel o,Rs o⟩;by_cases g:bP (Txt.aC t) 0 Xx dC=Xy
 .cases h:dN (Txt.aC t).length (aP (Txt.aC t) [bJ] (1,Xx)).1 (aP (Txt.aC t) [bJ] (1,Xx)).2
  .exact⟨_,_,.list0 g h,QZ g h⟩
  .exact⟨_,_,.list1 g h,Q0 g h⟩
 by_cases m:bP (Txt.aC t) 0 Xx iT=Xy;exact⟨_,_,.waiting m,Pz m⟩;by_cases j:bP (Txt.aC t) 0 Xx iu=Xy;exact⟨_,_,.ef j,Qy j⟩;by_cases f:bP (Txt.aC t) 0 Xx ir=Xy;exact⟨_,_,.find f,Qo f⟩;by_cases c:bP (Txt.aC t) 0 Xx fA=Xy;let⟨pc,ev,acc,fr,mn,mi,ti,un,st,hr⟩:=GP (Txt.aC t) (1,Xx);exact⟨_,_,.expand c pc ev acc fr mn mi ti un st hr,Pj c hr⟩;by_cases b:bP (Txt.aC t) 0 Xx ja=Xy;exact⟨_,_,.tick b,Oj b⟩;by_cases a:bP (Txt.aC t) 0 Xx iN=Xy;exact⟨_,_,.clock a,QQ a⟩;simp only[Bool.not_eq_true] at z y x u q p o g m j f c b a;have A:=jq.none z y x u q p o g m j f c b a;exact⟨_,_,A,G5 A,fun e=>absurd e Xd⟩
theorem N5(t:Xm):∃ o,Dp t o/\GL t o:=by
 by_cases b:160<t.size
 .exact⟨.inl (1,0),⟨by decide,.inl ⟨rfl,rfl⟩,fun e a=>Fw a (.long b)⟩,.inl ⟨b,rfl,rfl⟩⟩
 .let⟨v,st,hl,hn,hd⟩:=N4 t
  by_cases c:st.2=Xy\/dN (Txt.aC t).length st.1 st.2=Xy
  .exact⟨.inl (2,st.1),⟨by decide,.inr ⟨rfl,O⟩,fun e a=>Fw a (.bad O v st hl c)⟩,.inr ⟨O,st.1,hn c,rfl,rfl⟩⟩
  .have g:st.2=Xx:=Xi
   have f:dN (Txt.aC t).length st.1 st.2=Xx:=Xi;let⟨q,l,x1,x2,x3,x4⟩:=hd g f;exact⟨.inr l,⟨v,fun e a=>Fw a (.sd O v st hl g f),x3,x4⟩,⟨O,q,x1,x2,x4⟩⟩
theorem Qn(t:Xm):zK t:=fun X a=>Kb t X a
theorem PJ{p:M}(h:BD w p d s r aM)(c:zK t){o:(N × N) ⊕ aA.jb}(ht:Dp t o):XD prog 24 #[p,t] w fun e w'=>∃ v,e=XQ v/\oA w p d aM (nm s o) v w':=by
 cases o with
 |inl q =>let⟨er,at_⟩:=q;exact Qu h t er at_ c ht.1 ht.2.2
 |inr l =>let⟨line,h1,h2,h3⟩:=ht;exact QU h t line l c h1 (aA.DU h.ds.inv h3) (aA.U6 h.ds.inv h3) (aA.Dq h.ds.inv.bA l) (fun _ ht b a=>W8 a ht b h2 h3)
theorem Hw{X:Xz}{g:M}(b:∀ (j:M)(a:j<(Txt.aC t).length),X.cell? (g,j)=U (XJ (Txt.aC t)[j])){j:M}(a:j<(Txt.aC t).length):X.cell? (g,j)=U (XJ ((Txt.aC t).getD j ByteArray.empty)):=by rw[b j a];simp[List.getD,a]
theorem Full.head{k:Xm}{R:Xn Xm}(h:Full t (k :: R))(a:fl k=Xy):(Txt.aC t).getD 0 ByteArray.empty=k :=js (by rw[qi,<- jH k a];exact xD (Q:=[]) h.all)
theorem PY(s:St)(l:aA.jb):(aX s l).2.at_=0:=by
 cases l <;> simp only[aX] <;> (repeat' split) <;> rfl
theorem zQ(h:Inv s):(s.es.length:N)<=s.given:=by
 have b:=h.ids;have:=EO _ 1 s.given b (fun x a=>by obtain⟨e,c,rfl⟩:=YN.1 a;have f:=h.nK e c;omega)
 have:=h.g0;rw[Zd] at *;omega
theorem Qm(h:DD w d s xs F)(x:Inv s)(hs:t.size<=160){q:Xn Xm}{l:aA.jb}(y:Full t q)(hq:mb (Txt.aC t) q l)(E:aA.ke l)(X:Xz)(g c:M)(k:XC w w X)(W:∀ (j:M)(A:j<(Txt.aC t).length),X.cell? (g,j)=U (XJ (Txt.aC t)[j])):XD prog 38 #[d,XI g (Txt.aC t).length c] X (eK X d F xs (aX s l)):=by
 have o:=y.len;have u:=h.later k;have z:∀ j,((Txt.aC t).getD j ByteArray.empty).size<=160:=fun j=>by
  by_cases A:j<(Txt.aC t).length
  .simp only[List.getD,A,Zu,Option.getD_some];exact XU (xZ t _ (zg A)) hs
  .simp[List.getD,A]
 have at_:∀ m,XC X X m->∀ j,j<(Txt.aC t).length->m.cell? (g,j)=U (XJ ((Txt.aC t).getD j ByteArray.empty)):=fun m a j A=>aT a (Hw W A);have a0:=fun (A:0<(Txt.aC t).length)=>Hw W A;have un:=fun name=>(aA.Gc x.tu name).1
 cases hq with
 |bH =>have p:=y.head Xf;simp only[Yy,YC] at o;refine qu u (f:=64) O (a0 O) (by rw[p];simp[oP,ix]) (fun m a=>?_);exact RV (u.later a) O (z 2) (un _) (at_ m a 1 O) (at_ m a 2 O)
 |book =>have p:=y.head Xf;simp only[Yy,YC] at o;obtain⟨_,u1,u2,P,L,H,G⟩:=E;refine qu u (f:=65) O (a0 O) (by rw[p];simp[oP,iO]) (fun m a=>?_);have I:zG m g (Txt.aC t).length ((Txt.aC t).getD 0 ByteArray.empty) 1 0:=⟨by rw[p];decide +kernel,by rw[p];decide +kernel,.inl ⟨rfl,rfl⟩,O⟩;exact Cn (u.later a) ⟨x.g0,x.g1⟩ (zQ x) ⟨x.n0,x.n1⟩ I O (z 2) (z 3) (z 4) ⟨u1,u2⟩ ⟨H,G⟩ (at_ m a 0 O) (at_ m a 1 O) (at_ m a 2 O) (at_ m a 3 O) (at_ m a 4 O)
 |cancel =>have p:=y.head Xf;simp only[Yy,YC] at o;refine qu u (f:=67) O (a0 O) (by rw[p];simp[oP,iR]) (fun m a=>?_);exact Hd (u.later a) x.ids Xy (by rw[p];decide +kernel) (z 1) O (at_ m a 0 O) (at_ m a 1 O)
 |list0 =>have p:=y.head Xf;simp only[Yy,YC] at o;refine qu u (f:=69) O (a0 O) (by rw[p];simp[oP,dC]) (fun m a=>?_);exact CW (u.later a) x.ids (b:=Xy) (by rw[p];decide +kernel) O (.inl ⟨O,rfl,rfl,rfl⟩) (at_ m a 0 O) (at_ m a 1 O)
 |list1 =>have p:=y.head Xf;simp only[Yy,YC] at o;refine qu u (f:=69) O (a0 O) (by rw[p];simp[oP,dC]) (fun m a=>?_);exact CW (u.later a) x.ids (b:=Xy) (by rw[p];decide +kernel) O (.inr ⟨O,_,_,z 2,z 3,at_ m a 2 O,at_ m a 3 O,rfl,rfl⟩) (at_ m a 0 O) (at_ m a 1 O)
 |ef =>have p:=y.head Xf;simp only[Yy,YC] at o;refine qu u (f:=69) O (a0 O) (by rw[p];simp[oP,iu]) (fun m a=>?_);exact CW (u.later a) x.ids (b:=Xx) (by rw[p];decide +kernel) O (.inr ⟨O,_,_,z 2,z 3,at_ m a 2 O,at_ m a 3 O,rfl,rfl⟩) (at_ m a 0 O) (at_ m a 1 O)
 |find =>have p:=y.head Xf;simp only[Yy,YC] at o;obtain⟨u1,u2,m1,m2,P,L,H,G⟩:=E;refine qu u (f:=70) O (a0 O) (by rw[p];simp[oP,ir]) (fun m a=>?_);exact Rv (u.later a) O (z 2) (z 3) (z 4) (z 5) ⟨O,u2⟩ ⟨O,m2⟩ ⟨P,L⟩ (at_ m a 1 O) (at_ m a 2 O) (at_ m a 3 O) (at_ m a 4 O) (at_ m a 5 O)
 |clock =>have p:=y.head Xf;simp only[Yy,YC] at o;exact Sc u O (by rw[a0 O,p];rfl)
 |series hr hn =>have C:=y;simp only[lf,Yj] at C;have p:=C.head Xf;obtain⟨u1,u2,T⟩:=E;refine qu u (f:=66) O (a0 O) (by rw[p];simp[oP,eQ]) (fun m a=>?_);exact Qq (u.later a) ⟨x.g0,x.g1⟩ (zQ x) (ws:=fun j=>(Txt.aC t).getD j ByteArray.empty) (fun j A=>at_ m a j A) z hr O ⟨u1,u2⟩ T
 |expand hr hn =>have C:=y;simp only[oe,Yj,List.nil_append] at C;have p:=C.head Xf;exact QP u (ws:=fun j=>(Txt.aC t).getD j ByteArray.empty) (fun j A=>at_ X fI j A) z hr O p E
 |hold =>have p:=y.head Xf;simp only[Yy,YC] at o;obtain⟨S,u1,u2,P,L,H,G⟩:=E;refine qu u (f:=65) O (a0 O) (by rw[p];simp[oP,iF]) (fun m a=>?_);have I:zG m g (Txt.aC t).length ((Txt.aC t).getD 0 ByteArray.empty) 2 (cB ((Txt.aC t).getD 5 ByteArray.empty) 1 7):=⟨by rw[p];decide +kernel,by rw[p];decide +kernel,.inr ⟨.inl rfl,O,_,z 5,at_ m a 5 O,rfl⟩,O⟩;exact Cn (u.later a) ⟨x.g0,x.g1⟩ (zQ x) ⟨x.n0,x.n1⟩ I O (z 2) (z 3) (z 4) ⟨u1,u2⟩ ⟨H,G⟩ (at_ m a 0 O) (at_ m a 1 O) (at_ m a 2 O) (at_ m a 3 O) (at_ m a 4 O)
 |wait =>have p:=y.head Xf;simp only[Yy,YC] at o;obtain⟨S,u1,u2,P,L,H,G⟩:=E;refine qu u (f:=65) O (a0 O) (by rw[p];simp[oP,iG]) (fun m a=>?_);have I:zG m g (Txt.aC t).length ((Txt.aC t).getD 0 ByteArray.empty) 3 (cB ((Txt.aC t).getD 5 ByteArray.empty) 1 7):=⟨by rw[p];decide +kernel,by rw[p];decide +kernel,.inr ⟨.inr rfl,O,_,z 5,at_ m a 5 O,rfl⟩,O⟩;exact Cn (u.later a) ⟨x.g0,x.g1⟩ (zQ x) ⟨x.n0,x.n1⟩ I O (z 2) (z 3) (z 4) ⟨u1,u2⟩ ⟨H,G⟩ (at_ m a 0 O) (at_ m a 1 O) (at_ m a 2 O) (at_ m a 3 O) (at_ m a 4 O)
 |waiting =>have p:=y.head Xf;simp only[Yy,YC] at o;exact QS u O (by rw[a0 O,p];rfl)
 |bL =>have p:=y.head Xf;simp only[Yy,YC] at o;refine qu u (f:=67) O (a0 O) (by rw[p];simp[oP,iU]) (fun m a=>?_);exact Hd (u.later a) x.ids Xx (by rw[p];decide +kernel) (z 1) O (at_ m a 0 O) (at_ m a 1 O)
 |tick =>have p:=y.head Xf;simp only[Yy,YC] at o;exact Ph u x O (by rw[a0 O,p];rfl) (at_ X fI 1 O) (z 1) E
theorem QC(h:DD w d s xs F)(y:Inv s){o:(N × N) ⊕ aA.jb}(ht:GL t o):XD prog 25 #[d,t] w (rL w d F xs (nm s o)):=by
 cases o with
 |inl q =>
  let⟨er,at_⟩:=q;rcases ht with ⟨j,rfl,rfl⟩|⟨j,m,x,rfl,rfl⟩
  .exact IK h t Xd (fun X=>(Ja t X j).mono (by rintro e w1 ⟨rfl,rfl⟩;exact⟨rfl,Below.refl _ _⟩))
  .exact IK h t Xd (fun X=>(Dd t X j).mono (by
    rintro e w1 ⟨z,C⟩;rcases z with ⟨p,a,b,c,d,g,h,f,_⟩|⟨E,f,rfl⟩
    .rw[x] at f;cases f
    .rw[x] at f;simp only[Prod.mk.injEq,true_and] at f;subst f
     exact⟨rfl,C⟩))
 |inr l =>
  let⟨j,q,h2,h3,h4⟩:=ht;have u:0<(Txt.aC t).length:=by rw[h2.len];cases h3 <;> simp[lf,oe]
  exact RI h t j h2.sc u (q:=aX s l) (PY s l) (aA.Dq y.bA l) (fun X g c k A=>Qm h y j h2 h3 h4 X g c k A)
open aA (aQ bS)
structure sX(w:Xz)(p:bS)(v1 v2 v3 v4:XA):Prop where
 en:∃ l,EV w v1 l/\l.map (·.1)=p.entries
 da:NV w v2 p.days
 gr:NV w v3 p.granted
 ed:NV w v4 p.ended
theorem sX.later{p:bS}{v1 v2 a v4:XA}(h:sX w p v1 v2 a v4)(k:XC w w w'):sX w' p v1 v2 a v4:=by let⟨l,h1,h2⟩:=h.en;exact⟨⟨l,h1.later k,h2⟩,h.da.later k,h.gr.later k,h.ed.later k⟩
structure zI(p:bS):Prop where
 en:p.entries.length<=1000
 sp:∀ e∈p.entries,e.aR.length<=1000
 da:p.days.length<=1000000
 gr:p.granted.length<=1000000
 ed:p.ended.length<=1000000
 er:p.err≠0->p.entries=[]/\p.days=[]/\p.granted=[]/\p.ended=[]
def vA(p:bS)(v1 v2 b a:XA):Obj:=.cells #[p.err,V Y p.at_,V Y p.n,v1,v2,b,a] 74 (0,0)
theorem Sv(w:Xz)(p:bS)(f:zI p)(u1 u2 u3 u4 v1 v2 H G:XA)(a:sX w p u1 u2 u3 u4)(b:sX w p v1 v2 H G):XD prog 26 #[bT p.err p.at_ p.n u1 u2 u3 u4,bT p.err p.at_ p.n v1 v2 H G] w fun e w'=>e=XQ Xy/\XC w w w':=by
 have P0:=aB (((KP.nil w).alloc (vA p u1 u2 u3 u4)).alloc (vA p v1 v2 H G));obtain⟨l,T,z⟩:=a.en;obtain⟨m,S,I⟩:=b.en;obtain⟨a1,c1,e1⟩:=T.form;obtain⟨a2,c2,e2⟩:=a.da.form;obtain⟨a3,c3,e3⟩:=a.gr.form;obtain⟨a4,c4,e4⟩:=a.ed.form;obtain⟨b1,d1,f1⟩:=S.form;obtain⟨b2,d2,f2⟩:=b.da.form;obtain⟨b3,d3,f3⟩:=b.gr.form;obtain⟨b4,d4,f4⟩:=b.ed.form;subst e1 e2 e3 e4 f1 f2 f3 f4;have j:l.length=p.entries.length:=by rw[<- z,Zd]
 have L:m.length=p.entries.length:=by rw[<- I,Zd]
 have E1:=aB (fun W (k:XC w w W)=>Sy l m _ _ W (T.later k) (S.later k) (by rw[z,I]) (by have:=f.en;omega) (fun q hq=>f.sp q.1 (z ▸ YN.2 ⟨q,hq,rfl⟩)));have E2:=aB (fun W (k:XC w w W)=>Db p.days _ _ W (a.da.later k) (b.da.later k) f.da);have E3:=aB (fun W (k:XC w w W)=>Db p.granted _ _ W (a.gr.later k) (b.gr.later k) f.gr);have E4:=aB (fun W (k:XC w w W)=>Db p.ended _ _ W (a.ed.later k) (b.ed.later k) f.ed);have ER:Hid (p.err≠0->l.length=0/\p.days.length=0/\p.granted.length=0/\p.ended.length=0):=fun h=>by obtain⟨h1,h2,h3,h4⟩:=f.er h;rw[j,h1,h2,h3,h4];simp
 clear a b T S z I j L f;simp only[bT];go_in;go_upto_region 1 with fail;rw[World.size_alloc] at P0;change Code.wp _ _ _ _ ((w.alloc (vA p (XI a1 l.length c1) (XI a2 p.days.length c2) (XI a3 p.granted.length c3) (XI a4 p.ended.length c4))).alloc (vA p (XI b1 m.length d1) (XI b2 p.days.length d2) (XI b3 p.granted.length d3) (XI b4 p.ended.length d4)));generalize (w.alloc (vA p (XI a1 l.length c1) (XI a2 p.days.length c2) (XI a3 p.granted.length c3) (XI a4 p.ended.length c4))).alloc (vA p (XI b1 m.length d1) (XI b2 p.days.length d2) (XI b3 p.granted.length d3) (XI b4 p.ended.length d4))=X at *;have y:Hid (∀ W,XC X X W->(W.cell? (w,3)=U (XI a1 l.length c1)/\W.cell? (w,4)=U (XI a2 p.days.length c2)/\W.cell? (w,5)=U (XI a3 p.granted.length c3)/\W.cell? (w,6)=U (XI a4 p.ended.length c4))/\(W.cell? (w.heap.size+1,3)=U (XI b1 m.length d1)/\W.cell? (w.heap.size+1,4)=U (XI b2 p.days.length d2)/\W.cell? (w.heap.size+1,5)=U (XI b3 p.granted.length d3)/\W.cell? (w.heap.size+1,6)=U (XI b4 p.ended.length d4))/\(W.cell? (w,0)=U ↑p.err/\W.cell? (w,1)=U (V Y p.at_)/\W.cell? (w,2)=U (V Y p.n))/\W.cell? (w.heap.size+1,0)=U ↑p.err/\W.cell? (w.heap.size+1,1)=U (V Y p.at_)/\W.cell? (w.heap.size+1,2)=U (V Y p.n)):=fun W k=>by have c:=P0.later k;have a:=(c.swap);exact⟨⟨a.hc 3 rfl,a.hc 4 rfl,a.hc 5 rfl,a.hc 6 rfl⟩,⟨c.hc 3 rfl,c.hc 4 rfl,c.hc 5 rfl,c.hc 6 rfl⟩,⟨a.hc 0 rfl,a.hc 1 rfl,a.hc 2 rfl⟩,c.hc 0 rfl,c.hc 1 rfl,c.hc 2 rfl⟩
 have BX:=aB P0.bl;obtain⟨⟨x3,_,_,_⟩,⟨y3,_,_,_⟩,_⟩:=y X fI;go_wp21;refine aK (E1 _ BX) fun w1 g=>?_;obtain⟨⟨_,x4,_,_⟩,⟨_,y4,_,_⟩,_⟩:=y w1 g;have B1:=aB (Yc (bU BX g aJ) g);go_wp21;refine aK (E2 _ B1.1) fun w2 x=>?_;have E:=aB (Yc (bU B1.1 x aJ) (bU B1.2 x aJ));obtain⟨⟨_,_,x5,_⟩,⟨_,_,y5,_⟩,_⟩:=y w2 E.2;go_wp21;refine aK (E3 _ E.1) fun w3 u=>?_;have C:=aB (Yc (bU E.1 u aJ) (bU E.2 u aJ));obtain⟨⟨_,_,_,x6⟩,⟨_,_,_,y6⟩,_⟩:=y w3 C.2;go_wp21;refine aK (E4 _ C.1) fun w4 o=>?_;have B4:=aB (bU C.1 o aJ);obtain⟨⟨x3,x4,x5,x6⟩,_,⟨x0,x1,x2⟩,y0,y1,y2⟩:=y w4 (bU C.2 o aJ);by_cases A:p.err=0
 .have P:(p.err==0)=Xy:=by simp[A]
  clear A;go_wp21;all_goals go_ret;exact⟨by simp,B4⟩
 .have P:(p.err==0)=Xx:=by simp[A]
  obtain⟨h1,h2,h3,h4⟩:=ER A;go_wp21;all_goals go_ret;exact⟨by simp,B4⟩
open aA (aQ St bS Inv)
theorem Rf(c n:N)(w:Xz)(q:-9223372036854775808<=c)(p:c<=9223372036854775807)(f:1<=n)(b:n<=1000000):XD prog 23 #[c,n] w fun e w'=>e=XQ (V Y (nW c n))/\w'=w:=by
 have m:(n==0)=Xx:=by simp;omega
 have o:=MY (c:=c) f;by_cases h:c<0
 .have j:=zj O O;have g:=zj O O;have e:(-(c+1)).tmod n=nW c n:=by unfold nW;rw[if_pos h];exact Int.tmod_eq_emod_of_nonneg O
  have a:Y.wrap (nW c n)=nW c n:=dJ O O;generalize nW c n=v at *;go_in;go_wp21;go_ret;simp_all
 .have e:c.tmod n=nW c n:=by unfold nW;rw[if_neg h];exact Int.tmod_eq_emod_of_nonneg O
  have a:Y.wrap (nW c n)=nW c n:=dJ O O;generalize nW c n=v at *;go_in;go_wp21;go_ret;simp_all
theorem QN(h:Inv s){o:(N × N) ⊕ aA.jb}(ht:Dp t o):zI (nm s o).2/\(nm s o).2.entries.length<=60/\(nm s o).2.days.length<=900000/\(nm s o).2.granted.length<=900000/\(nm s o).2.ended.length<=900000:=by
 cases o with
 |inl q=>exact⟨⟨by simp[nm],by simp[nm],by simp[nm],by simp[nm],by simp[nm],fun _=>by simp[nm]⟩,by simp[nm]⟩
 |inr l =>let⟨line,_,_,hl⟩:=ht;have k:=aA.QO h hl;have:=k.en;have:=k.gr;have:=k.da;have:=k.ed;show zI (aA.jE s l).2/\(aA.jE s l).2.entries.length<=60/\(aA.jE s l).2.days.length<=900000/\(aA.jE s l).2.granted.length<=900000/\(aA.jE s l).2.ended.length<=900000;refine⟨⟨O,fun e a=>?_,O,O,O,k.er⟩,O,O,O,O⟩;have:=(h.en e (k.es e a)).sl;omega
theorem BD.more{p:M}(h:BD w p d s r aM)(k:XC w w w'):BD w' p d s r aM :=h.off (G:=[]) (aH.aD k) Xc (h.env.later k)
theorem oA.later{w1:Xz}{p:M}{q:St × bS}(h:oA w p d aM q v w1)(k:XC w1 w1 w'):oA w p d aM q v w':=by let⟨r',col',bd,st,rp⟩:=h;exact⟨r',col',bd.more k,st.trans (Step.below k),rp.later k⟩
theorem jS.bT{K c:Xn M}{p:bS}(h:jS w K c u1 u2 u3 u4 l p.days p.granted p.ended)(b:l.map (·.1)=p.entries):sX w p u1 u2 u3 u4 :=⟨⟨l,EV.own h.en (fun p a=>SV.own (h.sp p a)),b⟩,NV.own h.da,NV.own h.gr,NV.own h.ed⟩
theorem P4(a:Array XA)(w:Xz):(callFunc 27 a).run prog w=.ok (.enter 27 a) w:=Xg
section
variable {w0 w w1 w':Xz}{B n:Xq}{tg:Xq->Tg}{i:Xq}{k:Dk}{D:Xn Dk}{K:Xn Xq}{v0 v1 r1 r2 r3:XA}{X1 X2 X3:Xn KL}
theorem LX.still(h:LX w0 w B n tg D K v0 v1 r1 r2 r3 X1 X2 X3)(g:D[i]?=U k){q:St × bS}(P:oA w k.p k.d k.aM q v w1){b:M}(m:tg b≠.no)(f:tg b≠.pr i):w1.heap[b]?=w.heap[b]?:=by
 let⟨r',col',_,st,_⟩:=P;have a:=h.ds.lt b m;refine st.cS a ?_ a
 cases j:k.aM b with
 |none=>rfl
 |some c=>exact (f ((h.ds.at_ i k g).pc b c j)).elim
theorem LX.more{m:M}(h:LX w0 w B n tg D K v0 v1 r1 r2 r3 X1 X2 X3)(k:n<=m):LX w0 w B m tg D K v0 v1 r1 r2 r3 X1 X2 X3 :=⟨h.ds,h.bk,XU h.len k,h.xo,h.yo,h.tb,h.tk,h.tx,h.ty,h.d3,h.bl,h.lo,h.rM⟩
theorem r7{a at_ n:N}(h:w.heap[Q]?=U (kh a at_ n u1 u2 u3 u4)):w.cell? (Q,0)=U ↑a/\w.cell? (Q,1)=U ↑at_/\w.cell? (Q,2)=U ↑n/\w.cell? (Q,3)=U u1/\w.cell? (Q,4)=U u2/\w.cell? (Q,5)=U u3/\w.cell? (Q,6)=U u4 :=⟨bN h 0 rfl,bN h 1 rfl,bN h 2 rfl,bN h 3 rfl,bN h 4 rfl,bN h 5 rfl,bN h 6 rfl⟩
structure B9(w0 w:Xz)(B n:M)(tg:M->Tg)(D:Xn Dk)(K:Xn M)(v0 v1 r1 r2 r3:XA)(X1 X2 X3:Xn KL)(i:M)(k:Dk)(q:St × bS)(Q:M)(u1 u2 u3 u4:XA)(W:Xz):Prop where
 lx:LX w0 w B n tg D K v0 v1 r1 r2 r3 X1 X2 X3
 hi:D[i]?=U k
 bp:oA w k.p k.d k.aM q (bT q.2.err q.2.at_ q.2.n u1 u2 u3 u4) W
 hQ:W.heap[Q]?=U (kh q.2.err q.2.at_ q.2.n u1 u2 u3 u4)
 lo:w<=Q
theorem LX.BV(h:LX w0 w B n tg D K v0 v1 r1 r2 r3 X1 X2 X3)(a:D[i]?=U k){q:St × bS}(P:oA w k.p k.d k.aM q (bT q.2.err q.2.at_ q.2.n u1 u2 u3 u4) w1):B9 w0 w B n tg D K v0 v1 r1 r2 r3 X1 X2 X3 i k q w1 u1 u2 u3 u4 (w1.alloc (kh q.2.err q.2.at_ q.2.n u1 u2 u3 u4)) :=⟨h,a,P.later aS,dH _ _,by let⟨_,_,_,st,_⟩:=P;exact st.size⟩
structure vz(w0:Xz)(B n:M)(tg:M->Tg)(D:Xn Dk)(K:Xn M)(v0 v1 r1 r2 r3:XA)(X1 X2 X3:Xn KL)(p:bS)(Q R:M)(u1 u2 u3 u4 z1 z2 z3 z4:XA)(l:Xn (aQ × XA))(W:Xz):Prop where
 lx:LX w0 W B n tg D K v0 v1 r1 r2 r3 X1 X2 X3
 rl:jS W K (cQ B r1 r2 r3) u1 u2 u3 u4 l p.days p.granted p.ended
 hl:l.map (·.1)=p.entries
 no:∀ b∈lW u1 u2 u3 u4 l,tg b=.no/\w0<=b
 rv:sX W p z1 z2 z3 z4
 hQ:W.heap[Q]?=U (kh p.err p.at_ p.n u1 u2 u3 u4)
 hR:W.heap[R]?=U (kh p.err p.at_ p.n z1 z2 z3 z4)
theorem vz.later{p:bS}(h:vz w0 B n tg D K v0 v1 r1 r2 r3 X1 X2 X3 p Q R u1 u2 u3 u4 z1 z2 z3 z4 l w)(k:XC w w w'):vz w0 B n tg D K v0 v1 r1 r2 r3 X1 X2 X3 p Q R u1 u2 u3 u4 z1 z2 z3 z4 l w' :=⟨h.lx.later k,h.rl.later k,h.hl,h.no,h.rv.later k,(k.block _ (Array.getElem?_eq_some_iff.1 h.hQ).1).trans h.hQ,(k.block _ (Array.getElem?_eq_some_iff.1 h.hR).1).trans h.hR⟩
theorem B9.BU{q:St × bS}{W a:Xz}(h:B9 w0 w B n tg D K v0 v1 r1 r2 r3 X1 X2 X3 i k q Q u1 u2 u3 u4 W)(P:rL W k.dd k.F k.xs q (XQ (bT q.2.err q.2.at_ q.2.n z1 z2 z3 z4)) a):∃ b m l,vz w0 B n b m K v0 v1 r1 r2 r3 X1 X2 X3 q.2 Q a u1 u2 u3 u4 z1 z2 z3 z4 l (a.alloc (kh q.2.err q.2.at_ q.2.n z1 z2 z3 z4)):=by
 let⟨k',b,lx,a1,a2,a3,a4,l,hv,hl,hr,hn⟩:=h.lx.both h.hi h.bp P;simp only[bT,Value.agg.injEq,Array.mk.injEq,ZO,true_and,and_true] at hv;obtain⟨rfl,rfl,rfl,rfl⟩:=hv;have c:XC a a (a.alloc (kh q.2.err q.2.at_ q.2.n z1 z2 z3 z4)):=aS;let⟨y1,y2,y3,y4,xs',F',he,tl,nv,_,_,kd,_⟩:=P;simp only[Ending.returned.injEq,bT,Value.agg.injEq,Array.mk.injEq,ZO,true_and,and_true] at he;obtain⟨rfl,rfl,rfl,rfl⟩:=he;have f:=(Array.getElem?_eq_some_iff.1 h.hQ).1;have g:a.heap[Q]?=U (kh q.2.err q.2.at_ q.2.n u1 u2 u3 u4):=(kd.block Q f (fun j=>by have:=h.lx.ds.lt Q (by rw[(h.lx.ds.at_ i k h.hi).df Q j];simp);have:=h.lo;omega)).trans h.hQ
 exact⟨b,_,l,lx.later c,hr.later c,hl,hn,(sX.mk tl.en tl.da nv tl.ed).later c,(c.block _ Xi).trans g,dH _ _⟩
theorem vz.ji{p:bS}(h:vz w0 B n tg D K v0 v1 r1 r2 r3 X1 X2 X3 p Q R u1 u2 u3 u4 z1 z2 z3 z4 l w)(j:n+64<=900000000)(ok:zI p)(a:p.entries.length<=60/\p.days.length<=900000/\p.granted.length<=900000/\p.ended.length<=900000):XD prog 27 #[XH (U ⟨B,2,Xv⟩),.agg #[p.err,V Y p.at_,V Y p.n,u1,u2,u3,u4]] w fun x w'=>x=XQ (.tuple #[])/\LW w0 w' B (n+64):=by
 have f:l.length=p.entries.length:=by rw[<- h.hl,Zd]
 have b:=h.lx.len;refine (QJ h.lx.bk O h.rl O (fun x c=>?_) a.2.1 a.2.2.1 a.2.2.2 p.err p.at_ p.n).mono ?_
 .have:x.1∈p.entries:=by rw[<- h.hl];exact YN.2 ⟨x,c,rfl⟩
  have:=ok.sp x.1 this;omega
 .rintro e w4 ⟨rfl,g⟩;exact⟨rfl,(h.lx.more (Nat.le_add_right n 64)).kept O h.no g⟩
theorem CJ(h:LW w0 w B n){a:N}(h1:-9223372036854775808<=a)(h2:a<=9223372036854775807)(t:Xm)(hn:n+64<=900000000):XD prog 12 #[B,a,t] w fun e w'=>e=XQ Xy/\LW w0 w' B (n+64):=by
 obtain⟨tg,D,K,v0,v1,r1,r2,r3,X1,X2,X3,f⟩:=h;obtain⟨a0,c0,rfl⟩:=iE f.xo;obtain⟨a1,c1,rfl⟩:=iE f.yo;obtain⟨x0,x1,_,_,_,_⟩:=f.bk.cells;have x:=aB f;by_cases hD:D.length=0
 .have ac:((D.length:N)==0)=Xy:=by simp[hD]
  clear f hD;go_in;go_wp2;go_ret;exact⟨rfl,_,_,_,_,_,_,_,_,_,_,_,x.more (Nat.le_add_right n 64)⟩
 .have ac:((D.length:N)==0)=Xx:=by rw[beq_eq_false_iff_ne];omega
  have al:=f.d3;have hb:=MY (c:=a) (n:=D.length) O;obtain⟨j,hj⟩:∃ j:M,nW a D.length=j:=⟨(nW a D.length).toNat,O⟩;have aa:j<D.length:=O;have PK:=aB (Rf a D.length w h1 h2 O O);rw[hj] at PK;have g:=Zu aa;generalize D[j]=k at g;obtain⟨g0,q0,e0,y0⟩:=uu f.xo (k:=j) (u:=XH (U ⟨k.p,0,Xv⟩)) (by rw[List.getElem?_map,g];rfl);obtain⟨g1,q1,A,y1⟩:=uu f.yo (k:=j) (u:=XH (U ⟨k.dd,0,Xv⟩)) (by rw[List.getElem?_map,g];rfl);simp only[Value.slice.injEq,true_and] at e0 A;obtain⟨rfl,rfl⟩:=e0;obtain⟨rfl,rfl⟩:=A;obtain⟨o,hT,ab⟩:=N5 t;have DO:=aB (PJ (f.ds.at_ j k g).bd (Qn _) hT);have OK:=aB (QN (f.ds.at_ j k g).bd.ds.inv hT);have RD:Hid (∀ W,DD W k.dd k.s k.xs k.F->XD prog 25 #[XH (U ⟨k.dd,0,Xv⟩),XJ t] W (rL W k.dd k.F k.xs (nm k.s o))):=fun W hW=>QC hW (f.ds.at_ j k g).bd.ds.inv ab;have X:=aB (Yc (x.tb B (by simp[cQ])) (x.ty g1 rfl));have HK:=aB g;generalize nm k.s o=q at *;have af:(j:N)<(D.length:N):=O;go_in;go_upto_region 4 with (first|(go_at_call 23;refine PK.mono ?_;rintro e w1 ⟨rfl,hw⟩;rw[hw];clear hw w1));go_upto_region 5 with (first|(go_at_call 24;refine DO.mono ?_;rintro e w1 ⟨v,rfl,bp⟩;have BP:=aB bp;obtain⟨r',ag,_,_,u1,u2,u3,u4,z,rfl,ak,A,e2,e3,e4,_,_⟩:=bp;obtain⟨S,H,rfl⟩:=lz A.own;obtain⟨P,G,rfl⟩:=e2.slice;obtain⟨L,E,rfl⟩:=e3.slice;obtain⟨I,C,rfl⟩:=e4.slice;have z1:=(zo (x.still HK BP (b:=B) (by rw[X.1];simp) (by rw[X.out.1];simp))).trans x1;have z2:=(zo (x.still HK BP (b:=g1) (by rw[X.2];simp) (by rw[X.out.2];simp))).trans y1;simp only[bT]));have T:=aB (x.BV HK BP);change Code.wp _ _ _ _ (w1.alloc (kh q.2.err q.2.at_ q.2.n (XI S z.length H) (XI P q.2.days.length G) (XI L q.2.granted.length E) (XI I q.2.ended.length C)));have ad:=aB (RD _ (T.lx.ds.doc T.hi T.bp));have z3:=aT ((zr _ w1).alloc aJ (kh q.2.err q.2.at_ q.2.n (XI S z.length H) (XI P q.2.days.length G) (XI L q.2.granted.length E) (XI I q.2.ended.length C))) z1;have z4:=aT ((zr _ w1).alloc aJ (kh q.2.err q.2.at_ q.2.n (XI S z.length H) (XI P q.2.days.length G) (XI L q.2.granted.length E) (XI I q.2.ended.length C))) z2;generalize w1.alloc (kh q.2.err q.2.at_ q.2.n (XI S z.length H) (XI P q.2.days.length G) (XI L q.2.granted.length E) (XI I q.2.ended.length C))=W1 at *;generalize w1.heap.size=Q at *;go_upto_region 6 with (first|(go_at_call 25;refine ad.mono ?_;rintro e w2 dd;have ae:=aB dd;obtain⟨y1,y2,y3,y4,ai,F',rfl,tl,nv,_⟩:=dd;obtain⟨le,ev,_⟩:=tl.en;obtain⟨f1,g2,rfl⟩:=ev.form;obtain⟨f2,g3,rfl⟩:=tl.da.form;obtain⟨f3,g4,rfl⟩:=nv.form;obtain⟨f4,g5,rfl⟩:=tl.ed.form;simp only[bT]));change Code.wp _ _ _ _ (w2.alloc (kh q.2.err q.2.at_ q.2.n (XI f1 le.length g2) (XI f2 q.2.days.length g3) (XI f3 q.2.granted.length g4) (XI f4 q.2.ended.length g5)));obtain⟨aj,D',l,m⟩:=T.BU ae;have M2:=aB m;obtain⟨a0,a1,a2,a3,a4,a5,a6⟩:=r7 m.hQ;obtain⟨s0,s1,s2,s3,s4,s5,s6⟩:=r7 m.hR;have SR:=aB (Sv _ q.2 OK.1 _ _ _ _ _ _ _ _ (m.rl.bT m.hl) m.rv);simp only[bT] at SR;generalize w2.alloc (kh q.2.err q.2.at_ q.2.n (XI f1 le.length g2) (XI f2 q.2.days.length g3) (XI f3 q.2.granted.length g4) (XI f4 q.2.ended.length g5))=W2 at *;generalize w2.heap.size=R at *;go_upto_region 7 with (first|(go_at_call 26;refine SR.mono ?_;rintro e w3 ⟨rfl,y⟩;have M3:=aB (M2.later y);clear y a0 a1 a2 a3 a4 a5 a6 s0 s1 s2 s3 s4 s5 s6 SR));obtain⟨a0,a1,a2,a3,a4,a5,a6⟩:=r7 M3.hQ;have KP:=aB ((M3.later (eN w3)).ji hn OK.1 OK.2);go_region_law (first
   |(refine rI (by rfl) 27 _ _ (by rfl) _ (by simp[Act.eval]) (P4 _ _) KP ?_;rintro e w4 ⟨rfl,h4⟩;refine⟨_,rfl,?_⟩;have H4:=aB h4;clear h4))
  all_goals go_wp2;go_ret;exact⟨rfl,H4⟩
end
theorem OX(s:Xm)(w:Xz)(A:Env w):XD prog 22 #[s] w fun e w'=>PR s e/\XC w w w':=by
 have q:=hide A;go_in;go_wp21;refine (Kb s w (aO q)).mono ?_;rintro e w1 ⟨z,a⟩
 cases z with
 |long h =>have c:=hide h;go_wp2;go_ret3;exact⟨.inl ⟨c,rfl⟩,a⟩
 |bad h v st hl hb =>have C:=hide (G5 hl hb);have c:=hide h;go_wp2;go_ret3;exact⟨.inr ⟨c,.inr ⟨st.1,C,rfl⟩⟩,a⟩
 |sd h v st hl h2 hb =>
  let⟨p,xs,hsc,hpw,x0,x1,hout⟩:=Oi hl h2 hb;have f:(jn xs).size<=30000:=by have ⟨l1,l2⟩:=CI _ _ _ _ hsc;have u:=CF p (Txt.aC s) l1 l2 (fun x y=>XU (xZ s x y) h) (Txt.aC s).length aJ;rw[hout] at u;have:=J7 s;omega
  have m:=hide hsc;have b:=hide hout;have c:=hide h;have o:=hide hpw;go_wp21;refine aK (Rx v xs (aO o) w1 ((aO q).later a) x0 x1 f) fun E j=>?_;have g:=iY a j;go_wp2;go_ret3;exact⟨.inr ⟨c,.inl ⟨p,m,by rw[b];rfl⟩⟩,g⟩
theorem NP{s:Xm}{e:Ending}(h:PR s e):∃ (t:Xm)(k m:N),e=XQ (.tuple #[t,k,m]):=by grind[PR]
theorem NQ{s:Xm}{e f:Ending}(h:PR s e)(k:PR s f):f=e:=by grind[PR]
theorem Qg(s:Xm)(w:Xz)(g:Env w):XD prog 11 #[s] w fun e w'=>e=XQ Xy/\XC w w w':=by
 have j:=hide g;clear g;go_in;go_wp21;refine (OX s w (aO j)).mono ?_;rintro e w1 ⟨f,a⟩;have o:=hide f;obtain⟨t,k,m,rfl⟩:=NP f;clear f;go_wp21;refine (IL s w1 ((aO j).later a)).mono ?_;rintro e p ⟨h,c⟩;obtain rfl:=NQ (aO o) h;have b:=iY a c;clear h o;go_wp2;go_ret;exact⟨fJ Xc,b⟩
theorem OZ(p:XA)(a y m d:N)(s:Xm)(w:Xz)(g:Env w):XD prog 6 #[p,.agg #[V Y 3,a,y,m,d,s]] w fun e w'=>e=XQ Xy/\XC w w w':=by
 have c:∀ o,XC w w (w.alloc o):=fun o=>fI.alloc aJ o;have f:=hide c;clear c;go_in;go_wp21;refine aK (Qg _ _ (g.later (aO f _))) fun w' b=>?_;go_wp2;go_ret;exact⟨rfl,(aO f _).trans (b.mono Xc)⟩
section
variable {w0 w w':Xz}{B n:Xq}
theorem N9(h:LW w0 w B n)(x:wV)(G:B8 x)(L:1<=x.k)(hk:x.k<=6)(H:n+64<=900000000):XD prog 6 #[B,.agg #[V Y x.k,V Y x.a,x.y,V Y x.m,V Y x.d,x.s]] w fun e w'=>e=XQ Xy/\LW w0 w' B (n+64):=by
 have X:XC w.heap.size w (w.alloc (qO x)):=aS;have z:=aB (h.later X);have C:=dH w (qO x);have CL:Hid (∀ W,XC (w.alloc (qO x)).heap.size (w.alloc (qO x)) W->W.cell? ⟨w.heap.size,0,Xv⟩=U (V Y x.k)/\W.cell? ⟨w.heap.size,1,Xv⟩=U (V Y x.a)/\W.cell? ⟨w.heap.size,5,Xv⟩=U (XJ x.s)):=fun W k=>by have b:=(k.block _ (Array.getElem?_eq_some_iff.1 C).1).trans C;exact⟨bN b 0 rfl,bN b 1 rfl,bN b 5 rfl⟩
 obtain⟨c0,c1,c5⟩:=CL _ fI;have g:=h;have I:x.k=1\/x.k=2\/x.k=3\/x.k=4\/x.k=5\/x.k=6:=O;clear X C h hk L;obtain⟨k,a,y,m,d,s⟩:=x;obtain⟨f,c,S,P,aa⟩:=G;dsimp only at *;rcases I with rfl|rfl|rfl|rfl|rfl|rfl
 .exact (Oa _ _ _ _ _ _ _ g.env.jO).mono (by rintro e w1 ⟨rfl,b⟩;exact⟨rfl,(g.later b).more (Nat.le_add_right n 64)⟩)
 .exact (OL _ _ _ _ _ _ _ g.env.jO S P).mono (by rintro e w1 ⟨rfl,b⟩;exact⟨rfl,(g.later b).more (Nat.le_add_right n 64)⟩)
 .exact (OZ _ _ _ _ _ _ _ g.env).mono (by rintro e w1 ⟨rfl,b⟩;exact⟨rfl,(g.later b).more (Nat.le_add_right n 64)⟩)
 .go_in
  go_upto_region 1 with fail;change Code.wp _ _ _ _ (w.alloc (qO ⟨4,a,y,m,d,s⟩));generalize w.alloc (qO ⟨4,a,y,m,d,s⟩)=W at *;go_wp2_with (first|(go_at_call 5;refine (IZ z).mono ?_;rintro e w1 ⟨rfl,q⟩;have j:=aB q;clear q));go_ret;exact⟨rfl,j.more (Nat.le_add_right n 64)⟩
 .go_in
  go_upto_region 1 with fail;change Code.wp _ _ _ _ (w.alloc (qO ⟨5,a,y,m,d,s⟩));generalize w.alloc (qO ⟨5,a,y,m,d,s⟩)=W at *;go_wp2_with (first|(go_at_call 12;refine (CJ z f c _ H).mono ?_;rintro e w1 ⟨rfl,q⟩;have j:=aB q;clear q));go_ret;exact⟨rfl,j⟩
 .have PL:=aB (IL s _ z.env)
  have A:Hid (∀ e,PR s e->∃ t u at_,e=XQ (.tuple #[XJ t,V Y u,V Y at_])/\((u=0)\/(u != 0)=Xy)):=fun e he=>by
   rcases he with ⟨_,rfl⟩|⟨_,⟨p,E,rfl⟩|⟨m,_,rfl⟩⟩
   .exact⟨_,_,_,rfl,.inr rfl⟩
   .exact⟨_,_,_,rfl,.inl rfl⟩
   .exact⟨_,_,_,rfl,.inr rfl⟩
  go_in;go_upto_region 1 with fail;change Code.wp _ _ _ _ (w.alloc (qO ⟨6,a,y,m,d,s⟩));generalize w.alloc (qO ⟨6,a,y,m,d,s⟩)=W at *;go_upto_region 14 with (first|(go_at_call 13;refine PL.mono ?_;rintro e w1 ⟨E,b⟩;obtain⟨t,u,at_,rfl,hc⟩:=A.out e E;have j:=aB (z.later b);have C1:=aB (CL _ b);have HC:=aB hc;clear E b hc c0 c1 c5));obtain⟨c0,c1,c5⟩:=C1;rcases HC with rfl|he
  .go_wp2_with (first|(go_at_call 12;refine (CJ j f c _ H).mono ?_;rintro e w2 ⟨rfl,o⟩;have T:=aB o;clear o))
   go_ret;exact⟨rfl,T⟩
  .go_wp2_with (first|(go_at_call 12;refine (CJ j f c _ H).mono ?_;rintro e w2 ⟨rfl,o⟩;have T:=aB o;clear o))
   go_ret;exact⟨rfl,T⟩
theorem Ov(A:Env w){a:M}(y:CO w a0 a)(hl:a<=1900000):XD prog 4 #[XI a0 a cap,V Y 1,V Y 6] w fun e w'=>e=XQ (.bool Xy)/\XC w.heap.size w w':=by
 have H:=aB (LW.start A);have I:Hid (∀ W m k,k<a->LW w W w.heap.size m->∃ b c x,a0=U ⟨b,c,Xv⟩/\vB W b (c+k*6) x/\B8 x):=fun W m k z E=>by obtain⟨b,c,x,e,h,j⟩:=y k z;exact⟨b,c,x,e,h.later E.bl,j⟩
 clear y A;go_in;go_upto_region 2 with fail;change Code.wp _ _ _ _ (w.alloc zW);generalize w.alloc zW=W at *;go_wp2_with (first|(go_at_call 5;refine (IZ H.out).mono ?_;rintro e w1 ⟨rfl,h⟩;have S:=aB h;clear h));generalize w.heap.size=B at *;go_loopw [9,10,11] (fun v _ _ wr=>∃ k:M,k<=a/\v=V Y k/\LW w wr B (k*64)) (fun v _ _ _=>a-(intOf v).toNat)
 case atStart=>exact⟨0,Nat.zero_le _,rfl,by simpa using S.out⟩
 case round =>
  obtain⟨k,z,rfl,f⟩:=hrel;have o:=aB f;by_cases q:k<a
  .have g:(k:N)<(a:N):=O
   obtain⟨b,c,x,rfl,p,u⟩:=I.out wr _ k q f;obtain⟨o0,o1,o2,o3,o4,X⟩:=p;have G:=aB u;clear u f;by_cases h:x.k<1
   .go_wp2_with fail
    exact⟨⟨k+1,by omega,by go_num,o.out.more O⟩,by simp[intOf];omega⟩
   .by_cases h6:6<x.k
    .go_wp2_with fail
     exact⟨⟨k+1,by omega,by go_num,o.out.more O⟩,by simp[intOf];omega⟩
    .go_wp2_with (first
      |(go_at_call 6;refine (N9 o.out x G.out O O O).mono ?_;rintro e T ⟨rfl,j⟩;have P:=aB j;clear j)
      |(go_at_call 7;refine (P.out.looks O).mono ?_;rintro e w3 ⟨rfl,C⟩;have L:=aB C;clear C))
     exact⟨⟨k+1,by omega,by go_num,by rw[Nat.add_mul,Nat.one_mul];exact L.out⟩,by simp[intOf];omega⟩
  .have g:¬ (k:N)<(a:N):=O
   clear f;go_wp2;go_ret;exact⟨rfl,o.out.bl⟩
theorem OV{a:M}(f:Env w)(b:CO w a0 a)(c:a<=1900000):XD prog 3 #[XI a0 a cap] w fun e w'=>e=XQ Xy/\XC w w w':=by
 have HP:=aB (Ov (cap:=cap) f b c);go_in;go_wp21;refine HP.mono ?_;rintro e h ⟨rfl,g⟩;go_wp21;go_ret;exact⟨rfl,g⟩
end
end Go.Proofs.YtolaacmheeaadaaGreatDoor
