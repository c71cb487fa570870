import Derived.Test.YtolaacmheeaadaaGreatDoorL12
set_option maxRecDepth 100000
set_option maxHeartbeats 8000000
open Go.Proofs.Tryz
open _root_ renaming ByteArray->Xn,List->Xo,Nat->Xr,Int->Xs,Int->N,Nat->M
open Option renaming none->Xw,some->Xx,some->U
open Bool renaming false->Xy,true->Xz
open Go renaming World->XA,Value->XC,Calls->XE
open Go.RowKit renaming Below->XD
open List renaming mem_map->YP,length_map->Ze,getElem?_eq_getElem->Zv,length_cons->Yz,length_nil->YD,cons_append->Yk
open Nat renaming le_trans->XV
open And renaming intro->Yd
open Go.IntKind renaming i64->XQ,i64->Y
open List.cons renaming injEq->ZP
open Go.Value renaming int->XH,pointer->XI,slice->XJ,string->XK,int->V
open Go.Ending renaming returned->XR
namespace Go.Proofs.YtolaacmheeaadaaGreatDoor
variable{t:Xn}{xs:Xo (aA.aQ × Xr × Xr)}{l:Xo (aA.aQ × XC)}{F:Xo Xr}{Q R cap d:Xr}{aM:Xr->Option bP}{a0:Option Addr}{r:Raw}{s:aA.St}{u1 u2 u3 u4 v z1 z2 z3 z4:XC}{w w':XA}
open Go.RowKit
open aA (aQ St bT Inv aY jD)
def GG(t:Xn):(N × N) ⊕ aA.ja->Prop
 |.inl (er,at_)=>(160<t.size/\er=1/\at_=0)\/(t.size<=160/\∃ m:M,kF t=(Xw,m)/\er=2/\at_=m)
 |.inr l=>t.size<=160/\∃ q,Full t q/\ma (Txt.aC t) q l/\aA.kc l
def nm(s:St):(N × N) ⊕ aA.ja->St × bT
 |.inl (er,at_)=>(s,⟨er,at_,0,[],[],[],[]⟩)
 |.inr l=>jD s l
theorem N3(t:Xn):∃ v st,jo (Txt.aC t) v st/\nc t v st:=by
 by_cases z:bS (Txt.aC t) 0 Xy iw=Xz;exact⟨_,_,.bI z,Rk z⟩;by_cases y:bS (Txt.aC t) 0 Xy iO=Xz;exact⟨_,_,.book y,Qu y⟩;by_cases x:bS (Txt.aC t) 0 Xy iD=Xz;exact⟨_,_,.hold x,Oc x⟩;by_cases u:bS (Txt.aC t) 0 Xy iE=Xz;exact⟨_,_,.wait u,N5 u⟩;by_cases q:bS (Txt.aC t) 0 Xy eQ=Xz;let⟨pc,ev,acc,fr,mn,mi,ti,un,st,hr⟩:=GK (Txt.aC t) (aP (Txt.aC t) [bL,cF] (1,Xy));exact⟨_,_,.series q pc ev acc fr mn mi ti un st hr,Pm q hr⟩;by_cases p:bS (Txt.aC t) 0 Xy iU=Xz;exact⟨_,_,.bM p,PA p⟩;by_cases o:bS (Txt.aC t) 0 Xy iR=Xz;exact⟨_,_,.cancel o,Rr o⟩;by_cases g:bS (Txt.aC t) 0 Xy dC=Xz
 .cases h:dN (Txt.aC t).length (aP (Txt.aC t) [bL] (1,Xy)).1 (aP (Txt.aC t) [bL] (1,Xy)).2
  .exact⟨_,_,.list0 g h,QY g h⟩
  .exact⟨_,_,.list1 g h,QZ g h⟩
 by_cases m:bS (Txt.aC t) 0 Xy iT=Xz;exact⟨_,_,.waiting m,Py m⟩;by_cases j:bS (Txt.aC t) 0 Xy ir=Xz;exact⟨_,_,.ef j,Qx j⟩;by_cases f:bS (Txt.aC t) 0 Xy iq=Xz;exact⟨_,_,.find f,Qn f⟩;by_cases c:bS (Txt.aC t) 0 Xy fA=Xz;let⟨pc,ev,acc,fr,mn,mi,ti,un,st,hr⟩:=GK (Txt.aC t) (1,Xy);exact⟨_,_,.expand c pc ev acc fr mn mi ti un st hr,Ph c hr⟩;by_cases b:bS (Txt.aC t) 0 Xy iZ=Xz;exact⟨_,_,.tick b,Oi b⟩;by_cases a:bS (Txt.aC t) 0 Xy iN=Xz;exact⟨_,_,.clock a,QP a⟩;simp only[Bool.not_eq_true] at z y x u q p o g m j f c b a;have A:=jo.none z y x u q p o g m j f c b a;exact⟨_,_,A,GW A,fun e=>absurd e Xd⟩
theorem N4(t:Xn):∃ o,Do t o/\GG t o:=by
 by_cases b:160<t.size
 .exact⟨.inl (1,0),⟨by decide,.inl ⟨rfl,rfl⟩,fun e a=>Fp a (.long b)⟩,.inl ⟨b,rfl,rfl⟩⟩
 .let⟨v,st,hl,hn,hd⟩:=N3 t
  by_cases c:st.2=Xz\/dN (Txt.aC t).length st.1 st.2=Xz
  .exact⟨.inl (2,st.1),⟨by decide,.inr ⟨rfl,O⟩,fun e a=>Fp a (.bad O v st hl c)⟩,.inr ⟨O,st.1,hn c,rfl,rfl⟩⟩
  .have g:st.2=Xy:=Xi
   have f:dN (Txt.aC t).length st.1 st.2=Xy:=Xi;let⟨q,l,x1,x2,x3,x4⟩:=hd g f;exact⟨.inr l,⟨v,fun e a=>Fp a (.rV O v st hl g f),x3,x4⟩,⟨O,q,x1,x2,x4⟩⟩
theorem Qm(t:Xn):zJ t:=fun X a=>J8 t X a
theorem PI{p:M}(h:BD w p d s r aM)(c:zJ t){o:(N × N) ⊕ aA.ja}(ht:Do t o):XE prog 24 #[p,t] w fun e w'=>∃ v,e=XR v/\oB w p d aM (nm s o) v w':=by
 cases o with
 |inl q =>let⟨er,at_⟩:=q;exact Qt h t er at_ c ht.1 ht.2.2
 |inr l =>let⟨line,h1,h2,h3⟩:=ht;exact QT h t line l c h1 (aA.DP h.ds.inv h3) (aA.U5 h.ds.inv h3) (aA.Dp h.ds.inv.bB l) (fun _ ht b a=>W7 a ht b h2 h3)
theorem Hs{X:XA}{g:M}(b:∀ (j:M)(a:j<(Txt.aC t).length),X.cell? (g,j)=U (XK (Txt.aC t)[j])){j:M}(a:j<(Txt.aC t).length):X.cell? (g,j)=U (XK ((Txt.aC t).getD j ByteArray.empty)):=by rw[b j a];simp[List.getD,a]
theorem Full.head{k:Xn}{R:Xo Xn}(h:Full t (k :: R))(a:fl k=Xz):(Txt.aC t).getD 0 ByteArray.empty=k :=jr (by rw[qg,<- jG k a];exact xC (Q:=[]) h.all)
theorem PV(s:St)(l:aA.ja):(aY s l).2.at_=0:=by
 cases l <;> simp only[aY] <;> (repeat' split) <;> rfl
theorem zP(h:Inv s):(s.es.length:N)<=s.given:=by
 have b:=h.ids;have:=EH _ 1 s.given b (fun x a=>by obtain⟨e,c,rfl⟩:=YP.1 a;have f:=h.nJ e c;omega)
 have:=h.g0;rw[Ze] at *;omega
theorem Ql(h:DD w d s xs F)(x:Inv s)(hs:t.size<=160){q:Xo Xn}{l:aA.ja}(y:Full t q)(hq:ma (Txt.aC t) q l)(E:aA.kc l)(X:XA)(g c:M)(k:XD w w X)(W:∀ (j:M)(A:j<(Txt.aC t).length),X.cell? (g,j)=U (XK (Txt.aC t)[j])):XE prog 38 #[d,XJ g (Txt.aC t).length c] X (eK X d F xs (aY s l)):=by
 have o:=y.len;have u:=h.later k;have z:∀ j,((Txt.aC t).getD j ByteArray.empty).size<=160:=fun j=>by
  by_cases A:j<(Txt.aC t).length
  .simp only[List.getD,A,Zv,Option.getD_some];exact XV (xY t _ (zg A)) hs
  .simp[List.getD,A]
 have at_:∀ m,XD X X m->∀ j,j<(Txt.aC t).length->m.cell? (g,j)=U (XK ((Txt.aC t).getD j ByteArray.empty)):=fun m a j A=>aT a (Hs W A);have a0:=fun (A:0<(Txt.aC t).length)=>Hs W A;have un:=fun name=>(aA.F8 x.tu name).1
 cases hq with
 |bI =>have p:=y.head Xf;simp only[Yz,YD] at o;refine qs u (f:=64) O (a0 O) (by rw[p];simp[oP,iw]) (fun m a=>?_);exact RU (u.later a) O (z 2) (un _) (at_ m a 1 O) (at_ m a 2 O)
 |book =>have p:=y.head Xf;simp only[Yz,YD] at o;obtain⟨_,u1,u2,P,L,H,G⟩:=E;refine qs u (f:=65) O (a0 O) (by rw[p];simp[oP,iO]) (fun m a=>?_);have I:zE m g (Txt.aC t).length ((Txt.aC t).getD 0 ByteArray.empty) 1 0:=⟨by rw[p];decide +kernel,by rw[p];decide +kernel,.inl ⟨rfl,rfl⟩,O⟩;exact Cn (u.later a) ⟨x.g0,x.g1⟩ (zP x) ⟨x.n0,x.n1⟩ I O (z 2) (z 3) (z 4) ⟨u1,u2⟩ ⟨H,G⟩ (at_ m a 0 O) (at_ m a 1 O) (at_ m a 2 O) (at_ m a 3 O) (at_ m a 4 O)
 |cancel =>have p:=y.head Xf;simp only[Yz,YD] at o;refine qs u (f:=67) O (a0 O) (by rw[p];simp[oP,iR]) (fun m a=>?_);exact G9 (u.later a) x.ids Xz (by rw[p];decide +kernel) (z 1) O (at_ m a 0 O) (at_ m a 1 O)
 |list0 =>have p:=y.head Xf;simp only[Yz,YD] at o;refine qs u (f:=69) O (a0 O) (by rw[p];simp[oP,dC]) (fun m a=>?_);exact CW (u.later a) x.ids (b:=Xz) (by rw[p];decide +kernel) O (.inl ⟨O,rfl,rfl,rfl⟩) (at_ m a 0 O) (at_ m a 1 O)
 |list1 =>have p:=y.head Xf;simp only[Yz,YD] at o;refine qs u (f:=69) O (a0 O) (by rw[p];simp[oP,dC]) (fun m a=>?_);exact CW (u.later a) x.ids (b:=Xz) (by rw[p];decide +kernel) O (.inr ⟨O,_,_,z 2,z 3,at_ m a 2 O,at_ m a 3 O,rfl,rfl⟩) (at_ m a 0 O) (at_ m a 1 O)
 |ef =>have p:=y.head Xf;simp only[Yz,YD] at o;refine qs u (f:=69) O (a0 O) (by rw[p];simp[oP,ir]) (fun m a=>?_);exact CW (u.later a) x.ids (b:=Xy) (by rw[p];decide +kernel) O (.inr ⟨O,_,_,z 2,z 3,at_ m a 2 O,at_ m a 3 O,rfl,rfl⟩) (at_ m a 0 O) (at_ m a 1 O)
 |find =>have p:=y.head Xf;simp only[Yz,YD] at o;obtain⟨u1,u2,m1,m2,P,L,H,G⟩:=E;refine qs u (f:=70) O (a0 O) (by rw[p];simp[oP,iq]) (fun m a=>?_);exact Ru (u.later a) O (z 2) (z 3) (z 4) (z 5) ⟨O,u2⟩ ⟨O,m2⟩ ⟨P,L⟩ (at_ m a 1 O) (at_ m a 2 O) (at_ m a 3 O) (at_ m a 4 O) (at_ m a 5 O)
 |clock =>have p:=y.head Xf;simp only[Yz,YD] at o;exact Sb u O (by rw[a0 O,p];rfl)
 |series hr hn =>have C:=y;simp only[kV,Yk] at C;have p:=C.head Xf;obtain⟨u1,u2,T⟩:=E;refine qs u (f:=66) O (a0 O) (by rw[p];simp[oP,eQ]) (fun m a=>?_);exact Qp (u.later a) ⟨x.g0,x.g1⟩ (zP x) (ws:=fun j=>(Txt.aC t).getD j ByteArray.empty) (fun j A=>at_ m a j A) z hr O ⟨u1,u2⟩ T
 |expand hr hn =>have C:=y;simp only[og,Yk,List.nil_append] at C;have p:=C.head Xf;exact QO u (ws:=fun j=>(Txt.aC t).getD j ByteArray.empty) (fun j A=>at_ X fJ j A) z hr O p E
 |hold =>have p:=y.head Xf;simp only[Yz,YD] at o;obtain⟨S,u1,u2,P,L,H,G⟩:=E;refine qs u (f:=65) O (a0 O) (by rw[p];simp[oP,iD]) (fun m a=>?_);have I:zE m g (Txt.aC t).length ((Txt.aC t).getD 0 ByteArray.empty) 2 (cB ((Txt.aC t).getD 5 ByteArray.empty) 1 7):=⟨by rw[p];decide +kernel,by rw[p];decide +kernel,.inr ⟨.inl rfl,O,_,z 5,at_ m a 5 O,rfl⟩,O⟩;exact Cn (u.later a) ⟨x.g0,x.g1⟩ (zP x) ⟨x.n0,x.n1⟩ I O (z 2) (z 3) (z 4) ⟨u1,u2⟩ ⟨H,G⟩ (at_ m a 0 O) (at_ m a 1 O) (at_ m a 2 O) (at_ m a 3 O) (at_ m a 4 O)
 |wait =>have p:=y.head Xf;simp only[Yz,YD] at o;obtain⟨S,u1,u2,P,L,H,G⟩:=E;refine qs u (f:=65) O (a0 O) (by rw[p];simp[oP,iE]) (fun m a=>?_);have I:zE m g (Txt.aC t).length ((Txt.aC t).getD 0 ByteArray.empty) 3 (cB ((Txt.aC t).getD 5 ByteArray.empty) 1 7):=⟨by rw[p];decide +kernel,by rw[p];decide +kernel,.inr ⟨.inr rfl,O,_,z 5,at_ m a 5 O,rfl⟩,O⟩;exact Cn (u.later a) ⟨x.g0,x.g1⟩ (zP x) ⟨x.n0,x.n1⟩ I O (z 2) (z 3) (z 4) ⟨u1,u2⟩ ⟨H,G⟩ (at_ m a 0 O) (at_ m a 1 O) (at_ m a 2 O) (at_ m a 3 O) (at_ m a 4 O)
 |waiting =>have p:=y.head Xf;simp only[Yz,YD] at o;exact QR u O (by rw[a0 O,p];rfl)
 |bM =>have p:=y.head Xf;simp only[Yz,YD] at o;refine qs u (f:=67) O (a0 O) (by rw[p];simp[oP,iU]) (fun m a=>?_);exact G9 (u.later a) x.ids Xy (by rw[p];decide +kernel) (z 1) O (at_ m a 0 O) (at_ m a 1 O)
 |tick =>have p:=y.head Xf;simp only[Yz,YD] at o;exact Pg u x O (by rw[a0 O,p];rfl) (at_ X fJ 1 O) (z 1) E
theorem QB(h:DD w d s xs F)(y:Inv s){o:(N × N) ⊕ aA.ja}(ht:GG t o):XE prog 25 #[d,t] w (rH w d F xs (nm s o)):=by
 cases o with
 |inl q =>
  let⟨er,at_⟩:=q;rcases ht with ⟨j,rfl,rfl⟩|⟨j,m,x,rfl,rfl⟩
  .exact IF h t Xd (fun X=>(I6 t X j).mono (by rintro e w1 ⟨rfl,rfl⟩;exact⟨rfl,Below.refl _ _⟩))
  .exact IF h t Xd (fun X=>(Dc t X j).mono (by
    rintro e w1 ⟨z,C⟩;rcases z with ⟨p,a,b,c,d,g,h,f,_⟩|⟨E,f,rfl⟩
    .rw[x] at f;cases f
    .rw[x] at f;simp only[Prod.mk.injEq,true_and] at f;subst f
     exact⟨rfl,C⟩))
 |inr l =>
  let⟨j,q,h2,h3,h4⟩:=ht;have u:0<(Txt.aC t).length:=by rw[h2.len];cases h3 <;> simp[kV,og]
  exact RH h t j h2.sc u (q:=aY s l) (PV s l) (aA.Dp y.bB l) (fun X g c k A=>Ql h y j h2 h3 h4 X g c k A)
open aA (aQ bT)
structure sV(w:XA)(p:bT)(v1 v2 v3 v4:XC):Prop where
 en:∃ l,EV w v1 l/\l.map (·.1)=p.entries
 da:NV w v2 p.days
 gr:NV w v3 p.granted
 ed:NV w v4 p.ended
theorem sV.later{p:bT}{v1 v2 a v4:XC}(h:sV w p v1 v2 a v4)(k:XD w w w'):sV w' p v1 v2 a v4:=by let⟨l,h1,h2⟩:=h.en;exact⟨⟨l,h1.later k,h2⟩,h.da.later k,h.gr.later k,h.ed.later k⟩
structure zH(p:bT):Prop where
 en:p.entries.length<=1000
 sp:∀ e∈p.entries,e.aR.length<=1000
 da:p.days.length<=1000000
 gr:p.granted.length<=1000000
 ed:p.ended.length<=1000000
 er:p.err≠0->p.entries=[]/\p.days=[]/\p.granted=[]/\p.ended=[]
def vz(p:bT)(v1 v2 b a:XC):Obj:=.cells #[p.err,V Y p.at_,V Y p.n,v1,v2,b,a] 74 (0,0)
theorem Su(w:XA)(p:bT)(f:zH p)(u1 u2 u3 u4 v1 v2 H G:XC)(a:sV w p u1 u2 u3 u4)(b:sV w p v1 v2 H G):XE prog 26 #[bU p.err p.at_ p.n u1 u2 u3 u4,bU p.err p.at_ p.n v1 v2 H G] w fun e w'=>e=XR Xz/\XD w w w':=by
 have P0:=aB (((KP.nil w).alloc (vz p u1 u2 u3 u4)).alloc (vz p v1 v2 H G));obtain⟨l,T,z⟩:=a.en;obtain⟨m,S,I⟩:=b.en;obtain⟨a1,c1,e1⟩:=T.form;obtain⟨a2,c2,e2⟩:=a.da.form;obtain⟨a3,c3,e3⟩:=a.gr.form;obtain⟨a4,c4,e4⟩:=a.ed.form;obtain⟨b1,d1,f1⟩:=S.form;obtain⟨b2,d2,f2⟩:=b.da.form;obtain⟨b3,d3,f3⟩:=b.gr.form;obtain⟨b4,d4,f4⟩:=b.ed.form;subst e1 e2 e3 e4 f1 f2 f3 f4;have j:l.length=p.entries.length:=by rw[<- z,Ze]
 have L:m.length=p.entries.length:=by rw[<- I,Ze]
 have E1:=aB (fun W (k:XD w w W)=>Sx l m _ _ W (T.later k) (S.later k) (by rw[z,I]) (by have:=f.en;omega) (fun q hq=>f.sp q.1 (z ▸ YP.2 ⟨q,hq,rfl⟩)));have E2:=aB (fun W (k:XD w w W)=>Db p.days _ _ W (a.da.later k) (b.da.later k) f.da);have E3:=aB (fun W (k:XD w w W)=>Db p.granted _ _ W (a.gr.later k) (b.gr.later k) f.gr);have E4:=aB (fun W (k:XD w w W)=>Db p.ended _ _ W (a.ed.later k) (b.ed.later k) f.ed);have ER:Hid (p.err≠0->l.length=0/\p.days.length=0/\p.granted.length=0/\p.ended.length=0):=fun h=>by obtain⟨h1,h2,h3,h4⟩:=f.er h;rw[j,h1,h2,h3,h4];simp
 clear a b T S z I j L f;simp only[bU];go_in;go_upto_region 1 with fail;rw[World.size_alloc] at P0;change Code.wp _ _ _ _ ((w.alloc (vz p (XJ a1 l.length c1) (XJ a2 p.days.length c2) (XJ a3 p.granted.length c3) (XJ a4 p.ended.length c4))).alloc (vz p (XJ b1 m.length d1) (XJ b2 p.days.length d2) (XJ b3 p.granted.length d3) (XJ b4 p.ended.length d4)));generalize (w.alloc (vz p (XJ a1 l.length c1) (XJ a2 p.days.length c2) (XJ a3 p.granted.length c3) (XJ a4 p.ended.length c4))).alloc (vz p (XJ b1 m.length d1) (XJ b2 p.days.length d2) (XJ b3 p.granted.length d3) (XJ b4 p.ended.length d4))=X at *;have y:Hid (∀ W,XD X X W->(W.cell? (w,3)=U (XJ a1 l.length c1)/\W.cell? (w,4)=U (XJ a2 p.days.length c2)/\W.cell? (w,5)=U (XJ a3 p.granted.length c3)/\W.cell? (w,6)=U (XJ a4 p.ended.length c4))/\(W.cell? (w.heap.size+1,3)=U (XJ b1 m.length d1)/\W.cell? (w.heap.size+1,4)=U (XJ b2 p.days.length d2)/\W.cell? (w.heap.size+1,5)=U (XJ b3 p.granted.length d3)/\W.cell? (w.heap.size+1,6)=U (XJ b4 p.ended.length d4))/\(W.cell? (w,0)=U ↑p.err/\W.cell? (w,1)=U (V Y p.at_)/\W.cell? (w,2)=U (V Y p.n))/\W.cell? (w.heap.size+1,0)=U ↑p.err/\W.cell? (w.heap.size+1,1)=U (V Y p.at_)/\W.cell? (w.heap.size+1,2)=U (V Y p.n)):=fun W k=>by have c:=P0.later k;have a:=(c.swap);exact⟨⟨a.hc 3 rfl,a.hc 4 rfl,a.hc 5 rfl,a.hc 6 rfl⟩,⟨c.hc 3 rfl,c.hc 4 rfl,c.hc 5 rfl,c.hc 6 rfl⟩,⟨a.hc 0 rfl,a.hc 1 rfl,a.hc 2 rfl⟩,c.hc 0 rfl,c.hc 1 rfl,c.hc 2 rfl⟩
 have BX:=aB P0.bl;obtain⟨⟨x3,_,_,_⟩,⟨y3,_,_,_⟩,_⟩:=y X fJ;go_wp21;refine aK (E1 _ BX) fun w1 g=>?_;obtain⟨⟨_,x4,_,_⟩,⟨_,y4,_,_⟩,_⟩:=y w1 g;have B1:=aB (Yd (bV BX g aJ) g);go_wp21;refine aK (E2 _ B1.1) fun w2 x=>?_;have E:=aB (Yd (bV B1.1 x aJ) (bV B1.2 x aJ));obtain⟨⟨_,_,x5,_⟩,⟨_,_,y5,_⟩,_⟩:=y w2 E.2;go_wp21;refine aK (E3 _ E.1) fun w3 u=>?_;have C:=aB (Yd (bV E.1 u aJ) (bV E.2 u aJ));obtain⟨⟨_,_,_,x6⟩,⟨_,_,_,y6⟩,_⟩:=y w3 C.2;go_wp21;refine aK (E4 _ C.1) fun w4 o=>?_;have B4:=aB (bV C.1 o aJ);obtain⟨⟨x3,x4,x5,x6⟩,_,⟨x0,x1,x2⟩,y0,y1,y2⟩:=y w4 (bV C.2 o aJ);by_cases A:p.err=0
 .have P:(p.err==0)=Xz:=by simp[A]
  clear A;go_wp21;all_goals go_ret;exact⟨by simp,B4⟩
 .have P:(p.err==0)=Xy:=by simp[A]
  obtain⟨h1,h2,h3,h4⟩:=ER A;go_wp21;all_goals go_ret;exact⟨by simp,B4⟩
open aA (aQ St bT Inv)
theorem Re(c n:N)(w:XA)(q:-9223372036854775808<=c)(p:c<=9223372036854775807)(f:1<=n)(b:n<=1000000):XE prog 23 #[c,n] w fun e w'=>e=XR (V Y (nX c n))/\w'=w:=by
 have m:(n==0)=Xy:=by simp;omega
 have o:=MW (c:=c) f;by_cases h:c<0
 .have j:=zi O O;have g:=zi O O;have e:(-(c+1)).tmod n=nX c n:=by unfold nX;rw[if_pos h];exact Int.tmod_eq_emod_of_nonneg O
  have a:Y.wrap (nX c n)=nX c n:=dJ O O;generalize nX c n=v at *;go_in;go_wp21;go_ret;simp_all
 .have e:c.tmod n=nX c n:=by unfold nX;rw[if_neg h];exact Int.tmod_eq_emod_of_nonneg O
  have a:Y.wrap (nX c n)=nX c n:=dJ O O;generalize nX c n=v at *;go_in;go_wp21;go_ret;simp_all
theorem QM(h:Inv s){o:(N × N) ⊕ aA.ja}(ht:Do t o):zH (nm s o).2/\(nm s o).2.entries.length<=60/\(nm s o).2.days.length<=900000/\(nm s o).2.granted.length<=900000/\(nm s o).2.ended.length<=900000:=by
 cases o with
 |inl q=>exact⟨⟨by simp[nm],by simp[nm],by simp[nm],by simp[nm],by simp[nm],fun _=>by simp[nm]⟩,by simp[nm]⟩
 |inr l =>let⟨line,_,_,hl⟩:=ht;have k:=aA.QN h hl;have:=k.en;have:=k.gr;have:=k.da;have:=k.ed;show zH (aA.jD s l).2/\(aA.jD s l).2.entries.length<=60/\(aA.jD s l).2.days.length<=900000/\(aA.jD s l).2.granted.length<=900000/\(aA.jD s l).2.ended.length<=900000;refine⟨⟨O,fun e a=>?_,O,O,O,k.er⟩,O,O,O,O⟩;have:=(h.en e (k.es e a)).sl;omega
theorem BD.more{p:M}(h:BD w p d s r aM)(k:XD w w w'):BD w' p d s r aM :=h.off (G:=[]) (aH.aD k) Xc (h.env.later k)
theorem oB.later{w1:XA}{p:M}{q:St × bT}(h:oB w p d aM q v w1)(k:XD w1 w1 w'):oB w p d aM q v w':=by let⟨r',col',bd,st,rp⟩:=h;exact⟨r',col',bd.more k,st.trans (Step.below k),rp.later k⟩
theorem jS.bU{K c:Xo M}{p:bT}(h:jS w K c u1 u2 u3 u4 l p.days p.granted p.ended)(b:l.map (·.1)=p.entries):sV w p u1 u2 u3 u4 :=⟨⟨l,EV.own h.en (fun p a=>SV.own (h.sp p a)),b⟩,NV.own h.da,NV.own h.gr,NV.own h.ed⟩
theorem P3(a:Array XC)(w:XA):(callFunc 27 a).run prog w=.ok (.enter 27 a) w:=Xg
section
variable {w0 w w1 w':XA}{B n:Xr}{tg:Xr->Tg}{i:Xr}{k:Dk}{D:Xo Dk}{K:Xo Xr}{v0 v1 r1 r2 r3:XC}{X1 X2 X3:Xo KL}
theorem LX.still(h:LX w0 w B n tg D K v0 v1 r1 r2 r3 X1 X2 X3)(g:D[i]?=U k){q:St × bT}(P:oB w k.p k.d k.aM q v w1){b:M}(m:tg b≠.no)(f:tg b≠.pr i):w1.heap[b]?=w.heap[b]?:=by
 let⟨r',col',_,st,_⟩:=P;have a:=h.ds.lt b m;refine st.cT a ?_ a
 cases j:k.aM b with
 |none=>rfl
 |some c=>exact (f ((h.ds.at_ i k g).pc b c j)).elim
theorem LX.more{m:M}(h:LX w0 w B n tg D K v0 v1 r1 r2 r3 X1 X2 X3)(k:n<=m):LX w0 w B m tg D K v0 v1 r1 r2 r3 X1 X2 X3 :=⟨h.ds,h.bk,XV h.len k,h.xo,h.yo,h.tb,h.tk,h.tx,h.ty,h.d3,h.bl,h.lo,h.rI⟩
theorem r7{a at_ n:N}(h:w.heap[Q]?=U (kg a at_ n u1 u2 u3 u4)):w.cell? (Q,0)=U ↑a/\w.cell? (Q,1)=U ↑at_/\w.cell? (Q,2)=U ↑n/\w.cell? (Q,3)=U u1/\w.cell? (Q,4)=U u2/\w.cell? (Q,5)=U u3/\w.cell? (Q,6)=U u4 :=⟨bO h 0 rfl,bO h 1 rfl,bO h 2 rfl,bO h 3 rfl,bO h 4 rfl,bO h 5 rfl,bO h 6 rfl⟩
structure B9(w0 w:XA)(B n:M)(tg:M->Tg)(D:Xo Dk)(K:Xo M)(v0 v1 r1 r2 r3:XC)(X1 X2 X3:Xo KL)(i:M)(k:Dk)(q:St × bT)(Q:M)(u1 u2 u3 u4:XC)(W:XA):Prop where
 lx:LX w0 w B n tg D K v0 v1 r1 r2 r3 X1 X2 X3
 hi:D[i]?=U k
 bp:oB w k.p k.d k.aM q (bU q.2.err q.2.at_ q.2.n u1 u2 u3 u4) W
 hQ:W.heap[Q]?=U (kg q.2.err q.2.at_ q.2.n u1 u2 u3 u4)
 lo:w<=Q
theorem LX.BV(h:LX w0 w B n tg D K v0 v1 r1 r2 r3 X1 X2 X3)(a:D[i]?=U k){q:St × bT}(P:oB w k.p k.d k.aM q (bU q.2.err q.2.at_ q.2.n u1 u2 u3 u4) w1):B9 w0 w B n tg D K v0 v1 r1 r2 r3 X1 X2 X3 i k q w1 u1 u2 u3 u4 (w1.alloc (kg q.2.err q.2.at_ q.2.n u1 u2 u3 u4)) :=⟨h,a,P.later aS,dH _ _,by let⟨_,_,_,st,_⟩:=P;exact st.size⟩
structure vy(w0:XA)(B n:M)(tg:M->Tg)(D:Xo Dk)(K:Xo M)(v0 v1 r1 r2 r3:XC)(X1 X2 X3:Xo KL)(p:bT)(Q R:M)(u1 u2 u3 u4 z1 z2 z3 z4:XC)(l:Xo (aQ × XC))(W:XA):Prop where
 lx:LX w0 W B n tg D K v0 v1 r1 r2 r3 X1 X2 X3
 rl:jS W K (cQ B r1 r2 r3) u1 u2 u3 u4 l p.days p.granted p.ended
 hl:l.map (·.1)=p.entries
 no:∀ b∈lV u1 u2 u3 u4 l,tg b=.no/\w0<=b
 rv:sV W p z1 z2 z3 z4
 hQ:W.heap[Q]?=U (kg p.err p.at_ p.n u1 u2 u3 u4)
 hR:W.heap[R]?=U (kg p.err p.at_ p.n z1 z2 z3 z4)
theorem vy.later{p:bT}(h:vy w0 B n tg D K v0 v1 r1 r2 r3 X1 X2 X3 p Q R u1 u2 u3 u4 z1 z2 z3 z4 l w)(k:XD w w w'):vy w0 B n tg D K v0 v1 r1 r2 r3 X1 X2 X3 p Q R u1 u2 u3 u4 z1 z2 z3 z4 l w' :=⟨h.lx.later k,h.rl.later k,h.hl,h.no,h.rv.later k,(k.block _ (Array.getElem?_eq_some_iff.1 h.hQ).1).trans h.hQ,(k.block _ (Array.getElem?_eq_some_iff.1 h.hR).1).trans h.hR⟩
theorem B9.BU{q:St × bT}{W a:XA}(h:B9 w0 w B n tg D K v0 v1 r1 r2 r3 X1 X2 X3 i k q Q u1 u2 u3 u4 W)(P:rH W k.dd k.F k.xs q (XR (bU q.2.err q.2.at_ q.2.n z1 z2 z3 z4)) a):∃ b m l,vy w0 B n b m K v0 v1 r1 r2 r3 X1 X2 X3 q.2 Q a u1 u2 u3 u4 z1 z2 z3 z4 l (a.alloc (kg q.2.err q.2.at_ q.2.n z1 z2 z3 z4)):=by
 let⟨k',b,lx,a1,a2,a3,a4,l,hv,hl,hr,hn⟩:=h.lx.both h.hi h.bp P;simp only[bU,Value.agg.injEq,Array.mk.injEq,ZP,true_and,and_true] at hv;obtain⟨rfl,rfl,rfl,rfl⟩:=hv;have c:XD a a (a.alloc (kg q.2.err q.2.at_ q.2.n z1 z2 z3 z4)):=aS;let⟨y1,y2,y3,y4,xs',F',he,tl,nv,_,_,kd,_⟩:=P;simp only[Ending.returned.injEq,bU,Value.agg.injEq,Array.mk.injEq,ZP,true_and,and_true] at he;obtain⟨rfl,rfl,rfl,rfl⟩:=he;have f:=(Array.getElem?_eq_some_iff.1 h.hQ).1;have g:a.heap[Q]?=U (kg q.2.err q.2.at_ q.2.n u1 u2 u3 u4):=(kd.block Q f (fun j=>by have:=h.lx.ds.lt Q (by rw[(h.lx.ds.at_ i k h.hi).df Q j];simp);have:=h.lo;omega)).trans h.hQ
 exact⟨b,_,l,lx.later c,hr.later c,hl,hn,(sV.mk tl.en tl.da nv tl.ed).later c,(c.block _ Xi).trans g,dH _ _⟩
theorem vy.jh{p:bT}(h:vy w0 B n tg D K v0 v1 r1 r2 r3 X1 X2 X3 p Q R u1 u2 u3 u4 z1 z2 z3 z4 l w)(j:n+64<=900000000)(ok:zH p)(a:p.entries.length<=60/\p.days.length<=900000/\p.granted.length<=900000/\p.ended.length<=900000):XE prog 27 #[XI (U ⟨B,2,Xw⟩),.agg #[p.err,V Y p.at_,V Y p.n,u1,u2,u3,u4]] w fun x w'=>x=XR (.tuple #[])/\LW w0 w' B (n+64):=by
 have f:l.length=p.entries.length:=by rw[<- h.hl,Ze]
 have b:=h.lx.len;refine (QH h.lx.bk O h.rl O (fun x c=>?_) a.2.1 a.2.2.1 a.2.2.2 p.err p.at_ p.n).mono ?_
 .have:x.1∈p.entries:=by rw[<- h.hl];exact YP.2 ⟨x,c,rfl⟩
  have:=ok.sp x.1 this;omega
 .rintro e w4 ⟨rfl,g⟩;exact⟨rfl,(h.lx.more (Nat.le_add_right n 64)).kept O h.no g⟩
theorem CJ(h:LW w0 w B n){a:N}(h1:-9223372036854775808<=a)(h2:a<=9223372036854775807)(t:Xn)(hn:n+64<=900000000):XE prog 12 #[B,a,t] w fun e w'=>e=XR Xz/\LW w0 w' B (n+64):=by
 obtain⟨tg,D,K,v0,v1,r1,r2,r3,X1,X2,X3,f⟩:=h;obtain⟨a0,c0,rfl⟩:=iC f.xo;obtain⟨a1,c1,rfl⟩:=iC f.yo;obtain⟨x0,x1,_,_,_,_⟩:=f.bk.cells;have x:=aB f;by_cases hD:D.length=0
 .have ac:((D.length:N)==0)=Xz:=by simp[hD]
  clear f hD;go_in;go_wp2;go_ret;exact⟨rfl,_,_,_,_,_,_,_,_,_,_,_,x.more (Nat.le_add_right n 64)⟩
 .have ac:((D.length:N)==0)=Xy:=by rw[beq_eq_false_iff_ne];omega
  have al:=f.d3;have hb:=MW (c:=a) (n:=D.length) O;obtain⟨j,hj⟩:∃ j:M,nX a D.length=j:=⟨(nX a D.length).toNat,O⟩;have aa:j<D.length:=O;have PK:=aB (Re a D.length w h1 h2 O O);rw[hj] at PK;have g:=Zv aa;generalize D[j]=k at g;obtain⟨g0,q0,e0,y0⟩:=uu f.xo (k:=j) (u:=XI (U ⟨k.p,0,Xw⟩)) (by rw[List.getElem?_map,g];rfl);obtain⟨g1,q1,A,y1⟩:=uu f.yo (k:=j) (u:=XI (U ⟨k.dd,0,Xw⟩)) (by rw[List.getElem?_map,g];rfl);simp only[Value.slice.injEq,true_and] at e0 A;obtain⟨rfl,rfl⟩:=e0;obtain⟨rfl,rfl⟩:=A;obtain⟨o,hT,ab⟩:=N4 t;have DO:=aB (PI (f.ds.at_ j k g).bd (Qm _) hT);have OK:=aB (QM (f.ds.at_ j k g).bd.ds.inv hT);have RD:Hid (∀ W,DD W k.dd k.s k.xs k.F->XE prog 25 #[XI (U ⟨k.dd,0,Xw⟩),XK t] W (rH W k.dd k.F k.xs (nm k.s o))):=fun W hW=>QB hW (f.ds.at_ j k g).bd.ds.inv ab;have X:=aB (Yd (x.tb B (by simp[cQ])) (x.ty g1 rfl));have HK:=aB g;generalize nm k.s o=q at *;have af:(j:N)<(D.length:N):=O;go_in;go_upto_region 4 with (first|(go_at_call 23;refine PK.mono ?_;rintro e w1 ⟨rfl,hw⟩;rw[hw];clear hw w1));go_upto_region 5 with (first|(go_at_call 24;refine DO.mono ?_;rintro e w1 ⟨v,rfl,bp⟩;have BP:=aB bp;obtain⟨r',ag,_,_,u1,u2,u3,u4,z,rfl,ak,A,e2,e3,e4,_,_⟩:=bp;obtain⟨S,H,rfl⟩:=ly A.own;obtain⟨P,G,rfl⟩:=e2.slice;obtain⟨L,E,rfl⟩:=e3.slice;obtain⟨I,C,rfl⟩:=e4.slice;have z1:=(zo (x.still HK BP (b:=B) (by rw[X.1];simp) (by rw[X.out.1];simp))).trans x1;have z2:=(zo (x.still HK BP (b:=g1) (by rw[X.2];simp) (by rw[X.out.2];simp))).trans y1;simp only[bU]));have T:=aB (x.BV HK BP);change Code.wp _ _ _ _ (w1.alloc (kg q.2.err q.2.at_ q.2.n (XJ S z.length H) (XJ P q.2.days.length G) (XJ L q.2.granted.length E) (XJ I q.2.ended.length C)));have ad:=aB (RD _ (T.lx.ds.doc T.hi T.bp));have z3:=aT ((zr _ w1).alloc aJ (kg q.2.err q.2.at_ q.2.n (XJ S z.length H) (XJ P q.2.days.length G) (XJ L q.2.granted.length E) (XJ I q.2.ended.length C))) z1;have z4:=aT ((zr _ w1).alloc aJ (kg q.2.err q.2.at_ q.2.n (XJ S z.length H) (XJ P q.2.days.length G) (XJ L q.2.granted.length E) (XJ I q.2.ended.length C))) z2;generalize w1.alloc (kg q.2.err q.2.at_ q.2.n (XJ S z.length H) (XJ P q.2.days.length G) (XJ L q.2.granted.length E) (XJ I q.2.ended.length C))=W1 at *;generalize w1.heap.size=Q at *;go_upto_region 6 with (first|(go_at_call 25;refine ad.mono ?_;rintro e w2 dd;have ae:=aB dd;obtain⟨y1,y2,y3,y4,ai,F',rfl,tl,nv,_⟩:=dd;obtain⟨le,ev,_⟩:=tl.en;obtain⟨f1,g2,rfl⟩:=ev.form;obtain⟨f2,g3,rfl⟩:=tl.da.form;obtain⟨f3,g4,rfl⟩:=nv.form;obtain⟨f4,g5,rfl⟩:=tl.ed.form;simp only[bU]));change Code.wp _ _ _ _ (w2.alloc (kg q.2.err q.2.at_ q.2.n (XJ f1 le.length g2) (XJ f2 q.2.days.length g3) (XJ f3 q.2.granted.length g4) (XJ f4 q.2.ended.length g5)));obtain⟨aj,D',l,m⟩:=T.BU ae;have M2:=aB m;obtain⟨a0,a1,a2,a3,a4,a5,a6⟩:=r7 m.hQ;obtain⟨s0,s1,s2,s3,s4,s5,s6⟩:=r7 m.hR;have SR:=aB (Su _ q.2 OK.1 _ _ _ _ _ _ _ _ (m.rl.bU m.hl) m.rv);simp only[bU] at SR;generalize w2.alloc (kg q.2.err q.2.at_ q.2.n (XJ f1 le.length g2) (XJ f2 q.2.days.length g3) (XJ f3 q.2.granted.length g4) (XJ f4 q.2.ended.length g5))=W2 at *;generalize w2.heap.size=R at *;go_upto_region 7 with (first|(go_at_call 26;refine SR.mono ?_;rintro e w3 ⟨rfl,y⟩;have M3:=aB (M2.later y);clear y a0 a1 a2 a3 a4 a5 a6 s0 s1 s2 s3 s4 s5 s6 SR));obtain⟨a0,a1,a2,a3,a4,a5,a6⟩:=r7 M3.hQ;have KP:=aB ((M3.later (eN w3)).jh hn OK.1 OK.2);go_region_law (first
   |(refine rD (by rfl) 27 _ _ (by rfl) _ (by simp[Act.eval]) (P3 _ _) KP ?_;rintro e w4 ⟨rfl,h4⟩;refine⟨_,rfl,?_⟩;have H4:=aB h4;clear h4))
  all_goals go_wp2;go_ret;exact⟨rfl,H4⟩
end
theorem OV(s:Xn)(w:XA)(A:Env w):XE prog 22 #[s] w fun e w'=>PR s e/\XD w w w':=by
 have q:=hide A;go_in;go_wp21;refine (J8 s w (aO q)).mono ?_;rintro e w1 ⟨z,a⟩
 cases z with
 |long h =>have c:=hide h;go_wp2;go_ret3;exact⟨.inl ⟨c,rfl⟩,a⟩
 |bad h v st hl hb =>have C:=hide (GW hl hb);have c:=hide h;go_wp2;go_ret3;exact⟨.inr ⟨c,.inr ⟨st.1,C,rfl⟩⟩,a⟩
 |rV h v st hl h2 hb =>
  let⟨p,xs,hsc,hpw,x0,x1,hout⟩:=Oh hl h2 hb;have f:(jn xs).size<=30000:=by have ⟨l1,l2⟩:=CI _ _ _ _ hsc;have u:=CF p (Txt.aC s) l1 l2 (fun x y=>XV (xY s x y) h) (Txt.aC s).length aJ;rw[hout] at u;have:=J4 s;omega
  have m:=hide hsc;have b:=hide hout;have c:=hide h;have o:=hide hpw;go_wp21;refine aK (Rw v xs (aO o) w1 ((aO q).later a) x0 x1 f) fun E j=>?_;have g:=iX a j;go_wp2;go_ret3;exact⟨.inr ⟨c,.inl ⟨p,m,by rw[b];rfl⟩⟩,g⟩
theorem NN{s:Xn}{e:Ending}(h:PR s e):∃ (t:Xn)(k m:N),e=XR (.tuple #[t,k,m]):=by grind[PR]
theorem NP{s:Xn}{e f:Ending}(h:PR s e)(k:PR s f):f=e:=by grind[PR]
theorem Qf(s:Xn)(w:XA)(g:Env w):XE prog 11 #[s] w fun e w'=>e=XR Xz/\XD w w w':=by
 have j:=hide g;clear g;go_in;go_wp21;refine (OV s w (aO j)).mono ?_;rintro e w1 ⟨f,a⟩;have o:=hide f;obtain⟨t,k,m,rfl⟩:=NN f;clear f;go_wp21;refine (IG s w1 ((aO j).later a)).mono ?_;rintro e p ⟨h,c⟩;obtain rfl:=NP (aO o) h;have b:=iX a c;clear h o;go_wp2;go_ret;exact⟨fK Xc,b⟩
theorem OY(p:XC)(a y m d:N)(s:Xn)(w:XA)(g:Env w):XE prog 6 #[p,.agg #[V Y 3,a,y,m,d,s]] w fun e w'=>e=XR Xz/\XD w w w':=by
 have c:∀ o,XD w w (w.alloc o):=fun o=>fJ.alloc aJ o;have f:=hide c;clear c;go_in;go_wp21;refine aK (Qf _ _ (g.later (aO f _))) fun w' b=>?_;go_wp2;go_ret;exact⟨rfl,(aO f _).trans (b.mono Xc)⟩
section
variable {w0 w w':XA}{B n:Xr}
theorem N7(h:LW w0 w B n)(x:wU)(G:B8 x)(L:1<=x.k)(hk:x.k<=6)(H:n+64<=900000000):XE prog 6 #[B,.agg #[V Y x.k,V Y x.a,x.y,V Y x.m,V Y x.d,x.s]] w fun e w'=>e=XR Xz/\LW w0 w' B (n+64):=by
 have X:XD w.heap.size w (w.alloc (qJ x)):=aS;have z:=aB (h.later X);have C:=dH w (qJ x);have CL:Hid (∀ W,XD (w.alloc (qJ x)).heap.size (w.alloc (qJ x)) W->W.cell? ⟨w.heap.size,0,Xw⟩=U (V Y x.k)/\W.cell? ⟨w.heap.size,1,Xw⟩=U (V Y x.a)/\W.cell? ⟨w.heap.size,5,Xw⟩=U (XK x.s)):=fun W k=>by have b:=(k.block _ (Array.getElem?_eq_some_iff.1 C).1).trans C;exact⟨bO b 0 rfl,bO b 1 rfl,bO b 5 rfl⟩
 obtain⟨c0,c1,c5⟩:=CL _ fJ;have g:=h;have I:x.k=1\/x.k=2\/x.k=3\/x.k=4\/x.k=5\/x.k=6:=O;clear X C h hk L;obtain⟨k,a,y,m,d,s⟩:=x;obtain⟨f,c,S,P,aa⟩:=G;dsimp only at *;rcases I with rfl|rfl|rfl|rfl|rfl|rfl
 .exact (N9 _ _ _ _ _ _ _ g.env.jO).mono (by rintro e w1 ⟨rfl,b⟩;exact⟨rfl,(g.later b).more (Nat.le_add_right n 64)⟩)
 .exact (OJ _ _ _ _ _ _ _ g.env.jO S P).mono (by rintro e w1 ⟨rfl,b⟩;exact⟨rfl,(g.later b).more (Nat.le_add_right n 64)⟩)
 .exact (OY _ _ _ _ _ _ _ g.env).mono (by rintro e w1 ⟨rfl,b⟩;exact⟨rfl,(g.later b).more (Nat.le_add_right n 64)⟩)
 .go_in
  go_upto_region 1 with fail;change Code.wp _ _ _ _ (w.alloc (qJ ⟨4,a,y,m,d,s⟩));generalize w.alloc (qJ ⟨4,a,y,m,d,s⟩)=W at *;go_wp2_with (first|(go_at_call 5;refine (IU z).mono ?_;rintro e w1 ⟨rfl,q⟩;have j:=aB q;clear q));go_ret;exact⟨rfl,j.more (Nat.le_add_right n 64)⟩
 .go_in
  go_upto_region 1 with fail;change Code.wp _ _ _ _ (w.alloc (qJ ⟨5,a,y,m,d,s⟩));generalize w.alloc (qJ ⟨5,a,y,m,d,s⟩)=W at *;go_wp2_with (first|(go_at_call 12;refine (CJ z f c _ H).mono ?_;rintro e w1 ⟨rfl,q⟩;have j:=aB q;clear q));go_ret;exact⟨rfl,j⟩
 .have PL:=aB (IG s _ z.env)
  have A:Hid (∀ e,PR s e->∃ t u at_,e=XR (.tuple #[XK t,V Y u,V Y at_])/\((u=0)\/(u != 0)=Xz)):=fun e he=>by
   rcases he with ⟨_,rfl⟩|⟨_,⟨p,E,rfl⟩|⟨m,_,rfl⟩⟩
   .exact⟨_,_,_,rfl,.inr rfl⟩
   .exact⟨_,_,_,rfl,.inl rfl⟩
   .exact⟨_,_,_,rfl,.inr rfl⟩
  go_in;go_upto_region 1 with fail;change Code.wp _ _ _ _ (w.alloc (qJ ⟨6,a,y,m,d,s⟩));generalize w.alloc (qJ ⟨6,a,y,m,d,s⟩)=W at *;go_upto_region 14 with (first|(go_at_call 13;refine PL.mono ?_;rintro e w1 ⟨E,b⟩;obtain⟨t,u,at_,rfl,hc⟩:=A.out e E;have j:=aB (z.later b);have C1:=aB (CL _ b);have HC:=aB hc;clear E b hc c0 c1 c5));obtain⟨c0,c1,c5⟩:=C1;rcases HC with rfl|he
  .go_wp2_with (first|(go_at_call 12;refine (CJ j f c _ H).mono ?_;rintro e w2 ⟨rfl,o⟩;have T:=aB o;clear o))
   go_ret;exact⟨rfl,T⟩
  .go_wp2_with (first|(go_at_call 12;refine (CJ j f c _ H).mono ?_;rintro e w2 ⟨rfl,o⟩;have T:=aB o;clear o))
   go_ret;exact⟨rfl,T⟩
theorem Ou(A:Env w){a:M}(y:CO w a0 a)(hl:a<=1900000):XE prog 4 #[XJ a0 a cap,V Y 1,V Y 6] w fun e w'=>e=XR (.bool Xz)/\XD w.heap.size w w':=by
 have H:=aB (LW.start A);have I:Hid (∀ W m k,k<a->LW w W w.heap.size m->∃ b c x,a0=U ⟨b,c,Xw⟩/\vA W b (c+k*6) x/\B8 x):=fun W m k z E=>by obtain⟨b,c,x,e,h,j⟩:=y k z;exact⟨b,c,x,e,h.later E.bl,j⟩
 clear y A;go_in;go_upto_region 2 with fail;change Code.wp _ _ _ _ (w.alloc zW);generalize w.alloc zW=W at *;go_wp2_with (first|(go_at_call 5;refine (IU H.out).mono ?_;rintro e w1 ⟨rfl,h⟩;have S:=aB h;clear h));generalize w.heap.size=B at *;go_loopw [9,10,11] (fun v _ _ wr=>∃ k:M,k<=a/\v=V Y k/\LW w wr B (k*64)) (fun v _ _ _=>a-(intOf v).toNat)
 case atStart=>exact⟨0,Nat.zero_le _,rfl,by simpa using S.out⟩
 case round =>
  obtain⟨k,z,rfl,f⟩:=hrel;have o:=aB f;by_cases q:k<a
  .have g:(k:N)<(a:N):=O
   obtain⟨b,c,x,rfl,p,u⟩:=I.out wr _ k q f;obtain⟨o0,o1,o2,o3,o4,X⟩:=p;have G:=aB u;clear u f;by_cases h:x.k<1
   .go_wp2_with fail
    exact⟨⟨k+1,by omega,by go_num,o.out.more O⟩,by simp[intOf];omega⟩
   .by_cases h6:6<x.k
    .go_wp2_with fail
     exact⟨⟨k+1,by omega,by go_num,o.out.more O⟩,by simp[intOf];omega⟩
    .go_wp2_with (first
      |(go_at_call 6;refine (N7 o.out x G.out O O O).mono ?_;rintro e T ⟨rfl,j⟩;have P:=aB j;clear j)
      |(go_at_call 7;refine (P.out.looks O).mono ?_;rintro e w3 ⟨rfl,C⟩;have L:=aB C;clear C))
     exact⟨⟨k+1,by omega,by go_num,by rw[Nat.add_mul,Nat.one_mul];exact L.out⟩,by simp[intOf];omega⟩
  .have g:¬ (k:N)<(a:N):=O
   clear f;go_wp2;go_ret;exact⟨rfl,o.out.bl⟩
theorem OU{a:M}(f:Env w)(b:CO w a0 a)(c:a<=1900000):XE prog 3 #[XJ a0 a cap] w fun e w'=>e=XR Xz/\XD w w w':=by
 have HP:=aB (Ou (cap:=cap) f b c);go_in;go_wp21;refine HP.mono ?_;rintro e h ⟨rfl,g⟩;go_wp21;go_ret;exact⟨rfl,g⟩
end
end Go.Proofs.YtolaacmheeaadaaGreatDoor
