import Derived.Test.YtfigmlfdnickmaaGreatDoorL11
set_option maxRecDepth 100000
set_option maxHeartbeats 8000000
open Go.Proofs.Tryz
open _root_ renaming ByteArray->XK,List->XL,Nat->XP,Int->XQ,Int->N,Nat->M,List->J
open Option renaming none->XU,some->XV,some->U
open Bool renaming false->XW,true->XX
open Go renaming World->XY,Value->XZ,Calls->X4
open Go.RowKit renaming Below->X0
open List renaming mem_cons->Yu,getD->Zm,mem_map->Zh,length_map->ZE,getElem?_eq_getElem->ZV,length_cons->Y0,length_nil->Y7,cons_append->YH,foldl_cons->ZT
open Nat renaming le_trans->Yk,zero_le->Zd
open And renaming intro->Yz
open Go.IntKind renaming i64->Yf,i64->Y
open Go.Value renaming int->X7,slice->X9,string->Ya,int->V
open Go.Ending renaming returned->Yg
namespace Go.Proofs.YtfigmlfdnickmaaGreatDoor
variable{t:XK}{xs:XL (aA.aO × XP × XP)}{F:XL XP}{Q R cap d g:XP}{aN:XP->Option bH}{a0:Option Addr}{r:Raw}{s:aA.St}{u1 u2 u3 u4 v z1 z2 z3 z4:XZ}{w w' w1 w2:XY}
open Go.RowKit
open aA (aO St bI Inv aV ix)
def jY:J XK:=[lN,lI,lJ,eL,lH,lD,mq,iS,jI,lF,lM,mh]
def rP(t:XK):Prop:=∃ k∈jY,bS (aB.aU t) 0 XW k=XX
def F0(t:XK):(N × N) ⊕ aA.gn->Prop
 |.inl (er,at_)=>(160<t.size/\er=1/\at_=0)\/(t.size<=160/\∃ m:M,jW t=(XU,m)/\er=2/\at_=m)
 |.inr l=>t.size<=160/\∃ q,Full t q/\jj (aB.aU t) q l/\aA.iV l
def ma(s:St):(N × N) ⊕ aA.gn->St × bI
 |.inl (er,at_)=>(s,⟨er,at_,0,[],[],[],[]⟩)
 |.inr l=>ix s l
def Bc:(N × N) ⊕ aA.gn->Prop
 |.inl _=>True
 |.inr l=>rM l=XX
theorem FO{b:TypeId}{a:Array XZ}{l:aA.gn}(ht:b=165\/b=180)(h:LV (.iface b (.agg a)) l):rM l=XX:=by
 generalize c:Value.iface b (.agg a)=v at h;rcases ht with rfl|rfl <;> cases h <;> first|rfl|simp at c
theorem GF(h:rP t):∃ v st,iw (aB.aU t) v st/\rS t st/\(st.2=XW->cU (aB.aU t).length st.1 st.2=XW->∃ q l,Full t q/\jj (aB.aU t) q l/\LV v l/\aA.iV l/\rM l=XX):=by
 let⟨k,hk,h⟩:=h
 have c:∀ {v st},iw (aB.aU t) v st->mW t v st->(∀ l,LV v l->rM l=XX)->∃ v st,iw (aB.aU t) v st/\rS t st/\(st.2=XW->cU (aB.aU t).length st.1 st.2=XW->∃ q l,Full t q/\jj (aB.aU t) q l/\LV v l/\aA.iV l/\rM l=XX):=fun {v st} p m o=>⟨v,st,p,m.1,fun a b=>by
  let⟨q,l,x1,x2,x3,x4⟩:=m.2 a b
  exact⟨q,l,x1,x2,x3,x4,o l x3⟩⟩
 simp only[jY,Yu,List.not_mem_nil,or_false] at hk;rcases hk with rfl|rfl|rfl|rfl|rfl|rfl|rfl|rfl|rfl|rfl|rfl|rfl
 .exact c (.bA h) (Pd h) (fun l f=>by cases f;rfl)
 .exact c (.book h) (Oh h) (fun l f=>by cases f;rfl)
 .exact c (.cancel h) (Pm h) (fun l f=>by cases f;rfl)
 .cases j:cU (aB.aU t).length (aW (aB.aU t) [bV] (1,XW)).1 (aW (aB.aU t) [bV] (1,XW)).2
  .exact c (.list0 h j) (OI h j) (fun l f=>by cases f;rfl)
  .exact c (.list1 h j) (OJ h j) (fun l f=>by cases f;rfl)
 .exact c (.dN h) (Oj h) (fun l f=>by cases f;rfl)
 .exact c (.find h) (N9 h) (fun l f=>by cases f;rfl)
 .exact c (.clock h) (OB h) (fun l f=>by cases f;rfl)
 .let⟨pc,ev,acc,fr,mn,mi,ti,un,st,hr⟩:=F9 (aB.aU t) (aW (aB.aU t) [bV,dM] (1,XW));exact c (.series h pc ev acc fr mn mi ti un st hr) (M9 h hr) (fun l f=>FO (.inl rfl) f)
 .let⟨pc,ev,acc,fr,mn,mi,ti,un,st,hr⟩:=F9 (aB.aU t) (1,XW);exact c (.expand h pc ev acc fr mn mi ti un st hr) (M8 h hr) (fun l f=>FO (.inr rfl) f)
 .exact c (.hold h) (MA h) (fun l f=>by cases f;rfl)
 .exact c (.bF h) (Nn h) (fun l f=>by cases f;rfl)
 .exact c (.tick h) (MF h) (fun l f=>by cases f;rfl)
theorem Oz(h:rP t):∃ o,Ct t o/\F0 t o/\Bc o:=by
 by_cases b:160<t.size
 .exact⟨.inl (1,0),⟨by decide,.inl ⟨rfl,rfl⟩,fun e a=>Eh a (.long b)⟩,.inl ⟨b,rfl,rfl⟩,trivial⟩
 .let⟨v,st,hl,hn,hd⟩:=GF h
  by_cases c:st.2=XX\/cU (aB.aU t).length st.1 st.2=XX
  .exact⟨.inl (2,st.1),⟨by decide,.inr ⟨rfl,O⟩,fun e a=>Eh a (.bad O v st hl c)⟩,.inr ⟨O,st.1,hn c,rfl,rfl⟩,trivial⟩
  .have j:st.2=XW:=by cases e:st.2 <;> simp_all
   have f:cU (aB.aU t).length st.1 st.2=XW:=by cases e:cU (aB.aU t).length st.1 st.2 <;> simp_all
   let⟨q,l,x1,x2,x3,x4,x5⟩:=hd j f;exact⟨.inr l,⟨v,fun e a=>Eh a (.rW O v st hl j f),x3,x4⟩,⟨O,q,x1,x2,x4⟩,x5⟩
theorem N5(t:XK):yv t:=fun X a=>VI t X a
theorem OE{m:Raw}(h:eh w d s m aN)(ht:ig w)(j:10<=w.heap.size){f:XZ}{l:aA.gn}(o:LV f l)(c:aA.iV l)(p:rM l=XX):
  X4 prog 64 #[d,f] w fun e w'=>∃ v,e=Yg v/\dS w d aN (aA.aV s l) v w':=by
 cases o with
 |bA name hn u=>exact Ww h name hn u
 |book name hn u fr til=>exact VZ h name hn u fr til c
 |cancel id=>exact WG h id c
 |list name hn wi fr til a b ha hb=>exact V4 h name hn wi fr til a b ha hb
 |dN name hn fr til=>exact V5 h name hn fr til c
 |find name hn u long fr til=>exact V1 h name hn u long fr til c
 |clock=>exact Wv h
 |series name hn u r=>exact WI h ht j name hn u r c
 |expand r=>exact WH h ht j r c
 |hold name hn u fr til long=>exact V2 h name hn u fr til long c
 |bF id=>exact Xb h id c
 |tick n=>exact V6 h n c
 |_=>cases p
theorem Nx{p:M}(h:BD w p d s r aN)(c:yv t){o:(N × N) ⊕ aA.gn}(ht:Ct t o)(f:Bc o):
  X4 prog 21 #[p,t] w fun e w'=>∃ v,e=Yg v/\nf w p d aN (ma s o) v w':=by
 cases o with
 |inl q =>
  let⟨er,at_⟩:=q;exact Og h t er at_ c ht.1 ht.2.2
 |inr l =>
  let⟨line,h1,h2,h3⟩:=ht;exact OH h t line l c h1 (aA.CV h.ds.inv h3) (aA.SY h.ds.inv h3) (aA.Cv h.ds.inv.aY l) (fun _ ht b a=>OE a ht b h2 h3 f)
theorem Gv{X:XY}(b:∀ (j:M)(a:j<(aB.aU t).length),X.cell? (g,j)=U (Ya (aB.aU t)[j])){j:M}(a:j<(aB.aU t).length):X.cell? (g,j)=U (Ya ((aB.aU t).getD j ByteArray.empty)):=by
 rw[b j a];simp[Zm,a]
theorem Full.head{k:XK}{R:J XK}(h:Full t (k :: R))(a:jm k=XX):(aB.aU t).getD 0 ByteArray.empty=k :=
 Np (by rw[oK,<- iL k a];exact wu (Q:=[]) h.all)
theorem Nz(s:St)(l:aA.gn):(aV s l).2.at_=0:=by
 cases l <;> simp only[aV] <;> (repeat' split) <;> rfl
theorem Bq(h:Inv s):(s.es.length:N)<=s.given:=by
 have b:(s.es.map fun e:aO=>e.id).Pairwise (· < ·):=h.ids
 have:=DE _ 1 s.given b (fun x a=>by
  obtain⟨e,c,rfl⟩:=Zh.1 a;have f:=h.lS e c
  omega)
 have:=h.g0;rw[ZE] at *;omega
theorem N4(h:DD w d s xs F)(x:Inv s)(hs:t.size<=160){q:J XK}{l:aA.gn}(y:Full t q)(hq:jj (aB.aU t) q l)(E:aA.iV l)(hf:rM l=XX)(X:XY)(g c:M)(k:X0 w w X)(T:∀ (j:M)(A:j<(aB.aU t).length),X.cell? (g,j)=U (Ya (aB.aU t)[j])):
  X4 prog 117 #[d,X9 g (aB.aU t).length c] X (ec X d F xs (aV s l)):=by
 have o:=y.len;have u:=h.later k
 have z:∀ j,((aB.aU t).getD j ByteArray.empty).size<=160:=fun j=>by
  by_cases A:j<(aB.aU t).length
  .simp only[Zm,A,ZV,Option.getD_some];exact Yk (zK t _ (zg A)) hs
  .simp[Zm,A]
 have at_:∀ m,X0 X X m->∀ j,j<(aB.aU t).length->m.cell? (g,j)=U (Ya ((aB.aU t).getD j ByteArray.empty)):=fun m a j A=>aR a (Gv T A)
 have a0:=fun (A:0<(aB.aU t).length)=>Gv T A
 have un:=fun name=>(aA.Ff x.tu name).1
 cases hq with
 |bA =>
  have p:=y.head XE;simp only[Y0,Y7] at o;refine pL u (f:=172) O (a0 O) (by rw[p];simp[nZ,lN]) (fun m a=>?_);exact PN (u.later a) O (z 2) (un _) (at_ m a 1 O) (at_ m a 2 O)
 |book =>
  have p:=y.head XE;simp only[Y0,Y7] at o;obtain⟨_,u1,u2,S,P,H,G⟩:=E;refine pL u (f:=173) O (a0 O) (by rw[p];simp[nZ,lI]) (fun m a=>?_);have I:Be m g (aB.aU t).length ((aB.aU t).getD 0 ByteArray.empty) 1 0:=⟨by rw[p];decide +kernel,by rw[p];decide +kernel,.inl ⟨rfl,rfl⟩,O⟩;exact Gs (u.later a) ⟨x.g0,x.g1⟩ (Bq x) ⟨x.n0,x.n1⟩ I O (z 2) (z 3) (z 4) ⟨u1,u2⟩ ⟨H,G⟩ (at_ m a 0 O) (at_ m a 1 O) (at_ m a 2 O) (at_ m a 3 O) (at_ m a 4 O)
 |cancel =>
  have p:=y.head XE;simp only[Y0,Y7] at o;refine pL u (f:=175) O (a0 O) (by rw[p];simp[nZ,lJ]) (fun m a=>?_);exact Gh (u.later a) x.ids XX (by rw[p];decide +kernel) (z 1) O (at_ m a 0 O) (at_ m a 1 O)
 |list0 =>
  have p:=y.head XE;simp only[Y0,Y7] at o;refine pL u (f:=177) O (a0 O) (by rw[p];simp[nZ,eL]) (fun m a=>?_);exact B8 (u.later a) x.ids (b:=XX) (by rw[p];decide +kernel) O (.inl ⟨O,rfl,rfl,rfl⟩) (at_ m a 0 O) (at_ m a 1 O)
 |list1 =>
  have p:=y.head XE;simp only[Y0,Y7] at o;refine pL u (f:=177) O (a0 O) (by rw[p];simp[nZ,eL]) (fun m a=>?_);exact B8 (u.later a) x.ids (b:=XX) (by rw[p];decide +kernel) O (.inr ⟨O,_,_,z 2,z 3,at_ m a 2 O,at_ m a 3 O,rfl,rfl⟩) (at_ m a 0 O) (at_ m a 1 O)
 |dN =>
  have p:=y.head XE;simp only[Y0,Y7] at o;refine pL u (f:=177) O (a0 O) (by rw[p];simp[nZ,lH]) (fun m a=>?_);exact B8 (u.later a) x.ids (b:=XW) (by rw[p];decide +kernel) O (.inr ⟨O,_,_,z 2,z 3,at_ m a 2 O,at_ m a 3 O,rfl,rfl⟩) (at_ m a 0 O) (at_ m a 1 O)
 |find =>
  have p:=y.head XE;simp only[Y0,Y7] at o;obtain⟨u1,u2,m1,W,S,P,H,G⟩:=E;refine pL u (f:=178) O (a0 O) (by rw[p];simp[nZ,lD]) (fun m a=>?_);exact Pq (u.later a) O (z 2) (z 3) (z 4) (z 5) ⟨O,u2⟩ ⟨O,W⟩ ⟨S,P⟩ (at_ m a 1 O) (at_ m a 2 O) (at_ m a 3 O) (at_ m a 4 O) (at_ m a 5 O)
 |clock =>
  have p:=y.head XE;simp only[Y0,Y7] at o;exact PS u O (by rw[a0 O,p];rfl)
 |series hr hn =>
  have C:=y;simp only[nG,YH] at C;have p:=C.head XE;obtain⟨u1,u2,L⟩:=E;refine pL u (f:=174) O (a0 O) (by rw[p];simp[nZ,iS]) (fun m a=>?_);exact Ob (u.later a) ⟨x.g0,x.g1⟩ (Bq x) (ws:=fun j=>(aB.aU t).getD j ByteArray.empty) (fun j A=>at_ m a j A) z hr O ⟨u1,u2⟩ L
 |expand hr hn =>
  have C:=y;simp only[oI,YH,List.nil_append] at C;have p:=C.head XE;exact OA u (ws:=fun j=>(aB.aU t).getD j ByteArray.empty) (fun j A=>at_ X fo j A) z hr O p E
 |hold =>
  have p:=y.head XE;simp only[Y0,Y7] at o;obtain⟨aa,u1,u2,S,P,H,G⟩:=E;refine pL u (f:=173) O (a0 O) (by rw[p];simp[nZ,lF]) (fun m a=>?_);have I:Be m g (aB.aU t).length ((aB.aU t).getD 0 ByteArray.empty) 2 (bT ((aB.aU t).getD 5 ByteArray.empty) 1 7):=⟨by rw[p];decide +kernel,by rw[p];decide +kernel,.inr ⟨.inl rfl,O,_,z 5,at_ m a 5 O,rfl⟩,O⟩;exact Gs (u.later a) ⟨x.g0,x.g1⟩ (Bq x) ⟨x.n0,x.n1⟩ I O (z 2) (z 3) (z 4) ⟨u1,u2⟩ ⟨H,G⟩ (at_ m a 0 O) (at_ m a 1 O) (at_ m a 2 O) (at_ m a 3 O) (at_ m a 4 O)
 |bF =>
  have p:=y.head XE;simp only[Y0,Y7] at o;refine pL u (f:=175) O (a0 O) (by rw[p];simp[nZ,lM]) (fun m a=>?_);exact Gh (u.later a) x.ids XW (by rw[p];decide +kernel) (z 1) O (at_ m a 0 O) (at_ m a 1 O)
 |tick =>
  have p:=y.head XE;simp only[Y0,Y7] at o;exact M7 u x O (by rw[a0 O,p];rfl) (at_ X fo 1 O) (z 1) E
 |_=>cases hf
theorem On(h:DD w d s xs F)(y:Inv s){o:(N × N) ⊕ aA.gn}(ht:F0 t o)(A:Bc o):
  X4 prog 75 #[d,t] w (qi w d F xs (ma s o)):=by
 cases o with
 |inl q =>
  let⟨er,at_⟩:=q;rcases ht with ⟨j,rfl,rfl⟩|⟨j,m,x,rfl,rfl⟩
  .exact Hc h t XC (fun X=>(H8 t X j).mono (by rintro e w1 ⟨rfl,rfl⟩;exact⟨rfl,Below.refl _ _⟩))
  .exact Hc h t XC (fun X=>(Ci t X j).mono (by
    rintro e w1 ⟨z,E⟩;rcases z with ⟨p,a,b,c,d,g,h,f,_⟩|⟨G,f,rfl⟩
    .rw[x] at f;cases f
    .rw[x] at f;simp only[Prod.mk.injEq,true_and] at f;subst f
     exact⟨rfl,E⟩))
 |inr l =>
  let⟨j,q,h2,h3,h4⟩:=ht;have u:0<(aB.aU t).length:=by rw[h2.len];cases h3 <;> simp[nG,oI]
  exact Px h t j h2.sc u (q:=aV s l) (Nz s l) (aA.Cv y.aY l) (fun X g c k C=>N4 h y j h2 h3 h4 A X g c k C)
open aA (aO bI)
structure rO(w:XY)(p:bI)(v1 v2 v3 v4:XZ):Prop where
 en:∃ l,EV w v1 l/\l.map (·.1)=p.entries
 da:NV w v2 p.days
 gr:NV w v3 p.granted
 ed:NV w v4 p.ended
theorem rO.later{p:bI}{v1 v2 a v4:XZ}(h:rO w p v1 v2 a v4)(k:X0 w w w'):rO w' p v1 v2 a v4:=by
 let⟨l,h1,h2⟩:=h.en;exact⟨⟨l,h1.later k,h2⟩,h.da.later k,h.gr.later k,h.ed.later k⟩
structure yu(p:bI):Prop where
 en:p.entries.length<=1000
 sp:∀ e∈p.entries,e.aQ.length<=1000
 da:p.days.length<=1000000
 gr:p.granted.length<=1000000
 ed:p.ended.length<=1000000
 er:p.err≠0->p.entries=[]/\p.days=[]/\p.granted=[]/\p.ended=[]
def uF(p:bI)(v1 v2 b a:XZ):Obj:=.cells #[p.err,V Y p.at_,V Y p.n,v1,v2,b,a] 40 (0,0)
theorem Qh(w:XY)(p:bI)(j:yu p)(u1 u2 u3 u4 v1 v2 P L:XZ)(a:rO w p u1 u2 u3 u4)(c:rO w p v1 v2 P L):
  X4 prog 76 #[bJ p.err p.at_ p.n u1 u2 u3 u4,bJ p.err p.at_ p.n v1 v2 P L] w fun e w'=>e=Yg XX/\X0 w w w':=by
 have H:=aC (((KP.nil w).alloc (uF p u1 u2 u3 u4)).alloc (uF p v1 v2 P L));obtain⟨l,el,G⟩:=a.en;obtain⟨m,em,S⟩:=c.en;obtain⟨a1,c1,e1⟩:=el.form;obtain⟨a2,c2,e2⟩:=a.da.form;obtain⟨a3,c3,e3⟩:=a.gr.form;obtain⟨a4,c4,e4⟩:=a.ed.form;obtain⟨b1,d1,f1⟩:=em.form;obtain⟨b2,d2,f2⟩:=c.da.form;obtain⟨b3,d3,f3⟩:=c.gr.form;obtain⟨b4,d4,f4⟩:=c.ed.form;subst e1 e2 e3 e4 f1 f2 f3 f4;have z:l.length=p.entries.length:=by rw[<- G,ZE]
 have T:m.length=p.entries.length:=by rw[<- S,ZE]
 have E1:=aC (fun W (k:X0 w w W)=>Qk l m _ _ W (el.later k) (em.later k) (by rw[G,S]) (by have:=j.en;omega) (fun q hq=>j.sp q.1 (G ▸ Zh.2 ⟨q,hq,rfl⟩)));have E2:=aC (fun W (k:X0 w w W)=>Ch p.days _ _ W (a.da.later k) (c.da.later k) j.da);have E3:=aC (fun W (k:X0 w w W)=>Ch p.granted _ _ W (a.gr.later k) (c.gr.later k) j.gr);have E4:=aC (fun W (k:X0 w w W)=>Ch p.ended _ _ W (a.ed.later k) (c.ed.later k) j.ed)
 have ER:Hid (p.err≠0->l.length=0/\p.days.length=0/\p.granted.length=0/\p.ended.length=0):=fun h=>by
  obtain⟨h1,h2,h3,h4⟩:=j.er h;rw[z,h1,h2,h3,h4];simp
 clear a c el em G S z T j;simp only[bJ]
 go_in
 go_upto_region 1 with fail
 rw[World.size_alloc] at H;change Code.wp _ _ _ _ ((w.alloc (uF p (X9 a1 l.length c1) (X9 a2 p.days.length c2) (X9 a3 p.granted.length c3) (X9 a4 p.ended.length c4))).alloc (uF p (X9 b1 m.length d1) (X9 b2 p.days.length d2) (X9 b3 p.granted.length d3) (X9 b4 p.ended.length d4)));generalize (w.alloc (uF p (X9 a1 l.length c1) (X9 a2 p.days.length c2) (X9 a3 p.granted.length c3) (X9 a4 p.ended.length c4))).alloc (uF p (X9 b1 m.length d1) (X9 b2 p.days.length d2) (X9 b3 p.granted.length d3) (X9 b4 p.ended.length d4))=X at *
 have y:Hid (∀ W,X0 X X W->(W.cell? (w,3)=U (X9 a1 l.length c1)/\W.cell? (w,4)=U (X9 a2 p.days.length c2)/\W.cell? (w,5)=U (X9 a3 p.granted.length c3)/\W.cell? (w,6)=U (X9 a4 p.ended.length c4))/\(W.cell? (w.heap.size+1,3)=U (X9 b1 m.length d1)/\W.cell? (w.heap.size+1,4)=U (X9 b2 p.days.length d2)/\W.cell? (w.heap.size+1,5)=U (X9 b3 p.granted.length d3)/\W.cell? (w.heap.size+1,6)=U (X9 b4 p.ended.length d4))/\(W.cell? (w,0)=U ↑p.err/\W.cell? (w,1)=U (V Y p.at_)/\W.cell? (w,2)=U (V Y p.n))/\W.cell? (w.heap.size+1,0)=U ↑p.err/\W.cell? (w.heap.size+1,1)=U (V Y p.at_)/\W.cell? (w.heap.size+1,2)=U (V Y p.n)):=fun W k=>by
  have f:=H.later k;have a:=(f.swap);exact⟨⟨a.hc 3 rfl,a.hc 4 rfl,a.hc 5 rfl,a.hc 6 rfl⟩,⟨f.hc 3 rfl,f.hc 4 rfl,f.hc 5 rfl,f.hc 6 rfl⟩,⟨a.hc 0 rfl,a.hc 1 rfl,a.hc 2 rfl⟩,f.hc 0 rfl,f.hc 1 rfl,f.hc 2 rfl⟩
 have BX:=aC H.bl;clear H;obtain⟨⟨x3,_,_,_⟩,⟨y3,_,_,_⟩,_⟩:=y X fo
 go_wp21
 refine aK (E1 _ BX) fun w1 b=>?_;obtain⟨⟨_,x4,_,_⟩,⟨_,y4,_,_⟩,_⟩:=y w1 b;have I:=aC (Yz (bM BX b aI) b);clear b x3 y3
 go_wp21
 refine aK (E2 _ I.1) fun w2 x=>?_;have E:=aC (Yz (bM I.1 x aI) (bM I.2 x aI));obtain⟨⟨_,_,x5,_⟩,⟨_,_,y5,_⟩,_⟩:=y w2 E.2;clear x x4 y4 I
 go_wp21
 refine aK (E3 _ E.1) fun w3 u=>?_;have C:=aC (Yz (bM E.1 u aI) (bM E.2 u aI));obtain⟨⟨_,_,_,x6⟩,⟨_,_,_,y6⟩,_⟩:=y w3 C.2;clear u x5 y5 E
 go_wp21
 refine aK (E4 _ C.1) fun w4 o=>?_;have B4:=aC (bM C.1 o aI);clear x6 y6;obtain⟨⟨x3,x4,x5,x6⟩,_,⟨x0,x1,x2⟩,y0,y1,y2⟩:=y w4 (bM C.2 o aI);clear o C y E1 E2 E3 E4
 by_cases A:p.err=0
 .have aa:(p.err==0)=XX:=by simp[A]
  clear A
  go_wp21
  all_goals
   go_ret;exact⟨by simp,B4⟩
 .have aa:(p.err==0)=XW:=by simp[A]
  obtain⟨h1,h2,h3,h4⟩:=ER A;clear A
  go_wp21
  all_goals
   go_ret;exact⟨by simp,B4⟩
open aA (aO St bI Inv)
theorem OY(c n:N)(w:XY)(q:-9223372036854775808<=c)(p:c<=9223372036854775807)(f:1<=n)(b:n<=1000000):
  X4 prog 74 #[c,n] w fun e w'=>e=Yg (V Y (mO c n))/\w'=w:=by
 have m:(n==0)=XW:=by simp;omega
 have o:=LN (c:=c) f
 by_cases h:c<0
 .have l:Y.wrap (c+1)=c+1:=yg O O;have j:Y.wrap (-(c+1))=-(c+1):=yg O O;have e:(-(c+1)).tmod n=mO c n:=by unfold mO;rw[if_pos h];exact Int.tmod_eq_emod_of_nonneg O
  have a:Y.wrap (mO c n)=mO c n:=cT O O;generalize mO c n=v at *
  go_in
  go_wp21
  go_ret
  simp_all
 .have e:c.tmod n=mO c n:=by unfold mO;rw[if_neg h];exact Int.tmod_eq_emod_of_nonneg O
  have a:Y.wrap (mO c n)=mO c n:=cT O O;generalize mO c n=v at *
  go_in
  go_wp21
  go_ret
  simp_all
theorem Oy(h:Inv s){o:(N × N) ⊕ aA.gn}(ht:Ct t o):yu (ma s o).2/\(ma s o).2.entries.length<=60/\(ma s o).2.days.length<=900000/\(ma s o).2.granted.length<=900000/\(ma s o).2.ended.length<=900000:=by
 cases o with
 |inl q=>exact⟨⟨by simp[ma],by simp[ma],by simp[ma],by simp[ma],by simp[ma],fun _=>by simp[ma]⟩,by simp[ma]⟩
 |inr l =>
  let⟨line,_,_,hl⟩:=ht;have k:=aA.Bp h hl;have:=k.en;have:=k.gr;have:=k.da;have:=k.ed;show yu (aA.ix s l).2/\(aA.ix s l).2.entries.length<=60/\(aA.ix s l).2.days.length<=900000/\(aA.ix s l).2.granted.length<=900000/\(aA.ix s l).2.ended.length<=900000;refine⟨⟨O,fun e a=>?_,O,O,O,k.er⟩,O,O,O,O⟩;have:=(h.en e (k.es e a)).sl;omega
theorem BD.more{p:M}(h:BD w p d s r aN)(k:X0 w w w'):BD w' p d s r aN :=
 h.off (G:=[]) (aH.aD k) XA (h.env.later k)
theorem nf.later{p:M}{q:St × bI}(h:nf w p d aN q v w1)(k:X0 w1 w1 w'):nf w p d aN q v w':=by
 let⟨r',col',bd,st,rp⟩:=h;exact⟨r',col',bd.more k,st.trans (Step.below k),rp.later k⟩
theorem iO.bJ{K c:J M}{l:J (aO × XZ)}{p:bI}(h:iO w K c u1 u2 u3 u4 l p.days p.granted p.ended)(b:l.map (·.1)=p.entries):rO w p u1 u2 u3 u4 :=
 ⟨⟨l,EV.own h.en (fun p a=>SV.own (h.sp p a)),b⟩,NV.own h.da,NV.own h.gr,NV.own h.ed⟩
theorem NC(a:Array XZ)(w:XY):(callFunc 77 a).run prog w=.ok (.enter 77 a) w:=XF
section
variable {w0 w w1 w':XY}{B n:XP}{tg:XP->Tg}{i:XP}{k:Dk}{D:XL Dk}{K:XL XP}{v0 v1 r1 r2 r3:XZ}{X1 X2 X3:XL KL}
theorem LX.still(h:LX w0 w B n tg D K v0 v1 r1 r2 r3 X1 X2 X3)(j:D[i]?=U k){q:St × bI}(P:nf w k.p k.d k.aN q v w1){b:M}(m:tg b≠.no)(f:tg b≠.pr i):w1.heap[b]?=w.heap[b]?:=by
 let⟨r',col',_,st,_⟩:=P;have a:=h.ds.lt b m;refine st.cF a ?_ a
 cases l:k.aN b with
 |none=>rfl
 |some c=>exact (f ((h.ds.at_ i k j).pc b c l)).elim
theorem LX.more{m:M}(h:LX w0 w B n tg D K v0 v1 r1 r2 r3 X1 X2 X3)(k:n<=m):LX w0 w B m tg D K v0 v1 r1 r2 r3 X1 X2 X3 :=
 ⟨h.ds,h.bk,Yk h.len k,h.xo,h.yo,h.tb,h.tk,h.tx,h.ty,h.d3,h.bl,h.lo,h.qj⟩
theorem r7{a at_ n:N}(h:w.heap[Q]?=U (iZ a at_ n u1 u2 u3 u4)):w.cell? (Q,0)=U ↑a/\w.cell? (Q,1)=U ↑at_/\w.cell? (Q,2)=U ↑n/\w.cell? (Q,3)=U u1/\w.cell? (Q,4)=U u2/\w.cell? (Q,5)=U u3/\w.cell? (Q,6)=U u4 :=
 ⟨bG h 0 rfl,bG h 1 rfl,bG h 2 rfl,bG h 3 rfl,bG h 4 rfl,bG h 5 rfl,bG h 6 rfl⟩
structure Bd(w0 w:XY)(B n:M)(tg:M->Tg)(D:J Dk)(K:J M)(v0 v1 r1 r2 r3:XZ)(X1 X2 X3:J KL)(i:M)(k:Dk)(q:St × bI)(Q:M)(u1 u2 u3 u4:XZ)(W:XY):Prop where
 lx:LX w0 w B n tg D K v0 v1 r1 r2 r3 X1 X2 X3
 hi:D[i]?=U k
 bp:nf w k.p k.d k.aN q (bJ q.2.err q.2.at_ q.2.n u1 u2 u3 u4) W
 hQ:W.heap[Q]?=U (iZ q.2.err q.2.at_ q.2.n u1 u2 u3 u4)
 lo:w<=Q
theorem LX.A9(h:LX w0 w B n tg D K v0 v1 r1 r2 r3 X1 X2 X3)(a:D[i]?=U k){q:St × bI}(P:nf w k.p k.d k.aN q (bJ q.2.err q.2.at_ q.2.n u1 u2 u3 u4) w1):Bd w0 w B n tg D K v0 v1 r1 r2 r3 X1 X2 X3 i k q w1 u1 u2 u3 u4 (w1.alloc (iZ q.2.err q.2.at_ q.2.n u1 u2 u3 u4)) :=
 ⟨h,a,P.later bC,cP _ _,by let⟨_,_,_,st,_⟩:=P;exact st.size⟩
structure uE(w0:XY)(B n:M)(tg:M->Tg)(D:J Dk)(K:J M)(v0 v1 r1 r2 r3:XZ)(X1 X2 X3:J KL)(p:bI)(Q R:M)(u1 u2 u3 u4 z1 z2 z3 z4:XZ)(l:J (aO × XZ))(W:XY):Prop where
 lx:LX w0 W B n tg D K v0 v1 r1 r2 r3 X1 X2 X3
 rl:iO W K (cC B r1 r2 r3) u1 u2 u3 u4 l p.days p.granted p.ended
 hl:l.map (·.1)=p.entries
 no:∀ b∈kC u1 u2 u3 u4 l,tg b=.no/\w0<=b
 rv:rO W p z1 z2 z3 z4
 hQ:W.heap[Q]?=U (iZ p.err p.at_ p.n u1 u2 u3 u4)
 hR:W.heap[R]?=U (iZ p.err p.at_ p.n z1 z2 z3 z4)
theorem uE.later{p:bI}{l:J (aO × XZ)}(h:uE w0 B n tg D K v0 v1 r1 r2 r3 X1 X2 X3 p Q R u1 u2 u3 u4 z1 z2 z3 z4 l w)(k:X0 w w w'):uE w0 B n tg D K v0 v1 r1 r2 r3 X1 X2 X3 p Q R u1 u2 u3 u4 z1 z2 z3 z4 l w' :=
 ⟨h.lx.later k,h.rl.later k,h.hl,h.no,h.rv.later k,(k.block _ (Array.getElem?_eq_some_iff.1 h.hQ).1).trans h.hQ,(k.block _ (Array.getElem?_eq_some_iff.1 h.hR).1).trans h.hR⟩
theorem Bd.A8{q:St × bI}{W:XY}(h:Bd w0 w B n tg D K v0 v1 r1 r2 r3 X1 X2 X3 i k q Q u1 u2 u3 u4 W)(P:qi W k.dd k.F k.xs q (Yg (bJ q.2.err q.2.at_ q.2.n z1 z2 z3 z4)) w2):
  ∃ a m l,uE w0 B n a m K v0 v1 r1 r2 r3 X1 X2 X3 q.2 Q w2 u1 u2 u3 u4 z1 z2 z3 z4 l (w2.alloc (iZ q.2.err q.2.at_ q.2.n z1 z2 z3 z4)):=by
 let⟨k',a,lx,a1,a2,a3,a4,l,hv,hl,hr,hn⟩:=h.lx.both h.hi h.bp P;simp only[bJ,Value.agg.injEq,Array.mk.injEq,List.cons.injEq,true_and,and_true] at hv;obtain⟨rfl,rfl,rfl,rfl⟩:=hv;have b:X0 w2 w2 (w2.alloc (iZ q.2.err q.2.at_ q.2.n z1 z2 z3 z4)):=bC;let⟨y1,y2,y3,y4,xs',F',he,tl,nv,_,_,kd,_⟩:=P;simp only[Ending.returned.injEq,bJ,Value.agg.injEq,Array.mk.injEq,List.cons.injEq,true_and,and_true] at he;obtain⟨rfl,rfl,rfl,rfl⟩:=he;have c:=(Array.getElem?_eq_some_iff.1 h.hQ).1
 have f:w2.heap[Q]?=U (iZ q.2.err q.2.at_ q.2.n u1 u2 u3 u4):=(kd.block Q c (fun j=>by
  have:=h.lx.ds.lt Q (by rw[(h.lx.ds.at_ i k h.hi).df Q j];simp);have:=h.lo
  omega)).trans h.hQ
 exact⟨a,_,l,lx.later b,hr.later b,hl,hn,(rO.mk tl.en tl.da nv tl.ed).later b,(b.block _ (by have:=kd.size;omega)).trans f,cP _ _⟩
theorem uE.hI{p:bI}{l:J (aO × XZ)}(h:uE w0 B n tg D K v0 v1 r1 r2 r3 X1 X2 X3 p Q R u1 u2 u3 u4 z1 z2 z3 z4 l w)(m:n+64<=900000000)(ok:yu p)(a:p.entries.length<=60/\p.days.length<=900000/\p.granted.length<=900000/\p.ended.length<=900000):
  X4 prog 77 #[.pointer (U ⟨B,2,XU⟩),.agg #[p.err,V Y p.at_,V Y p.n,u1,u2,u3,u4]] w fun x w'=>x=Yg (.tuple #[])/\LW w0 w' B (n+64):=by
 have f:l.length=p.entries.length:=by rw[<- h.hl,ZE]
 have b:=h.lx.len;refine (Ov h.lx.bk O h.rl O (fun x c=>?_) a.2.1 a.2.2.1 a.2.2.2 p.err p.at_ p.n).mono ?_
 .have:x.1∈p.entries:=by rw[<- h.hl];exact Zh.2 ⟨x,c,rfl⟩
  have:=ok.sp x.1 this;omega
 .rintro e w4 ⟨rfl,j⟩;exact⟨rfl,(h.lx.more (Nat.le_add_right n 64)).kept O h.no j⟩
theorem BM(h:LW w0 w B n){a:N}(h1:-9223372036854775808<=a)(h2:a<=9223372036854775807)(ht:rP t)(hn:n+64<=900000000):
  X4 prog 54 #[B,a,t] w fun e w'=>e=Yg XX/\LW w0 w' B (n+64):=by
 obtain⟨tg,D,K,v0,v1,r1,r2,r3,X1,X2,X3,f⟩:=h;obtain⟨a0,c0,rfl⟩:=gj f.xo;obtain⟨a1,c1,rfl⟩:=gj f.yo;obtain⟨x0,x1,_,_,_,_⟩:=f.bk.cells;have y:=aC f
 by_cases hD:D.length=0
 .have ac:((D.length:N)==0)=XX:=by simp[hD]
  clear f ht hD
  go_in
  go_wp21
  go_ret;exact⟨rfl,_,_,_,_,_,_,_,_,_,_,_,y.more (Nat.le_add_right n 64)⟩
 .have ac:((D.length:N)==0)=XW:=by rw[beq_eq_false_iff_ne];omega
  have ai:=f.d3;have hb:=LN (c:=a) (n:=D.length) O;obtain⟨j,hj⟩:∃ j:M,mO a D.length=j:=⟨(mO a D.length).toNat,O⟩;have ab:j<D.length:=O
  have PK:=aC (OY a D.length w h1 h2 O O);rw[hj] at PK;clear hb hj hD h1 h2;have m:D[j]?=U D[j]:=ZV ab;generalize D[j]=k at m;obtain⟨g0,q0,e0,y0⟩:=qz f.xo (k:=j) (u:=k.p) (by rw[List.getElem?_map,m];rfl);obtain⟨g1,q1,C,y1⟩:=qz f.yo (k:=j) (u:=k.dd) (by rw[List.getElem?_map,m];rfl);simp only[Value.slice.injEq,true_and] at e0 C;obtain⟨rfl,rfl⟩:=e0;obtain⟨rfl,rfl⟩:=C;obtain⟨o,hT,A,hf⟩:=Oz ht;have DO:=aC (Nx (f.ds.at_ j k m).bd (N5 _) hT hf);have OK:=aC (Oy (f.ds.at_ j k m).bd.ds.inv hT);have RD:Hid (∀ W,DD W k.dd k.s k.xs k.F->X4 prog 75 #[k.dd,t] W (qi W k.dd k.F k.xs (ma k.s o))):=fun W hW=>On hW (f.ds.at_ j k m).bd.ds.inv A hf
  have I:=aC (Yz (y.tb B (by simp[cC])) (y.ty g1 rfl));have HK:=aC m;generalize ma k.s o=q at *;clear f ht hT A hf m;have ad:(j:N)<(D.length:N):=O
  go_in
  go_upto_region 4 with (first|(go_at_call 74;refine PK.mono ?_;rintro e w1 ⟨rfl,hw⟩;rw[hw];clear hw w1))
  go_upto_region 5 with (first|(go_at_call 21;refine DO.mono ?_;rintro e w1 ⟨v,rfl,bp⟩;have BP:=aC bp;obtain⟨r',ae,_,_,u1,u2,u3,u4,P,rfl,aa,C,e2,e3,e4,_,_⟩:=bp;obtain⟨b1,d1,rfl⟩:=lR C.own;obtain⟨b2,X,rfl⟩:=e2.slice;obtain⟨b3,T,rfl⟩:=e3.slice;obtain⟨b4,S,rfl⟩:=e4.slice;have z1:=(zo (y.still HK BP (b:=B) (by rw[I.1];simp) (by rw[I.out.1];simp))).trans x1;have z2:=(zo (y.still HK BP (b:=g1) (by rw[I.2];simp) (by rw[I.out.2];simp))).trans y1;clear aa C e2 e3 e4 x0 x1 y0 y1 DO PK;simp only[bJ]))
  have G:=aC (y.A9 HK BP);change Code.wp _ _ _ _ (w1.alloc (iZ q.2.err q.2.at_ q.2.n (X9 b1 P.length d1) (X9 b2 q.2.days.length X) (X9 b3 q.2.granted.length T) (X9 b4 q.2.ended.length S)));have E:=aC (RD _ (G.lx.ds.doc G.hi G.bp));have z3:=aR ((zr _ w1).alloc aI (iZ q.2.err q.2.at_ q.2.n (X9 b1 P.length d1) (X9 b2 q.2.days.length X) (X9 b3 q.2.granted.length T) (X9 b4 q.2.ended.length S))) z1;have z4:=aR ((zr _ w1).alloc aI (iZ q.2.err q.2.at_ q.2.n (X9 b1 P.length d1) (X9 b2 q.2.days.length X) (X9 b3 q.2.granted.length T) (X9 b4 q.2.ended.length S))) z2;clear z1 z2 RD BP I y HK;generalize w1.alloc (iZ q.2.err q.2.at_ q.2.n (X9 b1 P.length d1) (X9 b2 q.2.days.length X) (X9 b3 q.2.granted.length T) (X9 b4 q.2.ended.length S))=W1 at *;generalize w1=Q at *
  go_upto_region 6 with (first|(go_at_call 75;refine E.mono ?_;rintro e w2 dd;have H:=aC dd;obtain⟨y1,y2,y3,y4,af,F',rfl,L,nv,_⟩:=dd;obtain⟨le,ev,_⟩:=L.en;obtain⟨f1,g2,rfl⟩:=ev.form;obtain⟨f2,g3,rfl⟩:=L.da.form;obtain⟨f3,g4,rfl⟩:=nv.form;obtain⟨f4,g5,rfl⟩:=L.ed.form;clear L nv ev z3 z4 E;simp only[bJ]))
  change Code.wp _ _ _ _ (w2.alloc (iZ q.2.err q.2.at_ q.2.n (X9 f1 le.length g2) (X9 f2 q.2.days.length g3) (X9 f3 q.2.granted.length g4) (X9 f4 q.2.ended.length g5)));obtain⟨ag,D',l,x⟩:=G.A8 H;have M2:=aC x;obtain⟨a0,a1,a2,a3,a4,a5,a6⟩:=r7 x.hQ;obtain⟨s0,s1,s2,s3,s4,s5,s6⟩:=r7 x.hR;have SR:=aC (Qh _ q.2 OK.1 _ _ _ _ _ _ _ _ (x.rl.bJ x.hl) x.rv);simp only[bJ] at SR;clear x G H;generalize w2.alloc (iZ q.2.err q.2.at_ q.2.n (X9 f1 le.length g2) (X9 f2 q.2.days.length g3) (X9 f3 q.2.granted.length g4) (X9 f4 q.2.ended.length g5))=W2 at *;generalize w2=R at *
  go_upto_region 7 with (first|(go_at_call 76;refine SR.mono ?_;rintro e w3 ⟨rfl,z⟩;have M3:=aC (M2.later z);clear z a0 a1 a2 a3 a4 a5 a6 s0 s1 s2 s3 s4 s5 s6 SR))
  obtain⟨a0,a1,a2,a3,a4,a5,a6⟩:=r7 M3.hQ;have KP:=aC ((M3.later (dV w3)).hI hn OK.1 OK.2);clear M2 M3 OK
  go_region_law (first
   |(refine qe (by rfl) 77 _ _ (by rfl) _ (by simp[Act.eval]) (NC _ _) KP ?_;rintro e w4 ⟨rfl,h4⟩;refine⟨_,rfl,?_⟩;have H4:=aC h4;clear h4))
  all_goals
   go_wp21
   go_ret;exact⟨rfl,H4⟩
end
namespace aB
theorem GK:∀ (l:J UInt8)(x:J (J UInt8) × J UInt8),∃ t,qM (l.foldl pf x)=x.1++t
 |[],x=>by
  unfold qM
  by_cases h:x.2=[]
  .exact⟨[],by simp[h]⟩
  .exact⟨[x.2],by simp[h]⟩
 |c :: l,x=>by
  let⟨t,ht⟩:=GK l (pf x c);rw[ZT,ht];unfold pf
  by_cases h:c=32
  .rw[if_pos h]
   by_cases a:x.2=[]
   .exact⟨t,by simp[a]⟩
   .exact⟨[x.2]++t,by simp[a]⟩
  .exact⟨t,by rw[if_neg h]⟩
theorem OR{s k:XK}(f:AD k.data.toList=XX)(h:s.data.toList=k.data.toList\/∃ r,s.data.toList=k.data.toList++32 :: r):∃ R,aU s=k :: R:=by
 let⟨h1,h2⟩:=Xo.1 f
 have b:∃ t,zQ s.data.toList=k.data.toList :: t:=by
  unfold zQ Cs;rcases h with e|⟨r,e⟩
  .rw[e,Kh h2];exact⟨[],by simp[qM,h1]⟩
  .rw[e,List.foldl_append,Kh h2,ZT,Vt];let⟨t,ht⟩:=GK r (qM ([],[]++k.data.toList),[]);rw[ht];exact⟨t,by simp[qM,h1]⟩
 let⟨t,ht⟩:=b;rw[<- VF] at ht
 cases c:aU s with
 |nil=>rw[c] at ht;simp at ht
 |cons a R =>
  rw[c] at ht;simp only[List.map_cons,List.cons.injEq] at ht;exact⟨R,by rw[Tv ht.1]⟩
end aB
theorem GB(p ws:J XK):∀ n:M,(jz p ws (n+1)).data.toList=(iq (p.getD 0 ⟨#[]⟩) (ws.getD 0 ⟨#[]⟩)).data.toList\/∃ r,(jz p ws (n+1)).data.toList=(iq (p.getD 0 ⟨#[]⟩) (ws.getD 0 ⟨#[]⟩)).data.toList++32 :: r
 |0=>by
  left;simp[jz]
 |n+1=>by
  right;rw[jz,if_pos O,aB.sY,aB.sY];rcases GB p ws n with e|⟨r,e⟩
  .rw[e];exact⟨_,by rw[List.append_assoc];rfl⟩
  .rw[e];exact⟨r++(32 :: (iq (p.getD (n+1) ⟨#[]⟩) (ws.getD (n+1) ⟨#[]⟩)).data.toList),by simp⟩
theorem N7{k:XK}(a:k∈jY):aB.AD k.data.toList=XX/\iq k k=k:=by
 simp only[jY,Yu,List.not_mem_nil,or_false] at a;rcases a with rfl|rfl|rfl|rfl|rfl|rfl|rfl|rfl|rfl|rfl|rfl|rfl <;> exact⟨by decide +kernel,by decide +kernel⟩
theorem N3{q:J XK}{l:aA.gn}(a:Full t q)(b:jj (aB.aU t) q l)(c:rM l=XX):∃ k∈jY,(aB.aU t).getD 0 ByteArray.empty=k/\∃ R,q=k :: R:=by
 cases b with
 |bA=>exact⟨lN,by simp[jY],a.head XE,_,rfl⟩
 |book=>exact⟨lI,by simp[jY],a.head XE,_,rfl⟩
 |cancel=>exact⟨lJ,by simp[jY],a.head XE,_,rfl⟩
 |list0=>exact⟨eL,by simp[jY],a.head XE,_,rfl⟩
 |list1=>exact⟨eL,by simp[jY],a.head XE,_,rfl⟩
 |dN=>exact⟨lH,by simp[jY],a.head XE,_,rfl⟩
 |find=>exact⟨lD,by simp[jY],a.head XE,_,rfl⟩
 |clock=>exact⟨mq,by simp[jY],a.head XE,_,rfl⟩
 |hold=>exact⟨lF,by simp[jY],a.head XE,_,rfl⟩
 |bF=>exact⟨lM,by simp[jY],a.head XE,_,rfl⟩
 |tick=>exact⟨mh,by simp[jY],a.head XE,_,rfl⟩
 |series hr hn=>exact⟨iS,by simp[jY],Full.head (R:=cM :: eN :: _) a XE,_,rfl⟩
 |expand hr hn=>exact⟨jI,by simp[jY],Full.head (R:=_) a XE,_,rfl⟩
 |_=>cases c
theorem OM(h:rP t){p:J XK}(a:jW t=(U p,0)):rP (jz p (aB.aU t) (aB.aU t).length):=by
 let⟨v,st,_,hn,hd⟩:=GF h
 by_cases m:st.2=XX\/cU (aB.aU t).length st.1 st.2=XX
 .have:=hn m;rw[a] at this
  cases this
 .have u:st.2=XW:=by cases e:st.2 <;> simp_all
  have o:cU (aB.aU t).length st.1 st.2=XW:=by cases e:cU (aB.aU t).length st.1 st.2 <;> simp_all
  let⟨q,l,x1,x2,_,_,x5⟩:=hd u o;have e:=x1.sc;rw[a] at e;simp only[Prod.mk.injEq,Option.some.injEq,and_true] at e;subst e;obtain⟨k,f,j,R,rfl⟩:=N3 x1 x2 x5;let⟨w1,w2⟩:=N7 f;have c:=x1.len;simp only[Y0] at c;rw[c];have b:=GB (k :: R) (aB.aU t) R.length
  have x:iq ((k :: R).getD 0 ⟨#[]⟩) ((aB.aU t).getD 0 ⟨#[]⟩)=k:=by
   have:(aB.aU t).getD 0 ⟨#[]⟩=k:=j;rw[this];exact w2
  rw[x] at b;let⟨T,hT⟩:=aB.OR w1 b;exact⟨k,f,by rw[hT];simp[bS,cU]⟩
def qy(x:nA):Prop:=FY x/\(x.k=4\/(5<=x.k/\rP x.s))
section
variable {w0 w w':XY}{B n:XP}
theorem Bp(h:LW w0 w B n)(x:nA)(l:qy x)(hk:x.k<=6)(H:n+64<=900000000):
  X4 prog 41 #[B,.agg #[V Y x.k,V Y x.a,x.y,V Y x.m,V Y x.d,x.s]] w fun e w'=>e=Yg XX/\LW w0 w' B (n+64):=by
 obtain⟨G,l⟩:=l;have X:X0 w.heap.size w (w.alloc (pD x)):=bC;have A:=aC (h.later X);have E:=cP w (pD x)
 have CL:Hid (∀ W,X0 (w.alloc (pD x)).heap.size (w.alloc (pD x)) W->W.cell? ⟨w.heap.size,0,XU⟩=U (V Y x.k)/\W.cell? ⟨w.heap.size,1,XU⟩=U (V Y x.a)/\W.cell? ⟨w.heap.size,5,XU⟩=U (Ya x.s)):=fun W k=>by
  have b:=(k.block _ (Array.getElem?_eq_some_iff.1 E).1).trans E;exact⟨bG b 0 rfl,bG b 1 rfl,bG b 5 rfl⟩
 obtain⟨c0,c1,c5⟩:=CL _ fo
 have I:x.k=4\/x.k=5\/x.k=6:=by
  rcases l with e|⟨e,_⟩
  .exact .inl e
  .omega
 have P:x.k≠4->rP x.s:=fun e=>by
  rcases l with S|⟨_,S⟩
  .exact (e S).elim
  .exact S
 clear X E l h hk;obtain⟨k,a,y,m,d,s⟩:=x;obtain⟨f,c,aa⟩:=G;dsimp only at *;rcases I with rfl|rfl|rfl
 .go_in
  go_upto_region 1 with fail
  change Code.wp _ _ _ _ (w.alloc (pD ⟨4,a,y,m,d,s⟩));generalize w.alloc (pD ⟨4,a,y,m,d,s⟩)=W at *
  go_wp2_with (first|(go_at_call 40;refine (Hr A).mono ?_;rintro e w1 ⟨rfl,q⟩;have j:=aC q;clear q))
  go_ret;exact⟨rfl,j.more (Nat.le_add_right n 64)⟩
 .go_in
  go_upto_region 1 with fail
  change Code.wp _ _ _ _ (w.alloc (pD ⟨5,a,y,m,d,s⟩));generalize w.alloc (pD ⟨5,a,y,m,d,s⟩)=W at *
  go_wp2_with (first|(go_at_call 54;refine (BM A f c (P XC) H).mono ?_;rintro e w1 ⟨rfl,q⟩;have j:=aC q;clear q))
  go_ret;exact⟨rfl,j⟩
 .have L:=P XC;have PL:=aC (Qe s _ A.env)
  have C:Hid (∀ e,PR s e->∃ t z at_,e=Yg (.tuple #[Ya t,V Y z,V Y at_])/\((z=0/\rP t)\/(z != 0)=XX)):=fun e he=>by
   rcases he with ⟨_,rfl⟩|⟨_,⟨p,u,rfl⟩|⟨m,_,rfl⟩⟩
   .exact⟨_,_,_,rfl,.inr rfl⟩
   .exact⟨_,_,_,rfl,.inl ⟨rfl,OM L u⟩⟩
   .exact⟨_,_,_,rfl,.inr rfl⟩
  have HF:=aC L;clear P L
  go_in
  go_upto_region 1 with fail
  change Code.wp _ _ _ _ (w.alloc (pD ⟨6,a,y,m,d,s⟩));generalize w.alloc (pD ⟨6,a,y,m,d,s⟩)=W at *
  go_upto_region 14 with (first|(go_at_call 55;refine PL.mono ?_;rintro e w1 ⟨u,b⟩;obtain⟨t,z,at_,rfl,hc⟩:=C.out e u;have j:=aC (A.later b);have C1:=aC (CL _ b);have HC:=aC hc;clear u b hc c0 c1 c5))
  obtain⟨c0,c1,c5⟩:=C1;rcases HC with ⟨rfl,ht⟩|he
  .have HT:=aC ht;clear ht
   go_wp2_with (first|(go_at_call 54;refine (BM j f c HT H).mono ?_;rintro e w2 ⟨rfl,o⟩;have T:=aC o;clear o))
   go_ret;exact⟨rfl,T⟩
  .go_wp2_with (first|(go_at_call 54;refine (BM j f c HF H).mono ?_;rintro e w2 ⟨rfl,o⟩;have T:=aC o;clear o))
   go_ret;exact⟨rfl,T⟩
theorem O5(G:Env w){b0:M}{a:J nA}(q:w.ownsRow b0 89 6 v a.length (a.flatMap mE))(E:∀ x∈a,qy x)(hl:a.length<=2000000):
  X4 prog 15 #[v,V Y 4,V Y 6] w fun e w'=>e=Yg (.bool XX)/\X0 w.heap.size w w':=by
 have HS:=aC (LW.start G);obtain⟨C,S,rfl⟩:=gj q
 have HO:Hid (∀ W m k (y:k<a.length),LW w W w.heap.size m->∃ b,C=U ⟨b,0,XU⟩/\tj W b (k*6) a[k]):=fun W m k y X=>by
  have T:=X.bl;have at_:∀ o u,(mE a[k])[o]?=U u->∃ g cap,Value.slice C a.length S=X9 (U ⟨g,0,XU⟩) a.length cap/\w.cell? ⟨g,k*6+o,XU⟩=U u:=fun o u l=>qz q ((Nj y o (by have:=(List.getElem?_eq_some_iff.1 l).1;simpa[mE] using this)).trans l)
  obtain⟨g,cap,e,c0⟩:=at_ 0 _ rfl;simp only[Value.slice.injEq,true_and] at e;obtain⟨rfl,rfl⟩:=e
  have at':∀ o u,(mE a[k])[o]?=U u->w.cell? ⟨g,k*6+o,XU⟩=U u:=fun o u l=>by
   obtain⟨g',P,e,c⟩:=at_ o u l;simp only[Value.slice.injEq,Option.some.injEq,Addr.mk.injEq,and_true,true_and] at e;obtain⟨rfl,rfl⟩:=e;exact c
  exact⟨g,rfl,tj.later ⟨c0,at' 1 _ rfl,at' 2 _ rfl,at' 3 _ rfl,at' 4 _ rfl,at' 5 _ rfl⟩ T⟩
 have HF:=aC E;clear q E G
 go_in
 go_upto_region 2 with fail
 change Code.wp _ _ _ _ (w.alloc zW);generalize w.alloc zW=W at *
 go_wp2_with (first|(go_at_call 40;refine (Hr HS.out).mono ?_;rintro e w1 ⟨rfl,L⟩;have H1:=aC L;clear L))
 generalize w.heap.size=B at *
 go_loopw [9,10,11] (fun v _ _ wr=>∃ k:M,k<=a.length/\v=V Y k/\LW w wr B (k*64)) (fun v _ _ _=>a.length-(intOf v).toNat)
 case atStart=>exact⟨0,Zd _,rfl,by simpa using H1.out⟩
 case round =>
  obtain⟨k,y,rfl,f⟩:=hrel;have A:=aC f
  by_cases j:k<a.length
  .have h:(k:N)<(a.length:N):=O
   obtain⟨b,rfl,o0,o1,o2,o3,o4,o5⟩:=HO.out wr _ k j f;have p:=HF.out a[k] (zg j);generalize a[k]=x at *;have HX:=aC p
   have h4:¬ x.k<4:=by
    rcases p.2 with e|e
    .omega
    .have:=e.1;omega
   clear p f
   by_cases h6:x.k<=6
   .have z:¬ 6<x.k:=O
    go_wp2_with (first
     |(go_at_call 41;refine (Bp A.out x HX.out h6 O).mono ?_;rintro e w2 ⟨rfl,I⟩;have H2:=aC I;clear I)
     |(go_at_call 42;refine (H2.out.looks O).mono ?_;rintro e w3 ⟨rfl,H⟩;have H3:=aC H;clear H))
    exact⟨⟨k+1,by omega,by go_num,by rw[Nat.add_mul,Nat.one_mul];exact H3.out⟩,by simp[intOf];omega⟩
   .have z:6<x.k:=O
    go_wp2_with fail
    exact⟨⟨k+1,by omega,by go_num,A.out.more O⟩,by simp[intOf];omega⟩
  .have h:¬ (k:N)<(a.length:N):=O
   clear f
   go_wp2
   go_ret;exact⟨rfl,A.out.bl⟩
def F8(w:XY)(b:M)(e:Ending)(w':XY):Prop:=∃ (v:XZ)(a:J nA),e=Yg v/\w'.ownsRow w 89 6 v a.length (a.flatMap mE)/\a.length<=b/\(∀ x∈a,qy x)/\X0 w w w'
theorem Hk{v':XZ}{a:J nA}{x:nA}(o:w1.ownsRow w 89 6 v a.length (a.flatMap mE))(l:X0 w w w1)(k:aH v.ownBlock.toList w1 w2)(h:w2.ownsRow w 89 6 v' (a.length+1) (a.flatMap mE++mE x))(f:∀ y∈a,qy y)(m:qy x):
  w2.ownsRow w 89 6 v' (a++[x]).length ((a++[x]).flatMap mE)/\(∀ y∈a++[x],qy y)/\X0 w w w2:=by
 refine⟨by simpa using h,fun y c=>?_,l.trans (Below.jU k l.size fun b j=>(o.lt b (Option.mem_toList.1 j)).1)⟩;rcases List.mem_append.1 c with c|c
 .exact f y c
 .rw[List.mem_singleton.1 c];exact m
theorem Oq{f c:M}(hs:BQ w a0 f)(hl:f<=1900000)(hw:wF w g jY):
  X4 prog 16 #[X9 a0 f cap,X9 g 12 c] w (F8 w f):=by
 obtain⟨i0,H,C,A,z⟩:=info_parts Nq;have HS:=aC hs;have HW:=aC hw;clear hs hw
 go_in
 go_wp2_with fail
 go_loopw [5,6,7] (fun v i _ wr=>∃ (k:M) (j:J nA),k<=f/\i=V Y k/\wr.ownsRow w 89 6 v j.length (j.flatMap mE)/\j.length<=k/\(∀ x∈j,qy x)/\X0 w w wr) (fun _ i _ _=>f-(intOf i).toNat)
 case atStart=>exact⟨0,[],Zd _,rfl,World.ownsRow_nil _ _ _ _,by simp,by simp,Below.refl _ _⟩
 case round =>
  obtain⟨k,j,hk,rfl,ho,ad,E,I⟩:=hrel;obtain⟨va,vc,rfl⟩:=gj ho;have h:=aC (Yz ho (Yz E I));clear ho E I
  by_cases aa:k<f
  .have G:(k:N)<(f:N):=O
   obtain⟨b,ac,x,rfl,l,o⟩:=HS k aa;have HP:=aC (Yz l o);have WA:=aC (fun W (kW:X0 w w W)=>P9 x.s W o.sz (c:=c) (HW.later kW) XC);obtain⟨o0,o1,q,o3,o4,o5⟩:=l.later h.2.2;clear l o
   go_upto_region 6 with (first|(go_at_call 43;refine (WA _ h.2.2).mono ?_;rintro e w1 ⟨bb,rfl,L,P⟩;have H1:=aC (Yz L P);clear L P o0 o1 q o3 o4 o5))
   have p:=aC (bM h.2.2 H1.2 (zq _));obtain⟨o0,o1,q,o3,o4,o5⟩:=HP.1.later p;have u:=aC (eQ h.1 H1.2)
   by_cases S:x.k=4
   .have ab:(x.k==4)=XX:=by simp[S]
    have FX:Hid (qy x):=⟨HP.2,.inl S⟩;clear S
    go_wp2_with (first|(at_builtin;go_loud (refine yG rfl _ _ 22 rfl 6 56 underlying22 H C A z XC rfl XC u (cs:=#[V Y x.k,V Y x.a,x.y,V Y x.m,V Y x.d,x.s]) rfl XI rfl rfl O p.size ?_);intro g2 c2 w2 q k2 _))
    obtain⟨m1,X,T⟩:=Hk u p k2 q h.2.1 FX;exact⟨⟨k+1,j++[x],O,by go_num,m1,by simp;omega,X,T⟩,by simp[intOf];omega⟩
   .have ab:(x.k==4)=XW:=by simp[S]
    by_cases h5:5<=x.k
    .cases bb
     .go_wp2_with fail
      exact⟨⟨k+1,j,O,by go_num,u,O,h.2.1,p⟩,by simp[intOf];omega⟩
     .have FX:Hid (qy x):=⟨HP.2,.inr ⟨h5,H1.1 rfl⟩⟩
      go_wp2_with (first|(at_builtin;go_loud (refine yG rfl _ _ 22 rfl 6 56 underlying22 H C A z XC rfl XC u (cs:=#[V Y x.k,V Y x.a,x.y,V Y x.m,V Y x.d,x.s]) rfl XI rfl rfl O p.size ?_);intro g2 c2 w2 q k2 _))
      obtain⟨m1,X,T⟩:=Hk u p k2 q h.2.1 FX;exact⟨⟨k+1,j++[x],O,by go_num,m1,by simp;omega,X,T⟩,by simp[intOf];omega⟩
    .have ae:¬ (5:N)<=x.k:=h5
     go_wp2_with fail
     exact⟨⟨k+1,j,by omega,by go_num,u.out,by omega,h.2.1,p⟩,by simp[intOf];omega⟩
  .have G:¬ (k:N)<(f:N):=O
   go_wp21
   go_ret;exact⟨_,j,rfl,h.1,O,h.2.1,h.2.2⟩
theorem Nt{a:M}(z:Env w)(u:BQ w a0 a)(E:a<=1900000):
  X4 prog 8 #[X9 a0 a cap] w fun e w'=>e=Yg XX/\X0 w w w':=by
 have T:=aC z;have S:=aC u;clear z u
 go_in
 have p:∀ o,X0 w w (w.alloc o):=fun o=>fo.alloc aI o
 have P:Hid (∀ (l:TypeId) c,X4 prog 16 #[X9 a0 a cap,X9 w 12 c] (w.alloc (.cells #[lN,lI,lJ,eL,lH,lD,mq,iS,jI,lF,lM,mh] l)) (F8 (w.alloc (.cells #[lN,lI,lJ,eL,lH,lD,mq,iS,jI,lF,lM,mh] l)) a)):=fun l c =>
  Oq (fun i I=>by
   let⟨b,off,x,e,h1,h2⟩:=S i I
   exact⟨b,off,x,e,h1.later (p _),h2⟩) E (fun j H=>by
   have L:=cP w (.cells #[lN,lI,lJ,eL,lH,lD,mq,iS,jI,lF,lM,mh] l);have G:j<12:=H;rcases (show j=0\/j=1\/j=2\/j=3\/j=4\/j=5\/j=6\/j=7\/j=8\/j=9\/j=10\/j=11 by omega) with rfl|rfl|rfl|rfl|rfl|rfl|rfl|rfl|rfl|rfl|rfl|rfl
   all_goals exact bG L _ rfl)
 have A:=aC p;clear p
 go_wp21
 refine (P _ _).mono ?_;rintro e w1 ⟨v,X,rfl,y,C,f,q⟩;have m:=aC (Yz y (Yz f (Yz q ((T.later (A _)).later q))));clear y f q
 go_wp21
 refine aK (O5 m.2.2.2 m.1 m.2.1 O) fun w2 h=>?_;have W:=aC (bM (bM (A _) m.2.2.1 aI) h aI);clear h
 go_wp21
 go_ret;exact⟨rfl,W⟩
end
end Go.Proofs.YtfigmlfdnickmaaGreatDoor
