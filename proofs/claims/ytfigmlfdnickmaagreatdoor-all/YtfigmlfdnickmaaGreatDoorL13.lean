import Derived.Test.YtfigmlfdnickmaaGreatDoorL12
set_option maxRecDepth 100000
set_option maxHeartbeats 8000000
variable{t:ByteArray}{xs:List (Go.Proofs.YtfigmlfdnickmaaGreatDoor.Desk.Ent × Nat × Nat)}{l:List (Go.Proofs.YtfigmlfdnickmaaGreatDoor.Desk.Ent × Go.Value)}{F:List Nat}{Q R cap d:Nat}{col:Nat->Option Go.Proofs.YtfigmlfdnickmaaGreatDoor.Col}{a0:Option Go.Addr}{r:Go.Proofs.YtfigmlfdnickmaaGreatDoor.Raw}{s:Go.Proofs.YtfigmlfdnickmaaGreatDoor.Desk.St}{u1 u2 u3 u4 v z1 z2 z3 z4:Go.Value}{w w':Go.World}
namespace Go.Proofs.YtfigmlfdnickmaaGreatDoor
open Go.RowKit
open Desk (Ent St Rep Inv a0g a1q)
def g3O(t:ByteArray):(Int × Int) ⊕ Desk.a7U->Prop
 |.inl (er,at_)=>(160<t.size/\er=1/\at_=0)\/(t.size<=160/\∃ m:Nat,g0V t=(none,m)/\er=2/\at_=m)
 |.inr l=>t.size<=160/\∃ q,Full t q/\e2P (Txt.a1v t) q l/\Desk.a1O l
def d4I(s:St):(Int × Int) ⊕ Desk.a7U->St × Rep
 |.inl (er,at_)=>(s,⟨er,at_,0,[],[],[],[]⟩)
 |.inr l=>a1q s l
theorem h5I(t:ByteArray):∃ v st,a2H (Txt.a1v t) v st/\g0a t v st:=by
 by_cases h0:isB (Txt.a1v t) 0 false a3F=true
 ·exact⟨_,_,.a0k h0,f3k h0⟩
 by_cases h1:isB (Txt.a1v t) 0 false a9P=true
 ·exact⟨_,_,.book h1,f9J h1⟩
 by_cases h2:isB (Txt.a1v t) 0 false b5f=true
 ·exact⟨_,_,.hold h2,h3J h2⟩
 by_cases h3:isB (Txt.a1v t) 0 false b4k=true
 ·exact⟨_,_,.wait h3,h4o h3⟩
 by_cases h4:isB (Txt.a1v t) 0 false a7l=true
 ·obtain⟨pc,ev,acc,fr,mn,mi,ti,un,st,hr⟩:=g2x (Txt.a1v t) (a0M (Txt.a1v t) [nmB,unB] (1,false));exact⟨_,_,.series h4 pc ev acc fr mn mi ti un st hr,g5p h4 hr⟩
 by_cases h5:isB (Txt.a1v t) 0 false a4z=true
 ·exact⟨_,_,.confirm h5,g3t h5⟩
 by_cases h6:isB (Txt.a1v t) 0 false a6m=true
 ·exact⟨_,_,.cancel h6,f2y h6⟩
 by_cases h7:isB (Txt.a1v t) 0 false a5Q=true
 ·cases hm:a1b (Txt.a1v t).length (a0M (Txt.a1v t) [nmB] (1,false)).1 (a0M (Txt.a1v t) [nmB] (1,false)).2
  ·exact⟨_,_,.list0 h7 hm,f5m h7 hm⟩
  ·exact⟨_,_,.list1 h7 hm,f5l h7 hm⟩
 by_cases h8:isB (Txt.a1v t) 0 false a5q=true
 ·exact⟨_,_,.waiting h8,g3z h8⟩
 by_cases h9:isB (Txt.a1v t) 0 false a9a=true
 ·exact⟨_,_,.peak h9,f8w h9⟩
 by_cases h10:isB (Txt.a1v t) 0 false b5h=true
 ·exact⟨_,_,.find h10,f9g h10⟩
 by_cases h11:isB (Txt.a1v t) 0 false a7M=true
 ·obtain⟨pc,ev,acc,fr,mn,mi,ti,un,st,hr⟩:=g2x (Txt.a1v t) (1,false);exact⟨_,_,.expand h11 pc ev acc fr mn mi ti un st hr,g6j h11 hr⟩
 by_cases h12:isB (Txt.a1v t) 0 false b4n=true
 ·exact⟨_,_,.tick h12,h2h h12⟩
 by_cases h13:isB (Txt.a1v t) 0 false b1c=true
 ·exact⟨_,_,.clock h13,f6s h13⟩
 simp only[Bool.not_eq_true] at h0 h1 h2 h3 h4 h5 h6 h7 h8 h9 h10 h11 h12 h13;have hn:=a2H.none h0 h1 h2 h3 h4 h5 h6 h7 h8 h9 h10 h11 h12 h13;exact⟨_,_,hn,g0f hn,fun e=>absurd e (by decide)⟩
theorem h4v(t:ByteArray):∃ o,c4m t o/\g3O t o:=by
 by_cases hs:160<t.size
 ·exact⟨.inl (1,0),⟨by decide,.inl ⟨rfl,rfl⟩,fun e he=>a8v he (.long hs)⟩,.inl ⟨hs,rfl,rfl⟩⟩
 ·obtain⟨v,st,hl,hn,hd⟩:=h5I t
  by_cases hb:st.2=true\/a1b (Txt.a1v t).length st.1 st.2=true
  ·exact⟨.inl (2,st.1),⟨by decide,.inr ⟨rfl,by omega⟩,fun e he=>a8v he (.bad (by omega) v st hl hb)⟩,.inr ⟨by omega,st.1,hn hb,rfl,rfl⟩⟩
  ·have h2:st.2=false:=by cases e:st.2 <;> simp_all
   have h3:a1b (Txt.a1v t).length st.1 st.2=false:=by cases e:a1b (Txt.a1v t).length st.1 st.2 <;> simp_all
   obtain⟨q,l,x1,x2,x3,x4⟩:=hd h2 h3;exact⟨.inr l,⟨v,fun e he=>a8v he (.e6J (by omega) v st hl h2 h3),x3,x4⟩,⟨by omega,q,x1,x2,x4⟩⟩
theorem f9k(t:ByteArray):f9T t:=fun X he=>b6h t X he
theorem g3G{p:Nat}(h:BD w p d s r col)(hR:f9T t){o:(Int × Int) ⊕ Desk.a7U}(ht:c4m t o):
  Calls Tryz.prog 21 #[.pointer (some ⟨p,0,none⟩),.string t] w fun e w'=>∃ v,e=.returned v/\b5M w p d col (d4I s o) v w':=by
 cases o with
 |inl q =>
  obtain⟨er,at_⟩:=q;exact f9O h t er at_ hR ht.1 ht.2.2
 |inr l =>
  obtain⟨line,h1,h2,h3⟩:=ht;exact f6L h t line l hR h1 (Desk.b7f h.ds.inv h3) (Desk.c2j h.ds.inv h3) (Desk.c3u h.ds.inv.mid l) (fun _ ht h10 hds=>b8R hds ht h10 h2 h3)
theorem f2S{X:World}{g:Nat}(hc:∀ (j:Nat)(hj:j<(Txt.a1v t).length),X.cell? ⟨g,j,none⟩=some (.string (Txt.a1v t)[j])){j:Nat}(hj:j<(Txt.a1v t).length):X.cell? ⟨g,j,none⟩=some (.string ((Txt.a1v t).getD j ByteArray.empty)):=by
 rw[hc j hj];simp[List.getD,hj]
theorem Full.head{k:ByteArray}{R:List ByteArray}(h:Full t (k :: R))(hk:d1Z k=true):(Txt.a1v t).getD 0 ByteArray.empty=k :=
 g3s (by rw[f5u,<- g4I k hk];exact e9K (Q:=[]) h.all)
theorem g2e(s:St)(l:Desk.a7U):(a0g s l).2.at_=0:=by
 cases l <;> simp only[a0g] <;> (repeat' split) <;> rfl
theorem f5H(h:Inv s):(s.es.length:Int)<=s.given:=by
 have hi:(s.es.map fun e:Ent=>e.id).Pairwise (· < ·):=h.ids
 have:=b0x _ 1 s.given hi (fun x hx=>by
  obtain⟨e,he,rfl⟩:=List.mem_map.1 hx;have h1:=h.idb e he
  omega)
 have:=h.g0;rw[List.length_map] at *;omega
theorem f9p(h:DD w d s xs F)(hi:Inv s)(hs:t.size<=160){q:List ByteArray}{l:Desk.a7U}(hF:Full t q)(hq:e2P (Txt.a1v t) q l)(hl:Desk.a1O l)(X:World)(g c:Nat)(k:Below w.heap.size w X)(hc:∀ (j:Nat)(hj:j<(Txt.a1v t).length),X.cell? ⟨g,j,none⟩=some (.string (Txt.a1v t)[j])):
  Calls Tryz.prog 117 #[.pointer (some ⟨d,0,none⟩),.slice (some ⟨g,0,none⟩) (Txt.a1v t).length c] X (d1S X d F xs (a0g s l)):=by
 have hlen:=hF.len;have hX:=h.later k
 have z:∀ j,((Txt.a1v t).getD j ByteArray.empty).size<=160:=fun j=>by
  by_cases hj:j<(Txt.a1v t).length
  ·simp only[List.getD,hj,List.getElem?_eq_getElem,Option.getD_some];exact Nat.le_trans (b4i t _ (zg hj)) hs
  ·simp[List.getD,hj]
 have at_:∀ Y,Below X.heap.size X Y->∀ j,j<(Txt.a1v t).length->Y.cell? ⟨g,j,none⟩=some (.string ((Txt.a1v t).getD j ByteArray.empty)):=fun Y kY j hj=>a0a kY (f2S hc hj)
 have a0:=fun (hj:0<(Txt.a1v t).length)=>f2S hc hj
 have un:=fun name=>(Desk.a4g hi.tu name).1
 cases hq with
 |a0k =>
  have hd:=hF.head (by decide +kernel);simp only[List.length_cons,List.length_nil] at hlen;refine d0J hX (f:=172) (by omega) (a0 (by omega)) (by rw[hd];simp[e2E,a3F]) (fun Y kY=>?_);exact f0K (hX.later kY) (by omega) (z 2) (un _) (at_ Y kY 1 (by omega)) (at_ Y kY 2 (by omega))
 |book =>
  have hd:=hF.head (by decide +kernel);simp only[List.length_cons,List.length_nil] at hlen;obtain⟨_,u1,u2,f1,f2,t1,t2⟩:=hl;refine d0J hX (f:=173) (by omega) (a0 (by omega)) (by rw[hd];simp[e2E,a9P]) (fun Y kY=>?_);have hk:g3N Y g (Txt.a1v t).length ((Txt.a1v t).getD 0 ByteArray.empty) 1 0:=⟨by rw[hd];decide +kernel,by rw[hd];decide +kernel,.inl ⟨rfl,rfl⟩,by omega⟩;exact f2m (hX.later kY) ⟨hi.g0,hi.g1⟩ (f5H hi) ⟨hi.n0,hi.n1⟩ hk (by omega) (z 2) (z 3) (z 4) ⟨u1,u2⟩ ⟨t1,t2⟩ (at_ Y kY 0 (by omega)) (at_ Y kY 1 (by omega)) (at_ Y kY 2 (by omega)) (at_ Y kY 3 (by omega)) (at_ Y kY 4 (by omega))
 |cancel =>
  have hd:=hF.head (by decide +kernel);simp only[List.length_cons,List.length_nil] at hlen;refine d0J hX (f:=175) (by omega) (a0 (by omega)) (by rw[hd];simp[e2E,a6m]) (fun Y kY=>?_);exact f8E (hX.later kY) hi.ids true (by rw[hd];decide +kernel) (z 1) (by omega) (at_ Y kY 0 (by omega)) (at_ Y kY 1 (by omega))
 |list0 =>
  have hd:=hF.head (by decide +kernel);simp only[List.length_cons,List.length_nil] at hlen;refine d0J hX (f:=177) (by omega) (a0 (by omega)) (by rw[hd];simp[e2E,a5Q]) (fun Y kY=>?_);exact d9v (hX.later kY) hi.ids (b:=true) (by rw[hd];decide +kernel) (by omega) (.inl ⟨by omega,rfl,rfl,rfl⟩) (at_ Y kY 0 (by omega)) (at_ Y kY 1 (by omega))
 |list1 =>
  have hd:=hF.head (by decide +kernel);simp only[List.length_cons,List.length_nil] at hlen;refine d0J hX (f:=177) (by omega) (a0 (by omega)) (by rw[hd];simp[e2E,a5Q]) (fun Y kY=>?_);exact d9v (hX.later kY) hi.ids (b:=true) (by rw[hd];decide +kernel) (by omega) (.inr ⟨by omega,_,_,z 2,z 3,at_ Y kY 2 (by omega),at_ Y kY 3 (by omega),rfl,rfl⟩) (at_ Y kY 0 (by omega)) (at_ Y kY 1 (by omega))
 |peak =>
  have hd:=hF.head (by decide +kernel);simp only[List.length_cons,List.length_nil] at hlen;refine d0J hX (f:=177) (by omega) (a0 (by omega)) (by rw[hd];simp[e2E,a9a]) (fun Y kY=>?_);exact d9v (hX.later kY) hi.ids (b:=false) (by rw[hd];decide +kernel) (by omega) (.inr ⟨by omega,_,_,z 2,z 3,at_ Y kY 2 (by omega),at_ Y kY 3 (by omega),rfl,rfl⟩) (at_ Y kY 0 (by omega)) (at_ Y kY 1 (by omega))
 |find =>
  have hd:=hF.head (by decide +kernel);simp only[List.length_cons,List.length_nil] at hlen;obtain⟨u1,u2,m1,m2,f1,f2,t1,t2⟩:=hl;refine d0J hX (f:=178) (by omega) (a0 (by omega)) (by rw[hd];simp[e2E,b5h]) (fun Y kY=>?_);exact f2f (hX.later kY) (by omega) (z 2) (z 3) (z 4) (z 5) ⟨by omega,u2⟩ ⟨by omega,m2⟩ ⟨f1,f2⟩ (at_ Y kY 1 (by omega)) (at_ Y kY 2 (by omega)) (at_ Y kY 3 (by omega)) (at_ Y kY 4 (by omega)) (at_ Y kY 5 (by omega))
 |clock =>
  have hd:=hF.head (by decide +kernel);simp only[List.length_cons,List.length_nil] at hlen;exact e7i hX (by omega) (by rw[a0 (by omega),hd];rfl)
 |series hr hn =>
  have hF2:=hF;simp only[g4M,List.cons_append] at hF2;have hd:=hF2.head (by decide +kernel);obtain⟨u1,u2,hfi⟩:=hl;refine d0J hX (f:=174) (by omega) (a0 (by omega)) (by rw[hd];simp[e2E,a7l]) (fun Y kY=>?_);exact f9b (hX.later kY) ⟨hi.g0,hi.g1⟩ (f5H hi) (ws:=fun j=>(Txt.a1v t).getD j ByteArray.empty) (fun j hj=>at_ Y kY j hj) z hr (by omega) ⟨u1,u2⟩ hfi
 |expand hr hn =>
  have hF2:=hF;simp only[g4Z,List.cons_append,List.nil_append] at hF2;have hd:=hF2.head (by decide +kernel);exact f6z hX (ws:=fun j=>(Txt.a1v t).getD j ByteArray.empty) (fun j hj=>at_ X (zr _ _) j hj) z hr (by omega) hd hl
 |hold =>
  have hd:=hF.head (by decide +kernel);simp only[List.length_cons,List.length_nil] at hlen;obtain⟨hk0,u1,u2,f1,f2,t1,t2⟩:=hl;refine d0J hX (f:=173) (by omega) (a0 (by omega)) (by rw[hd];simp[e2E,b5f]) (fun Y kY=>?_);have hk:g3N Y g (Txt.a1v t).length ((Txt.a1v t).getD 0 ByteArray.empty) 2 (b4g ((Txt.a1v t).getD 5 ByteArray.empty) 1 7):=⟨by rw[hd];decide +kernel,by rw[hd];decide +kernel,.inr ⟨.inl rfl,by omega,_,z 5,at_ Y kY 5 (by omega),rfl⟩,by omega⟩;exact f2m (hX.later kY) ⟨hi.g0,hi.g1⟩ (f5H hi) ⟨hi.n0,hi.n1⟩ hk (by omega) (z 2) (z 3) (z 4) ⟨u1,u2⟩ ⟨t1,t2⟩ (at_ Y kY 0 (by omega)) (at_ Y kY 1 (by omega)) (at_ Y kY 2 (by omega)) (at_ Y kY 3 (by omega)) (at_ Y kY 4 (by omega))
 |wait =>
  have hd:=hF.head (by decide +kernel);simp only[List.length_cons,List.length_nil] at hlen;obtain⟨hk0,u1,u2,f1,f2,t1,t2⟩:=hl;refine d0J hX (f:=173) (by omega) (a0 (by omega)) (by rw[hd];simp[e2E,b4k]) (fun Y kY=>?_);have hk:g3N Y g (Txt.a1v t).length ((Txt.a1v t).getD 0 ByteArray.empty) 3 (b4g ((Txt.a1v t).getD 5 ByteArray.empty) 1 7):=⟨by rw[hd];decide +kernel,by rw[hd];decide +kernel,.inr ⟨.inr rfl,by omega,_,z 5,at_ Y kY 5 (by omega),rfl⟩,by omega⟩;exact f2m (hX.later kY) ⟨hi.g0,hi.g1⟩ (f5H hi) ⟨hi.n0,hi.n1⟩ hk (by omega) (z 2) (z 3) (z 4) ⟨u1,u2⟩ ⟨t1,t2⟩ (at_ Y kY 0 (by omega)) (at_ Y kY 1 (by omega)) (at_ Y kY 2 (by omega)) (at_ Y kY 3 (by omega)) (at_ Y kY 4 (by omega))
 |waiting =>
  have hd:=hF.head (by decide +kernel);simp only[List.length_cons,List.length_nil] at hlen;exact f6Z hX (by omega) (by rw[a0 (by omega),hd];rfl)
 |confirm =>
  have hd:=hF.head (by decide +kernel);simp only[List.length_cons,List.length_nil] at hlen;refine d0J hX (f:=175) (by omega) (a0 (by omega)) (by rw[hd];simp[e2E,a4z]) (fun Y kY=>?_);exact f8E (hX.later kY) hi.ids false (by rw[hd];decide +kernel) (z 1) (by omega) (at_ Y kY 0 (by omega)) (at_ Y kY 1 (by omega))
 |tick =>
  have hd:=hF.head (by decide +kernel);simp only[List.length_cons,List.length_nil] at hlen;exact g7I hX hi (by omega) (by rw[a0 (by omega),hd];rfl) (at_ X (zr _ _) 1 (by omega)) (z 1) hl
theorem f8p(h:DD w d s xs F)(hi:Inv s){o:(Int × Int) ⊕ Desk.a7U}(ht:g3O t o):
  Calls Tryz.prog 75 #[.pointer (some ⟨d,0,none⟩),.string t] w (DDo w d F xs (d4I s o)):=by
 cases o with
 |inl q =>
  obtain⟨er,at_⟩:=q;rcases ht with ⟨h1,rfl,rfl⟩|⟨h1,m,hm,rfl,rfl⟩
  ·exact e3Y h t (by decide) (fun X=>(d6V t X h1).mono (by rintro e w1 ⟨rfl,rfl⟩;exact⟨rfl,Below.refl _ _⟩))
  ·exact e3Y h t (by decide) (fun X=>(d4Z t X h1).mono (by
    rintro e w1 ⟨hr,hb⟩;rcases hr with ⟨p,a,b,c,d,g,h,hsc,_⟩|⟨m',hsc,rfl⟩
    ·rw[hm] at hsc;cases hsc
    ·rw[hm] at hsc;simp only[Prod.mk.injEq,true_and] at hsc;subst hsc
     exact⟨rfl,hb⟩))
 |inr l =>
  obtain⟨h1,q,h2,h3,h4⟩:=ht;have hne:0<(Txt.a1v t).length:=by rw[h2.len];cases h3 <;> simp[g4M,g4Z]
  exact f1l h t h1 h2.sc hne (q:=a0g s l) (g2e s l) (Desk.c3u hi.mid l) (fun X g c k hc=>f9p h hi h1 h2 h3 h4 X g c k hc)
open Desk (Ent Rep)
structure g0I(w:World)(p:Rep)(v1 v2 v3 v4:Value):Prop where
 en:∃ l,EV w v1 l/\l.map (·.1)=p.entries
 da:NV w v2 p.days
 gr:NV w v3 p.granted
 ed:NV w v4 p.ended
theorem g0I.later{p:Rep}{v1 v2 v3 v4:Value}(h:g0I w p v1 v2 v3 v4)(k:Below w.heap.size w w'):g0I w' p v1 v2 v3 v4:=by
 obtain⟨l,h1,h2⟩:=h.en;exact⟨⟨l,h1.later k,h2⟩,h.da.later k,h.gr.later k,h.ed.later k⟩
structure g2A(p:Rep):Prop where
 en:p.entries.length<=1000
 sp:∀ e∈p.entries,e.a0e.length<=1000
 da:p.days.length<=1000000
 gr:p.granted.length<=1000000
 ed:p.ended.length<=1000000
 er:p.err≠0->p.entries=[]/\p.days=[]/\p.granted=[]/\p.ended=[]
def g2J(p:Rep)(v1 v2 v3 v4:Value):Obj:=.cells #[.int .i64 p.err,.int .i64 p.at_,.int .i64 p.n,v1,v2,v3,v4] 40 (0,0)
theorem e1u(w:World)(p:Rep)(hp:g2A p)(u1 u2 u3 u4 v1 v2 v3 v4:Value)(hu:g0I w p u1 u2 u3 u4)(hv:g0I w p v1 v2 v3 v4):
  Calls Tryz.prog 76 #[a0s p.err p.at_ p.n u1 u2 u3 u4,a0s p.err p.at_ p.n v1 v2 v3 v4] w fun e w'=>e=.returned (.bool true)/\Below w.heap.size w w':=by
 have P0:=a0b (((KP.nil w).alloc (g2J p u1 u2 u3 u4)).alloc (g2J p v1 v2 v3 v4));obtain⟨l,el,ml⟩:=hu.en;obtain⟨m,em,mm⟩:=hv.en;obtain⟨a1,c1,e1⟩:=el.form;obtain⟨a2,c2,e2⟩:=hu.da.form;obtain⟨a3,c3,e3⟩:=hu.gr.form;obtain⟨a4,c4,e4⟩:=hu.ed.form;obtain⟨b1,d1,f1⟩:=em.form;obtain⟨b2,d2,f2⟩:=hv.da.form;obtain⟨b3,d3,f3⟩:=hv.gr.form;obtain⟨b4,d4,f4⟩:=hv.ed.form;subst e1 e2 e3 e4 f1 f2 f3 f4;have hll:l.length=p.entries.length:=by rw[<- ml,List.length_map]
 have hml:m.length=p.entries.length:=by rw[<- mm,List.length_map]
 have E1:=a0b (fun W (k:Below w.heap.size w W)=>d9N l m _ _ W (el.later k) (em.later k) (by rw[ml,mm]) (by have:=hp.en;omega) (fun q hq=>hp.sp q.1 (ml ▸ List.mem_map.2 ⟨q,hq,rfl⟩)));have E2:=a0b (fun W (k:Below w.heap.size w W)=>d5e p.days _ _ W (hu.da.later k) (hv.da.later k) hp.da);have E3:=a0b (fun W (k:Below w.heap.size w W)=>d5e p.granted _ _ W (hu.gr.later k) (hv.gr.later k) hp.gr);have E4:=a0b (fun W (k:Below w.heap.size w W)=>d5e p.ended _ _ W (hu.ed.later k) (hv.ed.later k) hp.ed)
 have ER:Hid (p.err≠0->l.length=0/\p.days.length=0/\p.granted.length=0/\p.ended.length=0):=fun h=>by
  obtain⟨h1,h2,h3,h4⟩:=hp.er h;rw[hll,h1,h2,h3,h4];simp
 clear hu hv el em ml mm hll hml hp;simp only[a0s]
 go_enter Tryz.func76,Tryz.ntmps76
 go_upto_region 1 with fail
 rw[World.size_alloc] at P0;change Code.wp _ _ _ _ ((w.alloc (g2J p (.slice a1 l.length c1) (.slice a2 p.days.length c2) (.slice a3 p.granted.length c3) (.slice a4 p.ended.length c4))).alloc (g2J p (.slice b1 m.length d1) (.slice b2 p.days.length d2) (.slice b3 p.granted.length d3) (.slice b4 p.ended.length d4)));generalize (w.alloc (g2J p (.slice a1 l.length c1) (.slice a2 p.days.length c2) (.slice a3 p.granted.length c3) (.slice a4 p.ended.length c4))).alloc (g2J p (.slice b1 m.length d1) (.slice b2 p.days.length d2) (.slice b3 p.granted.length d3) (.slice b4 p.ended.length d4))=X at *
 have CL:Hid (∀ W,Below X.heap.size X W->(W.cell? ⟨w.heap.size,3,none⟩=some (.slice a1 l.length c1)/\W.cell? ⟨w.heap.size,4,none⟩=some (.slice a2 p.days.length c2)/\W.cell? ⟨w.heap.size,5,none⟩=some (.slice a3 p.granted.length c3)/\W.cell? ⟨w.heap.size,6,none⟩=some (.slice a4 p.ended.length c4))/\(W.cell? ⟨w.heap.size+1,3,none⟩=some (.slice b1 m.length d1)/\W.cell? ⟨w.heap.size+1,4,none⟩=some (.slice b2 p.days.length d2)/\W.cell? ⟨w.heap.size+1,5,none⟩=some (.slice b3 p.granted.length d3)/\W.cell? ⟨w.heap.size+1,6,none⟩=some (.slice b4 p.ended.length d4))/\(W.cell? ⟨w.heap.size,0,none⟩=some (.int .i64 p.err)/\W.cell? ⟨w.heap.size,1,none⟩=some (.int .i64 p.at_)/\W.cell? ⟨w.heap.size,2,none⟩=some (.int .i64 p.n))/\W.cell? ⟨w.heap.size+1,0,none⟩=some (.int .i64 p.err)/\W.cell? ⟨w.heap.size+1,1,none⟩=some (.int .i64 p.at_)/\W.cell? ⟨w.heap.size+1,2,none⟩=some (.int .i64 p.n)):=fun W k=>by
  have hb:=P0.out.later k;have hu:=(hb.swap);exact⟨⟨hu.hc 3 rfl,hu.hc 4 rfl,hu.hc 5 rfl,hu.hc 6 rfl⟩,⟨hb.hc 3 rfl,hb.hc 4 rfl,hb.hc 5 rfl,hb.hc 6 rfl⟩,⟨hu.hc 0 rfl,hu.hc 1 rfl,hu.hc 2 rfl⟩,hb.hc 0 rfl,hb.hc 1 rfl,hb.hc 2 rfl⟩
 have BX:=a0b P0.out.bl;clear P0;obtain⟨⟨x3,_,_,_⟩,⟨y3,_,_,_⟩,_⟩:=CL.out X (zr _ _)
 go_wp2_with fail
 refine (E1.out _ BX.out).mono ?_;rintro e w1 ⟨rfl,hb1⟩;obtain⟨⟨_,x4,_,_⟩,⟨_,y4,_,_⟩,_⟩:=CL.out w1 hb1;have B1:=a0b (And.intro (a0j BX.out hb1 (zq _)) hb1);clear hb1 x3 y3
 go_wp2_with fail
 refine (E2.out _ B1.out.1).mono ?_;rintro e w2 ⟨rfl,hb2⟩;have B2:=a0b (And.intro (a0j B1.out.1 hb2 (zq _)) (a0j B1.out.2 hb2 (zq _)));obtain⟨⟨_,_,x5,_⟩,⟨_,_,y5,_⟩,_⟩:=CL.out w2 B2.out.2;clear hb2 x4 y4 B1
 go_wp2_with fail
 refine (E3.out _ B2.out.1).mono ?_;rintro e w3 ⟨rfl,hb3⟩;have B3:=a0b (And.intro (a0j B2.out.1 hb3 (zq _)) (a0j B2.out.2 hb3 (zq _)));obtain⟨⟨_,_,_,x6⟩,⟨_,_,_,y6⟩,_⟩:=CL.out w3 B3.out.2;clear hb3 x5 y5 B2
 go_wp2_with fail
 refine (E4.out _ B3.out.1).mono ?_;rintro e w4 ⟨rfl,hb4⟩;have B4:=a0b (a0j B3.out.1 hb4 (zq _));clear x6 y6;obtain⟨⟨x3,x4,x5,x6⟩,_,⟨x0,x1,x2⟩,y0,y1,y2⟩:=CL.out w4 (a0j B3.out.2 hb4 (zq _));clear hb4 B3 CL E1 E2 E3 E4
 by_cases he:p.err=0
 ·have he':(p.err==0)=true:=by simp[he]
  clear he
  go_wp2_with fail
  all_goals
   go_ret;exact⟨by simp,B4.out⟩
 ·have he':(p.err==0)=false:=by simp[he]
  obtain⟨h1,h2,h3,h4⟩:=ER.out he;clear he
  go_wp2_with fail
  all_goals
   go_ret;exact⟨by simp,B4.out⟩
open Desk (Ent St Rep Inv)
theorem f4k(c n:Int)(w:World)(h1:-9223372036854775808<=c)(h2:c<=9223372036854775807)(hn:1<=n)(hn2:n<=1000000):
  Calls Tryz.prog 74 #[.int .i64 c,.int .i64 n] w fun e w'=>e=.returned (.int .i64 (a2s c n))/\w'=w:=by
 have hz:(n==0)=false:=by simp;omega
 have hb:=a6G (c:=c) hn
 by_cases h:c<0
 ·have k1:IntKind.i64.wrap (c+1)=c+1:=a0G (by omega) (by omega);have k2:IntKind.i64.wrap (-(c+1))=-(c+1):=a0G (by omega) (by omega);have e:(-(c+1)).tmod n=a2s c n:=by unfold a2s;rw[if_pos h];exact Int.tmod_eq_emod_of_nonneg (by omega)
  have k3:IntKind.i64.wrap (a2s c n)=a2s c n:=a0i (by omega) (by omega);generalize a2s c n=v at *
  go_enter Tryz.func74,Tryz.ntmps74
  go_wp2_with fail
  go_ret
  simp_all
 ·have e:c.tmod n=a2s c n:=by unfold a2s;rw[if_neg h];exact Int.tmod_eq_emod_of_nonneg (by omega)
  have k3:IntKind.i64.wrap (a2s c n)=a2s c n:=a0i (by omega) (by omega);generalize a2s c n=v at *
  go_enter Tryz.func74,Tryz.ntmps74
  go_wp2_with fail
  go_ret
  simp_all
theorem f7Z(h:Inv s){o:(Int × Int) ⊕ Desk.a7U}(ht:c4m t o):g2A (d4I s o).2/\(d4I s o).2.entries.length<=60/\(d4I s o).2.days.length<=900000/\(d4I s o).2.granted.length<=900000/\(d4I s o).2.ended.length<=900000:=by
 cases o with
 |inl q=>exact⟨⟨by simp[d4I],by simp[d4I],by simp[d4I],by simp[d4I],by simp[d4I],fun _=>by simp[d4I]⟩,by simp[d4I]⟩
 |inr l =>
  obtain⟨line,_,_,hl⟩:=ht;have k:=Desk.f7Y h hl;have:=k.en;have:=k.gr;have:=k.da;have:=k.ed;show g2A (Desk.a1q s l).2/\(Desk.a1q s l).2.entries.length<=60/\(Desk.a1q s l).2.days.length<=900000/\(Desk.a1q s l).2.granted.length<=900000/\(Desk.a1q s l).2.ended.length<=900000;refine⟨⟨by omega,fun e he=>?_,by omega,by omega,by omega,k.er⟩,by omega,by omega,by omega,by omega⟩;have:=(h.en e (k.es e he)).sl;omega
theorem BD.more{p:Nat}(h:BD w p d s r col)(k:Below w.heap.size w w'):BD w' p d s r col :=
 h.off (G:=[]) (Off.of_below k) (by simp) (h.env.later k)
theorem b5M.later{w1:World}{p:Nat}{q:St × Rep}(h:b5M w p d col q v w1)(k:Below w1.heap.size w1 w'):b5M w p d col q v w':=by
 obtain⟨r',col',bd,st,rp⟩:=h;exact⟨r',col',bd.more k,st.trans (Step.below k),rp.later k⟩
theorem d9C.a0s{K N:List Nat}{p:Rep}(h:d9C w K N u1 u2 u3 u4 l p.days p.granted p.ended)(hl:l.map (·.1)=p.entries):g0I w p u1 u2 u3 u4 :=
 ⟨⟨l,EV.own h.en (fun p hp=>SV.own (h.sp p hp)),hl⟩,NV.own h.da,NV.own h.gr,NV.own h.ed⟩
theorem g2b(args:Array Value)(w:World):(callFunc 77 args).run Tryz.prog w=.ok (.enter 77 args) w:=by kernel_rfl
section
variable {w0 w w1 w':World}{B n:Nat}{tg:Nat->Tg}{i:Nat}{k:Dk}{D:List Dk}{K:List Nat}{v0 v1 r1 r2 r3:Value}{X1 X2 X3:List KL}
theorem LX.still(h:LX w0 w B n tg D K v0 v1 r1 r2 r3 X1 X2 X3)(hi:D[i]?=some k){q:St × Rep}(P:b5M w k.p k.d k.col q v w1){b:Nat}(hb:tg b≠.no)(hp:tg b≠.pr i):w1.heap[b]?=w.heap[b]?:=by
 obtain⟨r',col',_,st,_⟩:=P;have hl:=h.ds.lt b hb;refine st.blockN hl ?_ hl
 cases hc:k.col b with
 |none=>rfl
 |some c=>exact (hp ((h.ds.at_ i k hi).pc b c hc)).elim
theorem LX.more{m:Nat}(h:LX w0 w B n tg D K v0 v1 r1 r2 r3 X1 X2 X3)(k:n<=m):LX w0 w B m tg D K v0 v1 r1 r2 r3 X1 X2 X3 :=
 ⟨h.ds,h.bk,Nat.le_trans h.len k,h.xo,h.yo,h.tb,h.tk,h.tx,h.ty,h.d3,h.bl,h.lo,h.w10⟩
theorem r7{er at_ n:Int}(h:w.heap[Q]?=some (d9E er at_ n u1 u2 u3 u4)):w.cell? ⟨Q,0,none⟩=some (.int .i64 er)/\w.cell? ⟨Q,1,none⟩=some (.int .i64 at_)/\w.cell? ⟨Q,2,none⟩=some (.int .i64 n)/\w.cell? ⟨Q,3,none⟩=some u1/\w.cell? ⟨Q,4,none⟩=some u2/\w.cell? ⟨Q,5,none⟩=some u3/\w.cell? ⟨Q,6,none⟩=some u4 :=
 ⟨d0h h 0 rfl,d0h h 1 rfl,d0h h 2 rfl,d0h h 3 rfl,d0h h 4 rfl,d0h h 5 rfl,d0h h 6 rfl⟩
structure g4C(w0 w:World)(B n:Nat)(tg:Nat->Tg)(D:List Dk)(K:List Nat)(v0 v1 r1 r2 r3:Value)(X1 X2 X3:List KL)(i:Nat)(k:Dk)(q:St × Rep)(Q:Nat)(u1 u2 u3 u4:Value)(W:World):Prop where
 lx:LX w0 w B n tg D K v0 v1 r1 r2 r3 X1 X2 X3
 hi:D[i]?=some k
 bp:b5M w k.p k.d k.col q (a0s q.2.err q.2.at_ q.2.n u1 u2 u3 u4) W
 hQ:W.heap[Q]?=some (d9E q.2.err q.2.at_ q.2.n u1 u2 u3 u4)
 lo:w.heap.size<=Q
theorem LX.mid1(h:LX w0 w B n tg D K v0 v1 r1 r2 r3 X1 X2 X3)(hi:D[i]?=some k){q:St × Rep}(P:b5M w k.p k.d k.col q (a0s q.2.err q.2.at_ q.2.n u1 u2 u3 u4) w1):g4C w0 w B n tg D K v0 v1 r1 r2 r3 X1 X2 X3 i k q w1.heap.size u1 u2 u3 u4 (w1.alloc (d9E q.2.err q.2.at_ q.2.n u1 u2 u3 u4)) :=
 ⟨h,hi,P.later ((zr _ _).alloc (zq _) _),a0p _ _,by obtain⟨_,_,_,st,_⟩:=P;exact st.size⟩
structure g2L(w0:World)(B n:Nat)(tg:Nat->Tg)(D:List Dk)(K:List Nat)(v0 v1 r1 r2 r3:Value)(X1 X2 X3:List KL)(p:Rep)(Q R:Nat)(u1 u2 u3 u4 z1 z2 z3 z4:Value)(l:List (Ent × Value))(W:World):Prop where
 lx:LX w0 W B n tg D K v0 v1 r1 r2 r3 X1 X2 X3
 rl:d9C W K (bkB B r1 r2 r3) u1 u2 u3 u4 l p.days p.granted p.ended
 hl:l.map (·.1)=p.entries
 no:∀ b∈rlB u1 u2 u3 u4 l,tg b=.no/\w0.heap.size<=b
 rv:g0I W p z1 z2 z3 z4
 hQ:W.heap[Q]?=some (d9E p.err p.at_ p.n u1 u2 u3 u4)
 hR:W.heap[R]?=some (d9E p.err p.at_ p.n z1 z2 z3 z4)
theorem g2L.later{p:Rep}(h:g2L w0 B n tg D K v0 v1 r1 r2 r3 X1 X2 X3 p Q R u1 u2 u3 u4 z1 z2 z3 z4 l w)(k:Below w.heap.size w w'):g2L w0 B n tg D K v0 v1 r1 r2 r3 X1 X2 X3 p Q R u1 u2 u3 u4 z1 z2 z3 z4 l w' :=
 ⟨h.lx.later k,h.rl.later k,h.hl,h.no,h.rv.later k,(k.block _ (Array.getElem?_eq_some_iff.1 h.hQ).1).trans h.hQ,(k.block _ (Array.getElem?_eq_some_iff.1 h.hR).1).trans h.hR⟩
theorem g4C.mid2{q:St × Rep}{W w2:World}(h:g4C w0 w B n tg D K v0 v1 r1 r2 r3 X1 X2 X3 i k q Q u1 u2 u3 u4 W)(P:DDo W k.dd k.F k.xs q (.returned (a0s q.2.err q.2.at_ q.2.n z1 z2 z3 z4)) w2):
  ∃ tg' D' l,g2L w0 B n tg' D' K v0 v1 r1 r2 r3 X1 X2 X3 q.2 Q w2.heap.size u1 u2 u3 u4 z1 z2 z3 z4 l (w2.alloc (d9E q.2.err q.2.at_ q.2.n z1 z2 z3 z4)):=by
 obtain⟨k',tg',lx,a1,a2,a3,a4,l,hv,hl,hr,hn⟩:=h.lx.both h.hi h.bp P;simp only[a0s,Value.agg.injEq,Array.mk.injEq,List.cons.injEq,true_and,and_true] at hv;obtain⟨rfl,rfl,rfl,rfl⟩:=hv;have kW:Below w2.heap.size w2 (w2.alloc (d9E q.2.err q.2.at_ q.2.n z1 z2 z3 z4)):=(zr _ _).alloc (zq _) _;obtain⟨y1,y2,y3,y4,xs',F',he,tl,nv,_,_,kd,_⟩:=P;simp only[Ending.returned.injEq,a0s,Value.agg.injEq,Array.mk.injEq,List.cons.injEq,true_and,and_true] at he;obtain⟨rfl,rfl,rfl,rfl⟩:=he;have hQl:=(Array.getElem?_eq_some_iff.1 h.hQ).1
 have hQ2:w2.heap[Q]?=some (d9E q.2.err q.2.at_ q.2.n u1 u2 u3 u4):=(kd.block Q hQl (fun hx=>by
  have:=h.lx.ds.lt Q (by rw[(h.lx.ds.at_ i k h.hi).df Q hx];simp);have:=h.lo
  omega)).trans h.hQ
 exact⟨tg',_,l,lx.later kW,hr.later kW,hl,hn,(g0I.mk tl.en tl.da nv tl.ed).later kW,(kW.block _ (by have:=kd.size;omega)).trans hQ2,a0p _ _⟩
theorem g2L.a9i{p:Rep}(h:g2L w0 B n tg D K v0 v1 r1 r2 r3 X1 X2 X3 p Q R u1 u2 u3 u4 z1 z2 z3 z4 l w)(hn:n+64<=900000000)(ok:g2A p)(o6:p.entries.length<=60/\p.days.length<=900000/\p.granted.length<=900000/\p.ended.length<=900000):
  Calls Tryz.prog 77 #[.pointer (some ⟨B,2,none⟩),.agg #[.int .i64 p.err,.int .i64 p.at_,.int .i64 p.n,u1,u2,u3,u4]] w fun x w'=>x=.returned (.tuple #[])/\LW w0 w' B (n+64):=by
 have hll:l.length=p.entries.length:=by rw[<- h.hl,List.length_map]
 have hlen:=h.lx.len;refine (f8V h.lx.bk (by omega) h.rl (by omega) (fun x hx=>?_) o6.2.1 o6.2.2.1 o6.2.2.2 p.err p.at_ p.n).mono ?_
 ·have:x.1∈p.entries:=by rw[<- h.hl];exact List.mem_map.2 ⟨x,hx,rfl⟩
  have:=ok.sp x.1 this;omega
 ·rintro e w4 ⟨rfl,h4⟩;exact⟨rfl,(h.lx.more (Nat.le_add_right n 64)).kept (by omega) h.no h4⟩
theorem e2q(h:LW w0 w B n){a:Int}(h1:-9223372036854775808<=a)(h2:a<=9223372036854775807)(t:ByteArray)(hn:n+64<=900000000):
  Calls Tryz.prog 54 #[.pointer (some ⟨B,0,none⟩),.int .i64 a,.string t] w fun e w'=>e=.returned (.bool true)/\LW w0 w' B (n+64):=by
 obtain⟨tg,D,K,v0,v1,r1,r2,r3,X1,X2,X3,hx⟩:=h;obtain⟨a0,c0,rfl⟩:=c9y hx.xo;obtain⟨a1,c1,rfl⟩:=c9y hx.yo;obtain⟨x0,x1,_,_,_,_⟩:=hx.bk.cells;have HX:=a0b hx
 by_cases hD:D.length=0
 ·have hD':((D.length:Int)==0)=true:=by simp[hD]
  clear hx hD
  go_enter Tryz.func54,Tryz.ntmps54
  go_wp2_with fail
  go_ret;exact⟨rfl,_,_,_,_,_,_,_,_,_,_,_,HX.out.more (Nat.le_add_right n 64)⟩
 ·have hD':((D.length:Int)==0)=false:=by rw[beq_eq_false_iff_ne];omega
  have hd3:=hx.d3;have hb:=a6G (c:=a) (n:=D.length) (by omega);obtain⟨j,hj⟩:∃ j:Nat,a2s a D.length=j:=⟨(a2s a D.length).toNat,by omega⟩;have hjl:j<D.length:=by omega
  have PK:=a0b (f4k a D.length w h1 h2 (by omega) (by omega));rw[hj] at PK;clear hb hj hD h1 h2;have hk:D[j]?=some D[j]:=List.getElem?_eq_getElem hjl;generalize D[j]=k at hk;obtain⟨g0,q0,e0,y0⟩:=e4k hx.xo (k:=j) (u:=.pointer (some ⟨k.p,0,none⟩)) (by rw[List.getElem?_map,hk];rfl);obtain⟨g1,q1,e1,y1⟩:=e4k hx.yo (k:=j) (u:=.pointer (some ⟨k.dd,0,none⟩)) (by rw[List.getElem?_map,hk];rfl);simp only[Value.slice.injEq,true_and] at e0 e1;obtain⟨rfl,rfl⟩:=e0;obtain⟨rfl,rfl⟩:=e1;obtain⟨o,hT,hDc⟩:=h4v t;have DO:=a0b (g3G (hx.ds.at_ j k hk).bd (f9k _) hT);have OK:=a0b (f7Z (hx.ds.at_ j k hk).bd.ds.inv hT);have RD:Hid (∀ W,DD W k.dd k.s k.xs k.F->Calls Tryz.prog 75 #[.pointer (some ⟨k.dd,0,none⟩),.string t] W (DDo W k.dd k.F k.xs (d4I k.s o))):=fun W hW=>f8p hW (hx.ds.at_ j k hk).bd.ds.inv hDc
  have BT:=a0b (And.intro (HX.out.tb B (by simp[bkB])) (HX.out.ty g1 rfl));have HK:=a0b hk;generalize d4I k.s o=q at *;clear hx hT hDc hk;have hjl':(j:Int)<(D.length:Int):=by omega
  go_enter Tryz.func54,Tryz.ntmps54
  go_upto_region 4 with (first|(go_at_call 74;refine PK.out.mono ?_;rintro e w1 ⟨rfl,hw⟩;rw[hw];clear hw w1))
  go_upto_region 5 with (first|(go_at_call 21;refine DO.out.mono ?_;rintro e w1 ⟨v,rfl,bp⟩;have BP:=a0b bp;obtain⟨r',col',_,_,u1,u2,u3,u4,l0,rfl,hl0,e1,e2,e3,e4,_,_⟩:=bp;obtain⟨b1,d1,rfl⟩:=a0B e1.own;obtain⟨b2,d2,rfl⟩:=e2.slice;obtain⟨b3,d3,rfl⟩:=e3.slice;obtain⟨b4,d4,rfl⟩:=e4.slice;have z1:=(zo (HX.out.still HK.out BP.out (b:=B) (by rw[BT.out.1];simp) (by rw[BT.out.1];simp))).trans x1;have z2:=(zo (HX.out.still HK.out BP.out (b:=g1) (by rw[BT.out.2];simp) (by rw[BT.out.2];simp))).trans y1;clear hl0 e1 e2 e3 e4 x0 x1 y0 y1 DO PK;simp only[a0s]))
  have M1:=a0b (HX.out.mid1 HK.out BP.out);change Code.wp _ _ _ _ (w1.alloc (d9E q.2.err q.2.at_ q.2.n (.slice b1 l0.length d1) (.slice b2 q.2.days.length d2) (.slice b3 q.2.granted.length d3) (.slice b4 q.2.ended.length d4)));have RDW:=a0b (RD.out _ (M1.out.lx.ds.doc M1.out.hi M1.out.bp));have z3:=a0a ((zr _ w1).alloc (zq _) (d9E q.2.err q.2.at_ q.2.n (.slice b1 l0.length d1) (.slice b2 q.2.days.length d2) (.slice b3 q.2.granted.length d3) (.slice b4 q.2.ended.length d4))) z1;have z4:=a0a ((zr _ w1).alloc (zq _) (d9E q.2.err q.2.at_ q.2.n (.slice b1 l0.length d1) (.slice b2 q.2.days.length d2) (.slice b3 q.2.granted.length d3) (.slice b4 q.2.ended.length d4))) z2;clear z1 z2 RD BP BT HX HK;generalize w1.alloc (d9E q.2.err q.2.at_ q.2.n (.slice b1 l0.length d1) (.slice b2 q.2.days.length d2) (.slice b3 q.2.granted.length d3) (.slice b4 q.2.ended.length d4))=W1 at *;generalize w1.heap.size=Q at *
  go_upto_region 6 with (first|(go_at_call 75;refine RDW.out.mono ?_;rintro e w2 dd;have DDH:=a0b dd;obtain⟨y1,y2,y3,y4,xs',F',rfl,tl,nv,_⟩:=dd;obtain⟨le,ev,_⟩:=tl.en;obtain⟨f1,g2,rfl⟩:=ev.form;obtain⟨f2,g3,rfl⟩:=tl.da.form;obtain⟨f3,g4,rfl⟩:=nv.form;obtain⟨f4,g5,rfl⟩:=tl.ed.form;clear tl nv ev z3 z4 RDW;simp only[a0s]))
  change Code.wp _ _ _ _ (w2.alloc (d9E q.2.err q.2.at_ q.2.n (.slice f1 le.length g2) (.slice f2 q.2.days.length g3) (.slice f3 q.2.granted.length g4) (.slice f4 q.2.ended.length g5)));obtain⟨tg',D',l,m2⟩:=M1.out.mid2 DDH.out;have M2:=a0b m2;obtain⟨a0,a1,a2,a3,a4,a5,a6⟩:=r7 m2.hQ;obtain⟨s0,s1,s2,s3,s4,s5,s6⟩:=r7 m2.hR;have SR:=a0b (e1u _ q.2 OK.out.1 _ _ _ _ _ _ _ _ (m2.rl.a0s m2.hl) m2.rv);simp only[a0s] at SR;clear m2 M1 DDH;generalize w2.alloc (d9E q.2.err q.2.at_ q.2.n (.slice f1 le.length g2) (.slice f2 q.2.days.length g3) (.slice f3 q.2.granted.length g4) (.slice f4 q.2.ended.length g5))=W2 at *;generalize w2.heap.size=R at *
  go_upto_region 7 with (first|(go_at_call 76;refine SR.out.mono ?_;rintro e w3 ⟨rfl,hb3⟩;have M3:=a0b (M2.out.later hb3);clear hb3 a0 a1 a2 a3 a4 a5 a6 s0 s1 s2 s3 s4 s5 s6 SR))
  obtain⟨a0,a1,a2,a3,a4,a5,a6⟩:=r7 M3.out.hQ;have KP:=a0b ((M3.out.later (a0q w3)).a9i hn OK.out.1 OK.out.2);clear M2 M3 OK
  go_region_law (first
   |(refine a2k (by rfl) 77 _ _ (by rfl) _ (by simp[Act.eval]) (g2b _ _) KP.out ?_;rintro e w4 ⟨rfl,h4⟩;refine⟨_,rfl,?_⟩;have H4:=a0b h4;clear h4))
  all_goals
   go_wp2_with fail
   go_ret;exact⟨rfl,H4.out⟩
end
theorem g9L(s:ByteArray)(w:World)(he:Env w):
  Calls Tryz.prog 35 #[.string s] w fun e w'=>PR s e/\Below w.heap.size w w':=by
 have HE:=hide he;clear he
 go_enter Tryz.func35,Tryz.ntmps35
 go_wp2_with fail
 refine (b6h s w (a0d HE)).mono ?_;rintro e w1 ⟨hr,hb1⟩
 cases hr with
 |long h =>
  have HH:=hide h;clear h;go_wp2;go_ret3;exact⟨.inl ⟨HH.out,rfl⟩,hb1⟩
 |bad h v st hl hb =>
  have HN:=hide (g0f hl hb);have HH:=hide h;clear h hl hb;go_wp2;go_ret3;exact⟨.inr ⟨HH.out,.inr ⟨st.1,HN.out,rfl⟩⟩,hb1⟩
 |e6J h v st hl h2 hb =>
  obtain⟨p,xs,hsc,hpw,x0,x1,hout⟩:=h2x hl h2 hb
  have hsz:(jn xs).size<=30000:=by
   have ⟨l1,l2⟩:=e3M _ _ _ _ hsc;have hz:=e4l p (Txt.a1v s) l1 l2 (fun x hx=>Nat.le_trans (b4i s x hx) h) (Txt.a1v s).length (zq _);rw[hout] at hz;have:=b7C s;omega
  have HSC:=hide hsc;have HOUT:=hide hout;have HH:=hide h;have HPW:=hide hpw;clear hsc hout h hl h2 hb hpw
  go_wp2_with fail
  refine (f2Q v xs (a0d HPW) w1 ((a0d HE).later hb1) x0 x1 hsz).mono ?_;rintro e w2 ⟨rfl,hb2⟩;have hbb:=c8d hb1 hb2;go_wp2;go_ret3;exact⟨.inr ⟨HH.out,.inl ⟨p,HSC.out,by rw[HOUT.out];rfl⟩⟩,hbb⟩
theorem h8O{s:ByteArray}{e:Ending}(h:PR s e):∃ (t:ByteArray)(k m:Int),e=.returned (.tuple #[.string t,.int .i64 k,.int .i64 m]):=by
 rcases h with ⟨_,h⟩|⟨_,⟨p,_,h⟩|⟨m,_,h⟩⟩
 ·exact⟨_,_,_,h⟩
 ·exact⟨_,_,_,h⟩
 ·exact⟨_,_,_,h⟩
theorem h8N{s:ByteArray}{e f:Ending}(h:PR s e)(k:PR s f):f=e:=by
 rcases h with ⟨a,h⟩|⟨a,⟨p,hp,h⟩|⟨m,hm,h⟩⟩ <;> rcases k with ⟨b,k⟩|⟨b,⟨q,hq,k⟩|⟨n,hn,k⟩⟩
 ·rw[h,k]
 ·omega
 ·omega
 ·omega
 ·have e1:=hp.symm.trans hq;simp only[Prod.mk.injEq,Option.some.injEq,and_true] at e1;subst e1;rw[h,k]
 ·have e1:=hp.symm.trans hn;simp at e1
 ·omega
 ·have e1:=hm.symm.trans hq;simp at e1
 ·have e1:=hm.symm.trans hn;simp only[Prod.mk.injEq,true_and] at e1;subst e1;rw[h,k]
theorem g0h(s:ByteArray)(w:World)(he:Env w):
  Calls Tryz.prog 53 #[.string s] w fun e w'=>e=.returned (.bool true)/\Below w.heap.size w w':=by
 have HE:=hide he;clear he
 go_enter Tryz.func53,Tryz.ntmps53
 go_wp2_with fail
 refine (g9L s w (a0d HE)).mono ?_;rintro e w1 ⟨h1,hb1⟩;have H1:=hide h1;obtain⟨t,k,m,rfl⟩:=h8O h1;clear h1
 go_wp2_with fail
 refine (e3U s w1 ((a0d HE).later hb1)).mono ?_;rintro e w2 ⟨h2,hb2⟩;obtain rfl:=h8N (a0d H1) h2;have hbb:=c8d hb1 hb2;clear h2 H1;go_wp2;go_ret;exact⟨a2a (by simp),hbb⟩
theorem g8n(p:Value)(a y m d:Int)(s:ByteArray)(w:World)(he:Env w):
  Calls Tryz.prog 41 #[p,.agg #[.int .i64 3,.int .i64 a,.int .i64 y,.int .i64 m,.int .i64 d,.string s]] w fun e w'=>e=.returned (.bool true)/\Below w.heap.size w w':=by
 have hb:∀ o,Below w.heap.size w (w.alloc o):=fun o=>(zr _ _).alloc (zq _) o
 have HB:=hide hb;clear hb
 go_enter Tryz.func41,Tryz.ntmps41
 go_wp2_with fail
 refine (g0h _ _ (he.later (a0d HB _))).mono ?_;rintro e w' ⟨rfl,hb1⟩;go_wp2;go_ret;exact⟨rfl,(a0d HB _).trans (hb1.mono (by simp))⟩
section
variable {w0 w w':World}{B n:Nat}
theorem h4F(h:LW w0 w B n)(x:OpX)(hok:g4K x)(hk1:1<=x.k)(hk:x.k<=6)(hn:n+64<=900000000):
  Calls Tryz.prog 41 #[.pointer (some ⟨B,0,none⟩),.agg #[.int .i64 x.k,.int .i64 x.a,.int .i64 x.y,.int .i64 x.m,.int .i64 x.d,.string x.s]] w fun e w'=>e=.returned (.bool true)/\LW w0 w' B (n+64):=by
 have kW:Below w.heap.size w (w.alloc (opO x)):=(zr _ _).alloc (zq _) _;have HW:=a0b (h.later kW);have hq:=a0p w (opO x)
 have CL:Hid (∀ W,Below (w.alloc (opO x)).heap.size (w.alloc (opO x)) W->W.cell? ⟨w.heap.size,0,none⟩=some (.int .i64 x.k)/\W.cell? ⟨w.heap.size,1,none⟩=some (.int .i64 x.a)/\W.cell? ⟨w.heap.size,5,none⟩=some (.string x.s)):=fun W k=>by
  have hb:=(k.block _ (Array.getElem?_eq_some_iff.1 hq).1).trans hq;exact⟨d0h hb 0 rfl,d0h hb 1 rfl,d0h hb 5 rfl⟩
 obtain⟨c0,c1,c5⟩:=CL.out _ (zr _ _);have HT:Hid (LW w0 w B n):=h;have hkk:x.k=1\/x.k=2\/x.k=3\/x.k=4\/x.k=5\/x.k=6:=by omega
 clear kW hq h hk hk1;obtain⟨k,a,y,m,d,s⟩:=x;obtain⟨ha1,ha2,hd1,hd2,hsz⟩:=hok;dsimp only at *;rcases hkk with rfl|rfl|rfl|rfl|rfl|rfl
 ·exact (h4E _ _ _ _ _ _ _ HT.out.env.tab).mono (by rintro e w1 ⟨rfl,hb⟩;exact⟨rfl,(HT.out.later hb).more (Nat.le_add_right n 64)⟩)
 ·exact (h0B _ _ _ _ _ _ _ HT.out.env.tab hd1 hd2).mono (by rintro e w1 ⟨rfl,hb⟩;exact⟨rfl,(HT.out.later hb).more (Nat.le_add_right n 64)⟩)
 ·exact (g8n _ _ _ _ _ _ _ HT.out.env).mono (by rintro e w1 ⟨rfl,hb⟩;exact⟨rfl,(HT.out.later hb).more (Nat.le_add_right n 64)⟩)
 ·go_enter Tryz.func41,Tryz.ntmps41
  go_upto_region 1 with fail
  change Code.wp _ _ _ _ (w.alloc (opO ⟨4,a,y,m,d,s⟩));generalize w.alloc (opO ⟨4,a,y,m,d,s⟩)=W at *
  go_wp2_with (first|(go_at_call 40;refine (e0X HW.out).mono ?_;rintro e w1 ⟨rfl,h1⟩;have H1:=a0b h1;clear h1))
  go_ret;exact⟨rfl,H1.out.more (Nat.le_add_right n 64)⟩
 ·go_enter Tryz.func41,Tryz.ntmps41
  go_upto_region 1 with fail
  change Code.wp _ _ _ _ (w.alloc (opO ⟨5,a,y,m,d,s⟩));generalize w.alloc (opO ⟨5,a,y,m,d,s⟩)=W at *
  go_wp2_with (first|(go_at_call 54;refine (e2q HW.out ha1 ha2 _ hn).mono ?_;rintro e w1 ⟨rfl,h1⟩;have H1:=a0b h1;clear h1))
  go_ret;exact⟨rfl,H1.out⟩
 ·have PL:=a0b (e3U s _ HW.out.env)
  have key:Hid (∀ e,PR s e->∃ t er at_,e=.returned (.tuple #[.string t,.int .i64 er,.int .i64 at_])/\((er=0)\/(er != 0)=true)):=fun e he=>by
   rcases he with ⟨_,rfl⟩|⟨_,⟨p,hp,rfl⟩|⟨m,_,rfl⟩⟩
   ·exact⟨_,_,_,rfl,.inr rfl⟩
   ·exact⟨_,_,_,rfl,.inl rfl⟩
   ·exact⟨_,_,_,rfl,.inr rfl⟩
  go_enter Tryz.func41,Tryz.ntmps41
  go_upto_region 1 with fail
  change Code.wp _ _ _ _ (w.alloc (opO ⟨6,a,y,m,d,s⟩));generalize w.alloc (opO ⟨6,a,y,m,d,s⟩)=W at *
  go_upto_region 14 with (first|(go_at_call 55;refine PL.out.mono ?_;rintro e w1 ⟨hp,hb⟩;obtain⟨t,er,at_,rfl,hc⟩:=key.out e hp;have H1:=a0b (HW.out.later hb);have C1:=a0b (CL.out _ hb);have HC:=a0b hc;clear hp hb hc c0 c1 c5))
  obtain⟨c0,c1,c5⟩:=C1.out;rcases HC.out with rfl|he
  ·go_wp2_with (first|(go_at_call 54;refine (e2q H1.out ha1 ha2 _ hn).mono ?_;rintro e w2 ⟨rfl,h2⟩;have H2:=a0b h2;clear h2))
   go_ret;exact⟨rfl,H2.out⟩
  ·go_wp2_with (first|(go_at_call 54;refine (e2q H1.out ha1 ha2 _ hn).mono ?_;rintro e w2 ⟨rfl,h2⟩;have H2:=a0b h2;clear h2))
   go_ret;exact⟨rfl,H2.out⟩
theorem h1o(he:Env w){len:Nat}(hs:e2N w a0 len)(hl:len<=1900000):
  Calls Tryz.prog 15 #[.slice a0 len cap,.int .i64 1,.int .i64 6] w fun e w'=>e=.returned (.bool true)/\Below w.heap.size w w':=by
 have HS:=a0b (LW.start he)
 have HO:Hid (∀ W m k,k<len->LW w W w.heap.size m->∃ b off x,a0=some ⟨b,off,none⟩/\g2D W b (off+k*6) x/\g4K x):=fun W m k hk hW=>by
  obtain⟨b,off,x,e,h1,h2⟩:=hs k hk;exact⟨b,off,x,e,h1.later hW.bl,h2⟩
 clear hs he
 go_enter Tryz.func15,Tryz.ntmps15
 go_upto_region 2 with fail
 change Code.wp _ _ _ _ (w.alloc zW);generalize w.alloc zW=W at *
 go_wp2_with (first|(go_at_call 40;refine (e0X HS.out).mono ?_;rintro e w1 ⟨rfl,h1⟩;have H1:=a0b h1;clear h1))
 generalize w.heap.size=B at *
 go_loopw [9,10,11] (fun v _ _ wr=>∃ k:Nat,k<=len/\v=.int .i64 k/\LW w wr B (k*64)) (fun v _ _ _=>len-(intOf v).toNat)
 case atStart=>exact⟨0,Nat.zero_le _,rfl,by simpa using H1.out⟩
 case round =>
  obtain⟨k,hk,rfl,hlw⟩:=hrel;have HK:=a0b hlw
  by_cases hlt:k<len
  ·have hlt':(k:Int)<(len:Int):=by omega
   obtain⟨b,off,x,rfl,hop,hx⟩:=HO.out wr _ k hlt hlw;obtain⟨o0,o1,o2,o3,o4,o5⟩:=hop;have HX:=a0b hx;clear hx hlw
   by_cases h1:x.k<1
   ·go_wp2_with fail
    exact⟨⟨k+1,by omega,by go_num,HK.out.more (by omega)⟩,by simp[intOf];omega⟩
   ·by_cases h6:6<x.k
    ·go_wp2_with fail
     exact⟨⟨k+1,by omega,by go_num,HK.out.more (by omega)⟩,by simp[intOf];omega⟩
    ·go_wp2_with (first
      |(go_at_call 41;refine (h4F HK.out x HX.out (by omega) (by omega) (by omega)).mono ?_;rintro e w2 ⟨rfl,h2⟩;have H2:=a0b h2;clear h2)
      |(go_at_call 42;refine (H2.out.looks (by omega)).mono ?_;rintro e w3 ⟨rfl,h3⟩;have H3:=a0b h3;clear h3))
     exact⟨⟨k+1,by omega,by go_num,by rw[Nat.add_mul,Nat.one_mul];exact H3.out⟩,by simp[intOf];omega⟩
  ·have hlt':¬ (k:Int)<(len:Int):=by omega
   clear hlw
   go_wp2_with fail
   go_ret;exact⟨rfl,HK.out.bl⟩
theorem g9N{len:Nat}(he:Env w)(hs:e2N w a0 len)(hl:len<=1900000):
  Calls Tryz.prog 14 #[.slice a0 len cap] w fun e w'=>e=.returned (.bool true)/\Below w.heap.size w w':=by
 have HP:=a0b (h1o (cap:=cap) he hs hl);clear he hs
 go_enter Tryz.func14,Tryz.ntmps14
 go_wp2_with fail
 refine HP.out.mono ?_;rintro e w2 ⟨rfl,hb⟩
 go_wp2_with fail
 go_ret;exact⟨rfl,hb⟩
end
end Go.Proofs.YtfigmlfdnickmaaGreatDoor
