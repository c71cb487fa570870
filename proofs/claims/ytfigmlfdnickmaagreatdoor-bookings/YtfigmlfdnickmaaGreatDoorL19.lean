import Derived.Test.YtfigmlfdnickmaaGreatDoorL18
import Derived.BigQuiet
set_option maxRecDepth 100000
set_option maxHeartbeats 8000000
variable{t:ByteArray}{m:Int}{P:Int->List Go.Value}{F G K:List Nat}{pat xs:List Go.Value}{B Q d g j k n:Nat}{col:Nat->Option Go.Proofs.YtfigmlfdnickmaaGreatDoor.Col}{o:Go.Obj}{s:Go.Proofs.YtfigmlfdnickmaaGreatDoor.Desk.St}{a b c l r r' u v:Go.Value}{W Z Z' Z3 w w' w0 w9 wr:Go.World}
namespace Go.Proofs.YtfigmlfdnickmaaGreatDoor
open Go.RowKit
open Desk (Ent St Rep Inv a0g a1q)
def e7g:List ByteArray:=[a3F,a9P,a6m,a5Q,a9a,b5h,b1c]
def f9Y(t:ByteArray):Prop:=∃ k∈e7g,isB (Txt.a1v t) 0 false k=true
def g3O(t:ByteArray):(Int × Int) ⊕ Desk.a7U->Prop
 |.inl (er,at_)=>(160<t.size/\er=1/\at_=0)\/(t.size<=160/\∃ m:Nat,g0V t=(none,m)/\er=2/\at_=m)
 |.inr l=>t.size<=160/\∃ q,Full t q/\e2P (Txt.a1v t) q l/\Desk.a1O l
def d4I(s:St):(Int × Int) ⊕ Desk.a7U->St × Rep
 |.inl (er,at_)=>(s,⟨er,at_,0,[],[],[],[]⟩)
 |.inr l=>a1q s l
def g4t:(Int × Int) ⊕ Desk.a7U->Prop
 |.inl _=>True
 |.inr l=>g1X l=true
theorem e9M(h:f9Y t):∃ v st,a2H (Txt.a1v t) v st/\f2K t st/\(st.2=false->a1b (Txt.a1v t).length st.1 st.2=false->∃ q l,Full t q/\e2P (Txt.a1v t) q l/\LV v l/\Desk.a1O l/\g1X l=true):=by
 obtain⟨k,hk,h⟩:=h
 have key:∀ {v st},a2H (Txt.a1v t) v st->g0a t v st->(∀ l,LV v l->g1X l=true)->∃ v st,a2H (Txt.a1v t) v st/\f2K t st/\(st.2=false->a1b (Txt.a1v t).length st.1 st.2=false->∃ q l,Full t q/\e2P (Txt.a1v t) q l/\LV v l/\Desk.a1O l/\g1X l=true):=fun {v st} h1 h2 h3=>⟨v,st,h1,h2.1,fun a b=>by
  obtain⟨q,l,x1,x2,x3,x4⟩:=h2.2 a b
  exact⟨q,l,x1,x2,x3,x4,h3 l x3⟩⟩
 simp only[e7g,List.mem_cons,List.not_mem_nil,or_false] at hk;rcases hk with rfl|rfl|rfl|rfl|rfl|rfl|rfl
 ·exact key (.a0k h) (f3k h) (fun l hl=>by cases hl;rfl)
 ·exact key (.book h) (f9J h) (fun l hl=>by cases hl;rfl)
 ·exact key (.cancel h) (f2y h) (fun l hl=>by cases hl;rfl)
 ·cases hm:a1b (Txt.a1v t).length (a0M (Txt.a1v t) [nmB] (1,false)).1 (a0M (Txt.a1v t) [nmB] (1,false)).2
  ·exact key (.list0 h hm) (f5m h hm) (fun l hl=>by cases hl;rfl)
  ·exact key (.list1 h hm) (f5l h hm) (fun l hl=>by cases hl;rfl)
 ·exact key (.peak h) (f8w h) (fun l hl=>by cases hl;rfl)
 ·exact key (.find h) (f9g h) (fun l hl=>by cases hl;rfl)
 ·exact key (.clock h) (f6s h) (fun l hl=>by cases hl;rfl)
theorem f7P(h:f9Y t):∃ o,c4m t o/\g3O t o/\g4t o:=by
 by_cases hs:160<t.size
 ·exact⟨.inl (1,0),⟨by decide,.inl ⟨rfl,rfl⟩,fun e he=>a8v he (.long hs)⟩,.inl ⟨hs,rfl,rfl⟩,trivial⟩
 ·obtain⟨v,st,hl,hn,hd⟩:=e9M h
  by_cases hb:st.2=true\/a1b (Txt.a1v t).length st.1 st.2=true
  ·exact⟨.inl (2,st.1),⟨by decide,.inr ⟨rfl,by omega⟩,fun e he=>a8v he (.bad (by omega) v st hl hb)⟩,.inr ⟨by omega,st.1,hn hb,rfl,rfl⟩,trivial⟩
  ·have h2:st.2=false:=by cases e:st.2 <;> simp_all
   have h3:a1b (Txt.a1v t).length st.1 st.2=false:=by cases e:a1b (Txt.a1v t).length st.1 st.2 <;> simp_all
   obtain⟨q,l,x1,x2,x3,x4,x5⟩:=hd h2 h3;exact⟨.inr l,⟨v,fun e he=>a8v he (.e6J (by omega) v st hl h2 h3),x3,x4⟩,⟨by omega,q,x1,x2,x4⟩,x5⟩
theorem f9k(h:f9Y t):f9T t:=fun X he=>f3Y t X he (fun hc=>by
 exfalso;obtain⟨k,hk,h⟩:=h;rw[c6m h a7l,c6m h a7M] at hc;simp only[e7g,List.mem_cons,List.not_mem_nil,or_false] at hk
 rcases hk with rfl|rfl|rfl|rfl|rfl|rfl|rfl <;> revert hc <;> decide +kernel)
theorem f6S{rw_:Raw}(h:DSt w d s rw_ col){line:Value}{l:Desk.a7U}(hv:LV line l)(hl:Desk.a1O l)(hf:g1X l=true):
  Calls Tryz.prog 64 #[.pointer (some ⟨d,0,none⟩),line] w fun e w'=>∃ v,e=.returned v/\a0l w d col (Desk.a0g s l) v w':=by
 cases hv with
 |a0k name hn u=>exact b3V h name hn u
 |book name hn u fr til=>exact b5G h name hn u fr til hl
 |cancel id=>exact b2n h id hl
 |list name hn wi fr til a b ha hb=>exact b5D h name hn wi fr til a b ha hb
 |peak name hn fr til=>exact b5C h name hn fr til hl
 |find name hn u long fr til=>exact b5F h name hn u long fr til hl
 |clock=>exact b3W h
 |_=>cases hf
theorem g3G{p:Nat}{r:Raw}(h:BD w p d s r col)(hR:f9T t){o:(Int × Int) ⊕ Desk.a7U}(ht:c4m t o)(hf:g4t o):
  Calls Tryz.prog 21 #[.pointer (some ⟨p,0,none⟩),.string t] w fun e w'=>∃ v,e=.returned v/\b5M w p d col (d4I s o) v w':=by
 cases o with
 |inl q =>
  obtain⟨er,at_⟩:=q;exact f9O h t er at_ hR ht.1 ht.2.2
 |inr l =>
  obtain⟨line,h1,h2,h3⟩:=ht;exact f6L h t line l hR h1 (Desk.f2g h.ds.inv h3 hf) (Desk.g8T h.ds.inv h3 hf) (by rw[Desk.e4L s hf];simp) (fun _ _ _ hds=>f6S hds h2 h3 hf)
theorem f2S{X:World}(hc:∀ (j:Nat)(hj:j<(Txt.a1v t).length),X.cell? ⟨g,j,none⟩=some (.string (Txt.a1v t)[j]))(hj:j<(Txt.a1v t).length):X.cell? ⟨g,j,none⟩=some (.string ((Txt.a1v t).getD j ByteArray.empty)):=by
 rw[hc j hj];simp[List.getD,hj]
theorem Full.head{k:ByteArray}{R:List ByteArray}(h:Full t (k :: R))(hk:d1Z k=true):(Txt.a1v t).getD 0 ByteArray.empty=k :=
 g3s (by rw[f5u,<- g4I k hk];exact e9K (Q:=[]) h.all)
theorem g2e(s:St)(l:Desk.a7U):(a0g s l).2.at_=0:=by
 cases l <;> simp only[a0g] <;> (repeat' split) <;> rfl
theorem f5H(h:Inv s):(s.es.length:Int)<=s.given:=by
 have hi:(s.es.map fun e:Ent=>e.id).Pairwise (· < ·):=h.ids
 have:=b0x _ 1 s.given hi (fun x hx=>by
  obtain⟨e,he,rfl⟩:=List.mem_map.1 hx;have h1:=h.idb e he
  omega)
 have:=h.g0;rw[List.length_map] at *;omega
theorem f9p{xs:List (Ent × Nat × Nat)}(h:DD w d s xs F)(hi:Inv s)(hs:t.size<=160){q:List ByteArray}{l:Desk.a7U}(hF:Full t q)(hq:e2P (Txt.a1v t) q l)(hl:Desk.a1O l)(hf:g1X l=true)(X:World)(g c:Nat)(k:Below w.heap.size w X)(hc:∀ (j:Nat)(hj:j<(Txt.a1v t).length),X.cell? ⟨g,j,none⟩=some (.string (Txt.a1v t)[j])):
  Calls Tryz.prog 117 #[.pointer (some ⟨d,0,none⟩),.slice (some ⟨g,0,none⟩) (Txt.a1v t).length c] X (d1S X d F xs (a0g s l)):=by
 have hlen:=hF.len;have hX:=h.later k
 have z:∀ j,((Txt.a1v t).getD j ByteArray.empty).size<=160:=fun j=>by
  by_cases hj:j<(Txt.a1v t).length
  ·simp only[List.getD,hj,List.getElem?_eq_getElem,Option.getD_some];exact Nat.le_trans (b4i t _ (zg hj)) hs
  ·simp[List.getD,hj]
 have at_:∀ Y,Below X.heap.size X Y->∀ j,j<(Txt.a1v t).length->Y.cell? ⟨g,j,none⟩=some (.string ((Txt.a1v t).getD j ByteArray.empty)):=fun Y kY j hj=>a0a kY (f2S hc hj)
 have a0:=fun (hj:0<(Txt.a1v t).length)=>f2S hc hj
 have un:=fun name=>(Desk.a4g hi.tu name).1
 cases hq with
 |a0k =>
  have hd:=hF.head (by decide +kernel);simp only[List.length_cons,List.length_nil] at hlen;refine d0J hX (f:=172) (by omega) (a0 (by omega)) (by rw[hd];simp[e2E,a3F]) (fun Y kY=>?_);exact f0K (hX.later kY) (by omega) (z 2) (un _) (at_ Y kY 1 (by omega)) (at_ Y kY 2 (by omega))
 |book =>
  have hd:=hF.head (by decide +kernel);simp only[List.length_cons,List.length_nil] at hlen;obtain⟨_,u1,u2,f1,f2,t1,t2⟩:=hl;refine d0J hX (f:=173) (by omega) (a0 (by omega)) (by rw[hd];simp[e2E,a9P]) (fun Y kY=>?_);have hk:g3N Y g (Txt.a1v t).length ((Txt.a1v t).getD 0 ByteArray.empty) 1 0:=⟨by rw[hd];decide +kernel,by rw[hd];decide +kernel,.inl ⟨rfl,rfl⟩,by omega⟩;exact f2m (hX.later kY) ⟨hi.g0,hi.g1⟩ (f5H hi) ⟨hi.n0,hi.n1⟩ hk (by omega) (z 2) (z 3) (z 4) ⟨u1,u2⟩ ⟨t1,t2⟩ (at_ Y kY 0 (by omega)) (at_ Y kY 1 (by omega)) (at_ Y kY 2 (by omega)) (at_ Y kY 3 (by omega)) (at_ Y kY 4 (by omega))
 |cancel =>
  have hd:=hF.head (by decide +kernel);simp only[List.length_cons,List.length_nil] at hlen;refine d0J hX (f:=175) (by omega) (a0 (by omega)) (by rw[hd];simp[e2E,a6m]) (fun Y kY=>?_);exact f8E (hX.later kY) hi.ids true (by rw[hd];decide +kernel) (z 1) (by omega) (at_ Y kY 0 (by omega)) (at_ Y kY 1 (by omega))
 |list0 =>
  have hd:=hF.head (by decide +kernel);simp only[List.length_cons,List.length_nil] at hlen;refine d0J hX (f:=177) (by omega) (a0 (by omega)) (by rw[hd];simp[e2E,a5Q]) (fun Y kY=>?_);exact d9v (hX.later kY) hi.ids (b:=true) (by rw[hd];decide +kernel) (by omega) (.inl ⟨by omega,rfl,rfl,rfl⟩) (at_ Y kY 0 (by omega)) (at_ Y kY 1 (by omega))
 |list1 =>
  have hd:=hF.head (by decide +kernel);simp only[List.length_cons,List.length_nil] at hlen;refine d0J hX (f:=177) (by omega) (a0 (by omega)) (by rw[hd];simp[e2E,a5Q]) (fun Y kY=>?_);exact d9v (hX.later kY) hi.ids (b:=true) (by rw[hd];decide +kernel) (by omega) (.inr ⟨by omega,_,_,z 2,z 3,at_ Y kY 2 (by omega),at_ Y kY 3 (by omega),rfl,rfl⟩) (at_ Y kY 0 (by omega)) (at_ Y kY 1 (by omega))
 |peak =>
  have hd:=hF.head (by decide +kernel);simp only[List.length_cons,List.length_nil] at hlen;refine d0J hX (f:=177) (by omega) (a0 (by omega)) (by rw[hd];simp[e2E,a9a]) (fun Y kY=>?_);exact d9v (hX.later kY) hi.ids (b:=false) (by rw[hd];decide +kernel) (by omega) (.inr ⟨by omega,_,_,z 2,z 3,at_ Y kY 2 (by omega),at_ Y kY 3 (by omega),rfl,rfl⟩) (at_ Y kY 0 (by omega)) (at_ Y kY 1 (by omega))
 |find =>
  have hd:=hF.head (by decide +kernel);simp only[List.length_cons,List.length_nil] at hlen;obtain⟨u1,u2,m1,m2,f1,f2,t1,t2⟩:=hl;refine d0J hX (f:=178) (by omega) (a0 (by omega)) (by rw[hd];simp[e2E,b5h]) (fun Y kY=>?_);exact f2f (hX.later kY) (by omega) (z 2) (z 3) (z 4) (z 5) ⟨by omega,u2⟩ ⟨by omega,m2⟩ ⟨f1,f2⟩ (at_ Y kY 1 (by omega)) (at_ Y kY 2 (by omega)) (at_ Y kY 3 (by omega)) (at_ Y kY 4 (by omega)) (at_ Y kY 5 (by omega))
 |clock =>
  have hd:=hF.head (by decide +kernel);simp only[List.length_cons,List.length_nil] at hlen;exact e7i hX (by omega) (by rw[a0 (by omega),hd];rfl)
 |_=>cases hf
theorem f8p{xs:List (Ent × Nat × Nat)}(h:DD w d s xs F)(hi:Inv s){o:(Int × Int) ⊕ Desk.a7U}(ht:g3O t o)(hf:g4t o):
  Calls Tryz.prog 75 #[.pointer (some ⟨d,0,none⟩),.string t] w (DDo w d F xs (d4I s o)):=by
 cases o with
 |inl q =>
  obtain⟨er,at_⟩:=q;rcases ht with ⟨h1,rfl,rfl⟩|⟨h1,m,hm,rfl,rfl⟩
  ·exact e3Y h t (by decide) (fun X=>(d6V t X h1).mono (by rintro e w1 ⟨rfl,rfl⟩;exact⟨rfl,Below.refl _ _⟩))
  ·exact e3Y h t (by decide) (fun X=>(d4Z t X h1).mono (by
    rintro e w1 ⟨hr,hb⟩;rcases hr with ⟨p,a,b,c,d,g,h,hsc,_⟩|⟨m',hsc,rfl⟩
    ·rw[hm] at hsc;cases hsc
    ·rw[hm] at hsc;simp only[Prod.mk.injEq,true_and] at hsc;subst hsc
     exact⟨rfl,hb⟩))
 |inr l =>
  obtain⟨h1,q,h2,h3,h4⟩:=ht;have hne:0<(Txt.a1v t).length:=by rw[h2.len];cases h3 <;> simp
  exact f1l h t h1 h2.sc hne (q:=a0g s l) (g2e s l) (by rw[Desk.e4L s hf];simp) (fun X g c k hc=>f9p h hi h1 h2 h3 h4 hf X g c k hc)
open Desk (Ent)
theorem NV.at_(h:NV w u (List.replicate n m))(hk:k<n):∃ g cap,u=.slice (some ⟨g,0,none⟩) n cap/\w.cell? ⟨g,k,none⟩=some (.int .i64 m):=by
 obtain⟨g,cap,e,a⟩:=h.cell k (by simpa using hk);rw[List.getElem_replicate] at a;rw[List.length_replicate] at e;exact⟨g,cap,e,a⟩
theorem SV.at_(h:SV w u (List.replicate n (m,m)))(hk:k<n):∃ g cap,u=.slice (some ⟨g,0,none⟩) n cap/\w.cell? ⟨g,k*2,none⟩=some (.int .i64 m)/\w.cell? ⟨g,k*2+1,none⟩=some (.int .i64 m):=by
 obtain⟨g,cap,e,a,b⟩:=h.cell k (by simpa using hk);rw[List.getElem_replicate] at a b;rw[List.length_replicate] at e;exact⟨g,cap,e,a,b⟩
def mkE(m:Int):Ent:={ id:=m,kind:=0,a0k:=⟨#[]⟩,a0c:=m,a0e:=[],a0Z:=0 }
theorem EV.at_(h:EV w u (List.replicate n (mkE m,.slice none 0 0)))(hk:k<n):∃ g cap,u=.slice (some ⟨g,0,none⟩) n cap/\w.cell? ⟨g,k*6,none⟩=some (.int .i64 m)/\w.cell? ⟨g,k*6+1,none⟩=some (.int .i64 0)/\w.cell? ⟨g,k*6+2,none⟩=some (.string ⟨#[]⟩)/\w.cell? ⟨g,k*6+3,none⟩=some (.int .i64 m)/\w.cell? ⟨g,k*6+4,none⟩=some (.slice none 0 0)/\w.cell? ⟨g,k*6+5,none⟩=some (.int .i64 0):=by
 obtain⟨g,cap,e,a⟩:=h.cell k (by simpa using hk);rw[List.getElem_replicate] at a;rw[List.length_replicate] at e;exact⟨g,cap,e,a⟩
theorem d2d(n:Nat)(m:Int)(u:Value)(w:World)(hu:NV w u (List.replicate n m))(hl:n<=1000000):
  Calls Tryz.prog 56 #[u,.int .i64 m] w fun e w'=>e=.returned (.bool true)/\Below w.heap.size w w':=by
 obtain⟨a,ca,rfl⟩:=hu.form;have HU:=a0b hu;clear hu;rw[List.length_replicate];rw[List.length_replicate] at HU
 go_enter Tryz.func56,Tryz.ntmps56
 go_wp2_with fail
 go_loopw [5] (fun v wr=>∃ k:Nat,k<=n/\v=.int .i64 k/\Below w.heap.size w wr) (fun v _=>n-(intOf v).toNat)
 case atStart=>exact⟨0,Nat.zero_le _,rfl,Below.refl _ _⟩
 case round =>
  obtain⟨k,hk,rfl,hbl⟩:=hrel;have HB:=a0b hbl;clear hbl
  by_cases hlt:k<n
  ·have hlt':(k:Int)<(n:Int):=by omega
   obtain⟨g,cap,e,a0⟩:=(HU.out.later HB.out).at_ hlt;simp only[Value.slice.injEq,true_and] at e;obtain⟨rfl,rfl⟩:=e;have hne:(m != m)=false:=by simp
   go_wp2_with fail
   go_roundw
   case rel=>exact⟨k+1,by omega,by go_num,HB.out⟩
   case measure=>simp[intOf];omega
  ·have hlt':¬ (k:Int)<(n:Int):=by omega
   go_wp2_with fail
   go_ret;exact⟨rfl,HB.out⟩
theorem d1s(n:Nat)(m:Int)(u:Value)(w:World)(hu:SV w u (List.replicate n (m,m)))(hl:n<=1000000):
  Calls Tryz.prog 57 #[u,.int .i64 m] w fun e w'=>e=.returned (.bool true)/\Below w.heap.size w w':=by
 obtain⟨a,ca,rfl⟩:=hu.form;have HU:=a0b hu;clear hu;rw[List.length_replicate];rw[List.length_replicate] at HU
 go_enter Tryz.func57,Tryz.ntmps57
 go_wp2_with fail
 go_loopw [5] (fun v wr=>∃ k:Nat,k<=n/\v=.int .i64 k/\Below w.heap.size w wr) (fun v _=>n-(intOf v).toNat)
 case atStart=>exact⟨0,Nat.zero_le _,rfl,Below.refl _ _⟩
 case round =>
  obtain⟨k,hk,rfl,hbl⟩:=hrel;have HB:=a0b hbl;clear hbl
  by_cases hlt:k<n
  ·have hlt':(k:Int)<(n:Int):=by omega
   obtain⟨g,cap,e,a0,a1⟩:=(HU.out.later HB.out).at_ hlt;simp only[Value.slice.injEq,true_and] at e;obtain⟨rfl,rfl⟩:=e;have hne:(m != m)=false:=by simp
   go_wp2_with fail
   go_roundw
   case rel=>exact⟨k+1,by omega,by go_num,HB.out⟩
   case measure=>simp[intOf];omega
  ·have hlt':¬ (k:Int)<(n:Int):=by omega
   go_wp2_with fail
   go_ret;exact⟨rfl,HB.out⟩
theorem d0B(n:Nat)(m:Int)(u:Value)(w:World)(hu:EV w u (List.replicate n (mkE m,.slice none 0 0)))(hl:n<=1000000):
  Calls Tryz.prog 58 #[u,.int .i64 m] w fun e w'=>e=.returned (.bool true)/\Below w.heap.size w w':=by
 obtain⟨a,ca,rfl⟩:=hu.form;have HU:=a0b hu;clear hu;rw[List.length_replicate];rw[List.length_replicate] at HU
 go_enter Tryz.func58,Tryz.ntmps58
 go_wp2_with fail
 go_loopw [5] (fun v wr=>∃ k:Nat,k<=n/\v=.int .i64 k/\Below w.heap.size w wr) (fun v _=>n-(intOf v).toNat)
 case atStart=>exact⟨0,Nat.zero_le _,rfl,Below.refl _ _⟩
 case round =>
  obtain⟨k,hk,rfl,hbl⟩:=hrel;have HB:=a0b hbl;clear hbl
  by_cases hlt:k<n
  ·have hlt':(k:Int)<(n:Int):=by omega
   obtain⟨g,cap,e,a0,a1,a2,a3,a4,a5⟩:=(HU.out.later HB.out).at_ hlt;simp only[Value.slice.injEq,true_and] at e;obtain⟨rfl,rfl⟩:=e;have hne:(m != m)=false:=by simp
   go_wp2_with fail
   go_roundw
   case rel=>exact⟨k+1,by omega,by go_num,HB.out⟩
   case measure=>simp[intOf];omega
  ·have hlt':¬ (k:Int)<(n:Int):=by omega
   go_wp2_with fail
   go_ret;exact⟨rfl,HB.out⟩
theorem d7s{P:Program}(w:World)(t ty:TypeId)(base:Nat)(e:TypeId)(i:TypeInfo)(z:Value)(size bytes:Nat)(ht:P.underlying t=some (.slice e))(hi:P.info? e=some i)(hz:i.zero=some z)
  (hsize:i.size=size) (hby:i.bytes=bytes) (hzs:z.cells.size=size) (hsz:0<size)
  (v:Value) (n:Nat) (xs:List Value) (hown:w.ownsRow base e size v n xs)
  (ad:Addr) (m c:Nat) (news:List Value) (hl:news.length=m*size) (hnews:∀ j u,news[j]?=some u->w.cell? (ad.add j)=some u) (h1:∀ u∈news,u.oneCell'=true)
  (hm:0<m) (h63:n+m<=maxLen) (hbytes:(n+m)*bytes<=140737488355328) (hbase:base<=w.heap.size):
  ∃ g cap w',(Builtin.append_ #[t,t] ty #[v,.slice (some ad) m c]).run P w=.ok (.slice (some ⟨g,0,none⟩) (n+m) cap) w' /\
   w'.ownsRow base e size (.slice (some ⟨g,0,none⟩) (n+m) cap) (n+m) (xs++news)/\w.grownBy w' v.ownBlock/\(v.ownBlock=some g\/(g=w.heap.size/\w.grownBy w' none))/\g<w'.heap.size/\w'.ownsRow base e size v n xs:=by
 obtain⟨g,cap,w',hr,h2,h3,_,hlt⟩:=run_append_lies (P:=P) w t ty base e i z size bytes ht hi hz hsize hby hzs hsz v n xs hown ad m c news hl hnews h1 hm h63 hbytes hbase _ rfl;refine⟨g,cap,w',hr,h2,h3,?_⟩;subst hsize;subst hby;have hsmall:n+m<=9223372036854775807:=by simp only[maxLen] at h63;omega
 rcases hown.2 with ⟨rfl,rfl⟩|⟨g0,cap0,cur,rfl,hbg,hg,hnc,hcm,hcs,htake⟩
 ·have hr2:=run_append_nil (P:=P) w t ty e i z ht hi hz ad m c news hl hnews (by omega) (by omega) (by have hb:=hbytes;simp only[Nat.zero_add] at hb;omega);rw[hr2] at hr
  injection hr with e1 e2
  subst e2
  injection e1 with e3 e4 e5
  injection e3 with e6
  injection e6 with e7
  exact⟨.inr ⟨e7.symm,⟨rfl,rfl,rfl,by simp,fun k hk _=>((zr w.drew.heap.size w.drew).alloc (zq _) _).block k hk⟩⟩,hlt,⟨hown.1,.inl ⟨rfl,rfl⟩⟩⟩
 ·by_cases hroom:n+m<=cap0
  ·have hfit:n*i.size+news.length<=cur.size:=by rw[hl,hcs,<- Nat.add_mul];exact Nat.mul_le_mul_right _ hroom
   have hr2:=run_append_room (P:=P) w t ty e i ht hi g0 n cap0 cur hg ad m c news hl hnews h1 hroom hfit;rw[hr2] at hr
   injection hr with e1 e2
   injection e1 with e3 e4 e5
   injection e3 with e6
   injection e6 with e7
   subst e7 e5;refine⟨.inl rfl,hlt,⟨hown.1,?_⟩⟩;rcases h2.2 with ⟨h0,_⟩|⟨g1,cap1,cur1,hv1,hb1,hg1,hn1,hc1,hs1,ht1⟩
   ·cases h0
   ·simp only[Value.slice.injEq,Option.some.injEq,Addr.mk.injEq,and_true,true_and] at hv1;obtain⟨rfl,rfl⟩:=hv1;refine .inr ⟨g0,cap0,cur1,rfl,hbg,hg1,hnc,hcm,hs1,?_⟩;have:=congrArg (List.take (n*i.size)) ht1;rw[List.take_take,Nat.min_eq_left (Nat.mul_le_mul_right _ (by omega)),<- hown.1,List.take_left] at this;rw[<- hown.1];exact this
  ·have holds:∀ j u,xs[j]?=some u->w.cell? ((⟨g0,0,none⟩:Addr).add j)=some u:=hown.cells (g:=g0) rfl;have hr2:=run_append_grow (P:=P) w t ty e i z ht hi hz ⟨g0,0,none⟩ n cap0 xs hown.1 holds ad m c news hl hnews (by omega) (by omega) (growslice_fits (by omega) hbytes);rw[hr2] at hr
   injection hr with e1 e2
   subst e2
   injection e1 with e3 e4 e5
   injection e3 with e6
   injection e6 with e7
   refine⟨.inr ⟨e7.symm,⟨rfl,rfl,rfl,by simp,fun k hk _=>((zr w.drew.heap.size w.drew).alloc (zq _) _).block k hk⟩⟩,hlt,⟨hown.1,.inr ⟨g0,cap0,cur,rfl,hbg,?_,hnc,hcm,hcs,htake⟩⟩⟩;exact (((zr w.drew.heap.size w.drew).alloc (zq _) _).block g0 (Array.getElem?_eq_some_iff.1 hg).1).trans hg
theorem f6U(g j:Nat):(⟨g,0,none⟩:Addr).add j=⟨g,j,none⟩:=by unfold Addr.add;split <;> simp_all
def rp(pat:List Value)(j:Nat):List Value:=(List.replicate j pat).flatten
theorem e6x(pat:List Value):rp pat 0=[]:=rfl
theorem d4O(pat:List Value)(j:Nat):(rp pat j).length=j*pat.length:=by simp[rp]
theorem e3Q(pat:List Value)(j k:Nat):rp pat (j+k)=rp pat j++rp pat k:=by
 unfold rp;rw[<- List.replicate_append_replicate,List.flatten_append]
theorem g0r(pat:List Value):rp pat 1=pat:=by simp[rp]
theorem e6y(pat:List Value)(j:Nat):rp pat (j+1)=rp pat j++pat:=by rw[e3Q,g0r]
theorem f8n(pat:List Value){o:Nat}(hk:k<j)(ho:o<pat.length):(rp pat j)[k*pat.length+o]?=pat[o]?:=by
 have e:j=k+(1+(j-k-1)):=by omega
 rw[e,e3Q,e3Q,g0r,List.getElem?_append_right (by rw[d4O];omega),d4O,Nat.add_sub_cancel_left,List.getElem?_append_left ho]
theorem g2Y{i:Nat}(h:(rp pat j)[i]?=some v)(hj:j<=n):(rp pat n)[i]?=some v:=by
 have e:n=j+(n-j):=by omega
 rw[e,e3Q,List.getElem?_append_left (List.getElem?_eq_some_iff.1 h).1];exact h
structure Fu(pat:List Value)(w:World)(u:Value)(j:Nat):Prop where
 form:∃ a cap,u=.slice a j cap
 cell:∀ i v,(rp pat j)[i]?=some v->∃ g cap,u=.slice (some ⟨g,0,none⟩) j cap/\w.cell? ⟨g,i,none⟩=some v
variable {w w':World}{pat:List Value}{u:Value}{j:Nat}
theorem Fu.of_own{e:Nat}(h:w.ownsRow B e pat.length u j (rp pat j)):Fu pat w u j:=by
 rcases h.2 with ⟨rfl,rfl⟩|⟨g,cap,cur,rfl,_⟩
 ·exact⟨⟨_,_,rfl⟩,fun i v hv=>by simp[rp] at hv⟩
 ·exact⟨⟨_,_,rfl⟩,fun i v hv=>⟨g,cap,rfl,(f6U g i) ▸ h.cells (g:=g) rfl i v hv⟩⟩
theorem Fu.a9i(h:Fu pat w u j)(k:∀ b,u.ownBlock=some b->b<w.heap.size->w'.heap[b]?=w.heap[b]?):Fu pat w' u j :=
 ⟨h.form,fun i v hv=>by
  obtain⟨g,cap,rfl,c⟩:=h.cell i v hv
  exact⟨g,cap,rfl,(zo (k g (by simp[Value.ownBlock]) (World.block_lt_of_cell? _ _ c))).trans c⟩⟩
theorem Fu.off(h:Fu pat w u j)(k:Off G w w')(hG:∀ b,u.ownBlock=some b->b ∉ G):Fu pat w' u j:=h.a9i fun b hb hl=>k.block b hl (hG b hb)
theorem Fu.later(h:Fu pat w u j)(k:Below w.heap.size w w'):Fu pat w' u j:=h.a9i fun b _ hl=>k.block b hl
abbrev e5O(m:Int):List Value:=[.int .i64 m]
abbrev e4i(m:Int):List Value:=[.int .i64 m,.int .i64 m]
abbrev e0j(m:Int):List Value:=[.int .i64 m,.int .i64 0,.string ⟨#[]⟩,.int .i64 m,.slice none 0 0,.int .i64 0]
theorem Fu.nv(h:Fu (e5O m) w u j):NV w u (List.replicate j m):=by
 refine⟨by simpa using h.form,fun k hk=>?_⟩;rw[List.length_replicate] at hk;obtain⟨g,cap,rfl,c⟩:=h.cell _ _ (f8n (e5O m) hk (o:=0) (by simp));exact⟨g,cap,by simp,by simpa using c⟩
theorem Fu.sv(h:Fu (e4i m) w u j):SV w u (List.replicate j (m,m)):=by
 refine⟨by simpa using h.form,fun k hk=>?_⟩;rw[List.length_replicate] at hk;obtain⟨g,cap,rfl,c⟩:=h.cell _ _ (f8n (e4i m) hk (o:=0) (by simp));obtain⟨g',cap',e,c'⟩:=h.cell _ _ (f8n (e4i m) hk (o:=1) (by simp));simp only[Value.slice.injEq,Option.some.injEq,Addr.mk.injEq,and_true,true_and] at e;obtain⟨rfl,rfl⟩:=e;exact⟨g,cap,by simp,by simpa using c,by simpa using c'⟩
theorem Fu.ev(h:Fu (e0j m) w u j):EV w u (List.replicate j (mkE m,.slice none 0 0)):=by
 refine⟨by simpa using h.form,fun k hk=>?_,fun p hp=>?_⟩
 ·rw[List.length_replicate] at hk;have at_:∀ (o:Nat) (v:Value),(e0j m)[o]?=some v->∃ g cap,u=.slice (some ⟨g,0,none⟩) j cap/\w.cell? ⟨g,k*6+o,none⟩=some v:=fun o v hv=>h.cell _ _ ((f8n (e0j m) hk (o:=o) (List.getElem?_eq_some_iff.1 hv).1).trans hv)
  obtain⟨g,cap,rfl,c0⟩:=at_ 0 _ rfl
  have at':∀ (o:Nat) (v:Value),(e0j m)[o]?=some v->w.cell? ⟨g,k*6+o,none⟩=some v:=fun o v hv=>by
   obtain⟨g',cap',e,c'⟩:=at_ o v hv;simp only[Value.slice.injEq,Option.some.injEq,Addr.mk.injEq,and_true,true_and] at e;obtain⟨rfl,rfl⟩:=e;exact c'
  refine⟨g,cap,by simp,?_⟩;rw[List.getElem_replicate];exact⟨c0,at' 1 _ rfl,at' 2 _ rfl,at' 3 _ rfl,at' 4 _ rfl,at' 5 _ rfl⟩
 ·rw[List.eq_of_mem_replicate hp];exact⟨⟨_,_,rfl⟩,fun k hk=>by simp[mkE] at hk⟩
theorem d6c{ops:Array Oper}{rest:List Oper}{o:Oper}{a:Act}{Q:Exit->Act->World->Prop}(hgd:o.guard=none)(x y:Operand)(t:TypeId)(ho:o.op=.call { callee:=.builtin .append,args:=#[x,y],argTypes:=#[t,t] })
  (pat:List Value) {B e:Nat}{i:TypeInfo}{z:Value}(bytes:Nat) (ht:Tryz.prog.underlying t=some (.slice e)) (hi:Tryz.prog.info? e=some i) (hz:i.zero=some z) (hsize:i.size=pat.length) (hby:i.bytes=bytes) (hb72:bytes<=72) (hzs:z.cells.size=pat.length) (hp0:0<pat.length) (hp1:∀ u∈pat,u.oneCell'=true)
  {v:Value}{n:Nat}(hown:W.ownsRow B e pat.length v n (rp pat n)) {m c:Nat}{cs:Array Value}{ty:TypeId}{mk:Nat × Nat}(hcs:cs.toList=rp pat m) (hm:0<m) (hm3:m<=3) (hs:a.eval x=v) (hx:a.eval y=.slice (some ⟨W.heap.size,0,none⟩) m c) (hl:n<=1000000) (hB:B<=W.heap.size)
  (h:∀ g cap w',w'.ownsRow B e pat.length (.slice (some ⟨g,0,none⟩) (n+m) cap) (n+m) (rp pat (n+m))->w'.ownsRow B e pat.length v n (rp pat n)->(∀ u j,j<=n+m->Fu pat W u j->Fu pat w' u j)->Off v.ownBlock.toList W w'->(v.ownBlock=some g\/W.heap.size<=g)->wpList Tryz.prog ops Q rest (a.put o.dst (.slice (some ⟨g,0,none⟩) (n+m) cap)) w'):
  wpList Tryz.prog ops Q (o :: rest) a (W.alloc (.cells cs ty mk)):=by
 refine wpList_plain hgd fun K hK=>?_
 have hnews:=World.news_of_block (cs:=cs) (a0p W (.cells cs ty mk));rw[hcs] at hnews
 obtain⟨g,cap,w',hr,h2,h3,h4,_,h6⟩:=d7s (P:=Tryz.prog) (W.alloc (.cells cs ty mk)) t o.type B e i z pat.length bytes ht hi hz hsize hby hzs hp0 v n (rp pat n) (hown.alloc _) ⟨W.heap.size,0,none⟩ m c (rp pat m) (d4O ..) hnews (fun q hq=>by
  unfold rp at hq;obtain⟨q',h7,h8⟩:=List.mem_flatten.1 hq;rw[List.eq_of_mem_replicate h7] at h8
  exact hp1 q h8) hm (by unfold maxLen;omega) (Nat.le_trans (Nat.mul_le_mul (show n+m<=1000003 by omega) hb72) (by decide)) (by simp;omega)
 rw[<- e3Q] at h2;unfold Oper.wp execOp;simp only[ho,resolve,invoke,builtin,Sem.run_bind,Sem.run_pure,Result.andThen_ok,List.map_toArray,List.map_cons,List.map_nil,hs,hx,hr];refine hK _ _ (h g cap w' h2 h6 (fun u j hj hu=>?_) (((Off.refl _ W).alloc _).grown h3 (fun k hk=>.inl (by simp[hk]))) ?_)
 ·rcases h4 with h4|⟨_,h4⟩
  ·refine⟨hu.form,fun i' v' hv'=>?_⟩;obtain⟨g',cap',rfl,cc⟩:=hu.cell i' v' hv';refine⟨g',cap',rfl,?_⟩
   by_cases e1:g'=g
   ·subst e1;exact (f6U g' i') ▸ h2.cells (g:=g') rfl i' v' (g2Y hv' hj)
   ·have hlt:g'<W.heap.size:=World.block_lt_of_cell? _ _ cc;refine (zo (w:=W) ?_).trans cc;exact (h3.block g' (by rw[World.size_alloc];omega) (by rw[h4];simpa using e1)).trans (((zr W.heap.size W).alloc (zq _) _).block g' hlt)
  ·exact hu.a9i fun b _ hl=>(h4.block b (by rw[World.size_alloc];omega) (by simp)).trans (((zr W.heap.size W).alloc (zq _) _).block b hl)
 ·rcases h4 with h4|⟨h4,_⟩
  ·exact .inl h4
  ·exact .inr (by rw[h4];simp)
abbrev KL:=Value × Value × Value × Value × Int
def klV(x:KL):List Value:=[x.1,x.2.1,x.2.2.1,x.2.2.2.1,.int .i64 x.2.2.2.2]
def klB(x:KL):List Nat:=x.1.ownBlock.toList++(x.2.1.ownBlock.toList++(x.2.2.1.ownBlock.toList++x.2.2.2.1.ownBlock.toList))
def K4(P:Int->List Value)(w:World)(x:KL):Prop :=
 ∃ j,j<=900000/\Fu (P x.2.2.2.2) w x.1 j/\Fu (P x.2.2.2.2) w x.2.1 (j+1)/\Fu (P x.2.2.2.2) w x.2.2.1 (j+2)/\Fu (P x.2.2.2.2) w x.2.2.2.1 (j+3)
theorem K4.off{x:KL}(h:K4 P w x)(k:Off G w w')(hG:∀ b∈klB x,b ∉ G):K4 P w' x:=by
 obtain⟨j,hj,h1,h2,h3,h4⟩:=h;exact⟨j,hj,h1.off k fun b hb=>hG b (by simp[klB,hb]),h2.off k fun b hb=>hG b (by simp[klB,hb]),h3.off k fun b hb=>hG b (by simp[klB,hb]),h4.off k fun b hb=>hG b (by simp[klB,hb])⟩
structure e7E(P:Int->List Value)(t:TypeId)(K:List Nat)(w:World)(r:Value)(X:List KL):Prop where
 own:w.ownsRow 0 t 5 r X.length (X.flatMap klV)
 four:∀ x∈X,K4 P w x
 bl:∀ x∈X,∀ b∈klB x,b∈K
theorem e7E.off{t:TypeId}{X:List KL}(h:e7E P t K w r X)(k:Off G w w')(hr:∀ b,r.ownBlock=some b->b ∉ G)(hK:∀ b∈K,b ∉ G):e7E P t K w' r X :=
 ⟨a1i h.own k hr,fun x hx=>(h.four x hx).off k fun b hb=>hK b (h.bl x hx b hb),h.bl⟩
theorem e7E.wide{t:TypeId}{K':List Nat}{X:List KL}(h:e7E P t K w r X)(hK:∀ b∈K,b∈K'):e7E P t K' w r X :=
 ⟨h.own,h.four,fun x hx b hb=>hK b (h.bl x hx b hb)⟩
theorem e7E.snoc{t:TypeId}{X:List KL}{x:KL}(h:e7E P t K w r X)(hx:K4 P w x)(k:Off r.ownBlock.toList w w')(hK:∀ b∈K,r.ownBlock≠some b)(hxr:∀ b∈klB x,r.ownBlock≠some b)
  (ho:w'.ownsRow 0 t 5 r' (X.length+1) (X.flatMap klV++klV x)):e7E P t (klB x++K) w' r' (X++[x]):=by
 refine⟨by simpa using ho,fun y hy=>?_,fun y hy b hb=>?_⟩
 ·rcases List.mem_append.1 hy with hy|hy
  ·exact (h.four y hy).off k fun b hb e=>hK b (h.bl y hy b hb) (by simpa using e)
  ·rw[List.mem_singleton.1 hy];exact hx.off k fun b hb e=>hxr b hb (by simpa using e)
 ·rcases List.mem_append.1 hy with hy|hy
  ·exact List.mem_append_right _ (h.bl y hy b hb)
  ·rw[List.mem_singleton.1 hy] at hb;exact List.mem_append_left _ hb
abbrev tI:TypeId:=111
abbrev tS:TypeId:=114
abbrev tE:TypeId:=117
structure BR(w:World)(K:List Nat)(r1 r2 r3:Value)(X1 X2 X3:List KL):Prop where
 b1:e7E e5O tI K w r1 X1
 b2:e7E e4i tS K w r2 X2
 b3:e7E e0j tE K w r3 X3
 kb:∀ b∈K,b<w.heap.size/\r1.ownBlock≠some b/\r2.ownBlock≠some b/\r3.ownBlock≠some b
structure BK(w:World)(B:Nat)(v0 v1:Value)(K:List Nat)(r1 r2 r3:Value)(X1 X2 X3:List KL):Prop where
 hb:w.heap[B]?=some (.cells #[v0,v1,r1,r2,r3] 86)
 br:BR w K r1 r2 r3 X1 X2 X3
 bK:B ∉ K
variable {w w':World}{B:Nat}{v0 v1 r1 r2 r3 r':Value}{K G:List Nat}{X1 X2 X3:List KL}{x:KL}
theorem e1D{e1 e2 s1 s2 n1 n2 b1 b2:Nat}{u1 u2:Value}{l1 l2:List Value}(h1:w.ownsRow b1 e1 s1 u1 n1 l1)(h2:w.ownsRow b2 e2 s2 u2 n2 l2)(hne:e2≠e1){b:Nat}(hb:u1.ownBlock=some b):u2.ownBlock≠some b:=by
 intro hc;rcases h2.2 with ⟨rfl,_⟩|⟨g,cap,cur,rfl,_,hh,_⟩
 ·simp[Value.ownBlock] at hc
 ·simp[Value.ownBlock] at hc;subst hc;exact c8L h1 hh hne hb
theorem BR.off(h:BR w K r1 r2 r3 X1 X2 X3)(k:Off G w w')(h1:∀ b,r1.ownBlock=some b->b ∉ G)(h2:∀ b,r2.ownBlock=some b->b ∉ G)(h3:∀ b,r3.ownBlock=some b->b ∉ G)(hK:∀ b∈K,b ∉ G):BR w' K r1 r2 r3 X1 X2 X3 :=
 ⟨h.b1.off k h1 hK,h.b2.off k h2 hK,h.b3.off k h3 hK,fun b hb=>⟨zL (h.kb b hb).1 k.size,(h.kb b hb).2⟩⟩
def bkB(B:Nat)(r1 r2 r3:Value):List Nat:=B :: (r1.ownBlock.toList++(r2.ownBlock.toList++r3.ownBlock.toList))
theorem BK.off(h:BK w B v0 v1 K r1 r2 r3 X1 X2 X3)(k:Off G w w')(hR:∀ b∈bkB B r1 r2 r3,b ∉ G)(hK:∀ b∈K,b ∉ G):BK w' B v0 v1 K r1 r2 r3 X1 X2 X3 :=
 ⟨(k.block B (Array.getElem?_eq_some_iff.1 h.hb).1 (hR B (by simp[bkB]))).trans h.hb,h.br.off k (fun b hb=>hR b (by simp[bkB,hb])) (fun b hb=>hR b (by simp[bkB,hb])) (fun b hb=>hR b (by simp[bkB,hb])) hK,h.bK⟩
theorem BK.later(h:BK w B v0 v1 K r1 r2 r3 X1 X2 X3)(k:Below w.heap.size w w'):BK w' B v0 v1 K r1 r2 r3 X1 X2 X3:=h.off (G:=[]) (Off.of_below k) (by simp) (by simp)
theorem BK.cells(h:BK w B v0 v1 K r1 r2 r3 X1 X2 X3):w.cell? ⟨B,0,none⟩=some v0/\w.cell? ⟨B,1,none⟩=some v1/\w.cell? ⟨B,2,none⟩=some r1/\w.cell? ⟨B,3,none⟩=some r2/\w.cell? ⟨B,4,none⟩=some r3/\∀ o,w.frozen? ⟨B,o,none⟩=false:=by
 have:=h.hb;refine⟨?_,?_,?_,?_,?_,fun o=>?_⟩ <;> simp[World.cell?,World.frozen?,this]
theorem BK.forms(h:BK w B v0 v1 K r1 r2 r3 X1 X2 X3):(∃ a c,r1=.slice a X1.length c)/\(∃ a c,r2=.slice a X2.length c)/\∃ a c,r3=.slice a X3.length c:=⟨c9y h.br.b1.own,c9y h.br.b2.own,c9y h.br.b3.own⟩
def g2M(w:World)(r r':Value):Prop:=∀ b,r'.ownBlock=some b->r.ownBlock=some b\/w.heap.size<=b
theorem BK.add1(h:BK w B v0 v1 K r1 r2 r3 X1 X2 X3)(hx:K4 e5O w x)(hxl:∀ b∈klB x,b<w.heap.size/\b ∉ bkB B r1 r2 r3)(k:Off r1.ownBlock.toList w w')(ho:w'.ownsRow 0 tI 5 r' (X1.length+1) (X1.flatMap klV++klV x))(hat:g2M w r1 r'):
  BK (w'.setCell ⟨B,2,none⟩ r') B v0 v1 (klB x++K) r' r2 r3 (X1++[x]) X2 X3/\Off (bkB B r1 r2 r3) w (w'.setCell ⟨B,2,none⟩ r'):=by
 have hBl:=(Array.getElem?_eq_some_iff.1 h.hb).1;have hB1:r1.ownBlock≠some B:=c8L h.br.b1.own h.hb (by decide);have hB2:r2.ownBlock≠some B:=c8L h.br.b2.own h.hb (by decide);have hB3:r3.ownBlock≠some B:=c8L h.br.b3.own h.hb (by decide);have hb':w'.heap[B]?=some (.cells #[v0,v1,r1,r2,r3] 86):=(k.block B hBl (by simpa using hB1)).trans h.hb;have hB':r'.ownBlock≠some B:=c8L ho hb' (by decide);have n2:∀ b,r2.ownBlock=some b->b ∉ r1.ownBlock.toList:=fun b hb e=>e1D h.br.b2.own h.br.b1.own (by decide) hb (by simpa using e)
 have n3:∀ b,r3.ownBlock=some b->b ∉ r1.ownBlock.toList:=fun b hb e=>e1D h.br.b3.own h.br.b1.own (by decide) hb (by simpa using e)
 have nK:∀ b∈K,b ∉ r1.ownBlock.toList:=fun b hb e=>(h.br.kb b hb).2.1 (by simpa using e)
 have s1:=h.br.b1.snoc hx k (fun b hb=>(h.br.kb b hb).2.1) (fun b hb e=>(hxl b hb).2 (by simp[bkB,e])) ho;have s2:=(h.br.b2.off k n2 nK).wide (K':=klB x++K) (fun b hb=>List.mem_append_right _ hb);have s3:=(h.br.b3.off k n3 nK).wide (K':=klB x++K) (fun b hb=>List.mem_append_right _ hb);have kd:Off [B] w' (w'.setCell ⟨B,2,none⟩ r'):=Off.set0 ..
 have xB:∀ b∈klB x++K,b≠B:=fun b hb e=>by
  rcases List.mem_append.1 hb with hb|hb
  ·exact (hxl b hb).2 (by simp[bkB,e])
  ·exact h.bK (e ▸ hb)
 have br:BR w' (klB x++K) r' r2 r3 (X1++[x]) X2 X3:=by
  refine⟨s1,s2,s3,fun b hb=>?_⟩;rcases List.mem_append.1 hb with hb|hb
  ·refine⟨zL (hxl b hb).1 k.size,fun e=>?_,fun e=>(hxl b hb).2 (by simp[bkB,e]),fun e=>(hxl b hb).2 (by simp[bkB,e])⟩;rcases hat b e with e|e
   ·exact (hxl b hb).2 (by simp[bkB,e])
   ·have:=(hxl b hb).1;omega
  ·obtain⟨q1,q2,q3,q4⟩:=h.br.kb b hb;refine⟨zL q1 k.size,fun e=>?_,q3,q4⟩;rcases hat b e with e|e
   ·exact q2 e
   ·omega
 refine⟨⟨by rw[d1X hb'];rfl,br.off kd (fun b hb e=>hB' (by simp at e;exact e ▸ hb)) (fun b hb e=>hB2 (by simp at e;exact e ▸ hb)) (fun b hb e=>hB3 (by simp at e;exact e ▸ hb)) (fun b hb e=>xB b hb (by simpa using e)),fun e=>xB B e rfl⟩,?_⟩;exact (k.mono fun y hy=>by simp at hy;simp[bkB,hy]).setCell (.inl (by simp[bkB])) _ _
theorem BK.add2(h:BK w B v0 v1 K r1 r2 r3 X1 X2 X3)(hx:K4 e4i w x)(hxl:∀ b∈klB x,b<w.heap.size/\b ∉ bkB B r1 r2 r3)(k:Off r2.ownBlock.toList w w')(ho:w'.ownsRow 0 tS 5 r' (X2.length+1) (X2.flatMap klV++klV x))(hat:g2M w r2 r'):
  BK (w'.setCell ⟨B,3,none⟩ r') B v0 v1 (klB x++K) r1 r' r3 X1 (X2++[x]) X3/\Off (bkB B r1 r2 r3) w (w'.setCell ⟨B,3,none⟩ r'):=by
 have hBl:=(Array.getElem?_eq_some_iff.1 h.hb).1;have hB1:r1.ownBlock≠some B:=c8L h.br.b1.own h.hb (by decide);have hB2:r2.ownBlock≠some B:=c8L h.br.b2.own h.hb (by decide);have hB3:r3.ownBlock≠some B:=c8L h.br.b3.own h.hb (by decide);have hb':w'.heap[B]?=some (.cells #[v0,v1,r1,r2,r3] 86):=(k.block B hBl (by simpa using hB2)).trans h.hb;have hB':r'.ownBlock≠some B:=c8L ho hb' (by decide);have n1:∀ b,r1.ownBlock=some b->b ∉ r2.ownBlock.toList:=fun b hb e=>e1D h.br.b1.own h.br.b2.own (by decide) hb (by simpa using e)
 have n3:∀ b,r3.ownBlock=some b->b ∉ r2.ownBlock.toList:=fun b hb e=>e1D h.br.b3.own h.br.b2.own (by decide) hb (by simpa using e)
 have nK:∀ b∈K,b ∉ r2.ownBlock.toList:=fun b hb e=>(h.br.kb b hb).2.2.1 (by simpa using e)
 have s2:=h.br.b2.snoc hx k (fun b hb=>(h.br.kb b hb).2.2.1) (fun b hb e=>(hxl b hb).2 (by simp[bkB,e])) ho;have s1:=(h.br.b1.off k n1 nK).wide (K':=klB x++K) (fun b hb=>List.mem_append_right _ hb);have s3:=(h.br.b3.off k n3 nK).wide (K':=klB x++K) (fun b hb=>List.mem_append_right _ hb);have kd:Off [B] w' (w'.setCell ⟨B,3,none⟩ r'):=Off.set0 ..
 have xB:∀ b∈klB x++K,b≠B:=fun b hb e=>by
  rcases List.mem_append.1 hb with hb|hb
  ·exact (hxl b hb).2 (by simp[bkB,e])
  ·exact h.bK (e ▸ hb)
 have br:BR w' (klB x++K) r1 r' r3 X1 (X2++[x]) X3:=by
  refine⟨s1,s2,s3,fun b hb=>?_⟩;rcases List.mem_append.1 hb with hb|hb
  ·refine⟨zL (hxl b hb).1 k.size,fun e=>(hxl b hb).2 (by simp[bkB,e]),fun e=>?_,fun e=>(hxl b hb).2 (by simp[bkB,e])⟩;rcases hat b e with e|e
   ·exact (hxl b hb).2 (by simp[bkB,e])
   ·have:=(hxl b hb).1;omega
  ·obtain⟨q1,q2,q3,q4⟩:=h.br.kb b hb;refine⟨zL q1 k.size,q2,fun e=>?_,q4⟩;rcases hat b e with e|e
   ·exact q3 e
   ·omega
 refine⟨⟨by rw[d1X hb'];rfl,br.off kd (fun b hb e=>hB1 (by simp at e;exact e ▸ hb)) (fun b hb e=>hB' (by simp at e;exact e ▸ hb)) (fun b hb e=>hB3 (by simp at e;exact e ▸ hb)) (fun b hb e=>xB b hb (by simpa using e)),fun e=>xB B e rfl⟩,?_⟩;exact (k.mono fun y hy=>by simp at hy;simp[bkB,hy]).setCell (.inl (by simp[bkB])) _ _
theorem BK.add3(h:BK w B v0 v1 K r1 r2 r3 X1 X2 X3)(hx:K4 e0j w x)(hxl:∀ b∈klB x,b<w.heap.size/\b ∉ bkB B r1 r2 r3)(k:Off r3.ownBlock.toList w w')(ho:w'.ownsRow 0 tE 5 r' (X3.length+1) (X3.flatMap klV++klV x))(hat:g2M w r3 r'):
  BK (w'.setCell ⟨B,4,none⟩ r') B v0 v1 (klB x++K) r1 r2 r' X1 X2 (X3++[x])/\Off (bkB B r1 r2 r3) w (w'.setCell ⟨B,4,none⟩ r'):=by
 have hBl:=(Array.getElem?_eq_some_iff.1 h.hb).1;have hB1:r1.ownBlock≠some B:=c8L h.br.b1.own h.hb (by decide);have hB2:r2.ownBlock≠some B:=c8L h.br.b2.own h.hb (by decide);have hB3:r3.ownBlock≠some B:=c8L h.br.b3.own h.hb (by decide);have hb':w'.heap[B]?=some (.cells #[v0,v1,r1,r2,r3] 86):=(k.block B hBl (by simpa using hB3)).trans h.hb;have hB':r'.ownBlock≠some B:=c8L ho hb' (by decide);have n1:∀ b,r1.ownBlock=some b->b ∉ r3.ownBlock.toList:=fun b hb e=>e1D h.br.b1.own h.br.b3.own (by decide) hb (by simpa using e)
 have n2:∀ b,r2.ownBlock=some b->b ∉ r3.ownBlock.toList:=fun b hb e=>e1D h.br.b2.own h.br.b3.own (by decide) hb (by simpa using e)
 have nK:∀ b∈K,b ∉ r3.ownBlock.toList:=fun b hb e=>(h.br.kb b hb).2.2.2 (by simpa using e)
 have s3:=h.br.b3.snoc hx k (fun b hb=>(h.br.kb b hb).2.2.2) (fun b hb e=>(hxl b hb).2 (by simp[bkB,e])) ho;have s1:=(h.br.b1.off k n1 nK).wide (K':=klB x++K) (fun b hb=>List.mem_append_right _ hb);have s2:=(h.br.b2.off k n2 nK).wide (K':=klB x++K) (fun b hb=>List.mem_append_right _ hb);have kd:Off [B] w' (w'.setCell ⟨B,4,none⟩ r'):=Off.set0 ..
 have xB:∀ b∈klB x++K,b≠B:=fun b hb e=>by
  rcases List.mem_append.1 hb with hb|hb
  ·exact (hxl b hb).2 (by simp[bkB,e])
  ·exact h.bK (e ▸ hb)
 have br:BR w' (klB x++K) r1 r2 r' X1 X2 (X3++[x]):=by
  refine⟨s1,s2,s3,fun b hb=>?_⟩;rcases List.mem_append.1 hb with hb|hb
  ·refine⟨zL (hxl b hb).1 k.size,fun e=>(hxl b hb).2 (by simp[bkB,e]),fun e=>(hxl b hb).2 (by simp[bkB,e]),fun e=>?_⟩;rcases hat b e with e|e
   ·exact (hxl b hb).2 (by simp[bkB,e])
   ·have:=(hxl b hb).1;omega
  ·obtain⟨q1,q2,q3,q4⟩:=h.br.kb b hb;refine⟨zL q1 k.size,q2,q3,fun e=>?_⟩;rcases hat b e with e|e
   ·exact q4 e
   ·omega
 refine⟨⟨by rw[d1X hb'];rfl,br.off kd (fun b hb e=>hB1 (by simp at e;exact e ▸ hb)) (fun b hb e=>hB2 (by simp at e;exact e ▸ hb)) (fun b hb e=>hB' (by simp at e;exact e ▸ hb)) (fun b hb e=>xB b hb (by simpa using e)),fun e=>xB B e rfl⟩,?_⟩;exact (k.mono fun y hy=>by simp at hy;simp[bkB,hy]).setCell (.inl (by simp[bkB])) _ _
theorem d5e(l:List Int)(u v:Value)(w:World)(hu:NV w u l)(hv:NV w v l)(hl:l.length<=1000000):
  Calls Tryz.prog 120 #[u,v] w fun e w'=>e=.returned (.bool true)/\Below w.heap.size w w':=by
 obtain⟨a,ca,rfl⟩:=hu.form;obtain⟨b,cb,rfl⟩:=hv.form;have HU:=a0b hu;have HV:=a0b hv;clear hu hv;have hb:((l.length:Int) != (l.length:Int))=false:=by simp
 go_enter Tryz.func120,Tryz.ntmps120
 go_wp2_with fail
 go_loopw [5] (fun v wr=>∃ k:Nat,k<=l.length/\v=.int .i64 k/\Below w.heap.size w wr) (fun v _=>l.length-(intOf v).toNat)
 case atStart=>exact⟨0,Nat.zero_le _,rfl,Below.refl _ _⟩
 case round =>
  obtain⟨k,hk,rfl,hbl⟩:=hrel;have HB:=a0b hbl;clear hbl
  by_cases hlt:k<l.length
  ·have hlt':(k:Int)<(l.length:Int):=by omega
   obtain⟨g,cap,e,a0⟩:=(HU.out.later HB.out).cell k hlt;simp only[Value.slice.injEq,true_and] at e;obtain⟨rfl,rfl⟩:=e;obtain⟨g2,cap2,e,b0⟩:=(HV.out.later HB.out).cell k hlt;simp only[Value.slice.injEq,true_and] at e;obtain⟨rfl,rfl⟩:=e;generalize l[k]=x at *
   go_upto_region 6 with fail
   go_big_region
   have HBd:=a0b (HB.out.drew);clear HB
   go_wp2_with fail
   go_roundw
   case rel=>exact⟨k+1,by omega,by go_num,HBd.out⟩
   case measure=>simp[intOf];omega
  ·have hlt':¬ (k:Int)<(l.length:Int):=by omega
   go_wp2_with fail
   go_ret;exact⟨rfl,HB.out⟩
theorem e4x(L:List (Int × Int))(u v:Value)(w:World)(hu:SV w u L)(hv:SV w v L)(hl:L.length<=1000000):
  Calls Tryz.prog 183 #[u,v] w fun e w'=>e=.returned (.bool true)/\Below w.heap.size w w':=by
 obtain⟨a,ca,rfl⟩:=hu.form;obtain⟨b,cb,rfl⟩:=hv.form;have HU:=a0b hu;have HV:=a0b hv;clear hu hv;have hb:((L.length:Int) != (L.length:Int))=false:=by simp
 go_enter Tryz.func183,Tryz.ntmps183
 go_wp2_with fail
 go_loopw [5] (fun v wr=>∃ k:Nat,k<=L.length/\v=.int .i64 k/\Below w.heap.size w wr) (fun v _=>L.length-(intOf v).toNat)
 case atStart=>exact⟨0,Nat.zero_le _,rfl,Below.refl _ _⟩
 case round =>
  obtain⟨k,hk,rfl,hbl⟩:=hrel;have HB:=a0b hbl;clear hbl
  by_cases hlt:k<L.length
  ·have hlt':(k:Int)<(L.length:Int):=by omega
   obtain⟨g,cap,e,a0,a1⟩:=(HU.out.later HB.out).cell k hlt;simp only[Value.slice.injEq,true_and] at e;obtain⟨rfl,rfl⟩:=e;obtain⟨g2,cap2,e,b0,b1⟩:=(HV.out.later HB.out).cell k hlt;simp only[Value.slice.injEq,true_and] at e;obtain⟨rfl,rfl⟩:=e;generalize L[k].1=x at *;generalize L[k].2=y at *
   go_upto_region 6 with fail
   go_big_region
   have HBd:=a0b (HB.out.drew);clear HB
   go_wp2_with fail
   go_roundw
   case rel=>exact⟨k+1,by omega,by go_num,HBd.out⟩
   case measure=>simp[intOf];omega
  ·have hlt':¬ (k:Int)<(L.length:Int):=by omega
   go_wp2_with fail
   go_ret;exact⟨rfl,HB.out⟩
theorem d7M(h:Below B w w')(n:Nat):Below B w (w'.drewN n):=⟨h.os,h.tape,h.output,h.size,h.block⟩
theorem d9N(l m:List (Ent × Value))(u v:Value)(w:World)(hu:EV w u l)(hv:EV w v m)(he:l.map (·.1)=m.map (·.1))(hl:l.length<=1000)(hs:∀ p∈l,p.1.a0e.length<=1000):
  Calls Tryz.prog 119 #[u,v] w fun e w'=>e=.returned (.bool true)/\Below w.heap.size w w':=by
 obtain⟨a,ca,rfl⟩:=hu.form;obtain⟨b,cb,rfl⟩:=hv.form;have hlen:m.length=l.length:=by have:=congrArg List.length he;simpa using this.symm
 have AT:Hid (∀ (k:Nat) (h:k<l.length) (h':k<m.length),m[k].1=l[k].1):=fun k h h'=>by
  have:=congrArg (fun x=>x[k]?) he;simp only[List.getElem?_map,List.getElem?_eq_getElem h,List.getElem?_eq_getElem h',Option.map_some] at this;exact (Option.some.inj this).symm
 have HU:=a0b hu;have HV:=a0b hv;have HS:=a0b hs;rw[hlen];clear hu hv he hs;have hb:((l.length:Int) != (l.length:Int))=false:=by simp
 go_enter Tryz.func119,Tryz.ntmps119
 go_wp2_with fail
 go_loopw [5,6] (fun v _ wr=>∃ k:Nat,k<=l.length/\v=.int .i64 k/\Below w.heap.size w wr) (fun v _ _=>l.length-(intOf v).toNat)
 case atStart=>exact⟨0,Nat.zero_le _,rfl,Below.refl _ _⟩
 case round =>
  obtain⟨k,hk,rfl,hbl⟩:=hrel;have HB:=a0b hbl;clear hbl
  by_cases hlt:k<l.length
  ·have hlt':(k:Int)<(l.length:Int):=by omega
   have hmt:k<m.length:=by omega
   obtain⟨g,cap,e,a0,a1,a2,a3,a4,a5⟩:=(HU.out.later HB.out).cell k hlt;simp only[Value.slice.injEq,true_and] at e;obtain⟨rfl,rfl⟩:=e;obtain⟨g2,cap2,e,b0,b1,b2,b3,b4,b5⟩:=(HV.out.later HB.out).cell k hmt;simp only[Value.slice.injEq,true_and] at e;obtain⟨rfl,rfl⟩:=e;have s1:=(HU.out.later HB.out).sp l[k] (zg hlt);have s2:=(HV.out.later HB.out).sp m[k] (zg hmt);rw[AT.out k hlt hmt] at b0 b1 b2 b3 b5 s2;have SP:=a0b (fun W' (q:Below wr.heap.size wr W')=>e4x l[k].1.a0e l[k].2 m[k].2 W' (s1.later q) (s2.later q) (by have:=HS.out l[k] (zg hlt);omega));obtain⟨f1,f2,e1⟩:=s1.form;obtain⟨f3,f4,e2⟩:=s2.form;rw[e1] at a4 SP;rw[e2] at b4 SP;clear s1 s2 e1 e2;generalize l[k].1=x at *;have n0:(x.id != x.id)=false:=by simp
   have n1:(x.kind != x.kind)=false:=by simp
   have n3:(x.a0c != x.a0c)=false:=by simp
   have n5:(x.a0Z != x.a0Z)=false:=by simp
   have HBd:=a0b (HB.out.drew);have SS:Hid (∀ W',Below wr.drew.heap.size wr.drew W'->W'.cell? ⟨g,k*6,none⟩=some (.int .i64 x.id)/\W'.cell? ⟨g,k*6+1,none⟩=some (.int .i64 x.kind)/\W'.cell? ⟨g,k*6+2,none⟩=some (.string x.a0k)/\W'.cell? ⟨g,k*6+3,none⟩=some (.int .i64 x.a0c)/\W'.cell? ⟨g,k*6+4,none⟩=some (.slice f1 x.a0e.length f2)/\W'.cell? ⟨g,k*6+5,none⟩=some (.int .i64 x.a0Z)/\W'.cell? ⟨g2,k*6,none⟩=some (.int .i64 x.id)/\W'.cell? ⟨g2,k*6+1,none⟩=some (.int .i64 x.kind)/\W'.cell? ⟨g2,k*6+2,none⟩=some (.string x.a0k)/\W'.cell? ⟨g2,k*6+3,none⟩=some (.int .i64 x.a0c)/\W'.cell? ⟨g2,k*6+4,none⟩=some (.slice f3 x.a0e.length f4)/\W'.cell? ⟨g2,k*6+5,none⟩=some (.int .i64 x.a0Z)):=fun W' q=>⟨a0a q a0,a0a q a1,a0a q a2,a0a q a3,a0a q a4,a0a q a5,a0a q b0,a0a q b1,a0a q b2,a0a q b3,a0a q b4,a0a q b5⟩
   clear HB
   go_upto_region 6 with fail
   go_region_held3 (fun W'=>W'.cell? ⟨g,k*6,none⟩=some (.int .i64 x.id)/\W'.cell? ⟨g,k*6+1,none⟩=some (.int .i64 x.kind)/\W'.cell? ⟨g,k*6+2,none⟩=some (.string x.a0k)/\W'.cell? ⟨g,k*6+3,none⟩=some (.int .i64 x.a0c)/\W'.cell? ⟨g,k*6+4,none⟩=some (.slice f1 x.a0e.length f2)/\W'.cell? ⟨g,k*6+5,none⟩=some (.int .i64 x.a0Z)/\W'.cell? ⟨g2,k*6,none⟩=some (.int .i64 x.id)/\W'.cell? ⟨g2,k*6+1,none⟩=some (.int .i64 x.kind)/\W'.cell? ⟨g2,k*6+2,none⟩=some (.string x.a0k)/\W'.cell? ⟨g2,k*6+3,none⟩=some (.int .i64 x.a0c)/\W'.cell? ⟨g2,k*6+4,none⟩=some (.slice f3 x.a0e.length f4)/\W'.cell? ⟨g2,k*6+5,none⟩=some (.int .i64 x.a0Z))
    (first
     |with_reducible exact SS.out _ HB6.out
     |exact⟨a0,a1,a2,a3,a4,a5,b0,b1,b2,b3,b4,b5⟩)
    (first
     |(go_at_call 183;refine (SP.out _ (a0q _)).mono ?_;rintro e w6 ⟨rfl,hb6⟩;have HB6:=a0b hb6;clear hb6))
   have HF:Hid (Below w.heap.size w w6):=a0j HBd.out HB6.out (zq _);obtain⟨c0,c1,c2,c3,c4,c5,d0,d1,d2,d3,d4,d5⟩:=SS.out _ HB6.out;clear HB6 HBd SS SP a0 a1 a2 a3 a4 a5 b0 b1 b2 b3 b4 b5;have n2:(x.a0k.toList != x.a0k.toList)=false:=by simp
   have n2':(x.a0k.toList==x.a0k.toList)=true:=by simp
   go_upto_region 7 with fail
   go_quiet (fail)
   go_wp2_with fail
   go_roundw
   case rel=>exact⟨k+1,by omega,by go_num,d7M HF.out _⟩
   case measure=>simp[intOf];omega
  ·have hlt':¬ (k:Int)<(l.length:Int):=by omega
   go_wp2_with fail
   go_ret;exact⟨rfl,HB.out⟩
variable {w:World}{B:Nat}{v0 v1 r1 r2 r3:Value}{K:List Nat}{X1 X2 X3:List KL}
abbrev f8N(X1 X2 X3:List KL):Int:=-1000-(X1.length:Int)-X2.length-X3.length
theorem e1W(h:BK w B v0 v1 K r1 r2 r3 X1 X2 X3)(h1:X1.length<=1000000000)(h2:X2.length<=1000000000)(h3:X3.length<=1000000000):
  Calls Tryz.prog 184 #[.pointer (some ⟨B,2,none⟩)] w fun e w'=>e=.returned (.int .i64 (f8N X1 X2 X3))/\Below w.heap.size w w':=by
 obtain⟨_,_,c2,c3,c4,_⟩:=h.cells;obtain⟨⟨a1,p1,rfl⟩,⟨a2,p2,rfl⟩,a3,p3,rfl⟩:=h.forms;have HB:=a0b h;clear h;have k1:IntKind.i64.wrap (-1000-(X1.length:Int))=-1000-(X1.length:Int):=a0G (by omega) (by omega);have k2:IntKind.i64.wrap (-1000-(X1.length:Int)-X2.length)=-1000-(X1.length:Int)-X2.length:=a0G (by omega) (by omega);have k3:IntKind.i64.wrap (-1000-(X1.length:Int)-X2.length-X3.length)=-1000-(X1.length:Int)-X2.length-X3.length:=a0G (by omega) (by omega)
 go_enter Tryz.func184,Tryz.ntmps184
 go_upto_region 1 with fail
 go_quiet (fail)
 go_wp2_with fail
 go_ret;exact⟨rfl,d7M (zr _ _) _⟩
variable {w:World}{B:Nat}{v0 v1 r1 r2 r3:Value}{K:List Nat}{X1 X2 X3:List KL}
theorem f8Y:(Tryz.prog.info? tI).map (fun i=>(i.zero,i.size,i.bytes))=some (some (.agg #[.slice none 0 0,.slice none 0 0,.slice none 0 0,.slice none 0 0,.int .i64 0]),5,104):=by kernel_rfl
theorem d1o{b0 e z:Nat}(h:W.ownsRow b0 e z v n xs)(hk:k<xs.length):∃ g cap u,v=.slice (some ⟨g,0,none⟩) n cap/\W.cell? ⟨g,k,none⟩=some u/\∀ o,W.frozen? ⟨g,o,none⟩=false:=by
 rcases h.2 with ⟨rfl,rfl⟩|⟨g,cap,cur,rfl,_,hh,_⟩
 ·have:=h.1;rw[Nat.zero_mul] at this;omega
 ·exact⟨g,cap,xs[k],rfl,(f6U g k) ▸ h.cells (g:=g) rfl k xs[k] (List.getElem?_eq_getElem hk),fun o=>by simp[World.frozen?,hh]⟩
theorem g4s(hk:k<xs.length):(rp (e5O m) k++xs.drop k).set k (.int .i64 m)=rp (e5O m) (k+1)++xs.drop (k+1):=by
 have hl:(rp (e5O m) k).length=k:=by rw[d4O];simp
 rw[List.set_append,if_neg (by omega),hl,Nat.sub_self,List.drop_eq_getElem_cons hk,e6y,List.append_assoc];rfl
def e5M(w:World)(B:Nat)(v0 v1:Value)(K:List Nat)(r1 r2 r3:Value)(l:Value)(n:Nat)(w':World):Prop :=
 ∃ K' r1' r2' r3' Y1 Y2 Y3,BK w' B v0 v1 K' r1' r2' r3' Y1 Y2 Y3/\Y1.length+Y2.length+Y3.length=n+1/\Off (l.ownBlock.toList++bkB B r1 r2 r3) w w'/\(∀ b∈K',b∈K\/l.ownBlock=some b\/w.heap.size<=b)/\(∀ b∈bkB B r1' r2' r3',b∈bkB B r1 r2 r3\/w.heap.size<=b)
structure KS(pat:List Value)(e:TypeId)(w0 Z:World)(l:Value)(n Q:Nat)(o:Obj):Prop where
 own:Z.ownsRow 0 e pat.length l n (rp pat n)
 hq:Z.heap[Q]?=some o
 lo:w0.heap.size<=Q
 off:Off l.ownBlock.toList w0 Z
 lt:∀ b,l.ownBlock=some b->b<w0.heap.size
theorem KS.put{e:TypeId}{cs:Array Value}{t:TypeId}(h:KS pat e w0 Z l n Q (.cells cs t))(k:Off l.ownBlock.toList Z Z')(ho:Z'.ownsRow 0 e pat.length l n (rp pat n))(i:Nat)(v:Value):KS pat e w0 (Z'.setCell ⟨Q,i,none⟩ v) l n Q (.cells (cs.setIfInBounds i v) t):=by
 have hQ:Q ∉ l.ownBlock.toList:=fun e=>by have:=h.lt Q (by simpa using e);have:=h.lo;omega
 have kd:Off [Q] Z' (Z'.setCell ⟨Q,i,none⟩ v):=Off.set0 ..;refine⟨a1i ho kd (fun b hb e=>hQ (by simp at e;subst e;simpa using hb)),d1X ((k.block Q (Array.getElem?_eq_some_iff.1 h.hq).1 hQ).trans h.hq) v,h.lo,(h.off.trans k).setCell (.inr h.lo) _ _,h.lt⟩
theorem d0h{cs:Array Value}{t:TypeId}(h:Z.heap[Q]?=some (.cells cs t))(i:Nat)(hv:cs[i]?=some v):Z.cell? ⟨Q,i,none⟩=some v:=by simp[World.cell?,h,hv]
theorem KS.at_{e:TypeId}{cs:Array Value}{t:TypeId}(h:KS pat e w0 Z l n Q (.cells cs t))(k:Off l.ownBlock.toList Z Z'):Z'.heap[Q]?=some (.cells cs t)/\∀ o,Z'.frozen? ⟨Q,o,none⟩=false:=by
 have hQ:Q ∉ l.ownBlock.toList:=fun e=>by have:=h.lt Q (by simpa using e);have:=h.lo;omega
 have e:=(k.block Q (Array.getElem?_eq_some_iff.1 h.hq).1 hQ).trans h.hq;exact⟨e,fun o=>by simp[World.frozen?,e]⟩
structure KF(pat:List Value)(e:TypeId)(w0 Z:World)(l:Value)(n Q:Nat)(o:Obj)(us:List (Value × Nat)):Prop where
 ks:KS pat e w0 Z l n Q o
 fs:∀ p∈us,Fu pat Z p.1 p.2/\∀ b,p.1.ownBlock=some b->b≠Q/\b<Z.heap.size/\(l.ownBlock=some b\/w0.heap.size<=b)
theorem KF.put{e:TypeId}{m cap:Nat}{cs:Array Value}{t:TypeId}{us:List (Value × Nat)}(h:KF pat e w0 Z l n Q (.cells cs t) us)(o6:Z'.ownsRow 0 e pat.length (.slice (some ⟨g,0,none⟩) (n+m) cap) (n+m) (rp pat (n+m)))(ol6:Z'.ownsRow 0 e pat.length l n (rp pat n))(f6:∀ u j,j<=n+m->Fu pat Z u j->Fu pat Z' u j)(k6:Off l.ownBlock.toList Z Z')(at6:l.ownBlock=some g\/Z.heap.size<=g)(hj:∀ p∈us,p.2<=n+m)(i:Nat):
  KF pat e w0 (Z'.setCell ⟨Q,i,none⟩ (.slice (some ⟨g,0,none⟩) (n+m) cap)) l n Q (.cells (cs.setIfInBounds i (.slice (some ⟨g,0,none⟩) (n+m) cap)) t) ((.slice (some ⟨g,0,none⟩) (n+m) cap,n+m) :: us):=by
 have kd:Off [Q] Z' (Z'.setCell ⟨Q,i,none⟩ (.slice (some ⟨g,0,none⟩) (n+m) cap)):=Off.set0 ..;have hQ:Q<Z.heap.size:=(Array.getElem?_eq_some_iff.1 h.ks.hq).1;have hz:=h.ks.off.size
 have hg:g≠Q/\g<Z'.heap.size/\(l.ownBlock=some g\/w0.heap.size<=g):=by
  refine⟨?_,c7O o6 (by simp[Value.ownBlock]),at6.imp id fun e=>by omega⟩;rcases at6 with e|e
  ·have:=h.ks.lt g e;have:=h.ks.lo;omega
  ·omega
 refine⟨h.ks.put k6 ol6 i _,fun p hp=>?_⟩;rcases List.mem_cons.1 hp with rfl|hp
 ·refine⟨(Fu.of_own o6).off kd (fun b hb e=>?_),fun b hb=>?_⟩
  ·simp[Value.ownBlock] at hb e;exact hg.1 (hb.trans e)
  ·simp[Value.ownBlock] at hb;subst hb;exact⟨hg.1,Nat.lt_of_lt_of_le hg.2.1 kd.size,hg.2.2⟩
 ·obtain⟨p1,p2⟩:=h.fs p hp;exact⟨(f6 _ _ (hj p hp) p1).off kd (fun b hb e=>(p2 b hb).1 (by simpa using e)),fun b hb=>⟨(p2 b hb).1,Nat.lt_of_lt_of_le (zL (p2 b hb).2.1 k6.size) kd.size,(p2 b hb).2.2⟩⟩
theorem BK.lt(h:BK w B v0 v1 K r1 r2 r3 X1 X2 X3):∀ b∈bkB B r1 r2 r3,b<w.heap.size:=fun b hb=>by
 simp only[bkB,List.mem_cons,List.mem_append,Option.mem_toList] at hb;rcases hb with rfl|hb|hb|hb
 ·exact (Array.getElem?_eq_some_iff.1 h.hb).1
 ·exact c7O h.br.b1.own hb
 ·exact c7O h.br.b2.own hb
 ·exact c7O h.br.b3.own hb
theorem KF.blocks{e:TypeId}(hT:KF pat e wr Z3 l n Q o [(c,n+3),(b,n+2),(a,n+1),(l,n)]):∀ q∈klB (l,a,b,c,m),q<Z3.heap.size/\(l.ownBlock=some q\/wr.heap.size<=q):=fun q hq=>by
 simp only[klB,List.mem_append,Option.mem_toList] at hq;rcases hq with hq|hq|hq|hq
 ·exact ((hT.fs (l,n) (by simp)).2 q hq).2
 ·exact ((hT.fs (a,n+1) (by simp)).2 q hq).2
 ·exact ((hT.fs (b,n+2) (by simp)).2 q hq).2
 ·exact ((hT.fs (c,n+3) (by simp)).2 q hq).2
theorem KF.k4{e:TypeId}(hT:KF (P m) e wr Z3 l n Q o [(c,n+3),(b,n+2),(a,n+1),(l,n)])(hn:n<=900000):K4 P Z3 (l,a,b,c,m) :=
 ⟨n,hn,(hT.fs (l,n) (by simp)).1,(hT.fs (a,n+1) (by simp)).1,(hT.fs (b,n+2) (by simp)).1,(hT.fs (c,n+3) (by simp)).1⟩
theorem BK.kept{r1' r2' r3':Value}{e:TypeId}{Y1 Y2 Y3:List KL}(hT:KF pat e wr Z3 l n Q o [(c,n+3),(b,n+2),(a,n+1),(l,n)])(R3:Off l.ownBlock.toList w Z3)(hw:w.heap.size<=wr.heap.size)(hl:Y1.length+Y2.length+Y3.length=X1.length+X2.length+X3.length+1)
  (hr:∀ q∈bkB B r1' r2' r3',q∈bkB B r1 r2 r3\/Z3.heap.size<=q) (hk:BK w9 B v0 v1 (klB (l,a,b,c,m)++K) r1' r2' r3' Y1 Y2 Y3/\Off (bkB B r1 r2 r3) Z3 w9):e5M w B v0 v1 K r1 r2 r3 l (X1.length+X2.length+X3.length) w9:=by
 refine⟨_,r1',r2',r3',Y1,Y2,Y3,hk.1,hl,(R3.mono fun y hy=>List.mem_append_left _ hy).trans (hk.2.mono fun y hy=>List.mem_append_right _ hy),fun q hq=>?_,fun q hq=>(hr q hq).imp id fun e=>by have:=R3.size;omega⟩;rcases List.mem_append.1 hq with hq|hq
 ·rcases (hT.blocks q hq).2 with e|e
  ·exact .inr (.inl e)
  ·exact .inr (.inr (by omega))
 ·exact .inl hq
theorem BK.apart{e:TypeId}(h:BK w B v0 v1 K r1 r2 r3 X1 X2 X3)(hT:KF pat e wr Z3 l n Q o [(c,n+3),(b,n+2),(a,n+1),(l,n)])(hw:w.heap.size<=wr.heap.size)(hlK:∀ b,l.ownBlock=some b->b ∉ K/\b ∉ bkB B r1 r2 r3):∀ q∈klB (l,a,b,c,m),q<Z3.heap.size/\q ∉ bkB B r1 r2 r3:=fun q hq=>by
 refine⟨(hT.blocks q hq).1,fun e=>?_⟩;rcases (hT.blocks q hq).2 with e1|e1
 ·exact (hlK q e1).2 e
 ·have:=h.lt q e;omega
theorem BK.kept1{e:TypeId}(h:BK w B v0 v1 K r1 r2 r3 X1 X2 X3)(h3:BK Z3 B v0 v1 K r1 r2 r3 X1 X2 X3)(hT:KF (e5O m) e wr Z3 l n Q o [(c,n+3),(b,n+2),(a,n+1),(l,n)])(hn:n<=900000)(R3:Off l.ownBlock.toList w Z3)(hw:w.heap.size<=wr.heap.size)(hlK:∀ b,l.ownBlock=some b->b ∉ K/\b ∉ bkB B r1 r2 r3)
  (k9:Off r1.ownBlock.toList Z3 w9) (o9:w9.ownsRow 0 tI 5 r' (X1.length+1) (X1.flatMap klV++klV (l,a,b,c,m))) (hat:g2M Z3 r1 r'):e5M w B v0 v1 K r1 r2 r3 l (X1.length+X2.length+X3.length) (w9.setCell ⟨B,2,none⟩ r') :=
 BK.kept hT R3 hw (by simp;omega) (fun q hq=>by
  simp only[bkB,List.mem_cons,List.mem_append,Option.mem_toList] at hq ⊢;rcases hq with rfl|hq|hq|hq
  ·exact .inl (.inl rfl)
  ·exact (hat q hq).imp (fun e=>.inr (.inl e)) id
  ·exact .inl (.inr (.inr (.inl hq)))
  ·exact .inl (.inr (.inr (.inr hq)))) (h3.add1 (hT.k4 (P:=e5O) hn) (h.apart hT hw hlK) k9 o9 hat)
theorem e4A(h:BK w B v0 v1 K r1 r2 r3 X1 X2 X3)(h1:X1.length<=1000000000)(h2:X2.length<=1000000000)(h3:X3.length<=1000000000)(hl:w.ownsRow 0 3 1 l n xs)(hn:n<=900000)(hlK:∀ b,l.ownBlock=some b->b ∉ K/\b ∉ bkB B r1 r2 r3):
  Calls Tryz.prog 123 #[.pointer (some ⟨B,2,none⟩),l] w fun e w'=>e=.returned (.tuple #[])/\e5M w B v0 v1 K r1 r2 r3 l (X1.length+X2.length+X3.length) w':=by
 obtain⟨i0,hi0,hz0,hz1,hz2⟩:=info_parts b1S;obtain⟨j0,hj0,jz0,jz1,jz2⟩:=info_parts f8Y;obtain⟨a,cp,rfl⟩:=c9y hl;have HB:=a0b h;have HL:=a0b hl;have HK:=a0b hlK;have HLT:=a0b (fun b (hb:(Value.slice a n cp).ownBlock=some b)=>c7O hl hb);have hxl:xs.length=n:=by have:=hl.1;omega
 clear h hl hlK
 go_enter Tryz.func123,Tryz.ntmps123
 go_upto_region 2 with (first|(go_at_call 184;refine (e1W HB.out h1 h2 h3).mono ?_;rintro e w1 ⟨rfl,hb⟩;have H1:=a0b hb;clear hb))
 generalize hmm:f8N X1 X2 X3=m;have HL1:=a0b (a1g HL.out H1.out)
 go_loopw [5] (fun v wr=>∃ k:Nat,k<=n/\v=.int .i64 k/\wr.ownsRow 0 3 1 (.slice a n cp) n (rp (e5O m) k++xs.drop k)/\Off (Value.slice a n cp).ownBlock.toList w1 wr) (fun v _=>n-(intOf v).toNat)
 case atStart=>exact⟨0,Nat.zero_le _,rfl,by simpa[e6x] using HL1.out,Off.refl _ _⟩
 case round =>
  obtain⟨k,hk,rfl,hown,hof⟩:=hrel;have HO:=a0b (zA hown hof)
  by_cases hlt:k<n
  ·have hlt':(k:Int)<(n:Int):=by omega
   obtain⟨g,cap,u,e,c0,fz⟩:=d1o hown (k:=k) (by rw[List.length_append,d4O,List.length_drop];simp;omega);simp only[Value.slice.injEq,true_and] at e;obtain⟨rfl,rfl⟩:=e;have f0:=fz k;clear hown hof
   go_wp2_with fail
   go_roundw
   case rel =>
    refine⟨k+1,by omega,by go_num,?_,HO.out.2.setCell (.inl (by simp[Value.ownBlock])) _ _⟩;have:=d1L HO.out.1 (b:=g) rfl k (.int .i64 m);rw[g4s (by omega)] at this;exact this
   case measure=>simp[intOf];omega
  ·have hlt':¬ (k:Int)<(n:Int):=by omega
   have hkn:k=n:=by omega
   subst hkn
   have HR:Hid (wr.ownsRow 0 3 1 (.slice a k cp) k (rp (e5O m) k)):=by
    have:=HO.out.1;rw[List.drop_eq_nil_of_le (by omega),List.append_nil] at this;exact this
   clear hown hof
   go_upto_region 6 with fail
   change Code.wp _ _ _ _ (wr.alloc (.cells #[.slice a k cp,.slice none 0 0,.slice none 0 0,.slice none 0 0,.int .i64 m] tI))
   have S0:Hid (KS (e5O m) 3 wr (wr.alloc (.cells #[.slice a k cp,.slice none 0 0,.slice none 0 0,.slice none 0 0,.int .i64 m] tI)) (.slice a k cp) k wr.heap.size (.cells #[.slice a k cp,.slice none 0 0,.slice none 0 0,.slice none 0 0,.int .i64 m] tI)) :=
    ⟨HR.out.alloc _,a0p _ _,Nat.le_refl _,(Off.refl _ _).alloc _,fun b hb=>c7O HR.out hb⟩
   have T0:Hid (KF (e5O m) 3 wr (wr.alloc (.cells #[.slice a k cp,.slice none 0 0,.slice none 0 0,.slice none 0 0,.int .i64 m] tI)) (.slice a k cp) k wr.heap.size (.cells #[.slice a k cp,.slice none 0 0,.slice none 0 0,.slice none 0 0,.int .i64 m] tI) [(.slice a k cp,k)]) :=
    ⟨S0.out,fun p hp=>by
     rw[List.mem_singleton.1 hp]
     exact⟨Fu.of_own S0.out.own,fun b hb=>⟨by have:=S0.out.lt b hb;omega,c7O S0.out.own hb,.inl hb⟩⟩⟩
   clear S0;generalize wr.alloc (.cells #[.slice a k cp,.slice none 0 0,.slice none 0 0,.slice none 0 0,.int .i64 m] tI)=Z0 at T0 ⊢
   go_upto_region 7 with (first|(at_builtin;go_loud (refine d6c rfl _ _ 38 rfl (e5O m) 8 Tryz.underlying38 hi0 hz0 hz1 hz2 (by decide) rfl (by simp) (by simp[Value.oneCell']) T0.out.ks.own (m:=1) (cs:=#[.int .i64 m]) (by simp[rp]) (by decide) (by decide) rfl rfl (by omega) (zN _) ?_);intro g6 c6 w6 o6 ol6 f6 k6 at6;have q6:=d0h (T0.out.ks.at_ k6).1 1 rfl;have z6:=(T0.out.ks.at_ k6).2 1))
   have T1:=a0b (T0.out.put o6 ol6 f6 k6 at6 (by simp) 1);generalize w6.setCell ⟨wr.heap.size,1,none⟩ (.slice (some ⟨g6,0,none⟩) (k+1) c6)=Z1 at T1 ⊢;clear o6 ol6 f6 k6 at6 q6 z6 T0
   go_upto_region 8 with (first|(at_builtin;go_loud (refine d6c rfl _ _ 38 rfl (e5O m) 8 Tryz.underlying38 hi0 hz0 hz1 hz2 (by decide) rfl (by simp) (by simp[Value.oneCell']) T1.out.ks.own (m:=2) (cs:=#[.int .i64 m,.int .i64 m]) (by simp[rp]) (by decide) (by decide) rfl rfl (by omega) (zN _) ?_);intro g7 c7 w7 o7 ol7 f7 k7 at7;have q7:=d0h (T1.out.ks.at_ k7).1 2 rfl;have z7:=(T1.out.ks.at_ k7).2 2))
   have T2:=a0b (T1.out.put o7 ol7 f7 k7 at7 (by simp) 2);generalize w7.setCell ⟨wr.heap.size,2,none⟩ (.slice (some ⟨g7,0,none⟩) (k+2) c7)=Z2 at T2 ⊢;clear o7 ol7 f7 k7 at7 q7 z7 T1
   go_upto_region 9 with (first|(at_builtin;go_loud (refine d6c rfl _ _ 38 rfl (e5O m) 8 Tryz.underlying38 hi0 hz0 hz1 hz2 (by decide) rfl (by simp) (by simp[Value.oneCell']) T2.out.ks.own (m:=3) (cs:=#[.int .i64 m,.int .i64 m,.int .i64 m]) (by simp[rp]) (by decide) (by decide) rfl rfl (by omega) (zN _) ?_);intro g8 c8 w8 o8 ol8 f8 k8 at8;have q8:=d0h (T2.out.ks.at_ k8).1 3 rfl;have z8:=(T2.out.ks.at_ k8).2 3))
   have T3:=a0b (T2.out.put o8 ol8 f8 k8 at8 (by simp) 3);generalize w8.setCell ⟨wr.heap.size,3,none⟩ (.slice (some ⟨g8,0,none⟩) (k+3) c8)=Z3 at T3 ⊢;clear o8 ol8 f8 k8 at8 q8 z8 T2;have R3:Off (Value.slice a k cp).ownBlock.toList w Z3:=(Off.of_below H1.out).trans (HO.out.2.trans T3.out.ks.off);have HLK:=a0b (fun b (hb:b∈(Value.slice a k cp).ownBlock.toList)=>HK.out b (by simpa using hb));have B3:=a0b (HB.out.off R3 (fun b hb e=>(HLK.out b e).2 hb) (fun b hb e=>(HLK.out b e).1 hb));have HR3:=a0b R3;obtain⟨_,_,d2,_,_,fzB⟩:=B3.out.cells;obtain⟨⟨ra,rc,er⟩,_,_⟩:=B3.out.forms;subst er;have fB:=fzB 2;have s0:=d0h T3.out.ks.hq 0 rfl;have s1:=d0h T3.out.ks.hq 1 rfl;have s2:=d0h T3.out.ks.hq 2 rfl;have s3:=d0h T3.out.ks.hq 3 rfl;have s4:=d0h T3.out.ks.hq 4 rfl;have d2A:∀ o,(Z3.alloc o).cell? ⟨B,2,none⟩=some (.slice ra X1.length rc):=fun o=>a0a ((zr _ Z3).alloc (zq _) o) d2
   have DD:=a0b (fun o=>a1g B3.out.br.b1.own (((zr _ Z3).alloc (zq _) o).drew));have hBr:(Value.slice ra X1.length rc).ownBlock≠some B:=c8L B3.out.br.b1.own B3.out.hb (by decide);clear R3 fzB
   go_region_law (first
    |(refine step_append_lies _ rfl _ _ 80 rfl 0 tI j0 _ 5 104 Tryz.underlying80 hj0 jz0 jz1 jz2 rfl (by decide) (.slice ra X1.length rc) X1.length (X1.flatMap klV) rfl (DD.out _) ⟨Z3.heap.size,0,none⟩ 1 1 (klV (.slice a k cp,.slice (some ⟨g6,0,none⟩) (k+1) c6,.slice (some ⟨g7,0,none⟩) (k+2) c7,.slice (some ⟨g8,0,none⟩) (k+3) c8,m)) rfl rfl (World.news_of_block (cs:=(klV (.slice a k cp,.slice (some ⟨g6,0,none⟩) (k+1) c6,.slice (some ⟨g7,0,none⟩) (k+2) c7,.slice (some ⟨g8,0,none⟩) (k+3) c8,m)).toArray) (a0p Z3 _)) (by simp[klV,Value.oneCell']) (by omega) (by unfold maxLen;omega) (by omega) (zN _) (Z3.heap.size+1) (by simp) ?_;intro g9 c9 w9 o9 hgrow at9 hlt9;have k9:Off ((Value.slice ra X1.length rc).ownBlock.toList) Z3 w9:=Off.grown (((Off.refl _ Z3).alloc _).drew) hgrow (fun k hk=>.inl (by simp[hk]));have d9:=k9.cell (fun e=>hBr (by simpa using e)) d2;have f9:=(k9.frozen (fun e=>hBr (by simpa using e)) (World.block_lt_of_cell? _ _ d2)).trans fB))
   all_goals
    go_wp2_with fail
    (try simp only[Exit.inBlock,Exit.then]);refine bodyPost_end (results_none rfl _ _ _) rfl ?_
    refine⟨rfl,HB.out.kept1 B3.out T3.out hn HR3.out (Nat.le_trans H1.out.size HO.out.2.size) HK.out k9 o9 (fun b hb=>by
     simp[Value.ownBlock] at hb;subst hb
     exact at9.imp id (fun e=>by omega))⟩
variable {w:World}{B:Nat}{v0 v1 r1 r2 r3:Value}{K:List Nat}{X1 X2 X3:List KL}
theorem f1R:(Tryz.prog.info? tS).map (fun i=>(i.zero,i.size,i.bytes))=some (some (.agg #[.slice none 0 0,.slice none 0 0,.slice none 0 0,.slice none 0 0,.int .i64 0]),5,104):=by kernel_rfl
theorem g4r(hk:k*2+1<xs.length):((rp (e4i m) k++xs.drop (k*2)).set (k*2) (.int .i64 m)).set (k*2+1) (.int .i64 m)=rp (e4i m) (k+1)++xs.drop ((k+1)*2):=by
 have hl:(rp (e4i m) k).length=k*2:=by rw[d4O];simp
 have e2:(k+1)*2=k*2+1+1:=by omega
 rw[List.set_append,if_neg (by omega),List.set_append,if_neg (by omega),hl,Nat.sub_self,Nat.add_sub_cancel_left,List.drop_eq_getElem_cons (by omega),List.drop_eq_getElem_cons hk,e6y,List.append_assoc,e2];rfl
theorem BK.kept2{e:TypeId}(h:BK w B v0 v1 K r1 r2 r3 X1 X2 X3)(h3:BK Z3 B v0 v1 K r1 r2 r3 X1 X2 X3)(hT:KF (e4i m) e wr Z3 l n Q o [(c,n+3),(b,n+2),(a,n+1),(l,n)])(hn:n<=900000)(R3:Off l.ownBlock.toList w Z3)(hw:w.heap.size<=wr.heap.size)(hlK:∀ b,l.ownBlock=some b->b ∉ K/\b ∉ bkB B r1 r2 r3)
  (k9:Off r2.ownBlock.toList Z3 w9) (o9:w9.ownsRow 0 tS 5 r' (X2.length+1) (X2.flatMap klV++klV (l,a,b,c,m))) (hat:g2M Z3 r2 r'):e5M w B v0 v1 K r1 r2 r3 l (X1.length+X2.length+X3.length) (w9.setCell ⟨B,3,none⟩ r') :=
 BK.kept hT R3 hw (by simp;omega) (fun q hq=>by
  simp only[bkB,List.mem_cons,List.mem_append,Option.mem_toList] at hq ⊢;rcases hq with rfl|hq|hq|hq
  ·exact .inl (.inl rfl)
  ·exact .inl (.inr (.inl hq))
  ·exact (hat q hq).imp (fun e=>.inr (.inr (.inl e))) id
  ·exact .inl (.inr (.inr (.inr hq)))) (h3.add2 (hT.k4 (P:=e4i) hn) (h.apart hT hw hlK) k9 o9 hat)
theorem e2e(h:BK w B v0 v1 K r1 r2 r3 X1 X2 X3)(h1:X1.length<=1000000000)(h2:X2.length<=1000000000)(h3:X3.length<=1000000000)(hl:w.ownsRow 0 60 2 l n xs)(hn:n<=900000)(hlK:∀ b,l.ownBlock=some b->b ∉ K/\b ∉ bkB B r1 r2 r3):
  Calls Tryz.prog 121 #[.pointer (some ⟨B,2,none⟩),l] w fun e w'=>e=.returned (.tuple #[])/\e5M w B v0 v1 K r1 r2 r3 l (X1.length+X2.length+X3.length) w':=by
 obtain⟨i0,hi0,hz0,hz1,hz2⟩:=info_parts b6Q;obtain⟨j0,hj0,jz0,jz1,jz2⟩:=info_parts f1R;obtain⟨a,cp,rfl⟩:=c9y hl;have HB:=a0b h;have HL:=a0b hl;have HK:=a0b hlK;have HLT:=a0b (fun b (hb:(Value.slice a n cp).ownBlock=some b)=>c7O hl hb);have hxl:xs.length=n*2:=hl.1;clear h hl hlK
 go_enter Tryz.func121,Tryz.ntmps121
 go_upto_region 3 with (first|(go_at_call 184;refine (e1W HB.out h1 h2 h3).mono ?_;rintro e w1 ⟨rfl,hb⟩;have H1:=a0b hb;clear hb))
 generalize hmm:f8N X1 X2 X3=m;change Code.wp _ _ _ _ (w1.alloc (.cells #[.int .i64 m,.int .i64 m] 60));have HW:=a0b (a0j H1.out ((zr _ w1).alloc (zq _) (.cells #[.int .i64 m,.int .i64 m] 60)) (zq _));have hS:w1.heap.size ∉ (Value.slice a n cp).ownBlock.toList:=fun e=>by have:=HLT.out _ (by simpa using e);have:=H1.out.size;omega
 have BX:Hid (∀ Z,Off (Value.slice a n cp).ownBlock.toList (w1.alloc (.cells #[.int .i64 m,.int .i64 m] 60)) Z->Z.cell? ⟨w1.heap.size,0,none⟩=some (.int .i64 m)/\Z.cell? ⟨w1.heap.size,1,none⟩=some (.int .i64 m)):=fun Z k=>⟨k.cell hS (d0h (a0p w1 _) 0 rfl),k.cell hS (d0h (a0p w1 _) 1 rfl)⟩
 clear hS;generalize w1.alloc (.cells #[.int .i64 m,.int .i64 m] 60)=W1 at HW BX ⊢;generalize w1.heap.size=S at BX ⊢;have HL1:=a0b (a1g HL.out HW.out)
 go_loopw [6] (fun v wr=>∃ k:Nat,k<=n/\v=.int .i64 k/\wr.ownsRow 0 60 2 (.slice a n cp) n (rp (e4i m) k++xs.drop (k*2))/\Off (Value.slice a n cp).ownBlock.toList W1 wr) (fun v _=>n-(intOf v).toNat)
 case atStart=>exact⟨0,Nat.zero_le _,rfl,by simpa[e6x] using HL1.out,Off.refl _ _⟩
 case round =>
  obtain⟨k,hk,rfl,hown,hof⟩:=hrel;have HO:=a0b (zA hown hof)
  by_cases hlt:k<n
  ·have hlt':(k:Int)<(n:Int):=by omega
   obtain⟨y0,y1⟩:=BX.out _ hof;obtain⟨g,cap,u,e,c0,fz⟩:=d1o hown (k:=k*2) (by rw[List.length_append,d4O,List.length_drop];simp;omega);obtain⟨g',cap',u',e',c1,_⟩:=d1o hown (k:=k*2+1) (by rw[List.length_append,d4O,List.length_drop];simp;omega);rw[e] at e';simp only[Value.slice.injEq,Option.some.injEq,Addr.mk.injEq,and_true,true_and] at e';obtain⟨rfl,rfl⟩:=e';simp only[Value.slice.injEq,true_and] at e;obtain⟨rfl,rfl⟩:=e;have f0:=fz (k*2);have f1:=fz (k*2+1);clear hown hof
   go_wp2_with fail
   go_roundw
   case rel =>
    refine⟨k+1,by omega,by go_num,?_,(HO.out.2.setCell (.inl (by simp[Value.ownBlock])) _ _).setCell (.inl (by simp[Value.ownBlock])) _ _⟩;have:=d1L (d1L HO.out.1 (b:=g) rfl (k*2) (.int .i64 m)) (b:=g) rfl (k*2+1) (.int .i64 m);rw[g4r (by omega)] at this;exact this
   case measure=>simp[intOf];omega
  ·have hlt':¬ (k:Int)<(n:Int):=by omega
   have hkn:k=n:=by omega
   subst hkn
   have HR:Hid (wr.ownsRow 0 60 2 (.slice a k cp) k (rp (e4i m) k)):=by
    have:=HO.out.1;rw[List.drop_eq_nil_of_le (by omega),List.append_nil] at this;exact this
   clear hown hof;obtain⟨y0,y1⟩:=BX.out _ HO.out.2
   go_upto_region 7 with fail
   change Code.wp _ _ _ _ (wr.alloc (.cells #[.slice a k cp,.slice none 0 0,.slice none 0 0,.slice none 0 0,.int .i64 m] tS))
   have S0:Hid (KS (e4i m) 60 wr (wr.alloc (.cells #[.slice a k cp,.slice none 0 0,.slice none 0 0,.slice none 0 0,.int .i64 m] tS)) (.slice a k cp) k wr.heap.size (.cells #[.slice a k cp,.slice none 0 0,.slice none 0 0,.slice none 0 0,.int .i64 m] tS)) :=
    ⟨HR.out.alloc _,a0p _ _,Nat.le_refl _,(Off.refl _ _).alloc _,fun b hb=>c7O HR.out hb⟩
   have T0:Hid (KF (e4i m) 60 wr (wr.alloc (.cells #[.slice a k cp,.slice none 0 0,.slice none 0 0,.slice none 0 0,.int .i64 m] tS)) (.slice a k cp) k wr.heap.size (.cells #[.slice a k cp,.slice none 0 0,.slice none 0 0,.slice none 0 0,.int .i64 m] tS) [(.slice a k cp,k)]) :=
    ⟨S0.out,fun p hp=>by
     rw[List.mem_singleton.1 hp]
     exact⟨Fu.of_own S0.out.own,fun b hb=>⟨by have:=S0.out.lt b hb;omega,c7O S0.out.own hb,.inl hb⟩⟩⟩
   clear S0;generalize wr.alloc (.cells #[.slice a k cp,.slice none 0 0,.slice none 0 0,.slice none 0 0,.int .i64 m] tS)=Z0 at T0 ⊢;obtain⟨y0,y1⟩:=BX.out _ (HO.out.2.trans T0.out.ks.off)
   go_upto_region 8 with (first|(at_builtin;go_loud (refine d6c rfl _ _ 56 rfl (e4i m) 16 Tryz.underlying56 hi0 hz0 hz1 hz2 (by decide) rfl (by simp) (by simp[Value.oneCell']) T0.out.ks.own (m:=1) (cs:=#[.int .i64 m,.int .i64 m]) (by simp[rp]) (by decide) (by decide) rfl rfl (by omega) (zN _) ?_);intro g6 c6 w6 o6 ol6 f6 k6 at6;have q6:=d0h (T0.out.ks.at_ k6).1 1 rfl;have z6:=(T0.out.ks.at_ k6).2 1))
   have T1:=a0b (T0.out.put o6 ol6 f6 k6 at6 (by simp) 1);generalize w6.setCell ⟨wr.heap.size,1,none⟩ (.slice (some ⟨g6,0,none⟩) (k+1) c6)=Z1 at T1 ⊢;clear y0 y1 o6 ol6 f6 k6 at6 q6 z6 T0;obtain⟨y0,y1⟩:=BX.out _ (HO.out.2.trans T1.out.ks.off)
   go_upto_region 9 with (first|(at_builtin;go_loud (refine d6c rfl _ _ 56 rfl (e4i m) 16 Tryz.underlying56 hi0 hz0 hz1 hz2 (by decide) rfl (by simp) (by simp[Value.oneCell']) T1.out.ks.own (m:=2) (cs:=#[.int .i64 m,.int .i64 m,.int .i64 m,.int .i64 m]) (by simp[rp]) (by decide) (by decide) rfl rfl (by omega) (zN _) ?_);intro g7 c7 w7 o7 ol7 f7 k7 at7;have q7:=d0h (T1.out.ks.at_ k7).1 2 rfl;have z7:=(T1.out.ks.at_ k7).2 2))
   have T2:=a0b (T1.out.put o7 ol7 f7 k7 at7 (by simp) 2);generalize w7.setCell ⟨wr.heap.size,2,none⟩ (.slice (some ⟨g7,0,none⟩) (k+2) c7)=Z2 at T2 ⊢;clear y0 y1 o7 ol7 f7 k7 at7 q7 z7 T1;obtain⟨y0,y1⟩:=BX.out _ (HO.out.2.trans T2.out.ks.off)
   go_upto_region 10 with (first|(at_builtin;go_loud (refine d6c rfl _ _ 56 rfl (e4i m) 16 Tryz.underlying56 hi0 hz0 hz1 hz2 (by decide) rfl (by simp) (by simp[Value.oneCell']) T2.out.ks.own (m:=3) (cs:=#[.int .i64 m,.int .i64 m,.int .i64 m,.int .i64 m,.int .i64 m,.int .i64 m]) (by simp[rp]) (by decide) (by decide) rfl rfl (by omega) (zN _) ?_);intro g8 c8 w8 o8 ol8 f8 k8 at8;have q8:=d0h (T2.out.ks.at_ k8).1 3 rfl;have z8:=(T2.out.ks.at_ k8).2 3))
   have T3:=a0b (T2.out.put o8 ol8 f8 k8 at8 (by simp) 3);generalize w8.setCell ⟨wr.heap.size,3,none⟩ (.slice (some ⟨g8,0,none⟩) (k+3) c8)=Z3 at T3 ⊢;clear y0 y1 o8 ol8 f8 k8 at8 q8 z8 T2;have R3:Off (Value.slice a k cp).ownBlock.toList w Z3:=(Off.of_below HW.out).trans (HO.out.2.trans T3.out.ks.off);have HLK:=a0b (fun b (hb:b∈(Value.slice a k cp).ownBlock.toList)=>HK.out b (by simpa using hb));have B3:=a0b (HB.out.off R3 (fun b hb e=>(HLK.out b e).2 hb) (fun b hb e=>(HLK.out b e).1 hb));have HR3:=a0b R3;obtain⟨_,_,_,d2,_,fzB⟩:=B3.out.cells;obtain⟨_,⟨ra,rc,er⟩,_⟩:=B3.out.forms;subst er;have fB:=fzB 3;have s0:=d0h T3.out.ks.hq 0 rfl;have s1:=d0h T3.out.ks.hq 1 rfl;have s2:=d0h T3.out.ks.hq 2 rfl;have s3:=d0h T3.out.ks.hq 3 rfl;have s4:=d0h T3.out.ks.hq 4 rfl;have d2A:∀ o,(Z3.alloc o).cell? ⟨B,3,none⟩=some (.slice ra X2.length rc):=fun o=>a0a ((zr _ Z3).alloc (zq _) o) d2
   have DD:=a0b (fun o=>a1g B3.out.br.b2.own (((zr _ Z3).alloc (zq _) o).drew));have hBr:(Value.slice ra X2.length rc).ownBlock≠some B:=c8L B3.out.br.b2.own B3.out.hb (by decide);clear R3 fzB
   go_region_law (first
    |(refine step_append_lies _ rfl _ _ 81 rfl 0 tS j0 _ 5 104 Tryz.underlying81 hj0 jz0 jz1 jz2 rfl (by decide) (.slice ra X2.length rc) X2.length (X2.flatMap klV) rfl (DD.out _) ⟨Z3.heap.size,0,none⟩ 1 1 (klV (.slice a k cp,.slice (some ⟨g6,0,none⟩) (k+1) c6,.slice (some ⟨g7,0,none⟩) (k+2) c7,.slice (some ⟨g8,0,none⟩) (k+3) c8,m)) rfl rfl (World.news_of_block (cs:=(klV (.slice a k cp,.slice (some ⟨g6,0,none⟩) (k+1) c6,.slice (some ⟨g7,0,none⟩) (k+2) c7,.slice (some ⟨g8,0,none⟩) (k+3) c8,m)).toArray) (a0p Z3 _)) (by simp[klV,Value.oneCell']) (by omega) (by unfold maxLen;omega) (by omega) (zN _) (Z3.heap.size+1) (by simp) ?_;intro g9 c9 w9 o9 hgrow at9 hlt9;have k9:Off ((Value.slice ra X2.length rc).ownBlock.toList) Z3 w9:=Off.grown (((Off.refl _ Z3).alloc _).drew) hgrow (fun k hk=>.inl (by simp[hk]));have d9:=k9.cell (fun e=>hBr (by simpa using e)) d2;have f9:=(k9.frozen (fun e=>hBr (by simpa using e)) (World.block_lt_of_cell? _ _ d2)).trans fB))
   all_goals
    go_wp2_with fail
    (try simp only[Exit.inBlock,Exit.then]);refine bodyPost_end (results_none rfl _ _ _) rfl ?_
    refine⟨rfl,HB.out.kept2 B3.out T3.out hn HR3.out (Nat.le_trans HW.out.size HO.out.2.size) HK.out k9 o9 (fun b hb=>by
     simp[Value.ownBlock] at hb;subst hb
     exact at9.imp id (fun e=>by omega))⟩
end Go.Proofs.YtfigmlfdnickmaaGreatDoor
