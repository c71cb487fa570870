import Derived.Test.YtfigmlfdnickmaaGreatDoorL03
import Derived.Lib.SmallJoins
set_option maxRecDepth 100000
set_option maxHeartbeats 8000000
variable{name:ByteArray}{id u:Int}{L:List (Int × Int)}{A A':List Bool->Int}{F Fl Fs G:List Nat}{B H b cap d eb f i j o p q tb:Nat}{ul us:Option Go.Addr}{v:Go.Value}{w w' wx wy:Go.World}
namespace Go.Proofs.YtfigmlfdnickmaaGreatDoor
open Go.RowKit
def b1M(A:List Bool->Int):Lev.T:=Lev.canon 20 A 0 1048320
def cnt:List (Int × Int)->List Bool->Int
 |[],_=>0
 |s :: r,p=>Lev.chi 0 1048320 s.1 s.2 p+cnt r p
def a1z(A:List Bool->Int)(L:List (Int × Int))(x:Int)(p:List Bool):Int:=A p+x*cnt L p
theorem b1b(L M:List (Int × Int))(p:List Bool):cnt (L++M) p=cnt L p+cnt M p:=by
 induction L with
 |nil=>simp[cnt]
 |cons s r ih=>simp only[List.cons_append,cnt,ih];omega
theorem b3P(L:List (Int × Int))(p:List Bool):0<=cnt L p/\cnt L p<=L.length:=by
 induction L with
 |nil=>simp[cnt]
 |cons s r ih =>
  have:=Lev.c1r p 0 1048320 s.1 s.2;simp only[cnt,List.length_cons];omega
theorem b7u(A:List Bool->Int)(x:Int):a1z A [] x=A:=by funext p;simp[a1z,cnt]
theorem b3Y(A:List Bool->Int)(L:List (Int × Int))(s:Int × Int)(x:Int):a1z A (L++[s]) x=fun p=>a1z A L x p+x*Lev.chi 0 1048320 s.1 s.2 p:=by
 funext p;simp only[a1z,b1b,cnt,Int.add_zero,Int.mul_add];omega
theorem c2S(A:List Bool->Int)(a b x:Int)(h:a<b):Lev.a6q 20 (b1M A) 0 1048320 a b x=b1M (fun p=>A p+x*Lev.chi 0 1048320 a b p) :=
 Lev.b8T 20 A 0 1048320 a b x (by omega) (by decide) h
theorem c5I{a:Int}{l r:Lev.T}(h1:-1000000<=a/\a<=1000000)(h2:LB l)(h3:LB r)(h4:-100000000<=a+max (Lev.top l) (Lev.top r)/\a+max (Lev.top l) (Lev.top r)<=100000000)(h5:-100000000<=a+min (Lev.bot l) (Lev.bot r)/\a+min (Lev.bot l) (Lev.bot r)<=100000000):LB (Lev.mk a l r):=by
 unfold Lev.mk;split
 ·trivial
 ·exact⟨h1,h4,h5,h2,h3⟩
theorem b9e(a:Int)(l r:Lev.T):Lev.top (Lev.mk a l r)=a+max (Lev.top l) (Lev.top r)/\Lev.bot (Lev.mk a l r)=a+min (Lev.bot l) (Lev.bot r):=by
 unfold Lev.mk;split
 ·rename_i h
  rw[Lev.a3f h.2.1,Lev.a3f h.2.2,h.1];simp[Lev.top,Lev.bot]
 ·exact⟨rfl,rfl⟩
theorem c3E:∀ (n:Nat)(A:List Bool->Int)(lo hi:Int),(∀ p,0<=A p/\A p<=1000000)->n<=50->LB (Lev.canon n A lo hi)/\(0<=Lev.top (Lev.canon n A lo hi)/\Lev.top (Lev.canon n A lo hi)<=1000000*(n+1))/\(0<=Lev.bot (Lev.canon n A lo hi)/\Lev.bot (Lev.canon n A lo hi)<=1000000*(n+1)):=by
 intro n
 induction n with
 |zero =>
  intro A lo hi h _;have h0:=h [];simp only[Lev.canon];have e:=b9e (A []) .nil .nil;simp only[Lev.top,Lev.bot] at e;rw[e.1,e.2];refine⟨c5I (by omega) trivial trivial ?_ ?_,?_,?_⟩ <;> simp[Lev.top,Lev.bot] <;> omega
 |succ n ih =>
  intro A lo hi h hn;have h0:=h [];simp only[Lev.canon]
  split
  ·have e:=b9e (A []) .nil .nil;simp only[Lev.top,Lev.bot] at e;rw[e.1,e.2];refine⟨c5I (by omega) trivial trivial ?_ ?_,?_,?_⟩ <;> simp[Lev.top,Lev.bot] <;> omega
  ·obtain⟨b1,b2,b3⟩:=ih (fun p=>A (false :: p)) lo (Lev.mid lo hi) (fun p=>h _) (by omega);obtain⟨b4,b5,b6⟩:=ih (fun p=>A (true :: p)) (Lev.mid lo hi) hi (fun p=>h _) (by omega);have e:=b9e (A []) (Lev.canon n (fun p=>A (false :: p)) lo (Lev.mid lo hi)) (Lev.canon n (fun p=>A (true :: p)) (Lev.mid lo hi) hi);rw[e.1,e.2];exact⟨c5I (by omega) b1 b4 (by omega) (by omega),by omega,by omega⟩
theorem a9e(h:∀ p,0<=A p/\A p<=1000000):LB (b1M A):=(c3E 20 A 0 1048320 h (by omega)).1
theorem a6L(h:∀ p,0<=A p):Lev.Good (b1M A) 0 1048320:=Lev.b8K 20 A 0 1048320 h
def b0i(A:List Bool->Int)(x:Int):Int:=Lev.lev (b1M A) 0 1048320 x
theorem b0G(A:List Bool->Int)(L:List (Int × Int))(u x:Int)(h0:0<=x)(h1:x<1048320)(hL:∀ s∈L,s.1<s.2):b0i (a1z A L u) x=b0i A x+u*((L.filter fun s=>decide (s.1<=x) && decide (x<s.2)).length:Int):=by
 have key:∀ (n:Nat) (M:List (Int × Int)),M.length=n->(∀ s∈M,s.1<s.2)->b0i (a1z A M u) x=b0i A x+u*((M.filter fun s=>decide (s.1<=x) && decide (x<s.2)).length:Int):=by
  intro n
  induction n with
  |zero =>
   intro M hM _;rw[List.length_eq_zero_iff.1 hM,b7u];simp
  |succ n ih =>
   intro M hM hs;obtain⟨K,s,rfl⟩:∃ K s,M=K++[s]:=⟨M.dropLast,M.getLast (by intro e;simp[e] at hM),(List.dropLast_concat_getLast _).symm⟩;have hK:K.length=n:=by simpa using hM
   rw[b3Y];have e:=Lev.b1L 20 (a1z A K u) 0 1048320 s.1 s.2 u x h0 h1 (by decide) (hs s (by simp));have e':b0i (fun p=>a1z A K u p+u*Lev.chi 0 1048320 s.1 s.2 p) x=b0i (a1z A K u) x+if s.1<=x/\x<s.2 then u else 0:=e
   rw[e',ih K hK (fun z hz=>hs z (by simp[hz])),List.filter_append]
   by_cases hc:s.1<=x/\x<s.2
   ·rw[if_pos hc];have:([s].filter fun s=>decide (s.1<=x) && decide (x<s.2))=[s]:=by simp[hc.1,hc.2]
    rw[this];simp only[List.length_append,List.length_cons,List.length_nil];rw[show ((((K.filter fun s=>decide (s.1<=x) && decide (x<s.2)).length+(0+1):Nat)):Int)=((K.filter fun s=>decide (s.1<=x) && decide (x<s.2)).length:Int)+1 from by omega,Int.mul_add];omega
   ·rw[if_neg hc];have:([s].filter fun s=>decide (s.1<=x) && decide (x<s.2))=[]:=by simp;omega
    rw[this];simp
 exact key L.length L rfl hL
structure TH(w:World)(tb:Nat)(name:ByteArray)(a0c:Int)(A:List Bool->Int)(T:Avl.S)(ul us:Option Addr)(Fl Fs:List Nat):Prop where
 c0:w.cell? ⟨tb,0,none⟩=some (.string name)
 c1:w.cell? ⟨tb,1,none⟩=some (.int .i64 a0c)
 c2:w.cell? ⟨tb,2,none⟩=some (.pointer ul)
 c3:w.cell? ⟨tb,3,none⟩=some (.pointer us)
 fz:∀ o,w.frozen? ⟨tb,o,none⟩=false
 lv:a2d w (b1M A) (.pointer ul) Fl
 sp:a2p w T (.pointer us) Fs
 nl:tb ∉ Fl
 ns:tb ∉ Fs
 dj:∀ k∈Fl,k ∉ Fs
theorem TH.lt{a0c:Int}{T:Avl.S}(h:TH w tb name a0c A T ul us Fl Fs):∀ k∈tb :: (Fl++Fs),k<w.heap.size:=by
 intro k hk;rcases List.mem_cons.1 hk with rfl|hk
 ·exact World.block_lt_of_cell? _ _ h.c0
 ·rcases List.mem_append.1 hk with hk|hk
  ·exact h.lv.lt k hk
  ·exact h.sp.lt k hk
theorem TH.off{a0c:Int}{T:Avl.S}(h:TH w tb name a0c A T ul us Fl Fs)(k:Off G w w')(hG:∀ x∈tb :: (Fl++Fs),x ∉ G):TH w' tb name a0c A T ul us Fl Fs:=by
 have hb:=hG tb (by simp);exact⟨k.cell hb h.c0,k.cell hb h.c1,k.cell hb h.c2,k.cell hb h.c3,fun o=>(k.frozen hb (h.lt tb (by simp))).trans (h.fz o),h.lv.off k (fun x hx=>hG x (by simp[hx])),h.sp.off k (fun x hx=>hG x (by simp[hx])),h.nl,h.ns,h.dj⟩
theorem TH.same{a0c:Int}{T:Avl.S}(h:TH w tb name a0c A T ul us Fl Fs)(k:Off [] w w'):TH w' tb name a0c A T ul us Fl Fs:=h.off k (by simp)
theorem TH.added{a0c:Int}{T:Avl.S}(h:TH w tb name a0c A T ul us Fl Fs)(k:a6p w tb 2 Fl (b1M A') w'):∃ ul' Fl',TH w' tb name a0c A' T ul' us Fl' Fs/\(∀ k∈Fl',k∈Fl\/w.heap.size<=k)/\Off (tb :: Fl) w w':=by
 obtain⟨u',F',k1,k2,k3,k4,k5,k6⟩:=k;have hlt:=h.lt;refine⟨u',F',⟨(k5 0 (by omega)).trans h.c0,(k5 1 (by omega)).trans h.c1,k1,(k5 3 (by omega)).trans h.c3,fun o=>(k6 o).trans (h.fz o),k2,h.sp.off k4 (fun x hx=>?_),fun e=>?_,h.ns,fun x hx hy=>?_⟩,k3,k4⟩
 ·simp only[List.mem_cons,not_or];exact⟨fun e=>h.ns (e ▸ hx),fun e=>h.dj x e hx⟩
 ·rcases k3 tb e with h1|h1
  ·exact h.nl h1
  ·have:=hlt tb (by simp);omega
 ·rcases k3 x hx with h1|h1
  ·exact h.dj x h1 hy
  ·have:=hlt x (by simp[hy]);omega
theorem TH.treed{a0c:Int}{T T':Avl.S}(h:TH w tb name a0c A T ul us Fl Fs)(k:a3i w tb 3 Fs T' w'):∃ us' Fs',TH w' tb name a0c A T' ul us' Fl Fs'/\(∀ k∈Fs',k∈Fs\/w.heap.size<=k)/\Off (tb :: Fs) w w':=by
 obtain⟨u',F',k1,k2,k3,k4,k5,k6⟩:=k;have hlt:=h.lt;refine⟨u',F',⟨(k5 0 (by omega)).trans h.c0,(k5 1 (by omega)).trans h.c1,(k5 2 (by omega)).trans h.c2,k1,fun o=>(k6 o).trans (h.fz o),h.lv.off k4 (fun x hx=>?_),k2,h.nl,fun e=>?_,fun x hx hy=>?_⟩,k3,k4⟩
 ·simp only[List.mem_cons,not_or];exact⟨fun e=>h.nl (e ▸ hx),fun e=>h.dj x hx e⟩
 ·rcases k3 tb e with h1|h1
  ·exact h.ns h1
  ·have:=hlt tb (by simp);omega
 ·rcases k3 x hy with h1|h1
  ·exact h.dj x hx h1
  ·have:=hlt x (by simp[hx]);omega
def SL(w:World)(B:Nat)(L:List (Int × Int)):Prop:=∀ (i:Nat)(h:i<L.length),w.cell? ⟨B,i*2,none⟩=some (.int .i64 L[i].1)/\w.cell? ⟨B,i*2+1,none⟩=some (.int .i64 L[i].2)
theorem SL.off(h:SL w B L)(k:Off G w w')(hB:B ∉ G):SL w' B L:=fun i hi=>⟨k.cell hB (h i hi).1,k.cell hB (h i hi).2⟩
def c1P(L:List (Int × Int)):Prop:=∀ s∈L,0<=s.1/\s.1<s.2/\s.2<=1048320
theorem c5G{x:Int}(h:∀ p,0<=A p/\A p<=500000)(h2:∀ p,0<=a1z A L x p)(hx1:-9<=x)(hx2:x<=9)(hL:L.length<=100)(k:Nat):∀ p,0<=a1z A (L.take k) x p/\a1z A (L.take k) x p<=1000000:=by
 intro p;have a1:=h p;have a2:=h2 p;have e:cnt L p=cnt (L.take k) p+cnt (L.drop k) p:=by rw[<- b1b,List.take_append_drop]
 have b1:=b3P (L.take k) p;have b2:=b3P (L.drop k) p;have b3:((L.take k).length:Int)<=100:=by have:=List.length_take_le' k L;omega
 unfold a1z at a2 ⊢;rw[e,Int.mul_add] at a2;constructor
 ·by_cases hx:0<=x
  ·have:=Int.mul_nonneg hx b1.1;omega
  ·have:x*cnt (L.drop k) p<=0:=Int.mul_nonpos_of_nonpos_of_nonneg (by omega) b2.1;omega
 ·by_cases hx:0<=x
  ·have:x*cnt (L.take k) p<=9*100:=Int.mul_le_mul hx2 (by omega) b1.1 (by omega);omega
  ·have:x*cnt (L.take k) p<=0:=Int.mul_nonpos_of_nonpos_of_nonneg (by omega) b1.1;omega
structure b1l(w wx:World)(tb B:Nat)(name:ByteArray)(a0c:Int)(A:List Bool->Int)(T:Avl.S)(us:Option Addr)(Fl Fs:List Nat)(L:List (Int × Int)):Prop where
 th:∃ (ul:Option Addr) (Fl':List Nat),TH wx tb name a0c A T ul us Fl' Fs/\∀ k∈Fl',k∈Fl\/w.heap.size<=k
 off:Off (tb :: Fl) w wx
 sl:SL wx B L
 ok:c1P L
 nb:B ∉ tb :: Fl
 lt:B<w.heap.size
theorem a6p.off{t':Lev.T}(h:a6p w tb o F t' w'):Off (tb :: F) w w':=by
 obtain⟨_,_,_,_,_,h,_⟩:=h;exact h
theorem b1l.step{wr X w4:World}{a0c:Int}{T:Avl.S}{Fl':List Nat}(h:b1l w wr tb B name a0c A T us Fl Fs L)(k0:Off [] wr X)(hT:TH X tb name a0c A T ul us Fl' Fs)(hs:∀ k∈Fl',k∈Fl\/w.heap.size<=k)(k1:a6p X tb 2 Fl' (b1M A') w4):b1l w w4 tb B name a0c A' T us Fl Fs L:=by
 obtain⟨ul2,Fl2,t1,t2,t3⟩:=hT.added k1;have z1:=h.off.size;have z2:=k0.size
 have hB:B ∉ tb :: Fl':=by
  intro e;rcases List.mem_cons.1 e with e|e
  ·exact h.nb (by simp[e])
  ·rcases hs B e with e|e
   ·exact h.nb (by simp[e])
   ·have:=h.lt;omega
 refine⟨⟨ul2,Fl2,t1,fun k hk=>?_⟩,(h.off.trans' k0 (by simp)).trans' t3 (fun k hk=>?_),(h.sl.off k0 (by simp)).off t3 hB,h.ok,h.nb,h.lt⟩
 ·rcases t2 k hk with e|e
  ·exact hs k e
  ·exact .inr (by omega)
 ·rcases List.mem_cons.1 hk with rfl|hk
  ·exact .inl (by simp)
  ·rcases hs k hk with e|e
   ·exact .inl (by simp[e])
   ·exact .inr e
theorem b9q(tb:Nat)(name:ByteArray)(a0c:Int)(A:List Bool->Int)(T:Avl.S)(us:Option Addr)(Fs:List Nat)(L:List (Int × Int))(x:Int)(k:Nat)(hk:k<L.length)(hbd:∀ (k:Nat)(p:List Bool),0<=a1z A (L.take k) x p/\a1z A (L.take k) x p<=1000000)(hok:0<=L[k].1/\L[k].1<L[k].2/\L[k].2<=1048320)(hx1:-9<=x)(hx2:x<=9)(ul:Option Addr)(Fl:List Nat):
  ∀ W,TH W tb name a0c (a1z A (L.take k) x) T ul us Fl Fs->Calls Tryz.prog 219 #[.pointer (some ⟨tb,2,none⟩),.agg #[.int .i64 L[k].1,.int .i64 L[k].2],.int .i64 x] W fun e w'=>e=.returned (.tuple #[])/\a6p W tb 2 Fl (b1M (a1z A (L.take (k+1)) x)) w':=by
 intro W h
 have e:a1z A (L.take (k+1)) x=fun p=>a1z A (L.take k) x p+x*Lev.chi 0 1048320 L[k].1 L[k].2 p:=by
  rw[List.take_succ_eq_append_getElem hk,b3Y]
 have e2:Lev.a6q 20 (b1M (a1z A (L.take k) x)) 0 1048320 L[k].1 L[k].2 x=b1M (a1z A (L.take (k+1)) x):=by rw[e];exact c2S _ _ _ _ hok.2.1
 rw[<- e2];exact c5J _ tb 2 ul Fl _ _ x W h.c2 (h.fz 2) h.nl h.lv hok.2.1 (by omega) (by omega) (a9e (hbd k)) (by rw[e2];exact a9e (hbd (k+1)))
theorem c2i(w:World)(tb B cap:Nat)(name:ByteArray)(a0c:Int)(A:List Bool->Int)(T:Avl.S)(ul us:Option Addr)(Fl Fs:List Nat)(L:List (Int × Int))(x:Int)(h:TH w tb name a0c A T ul us Fl Fs)(hs:SL w B L)(hok:c1P L)(hb:B ∉ tb :: Fl)(hB:B<w.heap.size)(hA:∀ p,0<=A p/\A p<=500000)(hA2:∀ p,0<=a1z A L x p)(hx1:-9<=x)(hx2:x<=9)(hL:L.length<=100):
  Calls Tryz.prog 157 #[.pointer (some ⟨tb,0,none⟩),.slice (some ⟨B,0,none⟩) L.length cap,.int .i64 x] w fun e w'=>e=.returned (.tuple #[])/\(∃ ul' Fl',TH w' tb name a0c (a1z A L x) T ul' us Fl' Fs/\∀ k∈Fl',k∈Fl\/w.heap.size<=k)/\Off (tb :: Fl) w w':=by
 have hbd:=a0b (c5G hA hA2 hx1 hx2 hL);have h0:b1l w w tb B name a0c (a1z A (L.take 0) x) T us Fl Fs L:=⟨⟨ul,Fl,by rw[List.take_zero,b7u];exact h,fun k hk=>.inl hk⟩,Off.refl _ _,hs,hok,hb,hB⟩;have H0:=a0b h0;clear h hs hok hb hA hA2 h0 ul
 go_enter Tryz.func157,Tryz.ntmps157
 go_wp2_with fail
 go_loopw [7,10] (fun _ i wx=>∃ k:Nat,k<=L.length/\i=.int .i64 k/\b1l w wx tb B name a0c (a1z A (L.take k) x) T us Fl Fs L) (fun _ i _=>L.length-(intOf i).toNat)
 case atStart=>exact⟨0,Nat.zero_le _,rfl,H0.out⟩
 case round =>
  obtain⟨k,hk,rfl,hA⟩:=hrel
  by_cases hlt:k<L.length
  ·have c:=hA.sl k hlt;have HA:=a0b hA;obtain⟨c1,c2⟩:=c;clear hA;have hi:(k:Int)<(L.length:Int):=by omega
   obtain⟨ul,Fl',hT,hsub⟩:=HA.out.th;have CA:=a0b (b9q tb name a0c A T us Fs L x k hlt hbd.out (HA.out.ok L[k] (zg hlt)) hx1 hx2 ul Fl');have HT:=a0b hT;have HS:=a0b hsub;clear hT hsub
   go_upto_region 3 with fail
   have hX:Off [] wr (wr.alloc (.cells #[.int .i64 L[k].1,.int .i64 L[k].2] 60)):=(Off.refl _ _).alloc _;have x0:(wr.alloc (.cells #[.int .i64 L[k].1,.int .i64 L[k].2] 60)).cell? ⟨wr.heap.size,0,none⟩=some (.int .i64 L[k].1):=by simp
   have x1:(wr.alloc (.cells #[.int .i64 L[k].1,.int .i64 L[k].2] 60)).cell? ⟨wr.heap.size,1,none⟩=some (.int .i64 L[k].2):=by simp
   have HX:=a0b hX;have hnb:wr.heap.size ∉ tb :: Fl':=fun e=>by have:=HT.out.lt wr.heap.size (by simp only[List.mem_cons,List.mem_append] at e ⊢;grind);omega
   have HN:=a0b hnb;clear hX hnb c1 c2;generalize (World.alloc wr (.cells #[.int .i64 L[k].1,.int .i64 L[k].2] 60))=X at x0 x1 HX ⊢;generalize wr.heap.size=bx at x0 x1 HN ⊢
   go_region_held3 (fun w'=>w'.cell? ⟨bx,0,none⟩=some (.int .i64 L[k].1)/\w'.cell? ⟨bx,1,none⟩=some (.int .i64 L[k].2))
    (first
     |exact⟨x0,x1⟩
     |exact⟨m1,m2⟩)
    (first
     |(go_at_call 219;refine (CA.out _ (HT.out.same (HX.out.drew))).mono ?_;rintro e w4 ⟨rfl,k1⟩;have m1:=k1.off.cell (o:=0) HN.out x0;have m2:=k1.off.cell (o:=1) HN.out x1))
   have HK:Hid (b1l w w4 tb B name a0c (a1z A (L.take (k+1)) x) T us Fl Fs L):=HA.out.step (HX.out.drew) (HT.out.same HX.out.drew) HS.out k1;clear HA HT HS CA HX HN m1 m2 x0 x1 k1
   go_wp2_with fail
   go_roundw
   case rel=>exact⟨k+1,by omega,by go_num,HK.out⟩
   case measure=>simp[intOf];omega
  ·have e:L.take k=L:=List.take_of_length_le (by omega);rw[e] at hA;have HA:=a0b hA;clear hA;have hi:¬ (k:Int)<(L.length:Int):=by omega
   go_wp2_with fail
   go_end0
   exact⟨rfl,HA.out.th,HA.out.off⟩
def b4T(A:List Bool->Int)(s:Int × Int):Int:=Lev.a2g (b1M A) 0 1048320 s.1 s.2
def a2V(A:List Bool->Int)(a0c:Int)(L:List (Int × Int)):Bool:=L.all fun s=>decide (b4T A s<=a0c)
theorem b1G{s:Int × Int}(hA:∀ p,0<=A p)(h0:0<=s.1)(h1:s.1<s.2)(h2:s.2<=1048320):(∀ x,s.1<=x->x<s.2->b0i A x<=b4T A s)/\∃ x,s.1<=x/\x<s.2/\b0i A x=b4T A s:=by
 obtain⟨_,k1,x,k2,k3,k4,k5,k6⟩:=Lev.b6E (b1M A) 0 1048320 s.1 s.2 (by omega) h1 (a6L hA) (Lev.a1r.2 (by omega));exact⟨fun x a b=>k1 x (by omega) (by omega) a b,x,k4,k5,k6⟩
theorem b3v(w:World)(tb B cap:Nat)(name:ByteArray)(a0c:Int)(A:List Bool->Int)(T:Avl.S)(ul us:Option Addr)(Fl Fs:List Nat)(L:List (Int × Int))(h:TH w tb name a0c A T ul us Fl Fs)(hs:SL w B L)(hok:c1P L)(hA:∀ p,0<=A p/\A p<=1000000)(hL:L.length<=100):
  Calls Tryz.prog 158 #[.pointer (some ⟨tb,0,none⟩),.slice (some ⟨B,0,none⟩) L.length cap] w fun e w'=>e=.returned (.bool (a2V A a0c L))/\Below w.heap.size w w':=by
 have CM:=a0b (fun (W:World) (k:Below w.heap.size w W) (s:Int × Int) (h1:s.1<s.2)=>b7x (b1M A) tb 2 ul Fl s.1 s.2 W (a0a k h.c2) (h.lv.later k) (a9e hA) (a6L (fun p=>(hA p).1)) h1);have HS:=a0b hs;have HO:=a0b hok;have cu:=h.c1;clear h hs hok hA
 go_enter Tryz.func158,Tryz.ntmps158
 go_wp2_with fail
 go_loopw [6,9] (fun _ i wx=>∃ k:Nat,k<=L.length/\i=.int .i64 k/\a2V A a0c (L.take k)=true/\Below w.heap.size w wx) (fun _ i _=>L.length-(intOf i).toNat)
 case atStart=>exact⟨0,Nat.zero_le _,rfl,by simp[a2V],Below.refl _ _⟩
 case round =>
  obtain⟨k,hk,rfl,hh,hb⟩:=hrel;have HH:=a0b hh;clear hh
  by_cases hlt:k<L.length
  ·have c1:=a0a hb (HS.out k hlt).1;have c2:=a0a hb (HS.out k hlt).2;have cu':=a0a hb cu;have hi:(k:Int)<(L.length:Int):=by omega
   have HB:=a0b hb;clear hb
   have et:a2V A a0c (L.take (k+1))=(a2V A a0c (L.take k) && decide (b4T A L[k]<=a0c)):=by
    unfold a2V;rw[List.take_succ_eq_append_getElem hlt,List.all_append];simp
   have ET:=a0b et;have hok:=HO.out L[k] (zg hlt);clear et
   go_upto_region 4 with fail
   have hX:Below wr.heap.size wr (wr.alloc (.cells #[.int .i64 L[k].1,.int .i64 L[k].2] 60)):=(zr _ _).alloc (zq _) _;have x0:(wr.alloc (.cells #[.int .i64 L[k].1,.int .i64 L[k].2] 60)).cell? ⟨wr.heap.size,0,none⟩=some (.int .i64 L[k].1):=by simp
   have x1:(wr.alloc (.cells #[.int .i64 L[k].1,.int .i64 L[k].2] 60)).cell? ⟨wr.heap.size,1,none⟩=some (.int .i64 L[k].2):=by simp
   have xu:=a0a hX cu';have HX:=a0b (a0j HB.out hX (zq _));clear hX c1 c2 cu';generalize (World.alloc wr (.cells #[.int .i64 L[k].1,.int .i64 L[k].2] 60))=X at x0 x1 xu HX ⊢;generalize wr.heap.size=bx at x0 x1 ⊢;have CC:=a0b (fun W k'=>CM.out W k' L[k] hok.2.1);generalize em:Lev.a2g (b1M A) 0 1048320 L[k].1 L[k].2=m at CC;have EM:Hid (b4T A L[k]=m):=em;clear em
   by_cases hc:m<=a0c
   all_goals
    go_region_held3 (fun w'=>w'.cell? ⟨bx,0,none⟩=some (.int .i64 L[k].1)/\w'.cell? ⟨bx,1,none⟩=some (.int .i64 L[k].2)/\w'.cell? ⟨tb,1,none⟩=some (.int .i64 a0c)/\Below X.heap.size X w')
     (first
      |exact⟨x0,x1,xu,a0q _⟩
      |(go_split_ands;exact⟨a0a hbf (by assumption),a0a hbf (by assumption),a0a hbf (by assumption),a0j (by assumption) hbf (zq _)⟩))
     (first
      |(go_at_call 153;go_split_ands;refine (CC.out _ (a0j HX.out (by assumption) (zq _))).mono ?_;rintro e w4 ⟨rfl,hbf⟩))
    have HF:=a0b (a0j HX.out (by go_split_ands;assumption:Below X.heap.size X w4) (zq _));clear CM CC HX HB x0 x1 xu hbf
    go_wp2_with fail
   ·go_roundw
    case rel=>exact⟨k+1,by omega,by go_num,by rw[ET.out,HH.out,EM.out];simpa using hc,HF.out⟩
    case measure=>simp[intOf];omega
   ·go_ret;refine⟨a2C ?_,HF.out⟩;have:a2V A a0c L=(a2V A a0c (L.take (k+1)) && a2V A a0c (L.drop (k+1))):=by unfold a2V;rw[<- List.all_append,List.take_append_drop]
    rw[this,ET.out,HH.out,EM.out];have hd:decide (m<=a0c)=false:=decide_eq_false (by omega);rw[hd];rfl
  ·have e:L.take k=L:=List.take_of_length_le (by omega);have hi:¬ (k:Int)<(L.length:Int):=by omega
   go_wp2_with fail
   go_ret;exact⟨a2C (by rw[<- e];exact HH.out.symm),hb⟩
structure ENT(w:World)(eb:Nat)(id:Int)(tb:Nat)(a0c:Int)(B cap:Nat)(L:List (Int × Int)):Prop where
 c0:w.cell? ⟨eb,0,none⟩=some (.int .i64 id)
 c1:w.cell? ⟨eb,2,none⟩=some (.pointer (some ⟨tb,0,none⟩))
 c2:w.cell? ⟨eb,3,none⟩=some (.int .i64 a0c)
 c3:w.cell? ⟨eb,4,none⟩=some (.slice (some ⟨B,0,none⟩) L.length cap)
 sl:SL w B L
 lt:B<w.heap.size
theorem ENT.off{a0c:Int}(h:ENT w eb id tb a0c B cap L)(k:Off G w w')(h1:eb ∉ G)(h2:B ∉ G):ENT w' eb id tb a0c B cap L :=
 ⟨k.cell h1 h.c0,k.cell h1 h.c1,k.cell h1 h.c2,k.cell h1 h.c3,h.sl.off k h2,Nat.lt_of_lt_of_le h.lt k.size⟩
structure Now(w wx:World)(tb:Nat)(name:ByteArray)(a0c:Int)(A:List Bool->Int)(T:Avl.S)(F:List Nat):Prop where
 th:∃ (ul us:Option Addr) (Fl Fs:List Nat),TH wx tb name a0c A T ul us Fl Fs/\∀ k∈Fl++Fs,k∈F\/w.heap.size<=k
 off:Off (tb :: F) w wx
theorem Now.later{a0c:Int}{T:Avl.S}(h:Now w wx tb name a0c A T F)(k:Off [] wx wy):Now w wy tb name a0c A T F:=by
 obtain⟨ul,us,Fl,Fs,h1,h2⟩:=h.th;exact⟨⟨ul,us,Fl,Fs,h1.same k,h2⟩,h.off.trans' k (by simp)⟩
theorem Now.addedL{a0c:Int}{T:Avl.S}(h:Now w wx tb name a0c A T F)(h2:∀ k∈Fl++Fs,k∈F\/w.heap.size<=k)(k:∃ ul' Fl',TH wy tb name a0c A' T ul' us Fl' Fs/\∀ k∈Fl',k∈Fl\/wx.heap.size<=k)(ko:Off (tb :: Fl) wx wy):Now w wy tb name a0c A' T F:=by
 obtain⟨ul',Fl',t1,t2⟩:=k;have z:=h.off.size;refine⟨⟨ul',us,Fl',Fs,t1,fun k hk=>?_⟩,h.off.trans' ko (fun k hk=>?_)⟩
 ·rcases List.mem_append.1 hk with hk|hk
  ·rcases t2 k hk with e|e
   ·exact h2 k (by simp[e])
   ·exact .inr (by omega)
  ·exact h2 k (by simp[hk])
 ·rcases List.mem_cons.1 hk with rfl|hk
  ·exact .inl (by simp)
  ·rcases h2 k (by simp[hk]) with e|e
   ·exact .inl (by simp[e])
   ·exact .inr e
theorem Now.treed{a0c:Int}{T T':Avl.S}(h:Now w wx tb name a0c A T F)(h1:TH wx tb name a0c A T ul us Fl Fs)(h2:∀ k∈Fl++Fs,k∈F\/w.heap.size<=k)(k:a3i wx tb 3 Fs T' wy):Now w wy tb name a0c A T' F:=by
 obtain⟨us',Fs',t1,t2,t3⟩:=h1.treed k;have z:=h.off.size;refine⟨⟨ul,us',Fl,Fs',t1,fun k hk=>?_⟩,h.off.trans' t3 (fun k hk=>?_)⟩
 ·rcases List.mem_append.1 hk with hk|hk
  ·exact h2 k (by simp[hk])
  ·rcases t2 k hk with e|e
   ·exact h2 k (by simp[e])
   ·exact .inr (by omega)
 ·rcases List.mem_cons.1 hk with rfl|hk
  ·exact .inl (by simp)
  ·rcases h2 k (by simp[hk]) with e|e
   ·exact .inl (by simp[e])
   ·exact .inr e
def b2s(id:Int)(eb:Nat)(s:Int × Int):Avl.It:=⟨s.1,s.2,id,eb⟩
def a7e(id:Int)(eb:Nat):Avl.S->List (Int × Int)->Avl.S
 |T,[]=>T
 |T,s :: r=>a7e id eb (Avl.put (b2s id eb s) T) r
def a4w(id:Int):Avl.S->List (Int × Int)->Avl.S
 |T,[]=>T
 |T,s :: r=>a4w id (Avl.drop s.1 id T) r
theorem b2S(id:Int)(eb:Nat)(s:Int × Int):∀ (L:List (Int × Int))(T:Avl.S),a7e id eb T (L++[s])=Avl.put (b2s id eb s) (a7e id eb T L)
 |[],T=>rfl
 |t :: L,T=>by simp only[List.cons_append,a7e];exact b2S id eb s L _
theorem b0U(id:Int)(s:Int × Int):∀ (L:List (Int × Int))(T:Avl.S),a4w id T (L++[s])=Avl.drop s.1 id (a4w id T L)
 |[],T=>rfl
 |t :: L,T=>by simp only[List.cons_append,a4w];exact b0U id s L _
def c7m(id:Int)(eb:Nat):List Avl.It->List (Int × Int)->List Avl.It
 |l,[]=>l
 |l,s :: r=>c7m id eb (Avl.ins (b2s id eb s) l) r
theorem b4M(id:Int)(eb:Nat):∀ (L:List (Int × Int))(T:Avl.S),Avl.Ord (Avl.a0w T)->(∀ z∈Avl.a0w T,z.n=id->∀ s∈L,z.f≠s.1)->(L.map (·.1)).Nodup ->
  Avl.Ord (Avl.a0w (a7e id eb T L))/\Avl.a0w (a7e id eb T L)=c7m id eb (Avl.a0w T) L/\(∀ z,z∈Avl.a0w (a7e id eb T L)↔z∈Avl.a0w T\/∃ s∈L,z=b2s id eb s)/\Avl.size (a7e id eb T L)=Avl.size T+L.length
 |[],T,h,_,_=>⟨h,rfl,fun z=>by simp[a7e],by simp[a7e]⟩
 |s :: r,T,h,hn,hd=>by
  have hs:∀ z∈Avl.a0w T,¬ (z.f=(b2s id eb s).f/\z.n=(b2s id eb s).n):=fun z hz e=>hn z hz e.2 s (by simp) e.1
  have e1:=Avl.a9o (b2s id eb s) T h hs;have o1:Avl.Ord (Avl.a0w (Avl.put (b2s id eb s) T)):=by rw[e1];exact Avl.b9T h hs
  simp only[List.map_cons,List.nodup_cons] at hd
  have hn1:∀ z∈Avl.a0w (Avl.put (b2s id eb s) T),z.n=id->∀ t∈r,z.f≠t.1:=by
   intro z hz he t ht;rw[e1,Avl.b1I] at hz;rcases hz with rfl|hz
   ·intro e;exact hd.1 (List.mem_map.2 ⟨t,ht,e.symm⟩)
   ·exact hn z hz he t (by simp[ht])
  obtain⟨k1,k2,k3,k4⟩:=b4M id eb r _ o1 hn1 hd.2;refine⟨k1,by rw[a7e,k2,e1];rfl,fun z=>?_,?_⟩
  ·rw[a7e,k3,e1,Avl.b1I];constructor
   ·rintro ((h|h)|⟨t,ht,h⟩)
    ·exact .inr ⟨s,by simp,h⟩
    ·exact .inl h
    ·exact .inr ⟨t,by simp[ht],h⟩
   ·rintro (h|⟨t,ht,h⟩)
    ·exact .inl (.inr h)
    ·rcases List.mem_cons.1 ht with rfl|ht
     ·exact .inl (.inl h)
     ·exact .inr ⟨t,ht,h⟩
  ·rw[a7e,k4,<- Avl.a1k,<- Avl.a1k,e1,Avl.b0H,List.length_cons];omega
theorem b2d(id:Int):∀ (L:List (Int × Int))(T:Avl.S),Avl.Ord (Avl.a0w T) ->
  Avl.Ord (Avl.a0w (a4w id T L))/\Avl.a0w (a4w id T L)=(Avl.a0w T).filter (fun z=>L.all fun s=>Avl.a8n s.1 id z)/\Avl.size (a4w id T L)<=Avl.size T
 |[],T,h=>⟨h,(List.filter_eq_self.2 (fun _ _=>rfl)).symm,Nat.le_refl _⟩
 |s :: r,T,h=>by
  have e1:=Avl.a7E s.1 id T h;have o1:Avl.Ord (Avl.a0w (Avl.drop s.1 id T)):=by rw[e1];exact Avl.b0C _ h
  obtain⟨k1,k2,k3⟩:=b2d id r _ o1;refine⟨k1,?_,Nat.le_trans k3 (a4W _ _ _)⟩;rw[a4w,k2,e1,List.filter_filter]
  congr 1
  funext z
  simp only[List.all_cons];exact Bool.and_comm _ _
theorem b3Z(A:List Bool->Int)(L:List (Int × Int))(u:Int):a1z (a1z A L u) L (-u)=A:=by
 funext p;unfold a1z;rw[Int.neg_mul];omega
structure c6Q(w:World)(tb eb B cap:Nat)(name:ByteArray)(a0c:Int)(A:List Bool->Int)(T:Avl.S)(F:List Nat)(id u:Int)(L:List (Int × Int)):Prop where
 th:∃ (ul us:Option Addr) (Fl Fs:List Nat),TH w tb name a0c A T ul us Fl Fs/\∀ k∈Fl++Fs,k∈F
 en:ENT w eb id tb u B cap L
 ne:eb ∉ tb :: F
 nb:B ∉ tb :: F
 ok:c1P L
 bd:∀ p,0<=A p/\A p<=400000
 u1:1<=u
 u2:u<=9
 ll:L.length<=100
structure c7E(w wx:World)(tb eb B cap:Nat)(name:ByteArray)(a0c:Int)(A:List Bool->Int)(T:Avl.S)(F:List Nat)(id u:Int)(L:List (Int × Int)):Prop where
 now:Now w wx tb name a0c A T F
 en:ENT wx eb id tb u B cap L
theorem Now.pair{a0c:Int}{T:Avl.S}(h:Now w wx tb name a0c A T F)(he:ENT w eb id tb u B cap L)(h1:eb ∉ tb :: F)(h2:B ∉ tb :: F):c7E w wx tb eb B cap name a0c A T F id u L:=⟨h,he.off h.off h1 h2⟩
theorem c4h(h:∀ p,0<=A p/\A p<=400000)(u1:1<=u)(u2:u<=9)(hl:L.length<=100):∀ p,0<=a1z A L u p/\a1z A L u p<=500000:=by
 intro p;have a:=h p;have b:=b3P L p;have c:0<=u*cnt L p:=Int.mul_nonneg (by omega) b.1;have d:u*cnt L p<=9*100:=Int.mul_le_mul u2 (by omega) b.1 (by omega);unfold a1z;omega
theorem b2o(w:World)(tb eb B cap:Nat)(name:ByteArray)(a0c:Int)(A A1:List Bool->Int)(T:Avl.S)(F:List Nat)(id u x:Int)(L:List (Int × Int))(he:ENT w eb id tb u B cap L)(hne:eb ∉ tb :: F)(hnb:B ∉ tb :: F)(hok:c1P L)(hA:∀ p,0<=A p/\A p<=500000)(hA2:∀ p,0<=a1z A L x p)(hx1:-9<=x)(hx2:x<=9)(hL:L.length<=100)(e1:a1z A L x=A1)(wx:World)(hn:Now w wx tb name a0c A T F):
  Calls Tryz.prog 157 #[.pointer (some ⟨tb,0,none⟩),.slice (some ⟨B,0,none⟩) L.length cap,.int .i64 x] wx fun e w'=>e=.returned (.tuple #[])/\Now w w' tb name a0c A1 T F:=by
 obtain⟨ul,us,Fl,Fs,h1,h2⟩:=hn.th;have hx:=hn.pair he hne hnb
 have hb:B ∉ tb :: Fl:=by
  intro e;rcases List.mem_cons.1 e with e|e
  ·exact hnb (by simp[e])
  ·rcases h2 B (by simp[e]) with e|e
   ·exact hnb (by simp[e])
   ·have:=he.lt;omega
 refine (c2i wx tb B cap name a0c A T ul us Fl Fs L x h1 hx.en.sl hok hb hx.en.lt hA hA2 hx1 hx2 hL).mono ?_;rintro e w' ⟨rfl,k1,k2⟩;rw[e1] at k1;exact⟨rfl,hn.addedL h2 k1 k2⟩
theorem c4y(w:World)(tb eb B cap:Nat)(name:ByteArray)(a0c:Int)(A:List Bool->Int)(T:Avl.S)(F:List Nat)(id u:Int)(L:List (Int × Int))(h:c6Q w tb eb B cap name a0c A T F id u L)(hno:a2V (a1z A L u) a0c L=false):
  Calls Tryz.prog 104 #[.pointer (some ⟨tb,0,none⟩),.pointer (some ⟨eb,0,none⟩)] w fun e w'=>e=.returned (.bool false)/\Now w w' tb name a0c A T F:=by
 have hcap:=c4h h.bd h.u1 h.u2 h.ll;have C1:=a0b (b2o w tb eb B cap name a0c A (a1z A L u) T F id u u L h.en h.ne h.nb h.ok (fun p=>⟨(h.bd p).1,by have:=(h.bd p).2;omega⟩) (fun p=>(hcap p).1) (by have:=h.u1;omega) h.u2 h.ll rfl);have C2:=a0b (b2o w tb eb B cap name a0c (a1z A L u) A T F id u (-u) L h.en h.ne h.nb h.ok hcap (fun p=>by rw[b3Z];exact (h.bd p).1) (by have:=h.u2;omega) (by have:=h.u1;omega) h.ll (b3Z A L u))
 have CH:Hid (∀ wx,Now w wx tb name a0c (a1z A L u) T F->Calls Tryz.prog 158 #[.pointer (some ⟨tb,0,none⟩),.slice (some ⟨B,0,none⟩) L.length cap] wx fun e w'=>e=.returned (.bool false)/\Now w w' tb name a0c (a1z A L u) T F):=by
  intro wx hn;obtain⟨ul,us,Fl,Fs,h1,h2⟩:=hn.th;refine (b3v wx tb B cap name a0c _ T ul us Fl Fs L h1 (hn.pair h.en h.ne h.nb).en.sl h.ok (fun p=>⟨(hcap p).1,by have:=(hcap p).2;omega⟩) h.ll).mono ?_;rintro e w' ⟨rfl,hb⟩;rw[hno];exact⟨rfl,hn.later (Off.of_below hb)⟩
 have P:Hid (∀ wx A',Now w wx tb name a0c A' T F->wx.cell? ⟨eb,4,none⟩=some (.slice (some ⟨B,0,none⟩) L.length cap)/\wx.cell? ⟨eb,3,none⟩=some (.int .i64 u)) :=
  fun wx A' hn=>⟨(hn.pair h.en h.ne h.nb).en.c3,(hn.pair h.en h.ne h.nb).en.c2⟩
 have hn0:Now w w.drew tb name a0c A T F:=by
  obtain⟨ul,us,Fl,Fs,h1,h2⟩:=h.th;exact⟨⟨ul,us,Fl,Fs,h1.same (Off.refl _ _).drew,fun k hk=>.inl (h2 k hk)⟩,(Off.refl _ _).drew⟩
 have N0:=a0b hn0;have c3:=h.en.c3;have c2:=h.en.c2;have u1:=h.u1;have u2:=h.u2;have hneg:IntKind.i64.wrap (-u)=-u:=a0i (by omega) (by omega);clear h hcap hno hn0
 go_enter Tryz.func104,Tryz.ntmps104
 go_upto_region 1 with fail
 go_region_held3 (fun w'=>w'.cell? ⟨eb,4,none⟩=some (.slice (some ⟨B,0,none⟩) L.length cap)/\w'.cell? ⟨eb,3,none⟩=some (.int .i64 u))
  (first
   |exact⟨c3,c2⟩
   |exact P.out _ _ k1)
  (first
   |(go_at_call 157;refine (C1.out _ N0.out).mono ?_;rintro e w4 ⟨rfl,k1⟩))
 obtain⟨d3,d2⟩:=P.out _ _ k1;have K1:=a0b k1;clear k1 C1 N0 c3 c2
 go_wp2_with fail
 refine (CH.out _ K1.out).mono ?_;rintro e w5 ⟨rfl,k2⟩;obtain⟨f3,f2⟩:=P.out _ _ k2;have K2:=a0b (k2.later (Off.refl _ _).drew);have K3:=a0b k2;clear k2 CH d3 d2
 go_upto_region 3 with fail
 go_region_held3 (fun w'=>w'.cell? ⟨eb,4,none⟩=some (.slice (some ⟨B,0,none⟩) L.length cap)/\w'.cell? ⟨eb,3,none⟩=some (.int .i64 u))
  (first
   |exact⟨f3,f2⟩
   |exact P.out _ _ k1)
  (first
   |(go_at_call 157;refine (C2.out _ K2.out).mono ?_;rintro e w6 ⟨rfl,k1⟩))
 have K4:=a0b k1;clear k1 C2 K1 K2 K3 f3 f2 P
 go_wp2_with fail
 go_ret;exact⟨rfl,K4.out⟩
structure c3L(T:Avl.S)(id:Int)(L:List (Int × Int)):Prop where
 od:Avl.Ord (Avl.a0w T)
 sz:Avl.size T<=9000
 no:∀ z∈Avl.a0w T,z.n=id->∀ s∈L,z.f≠s.1
 nd:(L.map (·.1)).Nodup
theorem a3i.off{t':Avl.S}(h:a3i w tb o F t' w'):Off (tb :: F) w w':=by
 obtain⟨_,_,_,_,_,h,_⟩:=h;exact h
theorem c2A(tb eb:Nat)(name:ByteArray)(a0c:Int)(A:List Bool->Int)(T:Avl.S)(id:Int)(L:List (Int × Int))(hr:c3L T id L)(hl:L.length<=100)(k:Nat)(hk:k<L.length)(ul us:Option Addr)(Fl Fs:List Nat)(wx:World)(h1:TH wx tb name a0c A (a7e id eb T (L.take k)) ul us Fl Fs):
  Calls Tryz.prog 159 #[.pointer (some ⟨tb,3,none⟩),.int .i64 L[k].1,.int .i64 L[k].2,.int .i64 id,.pointer (some ⟨eb,0,none⟩)] wx fun e w'=>e=.returned (.tuple #[])/\a3i wx tb 3 Fs (a7e id eb T (L.take (k+1))) w':=by
 have hnd:((L.take k).map (·.1)).Nodup:=List.Sublist.nodup ((List.take_sublist k L).map _) hr.nd;obtain⟨p1,_,p3,p4⟩:=b4M id eb (L.take k) T hr.od (fun z hz he s hs=>hr.no z hz he s (List.mem_of_mem_take hs)) hnd;have hlen:=List.length_take_le k L;have hlen2:(L.take k).length<=100:=by omega
 have e:a7e id eb T (L.take (k+1))=Avl.put (b2s id eb L[k]) (a7e id eb T (L.take k)):=by rw[List.take_succ_eq_append_getElem hk,b2S]
 have hz:=hr.sz
 have hnot:∀ z∈Avl.a0w (a7e id eb T (L.take k)),¬ (z.f=(b2s id eb L[k]).f/\z.n=(b2s id eb L[k]).n):=by
  intro z hz ⟨e1,e2⟩;rcases (p3 z).1 hz with hz|⟨s,hs,rfl⟩
  ·exact hr.no z hz e2 L[k] (zg hk) e1
  ·have hd:=hr.nd
   have hsplit:(L.take (k+1)).map (·.1)=(L.take k).map (·.1)++[L[k].1]:=by rw[List.take_succ_eq_append_getElem hk,List.map_append];rfl
   have hd':((L.take (k+1)).map (·.1)).Nodup:=List.Sublist.nodup ((List.take_sublist (k+1) L).map _) hr.nd;rw[hsplit,List.nodup_append] at hd';exact hd'.2.2 s.1 (List.mem_map.2 ⟨s,hs,rfl⟩) L[k].1 (by simp) e1
 refine (c5H (a7e id eb T (L.take k)) tb 3 us Fs (b2s id eb L[k]) wx h1.c3 (h1.fz 3) h1.ns h1.sp (by omega) hnot).mono ?_;rintro e' w' ⟨rfl,k1⟩;rw[e];exact⟨rfl,k1⟩
theorem c0X(tb:Nat)(name:ByteArray)(a0c:Int)(A:List Bool->Int)(T:Avl.S)(id:Int)(L:List (Int × Int))(ho:Avl.Ord (Avl.a0w T))(hz:Avl.size T<=9000)(k:Nat)(hk:k<L.length)(ul us:Option Addr)(Fl Fs:List Nat)(wx:World)(h1:TH wx tb name a0c A (a4w id T (L.take k)) ul us Fl Fs):
  Calls Tryz.prog 253 #[.pointer (some ⟨tb,3,none⟩),.int .i64 L[k].1,.int .i64 id] wx fun e w'=>e=.returned (.tuple #[])/\a3i wx tb 3 Fs (a4w id T (L.take (k+1))) w':=by
 obtain⟨_,_,p3⟩:=b2d id (L.take k) T ho;have e:a4w id T (L.take (k+1))=Avl.drop L[k].1 id (a4w id T (L.take k)):=by rw[List.take_succ_eq_append_getElem hk,b0U]
 refine (c3N (a4w id T (L.take k)) tb 3 us Fs L[k].1 id wx h1.c3 (h1.fz 3) h1.ns h1.sp (by omega)).mono ?_;rintro e' w' ⟨rfl,k1⟩;rw[e];exact⟨rfl,k1⟩
theorem c2f(w:World)(tb eb B cap:Nat)(name:ByteArray)(a0c:Int)(A:List Bool->Int)(T:Avl.S)(F:List Nat)(id u:Int)(L:List (Int × Int))(h:c6Q w tb eb B cap name a0c A T F id u L)(hr:c3L T id L)(hyes:a2V (a1z A L u) a0c L=true):
  Calls Tryz.prog 104 #[.pointer (some ⟨tb,0,none⟩),.pointer (some ⟨eb,0,none⟩)] w fun e w'=>e=.returned (.bool true)/\Now w w' tb name a0c (a1z A L u) (a7e id eb T L) F:=by
 have hcap:=c4h h.bd h.u1 h.u2 h.ll;have C1:=a0b (b2o w tb eb B cap name a0c A (a1z A L u) T F id u u L h.en h.ne h.nb h.ok (fun p=>⟨(h.bd p).1,by have:=(h.bd p).2;omega⟩) (fun p=>(hcap p).1) (by have:=h.u1;omega) h.u2 h.ll rfl)
 have CH:Hid (∀ wx,Now w wx tb name a0c (a1z A L u) T F->Calls Tryz.prog 158 #[.pointer (some ⟨tb,0,none⟩),.slice (some ⟨B,0,none⟩) L.length cap] wx fun e w'=>e=.returned (.bool true)/\Now w w' tb name a0c (a1z A L u) T F):=by
  intro wx hn;obtain⟨ul,us,Fl,Fs,h1,h2⟩:=hn.th;refine (b3v wx tb B cap name a0c _ T ul us Fl Fs L h1 (hn.pair h.en h.ne h.nb).en.sl h.ok (fun p=>⟨(hcap p).1,by have:=(hcap p).2;omega⟩) h.ll).mono ?_;rintro e w' ⟨rfl,hb⟩;rw[hyes];exact⟨rfl,hn.later (Off.of_below hb)⟩
 have P:Hid (∀ wx A' T',Now w wx tb name a0c A' T' F->ENT wx eb id tb u B cap L):=fun wx A' T' hn=>(hn.pair h.en h.ne h.nb).en
 have PC:Hid (∀ wx A' T',Now w wx tb name a0c A' T' F->wx.cell? ⟨eb,4,none⟩=some (.slice (some ⟨B,0,none⟩) L.length cap)/\wx.cell? ⟨eb,3,none⟩=some (.int .i64 u)):=fun wx A' T' hn=>⟨(P.out wx A' T' hn).c3,(P.out wx A' T' hn).c2⟩
 have hn0:Now w w.drew tb name a0c A T F:=by
  obtain⟨ul,us,Fl,Fs,h1,h2⟩:=h.th;exact⟨⟨ul,us,Fl,Fs,h1.same (Off.refl _ _).drew,fun k hk=>.inl (h2 k hk)⟩,(Off.refl _ _).drew⟩
 have N0:=a0b hn0;have CP:=a0b (fun k hk ul us Fl Fs wx hn=>c2A tb eb name a0c (a1z A L u) T id L hr h.ll k hk ul us Fl Fs wx hn);have c3:=h.en.c3;have c2:=h.en.c2;have ll:=h.ll;have OUT:=a0b (zA h.ne h.nb);have EBLT:Hid (eb<w.heap.size):=World.block_lt_of_cell? _ _ h.en.c0;clear h hcap hyes hn0 hr;generalize a1z A L u=A1 at *
 go_enter Tryz.func104,Tryz.ntmps104
 go_upto_region 1 with fail
 go_region_held3 (fun w'=>w'.cell? ⟨eb,4,none⟩=some (.slice (some ⟨B,0,none⟩) L.length cap)/\w'.cell? ⟨eb,3,none⟩=some (.int .i64 u))
  (first
   |exact⟨c3,c2⟩
   |exact PC.out _ _ _ k1)
  (first
   |(go_at_call 157;refine (C1.out _ N0.out).mono ?_;rintro e w4 ⟨rfl,k1⟩))
 obtain⟨d3,d2⟩:=PC.out _ _ _ k1;have K1:=a0b k1;clear k1 C1 N0 c3 c2
 go_wp2_with fail
 refine (CH.out _ K1.out).mono ?_;rintro e w5 ⟨rfl,k2⟩;obtain⟨f3,f2⟩:=PC.out _ _ _ k2;have K3:=a0b k2;clear k2 CH d3 d2 K1
 go_wp2_with fail
 go_loopw [6,40] (fun _ i wx=>∃ k:Nat,k<=L.length/\i=.int .i64 k/\Now w wx tb name a0c A1 (a7e id eb T (L.take k)) F) (fun _ i _=>L.length-(intOf i).toNat)
 case atStart=>exact⟨0,Nat.zero_le _,rfl,K3.out⟩
 case round =>
  obtain⟨k,hk,rfl,hN⟩:=hrel;clear f3 f2
  by_cases hlt:k<L.length
  ·have he:=P.out _ _ _ hN;have c1:=(he.sl k hlt).1;have c2:=(he.sl k hlt).2;have c0:=he.c0;have hi:(k:Int)<(L.length:Int):=by omega
   obtain⟨ul,us,Fl,Fs,h1,h2⟩:=hN.th;have HN:=a0b hN;have H1:=a0b h1;have H2:=a0b h2;clear he hN h1 h2
   go_upto_region 8 with fail
   have hX:Off [] wr (wr.alloc (.cells #[.int .i64 L[k].1,.int .i64 L[k].2] 60)):=(Off.refl _ _).alloc _;have x0:(wr.alloc (.cells #[.int .i64 L[k].1,.int .i64 L[k].2] 60)).cell? ⟨wr.heap.size,0,none⟩=some (.int .i64 L[k].1):=by simp
   have x1:(wr.alloc (.cells #[.int .i64 L[k].1,.int .i64 L[k].2] 60)).cell? ⟨wr.heap.size,1,none⟩=some (.int .i64 L[k].2):=by simp
   have x2:=hX.cell (by simp) c0;have NX:=a0b (HN.out.later hX.drew);have TX:=a0b (H1.out.same hX.drew);have PX:=a0b (CP.out k hlt _ _ _ _ _ TX.out);have hnb:wr.heap.size ∉ tb :: Fs:=fun e=>by have:=H1.out.lt wr.heap.size (by simp only[List.mem_cons,List.mem_append] at e ⊢;grind);omega
   have HNB:=a0b hnb
   have hne:eb ∉ tb :: Fs:=by
    intro e;rcases List.mem_cons.1 e with e|e
    ·exact OUT.out.1 (by simp[e])
    ·rcases H2.out eb (by simp[e]) with e|e
     ·exact OUT.out.1 (by simp[e])
     ·have:=EBLT.out;omega
   have HNE:=a0b hne;clear hX c0 c1 c2 hnb hne HN;generalize (World.alloc wr (.cells #[.int .i64 L[k].1,.int .i64 L[k].2] 60))=X at x0 x1 x2 NX TX PX ⊢;generalize wr.heap.size=bx at x0 x1 HNB ⊢
   go_region_held3 (fun w'=>w'.cell? ⟨bx,0,none⟩=some (.int .i64 L[k].1)/\w'.cell? ⟨bx,1,none⟩=some (.int .i64 L[k].2)/\w'.cell? ⟨eb,0,none⟩=some (.int .i64 id))
    (first
     |exact⟨x0,x1,x2⟩
     |exact⟨k1.off.cell HNB.out x0,k1.off.cell HNB.out x1,k1.off.cell HNE.out x2⟩)
    (first
     |(go_at_call 159;refine PX.out.mono ?_;rintro e w6 ⟨rfl,k1⟩))
   have HK:=a0b (NX.out.treed TX.out H2.out k1);clear k1 NX TX PX H1 H2 HNB HNE CP PC P x0 x1 x2
   go_wp2_with fail
   go_roundw
   case rel=>exact⟨k+1,by omega,by go_num,HK.out⟩
   case measure=>simp[intOf];omega
  ·have e:L.take k=L:=List.take_of_length_le (by omega);rw[e] at hN;have HN:=a0b hN;have hi:¬ (k:Int)<(L.length:Int):=by omega
   clear hN
   go_wp2_with fail
   go_ret;exact⟨rfl,HN.out⟩
theorem b4K(w:World)(tb eb B cap:Nat)(name:ByteArray)(a0c:Int)(A:List Bool->Int)(T:Avl.S)(F:List Nat)(id u:Int)(L:List (Int × Int))(h:c6Q w tb eb B cap name a0c A T F id u L)(ho:Avl.Ord (Avl.a0w T))(hz:Avl.size T<=9000)(hA:∀ p,0<=a1z A L (-u) p):
  Calls Tryz.prog 205 #[.pointer (some ⟨tb,0,none⟩),.pointer (some ⟨eb,0,none⟩)] w fun e w'=>e=.returned (.tuple #[])/\Now w w' tb name a0c (a1z A L (-u)) (a4w id T L) F:=by
 have C1:=a0b (b2o w tb eb B cap name a0c A (a1z A L (-u)) T F id u (-u) L h.en h.ne h.nb h.ok (fun p=>⟨(h.bd p).1,by have:=(h.bd p).2;omega⟩) hA (by have:=h.u2;omega) (by have:=h.u1;omega) h.ll rfl);have P:Hid (∀ wx A' T',Now w wx tb name a0c A' T' F->ENT wx eb id tb u B cap L):=fun wx A' T' hn=>(hn.pair h.en h.ne h.nb).en
 have PC:Hid (∀ wx A' T',Now w wx tb name a0c A' T' F->wx.cell? ⟨eb,4,none⟩=some (.slice (some ⟨B,0,none⟩) L.length cap)/\wx.cell? ⟨eb,3,none⟩=some (.int .i64 u)):=fun wx A' T' hn=>⟨(P.out wx A' T' hn).c3,(P.out wx A' T' hn).c2⟩
 have hn0:Now w w.drew tb name a0c A T F:=by
  obtain⟨ul,us,Fl,Fs,h1,h2⟩:=h.th;exact⟨⟨ul,us,Fl,Fs,h1.same (Off.refl _ _).drew,fun k hk=>.inl (h2 k hk)⟩,(Off.refl _ _).drew⟩
 have N0:=a0b hn0;have CP:=a0b (fun k hk ul us Fl Fs wx hn=>c0X tb name a0c (a1z A L (-u)) T id L ho hz k hk ul us Fl Fs wx hn);have c3:=h.en.c3;have c2:=h.en.c2;have ll:=h.ll;have u1:=h.u1;have u2:=h.u2;have hneg:IntKind.i64.wrap (-u)=-u:=a0i (by omega) (by omega);have OUT:=a0b (zA h.ne h.nb);have EBLT:Hid (eb<w.heap.size):=World.block_lt_of_cell? _ _ h.en.c0;clear h hn0 ho hz hA;generalize a1z A L (-u)=A1 at *
 go_enter Tryz.func205,Tryz.ntmps205
 go_upto_region 0 with fail
 go_region_held3 (fun w'=>w'.cell? ⟨eb,4,none⟩=some (.slice (some ⟨B,0,none⟩) L.length cap)/\w'.cell? ⟨eb,3,none⟩=some (.int .i64 u))
  (first
   |exact⟨c3,c2⟩
   |exact PC.out _ _ _ k1)
  (first
   |(go_at_call 157;refine (C1.out _ N0.out).mono ?_;rintro e w4 ⟨rfl,k1⟩))
 obtain⟨f3,f2⟩:=PC.out _ _ _ k1;have K3:=a0b k1;clear k1 C1 N0 c3 c2
 go_wp2_with fail
 go_loopw [5,22] (fun _ i wx=>∃ k:Nat,k<=L.length/\i=.int .i64 k/\Now w wx tb name a0c A1 (a4w id T (L.take k)) F) (fun _ i _=>L.length-(intOf i).toNat)
 case atStart=>exact⟨0,Nat.zero_le _,rfl,K3.out⟩
 case round =>
  obtain⟨k,hk,rfl,hN⟩:=hrel;clear f3 f2
  by_cases hlt:k<L.length
  ·have he:=P.out _ _ _ hN;have c1:=(he.sl k hlt).1;have c2:=(he.sl k hlt).2;have c0:=he.c0;have hi:(k:Int)<(L.length:Int):=by omega
   obtain⟨ul,us,Fl,Fs,h1,h2⟩:=hN.th;have HN:=a0b hN;have H1:=a0b h1;have H2:=a0b h2;clear he hN h1 h2
   go_upto_region 4 with fail
   have hX:Off [] wr (wr.alloc (.cells #[.int .i64 L[k].1,.int .i64 L[k].2] 60)):=(Off.refl _ _).alloc _;have x0:(wr.alloc (.cells #[.int .i64 L[k].1,.int .i64 L[k].2] 60)).cell? ⟨wr.heap.size,0,none⟩=some (.int .i64 L[k].1):=by simp
   have x1:(wr.alloc (.cells #[.int .i64 L[k].1,.int .i64 L[k].2] 60)).cell? ⟨wr.heap.size,1,none⟩=some (.int .i64 L[k].2):=by simp
   have x2:=hX.cell (by simp) c0;have NX:=a0b (HN.out.later hX.drew);have TX:=a0b (H1.out.same hX.drew);have PX:=a0b (CP.out k hlt _ _ _ _ _ TX.out);have hnb:wr.heap.size ∉ tb :: Fs:=fun e=>by have:=H1.out.lt wr.heap.size (by simp only[List.mem_cons,List.mem_append] at e ⊢;grind);omega
   have HNB:=a0b hnb
   have hne:eb ∉ tb :: Fs:=by
    intro e;rcases List.mem_cons.1 e with e|e
    ·exact OUT.out.1 (by simp[e])
    ·rcases H2.out eb (by simp[e]) with e|e
     ·exact OUT.out.1 (by simp[e])
     ·have:=EBLT.out;omega
   have HNE:=a0b hne;clear hX c0 c1 c2 hnb hne HN;generalize (World.alloc wr (.cells #[.int .i64 L[k].1,.int .i64 L[k].2] 60))=X at x0 x1 x2 NX TX PX ⊢;generalize wr.heap.size=bx at x0 x1 HNB ⊢
   go_region_held3 (fun w'=>w'.cell? ⟨bx,0,none⟩=some (.int .i64 L[k].1)/\w'.cell? ⟨bx,1,none⟩=some (.int .i64 L[k].2)/\w'.cell? ⟨eb,0,none⟩=some (.int .i64 id))
    (first
     |exact⟨x0,x1,x2⟩
     |exact⟨k1.off.cell HNB.out x0,k1.off.cell HNB.out x1,k1.off.cell HNE.out x2⟩)
    (first
     |(go_at_call 253;refine PX.out.mono ?_;rintro e w6 ⟨rfl,k1⟩))
   have HK:=a0b (NX.out.treed TX.out H2.out k1);clear k1 NX TX PX H1 H2 HNB HNE CP PC P x0 x1 x2
   go_wp2_with fail
   go_roundw
   case rel=>exact⟨k+1,by omega,by go_num,HK.out⟩
   case measure=>simp[intOf];omega
  ·have e:L.take k=L:=List.take_of_length_le (by omega);rw[e] at hN;have HN:=a0b hN;have hi:¬ (k:Int)<(L.length:Int):=by omega
   clear hN
   go_wp2_with fail
   go_end0
   exact⟨rfl,HN.out⟩
namespace Hp
structure Hi where
 t:Int
 n:Int
 v:Nat
def ahead(x y:Hi):Prop:=x.t<y.t\/(x.t=y.t/\x.n<y.n)
instance (x y:Hi):Decidable (ahead x y):=by unfold ahead;infer_instance
theorem a5b{x y z:Hi}(h:¬ ahead x y)(k:¬ ahead y z):¬ ahead x z:=by unfold ahead at *;omega
theorem c0j{x y:Hi}(h:ahead x y):¬ ahead y x:=by unfold ahead at *;omega
theorem b6B(x:Hi):¬ ahead x x:=by unfold ahead;omega
def at_(l:List Hi)(i:Nat):Hi:=l.getD i ⟨0,0,0⟩
theorem a4H{l:List Hi}(h:i<l.length):at_ l i=l[i]:=by simp[at_,List.getD,h]
theorem b7r{l:List Hi}{x:Hi}:at_ (l.set i x) j=if i=j/\i<l.length then x else at_ l j:=by
 unfold at_ List.getD;rw[List.getElem?_set]
 by_cases h:i=j
 ·subst h
  by_cases k:i<l.length
  ·simp[k]
  ·simp[k]
 ·simp[h]
def par(i:Nat):Nat:=(i-1) / 2
def ok(l:List Hi)(i:Nat):Prop:=¬ ahead (at_ l i) (at_ l (par i))
def a6r(l:List Hi):Prop:=∀ i,0<i->i<l.length->ok l i
def swap(l:List Hi)(i j:Nat):List Hi:=(l.set i (at_ l j)).set j (at_ l i)
theorem a3G{l:List Hi}:(swap l i j).length=l.length:=by simp[swap]
theorem a6x{l:List Hi}(hi:i<l.length)(hj:j<l.length):(swap l i j).Perm l:=by
 unfold swap;rw[a4H hi,a4H hj];exact List.set_set_perm hi hj
theorem a3t{l:List Hi}(hi:i<l.length)(hj:j<l.length)(k:Nat):at_ (swap l i j) k=if k=j then at_ l i else if k=i then at_ l j else at_ l k:=by
 unfold swap;rw[b7r,b7r]
 by_cases h1:k=j
 ·subst h1;rw[if_pos ⟨rfl,by simpa using hj⟩,if_pos rfl]
 ·rw[if_neg (fun e=>h1 e.1.symm),if_neg h1]
  by_cases h2:k=i
  ·subst h2;rw[if_pos ⟨rfl,hi⟩,if_pos rfl]
  ·rw[if_neg (fun e=>h2 e.1.symm),if_neg h2]
structure a3T(l:List Hi)(p:Nat):Prop where
 o:∀ i,0<i->i<l.length->i≠p->ok l i
 c:0<p->∀ i,0<i->i<l.length->par i=p->¬ ahead (at_ l i) (at_ l (par p))
theorem a3T.done{l:List Hi}(h:a3T l p)(k:p=0\/¬ ahead (at_ l p) (at_ l (par p))):a6r l:=by
 intro i h0 hi
 by_cases e:i=p
 ·subst e;rcases k with k|k
  ·omega
  ·exact k
 ·exact h.o i h0 hi e
theorem a3T.step{l:List Hi}(h:a3T l p)(hp:p<l.length)(h0:0<p)(k:ahead (at_ l p) (at_ l (par p))):a3T (swap l p (par p)) (par p):=by
 have hq:par p<p:=by unfold par;omega
 have hql:par p<l.length:=by omega
 refine⟨fun i i0 hi hne=>?_,fun q0 i i0 hi he=>?_⟩
 ·rw[a3G] at hi;unfold ok;rw[a3t hp hql,a3t hp hql,if_neg hne]
  by_cases e:i=p
  ·subst e;rw[if_pos rfl,if_pos rfl];exact c0j k
  ·rw[if_neg e]
   by_cases e1:par i=par p
   ·rw[if_pos e1];have:=h.o i i0 hi e;unfold ok at this;rw[e1] at this;exact a5b this (c0j k)
   ·rw[if_neg e1]
    by_cases e2:par i=p
    ·rw[if_pos e2];exact h.c h0 i i0 hi e2
    ·rw[if_neg e2];exact h.o i i0 hi e
 ·rw[a3G] at hi
  have hqq:par (par p)<par p:=by
   have:par (par p)=(par p-1) / 2:=rfl;omega
  rw[a3t hp hql,a3t hp hql,if_neg (show par (par p)≠par p by omega),if_neg (show par (par p)≠p by omega)];have hqok:=h.o (par p) q0 hql (by omega);unfold ok at hqok
  by_cases e:i=par p
  ·rw[e] at he;omega
  ·rw[if_neg e]
   by_cases e1:i=p
   ·subst e1;rw[if_pos rfl];exact hqok
   ·rw[if_neg e1];have:=h.o i i0 hi e1;unfold ok at this;rw[he] at this;exact a5b this hqok
theorem c2v{l:List Hi}{x:Hi}(h:a6r l):a3T (l++[x]) l.length:=by
 have e:∀ i,i<l.length->at_ (l++[x]) i=at_ l i:=by
  intro i hi;unfold at_ List.getD;rw[List.getElem?_append_left hi]
 refine⟨fun i i0 hi hne=>?_,fun _ i i0 hi he=>?_⟩
 ·simp at hi;unfold ok;rw[e i (by omega),e (par i) (by unfold par;omega)];exact h i i0 (by omega)
 ·simp at hi;unfold par at he;omega
structure a5l(l:List Hi)(q p:Nat):Prop where
 qp:q<=p
 a:∀ i,0<i->i<l.length->i≠q->par i≠p->ok l i
 b:0<p->∀ i,0<i->i<l.length->par i=p->¬ ahead (at_ l i) (at_ l (par p))
 d:p≠q->0<q->ok l q
theorem a5l.done{l:List Hi}(h:a5l l q p)(hq:q<l.length)(k:∀ i,0<i->i<l.length->par i=p->¬ ahead (at_ l i) (at_ l p)):a3T l q:=by
 have o:∀ i,0<i->i<l.length->i≠q->ok l i:=by
  intro i i0 hi hne
  by_cases e:par i=p
  ·unfold ok;rw[e];exact k i i0 hi e
  ·exact h.a i i0 hi hne e
 refine⟨o,fun q0 i i0 hi he=>?_⟩
 by_cases e:p=q
 ·subst e;exact h.b q0 i i0 hi he
 ·have h1:=h.d e q0;have h2:=o i i0 hi (by intro e;subst e;unfold par at he;omega);unfold ok at h1 h2;rw[he] at h2;exact a5b h2 h1
theorem a5l.step{l:List Hi}{c:Nat}(h:a5l l q p)(c0:0<c)(hc:c<l.length)(hpc:par c=p)(k:ahead (at_ l c) (at_ l p))(kk:∀ i,0<i->i<l.length->par i=p->¬ ahead (at_ l i) (at_ l c)):a5l (swap l p c) q c:=by
 have hlt:p<c:=by unfold par at hpc;omega
 have hp:p<l.length:=by omega
 have qp:=h.qp;refine⟨by omega,fun i i0 hi hne hnc=>?_,fun _ i i0 hi he=>?_,fun _ q0=>?_⟩
 ·rw[a3G] at hi;unfold ok;rw[a3t hp hc,a3t hp hc,if_neg hnc]
  by_cases e:i=c
  ·subst e;rw[if_pos rfl,if_pos hpc];exact c0j k
  ·rw[if_neg e]
   by_cases e1:i=p
   ·subst e1;have:par i<i:=by unfold par;omega
    rw[if_pos rfl,if_neg (by omega)];exact h.b i0 c c0 hc hpc
   ·rw[if_neg e1]
    by_cases e2:par i=p
    ·rw[if_pos e2];exact kk i i0 hi e2
    ·rw[if_neg e2];exact h.a i i0 hi hne e2
 ·rw[a3G] at hi;have hic:c<i:=by unfold par at he;omega
  rw[a3t hp hc,a3t hp hc,if_neg (by omega),if_neg (by omega),if_neg (show par c≠c by omega),if_pos hpc];have:=h.a i i0 hi (by omega) (by omega);unfold ok at this;rw[he] at this;exact this
 ·unfold ok;have hq':par q<q:=by unfold par;omega
  rw[a3t hp hc,a3t hp hc,if_neg (show q≠c by omega),if_neg (show par q≠c by omega),if_neg (show par q≠p by omega)]
  by_cases e:q=p
  ·subst e;rw[if_pos rfl];exact h.b q0 c c0 hc hpc
  ·rw[if_neg e];exact h.d (by omega) q0
def cut(l:List Hi)(p:Nat):List Hi:=(l.set p (at_ l (l.length-1))).take (l.length-1)
theorem a4y{l:List Hi}:(cut l p).length=l.length-1:=by simp[cut]
theorem a9J{l:List Hi}(hi:i<l.length-1):at_ (cut l p) i=if i=p then at_ l (l.length-1) else at_ l i:=by
 have e:at_ (cut l p) i=at_ (l.set p (at_ l (l.length-1))) i:=by
  unfold cut;show (List.take _ _).getD i _=(l.set p (at_ l (l.length-1))).getD i _;unfold List.getD;rw[List.getElem?_take_of_lt hi]
 rw[e,b7r]
 by_cases c:i=p
 ·subst c;rw[if_pos ⟨rfl,by omega⟩,if_pos rfl]
 ·rw[if_neg (fun e=>c e.1.symm),if_neg c]
theorem b7j{l:List Hi}(hp:p<l.length):l.Perm (at_ l p :: cut l p):=by
 have hl:l.length-1<l.length:=by omega
 have h1:=(a6x (l:=l) (i:=p) (j:=l.length-1) hp hl).symm;have hlen:(swap l p (l.length-1)).length=l.length:=a3G
 have e:swap l p (l.length-1)=cut l p++[at_ l p]:=by
  refine List.ext_getElem (by rw[hlen,List.length_append,a4y];simp;omega) (fun i h2 h3=>?_);rw[hlen] at h2;have e1:=a3t hp hl i;rw[a4H (by rw[hlen];exact h2)] at e1;rw[e1]
  by_cases c:i=l.length-1
  ·rw[if_pos c,List.getElem_append_right (by rw[a4y];omega)];simp
  ·rw[if_neg c,List.getElem_append_left (by rw[a4y];omega)];have e2:=a9J (l:=l) (p:=p) (i:=i) (by omega);rw[a4H (by rw[a4y];omega)] at e2;rw[e2]
 rw[e] at h1;exact h1.trans (List.perm_append_comm.trans (by simp))
theorem c3y{l:List Hi}(h:a6r l):a6r (cut l (l.length-1)):=by
 intro i i0 hi;rw[a4y] at hi;unfold ok;rw[a9J hi,a9J (show par i<l.length-1 by unfold par;omega),if_neg (by omega),if_neg (show par i≠l.length-1 by unfold par;omega)];exact h i i0 (by omega)
theorem c3x{l:List Hi}(h:a6r l)(hp:p<l.length-1):a5l (cut l p) p p:=by
 refine⟨zq _,fun i i0 hi hne hnp=>?_,fun p0 i i0 hi he=>?_,fun e=>absurd rfl e⟩
 ·rw[a4y] at hi;unfold ok;rw[a9J hi,a9J (show par i<l.length-1 by unfold par;omega),if_neg hne,if_neg hnp];exact h i i0 (by omega)
 ·rw[a4y] at hi;have hip:i≠p:=by intro e;subst e;unfold par at he;omega
  have hpp:par p≠p:=by unfold par;omega
  rw[a9J hi,a9J (show par p<l.length-1 by unfold par;omega),if_neg hip,if_neg hpp];have h1:=h i i0 (by omega);have h2:=h p p0 (by omega);unfold ok at h1 h2;rw[he] at h1;exact a5b h1 h2
end Hp
def a9Z(x:Hp.Hi):List Value:=[.int .i64 x.t,.int .i64 x.n,.pointer (some ⟨x.v,0,none⟩)]
theorem a6R(l:List Hp.Hi):(l.flatMap a9Z).length=l.length*3:=by
 induction l with
 |nil=>rfl
 |cons x l ih=>simp only[List.flatMap_cons,List.length_append,List.length_cons,ih,a9Z,List.length_nil];omega
theorem a6i{l:List Hp.Hi}(h:i<l.length):l=l.take i++l[i] :: l.drop (i+1):=by rw[List.getElem_cons_drop,List.take_append_drop]
theorem a5H{l:List Hp.Hi}(h:i<l.length)(hj:j<3):(l.flatMap a9Z)[i*3+j]?=(a9Z l[i])[j]?:=by
 conv=>lhs;rw[a6i h,List.flatMap_append,List.flatMap_cons]
 have hlen:((l.take i).flatMap a9Z).length=i*3:=by rw[a6R,List.length_take_of_le (by omega)]
 rw[List.getElem?_append_right (by omega),hlen,Nat.add_sub_cancel_left,List.getElem?_append_left (by simp[a9Z];omega)]
theorem c0M{l:List Hp.Hi}(h:i<l.length)(x:Hp.Hi):(((l.flatMap a9Z).set (i*3) (.int .i64 x.t)).set (i*3+1) (.int .i64 x.n)).set (i*3+2) (.pointer (some ⟨x.v,0,none⟩))=(l.set i x).flatMap a9Z:=by
 have hlen:((l.take i).flatMap a9Z).length=i*3:=by rw[a6R,List.length_take_of_le (by omega)]
 conv=>lhs;rw[a6i h,List.flatMap_append,List.flatMap_cons]
 rw[List.set_append_right _ _ (by omega),List.set_append_right _ _ (by omega),List.set_append_right _ _ (by omega),hlen];rw[show i*3-i*3=0 from by omega,show i*3+1-i*3=1 from by omega,show i*3+2-i*3=2 from by omega]
 conv=>rhs;rw[List.set_eq_take_append_cons_drop,if_pos h,List.flatMap_append,List.flatMap_cons]
 simp[a9Z]
structure HP(w:World)(d o:Nat)(v:Value)(l:List Hp.Hi):Prop where
 c:w.cell? ⟨d,o,none⟩=some v
 own:w.ownsRow 0 286 3 v l.length (l.flatMap a9Z)
 ne:v.ownBlock≠some d
 fz:w.frozen? ⟨d,o,none⟩=false
theorem HP.form{l:List Hp.Hi}(h:HP w d o v l)(hl:0<l.length):∃ H cap,v=.slice (some ⟨H,0,none⟩) l.length cap:=by
 obtain⟨H,cap,e⟩:=Joins.ownsRow_form h.own hl;exact⟨H,cap,e⟩
theorem HP.at{l:List Hp.Hi}(h:HP w d o (.slice (some ⟨H,0,none⟩) l.length cap) l)(hi:i<l.length):w.cell? ⟨H,i*3,none⟩=some (.int .i64 (Hp.at_ l i).t)/\w.cell? ⟨H,i*3+1,none⟩=some (.int .i64 (Hp.at_ l i).n)/\w.cell? ⟨H,i*3+2,none⟩=some (.pointer (some ⟨(Hp.at_ l i).v,0,none⟩)):=by
 rw[Hp.a4H hi];refine⟨?_,?_,?_⟩
 ·exact (h.own.cellAt (i*3) (by omega)).trans (a5H hi (j:=0) (by omega))
 ·exact (h.own.cellAt (i*3+1) (by omega)).trans (a5H hi (j:=1) (by omega))
 ·exact (h.own.cellAt (i*3+2) (by omega)).trans (a5H hi (j:=2) (by omega))
theorem HP.off{l:List Hp.Hi}(h:HP w d o v l)(k:Off G w w')(h1:d ∉ G)(h2:∀ b,v.ownBlock=some b->b ∉ G):HP w' d o v l:=by
 refine⟨k.cell h1 h.c,⟨h.own.1,?_⟩,h.ne,(k.frozen h1 (World.block_lt_of_cell? _ _ h.c)).trans h.fz⟩;rcases h.own.2 with h0|⟨g,cap,cur,hv,hb,hh,rest⟩
 ·exact .inl h0
 ·refine .inr ⟨g,cap,cur,hv,hb,?_,rest⟩
  have hlt:g<w.heap.size:=by
   by_cases hx:g<w.heap.size
   ·exact hx
   ·rw[Array.getElem?_eq_none (by omega)] at hh;cases hh
  rw[k.block g hlt (h2 g (by rw[hv];rfl))];exact hh
theorem HP.later{l:List Hp.Hi}(h:HP w d o v l)(k:Below w.heap.size w w'):HP w' d o v l:=h.off (G:=[]) (Off.of_below k) (by simp) (by simp)
theorem HP.put{l:List Hp.Hi}(h:HP w d o (.slice (some ⟨H,0,none⟩) l.length cap) l)(hi:i<l.length)(x:Hp.Hi):HP (((w.setCell ⟨H,i*3,none⟩ (.int .i64 x.t)).setCell ⟨H,i*3+1,none⟩ (.int .i64 x.n)).setCell ⟨H,i*3+2,none⟩ (.pointer (some ⟨x.v,0,none⟩))) d o (.slice (some ⟨H,0,none⟩) (l.set i x).length cap) (l.set i x):=by
 have hne:d≠H:=fun e=>h.ne (by rw[e];rfl)
 have k:Off [H] w (((w.setCell ⟨H,i*3,none⟩ (.int .i64 x.t)).setCell ⟨H,i*3+1,none⟩ (.int .i64 x.n)).setCell ⟨H,i*3+2,none⟩ (.pointer (some ⟨x.v,0,none⟩))) :=
  (((Off.refl [H] w).setCell (.inl (by simp)) _ _).setCell (.inl (by simp)) _ _).setCell (.inl (by simp)) _ _
 refine⟨?_,?_,h.ne,?_⟩
 ·rw[List.length_set];exact k.cell (by simpa using hne) h.c
 ·rw[List.length_set,<- c0M hi x];exact ((((h.own.stored (i*3) (.int .i64 x.t)).1).stored (i*3+1) (.int .i64 x.n)).1.stored (i*3+2) (.pointer (some ⟨x.v,0,none⟩))).1
 ·exact (k.frozen (by simpa using hne) (World.block_lt_of_cell? _ _ h.c)).trans h.fz
theorem a5u(w:World)(H i j m:Nat)(a b c:Value):Off [H] w (((w.setCell ⟨H,i,none⟩ a).setCell ⟨H,j,none⟩ b).setCell ⟨H,m,none⟩ c) :=
 (((Off.refl [H] w).setCell (.inl (by simp)) _ _).setCell (.inl (by simp)) _ _).setCell (.inl (by simp)) _ _
theorem HP.swapped{l:List Hp.Hi}(h:HP w d o (.slice (some ⟨H,0,none⟩) l.length cap) l)(hi:i<l.length)(hj:j<l.length){x y:Hp.Hi}(hx:Hp.at_ l i=x)(hy:Hp.at_ l j=y):
  HP ((((((w.setCell ⟨H,i*3,none⟩ (.int .i64 y.t)).setCell ⟨H,i*3+1,none⟩ (.int .i64 y.n)).setCell ⟨H,i*3+2,none⟩ (.pointer (some ⟨y.v,0,none⟩))).setCell ⟨H,j*3,none⟩ (.int .i64 x.t)).setCell ⟨H,j*3+1,none⟩ (.int .i64 x.n)).setCell ⟨H,j*3+2,none⟩ (.pointer (some ⟨x.v,0,none⟩))) d o (.slice (some ⟨H,0,none⟩) l.length cap) (Hp.swap l i j)
  /\ Off [H] w ((((((w.setCell ⟨H,i*3,none⟩ (.int .i64 y.t)).setCell ⟨H,i*3+1,none⟩ (.int .i64 y.n)).setCell ⟨H,i*3+2,none⟩ (.pointer (some ⟨y.v,0,none⟩))).setCell ⟨H,j*3,none⟩ (.int .i64 x.t)).setCell ⟨H,j*3+1,none⟩ (.int .i64 x.n)).setCell ⟨H,j*3+2,none⟩ (.pointer (some ⟨x.v,0,none⟩))):=by
 refine⟨?_,(a5u _ _ _ _ _ _ _ _).trans (a5u _ _ _ _ _ _ _ _)⟩;have a:=(h.put hi y).put (i:=j) (by simpa using hj) x;subst hx hy;have e:((l.set i (Hp.at_ l j)).set j (Hp.at_ l i)).length=l.length:=by simp
 rw[e] at a;exact a
def a8y(x:Hp.Hi)(t n:Int):Int:=orI (b5t x.t t) (b5t x.n n)
theorem c5f(x y:Hp.Hi):a8y x y.t y.n<0↔Hp.ahead x y:=by
 unfold a8y orI b5t Hp.ahead
 split <;> split <;> (repeat split) <;> omega
theorem b3w(x:Hp.Hi)(t n:Int):a8y x t n=0↔x.t=t/\x.n=n:=by
 unfold a8y orI b5t
 split <;> split <;> (repeat split) <;> omega
theorem a8e(x:Hp.Hi)(t n:Int)(w:World):
  Calls Tryz.prog 203 #[.agg #[.int .i64 x.t,.int .i64 x.n,.pointer (some ⟨x.v,0,none⟩)],.int .i64 t,.int .i64 n] w fun e w'=>e=.returned (.int .i64 (a8y x t n))/\Below w.heap.size w w':=by
 unfold a8y;have HP:=a0b (fun w'=>a4C x.t t w');have HQ:=a0b (fun w'=>a4C x.n n w');generalize b5t x.t t=p at *;generalize b5t x.n n=q at *
 go_enter Tryz.func203,Tryz.ntmps203
 have hX:Below w.heap.size w (w.alloc (.cells #[.int .i64 x.t,.int .i64 x.n,.pointer (some ⟨x.v,0,none⟩)] 286)):=(zr _ _).alloc (zq _) _;have x0:(w.alloc (.cells #[.int .i64 x.t,.int .i64 x.n,.pointer (some ⟨x.v,0,none⟩)] 286)).cell? ⟨w.heap.size,0,none⟩=some (.int .i64 x.t):=by simp
 have x1:(w.alloc (.cells #[.int .i64 x.t,.int .i64 x.n,.pointer (some ⟨x.v,0,none⟩)] 286)).cell? ⟨w.heap.size,1,none⟩=some (.int .i64 x.n):=by simp
 go_upto_region 1 with fail
 generalize (World.alloc w (.cells #[.int .i64 x.t,.int .i64 x.n,.pointer (some ⟨x.v,0,none⟩)] 286))=X at x0 x1 hX ⊢;generalize hbe:w.heap.size=b at x0 x1 hX ⊢;have HB:=a0b hbe;clear hbe
 go_region_held3 (fun w'=>w'.cell? ⟨b,0,none⟩=some (.int .i64 x.t)/\w'.cell? ⟨b,1,none⟩=some (.int .i64 x.n)/\Below b w w')
  (first
   |exact⟨x0,x1,hX.drew⟩
   |(go_split_ands;refine⟨?_,?_,?_⟩ <;> assumption)
   |(go_split_ands;exact⟨a0a ((zr _ _).alloc (zq _) _) (by assumption),a0a ((zr _ _).alloc (zq _) _) (by assumption),a0j (by assumption) ((zr _ _).alloc (zq _) _) (by rw[HB.out];exact zq _)⟩))
  (first
   |(go_at_call_of 251 (Value.int .i64 t);refine (HP.out _).mono ?_;rintro e w' ⟨rfl,rfl⟩)
   |(go_at_call_of 251 (Value.int .i64 n);refine (HQ.out _).mono ?_;rintro e w' ⟨rfl,rfl⟩)
   |(go_at_call 250;refine (c4n _ p q _ (by simp) (by simp)).mono ?_;rintro e w' ⟨rfl,rfl⟩))
 all_goals
  have HF:Hid (Below w.heap.size w (World.drew (World.alloc X (.cells #[.int .i64 p,.int .i64 q] 3)))):=by
   have h:=a0j hX ((zr X.heap.size X).alloc (zq _) (.cells #[.int .i64 p,.int .i64 q] 3)) (by rw[HB.out];exact zq _);rw[HB.out];exact h.drew
  go_wp2_with fail
  go_ret;exact⟨rfl,HF.out⟩
def b1h(x y:Hp.Hi):Bool:=decide (a8y x y.t y.n<0)
theorem a7Q{x y:Hp.Hi}:b1h x y=true↔Hp.ahead x y:=by unfold b1h;rw[decide_eq_true_iff,c5f]
theorem b1g{x y:Hp.Hi}:b1h x y=false↔¬ Hp.ahead x y:=by rw[<- a7Q];simp
theorem a9n(d o:Nat)(v:Value)(l:List Hp.Hi)(i j:Nat)(w:World)(h:HP w d o v l)(hi:i<l.length)(hj:j<l.length)(hl:l.length<=1000):
  Calls Tryz.prog 274 #[.pointer (some ⟨d,o,none⟩),.int .i64 i,.int .i64 j] w fun e w'=>e=.returned (.bool (b1h (Hp.at_ l i) (Hp.at_ l j)))/\Below w.heap.size w w':=by
 obtain⟨H,cap,rfl⟩:=h.form (by omega);have c:=h.c;obtain⟨a0,a1,a2⟩:=h.at hi;obtain⟨b0,b1,b2⟩:=h.at hj;have CM:=a0b (fun w'=>a8e (Hp.at_ l i) (Hp.at_ l j).t (Hp.at_ l j).n w');have i1:(i:Int)<(l.length:Int):=by omega
 have j1:(j:Int)<(l.length:Int):=by omega
 clear h;generalize Hp.at_ l i=x at *;generalize Hp.at_ l j=y at *
 go_enter Tryz.func274,Tryz.ntmps274
 go_upto_region 1 with fail
 go_region_held3 (fun w'=>w'.cell? ⟨d,o,none⟩=some (.slice (some ⟨H,0,none⟩) l.length cap)/\w'.cell? ⟨H,i*3,none⟩=some (.int .i64 x.t)/\w'.cell? ⟨H,i*3+1,none⟩=some (.int .i64 x.n)/\w'.cell? ⟨H,i*3+2,none⟩=some (.pointer (some ⟨x.v,0,none⟩))/\w'.cell? ⟨H,j*3,none⟩=some (.int .i64 y.t)/\w'.cell? ⟨H,j*3+1,none⟩=some (.int .i64 y.n))
  (first
   |exact⟨c,a0,a1,a2,b0,b1⟩
   |exact⟨a0a k1 c,a0a k1 a0,a0a k1 a1,a0a k1 a2,a0a k1 b0,a0a k1 b1⟩)
  (first
   |(go_at_call 203;refine (CM.out _).mono ?_;rintro e w4 ⟨rfl,k1⟩))
 have HK:Hid (Below w.heap.size w w4):=a0j (a0q w) k1 (zq _);clear k1
 go_wp2_with fail
 go_ret;exact⟨rfl,HK.out⟩
theorem a9q(d o H cap:Nat)(l:List Hp.Hi)(i j:Nat)(w:World)(h:HP w d o (.slice (some ⟨H,0,none⟩) l.length cap) l)(hi:i<l.length)(hj:j<l.length)(hij:i≠j):
  Calls Tryz.prog 275 #[.pointer (some ⟨d,o,none⟩),.int .i64 i,.int .i64 j] w fun e w'=>e=.returned (.tuple #[])/\HP w' d o (.slice (some ⟨H,0,none⟩) l.length cap) (Hp.swap l i j)/\Off [H] w w':=by
 have c:=h.c;obtain⟨a0,a1,a2⟩:=h.at hi;obtain⟨b0,b1,b2⟩:=h.at hj;have fz:∀ k,w.frozen? ⟨H,k,none⟩=false:=fun k=>h.own.frozenAt k
 have i1:(i:Int)<(l.length:Int):=by omega
 have j1:(j:Int)<(l.length:Int):=by omega
 have HS:=a0b (h.swapped hi hj rfl rfl);clear h;generalize Hp.at_ l i=x at *;generalize Hp.at_ l j=y at *
 go_enter Tryz.func275,Tryz.ntmps275
 go_upto_region 0 with fail
 go_big_region
 go_end0
 exact⟨rfl,HS.out.1.off (G:=[]) ((Off.refl _ _).drew) (by simp) (by simp),HS.out.2.drew⟩
structure a3b(w wx:World)(d o H n cap:Nat)(l l':List Hp.Hi):Prop where
 hp:HP wx d o (.slice (some ⟨H,0,none⟩) n cap) l'
 len:l'.length=n
 perm:l'.Perm l
 off:Off [H] w wx
theorem a3b.new{l:List Hp.Hi}(h:HP w d o (.slice (some ⟨H,0,none⟩) l.length cap) l):a3b w w d o H l.length cap l l:=⟨h,rfl,.refl _,Off.refl _ _⟩
theorem a3b.later{n:Nat}{l l':List Hp.Hi}(h:a3b w wx d o H n cap l l')(k:Below wx.heap.size wx wy):a3b w wy d o H n cap l l' :=
 ⟨h.hp.later k,h.len,h.perm,h.off.trans' (Off.of_below (F:=[]) k) (by simp)⟩
theorem b6g(d o H cap:Nat)(l:List Hp.Hi)(p:Nat)(w:World)(h:HP w d o (.slice (some ⟨H,0,none⟩) l.length cap) l)(hp:p<l.length)(hr:Hp.a3T l p)(hl:l.length<=1000):
  Calls Tryz.prog 248 #[.pointer (some ⟨d,o,none⟩),.int .i64 p] w fun e w'=>e=.returned (.tuple #[])/\∃ l',a3b w w' d o H l.length cap l l'/\Hp.a6r l':=by
 have T0:=a0b (a3b.new h);have R0:=a0b hr;clear h hr
 go_enter Tryz.func248,Tryz.ntmps248
 go_wp2_with fail
 go_loopw [1] (fun v wx=>∃ (q:Nat) (l':List Hp.Hi),v=.int .i64 q/\q<l.length/\Hp.a3T l' q/\a3b w wx d o H l.length cap l l') (fun v _=>(intOf v).toNat)
 case atStart=>exact⟨p,l,rfl,hp,R0.out,T0.out⟩
 case round =>
  obtain⟨q,l',rfl,hq,hr,ht⟩:=hrel
  by_cases h0:0<q
  ·have i0:(0:Int)<(q:Int):=by omega
   have HT:=a0b ht;have HR:=a0b hr
   have ea:((((q:Int)-1).tdiv 2))=((Hp.par q:Nat):Int):=by
    unfold Hp.par;rw[Int.tdiv_eq_ediv_of_nonneg (by omega)];omega
   have ew:IntKind.i64.wrap ((q:Int)-1)=(q:Int)-1:=a0i (by omega) (by omega);have hpq:Hp.par q<q:=by unfold Hp.par;omega
   have AH:=a0b (fun wy (k:Below wr.heap.size wr wy)=>a9n d o _ l' q (Hp.par q) wy (ht.hp.later k) (by rw[ht.len];omega) (by rw[ht.len];omega) (by rw[ht.len];omega));clear hr ht
   go_wp2_with fail
   refine (AH.out _ (zr _ _)).mono ?_;rintro e w4 ⟨rfl,k1⟩;have HT4:=a0b (HT.out.later k1);clear AH HT k1
   cases hb:b1h (Hp.at_ l' q) (Hp.at_ l' (Hp.par q))
   ·have HF:=a0b (zA HT4.out (HR.out.done (.inr (b1g.1 hb))));clear HT4 HR
    go_wp2_with fail
    (try simp only[Exit.inBlock,Exit.then]);refine bodyPost_ret (results_none rfl _ _ _) rfl ?_
    exact⟨rfl,l',HF.out⟩
   ·have hlen:=HT4.out.len;have SW:=a0b (a9q d o H cap l' q (Hp.par q) w4 (by rw[hlen];exact HT4.out.hp) (by omega) (by omega) (by omega));have HS:=a0b (HR.out.step (by omega) h0 (a7Q.1 hb));have HL:=a0b hlen;clear HR hlen
    go_wp2_with fail
    refine SW.out.mono ?_;rintro e w5 ⟨rfl,k2,k3⟩
    have HN:Hid (a3b w w5 d o H l.length cap l (Hp.swap l' q (Hp.par q))) :=
     ⟨by rw[<- HL.out];exact k2,Hp.a3G.trans HL.out,(Hp.a6x (by rw[HL.out];omega) (by rw[HL.out];omega)).trans HT4.out.perm,HT4.out.off.trans k3⟩
    clear k2 k3 SW HT4
    go_wp2_with fail
    go_roundw
    case rel=>exact⟨Hp.par q,_,rfl,by omega,HS.out,HN.out⟩
    case measure=>simp[intOf];omega
  ·have e0:q=0:=by omega
   subst e0;have HF:=a0b (zA ht (hr.done (.inl rfl)));clear hr ht
   go_wp2_with fail
   go_end0
   exact⟨rfl,l',HF.out⟩
structure a4I(l:List Hp.Hi)(q f b:Nat):Prop where
 b0:2*q+1<=b
 b1:b<=2*q+3
 f1:f<l.length
 ff:f=q\/(2*q+1<=f/\f<b/\Hp.ahead (Hp.at_ l f) (Hp.at_ l q))
 no:∀ i,2*q+1<=i->i<b->i<l.length->¬ Hp.ahead (Hp.at_ l i) (Hp.at_ l f)
theorem a4I.new{l:List Hp.Hi}(h:q<l.length):a4I l q q (2*q+1):=⟨by omega,by omega,h,.inl rfl,fun i h1 h2 _=>by omega⟩
theorem a4I.notS{l:List Hp.Hi}(h:a4I l q f b)(hb:b<=2*q+2)(k:¬ Hp.ahead (Hp.at_ l b) (Hp.at_ l f)):a4I l q f (b+1):=by
 refine⟨by have:=h.b0;omega,by omega,h.f1,?_,fun i h1 h2 h3=>?_⟩
 ·rcases h.ff with e|⟨e1,e2,e3⟩
  ·exact .inl e
  ·exact .inr ⟨e1,by omega,e3⟩
 ·by_cases e:i=b
  ·subst e;exact k
  ·exact h.no i h1 (by omega) h3
theorem a4I.yes{l:List Hp.Hi}(h:a4I l q f b)(hb:b<=2*q+2)(hl:b<l.length)(k:Hp.ahead (Hp.at_ l b) (Hp.at_ l f)):a4I l q b (b+1):=by
 have h0:=h.b0;refine⟨by omega,by omega,hl,.inr ⟨by omega,by omega,?_⟩,fun i h1 h2 h3=>?_⟩
 ·rcases h.ff with e|⟨e1,e2,e3⟩
  ·rw[<- e];exact k
  ·unfold Hp.ahead at *;omega
 ·by_cases e:i=b
  ·subst e;exact Hp.b6B _
  ·have:=h.no i h1 (by omega) h3;unfold Hp.ahead at *;omega
theorem a4I.all{l:List Hp.Hi}(h:a4I l q f b)(hb:¬ b<=2*q+2\/¬ b<l.length):∀ i,0<i->i<l.length->Hp.par i=q->¬ Hp.ahead (Hp.at_ l i) (Hp.at_ l f):=by
 intro i h0 h1 h2;have:=h.b0;unfold Hp.par at h2;exact h.no i (by omega) (by omega) h1
theorem c2m(d o H cap:Nat)(l:List Hp.Hi)(p:Nat)(w:World)(h:HP w d o (.slice (some ⟨H,0,none⟩) l.length cap) l)(hp:p<l.length)(hr:Hp.a5l l p p)(hl:l.length<=1000):
  Calls Tryz.prog 252 #[.pointer (some ⟨d,o,none⟩),.int .i64 p] w fun e w'=>e=.returned (.tuple #[])/\∃ l',a3b w w' d o H l.length cap l l'/\Hp.a3T l' p:=by
 have T0:=a0b (a3b.new h);have R0:=a0b hr;clear h hr
 go_enter Tryz.func252,Tryz.ntmps252
 go_wp2_with fail
 go_loopw [1] (fun v wx=>∃ (q:Nat) (l':List Hp.Hi),v=.int .i64 q/\q<l.length/\Hp.a5l l' p q/\a3b w wx d o H l.length cap l l') (fun v _=>l.length-(intOf v).toNat)
 case atStart=>exact⟨p,l,rfl,hp,R0.out,T0.out⟩
 case round =>
  obtain⟨q,l',rfl,hq,hr,ht⟩:=hrel;have HT:=a0b ht;have HR:=a0b hr;clear hr ht;have w1:IntKind.i64.wrap (2*(q:Int))=2*(q:Int):=a0i (by omega) (by omega);have w2:IntKind.i64.wrap (2*(q:Int)+1)=2*(q:Int)+1:=a0i (by omega) (by omega);have w3:IntKind.i64.wrap (2*(q:Int)+2)=2*(q:Int)+2:=a0i (by omega) (by omega)
  go_wp2_with fail
  go_loopw [4,5] (fun vf vb wx=>∃ f b:Nat,vf=.int .i64 f/\vb=.int .i64 b/\a4I l' q f b/\a3b w wx d o H l.length cap l l') (fun _ vb _=>2*q+3-(intOf vb).toNat)
  case atStart=>exact⟨q,2*q+1,rfl,by simp,a4I.new (by rw[HT.out.len];exact hq),HT.out⟩
  case round =>
   obtain⟨f,b,rfl,rfl,hs,ht⟩:=hrel;have hlen:=ht.len;have hc:=ht.hp.c
   by_cases hb1:b<=2*q+2
   ·have b1:(b:Int)<=2*(q:Int)+2:=by omega
    by_cases hb2:b<l.length
    ·have b2:(b:Int)<(l.length:Int):=by omega
     have fb:=hs.f1;have AH:=a0b (a9n d o _ l' b f wr ht.hp (by omega) (by omega) (by omega));have HT2:=a0b ht;have HS:=a0b hs;have hw:IntKind.i64.wrap ((b:Int)+1)=((b+1:Nat):Int):=by rw[a0i (by omega) (by omega)];omega
     clear ht hs
     go_wp2_with fail
     refine AH.out.mono ?_;rintro e w4 ⟨rfl,k1⟩;have HT4:=a0b (HT2.out.later k1);clear AH HT2 k1
     cases hb:b1h (Hp.at_ l' b) (Hp.at_ l' f)
     ·have HN:=a0b (HS.out.notS hb1 (b1g.1 hb));clear HS
      go_wp2_with fail
      go_roundw
      case rel=>exact⟨f,b+1,rfl,rfl,HN.out,HT4.out⟩
      case measure=>simp[intOf];omega
     ·have HN:=a0b (HS.out.yes hb1 (by omega) (a7Q.1 hb));clear HS
      go_wp2_with fail
      go_roundw
      case rel=>exact⟨b,b+1,rfl,rfl,HN.out,HT4.out⟩
      case measure=>simp[intOf];omega
    ·have b2:¬ ((b:Int)<(l.length:Int)):=by omega
     have HALL:=a0b (hs.all (by omega));have hff:=hs.ff;have hf1:=hs.f1;have hqp:=HR.out.qp;have HT2:=a0b ht;have HL:=a0b hlen
     by_cases hfq:f=q
     ·subst hfq;have HF:=a0b (zA ht (HR.out.done (by omega) HALL.out));clear ht hs HALL hff hf1 HT2 HT HR HL hlen
      go_wp2_with fail
      (try simp only[Exit.inBlock,Exit.then]);refine bodyPost_ret (results_none rfl _ _ _) rfl ?_
      exact⟨rfl,l',HF.out⟩
     ·have hfq':¬ ((f:Int)=(q:Int)):=by omega
      have hf2:2*q+1<=f:=by omega
      have SW:=a0b (a9q d o H cap l' q f wr (by rw[hlen];exact ht.hp) (by omega) (by omega) (by omega));have hah:Hp.ahead (Hp.at_ l' f) (Hp.at_ l' q):=by rcases hff with e|e;exact absurd e hfq;exact e.2.2
      have HS:=a0b (HR.out.step (c:=f) (by omega) hf1 (by unfold Hp.par;have:=hs.ff;have:=hs.b1;omega) hah HALL.out);clear ht hs HALL hff hah hlen
      go_wp2_with fail
      refine SW.out.mono ?_;rintro e w5 ⟨rfl,k2,k3⟩
      have HN:Hid (a3b w w5 d o H l.length cap l (Hp.swap l' q f)) :=
       ⟨by rw[<- HL.out];exact k2,Hp.a3G.trans HL.out,(Hp.a6x (by rw[HL.out];omega) hf1).trans HT2.out.perm,HT2.out.off.trans k3⟩
      clear k2 k3 SW HT2 HT
      go_wp2_with fail
      go_roundw
      case rel=>exact⟨f,_,rfl,by rw[<- HL.out];exact hf1,HS.out,HN.out⟩
      case measure=>have:=HL.out;simp[intOf];omega
   ·have b1:¬ ((b:Int)<=2*(q:Int)+2):=by omega
    have HALL:=a0b (hs.all (by omega));have hff:=hs.ff;have hf1:=hs.f1;have hqp:=HR.out.qp;have HT2:=a0b ht;have HL:=a0b hlen
    by_cases hfq:f=q
    ·subst hfq;have HF:=a0b (zA ht (HR.out.done (by omega) HALL.out));clear ht hs HALL hff hf1 HT2 HT HR HL hlen
     go_wp2_with fail
     (try simp only[Exit.inBlock,Exit.then]);refine bodyPost_ret (results_none rfl _ _ _) rfl ?_
     exact⟨rfl,l',HF.out⟩
    ·have hfq':¬ ((f:Int)=(q:Int)):=by omega
     have hf2:2*q+1<=f:=by omega
     have SW:=a0b (a9q d o H cap l' q f wr (by rw[hlen];exact ht.hp) (by omega) (by omega) (by omega));have hah:Hp.ahead (Hp.at_ l' f) (Hp.at_ l' q):=by rcases hff with e|e;exact absurd e hfq;exact e.2.2
     have HS:=a0b (HR.out.step (c:=f) (by omega) hf1 (by unfold Hp.par;have:=hs.ff;have:=hs.b1;omega) hah HALL.out);clear ht hs HALL hff hah hlen
     go_wp2_with fail
     refine SW.out.mono ?_;rintro e w5 ⟨rfl,k2,k3⟩
     have HN:Hid (a3b w w5 d o H l.length cap l (Hp.swap l' q f)) :=
      ⟨by rw[<- HL.out];exact k2,Hp.a3G.trans HL.out,(Hp.a6x (by rw[HL.out];omega) hf1).trans HT2.out.perm,HT2.out.off.trans k3⟩
     clear k2 k3 SW HT2 HT
     go_wp2_with fail
     go_roundw
     case rel=>exact⟨f,_,rfl,by rw[<- HL.out];exact hf1,HS.out,HN.out⟩
     case measure=>have:=HL.out;simp[intOf];omega
end Go.Proofs.YtfigmlfdnickmaaGreatDoor
