import Derived.Test.YtfigmlfdnickmaaGreatDoorL16
set_option maxRecDepth 100000
set_option maxHeartbeats 8000000
variable{nm:ByteArray}{a:Int}{l:List (Go.Proofs.YtfigmlfdnickmaaGreatDoor.Desk.Ent × Go.Value)}{L:List (Int × Int)}{acc:List Int}{o:List UInt8}{xs:List Go.Value}{B b d dk e n p:Nat}{col col':Nat->Option Go.Proofs.YtfigmlfdnickmaaGreatDoor.Col}{r:Go.Proofs.YtfigmlfdnickmaaGreatDoor.Raw}{s:Go.Proofs.YtfigmlfdnickmaaGreatDoor.Desk.St}{v:Go.Value}{W W' w w' x y z:Go.World}
namespace Go.Proofs.YtfigmlfdnickmaaGreatDoor
open Go.RowKit
theorem c9H{base size:Nat}(h:w.ownsRow base e size v n xs)(hb:Below w.heap.size w w'):w'.ownsRow base e size v n xs:=by
 refine⟨h.1,?_⟩;rcases h.2 with h0|⟨g,cap,cur,hv,hg,hh,rest⟩
 ·exact .inl h0
 ·refine .inr ⟨g,cap,cur,hv,hg,?_,rest⟩
  have:g<w.heap.size:=by
   by_cases hl:g<w.heap.size
   ·exact hl
   ·rw[Array.getElem?_eq_none (by omega)] at hh;cases hh
  rw[hb.block g this];exact hh
theorem d8s{base:Nat}(h:w.ownsRow base e 1 v n xs)(hn:0<n):∃ g cap,v=.slice (some ⟨g,0,none⟩) n cap/\base<=g/\g<w.heap.size/\∀ j u,xs[j]?=some u->w.cell? (Addr.add ⟨g,0,none⟩ j)=some u:=by
 rcases h.2 with ⟨_,h0⟩|⟨g,cap,cur,hv,hg,hh,hc,_,hs,ht⟩
 ·omega
 ·have hl:g<w.heap.size:=by
   by_cases hl:g<w.heap.size
   ·exact hl
   ·rw[Array.getElem?_eq_none (by omega)] at hh;cases hh
  refine⟨g,cap,hv,hg,hl,fun j u hj=>?_⟩
  have ha:Addr.add ⟨g,0,none⟩ j=⟨g,j,none⟩:=by
   unfold Addr.add;split
   ·subst_vars;rfl
   ·simp
  have hjn:j<n:=by
   have h1:=h.1;have:=(List.getElem?_eq_some_iff.1 hj).1;omega
  have hcur:cur[j]?=some u:=by
   rw[<- ht,List.getElem?_take,if_pos (by omega)] at hj
   simpa using hj
  rw[ha];simp[World.cell?,hh,hcur]
structure Row(w:World)(a:Option Addr)(g:Nat)(xs:List ByteArray):Prop where
 at_:0<xs.length->a=some ⟨g,0,none⟩
 cells:∀ (j:Nat) (h:j<xs.length),w.cell? ⟨g,j,none⟩=some (.string xs[j])
theorem e0O{base:Nat}{xs:List ByteArray}(h:w.ownsRow base 9 1 v n (xs.map Value.string))(hn:n=xs.length):∃ a cap g,v=.slice a xs.length cap/\Row w a g xs:=by
 subst hn
 by_cases h0:0<xs.length
 ·obtain⟨g,cap,hv,_,_,hc⟩:=d8s h h0;refine⟨some ⟨g,0,none⟩,cap,g,hv,fun _=>rfl,fun j hj=>?_⟩;have:=hc j (.string xs[j]) (by simp[hj])
  have ha:Addr.add ⟨g,0,none⟩ j=⟨g,j,none⟩:=by
   unfold Addr.add;split
   ·subst_vars;rfl
   ·simp
  rwa [ha] at this
 ·rcases h.2 with ⟨hv,h1⟩|⟨g,cap,cur,hv,_⟩
  ·exact⟨none,0,0,by rw[hv,h1],fun h=>absurd h h0,fun j hj=>absurd hj (by omega)⟩
  ·exact⟨_,cap,g,hv,fun h=>absurd h h0,fun j hj=>absurd hj (by omega)⟩
theorem f2O{a b:ByteArray}(h:a=b):Ending.returned (.string a)=.returned (.string b):=by rw[h]
def g2O:Value->Nat
 |.string s=>s.size
 |_=>0
theorem f2P(j:Nat)(t:ByteArray):(⟨#[48]⟩:ByteArray)++Txt.pz j t=Txt.pz (j+1) t:=by
 apply Txt.a7x;rw[Txt.a1X,Txt.e2g,Txt.e2g,List.replicate_succ];rfl
theorem d0r(n:Int)(w:World)(he:Env w)(h0:-9223372036854775808<=n)(h1:n<=9223372036854775807):
  Calls Tryz.prog 327 #[.int .i64 n] w fun e w'=>e=.returned (.string (Txt.a0x n))/\Below w.heap.size w w':=by
 have HE:=hide he;clear he
 go_enter Tryz.func327,Tryz.ntmps327
 go_wp2_with fail
 refine (c2Y n w (a0d HE) h0 h1).mono ?_;rintro e w1 ⟨rfl,hb1⟩;go_wp2;go_ret;exact⟨rfl,hb1⟩
theorem d3g(n:Int)(size:Nat)(w:World)(he:Env w)(h0:0<=n)(h1:n<=9999999)(hs:size<=9):
  Calls Tryz.prog 333 #[.int .i64 n,.int .i64 size] w fun e w'=>e=.returned (.string (Txt.b8V n size))/\Below w.heap.size w w':=by
 have hz:=Txt.a0I n h0 h1;have HE:=hide he;clear he
 go_enter Tryz.func333,Tryz.ntmps333
 go_wp2_with fail
 refine (d0r n w (a0d HE) (by omega) (by omega)).mono ?_;rintro e w1 ⟨rfl,hb1⟩;go_wp2
 go_loop [5] (fun t=>∃ j:Nat,j<=size-(Txt.a0x n).size/\t=.string (Txt.pz j (Txt.a0x n))) (fun t=>size-g2O t)
 case atStart=>exact⟨0,Nat.zero_le _,rfl⟩
 case round =>
  obtain⟨j,hj,rfl⟩:=hrel;have pzz:=Txt.e2f j (Txt.a0x n);have HZ:=hide pzz;have pb:(Txt.pz j (Txt.a0x n)).size<=20:=by omega
  clear pzz
  by_cases hlt:(Txt.pz j (Txt.a0x n)).size<size
  ·have hlt':((Txt.pz j (Txt.a0x n)).size:Int)<(size:Int):=by omega
   have HN:=hide (f2P j (Txt.a0x n));have HZ2:Hid (((⟨#[48]⟩:ByteArray)++Txt.pz j (Txt.a0x n)).size=1+(Txt.pz j (Txt.a0x n)).size):=ByteArray.size_append;go_wp2
   go_round
   case rel=>exact⟨j+1,by have:=a0d HZ;omega,by rw[a0d HN]⟩
   case measure =>
    have q:=a0d HZ2;show size-((⟨#[48]⟩:ByteArray)++Txt.pz j (Txt.a0x n)).size<size-(Txt.pz j (Txt.a0x n)).size;omega
  ·have hlt':¬ ((Txt.pz j (Txt.a0x n)).size:Int)<(size:Int):=by omega
   have HJ:Hid (Txt.b8V n size=Txt.pz j (Txt.a0x n)):=by
    show Txt.b8V n size=_;unfold Txt.b8V;rw[show size-(Txt.a0x n).size=j from by have:=a0d HZ;omega]
   go_wp2;go_ret;exact⟨f2O (by rw[HJ.out]),hb1⟩
def f4t(y m d:Int):ByteArray:=Txt.b8V y 4++⟨#[45]⟩++Txt.b8V m 2++⟨#[45]⟩++Txt.b8V d 2
def d8f(n:Int):ByteArray:=Txt.b8V (n / 60) 2++⟨#[58]⟩++Txt.b8V (n % 60) 2
theorem d2S(n:Int)(w:World)(he:Env w)(h0:0<=n)(h1:n<1440):
  Calls Tryz.prog 332 #[.int .i64 n] w fun e w'=>e=.returned (.string (d8f n))/\Below w.heap.size w w':=by
 have HE:=hide he;have z1:=Txt.d1q (n / 60) 2 (by omega) (by omega);have z2:=Txt.d1q (n % 60) 2 (by omega) (by omega);clear he
 go_enter Tryz.func332,Tryz.ntmps332
 go_wp2_with fail
 refine (d3g (n / 60) 2 w (a0d HE) (by omega) (by omega) (by omega)).mono ?_;rintro e w1 ⟨rfl,hb1⟩
 go_wp2_with fail
 refine (d3g (n % 60) 2 w1 ((a0d HE).later hb1) (by omega) (by omega) (by omega)).mono ?_;rintro e w2 ⟨rfl,hb2⟩;have hbb:=hb1.trans (hb2.mono hb1.size);go_wp2;go_ret;exact⟨rfl,hbb⟩
theorem e5d(n:Int)(w:World)(he:Env w)(h0:-738885<=n)(h1:n<=2913173):
  Calls Tryz.prog 331 #[.int .i64 n] w fun e w'=>(∃ y m d,e=.returned (.string (f4t y m d))/\Cal.ok y m d=true/\Cal.num y m d=n)/\Below w.heap.size w w':=by
 have HE:=hide he;clear he
 go_enter Tryz.func331,Tryz.ntmps331
 go_wp2_with fail
 refine (b5w n w (a0d HE).tab h0 h1).mono ?_;rintro e w1 ⟨y,m,d,rfl,hok,hnum,rfl⟩;have HO:=hide hok;have HN:=hide hnum;obtain⟨y1,y2,m1,m2,d1,d2⟩:=(Cal.a2K y m d).1 hok;have db:=Cal.b3I y m;have z1:=Txt.d1q y 4 (by omega) (by omega);have z2:=Txt.d1q m 2 (by omega) (by omega);have z3:=Txt.d1q d 2 (by omega) (by omega);clear hok hnum
 go_wp2_with fail
 refine (d3g y 4 _ (a0d HE) (by omega) (by omega) (by omega)).mono ?_;rintro e w2 ⟨rfl,hb2⟩
 go_wp2_with fail
 refine (d3g m 2 _ ((a0d HE).later hb2) (by omega) (by omega) (by omega)).mono ?_;rintro e w3 ⟨rfl,hb3⟩;have hb23:=hb2.trans (hb3.mono hb2.size)
 go_wp2_with fail
 refine (d3g d 2 _ ((a0d HE).later hb23) (by omega) (by omega) (by omega)).mono ?_;rintro e w4 ⟨rfl,hb4⟩;have hb24:=hb23.trans (hb4.mono hb23.size);go_wp2;go_ret;exact⟨⟨y,m,d,rfl,a0d HO,a0d HN⟩,hb24⟩
def d0L(n:Int):ByteArray:=f4t (Cal.yT n) (Cal.mT n) (Cal.dT n)
def c8H(t:Int):ByteArray:=d0L (t / 1440)++⟨#[47]⟩++d8f (t % 1440)
theorem f1E(y m d:Int)(h:Cal.ok y m d=true):(f4t y m d).size<=40:=by
 obtain⟨y1,y2,m1,m2,d1,d2⟩:=(Cal.a2K y m d).1 h;have db:=Cal.b3I y m;have z1:=Txt.d1q y 4 (by omega) (by omega);have z2:=Txt.d1q m 2 (by omega) (by omega);have z3:=Txt.d1q d 2 (by omega) (by omega);have e3:(⟨#[45]⟩:ByteArray).size=1:=by decide
 unfold f4t;simp only[ByteArray.size_append];omega
theorem f3v(n:Int)(h0:0<=n)(h1:n<1440):(d8f n).size<=19:=by
 have z1:=Txt.d1q (n / 60) 2 (by omega) (by omega);have z2:=Txt.d1q (n % 60) 2 (by omega) (by omega);have e3:(⟨#[58]⟩:ByteArray).size=1:=by decide
 unfold d8f;simp only[ByteArray.size_append];omega
theorem f1D(n:Int)(h0:-738885<=n)(h1:n<=2913173):(d0L n).size<=40:=f1E _ _ _ (Cal.c6G n h0 h1).1
theorem d3R(n:Int)(w:World)(he:Env w)(h0:-738885<=n)(h1:n<=2913173):
  Calls Tryz.prog 331 #[.int .i64 n] w fun e w'=>e=.returned (.string (d0L n))/\Below w.heap.size w w':=by
 refine (e5d n w he h0 h1).mono ?_;rintro e w' ⟨⟨y,m,d,rfl,hok,hnum⟩,hb⟩;obtain⟨rfl,rfl,rfl⟩:=Cal.c4g y m d n hok hnum;exact⟨rfl,hb⟩
theorem d2x(t:Int)(w:World)(he:Env w)(h0:0<=t)(h1:t<=1048320):
  Calls Tryz.prog 330 #[.int .i64 t] w fun e w'=>e=.returned (.string (c8H t))/\Below w.heap.size w w':=by
 have HE:=hide he;clear he;have z1:=f1D (t / 1440) (by omega) (by omega);have z2:=f3v (t % 1440) (by omega) (by omega)
 go_enter Tryz.func330,Tryz.ntmps330
 go_wp2_with fail
 refine (d3R (t / 1440) w (a0d HE) (by omega) (by omega)).mono ?_;rintro e w1 ⟨rfl,hb1⟩
 go_wp2_with fail
 refine (d2S (t % 1440) w1 ((a0d HE).later hb1) (by omega) (by omega)).mono ?_;rintro e w2 ⟨rfl,hb2⟩;have hbb:=hb1.trans (hb2.mono hb1.size);go_wp2;go_ret;exact⟨rfl,hbb⟩
def e0s(k:Nat):ByteArray:=⟨(a3C k).toArray⟩
def d5A(acc:List Int):Nat->ByteArray
 |0=>⟨#[]⟩
 |k+1=>if isd acc k then d5A acc k++⟨#[44]⟩++e0s k else d5A acc k
def onT(acc:List Int):ByteArray:=(d5A acc 7).extract 1 (d5A acc 7).size
theorem e4d(k:Nat):(e0s k).size=2:=by
 unfold e0s a3C;split <;> rfl
theorem e0W(acc:List Int):∀ k:Nat,(d5A acc k).size<=3*k
 |0=>zq _
 |k+1=>by
  have ih:=e0W acc k;have n:=e4d k;have e3:(⟨#[44]⟩:ByteArray).size=1:=by decide
  unfold d5A
  split
  ·simp only[ByteArray.size_append];omega
  ·omega
theorem e0V(acc:List Int)(d:Nat)(h:isd acc d=true):∀ k:Nat,d<k->1<=(d5A acc k).size
 |0,hk=>by omega
 |k+1,hk=>by
  have n:=e4d k;unfold d5A
  by_cases e:d=k
  ·subst e;rw[if_pos h];simp only[ByteArray.size_append];omega
  ·have:=e0V acc d h k (by omega)
   split
   ·simp only[ByteArray.size_append];omega
   ·exact this
theorem f0z{d:Int}{r:List Int}(h:Txt.a4D acc d=some r)(hd:d<=6):∃ x:Nat,x<7/\isd r x=true:=by
 unfold Txt.a4D at h
 split at h
 ·rename_i hc
  cases h
  exact⟨d.toNat,by omega,by simp[isd,show ((d.toNat:Nat):Int)=d from by omega]⟩
 ·cases h
theorem e8a:∀ (l:List UInt8)(acc r:List Int),Txt.onC l acc=some r->∃ x:Nat,x<7/\isd r x=true
 |[],_,_,h=>by simp[Txt.onC] at h
 |[_],_,_,h=>by simp[Txt.onC] at h
 |[a,b],acc,r,h=>f0z (acc:=acc) (d:=Txt.wdL [a,b]) h (Txt.c3Q [a,b]).2
 |a :: b :: c :: l,acc,r,h=>by
  unfold Txt.onC at h
  split at h
  ·simp only[Option.bind_eq_some_iff] at h;obtain⟨x,_,h⟩:=h;exact e8a l x r h
  ·cases h
theorem g1e{s:ByteArray}(h:Txt.onW s=some acc):1<=(d5A acc 7).size:=by
 obtain⟨x,hx,hi⟩:=e8a _ _ _ h;exact e0V acc x hi 7 hx
def WR(w w':World)(xs:List ByteArray)(e:Ending):Prop:=∃ v,e=.returned v/\w'.ownsRow w.heap.size 9 1 v xs.length (xs.map Value.string)/\Below w.heap.size w w'
theorem d1j(w x:World)(xs:List ByteArray)(b:Nat)(hb:w.heap.size<=b)(hh:x.heap[b]?=some (.cells (xs.map Value.string).toArray 9))(h0:xs.length<=160):x.ownsRow w.heap.size 9 1 (.slice (some ⟨b,0,none⟩) xs.length xs.length) xs.length (xs.map Value.string):=by
 refine⟨by simp,.inr ⟨b,xs.length,(xs.map Value.string).toArray,rfl,hb,hh,Nat.le_refl _,by unfold maxLen;omega,by simp,?_⟩⟩;exact List.take_of_length_le (by simp)
theorem c8d{w0:World}(h:Below w0.heap.size w0 x)(hb:Below x.heap.size x y):Below w0.heap.size w0 y:=h.trans (hb.mono h.size)
theorem c7Y(w:World):Below w.heap.size w w.drew:=⟨rfl,rfl,rfl,Nat.le_refl _,fun _ _=>rfl⟩
theorem f6H(u:Int)(w:World)(he:Env w)(u0:0<=u)(u1:u<=9999999):
  Calls Tryz.prog 340 #[.agg #[.int .i64 u]] w fun e w'=>WR w w' [a4z,Txt.a0x u] e:=by
 go_enter Tryz.func340,Tryz.ntmps340
 go_wp2_with fail
 obtain⟨X,hX⟩:∃ X,X=w.alloc (.cells #[.int .i64 u] 167):=⟨_,rfl⟩;rw[<- hX];have hbX:Below w.heap.size w X:=by rw[hX];exact (zr _ _).alloc (zq _) _
 have eX:=he.later hbX;clear hX he;refine (d0r u X eX (by omega) (by omega)).mono ?_;rintro e w4 ⟨rfl,hbf⟩;have hb4:=c8d hbX hbf;have hs4:=hb4.size;go_wp2;go_ret;exact⟨_,rfl,d1j w _ [a4z,Txt.a0x u] w4.heap.size hs4 (heap_alloc_new w4 _) (show 2<=160 by omega),c8d hb4 ((zr _ _).alloc (zq _) _)⟩
theorem f9A(u:Int)(w:World)(he:Env w)(u0:0<=u)(u1:u<=9999999):
  Calls Tryz.prog 341 #[.agg #[.int .i64 u]] w fun e w'=>WR w w' [a6m,Txt.a0x u] e:=by
 go_enter Tryz.func341,Tryz.ntmps341
 go_wp2_with fail
 obtain⟨X,hX⟩:∃ X,X=w.alloc (.cells #[.int .i64 u] 168):=⟨_,rfl⟩;rw[<- hX];have hbX:Below w.heap.size w X:=by rw[hX];exact (zr _ _).alloc (zq _) _
 have eX:=he.later hbX;clear hX he;refine (d0r u X eX (by omega) (by omega)).mono ?_;rintro e w4 ⟨rfl,hbf⟩;have hb4:=c8d hbX hbf;have hs4:=hb4.size;go_wp2;go_ret;exact⟨_,rfl,d1j w _ [a6m,Txt.a0x u] w4.heap.size hs4 (heap_alloc_new w4 _) (show 2<=160 by omega),c8d hb4 ((zr _ _).alloc (zq _) _)⟩
theorem g2q(u:Int)(w:World)(he:Env w)(u0:0<=u)(u1:u<=9999999):
  Calls Tryz.prog 347 #[.agg #[.int .i64 u]] w fun e w'=>WR w w' [b4n,Txt.a0x u] e:=by
 go_enter Tryz.func347,Tryz.ntmps347
 go_wp2_with fail
 obtain⟨X,hX⟩:∃ X,X=w.alloc (.cells #[.int .i64 u] 182):=⟨_,rfl⟩;rw[<- hX];have hbX:Below w.heap.size w X:=by rw[hX];exact (zr _ _).alloc (zq _) _
 have eX:=he.later hbX;clear hX he;refine (d0r u X eX (by omega) (by omega)).mono ?_;rintro e w4 ⟨rfl,hbf⟩;have hb4:=c8d hbX hbf;have hs4:=hb4.size;go_wp2;go_ret;exact⟨_,rfl,d1j w _ [b4n,Txt.a0x u] w4.heap.size hs4 (heap_alloc_new w4 _) (show 2<=160 by omega),c8d hb4 ((zr _ _).alloc (zq _) _)⟩
theorem d2Z(k n:ByteArray)(u a b:Int)(w:World)(he:Env w)(u0:0<=u)(u1:u<=9999999)(a0:0<=a)(a1:a<=1048320)(b0:0<=b)(b1:b<=1048320):
  Calls Tryz.prog 329 #[.string k,.agg #[.string n,.int .i64 u,.int .i64 a,.int .i64 b]] w fun e w'=>WR w w' [k,n,Txt.a0x u,c8H a,c8H b] e:=by
 go_enter Tryz.func329,Tryz.ntmps329
 go_wp2_with fail
 obtain⟨X,hX⟩:∃ X,X=w.alloc (.cells #[.string n,.int .i64 u,.int .i64 a,.int .i64 b] 151):=⟨_,rfl⟩;rw[<- hX];have hbX:Below w.heap.size w X:=by rw[hX];exact (zr _ _).alloc (zq _) _
 have eX:=he.later hbX;have x0:X.cell? ⟨w.heap.size,0,none⟩=some (.string n):=by rw[hX];simp
 have x1:X.cell? ⟨w.heap.size,1,none⟩=some (.int .i64 u):=by rw[hX];simp
 have x2:X.cell? ⟨w.heap.size,2,none⟩=some (.int .i64 a):=by rw[hX];simp
 have x3:X.cell? ⟨w.heap.size,3,none⟩=some (.int .i64 b):=by rw[hX];simp
 have xs:w.heap.size<X.heap.size:=by rw[hX];simp
 clear hX he
 go_region_held3 (fun w'=>Env w'/\Below w.heap.size w w'/\w.heap.size<w'.heap.size/\w'.cell? ⟨w.heap.size,0,none⟩=some (.string n)/\w'.cell? ⟨w.heap.size,1,none⟩=some (.int .i64 u)/\w'.cell? ⟨w.heap.size,2,none⟩=some (.int .i64 a)/\w'.cell? ⟨w.heap.size,3,none⟩=some (.int .i64 b))
  (first
   |(refine⟨?_,?_,?_,?_,?_,?_,?_⟩ <;> go_keep)
   |(go_split_ands;exact⟨Env.later (by assumption) hbf,c8d (by assumption) hbf,Nat.lt_of_lt_of_le (by assumption) (Below.size hbf),cell_later hbf (by assumption),cell_later hbf (by assumption),cell_later hbf (by assumption),cell_later hbf (by assumption)⟩)
   |(go_split_ands;exact⟨Env.later (by assumption) ((zr _ _).alloc (zq _) _),c8d (by assumption) ((zr _ _).alloc (zq _) _),Nat.lt_of_lt_of_le (by assumption) (Below.size ((zr _ _).alloc (zq _) _)),cell_later ((zr _ _).alloc (zq _) _) (by assumption),cell_later ((zr _ _).alloc (zq _) _) (by assumption),cell_later ((zr _ _).alloc (zq _) _) (by assumption),cell_later ((zr _ _).alloc (zq _) _) (by assumption)⟩)
   |(go_split_ands;exact⟨Env.later (by assumption) (c7Y _),c8d (by assumption) (c7Y _),Nat.lt_of_lt_of_le (by assumption) (Below.size (c7Y _)),cell_later (c7Y _) (by assumption),cell_later (c7Y _) (by assumption),cell_later (c7Y _) (by assumption),cell_later (c7Y _) (by assumption)⟩))
  (first
   |(go_at_call 327;go_split_ands;refine (d0r _ _ (by assumption) (by omega) (by omega)).mono ?_;rintro e w4 ⟨rfl,hbf⟩)
   |(go_at_call 330;go_split_ands;refine (d2x _ _ (by assumption) (by omega) (by omega)).mono ?_;rintro e w4 ⟨rfl,hbf⟩))
 go_split_ands
 have hbE:Below w.heap.size w (w4.alloc (.cells #[.string k,.string n,.string (Txt.a0x u),.string (c8H a),.string (c8H b)] 9)):=by assumption
 have hsE:w.heap.size<(w4.alloc (.cells #[.string k,.string n,.string (Txt.a0x u),.string (c8H a),.string (c8H b)] 9)).heap.size:=by assumption
 have hsF:w.heap.size<w4.heap.size+1:=by simpa using hsE
 have HBE:=hide hbE;have HSF:Hid (w.heap.size<=w4.heap.size):=by show w.heap.size<=w4.heap.size;omega
 go_wp2;go_ret;exact⟨_,rfl,d1j w _ [k,n,Txt.a0x u,c8H a,c8H b] w4.heap.size HSF.out (heap_alloc_new w4 _) (show 5<=160 by omega),HBE.out⟩
theorem c8V(hB:B<=x.heap.size)(h:Below B x y)(hb:Below y.heap.size y z):Below B x z:=h.trans (hb.mono (zt hB h.size))
theorem d1E(h:Below B x y)(hb:Below y.heap.size y z):x.heap.size<=z.heap.size:=zt h.size hb.size
theorem Env.of10(h:Env x)(hB:10<=B)(hb:Below B x y):Env y:=by
 obtain⟨m,hm⟩:=h.c5L;have hc:∀ (b o:Nat) (v:Value),b<10->x.cell? ⟨b,o,none⟩=some v->y.cell? ⟨b,o,none⟩=some v:=fun b o v hb' e=>(hb.cell (p:=⟨b,o,none⟩) (show b<B by omega)).trans e
 obtain⟨c0,c1,c2,c3,c4,c5,c6,c7,c8,c9,c10,c11⟩:=h.tab;refine⟨⟨hc _ _ _ (by omega) c0,hc _ _ _ (by omega) c1,hc _ _ _ (by omega) c2,hc _ _ _ (by omega) c3,hc _ _ _ (by omega) c4,hc _ _ _ (by omega) c5,hc _ _ _ (by omega) c6,hc _ _ _ (by omega) c7,hc _ _ _ (by omega) c8,hc _ _ _ (by omega) c9,hc _ _ _ (by omega) c10,hc _ _ _ (by omega) c11⟩,⟨m,hc _ _ _ (by omega) hm⟩,?_,Nat.le_trans h.size hb.size,hc _ _ _ (by omega) h.mo,hc _ _ _ (by omega) h.tu,hc _ _ _ (by omega) h.we,hc _ _ _ (by omega) h.th,hc _ _ _ (by omega) h.fr,hc _ _ _ (by omega) h.sa,hc _ _ _ (by omega) h.su⟩;have hp:=h.pow;unfold Lib.TabIs World.var? at hp ⊢;simp only[c6q,Option.bind_some] at hp ⊢;rw[hb.block 0 (by omega)];exact hp
theorem d6L{p:Prop}(h:Below B x y)(k:Below B x y->p):Below B x y/\p:=⟨h,k h⟩
theorem g2u(n:ByteArray)(u a b:Int)(w:World)(he:Env w)(u0:0<=u)(u1:u<=9999999)(a0:0<=a)(a1:a<=1048320)(b0:0<=b)(b1:b<=1048320):
  Calls Tryz.prog 328 #[.agg #[.string n,.int .i64 u,.int .i64 a,.int .i64 b]] w fun e w'=>WR w w' [a9P,n,Txt.a0x u,c8H a,c8H b] e:=by
 go_enter Tryz.func328,Tryz.ntmps328
 go_wp2_with fail
 obtain⟨X,hX⟩:∃ X,X=w.alloc (.cells #[.string n,.int .i64 u,.int .i64 a,.int .i64 b] 154):=⟨_,rfl⟩;rw[<- hX];have hbX:Below w.heap.size w X:=by rw[hX];exact (zr _ _).alloc (zq _) _
 have eX:=he.later hbX;clear hX he;refine (d2Z a9P n u a b X eX u0 u1 a0 a1 b0 b1).mono ?_;rintro e w4 ⟨v,rfl,ho,hbf⟩;go_wp2;go_ret;exact⟨v,rfl,c9G ho hbX.size,c8d hbX hbf⟩
theorem g2s(n:ByteArray)(u a b m:Int)(w:World)(he:Env w)(u0:0<=u)(u1:u<=9999999)(a0:0<=a)(a1:a<=1048320)(b0:0<=b)(b1:b<=1048320)(m0:0<=m)(m1:m<=9999999):
  Calls Tryz.prog 334 #[.agg #[.string n,.int .i64 u,.int .i64 a,.int .i64 b,.int .i64 m]] w fun e w'=>WR w w' [b5f,n,Txt.a0x u,c8H a,c8H b,Txt.a0x m] e:=by
 obtain⟨i0,hi0,hz0,hz1,hz2⟩:=info_parts e4B
 go_enter Tryz.func334,Tryz.ntmps334
 go_wp2_with fail
 obtain⟨X,hX⟩:∃ X,X=w.alloc (.cells #[.string n,.int .i64 u,.int .i64 a,.int .i64 b,.int .i64 m] 156):=⟨_,rfl⟩;rw[<- hX];have hbX:Below w.heap.size w X:=by rw[hX];exact (zr _ _).alloc (zq _) _
 have eX:=he.later hbX;have hXs:w.heap.size+1<=X.heap.size:=by rw[hX];simp
 have hXs10:10<=w.heap.size+1:=by have:=he.size;omega
 have x0:X.cell? ⟨w.heap.size,0,none⟩=some (.string n):=by rw[hX];simp
 have x1:X.cell? ⟨w.heap.size,1,none⟩=some (.int .i64 u):=by rw[hX];simp
 have x2:X.cell? ⟨w.heap.size,2,none⟩=some (.int .i64 a):=by rw[hX];simp
 have x3:X.cell? ⟨w.heap.size,3,none⟩=some (.int .i64 b):=by rw[hX];simp
 have x4:X.cell? ⟨w.heap.size,4,none⟩=some (.int .i64 m):=by rw[hX];simp
 have bX:=zr (w.heap.size+1) X;have hZ:X.heap.size=w.heap.size+1:=by rw[hX];simp
 clear hX he
 go_region_held3 (fun w'=>Below (w.heap.size+1) X w'/\w'.cell? ⟨w.heap.size,0,none⟩=some (.string n)/\w'.cell? ⟨w.heap.size,1,none⟩=some (.int .i64 u)/\w'.cell? ⟨w.heap.size,2,none⟩=some (.int .i64 a)/\w'.cell? ⟨w.heap.size,3,none⟩=some (.int .i64 b)/\w'.cell? ⟨w.heap.size,4,none⟩=some (.int .i64 m))
  (first
   |(go_split_ands;exact d6L (c8V hXs (by assumption) hbf) (fun hk=>⟨(hk.cell (p:=⟨w.heap.size,0,none⟩) (by simp)).trans x0,(hk.cell (p:=⟨w.heap.size,1,none⟩) (by simp)).trans x1,(hk.cell (p:=⟨w.heap.size,2,none⟩) (by simp)).trans x2,(hk.cell (p:=⟨w.heap.size,3,none⟩) (by simp)).trans x3,(hk.cell (p:=⟨w.heap.size,4,none⟩) (by simp)).trans x4⟩))
   |(go_split_ands;exact d6L (c8V hXs (by assumption) ((zr _ _).alloc (zq _) _)) (fun hk=>⟨(hk.cell (p:=⟨w.heap.size,0,none⟩) (by simp)).trans x0,(hk.cell (p:=⟨w.heap.size,1,none⟩) (by simp)).trans x1,(hk.cell (p:=⟨w.heap.size,2,none⟩) (by simp)).trans x2,(hk.cell (p:=⟨w.heap.size,3,none⟩) (by simp)).trans x3,(hk.cell (p:=⟨w.heap.size,4,none⟩) (by simp)).trans x4⟩))
   |(go_split_ands;exact d6L (c8V hXs (by assumption) (c7Y _)) (fun hk=>⟨(hk.cell (p:=⟨w.heap.size,0,none⟩) (by simp)).trans x0,(hk.cell (p:=⟨w.heap.size,1,none⟩) (by simp)).trans x1,(hk.cell (p:=⟨w.heap.size,2,none⟩) (by simp)).trans x2,(hk.cell (p:=⟨w.heap.size,3,none⟩) (by simp)).trans x3,(hk.cell (p:=⟨w.heap.size,4,none⟩) (by simp)).trans x4⟩))
   |(go_split_ands;exact d6L (Below.grown (by assumption) hgrow (by simp;omega) (fun k hk=>d0U hoN hk)) (fun hk=>⟨(hk.cell (p:=⟨w.heap.size,0,none⟩) (by simp)).trans x0,(hk.cell (p:=⟨w.heap.size,1,none⟩) (by simp)).trans x1,(hk.cell (p:=⟨w.heap.size,2,none⟩) (by simp)).trans x2,(hk.cell (p:=⟨w.heap.size,3,none⟩) (by simp)).trans x3,(hk.cell (p:=⟨w.heap.size,4,none⟩) (by simp)).trans x4⟩)))
  (first
   |(
    go_at_call 329
    go_split_ands
    refine (d2Z b5f n u a b _ (Env.later eX (by rw[hZ];assumption)) u0 u1 a0 a1 b0 b1).mono ?_
    rintro e w4 ⟨v1,rfl,ho,hbf⟩)
   |(
    go_at_call 327
    go_split_ands
    have hoN:=c9G (base':=w.heap.size+1) ho (by simp;omega);refine (d0r m _ (Env.later eX (by rw[hZ];assumption)) (by omega) (by omega)).mono ?_;rintro e w5 ⟨rfl,hbf⟩
    have hs5:=d1E (B:=w.heap.size+1) (x:=X) (by assumption) hbf)
   |((refine step_append_lies _ (by rfl) _ _ _ (by rfl) (w.heap.size+1) 9 i0 _ 1 16 Tryz.underlying26 hi0 hz0 hz1 hz2 rfl (by omega) v1 5 ([b5f,n,Txt.a0x u,c8H a,c8H b].map Value.string) (by rfl) ((c9H hoN hbf).alloc _) ⟨w5.heap.size,0,none⟩ 1 1 [.string (Txt.a0x m)] (by rfl) (by rfl) (World.news_of_block (cs:=#[.string (Txt.a0x m)]) (t:=9) (fr:=(0,0)) (heap_alloc_new _ _)) (by simp[Value.oneCell']) (by omega) (by unfold maxLen;omega) (by omega) (by simp;omega) (w5.heap.size+1) (by simp) ?_;intro g cap w6 hown6 hgrow hat hltg)))
 go_split_ands
 have hbE:Below (w.heap.size+1) X w6:=by assumption
 have HBE:=hide hbE;clear hbE;go_wp2;go_ret;exact⟨_,rfl,c9G hown6 (by omega),hbX.trans (HBE.out.mono (by omega))⟩
theorem g2p(n:ByteArray)(u a b m:Int)(w:World)(he:Env w)(u0:0<=u)(u1:u<=9999999)(a0:0<=a)(a1:a<=1048320)(b0:0<=b)(b1:b<=1048320)(m0:0<=m)(m1:m<=9999999):
  Calls Tryz.prog 335 #[.agg #[.string n,.int .i64 u,.int .i64 a,.int .i64 b,.int .i64 m]] w fun e w'=>WR w w' [b4k,n,Txt.a0x u,c8H a,c8H b,Txt.a0x m] e:=by
 obtain⟨i0,hi0,hz0,hz1,hz2⟩:=info_parts e4B
 go_enter Tryz.func335,Tryz.ntmps335
 go_wp2_with fail
 obtain⟨X,hX⟩:∃ X,X=w.alloc (.cells #[.string n,.int .i64 u,.int .i64 a,.int .i64 b,.int .i64 m] 157):=⟨_,rfl⟩;rw[<- hX];have hbX:Below w.heap.size w X:=by rw[hX];exact (zr _ _).alloc (zq _) _
 have eX:=he.later hbX;have hXs:w.heap.size+1<=X.heap.size:=by rw[hX];simp
 have hXs10:10<=w.heap.size+1:=by have:=he.size;omega
 have x0:X.cell? ⟨w.heap.size,0,none⟩=some (.string n):=by rw[hX];simp
 have x1:X.cell? ⟨w.heap.size,1,none⟩=some (.int .i64 u):=by rw[hX];simp
 have x2:X.cell? ⟨w.heap.size,2,none⟩=some (.int .i64 a):=by rw[hX];simp
 have x3:X.cell? ⟨w.heap.size,3,none⟩=some (.int .i64 b):=by rw[hX];simp
 have x4:X.cell? ⟨w.heap.size,4,none⟩=some (.int .i64 m):=by rw[hX];simp
 have bX:=zr (w.heap.size+1) X;have hZ:X.heap.size=w.heap.size+1:=by rw[hX];simp
 clear hX he
 go_region_held3 (fun w'=>Below (w.heap.size+1) X w'/\w'.cell? ⟨w.heap.size,0,none⟩=some (.string n)/\w'.cell? ⟨w.heap.size,1,none⟩=some (.int .i64 u)/\w'.cell? ⟨w.heap.size,2,none⟩=some (.int .i64 a)/\w'.cell? ⟨w.heap.size,3,none⟩=some (.int .i64 b)/\w'.cell? ⟨w.heap.size,4,none⟩=some (.int .i64 m))
  (first
   |(go_split_ands;exact d6L (c8V hXs (by assumption) hbf) (fun hk=>⟨(hk.cell (p:=⟨w.heap.size,0,none⟩) (by simp)).trans x0,(hk.cell (p:=⟨w.heap.size,1,none⟩) (by simp)).trans x1,(hk.cell (p:=⟨w.heap.size,2,none⟩) (by simp)).trans x2,(hk.cell (p:=⟨w.heap.size,3,none⟩) (by simp)).trans x3,(hk.cell (p:=⟨w.heap.size,4,none⟩) (by simp)).trans x4⟩))
   |(go_split_ands;exact d6L (c8V hXs (by assumption) ((zr _ _).alloc (zq _) _)) (fun hk=>⟨(hk.cell (p:=⟨w.heap.size,0,none⟩) (by simp)).trans x0,(hk.cell (p:=⟨w.heap.size,1,none⟩) (by simp)).trans x1,(hk.cell (p:=⟨w.heap.size,2,none⟩) (by simp)).trans x2,(hk.cell (p:=⟨w.heap.size,3,none⟩) (by simp)).trans x3,(hk.cell (p:=⟨w.heap.size,4,none⟩) (by simp)).trans x4⟩))
   |(go_split_ands;exact d6L (c8V hXs (by assumption) (c7Y _)) (fun hk=>⟨(hk.cell (p:=⟨w.heap.size,0,none⟩) (by simp)).trans x0,(hk.cell (p:=⟨w.heap.size,1,none⟩) (by simp)).trans x1,(hk.cell (p:=⟨w.heap.size,2,none⟩) (by simp)).trans x2,(hk.cell (p:=⟨w.heap.size,3,none⟩) (by simp)).trans x3,(hk.cell (p:=⟨w.heap.size,4,none⟩) (by simp)).trans x4⟩))
   |(go_split_ands;exact d6L (Below.grown (by assumption) hgrow (by simp;omega) (fun k hk=>d0U hoN hk)) (fun hk=>⟨(hk.cell (p:=⟨w.heap.size,0,none⟩) (by simp)).trans x0,(hk.cell (p:=⟨w.heap.size,1,none⟩) (by simp)).trans x1,(hk.cell (p:=⟨w.heap.size,2,none⟩) (by simp)).trans x2,(hk.cell (p:=⟨w.heap.size,3,none⟩) (by simp)).trans x3,(hk.cell (p:=⟨w.heap.size,4,none⟩) (by simp)).trans x4⟩)))
  (first
   |(
    go_at_call 329
    go_split_ands
    refine (d2Z b4k n u a b _ (Env.later eX (by rw[hZ];assumption)) u0 u1 a0 a1 b0 b1).mono ?_
    rintro e w4 ⟨v1,rfl,ho,hbf⟩)
   |(
    go_at_call 327
    go_split_ands
    have hoN:=c9G (base':=w.heap.size+1) ho (by simp;omega);refine (d0r m _ (Env.later eX (by rw[hZ];assumption)) (by omega) (by omega)).mono ?_;rintro e w5 ⟨rfl,hbf⟩
    have hs5:=d1E (B:=w.heap.size+1) (x:=X) (by assumption) hbf)
   |((refine step_append_lies _ (by rfl) _ _ _ (by rfl) (w.heap.size+1) 9 i0 _ 1 16 Tryz.underlying26 hi0 hz0 hz1 hz2 rfl (by omega) v1 5 ([b4k,n,Txt.a0x u,c8H a,c8H b].map Value.string) (by rfl) ((c9H hoN hbf).alloc _) ⟨w5.heap.size,0,none⟩ 1 1 [.string (Txt.a0x m)] (by rfl) (by rfl) (World.news_of_block (cs:=#[.string (Txt.a0x m)]) (t:=9) (fr:=(0,0)) (heap_alloc_new _ _)) (by simp[Value.oneCell']) (by omega) (by unfold maxLen;omega) (by omega) (by simp;omega) (w5.heap.size+1) (by simp) ?_;intro g cap w6 hown6 hgrow hat hltg)))
 go_split_ands
 have hbE:Below (w.heap.size+1) X w6:=by assumption
 have HBE:=hide hbE;clear hbE;go_wp2;go_ret;exact⟨_,rfl,c9G hown6 (by omega),hbX.trans (HBE.out.mono (by omega))⟩
theorem DS.nat(h:DS w b acc)(k:Nat)(hk:k<7):w.cell? ⟨b,k,none⟩=some (.bool (isd acc k)):=by
 have:=h.at k (by omega) (by omega)
 simpa using this
def onL(acc:List Int):Nat->List ByteArray
 |0=>[]
 |k+1=>if isd acc k then onL acc k++[e0s k] else onL acc k
theorem f3f(acc:List Int):∀ k:Nat,(onL acc k).length<=k
 |0=>zq _
 |k+1=>by
  have:=f3f acc k;unfold onL
  split <;> simp <;> omega
theorem Env.day(h:Env w)(k:Nat)(hk:k<7):w.cell? ⟨3,k,none⟩=some (.string (e0s k)):=by
 rcases (show k=0\/k=1\/k=2\/k=3\/k=4\/k=5\/k=6 by omega) with rfl|rfl|rfl|rfl|rfl|rfl|rfl
 ·exact h.mo
 ·exact h.tu
 ·exact h.we
 ·exact h.th
 ·exact h.fr
 ·exact h.sa
 ·exact h.su
def onJ(acc:List Int):ByteArray:=⟨(Lib.join ((onL acc 7).map (·.data.toList)) [44]).toArray⟩
theorem f0F(acc:List Int)(w:World)(he:Env w)(hne:onL acc 7≠[])(hlen:(Lib.join ((onL acc 7).map (·.data.toList)) [44]).length<=160):
  Calls Tryz.prog 339 #[a3E acc] w fun e w'=>e=.returned (.string (onJ acc))/\Below w.heap.size w w':=by
 obtain⟨i0,hi,hz0,hz1,hz2⟩:=info_parts e4B;have HE:=hide he;have h10:=he.size;have HNE:=hide hne;have HLEN:=hide hlen;clear he hne hlen;simp only[a3E]
 go_enter Tryz.func339,Tryz.ntmps339
 go_wp2;obtain⟨X,hX⟩:∃ X,X=w.alloc (.cells #[.bool (isd acc 0),.bool (isd acc 1),.bool (isd acc 2),.bool (isd acc 3),.bool (isd acc 4),.bool (isd acc 5),.bool (isd acc 6)] 160):=⟨_,rfl⟩;rw[<- hX];have hbX:Below (w.heap.size+1) X X:=zr _ _;have hbw:Below w.heap.size w X:=by rw[hX];exact (zr _ _).alloc (zq _) _
 have dX:DS X w.heap.size acc:=by
  rw[hX];refine⟨?_,?_,?_,?_,?_,?_,?_,fun j=>?_⟩ <;> simp
 have hsz:w.heap.size+1=X.heap.size:=by rw[hX];simp
 have HX:=hide ((a0d HE).later hbw);clear hX
 go_loopw [3,4,5] (fun v _ i wx=>∃ k:Nat,k<=7/\i=.int .i64 k/\wx.ownsRow (w.heap.size+1) 9 1 v (onL acc k).length ((onL acc k).map Value.string)/\Below (w.heap.size+1) X wx) (fun _ _ i _=>7-(intOf i).toNat)
 case atStart=>exact⟨0,by omega,rfl,World.ownsRow_nil _ _ _ _,hbX⟩
 case round =>
  obtain⟨k,hk,rfl,hown,hbk⟩:=hrel;have hnl:=f3f acc k
  by_cases hlt:k<7
  ·have hi1:(k:Int)<7:=by omega
   have hi2:(0:Int)<=(k:Int):=Int.natCast_nonneg _;have hc:wr.cell? ⟨w.heap.size,k,none⟩=some (.bool (isd acc k)):=(hbk.cell (p:=⟨w.heap.size,k,none⟩) (by simp)).trans (dX.nat k hlt);have hday:wr.cell? ⟨3,k,none⟩=some (.string (e0s k)):=(hbk.cell (p:=⟨3,k,none⟩) (show 3<w.heap.size+1 by omega)).trans ((a0d HX).day k hlt);have hstep:onL acc (k+1)=if isd acc k then onL acc k++[e0s k] else onL acc k:=rfl
   have HST:=hide hstep;clear hstep;have hsz2:=hbk.size
   cases hm:isd acc k
   ·rw[hm] at hc;have HS2:Hid (onL acc (k+1)=onL acc k):=(a0d HST).trans (by rw[hm];rfl);go_wp2;exact⟨⟨k+1,by omega,by go_num,by rw[HS2.out];exact hown,hbk⟩,by simp[intOf];omega⟩
   ·rw[hm] at hc;have HS2:Hid (onL acc (k+1)=onL acc k++[e0s k]):=(a0d HST).trans (by rw[hm];rfl)
    go_wp2_with (first
     |(at_builtin;refine wpList_append_own _ rfl _ _ 26 rfl (w.heap.size+1) 9 i0 (.string ⟨#[]⟩) 1 16 Tryz.underlying26 hi hz0 hz1 hz2 rfl (by decide) _ _ _ rfl (hown.alloc _) ⟨wr.heap.size,0,none⟩ 1 1 [.string (e0s k)] rfl rfl ?c1 ?c2 ?c3 ?c4 ?c5 ?_))
    case c1=>exact World.news_of_block (cs:=#[.string (e0s k)]) (heap_alloc_new wr _)
    case c2=>simp[Value.oneCell']
    case c3=>unfold maxLen;omega
    case c4=>omega
    case c5=>simp;omega
    intro v' w' hown' hgrow _;have hbk':Below (w.heap.size+1) X w':=(hbk.alloc (by omega) _).grown hgrow (by simp;omega) (fun k hk=>d0U hown hk)
    have HO:Hid (w'.ownsRow (w.heap.size+1) 9 1 v' (onL acc (k+1)).length ((onL acc (k+1)).map Value.string)):=by
     show w'.ownsRow _ _ _ _ _ _;rw[HS2.out,List.map_append,List.length_append];exact c9G hown' (by omega)
    clear hown' hgrow;go_wp2;exact⟨⟨k+1,by omega,by go_num,HO.out,hbk'⟩,by simp[intOf];omega⟩
  ·obtain rfl:k=7:=by omega
   obtain⟨a,c,g,rfl,hrow⟩:=e0O hown rfl;have hpos:0<(onL acc 7).length:=List.length_pos_iff.2 (a0d HNE);obtain rfl:=hrow.at_ hpos;have HROW:=hide hrow
   have hcap:(onL acc 7).length<=c:=by
    rcases hown.2 with ⟨h,_⟩|⟨g',cap,cur,hv,_,_,hc,_⟩
    ·cases h
    ·cases hv;exact hc
   have hgl:g<wr.heap.size:=zb _ ⟨g,0,none⟩ (hrow.cells 0 hpos);clear hown hrow
   go_wp2_with fail
   refine (Tryz.strings_Join g 0 c (onL acc 7) ⟨#[44]⟩ wr (fun j x hx=>?_) hgl (by omega) hcap (zt (a0d HLEN) (by omega))).mono ?_
   ·obtain⟨hj,e⟩:=List.getElem?_eq_some_iff.1 hx;have:=(a0d HROW).cells j hj;rw[e] at this;rw[Nat.zero_add];exact this
   rintro e w' ⟨rfl,hbj⟩;have hbe:=hbw.trans (Below.trans (hbk.mono (by omega)) (hbj.mono (by have:=hbk.size;omega)));go_wp2;go_ret;exact⟨rfl,hbe⟩
theorem f2W(ev:Int)(acc:List Int)(fr mn mi ti un:Int)(w:World)(he:Env w)(e0:0<=ev)(e1:ev<=9999999):
  Calls Tryz.prog 338 #[b9E 1 ev acc fr mn mi ti un] w fun e w'=>WR w w' [b0Y,Txt.a0x ev] e:=by
 simp only[b9E]
 go_enter Tryz.func338,Tryz.ntmps338
 go_wp2_with fail
 obtain⟨X,hX⟩:∃ X,X=w.alloc (.cells #[.int .i64 1,.int .i64 ev,.bool (isd acc 0),.bool (isd acc 1),.bool (isd acc 2),.bool (isd acc 3),.bool (isd acc 4),.bool (isd acc 5),.bool (isd acc 6),.int .i64 fr,.int .i64 mn,.int .i64 mi,.int .i64 ti,.int .i64 un] 162):=⟨_,rfl⟩;rw[<- hX];have hbX:Below w.heap.size w X:=by rw[hX];exact (zr _ _).alloc (zq _) _
 have eX:=he.later hbX;clear hX he;refine (d0r ev X eX (by omega) (by omega)).mono ?_;rintro e w4 ⟨rfl,hbf⟩;have hb4:=c8d hbX hbf;have hs4:=hb4.size;go_wp2;go_ret;exact⟨_,rfl,d1j w _ [b0Y,Txt.a0x ev] w4.heap.size hs4 (heap_alloc_new w4 _) (show 2<=160 by omega),c8d hb4 ((zr _ _).alloc (zq _) _)⟩
theorem e6e(ev:Int)(acc:List Int)(fr mn mi ti un:Int)(w:World)(he:Env w)(e0:0<=ev)(e1:ev<=9999999):
  Calls Tryz.prog 338 #[b9E 3 ev acc fr mn mi ti un] w fun e w'=>WR w w' [a8w,Txt.a0x ev] e:=by
 simp only[b9E]
 go_enter Tryz.func338,Tryz.ntmps338
 go_wp2_with fail
 obtain⟨X,hX⟩:∃ X,X=w.alloc (.cells #[.int .i64 3,.int .i64 ev,.bool (isd acc 0),.bool (isd acc 1),.bool (isd acc 2),.bool (isd acc 3),.bool (isd acc 4),.bool (isd acc 5),.bool (isd acc 6),.int .i64 fr,.int .i64 mn,.int .i64 mi,.int .i64 ti,.int .i64 un] 162):=⟨_,rfl⟩;rw[<- hX];have hbX:Below w.heap.size w X:=by rw[hX];exact (zr _ _).alloc (zq _) _
 have eX:=he.later hbX;clear hX he;refine (d0r ev X eX (by omega) (by omega)).mono ?_;rintro e w4 ⟨rfl,hbf⟩;have hb4:=c8d hbX hbf;have hs4:=hb4.size;go_wp2;go_ret;exact⟨_,rfl,d1j w _ [a8w,Txt.a0x ev] w4.heap.size hs4 (heap_alloc_new w4 _) (show 2<=160 by omega),c8d hb4 ((zr _ _).alloc (zq _) _)⟩
theorem f0E(ev:Int)(acc:List Int)(fr mn mi ti un:Int)(w:World)(he:Env w)(e0:0<=ev)(e1:ev<=9999999)(hne:onL acc 7≠[])(hlen:(Lib.join ((onL acc 7).map (·.data.toList)) [44]).length<=160):
  Calls Tryz.prog 338 #[b9E 2 ev acc fr mn mi ti un] w fun e w'=>WR w w' [a8D,Txt.a0x ev,onJ acc] e:=by
 have HNE:=hide hne;have HLEN:=hide hlen;clear hne hlen;simp only[b9E]
 go_enter Tryz.func338,Tryz.ntmps338
 go_wp2_with fail
 obtain⟨X,hX⟩:∃ X,X=w.alloc (.cells #[.int .i64 2,.int .i64 ev,.bool (isd acc 0),.bool (isd acc 1),.bool (isd acc 2),.bool (isd acc 3),.bool (isd acc 4),.bool (isd acc 5),.bool (isd acc 6),.int .i64 fr,.int .i64 mn,.int .i64 mi,.int .i64 ti,.int .i64 un] 162):=⟨_,rfl⟩;rw[<- hX];have hbX:Below w.heap.size w X:=by rw[hX];exact (zr _ _).alloc (zq _) _
 have eX:=he.later hbX;have hXs:w.heap.size+1<=X.heap.size:=by rw[hX];simp
 have hXs10:10<=w.heap.size+1:=by have:=he.size;omega
 have x0:X.cell? ⟨w.heap.size,0,none⟩=some (.int .i64 2):=by rw[hX];simp
 have x1:X.cell? ⟨w.heap.size,1,none⟩=some (.int .i64 ev):=by rw[hX];simp
 have x2:X.cell? ⟨w.heap.size,2,none⟩=some (.bool (isd acc 0)):=by rw[hX];simp
 have x3:X.cell? ⟨w.heap.size,3,none⟩=some (.bool (isd acc 1)):=by rw[hX];simp
 have x4:X.cell? ⟨w.heap.size,4,none⟩=some (.bool (isd acc 2)):=by rw[hX];simp
 have x5:X.cell? ⟨w.heap.size,5,none⟩=some (.bool (isd acc 3)):=by rw[hX];simp
 have x6:X.cell? ⟨w.heap.size,6,none⟩=some (.bool (isd acc 4)):=by rw[hX];simp
 have x7:X.cell? ⟨w.heap.size,7,none⟩=some (.bool (isd acc 5)):=by rw[hX];simp
 have x8:X.cell? ⟨w.heap.size,8,none⟩=some (.bool (isd acc 6)):=by rw[hX];simp
 have x9:X.cell? ⟨w.heap.size,9,none⟩=some (.int .i64 fr):=by rw[hX];simp
 have x10:X.cell? ⟨w.heap.size,10,none⟩=some (.int .i64 mn):=by rw[hX];simp
 have x11:X.cell? ⟨w.heap.size,11,none⟩=some (.int .i64 mi):=by rw[hX];simp
 have x12:X.cell? ⟨w.heap.size,12,none⟩=some (.int .i64 ti):=by rw[hX];simp
 have x13:X.cell? ⟨w.heap.size,13,none⟩=some (.int .i64 un):=by rw[hX];simp
 have bX:=zr (w.heap.size+1) X;clear hX he;have hZ2:w.heap.size+1<=X.heap.size:=hXs
 go_region_held3 (fun w'=>Below (w.heap.size+1) X w'/\w'.cell? ⟨w.heap.size,0,none⟩=some (.int .i64 2)/\w'.cell? ⟨w.heap.size,1,none⟩=some (.int .i64 ev)/\w'.cell? ⟨w.heap.size,2,none⟩=some (.bool (isd acc 0))/\w'.cell? ⟨w.heap.size,3,none⟩=some (.bool (isd acc 1))/\w'.cell? ⟨w.heap.size,4,none⟩=some (.bool (isd acc 2))/\w'.cell? ⟨w.heap.size,5,none⟩=some (.bool (isd acc 3))/\w'.cell? ⟨w.heap.size,6,none⟩=some (.bool (isd acc 4))/\w'.cell? ⟨w.heap.size,7,none⟩=some (.bool (isd acc 5))/\w'.cell? ⟨w.heap.size,8,none⟩=some (.bool (isd acc 6))/\w'.cell? ⟨w.heap.size,9,none⟩=some (.int .i64 fr)/\w'.cell? ⟨w.heap.size,10,none⟩=some (.int .i64 mn)/\w'.cell? ⟨w.heap.size,11,none⟩=some (.int .i64 mi)/\w'.cell? ⟨w.heap.size,12,none⟩=some (.int .i64 ti)/\w'.cell? ⟨w.heap.size,13,none⟩=some (.int .i64 un))
  (first
   |(go_split_ands;exact d6L (c8V hXs (by assumption) hbf) (fun hk=>⟨(hk.cell (p:=⟨w.heap.size,0,none⟩) (by simp)).trans x0,(hk.cell (p:=⟨w.heap.size,1,none⟩) (by simp)).trans x1,(hk.cell (p:=⟨w.heap.size,2,none⟩) (by simp)).trans x2,(hk.cell (p:=⟨w.heap.size,3,none⟩) (by simp)).trans x3,(hk.cell (p:=⟨w.heap.size,4,none⟩) (by simp)).trans x4,(hk.cell (p:=⟨w.heap.size,5,none⟩) (by simp)).trans x5,(hk.cell (p:=⟨w.heap.size,6,none⟩) (by simp)).trans x6,(hk.cell (p:=⟨w.heap.size,7,none⟩) (by simp)).trans x7,(hk.cell (p:=⟨w.heap.size,8,none⟩) (by simp)).trans x8,(hk.cell (p:=⟨w.heap.size,9,none⟩) (by simp)).trans x9,(hk.cell (p:=⟨w.heap.size,10,none⟩) (by simp)).trans x10,(hk.cell (p:=⟨w.heap.size,11,none⟩) (by simp)).trans x11,(hk.cell (p:=⟨w.heap.size,12,none⟩) (by simp)).trans x12,(hk.cell (p:=⟨w.heap.size,13,none⟩) (by simp)).trans x13⟩))
   |(go_split_ands;exact d6L (c8V hXs (by assumption) ((zr _ _).alloc (zq _) _)) (fun hk=>⟨(hk.cell (p:=⟨w.heap.size,0,none⟩) (by simp)).trans x0,(hk.cell (p:=⟨w.heap.size,1,none⟩) (by simp)).trans x1,(hk.cell (p:=⟨w.heap.size,2,none⟩) (by simp)).trans x2,(hk.cell (p:=⟨w.heap.size,3,none⟩) (by simp)).trans x3,(hk.cell (p:=⟨w.heap.size,4,none⟩) (by simp)).trans x4,(hk.cell (p:=⟨w.heap.size,5,none⟩) (by simp)).trans x5,(hk.cell (p:=⟨w.heap.size,6,none⟩) (by simp)).trans x6,(hk.cell (p:=⟨w.heap.size,7,none⟩) (by simp)).trans x7,(hk.cell (p:=⟨w.heap.size,8,none⟩) (by simp)).trans x8,(hk.cell (p:=⟨w.heap.size,9,none⟩) (by simp)).trans x9,(hk.cell (p:=⟨w.heap.size,10,none⟩) (by simp)).trans x10,(hk.cell (p:=⟨w.heap.size,11,none⟩) (by simp)).trans x11,(hk.cell (p:=⟨w.heap.size,12,none⟩) (by simp)).trans x12,(hk.cell (p:=⟨w.heap.size,13,none⟩) (by simp)).trans x13⟩))
   |(go_split_ands;exact d6L (c8V hXs (by assumption) (c7Y _)) (fun hk=>⟨(hk.cell (p:=⟨w.heap.size,0,none⟩) (by simp)).trans x0,(hk.cell (p:=⟨w.heap.size,1,none⟩) (by simp)).trans x1,(hk.cell (p:=⟨w.heap.size,2,none⟩) (by simp)).trans x2,(hk.cell (p:=⟨w.heap.size,3,none⟩) (by simp)).trans x3,(hk.cell (p:=⟨w.heap.size,4,none⟩) (by simp)).trans x4,(hk.cell (p:=⟨w.heap.size,5,none⟩) (by simp)).trans x5,(hk.cell (p:=⟨w.heap.size,6,none⟩) (by simp)).trans x6,(hk.cell (p:=⟨w.heap.size,7,none⟩) (by simp)).trans x7,(hk.cell (p:=⟨w.heap.size,8,none⟩) (by simp)).trans x8,(hk.cell (p:=⟨w.heap.size,9,none⟩) (by simp)).trans x9,(hk.cell (p:=⟨w.heap.size,10,none⟩) (by simp)).trans x10,(hk.cell (p:=⟨w.heap.size,11,none⟩) (by simp)).trans x11,(hk.cell (p:=⟨w.heap.size,12,none⟩) (by simp)).trans x12,(hk.cell (p:=⟨w.heap.size,13,none⟩) (by simp)).trans x13⟩))
   |(go_split_ands;exact d6L (Below.grown (by assumption) hgrow (by simp;omega) (fun k hk=>d0U hoN hk)) (fun hk=>⟨(hk.cell (p:=⟨w.heap.size,0,none⟩) (by simp)).trans x0,(hk.cell (p:=⟨w.heap.size,1,none⟩) (by simp)).trans x1,(hk.cell (p:=⟨w.heap.size,2,none⟩) (by simp)).trans x2,(hk.cell (p:=⟨w.heap.size,3,none⟩) (by simp)).trans x3,(hk.cell (p:=⟨w.heap.size,4,none⟩) (by simp)).trans x4,(hk.cell (p:=⟨w.heap.size,5,none⟩) (by simp)).trans x5,(hk.cell (p:=⟨w.heap.size,6,none⟩) (by simp)).trans x6,(hk.cell (p:=⟨w.heap.size,7,none⟩) (by simp)).trans x7,(hk.cell (p:=⟨w.heap.size,8,none⟩) (by simp)).trans x8,(hk.cell (p:=⟨w.heap.size,9,none⟩) (by simp)).trans x9,(hk.cell (p:=⟨w.heap.size,10,none⟩) (by simp)).trans x10,(hk.cell (p:=⟨w.heap.size,11,none⟩) (by simp)).trans x11,(hk.cell (p:=⟨w.heap.size,12,none⟩) (by simp)).trans x12,(hk.cell (p:=⟨w.heap.size,13,none⟩) (by simp)).trans x13⟩)))
  (first
   |(
    go_at_call 327
    go_split_ands
    refine (d0r _ _ (eX.of10 hXs10 (by assumption)) (by omega) (by omega)).mono ?_
    rintro e w4 ⟨rfl,hbf⟩)
   |(
    go_at_call 339
    go_split_ands
    refine (f0F acc _ (eX.of10 hXs10 (by assumption)) (a0d HNE) (a0d HLEN)).mono ?_;rintro e w5 ⟨rfl,hbf⟩
    have hs5:=d1E (B:=w.heap.size+1) (x:=X) (by assumption) hbf))
 go_split_ands
 have hbE:Below (w.heap.size+1) X (w5.alloc (.cells #[.string ⟨#[119,101,101,107,108,121]⟩,.string (Txt.a0x ev),.string (onJ acc)] 9)):=by assumption
 have HBE:=hide hbE;have hs6:w.heap.size<=w5.heap.size:=by omega
 clear hbE;go_wp2;go_ret;exact⟨_,rfl,d1j w _ [a8D,Txt.a0x ev,onJ acc] w5.heap.size hs6 (heap_alloc_new w5 _) (show 3<=160 by omega),hbX.trans (HBE.out.mono (by omega))⟩
def e7C(fr mn mi:Int):List ByteArray:=[a1t,d0L fr,atW,d8f mn,b3z,Txt.a0x mi]
inductive PaW:Int->Int->List Int->List ByteArray->Prop where
 |daily (ev:Int) (acc:List Int) (e0:0<=ev) (e1:ev<=9999999):PaW 1 ev acc [b0Y,Txt.a0x ev]
 |weekly (ev:Int) (acc:List Int) (e0:0<=ev) (e1:ev<=9999999) (hne:onL acc 7≠[]) (hlen:(Lib.join ((onL acc 7).map (·.data.toList)) [44]).length<=160):PaW 2 ev acc [a8D,Txt.a0x ev,onJ acc]
 |monthly (ev:Int) (acc:List Int) (e0:0<=ev) (e1:ev<=9999999):PaW 3 ev acc [a8w,Txt.a0x ev]
inductive EnW:Int->Int->List ByteArray->Prop where
 |times (ti un:Int) (t0:0<ti) (t1:ti<=9999999):EnW ti un [b2z,Txt.a0x ti]
 |til (un:Int) (u0:0<=un) (u1:un<=728):EnW 0 un [b5O,d0L un]
inductive RW:Int->Int->List Int->Int->Int->Int->Int->Int->List ByteArray->Prop where
 |mk (pc ev:Int) (acc:List Int) (fr mn mi ti un:Int) (ps es:List ByteArray) (hp:PaW pc ev acc ps) (he:EnW ti un es) (f0:0<=fr) (f1:fr<=728) (m0:0<=mn) (m1:mn<1440) (i0:0<=mi) (i1:mi<=9999999):RW pc ev acc fr mn mi ti un (ps++e7C fr mn mi++es)
inductive PW:Value->List ByteArray->Prop where
 |a0k (n:ByteArray) (u:Int) (u0:0<=u) (u1:u<=9999999):PW (.iface 149 (.agg #[.string n,.int .i64 u])) [a3F,n,Txt.a0x u]
 |book (n:ByteArray) (u a b:Int) (u0:0<=u) (u1:u<=9999999) (a0:0<=a) (a1:a<=1048320) (b0:0<=b) (b1:b<=1048320):PW (.iface 154 (.agg #[.string n,.int .i64 u,.int .i64 a,.int .i64 b])) [a9P,n,Txt.a0x u,c8H a,c8H b]
 |hold (n:ByteArray) (u a b m:Int) (u0:0<=u) (u1:u<=9999999) (a0:0<=a) (a1:a<=1048320) (b0:0<=b) (b1:b<=1048320) (m0:0<=m) (m1:m<=9999999):PW (.iface 156 (.agg #[.string n,.int .i64 u,.int .i64 a,.int .i64 b,.int .i64 m])) [b5f,n,Txt.a0x u,c8H a,c8H b,Txt.a0x m]
 |wait (n:ByteArray) (u a b m:Int) (u0:0<=u) (u1:u<=9999999) (a0:0<=a) (a1:a<=1048320) (b0:0<=b) (b1:b<=1048320) (m0:0<=m) (m1:m<=9999999):PW (.iface 157 (.agg #[.string n,.int .i64 u,.int .i64 a,.int .i64 b,.int .i64 m])) [b4k,n,Txt.a0x u,c8H a,c8H b,Txt.a0x m]
 |series (n:ByteArray) (u pc ev:Int) (acc:List Int) (fr mn mi ti un:Int) (xs:List ByteArray) (u0:0<=u) (u1:u<=9999999) (hr:RW pc ev acc fr mn mi ti un xs):PW (.iface 165 (.agg #[.string n,.int .i64 u,.int .i64 pc,.int .i64 ev,.bool (isd acc 0),.bool (isd acc 1),.bool (isd acc 2),.bool (isd acc 3),.bool (isd acc 4),.bool (isd acc 5),.bool (isd acc 6),.int .i64 fr,.int .i64 mn,.int .i64 mi,.int .i64 ti,.int .i64 un])) ([a7l,n,Txt.a0x u]++xs)
 |confirm (u:Int) (u0:0<=u) (u1:u<=9999999):PW (.iface 167 (.agg #[.int .i64 u])) [a4z,Txt.a0x u]
 |cancel (u:Int) (u0:0<=u) (u1:u<=9999999):PW (.iface 168 (.agg #[.int .i64 u])) [a6m,Txt.a0x u]
 |list0 (n:ByteArray) (a b:Int):PW (.iface 170 (.agg #[.string n,.bool false,.int .i64 a,.int .i64 b])) [a5Q,n]
 |list1 (n:ByteArray) (a b:Int) (a0:0<=a) (a1:a<=1048320) (b0:0<=b) (b1:b<=1048320):PW (.iface 170 (.agg #[.string n,.bool true,.int .i64 a,.int .i64 b])) [a5Q,n,c8H a,c8H b]
 |waiting:PW (.iface 173 (.agg #[])) [a5q]
 |peak (n:ByteArray) (a b:Int) (a0:0<=a) (a1:a<=1048320) (b0:0<=b) (b1:b<=1048320):PW (.iface 176 (.agg #[.string n,.int .i64 a,.int .i64 b])) [a9a,n,c8H a,c8H b]
 |find (n:ByteArray) (u m a b:Int) (u0:0<=u) (u1:u<=9999999) (m0:0<=m) (m1:m<=9999999) (a0:0<=a) (a1:a<=1048320) (b0:0<=b) (b1:b<=1048320):PW (.iface 178 (.agg #[.string n,.int .i64 u,.int .i64 m,.int .i64 a,.int .i64 b])) [b5h,n,Txt.a0x u,Txt.a0x m,c8H a,c8H b]
 |expand (pc ev:Int) (acc:List Int) (fr mn mi ti un:Int) (xs:List ByteArray) (hr:RW pc ev acc fr mn mi ti un xs):PW (.iface 180 (.agg #[.int .i64 pc,.int .i64 ev,.bool (isd acc 0),.bool (isd acc 1),.bool (isd acc 2),.bool (isd acc 3),.bool (isd acc 4),.bool (isd acc 5),.bool (isd acc 6),.int .i64 fr,.int .i64 mn,.int .i64 mi,.int .i64 ti,.int .i64 un])) ([a7M]++xs)
 |tick (u:Int) (u0:0<=u) (u1:u<=9999999):PW (.iface 182 (.agg #[.int .i64 u])) [b4n,Txt.a0x u]
 |clock:PW (.iface 183 (.agg #[])) [b1c]
def jn(xs:List ByteArray):ByteArray:=⟨(Lib.join (xs.map (·.data.toList)) [32]).toArray⟩
def d9U(d:Nat):Bool:=Txt.a5j (d0L d) && decide (Txt.a2o (d0L d)=d) && decide ((d0L d).size=10) && Txt.a3V (d0L d).data.toList
def f5v(m:Nat):Bool:=Txt.a3a (d8f m) && decide (Txt.a6J (d8f m)=m) && decide ((d8f m).size=5) && Txt.a3V (d8f m).data.toList
theorem g0q:((List.range 81).all fun d=>d9U (d+0))=true:=by decide +kernel
theorem g0p:((List.range 81).all fun d=>d9U (d+81))=true:=by decide +kernel
theorem g0o:((List.range 81).all fun d=>d9U (d+162))=true:=by decide +kernel
theorem g0n:((List.range 81).all fun d=>d9U (d+243))=true:=by decide +kernel
theorem g0m:((List.range 81).all fun d=>d9U (d+324))=true:=by decide +kernel
theorem g0l:((List.range 81).all fun d=>d9U (d+405))=true:=by decide +kernel
theorem g0k:((List.range 81).all fun d=>d9U (d+486))=true:=by decide +kernel
theorem g0j:((List.range 81).all fun d=>d9U (d+567))=true:=by decide +kernel
theorem g0i:((List.range 81).all fun d=>d9U (d+648))=true:=by decide +kernel
theorem g1t:((List.range 180).all fun d=>f5v (d+0))=true:=by decide +kernel
theorem g1s:((List.range 180).all fun d=>f5v (d+180))=true:=by decide +kernel
theorem g1r:((List.range 180).all fun d=>f5v (d+360))=true:=by decide +kernel
theorem g1q:((List.range 180).all fun d=>f5v (d+540))=true:=by decide +kernel
theorem g1p:((List.range 180).all fun d=>f5v (d+720))=true:=by decide +kernel
theorem g1o:((List.range 180).all fun d=>f5v (d+900))=true:=by decide +kernel
theorem g1n:((List.range 180).all fun d=>f5v (d+1080))=true:=by decide +kernel
theorem g1m:((List.range 180).all fun d=>f5v (d+1260))=true:=by decide +kernel
theorem c9A{f:Nat->Bool}{a:Nat}(h:((List.range n).all fun d=>f (d+a))=true)(h1:a<=d)(h2:d<a+n):f d=true:=by
 have:=List.all_eq_true.1 h (d-a) (List.mem_range.2 (by omega));have e:d-a+a=d:=by omega
 simpa only[e] using this
theorem f4v(h:d<729):d9U d=true:=by
 by_cases h0:d<81
 ·exact c9A g0q (by omega) (by omega)
 by_cases h1:d<162
 ·exact c9A g0p (by omega) (by omega)
 by_cases h2:d<243
 ·exact c9A g0o (by omega) (by omega)
 by_cases h3:d<324
 ·exact c9A g0n (by omega) (by omega)
 by_cases h4:d<405
 ·exact c9A g0m (by omega) (by omega)
 by_cases h5:d<486
 ·exact c9A g0l (by omega) (by omega)
 by_cases h6:d<567
 ·exact c9A g0k (by omega) (by omega)
 by_cases h7:d<648
 ·exact c9A g0j (by omega) (by omega)
 by_cases h8:d<729
 ·exact c9A g0i (by omega) (by omega)
 omega
theorem f6P(h:d<1440):f5v d=true:=by
 by_cases h0:d<180
 ·exact c9A g1t (by omega) (by omega)
 by_cases h1:d<360
 ·exact c9A g1s (by omega) (by omega)
 by_cases h2:d<540
 ·exact c9A g1r (by omega) (by omega)
 by_cases h3:d<720
 ·exact c9A g1q (by omega) (by omega)
 by_cases h4:d<900
 ·exact c9A g1p (by omega) (by omega)
 by_cases h5:d<1080
 ·exact c9A g1o (by omega) (by omega)
 by_cases h6:d<1260
 ·exact c9A g1n (by omega) (by omega)
 by_cases h7:d<1440
 ·exact c9A g1m (by omega) (by omega)
 omega
theorem f8c(h:d<729):Txt.a5j (d0L d)=true/\Txt.a2o (d0L d)=d/\(d0L d).size=10/\Txt.a3V (d0L d).data.toList=true:=by
 have:=f4v h;unfold d9U at this;simp only[Bool.and_eq_true,decide_eq_true_eq] at this;exact⟨this.1.1.1,this.1.1.2,this.1.2,this.2⟩
theorem f9H{m:Nat}(h:m<1440):Txt.a3a (d8f m)=true/\Txt.a6J (d8f m)=m/\(d8f m).size=5/\Txt.a3V (d8f m).data.toList=true:=by
 have:=f6P h;unfold f5v at this;simp only[Bool.and_eq_true,decide_eq_true_eq] at this;exact⟨this.1.1.1,this.1.1.2,this.1.2,this.2⟩
def d2B:List Nat:=[154,156,157,165,167,168,182]
inductive e3l:List UInt8->List UInt8->Prop where
 |nil:e3l [] [32,32]
 |same {s o:List UInt8}(h:e3l s o) (c:UInt8):e3l (s++[c]) (o++[c])
 |more {s o:List UInt8}(h:e3l s o):e3l (s++[32]) (o++[32]++[32])
theorem e3l.fold{s:List UInt8}(h:e3l s o):o.foldl Txt.b1m ([],[])=s.foldl Txt.b1m ([],[]):=by
 induction h with
 |nil=>rfl
 |same _ c ih=>rw[List.foldl_append,List.foldl_append,ih]
 |more _ ih =>
  rw[List.foldl_append,List.foldl_append,List.foldl_append,ih];generalize List.foldl Txt.b1m ([],[]) _=x;have e:Txt.b1m x 32=(Txt.c1V x,[]):=Txt.b7S x;show Txt.b1m (Txt.b1m x 32) 32=Txt.b1m x 32;rw[e,Txt.e5P]
theorem e3l.len{s:List UInt8}(h:e3l s o):o.length<=2+2*s.length:=by
 induction h with
 |nil=>simp
 |same _ c ih=>simp only[List.length_append,List.length_cons,List.length_nil];omega
 |more _ ih=>simp only[List.length_append,List.length_cons,List.length_nil];omega
theorem e3l.words{s o:ByteArray}(h:e3l s.data.toList o.data.toList):Txt.a1v o=Txt.a1v s:=by
 refine Txt.c1R ?_;rw[Txt.b7B];unfold Txt.b2u Txt.c4p;rw[h.fold]
theorem d8q{n:Int}(h0:0<=n)(h1:n<=1048320):a0n (c8H n)=true/\a1J (c8H n)=n/\Txt.a3V (c8H n).data.toList=true/\(c8H n).size=16:=by
 obtain⟨d,hd⟩:=Int.eq_ofNat_of_zero_le (show 0<=n / 1440 by omega);obtain⟨m,hm⟩:=Int.eq_ofNat_of_zero_le (show 0<=n % 1440 by omega);obtain⟨a1,a2,a3,a4⟩:=f8c (d:=d) (by omega);obtain⟨b1,b2,b3,b4⟩:=f9H (m:=m) (by omega)
 have e:c8H n=d0L (d:Int)++⟨#[47]⟩++d8f (m:Int):=by
  unfold c8H;rw[hd,hm]
 have hn:n=(d:Int)*1440+(m:Int):=by omega
 clear hd hm;generalize d0L (d:Int)=D at *;generalize d8f (m:Int)=M at *;generalize c8H n=T at *
 have el:T.data.toList=D.data.toList++(47 :: M.data.toList):=by
  rw[e,Txt.a1X,Txt.a1X,List.append_assoc];rfl
 have l1:D.data.toList.length=10:=by rw[Txt.a1l];exact a3
 have l2:M.data.toList.length=5:=by rw[Txt.a1l];exact b3
 have hs:T.size=16:=by
  rw[<- Txt.a1l,el,List.length_append,List.length_cons,l1,l2]
 have x1:T.extract 0 10=D:=Txt.a7x (by
  rw[Txt.a3g,el,List.drop_zero,List.take_append_of_le_length (by omega),List.take_of_length_le (by omega)])
 have x2:T.extract 11 16=M:=Txt.a7x (by
  rw[Txt.a3g,el,List.take_of_length_le (by rw[List.length_append,List.length_cons,l1,l2];omega),List.drop_append,l1,List.drop_of_length_le (by omega)]
  rfl)
 have x3:Txt.a0V T 10=47:=by
  have h:T.data.toList[10]?=some 47:=by
   rw[el,List.getElem?_append_right (by omega),l1];rfl
  unfold Txt.a0V;rw[List.getD_eq_getElem?_getD,h];rfl
 have hdm:Txt.dmB T=true:=by
  unfold Txt.dmB;exact decide_eq_true ⟨hs,x3,by rw[x1];exact a1,by rw[x2];exact b1⟩
 have hnum:Txt.isNum T.data.toList=false:=Txt.b3o (by rw[Txt.a1l,hs];omega)
 have hv:a8J T=n:=by
  unfold a8J Txt.dmV;rw[hnum,hdm,x1,x2];simp only[Bool.false_eq_true,if_false,if_true];rw[a2,b2,hn]
 have hB:a0n T=true:=by
  unfold a0n;rw[hv,hdm];simp only[Bool.or_true,Bool.true_and,decide_eq_true_eq];exact⟨h0,h1⟩
 refine⟨hB,?_,?_,hs⟩
 ·unfold a1J;rw[hB,hv];rfl
 ·rw[el];have w1:=(Txt.a8C.1 a4).2;have w2:=(Txt.a8C.1 b4).2;refine Txt.a8C.2 ⟨by simp,fun c hc=>?_⟩;rcases List.mem_append.1 hc with hc|hc
  ·exact w1 c hc
  ·rcases List.mem_cons.1 hc with rfl|hc
   ·decide
   ·exact w2 c hc
open Desk (Ent)
structure SV(w:World)(v:Value)(L:List (Int × Int)):Prop where
 form:∃ a cap,v=.slice a L.length cap
 cell:∀ (k:Nat) (hk:k<L.length),∃ g cap,v=.slice (some ⟨g,0,none⟩) L.length cap/\w.cell? ⟨g,k*2,none⟩=some (.int .i64 L[k].1)/\w.cell? ⟨g,k*2+1,none⟩=some (.int .i64 L[k].2)
theorem SV.later(h:SV w v L)(k:Below w.heap.size w w'):SV w' v L :=
 ⟨h.form,fun i hi=>by
  obtain⟨g,cap,e,a,b⟩:=h.cell i hi
  exact⟨g,cap,e,a0a k a,a0a k b⟩⟩
structure EV(w:World)(v:Value)(l:List (Ent × Value)):Prop where
 form:∃ a cap,v=.slice a l.length cap
 cell:∀ (k:Nat) (hk:k<l.length),∃ g cap,v=.slice (some ⟨g,0,none⟩) l.length cap/\w.cell? ⟨g,k*6,none⟩=some (.int .i64 l[k].1.id)/\w.cell? ⟨g,k*6+1,none⟩=some (.int .i64 l[k].1.kind)/\w.cell? ⟨g,k*6+2,none⟩=some (.string l[k].1.a0k)/\w.cell? ⟨g,k*6+3,none⟩=some (.int .i64 l[k].1.a0c)/\w.cell? ⟨g,k*6+4,none⟩=some l[k].2/\w.cell? ⟨g,k*6+5,none⟩=some (.int .i64 l[k].1.a0Z)
 sp:∀ p∈l,SV w p.2 p.1.a0e
theorem EV.later(h:EV w v l)(k:Below w.heap.size w w'):EV w' v l :=
 ⟨h.form,fun i hi=>by
  obtain⟨g,cap,e,a0,a1,a2,a3,a4,a5⟩:=h.cell i hi
  exact⟨g,cap,e,a0a k a0,a0a k a1,a0a k a2,a0a k a3,a0a k a4,a0a k a5⟩,fun p hp=>(h.sp p hp).later k⟩
namespace Desk
theorem b3t{a b:Int}{x:Ent}:∀ l:List Ent,(c0F a b x l).Perm (x :: l)
 |[]=>by simp[c0F]
 |y :: r=>by
  simp only[c0F]
  split
  ·exact List.Perm.refl _
  ·exact ((b3t r).cons y).trans (List.Perm.swap x y r)
theorem a3Y{a b:Int}:∀ l:List Ent,(b2J a b l).Perm l
 |[]=>List.Perm.refl _
 |x :: r=>(b3t _).trans ((a3Y r).cons x)
end Desk
open Desk (Ent a0r hasB)
theorem SV.own(h:w.ownsRow B 60 2 v L.length (L.flatMap spV)):SV w v L:=by
 refine⟨a0B h,fun k hk=>?_⟩;obtain⟨g,cap,e⟩:=Joins.ownsRow_form h (by omega);subst e;obtain⟨f1,f2⟩:=b3B k hk;have hl:=b0S L;have a0:=h.cellAt (k*2) (by omega);have a1:=h.cellAt (k*2+1) (by omega);rw[f1] at a0;rw[f2] at a1;exact⟨g,cap,rfl,a0,a1⟩
theorem EV.own(h:w.ownsRow B 58 6 v l.length (l.flatMap a1f))(sp:∀ p∈l,SV w p.2 p.1.a0e):EV w v l:=by
 refine⟨a0B h,fun k hk=>?_,sp⟩;obtain⟨g,cap,e⟩:=Joins.ownsRow_form h (by omega);subst e
 have at_:∀ j,j<6->w.cell? ⟨g,k*6+j,none⟩=(a1f l[k])[j]?:=fun j hj=>by
  have a0:=h.cellAt (k*6+j) (by omega);rw[a3M hk hj] at a0;exact a0
 exact⟨g,cap,rfl,at_ 0 (by omega),at_ 1 (by omega),at_ 2 (by omega),at_ 3 (by omega),at_ 4 (by omega),at_ 5 (by omega)⟩
theorem a3j.ev(h:a3j w B col v l):EV w v l:=EV.own h.own (fun p hp=>SV.own (h.sp p hp).1.own)
namespace Desk
end Desk
namespace Desk
theorem a8T(h:Inv s){l:a7U}(hl:(a0g s l).1=s):a1q s l=(s,(a0g s l).2):=by
 unfold a1q
 by_cases c:(a0g s l).2.err≠0
 ·rw[if_pos c];exact Prod.ext hl rfl
 ·rw[if_neg c,hl,a9s h];simp only[List.append_nil]
end Desk
namespace Desk
theorem c0Z(s:St)(l:a7U):(a0g s l).1.ts=s.ts\/∃ t,(a0g s l).1.ts=s.ts++[t]:=by
 cases l <;> simp only[a0g,a2t]
 case a0k name u =>
  split
  ·exact .inl rfl
  ·split
   ·exact .inl rfl
   ·exact .inr ⟨_,rfl⟩
 case enter=>split <;> exact .inl rfl
 case series=>split <;> exact .inl rfl
 case confirm =>
  split
  ·exact .inl rfl
  ·split <;> exact .inl rfl
 case cancel=>split <;> exact .inl rfl
 case list=>split <;> first|exact .inl rfl|(split <;> exact .inl rfl)
 case waiting=>simp
 case peak=>split <;> first|exact .inl rfl|(split <;> exact .inl rfl)
 case find=>split <;> first|exact .inl rfl|(split <;> exact .inl rfl)
 case expand=>split <;> exact .inl rfl
 case tick=>split <;> exact .inl rfl
 case clock=>simp
theorem c4B(s:St)(l:a7U):(a1q s l).1.ts=s.ts\/∃ t,(a1q s l).1.ts=s.ts++[t]:=by
 unfold a1q
 split
 ·exact c0Z s l
 ·exact c0Z s l
theorem b7F(h:Inv s)(l:a7U)(hn:a0h nm s.ts≠0):a0h nm (a1q s l).1.ts=a0h nm s.ts:=by
 rcases c4B s l with e|⟨t,e⟩
 ·rw[e]
 ·rw[e];exact a8F h.tu hn
theorem c0t(h:Inv s)(hn:a0h nm s.ts≠0):a1q s (.list nm 0 1048320)=(s,⟨0,0,0,a2x nm 0 1048320 s.es,[],[],[]⟩):=by
 have e:a0g s (.list nm 0 1048320)=(s,⟨0,0,0,a2x nm 0 1048320 s.es,[],[],[]⟩):=by
  simp only[a0g];rw[if_neg hn,if_neg (by omega)];rfl
 rw[a8T h (by rw[e]),e]
theorem b6I(h:Inv s)(nm:ByteArray){e:Ent}(he:e∈a2x nm 0 1048320 s.es):e∈s.es/\1<=e.id/\e.id<=s.given:=by
 have:=a4U.1 he;have hm:=(List.mem_filter.1 this).1;exact⟨hm,h.idb e hm⟩
theorem c3R:∀ (l:List Int)(a b:Int),l.Pairwise (· < ·)->(∀ x∈l,a<=x/\x<=b)->(l.length:Int)<=max 0 (b-a+1)
 |[],_,_,_,_=>by simp;omega
 |x :: r,a,b,hp,hb=>by
  obtain⟨h1,h2⟩:=List.pairwise_cons.1 hp;have hx:=hb x (List.mem_cons_self ..);have:=c3R r (x+1) b h2 (fun y hy=>⟨by have:=h1 y hy;omega,(hb y (List.mem_cons_of_mem _ hy)).2⟩);simp only[List.length_cons];omega
theorem c6C(h:Inv s):s.es.length<=60:=by
 have hi:(s.es.map (·.id)).Pairwise (· < ·):=h.ids;have hg:=h.g1
 have:=c3R _ 1 60 hi (fun x hx=>by
  obtain⟨e,he,rfl⟩:=List.mem_map.1 hx;have:=h.idb e he
  omega)
 rw[List.length_map] at this;omega
theorem c2P(h:Inv s)(nm:ByteArray):(a2x nm 0 1048320 s.es).length<=60:=by
 have:=c6C h;have e:=(a3Y (a:=0) (b:=1048320) (s.es.filter (b7U nm 0 1048320))).length_eq;have f:=List.length_filter_le (b7U nm 0 1048320) s.es;unfold a2x;omega
end Desk
open Desk (Ent St Ids kept a0C a0Q a1C a2e ofB a0y a2c Mid a1H a0z Inv a0h a2x a1q Rep)
theorem Step.lowK{S:Col->Prop}{N:Nat}(h:Step S B col col' w w')(hB:N<=B)(hs:N<=w.heap.size)(hc:∀ b,b<N->col b=none):Below N w w'/\∀ b,b<N->col' b=none:=by
 obtain⟨G,h1,h2⟩:=h.off;refine⟨⟨h1.os,h1.tape,h1.output,h1.size,fun b hb=>h1.block b (by omega) (fun hx=>?_)⟩,fun b hb=>?_⟩
 ·rcases h2 b hx with ⟨c,e,_⟩|⟨_,e⟩
  ·rw[hc b hb] at e;cases e
  ·omega
 ·exact h.keepN (hc b hb) (by omega)
theorem BD.laterK(h:BD w p d s r col)(k:Below w.heap.size w w'):BD w' p d s r col :=
 ⟨(k.block p (Array.getElem?_eq_some_iff.1 h.pc).1).trans h.pc,h.pn,⟨h.ds.dk.later k,h.ds.of,h.ds.wl,h.ds.hl,h.ds.inv⟩,h.env.later k,h.gl⟩
structure DG(w W:World)(p dk:Nat)(s:St)(r:Raw)(col:Nat->Option Col):Prop where
 bd:BD W p dk s r col
 bl:Below w.heap.size w W
 lo:∀ b,b<w.heap.size->col b=none
theorem DG.later(h:DG w W p dk s r col)(k:Below W.heap.size W W'):DG w W' p dk s r col:=⟨h.bd.laterK k,h.bl.trans (k.mono h.bl.size),h.lo⟩
theorem DG.step{s':St}{r':Raw}(h:DG w W p dk s r col)(bd:BD W' p dk s' r' col')(st:Step anyS W.heap.size col col' W W'):DG w W' p dk s' r' col':=by
 obtain⟨k1,k2⟩:=st.lowK h.bl.size h.bl.size h.lo;exact⟨bd,h.bl.trans k1,k2⟩
theorem DG.none(h:DG w W p dk s r col)(hb:W.heap.size<=b):col b=none:=h.bd.ds.dk.none hb
theorem DG.inv(h:DG w W p dk s r col):Inv s:=h.bd.ds.inv
theorem Step.still(st:Step anyS W.heap.size col col' W W'){o:Obj}(hb:W.heap[b]?=some o)(hc:col b=none):W'.heap[b]?=some o/\col' b=none:=by
 have hl:=(Array.getElem?_eq_some_iff.1 hb).1;exact⟨(st.blockN hl hc hl).trans hb,st.keepN hc hl⟩
structure DoP(w W:World)(p dk:Nat)(col:Nat->Option Col)(s':St)(rep:Rep)(l:List (Ent × Value))(v1 v3 v4:Value)(r':Raw)(col':Nat->Option Col)(W':World):Prop where
 c7n:l.map (·.1)=rep.entries
 row:a3j W' W.heap.size col' v1 l
 gr:a2I W' W.heap.size col' v3 rep.granted
 ed:a2I W' W.heap.size col' v4 rep.ended
 dg:DG w W' p dk s' r' col'
 st:Step anyS W.heap.size col col' W W'
def b4e(w W:World)(p dk:Nat)(col:Nat->Option Col)(q:St × Rep)(e:Ending)(W':World):Prop :=
 ∃ (l:List (Ent × Value)) (a1 a2 a3 a4:Option Addr) (n2 c1 c2 c3 c4:Nat) (r':Raw) (col':Nat->Option Col),e=.returned (.agg #[.int .i64 q.2.err,.int .i64 q.2.at_,.int .i64 q.2.n,.slice a1 l.length c1,.slice a2 n2 c2,.slice a3 q.2.granted.length c3,.slice a4 q.2.ended.length c4]) /\
  DoP w W p dk col q.1 q.2 l (.slice a1 l.length c1) (.slice a3 q.2.granted.length c3) (.slice a4 q.2.ended.length c4) r' col' W'
theorem b7o(h:DG w W p dk s r col){q:St × Rep}(k:b5M W p dk col q v W'):b4e w W p dk col q (.returned v) W':=by
 obtain⟨r',col',bd,st,en,da,gr,ed,l,rfl,he,k1,k2,k3,k4,_⟩:=k;obtain⟨a1,c1,rfl⟩:=a0B k1.own;obtain⟨a2,c2,rfl⟩:=a0B k2.own;obtain⟨a3,c3,rfl⟩:=a0B k3.own;obtain⟨a4,c4,rfl⟩:=a0B k4.own;exact⟨l,a1,a2,a3,a4,_,c1,c2,c3,c4,r',col',rfl,he,k1,k3,k4,h.step bd st,st⟩
theorem g1v(h:DG w W p dk s r col){t:ByteArray}{l:Desk.a7U}(hr:Reads t v)(hv:LV v l)(hl:Desk.a1O l)(hf:g5r l=true){q:St × Rep}(hq:a1q s l=q):
  Calls Tryz.prog 21 #[.pointer (some ⟨p,0,none⟩),.string t] W fun e W'=>b4e w W p dk col q e W':=by
 subst hq;exact (g3L h.bd t hr hv hl hf).mono fun _ _ ⟨_,e,k⟩=>by rw[e];exact b7o h k
def nmA:ByteArray:=⟨#[97]⟩
def nmC:ByteArray:=⟨#[98]⟩
def a3Z(a b:Int):St:=⟨[(nmA,a),(nmC,b)],[],0,0⟩
theorem c4w(a:Int):a1q st0 (.a0k nmA a)=(⟨[(nmA,a)],[],0,0⟩,⟨0,0,0,[],[],[],[]⟩):=by
 simp[a1q,Desk.a0g,st0,a0h,Rep.num,Desk.a0R,Desk.a0O]
theorem b9C:a0y nmA nmC=false:=by decide +kernel
theorem c4v(a b:Int):a1q ⟨[(nmA,a)],[],0,0⟩ (.a0k nmC b)=(a3Z a b,⟨0,0,0,[],[],[],[]⟩):=by
 simp[a1q,Desk.a0g,a0h,b9C,Rep.num,Desk.a0R,Desk.a0O,a3Z]
theorem b9b(a b:Int):a0h nmA (a3Z a b).ts=a:=by simp[a3Z,a0h,a0y]
theorem b9a(a b:Int):a0h nmC (a3Z a b).ts=b:=by
 have e:a0y nmC nmC=true:=by decide +kernel
 simp[a3Z,a0h,b9C,e]
def a1T(a b:Int):Obj:=.cells #[.int .i64 a,.int .i64 b] 28 (0,0)
def a5w(err at_ n:Int)(v1 v2 v3 v4:Value):Obj:=.cells #[.int .i64 err,.int .i64 at_,.int .i64 n,v1,v2,v3,v4] 40 (0,0)
theorem a2T{err at_ n:Int}{v1 v2 v3 v4:Value}(h:W.heap[b]?=some (a5w err at_ n v1 v2 v3 v4)):W.cell? ⟨b,0,none⟩=some (.int .i64 err)/\W.cell? ⟨b,1,none⟩=some (.int .i64 at_)/\W.cell? ⟨b,2,none⟩=some (.int .i64 n)/\W.cell? ⟨b,3,none⟩=some v1/\W.cell? ⟨b,4,none⟩=some v2/\W.cell? ⟨b,5,none⟩=some v3/\W.cell? ⟨b,6,none⟩=some v4:=by
 unfold a5w at h;refine⟨?_,?_,?_,?_,?_,?_,?_⟩ <;> (simp only[World.cell?,h];rfl)
end Go.Proofs.YtfigmlfdnickmaaGreatDoor
