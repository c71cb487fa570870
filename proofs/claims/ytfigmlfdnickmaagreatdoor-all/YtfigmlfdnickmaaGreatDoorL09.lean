import Derived.Test.YtfigmlfdnickmaaGreatDoorL08
import Derived.Test.YtfigmlfdnickmaaGreatDoorRows
import Derived.Test.YtfigmlfdnickmaaGreatDoorCards
import Derived.Test.YtfigmlfdnickmaaGreatDoorTie
import Derived.WalkKit
import Derived.ProofKit
import Derived.Deep.DeepWitnessRowRef
import Derived.LaidLaws
import Derived.OpenShut
import Derived.Deep.Slices
import Derived.Deep.DeepHandedRow
import Derived.Lib.LaidTab
import Derived.Lib.LaidU8
import Derived.Shelf.Vars
set_option maxRecDepth 100000
set_option maxHeartbeats 8000000
variable{b:Bool}{k s sym:ByteArray}{a pc:Int}{L:List (Int × Int)}{ps:List (List ByteArray)}{E H K Q R p q ws:List ByteArray}{acc:List Int}{B g m n:Nat}{st:Nat × Bool}{c:UInt8}{v:Go.Value}{W w w' x y z:Go.World}
namespace Go.Proofs.YtfigmlfdnickmaaGreatDoor
open Go.RowKit
def d0L(n:Int):ByteArray:=f4t (Cal.yT n) (Cal.mT n) (Cal.dT n)
def c8H(t:Int):ByteArray:=d0L (t / 1440)++⟨#[47]⟩++d8f (t % 1440)
theorem f6R(a b c:ByteArray):a++b++c=a++(b++c):=by
 apply Txt.a7x;simp only[Txt.a1X,List.append_assoc]
theorem f1E(y m d:Int)(h:Cal.ok y m d=true):(f4t y m d).size<=40:=by
 obtain⟨y1,y2,m1,m2,d1,d2⟩:=(Cal.a2K y m d).1 h;have db:=Cal.b3I y m;have z1:=Txt.d1q y 4 (by omega) (by omega);have z2:=Txt.d1q m 2 (by omega) (by omega);have z3:=Txt.d1q d 2 (by omega) (by omega);have e3:(⟨#[45]⟩:ByteArray).size=1:=by decide
 unfold f4t;simp only[ByteArray.size_append];omega
theorem f3v(n:Int)(h0:0<=n)(h1:n<1440):(d8f n).size<=19:=by
 have z1:=Txt.d1q (n / 60) 2 (by omega) (by omega);have z2:=Txt.d1q (n % 60) 2 (by omega) (by omega);have e3:(⟨#[58]⟩:ByteArray).size=1:=by decide
 unfold d8f;simp only[ByteArray.size_append];omega
theorem f1D(n:Int)(h0:-738885<=n)(h1:n<=2913173):(d0L n).size<=40:=f1E _ _ _ (Cal.c6G n h0 h1).1
theorem d3R(n:Int)(w:World)(he:Env w)(h0:-738885<=n)(h1:n<=2913173):
  Calls Tryz.prog 331 #[.int .i64 n] w fun e w'=>e=.returned (.string (d0L n))/\Below w.heap.size w w':=by
 refine (e5d n w he h0 h1).mono ?_;rintro e w' ⟨⟨y,m,d,rfl,hok,hnum⟩,hb⟩;obtain⟨rfl,rfl,rfl⟩:=Cal.c4g y m d n hok hnum;exact⟨rfl,hb⟩
theorem d2x(t:Int)(w:World)(he:Env w)(h0:0<=t)(h1:t<=1048320):
  Calls Tryz.prog 330 #[.int .i64 t] w fun e w'=>e=.returned (.string (c8H t))/\Below w.heap.size w w':=by
 have HE:=hide he;clear he;have z1:=f1D (t / 1440) (by omega) (by omega);have z2:=f3v (t % 1440) (by omega) (by omega)
 go_enter Tryz.func330,Tryz.ntmps330
 go_wp2_with fail
 refine (d3R (t / 1440) w (a0d HE) (by omega) (by omega)).mono ?_;rintro e w1 ⟨rfl,hb1⟩
 go_wp2_with fail
 refine (d2S (t % 1440) w1 ((a0d HE).later hb1) (by omega) (by omega)).mono ?_;rintro e w2 ⟨rfl,hb2⟩;have hbb:=hb1.trans (hb2.mono hb1.size);go_wp2;go_ret;exact⟨rfl,hbb⟩
def e0s(k:Nat):ByteArray:=⟨(a3C k).toArray⟩
def d5A(acc:List Int):Nat->ByteArray
 |0=>⟨#[]⟩
 |k+1=>if isd acc k then d5A acc k++⟨#[44]⟩++e0s k else d5A acc k
def onT(acc:List Int):ByteArray:=(d5A acc 7).extract 1 (d5A acc 7).size
theorem e4d(k:Nat):(e0s k).size=2:=by
 unfold e0s a3C;split <;> rfl
theorem e0W(acc:List Int):∀ k:Nat,(d5A acc k).size<=3*k
 |0=>zq _
 |k+1=>by
  have ih:=e0W acc k;have n:=e4d k;have e3:(⟨#[44]⟩:ByteArray).size=1:=by decide
  unfold d5A
  split
  ·simp only[ByteArray.size_append];omega
  ·omega
theorem e0V(acc:List Int)(d:Nat)(h:isd acc d=true):∀ k:Nat,d<k->1<=(d5A acc k).size
 |0,hk=>by omega
 |k+1,hk=>by
  have n:=e4d k;unfold d5A
  by_cases e:d=k
  ·subst e;rw[if_pos h];simp only[ByteArray.size_append];omega
  ·have:=e0V acc d h k (by omega)
   split
   ·simp only[ByteArray.size_append];omega
   ·exact this
theorem f0z{d:Int}{r:List Int}(h:Txt.a4D acc d=some r)(hd:d<=6):∃ x:Nat,x<7/\isd r x=true:=by
 unfold Txt.a4D at h
 split at h
 ·rename_i hc
  cases h
  exact⟨d.toNat,by omega,by simp[isd,show ((d.toNat:Nat):Int)=d from by omega]⟩
 ·cases h
theorem e8a:∀ (l:List UInt8)(acc r:List Int),Txt.onC l acc=some r->∃ x:Nat,x<7/\isd r x=true
 |[],_,_,h=>by simp[Txt.onC] at h
 |[_],_,_,h=>by simp[Txt.onC] at h
 |[a,b],acc,r,h=>f0z (acc:=acc) (d:=Txt.wdL [a,b]) h (Txt.c3Q [a,b]).2
 |a :: b :: c :: l,acc,r,h=>by
  unfold Txt.onC at h
  split at h
  ·simp only[Option.bind_eq_some_iff] at h;obtain⟨x,_,h⟩:=h;exact e8a l x r h
  ·cases h
theorem g1e(h:Txt.onW s=some acc):1<=(d5A acc 7).size:=by
 obtain⟨x,hx,hi⟩:=e8a _ _ _ h;exact e0V acc x hi 7 hx
def g0v(w:ByteArray):ByteArray:=match Txt.onW w with|some acc=>onT acc|none=>⟨#[]⟩
def wrS(sym w:ByteArray):ByteArray :=
 if sym.toList==[85,78,73,84,83] then Txt.a0x (b4g w 1 7) else
 if sym.toList==[77,73,78,85,84,69,83] then Txt.a0x (b4g w 1 7) else
 if sym.toList==[69,86,69,82,89] then Txt.a0x (b4g w 1 7) else
 if sym.toList==[73,68] then Txt.a0x (b4g w 1 7) else
 if sym.toList==[84,73,77,69] then c8H (g2T w) else
 if sym.toList==[79,78] then g0v w else w
theorem f4U(w:ByteArray):-1<=b4g w 1 7/\b4g w 1 7<=9999999:=by
 rw[d5I];have:=Txt.a2B w.data.toList
 split <;> omega
theorem f3j(w:ByteArray):-1<=g2T w/\g2T w<=1048320:=by
 unfold g2T
 split
 ·rename_i h
  unfold a0n at h;simp only[Bool.and_eq_true,decide_eq_true_eq] at h;omega
 ·omega
theorem f1n(n:Int)(w:World)(h0:-738885<=n)(h1:n<=2913173):
  Calls Tryz.prog 73 #[.int .i64 n] w fun e w'=>e=.returned (.tuple #[.int .i64 (Cal.yT n),.int .i64 (Cal.mT n),.int .i64 (Cal.dT n),.int .i64 0])/\w'=w:=by
 refine (e6D n w (by omega) (by omega)).mono ?_;rintro e w' ⟨⟨h,_⟩|⟨_,y,m,d,rfl,hok,hnum⟩,rfl⟩
 ·omega
 ·obtain⟨rfl,rfl,rfl⟩:=Cal.c4g y m d n hok hnum;exact⟨rfl,rfl⟩
theorem f3i(t:Int):Txt.b8V (Cal.yT (t / 1440)) 4++⟨#[45]⟩++Txt.b8V (Cal.mT (t / 1440)) 2++⟨#[45]⟩++Txt.b8V (Cal.dT (t / 1440)) 2++⟨#[47]⟩++Txt.b8V (t % 1440 / 60) 2++⟨#[58]⟩++Txt.b8V (t % 60) 2=c8H t:=by
 unfold c8H d0L f4t d8f;rw[show t % 1440 % 60=t % 60 from by omega];simp only[f6R]
theorem d2K(sym w:ByteArray)(W:World)(he:Env W)(hs:w.size<=160)
  (hc:(sym.toList==[85,78,73,84,83])=true\/((sym.toList==[85,78,73,84,83])=false/\(sym.toList==[77,73,78,85,84,69,83])=true)\/((sym.toList==[85,78,73,84,83])=false/\(sym.toList==[77,73,78,85,84,69,83])=false/\(sym.toList==[69,86,69,82,89])=true)\/((sym.toList==[85,78,73,84,83])=false/\(sym.toList==[77,73,78,85,84,69,83])=false/\(sym.toList==[69,86,69,82,89])=false/\(sym.toList==[73,68])=true)):
  Calls Tryz.prog 79 #[.string sym,.string w] W fun e w'=>e=.returned (.string (Txt.a0x (b4g w 1 7)))/\Below W.heap.size W w':=by
 have HE:=hide he;have nb:=f4U w;clear he;rcases hc with c0|⟨c0,c1⟩|⟨c0,c1,c2⟩|⟨c0,c1,c2,c3⟩
 all_goals
  go_enter Tryz.func79,Tryz.ntmps79
  go_wp2_with fail
  refine (b0E w 1 7 W hs (by omega) (by omega)).mono ?_;rintro e w1 ⟨rfl,hb1⟩
  go_wp2_with fail
  refine (c2Y _ w1 ((a0d HE).later hb1) (by omega) (by omega)).mono ?_;rintro e w2 ⟨rfl,hb2⟩;have hbb:=hb1.trans (hb2.mono hb1.size);go_wp2;go_ret;exact⟨rfl,hbb⟩
theorem e1h(sym w:ByteArray)(W:World)
  (c0:(sym.toList==[85,78,73,84,83])=false) (c1:(sym.toList==[77,73,78,85,84,69,83])=false) (c2:(sym.toList==[69,86,69,82,89])=false) (c3:(sym.toList==[73,68])=false) (c4:(sym.toList==[84,73,77,69])=false) (c5:(sym.toList==[79,78])=false):
  Calls Tryz.prog 79 #[.string sym,.string w] W fun e w'=>e=.returned (.string w)/\w'=W:=by
 go_enter Tryz.func79,Tryz.ntmps79
 go_wp2;go_ret;exact⟨rfl,rfl⟩
theorem e2Z(sym w:ByteArray)(W:World)(he:Env W)(hs:w.size<=160)(ht:0<=g2T w)
  (c0:(sym.toList==[85,78,73,84,83])=false) (c1:(sym.toList==[77,73,78,85,84,69,83])=false) (c2:(sym.toList==[69,86,69,82,89])=false) (c3:(sym.toList==[73,68])=false) (c4:(sym.toList==[84,73,77,69])=true):
  Calls Tryz.prog 79 #[.string sym,.string w] W fun e w'=>e=.returned (.string (c8H (g2T w)))/\Below W.heap.size W w':=by
 have HE:=hide he;have tb:=f3j w;have HT:=hide (f3i (g2T w));obtain⟨t,htt⟩:∃ t,t=g2T w:=⟨_,rfl⟩;rw[<- htt] at ht tb HT ⊢;have HTT:=hide htt;clear he htt;have ⟨hok,_⟩:=Cal.c6G (t / 1440) (by omega) (by omega);obtain⟨y1,y2,m1,m2,d1,d2⟩:=(Cal.a2K _ _ _).1 hok;have db:=Cal.b3I (Cal.yT (t / 1440)) (Cal.mT (t / 1440));have z1:=Txt.d1q (Cal.yT (t / 1440)) 4 (by omega) (by omega);have z2:=Txt.d1q (Cal.mT (t / 1440)) 2 (by omega) (by omega);have z3:=Txt.d1q (Cal.dT (t / 1440)) 2 (by omega) (by omega);have z4:=Txt.d1q (t % 1440 / 60) 2 (by omega) (by omega);have z5:=Txt.d1q (t % 60) 2 (by omega) (by omega);clear hok
 go_enter Tryz.func79,Tryz.ntmps79
 go_wp2_with fail
 refine (d0T w W hs).mono ?_;rintro e w1 ⟨rfl,hb1⟩;rw[<- a0d HTT]
 go_wp2_with fail
 refine (f1n (t / 1440) w1 (by omega) (by omega)).mono ?_;rintro e w2 ⟨rfl,rfl⟩;have e1:=hide ((a0d HE).later hb1)
 go_wp2_with fail
 refine (g2o _ 4 _ (a0d e1) (by omega) (by omega) (by omega)).mono ?_;rintro e w3 ⟨rfl,hb3⟩;have e3:=hide ((a0d e1).later hb3)
 go_wp2_with fail
 refine (g2o _ 2 _ (a0d e3) (by omega) (by omega) (by omega)).mono ?_;rintro e w4 ⟨rfl,hb4⟩;have e4:=hide ((a0d e3).later hb4)
 go_wp2_with fail
 refine (g2o _ 2 _ (a0d e4) (by omega) (by omega) (by omega)).mono ?_;rintro e w5 ⟨rfl,hb5⟩;have e5:=hide ((a0d e4).later hb5)
 go_wp2_with fail
 refine (g2o _ 2 _ (a0d e5) (by omega) (by omega) (by omega)).mono ?_;rintro e w6 ⟨rfl,hb6⟩;have e6:=hide ((a0d e5).later hb6)
 go_wp2_with fail
 refine (g2o _ 2 _ (a0d e6) (by omega) (by omega) (by omega)).mono ?_;rintro e w7 ⟨rfl,hb7⟩;have k1:=hb1.trans (hb3.mono hb1.size);have k2:=k1.trans (hb4.mono k1.size);have k3:=k2.trans (hb5.mono k2.size);have k4:=k3.trans (hb6.mono k3.size);have k5:=k4.trans (hb7.mono k4.size);go_wp2;go_ret;exact⟨f2O (a0d HT),k5⟩
def WR(w w':World)(xs:List ByteArray)(e:Ending):Prop:=∃ v,e=.returned v/\w'.ownsRow w.heap.size 9 1 v xs.length (xs.map Value.string)/\Below w.heap.size w w'
theorem d1j(w x:World)(xs:List ByteArray)(b:Nat)(hb:w.heap.size<=b)(hh:x.heap[b]?=some (.cells (xs.map Value.string).toArray 9))(h0:xs.length<=160):x.ownsRow w.heap.size 9 1 (.slice (some ⟨b,0,none⟩) xs.length xs.length) xs.length (xs.map Value.string):=by
 refine⟨by simp,.inr ⟨b,xs.length,(xs.map Value.string).toArray,rfl,hb,hh,Nat.le_refl _,by unfold maxLen;omega,by simp,?_⟩⟩;exact List.take_of_length_le (by simp)
theorem c8d{w0:World}(h:Below w0.heap.size w0 x)(hb:Below x.heap.size x y):Below w0.heap.size w0 y:=h.trans (hb.mono h.size)
theorem c7Y(w:World):Below w.heap.size w w.drew:=⟨rfl,rfl,rfl,Nat.le_refl _,fun _ _=>rfl⟩
theorem f6G(w:World):
  Calls Tryz.prog 343 #[.agg #[]] w fun e w'=>WR w w' [a5q] e:=by
 go_enter Tryz.func343,Tryz.ntmps343
 go_wp2;go_ret;have e:=heap_alloc_new (w.alloc (.cells #[] 173)) (.cells #[.string a5q] 9);rw[show (w.alloc (.cells #[] 173)).heap.size=w.heap.size+1 from by simp] at e;exact⟨_,rfl,d1j w _ [a5q] _ (by simp) e (show 1<=160 by omega),c8d ((zr _ _).alloc (zq _) _) ((zr _ _).alloc (zq _) _)⟩
theorem g1d(w:World):
  Calls Tryz.prog 348 #[.agg #[]] w fun e w'=>WR w w' [b1c] e:=by
 go_enter Tryz.func348,Tryz.ntmps348
 go_wp2;go_ret;have e:=heap_alloc_new (w.alloc (.cells #[] 183)) (.cells #[.string b1c] 9);rw[show (w.alloc (.cells #[] 183)).heap.size=w.heap.size+1 from by simp] at e;exact⟨_,rfl,d1j w _ [b1c] _ (by simp) e (show 1<=160 by omega),c8d ((zr _ _).alloc (zq _) _) ((zr _ _).alloc (zq _) _)⟩
theorem g0Z(n:ByteArray)(u:Int)(w:World)(he:Env w)(u0:0<=u)(u1:u<=9999999):
  Calls Tryz.prog 326 #[.agg #[.string n,.int .i64 u]] w fun e w'=>WR w w' [a3F,n,Txt.a0x u] e:=by
 go_enter Tryz.func326,Tryz.ntmps326
 go_wp2_with fail
 obtain⟨X,hX⟩:∃ X,X=w.alloc (.cells #[.string n,.int .i64 u] 149):=⟨_,rfl⟩;rw[<- hX];have hbX:Below w.heap.size w X:=by rw[hX];exact (zr _ _).alloc (zq _) _
 have eX:=he.later hbX;have x0:X.cell? ⟨w.heap.size,0,none⟩=some (.string n):=by rw[hX];simp
 have x1:X.cell? ⟨w.heap.size,1,none⟩=some (.int .i64 u):=by rw[hX];simp
 have xs:w.heap.size<X.heap.size:=by rw[hX];simp
 clear hX he
 go_region_held3 (fun w'=>Env w'/\Below w.heap.size w w'/\w.heap.size<w'.heap.size/\w'.cell? ⟨w.heap.size,0,none⟩=some (.string n)/\w'.cell? ⟨w.heap.size,1,none⟩=some (.int .i64 u))
  (first
   |(refine⟨?_,?_,?_,?_,?_⟩ <;> go_keep)
   |(go_split_ands;exact⟨Env.later (by assumption) hbf,c8d (by assumption) hbf,Nat.lt_of_lt_of_le (by assumption) (Below.size hbf),cell_later hbf (by assumption),cell_later hbf (by assumption)⟩)
   |(go_split_ands;exact⟨Env.later (by assumption) ((zr _ _).alloc (zq _) _),c8d (by assumption) ((zr _ _).alloc (zq _) _),Nat.lt_of_lt_of_le (by assumption) (Below.size ((zr _ _).alloc (zq _) _)),cell_later ((zr _ _).alloc (zq _) _) (by assumption),cell_later ((zr _ _).alloc (zq _) _) (by assumption)⟩)
   |(go_split_ands;exact⟨Env.later (by assumption) (c7Y _),c8d (by assumption) (c7Y _),Nat.lt_of_lt_of_le (by assumption) (Below.size (c7Y _)),cell_later (c7Y _) (by assumption),cell_later (c7Y _) (by assumption)⟩))
  (first
   |(go_at_call 327;go_split_ands;refine (d0r _ _ (by assumption) (by omega) (by omega)).mono ?_;rintro e w4 ⟨rfl,hbf⟩))
 go_split_ands
 have hbE:Below w.heap.size w (w4.alloc (.cells #[.string a3F,.string n,.string (Txt.a0x u)] 9)):=by assumption
 have hsE:w.heap.size<(w4.alloc (.cells #[.string a3F,.string n,.string (Txt.a0x u)] 9)).heap.size:=by assumption
 have hsF:w.heap.size<w4.heap.size+1:=by simpa using hsE
 have HBE:=hide hbE;have HSF:Hid (w.heap.size<=w4.heap.size):=by show w.heap.size<=w4.heap.size;omega
 go_wp2;go_ret;exact⟨_,rfl,d1j w _ [a3F,n,Txt.a0x u] w4.heap.size HSF.out (heap_alloc_new w4 _) (show 3<=160 by omega),HBE.out⟩
theorem f6H(u:Int)(w:World)(he:Env w)(u0:0<=u)(u1:u<=9999999):
  Calls Tryz.prog 340 #[.agg #[.int .i64 u]] w fun e w'=>WR w w' [a4z,Txt.a0x u] e:=by
 go_enter Tryz.func340,Tryz.ntmps340
 go_wp2_with fail
 obtain⟨X,hX⟩:∃ X,X=w.alloc (.cells #[.int .i64 u] 167):=⟨_,rfl⟩;rw[<- hX];have hbX:Below w.heap.size w X:=by rw[hX];exact (zr _ _).alloc (zq _) _
 have eX:=he.later hbX;clear hX he;refine (d0r u X eX (by omega) (by omega)).mono ?_;rintro e w4 ⟨rfl,hbf⟩;have hb4:=c8d hbX hbf;have hs4:=hb4.size;go_wp2;go_ret;exact⟨_,rfl,d1j w _ [a4z,Txt.a0x u] w4.heap.size hs4 (heap_alloc_new w4 _) (show 2<=160 by omega),c8d hb4 ((zr _ _).alloc (zq _) _)⟩
theorem f9A(u:Int)(w:World)(he:Env w)(u0:0<=u)(u1:u<=9999999):
  Calls Tryz.prog 341 #[.agg #[.int .i64 u]] w fun e w'=>WR w w' [a6m,Txt.a0x u] e:=by
 go_enter Tryz.func341,Tryz.ntmps341
 go_wp2_with fail
 obtain⟨X,hX⟩:∃ X,X=w.alloc (.cells #[.int .i64 u] 168):=⟨_,rfl⟩;rw[<- hX];have hbX:Below w.heap.size w X:=by rw[hX];exact (zr _ _).alloc (zq _) _
 have eX:=he.later hbX;clear hX he;refine (d0r u X eX (by omega) (by omega)).mono ?_;rintro e w4 ⟨rfl,hbf⟩;have hb4:=c8d hbX hbf;have hs4:=hb4.size;go_wp2;go_ret;exact⟨_,rfl,d1j w _ [a6m,Txt.a0x u] w4.heap.size hs4 (heap_alloc_new w4 _) (show 2<=160 by omega),c8d hb4 ((zr _ _).alloc (zq _) _)⟩
theorem g2q(u:Int)(w:World)(he:Env w)(u0:0<=u)(u1:u<=9999999):
  Calls Tryz.prog 347 #[.agg #[.int .i64 u]] w fun e w'=>WR w w' [b4n,Txt.a0x u] e:=by
 go_enter Tryz.func347,Tryz.ntmps347
 go_wp2_with fail
 obtain⟨X,hX⟩:∃ X,X=w.alloc (.cells #[.int .i64 u] 182):=⟨_,rfl⟩;rw[<- hX];have hbX:Below w.heap.size w X:=by rw[hX];exact (zr _ _).alloc (zq _) _
 have eX:=he.later hbX;clear hX he;refine (d0r u X eX (by omega) (by omega)).mono ?_;rintro e w4 ⟨rfl,hbf⟩;have hb4:=c8d hbX hbf;have hs4:=hb4.size;go_wp2;go_ret;exact⟨_,rfl,d1j w _ [b4n,Txt.a0x u] w4.heap.size hs4 (heap_alloc_new w4 _) (show 2<=160 by omega),c8d hb4 ((zr _ _).alloc (zq _) _)⟩
theorem g2r(n:ByteArray)(a b:Int)(w:World)(he:Env w)(a0:0<=a)(a1:a<=1048320)(b0:0<=b)(b1:b<=1048320):
  Calls Tryz.prog 344 #[.agg #[.string n,.int .i64 a,.int .i64 b]] w fun e w'=>WR w w' [a9a,n,c8H a,c8H b] e:=by
 go_enter Tryz.func344,Tryz.ntmps344
 go_wp2_with fail
 obtain⟨X,hX⟩:∃ X,X=w.alloc (.cells #[.string n,.int .i64 a,.int .i64 b] 176):=⟨_,rfl⟩;rw[<- hX];have hbX:Below w.heap.size w X:=by rw[hX];exact (zr _ _).alloc (zq _) _
 have eX:=he.later hbX;have x0:X.cell? ⟨w.heap.size,0,none⟩=some (.string n):=by rw[hX];simp
 have x1:X.cell? ⟨w.heap.size,1,none⟩=some (.int .i64 a):=by rw[hX];simp
 have x2:X.cell? ⟨w.heap.size,2,none⟩=some (.int .i64 b):=by rw[hX];simp
 have xs:w.heap.size<X.heap.size:=by rw[hX];simp
 clear hX he
 go_region_held3 (fun w'=>Env w'/\Below w.heap.size w w'/\w.heap.size<w'.heap.size/\w'.cell? ⟨w.heap.size,0,none⟩=some (.string n)/\w'.cell? ⟨w.heap.size,1,none⟩=some (.int .i64 a)/\w'.cell? ⟨w.heap.size,2,none⟩=some (.int .i64 b))
  (first
   |(refine⟨?_,?_,?_,?_,?_,?_⟩ <;> go_keep)
   |(go_split_ands;exact⟨Env.later (by assumption) hbf,c8d (by assumption) hbf,Nat.lt_of_lt_of_le (by assumption) (Below.size hbf),cell_later hbf (by assumption),cell_later hbf (by assumption),cell_later hbf (by assumption)⟩)
   |(go_split_ands;exact⟨Env.later (by assumption) ((zr _ _).alloc (zq _) _),c8d (by assumption) ((zr _ _).alloc (zq _) _),Nat.lt_of_lt_of_le (by assumption) (Below.size ((zr _ _).alloc (zq _) _)),cell_later ((zr _ _).alloc (zq _) _) (by assumption),cell_later ((zr _ _).alloc (zq _) _) (by assumption),cell_later ((zr _ _).alloc (zq _) _) (by assumption)⟩)
   |(go_split_ands;exact⟨Env.later (by assumption) (c7Y _),c8d (by assumption) (c7Y _),Nat.lt_of_lt_of_le (by assumption) (Below.size (c7Y _)),cell_later (c7Y _) (by assumption),cell_later (c7Y _) (by assumption),cell_later (c7Y _) (by assumption)⟩))
  (first
   |(go_at_call 330;go_split_ands;refine (d2x _ _ (by assumption) (by omega) (by omega)).mono ?_;rintro e w4 ⟨rfl,hbf⟩))
 go_split_ands
 have hbE:Below w.heap.size w (w4.alloc (.cells #[.string a9a,.string n,.string (c8H a),.string (c8H b)] 9)):=by assumption
 have hsE:w.heap.size<(w4.alloc (.cells #[.string a9a,.string n,.string (c8H a),.string (c8H b)] 9)).heap.size:=by assumption
 have hsF:w.heap.size<w4.heap.size+1:=by simpa using hsE
 have HBE:=hide hbE;have HSF:Hid (w.heap.size<=w4.heap.size):=by show w.heap.size<=w4.heap.size;omega
 go_wp2;go_ret;exact⟨_,rfl,d1j w _ [a9a,n,c8H a,c8H b] w4.heap.size HSF.out (heap_alloc_new w4 _) (show 4<=160 by omega),HBE.out⟩
theorem g2t(n:ByteArray)(u m a b:Int)(w:World)(he:Env w)(u0:0<=u)(u1:u<=9999999)(m0:0<=m)(m1:m<=9999999)(a0:0<=a)(a1:a<=1048320)(b0:0<=b)(b1:b<=1048320):
  Calls Tryz.prog 345 #[.agg #[.string n,.int .i64 u,.int .i64 m,.int .i64 a,.int .i64 b]] w fun e w'=>WR w w' [b5h,n,Txt.a0x u,Txt.a0x m,c8H a,c8H b] e:=by
 go_enter Tryz.func345,Tryz.ntmps345
 go_wp2_with fail
 obtain⟨X,hX⟩:∃ X,X=w.alloc (.cells #[.string n,.int .i64 u,.int .i64 m,.int .i64 a,.int .i64 b] 178):=⟨_,rfl⟩;rw[<- hX];have hbX:Below w.heap.size w X:=by rw[hX];exact (zr _ _).alloc (zq _) _
 have eX:=he.later hbX;have x0:X.cell? ⟨w.heap.size,0,none⟩=some (.string n):=by rw[hX];simp
 have x1:X.cell? ⟨w.heap.size,1,none⟩=some (.int .i64 u):=by rw[hX];simp
 have x2:X.cell? ⟨w.heap.size,2,none⟩=some (.int .i64 m):=by rw[hX];simp
 have x3:X.cell? ⟨w.heap.size,3,none⟩=some (.int .i64 a):=by rw[hX];simp
 have x4:X.cell? ⟨w.heap.size,4,none⟩=some (.int .i64 b):=by rw[hX];simp
 have xs:w.heap.size<X.heap.size:=by rw[hX];simp
 clear hX he
 go_region_held3 (fun w'=>Env w'/\Below w.heap.size w w'/\w.heap.size<w'.heap.size/\w'.cell? ⟨w.heap.size,0,none⟩=some (.string n)/\w'.cell? ⟨w.heap.size,1,none⟩=some (.int .i64 u)/\w'.cell? ⟨w.heap.size,2,none⟩=some (.int .i64 m)/\w'.cell? ⟨w.heap.size,3,none⟩=some (.int .i64 a)/\w'.cell? ⟨w.heap.size,4,none⟩=some (.int .i64 b))
  (first
   |(refine⟨?_,?_,?_,?_,?_,?_,?_,?_⟩ <;> go_keep)
   |(go_split_ands;exact⟨Env.later (by assumption) hbf,c8d (by assumption) hbf,Nat.lt_of_lt_of_le (by assumption) (Below.size hbf),cell_later hbf (by assumption),cell_later hbf (by assumption),cell_later hbf (by assumption),cell_later hbf (by assumption),cell_later hbf (by assumption)⟩)
   |(go_split_ands;exact⟨Env.later (by assumption) ((zr _ _).alloc (zq _) _),c8d (by assumption) ((zr _ _).alloc (zq _) _),Nat.lt_of_lt_of_le (by assumption) (Below.size ((zr _ _).alloc (zq _) _)),cell_later ((zr _ _).alloc (zq _) _) (by assumption),cell_later ((zr _ _).alloc (zq _) _) (by assumption),cell_later ((zr _ _).alloc (zq _) _) (by assumption),cell_later ((zr _ _).alloc (zq _) _) (by assumption),cell_later ((zr _ _).alloc (zq _) _) (by assumption)⟩)
   |(go_split_ands;exact⟨Env.later (by assumption) (c7Y _),c8d (by assumption) (c7Y _),Nat.lt_of_lt_of_le (by assumption) (Below.size (c7Y _)),cell_later (c7Y _) (by assumption),cell_later (c7Y _) (by assumption),cell_later (c7Y _) (by assumption),cell_later (c7Y _) (by assumption),cell_later (c7Y _) (by assumption)⟩))
  (first
   |(go_at_call 327;go_split_ands;refine (d0r _ _ (by assumption) (by omega) (by omega)).mono ?_;rintro e w4 ⟨rfl,hbf⟩)
   |(go_at_call 330;go_split_ands;refine (d2x _ _ (by assumption) (by omega) (by omega)).mono ?_;rintro e w4 ⟨rfl,hbf⟩))
 go_split_ands
 have hbE:Below w.heap.size w (w4.alloc (.cells #[.string b5h,.string n,.string (Txt.a0x u),.string (Txt.a0x m),.string (c8H a),.string (c8H b)] 9)):=by assumption
 have hsE:w.heap.size<(w4.alloc (.cells #[.string b5h,.string n,.string (Txt.a0x u),.string (Txt.a0x m),.string (c8H a),.string (c8H b)] 9)).heap.size:=by assumption
 have hsF:w.heap.size<w4.heap.size+1:=by simpa using hsE
 have HBE:=hide hbE;have HSF:Hid (w.heap.size<=w4.heap.size):=by show w.heap.size<=w4.heap.size;omega
 go_wp2;go_ret;exact⟨_,rfl,d1j w _ [b5h,n,Txt.a0x u,Txt.a0x m,c8H a,c8H b] w4.heap.size HSF.out (heap_alloc_new w4 _) (show 6<=160 by omega),HBE.out⟩
theorem d2Z(k n:ByteArray)(u a b:Int)(w:World)(he:Env w)(u0:0<=u)(u1:u<=9999999)(a0:0<=a)(a1:a<=1048320)(b0:0<=b)(b1:b<=1048320):
  Calls Tryz.prog 329 #[.string k,.agg #[.string n,.int .i64 u,.int .i64 a,.int .i64 b]] w fun e w'=>WR w w' [k,n,Txt.a0x u,c8H a,c8H b] e:=by
 go_enter Tryz.func329,Tryz.ntmps329
 go_wp2_with fail
 obtain⟨X,hX⟩:∃ X,X=w.alloc (.cells #[.string n,.int .i64 u,.int .i64 a,.int .i64 b] 151):=⟨_,rfl⟩;rw[<- hX];have hbX:Below w.heap.size w X:=by rw[hX];exact (zr _ _).alloc (zq _) _
 have eX:=he.later hbX;have x0:X.cell? ⟨w.heap.size,0,none⟩=some (.string n):=by rw[hX];simp
 have x1:X.cell? ⟨w.heap.size,1,none⟩=some (.int .i64 u):=by rw[hX];simp
 have x2:X.cell? ⟨w.heap.size,2,none⟩=some (.int .i64 a):=by rw[hX];simp
 have x3:X.cell? ⟨w.heap.size,3,none⟩=some (.int .i64 b):=by rw[hX];simp
 have xs:w.heap.size<X.heap.size:=by rw[hX];simp
 clear hX he
 go_region_held3 (fun w'=>Env w'/\Below w.heap.size w w'/\w.heap.size<w'.heap.size/\w'.cell? ⟨w.heap.size,0,none⟩=some (.string n)/\w'.cell? ⟨w.heap.size,1,none⟩=some (.int .i64 u)/\w'.cell? ⟨w.heap.size,2,none⟩=some (.int .i64 a)/\w'.cell? ⟨w.heap.size,3,none⟩=some (.int .i64 b))
  (first
   |(refine⟨?_,?_,?_,?_,?_,?_,?_⟩ <;> go_keep)
   |(go_split_ands;exact⟨Env.later (by assumption) hbf,c8d (by assumption) hbf,Nat.lt_of_lt_of_le (by assumption) (Below.size hbf),cell_later hbf (by assumption),cell_later hbf (by assumption),cell_later hbf (by assumption),cell_later hbf (by assumption)⟩)
   |(go_split_ands;exact⟨Env.later (by assumption) ((zr _ _).alloc (zq _) _),c8d (by assumption) ((zr _ _).alloc (zq _) _),Nat.lt_of_lt_of_le (by assumption) (Below.size ((zr _ _).alloc (zq _) _)),cell_later ((zr _ _).alloc (zq _) _) (by assumption),cell_later ((zr _ _).alloc (zq _) _) (by assumption),cell_later ((zr _ _).alloc (zq _) _) (by assumption),cell_later ((zr _ _).alloc (zq _) _) (by assumption)⟩)
   |(go_split_ands;exact⟨Env.later (by assumption) (c7Y _),c8d (by assumption) (c7Y _),Nat.lt_of_lt_of_le (by assumption) (Below.size (c7Y _)),cell_later (c7Y _) (by assumption),cell_later (c7Y _) (by assumption),cell_later (c7Y _) (by assumption),cell_later (c7Y _) (by assumption)⟩))
  (first
   |(go_at_call 327;go_split_ands;refine (d0r _ _ (by assumption) (by omega) (by omega)).mono ?_;rintro e w4 ⟨rfl,hbf⟩)
   |(go_at_call 330;go_split_ands;refine (d2x _ _ (by assumption) (by omega) (by omega)).mono ?_;rintro e w4 ⟨rfl,hbf⟩))
 go_split_ands
 have hbE:Below w.heap.size w (w4.alloc (.cells #[.string k,.string n,.string (Txt.a0x u),.string (c8H a),.string (c8H b)] 9)):=by assumption
 have hsE:w.heap.size<(w4.alloc (.cells #[.string k,.string n,.string (Txt.a0x u),.string (c8H a),.string (c8H b)] 9)).heap.size:=by assumption
 have hsF:w.heap.size<w4.heap.size+1:=by simpa using hsE
 have HBE:=hide hbE;have HSF:Hid (w.heap.size<=w4.heap.size):=by show w.heap.size<=w4.heap.size;omega
 go_wp2;go_ret;exact⟨_,rfl,d1j w _ [k,n,Txt.a0x u,c8H a,c8H b] w4.heap.size HSF.out (heap_alloc_new w4 _) (show 5<=160 by omega),HBE.out⟩
theorem c8V(hB:B<=x.heap.size)(h:Below B x y)(hb:Below y.heap.size y z):Below B x z:=h.trans (hb.mono (Nat.le_trans hB h.size))
theorem d1E(h:Below B x y)(hb:Below y.heap.size y z):x.heap.size<=z.heap.size:=Nat.le_trans h.size hb.size
theorem Env.of10(h:Env x)(hB:10<=B)(hb:Below B x y):Env y:=by
 obtain⟨m,hm⟩:=h.c5L;have hc:∀ (b o:Nat) (v:Value),b<10->x.cell? ⟨b,o,none⟩=some v->y.cell? ⟨b,o,none⟩=some v:=fun b o v hb' e=>(hb.cell (p:=⟨b,o,none⟩) (show b<B by omega)).trans e
 obtain⟨c0,c1,c2,c3,c4,c5,c6,c7,c8,c9,c10,c11⟩:=h.tab;refine⟨⟨hc _ _ _ (by omega) c0,hc _ _ _ (by omega) c1,hc _ _ _ (by omega) c2,hc _ _ _ (by omega) c3,hc _ _ _ (by omega) c4,hc _ _ _ (by omega) c5,hc _ _ _ (by omega) c6,hc _ _ _ (by omega) c7,hc _ _ _ (by omega) c8,hc _ _ _ (by omega) c9,hc _ _ _ (by omega) c10,hc _ _ _ (by omega) c11⟩,⟨m,hc _ _ _ (by omega) hm⟩,?_,Nat.le_trans h.size hb.size,hc _ _ _ (by omega) h.mo,hc _ _ _ (by omega) h.tu,hc _ _ _ (by omega) h.we,hc _ _ _ (by omega) h.th,hc _ _ _ (by omega) h.fr,hc _ _ _ (by omega) h.sa,hc _ _ _ (by omega) h.su⟩;have hp:=h.pow;unfold Lib.TabIs World.var? at hp ⊢;simp only[c6q,Option.bind_some] at hp ⊢;rw[hb.block 0 (by omega)];exact hp
theorem d6L{p:Prop}(h:Below B x y)(k:Below B x y->p):Below B x y/\p:=⟨h,k h⟩
theorem g2u(n:ByteArray)(u a b:Int)(w:World)(he:Env w)(u0:0<=u)(u1:u<=9999999)(a0:0<=a)(a1:a<=1048320)(b0:0<=b)(b1:b<=1048320):
  Calls Tryz.prog 328 #[.agg #[.string n,.int .i64 u,.int .i64 a,.int .i64 b]] w fun e w'=>WR w w' [a9P,n,Txt.a0x u,c8H a,c8H b] e:=by
 go_enter Tryz.func328,Tryz.ntmps328
 go_wp2_with fail
 obtain⟨X,hX⟩:∃ X,X=w.alloc (.cells #[.string n,.int .i64 u,.int .i64 a,.int .i64 b] 154):=⟨_,rfl⟩;rw[<- hX];have hbX:Below w.heap.size w X:=by rw[hX];exact (zr _ _).alloc (zq _) _
 have eX:=he.later hbX;clear hX he;refine (d2Z a9P n u a b X eX u0 u1 a0 a1 b0 b1).mono ?_;rintro e w4 ⟨v,rfl,ho,hbf⟩;go_wp2;go_ret;exact⟨v,rfl,c9G ho hbX.size,c8d hbX hbf⟩
theorem g2s(n:ByteArray)(u a b m:Int)(w:World)(he:Env w)(u0:0<=u)(u1:u<=9999999)(a0:0<=a)(a1:a<=1048320)(b0:0<=b)(b1:b<=1048320)(m0:0<=m)(m1:m<=9999999):
  Calls Tryz.prog 334 #[.agg #[.string n,.int .i64 u,.int .i64 a,.int .i64 b,.int .i64 m]] w fun e w'=>WR w w' [b5f,n,Txt.a0x u,c8H a,c8H b,Txt.a0x m] e:=by
 obtain⟨i0,hi0,hz0,hz1,hz2⟩:=info_parts e4B
 go_enter Tryz.func334,Tryz.ntmps334
 go_wp2_with fail
 obtain⟨X,hX⟩:∃ X,X=w.alloc (.cells #[.string n,.int .i64 u,.int .i64 a,.int .i64 b,.int .i64 m] 156):=⟨_,rfl⟩;rw[<- hX];have hbX:Below w.heap.size w X:=by rw[hX];exact (zr _ _).alloc (zq _) _
 have eX:=he.later hbX;have hXs:w.heap.size+1<=X.heap.size:=by rw[hX];simp
 have hXs10:10<=w.heap.size+1:=by have:=he.size;omega
 have x0:X.cell? ⟨w.heap.size,0,none⟩=some (.string n):=by rw[hX];simp
 have x1:X.cell? ⟨w.heap.size,1,none⟩=some (.int .i64 u):=by rw[hX];simp
 have x2:X.cell? ⟨w.heap.size,2,none⟩=some (.int .i64 a):=by rw[hX];simp
 have x3:X.cell? ⟨w.heap.size,3,none⟩=some (.int .i64 b):=by rw[hX];simp
 have x4:X.cell? ⟨w.heap.size,4,none⟩=some (.int .i64 m):=by rw[hX];simp
 have bX:=zr (w.heap.size+1) X;have hZ:X.heap.size=w.heap.size+1:=by rw[hX];simp
 clear hX he
 go_region_held3 (fun w'=>Below (w.heap.size+1) X w'/\w'.cell? ⟨w.heap.size,0,none⟩=some (.string n)/\w'.cell? ⟨w.heap.size,1,none⟩=some (.int .i64 u)/\w'.cell? ⟨w.heap.size,2,none⟩=some (.int .i64 a)/\w'.cell? ⟨w.heap.size,3,none⟩=some (.int .i64 b)/\w'.cell? ⟨w.heap.size,4,none⟩=some (.int .i64 m))
  (first
   |(go_split_ands;exact d6L (c8V hXs (by assumption) hbf) (fun hk=>⟨(hk.cell (p:=⟨w.heap.size,0,none⟩) (by simp)).trans x0,(hk.cell (p:=⟨w.heap.size,1,none⟩) (by simp)).trans x1,(hk.cell (p:=⟨w.heap.size,2,none⟩) (by simp)).trans x2,(hk.cell (p:=⟨w.heap.size,3,none⟩) (by simp)).trans x3,(hk.cell (p:=⟨w.heap.size,4,none⟩) (by simp)).trans x4⟩))
   |(go_split_ands;exact d6L (c8V hXs (by assumption) ((zr _ _).alloc (zq _) _)) (fun hk=>⟨(hk.cell (p:=⟨w.heap.size,0,none⟩) (by simp)).trans x0,(hk.cell (p:=⟨w.heap.size,1,none⟩) (by simp)).trans x1,(hk.cell (p:=⟨w.heap.size,2,none⟩) (by simp)).trans x2,(hk.cell (p:=⟨w.heap.size,3,none⟩) (by simp)).trans x3,(hk.cell (p:=⟨w.heap.size,4,none⟩) (by simp)).trans x4⟩))
   |(go_split_ands;exact d6L (c8V hXs (by assumption) (c7Y _)) (fun hk=>⟨(hk.cell (p:=⟨w.heap.size,0,none⟩) (by simp)).trans x0,(hk.cell (p:=⟨w.heap.size,1,none⟩) (by simp)).trans x1,(hk.cell (p:=⟨w.heap.size,2,none⟩) (by simp)).trans x2,(hk.cell (p:=⟨w.heap.size,3,none⟩) (by simp)).trans x3,(hk.cell (p:=⟨w.heap.size,4,none⟩) (by simp)).trans x4⟩))
   |(go_split_ands;exact d6L (Below.grown (by assumption) hgrow (by simp;omega) (fun k hk=>d0U hoN hk)) (fun hk=>⟨(hk.cell (p:=⟨w.heap.size,0,none⟩) (by simp)).trans x0,(hk.cell (p:=⟨w.heap.size,1,none⟩) (by simp)).trans x1,(hk.cell (p:=⟨w.heap.size,2,none⟩) (by simp)).trans x2,(hk.cell (p:=⟨w.heap.size,3,none⟩) (by simp)).trans x3,(hk.cell (p:=⟨w.heap.size,4,none⟩) (by simp)).trans x4⟩)))
  (first
   |(
    go_at_call 329
    go_split_ands
    refine (d2Z b5f n u a b _ (Env.later eX (by rw[hZ];assumption)) u0 u1 a0 a1 b0 b1).mono ?_
    rintro e w4 ⟨v1,rfl,ho,hbf⟩)
   |(
    go_at_call 327
    go_split_ands
    have hoN:=c9G (base':=w.heap.size+1) ho (by simp;omega);refine (d0r m _ (Env.later eX (by rw[hZ];assumption)) (by omega) (by omega)).mono ?_;rintro e w5 ⟨rfl,hbf⟩
    have hs5:=d1E (B:=w.heap.size+1) (x:=X) (by assumption) hbf)
   |((refine step_append_lies _ (by rfl) _ _ _ (by rfl) (w.heap.size+1) 9 i0 _ 1 16 Tryz.underlying26 hi0 hz0 hz1 hz2 rfl (by omega) v1 5 ([b5f,n,Txt.a0x u,c8H a,c8H b].map Value.string) (by rfl) ((c9H hoN hbf).alloc _) ⟨w5.heap.size,0,none⟩ 1 1 [.string (Txt.a0x m)] (by rfl) (by rfl) (World.news_of_block (cs:=#[.string (Txt.a0x m)]) (t:=9) (fr:=(0,0)) (heap_alloc_new _ _)) (by simp[Value.oneCell']) (by omega) (by unfold maxLen;omega) (by omega) (by simp;omega) (w5.heap.size+1) (by simp) ?_;intro g cap w6 hown6 hgrow hat hltg)))
 go_split_ands
 have hbE:Below (w.heap.size+1) X w6:=by assumption
 have HBE:=hide hbE;clear hbE;go_wp2;go_ret;exact⟨_,rfl,c9G hown6 (by omega),hbX.trans (HBE.out.mono (by omega))⟩
theorem g2p(n:ByteArray)(u a b m:Int)(w:World)(he:Env w)(u0:0<=u)(u1:u<=9999999)(a0:0<=a)(a1:a<=1048320)(b0:0<=b)(b1:b<=1048320)(m0:0<=m)(m1:m<=9999999):
  Calls Tryz.prog 335 #[.agg #[.string n,.int .i64 u,.int .i64 a,.int .i64 b,.int .i64 m]] w fun e w'=>WR w w' [b4k,n,Txt.a0x u,c8H a,c8H b,Txt.a0x m] e:=by
 obtain⟨i0,hi0,hz0,hz1,hz2⟩:=info_parts e4B
 go_enter Tryz.func335,Tryz.ntmps335
 go_wp2_with fail
 obtain⟨X,hX⟩:∃ X,X=w.alloc (.cells #[.string n,.int .i64 u,.int .i64 a,.int .i64 b,.int .i64 m] 157):=⟨_,rfl⟩;rw[<- hX];have hbX:Below w.heap.size w X:=by rw[hX];exact (zr _ _).alloc (zq _) _
 have eX:=he.later hbX;have hXs:w.heap.size+1<=X.heap.size:=by rw[hX];simp
 have hXs10:10<=w.heap.size+1:=by have:=he.size;omega
 have x0:X.cell? ⟨w.heap.size,0,none⟩=some (.string n):=by rw[hX];simp
 have x1:X.cell? ⟨w.heap.size,1,none⟩=some (.int .i64 u):=by rw[hX];simp
 have x2:X.cell? ⟨w.heap.size,2,none⟩=some (.int .i64 a):=by rw[hX];simp
 have x3:X.cell? ⟨w.heap.size,3,none⟩=some (.int .i64 b):=by rw[hX];simp
 have x4:X.cell? ⟨w.heap.size,4,none⟩=some (.int .i64 m):=by rw[hX];simp
 have bX:=zr (w.heap.size+1) X;have hZ:X.heap.size=w.heap.size+1:=by rw[hX];simp
 clear hX he
 go_region_held3 (fun w'=>Below (w.heap.size+1) X w'/\w'.cell? ⟨w.heap.size,0,none⟩=some (.string n)/\w'.cell? ⟨w.heap.size,1,none⟩=some (.int .i64 u)/\w'.cell? ⟨w.heap.size,2,none⟩=some (.int .i64 a)/\w'.cell? ⟨w.heap.size,3,none⟩=some (.int .i64 b)/\w'.cell? ⟨w.heap.size,4,none⟩=some (.int .i64 m))
  (first
   |(go_split_ands;exact d6L (c8V hXs (by assumption) hbf) (fun hk=>⟨(hk.cell (p:=⟨w.heap.size,0,none⟩) (by simp)).trans x0,(hk.cell (p:=⟨w.heap.size,1,none⟩) (by simp)).trans x1,(hk.cell (p:=⟨w.heap.size,2,none⟩) (by simp)).trans x2,(hk.cell (p:=⟨w.heap.size,3,none⟩) (by simp)).trans x3,(hk.cell (p:=⟨w.heap.size,4,none⟩) (by simp)).trans x4⟩))
   |(go_split_ands;exact d6L (c8V hXs (by assumption) ((zr _ _).alloc (zq _) _)) (fun hk=>⟨(hk.cell (p:=⟨w.heap.size,0,none⟩) (by simp)).trans x0,(hk.cell (p:=⟨w.heap.size,1,none⟩) (by simp)).trans x1,(hk.cell (p:=⟨w.heap.size,2,none⟩) (by simp)).trans x2,(hk.cell (p:=⟨w.heap.size,3,none⟩) (by simp)).trans x3,(hk.cell (p:=⟨w.heap.size,4,none⟩) (by simp)).trans x4⟩))
   |(go_split_ands;exact d6L (c8V hXs (by assumption) (c7Y _)) (fun hk=>⟨(hk.cell (p:=⟨w.heap.size,0,none⟩) (by simp)).trans x0,(hk.cell (p:=⟨w.heap.size,1,none⟩) (by simp)).trans x1,(hk.cell (p:=⟨w.heap.size,2,none⟩) (by simp)).trans x2,(hk.cell (p:=⟨w.heap.size,3,none⟩) (by simp)).trans x3,(hk.cell (p:=⟨w.heap.size,4,none⟩) (by simp)).trans x4⟩))
   |(go_split_ands;exact d6L (Below.grown (by assumption) hgrow (by simp;omega) (fun k hk=>d0U hoN hk)) (fun hk=>⟨(hk.cell (p:=⟨w.heap.size,0,none⟩) (by simp)).trans x0,(hk.cell (p:=⟨w.heap.size,1,none⟩) (by simp)).trans x1,(hk.cell (p:=⟨w.heap.size,2,none⟩) (by simp)).trans x2,(hk.cell (p:=⟨w.heap.size,3,none⟩) (by simp)).trans x3,(hk.cell (p:=⟨w.heap.size,4,none⟩) (by simp)).trans x4⟩)))
  (first
   |(
    go_at_call 329
    go_split_ands
    refine (d2Z b4k n u a b _ (Env.later eX (by rw[hZ];assumption)) u0 u1 a0 a1 b0 b1).mono ?_
    rintro e w4 ⟨v1,rfl,ho,hbf⟩)
   |(
    go_at_call 327
    go_split_ands
    have hoN:=c9G (base':=w.heap.size+1) ho (by simp;omega);refine (d0r m _ (Env.later eX (by rw[hZ];assumption)) (by omega) (by omega)).mono ?_;rintro e w5 ⟨rfl,hbf⟩
    have hs5:=d1E (B:=w.heap.size+1) (x:=X) (by assumption) hbf)
   |((refine step_append_lies _ (by rfl) _ _ _ (by rfl) (w.heap.size+1) 9 i0 _ 1 16 Tryz.underlying26 hi0 hz0 hz1 hz2 rfl (by omega) v1 5 ([b4k,n,Txt.a0x u,c8H a,c8H b].map Value.string) (by rfl) ((c9H hoN hbf).alloc _) ⟨w5.heap.size,0,none⟩ 1 1 [.string (Txt.a0x m)] (by rfl) (by rfl) (World.news_of_block (cs:=#[.string (Txt.a0x m)]) (t:=9) (fr:=(0,0)) (heap_alloc_new _ _)) (by simp[Value.oneCell']) (by omega) (by unfold maxLen;omega) (by omega) (by simp;omega) (w5.heap.size+1) (by simp) ?_;intro g cap w6 hown6 hgrow hat hltg)))
 go_split_ands
 have hbE:Below (w.heap.size+1) X w6:=by assumption
 have HBE:=hide hbE;clear hbE;go_wp2;go_ret;exact⟨_,rfl,c9G hown6 (by omega),hbX.trans (HBE.out.mono (by omega))⟩
theorem g1c(n:ByteArray)(a b:Int)(w:World) :
  Calls Tryz.prog 342 #[.agg #[.string n,.bool false,.int .i64 a,.int .i64 b]] w fun e w'=>WR w w' [a5Q,n] e:=by
 go_enter Tryz.func342,Tryz.ntmps342
 go_wp2;go_ret;have e:=heap_alloc_new (w.alloc (.cells #[.string n,.bool false,.int .i64 a,.int .i64 b] 170)) (.cells #[.string a5Q,.string n] 9);rw[show (w.alloc (.cells #[.string n,.bool false,.int .i64 a,.int .i64 b] 170)).heap.size=w.heap.size+1 from by simp] at e;exact⟨_,rfl,d1j w _ [a5Q,n] _ (by simp) e (show 2<=160 by omega),c8d ((zr _ _).alloc (zq _) _) ((zr _ _).alloc (zq _) _)⟩
theorem g1b(n:ByteArray)(a b:Int)(w:World)(he:Env w)(a0:0<=a)(a1:a<=1048320)(b0:0<=b)(b1:b<=1048320):
  Calls Tryz.prog 342 #[.agg #[.string n,.bool true,.int .i64 a,.int .i64 b]] w fun e w'=>WR w w' [a5Q,n,c8H a,c8H b] e:=by
 obtain⟨i0,hi0,hz0,hz1,hz2⟩:=info_parts e4B
 go_enter Tryz.func342,Tryz.ntmps342
 go_wp2_with fail
 obtain⟨X,hX⟩:∃ X,X=(w.alloc (.cells #[.string n,.bool true,.int .i64 a,.int .i64 b] 170)).alloc (.cells #[.string ⟨#[108,105,115,116]⟩,.string n] 9):=⟨_,rfl⟩;rw[<- hX];have hbX:Below w.heap.size w X:=by rw[hX];exact ((zr _ _).alloc (zq _) _).alloc (by simp) _
 have eX:=he.later hbX;have hXs:w.heap.size+1<=X.heap.size:=by rw[hX];simp
 have hXs10:10<=w.heap.size+1:=by have:=he.size;omega
 have x0:X.cell? ⟨w.heap.size,0,none⟩=some (.string n):=by rw[hX];simp
 have x1:X.cell? ⟨w.heap.size,1,none⟩=some (.bool true):=by rw[hX];simp
 have x2:X.cell? ⟨w.heap.size,2,none⟩=some (.int .i64 a):=by rw[hX];simp
 have x3:X.cell? ⟨w.heap.size,3,none⟩=some (.int .i64 b):=by rw[hX];simp
 have hZ:X.heap.size=w.heap.size+2:=by rw[hX];simp
 have hoX:X.ownsRow (w.heap.size+1) 9 1 (.slice (some ⟨w.heap.size+1,0,none⟩) 2 2) 2 ([.string ⟨#[108,105,115,116]⟩,.string n]):=by
  refine⟨rfl,.inr ⟨w.heap.size+1,2,#[.string ⟨#[108,105,115,116]⟩,.string n],rfl,Nat.le_refl _,?_,Nat.le_refl _,by decide,rfl,rfl⟩⟩;rw[hX];have e:=heap_alloc_new (w.alloc (.cells #[.string n,.bool true,.int .i64 a,.int .i64 b] 170)) (.cells #[.string ⟨#[108,105,115,116]⟩,.string n] 9);rw[show (w.alloc (.cells #[.string n,.bool true,.int .i64 a,.int .i64 b] 170)).heap.size=w.heap.size+1 from by simp] at e;exact e
 have bX:=zr (w.heap.size+1) X;clear hX he;have hoN:=hoX.drew
 go_region_held3 (fun w'=>Below (w.heap.size+1) X w'/\w'.cell? ⟨w.heap.size,0,none⟩=some (.string n)/\w'.cell? ⟨w.heap.size,1,none⟩=some (.bool true)/\w'.cell? ⟨w.heap.size,2,none⟩=some (.int .i64 a)/\w'.cell? ⟨w.heap.size,3,none⟩=some (.int .i64 b))
  (first
   |(go_split_ands;exact d6L (c8V hXs (by assumption) hbf) (fun hk=>⟨(hk.cell (p:=⟨w.heap.size,0,none⟩) (by simp)).trans x0,(hk.cell (p:=⟨w.heap.size,1,none⟩) (by simp)).trans x1,(hk.cell (p:=⟨w.heap.size,2,none⟩) (by simp)).trans x2,(hk.cell (p:=⟨w.heap.size,3,none⟩) (by simp)).trans x3⟩))
   |(go_split_ands;exact d6L (c8V hXs (by assumption) ((zr _ _).alloc (zq _) _)) (fun hk=>⟨(hk.cell (p:=⟨w.heap.size,0,none⟩) (by simp)).trans x0,(hk.cell (p:=⟨w.heap.size,1,none⟩) (by simp)).trans x1,(hk.cell (p:=⟨w.heap.size,2,none⟩) (by simp)).trans x2,(hk.cell (p:=⟨w.heap.size,3,none⟩) (by simp)).trans x3⟩))
   |(go_split_ands;exact d6L (c8V hXs (by assumption) (c7Y _)) (fun hk=>⟨(hk.cell (p:=⟨w.heap.size,0,none⟩) (by simp)).trans x0,(hk.cell (p:=⟨w.heap.size,1,none⟩) (by simp)).trans x1,(hk.cell (p:=⟨w.heap.size,2,none⟩) (by simp)).trans x2,(hk.cell (p:=⟨w.heap.size,3,none⟩) (by simp)).trans x3⟩))
   |(go_split_ands;exact d6L (Below.grown (by assumption) hgrow (by simp;omega) (fun k hk=>d0U hoN hk)) (fun hk=>⟨(hk.cell (p:=⟨w.heap.size,0,none⟩) (by simp)).trans x0,(hk.cell (p:=⟨w.heap.size,1,none⟩) (by simp)).trans x1,(hk.cell (p:=⟨w.heap.size,2,none⟩) (by simp)).trans x2,(hk.cell (p:=⟨w.heap.size,3,none⟩) (by simp)).trans x3⟩)))
  (first
   |(
    go_at_call 330
    go_split_ands
    refine (d2x _ _ (eX.of10 hXs10 (by assumption)) (by omega) (by omega)).mono ?_;rintro e w5 ⟨rfl,hbf⟩;have hs5:=d1E (B:=w.heap.size+1) (x:=X) (by assumption) hbf
    have hoN:=c9H hoN hbf)
   |((refine step_append_lies _ (by rfl) _ _ _ (by rfl) (w.heap.size+1) 9 i0 _ 1 16 Tryz.underlying26 hi0 hz0 hz1 hz2 rfl (by omega) (.slice (some ⟨w.heap.size+1,0,none⟩) 2 2) 2 ([.string ⟨#[108,105,115,116]⟩,.string n]) (by rfl) (hoN.alloc _) ⟨w5.heap.size,0,none⟩ 2 2 [.string (c8H a),.string (c8H b)] (by rfl) (by rfl) (World.news_of_block (cs:=#[.string (c8H a),.string (c8H b)]) (t:=9) (fr:=(0,0)) (heap_alloc_new _ _)) (by simp[Value.oneCell']) (by omega) (by unfold maxLen;omega) (by omega) (by simp;omega) (w5.heap.size+1) (by simp) ?_;intro g cap w6 hown6 hgrow hat hltg)))
 go_split_ands
 have hbE:Below (w.heap.size+1) X w6:=by assumption
 have HBE:=hide hbE;clear hbE;go_wp2;go_ret;exact⟨_,rfl,c9G hown6 (by omega),hbX.trans (HBE.out.mono (by omega))⟩
theorem f8I(k:Nat)(h:k<7):[Value.string ⟨#[109,111]⟩,Value.string ⟨#[116,117]⟩,Value.string ⟨#[119,101]⟩,Value.string ⟨#[116,104]⟩,Value.string ⟨#[102,114]⟩,Value.string ⟨#[115,97]⟩,Value.string ⟨#[115,117]⟩][k]?=some (.string (e0s k)):=by
 rcases (show k=0\/k=1\/k=2\/k=3\/k=4\/k=5\/k=6 by omega) with rfl|rfl|rfl|rfl|rfl|rfl|rfl <;> rfl
theorem DS.nat{b:Nat}(h:DS w b acc)(k:Nat)(hk:k<7):w.cell? ⟨b,k,none⟩=some (.bool (isd acc k)):=by
 have:=h.at k (by omega) (by omega)
 simpa using this
theorem f0w(sym w:ByteArray)(W:World)(hs:w.size<=160)(ho:Txt.onB w=true)
  (c0:(sym.toList==[85,78,73,84,83])=false) (c1:(sym.toList==[77,73,78,85,84,69,83])=false) (c2:(sym.toList==[69,86,69,82,89])=false) (c3:(sym.toList==[73,68])=false) (c4:(sym.toList==[84,73,77,69])=false) (c5:(sym.toList==[79,78])=true):
  Calls Tryz.prog 79 #[.string sym,.string w] W fun e w'=>e=.returned (.string (g0v w))/\Below W.heap.size W w':=by
 go_enter Tryz.func79,Tryz.ntmps79
 go_wp2_with fail
 refine (g0u w W hs).mono ?_;rintro e w1 ⟨⟨acc,rfl,hacc⟩,hb1⟩;have HA:=hide (hacc ho);have HS:=hide (g1e (a0d HA));have HW:Hid (g0v w=onT acc):=by show g0v w=_;unfold g0v;rw[a0d HA]
 clear hacc;unfold a3E;go_wp2;obtain⟨X,hX⟩:∃ X,X=w1.alloc (.cells #[.bool (isd acc 0),.bool (isd acc 1),.bool (isd acc 2),.bool (isd acc 3),.bool (isd acc 4),.bool (isd acc 5),.bool (isd acc 6)] 159):=⟨_,rfl⟩;rw[<- hX];have hbX:Below W.heap.size W X:=by rw[hX];exact hb1.alloc hb1.size _
 have dX:DS X w1.heap.size acc:=by
  rw[hX];refine⟨?_,?_,?_,?_,?_,?_,?_,fun j=>?_⟩ <;> simp
 have hsz:w1.heap.size+1=X.heap.size:=by rw[hX];simp
 clear hX
 go_loopw [12,13] (fun o i wx=>∃ k:Nat,k<=7/\i=.int .i64 k/\o=.string (d5A acc k)/\DS wx w1.heap.size acc/\Below W.heap.size W wx) (fun _ i _=>7-(intOf i).toNat)
 case atStart=>exact⟨0,by omega,rfl,rfl,dX,hbX⟩
 case round =>
  obtain⟨k,hk,rfl,rfl,dk,hbk⟩:=hrel;have oz:=e0W acc k
  by_cases hlt:k<7
  ·have hi:(k:Int)<7:=by omega
   have hi0:(0:Int)<=(k:Int):=Int.natCast_nonneg _;have hc:=dk.nat k hlt;have hl:([Value.string ⟨#[109,111]⟩,Value.string ⟨#[116,117]⟩,Value.string ⟨#[119,101]⟩,Value.string ⟨#[116,104]⟩,Value.string ⟨#[102,114]⟩,Value.string ⟨#[115,97]⟩,Value.string ⟨#[115,117]⟩][k]'hlt)=.string (e0s k):=Option.some.inj ((List.getElem?_eq_getElem hlt).symm.trans (f8I k hlt));have nz:=e4d k;have nz':(e0s k).size<=2:=by omega
   clear nz;have hstep:d5A acc (k+1)=if isd acc k then d5A acc k++⟨#[44]⟩++e0s k else d5A acc k:=rfl
   have HST:=hide hstep;clear hstep
   cases hm:isd acc k
   ·rw[hm] at hc;have HS2:Hid (d5A acc (k+1)=d5A acc k):=(a0d HST).trans (by rw[hm];rfl);go_wp2;exact⟨⟨k+1,by omega,by go_num,by rw[HS2.out],dk,hbk⟩,by simp[intOf];omega⟩
   ·rw[hm] at hc;have HS2:Hid (d5A acc (k+1)=d5A acc k++⟨#[44]⟩++e0s k):=(a0d HST).trans (by rw[hm];rfl);go_wp2;exact⟨⟨k+1,by omega,by go_num,by rw[HS2.out],dk.later ((zr _ _).alloc (zq _) _),hbk.alloc hbk.size _⟩,by simp[intOf];omega⟩
  ·obtain rfl:k=7:=by omega
   have h1:(1:Int)<=((d5A acc 7).size:Int):=by have:=a0d HS;omega
   go_wp2;go_ret;exact⟨f2O (by rw[HW.out];rfl),hbk⟩
theorem g0N{w:ByteArray}(c0:(sym.toList==[85,78,73,84,83])=false)(c1:(sym.toList==[77,73,78,85,84,69,83])=false)(c2:(sym.toList==[69,86,69,82,89])=false)(c3:(sym.toList==[73,68])=false)(c4:(sym.toList==[84,73,77,69])=false)(c5:(sym.toList==[79,78])=false):wrS sym w=w:=by
 simp[wrS,c0,c1,c2,c3,c4,c5]
theorem e9J{w:ByteArray}(h:(sym.toList==[84,73,77,69])=true)(hf:g2B sym w=true):0<=g2T w:=by
 have e:=beq_iff_eq.1 h;unfold g2B at hf;rw[e] at hf
 simpa using hf
theorem g3v{w:ByteArray}(h:(sym.toList==[79,78])=true)(hf:g2B sym w=true):Txt.onB w=true:=by
 have e:=beq_iff_eq.1 h;unfold g2B at hf;rw[e] at hf
 simpa using hf
theorem d7P(sym w:ByteArray)(W:World)(he:Env W)(hs:w.size<=160)(hf:g2B sym w=true):
  Calls Tryz.prog 79 #[.string sym,.string w] W fun e w'=>e=.returned (.string (wrS sym w))/\Below W.heap.size W w':=by
 cases c0:(sym.toList==[85,78,73,84,83])
 case true =>
  rw[show wrS sym w=Txt.a0x (b4g w 1 7) from by simp[wrS,c0]];exact d2K sym w W he hs (.inl c0)
 cases c1:(sym.toList==[77,73,78,85,84,69,83])
 case true =>
  rw[show wrS sym w=Txt.a0x (b4g w 1 7) from by simp[wrS,c0,c1]];exact d2K sym w W he hs (.inr (.inl ⟨c0,c1⟩))
 cases c2:(sym.toList==[69,86,69,82,89])
 case true =>
  rw[show wrS sym w=Txt.a0x (b4g w 1 7) from by simp[wrS,c0,c1,c2]];exact d2K sym w W he hs (.inr (.inr (.inl ⟨c0,c1,c2⟩)))
 cases c3:(sym.toList==[73,68])
 case true =>
  rw[show wrS sym w=Txt.a0x (b4g w 1 7) from by simp[wrS,c0,c1,c2,c3]];exact d2K sym w W he hs (.inr (.inr (.inr ⟨c0,c1,c2,c3⟩)))
 cases c4:(sym.toList==[84,73,77,69])
 case true =>
  rw[show wrS sym w=c8H (g2T w) from by simp[wrS,c0,c1,c2,c3,c4]];exact e2Z sym w W he hs (e9J c4 hf) c0 c1 c2 c3 c4
 cases c5:(sym.toList==[79,78])
 case true =>
  rw[show wrS sym w=g0v w from by simp[wrS,c0,c1,c2,c3,c4,c5]];exact f0w sym w W hs (g3v c5 hf) c0 c1 c2 c3 c4 c5
 rw[g0N c0 c1 c2 c3 c4 c5];refine (e1h sym w W c0 c1 c2 c3 c4 c5).mono ?_;rintro e w' ⟨rfl,rfl⟩;exact⟨rfl,Below.refl _ _⟩
def onL(acc:List Int):Nat->List ByteArray
 |0=>[]
 |k+1=>if isd acc k then onL acc k++[e0s k] else onL acc k
theorem f3f(acc:List Int):∀ k:Nat,(onL acc k).length<=k
 |0=>zq _
 |k+1=>by
  have:=f3f acc k;unfold onL
  split <;> simp <;> omega
theorem Env.day(h:Env w)(k:Nat)(hk:k<7):w.cell? ⟨3,k,none⟩=some (.string (e0s k)):=by
 rcases (show k=0\/k=1\/k=2\/k=3\/k=4\/k=5\/k=6 by omega) with rfl|rfl|rfl|rfl|rfl|rfl|rfl
 ·exact h.mo
 ·exact h.tu
 ·exact h.we
 ·exact h.th
 ·exact h.fr
 ·exact h.sa
 ·exact h.su
def onJ(acc:List Int):ByteArray:=⟨(Lib.join ((onL acc 7).map (·.data.toList)) [44]).toArray⟩
theorem f0F(acc:List Int)(w:World)(he:Env w)(hne:onL acc 7≠[])(hlen:(Lib.join ((onL acc 7).map (·.data.toList)) [44]).length<=160):
  Calls Tryz.prog 339 #[a3E acc] w fun e w'=>e=.returned (.string (onJ acc))/\Below w.heap.size w w':=by
 obtain⟨i0,hi,hz0,hz1,hz2⟩:=info_parts e4B;have HE:=hide he;have h10:=he.size;have HNE:=hide hne;have HLEN:=hide hlen;clear he hne hlen;simp only[a3E]
 go_enter Tryz.func339,Tryz.ntmps339
 go_wp2;obtain⟨X,hX⟩:∃ X,X=w.alloc (.cells #[.bool (isd acc 0),.bool (isd acc 1),.bool (isd acc 2),.bool (isd acc 3),.bool (isd acc 4),.bool (isd acc 5),.bool (isd acc 6)] 160):=⟨_,rfl⟩;rw[<- hX];have hbX:Below (w.heap.size+1) X X:=zr _ _;have hbw:Below w.heap.size w X:=by rw[hX];exact (zr _ _).alloc (zq _) _
 have dX:DS X w.heap.size acc:=by
  rw[hX];refine⟨?_,?_,?_,?_,?_,?_,?_,fun j=>?_⟩ <;> simp
 have hsz:w.heap.size+1=X.heap.size:=by rw[hX];simp
 have HX:=hide ((a0d HE).later hbw);clear hX
 go_loopw [3,4,5] (fun v _ i wx=>∃ k:Nat,k<=7/\i=.int .i64 k/\wx.ownsRow (w.heap.size+1) 9 1 v (onL acc k).length ((onL acc k).map Value.string)/\Below (w.heap.size+1) X wx) (fun _ _ i _=>7-(intOf i).toNat)
 case atStart=>exact⟨0,by omega,rfl,World.ownsRow_nil _ _ _ _,hbX⟩
 case round =>
  obtain⟨k,hk,rfl,hown,hbk⟩:=hrel;have hnl:=f3f acc k
  by_cases hlt:k<7
  ·have hi1:(k:Int)<7:=by omega
   have hi2:(0:Int)<=(k:Int):=Int.natCast_nonneg _;have hc:wr.cell? ⟨w.heap.size,k,none⟩=some (.bool (isd acc k)):=(hbk.cell (p:=⟨w.heap.size,k,none⟩) (by simp)).trans (dX.nat k hlt);have hday:wr.cell? ⟨3,k,none⟩=some (.string (e0s k)):=(hbk.cell (p:=⟨3,k,none⟩) (show 3<w.heap.size+1 by omega)).trans ((a0d HX).day k hlt);have hstep:onL acc (k+1)=if isd acc k then onL acc k++[e0s k] else onL acc k:=rfl
   have HST:=hide hstep;clear hstep;have hsz2:=hbk.size
   cases hm:isd acc k
   ·rw[hm] at hc;have HS2:Hid (onL acc (k+1)=onL acc k):=(a0d HST).trans (by rw[hm];rfl);go_wp2;exact⟨⟨k+1,by omega,by go_num,by rw[HS2.out];exact hown,hbk⟩,by simp[intOf];omega⟩
   ·rw[hm] at hc;have HS2:Hid (onL acc (k+1)=onL acc k++[e0s k]):=(a0d HST).trans (by rw[hm];rfl)
    go_wp2_with (first
     |(at_builtin;refine wpList_append_own _ rfl _ _ 26 rfl (w.heap.size+1) 9 i0 (.string ⟨#[]⟩) 1 16 Tryz.underlying26 hi hz0 hz1 hz2 rfl (by decide) _ _ _ rfl (hown.alloc _) ⟨wr.heap.size,0,none⟩ 1 1 [.string (e0s k)] rfl rfl ?c1 ?c2 ?c3 ?c4 ?c5 ?_))
    case c1=>exact World.news_of_block (cs:=#[.string (e0s k)]) (heap_alloc_new wr _)
    case c2=>simp[Value.oneCell']
    case c3=>unfold maxLen;omega
    case c4=>omega
    case c5=>simp;omega
    intro v' w' hown' hgrow _;have hbk':Below (w.heap.size+1) X w':=(hbk.alloc (by omega) _).grown hgrow (by simp;omega) (fun k hk=>d0U hown hk)
    have HO:Hid (w'.ownsRow (w.heap.size+1) 9 1 v' (onL acc (k+1)).length ((onL acc (k+1)).map Value.string)):=by
     show w'.ownsRow _ _ _ _ _ _;rw[HS2.out,List.map_append,List.length_append];exact c9G hown' (by omega)
    clear hown' hgrow;go_wp2;exact⟨⟨k+1,by omega,by go_num,HO.out,hbk'⟩,by simp[intOf];omega⟩
  ·obtain rfl:k=7:=by omega
   obtain⟨a,c,g,rfl,hrow⟩:=e0O hown rfl;have hpos:0<(onL acc 7).length:=List.length_pos_iff.2 (a0d HNE);obtain rfl:=hrow.at_ hpos;have HROW:=hide hrow
   have hcap:(onL acc 7).length<=c:=by
    rcases hown.2 with ⟨h,_⟩|⟨g',cap,cur,hv,_,_,hc,_⟩
    ·cases h
    ·cases hv;exact hc
   have hgl:g<wr.heap.size:=World.block_lt_of_cell? _ ⟨g,0,none⟩ (hrow.cells 0 hpos);clear hown hrow
   go_wp2_with fail
   refine (Tryz.strings_Join g 0 c (onL acc 7) ⟨#[44]⟩ wr (fun j x hx=>?_) hgl (by omega) hcap (Nat.le_trans (a0d HLEN) (by omega))).mono ?_
   ·obtain⟨hj,e⟩:=List.getElem?_eq_some_iff.1 hx;have:=(a0d HROW).cells j hj;rw[e] at this;rw[Nat.zero_add];exact this
   rintro e w' ⟨rfl,hbj⟩;have hbe:=hbw.trans (Below.trans (hbk.mono (by omega)) (hbj.mono (by have:=hbk.size;omega)));go_wp2;go_ret;exact⟨rfl,hbe⟩
theorem f2W(ev:Int)(acc:List Int)(fr mn mi ti un:Int)(w:World)(he:Env w)(e0:0<=ev)(e1:ev<=9999999):
  Calls Tryz.prog 338 #[b9E 1 ev acc fr mn mi ti un] w fun e w'=>WR w w' [b0Y,Txt.a0x ev] e:=by
 simp only[b9E]
 go_enter Tryz.func338,Tryz.ntmps338
 go_wp2_with fail
 obtain⟨X,hX⟩:∃ X,X=w.alloc (.cells #[.int .i64 1,.int .i64 ev,.bool (isd acc 0),.bool (isd acc 1),.bool (isd acc 2),.bool (isd acc 3),.bool (isd acc 4),.bool (isd acc 5),.bool (isd acc 6),.int .i64 fr,.int .i64 mn,.int .i64 mi,.int .i64 ti,.int .i64 un] 162):=⟨_,rfl⟩;rw[<- hX];have hbX:Below w.heap.size w X:=by rw[hX];exact (zr _ _).alloc (zq _) _
 have eX:=he.later hbX;clear hX he;refine (d0r ev X eX (by omega) (by omega)).mono ?_;rintro e w4 ⟨rfl,hbf⟩;have hb4:=c8d hbX hbf;have hs4:=hb4.size;go_wp2;go_ret;exact⟨_,rfl,d1j w _ [b0Y,Txt.a0x ev] w4.heap.size hs4 (heap_alloc_new w4 _) (show 2<=160 by omega),c8d hb4 ((zr _ _).alloc (zq _) _)⟩
theorem e6e(ev:Int)(acc:List Int)(fr mn mi ti un:Int)(w:World)(he:Env w)(e0:0<=ev)(e1:ev<=9999999):
  Calls Tryz.prog 338 #[b9E 3 ev acc fr mn mi ti un] w fun e w'=>WR w w' [a8w,Txt.a0x ev] e:=by
 simp only[b9E]
 go_enter Tryz.func338,Tryz.ntmps338
 go_wp2_with fail
 obtain⟨X,hX⟩:∃ X,X=w.alloc (.cells #[.int .i64 3,.int .i64 ev,.bool (isd acc 0),.bool (isd acc 1),.bool (isd acc 2),.bool (isd acc 3),.bool (isd acc 4),.bool (isd acc 5),.bool (isd acc 6),.int .i64 fr,.int .i64 mn,.int .i64 mi,.int .i64 ti,.int .i64 un] 162):=⟨_,rfl⟩;rw[<- hX];have hbX:Below w.heap.size w X:=by rw[hX];exact (zr _ _).alloc (zq _) _
 have eX:=he.later hbX;clear hX he;refine (d0r ev X eX (by omega) (by omega)).mono ?_;rintro e w4 ⟨rfl,hbf⟩;have hb4:=c8d hbX hbf;have hs4:=hb4.size;go_wp2;go_ret;exact⟨_,rfl,d1j w _ [a8w,Txt.a0x ev] w4.heap.size hs4 (heap_alloc_new w4 _) (show 2<=160 by omega),c8d hb4 ((zr _ _).alloc (zq _) _)⟩
theorem f0E(ev:Int)(acc:List Int)(fr mn mi ti un:Int)(w:World)(he:Env w)(e0:0<=ev)(e1:ev<=9999999)(hne:onL acc 7≠[])(hlen:(Lib.join ((onL acc 7).map (·.data.toList)) [44]).length<=160):
  Calls Tryz.prog 338 #[b9E 2 ev acc fr mn mi ti un] w fun e w'=>WR w w' [a8D,Txt.a0x ev,onJ acc] e:=by
 have HNE:=hide hne;have HLEN:=hide hlen;clear hne hlen;simp only[b9E]
 go_enter Tryz.func338,Tryz.ntmps338
 go_wp2_with fail
 obtain⟨X,hX⟩:∃ X,X=w.alloc (.cells #[.int .i64 2,.int .i64 ev,.bool (isd acc 0),.bool (isd acc 1),.bool (isd acc 2),.bool (isd acc 3),.bool (isd acc 4),.bool (isd acc 5),.bool (isd acc 6),.int .i64 fr,.int .i64 mn,.int .i64 mi,.int .i64 ti,.int .i64 un] 162):=⟨_,rfl⟩;rw[<- hX];have hbX:Below w.heap.size w X:=by rw[hX];exact (zr _ _).alloc (zq _) _
 have eX:=he.later hbX;have hXs:w.heap.size+1<=X.heap.size:=by rw[hX];simp
 have hXs10:10<=w.heap.size+1:=by have:=he.size;omega
 have x0:X.cell? ⟨w.heap.size,0,none⟩=some (.int .i64 2):=by rw[hX];simp
 have x1:X.cell? ⟨w.heap.size,1,none⟩=some (.int .i64 ev):=by rw[hX];simp
 have x2:X.cell? ⟨w.heap.size,2,none⟩=some (.bool (isd acc 0)):=by rw[hX];simp
 have x3:X.cell? ⟨w.heap.size,3,none⟩=some (.bool (isd acc 1)):=by rw[hX];simp
 have x4:X.cell? ⟨w.heap.size,4,none⟩=some (.bool (isd acc 2)):=by rw[hX];simp
 have x5:X.cell? ⟨w.heap.size,5,none⟩=some (.bool (isd acc 3)):=by rw[hX];simp
 have x6:X.cell? ⟨w.heap.size,6,none⟩=some (.bool (isd acc 4)):=by rw[hX];simp
 have x7:X.cell? ⟨w.heap.size,7,none⟩=some (.bool (isd acc 5)):=by rw[hX];simp
 have x8:X.cell? ⟨w.heap.size,8,none⟩=some (.bool (isd acc 6)):=by rw[hX];simp
 have x9:X.cell? ⟨w.heap.size,9,none⟩=some (.int .i64 fr):=by rw[hX];simp
 have x10:X.cell? ⟨w.heap.size,10,none⟩=some (.int .i64 mn):=by rw[hX];simp
 have x11:X.cell? ⟨w.heap.size,11,none⟩=some (.int .i64 mi):=by rw[hX];simp
 have x12:X.cell? ⟨w.heap.size,12,none⟩=some (.int .i64 ti):=by rw[hX];simp
 have x13:X.cell? ⟨w.heap.size,13,none⟩=some (.int .i64 un):=by rw[hX];simp
 have bX:=zr (w.heap.size+1) X;clear hX he;have hZ2:w.heap.size+1<=X.heap.size:=hXs
 go_region_held3 (fun w'=>Below (w.heap.size+1) X w'/\w'.cell? ⟨w.heap.size,0,none⟩=some (.int .i64 2)/\w'.cell? ⟨w.heap.size,1,none⟩=some (.int .i64 ev)/\w'.cell? ⟨w.heap.size,2,none⟩=some (.bool (isd acc 0))/\w'.cell? ⟨w.heap.size,3,none⟩=some (.bool (isd acc 1))/\w'.cell? ⟨w.heap.size,4,none⟩=some (.bool (isd acc 2))/\w'.cell? ⟨w.heap.size,5,none⟩=some (.bool (isd acc 3))/\w'.cell? ⟨w.heap.size,6,none⟩=some (.bool (isd acc 4))/\w'.cell? ⟨w.heap.size,7,none⟩=some (.bool (isd acc 5))/\w'.cell? ⟨w.heap.size,8,none⟩=some (.bool (isd acc 6))/\w'.cell? ⟨w.heap.size,9,none⟩=some (.int .i64 fr)/\w'.cell? ⟨w.heap.size,10,none⟩=some (.int .i64 mn)/\w'.cell? ⟨w.heap.size,11,none⟩=some (.int .i64 mi)/\w'.cell? ⟨w.heap.size,12,none⟩=some (.int .i64 ti)/\w'.cell? ⟨w.heap.size,13,none⟩=some (.int .i64 un))
  (first
   |(go_split_ands;exact d6L (c8V hXs (by assumption) hbf) (fun hk=>⟨(hk.cell (p:=⟨w.heap.size,0,none⟩) (by simp)).trans x0,(hk.cell (p:=⟨w.heap.size,1,none⟩) (by simp)).trans x1,(hk.cell (p:=⟨w.heap.size,2,none⟩) (by simp)).trans x2,(hk.cell (p:=⟨w.heap.size,3,none⟩) (by simp)).trans x3,(hk.cell (p:=⟨w.heap.size,4,none⟩) (by simp)).trans x4,(hk.cell (p:=⟨w.heap.size,5,none⟩) (by simp)).trans x5,(hk.cell (p:=⟨w.heap.size,6,none⟩) (by simp)).trans x6,(hk.cell (p:=⟨w.heap.size,7,none⟩) (by simp)).trans x7,(hk.cell (p:=⟨w.heap.size,8,none⟩) (by simp)).trans x8,(hk.cell (p:=⟨w.heap.size,9,none⟩) (by simp)).trans x9,(hk.cell (p:=⟨w.heap.size,10,none⟩) (by simp)).trans x10,(hk.cell (p:=⟨w.heap.size,11,none⟩) (by simp)).trans x11,(hk.cell (p:=⟨w.heap.size,12,none⟩) (by simp)).trans x12,(hk.cell (p:=⟨w.heap.size,13,none⟩) (by simp)).trans x13⟩))
   |(go_split_ands;exact d6L (c8V hXs (by assumption) ((zr _ _).alloc (zq _) _)) (fun hk=>⟨(hk.cell (p:=⟨w.heap.size,0,none⟩) (by simp)).trans x0,(hk.cell (p:=⟨w.heap.size,1,none⟩) (by simp)).trans x1,(hk.cell (p:=⟨w.heap.size,2,none⟩) (by simp)).trans x2,(hk.cell (p:=⟨w.heap.size,3,none⟩) (by simp)).trans x3,(hk.cell (p:=⟨w.heap.size,4,none⟩) (by simp)).trans x4,(hk.cell (p:=⟨w.heap.size,5,none⟩) (by simp)).trans x5,(hk.cell (p:=⟨w.heap.size,6,none⟩) (by simp)).trans x6,(hk.cell (p:=⟨w.heap.size,7,none⟩) (by simp)).trans x7,(hk.cell (p:=⟨w.heap.size,8,none⟩) (by simp)).trans x8,(hk.cell (p:=⟨w.heap.size,9,none⟩) (by simp)).trans x9,(hk.cell (p:=⟨w.heap.size,10,none⟩) (by simp)).trans x10,(hk.cell (p:=⟨w.heap.size,11,none⟩) (by simp)).trans x11,(hk.cell (p:=⟨w.heap.size,12,none⟩) (by simp)).trans x12,(hk.cell (p:=⟨w.heap.size,13,none⟩) (by simp)).trans x13⟩))
   |(go_split_ands;exact d6L (c8V hXs (by assumption) (c7Y _)) (fun hk=>⟨(hk.cell (p:=⟨w.heap.size,0,none⟩) (by simp)).trans x0,(hk.cell (p:=⟨w.heap.size,1,none⟩) (by simp)).trans x1,(hk.cell (p:=⟨w.heap.size,2,none⟩) (by simp)).trans x2,(hk.cell (p:=⟨w.heap.size,3,none⟩) (by simp)).trans x3,(hk.cell (p:=⟨w.heap.size,4,none⟩) (by simp)).trans x4,(hk.cell (p:=⟨w.heap.size,5,none⟩) (by simp)).trans x5,(hk.cell (p:=⟨w.heap.size,6,none⟩) (by simp)).trans x6,(hk.cell (p:=⟨w.heap.size,7,none⟩) (by simp)).trans x7,(hk.cell (p:=⟨w.heap.size,8,none⟩) (by simp)).trans x8,(hk.cell (p:=⟨w.heap.size,9,none⟩) (by simp)).trans x9,(hk.cell (p:=⟨w.heap.size,10,none⟩) (by simp)).trans x10,(hk.cell (p:=⟨w.heap.size,11,none⟩) (by simp)).trans x11,(hk.cell (p:=⟨w.heap.size,12,none⟩) (by simp)).trans x12,(hk.cell (p:=⟨w.heap.size,13,none⟩) (by simp)).trans x13⟩))
   |(go_split_ands;exact d6L (Below.grown (by assumption) hgrow (by simp;omega) (fun k hk=>d0U hoN hk)) (fun hk=>⟨(hk.cell (p:=⟨w.heap.size,0,none⟩) (by simp)).trans x0,(hk.cell (p:=⟨w.heap.size,1,none⟩) (by simp)).trans x1,(hk.cell (p:=⟨w.heap.size,2,none⟩) (by simp)).trans x2,(hk.cell (p:=⟨w.heap.size,3,none⟩) (by simp)).trans x3,(hk.cell (p:=⟨w.heap.size,4,none⟩) (by simp)).trans x4,(hk.cell (p:=⟨w.heap.size,5,none⟩) (by simp)).trans x5,(hk.cell (p:=⟨w.heap.size,6,none⟩) (by simp)).trans x6,(hk.cell (p:=⟨w.heap.size,7,none⟩) (by simp)).trans x7,(hk.cell (p:=⟨w.heap.size,8,none⟩) (by simp)).trans x8,(hk.cell (p:=⟨w.heap.size,9,none⟩) (by simp)).trans x9,(hk.cell (p:=⟨w.heap.size,10,none⟩) (by simp)).trans x10,(hk.cell (p:=⟨w.heap.size,11,none⟩) (by simp)).trans x11,(hk.cell (p:=⟨w.heap.size,12,none⟩) (by simp)).trans x12,(hk.cell (p:=⟨w.heap.size,13,none⟩) (by simp)).trans x13⟩)))
  (first
   |(
    go_at_call 327
    go_split_ands
    refine (d0r _ _ (eX.of10 hXs10 (by assumption)) (by omega) (by omega)).mono ?_
    rintro e w4 ⟨rfl,hbf⟩)
   |(
    go_at_call 339
    go_split_ands
    refine (f0F acc _ (eX.of10 hXs10 (by assumption)) (a0d HNE) (a0d HLEN)).mono ?_;rintro e w5 ⟨rfl,hbf⟩
    have hs5:=d1E (B:=w.heap.size+1) (x:=X) (by assumption) hbf))
 go_split_ands
 have hbE:Below (w.heap.size+1) X (w5.alloc (.cells #[.string ⟨#[119,101,101,107,108,121]⟩,.string (Txt.a0x ev),.string (onJ acc)] 9)):=by assumption
 have HBE:=hide hbE;have hs6:w.heap.size<=w5.heap.size:=by omega
 clear hbE;go_wp2;go_ret;exact⟨_,rfl,d1j w _ [a8D,Txt.a0x ev,onJ acc] w5.heap.size hs6 (heap_alloc_new w5 _) (show 3<=160 by omega),hbX.trans (HBE.out.mono (by omega))⟩
def e7C(fr mn mi:Int):List ByteArray:=[a1t,d0L fr,atW,d8f mn,b3z,Txt.a0x mi]
inductive PaW:Int->Int->List Int->List ByteArray->Prop where
 |daily (ev:Int) (acc:List Int) (e0:0<=ev) (e1:ev<=9999999):PaW 1 ev acc [b0Y,Txt.a0x ev]
 |weekly (ev:Int) (acc:List Int) (e0:0<=ev) (e1:ev<=9999999) (hne:onL acc 7≠[]) (hlen:(Lib.join ((onL acc 7).map (·.data.toList)) [44]).length<=160):PaW 2 ev acc [a8D,Txt.a0x ev,onJ acc]
 |monthly (ev:Int) (acc:List Int) (e0:0<=ev) (e1:ev<=9999999):PaW 3 ev acc [a8w,Txt.a0x ev]
inductive EnW:Int->Int->List ByteArray->Prop where
 |times (ti un:Int) (t0:0<ti) (t1:ti<=9999999):EnW ti un [b2z,Txt.a0x ti]
 |til (un:Int) (u0:0<=un) (u1:un<=728):EnW 0 un [b5O,d0L un]
inductive RW:Int->Int->List Int->Int->Int->Int->Int->Int->List ByteArray->Prop where
 |mk (pc ev:Int) (acc:List Int) (fr mn mi ti un:Int) (ps es:List ByteArray) (hp:PaW pc ev acc ps) (he:EnW ti un es) (f0:0<=fr) (f1:fr<=728) (m0:0<=mn) (m1:mn<1440) (i0:0<=mi) (i1:mi<=9999999):RW pc ev acc fr mn mi ti un (ps++e7C fr mn mi++es)
inductive PW:Value->List ByteArray->Prop where
 |a0k (n:ByteArray) (u:Int) (u0:0<=u) (u1:u<=9999999):PW (.iface 149 (.agg #[.string n,.int .i64 u])) [a3F,n,Txt.a0x u]
 |book (n:ByteArray) (u a b:Int) (u0:0<=u) (u1:u<=9999999) (a0:0<=a) (a1:a<=1048320) (b0:0<=b) (b1:b<=1048320):PW (.iface 154 (.agg #[.string n,.int .i64 u,.int .i64 a,.int .i64 b])) [a9P,n,Txt.a0x u,c8H a,c8H b]
 |hold (n:ByteArray) (u a b m:Int) (u0:0<=u) (u1:u<=9999999) (a0:0<=a) (a1:a<=1048320) (b0:0<=b) (b1:b<=1048320) (m0:0<=m) (m1:m<=9999999):PW (.iface 156 (.agg #[.string n,.int .i64 u,.int .i64 a,.int .i64 b,.int .i64 m])) [b5f,n,Txt.a0x u,c8H a,c8H b,Txt.a0x m]
 |wait (n:ByteArray) (u a b m:Int) (u0:0<=u) (u1:u<=9999999) (a0:0<=a) (a1:a<=1048320) (b0:0<=b) (b1:b<=1048320) (m0:0<=m) (m1:m<=9999999):PW (.iface 157 (.agg #[.string n,.int .i64 u,.int .i64 a,.int .i64 b,.int .i64 m])) [b4k,n,Txt.a0x u,c8H a,c8H b,Txt.a0x m]
 |series (n:ByteArray) (u pc ev:Int) (acc:List Int) (fr mn mi ti un:Int) (xs:List ByteArray) (u0:0<=u) (u1:u<=9999999) (hr:RW pc ev acc fr mn mi ti un xs):PW (.iface 165 (.agg #[.string n,.int .i64 u,.int .i64 pc,.int .i64 ev,.bool (isd acc 0),.bool (isd acc 1),.bool (isd acc 2),.bool (isd acc 3),.bool (isd acc 4),.bool (isd acc 5),.bool (isd acc 6),.int .i64 fr,.int .i64 mn,.int .i64 mi,.int .i64 ti,.int .i64 un])) ([a7l,n,Txt.a0x u]++xs)
 |confirm (u:Int) (u0:0<=u) (u1:u<=9999999):PW (.iface 167 (.agg #[.int .i64 u])) [a4z,Txt.a0x u]
 |cancel (u:Int) (u0:0<=u) (u1:u<=9999999):PW (.iface 168 (.agg #[.int .i64 u])) [a6m,Txt.a0x u]
 |list0 (n:ByteArray) (a b:Int):PW (.iface 170 (.agg #[.string n,.bool false,.int .i64 a,.int .i64 b])) [a5Q,n]
 |list1 (n:ByteArray) (a b:Int) (a0:0<=a) (a1:a<=1048320) (b0:0<=b) (b1:b<=1048320):PW (.iface 170 (.agg #[.string n,.bool true,.int .i64 a,.int .i64 b])) [a5Q,n,c8H a,c8H b]
 |waiting:PW (.iface 173 (.agg #[])) [a5q]
 |peak (n:ByteArray) (a b:Int) (a0:0<=a) (a1:a<=1048320) (b0:0<=b) (b1:b<=1048320):PW (.iface 176 (.agg #[.string n,.int .i64 a,.int .i64 b])) [a9a,n,c8H a,c8H b]
 |find (n:ByteArray) (u m a b:Int) (u0:0<=u) (u1:u<=9999999) (m0:0<=m) (m1:m<=9999999) (a0:0<=a) (a1:a<=1048320) (b0:0<=b) (b1:b<=1048320):PW (.iface 178 (.agg #[.string n,.int .i64 u,.int .i64 m,.int .i64 a,.int .i64 b])) [b5h,n,Txt.a0x u,Txt.a0x m,c8H a,c8H b]
 |expand (pc ev:Int) (acc:List Int) (fr mn mi ti un:Int) (xs:List ByteArray) (hr:RW pc ev acc fr mn mi ti un xs):PW (.iface 180 (.agg #[.int .i64 pc,.int .i64 ev,.bool (isd acc 0),.bool (isd acc 1),.bool (isd acc 2),.bool (isd acc 3),.bool (isd acc 4),.bool (isd acc 5),.bool (isd acc 6),.int .i64 fr,.int .i64 mn,.int .i64 mi,.int .i64 ti,.int .i64 un])) ([a7M]++xs)
 |tick (u:Int) (u0:0<=u) (u1:u<=9999999):PW (.iface 182 (.agg #[.int .i64 u])) [b4n,Txt.a0x u]
 |clock:PW (.iface 183 (.agg #[])) [b1c]
def jn(xs:List ByteArray):ByteArray:=⟨(Lib.join (xs.map (·.data.toList)) [32]).toArray⟩
open Desk (Ent)
structure NV(w:World)(v:Value)(l:List Int):Prop where
 form:∃ a cap,v=.slice a l.length cap
 cell:∀ (k:Nat) (hk:k<l.length),∃ g cap,v=.slice (some ⟨g,0,none⟩) l.length cap/\w.cell? ⟨g,k,none⟩=some (.int .i64 l[k])
theorem NV.later{l:List Int}(h:NV w v l)(k:Below w.heap.size w w'):NV w' v l :=
 ⟨h.form,fun i hi=>by
  obtain⟨g,cap,e,a⟩:=h.cell i hi
  exact⟨g,cap,e,a0a k a⟩⟩
structure SV(w:World)(v:Value)(L:List (Int × Int)):Prop where
 form:∃ a cap,v=.slice a L.length cap
 cell:∀ (k:Nat) (hk:k<L.length),∃ g cap,v=.slice (some ⟨g,0,none⟩) L.length cap/\w.cell? ⟨g,k*2,none⟩=some (.int .i64 L[k].1)/\w.cell? ⟨g,k*2+1,none⟩=some (.int .i64 L[k].2)
theorem SV.later(h:SV w v L)(k:Below w.heap.size w w'):SV w' v L :=
 ⟨h.form,fun i hi=>by
  obtain⟨g,cap,e,a,b⟩:=h.cell i hi
  exact⟨g,cap,e,a0a k a,a0a k b⟩⟩
structure EV(w:World)(v:Value)(l:List (Ent × Value)):Prop where
 form:∃ a cap,v=.slice a l.length cap
 cell:∀ (k:Nat) (hk:k<l.length),∃ g cap,v=.slice (some ⟨g,0,none⟩) l.length cap/\w.cell? ⟨g,k*6,none⟩=some (.int .i64 l[k].1.id)/\w.cell? ⟨g,k*6+1,none⟩=some (.int .i64 l[k].1.kind)/\w.cell? ⟨g,k*6+2,none⟩=some (.string l[k].1.a0k)/\w.cell? ⟨g,k*6+3,none⟩=some (.int .i64 l[k].1.a0c)/\w.cell? ⟨g,k*6+4,none⟩=some l[k].2/\w.cell? ⟨g,k*6+5,none⟩=some (.int .i64 l[k].1.a0Z)
 sp:∀ p∈l,SV w p.2 p.1.a0e
theorem EV.later{l:List (Ent × Value)}(h:EV w v l)(k:Below w.heap.size w w'):EV w' v l :=
 ⟨h.form,fun i hi=>by
  obtain⟨g,cap,e,a0,a1,a2,a3,a4,a5⟩:=h.cell i hi
  exact⟨g,cap,e,a0a k a0,a0a k a1,a0a k a2,a0a k a3,a0a k a4,a0a k a5⟩,fun p hp=>(h.sp p hp).later k⟩
namespace Desk
theorem b3t{a b:Int}{x:Ent}:∀ l:List Ent,(c0F a b x l).Perm (x :: l)
 |[]=>by simp[c0F]
 |y :: r=>by
  simp only[c0F]
  split
  ·exact List.Perm.refl _
  ·exact ((b3t r).cons y).trans (List.Perm.swap x y r)
theorem a3Y{a b:Int}:∀ l:List Ent,(b2J a b l).Perm l
 |[]=>List.Perm.refl _
 |x :: r=>(b3t _).trans ((a3Y r).cons x)
end Desk
open Desk (Ent a0r hasB)
theorem SV.own(h:w.ownsRow B 60 2 v L.length (L.flatMap spV)):SV w v L:=by
 refine⟨a0B h,fun k hk=>?_⟩;obtain⟨g,cap,e⟩:=Joins.ownsRow_form h (by omega);subst e;obtain⟨f1,f2⟩:=b3B k hk;have hl:=b0S L;have a0:=h.cellAt (k*2) (by omega);have a1:=h.cellAt (k*2+1) (by omega);rw[f1] at a0;rw[f2] at a1;exact⟨g,cap,rfl,a0,a1⟩
theorem EV.own{l:List (Ent × Value)}(h:w.ownsRow B 58 6 v l.length (l.flatMap a1f))(sp:∀ p∈l,SV w p.2 p.1.a0e):EV w v l:=by
 refine⟨a0B h,fun k hk=>?_,sp⟩;obtain⟨g,cap,e⟩:=Joins.ownsRow_form h (by omega);subst e
 have at_:∀ j,j<6->w.cell? ⟨g,k*6+j,none⟩=(a1f l[k])[j]?:=fun j hj=>by
  have a0:=h.cellAt (k*6+j) (by omega);rw[a3M hk hj] at a0;exact a0
 exact⟨g,cap,rfl,at_ 0 (by omega),at_ 1 (by omega),at_ 2 (by omega),at_ 3 (by omega),at_ 4 (by omega),at_ 5 (by omega)⟩
namespace Desk
end Desk
namespace Desk
theorem b8H{s:St}{l:a7U}(h:(a0g s l).2.err≠0):(a0g s l).2=Rep.error (a0g s l).2.err:=by
 cases l with
 |a0k name u =>
  simp only[a0g] at h ⊢
  by_cases c1:a0h name s.ts≠0
  ·rw[if_pos c1];rfl
  ·rw[if_neg c1] at h ⊢
   by_cases c2:s.ts.length=4
   ·rw[if_pos c2];rfl
   ·rw[if_neg c2] at h;exact absurd rfl h
 |enter k name u fr til long =>
  simp only[a0g] at h ⊢
  by_cases c:a1M s k name u fr til long≠0
  ·rw[if_pos c];rfl
  ·rw[if_neg c] at h;exact absurd rfl h
 |series name u r =>
  simp only[a0g] at h ⊢
  by_cases c:a2l s name u r≠0
  ·rw[if_pos c];rfl
  ·rw[if_neg c] at h;exact absurd rfl h
 |confirm id =>
  simp only[a0g] at h ⊢
  cases hf:a5S id s.es with
  |none=>rfl
  |some e =>
   rw[hf] at h;simp only at h ⊢
   by_cases c:e.kind≠2
   ·rw[if_pos c];rfl
   ·rw[if_neg c] at h;exact absurd rfl h
 |cancel id =>
  simp only[a0g] at h ⊢
  cases hf:a5S id s.es with
  |none=>rfl
  |some e=>rw[hf] at h;exact absurd rfl h
 |list name fr til =>
  simp only[a0g] at h ⊢
  by_cases c1:a0h name s.ts=0
  ·rw[if_pos c1];rfl
  ·rw[if_neg c1] at h ⊢
   by_cases c2:til<=fr
   ·rw[if_pos c2];rfl
   ·rw[if_neg c2] at h;exact absurd rfl h
 |waiting=>exact absurd rfl h
 |peak name fr til =>
  simp only[a0g] at h ⊢
  by_cases c1:a0h name s.ts=0
  ·rw[if_pos c1];rfl
  ·rw[if_neg c1] at h ⊢
   by_cases c2:til<=fr
   ·rw[if_pos c2];rfl
   ·rw[if_neg c2] at h;exact absurd rfl h
 |find name u long fr til =>
  simp only[a0g] at h ⊢
  by_cases c1:a0S s.ts name u≠0
  ·rw[if_pos c1];rfl
  ·rw[if_neg c1] at h ⊢
   by_cases c2:til<=fr
   ·rw[if_pos c2];rfl
   ·rw[if_neg c2] at h;exact absurd rfl h
 |expand r =>
  simp only[a0g] at h ⊢
  by_cases c:Rd.a6W r≠0
  ·rw[if_pos c];rfl
  ·rw[if_neg c] at h;exact absurd rfl h
 |tick n =>
  simp only[a0g] at h ⊢
  by_cases c:1048320<s.now+n
  ·rw[if_pos c];rfl
  ·rw[if_neg c] at h;exact absurd rfl h
 |clock=>exact absurd rfl h
end Desk
namespace Desk
theorem c3R:∀ (l:List Int)(a b:Int),l.Pairwise (· < ·)->(∀ x∈l,a<=x/\x<=b)->(l.length:Int)<=max 0 (b-a+1)
 |[],_,_,_,_=>by simp;omega
 |x :: r,a,b,hp,hb=>by
  obtain⟨h1,h2⟩:=List.pairwise_cons.1 hp;have hx:=hb x (List.mem_cons_self ..);have:=c3R r (x+1) b h2 (fun y hy=>⟨by have:=h1 y hy;omega,(hb y (List.mem_cons_of_mem _ hy)).2⟩);simp only[List.length_cons];omega
theorem c6C{s:St}(h:Inv s):s.es.length<=60:=by
 have hi:(s.es.map (·.id)).Pairwise (· < ·):=h.ids;have hg:=h.g1
 have:=c3R _ 1 60 hi (fun x hx=>by
  obtain⟨e,he,rfl⟩:=List.mem_map.1 hx;have:=h.idb e he
  omega)
 rw[List.length_map] at this;omega
end Desk
open Desk (Ent St Ids kept a0C a0Q a1C a2e ofB a0y a2c Mid a1H a0z Inv a0h a2x a1q Rep)
def e0k(p ws:List ByteArray):Nat->ByteArray
 |0=>⟨#[]⟩
 |k+1=>(if 0<k then e0k p ws k++⟨#[32]⟩ else e0k p ws k)++wrS (p.getD k ⟨#[]⟩) (ws.getD k ⟨#[]⟩)
theorem f1I(n:Int)(h0:-1<=n)(h:n<=9999999):(Txt.a0x n).size<=160:=by
 by_cases e:n=-1
 ·subst e;decide +kernel
 ·have:=Txt.a0I n (by omega) h;omega
theorem f0H(t:Int)(h0:0<=t)(h1:t<=1048320):(c8H t).size<=160:=by
 have z1:=f1D (t / 1440) (by omega) (by omega);have z2:=f3v (t % 1440) (by omega) (by omega);have e3:(⟨#[47]⟩:ByteArray).size=1:=by decide
 unfold c8H;simp only[ByteArray.size_append];omega
theorem f4w(w:ByteArray):(g0v w).size<=160:=by
 unfold g0v
 split
 ·rename_i acc _
  have:=e0W acc 7;have e:(onT acc).size=min (d5A acc 7).size (d5A acc 7).size-1:=ByteArray.size_extract ..;omega
 ·exact zN _
theorem f2R(sym w:ByteArray)(hs:w.size<=160)(hf:g2B sym w=true):(wrS sym w).size<=160:=by
 have nb:=f4U w;have iz:=f1I (b4g w 1 7) nb.1 nb.2;unfold wrS
 split
 ·exact iz
 ·split
  ·exact iz
  ·split
   ·exact iz
   ·split
    ·exact iz
    ·split
     ·rename_i h;exact f0H _ (e9J h hf) (f3j w).2
     ·split
      ·exact f4w w
      ·exact hs
theorem e3M:∀ (ps:List (List ByteArray))(ws:List ByteArray)(m:Nat)(p:List ByteArray),scan ps ws m=(some p,0)->pre p ws=p.length/\pre p ws=ws.length
 |[],_,_,_,h=>by simp[scan] at h
 |q :: ps,ws,m,p,h=>by
  unfold scan at h
  split at h
  ·rename_i hc;simp at h;subst h;exact hc
  ·exact e3M ps ws _ p h
theorem e4l(p ws:List ByteArray)(hl:pre p ws=p.length)(hl2:pre p ws=ws.length)(hw:∀ x∈ws,x.size<=160):∀ k:Nat,k<=ws.length->(e0k p ws k).size<=161*k
 |0,_=>zq _
 |k+1,hk=>by
  have ih:=e4l p ws hl hl2 hw k (by omega);have hf:=e1z p ws k (by omega) (by omega) (by omega);have e1:p.getD k ⟨#[]⟩=p[k]'(by omega):=by simp[List.getD,show k<p.length by omega]
  have e2:ws.getD k ⟨#[]⟩=ws[k]'(by omega):=by simp[List.getD,show k<ws.length by omega]
  have z:=f2R (p[k]'(by omega)) (ws[k]'(by omega)) (hw _ (zg (by omega))) hf;have e3:(⟨#[32]⟩:ByteArray).size=1:=by decide
  unfold e0k;rw[e1,e2]
  split
  ·simp only[ByteArray.size_append];omega
  ·simp only[ByteArray.size_append];omega
def PR(s:ByteArray)(e:Ending):Prop :=
 (160<s.size/\e=.returned (.tuple #[.string ⟨#[]⟩,.int .i64 1,.int .i64 0])) \/
 (s.size<=160/\((∃ p,g0V s=(some p,0)/\e=.returned (.tuple #[.string (e0k p (Txt.a1v s) (Txt.a1v s).length),.int .i64 0,.int .i64 0])) \/
  (∃ m:Nat,g0V s=(none,m)/\e=.returned (.tuple #[.string ⟨#[]⟩,.int .i64 2,.int .i64 m]))))
theorem d6V(s:ByteArray)(w:World)(hs:160<s.size):
  Calls Tryz.prog 78 #[.string s] w fun e w'=>e=.returned (.tuple #[.slice none 0 0,.slice none 0 0,.int .i64 1,.int .i64 0])/\w'=w:=by
 have hs2:(160:Int)<(s.size:Int):=by omega
 go_enter Tryz.func78,Tryz.ntmps78
 go_wp2
 (try simp only[Exit.inBlock,Exit.then]);refine bodyPost_ret (b2R rfl _ _ _) rfl ?_
 exact⟨rfl,rfl⟩
theorem e3U(s:ByteArray)(w:World)(he:Env w):
  Calls Tryz.prog 55 #[.string s] w fun e w'=>PR s e/\Below w.heap.size w w':=by
 by_cases hs:s.size<=160
 ·have HE:=hide he;clear he
  go_enter Tryz.func55,Tryz.ntmps55
  go_wp2_with fail
  refine (d4Z s w hs).mono ?_;rintro e w1 ⟨hr,hb1⟩;rcases hr with ⟨p,a,b,c,d,g,h,hsc,rfl,ra,rb⟩|⟨m,hsc,rfl⟩
  ·have ⟨l1,l2⟩:=e3M _ _ _ _ hsc;have HSC:=hide hsc;have hws:=d7Q s;have hw:∀ x∈Txt.a1v s,x.size<=160:=fun x hx=>Nat.le_trans (b4i s x hx) hs
   have HOZ:=hide (e4l p (Txt.a1v s) l1 l2 hw);have HW:=hide hw;have L1:=hide l1;have L2:=hide l2;have HPF:=hide (e1z p (Txt.a1v s));clear hsc hw l1 l2;go_wp2
   go_loopw [9,10,11] (fun o i _ wx=>∃ k:Nat,k<=(Txt.a1v s).length/\i=.int .i64 k/\o=.string (e0k p (Txt.a1v s) k)/\Row wx a g (Txt.a1v s)/\Row wx b h p/\Below w.heap.size w wx) (fun _ i _ _=>(Txt.a1v s).length-(intOf i).toNat)
   case atStart=>exact⟨0,Nat.zero_le _,rfl,rfl,ra,rb,hb1⟩
   case round =>
    obtain⟨k,hk,rfl,rfl,rak,rbk,hbk⟩:=hrel;clear ra rb;have oz:=a0d HOZ k hk
    by_cases hlt:k<(Txt.a1v s).length
    ·have hlp:k<p.length:=by have:=a0d L1;have:=a0d L2;omega
     obtain rfl:=rak.at_ (by omega);obtain rfl:=rbk.at_ (by omega);have k1:=rbk.cells k hlp;have k2:=rak.cells k hlt;have j1:(k:Int)<(p.length:Int):=by omega
     have j2:(k:Int)<((Txt.a1v s).length:Int):=by omega
     have j0:(0:Int)<=(k:Int):=Int.natCast_nonneg _;have hsm:(Txt.a1v s)[k].size<=160:=a0d HW _ (zg hlt);have hft:g2B p[k] (Txt.a1v s)[k]=true:=a0d HPF k hlp hlt (by have:=a0d L2;omega);have HSM:=hide hsm;have HFT:=hide hft;have wz:=f2R _ _ hsm hft
     have HST:Hid (e0k p (Txt.a1v s) (k+1)=(if 0<k then e0k p (Txt.a1v s) k++⟨#[32]⟩ else e0k p (Txt.a1v s) k)++wrS p[k] (Txt.a1v s)[k]):=by
      show e0k p (Txt.a1v s) (k+1)=_;rw[e0k,show p.getD k ⟨#[]⟩=p[k] from by simp[List.getD,hlp],show (Txt.a1v s).getD k ⟨#[]⟩=(Txt.a1v s)[k] from by simp[List.getD,hlt]]
     clear hsm hft;have hEk:=hide ((a0d HE).later hbk)
     by_cases hk0:0<k
     ·have j3:(0:Int)<(k:Int):=by omega
      have HS2:Hid (e0k p (Txt.a1v s) (k+1)=e0k p (Txt.a1v s) k++⟨#[32]⟩++wrS p[k] (Txt.a1v s)[k]):=HST.out.trans (by rw[if_pos hk0])
      go_wp2_with fail
      go_region_held3 (fun w'=>w'.cell? ⟨h,k,none⟩=some (.string p[k])/\w'.cell? ⟨g,k,none⟩=some (.string (Txt.a1v s)[k]))
       (first
        |go_keep
        |(
         go_split_ands
         refine⟨?_,?_⟩
         ·exact cell_later hbf (by assumption)
         ·exact cell_later hbf (by assumption)))
       ((go_at_call 79;refine (d7P _ _ _ ?_ (a0d HSM) (a0d HFT)).mono ?_;exact (a0d hEk).later ⟨rfl,rfl,rfl,Nat.le_refl _,fun _ _=>rfl⟩;rintro e w4 ⟨rfl,hbf⟩))
      have hbf':Below wr.heap.size wr w4:=⟨hbf.os,hbf.tape,hbf.output,hbf.size,hbf.block⟩;have hbx4:=hbk.trans (hbf'.mono hbk.size);have ra4:=rak.later hbf';have rb4:=rbk.later hbf';go_wp2;exact⟨⟨k+1,by omega,by go_num,by rw[HS2.out],ra4,rb4,hbx4⟩,by simp[intOf];omega⟩
     ·have j3:¬ (0:Int)<(k:Int):=by omega
      have HS2:Hid (e0k p (Txt.a1v s) (k+1)=e0k p (Txt.a1v s) k++wrS p[k] (Txt.a1v s)[k]):=HST.out.trans (by rw[if_neg hk0])
      go_wp2_with fail
      go_region_held3 (fun w'=>w'.cell? ⟨h,k,none⟩=some (.string p[k])/\w'.cell? ⟨g,k,none⟩=some (.string (Txt.a1v s)[k]))
       (first
        |go_keep
        |(
         go_split_ands
         refine⟨?_,?_⟩
         ·exact cell_later hbf (by assumption)
         ·exact cell_later hbf (by assumption)))
       ((go_at_call 79;refine (d7P _ _ _ ?_ (a0d HSM) (a0d HFT)).mono ?_;exact (a0d hEk).later ⟨rfl,rfl,rfl,Nat.le_refl _,fun _ _=>rfl⟩;rintro e w4 ⟨rfl,hbf⟩))
      have hbf':Below wr.heap.size wr w4:=⟨hbf.os,hbf.tape,hbf.output,hbf.size,hbf.block⟩;have hbx4:=hbk.trans (hbf'.mono hbk.size);have ra4:=rak.later hbf';have rb4:=rbk.later hbf';go_wp2;exact⟨⟨k+1,by omega,by go_num,by rw[HS2.out],ra4,rb4,hbx4⟩,by simp[intOf];omega⟩
    ·obtain rfl:k=(Txt.a1v s).length:=by omega
     go_wp2;go_ret3;exact⟨.inr ⟨hs,.inl ⟨p,a0d HSC,rfl⟩⟩,hbk⟩
  ·have HSC:=hide hsc;clear hsc;go_wp2;go_ret3;exact⟨.inr ⟨hs,.inr ⟨m,a0d HSC,rfl⟩⟩,hb1⟩
 ·go_enter Tryz.func55,Tryz.ntmps55
  go_wp2_with fail
  refine (d6V s w (by omega)).mono ?_;rintro e w1 ⟨rfl,rfl⟩;go_wp2;go_ret3;exact⟨.inl ⟨by omega,rfl⟩,Below.refl _ _⟩
theorem e1r(ws:List ByteArray)(P Q:List (ByteArray->Bool))(st:Nat × Bool):a0M ws (P++Q) st=a0M ws Q (a0M ws P st):=List.foldl_append ..
theorem g1l(ws:List ByteArray)(B:ByteArray->Bool)(n:Nat):stp ws B (n,true)=(n,true):=by simp[stp,tkN,tkW,tkB,a1b]
theorem d4m(ws:List ByteArray):∀ (Bs:List (ByteArray->Bool))(n:Nat),a0M ws Bs (n,true)=(n,true)
 |[],_=>rfl
 |B :: Bs,n=>by
  show a0M ws Bs (stp ws B (n,true))=_;rw[g1l,d4m ws Bs n]
theorem f3F{B:ByteArray->Bool}(h:tkB ws n false B=false):stp ws B (n,false)=(n,true):=by
 simp only[stp,tkN,tkW,h,if_false,Bool.false_eq_true]
theorem g0W{B:ByteArray->Bool}(h:¬ n<ws.length):tkB ws n false B=false:=by simp[tkB,a1b,h]
theorem g0U{B:ByteArray->Bool}(h:B (ws.getD n ByteArray.empty)=false):tkB ws n false B=false:=by simp only[tkB,h,Bool.and_false]
theorem d7C{B:ByteArray->Bool}{wr:Bool}(h:tkB ws n wr B=true):wr=false/\n<ws.length/\B (ws.getD n ByteArray.empty)=true:=by
 unfold tkB a1b at h;simp only[Bool.and_eq_true,Bool.not_eq_true',decide_eq_true_eq] at h;exact⟨h.1.1,h.1.2,h.2⟩
theorem e7U(ws:List ByteArray):∀ (p:List ByteArray)(n:Nat),n<=ws.length->a0M ws (p.map g2B) (n,false)=(n+pre p (ws.drop n),decide (pre p (ws.drop n)≠p.length))
 |[],n,_=>by simp[pre,a0M]
 |s :: p,n,hn=>by
  show a0M ws (p.map g2B) (stp ws (g2B s) (n,false))=_
  by_cases hlt:n<ws.length
  ·have hd:ws.drop n=ws[n] :: ws.drop (n+1):=List.drop_eq_getElem_cons hlt;have hg:ws.getD n ByteArray.empty=ws[n]:=a5f ws n hlt
   cases hf:g2B s ws[n]
   ·rw[f3F (g0U (by rw[hg];exact hf)),d4m,hd,pre,hf];simp
   ·rw[c4A hlt (by rw[hg];exact hf),e7U ws p (n+1) hlt,hd,pre,hf];simp only[if_true];refine Prod.ext ?_ ?_
    ·show n+1+_=n+(_+1);omega
    ·simp
  ·rw[f3F (g0W hlt),d4m,List.drop_of_length_le (by omega)];simp[pre]
theorem g1k(ws p:List ByteArray):a0M ws (p.map g2B) (0,false)=(pre p ws,decide (pre p ws≠p.length)):=by
 have:=e7U ws p 0 (zN _)
 simpa using this
theorem e4b(h:a0M ws (p.map g2B) (0,false)=(n,b)):pre p ws=n:=by
 rw[g1k] at h;exact (Prod.mk.inj h).1
theorem f4z(h:a0M ws (p.map g2B) (0,false)=(n,false)):n=p.length:=by
 rw[g1k] at h;obtain⟨h1,h2⟩:=Prod.mk.inj h;rw[h1] at h2
 by_cases e:n=p.length
 ·exact e
 ·simp[e] at h2
theorem f6K(h:a0M ws (p.map g2B) (0,false)=(n,true)):n<p.length:=by
 have hp:=(d8p p ws).1;rw[g1k] at h;obtain⟨h1,h2⟩:=Prod.mk.inj h;rw[h1] at h2 hp
 by_cases e:n=p.length
 ·simp[e] at h2
 ·omega
theorem g1F(R:List ByteArray)(h:a0M ws (Q.map g2B) (0,false)=(n,true)):pre (Q++R) ws=n:=by
 apply e4b (b:=true);rw[List.map_append,e1r,h,d4m]
theorem g7L(R:List ByteArray)(h:a0M ws (Q.map g2B) (0,false)=(n,false))(hs:tkB ws n false (g2B s)=false):pre (Q++s :: R) ws=n:=by
 apply e4b (b:=true);rw[List.map_append,e1r,h];show a0M ws (R.map g2B) (stp ws (g2B s) (n,false))=_;rw[f3F hs,d4m]
theorem f4n(h:a0M ws ((Q++R).map g2B) (0,false)=(n,false)):a0M ws (Q.map g2B) (0,false)=(Q.length,false):=by
 rw[List.map_append,e1r] at h;obtain⟨m,b,hq⟩:∃ m b,a0M ws (Q.map g2B) (0,false)=(m,b):=⟨_,_,rfl⟩
 cases b
 ·rw[hq,f4z hq]
 ·rw[hq,d4m] at h;cases h
theorem e9K(h:a0M ws ((Q++s :: R).map g2B) (0,false)=(n,false)):tkB ws Q.length false (g2B s)=true:=by
 have hq:=f4n h;rw[List.map_append,e1r,hq] at h
 cases ht:tkB ws Q.length false (g2B s)
 ·have:a0M ws (R.map g2B) (stp ws (g2B s) (Q.length,false))=(n,false):=h;rw[f3F ht,d4m] at this
  cases this
 ·rfl
structure Sum(ps:List (List ByteArray))(ws:List ByteArray)(st:Nat × Bool)(q:List ByteArray):Prop where
 mem:q∈ps
 le:∀ p∈ps,pre p ws<=st.1
 at_:pre q ws=st.1
 bad:st.2=true->∀ p∈ps,¬ (pre p ws=p.length/\pre p ws=ws.length)
 e6J:st.2=false->pre q ws=q.length/\∀ p∈ps,p≠q->¬ (pre p ws=p.length/\pre p ws=ws.length)
theorem e3N:∀ (ps:List (List ByteArray))(ws:List ByteArray)(m M:Nat),(∀ p∈ps,¬ (pre p ws=p.length/\pre p ws=ws.length))->(∀ p∈ps,pre p ws<=M)->m<=M->(m=M\/∃ p∈ps,pre p ws=M)->scan ps ws m=(none,M)
 |[],_,m,M,_,_,_,h=>by
  rcases h with rfl|⟨p,hp,_⟩
  ·rfl
  ·simp at hp
 |p :: ps,ws,m,M,h1,h2,h3,h4=>by
  have hp:=h2 p (List.mem_cons_self ..);rw[scan,if_neg (h1 p (List.mem_cons_self ..))];refine e3N ps ws _ M (fun q hq=>h1 q (List.mem_cons_of_mem _ hq)) (fun q hq=>h2 q (List.mem_cons_of_mem _ hq)) (by split <;> omega) ?_;rcases h4 with rfl|⟨q,hq,e⟩
  ·left;rw[if_neg (by omega)]
  ·rcases List.mem_cons.1 hq with rfl|hq
   ·left;split <;> omega
   ·exact .inr ⟨q,hq,e⟩
theorem e8T:∀ (ps:List (List ByteArray))(ws:List ByteArray)(m:Nat)(q:List ByteArray),q∈ps->pre q ws=q.length/\pre q ws=ws.length->(∀ p∈ps,p≠q->¬ (pre p ws=p.length/\pre p ws=ws.length))->scan ps ws m=(some q,0)
 |[],_,_,_,h,_,_=>by simp at h
 |p :: ps,ws,m,q,h,hf,hn=>by
  rw[scan]
  by_cases e:p=q
  ·subst e;rw[if_pos hf]
  ·rw[if_neg (hn p (List.mem_cons_self ..) e)];rcases List.mem_cons.1 h with h|h
   ·exact absurd h.symm e
   ·exact e8T ps ws _ q h hf (fun r hr=>hn r (List.mem_cons_of_mem _ hr))
theorem Sum.yes(h:Sum ps ws st q)(h2:st.2=false)(hm:a1b ws.length st.1 st.2=false):scan ps ws 0=(some q,0):=by
 obtain⟨g1,g2⟩:=h.e6J h2;have hl:¬ st.1<ws.length:=by simpa[a1b,h2] using hm
 have:=(d8p q ws).2;have:=h.at_;exact e8T ps ws 0 q h.mem ⟨g1,by omega⟩ g2
theorem Sum.no(h:Sum ps ws st q)(hb:st.2=true\/a1b ws.length st.1 st.2=true):scan ps ws 0=(none,st.1):=by
 refine e3N ps ws 0 st.1 ?_ h.le (zN _) (.inr ⟨q,h.mem,h.at_⟩);rcases hb with hb|hb
 ·exact h.bad hb
 ·have hl:=a4q hb;intro p hp e;have:=h.le p hp;omega
theorem d8j(ws:List ByteArray)(f:List ByteArray->Bool):∀ (ps:List (List ByteArray))(m:Nat),(∀ p∈ps,f p=false->pre p ws=0/\p≠[])->scan ps ws m=scan (ps.filter f) ws m
 |[],_,_=>rfl
 |p :: ps,m,h=>by
  have ih:=fun m=>d8j ws f ps m (fun q hq=>h q (List.mem_cons_of_mem _ hq))
  cases hf:f p
  ·obtain⟨h0,hne⟩:=h p (List.mem_cons_self ..) hf;rw[List.filter_cons_of_neg (by simp[hf]),scan,h0,if_neg,if_neg (by omega),ih];rintro ⟨e,_⟩;exact hne (List.length_eq_zero_iff.1 e.symm)
  ·rw[List.filter_cons_of_pos hf,scan,scan,ih]
def c8r:ByteArray:=⟨#[78,65,77,69]⟩
def c8Z:ByteArray:=⟨#[85,78,73,84,83]⟩
def c8M:ByteArray:=⟨#[77,73,78,85,84,69,83]⟩
def e9O:ByteArray:=⟨#[69,86,69,82,89]⟩
def idY:ByteArray:=⟨#[73,68]⟩
def c7X:ByteArray:=⟨#[84,73,77,69]⟩
def g3A:ByteArray:=⟨#[68,65,84,69]⟩
def g1M:ByteArray:=⟨#[77,73,78,85,84,69]⟩
def onY:ByteArray:=⟨#[79,78]⟩
theorem e0g(w:ByteArray)(lo hi:Int)(h:0<=lo):g2m w lo hi=a0K w lo hi:=by
 unfold g2m a0K;rw[d5I]
 cases hn:Txt.isNum w.data.toList
 ·simp;omega
 ·simp
theorem d9O:g2B c8r=nmB:=by
 have c0:(c8r.toList==[78,65,77,69])=true:=by decide +kernel
 funext w;unfold g2B;rw[if_pos c0];rfl
theorem f5O:g2B c8Z=unB:=by
 have c0:¬ (c8Z.toList==[78,65,77,69])=true:=by decide +kernel
 have c1:(c8Z.toList==[85,78,73,84,83])=true:=by decide +kernel
 funext w;unfold g2B;rw[if_neg c0,if_pos c1];exact e0g w 1 9 (by omega)
theorem f9f:g2B c8M=miB:=by
 have c0:¬ (c8M.toList==[78,65,77,69])=true:=by decide +kernel
 have c1:¬ (c8M.toList==[85,78,73,84,83])=true:=by decide +kernel
 have c2:(c8M.toList==[77,73,78,85,84,69,83])=true:=by decide +kernel
 funext w;unfold g2B;rw[if_neg c0,if_neg c1,if_pos c2];exact e0g w 1 1048320 (by omega)
theorem h2U:g2B e9O=evB:=by
 have c0:¬ (e9O.toList==[78,65,77,69])=true:=by decide +kernel
 have c1:¬ (e9O.toList==[85,78,73,84,83])=true:=by decide +kernel
 have c2:¬ (e9O.toList==[77,73,78,85,84,69,83])=true:=by decide +kernel
 have c3:(e9O.toList==[69,86,69,82,89])=true:=by decide +kernel
 funext w;unfold g2B;rw[if_neg c0,if_neg c1,if_neg c2,if_pos c3];exact e0g w 1 99 (by omega)
theorem g4J:g2B idY=idB:=by
 have c0:¬ (idY.toList==[78,65,77,69])=true:=by decide +kernel
 have c1:¬ (idY.toList==[85,78,73,84,83])=true:=by decide +kernel
 have c2:¬ (idY.toList==[77,73,78,85,84,69,83])=true:=by decide +kernel
 have c3:¬ (idY.toList==[69,86,69,82,89])=true:=by decide +kernel
 have c4:(idY.toList==[73,68])=true:=by decide +kernel
 funext w;unfold g2B;rw[if_neg c0,if_neg c1,if_neg c2,if_neg c3,if_pos c4,d5I]
 have:=Txt.a2B w.data.toList;unfold idB
 cases hn:Txt.isNum w.data.toList
 ·simp
 ·simp;omega
theorem f2N:g2B c7X=a0n:=by
 have c0:¬ (c7X.toList==[78,65,77,69])=true:=by decide +kernel
 have c1:¬ (c7X.toList==[85,78,73,84,83])=true:=by decide +kernel
 have c2:¬ (c7X.toList==[77,73,78,85,84,69,83])=true:=by decide +kernel
 have c3:¬ (c7X.toList==[69,86,69,82,89])=true:=by decide +kernel
 have c4:¬ (c7X.toList==[73,68])=true:=by decide +kernel
 have c5:(c7X.toList==[84,73,77,69])=true:=by decide +kernel
 funext w;unfold g2B;rw[if_neg c0,if_neg c1,if_neg c2,if_neg c3,if_neg c4,if_pos c5]
 unfold g2T
 cases ht:a0n w
 ·simp
 ·unfold a0n at ht;simp only[Bool.and_eq_true,decide_eq_true_eq] at ht;simp;omega
theorem h6f:g2B g3A=Txt.a2y:=by
 have c0:¬ (g3A.toList==[78,65,77,69])=true:=by decide +kernel
 have c1:¬ (g3A.toList==[85,78,73,84,83])=true:=by decide +kernel
 have c2:¬ (g3A.toList==[77,73,78,85,84,69,83])=true:=by decide +kernel
 have c3:¬ (g3A.toList==[69,86,69,82,89])=true:=by decide +kernel
 have c4:¬ (g3A.toList==[73,68])=true:=by decide +kernel
 have c5:¬ (g3A.toList==[84,73,77,69])=true:=by decide +kernel
 have c6:(g3A.toList==[68,65,84,69])=true:=by decide +kernel
 funext w;unfold g2B;rw[if_neg c0,if_neg c1,if_neg c2,if_neg c3,if_neg c4,if_neg c5,if_pos c6]
 unfold g2R Txt.a2y;apply decide_eq_decide.2;constructor
 ·intro h
  split at h
  ·rename_i hc;exact⟨hc.1,hc.2.1,h.2⟩
  ·omega
 ·rintro ⟨h1,h2,h3⟩;rw[if_pos ⟨h1,h2,by omega⟩];exact⟨h2,h3⟩
theorem h6T:g2B g1M=Txt.a3a:=by
 have c0:¬ (g1M.toList==[78,65,77,69])=true:=by decide +kernel
 have c1:¬ (g1M.toList==[85,78,73,84,83])=true:=by decide +kernel
 have c2:¬ (g1M.toList==[77,73,78,85,84,69,83])=true:=by decide +kernel
 have c3:¬ (g1M.toList==[69,86,69,82,89])=true:=by decide +kernel
 have c4:¬ (g1M.toList==[73,68])=true:=by decide +kernel
 have c5:¬ (g1M.toList==[84,73,77,69])=true:=by decide +kernel
 have c6:¬ (g1M.toList==[68,65,84,69])=true:=by decide +kernel
 have c7:(g1M.toList==[77,73,78,85,84,69])=true:=by decide +kernel
 funext w;unfold g2B;rw[if_neg c0,if_neg c1,if_neg c2,if_neg c3,if_neg c4,if_neg c5,if_neg c6,if_pos c7]
 have:=Txt.c4W w;unfold c5N
 cases ht:Txt.a3a w
 ·simp
 ·simp;omega
theorem h6S:g2B onY=Txt.onB:=by
 have c0:¬ (onY.toList==[78,65,77,69])=true:=by decide +kernel
 have c1:¬ (onY.toList==[85,78,73,84,83])=true:=by decide +kernel
 have c2:¬ (onY.toList==[77,73,78,85,84,69,83])=true:=by decide +kernel
 have c3:¬ (onY.toList==[69,86,69,82,89])=true:=by decide +kernel
 have c4:¬ (onY.toList==[73,68])=true:=by decide +kernel
 have c5:¬ (onY.toList==[84,73,77,69])=true:=by decide +kernel
 have c6:¬ (onY.toList==[68,65,84,69])=true:=by decide +kernel
 have c7:¬ (onY.toList==[77,73,78,85,84,69])=true:=by decide +kernel
 have c8:(onY.toList==[79,78])=true:=by decide +kernel
 funext w;unfold g2B;rw[if_neg c0,if_neg c1,if_neg c2,if_neg c3,if_neg c4,if_neg c5,if_neg c6,if_neg c7,if_pos c8]
def d1Z(x:ByteArray):Bool:=!(x.toList==[78,65,77,69]) && !(x.toList==[85,78,73,84,83]) && !(x.toList==[77,73,78,85,84,69,83]) && !(x.toList==[69,86,69,82,89]) && !(x.toList==[73,68]) && !(x.toList==[84,73,77,69]) && !(x.toList==[68,65,84,69]) && !(x.toList==[77,73,78,85,84,69]) && !(x.toList==[79,78])
theorem f4g{x:ByteArray}(h:d1Z x=true):(x.toList==[78,65,77,69])=false/\(x.toList==[85,78,73,84,83])=false/\(x.toList==[77,73,78,85,84,69,83])=false/\(x.toList==[69,86,69,82,89])=false/\(x.toList==[73,68])=false/\(x.toList==[84,73,77,69])=false/\(x.toList==[68,65,84,69])=false/\(x.toList==[77,73,78,85,84,69])=false/\(x.toList==[79,78])=false:=by
 unfold d1Z at h;simp only[Bool.and_eq_true,Bool.not_eq_true'] at h;obtain⟨⟨⟨⟨⟨⟨⟨⟨h0,h1⟩,h2⟩,h3⟩,h4⟩,h5⟩,h6⟩,h7⟩,h8⟩:=h;exact⟨h0,h1,h2,h3,h4,h5,h6,h7,h8⟩
theorem g4I(x:ByteArray)(h:d1Z x=true):g2B x=a1s x:=by
 obtain⟨h0,h1,h2,h3,h4,h5,h6,h7,h8⟩:=f4g h
 funext w
 unfold g2B a1s;rw[h0,h1,h2,h3,h4,h5,h6,h7,h8];simp only[Bool.false_eq_true,if_false];exact BEq.comm
theorem wrL(x w:ByteArray)(h:d1Z x=true):wrS x w=w:=by
 obtain⟨h0,h1,h2,h3,h4,h5,h6,h7,h8⟩:=f4g h;unfold wrS;rw[h1,h2,h3,h4,h5,h8];simp only[Bool.false_eq_true,if_false]
theorem f5u(ws:List ByteArray)(n:Nat)(wr:Bool)(x:ByteArray):isB ws n wr x=tkB ws n wr (a1s x):=rfl
theorem d3N{x:ByteArray}(h:isB ws st.1 st.2 x=true):nxt st=stp ws (a1s x) st:=by
 obtain⟨n,wr⟩:=st;have ht:tkB ws n wr (a1s x)=true:=h;simp only[nxt,stp,tkN,tkW,ht,if_true]
theorem wrN(w:ByteArray):wrS c8r w=w:=by
 have c0:¬ (c8r.toList==[85,78,73,84,83])=true:=by decide +kernel
 have c1:¬ (c8r.toList==[77,73,78,85,84,69,83])=true:=by decide +kernel
 have c2:¬ (c8r.toList==[69,86,69,82,89])=true:=by decide +kernel
 have c3:¬ (c8r.toList==[73,68])=true:=by decide +kernel
 have c4:¬ (c8r.toList==[84,73,77,69])=true:=by decide +kernel
 have c5:¬ (c8r.toList==[79,78])=true:=by decide +kernel
 unfold wrS;rw[if_neg c0,if_neg c1,if_neg c2,if_neg c3,if_neg c4,if_neg c5]
theorem wrD(w:ByteArray):wrS g3A w=w:=by
 have c0:¬ (g3A.toList==[85,78,73,84,83])=true:=by decide +kernel
 have c1:¬ (g3A.toList==[77,73,78,85,84,69,83])=true:=by decide +kernel
 have c2:¬ (g3A.toList==[69,86,69,82,89])=true:=by decide +kernel
 have c3:¬ (g3A.toList==[73,68])=true:=by decide +kernel
 have c4:¬ (g3A.toList==[84,73,77,69])=true:=by decide +kernel
 have c5:¬ (g3A.toList==[79,78])=true:=by decide +kernel
 unfold wrS;rw[if_neg c0,if_neg c1,if_neg c2,if_neg c3,if_neg c4,if_neg c5]
theorem wrM(w:ByteArray):wrS g1M w=w:=by
 have c0:¬ (g1M.toList==[85,78,73,84,83])=true:=by decide +kernel
 have c1:¬ (g1M.toList==[77,73,78,85,84,69,83])=true:=by decide +kernel
 have c2:¬ (g1M.toList==[69,86,69,82,89])=true:=by decide +kernel
 have c3:¬ (g1M.toList==[73,68])=true:=by decide +kernel
 have c4:¬ (g1M.toList==[84,73,77,69])=true:=by decide +kernel
 have c5:¬ (g1M.toList==[79,78])=true:=by decide +kernel
 unfold wrS;rw[if_neg c0,if_neg c1,if_neg c2,if_neg c3,if_neg c4,if_neg c5]
theorem f4T{w:ByteArray}(h:Txt.isNum w.data.toList=true):b4g w 1 7=nvF w:=by rw[d5I,if_pos h];rfl
theorem d9V{w:ByteArray}{lo hi:Int}(h:a0K w lo hi=true):Txt.isNum w.data.toList=true/\lo<=nvF w/\nvF w<=hi:=by
 unfold a0K at h;simp only[Bool.and_eq_true,decide_eq_true_eq] at h;exact⟨h.1.1,h.1.2,h.2⟩
theorem wrU(w:ByteArray)(h:unB w=true):wrS c8Z w=Txt.a0x (nvF w):=by
 have c0:(c8Z.toList==[85,78,73,84,83])=true:=by decide +kernel
 unfold wrS;rw[if_pos c0,f4T (d9V h).1]
theorem g3l(w:ByteArray)(h:miB w=true):wrS c8M w=Txt.a0x (nvF w):=by
 have c0:¬ (c8M.toList==[85,78,73,84,83])=true:=by decide +kernel
 have c1:(c8M.toList==[77,73,78,85,84,69,83])=true:=by decide +kernel
 unfold wrS;rw[if_neg c0,if_pos c1,f4T (d9V h).1]
theorem wrE(w:ByteArray)(h:evB w=true):wrS e9O w=Txt.a0x (nvF w):=by
 have c0:¬ (e9O.toList==[85,78,73,84,83])=true:=by decide +kernel
 have c1:¬ (e9O.toList==[77,73,78,85,84,69,83])=true:=by decide +kernel
 have c2:(e9O.toList==[69,86,69,82,89])=true:=by decide +kernel
 unfold wrS;rw[if_neg c0,if_neg c1,if_pos c2,f4T (d9V h).1]
theorem wrI(w:ByteArray)(h:idB w=true):wrS idY w=Txt.a0x (nvF w):=by
 have c0:¬ (idY.toList==[85,78,73,84,83])=true:=by decide +kernel
 have c1:¬ (idY.toList==[77,73,78,85,84,69,83])=true:=by decide +kernel
 have c2:¬ (idY.toList==[69,86,69,82,89])=true:=by decide +kernel
 have c3:(idY.toList==[73,68])=true:=by decide +kernel
 unfold wrS;rw[if_neg c0,if_neg c1,if_neg c2,if_pos c3,f4T h]
theorem wrT(w:ByteArray)(h:a0n w=true):wrS c7X w=c8H (a1J w):=by
 have c0:¬ (c7X.toList==[85,78,73,84,83])=true:=by decide +kernel
 have c1:¬ (c7X.toList==[77,73,78,85,84,69,83])=true:=by decide +kernel
 have c2:¬ (c7X.toList==[69,86,69,82,89])=true:=by decide +kernel
 have c3:¬ (c7X.toList==[73,68])=true:=by decide +kernel
 have c4:(c7X.toList==[84,73,77,69])=true:=by decide +kernel
 unfold wrS;rw[if_neg c0,if_neg c1,if_neg c2,if_neg c3,if_pos c4];unfold g2T a1J;rw[if_pos h,if_pos h]
theorem wrO(w:ByteArray):wrS onY w=g0v w:=by
 have c0:¬ (onY.toList==[85,78,73,84,83])=true:=by decide +kernel
 have c1:¬ (onY.toList==[77,73,78,85,84,69,83])=true:=by decide +kernel
 have c2:¬ (onY.toList==[69,86,69,82,89])=true:=by decide +kernel
 have c3:¬ (onY.toList==[73,68])=true:=by decide +kernel
 have c4:¬ (onY.toList==[84,73,77,69])=true:=by decide +kernel
 have c5:(onY.toList==[79,78])=true:=by decide +kernel
 unfold wrS;rw[if_neg c0,if_neg c1,if_neg c2,if_neg c3,if_neg c4,if_pos c5]
theorem d2b(w:ByteArray):0<=a1J w/\a1J w<=1048320:=by
 unfold a1J
 cases ht:a0n w
 ·simp
 ·unfold a0n at ht;simp only[Bool.and_eq_true,decide_eq_true_eq] at ht;simp only[if_true];exact ht.2
theorem c8O(w:ByteArray):0<=nvF w/\nvF w<=9999999:=Txt.a2B w.data.toList
theorem g3f{w:ByteArray}(h:nmB w=true):b4S w=w:=if_pos h
theorem e6R{i:Nat}{l:List UInt8}(hl:s.data.toList=l)(hc:l[i]?=some c)(h:Txt.a0V s i=n):c.toNat=n:=by
 unfold Txt.a0V at h;rw[hl,List.getD_eq_getElem?_getD,hc] at h;simp at h;omega
theorem e1P(h:c.toNat=n)(hn:n<256):c=UInt8.ofNat n:=by
 apply UInt8.toNat_inj.1;rw[h,UInt8.toNat_ofNat'];omega
theorem d6r(s:ByteArray)(a b n:Nat)(hs:min b s.size-a=n+1)(h:Txt.isNum (Txt.part s a b)=true):Txt.b8V (Txt.a2f (Txt.part s a b)) (n+1)=s.extract a b:=by
 have hz:(s.extract a b).size=n+1:=b2K s a b (n+1) hs;have hd:=Txt.a7C h;have e:Txt.a2f (Txt.part s a b)=Txt.b4R (s.extract a b).data.toList:=by unfold Txt.a2f;rw[if_pos h];rfl
 rw[e];exact Txt.f6E _ n hz hd
theorem e5c(w:ByteArray)(h:Txt.a2y w=true):d0L (b0a w)=w:=by
 have hd:Txt.a5j w=true:=by
  unfold Txt.a2y at h;exact (of_decide_eq_true h).1
 have e:b0a w=Cal.num (Txt.a2f (Txt.part w 0 4)) (Txt.a2f (Txt.part w 5 7)) (Txt.a2f (Txt.part w 8 10)):=by
  unfold b0a Txt.a2o;rw[if_pos h,if_pos hd]
 unfold Txt.a5j at hd;obtain⟨hs,b4,b7,n0,n1,n2,hok⟩:=of_decide_eq_true hd;obtain⟨ey,em,ed⟩:=Cal.c4g _ _ _ _ hok e.symm;unfold d0L;rw[<- ey,<- em,<- ed];unfold f4t;rw[d6r w 0 4 3 (by omega) n0,d6r w 5 7 1 (by omega) n1,d6r w 8 10 1 (by omega) n2];apply Txt.a7x;simp only[Txt.a1X,Txt.a3g];have hl:w.data.toList.length=10:=by rw[Txt.a1d];exact hs
 obtain⟨l,hw⟩:∃ l,w.data.toList=l:=⟨_,rfl⟩;rw[hw] at hl;rw[hw]
 match l,hl,hw with
 |[a0,a1,a2,a3,a4,a5,a6,a7,a8,a9],_,hw =>
  have e4:=e1P (e6R (i:=4) (c:=a4) hw rfl (n:=45) b4) (by omega);have e7:=e1P (e6R (i:=7) (c:=a7) hw rfl (n:=45) b7) (by omega);rw[e4,e7];rfl
theorem f6M(w:ByteArray)(h:Txt.a3a w=true):d8f (Txt.a6J w)=w:=by
 have e:Txt.a6J w=Txt.a2f (Txt.part w 0 2)*60+Txt.a2f (Txt.part w 3 5):=by unfold Txt.a6J;rw[if_pos h]
 unfold Txt.a3a at h;obtain⟨hs,b2,n0,n1,h23,h59⟩:=of_decide_eq_true h;have q0:=Txt.a2B (Txt.part w 0 2);have q1:=Txt.a2B (Txt.part w 3 5);have e1:Txt.a6J w / 60=Txt.a2f (Txt.part w 0 2):=by rw[e];omega
 have e2:Txt.a6J w % 60=Txt.a2f (Txt.part w 3 5):=by rw[e];omega
 unfold d8f;rw[e1,e2,d6r w 0 2 1 (by omega) n0,d6r w 3 5 1 (by omega) n1];apply Txt.a7x;simp only[Txt.a1X,Txt.a3g];have hl:w.data.toList.length=5:=by rw[Txt.a1d];exact hs
 obtain⟨l,hw⟩:∃ l,w.data.toList=l:=⟨_,rfl⟩;rw[hw] at hl;rw[hw]
 match l,hl,hw with
 |[a0,a1,a2,a3,a4],_,hw =>
  have e2:=e1P (e6R (i:=2) (c:=a2) hw rfl (n:=58) b2) (by omega);rw[e2];rfl
theorem f2q(sep:List UInt8)(r:List (List UInt8))(x:List UInt8):Lib.joinTail sep (r++[x])=Lib.joinTail sep r++(sep++x):=by
 simp[Lib.joinTail]
theorem d7m(acc:List Int):∀ k:Nat,(d5A acc k).data.toList=Lib.joinTail [44] ((onL acc k).map (·.data.toList))
 |0=>rfl
 |k+1=>by
  have ih:=d7m acc k;unfold d5A onL
  split
  ·rw[List.map_append,List.map_cons,List.map_nil,f2q,Txt.a1X,Txt.a1X,ih];simp
  ·exact ih
theorem f3O(L:List (List UInt8)):Lib.join L [44]=(Lib.joinTail [44] L).drop 1:=by
 cases L with
 |nil=>rfl
 |cons x r=>rw[Lib.join_cons];simp[Lib.joinTail]
theorem f9C(acc:List Int):Lib.join ((onL acc 7).map (·.data.toList)) [44]=(onT acc).data.toList:=by
 unfold onT;rw[Txt.a3g,f3O,<- d7m];rw[List.take_of_length_le (by rw[Txt.a1d];exact zq _)]
theorem h9l(acc:List Int):onJ acc=onT acc:=by
 apply Txt.a7x;show (Lib.join ((onL acc 7).map (·.data.toList)) [44]).toArray.toList=_;rw[f9C]
theorem g1f(h:Txt.onW s=some acc):onL acc 7≠[]:=by
 intro e;have h1:=g1e h;have h2:=d7m acc 7;rw[e] at h2;have h3:=Txt.a1d (d5A acc 7);rw[h2] at h3;have:(Lib.joinTail [44] (([]:List ByteArray).map (·.data.toList))).length=0:=rfl;omega
theorem f3e(acc:List Int):(Lib.join ((onL acc 7).map (·.data.toList)) [44]).length<=160:=by
 rw[f9C,Txt.a1d];unfold onT;have e:((d5A acc 7).extract 1 (d5A acc 7).size).size=min (d5A acc 7).size (d5A acc 7).size-1:=ByteArray.size_extract ..;have:=e0W acc 7;omega
theorem f5C(h:Txt.onW s=some acc):g0v s=onJ acc:=by
 unfold g0v;rw[h,h9l]
theorem h9x(x:ByteArray):jn [x]=x:=by
 apply Txt.a7x;show (Lib.join [x.data.toList] [32]).toArray.toList=_;rw[Lib.join_one]
theorem h8p(xs:List ByteArray)(y:ByteArray)(h:xs≠[]):jn (xs++[y])=jn xs++⟨#[32]⟩++y:=by
 apply Txt.a7x;rw[Txt.a1X,Txt.a1X];show (Lib.join ((xs++[y]).map (·.data.toList)) [32])=Lib.join (xs.map (·.data.toList)) [32]++[32]++y.data.toList
 match xs,h with
 |x :: r,_ =>
  rw[List.cons_append,List.map_cons,List.map_cons,Lib.join_cons,Lib.join_cons,List.map_append,List.map_cons,List.map_nil,f2q];simp
theorem h1J(p ws:List ByteArray):∀ k:Nat,e0k p ws k=jn ((List.range k).map fun j=>wrS (p.getD j ByteArray.empty) (ws.getD j ByteArray.empty))
 |0=>rfl
 |k+1=>by
  have ih:=h1J p ws k;rw[List.range_succ,List.map_append,List.map_cons,List.map_nil,e0k]
  by_cases hk:0<k
  ·rw[if_pos hk,h8p _ _ (by simp;omega),<- ih];rfl
  ·obtain rfl:k=0:=by omega
   rw[if_neg hk];show e0k p ws 0++_=jn [_];rw[h9x];apply Txt.a7x;rw[Txt.a1X];rfl
theorem f2H(ps:List ByteArray)(pc ev:Int)(acc:List Int)(fr mn mi ti un:Int)(w:World)(he:Env w)(hl:ps.length<=3)(f0:0<=fr)(f1:fr<=728)(m0:0<=mn)(m1:mn<1440)(i0:0<=mi)(i1:mi<=9999999)(t0:0<ti)(t1:ti<=9999999)
  (hp:∀ x,Env x->Calls Tryz.prog 338 #[b9E pc ev acc fr mn mi ti un] x fun e w'=>WR x w' ps e):
  Calls Tryz.prog 337 #[b9E pc ev acc fr mn mi ti un] w fun e w'=>WR w w' (ps++e7C fr mn mi++[b2z,Txt.a0x ti]) e:=by
 obtain⟨inf,hi0,hz0,hz1,hz2⟩:=info_parts e4B;simp only[b9E] at hp ⊢
 go_enter Tryz.func337,Tryz.ntmps337
 go_wp2_with fail
 obtain⟨X,hX⟩:∃ X,X=w.alloc (.cells #[.int .i64 pc,.int .i64 ev,.bool (isd acc 0),.bool (isd acc 1),.bool (isd acc 2),.bool (isd acc 3),.bool (isd acc 4),.bool (isd acc 5),.bool (isd acc 6),.int .i64 fr,.int .i64 mn,.int .i64 mi,.int .i64 ti,.int .i64 un] 162):=⟨_,rfl⟩;rw[<- hX];have hbX:Below w.heap.size w X:=by rw[hX];exact (zr _ _).alloc (zq _) _
 have eX:=he.later hbX;have hXs:w.heap.size+1<=X.heap.size:=by rw[hX];simp
 have hXs10:10<=w.heap.size+1:=by have:=he.size;omega
 have x9:X.cell? ⟨w.heap.size,9,none⟩=some (.int .i64 fr):=by rw[hX];simp
 have x10:X.cell? ⟨w.heap.size,10,none⟩=some (.int .i64 mn):=by rw[hX];simp
 have x11:X.cell? ⟨w.heap.size,11,none⟩=some (.int .i64 mi):=by rw[hX];simp
 have x12:X.cell? ⟨w.heap.size,12,none⟩=some (.int .i64 ti):=by rw[hX];simp
 have x13:X.cell? ⟨w.heap.size,13,none⟩=some (.int .i64 un):=by rw[hX];simp
 clear hX he;refine (hp X eX).mono ?_;rintro e w1 ⟨v1,rfl,ho1,hb1⟩;clear hp;have bX:Below (w.heap.size+1) X w1:=hb1.mono hXs;have hs1:=bX.size;have y9:=(bX.cell (p:=⟨w.heap.size,9,none⟩) (by simp)).trans x9;have y10:=(bX.cell (p:=⟨w.heap.size,10,none⟩) (by simp)).trans x10;have y11:=(bX.cell (p:=⟨w.heap.size,11,none⟩) (by simp)).trans x11;have y12:=(bX.cell (p:=⟨w.heap.size,12,none⟩) (by simp)).trans x12;have y13:=(bX.cell (p:=⟨w.heap.size,13,none⟩) (by simp)).trans x13;have hoN:=c9G (base':=w.heap.size+1) ho1 hXs;clear ho1 hb1
 go_wp2_with fail
 have hoN:=hoN.drew
 go_region_held3 (fun w'=>Below (w.heap.size+1) X w'/\w'.cell? ⟨w.heap.size,9,none⟩=some (.int .i64 fr)/\w'.cell? ⟨w.heap.size,10,none⟩=some (.int .i64 mn)/\w'.cell? ⟨w.heap.size,11,none⟩=some (.int .i64 mi)/\w'.cell? ⟨w.heap.size,12,none⟩=some (.int .i64 ti)/\w'.cell? ⟨w.heap.size,13,none⟩=some (.int .i64 un))
  (first
   |(go_split_ands;exact d6L (c8V hXs (by assumption) hbf) (fun hk=>⟨(hk.cell (p:=⟨w.heap.size,9,none⟩) (by simp)).trans x9,(hk.cell (p:=⟨w.heap.size,10,none⟩) (by simp)).trans x10,(hk.cell (p:=⟨w.heap.size,11,none⟩) (by simp)).trans x11,(hk.cell (p:=⟨w.heap.size,12,none⟩) (by simp)).trans x12,(hk.cell (p:=⟨w.heap.size,13,none⟩) (by simp)).trans x13⟩))
   |(go_split_ands;exact d6L (c8V hXs (by assumption) ((zr _ _).alloc (zq _) _)) (fun hk=>⟨(hk.cell (p:=⟨w.heap.size,9,none⟩) (by simp)).trans x9,(hk.cell (p:=⟨w.heap.size,10,none⟩) (by simp)).trans x10,(hk.cell (p:=⟨w.heap.size,11,none⟩) (by simp)).trans x11,(hk.cell (p:=⟨w.heap.size,12,none⟩) (by simp)).trans x12,(hk.cell (p:=⟨w.heap.size,13,none⟩) (by simp)).trans x13⟩))
   |(go_split_ands;exact d6L (c8V hXs (by assumption) (c7Y _)) (fun hk=>⟨(hk.cell (p:=⟨w.heap.size,9,none⟩) (by simp)).trans x9,(hk.cell (p:=⟨w.heap.size,10,none⟩) (by simp)).trans x10,(hk.cell (p:=⟨w.heap.size,11,none⟩) (by simp)).trans x11,(hk.cell (p:=⟨w.heap.size,12,none⟩) (by simp)).trans x12,(hk.cell (p:=⟨w.heap.size,13,none⟩) (by simp)).trans x13⟩))
   |(go_split_ands;exact d6L (Below.grown (by assumption) hgrow (by simp;omega) (fun k hk=>d0U hoN hk)) (fun hk=>⟨(hk.cell (p:=⟨w.heap.size,9,none⟩) (by simp)).trans x9,(hk.cell (p:=⟨w.heap.size,10,none⟩) (by simp)).trans x10,(hk.cell (p:=⟨w.heap.size,11,none⟩) (by simp)).trans x11,(hk.cell (p:=⟨w.heap.size,12,none⟩) (by simp)).trans x12,(hk.cell (p:=⟨w.heap.size,13,none⟩) (by simp)).trans x13⟩)))
  (first
   |(
    go_at_call 331
    go_split_ands
    refine (d3R _ _ (eX.of10 hXs10 (by assumption)) (by omega) (by omega)).mono ?_;rintro e w5 ⟨rfl,hbf⟩;have hs5:=d1E (B:=w.heap.size+1) (x:=X) (by assumption) hbf
    have hoN:=c9H hoN hbf)
   |(
    go_at_call 332
    go_split_ands
    refine (d2S _ _ (eX.of10 hXs10 (by assumption)) (by omega) (by omega)).mono ?_;rintro e w5 ⟨rfl,hbf⟩;have hs5:=d1E (B:=w.heap.size+1) (x:=X) (by assumption) hbf
    have hoN:=c9H hoN hbf)
   |(
    go_at_call 327
    go_split_ands
    refine (d0r _ _ (eX.of10 hXs10 (by assumption)) (by omega) (by omega)).mono ?_;rintro e w5 ⟨rfl,hbf⟩;have hs5:=d1E (B:=w.heap.size+1) (x:=X) (by assumption) hbf
    have hoN:=c9H hoN hbf)
   |((refine step_append_lies _ (by rfl) _ _ _ (by rfl) (w.heap.size+1) 9 inf _ 1 16 Tryz.underlying26 hi0 hz0 hz1 hz2 rfl (by omega) v1 ps.length (ps.map Value.string) (by rfl) (hoN.alloc _) ⟨w5.heap.size,0,none⟩ 6 6 [.string a1t,.string (d0L fr),.string atW,.string (d8f mn),.string b3z,.string (Txt.a0x mi)] (by rfl) (by rfl) (World.news_of_block (cs:=#[.string a1t,.string (d0L fr),.string atW,.string (d8f mn),.string b3z,.string (Txt.a0x mi)]) (t:=9) (fr:=(0,0)) (heap_alloc_new _ _)) (by simp[Value.oneCell']) (by omega) (by unfold maxLen;omega) (by omega) (by simp;omega) (w5.heap.size+1) (by simp) ?_;intro g cap w6 hown6 hgrow hat hltg)))
 go_split_ands
 have hbE:Below (w.heap.size+1) X w6:=by assumption
 have hs6:=hbE.size;obtain⟨ys,hys⟩:∃ ys:List Value,ys=List.map Value.string ps++[Value.string a1t,Value.string (d0L fr),Value.string atW,Value.string (d8f mn),Value.string b3z,Value.string (Txt.a0x mi)]:=⟨_,rfl⟩;rw[<- hys] at hown6;have HYS:=hide hys;clear hys hgrow hat
 go_wp2_with fail
 refine (d0r ti w6 (eX.of10 hXs10 hbE) (by omega) (by omega)).mono ?_;rintro e w7 ⟨rfl,hb7⟩;have hoM:=c9H hown6 hb7;have hb67:Below (w.heap.size+1) X w7:=c8V hXs hbE hb7;have hs7:=hb67.size;clear hown6
 go_wp2_with (first
  |(at_builtin;refine wpList_append_own _ rfl _ _ 26 rfl (w.heap.size+1) 9 inf (.string ⟨#[]⟩) 1 16 Tryz.underlying26 hi0 hz0 hz1 hz2 rfl (by decide) _ _ _ rfl (hoM.alloc _) ⟨w7.heap.size,0,none⟩ 2 2 [.string b2z,.string (Txt.a0x ti)] rfl rfl ?c1 ?c2 ?c3 ?c4 ?c5 ?_))
 case c1=>exact World.news_of_block (cs:=#[.string b2z,.string (Txt.a0x ti)]) (heap_alloc_new w7 _)
 case c2=>simp[Value.oneCell']
 case c3=>unfold maxLen;omega
 case c4=>omega
 case c5=>simp;omega
 intro v8 w8 hown8 hgrow _;have hbG:Below (w.heap.size+1) X w8:=(hb67.alloc (by omega) _).grown hgrow (by simp;omega) (fun k hk=>d0U hoM hk);have HBG:=hide hbG;have HOW:=hide hown8;clear hbG hgrow hown8;go_wp2;go_ret;refine⟨_,rfl,?_,hbX.trans (HBG.out.mono (by omega))⟩;have h9:=c9G (base':=w.heap.size) HOW.out (by omega);rw[HYS.out] at h9;have e1:(ps++e7C fr mn mi++[b2z,Txt.a0x ti]).length=ps.length+6+2:=by simp[e7C]
 have e2:(ps++e7C fr mn mi++[b2z,Txt.a0x ti]).map Value.string=List.map Value.string ps++[Value.string a1t,Value.string (d0L fr),Value.string atW,Value.string (d8f mn),Value.string b3z,Value.string (Txt.a0x mi)]++[.string b2z,.string (Txt.a0x ti)]:=by simp[e7C]
 rw[e1,e2];exact h9
theorem f2G(ps:List ByteArray)(pc ev:Int)(acc:List Int)(fr mn mi un:Int)(w:World)(he:Env w)(hl:ps.length<=3)(f0:0<=fr)(f1:fr<=728)(m0:0<=mn)(m1:mn<1440)(i0:0<=mi)(i1:mi<=9999999)(t0:0<=un)(t1:un<=728)
  (hp:∀ x,Env x->Calls Tryz.prog 338 #[b9E pc ev acc fr mn mi 0 un] x fun e w'=>WR x w' ps e):
  Calls Tryz.prog 337 #[b9E pc ev acc fr mn mi 0 un] w fun e w'=>WR w w' (ps++e7C fr mn mi++[b5O,d0L un]) e:=by
 obtain⟨inf,hi0,hz0,hz1,hz2⟩:=info_parts e4B;simp only[b9E] at hp ⊢
 go_enter Tryz.func337,Tryz.ntmps337
 go_wp2_with fail
 obtain⟨X,hX⟩:∃ X,X=w.alloc (.cells #[.int .i64 pc,.int .i64 ev,.bool (isd acc 0),.bool (isd acc 1),.bool (isd acc 2),.bool (isd acc 3),.bool (isd acc 4),.bool (isd acc 5),.bool (isd acc 6),.int .i64 fr,.int .i64 mn,.int .i64 mi,.int .i64 0,.int .i64 un] 162):=⟨_,rfl⟩;rw[<- hX];have hbX:Below w.heap.size w X:=by rw[hX];exact (zr _ _).alloc (zq _) _
 have eX:=he.later hbX;have hXs:w.heap.size+1<=X.heap.size:=by rw[hX];simp
 have hXs10:10<=w.heap.size+1:=by have:=he.size;omega
 have x9:X.cell? ⟨w.heap.size,9,none⟩=some (.int .i64 fr):=by rw[hX];simp
 have x10:X.cell? ⟨w.heap.size,10,none⟩=some (.int .i64 mn):=by rw[hX];simp
 have x11:X.cell? ⟨w.heap.size,11,none⟩=some (.int .i64 mi):=by rw[hX];simp
 have x12:X.cell? ⟨w.heap.size,12,none⟩=some (.int .i64 0):=by rw[hX];simp
 have x13:X.cell? ⟨w.heap.size,13,none⟩=some (.int .i64 un):=by rw[hX];simp
 clear hX he;refine (hp X eX).mono ?_;rintro e w1 ⟨v1,rfl,ho1,hb1⟩;clear hp;have bX:Below (w.heap.size+1) X w1:=hb1.mono hXs;have hs1:=bX.size;have y9:=(bX.cell (p:=⟨w.heap.size,9,none⟩) (by simp)).trans x9;have y10:=(bX.cell (p:=⟨w.heap.size,10,none⟩) (by simp)).trans x10;have y11:=(bX.cell (p:=⟨w.heap.size,11,none⟩) (by simp)).trans x11;have y12:=(bX.cell (p:=⟨w.heap.size,12,none⟩) (by simp)).trans x12;have y13:=(bX.cell (p:=⟨w.heap.size,13,none⟩) (by simp)).trans x13;have hoN:=c9G (base':=w.heap.size+1) ho1 hXs;clear ho1 hb1
 go_wp2_with fail
 have hoN:=hoN.drew
 go_region_held3 (fun w'=>Below (w.heap.size+1) X w'/\w'.cell? ⟨w.heap.size,9,none⟩=some (.int .i64 fr)/\w'.cell? ⟨w.heap.size,10,none⟩=some (.int .i64 mn)/\w'.cell? ⟨w.heap.size,11,none⟩=some (.int .i64 mi)/\w'.cell? ⟨w.heap.size,12,none⟩=some (.int .i64 0)/\w'.cell? ⟨w.heap.size,13,none⟩=some (.int .i64 un))
  (first
   |(go_split_ands;exact d6L (c8V hXs (by assumption) hbf) (fun hk=>⟨(hk.cell (p:=⟨w.heap.size,9,none⟩) (by simp)).trans x9,(hk.cell (p:=⟨w.heap.size,10,none⟩) (by simp)).trans x10,(hk.cell (p:=⟨w.heap.size,11,none⟩) (by simp)).trans x11,(hk.cell (p:=⟨w.heap.size,12,none⟩) (by simp)).trans x12,(hk.cell (p:=⟨w.heap.size,13,none⟩) (by simp)).trans x13⟩))
   |(go_split_ands;exact d6L (c8V hXs (by assumption) ((zr _ _).alloc (zq _) _)) (fun hk=>⟨(hk.cell (p:=⟨w.heap.size,9,none⟩) (by simp)).trans x9,(hk.cell (p:=⟨w.heap.size,10,none⟩) (by simp)).trans x10,(hk.cell (p:=⟨w.heap.size,11,none⟩) (by simp)).trans x11,(hk.cell (p:=⟨w.heap.size,12,none⟩) (by simp)).trans x12,(hk.cell (p:=⟨w.heap.size,13,none⟩) (by simp)).trans x13⟩))
   |(go_split_ands;exact d6L (c8V hXs (by assumption) (c7Y _)) (fun hk=>⟨(hk.cell (p:=⟨w.heap.size,9,none⟩) (by simp)).trans x9,(hk.cell (p:=⟨w.heap.size,10,none⟩) (by simp)).trans x10,(hk.cell (p:=⟨w.heap.size,11,none⟩) (by simp)).trans x11,(hk.cell (p:=⟨w.heap.size,12,none⟩) (by simp)).trans x12,(hk.cell (p:=⟨w.heap.size,13,none⟩) (by simp)).trans x13⟩))
   |(go_split_ands;exact d6L (Below.grown (by assumption) hgrow (by simp;omega) (fun k hk=>d0U hoN hk)) (fun hk=>⟨(hk.cell (p:=⟨w.heap.size,9,none⟩) (by simp)).trans x9,(hk.cell (p:=⟨w.heap.size,10,none⟩) (by simp)).trans x10,(hk.cell (p:=⟨w.heap.size,11,none⟩) (by simp)).trans x11,(hk.cell (p:=⟨w.heap.size,12,none⟩) (by simp)).trans x12,(hk.cell (p:=⟨w.heap.size,13,none⟩) (by simp)).trans x13⟩)))
  (first
   |(
    go_at_call 331
    go_split_ands
    refine (d3R _ _ (eX.of10 hXs10 (by assumption)) (by omega) (by omega)).mono ?_;rintro e w5 ⟨rfl,hbf⟩;have hs5:=d1E (B:=w.heap.size+1) (x:=X) (by assumption) hbf
    have hoN:=c9H hoN hbf)
   |(
    go_at_call 332
    go_split_ands
    refine (d2S _ _ (eX.of10 hXs10 (by assumption)) (by omega) (by omega)).mono ?_;rintro e w5 ⟨rfl,hbf⟩;have hs5:=d1E (B:=w.heap.size+1) (x:=X) (by assumption) hbf
    have hoN:=c9H hoN hbf)
   |(
    go_at_call 327
    go_split_ands
    refine (d0r _ _ (eX.of10 hXs10 (by assumption)) (by omega) (by omega)).mono ?_;rintro e w5 ⟨rfl,hbf⟩;have hs5:=d1E (B:=w.heap.size+1) (x:=X) (by assumption) hbf
    have hoN:=c9H hoN hbf)
   |((refine step_append_lies _ (by rfl) _ _ _ (by rfl) (w.heap.size+1) 9 inf _ 1 16 Tryz.underlying26 hi0 hz0 hz1 hz2 rfl (by omega) v1 ps.length (ps.map Value.string) (by rfl) (hoN.alloc _) ⟨w5.heap.size,0,none⟩ 6 6 [.string a1t,.string (d0L fr),.string atW,.string (d8f mn),.string b3z,.string (Txt.a0x mi)] (by rfl) (by rfl) (World.news_of_block (cs:=#[.string a1t,.string (d0L fr),.string atW,.string (d8f mn),.string b3z,.string (Txt.a0x mi)]) (t:=9) (fr:=(0,0)) (heap_alloc_new _ _)) (by simp[Value.oneCell']) (by omega) (by unfold maxLen;omega) (by omega) (by simp;omega) (w5.heap.size+1) (by simp) ?_;intro g cap w6 hown6 hgrow hat hltg)))
 go_split_ands
 have hbE:Below (w.heap.size+1) X w6:=by assumption
 have hs6:=hbE.size;obtain⟨ys,hys⟩:∃ ys:List Value,ys=List.map Value.string ps++[Value.string a1t,Value.string (d0L fr),Value.string atW,Value.string (d8f mn),Value.string b3z,Value.string (Txt.a0x mi)]:=⟨_,rfl⟩;rw[<- hys] at hown6;have HYS:=hide hys;clear hys hgrow hat
 go_wp2_with fail
 refine (d3R un w6 (eX.of10 hXs10 hbE) (by omega) (by omega)).mono ?_;rintro e w7 ⟨rfl,hb7⟩;have hoM:=c9H hown6 hb7;have hb67:Below (w.heap.size+1) X w7:=c8V hXs hbE hb7;have hs7:=hb67.size;clear hown6
 go_wp2_with (first
  |(at_builtin;refine wpList_append_own _ rfl _ _ 26 rfl (w.heap.size+1) 9 inf (.string ⟨#[]⟩) 1 16 Tryz.underlying26 hi0 hz0 hz1 hz2 rfl (by decide) _ _ _ rfl (hoM.alloc _) ⟨w7.heap.size,0,none⟩ 2 2 [.string b5O,.string (d0L un)] rfl rfl ?c1 ?c2 ?c3 ?c4 ?c5 ?_))
 case c1=>exact World.news_of_block (cs:=#[.string b5O,.string (d0L un)]) (heap_alloc_new w7 _)
 case c2=>simp[Value.oneCell']
 case c3=>unfold maxLen;omega
 case c4=>omega
 case c5=>simp;omega
 intro v8 w8 hown8 hgrow _;have hbG:Below (w.heap.size+1) X w8:=(hb67.alloc (by omega) _).grown hgrow (by simp;omega) (fun k hk=>d0U hoM hk);have HBG:=hide hbG;have HOW:=hide hown8;clear hbG hgrow hown8;go_wp2;go_ret;refine⟨_,rfl,?_,hbX.trans (HBG.out.mono (by omega))⟩;have h9:=c9G (base':=w.heap.size) HOW.out (by omega);rw[HYS.out] at h9;have e1:(ps++e7C fr mn mi++[b5O,d0L un]).length=ps.length+6+2:=by simp[e7C]
 have e2:(ps++e7C fr mn mi++[b5O,d0L un]).map Value.string=List.map Value.string ps++[Value.string a1t,Value.string (d0L fr),Value.string atW,Value.string (d8f mn),Value.string b3z,Value.string (Txt.a0x mi)]++[.string b5O,.string (d0L un)]:=by simp[e7C]
 rw[e1,e2];exact h9
theorem d9d(x:World)(xs:List ByteArray)(hB:B<=x.heap.size)(h0:xs.length<=160):(x.alloc (.cells (xs.map Value.string).toArray 9)).ownsRow B 9 1 (.slice (some ⟨x.heap.size,0,none⟩) xs.length xs.length) xs.length (xs.map Value.string):=by
 refine⟨by simp,.inr ⟨x.heap.size,xs.length,(xs.map Value.string).toArray,rfl,hB,heap_alloc_new x _,Nat.le_refl _,by unfold maxLen;omega,by simp,?_⟩⟩;exact List.take_of_length_le (by simp)
theorem e7X(pc ev:Int)(acc:List Int)(fr mn mi ti un:Int)(ps:List ByteArray)(hp:PaW pc ev acc ps)(w:World)(he:Env w):
  Calls Tryz.prog 338 #[b9E pc ev acc fr mn mi ti un] w fun e w'=>WR w w' ps e:=by
 cases hp with
 |daily ev acc e0 e1=>exact f2W ev acc fr mn mi ti un w he e0 e1
 |weekly ev acc e0 e1 hne hlen=>exact f0E ev acc fr mn mi ti un w he e0 e1 hne hlen
 |monthly ev acc e0 e1=>exact e6e ev acc fr mn mi ti un w he e0 e1
theorem e2k{ev:Int}{ps:List ByteArray}(hp:PaW pc ev acc ps):ps.length<=3:=by
 cases hp <;> simp
theorem e7Q(pc ev:Int)(acc:List Int)(fr mn mi ti un:Int)(xs:List ByteArray)(hr:RW pc ev acc fr mn mi ti un xs)(w:World)(he:Env w):
  Calls Tryz.prog 337 #[b9E pc ev acc fr mn mi ti un] w fun e w'=>WR w w' xs e:=by
 cases hr with
 |mk ps es hp hen f0 f1 m0 m1 i0 i1 =>
  cases hen with
  |times _ _ t0 t1=>exact f2H ps pc ev acc fr mn mi ti un w he (e2k hp) f0 f1 m0 m1 i0 i1 t0 t1 (fun x hx=>e7X pc ev acc fr mn mi ti un ps hp x hx)
  |til _ u0 u1=>exact f2G ps pc ev acc fr mn mi un w he (e2k hp) f0 f1 m0 m1 i0 i1 u0 u1 (fun x hx=>e7X pc ev acc fr mn mi 0 un ps hp x hx)
theorem e7O{ev:Int}{fr mn mi ti un:Int}{xs:List ByteArray}(hr:RW pc ev acc fr mn mi ti un xs):0<xs.length/\xs.length<=11:=by
 cases hr with
 |mk ps es hp hen f0 f1 m0 m1 i0 i1 =>
  have h1:=e2k hp;have h2:es.length=2:=by cases hen <;> rfl
  simp[e7C,h2];omega
theorem f9z(pc ev:Int)(acc:List Int)(fr mn mi ti un:Int)(xs:List ByteArray)(hr:RW pc ev acc fr mn mi ti un xs)(w:World)(he:Env w):
  Calls Tryz.prog 346 #[.agg #[.int .i64 pc,.int .i64 ev,.bool (isd acc 0),.bool (isd acc 1),.bool (isd acc 2),.bool (isd acc 3),.bool (isd acc 4),.bool (isd acc 5),.bool (isd acc 6),.int .i64 fr,.int .i64 mn,.int .i64 mi,.int .i64 ti,.int .i64 un]] w fun e w'=>WR w w' ([a7M]++xs) e:=by
 obtain⟨inf,hi0,hz0,hz1,hz2⟩:=info_parts e4B;obtain⟨hx0,hx1⟩:=e7O hr;have hrw:=fun x hx=>e7Q pc ev acc fr mn mi ti un xs hr x hx
 clear hr;simp only[b9E] at hrw
 go_enter Tryz.func346,Tryz.ntmps346
 go_wp2_with fail
 obtain⟨X,hX⟩:∃ X,X=w.alloc (.cells #[.int .i64 pc,.int .i64 ev,.bool (isd acc 0),.bool (isd acc 1),.bool (isd acc 2),.bool (isd acc 3),.bool (isd acc 4),.bool (isd acc 5),.bool (isd acc 6),.int .i64 fr,.int .i64 mn,.int .i64 mi,.int .i64 ti,.int .i64 un] 180):=⟨_,rfl⟩;rw[<- hX];have hbX:Below w.heap.size w X:=by rw[hX];exact (zr _ _).alloc (zq _) _
 have hXs:X.heap.size=w.heap.size+1:=by rw[hX];simp
 clear hX;obtain⟨Y,hY⟩:∃ Y,Y=X.alloc (.cells #[.string ⟨#[101,120,112,97,110,100]⟩] 9):=⟨_,rfl⟩;rw[<- hY];have hbY:Below w.heap.size w Y:=by rw[hY];exact hbX.alloc (by omega) _
 have hoY:Y.ownsRow (w.heap.size+1) 9 1 (.slice (some ⟨w.heap.size+1,0,none⟩) 1 1) 1 ([a7M].map Value.string):=by
  have h:=d9d (B:=w.heap.size+1) X [a7M] (by omega) (by simp);rw[hXs] at h;rw[hY];exact h
 have hsY:Y.heap.size=w.heap.size+2:=by rw[hY];simp;omega
 clear hY;refine (hrw Y (he.later hbY)).mono ?_;rintro e w5 ⟨v2,rfl,ho2,hbf⟩;obtain⟨g2,cap2,rfl,hg2,hl2,hc2⟩:=d8s ho2 hx0;have hoN:=c9H hoY hbf;have hb5:Below w.heap.size w w5:=hbY.trans (hbf.mono (by omega));have hs5:=hbf.size;clear hoY ho2 hbf
 go_wp2_with (first
  |(at_builtin;refine wpList_append_own _ rfl _ _ 26 rfl (w.heap.size+1) 9 inf (.string ⟨#[]⟩) 1 16 Tryz.underlying26 hi0 hz0 hz1 hz2 rfl (by decide) _ _ _ rfl hoN ⟨g2,0,none⟩ xs.length cap2 (xs.map Value.string) rfl (by simp) ?c1 ?c2 ?c3 ?c4 ?c5 ?_))
 case c1=>exact hc2
 case c2=>intro u hu;simp only[List.mem_map] at hu;obtain⟨x,_,rfl⟩:=hu;rfl
 case c3=>unfold maxLen;omega
 case c4=>omega
 case c5=>omega
 intro v8 w8 hown8 hgrow _;have hbG:Below w.heap.size w w8:=hb5.grown hgrow (by omega) (fun k hk=>by have:=d0U hoN hk;omega);have HBG:=hide hbG;have HOW:=hide hown8;clear hbG hgrow hown8 hoN;go_wp2;go_ret;refine⟨_,rfl,?_,HBG.out⟩;have h9:=c9G (base':=w.heap.size) HOW.out (by omega);have e1:(a7M :: xs).length=1+xs.length:=by simp;omega
 rw[e1];exact h9
theorem f9y(n:ByteArray)(u:Int)(pc ev:Int)(acc:List Int)(fr mn mi ti un:Int)(xs:List ByteArray)(hr:RW pc ev acc fr mn mi ti un xs)(w:World)(he:Env w)(u0:0<=u)(u1:u<=9999999):
  Calls Tryz.prog 336 #[.agg #[.string n,.int .i64 u,.int .i64 pc,.int .i64 ev,.bool (isd acc 0),.bool (isd acc 1),.bool (isd acc 2),.bool (isd acc 3),.bool (isd acc 4),.bool (isd acc 5),.bool (isd acc 6),.int .i64 fr,.int .i64 mn,.int .i64 mi,.int .i64 ti,.int .i64 un]] w fun e w'=>WR w w' ([a7l,n,Txt.a0x u]++xs) e:=by
 obtain⟨inf,hi0,hz0,hz1,hz2⟩:=info_parts e4B;obtain⟨hx0,hx1⟩:=e7O hr;have hrw:=fun x hx=>e7Q pc ev acc fr mn mi ti un xs hr x hx
 clear hr;simp only[b9E] at hrw
 go_enter Tryz.func336,Tryz.ntmps336
 go_wp2_with fail
 obtain⟨X,hX⟩:∃ X,X=w.alloc (.cells #[.string n,.int .i64 u,.int .i64 pc,.int .i64 ev,.bool (isd acc 0),.bool (isd acc 1),.bool (isd acc 2),.bool (isd acc 3),.bool (isd acc 4),.bool (isd acc 5),.bool (isd acc 6),.int .i64 fr,.int .i64 mn,.int .i64 mi,.int .i64 ti,.int .i64 un] 165):=⟨_,rfl⟩;rw[<- hX];have hbX:Below w.heap.size w X:=by rw[hX];exact (zr _ _).alloc (zq _) _
 have eX:=he.later hbX;have hXs:w.heap.size+1<=X.heap.size:=by rw[hX];simp
 have hXs10:10<=w.heap.size+1:=by have:=he.size;omega
 have x0:X.cell? ⟨w.heap.size,0,none⟩=some (.string n):=by rw[hX];simp
 have x1:X.cell? ⟨w.heap.size,1,none⟩=some (.int .i64 u):=by rw[hX];simp
 have x2:X.cell? ⟨w.heap.size,2,none⟩=some (.int .i64 pc):=by rw[hX];simp
 have x3:X.cell? ⟨w.heap.size,3,none⟩=some (.int .i64 ev):=by rw[hX];simp
 have x4:X.cell? ⟨w.heap.size,4,none⟩=some (.bool (isd acc 0)):=by rw[hX];simp
 have x5:X.cell? ⟨w.heap.size,5,none⟩=some (.bool (isd acc 1)):=by rw[hX];simp
 have x6:X.cell? ⟨w.heap.size,6,none⟩=some (.bool (isd acc 2)):=by rw[hX];simp
 have x7:X.cell? ⟨w.heap.size,7,none⟩=some (.bool (isd acc 3)):=by rw[hX];simp
 have x8:X.cell? ⟨w.heap.size,8,none⟩=some (.bool (isd acc 4)):=by rw[hX];simp
 have x9:X.cell? ⟨w.heap.size,9,none⟩=some (.bool (isd acc 5)):=by rw[hX];simp
 have x10:X.cell? ⟨w.heap.size,10,none⟩=some (.bool (isd acc 6)):=by rw[hX];simp
 have x11:X.cell? ⟨w.heap.size,11,none⟩=some (.int .i64 fr):=by rw[hX];simp
 have x12:X.cell? ⟨w.heap.size,12,none⟩=some (.int .i64 mn):=by rw[hX];simp
 have x13:X.cell? ⟨w.heap.size,13,none⟩=some (.int .i64 mi):=by rw[hX];simp
 have x14:X.cell? ⟨w.heap.size,14,none⟩=some (.int .i64 ti):=by rw[hX];simp
 have x15:X.cell? ⟨w.heap.size,15,none⟩=some (.int .i64 un):=by rw[hX];simp
 have bX:=zr (w.heap.size+1) X;clear hX he
 go_region_held3 (fun w'=>Below (w.heap.size+1) X w'/\w'.cell? ⟨w.heap.size,0,none⟩=some (.string n)/\w'.cell? ⟨w.heap.size,1,none⟩=some (.int .i64 u)/\w'.cell? ⟨w.heap.size,2,none⟩=some (.int .i64 pc)/\w'.cell? ⟨w.heap.size,3,none⟩=some (.int .i64 ev)/\w'.cell? ⟨w.heap.size,4,none⟩=some (.bool (isd acc 0))/\w'.cell? ⟨w.heap.size,5,none⟩=some (.bool (isd acc 1))/\w'.cell? ⟨w.heap.size,6,none⟩=some (.bool (isd acc 2))/\w'.cell? ⟨w.heap.size,7,none⟩=some (.bool (isd acc 3))/\w'.cell? ⟨w.heap.size,8,none⟩=some (.bool (isd acc 4))/\w'.cell? ⟨w.heap.size,9,none⟩=some (.bool (isd acc 5))/\w'.cell? ⟨w.heap.size,10,none⟩=some (.bool (isd acc 6))/\w'.cell? ⟨w.heap.size,11,none⟩=some (.int .i64 fr)/\w'.cell? ⟨w.heap.size,12,none⟩=some (.int .i64 mn)/\w'.cell? ⟨w.heap.size,13,none⟩=some (.int .i64 mi)/\w'.cell? ⟨w.heap.size,14,none⟩=some (.int .i64 ti)/\w'.cell? ⟨w.heap.size,15,none⟩=some (.int .i64 un))
  (first
   |(go_split_ands;exact d6L (c8V hXs (by assumption) hbf) (fun hk=>⟨(hk.cell (p:=⟨w.heap.size,0,none⟩) (by simp)).trans x0,(hk.cell (p:=⟨w.heap.size,1,none⟩) (by simp)).trans x1,(hk.cell (p:=⟨w.heap.size,2,none⟩) (by simp)).trans x2,(hk.cell (p:=⟨w.heap.size,3,none⟩) (by simp)).trans x3,(hk.cell (p:=⟨w.heap.size,4,none⟩) (by simp)).trans x4,(hk.cell (p:=⟨w.heap.size,5,none⟩) (by simp)).trans x5,(hk.cell (p:=⟨w.heap.size,6,none⟩) (by simp)).trans x6,(hk.cell (p:=⟨w.heap.size,7,none⟩) (by simp)).trans x7,(hk.cell (p:=⟨w.heap.size,8,none⟩) (by simp)).trans x8,(hk.cell (p:=⟨w.heap.size,9,none⟩) (by simp)).trans x9,(hk.cell (p:=⟨w.heap.size,10,none⟩) (by simp)).trans x10,(hk.cell (p:=⟨w.heap.size,11,none⟩) (by simp)).trans x11,(hk.cell (p:=⟨w.heap.size,12,none⟩) (by simp)).trans x12,(hk.cell (p:=⟨w.heap.size,13,none⟩) (by simp)).trans x13,(hk.cell (p:=⟨w.heap.size,14,none⟩) (by simp)).trans x14,(hk.cell (p:=⟨w.heap.size,15,none⟩) (by simp)).trans x15⟩))
   |(go_split_ands;exact d6L (c8V hXs (by assumption) ((zr _ _).alloc (zq _) _)) (fun hk=>⟨(hk.cell (p:=⟨w.heap.size,0,none⟩) (by simp)).trans x0,(hk.cell (p:=⟨w.heap.size,1,none⟩) (by simp)).trans x1,(hk.cell (p:=⟨w.heap.size,2,none⟩) (by simp)).trans x2,(hk.cell (p:=⟨w.heap.size,3,none⟩) (by simp)).trans x3,(hk.cell (p:=⟨w.heap.size,4,none⟩) (by simp)).trans x4,(hk.cell (p:=⟨w.heap.size,5,none⟩) (by simp)).trans x5,(hk.cell (p:=⟨w.heap.size,6,none⟩) (by simp)).trans x6,(hk.cell (p:=⟨w.heap.size,7,none⟩) (by simp)).trans x7,(hk.cell (p:=⟨w.heap.size,8,none⟩) (by simp)).trans x8,(hk.cell (p:=⟨w.heap.size,9,none⟩) (by simp)).trans x9,(hk.cell (p:=⟨w.heap.size,10,none⟩) (by simp)).trans x10,(hk.cell (p:=⟨w.heap.size,11,none⟩) (by simp)).trans x11,(hk.cell (p:=⟨w.heap.size,12,none⟩) (by simp)).trans x12,(hk.cell (p:=⟨w.heap.size,13,none⟩) (by simp)).trans x13,(hk.cell (p:=⟨w.heap.size,14,none⟩) (by simp)).trans x14,(hk.cell (p:=⟨w.heap.size,15,none⟩) (by simp)).trans x15⟩))
   |(go_split_ands;exact d6L (c8V hXs (by assumption) (c7Y _)) (fun hk=>⟨(hk.cell (p:=⟨w.heap.size,0,none⟩) (by simp)).trans x0,(hk.cell (p:=⟨w.heap.size,1,none⟩) (by simp)).trans x1,(hk.cell (p:=⟨w.heap.size,2,none⟩) (by simp)).trans x2,(hk.cell (p:=⟨w.heap.size,3,none⟩) (by simp)).trans x3,(hk.cell (p:=⟨w.heap.size,4,none⟩) (by simp)).trans x4,(hk.cell (p:=⟨w.heap.size,5,none⟩) (by simp)).trans x5,(hk.cell (p:=⟨w.heap.size,6,none⟩) (by simp)).trans x6,(hk.cell (p:=⟨w.heap.size,7,none⟩) (by simp)).trans x7,(hk.cell (p:=⟨w.heap.size,8,none⟩) (by simp)).trans x8,(hk.cell (p:=⟨w.heap.size,9,none⟩) (by simp)).trans x9,(hk.cell (p:=⟨w.heap.size,10,none⟩) (by simp)).trans x10,(hk.cell (p:=⟨w.heap.size,11,none⟩) (by simp)).trans x11,(hk.cell (p:=⟨w.heap.size,12,none⟩) (by simp)).trans x12,(hk.cell (p:=⟨w.heap.size,13,none⟩) (by simp)).trans x13,(hk.cell (p:=⟨w.heap.size,14,none⟩) (by simp)).trans x14,(hk.cell (p:=⟨w.heap.size,15,none⟩) (by simp)).trans x15⟩))
   |(go_split_ands;exact d6L (Below.grown (by assumption) hgrow (by (try simp);omega) (fun k hk=>d0U hoN hk)) (fun hk=>⟨(hk.cell (p:=⟨w.heap.size,0,none⟩) (by simp)).trans x0,(hk.cell (p:=⟨w.heap.size,1,none⟩) (by simp)).trans x1,(hk.cell (p:=⟨w.heap.size,2,none⟩) (by simp)).trans x2,(hk.cell (p:=⟨w.heap.size,3,none⟩) (by simp)).trans x3,(hk.cell (p:=⟨w.heap.size,4,none⟩) (by simp)).trans x4,(hk.cell (p:=⟨w.heap.size,5,none⟩) (by simp)).trans x5,(hk.cell (p:=⟨w.heap.size,6,none⟩) (by simp)).trans x6,(hk.cell (p:=⟨w.heap.size,7,none⟩) (by simp)).trans x7,(hk.cell (p:=⟨w.heap.size,8,none⟩) (by simp)).trans x8,(hk.cell (p:=⟨w.heap.size,9,none⟩) (by simp)).trans x9,(hk.cell (p:=⟨w.heap.size,10,none⟩) (by simp)).trans x10,(hk.cell (p:=⟨w.heap.size,11,none⟩) (by simp)).trans x11,(hk.cell (p:=⟨w.heap.size,12,none⟩) (by simp)).trans x12,(hk.cell (p:=⟨w.heap.size,13,none⟩) (by simp)).trans x13,(hk.cell (p:=⟨w.heap.size,14,none⟩) (by simp)).trans x14,(hk.cell (p:=⟨w.heap.size,15,none⟩) (by simp)).trans x15⟩)))
  (first
   |(
    go_at_call 327
    go_split_ands
    refine (d0r u _ (eX.of10 hXs10 (by assumption)) (by omega) (by omega)).mono ?_;rintro e w4 ⟨rfl,hbf⟩
    have hs4:=d1E (B:=w.heap.size+1) (x:=X) (by assumption) hbf)
   |(
    go_at_call 337
    go_split_ands
    refine (hrw _ (eX.of10 hXs10 (by assumption))).mono ?_;rintro e w5 ⟨v2,rfl,ho2,hbf⟩;obtain⟨g2,cap2,rfl,hg2,hl2,hc2⟩:=d8s ho2 hx0
    have hs5:=d1E (B:=w.heap.size+1) (x:=X) (by assumption) hbf)
   |(
    have hoN:=c9H (d9d (B:=w.heap.size+1) w4 [a7l,n,Txt.a0x u] (by omega) (by simp)) hbf
    (refine step_append_lies _ (by rfl) _ _ _ (by rfl) (w.heap.size+1) 9 inf _ 1 16 Tryz.underlying26 hi0 hz0 hz1 hz2 rfl (by omega) (.slice (some ⟨w4.heap.size,0,none⟩) 3 3) 3 ([a7l,n,Txt.a0x u].map Value.string) (by rfl) hoN ⟨g2,0,none⟩ xs.length cap2 (xs.map Value.string) (by rfl) (by simp) hc2 (by intro u hu;simp only[List.mem_map] at hu;obtain⟨x,_,rfl⟩:=hu;rfl) (by omega) (by unfold maxLen;omega) (by omega) (by (try simp);omega) w5.heap.size (by simp) ?_;intro g cap w6 hown6 hgrow hat hltg))
   |(
    have hoN:=d9d (B:=w.heap.size+1) w5 [a7l,n,Txt.a0x u] (by omega) (by simp);obtain⟨g3,cap3,e3,_,_,hc3⟩:=d8s (ho2.alloc (.cells ([a7l,n,Txt.a0x u].map Value.string).toArray 9)) hx0
    cases e3
    (refine step_append_lies _ (by rfl) _ _ _ (by rfl) (w.heap.size+1) 9 inf _ 1 16 Tryz.underlying26 hi0 hz0 hz1 hz2 rfl (by omega) (.slice (some ⟨w5.heap.size,0,none⟩) 3 3) 3 ([a7l,n,Txt.a0x u].map Value.string) (by rfl) hoN ⟨g2,0,none⟩ xs.length cap2 (xs.map Value.string) (by rfl) (by simp) hc3 (by intro u hu;simp only[List.mem_map] at hu;obtain⟨x,_,rfl⟩:=hu;rfl) (by omega) (by unfold maxLen;omega) (by omega) (by (try simp);omega) (w5.heap.size+1) (by simp) ?_;intro g cap w6 hown6 hgrow hat hltg)))
 all_goals
  go_split_ands
  have hbE:Below (w.heap.size+1) X w6:=by assumption
  have HBE:=hide hbE;have HOW:=hide hown6;clear hbE hown6;go_wp2;go_ret;refine⟨_,rfl,?_,hbX.trans (HBE.out.mono (by omega))⟩;have h9:=c9G (base':=w.heap.size) HOW.out (by omega);have e1:(a7l :: n :: Txt.a0x u :: xs).length=3+xs.length:=by simp;omega
  rw[e1];exact h9
theorem c9M (T K : Nat) (x : Value) (xs : List ByteArray) (w : World) (he : Env w) (hm : ∀ w : World, (method 498 T x "bookings/lines.plainWords").run Tryz.prog w = .ok (K, x) w) (hk : ∀ w : World, (callFunc K #[x]).run Tryz.prog w = .ok (.enter K #[x]) w)
  (hc:∀ w:World,Env w->Calls Tryz.prog K #[x] w fun e w'=>WR w w' xs e) (h0:0<xs.length) (h1:xs.length<=20) (hlen:(Lib.join (xs.map (·.data.toList)) [32]).length<=30000):
  Calls Tryz.prog 50 #[.iface T x] w fun e w'=>e=.returned (.string (jn xs))/\Below w.heap.size w w':=by
 have HE:=hide he;have HC:=hide hc;have HLEN:=hide hlen;clear he hc hlen
 go_enter Tryz.func50,Tryz.ntmps50
 go_wp2_with fail
 refine (a0d HC w (a0d HE)).mono ?_;rintro e w1 ⟨v,rfl,ho,hb1⟩;obtain⟨a,c,g,rfl,hrow⟩:=e0O ho rfl;obtain rfl:=hrow.at_ h0;have HROW:=hide hrow
 have hcap:xs.length<=c:=by
  rcases ho.2 with ⟨h,_⟩|⟨g',cap,cur,hv,_,_,hc,_⟩
  ·cases h
  ·cases hv;exact hc
 have hgl:g<w1.heap.size:=World.block_lt_of_cell? _ ⟨g,0,none⟩ (hrow.cells 0 h0);clear ho hrow
 go_wp2_with fail
 refine (Tryz.strings_Join g 0 c xs ⟨#[32]⟩ w1 (fun j x hx=>?_) hgl (by omega) hcap (Nat.le_trans (a0d HLEN) (by omega))).mono ?_
 ·obtain⟨hj,e⟩:=List.getElem?_eq_some_iff.1 hx;have:=(a0d HROW).cells j hj;rw[e] at this;rw[Nat.zero_add];exact this
 rintro e w' ⟨rfl,hbj⟩;have hbe:=c8d hb1 hbj;go_wp2;go_ret;exact⟨rfl,hbe⟩
theorem f9P(xs:List ByteArray):(Lib.join (xs.map (·.data.toList)) [32]).length=(jn xs).size:=by
 rw[<- Txt.a1d];rfl
theorem f2Q(v:Value)(xs:List ByteArray)(hp:PW v xs)(w:World)(he:Env w)(h0:0<xs.length)(h1:xs.length<=20)(hs:(jn xs).size<=30000):
  Calls Tryz.prog 50 #[v] w fun e w'=>e=.returned (.string (jn xs))/\Below w.heap.size w w':=by
 rw[<- f9P] at hs
 cases hp with
 |a0k n u u0 u1=>exact c9M 149 326 _ _ w he (fun _=>by kernel_rfl) (fun _=>by kernel_rfl) (fun w he=>g0Z n u w he u0 u1) h0 h1 hs
 |book n u a b u0 u1 a0 a1 b0 b1=>exact c9M 154 328 _ _ w he (fun _=>by kernel_rfl) (fun _=>by kernel_rfl) (fun w he=>g2u n u a b w he u0 u1 a0 a1 b0 b1) h0 h1 hs
 |hold n u a b m u0 u1 a0 a1 b0 b1 m0 m1=>exact c9M 156 334 _ _ w he (fun _=>by kernel_rfl) (fun _=>by kernel_rfl) (fun w he=>g2s n u a b m w he u0 u1 a0 a1 b0 b1 m0 m1) h0 h1 hs
 |wait n u a b m u0 u1 a0 a1 b0 b1 m0 m1=>exact c9M 157 335 _ _ w he (fun _=>by kernel_rfl) (fun _=>by kernel_rfl) (fun w he=>g2p n u a b m w he u0 u1 a0 a1 b0 b1 m0 m1) h0 h1 hs
 |series n u pc ev acc fr mn mi ti un xs u0 u1 hr=>exact c9M 165 336 _ _ w he (fun _=>by kernel_rfl) (fun _=>by kernel_rfl) (fun w he=>f9y n u pc ev acc fr mn mi ti un xs hr w he u0 u1) h0 h1 hs
 |confirm u u0 u1=>exact c9M 167 340 _ _ w he (fun _=>by kernel_rfl) (fun _=>by kernel_rfl) (fun w he=>f6H u w he u0 u1) h0 h1 hs
 |cancel u u0 u1=>exact c9M 168 341 _ _ w he (fun _=>by kernel_rfl) (fun _=>by kernel_rfl) (fun w he=>f9A u w he u0 u1) h0 h1 hs
 |list0 n a b=>exact c9M 170 342 _ _ w he (fun _=>by kernel_rfl) (fun _=>by kernel_rfl) (fun w he=>g1c n a b w) h0 h1 hs
 |list1 n a b a0 a1 b0 b1=>exact c9M 170 342 _ _ w he (fun _=>by kernel_rfl) (fun _=>by kernel_rfl) (fun w he=>g1b n a b w he a0 a1 b0 b1) h0 h1 hs
 |waiting=>exact c9M 173 343 _ _ w he (fun _=>by kernel_rfl) (fun _=>by kernel_rfl) (fun w he=>f6G w) h0 h1 hs
 |peak n a b a0 a1 b0 b1=>exact c9M 176 344 _ _ w he (fun _=>by kernel_rfl) (fun _=>by kernel_rfl) (fun w he=>g2r n a b w he a0 a1 b0 b1) h0 h1 hs
 |find n u m a b u0 u1 m0 m1 a0 a1 b0 b1=>exact c9M 178 345 _ _ w he (fun _=>by kernel_rfl) (fun _=>by kernel_rfl) (fun w he=>g2t n u m a b w he u0 u1 m0 m1 a0 a1 b0 b1) h0 h1 hs
 |expand pc ev acc fr mn mi ti un xs hr=>exact c9M 180 346 _ _ w he (fun _=>by kernel_rfl) (fun _=>by kernel_rfl) (fun w he=>f9z pc ev acc fr mn mi ti un xs hr w he) h0 h1 hs
 |tick u u0 u1=>exact c9M 182 347 _ _ w he (fun _=>by kernel_rfl) (fun _=>by kernel_rfl) (fun w he=>g2q u w he u0 u1) h0 h1 hs
 |clock=>exact c9M 183 348 _ _ w he (fun _=>by kernel_rfl) (fun _=>by kernel_rfl) (fun w he=>g1d w) h0 h1 hs
theorem f2r(w:World)(he:Env w):Calls Tryz.prog 44 #[] w fun e w'=>∃ p d col,e=.returned (.pointer (some ⟨p,0,none⟩))/\BD w' p d st0 c2z col/\Below w.heap.size w w'/\(∀ b,b<w.heap.size->col b=none)/\w.heap.size<=p:=by
 have DN:=a0b (b5o w);have HE:=a0b he;have hsz:=he.size;clear he
 go_enter Tryz.func44,Tryz.ntmps44
 go_wp2_with (first
  |(go_at_call 60;refine DN.out.mono ?_;rintro e w1 ⟨v,rfl,rfl,hd,hb⟩))
 have HF:Hid (BD (w1.alloc (.cells #[.pointer (some ⟨w.heap.size+2,0,none⟩)] 99)) w1.heap.size (w.heap.size+2) st0 c2z (c1O w.heap.size)/\Below w.heap.size w (w1.alloc (.cells #[.pointer (some ⟨w.heap.size+2,0,none⟩)] 99))/\(∀ b,b<w.heap.size->c1O w.heap.size b=none)/\w.heap.size<=w1.heap.size):=by
  have k:Below w1.heap.size w1 (w1.alloc (.cells #[.pointer (some ⟨w.heap.size+2,0,none⟩)] 99)):=(zr _ _).alloc (zq _) _;have hlow:∀ b,b<w.heap.size->c1O w.heap.size b=none:=fun b hb'=>by unfold c1O;rw[if_neg (by omega),if_neg (by omega),if_neg (by omega)]
  exact⟨⟨a0p w1 _,hd.dk.none (zq _),⟨hd.dk.later k,hd.of,hd.wl,hd.hl,hd.inv⟩,(HE.out.later hb).later k,fun b hb'=>hlow b (by omega)⟩,hb.trans (k.mono hb.size),hlow,hb.size⟩
 clear hd hb
 go_wp2_with fail
 exact bodyPost_ret (v:=.pointer (some ⟨w1.heap.size,0,none⟩)) (by simp[results,Tryz.results44,go_sem]) rfl ⟨_,_,_,rfl,HF.out⟩
namespace Desk
theorem d9a(p:Ent->Bool):∀ l:List Ent,(l.filter p).length+(l.filter fun e=>!p e).length=l.length
 |[]=>rfl
 |a :: r=>by
  have ih:=d9a p r;simp only[List.filter_cons]
  cases p a <;> simp <;> omega
theorem d8u(ts:List (ByteArray × Int)):∀ (k:Nat)(es:List Ent)(now tq:Int),(a1K ts k es now tq).2.1.length<=es.length
 |0,es,_,_=>by simp[a1K]
 |k+1,es,now,tq=>by
  simp only[a1K]
  split
  ·have h1:=d8u ts k (a0R ts (es.filter fun e=>!a0z (a3D tq es) e)).1 (a3D tq es) tq;have h2:=a7H ts (es.filter fun e=>!a0z (a3D tq es) e);have h3:=d9a (a0z (a3D tq es)) es;simp only[List.length_append,List.length_map];omega
  ·simp
structure f5z(s:St)(r:Rep):Prop where
 en:r.entries.length<=60
 es:∀ e∈r.entries,e∈s.es
 da:r.days.length<=60
 ed:r.ended.length<=60
theorem f5z.plain{s:St}{r:Rep}(h1:r.entries=[])(h2:r.days=[])(h3:r.ended=[]):f5z s r:=⟨by rw[h1];simp,by rw[h1];simp,by rw[h2];simp,by rw[h3];simp⟩
theorem e7j{s:St}(h:Inv s){l:a7U}(hl:a1O l):f5z s (a0g s l).2:=by
 cases l with
 |a0k name u=>simp only[a0g];split <;> first|exact .plain rfl rfl rfl|(split <;> exact .plain rfl rfl rfl)
 |enter k name u fr til long=>simp only[a0g];split <;> exact .plain rfl rfl rfl
 |series name u r=>simp only[a0g];split <;> exact .plain rfl rfl rfl
 |confirm id =>
  simp only[a0g]
  split
  ·exact .plain rfl rfl rfl
  ·split <;> exact .plain rfl rfl rfl
 |cancel id=>simp only[a0g];split <;> exact .plain rfl rfl rfl
 |list name fr til =>
  simp only[a0g]
  split
  ·exact .plain rfl rfl rfl
  ·split
   ·exact .plain rfl rfl rfl
   ·have hm:∀ e∈a2x name fr til s.es,e∈s.es:=fun e he=>(List.mem_filter.1 (a4U.1 he)).1
    have hlen:(a2x name fr til s.es).length<=60:=by
     have:=c6C h;have e:=(a3Y (a:=fr) (b:=til) (s.es.filter (b7U name fr til))).length_eq;have f:=List.length_filter_le (b7U name fr til) s.es;unfold a2x;omega
    exact⟨hlen,hm,by simp[Rep.num],by simp[Rep.num]⟩
 |waiting=>exact⟨Nat.le_trans (List.length_filter_le ..) (c6C h),fun e he=>(List.mem_filter.1 he).1,by simp[a0g,Rep.num],by simp[a0g,Rep.num]⟩
 |peak name fr til=>simp only[a0g];split <;> first|exact .plain rfl rfl rfl|(split <;> exact .plain rfl rfl rfl)
 |find name u long fr til=>simp only[a0g];split <;> first|exact .plain rfl rfl rfl|(split <;> exact .plain rfl rfl rfl)
 |expand r =>
  simp only[a0g]
  split
  ·exact .plain rfl rfl rfl
  ·rename_i c
   have hf:Rd.a6s r:=hl;have:=((Rd.a5K hf).2 (by omega)).2.2.1;exact⟨by simp[Rep.num],by simp[Rep.num],by show (Rd.a0E r).length<=60;omega,by simp[Rep.num]⟩
 |tick n =>
  simp only[a0g]
  split
  ·exact .plain rfl rfl rfl
  ·have h1:=d8u s.ts (s.es.length+1) s.es s.now (s.now+n);have h2:=c6C h;exact⟨by simp[Rep.num],by simp[Rep.num],by simp[Rep.num],by show (a1K s.ts (s.es.length+1) s.es s.now (s.now+n)).2.1.length<=60;omega⟩
 |clock=>exact .plain rfl rfl rfl
theorem e6u{s:St}(h:Inv s){l:a7U}(hl:a1O l):f5z s (a1q s l).2/\(a1q s l).2.granted.length<=100000:=by
 have h1:=e7j h hl;have h2:=c3u h.mid l;unfold a1q
 split
 ·exact⟨h1,by omega⟩
 ·refine⟨⟨h1.en,h1.es,h1.da,h1.ed⟩,?_⟩;have h3:=b8x (a0g s l).1.ts (a0g s l).1.es;have h4:=a1x (b7f h hl);simp only[List.length_append];omega
end Desk
end Go.Proofs.YtfigmlfdnickmaaGreatDoor
namespace Go.Proofs.YtfigmlfdnickmaaGreatDoor.Laid
def val:DataW Unit->Value
 |.lit (.int k n)=>.int k n
 |.lit (.string b)=>.string ⟨b.toArray⟩
 |_=>.bool false
def row:DataW Unit->List Value
 |.agg l=>l.map val
 |_=>[]
def rows:DataW Unit->List Value
 |.agg l=>l.flatMap row
 |_=>[]
def text:DataW Unit->Value
 |.iface _ (.ptr (.agg [d]))=>val d
 |_=>.bool false
def put(l:List Value):Obj->Obj
 |.cells _ t frozen=>.cells l.toArray t frozen
 |o=>o
def c6N(w:World):World :=
 { w with heap:=(((((((((w.heap.modify 1 (put (row Rows.laid_bookings_calendar_monthDays))).modify 0 (put (row Rows.laid_internal_strconv_uint64pow10))).modify 6 (put [.iface 369 (.pointer (some ⟨w.heap.size,0,none⟩))])).modify 7 (put [.iface 369 (.pointer (some ⟨w.heap.size+1,0,none⟩))])).modify 3 (put (row Rows.laid_bookings_lines_weekdays))).modify 4 (put (row Rows.laid_math_bits_deBruijn32tab))).modify 5 (put (row Rows.laid_math_bits_deBruijn64tab))).modify 8 (put (row Rows.laid_unicode_utf8_first))).modify 9 (put (rows Rows.laid_unicode_utf8_acceptRanges))).push (.cells #[text Rows.laid_strconv_ErrSyntax] 371) |>.push (.cells #[text Rows.laid_strconv_ErrRange] 371) }
end Go.Proofs.YtfigmlfdnickmaaGreatDoor.Laid
namespace Go.Proofs.YtfigmlfdnickmaaGreatDoor.datesLaw
open Go.ChangeShapes Go.WideShapes Go.ChangeAt Go.RowKit
theorem own:ownKnob Tryz.prog.godebug=none:=by kernel_rfl
theorem c5b:laidOutB Tryz.prog=true:=by kernel_rfl
theorem c3D:Tryz.prog.cellsOf 3=1:=by kernel_rfl
theorem b7n:Tryz.prog.cellsOf 9=1:=by kernel_rfl
theorem e7q:Tryz.prog.cellsOf 89=6:=by kernel_rfl
theorem six{α:Type}{l:List α}(h:l.length=6):∃ a b c d e f,l=[a,b,c,d,e,f]:=by
 match l,h with
 |[a,b,c,d,e,f],_=>exact⟨a,b,c,d,e,f,rfl⟩
end Go.Proofs.YtfigmlfdnickmaaGreatDoor.datesLaw
namespace Go.Proofs.YtfigmlfdnickmaaGreatDoor.EnvLaid
open Go.ChangeShapes Go.WideShapes Go.ChangeAt Go.RowKit
theorem b2G{P:Program}{name:String}{k:IntKind}{zs:List Int}{t e:TypeId}
  (hg:P.globalNamed name=some g) (hty:(P.globals[g]?).map (·.type)=some t) (ht:P.underlying t=some (.array n e)) (he:P.underlying e=some (.int k)) (hce:P.cellsOf e=1) (hct:P.cellsOf t=n)
  (h:Lib.VarReads P W name (Lib.tabData k zs)):Lib.TabIs P W name k zs:=by
 obtain⟨g',t',cs,fuel,p,hg',ht',hvar,hd⟩:=h;obtain rfl:=Option.some.inj (hg.symm.trans hg');obtain rfl:=Option.some.inj (hty.symm.trans ht');unfold Lib.TabIs;rw[hvar,<- Lib.cells_of_tab ht he hce hct hd]
theorem b9t{P:Program}{name:String}{zs:List (List UInt8)}{t e:TypeId}
  (hg:P.globalNamed name=some g) (hty:(P.globals[g]?).map (·.type)=some t) (ht:P.underlying t=some (.array n e)) (he:P.underlying e=some .string) (hce:P.cellsOf e=1)
  (h:Lib.VarReads P W name (.agg (zs.map fun z=>.lit (.string z)))) (i:Nat) (z:List UInt8) (hz:zs[i]?=some z):W.cell? ⟨g,i,none⟩=some (.string ⟨z.toArray⟩):=by
 obtain⟨g',t',cs,fuel,p,hg',ht',hvar,hd⟩:=h;obtain rfl:=Option.some.inj (hg.symm.trans hg');obtain rfl:=Option.some.inj (hty.symm.trans ht');obtain⟨xs,m,_,hx,_,hxl,hall⟩:=DataW.trod_array ht hd
 have hx1:zs.map (fun z=>(DataW.lit (.string z):DataW Unit))=xs.map (·.1):=by
  have:=congrArg Prod.fst hx
  simpa using this
 have hlen:zs.length=xs.length:=by
  have:=congrArg List.length hx1
  simpa using this
 have hi:i<zs.length:=(List.getElem?_eq_some_iff.1 hz).1;have hxi:xs[i]?=some xs[i]:=List.getElem?_eq_getElem (by omega);have hti:=hall i (by omega);rw[hxi,hce] at hti;obtain⟨s,hs1,hs2,_⟩:=DataW.trod_string he hti
 have h1:(xs.map (·.1))[i]?=some (DataW.lit (.string z):DataW Unit):=by rw[<- hx1];simp[hz]
 have h2:(xs.map (·.1))[i]?=some (DataW.lit (.string s.data.toList):DataW Unit):=by simp[hxi,hs2]
 have h3:z=s.data.toList:=by
  have:=h1.symm.trans h2
  simpa using this
 have h4:cs[i]?=some (.string s):=by
  have:=congrArg (·[0]?) hs1
  simpa[List.getElem?_take,List.getElem?_drop] using this
 rw[World.var?_cell hg hvar i,h4,h3]
theorem c3f:(Tryz.prog.globals[0]?).map (·.type)=some 306:=by kernel_rfl
theorem c3B:Tryz.prog.cellsOf 306=20:=by kernel_rfl
theorem c3z:Tryz.prog.cellsOf 265=1:=by kernel_rfl
theorem c6X : Tryz.prog.globalNamed "bookings/lines.weekdays" = some 3 := by kernel_rfl
theorem c0J:(Tryz.prog.globals[3]?).map (·.type)=some 352:=by kernel_rfl
theorem b8z : Tryz.prog.globalNamed "bookings/calendar.monthDays" = some 1 := by kernel_rfl
theorem c3g:(Tryz.prog.globals[1]?).map (·.type)=some 314:=by kernel_rfl
theorem c3C:Tryz.prog.cellsOf 314=12:=by kernel_rfl
theorem c6I:Tryz.prog.cellsOf 3=1:=by kernel_rfl
theorem b7n:Tryz.prog.cellsOf 9=1:=by kernel_rfl
theorem c6Y {W: World} {l: List (String × DataW Unit)} (hM : laidMet Tryz.prog l W) (hS : W.ShapedOpen Tryz.prog) (m1 : ("bookings/calendar.monthDays", Rows.laid_bookings_calendar_monthDays) ∈ l) (m2 : ("internal/strconv.uint64pow10", Rows.laid_internal_strconv_uint64pow10) ∈ l) (m3 : ("bookings/lines.weekdays", Rows.laid_bookings_lines_weekdays) ∈ l) : Env W := by
 have ht : Lib.VarReads Tryz.prog W "bookings/calendar.monthDays" (Lib.tabData .i64 [31, 28, 31, 30, 31, 30, 31, 31, 30, 31, 30, 31]) := Lib.laidMet.reads hM (d := Rows.laid_bookings_calendar_monthDays) m1;have hp : Lib.VarReads Tryz.prog W "internal/strconv.uint64pow10" (Lib.tabData .u64 Lib.pow10Tab) := Lib.laidMet.reads hM (d := Rows.laid_internal_strconv_uint64pow10) m2;have hd : Lib.VarReads Tryz.prog W "bookings/lines.weekdays" (.agg ([[109, 111], [116, 117], [119, 101], [116, 104], [102, 114], [115, 97], [115, 117]].map fun z => .lit (.string z))) := Lib.laidMet.reads hM (d := Rows.laid_bookings_lines_weekdays) m3;have day:=fun i z hz=>b9t c6X c0J Tryz.underlying352 Tryz.underlying9 b7n hd i z hz
 have tb:=b2G b8z c3g Tryz.underlying314 Tryz.underlying3 c6I c3C ht
 have hsz:10<=W.heap.size:=by
  have h0:(((begin Tryz.prog (fun _ _=>0) default).world.heap[9]?).bind Obj.row?).isSome=true:=by kernel_rfl
  obtain⟨⟨zero,t⟩,h1⟩:=Option.isSome_iff_exists.1 h0;obtain⟨cs,hh,_⟩:=hS.1 9 zero t (of_decide_eq_true (by kernel_rfl)) h1;exact (Array.getElem?_eq_some_iff.1 hh).1
 exact⟨⟨tb.cell b8z 0 (by decide),tb.cell b8z 1 (by decide),tb.cell b8z 2 (by decide),tb.cell b8z 3 (by decide),tb.cell b8z 4 (by decide),tb.cell b8z 5 (by decide),tb.cell b8z 6 (by decide),tb.cell b8z 7 (by decide),tb.cell b8z 8 (by decide),tb.cell b8z 9 (by decide),tb.cell b8z 10 (by decide),tb.cell b8z 11 (by decide)⟩,cell_of_shapedOpen_int (zero:=#[.int .i64 0]) (t:=3) hS (of_decide_eq_true (by kernel_rfl)) (by kernel_rfl) rfl (by kernel_rfl) (by kernel_rfl) Tryz.underlying3,
  b2G c6q c3f Tryz.underlying306 Tryz.underlying265 c3z c3B hp,hsz,
  day 0 _ rfl,day 1 _ rfl,day 2 _ rfl,day 3 _ rfl,day 4 _ rfl,day 5 _ rfl,day 6 _ rfl⟩
end Go.Proofs.YtfigmlfdnickmaaGreatDoor.EnvLaid
namespace Go.Proofs.YtfigmlfdnickmaaGreatDoor
open Go.RowKit
def g4X:List ByteArray:=[a1t,g3A,atW,g1M,b3z,c8M]
def g4f:List ByteArray:=[b0Y,e9O]
def g4d:List ByteArray:=[a8D,e9O,onY]
def g4e:List ByteArray:=[a8w,e9O]
def g5c:List ByteArray:=[b2z,e9O]
def g5b:List ByteArray:=[b5O,g3A]
def g4c:List (List ByteArray):=[g4f,g4d,g4e]
def ends:List (List ByteArray):=[g5c,g5b]
def g4E(H:List ByteArray):List (List ByteArray):=g4c.flatMap fun K=>ends.map fun E=>H++K++g4X++E
def g4M:List ByteArray:=[a7l,c8r,c8Z]
def g4Z:List ByteArray:=[a7M]
def e1B:List (List ByteArray):=[[a3F,c8r,c8Z],[a9P,c8r,c8Z,c7X,c7X],[b5f,c8r,c8Z,c7X,c7X,c8M],[b4k,c8r,c8Z,c7X,c7X,c8M],[a4z,idY],[a6m,idY],[a5Q,c8r],[a5Q,c8r,c7X,c7X],[a5q],[a9a,c8r,c7X,c7X],[b5h,c8r,c8Z,c8M,c7X,c7X],[b4n,c8M],[b1c]]++g4E g4M++g4E g4Z
theorem g1H:g2n=e1B:=by decide +kernel
theorem g1G:∀ p∈e1B,p≠[]:=by decide +kernel
def e7c(k:ByteArray)(p:List ByteArray):Bool:=g2B (p.headD ByteArray.empty) k
theorem e7b(h:isB ws 0 false k=true):∃ t,ws=k :: t:=by
 rw[f5u] at h;obtain⟨_,h1,h2⟩:=d7C h;have e:=f4d h2
 match ws,h1 with
 |a :: t,_=>exact⟨t,by rw[show a=k from e]⟩
theorem e3O{t:List ByteArray}(hw:Txt.a1v s=k :: t):g0V s=scan (e1B.filter (e7c k)) (Txt.a1v s) 0:=by
 unfold g0V;rw[g1H,d8j _ (e7c k) e1B 0];intro p hp hf;have hne:=g1G p hp;refine⟨?_,hne⟩
 match p,hne,hf with
 |a :: p',_,hf =>
  have e:g2B a k=false:=hf;rw[hw,pre,e];rfl
theorem st1(h:isB ws 0 false k=true)(hk:d1Z k=true)(p:List ByteArray):a0M ws (p.map g2B) (1,false)=a0M ws ((k :: p).map g2B) (0,false):=by
 have e:stp ws (g2B k) (0,false)=(1,false):=by
  obtain⟨_,h1,h2⟩:=d7C (f5u ws 0 false k ▸ h);rw[g4I k hk];exact c4A h1 h2
 show _=a0M ws (p.map g2B) (stp ws (g2B k) (0,false));rw[e]
theorem f3r(h:a0M ws (q.map g2B) (0,false)=st):Sum [q] ws st q:=by
 obtain⟨n,b⟩:=st;have hp:=e4b h;have one:∀ p∈[q],p=q:=fun p hp=>List.mem_singleton.1 hp
 refine⟨List.mem_singleton.2 rfl,fun p hp'=>by rw[one p hp'];exact Nat.le_of_eq hp,hp,fun hb p hp' e=>?_,fun hb=>⟨?_,fun p hp' hne=>absurd (one p hp') hne⟩⟩
 ·cases hb
  rw[one p hp'] at e;have:=f6K h;omega
 ·cases hb
  rw[hp];exact f4z h
theorem e8Z:∀ (Q R ws:List ByteArray),pre Q ws<=pre (Q++R) ws
 |[],_,_=>by simp[pre]
 |_ :: _,_,[]=>by simp[pre]
 |s :: Q,R,w :: ws=>by
  have:=e8Z Q R ws;simp only[List.cons_append,pre]
  split <;> omega
theorem f3t(h:a0M ws ([a5Q,c8r].map g2B) (0,false)=st)(hm:a1b ws.length st.1 st.2=false):Sum [[a5Q,c8r],[a5Q,c8r,c7X,c7X]] ws st [a5Q,c8r]:=by
 obtain⟨n,b⟩:=st;have hp:=e4b h;have hl:=(d8p [a5Q,c8r,c7X,c7X] ws).2
 have h2:pre [a5Q,c8r,c7X,c7X] ws<=n:=by
  cases b
  ·have:¬ n<ws.length:=by simpa[a1b] using hm
   omega
  ·exact Nat.le_of_eq (g1F [c7X,c7X] h)
 have hn:n<=2:=by have:=(d8p [a5Q,c8r] ws).1;rw[hp] at this;exact this
 refine⟨by simp,?_,hp,?_,?_⟩
 ·intro p hp';rcases List.mem_cons.1 hp' with rfl|hp'
  ·exact Nat.le_of_eq hp
  ·rw[List.mem_singleton.1 hp'];exact h2
 ·intro hb p hp' e
  cases hb
  have hbad:n<2:=f6K h;rcases List.mem_cons.1 hp' with rfl|hp'
  ·rw[hp] at e;exact absurd e.1 (by show ¬ n=2;omega)
  ·rw[List.mem_singleton.1 hp'] at e;exact absurd e.1 (by show ¬ _=4;omega)
 ·intro hb
  cases hb
  refine⟨hp.trans (f4z h),fun p hp' hne e=>?_⟩;rcases List.mem_cons.1 hp' with rfl|hp'
  ·exact hne rfl
  ·rw[List.mem_singleton.1 hp'] at e;exact absurd e.1 (by show ¬ _=4;omega)
theorem f3s{st':Nat × Bool}(h:a0M ws ([a5Q,c8r].map g2B) (0,false)=st)(hm:a1b ws.length st.1 st.2=true)(h':a0M ws ([a5Q,c8r,c7X,c7X].map g2B) (0,false)=st'):Sum [[a5Q,c8r],[a5Q,c8r,c7X,c7X]] ws st' [a5Q,c8r,c7X,c7X]:=by
 obtain⟨n,b⟩:=st;obtain⟨n',b'⟩:=st';have hp:=e4b h;have hp':=e4b h';have hlt:=a4q hm;have hmono:pre [a5Q,c8r] ws<=pre [a5Q,c8r,c7X,c7X] ws:=e8Z [a5Q,c8r] [c7X,c7X] ws;refine⟨by simp,?_,hp',?_,?_⟩
 ·intro p hq;rcases List.mem_cons.1 hq with rfl|hq
  ·show _<=n';omega
  ·rw[List.mem_singleton.1 hq];exact Nat.le_of_eq hp'
 ·intro hb p hq e
  cases hb
  have hbad:n'<4:=f6K h';rcases List.mem_cons.1 hq with rfl|hq
  ·have:n<ws.length:=hlt;omega
  ·rw[List.mem_singleton.1 hq] at e;have e1:pre [a5Q,c8r,c7X,c7X] ws=4:=e.1;omega
 ·intro hb
  cases hb
  refine⟨hp'.trans (f4z h'),fun p hq hne e=>?_⟩;rcases List.mem_cons.1 hq with rfl|hq
  ·have:n<ws.length:=hlt;omega
  ·exact hne (List.mem_singleton.1 hq)
theorem f8X(h:p∈g4E H):∃ K∈g4c,∃ E∈ends,p=H++K++g4X++E:=by
 unfold g4E at h;simp only[List.mem_flatMap,List.mem_map] at h;obtain⟨K,hK,E,hE,rfl⟩:=h;exact⟨K,hK,E,hE,rfl⟩
theorem g0e(hK:K∈g4c)(hE:E∈ends):H++K++g4X++E∈g4E H:=by
 unfold g4E;simp only[List.mem_flatMap,List.mem_map];exact⟨K,hK,E,hE,rfl⟩
theorem g7V(h:K∈g4c):∃ K',K=K.headD ByteArray.empty :: K':=by
 simp only[g4c,List.mem_cons,List.not_mem_nil,or_false] at h;rcases h with rfl|rfl|rfl
 ·exact⟨[e9O],rfl⟩
 ·exact⟨[e9O,onY],rfl⟩
 ·exact⟨[e9O],rfl⟩
theorem h1W(h:E∈ends):∃ E',E=E.headD ByteArray.empty :: E':=by
 simp only[ends,List.mem_cons,List.not_mem_nil,or_false] at h;rcases h with rfl|rfl
 ·exact⟨[e9O],rfl⟩
 ·exact⟨[g3A],rfl⟩
theorem f9L(hK:K∈g4c)(hn:a0M ws (H.map g2B) (0,false)=(n,false))(hk:tkB ws n false (g2B (K.headD ByteArray.empty))=false):pre (H++K++g4X++E) ws=n/\n<(H++K++g4X++E).length:=by
 obtain⟨K',e⟩:=g7V hK;have hl:=f4z hn
 have e2:H++K++g4X++E=H++K.headD ByteArray.empty :: (K'++g4X++E):=by
  conv=>lhs;rw[e]
  simp
 rw[e2];exact⟨g7L _ hn hk,by simp;omega⟩
theorem g8d(hE:E∈ends)(hn:a0M ws (Q.map g2B) (0,false)=(n,false))(hk:tkB ws n false (g2B (E.headD ByteArray.empty))=false):pre (Q++E) ws=n/\n<(Q++E).length:=by
 obtain⟨E',e⟩:=h1W hE;have hl:=f4z hn;rw[e];exact⟨g7L _ hn hk,by simp;omega⟩
theorem h5P(hn:a0M ws (Q.map g2B) (0,false)=(n,true)):pre (Q++E) ws=n/\n<(Q++E).length:=by
 have:=f6K hn;exact⟨g1F _ hn,by simp;omega⟩
theorem g1P(hK:K∈g4c)(hE:E∈ends)(hn:a0M ws (H.map g2B) (0,false)=(n,false))
  (hk:∀ K2∈g4c,K2≠K->tkB ws n false (g2B (K2.headD ByteArray.empty))=false) (hm:a0M ws ((H++K++g4X).map g2B) (0,false)=(m,false))
  (he:∀ E2∈ends,E2≠E->tkB ws m false (g2B (E2.headD ByteArray.empty))=false) (hst:a0M ws ((H++K++g4X++E).map g2B) (0,false)=st):Sum (g4E H) ws st (H++K++g4X++E):=by
 obtain⟨l,b⟩:=st;have hp:=e4b hst
 have hn1:n<=l:=by
  have h1:=e8Z H (K++g4X++E) ws;rw[e4b hn,<- List.append_assoc,<- List.append_assoc,hp] at h1;exact h1
 have hm1:m<=l:=by
  have h1:=e8Z (H++K++g4X) E ws;rw[e4b hm,hp] at h1;exact h1
 have key:∀ p∈g4E H,p=H++K++g4X++E\/(pre p ws<=l/\pre p ws<p.length):=by
  intro p hp';obtain⟨K2,hK2,E2,hE2,rfl⟩:=f8X hp'
  by_cases e1:K2=K
  ·subst e1
   by_cases e2:E2=E
   ·subst e2;exact .inl rfl
   ·obtain⟨q1,q2⟩:=g8d hE2 hm (he E2 hE2 e2);exact .inr ⟨by omega,by omega⟩
  ·obtain⟨q1,q2⟩:=f9L (E:=E2) hK2 hn (hk K2 hK2 e1);exact .inr ⟨by omega,by omega⟩
 refine⟨g0e hK hE,fun p hp'=>?_,hp,fun hb p hp' e=>?_,fun hb=>⟨?_,fun p hp' hne e=>?_⟩⟩
 ·rcases key p hp' with rfl|h
  ·exact Nat.le_of_eq hp
  ·exact h.1
 ·cases hb
  have hbad:=f6K hst;rcases key p hp' with rfl|h
  ·omega
  ·omega
 ·cases hb;exact hp.trans (f4z hst)
 ·rcases key p hp' with h|h
  ·exact hne h
  ·omega
theorem g7g(hK:K∈g4c)(hn:a0M ws (H.map g2B) (0,false)=(n,false))
  (hk:∀ K2∈g4c,K2≠K->tkB ws n false (g2B (K2.headD ByteArray.empty))=false) (hm:a0M ws ((H++K++g4X).map g2B) (0,false)=(m,b))
  (he:∀ E2∈ends,tkB ws m b (g2B (E2.headD ByteArray.empty))=false):Sum (g4E H) ws (m,true) (H++K++g4X++g5c):=by
 have hE:g5c∈ends:=by simp[ends]
 have hn1:n<=m:=by
  have h1:=e8Z H (K++g4X) ws;rw[e4b hn,<- List.append_assoc,e4b hm] at h1;exact h1
 have same:∀ E2∈ends,pre (H++K++g4X++E2) ws=m/\m<(H++K++g4X++E2).length:=by
  intro E2 hE2
  cases b
  ·exact g8d hE2 hm (he E2 hE2)
  ·exact h5P hm
 have key:∀ p∈g4E H,pre p ws<=m/\pre p ws<p.length:=by
  intro p hp';obtain⟨K2,hK2,E2,hE2,rfl⟩:=f8X hp'
  by_cases e1:K2=K
  ·subst e1;obtain⟨q1,q2⟩:=same E2 hE2;exact⟨by omega,by omega⟩
  ·obtain⟨q1,q2⟩:=f9L (E:=E2) hK2 hn (hk K2 hK2 e1);exact⟨by omega,by omega⟩
 exact⟨g0e hK hE,fun p hp'=>(key p hp').1,(same g5c hE).1,fun _ p hp' e=>by have:=key p hp';omega,fun hb=>absurd hb (by simp)⟩
theorem g5k(hn:a0M ws (H.map g2B) (0,false)=(n,b))
  (hk:∀ K2∈g4c,tkB ws n b (g2B (K2.headD ByteArray.empty))=false):Sum (g4E H) ws (n,true) (H++g4f++g4X++g5c):=by
 have hK:g4f∈g4c:=by simp[g4c]
 have hE:g5c∈ends:=by simp[ends]
 have same:∀ K2∈g4c,∀ E2:List ByteArray,pre (H++K2++g4X++E2) ws=n/\n<(H++K2++g4X++E2).length:=by
  intro K2 hK2 E2
  cases b
  ·exact f9L hK2 hn (hk K2 hK2)
  ·have h1:=h5P (E:=K2++g4X++E2) hn;rw[<- List.append_assoc,<- List.append_assoc] at h1;exact h1
 have key:∀ p∈g4E H,pre p ws<=n/\pre p ws<p.length:=by
  intro p hp';obtain⟨K2,hK2,E2,_,rfl⟩:=f8X hp';obtain⟨q1,q2⟩:=same K2 hK2 E2;exact⟨by omega,by omega⟩
 exact⟨g0e hK hE,fun p hp'=>(key p hp').1,(same g4f hK g5c).1,fun _ p hp' e=>by have:=key p hp';omega,fun hb=>absurd hb (by simp)⟩
end Go.Proofs.YtfigmlfdnickmaaGreatDoor
