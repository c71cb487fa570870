import Derived.Test.YtfigmlfdnickmaaGreatDoorL15
import Derived.Test.YtfigmlfdnickmaaGreatDoorRows
import Derived.Test.YtfigmlfdnickmaaGreatDoorCards
import Derived.Test.YtfigmlfdnickmaaGreatDoorTie
import Derived.WalkKit
import Derived.ProofKit
import Derived.Deep.DeepWitnessRowRef
import Derived.LaidLaws
import Derived.OpenShut
import Derived.Deep.Slices
import Derived.Deep.DeepHandedRow
import Derived.Lib.LaidTab
import Derived.Lib.LaidU8
import Derived.Shelf.Vars
set_option maxRecDepth 100000
set_option maxHeartbeats 8000000
variable{k s sym x:ByteArray}{B:ByteArray->Bool}{a b:Int}{L:List (Int × Int)}{ps:List (List ByteArray)}{Q R p q ws:List ByteArray}{g n:Nat}{st:Nat × Bool}{v:Go.Value}{W w w':Go.World}
namespace Go.Proofs.YtfigmlfdnickmaaGreatDoor
open Go.RowKit
def g0v(w:ByteArray):ByteArray:=match Txt.onW w with|some acc=>onT acc|none=>⟨#[]⟩
def wrS(sym w:ByteArray):ByteArray :=
 if sym.toList==[85,78,73,84,83] then Txt.a0x (b4g w 1 7) else
 if sym.toList==[77,73,78,85,84,69,83] then Txt.a0x (b4g w 1 7) else
 if sym.toList==[69,86,69,82,89] then Txt.a0x (b4g w 1 7) else
 if sym.toList==[73,68] then Txt.a0x (b4g w 1 7) else
 if sym.toList==[84,73,77,69] then c8H (g2T w) else
 if sym.toList==[79,78] then g0v w else w
theorem f4U(w:ByteArray):-1<=b4g w 1 7/\b4g w 1 7<=9999999:=by
 rw[d5I];have:=Txt.a2B w.data.toList
 split <;> omega
theorem f3j(w:ByteArray):-1<=g2T w/\g2T w<=1048320:=by
 unfold g2T
 split
 ·rename_i h
  unfold a0n at h;simp only[Bool.and_eq_true,decide_eq_true_eq] at h;omega
 ·omega
theorem f1n(n:Int)(w:World)(h0:-738885<=n)(h1:n<=2913173):
  Calls Tryz.prog 73 #[.int .i64 n] w fun e w'=>e=.returned (.tuple #[.int .i64 (Cal.yT n),.int .i64 (Cal.mT n),.int .i64 (Cal.dT n),.int .i64 0])/\w'=w:=by
 refine (e6D n w (by omega) (by omega)).mono ?_;rintro e w' ⟨⟨h,_⟩|⟨_,y,m,d,rfl,hok,hnum⟩,rfl⟩
 ·omega
 ·obtain⟨rfl,rfl,rfl⟩:=Cal.c4g y m d n hok hnum;exact⟨rfl,rfl⟩
theorem f3i(t:Int):Txt.b8V (Cal.yT (t / 1440)) 4++⟨#[45]⟩++Txt.b8V (Cal.mT (t / 1440)) 2++⟨#[45]⟩++Txt.b8V (Cal.dT (t / 1440)) 2++⟨#[47]⟩++Txt.b8V (t % 1440 / 60) 2++⟨#[58]⟩++Txt.b8V (t % 60) 2=c8H t:=by
 unfold c8H d0L f4t d8f;rw[show t % 1440 % 60=t % 60 from by omega];simp only[f6R]
theorem d2K(sym w:ByteArray)(W:World)(he:Env W)(hs:w.size<=160)
  (hc:(sym.toList==[85,78,73,84,83])=true\/((sym.toList==[85,78,73,84,83])=false/\(sym.toList==[77,73,78,85,84,69,83])=true)\/((sym.toList==[85,78,73,84,83])=false/\(sym.toList==[77,73,78,85,84,69,83])=false/\(sym.toList==[69,86,69,82,89])=true)\/((sym.toList==[85,78,73,84,83])=false/\(sym.toList==[77,73,78,85,84,69,83])=false/\(sym.toList==[69,86,69,82,89])=false/\(sym.toList==[73,68])=true)):
  Calls Tryz.prog 79 #[.string sym,.string w] W fun e w'=>e=.returned (.string (Txt.a0x (b4g w 1 7)))/\Below W.heap.size W w':=by
 have HE:=hide he;have nb:=f4U w;clear he;rcases hc with c0|⟨c0,c1⟩|⟨c0,c1,c2⟩|⟨c0,c1,c2,c3⟩
 all_goals
  go_enter Tryz.func79,Tryz.ntmps79
  go_wp2_with fail
  refine (b0E w 1 7 W hs (by omega) (by omega)).mono ?_;rintro e w1 ⟨rfl,hb1⟩
  go_wp2_with fail
  refine (c2Y _ w1 ((a0d HE).later hb1) (by omega) (by omega)).mono ?_;rintro e w2 ⟨rfl,hb2⟩;have hbb:=hb1.trans (hb2.mono hb1.size);go_wp2;go_ret;exact⟨rfl,hbb⟩
theorem e1h(sym w:ByteArray)(W:World)
  (c0:(sym.toList==[85,78,73,84,83])=false) (c1:(sym.toList==[77,73,78,85,84,69,83])=false) (c2:(sym.toList==[69,86,69,82,89])=false) (c3:(sym.toList==[73,68])=false) (c4:(sym.toList==[84,73,77,69])=false) (c5:(sym.toList==[79,78])=false):
  Calls Tryz.prog 79 #[.string sym,.string w] W fun e w'=>e=.returned (.string w)/\w'=W:=by
 go_enter Tryz.func79,Tryz.ntmps79
 go_wp2;go_ret;exact⟨rfl,rfl⟩
theorem e2Z(sym w:ByteArray)(W:World)(he:Env W)(hs:w.size<=160)(ht:0<=g2T w)
  (c0:(sym.toList==[85,78,73,84,83])=false) (c1:(sym.toList==[77,73,78,85,84,69,83])=false) (c2:(sym.toList==[69,86,69,82,89])=false) (c3:(sym.toList==[73,68])=false) (c4:(sym.toList==[84,73,77,69])=true):
  Calls Tryz.prog 79 #[.string sym,.string w] W fun e w'=>e=.returned (.string (c8H (g2T w)))/\Below W.heap.size W w':=by
 have HE:=hide he;have tb:=f3j w;have HT:=hide (f3i (g2T w));obtain⟨t,htt⟩:∃ t,t=g2T w:=⟨_,rfl⟩;rw[<- htt] at ht tb HT ⊢;have HTT:=hide htt;clear he htt;have ⟨hok,_⟩:=Cal.c6G (t / 1440) (by omega) (by omega);obtain⟨y1,y2,m1,m2,d1,d2⟩:=(Cal.a2K _ _ _).1 hok;have db:=Cal.b3I (Cal.yT (t / 1440)) (Cal.mT (t / 1440));have z1:=Txt.d1q (Cal.yT (t / 1440)) 4 (by omega) (by omega);have z2:=Txt.d1q (Cal.mT (t / 1440)) 2 (by omega) (by omega);have z3:=Txt.d1q (Cal.dT (t / 1440)) 2 (by omega) (by omega);have z4:=Txt.d1q (t % 1440 / 60) 2 (by omega) (by omega);have z5:=Txt.d1q (t % 60) 2 (by omega) (by omega);clear hok
 go_enter Tryz.func79,Tryz.ntmps79
 go_wp2_with fail
 refine (d0T w W hs).mono ?_;rintro e w1 ⟨rfl,hb1⟩;rw[<- a0d HTT]
 go_wp2_with fail
 refine (f1n (t / 1440) w1 (by omega) (by omega)).mono ?_;rintro e w2 ⟨rfl,rfl⟩;have e1:=hide ((a0d HE).later hb1)
 go_wp2_with fail
 refine (g2o _ 4 _ (a0d e1) (by omega) (by omega) (by omega)).mono ?_;rintro e w3 ⟨rfl,hb3⟩;have e3:=hide ((a0d e1).later hb3)
 go_wp2_with fail
 refine (g2o _ 2 _ (a0d e3) (by omega) (by omega) (by omega)).mono ?_;rintro e w4 ⟨rfl,hb4⟩;have e4:=hide ((a0d e3).later hb4)
 go_wp2_with fail
 refine (g2o _ 2 _ (a0d e4) (by omega) (by omega) (by omega)).mono ?_;rintro e w5 ⟨rfl,hb5⟩;have e5:=hide ((a0d e4).later hb5)
 go_wp2_with fail
 refine (g2o _ 2 _ (a0d e5) (by omega) (by omega) (by omega)).mono ?_;rintro e w6 ⟨rfl,hb6⟩;have e6:=hide ((a0d e5).later hb6)
 go_wp2_with fail
 refine (g2o _ 2 _ (a0d e6) (by omega) (by omega) (by omega)).mono ?_;rintro e w7 ⟨rfl,hb7⟩;have k1:=hb1.trans (hb3.mono hb1.size);have k2:=k1.trans (hb4.mono k1.size);have k3:=k2.trans (hb5.mono k2.size);have k4:=k3.trans (hb6.mono k3.size);have k5:=k4.trans (hb7.mono k4.size);go_wp2;go_ret;exact⟨f2O (a0d HT),k5⟩
theorem f8I(k:Nat)(h:k<7):[Value.string ⟨#[109,111]⟩,Value.string ⟨#[116,117]⟩,Value.string ⟨#[119,101]⟩,Value.string ⟨#[116,104]⟩,Value.string ⟨#[102,114]⟩,Value.string ⟨#[115,97]⟩,Value.string ⟨#[115,117]⟩][k]?=some (.string (e0s k)):=by
 rcases (show k=0\/k=1\/k=2\/k=3\/k=4\/k=5\/k=6 by omega) with rfl|rfl|rfl|rfl|rfl|rfl|rfl <;> rfl
theorem DS.nat{b:Nat}{acc:List Int}(h:DS w b acc)(k:Nat)(hk:k<7):w.cell? ⟨b,k,none⟩=some (.bool (isd acc k)):=by
 have:=h.at k (by omega) (by omega)
 simpa using this
theorem f0w(sym w:ByteArray)(W:World)(hs:w.size<=160)(ho:Txt.onB w=true)
  (c0:(sym.toList==[85,78,73,84,83])=false) (c1:(sym.toList==[77,73,78,85,84,69,83])=false) (c2:(sym.toList==[69,86,69,82,89])=false) (c3:(sym.toList==[73,68])=false) (c4:(sym.toList==[84,73,77,69])=false) (c5:(sym.toList==[79,78])=true):
  Calls Tryz.prog 79 #[.string sym,.string w] W fun e w'=>e=.returned (.string (g0v w))/\Below W.heap.size W w':=by
 go_enter Tryz.func79,Tryz.ntmps79
 go_wp2_with fail
 refine (g0u w W hs).mono ?_;rintro e w1 ⟨⟨acc,rfl,hacc⟩,hb1⟩;have HA:=hide (hacc ho);have HS:=hide (g1e (a0d HA));have HW:Hid (g0v w=onT acc):=by show g0v w=_;unfold g0v;rw[a0d HA]
 clear hacc;unfold a3E;go_wp2;obtain⟨X,hX⟩:∃ X,X=w1.alloc (.cells #[.bool (isd acc 0),.bool (isd acc 1),.bool (isd acc 2),.bool (isd acc 3),.bool (isd acc 4),.bool (isd acc 5),.bool (isd acc 6)] 159):=⟨_,rfl⟩;rw[<- hX];have hbX:Below W.heap.size W X:=by rw[hX];exact hb1.alloc hb1.size _
 have dX:DS X w1.heap.size acc:=by
  rw[hX];refine⟨?_,?_,?_,?_,?_,?_,?_,fun j=>?_⟩ <;> simp
 have hsz:w1.heap.size+1=X.heap.size:=by rw[hX];simp
 clear hX
 go_loopw [12,13] (fun o i wx=>∃ k:Nat,k<=7/\i=.int .i64 k/\o=.string (d5A acc k)/\DS wx w1.heap.size acc/\Below W.heap.size W wx) (fun _ i _=>7-(intOf i).toNat)
 case atStart=>exact⟨0,by omega,rfl,rfl,dX,hbX⟩
 case round =>
  obtain⟨k,hk,rfl,rfl,dk,hbk⟩:=hrel;have oz:=e0W acc k
  by_cases hlt:k<7
  ·have hi:(k:Int)<7:=by omega
   have hi0:(0:Int)<=(k:Int):=Int.natCast_nonneg _;have hc:=dk.nat k hlt;have hl:([Value.string ⟨#[109,111]⟩,Value.string ⟨#[116,117]⟩,Value.string ⟨#[119,101]⟩,Value.string ⟨#[116,104]⟩,Value.string ⟨#[102,114]⟩,Value.string ⟨#[115,97]⟩,Value.string ⟨#[115,117]⟩][k]'hlt)=.string (e0s k):=Option.some.inj ((List.getElem?_eq_getElem hlt).symm.trans (f8I k hlt));have nz:=e4d k;have nz':(e0s k).size<=2:=by omega
   clear nz;have hstep:d5A acc (k+1)=if isd acc k then d5A acc k++⟨#[44]⟩++e0s k else d5A acc k:=rfl
   have HST:=hide hstep;clear hstep
   cases hm:isd acc k
   ·rw[hm] at hc;have HS2:Hid (d5A acc (k+1)=d5A acc k):=(a0d HST).trans (by rw[hm];rfl);go_wp2;exact⟨⟨k+1,by omega,by go_num,by rw[HS2.out],dk,hbk⟩,by simp[intOf];omega⟩
   ·rw[hm] at hc;have HS2:Hid (d5A acc (k+1)=d5A acc k++⟨#[44]⟩++e0s k):=(a0d HST).trans (by rw[hm];rfl);go_wp2;exact⟨⟨k+1,by omega,by go_num,by rw[HS2.out],dk.later ((zr _ _).alloc (zq _) _),hbk.alloc hbk.size _⟩,by simp[intOf];omega⟩
  ·obtain rfl:k=7:=by omega
   have h1:(1:Int)<=((d5A acc 7).size:Int):=by have:=a0d HS;omega
   go_wp2;go_ret;exact⟨f2O (by rw[HW.out];rfl),hbk⟩
theorem g0N{w:ByteArray}(c0:(sym.toList==[85,78,73,84,83])=false)(c1:(sym.toList==[77,73,78,85,84,69,83])=false)(c2:(sym.toList==[69,86,69,82,89])=false)(c3:(sym.toList==[73,68])=false)(c4:(sym.toList==[84,73,77,69])=false)(c5:(sym.toList==[79,78])=false):wrS sym w=w:=by
 simp[wrS,c0,c1,c2,c3,c4,c5]
theorem e9J{w:ByteArray}(h:(sym.toList==[84,73,77,69])=true)(hf:g2B sym w=true):0<=g2T w:=by
 have e:=beq_iff_eq.1 h;unfold g2B at hf;rw[e] at hf
 simpa using hf
theorem g3v{w:ByteArray}(h:(sym.toList==[79,78])=true)(hf:g2B sym w=true):Txt.onB w=true:=by
 have e:=beq_iff_eq.1 h;unfold g2B at hf;rw[e] at hf
 simpa using hf
theorem d7P(sym w:ByteArray)(W:World)(he:Env W)(hs:w.size<=160)(hf:g2B sym w=true):
  Calls Tryz.prog 79 #[.string sym,.string w] W fun e w'=>e=.returned (.string (wrS sym w))/\Below W.heap.size W w':=by
 cases c0:(sym.toList==[85,78,73,84,83])
 case true =>
  rw[show wrS sym w=Txt.a0x (b4g w 1 7) from by simp[wrS,c0]];exact d2K sym w W he hs (.inl c0)
 cases c1:(sym.toList==[77,73,78,85,84,69,83])
 case true =>
  rw[show wrS sym w=Txt.a0x (b4g w 1 7) from by simp[wrS,c0,c1]];exact d2K sym w W he hs (.inr (.inl ⟨c0,c1⟩))
 cases c2:(sym.toList==[69,86,69,82,89])
 case true =>
  rw[show wrS sym w=Txt.a0x (b4g w 1 7) from by simp[wrS,c0,c1,c2]];exact d2K sym w W he hs (.inr (.inr (.inl ⟨c0,c1,c2⟩)))
 cases c3:(sym.toList==[73,68])
 case true =>
  rw[show wrS sym w=Txt.a0x (b4g w 1 7) from by simp[wrS,c0,c1,c2,c3]];exact d2K sym w W he hs (.inr (.inr (.inr ⟨c0,c1,c2,c3⟩)))
 cases c4:(sym.toList==[84,73,77,69])
 case true =>
  rw[show wrS sym w=c8H (g2T w) from by simp[wrS,c0,c1,c2,c3,c4]];exact e2Z sym w W he hs (e9J c4 hf) c0 c1 c2 c3 c4
 cases c5:(sym.toList==[79,78])
 case true =>
  rw[show wrS sym w=g0v w from by simp[wrS,c0,c1,c2,c3,c4,c5]];exact f0w sym w W hs (g3v c5 hf) c0 c1 c2 c3 c4 c5
 rw[g0N c0 c1 c2 c3 c4 c5];refine (e1h sym w W c0 c1 c2 c3 c4 c5).mono ?_;rintro e w' ⟨rfl,rfl⟩;exact⟨rfl,Below.refl _ _⟩
open Desk (Ent)
structure NV(w:World)(v:Value)(l:List Int):Prop where
 form:∃ a cap,v=.slice a l.length cap
 cell:∀ (k:Nat) (hk:k<l.length),∃ g cap,v=.slice (some ⟨g,0,none⟩) l.length cap/\w.cell? ⟨g,k,none⟩=some (.int .i64 l[k])
theorem NV.later{l:List Int}(h:NV w v l)(k:Below w.heap.size w w'):NV w' v l :=
 ⟨h.form,fun i hi=>by
  obtain⟨g,cap,e,a⟩:=h.cell i hi
  exact⟨g,cap,e,a0a k a⟩⟩
structure SV(w:World)(v:Value)(L:List (Int × Int)):Prop where
 form:∃ a cap,v=.slice a L.length cap
 cell:∀ (k:Nat) (hk:k<L.length),∃ g cap,v=.slice (some ⟨g,0,none⟩) L.length cap/\w.cell? ⟨g,k*2,none⟩=some (.int .i64 L[k].1)/\w.cell? ⟨g,k*2+1,none⟩=some (.int .i64 L[k].2)
theorem SV.later(h:SV w v L)(k:Below w.heap.size w w'):SV w' v L :=
 ⟨h.form,fun i hi=>by
  obtain⟨g,cap,e,a,b⟩:=h.cell i hi
  exact⟨g,cap,e,a0a k a,a0a k b⟩⟩
structure EV(w:World)(v:Value)(l:List (Ent × Value)):Prop where
 form:∃ a cap,v=.slice a l.length cap
 cell:∀ (k:Nat) (hk:k<l.length),∃ g cap,v=.slice (some ⟨g,0,none⟩) l.length cap/\w.cell? ⟨g,k*6,none⟩=some (.int .i64 l[k].1.id)/\w.cell? ⟨g,k*6+1,none⟩=some (.int .i64 l[k].1.kind)/\w.cell? ⟨g,k*6+2,none⟩=some (.string l[k].1.a0k)/\w.cell? ⟨g,k*6+3,none⟩=some (.int .i64 l[k].1.a0c)/\w.cell? ⟨g,k*6+4,none⟩=some l[k].2/\w.cell? ⟨g,k*6+5,none⟩=some (.int .i64 l[k].1.a0Z)
 sp:∀ p∈l,SV w p.2 p.1.a0e
theorem EV.later{l:List (Ent × Value)}(h:EV w v l)(k:Below w.heap.size w w'):EV w' v l :=
 ⟨h.form,fun i hi=>by
  obtain⟨g,cap,e,a0,a1,a2,a3,a4,a5⟩:=h.cell i hi
  exact⟨g,cap,e,a0a k a0,a0a k a1,a0a k a2,a0a k a3,a0a k a4,a0a k a5⟩,fun p hp=>(h.sp p hp).later k⟩
namespace Desk
theorem b3t{a b:Int}{x:Ent}:∀ l:List Ent,(c0F a b x l).Perm (x :: l)
 |[]=>by simp[c0F]
 |y :: r=>by
  simp only[c0F]
  split
  ·exact List.Perm.refl _
  ·exact ((b3t r).cons y).trans (List.Perm.swap x y r)
theorem a3Y{a b:Int}:∀ l:List Ent,(b2J a b l).Perm l
 |[]=>List.Perm.refl _
 |x :: r=>(b3t _).trans ((a3Y r).cons x)
end Desk
open Desk (Ent a0r hasB)
theorem SV.own{B:Nat}(h:w.ownsRow B 60 2 v L.length (L.flatMap spV)):SV w v L:=by
 refine⟨a0B h,fun k hk=>?_⟩;obtain⟨g,cap,e⟩:=Joins.ownsRow_form h (by omega);subst e;obtain⟨f1,f2⟩:=b3B k hk;have hl:=b0S L;have a0:=h.cellAt (k*2) (by omega);have a1:=h.cellAt (k*2+1) (by omega);rw[f1] at a0;rw[f2] at a1;exact⟨g,cap,rfl,a0,a1⟩
theorem EV.own{B:Nat}{l:List (Ent × Value)}(h:w.ownsRow B 58 6 v l.length (l.flatMap a1f))(sp:∀ p∈l,SV w p.2 p.1.a0e):EV w v l:=by
 refine⟨a0B h,fun k hk=>?_,sp⟩;obtain⟨g,cap,e⟩:=Joins.ownsRow_form h (by omega);subst e
 have at_:∀ j,j<6->w.cell? ⟨g,k*6+j,none⟩=(a1f l[k])[j]?:=fun j hj=>by
  have a0:=h.cellAt (k*6+j) (by omega);rw[a3M hk hj] at a0;exact a0
 exact⟨g,cap,rfl,at_ 0 (by omega),at_ 1 (by omega),at_ 2 (by omega),at_ 3 (by omega),at_ 4 (by omega),at_ 5 (by omega)⟩
namespace Desk
end Desk
namespace Desk
end Desk
namespace Desk
end Desk
open Desk (Ent St Ids kept a0C a0Q a1C a2e ofB a0y a2c Mid a1H a0z Inv a0h a2x a1q Rep)
def e0k(p ws:List ByteArray):Nat->ByteArray
 |0=>⟨#[]⟩
 |k+1=>(if 0<k then e0k p ws k++⟨#[32]⟩ else e0k p ws k)++wrS (p.getD k ⟨#[]⟩) (ws.getD k ⟨#[]⟩)
theorem f1I(n:Int)(h0:-1<=n)(h:n<=9999999):(Txt.a0x n).size<=160:=by
 by_cases e:n=-1
 ·subst e;decide +kernel
 ·have:=Txt.a0I n (by omega) h;omega
theorem f0H(t:Int)(h0:0<=t)(h1:t<=1048320):(c8H t).size<=160:=by
 have z1:=f1D (t / 1440) (by omega) (by omega);have z2:=f3v (t % 1440) (by omega) (by omega);have e3:(⟨#[47]⟩:ByteArray).size=1:=by decide
 unfold c8H;simp only[ByteArray.size_append];omega
theorem f4w(w:ByteArray):(g0v w).size<=160:=by
 unfold g0v
 split
 ·rename_i acc _
  have:=e0W acc 7;have e:(onT acc).size=min (d5A acc 7).size (d5A acc 7).size-1:=ByteArray.size_extract ..;omega
 ·exact zN _
theorem f2R(sym w:ByteArray)(hs:w.size<=160)(hf:g2B sym w=true):(wrS sym w).size<=160:=by
 have nb:=f4U w;have iz:=f1I (b4g w 1 7) nb.1 nb.2;unfold wrS
 split
 ·exact iz
 ·split
  ·exact iz
  ·split
   ·exact iz
   ·split
    ·exact iz
    ·split
     ·rename_i h;exact f0H _ (e9J h hf) (f3j w).2
     ·split
      ·exact f4w w
      ·exact hs
theorem e3M:∀ (ps:List (List ByteArray))(ws:List ByteArray)(m:Nat)(p:List ByteArray),scan ps ws m=(some p,0)->pre p ws=p.length/\pre p ws=ws.length
 |[],_,_,_,h=>by simp[scan] at h
 |q :: ps,ws,m,p,h=>by
  unfold scan at h
  split at h
  ·rename_i hc;simp at h;subst h;exact hc
  ·exact e3M ps ws _ p h
theorem e4l(p ws:List ByteArray)(hl:pre p ws=p.length)(hl2:pre p ws=ws.length)(hw:∀ x∈ws,x.size<=160):∀ k:Nat,k<=ws.length->(e0k p ws k).size<=161*k
 |0,_=>zq _
 |k+1,hk=>by
  have ih:=e4l p ws hl hl2 hw k (by omega);have hf:=e1z p ws k (by omega) (by omega) (by omega);have e1:p.getD k ⟨#[]⟩=p[k]'(by omega):=by simp[List.getD,show k<p.length by omega]
  have e2:ws.getD k ⟨#[]⟩=ws[k]'(by omega):=by simp[List.getD,show k<ws.length by omega]
  have z:=f2R (p[k]'(by omega)) (ws[k]'(by omega)) (hw _ (zg (by omega))) hf;have e3:(⟨#[32]⟩:ByteArray).size=1:=by decide
  unfold e0k;rw[e1,e2]
  split
  ·simp only[ByteArray.size_append];omega
  ·simp only[ByteArray.size_append];omega
def PR(s:ByteArray)(e:Ending):Prop :=
 (160<s.size/\e=.returned (.tuple #[.string ⟨#[]⟩,.int .i64 1,.int .i64 0])) \/
 (s.size<=160/\((∃ p,g0V s=(some p,0)/\e=.returned (.tuple #[.string (e0k p (Txt.a1v s) (Txt.a1v s).length),.int .i64 0,.int .i64 0])) \/
  (∃ m:Nat,g0V s=(none,m)/\e=.returned (.tuple #[.string ⟨#[]⟩,.int .i64 2,.int .i64 m]))))
theorem d6V(s:ByteArray)(w:World)(hs:160<s.size):
  Calls Tryz.prog 78 #[.string s] w fun e w'=>e=.returned (.tuple #[.slice none 0 0,.slice none 0 0,.int .i64 1,.int .i64 0])/\w'=w:=by
 have hs2:(160:Int)<(s.size:Int):=by omega
 go_enter Tryz.func78,Tryz.ntmps78
 go_wp2
 (try simp only[Exit.inBlock,Exit.then]);refine bodyPost_ret (b2R rfl _ _ _) rfl ?_
 exact⟨rfl,rfl⟩
theorem e3U(s:ByteArray)(w:World)(he:Env w):
  Calls Tryz.prog 55 #[.string s] w fun e w'=>PR s e/\Below w.heap.size w w':=by
 by_cases hs:s.size<=160
 ·have HE:=hide he;clear he
  go_enter Tryz.func55,Tryz.ntmps55
  go_wp2_with fail
  refine (d4Z s w hs).mono ?_;rintro e w1 ⟨hr,hb1⟩;rcases hr with ⟨p,a,b,c,d,g,h,hsc,rfl,ra,rb⟩|⟨m,hsc,rfl⟩
  ·have ⟨l1,l2⟩:=e3M _ _ _ _ hsc;have HSC:=hide hsc;have hws:=d7Q s;have hw:∀ x∈Txt.a1v s,x.size<=160:=fun x hx=>Nat.le_trans (b4i s x hx) hs
   have HOZ:=hide (e4l p (Txt.a1v s) l1 l2 hw);have HW:=hide hw;have L1:=hide l1;have L2:=hide l2;have HPF:=hide (e1z p (Txt.a1v s));clear hsc hw l1 l2;go_wp2
   go_loopw [9,10,11] (fun o i _ wx=>∃ k:Nat,k<=(Txt.a1v s).length/\i=.int .i64 k/\o=.string (e0k p (Txt.a1v s) k)/\Row wx a g (Txt.a1v s)/\Row wx b h p/\Below w.heap.size w wx) (fun _ i _ _=>(Txt.a1v s).length-(intOf i).toNat)
   case atStart=>exact⟨0,Nat.zero_le _,rfl,rfl,ra,rb,hb1⟩
   case round =>
    obtain⟨k,hk,rfl,rfl,rak,rbk,hbk⟩:=hrel;clear ra rb;have oz:=a0d HOZ k hk
    by_cases hlt:k<(Txt.a1v s).length
    ·have hlp:k<p.length:=by have:=a0d L1;have:=a0d L2;omega
     obtain rfl:=rak.at_ (by omega);obtain rfl:=rbk.at_ (by omega);have k1:=rbk.cells k hlp;have k2:=rak.cells k hlt;have j1:(k:Int)<(p.length:Int):=by omega
     have j2:(k:Int)<((Txt.a1v s).length:Int):=by omega
     have j0:(0:Int)<=(k:Int):=Int.natCast_nonneg _;have hsm:(Txt.a1v s)[k].size<=160:=a0d HW _ (zg hlt);have hft:g2B p[k] (Txt.a1v s)[k]=true:=a0d HPF k hlp hlt (by have:=a0d L2;omega);have HSM:=hide hsm;have HFT:=hide hft;have wz:=f2R _ _ hsm hft
     have HST:Hid (e0k p (Txt.a1v s) (k+1)=(if 0<k then e0k p (Txt.a1v s) k++⟨#[32]⟩ else e0k p (Txt.a1v s) k)++wrS p[k] (Txt.a1v s)[k]):=by
      show e0k p (Txt.a1v s) (k+1)=_;rw[e0k,show p.getD k ⟨#[]⟩=p[k] from by simp[List.getD,hlp],show (Txt.a1v s).getD k ⟨#[]⟩=(Txt.a1v s)[k] from by simp[List.getD,hlt]]
     clear hsm hft;have hEk:=hide ((a0d HE).later hbk)
     by_cases hk0:0<k
     ·have j3:(0:Int)<(k:Int):=by omega
      have HS2:Hid (e0k p (Txt.a1v s) (k+1)=e0k p (Txt.a1v s) k++⟨#[32]⟩++wrS p[k] (Txt.a1v s)[k]):=HST.out.trans (by rw[if_pos hk0])
      go_wp2_with fail
      go_region_held3 (fun w'=>w'.cell? ⟨h,k,none⟩=some (.string p[k])/\w'.cell? ⟨g,k,none⟩=some (.string (Txt.a1v s)[k]))
       (first
        |go_keep
        |(
         go_split_ands
         refine⟨?_,?_⟩
         ·exact cell_later hbf (by assumption)
         ·exact cell_later hbf (by assumption)))
       ((go_at_call 79;refine (d7P _ _ _ ?_ (a0d HSM) (a0d HFT)).mono ?_;exact (a0d hEk).later ⟨rfl,rfl,rfl,Nat.le_refl _,fun _ _=>rfl⟩;rintro e w4 ⟨rfl,hbf⟩))
      have hbf':Below wr.heap.size wr w4:=⟨hbf.os,hbf.tape,hbf.output,hbf.size,hbf.block⟩;have hbx4:=hbk.trans (hbf'.mono hbk.size);have ra4:=rak.later hbf';have rb4:=rbk.later hbf';go_wp2;exact⟨⟨k+1,by omega,by go_num,by rw[HS2.out],ra4,rb4,hbx4⟩,by simp[intOf];omega⟩
     ·have j3:¬ (0:Int)<(k:Int):=by omega
      have HS2:Hid (e0k p (Txt.a1v s) (k+1)=e0k p (Txt.a1v s) k++wrS p[k] (Txt.a1v s)[k]):=HST.out.trans (by rw[if_neg hk0])
      go_wp2_with fail
      go_region_held3 (fun w'=>w'.cell? ⟨h,k,none⟩=some (.string p[k])/\w'.cell? ⟨g,k,none⟩=some (.string (Txt.a1v s)[k]))
       (first
        |go_keep
        |(
         go_split_ands
         refine⟨?_,?_⟩
         ·exact cell_later hbf (by assumption)
         ·exact cell_later hbf (by assumption)))
       ((go_at_call 79;refine (d7P _ _ _ ?_ (a0d HSM) (a0d HFT)).mono ?_;exact (a0d hEk).later ⟨rfl,rfl,rfl,Nat.le_refl _,fun _ _=>rfl⟩;rintro e w4 ⟨rfl,hbf⟩))
      have hbf':Below wr.heap.size wr w4:=⟨hbf.os,hbf.tape,hbf.output,hbf.size,hbf.block⟩;have hbx4:=hbk.trans (hbf'.mono hbk.size);have ra4:=rak.later hbf';have rb4:=rbk.later hbf';go_wp2;exact⟨⟨k+1,by omega,by go_num,by rw[HS2.out],ra4,rb4,hbx4⟩,by simp[intOf];omega⟩
    ·obtain rfl:k=(Txt.a1v s).length:=by omega
     go_wp2;go_ret3;exact⟨.inr ⟨hs,.inl ⟨p,a0d HSC,rfl⟩⟩,hbk⟩
  ·have HSC:=hide hsc;clear hsc;go_wp2;go_ret3;exact⟨.inr ⟨hs,.inr ⟨m,a0d HSC,rfl⟩⟩,hb1⟩
 ·go_enter Tryz.func55,Tryz.ntmps55
  go_wp2_with fail
  refine (d6V s w (by omega)).mono ?_;rintro e w1 ⟨rfl,rfl⟩;go_wp2;go_ret3;exact⟨.inl ⟨by omega,rfl⟩,Below.refl _ _⟩
theorem e1r(ws:List ByteArray)(P Q:List (ByteArray->Bool))(st:Nat × Bool):a0M ws (P++Q) st=a0M ws Q (a0M ws P st):=List.foldl_append ..
theorem g1l(ws:List ByteArray)(B:ByteArray->Bool)(n:Nat):stp ws B (n,true)=(n,true):=by simp[stp,tkN,tkW,tkB,a1b]
theorem d4m(ws:List ByteArray):∀ (Bs:List (ByteArray->Bool))(n:Nat),a0M ws Bs (n,true)=(n,true)
 |[],_=>rfl
 |B :: Bs,n=>by
  show a0M ws Bs (stp ws B (n,true))=_;rw[g1l,d4m ws Bs n]
theorem f3F(h:tkB ws n false B=false):stp ws B (n,false)=(n,true):=by
 simp only[stp,tkN,tkW,h,if_false,Bool.false_eq_true]
theorem g0W(h:¬ n<ws.length):tkB ws n false B=false:=by simp[tkB,a1b,h]
theorem g0U(h:B (ws.getD n ByteArray.empty)=false):tkB ws n false B=false:=by simp only[tkB,h,Bool.and_false]
theorem d7C{wr:Bool}(h:tkB ws n wr B=true):wr=false/\n<ws.length/\B (ws.getD n ByteArray.empty)=true:=by
 unfold tkB a1b at h;simp only[Bool.and_eq_true,Bool.not_eq_true',decide_eq_true_eq] at h;exact⟨h.1.1,h.1.2,h.2⟩
theorem e7U(ws:List ByteArray):∀ (p:List ByteArray)(n:Nat),n<=ws.length->a0M ws (p.map g2B) (n,false)=(n+pre p (ws.drop n),decide (pre p (ws.drop n)≠p.length))
 |[],n,_=>by simp[pre,a0M]
 |s :: p,n,hn=>by
  show a0M ws (p.map g2B) (stp ws (g2B s) (n,false))=_
  by_cases hlt:n<ws.length
  ·have hd:ws.drop n=ws[n] :: ws.drop (n+1):=List.drop_eq_getElem_cons hlt;have hg:ws.getD n ByteArray.empty=ws[n]:=a5f ws n hlt
   cases hf:g2B s ws[n]
   ·rw[f3F (g0U (by rw[hg];exact hf)),d4m,hd,pre,hf];simp
   ·rw[c4A hlt (by rw[hg];exact hf),e7U ws p (n+1) hlt,hd,pre,hf];simp only[if_true];refine Prod.ext ?_ ?_
    ·show n+1+_=n+(_+1);omega
    ·simp
  ·rw[f3F (g0W hlt),d4m,List.drop_of_length_le (by omega)];simp[pre]
theorem g1k(ws p:List ByteArray):a0M ws (p.map g2B) (0,false)=(pre p ws,decide (pre p ws≠p.length)):=by
 have:=e7U ws p 0 (zN _)
 simpa using this
theorem e4b{b:Bool}(h:a0M ws (p.map g2B) (0,false)=(n,b)):pre p ws=n:=by
 rw[g1k] at h;exact (Prod.mk.inj h).1
theorem f4z(h:a0M ws (p.map g2B) (0,false)=(n,false)):n=p.length:=by
 rw[g1k] at h;obtain⟨h1,h2⟩:=Prod.mk.inj h;rw[h1] at h2
 by_cases e:n=p.length
 ·exact e
 ·simp[e] at h2
theorem f6K(h:a0M ws (p.map g2B) (0,false)=(n,true)):n<p.length:=by
 have hp:=(d8p p ws).1;rw[g1k] at h;obtain⟨h1,h2⟩:=Prod.mk.inj h;rw[h1] at h2 hp
 by_cases e:n=p.length
 ·simp[e] at h2
 ·omega
theorem g1F(R:List ByteArray)(h:a0M ws (Q.map g2B) (0,false)=(n,true)):pre (Q++R) ws=n:=by
 apply e4b (b:=true);rw[List.map_append,e1r,h,d4m]
theorem f4n(h:a0M ws ((Q++R).map g2B) (0,false)=(n,false)):a0M ws (Q.map g2B) (0,false)=(Q.length,false):=by
 rw[List.map_append,e1r] at h;obtain⟨m,b,hq⟩:∃ m b,a0M ws (Q.map g2B) (0,false)=(m,b):=⟨_,_,rfl⟩
 cases b
 ·rw[hq,f4z hq]
 ·rw[hq,d4m] at h;cases h
theorem e9K(h:a0M ws ((Q++s :: R).map g2B) (0,false)=(n,false)):tkB ws Q.length false (g2B s)=true:=by
 have hq:=f4n h;rw[List.map_append,e1r,hq] at h
 cases ht:tkB ws Q.length false (g2B s)
 ·have:a0M ws (R.map g2B) (stp ws (g2B s) (Q.length,false))=(n,false):=h;rw[f3F ht,d4m] at this
  cases this
 ·rfl
structure Sum(ps:List (List ByteArray))(ws:List ByteArray)(st:Nat × Bool)(q:List ByteArray):Prop where
 mem:q∈ps
 le:∀ p∈ps,pre p ws<=st.1
 at_:pre q ws=st.1
 bad:st.2=true->∀ p∈ps,¬ (pre p ws=p.length/\pre p ws=ws.length)
 e6J:st.2=false->pre q ws=q.length/\∀ p∈ps,p≠q->¬ (pre p ws=p.length/\pre p ws=ws.length)
theorem e3N:∀ (ps:List (List ByteArray))(ws:List ByteArray)(m M:Nat),(∀ p∈ps,¬ (pre p ws=p.length/\pre p ws=ws.length))->(∀ p∈ps,pre p ws<=M)->m<=M->(m=M\/∃ p∈ps,pre p ws=M)->scan ps ws m=(none,M)
 |[],_,m,M,_,_,_,h=>by
  rcases h with rfl|⟨p,hp,_⟩
  ·rfl
  ·simp at hp
 |p :: ps,ws,m,M,h1,h2,h3,h4=>by
  have hp:=h2 p (List.mem_cons_self ..);rw[scan,if_neg (h1 p (List.mem_cons_self ..))];refine e3N ps ws _ M (fun q hq=>h1 q (List.mem_cons_of_mem _ hq)) (fun q hq=>h2 q (List.mem_cons_of_mem _ hq)) (by split <;> omega) ?_;rcases h4 with rfl|⟨q,hq,e⟩
  ·left;rw[if_neg (by omega)]
  ·rcases List.mem_cons.1 hq with rfl|hq
   ·left;split <;> omega
   ·exact .inr ⟨q,hq,e⟩
theorem e8T:∀ (ps:List (List ByteArray))(ws:List ByteArray)(m:Nat)(q:List ByteArray),q∈ps->pre q ws=q.length/\pre q ws=ws.length->(∀ p∈ps,p≠q->¬ (pre p ws=p.length/\pre p ws=ws.length))->scan ps ws m=(some q,0)
 |[],_,_,_,h,_,_=>by simp at h
 |p :: ps,ws,m,q,h,hf,hn=>by
  rw[scan]
  by_cases e:p=q
  ·subst e;rw[if_pos hf]
  ·rw[if_neg (hn p (List.mem_cons_self ..) e)];rcases List.mem_cons.1 h with h|h
   ·exact absurd h.symm e
   ·exact e8T ps ws _ q h hf (fun r hr=>hn r (List.mem_cons_of_mem _ hr))
theorem Sum.yes(h:Sum ps ws st q)(h2:st.2=false)(hm:a1b ws.length st.1 st.2=false):scan ps ws 0=(some q,0):=by
 obtain⟨g1,g2⟩:=h.e6J h2;have hl:¬ st.1<ws.length:=by simpa[a1b,h2] using hm
 have:=(d8p q ws).2;have:=h.at_;exact e8T ps ws 0 q h.mem ⟨g1,by omega⟩ g2
theorem Sum.no(h:Sum ps ws st q)(hb:st.2=true\/a1b ws.length st.1 st.2=true):scan ps ws 0=(none,st.1):=by
 refine e3N ps ws 0 st.1 ?_ h.le (zN _) (.inr ⟨q,h.mem,h.at_⟩);rcases hb with hb|hb
 ·exact h.bad hb
 ·have hl:=a4q hb;intro p hp e;have:=h.le p hp;omega
theorem d8j(ws:List ByteArray)(f:List ByteArray->Bool):∀ (ps:List (List ByteArray))(m:Nat),(∀ p∈ps,f p=false->pre p ws=0/\p≠[])->scan ps ws m=scan (ps.filter f) ws m
 |[],_,_=>rfl
 |p :: ps,m,h=>by
  have ih:=fun m=>d8j ws f ps m (fun q hq=>h q (List.mem_cons_of_mem _ hq))
  cases hf:f p
  ·obtain⟨h0,hne⟩:=h p (List.mem_cons_self ..) hf;rw[List.filter_cons_of_neg (by simp[hf]),scan,h0,if_neg,if_neg (by omega),ih];rintro ⟨e,_⟩;exact hne (List.length_eq_zero_iff.1 e.symm)
  ·rw[List.filter_cons_of_pos hf,scan,scan,ih]
def c8r:ByteArray:=⟨#[78,65,77,69]⟩
def c8Z:ByteArray:=⟨#[85,78,73,84,83]⟩
def c8M:ByteArray:=⟨#[77,73,78,85,84,69,83]⟩
def e9O:ByteArray:=⟨#[69,86,69,82,89]⟩
def idY:ByteArray:=⟨#[73,68]⟩
def c7X:ByteArray:=⟨#[84,73,77,69]⟩
def g3A:ByteArray:=⟨#[68,65,84,69]⟩
def g1M:ByteArray:=⟨#[77,73,78,85,84,69]⟩
def onY:ByteArray:=⟨#[79,78]⟩
theorem e0g(w:ByteArray)(lo hi:Int)(h:0<=lo):g2m w lo hi=a0K w lo hi:=by
 unfold g2m a0K;rw[d5I]
 cases hn:Txt.isNum w.data.toList
 ·simp;omega
 ·simp
theorem d9O:g2B c8r=nmB:=by
 have c0:(c8r.toList==[78,65,77,69])=true:=by decide +kernel
 funext w;unfold g2B;rw[if_pos c0];rfl
theorem f5O:g2B c8Z=unB:=by
 have c0:¬ (c8Z.toList==[78,65,77,69])=true:=by decide +kernel
 have c1:(c8Z.toList==[85,78,73,84,83])=true:=by decide +kernel
 funext w;unfold g2B;rw[if_neg c0,if_pos c1];exact e0g w 1 9 (by omega)
theorem f9f:g2B c8M=miB:=by
 have c0:¬ (c8M.toList==[78,65,77,69])=true:=by decide +kernel
 have c1:¬ (c8M.toList==[85,78,73,84,83])=true:=by decide +kernel
 have c2:(c8M.toList==[77,73,78,85,84,69,83])=true:=by decide +kernel
 funext w;unfold g2B;rw[if_neg c0,if_neg c1,if_pos c2];exact e0g w 1 1048320 (by omega)
theorem g4J:g2B idY=idB:=by
 have c0:¬ (idY.toList==[78,65,77,69])=true:=by decide +kernel
 have c1:¬ (idY.toList==[85,78,73,84,83])=true:=by decide +kernel
 have c2:¬ (idY.toList==[77,73,78,85,84,69,83])=true:=by decide +kernel
 have c3:¬ (idY.toList==[69,86,69,82,89])=true:=by decide +kernel
 have c4:(idY.toList==[73,68])=true:=by decide +kernel
 funext w;unfold g2B;rw[if_neg c0,if_neg c1,if_neg c2,if_neg c3,if_pos c4,d5I]
 have:=Txt.a2B w.data.toList;unfold idB
 cases hn:Txt.isNum w.data.toList
 ·simp
 ·simp;omega
theorem f2N:g2B c7X=a0n:=by
 have c0:¬ (c7X.toList==[78,65,77,69])=true:=by decide +kernel
 have c1:¬ (c7X.toList==[85,78,73,84,83])=true:=by decide +kernel
 have c2:¬ (c7X.toList==[77,73,78,85,84,69,83])=true:=by decide +kernel
 have c3:¬ (c7X.toList==[69,86,69,82,89])=true:=by decide +kernel
 have c4:¬ (c7X.toList==[73,68])=true:=by decide +kernel
 have c5:(c7X.toList==[84,73,77,69])=true:=by decide +kernel
 funext w;unfold g2B;rw[if_neg c0,if_neg c1,if_neg c2,if_neg c3,if_neg c4,if_pos c5]
 unfold g2T
 cases ht:a0n w
 ·simp
 ·unfold a0n at ht;simp only[Bool.and_eq_true,decide_eq_true_eq] at ht;simp;omega
def d1Z(x:ByteArray):Bool:=!(x.toList==[78,65,77,69]) && !(x.toList==[85,78,73,84,83]) && !(x.toList==[77,73,78,85,84,69,83]) && !(x.toList==[69,86,69,82,89]) && !(x.toList==[73,68]) && !(x.toList==[84,73,77,69]) && !(x.toList==[68,65,84,69]) && !(x.toList==[77,73,78,85,84,69]) && !(x.toList==[79,78])
theorem f4g(h:d1Z x=true):(x.toList==[78,65,77,69])=false/\(x.toList==[85,78,73,84,83])=false/\(x.toList==[77,73,78,85,84,69,83])=false/\(x.toList==[69,86,69,82,89])=false/\(x.toList==[73,68])=false/\(x.toList==[84,73,77,69])=false/\(x.toList==[68,65,84,69])=false/\(x.toList==[77,73,78,85,84,69])=false/\(x.toList==[79,78])=false:=by
 unfold d1Z at h;simp only[Bool.and_eq_true,Bool.not_eq_true'] at h;obtain⟨⟨⟨⟨⟨⟨⟨⟨h0,h1⟩,h2⟩,h3⟩,h4⟩,h5⟩,h6⟩,h7⟩,h8⟩:=h;exact⟨h0,h1,h2,h3,h4,h5,h6,h7,h8⟩
theorem g4I(x:ByteArray)(h:d1Z x=true):g2B x=a1s x:=by
 obtain⟨h0,h1,h2,h3,h4,h5,h6,h7,h8⟩:=f4g h
 funext w
 unfold g2B a1s;rw[h0,h1,h2,h3,h4,h5,h6,h7,h8];simp only[Bool.false_eq_true,if_false];exact BEq.comm
theorem f5u(ws:List ByteArray)(n:Nat)(wr:Bool)(x:ByteArray):isB ws n wr x=tkB ws n wr (a1s x):=rfl
theorem f4T{w:ByteArray}(h:Txt.isNum w.data.toList=true):b4g w 1 7=nvF w:=by rw[d5I,if_pos h];rfl
theorem d9V{w:ByteArray}{lo hi:Int}(h:a0K w lo hi=true):Txt.isNum w.data.toList=true/\lo<=nvF w/\nvF w<=hi:=by
 unfold a0K at h;simp only[Bool.and_eq_true,decide_eq_true_eq] at h;exact⟨h.1.1,h.1.2,h.2⟩
theorem g3f{w:ByteArray}(h:nmB w=true):b4S w=w:=if_pos h
theorem f2r(w:World)(he:Env w):Calls Tryz.prog 44 #[] w fun e w'=>∃ p d col,e=.returned (.pointer (some ⟨p,0,none⟩))/\BD w' p d st0 c2z col/\Below w.heap.size w w'/\(∀ b,b<w.heap.size->col b=none)/\w.heap.size<=p:=by
 have DN:=a0b (b5o w);have HE:=a0b he;have hsz:=he.size;clear he
 go_enter Tryz.func44,Tryz.ntmps44
 go_wp2_with (first
  |(go_at_call 60;refine DN.out.mono ?_;rintro e w1 ⟨v,rfl,rfl,hd,hb⟩))
 have HF:Hid (BD (w1.alloc (.cells #[.pointer (some ⟨w.heap.size+2,0,none⟩)] 99)) w1.heap.size (w.heap.size+2) st0 c2z (c1O w.heap.size)/\Below w.heap.size w (w1.alloc (.cells #[.pointer (some ⟨w.heap.size+2,0,none⟩)] 99))/\(∀ b,b<w.heap.size->c1O w.heap.size b=none)/\w.heap.size<=w1.heap.size):=by
  have k:Below w1.heap.size w1 (w1.alloc (.cells #[.pointer (some ⟨w.heap.size+2,0,none⟩)] 99)):=(zr _ _).alloc (zq _) _;have hlow:∀ b,b<w.heap.size->c1O w.heap.size b=none:=fun b hb'=>by unfold c1O;rw[if_neg (by omega),if_neg (by omega),if_neg (by omega)]
  exact⟨⟨a0p w1 _,hd.dk.none (zq _),⟨hd.dk.later k,hd.of,hd.wl,hd.hl,hd.inv⟩,(HE.out.later hb).later k,fun b hb'=>hlow b (by omega)⟩,hb.trans (k.mono hb.size),hlow,hb.size⟩
 clear hd hb
 go_wp2_with fail
 exact bodyPost_ret (v:=.pointer (some ⟨w1.heap.size,0,none⟩)) (by simp[results,Tryz.results44,go_sem]) rfl ⟨_,_,_,rfl,HF.out⟩
end Go.Proofs.YtfigmlfdnickmaaGreatDoor
namespace Go.Proofs.YtfigmlfdnickmaaGreatDoor.Laid
def val:DataW Unit->Value
 |.lit (.int k n)=>.int k n
 |.lit (.string b)=>.string ⟨b.toArray⟩
 |_=>.bool false
def row:DataW Unit->List Value
 |.agg l=>l.map val
 |_=>[]
def rows:DataW Unit->List Value
 |.agg l=>l.flatMap row
 |_=>[]
def text:DataW Unit->Value
 |.iface _ (.ptr (.agg [d]))=>val d
 |_=>.bool false
def put(l:List Value):Obj->Obj
 |.cells _ t frozen=>.cells l.toArray t frozen
 |o=>o
def c6N(w:World):World :=
 { w with heap:=(((((((((w.heap.modify 1 (put (row Rows.laid_bookings_calendar_monthDays))).modify 0 (put (row Rows.laid_internal_strconv_uint64pow10))).modify 6 (put [.iface 369 (.pointer (some ⟨w.heap.size,0,none⟩))])).modify 7 (put [.iface 369 (.pointer (some ⟨w.heap.size+1,0,none⟩))])).modify 3 (put (row Rows.laid_bookings_lines_weekdays))).modify 4 (put (row Rows.laid_math_bits_deBruijn32tab))).modify 5 (put (row Rows.laid_math_bits_deBruijn64tab))).modify 8 (put (row Rows.laid_unicode_utf8_first))).modify 9 (put (rows Rows.laid_unicode_utf8_acceptRanges))).push (.cells #[text Rows.laid_strconv_ErrSyntax] 371) |>.push (.cells #[text Rows.laid_strconv_ErrRange] 371) }
end Go.Proofs.YtfigmlfdnickmaaGreatDoor.Laid
namespace Go.Proofs.YtfigmlfdnickmaaGreatDoor.datesLaw
open Go.ChangeShapes Go.WideShapes Go.ChangeAt Go.RowKit
theorem own:ownKnob Tryz.prog.godebug=none:=by kernel_rfl
theorem c5b:laidOutB Tryz.prog=true:=by kernel_rfl
theorem c3D:Tryz.prog.cellsOf 3=1:=by kernel_rfl
theorem b7n:Tryz.prog.cellsOf 9=1:=by kernel_rfl
theorem e7q:Tryz.prog.cellsOf 89=6:=by kernel_rfl
theorem six{α:Type}{l:List α}(h:l.length=6):∃ a b c d e f,l=[a,b,c,d,e,f]:=by
 match l,h with
 |[a,b,c,d,e,f],_=>exact⟨a,b,c,d,e,f,rfl⟩
end Go.Proofs.YtfigmlfdnickmaaGreatDoor.datesLaw
namespace Go.Proofs.YtfigmlfdnickmaaGreatDoor.EnvLaid
open Go.ChangeShapes Go.WideShapes Go.ChangeAt Go.RowKit
theorem b2G{P:Program}{name:String}{k:IntKind}{zs:List Int}{t e:TypeId}
  (hg:P.globalNamed name=some g) (hty:(P.globals[g]?).map (·.type)=some t) (ht:P.underlying t=some (.array n e)) (he:P.underlying e=some (.int k)) (hce:P.cellsOf e=1) (hct:P.cellsOf t=n)
  (h:Lib.VarReads P W name (Lib.tabData k zs)):Lib.TabIs P W name k zs:=by
 obtain⟨g',t',cs,fuel,p,hg',ht',hvar,hd⟩:=h;obtain rfl:=Option.some.inj (hg.symm.trans hg');obtain rfl:=Option.some.inj (hty.symm.trans ht');unfold Lib.TabIs;rw[hvar,<- Lib.cells_of_tab ht he hce hct hd]
theorem b9t{P:Program}{name:String}{zs:List (List UInt8)}{t e:TypeId}
  (hg:P.globalNamed name=some g) (hty:(P.globals[g]?).map (·.type)=some t) (ht:P.underlying t=some (.array n e)) (he:P.underlying e=some .string) (hce:P.cellsOf e=1)
  (h:Lib.VarReads P W name (.agg (zs.map fun z=>.lit (.string z)))) (i:Nat) (z:List UInt8) (hz:zs[i]?=some z):W.cell? ⟨g,i,none⟩=some (.string ⟨z.toArray⟩):=by
 obtain⟨g',t',cs,fuel,p,hg',ht',hvar,hd⟩:=h;obtain rfl:=Option.some.inj (hg.symm.trans hg');obtain rfl:=Option.some.inj (hty.symm.trans ht');obtain⟨xs,m,_,hx,_,hxl,hall⟩:=DataW.trod_array ht hd
 have hx1:zs.map (fun z=>(DataW.lit (.string z):DataW Unit))=xs.map (·.1):=by
  have:=congrArg Prod.fst hx
  simpa using this
 have hlen:zs.length=xs.length:=by
  have:=congrArg List.length hx1
  simpa using this
 have hi:i<zs.length:=(List.getElem?_eq_some_iff.1 hz).1;have hxi:xs[i]?=some xs[i]:=List.getElem?_eq_getElem (by omega);have hti:=hall i (by omega);rw[hxi,hce] at hti;obtain⟨s,hs1,hs2,_⟩:=DataW.trod_string he hti
 have h1:(xs.map (·.1))[i]?=some (DataW.lit (.string z):DataW Unit):=by rw[<- hx1];simp[hz]
 have h2:(xs.map (·.1))[i]?=some (DataW.lit (.string s.data.toList):DataW Unit):=by simp[hxi,hs2]
 have h3:z=s.data.toList:=by
  have:=h1.symm.trans h2
  simpa using this
 have h4:cs[i]?=some (.string s):=by
  have:=congrArg (·[0]?) hs1
  simpa[List.getElem?_take,List.getElem?_drop] using this
 rw[World.var?_cell hg hvar i,h4,h3]
theorem c3f:(Tryz.prog.globals[0]?).map (·.type)=some 306:=by kernel_rfl
theorem c3B:Tryz.prog.cellsOf 306=20:=by kernel_rfl
theorem c3z:Tryz.prog.cellsOf 265=1:=by kernel_rfl
theorem c6X : Tryz.prog.globalNamed "bookings/lines.weekdays" = some 3 := by kernel_rfl
theorem c0J:(Tryz.prog.globals[3]?).map (·.type)=some 352:=by kernel_rfl
theorem b8z : Tryz.prog.globalNamed "bookings/calendar.monthDays" = some 1 := by kernel_rfl
theorem c3g:(Tryz.prog.globals[1]?).map (·.type)=some 314:=by kernel_rfl
theorem c3C:Tryz.prog.cellsOf 314=12:=by kernel_rfl
theorem c6I:Tryz.prog.cellsOf 3=1:=by kernel_rfl
theorem b7n:Tryz.prog.cellsOf 9=1:=by kernel_rfl
theorem c6Y {W: World} {l: List (String × DataW Unit)} (hM : laidMet Tryz.prog l W) (hS : W.ShapedOpen Tryz.prog) (m1 : ("bookings/calendar.monthDays", Rows.laid_bookings_calendar_monthDays) ∈ l) (m2 : ("internal/strconv.uint64pow10", Rows.laid_internal_strconv_uint64pow10) ∈ l) (m3 : ("bookings/lines.weekdays", Rows.laid_bookings_lines_weekdays) ∈ l) : Env W := by
 have ht : Lib.VarReads Tryz.prog W "bookings/calendar.monthDays" (Lib.tabData .i64 [31, 28, 31, 30, 31, 30, 31, 31, 30, 31, 30, 31]) := Lib.laidMet.reads hM (d := Rows.laid_bookings_calendar_monthDays) m1;have hp : Lib.VarReads Tryz.prog W "internal/strconv.uint64pow10" (Lib.tabData .u64 Lib.pow10Tab) := Lib.laidMet.reads hM (d := Rows.laid_internal_strconv_uint64pow10) m2;have hd : Lib.VarReads Tryz.prog W "bookings/lines.weekdays" (.agg ([[109, 111], [116, 117], [119, 101], [116, 104], [102, 114], [115, 97], [115, 117]].map fun z => .lit (.string z))) := Lib.laidMet.reads hM (d := Rows.laid_bookings_lines_weekdays) m3;have day:=fun i z hz=>b9t c6X c0J Tryz.underlying352 Tryz.underlying9 b7n hd i z hz
 have tb:=b2G b8z c3g Tryz.underlying314 Tryz.underlying3 c6I c3C ht
 have hsz:10<=W.heap.size:=by
  have h0:(((begin Tryz.prog (fun _ _=>0) default).world.heap[9]?).bind Obj.row?).isSome=true:=by kernel_rfl
  obtain⟨⟨zero,t⟩,h1⟩:=Option.isSome_iff_exists.1 h0;obtain⟨cs,hh,_⟩:=hS.1 9 zero t (of_decide_eq_true (by kernel_rfl)) h1;exact (Array.getElem?_eq_some_iff.1 hh).1
 exact⟨⟨tb.cell b8z 0 (by decide),tb.cell b8z 1 (by decide),tb.cell b8z 2 (by decide),tb.cell b8z 3 (by decide),tb.cell b8z 4 (by decide),tb.cell b8z 5 (by decide),tb.cell b8z 6 (by decide),tb.cell b8z 7 (by decide),tb.cell b8z 8 (by decide),tb.cell b8z 9 (by decide),tb.cell b8z 10 (by decide),tb.cell b8z 11 (by decide)⟩,cell_of_shapedOpen_int (zero:=#[.int .i64 0]) (t:=3) hS (of_decide_eq_true (by kernel_rfl)) (by kernel_rfl) rfl (by kernel_rfl) (by kernel_rfl) Tryz.underlying3,
  b2G c6q c3f Tryz.underlying306 Tryz.underlying265 c3z c3B hp,hsz,
  day 0 _ rfl,day 1 _ rfl,day 2 _ rfl,day 3 _ rfl,day 4 _ rfl,day 5 _ rfl,day 6 _ rfl⟩
end Go.Proofs.YtfigmlfdnickmaaGreatDoor.EnvLaid
namespace Go.Proofs.YtfigmlfdnickmaaGreatDoor
open Go.RowKit
def g4X:List ByteArray:=[a1t,g3A,atW,g1M,b3z,c8M]
def g4f:List ByteArray:=[b0Y,e9O]
def g4d:List ByteArray:=[a8D,e9O,onY]
def g4e:List ByteArray:=[a8w,e9O]
def g5c:List ByteArray:=[b2z,e9O]
def g5b:List ByteArray:=[b5O,g3A]
def g4c:List (List ByteArray):=[g4f,g4d,g4e]
def ends:List (List ByteArray):=[g5c,g5b]
def g4E(H:List ByteArray):List (List ByteArray):=g4c.flatMap fun K=>ends.map fun E=>H++K++g4X++E
def g4M:List ByteArray:=[a7l,c8r,c8Z]
def g4Z:List ByteArray:=[a7M]
def e1B:List (List ByteArray):=[[a3F,c8r,c8Z],[a9P,c8r,c8Z,c7X,c7X],[b5f,c8r,c8Z,c7X,c7X,c8M],[b4k,c8r,c8Z,c7X,c7X,c8M],[a4z,idY],[a6m,idY],[a5Q,c8r],[a5Q,c8r,c7X,c7X],[a5q],[a9a,c8r,c7X,c7X],[b5h,c8r,c8Z,c8M,c7X,c7X],[b4n,c8M],[b1c]]++g4E g4M++g4E g4Z
theorem g1H:g2n=e1B:=by decide +kernel
theorem g1G:∀ p∈e1B,p≠[]:=by decide +kernel
def e7c(k:ByteArray)(p:List ByteArray):Bool:=g2B (p.headD ByteArray.empty) k
theorem e7b(h:isB ws 0 false k=true):∃ t,ws=k :: t:=by
 rw[f5u] at h;obtain⟨_,h1,h2⟩:=d7C h;have e:=f4d h2
 match ws,h1 with
 |a :: t,_=>exact⟨t,by rw[show a=k from e]⟩
theorem e3O{t:List ByteArray}(hw:Txt.a1v s=k :: t):g0V s=scan (e1B.filter (e7c k)) (Txt.a1v s) 0:=by
 unfold g0V;rw[g1H,d8j _ (e7c k) e1B 0];intro p hp hf;have hne:=g1G p hp;refine⟨?_,hne⟩
 match p,hne,hf with
 |a :: p',_,hf =>
  have e:g2B a k=false:=hf;rw[hw,pre,e];rfl
theorem st1(h:isB ws 0 false k=true)(hk:d1Z k=true)(p:List ByteArray):a0M ws (p.map g2B) (1,false)=a0M ws ((k :: p).map g2B) (0,false):=by
 have e:stp ws (g2B k) (0,false)=(1,false):=by
  obtain⟨_,h1,h2⟩:=d7C (f5u ws 0 false k ▸ h);rw[g4I k hk];exact c4A h1 h2
 show _=a0M ws (p.map g2B) (stp ws (g2B k) (0,false));rw[e]
theorem f3r(h:a0M ws (q.map g2B) (0,false)=st):Sum [q] ws st q:=by
 obtain⟨n,b⟩:=st;have hp:=e4b h;have one:∀ p∈[q],p=q:=fun p hp=>List.mem_singleton.1 hp
 refine⟨List.mem_singleton.2 rfl,fun p hp'=>by rw[one p hp'];exact Nat.le_of_eq hp,hp,fun hb p hp' e=>?_,fun hb=>⟨?_,fun p hp' hne=>absurd (one p hp') hne⟩⟩
 ·cases hb
  rw[one p hp'] at e;have:=f6K h;omega
 ·cases hb
  rw[hp];exact f4z h
theorem e8Z:∀ (Q R ws:List ByteArray),pre Q ws<=pre (Q++R) ws
 |[],_,_=>by simp[pre]
 |_ :: _,_,[]=>by simp[pre]
 |s :: Q,R,w :: ws=>by
  have:=e8Z Q R ws;simp only[List.cons_append,pre]
  split <;> omega
theorem f3t(h:a0M ws ([a5Q,c8r].map g2B) (0,false)=st)(hm:a1b ws.length st.1 st.2=false):Sum [[a5Q,c8r],[a5Q,c8r,c7X,c7X]] ws st [a5Q,c8r]:=by
 obtain⟨n,b⟩:=st;have hp:=e4b h;have hl:=(d8p [a5Q,c8r,c7X,c7X] ws).2
 have h2:pre [a5Q,c8r,c7X,c7X] ws<=n:=by
  cases b
  ·have:¬ n<ws.length:=by simpa[a1b] using hm
   omega
  ·exact Nat.le_of_eq (g1F [c7X,c7X] h)
 have hn:n<=2:=by have:=(d8p [a5Q,c8r] ws).1;rw[hp] at this;exact this
 refine⟨by simp,?_,hp,?_,?_⟩
 ·intro p hp';rcases List.mem_cons.1 hp' with rfl|hp'
  ·exact Nat.le_of_eq hp
  ·rw[List.mem_singleton.1 hp'];exact h2
 ·intro hb p hp' e
  cases hb
  have hbad:n<2:=f6K h;rcases List.mem_cons.1 hp' with rfl|hp'
  ·rw[hp] at e;exact absurd e.1 (by show ¬ n=2;omega)
  ·rw[List.mem_singleton.1 hp'] at e;exact absurd e.1 (by show ¬ _=4;omega)
 ·intro hb
  cases hb
  refine⟨hp.trans (f4z h),fun p hp' hne e=>?_⟩;rcases List.mem_cons.1 hp' with rfl|hp'
  ·exact hne rfl
  ·rw[List.mem_singleton.1 hp'] at e;exact absurd e.1 (by show ¬ _=4;omega)
theorem f3s{st':Nat × Bool}(h:a0M ws ([a5Q,c8r].map g2B) (0,false)=st)(hm:a1b ws.length st.1 st.2=true)(h':a0M ws ([a5Q,c8r,c7X,c7X].map g2B) (0,false)=st'):Sum [[a5Q,c8r],[a5Q,c8r,c7X,c7X]] ws st' [a5Q,c8r,c7X,c7X]:=by
 obtain⟨n,b⟩:=st;obtain⟨n',b'⟩:=st';have hp:=e4b h;have hp':=e4b h';have hlt:=a4q hm;have hmono:pre [a5Q,c8r] ws<=pre [a5Q,c8r,c7X,c7X] ws:=e8Z [a5Q,c8r] [c7X,c7X] ws;refine⟨by simp,?_,hp',?_,?_⟩
 ·intro p hq;rcases List.mem_cons.1 hq with rfl|hq
  ·show _<=n';omega
  ·rw[List.mem_singleton.1 hq];exact Nat.le_of_eq hp'
 ·intro hb p hq e
  cases hb
  have hbad:n'<4:=f6K h';rcases List.mem_cons.1 hq with rfl|hq
  ·have:n<ws.length:=hlt;omega
  ·rw[List.mem_singleton.1 hq] at e;have e1:pre [a5Q,c8r,c7X,c7X] ws=4:=e.1;omega
 ·intro hb
  cases hb
  refine⟨hp'.trans (f4z h'),fun p hq hne e=>?_⟩;rcases List.mem_cons.1 hq with rfl|hq
  ·have:n<ws.length:=hlt;omega
  ·exact hne (List.mem_singleton.1 hq)
theorem g2Q(h:a0M ws ((Q++s :: R).map g2B) (0,false)=(n,false))(V:ByteArray->Int):a0v ws (a0M ws (Q.map g2B) (0,false)) (g2B s) V=V (ws.getD Q.length ByteArray.empty):=by
 rw[f4n h];unfold a0v tkV;rw[if_pos (e9K h)]
theorem g3w(h:a0M ws ((Q++s :: R).map g2B) (0,false)=(n,false)):g2B s (ws.getD Q.length ByteArray.empty)=true:=(d7C (e9K h)).2.2
theorem f0D(h:isB ws 0 false k=true)(hk:d1Z k=true)(hall:a0M ws ((k :: (Q++s :: R)).map g2B) (0,false)=(n,false))(V:ByteArray->Int):a0v ws (a0M ws (Q.map g2B) (1,false)) (g2B s) V=V (ws.getD (Q.length+1) ByteArray.empty):=by
 rw[st1 h hk];exact g2Q (Q:=k :: Q) hall V
theorem e9L(Q:List ByteArray)(hall:a0M ws ((k :: (Q++s :: R)).map g2B) (0,false)=(n,false)):g2B s (ws.getD (Q.length+1) ByteArray.empty)=true:=g3w (Q:=k :: Q) hall
theorem f1t(hall:a0M ws ((k :: c8r :: R).map g2B) (0,false)=(n,false)):a2F ws (1,false)=ws.getD 1 ByteArray.empty:=by
 have h:=e9K (Q:=[k]) (s:=c8r) (R:=R) hall;rw[d9O] at h;have h2:=(d7C h).2.2;unfold a2F tkS;rw[if_pos (show tkB ws 1 false (fun s=>Txt.a1j s.data.toList)=true from h)];exact g3f h2
structure Full(s:ByteArray)(p:List ByteArray):Prop where
 sc:g0V s=(some p,0)
 all:a0M (Txt.a1v s) (p.map g2B) (0,false)=(p.length,false)
 len:(Txt.a1v s).length=p.length
theorem e7e(h:isB (Txt.a1v s) 0 false k=true)(hf:e1B.filter (e7c k)=ps)(hS:Sum ps (Txt.a1v s) st q)(hst:a0M (Txt.a1v s) (q.map g2B) (0,false)=st)(h2:st.2=false)(hm:a1b (Txt.a1v s).length st.1 st.2=false):Full s q:=by
 obtain⟨t,ht⟩:=e7b h;obtain⟨n,b⟩:=st;have hl:=hS.at_;have hp:=(d8p q (Txt.a1v s)).2;have hn:¬ n<(Txt.a1v s).length:=by simpa[a1b,show b=false from h2] using hm
 have h2':b=false:=h2;subst h2';have hok:=f4z hst;refine⟨(e3O ht).trans (by rw[hf];exact hS.yes rfl hm),by rw[hst,hok],?_⟩;have:pre q (Txt.a1v s)=n:=hl;omega
theorem e6O(h:isB (Txt.a1v s) 0 false k=true)(hf:e1B.filter (e7c k)=ps)(hS:Sum ps (Txt.a1v s) st q)(hb:st.2=true\/a1b (Txt.a1v s).length st.1 st.2=true):g0V s=(none,st.1):=by
 obtain⟨t,ht⟩:=e7b h;rw[e3O ht,hf];exact hS.no hb
theorem g3s(h:isB ws 0 false k=true):ws.getD 0 ByteArray.empty=k:=by
 obtain⟨t,ht⟩:=e7b h;rw[ht];rfl
def f2K(s:ByteArray)(st:Nat × Bool):Prop:=st.2=true\/a1b (Txt.a1v s).length st.1 st.2=true->g0V s=(none,st.1)
inductive e2P (ws:List ByteArray):List ByteArray->Desk.a7U->Prop where
 |a0k:e2P ws [a3F,c8r,c8Z] (.a0k (ws.getD 1 ByteArray.empty) (b4g (ws.getD 2 ByteArray.empty) 1 7))
 |book:e2P ws [a9P,c8r,c8Z,c7X,c7X] (.enter 1 (ws.getD 1 ByteArray.empty) (b4g (ws.getD 2 ByteArray.empty) 1 7) (g2T (ws.getD 3 ByteArray.empty)) (g2T (ws.getD 4 ByteArray.empty)) 0)
 |hold:e2P ws [b5f,c8r,c8Z,c7X,c7X,c8M] (.enter 2 (ws.getD 1 ByteArray.empty) (b4g (ws.getD 2 ByteArray.empty) 1 7) (g2T (ws.getD 3 ByteArray.empty)) (g2T (ws.getD 4 ByteArray.empty)) (b4g (ws.getD 5 ByteArray.empty) 1 7))
 |wait:e2P ws [b4k,c8r,c8Z,c7X,c7X,c8M] (.enter 3 (ws.getD 1 ByteArray.empty) (b4g (ws.getD 2 ByteArray.empty) 1 7) (g2T (ws.getD 3 ByteArray.empty)) (g2T (ws.getD 4 ByteArray.empty)) (b4g (ws.getD 5 ByteArray.empty) 1 7))
 |confirm:e2P ws [a4z,idY] (.confirm (b4g (ws.getD 1 ByteArray.empty) 1 7))
 |cancel:e2P ws [a6m,idY] (.cancel (b4g (ws.getD 1 ByteArray.empty) 1 7))
 |list0:e2P ws [a5Q,c8r] (.list (ws.getD 1 ByteArray.empty) 0 1048320)
 |list1:e2P ws [a5Q,c8r,c7X,c7X] (.list (ws.getD 1 ByteArray.empty) (g2T (ws.getD 2 ByteArray.empty)) (g2T (ws.getD 3 ByteArray.empty)))
 |peak:e2P ws [a9a,c8r,c7X,c7X] (.peak (ws.getD 1 ByteArray.empty) (g2T (ws.getD 2 ByteArray.empty)) (g2T (ws.getD 3 ByteArray.empty)))
 |find:e2P ws [b5h,c8r,c8Z,c8M,c7X,c7X] (.find (ws.getD 1 ByteArray.empty) (b4g (ws.getD 2 ByteArray.empty) 1 7) (b4g (ws.getD 3 ByteArray.empty) 1 7) (g2T (ws.getD 4 ByteArray.empty)) (g2T (ws.getD 5 ByteArray.empty)))
 |tick:e2P ws [b4n,c8M] (.tick (b4g (ws.getD 1 ByteArray.empty) 1 7))
 |waiting:e2P ws [a5q] .waiting
 |clock:e2P ws [b1c] .clock
def g0a(s:ByteArray)(v:Value)(st:Nat × Bool):Prop:=f2K s st/\(st.2=false->a1b (Txt.a1v s).length st.1 st.2=false->∃ q l,Full s q/\e2P (Txt.a1v s) q l/\LV v l/\Desk.a1O l)
theorem d6S(h:a0n x=true):g2T x=a1J x:=by unfold g2T a1J;rw[if_pos h,if_pos h]
theorem g4i(h:unB x=true):b4g x 1 7=nvF x:=f4T (d9V h).1
theorem g4W(h:miB x=true):b4g x 1 7=nvF x:=f4T (d9V h).1
theorem d4u(h:isB (Txt.a1v s) 0 false k=true)(hf:e1B.filter (e7c k)=[q])(hst:a0M (Txt.a1v s) (q.map g2B) (0,false)=st):f2K s st/\(st.2=false->a1b (Txt.a1v s).length st.1 st.2=false->Full s q) :=
 ⟨e6O h hf (f3r hst),e7e h hf (f3r hst) hst⟩
theorem f1s{q0:ByteArray}(hF:Full s (q0 :: c8r :: R)):((Txt.a1v s).getD 1 ByteArray.empty).size<=1000:=by
 have h:=e9L [] hF.all;rw[d9O] at h;exact a4o h
theorem f3k(h:isB (Txt.a1v s) 0 false a3F=true):g0a s (.iface 149 (.agg #[.string (a2F (Txt.a1v s) (1,false)),.int .i64 (a0v (Txt.a1v s) (a0M (Txt.a1v s) [nmB] (1,false)) unB nvF)])) (a0M (Txt.a1v s) [nmB,unB] (1,false)):=by
 have hk:d1Z a3F=true:=by decide +kernel
 have K:=d4u (q:=[a3F,c8r,c8Z]) h (by decide +kernel) (by rw[<- st1 h hk]);simp only[List.map,d9O,f5O] at K;refine⟨K.1,fun h2 hm=>⟨_,_,K.2 h2 hm,.a0k,?_⟩⟩;have hF:=K.2 h2 hm;have v1:=f0D (Q:=[c8r]) (s:=c8Z) (R:=[]) h hk hF.all nvF;have f1:=e9L [c8r] (s:=c8Z) (R:=[]) hF.all;simp only[List.map,List.length,d9O,f5O] at v1 f1;rw[f1t hF.all,v1,g4i f1];exact⟨.a0k _ (f1s hF) _,b7G f1⟩
theorem f9J(h:isB (Txt.a1v s) 0 false a9P=true):g0a s (.iface 154 (.agg #[.string (a2F (Txt.a1v s) (1,false)),.int .i64 (a0v (Txt.a1v s) (a0M (Txt.a1v s) [nmB] (1,false)) unB nvF),.int .i64 (a0v (Txt.a1v s) (a0M (Txt.a1v s) [nmB,unB] (1,false)) a0n a1J),.int .i64 (a0v (Txt.a1v s) (a0M (Txt.a1v s) [nmB,unB,a0n] (1,false)) a0n a1J)])) (a0M (Txt.a1v s) [nmB,unB,a0n,a0n] (1,false)):=by
 have hk:d1Z a9P=true:=by decide +kernel
 have K:=d4u (q:=[a9P,c8r,c8Z,c7X,c7X]) h (by decide +kernel) (by rw[<- st1 h hk]);simp only[List.map,d9O,f5O,f2N] at K;refine⟨K.1,fun h2 hm=>⟨_,_,K.2 h2 hm,.book,?_⟩⟩;have hF:=K.2 h2 hm;have v1:=f0D (Q:=[c8r]) (s:=c8Z) (R:=[c7X,c7X]) h hk hF.all nvF;have f1:=e9L [c8r] (s:=c8Z) (R:=[c7X,c7X]) hF.all;simp only[List.map,List.length,d9O,f5O] at v1 f1;have v2:=f0D (Q:=[c8r,c8Z]) (s:=c7X) (R:=[c7X]) h hk hF.all a1J;have f2:=e9L [c8r,c8Z] (s:=c7X) (R:=[c7X]) hF.all;simp only[List.map,List.length,d9O,f5O,f2N] at v2 f2;have v3:=f0D (Q:=[c8r,c8Z,c7X]) (s:=c7X) (R:=[]) h hk hF.all a1J;have f3:=e9L [c8r,c8Z,c7X] (s:=c7X) (R:=[]) hF.all;simp only[List.map,List.length,d9O,f5O,f2N] at v3 f3;rw[f1t hF.all,v1,v2,v3,g4i f1,d6S f2,d6S f3];exact⟨.book _ (f1s hF) _ _ _,⟨.inl ⟨rfl,rfl⟩,(b7G f1).1,(b7G f1).2,(a2Y f2).1,(a2Y f2).2,(a2Y f3).1,(a2Y f3).2⟩⟩
theorem f2y(h:isB (Txt.a1v s) 0 false a6m=true):g0a s (.iface 168 (.agg #[.int .i64 (a0v (Txt.a1v s) (1,false) idB nvF)])) (a0M (Txt.a1v s) [idB] (1,false)):=by
 have hk:d1Z a6m=true:=by decide +kernel
 have K:=d4u (q:=[a6m,idY]) h (by decide +kernel) (by rw[<- st1 h hk]);simp only[List.map,g4J] at K;refine⟨K.1,fun h2 hm=>⟨_,_,K.2 h2 hm,.cancel,?_⟩⟩;have hF:=K.2 h2 hm;have v0:=f0D (Q:=[]) (s:=idY) (R:=[]) h hk hF.all nvF;have f0:=e9L [] (s:=idY) (R:=[]) hF.all;simp only[List.map,List.length,a6y,g4J] at v0 f0;rw[v0,f4T f0];exact⟨.cancel _,c6p _⟩
theorem f8w(h:isB (Txt.a1v s) 0 false a9a=true):g0a s (.iface 176 (.agg #[.string (a2F (Txt.a1v s) (1,false)),.int .i64 (a0v (Txt.a1v s) (a0M (Txt.a1v s) [nmB] (1,false)) a0n a1J),.int .i64 (a0v (Txt.a1v s) (a0M (Txt.a1v s) [nmB,a0n] (1,false)) a0n a1J)])) (a0M (Txt.a1v s) [nmB,a0n,a0n] (1,false)):=by
 have hk:d1Z a9a=true:=by decide +kernel
 have K:=d4u (q:=[a9a,c8r,c7X,c7X]) h (by decide +kernel) (by rw[<- st1 h hk]);simp only[List.map,d9O,f2N] at K;refine⟨K.1,fun h2 hm=>⟨_,_,K.2 h2 hm,.peak,?_⟩⟩;have hF:=K.2 h2 hm;have v1:=f0D (Q:=[c8r]) (s:=c7X) (R:=[c7X]) h hk hF.all a1J;have f1:=e9L [c8r] (s:=c7X) (R:=[c7X]) hF.all;simp only[List.map,List.length,d9O,f2N] at v1 f1;have v2:=f0D (Q:=[c8r,c7X]) (s:=c7X) (R:=[]) h hk hF.all a1J;have f2:=e9L [c8r,c7X] (s:=c7X) (R:=[]) hF.all;simp only[List.map,List.length,d9O,f2N] at v2 f2;rw[f1t hF.all,v1,v2,d6S f1,d6S f2];exact⟨.peak _ (f1s hF) _ _,⟨(a2Y f1).1,(a2Y f1).2,(a2Y f2).1,(a2Y f2).2⟩⟩
theorem f9g(h:isB (Txt.a1v s) 0 false b5h=true):g0a s (.iface 178 (.agg #[.string (a2F (Txt.a1v s) (1,false)),.int .i64 (a0v (Txt.a1v s) (a0M (Txt.a1v s) [nmB] (1,false)) unB nvF),.int .i64 (a0v (Txt.a1v s) (a0M (Txt.a1v s) [nmB,unB] (1,false)) miB nvF),.int .i64 (a0v (Txt.a1v s) (a0M (Txt.a1v s) [nmB,unB,miB] (1,false)) a0n a1J),.int .i64 (a0v (Txt.a1v s) (a0M (Txt.a1v s) [nmB,unB,miB,a0n] (1,false)) a0n a1J)])) (a0M (Txt.a1v s) [nmB,unB,miB,a0n,a0n] (1,false)):=by
 have hk:d1Z b5h=true:=by decide +kernel
 have K:=d4u (q:=[b5h,c8r,c8Z,c8M,c7X,c7X]) h (by decide +kernel) (by rw[<- st1 h hk]);simp only[List.map,d9O,f5O,f9f,f2N] at K;refine⟨K.1,fun h2 hm=>⟨_,_,K.2 h2 hm,.find,?_⟩⟩;have hF:=K.2 h2 hm;have v1:=f0D (Q:=[c8r]) (s:=c8Z) (R:=[c8M,c7X,c7X]) h hk hF.all nvF;have f1:=e9L [c8r] (s:=c8Z) (R:=[c8M,c7X,c7X]) hF.all;simp only[List.map,List.length,d9O,f5O] at v1 f1;have v2:=f0D (Q:=[c8r,c8Z]) (s:=c8M) (R:=[c7X,c7X]) h hk hF.all nvF;have f2:=e9L [c8r,c8Z] (s:=c8M) (R:=[c7X,c7X]) hF.all;simp only[List.map,List.length,d9O,f5O,f9f] at v2 f2;have v3:=f0D (Q:=[c8r,c8Z,c8M]) (s:=c7X) (R:=[c7X]) h hk hF.all a1J;have f3:=e9L [c8r,c8Z,c8M] (s:=c7X) (R:=[c7X]) hF.all;simp only[List.map,List.length,d9O,f5O,f9f,f2N] at v3 f3;have v4:=f0D (Q:=[c8r,c8Z,c8M,c7X]) (s:=c7X) (R:=[]) h hk hF.all a1J;have f4:=e9L [c8r,c8Z,c8M,c7X] (s:=c7X) (R:=[]) hF.all;simp only[List.map,List.length,d9O,f5O,f9f,f2N] at v4 f4;rw[f1t hF.all,v1,v2,v3,v4,g4i f1,g4W f2,d6S f3,d6S f4];exact⟨.find _ (f1s hF) _ _ _ _,⟨(b7G f1).1,(b7G f1).2,(c0p f2).1,(c0p f2).2,(a2Y f3).1,(a2Y f3).2,(a2Y f4).1,(a2Y f4).2⟩⟩
theorem f6s(h:isB (Txt.a1v s) 0 false b1c=true):g0a s (.iface 183 (.agg #[])) (1,false):=by
 have hk:d1Z b1c=true:=by decide +kernel
 have K:=d4u (q:=[b1c]) h (by decide +kernel) (by rw[<- st1 h hk]);refine⟨K.1,fun h2 hm=>⟨_,_,K.2 h2 hm,.clock,?_⟩⟩;exact⟨.clock,trivial⟩
theorem f5m(h:isB (Txt.a1v s) 0 false a5Q=true)(hl:a1b (Txt.a1v s).length (a0M (Txt.a1v s) [nmB] (1,false)).1 (a0M (Txt.a1v s) [nmB] (1,false)).2=false):g0a s (.iface 170 (.agg #[.string (a2F (Txt.a1v s) (1,false)),.bool false,.int .i64 0,.int .i64 0])) (a0M (Txt.a1v s) [nmB] (1,false)):=by
 have hk:d1Z a5Q=true:=by decide +kernel
 have hf:e1B.filter (e7c a5Q)=[[a5Q,c8r],[a5Q,c8r,c7X,c7X]]:=by decide +kernel
 have hst:a0M (Txt.a1v s) ([a5Q,c8r].map g2B) (0,false)=a0M (Txt.a1v s) [nmB] (1,false):=by rw[<- st1 h hk];simp only[List.map,d9O]
 have hS:=f3t hst hl;have hq:=hst;have K:f2K s _/\(_->_->Full s _):=⟨e6O h hf hS,e7e h hf hS hq⟩;refine⟨K.1,fun h2 hm=>⟨_,_,K.2 h2 hm,.list0,?_⟩⟩;have hF:=K.2 h2 hm;rw[f1t hF.all];exact⟨.list _ (f1s hF) false 0 0 0 1048320 rfl rfl,⟨by omega,by omega,by omega,by omega⟩⟩
theorem f5l(h:isB (Txt.a1v s) 0 false a5Q=true)(hl:a1b (Txt.a1v s).length (a0M (Txt.a1v s) [nmB] (1,false)).1 (a0M (Txt.a1v s) [nmB] (1,false)).2=true):g0a s (.iface 170 (.agg #[.string (a2F (Txt.a1v s) (1,false)),.bool true,.int .i64 (a0v (Txt.a1v s) (a0M (Txt.a1v s) [nmB] (1,false)) a0n a1J),.int .i64 (a0v (Txt.a1v s) (a0M (Txt.a1v s) [nmB,a0n] (1,false)) a0n a1J)])) (a0M (Txt.a1v s) [nmB,a0n,a0n] (1,false)):=by
 have hk:d1Z a5Q=true:=by decide +kernel
 have hf:e1B.filter (e7c a5Q)=[[a5Q,c8r],[a5Q,c8r,c7X,c7X]]:=by decide +kernel
 have hst:a0M (Txt.a1v s) ([a5Q,c8r].map g2B) (0,false)=a0M (Txt.a1v s) [nmB] (1,false):=by rw[<- st1 h hk];simp only[List.map,d9O]
 have hq:a0M (Txt.a1v s) ([a5Q,c8r,c7X,c7X].map g2B) (0,false)=a0M (Txt.a1v s) [nmB,a0n,a0n] (1,false):=by rw[<- st1 h hk];simp only[List.map,d9O,f2N]
 have hS:=f3s hst hl hq;have K:f2K s _/\(_->_->Full s _):=⟨e6O h hf hS,e7e h hf hS hq⟩;refine⟨K.1,fun h2 hm=>⟨_,_,K.2 h2 hm,.list1,?_⟩⟩;have hF:=K.2 h2 hm;have v1:=f0D (Q:=[c8r]) (s:=c7X) (R:=[c7X]) h hk hF.all a1J;have f1:=e9L [c8r] (s:=c7X) (R:=[c7X]) hF.all;simp only[List.map,List.length,d9O,f2N] at v1 f1;have v2:=f0D (Q:=[c8r,c7X]) (s:=c7X) (R:=[]) h hk hF.all a1J;have f2:=e9L [c8r,c7X] (s:=c7X) (R:=[]) hF.all;simp only[List.map,List.length,d9O,f2N] at v2 f2;rw[f1t hF.all,v1,v2,d6S f1,d6S f2];exact⟨.list _ (f1s hF) true _ _ _ _ rfl rfl,⟨(a2Y f1).1,(a2Y f1).2,(a2Y f2).1,(a2Y f2).2⟩⟩
def g1X:Desk.a7U->Bool
 |.a0k ..=>true
 |.enter k ..=>k==1
 |.cancel ..=>true
 |.list ..=>true
 |.peak ..=>true
 |.find ..=>true
 |.clock=>true
 |_=>false
namespace Desk
theorem f2g{s:St}(h:Inv s){l:a7U}(hl:a1O l)(hf:g1X l=true):Mid (a0g s l).1:=by
 cases l with
 |a0k name u =>
  simp only[a0g]
  split
  ·exact h.mid
  ·split
   ·exact h.mid
   ·rename_i c1 c2
    exact (h.a0k hl (by simpa using c1) c2).mid
 |enter k name u fr til long =>
  obtain rfl:k=1:=by simpa[g1X] using hf
  simp only[a0g]
  split
  ·exact h.mid
  ·rename_i c
   simp only[ne_eq,Decidable.not_not] at c;unfold a1M at c
   split at c
   ·omega
   ·rename_i c1
    simp only[ne_eq,Decidable.not_not] at c1
    split at c
    ·omega
    ·rename_i c2
     split at c
     ·omega
     ·rename_i c3
      obtain⟨_,l1,l2,l3,l4,l5,l6⟩:=hl;have n0:=h.n0;refine h.join c3 ⟨l1,l2,by simp[a8p],by simp[a8p],fun s hs=>?_,by simp[a8p,a2c],.inl ⟨rfl,by simp[a8p]⟩⟩ (b3T c1).2 (fun hk=>absurd hk (by show ¬ (1:Int)=3;omega)) (fun _=>?_)
      ·have:s=(fr,til):=by simpa[a8p] using hs
       subst this;show 0<=fr/\fr<til/\til<=1048320;omega
      ·rw[if_neg (by omega)] at c;show a1e s.ts s.es name u [(fr,til)]=true
       split at c
       ·assumption
       ·omega
 |cancel id =>
  simp only[a0g]
  cases hf:a5S id s.es with
  |none=>exact h.mid
  |some e =>
   exact h.mid.filter (now':=s.now) (fun e=>e.id != id) (Int.le_refl _) h.n1 (fun z hz _ hk=>by
    rcases (h.en z hz).kd with kd|⟨_,k2,_⟩
    ·exact absurd kd.1 hk
    ·exact k2)
 |clock=>exact h.mid
 |list|peak|find=>simp only[a0g];split <;> (try split) <;> exact h.mid
 |_=>cases hf
theorem g8T{s:St}(h:Inv s){l:a7U}(hl:a1O l)(hf:g1X l=true):Inv (a1q s l).1:=by
 unfold a1q
 split
 ·rename_i c
  rw[b7g c];exact h
 ·exact a9t (f2g h hl hf)
theorem e4L(s:St){l:a7U}(hf:g1X l=true):(a0g s l).2.granted=[]:=by
 cases l with
 |a0k|list|peak|find|cancel=>simp only[a0g];split <;> (try split) <;> rfl
 |enter=>simp only[a0g,a2t];split <;> rfl
 |clock=>rfl
 |_=>cases hf
theorem g5P(s:St){l:a7U}(hf:g1X l=true):(a0g s l).2.days=[]/\(a0g s l).2.ended=[]/\((a0g s l).2.err≠0->(a0g s l).2.entries=[])/\((a0g s l).2.entries=[]\/∃ name fr til,(a0g s l).2.entries=a2x name fr til s.es):=by
 cases l with
 |list name fr til =>
  simp only[a0g]
  split
  ·exact⟨rfl,rfl,fun _=>rfl,.inl rfl⟩
  ·split
   ·exact⟨rfl,rfl,fun _=>rfl,.inl rfl⟩
   ·exact⟨rfl,rfl,fun e=>absurd rfl e,.inr ⟨name,fr,til,rfl⟩⟩
 |a0k|peak|find|cancel=>simp only[a0g];split <;> (try split) <;> exact⟨rfl,rfl,fun _=>rfl,.inl rfl⟩
 |enter=>simp only[a0g,a2t];split <;> exact⟨rfl,rfl,fun _=>rfl,.inl rfl⟩
 |clock=>exact⟨rfl,rfl,fun _=>rfl,.inl rfl⟩
 |_=>cases hf
structure h0u(s:St)(r:Rep):Prop where
 en:r.entries.length<=60
 es:∀ e∈r.entries,e∈s.es
 da:r.days=[]
 gr:r.granted.length<=60
 ed:r.ended=[]
 er:r.err≠0->r.entries=[]/\r.granted=[]
theorem g1y{s:St}(h:Inv s){l:a7U}(hl:a1O l)(hf:g1X l=true):h0u s (a1q s l).2:=by
 obtain⟨t1,t2,t3,t4⟩:=g5P s hf;have t5:=e4L s hf
 have en:(a0g s l).2.entries.length<=60/\∀ e∈(a0g s l).2.entries,e∈s.es:=by
  rcases t4 with e|⟨name,fr,til,e⟩
  ·rw[e];simp
  ·rw[e];refine⟨?_,fun e he=>(List.mem_filter.1 (a4U.1 he)).1⟩;have h1:=a1x h.mid;have h2:=(a3Y (a:=fr) (b:=til) (s.es.filter (b7U name fr til))).length_eq;have h3:=List.length_filter_le (b7U name fr til) s.es;unfold a2x;omega
 unfold a1q
 split
 ·rename_i c
  exact⟨en.1,en.2,t1,by rw[t5];simp,t2,fun _=>⟨t3 c,t5⟩⟩
 ·rename_i c
  refine⟨en.1,en.2,t1,?_,t2,fun e=>absurd e c⟩;have h3:=b8x (a0g s l).1.ts (a0g s l).1.es;have h4:=a1x (f2g h hl hf);show ((a0g s l).2.granted++_).length<=60;rw[t5,List.nil_append];omega
end Desk
end Go.Proofs.YtfigmlfdnickmaaGreatDoor
